import PyProof.Rows.All
import Wide.All
import OpenK.AllK
import Wide.FinOn
import Lean
import PyProof.EqAt
import PyProof.EqKinds
import PyProof.NeKinds
import PyProof.TupleCall
import KE.KDictSum
import KE.KSortTup
import KE.KRevIter
import KE.KRevSl
import PySem.Challenge.RW_stakefield_k13_the_same_field
set_option Elab.async false
set_option linter.all false
set_option maxRecDepth 100000
namespace L2
open PySem PySem.Spec PyProof.Rows
abbrev Key:=Sum Int Str
def oV:Key→Value→Bool
 | .inl k,v=> Value.isInt k v
 | .inr x,v=> Value.isStrOf x v
def sF (w:World):Key→Int
 | .inl k=> hashInt k
 | .inr x=> hashStr w x
theorem aT:∀ {k:Key} {v:Value},oV k v=true→(∃ i t,k=Sum.inl i∧v=Value.int i t)∨(∃ x t,k=Sum.inr x∧v=Value.str x t)
 | .inl i,v,h=> by
  obtain ⟨t,e⟩:=Value.isInt_shape (k:=i) (v:=v) h
  exact .inl ⟨i,t,rfl,e⟩
 | .inr x,v,h=> by
  obtain ⟨t,e⟩:=Value.isStrOf_shape (x:=x) (v:=v) h
  exact .inr ⟨x,t,rfl,e⟩
theorem pI (a b:Int):decide ((Sum.inl a:Key)=Sum.inl b)=(a==b):=by
 by_cases e:a=b
 ·subst e; simp
 ·have h:¬ (Sum.inl a:Key)=Sum.inl b:=fun q=> e (Sum.inl.inj q)
  rw [decide_eq_false h]
  exact (beq_eq_false_iff_ne.mpr e).symm
theorem ph (a b:Str):decide ((Sum.inr a:Key)=Sum.inr b)=decide (a=b):=by
 by_cases e:a=b
 ·subst e; simp
 ·have h:¬ (Sum.inr a:Key)=Sum.inr b:=fun q=> e (Sum.inr.inj q)
  rw [decide_eq_false h,decide_eq_false e]
theorem qc (a:Int) (b:Str):decide ((Sum.inl a:Key)=Sum.inr b)=false:=decide_eq_false (fun q=> nomatch q)
theorem pf (a:Str) (b:Int):decide ((Sum.inr a:Key)=Sum.inl b)=false:=decide_eq_false (fun q=> nomatch q)
def jI (prog:Program) (w:World):PySem.KeyKind prog w Key where
 is:=oV
 hash:=sF w
 inj:=fun v a b ha hb=> by
  rcases aT ha with ⟨i,t,rfl,rfl⟩ | ⟨x,t,rfl,rfl⟩
  ·rcases aT hb with ⟨j,u,rfl,e⟩ | ⟨y,u,rfl,e⟩
   ·injection e with e1 _; rw [e1]
   ·exact nomatch e
  ·rcases aT hb with ⟨j,u,rfl,e⟩ | ⟨y,u,rfl,e⟩
   ·exact nomatch e
   ·injection e with e1 _; rw [e1]
 byValue:=fun k v h=> by
  rcases aT h with ⟨i,t,rfl,rfl⟩ | ⟨x,t,rfl,rfl⟩ <;> rfl
 pyHash:=fun hv h=> by
  rcases aT hv with ⟨i,t,rfl,rfl⟩ | ⟨x,t,rfl,rfl⟩
  ·exact wpAny_pyHash_int h
  ·exact wpAny_pyHash_str h
 eqBool:=fun hu hv h=> by
  rcases aT hu with ⟨i,t,rfl,rfl⟩ | ⟨x,t,rfl,rfl⟩
  ·rcases aT hv with ⟨j,u,rfl,rfl⟩ | ⟨y,u,rfl,rfl⟩
   ·rw [pI] at h; exact wpAny_eqBool_int h
   ·rw [qc] at h; exact SeqAt.EqAt.int_str i t y u _ _ _ _ h
  ·rcases aT hv with ⟨j,u,rfl,rfl⟩ | ⟨y,u,rfl,rfl⟩
   ·rw [pf] at h; exact SeqAt.EqAt.str_int x t j u _ _ _ _ h
   ·rw [ph] at h; exact wpAny_eqBool_str h
 «strs»:=fun k x t v h=> by
  rcases aT h with ⟨i,u,rfl,e⟩ | ⟨y,u,rfl,e⟩
  ·exact nomatch e
  ·injection e with e1 _
   subst e1
   cases v <;> rfl
end L2
namespace L2
open PySem PySem.Spec PyProof.Rows
inductive V where
 | non | bl (b:Bool) | int (i:Int) | str (x:Str) | byt (b:Array UInt8) | flt (b:UInt64) | ref (a:Addr) | ty (n:String)
 deriving DecidableEq
def aL:V→Value→Prop
 | .non,u=> u=Value.none
 | .bl b,u=> u=Value.bool b
 | .int i,u=> ∃ t,u=Value.int i t
 | .str x,u=> ∃ t,u=Value.str x t
 | .byt b,u=> ∃ t,u=Value.bytes b t
 | .flt b,u=> ∃ t,u=Value.float b t
 | .ref a,u=> u=Value.ref a
 | .ty n,u=> u=Value.type n
abbrev av:List V→List Value→Prop:=Paired aL
theorem av.length {xs:List V} {us:List Value} (r:av xs us):xs.length=us.length:=Paired.length r
theorem av.get:∀ {xs:List V} {us:List Value} {i:Nat} {x:V},av xs us→xs[i]?=some x→∃ u,us[i]?=some u∧aL x u
 | _,_,_,_,.nil,e=> by simp at e
 | _,_,0,_,.cons r _,e=> by simp at e; subst e; exact ⟨_,rfl,r⟩
 | _,_,i+1,x,.cons _ t,e=> by
  obtain ⟨u,h1,h2⟩:=av.get (i:=i) (x:=x) t (by simpa using e)
  exact ⟨u,by simpa using h1,h2⟩
theorem av.set {x:V} {u:Value} (r:aL x u):∀ {xs:List V} {us:List Value} (i:Nat),av xs us→av (xs.set i x) (us.set i u)
 | _,_,_,.nil=> .nil
 | _,_,0,.cons _ t=> .cons r t
 | _,_,i+1,.cons q t=> .cons q (av.set r i t)
theorem av.append:∀ {xs ys:List V} {us ws:List Value},av xs us→av ys ws→av (xs++ys) (us++ws)
 | _,_,_,_,.nil,s=> s
 | _,_,_,_,.cons r t,s=> .cons r (av.append t s)
theorem av.take:∀ {xs:List V} {us:List Value} (n:Nat),av xs us→av (xs.take n) (us.take n)
 | _,_,0,_=> .nil
 | _,_,_+1,.nil=> .nil
 | _,_,n+1,.cons r t=> .cons r (av.take n t)
theorem av.drop:∀ {xs:List V} {us:List Value} (n:Nat),av xs us→av (xs.drop n) (us.drop n)
 | _,_,0,r=> r
 | _,_,_+1,.nil=> .nil
 | _,_,n+1,.cons _ t=> av.drop n t
def qa:Option V→Option Value→Prop
 | some v,some u=> aL v u
 | none,none=> True
 | _,_=> False
def KV {κ:Type}:List (κ×V)→List (κ×Value)→Prop:=Paired fun (p:κ×V) (q:κ×Value)=> p.1=q.1∧aL p.2 q.2
def kV:Key→V
 | .inl i=> .int i
 | .inr x=> .str x
inductive HO where
 /-- a list -/
 | lst (xs:List V)
 /-- a tuple (never changes) -/
 | tup (xs:List V)
 /-- a dict whose keys are ints and texts; one whose keys are tuples of ints and texts (the empty one is both) -/
 | dK (kvs:List (Key×V)) | dT (kvs:List (List Key×V))
 /-- a set of ints:its members,its size -/
 | set (S:Int→Bool) (n:Nat)
 /-- an instance of the class at C,its dict at dx,its attributes -/
 | ins (C dx:Addr) (fs:List (Str×V))
 /-- the dict of the instance at x -/
 | own (x:Addr)
 /-- the dict of an exception -/
 | xd (fs:List (Str×V))
 /-- a bound method,f of x -/
 | met (f x:Addr)
 /-- a range object lo,lo+1,.. below hi -/
 | rng (lo hi:Int)
 /-- a thing that is known to the object (the script; a dict while a loop walks it):read,never written while it is so -/
 | frz (o:Obj) (u:HO)
 /-- a code object's table -/
 | tbl (ps:Array Value)
 /-- any other thing,by what is true of its one object (a def of one's own:SetO a S n:=HO.ext fun h=> ..) -/
 | ext (φ:Heap→Prop)
abbrev Hp:=Addr→Option HO
def upd (H:Hp) (a:Addr) (o:HO):Hp:=fun b=> if b=a then some o else H b
theorem aS {H:Hp} {a:Addr} {o:HO}:upd H a o a=some o:=by unfold upd; rw [if_pos rfl]
theorem ba {H:Hp} {a b:Addr} {o:HO} (h:b≠a):upd H a o b=H b:=by unfold upd; rw [if_neg h]
theorem bL {H:Hp} {a b:Addr} {o:HO} (h:H a=some o) (h':H b=none):a≠b:=by
 intro e; subst e; rw [h] at h'; cases h'
section
variable (P:Program) (w:World)
def bN (H:Hp) (h:Heap) (a:Addr):HO→Prop
 | .lst xs=> xs.length≤sizeLine∧∃ (its:List Value) (n:Nat),av xs its∧h.get? a=some { cls:=.type "list",data:=.seq its.toArray n }
 | .tup xs=> xs.length≤sizeLine∧∃ its:List Value,av xs its∧IsTup h a its.toArray
 | .dK kvs=> kvs.length≤sizeLine∧(a==sysModules)=false∧∃ vs,KV kvs vs∧h.DictOf (jI P w) a vs
 | .dT kvs=> kvs.length≤sizeLine∧(a==sysModules)=false∧∃ xs:List (List Key×Addr×Value),
   Paired (fun (p:List Key×V) (q:List Key×Addr×Value)=> p.1=q.1∧H q.2.1=some (.tup (p.1.map kV))∧aL p.2 q.2.2) kvs xs∧
   ∃ o es ep,h.get? a=some o∧o.ExactDict∧o.data=.dict es ep∧es.toList=xs.map (entryOfKey (tupleKind (jI P w)))∧(xs.map (·.1)).Nodup
 | .set S n=> h.SetOf (intKind P w) a S n
 | .ins C dx fs=> H dx=some (.own a)∧fs.length≤1000∧dx≠a∧h.get? a=some (PySem.W.instObj C dx)∧
   ∃ mA,h.Ns1 dx mA∧(∀ f,qa (fs.lookup f) (mA f))∧PySem.Within mA (fs.map (·.1))
 | .own _=> ∃ o,h.get? a=some o
 | .xd fs=> ∃ mA,h.Ns1 a mA∧∀ f,qa (fs.lookup f) (mA f)
 | .rng lo hi=> ∃ t u v,h.get? a=some { cls:=.type "range",data:=.fields #[.int lo t,.int hi u,.int 1 v] }
 | .frz o u=> h.get? a=some o∧bN H h a u
 | .tbl ps=> h.get? a=some { cls:=.none,data:=.fields ps }
 | .met f x=> h.get? a=some (PySem.W.methodObj (.ref f) (.ref x))
 | .ext φ=> φ h∧(∃ o,h.get? a=some o)∧∀ h1 h2:Heap,φ h1→(∀ o,h1.get? a=some o→h2.get? a=some o)→φ h2
def HOk (H:Hp) (h:Heap):Prop:=∀ a o,H a=some o→bN P w H h a o
end
section
variable {P:Program} {w:World} {H H':Hp} {h h':Heap} {a:Addr} {o:HO}
theorem bN.lt (x:bN P w H h a o):a < h.objs.size:=by
 cases o with
 | lst xs=> obtain ⟨_,_,_,_,e⟩:=x; exact Heap.lt_size e
 | tup xs=> obtain ⟨_,_,_,p⟩:=x; exact p.lt
 | dK kvs=> obtain ⟨_,_,_,_,o,_,_,e,_⟩:=x; exact Heap.lt_size e
 | dT kvs=> obtain ⟨_,_,_,_,o,_,_,e,_⟩:=x; exact Heap.lt_size e
 | set S n=> obtain ⟨o,_,_,_,e,_⟩:=x; exact Heap.lt_size e
 | ins C dx fs=> obtain ⟨_,_,_,e,_⟩:=x; exact Heap.lt_size e
 | own y=> obtain ⟨_,e⟩:=x; exact Heap.lt_size e
 | xd fs=> obtain ⟨_,⟨_,_,_,e,_⟩,_⟩:=x; exact Heap.lt_size e
 | rng lo hi=> obtain ⟨_,_,_,e⟩:=x; exact Heap.lt_size e
 | frz ob u=> obtain ⟨e,_⟩:=x; exact Heap.lt_size e
 | tbl ps=> exact Heap.lt_size (show h.get? a=some _ from x)
 | met f y=> exact Heap.lt_size (show h.get? a=some _ from x)
 | ext φ=> obtain ⟨_,⟨_,e⟩,_⟩:=x; exact Heap.lt_size e
theorem Paired.mapP {α β:Type} {F G:α→β→Prop}:∀ {l₁:List α} {l₂:List β},Paired F l₁ l₂→(∀ a b,F a b→G a b)→Paired G l₁ l₂
 | _,_,.nil,_=> .nil
 | _,_,.cons r t,f=> .cons (f _ _ r) (Paired.mapP t f)
theorem bN.stay (x:bN P w H h a o) (k:∀ b u,(b=a∨H b=some (.own a))→h.get? b=some u→h'.get? b=some u)
  (ho:∀ b,H b=some (.own a)→H' b=some (.own a)) (ht:∀ b xs,H b=some (.tup xs)→H' b=some (.tup xs)):bN P w H' h' a o:=by
 induction o with
 | lst xs=> obtain ⟨z,its,n,r,e⟩:=x; exact ⟨z,its,n,r,k _ _ (.inl rfl) e⟩
 | tup xs=> obtain ⟨z,its,r,ob,e,c⟩:=x; exact ⟨z,its,r,ob,k _ _ (.inl rfl) e,c⟩
 | dK kvs=> obtain ⟨z,y,vs,r,ob,es,ep,e,c⟩:=x; exact ⟨z,y,vs,r,ob,es,ep,k _ _ (.inl rfl) e,c⟩
 | dT kvs=>
  obtain ⟨z,y,xs,r,ob,es,ep,e,c⟩:=x
  exact ⟨z,y,xs,Paired.mapP r fun p q z=> ⟨z.1,ht _ _ z.2.1,z.2.2⟩,ob,es,ep,k _ _ (.inl rfl) e,c⟩
 | set S n=> obtain ⟨ob,es,ep,t,e,c⟩:=x; exact ⟨ob,es,ep,t,k _ _ (.inl rfl) e,c⟩
 | ins C dx fs=>
  obtain ⟨d,z,ne,e,mA,⟨od,es,ep,e2,c⟩,r⟩:=x
  exact ⟨ho _ d,z,ne,k _ _ (.inl rfl) e,mA,⟨od,es,ep,k _ _ (.inr d) e2,c⟩,r⟩
 | own y=> obtain ⟨ob,e⟩:=x; exact ⟨ob,k _ _ (.inl rfl) e⟩
 | xd fs=> obtain ⟨mA,⟨od,es,ep,e,c⟩,r⟩:=x; exact ⟨mA,⟨od,es,ep,k _ _ (.inl rfl) e,c⟩,r⟩
 | rng lo hi=> obtain ⟨t,u,v,e⟩:=x; exact ⟨t,u,v,k _ _ (.inl rfl) e⟩
 | frz ob u ih=> obtain ⟨e,q⟩:=x; exact ⟨k _ _ (.inl rfl) e,ih q⟩
 | tbl ps=>
  have e:h.get? a=some { cls:=.none,data:=.fields ps }:=x
  show h'.get? a=some { cls:=.none,data:=.fields ps }
  exact k a _ (.inl rfl) e
 | met f y=>
  have e:h.get? a=some (PySem.W.methodObj (.ref f) (.ref y)):=x
  show h'.get? a=some (PySem.W.methodObj (.ref f) (.ref y))
  exact k a _ (.inl rfl) e
 | ext φ=> obtain ⟨p,⟨o,e⟩,st⟩:=x; exact ⟨st _ _ p fun o q=> k _ _ (.inl rfl) q,⟨o,k _ _ (.inl rfl) e⟩,st⟩
theorem HOk.lt (x:HOk P w H h) (e:H a=some o):a < h.objs.size:=(x a o e).lt
theorem HOk.fresh (x:HOk P w H h) (e:h.objs.size≤a):H a=none:=by
 cases q:H a with
 | none=> rfl
 | some u=> exact absurd (Nat.lt_of_lt_of_le (x.lt q) e) (Nat.lt_irrefl _)
theorem HOk.kept (x:HOk P w H h) (k:∀ b u,h.get? b=some u→h'.get? b=some u):HOk P w H h':=fun a o e=>
 (x a o e).stay (fun b u _ q=> k b u q) (fun _ q=> q) fun _ _ q=> q
theorem HOk.laid (x:HOk P w H h) (k:∀ b u,h.get? b=some u→h'.get? b=some u) (hp:h.objs.size≤a) (new:bN P w (upd H a o) h' a o):HOk P w (upd H a o) h':=fun b u e=> by
 have hn:=x.fresh hp
 by_cases hb:b=a
 ·subst hb; rw [aS] at e; cases e; exact new
 ·rw [ba hb] at e
  exact (x b u e).stay (fun c v _ q=> k c v q) (fun c q=> by rw [ba (bL q hn)]; exact q) fun c xs q=> by rw [ba (bL q hn)]; exact q
end
def Rd (H:Hp) (a:Addr) (u:HO):Prop:=H a=some u∨∃ o,H a=some (.frz o u)
theorem Rd.ok {P:Program} {w:World} {H:Hp} {h:Heap} {a:Addr} {u:HO} (r:Rd H a u) (x:HOk P w H h):bN P w H h a u:=by
 rcases r with r | ⟨o,r⟩
 ·exact x a u r
 ·obtain ⟨_,q⟩:=x a _ r
  exact q
def Mut:Option HO→Prop
 | some (.lst _)=> True
 | some (.dK _)=> True
 | some (.dT _)=> True
 | some (.set _ _)=> True
 | some (.ins _ _ _)=> True
 | some (.ext _)=> True
 | _=> False
section
variable {P:Program} {w:World} {H:Hp} {h h':Heap} {x e:Addr} {o':HO}
theorem HOk.write (ok:HOk P w H h) (mu:Mut (H x)) (he:e=x∨H e=some (.own x)) (k:∀ b u,b≠e→h.get? b=some u→h'.get? b=some u) (heo:∃ u,h'.get? e=some u)
  (new:bN P w (upd H x o') h' x o'):HOk P w (upd H x o') h':=fun b u q=> by
 have nown:∀ c y,H c=some (.own y)→c≠x:=fun c y r z=> by subst z; rw [r] at mu; exact mu
 have ntup:∀ c xs,H c=some (.tup xs)→c≠x:=fun c xs r z=> by subst z; rw [r] at mu; exact mu
 by_cases hb:b=x
 ·subst hb; rw [aS] at q; cases q; exact new
 ·rw [ba hb] at q
  by_cases hbe:b=e
  ·have q':H b=some (.own x):=by
    rcases he with z | z
    ·exact absurd (hbe.trans z) hb
    ·rw [hbe]; exact z
   rw [q] at q'; cases q'
   obtain ⟨v,hv⟩:=heo
   exact ⟨v,by rw [hbe]; exact hv⟩
  ·refine (ok b u q).stay (fun c v hc r=> k c v ?_ r) (fun c r=> by rw [ba (nown c b r)]; exact r) fun c xs r=> by rw [ba (ntup c xs r)]; exact r
   rcases hc with rfl | hc
   ·exact hbe
   ·rintro rfl
    rcases he with z | z
    ·exact nown c b hc z
    ·rw [hc] at z; cases z; exact hb rfl
end
structure Un (fs ex:List Addr) (H H':Hp) (h h':Heap):Prop where
 keep:∀ b o,h.get? b=some o→H b=none→b ∉ fs→b ∉ ex→h'.get? b=some o
 slot:∀ b o,h.get? b=some o→H b=none→b∈fs→b ∉ ex→∃ sl,h'.get? b=some { o with slots:=sl }
 free:∀ b o,h.get? b=some o→H b=none→b ∉ ex→H' b=none
 there:∀ b o,h.get? b=some o→b ∉ ex→∃ o',h'.get? b=some o'
 tups:∀ b xs,H b=some (.tup xs)→H' b=some (.tup xs)
 frzs:∀ b o u,H b=some (.frz o u)→H' b=some (.frz o u)
 tbls:∀ b ps,H b=some (.tbl ps)→∃ more,H' b=some (.tbl (ps++more))
section
variable {fs fs' ex ex':List Addr} {H H1 H2:Hp} {h h1 h2 h':Heap} {a x e:Addr} {o:HO}
theorem Un.any (u:Un fs ex H H1 h h1) {b:Addr} {ob:Obj} (q:h.get? b=some ob) (n:H b=none) (hx:b ∉ ex):∃ sl,h1.get? b=some { ob with slots:=sl }:=by
 by_cases hb:b∈fs
 ·exact u.slot b ob q n hb hx
 ·exact ⟨ob.slots,u.keep b ob q n hb hx⟩
theorem Un.kept (k:∀ b u,h.get? b=some u→h'.get? b=some u):Un fs ex H H h h':=
 ⟨fun b ob q _ _ _=> k b ob q,fun b ob q _ _ _=> ⟨ob.slots,k b ob q⟩,fun _ _ _ n _=> n,fun b ob q _=> ⟨ob,k b ob q⟩,fun _ _ q=> q,fun _ _ _ q=> q,fun _ ps q=> ⟨#[],by rw [q]; simp⟩⟩
theorem Un.refl:Un fs ex H H h h:=Un.kept fun _ _ q=> q
theorem Un.laid (k:∀ b u,h.get? b=some u→h'.get? b=some u) (hp:h.objs.size≤a) (hn:H a=none):Un fs ex H (upd H a o) h h' where
 keep:=fun b u q _ _ _=> k b u q
 slot:=fun b u q _ _ _=> ⟨u.slots,k b u q⟩
 free:=fun b u q n _=> by rw [ba (Nat.ne_of_lt (Nat.lt_of_lt_of_le (Heap.lt_size q) hp))]; exact n
 there:=fun b u q _=> ⟨u,k b u q⟩
 tups:=fun b xs q=> by rw [ba (bL q hn)]; exact q
 frzs:=fun b u xs q=> by rw [ba (bL q hn)]; exact q
 tbls:=fun b ps q=> ⟨#[],by rw [ba (bL q hn),q]; simp⟩
theorem Un.write (mu:Mut (H x)) (he:e=x∨H e=some (.own x)) (k:∀ b u,b≠e→h.get? b=some u→h'.get? b=some u) (heo:∃ u,h'.get? e=some u):Un fs ex H (upd H x o) h h':=by
 have hx:∀ b,H b=none→b≠x:=fun b n z=> by subst z; rw [n] at mu; exact mu
 have hb:∀ b,H b=none→b≠e:=fun b n z=> by
  subst z
  rcases he with r | r
  ·exact hx b n r
  ·rw [n] at r; cases r
 have hm:∀ b u,H b=some u→¬ Mut (some u)→b≠x:=fun b u q nm z=> by subst z; rw [q] at mu; exact nm mu
 refine ⟨fun b u q n _ _=> k b u (hb b n) q,fun b u q n _ _=> ⟨u.slots,k b u (hb b n) q⟩,fun b u q n _=> by rw [ba (hx b n)]; exact n,fun b u q _=> ?_,
  fun b xs q=> by rw [ba (hm b _ q fun z=> z)]; exact q,fun b u xs q=> by rw [ba (hm b _ q fun z=> z)]; exact q,fun b ps q=> ⟨#[],by rw [ba (hm b _ q fun z=> z),q]; simp⟩⟩
 by_cases hbe:b=e
 ·subst hbe; exact heo
 ·exact ⟨u,k b u hbe q⟩
end
def trk (h:Heap) (H:Hp):List Addr:=(List.range h.objs.size).filter fun a=> (H a).isSome
def ic (h:Heap) (H:Hp):Heap:=PySem.W.hideAll h (trk h H)
theorem kT (h:Heap) (H:Hp):(ic h H).objs.size=h.objs.size:=PySem.W.hideAll_size _ _
theorem mH {h:Heap} {H:Hp} {b:Addr} {o:Obj} (e:h.get? b=some o) (n:H b=none):(ic h H).get? b=some o:=
 PySem.W.hideAll_get _ e fun hm=> by
  have q:(H b).isSome=true:=(List.mem_filter.mp hm).2
  rw [n] at q; simp at q
theorem nB {h:Heap} {H:Hp} {b:Addr} {o:Obj} (e:(ic h H).get? b=some o):h.get? b=some o∧H b=none:=by
 have e':h.get? b=some o:=PySem.W.of_hideAll (trk h H) e
 refine ⟨e',?_⟩
 cases q:H b with
 | none=> rfl
 | some x=>
  have hm:b∈trk h H:=List.mem_filter.mpr ⟨List.mem_range.mpr (Heap.lt_size e'),by simp [q]⟩
  have z:(ic h H).get? b=none:=PySem.W.hideAll_none (trk h H) hm
  rw [z] at e; cases e
def nG (g h:Heap) (L:Addr):List (Addr×Obj):=(List.range h.objs.size).filterMap fun a=> if a=L∨(g.get? a).isSome=true then none else (h.get? a).map fun o=> (a,o)
def rest (g h:Heap) (L d:Addr):List (Addr×Obj):=(nG g h L).filter fun p=> decide (p.1≠d)
end L2
namespace L2
open PySem PySem.Spec PyProof.Rows
structure Mod (K:PySem.W.Frag) (mg:Str→Option Value) (base:Heap):Prop where
 kin:K.In base
 glob:base.Ns mainGlobals mg
 blt:∃ mb,base.Ns builtinsNs mb∧∀ x:Str,x≠"__name__"→mb x=bootBuiltins x
 nolimit:base.NoLimit
structure Cx where
 prog:Program
 w:World
 K:PySem.W.Frag
 mg:Str→Option Value
 base:Heap
 A:Around
 N:List Str
 s₀:Shared
 H₀:Hp
 env:Env
 outer:List Env
 stack:List Env
 ex:List Addr
 fn:Str→Bool
 calm:Bool
 pn:List (Addr×Obj)
 xe:Value→Shared→Prop
def frs (l:List Env):List Addr:=l.filterMap (·.frame)
abbrev Cx.fs (X:Cx):List Addr:=frs X.outer
def Vis (sc:Scope) (x:Str):Prop:=sc.names.lookup x=some .local∨sc.names.lookup x=some .cell∨sc.names.lookup x=some .free
def Loc (sc:Scope) (x:Str):Prop:=sc.names.lookup x=some .local∨sc.names.lookup x=some .cell
def sI (env:Env) (h:Heap) (m:Str→Option Value) (x:Str) (u:Value):Prop:=
 (env.kindOf x=some .local∧m x=some u)∨((env.kindOf x=some .cell∨env.kindOf x=some .free)∧∃ c,env.cells.lookup x=some c∧h.IsCell c (some u))
structure Cx.Ok (X:Cx):Prop where
 mod:Mod X.K X.mg X.base
 kind:X.env.scope.kind=.function
 glob:X.env.globals=mainGlobals
 blt:X.env.builtins=builtinsNs
 above:X.s₀.heap.objs.size≤X.env.locals
 inj:∀ x y c,X.env.cells.lookup x=some c→X.env.cells.lookup y=some c→x=y
 has:∀ x,(X.env.kindOf x=some .cell∨X.env.kindOf x=some .free)→∃ c,X.env.cells.lookup x=some c
 cab:∀ x c,X.fn x=true→X.env.cells.lookup x=some c→X.s₀.heap.objs.size≤c
 hd:X.calm=true→X.A.handled=none
 frames:X.A.frames=some X.stack
 stk:X.stack=X.outer∨(X.stack=X.env::X.outer∧X.env.frame=some X.env.locals)
 exf:∀ b∈X.ex,b≠X.env.locals∧∀ x c,X.env.cells.lookup x=some c→c≠b
 bs:∀ b o,X.base.get? b=some o→X.s₀.heap.get? b=some o∧X.H₀ b=none
 bsz:X.base.objs.size≤X.s₀.heap.objs.size
 noex:∀ b o,X.base.get? b=some o→b ∉ X.ex
 exfs:∀ b∈X.ex,b ∉ X.fs
 funs:X.s₀.heap.FunFrames X.base X.outer
 frf:∀ b∈X.fs,X.H₀ b=none
structure Inv (X:Cx) (pins:List (Addr×Obj)) (σ:List (Option V)) (H:Hp) (s:Shared):Prop where
 ok:X.Ok
 os:s.os=X.s₀.os
 bare:AllBare s.gens
 base:Un X.fs X.ex X.H₀ H X.s₀.heap s.heap
 loc:∃ m,s.heap.Ns X.env.locals m∧∀ (i:Nat) (x:Str) (v:V),X.N[i]?=some x→σ[i]?=some (some v)→Vis X.env.scope x→∃ u,aL v u∧sI X.env s.heap m x u
 cell:∀ x c,X.env.cells.lookup x=some c→∃ v,s.heap.IsCell c v
 free:H X.env.locals=none
 freeC:∀ x c,X.env.cells.lookup x=some c→H c=none
 pin:∀ p∈X.pn++pins,s.heap.get? p.1=some p.2∧H p.1=none∧p.1≠X.env.locals∧p.1 ∉ X.fs∧∀ v,p.2.data≠.cell v
 hok:HOk X.prog X.w H s.heap
 len:σ.length=X.N.length
section
variable {X:Cx} {pins:List (Addr×Obj)} {σ:List (Option V)} {H H':Hp} {s:Shared} {h':Heap}
theorem Cx.Ok.nofr (ok:X.Ok) {b:Addr} {o:Obj} (e:X.base.get? b=some o):b ∉ X.fs:=fun hb=> by
 have:=(ok.funs.mem hb).1
 rw [e] at this; cases this
theorem Inv.bs (I:Inv X pins σ H s):∀ b o,X.base.get? b=some o→s.heap.get? b=some o∧H b=none:=fun b o e=>
 ⟨I.base.keep b o (I.ok.bs b o e).1 (I.ok.bs b o e).2 (I.ok.nofr e) (I.ok.noex b o e),I.base.free b o (I.ok.bs b o e).1 (I.ok.bs b o e).2 (I.ok.noex b o e)⟩
theorem Inv.bk (I:Inv X pins σ H s):∀ b o,X.base.get? b=some o→s.heap.get? b=some o:=fun b o e=> (I.bs b o e).1
theorem Inv.mod (I:Inv X pins σ H s):Mod X.K X.mg X.base:=I.ok.mod
theorem Inv.kIn (I:Inv X pins σ H s):X.K.In s.heap:=I.ok.mod.kin.keeps I.bk
theorem Inv.lt (I:Inv X pins σ H s):X.env.locals < s.heap.objs.size:=let ⟨_,hn,_⟩:=I.loc; hn.lt
theorem Inv.sz (I:Inv X pins σ H s):X.s₀.heap.objs.size≤s.heap.objs.size:=Nat.le_trans I.ok.above (Nat.le_of_lt I.lt)
theorem Inv.nofs (I:Inv X pins σ H s) {a:Addr} (h:s.heap.objs.size≤a):a ∉ X.fs:=fun hb=> by
 obtain ⟨_,o,ho,_⟩:=I.ok.funs.mem hb
 exact absurd (Nat.lt_of_lt_of_le (Heap.lt_size ho) (Nat.le_trans I.sz h)) (Nat.lt_irrefl _)
theorem Inv.cne (I:Inv X pins σ H s):∀ x c,X.env.cells.lookup x=some c→c≠X.env.locals:=fun x c e z=> by
 obtain ⟨v,o,ho,hd⟩:=I.cell x c e
 obtain ⟨m,⟨o',es,ep,ho',hd',_⟩,_⟩:=I.loc
 rw [z,ho'] at ho; cases ho; rw [hd'] at hd; cases hd
theorem Inv.funs (I:Inv X pins σ H s):s.heap.FunFrames X.base X.outer:=by
 have all:∀ (l:List Env),(∀ b∈frs l,b∈X.fs)→X.s₀.heap.FunFrames X.base l→s.heap.FunFrames X.base l:=by
  intro l
  induction l with
  | nil=> intro _ _; trivial
  | cons env r ih=>
   intro hs hl
   obtain ⟨hk,⟨L,o,hf,hn,ho,hd⟩,hr⟩:=hl
   have hL:L∈X.fs:=hs L (by unfold frs; rw [List.filterMap_cons,hf]; exact List.mem_cons_self)
   obtain ⟨sl,e⟩:=I.base.slot L o ho (I.ok.frf L hL) hL fun z=> I.ok.exfs L z hL
   exact ⟨hk,⟨L,_,hf,hn,e,hd⟩,ih (fun b hb=> hs b (by unfold frs; rw [List.filterMap_cons,hf]; exact List.mem_cons_of_mem _ hb)) hr⟩
 exact all X.outer (fun _ hb=> hb) I.ok.funs
theorem Inv.stack (I:Inv X pins σ H s):s.heap.FunFrames X.base X.stack:=by
 rcases I.ok.stk with e | ⟨e,hf⟩
 ·rw [e]; exact I.funs
 ·rw [e]
  obtain ⟨m,hn,_⟩:=I.loc
  refine .cons (by rw [I.ok.kind]; decide) hf hn ?_ I.funs
  exact Heap.get?_none_of_le (Nat.le_trans I.ok.bsz I.ok.above)
theorem Inv.stkSub (I:Inv X pins σ H s):∀ b∈frs X.stack,b∈X.env.locals::X.fs:=fun b hb=> by
 rcases I.ok.stk with e | ⟨e,hf⟩
 ·rw [e] at hb; exact List.mem_cons_of_mem _ hb
 ·rw [e] at hb
  unfold frs at hb
  rw [List.filterMap_cons,hf] at hb
  exact hb
theorem Inv.stkFree (I:Inv X pins σ H s):∀ b∈frs X.stack,H b=none:=fun b hb=> by
 rcases List.mem_cons.mp (I.stkSub b hb) with e | hb
 ·rw [e]; exact I.free
 ·obtain ⟨_,o,ho,_⟩:=I.ok.funs.mem hb
  exact I.base.free b o ho (I.ok.frf b hb) fun z=> I.ok.exfs b z hb
theorem Inv.step {g':Array GenState} {t':Nat} {d':Drawn} {ch:List Addr} (I:Inv X pins σ H s)
  (hch:∀ b∈ch,(b∈X.ex∨X.s₀.heap.objs.size≤b)∧b≠X.env.locals∧(∀ x c,X.env.cells.lookup x=some c→c≠b)∧∀ p∈X.pn++pins,p.1≠b)
  (keep:∀ b o,b≠X.env.locals→b ∉ X.fs→b ∉ ch→s.heap.get? b=some o→H b=none→h'.get? b=some o)
  (slot:∀ b o,b≠X.env.locals→b∈X.fs→b ∉ ch→s.heap.get? b=some o→H b=none→∃ sl,h'.get? b=some { o with slots:=sl }) (free:∀ b o,b ∉ ch→s.heap.get? b=some o→H b=none→H' b=none)
  (there:∀ b o,b ∉ ch→s.heap.get? b=some o→∃ o',h'.get? b=some o')
  (tups:∀ b xs,H b=some (.tup xs)→H' b=some (.tup xs)) (frzs:∀ b o u,H b=some (.frz o u)→H' b=some (.frz o u)) (tbls:∀ b ps,H b=some (.tbl ps)→∃ more,H' b=some (.tbl (ps++more)))
  (ns:∀ m,s.heap.Ns X.env.locals m→h'.Ns X.env.locals m) (hok:HOk X.prog X.w H' h') (hg:AllBare g'):
  Inv X pins σ H' { s with heap:=h',gens:=g',drawn:=d',toks:=t' }:=by
 have neL:∀ b o,X.s₀.heap.get? b=some o→b≠X.env.locals:=fun b o e=> Nat.ne_of_lt (Nat.lt_of_lt_of_le (Heap.lt_size e) I.ok.above)
 have neC:∀ b o,X.s₀.heap.get? b=some o→b ∉ X.ex→b ∉ ch:=fun b o e hx hb=> by
  rcases (hch b hb).1 with z | z
  ·exact hx z
  ·exact absurd (Nat.lt_of_lt_of_le (Heap.lt_size e) z) (Nat.lt_irrefl _)
 have cellK:∀ x c,X.env.cells.lookup x=some c→∀ v,s.heap.IsCell c v→h'.IsCell c v:=fun x c e v ⟨o,ho,hd⟩=> by
  have nch:c ∉ ch:=fun z=> (hch c z).2.2.1 x c e rfl
  by_cases hc:c∈X.fs
  ·obtain ⟨sl,q⟩:=slot c o (I.cne x c e) hc nch ho (I.freeC x c e)
   exact ⟨_,q,hd⟩
  ·exact ⟨o,keep c o (I.cne x c e) hc nch ho (I.freeC x c e),hd⟩
 refine ⟨I.ok,I.os,hg,⟨fun b o e n hb hx=> ?_,fun b o e n hb hx=> ?_,fun b o e n hx=> ?_,fun b o e hx=> ?_,fun b xs e=> tups b xs (I.base.tups b xs e),fun b o xs e=> frzs b o xs (I.base.frzs b o xs e),fun b ps e=> ?_⟩,?_,fun x c e=> ?_,?_,fun x c e=> ?_,fun p hp=> ?_,hok,I.len⟩
 ·exact keep b o (neL b o e) hb (neC b o e hx) (I.base.keep b o e n hb hx) (I.base.free b o e n hx)
 ·obtain ⟨sl,e1⟩:=I.base.slot b o e n hb hx
  obtain ⟨sl',e2⟩:=slot b _ (neL b o e) hb (neC b o e hx) e1 (I.base.free b o e n hx)
  exact ⟨sl',e2⟩
 ·obtain ⟨o',e1⟩:=I.base.there b o e hx
  exact free b o' (neC b o e hx) e1 (I.base.free b o e n hx)
 ·obtain ⟨o',e1⟩:=I.base.there b o e hx
  exact there b o' (neC b o e hx) e1
 ·obtain ⟨m1,e1⟩:=I.base.tbls b ps e
  obtain ⟨m2,e2⟩:=tbls b _ e1
  exact ⟨m1++m2,by rw [e2,Array.append_assoc]⟩
 ·obtain ⟨m,hn,hl⟩:=I.loc
  refine ⟨m,ns m hn,fun i x v e1 e2 e3=> ?_⟩
  obtain ⟨u,r,l⟩:=hl i x v e1 e2 e3
  refine ⟨u,r,?_⟩
  rcases l with l | ⟨k,c,e,z⟩
  ·exact .inl l
  ·exact .inr ⟨k,c,e,cellK x c e _ z⟩
 ·obtain ⟨v,z⟩:=I.cell x c e
  exact ⟨v,cellK x c e v z⟩
 ·obtain ⟨m,⟨o,_,_,ho,_⟩,_⟩:=I.loc
  exact free _ o (fun z=> (hch _ z).2.1 rfl) ho I.free
 ·obtain ⟨v,o,ho,hd⟩:=I.cell x c e
  exact free c o (fun z=> (hch c z).2.2.1 x c e rfl) ho (I.freeC x c e)
 ·obtain ⟨e,n,ne,nf,d⟩:=I.pin p hp
  have nch:p.1 ∉ ch:=fun z=> (hch p.1 z).2.2.2 p hp rfl
  exact ⟨keep p.1 p.2 ne nf nch e n,free p.1 p.2 nch e n,ne,nf,d⟩
theorem Inv.un {t':Nat} (I:Inv X pins σ H s) (u:Un X.fs [] H H' s.heap h') (hok:HOk X.prog X.w H' h'):Inv X pins σ H' { s with heap:=h',toks:=t' }:=by
 obtain ⟨m,⟨o,es,ep,ho,r⟩,_⟩:=id I.loc
 obtain ⟨sl,hL⟩:=u.any ho I.free (by simp)
 exact I.step (g':=s.gens) (d':=s.drawn) (ch:=[]) (fun _ z=> nomatch z) (fun b o _ hb _ e n=> u.keep b o e n hb (by simp)) (fun b o _ hb _ e n=> u.slot b o e n hb (by simp)) (fun b o _ e n=> u.free b o e n (by simp)) (fun b o _ e=> u.there b o e (by simp)) u.tups u.frzs u.tbls (fun m' hm=> by
  obtain ⟨o',es',ep',ho',r'⟩:=hm
  rw [ho] at ho'; cases ho'
  exact ⟨_,es',ep',hL,r'⟩) hok I.bare
theorem Inv.call {g':Array GenState} {t':Nat} {d':Drawn} {ch:List Addr} (I:Inv X pins σ H s) (u:Un (frs X.stack) ch H H' s.heap h') (hok:HOk X.prog X.w H' h') (hg:AllBare g')
  (hch:∀ b∈ch,(b∈X.ex∨X.s₀.heap.objs.size≤b)∧b≠X.env.locals∧(∀ x c,X.env.cells.lookup x=some c→c≠b)∧∀ p∈X.pn++pins,p.1≠b):
  Inv X pins σ H' { s with heap:=h',gens:=g',drawn:=d',toks:=t' }:=by
 obtain ⟨m,⟨o,es,ep,ho,r⟩,_⟩:=id I.loc
 obtain ⟨sl,hL⟩:=u.any ho I.free fun z=> (hch _ z).2.1 rfl
 exact I.step (ch:=ch) hch (fun b o hL hb hc e n=> u.keep b o e n (fun z=> (List.mem_cons.mp (I.stkSub b z)).elim hL hb) hc) (fun b o _ _ hc e n=> u.any e n hc) (fun b o hc e n=> u.free b o e n hc) (fun b o hc e=> u.there b o e hc) u.tups u.frzs u.tbls (fun m' hm=> by
  obtain ⟨o',es',ep',ho',r'⟩:=hm
  rw [ho] at ho'; cases ho'
  exact ⟨_,es',ep',hL,r'⟩) hok hg
theorem Inv.turned {t':Nat} {it:Addr} (I:Inv X pins σ H s) (k:∀ b o,b≠it→s.heap.get? b=some o→h'.get? b=some o) (hn:H it=none) (hL:it≠X.env.locals)
  (h1:it∈X.ex∨X.s₀.heap.objs.size≤it) (h2:∀ x c,X.env.cells.lookup x=some c→c≠it) (h3:∀ p∈X.pn++pins,p.1≠it):Inv X pins σ H { s with heap:=h',toks:=t' }:=by
 have nit:∀ b u,H b=some u→b≠it:=fun b u e z=> by rw [z,hn] at e; cases e
 refine I.step (g':=s.gens) (d':=s.drawn) (ch:=[it]) (fun b hb=> ?_) (fun b o _ _ hc e _=> k b o (fun z=> hc (by simp [z])) e) (fun b o _ _ hc e _=> ⟨o.slots,k b o (fun z=> hc (by simp [z])) e⟩) (fun _ _ _ _ n=> n)
  (fun b o hc e=> ⟨o,k b o (fun z=> hc (by simp [z])) e⟩) (fun _ _ e=> e) (fun _ _ _ e=> e) (fun b ps e=> ⟨#[],by rw [e]; simp⟩) (fun m hm=> ?_) (fun b u e=> ?_) I.bare
 ·have e:b=it:=by simpa using hb
  subst e
  exact ⟨h1,hL,h2,h3⟩
 ·obtain ⟨o,es,ep,ho,r⟩:=hm
  exact ⟨o,es,ep,k _ o (Ne.symm hL) ho,r⟩
 ·refine (I.hok b u e).stay (fun c v hc q=> k c v ?_ q) (fun _ q=> q) fun _ _ q=> q
  rcases hc with z | z
  ·rw [z]; exact nit b u e
  ·exact nit c _ z
theorem Inv.tok (I:Inv X pins σ H s) (t:Nat):Inv X pins σ H { s with toks:=t }:=I.un (h':=s.heap) (t':=t) Un.refl I.hok
theorem Inv.kept {t':Nat} (I:Inv X pins σ H s) (k:∀ b u,s.heap.get? b=some u→h'.get? b=some u):Inv X pins σ H { s with heap:=h',toks:=t' }:=I.un (Un.kept k) (I.hok.kept k)
theorem Inv.laid {a:Addr} {o:HO} {t':Nat} (I:Inv X pins σ H s) (k:∀ b u,s.heap.get? b=some u→h'.get? b=some u) (hp:s.heap.objs.size≤a) (new:bN X.prog X.w (upd H a o) h' a o):
  Inv X pins σ (upd H a o) { s with heap:=h',toks:=t' }:=I.un (Un.laid k hp (I.hok.fresh hp)) (I.hok.laid k hp new)
theorem Inv.write {x e:Addr} {o:HO} {t':Nat} (I:Inv X pins σ H s) (mu:Mut (H x)) (he:e=x∨H e=some (.own x)) (k:∀ b u,b≠e→s.heap.get? b=some u→h'.get? b=some u) (heo:∃ u,h'.get? e=some u)
  (new:bN X.prog X.w (upd H x o) h' x o):Inv X pins σ (upd H x o) { s with heap:=h',toks:=t' }:=I.un (Un.write mu he k heo) (I.hok.write mu he k heo new)
theorem Inv.weak {σ':List (Option V)} (I:Inv X pins σ H s) (hl:σ'.length=σ.length) (w:∀ (i:Nat) v,σ'[i]?=some (some v)→σ[i]?=some (some v)):Inv X pins σ' H s:=
 ⟨I.ok,I.os,I.bare,I.base,let ⟨m,hn,hl'⟩:=I.loc; ⟨m,hn,fun i x v e1 e2 e3=> hl' i x v e1 (w i v e2) e3⟩,I.cell,I.free,I.freeC,I.pin,I.hok,hl.trans I.len⟩
theorem Inv.pins_of {pins':List (Addr×Obj)} (I:Inv X pins σ H s) (h:∀ p∈pins',s.heap.get? p.1=some p.2∧H p.1=none∧p.1≠X.env.locals∧p.1 ∉ X.fs∧∀ v,p.2.data≠.cell v):Inv X pins' σ H s:=
 ⟨I.ok,I.os,I.bare,I.base,I.loc,I.cell,I.free,I.freeC,fun p hp=> (List.mem_append.mp hp).elim (fun z=> I.pin p (List.mem_append_left _ z)) (h p),I.hok,I.len⟩
theorem im {N:List Str} (hN:N.Nodup) {i j:Nat} {x:Str} (a:N[i]?=some x) (b:N[j]?=some x):i=j:=by
 obtain ⟨h1,e1⟩:=List.getElem?_eq_some_iff.mp a
 obtain ⟨h2,e2⟩:=List.getElem?_eq_some_iff.mp b
 exact (List.getElem_inj hN).mp (e1.trans e2.symm)
theorem gC {M:Model} {A:Around} {E:Value→Shared→Prop} {i:Nat} {x:Str} {v:V} {u:Value} {Q:Unit→Shared→Prop} (I:Inv X pins σ H s) (hN:X.N.Nodup) (hi:X.N[i]?=some x) (hx:Loc X.env.scope x) (r:aL v u)
  (h:∀ s',Inv X pins (σ.set i (some v)) H s'→(∃ a,Heap.SameBut a s.heap s'.heap∧(a=X.env.locals∨X.env.cells.lookup x=some a))→Q () s') (hf:X.fn x=true∨X.env.scope.names.lookup x=some .local:=by first | exact .inl rfl | exact .inr rfl | assumption):wpAny M A (storeName X.env x u) Q E s:=by
 obtain ⟨m,hn,hl⟩:=id I.loc
 have hcls:(X.env.scope.kind==.class || (X.env.scope.kind==.module && X.env.locals !=X.env.globals))=false:=by rw [I.ok.kind]; rfl
 have hiσ:i < σ.length:=by rw [I.len]; exact (List.getElem?_eq_some_iff.mp hi).1
 have cne:=I.cne
 have tracked:∀ {a:Addr} {h':Heap},(∃ o,s.heap.get? a=some o∧H a=none)→Heap.SameBut a s.heap h'→HOk X.prog X.w H h':=fun {a h'} ha hs b ob e=> by
  obtain ⟨_,_,hfree⟩:=ha
  refine (I.hok b ob e).stay (fun c w' hc q=> (hs.2 c ?_).trans q) (fun _ q=> q) fun _ _ q=> q
  rintro rfl
  rcases hc with rfl | hc
  ·rw [hfree] at e; cases e
  ·rw [hfree] at hc; cases hc
 rcases hx with hk | hk
 ·refine wpAny_storeName_local hk hn (fun h' hn' hs=> ?_) hcls
  obtain ⟨oL,_,_,hoL,_⟩:=id hn
  refine h _ ⟨I.ok,I.os,I.bare,⟨fun b o e n hb hx=> ?_,fun b o e n hb hx=> ?_,I.base.free,fun b o e hx=> ?_,I.base.tups,I.base.frzs,I.base.tbls⟩,⟨_,hn',fun j y v' e1 e2 e3=> ?_⟩,fun y c e=> ?_,I.free,I.freeC,fun p hp=> ?_,tracked ⟨oL,hoL,I.free⟩ hs,by simpa using I.len⟩ ⟨_,hs,.inl rfl⟩
  ·exact (hs.2 b (Nat.ne_of_lt (Nat.lt_of_lt_of_le (Heap.lt_size e) I.ok.above))).trans (I.base.keep b o e n hb hx)
  ·obtain ⟨sl,e1⟩:=I.base.slot b o e n hb hx
   exact ⟨sl,(hs.2 b (Nat.ne_of_lt (Nat.lt_of_lt_of_le (Heap.lt_size e) I.ok.above))).trans e1⟩
  ·obtain ⟨o',e1⟩:=I.base.there b o e hx
   exact ⟨o',(hs.2 b (Nat.ne_of_lt (Nat.lt_of_lt_of_le (Heap.lt_size e) I.ok.above))).trans e1⟩
  ·by_cases hj:j=i
   ·subst hj
    rw [hi] at e1; cases e1
    rw [List.getElem?_set_self hiσ] at e2
    cases e2
    exact ⟨u,r,.inl ⟨hk,by simp⟩⟩
   ·rw [List.getElem?_set_ne (Ne.symm hj)] at e2
    obtain ⟨u',r',q⟩:=hl j y v' e1 e2 e3
    refine ⟨u',r',?_⟩
    rcases q with ⟨k,e⟩ | ⟨k,c,e,z⟩
    ·refine .inl ⟨k,?_⟩
     have:y≠x:=fun e=> hj (im hN e1 (e ▸ hi))
     simp [this,e]
    ·exact .inr ⟨k,c,e,z.sameBut hs (cne y c e)⟩
  ·obtain ⟨w',z⟩:=I.cell y c e
   exact ⟨w',z.sameBut hs (cne y c e)⟩
  ·obtain ⟨e,n,ne,nf,d⟩:=I.pin p hp
   exact ⟨(hs.2 p.1 ne).trans e,n,ne,nf,d⟩
 ·have hfn:X.fn x=true:=by
   rcases hf with z | z
   ·exact z
   ·rw [z] at hk; cases hk
  obtain ⟨c,hc⟩:=I.ok.has x (.inl hk)
  obtain ⟨w',z⟩:=I.cell x c hc
  refine wpAny_storeName_cell I.ok.kind hk hc z (fun h' hc' hs=> ?_)
  obtain ⟨oc,hoc,hocd⟩:=id z
  refine h { s with heap:=h' } ⟨I.ok,I.os,I.bare,⟨fun b o e n hb hx=> ?_,fun b o e n hb hx=> ?_,I.base.free,fun b o e hx=> ?_,I.base.tups,I.base.frzs,I.base.tbls⟩,⟨m,hn.sameBut hs (Ne.symm (cne x c hc)),fun j y v' e1 e2 e3=> ?_⟩,fun y c' e=> ?_,I.free,I.freeC,fun p hp=> ?_,tracked ⟨oc,hoc,I.freeC x c hc⟩ hs,by simpa using I.len⟩ ⟨c,hs,.inr hc⟩
  ·exact (hs.2 b (Nat.ne_of_lt (Nat.lt_of_lt_of_le (Heap.lt_size e) (I.ok.cab x c hfn hc)))).trans (I.base.keep b o e n hb hx)
  ·obtain ⟨sl,e1⟩:=I.base.slot b o e n hb hx
   exact ⟨sl,(hs.2 b (Nat.ne_of_lt (Nat.lt_of_lt_of_le (Heap.lt_size e) (I.ok.cab x c hfn hc)))).trans e1⟩
  ·obtain ⟨o',e1⟩:=I.base.there b o e hx
   exact ⟨o',(hs.2 b (Nat.ne_of_lt (Nat.lt_of_lt_of_le (Heap.lt_size e) (I.ok.cab x c hfn hc)))).trans e1⟩
  ·by_cases hj:j=i
   ·subst hj
    rw [hi] at e1; cases e1
    rw [List.getElem?_set_self hiσ] at e2
    cases e2
    exact ⟨u,r,.inr ⟨.inl hk,c,hc,hc'⟩⟩
   ·rw [List.getElem?_set_ne (Ne.symm hj)] at e2
    obtain ⟨u',r',q⟩:=hl j y v' e1 e2 e3
    refine ⟨u',r',?_⟩
    rcases q with q | ⟨k,c',e,z'⟩
    ·exact .inl q
    ·refine .inr ⟨k,c',e,z'.sameBut hs ?_⟩
     rintro rfl
     exact hj (im hN e1 (I.ok.inj _ _ _ e hc ▸ hi))
  ·by_cases hcc:c'=c
   ·subst hcc; exact ⟨_,hc'⟩
   ·obtain ⟨w2,z2⟩:=I.cell y c' e
    exact ⟨w2,z2.sameBut hs hcc⟩
  ·obtain ⟨e,n,ne,nf,d⟩:=I.pin p hp
   refine ⟨(hs.2 p.1 ?_).trans e,n,ne,nf,d⟩
   intro q
   rw [q,hoc] at e
   have q':oc=p.2:=Option.some.inj e
   exact d w' (by rw [← q']; exact hocd)
theorem iM {M:Model} {A:Around} {E:Value→Shared→Prop} {i:Nat} {x:Str} {v:V} {u:Value} {Q:Unit→Shared→Prop} (I:Inv X pins σ H s) (hN:X.N.Nodup) (hi:X.N[i]?=some x) (hx:Loc X.env.scope x) (r:aL v u)
  (h:∀ s',Inv X pins (σ.set i (some v)) H s'→Q () s') (hf:X.fn x=true∨X.env.scope.names.lookup x=some .local:=by first | exact .inl rfl | exact .inr rfl | assumption):wpAny M A (storeName X.env x u) Q E s:=
 gC I hN hi hx r (fun s' I' _=> h s' I') hf
theorem Inv.call' {s':Shared} {ch:List Addr} (I:Inv X pins σ H s) (ho:s'.os=s.os) (u:Un (frs X.stack) ch H H' s.heap s'.heap) (hok:HOk X.prog X.w H' s'.heap) (hg:AllBare s'.gens)
  (hch:∀ b∈ch,(b∈X.ex∨X.s₀.heap.objs.size≤b)∧b≠X.env.locals∧(∀ x c,X.env.cells.lookup x=some c→c≠b)∧∀ p∈X.pn++pins,p.1≠b):Inv X pins σ H' s':=by
 obtain ⟨h',g',d',t',o'⟩:=s'
 have e:o'=s.os:=ho
 subst e
 exact I.call (g':=g') (t':=t') (d':=d') u hok hg hch
end
abbrev XK:=Value→Option Addr→Hp→Prop
abbrev St:=List (Option V)
abbrev VK:=V→Hp→Prop
abbrev TE:=St→Hp→VK→Prop
abbrev TT:=St→Hp→(Bool→Hp→Prop)→Prop
abbrev TA:=St→Hp→(List V→Hp→Prop)→Prop
structure gZ where
 nx:St→Hp→Prop
 rt:VK
 bk:St→Hp→Prop:=fun _ _=> False
 ct:St→Hp→Prop:=fun _ _=> False
abbrev TS:=gZ→St→Hp→Prop
def EP (X:Cx) (pins:List (Addr×Obj)) (σ:St) (Q:VK) (u:Value) (s':Shared):Prop:=∃ v H',Inv X pins σ H' s'∧aL v u∧Q v H'
def TP (X:Cx) (pins:List (Addr×Obj)) (σ:St) (Q:Bool→Hp→Prop) (b:Bool) (s':Shared):Prop:=∃ H',Inv X pins σ H' s'∧Q b H'
def AP (X:Cx) (pins:List (Addr×Obj)) (σ:St) (Q:List V→Hp→Prop) (us:List Value) (s':Shared):Prop:=∃ vs H',Inv X pins σ H' s'∧av vs us∧Q vs H'
def SP (X:Cx) (pins:List (Addr×Obj)) (D:gZ) (f:Flow) (s':Shared):Prop:=
 match f with
 | .next=> ∃ σ' H',Inv X pins σ' H' s'∧D.nx σ' H'
 | .brk=> ∃ σ' H',Inv X pins σ' H' s'∧D.bk σ' H'
 | .cont=> ∃ σ' H',Inv X pins σ' H' s'∧D.ct σ' H'
 | .ret u=> ∃ v σ' H',Inv X pins σ' H' s'∧aL v u∧D.rt v H'
def PE (X:Cx) (e:Expr) (t:TE):Prop:=
 ∀ (pins:List (Addr×Obj)) (s:Shared) (σ:St) (H:Hp) (Q:VK),Inv X pins σ H s→t σ H Q→wpAny (model X.prog X.w) X.A (eval e X.env) (EP X pins σ Q) X.xe s
def PT (X:Cx) (e:Expr) (t:TT):Prop:=
 ∀ (pins:List (Addr×Obj)) (s:Shared) (σ:St) (H:Hp) (Q:Bool→Hp→Prop),Inv X pins σ H s→t σ H Q→wpAny (model X.prog X.w) X.A (isTrue e X.env (eval e X.env)) (TP X pins σ Q) X.xe s
def PW (X:Cx) (e:Expr) (t:TT):Prop:=
 ∀ (whole:Sem Value) (pins:List (Addr×Obj)) (s:Shared) (σ:St) (H:Hp) (Q:Bool→Hp→Prop),Inv X pins σ H s→t σ H Q→wpAny (model X.prog X.w) X.A (isTrue e X.env whole) (TP X pins σ Q) X.xe s
theorem PW.pt {X:Cx} {e:Expr} {t:TT} (h:PW X e t):PT X e t:=h _
def PA (X:Cx) (es:List Expr) (t:TA):Prop:=
 ∀ (pos:Pos) (pins:List (Addr×Obj)) (s:Shared) (σ:St) (H:Hp) (Q:List V→Hp→Prop),Inv X pins σ H s→t σ H Q→wpAny (model X.prog X.w) X.A (spliced (backTo pos (starEach es X.env))) (AP X pins σ Q) X.xe s
def PS (X:Cx) (st:Stmt) (t:TS):Prop:=
 ∀ (pins:List (Addr×Obj)) (s:Shared) (σ:St) (H:Hp) (D:gZ),Inv X pins σ H s→t D σ H→wpAny (model X.prog X.w) X.A (exec st X.env) (SP X pins D) X.xe s
def PSs (X:Cx) (st:List Stmt) (t:TS):Prop:=
 ∀ (pins:List (Addr×Obj)) (s:Shared) (σ:St) (H:Hp) (D:gZ),Inv X pins σ H s→t D σ H→wpAny (model X.prog X.w) X.A (execs st X.env) (SP X pins D) X.xe s
theorem thn {α:Type} {t:Sem α} {Q Q':α→Shared→Prop} {M:Model} {A:Around} {E:Value→Shared→Prop} {s:Shared} (h:wpAny M A t Q E s) (hQ:∀ a s,Q a s→Q' a s):wpAny M A t Q' E s:=wpAny_mono h hQ fun _ _ x=> x
end L2
namespace L2
open PySem PySem.Spec PyProof.Rows
section
variable {X:Cx}
def r_ (i:Nat):TE:=fun σ H Q=> ∃ v,σ[i]?=some (some v)∧Q v H
def tC (v:V):TE:=fun _ H Q=> Q v H
theorem dq {i:Nat} {x:Str} {pos:Pos} (hN:X.N[i]?=some x) (hv:Vis X.env.scope x) (hd:(x==("__debug__":Str))=false:=by decide) (hcd:(x==("__classdict__":Str))=false:=by decide):PE X (.Name x pos) (r_ i):=by
 intro pins s σ H Q I h
 obtain ⟨v,e,h⟩:=h
 obtain ⟨m,hn,hl⟩:=I.loc
 obtain ⟨u,r,l⟩:=hl i x v hN e hv
 have fin:EP X pins σ Q u s:=⟨v,H,I,r,h⟩
 rcases l with ⟨hk,hm⟩ | ⟨hk,c,hc,hcell⟩
 ·exact wpAny_Name (wpAny_loadName_local I.ok.kind hk hn hm fin) hd
 ·rcases hk with hk | hk
  ·exact wpAny_Name (wpAny_loadName_cell I.ok.kind hk hc hcell fin) hd
  ·exact wpAny_Name (wpAny_loadName_free I.ok.kind hk hc hcell fin hcd) hd
theorem pF {i j pos}:PE X (.Constant (.int i) j pos) (tC (.int i)):=fun _ _ _ H _ I h=> wpAny_Constant_int ⟨.int i,H,I.tok _,⟨_,rfl⟩,h⟩
theorem qU {b j pos}:PE X (.Constant (.bool b) j pos) (tC (.bl b)):=fun _ _ _ H _ I h=> Constant_bool ⟨.bl b,H,I,rfl,h⟩
theorem pW {x j pos}:PE X (.Constant (.str x) j pos) (tC (.str x)):=fun _ _ _ H _ I h=> Calls.Constant_str ⟨.str x,H,I.tok _,⟨_,rfl⟩,h⟩
def Gl (X:Cx) (x:Str):Prop:=X.env.kindOf x=some .globalImplicit
theorem jO {E:Value→Shared→Prop} {pins:List (Addr×Obj)} {s:Shared} {σ:St} {H:Hp} {x:Str} {u:Value} {pos:Pos} {Q:Value→Shared→Prop} (I:Inv X pins σ H s) (hg:Gl X x) (hm:X.mg x=some u) (h:Q u s)
  (hd:(x==("__debug__":Str))=false:=by decide):wpAny (model X.prog X.w) X.A (eval (.Name x pos) X.env) Q E s:=
 Calls.Name_function_global I.ok.kind hg (Calls.loadGlobal_global (by rw [I.ok.glob]; exact I.mod.glob.keeps I.bk) hm h) hd
theorem cW {E:Value→Shared→Prop} {pins:List (Addr×Obj)} {s:Shared} {σ:St} {H:Hp} {x:Str} {u:Value} {pos:Pos} {Q:Value→Shared→Prop} (I:Inv X pins σ H s) (hg:Gl X x) (hm:X.mg x=none) (hv:bootBuiltins x=some u) (h:Q u s)
  (hn:x≠"__name__":=by decide) (hd:(x==("__debug__":Str))=false:=by decide):wpAny (model X.prog X.w) X.A (eval (.Name x pos) X.env) Q E s:=by
 obtain ⟨mb,h1,h2⟩:=I.mod.blt
 exact Calls.Name_function_global I.ok.kind hg (Calls.loadGlobal_builtin (by rw [I.ok.glob]; exact I.mod.glob.keeps I.bk) hm (by rw [I.ok.blt]; exact h1.keeps I.bk) ((h2 x hn).trans hv) h) hd
theorem nU {x:Str} {v:V} {u:Value} {pos:Pos} (hg:Gl X x) (hm:X.mg x=none) (hv:bootBuiltins x=some u) (r:aL v u) (hn:x≠"__name__":=by decide) (hd:(x==("__debug__":Str))=false:=by decide):PE X (.Name x pos) (tC v):=
 fun _ _ _ H _ I h=> cW I hg hm hv ⟨v,H,I,r,h⟩ hn hd
variable {a b:Expr} {ta tb:TE} {pos:Pos}
def tB (t:TE):TT:=fun σ H Q=> t σ H fun x H1=> ∃ c,x=.bl c∧Q c H1
theorem pK {e:Expr} {t:TE} (h:PE X e t) (he:∀ whole,isTrue e X.env whole=(do let v ← whole; standAt e.pos; holding [v] (truthy v)):=by intro _; rfl):PT X e (tB t):=by
 intro pins s σ H Q I hw
 refine isTrue_plain (thn (h pins s σ H _ I hw) fun v s1 ⟨x,H1,I1,r1,q1⟩=> ?_) (he _)
 obtain ⟨d,rfl,q⟩:=q1
 cases r1
 exact wpAny_truthy_bool ⟨H1,I1,q⟩
variable {tA tB':TT} {rest:List Expr}
def sw (t u:TT):TT:=fun σ H Q=> t σ H fun c H1=> if c=true then u σ H1 Q else Q false H1
def tOr (t u:TT):TT:=fun σ H Q=> t σ H fun c H1=> if c=true then Q true H1 else u σ H1 Q
def rV (t:TT):TT:=fun σ H Q=> t σ H fun c H1=> Q (!c) H1
theorem n4 (ha:PT X a tA):PW X (.BoolOp .And [a] pos) tA:=by
 intro wh pins s σ H Q I h
 refine isTrue_and (thn (ha pins s σ H Q I h) fun c s1 e=> ?_)
 cases c with
 | true=> exact isTrue_and_nil e
 | false=> exact e
theorem qo (ha:PT X a tA):PW X (.BoolOp .Or [a] pos) tA:=by
 intro wh pins s σ H Q I h
 refine isTrue_or (thn (ha pins s σ H Q I h) fun c s1 e=> ?_)
 cases c with
 | false=> exact isTrue_or_nil e
 | true=> exact e
theorem lL (ha:PT X a tA) (hb:PW X (.BoolOp .And (b::rest) pos) tB'):PW X (.BoolOp .And (a::b::rest) pos) (sw tA tB'):=by
 intro wh pins s σ H Q I h
 refine isTrue_and (thn (ha pins s σ H _ I h) fun c s1 ⟨H1,I1,q1⟩=> ?_)
 cases c with
 | true=> exact hb wh pins s1 σ H1 Q I1 q1
 | false=> exact ⟨H1,I1,q1⟩
theorem oX (ha:PT X a tA) (hb:PW X (.BoolOp .Or (b::rest) pos) tB'):PW X (.BoolOp .Or (a::b::rest) pos) (tOr tA tB'):=by
 intro wh pins s σ H Q I h
 refine isTrue_or (thn (ha pins s σ H _ I h) fun c s1 ⟨H1,I1,q1⟩=> ?_)
 cases c with
 | true=> exact ⟨H1,I1,q1⟩
 | false=> exact hb wh pins s1 σ H1 Q I1 q1
theorem pO (ha:PT X a tA):PT X (.UnaryOp .Not a pos) (rV tA):=by
 intro pins s σ H Q I h
 exact isTrue_not (ha pins s σ H (fun c H1=> Q (!c) H1) I h)
def rm (ta tb:TE):TE:=fun σ H Q=> ta σ H fun x H1=> ∃ c,x=.bl c∧if c=true then tb σ H1 Q else Q (.bl false) H1
theorem pJ {op} {t:TE} (h:PE X a t):PE X (.BoolOp op [a] pos) t:=fun pins s σ H Q I hw=> BoolOp_one (h pins s σ H Q I hw)
theorem lR (ha:PE X a ta) (hb:PE X (.BoolOp .And (b::rest) pos) tb):PE X (.BoolOp .And (a::b::rest) pos) (rm ta tb):=by
 intro pins s σ H Q I h
 refine BoolOp_and (thn (ha pins s σ H _ I h) fun v s1 ⟨x,H1,I1,r1,q1⟩=> ?_)
 obtain ⟨c,rfl,q1⟩:=q1
 cases r1
 refine wpAny_truthy_bool ?_
 cases c with
 | true=> exact hb pins s1 σ H1 Q I1 q1
 | false=> exact ⟨.bl false,H1,I1,rfl,q1⟩
end
end L2
namespace L2
open PySem PySem.Spec PyProof.Rows
def SqL (K:PySem.W.Frag) (H:Hp) (a:Addr) (xs:List V):Prop:=
 Rd H a (.lst xs)∨
  ∃ (o:Obj) (its:Array Value) (n:Nat),K.lookup a=some o∧o.cls=.type "list"∧o.dict=none∧o.data=.seq its n∧its.size≤sizeLine∧av xs its.toList
def SqT (K:PySem.W.Frag) (H:Hp) (a:Addr) (xs:List V):Prop:=
 Rd H a (.tup xs)∨
  ∃ (o:Obj) (its:Array Value) (n:Nat),K.lookup a=some o∧o.cls=.type "tuple"∧o.data=.seq its n∧its.size≤sizeLine∧av xs its.toList
def rT:Value→Option V
 | .none=> some .non
 | .bool b=> some (.bl b)
 | .int i _=> some (.int i)
 | .str x _=> some (.str x)
 | .bytes b _=> some (.byt b)
 | .float b _=> some (.flt b)
 | .ref a=> some (.ref a)
 | .type n=> some (.ty n)
 | _=> none
theorem aL.abs {x:V} {u:Value} (r:aL x u):rT u=some x:=by
 cases x with
 | non=> cases r; rfl
 | bl _=> cases r; rfl
 | int _=> obtain ⟨t,rfl⟩:=r; rfl
 | str _=> obtain ⟨t,rfl⟩:=r; rfl
 | byt _=> obtain ⟨t,rfl⟩:=r; rfl
 | flt _=> obtain ⟨t,rfl⟩:=r; rfl
 | ref _=> cases r; rfl
 | ty _=> cases r; rfl
theorem aL.inj {x y:V} {u:Value} (r:aL x u) (q:aL y u):x=y:=Option.some.inj (r.abs.symm.trans q.abs)
theorem av.inj:∀ {xs ys:List V} {us:List Value},av xs us→av ys us→xs=ys
 | _,_,_,.nil,.nil=> rfl
 | _,_,_,.cons r t,.cons r' t'=> by rw [r.inj r',av.inj t t']
section
variable {X:Cx} {pins:List (Addr×Obj)} {σ:St} {H:Hp} {s:Shared} {a:Addr} {xs ys:List V}
theorem SqL.of {K:PySem.W.Frag} (h:H a=some (.lst xs)):SqL K H a xs:=.inl (.inl h)
theorem SqT.of {K:PySem.W.Frag} (h:H a=some (.tup xs)):SqT K H a xs:=.inl (.inl h)
theorem Inv.list (I:Inv X pins σ H s) (h:SqL X.K H a xs):∃ its:List Value,av xs its∧PlainL s.heap a its.toArray∧xs.length≤sizeLine:=by
 rcases h with h | ⟨o,its,n,hk,hc,hd,hs,hz,r⟩
 ·obtain ⟨z,its,n,r,e⟩:=h.ok I.hok
  exact ⟨its,r,⟨_,n,e,rfl,rfl,rfl⟩,z⟩
 ·refine ⟨its.toList,r,⟨o,n,I.kIn a o hk,hc,hd,by simpa using hs⟩,?_⟩
  have e:=r.length
  simp only [Array.length_toList] at e
  omega
theorem Inv.tuple (I:Inv X pins σ H s) (h:SqT X.K H a xs):∃ its:List Value,av xs its∧IsTup s.heap a its.toArray∧xs.length≤sizeLine:=by
 rcases h with h | ⟨o,its,n,hk,hc,hs,hz,r⟩
 ·obtain ⟨z,its,r,p⟩:=h.ok I.hok
  exact ⟨its,r,p,z⟩
 ·refine ⟨its.toList,r,⟨o,I.kIn a o hk,hc,n,by simpa using hs⟩,?_⟩
  have e:=r.length
  simp only [Array.length_toList] at e
  omega
theorem Inv.list_inj (I:Inv X pins σ H s) (h:SqL X.K H a xs) (h':SqL X.K H a ys):xs=ys:=by
 obtain ⟨its,r,⟨o,n,e,_,_,d⟩,_⟩:=I.list h
 obtain ⟨its',r',⟨o',n',e',_,_,d'⟩,_⟩:=I.list h'
 rw [e] at e'; cases e'
 rw [d] at d'
 injection d' with d1 _
 have:its=its':=by simpa using congrArg Array.toList d1
 subst this
 exact r.inj r'
theorem Inv.tuple_inj (I:Inv X pins σ H s) (h:SqT X.K H a xs) (h':SqT X.K H a ys):xs=ys:=by
 obtain ⟨its,r,⟨o,e,_,n,d⟩,_⟩:=I.tuple h
 obtain ⟨its',r',⟨o',e',_,n',d'⟩,_⟩:=I.tuple h'
 rw [e] at e'; cases e'
 rw [d] at d'
 injection d' with d1 _
 have:its=its':=by simpa using congrArg Array.toList d1
 subst this
 exact r.inj r'
end
abbrev Cx.wish (X:Cx) (E:Value→Shared→Prop):Cx:={ X with xe:=E }
abbrev Cx.nox (X:Cx):Cx:=X.wish fun _ _=> False
theorem Cx.Ok.wish {X:Cx} (ok:X.Ok) (E:Value→Shared→Prop):(X.wish E).Ok:=
 ⟨ok.mod,ok.kind,ok.glob,ok.blt,ok.above,ok.inj,ok.has,ok.cab,ok.hd,ok.frames,ok.stk,ok.exf,ok.bs,ok.bsz,ok.noex,ok.exfs,ok.funs,ok.frf⟩
theorem Cx.Ok.unwish {X:Cx} {E:Value→Shared→Prop} (ok:(X.wish E).Ok):X.Ok:=
 ⟨ok.mod,ok.kind,ok.glob,ok.blt,ok.above,ok.inj,ok.has,ok.cab,ok.hd,ok.frames,ok.stk,ok.exf,ok.bs,ok.bsz,ok.noex,ok.exfs,ok.funs,ok.frf⟩
section
variable {X:Cx} {pins:List (Addr×Obj)} {σ:St} {H:Hp} {s:Shared} {E:Value→Shared→Prop}
theorem Inv.wish (I:Inv X pins σ H s) (E:Value→Shared→Prop):Inv (X.wish E) pins σ H s:=⟨I.ok.wish E,I.os,I.bare,I.base,I.loc,I.cell,I.free,I.freeC,I.pin,I.hok,I.len⟩
theorem Inv.unwish (I:Inv (X.wish E) pins σ H s):Inv X pins σ H s:=⟨I.ok.unwish,I.os,I.bare,I.base,I.loc,I.cell,I.free,I.freeC,I.pin,I.hok,I.len⟩
theorem SP.unwish {D:gZ} {f:Flow} {s':Shared} (h:SP (X.wish E) pins D f s'):SP X pins D f s':=by
 cases f with
 | next=> obtain ⟨σ',H',I,q⟩:=h; exact ⟨σ',H',I.unwish,q⟩
 | brk=> obtain ⟨σ',H',I,q⟩:=h; exact ⟨σ',H',I.unwish,q⟩
 | cont=> obtain ⟨σ',H',I,q⟩:=h; exact ⟨σ',H',I.unwish,q⟩
 | ret u=> obtain ⟨v,σ',H',I,r,q⟩:=h; exact ⟨v,σ',H',I.unwish,r,q⟩
theorem PSs.nox {st:List Stmt} {t:TS} (h:PSs X.nox st t):PSs X st t:=fun pins s σ H D I hw=>
 wpAny_mono (h pins s σ H D (I.wish _) hw) (fun _ _ q=> q.unwish) fun _ _ z=> False.elim z
end
section
variable {X:Cx} {st:Stmt} {rest:List Stmt} {t u:TS} {e:Expr} {te:TE} {pos:Pos}
def rd:TS:=fun D σ H=> D.nx σ H
def rQ (t u:TS):TS:=fun D σ H=> t { D with nx:=u D } σ H
theorem oA:PSs X [] rd:=fun _ _ σ H _ I h=> wpAny_execs_nil ⟨σ,H,I,h⟩
theorem me (h1:PS X st t) (h2:PSs X rest u):PSs X (st::rest) (rQ t u):=by
 intro pins s σ H D I h
 refine wpAny_execs_cons (thn (h1 pins s σ H { D with nx:=u D } I h) fun f s1 q=> ?_)
 cases f with
 | next=>
  obtain ⟨σ',H',I',q⟩:=q
  exact h2 pins s1 σ' H' D I' q
 | ret v=> exact q
 | brk=> exact q
 | cont=> exact q
theorem Inv.quiet {pins:List (Addr×Obj)} {σ:St} {H:Hp} {s:Shared} (I:Inv X pins σ H s):interactive X.env=false:=by simp [interactive,I.ok.kind]
def qL (te:TE):TS:=fun D σ H=> te σ H fun _ H1=> D.nx σ H1
theorem jP (he:PE X e te) (hs:swapsWith e none pos.line X.env=pure false:=by rfl):PS X (.Expr e pos) (qL te):=by
 intro pins s σ H D I h
 exact wpAny_Expr_any (thn (he pins s σ H _ I h) fun v s1 ⟨x,H1,I1,r1,q1⟩=> ⟨σ,H1,I1,q1⟩) I.quiet hs
def sH (te:TE):TS:=fun D σ H=> te σ H D.rt
theorem jf (he:PE X e te):PS X (.Return (some e) pos) (sH te):=by
 intro pins s σ H D I h
 exact wpAny_Return_some (thn (he pins s σ H _ I h) fun v s1 ⟨x,H1,I1,r1,q1⟩=> ⟨x,σ,H1,I1,r1,q1⟩)
def rY (c:TT) (t u:TS):TS:=fun D σ H=> c σ H fun b H1=> if b=true then t D σ H1 else u D σ H1
theorem oP {c:Expr} {a b:List Stmt} {tc:TT} (hc:PT X c tc) (ha:PSs X a t) (hb:PSs X b u):PS X (.If c a b pos) (rY tc t u):=by
 intro pins s σ H D I h
 refine wpAny_If (thn (hc pins s σ H _ I h) fun d s1 ⟨H1,I1,q1⟩=> ?_)
 cases d with
 | true=> exact ha pins s1 σ H1 D I1 q1
 | false=> exact hb pins s1 σ H1 D I1 q1
end
abbrev TG:=V→St→Hp→(St→Hp→Prop)→Prop
def PG (X:Cx) (target:Expr) (t:TG):Prop:=
 ∀ (pins:List (Addr×Obj)) (s:Shared) (σ:St) (H:Hp) (v:V) (u:Value) (Q:St→Hp→Prop),Inv X pins σ H s→aL v u→t v σ H Q→
  wpAny (model X.prog X.w) X.A (assign target X.env u) (fun _ s'=> ∃ σ' H',Inv X pins σ' H' s'∧Q σ' H') X.xe s
abbrev pU:=V→V→V→Hp→(Hp→Prop)→Prop
def ra (X:Cx) (t:pU):Prop:=
 ∀ (pins:List (Addr×Obj)) (s:Shared) (σ:St) (H:Hp) (o i v:V) (ov iv u:Value) (Q:Hp→Prop),Inv X pins σ H s→aL o ov→aL i iv→aL v u→t o i v H Q→
  wpAny (model X.prog X.w) X.A (setItem ov iv u) (fun _ s'=> ∃ H',Inv X pins σ H' s'∧Q H') X.xe s
section
variable {X:Cx} {pos:Pos}
def kh (i:Nat):TG:=fun v σ H Q=> Q (σ.set i (some v)) H
theorem fe {i:Nat} {x:Str} (hN:X.N.Nodup) (hi:X.N[i]?=some x) (hx:Loc X.env.scope x) (hf:X.fn x=true∨X.env.scope.names.lookup x=some .local:=by first | exact .inl rfl | exact .inr rfl | assumption):PG X (.Name x pos) (kh i):=by
 intro pins s σ H v u Q I r h
 exact wpAny_assign_Name (iM I hN hi hx r (fun s' I'=> ⟨_,H,I',h⟩) hf)
def su (to ti:TE) (t:pU):TG:=fun v σ H Q=> to σ H fun o H1=> ti σ H1 fun i H2=> t o i v H2 fun H3=> Q σ H3
theorem qv {o i:Expr} {to ti:TE} {t:pU} (ho:PE X o to) (hi:PE X i ti) (hs:ra X t)
  (ha:∀ v,assign (.Subscript o i pos) X.env v=(do
   let ov ← holding [v] (eval o X.env)
   let iv ← holding [v,ov] (eval i X.env)
   standAt pos
   holding [v,ov,iv] (setItem ov iv v)
   release [v,ov,iv] []):=by intro _; rfl):PG X (.Subscript o i pos) (su to ti t):=by
 intro pins s σ H v u Q I r h
 rw [ha]
 refine wpAny_bind (wpAny_holding (thn (ho pins s σ H _ I h) fun ov s1 ⟨x,H1,I1,r1,q1⟩=> ?_))
 refine wpAny_bind (wpAny_holding (thn (hi pins s1 σ H1 _ I1 q1) fun iv s2 ⟨y,H2,I2,r2,q2⟩=> ?_))
 refine wpAny_bind (wpAny_standAt (wpAny_bind (wpAny_holding (thn (hs pins s2 σ H2 x y v ov iv u _ I2 r1 r2 r q2) fun _ s3 ⟨H3,I3,q3⟩=> ?_))))
 exact wpAny_release ⟨σ,H3,I3,q3⟩
def pD (te:TE) (g:TG):TS:=fun D σ H=> te σ H fun x H1=> g x σ H1 D.nx
theorem pZ {tg e:Expr} {te:TE} {g:TG} (he:PE X e te) (hg:PG X tg g) (hs:swapsWithSole [tg] e pos.line X.env=pure false:=by rfl) (hw:swappedStores [tg] e X.env=pure none:=by rfl)
  (h1:(assignEach [tg] X.env).map (·.2)=[assign tg X.env]:=by rfl):PS X (.Assign [tg] e pos) (pD te g):=by
 intro pins s σ H D I h
 refine wpAny_Assign_stores (thn (he pins s σ H _ I h) fun v s1 ⟨x,H1,I1,r1,q1⟩=> ?_) hs hw
 rw [h1]
 exact thn (hg pins s1 σ H1 x v _ I1 r1 q1) fun _ s2 q=> q
theorem lu {i:Nat} {x:Str} {e:Expr} {te:TE} {pos':Pos} (hN:X.N.Nodup) (hi:X.N[i]?=some x) (hx:Loc X.env.scope x) (he:PE X e te) (hs:swapsWith e (some (.Name x pos')) pos.line X.env=pure false:=by rfl) (hf:X.fn x=true∨X.env.scope.names.lookup x=some .local:=by first | exact .inl rfl | exact .inr rfl | assumption):
  PS X (.Assign [.Name x pos'] e pos) (pD te (kh i)):=by
 intro pins s σ H D I h
 refine wpAny_Assign_Name (thn (he pins s σ H _ I h) fun v s1 ⟨y,H1,I1,r1,q1⟩=> ?_) hs
 exact iM I1 hN hi hx r1 (fun s2 I2=> ⟨_,H1,I2,q1⟩) hf
end
section
variable {X:Cx} {pos:Pos}
def p7 (c:TT) (tb:TS):TS:=fun D σ H=> ∃ W:Nat→St→Hp→Prop,(∃ m,W m σ H)∧∀ m σ H,W m σ H→
 c σ H fun b H1=> if b=true then ∃ N:St→Hp→Prop,(∀ σ' H',N σ' H'→∃ m',m' < m∧W m' σ' H')∧tb { D with nx:=N,ct:=N,bk:=D.nx } σ H1 else D.nx σ H1
theorem mY {c:Expr} {body:List Stmt} {tc:TT} {tb:TS} (hp:PassesOwn (model X.prog X.w) X.A X.env X.xe) (hc:PT X c tc) (hb:PSs X body tb):PS X (.While c body [] pos) (p7 tc tb):=by
 intro pins s σ H D I h
 obtain ⟨W,⟨m0,w0⟩,turn⟩:=h
 refine wpAny_While (codeAny_whileLoop (fun n s'=> ∃ σ' H',Inv X pins σ' H' s'∧W n σ' H') ?_ m0 ⟨σ,H,I,w0⟩)
 rintro n s1 ⟨σ1,H1,I1,w1⟩
 refine wpAny_passesOwn hp (thn (hc pins s1 σ1 H1 _ I1 (turn n σ1 H1 w1)) fun b s2 ⟨H2,I2,q2⟩=> ?_)
 cases b with
 | true=>
  obtain ⟨N,hN,q2⟩:=q2
  rw [if_pos rfl]
  refine wpAny_passesOwn hp (thn (hb pins s2 σ1 H2 _ I2 q2) fun f s3 q3=> ?_)
  cases f with
  | next=>
   obtain ⟨σ3,H3,I3,n3⟩:=q3
   obtain ⟨m',hm,w3⟩:=hN σ3 H3 n3
   exact ⟨m',hm,σ3,H3,I3,w3⟩
  | cont=>
   obtain ⟨σ3,H3,I3,n3⟩:=q3
   obtain ⟨m',hm,w3⟩:=hN σ3 H3 n3
   exact ⟨m',hm,σ3,H3,I3,w3⟩
  | brk=> exact q3
  | ret v=> exact q3
 | false=>
  rw [if_neg Bool.false_ne_true]
  exact wpAny_execs_nil ⟨σ1,H2,I2,q2⟩
end
structure It where
 go:Nat→Hp→Prop
 yld:Nat→Hp→V→Hp→Prop
 stop:Nat→Hp→Prop
def gS (X:Cx) (pins:List (Addr×Obj)) (H:Hp) (b:Addr):Prop:=
 H b=none∧b≠X.env.locals∧b ∉ X.fs∧(b∈X.ex∨X.s₀.heap.objs.size≤b)∧(∀ x c,X.env.cells.lookup x=some c→c≠b)∧∀ p∈X.pn++pins,p.1≠b
theorem Inv.fpOk {X:Cx} {pins:List (Addr×Obj)} {σ:St} {H H':Hp} {s:Shared} {b:Addr} (I:Inv X pins σ H s) (hb:s.heap.objs.size≤b) (hn:H' b=none):gS X pins H' b:=by
 refine ⟨hn,Nat.ne_of_gt (Nat.lt_of_lt_of_le I.lt hb),I.nofs hb,.inr (Nat.le_trans I.sz hb),fun x c e z=> ?_,fun p hp z=> ?_⟩
 ·obtain ⟨v,q⟩:=I.cell x c e
  exact absurd (Nat.lt_of_lt_of_le q.lt (by rw [z]; exact hb)) (Nat.lt_irrefl _)
 ·exact absurd (Nat.lt_of_lt_of_le (Heap.lt_size (I.pin p hp).1) (by rw [z]; exact hb)) (Nat.lt_irrefl _)
structure oF (P:Program) (w:World) (K:PySem.W.Frag) (tg:Expr) (J:It) (fp:List Addr) (it:Addr) (tn:Nat→Heap→Prop):Prop where
 mem:it∈fp
 obj:∀ i h,tn i h→∀ b∈fp,∃ o,h.get? b=some o∧∀ v,o.data≠.cell v
 keep:∀ i h h',tn i h→(∀ b∈fp,∀ o,h.get? b=some o→h'.get? b=some o)→tn i h'
 item:∀ (X:Cx),X.prog=P→X.w=w→X.K=K→X.calm=true→∀ (i:Nat) (pins:List (Addr×Obj)) (s:Shared) (σ:St) (H:Hp) (E:Value→Shared→Prop),Inv X pins σ H s→(∀ b∈fp,gS X pins H b)→tn i s.heap→J.go i H→
  wpAny (model P w) X.A (pyNext (.ref it)) (fun r s1=> ∃ u,r=some u∧
   wpAny (model P w) X.A (letOwnedTupleGo tg (.ref it) u) (fun _ s2=> ∃ x H',Inv X pins σ H' s2∧aL x u∧J.yld i H x H'∧tn (i+1) s2.heap∧∀ b∈fp,H' b=none) E s1) E s
 done:∀ (X:Cx),X.prog=P→X.w=w→X.K=K→X.calm=true→∀ (i:Nat) (pins:List (Addr×Obj)) (s:Shared) (σ:St) (H:Hp) (E:Value→Shared→Prop),Inv X pins σ H s→(∀ b∈fp,gS X pins H b)→tn i s.heap→J.stop i H→
  wpAny (model P w) X.A (pyNext (.ref it)) (fun r s1=> r=none∧Inv X pins σ H s1) E s
 self:∀ (A:Around) (i:Nat) (s:Shared) (Q:Value→Shared→Prop) (E:Value→Shared→Prop),tn i s.heap→Q (.ref it) s→wpAny (model P w) A (pyIter (.ref it)) Q E s
abbrev TI:=St→Hp→(It→Hp→Prop)→Prop
def PIE (X:Cx) (pins:List (Addr×Obj)) (σ:St) (tg:Expr) (R:It→Hp→Prop) (itv:Value) (s2:Shared):Prop:=
 ∃ (it:Addr) (fp:List Addr) (tn:Nat→Heap→Prop) (J:It) (H':Hp),itv=.ref it∧Inv X pins σ H' s2∧oF X.prog X.w X.K tg J fp it tn∧tn 0 s2.heap∧(∀ b∈fp,gS X pins H' b)∧R J H'
def PI (X:Cx) (tg iter:Expr) (wi:TI):Prop:=
 ∀ (pins:List (Addr×Obj)) (s:Shared) (σ:St) (H:Hp) (R:It→Hp→Prop),Inv X pins σ H s→wi σ H R→
  wpAny (model X.prog X.w) X.A (eval iter X.env) (fun v s1=> wpAny (model X.prog X.w) X.A (pyIter v) (PIE X pins σ tg R) X.xe s1) X.xe s
theorem lN {M:Model} {A:Around} {E:Value→Shared→Prop} {s:Shared} {tg:Expr} {it:Addr} {u:Value} {o:Obj} {n:String} {vs:Array Value} {Q:Unit→Shared→Prop} (ho:s.heap.get? it=some o) (hc:o.cls=.type n) (hd:o.data=.fields vs)
  (hn:["enumerate","zip","dict_itemiterator","dict_reverseitemiterator","odict_iterator","itertools.zip_longest","itertools.pairwise"].contains n=false) (hQ:Q () s):wpAny M A (letOwnedTupleGo tg (.ref it) u) Q E s:=by
 unfold letOwnedTupleGo
 cases tg <;> first
  | exact wpAny_pure hQ
  | (cases u <;> first
    | exact wpAny_pure hQ
    | (refine wpAny_bind (wpAny_load ho ?_)
       rw [hc,hd]
       show wpAny M A (if (["enumerate","zip","dict_itemiterator","dict_reverseitemiterator","odict_iterator","itertools.zip_longest","itertools.pairwise"].contains n && vs[0]?==some (rawInt _))=true then _ else _) Q E s
       rw [if_neg (by intro h; rw [hn,Bool.false_and] at h; cases h)]
       exact wpAny_pure hQ))
def Itl (K:PySem.W.Frag) (a:Addr):It:=
 ⟨fun i H=> ∃ xs x,SqL K H a xs∧xs[i]?=some x,fun i H x H'=> H'=H∧∀ xs,SqL K H a xs→xs[i]?=some x,fun i H=> ∃ xs,SqL K H a xs∧xs.length≤i⟩
def Itt (K:PySem.W.Frag) (a:Addr):It:=
 ⟨fun i H=> ∃ xs x,SqT K H a xs∧xs[i]?=some x,fun i H x H'=> H'=H∧∀ xs,SqT K H a xs→xs[i]?=some x,fun i H=> ∃ xs,SqT K H a xs∧xs.length≤i⟩
def Itr (lo:Int) (n:Nat):It:=⟨fun i _=> i < n,fun i H x H'=> H'=H∧x=.int (lo+i),fun i _=> n≤i⟩
theorem km {P:Program} {w:World} {K:PySem.W.Frag} {tg:Expr} (a it:Addr):oF P w K tg (Itl K a) [it] it (fun i h=> h.IsListIter it a i) where
 mem:=by simp
 obj:=fun i h st b hb=> by
  have e:b=it:=by simpa using hb
  subst e
  obtain ⟨o,e,c,d⟩:=st
  exact ⟨o,e,fun v z=> by rw [d] at z; cases z⟩
 keep:=fun i h h' st k=> st.at fun o e=> k it (by simp) o e
 item:=by
  intro X hP hw hK hc i pins s σ H E I hf st hg
  subst hP hw hK
  obtain ⟨xs,x,hq,hx⟩:=hg
  obtain ⟨its,rv,p,hz⟩:=I.list hq
  obtain ⟨u,hu,ru⟩:=rv.get hx
  obtain ⟨f0,f1,f2,f3,f4,f5⟩:=hf it (by simp)
  refine wpAny_pyNext_list_item st p.isList (x:=u) (by simpa using hu) fun h' st' sb=> ?_
  have I1:Inv X pins σ H { s with heap:=h' }:=I.turned (t':=s.toks) (fun b o hb e=> (sb.2 b hb).trans e) f0 f1 f3 f4 f5
  obtain ⟨o,e,c,d⟩:=id st'
  exact ⟨u,rfl,lN (s:={ s with heap:=h' }) e c d (by decide) ⟨x,H,I1,ru,⟨rfl,fun ys hy=> by rw [I.list_inj hy hq]; exact hx⟩,st',fun b hb=> (hf b hb).1⟩⟩
 done:=by
  intro X hP hw hK hc i pins s σ H E I hf st hg
  subst hP hw hK
  obtain ⟨xs,hq,hx⟩:=hg
  obtain ⟨its,rv,p,hz⟩:=I.list hq
  obtain ⟨f0,f1,f2,f3,f4,f5⟩:=hf it (by simp)
  have hl:=rv.length
  exact wpAny_pyNext_list_end (I.ok.hd hc) st p.isList (by simp; omega) fun h' eb=> ⟨rfl,I.turned (t':=s.toks) (fun b o hb e=> eb b o hb e) f0 f1 f3 f4 f5⟩
 self:=fun _ _ _ _ _ st h=> wpAny_pyIter_listiter st h
theorem jy {P:Program} {w:World} {K:PySem.W.Frag} {tg:Expr} (a it:Addr):oF P w K tg (Itt K a) [it] it (fun i h=> h.IsTupleIter it a i) where
 mem:=by simp
 obj:=fun i h st b hb=> by
  have e:b=it:=by simpa using hb
  subst e
  obtain ⟨o,e,c,d⟩:=st
  exact ⟨o,e,fun v z=> by rw [d] at z; cases z⟩
 keep:=fun i h h' st k=> st.at fun o e=> k it (by simp) o e
 item:=by
  intro X hP hw hK hc i pins s σ H E I hf st hg
  subst hP hw hK
  obtain ⟨xs,x,hq,hx⟩:=hg
  obtain ⟨its,rv,p,hz⟩:=I.tuple hq
  obtain ⟨u,hu,ru⟩:=rv.get hx
  obtain ⟨f0,f1,f2,f3,f4,f5⟩:=hf it (by simp)
  refine wpAny_pyNext_tuple_item st (show s.heap.IsTuple a its.toArray from p) (x:=u) (by simpa using hu) fun h' st' sb=> ?_
  have I1:Inv X pins σ H { s with heap:=h' }:=I.turned (t':=s.toks) (fun b o hb e=> (sb.2 b hb).trans e) f0 f1 f3 f4 f5
  obtain ⟨o,e,c,d⟩:=id st'
  exact ⟨u,rfl,lN (s:={ s with heap:=h' }) e c d (by decide) ⟨x,H,I1,ru,⟨rfl,fun ys hy=> by rw [I.tuple_inj hy hq]; exact hx⟩,st',fun b hb=> (hf b hb).1⟩⟩
 done:=by
  intro X hP hw hK hc i pins s σ H E I hf st hg
  subst hP hw hK
  obtain ⟨xs,hq,hx⟩:=hg
  obtain ⟨its,rv,p,hz⟩:=I.tuple hq
  obtain ⟨f0,f1,f2,f3,f4,f5⟩:=hf it (by simp)
  have hl:=rv.length
  exact wpAny_pyNext_tuple_end (I.ok.hd hc) st (show s.heap.IsTuple a its.toArray from p) (by simp; omega) fun h' eb=> ⟨rfl,I.turned (t':=s.toks) (fun b o hb e=> eb b o hb e) f0 f1 f3 f4 f5⟩
 self:=fun _ _ _ _ _ st h=> wpAny_pyIter_tupleiter st h
theorem jj {P:Program} {w:World} {K:PySem.W.Frag} {tg:Expr} (it:Addr) (lo:Int) (n:Nat):oF P w K tg (Itr lo n) [it] it (fun i h=> IsRangeIter h it (lo+(i:Nat) * 1) ((n:Int) - (i:Nat)) 1) where
 mem:=by simp
 obj:=fun i h st b hb=> by
  have e:b=it:=by simpa using hb
  subst e
  exact ⟨_,st,fun v z=> by
   have z':Data.fields _=Data.cell v:=z
   cases z'⟩
 keep:=fun i h h' st k=> k it (by simp) _ st
 item:=by
  intro X hP hw hK hc i pins s σ H E I hf st hg
  subst hP hw hK
  obtain ⟨f0,f1,f2,f3,f4,f5⟩:=hf it (by simp)
  have W:=Walks.range (prog:=X.prog) (w:=X.w) (I.ok.hd hc) it lo 1 n
  refine W.item i s _ _ hg st fun v h' tk hv st' kk=> ?_
  obtain ⟨t,rfl⟩:=hv
  have I1:Inv X pins σ H { s with heap:=h',toks:=tk }:=I.turned (fun b o hb e=> kk b o (by simpa using hb) e) f0 f1 f3 f4 f5
  refine ⟨_,rfl,lN (s:={ s with heap:=h',toks:=tk }) (n:="range_iterator") st' rfl rfl (by decide) ⟨.int (lo+i),H,I1,⟨t,?_⟩,⟨rfl,rfl⟩,st',fun b hb=> (hf b hb).1⟩⟩
  rw [Int.mul_one]
 done:=by
  intro X hP hw hK hc i pins s σ H E I hf st hg
  subst hP hw hK
  obtain ⟨f0,f1,f2,f3,f4,f5⟩:=hf it (by simp)
  exact wpAny_pyNext_range_end (I.ok.hd hc) st (by have:n≤i:=hg; omega) fun h' eb=> ⟨rfl,I.turned (t':=s.toks) (fun b o hb e=> eb b o hb e) f0 f1 f3 f4 f5⟩
 self:=fun _ _ _ _ _ st h=> wpAny_pyIter_rangeiter st h
end L2
namespace L2
open PySem PySem.Spec PyProof.Rows
section
variable {X:Cx} {tg:Expr}
def rH (K:PySem.W.Frag) (tl:TE):TI:=fun σ H R=> tl σ H fun x H1=> ∃ a,x=.ref a∧(∃ xs,SqL K H1 a xs)∧R (Itl K a) H1
def rZ (K:PySem.W.Frag) (tl:TE):TI:=fun σ H R=> tl σ H fun x H1=> ∃ a,x=.ref a∧(∃ xs,SqT K H1 a xs)∧R (Itt K a) H1
theorem nN {l:Expr} {tl:TE} (hl:PE X l tl):PI X tg l (rH X.K tl):=by
 intro pins s σ H R I h
 refine thn (hl pins s σ H _ I h) fun v s1 ⟨x,H1,I1,r1,q1⟩=> ?_
 obtain ⟨a,e,⟨xs,hq⟩,q⟩:=q1
 subst e
 cases r1
 obtain ⟨its,rv,p,hz⟩:=I1.list hq
 refine wpAny_pyIter_list p.isList ?_
 refine ⟨s1.heap.objs.size,[s1.heap.objs.size],_,_,H1,rfl,I1.kept (t':=s1.toks) fun b o e=> Heap.get?_push_of_some _ e,km a _,⟨_,Heap.get?_push_size _ rfl,rfl,rfl⟩,fun b hb=> ?_,q⟩
 have e:b=s1.heap.objs.size:=by simpa using hb
 subst e
 exact I1.fpOk (Nat.le_refl _) (I1.hok.fresh (Nat.le_refl _))
theorem qz {l:Expr} {tl:TE} (hl:PE X l tl):PI X tg l (rZ X.K tl):=by
 intro pins s σ H R I h
 refine thn (hl pins s σ H _ I h) fun v s1 ⟨x,H1,I1,r1,q1⟩=> ?_
 obtain ⟨a,e,⟨xs,hq⟩,q⟩:=q1
 subst e
 cases r1
 obtain ⟨its,rv,p,hz⟩:=I1.tuple hq
 refine wpAny_pyIter_tuple (show s1.heap.IsTuple a its.toArray from p) ?_
 refine ⟨s1.heap.objs.size,[s1.heap.objs.size],_,_,H1,rfl,I1.kept (t':=s1.toks) fun b o e=> Heap.get?_push_of_some _ e,jy a _,⟨_,Heap.get?_push_size _ rfl,rfl,rfl⟩,fun b hb=> ?_,q⟩
 have e:b=s1.heap.objs.size:=by simpa using hb
 subst e
 exact I1.fpOk (Nat.le_refl _) (I1.hok.fresh (Nat.le_refl _))
theorem iZ {pins:List (Addr×Obj)} {σ:St} {H:Hp} {s:Shared} {R:It→Hp→Prop} {E:Value→Shared→Prop} {lo hi:Int} {t u v:Tok} {tk:Nat} (I:Inv X pins σ H s) (h1:-(2 ^ 62)≤lo) (h2:lo < 2 ^ 62) (h3:-(2 ^ 62)≤hi) (h4:hi < 2 ^ 62)
  (q:R (Itr lo (hi - lo).toNat) H):wpAny (model X.prog X.w) X.A (pyIter (.ref s.heap.objs.size)) (PIE X pins σ tg R) E { s with heap:=s.heap.push { cls:=.type "range",data:=.fields #[.int lo t,.int hi u,.int 1 v] },toks:=tk }:=by
 refine wpAny_pyIter_range (IsRange.new ..) (small_one h1 h2 h3 h4) ?_
 have I1:Inv X pins σ H { s with heap:=s.heap.push { cls:=.type "range",data:=.fields #[.int lo t,.int hi u,.int 1 v] },toks:=tk }:=I.kept fun b o e=> Heap.get?_push_of_some _ e
 refine ⟨(s.heap.push { cls:=.type "range",data:=.fields #[.int lo t,.int hi u,.int 1 v] }).objs.size,[(s.heap.push { cls:=.type "range",data:=.fields #[.int lo t,.int hi u,.int 1 v] }).objs.size],_,_,H,rfl,
  I1.kept (t':=tk) fun b o e=> Heap.get?_push_of_some _ e,jj _ lo (hi - lo).toNat,?_,fun b hb=> ?_,q⟩
 ·have e1:lo+((0:Nat):Int) * 1=lo:=by simp
  have e2:(((hi - lo).toNat:Nat):Int) - ((0:Nat):Int)=Builtin.Range.rangeSize lo hi 1:=by rw [rangeSize_one]; split <;> omega
  show IsRangeIter _ _ (lo+((0:Nat):Int) * 1) ((((hi - lo).toNat:Nat):Int) - ((0:Nat):Int)) 1
  rw [e1,e2]
  exact Heap.get?_push_size _ rfl
 ·have e:b=(s.heap.push { cls:=.type "range",data:=.fields #[.int lo t,.int hi u,.int 1 v] }).objs.size:=by simpa using hb
  subst e
  exact I1.fpOk (Nat.le_refl _) (I1.hok.fresh (Nat.le_refl _))
def rL (ta:TA):TI:=fun σ H R=> ta σ H fun vs H1=> ∃ j:Int,vs=[.int j]∧-(2 ^ 62)≤j∧j < 2 ^ 62∧R (Itr 0 j.toNat) H1
def q9 (ta:TA):TI:=fun σ H R=> ta σ H fun vs H1=> ∃ i j:Int,vs=[.int i,.int j]∧(-(2 ^ 62)≤i∧i < 2 ^ 62∧-(2 ^ 62)≤j∧j < 2 ^ 62)∧R (Itr i (j - i).toNat) H1
theorem kC {a:Expr} {ta:TA} {p pos:Pos} (hg:Gl X "range") (hm:X.mg "range"=none) (ha:PA X [a] ta) (hs:starEach [a] X.env=[(false,eval a X.env)]:=by rfl):PI X tg (.Call (.Name "range" p) [a] [] pos) (rL ta):=by
 intro pins s σ H R I h
 refine Call_ (cW I hg hm boot_range (PyProof.Rows.callWith_type1 (thn (ha pos pins s σ H _ I h) fun us s1 ⟨vs,H1,I1,r1,q1⟩=> ?_) hs rfl))
 obtain ⟨j,e,q1,q2,q⟩:=q1
 subst e
 cases r1 with
 | cons r rr=>
  cases rr
  obtain ⟨t,rfl⟩:=r
  exact call_range_1 (iZ I1 (by omega) (by omega) q1 q2 (by simpa using q))
theorem kz {a b:Expr} {ta:TA} {p pos:Pos} (hg:Gl X "range") (hm:X.mg "range"=none) (ha:PA X [a,b] ta) (hs:starEach [a,b] X.env=[(false,eval a X.env),(false,eval b X.env)]:=by rfl) (hs2:starEach [b] X.env=[(false,eval b X.env)]:=by rfl):
  PI X tg (.Call (.Name "range" p) [a,b] [] pos) (q9 ta):=by
 intro pins s σ H R I h
 refine Call_ (cW I hg hm boot_range (PyProof.Rows.callWith_type1 (thn (ha pos pins s σ H _ I h) fun us s1 ⟨vs,H1,I1,r1,q1⟩=> ?_) (by rw [hs,hs2]) (by rw [hs2]; rfl)))
 obtain ⟨i,j,e,⟨q1,q2,q3,q4⟩,q⟩:=q1
 subst e
 cases r1 with
 | cons r rr=>
  cases rr with
  | cons r' rr=>
   cases rr
   obtain ⟨t,rfl⟩:=r
   obtain ⟨t',rfl⟩:=r'
   exact call_range_2 (iZ I1 q1 q2 q3 q4 q)
def sE (wi:TI) (g:TG) (tb:TS):TS:=fun D σ H=> wi σ H fun J H1=> ∃ W:Nat→Nat→St→Hp→Prop,(∃ m,W 0 m σ H1)∧∀ i m σ H,W i m σ H→
 (J.stop i H∧D.nx σ H)∨(J.go i H∧∃ N:St→Hp→Prop,(∀ σ' H',N σ' H'→∃ m',m' < m∧W (i+1) m' σ' H')∧∀ x H',J.yld i H x H'→g x σ H' fun σ2 H2=> tb { D with nx:=N,ct:=N,bk:=D.nx } σ2 H2)
def gQ (fp:List Addr) (h:Heap):List (Addr×Obj):=fp.filterMap fun b=> (h.get? b).map fun o=> (b,o)
theorem cY {fp:List Addr} {h:Heap} {b:Addr} {o:Obj} (hb:b∈fp) (e:h.get? b=some o):(b,o)∈gQ fp h:=List.mem_filterMap.mpr ⟨b,hb,by rw [e]; rfl⟩
theorem kU {fp:List Addr} {h:Heap} {p:Addr×Obj} (hp:p∈gQ fp h):p.1∈fp∧h.get? p.1=some p.2:=by
 obtain ⟨b,hb,e⟩:=List.mem_filterMap.mp hp
 cases q:h.get? b with
 | none=> rw [q] at e; cases e
 | some o=>
  rw [q] at e
  have e':(b,o)=p:=Option.some.inj e
  subst e'
  exact ⟨hb,q⟩
theorem Inv.pinned {pins:List (Addr×Obj)} {σ:St} {H:Hp} {s:Shared} {fp:List Addr} (I:Inv X pins σ H s) (hf:∀ b∈fp,gS X pins H b) (ho:∀ b∈fp,∃ o,s.heap.get? b=some o∧∀ v,o.data≠.cell v):Inv X (pins++gQ fp s.heap) σ H s:=
 I.pins_of fun p hp=> (List.mem_append.mp hp).elim (fun z=> I.pin p (List.mem_append_right _ z)) fun z=> by
  obtain ⟨hb,e⟩:=kU z
  obtain ⟨f0,f1,f2,_⟩:=hf p.1 hb
  obtain ⟨o,e',d⟩:=ho p.1 hb
  rw [e] at e'; cases e'
  exact ⟨e,f0,f1,f2,d⟩
theorem Inv.unpinned {pins pl:List (Addr×Obj)} {σ:St} {H:Hp} {s:Shared} (I:Inv X (pins++pl) σ H s):Inv X pins σ H s:=I.pins_of fun p hp=> I.pin p (List.mem_append_right _ (List.mem_append_left _ hp))
theorem qB {iter:Expr} {body:List Stmt} {wi:TI} {g:TG} {tb:TS} {pos:Pos} (hp:PassesOwn (model X.prog X.w) X.A X.env X.xe) (hc:X.calm=true) (hi:PI X tg iter wi) (hg:PG X tg g) (hb:PSs X body tb)
  (hs:∀ x,foldedSetIterable iter X.env x=pure x:=by intro _; rfl):PS X (.For tg iter body [] pos) (sE wi g tb):=by
 intro pins s σ H D I h
 refine wpAny_For (thn (hi pins s σ H _ I h) fun v s1 h1=> thn h1 fun itv s2 h2=> ?_) hs
 obtain ⟨it,fp,tn,J,H2,e,I2,T,st2,f2,W,⟨m0,w0⟩,turn⟩:=h2
 subst e
 have stat:∀ {H':Hp},(∀ b∈fp,H' b=none)→∀ b∈fp,gS X pins H' b:=fun hn b hb=> ⟨hn b hb,(f2 b hb).2⟩
 refine codeAny_forLoop_any (fun n s'=> ∃ i σ' H',Inv X pins σ' H' s'∧tn i s'.heap∧(∀ b∈fp,H' b=none)∧W i n σ' H') ?_ m0 ⟨0,σ,H2,I2,st2,fun b hb=> (f2 b hb).1,w0⟩
 rintro n s3 ⟨i,σ3,H3,I3,st3,fr3,w3⟩
 rcases turn i n σ3 H3 w3 with ⟨stop,qn⟩ | ⟨go,N,hN,step⟩
 ·refine wpAny_passesOwn hp (thn (T.done X rfl rfl rfl hc i pins s3 σ3 H3 X.xe I3 (stat fr3) st3 stop) fun r s4 ⟨hr,I4⟩=> ?_)
  subst hr
  exact wpAny_execs_nil ⟨σ3,H3,I4,qn⟩
 ·refine wpAny_passesOwn hp (thn (T.item X rfl rfl rfl hc i pins s3 σ3 H3 X.xe I3 (stat fr3) st3 go) fun r s4 ⟨u,hr,h4⟩=> ?_)
  subst hr
  refine wpAny_passesOwn hp (thn h4 fun _ s5 ⟨x,H5,I5,r5,y5,st5,fr5⟩=> ?_)
  have I5':=I5.pinned (stat fr5) (T.obj _ _ st5)
  refine wpAny_passesOwn hp (thn (hg _ s5 σ3 H5 x u _ I5' r5 (step x H5 y5)) fun _ s6 ⟨σ6,H6,I6,q6⟩=> ?_)
  refine wpAny_passesOwn hp (thn (hb _ s6 σ6 H6 _ I6 q6) fun f s7 q7=> ?_)
  have again:∀ {σ7:St} {H7:Hp},Inv X (pins++gQ fp s5.heap) σ7 H7 s7→N σ7 H7→∃ m,m < n∧∃ i σ' H',Inv X pins σ' H' s7∧tn i s7.heap∧(∀ b∈fp,H' b=none)∧W i m σ' H':=fun {σ7 H7} I7 n7=> by
   obtain ⟨m',hm,w7⟩:=hN σ7 H7 n7
   refine ⟨m',hm,i+1,σ7,H7,I7.unpinned,T.keep _ _ _ st5 fun b hb o e=> (I7.pin (b,o) (List.mem_append_right _ (List.mem_append_right _ (cY hb e)))).1,fun b hb=> ?_,w7⟩
   obtain ⟨o,e,d⟩:=T.obj _ _ st5 b hb
   exact (I7.pin (b,o) (List.mem_append_right _ (List.mem_append_right _ (cY hb e)))).2.1
  cases f with
  | next=> obtain ⟨σ7,H7,I7,n7⟩:=q7; exact again I7 n7
  | cont=> obtain ⟨σ7,H7,I7,n7⟩:=q7; exact again I7 n7
  | brk=> obtain ⟨σ7,H7,I7,q7⟩:=q7; exact ⟨σ7,H7,I7.unpinned,q7⟩
  | ret v=> obtain ⟨x7,σ7,H7,I7,r7,q7⟩:=q7; exact ⟨x7,σ7,H7,I7.unpinned,r7,q7⟩
end
end L2
namespace L2
open PySem PySem.Spec PyProof.Rows
abbrev R2:=V→V→Hp→VK→Prop
def OpR (X:Cx) (f:Value→Value→Sem Value) (r:R2):Prop:=
 ∀ (pins:List (Addr×Obj)) (s:Shared) (σ:St) (H:Hp) (x y:V) (v u:Value) (Q:VK),Inv X pins σ H s→aL x v→aL y u→r x y H Q→
  wpAny (model X.prog X.w) X.A (f v u) (EP X pins σ Q) X.xe s
def UnR (X:Cx) (f:Value→Sem Value) (r:V→Hp→VK→Prop):Prop:=
 ∀ (pins:List (Addr×Obj)) (s:Shared) (σ:St) (H:Hp) (x:V) (v:Value) (Q:VK),Inv X pins σ H s→aL x v→r x H Q→
  wpAny (model X.prog X.w) X.A (f v) (EP X pins σ Q) X.xe s
def cw (X:Cx) (f:Value) (r:List V→Hp→VK→Prop):Prop:=
 ∀ (pins:List (Addr×Obj)) (s:Shared) (σ:St) (H:Hp) (xs:List V) (us:List Value) (Q:VK),Inv X pins σ H s→av xs us→r xs H Q→
  wpAny (model X.prog X.w) X.A (call f us) (EP X pins σ Q) X.xe s
def tOp (r:R2) (ta tb:TE):TE:=fun σ H Q=> ta σ H fun x H1=> tb σ H1 fun y H2=> r x y H2 Q
def tUn (r:V→Hp→VK→Prop) (ta:TE):TE:=fun σ H Q=> ta σ H fun x H1=> r x H1 Q
def rI (C:Int→Int→Prop) (g:Int→Int→V):R2:=fun x y H Q=> ∃ i j,x=.int i∧y=.int j∧C i j∧Q (g i j) H
def rI0 (g:Int→Int→V):R2:=fun x y H Q=> ∃ i j,x=.int i∧y=.int j∧Q (g i j) H
def rU (g:Int→V):V→Hp→VK→Prop:=fun x H Q=> ∃ i,x=.int i∧Q (g i) H
section
variable {X:Cx} {a b c:Expr} {ta tb tc:TE} {pos:Pos}
theorem pG (ha:PE X a ta) (hb:PE X b tb) {pins:List (Addr×Obj)} {s:Shared} {σ:St} {H:Hp} {R:V→V→Hp→Prop} (I:Inv X pins σ H s)
  (h:ta σ H fun x H1=> tb σ H1 fun y H2=> R x y H2) {Q:Value→Shared→Prop} {f:Value→Value→Sem Value}
  (hf:∀ v u s2 x y H2,Inv X pins σ H2 s2→aL x v→aL y u→R x y H2→wpAny (model X.prog X.w) X.A (f v u) Q X.xe s2):
  wpAny (model X.prog X.w) X.A (eval a X.env) (fun v s₁=> wpAny (model X.prog X.w) X.A (eval b X.env) (fun u s₂=> wpAny (model X.prog X.w) X.A (f v u) Q X.xe s₂) X.xe s₁) X.xe s:=by
 refine thn (ha pins s σ H _ I h) fun v s1 ⟨x,H1,I1,r1,q1⟩=> ?_
 refine thn (hb pins s1 σ H1 _ I1 q1) fun u s2 ⟨y,H2,I2,r2,q2⟩=> ?_
 exact hf v u s2 x y H2 I2 r1 r2 q2
theorem mj {op:Operator} {r:R2} (ho:OpR X (binaryOp op) r) (ha:PE X a ta) (hb:PE X b tb):PE X (.BinOp a op b pos) (tOp r ta tb):=by
 intro pins s σ H Q I h
 exact wpAny_BinOp (pG ha hb I h fun v u s2 x y H2 I2 rx ry q=> ho pins s2 σ H2 x y v u Q I2 rx ry q)
theorem qO {op:UnaryOp} {r:V→Hp→VK→Prop} (ho:UnR X (unaryOp op) r) (ha:PE X a ta):PE X (.UnaryOp op a pos) (tUn r ta):=by
 intro pins s σ H Q I h
 exact UnaryOp_ (thn (ha pins s σ H _ I h) fun v s1 ⟨x,H1,I1,r1,q1⟩=> ho pins s1 σ H1 x v Q I1 r1 q1)
theorem opI {f:Value→Value→Sem Value} {C:Int→Int→Prop} {g:Int→Int→Int}
  (rule:∀ (i j:Int) (t u:Tok) (s:Shared) (Q:Value→Shared→Prop) (E:Value→Shared→Prop),C i j→Q (.int (g i j) s.toks) { s with toks:=s.toks+1 }→wpAny (model X.prog X.w) X.A (f (.int i t) (.int j u)) Q E s):
  OpR X f (rI C fun i j=> .int (g i j)):=by
 intro pins s σ H x y v u Q I rx ry h
 obtain ⟨i,j,rfl,rfl,hc,q⟩:=h
 obtain ⟨t,rfl⟩:=rx
 obtain ⟨t',rfl⟩:=ry
 exact rule i j t t' s _ _ hc ⟨.int (g i j),H,I.tok _,⟨_,rfl⟩,q⟩
theorem rJ {f:Value→Value→Sem Value} {g:Int→Int→Int}
  (rule:∀ (i j:Int) (t u:Tok) (s:Shared) (Q:Value→Shared→Prop) (E:Value→Shared→Prop),Q (.int (g i j) s.toks) { s with toks:=s.toks+1 }→wpAny (model X.prog X.w) X.A (f (.int i t) (.int j u)) Q E s):
  OpR X f (rI0 fun i j=> .int (g i j)):=by
 intro pins s σ H x y v u Q I rx ry h
 obtain ⟨i,j,rfl,rfl,q⟩:=h
 obtain ⟨t,rfl⟩:=rx
 obtain ⟨t',rfl⟩:=ry
 exact rule i j t t' s _ _ ⟨.int (g i j),H,I.tok _,⟨_,rfl⟩,q⟩
theorem pR {f:Value→Value→Sem Value} {g:Int→Int→Bool}
  (rule:∀ (i j:Int) (t u:Tok) (s:Shared) (Q:Value→Shared→Prop) (E:Value→Shared→Prop),Q (.bool (g i j)) s→wpAny (model X.prog X.w) X.A (f (.int i t) (.int j u)) Q E s):
  OpR X f (rI0 fun i j=> .bl (g i j)):=by
 intro pins s σ H x y v u Q I rx ry h
 obtain ⟨i,j,rfl,rfl,q⟩:=h
 obtain ⟨t,rfl⟩:=rx
 obtain ⟨t',rfl⟩:=ry
 exact rule i j t t' s _ _ ⟨.bl (g i j),H,I,rfl,q⟩
def rh (i j:Int):Prop:=0≤j∧j≤1000000∧i.natAbs < 2 ^ 64
theorem p4:OpR X (binaryOp .Add) (rI0 fun i j=> .int (i+j)):=rJ fun _ _ _ _ _ _ _ q=> add_int q
theorem pN:OpR X (binaryOp .Sub) (rI0 fun i j=> .int (i - j)):=rJ fun _ _ _ _ _ _ _ q=> sub_int q
theorem pQ:OpR X (binaryOp .Mod) (rI (fun _ j=> 0 < j) fun i j=> .int (i % j)):=opI fun i j _ _ _ _ _ hc q=> by
 have h1:(0:Int) < j:=hc
 exact mod_int' (by omega) (by rw [Int.fmod_eq_emod_of_nonneg i (by omega)]; exact q)
theorem pY:OpR X (binaryOp .Pow) (rI rh fun i j=> .int (i ^ j.toNat)):=opI fun _ _ _ _ _ _ _ hc q=> pow_int_small hc.1 hc.2.1 hc.2.2 q
theorem unI {f:Value→Sem Value} {g:Int→Int}
  (rule:∀ (i:Int) (t:Tok) (s:Shared) (Q:Value→Shared→Prop) (E:Value→Shared→Prop),Q (.int (g i) s.toks) { s with toks:=s.toks+1 }→wpAny (model X.prog X.w) X.A (f (.int i t)) Q E s):
  UnR X f (rU fun i=> .int (g i)):=by
 intro pins s σ H x v Q I rx h
 obtain ⟨i,rfl,q⟩:=h
 obtain ⟨t,rfl⟩:=rx
 exact rule i t s _ _ ⟨.int (g i),H,I.tok _,⟨_,rfl⟩,q⟩
theorem ql:UnR X (unaryOp .USub) (rU fun i=> .int (-i)):=unI fun _ _ _ _ _ q=> neg_int q
end
def rS:V→V→Bool
 | .non,.non=> true | .non,.int _=> true | .int _,.non=> true | .non,.bl _=> true | .bl _,.non=> true | .non,.str _=> true | .str _,.non=> true
 | .int _,.int _=> true | .bl _,.bl _=> true | .str _,.str _=> true | .byt _,.byt _=> true
 | .int _,.str _=> true | .str _,.int _=> true | .bl _,.str _=> true | .str _,.bl _=> true
 | _,_=> false
def rEq:R2:=fun x y H Q=> rS x y=true∧Q (.bl (decide (x=y))) H
theorem j8 {i j:Int}:decide (V.int i=V.int j)=(i==j):=by
 rw [Bool.eq_iff_iff]
 simp
theorem o_ {i j:Bool}:decide (V.bl i=V.bl j)=(i==j):=by
 rw [Bool.eq_iff_iff]
 simp
theorem oy {i j:Str}:decide (V.str i=V.str j)=(i==j):=by
 rw [Bool.eq_iff_iff]
 simp
theorem nP {i j:Array UInt8}:decide (V.byt i=V.byt j)=(i.toList==j.toList):=by
 rw [Bool.eq_iff_iff]
 cases i
 cases j
 simp
section
variable {X:Cx} {a b c:Expr} {ta tb tc:TE} {pos:Pos}
theorem bn {pins:List (Addr×Obj)} {σ:St} {H:Hp} {s:Shared} {Q:VK} {k k':Bool} (I:Inv X pins σ H s) (q:Q (.bl k) H) (e:k=k'):EP X pins σ Q (.bool k') s:=by
 subst e
 exact ⟨.bl k,H,I,rfl,q⟩
theorem rG:OpR X (compareOp .Eq) rEq:=by
 intro pins s σ H x y v u Q I rx ry h
 obtain ⟨hs,q⟩:=h
 cases x with
 | non=>
  cases rx
  cases y with
  | non=> cases ry; exact PySem.EqNone.eq_none_none (bn I q (by simp))
  | bl j=> cases ry; exact PySem.EqNone.eq_none_bool (bn I q (by simp))
  | int j=> obtain ⟨t',rfl⟩:=ry; exact PySem.EqNone.eq_none_int (bn I q (by simp))
  | str j=> obtain ⟨t',rfl⟩:=ry; exact PySem.EqNone.eq_none_str (bn I q (by simp))
  | _=> exact absurd (show false=true from hs) Bool.false_ne_true
 | bl i=>
  cases rx
  cases y with
  | non=> cases ry; exact PySem.EqNone.eq_bool_none (bn I q (by simp))
  | bl j=> cases ry; exact eq_bool (bn I q o_)
  | str j=> obtain ⟨t',rfl⟩:=ry; exact PySem.EqMixed.eq_bool_str (bn I q (by simp))
  | _=> exact absurd (show false=true from hs) Bool.false_ne_true
 | int i=>
  obtain ⟨t,rfl⟩:=rx
  cases y with
  | non=> cases ry; exact PySem.EqNone.eq_int_none (bn I q (by simp))
  | int j=> obtain ⟨t',rfl⟩:=ry; exact eq_int (bn I q j8)
  | str j=> obtain ⟨t',rfl⟩:=ry; exact PySem.EqMixed.eq_int_str (bn I q (by simp))
  | _=> exact absurd (show false=true from hs) Bool.false_ne_true
 | str i=>
  obtain ⟨t,rfl⟩:=rx
  cases y with
  | non=> cases ry; exact PySem.EqNone.eq_str_none (bn I q (by simp))
  | bl j=> cases ry; exact PySem.EqMixed.eq_str_bool (bn I q (by simp))
  | int j=> obtain ⟨t',rfl⟩:=ry; exact PySem.EqMixed.eq_str_int (bn I q (by simp))
  | str j=> obtain ⟨t',rfl⟩:=ry; exact eq_str (bn I q oy)
  | _=> exact absurd (show false=true from hs) Bool.false_ne_true
 | byt i=>
  obtain ⟨t,rfl⟩:=rx
  cases y with
  | byt j=> obtain ⟨t',rfl⟩:=ry; exact PySem.W.eq_bytes (bn I q nP)
  | _=> exact absurd (show false=true from hs) Bool.false_ne_true
 | _=> cases y <;> exact absurd (show false=true from hs) Bool.false_ne_true
theorem rF:OpR X (compareOp .Lt) (rI0 fun i j=> .bl (decide (i < j))):=pR fun _ _ _ _ _ _ _ q=> lt_int q
theorem rC:OpR X (compareOp .LtE) (rI0 fun i j=> .bl (decide (i≤j))):=pR fun _ _ _ _ _ _ _ q=> le_int q
theorem rn:OpR X (compareOp .Gt) (rI0 fun i j=> .bl (decide (j < i))):=pR fun _ _ _ _ _ _ _ q=> gt_int q
theorem ma (b:Expr) {op:CmpOp} (h:op≠.In:=by decide) (h2:op≠.NotIn:=by decide):behindInMarks op b=false:=by
 have e1:(op==CmpOp.In)=false:=by cases op <;> first | rfl | exact absurd rfl h
 have e2:(op==CmpOp.NotIn)=false:=by cases op <;> first | rfl | exact absurd rfl h2
 cases b <;> simp [behindInMarks,e1,e2]
theorem ou {op:CmpOp} {r:R2} (ho:OpR X (compareOp op) r) (ha:PE X a ta) (hb:PE X b tb) (hm:behindInMarks op b=false):PE X (.Compare a [op] [b] pos) (tOp r ta tb):=by
 intro pins s σ H Q I h
 exact wpAny_Compare1 (pG ha hb I h fun v u s2 x y H2 I2 rx ry q=> ho pins s2 σ H2 x y v u Q I2 rx ry q) hm
def rc (t:TE):TT:=fun σ H Q=> t σ H fun x H'=> ∃ k,x=.bl k∧Q k H'
theorem nM {op:CmpOp} {r:R2} (ho:OpR X (compareOp op) r) (ha:PE X a ta) (hb:PE X b tb) (hm:behindInMarks op b=false):PT X (.Compare a [op] [b] pos) (rc (tOp r ta tb)):=by
 intro pins s σ H Q I h
 refine wpAny_isTrue_Compare1 (thn (ha pins s σ H _ I h) fun v s1 ⟨x,H1,I1,r1,q1⟩=> thn (hb pins s1 σ H1 _ I1 q1) fun u s2 ⟨y,H2,I2,r2,q2⟩=>
  thn (ho pins s2 σ H2 x y v u _ I2 r1 r2 q2) fun c s3 ⟨z,H3,I3,r3,k,e,q3⟩=> ?_) hm
 subst e
 cases r3
 exact wpAny_truthy_bool ⟨H3,I3,q3⟩
theorem gR:(sizeLine:Nat) < 2 ^ 63:=by rw [sizeLine_eq]; decide
theorem jM {x:V} {us:List Value} (r:av [x] us):∃ u,us=[u]∧aL x u:=by
 cases r with
 | cons r1 r2=> cases r2; exact ⟨_,rfl,r1⟩
theorem jJ {x y:V} {us:List Value} (r:av [x,y] us):∃ u w',us=[u,w']∧aL x u∧aL y w':=by
 cases r with
 | cons r1 r2=>
  cases r2 with
  | cons r3 r4=> cases r4; exact ⟨_,_,rfl,r1,r3⟩
theorem kF (hc:X.calm=true):cw X (.builtin "max") (fun xs H Q=> ∃ i j,xs=[.int i,.int j]∧Q (.int (if j > i then j else i)) H):=by
 intro pins s σ H xs us Q I r h
 obtain ⟨i,j,rfl,q⟩:=h
 obtain ⟨u,w',rfl,⟨t,rfl⟩,⟨t',rfl⟩⟩:=jJ r
 refine max_two_ints (I.ok.hd hc) fun h' tk k=> ⟨_,H,I.kept k,?_,q⟩
 by_cases hj:j > i
 ·rw [if_pos hj,if_pos hj]; exact ⟨_,rfl⟩
 ·rw [if_neg hj,if_neg hj]; exact ⟨_,rfl⟩
theorem lg (hc:X.calm=true):cw X (.builtin "min") (fun xs H Q=> ∃ i j,xs=[.int i,.int j]∧Q (.int (if j < i then j else i)) H):=by
 intro pins s σ H xs us Q I r h
 obtain ⟨i,j,rfl,q⟩:=h
 obtain ⟨u,w',rfl,⟨t,rfl⟩,⟨t',rfl⟩⟩:=jJ r
 refine min_two_ints (I.ok.hd hc) fun h' tk k=> ⟨_,H,I.kept k,?_,q⟩
 by_cases hj:j < i
 ·rw [if_pos hj,if_pos hj]; exact ⟨_,rfl⟩
 ·rw [if_neg hj,if_neg hj]; exact ⟨_,rfl⟩
end
end L2
namespace L2
open PySem PySem.Spec PyProof.Rows
structure p0 (h:Heap) (x dx C:Addr) (mA:Str→Option Value):Prop where
 obj:h.get? x=some (PySem.W.instObj C dx)
 ns:h.Ns1 dx mA
 ne:dx≠x
theorem kD {h:Heap} {dx:Addr} {mA:Str→Option Value} (n:h.Ns1 dx mA):∃ od,h.get? dx=some od∧∀ name,PySem.W.lookIn name od=some (mA name):=by
 obtain ⟨o,es,ep,ho,hd,hk,_,hm⟩:=n
 refine ⟨o,ho,fun name=> ?_⟩
 have e:=hm name
 unfold nsFind findBy at e
 rw [← Array.find?_toList] at e
 unfold PySem.W.lookIn
 rw [hd]
 dsimp only
 split
 ·rename_i y q
  rw [q] at e
  exact congrArg some e
 ·rename_i q
  rw [q] at e
  have a:es.toList.any (·.refKey)=false:=by
   rw [List.any_eq_false]
   intro y hy
   obtain ⟨z,t,hkey⟩:=hk y (Array.mem_toList_iff.mp hy)
   simp [DictEntry.refKey,hkey]
  have a':¬ es.toList.any (·.refKey)=true:=by rw [a]; exact Bool.false_ne_true
  rw [if_neg a']
  exact congrArg some e
theorem p0.look {h:Heap} {x dx C:Addr} {mA:Str→Option Value} (I:p0 h x dx C mA):∃ od,PySem.W.InstAt h x (PySem.W.instObj C dx) C (some od)∧∀ name,PySem.W.lookIn name od=some (mA name):=
 let ⟨od,ho,hl⟩:=kD I.ns
 ⟨od,⟨I.obj,rfl,rfl,ho⟩,hl⟩
section
variable {prog:Program} {w:World} {A:Around} {E:Value→Shared→Prop} {s:Shared} {K:PySem.W.Frag} {x dx C f:Addr} {mA:Str→Option Value} {name:Str} {v:Value}
end
section
variable {P:Program} {w:World} {H H':Hp} {h h':Heap} {a C dx:Addr} {fs fs':List (Str×V)}
theorem nz (hok:HOk P w H h) (e:H a=some (.ins C dx fs)):∃ mA,p0 h a dx C mA∧(∀ f,qa (fs.lookup f) (mA f))∧PySem.Within mA (fs.map (·.1))∧fs.length≤1000∧H dx=some (.own a):=by
 obtain ⟨d,z,ne,ob,mA,n,r,q⟩:=(show bN P w H h a (.ins C dx fs) from hok a _ e)
 exact ⟨mA,⟨ob,n,ne⟩,r,q,z,d⟩
end
structure Cls (K:PySem.W.Frag) (C:Addr):Prop where
 pg:PySem.W.plainGet K C Str.empty=true
 hd:PySem.W.hasDictIn K C=true
 po:PySem.W.plainOver K C=true
 sa:PySem.W.findIn K (.ref C) "__setattr__"=some (some (.builtin "object.__setattr__"))
theorem Cls.get {K:PySem.W.Frag} {C:Addr} (c:Cls K C) (f:Str):PySem.W.plainGet K C f=true:=c.pg
structure Con (K:PySem.W.Frag) (C:Addr) (f:Str) (v:V) (u:Value):Prop where
 at_:PySem.W.findIn K (.ref C) f=some (some u)
 rel:aL v u
 get:PySem.W.specialIn K u "__get__"=some none
 cp:PySem.W.copiedNames.contains f=false
structure sN (K:PySem.W.Frag) (C:Addr) (m:Str) (f:Addr):Prop where
 at_:PySem.W.findIn K (.ref C) m=some (some (.ref f))
 fn:PySem.W.isFn K (.ref f)=true
 kp:PySem.W.keepIn K (.ref f)=true
section
variable {X:Cx} {pins:List (Addr×Obj)} {σ:St} {H:Hp} {s:Shared} {a C dx:Addr} {fs:List (Str×V)} {f:Str} {v:V} {A:Around} {E:Value→Shared→Prop}
end
section
variable {X:Cx} {o e value:Expr} {f:Str} {pos pos' tpos:Pos} {ta tv:TE}
end
section
variable {X:Cx} {pins:List (Addr×Obj)} {σ:St} {H:Hp} {s:Shared} {A:Around} {E:Value→Shared→Prop} {Q:Value→Shared→Prop} {c:Value} {b:Bool}
inductive eY (K:PySem.W.Frag) (H:Hp):V→Value→Prop where
 | non:eY K H .non (.type "NoneType")
 | bl (x:Bool):eY K H (.bl x) (.type "bool")
 | int (i:Int):eY K H (.int i) (.type "int")
 | str (x:Str):eY K H (.str x) (.type "str")
 | flt (x:UInt64):eY K H (.flt x) (.type "float")
 | lst {a:Addr} {xs:List V} (e:H a=some (.lst xs)):eY K H (.ref a) (.type "list")
 | frz {a:Addr} {o:Obj} {xs:List V} (e:H a=some (.frz o (.lst xs))):eY K H (.ref a) (.type "list")
 | tup {a:Addr} {xs:List V} (e:H a=some (.tup xs)):eY K H (.ref a) (.type "tuple")
 | dK {a:Addr} {kvs:List (Key×V)} (e:H a=some (.dK kvs)):eY K H (.ref a) (.type "dict")
 | dT {a:Addr} {kvs:List (List Key×V)} (e:H a=some (.dT kvs)):eY K H (.ref a) (.type "dict")
 | ins {a C dx:Addr} {fs:List (Str×V)} (e:H a=some (.ins C dx fs)) (cl:Cls K C) (ha:PySem.W.findIn K (.ref C) "__class__"=some (some (.builtin "object.__class__")))
   (hn:PySem.W.specialIn K (.builtin "object.__class__") "__get__"=some (some (.builtin "getset_descriptor.__get__"))) (htk:PySem.W.takesIn K (.builtin "object.__class__")=some true)
   (hm:PySem.W.mroIn K C (.type "object")=some true):eY K H (.ref a) (.ref C)
theorem cf {x:V} {u t:Value} (I:Inv X pins σ H s) (rx:aL x u) (ty:eY X.K H x t) (e:PySem.W.kitOne X.K t c=some b) (h:∀ tk,Q (.bool b) { s with toks:=tk }):
  wpAny (model X.prog X.w) A (call (.builtin "isinstance") [u,c]) Q E s:=by
 cases ty with
 | non=> cases (show u=Value.none from rx); exact PySem.W.kia_one PySem.W.kitx_none I.kIn True.intro e (fun z=> nomatch z) h
 | bl y=> cases (show u=Value.bool y from rx); exact PySem.W.kia_one PySem.W.kitx_bool I.kIn True.intro e (fun z=> nomatch z) h
 | int i=> obtain ⟨t,q⟩:=(show ∃ t,u=Value.int i t from rx); cases q; exact PySem.W.kia_one PySem.W.kitx_int I.kIn True.intro e (fun z=> nomatch z) h
 | str y=> obtain ⟨t,q⟩:=(show ∃ t,u=Value.str y t from rx); cases q; exact PySem.W.kia_one PySem.W.kitx_str I.kIn True.intro e (fun z=> nomatch z) h
 | flt y=> obtain ⟨t,q⟩:=(show ∃ t,u=Value.float y t from rx); cases q; exact PySem.W.kia_one PySem.W.kitx_float I.kIn True.intro e (fun z=> nomatch z) h
 | @lst a xs ea=>
  cases (show u=Value.ref a from rx)
  obtain ⟨_,_,n,_,h1⟩:=(show bN X.prog X.w H s.heap a (.lst xs) from I.hok a _ ea)
  exact PySem.W.kia_one PySem.W.kitx_list I.kIn ⟨_,h1,rfl⟩ e (fun z=> nomatch z) h
 | @frz a ob xs ea=>
  cases (show u=Value.ref a from rx)
  obtain ⟨_,_,_,n,_,h1⟩:=(show bN X.prog X.w H s.heap a (.frz ob (.lst xs)) from I.hok a _ ea)
  exact PySem.W.kia_one PySem.W.kitx_list I.kIn ⟨_,h1,rfl⟩ e (fun z=> nomatch z) h
 | @tup a xs ea=>
  cases (show u=Value.ref a from rx)
  obtain ⟨_,_,_,p⟩:=(show bN X.prog X.w H s.heap a (.tup xs) from I.hok a _ ea)
  obtain ⟨o,h1,h2,_⟩:=p
  exact PySem.W.kia_one PySem.W.kitx_tuple I.kIn ⟨o,h1,h2⟩ e (fun z=> nomatch z) h
 | @dK a kvs ea=>
  cases (show u=Value.ref a from rx)
  obtain ⟨_,_,vs,_,p⟩:=(show bN X.prog X.w H s.heap a (.dK kvs) from I.hok a _ ea)
  obtain ⟨o,es,ep,h1,h2,_⟩:=p
  exact PySem.W.kia_one PySem.W.kitx_dict I.kIn ⟨o,h1,h2.1⟩ e (fun z=> nomatch z) h
 | @dT a kvs ea=>
  cases (show u=Value.ref a from rx)
  obtain ⟨_,_,xs,_,o,es,ep,h1,h2,_⟩:=(show bN X.prog X.w H s.heap a (.dT kvs) from I.hok a _ ea)
  exact PySem.W.kia_one PySem.W.kitx_dict I.kIn ⟨o,h1,h2.1⟩ e (fun z=> nomatch z) h
 | @ins a C dx fs ea cl ha hn htk hm=>
  cases (show u=Value.ref a from rx)
  obtain ⟨mA,O,_⟩:=nz I.hok ea
  obtain ⟨od,J,_⟩:=O.look
  exact PySem.W.kia_one (PySem.W.kitx_own (cl.get _) cl.hd ha hn htk hm) I.kIn J e (fun z=> nomatch z) h
end
end L2
namespace L2
open PySem PySem.Spec PyProof.Rows
structure cS (k:Nat) (A:Around):Prop where
 hd:A.handled=none
 dp:A.depth+3 * k+5 < recursionLimit
 un:A.units+16 * k+200 < cLine
theorem cS.mono {j k:Nat} {A:Around} (r:cS k A) (h:j≤k):cS j A:=⟨r.hd,by have:=r.dp; omega,by have:=r.un; omega⟩
theorem cS.deeper {k:Nat} {A:Around} (r:cS (k+1) A) (env:Env):cS k (A.deeper env):=
 ⟨r.hd,by have:=r.dp; show A.depth+1+3 * k+5 < _; omega,by have:=r.un; show A.units+3+16 * k+200 < _; omega⟩
theorem cS.depth {k:Nat} {A:Around} (r:cS k A):A.depth < recursionLimit:=by have:=r.dp; omega
def sC:TA:=fun _ H Q=> Q [] H
def rK (ta:TE) (tr:TA):TA:=fun σ H Q=> ta σ H fun x H1=> tr σ H1 fun xs H2=> Q (x::xs) H2
section
variable {X:Cx} {e:Expr} {es:List Expr} {te:TE} {t:TA} {pos:Pos}
theorem fD:PA X [] sC:=fun _ _ _ _ H Q I h=> Calls.spliced_nil ⟨[],H,I,.nil,h⟩
theorem dP (ha:PE X e te) (hr:PA X es t) (hs:starEach (e::es) X.env=(false,eval e X.env)::starEach es X.env:=by rfl):PA X (e::es) (rK te t):=by
 intro pos pins s σ H Q I h
 rw [hs]
 show wpAny _ _ (spliced ((false,eval e X.env)::backTo pos (starEach es X.env))) _ _ s
 refine Calls.spliced_cons (thn (ha pins s σ H _ I h) fun u s1 ⟨x,H1,I1,r1,q1⟩=> ?_)
 exact thn (hr pos pins s1 σ H1 _ I1 q1) fun us s2 ⟨xs,H2,I2,r2,q2⟩=> ⟨x::xs,H2,I2,.cons r1 r2,q2⟩
def si (t:TA):TE:=fun σ H Q=> t σ H fun xs H1=> xs.length≤sizeLine∧∀ p,H1 p=none→Q (.ref p) (upd H1 p (.tup xs))
def sr (t:TA):TE:=fun σ H Q=> t σ H fun xs H1=> xs.length≤sizeLine∧∀ p,H1 p=none→Q (.ref p) (upd H1 p (.lst xs))
theorem qE {x1} (h:PA X es t):PE X (.Tuple es x1 pos) (si t):=by
 intro pins s σ H Q I hq
 refine wpAny_Tuple_spliced (thn (h pos pins s σ H _ I hq) fun us s1 ⟨xs,H1,I1,r,z,q⟩=> ⟨by rw [← r.length]; exact z,?_⟩)
 have hf:H1 s1.heap.objs.size=none:=I1.hok.fresh (Nat.le_refl _)
 refine ⟨.ref s1.heap.objs.size,upd H1 s1.heap.objs.size (.tup xs),I1.laid (t':=s1.toks) (fun b u e=> Heap.get?_push_of_some _ e) (Nat.le_refl _) ?_,rfl,q _ hf⟩
 exact ⟨z,us,r,⟨_,Heap.get?_push_size _ rfl,rfl,_,rfl⟩⟩
theorem qg (h:PA X es t):PE X (.List es pos) (sr t):=by
 intro pins s σ H Q I hq
 refine wpAny_List_spliced (thn (h pos pins s σ H _ I hq) fun us s1 ⟨xs,H1,I1,r,z,q⟩=> ⟨by rw [← r.length]; exact z,?_⟩)
 have hf:H1 s1.heap.objs.size=none:=I1.hok.fresh (Nat.le_refl _)
 refine ⟨.ref s1.heap.objs.size,upd H1 s1.heap.objs.size (.lst xs),I1.laid (t':=s1.toks) (fun b u e=> Heap.get?_push_of_some _ e) (Nat.le_refl _) ?_,rfl,q _ hf⟩
 exact ⟨z,us,0,r,Heap.get?_push_size _ rfl⟩
end
abbrev Sp:=List V→Hp→VK→XK→Prop
abbrev CXT:=List Env→Hp→Shared→XK→Value→Shared→Prop
structure oz (P:Program) (w:World) (K:PySem.W.Frag) (mg:Str→Option Value) (base:Heap) (A:Around) (outer:List Env) (s:Shared) (H:Hp):Prop where
 frames:A.frames=some outer
 mod:Mod K mg base
 bs:∀ b o,base.get? b=some o→s.heap.get? b=some o∧H b=none
 bsz:base.objs.size≤s.heap.objs.size
 funs:s.heap.FunFrames base outer
 frf:∀ b∈frs outer,H b=none
 hok:HOk P w H s.heap
 bare:AllBare s.gens
def CE (outer:List Env) (P:Program) (w:World) (H:Hp) (s:Shared) (Q:VK) (u:Value) (s':Shared):Prop:=
 ∃ v H',s'.os=s.os∧AllBare s'.gens∧Un (frs outer) [] H H' s.heap s'.heap∧HOk P w H' s'.heap∧aL v u∧Q v H'
def CR (CX:CXT) (outer:List Env) (P:Program) (w:World) (H:Hp) (s:Shared) (Q:VK) (E:XK) (r:Result) (s':Shared):Prop:=
 match r with
 | .ok (.ret u)=> CE outer P w H s Q u s'
 | .ok _=> False
 | .error e=> CX outer H s E e s'
structure bF (P:Program) (w:World) (K:PySem.W.Frag) (mg:Str→Option Value) (base:Heap) (CX:CXT) (k:Nat) (f:Addr) (fd:FuncData) (ps:List Str) (sp:Sp):Prop where
 len:∀ vs H Q E,sp vs H Q E→vs.length=ps.length
 run:∀ (A:Around) (outer:List Env) (s:Shared) (H:Hp) (args:Args) (us:List Value) (vs:List V) (Q:VK) (E:XK),cS k A→oz P w K mg base A outer s H→BindsTo s fd args (ps.zip us)→av vs us→sp vs H Q E→
  codeAny (model P w) A (.call (.ref f) args) (CR CX outer P w H s Q E) s
theorem bF.mono {P:Program} {w:World} {K:PySem.W.Frag} {mg:Str→Option Value} {base:Heap} {CX:CXT} {j k:Nat} {f:Addr} {fd:FuncData} {ps:List Str} {sp:Sp} (F:bF P w K mg base CX j f fd ps sp) (h:j≤k):
  bF P w K mg base CX k f fd ps sp:=⟨F.len,fun A outer s H args us vs Q E hr=> F.run A outer s H args us vs Q E (hr.mono h)⟩
section
variable {X:Cx} {pins:List (Addr×Obj)} {σ:St} {H:Hp} {s s':Shared}
theorem Inv.env0 (I:Inv X pins σ H s):oz X.prog X.w X.K X.mg X.base X.A X.stack s H:=
 ⟨I.ok.frames,I.ok.mod,I.bs,Nat.le_trans I.ok.bsz I.sz,I.stack,I.stkFree,I.hok,I.bare⟩
theorem Inv.after {Q:VK} {u:Value} (I:Inv X pins σ H s) (h:CE X.stack X.prog X.w H s Q u s'):EP X pins σ Q u s':=by
 obtain ⟨v,H',os,bare,un,hok,r,q⟩:=h
 obtain ⟨hh,g,d,t,os'⟩:=s'
 obtain rfl:os'=s.os:=os
 exact ⟨v,H',I.call (h':=hh) (g':=g) (d':=d) (t':=t) (ch:=[]) un hok bare (fun b z=> absurd z (by simp)),r,q⟩
end
def q_ (sp:Sp) (dvs:List V) (E:XK) (t:TA):TE:=fun σ H Q=> t σ H fun vs H1=> sp (vs++dvs) H1 Q E
def bo (K:PySem.W.Frag) (fd:FuncData) (ps:List Str) (ds:List Value):Prop:=
 ∀ (s:Shared) (us:List Value),K.In s.heap→(us++ds).length=ps.length→BindsTo s fd ⟨us,[]⟩ (ps.zip (us++ds))
theorem bo.all {K:PySem.W.Frag} {fd:FuncData} {ps:List Str} (h:∀ us:List Value,us.length=ps.length→bindArgs fd ⟨us,[]⟩=pure (ps.zip us)):bo K fd ps []:=fun s us _ hl=> by
 rw [List.append_nil] at hl ⊢
 exact .of_eq (h us hl)
def eO (CX:CXT) (X:Cx) (E:XK):Prop:=∀ (pins:List (Addr×Obj)) (σ:St) (H:Hp) (s:Shared) (e:Value) (s':Shared),Inv X pins σ H s→CX X.stack H s E e s'→X.xe e s'
section
variable {X:Cx} {CX:CXT} {k:Nat} {f C:Addr} {fd:FuncData} {ps:List Str} {sp:Sp} {dvs:List V} {ds:List Value} {E:XK} {x m:Str} {p pos apos:Pos} {e o:Expr} {es:List Expr} {ta:TE} {t:TA}
theorem qw {pins:List (Addr×Obj)} {σ:St} {H:Hp} {s:Shared} {Q:VK} {us:List Value} {vs:List V} (F:bF X.prog X.w X.K X.mg X.base CX k f fd ps sp) (hr:cS k X.A) (hb:bo X.K fd ps ds) (hd:av dvs ds) (hx:eO CX X E)
  (I:Inv X pins σ H s) (r:av vs us) (h:sp (vs++dvs) H Q E):wpAny (model X.prog X.w) X.A (call (.ref f) us) (EP X pins σ Q) X.xe s:=by
 have r2:av (vs++dvs) (us++ds):=r.append hd
 have hl:(us++ds).length=ps.length:=by rw [← r2.length]; exact F.len _ _ _ _ h
 refine wpAny_call (codeAny_mono (F.run X.A X.stack s H ⟨us,[]⟩ (us++ds) (vs++dvs) Q E hr I.env0 (hb s us I.kIn hl) r2 h) fun r s' hq=> ?_)
 cases r with
 | error e=> exact hx pins σ H s e s' I hq
 | ok fl=>
  cases fl with
  | ret u=> exact I.after hq
  | next=> exact False.elim hq
  | brk=> exact False.elim hq
  | cont=> exact False.elim hq
theorem gW (F:bF X.prog X.w X.K X.mg X.base CX k f fd ps sp) (hr:cS k X.A) (hg:Gl X x) (hm:X.mg x=some (.ref f)) (hk:PySem.W.keepIn X.K (.ref f)=true) (hb:bo X.K fd ps ds) (hd:av dvs ds) (hx:eO CX X E)
  (ha:PA X (e::es) t) (hdb:(x==("__debug__":Str))=false:=by decide) (he:starEach (e::es) X.env=(false,eval e X.env)::starEach es X.env:=by rfl) (hpl:(backTo pos (starEach es X.env)).any (·.1)=false:=by rfl):
  PE X (.Call (.Name x p) (e::es) [] pos) (q_ sp dvs E t):=by
 intro pins s σ H Q I h
 refine wpAny_Call_Name_kw (jO I hg hm ?_ hdb)
 refine PySem.W.callWith_K (h₀:=X.base) I.ok.mod.kin hk (thn (ha pos pins s σ H _ I h) fun us s1 ⟨vs,H1,I1,r,q⟩=> ⟨I1.kIn,?_⟩) he hpl
 exact qw F hr hb hd hx I1 r q
structure Mk (K:PySem.W.Frag) (C f:Addr):Prop where
 makes:PySem.W.makesIn K C=true
 init:PySem.W.findIn K (.ref C) "__init__"=some (some (.ref f))
 fn:PySem.W.isFn K (.ref f)=true
 kp:PySem.W.keepIn K (.ref C)=true
end
section
variable {X:Cx} {CX:CXT} {k:Nat} {f C:Addr} {fd:FuncData} {ps ks:List Str} {sp:Sp} {E:XK} {x m:Str} {p pos apos kpos:Pos} {e o:Expr} {es:List Expr} {kws:List Keyword} {te ta:TE} {t tk:TA} {nm:Option Str}
structure sd (K:PySem.W.Frag) (fd:FuncData) (ps ks:List Str) (g:List Value→List Value→List Value) (gV:List V→List V→List V):Prop where
 to:∀ (s:Shared) (us ws:List Value),K.In s.heap→(g us ws).length=ps.length→BindsTo s fd ⟨us,ks.zip ws⟩ (ps.zip (g us ws))
 rel:∀ {vs:List V} {us:List Value} {zs:List V} {ws:List Value},av vs us→av zs ws→av (gV vs zs) (g us ws)
variable {g:List Value→List Value→List Value} {gV:List V→List V→List V}
end
structure aO (N P:List Str) (sc:Scope):Prop where
 kind:sc.kind=.function
 co:sc.isCoroutine=false
 gen:sc.isGenerator=false
 nd:N.Nodup
 pre:N.take P.length=P
 par:∀ x∈P,sc.names.lookup x=some .local∨sc.names.lookup x=some .cell
 nofree:∀ y∈sc.names,y.2≠.free
theorem gm {kindOf:Str→Option NameKind} {x:Str}:∀ {binds:List (Str×Value)} {m:Str→Option Value},(∀ v,(x,v) ∉ binds)→bindL kindOf binds m x=m x
 | [],_,_=> rfl
 | (n,v)::r,m,h=> by
  unfold bindL
  rw [gm fun w hw=> h w (List.mem_cons_of_mem _ hw)]
  split
  ·have:x≠n:=by rintro rfl; exact h v List.mem_cons_self
   simp [this]
  ·rfl
theorem gj {kindOf:Str→Option NameKind} {x:Str}:∀ {binds:List (Str×Value)} {m:Str→Option Value},(∀ v,(x,v) ∉ binds)→bindC kindOf binds m x=m x
 | [],_,_=> rfl
 | (n,v)::r,m,h=> by
  unfold bindC
  rw [gj fun w hw=> h w (List.mem_cons_of_mem _ hw)]
  split
  ·rfl
  ·have:x≠n:=by rintro rfl; exact h v List.mem_cons_self
   simp [this]
theorem gE {kindOf:Str→Option NameKind} {x:Str} {v:Value}:∀ {P:List Str} {vs:List Value} {i:Nat} {m:Str→Option Value},P.Nodup→P[i]?=some x→vs[i]?=some v→kindOf x=some .local→
  bindL kindOf (P.zip vs) m x=some v
 | [],_,_,_,_,h,_,_=> by simp at h
 | _::_,[],_,_,_,_,h,_=> by simp at h
 | p::P,w::vs,0,m,nd,h1,h2,hk=> by
  simp at h1 h2; subst h1; subst h2
  show bindL kindOf ((p,w)::P.zip vs) m p=_
  unfold bindL
  rw [gm fun v hv=> (List.nodup_cons.mp nd).1 (List.of_mem_zip hv).1,if_pos hk]
  simp
 | p::P,w::vs,i+1,m,nd,h1,h2,hk=> by
  show bindL kindOf ((p,w)::P.zip vs) m x=_
  unfold bindL
  exact gE (i:=i) (List.nodup_cons.mp nd).2 (by simpa using h1) (by simpa using h2) hk
theorem gr {kindOf:Str→Option NameKind} {x:Str} {v:Value}:∀ {P:List Str} {vs:List Value} {i:Nat} {m:Str→Option Value},P.Nodup→P[i]?=some x→vs[i]?=some v→kindOf x≠some .local→
  bindC kindOf (P.zip vs) m x=some v
 | [],_,_,_,_,h,_,_=> by simp at h
 | _::_,[],_,_,_,_,h,_=> by simp at h
 | p::P,w::vs,0,m,nd,h1,h2,hk=> by
  simp at h1 h2; subst h1; subst h2
  show bindC kindOf ((p,w)::P.zip vs) m p=_
  unfold bindC
  rw [gj fun v hv=> (List.nodup_cons.mp nd).1 (List.of_mem_zip hv).1,if_neg hk]
  simp
 | p::P,w::vs,i+1,m,nd,h1,h2,hk=> by
  show bindC kindOf ((p,w)::P.zip vs) m x=_
  unfold bindC
  exact gr (i:=i) (List.nodup_cons.mp nd).2 (by simpa using h1) (by simpa using h2) hk
def start (N:List Str) (vs:List V):St:=vs.map some++List.replicate (N.length - vs.length) none
def dc (CX:CXT) (P:Program) (w:World) (K:PySem.W.Frag) (mg:Str→Option Value) (base:Heap) (N:List Str) (qual:Str) (scope:Scope) (f:Addr) (cd:Value) (A:Around) (outer:List Env) (s:Shared) (H:Hp) (E:XK):Cx where
 prog:=P
 w:=w
 K:=K
 mg:=mg
 base:=base
 A:=A.deeper (envOfC qual scope s.heap.objs.size f cd)
 N:=N
 s₀:=s
 H₀:=H
 env:=envOfC qual scope s.heap.objs.size f cd
 outer:=outer
 stack:=envOfC qual scope s.heap.objs.size f cd::outer
 ex:=[]
 calm:=true
 fn:=fun _=> true
 pn:=[]
 xe:=fun e s'=> wpAny (model P w) (A.deeper (envOfC qual scope s.heap.objs.size f cd)) (leaving (envOfC qual scope s.heap.objs.size f cd) e) (fun _ s''=> CX outer H s E e s'') (fun e' s''=> CX outer H s E e' s'') s'
theorem iV {sc:Scope} {n:Nat} {x:Str} (h:sc.names.lookup x=some .cell):∃ c,(cellsFrom n sc.names []).lookup x=some c:=by
 have q:=PySem.W.cellsFrom_some sc.names n [] (.inl h)
 exact Option.isSome_iff_exists.mp q
theorem kH {CX:CXT} {P:Program} {w:World} {K:PySem.W.Frag} {mg:Str→Option Value} {base:Heap} {N ps:List Str} {qual:Str} {scope:Scope} {f:Addr} {cd:Value} {A:Around} {outer:List Env} {s s1:Shared} {H:Hp} {E:XK} {us:List Value} {vs:List V}
  (S:aO N ps scope) (hd:A.handled=none) (e0:oz P w K mg base A outer s H) (hl:vs.length=ps.length) (r:av vs us)
  (x:InCallC s s.heap.objs.size (bindL (envOfC qual scope s.heap.objs.size f cd).kindOf (ps.zip us) fun _=> none) (cellsFrom (s.heap.objs.size+1) scope.names []) (bindC (envOfC qual scope s.heap.objs.size f cd).kindOf (ps.zip us) fun _=> none) s1):
  Inv (dc CX P w K mg base N qual scope f cd A outer s H E) [] (start N vs) H s1:=by
 have hpl:ps.length≤N.length:=by have:=congrArg List.length S.pre; rw [List.length_take] at this; omega
 obtain ⟨h1,tk,rfl,hk⟩:=x.done
 have noA:∀ b:Addr,b ∉ (dc CX P w K mg base N qual scope f cd A outer s H E).ex:=fun b z=> absurd (show b∈([]:List Addr) from z) (by simp)
 refine ⟨⟨e0.mod,S.kind,rfl,rfl,Nat.le_refl _,fun y z c h1 h2=> ?_,fun y hy=> ?_,fun y c _ h=> ?_,fun _=> hd,Around.frames_deeper e0.frames,.inr ⟨rfl,rfl⟩,fun b z=> absurd z (noA b),e0.bs,e0.bsz,fun b _ _=> noA b,fun b z=> absurd z (noA b),e0.funs,e0.frf⟩,
  rfl,e0.bare,Un.kept hk,⟨_,x.toInCall.ns,fun i y v h1 h2 h3=> ?_⟩,fun y c h=> ⟨_,x.cell y c h⟩,e0.hok.fresh (Nat.le_refl _),fun y c h=> ?_,fun p hp=> absurd (show p∈([]:List (Addr×Obj)) from hp) (by simp),e0.hok.kept hk,?_⟩
 ·exact name_of_addr x.apart (PySem.mem_of_lookup h1) (PySem.mem_of_lookup h2)
 ·have hy:scope.names.lookup y=some .cell∨scope.names.lookup y=some .free:=hy
  rcases hy with hy | hy
  ·exact iV hy
  ·exact absurd rfl (S.nofree _ (PySem.mem_of_lookup hy))
 ·exact Nat.le_of_lt (x.above y c (PySem.mem_of_lookup h))
 ·have hi:i < vs.length:=by
   unfold start at h2
   by_cases hi:i < vs.length
   ·exact hi
   ·rw [List.getElem?_append_right (by simpa using hi)] at h2
    rw [List.getElem?_replicate] at h2
    split at h2 <;> cases h2
  have ha:vs[i]?=some v:=by
   unfold start at h2
   rw [List.getElem?_append_left (by simpa using hi),List.getElem?_map] at h2
   cases e:vs[i]? with
   | none=> rw [e] at h2; cases h2
   | some a=> rw [e] at h2; cases h2; rfl
  obtain ⟨u,hu,rv⟩:=r.get ha
  have hp:ps[i]?=some y:=by
   rw [← S.pre,List.getElem?_take_of_lt (by omega)]; exact h1
  have ndP:ps.Nodup:=by rw [← S.pre]; exact S.nd.sublist (List.take_sublist _ _)
  refine ⟨u,rv,?_⟩
  rcases S.par y (List.mem_of_getElem? hp) with k | k
  ·exact .inl ⟨k,gE ndP hp hu k⟩
  ·obtain ⟨c,e⟩:=iV (n:=s.heap.objs.size+1) k
   refine .inr ⟨.inl k,c,e,?_⟩
   have q:=x.cell y c e
   rw [gr ndP hp hu (by show scope.names.lookup y≠_; rw [k]; decide)] at q
   exact q
 ·exact e0.hok.fresh (Nat.le_of_lt (x.above y c (PySem.mem_of_lookup h)))
 ·unfold start
  show _=N.length
  rw [List.length_append,List.length_map,List.length_replicate]
  omega
theorem rD {CX:CXT} {P:Program} {w:World} {K:PySem.W.Frag} {mg:Str→Option Value} {base:Heap} {k:Nat} {f:Addr} {name qual:Str} {params:Arguments} {body:List Stmt} {scope:Scope} {dV kV doc pm cdv ct oc:Value} {an od:Option Addr}
  {osl:Array (Option Value)} {N ps:List Str} {sp:Sp} (lk:K.lookup f=some ⟨oc,od,.func (PySem.W.fnOf name qual params body scope dV kV doc pm an cdv ct),osl⟩) (hcd:PySem.W.codeIn K cdv qual=true) (S:aO N ps scope)
  (len:∀ vs H Q E,sp vs H Q E→vs.length=ps.length)
  (hbody:∀ (A:Around) (outer:List Env) (s:Shared) (H:Hp) (vs:List V) (Q:VK) (E:XK),cS k (A.deeper (envOfC qual scope s.heap.objs.size f cdv))→sp vs H Q E→
   ∃ t,PSs (dc CX P w K mg base N qual scope f cdv A outer s H E) body t∧t { nx:=fun _ H'=> Q .non H',rt:=Q } (start N vs) H):
  bF P w K mg base CX (k+1) f (PySem.W.fnOf name qual params body scope dV kV doc pm an cdv ct) ps sp:=by
 refine ⟨len,fun A outer s H args us vs Q E hr e0 hb r hsp=> ?_⟩
 have hl:=len _ _ _ _ hsp
 have KX:K.In s.heap:=e0.mod.kin.keeps fun b o e=> (e0.bs b o e).1
 have lim:s.heap.NoLimit:=e0.mod.nolimit.keeps fun b o e=> (e0.bs b o e).1
 have hkind:∀ y∈ps.zip us,scope.names.lookup y.1=some .local∨(scope.names.lookup y.1=some .cell∧((cellsFrom (s.heap.objs.size+1) scope.names []).lookup y.1).isSome=true):=fun ⟨n,v⟩ hy=> by
  rcases S.par n (List.of_mem_zip hy).1 with q | q
  ·exact .inl q
  ·exact .inr ⟨q,PySem.W.cellsFrom_some _ _ _ (.inl q)⟩
 refine codeAny_call_function hr.depth (KX _ _ lk) rfl S.co S.gen rfl (PySem.W.codeRec_of KX hcd) (hb _ _ _ _ ?_)
 refine wpAny_newFunctionEnv_cells S.kind hkind fun env he s1 x=> ?_
 subst he
 refine ⟨lim.keeps x.toInCall.keep,codeAny_func ?_⟩
 obtain ⟨t,ht,hq⟩:=hbody A outer s H vs Q E (hr.deeper _) hsp
 have I:Inv (dc CX P w K mg base N qual scope f cdv A outer s H E) [] (start N vs) H s1:=kH S hr.hd e0 hl r x
 refine wpAny_mono (ht [] s1 (start N vs) H _ I hq) (fun fl s' hs=> ?_) fun e s' hs=> hs
 have fin:∀ {σ':St} {H':Hp} {v:V} {u:Value},Inv (dc CX P w K mg base N qual scope f cdv A outer s H E) [] σ' H' s'→aL v u→Q v H'→CE outer P w H s Q u s':=
  fun {σ' H' v u} J rv q=> ⟨v,H',J.os,J.bare,J.base,J.hok,rv,q⟩
 cases fl with
 | ret u=>
  obtain ⟨v,σ',H',J,rv,q⟩:=hs
  exact fin J rv q
 | next=>
  obtain ⟨σ',H',J,q⟩:=hs
  exact fin (v:=V.non) (u:=Value.none) J rfl q
 | brk=>
  obtain ⟨_,_,_,q⟩:=hs
  exact False.elim q
 | cont=>
  obtain ⟨_,_,_,q⟩:=hs
  exact False.elim q
end L2
namespace L2
open PySem PySem.Spec PyProof.Rows
section
variable {X:Cx} {x:Str} {p pos:Pos} {e:Expr} {es:List Expr} {t:TA} {id T:String} {r:List V→Hp→VK→Prop}
def tCB (r:List V→Hp→VK→Prop) (t:TA):TE:=fun σ H Q=> t σ H fun vs H1=> r vs H1 Q
theorem ii (hc:cw X (.builtin id) r) (hg:Gl X x) (hm:X.mg x=none) (hv:bootBuiltins x=some (.builtin id)) (ha:PA X (e::es) t) (hn:x≠"__name__":=by decide) (hdb:(x==("__debug__":Str))=false:=by decide)
  (he:starEach (e::es) X.env=(false,eval e X.env)::starEach es X.env:=by rfl) (hpl:(backTo pos (starEach es X.env)).any (·.1)=false:=by rfl):PE X (.Call (.Name x p) (e::es) [] pos) (tCB r t):=by
 intro pins s σ H Q I h
 refine wpAny_Call_Name_kw (cW I hg hm hv ?_ hn hdb)
 exact PyProof.Rows.callWith_builtin1 (thn (ha pos pins s σ H _ I h) fun us s1 ⟨vs,H1,I1,r1,q1⟩=> hc pins s1 σ H1 vs us Q I1 r1 q1) he hpl
theorem kK (hc:cw X (.type T) r) (hg:Gl X x) (hm:X.mg x=none) (hv:bootBuiltins x=some (.type T)) (ha:PA X (e::es) t) (hn:x≠"__name__":=by decide) (hdb:(x==("__debug__":Str))=false:=by decide)
  (he:starEach (e::es) X.env=(false,eval e X.env)::starEach es X.env:=by rfl) (hpl:(backTo pos (starEach es X.env)).any (·.1)=false:=by rfl):PE X (.Call (.Name x p) (e::es) [] pos) (tCB r t):=by
 intro pins s σ H Q I h
 refine wpAny_Call_Name_kw (cW I hg hm hv ?_ hn hdb)
 exact PyProof.Rows.callWith_type1 (thn (ha pos pins s σ H _ I h) fun us s1 ⟨vs,H1,I1,r1,q1⟩=> hc pins s1 σ H1 vs us Q I1 r1 q1) he hpl
end
end L2
namespace HT
open PySem PyProof.Rows
section
open PySem.SeqAt
open PySem.AutoSeq1 (wpAny_loadPart')
open PySem.MeetsSeq PySem.MeetsSeq2 PySem.MeetsSeq3
end
section
variable {prog:Program} {w:World} {A:Around} {E:Value→Shared→Prop} {s:Shared}
def sIx (n d:Nat):Option Int→Nat
 | none=> d
 | some v=> if v < 0 then (v+(n:Int)).toNat else min v.toNat n
theorem sIx_none (n d:Nat):sIx n d none=d:=rfl
end
end HT
namespace L2
open PySem PySem.Spec PyProof.Rows
abbrev TO:=St→Hp→(Option Int→Hp→Prop)→Prop
def PO (X:Cx) (e:Option Expr) (t:TO):Prop:=
 ∀ (pins:List (Addr×Obj)) (s:Shared) (σ:St) (H:Hp) (Q:Option Int→Hp→Prop),Inv X pins σ H s→t σ H Q→
  wpAny (model X.prog X.w) X.A (evalPart e X.env) (fun u s'=> ∃ o H',Inv X pins σ H' s'∧IsPart u o∧Q o H') X.xe s
def oo:TO:=fun _ H Q=> Q none H
def rE (t:TE):TO:=fun σ H Q=> t σ H fun x H1=> ∃ i,x=.int i∧Q (some i) H1
section
variable {X:Cx} {e:Expr} {te:TE} {lo hi:Option Expr} {tl th:TO} {pos p2:Pos}
theorem oI:PO X none oo:=by
 intro pins s σ H Q I h
 rw [evalPart_none]
 exact wpAny_pure ⟨none,H,I,.none,h⟩
theorem nH (h:PE X e te):PO X (some e) (rE te):=by
 intro pins s σ H Q I hw
 rw [evalPart_some]
 refine thn (h pins s σ H _ I hw) fun u s1 ⟨x,H1,I1,r1,q1⟩=> ?_
 obtain ⟨i,rfl,q⟩:=q1
 obtain ⟨t,rfl⟩:=r1
 exact ⟨some i,H1,I1,.int i t,q⟩
def SlR (X:Cx) (r:V→Option Int→Option Int→Hp→VK→Prop):Prop:=
 ∀ (pins:List (Addr×Obj)) (s:Shared) (σ:St) (H:Hp) (x:V) (v vl vu:Value) (lo hi:Option Int) (sl:Addr) (Q:VK),Inv X pins σ H s→aL x v→s.heap.IsSliceOf sl vl vu .none→IsPart vl lo→IsPart vu hi→r x lo hi H Q→
  ∃ T id,typeLookup (.type T) "__getitem__"=pure (some (.builtin id))∧s.TypeIs v T∧wpAny (model X.prog X.w) X.A (getItem v (.ref sl)) (EP X pins σ Q) X.xe s
def tSl (r:V→Option Int→Option Int→Hp→VK→Prop) (te:TE) (tl th:TO):TE:=fun σ H Q=> te σ H fun x H1=> tl σ H1 fun l H2=> th σ H2 fun u H3=> r x l u H3 Q
theorem lM {r:V→Option Int→Option Int→Hp→VK→Prop} (hr:SlR X r) (he:PE X e te) (hl:PO X lo tl) (hu:PO X hi th):PE X (.Subscript e (.Slice lo hi none p2) pos) (tSl r te tl th):=by
 intro pins s σ H Q I h
 refine Subscript_ (thn (he pins s σ H _ I h) fun v s1 ⟨x,H1,I1,r1,q1⟩=> ?_)
 refine wpAny_Slice (thn (hl pins s1 σ H1 _ I1 q1) fun vl s2 ⟨l,H2,I2,pl,q2⟩=> thn (hu pins s2 σ H2 _ I2 q2) fun vu s3 ⟨u,H3,I3,pu,q3⟩=> ?_)
 rw [evalPart_none]
 refine wpAny_pure ?_
 have I4:Inv X pins σ H3 { s3 with heap:=s3.heap.push { cls:=.type "slice",data:=.fields #[vl,vu,.none] } }:=I3.kept (t':=s3.toks) fun b ob q=> Heap.get?_push_of_some _ q
 obtain ⟨T,id,hT,ht,hg⟩:=hr pins { s3 with heap:=s3.heap.push { cls:=.type "slice",data:=.fields #[vl,vu,.none] } } σ H3 x v vl vu l u s3.heap.objs.size Q I4 r1 (Heap.IsSliceOf.new ..) pl pu q3
 show wpAny (model X.prog X.w) X.A (subscriptTail e (.Slice lo hi none p2) v (.ref s3.heap.objs.size)) (EP X pins σ Q) X.xe { s3 with heap:=s3.heap.push { cls:=.type "slice",data:=.fields #[vl,vu,.none] } }
 exact tail_any (ops:=[.ref s3.heap.objs.size,v]) ht hT hg (by with_unfolding_all rfl)
def kX (xs:List V) (lo hi:Option Int):List V:=(xs.drop (HT.sIx xs.length 0 lo)).take (HT.sIx xs.length xs.length hi - HT.sIx xs.length 0 lo)
theorem iY (xs:List V) (lo hi:Option Int):(kX xs lo hi).length≤xs.length:=by
 unfold kX
 rw [List.length_take,List.length_drop]
 omega
end
end L2
namespace L2
open PySem PySem.Spec PyProof.Rows
def ixN (n:Nat) (i:Int):Option Nat:=if 0≤i then (if i < n then some i.toNat else none) else if -(n:Int)≤i then some (i+n).toNat else none
def atI {α:Type} (xs:List α) (i:Int):Option α:=(ixN xs.length i).bind fun j=> xs[j]?
theorem jX {n:Nat} {i:Int} {j:Nat} (h:ixN n i=some j):seqIndex? i n=some j∧j < n∧-(n:Int)≤i∧i < n:=by
 unfold ixN at h
 by_cases h0:0≤i
 ·rw [if_pos h0] at h
  by_cases h1:i < n
  ·rw [if_pos h1] at h
   have e:i.toNat=j:=Option.some.inj h
   exact ⟨by rw [seqIndex_of h0 h1,e],by omega,by omega,h1⟩
  ·rw [if_neg h1] at h; cases h
 ·rw [if_neg h0] at h
  by_cases h1:-(n:Int)≤i
  ·rw [if_pos h1] at h
   have e:(i+n).toNat=j:=Option.some.inj h
   exact ⟨by rw [seqIndex_neg (by omega) h1,e],by omega,h1,by omega⟩
  ·rw [if_neg h1] at h; cases h
theorem kg {α:Type} {xs:List α} {i:Int} {v:α} (h:atI xs i=some v):∃ j,seqIndex? i xs.length=some j∧xs[j]?=some v∧j < xs.length∧-(xs.length:Int)≤i∧i < xs.length:=by
 unfold atI at h
 cases e:ixN xs.length i with
 | none=> rw [e] at h; cases h
 | some j=>
  rw [e] at h
  obtain ⟨h1,h2,h3,h4⟩:=jX e
  exact ⟨j,h1,h,h2,h3,h4⟩
theorem jF {α:Type} {xs:List α} {j:Nat} {v:α} (h:xs[j]?=some v):atI xs (j:Int)=some v:=by
 have hj:j < xs.length:=(List.getElem?_eq_some_iff.mp h).1
 have e:ixN xs.length (j:Int)=some j:=by
  unfold ixN
  rw [if_pos (by omega),if_pos (by omega)]; simp
 unfold atI; rw [e]; exact h
def hW (b:Expr):Prop:=∀ o i,subscripted b false o i=operate [o,i] (getItem o i)
def IxR (X:Cx) (r:R2):Prop:=
 ∀ (value slice:Expr) (pins:List (Addr×Obj)) (s:Shared) (σ:St) (H:Hp) (x y:V) (v u:Value) (Q:VK),Inv X pins σ H s→aL x v→aL y u→r x y H Q→
  subscripted slice false v u=operate [v,u] (getItem v u)→wpAny (model X.prog X.w) X.A (subscriptTail value slice v u) (EP X pins σ Q) X.xe s
def MtR (X:Cx) (id:String) (r:V→List V→Hp→VK→Prop):Prop:=
 ∀ (pins:List (Addr×Obj)) (s:Shared) (σ:St) (H:Hp) (x:V) (xs:List V) (v:Value) (us:List Value) (Q:VK),Inv X pins σ H s→aL x v→av xs us→r x xs H Q→
  wpAny (model X.prog X.w) X.A (call (.builtin id) (v::us)) (EP X pins σ Q) X.xe s
section
variable {X:Cx} {a b:Expr} {ta tb:TE} {pos:Pos}
theorem IxR.or {r r':R2} (h:IxR X r) (h':IxR X r'):IxR X (fun x y H Q=> r x y H Q∨r' x y H Q):=by
 intro value slice pins s σ H x y v u Q I rx ry q hs
 rcases q with q | q
 ·exact h value slice pins s σ H x y v u Q I rx ry q hs
 ·exact h' value slice pins s σ H x y v u Q I rx ry q hs
theorem oY {r:R2} (hr:IxR X r) (ha:PE X a ta) (hb:PE X b tb) (hs:hW b):PE X (.Subscript a b pos) (tOp r ta tb):=by
 intro pins s σ H Q I h
 exact Subscript_ (pG ha hb I h fun v u s2 x y H2 I2 rx ry q=> hr a b pins s2 σ H2 x y v u Q I2 rx ry q (hs _ _))
def sq (K:PySem.W.Frag):R2:=fun x y H Q=> ∃ p xs i v,x=.ref p∧y=.int i∧SqL K H p xs∧atI xs i=some v∧Q v H
def se (K:PySem.W.Frag):R2:=fun x y H Q=> ∃ p xs i v,x=.ref p∧y=.int i∧SqT K H p xs∧atI xs i=some v∧Q v H
theorem ke:IxR X (sq X.K):=by
 intro value slice pins s σ H x y v u Q I rx ry h hs
 obtain ⟨p,xs,i,z,rfl,rfl,hq,he,q⟩:=h
 cases rx
 obtain ⟨t,rfl⟩:=ry
 obtain ⟨its,r,pl,hz⟩:=I.list hq
 obtain ⟨j,h1,h2,h3,h4,h5⟩:=kg he
 obtain ⟨w,ew,rw'⟩:=r.get h2
 have hl:=r.length
 have hn:=gR
 have fin:EP X pins σ Q w s:=⟨z,H,I,rw',q⟩
 by_cases h0:0≤i
 ·have hj:i.toNat=j:=by
   rw [seqIndex_of h0 h5] at h1
   exact Option.some.inj h1
  exact item_listR pl.isList h0 (by omega) (by rw [hj]; simpa using ew) fin hs
 ·have hj:(i+(its.toArray.size:Int)).toNat=j:=by
   rw [seqIndex_neg (by omega) h4] at h1
   rw [List.size_toArray,← hl]
   exact Option.some.inj h1
  exact subscriptTail_builtinR (x:=w) pl.isList.typeIs slot_list_getitem.lookup
   (wpAny_getItem_list_neg (Q:=fun r s'=> r=w∧EP X pins σ Q r s') pl.isList (by omega) (by rw [List.size_toArray] <;> omega) (by omega) (by rw [hj]; simpa using ew) ⟨rfl,fin⟩) hs
theorem qh:IxR X (se X.K):=by
 intro value slice pins s σ H x y v u Q I rx ry h hs
 obtain ⟨p,xs,i,z,rfl,rfl,hq,he,q⟩:=h
 cases rx
 obtain ⟨t,rfl⟩:=ry
 obtain ⟨its,r,pl,hz⟩:=I.tuple hq
 obtain ⟨j,h1,h2,h3,h4,h5⟩:=kg he
 obtain ⟨w,ew,rw'⟩:=r.get h2
 have hl:=r.length
 have hn:=gR
 have fin:EP X pins σ Q w s:=⟨z,H,I,rw',q⟩
 exact subscriptTail_builtinR (x:=w) pl.typeIs slot_tuple_getitem.lookup
  (getItem_tuple (j:=j) (Q:=fun r s'=> r=w∧EP X pins σ Q r s') pl (by omega) (by omega) (by rw [List.size_toArray,← hl]; exact h1) (by simpa using ew) ⟨rfl,fin⟩) hs
theorem jn (its:List Value) (n j:Nat) (u:Value):Obj.mapSeq (·.setIfInBounds j u) { cls:=.type "list",data:=.seq its.toArray n }={ cls:=.type "list",data:=.seq (its.set j u).toArray n }:=by
 simp [Obj.mapSeq]
theorem Inv.lst {pins:List (Addr×Obj)} {σ:St} {H:Hp} {s:Shared} {p:Addr} {xs:List V} (I:Inv X pins σ H s) (h:H p=some (.lst xs)):
  ∃ (its:List Value) (n:Nat),av xs its∧s.heap.get? p=some { cls:=.type "list",data:=.seq its.toArray n }∧xs.length≤sizeLine:=by
 obtain ⟨z,its,n,r,e⟩:=I.hok p _ h
 exact ⟨its,n,r,e,z⟩
theorem Inv.lstUpd {pins:List (Addr×Obj)} {σ:St} {H:Hp} {s:Shared} {p:Addr} {xs ys:List V} {its its':List Value} {n n':Nat} {f:Obj→Obj} (I:Inv X pins σ H s) (h:H p=some (.lst xs))
  (ho:s.heap.get? p=some { cls:=.type "list",data:=.seq its.toArray n }) (hf:f { cls:=.type "list",data:=.seq its.toArray n }={ cls:=.type "list",data:=.seq its'.toArray n' }) (r:av ys its') (hz:ys.length≤sizeLine) (t:Nat):
  Inv X pins σ (upd H p (.lst ys)) { s with heap:=s.heap.update p f,toks:=t }:=by
 have e:(s.heap.update p f).get? p=some { cls:=.type "list",data:=.seq its'.toArray n' }:=by
  rw [Heap.get?_update_self f ho (by rw [hf] <;> rfl),hf]
 refine I.write (x:=p) (e:=p) (by rw [h]; trivial) (.inl rfl) (fun b u hb q=> (Heap.get?_update_other _ _ (Ne.symm hb)).trans q) ⟨_,e⟩ ?_
 exact ⟨hz,its',n',r,e⟩
def qK:V→V→V→Hp→(Hp→Prop)→Prop:=fun o i v H Q=> ∃ p xs k j,o=.ref p∧i=.int k∧H p=some (.lst xs)∧ixN xs.length k=some j∧Q (upd H p (.lst (xs.set j v)))
theorem my:ra X qK:=by
 intro pins s σ H o i v ov iv u Q I ro ri rv h
 obtain ⟨p,xs,k,j,rfl,rfl,hp,hj,q⟩:=h
 cases ro
 obtain ⟨t,rfl⟩:=ri
 obtain ⟨its,n,r,ho,hz⟩:=I.lst hp
 obtain ⟨h1,h2,h3,h4⟩:=jX hj
 have hl:=r.length
 have hn:=gR
 have I':Inv X pins σ (upd H p (.lst (xs.set j v))) { s with heap:=s.heap.update p (Obj.mapSeq (·.setIfInBounds j u)) }:=
  I.lstUpd hp ho (jn its n j u) (r.set rv j) (by rw [List.length_set]; exact hz) s.toks
 by_cases h0:0≤k
 ·have hk:k.toNat=j:=by
   rw [seqIndex_of h0 h4] at h1
   exact Option.some.inj h1
  exact PySem.W.ki_setAt ho h0 (by omega) (by rw [List.size_toArray,← hl]; exact h4) (by rw [hk]; exact ⟨_,I',q⟩)
 ·have hk:(k+(its.toArray.size:Int)).toNat=j:=by
   rw [seqIndex_neg (by omega) h3] at h1
   rw [List.size_toArray,← hl]
   exact Option.some.inj h1
  exact PySem.W.ki_setBack ho (by omega) (by rw [List.size_toArray,← hl]; exact h3) (by omega) (by rw [hk]; exact ⟨_,I',q⟩)
theorem gY (lo hi:Option Int) (n:Nat):(sliceBounds lo hi none n).1=((HT.sIx n 0 lo:Nat):Int)∧(sliceBounds lo hi none n).2.1=((HT.sIx n n hi:Nat):Int)∧(sliceBounds lo hi none n).2.2=1:=by
 refine ⟨?_,?_,rfl⟩
 ·cases lo with
  | none=> simp [sliceBounds,HT.sIx]
  | some i=>
   simp only [sliceBounds,HT.sIx,Option.getD_none,show (1:Int) > 0 by decide,if_true]
   by_cases h:i < 0
   ·simp only [h,if_true] <;> omega
   ·simp only [h,if_false] <;> omega
 ·cases hi with
  | none=> simp [sliceBounds,HT.sIx]
  | some i=>
   simp only [sliceBounds,HT.sIx,Option.getD_none,show (1:Int) > 0 by decide,if_true]
   by_cases h:i < 0
   ·simp only [h,if_true] <;> omega
   ·simp only [h,if_false] <;> omega
theorem fY (its:List Value) (lo hi:Option Int):slicePick its.toArray lo hi none=((its.drop (HT.sIx its.length 0 lo)).take (HT.sIx its.length its.length hi - HT.sIx its.length 0 lo)).toArray:=by
 obtain ⟨h1,h2,h3⟩:=gY lo hi its.toArray.size
 unfold slicePick
 rw [h1,h2,h3]
 simp only [sliceRange_one,pick_run,List.size_toArray] <;> rfl
def r8 (K:PySem.W.Frag):V→Option Int→Option Int→Hp→VK→Prop:=fun x lo hi H Q=> ∃ a xs,x=.ref a∧SqL K H a xs∧∀ p,H p=none→Q (.ref p) (upd H p (.lst (kX xs lo hi)))
theorem oa:SlR X (r8 X.K):=by
 intro pins s σ H x v vl vu lo hi sl Q I rx hs pl pu h
 obtain ⟨a,xs,rfl,hx,q⟩:=h
 cases rx
 obtain ⟨its,r,ht,hz⟩:=I.list hx
 have hlen:=r.length
 refine ⟨"list",_,slot_list_getitem.lookup,ht.isList.typeIs,?_⟩
 refine wpAny_getItem_list_slice ht.isList hs pl pu .none (by simp) ?_ (by rw [List.size_toArray] <;> omega)
 rw [fY,← hlen]
 refine ⟨.ref s.heap.objs.size,_,I.laid (t':=s.toks) (o:=.lst (kX xs lo hi)) (fun b ob q=> Heap.get?_push_of_some _ q) (Nat.le_refl _) ?_,rfl,q _ (I.hok.fresh (Nat.le_refl _))⟩
 exact ⟨Nat.le_trans (iY xs lo hi) hz,_,0,(r.drop (HT.sIx xs.length 0 lo)).take (HT.sIx xs.length xs.length hi - HT.sIx xs.length 0 lo),Heap.get?_push_size _ rfl⟩
theorem eA:cw X (.builtin "len") (fun xs H Q=> ∃ p ys,xs=[.ref p]∧(SqL X.K H p ys∨SqT X.K H p ys)∧Q (.int ys.length) H):=by
 intro pins s σ H xs us Q I r h
 obtain ⟨p,ys,rfl,hq,q⟩:=h
 obtain ⟨u,rfl,rx⟩:=jM r
 cases rx
 have hn:=gR
 rcases hq with hq | hq
 ·obtain ⟨its,r',pl,hz⟩:=I.list hq
  have hlen:=r'.length
  exact Calls.call_len_list pl.isList (by simp only [List.size_toArray] <;> omega) ⟨.int ys.length,H,I.tok _,⟨s.toks+1,by rw [List.size_toArray,hlen]⟩,q⟩
 ·obtain ⟨its,r',pl,hz⟩:=I.tuple hq
  have hlen:=r'.length
  exact len_tuple pl (by simp only [List.size_toArray] <;> omega) ⟨.int ys.length,H,I.tok _,⟨s.toks+1,by rw [List.size_toArray,hlen]⟩,q⟩
theorem gT:cw X (.type "list") (fun xs H Q=> ∃ p ys,xs=[.ref p]∧(SqL X.K H p ys∨SqT X.K H p ys)∧∀ l,H l=none→Q (.ref l) (upd H l (.lst ys))):=by
 intro pins s σ H xs us Q I r h
 obtain ⟨p,ys,rfl,hq,q⟩:=h
 obtain ⟨u,rfl,rx⟩:=jM r
 cases rx
 have fin:∀ (its:List Value),av ys its→ys.length≤sizeLine→∀ (h':Heap) (c':Nat),(∀ b o',s.heap.get? b=some o'→h'.get? b=some o')→
   h'.get? s.heap.objs.size=some { cls:=.type "list",dict:=none,data:=.seq its.toArray c',slots:=#[] }→EP X pins σ Q (.ref s.heap.objs.size) { s with heap:=h' }:=fun its r' hz h' c' kp e=>
  ⟨.ref s.heap.objs.size,_,I.laid (t':=s.toks) kp (Nat.le_refl _) (show bN X.prog X.w _ h' _ (.lst ys) from ⟨hz,its,c',r',e⟩),rfl,q _ (I.hok.fresh (Nat.le_refl _))⟩
 rcases hq with hq | hq
 ·obtain ⟨its,r',pl,hz⟩:=I.list hq
  have hlen:=r'.length
  obtain ⟨o,ho,hc,n,hd⟩:=pl.isList
  exact call_list_seq p (.inl rfl) ho hc hd (fun h' c' kp e=> fin its r' hz h' c' kp e) (by simp only [List.size_toArray] <;> omega)
 ·obtain ⟨its,r',pl,hz⟩:=I.tuple hq
  have hlen:=r'.length
  obtain ⟨o,ho,hc,n,hd⟩:=pl
  exact call_list_seq p (.inr rfl) ho hc hd (fun h' c' kp e=> fin its r' hz h' c' kp e) (by simp only [List.size_toArray] <;> omega)
def tyV (K:PySem.W.Frag) (T:String) (x:V) (H:Hp):Prop:=match x with
 | .str _=> T="str"
 | .int _=> T="int"
 | .ref p=> (T="list"∧∃ xs,SqL K H p xs)∨(T="tuple"∧∃ o,K.lookup p=some o∧o.cls=.type "tuple"∧o.dict=none)∨
   (T="dict"∧((∃ kvs,H p=some (.dK kvs))∨∃ kvs,H p=some (.dT kvs)))∨(T="set"∧∃ S n,H p=some (.set S n))
 | _=> False
theorem lY {pins:List (Addr×Obj)} {σ:St} {H:Hp} {s:Shared} {T:String} {x:V} {v:Value} (I:Inv X pins σ H s) (r:aL x v) (ty:tyV X.K T x H):
  s.TypeIs v T∧∀ a,v=.ref a→∃ ob,s.heap.get? a=some ob∧ob.dict=none:=by
 cases x with
 | str z=>
  obtain ⟨t,rfl⟩:=r
  cases (show T="str" from ty)
  exact ⟨typeIs_str s z t,fun _ e=> nomatch e⟩
 | int i=>
  obtain ⟨t,rfl⟩:=r
  cases (show T="int" from ty)
  exact ⟨typeIs_int s i t,fun _ e=> nomatch e⟩
 | ref p=>
  cases r
  rcases ty with ⟨rfl,xs,hq⟩ | ⟨rfl,o,hk,hc,hd⟩ | ⟨rfl,hk⟩ | ⟨rfl,S,n,hk⟩
  ·obtain ⟨its,_,pl,_⟩:=I.list hq
   refine ⟨pl.isList.typeIs,fun a e=> ?_⟩
   cases e
   obtain ⟨o,n,e,c,hd,_⟩:=pl
   exact ⟨o,e,hd⟩
  ·refine ⟨⟨o,I.kIn p o hk,hc⟩,fun a e=> ?_⟩
   cases e
   exact ⟨o,I.kIn _ o hk,hd⟩
  ·have z:∃ o,s.heap.get? p=some o∧o.ExactDict:=by
    rcases hk with ⟨kvs,hk⟩ | ⟨kvs,hk⟩
    ·obtain ⟨_,_,_,_,o,_,_,e,ex,_⟩:=I.hok p _ hk
     exact ⟨o,e,ex⟩
    ·obtain ⟨_,_,_,_,o,_,_,e,ex,_⟩:=I.hok p _ hk
     exact ⟨o,e,ex⟩
   obtain ⟨o,e,ex⟩:=z
   refine ⟨⟨o,e,ex.1⟩,fun a e2=> ?_⟩
   cases e2
   exact ⟨o,e,ex.2.1⟩
  ·obtain ⟨o,_,_,_,e,ex,_⟩:=I.hok p _ hk
   refine ⟨⟨o,e,ex.1⟩,fun a e2=> ?_⟩
   cases e2
   exact ⟨o,e,ex.2.1⟩
 | _=> exact False.elim ty
def sJ (K:PySem.W.Frag) (T:String) (r:V→List V→Hp→VK→Prop) (to:TE):TE:=fun σ H Q=> to σ H fun x H1=> tyV K T x H1∧r x [] H1 Q
def tBM (K:PySem.W.Frag) (T:String) (r:V→List V→Hp→VK→Prop) (to:TE) (t:TA):TE:=fun σ H Q=> to σ H fun x H1=> tyV K T x H1∧t σ H1 fun xs H2=> r x xs H2 Q
variable {o e:Expr} {es:List Expr} {to:TE} {t:TA} {name:Str} {apos cpos:Pos} {T id:String} {r:V→List V→Hp→VK→Prop}
theorem qA (pa:PlainAttrs T) (slot:Slot T name id) (hty:typeOf (.builtin id)=pure (.type "method_descriptor")) (hm:MtR X id r) (ho:PE X o to)
  (hbase:attributeBase o name X.env (eval o X.env)=eval o X.env:=by rfl) (hline:(apos.endLine==cpos.line)=true:=by rfl):PE X (.Call (.Attribute o name apos) [] [] cpos) (sJ X.K T r to):=by
 intro pins s σ H Q I h
 refine wpAny_Call_method0_late hbase hline (thn (ho pins s σ H _ I h) fun v s1 ⟨x,H1,I1,r1,ty,q1⟩=> ?_)
 obtain ⟨h1,h2⟩:=lY I1 r1 ty
 exact ⟨T,id,pa,slot,hty,h1,h2,Calls.callWith_builtin rfl (PySem.evalArgs_none (hm pins s1 σ H1 x [] v [] Q I1 r1 .nil q1))⟩
theorem qZ (pa:PlainAttrs T) (slot:Slot T name id) (hty:typeOf (.builtin id)=pure (.type "method_descriptor")) (hm:MtR X id r) (ho:PE X o to) (ha:PA X (e::es) t)
  (hbase:attributeBase o name X.env (eval o X.env)=eval o X.env:=by rfl)
  (hfew:((backTo cpos (starEach (e::es) X.env)).all (fun x=> !x.1) && (backToKw cpos (keywordEach [] X.env)).all (fun x=> x.1.isSome)
   && decide ((e::es).length+([]:List Keyword).length+(if ([]:List Keyword).isEmpty then 0 else 1) < 30))=true:=by rfl)
  (hline:(apos.endLine==cpos.line)=true:=by rfl) (hs:starEach (e::es) X.env=(false,eval e X.env)::starEach es X.env:=by rfl) (hplain:(backTo cpos (starEach es X.env)).any (·.1)=false:=by rfl):
  PE X (.Call (.Attribute o name apos) (e::es) [] cpos) (tBM X.K T r to t):=by
 intro pins s σ H Q I h
 refine wpAny_Call_method_late hbase hfew hline rfl (thn (ho pins s σ H _ I h) fun v s1 ⟨x,H1,I1,r1,ty,q1⟩=> ?_)
 obtain ⟨h1,h2⟩:=lY I1 r1 ty
 refine ⟨T,id,pa,slot,hty,h1,h2,?_⟩
 have hA:=ha cpos pins s1 σ H1 _ I1 q1
 rw [hs] at hA ⊢
 refine Calls.callWith_builtin (by show (false || (backTo cpos (starEach es X.env)).any (·.1))=false; rw [hplain] <;> rfl) (Calls.evalArgs_plain ?_)
 exact thn hA fun us s2 ⟨vs,H2,I2,r2,q2⟩=> hm pins s2 σ H2 x vs v us Q I2 r1 r2 q2
/- xs.append(e),list.index on a module's tuple .. are MtR facts of 06m -/
end
end L2
namespace L2
open PySem PySem.Spec PyProof.Rows
def MtM (X:Cx) (id:String) (r:V→List V→Hp→VK→Prop):Prop:=
 ∀ (pins:List (Addr×Obj)) (s:Shared) (σ:St) (H:Hp) (x:V) (xs:List V) (v:Value) (us:List Value) (Q:VK),Inv X pins σ H s→aL x v→av xs us→r x xs H Q→
  wpAny (model X.prog X.w) X.A (call (.builtin id) (v::us)) (EP X pins σ Q) X.xe s
theorem av.one:∀ {x:V} {us:List Value},av [x] us→∃ u,us=[u]∧aL x u
 | _,_,.cons r .nil=> ⟨_,rfl,r⟩
theorem av.zero:∀ {us:List Value},av [] us→us=[]
 | _,.nil=> rfl
theorem av.dropLast {xs:List V} {us:List Value} (h:av xs us):av xs.dropLast us.dropLast:=by
 induction h with
 | nil=> exact .nil
 | cons r t ih=>
  cases t with
  | nil=> exact .nil
  | cons q t'=> exact .cons r ih
theorem i9 {α:Type} (l:List α):l.eraseIdx (l.length - 1)=l.dropLast:=by
 induction l with
 | nil=> rfl
 | cons a r ih=>
  cases r with
  | nil=> rfl
  | cons b r=>
   have e:(a::b::r).length - 1=((b::r).length - 1)+1:=by
    have h1:(a::b::r).length=r.length+2:=rfl
    have h2:(b::r).length=r.length+1:=rfl
    omega
   rw [e,List.eraseIdx_cons_succ,ih]
   all_goals rfl
section
variable {X:Cx} {pins:List (Addr×Obj)} {σ:St} {H:Hp} {s:Shared} {l b:Addr} {xs ys zs:List V}
theorem Inv.lset {its its':List Value} {n:Nat} {f:Array Value→Array Value} {t':Nat} (I:Inv X pins σ H s) (hH:H l=some (.lst xs))
  (e:s.heap.get? l=some { cls:=.type "list",data:=.seq its.toArray n }) (hf:f its.toArray=its'.toArray) (hv:av ys its') (hz:ys.length≤sizeLine):
  Inv X pins σ (upd H l (.lst ys)) { s with heap:=s.heap.update l (Obj.mapSeq f),toks:=t' }:=by
 have q:=PySem.IsL.update e f
 rw [hf] at q
 refine I.write (x:=l) (e:=l) (by rw [hH]; exact trivial) (.inl rfl) (fun b' u hb hu=> (Heap.get?_update_other s.heap (Obj.mapSeq f) (Ne.symm hb)).trans hu) ⟨_,q⟩ ?_
 exact ⟨hz,its',_,hv,q⟩
theorem Inv.lnew {its:List Value} {t':Nat} (I:Inv X pins σ H s) (hv:av ys its) (hz:ys.length≤sizeLine):
  Inv X pins σ (upd H s.heap.objs.size (.lst ys)) { s with heap:=s.heap.push { cls:=.type "list",data:=.seq its.toArray },toks:=t' }:=
 I.laid (fun _ _ q=> Heap.get?_push_of_some _ q) (Nat.le_refl _) ⟨hz,its,0,hv,Heap.get?_push_size _ rfl⟩
theorem Inv.fresh (I:Inv X pins σ H s):H s.heap.objs.size=none:=I.hok.fresh (Nat.le_refl _)
theorem Inv.lstM (I:Inv X pins σ H s) (hH:H l=some (.lst xs)):xs.length≤sizeLine∧∃ (its:List Value) (n:Nat),av xs its∧xs.length=its.length∧s.heap.get? l=some { cls:=.type "list",data:=.seq its.toArray n }:=by
 obtain ⟨z,its,n,r,e⟩:=I.hok l _ hH
 exact ⟨z,its,n,r,r.length,e⟩
theorem qT {n:Nat} (h:n≤sizeLine):Builtin.List.listTooLong n=false:=by
 unfold Builtin.List.listTooLong
 exact decide_eq_false (by omega)
end
section
variable {X:Cx}
def ny:V→List V→Hp→VK→Prop:=fun x vs H Q=> ∃ l xs y,x=.ref l∧vs=[y]∧H l=some (.lst xs)∧xs.length < sizeLine∧Q .non (upd H l (.lst (xs++[y])))
theorem ge:MtM X "list.append" ny:=by
 intro pins s σ H x vs v us Q I rx rv h
 obtain ⟨l,xs,y,rfl,rfl,hH,hz,q⟩:=h
 cases rx
 obtain ⟨u,rfl,ru⟩:=rv.one
 obtain ⟨z,its,n,r,hl,e⟩:=I.lstM hH
 refine call_meets F.slot_list_append ⟨_,e,rfl⟩ F.entry_list_append (F.args_list_append_2 _ _) (PySem.list_append l its.toArray n u (by rw [List.size_toArray]; omega)) ⟨e,?_⟩
 refine ⟨.non,_,I.lset (its':=its++[u]) hH e (by simp) (r.append (.cons ru .nil)) ?_,rfl,q⟩
 rw [List.length_append,List.length_singleton]
 omega
def sv:V→List V→Hp→VK→Prop:=fun x vs H Q=> ∃ l xs y,x=.ref l∧vs=[]∧H l=some (.lst xs)∧xs[xs.length - 1]?=some y∧Q y (upd H l (.lst xs.dropLast))
theorem qq:MtM X "list.pop" sv:=by
 intro pins s σ H x vs v us Q I rx rv h
 obtain ⟨l,xs,y,rfl,rfl,hH,hy,q⟩:=h
 cases rx
 have hus:=rv.zero
 subst hus
 obtain ⟨z,its,n,r,hl,e⟩:=I.lstM hH
 obtain ⟨u,hu,ru⟩:=r.get hy
 have hy':its.toArray[its.toArray.size - 1]?=some u:=by
  show its.toArray[its.length - 1]?=some u
  rw [← Array.getElem?_toList,← hl]
  exact hu
 refine call_meets F.slot_list_pop ⟨_,e,rfl⟩ F.entry_list_pop (F.args_list_pop_1 _) (MeetsSeq.list_pop_last l its.toArray n u hy' (by rw [List.size_toArray]; omega)) ⟨e,?_⟩
 refine ⟨y,_,I.lset (its':=its.dropLast) hH e ?_ r.dropLast ?_,ru,q⟩
 ·show its.toArray.eraseIdxIfInBounds (its.toArray.size - 1)=its.dropLast.toArray
  rw [List.size_toArray,List.eraseIdxIfInBounds_toArray,i9]
 ·rw [List.length_dropLast]
  omega
def r6:R2:=fun x y H Q=> ∃ l b xs zs,x=.ref l∧y=.ref b∧H l=some (.lst xs)∧H b=some (.lst zs)∧xs.length+zs.length≤sizeLine∧∀ p,H p=none→Q (.ref p) (upd H p (.lst (xs++zs)))
theorem qk:OpR X (binaryOp .Add) r6:=by
 intro pins s σ H x y v u Q I rx ry h
 obtain ⟨l,b,xs,zs,rfl,rfl,hH,hB,hz,q⟩:=h
 cases rx
 cases ry
 obtain ⟨z,its,n,r,hl,e⟩:=I.lstM hH
 obtain ⟨z2,its2,n2,r2,hl2,e2⟩:=I.lstM hB
 refine PySem.P.add_list e e2 ?_ (by rw [List.size_toArray,List.size_toArray]; omega)
 have ea:its.toArray++its2.toArray=(its++its2).toArray:=by simp
 rw [ea]
 exact ⟨.ref _,_,I.lnew (t':=s.toks) (r.append r2) (by rw [List.length_append]; omega),rfl,q _ I.fresh⟩
end
section
variable {prog:Program} {w:World} {A:Around} {E:Value→Shared→Prop} {s:Shared}
end
section
variable {X:Cx}
end
end L2
namespace Att
open PySem PySem.W PySem.Calls PyProof.Rows
theorem e8 {P:Params} {h:Heap}:∀ (ns:List Int) (vs:List Value),WellAll P h vs (ns.map WData.int)→IntsAre vs ns:=by
 intro ns
 induction ns with
 | nil=>
  intro vs w
  rw [List.map_nil] at w
  cases w
  exact .nil
 | cons n ns ih=>
  intro vs w
  rw [List.map_cons] at w
  cases w with
  | cons a b=>
   cases a
   exact .cons _ _ (ih _ b)
theorem script_of {l:OpenLaw} {n:Nat} (hn:l.most=some n) {P:Params} {h:Heap} {args:List WData} {vals:List Value}
  (hpre:l.row.toRowW.claim.pre args=true) (hwl:WellAll P h vals args):
  ∃ a vs ns,vals=[Value.ref a]∧args=[WData.list (ns.map WData.int)]∧h.get? a=some { cls:=.type "list",data:=.seq vs.toArray }∧IntsAre vs ns∧ns.length≤n:=by
 have hsh:WShape.hasAll [] args [.list .int]=true:=(pre_splitW hpre).1
 have hc:l.pre.holds [] { args:=args }=true:=(pre_splitW hpre).2
 obtain ⟨d,r,rfl,h1,h2⟩:=hasAllW_cons hsh
 obtain rfl:=hasAllW_nil h2
 obtain ⟨xs,rfl,h3⟩:=hasW_list h1
 obtain ⟨ns,rfl⟩:=items_int h3
 have hlen:ns.length≤n:=by
  unfold OpenLaw.pre at hc
  have h4:(WTm.not (.lt (.lit (.int (n:Int))) (.len (.arg 0)))).holds [] { args:=[.list (ns.map .int)] }=true:=by
   have h4:=(holds_andW hc).1
   rw [hn] at h4
   exact h4
  have h5:=condW_of h4 (w_not (w_lt w_lit (w_len_list (w_arg rfl))))
  rw [List.length_map] at h5
  refine Nat.le_of_not_lt fun q=> ?_
  have q':(n:Int) < ((ns.length:Nat):Int):=by omega
  first
   | (rw [decide_eq_true q'] at h5; exact absurd h5 (by decide))
   | (simp at h5; omega)
 cases hwl with
 | cons w1 w2=>
  cases w2
  cases w1 with
  | list ho hall=> exact ⟨_,_,ns,rfl,rfl,ho,e8 ns _ hall,hlen⟩
theorem post_true (l:OpenLaw) (args:List WData):l.row.toRowW.claim.post args (.bool true) args=true:=
 postW_of (r:=l.row.toRowW) (X:=(true==true))
  (show WShape.has [] (.bool true) .bool=true by first | rfl | decide | simp [WShape.has,WShape.arms,WShape.armsAll])
  (show (WTm.eq .res (.lit (.bool true))).value [] { args:=args,res:=some (.bool true),after:=args }=some (.bool (true==true)) from w_eq_bool (w_res rfl) w_lit) rfl
section
variable {prog:Program} {w:World} {A:Around} {E:Value→Shared→Prop} {s:Shared} {K:Frag}
end
end Att
namespace L2
open PySem PySem.Spec PyProof.Rows
theorem gJ:∀ {vs:List Value} {ns:List Int},IntsAre vs ns→av (ns.map V.int) vs
 | _,_,.nil=> .nil
 | _,_,.cons n t h=> .cons ⟨t,rfl⟩ (gJ h)
def nW (H:Hp):Prop:=∀ b,H b=none∨∃ o xs,H b=some (.frz o (.lst xs))
theorem lv {P:Program} {w:World} {K:PySem.W.Frag} {mg mb:Str→Option Value} {CX:CXT} {k:Nat} {fa a:Addr} {fd:FuncData} {x:Str} {sp:Sp} {s₁:Shared} {vs:List Value} {ns:List Int}
  (KX:K.In s₁.heap) (hns:s₁.heap.Ns mainGlobals mg) (hb:s₁.heap.Ns builtinsNs mb) (hbb:∀ x:Str,x≠"__name__"→mb x=bootBuiltins x) (hlim:s₁.heap.NoLimit) (hg:s₁.gens=#[])
  (ha:s₁.heap.get? a=some { cls:=.type "list",data:=.seq vs.toArray }) (hi:IntsAre vs ns) (hl:ns.length≤sizeLine) (hr:cS k callerA)
  (F:∀ base:Heap,K.In base→base.Ns mainGlobals mg→bF P w K mg base CX k fa fd [x] sp) (hbind:∀ (s:Shared) (u:Value),BindsTo s fd ⟨[u],[]⟩ [(x,u)])
  (hsp:∀ H:Hp,nW H→SqL K H a (ns.map V.int)→sp [.ref a] H (fun v _=> v=.bl true) fun _ _ _=> False)
  (hCX:∀ H e s',CX [] H s₁ (fun _ _ _=> False) e s'→False):
  codeAny (model P w) callerA (.call (.ref fa) ⟨[.ref a],[]⟩) (fun r s'=> r=.ok (.ret (.bool true))∧OldK s₁.heap s'.heap∧s'.os=s₁.os∧AllBare s'.gens) s₁:=by
 have rv:=gJ hi
 have lenV:=hi.length
 have core:∀ H:Hp,nW H→SqL K H a (ns.map V.int)→HOk P w H s₁.heap→(∀ b,H b≠none→b=a)→(H a≠none→K.lookup a=none)→
   codeAny (model P w) callerA (.call (.ref fa) ⟨[.ref a],[]⟩) (fun r s'=> r=.ok (.ret (.bool true))∧OldK s₁.heap s'.heap∧s'.os=s₁.os∧AllBare s'.gens) s₁:=by
  intro H hO hS hok hA hK
  have base_of:∀ {b:Addr} {o:Obj},s₁.heap.get? b=some o→H b=none→(ic s₁.heap H).get? b=some o:=fun e n=> mH e n
  have noA:∀ {b:Addr} {o:Obj} {es:Array DictEntry} {ep:Nat},s₁.heap.get? b=some o→o.data=.dict es ep→H b=none:=fun {b o es ep} e d=> by
   cases q:H b with
   | none=> rfl
   | some u=>
    have e':b=a:=hA b (by rw [q]; simp)
    subst e'
    rw [ha] at e; cases e
    have d':Data.seq vs.toArray _=Data.dict es ep:=d
    cases d'
  have nsK:∀ {b:Addr} {m:Str→Option Value},s₁.heap.Ns b m→(ic s₁.heap H).Ns b m:=fun {b m} ⟨o,es,ep,e,d,r⟩=> ⟨o,es,ep,base_of e (noA e d),d,r⟩
  have hKb:K.In (ic s₁.heap H):=fun b o e=> base_of (KX b o e) (by
   cases q:H b with
   | none=> rfl
   | some u=>
    have e':b=a:=hA b (by rw [q]; simp)
    subst e'
    rw [hK (by rw [q]; simp)] at e; cases e)
  have hM:Mod K mg (ic s₁.heap H):=⟨hKb,nsK hns,⟨mb,nsK hb,hbb⟩,let ⟨mc,h1,h2⟩:=hlim; ⟨mc,nsK h1,h2⟩⟩
  have e0:oz P w K mg (ic s₁.heap H) callerA [] s₁ H:=⟨rfl,hM,fun b o e=> nB e,Nat.le_of_eq (kT _ _),trivial,fun b hb=> absurd (show b∈([]:List Addr) from hb) (by simp),hok,.of_eq hg⟩
  refine codeAny_mono ((F _ hKb (nsK hns)).run callerA [] s₁ H ⟨[.ref a],[]⟩ [.ref a] [.ref a] _ _ hr e0 (hbind s₁ (.ref a)) (.cons rfl .nil) (hsp H hO hS)) fun r s' h=> ?_
  cases r with
  | error e=> exact (hCX H e s' h).elim
  | ok fl=>
   cases fl with
   | next=> exact False.elim h
   | brk=> exact False.elim h
   | cont=> exact False.elim h
   | ret u=>
    obtain ⟨v,H',os,bare,un,hok',r',q⟩:=h
    have q':v=.bl true:=q
    subst q'
    obtain rfl:u=Value.bool true:=r'
    refine ⟨rfl,OldK.of_keep fun b o e=> ?_,os,bare⟩
    cases q:H b with
    | none=> exact un.keep b o e q (by intro z; exact absurd (show b∈([]:List Addr) from z) (by simp)) (by simp)
    | some u=>
     rcases hO b with z | ⟨ob,xs,z⟩
     ·rw [q] at z; cases z
     ·have z2:=un.frzs b ob _ z
      obtain ⟨e1,_⟩:=hok b _ z
      obtain ⟨e2,_⟩:=hok' b _ z2
      rw [e] at e1; cases e1
      exact e2
 cases hk:K.lookup a with
 | some o=>
  have e:=KX a o hk
  rw [ha] at e
  cases e
  refine core (fun _=> none) (fun _=> .inl rfl) (.inr ⟨_,vs.toArray,_,hk,rfl,rfl,rfl,by rw [List.size_toArray,lenV]; exact hl,by simpa using rv⟩) (fun b u z=> by have z':(none:Option HO)=some u:=z; cases z') (fun b z=> absurd rfl z) fun z=> absurd rfl z
 | none=>
  refine core (fun b=> if b=a then some (.frz { cls:=.type "list",data:=.seq vs.toArray } (.lst (ns.map V.int))) else none) (fun b=> ?_) (.inl (.inr ⟨{ cls:=.type "list",data:=.seq vs.toArray },if_pos rfl⟩)) (fun b u z=> ?_) (fun b z=> ?_) fun _=> hk
  ·by_cases hb:b=a
   ·exact .inr ⟨_,_,if_pos hb⟩
   ·exact .inl (if_neg hb)
  ·by_cases hb:b=a
   ·have z':=(if_pos hb).symm.trans z
    cases z'
    subst hb
    exact ⟨ha,by rw [List.length_map]; exact hl,vs,_,rv,ha⟩
   ·have z':=(if_neg hb).symm.trans z
    cases z'
  ·by_cases hb:b=a
   ·exact hb
   ·exact absurd (if_neg hb) z
end L2
namespace L2
open PySem PySem.Spec PyProof.Rows
abbrev KOf {K:PySem.W.Frag} {h:Heap} (_:K.In h):PySem.W.Frag:=K
end L2
/- THE LAST THEOREM (shape; LID,My.* are yours):
   My.Adr:a structure of the addresses that your layer names (classes,functions); My.Txt K t:a structure (Prop) of the equations over K;
   My.txt_mk:{K} {implicit addresses ..} (e1:nsIn K mainGlobals "law"=some (some (.ref f))) (e2:K.lookup f=some ⟨oc,od,.func (fnOf "law" "law" params body scope dV kV doc pm an cdv ct),sl⟩) (e3:codeIn K cdv "law"=true) ..:∃ t,My.Txt K t
set_option maxRecDepth 100000 in
set_option maxHeartbeats 0 in
theorem PySem.Challenge.cw_LID_holds : PySem.Challenge.rw_LID.Holds := by
 w_on; o_law; k_head; (case hw=> w_witness2)
 k_fill
 refine L2.walk_of (l:=PySem.Challenge.rw_LID) (n:=63) (k:=40) (x:="script") (CX:=fun w=> ..) (sp:=fun _=> My.sp_law) rfl (by decide) rfl ⟨rfl,by decide,by decide⟩ (fun w h Y=> PySem.W.kIn_of Y) ?F ?S ?C
 case F=>
  intro w mg fa h KX G hmg
  have T:∃ t,My.Txt (L2.KOf KX) t:=by
   dsimp only [L2.KOf]                          -- K must stand as «<heap const> w.params» for k_is
   refine' My.txt_mk ?e1 ?e2 ?e3 ..
   (case e1=> PySem.W.k_is)                    -- in the order:a name -> its address -> its object -> its parts
   (case e2=> PySem.W.k_is)
   ..
  obtain ⟨t,T⟩:=T
  have e0:=hmg.symm.trans (PySem.W.mg_of KX G T.law)
  cases e0                                       -- fa is the law's own address
  exact ⟨_,fun s u=> .of_eq rfl,fun base kb nb=> My.law_fn T kb nb⟩     -- if «.of_eq rfl» comes too early:refine' ⟨_,?b,fun base kb nb=> My.law_fn T kb nb⟩; exact fun s u=> .of_eq rfl
 case S=> exact fun w H a ns hl hO hS=> ..
 case C=> exact ..
(the tactic k_is has no namespace:write k_is) -/
namespace L2
open PySem PySem.Spec PyProof.Rows
def aH (s:Stmt):Arguments:=match s with
 | .FunctionDef _ a _ _ _ _ _ _ _ _=> a
 | _=> { posonlyargs:=[],args:=[],vararg:=none,kwonlyargs:=[],kw_defaults:=[],kwarg:=none,defaults:=[] }
def aB (s:Stmt):List Stmt:=match s with
 | .FunctionDef _ _ b _ _ _ _ _ _ _=> b
 | _=> []
def aj (s:Stmt):Scope:=match s with
 | .FunctionDef _ _ _ _ _ _ sc _ _ _=> sc
 | _=> { kind:=.function,names:=[],isGenerator:=false,isCoroutine:=false }
abbrev CX0:CXT:=fun _ _ _ _ _ _=> False
abbrev E0:XK:=fun _ _ _=> False
structure Fun (K:PySem.W.Frag) (x qual:Str) (st:Stmt) (f:Addr) (fd:FuncData):Prop where
 ex:∃ (oc:Value) (od:Option Addr) (kV doc pm:Value) (an:Option Addr) (cdv ct:Value) (osl:Array (Option Value)),
  fd=PySem.W.fnOf x qual (aH st) (aB st) (aj st) .none kV doc pm an cdv ct∧K.lookup f=some ⟨oc,od,.func fd,osl⟩∧PySem.W.codeIn K cdv qual=true
 kp:PySem.W.keepIn K (.ref f)=true
section
variable {P:Program} {w:World} {K:PySem.W.Frag} {mg:Str→Option Value} {base:Heap}
theorem Fun.binds {x qual:Str} {st:Stmt} {f:Addr} {fd:FuncData} {ps:List Str} (F:Fun K x qual st f fd)
  (h:∀ (kV doc pm:Value) (an:Option Addr) (cdv ct:Value) (us:List Value),us.length=ps.length→bindArgs (PySem.W.fnOf x qual (aH st) (aB st) (aj st) .none kV doc pm an cdv ct) ⟨us,[]⟩=pure (ps.zip us)):bo K fd ps []:=by
 obtain ⟨oc,od,kV,doc,pm,an,cdv,ct,osl,rfl,lk,hcd⟩:=F.ex
 exact .all (h kV doc pm an cdv ct)
theorem bK {x qual:Str} {st:Stmt} {f:Addr} {oc:Value} {od an:Option Addr} {osl:Array (Option Value)} {kV doc pm cdv ct:Value} (l:K.lookup f=some ⟨oc,od,.func (PySem.W.fnOf x qual (aH st) (aB st) (aj st) .none kV doc pm an cdv ct),osl⟩)
  (c:PySem.W.codeIn K cdv qual=true) (k:PySem.W.keepIn K (.ref f)=true):Fun K x qual st f (PySem.W.fnOf x qual (aH st) (aB st) (aj st) .none kV doc pm an cdv ct):=⟨⟨oc,od,kV,doc,pm,an,cdv,ct,osl,rfl,l,c⟩,k⟩
end
theorem am {n:Nat} (h:n≤1000):n < sizeLine:=Nat.lt_of_le_of_lt h (by decide)
section
variable {X:Cx}
end
theorem m5 {A B:Prop} (h:B):if false=true then A else B:=by
 rw [if_neg Bool.false_ne_true]
 exact h
theorem lF {A B:Prop} (h:A):if true=true then A else B:=by
 rw [if_pos rfl]
 exact h
def ay (H H':Hp):Prop:=∀ b o,H b=some o→H' b=some o
theorem ay.refl (H:Hp):ay H H:=fun _ _ h=> h
theorem ay.trans {H H1 H2:Hp} (a:ay H H1) (b:ay H1 H2):ay H H2:=fun c o h=> b c o (a c o h)
theorem ay.free {H H':Hp} (e:ay H H') {l:Addr} (h:H' l=Option.none):H l=Option.none:=by
 cases q:H l with
 | none=> rfl
 | some o=>
  rw [e l o q] at h
  cases h
theorem ay.seq {K:PySem.W.Frag} {H H':Hp} {a:Addr} {xs:List V} (e:ay H H') (h:SqL K H a xs):SqL K H' a xs:=by
 rcases h with (h | ⟨o,h⟩) | h
 ·exact .inl (.inl (e _ _ h))
 ·exact .inl (.inr ⟨o,e _ _ h⟩)
 ·exact .inr h
end L2
namespace L2
open PySem PySem.Spec PyProof.Rows
def Sz (m:Nat) (x:Int):Prop:=x.natAbs < 2 ^ m
theorem Sz.mono {m n:Nat} {x:Int} (h:Sz m x) (hmn:m≤n):Sz n x:=Nat.lt_of_lt_of_le h (Nat.pow_le_pow_right (by decide) hmn)
theorem Sz.neg {m:Nat} {x:Int} (h:Sz m x):Sz m (-x):=by unfold Sz at *; rw [Int.natAbs_neg]; exact h
theorem Sz.add {m:Nat} {x y:Int} (hx:Sz m x) (hy:Sz m y):Sz (m+1) (x+y):=by
 unfold Sz at *
 have:=Int.natAbs_add_le x y
 rw [Nat.pow_succ]; omega
theorem Sz.sub {m:Nat} {x y:Int} (hx:Sz m x) (hy:Sz m y):Sz (m+1) (x - y):=by
 rw [Int.sub_eq_add_neg]; exact hx.add hy.neg
theorem Sz.mul {m n:Nat} {x y:Int} (hx:Sz m x) (hy:Sz n y):Sz (m+n) (x * y):=by
 unfold Sz at *
 rw [Int.natAbs_mul,Nat.pow_add]
 exact Nat.mul_lt_mul'' hx hy
theorem Sz.le {m:Nat} {x y:Int} (h:x.natAbs≤y.natAbs) (hy:Sz m y):Sz m x:=Nat.lt_of_le_of_lt h hy
theorem Sz.ediv {m:Nat} {x y:Int} (hx:Sz m x):Sz m (x / y):=Sz.le (Int.natAbs_ediv_le_natAbs x y) hx
instance (m:Nat) (x:Int):Decidable (Sz m x):=inferInstanceAs (Decidable (x.natAbs < 2 ^ m))
theorem Sz.add' {m n:Nat} {x y:Int} (hx:Sz m x) (hy:Sz n y):Sz (max m n+1) (x+y):=(hx.mono (Nat.le_max_left m n)).add (hy.mono (Nat.le_max_right m n))
theorem Sz.sub' {m n:Nat} {x y:Int} (hx:Sz m x) (hy:Sz n y):Sz (max m n+1) (x - y):=(hx.mono (Nat.le_max_left m n)).sub (hy.mono (Nat.le_max_right m n))
theorem Sz.lit {m:Nat} {x:Int} (h:Sz m x):Sz m x:=h
theorem Sz.ok {m n:Nat} {x y:Int} (hx:Sz m x) (hy:Sz n y) (h:m+n≤134217728):IntMulOk x y:=
 PyProof.Rows.mulOk_of_bits (intBits_le_iff.mpr hx) (intBits_le_iff.mpr hy) h
theorem Sz.log {m:Nat} {x:Int} (h:Sz m x) (hm:m≤9000) (h0:x≠0):x.natAbs.log2 < 9000:=by
 have q:=(Nat.log2_lt (by omega)).mpr (show x.natAbs < 2 ^ m from h)
 omega
def o6 (_ j:Int):Prop:=0 < j∧Sz 9000 j
section
variable {X:Cx} {a b c:Expr} {ta tb tc:TE} {pos:Pos}
theorem nD:OpR X (binaryOp .Mult) (rI IntMulOk fun i j=> .int (i * j)):=opI fun _ _ _ _ _ _ _ hc q=> mul_int q hc
theorem nj:OpR X (binaryOp .FloorDiv) (rI o6 fun i j=> .int (i / j)):=opI fun i j _ _ _ _ _ hc q=> by
 have h1:(0:Int) < j:=hc.1
 exact floordiv_int (by omega) (by rw [Int.fdiv_eq_ediv_of_nonneg i (by omega)]; exact q) (.inl (PyProof.noPylong_of_log2 (hc.2.log (by decide) (by omega))))
theorem qW {x:Str} {n:String} {pos:Pos} (hg:Gl X x) (hm:X.mg x=none) (hv:bootBuiltins x=some (.type n)) (hn:x≠"__name__":=by decide) (hd:(x==("__debug__":Str))=false:=by decide):PE X (.Name x pos) (tC (.ty n)):=
 nU hg hm hv rfl hn hd
end
section
variable {X:Cx}
end
theorem kit_int_int (K:PySem.W.Frag):PySem.W.kitOne K (.type "int") (.type "int")=some true:=rfl
theorem kit_int_bool (K:PySem.W.Frag):PySem.W.kitOne K (.type "int") (.type "bool")=some false:=rfl
theorem kit_tuple_tuple (K:PySem.W.Frag):PySem.W.kitOne K (.type "tuple") (.type "tuple")=some true:=rfl
theorem kit_list_list (K:PySem.W.Frag):PySem.W.kitOne K (.type "list") (.type "list")=some true:=rfl
section
variable {X:Cx} {tg:Expr}
end
theorem aM {H:Hp} {p:Addr} (h:H p=none) (o:HO):ay H (upd H p o):=fun b u q=> by rw [ba (bL q h)]; exact q
theorem ay.put {H H':Hp} {l:Addr} (e:ay H H') (h:H l=none) (o:HO):ay H (upd H' l o):=fun b u q=> by rw [ba (bL q h)]; exact e b u q
theorem ay.tup {K:PySem.W.Frag} {H H':Hp} {a:Addr} {xs:List V} (e:ay H H') (h:SqT K H a xs):SqT K H' a xs:=by
 rcases h with (h | ⟨o,h⟩) | h
 ·exact .inl (.inl (e _ _ h))
 ·exact .inl (.inr ⟨o,e _ _ h⟩)
 ·exact .inr h
end L2
namespace L2
open PySem PySem.W PySem.Calls PySem.Spec PyProof.Rows
theorem ip {ns:List Int} (h:WData.layableAll [WData.list (ns.map WData.int)]=true):∀ n∈ns,Sz 1048576 n:=by
 intro n hn
 have h1:=(PySem.W.layableW_arg h) _ (List.mem_singleton.mpr rfl)
 have h2:=PySem.W.layableW_item h1 (WData.int n) (List.mem_map.mpr ⟨n,hn,rfl⟩)
 have h3:=(PySem.W.layableW_iff.mp h2).2.2
 have h4:Builtin.Int.intBits n≤1048576:=by simpa only [WData.weight,Builtin.Int.intBits] using h3
 exact intBits_le_iff.mp h4
theorem g4 {l:PySem.W.OpenLaw} {n:Nat} {q:Program} {loose:List Str} {XP:(Str→Option Value)→Heap→Prop} {YP:World→Heap→Prop} {d:DefRec}
  (hn:l.most=some n) (hdf:d.params.defaults=[])
  (call:∀ (w:World) (s₀ s₁:Shared) (mg mb:Str→Option Value) (fa:Addr) (o:Obj) (pm cd doc:Value) (a:Addr) (vs:List Value) (ns:List Int),
   PySem.W.Ground q loose [] XP w s₀ mg mb s₁.heap→YP w s₁.heap→
   s₁.heap.get? fa=some o→o.data=.func (docDef d.name d.params d.body d.scope pm cd doc)→s₁.heap.CodeRec cd d.name→mg d.name=some (.ref fa)→
   s₁.heap.get? a=some { cls:=.type "list",data:=.seq vs.toArray }→IntsAre vs ns→ns.length≤n→(∀ m∈ns,Sz 1048576 m)→s₁.gens=#[]→
   codeAny (model l.prog w) callerA (.call (.ref fa) ⟨[.ref a],[]⟩) (fun r s'=> r=.ok (.ret (.bool true))∧OldK s₁.heap s'.heap∧s'.os=s₁.os∧AllBare s'.gens) s₁):
  PySem.W.WalkO q loose XP YP l.row.toRowW d [] (fun f vs=> PySem.call f vs):=by
 intro w s₀ s₁ mg mb G Y fa o pm cd doc dV kV ho hd hcd hD hmg hg args vals as hpre hlay hrd hwl hlo
 obtain rfl:dV=.none:=PySem.W.Dflts.none hD hdf
 obtain rfl:kV=.none:=PySem.W.Dflts.noKw hD
 obtain ⟨a,vs,ns,rfl,rfl,hobj,hints,hlen⟩:=Att.script_of hn hpre hwl
 refine PySem.W.enter_call (codeAny_mono (call w s₀ s₁ mg mb fa o pm cd doc a vs ns G Y ho (PySem.W.fd_plain hd) hcd hmg hobj hints hlen (ip hlay) hg) fun r s' hq=> ?_)
 obtain ⟨rfl,h2,h3,h4⟩:=hq
 exact ⟨.inl ⟨.bool true,.bool true,[],rfl,fun _=> rfl,.bool true,Att.post_true l _,fun _=> ⟨List.Pairwise.nil,fun _ hm=> (nomatch hm)⟩⟩,h2,h3,h4⟩
theorem walk_ofB {l:PySem.W.OpenLaw} {n k:Nat} {q:Program} {loose:List Str} {XP:(Str→Option Value)→Heap→Prop} {YP:World→Heap→Prop} {d:DefRec} {K:Params→PySem.W.Frag} {CX:CXT} {sp:PySem.W.Frag→Sp} {x:Str}
  (hn:l.most=some n) (hn2:n≤sizeLine) (hdf:d.params.defaults=[]) (hr:cS k callerA)
  (hY:∀ (w:World) (h:Heap),YP w h→(K w.params).In h)
  (F:∀ (w:World) (mg:Str→Option Value) (fa:Addr) (h:Heap),(K w.params).In h→h.Ns mainGlobals mg→mg d.name=some (.ref fa)→
   ∃ fd:FuncData,(∀ (s:Shared) (u:Value),BindsTo s fd ⟨[u],[]⟩ [(x,u)])∧
    ∀ base:Heap,(K w.params).In base→base.Ns mainGlobals mg→bF l.prog w (K w.params) mg base CX k fa fd [x] (sp (K w.params)))
  (hsp:∀ (K:PySem.W.Frag) (H:Hp) (a:Addr) (ns:List Int),ns.length≤n→(∀ m∈ns,Sz 1048576 m)→nW H→SqL K H a (ns.map V.int)→sp K [.ref a] H (fun v _=> v=.bl true) fun _ _ _=> False)
  (hCX:∀ (H:Hp) (s:Shared) (e:Value) (s':Shared),CX [] H s (fun _ _ _=> False) e s'→False):
  PySem.W.WalkO q loose XP YP l.row.toRowW d [] (fun f vs=> PySem.call f vs):=by
 refine g4 hn hdf fun w s₀ s₁ mg mb fa o pm cd doc a vs ns G Y ho hd hcd hmg hobj hints hlen hbits hg=> ?_
 have KX:=hY w _ Y
 obtain ⟨fd,hb,hF⟩:=F w mg fa _ KX G.T.g hmg
 exact lv KX G.T.g G.T.b G.T.builtins G.T.nolimit hg hobj hints (Nat.le_trans hlen hn2) hr hF hb (fun H hO hS=> hsp _ H a ns hlen hbits hO hS) fun H e s'=> hCX H s₁ e s'
end L2
namespace L2
theorem mt {α:Type} {xs:List α} {k:Int} {i:Nat} {v:α} (e:k=(i:Int)) (h:xs[i]?=some v):atI xs k=some v:=by subst e; exact jF h
end L2
namespace L2
end L2
namespace L2
open PySem PySem.Spec PyProof.Rows
abbrev aN (X:Cx) (scope:Scope) (cl:List (Str×Addr)) (C:Addr) (s:Shared) (H:Hp) (fp:List Addr):Cx:=
 { X with s₀:=s,H₀:=H,env:=compEnvC scope cl C X.env,outer:=X.stack,ex:=fp,fn:=fun _=> false,pn:=[],xe:=fun _ _=> False }
def mask:List Nat→St→St
 | [],σ=> σ
 | i::is,σ=> mask is (σ.set i none)
theorem fO:∀ (is:List Nat) (σ:St),(mask is σ).length=σ.length
 | [],_=> rfl
 | i::is,σ=> by rw [mask,fO is]; simp
theorem fK:∀ (is:List Nat) (σ:St) (j:Nat) (v:V),(mask is σ)[j]?=some (some v)→σ[j]?=some (some v)∧j ∉ is
 | [],σ,j,v,h=> ⟨h,by simp⟩
 | i::is,σ,j,v,h=> by
  obtain ⟨h1,h2⟩:=fK is _ j v h
  by_cases e:i=j
  ·subst e
   rw [List.getElem?_set] at h1
   simp at h1
  ·rw [List.getElem?_set_ne e] at h1
   exact ⟨h1,by simp [Ne.symm e,h2]⟩
structure cZ (X:Cx) (scope:Scope) (cl:List (Str×Addr)) (is:List Nat):Prop where
 clos:closureFor scope X.env=pure cl
 cell:∀ y∈scope.names,y.2≠.cell
 kind:scope.kind=.function
 names:∀ y∈scope.names,y.2=.local→scope.names.lookup y.1=some .local
 cls:∀ x c,cl.lookup x=some c→X.env.cells.lookup x=some c
 free:∀ x,((relabel scope X.env).names.lookup x=some .cell∨(relabel scope X.env).names.lookup x=some .free)→Vis X.env.scope x∧X.env.scope.names.lookup x≠some .local∧∃ c,cl.lookup x=some c
 own:∀ i x,X.N[i]?=some x→(relabel scope X.env).names.lookup x=some .local→i∈is
def lV (J:It) (is:List Nat) (g:TG) (te:TE) (σ:St) (H1:Hp) (l:Addr) (Q:VK):Prop:=
 ∃ W:Nat→Nat→Hp→Prop,(∃ m,W 0 m (upd H1 l (.lst [])))∧∀ i m H2,W i m H2→
  (J.stop i H2∧Q (.ref l) H2)∨(J.go i H2∧∀ x H3,J.yld i H2 x H3→g x (mask is σ) H3 fun σ4 H4=> te σ4 H4 fun y H5=>
   (∀ (j:Nat) (v:V),(mask is σ)[j]?=some (some v)→σ4[j]?=some (some v))∧∃ vs,H5 l=some (.lst vs)∧vs.length < sizeLine∧∃ m',m' < m∧W (i+1) m' (upd H5 l (.lst (vs++[y]))))
def oS (is:List Nat) (g:TG) (te:TE) (σ:St) (Q:VK) (J:It) (H1:Hp):Prop:=∀ l,H1 l=none→lV J is g te σ H1 l Q
def lO (is:List Nat) (wi:TI) (g:TG) (te:TE):TE:=fun σ H Q=> wi σ H (oS is g te σ Q)
section
variable {X:Cx} {pins:List (Addr×Obj)} {σ:St} {H:Hp} {s:Shared}
theorem ir {scope:Scope} {cl:List (Str×Addr)} {is:List Nat} {fp:List Addr} {h₁:Heap} {m:Str→Option Value} {t':Nat} (I:Inv X pins σ H s) (B:cZ X scope cl is) (hf:∀ b∈fp,gS X pins H b) (hfl:∀ b∈fp,b < s.heap.objs.size)
  (hn:h₁.Ns s.heap.objs.size m) (hk:∀ b o,s.heap.get? b=some o→h₁.get? b=some o):
  Inv (aN X scope cl s.heap.objs.size s H fp) [] (mask is σ) H { s with heap:=h₁,toks:=t' }:=by
 refine ⟨⟨I.ok.mod,B.kind,I.ok.glob,I.ok.blt,Nat.le_refl _,fun x y c h1 h2=> I.ok.inj x y c (B.cls x c h1) (B.cls y c h2),fun x hx=> (B.free x hx).2.2,fun x c h=> (by cases h),I.ok.hd,I.ok.frames,.inl rfl,fun b hb=> ⟨Nat.ne_of_lt (hfl b hb),fun x c e=> (hf b hb).2.2.2.2.1 x c (B.cls x c e)⟩,
  I.bs,Nat.le_trans I.ok.bsz I.sz,fun b o e hb=> ?_,fun b hb z=> ?_,I.stack,I.stkFree⟩,rfl,I.bare,Un.kept hk,⟨m,hn,fun i x v h1 h2 h3=> ?_⟩,fun x c e=> ?_,I.hok.fresh (Nat.le_refl _),fun x c e=> I.freeC x c (B.cls x c e),fun p hp=> absurd (show p∈([]:List (Addr×Obj)) from hp) (by simp),I.hok.kept hk,?_⟩
 ·rcases (hf b hb).2.2.2.1 with z | z
  ·exact I.ok.noex b o e z
  ·exact absurd (Nat.lt_of_lt_of_le (Heap.lt_size e) (Nat.le_trans I.ok.bsz z)) (Nat.lt_irrefl _)
 ·rcases List.mem_cons.mp (I.stkSub b z) with e | e
  ·exact (hf b hb).2.1 e
  ·exact (hf b hb).2.2.1 e
 ·obtain ⟨e2,ni⟩:=fK is σ i v h2
  have h3':(relabel scope X.env).names.lookup x=some .local∨(relabel scope X.env).names.lookup x=some .cell∨(relabel scope X.env).names.lookup x=some .free:=h3
  rcases h3' with z | z
  ·exact absurd (B.own i x h1 z) ni
  ·obtain ⟨hv,hnl,c,hc⟩:=B.free x z
   obtain ⟨m0,_,hl⟩:=I.loc
   obtain ⟨u,r,l⟩:=hl i x v h1 e2 hv
   refine ⟨u,r,.inr ⟨z,c,hc,?_⟩⟩
   rcases l with ⟨k,_⟩ | ⟨_,c',hc',o,ho,hd⟩
   ·exact absurd k hnl
   ·have ec:=B.cls x c hc
    rw [hc'] at ec
    cases ec
    exact ⟨o,hk _ _ ho,hd⟩
 ·obtain ⟨v,o,ho,hd⟩:=I.cell x c (B.cls x c e)
  exact ⟨v,o,hk _ _ ho,hd⟩
 ·show (mask is σ).length=X.N.length
  rw [fO]; exact I.len
theorem iU {elt iter tg:Expr} {scope:Scope} {cl:List (Str×Addr)} {pos pos0:Pos} {is:List Nat} {wi:TI} {g:TG} {te:TE} {use:Option (Value→Sem Unit)} {Q0:VK} {Q:Value→Shared→Prop} (hc:X.calm=true) (B:cZ X scope cl is)
  (hi:PI X tg iter wi) (hg:∀ C s H fp,PG (aN X scope cl C s H fp) tg g) (he:∀ C s H fp,PE (aN X scope cl C s H fp) elt te) (hs:∀ x,foldedSetIterable iter X.env x=pure x)
  (I:Inv X pins σ H s) (h:lO is wi g te σ H Q0)
  (fin:∀ (l C:Addr) (H':Hp) (s':Shared) (m:Str→Option Value),Inv X pins σ H' s'→s'.heap.Ns C m→H' C=none→C≠X.env.locals→C ∉ X.fs→X.s₀.heap.objs.size≤C→(∀ x c,X.env.cells.lookup x=some c→c≠C)→(∀ p∈X.pn++pins,p.1≠C)→Q0 (.ref l) H'→
   compPost (model X.prog X.w) X.A X.xe use Q (.ref l) C (.ok .next) s'):
  wpAny (model X.prog X.w) X.A (comprehension (.ListComp elt [⟨tg,iter,[],0⟩] scope pos) scope X.env pos0 (newList []) false (eval iter X.env) use) Q X.xe s:=by
 refine wpAny_comprehension_free rfl hs B.clos B.kind B.names (thn (hi pins s σ H _ I h) fun xv s1 h1=> thn h1 fun itv s2 h2=> ?_)
 obtain ⟨it,fp,tn,J,H2,e,I2,T,st2,f2,R⟩:=h2
 subst e
 refine wpAny_newObj_type (wpAny_newFunctionEnv B.cell (by intro y hy; simp at hy) (fun h₁ hns hsb=> ?_) B.kind)
 have hl:H2 s2.heap.objs.size=none:=I2.hok.fresh (Nat.le_refl _)
 obtain ⟨W,⟨m0,w0⟩,turn⟩:=R s2.heap.objs.size hl
 have I3:Inv X pins σ (upd H2 s2.heap.objs.size (.lst [])) { s2 with heap:=s2.heap.push { cls:=.type "list",dict:=none,data:=.seq ([]:List Value).toArray } }:=
  I2.laid (t':=s2.toks) (o:=.lst []) (fun b u e=> Heap.get?_push_of_some _ e) (Nat.le_refl _) ⟨Nat.zero_le _,[],0,.nil,Heap.get?_push_size _ rfl⟩
 have hfl:∀ b∈fp,b < s2.heap.objs.size:=fun b hb=> let ⟨o,e,_⟩:=T.obj 0 _ st2 b hb; Heap.lt_size e
 have f3:∀ b∈fp,gS X pins (upd H2 s2.heap.objs.size (.lst [])) b:=fun b hb=> ⟨by rw [ba (Nat.ne_of_lt (hfl b hb))]; exact (f2 b hb).1,(f2 b hb).2⟩
 have kp:∀ b o,(s2.heap.push { cls:=.type "list",dict:=none,data:=.seq ([]:List Value).toArray }).get? b=some o→h₁.get? b=some o:=fun b o e=>
  hsb.extBut b o (Nat.ne_of_lt (Heap.lt_size e)) (Heap.get?_push_of_some _ e)
 have st4:tn 0 h₁:=T.keep 0 _ _ st2 fun b _ o e=> kp b o (Heap.get?_push_of_some _ e)
 have hfl3:∀ b∈fp,b < (s2.heap.push { cls:=.type "list",dict:=none,data:=.seq ([]:List Value).toArray }).objs.size:=fun b hb=> by
  rw [Heap.size_push]; exact Nat.lt_succ_of_lt (hfl b hb)
 have I4:=ir (t':=s2.toks+([]:List (Str×Value)).length) I3 B f3 hfl3 hns kp
 have loop:codeAny (model X.prog X.w) X.A (.compLoop (.ListComp elt [⟨tg,iter,[],0⟩] scope pos) 0 (.ref it) (.ref s2.heap.objs.size) (compEnvC scope cl (s2.heap.push { cls:=.type "list",dict:=none,data:=.seq ([]:List Value).toArray }).objs.size X.env))
   (compPost (model X.prog X.w) X.A X.xe use Q (.ref s2.heap.objs.size) (s2.heap.push { cls:=.type "list",dict:=none,data:=.seq ([]:List Value).toArray }).objs.size)
   { s2 with heap:=h₁,toks:=s2.toks+([]:List (Str×Value)).length }:=by
  generalize hs3:({ s2 with heap:=s2.heap.push { cls:=.type "list",dict:=none,data:=.seq ([]:List Value).toArray } }:Shared)=s3 at *
  have hC:(s2.heap.push { cls:=.type "list",dict:=none,data:=.seq ([]:List Value).toArray }).objs.size=s3.heap.objs.size:=by rw [← hs3]
  rw [hC]
  have hstat:∀ {H':Hp},(∀ b∈fp,H' b=none)→∀ b∈fp,gS (aN X scope cl s3.heap.objs.size s3 (upd H2 s2.heap.objs.size (.lst [])) fp) [] H' b:=fun hn b hb=>
   ⟨hn b hb,(I4.ok.exf b hb).1,I4.ok.exfs b hb,.inl hb,fun x c e=> (I4.ok.exf b hb).2 x c e,fun p hp=> absurd (show p∈([]:List (Addr×Obj)) from hp) (by simp)⟩
  have back:∀ {σ':St} {H':Hp} {pp:List (Addr×Obj)} {s':Shared},Inv (aN X scope cl s3.heap.objs.size s3 (upd H2 s2.heap.objs.size (.lst [])) fp) pp σ' H' s'→Inv X pins σ H' s':=fun I'=>
   I3.call' (ch:=fp) I'.os I'.base I'.hok I'.bare fun b hb=> ⟨(f3 b hb).2.2.2.1,(f3 b hb).2.1,(f3 b hb).2.2.2.2.1,(f3 b hb).2.2.2.2.2⟩
  refine codeAny_loop rfl (fun n s'=> ∃ i H',Inv (aN X scope cl s3.heap.objs.size s3 (upd H2 s2.heap.objs.size (.lst [])) fp) [] (mask is σ) H' s'∧tn i s'.heap∧(∀ b∈fp,H' b=none)∧W i n H') ?_ m0 ⟨0,_,(by subst hs3; exact I4),st4,fun b hb=> (f3 b hb).1,w0⟩
  rintro n s5 ⟨i,H5,I5,st5,fr5,w5⟩
  show wpAny _ _ ((compTurn (.ListComp elt [⟨tg,iter,[],0⟩] scope pos) 0 (.ref it) (.ref s2.heap.objs.size) (compEnvC scope cl s3.heap.objs.size X.env)).onRaise (fun x=> do noteFrame x (compEnvC scope cl s3.heap.objs.size X.env); theTreesLotGoes x)) _ _ s5
  refine wpAny_noted ?_
  rw [compTurn_list1]
  refine wpAny_bind (wpAny_standAt (wpAny_bind ?_))
  rcases turn i n H5 w5 with ⟨stop,q⟩ | ⟨go,step⟩
  ·refine thn (T.done (aN X scope cl s3.heap.objs.size s3 (upd H2 s2.heap.objs.size (.lst [])) fp) rfl rfl rfl hc i [] s5 _ H5 _ I5 (hstat fr5) st5 stop) fun r s6 ⟨hr,I6⟩=> ?_
   subst hr
   refine wpAny_pure ?_
   obtain ⟨m6,hn6,_⟩:=I6.loc
   have hCn:∀ b,b < s3.heap.objs.size→b≠s3.heap.objs.size:=fun b hb=> Nat.ne_of_lt hb
   refine fin _ s3.heap.objs.size H5 s6 m6 (back I6) hn6 I6.free (Nat.ne_of_gt I3.lt) (I3.nofs (Nat.le_refl _)) I3.sz (fun x c e=> ?_) (fun p hp=> ?_) q
   ·obtain ⟨v,z⟩:=I3.cell x c e
    exact Nat.ne_of_lt z.lt
   ·exact Nat.ne_of_lt (Heap.lt_size (I3.pin p hp).1)
  ·refine thn (T.item (aN X scope cl s3.heap.objs.size s3 (upd H2 s2.heap.objs.size (.lst [])) fp) rfl rfl rfl hc i [] s5 _ H5 _ I5 (hstat fr5) st5 go) fun r s6 ⟨u,hr,h6⟩=> ?_
   subst hr
   refine wpAny_bind (thn h6 fun _ s7 ⟨x,H7,I7,r7,y7,st7,fr7⟩=> ?_)
   have I7':=I7.pinned (hstat fr7) (T.obj _ _ st7)
   refine wpAny_bind (wpAny_mono (hg _ _ _ _ _ s7 (mask is σ) H7 x u _ I7' r7 (step x H7 y7)) (fun _ s8 ⟨σ8,H8,I8,q8⟩=> ?_) fun _ _ z=> z.elim)
   refine wpAny_bind (wpAny_bind (wpAny_mono (he _ _ _ _ _ s8 σ8 H8 _ I8 q8) (fun v s9 ⟨y,H9,I9,r9,sub,vs,hl9,hz,m',hm,w'⟩=> ?_) fun _ _ z=> z.elim))
   refine wpAny_bind (wpAny_mono (ge (X:=aN X scope cl s3.heap.objs.size s3 (upd H2 s2.heap.objs.size (.lst [])) fp) _ s9 σ8 H9 (.ref s2.heap.objs.size) [y] (.ref s2.heap.objs.size) [v] (fun _ H'=> H'=upd H9 s2.heap.objs.size (.lst (vs++[y]))) I9 rfl (.cons r9 .nil) ⟨_,vs,y,rfl,rfl,hl9,hz,rfl⟩) (fun z s10 ⟨zv,H10,I10,_,e10⟩=> ?_) fun _ _ z=> z.elim)
   subst e10
   refine wpAny_pure (wpAny_pure ⟨rfl,m',hm,i+1,_,(I10.unpinned (pins:=[])).weak (by rw [I10.len,fO,I.len]) sub,T.keep _ _ _ st7 fun b hb o e=> (I10.pin (b,o) (List.mem_append_right _ (List.mem_append_right _ (cY hb e)))).1,fun b hb=> ?_,w'⟩)
   obtain ⟨o,e,d⟩:=T.obj _ _ st7 b hb
   exact (I10.pin (b,o) (List.mem_append_right _ (List.mem_append_right _ (cY hb e)))).2.1
 exact codeAny_compStart_list loop (T.self X.A 0 _ _ _ st4 loop)
theorem oB {elt iter tg:Expr} {scope:Scope} {cl:List (Str×Addr)} {pos:Pos} {is:List Nat} {wi:TI} {g:TG} {te:TE} (hc:X.calm=true) (B:cZ X scope cl is)
  (hi:PI X tg iter wi) (hg:∀ C s H fp,PG (aN X scope cl C s H fp) tg g) (he:∀ C s H fp,PE (aN X scope cl C s H fp) elt te) (hs:∀ x,foldedSetIterable iter X.env x=pure x:=by intro _; rfl):
  PE X (.ListComp elt [⟨tg,iter,[],0⟩] scope pos) (lO is wi g te):=by
 intro pins s σ H Q I h
 rw [eval_ListComp]
 refine iU (use:=none) hc B hi hg he hs I h fun l C H' s' m I' hn h1 h2 h3 h4 h5 h6 q=> ⟨m,hn,fun h' hsb=> ?_⟩
 exact ⟨.ref l,H',I'.turned (t':=s'.toks) (fun b o hb e=> hsb.extBut b o hb e) h1 (Ne.symm h2.symm) (.inr h4) h5 h6,rfl,q⟩
end
end L2
namespace L2
open PySem PySem.Spec PyProof.Rows
section
variable {X:Cx}
theorem jv {elt iter tg:Expr} {scope:Scope} {cl:List (Str×Addr)} {pos spos py:Pos} {y:Str} {j:Nat} {is:List Nat} {wi:TI} {g:TG} {te:TE} (hc:X.calm=true) (hN:X.N.Nodup) (hj:X.N[j]?=some y) (hy:Loc X.env.scope y) (B:cZ X scope cl is)
  (hi:PI X tg iter wi) (hg:∀ C s H fp,PG (aN X scope cl C s H fp) tg g) (he:∀ C s H fp,PE (aN X scope cl C s H fp) elt te) (hs:∀ x,foldedSetIterable iter X.env x=pure x:=by intro _; rfl)
  (hsw:swapsWith (.ListComp elt [⟨tg,iter,[],0⟩] scope pos) (some (.Name y py)) spos.line X.env=pure true:=by rfl) (hf:X.fn y=true∨X.env.scope.names.lookup y=some .local:=by first | exact .inl rfl | exact .inr rfl | assumption):
  PS X (.Assign [.Name y py] (.ListComp elt [⟨tg,iter,[],0⟩] scope pos) spos) (pD (lO is wi g te) (kh j)):=by
 intro pins s σ H D I h
 rw [exec_Assign_Name_used _ _ _ _ hsw]
 refine wpAny_bind (wpAny_standAt (wpAny_bind ?_))
 show wpAny _ X.A (do let _ ← comprehension (.ListComp elt [⟨tg,iter,[],0⟩] scope pos) scope X.env _ (newList []) false (eval iter X.env) (some (assign (.Name y py) X.env))) _ _ s
 refine wpAny_bind (wpAny_mono (iU (Q0:=fun v H'=> D.nx (σ.set j (some v)) H') (use:=some (assign (.Name y py) X.env)) (Q:=fun _ s'=> SP X pins D .next s') hc B hi hg he hs I h fun l C H' s' m I' hn h1 h2 h3 h4 h5 h6 q=> ?_) (fun _ s' hq=> wpAny_pure (wpAny_pure hq)) fun _ _ e=> e)
 show wpAny _ X.A (assign (.Name y py) X.env (.ref l)) _ _ _
 refine wpAny_assign_Name (gC I' hN hj hy (v:=.ref l) rfl (fun s2 I2 ⟨a,hsb,ha⟩=> ?_) hf)
 have hCa:C≠a:=by
  rcases ha with e | e
  ·rw [e]; exact h2
  ·exact Ne.symm (h5 _ _ e)
 refine ⟨m,hn.sameBut hsb hCa,fun h' hsb'=> ⟨_,H',I2.turned (t':=s2.toks) (fun b o hb e=> hsb'.extBut b o hb e) h1 h2 (.inr h4) h5 h6,q⟩⟩
end
section
variable {prog:Program} {w:World} {A:Around} {E:Value→Shared→Prop}
end
section
variable {X:Cx} {pos:Pos}
end
end L2
namespace L2
open PySem PySem.Spec PyProof.Rows
def goC (cells:List (Str×Addr)):List (Str×NameKind)→List (Str×Addr)→List (Str×Addr)
 | [],acc=> acc
 | (n,k)::r,acc=> goC cells r (if (k==.free)=true then (n,(cells.lookup n).getD 0)::acc else acc)
theorem jp {env:Env} {scope:Scope} (h:∀ y∈scope.names,y.2=.free→(env.cells.lookup y.1).isSome=true):closureFor scope env=pure (goC env.cells scope.names []):=by
 have all:∀ (names:List (Str×NameKind)) (acc:List (Str×Addr)),(∀ y∈names,y.2=.free→(env.cells.lookup y.1).isSome=true)→
   (forIn names acc (fun x cs=> match x with | (name,kind)=> if (kind==.free)=true then (do let c ← cellOf env name; pure (ForInStep.yield ((name,c)::cs))) else pure (ForInStep.yield cs)):Sem (List (Str×Addr)))=pure (goC env.cells names acc):=by
  intro names
  induction names with
  | nil=> intro acc _; rfl
  | cons y r ih=>
   intro acc hy
   obtain ⟨n,k⟩:=y
   rw [List.forIn_cons]
   by_cases hk:k=.free
   ·subst hk
    have:=hy (n,.free) List.mem_cons_self rfl
    obtain ⟨c,hc⟩:=Option.isSome_iff_exists.mp this
    have e:cellOf env n=pure c:=by unfold cellOf; rw [hc]
    simp only [beq_self_eq_true,if_true,e,pure_bind]
    rw [ih _ fun y hy'=> hy y (List.mem_cons_of_mem _ hy')]
    simp only [goC,beq_self_eq_true,if_true,hc,Option.getD_some]
   ·have hb:(k==NameKind.free)=false:=by simpa using hk
    simp only [hb,Bool.false_eq_true,if_false,pure_bind]
    rw [ih _ fun y hy'=> hy y (List.mem_cons_of_mem _ hy')]
    simp only [goC,hb,Bool.false_eq_true,if_false]
 simp only [closureFor]
 have:=all scope.names [] h
 simpa using this
theorem j5 {cells:List (Str×Addr)}:∀ (names:List (Str×NameKind)) (acc:List (Str×Addr)),(∀ y∈names,y.2=.free→(cells.lookup y.1).isSome=true)→(∀ x c,acc.lookup x=some c→cells.lookup x=some c)→
  ∀ x c,(goC cells names acc).lookup x=some c→cells.lookup x=some c
 | [],_,_,ha,x,c,h=> ha x c h
 | (n,k)::r,acc,hy,ha,x,c,h=> by
  rw [goC] at h
  refine j5 r _ (fun y hy'=> hy y (List.mem_cons_of_mem _ hy')) (fun x' c' e=> ?_) x c h
  by_cases hk:k=.free
  ·subst hk
   simp only [beq_self_eq_true,if_true] at e
   rw [List.lookup_cons] at e
   by_cases hx:(x'==n)=true
   ·rw [hx] at e
    have hx':x'=n:=by simpa using hx
    obtain ⟨c2,hc2⟩:=Option.isSome_iff_exists.mp (hy (n,.free) List.mem_cons_self rfl)
    simp only [hc2,Option.getD_some] at e
    rw [hx',hc2]; exact e
   ·have:(x'==n)=false:=by simpa using hx
    rw [this] at e
    exact ha x' c' e
  ·have hb:(k==NameKind.free)=false:=by simpa using hk
   rw [hb] at e
   exact ha x' c' e
theorem jU {cells:List (Str×Addr)} {x:Str}:∀ (names:List (Str×NameKind)) (acc:List (Str×Addr)),((x,NameKind.free)∈names∨∃ c,acc.lookup x=some c)→∃ c,(goC cells names acc).lookup x=some c
 | [],_,h=> by
  rcases h with h | h
  ·cases h
  ·exact h
 | (n,k)::r,acc,h=> by
  rw [goC]
  refine jU r _ ?_
  rcases h with h | ⟨c,h⟩
  ·rcases List.mem_cons.mp h with e | h
   ·cases e
    right
    simp
   ·exact .inl h
  ·right
   by_cases hk:k=.free
   ·subst hk
    simp only [beq_self_eq_true,if_true]
    rw [List.lookup_cons]
    cases hx:x==n with
    | true=> exact ⟨_,rfl⟩
    | false=> exact ⟨c,h⟩
   ·have hb:(k==NameKind.free)=false:=by simpa using hk
    rw [hb]; exact ⟨c,h⟩
theorem bR {env:Env} {x:Str} {kd:NameKind}:∀ {names:List (Str×NameKind)},
  (names.map fun (n,k)=> if (k==NameKind.free && env.scope.kind==.function && env.kindOf n==some .cell) then (n,NameKind.cell) else (n,k)).lookup x=some kd→names.lookup x=some kd∨(kd=.cell∧names.lookup x=some .free)
 | [],h=> by simp at h
 | (n,k)::r,h=> by
  have ih:=@bR env x kd r
  change List.lookup x ((if (k==NameKind.free && env.scope.kind==.function && env.kindOf n==some .cell)=true then (n,NameKind.cell) else (n,k))::_)=_ at h
  by_cases hc:(k==NameKind.free && env.scope.kind==.function && env.kindOf n==some .cell)=true
  ·rw [if_pos hc] at h
   rw [List.lookup_cons] at h ⊢
   cases hx:x==n with
   | true=>
    rw [hx] at h
    have hk:k=.free:=by
     have:=(Bool.and_eq_true_iff.mp (Bool.and_eq_true_iff.mp hc).1).1
     simpa using this
    subst hk
    have h':some NameKind.cell=some kd:=h
    cases h'
    exact .inr ⟨rfl,rfl⟩
   | false=> rw [hx] at h; exact ih h
  ·rw [if_neg hc] at h
   rw [List.lookup_cons] at h ⊢
   cases hx:x==n with
   | true=> rw [hx] at h; exact .inl h
   | false=> rw [hx] at h; exact ih h
def lC (scope fscope:Scope) (N:List Str) (is:List Nat):Bool:=
 scope.names.all (fun y=> y.2 !=.cell) && scope.names.all (fun y=> y.2 !=.local || scope.names.lookup y.1==some .local) && scope.names.all (fun y=> y.2 !=.free || fscope.names.lookup y.1==some .cell) &&
  (List.range N.length).all fun i=> match N[i]? with | some x=> scope.names.lookup x !=some .local || is.contains i | none=> true
theorem blk {X:Cx} {scope:Scope} (fscope:Scope) (N:List Str) (is:List Nat) (hNN:X.N=N) (hs:X.env.scope=fscope) (hcs:X.env.cells=cellsFrom (X.env.locals+1) fscope.names []) (hk:scope.kind=.function) (h:lC scope fscope N is=true):cZ X scope (goC X.env.cells scope.names []) is:=by
 subst hNN
 unfold lC at h
 simp only [Bool.and_eq_true,List.all_eq_true] at h
 obtain ⟨⟨⟨h1,h2⟩,h3⟩,h4⟩:=h
 have f1:∀ y∈scope.names,y.2=.free→fscope.names.lookup y.1=some .cell:=fun y hy e=> by
  have:=h3 y hy
  simp only [Bool.or_eq_true,bne_iff_ne,ne_eq,beq_iff_eq] at this
  exact this.resolve_left fun z=> z e
 have f2:∀ y∈scope.names,y.2=.free→(X.env.cells.lookup y.1).isSome=true:=fun y hy e=> by
  rw [hcs]; exact PySem.W.cellsFrom_some _ _ _ (.inl (f1 y hy e))
 have nc:∀ y∈scope.names,y.2≠.cell:=fun y hy=> by have:=h1 y hy; simpa using this
 refine ⟨jp f2,nc,hk,fun y hy e=> ?_,j5 _ _ f2 (fun x c e=> by simp at e),fun x hx=> ?_,fun i x hi hl=> ?_⟩
 ·have:=h2 y hy
  simp only [Bool.or_eq_true,bne_iff_ne,ne_eq,beq_iff_eq] at this
  exact this.resolve_left fun z=> z e
 ·have hf:(x,NameKind.free)∈scope.names:=by
   rcases hx with hx | hx
   ·rcases bR hx with z | ⟨_,z⟩
    ·exact absurd rfl (nc _ (PySem.mem_of_lookup z))
    ·exact PySem.mem_of_lookup z
   ·rcases bR hx with z | ⟨z,_⟩
    ·exact PySem.mem_of_lookup z
    ·cases z
  have hc:=f1 _ hf rfl
  refine ⟨.inr (.inl (by rw [hs]; exact hc)),(by rw [hs,show fscope.names.lookup x=some .cell from hc]; intro z; cases z),jU _ _ (.inl hf)⟩
 ·have hi':i < X.N.length:=(List.getElem?_eq_some_iff.mp hi).1
  have:=h4 i (List.mem_range.mpr hi')
  rw [hi] at this
  have hl':scope.names.lookup x=some .local:=by
   rcases bR hl with z | ⟨z,_⟩
   ·exact z
   ·cases z
  simp only [hl',bne_self_eq_false,Bool.false_or,List.contains_iff_mem] at this
  exact this
end L2
namespace L2
end L2
namespace L2
open PySem PySem.Spec PySem.W PyProof.Rows
theorem nX {K:Frag} {h:Heap} {mg:Str→Option Value} {x:Str} {C:Addr} {bmB:List Value} {newId:String} (X:K.In h) (hb:mg x=some (.ref C)) (q:excIn K C bmB newId=true):OwnCls x C bmB newId mg h:=by
 refine ⟨hb,?_⟩
 unfold excIn at q
 split at q
 ·rename_i dd cd sl ho
  split at q
  ·rename_i C' bm k0 k1 k2 k3 n k5 hm hs
   simp only [Bool.and_eq_true,beq_iff_eq,Bool.not_eq_true'] at q
   obtain ⟨⟨⟨⟨⟨e1,e2⟩,hdel⟩,ht⟩,hok⟩,hni⟩:=q
   subst e1 e2
   obtain ⟨nm,bs,mro,ns,qn,hd,sn,sub,ab,col,del⟩:=cd
   dsimp only at hm hdel hok hni
   subst hm hdel
   have hsl:sl=#[k0,k1,k2,k3,some (.builtin n),k5]:=by cases sl; simp only at hs; rw [hs]
   subst hsl
   exact ⟨bm,ns,nm,qn,bs,hd,sn,sub,ab,col,dd,k0,k1,k2,k3,k5,_,X _ _ ho,.of_isNs (isNs_of_in X hok),nsMap_none_of_in X hok hni,tail_of_in X ht⟩
  ·cases q
 ·cases q
def CXF (P:Program) (w:World):CXT:=fun outer H s E e s'=> ∃ (ea:Addr) (cls a0:Value) (B:Heap) (H':Hp),e=.ref ea∧s'.os=s.os∧AllBare s'.gens∧Un (frs outer) [] H H' s.heap s'.heap∧HOk P w H' s'.heap∧H' ea=none∧
 (∀ b o,s.heap.get? b=some o→b ∉ frs outer→H b=none→B.get? b=some o)∧(∀ b u,H' b=some u→∃ o,B.get? b=some o)∧(∀ b o,s.heap.get? b=some o→b ∉ frs outer→∃ o',B.get? b=some o')∧
 Heap.FlyingW B outer ea cls a0 s'.heap∧E cls none H'
theorem aX {P:Program} {w:World} {X:Cx}:eO (CXF P w) X E0:=fun _ _ _ _ _ _ _ h=> by
 obtain ⟨_,_,_,_,_,_,_,_,_,_,_,_,_,_,_,hE⟩:=h
 exact hE.elim
theorem gF {P:Program} {w:World} {H:Hp} {h:Heap} {a:Addr} {o:HO} (x:bN P w H h a o):∃ ob,h.get? a=some ob:=by
 cases o with
 | lst xs=> obtain ⟨_,_,_,_,e⟩:=x; exact ⟨_,e⟩
 | tup xs=> obtain ⟨_,_,_,ob,e,_⟩:=x; exact ⟨_,e⟩
 | dK kvs=> obtain ⟨_,_,_,_,o,_,_,e,_⟩:=x; exact ⟨_,e⟩
 | dT kvs=> obtain ⟨_,_,_,_,o,_,_,e,_⟩:=x; exact ⟨_,e⟩
 | set S n=> obtain ⟨o,_,_,_,e,_⟩:=x; exact ⟨_,e⟩
 | ins C dx fs=> obtain ⟨_,_,_,e,_⟩:=x; exact ⟨_,e⟩
 | own y=> obtain ⟨_,e⟩:=x; exact ⟨_,e⟩
 | xd fs=> obtain ⟨_,⟨_,_,_,e,_⟩,_⟩:=x; exact ⟨_,e⟩
 | rng lo hi=> obtain ⟨_,_,_,e⟩:=x; exact ⟨_,e⟩
 | frz ob u=> obtain ⟨e,_⟩:=x; exact ⟨_,e⟩
 | tbl ps=> exact ⟨_,(show h.get? a=some _ from x)⟩
 | met f y=> exact ⟨_,(show h.get? a=some _ from x)⟩
 | ext φ=> obtain ⟨_,⟨_,e⟩,_⟩:=x; exact ⟨_,e⟩
theorem nR {P:Program} {w:World} {H':Hp} {h h' B:Heap} (ok:HOk P w H' h) (hB:∀ b u,H' b=some u→∃ o,B.get? b=some o) (s1:B.StaysIn h) (s2:B.StaysIn h'):HOk P w H' h':=fun a o e=> by
 refine (ok a o e).stay (fun b u hb q=> ?_) (fun _ q=> q) fun _ _ q=> q
 have:∃ v,H' b=some v:=by
  rcases hb with z | z
  ·subst z; exact ⟨_,e⟩
  ·exact ⟨_,z⟩
 obtain ⟨v,hv⟩:=this
 obtain ⟨ob,hob⟩:=hB b v hv
 have:=s1 b ob hob
 rw [q] at this
 cases this
 exact s2 b _ hob
theorem j_ {h base:Heap}:∀ {l:List Env},h.FunFrames base l→∀ b∈frs l,∀ o,h.get? b=some o→∀ vs,o.data≠.fields vs
 | [],_,b,hb,_,_=> absurd (show b∈([]:List Addr) from hb) (by simp)
 | env::r,⟨_,⟨L,o',hf,_,ho,hd⟩,hr⟩,b,hb,o,e=> by
  unfold frs at hb
  rw [List.filterMap_cons,hf] at hb
  rcases List.mem_cons.mp hb with z | z
  ·subst z; rw [ho] at e; cases e; exact hd
  ·exact j_ hr b z o e
section
variable {P:Program} {w:World} {K:Frag} {mg:Str→Option Value} {base:Heap} {N:List Str} {qual:Str} {scope:Scope} {f:Addr} {cd:Value} {A:Around} {outer:List Env} {s:Shared} {H:Hp} {E:XK}
theorem mL {env:Env} {L:Addr} {l:List Env} (h:env.frame=some L):frs (env::l)=L::frs l:=by unfold frs; rw [List.filterMap_cons,h]
theorem lJ {pins:List (Addr×Obj)} {σ:St} {H1 H':Hp} {s1:Shared} {B h1 h2:Heap} (I:Inv (dc (CXF P w) P w K mg base N qual scope f cd A outer s H E) pins σ H1 s1)
  (un:Un (frs (envOfC qual scope s.heap.objs.size f cd::outer)) [] H1 H' s1.heap h1)
  (k1:∀ b o,s1.heap.get? b=some o→b ∉ frs (envOfC qual scope s.heap.objs.size f cd::outer)→H1 b=none→B.get? b=some o) (k3:∀ b o,s1.heap.get? b=some o→b ∉ frs (envOfC qual scope s.heap.objs.size f cd::outer)→∃ o',B.get? b=some o')
  (st:B.StaysIn h2) (up:h1.UpToSlots h2):
  Un (frs outer) [] H H' s.heap h2∧(∀ b o,s.heap.get? b=some o→b ∉ frs outer→H b=none→B.get? b=some o)∧(∀ b o,s.heap.get? b=some o→b ∉ frs outer→∃ o',B.get? b=some o'):=by
 have ef:frs (envOfC qual scope s.heap.objs.size f cd::outer)=s.heap.objs.size::frs outer:=mL rfl
 rw [ef] at un k1 k3
 have ne:∀ b o,s.heap.get? b=some o→b ∉ frs outer→b ∉ s.heap.objs.size::frs outer:=fun b o e hb z=> by
  rcases List.mem_cons.mp z with y | y
  ·exact absurd (Heap.lt_size e) (by rw [y]; exact Nat.lt_irrefl _)
  ·exact hb y
 have ib:Un (frs outer) [] H H1 s.heap s1.heap:=I.base
 have K1:∀ b o,s.heap.get? b=some o→b ∉ frs outer→H b=none→B.get? b=some o:=fun b o e hb n=>
  k1 b o (ib.keep b o e n hb (by simp)) (ne b o e hb) (ib.free b o e n (by simp))
 have K3:∀ b o,s.heap.get? b=some o→b ∉ frs outer→∃ o',B.get? b=some o':=fun b o e hb=> by
  obtain ⟨o',e'⟩:=ib.there b o e (by simp)
  exact k3 b o' e' (ne b o e hb)
 have ffr:∀ b∈frs outer,∀ o,s.heap.get? b=some o→∀ vs,o.data≠.fields vs:=j_ I.ok.funs
 have frf:∀ b∈frs outer,H b=none:=I.ok.frf
 refine ⟨⟨fun b o e n hb _=> st b o (K1 b o e hb n),fun b o e n hb hx=> ?_,fun b o e n hx=> ?_,fun b o e hx=> ?_,fun b xs e=> un.tups b xs (ib.tups b xs e),fun b o u e=> un.frzs b o u (ib.frzs b o u e),fun b ps e=> ?_⟩,K1,K3⟩
 ·obtain ⟨sl,e1⟩:=ib.slot b o e n hb hx
  obtain ⟨sl2,e2⟩:=un.slot b _ e1 (ib.free b o e n hx) (List.mem_cons_of_mem _ hb) hx
  obtain ⟨sl3,e3⟩:=up b _ e2 (ffr b hb o e)
  exact ⟨sl3,e3⟩
 ·obtain ⟨o',e1⟩:=ib.there b o e hx
  exact un.free b o' e1 (ib.free b o e n hx) hx
 ·by_cases hb:b∈frs outer
  ·obtain ⟨sl,e1⟩:=ib.slot b o e (frf b hb) hb hx
   obtain ⟨sl2,e2⟩:=un.slot b _ e1 (ib.free b o e (frf b hb) hx) (List.mem_cons_of_mem _ hb) hx
   obtain ⟨sl3,e3⟩:=up b _ e2 (ffr b hb o e)
   exact ⟨_,e3⟩
  ·obtain ⟨o',e'⟩:=K3 b o e hb
   exact ⟨o',st b o' e'⟩
 ·obtain ⟨m1,e1⟩:=ib.tbls b ps e
  obtain ⟨m2,e2⟩:=un.tbls b _ e1
  exact ⟨m1++m2,by rw [e2,Array.append_assoc]⟩
def qD (E:XK) (C:Addr) (te:TE):TS:=fun _ σ H=> te σ H fun _ H1=> E (.ref C) none H1
theorem mR {x:Str} {C:Addr} {e0:Expr} {te:TE} {np cpos pos:Pos} (hex:excIn K C [.type "ValueError",.type "Exception",.type "BaseException",.type "object"] "ValueError.__new__"=true)
  (hg:Gl (dc (CXF P w) P w K mg base N qual scope f cd A outer s H E) x) (hm:mg x=some (.ref C)) (he:PE (dc (CXF P w) P w K mg base N qual scope f cd A outer s H E) e0 te)
  (hst:starEach [e0] (dc (CXF P w) P w K mg base N qual scope f cd A outer s H E).env=[(false,eval e0 (dc (CXF P w) P w K mg base N qual scope f cd A outer s H E).env)]:=by rfl) (hd:(x==("__debug__":Str))=false:=by decide):
  PS (dc (CXF P w) P w K mg base N qual scope f cd A outer s H E) (.Raise (some (.Call (.Name x np) [e0] [] cpos)) none pos) (qD E C te):=by
 intro pins s1 σ H1 D I h
 have O:=nX I.ok.mod.kin hm hex
 obtain ⟨tl,NN,nm,q,bs,hdct,sn,sub,ab,col,dd,k0,k1,k2,k3,k5,mN,hC,hN,hni,T⟩:=O.obj
 have hpl:(backTo cpos (starEach [e0] (dc (CXF P w) P w K mg base N qual scope f cd A outer s H E).env)).any (·.1)=false:=by rw [hst]; rfl
 refine wpAny_Raise_call_subT (C:=C) (nm:=nm) (q:=q) (N:=NN) (bs:=bs) (bm:=tl) (hdct:=hdct) (sn:=sn) (sub:=sub) (ab:=ab) (col:=col) (dd:=dd) (k0:=k0) (k1:=k1) (k2:=k2) (k3:=k3) (k5:=k5)
  PySem.F.excBase_ValueError (mN:=mN) (T.hasType PySem.F.excBase_ValueError.hasBase) (I.ok.hd rfl) hpl hni (jO I hg hm ⟨rfl,?_⟩ hd)
 rw [hst]
 refine Calls.evalArgs_plain ?_
 show wpAny _ _ (spliced ((false,eval e0 _)::backTo cpos [])) _ _ s1
 refine Calls.spliced_cons (thn (he pins s1 σ H1 _ I h) fun v s2 ⟨y,H2,I2,r2,hE⟩=> Calls.spliced_nil ⟨rfl,by show 1≤sizeLine; decide,I2.bk _ _ hC,hN.keeps I2.bk,T.keeps I2.bk,fun h' e hx=> ?_⟩)
 show wpAny _ _ (leaving (envOfC qual scope s.heap.objs.size f cd) (.ref e)) _ _ { s2 with heap:=h' }
 have stk:s2.heap.FunFrames base (envOfC qual scope s.heap.objs.size f cd::outer):=I2.stack
 refine wpAny_leaves_madeW (base:=hideAll s2.heap (frs (envOfC qual scope s.heap.objs.size f cd::outer))) (h:=s2.heap) (L:=s.heap.objs.size) I2.ok.frames rfl (fun b o q=> of_hideAll _ q)
  (funFrames_hide stk fun env he b hb=> List.mem_filterMap.mpr ⟨env,he,hb⟩) hx fun h2 t fl _ _ up=> ?_
 have k2':∀ b u,H2 b=some u→∃ o,(hideAll s2.heap (frs (envOfC qual scope s.heap.objs.size f cd::outer))).get? b=some o:=fun b u e=> by
  obtain ⟨ob,hob⟩:=gF (I2.hok b u e)
  exact ⟨ob,hideAll_get _ hob fun z=> by have:=I2.stkFree b z; rw [e] at this; cases this⟩
 obtain ⟨u,K1,K3⟩:=lJ (h1:=h') I2 (Un.kept hx.keeps) (fun b o e hb _=> hideAll_get _ e hb) (fun b o e hb=> ⟨o,hideAll_get _ e hb⟩) fl.1 up
 refine ⟨e,.ref C,.ref t,_,H2,rfl,I2.os,I2.bare,u,nR (h:=s2.heap) I2.hok k2' (fun b o q=> of_hideAll _ q) fl.1,?_,K1,k2',K3,fl,hE⟩
 cases z:H2 e with
 | none=> rfl
 | some u=>
  obtain ⟨ob,hob⟩:=gF (I2.hok e u z)
  rw [hx.new] at hob; cases hob
end
theorem Fun.okF {P:Program} {w:World} {K:Frag} {mg:Str→Option Value} {base:Heap} {x qual:Str} {st:Stmt} {f:Addr} {fd:FuncData} {N ps:List Str} {k:Nat} {sp:Sp} (F:Fun K x qual st f fd) (S:aO N ps (aj st)) (len:∀ vs H Q E,sp vs H Q E→vs.length=ps.length)
  (hbody:∀ (cdv:Value) (A:Around) (outer:List Env) (s:Shared) (H:Hp) (vs:List V) (Q:VK) (E:XK),cS k (A.deeper (envOfC qual (aj st) s.heap.objs.size f cdv))→sp vs H Q E→
   ∃ t,PSs (dc (CXF P w) P w K mg base N qual (aj st) f cdv A outer s H E) (aB st) t∧t { nx:=fun _ H'=> Q .non H',rt:=Q } (start N vs) H):bF P w K mg base (CXF P w) (k+1) f fd ps sp:=by
 obtain ⟨oc,od,kV,doc,pm,an,cdv,ct,osl,rfl,lk,hcd⟩:=F.ex
 exact rD lk hcd S len fun A outer s H vs Q E hr hsp=> hbody cdv A outer s H vs Q E hr hsp
end L2
namespace L2
open PySem PySem.Spec PySem.W PyProof.Rows
section
variable {X:Cx} {pins:List (Addr×Obj)} {σ:St} {H:Hp} {s:Shared}
end
section
variable {X:Cx}
end
end L2
namespace L2
open PySem PySem.Spec PyProof.Rows
theorem kQ {n:Nat} {e:Nat→Bool}:(List.range n).all e=true↔∀ j,j < n→e j=true:=by
 rw [List.all_eq_true]
 exact ⟨fun h j hj=> h j (List.mem_range.mpr hj),fun h j hj=> h j (List.mem_range.mp hj)⟩
section
variable {X:Cx}
end
end L2
namespace PySem.W
open PySem PySem.Spec PySem.Calls PyProof.Rows PySem.Builtin PySem.Builtin.ObjectAttr PySem.Builtin.Getset_descriptor
section
variable {prog:Program} {w:World} {A:Around} {E:Value→Shared→Prop} {s:Shared} {K:Frag} {x C:Addr}
def OfCls (x C:Addr) (h:Heap):Prop:=∃ o,h.get? x=some o∧o.cls=.ref C
variable (hga:findIn K (.ref C) "__getattribute__"=some (some (.builtin "BaseException.__getattribute__"))) (hgn:findIn K (.ref C) "__getattr__"=some none) (ha:findIn K (.ref C) "__class__"=some (some (.builtin "object.__class__")))
 (hn:specialIn K (.builtin "object.__class__") "__get__"=some (some (.builtin "getset_descriptor.__get__"))) (htk:takesIn K (.builtin "object.__class__")=some true) (hm:mroIn K C (.type "object")=some true) (hmB:mroIn K C (.type "BaseException")=some true)
include ha hn htk hm in
end
structure XcOk (K:Frag) (C:Addr):Prop where
 ga:findIn K (.ref C) "__getattribute__"=some (some (.builtin "BaseException.__getattribute__"))
 gn:findIn K (.ref C) "__getattr__"=some none
 at_:findIn K (.ref C) "__class__"=some (some (.builtin "object.__class__"))
 sp:specialIn K (.builtin "object.__class__") "__get__"=some (some (.builtin "getset_descriptor.__get__"))
 tk:takesIn K (.builtin "object.__class__")=some true
 mo:mroIn K C (.type "object")=some true
 mb:mroIn K C (.type "BaseException")=some true
theorem XcOk.off {x C:Addr} {h:Heap} {o:Obj} {T:String} (I:OfCls x C h) (e:h.get? x=some o) (c:o.cls=.type T):False:=by
 obtain ⟨o',e',c'⟩:=I
 rw [e] at e'; cases e'
 rw [c] at c'; cases c'
end PySem.W
namespace L2
open PySem PySem.Spec PyProof.Rows
inductive TyX where
 | nm (n:String) | xc (C:Addr)
inductive U where
 | non | bl (b:Bool) | int (i:Int) | str (x:Str) | ty (n:TyX) | dic | scr (xs:List U) | tup (xs:List U) | lst (xs:List U)
def U.items:U→Option (List U)
 | .scr xs=> some xs
 | .tup xs=> some xs
 | .lst xs=> some xs
 | _=> none
def hid (H:Hp) (O:List Addr):Hp:=fun b=> if b∈O then none else H b
theorem d6 {H:Hp} {O:List Addr} {b:Addr} {o:HO} (h:hid H O b=some o):H b=some o∧b ∉ O:=by
 unfold hid at h
 split at h
 ·cases h
 ·exact ⟨h,by assumption⟩
theorem cq {H:Hp} {O:List Addr} {b:Addr} {o:HO} (h:H b=some o) (n:b ∉ O):hid H O b=some o:=by
 unfold hid; rw [if_neg n]; exact h
theorem aD {H:Hp} {O:List Addr}:ay (hid H O) H:=fun _ _ h=> (d6 h).1
theorem aZ {H H':Hp} {O:List Addr} (e:ay H H'):ay (hid H O) (hid H' O):=fun _ _ h=> cq (e _ _ (d6 h).1) (d6 h).2
theorem bZ {H:Hp} {O O':List Addr} (e:∀ a∈O',a∈O):ay (hid H O) (hid H O'):=fun _ _ h=> cq (d6 h).1 fun z=> (d6 h).2 (e _ z)
theorem bI {H H':Hp} {O:List Addr} {a:Addr} (e:ay H H') (n:H a=none):ay (hid H O) (hid H' (a::O)):=fun b o h=> by
 obtain ⟨h1,h2⟩:=d6 h
 refine cq (e _ _ h1) fun z=> ?_
 rcases List.mem_cons.mp z with y | y
 ·subst y; rw [n] at h1; cases h1
 ·exact h2 y
theorem jR {H:Hp} {O:List Addr} {a:Addr} {o:HO} (h:a∈O):hid (upd H a o) O=hid H O:=by
 funext b
 unfold hid
 split
 ·rfl
 ·rename_i n
  rw [ba fun e=> n (by rw [e]; exact h)]
inductive Rp (K:PySem.W.Frag) (H:Hp):V→U→Prop where
 | non:Rp K H .non .non
 | bl (b:Bool):Rp K H (.bl b) (.bl b)
 | int (i:Int):Rp K H (.int i) (.int i)
 | str (x:Str):Rp K H (.str x) (.str x)
 | ty (n:String):Rp K H (.ty n) (.ty (.nm n))
 | dic {a:Addr} {kvs:List (Key×V)} (h:H a=some (.dK kvs)):Rp K H (.ref a) .dic
 | xc {a C:Addr} (h:H a=some (.ext (PySem.W.OfCls a C))) (k:PySem.W.XcOk K C):Rp K H (.ref a) (.ty (.xc C))
 | scr {a:Addr} {vs:List V} {xs:List U} (h:SqL K H a vs) (hl:vs.length=xs.length) (hi:∀ (i:Nat) (v:V) (x:U),vs[i]?=some v→xs[i]?=some x→Rp K H v x):Rp K H (.ref a) (.scr xs)
 | tup {a:Addr} {vs:List V} {xs:List U} (h:SqT K H a vs) (hl:vs.length=xs.length) (hi:∀ (i:Nat) (v:V) (x:U),vs[i]?=some v→xs[i]?=some x→Rp K H v x):Rp K H (.ref a) (.tup xs)
 | lst {a:Addr} {vs:List V} {xs:List U} (h:H a=some (.lst vs)) (hl:vs.length=xs.length) (hi:∀ (i:Nat) (v:V) (x:U),vs[i]?=some v→xs[i]?=some x→Rp K H v x):Rp K H (.ref a) (.lst xs)
theorem Rp.same {K:PySem.W.Frag} {H H':Hp} {v:V} {u:U} (e:ay H H') (h:Rp K H v u):Rp K H' v u:=by
 induction h with
 | non=> exact .non
 | bl b=> exact .bl b
 | int i=> exact .int i
 | str x=> exact .str x
 | ty n=> exact .ty n
 | dic h=> exact .dic (e _ _ h)
 | xc h k=> exact .xc (e _ _ h) k
 | scr h hl hi ih=> exact .scr (e.seq h) hl ih
 | tup h hl hi ih=> exact .tup (e.tup h) hl ih
 | lst h hl hi ih=> exact .lst (e _ _ h) hl ih
structure Rps (K:PySem.W.Frag) (H:Hp) (vs:List V) (xs:List U):Prop where
 len:vs.length=xs.length
 at_:∀ (i:Nat) (v:V) (x:U),vs[i]?=some v→xs[i]?=some x→Rp K H v x
theorem Rps.same {K:PySem.W.Frag} {H H':Hp} {vs:List V} {xs:List U} (e:ay H H') (h:Rps K H vs xs):Rps K H' vs xs:=⟨h.len,fun i v x a b=> (h.at_ i v x a b).same e⟩
theorem Rps.nil {K:PySem.W.Frag} {H:Hp}:Rps K H [] []:=⟨rfl,fun i v x h=> by simp at h⟩
theorem Rps.cons {K:PySem.W.Frag} {H:Hp} {v:V} {x:U} {vs:List V} {xs:List U} (h:Rp K H v x) (t:Rps K H vs xs):Rps K H (v::vs) (x::xs):=by
 refine ⟨by simp [t.len],fun i a b h1 h2=> ?_⟩
 cases i with
 | zero=> simp at h1 h2; subst h1; subst h2; exact h
 | succ i=> exact t.at_ i a b (by simpa using h1) (by simpa using h2)
theorem Rps.snoc {K:PySem.W.Frag} {H:Hp} {vs ws:List V} {xs ys:List U} (h:Rps K H vs xs) (t:Rps K H ws ys):Rps K H (vs++ws) (xs++ys):=by
 refine ⟨by simp [h.len,t.len],fun i a b h1 h2=> ?_⟩
 by_cases hi:i < vs.length
 ·rw [List.getElem?_append_left hi] at h1
  rw [List.getElem?_append_left (by rw [← h.len]; exact hi)] at h2
  exact h.at_ i a b h1 h2
 ·have hle:vs.length≤i:=Nat.le_of_not_lt hi
  rw [List.getElem?_append_right hle] at h1
  rw [List.getElem?_append_right (by rw [← h.len]; exact hle),← h.len] at h2
  exact t.at_ _ a b h1 h2
theorem Rps.get {K:PySem.W.Frag} {H:Hp} {vs:List V} {xs:List U} {i:Nat} {x:U} (h:Rps K H vs xs) (e:xs[i]?=some x):∃ v,vs[i]?=some v∧Rp K H v x:=by
 have hi:i < vs.length:=by rw [h.len]; exact (List.getElem?_eq_some_iff.mp e).1
 exact ⟨vs[i],List.getElem?_eq_getElem hi,h.at_ i _ x (List.getElem?_eq_getElem hi) e⟩
theorem Rps.atI {K:PySem.W.Frag} {H:Hp} {vs:List V} {xs:List U} {i:Int} {x:U} (h:Rps K H vs xs) (e:L2.atI xs i=some x):∃ v,L2.atI vs i=some v∧Rp K H v x:=by
 unfold L2.atI at e ⊢
 rw [h.len]
 cases q:ixN xs.length i with
 | none=> rw [q] at e; cases e
 | some j=>
  rw [q] at e
  obtain ⟨v,h1,h2⟩:=h.get (show xs[j]?=some x from e)
  exact ⟨v,h1,h2⟩
theorem Rps.cons_inv {K:PySem.W.Frag} {H:Hp} {vs:List V} {x:U} {xs:List U} (h:Rps K H vs (x::xs)):∃ v ws,vs=v::ws∧Rp K H v x∧Rps K H ws xs:=by
 cases vs with
 | nil=> have:=h.len; simp at this
 | cons v ws=>
  refine ⟨v,ws,rfl,h.at_ 0 v x rfl rfl,by have:=h.len; simpa using this,fun i a b h1 h2=> h.at_ (i+1) a b (by simpa using h1) (by simpa using h2)⟩
theorem Rps.nil_inv {K:PySem.W.Frag} {H:Hp} {vs:List V} (h:Rps K H vs []):vs=[]:=List.length_eq_zero_iff.mp (by rw [h.len]; rfl)
inductive Sl where
 | val (u:U) | own (xs:List U)
abbrev PSt:=List (Option Sl)
def oe (K:PySem.W.Frag) (H:Hp) (O O0:List Addr) (v:V):Sl→Prop
 | .val u=> Rp K (hid H O) v u
 | .own xs=> ∃ a vs,v=.ref a∧a∈O∧a ∉ O0∧H a=some (.lst vs)∧Rps K (hid H O) vs xs
structure Rs (K:PySem.W.Frag) (H0:Hp) (O0:List Addr) (ps:PSt) (σ:St) (H:Hp) (O:List Addr):Prop where
 same:ay H0 H
 old:∀ a∈O0,a∈O
 new:∀ a∈O,a∈O0∨H0 a=none
 dom:∀ a∈O,H a≠none
 len:σ.length=ps.length
 at_:∀ (i:Nat) (s:Sl),ps[i]?=some (some s)→∃ v,σ[i]?=some (some v)∧oe K H O O0 v s
 inj:∀ (i j:Nat) (xs ys:List U) (a:Addr),ps[i]?=some (some (.own xs))→ps[j]?=some (some (.own ys))→σ[i]?=some (some (.ref a))→σ[j]?=some (some (.ref a))→i=j
section
variable {K:PySem.W.Frag} {H0 H H':Hp} {O0 O:List Addr} {ps:PSt} {σ:St}
theorem oe.same {v:V} {s:Sl} (e:ay H H') (h:oe K H O O0 v s):oe K H' O O0 v s:=by
 cases s with
 | val u=> exact Rp.same (aZ e) h
 | own xs=> obtain ⟨a,vs,h1,h2,h3,h4,h5⟩:=h; exact ⟨a,vs,h1,h2,h3,e _ _ h4,h5.same (aZ e)⟩
theorem Rs.go (R:Rs K H0 O0 ps σ H O) (e:ay H H'):Rs K H0 O0 ps σ H' O:=
 ⟨R.same.trans e,R.old,R.new,fun a ha z=> R.dom a ha (e.free z),R.len,fun i s h=> let ⟨v,h1,h2⟩:=R.at_ i s h; ⟨v,h1,h2.same e⟩,R.inj⟩
theorem bJ {α:Type} {xs:List α} {i j:Nat} {y x:α} (h:(xs.set i y)[j]?=some x):(i=j∧x=y)∨(i≠j∧xs[j]?=some x):=by
 by_cases e:i=j
 ·subst e
  rw [List.getElem?_set] at h
  simp at h
  exact .inl ⟨rfl,h.2.symm⟩
 ·rw [List.getElem?_set_ne e] at h
  exact .inr ⟨e,h⟩
theorem dz {α:Type} {xs:List α} {i:Nat} {y:α} (h:i < xs.length):(xs.set i y)[i]?=some y:=by rw [List.getElem?_set]; simp [h]
theorem aA {α:Type} {xs:List α} {i:Nat} {y:α} (h:xs[i]?=some y):i < xs.length:=(List.getElem?_eq_some_iff.mp h).1
theorem fL {i:Nat} {u:U} {j:Nat} {xs:List U} (h:(ps.set i (some (.val u)))[j]?=some (some (.own xs))):i≠j∧ps[j]?=some (some (.own xs)):=by
 rcases bJ h with ⟨_,e⟩ | h
 ·cases e
 ·exact h
theorem Rs.set {i:Nat} {v:V} {u:U} (R:Rs K H0 O0 ps σ H O) (r:Rp K (hid H O) v u):Rs K H0 O0 (ps.set i (some (.val u))) (σ.set i (some v)) H O:=by
 refine ⟨R.same,R.old,R.new,R.dom,by simp [R.len],fun j s h=> ?_,fun j k xs ys a h1 h2 h3 h4=> ?_⟩
 ·rcases bJ h with ⟨e,q⟩ | ⟨n,q⟩
  ·subst e
   cases q
   have hi:=aA h
   rw [List.length_set] at hi
   exact ⟨v,dz (by rw [R.len]; exact hi),r⟩
  ·obtain ⟨w,h1,h2⟩:=R.at_ j s q
   exact ⟨w,by rw [List.getElem?_set_ne n]; exact h1,h2⟩
 ·obtain ⟨n1,q1⟩:=fL h1
  obtain ⟨n2,q2⟩:=fL h2
  rw [List.getElem?_set_ne n1] at h3
  rw [List.getElem?_set_ne n2] at h4
  exact R.inj j k xs ys a q1 q2 h3 h4
theorem Rs.drop {i:Nat} {o:Option V} (R:Rs K H0 O0 ps σ H O):Rs K H0 O0 (ps.set i none) (σ.set i o) H O:=by
 have key:∀ {j:Nat} {s:Sl},(ps.set i none)[j]?=some (some s)→i≠j∧ps[j]?=some (some s):=fun {j s} h=> by
  rcases bJ h with ⟨_,e⟩ | h
  ·cases e
  ·exact h
 refine ⟨R.same,R.old,R.new,R.dom,by simp [R.len],fun j s h=> ?_,fun j k xs ys a h1 h2 h3 h4=> ?_⟩
 ·obtain ⟨n,q⟩:=key h
  obtain ⟨w,h1,h2⟩:=R.at_ j s q
  exact ⟨w,by rw [List.getElem?_set_ne n]; exact h1,h2⟩
 ·obtain ⟨n1,q1⟩:=key h1
  obtain ⟨n2,q2⟩:=key h2
  rw [List.getElem?_set_ne n1] at h3
  rw [List.getElem?_set_ne n2] at h4
  exact R.inj j k xs ys a q1 q2 h3 h4
theorem Rs.own {i:Nat} {a:Addr} {vs:List V} {xs:List U} (R:Rs K H0 O0 ps σ H O) (e:ay H H') (n:H a=none) (h:H' a=some (.lst vs)) (r:Rps K (hid H' (a::O)) vs xs):
  Rs K H0 O0 (ps.set i (some (.own xs))) (σ.set i (some (.ref a))) H' (a::O):=by
 have na:a ∉ O:=fun z=> R.dom a z n
 have na0:a ∉ O0:=fun z=> na (R.old a z)
 have n0:H0 a=none:=R.same.free n
 have noref:∀ (j:Nat) (ys:List U),ps[j]?=some (some (.own ys))→σ[j]?≠some (some (.ref a)):=fun j ys h1 h2=> by
  obtain ⟨v,h3,b,ws,h4,h5,_⟩:=R.at_ j _ h1
  rw [h2] at h3
  cases h3
  cases h4
  exact na h5
 refine ⟨R.same.trans e,fun b hb=> List.mem_cons_of_mem _ (R.old b hb),fun b hb=> ?_,fun b hb z=> ?_,by simp [R.len],fun j s q=> ?_,fun j k ys zs b h1 h2 h3 h4=> ?_⟩
 ·rcases List.mem_cons.mp hb with y | y
  ·subst y; exact .inr n0
  ·exact R.new b y
 ·rcases List.mem_cons.mp hb with y | y
  ·subst y; rw [h] at z; cases z
  ·exact R.dom b y (e.free z)
 ·rcases bJ q with ⟨e',q'⟩ | ⟨ne,q'⟩
  ·subst e'
   cases q'
   have hi:=aA q
   rw [List.length_set] at hi
   exact ⟨.ref a,dz (by rw [R.len]; exact hi),a,vs,rfl,List.mem_cons_self,na0,h,r⟩
  ·obtain ⟨w,h1,h2⟩:=R.at_ j s q'
   refine ⟨w,by rw [List.getElem?_set_ne ne]; exact h1,?_⟩
   cases s with
   | val u=> exact Rp.same (bI e n) h2
   | own ys=>
    obtain ⟨b,ws,k1,k2,k3,k4,k5⟩:=h2
    exact ⟨b,ws,k1,List.mem_cons_of_mem _ k2,k3,e _ _ k4,k5.same (bI e n)⟩
 ·rcases bJ h1 with ⟨e1,q1⟩ | ⟨n1,q1⟩ <;> rcases bJ h2 with ⟨e2,q2⟩ | ⟨n2,q2⟩
  ·rw [← e1,← e2]
  ·subst e1
   have hi:=aA h3
   rw [List.length_set] at hi
   rw [dz hi] at h3
   cases h3
   rw [List.getElem?_set_ne n2] at h4
   exact absurd h4 (noref k zs q2)
  ·subst e2
   have hi:=aA h4
   rw [List.length_set] at hi
   rw [dz hi] at h4
   cases h4
   rw [List.getElem?_set_ne n1] at h3
   exact absurd h3 (noref j ys q1)
  ·rw [List.getElem?_set_ne n1] at h3
   rw [List.getElem?_set_ne n2] at h4
   exact R.inj j k ys zs b q1 q2 h3 h4
theorem Rs.write {i:Nat} {a:Addr} {vs:List V} {xs ys:List U} (R:Rs K H0 O0 ps σ H O) (hp:ps[i]?=some (some (.own xs))) (hs:σ[i]?=some (some (.ref a))) (r:Rps K (hid H O) vs ys):
  Rs K H0 O0 (ps.set i (some (.own ys))) σ (upd H a (.lst vs)) O:=by
 obtain ⟨v,h1,b,ws,h2,h3,h4,h5,h6⟩:=R.at_ i _ hp
 rw [hs] at h1
 cases h1
 cases h2
 have h0:H0 a=none:=(R.new a h3).resolve_left h4
 have eh:hid (upd H a (.lst vs)) O=hid H O:=jR h3
 refine ⟨R.same.put h0 _,R.old,R.new,fun b hb z=> ?_,by simp [R.len],fun j s q=> ?_,fun j k zs us b q1 q2 q3 q4=> ?_⟩
 ·by_cases e:b=a
  ·subst e; rw [aS] at z; cases z
  ·rw [ba e] at z; exact R.dom b hb z
 ·rcases bJ q with ⟨e',q'⟩ | ⟨ne,q'⟩
  ·subst e'
   cases q'
   exact ⟨.ref a,hs,a,vs,rfl,h3,h4,aS,by rw [eh]; exact r⟩
  ·obtain ⟨w,k1,k2⟩:=R.at_ j s q'
   refine ⟨w,k1,?_⟩
   cases s with
   | val u=> exact (show Rp K (hid (upd H a (.lst vs)) O) w u by rw [eh]; exact k2)
   | own zs=>
    obtain ⟨b,us,e1,e2,e3,e4,e5⟩:=k2
    subst e1
    have:b≠a:=fun z=> by subst z; exact ne (R.inj i j xs zs b hp q' hs k1)
    exact ⟨b,us,rfl,e2,e3,by rw [ba this]; exact e4,by rw [eh]; exact e5⟩
 ·have c1:∃ zs',ps[j]?=some (some (.own zs')):=by
   rcases bJ q1 with ⟨e,_⟩ | ⟨_,z⟩
   ·subst e; exact ⟨_,hp⟩
   ·exact ⟨_,z⟩
  have c2:∃ zs',ps[k]?=some (some (.own zs')):=by
   rcases bJ q2 with ⟨e,_⟩ | ⟨_,z⟩
   ·subst e; exact ⟨_,hp⟩
   ·exact ⟨_,z⟩
  obtain ⟨_,c1⟩:=c1
  obtain ⟨_,c2⟩:=c2
  exact R.inj j k _ _ b c1 c2 q3 q4
def SubP:PSt→PSt→Prop
 | [],[]=> True
 | none::p,_::q=> SubP p q
 | some s::p,t::q=> t=some s∧SubP p q
 | _,_=> False
theorem SubP.at_:∀ {p q:PSt},SubP p q→p.length=q.length∧∀ (i:Nat) (s:Sl),p[i]?=some (some s)→q[i]?=some (some s)
 | [],[],_=> ⟨rfl,fun i s h=> by simp at h⟩
 | none::p,t::q,h=> by
  obtain ⟨h1,h2⟩:=SubP.at_ (p:=p) (q:=q) h
  refine ⟨by simp [h1],fun i s e=> ?_⟩
  cases i with
  | zero=> simp at e
  | succ i=> exact h2 i s (by simpa using e)
 | some s0::p,t::q,h=> by
  obtain ⟨h0,h⟩:=h
  obtain ⟨h1,h2⟩:=SubP.at_ (p:=p) (q:=q) h
  refine ⟨by simp [h1],fun i s e=> ?_⟩
  cases i with
  | zero=> simp at e; subst e; rw [h0]; rfl
  | succ i=> exact h2 i s (by simpa using e)
 | [],_::_,h=> h.elim
 | none::_,[],h=> h.elim
 | some _::_,[],h=> h.elim
theorem Rs.sub {ps':PSt} (R:Rs K H0 O0 ps σ H O) (h:SubP ps' ps):Rs K H0 O0 ps' σ H O:=by
 obtain ⟨h1,h2⟩:=h.at_
 exact ⟨R.same,R.old,R.new,R.dom,R.len.trans h1.symm,fun i s e=> R.at_ i s (h2 i s e),fun i j xs ys a e1 e2=> R.inj i j xs ys a (h2 _ _ e1) (h2 _ _ e2)⟩
end
def Ev (X:Cx) (H0:Hp) (O0:List Addr) (ps:PSt) (e:Expr) (u:U):Prop:=
 PE X e fun σ H Q=> ∃ O,Rs X.K H0 O0 ps σ H O∧∀ v H',ay H H'→Rp X.K (hid H' O) v u→Q v H'
def EvN (X:Cx) (H0:Hp) (O0:List Addr) (ps:PSt) (e:Expr) (xs:List U):Prop:=
 PE X e fun σ H Q=> ∃ O,Rs X.K H0 O0 ps σ H O∧∀ a vs H',ay H H'→H a=none→H' a=some (.lst vs)→Rps X.K (hid H' (a::O)) vs xs→Q (.ref a) H'
def Tt (X:Cx) (H0:Hp) (O0:List Addr) (ps:PSt) (e:Expr) (b:Bool):Prop:=
 PT X e fun σ H Q=> ∃ O,Rs X.K H0 O0 ps σ H O∧∀ H',ay H H'→Q b H'
def Tw (X:Cx) (H0:Hp) (O0:List Addr) (ps:PSt) (e:Expr) (b:Bool):Prop:=
 PW X e fun σ H Q=> ∃ O,Rs X.K H0 O0 ps σ H O∧∀ H',ay H H'→Q b H'
def EvA (X:Cx) (H0:Hp) (O0:List Addr) (ps:PSt) (es:List Expr) (us:List U):Prop:=
 PA X es fun σ H Q=> ∃ O,Rs X.K H0 O0 ps σ H O∧∀ vs H',ay H H'→Rps X.K (hid H' O) vs us→Q vs H'
theorem PE.mono {X:Cx} {e:Expr} {t t':TE} (h:PE X e t) (m:∀ σ H Q,t' σ H Q→t σ H Q):PE X e t':=fun pins s σ H Q I q=> h pins s σ H Q I (m σ H Q q)
theorem PT.mono {X:Cx} {e:Expr} {t t':TT} (h:PT X e t) (m:∀ σ H Q,t' σ H Q→t σ H Q):PT X e t':=fun pins s σ H Q I q=> h pins s σ H Q I (m σ H Q q)
theorem PW.mono {X:Cx} {e:Expr} {t t':TT} (h:PW X e t) (m:∀ σ H Q,t' σ H Q→t σ H Q):PW X e t':=fun wh pins s σ H Q I q=> h wh pins s σ H Q I (m σ H Q q)
theorem PA.mono {X:Cx} {e:List Expr} {t t':TA} (h:PA X e t) (m:∀ σ H Q,t' σ H Q→t σ H Q):PA X e t':=fun pos pins s σ H Q I q=> h pos pins s σ H Q I (m σ H Q q)
theorem PS.mono {X:Cx} {e:Stmt} {t t':TS} (h:PS X e t) (m:∀ D σ H,t' D σ H→t D σ H):PS X e t':=fun pins s σ H D I q=> h pins s σ H D I (m D σ H q)
theorem PSs.mono {X:Cx} {e:List Stmt} {t t':TS} (h:PSs X e t) (m:∀ D σ H,t' D σ H→t D σ H):PSs X e t':=fun pins s σ H D I q=> h pins s σ H D I (m D σ H q)
section
variable {X:Cx} {H0:Hp} {O0:List Addr} {ps:PSt} {a b c e:Expr} {es:List Expr} {pos p:Pos} {u x y:U} {xs ys us:List U} {i j:Int}
theorem EvN.ev (h:EvN X H0 O0 ps e xs):Ev X H0 O0 ps e (.lst xs):=PE.mono h fun σ H Q ⟨O,R,k⟩=> ⟨O,R,fun a vs H' s n h r=> by
 have na:a ∉ O:=fun z=> R.dom a z n
 have less:ay (hid H' (a::O)) (hid H' O):=bZ fun b hb=> List.mem_cons_of_mem _ hb
 exact k _ H' s (.lst (cq h na) (r.same less).len (r.same less).at_)⟩
theorem aa (i:Nat) {x:Str} {u:U} (h:ps[i]?=some (some (.val u))) (hN:X.N[i]?=some x:=by rfl) (hv:Vis X.env.scope x:=by first | exact Or.inl rfl | exact Or.inr (Or.inl rfl) | exact Or.inr (Or.inr rfl)) (hd:(x==("__debug__":Str))=false:=by decide)
  (hcd:(x==("__classdict__":Str))=false:=by decide):Ev X H0 O0 ps (.Name x pos) u:=PE.mono (dq hN hv hd hcd) fun σ H Q ⟨O,R,k⟩=> by
 obtain ⟨v,h1,h2⟩:=R.at_ i _ h
 exact ⟨v,h1,k v H (.refl H) h2⟩
theorem ag {i j pos}:Ev X H0 O0 ps (.Constant (.int i) j pos) (.int i):=PE.mono pF fun _ H _ ⟨_,_,k⟩=> k _ H (.refl H) (.int i)
theorem jm {i j pos}:Ev X H0 O0 ps (.Constant (.bool i) j pos) (.bl i):=PE.mono qU fun _ H _ ⟨_,_,k⟩=> k _ H (.refl H) (.bl i)
theorem qV {i j pos}:Ev X H0 O0 ps (.Constant (.str i) j pos) (.str i):=PE.mono pW fun _ H _ ⟨_,_,k⟩=> k _ H (.refl H) (.str i)
theorem kN {x:Str} {n:String} {pos:Pos} (hg:Gl X x) (hm:X.mg x=none) (hv:bootBuiltins x=some (.type n)) (hn:x≠"__name__":=by decide) (hd:(x==("__debug__":Str))=false:=by decide):Ev X H0 O0 ps (.Name x pos) (.ty (.nm n)):=
 PE.mono (qW hg hm hv hn hd) fun _ H _ ⟨_,_,k⟩=> k _ H (.refl H) (.ty n)
theorem two {ta tb:TE} {σ:St} {H:Hp} {Q:VK} {O:List Addr} {r:R2} (R:Rs X.K H0 O0 ps σ H O)
  (ha:∀ σ H Q,(∃ O,Rs X.K H0 O0 ps σ H O∧∀ v H',ay H H'→Rp X.K (hid H' O) v x→Q v H')→ta σ H Q) (hb:∀ σ H Q,(∃ O,Rs X.K H0 O0 ps σ H O∧∀ v H',ay H H'→Rp X.K (hid H' O) v y→Q v H')→tb σ H Q)
  (h:∀ v w H',ay H H'→Rs X.K H0 O0 ps σ H' O→Rp X.K (hid H' O) v x→Rp X.K (hid H' O) w y→r v w H' Q):tOp r ta tb σ H Q:=
 ha σ H _ ⟨O,R,fun v H1 s1 r1=> hb σ H1 _ ⟨O,R.go s1,fun w H2 s2 r2=> h v w H2 (s1.trans s2) (R.go (s1.trans s2)) (r1.same (aZ s2)) r2⟩⟩
theorem o8 {op:Operator} {g:Int→Int→Int} (ho:OpR X (binaryOp op) (rI0 fun i j=> .int (g i j))) (ha:Ev X H0 O0 ps a (.int i)) (hb:Ev X H0 O0 ps b (.int j)):Ev X H0 O0 ps (.BinOp a op b pos) (.int (g i j)):=
 PE.mono (mj ho ha hb) fun σ H Q ⟨O,R,k⟩=> two (x:=.int i) (y:=.int j) R (fun _ _ _ z=> z) (fun _ _ _ z=> z) fun v w H' s _ r1 r2=> by
  cases r1; cases r2; exact ⟨i,j,rfl,rfl,k _ H' s (.int _)⟩
theorem jN {op:Operator} {C:Int→Int→Prop} {g:Int→Int→Int} (ho:OpR X (binaryOp op) (rI C fun i j=> .int (g i j))) (ha:Ev X H0 O0 ps a (.int i)) (hb:Ev X H0 O0 ps b (.int j)) (hc:C i j):Ev X H0 O0 ps (.BinOp a op b pos) (.int (g i j)):=
 PE.mono (mj ho ha hb) fun σ H Q ⟨O,R,k⟩=> two (x:=.int i) (y:=.int j) R (fun _ _ _ z=> z) (fun _ _ _ z=> z) fun v w H' s _ r1 r2=> by
  cases r1; cases r2; exact ⟨i,j,rfl,rfl,hc,k _ H' s (.int _)⟩
theorem bS (ha:Ev X H0 O0 ps a (.int i)) (hb:Ev X H0 O0 ps b (.int j)):Ev X H0 O0 ps (.BinOp a .Add b pos) (.int (i+j)):=o8 p4 ha hb
theorem bE (ha:Ev X H0 O0 ps a (.int i)) (hb:Ev X H0 O0 ps b (.int j)):Ev X H0 O0 ps (.BinOp a .Sub b pos) (.int (i - j)):=o8 pN ha hb
theorem cu (ha:Ev X H0 O0 ps a (.int i)) (hb:Ev X H0 O0 ps b (.int j)) (hc:IntMulOk i j):Ev X H0 O0 ps (.BinOp a .Mult b pos) (.int (i * j)):=jN nD ha hb hc
theorem cy (ha:Ev X H0 O0 ps a (.int i)) (hb:Ev X H0 O0 ps b (.int j)) (hc:o6 i j):Ev X H0 O0 ps (.BinOp a .FloorDiv b pos) (.int (i / j)):=jN nj ha hb hc
theorem ce (ha:Ev X H0 O0 ps a (.int i)) (hb:Ev X H0 O0 ps b (.int j)) (hc:0 < j):Ev X H0 O0 ps (.BinOp a .Mod b pos) (.int (i % j)):=jN pQ ha hb hc
theorem ms (ha:Ev X H0 O0 ps a (.int i)) (hb:Ev X H0 O0 ps b (.int j)) (hc:rh i j):Ev X H0 O0 ps (.BinOp a .Pow b pos) (.int (i ^ j.toNat)):=jN pY ha hb hc
theorem dZ (ha:Ev X H0 O0 ps a (.int i)):Ev X H0 O0 ps (.UnaryOp .USub a pos) (.int (-i)):=
 PE.mono (qO ql ha) fun σ H Q ⟨O,R,k⟩=> ⟨O,R,fun v H' s r=> by cases r; exact ⟨i,rfl,k _ H' s (.int _)⟩⟩
end
end L2
namespace L2
open PySem PySem.Spec PyProof.Rows
mutual
def eqW:U→U→Bool
 | .non,.non=> true
 | .bl a,.bl b=> a==b
 | .bl a,.int j=> (if a then 1 else 0)==j
 | .int i,.bl b=> i==(if b then 1 else 0)
 | .int i,.int j=> i==j
 | .str a,.str b=> a==b
 | .tup xs,.tup ys=> eqWs xs ys
 | .lst xs,.lst ys=> eqWs xs ys
 | .lst xs,.scr ys=> eqWs xs ys
 | .scr xs,.lst ys=> eqWs xs ys
 | .scr xs,.scr ys=> eqWs xs ys
 | _,_=> false
def eqWs:List U→List U→Bool
 | [],[]=> true
 | x::xs,y::ys=> eqW x y && eqWs xs ys
 | _,_=> false
end
mutual
def okU:Nat→U→Bool
 | _,.ty _=> false
 | _,.dic=> false
 | 0,.tup _=> false
 | 0,.lst _=> false
 | 0,.scr _=> false
 | n+1,.tup xs=> okUs n xs
 | n+1,.lst xs=> okUs n xs
 | n+1,.scr xs=> okUs n xs
 | _,_=> true
def okUs:Nat→List U→Bool
 | _,[]=> true
 | n,x::xs=> okU n x && okUs n xs
end
theorem fh:∀ {n:Nat} {xs:List U} {i:Nat} {x:U},okUs n xs=true→xs[i]?=some x→okU n x=true
 | n,[],i,x,_,h=> by simp at h
 | n,y::xs,0,x,h,e=> by simp at e; subst e; simp [okUs] at h; exact h.1
 | n,y::xs,i+1,x,h,e=> by simp [okUs] at h; exact fh (i:=i) h.2 (by simpa using e)
theorem bW:∀ (xs ys:List U),((List.range (min xs.length ys.length)).all (fun j=> eqW (xs.getD j .non) (ys.getD j .non)) && xs.length==ys.length)=eqWs xs ys
 | [],[]=> rfl
 | [],y::ys=> by simp [eqWs]
 | x::xs,[]=> by simp [eqWs]
 | x::xs,y::ys=> by
  have ih:=bW xs ys
  rw [eqWs,← ih]
  simp only [List.length_cons,Nat.succ_min_succ]
  rw [List.range_succ_eq_map,List.all_cons,List.all_map]
  have e:((xs.length+1==ys.length+1))=(xs.length==ys.length):=by simp
  rw [e,Bool.and_assoc]
  rfl
theorem Rp.one {X:Cx} {pins:List (Addr×Obj)} {σ:St} {H:Hp} {s:Shared} (I:Inv X pins σ H s) {v:V} {x:U} (h:Rp X.K H v x):∀ {n:Nat} {y:U},Rp X.K H v y→okU n x=true→eqW x y=true:=by
 have key:∀ {vs ws:List V} {xs ys:List U},vs=ws→vs.length=xs.length→ws.length=ys.length→(∀ (i:Nat) (x y:U),xs[i]?=some x→ys[i]?=some y→eqW x y=true)→eqWs xs ys=true:=fun {vs ws xs ys} e h1 h2 hh=> by
  subst e
  rw [← bW,Bool.and_eq_true,kQ]
  refine ⟨fun j hj=> ?_,by simp [← h1,← h2]⟩
  have j1:j < xs.length:=by omega
  have j2:j < ys.length:=by omega
  rw [List.getD_eq_getElem?_getD,List.getElem?_eq_getElem j1,List.getD_eq_getElem?_getD,List.getElem?_eq_getElem j2]
  exact hh j _ _ (List.getElem?_eq_getElem j1) (List.getElem?_eq_getElem j2)
 have key2:∀ {vs:List V} {xs ys:List U} {n:Nat},vs.length=xs.length→(∀ (i:Nat) (v:V) (x:U),vs[i]?=some v→xs[i]?=some x→∀ {n:Nat} {y:U},Rp X.K H v y→okU n x=true→eqW x y=true)→(∀ (i:Nat) (v:V) (y:U),vs[i]?=some v→ys[i]?=some y→Rp X.K H v y)→okUs n xs=true→
   ∀ (i:Nat) (x y:U),xs[i]?=some x→ys[i]?=some y→eqW x y=true:=fun {vs xs ys n} h1 ih hi ok i x y e1 e2=> by
  have hlt:i < vs.length:=by rw [h1]; exact aA e1
  exact ih i _ x (List.getElem?_eq_getElem hlt) e1 (hi i _ y (List.getElem?_eq_getElem hlt) e2) (fh ok e1)
 induction h with
 | non=> intro n y q _; cases q; rfl
 | bl b=> intro n y q _; cases q; simp [eqW]
 | int i=> intro n y q _; cases q; simp [eqW]
 | str i=> intro n y q _; cases q; simp [eqW]
 | ty=> intro n y q ok; simp [okU] at ok
 | dic=> intro n y q ok; simp [okU] at ok
 | xc=> intro n y q ok; simp [okU] at ok
 | @scr a vs xs hq hl hi ih=>
  intro n y q ok
  cases n with
  | zero=> simp [okU] at ok
  | succ n=>
   rw [okU] at ok
   cases q with
   | scr hq' hl' hi'=> rw [eqW]; have e:=I.list_inj hq hq'; subst e; exact key rfl hl hl' (key2 hl (fun i v x a b=> ih i v x a b) hi' ok)
   | lst hq' hl' hi'=> rw [eqW]; have e:=I.list_inj hq (SqL.of hq'); subst e; exact key rfl hl hl' (key2 hl (fun i v x a b=> ih i v x a b) hi' ok)
   | xc hq' kk=>
    exfalso
    obtain ⟨_,_,pl,_⟩:=I.list hq
    obtain ⟨o,n,e,c,_⟩:=pl
    exact PySem.W.XcOk.off (I.hok _ _ hq').1 e c
   | dic hq'=>
    exfalso
    obtain ⟨_,_,pl,_⟩:=I.list hq
    obtain ⟨o,n,e,c,_⟩:=pl
    obtain ⟨_,_,_,_,o',_,_,e',ex,_⟩:=I.hok _ _ hq'
    rw [e] at e'; cases e'
    rw [ex.1] at c; exact absurd (Value.type.inj c) (by decide)
   | tup hq' hl' hi'=>
    exfalso
    obtain ⟨_,_,pl,_⟩:=I.list hq
    obtain ⟨_,_,pt,_⟩:=I.tuple hq'
    exact SeqAt.ne_of_list_tuple pl.isList pt rfl
 | @tup a vs xs hq hl hi ih=>
  intro n y q ok
  cases n with
  | zero=> simp [okU] at ok
  | succ n=>
   rw [okU] at ok
   cases q with
   | tup hq' hl' hi'=> rw [eqW]; have e:=I.tuple_inj hq hq'; subst e; exact key rfl hl hl' (key2 hl (fun i v x a b=> ih i v x a b) hi' ok)
   | scr hq' hl' hi'=>
    exfalso
    obtain ⟨_,_,pl,_⟩:=I.list hq'
    obtain ⟨_,_,pt,_⟩:=I.tuple hq
    exact SeqAt.ne_of_list_tuple pl.isList pt rfl
   | lst hq' hl' hi'=>
    exfalso
    obtain ⟨_,_,pl,_⟩:=I.list (SqL.of hq')
    obtain ⟨_,_,pt,_⟩:=I.tuple hq
    exact SeqAt.ne_of_list_tuple pl.isList pt rfl
   | xc hq' kk=>
    exfalso
    obtain ⟨_,_,pt,_⟩:=I.tuple hq
    obtain ⟨o,e,c,_⟩:=pt
    exact PySem.W.XcOk.off (I.hok _ _ hq').1 e c
   | dic hq'=>
    exfalso
    obtain ⟨_,_,pt,_⟩:=I.tuple hq
    obtain ⟨o,e,c,_⟩:=pt
    obtain ⟨_,_,_,_,o',_,_,e',ex,_⟩:=I.hok _ _ hq'
    rw [e] at e'; cases e'
    rw [ex.1] at c; exact absurd (Value.type.inj c) (by decide)
 | @lst a vs xs hq hl hi ih=>
  intro n y q ok
  cases n with
  | zero=> simp [okU] at ok
  | succ n=>
   rw [okU] at ok
   cases q with
   | lst hq' hl' hi'=> rw [eqW]; have e:=I.list_inj (SqL.of hq) (SqL.of hq'); subst e; exact key rfl hl hl' (key2 hl (fun i v x a b=> ih i v x a b) hi' ok)
   | scr hq' hl' hi'=> rw [eqW]; have e:=I.list_inj (SqL.of hq) hq'; subst e; exact key rfl hl hl' (key2 hl (fun i v x a b=> ih i v x a b) hi' ok)
   | tup hq' hl' hi'=>
    exfalso
    obtain ⟨_,_,pl,_⟩:=I.list (SqL.of hq)
    obtain ⟨_,_,pt,_⟩:=I.tuple hq'
    exact SeqAt.ne_of_list_tuple pl.isList pt rfl
   | xc hq' kk=>
    exfalso
    rw [hq] at hq'; cases hq'
   | dic hq'=>
    exfalso
    rw [hq] at hq'; cases hq'
theorem IsU.list {X:Cx} {pins:List (Addr×Obj)} {σ:St} {H:Hp} {s:Shared} (I:Inv X pins σ H s) {a:Addr} {xs:List U} {vs:List V} (h:SqL X.K H a vs) (hl:vs.length=xs.length):∃ its:List Value,av vs its∧s.heap.IsList a its.toArray∧its.length=xs.length:=by
 obtain ⟨its,r,pl,_⟩:=I.list h
 exact ⟨its,r,pl.isList,by rw [← r.length,hl]⟩
theorem IsU.tup {X:Cx} {pins:List (Addr×Obj)} {σ:St} {H:Hp} {s:Shared} (I:Inv X pins σ H s) {a:Addr} {xs:List U} {vs:List V} (h:SqT X.K H a vs) (hl:vs.length=xs.length):∃ its:List Value,av vs its∧IsTup s.heap a its.toArray∧its.length=xs.length:=by
 obtain ⟨its,r,pl,_⟩:=I.tuple h
 exact ⟨its,r,pl,by rw [← r.length,hl]⟩
section
variable {X:Cx} {pins:List (Addr×Obj)} {σ:St} {H:Hp} {s:Shared}
theorem bG (I:Inv X pins σ H s) {n:Nat} {vs ws:List V} {xs ys:List U} {its its2:List Value} (r1:av vs its) (r2:av ws its2) (hl1:vs.length=xs.length) (hl2:ws.length=ys.length)
  (h1:∀ (i:Nat) (v:V) (x:U),vs[i]?=some v→xs[i]?=some x→Rp X.K H v x) (h2:∀ (i:Nat) (v:V) (x:U),ws[i]?=some v→ys[i]?=some x→Rp X.K H v x) (ok1:okUs n xs=true) (ok2:okUs n ys=true) {A:Around}
  (rc0:∀ (x y:U) (v w:V) (p q:Value),Rp X.K H v x→Rp X.K H w y→aL v p→aL w q→okU n x=true→okU n y=true→SeqAt.RcAt A.in1 s p q (eqW x y)) (hu:A.units+n+1 < cLine)
  (j:Nat) (j1:j < its.length) (j2:j < its2.length):SeqAt.EqAt A.in1 s its[j] its2[j] (eqW (xs.getD j .non) (ys.getD j .non)):=by
 have a1:j < vs.length:=by rw [r1.length]; exact j1
 have a2:j < ws.length:=by rw [r2.length]; exact j2
 have b1:j < xs.length:=by omega
 have b2:j < ys.length:=by omega
 rw [List.getD_eq_getElem?_getD,List.getElem?_eq_getElem b1,List.getD_eq_getElem?_getD,List.getElem?_eq_getElem b2,Option.getD_some,Option.getD_some]
 have R1:=h1 j vs[j] xs[j] (List.getElem?_eq_getElem a1) (List.getElem?_eq_getElem b1)
 have R2:=h2 j ws[j] ys[j] (List.getElem?_eq_getElem a2) (List.getElem?_eq_getElem b2)
 obtain ⟨u1,e1,q1⟩:=r1.get (List.getElem?_eq_getElem a1)
 obtain ⟨u2,e2,q2⟩:=r2.get (List.getElem?_eq_getElem a2)
 rw [List.getElem?_eq_getElem j1] at e1
 rw [List.getElem?_eq_getElem j2] at e2
 cases e1; cases e2
 have o1:=fh ok1 (List.getElem?_eq_getElem b1)
 have o2:=fh ok2 (List.getElem?_eq_getElem b2)
 generalize vs[j]=v at *
 generalize ws[j]=w at *
 generalize its[j]=p at *
 generalize its2[j]=q at *
 generalize xs[j]=x at *
 generalize ys[j]=y at *
 have main:=rc0 x y v w p q R1 R2 q1 q2 o1 o2
 have ref_ref:∀ (a b:Addr),p=.ref a→q=.ref b→SeqAt.EqAt A.in1 s p q (eqW x y):=fun a b ea eb=> by
  subst ea eb
  by_cases e:a=b
  ·subst e
   have e2:v=w:=q1.inj q2
   subst e2
   rw [R1.one I R2 o1]
   exact SeqAt.EqAt.same _
  ·exact SeqAt.EqAt.of_refs e main
 have hu1:A.in1.units < cLine:=by show A.units+1 < _; omega
 cases R1 with
 | non=>
  cases (show p=Value.none from q1)
  cases R2 with
  | non=> cases (show q=Value.none from q2); exact SeqAt.EqAt.same _
  | bl b=> cases (show q=Value.bool b from q2); exact SeqAt.EqAt.none_bool b
  | int i=> obtain ⟨t,rfl⟩:=(show ∃ t,q=Value.int i t from q2); exact SeqAt.EqAt.none_int i t
  | str i=> obtain ⟨t,rfl⟩:=(show ∃ t,q=Value.str i t from q2); exact SeqAt.EqAt.none_str i t
  | ty=> simp [okU] at o2
  | dic=> simp [okU] at o2
  | xc=> simp [okU] at o2
  | scr hq hl hi=> cases q2; obtain ⟨_,_,pl,_⟩:=IsU.list I hq hl; exact SeqAt.EqAt.none_list pl hu1
  | tup hq hl hi=> cases q2; obtain ⟨_,_,pl,_⟩:=IsU.tup I hq hl; exact SeqAt.EqAt.none_tuple pl hu1
  | lst hq hl hi=> cases q2; obtain ⟨_,_,pl,_⟩:=IsU.list I (SqL.of hq) hl; exact SeqAt.EqAt.none_list pl hu1
 | bl c=>
  cases (show p=Value.bool c from q1)
  cases R2 with
  | non=> cases (show q=Value.none from q2); exact SeqAt.EqAt.bool_none c
  | bl b=> cases (show q=Value.bool b from q2); exact SeqAt.EqAt.bool_bool c b
  | int i=> obtain ⟨t,rfl⟩:=(show ∃ t,q=Value.int i t from q2); exact SeqAt.EqAt.bool_int c i t
  | str i=> obtain ⟨t,rfl⟩:=(show ∃ t,q=Value.str i t from q2); exact SeqAt.EqAt.bool_str c i t
  | ty=> simp [okU] at o2
  | dic=> simp [okU] at o2
  | xc=> simp [okU] at o2
  | scr hq hl hi=> cases q2; obtain ⟨_,_,pl,_⟩:=IsU.list I hq hl; exact SeqAt.EqAt.bool_list c pl hu1
  | tup hq hl hi=> cases q2; obtain ⟨_,_,pl,_⟩:=IsU.tup I hq hl; exact SeqAt.EqAt.bool_tuple c pl hu1
  | lst hq hl hi=> cases q2; obtain ⟨_,_,pl,_⟩:=IsU.list I (SqL.of hq) hl; exact SeqAt.EqAt.bool_list c pl hu1
 | int c=>
  obtain ⟨t0,rfl⟩:=(show ∃ t,p=Value.int c t from q1)
  cases R2 with
  | non=> cases (show q=Value.none from q2); exact SeqAt.EqAt.int_none c t0
  | bl b=> cases (show q=Value.bool b from q2); exact SeqAt.EqAt.int_bool c t0 b
  | int i=> obtain ⟨t,rfl⟩:=(show ∃ t,q=Value.int i t from q2); exact SeqAt.EqAt.int_int c t0 i t
  | str i=> obtain ⟨t,rfl⟩:=(show ∃ t,q=Value.str i t from q2); exact SeqAt.EqAt.int_str c t0 i t
  | ty=> simp [okU] at o2
  | dic=> simp [okU] at o2
  | xc=> simp [okU] at o2
  | scr hq hl hi=> cases q2; obtain ⟨_,_,pl,_⟩:=IsU.list I hq hl; exact SeqAt.EqAt.int_list c t0 pl hu1
  | tup hq hl hi=> cases q2; obtain ⟨_,_,pl,_⟩:=IsU.tup I hq hl; exact SeqAt.EqAt.int_tuple c t0 pl hu1
  | lst hq hl hi=> cases q2; obtain ⟨_,_,pl,_⟩:=IsU.list I (SqL.of hq) hl; exact SeqAt.EqAt.int_list c t0 pl hu1
 | str c=>
  obtain ⟨t0,rfl⟩:=(show ∃ t,p=Value.str c t from q1)
  cases R2 with
  | non=> cases (show q=Value.none from q2); exact SeqAt.EqAt.str_none c t0
  | bl b=> cases (show q=Value.bool b from q2); exact SeqAt.EqAt.str_bool c t0 b
  | int i=> obtain ⟨t,rfl⟩:=(show ∃ t,q=Value.int i t from q2); exact SeqAt.EqAt.str_int c t0 i t
  | str i=> obtain ⟨t,rfl⟩:=(show ∃ t,q=Value.str i t from q2); exact SeqAt.EqAt.str_str c t0 i t
  | ty=> simp [okU] at o2
  | dic=> simp [okU] at o2
  | xc=> simp [okU] at o2
  | scr hq hl hi=> cases q2; obtain ⟨_,_,pl,_⟩:=IsU.list I hq hl; exact SeqAt.EqAt.str_list c t0 pl hu1
  | tup hq hl hi=> cases q2; obtain ⟨_,_,pl,_⟩:=IsU.tup I hq hl; exact SeqAt.EqAt.str_tuple c t0 pl hu1
  | lst hq hl hi=> cases q2; obtain ⟨_,_,pl,_⟩:=IsU.list I (SqL.of hq) hl; exact SeqAt.EqAt.str_list c t0 pl hu1
 | ty=> simp [okU] at o1
 | dic=> simp [okU] at o1
 | xc=> simp [okU] at o1
 | @scr a vs xs hq hl hi=>
  cases q1
  obtain ⟨_,_,pl,_⟩:=IsU.list I hq hl
  cases R2 with
  | non=> cases (show q=Value.none from q2); exact SeqAt.EqAt.list_none pl hu1
  | bl b=> cases (show q=Value.bool b from q2); exact SeqAt.EqAt.list_bool b pl hu1
  | int i=> obtain ⟨t,rfl⟩:=(show ∃ t,q=Value.int i t from q2); exact SeqAt.EqAt.list_int i t pl hu1
  | str i=> obtain ⟨t,rfl⟩:=(show ∃ t,q=Value.str i t from q2); exact SeqAt.EqAt.list_str i t pl hu1
  | ty=> simp [okU] at o2
  | dic=> simp [okU] at o2
  | xc=> simp [okU] at o2
  | scr=> exact ref_ref _ _ rfl q2
  | tup=> exact ref_ref _ _ rfl q2
  | lst=> exact ref_ref _ _ rfl q2
 | @lst a vs xs hq hl hi=>
  cases q1
  obtain ⟨_,_,pl,_⟩:=IsU.list I (SqL.of hq) hl
  cases R2 with
  | non=> cases (show q=Value.none from q2); exact SeqAt.EqAt.list_none pl hu1
  | bl b=> cases (show q=Value.bool b from q2); exact SeqAt.EqAt.list_bool b pl hu1
  | int i=> obtain ⟨t,rfl⟩:=(show ∃ t,q=Value.int i t from q2); exact SeqAt.EqAt.list_int i t pl hu1
  | str i=> obtain ⟨t,rfl⟩:=(show ∃ t,q=Value.str i t from q2); exact SeqAt.EqAt.list_str i t pl hu1
  | ty=> simp [okU] at o2
  | dic=> simp [okU] at o2
  | xc=> simp [okU] at o2
  | scr=> exact ref_ref _ _ rfl q2
  | tup=> exact ref_ref _ _ rfl q2
  | lst=> exact ref_ref _ _ rfl q2
 | @tup a vs xs hq hl hi=>
  cases q1
  obtain ⟨_,_,pl,_⟩:=IsU.tup I hq hl
  cases R2 with
  | non=> cases (show q=Value.none from q2); exact SeqAt.EqAt.tuple_none pl hu1
  | bl b=> cases (show q=Value.bool b from q2); exact SeqAt.EqAt.tuple_bool b pl hu1
  | int i=> obtain ⟨t,rfl⟩:=(show ∃ t,q=Value.int i t from q2); exact SeqAt.EqAt.tuple_int i t pl hu1
  | str i=> obtain ⟨t,rfl⟩:=(show ∃ t,q=Value.str i t from q2); exact SeqAt.EqAt.tuple_str i t pl hu1
  | ty=> simp [okU] at o2
  | dic=> simp [okU] at o2
  | xc=> simp [okU] at o2
  | scr=> exact ref_ref _ _ rfl q2
  | tup=> exact ref_ref _ _ rfl q2
  | lst=> exact ref_ref _ _ rfl q2
theorem eB {A:Around} {n:Nat} {a b:Addr} {xs ys:List U} {its its2:List Value} (p1:s.heap.IsList a its.toArray) (p2:s.heap.IsList b its2.toArray) (l1:its.length=xs.length) (l2:its2.length=ys.length) (hu:A.units+n < cLine)
  (he:∀ (j:Nat) (j1:j < its.length) (j2:j < its2.length),SeqAt.EqAt A.in1 s its[j] its2[j] (eqW (xs.getD j .non) (ys.getD j .non))):SeqAt.RcAt A s (.ref a) (.ref b) (eqWs xs ys):=by
 by_cases hl:its.length=its2.length
 ·have:=SeqAt.RcAt.lists (A:=A) (s:=s) (e:=fun j=> eqW (xs.getD j .non) (ys.getD j .non)) p1 p2 (by simpa using hl) (by omega) (fun j h1 h2=> by simpa using he j (by simpa using h1) (by simpa using h2))
  rw [← bW,← l1,← l2,hl,Nat.min_self,beq_self_eq_true,Bool.and_true]
  rwa [List.size_toArray,hl] at this
 ·have:=SeqAt.RcAt.lists_lengths (A:=A) (s:=s) p1 p2 (by simpa using hl) (by omega)
  rw [← bW,← l1,← l2,show (its.length==its2.length)=false by simpa using hl,Bool.and_false]
  exact this
theorem nL {A:Around} {n:Nat} {a b:Addr} {xs ys:List U} {its its2:List Value} (p1:IsTup s.heap a its.toArray) (p2:IsTup s.heap b its2.toArray) (l1:its.length=xs.length) (l2:its2.length=ys.length) (hu:A.units+n < cLine)
  (he:∀ (j:Nat) (j1:j < its.length) (j2:j < its2.length),SeqAt.EqAt A.in1 s its[j] its2[j] (eqW (xs.getD j .non) (ys.getD j .non))):SeqAt.RcAt A s (.ref a) (.ref b) (eqWs xs ys):=by
 have:=SeqAt.RcAt.tuples (A:=A) (s:=s) (e:=fun j=> eqW (xs.getD j .non) (ys.getD j .non)) p1 p2 (by omega) (fun j h1 h2=> by simpa using he j (by simpa using h1) (by simpa using h2))
 rw [List.size_toArray,List.size_toArray,l1,l2,bW] at this
 exact this
theorem qJ (I:Inv X pins σ H s):∀ (n:Nat) (A:Around) (x y:U) (v w:V) (p q:Value),Rp X.K H v x→Rp X.K H w y→aL v p→aL w q→okU n x=true→okU n y=true→A.units+n < cLine→SeqAt.RcAt A s p q (eqW x y):=by
 intro n
 induction n with
 | zero=>
  intro A x y v w p q R1 R2 q1 q2 o1 o2 hu
  cases R1 with
  | non=>
   cases (show p=Value.none from q1)
   cases R2 with
   | non=> cases (show q=Value.none from q2); exact SeqAt.RcAt.none_none
   | bl b=> cases (show q=Value.bool b from q2); exact SeqAt.RcAt.none_bool b
   | int i=> obtain ⟨t,rfl⟩:=(show ∃ t,q=Value.int i t from q2); exact SeqAt.RcAt.none_int i t
   | str i=> obtain ⟨t,rfl⟩:=(show ∃ t,q=Value.str i t from q2); exact SeqAt.RcAt.none_str i t
   | _=> simp [okU] at o2
  | bl c=>
   cases (show p=Value.bool c from q1)
   cases R2 with
   | non=> cases (show q=Value.none from q2); exact SeqAt.RcAt.bool_none c
   | bl b=> cases (show q=Value.bool b from q2); exact SeqAt.RcAt.bool_bool c b
   | int i=> obtain ⟨t,rfl⟩:=(show ∃ t,q=Value.int i t from q2); exact SeqAt.RcAt.bool_int c i t
   | str i=> obtain ⟨t,rfl⟩:=(show ∃ t,q=Value.str i t from q2); exact SeqAt.RcAt.bool_str c i t
   | _=> simp [okU] at o2
  | int c=>
   obtain ⟨t0,rfl⟩:=(show ∃ t,p=Value.int c t from q1)
   cases R2 with
   | non=> cases (show q=Value.none from q2); exact SeqAt.RcAt.int_none c t0
   | bl b=> cases (show q=Value.bool b from q2); exact SeqAt.RcAt.int_bool c t0 b
   | int i=> obtain ⟨t,rfl⟩:=(show ∃ t,q=Value.int i t from q2); exact SeqAt.RcAt.int_int c t0 i t
   | str i=> obtain ⟨t,rfl⟩:=(show ∃ t,q=Value.str i t from q2); exact SeqAt.RcAt.int_str c t0 i t
   | _=> simp [okU] at o2
  | str c=>
   obtain ⟨t0,rfl⟩:=(show ∃ t,p=Value.str c t from q1)
   cases R2 with
   | non=> cases (show q=Value.none from q2); exact SeqAt.RcAt.str_none c t0
   | bl b=> cases (show q=Value.bool b from q2); exact SeqAt.RcAt.str_bool c t0 b
   | int i=> obtain ⟨t,rfl⟩:=(show ∃ t,q=Value.int i t from q2); exact SeqAt.RcAt.str_int c t0 i t
   | str i=> obtain ⟨t,rfl⟩:=(show ∃ t,q=Value.str i t from q2); exact SeqAt.RcAt.str_str c t0 i t
   | _=> simp [okU] at o2
  | _=> simp [okU] at o1
 | succ n ih=>
  intro A x y v w p q R1 R2 q1 q2 o1 o2 hu
  have hu1:A.units < cLine:=by omega
  have rc0:∀ (x y:U) (v w:V) (p q:Value),Rp X.K H v x→Rp X.K H w y→aL v p→aL w q→okU n x=true→okU n y=true→SeqAt.RcAt A.in1 s p q (eqW x y):=fun x y v w p q r1 r2 k1 k2 z1 z2=> ih A.in1 x y v w p q r1 r2 k1 k2 z1 z2 (by show A.units+1+n < _; omega)
  cases R1 with
  | non=>
   cases (show p=Value.none from q1)
   cases R2 with
   | non=> cases (show q=Value.none from q2); exact SeqAt.RcAt.none_none
   | bl b=> cases (show q=Value.bool b from q2); exact SeqAt.RcAt.none_bool b
   | int i=> obtain ⟨t,rfl⟩:=(show ∃ t,q=Value.int i t from q2); exact SeqAt.RcAt.none_int i t
   | str i=> obtain ⟨t,rfl⟩:=(show ∃ t,q=Value.str i t from q2); exact SeqAt.RcAt.none_str i t
   | ty=> simp [okU] at o2
   | dic=> simp [okU] at o2
   | xc=> simp [okU] at o2
   | scr hq hl hi=> cases q2; obtain ⟨_,_,pl,_⟩:=IsU.list I hq hl; exact SeqAt.RcAt.none_list pl hu1
   | tup hq hl hi=> cases q2; obtain ⟨_,_,pl,_⟩:=IsU.tup I hq hl; exact SeqAt.RcAt.none_tuple pl hu1
   | lst hq hl hi=> cases q2; obtain ⟨_,_,pl,_⟩:=IsU.list I (SqL.of hq) hl; exact SeqAt.RcAt.none_list pl hu1
  | bl c=>
   cases (show p=Value.bool c from q1)
   cases R2 with
   | non=> cases (show q=Value.none from q2); exact SeqAt.RcAt.bool_none c
   | bl b=> cases (show q=Value.bool b from q2); exact SeqAt.RcAt.bool_bool c b
   | int i=> obtain ⟨t,rfl⟩:=(show ∃ t,q=Value.int i t from q2); exact SeqAt.RcAt.bool_int c i t
   | str i=> obtain ⟨t,rfl⟩:=(show ∃ t,q=Value.str i t from q2); exact SeqAt.RcAt.bool_str c i t
   | ty=> simp [okU] at o2
   | dic=> simp [okU] at o2
   | xc=> simp [okU] at o2
   | scr hq hl hi=> cases q2; obtain ⟨_,_,pl,_⟩:=IsU.list I hq hl; exact SeqAt.RcAt.bool_list c pl hu1
   | tup hq hl hi=> cases q2; obtain ⟨_,_,pl,_⟩:=IsU.tup I hq hl; exact SeqAt.RcAt.bool_tuple c pl hu1
   | lst hq hl hi=> cases q2; obtain ⟨_,_,pl,_⟩:=IsU.list I (SqL.of hq) hl; exact SeqAt.RcAt.bool_list c pl hu1
  | int c=>
   obtain ⟨t0,rfl⟩:=(show ∃ t,p=Value.int c t from q1)
   cases R2 with
   | non=> cases (show q=Value.none from q2); exact SeqAt.RcAt.int_none c t0
   | bl b=> cases (show q=Value.bool b from q2); exact SeqAt.RcAt.int_bool c t0 b
   | int i=> obtain ⟨t,rfl⟩:=(show ∃ t,q=Value.int i t from q2); exact SeqAt.RcAt.int_int c t0 i t
   | str i=> obtain ⟨t,rfl⟩:=(show ∃ t,q=Value.str i t from q2); exact SeqAt.RcAt.int_str c t0 i t
   | ty=> simp [okU] at o2
   | dic=> simp [okU] at o2
   | xc=> simp [okU] at o2
   | scr hq hl hi=> cases q2; obtain ⟨_,_,pl,_⟩:=IsU.list I hq hl; exact SeqAt.RcAt.int_list c t0 pl hu1
   | tup hq hl hi=> cases q2; obtain ⟨_,_,pl,_⟩:=IsU.tup I hq hl; exact SeqAt.RcAt.int_tuple c t0 pl hu1
   | lst hq hl hi=> cases q2; obtain ⟨_,_,pl,_⟩:=IsU.list I (SqL.of hq) hl; exact SeqAt.RcAt.int_list c t0 pl hu1
  | str c=>
   obtain ⟨t0,rfl⟩:=(show ∃ t,p=Value.str c t from q1)
   cases R2 with
   | non=> cases (show q=Value.none from q2); exact SeqAt.RcAt.str_none c t0
   | bl b=> cases (show q=Value.bool b from q2); exact SeqAt.RcAt.str_bool c t0 b
   | int i=> obtain ⟨t,rfl⟩:=(show ∃ t,q=Value.int i t from q2); exact SeqAt.RcAt.str_int c t0 i t
   | str i=> obtain ⟨t,rfl⟩:=(show ∃ t,q=Value.str i t from q2); exact SeqAt.RcAt.str_str c t0 i t
   | ty=> simp [okU] at o2
   | dic=> simp [okU] at o2
   | xc=> simp [okU] at o2
   | scr hq hl hi=> cases q2; obtain ⟨_,_,pl,_⟩:=IsU.list I hq hl; exact SeqAt.RcAt.str_list c t0 pl hu1
   | tup hq hl hi=> cases q2; obtain ⟨_,_,pl,_⟩:=IsU.tup I hq hl; exact SeqAt.RcAt.str_tuple c t0 pl hu1
   | lst hq hl hi=> cases q2; obtain ⟨_,_,pl,_⟩:=IsU.list I (SqL.of hq) hl; exact SeqAt.RcAt.str_list c t0 pl hu1
  | ty=> simp [okU] at o1
  | dic=> simp [okU] at o1
  | xc=> simp [okU] at o1
  | @scr a vs xs hq hl hi=>
   cases q1
   obtain ⟨its,r1,pl,l1⟩:=IsU.list I hq hl
   rw [okU] at o1
   cases R2 with
   | non=> cases (show q=Value.none from q2); exact SeqAt.RcAt.list_none pl hu1
   | bl b=> cases (show q=Value.bool b from q2); exact SeqAt.RcAt.list_bool b pl hu1
   | int i=> obtain ⟨t,rfl⟩:=(show ∃ t,q=Value.int i t from q2); exact SeqAt.RcAt.list_int i t pl hu1
   | str i=> obtain ⟨t,rfl⟩:=(show ∃ t,q=Value.str i t from q2); exact SeqAt.RcAt.list_str i t pl hu1
   | ty=> simp [okU] at o2
   | dic=> simp [okU] at o2
   | xc=> simp [okU] at o2
   | scr hq' hl' hi'=> cases q2; rw [okU] at o2; obtain ⟨its2,r2,pl2,l2⟩:=IsU.list I hq' hl'; rw [eqW]; exact eB pl pl2 l1 l2 hu (bG I r1 r2 hl hl' hi hi' o1 o2 rc0 (by omega))
   | lst hq' hl' hi'=> cases q2; rw [okU] at o2; obtain ⟨its2,r2,pl2,l2⟩:=IsU.list I (SqL.of hq') hl'; rw [eqW]; exact eB pl pl2 l1 l2 hu (bG I r1 r2 hl hl' hi hi' o1 o2 rc0 (by omega))
   | tup hq' hl' hi'=> cases q2; obtain ⟨its2,r2,pl2,l2⟩:=IsU.tup I hq' hl'; exact SeqAt.RcAt.list_tuple pl pl2 hu1
  | @lst a vs xs hq hl hi=>
   cases q1
   obtain ⟨its,r1,pl,l1⟩:=IsU.list I (SqL.of hq) hl
   rw [okU] at o1
   cases R2 with
   | non=> cases (show q=Value.none from q2); exact SeqAt.RcAt.list_none pl hu1
   | bl b=> cases (show q=Value.bool b from q2); exact SeqAt.RcAt.list_bool b pl hu1
   | int i=> obtain ⟨t,rfl⟩:=(show ∃ t,q=Value.int i t from q2); exact SeqAt.RcAt.list_int i t pl hu1
   | str i=> obtain ⟨t,rfl⟩:=(show ∃ t,q=Value.str i t from q2); exact SeqAt.RcAt.list_str i t pl hu1
   | ty=> simp [okU] at o2
   | dic=> simp [okU] at o2
   | xc=> simp [okU] at o2
   | scr hq' hl' hi'=> cases q2; rw [okU] at o2; obtain ⟨its2,r2,pl2,l2⟩:=IsU.list I hq' hl'; rw [eqW]; exact eB pl pl2 l1 l2 hu (bG I r1 r2 hl hl' hi hi' o1 o2 rc0 (by omega))
   | lst hq' hl' hi'=> cases q2; rw [okU] at o2; obtain ⟨its2,r2,pl2,l2⟩:=IsU.list I (SqL.of hq') hl'; rw [eqW]; exact eB pl pl2 l1 l2 hu (bG I r1 r2 hl hl' hi hi' o1 o2 rc0 (by omega))
   | tup hq' hl' hi'=> cases q2; obtain ⟨its2,r2,pl2,l2⟩:=IsU.tup I hq' hl'; exact SeqAt.RcAt.list_tuple pl pl2 hu1
  | @tup a vs xs hq hl hi=>
   cases q1
   obtain ⟨its,r1,pl,l1⟩:=IsU.tup I hq hl
   rw [okU] at o1
   cases R2 with
   | non=> cases (show q=Value.none from q2); exact SeqAt.RcAt.tuple_none pl hu1
   | bl b=> cases (show q=Value.bool b from q2); exact SeqAt.RcAt.tuple_bool b pl hu1
   | int i=> obtain ⟨t,rfl⟩:=(show ∃ t,q=Value.int i t from q2); exact SeqAt.RcAt.tuple_int i t pl hu1
   | str i=> obtain ⟨t,rfl⟩:=(show ∃ t,q=Value.str i t from q2); exact SeqAt.RcAt.tuple_str i t pl hu1
   | ty=> simp [okU] at o2
   | dic=> simp [okU] at o2
   | xc=> simp [okU] at o2
   | scr hq' hl' hi'=> cases q2; obtain ⟨its2,r2,pl2,l2⟩:=IsU.list I hq' hl'; exact SeqAt.RcAt.tuple_list pl pl2 hu1
   | lst hq' hl' hi'=> cases q2; obtain ⟨its2,r2,pl2,l2⟩:=IsU.list I (SqL.of hq') hl'; exact SeqAt.RcAt.tuple_list pl pl2 hu1
   | tup hq' hl' hi'=> cases q2; rw [okU] at o2; obtain ⟨its2,r2,pl2,l2⟩:=IsU.tup I hq' hl'; rw [eqW]; exact nL pl pl2 l1 l2 hu (bG I r1 r2 hl hl' hi hi' o1 o2 rc0 (by omega))
end
end L2
namespace L2
open PySem PySem.Spec PyProof.Rows
section
variable {X:Cx} {pins:List (Addr×Obj)} {σ:St} {H:Hp} {s:Shared}
theorem cU {A:Around} {n:Nat} {a b:Addr} {xs ys:List U} {its its2:List Value} (p1:s.heap.IsList a its.toArray) (p2:s.heap.IsList b its2.toArray) (l1:its.length=xs.length) (l2:its2.length=ys.length) (hu:A.units+n < cLine)
  (he:∀ (j:Nat) (j1:j < its.length) (j2:j < its2.length),SeqAt.EqAt A.in1 s its[j] its2[j] (eqW (xs.getD j .non) (ys.getD j .non))):SeqAt.RcNeAt A s (.ref a) (.ref b) (!eqWs xs ys):=by
 by_cases hl:its.length=its2.length
 ·have:=SeqAt.RcNeAt.lists (A:=A) (s:=s) (e:=fun j=> eqW (xs.getD j .non) (ys.getD j .non)) p1 p2 (by simpa using hl) (by omega) (fun j h1 h2=> by simpa using he j (by simpa using h1) (by simpa using h2))
  rw [← bW,← l1,← l2,hl,Nat.min_self,beq_self_eq_true,Bool.and_true]
  rwa [List.size_toArray,hl] at this
 ·have:=SeqAt.RcNeAt.lists_lengths (A:=A) (s:=s) p1 p2 (by simpa using hl) (by omega)
  rw [← bW,← l1,← l2,show (its.length==its2.length)=false by simpa using hl,Bool.and_false]
  exact this
theorem kE {A:Around} {n:Nat} {a b:Addr} {xs ys:List U} {its its2:List Value} (p1:IsTup s.heap a its.toArray) (p2:IsTup s.heap b its2.toArray) (l1:its.length=xs.length) (l2:its2.length=ys.length) (hu:A.units+n < cLine)
  (he:∀ (j:Nat) (j1:j < its.length) (j2:j < its2.length),SeqAt.EqAt A.in1 s its[j] its2[j] (eqW (xs.getD j .non) (ys.getD j .non))):SeqAt.RcNeAt A s (.ref a) (.ref b) (!eqWs xs ys):=by
 have:=SeqAt.RcNeAt.tuples (A:=A) (s:=s) (e:=fun j=> eqW (xs.getD j .non) (ys.getD j .non)) p1 p2 (by omega) (fun j h1 h2=> by simpa using he j (by simpa using h1) (by simpa using h2))
 rw [List.size_toArray,List.size_toArray,l1,l2,bW] at this
 exact this
theorem qG (I:Inv X pins σ H s) (n:Nat) (A:Around) (x y:U) (v w:V) (p q:Value) (R1:Rp X.K H v x) (R2:Rp X.K H w y) (q1:aL v p) (q2:aL w q) (o1:okU (n+1) x=true) (o2:okU (n+1) y=true) (hu:A.units+(n+1) < cLine):SeqAt.RcNeAt A s p q (!eqW x y):=by
 have hu1:A.units < cLine:=by omega
 have rc0:∀ (x y:U) (v w:V) (p q:Value),Rp X.K H v x→Rp X.K H w y→aL v p→aL w q→okU n x=true→okU n y=true→SeqAt.RcAt A.in1 s p q (eqW x y):=fun x y v w p q r1 r2 k1 k2 z1 z2=> qJ I n A.in1 x y v w p q r1 r2 k1 k2 z1 z2 (by show A.units+1+n < _; omega)
 cases R1 with
 | ty=> simp [okU] at o1
 | dic=> simp [okU] at o1
 | xc=> simp [okU] at o1
 | non=>
  cases (show p=Value.none from q1)
  cases R2 with
  | ty=> simp [okU] at o2
  | dic=> simp [okU] at o2
  | xc=> simp [okU] at o2
  | non=> cases (show q=Value.none from q2); exact SeqAt.RcNeAt.none_none
  | bl c2=> cases (show q=Value.bool c2 from q2); exact SeqAt.RcNeAt.none_bool c2
  | int c2=> obtain ⟨t2,rfl⟩:=(show ∃ t,q=Value.int c2 t from q2); exact SeqAt.RcNeAt.none_int c2 t2
  | str c2=> obtain ⟨t2,rfl⟩:=(show ∃ t,q=Value.str c2 t from q2); exact SeqAt.RcNeAt.none_str c2 t2
  | scr hq2 hl2 hi2=> cases q2; obtain ⟨its2,r2,pl2,l2⟩:=IsU.list I hq2 hl2; exact SeqAt.RcNeAt.none_list pl2 hu1
  | tup hq2 hl2 hi2=> cases q2; obtain ⟨its2,r2,pl2,l2⟩:=IsU.tup I hq2 hl2; exact SeqAt.RcNeAt.none_tuple pl2 hu1
  | lst hq2 hl2 hi2=> cases q2; obtain ⟨its2,r2,pl2,l2⟩:=IsU.list I (SqL.of hq2) hl2; exact SeqAt.RcNeAt.none_list pl2 hu1
 | bl c1=>
  cases (show p=Value.bool c1 from q1)
  cases R2 with
  | ty=> simp [okU] at o2
  | dic=> simp [okU] at o2
  | xc=> simp [okU] at o2
  | non=> cases (show q=Value.none from q2); exact SeqAt.RcNeAt.bool_none c1
  | bl c2=> cases (show q=Value.bool c2 from q2); exact SeqAt.RcNeAt.bool_bool c1 c2
  | int c2=> obtain ⟨t2,rfl⟩:=(show ∃ t,q=Value.int c2 t from q2); exact SeqAt.RcNeAt.bool_int c1 c2 t2
  | str c2=> obtain ⟨t2,rfl⟩:=(show ∃ t,q=Value.str c2 t from q2); exact SeqAt.RcNeAt.bool_str c1 c2 t2
  | scr hq2 hl2 hi2=> cases q2; obtain ⟨its2,r2,pl2,l2⟩:=IsU.list I hq2 hl2; exact SeqAt.RcNeAt.bool_list c1 pl2 hu1
  | tup hq2 hl2 hi2=> cases q2; obtain ⟨its2,r2,pl2,l2⟩:=IsU.tup I hq2 hl2; exact SeqAt.RcNeAt.bool_tuple c1 pl2 hu1
  | lst hq2 hl2 hi2=> cases q2; obtain ⟨its2,r2,pl2,l2⟩:=IsU.list I (SqL.of hq2) hl2; exact SeqAt.RcNeAt.bool_list c1 pl2 hu1
 | int c1=>
  obtain ⟨t1,rfl⟩:=(show ∃ t,p=Value.int c1 t from q1)
  cases R2 with
  | ty=> simp [okU] at o2
  | dic=> simp [okU] at o2
  | xc=> simp [okU] at o2
  | non=> cases (show q=Value.none from q2); exact SeqAt.RcNeAt.int_none c1 t1
  | bl c2=> cases (show q=Value.bool c2 from q2); exact SeqAt.RcNeAt.int_bool c1 t1 c2
  | int c2=> obtain ⟨t2,rfl⟩:=(show ∃ t,q=Value.int c2 t from q2); exact SeqAt.RcNeAt.int_int c1 t1 c2 t2
  | str c2=> obtain ⟨t2,rfl⟩:=(show ∃ t,q=Value.str c2 t from q2); exact SeqAt.RcNeAt.int_str c1 t1 c2 t2
  | scr hq2 hl2 hi2=> cases q2; obtain ⟨its2,r2,pl2,l2⟩:=IsU.list I hq2 hl2; exact SeqAt.RcNeAt.int_list c1 t1 pl2 hu1
  | tup hq2 hl2 hi2=> cases q2; obtain ⟨its2,r2,pl2,l2⟩:=IsU.tup I hq2 hl2; exact SeqAt.RcNeAt.int_tuple c1 t1 pl2 hu1
  | lst hq2 hl2 hi2=> cases q2; obtain ⟨its2,r2,pl2,l2⟩:=IsU.list I (SqL.of hq2) hl2; exact SeqAt.RcNeAt.int_list c1 t1 pl2 hu1
 | str c1=>
  obtain ⟨t1,rfl⟩:=(show ∃ t,p=Value.str c1 t from q1)
  cases R2 with
  | ty=> simp [okU] at o2
  | dic=> simp [okU] at o2
  | xc=> simp [okU] at o2
  | non=> cases (show q=Value.none from q2); exact SeqAt.RcNeAt.str_none c1 t1
  | bl c2=> cases (show q=Value.bool c2 from q2); exact SeqAt.RcNeAt.str_bool c1 t1 c2
  | int c2=> obtain ⟨t2,rfl⟩:=(show ∃ t,q=Value.int c2 t from q2); exact SeqAt.RcNeAt.str_int c1 t1 c2 t2
  | str c2=> obtain ⟨t2,rfl⟩:=(show ∃ t,q=Value.str c2 t from q2); exact SeqAt.RcNeAt.str_str c1 t1 c2 t2
  | scr hq2 hl2 hi2=> cases q2; obtain ⟨its2,r2,pl2,l2⟩:=IsU.list I hq2 hl2; exact SeqAt.RcNeAt.str_list c1 t1 pl2 hu1
  | tup hq2 hl2 hi2=> cases q2; obtain ⟨its2,r2,pl2,l2⟩:=IsU.tup I hq2 hl2; exact SeqAt.RcNeAt.str_tuple c1 t1 pl2 hu1
  | lst hq2 hl2 hi2=> cases q2; obtain ⟨its2,r2,pl2,l2⟩:=IsU.list I (SqL.of hq2) hl2; exact SeqAt.RcNeAt.str_list c1 t1 pl2 hu1
 | scr hq1 hl1 hi1=>
  cases q1; obtain ⟨its1,r1,pl1,l1⟩:=IsU.list I hq1 hl1
  cases R2 with
  | ty=> simp [okU] at o2
  | dic=> simp [okU] at o2
  | xc=> simp [okU] at o2
  | non=> cases (show q=Value.none from q2); exact SeqAt.RcNeAt.list_none pl1 hu1
  | bl c2=> cases (show q=Value.bool c2 from q2); exact SeqAt.RcNeAt.list_bool c2 pl1 hu1
  | int c2=> obtain ⟨t2,rfl⟩:=(show ∃ t,q=Value.int c2 t from q2); exact SeqAt.RcNeAt.list_int c2 t2 pl1 hu1
  | str c2=> obtain ⟨t2,rfl⟩:=(show ∃ t,q=Value.str c2 t from q2); exact SeqAt.RcNeAt.list_str c2 t2 pl1 hu1
  | scr hq2 hl2 hi2=> cases q2; obtain ⟨its2,r2,pl2,l2⟩:=IsU.list I hq2 hl2; rw [okU] at o1; rw [okU] at o2; rw [eqW]; exact cU pl1 pl2 l1 l2 hu (bG I r1 r2 hl1 hl2 hi1 hi2 o1 o2 rc0 (by omega))
  | tup hq2 hl2 hi2=> cases q2; obtain ⟨its2,r2,pl2,l2⟩:=IsU.tup I hq2 hl2; exact SeqAt.RcNeAt.list_tuple pl1 pl2 hu1
  | lst hq2 hl2 hi2=> cases q2; obtain ⟨its2,r2,pl2,l2⟩:=IsU.list I (SqL.of hq2) hl2; rw [okU] at o1; rw [okU] at o2; rw [eqW]; exact cU pl1 pl2 l1 l2 hu (bG I r1 r2 hl1 hl2 hi1 hi2 o1 o2 rc0 (by omega))
 | tup hq1 hl1 hi1=>
  cases q1; obtain ⟨its1,r1,pl1,l1⟩:=IsU.tup I hq1 hl1
  cases R2 with
  | ty=> simp [okU] at o2
  | dic=> simp [okU] at o2
  | xc=> simp [okU] at o2
  | non=> cases (show q=Value.none from q2); exact SeqAt.RcNeAt.tuple_none pl1 hu1
  | bl c2=> cases (show q=Value.bool c2 from q2); exact SeqAt.RcNeAt.tuple_bool c2 pl1 hu1
  | int c2=> obtain ⟨t2,rfl⟩:=(show ∃ t,q=Value.int c2 t from q2); exact SeqAt.RcNeAt.tuple_int c2 t2 pl1 hu1
  | str c2=> obtain ⟨t2,rfl⟩:=(show ∃ t,q=Value.str c2 t from q2); exact SeqAt.RcNeAt.tuple_str c2 t2 pl1 hu1
  | scr hq2 hl2 hi2=> cases q2; obtain ⟨its2,r2,pl2,l2⟩:=IsU.list I hq2 hl2; exact SeqAt.RcNeAt.tuple_list pl1 pl2 hu1
  | tup hq2 hl2 hi2=> cases q2; obtain ⟨its2,r2,pl2,l2⟩:=IsU.tup I hq2 hl2; rw [okU] at o1; rw [okU] at o2; rw [eqW]; exact kE pl1 pl2 l1 l2 hu (bG I r1 r2 hl1 hl2 hi1 hi2 o1 o2 rc0 (by omega))
  | lst hq2 hl2 hi2=> cases q2; obtain ⟨its2,r2,pl2,l2⟩:=IsU.list I (SqL.of hq2) hl2; exact SeqAt.RcNeAt.tuple_list pl1 pl2 hu1
 | lst hq1 hl1 hi1=>
  cases q1; obtain ⟨its1,r1,pl1,l1⟩:=IsU.list I (SqL.of hq1) hl1
  cases R2 with
  | ty=> simp [okU] at o2
  | dic=> simp [okU] at o2
  | xc=> simp [okU] at o2
  | non=> cases (show q=Value.none from q2); exact SeqAt.RcNeAt.list_none pl1 hu1
  | bl c2=> cases (show q=Value.bool c2 from q2); exact SeqAt.RcNeAt.list_bool c2 pl1 hu1
  | int c2=> obtain ⟨t2,rfl⟩:=(show ∃ t,q=Value.int c2 t from q2); exact SeqAt.RcNeAt.list_int c2 t2 pl1 hu1
  | str c2=> obtain ⟨t2,rfl⟩:=(show ∃ t,q=Value.str c2 t from q2); exact SeqAt.RcNeAt.list_str c2 t2 pl1 hu1
  | scr hq2 hl2 hi2=> cases q2; obtain ⟨its2,r2,pl2,l2⟩:=IsU.list I hq2 hl2; rw [okU] at o1; rw [okU] at o2; rw [eqW]; exact cU pl1 pl2 l1 l2 hu (bG I r1 r2 hl1 hl2 hi1 hi2 o1 o2 rc0 (by omega))
  | tup hq2 hl2 hi2=> cases q2; obtain ⟨its2,r2,pl2,l2⟩:=IsU.tup I hq2 hl2; exact SeqAt.RcNeAt.list_tuple pl1 pl2 hu1
  | lst hq2 hl2 hi2=> cases q2; obtain ⟨its2,r2,pl2,l2⟩:=IsU.list I (SqL.of hq2) hl2; rw [okU] at o1; rw [okU] at o2; rw [eqW]; exact cU pl1 pl2 l1 l2 hu (bG I r1 r2 hl1 hl2 hi1 hi2 o1 o2 rc0 (by omega))
end
end L2
namespace L2
open PySem PySem.Spec PyProof.Rows
def OpS (X:Cx) (f:Value→Value→Sem Value) (x y:U) (z:V):Prop:=OpR X f fun v w H Q=> Rp X.K H v x∧Rp X.K H w y∧Q z H
section
variable {X:Cx} {H0:Hp} {O0:List Addr} {ps:PSt} {a b c e:Expr} {es rest:List Expr} {pos p:Pos} {u x y:U} {xs ys us:List U} {i j:Int} {k m:Bool}
theorem Rp.out {K:PySem.W.Frag} {H:Hp} {O:List Addr} {v:V} {u:U} (h:Rp K (hid H O) v u):Rp K H v u:=h.same aD
theorem gf {op:CmpOp} (ho:OpS X (compareOp op) x y (.bl k)) (ha:Ev X H0 O0 ps a x) (hb:Ev X H0 O0 ps b y) (hm:behindInMarks op b=false:=by first | exact ma _ | with_unfolding_all rfl):Ev X H0 O0 ps (.Compare a [op] [b] pos) (.bl k):=
 PE.mono (ou ho ha hb hm) fun σ H Q ⟨O,R,q⟩=> two R (fun _ _ _ z=> z) (fun _ _ _ z=> z) fun v w H' s _ r1 r2=> ⟨r1.out,r2.out,q _ H' s (.bl _)⟩
theorem aQ {op:CmpOp} (ho:OpS X (compareOp op) x y (.bl k)) (ha:Ev X H0 O0 ps a x) (hb:Ev X H0 O0 ps b y) (hm:behindInMarks op b=false:=by first | exact ma _ | with_unfolding_all rfl):Tt X H0 O0 ps (.Compare a [op] [b] pos) k:=
 PT.mono (nM ho ha hb hm) fun σ H Q ⟨O,R,q⟩=> two R (fun _ _ _ z=> z) (fun _ _ _ z=> z) fun v w H' s _ r1 r2=> ⟨r1.out,r2.out,_,rfl,q H' s⟩
theorem m8 {op:CmpOp} {g:Int→Int→Bool} (ho:OpR X (compareOp op) (rI0 fun i j=> .bl (g i j))):OpS X (compareOp op) (.int i) (.int j) (.bl (g i j)):=by
 intro pins s σ H v w p q Q I r1 r2 h
 obtain ⟨h1,h2,h3⟩:=h
 cases h1; cases h2
 exact ho pins s σ H _ _ _ _ Q I r1 r2 ⟨i,j,rfl,rfl,h3⟩
theorem mU:OpS X (compareOp .Lt) (.int i) (.int j) (.bl (decide (i < j))):=m8 rF
theorem sG:OpS X (compareOp .LtE) (.int i) (.int j) (.bl (decide (i≤j))):=m8 rC
theorem eX:OpS X (compareOp .Gt) (.int i) (.int j) (.bl (decide (j < i))):=m8 rn
theorem oh (hu:X.A.units+10 < cLine) (h1:okU 9 x=true) (h2:okU 9 y=true):OpS X (compareOp .Eq) x y (.bl (eqW x y)):=by
 intro pins s σ H v w p q Q I r1 r2 h
 obtain ⟨k1,k2,k3⟩:=h
 exact qJ I 9 X.A x y v w p q k1 k2 r1 r2 h1 h2 (by omega) X.prog X.w _ _ (bn I k3 rfl)
theorem qu (hu:X.A.units+10 < cLine) (h1:okU 9 x=true) (h2:okU 9 y=true):OpS X (compareOp .NotEq) x y (.bl (!eqW x y)):=by
 intro pins s σ H v w p q Q I r1 r2 h
 obtain ⟨k1,k2,k3⟩:=h
 exact qG I 8 X.A x y v w p q k1 k2 r1 r2 h1 h2 (by omega) X.prog X.w _ _ (bn I k3 rfl)
theorem dk:OpS X (compareOp .Eq) (.int i) (.int j) (.bl (decide (i=j))):=by
 intro pins s σ H v w p q Q I r1 r2 h
 obtain ⟨h1,h2,h3⟩:=h
 cases h1; cases h2
 exact rG pins s σ H _ _ _ _ Q I r1 r2 ⟨rfl,by rw [j8,← Bool.beq_eq_decide_eq] at *; simpa [Bool.beq_eq_decide_eq] using h3⟩
theorem d0 (h:Ev X H0 O0 ps e (.bl k)) (he:∀ whole,isTrue e X.env whole=(do let v ← whole; standAt e.pos; holding [v] (truthy v)):=by intro _; rfl):Tt X H0 O0 ps e k:=
 PT.mono (pK h he) fun σ H Q ⟨O,R,q⟩=> ⟨O,R,fun v H' s r=> by cases r; exact ⟨_,rfl,q H' s⟩⟩
theorem eu (h:Tt X H0 O0 ps a k):Tt X H0 O0 ps (.UnaryOp .Not a pos) (!k):=PT.mono (pO h) fun σ H Q ⟨O,R,q⟩=> ⟨O,R,q⟩
theorem Tw.t (h:Tw X H0 O0 ps e k):Tt X H0 O0 ps e k:=h.pt
theorem i8 (h:Tt X H0 O0 ps a k):Tw X H0 O0 ps (.BoolOp .And [a] pos) k:=n4 h
theorem kf (h:Tt X H0 O0 ps a k):Tw X H0 O0 ps (.BoolOp .Or [a] pos) k:=qo h
theorem ka (ha:Tt X H0 O0 ps a k) (hb:k=true→Tw X H0 O0 ps (.BoolOp .And (b::rest) pos) m):Tw X H0 O0 ps (.BoolOp .And (a::b::rest) pos) (k && m):=by
 cases k with
 | true=> exact PW.mono (lL ha (hb rfl)) fun σ H Q ⟨O,R,q⟩=> ⟨O,R,fun H' s=> by exact lF (⟨O,R.go s,fun H2 s2=> q H2 (s.trans s2)⟩)⟩
 | false=> exact PW.mono (lL ha (fun _ _ _ _ _ _ _ h=> h.elim) (tB':=fun _ _ _=> False)) fun σ H Q ⟨O,R,q⟩=> ⟨O,R,fun H' s=> by exact m5 (q H' s)⟩
theorem mV (ha:Tt X H0 O0 ps a k) (hb:k=false→Tw X H0 O0 ps (.BoolOp .Or (b::rest) pos) m):Tw X H0 O0 ps (.BoolOp .Or (a::b::rest) pos) (k || m):=by
 cases k with
 | false=> exact PW.mono (oX ha (hb rfl)) fun σ H Q ⟨O,R,q⟩=> ⟨O,R,fun H' s=> by exact m5 (⟨O,R.go s,fun H2 s2=> q H2 (s.trans s2)⟩)⟩
 | true=> exact PW.mono (oX ha (fun _ _ _ _ _ _ _ h=> h.elim) (tB':=fun _ _ _=> False)) fun σ H Q ⟨O,R,q⟩=> ⟨O,R,fun H' s=> by exact lF (q H' s)⟩
theorem o5 {op} (h:Ev X H0 O0 ps a u):Ev X H0 O0 ps (.BoolOp op [a] pos) u:=pJ h
theorem kc (ha:Ev X H0 O0 ps a (.bl k)) (hb:k=true→Ev X H0 O0 ps (.BoolOp .And (b::rest) pos) (.bl m)):Ev X H0 O0 ps (.BoolOp .And (a::b::rest) pos) (.bl (k && m)):=by
 cases k with
 | true=> exact PE.mono (lR ha (hb rfl)) fun σ H Q ⟨O,R,q⟩=> ⟨O,R,fun v H' s r=> by cases r; exact ⟨_,rfl,by exact lF (⟨O,R.go s,fun v H2 s2 r2=> q v H2 (s.trans s2) r2⟩)⟩⟩
 | false=> exact PE.mono (lR ha (fun _ _ _ _ _ _ h=> h.elim) (tb:=fun _ _ _=> False)) fun σ H Q ⟨O,R,q⟩=> ⟨O,R,fun v H' s r=> by cases r; exact ⟨_,rfl,by exact m5 (q _ H' s (.bl _))⟩⟩
theorem ao:EvA X H0 O0 ps [] []:=PA.mono fD fun σ H Q ⟨O,R,q⟩=> q [] H (.refl H) .nil
theorem ah (ha:Ev X H0 O0 ps e u) (hr:EvA X H0 O0 ps es us) (hs:starEach (e::es) X.env=(false,eval e X.env)::starEach es X.env:=by rfl):EvA X H0 O0 ps (e::es) (u::us):=
 PA.mono (dP ha hr hs) fun σ H Q ⟨O,R,q⟩=> ⟨O,R,fun v H1 s1 r1=> ⟨O,R.go s1,fun vs H2 s2 r2=> q _ H2 (s1.trans s2) (.cons (r1.same (aZ s2)) r2)⟩⟩
theorem Rs.hidnew {K:PySem.W.Frag} {σ:St} {H:Hp} {O:List Addr} (R:Rs K H0 O0 ps σ H O) {p:Addr} {o:HO} (n:H p=none):hid (upd H p o) O p=some o:=cq aS fun z=> R.dom p z n
theorem rg {x1} (h:EvA X H0 O0 ps es us) (hz:us.length≤sizeLine:=by first | decide | (simp only [List.length_cons,List.length_nil]; decide)):Ev X H0 O0 ps (.Tuple es x1 pos) (.tup us):=
 PE.mono (qE h) fun σ H Q ⟨O,R,q⟩=> ⟨O,R,fun vs H1 s1 r1=> ⟨by rw [r1.len]; exact hz,fun p hp=> by
  have s2:=aM hp (.tup vs)
  have r2:=r1.same (aZ (O:=O) s2)
  exact q _ _ (s1.trans s2) (.tup (SqT.of ((R.go s1).hidnew hp)) r2.len r2.at_)⟩⟩
theorem rb (h:EvA X H0 O0 ps es us) (hz:us.length≤sizeLine:=by first | decide | (simp only [List.length_cons,List.length_nil]; decide)):EvN X H0 O0 ps (.List es pos) us:=
 PE.mono (qg h) fun σ H Q ⟨O,R,q⟩=> ⟨O,R,fun vs H1 s1 r1=> ⟨by rw [r1.len]; exact hz,fun p hp=> by
  exact q p vs _ (s1.trans (aM hp _)) (s1.free hp) aS (r1.same (bI (aM hp _) hp))⟩⟩
theorem bB (ha:Ev X H0 O0 ps a x) (hb:Ev X H0 O0 ps b (.int i)) (hx:x.items=some xs) (hi:atI xs i=some u) (hs:hW b:=by intro _ _; rfl):Ev X H0 O0 ps (.Subscript a b pos) u:=
 PE.mono (oY (ke.or qh) ha hb hs) fun σ H Q ⟨O,R,q⟩=> two (y:=.int i) R (fun _ _ _ z=> z) (fun _ _ _ z=> z) fun v w H' s _ r1 r2=> by
  cases r2
  cases r1 with
  | scr h hl hh=> cases hx; obtain ⟨z,h1,h2⟩:=Rps.atI ⟨hl,hh⟩ hi; exact .inl ⟨_,_,i,z,rfl,rfl,aD.seq h,h1,q z H' s h2⟩
  | lst h hl hh=> cases hx; obtain ⟨z,h1,h2⟩:=Rps.atI ⟨hl,hh⟩ hi; exact .inl ⟨_,_,i,z,rfl,rfl,aD.seq (SqL.of h),h1,q z H' s h2⟩
  | tup h hl hh=> cases hx; obtain ⟨z,h1,h2⟩:=Rps.atI ⟨hl,hh⟩ hi; exact .inr ⟨_,_,i,z,rfl,rfl,aD.tup h,h1,q z H' s h2⟩
  | _=> cases hx
theorem gi (n:Nat) {x:Str} (h:ps[n]?=some (some (.own xs))) (hb:Ev X H0 O0 ps b (.int i)) (hi:atI xs i=some u) (hN:X.N[n]?=some x:=by rfl) (hv:Vis X.env.scope x:=by first | exact Or.inl rfl | exact Or.inr (Or.inl rfl) | exact Or.inr (Or.inr rfl)) (hd:(x==("__debug__":Str))=false:=by decide)
  (hcd:(x==("__classdict__":Str))=false:=by decide) (hs:hW b:=by intro _ _; rfl):Ev X H0 O0 ps (.Subscript (.Name x p) b pos) u:=
 PE.mono (oY ke (dq hN hv hd hcd) hb hs) fun σ H Q ⟨O,R,q⟩=> by
  obtain ⟨v,h1,a,vs,rfl,h3,h4,h5,h6⟩:=R.at_ n _ h
  refine ⟨_,h1,O,R,fun w H' s r=> ?_⟩
  cases r
  obtain ⟨z,k1,k2⟩:=h6.atI hi
  exact ⟨a,vs,i,z,rfl,rfl,SqL.of (s _ _ h5),k1,q z H' s (k2.same (aZ s))⟩
def iu (X:Cx) (f:Value) (us:List U) (u:U):Prop:=cw X f fun vs H Q=> ∃ O,(∀ a∈O,H a≠none)∧Rps X.K (hid H O) vs us∧∀ v H',ay H H'→Rp X.K (hid H' O) v u→Q v H'
def o3 (X:Cx) (f:Value) (us:List U) (xs:List U):Prop:=cw X f fun vs H Q=> ∃ O,(∀ a∈O,H a≠none)∧Rps X.K (hid H O) vs us∧∀ a vs H',ay H H'→H a=none→H' a=some (.lst vs)→Rps X.K (hid H' (a::O)) vs xs→Q (.ref a) H'
theorem aC {id:String} {f:Str} (hc:iu X (.builtin id) us u) (hg:Gl X f) (hm:X.mg f=none) (hv:bootBuiltins f=some (.builtin id)) (ha:EvA X H0 O0 ps (e::es) us) (hn:f≠"__name__":=by decide) (hdb:(f==("__debug__":Str))=false:=by decide)
  (he:starEach (e::es) X.env=(false,eval e X.env)::starEach es X.env:=by rfl) (hpl:(backTo pos (starEach es X.env)).any (·.1)=false:=by rfl):Ev X H0 O0 ps (.Call (.Name f p) (e::es) [] pos) u:=
 PE.mono (ii hc hg hm hv ha hn hdb he hpl) fun σ H Q ⟨O,R,q⟩=> ⟨O,R,fun vs H1 s1 r1=> ⟨O,(R.go s1).dom,r1,fun v H2 s2 r2=> q v H2 (s1.trans s2) r2⟩⟩
theorem g8 {id:String} {f:Str} (hc:o3 X (.type id) us xs) (hg:Gl X f) (hm:X.mg f=none) (hv:bootBuiltins f=some (.type id)) (ha:EvA X H0 O0 ps (e::es) us) (hn:f≠"__name__":=by decide) (hdb:(f==("__debug__":Str))=false:=by decide)
  (he:starEach (e::es) X.env=(false,eval e X.env)::starEach es X.env:=by rfl) (hpl:(backTo pos (starEach es X.env)).any (·.1)=false:=by rfl):EvN X H0 O0 ps (.Call (.Name f p) (e::es) [] pos) xs:=
 PE.mono (kK hc hg hm hv ha hn hdb he hpl) fun σ H Q ⟨O,R,q⟩=> ⟨O,R,fun vs H1 s1 r1=> ⟨O,(R.go s1).dom,r1,fun a vs H2 s2 n h r2=> q a vs H2 (s1.trans s2) (s1.free n) h r2⟩⟩
theorem e_ {K:PySem.W.Frag} {H:Hp} {vs:List V} (h:Rps K H vs [x]):∃ v,vs=[v]∧Rp K H v x:=by
 obtain ⟨v,ws,rfl,h1,h2⟩:=h.cons_inv
 rw [h2.nil_inv]
 exact ⟨v,rfl,h1⟩
theorem ff {K:PySem.W.Frag} {H:Hp} {vs:List V} (h:Rps K H vs [x,y]):∃ v w,vs=[v,w]∧Rp K H v x∧Rp K H w y:=by
 obtain ⟨v,ws,rfl,h1,h2⟩:=h.cons_inv
 obtain ⟨w,rfl,h3⟩:=e_ h2
 exact ⟨v,w,rfl,h1,h3⟩
theorem cw.mono {f:Value} {r r':List V→Hp→VK→Prop} (h:cw X f r) (m:∀ vs H Q,r' vs H Q→r vs H Q):cw X f r':=fun pins s σ H vs us Q I v q=> h pins s σ H vs us Q I v (m vs H Q q)
theorem jW {K:PySem.W.Frag} {H:Hp} {v:V} (h:Rp K H v x) (hx:x.items=some xs):∃ a vs,v=.ref a∧(SqL K H a vs∨SqT K H a vs)∧Rps K H vs xs:=by
 cases h with
 | scr h hl hh=> cases hx; exact ⟨_,_,rfl,.inl h,hl,hh⟩
 | lst h hl hh=> cases hx; exact ⟨_,_,rfl,.inl (SqL.of h),hl,hh⟩
 | tup h hl hh=> cases hx; exact ⟨_,_,rfl,.inr h,hl,hh⟩
 | _=> cases hx
theorem jS {K:PySem.W.Frag} {H:Hp} {O:List Addr} {a:Addr} {vs:List V} (h:SqL K (hid H O) a vs∨SqT K (hid H O) a vs):SqL K H a vs∨SqT K H a vs:=h.imp (fun z=> aD.seq z) fun z=> aD.tup z
theorem cB (hx:x.items=some xs):iu X (.builtin "len") [x] (.int xs.length):=cw.mono eA fun vs H Q ⟨O,d,r,q⟩=> by
 obtain ⟨v,rfl,h⟩:=e_ r
 obtain ⟨a,ws,rfl,h1,h2⟩:=jW h hx
 exact ⟨a,ws,rfl,jS h1,by rw [h2.len]; exact q _ H (.refl H) (.int _)⟩
theorem pi (n:Nat) {x:Str} (h:ps[n]?=some (some (.own xs))) (hg:Gl X "len") (hm:X.mg "len"=none) (hN:X.N[n]?=some x:=by rfl) (hv:Vis X.env.scope x:=by first | exact Or.inl rfl | exact Or.inr (Or.inl rfl) | exact Or.inr (Or.inr rfl)) (hd:(x==("__debug__":Str))=false:=by decide)
  (hcd:(x==("__classdict__":Str))=false:=by decide) {pc p':Pos} (hs:starEach [.Name x p'] X.env=(false,eval (.Name x p') X.env)::starEach [] X.env:=by rfl) (hpl:(backTo pos (starEach [] X.env)).any (·.1)=false:=by rfl):Ev X H0 O0 ps (.Call (.Name "len" pc) [.Name x p'] [] pos) (.int xs.length):=
 PE.mono (ii eA hg hm PySem.boot_len (dP (dq hN hv hd hcd) fD hs) (by decide) (by decide) hs hpl) fun σ H Q ⟨O,R,q⟩=> by
  obtain ⟨v,h1,a,vs,rfl,h3,h4,h5,h6⟩:=R.at_ n _ h
  exact ⟨_,h1,a,vs,rfl,.inl (SqL.of h5),by rw [h6.len]; exact q _ H (.refl H) (.int _)⟩
theorem qI (hc:X.calm=true):iu X (.builtin "max") [.int i,.int j] (.int (if j > i then j else i)):=cw.mono (kF hc) fun vs H Q ⟨O,d,r,q⟩=> by
 obtain ⟨v,w,rfl,h,h2⟩:=ff r
 cases h; cases h2
 exact ⟨i,j,rfl,q _ H (.refl H) (.int _)⟩
theorem rN (hc:X.calm=true):iu X (.builtin "min") [.int i,.int j] (.int (if j < i then j else i)):=cw.mono (lg hc) fun vs H Q ⟨O,d,r,q⟩=> by
 obtain ⟨v,w,rfl,h,h2⟩:=ff r
 cases h; cases h2
 exact ⟨i,j,rfl,q _ H (.refl H) (.int _)⟩
theorem jd (hx:x.items=some xs):o3 X (.type "list") [x] xs:=cw.mono gT fun vs H Q ⟨O,d,r,q⟩=> by
 obtain ⟨v,rfl,h⟩:=e_ r
 obtain ⟨a,ws,rfl,h1,h2⟩:=jW h hx
 exact ⟨a,ws,rfl,jS h1,fun l hl=> q l ws _ (aM hl _) hl aS (h2.same (bI (aM hl _) hl))⟩
def tyU:U→Value
 | .non=> .type "NoneType" | .bl _=> .type "bool" | .int _=> .type "int" | .str _=> .type "str" | .ty _=> .type "type" | .dic=> .type "dict" | .scr _=> .type "list" | .tup _=> .type "tuple" | .lst _=> .type "list"
theorem cQ {n:String} (hn:∀ m,x≠.ty m) (h:PySem.W.kitOne X.K (tyU x) (.type n)=some k):iu X (.builtin "isinstance") [x,.ty (.nm n)] (.bl k):=by
 intro pins s σ H vs us Q I r hq
 obtain ⟨O,d,rs,q⟩:=hq
 obtain ⟨v,w,rfl,h1,h2⟩:=ff rs
 cases h2
 obtain ⟨p1,p2,rfl,r1,r2⟩:=jJ r
 cases (show p2=Value.type n from r2)
 have fin:∀ tk,EP X pins σ Q (.bool k) { s with toks:=tk }:=fun tk=> ⟨.bl k,H,I.tok _,rfl,q _ H (.refl H) (.bl _)⟩
 cases h1 with
 | non=> exact cf I r1 .non h fin
 | bl b=> exact cf I r1 (.bl b) h fin
 | int b=> exact cf I r1 (.int b) h fin
 | str b=> exact cf I r1 (.str b) h fin
 | ty m=> exact absurd rfl (hn _)
 | dic e=> exact cf I r1 (.dK (aD _ _ e)) h fin
 | xc e kk=> exact absurd rfl (hn _)
 | scr e hl hh=>
  cases r1
  obtain ⟨its,_,pl,_⟩:=I.list (aD.seq e)
  obtain ⟨o,nn,e1,e2,_⟩:=pl
  exact PySem.W.kia_one PySem.W.kitx_list I.kIn ⟨o,e1,e2⟩ h (fun z=> nomatch z) fin
 | lst e hl hh=> exact cf I r1 (.lst (aD _ _ e)) h fin
 | tup e hl hh=>
  cases r1
  obtain ⟨its,_,pl,_⟩:=I.tuple (aD.tup e)
  obtain ⟨o,e1,e2,_⟩:=pl
  exact PySem.W.kia_one PySem.W.kitx_tuple I.kIn ⟨o,e1,e2⟩ h (fun z=> nomatch z) fin
end
end L2
namespace L2
open PySem PySem.Spec PyProof.Rows
inductive Out where
 | val (u:U) | new (xs:List U) | exc (C:Addr)
def ik (K:PySem.W.Frag) (H0:Hp) (O0:List Addr) (Q:VK) (E:XK):Out→Prop
 | .val u=> ∀ v H',ay H0 H'→Rp K (hid H' O0) v u→Q v H'
 | .new xs=> ∀ a vs H',ay H0 H'→H0 a=none→H' a=some (.lst vs)→Rps K (hid H' (a::O0)) vs xs→Q (.ref a) H'
 | .exc C=> ∀ H',ay H0 H'→E (.ref C) none H'
theorem ik.later {K:PySem.W.Frag} {H0 H1:Hp} {O0:List Addr} {Q:VK} {E:XK} {o:Out} (e:ay H0 H1) (h:ik K H0 O0 Q E o):ik K H1 O0 Q E o:=by
 cases o with
 | val u=> exact fun v H' s r=> h v H' (e.trans s) r
 | new xs=> exact fun a vs H' s n q r=> h a vs H' (e.trans s) (e.free n) q r
 | exc C=> exact fun H' s=> h H' (e.trans s)
structure PD where
 nx:PSt→Prop
 rt:Out→Prop
 bk:PSt→Prop:=fun _=> False
 ct:PSt→Prop:=fun _=> False
structure Lf (K:PySem.W.Frag) (H0:Hp) (O0:List Addr) (E:XK) (D:PD) (D':gZ):Prop where
 nx:∀ ps σ H O,Rs K H0 O0 ps σ H O→D.nx ps→D'.nx σ H
 bk:∀ ps σ H O,Rs K H0 O0 ps σ H O→D.bk ps→D'.bk σ H
 ct:∀ ps σ H O,Rs K H0 O0 ps σ H O→D.ct ps→D'.ct σ H
 rt:∀ o,D.rt o→ik K H0 O0 D'.rt E o
def Ws (X:Cx) (H0:Hp) (O0:List Addr) (E:XK) (ss:List Stmt) (D:PD) (ps:PSt):Prop:=PSs X ss fun D' σ H=> Lf X.K H0 O0 E D D'∧∃ O,Rs X.K H0 O0 ps σ H O
def W1 (X:Cx) (H0:Hp) (O0:List Addr) (E:XK) (s:Stmt) (D:PD) (ps:PSt):Prop:=PS X s fun D' σ H=> Lf X.K H0 O0 E D D'∧∃ O,Rs X.K H0 O0 ps σ H O
section
variable {X:Cx} {H0:Hp} {O0:List Addr} {E:XK} {ps ps':PSt} {D:PD} {s:Stmt} {ss body:List Stmt} {a b c e:Expr} {es:List Expr} {pos p:Pos} {u x y:U} {xs ys us:List U} {k:Bool}
theorem az (h:D.nx ps):Ws X H0 O0 E [] D ps:=PSs.mono oA fun D' σ H ⟨L,O,R⟩=> L.nx ps σ H O R h
theorem af (h:W1 X H0 O0 E s { D with nx:=fun p=> Ws X H0 O0 E ss D p } ps):Ws X H0 O0 E (s::ss) D ps:=by
 have h2:PSs X ss fun D' σ H=> ∃ p,Ws X H0 O0 E ss D p∧Lf X.K H0 O0 E D D'∧∃ O,Rs X.K H0 O0 p σ H O:=fun pins s σ H D' I ⟨p,w,l,r⟩=> w pins s σ H D' I ⟨l,r⟩
 exact PSs.mono (me h h2) fun D' σ H ⟨L,O,R⟩=> ⟨⟨fun p σ H O R q=> ⟨p,q,L,O,R⟩,L.bk,L.ct,L.rt⟩,O,R⟩
theorem bT (h:Ws X H0 O0 E ss D ps') (hs:SubP ps' ps):Ws X H0 O0 E ss D ps:=PSs.mono h fun D' σ H ⟨L,O,R⟩=> ⟨L,O,R.sub hs⟩
theorem aE {i:Nat} {x:Str} {pos':Pos} (hN:X.N.Nodup) (hi:X.N[i]?=some x) (hx:Loc X.env.scope x) (he:Ev X H0 O0 ps e u) (h:D.nx (ps.set i (some (.val u)))) (hs:swapsWith e (some (.Name x pos')) pos.line X.env=pure false:=by rfl) (hf:X.fn x=true∨X.env.scope.names.lookup x=some .local:=by first | exact .inl rfl | exact .inr rfl | assumption):
  W1 X H0 O0 E (.Assign [.Name x pos'] e pos) D ps:=PS.mono (lu hN hi hx he hs hf) fun D' σ H ⟨L,O,R⟩=> ⟨O,R,fun v H' s r=> L.nx _ _ _ O ((R.go s).set r) h⟩
theorem eC {i:Nat} {x:Str} {pos':Pos} (hN:X.N.Nodup) (hi:X.N[i]?=some x) (hx:Loc X.env.scope x) (he:EvN X H0 O0 ps e xs) (h:D.nx (ps.set i (some (.own xs)))) (hs:swapsWith e (some (.Name x pos')) pos.line X.env=pure false:=by rfl) (hf:X.fn x=true∨X.env.scope.names.lookup x=some .local:=by first | exact .inl rfl | exact .inr rfl | assumption):
  W1 X H0 O0 E (.Assign [.Name x pos'] e pos) D ps:=PS.mono (lu hN hi hx he hs hf) fun D' σ H ⟨L,O,R⟩=> ⟨O,R,fun a vs H' s n q r=> L.nx _ _ _ _ (R.own s n q r) h⟩
theorem eN {tb fb:List Stmt} (hc:Tt X H0 O0 ps c k) (h1:k=true→Ws X H0 O0 E tb D ps) (h2:k=false→Ws X H0 O0 E fb D ps):W1 X H0 O0 E (.If c tb fb pos) D ps:=by
 cases k with
 | true=> exact PS.mono (oP hc (h1 rfl) (fun _ _ _ _ _ _ h=> h.elim) (u:=fun _ _ _=> False)) fun D' σ H ⟨L,O,R⟩=> ⟨O,R,fun H' s=> lF ⟨L,O,R.go s⟩⟩
 | false=> exact PS.mono (oP hc (fun _ _ _ _ _ _ h=> h.elim) (h2 rfl) (t:=fun _ _ _=> False)) fun D' σ H ⟨L,O,R⟩=> ⟨O,R,fun H' s=> m5 ⟨L,O,R.go s⟩⟩
theorem Rs.ret {K:PySem.W.Frag} {σ:St} {H:Hp} {O:List Addr} {v:V} (R:Rs K H0 O0 ps σ H O) (r:Rp K (hid H O) v u):Rp K (hid H O0) v u:=r.same (bZ R.old)
theorem cC (he:Ev X H0 O0 ps e u) (h:D.rt (.val u)):W1 X H0 O0 E (.Return (some e) pos) D ps:=
 PS.mono (jf he) fun D' σ H ⟨L,O,R⟩=> ⟨O,R,fun v H' s r=> L.rt _ h v H' (R.same.trans s) ((R.go s).ret r)⟩
theorem gU (he:EvN X H0 O0 ps e xs) (h:D.rt (.new xs)):W1 X H0 O0 E (.Return (some e) pos) D ps:=
 PS.mono (jf he) fun D' σ H ⟨L,O,R⟩=> ⟨O,R,fun a vs H' s n q r=> L.rt _ h a vs H' (R.same.trans s) (R.same.free n) q (r.same (bZ fun b hb=> by
  rcases List.mem_cons.mp hb with y | y
  ·subst y; exact List.mem_cons_self
  ·exact List.mem_cons_of_mem _ (R.old b y)))⟩
theorem fT (i:Nat) {x:Str} (hp:ps[i]?=some (some (.own xs))) (h:D.rt (.new xs)) (hN:X.N[i]?=some x:=by rfl) (hv:Vis X.env.scope x:=by first | exact Or.inl rfl | exact Or.inr (Or.inl rfl) | exact Or.inr (Or.inr rfl)) (hd:(x==("__debug__":Str))=false:=by decide)
  (hcd:(x==("__classdict__":Str))=false:=by decide):W1 X H0 O0 E (.Return (some (.Name x p)) pos) D ps:=
 PS.mono (jf (dq hN hv hd hcd)) fun D' σ H ⟨L,O,R⟩=> by
  obtain ⟨v,h1,a,vs,rfl,h3,h4,h5,h6⟩:=R.at_ i _ hp
  refine ⟨_,h1,L.rt _ h a vs H R.same ((R.new a h3).resolve_left h4) h5 (h6.same (bZ fun b hb=> ?_))⟩
  rcases List.mem_cons.mp hb with y | y
  ·subst y; exact h3
  ·exact R.old b y
theorem bY (i:Nat) {x:Str} {apos cpos xp:Pos} (hp:ps[i]?=some (some (.own xs))) (ha:Ev X H0 O0 ps e u) (hz:xs.length < sizeLine) (h:D.nx (ps.set i (some (.own (xs++[u])))))
  (hN:X.N[i]?=some x:=by rfl) (hv:Vis X.env.scope x:=by first | exact Or.inl rfl | exact Or.inr (Or.inl rfl) | exact Or.inr (Or.inr rfl)) (hd:(x==("__debug__":Str))=false:=by decide) (hcd:(x==("__classdict__":Str))=false:=by decide)
  (hbase:attributeBase (.Name x xp) "append" X.env (eval (.Name x xp) X.env)=eval (.Name x xp) X.env:=by rfl)
  (hfew:((backTo cpos (starEach [e] X.env)).all (fun x=> !x.1) && (backToKw cpos (keywordEach [] X.env)).all (fun x=> x.1.isSome) && decide ([e].length+([]:List Keyword).length+(if ([]:List Keyword).isEmpty then 0 else 1) < 30))=true:=by rfl)
  (hline:(apos.endLine==cpos.line)=true:=by rfl) (hse:starEach [e] X.env=(false,eval e X.env)::starEach [] X.env:=by rfl) (hplain:(backTo cpos (starEach [] X.env)).any (·.1)=false:=by rfl)
  (hs:swapsWith (.Call (.Attribute (.Name x xp) "append" apos) [e] [] cpos) none pos.line X.env=pure false:=by rfl):W1 X H0 O0 E (.Expr (.Call (.Attribute (.Name x xp) "append" apos) [e] [] cpos) pos) D ps:=
 PS.mono (jP (qZ PySem.F.plainAttrs_list PySem.F.slot_list_append PySem.F.type_list_append ge (dq hN hv hd hcd) (dP ha fD hse) hbase hfew hline hse hplain) hs) fun D' σ H ⟨L,O,R⟩=> by
  obtain ⟨v,h1,a,vs,rfl,h3,h4,h5,h6⟩:=R.at_ i _ hp
  refine ⟨_,h1,.inl ⟨rfl,_,SqL.of h5⟩,O,R,fun w H' s r=> ⟨a,vs,w,rfl,rfl,s _ _ h5,by rw [h6.len]; exact hz,?_⟩⟩
  exact L.nx _ _ _ O ((R.go s).write hp h1 ((h6.same (aZ s)).snoc (.cons r .nil))) h
theorem oU (i:Nat) {x:Str} {apos cpos xp:Pos} (hp:ps[i]?=some (some (.own xs))) (hne:xs≠[]) (h:D.nx (ps.set i (some (.own xs.dropLast))))
  (hN:X.N[i]?=some x:=by rfl) (hv:Vis X.env.scope x:=by first | exact Or.inl rfl | exact Or.inr (Or.inl rfl) | exact Or.inr (Or.inr rfl)) (hd:(x==("__debug__":Str))=false:=by decide) (hcd:(x==("__classdict__":Str))=false:=by decide)
  (hbase:attributeBase (.Name x xp) "pop" X.env (eval (.Name x xp) X.env)=eval (.Name x xp) X.env:=by rfl)
  (hline:(apos.endLine==cpos.line)=true:=by rfl)
  (hs:swapsWith (.Call (.Attribute (.Name x xp) "pop" apos) [] [] cpos) none pos.line X.env=pure false:=by rfl):W1 X H0 O0 E (.Expr (.Call (.Attribute (.Name x xp) "pop" apos) [] [] cpos) pos) D ps:=
 PS.mono (jP (qA PySem.F.plainAttrs_list PySem.F.slot_list_pop PySem.F.type_list_pop qq (dq hN hv hd hcd) hbase hline) hs) fun D' σ H ⟨L,O,R⟩=> by
  obtain ⟨v,h1,a,vs,rfl,h3,h4,h5,h6⟩:=R.at_ i _ hp
  have hpos:0 < vs.length:=by rw [h6.len]; exact List.length_pos_iff.mpr hne
  have hlt:vs.length - 1 < vs.length:=by omega
  refine ⟨_,h1,.inl ⟨rfl,_,SqL.of h5⟩,a,vs,vs[vs.length - 1],rfl,rfl,h5,List.getElem?_eq_getElem hlt,?_⟩
  refine L.nx _ _ _ O (R.write hp h1 ⟨by simp [h6.len],fun j v x e1 e2=> ?_⟩) h
  rw [List.getElem?_dropLast] at e1 e2
  split at e1
  ·split at e2
   ·exact h6.at_ j v x e1 e2
   ·cases e2
  ·cases e1
theorem kl (i:Nat) {x:Str} {xp tp:Pos} {n:Int} {j:Nat} (hp:ps[i]?=some (some (.own xs))) (he:Ev X H0 O0 ps e u) (hb:Ev X H0 O0 ps b (.int n)) (hj:ixN xs.length n=some j) (h:D.nx (ps.set i (some (.own (xs.set j u)))))
  (hN:X.N[i]?=some x:=by rfl) (hv:Vis X.env.scope x:=by first | exact Or.inl rfl | exact Or.inr (Or.inl rfl) | exact Or.inr (Or.inr rfl)) (hd:(x==("__debug__":Str))=false:=by decide) (hcd:(x==("__classdict__":Str))=false:=by decide)
  (ha:∀ v,assign (.Subscript (.Name x xp) b tp) X.env v=(do
   let ov ← holding [v] (eval (.Name x xp) X.env)
   let iv ← holding [v,ov] (eval b X.env)
   standAt tp
   holding [v,ov,iv] (setItem ov iv v)
   release [v,ov,iv] []):=by intro _; rfl)
  (hs:swapsWithSole [.Subscript (.Name x xp) b tp] e pos.line X.env=pure false:=by rfl) (hw:swappedStores [.Subscript (.Name x xp) b tp] e X.env=pure none:=by rfl)
  (h1:(assignEach [.Subscript (.Name x xp) b tp] X.env).map (·.2)=[assign (.Subscript (.Name x xp) b tp) X.env]:=by rfl):W1 X H0 O0 E (.Assign [.Subscript (.Name x xp) b tp] e pos) D ps:=
 PS.mono (pZ he (qv (dq hN hv hd hcd) hb my ha) hs hw h1) fun D' σ H ⟨L,O,R⟩=> ⟨O,R,fun w H1 s1 r1=> by
  obtain ⟨v,h1,a,vs,rfl,h3,h4,h5,h6⟩:=(R.go s1).at_ i _ hp
  refine ⟨_,h1,O,R.go s1,fun z H2 s2 r2=> ?_⟩
  cases r2
  have h6':=h6.same (aZ (O:=O) s2)
  refine ⟨a,vs,n,j,rfl,rfl,s2 _ _ h5,by rw [h6.len]; exact hj,?_⟩
  refine L.nx _ _ _ O ((R.go (s1.trans s2)).write hp h1 ⟨by simp [h6.len],fun m v x e1 e2=> ?_⟩) h
  rcases bJ e1 with ⟨q1,q2⟩ | ⟨q1,q2⟩
  ·subst q1
   rcases bJ e2 with ⟨_,q4⟩ | ⟨q3,_⟩
   ·rw [q2,q4]; exact r1.same (aZ s2)
   ·exact absurd rfl q3
  ·rcases bJ e2 with ⟨q3,_⟩ | ⟨_,q4⟩
   ·exact absurd q3 q1
   ·exact h6'.at_ m v x q2 q4⟩
end
end L2
namespace L2
open PySem PySem.Spec PyProof.Rows
def TgS (X:Cx) (H0:Hp) (O0:List Addr) (tg:Expr) (ps:PSt) (u:U) (ps':PSt):Prop:=
 PG X tg fun v σ H Q=> ∃ O,Rs X.K H0 O0 ps σ H O∧Rp X.K (hid H O) v u∧∀ σ' H',ay H H'→Rs X.K H0 O0 ps' σ' H' O→Q σ' H'
theorem PG.mono {X:Cx} {e:Expr} {t t':TG} (h:PG X e t) (m:∀ v σ H Q,t' v σ H Q→t v σ H Q):PG X e t':=fun pins s σ H v u Q I r q=> h pins s σ H v u Q I r (m v σ H Q q)
theorem PI.mono {X:Cx} {tg e:Expr} {t t':TI} (h:PI X tg e t) (m:∀ σ H Q,t' σ H Q→t σ H Q):PI X tg e t':=fun pins s σ H Q I q=> h pins s σ H Q I (m σ H Q q)
def Yl (K:PySem.W.Frag) (J:It) (G:Hp) (xs:List U):Prop:=
 ∀ H2,ay G H2→(∀ i,i < xs.length→J.go i H2∧∀ x H3,J.yld i H2 x H3→H3=H2∧∃ u,xs[i]?=some u∧Rp K G x u)∧J.stop xs.length H2
def EvI (X:Cx) (H0:Hp) (O0:List Addr) (ps:PSt) (tg iter:Expr) (xs:List U):Prop:=
 PI X tg iter fun σ H R=> ∃ O,Rs X.K H0 O0 ps σ H O∧∀ J H',ay H H'→Yl X.K J (hid H' O) xs→R J H'
section
variable {X:Cx} {H0:Hp} {O0:List Addr} {E:XK} {ps ps':PSt} {D:PD} {s:Stmt} {ss body:List Stmt} {a b c e tg iter:Expr} {es:List Expr} {pos p:Pos} {u x y:U} {xs ys us:List U} {k:Bool}
theorem dG {i:Nat} {x:Str} (hN:X.N.Nodup) (hi:X.N[i]?=some x) (hx:Loc X.env.scope x) (hf:X.fn x=true∨X.env.scope.names.lookup x=some .local:=by first | exact .inl rfl | exact .inr rfl | assumption):TgS X H0 O0 (.Name x pos) ps u (ps.set i (some (.val u))):=
 PG.mono (fe hN hi hx hf) fun v σ H Q ⟨O,R,r,q⟩=> q _ H (.refl H) (R.set r)
theorem eH (he:Ev X H0 O0 ps iter x) (hx:x=.lst xs∨x=.scr xs):EvI X H0 O0 ps tg iter xs:=
 PI.mono (nN he) fun σ H Q ⟨O,R,q⟩=> ⟨O,R,fun v H' s r=> by
  have key:∃ a vs,v=.ref a∧SqL X.K (hid H' O) a vs∧Rps X.K (hid H' O) vs xs:=by
   rcases hx with rfl | rfl
   ·cases r with
    | lst hq hl hh=> exact ⟨_,_,rfl,SqL.of hq,hl,hh⟩
   ·cases r with
    | scr hq hl hh=> exact ⟨_,_,rfl,hq,hl,hh⟩
  obtain ⟨a,vs,rfl,hq,rs⟩:=key
  refine ⟨a,rfl,⟨vs,aD.seq hq⟩,q _ H' s fun H2 s2=> ⟨fun i hi=> ?_,⟨vs,s2.seq hq,by rw [rs.len]; exact Nat.le_refl _⟩⟩⟩
  have hi':i < vs.length:=by rw [rs.len]; exact hi
  refine ⟨⟨vs,vs[i],s2.seq hq,List.getElem?_eq_getElem hi'⟩,fun z H3 y=> ⟨y.1,xs[i],List.getElem?_eq_getElem hi,rs.at_ i z _ (y.2 vs (s2.seq hq)) (List.getElem?_eq_getElem hi)⟩⟩⟩
theorem q0 (he:Ev X H0 O0 ps iter (.tup xs)):EvI X H0 O0 ps tg iter xs:=
 PI.mono (qz he) fun σ H Q ⟨O,R,q⟩=> ⟨O,R,fun v H' s r=> by
  cases r with
  | @tup a vs _ hq hl hh=>
   have rs:Rps X.K (hid H' O) vs xs:=⟨hl,hh⟩
   refine ⟨a,rfl,⟨vs,aD.tup hq⟩,q _ H' s fun H2 s2=> ⟨fun i hi=> ?_,⟨vs,s2.tup hq,by rw [rs.len]; exact Nat.le_refl _⟩⟩⟩
   have hi':i < vs.length:=by rw [rs.len]; exact hi
   refine ⟨⟨vs,vs[i],s2.tup hq,List.getElem?_eq_getElem hi'⟩,fun z H3 y=> ⟨y.1,xs[i],List.getElem?_eq_getElem hi,rs.at_ i z _ (y.2 vs (s2.tup hq)) (List.getElem?_eq_getElem hi)⟩⟩⟩
def dt (lo:Int) (n:Nat):List U:=(List.range n).map fun (i:Nat)=> U.int (lo+(i:Int))
theorem be {lo:Int} {n:Nat}:(dt lo n).length=n:=by simp [dt]
theorem gg {lo:Int} {n i:Nat} (h:i < n):(dt lo n)[i]?=some (.int (lo+(i:Int))):=by
 unfold dt
 rw [List.getElem?_map,List.getElem?_range h]; rfl
theorem cT {lo:Int} {n i:Nat} {x:U} (h:(dt lo n)[i]?=some x):i < n∧x=.int (lo+(i:Int)):=by
 have hi:=aA h
 rw [be] at hi
 rw [gg hi] at h
 exact ⟨hi,(Option.some.inj h).symm⟩
theorem iP {K:PySem.W.Frag} {G:Hp} {lo:Int} {n:Nat}:Yl K (Itr lo n) G (dt lo n):=fun H2 s2=> by
 rw [be]
 refine ⟨fun i hi=> ⟨hi,fun z H3 y=> ⟨y.1,_,gg hi,?_⟩⟩,Nat.le_refl _⟩
 rw [y.2]; exact .int _
theorem iK {j:Int} (hg:Gl X "range") (hm:X.mg "range"=none) (ha:EvA X H0 O0 ps [a] [.int j]) (h1:-(2 ^ 62)≤j) (h2:j < 2 ^ 62) (hs:starEach [a] X.env=[(false,eval a X.env)]:=by rfl):EvI X H0 O0 ps tg (.Call (.Name "range" p) [a] [] pos) (dt 0 j.toNat):=
 PI.mono (kC hg hm ha hs) fun σ H Q ⟨O,R,q⟩=> ⟨O,R,fun vs H' s r=> by
  obtain ⟨v,rfl,h⟩:=e_ r
  cases h
  exact ⟨j,rfl,h1,h2,q _ H' s iP⟩⟩
theorem iR {i j:Int} (hg:Gl X "range") (hm:X.mg "range"=none) (ha:EvA X H0 O0 ps [a,b] [.int i,.int j]) (h:-(2 ^ 62)≤i∧i < 2 ^ 62∧-(2 ^ 62)≤j∧j < 2 ^ 62) (hs:starEach [a,b] X.env=[(false,eval a X.env),(false,eval b X.env)]:=by rfl) (hs2:starEach [b] X.env=[(false,eval b X.env)]:=by rfl):
  EvI X H0 O0 ps tg (.Call (.Name "range" p) [a,b] [] pos) (dt i (j - i).toNat):=
 PI.mono (kz hg hm ha hs hs2) fun σ H Q ⟨O,R,q⟩=> ⟨O,R,fun vs H' s r=> by
  obtain ⟨v,w,rfl,k1,k2⟩:=ff r
  cases k1; cases k2
  exact ⟨i,j,rfl,h,q _ H' s iP⟩⟩
theorem Rs.rebase {K:PySem.W.Frag} {σ:St} {H:Hp} {O:List Addr} (R:Rs K H0 O0 ps σ H O):Rs K (hid H (O.filter fun a=> decide (a ∉ O0))) O0 ps σ H O:=
 ⟨aD,R.old,fun a ha=> by
  by_cases h:a∈O0
  ·exact .inl h
  ·right; unfold hid; rw [if_pos (List.mem_filter.mpr ⟨ha,by simpa using h⟩)],R.dom,R.len,R.at_,R.inj⟩
theorem Rs.base {K:PySem.W.Frag} {σ:St} {H:Hp} {O:List Addr} (R:Rs K H0 O0 ps σ H O):ay H0 (hid H (O.filter fun a=> decide (a ∉ O0))):=fun b o h=> by
 refine cq (R.same b o h) fun z=> ?_
 obtain ⟨z1,z2⟩:=List.mem_filter.mp z
 rcases R.new b z1 with y | y
 ·simp [y] at z2
 ·rw [h] at y; cases y
theorem Rs.unbase {K:PySem.W.Frag} {H1:Hp} {σ:St} {H:Hp} {O:List Addr} (e:ay H0 H1) (R:Rs K H1 O0 ps σ H O):Rs K H0 O0 ps σ H O:=
 ⟨e.trans R.same,R.old,fun a ha=> (R.new a ha).imp id fun z=> e.free z,R.dom,R.len,R.at_,R.inj⟩
theorem Rs.seen {K:PySem.W.Frag} {ps2:PSt} {σ σ2:St} {H H2:Hp} {O O2:List Addr} (R:Rs K H0 O0 ps σ H O) (R2:Rs K (hid H (O.filter fun a=> decide (a ∉ O0))) O0 ps2 σ2 H2 O2):ay (hid H O) (hid H2 O2):=fun b o h=> by
 obtain ⟨h1,h2⟩:=d6 h
 have h3:hid H (O.filter fun a=> decide (a ∉ O0)) b=some o:=cq h1 fun z=> h2 (List.mem_filter.mp z).1
 refine cq (R2.same b o h3) fun z=> ?_
 rcases R2.new b z with y | y
 ·exact h2 (R.old b y)
 ·rw [h3] at y; cases y
theorem qQ (hc:X.calm=true) (hp:PassesOwn (model X.prog X.w) X.A X.env X.xe) (hi:EvI X H0 O0 ps tg iter xs) (Iv:Nat→PSt→Prop) (h0:Iv 0 ps)
  (hs:∀ (H0:Hp) (i:Nat) (x:U) (ps:PSt),xs[i]?=some x→Iv i ps→∃ ps',TgS X H0 O0 tg ps x ps'∧Ws X H0 O0 E body { D with nx:=Iv (i+1),ct:=Iv (i+1),bk:=D.nx } ps') (hd:∀ ps,Iv xs.length ps→D.nx ps)
  (hf:∀ x,foldedSetIterable iter X.env x=pure x:=by intro _; rfl):W1 X H0 O0 E (.For tg iter body [] pos) D ps:=by
 have hg:PG X tg fun v σ H Q=> ∃ H1 ps u ps',TgS X H1 O0 tg ps u ps'∧∃ O,Rs X.K H1 O0 ps σ H O∧Rp X.K (hid H O) v u∧∀ σ' H',ay H H'→Rs X.K H1 O0 ps' σ' H' O→Q σ' H':=
  fun pins s σ H v u Q I r ⟨H1,ps,w,ps',t,z⟩=> t pins s σ H v u Q I r z
 have hb:PSs X body fun D' σ H=> ∃ H1 D1 ps',Ws X H1 O0 E body D1 ps'∧Lf X.K H1 O0 E D1 D'∧∃ O,Rs X.K H1 O0 ps' σ H O:=fun pins s σ H D' I ⟨H1,D1,ps',w,z⟩=> w pins s σ H D' I z
 refine PS.mono (qB hp hc hi hg hb hf) fun D' σ H ⟨L,O,R⟩=> ⟨O,R,fun J H1 s1 Y=> ?_⟩
 have R1:=R.go s1
 have base:=R1.base
 refine ⟨fun i m σ H=> m=xs.length - i∧i≤xs.length∧∃ ps O',Iv i ps∧Rs X.K (hid H1 (O.filter fun a=> decide (a ∉ O0))) O0 ps σ H O',⟨_,rfl,Nat.zero_le _,ps,O,h0,R1.rebase⟩,?_⟩
 rintro i m σ2 H2 ⟨rfl,hi2,ps2,O2,iv,R2⟩
 have seen:=R1.seen R2
 obtain ⟨y1,y2⟩:=Y H2 (seen.trans aD)
 by_cases hlt:i < xs.length
 ·obtain ⟨g1,g2⟩:=y1 i hlt
  refine .inr ⟨g1,fun σ' H'=> ∃ ps O',Iv (i+1) ps∧Rs X.K (hid H1 (O.filter fun a=> decide (a ∉ O0))) O0 ps σ' H' O',fun σ' H' z=> ⟨xs.length - (i+1),by omega,rfl,hlt,z⟩,fun x H3 y=> ?_⟩
  obtain ⟨rfl,u,hu,r⟩:=g2 x H3 y
  obtain ⟨ps',t,w⟩:=hs (hid H1 (O.filter fun a=> decide (a ∉ O0))) i u ps2 hu iv
  refine ⟨_,ps2,u,ps',t,O2,R2,r.same seen,fun σ' H' s' R'=> ⟨_,_,ps',w,?_,O2,R'⟩⟩
  exact ⟨fun p σ H O R q=> ⟨p,O,q,R⟩,fun p σ H O R q=> L.nx _ _ _ _ (R.unbase base) q,fun p σ H O R q=> ⟨p,O,q,R⟩,fun o q=> (L.rt o q).later base⟩
 ·have e:i=xs.length:=by omega
  subst e
  exact .inl ⟨y2,L.nx _ _ _ _ (R2.unbase base) (hd ps2 iv)⟩
theorem nS (hp:PassesOwn (model X.prog X.w) X.A X.env X.xe) (Iv:Nat→PSt→Prop) (m:Nat) (h0:Iv m ps)
  (hs:∀ m ps,Iv m ps→∃ b,Tt X H0 O0 ps c b∧(b=true→Ws X H0 O0 E body { D with nx:=fun p=> ∃ m',m' < m∧Iv m' p,ct:=fun p=> ∃ m',m' < m∧Iv m' p,bk:=D.nx } ps)∧(b=false→D.nx ps)):W1 X H0 O0 E (.While c body [] pos) D ps:=by
 have ht:PT X c fun σ H Q=> ∃ ps b,Tt X H0 O0 ps c b∧∃ O,Rs X.K H0 O0 ps σ H O∧∀ H',ay H H'→Q b H':=fun pins s σ H Q I ⟨ps,b,t,z⟩=> t pins s σ H Q I z
 have hb:PSs X body fun D' σ H=> ∃ D1 ps',Ws X H0 O0 E body D1 ps'∧Lf X.K H0 O0 E D1 D'∧∃ O,Rs X.K H0 O0 ps' σ H O:=fun pins s σ H D' I ⟨D1,ps',w,z⟩=> w pins s σ H D' I z
 refine PS.mono (mY hp ht hb) fun D' σ H ⟨L,O,R⟩=> ⟨fun m σ H=> ∃ ps O,Iv m ps∧Rs X.K H0 O0 ps σ H O,⟨m,ps,O,h0,R⟩,?_⟩
 rintro m σ2 H2 ⟨ps2,O2,iv,R2⟩
 obtain ⟨b,t,h1,h2⟩:=hs m ps2 iv
 refine ⟨ps2,b,t,O2,R2,fun H3 s3=> ?_⟩
 cases b with
 | true=>
  refine lF ⟨fun σ H=> ∃ m',m' < m∧∃ ps O,Iv m' ps∧Rs X.K H0 O0 ps σ H O,fun σ' H' z=> z,_,ps2,h1 rfl,?_,O2,R2.go s3⟩
  exact ⟨fun p σ H O R ⟨m',l,q⟩=> ⟨m',l,p,O,q,R⟩,fun p σ H O R q=> L.nx _ _ _ _ R q,fun p σ H O R ⟨m',l,q⟩=> ⟨m',l,p,O,q,R⟩,L.rt⟩
 | false=> exact m5 (L.nx _ _ _ _ (R2.go s3) (h2 rfl))
def fC:List Nat→PSt→PSt
 | [],ps=> ps
 | i::is,ps=> fC is (ps.set i none)
theorem Rs.mask {K:PySem.W.Frag} {H:Hp} {O:List Addr}:∀ {is:List Nat} {ps:PSt} {σ:St},Rs K H0 O0 ps σ H O→Rs K H0 O0 (fC is ps) (L2.mask is σ) H O
 | [],ps,σ,R=> R
 | i::is,ps,σ,R=> Rs.mask (is:=is) (R.drop (i:=i) (o:=none))
theorem Rs.hide {K:PySem.W.Frag} {σ:St} {H H':Hp} {O:List Addr} {l:Addr} (R:Rs K H0 O0 ps σ H O) (e:ay H H') (n:H l=none) (d:H' l≠none):Rs K H0 O0 ps σ H' (l::O):=by
 refine ⟨R.same.trans e,fun a ha=> List.mem_cons_of_mem _ (R.old a ha),fun a ha=> ?_,fun a ha z=> ?_,R.len,fun i s h=> ?_,R.inj⟩
 ·rcases List.mem_cons.mp ha with y | y
  ·subst y; exact .inr (R.same.free n)
  ·exact R.new a y
 ·rcases List.mem_cons.mp ha with y | y
  ·subst y; exact d z
  ·exact R.dom a y (e.free z)
 ·obtain ⟨w,h1,h2⟩:=R.at_ i s h
  refine ⟨w,h1,?_⟩
  cases s with
  | val u=> exact Rp.same (bI e n) h2
  | own ys=>
   obtain ⟨b,ws,k1,k2,k3,k4,k5⟩:=h2
   exact ⟨b,ws,k1,List.mem_cons_of_mem _ k2,k3,e _ _ k4,k5.same (bI e n)⟩
def GOk (g:TG) (K:PySem.W.Frag) (is:List Nat) (f:PSt→U→PSt) (dom:U→Prop):Prop:=
 ∀ (H0:Hp) (O0:List Addr) (ps:PSt) (σ:St) (H:Hp) (O:List Addr) (v:V) (u:U) (Q:St→Hp→Prop),dom u→Rs K H0 O0 ps σ H O→Rp K (hid H O) v u→
  (∀ σ',Rs K H0 O0 (f ps u) σ' H O→(∀ (n:Nat) (w:V),n ∉ is→σ[n]?=some (some w)→σ'[n]?=some (some w))→Q σ' H)→g v σ H Q
theorem fQ {K:PySem.W.Frag} {is:List Nat} {i:Nat} (h:i∈is):GOk (kh i) K is (fun ps u=> ps.set i (some (.val u))) fun _=> True:=fun H0 O0 ps σ H O v u Q _ R r q=>
 q _ (R.set r) fun n w hn e=> by rw [List.getElem?_set_ne (fun z=> hn (by rw [← z]; exact h))]; exact e
theorem gG {is:List Nat} {g:TG} {f:PSt→U→PSt} {dom:U→Prop} {σ:St} {H1:Hp} {O:List Addr} {Q:VK} {J:It} {te:TE} (hg:GOk g X.K is f dom) (R1:Rs X.K H0 O0 ps σ H1 O) (Y:Yl X.K J (hid H1 O) xs) (hlen:ys.length=xs.length) (hz:xs.length≤sizeLine) (hdom:∀ x∈xs,dom x)
  (hte:∀ (i:Nat) (x y:U) (σ:St) (H:Hp) (O':List Addr) (Q:VK),xs[i]?=some x→ys[i]?=some y→Rs X.K H0 O0 (f (fC is ps) x) σ H O'→(∀ v H',ay H H'→Rp X.K (hid H' O') v y→Q v H')→te σ H Q)
  (fin:∀ a vs H',ay H1 H'→H1 a=none→H' a=some (.lst vs)→Rps X.K (hid H' (a::O)) vs ys→Q (.ref a) H'):oS is g te σ Q J H1:=by
 intro l hl
 refine ⟨fun i m H2=> m=xs.length - i∧i≤xs.length∧ay H1 H2∧∃ vs,H2 l=some (.lst vs)∧vs.length=i∧Rps X.K (hid H2 (l::O)) vs (ys.take i),⟨_,rfl,Nat.zero_le _,aM hl _,[],aS,rfl,by rw [List.take_zero]; exact .nil⟩,?_⟩
 rintro i m H2 ⟨rfl,hi,s2,vs,h2,hv,rs⟩
 have seen:ay (hid H1 O) (hid H2 (l::O)):=bI s2 hl
 obtain ⟨y1,y2⟩:=Y H2 (seen.trans aD)
 by_cases hlt:i < xs.length
 ·obtain ⟨g1,g2⟩:=y1 i hlt
  refine .inr ⟨g1,fun x H3 y=> ?_⟩
  obtain ⟨rfl,u,hu,r⟩:=g2 x H3 y
  have R2:=(R1.mask (is:=is)).hide s2 hl (by rw [h2]; intro z; cases z)
  refine hg H0 O0 _ _ H3 (l::O) x u _ (hdom u (List.mem_of_getElem? hu)) R2 (r.same seen) fun σ4 R4 keep=> ?_
  have hy:ys[i]?=some (ys[i]'(by omega)):=List.getElem?_eq_getElem _
  refine hte i u _ σ4 H3 (l::O) _ hu hy R4 fun v H5 s5 r5=> ⟨fun j w e=> keep j w (fK is σ j w e).2 e,vs,s5 _ _ h2,?_,xs.length - (i+1),by omega,rfl,hlt,(s2.trans s5).put hl _,vs++[v],aS,by simp [hv],?_⟩
  ·rw [hv]; omega
  ·rw [jR List.mem_cons_self,List.take_succ,hy]
   exact (rs.same (aZ s5)).snoc (.cons r5 .nil)
 ·have e:i=xs.length:=by omega
  subst e
  rw [← hlen,List.take_length] at rs
  exact .inl ⟨y2,fin l vs H2 s2 hl h2 rs⟩
theorem qC {elt:Expr} {scope:Scope} {cl:List (Str×Addr)} {is:List Nat} {g:TG} {f:PSt→U→PSt} {dom:U→Prop} (hc:X.calm=true) (B:cZ X scope cl is) (hi:EvI X H0 O0 ps tg iter xs) (hg:∀ C s H fp,PG (aN X scope cl C s H fp) tg g) (gk:GOk g X.K is f dom)
  (hlen:ys.length=xs.length) (hz:xs.length≤sizeLine) (hdom:∀ x∈xs,dom x) (he:∀ C s H fp (i:Nat) (x y:U),xs[i]?=some x→ys[i]?=some y→Ev (aN X scope cl C s H fp) H0 O0 (f (fC is ps) x) elt y)
  (hs:∀ x,foldedSetIterable iter X.env x=pure x:=by intro _; rfl):EvN X H0 O0 ps (.ListComp elt [⟨tg,iter,[],0⟩] scope pos) ys:=by
 have hte:∀ C s H fp,PE (aN X scope cl C s H fp) elt fun σ H Q=> ∃ i x y,xs[i]?=some x∧ys[i]?=some y∧∃ O',Rs X.K H0 O0 (f (fC is ps) x) σ H O'∧∀ v H',ay H H'→Rp X.K (hid H' O') v y→Q v H':=
  fun C s H fp pins s' σ H' Q I ⟨i,x,y,h1,h2,z⟩=> he C s H fp i x y h1 h2 pins s' σ H' Q I z
 refine PE.mono (oB hc B hi hg hte hs) fun σ H Q ⟨O,R,q⟩=> ⟨O,R,fun J H1 s1 Y=> ?_⟩
 exact gG gk (R.go s1) Y hlen hz hdom (fun i x y σ H O' Q h1 h2 R' z=> ⟨i,x,y,h1,h2,O',R',z⟩) fun a vs H' s n h r=> q a vs H' (s1.trans s) (s1.free n) h r
theorem gv {elt:Expr} {scope:Scope} {cl:List (Str×Addr)} {spos py:Pos} {y:Str} {j:Nat} {is:List Nat} {g:TG} {f:PSt→U→PSt} {dom:U→Prop} (own:Bool) (hc:X.calm=true) (hN:X.N.Nodup) (hj:X.N[j]?=some y) (hy:Loc X.env.scope y) (B:cZ X scope cl is)
  (hi:EvI X H0 O0 ps tg iter xs) (hg:∀ C s H fp,PG (aN X scope cl C s H fp) tg g) (gk:GOk g X.K is f dom) (hlen:ys.length=xs.length) (hz:xs.length≤sizeLine) (hdom:∀ x∈xs,dom x)
  (he:∀ C s H fp (i:Nat) (x y:U),xs[i]?=some x→ys[i]?=some y→Ev (aN X scope cl C s H fp) H0 O0 (f (fC is ps) x) elt y) (h:D.nx (ps.set j (some (if own then .own ys else .val (.lst ys)))))
  (hs:∀ x,foldedSetIterable iter X.env x=pure x:=by intro _; rfl)
  (hsw:swapsWith (.ListComp elt [⟨tg,iter,[],0⟩] scope pos) (some (.Name y py)) spos.line X.env=pure true:=by rfl) (hf:X.fn y=true∨X.env.scope.names.lookup y=some .local:=by first | exact .inl rfl | exact .inr rfl | assumption):
  W1 X H0 O0 E (.Assign [.Name y py] (.ListComp elt [⟨tg,iter,[],0⟩] scope pos) spos) D ps:=by
 have hte:∀ C s H fp,PE (aN X scope cl C s H fp) elt fun σ H Q=> ∃ i x y,xs[i]?=some x∧ys[i]?=some y∧∃ O',Rs X.K H0 O0 (f (fC is ps) x) σ H O'∧∀ v H',ay H H'→Rp X.K (hid H' O') v y→Q v H':=
  fun C s H fp pins s' σ H' Q I ⟨i,x,y,h1,h2,z⟩=> he C s H fp i x y h1 h2 pins s' σ H' Q I z
 refine PS.mono (jv hc hN hj hy B hi hg hte hs hsw hf) fun D' σ H ⟨L,O,R⟩=> ⟨O,R,fun J H1 s1 Y=> ?_⟩
 refine gG gk (R.go s1) Y hlen hz hdom (fun i x y σ H O' Q h1 h2 R' z=> ⟨i,x,y,h1,h2,O',R',z⟩) fun a vs H' s n h' r=> ?_
 cases own with
 | true=> exact L.nx _ _ _ _ ((R.go s1).own s n h' r) h
 | false=>
  have na:a ∉ O:=fun z=> (R.go s1).dom a z n
  have r':=r.same (bZ fun b hb=> List.mem_cons_of_mem a hb)
  exact L.nx _ _ _ _ (((R.go s1).go s).set (.lst (cq h' na) r'.len r'.at_)) h
end
end L2
namespace L2
open PySem PySem.Spec PyProof.Rows
def spU (K:PySem.W.Frag) (spec:List U→Out→Prop):Sp:=fun vs H Q E=> ∃ us O o,(∀ a∈O,H a≠none)∧Rps K (hid H O) vs us∧spec us o∧ik K H O Q E o
section
variable {X:Cx} {H0:Hp} {O0:List Addr} {E:XK} {ps ps':PSt} {D:PD} {s:Stmt} {ss body:List Stmt} {a b c e:Expr} {es:List Expr} {pos p:Pos} {u x y:U} {xs ys us:List U} {k:Bool}
 {CX:CXT} {n:Nat} {f C:Addr} {fd:FuncData} {pn:List Str} {spec:List U→Out→Prop} {nm:Str}
theorem bD (F:bF X.prog X.w X.K X.mg X.base CX n f fd pn (spU X.K spec)) (hr:cS n X.A) (hg:Gl X nm) (hm:X.mg nm=some (.ref f)) (hk:PySem.W.keepIn X.K (.ref f)=true) (hb:bo X.K fd pn []) (hx:eO CX X E0)
  (ha:EvA X H0 O0 ps (e::es) us) (h:spec us (.val u)) (hdb:(nm==("__debug__":Str))=false:=by decide) (he:starEach (e::es) X.env=(false,eval e X.env)::starEach es X.env:=by rfl) (hpl:(backTo pos (starEach es X.env)).any (·.1)=false:=by rfl):
  Ev X H0 O0 ps (.Call (.Name nm p) (e::es) [] pos) u:=
 PE.mono (gW F hr hg hm hk hb .nil hx ha hdb he hpl) fun σ H Q ⟨O,R,q⟩=> ⟨O,R,fun vs H1 s1 r1=> by
  show spU X.K spec (vs++[]) H1 Q _
  rw [List.append_nil]
  exact ⟨us,O,.val u,(R.go s1).dom,r1,h,fun v H2 s2 r2=> q v H2 (s1.trans s2) r2⟩⟩
theorem cr (F:bF X.prog X.w X.K X.mg X.base CX n f fd pn (spU X.K spec)) (hr:cS n X.A) (hg:Gl X nm) (hm:X.mg nm=some (.ref f)) (hk:PySem.W.keepIn X.K (.ref f)=true) (hb:bo X.K fd pn []) (hx:eO CX X E0)
  (ha:EvA X H0 O0 ps (e::es) us) (h:spec us (.new xs)) (hdb:(nm==("__debug__":Str))=false:=by decide) (he:starEach (e::es) X.env=(false,eval e X.env)::starEach es X.env:=by rfl) (hpl:(backTo pos (starEach es X.env)).any (·.1)=false:=by rfl):
  EvN X H0 O0 ps (.Call (.Name nm p) (e::es) [] pos) xs:=
 PE.mono (gW F hr hg hm hk hb .nil hx ha hdb he hpl) fun σ H Q ⟨O,R,q⟩=> ⟨O,R,fun vs H1 s1 r1=> by
  show spU X.K spec (vs++[]) H1 Q _
  rw [List.append_nil]
  exact ⟨us,O,.new xs,(R.go s1).dom,r1,h,fun a vs H2 s2 n2 h2 r2=> q a vs H2 (s1.trans s2) (s1.free n2) h2 r2⟩⟩
end
section
variable {P:Program} {w:World} {K:PySem.W.Frag} {mg:Str→Option Value} {base:Heap} {N pn:List Str} {qual nm:Str} {scope:Scope} {f:Addr} {cd:Value} {A:Around} {outer:List Env} {s:Shared} {H H0:Hp} {O0:List Addr} {E:XK} {D:PD} {ps:PSt} {u:U}
theorem nF {x:Str} {C:Addr} {e0:Expr} {np cpos pos:Pos} (hex:PySem.W.excIn K C [.type "ValueError",.type "Exception",.type "BaseException",.type "object"] "ValueError.__new__"=true)
  (hg:Gl (dc (CXF P w) P w K mg base N qual scope f cd A outer s H E) x) (hm:mg x=some (.ref C)) (he:Ev (dc (CXF P w) P w K mg base N qual scope f cd A outer s H E) H0 O0 ps e0 u) (h:D.rt (.exc C))
  (hst:starEach [e0] (dc (CXF P w) P w K mg base N qual scope f cd A outer s H E).env=[(false,eval e0 (dc (CXF P w) P w K mg base N qual scope f cd A outer s H E).env)]:=by rfl) (hd:(x==("__debug__":Str))=false:=by decide):
  W1 (dc (CXF P w) P w K mg base N qual scope f cd A outer s H E) H0 O0 E (.Raise (some (.Call (.Name x np) [e0] [] cpos)) none pos) D ps:=
 PS.mono (mR hex hg hm he hst hd) fun D' σ H ⟨L,O,R⟩=> ⟨O,R,fun v H' s r=> L.rt _ h H' (R.same.trans s)⟩
def g0 (N:List Str) (us:List U):PSt:=us.map (fun u=> some (.val u))++List.replicate (N.length - us.length) none
theorem ck {st:Stmt} {fd:FuncData} {k:Nat} {spec:List U→Out→Prop} (F:Fun K nm qual st f fd) (S:aO N pn (aj st)) (len:∀ us o,spec us o→us.length=pn.length)
  (hbody:∀ (cdv:Value) (A:Around) (outer:List Env) (s:Shared) (H:Hp) (E:XK) (O:List Addr) (us:List U) (o:Out),cS k (A.deeper (envOfC qual (aj st) s.heap.objs.size f cdv))→spec us o→
   Ws (dc (CXF P w) P w K mg base N qual (aj st) f cdv A outer s H E) H O E (aB st) ⟨fun _=> o=.val .non,fun o'=> o'=o,fun _=> False,fun _=> False⟩ (g0 N us)):bF P w K mg base (CXF P w) (k+1) f fd pn (spU K spec):=by
 refine F.okF S (fun vs H Q E h=> ?_) fun cdv A outer s H vs Q E hr h=> ?_
 ·obtain ⟨us,O,o,_,r,hsp,_⟩:=h
  rw [r.len]; exact len us o hsp
 ·obtain ⟨us,O,o,d,r,hsp,q⟩:=h
  refine ⟨_,hbody cdv A outer s H E O us o hr hsp,⟨fun ps σ H' O' R e=> ?_,fun _ _ _ _ _ e=> e.elim,fun _ _ _ _ _ e=> e.elim,fun o' e=> by subst e; exact q⟩,O,?_⟩
  ·subst e; exact q .non H' R.same .non
  ·refine ⟨.refl H,fun a h=> h,fun a h=> .inl h,d,?_,fun i sl e=> ?_,fun i j xs ys a e1 e2 _ _=> ?_⟩
   ·unfold start g0
    rw [List.length_append,List.length_append,List.length_map,List.length_map,List.length_replicate,List.length_replicate,r.len]
   ·unfold g0 at e
    by_cases hi:i < us.length
    ·rw [List.getElem?_append_left (by simpa using hi),List.getElem?_map,List.getElem?_eq_getElem hi] at e
     cases e
     obtain ⟨v,h1,h2⟩:=r.get (List.getElem?_eq_getElem hi)
     refine ⟨v,?_,h2⟩
     unfold start
     rw [List.getElem?_append_left (by simpa [r.len] using hi),List.getElem?_map,h1]; rfl
    ·rw [List.getElem?_append_right (by simpa using hi),List.getElem?_replicate] at e
     split at e <;> cases e
   ·exfalso
    unfold g0 at e1
    by_cases hi:i < us.length
    ·rw [List.getElem?_append_left (by simpa using hi),List.getElem?_map,List.getElem?_eq_getElem hi] at e1
     cases e1
    ·rw [List.getElem?_append_right (by simpa using hi),List.getElem?_replicate] at e1
     split at e1 <;> cases e1
end
section
variable {X:Cx} {H0:Hp} {O0:List Addr} {ps:PSt} {a b c e:Expr} {es rest:List Expr} {pos p p2:Pos} {u x y:U} {xs ys us:List U} {i j:Int} {k m:Bool} {lo hi:Option Expr} {l h:Option Int}
def EvO (X:Cx) (H0:Hp) (O0:List Addr) (ps:PSt) (e:Option Expr) (n:Option Int):Prop:=PO X e fun σ H Q=> ∃ O,Rs X.K H0 O0 ps σ H O∧∀ H',ay H H'→Q n H'
theorem bg:EvO X H0 O0 ps none none:=fun pins s σ H Q I ⟨O,R,q⟩=> oI pins s σ H Q I (q H (.refl H))
theorem aV (he:Ev X H0 O0 ps e (.int i)):EvO X H0 O0 ps (some e) (some i):=fun pins s σ H Q I ⟨O,R,q⟩=> nH he pins s σ H Q I ⟨O,R,fun v H' s r=> by cases r; exact ⟨i,rfl,q H' s⟩⟩
def cG (xs:List U) (lo hi:Option Int):List U:=(xs.drop (HT.sIx xs.length 0 lo)).take (HT.sIx xs.length xs.length hi - HT.sIx xs.length 0 lo)
theorem Rps.drop {K:PySem.W.Frag} {H:Hp} {vs:List V} {xs:List U} (r:Rps K H vs xs) (n:Nat):Rps K H (vs.drop n) (xs.drop n):=⟨by simp [r.len],fun i v x h1 h2=> r.at_ _ v x (by rwa [List.getElem?_drop] at h1) (by rwa [List.getElem?_drop] at h2)⟩
theorem Rps.take {K:PySem.W.Frag} {H:Hp} {vs:List V} {xs:List U} (r:Rps K H vs xs) (n:Nat):Rps K H (vs.take n) (xs.take n):=⟨by simp [r.len],fun i v x h1 h2=> by
 by_cases hn:i < n
 ·rw [List.getElem?_take_of_lt hn] at h1 h2
  exact r.at_ i v x h1 h2
 ·rw [List.getElem?_take_eq_none (by omega)] at h1
  cases h1⟩
theorem Rps.cut {K:PySem.W.Frag} {H:Hp} {vs:List V} {xs:List U} (r:Rps K H vs xs):Rps K H (kX vs l h) (cG xs l h):=by
 unfold kX cG
 rw [r.len]
 exact (r.drop _).take _
theorem aI (he:Ev X H0 O0 ps e x) (hl:EvO X H0 O0 ps lo l) (hh:EvO X H0 O0 ps hi h) (hx:x=.lst xs∨x=.scr xs):EvN X H0 O0 ps (.Subscript e (.Slice lo hi none p2) pos) (cG xs l h):=
 PE.mono (lM oa he hl hh) fun σ H Q ⟨O,R,q⟩=> ⟨O,R,fun v H1 s1 r1=> ⟨O,R.go s1,fun H2 s2=> ⟨O,R.go (s1.trans s2),fun H3 s3=> by
  have key:∃ a vs,v=.ref a∧SqL X.K (hid H1 O) a vs∧Rps X.K (hid H1 O) vs xs:=by
   rcases hx with rfl | rfl
   ·cases r1 with
    | lst hq hl hh=> exact ⟨_,_,rfl,SqL.of hq,hl,hh⟩
   ·cases r1 with
    | scr hq hl hh=> exact ⟨_,_,rfl,hq,hl,hh⟩
  obtain ⟨a,vs,rfl,hq,rs⟩:=key
  have s13:=s2.trans s3
  refine ⟨a,vs,rfl,s13.seq (aD.seq hq),fun p hp=> q p _ _ ((s1.trans s13).trans (aM hp _)) ((s1.trans s13).free hp) aS ?_⟩
  exact (rs.cut.same (aZ s13)).same (bI (aM hp _) hp)⟩⟩⟩
theorem cm (ha:Ev X H0 O0 ps a (.lst xs)) (hb:Ev X H0 O0 ps b (.lst ys)) (hz:xs.length+ys.length≤sizeLine):EvN X H0 O0 ps (.BinOp a .Add b pos) (xs++ys):=
 PE.mono (mj qk ha hb) fun σ H Q ⟨O,R,q⟩=> two R (fun _ _ _ z=> z) (fun _ _ _ z=> z) fun v w H' s _ r1 r2=> by
  cases r1 with
  | lst hq hl hh=>
   cases r2 with
   | lst hq' hl' hh'=>
    refine ⟨_,_,_,_,rfl,rfl,aD _ _ hq,aD _ _ hq',by rw [hl,hl']; exact hz,fun p hp=> q p _ _ (s.trans (aM hp _)) (s.free hp) aS ?_⟩
    exact (Rps.snoc ⟨hl,hh⟩ ⟨hl',hh'⟩).same (bI (aM hp _) hp)
def fl:U→V
 | .bl b=> .bl b | .int i=> .int i | .str x=> .str x | _=> .non
end
end L2
namespace L2
open PySem PySem.Spec PyProof.Rows
section
variable {X:Cx} {pins:List (Addr×Obj)} {σ:St} {H:Hp} {s:Shared}
end
section
variable {X:Cx} {H0:Hp} {O0:List Addr} {E:XK} {ps ps':PSt} {D:PD} {tg iter cond:Expr} {pos p:Pos} {xs:List U} {fs:List (Option U)}
end
end L2
namespace L2
open PySem PySem.Spec PyProof.Rows
inductive pH:List (Option Expr)→List Expr→Prop where
 | nil:pH [] []
 | cons {k v:Int} {a b:Nat} {p q:Pos} {ks:List (Option Expr)} {vs:List Expr} (h:pH ks vs):pH (some (.Constant (.int k) a p)::ks) (.Constant (.int v) b q::vs)
section
variable {X:Cx} {H0:Hp} {O0:List Addr} {ps:PSt} {pos:Pos} {keys:List (Option Expr)} {values:List Expr} {k m:Bool}
end
end L2
namespace L2
open PySem PySem.Spec PyProof.Rows
theorem Ws.nox {X:Cx} {H0:Hp} {O0:List Addr} {E:XK} {ss:List Stmt} {D:PD} {ps:PSt} (h:Ws X.nox H0 O0 E ss D ps):Ws X H0 O0 E ss D ps:=PSs.nox h
theorem bF.calm {P:Program} {w:World} {K:PySem.W.Frag} {mg:Str→Option Value} {base:Heap} {k:Nat} {f:Addr} {fd:FuncData} {ps:List Str} {sp:Sp} (F:bF P w K mg base (CXF P w) k f fd ps sp) (h:∀ vs H Q E,sp vs H Q E→sp vs H Q E0):bF P w K mg base CX0 k f fd ps sp:=by
 refine ⟨F.len,fun A outer s H args us vs Q E hr he hb hv hs=> codeAny_mono (F.run A outer s H args us vs Q E0 hr he hb hv (h _ _ _ _ hs)) fun r s' q=> ?_⟩
 cases r with
 | ok fl=>
  cases fl with
  | ret u=> exact q
  | next=> exact q
  | brk=> exact q
  | cont=> exact q
 | error e=>
  obtain ⟨_,_,_,_,_,_,_,_,_,_,_,_,_,_,_,hE⟩:=q
  exact hE.elim
def eE:List U→Out→Prop:=fun us o=> ∃ ns:List Int,us=[.scr (ns.map U.int)]∧ns.length≤63∧(∀ m∈ns,Sz 1048576 m)∧o=.val (.bl true)
theorem mX {K:PySem.W.Frag} (vs:List V) (H:Hp) (Q:VK) (E:XK) (h:spU K eE vs H Q E):spU K eE vs H Q E0:=by
 obtain ⟨us,O,o,d,r,⟨ns,h1,h2,h3,rfl⟩,q⟩:=h
 exact ⟨us,O,_,d,r,⟨ns,h1,h2,h3,rfl⟩,q⟩
theorem kO {K:PySem.W.Frag} {H:Hp} {a:Addr} {ns:List Int} {E:XK} (h1:ns.length≤63) (h2:∀ m∈ns,Sz 1048576 m) (h3:SqL K H a (ns.map V.int)):spU K eE [.ref a] H (fun v _=> v=.bl true) E:=by
 refine ⟨[.scr (ns.map U.int)],[],.val (.bl true),fun a ha=> (nomatch ha),.cons ?_ .nil,⟨ns,rfl,h1,h2,rfl⟩,fun v H' s r=> by cases r; rfl⟩
 have e:hid H []=H:=by funext b; unfold hid; rw [if_neg (by simp)]
 rw [e]
 refine .scr h3 (by simp) fun i v x e1 e2=> ?_
 rw [List.getElem?_map] at e1 e2
 cases q:ns[i]? with
 | none=> rw [q] at e1; cases e1
 | some n=> rw [q] at e1 e2; cases e1; cases e2; exact .int n
theorem fM {k:Nat} {A:Around} (hr:cS k A):A.units+10 < cLine:=by have:=hr.un; omega
theorem l_ {ns:List Int} {k:Int} (h0:0≤k) (h:k < (ns.length:Int)):atI (ns.map U.int) k=some (.int (ns.getD k.toNat 0)):=by
 have hk:k.toNat < ns.length:=by omega
 have q:atI (ns.map U.int) ((k.toNat:Nat):Int)=some (.int (ns.getD k.toNat 0)):=jF (by rw [List.getElem?_map,List.getD_eq_getElem?_getD,List.getElem?_eq_getElem hk] <;> rfl)
 rwa [show ((k.toNat:Nat):Int)=k by omega] at q
theorem oG {ns:List Int} (h:∀ m∈ns,Sz 1048576 m) (i:Nat):Sz 1048576 (ns.getD i 0):=by
 by_cases hk:i < ns.length
 ·rw [List.getD_eq_getElem?_getD,List.getElem?_eq_getElem hk,Option.getD_some]; exact h _ (List.getElem_mem hk)
 ·rw [List.getD_eq_getElem?_getD,List.getElem?_eq_none (by omega),Option.getD_none]; exact Sz.mono (m:=8) (by decide) (by decide)
abbrev pt (x y:Int):U:=.tup [.int x,.int y]
theorem dTb {p:Prop} [Decidable p] (h:decide p=true):p:=of_decide_eq_true h
theorem dFb {p:Prop} [Decidable p] (h:decide p=false):¬ p:=of_decide_eq_false h
theorem vB {a b:Bool} (h:a=b):Out.val (.bl a)=Out.val (.bl b):=by rw [h]
theorem vIO {a b:Int} (h:a=b):Out.val (.int a)=Out.val (.int b):=by rw [h]
mutual
theorem ly:∀ (n:Nat) (u:U),okU n u=true→eqW u u=true
 | _,.non,_=> rfl
 | _,.bl b,_=> by simp [eqW]
 | _,.int b,_=> by simp [eqW]
 | _,.str b,_=> by simp [eqW]
 | _,.ty _,h=> by simp [okU] at h
 | _,.dic,h=> by simp [okU] at h
 | 0,.tup _,h=> by simp [okU] at h
 | 0,.lst _,h=> by simp [okU] at h
 | 0,.scr _,h=> by simp [okU] at h
 | n+1,.tup xs,h=> by rw [eqW]; rw [okU] at h; exact eqWs_refl n xs h
 | n+1,.lst xs,h=> by rw [eqW]; rw [okU] at h; exact eqWs_refl n xs h
 | n+1,.scr xs,h=> by rw [eqW]; rw [okU] at h; exact eqWs_refl n xs h
theorem eqWs_refl:∀ (n:Nat) (xs:List U),okUs n xs=true→eqWs xs xs=true
 | _,[],_=> rfl
 | n,x::xs,h=> by
  simp only [okUs,Bool.and_eq_true] at h
  simp only [eqWs,Bool.and_eq_true]
  exact ⟨ly n x h.1,eqWs_refl n xs h.2⟩
end
theorem mE {α:Type} {n:Nat} {f:α→U} {l:List α} (h:∀ a∈l,okU n (f a)=true):okUs n (l.map f)=true:=by
 induction l with
 | nil=> rfl
 | cons a l ih=>
  rw [List.map_cons,okUs,Bool.and_eq_true]
  exact ⟨h a List.mem_cons_self,ih fun b hb=> h b (List.mem_cons_of_mem _ hb)⟩
theorem nq {α:Type} {n:Nat} {f:α→U} {l:List α} (h:∀ a,okU n (f a)=true):okU (n+1) (.lst (l.map f))=true:=by rw [okU]; exact mE fun a _=> h a
theorem iG {α:Type} {f:α→U} {p:α→α→Prop} [DecidableEq α] (hf:∀ a b,eqW (f a) (f b)=decide (a=b)):∀ (l m:List α),eqWs (l.map f) (m.map f)=decide (l=m)
 | [],[]=> rfl
 | [],_::_=> rfl
 | _::_,[]=> rfl
 | a::l,b::m=> by
  rw [List.map_cons,List.map_cons,eqWs,hf,iG (p:=p) hf l m,Bool.eq_iff_iff]
  simp
end L2
namespace L2
open PySem PySem.Spec PyProof.Rows
section
variable {X:Cx} {H0:Hp} {O0:List Addr} {E:XK} {ps:PSt} {D:PD} {a b c e:Expr} {rest:List Expr} {pos:Pos} {k:Bool}
theorem i5 {tb fb:List Stmt} (hc:Tt X H0 O0 ps c k) (hk:k=true) (h:Ws X H0 O0 E tb D ps):W1 X H0 O0 E (.If c tb fb pos) D ps:=eN hc (fun _=> h) (fun e=> by rw [hk] at e; cases e)
theorem dB {tb fb:List Stmt} (hc:Tt X H0 O0 ps c k) (hk:k=false) (h:Ws X H0 O0 E fb D ps):W1 X H0 O0 E (.If c tb fb pos) D ps:=eN hc (fun e=> by rw [hk] at e; cases e) (fun _=> h)
theorem hV (ha:Tt X H0 O0 ps a k) (hk:k=false):Tw X H0 O0 ps (.BoolOp .And (a::b::rest) pos) false:=by
 subst hk
 exact ka (m:=true) ha fun h=> by cases h
theorem qF (ha:Ev X H0 O0 ps a (.bl k)) (hk:k=false):Ev X H0 O0 ps (.BoolOp .And (a::b::rest) pos) (.bl false):=by
 subst hk
 exact kc (m:=true) ha fun h=> by cases h
end
end L2
namespace L2
open PySem PySem.Spec PyProof.Rows
section
variable {X:Cx} {H0:Hp} {O0:List Addr} {E:XK} {ps:PSt} {D:PD} {body:List Stmt} {tg iter c:Expr} {pos:Pos} {xs:List U} {α:Type}
theorem TgS.sub {p p':PSt} {u:U} {ps':PSt} (h:TgS X H0 O0 tg p u ps') (hs:SubP p p'):TgS X H0 O0 tg p' u ps':=PG.mono h fun v σ H Q ⟨O,R,r,q⟩=> ⟨O,R.sub hs,r,q⟩
theorem Tt.sub {p p':PSt} {e:Expr} {k:Bool} (h:Tt X H0 O0 p e k) (hs:SubP p p'):Tt X H0 O0 p' e k:=PT.mono h fun σ H Q ⟨O,R,q⟩=> ⟨O,R.sub hs,q⟩
theorem du (st:α→PSt) (Q:Nat→α→Prop) (hc:X.calm=true) (hp:PassesOwn (model X.prog X.w) X.A X.env X.xe) (hi:EvI X H0 O0 ps tg iter xs) (h0:∃ a,Q 0 a∧SubP (st a) ps)
  (hs:∀ (H0:Hp) (i:Nat) (x:U) (a:α),xs[i]?=some x→Q i a→∃ ps',TgS X H0 O0 tg (st a) x ps'∧Ws X H0 O0 E body { D with nx:=fun p=> ∃ b,Q (i+1) b∧SubP (st b) p,ct:=fun p=> ∃ b,Q (i+1) b∧SubP (st b) p,bk:=D.nx } ps')
  (hd:∀ a ps,Q xs.length a→SubP (st a) ps→D.nx ps) (hf:∀ x,foldedSetIterable iter X.env x=pure x:=by intro _; rfl):W1 X H0 O0 E (.For tg iter body [] pos) D ps:=
 qQ hc hp hi (fun i ps=> ∃ a,Q i a∧SubP (st a) ps) h0 (fun H0 i x ps hx ⟨a,q,sb⟩=> by
  obtain ⟨ps',t,w⟩:=hs H0 i x a hx q
  exact ⟨ps',t.sub sb,w⟩) (fun ps ⟨a,q,sb⟩=> hd a ps q sb) hf
theorem iB (st:α→PSt) (Q:Nat→α→Prop) (hp:PassesOwn (model X.prog X.w) X.A X.env X.xe) (h0:∃ m a,Q m a∧SubP (st a) ps)
  (hs:∀ m a,Q m a→∃ b,Tt X H0 O0 (st a) c b∧(b=true→Ws X H0 O0 E body { D with nx:=fun p=> ∃ m' a',m' < m∧Q m' a'∧SubP (st a') p,ct:=fun p=> ∃ m' a',m' < m∧Q m' a'∧SubP (st a') p,bk:=D.nx } (st a))∧(b=false→∀ ps,SubP (st a) ps→D.nx ps)):W1 X H0 O0 E (.While c body [] pos) D ps:=by
 obtain ⟨m,a,q,sb⟩:=h0
 refine nS hp (fun m ps=> ∃ a,Q m a∧SubP (st a) ps) m ⟨a,q,sb⟩ fun m ps ⟨a,q,sb⟩=> ?_
 obtain ⟨b,t,h1,h2⟩:=hs m a q
 refine ⟨b,t.sub sb,fun e=> ?_,fun e=> h2 e ps sb⟩
 refine bT (PSs.mono (h1 e) fun D' σ H ⟨L,O,R⟩=> ⟨⟨fun p σ H O R ⟨m',a',l,q',sb'⟩=> L.nx p σ H O R ⟨m',l,a',q',sb'⟩,L.bk,fun p σ H O R ⟨m',a',l,q',sb'⟩=> L.ct p σ H O R ⟨m',l,a',q',sb'⟩,L.rt⟩,O,R⟩) sb
end
abbrev P2:=Int×Int
abbrev pu (p:P2):U:=.tup [.int p.1,.int p.2]
abbrev lp (l:List P2):U:=.lst (l.map pu)
theorem qb (p q:P2):eqW (pu p) (pu q)=decide (p=q):=by
 obtain ⟨a,b⟩:=p
 obtain ⟨c,d⟩:=q
 simp only [pu,eqW,eqWs,Bool.and_true]
 rw [Bool.eq_iff_iff]; simp
theorem eJ (l m:List P2):eqW (lp l) (lp m)=decide (l=m):=by rw [lp,lp,eqW]; exact iG (p:=fun _ _=> True) qb l m
theorem dl (l:List P2):okU 9 (lp l)=true:=nq fun _=> rfl
theorem nh {l:List P2} {i:Nat} {x:U} (h:(l.map pu)[i]?=some x):∃ p,l[i]?=some p∧p∈l∧x=pu p:=by
 rw [List.getElem?_map] at h
 cases q:l[i]? with
 | none=> rw [q] at h; cases h
 | some p=> rw [q] at h; cases h; exact ⟨p,rfl,List.mem_of_getElem? q,rfl⟩
end L2
namespace L2
open PySem PySem.Spec PyProof.Rows
theorem W1.mono {X:Cx} {H0:Hp} {O0:List Addr} {E:XK} {s:Stmt} {D:PD} {J:PSt→Prop} {ps:PSt} (h:W1 X H0 O0 E s { D with nx:=J } ps) (m:∀ ps,J ps→D.nx ps):W1 X H0 O0 E s D ps:=
 PS.mono h fun D' σ H ⟨L,O,R⟩=> ⟨⟨fun p σ H O R q=> L.nx p σ H O R (m p q),L.bk,L.ct,L.rt⟩,O,R⟩
theorem b_ {X:Cx} {H0:Hp} {O0:List Addr} {E:XK} {s:Stmt} {ss:List Stmt} {D:PD} {ps:PSt} (J:PSt→Prop) (h1:W1 X H0 O0 E s { D with nx:=J } ps) (h2:∀ ps,J ps→Ws X H0 O0 E ss D ps):Ws X H0 O0 E (s::ss) D ps:=
 af (W1.mono (J:=J) (D:={ D with nx:=fun p=> Ws X H0 O0 E ss D p }) h1 h2)
end L2
namespace PySem.W
open PySem PySem.Spec PySem.Calls PyProof.Rows
end PySem.W
namespace L2
open PySem PySem.Spec PySem.W PyProof.Rows
section
variable {X:Cx} {pins:List (Addr×Obj)} {σ:St} {H:Hp} {s:Shared}
end
section
variable {X:Cx}
def gZ.drop (D:gZ) (i:Nat):gZ:=⟨fun σ H=> D.nx (σ.set i none) H,D.rt,fun σ H=> D.bk (σ.set i none) H,fun σ H=> D.ct (σ.set i none) H⟩
end
section
variable {X:Cx} {H0:Hp} {O0:List Addr} {E:XK} {ps:PSt} {D:PD} {a e:Expr} {es:List Expr} {us:List U} {k:Bool} {n:Nat} {fd:FuncData} {pn:List Str} {spec:List U→Out→Prop}
def PD.drop (D:PD) (i:Nat):PD:=⟨fun p=> D.nx (p.set i none),D.rt,fun p=> D.bk (p.set i none),fun p=> D.ct (p.set i none)⟩
end
section
variable {X:Cx} {H0:Hp} {O0:List Addr} {ps:PSt} {pos:Pos}
end
end L2
namespace L2
open PySem
theorem bC {c:Const} {j:Nat} {pos:Pos} {es:List Expr} {env:Env}:starEach (.Constant c j pos::es) env=(false,eval (.Constant c j pos) env)::starEach es env:=by rw [starEach]; intro e p h; cases h
theorem p9 {l:List Expr} {pos:Pos} {es:List Expr} {env:Env}:starEach (.List l pos::es) env=(false,eval (.List l pos) env)::starEach es env:=by rw [starEach]; intro e p h; cases h
theorem bV {a b:Expr} {o:Operator} {pos:Pos} {es:List Expr} {env:Env}:starEach (.BinOp a o b pos::es) env=(false,eval (.BinOp a o b pos) env)::starEach es env:=by rw [starEach]; intro e p h; cases h
theorem ai {x:Str} {pos:Pos} {es:List Expr} {env:Env}:starEach (.Name x pos::es) env=(false,eval (.Name x pos) env)::starEach es env:=by rw [starEach]; intro e p h; cases h
theorem d9 {a b:Expr} {pos:Pos} {es:List Expr} {env:Env}:starEach (.Subscript a b pos::es) env=(false,eval (.Subscript a b pos) env)::starEach es env:=by rw [starEach]; intro e p h; cases h
theorem cM {f:Expr} {a:List Expr} {k:List Keyword} {pos:Pos} {es:List Expr} {env:Env}:starEach (.Call f a k pos::es) env=(false,eval (.Call f a k pos) env)::starEach es env:=by rw [starEach]; intro e p h; cases h
theorem pq {a:Expr} {o:List CmpOp} {c:List Expr} {pos:Pos} {es:List Expr} {env:Env}:starEach (.Compare a o c pos::es) env=(false,eval (.Compare a o c pos) env)::starEach es env:=by rw [starEach]; intro e p h; cases h
structure EvS (X:Cx) (H0:Hp) (O0:List Addr) (ps:PSt) (es:List Expr) (us:List U):Prop where
 a:EvA X H0 O0 ps es us
section
variable {X:Cx} {H0:Hp} {O0:List Addr} {ps:PSt} {e:Expr} {es:List Expr} {u:U} {us:List U} {pos:Pos}
theorem cD:EvS X H0 O0 ps [] []:=⟨ao⟩
theorem bh (ha:Ev X H0 O0 ps e u) (hr:EvS X H0 O0 ps es us) (hs:starEach (e::es) X.env=(false,eval e X.env)::starEach es X.env):EvS X H0 O0 ps (e::es) (u::us):=⟨ah ha hr.a hs⟩
theorem gP {x1} (h:EvS X H0 O0 ps es us) (hz:us.length≤sizeLine:=by first | decide | (simp only [List.length_cons,List.length_nil]; decide)):Ev X H0 O0 ps (.Tuple es x1 pos) (.tup us):=rg h.a hz
theorem cH (h:EvS X H0 O0 ps es us) (hz:us.length≤sizeLine:=by first | decide | (simp only [List.length_cons,List.length_nil]; decide)):EvN X H0 O0 ps (.List es pos) us:=rb h.a hz
end
end L2
namespace ST
open PySem PySem.SetTable
def Ris (xs:Array Nat):Prop:=∀ (i j x y:Nat),i < j→xs[i]?=some x→xs[j]?=some y→x < y
theorem Ris.inj {xs:Array Nat} (h:Ris xs) {i j x:Nat} (h1:xs[i]?=some x) (h2:xs[j]?=some x):i=j:=by
 rcases Nat.lt_trichotomy i j with z | z | z
 ·exact absurd (h i j x x z h1 h2) (Nat.lt_irrefl _)
 ·exact z
 ·exact absurd (h j i x x z h2 h1) (Nat.lt_irrefl _)
theorem cA {xs:Array Nat} {i:Nat} (h:i < xs.size):xs[i]?=some xs[i]:=by simp [h]
theorem j9 {xs:Array Nat} {i x:Nat} (h:xs[i]?=some x):i < xs.size:=(Array.getElem?_eq_some_iff.mp h).1
theorem hJ {xs:Array Nat} (R:Ris xs) (j:Nat):∀ (fuel lo hi:Nat),lo≤hi→hi≤xs.size→hi - lo≤fuel→(∀ (i x:Nat),i < lo→xs[i]?=some x→x < j)→(∀ (i x:Nat),hi≤i→xs[i]?=some x→j≤x)→
  (∀ (i x:Nat),i < below.go xs j fuel lo hi→xs[i]?=some x→x < j)∧(∀ (i x:Nat),below.go xs j fuel lo hi≤i→xs[i]?=some x→j≤x)∧below.go xs j fuel lo hi≤xs.size
 | 0,lo,hi,h1,h2,h3,h4,h5=> by
  have e:lo=hi:=by omega
  subst e
  rw [below.go]
  exact ⟨h4,h5,h2⟩
 | fuel+1,lo,hi,h1,h2,h3,h4,h5=> by
  rw [below.go]
  by_cases hlt:lo < hi
  ·rw [if_pos hlt]
   have hm:(lo+hi) / 2 < xs.size:=by omega
   have e:xs.getD ((lo+hi) / 2) j=xs[(lo+hi) / 2]:=by simp [Array.getD,hm]
   simp only [e]
   split
   ·rename_i hl
    refine hJ R j fuel _ hi (by omega) h2 (by omega) (fun i x hi' hx=> ?_) h5
    rcases Nat.lt_or_eq_of_le (show i≤(lo+hi) / 2 by omega) with z | z
    ·exact Nat.lt_trans (R i _ x _ z hx (cA hm)) hl
    ·subst z; rw [cA hm] at hx; cases hx; exact hl
   ·rename_i hl
    refine hJ R j fuel lo _ (by omega) (by omega) (by omega) h4 (fun i x hi' hx=> ?_)
    rcases Nat.lt_or_eq_of_le hi' with z | z
    ·exact Nat.le_trans (Nat.le_of_not_lt hl) (Nat.le_of_lt (R _ i _ x z (cA hm) hx))
    ·subst z; rw [cA hm] at hx; cases hx; exact Nat.le_of_not_lt hl
  ·rw [if_neg hlt]
   have e:lo=hi:=by omega
   subst e
   exact ⟨h4,h5,h2⟩
theorem cV {xs:Array Nat} (R:Ris xs) (j:Nat):(∀ (i x:Nat),i < below xs j→xs[i]?=some x→x < j)∧(∀ (i x:Nat),below xs j≤i→xs[i]?=some x→j≤x)∧below xs j≤xs.size:=
 hJ R j xs.size 0 xs.size (Nat.zero_le _) (Nat.le_refl _) (by omega) (fun i x h=> absurd h (Nat.not_lt_zero _)) (fun i x h e=> absurd (j9 e) (by omega))
theorem mK {xs:Array Nat} (R:Ris xs) {i j:Nat} (h:xs[i]?=some j):below xs j=i:=by
 obtain ⟨h1,h2,h3⟩:=cV R j
 rcases Nat.lt_trichotomy (below xs j) i with z | z | z
 ·have hk:below xs j < xs.size:=Nat.lt_trans z (j9 h)
  have:=h2 _ _ (Nat.le_refl _) (cA hk)
  have:=R _ _ _ _ z (cA hk) h
  omega
 ·exact z
 ·have:=h1 i j z h
  omega
theorem gB {t:SetTable} (R:Ris t.place) {i j:Nat} (h:t.place[i]?=some j):t.slot j=.live i:=by
 unfold SetTable.slot
 simp only [mK R h,h,beq_self_eq_true,if_true]
theorem kt {t:SetTable} (hd:t.dummies=#[]) {j:Nat} (h:∀ i:Nat,t.place[i]?≠some j):t.slot j=.empty:=by
 unfold SetTable.slot
 have e:(t.place[below t.place j]?==some j)=false:=by simpa using h _
 simp only [e,hd]
 simp [SetTable.has]
theorem jb {t:SetTable} (R:Ris t.place) (hd:t.dummies=#[]) (j:Nat):(t.slot j=.empty∧∀ i:Nat,t.place[i]?≠some j)∨∃ i:Nat,t.slot j=.live i∧t.place[i]?=some j:=by
 by_cases h:∃ i:Nat,t.place[i]?=some j
 ·obtain ⟨i,hi⟩:=h
  exact .inr ⟨i,gB R hi,hi⟩
 ·exact .inl ⟨kt hd fun i e=> h ⟨i,e⟩,fun i e=> h ⟨i,e⟩⟩
theorem kZ {xs:Array Nat} (R:Ris xs) {mask:Nat} (hn:xs.size≤mask):∃ s,s≤mask∧∀ i:Nat,xs[i]?≠some s:=by
 apply Classical.byContradiction
 intro hno
 have all:∀ s,s≤mask→∃ i:Nat,xs[i]?=some s:=fun s hs=> by
  apply Classical.byContradiction
  intro h
  exact hno ⟨s,hs,fun i e=> h ⟨i,e⟩⟩
 have key:∀ s,s≤mask→∃ i:Nat,xs[i]?=some s∧s≤i:=by
  intro s
  induction s with
  | zero=> intro h; obtain ⟨i,hi⟩:=all 0 h; exact ⟨i,hi,Nat.zero_le _⟩
  | succ s ih=>
   intro h
   obtain ⟨i,hi,hle⟩:=ih (by omega)
   obtain ⟨k,hk⟩:=all (s+1) h
   refine ⟨k,hk,?_⟩
   rcases Nat.lt_trichotomy i k with z | z | z
   ·omega
   ·subst z; rw [hi] at hk; cases hk
   ·have:=R k i _ _ z hk hi; omega
 obtain ⟨i,hi,hle⟩:=key mask (Nat.le_refl _)
 have:=j9 hi
 omega
def adv (mask:Nat) (p:Probe):Probe:=
 if p.more > 0 then { p with j:=p.j+1,more:=p.more - 1 } else
 { p with j:=(leap mask p.i p.perturb).1,more:=runEnd mask (leap mask p.i p.perturb).1 - (leap mask p.i p.perturb).1,i:=(leap mask p.i p.perturb).1,perturb:=(leap mask p.i p.perturb).2 }
theorem fu (t:SetTable) (p:Probe):t.advance p=adv t.mask p:=by
 unfold SetTable.advance adv
 split
 ·rfl
 ·rfl
def start (mask:Nat) (h:Int):Probe:={ j:=bits h % (mask+1),more:=runEnd mask (bits h % (mask+1)) - bits h % (mask+1),i:=bits h % (mask+1),perturb:=bits h,dummy:=none }
def pth (mask:Nat) (h:Int):Nat→Probe
 | 0=> start mask h
 | n+1=> adv mask (pth mask h n)
def aw (mask:Nat) (h:Int):Nat→Nat×Nat
 | 0=> (bits h % (mask+1),bits h)
 | r+1=> leap mask (aw mask h r).1 (aw mask h r).2
theorem e9 {mask:Nat}:∀ (m:Nat) (p:Probe) (f:Nat→Probe),f 0=p→(∀ n,f (n+1)=adv mask (f n))→m≤p.more→f m={ p with j:=p.j+m,more:=p.more - m }
 | 0,p,f,h0,_,_=> by rw [h0]; rfl
 | m+1,p,f,h0,hs,hm=> by
  rw [hs m,e9 m p f h0 hs (by omega)]
  unfold adv
  rw [if_pos (by show p.more - m > 0; omega)]
  simp only [Probe.mk.injEq]
  exact ⟨by omega,by omega,trivial,trivial,trivial⟩
theorem fm (mask:Nat) (h:Int):∀ n,(pth mask h n).dummy=none
 | 0=> rfl
 | n+1=> by
  rw [pth]; unfold adv
  split
  ·exact fm mask h n
  ·exact fm mask h n
theorem lf (mask i:Nat):runEnd mask i - i≤9:=by unfold runEnd; split <;> omega
theorem j7 (mask:Nat) (h:Int):∀ r,∃ n,n≤10 * r∧pth mask h n={ j:=(aw mask h r).1,more:=runEnd mask (aw mask h r).1 - (aw mask h r).1,i:=(aw mask h r).1,perturb:=(aw mask h r).2,dummy:=none }
 | 0=> ⟨0,Nat.le_refl _,rfl⟩
 | r+1=> by
  obtain ⟨n,hn,e⟩:=j7 mask h r
  have hL:=lf mask (aw mask h r).1
  have step:=e9 (mask:=mask) (runEnd mask (aw mask h r).1 - (aw mask h r).1) (pth mask h n) (fun m=> pth mask h (n+m)) rfl (fun m=> rfl) (by rw [e]; exact Nat.le_refl _)
  refine ⟨n+(runEnd mask (aw mask h r).1 - (aw mask h r).1)+1,by omega,?_⟩
  rw [pth]
  have step':pth mask h (n+(runEnd mask (aw mask h r).1 - (aw mask h r).1))=_:=step
  rw [step',e]
  unfold adv
  rw [if_neg (by simp)]
  rfl
theorem nV (h:Int):bits h < 2 ^ 64:=by
 unfold bits
 have h1:=Int.emod_nonneg h (show (2 ^ 64:Int)≠0 by decide)
 have h2:=Int.emod_lt_of_pos h (show (0:Int) < 2 ^ 64 by decide)
 omega
theorem gI (mask:Nat) (h:Int):∀ r,(aw mask h r).2=bits h / 32 ^ r
 | 0=> by simp [aw]
 | r+1=> by
  rw [aw]
  show (aw mask h r).2 / 32=_
  rw [gI mask h r,Nat.div_div_eq_div_mul,Nat.pow_succ]
theorem kG (mask:Nat) (h:Int) (r:Nat) (hr:12≤r):(aw mask h r).2 / 32=0:=by
 rw [gI]
 have h1:=nV h
 rw [Nat.div_div_eq_div_mul]
 apply Nat.div_eq_of_lt
 have:32 ^ 12 * 32≤32 ^ r * 32:=Nat.mul_le_mul_right _ (Nat.pow_le_pow_right (by decide) hr)
 exact Nat.lt_of_lt_of_le (Nat.lt_of_lt_of_le h1 (by decide)) this
def cK:Nat→Nat
 | 0=> 1
 | k+1=> cK k * (4 * cK k+2)
theorem lP:∀ k,∃ m,cK k=2 ^ k * (2 * m+1)
 | 0=> ⟨0,by simp [cK]⟩
 | k+1=> by
  obtain ⟨m,e⟩:=lP k
  refine ⟨2 * (cK k) * m+m+cK k,?_⟩
  rw [cK,Nat.pow_succ]
  have:cK k * (4 * cK k+2)=2 ^ k * (2 * m+1) * (4 * cK k+2):=by rw [← e]
  rw [this]
  generalize cK k=c
  generalize 2 ^ k=p
  grind
def dR:Nat→Nat→Nat
 | 0,x=> x
 | n+1,x=> 5 * dR n x+1
theorem fV (m x:Nat):∀ n,dR (m+n) x=dR n (dR m x)
 | 0=> rfl
 | n+1=> by rw [← Nat.add_assoc,dR,fV m x n,dR]
theorem fP:∀ (k x:Nat),dR (2 ^ k) x=(1+4 * cK k) * x+cK k
 | 0,x=> by simp [dR,cK]
 | k+1,x=> by
  rw [Nat.pow_succ,Nat.mul_two,fV,fP k,fP k,cK]
  generalize cK k=c
  grind
theorem jB (k x:Nat):dR (2 ^ k) x % 2 ^ (k+1)=(x+2 ^ k) % 2 ^ (k+1):=by
 rw [fP]
 obtain ⟨m,e⟩:=lP k
 rw [e]
 have:(1+4 * (2 ^ k * (2 * m+1))) * x+2 ^ k * (2 * m+1)=(x+2 ^ k)+2 ^ (k+1) * (2 * (2 * m+1) * x+m):=by
  rw [Nat.pow_succ]
  generalize 2 ^ k=p
  grind
 rw [this,Nat.add_mul_mod_self_left]
theorem d7 (x:Nat):∀ (k y:Nat),∃ n,n < 2 ^ k∧dR n x % 2 ^ k=y % 2 ^ k
 | 0,y=> ⟨0,by simp,by simp [Nat.mod_one]⟩
 | k+1,y=> by
  obtain ⟨n,hn,e⟩:=d7 x k y
  have hp:2 ^ (k+1)=2 ^ k+2 ^ k:=by rw [Nat.pow_succ]; omega
  have h2:0 < 2 ^ k:=Nat.pow_pos (by decide)
  by_cases h:dR n x % 2 ^ (k+1)=y % 2 ^ (k+1)
  ·exact ⟨n,by omega,h⟩
  ·refine ⟨n+2 ^ k,by omega,?_⟩
   rw [fV,jB]
   generalize dR n x=z at *
   have d1:z % 2 ^ (k+1) % 2 ^ k=z % 2 ^ k:=Nat.mod_mod_of_dvd _ ⟨2,by rw [Nat.pow_succ]⟩
   have d2:y % 2 ^ (k+1) % 2 ^ k=y % 2 ^ k:=Nat.mod_mod_of_dvd _ ⟨2,by rw [Nat.pow_succ]⟩
   have l1:=Nat.mod_lt z (show 0 < 2 ^ (k+1) by omega)
   have l2:=Nat.mod_lt y (show 0 < 2 ^ (k+1) by omega)
   rw [← Nat.mod_add_mod]
   rw [← d1,← d2] at e
   generalize z % 2 ^ (k+1)=a at *
   generalize y % 2 ^ (k+1)=b at *
   rw [hp] at *
   generalize 2 ^ k=p at *
   have ea:a % p=if a < p then a else a - p:=by
    split
    ·exact Nat.mod_eq_of_lt (by assumption)
    ·rw [Nat.mod_eq_sub_mod (by omega),Nat.mod_eq_of_lt (by omega)]
   have eb:b % p=if b < p then b else b - p:=by
    split
    ·exact Nat.mod_eq_of_lt (by assumption)
    ·rw [Nat.mod_eq_sub_mod (by omega),Nat.mod_eq_of_lt (by omega)]
   rw [ea,eb] at e
   by_cases ha:a < p
   ·rw [if_pos ha] at e
    rw [Nat.mod_eq_of_lt (by omega)]
    split at e <;> omega
   ·rw [if_neg ha] at e
    rw [Nat.mod_eq_sub_mod (by omega),Nat.mod_eq_of_lt (by omega)]
    split at e <;> omega
theorem fN {mask k:Nat} (hk:mask+1=2 ^ k) (h:Int):∀ q,(aw mask h (12+q)).1=dR q (aw mask h 12).1 % 2 ^ k
 | 0=> by
  rw [dR]
  have:(aw mask h 12).1 < 2 ^ k:=by
   rw [← hk]
   show (leap mask (aw mask h 11).1 (aw mask h 11).2).1 < _
   exact Nat.mod_lt _ (by omega)
  exact (Nat.mod_eq_of_lt this).symm
 | q+1=> by
  show (leap mask (aw mask h (12+q)).1 (aw mask h (12+q)).2).1=_
  unfold leap
  simp only [kG mask h (12+q) (by omega)]
  rw [fN hk h q,hk,dR,Nat.add_zero,Nat.mul_comm 5 _]
  generalize dR q (aw mask h 12).1=z
  generalize 2 ^ k=m
  rw [Nat.add_mod,Nat.mod_mul_mod,← Nat.add_mod]
theorem cover {mask k:Nat} (hk:mask+1=2 ^ k) (h:Int) (s:Nat) (hs:s≤mask):∃ n,n < 10 * turns mask∧(pth mask h n).j=s:=by
 obtain ⟨q,hq,e⟩:=d7 (aw mask h 12).1 k s
 obtain ⟨n,hn,en⟩:=j7 mask h (12+q)
 refine ⟨n,?_,?_⟩
 ·unfold turns; omega
 ·rw [en]
  show (aw mask h (12+q)).1=s
  rw [fN hk h q,e]
  exact Nat.mod_eq_of_lt (by omega)
end ST
namespace ST
open PySem PySem.SetTable
def Liv (t:SetTable) (j:Nat):Prop:=∃ i:Nat,t.place[i]?=some j
structure TOk (t:SetTable) (hs:List Int):Prop where
 R:Ris t.place
 d:t.dummies=#[]
 k:∃ k,3≤k∧t.mask+1=2 ^ k
 n:t.place.size=hs.length
 f:t.place.size≤t.mask
 le:∀ (i x:Nat),t.place[i]?=some x→x≤t.mask
 reach:∀ (i j:Nat) (h:Int),t.place[i]?=some j→hs[i]?=some h→∃ m,(pth t.mask h m).j=j∧∀ m',m' < m→Liv t (pth t.mask h m').j
theorem least {P:Nat→Prop}:∀ n,P n→∃ m,m≤n∧P m∧∀ k,k < m→¬ P k:=by
 intro n
 induction n using Nat.strongRecOn with
 | _ n ih=>
  intro h
  by_cases hk:∃ k,k < n∧P k
  ·obtain ⟨k,hk,hp⟩:=hk
   obtain ⟨m,h1,h2,h3⟩:=ih k hk hp
   exact ⟨m,by omega,h2,h3⟩
  ·exact ⟨n,Nat.le_refl _,h,fun k hk' hp=> hk ⟨k,hk',hp⟩⟩
theorem jw {t:SetTable} {hs:List Int} (T:TOk t hs) (h:Int):∃ N,N < 10 * turns t.mask∧¬ Liv t (pth t.mask h N).j∧∀ m,m < N→Liv t (pth t.mask h m).j:=by
 obtain ⟨s,hs1,hs2⟩:=kZ T.R T.f
 obtain ⟨k,_,hk⟩:=T.k
 obtain ⟨n,hn,e⟩:=cover hk h s hs1
 obtain ⟨m,h1,h2,h3⟩:=least (P:=fun n=> ¬ Liv t (pth t.mask h n).j) n (by show ¬ Liv t (pth t.mask h n).j; rw [e]; rintro ⟨i,hi⟩; exact hs2 i hi)
 exact ⟨m,by omega,h2,fun k hk'=> Classical.byContradiction fun z=> h3 k hk' z⟩
theorem iw {t:SetTable} {hs:List Int} (T:TOk t hs) (hashAt:Nat→Int) (h:Int) {N:Nat} (h0:¬ Liv t (pth t.mask h N).j) (h1:∀ m,m < N→Liv t (pth t.mask h m).j):∀ (fuel n:Nat),n≤N→N - n < fuel→
  (probe.go t hashAt h fuel (pth t.mask h n)=some (.empty (pth t.mask h N).j none)∧∀ (m i:Nat),n≤m→m < N→t.place[i]?=some (pth t.mask h m).j→hashAt i≠h)∨
  ∃ m i:Nat,n≤m∧m < N∧t.place[i]?=some (pth t.mask h m).j∧hashAt i=h∧probe.go t hashAt h fuel (pth t.mask h n)=some (.candidate (pth t.mask h m).j i (pth t.mask h (m+1)))∧
   ∀ (m' i':Nat),n≤m'→m' < m→t.place[i']?=some (pth t.mask h m').j→hashAt i'≠h
 | 0,n,_,hf=> by omega
 | fuel+1,n,hn,hf=> by
  rw [probe.go]
  rcases jb T.R T.d (pth t.mask h n).j with ⟨e,hno⟩ | ⟨i,e,hi⟩
  ·have hN:n=N:=by
    rcases Nat.lt_or_eq_of_le hn with z | z
    ·obtain ⟨i,hi⟩:=h1 n z; exact absurd hi (hno i)
    ·exact z
   subst hN
   refine .inl ⟨by simp only [e,fm],fun m i z1 z2=> by omega⟩
  ·have hN:n < N:=by
    rcases Nat.lt_or_eq_of_le hn with z | z
    ·exact z
    ·subst z; exact absurd ⟨i,hi⟩ h0
   simp only [e]
   by_cases hh:hashAt i=h
   ·refine .inr ⟨n,i,Nat.le_refl _,hN,hi,hh,?_,fun m' i' z1 z2=> by omega⟩
    simp only [hh,beq_self_eq_true,if_true,fu]
    rfl
   ·have hb:(hashAt i==h)=false:=by simpa using hh
    simp only [hb,Bool.false_eq_true,if_false,fu]
    have ih:=iw T hashAt h h0 h1 fuel (n+1) (by omega) (by omega)
    rcases ih with ⟨q1,q2⟩ | ⟨m,i2,q1,q2,q3,q4,q5,q6⟩
    ·refine .inl ⟨q1,fun m i' z1 z2 z3=> ?_⟩
     rcases Nat.lt_or_eq_of_le z1 with z | z
     ·exact q2 m i' z z2 z3
     ·subst z
      rw [T.R.inj z3 hi]; exact hh
    ·refine .inr ⟨m,i2,by omega,q2,q3,q4,q5,fun m' i' z1 z2 z3=> ?_⟩
     rcases Nat.lt_or_eq_of_le z1 with z | z
     ·exact q6 m' i' z z2 z3
     ·subst z
      rw [T.R.inj z3 hi]; exact hh
theorem lK {t:SetTable} {hs:List Int} (T:TOk t hs) {h:Int} {N i:Nat} (h0:¬ Liv t (pth t.mask h N).j) (hi:hs[i]?=some h):∃ (m j:Nat),m < N∧t.place[i]?=some j∧(pth t.mask h m).j=j:=by
 have hlt:i < t.place.size:=by rw [T.n]; exact (List.getElem?_eq_some_iff.mp hi).1
 obtain ⟨m,e,hm⟩:=T.reach i _ h (cA hlt) hi
 refine ⟨m,_,?_,cA hlt,e⟩
 rcases Nat.lt_trichotomy m N with z | z | z
 ·exact z
 ·subst z; exact absurd ⟨i,by rw [e]; exact cA hlt⟩ h0
 ·exact absurd (hm N z) h0
theorem cL {α:Type} (xs:Array α) (p:Nat) (x:α):(insertAt xs p x).toList=xs.toList.take p++x::xs.toList.drop p:=by
 unfold insertAt
 simp [Array.toList_extract]
 exact List.take_of_length_le (by simp)
theorem br {α:Type} {xs:Array α} {p:Nat} {x:α} (hp:p≤xs.size) (i:Nat):(insertAt xs p x)[i]?=if i < p then xs[i]? else if i=p then some x else xs[i - 1]?:=by
 rw [← Array.getElem?_toList,cL]
 have hl:(xs.toList.take p).length=p:=by simp; omega
 by_cases h1:i < p
 ·rw [if_pos h1,List.getElem?_append_left (by omega),List.getElem?_take_of_lt h1,Array.getElem?_toList]
 ·rw [if_neg h1,List.getElem?_append_right (by omega),hl]
  by_cases h2:i=p
  ·subst h2; simp
  ·rw [if_neg h2]
   obtain ⟨q,hq⟩:∃ q,i - p=q+1:=⟨i - p - 1,by omega⟩
   rw [hq,List.getElem?_cons_succ,List.getElem?_drop,Array.getElem?_toList]
   congr 1; omega
theorem dU {α:Type} (xs:Array α) (p:Nat) (x:α) (hp:p≤xs.size):(insertAt xs p x).size=xs.size+1:=by
 rw [← Array.length_toList,cL]; simp; omega
def dQ {α:Type} (xs:List α) (p:Nat) (x:α):List α:=xs.take p++x::xs.drop p
theorem ml {α:Type} {xs:List α} {p:Nat} {x:α} (hp:p≤xs.length) (i:Nat):(dQ xs p x)[i]?=if i < p then xs[i]? else if i=p then some x else xs[i - 1]?:=by
 unfold dQ
 have hl:(xs.take p).length=p:=by simp; omega
 by_cases h1:i < p
 ·rw [if_pos h1,List.getElem?_append_left (by omega),List.getElem?_take_of_lt h1]
 ·rw [if_neg h1,List.getElem?_append_right (by omega),hl]
  by_cases h2:i=p
  ·subst h2; simp
  ·rw [if_neg h2]
   obtain ⟨q,hq⟩:∃ q,i - p=q+1:=⟨i - p - 1,by omega⟩
   rw [hq,List.getElem?_cons_succ,List.getElem?_drop]
   congr 1; omega
theorem n6 {xs:Array Nat} (R:Ris xs) {j:Nat} (hno:∀ i:Nat,xs[i]?≠some j):Ris (insertAt xs (below xs j) j):=by
 obtain ⟨h1,h2,h3⟩:=cV R j
 have gt:∀ (i x:Nat),below xs j≤i→xs[i]?=some x→j < x:=fun i x hi hx=> by
  rcases Nat.lt_or_eq_of_le (h2 i x hi hx) with z | z
  ·exact z
  ·subst z; exact absurd hx (hno i)
 intro a b x y hab hx hy
 rw [br h3] at hx hy
 by_cases a1:a < below xs j
 ·rw [if_pos a1] at hx
  by_cases b1:b < below xs j
  ·rw [if_pos b1] at hy; exact R a b x y hab hx hy
  ·rw [if_neg b1] at hy
   by_cases b2:b=below xs j
   ·rw [if_pos b2] at hy; cases hy; exact h1 a x a1 hx
   ·rw [if_neg b2] at hy; exact R a (b - 1) x y (by omega) hx hy
 ·rw [if_neg a1] at hx
  have b1:¬ b < below xs j:=by omega
  rw [if_neg b1] at hy
  have b2:¬ b=below xs j:=by omega
  rw [if_neg b2] at hy
  by_cases a2:a=below xs j
  ·rw [if_pos a2] at hx; cases hx; exact gt (b - 1) y (by omega) hy
  ·rw [if_neg a2] at hx; exact R (a - 1) (b - 1) x y (by omega) hx hy
theorem jL {xs:Array Nat} {p j:Nat} (hp:p≤xs.size) (s:Nat):(∃ i:Nat,(insertAt xs p j)[i]?=some s)↔s=j∨∃ i:Nat,xs[i]?=some s:=by
 constructor
 ·rintro ⟨i,hi⟩
  rw [br hp] at hi
  split at hi
  ·exact .inr ⟨i,hi⟩
  ·split at hi
   ·cases hi; exact .inl rfl
   ·exact .inr ⟨i - 1,hi⟩
 ·rintro (rfl | ⟨i,hi⟩)
  ·exact ⟨p,by rw [br hp,if_neg (Nat.lt_irrefl _),if_pos rfl]⟩
  ·by_cases h:i < p
   ·exact ⟨i,by rw [br hp,if_pos h]; exact hi⟩
   ·exact ⟨i+1,by rw [br hp,if_neg (by omega),if_neg (by omega)]; simpa using hi⟩
theorem TOk.put {t:SetTable} {hs:List Int} (T:TOk t hs) {h:Int} {N:Nat} (h0:¬ Liv t (pth t.mask h N).j) (h1:∀ m,m < N→Liv t (pth t.mask h m).j) (hle:(pth t.mask h N).j≤t.mask) (hf:t.place.size+1≤t.mask):
  TOk (t.put (pth t.mask h N).j).1 (dQ hs (t.put (pth t.mask h N).j).2 h):=by
 have hno:∀ i:Nat,t.place[i]?≠some (pth t.mask h N).j:=fun i e=> h0 ⟨i,e⟩
 obtain ⟨_,_,hb⟩:=cV T.R (pth t.mask h N).j
 have hbl:below t.place (pth t.mask h N).j≤hs.length:=by rw [← T.n]; exact hb
 have ed:(if SetTable.has t.dummies (pth t.mask h N).j then eraseAt t.dummies (below t.dummies (pth t.mask h N).j) else t.dummies)=#[]:=by
  rw [T.d]; simp [SetTable.has]
 unfold SetTable.put
 simp only [ed]
 refine ⟨n6 T.R hno,rfl,T.k,?_,?_,fun i x e=> ?_,fun i j hh e1 e2=> ?_⟩
 ·show (insertAt _ _ _).size=(dQ hs _ h).length
  rw [dU _ _ _ hb,T.n]; unfold dQ; simp; omega
 ·show (insertAt _ _ _).size≤t.mask
  rw [dU _ _ _ hb]; exact hf
 ·rcases (jL hb x).mp ⟨i,e⟩ with z | ⟨q,hq⟩
  ·rw [z]; exact hle
  ·exact T.le q x hq
 ·have liv:∀ s,Liv t s→Liv { t with place:=insertAt t.place (below t.place (pth t.mask h N).j) (pth t.mask h N).j,dummies:=#[] } s:=fun s z=> (jL hb s).mpr (.inr z)
  change (insertAt t.place _ _)[i]?=some j at e1
  rw [br hb] at e1
  rw [ml hbl] at e2
  split at e1
  ·rename_i z
   rw [if_pos z] at e2
   obtain ⟨m,q1,q2⟩:=T.reach i j hh e1 e2
   exact ⟨m,q1,fun m' hm=> liv _ (q2 m' hm)⟩
  ·rename_i z
   rw [if_neg z] at e2
   split at e1
   ·rename_i z2
    rw [if_pos z2] at e2
    cases e1; cases e2
    exact ⟨N,rfl,fun m' hm=> liv _ (h1 m' hm)⟩
   ·rename_i z2
    rw [if_neg z2] at e2
    obtain ⟨m,q1,q2⟩:=T.reach (i - 1) j hh e1 e2
    exact ⟨m,q1,fun m' hm=> liv _ (q2 m' hm)⟩
theorem mZ {mask:Nat} (h:Int):∀ n,(pth mask h n).j+(pth mask h n).more≤mask
 | 0=> by
  show bits h % (mask+1)+(runEnd mask (bits h % (mask+1)) - bits h % (mask+1))≤mask
  have:=Nat.mod_lt (bits h) (show 0 < mask+1 by omega)
  unfold runEnd; split <;> omega
 | n+1=> by
  have ih:=mZ (mask:=mask) h n
  rw [pth]; unfold adv
  split
  ·simp only; omega
  ·show (leap mask _ _).1+(runEnd mask (leap mask _ _).1 - (leap mask _ _).1)≤mask
   have:(leap mask (pth mask h n).i (pth mask h n).perturb).1 < mask+1:=Nat.mod_lt _ (by omega)
   unfold runEnd; split <;> omega
end ST
namespace ST
open PySem PySem.SetTable
def OL (owner:Array (Option Nat)) (j:Nat):Prop:=∃ k:Nat,owner[j]?=some (some k)
def nr (mask:Nat) (h:Int):Nat→Nat
 | 0=> 0
 | r+1=> nr mask h r+(runEnd mask (aw mask h r).1 - (aw mask h r).1)+1
theorem o9 (mask:Nat) (h:Int):∀ r,pth mask h (nr mask h r)={ j:=(aw mask h r).1,more:=runEnd mask (aw mask h r).1 - (aw mask h r).1,i:=(aw mask h r).1,perturb:=(aw mask h r).2,dummy:=none }
 | 0=> rfl
 | r+1=> by
  have e:=o9 mask h r
  have step:=e9 (mask:=mask) (runEnd mask (aw mask h r).1 - (aw mask h r).1) (pth mask h (nr mask h r)) (fun m=> pth mask h (nr mask h r+m)) rfl (fun m=> rfl) (by rw [e]; exact Nat.le_refl _)
  have step':pth mask h (nr mask h r+(runEnd mask (aw mask h r).1 - (aw mask h r).1))=_:=step
  rw [nr,pth,step',e]
  unfold adv
  rw [if_neg (by simp)]
  rfl
theorem jz (mask:Nat) (h:Int) (r k:Nat) (hk:k≤runEnd mask (aw mask h r).1 - (aw mask h r).1):(pth mask h (nr mask h r+k)).j=(aw mask h r).1+k:=by
 have e:=o9 mask h r
 have step:=e9 (mask:=mask) k (pth mask h (nr mask h r)) (fun m=> pth mask h (nr mask h r+m)) rfl (fun m=> rfl) (by rw [e]; exact hk)
 have step':pth mask h (nr mask h r+k)=_:=step
 rw [step',e]
theorem kB (mask i:Nat):i≤runEnd mask i:=by unfold runEnd; split <;> omega
theorem nJ (mask:Nat) (h:Int):∀ r,(aw mask h r).1≤mask
 | 0=> Nat.le_of_lt_succ (Nat.mod_lt _ (by omega))
 | r+1=> Nat.le_of_lt_succ (Nat.mod_lt _ (by omega))
theorem iT {mask i:Nat} (h:i≤mask):runEnd mask i≤mask:=by unfold runEnd; split <;> omega
theorem j4 {mask:Nat} {owner:Array (Option Nat)} (hsz:owner.size=mask+1) (h:Int):∀ (fuel r:Nat),(∃ r',r≤r'∧r' < r+fuel∧owner[(aw mask h r').1]?=some none)→(∀ m,m < nr mask h r→OL owner (pth mask h m).j)→
  ∃ N,layClean.free mask owner fuel (aw mask h r).1 (aw mask h r).2=some (pth mask h N).j∧owner[(pth mask h N).j]?=some none∧∀ m,m < N→OL owner (pth mask h m).j
 | 0,r,⟨r',h1,h2,_⟩,_=> by omega
 | fuel+1,r,hex,hl=> by
  rw [layClean.free]
  have hge:=kB mask (aw mask h r).1
  have hmk:=iT (nJ mask h r)
  have hin:∀ k,k < runEnd mask (aw mask h r).1+1 - (aw mask h r).1→(aw mask h r).1+k < owner.size:=fun k hk=> by omega
  cases hf:(List.range (runEnd mask (aw mask h r).1+1 - (aw mask h r).1)).find? fun k=> (owner.getD ((aw mask h r).1+k) (some 0)).isNone with
  | some k=>
   obtain ⟨p1,p2,p3⟩:=List.find?_range_eq_some.mp hf
   have hk:=List.mem_range.mp p2
   have hlt:=hin k hk
   have e1:owner[(aw mask h r).1+k]?=some none:=by
    have:owner.getD ((aw mask h r).1+k) (some 0)=owner[(aw mask h r).1+k]:=by simp [Array.getD,hlt]
    rw [this] at p1
    have:owner[(aw mask h r).1+k]=none:=by simpa using p1
    simp [hlt,this]
   have ej:=jz mask h r k (by omega)
   refine ⟨nr mask h r+k,by simp only [ej],by rw [ej]; exact e1,fun m hm=> ?_⟩
   by_cases hm1:m < nr mask h r
   ·exact hl m hm1
   ·obtain ⟨q,rfl⟩:∃ q,m=nr mask h r+q:=⟨m - nr mask h r,by omega⟩
    have hq:=p3 q (by omega)
    have hlt2:=hin q (by omega)
    rw [jz mask h r q (by omega)]
    have:owner.getD ((aw mask h r).1+q) (some 0)=owner[(aw mask h r).1+q]:=by simp [Array.getD,hlt2]
    rw [this] at hq
    cases hv:owner[(aw mask h r).1+q] with
    | none=> rw [hv] at hq; simp at hq
    | some v=> exact ⟨v,by simp [hlt2,hv]⟩
  | none=>
   have hall:∀ q,q < runEnd mask (aw mask h r).1+1 - (aw mask h r).1→OL owner ((aw mask h r).1+q):=fun q hq=> by
    have:=List.find?_eq_none.mp hf q (List.mem_range.mpr hq)
    have hlt2:=hin q hq
    have e:owner.getD ((aw mask h r).1+q) (some 0)=owner[(aw mask h r).1+q]:=by simp [Array.getD,hlt2]
    rw [e] at this
    cases hv:owner[(aw mask h r).1+q] with
    | none=> rw [hv] at this; simp at this
    | some v=> exact ⟨v,by simp [hlt2,hv]⟩
   have next:=j4 hsz h fuel (r+1) (by
    obtain ⟨r',h1,h2,h3⟩:=hex
    refine ⟨r',?_,by omega,h3⟩
    rcases Nat.lt_or_eq_of_le h1 with z | z
    ·exact z
    ·subst z
     obtain ⟨v,hv⟩:=hall 0 (by omega)
     rw [Nat.add_zero,h3] at hv
     cases hv) (fun m hm=> by
    by_cases hm1:m < nr mask h r
    ·exact hl m hm1
    ·obtain ⟨q,rfl⟩:∃ q,m=nr mask h r+q:=⟨m - nr mask h r,by omega⟩
     have hm2:nr mask h r+q < nr mask h r+(runEnd mask (aw mask h r).1 - (aw mask h r).1)+1:=hm
     rw [jz mask h r q (by omega)]
     exact hall q (by omega))
   exact next
structure OI (mask:Nat) (owner:Array (Option Nat)) (hs:List Int):Prop where
 sz:owner.size=mask+1
 lt:∀ (j k:Nat),owner[j]?=some (some k)→k < hs.length
 inj:∀ (i j k:Nat),owner[i]?=some (some k)→owner[j]?=some (some k)→i=j
 all:∀ k:Nat,k < hs.length→∃ j:Nat,owner[j]?=some (some k)
 reach:∀ (j k:Nat) (h:Int),owner[j]?=some (some k)→hs[k]?=some h→∃ m,(pth mask h m).j=j∧∀ m',m' < m→OL owner (pth mask h m').j
theorem OI.free {mask:Nat} {owner:Array (Option Nat)} {hs:List Int} (O:OI mask owner hs) (hn:hs.length≤mask):∃ s,s≤mask∧owner[s]?=some none:=by
 apply Classical.byContradiction
 intro hno
 have hlive:∀ s,s≤mask→OL owner s:=fun s hs'=> by
  have hlt:s < owner.size:=by rw [O.sz]; omega
  cases e:owner[s] with
  | none=> exact absurd ⟨s,hs',by simp [hlt,e]⟩ hno
  | some k=> exact ⟨k,by simp [hlt,e]⟩
 have nd:((List.range (mask+1)).map fun s=> (owner.getD s none).getD 0).Nodup:=by
  rw [List.nodup_iff_pairwise_ne,List.pairwise_map]
  refine List.Pairwise.imp_of_mem ?_ (List.pairwise_lt_range (n:=mask+1))
  intro a b ha hb hab e
  obtain ⟨k1,h1⟩:=hlive a (by have:=List.mem_range.mp ha; omega)
  obtain ⟨k2,h2⟩:=hlive b (by have:=List.mem_range.mp hb; omega)
  have e1:(owner.getD a none).getD 0=k1:=by simp [Array.getD_eq_getD_getElem?,h1]
  have e2:(owner.getD b none).getD 0=k2:=by simp [Array.getD_eq_getD_getElem?,h2]
  rw [e1,e2] at e
  subst e
  have:=O.inj a b k1 h1 h2
  omega
 have sub:((List.range (mask+1)).map fun s=> (owner.getD s none).getD 0) ⊆ List.range hs.length:=by
  intro x hx
  obtain ⟨s,hs1,rfl⟩:=List.mem_map.mp hx
  obtain ⟨k1,h1⟩:=hlive s (by have:=List.mem_range.mp hs1; omega)
  have e1:(owner.getD s none).getD 0=k1:=by simp [Array.getD_eq_getD_getElem?,h1]
  rw [e1]
  exact List.mem_range.mpr (O.lt s k1 h1)
 have:=List.Nodup.length_le_of_subset nd sub
 simp at this
 omega
theorem OI.step {mask k:Nat} (hk:mask+1=2 ^ k) {owner:Array (Option Nat)} {hs:List Int} (O:OI mask owner hs) (hn:hs.length≤mask) (h:Int):
  ∃ j,layClean.free mask owner (turns mask) (bits h % (mask+1)) (bits h)=some j∧OI mask (owner.setIfInBounds j (some hs.length)) (hs++[h]):=by
 obtain ⟨s,hs1,hs2⟩:=O.free hn
 obtain ⟨q,hq,e⟩:=d7 (aw mask h 12).1 k s
 have er:(aw mask h (12+q)).1=s:=by rw [fN hk h q,e]; exact Nat.mod_eq_of_lt (by omega)
 obtain ⟨N,f1,f2,f3⟩:=j4 O.sz h (turns mask) 0 ⟨12+q,Nat.zero_le _,by unfold turns; omega,by rw [er]; exact hs2⟩ (fun m hm=> absurd hm (Nat.not_lt_zero _))
 refine ⟨_,f1,?_⟩
 generalize hj:(pth mask h N).j=j at *
 have hjs:j < owner.size:=(Array.getElem?_eq_some_iff.mp f2).1
 have get:∀ i:Nat,(owner.setIfInBounds j (some hs.length))[i]?=if j=i then some (some hs.length) else owner[i]?:=fun i=> by
  rw [Array.getElem?_setIfInBounds]
  split
  ·rename_i z; subst z; simp [hjs]
  ·rfl
 have liv:∀ i,OL owner i→OL (owner.setIfInBounds j (some hs.length)) i:=fun i ⟨v,hv⟩=> by
  refine ⟨v,?_⟩
  rw [get,if_neg (fun z=> by subst z; rw [f2] at hv; cases hv)]
  exact hv
 refine ⟨by simp [O.sz],fun i v e=> ?_,fun a b v e1 e2=> ?_,fun v hv=> ?_,fun i v hh e1 e2=> ?_⟩
 ·rw [get] at e
  split at e
  ·cases e; simp
  ·have:=O.lt i v e; simp; omega
 ·rw [get] at e1 e2
  split at e1 <;> split at e2
  ·omega
  ·cases e1; exact absurd (O.lt b _ e2) (Nat.lt_irrefl _)
  ·cases e2; exact absurd (O.lt a _ e1) (Nat.lt_irrefl _)
  ·exact O.inj a b v e1 e2
 ·simp at hv
  rcases Nat.lt_or_eq_of_le (Nat.le_of_lt_succ hv) with z | z
  ·obtain ⟨i,hi⟩:=O.all v z
   refine ⟨i,?_⟩
   rw [get,if_neg (fun y=> by subst y; rw [f2] at hi; cases hi)]
   exact hi
  ·subst z; exact ⟨j,by rw [get,if_pos rfl]⟩
 ·rw [get] at e1
  split at e1
  ·rename_i z
   cases e1
   rw [List.getElem?_append_right (Nat.le_refl _)] at e2
   simp at e2
   subst e2
   exact ⟨N,by rw [hj]; exact z,fun m hm=> liv _ (f3 m hm)⟩
  ·have hv:=O.lt i v e1
   rw [List.getElem?_append_left hv] at e2
   obtain ⟨m,q1,q2⟩:=O.reach i v hh e1 e2
   exact ⟨m,q1,fun m' hm=> liv _ (q2 m' hm)⟩
theorem jD {mask k:Nat} (hk:mask+1=2 ^ k):∀ (more done:List Int) (owner:Array (Option Nat)),OI mask owner done→done.length+more.length≤mask+1→∃ owner',more.foldl (fun acc h=> do
  let (owner,k) ← acc
  let j ← layClean.free mask owner (turns mask) (bits h % (mask+1)) (bits h)
  pure (owner.setIfInBounds j (some k),k+1)) (some (owner,done.length))=some (owner',done.length+more.length)∧OI mask owner' (done++more)
 | [],done,owner,O,_=> ⟨owner,by simp,by simpa using O⟩
 | h::more,done,owner,O,hl=> by
  obtain ⟨j,e,O2⟩:=O.step hk (by simp at hl; omega) h
  obtain ⟨ow,e2,O3⟩:=jD hk more (done++[h]) _ O2 (by simp at hl ⊢; omega)
  refine ⟨ow,?_,by simpa using O3⟩
  rw [List.foldl_cons]
  have:(do
   let (owner,k) ← some (owner,done.length)
   let j ← layClean.free mask owner (turns mask) (bits h % (mask+1)) (bits h)
   pure (owner.setIfInBounds j (some k),k+1):Option (Array (Option Nat)×Nat))=some (owner.setIfInBounds j (some done.length),done.length+1):=by
   simp [e]
  rw [this]
  simp only [List.length_append,List.length_singleton] at e2
  rw [e2]
  simp; omega
theorem iS {mask k:Nat} (hk:mask+1=2 ^ k) {hs:Array Int} (hl:hs.size≤mask+1):∃ owner,layClean mask hs=some owner∧OI mask owner hs.toList:=by
 have O0:OI mask (Array.replicate (mask+1) none) []:=⟨by simp,fun j k e=> by simp [Array.getElem?_replicate] at e,fun i j k e=> by simp [Array.getElem?_replicate] at e,fun k h=> by simp at h,fun j k h e=> by simp [Array.getElem?_replicate] at e⟩
 obtain ⟨ow,e,O⟩:=jD hk hs.toList [] _ O0 (by simpa using hl)
 refine ⟨ow,?_,by simpa using O⟩
 unfold layClean
 rw [← Array.foldl_toList]
 simp only [List.length_nil] at e
 rw [e]
 rfl
end ST
namespace ST
open PySem PySem.SetTable
theorem io (n:Nat):∀ (fuel k:Nat),n < 2 ^ (k+fuel)→∃ k',k≤k'∧sizeAbove.go n fuel (2 ^ k)=2 ^ k'∧n < 2 ^ k'∧(2 ^ k'≤2 * n∨k'=k)
 | 0,k,h=> ⟨k,Nat.le_refl _,rfl,by simpa using h,.inr rfl⟩
 | fuel+1,k,h=> by
  rw [sizeAbove.go]
  by_cases hle:2 ^ k≤n
  ·rw [if_pos hle,← Nat.pow_succ]
   obtain ⟨k',h1,h2,h3,h4⟩:=io n fuel (k+1) (by rw [show k+1+fuel=k+(fuel+1) by omega]; exact h)
   refine ⟨k',by omega,h2,h3,.inl ?_⟩
   rcases h4 with z | z
   ·exact z
   ·subst z; rw [Nat.pow_succ]; omega
  ·rw [if_neg hle]
   exact ⟨k,Nat.le_refl _,rfl,by omega,.inr rfl⟩
theorem above (n:Nat) (h:n < 2 ^ 60):∃ k,3≤k∧sizeAbove n=2 ^ k∧n < 2 ^ k∧2 ^ k≤2 * n+8:=by
 obtain ⟨k,h1,h2,h3,h4⟩:=io n 64 3 (Nat.lt_of_lt_of_le h (Nat.pow_le_pow_right (by decide) (by decide)))
 refine ⟨k,h1,h2,h3,?_⟩
 rcases h4 with z | z
 ·omega
 ·subst z; omega
def bX (mask:Nat) (owner:Array (Option Nat)):List (Nat×Nat):=(List.range (mask+1)).filterMap fun j=> (owner.getD j none).map (j,·)
theorem ix (owner:Array (Option Nat)):∀ l:List Nat,(l.filterMap fun j=> (owner.getD j none).map (j,·)).map (·.1)=l.filter fun j=> (owner.getD j none).isSome
 | []=> rfl
 | a::l=> by
  have ih:=ix owner l
  rw [List.filterMap_cons,List.filter_cons]
  cases owner.getD a none with
  | none=> simpa using ih
  | some v=> simpa using ih
theorem cx {mask:Nat} {owner:Array (Option Nat)} (hsz:owner.size=mask+1) (j k:Nat):(j,k)∈bX mask owner↔owner[j]?=some (some k):=by
 unfold bX
 rw [List.mem_filterMap]
 constructor
 ·rintro ⟨a,ha,e⟩
  have hlt:a < owner.size:=by rw [hsz]; exact List.mem_range.mp ha
  cases hv:owner.getD a none with
  | none=> rw [hv] at e; cases e
  | some v=>
   rw [hv] at e
   cases e
   have:owner.getD j none=owner[j]:=by simp [Array.getD,hlt]
   rw [this] at hv
   simp [hlt,hv]
 ·intro e
  have hlt:=(Array.getElem?_eq_some_iff.mp e).1
  refine ⟨j,List.mem_range.mpr (by omega),?_⟩
  rw [Array.getD_eq_getD_getElem?,e]; rfl
theorem lc (mask:Nat) (owner:Array (Option Nat)):(bX mask owner).Pairwise fun a b=> a.1 < b.1:=by
 have:=(List.pairwise_lt_range (n:=mask+1)).filter fun j=> (owner.getD j none).isSome
 rw [← ix owner (List.range (mask+1)),List.pairwise_map] at this
 exact this
theorem p6 {l:List Nat} (h:l.Pairwise (· < ·)):Ris l.toArray:=by
 intro i j x y hij hx hy
 rw [List.getElem?_toArray] at hx hy
 obtain ⟨h1,e1⟩:=List.getElem?_eq_some_iff.mp hx
 obtain ⟨h2,e2⟩:=List.getElem?_eq_some_iff.mp hy
 have:=List.pairwise_iff_getElem.mp h i j h1 h2 hij
 rw [e1,e2] at this
 exact this
theorem nI {mask k:Nat} (h3:3≤k) (hk:mask+1=2 ^ k) {hs:Array Int} (hl:hs.size≤mask) (finger moves:Nat) (led plain:Bool):
  ∃ t order,laid mask finger moves led plain hs=some (t,order)∧TOk t (order.toList.map fun i=> hs.getD i 0)∧order.toList.Perm (List.range hs.size)∧t.mask=mask∧t.led=led∧t.plain=plain∧t.moves=moves:=by
 obtain ⟨owner,e,O⟩:=iS hk (hs:=hs) (by omega)
 have pr:=lc mask owner
 have nd:((bX mask owner).map (·.2)).Nodup:=by
  rw [List.nodup_iff_pairwise_ne,List.pairwise_map]
  refine List.Pairwise.imp_of_mem ?_ pr
  intro a b ha hb hab ee
  have h1:=(cx O.sz a.1 a.2).mp ha
  have h2:=(cx O.sz b.1 b.2).mp hb
  rw [ee] at h1
  have:=O.inj a.1 b.1 b.2 h1 h2
  omega
 have perm:((bX mask owner).map (·.2)).Perm (List.range hs.size):=by
  refine (List.perm_ext_iff_of_nodup nd List.nodup_range).mpr fun x=> ?_
  rw [List.mem_map,List.mem_range]
  constructor
  ·rintro ⟨⟨j,v⟩,hm,rfl⟩
   have:=O.lt j v ((cx O.sz j v).mp hm)
   simpa using this
  ·intro hx
   obtain ⟨j,hj⟩:=O.all x (by simpa using hx)
   exact ⟨(j,x),(cx O.sz j x).mpr hj,rfl⟩
 have len:(bX mask owner).length=hs.size:=by have:=perm.length_eq; simpa using this
 refine ⟨_,_,by unfold laid; rw [e]; rfl,⟨?_,rfl,⟨k,h3,hk⟩,?_,?_,fun i x ee=> ?_,fun i j h e1 e2=> ?_⟩,?_,rfl,rfl,rfl,rfl⟩
 ·show Ris ((bX mask owner).map (·.1)).toArray
  exact p6 (by rw [List.pairwise_map]; exact pr)
 ·show ((bX mask owner).map (·.1)).toArray.size=_
  simp [bX]
 ·show ((bX mask owner).map (·.1)).toArray.size≤mask
  simp [len,hl]
 ·change ((bX mask owner).map (·.1)).toArray[i]?=some x at ee
  rw [List.getElem?_toArray,List.getElem?_map] at ee
  cases q:(bX mask owner)[i]? with
  | none=> rw [q] at ee; cases ee
  | some p=>
   rw [q] at ee
   cases ee
   have:=(cx O.sz p.1 p.2).mp (List.mem_of_getElem? q)
   have:=(Array.getElem?_eq_some_iff.mp this).1
   show p.1≤mask
   have hz:=O.sz
   omega
 ·change ((bX mask owner).map (·.1)).toArray[i]?=some j at e1
  change (((bX mask owner).map (·.2)).toArray.toList.map fun i=> hs.getD i 0)[i]?=some h at e2
  rw [List.getElem?_toArray,List.getElem?_map] at e1
  rw [List.getElem?_map,List.getElem?_map] at e2
  cases q:(bX mask owner)[i]? with
  | none=> rw [q] at e1; cases e1
  | some p=>
   rw [q] at e1 e2
   cases e1
   have hp:=(cx O.sz p.1 p.2).mp (List.mem_of_getElem? q)
   have hlt:=O.lt _ _ hp
   have e3:hs.toList[p.2]?=some h:=by
    have e4:hs.getD p.2 0=h:=by simpa using e2
    have:p.2 < hs.size:=by simpa using hlt
    rw [← e4]
    simp [Array.getD,this]
   obtain ⟨m,q1,q2⟩:=O.reach _ _ h hp e3
   refine ⟨m,q1,fun m' hm=> ?_⟩
   obtain ⟨v,hv⟩:=q2 m' hm
   obtain ⟨n,hn⟩:=List.mem_iff_getElem?.mp ((cx O.sz _ v).mpr hv)
   refine ⟨n,?_⟩
   show ((bX mask owner).map (·.1)).toArray[n]?=_
   rw [List.getElem?_toArray,List.getElem?_map,hn]; rfl
 ·show ((bX mask owner).map (·.2)).toArray.toList.Perm _
  simpa using perm
end ST
namespace ST
open PySem PySem.SetTable
section
variable {prog:Program} {w:World} {A:Around} {E:Value→Shared→Prop} {s:Shared}
abbrev TK (prog:Program) (w:World) (h:Heap) (k:List Int) (b:Addr):Prop:=IsTupleKey (intKind prog w) h k b
abbrev hsh (prog:Program) (w:World) (k:List Int):Int:=tupleKeyHash (intKind prog w) k
theorem TK.ints {h:Heap} {k:List Int} {vs:List Value} (x:ItemsAre (intKind prog w) k vs):∀ v∈vs,∃ n t,v=.int n t:=by
 induction x with
 | nil=> intro v hv; simp at hv
 | cons h1 _ ih=>
  intro v hv
  rcases List.mem_cons.mp hv with rfl | hv
  ·obtain ⟨t,rfl⟩:=Value.isInt_shape h1; exact ⟨_,t,rfl⟩
  ·exact ih v hv
theorem gu {k:List Int} {a:Addr} {Q:Bool→Shared→Prop} (hk:TK prog w s.heap k a) (h:Q false s):wpAny (model prog w) A (ofAClassStatement 8 (.ref a)) Q E s:=by
 have hT:=hk.typeIs
 obtain ⟨o,items,n,ho,_,hd,hi⟩:=hk
 unfold ofAClassStatement
 refine wpAny_bind (wpAny_typeOf hT ?_)
 dsimp only
 rw [if_pos (by decide)]
 refine wpAny_bind (wpAny_pure ?_)
 simp only [Bool.not_true,Bool.false_eq_true,if_false]
 refine wpAny_bind (wpAny_seqItems ho hd ?_)
 dsimp only
 refine wpAny_bind ?_
 rw [← Array.forIn_toList]
 refine wpAny_forIn_list _ (fun rest r s'=> r.1=none∧s'=s∧∀ v∈rest,∃ n t,v=Value.int n t) _ ?_ ?_ _ _ ⟨rfl,rfl,TK.ints (h:=s.heap) hi⟩
 ·rintro v rest r s' ⟨hr,rfl,hall⟩
  obtain ⟨n,t,rfl⟩:=hall v List.mem_cons_self
  have e:ofAClassStatement 7 (Value.int n t)=pure false:=by unfold ofAClassStatement; rfl
  rw [e]
  refine wpAny_bind (wpAny_pure ?_)
  simp only [Bool.false_eq_true,if_false]
  exact wpAny_pure ⟨rfl,rfl,fun u hu'=> hall u (List.mem_cons_of_mem _ hu')⟩
 ·rintro ⟨r1,r2⟩ s' ⟨hr,rfl,_⟩
  simp only at hr
  subst hr
  exact wpAny_pure h
theorem rM {k:List Int} {a:Addr} {Q:Bool→Shared→Prop} (hk:TK prog w s.heap k a) (h:Q true s):wpAny (model prog w) A (hashByValue 8 (.ref a)) Q E s:=by
 have hT:=hk.typeIs
 obtain ⟨o,items,n,ho,_,hd,hi⟩:=hk
 unfold hashByValue
 refine wpAny_bind (wpAny_specialOf hT F.slot_tuple_hash.lookup ?_)
 show wpAny _ _ (seqItems? (.ref a) >>=_) _ _ s
 refine wpAny_bind (wpAny_seqItems ho hd ?_)
 refine wpAny_bind ?_
 show wpAny _ _ (forIn items _ _) _ _ s
 rw [← Array.forIn_toList]
 refine wpAny_forIn_list _ (fun rest r s'=> r.1=none∧s'=s∧∀ v∈rest,∃ n t,v=Value.int n t) _ ?_ ?_ _ _ ⟨rfl,rfl,TK.ints (h:=s.heap) hi⟩
 ·rintro v rest r s' ⟨hr,rfl,hall⟩
  obtain ⟨n,t,rfl⟩:=hall v List.mem_cons_self
  have e:hashByValue 7 (Value.int n t)=pure true:=by unfold hashByValue; rfl
  rw [e]
  refine wpAny_bind (wpAny_pure ?_)
  simp only [Bool.not_true,Bool.false_eq_true,if_false]
  exact wpAny_pure ⟨rfl,rfl,fun u hu'=> hall u (List.mem_cons_of_mem _ hu')⟩
 ·rintro ⟨r1,r2⟩ s' ⟨hr,rfl,_⟩
  simp only at hr
  subst hr
  exact wpAny_pure h
theorem jx {k:List Int} {a:Addr} {l:List Value} {Q:Bool→Shared→Prop} (hk:TK prog w s.heap k a) (hl:∀ v∈l,∃ k' b,v=.ref b∧TK prog w s.heap k' b) (h:Q false s):
  wpAny (model prog w) A (searchCouldBeSeen (.ref a) l) Q E s:=by
 unfold searchCouldBeSeen
 refine wpAny_bind ?_
 refine wpAny_forIn_list _ (fun rest r s'=> r.1=none∧s'=s∧∀ v∈rest,∃ k' b,v=.ref b∧TK prog w s.heap k' b) _ ?_ ?_ _ _ ⟨rfl,rfl,hl⟩
 ·rintro v rest r s' ⟨hr,rfl,hall⟩
  obtain ⟨k',b,rfl,hb⟩:=hall v List.mem_cons_self
  dsimp only
  split
  ·exact wpAny_pure ⟨rfl,rfl,fun u hu'=> hall u (List.mem_cons_of_mem _ hu')⟩
  ·refine wpAny_bind (wpAny_eqIsQuiet_tuple hk ?_)
   simp only [Bool.not_true,Bool.false_eq_true,if_false]
   refine wpAny_bind (wpAny_eqIsQuiet_tuple hb ?_)
   simp only [Bool.not_true,Bool.false_eq_true,if_false]
   refine wpAny_bind (gu hk ?_)
   simp only [Bool.false_eq_true,if_false]
   refine wpAny_bind (gu hb ?_)
   simp only [Bool.false_eq_true,if_false]
   exact wpAny_pure ⟨rfl,rfl,fun u hu'=> hall u (List.mem_cons_of_mem _ hu')⟩
 ·rintro ⟨r1,r2⟩ s' ⟨hr,rfl,_⟩
  simp only at hr
  subst hr
  exact wpAny_pure h
def dm (prog:Program) (w:World) (kb:List (List Int×Addr)):List (Int×Value):=kb.map fun p=> (hsh prog w p.1,.ref p.2)
theorem jZ {kb:List (List Int×Addr)} {i:Nat}:(dm prog w kb)[i]?=(kb[i]?).map fun p=> (hsh prog w p.1,.ref p.2):=by unfold dm; rw [List.getElem?_map]
theorem nY (kb:List (List Int×Addr)):(dm prog w kb).map (·.1)=kb.map fun p=> hsh prog w p.1:=by unfold dm; rw [List.map_map]; rfl
theorem TOk.fits {t:SetTable} {hs:List Int} (T:TOk t hs) {n:Nat} (hn:hs.length=n):t.fits n=true:=by
 have h1:=T.n
 have h2:=T.f
 have h3:t.fill=t.place.size:=by unfold fill; rw [T.d]; rfl
 unfold SetTable.fits
 rw [h3]
 simp [h1,hn]
 omega
theorem TOk.gave {t:SetTable} {hs:List Int} (T:TOk t hs):t.gaveWay=false:=by
 obtain ⟨k,h3,hk⟩:=T.k
 unfold SetTable.gaveWay
 obtain ⟨j,rfl⟩:∃ j,k=j+1:=⟨k - 1,by omega⟩
 rw [Nat.pow_succ] at hk
 have:t.mask % 2=1:=by omega
 simp [this]
theorem iz {S:Addr} {o:Obj} {es:Array (Int×Value)} {ep:Nat} {t:SetTable} {kb:List (List Int×Addr)} {k:List Int} {x:Addr} (hu:A.units < cLine)
  (ho:s.heap.get? S=some o) (hd:o.data=.set es ep t) (he:es.toList=dm prog w kb) (T:TOk t (kb.map fun p=> hsh prog w p.1)) (hkb:∀ p∈kb,TK prog w s.heap p.1 p.2) (hx:TK prog w s.heap k x)
  {N:Nat} (hN:N < 10 * turns t.mask) (h0:¬ Liv t (pth t.mask (hsh prog w k) N).j) (h1:∀ m,m < N→Liv t (pth t.mask (hsh prog w k) m).j) {Q:SetFound→Shared→Prop}
  (qf:(∀ p∈kb,p.1≠k)→Q (.free (pth t.mask (hsh prog w k) N).j false) s) (qt:(∃ p∈kb,p.1=k)→Q (.there none) s):
  ∀ (fuel n:Nat) (stand:Option Probe),n≤N→N - n < fuel→stand.getD (t.probeStart (hsh prog w k))=pth t.mask (hsh prog w k) n→
   (∀ (m i:Nat) (p:List Int×Addr),m < n→t.place[i]?=some (pth t.mask (hsh prog w k) m).j→kb[i]?=some p→p.1≠k)→
   wpAny (model prog w) A (setSearchFrom S (.ref x) (hsh prog w k) true fuel stand) Q E s:=by
 have hsz:es.size=kb.length:=by rw [← Array.length_toList,he]; simp [dm]
 have hfit:t.fits es.size=true:=T.fits (by rw [List.length_map,hsz])
 have eat:∀ i:Nat,es[i]?=(kb[i]?).map fun (p:List Int×Addr)=> (hsh prog w p.1,Value.ref p.2):=fun i=> by rw [← Array.getElem?_toList,he,jZ]
 intro fuel
 induction fuel with
 | zero=> intro n stand _ h; omega
 | succ fuel ih=>
  intro n stand hn hf hst hpre
  unfold setSearchFrom
  refine wpAny_bind (wpAny_setState_of ho hd hfit ?_)
  dsimp only
  rw [T.gave]
  simp only [Bool.false_eq_true,if_false]
  rw [hst]
  have hash:∀ (i:Nat) (p:List Int×Addr),kb[i]?=some p→((es[i]?.map (fun (e:Int×Value)=> e.1)).getD 0:Int)=hsh prog w p.1:=fun i p hp=> by rw [eat,hp]; rfl
  have pg:=iw T (fun (i:Nat)=> (es[i]?.map (fun (e:Int×Value)=> e.1)).getD 0) (hsh prog w k) h0 h1 (10 * turns t.mask) n hn (by omega)
  split
  ·rename_i met hmet
   rcases pg with ⟨e,hne⟩ | ⟨m,i,hnm,hmN,hpl,hhi,e,hbef⟩
   ·have q:some met=some (.empty (pth t.mask (hsh prog w k) N).j none):=hmet.symm.trans e
    cases q
    dsimp only
    refine wpAny_pure (qf fun p hp hpk=> ?_)
    obtain ⟨i,hi⟩:=List.mem_iff_getElem?.mp hp
    obtain ⟨m,j,hm,hpl,hj⟩:=lK T (h:=hsh prog w k) h0 (i:=i) (by rw [List.getElem?_map,hi,← hpk]; rfl)
    rcases Nat.lt_or_ge m n with hmn | hmn
    ·exact hpre m i p hmn (by rw [hj]; exact hpl) hi hpk
    ·exact hne m i hmn hm (by rw [hj]; exact hpl) (by rw [hash i p hi,hpk])
   ·have q:some met=some (.candidate (pth t.mask (hsh prog w k) m).j i (pth t.mask (hsh prog w k) (m+1))):=hmet.symm.trans e
    cases q
    dsimp only
    have hik:i < kb.length:=by rw [← hsz,← show t.place.size=es.size by rw [T.n,List.length_map,hsz]]; exact j9 hpl
    obtain ⟨p,hp⟩:∃ p,kb[i]?=some p:=⟨_,List.getElem?_eq_getElem hik⟩
    have hpm:p∈kb:=List.mem_of_getElem? hp
    have hei:es[i]?=some (hsh prog w p.1,Value.ref p.2):=by rw [eat,hp]; rfl
    have rest:wpAny (model prog w) A (do
      let equal ← holding [Value.ref p.2] (eqBool (Value.ref p.2) (.ref x))
      let (es',_,t') ← setState S
      if true && equal then return .there none
      let some same:=t'.sameMemory t.moves t.mask | unsupported "set.changed-during-lookup:is-the-new-block-at-the-old-address"
      let still ← match (if same then t'.slot (pth t.mask (hsh prog w k) m).j else .empty) with
       | .live i'=> match es'[i']? with
        | some (_,y')=> do pure (if ← isSame y' (Value.ref p.2) then some i' else none)
        | none=> pure none
       | _=> pure none
      match still with
      | none=> rule "set.search.anew"; setSearchFrom S (.ref x) (hsh prog w k) true fuel none
      | some i'=> if equal then return .there (some i') else setSearchFrom S (.ref x) (hsh prog w k) true fuel (some (pth t.mask (hsh prog w k) (m+1)))) Q E s:=by
     refine wpAny_bind (wpAny_holding (wpAny_eqBool_tuple hu (hkb p hpm) hx ?_))
     refine wpAny_bind (wpAny_setState_of ho hd hfit ?_)
     dsimp only
     by_cases hpk:p.1=k
     ·rw [decide_eq_true hpk]
      simp only [Bool.and_self,if_true]
      exact wpAny_pure (qt ⟨p,hpm,hpk⟩)
     ·rw [decide_eq_false hpk]
      simp only [Bool.and_false,Bool.false_eq_true,if_false]
      have hsm:t.sameMemory t.moves t.mask=some true:=by unfold SetTable.sameMemory; simp
      rw [hsm]
      dsimp only
      rw [if_pos rfl,gB T.R hpl]
      dsimp only
      rw [hei]
      dsimp only
      refine wpAny_bind (wpAny_isSame_ref_self ?_)
      refine wpAny_bind (wpAny_pure ?_)
      simp only [if_true]
      refine ih (m+1) (some (pth t.mask (hsh prog w k) (m+1))) (by omega) (by omega) rfl fun m' i' p' hm' hpl' hp'=> ?_
      rcases Nat.lt_or_ge m' n with z | z
      ·exact hpre m' i' p' z hpl' hp'
      ·rcases Nat.lt_or_eq_of_le (Nat.le_of_lt_succ hm') with y | y
       ·have:=hbef m' i' z y hpl'
        intro e'
        exact this (by rw [hash i' p' hp',e'])
       ·subst y
        have ei:=T.R.inj hpl hpl'
        subst ei
        rw [hp] at hp'
        cases hp'
        exact hpk
    by_cases hled:t.led=true
    ·rw [hled]
     simp only [Bool.not_true,Bool.false_eq_true,if_false]
     rw [hei]
     exact rest
    ·rw [show t.led=false by simpa using hled]
     simp only [Bool.not_false,if_true]
     refine wpAny_bind (jx hx (fun v hv=> ?_) ?_)
     ·obtain ⟨e',he',rfl⟩:=List.mem_map.mp hv
      have hm':e'∈es.toList:=by
       have:=Array.mem_toList_iff.mp he'
       exact Array.mem_toList_iff.mpr (Array.mem_filter.mp this).1
      rw [he] at hm'
      obtain ⟨p',hp',rfl⟩:=List.mem_map.mp hm'
      exact ⟨p'.1,p'.2,rfl,hkb p' hp'⟩
     ·simp only [Bool.false_eq_true,if_false]
      rw [hei]
      exact rest
  ·rename_i hno
   rcases pg with ⟨e,hne⟩ | ⟨m,i,hnm,hmN,hpl,hhi,e,hbef⟩
   ·exact absurd e (hno _)
   ·exact absurd e (hno _)
end
end ST
namespace ST
open PySem PySem.SetTable
section
variable {prog:Program} {w:World} {A:Around} {E:Value→Shared→Prop} {s:Shared}
structure SP (prog:Program) (w:World) (h:Heap) (S:Addr) (kb:List (List Int×Addr)):Prop where
 ex:∃ o es ep t,h.get? S=some o∧o.ExactSet∧o.data=.set es ep t∧es.toList=dm prog w kb∧TOk t (kb.map fun p=> hsh prog w p.1)∧t.led=(!w.params.followText "set-order")∧t.plain=true∧t.tooFull=false∧t.mask < 8 * kb.length+8
 keys:∀ p∈kb,TK prog w h p.1 p.2
 nd:(kb.map (·.1)).Nodup
theorem TK.keep {h h':Heap} {k:List Int} {b S:Addr} {o:Obj} {es ep t} (x:TK prog w h k b) (ho:h.get? S=some o) (hd:o.data=.set es ep t) (hs:Heap.SameBut S h h'):TK prog w h' k b:=by
 obtain ⟨o',items,n,ho',hc,hd',hi⟩:=x
 have hne:b≠S:=by
  rintro rfl
  obtain rfl:o'=o:=Option.some.inj (ho'.symm.trans ho)
  rw [hd] at hd'; exact nomatch hd'
 exact ⟨o',items,n,(hs.2 b hne).trans ho',hc,hd',hi⟩
theorem jg (x:Addr) (es:Array (Int×Value)):byScan (.ref x) es=false:=by simp [byScan,Value.scannable]
theorem iy {α β:Type} (f:α→β) (xs:List α) (p:Nat) (x:α):(dQ xs p x).map f=dQ (xs.map f) p (f x):=by
 unfold dQ; rw [List.map_append,List.map_cons,List.map_take,List.map_drop]
theorem cO {α:Type} (xs:List α) (p:Nat) (x:α):(dQ xs p x).Perm (xs++[x]):=by
 unfold dQ
 refine List.perm_middle.trans ?_
 rw [List.take_append_drop]
 exact (List.perm_append_singleton x xs).symm
theorem iD {α β:Type} {kb:List α} (f:α→β) (d:β):∀ (o:List Nat),(∀ i∈o,i < kb.length)→o.map (fun i=> ((kb.map f).toArray).getD i d)=(o.filterMap fun i=> kb[i]?).map f
 | [],_=> rfl
 | i::o,h=> by
  have hi:=h i List.mem_cons_self
  rw [List.map_cons,List.filterMap_cons,List.getElem?_eq_getElem hi,iD f d o fun j hj=> h j (List.mem_cons_of_mem _ hj)]
  simp [Array.getD,hi]
theorem lm {α:Type} {kb:List α} {o:List Nat} (h:o.Perm (List.range kb.length)):(o.filterMap fun i=> kb[i]?).Perm kb:=by
 refine (h.filterMap _).trans ?_
 suffices (List.range kb.length).filterMap (fun i=> kb[i]?)=kb by rw [this]
 have:∀ (l pre:List α),(List.range' pre.length l.length).filterMap (fun i=> (pre++l)[i]?)=l:=by
  intro l
  induction l with
  | nil=> intro pre; rfl
  | cons x l ih=>
   intro pre
   rw [List.length_cons,List.range'_succ,List.filterMap_cons]
   have e:(pre++x::l)[pre.length]?=some x:=by rw [List.getElem?_append_right (Nat.le_refl _)]; simp
   rw [e]
   have:=ih (pre++[x])
   rw [List.append_assoc,List.length_append] at this
   simpa using this
 have q:=this kb []
 simpa [List.range_eq_range'] using q
theorem nO {t:SetTable} {hs:List Int} (T:TOk t hs) (h:t.tooFull=false):t.place.size+1≤t.mask:=by
 obtain ⟨k,h3,hk⟩:=T.k
 have hf:t.fill=t.place.size:=by unfold fill; rw [T.d]; rfl
 have h8:2 ^ 3≤2 ^ k:=Nat.pow_le_pow_right (by decide) h3
 unfold tooFull at h
 rw [hf] at h
 simp at h
 omega
set_option maxHeartbeats 1000000 in
theorem re {S:Addr} {o:Obj} {es:Array (Int×Value)} {ep:Nat} {t:SetTable} {kb:List (List Int×Addr)} {Q:Unit→Shared→Prop} (ho:s.heap.get? S=some o) (hex:o.ExactSet) (hd:o.data=.set es ep t) (he:es.toList=dm prog w kb)
  (T:TOk t (kb.map fun p=> hsh prog w p.1)) (hl:t.led=(!w.params.followText "set-order")) (hp:t.plain=true) (hkb:∀ p∈kb,TK prog w s.heap p.1 p.2) (hnd:(kb.map (·.1)).Nodup) (h1:0 < kb.length) (hn:kb.length≤1000)
  (h:∀ h' kb',Heap.SameBut S s.heap h'→SP prog w h' S kb'→kb'.Perm kb→Q () { s with heap:=h' }):wpAny (model prog w) A (setRelay S (grown kb.length)) Q E s:=by
 have hsz:es.size=kb.length:=by rw [← Array.length_toList,he]; simp [dm]
 have hfit:t.fits es.size=true:=T.fits (by rw [List.length_map,hsz])
 have eat:∀ i:Nat,es[i]?=(kb[i]?).map fun (p:List Int×Addr)=> (hsh prog w p.1,Value.ref p.2):=fun i=> by rw [← Array.getElem?_toList,he,jZ]
 have hg:grown kb.length=kb.length * 4:=by unfold grown; rw [if_neg (by omega)]
 rw [hg]
 obtain ⟨k,k3,ek,lk,uk⟩:=above (kb.length * 4) (by omega)
 have hmask:(sizeAbove (kb.length * 4) - 1)+1=2 ^ k:=by omega
 obtain ⟨t',order,e,T',hord,em,el,ep',_⟩:=nI k3 hmask (hs:=es.map (·.1)) (by rw [Array.size_map,hsz]; omega) t.finger (t.movedTo (sizeAbove (kb.length * 4) - 1)) t.led t.plain
 have hrel:t.relaid (es.map (·.1)) (kb.length * 4)=some (t',order):=e
 have hord':order.toList.Perm (List.range kb.length):=by rw [Array.size_map,hsz] at hord; exact hord
 have hlt:∀ i∈order.toList,i < kb.length:=fun i hi=> List.mem_range.mp (hord'.mem_iff.mp hi)
 have hpk:=lm hord'
 have hes:(order.filterMap (fun i=> es[i]?)).toList=dm prog w (order.toList.filterMap fun i=> kb[i]?):=by
  rw [Array.toList_filterMap]
  unfold dm
  rw [List.map_filterMap]
  congr 1
  funext i
  rw [eat]
 have hes2:(order.filterMap (fun i=> es[i]?)).size=es.size:=by
  rw [← Array.length_toList,hes,hsz]
  unfold dm
  rw [List.length_map,hpk.length_eq]
 unfold setRelay
 refine wpAny_bind (wpAny_setState_of ho hd hfit ?_)
 dsimp only
 rw [if_neg (by rw [ek,sizeLine_eq]; omega),hrel]
 have goal:wpAny (model prog w) A (do
   if (order.filterMap (fun i=> es[i]?)).size !=es.size then unsupported "internal:set-table-lost-an-element"
   pure (order.filterMap (fun i=> es[i]?),t'):Sem (Array (Int×Value)×SetTable)) (fun r s'=> wpAny (model prog w) A (storeSet S r.1 r.2) Q E s') E s:=by
  rw [hes2]
  simp only [bne_self_eq_false,Bool.false_eq_true,if_false]
  refine wpAny_pure ?_
  refine wpAny_storeSet_of ho hd ?_ (by rw [hes2,hsz,sizeLine_eq]; omega)
  have hg':(s.heap.update S (Obj.putSet (order.filterMap (fun i=> es[i]?)) t')).get? S=some { o with data:=.set (order.filterMap (fun i=> es[i]?)) (ep+1) t' }:=by
   have:=Heap.get?_update_self (Obj.putSet (order.filterMap (fun i=> es[i]?)) t') ho (by rw [putSet_of _ t' hd]; rfl)
   rw [putSet_of _ t' hd] at this; exact this
  have hsb:=Heap.SameBut.update s.heap S (Obj.putSet (order.filterMap (fun i=> es[i]?)) t')
  refine h _ (order.toList.filterMap fun i=> kb[i]?) hsb ⟨⟨_,_,_,t',hg',hex,rfl,hes,?_,by rw [el]; exact hl,by rw [ep']; exact hp,?_,?_⟩,fun p hp'=> ?_,?_⟩ hpk
  ·have:=iD (kb:=kb) (fun p=> hsh prog w p.1) 0 order.toList hlt
   rw [← this]
   have e2:(es.map (·.1))=((kb.map fun p=> hsh prog w p.1)).toArray:=by
    apply Array.toList_inj.mp
    rw [Array.toList_map,he,nY]
   rw [e2] at T'
   exact T'
  ·have hf:t'.fill=t'.place.size:=by unfold fill; rw [T'.d]; rfl
   have hn':=T'.n
   rw [List.length_map,hord'.length_eq,List.length_range] at hn'
   unfold tooFull
   rw [hf,hn',em]
   simp
   omega
  ·rw [em,hpk.length_eq]; omega
  ·exact (hkb p (hpk.mem_iff.mp hp')).keep ho hd hsb
  ·exact ((hpk.map (·.1)).nodup_iff).mpr hnd
 exact wpAny_bind goal
end
end ST
namespace ST
open PySem PySem.SetTable
section
variable {prog:Program} {w:World} {A:Around} {E:Value→Shared→Prop} {s:Shared}
set_option maxHeartbeats 1000000 in
theorem jC {S x:Addr} {kb:List (List Int×Addr)} {k:List Int} {Q:Bool→Shared→Prop} (hu:A.units < cLine) (P:SP prog w s.heap S kb) (hx:TK prog w s.heap k x) (hn:kb.length < 1000)
  (h:∀ b h' kb',Heap.SameBut S s.heap h'→SP prog w h' S kb'→(if k∈kb.map (·.1) then kb'=kb else kb'.Perm (kb++[(k,x)]))→Q b { s with heap:=h' }):
  wpAny (model prog w) A (setAddHashed S (.ref x) (hsh prog w k)) Q E s:=by
 obtain ⟨⟨o,es,ep,t,ho,hex,hd,he,T,hl,hp,hfull,hmask⟩,hkb,hnd⟩:=P
 have P0:SP prog w s.heap S kb:=⟨⟨o,es,ep,t,ho,hex,hd,he,T,hl,hp,hfull,hmask⟩,hkb,hnd⟩
 have hsz:es.size=kb.length:=by rw [← Array.length_toList,he]; simp [dm]
 have hfit:t.fits es.size=true:=T.fits (by rw [List.length_map,hsz])
 obtain ⟨N,hN,h0,h1⟩:=jw T (hsh prog w k)
 have hN':N < 100000:=by unfold turns at hN; omega
 unfold setAddHashed setAddHashedIn
 refine wpAny_holding (wpAny_bind (wpAny_setState_of ho hd hfit ?_))
 dsimp only
 rw [jg]
 simp only [Bool.false_eq_true,if_false]
 unfold setSearch
 refine wpAny_bind (iz hu ho hd he T hkb hx hN h0 h1 (fun hno=> ?_) (fun hyes=> ?_) 100000 0 none (Nat.zero_le _) (by omega) rfl fun m i p hm=> by omega)
 ·dsimp only
  have hk:k ∉ kb.map (·.1):=fun z=> by obtain ⟨p,hp',e⟩:=List.mem_map.mp z; exact hno p hp' e
  refine wpAny_bind (wpAny_setState_of ho hd hfit ?_)
  dsimp only
  generalize hj:(pth t.mask (hsh prog w k) N).j=j at *
  have T1:=T.put (h:=hsh prog w k) (N:=N) (by rw [hj]; exact h0) h1 (by have:=mZ (mask:=t.mask) (hsh prog w k) N; omega) (nO T hfull)
  rw [hj] at T1
  have epl:(t.put j).1.plain=true:=hp
  have eled:(t.put j).1.led=(!w.params.followText "set-order"):=hl
  have emask:(t.put j).1.mask=t.mask:=rfl
  generalize (t.put j).1=t1 at *
  generalize (t.put j).2=q at *
  have hlen1:(dQ kb q (k,x)).length=kb.length+1:=by rw [(cO kb q (k,x)).length_eq]; simp
  have he1:(insertAt es q (hsh prog w k,Value.ref x)).toList=dm prog w (dQ kb q (k,x)):=by
   rw [cL,he]
   unfold dm
   rw [iy]
   rfl
  have hsz1:(insertAt es q (hsh prog w k,Value.ref x)).size=kb.length+1:=by
   rw [← Array.length_toList,he1]; unfold dm; rw [List.length_map,hlen1]
  have T2:TOk t1 ((dQ kb q (k,x)).map fun p=> hsh prog w p.1):=by rw [iy]; exact T1
  rw [if_pos epl]
  refine wpAny_bind (rM hx ?_)
  rw [if_pos rfl]
  have hg1:(s.heap.update S (Obj.putSet (insertAt es q (hsh prog w k,Value.ref x)) t1)).get? S=some { o with data:=.set (insertAt es q (hsh prog w k,Value.ref x)) (ep+1) t1 }:=by
   have:=Heap.get?_update_self (Obj.putSet (insertAt es q (hsh prog w k,Value.ref x)) t1) ho (by rw [putSet_of _ t1 hd]; rfl)
   rw [putSet_of _ t1 hd] at this; exact this
  have hsb:=Heap.SameBut.update s.heap S (Obj.putSet (insertAt es q (hsh prog w k,Value.ref x)) t1)
  have hkb1:∀ p∈dQ kb q (k,x),TK prog w (s.heap.update S (Obj.putSet (insertAt es q (hsh prog w k,Value.ref x)) t1)) p.1 p.2:=fun p hp'=> by
   have:=(cO kb q (k,x)).mem_iff.mp hp'
   rcases List.mem_append.mp this with z | z
   ·exact (hkb p z).keep ho hd hsb
   ·rw [List.mem_singleton.mp z]; exact hx.keep ho hd hsb
  have hnd1:((dQ kb q (k,x)).map (·.1)).Nodup:=by
   rw [((cO kb q (k,x)).map (·.1)).nodup_iff,List.map_append,List.nodup_append]
   refine ⟨hnd,by simp,fun a ha b hb=> ?_⟩
   simp at hb
   subst hb
   rintro rfl
   exact hk ha
  refine wpAny_bind (wpAny_storeSet_of ho hd ?_ (by rw [hsz1,sizeLine_eq]; omega))
  rw [Bool.not_false,Bool.true_and]
  by_cases hft:t1.tooFull=true
  ·rw [if_pos hft,hsz,← hlen1]
   refine wpAny_bind (re (s:={ s with heap:=s.heap.update S (Obj.putSet (insertAt es q (hsh prog w k,Value.ref x)) t1) }) hg1 hex rfl he1 T2 eled epl hkb1 hnd1 (by omega) (by omega) fun h' kb' hsb' P' pm=> wpAny_pure ?_)
   exact h true h' kb' (hsb.trans hsb') P' (by rw [if_neg hk]; exact pm.trans (cO kb q (k,x)))
  ·rw [if_neg hft]
   refine wpAny_pure (h true _ (dQ kb q (k,x)) hsb ⟨⟨_,_,_,t1,hg1,hex,rfl,he1,T2,eled,epl,by simpa using hft,by rw [emask,hlen1]; omega⟩,hkb1,hnd1⟩ (by rw [if_neg hk]; exact cO kb q (k,x)))
 ·dsimp only
  refine wpAny_pure ?_
  have hk:k∈kb.map (·.1):=by obtain ⟨p,hp',e⟩:=hyes; exact List.mem_map.mpr ⟨p,hp',e⟩
  exact h false s.heap kb (Heap.SameBut.refl S s.heap) P0 (by rw [if_pos hk])
end
end ST
namespace ST
open PySem PySem.SetTable
section
variable {prog:Program} {w:World} {A:Around}
theorem TK.moved {s s':Shared} {wr:List Addr} {G:Array GenState→Array GenState→Prop} {k:List Int} {b:Addr} (x:TK prog w s.heap k b) (hb:b ∉ wr) (m:Moved wr G s s'):TK prog w s'.heap k b:=by
 obtain ⟨o,its,n,ho,hc,hd,hi⟩:=x
 exact ⟨o,its,n,m.heap b o hb ho,hc,hd,hi⟩
theorem SP.moved {s s':Shared} {wr:List Addr} {G:Array GenState→Array GenState→Prop} {S:Addr} {kb:List (List Int×Addr)} (x:SP prog w s.heap S kb) (hS:S ∉ wr) (hb:∀ p∈kb,p.2 ∉ wr) (m:Moved wr G s s'):SP prog w s'.heap S kb:=by
 obtain ⟨⟨o,es,ep,t,ho,r⟩,hk,hn⟩:=x
 exact ⟨⟨o,es,ep,t,m.heap S o hS ho,r⟩,fun p hp=> (hk p hp).moved (hb p hp) m,hn⟩
structure Got (kx:Nat→List Int×Addr) (i:Nat) (kb:List (List Int×Addr)):Prop where
 src:∀ p∈kb,∃ j,j < i∧p=kx j
 all:∀ j,j < i→(kx j).1∈kb.map (·.1)
 len:kb.length≤i
variable {R:Result→Shared→Prop} {I:Addr} {fp wr:List Addr} {G:Array GenState→Array GenState→Prop} {n:Nat} {P:Nat→Value→Prop} {St:Nat→Shared→Prop}
set_option maxHeartbeats 1000000 in
theorem lU (W:WalksS prog w A.in1 I fp wr G n P St) (hu:A.in1.units < cLine) {S:Addr} (hSf:S ∉ fp) (kx:Nat→List Int×Addr) (hP:∀ i v,P i v→v=.ref (kx i).2) (hwr:∀ i,i < n→(kx i).2 ∉ wr) (hn:n≤1000):
  ∀ (k i:Nat) (s:Shared) (kb:List (List Int×Addr)),n - i=k→i≤n→St i s→SP prog w s.heap S kb→Got kx i kb→(∀ j,j < n→TK prog w s.heap (kx j).1 (kx j).2)→
   (∀ s' kb',Moved (S::wr) G s s'→SP prog w s'.heap S kb'→Got kx n kb'→R (.ok (.ret .none)) s')→
   codeAny (model prog w) A (.builtin "set.update.loop" ⟨[.ref S,.ref I],[]⟩) R s:=by
 have hSw:S ∉ wr:=fun h=> hSf (W.sub _ h)
 have more:∀ b∈wr,b∈S::wr:=fun b hb=> List.mem_cons_of_mem _ hb
 intro k
 induction k with
 | zero=>
  intro i s kb hk hi st hS g tk hR
  obtain rfl:i=n:=by omega
  refine codeAny_builtin PyProof.Rows.F.entry_set_update_loop ?_
  rw [Around.under_plainId PyProof.Rows.F.plain_set_update_loop _]
  show wpAny _ A.in1 (pyNext (.ref I) >>=_) _ _ s
  refine wpAny_bind (W.done s _ _ st fun s' m=> ?_)
  exact wpAny_pure (hR s' kb (m.mono more) (hS.moved hSw (fun p hp=> by obtain ⟨j,hj,rfl⟩:=g.src p hp; exact hwr j hj) m) g)
 | succ k ih=>
  intro i s kb hk hi st hS g tk hR
  have hlt:i < n:=by omega
  have hkb:∀ p∈kb,p.2 ∉ wr:=fun p hp=> by obtain ⟨j,hj,rfl⟩:=g.src p hp; exact hwr j (by omega)
  refine codeAny_builtin PyProof.Rows.F.entry_set_update_loop ?_
  rw [Around.under_plainId PyProof.Rows.F.plain_set_update_loop _]
  show wpAny _ A.in1 (pyNext (.ref I) >>=_) _ _ s
  refine wpAny_bind (W.item i s _ _ hlt st fun v s1 pv st1 m=> ?_)
  obtain rfl:=hP i v pv
  have hS1:=hS.moved hSw hkb m
  have tk1:∀ j,j < n→TK prog w s1.heap (kx j).1 (kx j).2:=fun j hj=> (tk j hj).moved (hwr j hj) m
  show wpAny _ A.in1 (holding [Value.ref (kx i).2] (setAdd S (.ref (kx i).2)) >>=_) _ _ s1
  refine wpAny_bind (wpAny_holding ?_)
  unfold setAdd
  refine wpAny_holding (wpAny_bind (wpAny_pyHash_tuple hu (tk1 i hlt) ?_))
  refine jC (s:={ s1 with toks:=s1.toks+((kx i).1.length+1) }) hu hS1 (tk1 i hlt) (by have:=g.len; omega) fun b h' kb' sb hS2 hkk=> ?_
  obtain ⟨⟨o,es,ep,t,ho,hex,hd,hrest⟩,hks,hnd⟩:=hS1
  have same:∀ b o,b ∉ S::wr→s1.heap.get? b=some o→h'.get? b=some o:=fun b o hb e=> by rw [sb.2 b (fun z=> hb (by rw [z]; exact List.mem_cons_self))]; exact e
  refine wpAny_pure ⟨plainId_quiet PyProof.Rows.F.plain_set_update_loop _,ih (i+1) _ kb' (by omega) hlt (W.frame _ s1 _ _ st1 (by show s1.toks≤s1.toks+_; omega) fun b hb o e=> ?_) hS2 ?_ (fun j hj=> (tk1 j hj).keep ho hd sb) fun s2 kb2 m2 hS3 g2=> ?_⟩
  ·rw [sb.2 b (fun z=> hSf (by rw [← z]; exact hb))]; exact e
  ·by_cases hin:(kx i).1∈kb.map (·.1)
   ·rw [if_pos hin] at hkk
    subst hkk
    refine ⟨fun p hp=> ?_,fun j hj=> ?_,by have:=g.len; omega⟩
    ·obtain ⟨j,hj,e⟩:=g.src p hp; exact ⟨j,by omega,e⟩
    ·rcases Nat.lt_or_eq_of_le (Nat.le_of_lt_succ hj) with z | z
     ·exact g.all j z
     ·rw [z]; exact hin
   ·rw [if_neg hin] at hkk
    refine ⟨fun p hp=> ?_,fun j hj=> ?_,by rw [hkk.length_eq]; have:=g.len; simp; omega⟩
    ·rcases List.mem_append.mp (hkk.mem_iff.mp hp) with z | z
     ·obtain ⟨j,hj,e⟩:=g.src p z; exact ⟨j,by omega,e⟩
     ·exact ⟨i,Nat.lt_succ_self i,by rw [List.mem_singleton.mp z]⟩
    ·rw [(hkk.map (·.1)).mem_iff,List.map_append]
     rcases Nat.lt_or_eq_of_le (Nat.le_of_lt_succ hj) with z | z
     ·exact List.mem_append_left _ (g.all j z)
     ·rw [z]; exact List.mem_append_right _ (by simp)
  ·exact hR s2 kb2 (Moved.trans W.gtrans ((m.mono more).then_heap (by show s1.toks≤s1.toks+_; omega) same) m2) hS3 g2
end
section
variable {prog:Program} {w:World} {A:Around} {E:Value→Shared→Prop} {s:Shared}
abbrev bi (w:World):Obj:={ cls:=.type "set",dict:=none,data:=.set #[] 0 (.fresh 0 0 (!w.params.followText "set-order")) }
theorem mF:TOk (.fresh 0 0 (!w.params.followText "set-order")) [] where
 R:=by intro i j x y _ h; simp [SetTable.fresh] at h
 d:=rfl
 k:=⟨3,by decide,rfl⟩
 n:=rfl
 f:=by show 0≤7; decide
 le:=by intro i x h; simp [SetTable.fresh] at h
 reach:=by intro i x h hi; simp [SetTable.fresh] at hi
theorem mM {h:Heap} {S:Addr} (e:h.get? S=some (bi w)):SP prog w h S []:=by
 refine ⟨⟨_,_,_,_,e,⟨rfl,rfl,rfl⟩,rfl,rfl,mF,rfl,rfl,by simp [SetTable.tooFull,SetTable.fresh,SetTable.fill],by show 7 < 8; decide⟩,fun p hp=> by simp at hp,by simp⟩
theorem oD (a:Value) {Q:Value→Shared→Prop} (h:Q (.ref s.heap.objs.size) { s with heap:=s.heap.push (bi w) }):
  codeAny (model prog w) A (.call (.builtin "set.__new__") ⟨[.type "set",a],[]⟩) (wants Q E) s:=by
 refine codeAny_of_tree ?_
 show wpAny _ A.in1 (do checkBuiltinCall "set.__new__" ⟨[.type "set",a],[]⟩; again (.builtin "set.__new__" ⟨[.type "set",a],[]⟩)) _ _ s
 refine wpAny_bind (wpAny_of_eq (PySem.F.newCall_set_1 a) (wpAny_pure ⟨plainId_quiet PySem.F.plain_set_new _,codeAny_builtin PySem.F.entry_set_new ?_⟩))
 rw [Around.under_plainId PySem.F.plain_set_new _]
 unfold Builtin.«set.__new__» Builtin.Frozenset.newClass
 have hsub:=sub_set_self
 obtain ⟨hp,g,d,tk,os⟩:=s
 dsimp only
 wp_walk
 refine wpAny_askSetting (wpAny_pure ?_)
 dsimp only
 simp only [newObj]
 exact wpAny_bind (wpAny_alloc (wpAny_pure (wpAny_pure h)))
end
end ST
namespace ST
open PySem PySem.SetTable
section
variable {prog:Program} {w:World} {A:Around} {E:Value→Shared→Prop} {s:Shared}
set_option maxRecDepth 100000 in
set_option maxHeartbeats 3200000 in
theorem call_set_pts {l:Addr} {items:Array Value} {Q:Value→Shared→Prop} (kx:Nat→List Int×Addr) (hh:A.handled=none) (hu:A.in1.in1.in1.units < cLine) (hl:s.heap.IsList l items)
  (hit:∀ (i:Nat) (v:Value),items[i]?=some v→v=.ref (kx i).2) (htk:∀ i,i < items.size→TK prog w s.heap (kx i).1 (kx i).2) (hn:items.size≤1000)
  (h:∀ (h':Heap) (tk:Nat) (kb:List (List Int×Addr)),SP prog w h' s.heap.objs.size kb→Got kx items.size kb→(∀ b o,s.heap.get? b=some o→h'.get? b=some o)→Q (.ref s.heap.objs.size) { s with heap:=h',toks:=tk }):
  wpAny (model prog w) A (call (.type "set") [.ref l]) Q E s:=by
 obtain ⟨cc,tl,hmro⟩:=PySem.F.called_set.mro
 have hmade:=PySem.F.called_set.made
 have hsub:=PySem.F.called_set.sub
 refine wpAny_call (codeAny_of_tree ?_)
 show wpAny _ _ (callAny (.type "set") _) _ _ _
 refine wpAny_pure ⟨Code.quiet_builtin _ (by decide+kernel),codeAny_builtin PySem.F.entry_type_call ?_⟩
 rw [Around.under_plain (weight_type_call_type "set" [.ref l] []) rfl]
 have g1:=PySem.F.called_set.notType
 have g2:=PySem.F.called_set.canCreate
 have g3:=PySem.F.typeCall_set_1 (.ref l)
 repeat (any_goals (first | assumption | wp_step))
 refine codeAny_mono (oD (w:=w) (.ref l) (E:=E) (Q:=fun obj s₁=> obj=.ref s.heap.objs.size∧s₁={ s with heap:=s.heap.push (bi w) }) ⟨rfl,rfl⟩) fun r s₁ hr=> ?_
 cases r with
 | error e=> exact hr
 | ok fl=>
  cases fl with
  | ret obj=>
   obtain ⟨rfl,rfl⟩:=hr
   have hS:(s.heap.push (bi w)).get? s.heap.objs.size=some (bi w):=Heap.get?_push_size _ rfl
   have hT:Shared.TypeIs { s with heap:=s.heap.push (bi w) } (.ref s.heap.objs.size) "set":=⟨_,hS,rfl⟩
   have hli:=PySem.F.called_set.init.lookup
   have hbi:=PySem.F.called_set.init.bind (.ref s.heap.objs.size)
   repeat (any_goals (first | assumption | wp_step))
   refine codeAny_mono (codeAny_call_builtin (R:=wants (fun r s₂=> r=.none∧∃ h' tk kb,s₂={ s with heap:=h',toks:=tk }∧
     SP prog w h' s.heap.objs.size kb∧Got kx items.size kb∧(∀ b o,s.heap.get? b=some o→h'.get? b=some o)) E) PySem.F.called_set.init.plain PySem.F.entry_set_init (check_set_init_1 hT ?_)) fun r₂ s₂ hr₂=> ?_
   ·obtain ⟨ol,hol,hcl,nl,hdl⟩:=hl
    obtain ⟨ocls,odict,odata,oslots⟩:=ol
    simp only at hcl hdl
    subst hcl; subst hdl
    have hol':(s.heap.push (bi w)).get? l=some { cls:=.type "list",dict:=odict,data:=.seq items nl,slots:=oslots }:=Heap.get?_push_of_some _ hol
    have k1:=PySem.F.sub_list_set
    have k2:=PySem.F.sub_list_frozenset
    have k3:(Value.type "list"==Value.type "dict")=false:=by decide
    have hl1:(s.heap.push (bi w)).IsList l items:=⟨_,hol',rfl,nl,rfl⟩
    unfold Builtin.«set.__init__» noKeywords Builtin.Frozenset.updateFrom
    generalize hPI:pyIter=PI
    wp_walk
    subst hPI
    refine wpAny_pyIter_list hl1 (wpAny_bind (wpAny_runValue ?_))
    have hlS:l < s.heap.objs.size:=Heap.lt_size hol
    have h3:A.in1.in1.in1.handled=none:=by simp [hh]
    have szI:(s.heap.push (bi w)).objs.size=s.heap.objs.size+1:=Heap.size_push ..
    have hneI:l≠(s.heap.push (bi w)).objs.size:=by rw [szI]; exact Nat.ne_of_lt (Nat.lt_succ_of_lt hlS)
    have hSf:s.heap.objs.size ∉ [(s.heap.push (bi w)).objs.size,l]:=by
     rw [szI]
     intro z
     rcases List.mem_cons.mp z with z | z
     ·exact absurd z (Nat.ne_of_lt (Nat.lt_succ_self _))
     ·exact absurd (List.mem_singleton.mp z) (Nat.ne_of_gt hlS)
    refine lU ((Walks.list h3 _ l hneI items).toS) hu hSf kx hit (fun i hi=> ?_) hn (items.size - 0) 0 _ [] (by omega) (Nat.zero_le _)
     ⟨⟨_,Heap.get?_push_size _ rfl,rfl,rfl⟩,(hl1.push _)⟩ ?_ ⟨fun p hp=> by simp at hp,fun j hj=> by omega,by simp⟩ (fun j hj=> ?_) fun s' kb m hS' g=> ?_
    ·intro z
     have z':=List.mem_singleton.mp z
     obtain ⟨o,_,_,ho,_⟩:=htk i hi
     have:=Heap.lt_size ho
     rw [z',szI] at this
     exact Nat.lt_irrefl _ (Nat.lt_trans (Nat.lt_succ_self _) this)
    ·exact mM (Heap.get?_push_of_some _ hS)
    ·obtain ⟨o,its,k,ho,r⟩:=htk j hj
     exact ⟨o,its,k,Heap.get?_push_of_some _ (Heap.get?_push_of_some _ ho),r⟩
    ·obtain ⟨h',g',d',tk',os'⟩:=s'
     obtain rfl:g'=s.gens:=m.gens
     obtain rfl:d'=s.drawn:=m.drawn
     obtain rfl:os'=s.os:=m.os
     refine wpAny_pure ?_
     show wpAny _ _ (ret Value.none) _ _ _
     refine wpAny_pure ⟨rfl,h',tk',kb,rfl,hS',g,fun b o e=> ?_⟩
     have hb:=Heap.lt_size e
     refine m.heap b o (fun z=> ?_) (Heap.get?_push_of_some _ (Heap.get?_push_of_some _ e))
     rcases List.mem_cons.mp z with z | z
     ·exact absurd z (Nat.ne_of_lt hb)
     ·have z':=List.mem_singleton.mp z
      rw [z',szI] at hb
      exact Nat.lt_irrefl _ (Nat.lt_trans (Nat.lt_succ_self _) hb)
   ·cases r₂ with
    | error e=> exact hr₂
    | ok fl₂=>
     cases fl₂ with
     | ret r=>
      obtain ⟨rfl,h',tk,kb,rfl,hS',g,hk'⟩:=hr₂
      repeat (any_goals (first | assumption | wp_step))
      exact h _ _ kb hS' g hk'
     | _=> exact hr₂.elim
  | _=> exact hr.elim
end
end ST
namespace ST
open PySem PySem.SetTable
theorem ci:Slot "set_iterator" "__next__" "set_iterator.__next__":=
 .of (owner:="set_iterator") (n:="__next__") (by rw [typeLookup_type,builtinLookup_eq_fast]; kernel_rfl) (by decide+kernel) (by decide+kernel) (by decide+kernel) (by first | exact .inl (by decide+kernel) | exact .inr (by decide+kernel)) (by rw [isSubtype_type]; kernel_rfl)
theorem fy:entryFor table "set_iterator.__next__"=some Builtin.«set_iterator.__next__»:=entryFor_of_tree (by kernel_rfl)
theorem gw (a:Value):argsOk "set_iterator.__next__" ⟨[a],[]⟩:=by unfold argsOk; kernel_rfl
theorem jt:entryFor table "set.__iter__"=some Builtin.«frozenset.__iter__»:=entryFor_alias (id':="frozenset.__iter__") (by kernel_rfl) rfl (by decide+kernel) (by kernel_rfl)
theorem ja {α:Type} {l:List α} {i:Nat} (h:i < l.length):(l[i]::l.eraseIdx i).Perm l:=by
 rw [List.eraseIdx_eq_take_drop_succ]
 refine List.perm_middle.symm.trans ?_
 rw [← List.drop_eq_getElem_cons h,List.take_append_drop]
theorem jK {α:Type} (next:Nat→Nat):∀ (fuel k:Nat) (left:List α) (out:Array α),left.length=fuel→(pickOrder.go next fuel k left out).toList.Perm (out.toList++left)
 | 0,k,left,out,h=> by
  obtain rfl:left=[]:=List.length_eq_zero_iff.mp h
  rw [pickOrder.go,List.append_nil]
 | fuel+1,k,left,out,h=> by
  have hi:next k % left.length < left.length:=Nat.mod_lt _ (by omega)
  rw [pickOrder.go,List.getElem?_eq_getElem hi]
  refine (jK next fuel (k+1) _ _ (by rw [List.length_eraseIdx_of_lt hi]; omega)).trans ?_
  rw [Array.toList_push,List.append_assoc]
  refine List.Perm.append_left _ ?_
  rw [List.singleton_append]
  exact ja hi
theorem lw {α:Type} (next:Nat→Nat) (xs:Array α):(pickOrder next xs).toList.Perm xs.toList:=by
 unfold pickOrder
 have:=jK next xs.size 0 xs.toList #[] (by simp)
 simpa using this
section
variable {prog:Program} {w:World} {A:Around} {E:Value→Shared→Prop} {s:Shared}
def bv (w:World) (S:Addr) (es:Array (Int×Value)) (ep:Nat):List Value:=(if w.params.followText "set-order"=true then pickOrder (w.params.setOrder S ep) es else es).toList.map (·.2)
theorem cR (w:World) (S:Addr) (es:Array (Int×Value)) (ep:Nat):(bv w S es ep).Perm (es.toList.map (·.2)):=by
 unfold bv
 refine List.Perm.map _ ?_
 split
 ·exact lw _ es
 ·exact List.Perm.refl _
def dw (t:SetTable):Nat→Nat
 | 0=> 0
 | j+1=> t.place.getD j 0+1
def ax (w:World) (t:SetTable) (i:Nat):Nat:=if w.params.followText "set-order"=true then 0 else dw t i
def i_ (w:World) (h:Heap) (it S:Addr) (t:SetTable) (i n ep:Nat):Prop:=∃ o,h.get? it=some o∧o.cls=.type "set_iterator"∧o.data=.fields #[rawInt (ax w t i),rawInt i,.ref S,rawInt n,rawInt ep]
theorem i_.ty {it S:Addr} {t:SetTable} {i n ep:Nat} (x:i_ w s.heap it S t i n ep):s.TypeIs (.ref it) "set_iterator":=let ⟨o,ho,hc,_⟩:=x; ⟨o,ho,hc⟩
structure SO (prog:Program) (w:World) (o:Obj) (es:Array (Int×Value)) (ep:Nat) (t:SetTable) (hs:List Int):Prop where
 ex:o.ExactSet
 d:o.data=.set es ep t
 T:TOk t hs
 n:hs.length=es.size
 led:t.led=(!w.params.followText "set-order")
 plain:t.plain=true
theorem mB {S:Addr} {o:Obj} {es ep t hs} {Q:Bool→Shared→Prop} (O:SO prog w o es ep t hs) (ho:s.heap.get? S=some o) (h:Q false s):wpAny (model prog w) A (setDrawn S) Q E s:=by
 unfold setDrawn setsByText
 refine wpAny_bind (wpAny_setState_of ho O.d (O.T.fits O.n) (wpAny_bind (wpAny_bind (wpAny_askSetting (wpAny_pure (wpAny_pure ?_))))))
 have q:Q (!w.params.followText "set-order" && (!t.plain && decide (es.size > 1))) s:=by rw [O.plain]; simpa using h
 exact q
theorem mD {S:Addr} {o:Obj} {es ep t hs} {Q:Value→Shared→Prop} (O:SO prog w o es ep t hs) (ho:s.heap.get? S=some o)
  (hQ:Q (.ref s.heap.objs.size) { s with heap:=s.heap.push { cls:=.type "set_iterator",data:=.fields #[rawInt 0,rawInt 0,.ref S,rawInt es.size,rawInt ep] } }):wpAny (model prog w) A (pyIter (.ref S)) Q E s:=by
 have hT:s.TypeIs (.ref S) "set":=⟨o,ho,O.ex.1⟩
 refine wpAny_pyIter_slot hT PySem.F.slot_set_iter (wpAny_call_entry PySem.F.slot_set_iter hT jt ?_ (PySem.F.args_set_iter_1 _))
 unfold Builtin.«frozenset.__iter__»
 show wpAny _ _ (Builtin.Frozenset.sizeOf S >>=_) _ _ s
 unfold Builtin.Frozenset.sizeOf
 refine wpAny_bind (wpAny_bind (wpAny_setEntries_of ho O.d (O.T.fits O.n) (wpAny_pure ?_)))
 refine wpAny_bind (mB O ho ?_)
 simp only [Bool.false_eq_true,if_false]
 refine wpAny_bind (wpAny_pure ?_)
 refine wpAny_bind (wpAny_setEpoch_of ho O.d (O.T.fits O.n) ?_)
 refine wpAny_bind (wpAny_newObj_type (wpAny_pure ⟨_,rfl,"set_iterator",_,⟨_,Heap.get?_push_size _ rfl,rfl⟩,ci.lookup,?_⟩))
 exact hQ
theorem je {t:SetTable} {hs:List Int} (T:TOk t hs) {i:Nat} (hi:i≤t.place.size):below t.place (dw t i)=i:=by
 obtain ⟨h1,h2,h3⟩:=cV T.R (dw t i)
 cases i with
 | zero=>
  dsimp only [dw] at *
  rcases Nat.eq_zero_or_pos (below t.place 0) with z | z
  ·exact z
  ·have:=h1 0 _ z (cA (by omega)); omega
 | succ j=>
  dsimp only [dw] at *
  have hj:j < t.place.size:=by omega
  have ej:t.place.getD j 0=t.place[j]:=by simp [Array.getD,hj]
  rw [ej] at h1 h2 h3 ⊢
  generalize hb:below t.place (t.place[j]+1)=b at *
  rcases Nat.lt_trichotomy b (j+1) with z | z | z
  ·have:=h2 j t.place[j] (by omega) (cA hj); omega
  ·exact z
  ·have q:=h1 (j+1) _ z (cA (by omega))
   have:=T.R j (j+1) _ _ (by omega) (cA hj) (cA (show j+1 < t.place.size by omega))
   omega
theorem fk {S:Addr} {o:Obj} {es ep t hs} {i:Nat} {Q:Option (Value×Nat)→Shared→Prop} (O:SO prog w o es ep t hs) (ho:s.heap.get? S=some o) (hi:i≤es.size)
  (h:Q (((bv w S es ep)[i]?).map fun v=> (v,ax w t (i+1))) s):wpAny (model prog w) A (setNext S (ax w t i) i ep) Q E s:=by
 have hfit:=O.T.fits O.n
 have hpl:t.place.size=es.size:=by rw [O.T.n,O.n]
 unfold setNext setsByText
 refine wpAny_bind (wpAny_setState_of ho O.d hfit (wpAny_bind (wpAny_bind (wpAny_askSetting (wpAny_pure ?_)))))
 by_cases bt:w.params.followText "set-order"=true
 ·dsimp only
  rw [show (model prog w).w.params.followText "set-order"=true from bt,if_pos rfl,if_neg (by simp)]
  unfold setWalk setsByText
  refine wpAny_bind (wpAny_bind (wpAny_setState_of ho O.d hfit (wpAny_bind (wpAny_bind (wpAny_askSetting (wpAny_pure ?_))))))
  dsimp only
  rw [show (model prog w).w.params.followText "set-order"=true from bt,if_pos rfl]
  refine wpAny_bind (wpAny_askSetting (wpAny_pure (wpAny_pure ?_)))
  have e:Option.map (fun (e:Int×Value)=> (e.2,ax w t i)) (pickOrder (w.params.setOrder S ep) es)[i]?=((bv w S es ep)[i]?).map fun v=> (v,ax w t (i+1)):=by
   unfold bv ax
   rw [if_pos bt,if_pos bt,if_pos bt,List.getElem?_map,Array.getElem?_toList,Option.map_map]
   rfl
  have q:Q (Option.map (fun (e:Int×Value)=> (e.2,ax w t i)) (pickOrder (w.params.setOrder S ep) es)[i]?) s:=by rw [e]; exact h
  exact q
 ·have bf:w.params.followText "set-order"=false:=by simpa using bt
  dsimp only
  rw [show (model prog w).w.params.followText "set-order"=false from bf,if_neg (by simp)]
  have e1:ax w t i=dw t i:=by unfold ax; rw [if_neg bt]
  have e2:below t.place (ax w t i)=i:=by rw [e1]; exact je O.T (by omega)
  have e3:(match es[below t.place (ax w t i)]?,t.place[below t.place (ax w t i)]? with
    | some (_,x),some j=> some (x,j+1)
    | _,_=> none)=((bv w S es ep)[i]?).map fun v=> (v,ax w t (i+1)):=by
   rw [e2]
   unfold bv ax
   rw [if_neg bt,if_neg bt,List.getElem?_map,Array.getElem?_toList]
   rcases Nat.lt_or_ge i es.size with z | z
   ·have z':i < t.place.size:=by omega
    simp [z,z',Array.getD,dw]
   ·have z':t.place.size≤i:=by omega
    simp [z,z']
  split
  ·rename_i hc
   exact absurd (show (!t.plain && decide (es.size > 1))=true from hc) (by rw [O.plain]; simp)
  ·refine wpAny_bind ?_
   show wpAny _ _ (if (!t.led && !es.isEmpty)=true then unsupported "set:maker-not-led" else pure ()) _ _ _
   rw [O.led,bf,if_neg (by simp)]
   refine wpAny_pure (wpAny_pure ?_)
   have q:Q (match es[below t.place (ax w t i)]?,t.place[below t.place (ax w t i)]? with
    | some (_,x),some j=> some (x,j+1)
    | _,_=> none) s:=by rw [e3]; exact h
   exact q
set_option maxHeartbeats 1000000 in
theorem k_ {S it:Addr} {o:Obj} {es ep t hs} {i:Nat} {v:Value} {Q:Option Value→Shared→Prop} (O:SO prog w o es ep t hs) (ho:s.heap.get? S=some o) (hit:i_ w s.heap it S t i es.size ep) (hv:(bv w S es ep)[i]?=some v)
  (hQ:∀ h',i_ w h' it S t (i+1) es.size ep→Heap.SameBut it s.heap h'→Q (some v) { s with heap:=h' }):wpAny (model prog w) A (pyNext (.ref it)) Q E s:=by
 obtain ⟨oi,hoi,hc,hd⟩:=id hit
 have hfit:=O.T.fits O.n
 unfold pyNext
 refine wpAny_bind (wpAny_attempt (wpAny_callSpecial?_slot (name:=Str.ofString "__next__") hit.ty ci (wpAny_call_entry ci hit.ty fy ?_ (gw _))))
 unfold Builtin.«set_iterator.__next__»
 refine wpAny_bind (m:=slotArgs "__next__" 0 _) (wpAny_pure ?_)
 dsimp only
 refine wpAny_bind (wpAny_fieldsOf hoi hd ?_)
 dsimp only [rawInt]
 refine wpAny_bind (wpAny_setEntries_of ho O.d hfit ?_)
 rw [if_neg (by simp)]
 have hlt:i < es.size:=by
  have q:=(List.getElem?_eq_some_iff.mp hv).1
  rw [(cR w S es ep).length_eq,List.length_map,Array.length_toList] at q
  exact q
 rw [show ((ax w t i:Nat):Int).toNat=ax w t i from Int.toNat_natCast _,show ((i:Nat):Int).toNat=i from Int.toNat_natCast _,show ((ep:Nat):Int).toNat=ep from Int.toNat_natCast _]
 refine wpAny_bind (fk O ho (Nat.le_of_lt hlt) ?_)
 rw [hv]
 dsimp only [Option.map]
 refine wpAny_bind (wpAny_setField hoi hd (by simp) ?_)
 have g1:=Heap.get?_update_self (Obj.mapFields (·.setIfInBounds 0 (Value.int ((ax w t (i+1):Nat):Int) 0))) hoi (Obj.isFreed_of_fields (Obj.data_mapFields hd _))
 refine wpAny_bind (wpAny_setField g1 (Obj.data_mapFields hd _) (by simp) ?_)
 refine wpAny_pure ⟨_,rfl,wpAny_pure (hQ _ ?_ ((Heap.SameBut.update ..).trans (Heap.SameBut.update ..)))⟩
 refine ⟨_,Heap.get?_update_self _ g1 (Obj.isFreed_of_fields (Obj.data_mapFields (Obj.data_mapFields hd _) _)),(Obj.cls_mapFields ..).trans ((Obj.cls_mapFields ..).trans hc),?_⟩
 rw [Obj.data_mapFields (Obj.data_mapFields hd _)]
 simp [rawInt]
set_option maxHeartbeats 1000000 in
theorem mC {S it:Addr} {o:Obj} {es ep t hs} {Q:Option Value→Shared→Prop} (hh:A.handled=none) (O:SO prog w o es ep t hs) (ho:s.heap.get? S=some o) (hit:i_ w s.heap it S t es.size es.size ep)
  (hQ:∀ h',Heap.ExtBut it s.heap h'→Q none { s with heap:=h' }):wpAny (model prog w) A (pyNext (.ref it)) Q E s:=by
 obtain ⟨oi,hoi,hc,hd⟩:=id hit
 have hfit:=O.T.fits O.n
 unfold pyNext
 refine wpAny_bind (wpAny_attempt (wpAny_callSpecial?_slot (name:=Str.ofString "__next__") hit.ty ci (wpAny_call_entry ci hit.ty fy ?_ (gw _))))
 unfold Builtin.«set_iterator.__next__»
 refine wpAny_bind (m:=slotArgs "__next__" 0 _) (wpAny_pure ?_)
 dsimp only
 refine wpAny_bind (wpAny_fieldsOf hoi hd ?_)
 dsimp only [rawInt]
 refine wpAny_bind (wpAny_setEntries_of ho O.d hfit ?_)
 rw [if_neg (by simp)]
 rw [show ((ax w t es.size:Nat):Int).toNat=ax w t es.size from Int.toNat_natCast _,show ((es.size:Nat):Int).toNat=es.size from Int.toNat_natCast _,show ((ep:Nat):Int).toNat=ep from Int.toNat_natCast _]
 refine wpAny_bind (fk O ho (Nat.le_refl _) ?_)
 rw [show (bv w S es ep)[es.size]?=none from List.getElem?_eq_none (by rw [(cR w S es ep).length_eq,List.length_map,Array.length_toList]; exact Nat.le_refl _)]
 dsimp only [Option.map]
 refine wpAny_bind (wpAny_setField hoi hd (by simp) ?_)
 refine wpAny_bind ?_
 simp only [newExc,newTuple]
 refine wpAny_bind (wpAny_newObj_type ?_ (by size_fits))
 refine wpAny_bind (m:=firstArgMember _ _) (wpAny_of_eq (a:=Value.none) (by first | rfl | (simp only [firstArgMember]; rfl)) ?_)
 refine wpAny_newObj_type ?_ (by size_fits)
 simp only [raiseNew]
 refine wpAny_bind (wpAny_handled ?_)
 rw [show A.in1.handled=none from hh]
 refine wpAny_bind (wpAny_pure (wpAny_throw ?_))
 refine wpAny_bind (wpAny_isInstance (T:="StopIteration") (b:=true) ⟨_,Heap.get?_push_size _ rfl,rfl⟩ isSubtype_stop ?_)
 exact wpAny_pure (hQ _ (((Heap.SameBut.update ..).extBut.push _).push _))
end
end ST
namespace ST
open PySem PySem.SetTable PySem.W
theorem gK:Slot "set_iterator" "__iter__" "set_iterator.__iter__":=
 .of (owner:="set_iterator") (n:="__iter__") (by rw [typeLookup_type,builtinLookup_eq_fast]; kernel_rfl) (by decide+kernel) (by decide+kernel) (by decide+kernel) (by first | exact .inl (by decide+kernel) | exact .inr (by decide+kernel)) (by rw [isSubtype_type]; kernel_rfl)
theorem jh:entryFor table "set_iterator.__iter__"=some Builtin.«dict_keyiterator.__iter__»:=entryFor_alias (id':="dict_keyiterator.__iter__") (by kernel_rfl) rfl (by decide+kernel) (by kernel_rfl)
theorem kw (a:Value):argsOk "set_iterator.__iter__" ⟨[a],[]⟩:=by unfold argsOk; kernel_rfl
section
variable {prog:Program} {w:World} {A:Around} {E:Value→Shared→Prop} {s:Shared}
theorem nA {it S:Addr} {t:SetTable} {i n ep:Nat} {Q:Value→Shared→Prop} (hit:i_ w s.heap it S t i n ep) (h:Q (.ref it) s):wpAny (model prog w) A (pyIter (.ref it)) Q E s:=by
 refine wpAny_pyIter_slot hit.ty gK (wpAny_call_entry gK hit.ty jh ?_ (kw _))
 exact wpAny_pure ⟨_,rfl,"set_iterator",_,hit.ty,ci.lookup,h⟩
theorem kL (hh:A.handled=none) {it S:Addr} (hne:S≠it) {o:Obj} {es ep t hs} (O:SO prog w o es ep t hs):
  Walks prog w A it [it,S] [it] es.size (fun i v=> (bv w S es ep)[i]?=some v) (fun i h=> i_ w h it S t i es.size ep∧h.get? S=some o) where
 sub:=fun b hb=> by simp at hb; simp [hb]
 frame:=fun _ _ _ st hk=> ⟨let ⟨x,hx,r⟩:=st.1; ⟨x,hk it (by simp) x hx,r⟩,hk S (by simp) o st.2⟩
 item:=fun i s Q E hi st hQ=> by
  obtain ⟨v,hv⟩:∃ v,(bv w S es ep)[i]?=some v:=⟨_,List.getElem?_eq_getElem (by rw [(cR w S es ep).length_eq,List.length_map,Array.length_toList]; exact hi)⟩
  refine k_ O st.2 st.1 hv fun h' hit' sb=> ?_
  exact hQ v h' s.toks hv ⟨hit',(sb.2 S hne).trans st.2⟩ fun b x hb e=> sb.extBut b x (fun z=> hb (by simp [z])) e
 done:=fun s Q E st hQ=> mC hh O st.2 st.1 fun h' xb=> hQ h' s.toks fun b x hb e=> xb b x (fun z=> hb (by simp [z])) e
 self:=fun _ _ _ _ st hQ=> nA st.1 hQ
theorem nt {r:Addr} {Q:Bool→Shared→Prop} (hT:s.TypeIs (.ref r) "set") (h:Q false s):wpAny (model prog w) A (Builtin.List.listLengthHint (.ref r)) Q E s:=by
 unfold Builtin.List.listLengthHint
 refine wpAny_bind (wpAny_specialOf hT PySem.F.slot_set_len.lookup ?_)
 generalize hid:("set.__len__":String)=id0
 wp_delta
 rw [show splitId id0=some ("set","__len__") from by subst hid; decide+kernel]
 subst hid
 refine wpAny_bind (wpAny_isInstance (T:="set") (b:=true) hT (by rw [isSubtype_type]; kernel_rfl) ?_)
 refine wpAny_ite_split (fun z=> absurd z (by decide)) (fun _=> ?_)
 refine wpAny_ite_split (fun _=> ?_) (fun z=> absurd (by decide+kernel) z)
 exact wpAny_bind (wpAny_typeOf hT (wpAny_pure h))
theorem ox {S:Addr} {o:Obj} {es ep t hs} (O:SO prog w o es ep t hs):KdlSrc prog w "set" S S es.size (fun i v=> (bv w S es ep)[i]?=some v) (fun h=> h.get? S=some o) where
 type:=fun _ hm=> ⟨o,hm,O.ex.1⟩
 there:=fun _ hm=> ⟨Heap.lt_size hm,Heap.lt_size hm⟩
 keep:=fun _ _ hm hk=> hk S (.inl rfl) o hm
 notList:=by decide
 notTuple:=by decide
 hint:=fun _ _ _ _ hm hq=> nt ⟨o,hm,O.ex.1⟩ hq
 iter:=fun _ s hh hm=> ⟨_,_,(fun _ _ hq=> mD O hm hq),kL hh (Nat.ne_of_lt (Heap.lt_size hm)) O,⟨⟨_,Heap.get?_push_size _ rfl,rfl,by simp [ax,dw]⟩,Heap.get?_push_of_some _ hm⟩⟩
end
end ST
namespace ST
open PySem PySem.W PyProof.Rows
inductive qi (lt:Nat→Nat→Bool) (n:Nat) {α:Type}:KasT α→α→Prop
 | ret (a:α):qi lt n (.ret a) a
 | ask {i j:Nat} {k:Bool→KasT α} {a:α}:i < n→j < n→qi lt n (k (lt i j)) a→qi lt n (.ask i j k) a
variable {lt:Nat→Nat→Bool} {n:Nat}
structure LtO (n:Nat) (lt:Nat→Nat→Bool):Prop where
 tr:∀ i j k,lt i j=true→lt j k=true→lt i k=true
 tot:∀ i j,i < n→j < n→i≠j→lt i j=false→lt j i=true
 asy:∀ i j,lt i j=true→lt j i=false
abbrev g (p:Array Nat) (k:Nat):Nat:=p.getD k 0
structure PP (n:Nat) (p:Array Nat):Prop where
 perm:p.toList.Perm (List.range n)
end ST
namespace ST
open PySem PySem.W PyProof.Rows
def ltP (a b:Int×Int):Bool:=decide (a.1 < b.1∨(a.1=b.1∧a.2 < b.2))
theorem md {a b c:Int×Int} (h1:ltP a b=true) (h2:ltP b c=true):ltP a c=true:=by
 unfold ltP at *; simp at *; omega
theorem oC {a b:Int×Int} (h1:ltP a b=true):ltP b a=false:=by
 unfold ltP at *; simp at *; omega
theorem jY {a b:Int×Int} (h:a≠b) (h1:ltP a b=false):ltP b a=true:=by
 unfold ltP at *
 have:¬ (a.1=b.1∧a.2=b.2):=fun z=> h (Prod.ext z.1 z.2)
 simp at *; omega
section
variable {prog:Program} {w:World} {A:Around} {E:Value→Shared→Prop} {s:Shared}
theorem TK.two {h:Heap} {x y:Int} {b:Addr} (k:TK prog w h [x,y] b):∃ o its n t u,h.get? b=some o∧o.cls=.type "tuple"∧o.data=.seq its n∧its.toList=[.int x t,.int y u]:=by
 obtain ⟨o,its,n,ho,hc,hd,hi⟩:=k
 cases hi':its.toList with
 | nil=> rw [hi'] at hi; cases hi
 | cons v1 r=>
  rw [hi'] at hi
  cases hi with
  | cons h1 hr=>
   cases hr with
   | cons h2 hr2=>
    cases hr2
    obtain ⟨t,rfl⟩:=Value.isInt_shape h1
    obtain ⟨u,rfl⟩:=Value.isInt_shape h2
    exact ⟨o,its,n,t,u,ho,hc,hd,hi'⟩
theorem qH {x y:Addr} {a b:Int×Int} {Q:Bool→Shared→Prop} (hx:TK prog w s.heap [a.1,a.2] x) (hy:TK prog w s.heap [b.1,b.2] y) (h:Q (ltP a b) s):wpAny (model prog w) A (keyLt' (tuples' true) (.ref x) (.ref y)) Q E s:=by
 obtain ⟨o,its,n,t,u,ho,_,hd,hi⟩:=hx.two
 obtain ⟨o',its',n',t',u',ho',_,hd',hi'⟩:=hy.two
 refine kat_lt ho hd ho' hd' ?_
 rw [hi,hi']
 refine kat_cons ((intKind prog w).eqBool (a:=a.1) (b:=b.1) (intKind_is _ _ _ _) (intKind_is _ _ _ _) ?_)
 by_cases e1:a.1=b.1
 ·rw [decide_eq_true e1]
  refine kat_yes (kat_cons ((intKind prog w).eqBool (a:=a.2) (b:=b.2) (intKind_is _ _ _ _) (intKind_is _ _ _ _) ?_))
  by_cases e2:a.2=b.2
  ·rw [decide_eq_true e2]
   refine kat_yes (kat_nil ?_)
   have z:ltP a b=false:=by unfold ltP; simp; omega
   rw [z] at h
   have z2:decide (its.size < its'.size)=false:=by
    rw [← Array.length_toList,← Array.length_toList,hi,hi']; simp
   rw [z2]; exact h
  ·rw [decide_eq_false e2]
   refine kat_no (kat_one _ _ (lt_int ?_))
   have z:ltP a b=decide (a.2 < b.2):=by unfold ltP; rw [e1]; simp
   rw [z] at h
   exact h
 ·rw [decide_eq_false e1]
  refine kat_no (oneLt_int ?_)
  have z:ltP a b=decide (a.1 < b.1):=by unfold ltP; simp [e1]
  rw [z] at h
  exact h
abbrev PB:=List ((Int×Int)×Addr)
abbrev refs (pb:PB):List Value:=pb.map fun p=> Value.ref p.2
theorem mw {pb:PB} {Q:SortKind→Shared→Prop} (htk:∀ p∈pb,TK prog w s.heap [p.1.1,p.1.2] p.2) (h0:0 < pb.length) (h:Q (tuples' true) s):wpAny (model prog w) A (keyKind' (refs pb).toArray) Q E s:=by
 obtain ⟨fs,hf,hl,hi⟩:∃ fs,KatTups s.heap (refs pb) fs∧fs.length=pb.length∧∀ v∈fs,∃ n t,v=Value.int n t:=by
  clear h h0
  induction pb with
  | nil=> exact ⟨[],.nil,rfl,fun v hv=> by simp at hv⟩
  | cons p r ih=>
   obtain ⟨fs,hf,hl,hi⟩:=ih fun q hq=> htk q (List.mem_cons_of_mem _ hq)
   obtain ⟨o,its,n,t,u,ho,hc,hd,hit⟩:=(htk p List.mem_cons_self).two
   refine ⟨.int p.1.1 t::fs,.cons ho hc hd (by rw [← Array.getElem?_toList,hit]; rfl) hf,by simp [hl],fun v hv=> ?_⟩
   rcases List.mem_cons.mp hv with z | z
   ·exact ⟨_,_,z⟩
   ·exact hi v z
 refine kat_kind (T:=.type "int") hf (by omega) (fun v hv=> ?_) (by decide) h
 obtain ⟨n,t,rfl⟩:=hi v hv
 exact Looks.of_pure rfl
end
end ST
namespace ST
open PySem PySem.W PyProof.Rows PySem.Calls
theorem mi {α β:Type} (f:α→β) {l m:List β} (h:l.Perm m):∀ kb:List α,m=kb.map f→∃ kb':List α,List.Perm kb' kb∧l=List.map f kb':=by
 induction h with
 | nil=> intro kb e; exact ⟨kb,.refl _,e⟩
 | @cons x l m _ ih=>
  intro kb e
  match kb,e with
  | [],e=> simp at e
  | k::kb,e=>
   rw [List.map_cons,List.cons.injEq] at e
   obtain ⟨kb',p,e'⟩:=ih kb e.2
   exact ⟨k::kb',p.cons k,by rw [List.map_cons,← e',e.1]⟩
 | swap x y l=>
  intro kb e
  match kb,e with
  | [],e=> simp at e
  | [_],e=> simp at e
  | k::k'::kb,e=>
   simp only [List.map_cons,List.cons.injEq] at e
   exact ⟨k'::k::kb,.swap k k' kb,by rw [List.map_cons,List.map_cons,← e.2.2,e.1,e.2.1]⟩
 | trans _ _ ih1 ih2=>
  intro kb e
  obtain ⟨kb2,p2,e2⟩:=ih2 kb e
  obtain ⟨kb1,p1,e1⟩:=ih1 kb2 e2
  exact ⟨kb1,p1.trans p2,e1⟩
def ptsOf (kb:List (List Int×Addr)):PB:=kb.map fun p=> ((p.1.getD 0 0,p.1.getD 1 0),p.2)
section
variable {prog:Program} {w:World} {A:Around} {E:Value→Shared→Prop} {s:Shared}
end
end ST
namespace ST
open PySem
def ins (x:Int×Int):List (Int×Int)→List (Int×Int)
 | []=> [x]
 | y::r=> if x=y then y::r else if ltP x y=true then x::y::r else y::ins x r
def srt (pts:List (Int×Int)):List (Int×Int):=pts.foldr ins []
theorem h9 (x z:Int×Int):∀ l,z∈ins x l↔z=x∨z∈l
 | []=> by simp [ins]
 | y::r=> by
  unfold ins
  split
  ·rename_i h; subst h; simp
  ·split
   ·simp
   ·rw [List.mem_cons,h9 x z r,List.mem_cons]
    constructor
    ·rintro (h | h | h)
     ·exact .inr (.inl h)
     ·exact .inl h
     ·exact .inr (.inr h)
    ·rintro (h | h | h)
     ·exact .inr (.inl h)
     ·exact .inl h
     ·exact .inr (.inr h)
abbrev Asc (l:List (Int×Int)):Prop:=l.Pairwise (fun x y=> ltP x y=true)
theorem jT (x:Int×Int):∀ l,Asc l→Asc (ins x l)
 | [],_=> by simp [ins]
 | y::r,h=> by
  unfold ins
  split
  ·exact h
  ·rename_i hne
   obtain ⟨h1,h2⟩:=List.pairwise_cons.mp h
   split
   ·rename_i hlt
    refine List.pairwise_cons.mpr ⟨fun z hz=> ?_,h⟩
    rcases List.mem_cons.mp hz with e | e
    ·rw [e]; exact hlt
    ·exact md hlt (h1 z e)
   ·rename_i hlt
    refine List.pairwise_cons.mpr ⟨fun z hz=> ?_,jT x r h2⟩
    rcases (h9 x z r).mp hz with e | e
    ·rw [e]; exact jY hne (by simpa using hlt)
    ·exact h1 z e
theorem srt_mem (z:Int×Int):∀ l,z∈srt l↔z∈l
 | []=> by simp [srt]
 | y::r=> by
  show z∈ins y (srt r)↔_
  rw [h9,srt_mem z r,List.mem_cons]
theorem srt_asc:∀ l,Asc (srt l)
 | []=> List.Pairwise.nil
 | y::r=> jT y (srt r) (srt_asc r)
theorem jE {x:Int×Int}:ltP x x=false:=by unfold ltP; simp
theorem asc_one:∀ {l m:List (Int×Int)},Asc l→Asc m→(∀ z,z∈l↔z∈m)→l=m
 | [],[],_,_,_=> rfl
 | [],y::r,_,_,h=> by have:=(h y).mpr List.mem_cons_self; simp at this
 | x::l,[],_,_,h=> by have:=(h x).mp List.mem_cons_self; simp at this
 | x::l,y::m,hl,hm,h=> by
  obtain ⟨a1,a2⟩:=List.pairwise_cons.mp hl
  obtain ⟨b1,b2⟩:=List.pairwise_cons.mp hm
  have e:x=y:=by
   rcases List.mem_cons.mp ((h x).mp List.mem_cons_self) with z | z
   ·exact z
   ·rcases List.mem_cons.mp ((h y).mpr List.mem_cons_self) with z' | z'
    ·exact z'.symm
    ·have:=oC (b1 x z)
     rw [a1 y z'] at this; cases this
  subst e
  congr 1
  refine asc_one a2 b2 fun z=> ⟨fun hz=> ?_,fun hz=> ?_⟩
  ·rcases List.mem_cons.mp ((h z).mp (List.mem_cons_of_mem _ hz)) with e | e
   ·have:=a1 z hz; rw [e,jE] at this; cases this
   ·exact e
  ·rcases List.mem_cons.mp ((h z).mpr (List.mem_cons_of_mem _ hz)) with e | e
   ·have:=b1 z hz; rw [e,jE] at this; cases this
   ·exact e
theorem asc_srt {l:List (Int×Int)} (h:Asc l):srt l=l:=asc_one (srt_asc l) h fun z=> srt_mem z l
theorem jG (x:Int×Int):∀ l,(ins x l).length≤l.length+1
 | []=> by simp [ins]
 | y::r=> by
  have:=jG x r
  unfold ins
  split
  ·simp
  ·split
   ·simp
   ·simp only [List.length_cons]; omega
theorem srt_len:∀ l,(srt l).length≤l.length
 | []=> Nat.le_refl _
 | y::r=> by
  have h1:=jG y (srt r)
  have h2:=srt_len r
  show (ins y (srt r)).length≤_
  simp only [List.length_cons]; omega
end ST
namespace L2
open PySem PySem.Spec PyProof.Rows
theorem sK {p:Nat→Addr→Prop} {n:Nat} (h:∀ i,i < n→∃ b,p i b):∃ f:Nat→Addr,∀ i,i < n→p i (f i):=by
 refine ⟨fun i=> if k:i < n then Classical.choose (h i k) else 0,fun i hi=> ?_⟩
 dsimp only
 rw [dif_pos hi]
 exact Classical.choose_spec (h i hi)
theorem lE:bootBuiltins "set"=some (.type "set"):=by decide+kernel
section
variable {X:Cx} {H0:Hp} {O0:List Addr} {ps:PSt} {e:Expr} {pts:List P2} {pos pos' p p':Pos}
end
end L2
namespace ST
open PySem
section
variable {prog:Program} {w:World} {A:Around} {s:Shared} {R:Result→Shared→Prop} {I:Addr} {fp wr:List Addr} {G:Array GenState→Array GenState→Prop} {n:Nat} {P:Nat→Value→Prop} {St:Nat→Shared→Prop} {T:String}
def oN (prog:Program) (w:World) (T:String):Prop:=∀ (A:Around) (E:Value→Shared→Prop) (s:Shared) (r:Addr) (Q:Bool→Shared→Prop),s.TypeIs (.ref r) T→(∀ b,Q b s)→wpAny (model prog w) A (Builtin.List.listLengthHint (.ref r)) Q E s
theorem kJ (W:WalksS prog w A.in1 I fp wr G n P St) (hT:∀ i s,St i s→s.TypeIs (.ref I) T) (hl:(Value.type T==Value.type "list")=false) (ht:(Value.type T==Value.type "tuple")=false) (hint:oN prog w T) (S:Addr) (res:Value) (c₀:Nat) (hst:St 0 s) (hSf:S ∉ fp) (hI:I∈fp)
  (hS:s.heap.get? S=some { cls:=.type "list",data:=.seq #[] c₀ })
  (hR:∀ s' acc' c',Moved (S::wr) G s s'→s'.heap.get? S=some { cls:=.type "list",dict:=none,data:=.seq acc' c',slots:=#[] }→ItemsOf P acc' n→R (.ok (.ret res)) s') (hn:n≤sizeLine):
  wpAny (model prog w) A.in1 (Builtin.List.listExtendWith (.ref S) (.ref I) res)
   (fun fin s'=> match fin with | .done f=> R (.ok f) s' | .again c'=> c'.quiet=true∧codeAny (model prog w) A c' R s') (fun e s'=> R (.error e) s') s:=by
 have hSI:S≠I:=fun e=> hSf (e ▸ hI)
 unfold Builtin.List.listExtendWith
 refine wpAny_bind (wpAny_typeOf (hT 0 _ hst) ?_)
 have k1:Builtin.List.listSameRef (.ref S) (.ref I)=false:=by simp [Builtin.List.listSameRef,hSI]
 simp only [k1,hl,ht,Bool.or_false,Bool.false_eq_true,if_false]
 refine wpAny_bind (W.self 0 _ _ _ hst (wpAny_bind (wpAny_holding (hint _ _ _ _ _ (hT 0 _ hst) fun b=> ?_))))
 refine wpAny_ite_split (fun _=> ?_) (fun _=> ?_)
 ·refine wpAny_bind (wpAny_rule (wpAny_bind ?_))
  show wpAny _ A.in1 (updateSeq S (·.push .none) >>=fun _=> updateSeq S (·.pop)) _ _ _
  refine wpAny_bind (wpAny_updateSeq hS rfl ?_)
  have g2:=Heap.get?_update_self (Obj.mapSeq (·.push Value.none)) hS rfl
  refine wpAny_updateSeq (hz:=by seq_fits) g2 rfl ?_
  have g3:=Heap.get?_update_self (Obj.mapSeq (·.pop)) g2 rfl
  have oth:∀ b o,b≠S→s.heap.get? b=some o→((s.heap.update S (Obj.mapSeq (·.push Value.none))).update S (Obj.mapSeq (·.pop))).get? b=some o:=fun b o hb e=> (Heap.get?_update_other _ _ (Ne.symm hb)).trans ((Heap.get?_update_other _ _ (Ne.symm hb)).trans e)
  refine wpAny_pure ⟨plainId_quiet PySem.F.plain_extend_loop _,codeAny_extend_loopS W hn _ hSf _ n 0 _ _ _ rfl (Nat.zero_le _) (W.frame 0 s _ s.toks hst (Nat.le_refl _) fun b hb o e=> oth b o (fun z=> hSf (z ▸ hb)) e) g3 (ItemsOf.nil P) fun s' acc' c' m g' it=> ?_⟩
  exact hR s' acc' c' (Moved.trans W.gtrans ((Moved.refl W.grefl).then_heap (Nat.le_refl _) fun b o hb e=> oth b o (fun z=> hb (z ▸ List.mem_cons_self)) e) m) g' it
 ·exact wpAny_pure ⟨plainId_quiet PySem.F.plain_extend_loop _,codeAny_extend_loopS W hn _ hSf _ n 0 _ _ _ rfl (Nat.zero_le _) hst hS (ItemsOf.nil P) fun s' acc' c' m g' it=> hR s' acc' c' m g' it⟩
theorem n9 (W:WalksS prog w A.in1 I fp wr G n P St) (hT:∀ i s,St i s→s.TypeIs (.ref I) T) (hl:(Value.type T==Value.type "list")=false) (ht:(Value.type T==Value.type "tuple")=false) (hint:oN prog w T) (S:Addr) (hst:St 0 s) (hSf:S ∉ fp) (hI:I∈fp)
  (hS:s.heap.get? S=some { cls:=.type "list",data:=.seq #[] })
  (hR:∀ s' acc' c',Moved (S::wr) G s s'→s'.heap.get? S=some { cls:=.type "list",dict:=none,data:=.seq acc' c',slots:=#[] }→ItemsOf P acc' n→R (.ok (.ret .none)) s') (hn:n≤sizeLine):
  wpAny (model prog w) A.in1 (Builtin.«list.__init__» ⟨[.ref S,.ref I],[]⟩)
   (fun fin s'=> match fin with | .done f=> R (.ok f) s' | .again c'=> c'.quiet=true∧codeAny (model prog w) A c' R s') (fun e s'=> R (.error e) s') s:=by
 show wpAny _ A.in1 (Builtin.List.listItems (.ref S) >>=fun old=> Builtin.List.listUpdate (.ref S) (fun _=> #[]) >>=fun _=> letGo old.toList.reverse >>=fun _=> Builtin.List.listExtendWith (.ref S) (.ref I) .none) _ _ s
 refine wpAny_bind ?_
 unfold Builtin.List.listItems
 refine wpAny_bind (wpAny_seqItems hS rfl (wpAny_pure ?_))
 show wpAny _ A.in1 (updateSeq S (fun _=> #[]) >>=fun _=> letGo (#[]:Array Value).toList.reverse >>=fun _=> Builtin.List.listExtendWith (.ref S) (.ref I) .none) _ _ s
 refine wpAny_bind (wpAny_updateSeq hS rfl ?_)
 have g2:=Heap.get?_update_self (Obj.mapSeq (fun _=> (#[]:Array Value))) hS rfl
 have oth:∀ b o,b≠S→s.heap.get? b=some o→(s.heap.update S (Obj.mapSeq (fun _=> (#[]:Array Value)))).get? b=some o:=fun b o hb e=> (Heap.get?_update_other _ _ (Ne.symm hb)).trans e
 refine wpAny_bind (wpAny_letGo ?_)
 refine kJ W hT hl ht hint S .none _ (W.frame 0 s _ s.toks hst (Nat.le_refl _) fun b hb o e=> oth b o (fun z=> hSf (z ▸ hb)) e) hSf hI g2 (fun s' acc' c' m g' it=> ?_) hn
 exact hR s' acc' c' (Moved.trans W.gtrans ((Moved.refl W.grefl).then_heap (Nat.le_refl _) fun b o hb e=> oth b o (fun z=> hb (z ▸ List.mem_cons_self)) e) m) g' it
end
section
variable {prog:Program} {w:World} {A:Around} {E:Value→Shared→Prop} {s:Shared} {I:Addr} {fp wr:List Addr} {G:Array GenState→Array GenState→Prop} {n:Nat} {P:Nat→Value→Prop} {St:Nat→Shared→Prop} {T:String}
theorem call_list_it {Q:Value→Shared→Prop} (W:WalksS prog w A.in1.in1 I fp wr G n P St) (hT:∀ i s,St i s→s.TypeIs (.ref I) T) (hl:(Value.type T==Value.type "list")=false) (ht:(Value.type T==Value.type "tuple")=false) (hint:oN prog w T) (hst:St 0 s) (hfp:∀ b∈fp,b < s.heap.objs.size) (hI:I∈fp)
  (hQ:∀ s' acc' c',Moved (s.heap.objs.size::wr) G { s with heap:=s.heap.push { cls:=.type "list",data:=.seq #[] } } s'→
   s'.heap.get? s.heap.objs.size=some { cls:=.type "list",dict:=none,data:=.seq acc' c',slots:=#[] }→ItemsOf P acc' n→Q (.ref s.heap.objs.size) s') (hn:n≤sizeLine):
  wpAny (model prog w) A (call (.type "list") [.ref I]) Q E s:=by
 have hSf:s.heap.objs.size ∉ fp:=fun hm=> Nat.lt_irrefl _ (hfp _ hm)
 refine callType_codes (Q₁:=fun obj s₁=> obj=.ref s.heap.objs.size∧s₁={ s with heap:=s.heap.push { cls:=.type "list",data:=.seq #[] } }) PySem.F.called_list (PySem.F.typeCall_list_1 _) PySem.F.entry_list_init (code_list_new _ ⟨rfl,rfl⟩) fun obj s₁ h₁=> ?_
 obtain ⟨rfl,rfl⟩:=h₁
 have hS:(s.heap.push { cls:=.type "list",data:=.seq #[] }).get? s.heap.objs.size=some { cls:=.type "list",data:=.seq #[] }:=Heap.get?_push_size _ rfl
 refine ⟨⟨_,hS,rfl⟩,PySem.F.args_list_init_2 _ _,n9 W hT hl ht hint _ (W.frame 0 s _ s.toks hst (Nat.le_refl _) fun b _ o e=> Heap.get?_push_of_some _ e) hSf hI hS (fun s' acc' c' m g' it=> ?_) hn⟩
 exact ⟨rfl,hQ s' acc' c' m g' it⟩
end
theorem nZ:typeLookup (.type "list_reverseiterator") "__len__"=pure none:=by rw [typeLookup_type,builtinLookup_eq_fast]; kernel_rfl
theorem f_:Slot "list_reverseiterator" "__length_hint__" "list_reverseiterator.__length_hint__":=
 .of (owner:="list_reverseiterator") (n:="__length_hint__") (by rw [typeLookup_type,builtinLookup_eq_fast]; kernel_rfl) (by decide+kernel) (by decide+kernel) (by decide+kernel) (by first | exact .inl (by decide+kernel) | exact .inr (by decide+kernel)) (by rw [isSubtype_type]; kernel_rfl)
theorem hint_rev (prog:Program) (w:World):oN prog w "list_reverseiterator":=fun A E s r Q hT h=> by
 unfold Builtin.List.listLengthHint
 refine wpAny_bind (wpAny_specialOf hT nZ ?_)
 show wpAny _ A (specialOf (Value.ref r) (Str.ofString "__length_hint__") >>=_) _ _ _
 refine wpAny_bind (wpAny_specialOf hT f_.lookup ?_)
 generalize hid:("list_reverseiterator.__length_hint__":String)=id0
 wp_delta
 rw [show splitId id0=some ("list_reverseiterator","__length_hint__") from by subst hid; decide+kernel]
 subst hid
 refine wpAny_bind (wpAny_isInstance (T:="list_reverseiterator") (b:=true) hT (by rw [isSubtype_type]; kernel_rfl) ?_)
 refine wpAny_ite_split (fun z=> absurd z (by decide)) (fun _=> ?_)
 refine wpAny_ite_split (fun _=> ?_) (fun z=> absurd (by decide+kernel) z)
 refine wpAny_ite_split (fun z=> absurd z (by decide+kernel)) (fun _=> wpAny_pure (h _))
end ST
namespace L2
open PySem PySem.Spec PyProof.Rows
theorem fZ:bootBuiltins "reversed"=some (.type "reversed"):=by decide+kernel
theorem av.rev:∀ {xs:List V} {us:List Value},av xs us→av xs.reverse us.reverse:=fun {xs us} r=> by
 induction r with
 | nil=> exact .nil
 | @cons x u xs us r1 r2 ih=>
  rw [List.reverse_cons,List.reverse_cons]
  have app:∀ {a:List V} {b:List Value},av a b→av (a++[x]) (b++[u]):=fun {a b} q=> by
   induction q with
   | nil=> exact .cons r1 .nil
   | cons q1 _ ih'=> exact .cons q1 ih'
  exact app ih
theorem Rps.rev {K:PySem.W.Frag} {H:Hp} {vs:List V} {xs:List U} (r:Rps K H vs xs):Rps K H vs.reverse xs.reverse:=⟨by simp [r.len],fun i v x h1 h2=> by
 have hi:i < vs.length:=by have:=aA h1; simpa using this
 have hx:i < xs.length:=by rw [← r.len]; exact hi
 rw [List.getElem?_reverse hi] at h1
 rw [List.getElem?_reverse hx,← r.len] at h2
 exact r.at_ _ v x h1 h2⟩
section
variable {X:Cx} {H0:Hp} {O0:List Addr} {ps:PSt} {e k:Expr} {x:U} {xs:List U} {pos pos' p p' p2:Pos}
theorem qP {K:PySem.W.Frag} {H:Hp} {v:V} (rp:Rp K H v x) (hx:x=.lst xs∨x=.scr xs):∃ a vs,v=.ref a∧SqL K H a vs∧Rps K H vs xs:=by
 rcases hx with rfl | rfl
 ·cases rp with
  | lst hq hl hh=> exact ⟨_,_,rfl,SqL.of hq,hl,hh⟩
 ·cases rp with
  | scr hq hl hh=> exact ⟨_,_,rfl,hq,hl,hh⟩
theorem qX (he:Ev X H0 O0 ps e x) (hk:Ev X H0 O0 ps k (.int (-1))) (hx:x=.lst xs∨x=.scr xs):EvN X H0 O0 ps (.Subscript e (.Slice none none (some k) p2) pos) xs.reverse:=by
 rintro pins s σ H Q I ⟨O,R,q⟩
 refine Subscript_ (thn (he pins s σ H (fun v H1=> ay H H1∧Rp X.K (hid H1 O) v x) I ⟨O,R,fun v H1 s1 r1=> ⟨s1,r1⟩⟩) fun u s1 ⟨v,H1,I1,r1,sm,rp⟩=> ?_)
 obtain ⟨a,vs,rfl,hq,rs⟩:=qP rp hx
 cases r1
 refine wpAny_Slice ?_
 rw [evalPart_none]
 refine wpAny_pure (wpAny_pure ?_)
 rw [evalPart_some]
 refine thn (hk pins s1 σ H1 (fun v H2=> ay H1 H2∧v=.int (-1)) I1 ⟨O,R.go sm,fun v H2 s2 r2=> ⟨s2,by cases r2; rfl⟩⟩) fun uk s2 hy=> ?_
 obtain ⟨vk,H2,I2,rk,s12,rfl⟩:=hy
 obtain ⟨t,rfl⟩:=rk
 have I3:Inv X pins σ H2 { s2 with heap:=s2.heap.push { cls:=.type "slice",data:=.fields #[.none,.none,.int (-1) t] } }:=I2.kept (t':=s2.toks) fun b ob z=> Heap.get?_push_of_some _ z
 obtain ⟨its,rv,pl,hz⟩:=I3.list (s12.seq (aD.seq hq))
 have hlen:=rv.length
 show wpAny (model X.prog X.w) X.A (subscriptTail e (.Slice none none (some k) p2) (.ref a) (.ref s2.heap.objs.size)) (EP X pins σ Q) X.xe { s2 with heap:=s2.heap.push { cls:=.type "slice",data:=.fields #[.none,.none,.int (-1) t] } }
 refine tail_any (ops:=[.ref a,.ref s2.heap.objs.size]) pl.isList.typeIs slot_list_getitem.lookup ?_ (by with_unfolding_all rfl)
 refine wpAny_getItem_list_slice pl.isList (Heap.IsSliceOf.new ..) .none .none (IsPart.int _ _) (by simp) ?_ (by rw [List.size_toArray]; omega)
 rw [PySem.W.krv_pick]
 generalize hn:(s2.heap.push { cls:=.type "slice",data:=.fields #[.none,.none,.int (-1) t] }).objs.size=D
 have fr:H2 D=none:=I3.hok.fresh (by rw [← hn]; exact Nat.le_refl _)
 refine ⟨.ref D,upd H2 D (.lst vs.reverse),I3.laid (t':=s2.toks) (o:=.lst vs.reverse) (fun b ob z=> Heap.get?_push_of_some _ z) (by rw [← hn]; exact Nat.le_refl _) ⟨by rw [List.length_reverse]; exact hz,its.reverse,0,rv.rev,?_⟩,rfl,?_⟩
 ·rw [← hn]; exact Heap.get?_push_size _ rfl
 ·refine q D _ _ ((sm.trans s12).trans (aM fr _)) ((sm.trans s12).free fr) aS ?_
  exact (rs.rev.same (aZ s12)).same (bI (aM fr _) fr)
theorem dN (hc:X.calm=true) (hg:Gl X "list") (hm:X.mg "list"=none) (hgr:Gl X "reversed") (hmr:X.mg "reversed"=none) (ha:Ev X H0 O0 ps e (.lst xs))
  (he:starEach [e] X.env=(false,eval e X.env)::starEach [] X.env:=by rfl):EvN X H0 O0 ps (.Call (.Name "list" p) [.Call (.Name "reversed" p') [e] [] pos'] [] pos) xs.reverse:=by
 rintro pins s σ H Q I ⟨O,R,q⟩
 have hh:X.A.handled=none:=I.ok.hd hc
 refine wpAny_Call_Name_kw (cW I hg hm boot_list ?_)
 refine callWith_type1 (e:=.Call (.Name "reversed" p') [e] [] pos') (rest:=[]) ?_ cM rfl
 rw [cM]
 show wpAny _ _ (spliced ((false,eval (.Call (.Name "reversed" p') [e] [] pos') X.env)::backTo pos (starEach [] X.env))) _ _ s
 refine Calls.spliced_cons ?_
 refine wpAny_Call_Name_kw (cW I hgr hmr fZ ?_)
 refine callWith_type1 (thn (dP ha fD he pos' pins s σ H (fun vs H1=> ∃ v,vs=[v]∧ay H H1∧Rp X.K (hid H1 O) v (.lst xs)) I ⟨O,R,fun v H1 s1 r1=> ⟨v,rfl,s1,r1⟩⟩) fun us s1 hx=> ?_) he rfl
 obtain ⟨vs,H1,I1,rv,v,rfl,sm,rp⟩:=hx
 obtain ⟨u,rfl,ru⟩:=jM rv
 obtain ⟨a,ws,rfl,hq,rs⟩:=qP rp (.inl rfl)
 cases ru
 obtain ⟨its,rw',pl,hz⟩:=I1.list (aD.seq hq)
 have hlen:=rw'.length
 have hsz:its.toArray.size=its.length:=by simp
 refine call_reversed_list pl.isList ?_
 have I2:Inv X pins σ H1 { s1 with heap:=s1.heap.push (revObj a ((its.toArray.size:Int) - 1)) }:=I1.kept (t':=s1.toks) fun b ob z=> Heap.get?_push_of_some _ z
 refine Calls.spliced_nil ?_
 have hal:a < s1.heap.objs.size:=by obtain ⟨o,ho,_⟩:=pl.isList; exact Heap.lt_size ho
 have W:=(Walks.listRev (prog:=X.prog) (w:=X.w) (A:=X.A.in1.in1) hh s1.heap.objs.size a (Nat.ne_of_lt hal) its.toArray).toS
 refine ST.call_list_it (T:="list_reverseiterator") (s:={ s1 with heap:=s1.heap.push (revObj a ((its.toArray.size:Int) - 1)) }) W (fun i s' st=> st.2.1.typeIs) (by decide) (by decide) (ST.hint_rev _ _) ⟨Nat.zero_le _,⟨_,Heap.get?_push_size _ rfl,rfl,by simp [revObj]⟩,pl.isList.push _⟩ (fun b hb=> ?_) (by simp) (fun s3 acc c m hD hit=> ?_) (by rw [hsz]; omega)
 ·show b < (s1.heap.push _).objs.size
  rw [Heap.size_push]
  simp at hb
  rcases hb with z | z
  ·rw [z]; exact Nat.lt_succ_self _
  ·rw [z]; exact Nat.lt_succ_of_lt hal
 ·obtain ⟨h3,g3,d3,tk3,os3⟩:=s3
  obtain rfl:g3=s1.gens:=m.gens
  obtain rfl:d3=s1.drawn:=m.drawn
  obtain rfl:os3=s1.os:=m.os
  have szI:(s1.heap.push (revObj a ((its.toArray.size:Int) - 1))).objs.size=s1.heap.objs.size+1:=Heap.size_push ..
  have keep:∀ b ob,s1.heap.get? b=some ob→h3.get? b=some ob:=fun b ob z=> by
   have hb:=Heap.lt_size z
   refine m.heap b ob (fun y=> ?_) (Heap.get?_push_of_some _ (Heap.get?_push_of_some _ z))
   rcases List.mem_cons.mp y with y | y
   ·rw [y] at hb
    have hb':s1.heap.objs.size+1 < s1.heap.objs.size:=by rw [← szI]; exact hb
    exact absurd hb' (by omega)
   ·rw [List.mem_singleton.mp y] at hb; exact Nat.lt_irrefl _ hb
  have hacc:acc.toList=its.reverse:=by
   apply List.ext_getElem?
   intro i
   rcases Nat.lt_or_ge i acc.size with z | z
   ·have y:=hit.2 i _ (Array.getElem?_eq_getElem z)
    have hi:i < its.length:=by rw [hit.1,hsz] at z; exact z
    rw [Array.getElem?_toList,Array.getElem?_eq_getElem z,List.getElem?_reverse hi,← y,hsz]
    simp
   ·have hi:its.length≤i:=by rw [hit.1,hsz] at z; exact z
    rw [List.getElem?_eq_none (by simpa using z),List.getElem?_eq_none (by simpa using hi)]
  generalize hn:(s1.heap.push (revObj a ((its.toArray.size:Int) - 1))).objs.size=D at *
  have fr:H1 D=none:=I2.hok.fresh (by rw [← hn]; exact Nat.le_refl _)
  have I3:Inv X pins σ (upd H1 D (.lst ws.reverse)) { s1 with heap:=h3,toks:=tk3 }:=I1.laid (t':=tk3) (o:=.lst ws.reverse) keep (by rw [szI]; exact Nat.le_succ _) ⟨by rw [List.length_reverse]; exact hz,its.reverse,c,rw'.rev,by rw [← hacc,Array.toArray_toList]; exact hD⟩
  refine ⟨.ref D,_,I3,rfl,q D _ _ (sm.trans (aM fr _)) (sm.free fr) aS ?_⟩
  exact rs.rev.same (bI (aM fr _) fr)
end
end L2
namespace L2
open PySem PySem.Spec PyProof.Rows
theorem SubP.trans:∀ {p q r:PSt},SubP p q→SubP q r→SubP p r
 | [],[],[],_,_=> trivial
 | none::p,none::q,_::r,h1,h2=> SubP.trans (p:=p) (q:=q) h1 h2
 | none::p,some _::q,_::r,h1,h2=> SubP.trans (p:=p) (q:=q) h1 h2.2
 | some _::p,some _::q,_::r,h1,h2=> ⟨h2.1.trans h1.1,SubP.trans (p:=p) (q:=q) h1.2 h2.2⟩
 | some _::p,none::q,_::r,h1,h2=> by cases h1.1
 | [],_::_,_,h1,_=> h1.elim
 | none::_,[],_,h1,_=> h1.elim
 | some _::_,[],_,h1,_=> h1.elim
 | [],[],_::_,_,h2=> h2.elim
 | _::_,none::_,[],_,h2=> h2.elim
 | _::_,some _::_,[],_,h2=> h2.elim
section
variable {X:Cx} {H0:Hp} {O0:List Addr} {ps:PSt} {xs:List U} {us:List U} {es:List Expr} {x:Str} {pc p' pos:Pos}
theorem df (n:Nat) (h:ps[n]?=some (some (.own xs))) (hg:Gl X "len") (hm:X.mg "len"=none) (hN:X.N[n]?=some x:=by rfl) (hv:Vis X.env.scope x:=by first | exact Or.inl rfl | exact Or.inr (Or.inl rfl) | exact Or.inr (Or.inr rfl)) (hd:(x==("__debug__":Str))=false:=by decide)
  (hcd:(x==("__classdict__":Str))=false:=by decide) (hpl:(backTo pos (starEach [] X.env)).any (·.1)=false:=by rfl):Ev X H0 O0 ps (.Call (.Name "len" pc) [.Name x p'] [] pos) (.int xs.length):=pi n h hg hm hN hv hd hcd ai hpl
theorem og {spec:List U→Out→Prop} {f:Addr} {fd:FuncData} {pn:List Str} {k:Nat} {nm:Str} {b:Bool} {CX} (n:Nat) (h:ps[n]?=some (some (.own xs))) (F:bF X.prog X.w X.K X.mg X.base CX k f fd pn (spU X.K spec)) (hr:cS k X.A) (hg:Gl X nm) (hm:X.mg nm=some (.ref f)) (hk:PySem.W.keepIn X.K (.ref f)=true) (hb:bo X.K fd pn []) (hx:eO CX X E0)
  (ha:EvA X H0 O0 ps es us) (hs:spec (.lst xs::us) (.val (.bl b))) (hN:X.N[n]?=some x:=by rfl) (hv:Vis X.env.scope x:=by first | exact Or.inl rfl | exact Or.inr (Or.inl rfl) | exact Or.inr (Or.inr rfl)) (hd:(x==("__debug__":Str))=false:=by decide)
  (hcd:(x==("__classdict__":Str))=false:=by decide) (hdb:(nm==("__debug__":Str))=false:=by decide) (hpl:(backTo pos (starEach es X.env)).any (·.1)=false:=by rfl):
  Ev X H0 O0 ps (.Call (.Name nm pc) (.Name x p'::es) [] pos) (.bl b):=
 PE.mono (gW F hr hg hm hk hb .nil hx (dP (dq hN hv hd hcd) ha ai) hdb ai hpl) fun σ H Q ⟨O,R,q⟩=> by
  obtain ⟨v,h1,a,vs,rfl,h3,h4,h5,h6⟩:=R.at_ n _ h
  refine ⟨_,h1,O,R,fun ws H1 s1 r1=> ?_⟩
  show spU X.K spec (V.ref a::ws++[]) H1 Q _
  rw [List.append_nil]
  have sub:∀ c∈O.filter (·≠a),c∈O:=fun c hc=> (List.mem_filter.mp hc).1
  refine ⟨.lst xs::us,O.filter (·≠a),.val (.bl b),fun c hc=> (R.go s1).dom c (sub c hc),?_,hs,fun w H2 s2 r2=> ?_⟩
  ·refine Rps.cons (.lst (cq (s1 _ _ h5) (by simp)) h6.len fun i z y e1 e2=> ?_) (r1.same (bZ sub))
   exact ((h6.at_ i z y e1 e2).same (aZ s1)).same (bZ sub)
  ·cases r2
   exact q _ H2 (s1.trans s2) (.bl b)
end
end L2
namespace ST
open PySem
abbrev rX (h:Heap) (z TI TO T:Addr) (b:Bool):Prop:=h.get? z=some { cls:=.type "zip",dict:=none,data:=.fields #[rawInt T,.bool b,.bool false,.ref TI,.ref TO],slots:=#[] }
section
variable {prog:Program} {w:World} {A:Around} {E:Value→Shared→Prop} {s:Shared}
end
structure ZL (xs ys:Array Value) (z TI TO i1 i2 l1 l2 S:Addr) (h:Heap) (i:Nat) (ad:List Addr) (c:Nat):Prop where
 ti:IsPair h TI (.ref i1) (.ref i2)
 a1:h.IsListIter i1 l1 i
 a2:h.IsListIter i2 l2 i
 b1:h.IsList l1 xs
 b2:h.IsList l2 ys
 acc:h.get? S=some { cls:=.type "list",dict:=none,data:=.seq (ad.map Value.ref).toArray c,slots:=#[] }
 len:ad.length=i
 tup:∀ (j:Nat) (a:Addr),ad[j]?=some a→∃ x y,xs[j]?=some x∧ys[j]?=some y∧IsPair h a x y
 far:∀ a∈ad,a≠z∧a≠TO∧a≠i1∧a≠i2∧a≠S
 to:∃ o,h.get? TO=some o
 nd:ad.Nodup
 zz:(i=0∧IsZip h z TI TO .none∧∃ a b,IsPair h TO a b)∨(∃ b T,ad[0]?=some T∧rX h z TI TO T b)
section
variable {prog:Program} {w:World} {A:Around} {R:Result→Shared→Prop}
end
end ST
namespace ST
open PySem
section
variable {prog:Program} {w:World} {A:Around} {R:Result→Shared→Prop}
structure ZF (xs ys:Array Value) (S:Addr) (h:Heap) (ad:List Addr) (c:Nat):Prop where
 acc:h.get? S=some { cls:=.type "list",dict:=none,data:=.seq (ad.map Value.ref).toArray c,slots:=#[] }
 len:ad.length=xs.size
 tup:∀ (j:Nat) (a:Addr),ad[j]?=some a→∃ x y,xs[j]?=some x∧ys[j]?=some y∧IsPair h a x y
 ne:∀ a∈ad,a≠S
 nd:ad.Nodup
end
end ST
namespace ST
open PySem
section
variable {prog:Program} {w:World} {A:Around} {E:Value→Shared→Prop} {s:Shared}
end
section
variable {prog:Program} {w:World} {A:Around} {R:Result→Shared→Prop} {s:Shared}
end
section
variable {prog:Program} {w:World} {A:Around} {E:Value→Shared→Prop} {s:Shared}
end
end ST
namespace L2
open PySem PySem.Spec PyProof.Rows
section
variable {P:Program} {w:World} {H:Hp} {h:Heap} {a:Addr} {o:HO}
end
section
variable {X:Cx} {H0:Hp} {O0:List Addr} {ps:PSt} {e f:Expr} {x y:U} {xs ys:List U} {pos pos' p p':Pos}
end
end L2
namespace L2
open PySem PySem.Spec PyProof.Rows
section
variable {X:Cx} {ns:List Int} {M:Int}
end
end L2
namespace ST
open PySem PyProof.Rows
section
variable {prog:Program} {w:World} {A:Around} {E:Value→Shared→Prop} {s:Shared}
end
end ST
namespace L2
open PySem PySem.Spec PyProof.Rows
section
variable {X:Cx} {H0:Hp} {O0:List Addr} {ps:PSt} {a b c:Expr} {pos:Pos} {x y z:U} {p q:P2} {k m:Bool}
end
end L2
namespace L2
open PySem PySem.Spec PyProof.Rows
section
variable {X:Cx} {p q:P2} {l:List P2}
end
end L2
namespace L2
open PySem PySem.Spec PyProof.Rows
section
variable {X:Cx} {H0:Hp} {O0:List Addr} {ps:PSt} {e:Expr} {pts:List P2} {pos pos' p p':Pos}
end
end L2
namespace ST
open PySem
section
variable {prog:Program} {w:World} {A:Around} {R:Result→Shared→Prop} {I S:Addr} {fp wr:List Addr} {n:Nat} {P:Nat→Value→Prop} {St:Nat→Heap→Prop} {G:Heap→Prop} {bt:Nat→Nat→Bool}
end
section
variable {prog:Program} {w:World} {A:Around} {E:Value→Shared→Prop} {s:Shared}
end
section
variable {prog:Program} {w:World} {A:Around} {R:Result→Shared→Prop} {I S:Addr} {fp wr:List Addr} {n:Nat} {P:Nat→Value→Prop} {St:Nat→Heap→Prop} {G:Heap→Prop} {bt:Nat→Nat→Bool}
end
section
variable {prog:Program} {w:World} {A:Around} {E:Value→Shared→Prop} {s:Shared}
end
end ST
namespace ST
open PySem PyProof.Rows
section
variable {prog:Program} {w:World} {A:Around} {E:Value→Shared→Prop} {s:Shared}
end
theorem ltP_no {a b:Int×Int}:ltP a b=false↔¬ (a.1 < b.1∨(a.1=b.1∧a.2 < b.2)):=by unfold ltP; exact decide_eq_false_iff_not
end ST
namespace L2
open PySem PySem.Spec PyProof.Rows
section
variable {X:Cx} {pts:List P2} {M:P2}
end
end L2
namespace L2
open PySem PySem.Spec PyProof.Rows
section
variable {X:Cx} {H0:Hp} {O0:List Addr} {ps:PSt} {xs:List U} {x:Str} {pos pc p':Pos}
end
end L2
namespace L2
open PySem PySem.Spec PyProof.Rows
section
variable {X:Cx} {H0:Hp} {O0:List Addr} {ps:PSt} {x:Str} {pos:Pos} {a b:Expr} {i j:Int}
end
end L2
namespace L2
open PySem PySem.Spec PyProof.Rows
section
variable {X:Cx} {H0:Hp} {O0:List Addr} {ps:PSt} {e tg:Expr} {p pos:Pos} {xs:List U} {x:U}
end
end L2
namespace L2
open PySem PySem.Spec PyProof.Rows
section
variable {X:Cx} {H0:Hp} {O0:List Addr} {ps:PSt} {a b:Expr} {pos:Pos} {xs:List U} {u:U} {k:Int}
end
end L2
namespace L2
open PySem PySem.Spec PySem.W PyProof.Rows
section
variable {X:Cx}
end
end L2
namespace L2
open PySem PySem.Spec PyProof.Rows
section
variable {X:Cx} {H0:Hp} {O0:List Addr} {E:XK} {ps ps':PSt} {D:PD} {s:Stmt} {ss body:List Stmt} {a b c e:Expr} {es:List Expr} {pos p:Pos} {u x y:U} {xs ys us:List U} {k:Bool}
 {CX:CXT} {n:Nat} {f C:Addr} {fd:FuncData} {pn:List Str} {spec:List U→Out→Prop} {nm:Str}
end
end L2
namespace L2
open PySem PySem.Spec PyProof.Rows
theorem Rs.free {K:PySem.W.Frag} {H0 H:Hp} {O0 O:List Addr} {ps:PSt} {σ:St} {xs:List U} (n:Nat) (h:ps[n]?=some (some (.own xs))) (R:Rs K H0 O0 ps σ H O):∃ O',(∀ b∈O',b∈O)∧Rs K H0 O0 (ps.set n (some (.val (.lst xs)))) σ H O':=by
 obtain ⟨v,hv,a,vs,rfl,ha,ha0,hH,rs⟩:=R.at_ n _ h
 have less:∀ b∈O.filter (fun b=> decide (b≠a)),b∈O:=fun b hb=> (List.mem_filter.mp hb).1
 have keep:∀ b∈O,b≠a→b∈O.filter (fun b=> decide (b≠a)):=fun b hb ne=> List.mem_filter.mpr ⟨hb,by simpa using ne⟩
 have sm:ay (hid H O) (hid H (O.filter (fun b=> decide (b≠a)))):=bZ less
 have na:a ∉ O.filter (fun b=> decide (b≠a)):=fun z=> by have:=(List.mem_filter.mp z).2; simp at this
 refine ⟨O.filter (fun b=> decide (b≠a)),less,R.same,fun b hb=> keep b (R.old b hb) fun e=> ha0 (e ▸ hb),fun b hb=> R.new b (less b hb),fun b hb=> R.dom b (less b hb),by rw [R.len,List.length_set],fun i s hs=> ?_,fun i j ys zs b h1 h2 h3 h4=> ?_⟩
 ·rcases bJ hs with ⟨rfl,e⟩ | ⟨ne,hs⟩
  ·cases e
   exact ⟨.ref a,hv,.lst (cq hH na) (rs.same sm).len (rs.same sm).at_⟩
  ·obtain ⟨w,hw,ok⟩:=R.at_ i s hs
   refine ⟨w,hw,?_⟩
   cases s with
   | val u=> exact Rp.same sm ok
   | own ys=>
    obtain ⟨b,ws,rfl,hb,hb0,hHb,rsb⟩:=ok
    refine ⟨b,ws,rfl,keep b hb fun e=> ?_,hb0,hHb,rsb.same sm⟩
    subst e
    exact ne (R.inj n i _ _ b h hs hv hw)
 ·rcases bJ h1 with ⟨_,e⟩ | ⟨_,h1⟩
  ·cases e
  ·rcases bJ h2 with ⟨_,e⟩ | ⟨_,h2⟩
   ·cases e
   ·exact R.inj i j _ _ b h1 h2 h3 h4
section
variable {X:Cx} {H0:Hp} {O0:List Addr} {E:XK} {ps:PSt} {D:PD} {ss:List Stmt} {e:Expr} {xs:List U} {b:Bool}
theorem jq (n:Nat) (h:ps[n]?=some (some (.own xs))) (w:Ws X H0 O0 E ss D (ps.set n (some (.val (.lst xs))))):Ws X H0 O0 E ss D ps:=
 PSs.mono w fun D' σ H ⟨L,O,R⟩=> by
  obtain ⟨O',_,R'⟩:=R.free n h
  exact ⟨L,O',R'⟩
end
end L2
namespace L2
open PySem PySem.Spec PyProof.Rows
section
variable {X:Cx} {ns:List Int} {M:Int}
end
end L2
namespace L2
open PySem PySem.Spec PyProof.Rows
section
variable {X:Cx} {H0:Hp} {O0:List Addr} {E:XK} {ps:PSt} {D:PD} {e:Expr} {pos:Pos} {xs ys:List U}
end
end L2
namespace L2
open PySem PySem.Spec PySem.W PyProof.Rows
section
variable {X:Cx}
end
section
variable {X:Cx} {H0:Hp} {O0:List Addr} {E:XK} {ps:PSt} {D:PD} {a e:Expr} {es:List Expr} {us:List U} {k:Bool} {n:Nat} {fd:FuncData} {pn:List Str} {spec:List U→Out→Prop}
end
end L2
namespace L2
open PySem PySem.Spec PyProof.Rows
section
variable {X:Cx} {H0:Hp} {O0:List Addr} {ps:PSt} {a b:Expr} {p:P2} {l:List P2}
end
end L2
namespace ST
open PySem PySem.W PySem.Calls PyProof.Rows
section
variable {prog:Program} {w:World} {A:Around} {E:Value→Shared→Prop} {s:Shared}
end
end ST
namespace L2
open PySem PySem.Spec PyProof.Rows
section
variable {X:Cx} {H0:Hp} {O0:List Addr} {ps:PSt} {e:Expr} {p pos:Pos} {a b:P2}
end
end L2
namespace ST
open PySem PySem.W PySem.Calls PyProof.Rows
section
variable {prog:Program} {w:World} {A:Around} {E:Value→Shared→Prop} {s:Shared}
end
end ST
namespace L2
open PySem PySem.Spec PyProof.Rows
section
variable {X:Cx} {H0:Hp} {O0:List Addr} {ps:PSt} {e:Expr} {pts:List P2} {pos p:Pos}
end
end L2
namespace L2
open PySem PySem.Spec PySem.W PyProof.Rows
section
variable {X:Cx}
end
section
variable {X:Cx} {H0:Hp} {O0:List Addr} {E:XK} {ps:PSt} {D:PD} {a e:Expr} {es:List Expr} {us:List U} {k:Bool} {n:Nat} {fd:FuncData} {pn:List Str} {spec:List U→Out→Prop}
end
end L2
namespace L2
open PySem PySem.Spec PySem.W PyProof.Rows
structure sM (K:PySem.W.Frag) (x qual:Str) (st:Stmt) (f:Addr) (fd:FuncData) (D:Addr):Prop where
 ex:∃ (oc:Value) (od:Option Addr) (kV doc pm:Value) (an:Option Addr) (cdv ct:Value) (osl:Array (Option Value)),
  fd=PySem.W.fnOf x qual (aH st) (aB st) (aj st) (.ref D) kV doc pm an cdv ct∧K.lookup f=some ⟨oc,od,.func fd,osl⟩∧PySem.W.codeIn K cdv qual=true
 kp:PySem.W.keepIn K (.ref f)=true
section
variable {P:Program} {w:World} {K:PySem.W.Frag} {mg:Str→Option Value} {base:Heap} {N pn:List Str} {qual nm:Str} {f D:Addr}
end
section
variable {X:Cx} {H0:Hp} {O0:List Addr} {ps:PSt} {e:Expr} {es:List Expr} {pos p:Pos} {u:U} {us:List U} {xs:List U} {CX:CXT} {n:Nat} {f:Addr} {fd:FuncData} {pn:List Str} {spec:List U→Out→Prop} {nm:Str} {j:Int}
end
end L2
namespace L2
open PySem PySem.Spec PyProof.Rows
section
variable {X:Cx} {H0:Hp} {O0:List Addr} {ps:PSt} {a b:Expr} {k:Int} {ns:List Int}
end
end L2
namespace L2
open PySem PySem.Spec PyProof.Rows
section
variable {X:Cx} {tg:Expr}
variable {H0:Hp} {O0:List Addr} {ps:PSt} {a b:Expr} {p pos:Pos}
end
section
variable {X:Cx} {H0:Hp} {O0:List Addr} {E:XK} {ps ps':PSt} {D:PD} {tg iter cond:Expr} {pos p:Pos} {xs:List U}
end
end L2
namespace L2
open PySem PySem.Spec PyProof.Rows
section
variable {X:Cx} {H0:Hp} {O0:List Addr} {ps:PSt} {e:Expr} {ns:List Int} {pos p:Pos}
end
end L2
namespace L2
open PySem PySem.Spec PyProof.Rows
section
variable {X:Cx} {H0:Hp} {O0:List Addr} {E:XK} {ps:PSt} {D:PD} {c:Expr} {pos:Pos} {xs:List U}
end
end L2
namespace L2
open PySem PySem.Spec PyProof.Rows
end L2
namespace TS
open PySem PyProof.Rows
def g5:Bool→Keyed→Array Keyed→Nat→Nat→Nat→StateT SortSt Sem (Option Nat):=sortPriv% PySem.Builtin.gallop
section
variable {prog:Program} {w:World} {A:Around} {E:Value→Shared→Prop} {s:Shared}
def gt (a:Array Keyed) (i:Nat):Keyed:=a.getD i (Value.none,Value.none)
theorem gt_eq {a:Array Keyed} {i:Nat} (h:i < a.toList.length):gt a i=a.toList[i]:=by
 have h':i < a.size:=by simpa using h
 simp [gt,Array.getD,h']
theorem au {a:Array Keyed} {i:Nat} (h:i < a.size):gt a i∈a.toList:=by rw [gt_eq (by simpa using h)]; exact List.getElem_mem _
theorem el {a:Array Keyed} {i:Nat} {st:SortSt} {Q:Keyed→SortSt→Prop} (hi:i < a.size) (h:Q (gt a i) st):wpS (model prog w) A E s (elem' a i) Q st:=by
 rw [elem'_eq,Array.getElem?_eq_getElem hi]
 refine wpS_pure ?_
 rw [gt_eq (by simpa using hi)] at h
 simpa using h
end
section
variable {prog:Program} {w:World} {A:Around} {E:Value→Shared→Prop} {s:Shared}
theorem gal {left:Bool} {key:Keyed} {arr:Array Keyed} {base n hint:Nat} {st:SortSt} {Q:Option Nat→SortSt→Prop} {f:Nat→Bool} {p:Nat} (hh:hint < n)
  (hin:∀ i,i < n→base+i < arr.size)
  (hT:left=true→∀ i (Q:Option Bool→SortSt→Prop),i < n→Q (some (f i)) st→wpS (model prog w) A E s (lt' (gt arr (base+i)) key) Q st)
  (hF:left=false→∀ i (Q:Option Bool→SortSt→Prop),i < n→Q (some (!f i)) st→wpS (model prog w) A E s (lt' key (gt arr (base+i))) Q st)
  (hp:p≤n) (hf:∀ i,i < n→(f i=true↔i < p)) (h:Q (some p) st):wpS (model prog w) A E s (g5 left key arr base n hint) Q st:=by
 refine wpS_bind (wpS_mono (Q:=fun r st2=> r=some (f _)∧st2=st) (by
  refine wpS_bind (el (hin _ hh) ?_)
  cases left with
  | true=> rw [if_pos rfl]; exact hT rfl _ _ hh ⟨rfl,rfl⟩
  | false=>
   rw [if_neg (by decide)]
   exact wpS_bind (hF rfl _ _ hh (wpS_pure ⟨by simp,rfl⟩))) ?_)
 intro r0 st0 hr0
 rw [hr0.1,hr0.2]
 clear hr0 r0 st0
 dsimp only
 by_cases hr:f hint=true
 ·rw [if_pos hr]
  have hhp:=(hf hint hh).mp hr
  refine wpS_bind (wpS_mono (wpS_forRange (I:=fun x c st'=> st'=st∧∃ la ofs,c=(none,la,ofs)∧x+1≤ofs∧la < ofs∧hint+la < p) (Q:=fun c st'=> st'=st∧∃ la ofs,c=(none,la,ofs)∧la < ofs∧hint+la < p∧p≤hint+min ofs (n - hint)) ?_ ?_ ⟨rfl,0,1,rfl,Nat.le_refl _,Nat.one_pos,hhp⟩) ?_)
  ·rintro x c st' _ hx ⟨rfl,la,ofs,rfl,a1,a2,a3⟩
   dsimp only
   by_cases ho:ofs ≥ n - hint
   ·rw [if_pos ho]
    exact wpS_pure ⟨rfl,la,ofs,rfl,a2,a3,by omega⟩
   ·rw [if_neg ho]
    have hm:hint+ofs < n:=by omega
    refine wpS_bind (wpS_mono (Q:=fun r st2=> r=some (f _)∧st2=st') (by
     refine wpS_bind (el (hin _ hm) ?_)
     cases left with
     | true=> rw [if_pos rfl]; exact hT rfl _ _ hm ⟨rfl,rfl⟩
     | false=>
      rw [if_neg (by decide)]
      exact wpS_bind (hF rfl _ _ hm (wpS_pure ⟨by simp,rfl⟩))) ?_)
    intro r0 st0 hr0
    rw [hr0.1,hr0.2]
    clear hr0 r0 st0
    dsimp only
    by_cases hfm:f (hint+ofs)=true
    ·rw [if_neg (by rw [hfm]; decide)]
     have:=(hf _ hm).mp hfm
     exact wpS_pure ⟨rfl,_,_,rfl,by omega,by omega,this⟩
    ·rw [if_pos (by simpa using hfm)]
     have:¬ hint+ofs < p:=fun z=> hfm ((hf _ hm).mpr z)
     exact wpS_pure ⟨rfl,la,ofs,rfl,a2,a3,by omega⟩
  ·rintro c st' ⟨rfl,la,ofs,rfl,a1,a2,a3⟩
   exact ⟨rfl,la,ofs,rfl,a2,a3,by omega⟩
  rintro c st' ⟨rfl,la,ofs,rfl,a1,a2,a3⟩
  dsimp only
  refine wpS_bind (wpS_mono (wpS_forRange (I:=fun x c st2=> st2=st'∧∃ lo hi,c=(none,lo,hi)∧lo≤p∧p≤hi∧hi≤n∧hi - lo≤n - x) (Q:=fun c st2=> st2=st'∧∃ lo,c=(none,lo,p)) ?_ ?_ ⟨rfl,_,_,rfl,by omega,a3,by omega,by omega⟩) ?_)
  ·rintro x c st' _ hx ⟨rfl,lo,hi,rfl,a1,a2,a3,a4⟩
   dsimp only
   by_cases hlh:lo ≥ hi
   ·rw [if_pos hlh]
    exact wpS_pure ⟨rfl,lo,by rw [show hi=p by omega]⟩
   ·rw [if_neg hlh]
    have hm:lo+(hi - lo) / 2 < n:=by omega
    refine wpS_bind (wpS_mono (Q:=fun r st2=> r=some (f _)∧st2=st') (by
     refine wpS_bind (el (hin _ hm) ?_)
     cases left with
     | true=> rw [if_pos rfl]; exact hT rfl _ _ hm ⟨rfl,rfl⟩
     | false=>
      rw [if_neg (by decide)]
      exact wpS_bind (hF rfl _ _ hm (wpS_pure ⟨by simp,rfl⟩))) ?_)
    intro r0 st0 hr0
    rw [hr0.1,hr0.2]
    clear hr0 r0 st0
    dsimp only
    by_cases hfm:f (lo+(hi - lo) / 2)=true
    ·rw [if_pos hfm]
     have:=(hf _ hm).mp hfm
     exact wpS_pure ⟨rfl,_,_,rfl,by omega,a2,a3,by omega⟩
    ·rw [if_neg hfm]
     have:¬ lo+(hi - lo) / 2 < p:=fun z=> hfm ((hf _ hm).mpr z)
     exact wpS_pure ⟨rfl,_,_,rfl,a1,by omega,by omega,by omega⟩
  ·rintro c st' ⟨rfl,lo,hi,rfl,a1,a2,a3,a4⟩
   exact ⟨rfl,lo,by rw [show hi=p by omega]⟩
  ·rintro c st' ⟨rfl,lo,rfl⟩
   exact wpS_pure h
 ·rw [if_neg hr]
  have hhp:¬ hint < p:=fun z=> hr ((hf hint hh).mpr z)
  refine wpS_bind (wpS_mono (wpS_forRange (I:=fun x c st'=> st'=st∧∃ la ofs,c=(none,la,ofs)∧x+1≤ofs∧la < ofs∧la≤hint∧p≤hint - la) (Q:=fun c st'=> st'=st∧∃ la ofs,c=(none,la,ofs)∧la≤hint∧p≤hint - la∧hint+1 - min ofs (hint+1)≤p) ?_ ?_ ⟨rfl,0,1,rfl,Nat.le_refl _,Nat.one_pos,Nat.zero_le _,by omega⟩) ?_)
  ·rintro x c st' _ hx ⟨rfl,la,ofs,rfl,a1,a2,a3,a4⟩
   dsimp only
   by_cases ho:ofs ≥ hint+1
   ·rw [if_pos ho]
    exact wpS_pure ⟨rfl,la,ofs,rfl,a3,a4,by omega⟩
   ·rw [if_neg ho]
    have hm:hint - ofs < n:=by omega
    refine wpS_bind (wpS_mono (Q:=fun r st2=> r=some (f _)∧st2=st') (by
     refine wpS_bind (el (hin _ hm) ?_)
     cases left with
     | true=> rw [if_pos rfl]; exact hT rfl _ _ hm ⟨rfl,rfl⟩
     | false=>
      rw [if_neg (by decide)]
      exact wpS_bind (hF rfl _ _ hm (wpS_pure ⟨by simp,rfl⟩))) ?_)
    intro r0 st0 hr0
    rw [hr0.1,hr0.2]
    clear hr0 r0 st0
    dsimp only
    by_cases hfm:f (hint - ofs)=true
    ·rw [if_pos hfm]
     have:=(hf _ hm).mp hfm
     exact wpS_pure ⟨rfl,la,ofs,rfl,a3,a4,by omega⟩
    ·rw [if_neg hfm]
     have:¬ hint - ofs < p:=fun z=> hfm ((hf _ hm).mpr z)
     exact wpS_pure ⟨rfl,_,_,rfl,by omega,by omega,by omega,by omega⟩
  ·rintro c st' ⟨rfl,la,ofs,rfl,a1,a2,a3,a4⟩
   exact ⟨rfl,la,ofs,rfl,a3,a4,by omega⟩
  rintro c st' ⟨rfl,la,ofs,rfl,a1,a2,a3⟩
  dsimp only
  refine wpS_bind (wpS_mono (wpS_forRange (I:=fun x c st2=> st2=st'∧∃ lo hi,c=(none,lo,hi)∧lo≤p∧p≤hi∧hi≤n∧hi - lo≤n - x) (Q:=fun c st2=> st2=st'∧∃ lo,c=(none,lo,p)) ?_ ?_ ⟨rfl,_,_,rfl,a3,a2,by omega,by omega⟩) ?_)
  ·rintro x c st' _ hx ⟨rfl,lo,hi,rfl,a1,a2,a3,a4⟩
   dsimp only
   by_cases hlh:lo ≥ hi
   ·rw [if_pos hlh]
    exact wpS_pure ⟨rfl,lo,by rw [show hi=p by omega]⟩
   ·rw [if_neg hlh]
    have hm:lo+(hi - lo) / 2 < n:=by omega
    refine wpS_bind (wpS_mono (Q:=fun r st2=> r=some (f _)∧st2=st') (by
     refine wpS_bind (el (hin _ hm) ?_)
     cases left with
     | true=> rw [if_pos rfl]; exact hT rfl _ _ hm ⟨rfl,rfl⟩
     | false=>
      rw [if_neg (by decide)]
      exact wpS_bind (hF rfl _ _ hm (wpS_pure ⟨by simp,rfl⟩))) ?_)
    intro r0 st0 hr0
    rw [hr0.1,hr0.2]
    clear hr0 r0 st0
    dsimp only
    by_cases hfm:f (lo+(hi - lo) / 2)=true
    ·rw [if_pos hfm]
     have:=(hf _ hm).mp hfm
     exact wpS_pure ⟨rfl,_,_,rfl,by omega,a2,a3,by omega⟩
    ·rw [if_neg hfm]
     have:¬ lo+(hi - lo) / 2 < p:=fun z=> hfm ((hf _ hm).mpr z)
     exact wpS_pure ⟨rfl,_,_,rfl,a1,by omega,by omega,by omega⟩
  ·rintro c st' ⟨rfl,lo,hi,rfl,a1,a2,a3,a4⟩
   exact ⟨rfl,lo,by rw [show hi=p by omega]⟩
  ·rintro c st' ⟨rfl,lo,rfl⟩
   exact wpS_pure h
end
def gd:Nat→StateT SortSt Sem Unit:=sortPriv% PySem.Builtin.setMinGallop
abbrev eg (st:SortSt) (g:Nat):SortSt:=SortSt.mk' (kindOf st) (arrOf st) (pendingOf st) g (failedOf st)
def nk:Array Keyed→Array Keyed→StateT SortSt Sem (Array Keyed):=sortPriv% PySem.Builtin.mergeLo
section
variable {α:Type} {R:α→α→Bool} {A B out:List α} {ia ib:Nat}
structure MI (R:α→α→Bool) (A B out:List α) (ia ib:Nat):Prop where
 perm:out.Perm (A.take ia++B.take ib)
 srt:out.Pairwise fun x y=> R x y=true
 lA:∀ x∈out,∀ y∈A.drop ia,R x y=true
 lB:∀ x∈out,∀ y∈B.drop ib,R x y=true
structure MO (R:α→α→Bool) (A B:List α):Prop where
 tr:∀ x y z,R x y=true→R y z=true→R x z=true
 sA:A.Pairwise fun x y=> R x y=true
 sB:B.Pairwise fun x y=> R x y=true
 tot:∀ x∈A,∀ y∈B,R y x=false→R x y=true
theorem da (tr:∀ x y z,R x y=true→R y z=true→R x z=true) {L:List α} (sL:L.Pairwise fun x y=> R x y=true) {i:Nat} (hi:i < L.length) {x:α} (h:R x L[i]=true):∀ y∈L.drop i,R x y=true:=fun y hy=> by
 rw [List.drop_eq_getElem_cons hi] at hy
 rcases List.mem_cons.mp hy with e | e
 ·rw [e]; exact h
 ·have:=(List.pairwise_cons.mp (by rw [← List.drop_eq_getElem_cons hi]; exact sL.sublist (List.drop_sublist i L))).1 y e
  exact tr _ _ _ h this
theorem gs {L:List α} (sL:L.Pairwise fun x y=> R x y=true) {i:Nat} (hi:i < L.length):∀ y∈L.drop (i+1),R L[i] y=true:=fun y hy=>
 (List.pairwise_cons.mp (by rw [← List.drop_eq_getElem_cons hi]; exact sL.sublist (List.drop_sublist i L))).1 y hy
theorem d4 {L:List α} {i:Nat} {y:α} (h:y∈L.drop (i+1)):y∈L.drop i:=by
 rw [← List.drop_drop] at h
 exact List.mem_of_mem_drop h
theorem eT {L:List α} {i:Nat} (hi:i < L.length):L[i]∈L.drop i:=by rw [List.drop_eq_getElem_cons hi]; exact List.mem_cons_self
theorem MI.pushA (O:MO R A B) (I:MI R A B out ia ib) (hi:ia < A.length) (h:∀ y∈B.drop ib,R A[ia] y=true):MI R A B (out++[A[ia]]) (ia+1) ib where
 perm:=by
  rw [List.take_succ_eq_append_getElem hi]
  refine (I.perm.append_right _).trans ?_
  rw [List.append_assoc,List.append_assoc]
  exact List.Perm.append_left _ List.perm_append_comm
 srt:=List.pairwise_append.mpr ⟨I.srt,by simp,fun x hx y hy=> by rw [List.mem_singleton.mp hy]; exact I.lA x hx _ (eT hi)⟩
 lA:=fun x hx y hy=> by
  rcases List.mem_append.mp hx with e | e
  ·exact I.lA x e y (d4 hy)
  ·rw [List.mem_singleton.mp e]; exact gs O.sA hi y hy
 lB:=fun x hx y hy=> by
  rcases List.mem_append.mp hx with e | e
  ·exact I.lB x e y hy
  ·rw [List.mem_singleton.mp e]; exact h y hy
theorem MI.pushB (O:MO R A B) (I:MI R A B out ia ib) (hi:ib < B.length) (h:∀ y∈A.drop ia,R B[ib] y=true):MI R A B (out++[B[ib]]) ia (ib+1) where
 perm:=by
  rw [List.take_succ_eq_append_getElem hi,← List.append_assoc]
  exact I.perm.append_right _
 srt:=List.pairwise_append.mpr ⟨I.srt,by simp,fun x hx y hy=> by rw [List.mem_singleton.mp hy]; exact I.lB x hx _ (eT hi)⟩
 lA:=fun x hx y hy=> by
  rcases List.mem_append.mp hx with e | e
  ·exact I.lA x e y hy
  ·rw [List.mem_singleton.mp e]; exact h y hy
 lB:=fun x hx y hy=> by
  rcases List.mem_append.mp hx with e | e
  ·exact I.lB x e y (d4 hy)
  ·rw [List.mem_singleton.mp e]; exact gs O.sB hi y hy
theorem MI.runA (O:MO R A B) (hb:ib < B.length):∀ (k:Nat) {out:List α} {ia:Nat},MI R A B out ia ib→ia+k≤A.length→(∀ i (h:ia+i < A.length),i < k→R A[ia+i] B[ib]=true)→MI R A B (out++(A.drop ia).take k) (ia+k) ib
 | 0,out,ia,I,_,_=> by simpa using I
 | k+1,out,ia,I,hk,h=> by
  have hi:ia < A.length:=by omega
  have I':=I.pushA O hi (da O.tr O.sB hb (h 0 (by omega) (by omega)))
  have:=MI.runA O hb k I' (by omega) (fun i hi' hik=> by
   have:=h (i+1) (by omega) (by omega)
   have e:A[ia+1+i]=A[ia+(i+1)]'(by omega):=by congr 1; omega
   rw [e]; exact this)
  rw [List.drop_eq_getElem_cons hi,List.take_succ_cons]
  rw [List.append_assoc,show ia+1+k=ia+(k+1) by omega] at this
  exact this
theorem MI.runB (O:MO R A B) (ha:ia < A.length):∀ (k:Nat) {out:List α} {ib:Nat},MI R A B out ia ib→ib+k≤B.length→(∀ i (h:ib+i < B.length),i < k→R B[ib+i] A[ia]=true)→MI R A B (out++(B.drop ib).take k) ia (ib+k)
 | 0,out,ib,I,_,_=> by simpa using I
 | k+1,out,ib,I,hk,h=> by
  have hi:ib < B.length:=by omega
  have I':=I.pushB O hi (da O.tr O.sA ha (h 0 (by omega) (by omega)))
  have:=MI.runB O ha k I' (by omega) (fun i hi' hik=> by
   have:=h (i+1) (by omega) (by omega)
   have e:B[ib+1+i]=B[ib+(i+1)]'(by omega):=by congr 1; omega
   rw [e]; exact this)
  rw [List.drop_eq_getElem_cons hi,List.take_succ_cons]
  rw [List.append_assoc,show ib+1+k=ib+(k+1) by omega] at this
  exact this
def Mgd (R:α→α→Bool) (A B r:List α):Prop:=r.Perm (A++B)∧r.Pairwise fun x y=> R x y=true
theorem MI.perm_all (I:MI R A B out ia ib):(out++A.drop ia++B.drop ib).Perm (A++B):=by
 have h:(out++A.drop ia++B.drop ib).Perm ((A.take ia++B.take ib)++A.drop ia++B.drop ib):=(I.perm.append_right _).append_right _
 refine h.trans ?_
 have e:A++B=(A.take ia++A.drop ia)++(B.take ib++B.drop ib):=by rw [List.take_append_drop,List.take_append_drop]
 rw [e,List.append_assoc,List.append_assoc,List.append_assoc]
 refine List.Perm.append_left _ ?_
 rw [← List.append_assoc,← List.append_assoc]
 exact List.Perm.append_right _ List.perm_append_comm
theorem MI.doneB (O:MO R A B) (I:MI R A B out ia ib) (h:ib=B.length):Mgd R A B (out++A.drop ia++B.drop ib):=by
 refine ⟨I.perm_all,?_⟩
 rw [h,List.drop_length,List.append_nil]
 exact List.pairwise_append.mpr ⟨I.srt,O.sA.sublist (List.drop_sublist _ _),I.lA⟩
theorem MI.doneA (O:MO R A B) (I:MI R A B out ia ib) (h:ia=A.length):Mgd R A B (out++A.drop ia++B.drop ib):=by
 refine ⟨I.perm_all,?_⟩
 rw [h,List.drop_length,List.append_nil]
 exact List.pairwise_append.mpr ⟨I.srt,O.sB.sublist (List.drop_sublist _ _),I.lB⟩
theorem MI.last (O:MO R A B) (I:MI R A B out ia ib) (h:ia+1=A.length) (hl:∀ y∈B,R y (A[ia]'(by omega))=true):Mgd R A B (out++B.drop ib++A.drop ia):=by
 refine ⟨?_,?_⟩
 ·refine List.Perm.trans ?_ I.perm_all
  rw [List.append_assoc,List.append_assoc]
  exact List.Perm.append_left _ List.perm_append_comm
 ·have e:A.drop ia=[A[ia]'(by omega)]:=by rw [List.drop_eq_getElem_cons (by omega),List.drop_of_length_le (by omega)]
  rw [e]
  refine List.pairwise_append.mpr ⟨List.pairwise_append.mpr ⟨I.srt,O.sB.sublist (List.drop_sublist _ _),I.lB⟩,by simp,fun x hx y hy=> ?_⟩
  rw [List.mem_singleton.mp hy]
  rcases List.mem_append.mp hx with z | z
  ·exact I.lA x z _ (by rw [e]; simp)
  ·exact hl x (List.mem_of_mem_drop z)
end
section
variable {M:Model} {A:Around} {E:Value→Shared→Prop} {s:Shared} {σ:Type}
theorem ku {β:Type} {n:Nat} {f:Nat→β→StateT σ Sem (ForInStep β)} (I:Nat→β→σ→Prop) {Q:β→σ→Prop}
  (hstep:∀ i c st,i < n→I i c st→∀ post:ForInStep β→σ→Prop,(∀ c st',Q c st'→post (.done c) st')→(∀ c st',I (i+1) c st'→post (.yield c) st')→wpS M A E s (f i c) post st)
  (hend:∀ c st,I n c st→Q c st) {c:β} {st:σ} (h:I 0 c st):wpS M A E s (forIn [0:n] c f) Q st:=
 wpS_forRange I (fun i c st _ hi hI=> hstep i c st hi hI _ (fun _ _ h=> h) (fun _ _ h=> h)) (fun c st h=> hend c st (by rwa [Nat.zero_max] at h)) h
theorem hv {α β:Type} {v:β} {f:β→StateT σ Sem α} {Q:α→σ→Prop} {st:σ} (h:wpS M A E s (f v) Q st):wpS M A E s (have x:=v; f x) Q st:=h
end
section
variable {prog:Program} {w:World} {A:Around} {E:Value→Shared→Prop} {s:Shared}
theorem ru {x:String} {Q:Unit→SortSt→Prop} {st:SortSt} (h:Q () st):wpS (model prog w) A E s (liftM (rule x)) Q st:=wpS_lift (wpAny_rule ⟨rfl,h⟩)
def Asks (prog:Program) (w:World) (A:Around) (E:Value→Shared→Prop) (s:Shared) (κ:SortKind) (P:Keyed→Prop) (R:Keyed→Keyed→Bool):Prop:=
 ∀ x y st (Q:Option Bool→SortSt→Prop),P x→P y→kindOf st=κ→Q (some (R x y)) st→wpS (model prog w) A E s (lt' x y) Q st
theorem j6 {n:Nat} (q:Nat→Bool) (mono:∀ i j,i < j→j < n→q j=true→q i=true):∃ k,k≤n∧(∀ i,i < k→q i=true)∧∀ i,k≤i→i < n→q i=false:=by
 have go:∀ m,m≤n→(∀ i,m≤i→i < n→q i=false)→∃ k,k≤n∧(∀ i,i < k→q i=true)∧∀ i,k≤i→i < n→q i=false:=by
  intro m
  induction m with
  | zero=> intro _ hm; exact ⟨0,Nat.zero_le _,fun i h=> by omega,hm⟩
  | succ m ih=>
   intro hmn hm
   by_cases hr:q m=true
   ·refine ⟨m+1,hmn,fun i him=> ?_,hm⟩
    rcases Nat.lt_or_eq_of_le (Nat.le_of_lt_succ him) with z | z
    ·exact mono i m z (by omega) hr
    ·subst z; exact hr
   ·refine ih (by omega) fun i him hi=> ?_
    rcases Nat.lt_or_eq_of_le him with z | z
    ·exact hm i z hi
    ·subst z; simpa using hr
 exact go n (Nat.le_refl _) fun i h1 h2=> by omega
variable {κ:SortKind} {P:Keyed→Prop} {R:Keyed→Keyed→Bool} (K:Asks prog w A E s κ P R)
include K
theorem gX {key:Keyed} {b:Array Keyed} {ib n hint:Nat} {st:SortSt} {Q:Option Nat→SortSt→Prop} (hk:kindOf st=κ) (hn:ib+n≤b.size) (hh:hint < n) (pk:P key) (pb:∀ i,i < n→P (gt b (ib+i))) (tr:∀ x y z,R x y=true→R y z=true→R x z=true) (sb:∀ i j,i < j→j < n→R (gt b (ib+i)) (gt b (ib+j))=true)
  (h:∀ k,k≤n→(∀ i,i < k→R (gt b (ib+i)) key=true)→(∀ i,k≤i→i < n→R (gt b (ib+i)) key=false)→Q (some k) st):wpS (model prog w) A E s (g5 true key b ib n hint) Q st:=by
 obtain ⟨k,kn,k1,k2⟩:=j6 (n:=n) (fun i=> R (gt b (ib+i)) key) fun i j h1 h2 hj=> tr _ _ _ (sb i j h1 h2) hj
 refine gal (f:=fun i=> R (gt b (ib+i)) key) (p:=k) hh (fun i hi=> by omega) (fun _ i Q' hi hq=> K _ _ _ _ (pb i hi) pk hk hq) (fun z=> by cases z) kn (fun i hi=> ?_) (h k kn k1 k2)
 ·constructor
  ·intro hr
   rcases Nat.lt_or_ge i k with z | z
   ·exact z
   ·rw [k2 i z hi] at hr; cases hr
  ·intro z; exact k1 i z
theorem mq {key:Keyed} {b:Array Keyed} {ib n hint:Nat} {st:SortSt} {Q:Option Nat→SortSt→Prop} (hk:kindOf st=κ) (hn:ib+n≤b.size) (hh:hint < n) (pk:P key) (pb:∀ i,i < n→P (gt b (ib+i))) (tr:∀ x y z,R x y=true→R y z=true→R x z=true) (sb:∀ i j,i < j→j < n→R (gt b (ib+i)) (gt b (ib+j))=true)
  (h:∀ k,k≤n→(∀ i,i < k→R key (gt b (ib+i))=false)→(∀ i,k≤i→i < n→R key (gt b (ib+i))=true)→Q (some k) st):wpS (model prog w) A E s (g5 false key b ib n hint) Q st:=by
 obtain ⟨k,kn,k1,k2⟩:=j6 (n:=n) (fun i=> !R key (gt b (ib+i))) fun i j h1 h2 hj=> by
  rw [Bool.not_eq_true'] at hj ⊢
  cases hc:R key (gt b (ib+i)) with
  | false=> rfl
  | true=> rw [tr _ _ _ hc (sb i j h1 h2)] at hj; cases hj
 refine gal (f:=fun i=> !R key (gt b (ib+i))) (p:=k) hh (fun i hi=> by omega) (fun z=> by cases z) (fun _ i Q' hi hq=> K _ _ _ _ pk (pb i hi) hk (by simpa using hq)) kn (fun i hi=> ?_) (h k kn (fun i hi=> by simpa using k1 i hi) fun i h1 h2=> by simpa using k2 i h1 h2)
 ·constructor
  ·intro hr
   rcases Nat.lt_or_ge i k with z | z
   ·exact z
   ·have:=k2 i z hi
    rw [this] at hr; cases hr
  ·intro z; exact k1 i z
omit K in
theorem eR (a:Array Keyed) (i:Nat):(a.extract i a.size).toList=a.toList.drop i:=by simp [List.take_of_length_le]
omit K in
theorem dO (a:Array Keyed) (i k:Nat):(a.extract i (i+k)).toList=(a.toList.drop i).take k:=by simp
omit K in
theorem sg {g:Nat} {st:SortSt} {Q:Unit→SortSt→Prop} (h:Q () (eg st g)):wpS (model prog w) A E s (gd g) Q st:=wpS_modify h
set_option maxHeartbeats 4000000 in
theorem mlo {a b:Array Keyed} {st:SortSt} {Q:Array Keyed→SortSt→Prop} (O:MO R a.toList b.toList) (pa:∀ x∈a.toList,P x) (pb:∀ x∈b.toList,P x) (ha:0 < a.size) (hb:0 < b.size) (h0:R (gt b 0) (gt a 0)=true) (hl:∀ y∈b.toList,R y (gt a (a.size - 1))=true) (hk:kindOf st=κ)
  (h:∀ r g,Mgd R a.toList b.toList r.toList→Q r (eg st g)):wpS (model prog w) A E s (nk a b) Q st:=by
 have la:a.toList.length=a.size:=by simp
 have lb:b.toList.length=b.size:=by simp
 have dn:∀ {out:Array Keyed} {ia ib:Nat},MI R a.toList b.toList out.toList ia ib→ib=b.size→Mgd R a.toList b.toList (out++a.extract ia a.size++b.extract ib b.size).toList:=fun {out ia ib} I e=> by
  rw [Array.toList_append,Array.toList_append,eR,eR]
  exact I.doneB O (by omega)
 have ls:∀ {out:Array Keyed} {ia ib:Nat},MI R a.toList b.toList out.toList ia ib→ia+1=a.size→Mgd R a.toList b.toList (out++b.extract ib b.size++a.extract ia a.size).toList:=fun {out ia ib} I e=> by
  rw [Array.toList_append,Array.toList_append,eR,eR]
  refine I.last O (by omega) fun y hy=> ?_
  have:=hl y hy
  rw [show a.size - 1=ia by omega,gt_eq (by omega)] at this
  exact this
 have pA:∀ {out:Array Keyed} {ia ib:Nat},MI R a.toList b.toList out.toList ia ib→ia < a.size→ib < b.size→R (gt b ib) (gt a ia)=false→MI R a.toList b.toList (out.push (gt a ia)).toList (ia+1) ib:=fun {out ia ib} I h1 h2 hr=> by
  rw [Array.toList_push,gt_eq (show ia < a.toList.length by omega)]
  refine I.pushA O (by omega) (da O.tr O.sB (show ib < b.toList.length by omega) ?_)
  rw [gt_eq (show ib < b.toList.length by omega),gt_eq (show ia < a.toList.length by omega)] at hr
  exact O.tot _ (List.getElem_mem _) _ (List.getElem_mem _) hr
 have pB:∀ {out:Array Keyed} {ia ib:Nat},MI R a.toList b.toList out.toList ia ib→ia < a.size→ib < b.size→R (gt b ib) (gt a ia)=true→MI R a.toList b.toList (out.push (gt b ib)).toList ia (ib+1):=fun {out ia ib} I h1 h2 hr=> by
  rw [Array.toList_push,gt_eq (show ib < b.toList.length by omega)]
  refine I.pushB O (by omega) (da O.tr O.sA (show ia < a.toList.length by omega) ?_)
  rw [gt_eq (show ib < b.toList.length by omega),gt_eq (show ia < a.toList.length by omega)] at hr
  exact hr
 have sa:∀ {ia n:Nat},ia+n≤a.size→∀ i j,i < j→j < n→R (gt a (ia+i)) (gt a (ia+j))=true:=fun {ia n} hn i j h1 h2=> by
  rw [gt_eq (show ia+i < a.toList.length by omega),gt_eq (show ia+j < a.toList.length by omega)]
  exact List.pairwise_iff_getElem.mp O.sA _ _ _ _ (by omega)
 have sb:∀ {ib n:Nat},ib+n≤b.size→∀ i j,i < j→j < n→R (gt b (ib+i)) (gt b (ib+j))=true:=fun {ib n} hn i j h1 h2=> by
  rw [gt_eq (show ib+i < b.toList.length by omega),gt_eq (show ib+j < b.toList.length by omega)]
  exact List.pairwise_iff_getElem.mp O.sB _ _ _ _ (by omega)
 have dA:∀ {out:Array Keyed} {ia ib:Nat},MI R a.toList b.toList out.toList ia ib→ia=a.size→Mgd R a.toList b.toList (out++a.extract ia a.size++b.extract ib b.size).toList:=fun {out ia ib} I e=> by
  rw [Array.toList_append,Array.toList_append,eR,eR]
  exact I.doneA O (by omega)
 have rA:∀ {out:Array Keyed} {ia ib k:Nat},MI R a.toList b.toList out.toList ia ib→ib < b.size→ia+k≤a.size→(∀ i,i < k→R (gt b ib) (gt a (ia+i))=false)→MI R a.toList b.toList (out++a.extract ia (ia+k)).toList (ia+k) ib:=fun {out ia ib k} I h2 h1 hr=> by
  rw [Array.toList_append,dO]
  refine I.runA O (show ib < b.toList.length by omega) k (by omega) fun i h hi=> ?_
  have:=hr i hi
  rw [gt_eq (show ib < b.toList.length by omega),gt_eq h] at this
  exact O.tot _ (List.getElem_mem _) _ (List.getElem_mem _) this
 have rB:∀ {out:Array Keyed} {ia ib k:Nat},MI R a.toList b.toList out.toList ia ib→ia < a.size→ib+k≤b.size→(∀ i,i < k→R (gt b (ib+i)) (gt a ia)=true)→MI R a.toList b.toList (out++b.extract ib (ib+k)).toList ia (ib+k):=fun {out ia ib k} I h2 h1 hr=> by
  rw [Array.toList_append,dO]
  refine I.runB O (show ia < a.toList.length by omega) k (by omega) fun i h hi=> ?_
  have:=hr i hi
  rw [gt_eq (show ia < a.toList.length by omega),gt_eq h] at this
  exact this
 have start:MI R a.toList b.toList (#[gt b 0]:Array Keyed).toList 0 1:=by
  have e:(#[gt b 0]:Array Keyed)=(#[]:Array Keyed).push (gt b 0):=rfl
  rw [e]
  exact pB ⟨by simp,by simp,by simp,by simp⟩ ha hb h0
 refine wpS_bind (ru ?_)
 refine wpS_bind (el hb ?_)
 refine hv (hv (hv ?_))
 by_cases e1:(1==b.size)=true
 ·rw [if_pos e1]
  exact wpS_pure (h _ (gallopOf st) (dn start (by simpa using e1)))
 rw [if_neg e1]
 have e1':1 < b.size:=by have:¬ 1=b.size:=by simpa using e1
                         omega
 by_cases e2:(0+1==a.size)=true
 ·rw [if_pos e2]
  exact wpS_pure (h _ (gallopOf st) (ls start (by simpa using e2)))
 rw [if_neg e2]
 have e2':1 < a.size:=by have:¬ 0+1=a.size:=by simpa using e2
                         omega
 refine wpS_bind (wpS_get ?_)
 refine hv ?_
 refine wpS_bind (wpS_mono (ku (I:=fun x c st'=> ∃ g out ia ib mg,st'=eg st g∧c=(none,out,ia,ib,mg)∧MI R a.toList b.toList out.toList ia ib∧ia+1 < a.size∧ib < b.size∧x+1≤ia+ib) (Q:=fun c st'=> ∃ g r rest,st'=eg st g∧c=(some r,rest)∧Mgd R a.toList b.toList r.toList) ?step ?fin ⟨gallopOf st,_,_,_,_,rfl,rfl,start,e2',e1',Nat.le_refl _⟩) ?post)
 case fin=>
  rintro c st' ⟨g,out,ia,ib,mg,rfl,rfl,I,i1,i2,pr⟩
  exfalso; omega
 case post=>
  rintro c st' ⟨g,r,rest,rfl,rfl,m⟩
  exact wpS_pure (h r g m)
 case step=>
  rintro x c st' hx ⟨g,out,ia,ib,mg,rfl,rfl,I,i1,i2,pr⟩ post pd py
  refine hv (hv (hv (hv (hv (hv (hv (hv (hv ?_))))))))
  refine wpS_bind (wpS_mono (ku (I:=fun x2 c st'=> ∃ out ia ib ac bc,st'=eg st g∧c=(none,out,ia,ib,ac,bc)∧MI R a.toList b.toList out.toList ia ib∧ia+1 < a.size∧ib < b.size∧x+1+x2≤ia+ib) (Q:=fun c st'=> st'=eg st g∧((∃ r rest,c=(some r,rest)∧Mgd R a.toList b.toList r.toList)∨∃ out ia ib ac bc,c=(none,out,ia,ib,ac,bc)∧MI R a.toList b.toList out.toList ia ib∧ia+1 < a.size∧ib < b.size∧x+2≤ia+ib)) ?s2 ?f2 ⟨out,ia,ib,0,0,rfl,rfl,I,i1,i2,pr⟩) ?p2)
  case f2=>
   rintro c st' ⟨out,ia,ib,ac,bc,rfl,rfl,I,j1,j2,pr'⟩
   exfalso; omega
  case s2=>
   rintro y c st' hy ⟨out,ia,ib,ac,bc,rfl,rfl,I,j1,j2,pr'⟩ post2 qd qy
   dsimp only
   have j0:ia < a.size:=by omega
   refine wpS_bind (el j2 ?_)
   refine wpS_bind (el j0 ?_)
   refine wpS_bind (K _ _ _ _ (pb _ (au j2)) (pa _ (au j0)) hk ?_)
   dsimp only
   by_cases hw:R (gt b ib) (gt a ia)=true
   ·rw [if_pos hw]
    refine wpS_bind (el j2 ?_)
    have I2:=pB I j0 j2 hw
    by_cases eb:(ib+1==b.size)=true
    ·rw [if_pos eb]
     exact wpS_pure (qd _ _ ⟨rfl,.inl ⟨_,_,rfl,dn I2 (by simpa using eb)⟩⟩)
    ·rw [if_neg eb]
     have eb':ib+1 < b.size:=by have:¬ ib+1=b.size:=by simpa using eb
                                omega
     by_cases hm:bc+1 ≥ mg
     ·rw [if_pos hm]
      exact wpS_pure (qd _ _ ⟨rfl,.inr ⟨_,_,_,_,_,rfl,I2,j1,eb',by omega⟩⟩)
     ·rw [if_neg hm]
      exact wpS_pure (qy _ _ ⟨_,_,_,_,_,rfl,rfl,I2,j1,eb',by omega⟩)
   ·rw [if_neg hw]
    refine wpS_bind (el j0 ?_)
    have I2:=pA I j0 j2 (by simpa using hw)
    by_cases ea:(ia+1+1==a.size)=true
    ·rw [if_pos ea]
     exact wpS_pure (qd _ _ ⟨rfl,.inl ⟨_,_,rfl,ls I2 (by simpa using ea)⟩⟩)
    ·rw [if_neg ea]
     have ea':ia+1+1 < a.size:=by have:¬ ia+1+1=a.size:=by simpa using ea
                                  omega
     by_cases hm:ac+1 ≥ mg
     ·rw [if_pos hm]
      exact wpS_pure (qd _ _ ⟨rfl,.inr ⟨_,_,_,_,_,rfl,I2,ea',j2,by omega⟩⟩)
     ·rw [if_neg hm]
      exact wpS_pure (qy _ _ ⟨_,_,_,_,_,rfl,rfl,I2,ea',j2,by omega⟩)
  case p2=>
   rintro c st' ⟨rfl,⟨r,rest,rfl,m⟩ | ⟨out,ia,ib,ac,bc,rfl,I,i1,i2,pr⟩⟩
   ·exact wpS_pure (pd _ _ ⟨g,r,_,rfl,rfl,m⟩)
   ·refine hv (hv (hv (hv (hv (hv (hv (hv (hv (hv ?_)))))))))
    refine wpS_bind (ru ?_)
    refine hv ?_
    refine wpS_bind (wpS_mono (ku (I:=fun x3 c st'=> ∃ g out ia ib mg ac bc,st'=eg st g∧c=(none,out,ia,ib,mg,ac,bc)∧MI R a.toList b.toList out.toList ia ib∧ia+1 < a.size∧ib < b.size∧x+2+x3≤ia+ib) (Q:=fun c st'=> ∃ g,st'=eg st g∧((∃ r rest,c=(some r,rest)∧Mgd R a.toList b.toList r.toList)∨∃ out ia ib mg ac bc,c=(none,out,ia,ib,mg,ac,bc)∧MI R a.toList b.toList out.toList ia ib∧ia+1 < a.size∧ib < b.size∧x+2≤ia+ib)) ?s3 ?f3 ⟨g,out,ia,ib,_,ac,bc,rfl,rfl,I,i1,i2,pr⟩) ?p3)
    case f3=>
     rintro c st' ⟨g,out,ia,ib,mg,ac,bc,rfl,rfl,I,j1,j2,pr'⟩
     exfalso; omega
    case p3=>
     rintro c st' ⟨g,rfl,⟨r,rest,rfl,m⟩ | ⟨out,ia,ib,mg,ac,bc,rfl,I,i1,i2,pr⟩⟩
     ·exact wpS_pure (pd _ _ ⟨g,r,_,rfl,rfl,m⟩)
     ·refine hv (hv (hv (hv (hv (hv (hv (hv (hv (hv (hv (hv ?_)))))))))))
      refine hv ?_
      refine wpS_bind (sg ?_)
      exact wpS_pure (py _ _ ⟨_,_,_,_,_,rfl,rfl,I,i1,i2,pr⟩)
    case s3=>
     rintro x3 c st' hx3 ⟨g,out,ia,ib,mg,ac,bc,rfl,rfl,I,j1,j2,pr'⟩ post3 qd qy
     dsimp only
     have j0:ia < a.size:=by omega
     by_cases hg:mg > 1
     ·rw [if_pos hg]
      refine wpS_bind (sg ?_)
      refine wpS_bind (el j2 ?_)
      refine wpS_bind (mq K hk (show ia+(a.size - ia)≤a.size by omega) (by omega) (pb _ (au j2)) (fun i hi=> pa _ (au (by omega))) O.tr (sa (by omega)) fun k kn k1 k2=> ?_)
      try dsimp only
      by_cases hk0:k > 0
      ·rw [if_pos hk0]
       have I2:=rA I j2 (show ia+k≤a.size by omega) k1
       by_cases ec:(ia+k+1==a.size)=true
       ·rw [if_pos ec]
        exact wpS_pure (qd _ _ ⟨_,rfl,.inl ⟨_,_,rfl,ls I2 (by simpa using ec)⟩⟩)
       rw [if_neg ec]
       by_cases ed:(ia+k==a.size)=true
       ·rw [if_pos ed]
        exact wpS_pure (qd _ _ ⟨_,rfl,.inl ⟨_,_,rfl,dA I2 (by simpa using ed)⟩⟩)
       rw [if_neg ed]
       have ec':ia+k+1 < a.size:=by have h1:¬ ia+k+1=a.size:=(by simpa using ec); have h2:¬ ia+k=a.size:=(by simpa using ed); omega
       have ia0:ia+k < a.size:=by omega
       refine wpS_bind (el j2 ?_)
       have I3:=pB I2 ia0 j2 (k2 k (Nat.le_refl _) (by omega))
       try dsimp only
       by_cases eb:(ib+1==b.size)=true
       ·rw [if_pos eb]
        exact wpS_pure (qd _ _ ⟨_,rfl,.inl ⟨_,_,rfl,dn I3 (by simpa using eb)⟩⟩)
       rw [if_neg eb]
       have eb':ib+1 < b.size:=by have h1:¬ ib+1=b.size:=(by simpa using eb); omega
       refine wpS_bind (el ia0 ?_)
       refine wpS_bind (gX K hk (show ib+1+(b.size - (ib+1))≤b.size by omega) (by omega) (pa _ (au ia0)) (fun i hi=> pb _ (au (by omega))) O.tr (sb (by omega)) fun l ln l1 l2=> ?_)
       try dsimp only
       by_cases hl0:l > 0
       ·rw [if_pos hl0]
        have I4:=rB I3 ia0 (show ib+1+l≤b.size by omega) l1
        by_cases ec:(ib+1+l==b.size)=true
        ·rw [if_pos ec]
         exact wpS_pure (qd _ _ ⟨_,rfl,.inl ⟨_,_,rfl,dn I4 (by simpa using ec)⟩⟩)
        rw [if_neg ec]
        have ec':ib+1+l < b.size:=by have h1:¬ ib+1+l=b.size:=(by simpa using ec); omega
        refine wpS_bind (el ia0 ?_)
        have I6:=pA I4 ia0 ec' (l2 l (Nat.le_refl _) (by omega))
        try dsimp only
        by_cases ea:(ia+k+1+1==a.size)=true
        ·rw [if_pos ea]
         exact wpS_pure (qd _ _ ⟨_,rfl,.inl ⟨_,_,rfl,ls I6 (by simpa using ea)⟩⟩)
        rw [if_neg ea]
        have ea':ia+k+1+1 < a.size:=by have h1:¬ ia+k+1+1=a.size:=(by simpa using ea); omega
        split
        ·exact wpS_pure (qd _ _ ⟨_,rfl,.inr ⟨_,_,_,_,_,_,rfl,I6,ea',ec',by omega⟩⟩)
        ·exact wpS_pure (qy _ _ ⟨_,_,_,_,_,_,_,rfl,rfl,I6,ea',ec',by omega⟩)
       ·rw [if_neg hl0]
        refine wpS_bind (el ia0 ?_)
        have I6:=pA I3 ia0 eb' (l2 0 (by omega) (by omega))
        try dsimp only
        by_cases ea:(ia+k+1+1==a.size)=true
        ·rw [if_pos ea]
         exact wpS_pure (qd _ _ ⟨_,rfl,.inl ⟨_,_,rfl,ls I6 (by simpa using ea)⟩⟩)
        rw [if_neg ea]
        have ea':ia+k+1+1 < a.size:=by have h1:¬ ia+k+1+1=a.size:=(by simpa using ea); omega
        split
        ·exact wpS_pure (qd _ _ ⟨_,rfl,.inr ⟨_,_,_,_,_,_,rfl,I6,ea',eb',by omega⟩⟩)
        ·exact wpS_pure (qy _ _ ⟨_,_,_,_,_,_,_,rfl,rfl,I6,ea',eb',by omega⟩)
      ·rw [if_neg hk0]
       have ia0:ia < a.size:=by omega
       refine wpS_bind (el j2 ?_)
       have I3:=pB I ia0 j2 (k2 0 (by omega) (by omega))
       try dsimp only
       by_cases eb:(ib+1==b.size)=true
       ·rw [if_pos eb]
        exact wpS_pure (qd _ _ ⟨_,rfl,.inl ⟨_,_,rfl,dn I3 (by simpa using eb)⟩⟩)
       rw [if_neg eb]
       have eb':ib+1 < b.size:=by have h1:¬ ib+1=b.size:=(by simpa using eb); omega
       refine wpS_bind (el ia0 ?_)
       refine wpS_bind (gX K hk (show ib+1+(b.size - (ib+1))≤b.size by omega) (by omega) (pa _ (au ia0)) (fun i hi=> pb _ (au (by omega))) O.tr (sb (by omega)) fun l ln l1 l2=> ?_)
       try dsimp only
       by_cases hl0:l > 0
       ·rw [if_pos hl0]
        have I4:=rB I3 ia0 (show ib+1+l≤b.size by omega) l1
        by_cases ec:(ib+1+l==b.size)=true
        ·rw [if_pos ec]
         exact wpS_pure (qd _ _ ⟨_,rfl,.inl ⟨_,_,rfl,dn I4 (by simpa using ec)⟩⟩)
        rw [if_neg ec]
        have ec':ib+1+l < b.size:=by have h1:¬ ib+1+l=b.size:=(by simpa using ec); omega
        refine wpS_bind (el ia0 ?_)
        have I6:=pA I4 ia0 ec' (l2 l (Nat.le_refl _) (by omega))
        try dsimp only
        by_cases ea:(ia+1+1==a.size)=true
        ·rw [if_pos ea]
         exact wpS_pure (qd _ _ ⟨_,rfl,.inl ⟨_,_,rfl,ls I6 (by simpa using ea)⟩⟩)
        rw [if_neg ea]
        have ea':ia+1+1 < a.size:=by have h1:¬ ia+1+1=a.size:=(by simpa using ea); omega
        split
        ·exact wpS_pure (qd _ _ ⟨_,rfl,.inr ⟨_,_,_,_,_,_,rfl,I6,ea',ec',by omega⟩⟩)
        ·exact wpS_pure (qy _ _ ⟨_,_,_,_,_,_,_,rfl,rfl,I6,ea',ec',by omega⟩)
       ·rw [if_neg hl0]
        refine wpS_bind (el ia0 ?_)
        have I6:=pA I3 ia0 eb' (l2 0 (by omega) (by omega))
        try dsimp only
        by_cases ea:(ia+1+1==a.size)=true
        ·rw [if_pos ea]
         exact wpS_pure (qd _ _ ⟨_,rfl,.inl ⟨_,_,rfl,ls I6 (by simpa using ea)⟩⟩)
        rw [if_neg ea]
        have ea':ia+1+1 < a.size:=by have h1:¬ ia+1+1=a.size:=(by simpa using ea); omega
        split
        ·exact wpS_pure (qd _ _ ⟨_,rfl,.inr ⟨_,_,_,_,_,_,rfl,I6,ea',eb',by omega⟩⟩)
        ·exact wpS_pure (qy _ _ ⟨_,_,_,_,_,_,_,rfl,rfl,I6,ea',eb',by omega⟩)
     ·rw [if_neg hg]
      refine wpS_bind (sg ?_)
      refine wpS_bind (el j2 ?_)
      refine wpS_bind (mq K hk (show ia+(a.size - ia)≤a.size by omega) (by omega) (pb _ (au j2)) (fun i hi=> pa _ (au (by omega))) O.tr (sa (by omega)) fun k kn k1 k2=> ?_)
      try dsimp only
      by_cases hk0:k > 0
      ·rw [if_pos hk0]
       have I2:=rA I j2 (show ia+k≤a.size by omega) k1
       by_cases ec:(ia+k+1==a.size)=true
       ·rw [if_pos ec]
        exact wpS_pure (qd _ _ ⟨_,rfl,.inl ⟨_,_,rfl,ls I2 (by simpa using ec)⟩⟩)
       rw [if_neg ec]
       by_cases ed:(ia+k==a.size)=true
       ·rw [if_pos ed]
        exact wpS_pure (qd _ _ ⟨_,rfl,.inl ⟨_,_,rfl,dA I2 (by simpa using ed)⟩⟩)
       rw [if_neg ed]
       have ec':ia+k+1 < a.size:=by have h1:¬ ia+k+1=a.size:=(by simpa using ec); have h2:¬ ia+k=a.size:=(by simpa using ed); omega
       have ia0:ia+k < a.size:=by omega
       refine wpS_bind (el j2 ?_)
       have I3:=pB I2 ia0 j2 (k2 k (Nat.le_refl _) (by omega))
       try dsimp only
       by_cases eb:(ib+1==b.size)=true
       ·rw [if_pos eb]
        exact wpS_pure (qd _ _ ⟨_,rfl,.inl ⟨_,_,rfl,dn I3 (by simpa using eb)⟩⟩)
       rw [if_neg eb]
       have eb':ib+1 < b.size:=by have h1:¬ ib+1=b.size:=(by simpa using eb); omega
       refine wpS_bind (el ia0 ?_)
       refine wpS_bind (gX K hk (show ib+1+(b.size - (ib+1))≤b.size by omega) (by omega) (pa _ (au ia0)) (fun i hi=> pb _ (au (by omega))) O.tr (sb (by omega)) fun l ln l1 l2=> ?_)
       try dsimp only
       by_cases hl0:l > 0
       ·rw [if_pos hl0]
        have I4:=rB I3 ia0 (show ib+1+l≤b.size by omega) l1
        by_cases ec:(ib+1+l==b.size)=true
        ·rw [if_pos ec]
         exact wpS_pure (qd _ _ ⟨_,rfl,.inl ⟨_,_,rfl,dn I4 (by simpa using ec)⟩⟩)
        rw [if_neg ec]
        have ec':ib+1+l < b.size:=by have h1:¬ ib+1+l=b.size:=(by simpa using ec); omega
        refine wpS_bind (el ia0 ?_)
        have I6:=pA I4 ia0 ec' (l2 l (Nat.le_refl _) (by omega))
        try dsimp only
        by_cases ea:(ia+k+1+1==a.size)=true
        ·rw [if_pos ea]
         exact wpS_pure (qd _ _ ⟨_,rfl,.inl ⟨_,_,rfl,ls I6 (by simpa using ea)⟩⟩)
        rw [if_neg ea]
        have ea':ia+k+1+1 < a.size:=by have h1:¬ ia+k+1+1=a.size:=(by simpa using ea); omega
        split
        ·exact wpS_pure (qd _ _ ⟨_,rfl,.inr ⟨_,_,_,_,_,_,rfl,I6,ea',ec',by omega⟩⟩)
        ·exact wpS_pure (qy _ _ ⟨_,_,_,_,_,_,_,rfl,rfl,I6,ea',ec',by omega⟩)
       ·rw [if_neg hl0]
        refine wpS_bind (el ia0 ?_)
        have I6:=pA I3 ia0 eb' (l2 0 (by omega) (by omega))
        try dsimp only
        by_cases ea:(ia+k+1+1==a.size)=true
        ·rw [if_pos ea]
         exact wpS_pure (qd _ _ ⟨_,rfl,.inl ⟨_,_,rfl,ls I6 (by simpa using ea)⟩⟩)
        rw [if_neg ea]
        have ea':ia+k+1+1 < a.size:=by have h1:¬ ia+k+1+1=a.size:=(by simpa using ea); omega
        split
        ·exact wpS_pure (qd _ _ ⟨_,rfl,.inr ⟨_,_,_,_,_,_,rfl,I6,ea',eb',by omega⟩⟩)
        ·exact wpS_pure (qy _ _ ⟨_,_,_,_,_,_,_,rfl,rfl,I6,ea',eb',by omega⟩)
      ·rw [if_neg hk0]
       have ia0:ia < a.size:=by omega
       refine wpS_bind (el j2 ?_)
       have I3:=pB I ia0 j2 (k2 0 (by omega) (by omega))
       try dsimp only
       by_cases eb:(ib+1==b.size)=true
       ·rw [if_pos eb]
        exact wpS_pure (qd _ _ ⟨_,rfl,.inl ⟨_,_,rfl,dn I3 (by simpa using eb)⟩⟩)
       rw [if_neg eb]
       have eb':ib+1 < b.size:=by have h1:¬ ib+1=b.size:=(by simpa using eb); omega
       refine wpS_bind (el ia0 ?_)
       refine wpS_bind (gX K hk (show ib+1+(b.size - (ib+1))≤b.size by omega) (by omega) (pa _ (au ia0)) (fun i hi=> pb _ (au (by omega))) O.tr (sb (by omega)) fun l ln l1 l2=> ?_)
       try dsimp only
       by_cases hl0:l > 0
       ·rw [if_pos hl0]
        have I4:=rB I3 ia0 (show ib+1+l≤b.size by omega) l1
        by_cases ec:(ib+1+l==b.size)=true
        ·rw [if_pos ec]
         exact wpS_pure (qd _ _ ⟨_,rfl,.inl ⟨_,_,rfl,dn I4 (by simpa using ec)⟩⟩)
        rw [if_neg ec]
        have ec':ib+1+l < b.size:=by have h1:¬ ib+1+l=b.size:=(by simpa using ec); omega
        refine wpS_bind (el ia0 ?_)
        have I6:=pA I4 ia0 ec' (l2 l (Nat.le_refl _) (by omega))
        try dsimp only
        by_cases ea:(ia+1+1==a.size)=true
        ·rw [if_pos ea]
         exact wpS_pure (qd _ _ ⟨_,rfl,.inl ⟨_,_,rfl,ls I6 (by simpa using ea)⟩⟩)
        rw [if_neg ea]
        have ea':ia+1+1 < a.size:=by have h1:¬ ia+1+1=a.size:=(by simpa using ea); omega
        split
        ·exact wpS_pure (qd _ _ ⟨_,rfl,.inr ⟨_,_,_,_,_,_,rfl,I6,ea',ec',by omega⟩⟩)
        ·exact wpS_pure (qy _ _ ⟨_,_,_,_,_,_,_,rfl,rfl,I6,ea',ec',by omega⟩)
       ·rw [if_neg hl0]
        refine wpS_bind (el ia0 ?_)
        have I6:=pA I3 ia0 eb' (l2 0 (by omega) (by omega))
        try dsimp only
        by_cases ea:(ia+1+1==a.size)=true
        ·rw [if_pos ea]
         exact wpS_pure (qd _ _ ⟨_,rfl,.inl ⟨_,_,rfl,ls I6 (by simpa using ea)⟩⟩)
        rw [if_neg ea]
        have ea':ia+1+1 < a.size:=by have h1:¬ ia+1+1=a.size:=(by simpa using ea); omega
        split
        ·exact wpS_pure (qd _ _ ⟨_,rfl,.inr ⟨_,_,_,_,_,_,rfl,I6,ea',eb',by omega⟩⟩)
        ·exact wpS_pure (qy _ _ ⟨_,_,_,_,_,_,_,rfl,rfl,I6,ea',eb',by omega⟩)
end
section
variable {α:Type} {R:α→α→Bool} {A B:List α}
theorem j3 (L:List α) (i k:Nat) (h:i+k≤L.length):((L.drop i).take k).reverse=(L.reverse.drop (L.length - i - k)).take k:=by
 apply List.ext_getElem
 ·simp; omega
 ·intro n h1 h2
  simp only [List.length_reverse,List.length_take,List.length_drop] at h1 h2
  simp only [List.getElem_reverse,List.getElem_take,List.getElem_drop,List.length_take,List.length_drop]
  congr 1
  omega
theorem lI (L:List α) (n:Nat) (h:n≤L.length):L.reverse.drop (L.length - n)=(L.take n).reverse:=by
 rw [List.drop_reverse,Nat.sub_sub_self h]
theorem MO.rev (O:MO R A B):MO (fun x y=> R y x) B.reverse A.reverse where
 tr:=fun _ _ _ h1 h2=> O.tr _ _ _ h2 h1
 sA:=List.pairwise_reverse.mpr O.sB
 sB:=List.pairwise_reverse.mpr O.sA
 tot:=fun x hx y hy h=> O.tot y (List.mem_reverse.mp hy) x (List.mem_reverse.mp hx) h
theorem Mgd.rev {r:List α} (m:Mgd (fun x y=> R y x) B.reverse A.reverse r):Mgd R A B r.reverse:=
 ⟨(List.reverse_perm r).trans (m.1.trans ((List.perm_append_comm).trans ((List.reverse_perm A).append (List.reverse_perm B)))),List.pairwise_reverse.mpr m.2⟩
end
section
variable {prog:Program} {w:World} {A:Around} {E:Value→Shared→Prop} {s:Shared} {κ:SortKind} {P:Keyed→Prop} {R:Keyed→Keyed→Bool} (K:Asks prog w A E s κ P R)
theorem c_ {a:Array Keyed} {n i:Nat} (hn:n≤a.size) (hi:i < n) (h:a.size - n+i < a.toList.reverse.length):a.toList.reverse[a.size - n+i]=gt a (n - 1 - i):=by
 rw [List.getElem_reverse,gt_eq (by simp; omega)]
 congr 1
 simp
 omega
def mm:Array Keyed→Array Keyed→StateT SortSt Sem (Array Keyed):=sortPriv% PySem.Builtin.mergeHi
include K
set_option maxHeartbeats 4000000 in
theorem mhi {a b:Array Keyed} {st:SortSt} {Q:Array Keyed→SortSt→Prop} (O:MO R a.toList b.toList) (pa:∀ x∈a.toList,P x) (pb:∀ x∈b.toList,P x) (ha:0 < a.size) (hb:0 < b.size) (h0:R (gt b (b.size - 1)) (gt a (a.size - 1))=true) (hl:∀ y∈a.toList,R (gt b 0) y=true) (hk:kindOf st=κ)
  (h:∀ r g,Mgd R a.toList b.toList r.toList→Q r (eg st g)):wpS (model prog w) A E s (mm a b) Q st:=by
 have la:a.toList.reverse.length=a.size:=by simp
 have lb:b.toList.reverse.length=b.size:=by simp
 have O':=O.rev
 have xa:∀ n,n≤a.size→(a.extract 0 n).toList=(a.toList.reverse.drop (a.size - n)).reverse:=fun n hn=> by
  have:=lI a.toList n (by simpa using hn)
  rw [Array.length_toList] at this
  rw [this,List.reverse_reverse]; simp
 have xb:∀ n,n≤b.size→(b.extract 0 n).toList=(b.toList.reverse.drop (b.size - n)).reverse:=fun n hn=> by
  have:=lI b.toList n (by simpa using hn)
  rw [Array.length_toList] at this
  rw [this,List.reverse_reverse]; simp
 have dn:∀ {out:Array Keyed} {na nb:Nat},MI (fun x y=> R y x) b.toList.reverse a.toList.reverse out.toList (b.size - nb) (a.size - na)→nb≤b.size→na=0→Mgd R a.toList b.toList (a.extract 0 na++b.extract 0 nb++out.reverse).toList:=fun {out na nb} I hn e=> by
  have:=(I.doneB O' (by omega)).rev
  rw [List.reverse_append,List.reverse_append,← List.append_assoc,← xa na (by omega),← xb nb hn] at this
  rw [Array.toList_append,Array.toList_append,Array.toList_reverse]
  exact this
 have dA:∀ {out:Array Keyed} {na nb:Nat},MI (fun x y=> R y x) b.toList.reverse a.toList.reverse out.toList (b.size - nb) (a.size - na)→na≤a.size→nb=0→Mgd R a.toList b.toList (a.extract 0 na++b.extract 0 nb++out.reverse).toList:=fun {out na nb} I hn e=> by
  have:=(I.doneA O' (by omega)).rev
  rw [List.reverse_append,List.reverse_append,← List.append_assoc,← xa na hn,← xb nb (by omega)] at this
  rw [Array.toList_append,Array.toList_append,Array.toList_reverse]
  exact this
 have ls:∀ {out:Array Keyed} {na nb:Nat},MI (fun x y=> R y x) b.toList.reverse a.toList.reverse out.toList (b.size - nb) (a.size - na)→na≤a.size→nb=1→Mgd R a.toList b.toList (b.extract 0 nb++a.extract 0 na++out.reverse).toList:=fun {out na nb} I hn e=> by
  have:=(I.last O' (by omega) fun y hy=> by
   have z:=hl y (List.mem_reverse.mp hy)
   have g:=c_ (a:=b) (n:=nb) (i:=0) (by omega) (by omega) (by omega)
   simp only [Nat.add_zero] at g
   rw [g,e]
   exact z).rev
  rw [List.reverse_append,List.reverse_append,← List.append_assoc,← xa na hn,← xb nb (by omega)] at this
  rw [Array.toList_append,Array.toList_append,Array.toList_reverse]
  exact this
 have pB:∀ {out:Array Keyed} {na nb:Nat},MI (fun x y=> R y x) b.toList.reverse a.toList.reverse out.toList (b.size - nb) (a.size - na)→0 < na→na≤a.size→0 < nb→nb≤b.size→R (gt b (nb - 1)) (gt a (na - 1))=true→MI (fun x y=> R y x) b.toList.reverse a.toList.reverse (out.push (gt a (na - 1))).toList (b.size - nb) (a.size - (na - 1)):=fun {out na nb} I h1 h2 h3 h4 hr=> by
  have g:=c_ (a:=a) (n:=na) (i:=0) h2 h1 (by omega)
  have g2:=c_ (a:=b) (n:=nb) (i:=0) h4 h3 (by omega)
  simp only [Nat.add_zero,Nat.sub_zero] at g g2
  rw [Array.toList_push,← g,show a.size - (na - 1)=a.size - na+1 by omega]
  refine I.pushB O' (by omega) (da O'.tr O'.sA (by omega) ?_)
  rw [g,g2]; exact hr
 have pA:∀ {out:Array Keyed} {na nb:Nat},MI (fun x y=> R y x) b.toList.reverse a.toList.reverse out.toList (b.size - nb) (a.size - na)→0 < na→na≤a.size→0 < nb→nb≤b.size→R (gt b (nb - 1)) (gt a (na - 1))=false→MI (fun x y=> R y x) b.toList.reverse a.toList.reverse (out.push (gt b (nb - 1))).toList (b.size - (nb - 1)) (a.size - na):=fun {out na nb} I h1 h2 h3 h4 hr=> by
  have g:=c_ (a:=a) (n:=na) (i:=0) h2 h1 (by omega)
  have g2:=c_ (a:=b) (n:=nb) (i:=0) h4 h3 (by omega)
  simp only [Nat.add_zero,Nat.sub_zero] at g g2
  rw [Array.toList_push,← g2,show b.size - (nb - 1)=b.size - nb+1 by omega]
  refine I.pushA O' (by omega) (da O'.tr O'.sB (by omega) ?_)
  rw [g,g2]
  exact O.tot _ (au (by omega)) _ (au (by omega)) hr
 have rB:∀ {out:Array Keyed} {na nb k:Nat},MI (fun x y=> R y x) b.toList.reverse a.toList.reverse out.toList (b.size - nb) (a.size - na)→k≤na→na≤a.size→0 < nb→nb≤b.size→(∀ i,k≤i→i < na→R (gt b (nb - 1)) (gt a i)=true)→MI (fun x y=> R y x) b.toList.reverse a.toList.reverse (out++(a.extract k na).reverse).toList (b.size - nb) (a.size - k):=fun {out na nb k} I h1 h2 h3 h4 hr=> by
  have e:(a.extract k na).reverse.toList=(a.toList.reverse.drop (a.size - na)).take (na - k):=by
   rw [Array.toList_reverse,← show k+(na - k)=na by omega,dO,j3 _ _ _ (by rw [Array.length_toList]; omega),Array.length_toList]
   congr 1
   ·omega
   ·congr 1; omega
  rw [Array.toList_append,e,show a.size - k=a.size - na+(na - k) by omega]
  refine I.runB O' (by omega) _ (by omega) fun i h hi=> ?_
  have g2:=c_ (a:=b) (n:=nb) (i:=0) h4 h3 (by omega)
  simp only [Nat.add_zero,Nat.sub_zero] at g2
  rw [c_ h2 (by omega),g2]
  exact hr _ (by omega) (by omega)
 have rA:∀ {out:Array Keyed} {na nb k:Nat},MI (fun x y=> R y x) b.toList.reverse a.toList.reverse out.toList (b.size - nb) (a.size - na)→k≤nb→nb≤b.size→0 < na→na≤a.size→(∀ i,k≤i→i < nb→R (gt b i) (gt a (na - 1))=false)→MI (fun x y=> R y x) b.toList.reverse a.toList.reverse (out++(b.extract k nb).reverse).toList (b.size - k) (a.size - na):=fun {out na nb k} I h1 h2 h3 h4 hr=> by
  have e:(b.extract k nb).reverse.toList=(b.toList.reverse.drop (b.size - nb)).take (nb - k):=by
   rw [Array.toList_reverse,← show k+(nb - k)=nb by omega,dO,j3 _ _ _ (by rw [Array.length_toList]; omega),Array.length_toList]
   congr 1
   ·omega
   ·congr 1; omega
  rw [Array.toList_append,e,show b.size - k=b.size - nb+(nb - k) by omega]
  refine I.runA O' (by omega) _ (by omega) fun i h hi=> ?_
  have g2:=c_ (a:=a) (n:=na) (i:=0) h4 h3 (by omega)
  simp only [Nat.add_zero,Nat.sub_zero] at g2
  rw [c_ h2 (by omega),g2]
  exact O.tot _ (au (by omega)) _ (au (by omega)) (hr _ (by omega) (by omega))
 have sa:∀ {n:Nat},n≤a.size→∀ i j,i < j→j < n→R (gt a (0+i)) (gt a (0+j))=true:=fun {n} hn i j h1 h2=> by
  rw [gt_eq (show 0+i < a.toList.length by rw [Array.length_toList]; omega),gt_eq (show 0+j < a.toList.length by rw [Array.length_toList]; omega)]
  exact List.pairwise_iff_getElem.mp O.sA _ _ _ _ (by omega)
 have sb:∀ {n:Nat},n≤b.size→∀ i j,i < j→j < n→R (gt b (0+i)) (gt b (0+j))=true:=fun {n} hn i j h1 h2=> by
  rw [gt_eq (show 0+i < b.toList.length by rw [Array.length_toList]; omega),gt_eq (show 0+j < b.toList.length by rw [Array.length_toList]; omega)]
  exact List.pairwise_iff_getElem.mp O.sB _ _ _ _ (by omega)
 have start:MI (fun x y=> R y x) b.toList.reverse a.toList.reverse (#[gt a (a.size - 1)]:Array Keyed).toList (b.size - b.size) (a.size - (a.size - 1)):=by
  have e:(#[gt a (a.size - 1)]:Array Keyed)=(#[]:Array Keyed).push (gt a (a.size - 1)):=rfl
  rw [e]
  exact pB ⟨by simp,by simp,by simp,by simp⟩ ha (Nat.le_refl _) hb (Nat.le_refl _) h0
 refine wpS_bind (ru ?_)
 refine wpS_bind (el (show a.size - 1 < a.size by omega) ?_)
 try dsimp only
 by_cases e1:(a.size - 1==0)=true
 ·rw [if_pos e1]
  exact wpS_pure (h _ (gallopOf st) (dn start (Nat.le_refl _) (by simpa using e1)))
 rw [if_neg e1]
 have e1':0 < a.size - 1:=by have h1:¬ a.size - 1=0:=(by simpa using e1); omega
 by_cases e2:(b.size==1)=true
 ·rw [if_pos e2]
  exact wpS_pure (h _ (gallopOf st) (ls start (by omega) (by simpa using e2)))
 rw [if_neg e2]
 have e2':1 < b.size:=by have h1:¬ b.size=1:=(by simpa using e2); omega
 refine wpS_bind (wpS_get ?_)
 try dsimp only
 refine wpS_bind (wpS_mono (ku (I:=fun x c st'=> ∃ g na nb out mg,st'=eg st g∧c=(none,na,nb,out,mg)∧MI (fun x y=> R y x) b.toList.reverse a.toList.reverse (out).toList (b.size - nb) (a.size - na)∧0 < na∧na≤a.size∧1 < nb∧nb≤b.size∧x+1≤(a.size - na)+(b.size - nb)) (Q:=fun c st'=> ∃ g r rest,st'=eg st g∧c=(some r,rest)∧Mgd R a.toList b.toList r.toList) ?step ?fin ⟨gallopOf st,_,_,_,_,rfl,rfl,start,e1',by omega,e2',Nat.le_refl _,by omega⟩) ?post)
 case fin=>
  rintro c st' ⟨g,na,nb,out,mg,rfl,rfl,I,i1,i2,i3,i4,pr⟩
  exfalso; omega
 case post=>
  rintro c st' ⟨g,r,rest,rfl,rfl,m⟩
  exact wpS_pure (h r g m)
 case step=>
  rintro x c st' hx ⟨g,na,nb,out,mg,rfl,rfl,I,i1,i2,i3,i4,pr⟩ post pd py
  refine wpS_bind (wpS_mono (ku (I:=fun x2 c st'=> ∃ na nb out ac bc,st'=eg st g∧c=(none,na,nb,out,ac,bc)∧MI (fun x y=> R y x) b.toList.reverse a.toList.reverse (out).toList (b.size - nb) (a.size - na)∧0 < na∧na≤a.size∧1 < nb∧nb≤b.size∧x+1+x2≤(a.size - na)+(b.size - nb)) (Q:=fun c st'=> st'=eg st g∧((∃ r rest,c=(some r,rest)∧Mgd R a.toList b.toList r.toList)∨∃ na nb out ac bc,c=(none,na,nb,out,ac,bc)∧MI (fun x y=> R y x) b.toList.reverse a.toList.reverse (out).toList (b.size - nb) (a.size - na)∧0 < na∧na≤a.size∧1 < nb∧nb≤b.size∧x+2≤(a.size - na)+(b.size - nb))) ?s2 ?f2 ⟨na,nb,out,0,0,rfl,rfl,I,i1,i2,i3,i4,pr⟩) ?p2)
  case f2=>
   rintro c st' ⟨na,nb,out,ac,bc,rfl,rfl,I,i1,i2,i3,i4,pr⟩
   exfalso; omega
  case s2=>
   rintro y c st' hy ⟨na,nb,out,ac,bc,rfl,rfl,I,i1,i2,i3,i4,pr⟩ post2 qd qy
   try dsimp only
   refine wpS_bind (el (show nb - 1 < b.size by omega) ?_)
   refine wpS_bind (el (show na - 1 < a.size by omega) ?_)
   refine wpS_bind (K _ _ _ _ (pb _ (au (by omega))) (pa _ (au (by omega))) hk ?_)
   try dsimp only
   by_cases hw:R (gt b (nb - 1)) (gt a (na - 1))=true
   ·rw [if_pos hw]
    refine wpS_bind (el (show na - 1 < a.size by omega) ?_)
    have I2:=pB I i1 i2 (show 0 < nb by omega) i4 hw
    try dsimp only
    by_cases eb:(na - 1==0)=true
    ·rw [if_pos eb]
     exact wpS_pure (qd _ _ ⟨rfl,.inl ⟨_,_,rfl,dn I2 (by omega) (by simpa using eb)⟩⟩)
    ·rw [if_neg eb]
     have eb':0 < na - 1:=by have h1:¬ na - 1=0:=(by simpa using eb); omega
     by_cases hm:ac+1 ≥ mg
     ·rw [if_pos hm]
      exact wpS_pure (qd _ _ ⟨rfl,.inr ⟨_,_,_,_,_,rfl,I2,eb',by omega,i3,i4,by omega⟩⟩)
     ·rw [if_neg hm]
      exact wpS_pure (qy _ _ ⟨_,_,_,_,_,rfl,rfl,I2,eb',by omega,i3,i4,by omega⟩)
   ·rw [if_neg hw]
    refine wpS_bind (el (show nb - 1 < b.size by omega) ?_)
    have I2:=pA I i1 i2 (show 0 < nb by omega) i4 (by simpa using hw)
    try dsimp only
    by_cases ea:(nb - 1==1)=true
    ·rw [if_pos ea]
     exact wpS_pure (qd _ _ ⟨rfl,.inl ⟨_,_,rfl,ls I2 (by omega) (by simpa using ea)⟩⟩)
    ·rw [if_neg ea]
     have ea':1 < nb - 1:=by have h1:¬ nb - 1=1:=(by simpa using ea); omega
     by_cases hm:bc+1 ≥ mg
     ·rw [if_pos hm]
      exact wpS_pure (qd _ _ ⟨rfl,.inr ⟨_,_,_,_,_,rfl,I2,i1,i2,ea',by omega,by omega⟩⟩)
     ·rw [if_neg hm]
      exact wpS_pure (qy _ _ ⟨_,_,_,_,_,rfl,rfl,I2,i1,i2,ea',by omega,by omega⟩)
  case p2=>
   rintro c st' ⟨rfl,⟨r,rest,rfl,m⟩ | ⟨na,nb,out,ac,bc,rfl,I,i1,i2,i3,i4,pr⟩⟩
   ·exact wpS_pure (pd _ _ ⟨g,r,_,rfl,rfl,m⟩)
   ·refine wpS_bind (ru ?_)
    refine wpS_bind (wpS_mono (ku (I:=fun x3 c st'=> ∃ g na nb out mg ac bc,st'=eg st g∧c=(none,na,nb,out,mg,ac,bc)∧MI (fun x y=> R y x) b.toList.reverse a.toList.reverse (out).toList (b.size - nb) (a.size - na)∧0 < na∧na≤a.size∧1 < nb∧nb≤b.size∧x+2+x3≤(a.size - na)+(b.size - nb)) (Q:=fun c st'=> ∃ g,st'=eg st g∧((∃ r rest,c=(some r,rest)∧Mgd R a.toList b.toList r.toList)∨∃ na nb out mg ac bc,c=(none,na,nb,out,mg,ac,bc)∧MI (fun x y=> R y x) b.toList.reverse a.toList.reverse (out).toList (b.size - nb) (a.size - na)∧0 < na∧na≤a.size∧1 < nb∧nb≤b.size∧x+2≤(a.size - na)+(b.size - nb))) ?s3 ?f3 ⟨g,na,nb,out,_,ac,bc,rfl,rfl,I,i1,i2,i3,i4,pr⟩) ?p3)
    case f3=>
     rintro c st' ⟨g,na,nb,out,mg,ac,bc,rfl,rfl,I,i1,i2,i3,i4,pr⟩
     exfalso; omega
    case p3=>
     rintro c st' ⟨g,rfl,⟨r,rest,rfl,m⟩ | ⟨na,nb,out,mg,ac,bc,rfl,I,i1,i2,i3,i4,pr⟩⟩
     ·exact wpS_pure (pd _ _ ⟨g,r,_,rfl,rfl,m⟩)
     ·refine wpS_bind (sg ?_)
      exact wpS_pure (py _ _ ⟨_,_,_,_,_,rfl,rfl,I,i1,i2,i3,i4,pr⟩)
    case s3=>
     rintro x3 c st' hx3 ⟨g,na,nb,out,mg,ac,bc,rfl,rfl,I,i1,i2,i3,i4,pr⟩ post3 qd qy
     try dsimp only
     by_cases hg:mg > 1
     ·rw [if_pos hg]
      refine wpS_bind (sg ?_)
      refine wpS_bind (el (show nb - 1 < b.size by omega) ?_)
      refine wpS_bind (mq K hk (show 0+na≤a.size by omega) (by omega) (pb _ (au (by omega))) (fun i hi=> pa _ (au (by omega))) O.tr (sa (by omega)) fun k kn k1 k2=> ?_)
      simp only [Nat.zero_add] at k1 k2
      try dsimp only
      by_cases hk0:na - k > 0
      ·rw [if_pos hk0]
       have I2:=rB I (show k≤na by omega) i2 (show 0 < nb by omega) i4 k2
       by_cases ec:(k==0)=true
       ·rw [if_pos ec]
        exact wpS_pure (qd _ _ ⟨_,rfl,.inl ⟨_,_,rfl,dn I2 (by omega) (by simpa using ec)⟩⟩)
       rw [if_neg ec]
       have ec':0 < k:=by have h1:¬ k=0:=(by simpa using ec); omega
       have na0:0 < k:=by omega
       have na1:k≤a.size:=by omega
       refine wpS_bind (el (show nb - 1 < b.size by omega) ?_)
       have I3:=pA I2 na0 na1 (show 0 < nb by omega) i4 (k1 (k - 1) (by omega))
       try dsimp only
       by_cases eb:(nb - 1==1)=true
       ·rw [if_pos eb]
        exact wpS_pure (qd _ _ ⟨_,rfl,.inl ⟨_,_,rfl,ls I3 (by omega) (by simpa using eb)⟩⟩)
       rw [if_neg eb]
       have eb':1 < nb - 1:=by have h1:¬ nb - 1=1:=(by simpa using eb); omega
       refine wpS_bind (el (show k - 1 < a.size by omega) ?_)
       refine wpS_bind (gX K hk (show 0+(nb - 1)≤b.size by omega) (by omega) (pa _ (au (by omega))) (fun i hi=> pb _ (au (by omega))) O.tr (sb (by omega)) fun l ln l1 l2=> ?_)
       simp only [Nat.zero_add] at l1 l2
       try dsimp only
       by_cases hl0:nb - 1 - l > 0
       ·rw [if_pos hl0]
        have I4:=rA I3 (show l≤nb - 1 by omega) (show nb - 1≤b.size by omega) na0 na1 l2
        by_cases ec:(l==1)=true
        ·rw [if_pos ec]
         exact wpS_pure (qd _ _ ⟨_,rfl,.inl ⟨_,_,rfl,ls I4 (by omega) (by simpa using ec)⟩⟩)
        rw [if_neg ec]
        by_cases ed:(l==0)=true
        ·rw [if_pos ed]
         exact wpS_pure (qd _ _ ⟨_,rfl,.inl ⟨_,_,rfl,dA I4 (by omega) (by simpa using ed)⟩⟩)
        rw [if_neg ed]
        have ec':1 < l:=by have h1:¬ l=1:=(by simpa using ec); have h2:¬ l=0:=(by simpa using ed); omega
        refine wpS_bind (el (show k - 1 < a.size by omega) ?_)
        have I6:=pB I4 na0 na1 (show 0 < l by omega) (show l≤b.size by omega) (l1 (l - 1) (by omega))
        try dsimp only
        by_cases ea:(k - 1==0)=true
        ·rw [if_pos ea]
         exact wpS_pure (qd _ _ ⟨_,rfl,.inl ⟨_,_,rfl,dn I6 (by omega) (by simpa using ea)⟩⟩)
        rw [if_neg ea]
        have ea':0 < k - 1:=by have h1:¬ k - 1=0:=(by simpa using ea); omega
        split
        ·exact wpS_pure (qd _ _ ⟨_,rfl,.inr ⟨_,_,_,_,_,_,rfl,I6,ea',by omega,by omega,by omega,by omega⟩⟩)
        ·exact wpS_pure (qy _ _ ⟨_,_,_,_,_,_,_,rfl,rfl,I6,ea',by omega,by omega,by omega,by omega⟩)
       ·rw [if_neg hl0]
        refine wpS_bind (el (show k - 1 < a.size by omega) ?_)
        have I6:=pB I3 na0 na1 (show 0 < nb - 1 by omega) (show nb - 1≤b.size by omega) (l1 (nb - 1 - 1) (by omega))
        try dsimp only
        by_cases ea:(k - 1==0)=true
        ·rw [if_pos ea]
         exact wpS_pure (qd _ _ ⟨_,rfl,.inl ⟨_,_,rfl,dn I6 (by omega) (by simpa using ea)⟩⟩)
        rw [if_neg ea]
        have ea':0 < k - 1:=by have h1:¬ k - 1=0:=(by simpa using ea); omega
        split
        ·exact wpS_pure (qd _ _ ⟨_,rfl,.inr ⟨_,_,_,_,_,_,rfl,I6,ea',by omega,by omega,by omega,by omega⟩⟩)
        ·exact wpS_pure (qy _ _ ⟨_,_,_,_,_,_,_,rfl,rfl,I6,ea',by omega,by omega,by omega,by omega⟩)
      ·rw [if_neg hk0]
       have na0:0 < na:=by omega
       have na1:na≤a.size:=by omega
       refine wpS_bind (el (show nb - 1 < b.size by omega) ?_)
       have I3:=pA I na0 na1 (show 0 < nb by omega) i4 (k1 (na - 1) (by omega))
       try dsimp only
       by_cases eb:(nb - 1==1)=true
       ·rw [if_pos eb]
        exact wpS_pure (qd _ _ ⟨_,rfl,.inl ⟨_,_,rfl,ls I3 (by omega) (by simpa using eb)⟩⟩)
       rw [if_neg eb]
       have eb':1 < nb - 1:=by have h1:¬ nb - 1=1:=(by simpa using eb); omega
       refine wpS_bind (el (show na - 1 < a.size by omega) ?_)
       refine wpS_bind (gX K hk (show 0+(nb - 1)≤b.size by omega) (by omega) (pa _ (au (by omega))) (fun i hi=> pb _ (au (by omega))) O.tr (sb (by omega)) fun l ln l1 l2=> ?_)
       simp only [Nat.zero_add] at l1 l2
       try dsimp only
       by_cases hl0:nb - 1 - l > 0
       ·rw [if_pos hl0]
        have I4:=rA I3 (show l≤nb - 1 by omega) (show nb - 1≤b.size by omega) na0 na1 l2
        by_cases ec:(l==1)=true
        ·rw [if_pos ec]
         exact wpS_pure (qd _ _ ⟨_,rfl,.inl ⟨_,_,rfl,ls I4 (by omega) (by simpa using ec)⟩⟩)
        rw [if_neg ec]
        by_cases ed:(l==0)=true
        ·rw [if_pos ed]
         exact wpS_pure (qd _ _ ⟨_,rfl,.inl ⟨_,_,rfl,dA I4 (by omega) (by simpa using ed)⟩⟩)
        rw [if_neg ed]
        have ec':1 < l:=by have h1:¬ l=1:=(by simpa using ec); have h2:¬ l=0:=(by simpa using ed); omega
        refine wpS_bind (el (show na - 1 < a.size by omega) ?_)
        have I6:=pB I4 na0 na1 (show 0 < l by omega) (show l≤b.size by omega) (l1 (l - 1) (by omega))
        try dsimp only
        by_cases ea:(na - 1==0)=true
        ·rw [if_pos ea]
         exact wpS_pure (qd _ _ ⟨_,rfl,.inl ⟨_,_,rfl,dn I6 (by omega) (by simpa using ea)⟩⟩)
        rw [if_neg ea]
        have ea':0 < na - 1:=by have h1:¬ na - 1=0:=(by simpa using ea); omega
        split
        ·exact wpS_pure (qd _ _ ⟨_,rfl,.inr ⟨_,_,_,_,_,_,rfl,I6,ea',by omega,by omega,by omega,by omega⟩⟩)
        ·exact wpS_pure (qy _ _ ⟨_,_,_,_,_,_,_,rfl,rfl,I6,ea',by omega,by omega,by omega,by omega⟩)
       ·rw [if_neg hl0]
        refine wpS_bind (el (show na - 1 < a.size by omega) ?_)
        have I6:=pB I3 na0 na1 (show 0 < nb - 1 by omega) (show nb - 1≤b.size by omega) (l1 (nb - 1 - 1) (by omega))
        try dsimp only
        by_cases ea:(na - 1==0)=true
        ·rw [if_pos ea]
         exact wpS_pure (qd _ _ ⟨_,rfl,.inl ⟨_,_,rfl,dn I6 (by omega) (by simpa using ea)⟩⟩)
        rw [if_neg ea]
        have ea':0 < na - 1:=by have h1:¬ na - 1=0:=(by simpa using ea); omega
        split
        ·exact wpS_pure (qd _ _ ⟨_,rfl,.inr ⟨_,_,_,_,_,_,rfl,I6,ea',by omega,by omega,by omega,by omega⟩⟩)
        ·exact wpS_pure (qy _ _ ⟨_,_,_,_,_,_,_,rfl,rfl,I6,ea',by omega,by omega,by omega,by omega⟩)
     ·rw [if_neg hg]
      refine wpS_bind (sg ?_)
      refine wpS_bind (el (show nb - 1 < b.size by omega) ?_)
      refine wpS_bind (mq K hk (show 0+na≤a.size by omega) (by omega) (pb _ (au (by omega))) (fun i hi=> pa _ (au (by omega))) O.tr (sa (by omega)) fun k kn k1 k2=> ?_)
      simp only [Nat.zero_add] at k1 k2
      try dsimp only
      by_cases hk0:na - k > 0
      ·rw [if_pos hk0]
       have I2:=rB I (show k≤na by omega) i2 (show 0 < nb by omega) i4 k2
       by_cases ec:(k==0)=true
       ·rw [if_pos ec]
        exact wpS_pure (qd _ _ ⟨_,rfl,.inl ⟨_,_,rfl,dn I2 (by omega) (by simpa using ec)⟩⟩)
       rw [if_neg ec]
       have ec':0 < k:=by have h1:¬ k=0:=(by simpa using ec); omega
       have na0:0 < k:=by omega
       have na1:k≤a.size:=by omega
       refine wpS_bind (el (show nb - 1 < b.size by omega) ?_)
       have I3:=pA I2 na0 na1 (show 0 < nb by omega) i4 (k1 (k - 1) (by omega))
       try dsimp only
       by_cases eb:(nb - 1==1)=true
       ·rw [if_pos eb]
        exact wpS_pure (qd _ _ ⟨_,rfl,.inl ⟨_,_,rfl,ls I3 (by omega) (by simpa using eb)⟩⟩)
       rw [if_neg eb]
       have eb':1 < nb - 1:=by have h1:¬ nb - 1=1:=(by simpa using eb); omega
       refine wpS_bind (el (show k - 1 < a.size by omega) ?_)
       refine wpS_bind (gX K hk (show 0+(nb - 1)≤b.size by omega) (by omega) (pa _ (au (by omega))) (fun i hi=> pb _ (au (by omega))) O.tr (sb (by omega)) fun l ln l1 l2=> ?_)
       simp only [Nat.zero_add] at l1 l2
       try dsimp only
       by_cases hl0:nb - 1 - l > 0
       ·rw [if_pos hl0]
        have I4:=rA I3 (show l≤nb - 1 by omega) (show nb - 1≤b.size by omega) na0 na1 l2
        by_cases ec:(l==1)=true
        ·rw [if_pos ec]
         exact wpS_pure (qd _ _ ⟨_,rfl,.inl ⟨_,_,rfl,ls I4 (by omega) (by simpa using ec)⟩⟩)
        rw [if_neg ec]
        by_cases ed:(l==0)=true
        ·rw [if_pos ed]
         exact wpS_pure (qd _ _ ⟨_,rfl,.inl ⟨_,_,rfl,dA I4 (by omega) (by simpa using ed)⟩⟩)
        rw [if_neg ed]
        have ec':1 < l:=by have h1:¬ l=1:=(by simpa using ec); have h2:¬ l=0:=(by simpa using ed); omega
        refine wpS_bind (el (show k - 1 < a.size by omega) ?_)
        have I6:=pB I4 na0 na1 (show 0 < l by omega) (show l≤b.size by omega) (l1 (l - 1) (by omega))
        try dsimp only
        by_cases ea:(k - 1==0)=true
        ·rw [if_pos ea]
         exact wpS_pure (qd _ _ ⟨_,rfl,.inl ⟨_,_,rfl,dn I6 (by omega) (by simpa using ea)⟩⟩)
        rw [if_neg ea]
        have ea':0 < k - 1:=by have h1:¬ k - 1=0:=(by simpa using ea); omega
        split
        ·exact wpS_pure (qd _ _ ⟨_,rfl,.inr ⟨_,_,_,_,_,_,rfl,I6,ea',by omega,by omega,by omega,by omega⟩⟩)
        ·exact wpS_pure (qy _ _ ⟨_,_,_,_,_,_,_,rfl,rfl,I6,ea',by omega,by omega,by omega,by omega⟩)
       ·rw [if_neg hl0]
        refine wpS_bind (el (show k - 1 < a.size by omega) ?_)
        have I6:=pB I3 na0 na1 (show 0 < nb - 1 by omega) (show nb - 1≤b.size by omega) (l1 (nb - 1 - 1) (by omega))
        try dsimp only
        by_cases ea:(k - 1==0)=true
        ·rw [if_pos ea]
         exact wpS_pure (qd _ _ ⟨_,rfl,.inl ⟨_,_,rfl,dn I6 (by omega) (by simpa using ea)⟩⟩)
        rw [if_neg ea]
        have ea':0 < k - 1:=by have h1:¬ k - 1=0:=(by simpa using ea); omega
        split
        ·exact wpS_pure (qd _ _ ⟨_,rfl,.inr ⟨_,_,_,_,_,_,rfl,I6,ea',by omega,by omega,by omega,by omega⟩⟩)
        ·exact wpS_pure (qy _ _ ⟨_,_,_,_,_,_,_,rfl,rfl,I6,ea',by omega,by omega,by omega,by omega⟩)
      ·rw [if_neg hk0]
       have na0:0 < na:=by omega
       have na1:na≤a.size:=by omega
       refine wpS_bind (el (show nb - 1 < b.size by omega) ?_)
       have I3:=pA I na0 na1 (show 0 < nb by omega) i4 (k1 (na - 1) (by omega))
       try dsimp only
       by_cases eb:(nb - 1==1)=true
       ·rw [if_pos eb]
        exact wpS_pure (qd _ _ ⟨_,rfl,.inl ⟨_,_,rfl,ls I3 (by omega) (by simpa using eb)⟩⟩)
       rw [if_neg eb]
       have eb':1 < nb - 1:=by have h1:¬ nb - 1=1:=(by simpa using eb); omega
       refine wpS_bind (el (show na - 1 < a.size by omega) ?_)
       refine wpS_bind (gX K hk (show 0+(nb - 1)≤b.size by omega) (by omega) (pa _ (au (by omega))) (fun i hi=> pb _ (au (by omega))) O.tr (sb (by omega)) fun l ln l1 l2=> ?_)
       simp only [Nat.zero_add] at l1 l2
       try dsimp only
       by_cases hl0:nb - 1 - l > 0
       ·rw [if_pos hl0]
        have I4:=rA I3 (show l≤nb - 1 by omega) (show nb - 1≤b.size by omega) na0 na1 l2
        by_cases ec:(l==1)=true
        ·rw [if_pos ec]
         exact wpS_pure (qd _ _ ⟨_,rfl,.inl ⟨_,_,rfl,ls I4 (by omega) (by simpa using ec)⟩⟩)
        rw [if_neg ec]
        by_cases ed:(l==0)=true
        ·rw [if_pos ed]
         exact wpS_pure (qd _ _ ⟨_,rfl,.inl ⟨_,_,rfl,dA I4 (by omega) (by simpa using ed)⟩⟩)
        rw [if_neg ed]
        have ec':1 < l:=by have h1:¬ l=1:=(by simpa using ec); have h2:¬ l=0:=(by simpa using ed); omega
        refine wpS_bind (el (show na - 1 < a.size by omega) ?_)
        have I6:=pB I4 na0 na1 (show 0 < l by omega) (show l≤b.size by omega) (l1 (l - 1) (by omega))
        try dsimp only
        by_cases ea:(na - 1==0)=true
        ·rw [if_pos ea]
         exact wpS_pure (qd _ _ ⟨_,rfl,.inl ⟨_,_,rfl,dn I6 (by omega) (by simpa using ea)⟩⟩)
        rw [if_neg ea]
        have ea':0 < na - 1:=by have h1:¬ na - 1=0:=(by simpa using ea); omega
        split
        ·exact wpS_pure (qd _ _ ⟨_,rfl,.inr ⟨_,_,_,_,_,_,rfl,I6,ea',by omega,by omega,by omega,by omega⟩⟩)
        ·exact wpS_pure (qy _ _ ⟨_,_,_,_,_,_,_,rfl,rfl,I6,ea',by omega,by omega,by omega,by omega⟩)
       ·rw [if_neg hl0]
        refine wpS_bind (el (show na - 1 < a.size by omega) ?_)
        have I6:=pB I3 na0 na1 (show 0 < nb - 1 by omega) (show nb - 1≤b.size by omega) (l1 (nb - 1 - 1) (by omega))
        try dsimp only
        by_cases ea:(na - 1==0)=true
        ·rw [if_pos ea]
         exact wpS_pure (qd _ _ ⟨_,rfl,.inl ⟨_,_,rfl,dn I6 (by omega) (by simpa using ea)⟩⟩)
        rw [if_neg ea]
        have ea':0 < na - 1:=by have h1:¬ na - 1=0:=(by simpa using ea); omega
        split
        ·exact wpS_pure (qd _ _ ⟨_,rfl,.inr ⟨_,_,_,_,_,_,rfl,I6,ea',by omega,by omega,by omega,by omega⟩⟩)
        ·exact wpS_pure (qy _ _ ⟨_,_,_,_,_,_,_,rfl,rfl,I6,ea',by omega,by omega,by omega,by omega⟩)
end
end TS
namespace TS
open PySem PyProof.Rows
section
theorem iQ {κ:Type}:∀ (m:List κ) (n p:Nat) (X Y:List κ) (arr:Array κ),arr.toList=X++Y→X.length=p+n→m.length≤Y.length→((m.zipIdx n).foldl (fun a (x:κ×Nat)=> a.setIfInBounds (p+x.2) x.1) arr).toList=X++m++Y.drop m.length
 | [],n,p,X,Y,arr,e,_,_=> by simpa using e
 | x::m,n,p,X,[],arr,e,h1,h2=> by simp at h2
 | x::m,n,p,X,y::Y,arr,e,h1,h2=> by
  rw [List.zipIdx_cons,List.foldl_cons]
  have:=iQ m (n+1) p (X++[x]) Y (arr.setIfInBounds (p+n) x) (by
   rw [Array.toList_setIfInBounds,e,← h1,List.set_append_right _ _ (Nat.le_refl _)]; simp) (by simp; omega) (by simpa using h2)
  rw [this]; simp
theorem mG {M:Model} {A:Around} {E:Value→Shared→Prop} {s:Shared} {σ:Type} {x:σ} {Q:PUnit→σ→Prop} {st:σ} (h:Q ⟨⟩ x):wpS M A E s (set x:StateT σ Sem PUnit) Q st:=by
 unfold wpS; rw [StateT.run_set]; exact wpAny_pure ⟨rfl,h⟩
theorem seg {κ:Type} (X S Y:List κ):((X++S++Y).drop X.length).take S.length=S:=by simp
end
section
variable {prog:Program} {w:World} {A:Around} {E:Value→Shared→Prop} {s:Shared} {κ:SortKind} {P:Keyed→Prop} {R:Keyed→Keyed→Bool} (K:Asks prog w A E s κ P R)
include K
set_option maxHeartbeats 2000000 in
theorem mat {i sa na pw sb nb pw2:Nat} {X S1 S2 Y:List Keyed} {st:SortSt} {Q:Bool→SortSt→Prop} (hk:kindOf st=κ) (hf:failedOf st=none) (h1:(pendingOf st)[i]?=some (sa,na,pw)) (h2:(pendingOf st)[i+1]?=some (sb,nb,pw2)) (ha:(arrOf st).toList=X++S1++S2++Y) (lX:X.length=sa) (l1:S1.length=na) (l2:S2.length=nb) (hsb:sb=sa+na) (p1:0 < na) (p2:0 < nb) (pp:∀ x∈S1++S2,P x) (O:MO R S1 S2)
  (h:∀ S st',kindOf st'=κ→failedOf st'=none→pendingOf st'=((pendingOf st).setIfInBounds i (sa,na+nb,pw)).eraseIdxIfInBounds (i+1)→(arrOf st').toList=X++S++Y→Mgd R S1 S2 S→Q true st'):wpS (model prog w) A E s (mergeAt' i) Q st:=by
 have sz:(arrOf st).size=sa+na+nb+Y.length:=by rw [← Array.length_toList,ha]; simp; omega
 have g1:∀ j (hj:j < S1.length),gt (arrOf st) (sa+j)=S1[j]:=fun j hj=> by
  rw [gt_eq (by rw [Array.length_toList]; omega)]
  simp only [ha]
  rw [List.getElem_append_left (by simp; omega),List.getElem_append_left (by simp; omega),List.getElem_append_right (by omega)]
  congr 1; omega
 have g2:∀ j (hj:j < S2.length),gt (arrOf st) (sb+j)=S2[j]:=fun j hj=> by
  rw [gt_eq (by rw [Array.length_toList]; omega)]
  simp only [ha]
  rw [List.getElem_append_left (by simp; omega),List.getElem_append_right (by simp; omega)]
  congr 1; simp; omega
 have q1:∀ j,j < na→P (gt (arrOf st) (sa+j)):=fun j hj=> by rw [g1 j (by omega)]; exact pp _ (List.mem_append_left _ (List.getElem_mem _))
 have q2:∀ j,j < nb→P (gt (arrOf st) (sb+j)):=fun j hj=> by rw [g2 j (by omega)]; exact pp _ (List.mem_append_right _ (List.getElem_mem _))
 refine wpS_bind (wpS_get ?_)
 rw [h1,h2]
 dsimp only
 refine wpS_bind (mG ?_)
 refine wpS_bind (el (show sb < (arrOf st).size by omega) ?_)
 refine wpS_bind (mq K hk (show sa+na≤(arrOf st).size by omega) p1 (by have:=q2 0 p2; simpa using this) q1 O.tr (fun x y h3 h4=> by
  rw [g1 x (by omega),g1 y (by omega)]
  exact List.pairwise_iff_getElem.mp O.sA _ _ _ _ h3) fun k kn k1 k2=> ?_)
 dsimp only
 have hb0:gt (arrOf st) sb=S2[0]'(by omega):=by have:=g2 0 (by omega); simpa using this
 rw [hb0] at k1 k2
 have hU:∀ x∈S1.take k,∀ y∈S2,R x y=true:=fun x hx y hy=> by
  obtain ⟨j,hj,rfl⟩:=List.getElem_of_mem hx
  have jk:j < k:=by simp at hj; omega
  have z:=k1 j jk
  rw [g1 j (by omega)] at z
  have z2:=O.tot _ (List.getElem_mem _) _ (List.getElem_mem _) z
  rw [List.getElem_take]
  exact da O.tr O.sB (show 0 < S2.length by omega) z2 y (by simpa using hy)
 have f1:∀ v∈S1.drop k,R (S2[0]'(by omega)) v=true:=fun v hv=> by
  obtain ⟨j,hj,rfl⟩:=List.getElem_of_mem hv
  rw [List.length_drop] at hj
  rw [List.getElem_drop,← g1 (k+j) (by omega)]
  exact k2 _ (by omega) (by omega)
 by_cases e1:(na - k==0)=true
 ·rw [if_pos e1]
  have e1':na - k=0:=by simpa using e1
  refine wpS_pure (h (S1++S2) _ hk hf rfl (by rw [← List.append_assoc]; exact ha) ⟨List.Perm.refl _,List.pairwise_append.mpr ⟨O.sA,O.sB,fun x hx y hy=> hU x (by rw [List.take_of_length_le (by omega)]; exact hx) y hy⟩⟩)
 rw [if_neg e1]
 have e1':0 < na - k:=by have z:¬ na - k=0:=(by simpa using e1); omega
 have hlast:gt (arrOf st) (sa+k+(na - k) - 1)=S1[na - 1]'(by omega):=by
  rw [← g1 (na - 1) (by omega)]; congr 1; omega
 refine wpS_bind (el (show sa+k+(na - k) - 1 < (arrOf st).size by omega) ?_)
 refine wpS_bind (gX K hk (show sb+nb≤(arrOf st).size by omega) (by omega) (by rw [hlast,← g1 (na - 1) (by omega)]; exact q1 _ (by omega)) q2 O.tr (fun x y h3 h4=> by
  rw [g2 x (by omega),g2 y (by omega)]
  exact List.pairwise_iff_getElem.mp O.sB _ _ _ _ h3) fun l ln m1 m2=> ?_)
 dsimp only
 rw [hlast] at m1 m2
 have hZ:∀ x∈S1,∀ z∈S2.drop l,R x z=true:=fun x hx z hz=> by
  obtain ⟨j,hj,rfl⟩:=List.getElem_of_mem hz
  rw [List.length_drop] at hj
  obtain ⟨i,hi,rfl⟩:=List.getElem_of_mem hx
  rw [List.getElem_drop]
  have z:=m2 (l+j) (by omega) (by omega)
  rw [g2 (l+j) (by omega)] at z
  have z2:=O.tot _ (List.getElem_mem _) _ (List.getElem_mem _) z
  rcases Nat.lt_or_ge i (na - 1) with c | c
  ·exact O.tr _ _ _ (List.pairwise_iff_getElem.mp O.sA i (na - 1) hi (by omega) c) z2
  ·have:i=na - 1:=by omega
   subst this
   exact z2
 have f2:∀ v∈S2.take l,R v (S1[na - 1]'(by omega))=true:=fun v hv=> by
  obtain ⟨j,hj,rfl⟩:=List.getElem_of_mem hv
  have jl:j < l:=by simp at hj; omega
  rw [List.getElem_take,← g2 j (by omega)]
  exact m1 _ jl
 have l0:0 < l:=by
  rcases Nat.eq_zero_or_pos l with c | c
  ·exfalso
   have z:=m2 0 (by omega) p2
   rw [g2 0 (by omega)] at z
   have z2:=f1 (S1[na - 1]'(by omega)) (by
    have:S1[na - 1]'(by omega)=(S1.drop k)[na - 1 - k]'(by rw [List.length_drop]; omega):=by rw [List.getElem_drop]; congr 1; omega
    rw [this]; exact List.getElem_mem _)
   rw [z2] at z; cases z
  ·exact c
 rw [if_neg (by simp; omega)]
 have ll:∀ {a:Array Keyed},a.toList.length=a.size:=by simp
 have eL:(arrOf st).toList=(X++S1.take k)++S1.drop k++(S2.take l++(S2.drop l++Y)):=by
  rw [ha]
  conv=> lhs; rw [← List.take_append_drop k S1,← List.take_append_drop l S2]
  simp only [List.append_assoc]
 have ex1:((arrOf st).extract (sa+k) sb).toList=S1.drop k:=by
  rw [show sb=sa+k+(na - k) by omega,dO,eL]
  have:=seg (X++S1.take k) (S1.drop k) (S2.take l++(S2.drop l++Y))
  rw [show (X++S1.take k).length=sa+k by simp; omega,show (S1.drop k).length=na - k by simp; omega] at this
  exact this
 have ex2:((arrOf st).extract sb (sb+l)).toList=S2.take l:=by
  rw [dO,ha]
  have:=seg (X++S1) (S2.take l) (S2.drop l++Y)
  rw [show (X++S1).length=sb by simp; omega,show (S2.take l).length=l by simp; omega] at this
  rw [← List.append_assoc,List.append_assoc (X++S1),List.take_append_drop] at this
  exact this
 generalize hx:(arrOf st).extract (sa+k) sb=x at ex1 ⊢
 generalize hy:(arrOf st).extract sb (sb+l)=y at ex2 ⊢
 have sx:x.size=na - k:=by rw [← ll,ex1]; simp; omega
 have sy:y.size=l:=by rw [← ll,ex2]; simp; omega
 have O2:MO R x.toList y.toList:=by
  rw [ex1,ex2]
  exact ⟨O.tr,O.sA.sublist (List.drop_sublist _ _),O.sB.sublist (List.take_sublist _ _),fun u hu v hv=> O.tot u (List.mem_of_mem_drop hu) v (List.mem_of_mem_take hv)⟩
 have gx:gt x (x.size - 1)=S1[na - 1]'(by omega):=by
  rw [gt_eq (by rw [ll]; omega)]
  simp only [ex1,sx,List.getElem_drop]
  congr 1; omega
 have gy:gt y 0=S2[0]'(by omega):=by
  rw [gt_eq (by rw [ll]; omega)]
  simp only [ex2,List.getElem_take]
 have px:∀ u∈x.toList,P u:=fun u hu=> pp u (List.mem_append_left _ (List.mem_of_mem_drop (by rw [ex1] at hu; exact hu)))
 have py:∀ u∈y.toList,P u:=fun u hu=> pp u (List.mem_append_right _ (List.mem_of_mem_take (by rw [ex2] at hu; exact hu)))
 have hlo:∀ v∈y.toList,R v (gt x (x.size - 1))=true:=fun v hv=> by rw [gx]; exact f2 v (by rw [ex2] at hv; exact hv)
 have hhi:∀ v∈x.toList,R (gt y 0) v=true:=fun v hv=> by rw [gy]; exact f1 v (by rw [ex1] at hv; exact hv)
 have fin:∀ r:Array Keyed,Mgd R x.toList y.toList r.toList→((r.toList.zipIdx).foldl (fun a (x:Keyed×Nat)=> a.setIfInBounds (sa+k+x.2) x.1) (arrOf st)).toList=X++(S1.take k++r.toList++S2.drop l)++Y∧Mgd R S1 S2 (S1.take k++r.toList++S2.drop l):=fun r m=> by
  have lr:r.toList.length=(S1.drop k++S2.take l).length:=by rw [← ex1,← ex2]; exact m.1.length_eq
  constructor
  ·rw [iQ r.toList 0 (sa+k) (X++S1.take k) (S1.drop k++S2.take l++(S2.drop l++Y)) _ (by rw [eL]; simp only [List.append_assoc]) (by simp; omega) (by rw [lr,List.length_append (as:=S1.drop k++S2.take l)]; omega)]
   rw [lr,List.drop_left]
   simp only [List.append_assoc]
  ·have mp:r.toList.Perm (S1.drop k++S2.take l):=by rw [← ex1,← ex2]; exact m.1
   constructor
   ·refine ((mp.append_left _).append_right _).trans ?_
    have e:S1++S2=S1.take k++(S1.drop k++S2.take l)++S2.drop l:=by
     conv=> lhs; rw [← List.take_append_drop k S1,← List.take_append_drop l S2]
     simp only [List.append_assoc]
    rw [e]
   ·have sp1:=O.sA
    rw [← List.take_append_drop k S1] at sp1
    have sp2:=O.sB
    rw [← List.take_append_drop l S2] at sp2
    have c1:=List.pairwise_append.mp sp1
    have c2:=List.pairwise_append.mp sp2
    refine List.pairwise_append.mpr ⟨List.pairwise_append.mpr ⟨c1.1,m.2,fun u hu v hv=> ?_⟩,c2.2.1,fun u hu v hv=> ?_⟩
    ·rcases List.mem_append.mp (mp.mem_iff.mp hv) with z | z
     ·exact c1.2.2 u hu v z
     ·exact hU u hu v (List.mem_of_mem_take z)
    ·rcases List.mem_append.mp hu with z | z
     ·exact hU u z v (List.mem_of_mem_drop hv)
     ·rcases List.mem_append.mp (mp.mem_iff.mp z) with z | z
      ·exact hZ u (List.mem_of_mem_drop z) v hv
      ·exact c2.2.2 u z v hv
 have fin2:∀ (r:Array Keyed) g,Mgd R x.toList y.toList r.toList→Q true (SortSt.mk' (kindOf st) ((r.toList.zipIdx).foldl (fun a (x:Keyed×Nat)=> a.setIfInBounds (sa+k+x.2) x.1) (arrOf st)) (((pendingOf st).setIfInBounds i (sa,na+nb,pw)).eraseIdxIfInBounds (i+1)) g (failedOf st)):=fun r g m=> h _ _ hk hf rfl (fin r m).1 (fin r m).2
 by_cases hc:na - k≤l
 ·rw [if_pos hc]
  refine wpS_bind (mlo K O2 px py (by omega) (by omega) (hhi _ (au (by omega))) hlo hk fun r g m=> ?_)
  refine wpS_bind (wpS_modify ?_)
  refine wpS_bind (wpS_get ?_)
  have:=fin2 r g m
  refine wpS_pure ?_
  show Q (failedOf st).isNone _
  rw [show (failedOf st).isNone=true by rw [hf]; rfl]
  exact this
 ·rw [if_neg hc]
  refine wpS_bind (mhi K O2 px py (by omega) (by omega) (hlo _ (au (by omega))) hhi hk fun r g m=> ?_)
  refine wpS_bind (wpS_modify ?_)
  refine wpS_bind (wpS_get ?_)
  have:=fin2 r g m
  refine wpS_pure ?_
  show Q (failedOf st).isNone _
  rw [show (failedOf st).isNone=true by rw [hf]; rfl]
  exact this
end
end TS
namespace TS
open PySem PyProof.Rows
section
variable {prog:Program} {w:World} {A:Around} {E:Value→Shared→Prop} {s:Shared} {κ:SortKind} {P:Keyed→Prop} {R:Keyed→Keyed→Bool}
structure Ord (P:Keyed→Prop) (R:Keyed→Keyed→Bool) (l:List Keyed):Prop where
 tr:∀ x y z,R x y=true→R y z=true→R x z=true
 tot:∀ x∈l,∀ y∈l,x≠y→R x y=false→R y x=true
 nd:l.Nodup
 hp:∀ x∈l,P x
structure Stt (κ:SortKind) (l:List Keyed) (pd:Array (Nat×Nat×Nat)) (st:SortSt):Prop where
 kind:kindOf st=κ
 failed:failedOf st=none
 perm:(arrOf st).toList.Perm l
 pend:pendingOf st=pd
variable {l:List Keyed} {pd:Array (Nat×Nat×Nat)}
theorem Stt.size {st:SortSt} (S:Stt κ l pd st):(arrOf st).size=l.length:=by rw [← Array.length_toList,S.perm.length_eq]
theorem Stt.p (O:Ord P R l) {st:SortSt} (S:Stt κ l pd st) {i:Nat} (h:i < l.length):P (gt (arrOf st) i):=O.hp _ (S.perm.mem_iff.mp (au (by rw [S.size]; exact h)))
theorem Stt.tot (O:Ord P R l) {st:SortSt} (S:Stt κ l pd st) {i j:Nat} (hi:i < l.length) (hj:j < l.length) (hne:i≠j) (hr:R (gt (arrOf st) i) (gt (arrOf st) j)=false):R (gt (arrOf st) j) (gt (arrOf st) i)=true:=by
 refine O.tot _ (S.perm.mem_iff.mp (au (by rw [S.size]; exact hi))) _ (S.perm.mem_iff.mp (au (by rw [S.size]; exact hj))) (fun e=> hne ?_) hr
 have li:i < (arrOf st).toList.length:=by rw [Array.length_toList,S.size]; exact hi
 have lj:j < (arrOf st).toList.length:=by rw [Array.length_toList,S.size]; exact hj
 rw [gt_eq li,gt_eq lj] at e
 exact (List.getElem_inj (S.perm.nodup_iff.mpr O.nd)).mp e
theorem Stt.arr {st:SortSt} (S:Stt κ l pd st) {a:Array Keyed} (h:a.Perm (arrOf st)):Stt κ l pd (setArr st a):=⟨S.kind,S.failed,(Array.perm_iff_toList_perm.mp h).trans S.perm,S.pend⟩
theorem ltK (K:Asks prog w A E s κ P R) (O:Ord P R l) {i j:Nat} {st:SortSt} {Q:Option Bool→SortSt→Prop} (S:Stt κ l pd st) (hi:i < l.length) (hj:j < l.length) (h:Q (some (R (gt (arrOf st) i) (gt (arrOf st) j))) st):wpS (model prog w) A E s (ltAt' i j) Q st:=by
 rw [ltAt'_eq]
 refine wpS_bind (wpS_get ?_)
 refine wpS_bind (el (by rw [S.size]; exact hi) ?_)
 refine wpS_bind (el (by rw [S.size]; exact hj) ?_)
 exact K _ _ _ _ (S.p O hi) (S.p O hj) S.kind h
theorem i6 {a b:Array Keyed} {i j:Nat} (h:a[i]?=b[j]?):gt a i=gt b j:=by
 unfold gt
 rw [Array.getD_eq_getD_getElem?,Array.getD_eq_getD_getElem?,h]
def Up (R:Keyed→Keyed→Bool) (a:Array Keyed) (lo m:Nat):Prop:=∀ i j,i < j→j < m→R (gt a (lo+i)) (gt a (lo+j))=true
def Dn (R:Keyed→Keyed→Bool) (a:Array Keyed) (lo m:Nat):Prop:=∀ i j,i < j→j < m→R (gt a (lo+j)) (gt a (lo+i))=true
def Kept (a b:Array Keyed) (lo:Nat):Prop:=∀ j,j < lo→gt b j=gt a j
theorem pT {a:Array Keyed} {src d:Nat} (hs:src < a.size) (hd:d≤src) (k:Nat):gt (bubble a src d) k=if k=src - d then gt a src else if src - d < k∧k≤src then gt a (k - 1) else gt a k:=by
 have e:=getElem?_bubble hs d hd k
 by_cases h1:k=src - d
 ·rw [if_pos h1] at e ⊢; exact i6 e
 ·rw [if_neg h1] at e ⊢
  by_cases h2:src - d < k∧k≤src
  ·rw [if_pos h2] at e ⊢; exact i6 e
  ·rw [if_neg h2] at e ⊢; exact i6 e
theorem i7 {a:Array Keyed} {i j:Nat} (hj:j≤a.size) (k:Nat):gt (mirror a i j ((j - i) / 2)) k=if i≤k∧k < j then gt a (i+j - 1 - k) else gt a k:=by
 have e:=getElem?_mirror_all (xs:=a) (i:=i) hj k
 by_cases h1:i≤k∧k < j
 ·rw [if_pos h1] at e ⊢; exact i6 e
 ·rw [if_neg h1] at e ⊢; exact i6 e
variable (K:Asks prog w A E s κ P R)
include K
theorem rW (O:Ord P R l) {lo n ok:Nat} {st:SortSt} {Q:Bool→SortSt→Prop} (hn:lo+n≤l.length) (hok:ok≤n) (S:Stt κ l pd st) (hs:Up R (arrOf st) lo ok)
  (h:∀ st',Stt κ l pd st'→Kept (arrOf st) (arrOf st') lo→Up R (arrOf st') lo n→Q true st'):wpS (model prog w) A E s (binarySort' lo n ok) Q st:=by
 rw [binarySort'_eq]
 refine wpS_bind (wpS_mono (wpS_forRange (I:=fun k c st'=> c=(none,())∧Stt κ l pd st'∧Kept (arrOf st) (arrOf st') lo∧Up R (arrOf st') lo (min k n))
  (Q:=fun c st'=> c=(none,())∧Stt κ l pd st'∧Kept (arrOf st) (arrOf st') lo∧Up R (arrOf st') lo n) ?step ?fin ?init) ?post)
 case post=>
  rintro c st' ⟨rfl,S',k',u'⟩
  exact wpS_pure (h st' S' k' u')
 case init=>
  refine ⟨rfl,S,fun _ _=> rfl,fun i j hij hj=> ?_⟩
  exact hs i j hij (by omega)
 case fin=>
  rintro c st' ⟨hc,S',k',u'⟩
  refine ⟨hc,S',k',?_⟩
  rwa [show min (max (max ok 1) n) n=n by omega] at u'
 case step=>
  rintro k c st' hak hkn ⟨rfl,S',k',u'⟩
  rw [show min k n=k by omega] at u'
  have hk:lo+k < l.length:=by omega
  refine wpS_bind (wpS_mono (wpS_forRange (I:=fun x c st''=> st''=st'∧∃ p r,c=(none,p,r)∧p≤r∧r≤k∧r - p≤k - x∧
    (∀ i,i < p→R (gt (arrOf st') (lo+i)) (gt (arrOf st') (lo+k))=true)∧(∀ i,r≤i→i < k→R (gt (arrOf st') (lo+k)) (gt (arrOf st') (lo+i))=true))
   (Q:=fun c st''=> st''=st'∧∃ p r,c=(none,p,r)∧p≤k∧
    (∀ i,i < p→R (gt (arrOf st') (lo+i)) (gt (arrOf st') (lo+k))=true)∧(∀ i,p≤i→i < k→R (gt (arrOf st') (lo+k)) (gt (arrOf st') (lo+i))=true)) ?istep ?ifin ?iinit) ?ipost)
  case iinit=> exact ⟨rfl,0,k,rfl,by omega,by omega,by omega,fun i hi=> by omega,fun i h1 h2=> by omega⟩
  case ifin=>
   rintro c st'' ⟨rfl,p,r,rfl,hlr,hrk,hm,hlo,hhi⟩
   have:p=r:=by omega
   subst this
   exact ⟨rfl,p,p,rfl,hrk,hlo,hhi⟩
  case istep=>
   rintro x c st'' _ hxk ⟨rfl,p,r,rfl,hlr,hrk,hm,hlo,hhi⟩
   dsimp only
   by_cases hge:p ≥ r
   ·rw [if_pos hge]
    have:p=r:=by omega
    subst this
    exact wpS_pure ⟨rfl,p,p,rfl,hrk,hlo,hhi⟩
   ·rw [if_neg hge]
    refine wpS_bind (ltK K O S' hk (show lo+(p+r) / 2 < l.length by omega) ?_)
    dsimp only
    by_cases hless:R (gt (arrOf st'') (lo+k)) (gt (arrOf st'') (lo+(p+r) / 2))=true
    ·rw [if_pos hless]
     refine wpS_pure ⟨rfl,p,(p+r) / 2,rfl,by omega,by omega,by omega,hlo,fun i h1 h2=> ?_⟩
     rcases Nat.lt_or_eq_of_le h1 with z | z
     ·exact O.tr _ _ _ hless (u' _ _ z h2)
     ·rw [← z]; exact hless
    ·rw [if_neg hless]
     have ht:=S'.tot O hk (show lo+(p+r) / 2 < l.length by omega) (by omega) (by simpa using hless)
     refine wpS_pure ⟨rfl,(p+r) / 2+1,r,rfl,by omega,by omega,by omega,fun i h1=> ?_,hhi⟩
     rcases Nat.lt_or_eq_of_le (Nat.le_of_lt_succ h1) with z | z
     ·exact O.tr _ _ _ (u' _ _ z (by omega)) ht
     ·rw [z]; exact ht
  case ipost=>
   rintro c st'' ⟨rfl,p,r,rfl,hlk,hlo,hhi⟩
   show wpS _ _ _ _ (do moveDown' (lo+k) (lo+p); pure (ForInStep.yield (none,()))) _ _
   rw [moveDown'_eq]
   have hks:lo+k < (arrOf st'').size:=by rw [S'.size]; exact hk
   have at_:∀ j,gt (bubble (arrOf st'') (lo+k) (lo+k - (lo+p))) j=if j=lo+p then gt (arrOf st'') (lo+k) else if lo+p < j∧j≤lo+k then gt (arrOf st'') (j - 1) else gt (arrOf st'') j:=fun j=> by
    have:=pT hks (show lo+k - (lo+p)≤lo+k by omega) j
    rwa [show lo+k - (lo+k - (lo+p))=lo+p by omega] at this
   refine wpS_bind (wpS_modify (wpS_pure ⟨rfl,S'.arr (bubble_perm _ _ _),fun j hj=> ?_,?_⟩))
   ·show gt (bubble (arrOf st'') (lo+k) (lo+k - (lo+p))) j=_
    rw [at_,if_neg (by omega),if_neg (by omega)]
    exact k' j hj
   ·rw [show min (k+1) n=k+1 by omega]
    intro i j hij hj
    show R (gt (bubble (arrOf st'') (lo+k) (lo+k - (lo+p))) (lo+i)) (gt (bubble (arrOf st'') (lo+k) (lo+k - (lo+p))) (lo+j))=true
    rw [at_,at_]
    have sh:∀ q,lo+p < lo+q→lo+q - 1=lo+(q - 1):=fun q hq=> by omega
    by_cases a1:lo+i=lo+p
    ·rw [if_pos a1,if_neg (by omega),if_pos (by omega),sh j (by omega)]
     exact hhi _ (by omega) (by omega)
    ·rw [if_neg a1]
     by_cases a2:lo+p < lo+i∧lo+i≤lo+k
     ·rw [if_pos a2,if_neg (by omega),if_pos (by omega),sh i (by omega),sh j (by omega)]
      exact u' _ _ (by omega) (by omega)
     ·rw [if_neg a2]
      by_cases b1:lo+j=lo+p
      ·rw [if_pos b1]; exact hlo _ (by omega)
      ·rw [if_neg b1]
       by_cases b2:lo+p < lo+j∧lo+j≤lo+k
       ·rw [if_pos b2,sh j (by omega)]
        exact u' _ _ (by omega) (by omega)
       ·rw [if_neg b2]; exact u' _ _ hij (by omega)
end
end TS
namespace TS
open PySem PyProof.Rows
section
variable {prog:Program} {w:World} {A:Around} {E:Value→Shared→Prop} {s:Shared} {κ:SortKind} {P:Keyed→Prop} {R:Keyed→Keyed→Bool} {l:List Keyed} {pd:Array (Nat×Nat×Nat)}
theorem Up.more (tr:∀ x y z,R x y=true→R y z=true→R x z=true) {a:Array Keyed} {lo m:Nat} (S:Up R a lo m) (h1:1≤m) (h:R (gt a (lo+m - 1)) (gt a (lo+m))=true):Up R a lo (m+1):=fun i j hij hj=> by
 rcases Nat.lt_or_eq_of_le (Nat.le_of_lt_succ hj) with z | z
 ·exact S i j hij z
 ·subst z
  have e:lo+(j - 1)=lo+j - 1:=by omega
  rcases Nat.lt_or_eq_of_le (show i≤j - 1 by omega) with y | y
  ·have:=S i (j - 1) y (by omega)
   rw [e] at this
   exact tr _ _ _ this h
  ·subst y; rw [e]; exact h
theorem Dn.more (tr:∀ x y z,R x y=true→R y z=true→R x z=true) {a:Array Keyed} {lo m:Nat} (S:Dn R a lo m) (h1:1≤m) (h:R (gt a (lo+m)) (gt a (lo+m - 1))=true):Dn R a lo (m+1):=fun i j hij hj=> by
 rcases Nat.lt_or_eq_of_le (Nat.le_of_lt_succ hj) with z | z
 ·exact S i j hij z
 ·subst z
  have e:lo+(j - 1)=lo+j - 1:=by omega
  rcases Nat.lt_or_eq_of_le (show i≤j - 1 by omega) with y | y
  ·have:=S i (j - 1) y (by omega)
   rw [e] at this
   exact tr _ _ _ h this
  ·subst y; rw [e]; exact h
theorem rvs {i j:Nat} {Q:Unit→SortSt→Prop} {st:SortSt} (h:Q () (setArr st (mirror (arrOf st) i j ((j - i) / 2)))):wpS (model prog w) A E s (reverseSlice' i j) Q st:=by
 rw [reverseSlice'_eq]; exact wpS_modify h
variable (K:Asks prog w A E s κ P R)
include K
set_option maxHeartbeats 1000000 in
theorem cnt (O:Ord P R l) {lo nrem:Nat} {st:SortSt} {Q:Option Nat→SortSt→Prop} (hn:lo+nrem≤l.length) (h1:1≤nrem) (S:Stt κ l pd st)
  (h:∀ m st',Stt κ l pd st'→Kept (arrOf st) (arrOf st') lo→1≤m→m≤nrem→Up R (arrOf st') lo m→Q (some m) st'):wpS (model prog w) A E s (countRun' lo nrem) Q st:=by
 rw [countRun'_eq]
 dsimp only
 refine wpS_bind (wpS_mono (wpS_forRange (I:=fun x c st'=> st'=st∧c=(none,x)∧Up R (arrOf st) lo x) (Q:=fun c st'=> st'=st∧∃ n,c=(none,n)∧1≤n∧n≤nrem∧Up R (arrOf st) lo n∧(n < nrem→R (gt (arrOf st) (lo+n)) (gt (arrOf st) (lo+n - 1))=true)) ?s1 ?f1 ⟨rfl,rfl,fun i j h2 h3=> by omega⟩) ?p1)
 case s1=>
  rintro x c st' hx1 hx ⟨rfl,rfl,u⟩
  dsimp only
  refine wpS_bind (ltK K O S (show lo+x < l.length by omega) (show lo+x - 1 < l.length by omega) ?_)
  dsimp only
  by_cases hc:R (gt (arrOf st') (lo+x)) (gt (arrOf st') (lo+x - 1))=true
  ·rw [if_pos hc]
   exact wpS_pure ⟨rfl,x,rfl,hx1,by omega,u,fun _=> hc⟩
  ·rw [if_neg hc]
   exact wpS_pure ⟨rfl,rfl,u.more O.tr hx1 (S.tot O (by omega) (by omega) (by omega) (by simpa using hc))⟩
 case f1=>
  rintro c st' ⟨rfl,rfl,u⟩
  rw [show max 1 nrem=nrem by omega] at u ⊢
  exact ⟨rfl,nrem,rfl,h1,Nat.le_refl _,u,fun z=> by omega⟩
 case p1=>
  rintro c st' ⟨rfl,n,rfl,n1,n2,u,ht⟩
  dsimp only
  by_cases e:(n==nrem)=true
  ·rw [if_pos e]
   exact wpS_pure (h n _ S (fun _ _=> rfl) n1 n2 u)
  rw [if_neg e]
  have e':n < nrem:=by have z:¬ n=nrem:=(by simpa using e); omega
  by_cases hg:n > 1
  ·rw [if_pos hg]
   refine wpS_bind (ltK K O S (show lo < l.length by omega) (show lo+n - 1 < l.length by omega) ?_)
   dsimp only
   have z:=u 0 (n - 1) (by omega) (by omega)
   rw [Nat.add_zero,show lo+(n - 1)=lo+n - 1 by omega] at z
   rw [if_pos z]
   exact wpS_pure (h n _ S (fun _ _=> rfl) n1 n2 u)
  rw [if_neg hg]
  obtain rfl:n=1:=by omega
  have D2:Dn R (arrOf st') lo 2:=Dn.more O.tr (fun i j x y=> by omega) (Nat.le_refl _) (ht e')
  refine wpS_bind (ru ?_)
  try dsimp only
  refine wpS_bind (wpS_mono (wpS_forRange (I:=fun x c st2=> st2=st'∧c=(none,x,0)∧Dn R (arrOf st') lo x) (Q:=fun c st2=> st2=st'∧∃ n,c=(none,n,0)∧2≤n∧n≤nrem∧Dn R (arrOf st') lo n) ?s2 ?f2 ⟨rfl,rfl,D2⟩) ?p2)
  case s2=>
   rintro x c st2 hx1 hx ⟨rfl,rfl,u⟩
   dsimp only
   refine wpS_bind (ltK K O S (show lo+x < l.length by omega) (show lo+x - 1 < l.length by omega) ?_)
   dsimp only
   by_cases hc:R (gt (arrOf st2) (lo+x)) (gt (arrOf st2) (lo+x - 1))=true
   ·rw [if_pos hc,if_neg (by omega)]
    exact wpS_pure ⟨rfl,rfl,u.more O.tr (by omega) hc⟩
   ·rw [if_neg hc]
    refine wpS_bind (ltK K O S (show lo+x - 1 < l.length by omega) (show lo+x < l.length by omega) ?_)
    dsimp only
    rw [if_pos (S.tot O (by omega) (by omega) (by omega) (by simpa using hc))]
    exact wpS_pure ⟨rfl,x,rfl,hx1,by omega,u⟩
  case f2=>
   rintro c st2 ⟨rfl,rfl,u⟩
   rw [show max (1+1) nrem=nrem by omega] at u ⊢
   exact ⟨rfl,nrem,rfl,by omega,Nat.le_refl _,u⟩
  case p2=>
   rintro c st2 ⟨rfl,n,rfl,n1,n2,d⟩
   dsimp only
   rw [if_neg (by omega)]
   refine wpS_bind (rvs ?_)
   have sz:=S.size
   have S2:Stt κ l pd (setArr st2 (mirror (arrOf st2) lo (lo+n) ((lo+n - lo) / 2))):=S.arr (mirror_perm _ _ _ _)
   have kp:Kept (arrOf st2) (mirror (arrOf st2) lo (lo+n) ((lo+n - lo) / 2)) lo:=fun j hj=> by
    rw [i7 (by omega),if_neg (by omega)]
   have up:Up R (mirror (arrOf st2) lo (lo+n) ((lo+n - lo) / 2)) lo n:=fun i j hij hj=> by
    rw [i7 (by omega),i7 (by omega),if_pos (by omega),if_pos (by omega),show lo+(lo+n) - 1 - (lo+i)=lo+(n - 1 - i) by omega,show lo+(lo+n) - 1 - (lo+j)=lo+(n - 1 - j) by omega]
    exact d _ _ (by omega) (by omega)
   generalize hst:setArr st2 (mirror (arrOf st2) lo (lo+n) ((lo+n - lo) / 2))=st3 at S2 ⊢
   have ha:arrOf st3=mirror (arrOf st2) lo (lo+n) ((lo+n - lo) / 2):=by rw [← hst]
   rw [← ha] at kp up
   refine wpS_bind (wpS_mono (wpS_forRange (I:=fun x c st'=> st'=st3∧c=(none,x)∧Up R (arrOf st3) lo x) (Q:=fun c st'=> st'=st3∧∃ m,c=(none,m)∧1≤m∧m≤nrem∧Up R (arrOf st3) lo m) ?s3 ?f3 ⟨rfl,rfl,up⟩) ?p3)
   case s3=>
    rintro x c st' hx1 hx ⟨rfl,rfl,u⟩
    dsimp only
    refine wpS_bind (ltK K O S2 (show lo+x < l.length by omega) (show lo+x - 1 < l.length by omega) ?_)
    dsimp only
    by_cases hc:R (gt (arrOf st') (lo+x)) (gt (arrOf st') (lo+x - 1))=true
    ·rw [if_pos hc]
     exact wpS_pure ⟨rfl,x,rfl,by omega,by omega,u⟩
    ·rw [if_neg hc]
     exact wpS_pure ⟨rfl,rfl,u.more O.tr (by omega) (S2.tot O (by omega) (by omega) (by omega) (by simpa using hc))⟩
   case f3=>
    rintro c st' ⟨rfl,rfl,u⟩
    rw [show max n nrem=nrem by omega] at u ⊢
    exact ⟨rfl,nrem,rfl,h1,Nat.le_refl _,u⟩
   case p3=>
    rintro c st' ⟨rfl,m,rfl,m1,m2,u⟩
    exact wpS_pure (h m _ S2 kp m1 m2 u)
end
end TS
namespace TS
open PySem PyProof.Rows
section
variable {prog:Program} {w:World} {A:Around} {E:Value→Shared→Prop} {s:Shared} {κ:SortKind} {P:Keyed→Prop} {R:Keyed→Keyed→Bool} {l:List Keyed}
def Ch (R:Keyed→Keyed→Bool) (a:Array Keyed):List (Nat×Nat×Nat)→Nat→Nat→Prop
 | [],x,y=> x=y
 | r::t,x,y=> r.1=x∧0 < r.2.1∧Up R a x r.2.1∧Ch R a t (x+r.2.1) y
theorem Ch.len {a:Array Keyed}:∀ {p:List (Nat×Nat×Nat)} {x y:Nat},Ch R a p x y→x+p.length≤y
 | [],x,y,h=> by have:x=y:=h; simp; omega
 | r::t,x,y,h=> by
  have:=Ch.len h.2.2.2
  have:=h.2.1
  simp; omega
theorem Ch.app {a:Array Keyed}:∀ {p q:List (Nat×Nat×Nat)} {x y:Nat},Ch R a (p++q) x y↔∃ z,Ch R a p x z∧Ch R a q z y
 | [],q,x,y=> ⟨fun h=> ⟨x,rfl,h⟩,fun ⟨z,h1,h2⟩=> by have:x=z:=h1; subst this; exact h2⟩
 | r::t,q,x,y=> by
  constructor
  ·rintro ⟨h1,h2,h3,h4⟩
   obtain ⟨z,z1,z2⟩:=Ch.app.mp h4
   exact ⟨z,⟨h1,h2,h3,z1⟩,z2⟩
  ·rintro ⟨z,⟨h1,h2,h3,h4⟩,h5⟩
   exact ⟨h1,h2,h3,Ch.app.mpr ⟨z,h4,h5⟩⟩
theorem Ch.congr {a b:Array Keyed}:∀ {p:List (Nat×Nat×Nat)} {x y:Nat},(∀ j,x≤j→j < y→gt b j=gt a j)→Ch R a p x y→Ch R b p x y
 | [],x,y,_,h=> h
 | r::t,x,y,e,h=> by
  have:=Ch.len h.2.2.2
  refine ⟨h.1,h.2.1,fun i j hij hj=> ?_,Ch.congr (fun j h1 h2=> e j (by omega) h2) h.2.2.2⟩
  rw [e _ (by omega) (by omega),e _ (by omega) (by omega)]
  exact h.2.2.1 i j hij hj
theorem lq (a:Array Keyed) (j:Nat):gt a j=a.toList.getD j (Value.none,Value.none):=by simp [gt]
theorem qS {X Y:List Keyed} {j:Nat} {d:Keyed} (h:j < X.length):(X++Y).getD j d=X.getD j d:=by
 rw [List.getD_eq_getElem?_getD,List.getD_eq_getElem?_getD,List.getElem?_append_left h]
theorem oK {X Y:List Keyed} {j:Nat} {d:Keyed} (h:X.length≤j):(X++Y).getD j d=Y.getD (j - X.length) d:=by
 rw [List.getD_eq_getElem?_getD,List.getD_eq_getElem?_getD,List.getElem?_append_right h]
theorem pM {α:Type} (X:List α) (r1 r2 v:α) (Y:List α):((X++r1::r2::Y).set X.length v).eraseIdx (X.length+1)=X++v::Y:=by
 rw [List.set_append_right _ _ (Nat.le_refl _),Nat.sub_self,List.eraseIdx_append_of_length_le (by omega),Nat.add_sub_cancel_left]
 rfl
theorem parts (L:List Keyed) (x y z:Nat):L=L.take x++(L.drop x).take y++(L.drop (x+y)).take z++L.drop (x+y+z):=by
 have h1:=List.take_append_drop x L
 have h2:=List.take_append_drop y (L.drop x)
 have h3:=List.take_append_drop z (L.drop (x+y))
 rw [List.drop_drop] at h2 h3
 rw [List.append_assoc,h3,List.append_assoc,h2,h1]
variable (K:Asks prog w A E s κ P R)
include K
theorem p8 (O:Ord P R l) {p:Array (Nat×Nat×Nat)} {lo i:Nat} {st:SortSt} {Q:Bool→SortSt→Prop} (S:Stt κ l p st) (C:Ch R (arrOf st) p.toList 0 lo) (hlo:lo≤l.length) (hi:i+1 < p.size)
  (h:∀ p' st',Stt κ l p' st'→Ch R (arrOf st') p'.toList 0 lo→p'.size+1=p.size→(∀ j,lo≤j→gt (arrOf st') j=gt (arrOf st) j)→Q true st'):wpS (model prog w) A E s (mergeAt' i) Q st:=by
 have lp:p.toList.length=p.size:=by simp
 have hi0:i < p.size:=by omega
 have ep:p.toList=p.toList.take i++(p[i]::p[i+1]::p.toList.drop (i+2)):=by
  conv=> lhs; rw [← List.take_append_drop i p.toList,List.drop_eq_getElem_cons (show i < p.toList.length by omega),List.drop_eq_getElem_cons (show i+1 < p.toList.length by omega)]
  rfl
 have h1:(pendingOf st)[i]?=some (p[i].1,p[i].2.1,p[i].2.2):=by rw [S.pend,Array.getElem?_eq_getElem hi0]
 have h2:(pendingOf st)[i+1]?=some (p[i+1].1,p[i+1].2.1,p[i+1].2.2):=by rw [S.pend,Array.getElem?_eq_getElem hi]
 rw [ep] at C
 obtain ⟨sa,C1,e1,n1,u1,e2,n2,u2,C2⟩:=Ch.app.mp C
 have C2l:=C2.len
 generalize hp1:p[i]=r1 at *
 generalize hp2:p[i+1]=r2 at *
 obtain ⟨s1,na,pw⟩:=r1
 obtain ⟨sb,nb,pw2⟩:=r2
 dsimp only at *
 subst e1
 subst e2
 have sz:=S.size
 have la:(arrOf st).toList.length=l.length:=by rw [Array.length_toList,sz]
 have ha:=parts (arrOf st).toList s1 na nb
 have lX:((arrOf st).toList.take s1).length=s1:=by simp; omega
 have l1:(((arrOf st).toList.drop s1).take na).length=na:=by simp; omega
 have l2:(((arrOf st).toList.drop (s1+na)).take nb).length=nb:=by simp; omega
 have c1:∀ j (hj:j < (((arrOf st).toList.drop s1).take na).length),(((arrOf st).toList.drop s1).take na)[j]=gt (arrOf st) (s1+j):=fun j hj=> by
  rw [gt_eq (by omega)]; simp
 have c2:∀ j (hj:j < (((arrOf st).toList.drop (s1+na)).take nb).length),(((arrOf st).toList.drop (s1+na)).take nb)[j]=gt (arrOf st) (s1+na+j):=fun j hj=> by
  rw [gt_eq (by omega)]; simp
 generalize hX:(arrOf st).toList.take s1=X at *
 generalize hS1:((arrOf st).toList.drop s1).take na=S1 at *
 generalize hS2:((arrOf st).toList.drop (s1+na)).take nb=S2 at *
 generalize hY:(arrOf st).toList.drop (s1+na+nb)=Y at *
 have mem:∀ x∈S1++S2,x∈l:=fun x hx=> S.perm.mem_iff.mp (by
  rw [ha]
  rcases List.mem_append.mp hx with z | z <;> simp [z])
 have nd:(X++S1++S2++Y).Nodup:=by rw [← ha]; exact S.perm.nodup_iff.mpr O.nd
 have MO1:MO R S1 S2:=by
  refine ⟨O.tr,List.pairwise_iff_getElem.mpr fun i j hi hj hij=> ?_,List.pairwise_iff_getElem.mpr fun i j hi hj hij=> ?_,fun x hx y hy hr=> O.tot y (mem y (List.mem_append_right _ hy)) x (mem x (List.mem_append_left _ hx)) (fun e=> ?_) hr⟩
  ·rw [c1 i hi,c1 j hj]; exact u1 i j hij (by omega)
  ·rw [c2 i hi,c2 j hj]; exact u2 i j hij (by omega)
  ·have nd2:=(List.nodup_append.mp nd).1
   exact (List.nodup_append.mp nd2).2.2 x (List.mem_append_right _ hx) y hy e.symm
 refine mat K S.kind S.failed h1 h2 ha lX l1 l2 rfl n1 n2 (fun x hx=> O.hp x (mem x hx)) MO1 fun S' st' k f pd' ar m=> ?_
 have lS:S'.length=na+nb:=by rw [m.1.length_eq,List.length_append,l1,l2]
 have tl:(((pendingOf st).setIfInBounds i (s1,na+nb,pw)).eraseIdxIfInBounds (i+1)).toList=p.toList.take i++((s1,na+nb,pw)::p.toList.drop (i+2)):=by
  rw [S.pend]
  have z:((p.setIfInBounds i (s1,na+nb,pw)).eraseIdxIfInBounds (i+1)).toList=(p.toList.set i (s1,na+nb,pw)).eraseIdx (i+1):=by
   rw [Array.eraseIdxIfInBounds,dif_pos (by simpa using hi),Array.toList_eraseIdx,Array.toList_setIfInBounds]
  have li:(p.toList.take i).length=i:=by simp; omega
  have y:=pM (p.toList.take i) (s1,na,pw) (s1+na,nb,pw2) (s1,na+nb,pw) (p.toList.drop (i+2))
  rw [← ep,li] at y
  rw [z,y]
 rw [← pd'] at tl
 refine h (pendingOf st') st' ⟨k,f,?_,rfl⟩ ?_ ?_ fun j hj=> ?_
 ·rw [ar]
  refine List.Perm.trans ?_ S.perm
  rw [ha]
  refine List.Perm.append_right _ ?_
  rw [List.append_assoc]
  exact List.Perm.append_left _ m.1
 ·rw [tl]
  refine Ch.app.mpr ⟨s1,C1.congr fun j h1 h2=> ?_,rfl,(by dsimp only; omega),fun x y hxy hy=> ?_,?_⟩
  ·rw [lq,lq,ar,ha]
   simp only [List.append_assoc]
   rw [qS (by omega),qS (by omega)]
  ·have q:∀ j (hj:j < S'.length),gt (arrOf st') (s1+j)=S'[j]:=fun j hj=> by
    rw [gt_eq (by rw [ar]; simp; omega)]
    simp only [ar]
    rw [List.getElem_append_left (by simp; omega),List.getElem_append_right (by omega)]
    congr 1; omega
   dsimp only at hy
   rw [q x (by omega),q y (by omega)]
   exact List.pairwise_iff_getElem.mp m.2 _ _ _ _ hxy
  ·dsimp only
   rw [← Nat.add_assoc]
   refine C2.congr fun j h1 h2=> ?_
   rw [lq,lq,ar,ha]
   rw [oK (by simp; omega),oK (by simp; omega)]
   congr 1
   simp; omega
 ·have:(pendingOf st').toList.length=_:=congrArg List.length tl
  simp at this
  omega
 ·rw [lq,lq,ar,ha]
  rw [oK (by simp; omega),oK (by simp; omega)]
  congr 1
  simp; omega
end
end TS
namespace TS
open PySem PyProof.Rows
section
variable {prog:Program} {w:World} {A:Around} {E:Value→Shared→Prop} {s:Shared} {κ:SortKind} {P:Keyed→Prop} {R:Keyed→Keyed→Bool} {l:List Keyed}
theorem ilt {c:Prop} [Decidable c] {a b n:Nat} (h1:a+1 < n) (h2:b+1 < n):(if c then a else b)+1 < n:=by split <;> assumption
theorem Ch.modL {a:Array Keyed} (pw:Nat):∀ {p:List (Nat×Nat×Nat)} (k:Nat) {x y:Nat},Ch R a p x y→Ch R a (p.modify k fun r=> (r.1,r.2.1,pw)) x y
 | [],k,x,y,h=> by rw [List.modify_nil]; exact h
 | r::t,0,x,y,h=> by rw [List.modify_zero_cons]; exact h
 | r::t,k+1,x,y,h=> by rw [List.modify_succ_cons]; exact ⟨h.1,h.2.1,h.2.2.1,Ch.modL pw k h.2.2.2⟩
theorem Ch.mod {a:Array Keyed} {p:Array (Nat×Nat×Nat)} {x y:Nat} (h:Ch R a p.toList x y) (pw k:Nat):Ch R a (p.modify k fun r=> (r.1,r.2.1,pw)).toList x y:=by
 rw [Array.toList_modify]; exact h.modL pw k
variable (K:Asks prog w A E s κ P R)
include K
set_option maxHeartbeats 2000000 in
theorem sruns (O:Ord P R l) {st:SortSt} {Q:Unit→SortSt→Prop} (S:Stt κ l #[] st) (h:∀ pd st',Stt κ l pd st'→Up R (arrOf st') 0 l.length→Q () st'):wpS (model prog w) A E s sortRuns' Q st:=by
 rw [sortRuns'_eq]
 refine wpS_bind (wpS_get ?_)
 try dsimp only
 simp only [S.size]
 generalize minRun' l.length l.length 0=mr
 refine wpS_bind (wpS_mono (wpS_forRange (I:=fun x c st'=> ∃ lo pd,c=(none,lo)∧Stt κ l pd st'∧Ch R (arrOf st') pd.toList 0 lo∧lo≤l.length∧x≤lo) (Q:=fun c st'=> ∃ pd,c=(none,l.length)∧Stt κ l pd st'∧Ch R (arrOf st') pd.toList 0 l.length) ?step ?fin ⟨0,#[],rfl,S,rfl,Nat.zero_le _,Nat.zero_le _⟩) ?post)
 case fin=>
  rintro c st' ⟨lo,pd,rfl,S',C,hlo,px⟩
  obtain rfl:lo=l.length:=by omega
  exact ⟨pd,rfl,S',C⟩
 case step=>
  rintro x c st' _ hx ⟨lo,pd,rfl,S',C,hlo,px⟩
  try dsimp only
  by_cases hge:lo ≥ l.length
  ·rw [if_pos hge]
   obtain rfl:lo=l.length:=by omega
   exact wpS_pure ⟨pd,rfl,S',C⟩
  rw [if_neg hge]
  refine wpS_bind (cnt K O (show lo+(l.length - lo)≤l.length by omega) (by omega) S' fun m st2 S2 kp m1 m2 u=> ?_)
  try dsimp only
  have C2:Ch R (arrOf st2) pd.toList 0 lo:=C.congr fun j _ hj=> kp j hj
  by_cases hm:m < mr
  ·rw [if_pos hm]
   refine wpS_bind (ru ?_)
   refine wpS_bind (rW K O (show lo+min (l.length - lo) mr≤l.length by omega) (show m≤min (l.length - lo) mr by omega) S2 u fun st3 S3 k3 u3=> ?_)
   simp only [Bool.not_true,Bool.false_eq_true,if_false]
   have C3:Ch R (arrOf st3) pd.toList 0 lo:=C2.congr fun j _ hj=> k3 j hj
   have f1:0 < min (l.length - lo) mr:=by omega
   have f2:min (l.length - lo) mr≤l.length - lo:=by omega
   generalize min (l.length - lo) mr=nn at *
   refine wpS_bind (wpS_get ?_)
   have hp:pendingOf st3=pd:=S3.pend
   rw [hp]
   cases hb:pd.back? with
   | none=>
    try dsimp only
    refine wpS_bind (wpS_modify (wpS_pure ⟨lo+nn,pd.push (lo,nn,0),rfl,?_,?_,by omega,by omega⟩))
    ·exact ⟨S3.kind,S3.failed,S3.perm,by show (pendingOf st3).push _=_; rw [hp]⟩
    ·rw [Array.toList_push]
     exact Ch.app.mpr ⟨lo,C3,rfl,f1,u3,rfl⟩
   | some v=>
    obtain ⟨s1,n1,pw0⟩:=v
    try dsimp only
    generalize power' _ _ _ _=pw
    refine wpS_bind (wpS_mono (wpS_forRange (I:=fun _ c st'=> ∃ pd,c=(none,())∧Stt κ l pd st'∧Ch R (arrOf st') pd.toList 0 lo∧Up R (arrOf st') lo (nn)) (Q:=fun c st'=> ∃ pd,c=(none,())∧Stt κ l pd st'∧Ch R (arrOf st') pd.toList 0 lo∧Up R (arrOf st') lo (nn)) ?_ (fun _ _ z=> z) ⟨pd,rfl,S3,C3,u3⟩) ?_)
    ·rintro y c st4 _ hy ⟨pd,rfl,S4,C4,u4⟩
     try dsimp only
     refine wpS_bind (wpS_get ?_)
     rw [S4.pend]
     by_cases hs:pd.size > 1
     ·rw [if_pos hs,Array.getElem?_eq_getElem (show pd.size - 2 < pd.size by omega)]
      generalize pd[pd.size - 2]=q
      obtain ⟨q1,q2,q3⟩:=q
      try dsimp only
      by_cases ho:q3≤pw
      ·rw [if_pos ho]
       exact wpS_pure ⟨pd,rfl,S4,C4,u4⟩
      ·rw [if_neg ho]
       refine wpS_bind (p8 K O S4 C4 hlo (show pd.size - 2+1 < pd.size by omega) fun p' st5 S5 C5 _ k5=> ?_)
       simp only [Bool.not_true,Bool.false_eq_true,if_false]
       exact wpS_pure ⟨p',rfl,S5,C5,fun i j hij hj=> by rw [k5 _ (by omega),k5 _ (by omega)]; exact u4 i j hij hj⟩
     ·rw [if_neg hs]
      exact wpS_pure ⟨pd,rfl,S4,C4,u4⟩
    ·rintro c st4 ⟨pd,rfl,S4,C4,u4⟩
     try dsimp only
     have hp4:=S4.pend
     refine wpS_bind (wpS_modify ?_)
     refine wpS_bind (wpS_modify (wpS_pure ⟨lo+nn,(pd.modify (pd.size - 1) fun r=> (r.1,r.2.1,pw)).push (lo,nn,0),rfl,?_,?_,by omega,by omega⟩))
     ·refine ⟨S4.kind,S4.failed,S4.perm,?_⟩
      show ((pendingOf st4).modify ((pendingOf st4).size - 1) fun r=> (r.1,r.2.1,pw)).push _=_
      rw [hp4]
     ·rw [Array.toList_push]
      exact Ch.app.mpr ⟨lo,C4.mod pw _,rfl,f1,u4,rfl⟩
  ·rw [if_neg hm]
   refine wpS_bind (wpS_get ?_)
   have hp:pendingOf st2=pd:=S2.pend
   rw [hp]
   cases hb:pd.back? with
   | none=>
    try dsimp only
    refine wpS_bind (wpS_modify (wpS_pure ⟨lo+m,pd.push (lo,m,0),rfl,?_,?_,by omega,by omega⟩))
    ·exact ⟨S2.kind,S2.failed,S2.perm,by show (pendingOf st2).push _=_; rw [hp]⟩
    ·rw [Array.toList_push]
     exact Ch.app.mpr ⟨lo,C2,rfl,(show 0 < m by omega),u,rfl⟩
   | some v=>
    obtain ⟨s1,n1,pw0⟩:=v
    try dsimp only
    generalize power' _ _ _ _=pw
    refine wpS_bind (wpS_mono (wpS_forRange (I:=fun _ c st'=> ∃ pd,c=(none,())∧Stt κ l pd st'∧Ch R (arrOf st') pd.toList 0 lo∧Up R (arrOf st') lo (m)) (Q:=fun c st'=> ∃ pd,c=(none,())∧Stt κ l pd st'∧Ch R (arrOf st') pd.toList 0 lo∧Up R (arrOf st') lo (m)) ?_ (fun _ _ z=> z) ⟨pd,rfl,S2,C2,u⟩) ?_)
    ·rintro y c st4 _ hy ⟨pd,rfl,S4,C4,u4⟩
     try dsimp only
     refine wpS_bind (wpS_get ?_)
     rw [S4.pend]
     by_cases hs:pd.size > 1
     ·rw [if_pos hs,Array.getElem?_eq_getElem (show pd.size - 2 < pd.size by omega)]
      generalize pd[pd.size - 2]=q
      obtain ⟨q1,q2,q3⟩:=q
      try dsimp only
      by_cases ho:q3≤pw
      ·rw [if_pos ho]
       exact wpS_pure ⟨pd,rfl,S4,C4,u4⟩
      ·rw [if_neg ho]
       refine wpS_bind (p8 K O S4 C4 hlo (show pd.size - 2+1 < pd.size by omega) fun p' st5 S5 C5 _ k5=> ?_)
       simp only [Bool.not_true,Bool.false_eq_true,if_false]
       exact wpS_pure ⟨p',rfl,S5,C5,fun i j hij hj=> by rw [k5 _ (by omega),k5 _ (by omega)]; exact u4 i j hij hj⟩
     ·rw [if_neg hs]
      exact wpS_pure ⟨pd,rfl,S4,C4,u4⟩
    ·rintro c st4 ⟨pd,rfl,S4,C4,u4⟩
     try dsimp only
     have hp4:=S4.pend
     refine wpS_bind (wpS_modify ?_)
     refine wpS_bind (wpS_modify (wpS_pure ⟨lo+m,(pd.modify (pd.size - 1) fun r=> (r.1,r.2.1,pw)).push (lo,m,0),rfl,?_,?_,by omega,by omega⟩))
     ·refine ⟨S4.kind,S4.failed,S4.perm,?_⟩
      show ((pendingOf st4).modify ((pendingOf st4).size - 1) fun r=> (r.1,r.2.1,pw)).push _=_
      rw [hp4]
     ·rw [Array.toList_push]
      exact Ch.app.mpr ⟨lo,C4.mod pw _,rfl,(show 0 < m by omega),u4,rfl⟩
 case post=>
  rintro c st' ⟨pd,rfl,S',C⟩
  try dsimp only
  refine wpS_bind (wpS_mono (wpS_forRange (I:=fun x c st'=> ∃ pd,c=(none,())∧Stt κ l pd st'∧Ch R (arrOf st') pd.toList 0 l.length∧(pd.size≤1∨pd.size≤l.length - x)) (Q:=fun c st'=> ∃ pd,c=(none,())∧Stt κ l pd st'∧Ch R (arrOf st') pd.toList 0 l.length∧pd.size≤1) ?s2 ?f2 ⟨pd,rfl,S',C,.inr (by have:=C.len; rw [Array.length_toList] at this; omega)⟩) ?p2)
  case s2=>
   rintro y c st4 _ hy ⟨pd,rfl,S4,C4,hs⟩
   try dsimp only
   refine wpS_bind (wpS_get ?_)
   rw [S4.pend]
   by_cases h1:pd.size≤1
   ·rw [if_pos h1]
    exact wpS_pure ⟨pd,rfl,S4,C4,h1⟩
   ·rw [if_neg h1]
    refine wpS_bind (p8 K O S4 C4 (Nat.le_refl _) (ilt (by omega) (by omega)) fun p' st5 S5 C5 e5 k5=> ?_)
    simp only [Bool.not_true,Bool.false_eq_true,if_false]
    exact wpS_pure ⟨p',rfl,S5,C5,by omega⟩
  case f2=>
   rintro c st4 ⟨pd,rfl,S4,C4,hs⟩
   exact ⟨pd,rfl,S4,C4,by omega⟩
  case p2=>
   rintro c st4 ⟨pd,rfl,S4,C4,h1⟩
   refine wpS_pure (h pd st4 S4 ?_)
   rw [← Array.length_toList] at h1
   generalize pd.toList=L at *
   cases L with
   | nil=> have:0=l.length:=C4
           intro i j hij hj; omega
   | cons r t=>
    cases t with
    | nil=>
     obtain ⟨_,_,u,e⟩:=C4
     have e':0+r.2.1=l.length:=e
     rw [Nat.zero_add] at e'
     rw [← e']; exact u
    | cons r2 t=> simp at h1
end
end TS
namespace ST
open PySem PySem.W PyProof.Rows
theorem qN {α β:Type} {f:α→β}:∀ {l1 l2:List β},l1.Perm l2→∀ l:List α,l2=l.map f→∃ l':List α,l'.Perm l∧l'.map f=l1:=by
 intro l1 l2 h
 induction h with
 | nil=> intro l e; exact ⟨l,.refl _,e.symm⟩
 | cons x _ ih=>
  intro l e
  cases l with
  | nil=> cases e
  | cons a t=>
   obtain ⟨e1,e2⟩:=List.cons.inj e
   obtain ⟨l',p,q⟩:=ih t e2
   exact ⟨a::l',p.cons a,by rw [List.map_cons,q,e1]⟩
 | swap x y r=>
  intro l e
  match l,e with
  | a::b::t,e=>
   obtain ⟨e1,e2⟩:=List.cons.inj e
   obtain ⟨e3,e4⟩:=List.cons.inj e2
   exact ⟨b::a::t,.swap a b t,by rw [List.map_cons,List.map_cons,e1,e3,e4]⟩
 | trans _ _ ih1 ih2=>
  intro l e
  obtain ⟨l',p,q⟩:=ih2 l e
  obtain ⟨l'',p2,q2⟩:=ih1 l' q.symm
  exact ⟨l'',p2.trans p,q2⟩
abbrev ky (p:(Int×Int)×Addr):Keyed:=(Value.ref p.2,Value.ref p.2)
open Classical in
noncomputable def RP (pb:PB) (x y:Keyed):Bool:=decide (∃ p∈pb,∃ q∈pb,x=ky p∧y=ky q∧ltP p.1 q.1=true)
theorem ft {pb:PB} {x y:Keyed}:RP pb x y=true↔∃ p∈pb,∃ q∈pb,x=ky p∧y=ky q∧ltP p.1 q.1=true:=by unfold RP; exact decide_eq_true_iff
theorem pe {p q:(Int×Int)×Addr} (h:ky p=ky q):p.2=q.2:=by
 have:=(Prod.mk.inj h).1
 injection this
section
variable {prog:Program} {w:World} {A:Around} {E:Value→Shared→Prop} {s:Shared}
theorem TK.det {h:Heap} {p q:(Int×Int)×Addr} (hp:TK prog w h [p.1.1,p.1.2] p.2) (hq:TK prog w h [q.1.1,q.1.2] q.2) (e:p.2=q.2):p=q:=by
 obtain ⟨o,its,n,t,u,ho,_,hd,hi⟩:=hp.two
 obtain ⟨o',its',n',t',u',ho',_,hd',hi'⟩:=hq.two
 rw [e,ho'] at ho
 cases ho
 rw [hd'] at hd
 cases hd
 rw [hi'] at hi
 have h1:=(List.cons.inj hi).1
 have h2:=(List.cons.inj (List.cons.inj hi).2).1
 injection h1 with h1 _
 injection h2 with h2 _
 exact Prod.ext (Prod.ext h1.symm h2.symm) e
set_option maxHeartbeats 1000000 in
theorem kR {a:Addr} {pb:PB} {n:Nat} {P:PySem.Fin→Shared→Prop} (ho:s.heap.get? a=some (seqObj "list" (refs pb).toArray n)) (htk:∀ p∈pb,TK prog w s.heap [p.1.1,p.1.2] p.2) (hnd:(pb.map (·.1)).Nodup) (hsz:pb.length≤sizeLine)
  (h:∀ pb':PB,pb'.Perm pb→(pb'.map (·.1)).Pairwise (fun x y=> ltP x y=true)→P (.done (.ret .none)) { s with heap:=sortedHeap s.heap a (refs pb) (refs pb').toArray }):
  wpAny (model prog w) A (Builtin.«list.sort» ⟨[.ref a],[]⟩) P E s:=by
 have hvl:(refs pb).length=pb.length:=by simp
 have hva:(refs pb).toArray.size=pb.length:=by simp
 rw [list_sort_plain]
 have ha:a < s.heap.objs.size:=Heap.lt_size ho
 refine wpAny_bind (listItems_at ho rfl (wpAny_bind (listUpdate_at ho rfl ?_ (by rw [hva]; exact hsz) (Nat.zero_le _))))
 obtain ⟨e1,ho1⟩:∃ e1,(s.heap.update a (Obj.mapSeq fun _=> (#[]:Array Value))).get? a=some (seqObj "list" #[] e1):=⟨_,get?_update_seq ho (fun _=> #[])⟩
 refine wpAny_bind (seqEpoch_at ho1 rfl (wpAny_bind (wpAny_newTuple ?_ (by show (refs pb).length≤_; rw [hvl]; exact hsz))))
 refine wpAny_bind (wpAny_newList ?_ (Nat.zero_le _))
 refine wpAny_holding ?_
 generalize hh6:((s.heap.update a (Obj.mapSeq fun _=> (#[]:Array Value))).push (seqObj "tuple" (refs pb).toArray 0)).push (seqObj "list" #[] 0)=h6
 have old6:∀ b o,b≠a→s.heap.get? b=some o→h6.get? b=some o:=fun b o hb e=> by
  rw [← hh6]
  exact Heap.get?_push_of_some _ (Heap.get?_push_of_some _ ((Heap.get?_update_other _ _ (Ne.symm hb)).trans e))
 have ho6:h6.get? a=some (seqObj "list" #[] e1):=by rw [← hh6]; exact Heap.get?_push_of_some _ (Heap.get?_push_of_some _ ho1)
 have tk6:∀ p∈pb,TK prog w h6 [p.1.1,p.1.2] p.2:=fun p hp=> by
  obtain ⟨o,its,k,hop,hc,r⟩:=htk p hp
  refine ⟨o,its,k,old6 p.2 o (fun z=> ?_) hop,hc,r⟩
  rw [z,ho] at hop
  cases hop
  exact absurd hc (by show ¬ (Value.type "list"=Value.type "tuple"); decide)
 have fin:∀ pb':PB,pb'.Perm pb→(pb'.map (·.1)).Pairwise (fun x y=> ltP x y=true)→P (.done (.ret .none)) { s with heap:=h6.update a (Obj.mapSeq fun _=> (refs pb').toArray) }:=fun pb' p1 p2=> by
  rw [← hh6]; exact h pb' p1 p2
 show wpAny (model prog w) A _ P E { s with heap:=h6 }
 dsimp only
 by_cases h2:(refs pb).toArray.size < 2
 ·rw [if_pos h2,if_pos h2]
  refine wpAny_bind (wpAny_pure ?_)
  rw [StateT.run_pure]
  refine wpAny_bind (wpAny_pure ?_)
  dsimp only
  have eout:(arrOf (SortSt.mk' general' ((refs pb).toArray.zip (refs pb).toArray) #[] 7 none)).map (·.2)=(refs pb).toArray:=by
   show (((refs pb).toArray.zip (refs pb).toArray)).map (·.2)=_
   apply Array.toList_inj.mp
   have zip2:∀ l:List Value,(l.zip l).map (·.2)=l:=fun l=> by
    induction l with
    | nil=> rfl
    | cons x r ih=> rw [List.zip_cons_cons,List.map_cons,ih]
   rw [Array.toList_map,Array.toList_zip]
   exact zip2 _
  rw [eout]
  refine wpAny_bind (seqEpoch_at ho6 rfl (wpAny_bind (listUpdate_at ho6 rfl ?_ (Nat.zero_le _) (by rw [hva]; exact Nat.le_succ_of_le hsz))))
  show wpAny _ _ (if (e1 !=e1)=true then _ else _) _ _ _
  rw [if_neg (by simp)]
  refine wpAny_pure (fin pb (List.Perm.refl _) ?_)
  match pb,hva,h2 with
  | [],_,_=> simp
  | [_],_,_=> simp
  | _::_::r,hva,h2=> rw [hva] at h2; exact absurd h2 (by simp)
 ·rw [if_neg h2,if_neg h2]
  rw [hva] at h2
  have h2':2≤(refs pb).length:=by rw [hvl]; omega
  refine wpAny_bind (mw (s:={ s with heap:=h6 }) tk6 (by omega) ?_)
  have one:∀ p∈pb,∀ q∈pb,ky p=ky q→p=q:=fun p hp q hq e=> TK.det (tk6 p hp) (tk6 q hq) (pe e)
  have val:∀ p∈pb,∀ q∈pb,RP pb (ky p) (ky q)=ltP p.1 q.1:=fun p hp q hq=> by
   cases hl:ltP p.1 q.1 with
   | true=> exact ft.mpr ⟨p,hp,q,hq,rfl,rfl,hl⟩
   | false=>
    cases hr:RP pb (ky p) (ky q) with
    | false=> rfl
    | true=>
     obtain ⟨p',hp',q',hq',e1,e2,z⟩:=ft.mp hr
     rw [← one p hp p' hp' e1,← one q hq q' hq' e2,hl] at z
     cases z
  have asks:TS.Asks prog w A E { s with heap:=h6 } (tuples' true) (fun x=> ∃ p∈pb,x=ky p) (RP pb):=by
   rintro x y st Q ⟨p,hp,rfl⟩ ⟨q,hq,rfl⟩ hk hQ
   rw [lt'_eq]
   refine wpS_bind (wpS_get ?_)
   rw [hk]
   rw [val p hp q hq] at hQ
   refine wpS_bind (wpS_lift (wpAny_attempt (qH (tk6 p hp) (tk6 q hq) ⟨rfl,?_⟩)))
   exact wpS_pure hQ
  have ord:TS.Ord (fun x=> ∃ p∈pb,x=ky p) (RP pb) (pb.map ky):=by
   refine ⟨fun x y z h1 h2=> ?_,fun x hx y hy hne hr=> ?_,?_,fun x hx=> ?_⟩
   ·obtain ⟨p,hp,q,hq,rfl,rfl,z1⟩:=ft.mp h1
    obtain ⟨q',hq',r,hr,e,rfl,z2⟩:=ft.mp h2
    rw [← one q hq q' hq' e] at z2
    exact ft.mpr ⟨p,hp,r,hr,rfl,rfl,md z1 z2⟩
   ·obtain ⟨p,hp,rfl⟩:=List.mem_map.mp hx
    obtain ⟨q,hq,rfl⟩:=List.mem_map.mp hy
    rw [val p hp q hq] at hr
    rw [val q hq p hp]
    refine jY (fun e=> hne ?_) hr
    obtain ⟨i,hi,rfl⟩:=List.getElem_of_mem hp
    obtain ⟨j,hj,rfl⟩:=List.getElem_of_mem hq
    have:i=j:=(List.getElem_inj (xs:=pb.map (·.1)) (h₀:=by simpa using hi) (h₁:=by simpa using hj) hnd).mp (by simpa using e)
    subst this; rfl
   ·have ndp:pb.Nodup:=(List.pairwise_map.mp hnd).imp fun h e=> h (congrArg _ e)
    refine List.pairwise_map.mpr (List.Pairwise.imp_of_mem (fun hp hq hne e=> hne (one _ hp _ hq e)) ndp)
   ·obtain ⟨p,hp,rfl⟩:=List.mem_map.mp hx
    exact ⟨p,hp,rfl⟩
  have stt:TS.Stt (tuples' true) (pb.map ky) #[] (SortSt.mk' (tuples' true) ((refs pb).toArray.zip (refs pb).toArray) #[] 7 none):=by
   refine ⟨rfl,rfl,?_,rfl⟩
   have e:(arrOf (SortSt.mk' (tuples' true) ((refs pb).toArray.zip (refs pb).toArray) #[] 7 none)).toList=pb.map ky:=by
    show ((refs pb).toArray.zip (refs pb).toArray).toList=_
    rw [Array.toList_zip]
    show (pb.map _).zip (pb.map _)=_
    rw [List.zip_map']
   rw [e]
  refine wpAny_bind (wpAny_mono (TS.sruns asks ord (Q:=fun _ st'=> failedOf st'=none∧∃ pb':PB,pb'.Perm pb∧(pb'.map (·.1)).Pairwise (fun x y=> ltP x y=true)∧(arrOf st').map (·.2)=(refs pb').toArray) stt fun pd st' S' up=> ?_) ?_ fun _ _ e=> e)
  ·refine ⟨S'.failed,?_⟩
   obtain ⟨pb',p1,p2⟩:=qN S'.perm pb rfl
   refine ⟨pb',p1,?_,?_⟩
   ·refine List.pairwise_map.mpr (List.pairwise_iff_getElem.mpr fun i j hi hj hij=> ?_)
    have lp:=p1.length_eq
    have u:=up i j hij (by rw [List.length_map]; omega)
    rw [Nat.zero_add,Nat.zero_add,TS.gt_eq (by rw [← p2,List.length_map]; exact hi),TS.gt_eq (by rw [← p2,List.length_map]; exact hj)] at u
    simp only [← p2,List.getElem_map] at u
    rw [val _ (p1.mem_iff.mp (List.getElem_mem hi)) _ (p1.mem_iff.mp (List.getElem_mem hj))] at u
    exact u
   ·apply Array.toList_inj.mp
    rw [Array.toList_map,← p2,List.map_map]
    rfl
  ·rintro ⟨⟨⟩,st'⟩ s' ⟨rfl,hf,pb',p1,p2,hout⟩
   dsimp only at hf hout ⊢
   rw [hout]
   have hs2:(refs pb').toArray.size=pb.length:=by simp [p1.length_eq]
   refine wpAny_bind (seqEpoch_at ho6 rfl (wpAny_bind (listUpdate_at ho6 rfl ?_ (Nat.zero_le _) (by rw [hs2]; exact Nat.le_succ_of_le hsz))))
   rw [hf]
   show wpAny _ _ (if (e1 !=e1)=true then _ else _) _ _ _
   rw [if_neg (by simp)]
   exact wpAny_pure (fin _ p1 p2)
end
end ST
namespace ST
open PySem PySem.W PyProof.Rows PySem.Calls
section
variable {prog:Program} {w:World} {A:Around} {E:Value→Shared→Prop} {s:Shared}
set_option maxHeartbeats 1000000 in
theorem call_sorted_setB {S:Addr} {kb:List (List Int×Addr)} {Q:Value→Shared→Prop} (hh:A.handled=none) (P:SP prog w s.heap S kb) (h64:kb.length < 1000) (h2:∀ p∈kb,p.1.length=2)
  (h:∀ (h1 h':Heap) (tk:Nat) (pb:PB) (e:Nat),List.Perm pb (ptsOf kb)→(pb.map (·.1)).Pairwise (fun x y=> ltP x y=true)→(∀ b o,s.heap.get? b=some o→h1.get? b=some o)→(∀ b o,h1.get? b=some o→h'.get? b=some o)→h'.get? h1.objs.size=some (seqObj "list" (refs pb).toArray e)→Q (.ref h1.objs.size) { s with heap:=h',toks:=tk }):
  wpAny (model prog w) A (call (.builtin "sorted") [.ref S]) Q E s:=by
 obtain ⟨⟨o,es,ep,t,ho,hex,hd,he,T,hl,hp,_,_⟩,hk,hnd⟩:=P
 have hsz:es.size=kb.length:=by rw [← Array.length_toList,he]; simp [dm]
 have O:SO prog w o es ep t (kb.map fun p=> hsh prog w p.1):=⟨hex,hd,T,by rw [List.length_map,hsz],hl,hp⟩
 have two:∀ p∈kb,p.1=[p.1.getD 0 0,p.1.getD 1 0]:=fun p hp'=> by
  have:=h2 p hp'
  match hq:p.1,this with
  | [x,y],_=> rfl
 refine call_function_entry kind_sorted plain_sorted entry_sorted (args_sorted1 _) ?_
 unfold Builtin.«sorted»
 refine wpAny_bind (m:=checkCount "sorted" 1 1 _) (wpAny_pure ?_)
 refine wpAny_bind (kdu_collect (A:=A.in1) (ox O) hh ho (by rw [hsz,sizeLine_eq]; omega) fun h' tk acc keep hacc=> ?_)
 have hal:acc.toList=bv w S es ep:=by
  apply List.ext_getElem?
  intro i
  rcases Nat.lt_or_ge i acc.size with z | z
  ·rw [Array.getElem?_toList,Array.getElem?_eq_getElem z]
   exact (hacc.2 i _ (Array.getElem?_eq_getElem z)).symm
  ·rw [List.getElem?_eq_none (by simpa using z),List.getElem?_eq_none]
   rw [(cR w S es ep).length_eq,List.length_map,Array.length_toList,← hacc.1]; exact z
 obtain ⟨kb1,pk,ek⟩:=mi (fun (p:List Int×Addr)=> Value.ref p.2) (cR w S es ep) kb (by rw [he]; unfold dm; rw [List.map_map]; rfl)
 have hl1:acc.toList=refs (ptsOf kb1):=by
  rw [hal,ek]; unfold refs ptsOf; rw [List.map_map]; rfl
 have hlen1:(ptsOf kb1).length=kb.length:=by unfold ptsOf; rw [List.length_map,pk.length_eq]
 have hlenA:acc.toList.length=kb.length:=by rw [hl1]; simp [hlen1]
 refine wpAny_bind (wpAny_newList ?_ (by rw [hlenA,sizeLine_eq]; omega))
 have hD:(h'.push { cls:=.type "list",data:=.seq acc.toList.toArray }).get? h'.objs.size=some (seqObj "list" (refs (ptsOf kb1)).toArray 0):=by
  rw [← hl1]; exact Heap.get?_push_size _ rfl
 have tk1:∀ p∈ptsOf kb1,TK prog w (h'.push { cls:=.type "list",data:=.seq acc.toList.toArray }) [p.1.1,p.1.2] p.2:=fun p hp'=> by
  obtain ⟨q,hq,rfl⟩:=List.mem_map.mp hp'
  have hq':=pk.mem_iff.mp hq
  obtain ⟨oq,its,k,hoq,r⟩:=hk q hq'
  have e2:=two q hq'
  refine ⟨oq,its,k,Heap.get?_push_of_some _ (keep _ _ hoq),?_⟩
  rw [← e2]; exact r
 have nd1:((ptsOf kb1).map (·.1)).Nodup:=by
  have n1:(kb1.map (·.1)).Nodup:=((pk.map (·.1)).nodup_iff).mpr hnd
  unfold ptsOf
  rw [List.map_map]
  refine List.pairwise_map.mpr ((List.pairwise_map.mp n1).imp_of_mem fun {a b} ha hb hab=> ?_)
  intro z
  have ea:=two a (pk.mem_iff.mp ha)
  have eb:=two b (pk.mem_iff.mp hb)
  have z':(a.1.getD 0 0,a.1.getD 1 0)=(b.1.getD 0 0,b.1.getD 1 0):=z
  rw [Prod.mk.injEq] at z'
  rw [z'.1,z'.2] at ea
  exact hab (ea.trans eb.symm)
 refine wpAny_bind (wpAny_holding (wpAny_call_entry slot_list_sort ⟨_,hD,rfl⟩ entry_list_sort ?_ (args_list_sort _)))
 refine kR (s:={ s with heap:=h'.push { cls:=.type "list",data:=.seq acc.toList.toArray },toks:=tk }) hD tk1 nd1 (by rw [sizeLine_eq]; omega) fun pb' pp so=> ⟨_,rfl,wpAny_pure ⟨_,rfl,?_⟩⟩
 obtain ⟨e,eD⟩:=sortedHeap_at (out:=(refs pb').toArray) hD
 refine h h' _ tk pb' e (pp.trans ?_) so keep (fun b x hb'=> ?_) eD
 ·unfold ptsOf; exact pk.map _
 ·have hlt:=Heap.lt_size hb'
  rw [sortedHeap_old (Nat.ne_of_lt hlt) (by rw [Heap.size_push]; exact Nat.lt_succ_of_lt hlt)]
  exact Heap.get?_push_of_some _ hb'
end
end ST
namespace L2
open PySem PySem.Spec PyProof.Rows
theorem qM {p:Nat→Addr→Prop} {n:Nat} (h:∀ i,i < n→∃ b,p i b):∃ f:Nat→Addr,∀ i,i < n→p i (f i):=by
 refine ⟨fun i=> if k:i < n then Classical.choose (h i k) else 0,fun i hi=> ?_⟩
 dsimp only
 rw [dif_pos hi]
 exact Classical.choose_spec (h i hi)
section
variable {X:Cx} {H0:Hp} {O0:List Addr} {ps:PSt} {e:Expr} {pts:List P2} {pos pos' p p':Pos}
set_option maxHeartbeats 2000000 in
theorem de (hc:X.calm=true) (hu:X.A.units+10 < cLine) (hg:Gl X "sorted") (hm:X.mg "sorted"=none) (hgs:Gl X "set") (hms:X.mg "set"=none) (ha:Ev X H0 O0 ps e (lp pts)) (hl:pts.length < 1000)
  (he:starEach [e] X.env=(false,eval e X.env)::starEach [] X.env:=by rfl):EvN X H0 O0 ps (.Call (.Name "sorted" p) [.Call (.Name "set" p') [e] [] pos'] [] pos) ((ST.srt pts).map pu):=by
 rintro pins s σ H Q I ⟨O,R,q⟩
 have hh:X.A.handled=none:=I.ok.hd hc
 refine wpAny_Call_Name_kw (cW I hg hm boot_sorted ?_)
 refine callWith_builtin1 (e:=.Call (.Name "set" p') [e] [] pos') (rest:=[]) ?_ rfl rfl
 show wpAny _ _ (spliced ((false,eval (.Call (.Name "set" p') [e] [] pos') X.env)::backTo pos (starEach [] X.env))) _ _ s
 refine Calls.spliced_cons ?_
 refine wpAny_Call_Name_kw (cW I hgs hms lE ?_)
 refine callWith_type1 (thn (dP ha fD he pos' pins s σ H (fun vs H1=> ∃ v,vs=[v]∧ay H H1∧Rp X.K (hid H1 O) v (lp pts)) I ⟨O,R,fun v H1 s1 r1=> ⟨v,rfl,s1,r1⟩⟩) fun us s1 hx=> ?_) he rfl
 obtain ⟨vs,H1,I1,rv,v,rfl,sm,rp⟩:=hx
 obtain ⟨u,rfl,ru⟩:=jM rv
 cases rp with
 | @lst a ws _ hq hwl hwi=>
  cases ru
  obtain ⟨its,rw',pl,hz⟩:=I1.list (SqL.of (aD _ _ hq))
  have hlp:ws.length=pts.length:=by rw [hwl,List.length_map]
  have hil:its.length=pts.length:=by rw [← rw'.length,hlp]
  have item:∀ i,i < pts.length→∃ b,its[i]?=some (.ref b)∧Rp X.K (hid H1 O) (.ref b) (pu (pts.getD i (0,0)))∧ST.TK X.prog X.w s1.heap [(pts.getD i (0,0)).1,(pts.getD i (0,0)).2] b:=fun i hi=> by
   have hw:ws[i]?=some ws[i]:=List.getElem?_eq_getElem (by omega)
   have hp:(pts.map pu)[i]?=some (pu (pts.getD i (0,0))):=by rw [List.getElem?_map,List.getElem?_eq_getElem hi]; simp [hi]
   have r:=hwi i _ _ hw hp
   obtain ⟨u',e1,e2⟩:=rw'.get hw
   generalize ws[i]=z at *
   cases r with
   | @tup b zs _ hs hsl hsi=>
    cases e2
    refine ⟨b,e1,Rp.tup hs hsl hsi,?_⟩
    obtain ⟨jts,rj,ht,_⟩:=I1.tuple (by exact aD.tup hs)
    have z0:zs.length=2:=hsl
    match zs,z0,hsi,rj with
    | [z1,z2],_,hsi,rj=>
     have q1:=hsi 0 z1 _ rfl rfl
     have q2:=hsi 1 z2 _ rfl rfl
     cases q1
     cases q2
     obtain ⟨u1,u2,rfl,r1,r2⟩:=jJ rj
     obtain ⟨t1,rfl⟩:=r1
     obtain ⟨t2,rfl⟩:=r2
     obtain ⟨o,ho,hoc,n,hod⟩:=ht
     exact ⟨o,_,n,ho,hoc,hod,.cons (intKind_is _ _ _ _) (.cons (intKind_is _ _ _ _) .nil)⟩
  obtain ⟨ad',adE⟩:=qM item
  have hsz:its.toArray.size=pts.length:=by simp [hil]
  refine ST.call_set_pts (fun i=> ([(pts.getD i (0,0)).1,(pts.getD i (0,0)).2],ad' i)) hh (by show X.A.units+1+1+1 < cLine; omega) pl.isList (fun i z ez=> ?_) (fun i hi=> ?_) (by rw [hsz]; omega) fun h2 tk kb sp got keep=> ?_
  ·have hi:i < pts.length:=by have:=aA (show its[i]?=some z by simpa using ez); omega
   have:=(adE i hi).1
   rw [show its.toArray[i]?=its[i]? by simp,this] at ez
   cases ez; rfl
  ·exact (adE i (by rw [hsz] at hi; exact hi)).2.2
  ·rw [hsz] at got
   have I2:Inv X pins σ H1 { s1 with heap:=h2,toks:=tk }:=I1.kept (t':=tk) keep
   refine Calls.spliced_nil ?_
   have hkl:kb.length < 1000:=by have:=got.len; omega
   refine ST.call_sorted_setB (s:={ s1 with heap:=h2,toks:=tk }) hh sp hkl (fun z hz=> by obtain ⟨j,_,rfl⟩:=got.src z hz; rfl) fun h3 h4 tk2 pb ep pm so k1 k2 hD=> ?_
   have I3:Inv X pins σ H1 { s1 with heap:=h3,toks:=tk2 }:=I2.kept (t':=tk2) k1
   have src:∀ z∈pb,∃ j,j < pts.length∧z=(pts.getD j (0,0),ad' j):=fun z hz=> by
    obtain ⟨y,hy,rfl⟩:=List.mem_map.mp (pm.mem_iff.mp hz)
    obtain ⟨j,hj,rfl⟩:=got.src y hy
    exact ⟨j,hj,rfl⟩
   have epts:pb.map (·.1)=ST.srt pts:=by
    refine ST.asc_one so (ST.srt_asc pts) fun z=> ?_
    rw [ST.srt_mem]
    constructor
    ·intro hz
     obtain ⟨y,hy,rfl⟩:=List.mem_map.mp hz
     obtain ⟨j,hj,rfl⟩:=src y hy
     simp [hj]
    ·intro hz
     obtain ⟨j,hj⟩:=List.mem_iff_getElem?.mp hz
     have hjl:=aA hj
     have hk:=got.all j hjl
     obtain ⟨y,hy,ey⟩:=List.mem_map.mp hk
     have hin:((y.1.getD 0 0,y.1.getD 1 0),y.2)∈ST.ptsOf kb:=List.mem_map.mpr ⟨y,hy,rfl⟩
     have hin':=pm.mem_iff.mpr hin
     refine List.mem_map.mpr ⟨_,hin',?_⟩
     rw [ey]
     have:pts.getD j (0,0)=z:=by rw [List.getD_eq_getElem?_getD,hj]; rfl
     show ((pts.getD j (0,0)).1,(pts.getD j (0,0)).2)=z
     rw [this]
   have fr:H1 h3.objs.size=none:=I3.hok.fresh (Nat.le_refl _)
   refine ⟨.ref h3.objs.size,upd H1 h3.objs.size (.lst (pb.map fun z=> V.ref z.2)),?_,rfl,?_⟩
   ·refine I3.laid (t':=tk2) k2 (Nat.le_refl _) ⟨?_,(ST.refs pb),ep,?_,hD⟩
    ·rw [List.length_map,← List.length_map (f:=(·.1)),epts,sizeLine_eq]
     have:=ST.srt_len pts
     omega
    ·have all:∀ l:ST.PB,av (l.map fun z=> V.ref z.2) (ST.refs l):=fun l=> by
      induction l with
      | nil=> exact .nil
      | cons z r ih=> exact .cons rfl ih
     exact all pb
   ·refine q _ _ _ (sm.trans (aM fr _)) (sm.free fr) aS ⟨?_,fun i z x e1 e2=> ?_⟩
    ·rw [List.length_map,← epts,List.length_map,List.length_map]
    ·rw [← epts,List.map_map,List.getElem?_map] at e2
     rw [List.getElem?_map] at e1
     cases hpi:pb[i]? with
     | none=> rw [hpi] at e1; cases e1
     | some y=>
      rw [hpi] at e1 e2
      cases e1
      cases e2
      obtain ⟨j,hj,rfl⟩:=src y (List.mem_of_getElem? hpi)
      exact (adE j hj).2.1.same (bI (aM fr _) fr)
end
end L2
local macro_rules | `(tactic| walk_at "sz")=> `(tactic| first | with_reducible assumption | ((with_reducible apply L2.Sz.sub') <;> walk_at "sz") | ((with_reducible apply L2.Sz.add') <;> walk_at "sz") | ((with_reducible apply L2.Sz.mul) <;> walk_at "sz") | ((with_reducible apply L2.Sz.neg) <;> walk_at "sz") | ((with_reducible apply L2.Sz.ediv) <;> walk_at "sz") | ((with_reducible apply L2.Sz.abs) <;> walk_at "sz") | exact L2.Sz.lit (m:=8) (by decide) | exact L2.Sz.emod (m:=250) (by decide) (by decide) | exact L2.Sz.lit (m:=250) (by decide))
local macro_rules | `(tactic| walk_at "mul")=> `(tactic| exact L2.Sz.ok (by walk_at "sz") (by walk_at "sz") (by decide))
local macro_rules | `(tactic| walk_at "div")=> `(tactic| first | exact ⟨by decide,L2.Sz.mono (m:=250) (by decide) (by decide)⟩ | exact ⟨by omega,L2.Sz.mono (by walk_at "sz") (by decide)⟩)
local macro_rules | `(tactic| walk_at "mod")=> `(tactic| first | decide | omega)
local macro_rules | `(tactic| walk_at "szb")=> `(tactic| exact L2.Sz.mono (by walk_at "sz") (by decide))
local macro_rules | `(tactic| walk_at "kit")=> `(tactic| first | exact L2.kit_int_int _ | exact L2.kit_int_bool _ | exact L2.kit_tuple_tuple _ | exact L2.kit_list_list _ | exact L2.kit_bool_int _ | exact L2.kit_list_tuple _ | rfl)
local macro_rules | `(tactic| walk_at "ok")=> `(tactic| first | rfl | decide)
local macro_rules | `(tactic| walk_at "sub")=> `(tactic| first | exact trivial | (refine ⟨rfl,?_⟩; walk_at "sub") | (with_reducible apply L2.SubP.skip; walk_at "sub"))
local macro_rules | `(tactic| walk_at "len")=> `(tactic| first | decide | (simp only [List.length_append,List.length_cons,List.length_nil,List.length_map]; decide))
namespace My
open PySem PySem.Spec PyProof.Rows L2
def top (i:Nat):Stmt:=PySem.Challenge.pw_stakefield_k13_the_same_field.main.body.getD i (.Pass ⟨0,0,0,0⟩)
abbrev eM:Stmt:=top 4
abbrev eQ:Stmt:=top 6
abbrev bx:Stmt:=top 7
abbrev dJ:Stmt:=top 8
abbrev bU:Stmt:=top 9
abbrev bM:Stmt:=top 11
abbrev bO:Stmt:=top 12
abbrev bP:Stmt:=top 13
abbrev a_:Stmt:=top 14
abbrev aP:Stmt:=top 15
abbrev bp:Stmt:=top 16
abbrev bq:Stmt:=top 17
abbrev bd:Stmt:=top 18
abbrev bw:Stmt:=top 19
abbrev gq:Stmt:=top 20
theorem nC:aO ["number"] ["number"] (aj eM):=⟨rfl,rfl,rfl,by decide+kernel,rfl,by decide+kernel,by decide+kernel⟩
theorem oE:aO ["P","Q","R"] ["P","Q","R"] (aj eQ):=⟨rfl,rfl,rfl,by decide+kernel,rfl,by decide+kernel,by decide+kernel⟩
theorem cI:aO ["row","kept","P"] ["row"] (aj bx):=⟨rfl,rfl,rfl,by decide+kernel,rfl,by decide+kernel,by decide+kernel⟩
theorem dy:aO ["points","row","there","back"] ["points"] (aj dJ):=⟨rfl,rfl,rfl,by decide+kernel,rfl,by decide+kernel,by decide+kernel⟩
theorem iC:aO ["points"] ["points"] (aj bU):=⟨rfl,rfl,rfl,by decide+kernel,rfl,by decide+kernel,by decide+kernel⟩
theorem gO:aO ["script","k"] ["script","k"] (aj bM):=⟨rfl,rfl,rfl,by decide+kernel,rfl,by decide+kernel,by decide+kernel⟩
theorem g7:aO ["a","b","p"] ["a","b","p"] (aj bO):=⟨rfl,rfl,rfl,by decide+kernel,rfl,by decide+kernel,by decide+kernel⟩
theorem db:aO ["points","way","p"] ["points"] (aj bP):=⟨rfl,rfl,rfl,by decide+kernel,rfl,by decide+kernel,by decide+kernel⟩
theorem ca:aO ["points","some"] ["points"] (aj a_):=⟨rfl,rfl,rfl,by decide+kernel,rfl,by decide+kernel,by decide+kernel⟩
theorem ak:aO ["script","way","far","cells","k","points","cell","x","y"] ["script"] (aj aP):=⟨rfl,rfl,rfl,by decide+kernel,rfl,by decide+kernel,by decide+kernel⟩
theorem aW:aO ["points","at","turned","k","one","two"] ["points","at"] (aj bp):=⟨rfl,rfl,rfl,by decide+kernel,rfl,by decide+kernel,by decide+kernel⟩
theorem cN:aO ["found","due","corner","number"] ["found","due"] (aj bq):=⟨rfl,rfl,rfl,by decide+kernel,rfl,by decide+kernel,by decide+kernel⟩
theorem aq:aO ["land","cell","many","i","j","at","one","two","half","turn_on","swapped","some","on","stride","k"] ["land","cell"] (aj bd):=⟨rfl,rfl,rfl,by decide+kernel,rfl,by decide+kernel,by decide+kernel⟩
theorem cJ:aO ["some","due","handed","found"] ["some","due"] (aj bw):=⟨rfl,rfl,rfl,by decide+kernel,rfl,by decide+kernel,by decide+kernel⟩
theorem di:aO ["script","points","land","some","handed","found","at","rest"] ["script"] (aj gq):=⟨rfl,rfl,rfl,by decide+kernel,rfl,by decide+kernel,by decide+kernel⟩
set_option genInjectivity false in
set_option genSizeOf false in
set_option genSizeOfSpec false in
structure Txt (K:PySem.W.Frag) (mg:Str→Option Value) where
 a_sign:Addr
 d_sign:FuncData
 F_sign:Fun K "sign" "sign" eM a_sign d_sign
 b_sign:bo K d_sign ["number"] []
 m_sign:mg "sign"=some (.ref a_sign)
 a_turn:Addr
 d_turn:FuncData
 F_turn:Fun K "turn" "turn" eQ a_turn d_turn
 b_turn:bo K d_turn ["P","Q","R"] []
 m_turn:mg "turn"=some (.ref a_turn)
 a_left_bends:Addr
 d_left_bends:FuncData
 F_left_bends:Fun K "left_bends" "left_bends" bx a_left_bends d_left_bends
 b_left_bends:bo K d_left_bends ["row"] []
 m_left_bends:mg "left_bends"=some (.ref a_left_bends)
 a_field:Addr
 d_field:FuncData
 F_field:Fun K "field" "field" dJ a_field d_field
 b_field:bo K d_field ["points"] []
 m_field:mg "field"=some (.ref a_field)
 a_is_field:Addr
 d_is_field:FuncData
 F_is_field:Fun K "is_field" "is_field" bU a_is_field d_is_field
 b_is_field:bo K d_is_field ["points"] []
 m_is_field:mg "is_field"=some (.ref a_is_field)
 a__law_cell:Addr
 d__law_cell:FuncData
 F__law_cell:Fun K "_law_cell" "_law_cell" bM a__law_cell d__law_cell
 b__law_cell:bo K d__law_cell ["script","k"] []
 m__law_cell:mg "_law_cell"=some (.ref a__law_cell)
 a__law_side:Addr
 d__law_side:FuncData
 F__law_side:Fun K "_law_side" "_law_side" bO a__law_side d__law_side
 b__law_side:bo K d__law_side ["a","b","p"] []
 m__law_side:mg "_law_side"=some (.ref a__law_side)
 a__law_half:Addr
 d__law_half:FuncData
 F__law_half:Fun K "_law_half" "_law_half" bP a__law_half d__law_half
 b__law_half:bo K d__law_half ["points"] []
 m__law_half:mg "_law_half"=some (.ref a__law_half)
 a__law_corners:Addr
 d__law_corners:FuncData
 F__law_corners:Fun K "_law_corners" "_law_corners" a_ a__law_corners d__law_corners
 b__law_corners:bo K d__law_corners ["points"] []
 m__law_corners:mg "_law_corners"=some (.ref a__law_corners)
 a__law_points:Addr
 d__law_points:FuncData
 F__law_points:Fun K "_law_points" "_law_points" aP a__law_points d__law_points
 b__law_points:bo K d__law_points ["script"] []
 m__law_points:mg "_law_points"=some (.ref a__law_points)
 a__law_mixed:Addr
 d__law_mixed:FuncData
 F__law_mixed:Fun K "_law_mixed" "_law_mixed" bp a__law_mixed d__law_mixed
 b__law_mixed:bo K d__law_mixed ["points","at"] []
 m__law_mixed:mg "_law_mixed"=some (.ref a__law_mixed)
 a__law_alike:Addr
 d__law_alike:FuncData
 F__law_alike:Fun K "_law_alike" "_law_alike" bq a__law_alike d__law_alike
 b__law_alike:bo K d__law_alike ["found","due"] []
 m__law_alike:mg "_law_alike"=some (.ref a__law_alike)
 a__law_lists:Addr
 d__law_lists:FuncData
 F__law_lists:Fun K "_law_lists" "_law_lists" bd a__law_lists d__law_lists
 b__law_lists:bo K d__law_lists ["land","cell"] []
 m__law_lists:mg "_law_lists"=some (.ref a__law_lists)
 a__law_asked:Addr
 d__law_asked:FuncData
 F__law_asked:Fun K "_law_asked" "_law_asked" bw a__law_asked d__law_asked
 b__law_asked:bo K d__law_asked ["some","due"] []
 m__law_asked:mg "_law_asked"=some (.ref a__law_asked)
 a_law:Addr
 d_law:FuncData
 F_law:Fun K "law" "law" gq a_law d_law
 b_law:bo K d_law ["script"] []
 m_law:mg "law"=some (.ref a_law)
 c_NoField:Addr
 x_NoField:PySem.W.excIn K c_NoField [.type "ValueError",.type "Exception",.type "BaseException",.type "object"] "ValueError.__new__"=true
 mx_NoField:mg "NoField"=some (.ref c_NoField)
 z_bool:mg "bool"=none
 z_int:mg "int"=none
 z_isinstance:mg "isinstance"=none
 z_len:mg "len"=none
 z_list:mg "list"=none
 z_max:mg "max"=none
 z_min:mg "min"=none
 z_range:mg "range"=none
 z_reversed:mg "reversed"=none
 z_set:mg "set"=none
 z_sorted:mg "sorted"=none
 z_tuple:mg "tuple"=none
section
variable {P:Program} {w:World} {K:PySem.W.Frag} {mg:Str→Option Value} {base:Heap}
def sgn (n:Int):Int:=if 0 < n then 1 else if n < 0 then -1 else 0
def ko:List U→Out→Prop:=fun us o=> ∃ n:Int,us=[.int n]∧o=.val (.int (sgn n))
set_option maxHeartbeats 8000000 in
theorem nE (T:Txt K mg):bF P w K mg base (CXF P w) 1 T.a_sign T.d_sign ["number"] (spU K (ko)):=by
 refine ck T.F_sign nC (fun us o h=> ?_) (fun cdv A outer s H E O us o hr h=> ?_)
 ·obtain ⟨n,rfl,rfl⟩:=h
  rfl
 obtain ⟨n,rfl,rfl⟩:=h
 refine Ws.nox ?_
 refine af (eN (aQ eX (aa 0 rfl) ag) (fun hT=> ?_) (fun hF=> (az ?_)))
 ·refine af (cC ag ?_)
  exact vIO (by unfold sgn; rw [if_pos (dTb hT)])
 ·refine af (eN (aQ mU (aa 0 rfl) ag) (fun hT=> ?_) (fun hF=> (az ?_)))
  ·refine af (cC (dZ ag) ?_)
   exact vIO (by unfold sgn; rw [if_neg (dFb hF),if_pos (dTb hT)])
  ·rename_i hF2
   refine af (cC ag ?_)
   exact vIO (by unfold sgn; rw [if_neg (dFb hF),if_neg (dFb hF2)])
abbrev Pt:=Int×Int
def plt (p q:Pt):Prop:=p.1 < q.1∨(p.1=q.1∧p.2 < q.2)
def ap (a b p:Pt):Int:=(b.1 - a.1) * (p.2 - a.2) - (b.2 - a.2) * (p.1 - a.1)
theorem bA {a b c:Pt} (h1:plt a b) (h2:plt b c):plt a c:=by unfold plt at *; omega
theorem aK (a:Pt):¬ plt a a:=by unfold plt; omega
theorem g6 (a b:Pt):plt a b∨a=b∨plt b a:=by
 unfold plt
 by_cases h1:a.1=b.1
 ·by_cases h2:a.2=b.2
  ·exact .inr (.inl (Prod.ext h1 h2))
  ·omega
 ·omega
def dS (x y:Int):Prop:=0 < x∨(x=0∧0 < y)
theorem aF {a b:Pt} (h:plt a b):dS (b.1 - a.1) (b.2 - a.2):=by unfold plt dS at *; omega
theorem dv {u1 u2 v1 v2 w1 w2:Int} (hu:dS u1 u2) (hv:dS v1 v2) (hw:dS w1 w2) (h1:0≤u1 * v2 - u2 * v1) (h2:0≤v1 * w2 - v2 * w1):0≤u1 * w2 - u2 * w1:=by
 unfold dS at *
 by_cases hv1:v1=0
 ·subst hv1
  have hv2:0 < v2:=by omega
  have hw1:w1=0:=by
   have:v2 * w1≤0:=by rw [Int.zero_mul] at h2; omega
   by_cases hz:0 < w1
   ·have:=Int.mul_pos hv2 hz; omega
   ·omega
  subst hw1
  have hw2:0 < w2:=by omega
  have:=Int.mul_nonneg (show 0≤u1 by omega) (show 0≤w2 by omega)
  simp; omega
 ·have hv':0 < v1:=by omega
  have e:v1 * (u1 * w2 - u2 * w1)=u1 * (v1 * w2 - v2 * w1)+w1 * (u1 * v2 - u2 * v1):=by grind
  have p1:=Int.mul_nonneg (show 0≤u1 by omega) h2
  have p2:=Int.mul_nonneg (show 0≤w1 by omega) h1
  have:0≤v1 * (u1 * w2 - u2 * w1):=by omega
  exact Int.nonneg_of_mul_nonneg_right this hv'
theorem fB {u1 u2 v1 v2 w1 w2:Int} (hu:dS u1 u2) (hv:dS v1 v2) (hw:dS w1 w2) (h1:0 < u1 * v2 - u2 * v1) (h2:0≤v1 * w2 - v2 * w1):0 < u1 * w2 - u2 * w1:=by
 unfold dS at *
 by_cases hv1:v1=0
 ·subst hv1
  have hv2:0 < v2:=by omega
  have hw1:w1=0:=by
   have:v2 * w1≤0:=by rw [Int.zero_mul] at h2; omega
   by_cases hz:0 < w1
   ·have:=Int.mul_pos hv2 hz; omega
   ·omega
  subst hw1
  have hw2:0 < w2:=by omega
  have hu1:0 < u1:=by
   rcases hu with h | ⟨h,_⟩
   ·exact h
   ·subst h; simp at h1
  have:=Int.mul_pos hu1 hw2
  simp; omega
 ·have hv':0 < v1:=by omega
  have e:v1 * (u1 * w2 - u2 * w1)=u1 * (v1 * w2 - v2 * w1)+w1 * (u1 * v2 - u2 * v1):=by grind
  have p1:=Int.mul_nonneg (show 0≤u1 by omega) h2
  by_cases hw1:w1=0
  ·subst hw1
   have hw2:0 < w2:=by omega
   have hu1:0 < u1:=by
    rcases hu with h | ⟨h,h'⟩
    ·exact h
    ·subst h
     have:=Int.mul_pos h' hv'
     simp at h1; omega
   have:=Int.mul_pos hu1 hw2
   simp; omega
  ·have p2:=Int.mul_pos (show 0 < w1 by omega) h1
   have:0 < v1 * (u1 * w2 - u2 * w1):=by omega
   exact Int.pos_of_mul_pos_right this (by omega)
def g9:List Pt→Prop
 | b::a::r=> plt a b∧g9 (a::r)
 | _=> True
def eU:List Pt→Prop
 | c::b::a::r=> 0 < ap a b c∧eU (b::a::r)
 | _=> True
def dX (done:List Pt):List Pt→Prop
 | b::a::r=> (∀ q∈done,0≤ap a b q)∧dX done (a::r)
 | _=> True
theorem eU.tail:∀ {b:Pt} {st:List Pt},eU (b::st)→eU st
 | _,[],_=> trivial
 | _,[_],_=> trivial
 | _,_::_::_,h=> h.2
theorem g9.tail:∀ {b:Pt} {st:List Pt},g9 (b::st)→g9 st
 | _,[],_=> trivial
 | _,_::_,h=> h.2
theorem dX.tail {done:List Pt}:∀ {b:Pt} {st:List Pt},dX done (b::st)→dX done st
 | _,[],_=> trivial
 | _,_::_,h=> h.2
def aJ (P:Pt):List Pt→List Pt
 | b::a::r=> if ap a b P≤0 then aJ P (a::r) else b::a::r
 | st=> st
def ae (row:List Pt):List Pt:=row.foldl (fun st P=> P::aJ P st) []
structure Kept (done st:List Pt):Prop where
 ne:st≠[]
 desc:g9 st
 turns:eU st
 cover:dX done st
 sub:∀ p∈st,p∈done
structure kS (done st:List Pt) (P:Pt):Prop extends Kept done st where
 pend:∀ h r,st=h::r→∀ q∈done,plt h q→0≤ap h P q
theorem kI {done:List Pt} {P b a:Pt} {r:List Pt} (hP:∀ q∈done,plt q P) (D:kS done (b::a::r) P) (h:ap a b P≤0):kS done (a::r) P:=by
 refine ⟨⟨by simp,D.desc.tail,D.turns.tail,D.cover.tail,fun p hp=> D.sub p (List.mem_cons_of_mem _ hp)⟩,?_⟩
 intro h' r' e q hq hlt
 cases e
 have hab:=D.desc.1
 have hq':=D.cover.1 q hq
 have hbP:=hP b (D.sub b List.mem_cons_self)
 have hqP:=hP q hq
 rcases g6 q b with z | z | z
 ·have l1:=aF hlt
  have l2:=aF hab
  have l3:=aF (bA hab hbP)
  have:=dv (u1:=P.1 - a.1) (u2:=P.2 - a.2) (v1:=b.1 - a.1) (v2:=b.2 - a.2) (w1:=q.1 - a.1) (w2:=q.2 - a.2) l3 l2 l1 (by unfold ap at h; grind) (by unfold ap at hq'; grind)
  unfold ap; grind
 ·subst z; unfold ap at *; grind
 ·have p:=D.pend b _ rfl q hq z
  unfold ap at *
  grind
theorem ij {done:List Pt} {P:Pt} (hP:∀ q∈done,plt q P):∀ st:List Pt,kS done st P→kS done (aJ P st) P∧(∀ b a r,aJ P st=b::a::r→0 < ap a b P)∧(st.getLast?=(aJ P st).getLast?)
 | [],D=> absurd rfl D.ne
 | [b],D=> ⟨D,fun _ _ _ e=> by simp [aJ] at e,rfl⟩
 | b::a::r,D=> by
  by_cases h:ap a b P≤0
  ·rw [aJ,if_pos h]
   obtain ⟨h1,h2,h3⟩:=ij hP (a::r) (kI hP D h)
   exact ⟨h1,h2,by rw [← h3]; simp⟩
  ·rw [aJ,if_neg h]
   refine ⟨D,fun b' a' r' e=> ?_,rfl⟩
   cases e; omega
theorem lh {done st:List Pt} {P:Pt} (hP:∀ q∈done,plt q P) (D:kS done st P) (ht:∀ b a r,st=b::a::r→0 < ap a b P) (hmin:∀ x,st=[x]→∀ q∈done,q=x∨plt x q):Kept (done++[P]) (P::st):=by
 have up:∀ (b:Pt) (r:List Pt),g9 (b::r)→eU (b::r)→dX done (b::r)→plt b P→(∀ a r',r=a::r'→0≤ap a b P)→dX (done++[P]) (b::r):=by
  intro b r
  induction r generalizing b with
  | nil=> intro _ _ _ _ _; trivial
  | cons a r ih=>
   intro hd htn hc hbP hl
   refine ⟨fun q hq=> ?_,?_⟩
   ·rcases List.mem_append.mp hq with z | z
    ·exact hc.1 q z
    ·rw [List.mem_singleton.mp z]; exact hl a r rfl
   ·refine ih a hd.tail htn.tail hc.tail (bA hd.1 hbP) (fun c r' e=> ?_)
    subst e
    have t:=htn.1
    have g:=hl a _ rfl
    have l1:=aF hd.2.1
    have l2:=aF hd.1
    have l3:=aF (bA hd.1 hbP)
    have:=dv (u1:=a.1 - c.1) (u2:=a.2 - c.2) (v1:=b.1 - a.1) (v2:=b.2 - a.2) (w1:=P.1 - a.1) (w2:=P.2 - a.2) l1 l2 l3 (by unfold ap at t; grind) (by unfold ap at g; grind)
    unfold ap; grind
 obtain ⟨h,r,e⟩:∃ h r,st=h::r:=by
  cases hst:st with
  | nil=> exact absurd hst D.ne
  | cons h r=> exact ⟨h,r,rfl⟩
 subst e
 have hhP:=hP h (D.sub h List.mem_cons_self)
 refine ⟨by simp,⟨hhP,D.desc⟩,?_,⟨fun q hq=> ?_,?_⟩,fun p hp=> ?_⟩
 ·cases r with
  | nil=> trivial
  | cons a r'=> exact ⟨ht h a r' rfl,D.turns⟩
 ·rcases List.mem_append.mp hq with z | z
  ·rcases g6 q h with y | y | y
   ·cases r with
    | nil=>
     rcases hmin h rfl q z with w | w
     ·subst w; exact absurd y (aK _)
     ·exact absurd (bA y w) (aK _)
    | cons a r'=>
     have t:=ht h a r' rfl
     have c:=D.cover.1 q z
     have l1:=aF D.desc.1
     have l2:=aF y
     have l3:=aF hhP
     have:=dv (u1:=h.1 - q.1) (u2:=h.2 - q.2) (v1:=h.1 - a.1) (v2:=h.2 - a.2) (w1:=P.1 - h.1) (w2:=P.2 - h.2) l2 l1 l3 (by unfold ap at c; grind) (by unfold ap at t; grind)
     unfold ap; grind
   ·subst y; unfold ap; grind
   ·exact D.pend h r rfl q z y
  ·rw [List.mem_singleton.mp z]; unfold ap; grind
 ·exact up h r D.desc D.turns D.cover hhP (fun a r' e=> Int.le_of_lt (ht h a r' (by rw [e])))
 ·rcases List.mem_cons.mp hp with z | z
  ·subst z; exact List.mem_append_right _ List.mem_cons_self
  ·exact List.mem_append_left _ (D.sub p z)
theorem fA (row:List Pt) (P:Pt):ae (row++[P])=P::aJ P (ae row):=by
 unfold ae; rw [List.foldl_append]; rfl
theorem fS {row:List Pt} (hs:row.Pairwise plt):∀ n,0 < n→n≤row.length→Kept (row.take n) (ae (row.take n))∧(ae (row.take n)).getLast?=row.head?∧(ae (row.take n)).head?=row[n - 1]?
 | 0,h,_=> absurd h (by decide)
 | 1,_,h=> by
  cases row with
  | nil=> simp at h
  | cons a r=>
   simp only [List.take_succ_cons,List.take_zero]
   exact ⟨⟨by simp [ae],trivial,trivial,trivial,fun p hp=> by simpa [ae,aJ] using hp⟩,rfl,rfl⟩
 | n+2,_,h=> by
  obtain ⟨K,hl,hh⟩:=fS hs (n+1) (by omega) (by omega)
  have hn:n+1 < row.length:=by omega
  have et:row.take (n+2)=row.take (n+1)++[row[n+1]]:=by rw [List.take_succ_eq_append_getElem hn]
  have hP:∀ q∈row.take (n+1),plt q row[n+1]:=fun q hq=> by
   obtain ⟨i,hi,e⟩:=List.mem_take_iff_getElem.mp hq
   subst e
   exact List.pairwise_iff_getElem.mp hs i (n+1) (by omega) hn (by omega)
  have D:kS (row.take (n+1)) (ae (row.take (n+1))) row[n+1]:=⟨K,fun h' r e q hq hlt=> by
   exfalso
   rw [e] at hh
   simp only [List.head?_cons,Nat.add_sub_cancel] at hh
   have hn':n < row.length:=by omega
   rw [List.getElem?_eq_getElem hn'] at hh
   have hh':=Option.some.inj hh
   obtain ⟨i,hi,e2⟩:=List.mem_take_iff_getElem.mp hq
   subst e2
   rw [hh'] at hlt
   rcases Nat.lt_or_ge i n with z | z
   ·exact aK _ (bA hlt (List.pairwise_iff_getElem.mp hs i n (by omega) hn' z))
   ·have:i=n:=by omega
    subst this
    exact aK _ hlt⟩
  obtain ⟨D2,ht,hlast⟩:=ij hP _ D
  rw [et,fA]
  refine ⟨lh hP D2 ht (fun x e q hq=> ?_),?_,?_⟩
  ·rw [e,hl] at hlast
   simp at hlast
   obtain ⟨i,hi,e2⟩:=List.mem_take_iff_getElem.mp hq
   have h0:0 < row.length:=by omega
   have e3:row[0]=x:=by
    rw [List.head?_eq_getElem?,List.getElem?_eq_getElem h0] at hlast
    exact Option.some.inj hlast
   subst e2
   rcases Nat.eq_zero_or_pos i with z | z
   ·subst z; exact .inl e3
   ·right; rw [← e3]; exact List.pairwise_iff_getElem.mp hs 0 i h0 (by omega) z
  ·rw [List.getLast?_cons,← hlast,hl]
   cases row with
   | nil=> simp at hn
   | cons a r=> rfl
  ·simp only [List.head?_cons,Nat.add_sub_cancel]
   rw [show n+2 - 1=n+1 by omega,List.getElem?_eq_getElem hn]
theorem bu {row:List Pt} (hs:row.Pairwise plt) (h:row≠[]):Kept row (ae row)∧(ae row).getLast?=row.head?∧(ae row).head?=row.getLast?:=by
 have h0:0 < row.length:=List.length_pos_iff.mpr h
 obtain ⟨h1,h2,h3⟩:=fS hs row.length h0 (Nat.le_refl _)
 rw [List.take_length] at h1 h2 h3
 exact ⟨h1,h2,by rw [h3,List.getLast?_eq_getElem?]⟩
theorem eZ {u1 u2 v1 v2 w1 w2:Int} (hu:dS u1 u2) (hv:dS v1 v2) (hw:dS w1 w2) (h1:0≤u1 * v2 - u2 * v1) (h2:0 < v1 * w2 - v2 * w1):0 < u1 * w2 - u2 * w1:=by
 unfold dS at *
 by_cases hv1:v1=0
 ·subst hv1
  have hv2:0 < v2:=by omega
  have:=Int.mul_nonneg (show 0≤v2 by omega) (show 0≤w1 by omega)
  simp at h2; omega
 ·have hv':0 < v1:=by omega
  have hu1:0 < u1:=by
   rcases hu with h | ⟨h,h'⟩
   ·exact h
   ·subst h
    have:=Int.mul_pos h' hv'
    simp at h1; omega
  have e:v1 * (u1 * w2 - u2 * w1)=u1 * (v1 * w2 - v2 * w1)+w1 * (u1 * v2 - u2 * v1):=by grind
  have p1:=Int.mul_pos hu1 h2
  have p2:=Int.mul_nonneg (show 0≤w1 by omega) h1
  have q:0 < v1 * (u1 * w2 - u2 * w1):=by omega
  exact Int.pos_of_mul_pos_right q hv'
def low (row:List Pt) (p:Pt):Prop:=∀ a∈row,∀ b∈row,plt a p→plt p b→0 < ap a p b
theorem o7 {row:List Pt} {p:Pt}:∀ (st:List Pt) (n:Pt),g9 (n::st)→eU (n::st)→dX row (n::st)→p∈st→(∀ l,(n::st).getLast?=some l→plt l p)→
  ∃ n' q,0 < ap q p n'∧plt q p∧plt p n'∧(∀ x∈row,0≤ap p n' x)∧(∀ x∈row,0≤ap q p x)
 | [],n,_,_,_,hp,_=> by simp at hp
 | h::r,n,D,T,C,hp,hl=> by
  by_cases e:h=p
  ·subst e
   cases r with
   | nil=> exact absurd (hl h (by simp)) (aK h)
   | cons q r'=> exact ⟨n,q,T.1,D.2.1,D.1,C.1,C.2.1⟩
  ·have hp':p∈r:=by
    rcases List.mem_cons.mp hp with z | z
    ·exact absurd z.symm e
    ·exact z
   exact o7 r h D.tail T.tail C.tail hp' (fun l hl'=> hl l (by rw [List.getLast?_cons_cons]; exact hl'))
theorem gM {row:List Pt} (hs:row.Pairwise plt) {p:Pt} (hp:p∈ae row):low row p:=by
 intro a ha b hb hap hpb
 have hne:row≠[]:=fun z=> by rw [z] at ha; simp at ha
 obtain ⟨K,hlast,hhead⟩:=bu hs hne
 have mn:∀ x∈row,∀ m,row.head?=some m→x=m∨plt m x:=fun x hx m hm=> by
  cases row with
  | nil=> simp at hx
  | cons y r=>
   cases hm
   rcases List.mem_cons.mp hx with z | z
   ·exact .inl z
   ·exact .inr ((List.pairwise_cons.mp hs).1 x z)
 have mx:∀ x∈row,∀ m,row.getLast?=some m→x=m∨plt x m:=fun x hx m hm=> by
  obtain ⟨i,hi⟩:=List.mem_iff_getElem?.mp hx
  have hil:=(List.getElem?_eq_some_iff.mp hi).1
  rw [List.getLast?_eq_getElem?] at hm
  have hml:=(List.getElem?_eq_some_iff.mp hm).1
  rcases Nat.lt_or_eq_of_le (show i≤row.length - 1 by omega) with z | z
  ·right
   have h1:=List.pairwise_iff_getElem.mp hs i (row.length - 1) hil hml z
   rw [(List.getElem?_eq_some_iff.mp hi).2,(List.getElem?_eq_some_iff.mp hm).2] at h1
   exact h1
  ·left; rw [z,hm] at hi; exact (Option.some.inj hi).symm
 cases hst:ae row with
 | nil=> exact absurd hst K.ne
 | cons n st=>
  rw [hst] at K hlast hhead hp
  have hn:row.getLast?=some n:=by rw [← hhead]; rfl
  have hpn:p∈st:=by
   rcases List.mem_cons.mp hp with z | z
   ·rcases mx b hb n hn with y | y
    ·rw [y,← z] at hpb; exact absurd hpb (aK p)
    ·rw [z] at hpb; exact absurd (bA hpb y) (aK n)
   ·exact z
  obtain ⟨n',q,t,qp,pn,c1,c2⟩:=o7 st n K.desc K.turns K.cover hpn (fun l hl=> by
   rw [hlast] at hl
   rcases mn a ha l hl with y | y
   ·rw [← y]; exact hap
   ·exact bA y hap)
  have g1:=c2 a ha
  have g2:=c1 b hb
  unfold ap at *
  have k1:0≤(p.1 - a.1) * (p.2 - q.2) - (p.2 - a.2) * (p.1 - q.1):=by grind
  have k2:0 < (p.1 - q.1) * (n'.2 - p.2) - (p.2 - q.2) * (n'.1 - p.1):=by grind
  have k3:0≤(n'.1 - p.1) * (b.2 - p.2) - (n'.2 - p.2) * (b.1 - p.1):=by grind
  have k4:=fB (aF qp) (aF pn) (aF hpb) k2 k3
  have k5:=eZ (aF hap) (aF qp) (aF hpb) k1 k4
  grind
theorem lW {row:List Pt} {p:Pt}:∀ (st:List Pt) (h:Pt),g9 (h::st)→dX row (h::st)→p∈row→p ∉ h::st→plt p h→(∀ l,(h::st).getLast?=some l→plt l p)→∃ a∈h::st,∃ b∈h::st,plt a p∧plt p b∧0≤ap a b p
 | [],h,_,_,_,_,hp,hl=> absurd (bA hp (hl h (by simp))) (aK p)
 | a::r,h,D,C,hr,hno,hp,hl=> by
  rcases g6 p a with z | z | z
  ·obtain ⟨x,hx,y,hy,k⟩:=lW r a D.tail C.tail hr (fun w=> hno (List.mem_cons_of_mem _ w)) z (fun l hl'=> hl l (by rw [List.getLast?_cons_cons]; exact hl'))
   exact ⟨x,List.mem_cons_of_mem _ hx,y,List.mem_cons_of_mem _ hy,k⟩
  ·exact absurd (by rw [z]; simp) hno
  ·exact ⟨a,by simp,h,by simp,z,hp,C.1 p hr⟩
theorem gap {row:List Pt} (hs:row.Pairwise plt) {p:Pt} (hp:p∈row) (hno:p ∉ ae row):∃ a∈ae row,∃ b∈ae row,plt a p∧plt p b∧ap a p b≤0:=by
 have hne:row≠[]:=fun z=> by rw [z] at hp; simp at hp
 obtain ⟨K,hlast,hhead⟩:=bu hs hne
 cases hst:ae row with
 | nil=> exact absurd hst K.ne
 | cons n st=>
  rw [hst] at K hlast hhead hno
  have hn:row.getLast?=some n:=by rw [← hhead]; rfl
  have pn:plt p n:=by
   obtain ⟨i,hi⟩:=List.mem_iff_getElem?.mp hp
   have hil:=(List.getElem?_eq_some_iff.mp hi).1
   rw [List.getLast?_eq_getElem?] at hn
   have hml:=(List.getElem?_eq_some_iff.mp hn).1
   rcases Nat.lt_or_eq_of_le (show i≤row.length - 1 by omega) with z | z
   ·have h1:=List.pairwise_iff_getElem.mp hs i (row.length - 1) hil hml z
    rw [(List.getElem?_eq_some_iff.mp hi).2,(List.getElem?_eq_some_iff.mp hn).2] at h1
    exact h1
   ·rw [z,hn] at hi; exact absurd (by rw [← Option.some.inj hi]; simp) hno
  obtain ⟨a,ha,b,hb,k1,k2,k3⟩:=lW st n K.desc K.cover hp hno pn (fun l hl=> by
   have hl':=hl
   rw [hlast] at hl
   cases row with
   | nil=> simp at hp
   | cons y r=>
    cases hl
    rcases List.mem_cons.mp hp with z | z
    ·exact absurd (by rw [z]; exact List.mem_of_getLast? hl') hno
    ·exact (List.pairwise_cons.mp hs).1 p z)
  refine ⟨a,ha,b,hb,k1,k2,?_⟩
  unfold ap at *
  grind
theorem kY {row row':List Pt} (hs:row.Pairwise plt) (hs':row'.Pairwise plt) (h1:∀ p∈row',p∈row) (h2:∀ p∈ae row,p∈row') (sub:∀ (r:List Pt) (q:Pt),q∈ae r→q∈r) (p:Pt):p∈ae row'↔p∈ae row:=by
 constructor
 ·intro hp
  refine Classical.byContradiction fun hno=> ?_
  obtain ⟨a,ha,b,hb,k1,k2,k3⟩:=gap hs (h1 p (sub _ _ hp)) hno
  have:=gM hs' hp a (h2 a ha) b (h2 b hb) k1 k2
  omega
 ·intro hp
  refine Classical.byContradiction fun hno=> ?_
  obtain ⟨a,ha,b,hb,k1,k2,k3⟩:=gap hs' (h2 p hp) hno
  have:=gM hs hp a (h1 a (sub _ _ ha)) b (h1 b (sub _ _ hb)) k1 k2
  omega
abbrev Szp (m:Nat) (p:P2):Prop:=Sz m p.1∧Sz m p.2
theorem oQ (b:P2) (r:List P2):atI ((b::r).reverse.map pu) (-1)=some (pu b):=by
 have h:ixN ((b::r).reverse.map pu).length (-1)=some r.length:=by
  unfold ixN
  simp
  omega
 unfold atI
 rw [h]
 simp
theorem oR (b a:P2) (r:List P2):atI ((b::a::r).reverse.map pu) (-2)=some (pu a):=by
 have h:ixN ((b::a::r).reverse.map pu).length (-2)=some r.length:=by
  unfold ixN
  simp
  omega
 unfold atI
 rw [h]
 simp
theorem fc (P:P2):∀ st:List P2,(aJ P st).length≤st.length
 | []=> Nat.le_refl _
 | [_]=> Nat.le_refl _
 | b::a::r=> by
  unfold aJ
  split
  ·have:=fc P (a::r); simp only [List.length_cons] at *; omega
  ·exact Nat.le_refl _
theorem jH (P:P2):∀ (st:List P2) (q:P2),q∈aJ P st→q∈st
 | [],_,h=> h
 | [_],_,h=> h
 | b::a::r,q,h=> by
  unfold aJ at h
  split at h
  ·exact List.mem_cons_of_mem _ (jH P (a::r) q h)
  ·exact h
theorem dg {row:List P2} {i:Nat} {P:P2} (h:row[i]?=some P):ae (row.take (i+1))=P::aJ P (ae (row.take i)):=by
 rw [List.take_succ,h]; exact fA _ _
theorem dL (row:List P2):∀ i,(ae (row.take i)).length≤i
 | 0=> by simp [ae]
 | i+1=> by
  have ih:=dL row i
  cases h:row[i]? with
  | none=> rw [List.take_succ,h]; simp; omega
  | some P=>
   rw [dg h]
   have:=fc P (ae (row.take i))
   simp only [List.length_cons]; omega
theorem cP (row:List P2):∀ i q,q∈ae (row.take i)→q∈row
 | 0,q,h=> by simp [ae] at h
 | i+1,q,h=> by
  cases hi:row[i]? with
  | none=> rw [List.take_succ,hi] at h; exact cP row i q (by simpa using h)
  | some P=>
   rw [dg hi] at h
   rcases List.mem_cons.mp h with e | e
   ·rw [e]; exact List.mem_of_getElem? hi
   ·exact cP row i q (jH P _ q e)
theorem m3 (n:Int):decide (sgn n < 1)=decide (n≤0):=by
 have h:sgn n < 1↔n≤0:=by
  unfold sgn
  split
  ·omega
  ·split <;> omega
 exact decide_eq_decide.mpr h
theorem dH (l:List P2):cG (l.map pu) none (some (-1))=l.dropLast.map pu:=by
 unfold cG HT.sIx
 rw [List.map_dropLast,List.dropLast_eq_take]
 simp
 try omega
def al (pts:List P2):List P2:=if (ST.srt pts).length=1 then ST.srt pts else (ae (ST.srt pts)).reverse.dropLast++(ae (ST.srt pts).reverse).reverse.dropLast
theorem g_ (a b:Pt):plt a b↔ST.ltP a b=true:=by unfold plt ST.ltP; simp
theorem fg {l:List Pt}:ST.Asc l↔l.Pairwise plt:=⟨fun h=> h.imp fun {a b} k=> (g_ a b).mpr k,fun h=> h.imp fun {a b} k=> (g_ a b).mp k⟩
theorem gL:∀ {st:List Pt},g9 st→st.Pairwise (fun x y=> plt y x)
 | [],_=> List.Pairwise.nil
 | [_],_=> by simp
 | b::a::r,h=> by
  have ih:=gL h.2
  refine List.pairwise_cons.mpr ⟨fun x hx=> ?_,ih⟩
  rcases List.mem_cons.mp hx with z | z
  ·rw [z]; exact h.1
  ·exact bA ((List.pairwise_cons.mp ih).1 x z) h.1
theorem aU (row:List Pt) (q:Pt) (h:q∈ae row):q∈row:=by
 have:=cP row row.length q
 rw [List.take_length] at this
 exact this h
theorem cj {row:List Pt} (hs:row.Pairwise plt):ST.Asc (ae row).reverse:=by
 by_cases hne:row=[]
 ·subst hne; exact List.Pairwise.nil
 ·exact fg.mpr (List.pairwise_reverse.mpr (gL (bu hs hne).1.desc))
theorem iL {row row':List Pt} (hs:row.Pairwise plt) (hs':row'.Pairwise plt) (h1:∀ p∈row',p∈row) (h2:∀ p∈ae row,p∈row'):ae row'=ae row:=by
 have e:=ST.asc_one (cj hs') (cj hs) fun z=> by
  rw [List.mem_reverse,List.mem_reverse]
  exact kY hs hs' h1 h2 aU z
 exact List.reverse_inj.mp e
def ng (p:Pt):Pt:=(-p.1,-p.2)
theorem dW (p:Pt):ng (ng p)=p:=by unfold ng; simp
theorem qs (l:List Pt):(l.map ng).map ng=l:=by
 rw [List.map_map,show ng ∘ ng=id from funext dW,List.map_id]
theorem fv (a b c:Pt):ap (ng a) (ng b) (ng c)=ap a b c:=by unfold ap ng; grind
theorem fI {a b:Pt} (h:plt a b):plt (ng b) (ng a):=by unfold plt ng at *; simp; omega
theorem lD (P:Pt):∀ st:List Pt,aJ (ng P) (st.map ng)=(aJ P st).map ng
 | []=> rfl
 | [_]=> rfl
 | b::a::r=> by
  show aJ (ng P) (ng b::ng a::r.map ng)=_
  unfold aJ
  rw [fv]
  split
  ·exact lD P (a::r)
  ·rfl
theorem dF:∀ row:List Pt,ae (row.map ng)=(ae row).map ng:=fun row=> by
 have key:∀ (l:List Pt) (st:List Pt),(l.map ng).foldl (fun st P=> P::aJ P st) (st.map ng)=(l.foldl (fun st P=> P::aJ P st) st).map ng:=by
  intro l
  induction l with
  | nil=> intro st; rfl
  | cons p r ih=>
   intro st
   rw [List.map_cons,List.foldl_cons,List.foldl_cons,lD]
   exact ih (p::aJ p st)
 exact key row []
theorem bQ {row:List Pt} (hs:row.Pairwise plt):(row.reverse.map ng).Pairwise plt:=by
 rw [List.pairwise_map,List.pairwise_reverse]
 exact hs.imp fun {a b} h=> fI h
theorem aY (row:List Pt):ae row.reverse=(ae (row.reverse.map ng)).map ng:=by rw [dF,qs]
theorem gN {row row':List Pt} (hs:row.Pairwise plt) (hs':row'.Pairwise plt) (h1:∀ p∈row',p∈row) (h2:∀ p∈ae row.reverse,p∈row'):ae row'.reverse=ae row.reverse:=by
 rw [aY row,aY row']
 congr 1
 refine iL (bQ hs) (bQ hs') (fun p hp=> ?_) (fun p hp=> ?_)
 ·obtain ⟨q,hq,rfl⟩:=List.mem_map.mp hp
  exact List.mem_map.mpr ⟨q,List.mem_reverse.mpr (h1 q (List.mem_reverse.mp hq)),rfl⟩
 ·rw [dF] at hp
  obtain ⟨q,hq,rfl⟩:=List.mem_map.mp hp
  exact List.mem_map.mpr ⟨q,List.mem_reverse.mpr (h2 q hq),rfl⟩
theorem mh {row:List Pt} (hs:row.Pairwise plt) (h2:2≤row.length):∃ mn mx t1 t2,ae row=mx::t1∧ae row.reverse=mn::t2∧mn∈t1∧mx∈t2∧(∀ p∈row,p=mn∨plt mn p)∧(∀ p∈row,p=mx∨plt p mx)∧mn∈row∧mx∈row:=by
 have hne:row≠[]:=fun z=> by rw [z] at h2; simp at h2
 obtain ⟨K,hl,hh⟩:=bu hs hne
 have hneR:row.reverse.map ng≠[]:=by simpa using hne
 obtain ⟨KR,hlR,hhR⟩:=bu (bQ hs) hneR
 have e1:row.head?=some row[0]:=by rw [List.head?_eq_getElem?]; exact List.getElem?_eq_getElem (by omega)
 have e2:row.getLast?=some row[row.length - 1]:=by rw [List.getLast?_eq_getElem?]; exact List.getElem?_eq_getElem (by omega)
 have l01:plt row[0] row[row.length - 1]:=List.pairwise_iff_getElem.mp hs 0 (row.length - 1) (by omega) (by omega) (by omega)
 have mnA:∀ p∈row,p=row[0]∨plt row[0] p:=fun p hp=> by
  obtain ⟨i,hi,rfl⟩:=List.mem_iff_getElem.mp hp
  rcases Nat.eq_zero_or_pos i with z | z
  ·left; subst z; rfl
  ·right; exact List.pairwise_iff_getElem.mp hs 0 i (by omega) hi z
 have mxA:∀ p∈row,p=row[row.length - 1]∨plt p row[row.length - 1]:=fun p hp=> by
  obtain ⟨i,hi,rfl⟩:=List.mem_iff_getElem.mp hp
  rcases Nat.lt_or_eq_of_le (show i≤row.length - 1 by omega) with z | z
  ·right; exact List.pairwise_iff_getElem.mp hs i (row.length - 1) hi (by omega) z
  ·left; subst z; rfl
 have ne:row[0]≠row[row.length - 1]:=fun z=> by rw [z] at l01; exact aK _ l01
 generalize row[0]=mn at *
 generalize row[row.length - 1]=mx at *
 have mmn:mn∈row:=List.mem_of_head? e1
 have mmx:mx∈row:=List.mem_of_getLast? e2
 rw [e1] at hl
 rw [e2] at hh
 have hlR':(ae row.reverse).getLast?=some mx:=by
  rw [aY,List.getLast?_map,hlR,List.head?_map,List.head?_reverse,e2]; simp [dW]
 have hhR':(ae row.reverse).head?=some mn:=by
  rw [aY,List.head?_map,hhR,List.getLast?_map,List.getLast?_reverse,e1]; simp [dW]
 cases hb:ae row with
 | nil=> rw [hb] at hh; cases hh
 | cons x t1=>
  rw [hb] at hh hl
  cases hh
  cases hbR:ae row.reverse with
  | nil=> rw [hbR] at hhR'; cases hhR'
  | cons y t2=>
   rw [hbR] at hhR' hlR'
   cases hhR'
   refine ⟨_,_,t1,t2,rfl,rfl,?_,?_,mnA,mxA,mmn,mmx⟩
   ·cases t1 with
    | nil=> simp at hl; exact absurd hl.symm ne
    | cons z r=> rw [List.getLast?_cons_cons] at hl; exact List.mem_of_getLast? hl
   ·cases t2 with
    | nil=> simp at hlR'; exact absurd hlR' ne
    | cons z r=> rw [List.getLast?_cons_cons] at hlR'; exact List.mem_of_getLast? hlR'
theorem lx (st:List Pt):st.reverse.dropLast=st.tail.reverse:=by
 cases st with
 | nil=> rfl
 | cons h t=> simp
theorem dI {l:List Pt}:l.reverse.Nodup↔l.Nodup:=by
 unfold List.Nodup
 rw [List.pairwise_reverse]
 exact ⟨fun h=> h.imp fun k=> Ne.symm k,fun h=> h.imp fun k=> Ne.symm k⟩
theorem cg:∀ {l m:List Pt},l.Nodup→(∀ x∈l,x∈m)→l.length≤m.length
 | [],_,_,_=> Nat.zero_le _
 | x::l,m,h,hs=> by
  obtain ⟨h1,h2⟩:=List.nodup_cons.mp h
  have hx:x∈m:=hs x List.mem_cons_self
  have ih:=cg (m:=m.erase x) h2 fun y hy=> (List.mem_erase_of_ne (fun e=> h1 (by rw [← e]; exact hy))).mpr (hs y (List.mem_cons_of_mem _ hy))
  rw [List.length_erase_of_mem hx] at ih
  have:=List.length_pos_of_mem hx
  simp only [List.length_cons]; omega
theorem cF (pts:List Pt):(ST.srt pts).Pairwise plt:=fg.mp (ST.srt_asc pts)
theorem dE {pts:List Pt} (h:2≤(ST.srt pts).length):al pts=(ae (ST.srt pts)).tail.reverse++(ae (ST.srt pts).reverse).tail.reverse:=by
 unfold al; rw [if_neg (by omega),lx,lx]
theorem nT {pts:List Pt} (h:pts≠[]):al pts≠[]:=by
 have hs:ST.srt pts≠[]:=fun z=> by
  obtain ⟨p,r,rfl⟩:=List.exists_cons_of_ne_nil h
  have:=(ST.srt_mem p (p::r)).mpr List.mem_cons_self
  rw [z] at this; simp at this
 by_cases h1:(ST.srt pts).length=1
 ·unfold al; rw [if_pos h1]; exact hs
 ·have h2:2≤(ST.srt pts).length:=by have:=List.length_pos_iff.mpr hs; omega
  obtain ⟨mn,mx,t1,t2,e1,e2,m1,m2,_⟩:=mh (cF pts) h2
  rw [dE h2,e1,e2]
  intro z
  have:t1.reverse=[]:=(List.append_eq_nil_iff.mp z).1
  rw [List.reverse_eq_nil_iff.mp this] at m1
  simp at m1
theorem bj (pts:List Pt):(al pts).Nodup:=by
 have nd:∀ {l:List Pt},l.Pairwise plt→l.Nodup:=fun h=> h.imp fun {a b} k e=> by rw [e] at k; exact aK b k
 by_cases h2:2≤(ST.srt pts).length
 ·have hs:=cF pts
  obtain ⟨mn,mx,t1,t2,e1,e2,m1,m2,hmn,hmx,i1,i2⟩:=mh hs h2
  have n1:(mx::t1).Nodup:=by rw [← e1]; exact dI.mp (nd (fg.mp (cj hs)))
  have n2:(mn::t2).Nodup:=by
   rw [← e2,aY]
   have:=dI.mp (nd (fg.mp (cj (bQ hs))))
   refine List.pairwise_map.mpr (this.imp fun {a b} hab e=> hab ?_)
   rw [← dW a,e,dW]
  obtain ⟨x1,y1⟩:=List.nodup_cons.mp n1
  obtain ⟨x2,y2⟩:=List.nodup_cons.mp n2
  rw [dE h2,e1,e2,List.tail_cons,List.tail_cons,List.nodup_append]
  refine ⟨dI.mpr y1,dI.mpr y2,fun p hp q hq=> ?_⟩
  rintro rfl
  have p1:p∈t1:=List.mem_reverse.mp hp
  have p2:p∈t2:=List.mem_reverse.mp hq
  have b1:p∈ae (ST.srt pts):=by rw [e1]; exact List.mem_cons_of_mem _ p1
  have b2:p∈ae (ST.srt pts).reverse:=by rw [e2]; exact List.mem_cons_of_mem _ p2
  have pr:=aU _ _ b1
  have l1:plt mn p:=(hmn p pr).resolve_left fun e=> x2 (by rw [← e]; exact p2)
  have l2:plt p mx:=(hmx p pr).resolve_left fun e=> x1 (by rw [← e]; exact p1)
  have d1:=gM hs b1 mn i1 mx i2 l1 l2
  have b3:ng p∈ae ((ST.srt pts).reverse.map ng):=by rw [dF]; exact List.mem_map.mpr ⟨p,b2,rfl⟩
  have d2:=gM (bQ hs) b3 (ng mx) (List.mem_map.mpr ⟨mx,List.mem_reverse.mpr i2,rfl⟩) (ng mn) (List.mem_map.mpr ⟨mn,List.mem_reverse.mpr i1,rfl⟩) (fI l2) (fI l1)
  rw [fv] at d2
  unfold ap at d1 d2
  grind
 ·unfold al
  split
  ·exact nd (cF pts)
  ·have e:ST.srt pts=[]:=List.length_eq_zero_iff.mp (by omega)
   rw [e]; exact List.nodup_nil
theorem dC (pts:List Pt):∀ p∈al pts,p∈pts:=fun p hp=> by
 unfold al at hp
 split at hp
 ·exact (ST.srt_mem p pts).mp hp
 ·rcases List.mem_append.mp hp with h | h
  ·exact (ST.srt_mem p pts).mp (aU _ _ (List.mem_reverse.mp (List.dropLast_subset _ h)))
  ·exact (ST.srt_mem p pts).mp (List.mem_reverse.mp (aU _ _ (List.mem_reverse.mp (List.dropLast_subset _ h))))
theorem oM (pts:List Pt):(al pts).length≤pts.length:=cg (bj pts) (dC pts)
theorem eK (pts:List Pt):al (al pts)=al pts:=by
 by_cases h2:2≤(ST.srt pts).length
 ·have hs:=cF pts
  obtain ⟨mn,mx,t1,t2,e1,e2,m1,m2,hmn,hmx,i1,i2⟩:=mh hs h2
  have ec:=dE h2
  have mem1:∀ p∈ae (ST.srt pts),p∈al pts:=fun p hp=> by
   rw [ec,e1,e2,List.tail_cons,List.tail_cons]
   rw [e1] at hp
   rcases List.mem_cons.mp hp with z | z
   ·rw [z]; exact List.mem_append_right _ (List.mem_reverse.mpr m2)
   ·exact List.mem_append_left _ (List.mem_reverse.mpr z)
  have mem2:∀ p∈ae (ST.srt pts).reverse,p∈al pts:=fun p hp=> by
   rw [ec,e1,e2,List.tail_cons,List.tail_cons]
   rw [e2] at hp
   rcases List.mem_cons.mp hp with z | z
   ·rw [z]; exact List.mem_append_left _ (List.mem_reverse.mpr m1)
   ·exact List.mem_append_right _ (List.mem_reverse.mpr z)
  have hs':=cF (al pts)
  have sub:∀ p∈ST.srt (al pts),p∈ST.srt pts:=fun p hp=> (ST.srt_mem p pts).mpr (dC pts p ((ST.srt_mem p _).mp hp))
  have q1:=iL hs hs' sub fun p hp=> (ST.srt_mem p _).mpr (mem1 p hp)
  have q2:=gN hs hs' sub fun p hp=> (ST.srt_mem p _).mpr (mem2 p hp)
  have len:2≤(ST.srt (al pts)).length:=by
   have a1:mn∈ST.srt (al pts):=(ST.srt_mem _ _).mpr (mem1 mn (by rw [e1]; exact List.mem_cons_of_mem _ m1))
   have a2:mx∈ST.srt (al pts):=(ST.srt_mem _ _).mpr (mem1 mx (by rw [e1]; exact List.mem_cons_self))
   have ne:mn≠mx:=fun z=> by
    have nd:=bj pts
    rw [ec,e1,e2,List.tail_cons,List.tail_cons,List.nodup_append] at nd
    exact nd.2.2 mn (List.mem_reverse.mpr m1) mx (List.mem_reverse.mpr m2) z
   have:=cg (l:=[mn,mx]) (m:=ST.srt (al pts)) (by simp [ne]) (fun x hx=> by
    rcases List.mem_cons.mp hx with z | z
    ·rw [z]; exact a1
    ·rw [List.mem_singleton.mp z]; exact a2)
   exact this
  rw [dE len,q1,q2,← ec]
 ·have e:al pts=ST.srt pts:=by
   unfold al
   split
   ·rfl
   ·have e:ST.srt pts=[]:=List.length_eq_zero_iff.mp (by omega)
    rw [e]; rfl
  rw [e]
  have e3:ST.srt (ST.srt pts)=ST.srt pts:=ST.asc_srt (ST.srt_asc pts)
  unfold al
  rw [e3]
  split
  ·rfl
  ·have e:ST.srt pts=[]:=List.length_eq_zero_iff.mp (by omega)
   rw [e]; rfl
end
section
variable {P:Program} {w:World} {K:PySem.W.Frag} {mg:Str→Option Value} {base:Heap}
def kW:List U→Out→Prop:=fun us o=> ∃ P Q R:P2,us=[pu P,pu Q,pu R]∧Szp 5000 P∧Szp 5000 Q∧Szp 5000 R∧o=.val (.int (sgn (ap P Q R)))
set_option maxHeartbeats 8000000 in
theorem nK (T:Txt K mg):bF P w K mg base (CXF P w) 2 T.a_turn T.d_turn ["P","Q","R"] (spU K (kW)):=by
 refine ck T.F_turn oE (fun us o h=> ?_) (fun cdv A outer s H E O us o hr h=> ?_)
 ·obtain ⟨P,Q,R,rfl,⟨p1,p2⟩,⟨q1,q2⟩,⟨r1,r2⟩,rfl⟩:=h
  rfl
 obtain ⟨P,Q,R,rfl,⟨p1,p2⟩,⟨q1,q2⟩,⟨r1,r2⟩,rfl⟩:=h
 refine Ws.nox ?_
 refine af (cC (bD ((nE T).mono (by decide)) hr rfl T.m_sign T.F_sign.kp T.b_sign aX (ah (bE (cu (bE (bB (aa 1 rfl) ag rfl rfl) (bB (aa 0 rfl) ag rfl rfl)) (bE (bB (aa 2 rfl) ag rfl rfl) (bB (aa 0 rfl) ag rfl rfl)) (by walk_at "mul")) (cu (bE (bB (aa 1 rfl) ag rfl rfl) (bB (aa 0 rfl) ag rfl rfl)) (bE (bB (aa 2 rfl) ag rfl rfl) (bB (aa 0 rfl) ag rfl rfl)) (by walk_at "mul"))) ao bV) ⟨_,rfl,rfl⟩) ?_)
 exact rfl
def fE:List U→Out→Prop:=fun us o=> ∃ row:List P2,us=[lp row]∧(∀ p∈row,Szp 5000 p)∧row.length≤900∧o=.new ((ae row).reverse.map pu)
set_option maxHeartbeats 8000000 in
theorem dY (T:Txt K mg):bF P w K mg base (CXF P w) 3 T.a_left_bends T.d_left_bends ["row"] (spU K (fE)):=by
 refine ck T.F_left_bends cI (fun us o h=> ?_) (fun cdv A outer s H E O us o hr h=> ?_)
 ·obtain ⟨row,rfl,sz,hl,rfl⟩:=h
  rfl
 obtain ⟨row,rfl,sz,hl,rfl⟩:=h
 refine Ws.nox ?_
 refine af (eC (i:=1) cI.nd rfl (Or.inl rfl) (cH cD) ?_)
 refine af (du (fun st:List P2=> [some (.val (lp row)),some (.own (st.reverse.map pu)),none]) (fun i st=> st=ae (row.take i)) rfl PassesOwn.never (eH (aa 0 rfl) (.inl rfl)) ?h0 ?hs ?hd)
 case h0=> exact ⟨[],rfl,rfl,rfl,trivial⟩
 case hs=>
  rintro H0 i x _ hx rfl
  obtain ⟨P,hP,mP,rfl⟩:=nh hx
  have hi:i < row.length:=aA hP
  have sP:=sz P mP
  refine ⟨_,(dG (i:=2) cI.nd rfl (Or.inl rfl)),?_⟩
  have len0:=dL row i
  refine b_ (fun ps=> SubP [some (.val (lp row)),some (.own ((aJ P (ae (row.take i))).reverse.map pu)),some (.val (pu P))] ps) (iB (fun s2:List P2=> [some (.val (lp row)),some (.own (s2.reverse.map pu)),some (.val (pu P))]) (fun m s2=> m=s2.length∧aJ P s2=aJ P (ae (row.take i))∧(∀ p∈s2,p∈row)∧s2.length≤i) PassesOwn.never ?h0 ?hs) ?hj
  case h0=> exact ⟨_,_,⟨rfl,rfl,fun q hq=> cP row i q hq,len0⟩,rfl,rfl,rfl,trivial⟩
  case hs=>
   rintro m s2 ⟨rfl,e2,sub,len2⟩
   match s2,e2,sub,len2 with
   | [],e2,sub,len2=>
    refine ⟨false,?_,fun h=> (nomatch h),fun h ps hps=> e2 ▸ hps⟩
    exact (Tw.t (hV (aQ eX (df 1 rfl rfl T.z_len) ag) rfl))
   | [b],e2,sub,len2=>
    refine ⟨false,?_,fun h=> (nomatch h),fun h ps hps=> e2 ▸ hps⟩
    exact (Tw.t (hV (aQ eX (df 1 rfl rfl T.z_len) ag) rfl))
   | b::a::r,e2,sub,len2=>
    have sa:=sz a (sub a (by simp))
    have sb:=sz b (sub b (by simp))
    have e1:decide ((1:Int) < ((((b::a::r).reverse.map pu).length:Nat):Int))=true:=decide_eq_true (by simp; omega)
    refine ⟨decide ((1:Int) < ((((b::a::r).reverse.map pu).length:Nat):Int)) && decide (sgn (ap a b P) < 1),?_,fun h=> ?_,fun h ps hps=> ?_⟩
    ·exact (Tw.t (ka (aQ eX (df 1 rfl rfl T.z_len) ag) (fun hz=> (i8 (aQ mU (bD ((nK T).mono (by decide)) hr rfl T.m_turn T.F_turn.kp T.b_turn aX (ah (gi 1 rfl (dZ ag) (oR b a r)) (ah (gi 1 rfl (dZ ag) (oQ b (a::r))) (ah (aa 2 rfl) ao ai) d9) d9) ⟨a,b,P,rfl,sa,sb,sP,rfl⟩) ag)))))
    ·rw [e1,Bool.true_and,m3] at h
     have hd:=dTb h
     refine af (oU 1 rfl (by simp) (az ?_))
     refine ⟨_,a::r,?_,⟨rfl,?_,fun q hq=> sub q (List.mem_cons_of_mem _ hq),?_⟩,rfl,?_,rfl,trivial⟩
     ·simp
     ·rw [← e2]; conv=> rhs; unfold aJ
      rw [if_pos hd]
     ·simp only [List.length_cons] at *; omega
     ·exact congrArg (fun l=> some (Sl.own l)) (by simp)
    ·rw [e1,Bool.true_and,m3] at h
     have hd:=dFb h
     have e3:aJ P (b::a::r)=b::a::r:=by conv=> lhs; unfold aJ
                                        rw [if_neg hd]
     rw [← e2,e3]
     exact hps
  case hj=>
   intro ps hps
   refine bT ?_ hps
   have e4:=dg hP
   have len3:=fc P (ae (row.take i))
   refine af (bY 1 rfl (aa 2 rfl) (by rw [List.length_map,List.length_reverse]; exact am (by omega)) (az ?_))
   refine ⟨_,rfl,rfl,?_,trivial⟩
   exact congrArg (fun l=> some (Sl.own l)) (by rw [e4]; simp)
 case hd=>
  rintro st ps hst hps
  refine bT ?_ hps
  refine af (fT 1 rfl ?_)
  rw [hst]
  simp
end
section
variable {P:Program} {w:World} {K:PySem.W.Frag} {mg:Str→Option Value} {base:Heap}
theorem mf {m:Nat} {pts:List P2} (h:∀ p∈pts,Szp m p):∀ p∈ST.srt pts,Szp m p:=fun p hp=> h p ((ST.srt_mem p pts).mp hp)
theorem eG (row:List P2):(ae row).length≤row.length:=by
 have:=dL row row.length
 rwa [List.take_length] at this
def jc (C:Addr):List U→Out→Prop:=fun us o=> ∃ pts:List P2,us=[lp pts]∧(∀ p∈pts,Szp 5000 p)∧pts.length≤400∧o=(if pts=[] then .exc C else .new ((al pts).map pu))
set_option maxHeartbeats 8000000 in
theorem il (T:Txt K mg):bF P w K mg base (CXF P w) 4 T.a_field T.d_field ["points"] (spU K (jc T.c_NoField)):=by
 refine ck T.F_field dy (by rintro us o ⟨_,rfl,_⟩; rfl) (fun cdv A outer s H E O us o hr h=> ?_)
 obtain ⟨pts,rfl,sz,hl,rfl⟩:=h
 have hml:((pts.map pu).length:Int)=(pts.length:Int):=by rw [List.length_map]
 by_cases hne:pts=[]
 ·subst hne
  refine af (i5 (aQ dk (aC (cB rfl) rfl T.z_len PySem.boot_len (ah (aa 0 rfl) ao ai)) ag) rfl ?_)
  refine af (nF T.x_NoField rfl T.mx_NoField qV ?_)
  exact rfl
 ·have hpos:0 < pts.length:=List.length_pos_iff.mpr hne
  rw [if_neg hne]
  refine af (dB (aQ dk (aC (cB rfl) rfl T.z_len PySem.boot_len (ah (aa 0 rfl) ao ai)) ag) (by rw [hml]; exact decide_eq_false (by omega)) (az ?_))
  have sl:=ST.srt_len pts
  have hms:(((ST.srt pts).map pu).length:Int)=((ST.srt pts).length:Int):=by rw [List.length_map]
  have szs:=mf sz
  refine Ws.nox ?_
  by_cases h1:(ST.srt pts).length=1
  ·refine af (eC (i:=1) dy.nd rfl (Or.inl rfl) (de rfl (fM hr) rfl T.z_sorted rfl T.z_set (aa 0 rfl) (by omega) ai) ?_)
   refine af (i5 (aQ dk (df 1 rfl rfl T.z_len) ag) (by rw [hms]; exact decide_eq_true (by omega)) ?_)
   refine af (fT 1 rfl ?_)
   show Out.new _=Out.new _
   unfold al
   rw [if_pos h1]
  ·refine af (aE (i:=1) dy.nd rfl (Or.inl rfl) (EvN.ev (de rfl (fM hr) rfl T.z_sorted rfl T.z_set (aa 0 rfl) (by omega) ai)) ?_)
   refine af (dB (aQ dk (aC (cB rfl) rfl T.z_len PySem.boot_len (ah (aa 1 rfl) ao ai)) ag) (by rw [hms]; exact decide_eq_false (by omega)) (az ?_))
   have b1:=eG (ST.srt pts)
   have b2:=eG (ST.srt pts).reverse
   rw [List.length_reverse] at b2
   refine af (aE (i:=2) dy.nd rfl (Or.inl rfl) (EvN.ev (cr ((dY T).mono (by decide)) hr rfl T.m_left_bends T.F_left_bends.kp T.b_left_bends aX (ah (aa 1 rfl) ao ai) ⟨ST.srt pts,rfl,szs,by omega,rfl⟩)) ?_)
   refine af (aE (i:=3) dy.nd rfl (Or.inl rfl) (EvN.ev (cr ((dY T).mono (by decide)) hr rfl T.m_left_bends T.F_left_bends.kp T.b_left_bends aX (ah (EvN.ev (qX (aa 1 rfl) (dZ ag) (.inl rfl))) ao d9) ⟨(ST.srt pts).reverse,by rw [lp,List.map_reverse],fun p hp=> szs p (List.mem_reverse.mp hp),by rw [List.length_reverse]; omega,rfl⟩)) ?_)
   refine af (gU (cm (EvN.ev (aI (aa 2 rfl) bg (aV (dZ ag)) (.inl rfl))) (EvN.ev (aI (aa 3 rfl) bg (aV (dZ ag)) (.inl rfl))) (by rw [dH,dH,List.length_map,List.length_map,List.length_dropLast,List.length_dropLast,List.length_reverse,List.length_reverse]; exact Nat.le_of_lt (am (by omega)))) ?_)
   show Out.new _=Out.new _
   unfold al
   rw [if_neg h1,dH,dH,← List.map_append]
end
section
variable {P:Program} {w:World} {K:PySem.W.Frag} {mg:Str→Option Value} {base:Heap}
def kq:List U→Out→Prop:=fun us o=> ∃ P Q R:P2,us=[pu P,pu Q,pu R]∧Szp 5000 P∧Szp 5000 Q∧Szp 5000 R∧o=.val (.int (ap P Q R))
set_option maxHeartbeats 8000000 in
theorem h_ (T:Txt K mg):bF P w K mg base (CXF P w) 1 T.a__law_side T.d__law_side ["a","b","p"] (spU K (kq)):=by
 refine ck T.F__law_side g7 (fun us o h=> ?_) (fun cdv A outer s H E O us o hr h=> ?_)
 ·obtain ⟨P,Q,R,rfl,⟨p1,p2⟩,⟨q1,q2⟩,⟨r1,r2⟩,rfl⟩:=h
  rfl
 obtain ⟨P,Q,R,rfl,⟨p1,p2⟩,⟨q1,q2⟩,⟨r1,r2⟩,rfl⟩:=h
 refine Ws.nox ?_
 refine af (cC (bE (cu (bE (bB (aa 1 rfl) ag rfl rfl) (bB (aa 0 rfl) ag rfl rfl)) (bE (bB (aa 2 rfl) ag rfl rfl) (bB (aa 0 rfl) ag rfl rfl)) (by walk_at "mul")) (cu (bE (bB (aa 1 rfl) ag rfl rfl) (bB (aa 0 rfl) ag rfl rfl)) (bE (bB (aa 2 rfl) ag rfl rfl) (bB (aa 0 rfl) ag rfl rfl)) (by walk_at "mul"))) ?_)
 exact rfl
set_option maxHeartbeats 8000000 in
theorem eF (T:Txt K mg):bF P w K mg base (CXF P w) 2 T.a__law_half T.d__law_half ["points"] (spU K (fE)):=by
 refine ck T.F__law_half db (fun us o h=> ?_) (fun cdv A outer s H E O us o hr h=> ?_)
 ·obtain ⟨row,rfl,sz,hl,rfl⟩:=h
  rfl
 obtain ⟨row,rfl,sz,hl,rfl⟩:=h
 refine Ws.nox ?_
 refine af (eC (i:=1) db.nd rfl (Or.inl rfl) (cH cD) ?_)
 refine af (du (fun st:List P2=> [some (.val (lp row)),some (.own (st.reverse.map pu)),none]) (fun i st=> st=ae (row.take i)) rfl PassesOwn.never (eH (aa 0 rfl) (.inl rfl)) ?h0 ?hs ?hd)
 case h0=> exact ⟨[],rfl,rfl,rfl,trivial⟩
 case hs=>
  rintro H0 i x _ hx rfl
  obtain ⟨P,hP,mP,rfl⟩:=nh hx
  have hi:i < row.length:=aA hP
  have sP:=sz P mP
  refine ⟨_,(dG (i:=2) db.nd rfl (Or.inl rfl)),?_⟩
  have len0:=dL row i
  refine b_ (fun ps=> SubP [some (.val (lp row)),some (.own ((aJ P (ae (row.take i))).reverse.map pu)),some (.val (pu P))] ps) (iB (fun s2:List P2=> [some (.val (lp row)),some (.own (s2.reverse.map pu)),some (.val (pu P))]) (fun m s2=> m=s2.length∧aJ P s2=aJ P (ae (row.take i))∧(∀ p∈s2,p∈row)∧s2.length≤i) PassesOwn.never ?h0 ?hs) ?hj
  case h0=> exact ⟨_,_,⟨rfl,rfl,fun q hq=> cP row i q hq,len0⟩,rfl,rfl,rfl,trivial⟩
  case hs=>
   rintro m s2 ⟨rfl,e2,sub,len2⟩
   match s2,e2,sub,len2 with
   | [],e2,sub,len2=>
    refine ⟨false,?_,fun h=> (nomatch h),fun h ps hps=> e2 ▸ hps⟩
    exact (Tw.t (hV (aQ eX (df 1 rfl rfl T.z_len) ag) rfl))
   | [b],e2,sub,len2=>
    refine ⟨false,?_,fun h=> (nomatch h),fun h ps hps=> e2 ▸ hps⟩
    exact (Tw.t (hV (aQ eX (df 1 rfl rfl T.z_len) ag) rfl))
   | b::a::r,e2,sub,len2=>
    have sa:=sz a (sub a (by simp))
    have sb:=sz b (sub b (by simp))
    have e1:decide ((1:Int) < ((((b::a::r).reverse.map pu).length:Nat):Int))=true:=decide_eq_true (by simp; omega)
    refine ⟨decide ((1:Int) < ((((b::a::r).reverse.map pu).length:Nat):Int)) && decide (ap a b P≤0),?_,fun h=> ?_,fun h ps hps=> ?_⟩
    ·exact (Tw.t (ka (aQ eX (df 1 rfl rfl T.z_len) ag) (fun hz=> (i8 (aQ sG (bD ((h_ T).mono (by decide)) hr rfl T.m__law_side T.F__law_side.kp T.b__law_side aX (ah (gi 1 rfl (dZ ag) (oR b a r)) (ah (gi 1 rfl (dZ ag) (oQ b (a::r))) (ah (aa 2 rfl) ao ai) d9) d9) ⟨a,b,P,rfl,sa,sb,sP,rfl⟩) ag)))))
    ·rw [e1,Bool.true_and] at h
     have hd:=dTb h
     refine af (oU 1 rfl (by simp) (az ?_))
     refine ⟨_,a::r,?_,⟨rfl,?_,fun q hq=> sub q (List.mem_cons_of_mem _ hq),?_⟩,rfl,?_,rfl,trivial⟩
     ·simp
     ·rw [← e2]; conv=> rhs; unfold aJ
      rw [if_pos hd]
     ·simp only [List.length_cons] at *; omega
     ·exact congrArg (fun l=> some (Sl.own l)) (by simp)
    ·rw [e1,Bool.true_and] at h
     have hd:=dFb h
     have e3:aJ P (b::a::r)=b::a::r:=by conv=> lhs; unfold aJ
                                        rw [if_neg hd]
     rw [← e2,e3]
     exact hps
  case hj=>
   intro ps hps
   refine bT ?_ hps
   have e4:=dg hP
   have len3:=fc P (ae (row.take i))
   refine af (bY 1 rfl (aa 2 rfl) (by rw [List.length_map,List.length_reverse]; exact am (by omega)) (az ?_))
   refine ⟨_,rfl,rfl,?_,trivial⟩
   exact congrArg (fun l=> some (Sl.own l)) (by rw [e4]; simp)
 case hd=>
  rintro st ps hst hps
  refine bT ?_ hps
  refine af (fT 1 rfl ?_)
  rw [hst]
  simp
def hG:List U→Out→Prop:=fun us o=> ∃ pts:List P2,us=[lp pts]∧(∀ p∈pts,Szp 5000 p)∧pts.length≤400∧o=.new ((al pts).map pu)
set_option maxHeartbeats 8000000 in
theorem dj (T:Txt K mg):bF P w K mg base (CXF P w) 3 T.a__law_corners T.d__law_corners ["points"] (spU K (hG)):=by
 refine ck T.F__law_corners ca (fun us o h=> ?_) (fun cdv A outer s H E O us o hr h=> ?_)
 ·obtain ⟨pts,rfl,sz,hl,rfl⟩:=h
  rfl
 obtain ⟨pts,rfl,sz,hl,rfl⟩:=h
 refine Ws.nox ?_
 have sl:=ST.srt_len pts
 have hms:(((ST.srt pts).map pu).length:Int)=((ST.srt pts).length:Int):=by rw [List.length_map]
 have szs:=mf sz
 by_cases h1:(ST.srt pts).length < 2
 ·refine af (eC (i:=1) ca.nd rfl (Or.inl rfl) (de rfl (fM hr) rfl T.z_sorted rfl T.z_set (aa 0 rfl) (by omega) ai) ?_)
  refine af (i5 (aQ mU (df 1 rfl rfl T.z_len) ag) (by rw [hms]; exact decide_eq_true (by omega)) ?_)
  refine af (fT 1 rfl ?_)
  show Out.new _=Out.new _
  unfold al
  by_cases h0:(ST.srt pts).length=1
  ·rw [if_pos h0]
  ·have e:ST.srt pts=[]:=List.length_eq_zero_iff.mp (by omega)
   rw [if_neg h0,e]; rfl
 ·refine af (aE (i:=1) ca.nd rfl (Or.inl rfl) (EvN.ev (de rfl (fM hr) rfl T.z_sorted rfl T.z_set (aa 0 rfl) (by omega) ai)) ?_)
  refine af (dB (aQ mU (aC (cB rfl) rfl T.z_len PySem.boot_len (ah (aa 1 rfl) ao ai)) ag) (by rw [hms]; exact decide_eq_false (by omega)) (az ?_))
  have b1:=eG (ST.srt pts)
  have b2:=eG (ST.srt pts).reverse
  rw [List.length_reverse] at b2
  refine af (gU (cm (EvN.ev (aI (EvN.ev (cr ((eF T).mono (by decide)) hr rfl T.m__law_half T.F__law_half.kp T.b__law_half aX (ah (aa 1 rfl) ao ai) ⟨ST.srt pts,rfl,szs,by omega,rfl⟩)) bg (aV (dZ ag)) (.inl rfl))) (EvN.ev (aI (EvN.ev (cr ((eF T).mono (by decide)) hr rfl T.m__law_half T.F__law_half.kp T.b__law_half aX (ah (EvN.ev (dN rfl rfl T.z_list rfl T.z_reversed (aa 1 rfl) ai)) ao cM) ⟨(ST.srt pts).reverse,by rw [lp,List.map_reverse],fun p hp=> szs p (List.mem_reverse.mp hp),by rw [List.length_reverse]; omega,rfl⟩)) bg (aV (dZ ag)) (.inl rfl))) (by rw [dH,dH,List.length_map,List.length_map,List.length_dropLast,List.length_dropLast,List.length_reverse,List.length_reverse]; exact Nat.le_of_lt (am (by omega)))) ?_)
  show Out.new _=Out.new _
  unfold al
  rw [if_neg (by omega),dH,dH,← List.map_append]
end
section
variable {P:Program} {w:World} {K:PySem.W.Frag} {mg:Str→Option Value} {base:Heap}
theorem dh {l m:List Pt} (h:ST.srt l=ST.srt m):al l=al m:=by unfold al; rw [h]
theorem dM {l m:List Pt} (h:∀ z,z∈l↔z∈m):ST.srt l=ST.srt m:=ST.asc_one (ST.srt_asc l) (ST.srt_asc m) fun z=> by rw [ST.srt_mem,ST.srt_mem]; exact h z
theorem eo {pts:List Pt} (h:¬ 2≤(ST.srt pts).length):al pts=ST.srt pts:=by
 unfold al
 split
 ·rfl
 ·have e:ST.srt pts=[]:=List.length_eq_zero_iff.mp (by omega)
  rw [e]; rfl
section
variable {f:Pt→Pt}
end
def wth (a b:Int) (p:Pt):Int:=a * p.1+b * p.2
theorem qe {a b:Int} {u p v:Pt} (hb:b≤0) (h1:plt u p) (h2:plt p v) (h:ap u p v≤0):wth a b p≤wth a b u∨wth a b p≤wth a b v:=by
 rcases Int.lt_or_le (wth a b u) (wth a b p) with c1 | c1
 ·rcases Int.lt_or_le (wth a b v) (wth a b p) with c2 | c2
  ·exfalso
   have e:(v.1 - p.1) * (wth a b p - wth a b u)+(p.1 - u.1) * (wth a b p - wth a b v)=-((-b) * (-(ap u p v))):=by unfold wth ap; grind
   have n1:0≤(-b) * (-(ap u p v)):=Int.mul_nonneg (by omega) (by omega)
   have d1:0≤p.1 - u.1:=by unfold plt at h1; omega
   have d2:0≤v.1 - p.1:=by unfold plt at h2; omega
   have m1:0≤(v.1 - p.1) * (wth a b p - wth a b u):=Int.mul_nonneg d2 (by omega)
   have m2:0≤(p.1 - u.1) * (wth a b p - wth a b v):=Int.mul_nonneg d1 (by omega)
   rcases Int.lt_or_le 0 (p.1 - u.1) with d | d
   ·have:=Int.mul_pos d (show 0 < wth a b p - wth a b v by omega)
    omega
   ·have ex:u.1=p.1:=by omega
    have ey:u.2 < p.2:=by unfold plt at h1; omega
    have:0≤(-b) * (p.2 - u.2):=Int.mul_nonneg (by omega) (by omega)
    have e2:wth a b p - wth a b u=-((-b) * (p.2 - u.2)):=by unfold wth; rw [ex]; grind
    omega
  ·exact .inr c2
 ·exact .inl c1
theorem kj {row:List Pt} (hs:row.Pairwise plt) {a b:Int} (hb:b≤0) {p:Pt} (hp:p∈row):∃ c∈ae row,wth a b p≤wth a b c:=by
 by_cases h:p∈ae row
 ·exact ⟨p,h,Int.le_refl _⟩
 ·obtain ⟨u,hu,v,hv,k1,k2,k3⟩:=gap hs hp h
  rcases qe (a:=a) hb k1 k2 k3 with e | e
  ·exact ⟨u,hu,e⟩
  ·exact ⟨v,hv,e⟩
theorem pC (a b:Int) (p:Pt):wth (-a) (-b) (ng p)=wth a b p:=by unfold wth ng; grind
theorem n8 (a b:Int) (p:Pt):wth a b (ng p)=wth (-a) (-b) p:=by unfold wth ng; grind
theorem nv {row:List Pt} (hs:row.Pairwise plt) {a b:Int} (hb:0≤b) {p:Pt} (hp:p∈row):∃ c∈ae row.reverse,wth a b p≤wth a b c:=by
 obtain ⟨c,hc,k⟩:=kj (bQ hs) (a:=-a) (b:=-b) (by omega) (p:=ng p) (List.mem_map.mpr ⟨p,List.mem_reverse.mpr hp,rfl⟩)
 refine ⟨ng c,by rw [aY]; exact List.mem_map.mpr ⟨c,hc,rfl⟩,?_⟩
 rw [pC] at k
 rw [n8]
 exact k
theorem nu {pts:List Pt} (a b:Int) {p:Pt} (hp:p∈pts):∃ c∈al pts,wth a b p≤wth a b c:=by
 have hp':p∈ST.srt pts:=(ST.srt_mem p pts).mpr hp
 by_cases h2:2≤(ST.srt pts).length
 ·have hs:=cF pts
  obtain ⟨mn,mx,t1,t2,e1,e2,m1,m2,_⟩:=mh hs h2
  have big:=dE h2
  rw [e1,e2] at big
  rcases Int.le_total b 0 with hb | hb
  ·obtain ⟨c,hc,k⟩:=kj hs (a:=a) hb hp'
   refine ⟨c,?_,k⟩
   rw [big]
   rw [e1] at hc
   rcases List.mem_cons.mp hc with rfl | hc
   ·exact List.mem_append_right _ (List.mem_reverse.mpr m2)
   ·exact List.mem_append_left _ (List.mem_reverse.mpr hc)
  ·obtain ⟨c,hc,k⟩:=nv hs (a:=a) hb hp'
   refine ⟨c,?_,k⟩
   rw [big]
   rw [e2] at hc
   rcases List.mem_cons.mp hc with rfl | hc
   ·exact List.mem_append_left _ (List.mem_reverse.mpr m1)
   ·exact List.mem_append_right _ (List.mem_reverse.mpr hc)
 ·exact ⟨p,by rw [eo h2]; exact hp',Int.le_refl _⟩
abbrev gp (l:List P2) (i:Nat):P2:=l.getD i (0,0)
def nxt (l:List P2) (i:Nat):P2:=gp l ((i+1) % l.length)
def sdl (l:List P2):List (P2×P2):=(List.range l.length).map fun i=> (gp l i,nxt l i)
theorem iq {l:List P2} {i:Nat} (h:i < l.length):l[i]?=some (gp l i):=by simp [gp,h]
theorem aR {l:List P2} {i:Nat} (h:i < l.length):gp l i∈l:=List.mem_of_getElem? (iq h)
theorem iE {done:List Pt}:∀ {st:List Pt},dX done st→∀ (k:Nat) {a b:Pt},st[k]?=some b→st[k+1]?=some a→∀ q∈done,0≤ap a b q
 | [],_,k,_,_,h,_=> by simp at h
 | [_],_,k,_,_,_,h=> by simp at h
 | x::y::r,C,0,a,b,h1,h2=> by
  simp at h1 h2
  subst h1; subst h2
  exact C.1
 | x::y::r,C,k+1,a,b,h1,h2=> iE C.2 k (by simpa using h1) (by simpa using h2)
theorem iF:∀ {st:List Pt},eU st→∀ (k:Nat) {a b c:Pt},st[k]?=some c→st[k+1]?=some b→st[k+2]?=some a→0 < ap a b c
 | [],_,k,_,_,_,h,_,_=> by simp at h
 | [_],_,k,_,_,_,_,h,_=> by simp at h
 | [_,_],_,k,_,_,_,_,_,h=> by simp at h
 | x::y::z::r,C,0,a,b,c,h1,h2,h3=> by
  simp at h1 h2 h3
  subst h1; subst h2; subst h3
  exact C.1
 | x::y::z::r,C,k+1,a,b,c,h1,h2,h3=> iF C.2 k (by simpa using h1) (by simpa using h2) (by simpa using h3)
theorem mW {st:List Pt} {i:Nat} {a b:Pt} (h1:st.reverse[i]?=some a) (h2:st.reverse[i+1]?=some b):∃ k,st[k]?=some b∧st[k+1]?=some a:=by
 have l2:i+1 < st.length:=by have:=(List.getElem?_eq_some_iff.mp h2).1; simpa using this
 rw [List.getElem?_reverse (by omega)] at h1
 rw [List.getElem?_reverse l2] at h2
 exact ⟨st.length - 1 - (i+1),h2,by rw [← h1]; congr 1; omega⟩
theorem kA {st:List Pt} {i:Nat} {a b c:Pt} (h1:st.reverse[i]?=some a) (h2:st.reverse[i+1]?=some b) (h3:st.reverse[i+2]?=some c):∃ k,st[k]?=some c∧st[k+1]?=some b∧st[k+2]?=some a:=by
 have l3:i+2 < st.length:=by have:=(List.getElem?_eq_some_iff.mp h3).1; simpa using this
 rw [List.getElem?_reverse (by omega)] at h1
 rw [List.getElem?_reverse (by omega)] at h2
 rw [List.getElem?_reverse l3] at h3
 exact ⟨st.length - 1 - (i+2),h3,by rw [← h2]; congr 1; omega,by rw [← h1]; congr 1; omega⟩
theorem dD {row:List Pt} (hs:row.Pairwise plt) (h:row≠[]) {i:Nat} {a b:Pt} (h1:(ae row).reverse[i]?=some a) (h2:(ae row).reverse[i+1]?=some b):∀ q∈row,0≤ap a b q:=by
 obtain ⟨k,e1,e2⟩:=mW h1 h2
 exact iE (bu hs h).1.cover k e1 e2
theorem d_ {row:List Pt} (hs:row.Pairwise plt) (h:row≠[]) {i:Nat} {a b c:Pt} (h1:(ae row).reverse[i]?=some a) (h2:(ae row).reverse[i+1]?=some b) (h3:(ae row).reverse[i+2]?=some c):0 < ap a b c:=by
 obtain ⟨k,e1,e2,e3⟩:=kA h1 h2 h3
 exact iF (bu hs h).1.turns k e1 e2 e3
theorem cX {row:List Pt} {i:Nat} {a:Pt} (h1:(ae row.reverse).reverse[i]?=some a):(ae (row.reverse.map ng)).reverse[i]?=some (ng a):=by
 rw [aY,← List.map_reverse,List.getElem?_map] at h1
 cases e:(ae (row.reverse.map ng)).reverse[i]? with
 | none=> rw [e] at h1; cases h1
 | some z=> rw [e] at h1; cases h1; rw [dW]
theorem fU {row:List Pt} (hs:row.Pairwise plt) (h:row≠[]) {i:Nat} {a b:Pt} (h1:(ae row.reverse).reverse[i]?=some a) (h2:(ae row.reverse).reverse[i+1]?=some b):∀ q∈row,0≤ap a b q:=fun q hq=> by
 have:=dD (bQ hs) (by simpa using h) (cX h1) (cX h2) (ng q) (List.mem_map_of_mem (List.mem_reverse.mpr hq))
 rwa [fv] at this
theorem gA {row:List Pt} (hs:row.Pairwise plt) (h:row≠[]) {i:Nat} {a b c:Pt} (h1:(ae row.reverse).reverse[i]?=some a) (h2:(ae row.reverse).reverse[i+1]?=some b) (h3:(ae row.reverse).reverse[i+2]?=some c):0 < ap a b c:=by
 have:=d_ (bQ hs) (by simpa using h) (cX h1) (cX h2) (cX h3)
 rwa [fv] at this
theorem nw {u1 u2 v1 v2 w1 w2:Int} (hu:dS u1 u2) (hv:dS v1 v2) (h0:u1 * v2 - u2 * v1=0) (h1:u1 * w2 - u2 * w1≤0) (h2:0≤v1 * w2 - v2 * w1):u1 * w2 - u2 * w1=0∧v1 * w2 - v2 * w1=0:=by
 have e1:v1 * (u1 * w2 - u2 * w1)=u1 * (v1 * w2 - v2 * w1):=by grind
 have e2:v2 * (u1 * w2 - u2 * w1)=u2 * (v1 * w2 - v2 * w1):=by grind
 have fin:∀ {s t A B:Int},0 < s→0 < t→s * A=t * B→A≤0→0≤B→A=0∧B=0:=fun {s t A B} hs ht e ha hb=> by
  have k1:s * A≤0:=Int.mul_nonpos_of_nonneg_of_nonpos (by omega) ha
  have k2:0≤t * B:=Int.mul_nonneg (by omega) hb
  have z1:s * A=0:=by omega
  have z2:t * B=0:=by omega
  refine ⟨(Int.mul_eq_zero.mp z1).resolve_left (by omega),(Int.mul_eq_zero.mp z2).resolve_left (by omega)⟩
 rcases hu with hu | ⟨hu,hu2⟩
 ·rcases hv with hv | ⟨hv,hv2⟩
  ·exact fin hv hu e1 h1 h2
  ·rw [hv] at h0
   have:=Int.mul_pos hu hv2
   omega
 ·rcases hv with hv | ⟨hv,hv2⟩
  ·rw [hu] at h0
   have:=Int.mul_pos hu2 hv
   omega
  ·exact fin hv2 hu2 e2 h1 h2
theorem kM {a m c:Pt} (ha:plt a m) (hc:plt c m) (h:ap a m c=0) {q:Pt} (h1:0≤ap a m q) (h2:0≤ap m c q):ap a m q=0∧ap m c q=0:=by
 have k:=nw (w1:=m.1 - q.1) (w2:=m.2 - q.2) (aF ha) (aF hc) (by unfold ap at h; grind) (by unfold ap at h1; grind) (by unfold ap at h2; grind)
 unfold ap
 exact ⟨by grind,by grind⟩
theorem oH (a b c:Pt):ap a b c=ap b c a:=by unfold ap; grind
theorem rf {row:List Pt} (hs:row.Pairwise plt) (hne:row≠[]) {i:Nat} {a m c:Pt} (h1:(ae row).reverse[i]?=some a) (h2:(ae row).reverse[i+1]?=some m) (hl:(ae row).length=i+2)
  (h3:(ae row.reverse).reverse[0]?=some m) (h4:(ae row.reverse).reverse[1]?=some c) (ha:plt a m) (hc:plt c m) (big:2 < (ae row).length∨2 < (ae row.reverse).length):0 < ap a m c:=by
 have mem:∀ {j:Nat} {p:Pt},(ae row).reverse[j]?=some p→p∈row:=fun h=> aU row _ (List.mem_reverse.mp (List.mem_of_getElem? h))
 have memR:∀ {j:Nat} {p:Pt},(ae row.reverse).reverse[j]?=some p→p∈row:=fun h=> List.mem_reverse.mp (aU _ _ (List.mem_reverse.mp (List.mem_of_getElem? h)))
 have cv:=dD hs hne h1 h2
 have cb:=fU hs hne h3 h4
 have h0:=cv c (memR h4)
 rcases Int.lt_or_eq_of_le h0 with z | z
 ·exact z
 ·exfalso
  have flat:∀ q∈row,ap a m q=0∧ap m c q=0:=fun q hq=> kM ha hc z.symm (cv q hq) (cb q hq)
  rcases big with b | b
  ·have hi:0 < i:=by omega
   have hx:i - 1 < (ae row).reverse.length:=by simp; omega
   have e:=List.getElem?_eq_getElem hx
   have t:=d_ hs hne e (by rw [Nat.sub_add_cancel hi]; exact h1) (by rw [show i - 1+2=i+1 by omega]; exact h2)
   rw [oH,(flat _ (mem e)).1] at t
   omega
  ·have hx:2 < (ae row.reverse).reverse.length:=by simpa using b
   have e:=List.getElem?_eq_getElem hx
   have t:=gA hs hne h3 h4 e
   rw [(flat _ (memR e)).2] at t
   omega
structure qj (row T B:List Pt) (mn mx:Pt):Prop where
 t0:T[0]?=some mn
 t1:T[T.length - 1]?=some mx
 b0:B[0]?=some mx
 b1:B[B.length - 1]?=some mn
 lt:2≤T.length
 lb:2≤B.length
 least:∀ p∈row,p=mn∨plt mn p
 most:∀ p∈row,p=mx∨plt p mx
theorem oW {l:List Pt}:l.reverse[0]?=l.getLast?:=by rw [List.getLast?_eq_head?_reverse,List.head?_eq_getElem?]
theorem oZ {l:List Pt}:l.reverse[l.reverse.length - 1]?=l.head?:=by rw [← List.getLast?_eq_getElem?,List.getLast?_reverse]
theorem qY {row:List Pt} (hs:row.Pairwise plt) (h2:2≤row.length):∃ mn mx,qj row (ae row).reverse (ae row.reverse).reverse mn mx:=by
 have hne:row≠[]:=fun z=> by rw [z] at h2; simp at h2
 obtain ⟨mn,mx,t1,t2,e1,e2,m1,m2,least,most,_,_⟩:=mh hs h2
 obtain ⟨K,hl,hh⟩:=bu hs hne
 obtain ⟨KR,hlR,hhR⟩:=bu (bQ hs) (by simpa using hne)
 have l1:2≤(ae row).length:=by rw [e1]; have:=List.length_pos_of_mem m1; simp; omega
 have l2:2≤(ae row.reverse).length:=by rw [e2]; have:=List.length_pos_of_mem m2; simp; omega
 have hd:row.head?=some row[0]:=by rw [List.head?_eq_getElem?]; exact List.getElem?_eq_getElem (by omega)
 have ld:row.getLast?=some row[row.length - 1]:=by rw [List.getLast?_eq_getElem?]; exact List.getElem?_eq_getElem (by omega)
 have q1:row[0]=mn:=by
  have hb:=hhR
  rw [List.getLast?_map,List.getLast?_reverse,hd] at hb
  have:(ae row.reverse).head?=some row[0]:=by rw [aY,List.head?_map,hb]; simp [dW]
  rw [e2] at this
  exact (Option.some.inj this).symm
 have q2:row[row.length - 1]=mx:=by
  rw [ld,e1] at hh
  exact (Option.some.inj hh).symm
 refine ⟨mn,mx,?_,?_,?_,?_,by simpa using l1,by simpa using l2,least,most⟩
 ·rw [oW,hl,hd,q1]
 ·rw [oZ,hh,ld,q2]
 ·rw [oW,aY,List.getLast?_map,hlR,List.head?_map,List.head?_reverse,ld,q2]; simp [dW]
 ·rw [oZ,e2]; rfl
section
variable {row T B:List Pt} {mn mx:Pt}
theorem cn (W:qj row T B mn mx) {k:Nat} (hk:k≤T.length - 1):(T.dropLast++B.dropLast)[k % (T.dropLast++B.dropLast).length]?=T[k]?:=by
 have h1:=W.lt
 have h2:=W.lb
 have hn:(T.dropLast++B.dropLast).length=T.length - 1+(B.length - 1):=by simp
 rw [hn,Nat.mod_eq_of_lt (by omega)]
 by_cases h:k < T.length - 1
 ·rw [List.getElem?_append_left (by simpa using h),List.getElem?_dropLast,if_pos h]
 ·obtain rfl:k=T.length - 1:=by omega
  rw [List.getElem?_append_right (by simp),List.length_dropLast,Nat.sub_self,List.getElem?_dropLast,if_pos (by omega),W.b0,W.t1]
theorem fi (W:qj row T B mn mx) {k:Nat} (h0:T.length - 1≤k) (hk:k≤T.length - 1+(B.length - 1)):(T.dropLast++B.dropLast)[k % (T.dropLast++B.dropLast).length]?=B[k - (T.length - 1)]?:=by
 have h1:=W.lt
 have h2:=W.lb
 have hn:(T.dropLast++B.dropLast).length=T.length - 1+(B.length - 1):=by simp
 by_cases h:k < T.length - 1+(B.length - 1)
 ·rw [hn,Nat.mod_eq_of_lt h,List.getElem?_append_right (by simpa using h0),List.length_dropLast,List.getElem?_dropLast,if_pos (by omega)]
 ·obtain rfl:k=T.length - 1+(B.length - 1):=by omega
  have:=cn W (k:=0) (by omega)
  rw [Nat.zero_mod] at this
  rw [hn,Nat.mod_self,this,W.t0,show T.length - 1+(B.length - 1) - (T.length - 1)=B.length - 1 by omega,W.b1]
end
theorem cE {l:List Pt} {i:Nat} (h:i < l.length):∃ a,l[i]?=some a:=⟨_,List.getElem?_eq_getElem h⟩
theorem fG {pts:List Pt} (h2:2≤(ST.srt pts).length) {i:Nat} (hi:i < (al pts).length):∃ a b,(al pts)[i]?=some a∧(al pts)[(i+1) % (al pts).length]?=some b∧(∀ p∈pts,0≤ap a b p)∧(2 < (al pts).length→∃ c,(al pts)[(i+2) % (al pts).length]?=some c∧0 < ap a b c):=by
 have hs:=cF pts
 have hne:ST.srt pts≠[]:=fun z=> by rw [z] at h2; simp at h2
 obtain ⟨mn,mx,W⟩:=qY hs h2
 have hmem:∀ p∈pts,p∈ST.srt pts:=fun p hp=> (ST.srt_mem p pts).mpr hp
 have hc:al pts=(ae (ST.srt pts)).reverse.dropLast++(ae (ST.srt pts).reverse).reverse.dropLast:=by
  unfold al; rw [if_neg (by omega)]
 have tc:∀ {j:Nat} {a b:Pt},(ae (ST.srt pts)).reverse[j]?=some a→(ae (ST.srt pts)).reverse[j+1]?=some b→∀ q∈ST.srt pts,0≤ap a b q:=fun h h'=> dD hs hne h h'
 have tt:∀ {j:Nat} {a b c:Pt},(ae (ST.srt pts)).reverse[j]?=some a→(ae (ST.srt pts)).reverse[j+1]?=some b→(ae (ST.srt pts)).reverse[j+2]?=some c→0 < ap a b c:=fun h h' h''=> d_ hs hne h h' h''
 have bc:∀ {j:Nat} {a b:Pt},(ae (ST.srt pts).reverse).reverse[j]?=some a→(ae (ST.srt pts).reverse).reverse[j+1]?=some b→∀ q∈ST.srt pts,0≤ap a b q:=fun h h'=> fU hs hne h h'
 have bt:∀ {j:Nat} {a b c:Pt},(ae (ST.srt pts).reverse).reverse[j]?=some a→(ae (ST.srt pts).reverse).reverse[j+1]?=some b→(ae (ST.srt pts).reverse).reverse[j+2]?=some c→0 < ap a b c:=fun h h' h''=> gA hs hne h h' h''
 have memT:∀ {j:Nat} {p:Pt},(ae (ST.srt pts)).reverse[j]?=some p→p∈ST.srt pts:=fun h=> aU _ _ (List.mem_reverse.mp (List.mem_of_getElem? h))
 have memB:∀ {j:Nat} {p:Pt},(ae (ST.srt pts).reverse).reverse[j]?=some p→p∈ST.srt pts:=fun h=> List.mem_reverse.mp (aU _ _ (List.mem_reverse.mp (List.mem_of_getElem? h)))
 have ndT:(ae (ST.srt pts)).reverse.Nodup:=(cj hs).imp fun {a b} h e=> by subst e; exact aK _ ((g_ _ _).mpr h)
 have ndB:(ae (ST.srt pts).reverse).reverse.Nodup:=by
  rw [aY,← List.map_reverse]
  have ndR:(ae ((ST.srt pts).reverse.map ng)).reverse.Nodup:=(cj (bQ hs)).imp fun {a b} h e=> by subst e; exact aK _ ((g_ _ _).mpr h)
  exact List.Pairwise.map _ (fun a b (h:a≠b) e=> h (by have:=congrArg ng e; rwa [dW,dW] at this)) ndR
 have m1:∀ {j:Nat} {a m c:Pt},(ae (ST.srt pts)).reverse[j]?=some a→(ae (ST.srt pts)).reverse[j+1]?=some m→(ae (ST.srt pts)).length=j+2→(ae (ST.srt pts).reverse).reverse[0]?=some m→(ae (ST.srt pts).reverse).reverse[1]?=some c→plt a m→plt c m→2 < (ae (ST.srt pts)).length∨2 < (ae (ST.srt pts).reverse).length→0 < ap a m c:=fun a1 a2 a3 a4 a5 a6 a7 a8=> rf hs hne a1 a2 a3 a4 a5 a6 a7 a8
 have m2:∀ {j:Nat} {a m c:Pt},(ae (ST.srt pts).reverse).reverse[j]?=some a→(ae (ST.srt pts).reverse).reverse[j+1]?=some m→(ae (ST.srt pts).reverse).length=j+2→(ae (ST.srt pts)).reverse[0]?=some m→(ae (ST.srt pts)).reverse[1]?=some c→plt m a→plt m c→2 < (ae (ST.srt pts)).length∨2 < (ae (ST.srt pts).reverse).length→0 < ap a m c:=fun {j a m c} a1 a2 a3 a4 a5 a6 a7 a8=> by
  have er:((ST.srt pts).reverse.map ng).reverse=(ST.srt pts).map ng:=by rw [← List.map_reverse,List.reverse_reverse]
  have fw:∀ {k:Nat} {p:Pt},(ae (ST.srt pts)).reverse[k]?=some p→(ae ((ST.srt pts).reverse.map ng).reverse).reverse[k]?=some (ng p):=fun {k p} h=> by
   rw [er,dF,← List.map_reverse,List.getElem?_map,h]; rfl
  have lb:(ae ((ST.srt pts).reverse.map ng)).length=(ae (ST.srt pts).reverse).length:=by rw [aY,List.length_map]
  have lt:(ae ((ST.srt pts).reverse.map ng).reverse).length=(ae (ST.srt pts)).length:=by rw [er,dF,List.length_map]
  have:=rf (bQ hs) (by simpa using hne) (cX a1) (cX a2) (by rw [lb]; exact a3) (fw a4) (fw a5) (fI a6) (fI a7) (by rw [lb,lt]; exact a8.symm)
  rwa [fv] at this
 rw [hc] at hi ⊢
 have lT:(ae (ST.srt pts)).reverse.length=(ae (ST.srt pts)).length:=List.length_reverse
 have lB:(ae (ST.srt pts).reverse).reverse.length=(ae (ST.srt pts).reverse).length:=List.length_reverse
 generalize (ae (ST.srt pts)).reverse=T at *
 generalize (ae (ST.srt pts).reverse).reverse=B at *
 have h1:=W.lt
 have h3:=W.lb
 have hn:(T.dropLast++B.dropLast).length=T.length - 1+(B.length - 1):=by simp
 have own:∀ k,k < (T.dropLast++B.dropLast).length→(T.dropLast++B.dropLast)[k]?=(T.dropLast++B.dropLast)[k % (T.dropLast++B.dropLast).length]?:=fun k hk=> by rw [Nat.mod_eq_of_lt hk]
 have tne:∀ {j k:Nat} {p q:Pt},T[j]?=some p→T[k]?=some q→j≠k→p≠q:=fun {j k p q} a1 a2 a3 e=> a3 ((List.getElem?_inj (aA a1) ndT).mp (by rw [a1,a2,e]))
 have bne:∀ {j k:Nat} {p q:Pt},B[j]?=some p→B[k]?=some q→j≠k→p≠q:=fun {j k p q} a1 a2 a3 e=> a3 ((List.getElem?_inj (aA a1) ndB).mp (by rw [a1,a2,e]))
 by_cases c1:i < T.length - 1
 ·obtain ⟨a,ea⟩:=cE (l:=T) (i:=i) (by omega)
  obtain ⟨b,eb⟩:=cE (l:=T) (i:=i+1) (by omega)
  refine ⟨a,b,by rw [own i hi,cn W (by omega)]; exact ea,by rw [cn W (by omega)]; exact eb,fun p hp=> tc ea eb p (hmem p hp),fun big=> ?_⟩
  by_cases c2:i+2≤T.length - 1
  ·obtain ⟨c,ec⟩:=cE (l:=T) (i:=i+2) (by omega)
   exact ⟨c,by rw [cn W c2]; exact ec,tt ea eb ec⟩
  ·have e:i+1=T.length - 1:=by omega
   obtain ⟨c,ec⟩:=cE (l:=B) (i:=1) (by omega)
   have emx:b=mx:=by have:=W.t1; rw [← e,eb] at this; exact Option.some.inj this
   subst emx
   refine ⟨c,by rw [fi W (by omega) (by omega),show i+2 - (T.length - 1)=1 by omega]; exact ec,m1 ea eb (by omega) W.b0 ec ?_ ?_ (by omega)⟩
   ·exact (W.most a (memT ea)).resolve_left (tne ea eb (by omega))
   ·exact (W.most c (memB ec)).resolve_left (bne ec W.b0 (by omega))
 ·obtain ⟨a,ea⟩:=cE (l:=B) (i:=i - (T.length - 1)) (by omega)
  obtain ⟨b,eb⟩:=cE (l:=B) (i:=i - (T.length - 1)+1) (by omega)
  refine ⟨a,b,by rw [own i hi,fi W (by omega) (by omega)]; exact ea,by rw [fi W (by omega) (by omega),show i+1 - (T.length - 1)=i - (T.length - 1)+1 by omega]; exact eb,fun p hp=> bc ea eb p (hmem p hp),fun big=> ?_⟩
  by_cases c2:i+2≤T.length - 1+(B.length - 1)
  ·obtain ⟨c,ec⟩:=cE (l:=B) (i:=i - (T.length - 1)+2) (by omega)
   exact ⟨c,by rw [fi W (by omega) c2,show i+2 - (T.length - 1)=i - (T.length - 1)+2 by omega]; exact ec,bt ea eb ec⟩
  ·have e:i - (T.length - 1)+1=B.length - 1:=by omega
   obtain ⟨c,ec⟩:=cE (l:=T) (i:=1) (by omega)
   have emn:b=mn:=by have:=W.b1; rw [← e,eb] at this; exact Option.some.inj this
   subst emn
   refine ⟨c,?_,m2 ea eb (by omega) W.t0 ec ?_ ?_ (by omega)⟩
   ·have:=cn W (k:=1) (by omega)
    rw [show (i+2) % (T.dropLast++B.dropLast).length=1 % (T.dropLast++B.dropLast).length by rw [hn,show i+2=1+(T.length - 1+(B.length - 1)) by omega,Nat.add_mod_right],this]
    exact ec
   ·exact (W.least a (memB ea)).resolve_left (bne ea eb (by omega))
   ·exact (W.least c (memT ec)).resolve_left (tne ec W.t0 (by omega))
theorem gD {l:List P2} (h3:3≤(al l).length):2≤(ST.srt l).length:=by
 rcases Nat.lt_or_ge (ST.srt l).length 2 with h | h
 ·rw [eo (by omega)] at h3; omega
 ·exact h
theorem o0 {l:List P2} {i:Nat} (h:i < l.length):(gp l i,gp l ((i+1) % l.length))∈sdl l:=List.mem_map.mpr ⟨i,List.mem_range.mpr h,rfl⟩
theorem fo {l:List P2} {i:Nat} {a:P2} (h:l[i]?=some a):gp l i=a:=by simp [gp,h]
theorem mQ {n i:Nat}:((i+1) % n+1) % n=(i+2) % n:=by rw [Nat.mod_add_mod]
theorem iX {l:List P2} (h3:3≤(al l).length) {s:P2×P2} (hs:s∈sdl (al l)):∀ q∈l,0≤ap s.1 s.2 q:=by
 obtain ⟨i,hi,rfl⟩:=List.mem_map.mp hs
 obtain ⟨a,b,e1,e2,cov,_⟩:=fG (gD h3) (List.mem_range.mp hi)
 show ∀ q∈l,0≤ap (gp (al l) i) (gp (al l) ((i+1) % (al l).length)) q
 rw [fo e1,fo e2]; exact cov
theorem ot {l:List P2} (h3:3≤(al l).length) {A B:P2} (hs:(A,B)∈sdl (al l)):∃ C,(B,C)∈sdl (al l)∧0 < ap A B C:=by
 obtain ⟨i,hi,e⟩:=List.mem_map.mp hs
 have hi':=List.mem_range.mp hi
 obtain ⟨a,b,e1,e2,_,tu⟩:=fG (gD h3) hi'
 obtain ⟨c,e3,pos⟩:=tu (by omega)
 have ea:A=a:=by rw [← fo e1]; exact (congrArg Prod.fst e).symm
 have eb:B=b:=by rw [← fo e2]; exact (congrArg Prod.snd e).symm
 refine ⟨c,?_,by rw [ea,eb]; exact pos⟩
 have:=o0 (l:=al l) (i:=(i+1) % (al l).length) (Nat.mod_lt _ (by omega))
 rw [mQ,fo e2,fo e3] at this
 rw [eb]; exact this
theorem rq {l:List P2} {A:P2} (h:A∈l):∃ Z,(Z,A)∈sdl l:=by
 obtain ⟨i,hi⟩:=List.mem_iff_getElem?.mp h
 have hi':=(List.getElem?_eq_some_iff.mp hi).1
 have hj:(i+l.length - 1) % l.length < l.length:=Nat.mod_lt _ (by omega)
 have:=o0 hj
 have e:((i+l.length - 1) % l.length+1) % l.length=i:=by
  rw [Nat.mod_add_mod,show i+l.length - 1+1=i+l.length by omega,Nat.add_mod_right,Nat.mod_eq_of_lt hi']
 rw [e,fo hi] at this
 exact ⟨_,this⟩
theorem p5 {u1 u2 v1 v2 w1 w2:Int} (hd:0 < u1 * v2 - u2 * v1) (h1:u1 * w2 - u2 * w1=0) (h2:v1 * w2 - v2 * w1=0):w1=0∧w2=0:=by
 have e1:(u1 * v2 - u2 * v1) * w1=0:=by
  have:(u1 * v2 - u2 * v1) * w1=v1 * (u1 * w2 - u2 * w1) - u1 * (v1 * w2 - v2 * w1):=by grind
  rw [this,h1,h2]; simp
 have e2:(u1 * v2 - u2 * v1) * w2=0:=by
  have:(u1 * v2 - u2 * v1) * w2=v2 * (u1 * w2 - u2 * w1) - u2 * (v1 * w2 - v2 * w1):=by grind
  rw [this,h1,h2]; simp
 refine ⟨?_,?_⟩
 ·rcases Int.mul_eq_zero.mp e1 with h | h
  ·omega
  ·exact h
 ·rcases Int.mul_eq_zero.mp e2 with h | h
  ·omega
  ·exact h
def kP (l:List P2) (p:P2):Prop:=p∈l∧∃ a b:Int,∀ q∈l,q≠p→wth a b q < wth a b p
theorem eV {l:List P2} {p:P2} (h:kP l p):p∈al l:=by
 obtain ⟨hp,a,b,k⟩:=h
 obtain ⟨c,hc,e⟩:=nu a b hp
 by_cases hcp:c=p
 ·rw [← hcp]; exact hc
 ·have:=k c (dC _ c hc) hcp
  omega
theorem eS {l:List P2} (h3:3≤(al l).length) {p:P2} (hp:p∈al l):kP l p:=by
 obtain ⟨Z,hZ⟩:=rq hp
 obtain ⟨B,hB,pos⟩:=ot h3 hZ
 refine ⟨dC _ p hp,B.2 - Z.2,Z.1 - B.1,fun q hq hne=> ?_⟩
 have c1:=iX h3 hZ q hq
 have c2:=iX h3 hB q hq
 dsimp only at c1 c2
 have e:wth (B.2 - Z.2) (Z.1 - B.1) q - wth (B.2 - Z.2) (Z.1 - B.1) p=-(ap Z p q+ap p B q):=by unfold wth ap; grind
 rcases Int.lt_or_eq_of_le (Int.add_nonneg c1 c2) with h | h
 ·omega
 ·exfalso
  have z1:ap Z p q=0:=by omega
  have z2:ap p B q=0:=by omega
  have:=p5 (u1:=p.1 - Z.1) (u2:=p.2 - Z.2) (v1:=B.1 - p.1) (v2:=B.2 - p.2) (w1:=q.1 - p.1) (w2:=q.2 - p.2) (by rw [← (show ap Z p B=(p.1 - Z.1) * (B.2 - p.2) - (p.2 - Z.2) * (B.1 - p.1) by unfold ap; grind)]; exact pos) (by rw [← z1]; unfold ap; grind) (by rw [← z2]; unfold ap; grind)
  exact hne (Prod.ext (by omega) (by omega))
theorem gz {pts:List P2} (hne:pts≠[]):∃ mn mx,(al pts)[0]?=some mn∧mn∈pts∧mx∈pts∧(∀ q∈pts,ST.ltP q mn=false)∧(∀ q∈pts,ST.ltP mx q=false)∧(¬ 2 < (al pts).length→(al pts)[(al pts).length - 1]?=some mx):=by
 have no:∀ {a b:P2},(a=b∨plt a b)→ST.ltP b a=false:=fun {a b} h=> by
  rw [ST.ltP_no]
  rcases h with rfl | h
  ·omega
  ·unfold plt at h; omega
 by_cases h2:2≤(ST.srt pts).length
 ·have hs:=cF pts
  obtain ⟨mn,mx,W⟩:=qY hs h2
  have hc:al pts=(ae (ST.srt pts)).reverse.dropLast++(ae (ST.srt pts).reverse).reverse.dropLast:=by
   unfold al; rw [if_neg (by omega)]
  have memT:mn∈ST.srt pts:=aU _ _ (List.mem_reverse.mp (List.mem_of_getElem? W.t0))
  have memX:mx∈ST.srt pts:=aU _ _ (List.mem_reverse.mp (List.mem_of_getElem? W.t1))
  refine ⟨mn,mx,?_,(ST.srt_mem _ _).mp memT,(ST.srt_mem _ _).mp memX,fun q hq=> no ((W.least q ((ST.srt_mem _ _).mpr hq)).imp (fun e=> e.symm) id),fun q hq=> no (W.most q ((ST.srt_mem _ _).mpr hq)),fun h=> ?_⟩
  ·have:=cn W (k:=0) (by omega)
   rw [Nat.zero_mod] at this
   rw [hc,this]; exact W.t0
  ·rw [hc] at h ⊢
   have h1:=W.lt
   have h3:=W.lb
   have hn:((ae (ST.srt pts)).reverse.dropLast++(ae (ST.srt pts).reverse).reverse.dropLast).length=(ae (ST.srt pts)).reverse.length - 1+((ae (ST.srt pts).reverse).reverse.length - 1):=by simp
   have:=cn W (k:=(ae (ST.srt pts)).reverse.length - 1) (Nat.le_refl _)
   rw [W.t1,Nat.mod_eq_of_lt (by omega)] at this
   rw [← this]; congr 1; omega
 ·have h1:(ST.srt pts).length=1:=by
   obtain ⟨x,hx⟩:=List.exists_mem_of_ne_nil pts hne
   have:=List.length_pos_of_mem ((ST.srt_mem x pts).mpr hx)
   omega
  obtain ⟨x,hx⟩:=List.length_eq_one_iff.mp h1
  have all:∀ q∈pts,q=x:=fun q hq=> by have:=(ST.srt_mem q pts).mpr hq; rw [hx] at this; simpa using this
  have mx:x∈pts:=(ST.srt_mem _ _).mp (by rw [hx]; simp)
  rw [eo h2,hx]
  exact ⟨x,x,rfl,mx,mx,fun q hq=> no (.inl (all q hq).symm),fun q hq=> no (.inl (all q hq)),fun _=> rfl⟩
def Mid (l:List P2) (e:P2):Prop:=∃ p∈l,∃ q∈l,p.1+q.1=2 * e.1∧p.2+q.2=2 * e.2
theorem jQ {p q e:P2} (a b:Int) (h1:p.1+q.1=2 * e.1) (h2:p.2+q.2=2 * e.2):wth a b p+wth a b q=2 * wth a b e:=by
 unfold wth
 have e1:a * p.1+b * p.2+(a * q.1+b * q.2)=a * (p.1+q.1)+b * (p.2+q.2):=by grind
 rw [e1,h1,h2]; grind
theorem oJ {l E:List P2} (hE:∀ e∈E,Mid l e) {x:P2} (h:kP l x):kP (l++E) x:=by
 obtain ⟨hx,a,b,k⟩:=h
 refine ⟨List.mem_append_left _ hx,a,b,fun q hq hne=> ?_⟩
 rcases List.mem_append.mp hq with m | m
 ·exact k q m hne
 ·obtain ⟨p,hp,r,hr,h1,h2⟩:=hE q m
  have w:=jQ a b h1 h2
  have kp:wth a b p≤wth a b x:=by
   by_cases e:p=x
   ·rw [e]; exact Int.le_refl _
   ·exact Int.le_of_lt (k p hp e)
  have kr:wth a b r≤wth a b x:=by
   by_cases e:r=x
   ·rw [e]; exact Int.le_refl _
   ·exact Int.le_of_lt (k r hr e)
  by_cases ep:p=x
  ·by_cases er:r=x
   ·exfalso
    apply hne
    rw [ep,er] at h1 h2
    exact Prod.ext (by omega) (by omega)
   ·have:=k r hr er; omega
  ·have:=k p hp ep; omega
theorem oj {l E:List P2} (hE:∀ e∈E,Mid l e) {x:P2} (h:kP (l++E) x):kP l x:=by
 obtain ⟨hx,a,b,k⟩:=h
 have hl:x∈l:=by
  rcases List.mem_append.mp hx with m | m
  ·exact m
  ·obtain ⟨p,hp,r,hr,h1,h2⟩:=hE x m
   have w:=jQ a b h1 h2
   by_cases ep:p=x
   ·rw [← ep]; exact hp
   ·by_cases er:r=x
    ·rw [← er]; exact hr
    ·have:=k p (List.mem_append_left _ hp) ep
     have:=k r (List.mem_append_left _ hr) er
     omega
 exact ⟨hl,a,b,fun q hq=> k q (List.mem_append_left _ hq)⟩
theorem m_ {a b:P2} (h1:ST.ltP a b=false) (h2:ST.ltP b a=false):a=b:=by
 rw [ST.ltP_no] at h1 h2
 exact Prod.ext (by omega) (by omega)
theorem lH {l:List P2} {mn mx:P2} (hn:l.Nodup) (h0:l[0]?=some mn) (h1:l[l.length - 1]?=some mx) (h2:¬ 2 < l.length):l=if mn=mx then [mn] else [mn,mx]:=by
 match l,hn,h0,h1,h2 with
 | [],_,h0,_,_=> simp at h0
 | [a],_,h0,h1,_=> simp at h0 h1; subst h0; subst h1; simp
 | [a,b],hn,h0,h1,_=>
  simp at h0 h1; subst h0; subst h1
  rw [if_neg fun e=> by rw [e] at hn; simp at hn]
 | _::_::_::_,_,_,_,h2=> simp at h2
theorem iO {l E:List P2} (hE:∀ e∈E,Mid l e):al (l++E)=al l:=by
 by_cases hne:l=[]
 ·subst hne
  have:E=[]:=by
   cases E with
   | nil=> rfl
   | cons e E=> obtain ⟨p,hp,_⟩:=hE e List.mem_cons_self; simp at hp
  rw [this]; rfl
 have up:3≤(al l).length→∀ x∈al l,x∈al (l++E):=fun h3 x hx=> eV (oJ hE (eS h3 hx))
 have dn:3≤(al (l++E)).length→∀ x∈al (l++E),x∈al l:=fun h3 x hx=> eV (oj hE (eS h3 hx))
 by_cases h3:3≤(al (l++E)).length
 ·have d:=dn h3
  have h4:3≤(al l).length:=Nat.le_trans h3 (cg (bj _) d)
  have u:=up h4
  rw [← eK (l++E),← eK l]
  exact dh (dM fun x=> ⟨d x,u x⟩)
 ·have h4:¬ 3≤(al l).length:=fun h=> h3 (Nat.le_trans h (cg (bj _) (up h)))
  have hneE:l++E≠[]:=fun e=> hne (List.append_eq_nil_iff.mp e).1
  obtain ⟨m1,x1,a1,a2,a3,a4,a5,a6⟩:=gz hne
  obtain ⟨m2,x2,b1,b2,b3,b4,b5,b6⟩:=gz hneE
  have e1:=lH (bj l) a1 (a6 (by omega)) (by omega)
  have e2:=lH (bj (l++E)) b1 (b6 (by omega)) (by omega)
  have em:m1=m2:=by
   refine m_ ?_ (b4 m1 (List.mem_append_left _ a2) |> fun _=> ?_)
   ·exact b4 m1 (List.mem_append_left _ a2)
   ·rcases List.mem_append.mp b2 with m | m
    ·exact a4 m2 m
    ·obtain ⟨p,hp,q,hq,k1,k2⟩:=hE m2 m
     have c1:=a4 p hp
     have c2:=a4 q hq
     rw [ST.ltP_no] at *
     omega
  have ex:x1=x2:=by
   refine m_ ?_ (b5 x1 (List.mem_append_left _ a3))
   rcases List.mem_append.mp b3 with m | m
   ·exact a5 x2 m
   ·obtain ⟨p,hp,q,hq,k1,k2⟩:=hE x2 m
    have c1:=a5 p hp
    have c2:=a5 q hq
    rw [ST.ltP_no] at *
    omega
  rw [e1,e2,em,ex]
def isF (l:List P2):Bool:=if l=[] then false else decide (l=al l)
theorem ig {l m:List P2} (hc:al l=l) (hs:∀ x∈m,x∈l) (hl:l.length≤m.length) (hne:m≠l):isF m=false:=by
 unfold isF
 split
 ·rfl
 refine decide_eq_false fun e=> hne ?_
 have nm:m.Nodup:=by rw [e]; exact bj m
 have all:∀ x∈l,x∈m:=fun x hx=> by
  apply Classical.byContradiction
  intro hx'
  have:=cg (l:=x::m) (m:=l) (List.nodup_cons.mpr ⟨hx',nm⟩) fun y hy=> by
   rcases List.mem_cons.mp hy with r | r
   ·rw [r]; exact hx
   ·exact hs y r
  simp at this; omega
 rw [e,← hc]
 exact dh (dM fun x=> ⟨hs x,all x⟩)
theorem rR {l m:List P2} (hc:al l=l) {h:P2} (hm:Mid l h) (hs:∀ x,x∈m↔x∈l∨x=h) (hl:m.length=l.length+1):isF m=false:=by
 unfold isF
 split
 ·rfl
 refine decide_eq_false fun e=> ?_
 have c:al m=al (l++[h]):=dh (dM fun x=> by rw [hs]; simp)
 rw [iO (fun e he=> by rw [List.mem_singleton.mp he]; exact hm),hc] at c
 rw [e,c] at hl
 omega
theorem m4 {l:List P2} (hne:l≠[]) (hc:al l=l):isF l=true:=by unfold isF; rw [if_neg hne,hc]; exact decide_eq_true rfl
def rtl (l:List P2) (t:Nat):List P2:=l.drop t++l.take t
def fJ (l:List P2) (a:Nat) (p:P2):List P2:=l.take a++[p]++l.drop a
def swp (l:List P2) (i j:Nat):List P2:=(l.set i (gp l j)).set j (gp l i)
def rv1 (l:List P2):List P2:=l.take 1++(l.drop 1).reverse
def on1 (l:List P2) (o:Nat):List P2:=l.take 1++l.drop o++(l.drop 1).take (o - 1)
def iW (l:List P2) (s:Nat):List P2:=(List.range l.length).map fun k=> gp l (k * s % l.length)
def hlf (p q:P2):P2:=((p.1+q.1) / 2,(p.2+q.2) / 2)
def fR (l:List P2):Prop:=∀ p∈l,∀ q∈l,(p.1+q.1) % 2=0∧(p.2+q.2) % 2=0
theorem jV {l:List P2} (h:fR l) {p q:P2} (hp:p∈l) (hq:q∈l):Mid l (hlf p q):=by
 obtain ⟨h1,h2⟩:=h p hp q hq
 refine ⟨p,hp,q,hq,?_,?_⟩ <;> unfold hlf <;> dsimp only <;> omega
theorem gH {l m:List P2} (hn:l.Nodup) {i j:Nat} (hi:i < l.length) (hij:i≠j) (h:m[i]?=l[j]?):m≠l:=fun e=> by
 rw [e] at h
 exact hij ((List.getElem?_inj hi hn).mp h)
section
variable {l:List P2} (hc:al l=l) (h2:2≤l.length)
include hc h2
theorem gh:l.Nodup:=by rw [← hc]; exact bj l
theorem pX {t:Nat} (h0:0 < t) (ht:t < l.length):isF (rtl l t)=false:=by
 refine ig hc (fun x hx=> ?_) (by unfold rtl; simp; omega) (gH (gh hc h2) (i:=0) (j:=t) (by omega) (by omega) ?_)
 ·rcases List.mem_append.mp hx with m | m
  ·exact List.mem_of_mem_drop m
  ·exact List.mem_of_mem_take m
 ·unfold rtl; rw [List.getElem?_append_left (by simp; omega),List.getElem?_drop,Nat.add_zero]
theorem pV (a:Nat) {p:P2} (hp:p∈l):isF (fJ l a p)=false:=by
 refine ig hc (fun x hx=> ?_) (by unfold fJ; simp; omega) fun e=> ?_
 ·rcases List.mem_append.mp hx with m | m
  ·rcases List.mem_append.mp m with m | m
   ·exact List.mem_of_mem_take m
   ·rw [List.mem_singleton.mp m]; exact hp
  ·exact List.mem_of_mem_drop m
 ·have:=congrArg List.length e
  unfold fJ at this; simp at this; omega
theorem pS (a:Nat) (ev:fR l) {p q:P2} (hp:p∈l) (hq:q∈l):isF (fJ l a (hlf p q))=false:=by
 refine rR hc (jV ev hp hq) (fun x=> ?_) (by unfold fJ; simp; omega)
 unfold fJ
 rw [List.mem_append,List.mem_append,List.mem_singleton]
 have e:x∈l↔x∈l.take a∨x∈l.drop a:=by rw [← List.mem_append,List.take_append_drop]
 rw [e]
 constructor
 ·rintro ((h | h) | h)
  ·exact .inl (.inl h)
  ·exact .inr h
  ·exact .inl (.inr h)
 ·rintro ((h | h) | h)
  ·exact .inl (.inl h)
  ·exact .inr h
  ·exact .inl (.inr h)
theorem pE {i j:Nat} (hi:i < l.length) (hj:j < l.length) (hij:i≠j):isF (swp l i j)=false:=by
 refine ig hc (fun x hx=> ?_) (by unfold swp; simp) (gH (gh hc h2) (i:=i) (j:=j) hi hij ?_)
 ·rcases List.mem_or_eq_of_mem_set hx with m | m
  ·rcases List.mem_or_eq_of_mem_set m with m | m
   ·exact m
   ·rw [m]; exact aR hj
  ·rw [m]; exact aR hi
 ·unfold swp
  rw [List.getElem?_set_ne (Ne.symm hij),dz hi,iq hj]
theorem pj (h3:2 < l.length):isF (rv1 l)=false:=by
 refine ig hc (fun x hx=> ?_) (by unfold rv1; simp; omega) (gH (gh hc h2) (i:=1) (j:=l.length - 1) (by omega) (by omega) ?_)
 ·rcases List.mem_append.mp hx with m | m
  ·exact List.mem_of_mem_take m
  ·exact List.mem_of_mem_drop (List.mem_reverse.mp m)
 ·unfold rv1
  rw [List.getElem?_append_right (by simp; omega),List.getElem?_reverse (by simp; omega),List.getElem?_drop]
  congr 1
  simp
  omega
theorem pL {o:Nat} (ho:2≤o) (hl:o < l.length):isF (on1 l o)=false:=by
 refine ig hc (fun x hx=> ?_) (by unfold on1; simp; omega) (gH (gh hc h2) (i:=1) (j:=o) (by omega) (by omega) ?_)
 ·rcases List.mem_append.mp hx with m | m
  ·rcases List.mem_append.mp m with m | m
   ·exact List.mem_of_mem_take m
   ·exact List.mem_of_mem_drop m
  ·exact List.mem_of_mem_drop (List.mem_of_mem_take m)
 ·unfold on1
  rw [List.getElem?_append_left (by simp; omega),List.getElem?_append_right (by simp; omega),List.getElem?_drop]
  congr 1
  simp
  omega
theorem p_ {s:Nat} (hs:2≤s) (hl:s < l.length):isF (iW l s)=false:=by
 refine ig hc (fun x hx=> ?_) (by unfold iW; simp) (gH (gh hc h2) (i:=1) (j:=s) (by omega) (by omega) ?_)
 ·obtain ⟨k,_,rfl⟩:=List.mem_map.mp hx
  exact aR (Nat.mod_lt _ (by omega))
 ·unfold iW
  rw [List.getElem?_map,List.getElem?_range (by omega),Option.map_some,Nat.one_mul,Nat.mod_eq_of_lt hl,iq hl]
theorem qm:isF l.reverse=false:=by
 refine ig hc (fun x hx=> List.mem_reverse.mp hx) (by simp) (gH (gh hc h2) (i:=0) (j:=l.length - 1) (by omega) (by omega) ?_)
 rw [List.getElem?_reverse (by omega)]
 rfl
end
theorem oO {l:List P2} (hc:al l=l) {p:P2} (hp:p∈l):isF (l++[p])=false:=by
 refine ig hc (fun x hx=> ?_) (by simp) fun e=> ?_
 ·rcases List.mem_append.mp hx with m | m
  ·exact m
  ·rw [List.mem_singleton.mp m]; exact hp
 ·have:=congrArg List.length e; simp at this
def mI (l:List P2) (c:Int):Nat:=(c % (l.length:Int)).toNat
def mJ (l:List P2) (c:Int):Nat:=((c % (l.length:Int)+1+c / 97 % ((l.length:Int) - 1)) % (l.length:Int)).toNat
def mA (l:List P2) (c:Int):Nat:=(c / 9409 % ((l.length:Int)+1)).toNat
def mT (l:List P2) (c:Int):Nat:=(1+c / 89 % ((l.length:Int) - 1)).toNat
def mO (l:List P2) (c:Int):Nat:=(2+c / 101 % ((l.length:Int) - 2)).toNat
def mS (l:List P2) (c:Int):Nat:=(2+c / 103 % ((l.length:Int) - 3)).toNat
theorem aG (x:Int) {n:Int} (h:0 < n):0≤x % n∧x % n < n:=⟨Int.emod_nonneg _ (by omega),Int.emod_lt_of_pos _ h⟩
def gc (l:List P2) (c:Int):List (List P2):=[rtl l (mT l c),fJ l (mA l c) (gp l (mI l c)),fJ l (mA l c) (hlf (gp l (mI l c)) (gp l (mJ l c))),swp l (mI l c) (mJ l c)]
def iA (l:List P2) (c:Int):List (List P2):=gc l c++(if 2 < l.length then [rv1 l,on1 l (mO l c)] else [])
def ie (l:List P2) (c:Int):List (List P2):=iA l c++(if 4 < l.length then [iW l (mS l c)] else [])
def jA (l:List P2) (c:Int):List (List P2):=ie l c++[l.reverse]
theorem qR {n i d:Int} (h0:0≤i) (h1:i < n) (h2:0≤d) (h3:d < n - 1):(i+1+d) % n≠i:=by
 intro e
 by_cases h:i+1+d < n
 ·rw [Int.emod_eq_of_lt (by omega) h] at e; omega
 ·rw [show i+1+d=(i+1+d - n)+n by omega,Int.add_emod_right,Int.emod_eq_of_lt (by omega) (by omega)] at e; omega
theorem om {l:List P2} (hc:al l=l) (h2:2≤l.length) (ev:fR l) (c:Int):∀ m∈jA l c,isF m=false:=by
 have hi:=aG c (n:=(l.length:Int)) (by omega)
 have hd:=aG (c / 97) (n:=(l.length:Int) - 1) (by omega)
 have hj:=aG (c % (l.length:Int)+1+c / 97 % ((l.length:Int) - 1)) (n:=(l.length:Int)) (by omega)
 have ht:=aG (c / 89) (n:=(l.length:Int) - 1) (by omega)
 have ne:=qR hi.1 hi.2 hd.1 hd.2
 have iI:mI l c < l.length:=by unfold mI; omega
 have iJ:mJ l c < l.length:=by unfold mJ; omega
 have iN:mI l c≠mJ l c:=by unfold mI mJ; omega
 intro m hm
 unfold jA ie iA gc at hm
 simp only [List.mem_append,List.mem_cons,List.not_mem_nil,or_false] at hm
 rcases hm with ((((rfl | rfl | rfl | rfl) | hm) | hm) | rfl)
 ·exact pX hc h2 (by unfold mT; omega) (by unfold mT; omega)
 ·exact pV hc h2 _ (aR iI)
 ·exact pS hc h2 _ ev (aR iI) (aR iJ)
 ·exact pE hc h2 iI iJ iN
 ·split at hm
  ·rename_i h3
   have ho:=aG (c / 101) (n:=(l.length:Int) - 2) (by omega)
   simp only [List.mem_cons,List.not_mem_nil,or_false] at hm
   rcases hm with rfl | rfl
   ·exact pj hc h2 h3
   ·exact pL hc h2 (by unfold mO; omega) (by unfold mO; omega)
  ·simp at hm
 ·split at hm
  ·rename_i h3
   have ho:=aG (c / 103) (n:=(l.length:Int) - 3) (by omega)
   simp only [List.mem_cons,List.not_mem_nil,or_false] at hm
   subst hm
   exact p_ hc h2 (by unfold mS; omega) (by unfold mS; omega)
  ·simp at hm
 ·exact qm hc h2
theorem nQ {l:List P2} (h2:2≤l.length) (c:Int):∀ m∈jA l c,m.length≤l.length+1∧∀ x∈m,x∈l∨x=hlf (gp l (mI l c)) (gp l (mJ l c)):=by
 have hi:=aG c (n:=(l.length:Int)) (by omega)
 have hj:=aG (c % (l.length:Int)+1+c / 97 % ((l.length:Int) - 1)) (n:=(l.length:Int)) (by omega)
 have iI:mI l c < l.length:=by unfold mI; omega
 have iJ:mJ l c < l.length:=by unfold mJ; omega
 intro m hm
 unfold jA ie iA gc at hm
 simp only [List.mem_append,List.mem_cons,List.not_mem_nil,or_false] at hm
 have tk:∀ {k:Nat} {x:P2},x∈l.take k→x∈l:=fun h=> List.mem_of_mem_take h
 have dr:∀ {k:Nat} {x:P2},x∈l.drop k→x∈l:=fun h=> List.mem_of_mem_drop h
 rcases hm with ((((rfl | rfl | rfl | rfl) | hm) | hm) | rfl)
 ·exact ⟨by unfold rtl; simp; omega,fun x hx=> .inl ((List.mem_append.mp hx).elim dr tk)⟩
 ·refine ⟨by unfold fJ; simp; omega,fun x hx=> .inl ?_⟩
  rcases List.mem_append.mp hx with m | m
  ·rcases List.mem_append.mp m with m | m
   ·exact tk m
   ·rw [List.mem_singleton.mp m]; exact aR iI
  ·exact dr m
 ·refine ⟨by unfold fJ; simp; omega,fun x hx=> ?_⟩
  rcases List.mem_append.mp hx with m | m
  ·rcases List.mem_append.mp m with m | m
   ·exact .inl (tk m)
   ·exact .inr (List.mem_singleton.mp m)
  ·exact .inl (dr m)
 ·refine ⟨by unfold swp; simp,fun x hx=> .inl ?_⟩
  rcases List.mem_or_eq_of_mem_set hx with m | m
  ·rcases List.mem_or_eq_of_mem_set m with m | m
   ·exact m
   ·rw [m]; exact aR iJ
  ·rw [m]; exact aR iI
 ·split at hm
  ·simp only [List.mem_cons,List.not_mem_nil,or_false] at hm
   rcases hm with rfl | rfl
   ·exact ⟨by unfold rv1; simp; omega,fun x hx=> .inl ((List.mem_append.mp hx).elim tk fun m=> dr (List.mem_reverse.mp m))⟩
   ·refine ⟨by unfold on1; simp; omega,fun x hx=> .inl ?_⟩
    rcases List.mem_append.mp hx with m | m
    ·exact (List.mem_append.mp m).elim tk dr
    ·exact dr (List.mem_of_mem_take m)
  ·simp at hm
 ·split at hm
  ·simp only [List.mem_cons,List.not_mem_nil,or_false] at hm
   subst hm
   refine ⟨by unfold iW; simp,fun x hx=> .inl ?_⟩
   obtain ⟨k,_,rfl⟩:=List.mem_map.mp hx
   exact aR (Nat.mod_lt _ (by omega))
  ·simp at hm
 ·exact ⟨by simp,fun x hx=> .inl (List.mem_reverse.mp hx)⟩
def ji (l:List P2) (i:Nat):List P2:=(List.range i).map fun j=> hlf (gp l j) (gp l (j+1))
def fj (l:List P2) (a:Int):List P2:=((rtl l (mI l a)).reverse++rtl l (mI l a)++ji l (l.length - 1)).take 200
theorem lZ {l:List P2} (h0:0 < l.length) (hl:l.length≤100) (ev:fR l) (a:Int):al (fj l a)=al l:=by
 have e:fj l a=((rtl l (mI l a)).reverse++rtl l (mI l a))++(ji l (l.length - 1)).take (200 - ((rtl l (mI l a)).reverse++rtl l (mI l a)).length):=by
  unfold fj
  rw [List.take_append,List.take_of_length_le (by unfold rtl; simp; omega)]
 rw [e]
 have hE:∀ x∈(ji l (l.length - 1)).take (200 - ((rtl l (mI l a)).reverse++rtl l (mI l a)).length),Mid l x:=fun x hx=> by
  obtain ⟨j,hj,rfl⟩:=List.mem_map.mp (List.mem_of_mem_take hx)
  have:=List.mem_range.mp hj
  exact jV ev (aR (by omega)) (aR (by omega))
 rw [← iO hE]
 refine dh (dM fun x=> ?_)
 rw [List.mem_append,List.mem_append,List.mem_append,List.mem_reverse]
 have:x∈rtl l (mI l a)↔x∈l:=by
  unfold rtl
  rw [List.mem_append,Or.comm,← List.mem_append,List.take_append_drop]
 rw [this]
 simp
theorem n5 {l:List P2} (h0:0 < l.length) (a:Int):(fj l a).length≤200∧∀ x∈fj l a,x∈l∨∃ p∈l,∃ q∈l,x=hlf p q:=by
 refine ⟨by unfold fj; simp; omega,fun x hx=> ?_⟩
 rcases List.mem_append.mp (List.mem_of_mem_take hx) with m | m
 ·left
  have r:∀ y∈rtl l (mI l a),y∈l:=fun y hy=> (List.mem_append.mp hy).elim (fun h=> List.mem_of_mem_drop h) fun h=> List.mem_of_mem_take h
  rcases List.mem_append.mp m with m | m
  ·exact r x (List.mem_reverse.mp m)
  ·exact r x m
 ·obtain ⟨j,hj,rfl⟩:=List.mem_map.mp m
  have:=List.mem_range.mp hj
  exact .inr ⟨_,aR (by omega),_,aR (by omega),rfl⟩
end
section
variable {P:Program} {w:World} {K:PySem.W.Frag} {mg:Str→Option Value} {base:Heap}
def cel (ns:List Int) (k:Int):Int:=if k < (ns.length:Int) then ns.getD k.toNat 0 else 7 * k * k+3 * k+1
theorem fx {ns:List Int} (h:∀ m∈ns,Sz 1048576 m) {k:Int} (h0:0≤k) (h1:k < 1000):Sz 1048576 (cel ns k):=by
 unfold cel
 split
 ·exact oG h _
 ·refine Sz.mono (m:=100) ?_ (by decide)
  have:7 * k * k≤7 * 1000 * 1000:=by
   have:k * k≤1000 * 1000:=Int.mul_le_mul (by omega) (by omega) h0 (by omega)
   rw [Int.mul_assoc]; omega
  have h2:0≤7 * k * k:=Int.mul_nonneg (by omega) h0
  unfold Sz; omega
def kv:List U→Out→Prop:=fun us o=> ∃ (ns:List Int) (k:Int),us=[.scr (ns.map U.int),.int k]∧ns.length≤63∧0≤k∧k < 1000∧o=.val (.int (cel ns k))
set_option maxHeartbeats 8000000 in
theorem bb (T:Txt K mg):bF P w K mg base (CXF P w) 1 T.a__law_cell T.d__law_cell ["script","k"] (spU K (kv)):=by
 refine ck T.F__law_cell gO (fun us o h=> ?_) (fun cdv A outer s H E O us o hr h=> ?_)
 ·obtain ⟨ns,k,rfl,hl,h0,h1,rfl⟩:=h
  rfl
 obtain ⟨ns,k,rfl,hl,h0,h1,rfl⟩:=h
 refine Ws.nox ?_
 have sk:Sz 64 k:=by unfold Sz; omega
 have hm:((ns.map U.int).length:Int)=(ns.length:Int):=by rw [List.length_map]
 refine af (eN (aQ mU (aa 1 rfl) (aC (cB rfl) rfl T.z_len PySem.boot_len (ah (aa 0 rfl) ao ai))) (fun hT=> ?_) (fun hF=> (az ?_)))
 ·rw [hm] at hT
  have hk:=dTb hT
  refine af (cC (bB (aa 0 rfl) (aa 1 rfl) rfl (l_ h0 hk)) ?_)
  exact vIO (by unfold cel; rw [if_pos hk])
 ·rw [hm] at hF
  have hk:=dFb hF
  refine af (cC (bS (bS (cu (cu ag (aa 1 rfl) (by walk_at "mul")) (aa 1 rfl) (by walk_at "mul")) (cu ag (aa 1 rfl) (by walk_at "mul"))) ag) ?_)
  exact vIO (by unfold cel; rw [if_neg hk])
theorem sD {m:Nat} {x y:Int} (h:0≤y) (sy:Sz m y):Sz m (x % (2 * y+1) - y):=by
 have h1:=Int.emod_nonneg x (show 2 * y+1≠0 by omega)
 have h2:=Int.emod_lt_of_pos x (show 0 < 2 * y+1 by omega)
 generalize x % (2 * y+1)=z at *
 refine Sz.le ?_ sy
 omega
theorem gl {l:List P2} {k:Int} {i:Nat} (e:k=(i:Int)) (h:i < l.length):atI (l.map pu) k=some (pu (gp l i)):=mt e (by rw [List.getElem?_map,iq h]; rfl)
theorem d8 {m n:Nat} {l:List P2} (h:m≤n) (k:∀ p∈l,Szp m p):∀ p∈l,Szp n p:=fun p hp=> ⟨(k p hp).1.mono h,(k p hp).2.mono h⟩
theorem n_ {n d:Nat} {k:Int} (h:0≤k):HT.sIx n d (some k)=min k.toNat n:=by
 show (if k < 0 then (k+(n:Int)).toNat else min k.toNat n)=_
 rw [if_neg (by omega)]
theorem eP (l:List P2) {k:Int} (h0:0≤k) (h:k≤(l.length:Int)):cG (l.map pu) (some k) none=(l.drop k.toNat).map pu:=by
 unfold cG
 rw [n_ h0,HT.sIx_none,List.length_map,← List.map_drop,← List.map_take,Nat.min_eq_left (by omega),List.take_of_length_le (by simp)]
theorem d5 (l:List P2) {k:Int} (h0:0≤k):cG (l.map pu) none (some k)=(l.take k.toNat).map pu:=by
 unfold cG
 rw [n_ h0,HT.sIx_none,List.length_map,List.drop_zero,Nat.sub_zero,← List.map_take]
 by_cases h:k.toNat≤l.length
 ·rw [Nat.min_eq_left h]
 ·rw [Nat.min_eq_right (by omega),List.take_of_length_le (Nat.le_refl _),List.take_of_length_le (by omega)]
theorem pP (l:List P2) {k:Int} (h1:1≤k) (h2:k≤(l.length:Int)):cG (l.map pu) (some 1) (some k)=((l.drop 1).take (k.toNat - 1)).map pu:=by
 unfold cG
 rw [n_ (k:=1) (by decide),n_ (k:=k) (by omega),List.length_map,← List.map_drop,← List.map_take,Nat.min_eq_left (by omega),Nat.min_eq_left (a:=Int.toNat 1) (show 1≤_ by omega)]
 rfl
def m9:List U→Out→Prop:=fun us o=> ∃ l:List P2,us=[lp l]∧(∀ p∈l,Szp 5000 p)∧l.length≤400∧o=.val (.bl (isF l))
set_option maxHeartbeats 8000000 in
theorem iH (T:Txt K mg):bF P w K mg base (CXF P w) 5 T.a_is_field T.d_is_field ["points"] (spU K (m9)):=by
 refine ck T.F_is_field iC (fun us o h=> ?_) (fun cdv A outer s H E O us o hr h=> ?_)
 ·obtain ⟨l,rfl,sz,hl,rfl⟩:=h
  rfl
 obtain ⟨l,rfl,sz,hl,rfl⟩:=h
 refine Ws.nox ?_
 have hm:((l.map pu).length:Int)=(l.length:Int):=by rw [List.length_map]
 by_cases hne:l=[]
 ·subst hne
  refine af (cC (qF (gf eX (aC (cB rfl) rfl T.z_len PySem.boot_len (ah (aa 0 rfl) ao ai)) ag) rfl) ?_)
  exact rfl
 ·have h0:0 < l.length:=List.length_pos_iff.mpr hne
  refine af (cC (kc (gf eX (aC (cB rfl) rfl T.z_len PySem.boot_len (ah (aa 0 rfl) ao ai)) ag) (fun hz=> (o5 (gf (oh (fM hr) (dl _) (dl _)) (aa 0 rfl) (EvN.ev (cr ((il T).mono (by decide)) hr rfl T.m_field T.F_field.kp T.b_field aX (ah (aa 0 rfl) ao ai) ⟨l,rfl,sz,hl,by rw [if_neg hne]⟩)))))) ?_)
  refine vB ?_
  unfold isF
  rw [if_neg hne,eJ,hm]
  simp
  omega
def ju:List U→Out→Prop:=fun us o=> ∃ (l:List P2) (b:Bool),us=[lp l,.bl b]∧(∀ p∈l,Szp 5000 p)∧l.length≤400∧isF l=b∧o=.val (.bl true)
set_option maxHeartbeats 8000000 in
theorem bH (T:Txt K mg):bF P w K mg base (CXF P w) 6 T.a__law_asked T.d__law_asked ["some","due"] (spU K (ju)):=by
 refine ck T.F__law_asked cJ (fun us o h=> ?_) (fun cdv A outer s H E O us o hr h=> ?_)
 ·obtain ⟨l,b,rfl,sz,hl,hb,rfl⟩:=h
  rfl
 obtain ⟨l,b,rfl,sz,hl,hb,rfl⟩:=h
 refine Ws.nox ?_
 refine af (aE (i:=2) cJ.nd rfl (Or.inl rfl) (EvN.ev (g8 (jd rfl) rfl T.z_list boot_list (ah (aa 0 rfl) ao ai))) ?_)
 refine af (aE (i:=3) cJ.nd rfl (Or.inl rfl) (bD ((iH T).mono (by decide)) hr rfl T.m_is_field T.F_is_field.kp T.b_is_field aX (ah (aa 2 rfl) ao ai) ⟨l,rfl,sz,hl,rfl⟩) ?_)
 rw [hb]
 refine af (cC (kc (aC (cQ (by intro _ h; cases h) (by walk_at "kit")) rfl T.z_isinstance boot_isinstance (ah (aa 3 rfl) (ah (kN rfl T.z_bool boot_bool) ao ai) ai)) (fun hz=> (kc (gf (oh (fM hr) (by walk_at "ok") (by walk_at "ok")) (aa 3 rfl) (aa 1 rfl)) (fun hz=> (o5 (gf (oh (fM hr) (dl _) (dl _)) (aa 2 rfl) (aa 0 rfl))))))) ?_)
 refine vB ?_
 rw [eJ]
 cases b <;> simp [eqW]
end
section
variable {P:Program} {w:World} {K:PySem.W.Frag} {mg:Str→Option Value} {base:Heap}
def js:List U→Out→Prop:=fun us o=> ∃ l m:List P2,us=[lp l,lp m]∧o=.val (.bl (decide (l=m)))
set_option maxHeartbeats 8000000 in
theorem fW (T:Txt K mg):bF P w K mg base (CXF P w) 1 T.a__law_alike T.d__law_alike ["found","due"] (spU K (js)):=by
 refine ck T.F__law_alike cN (fun us o h=> ?_) (fun cdv A outer s H E O us o hr h=> ?_)
 ·obtain ⟨l,m,rfl,rfl⟩:=h
  rfl
 obtain ⟨l,m,rfl,rfl⟩:=h
 refine Ws.nox ?_
 by_cases h:l=m
 ·subst h
  refine af (dB (Tw.t (mV (eu (d0 (aC (cQ (by intro _ h; cases h) (L2.kit_list_list _)) rfl T.z_isinstance boot_isinstance (ah (aa 0 rfl) (ah (kN rfl T.z_list boot_list) ao ai) ai)))) (fun hz=> (kf (aQ (qu (fM hr) (dl _) (dl _)) (aa 0 rfl) (aa 1 rfl)))))) (show (!true || !eqW (lp l) (lp l))=false by rw [eJ]; simp) (az ?_))
  refine af (du (fun _:Unit=> [some (.val (lp l)),some (.val (lp l)),none,none]) (fun _ _=> True) rfl PassesOwn.never (eH (aa 0 rfl) (.inl rfl)) ?h0 ?hs ?hd)
  case h0=> exact ⟨(),trivial,rfl,rfl,trivial⟩
  case hs=>
   intro H0 i x _ hx _
   obtain ⟨p,hp,mp,rfl⟩:=nh hx
   refine ⟨_,(dG (i:=2) cN.nd rfl (Or.inl rfl)),?_⟩
   refine af (dB (eu (d0 (aC (cQ (by intro _ h; cases h) (by walk_at "kit")) rfl T.z_isinstance boot_isinstance (ah (aa 2 rfl) (ah (kN rfl T.z_tuple boot_tuple) ao ai) ai)))) rfl (az ?_))
   refine af (du (fun _:Unit=> [some (.val (lp l)),some (.val (lp l)),some (.val (pu p)),none]) (fun _ _=> True) rfl PassesOwn.never (q0 (aa 2 rfl)) ?h02 ?hs2 ?hd2)
   case h02=> exact ⟨(),trivial,rfl,rfl,rfl,trivial⟩
   case hs2=>
    intro H1 j y _ hy _
    have hz:∃ n:Int,y=.int n:=by
     match j,hy with
     | 0,hy=> cases hy; exact ⟨_,rfl⟩
     | 1,hy=> cases hy; exact ⟨_,rfl⟩
     | j+2,hy=> simp at hy
    obtain ⟨n,rfl⟩:=hz
    refine ⟨_,(dG (i:=3) cN.nd rfl (Or.inl rfl)),?_⟩
    refine af (dB (Tw.t (mV (eu (d0 (aC (cQ (by intro _ h; cases h) (by walk_at "kit")) rfl T.z_isinstance boot_isinstance (ah (aa 3 rfl) (ah (kN rfl T.z_int boot_int) ao ai) ai)))) (fun hz=> (kf (d0 (aC (cQ (by intro _ h; cases h) (by walk_at "kit")) rfl T.z_isinstance boot_isinstance (ah (aa 3 rfl) (ah (kN rfl T.z_bool boot_bool) ao ai) ai))))))) rfl (az (az ?_)))
    exact ⟨(),trivial,rfl,rfl,rfl,trivial⟩
   case hd2=>
    intro _ ps _ hps
    refine az ?_
    exact ⟨(),trivial,SubP.trans (by exact ⟨rfl,rfl,trivial⟩) hps⟩
  case hd=>
   intro _ ps _ hps
   refine bT ?_ hps
   refine af (cC jm ?_)
   exact vB (decide_eq_true rfl).symm
 ·refine af (i5 (Tw.t (mV (eu (d0 (aC (cQ (by intro _ h; cases h) (L2.kit_list_list _)) rfl T.z_isinstance boot_isinstance (ah (aa 0 rfl) (ah (kN rfl T.z_list boot_list) ao ai) ai)))) (fun hz=> (kf (aQ (qu (fM hr) (dl _) (dl _)) (aa 0 rfl) (aa 1 rfl)))))) (show (!true || !eqW (lp l) (lp m))=true by rw [eJ]; simp [h]) ?_)
  refine af (cC jm ?_)
  exact vB (decide_eq_false h).symm
end
section
variable {P:Program} {w:World} {K:PySem.W.Frag} {mg:Str→Option Value} {base:Heap}
def i0:List U→Out→Prop:=fun us o=> ∃ (l:List P2) (a:Int),us=[lp l,.int a]∧0 < l.length∧l.length≤100∧(∀ p∈l,Szp 1000 p)∧o=.new ((fj l a).map pu)
set_option maxHeartbeats 8000000 in
theorem fX (T:Txt K mg):bF P w K mg base (CXF P w) 1 T.a__law_mixed T.d__law_mixed ["points","at"] (spU K (i0)):=by
 refine ck T.F__law_mixed aW (fun us o h=> ?_) (fun cdv A outer s H E O us o hr h=> ?_)
 ·obtain ⟨l,a,rfl,h0,h100,sz,rfl⟩:=h
  rfl
 obtain ⟨l,a,rfl,h0,h100,sz,rfl⟩:=h
 refine Ws.nox ?_
 have hm:((l.map pu).length:Int)=(l.length:Int):=by rw [List.length_map]
 have hb:=aG a (n:=(l.length:Int)) (by omega)
 refine af (aE (i:=1) aW.nd rfl (Or.inl rfl) (ce (aa 1 rfl) (aC (cB rfl) rfl T.z_len PySem.boot_len (ah (aa 0 rfl) ao ai)) (by rw [hm]; omega)) ?_)
 rw [hm]
 have eI:mI l a=(a % (l.length:Int)).toNat:=rfl
 refine af (aE (i:=2) aW.nd rfl (Or.inl rfl) (EvN.ev (cm (EvN.ev (aI (aa 0 rfl) (aV (aa 1 rfl)) bg (.inl rfl))) (EvN.ev (aI (aa 0 rfl) bg (aV (aa 1 rfl)) (.inl rfl))) (by simp [cG]; exact Nat.le_of_lt (am (by omega))))) ?_)
 rw [eP l hb.1 (by omega),d5 l hb.1,← List.map_append,show l.drop (a % (l.length:Int)).toNat++l.take (a % (l.length:Int)).toNat=rtl l (mI l a) from rfl]
 have rl:(rtl l (mI l a)).length=l.length:=by unfold rtl; simp; omega
 refine af (eC (i:=2) aW.nd rfl (Or.inl rfl) (cm (EvN.ev (dN rfl rfl T.z_list rfl T.z_reversed (aa 2 rfl) ai)) (aa 2 rfl) (by rw [List.length_reverse,List.length_map,rl]; exact Nat.le_of_lt (am (by omega)))) ?_)
 rw [← List.map_reverse,← List.map_append]
 refine af (du (fun i:Nat=> [some (.val (lp l)),some (.val (.int (a % (l.length:Int)))),some (.own (((rtl l (mI l a)).reverse++rtl l (mI l a)++ji l i).map pu)),none,none,none]) (fun i j=> i=j) rfl PassesOwn.never (iR rfl T.z_range (ah ag (ah (aC (cB rfl) rfl T.z_len PySem.boot_len (ah (aa 0 rfl) ao ai)) ao cM) bC) (by rw [hm]; omega)) ?h0 ?hs ?hd)
 case h0=>
  refine ⟨0,rfl,rfl,rfl,?_,trivial⟩
  exact congrArg (fun l=> some (Sl.own l)) (by unfold ji; simp)
 case hs=>
  rintro H0 i x _ hx rfl
  obtain ⟨hi,rfl⟩:=cT hx
  have hi':i+1 < l.length:=by rw [hm] at hi; omega
  refine ⟨_,(dG (i:=3) aW.nd rfl (Or.inl rfl)),?_⟩
  have z1:=sz _ (aR (l:=l) (i:=i) (by omega))
  have z2:=sz _ (aR hi')
  refine af (aE (i:=4) aW.nd rfl (Or.inl rfl) (bB (aa 0 rfl) (bE (aa 3 rfl) ag) rfl (gl (i:=i) (by omega) (by omega))) ?_)
  refine af (aE (i:=5) aW.nd rfl (Or.inl rfl) (bB (aa 0 rfl) (aa 3 rfl) rfl (gl (i:=i+1) (by omega) hi')) ?_)
  refine af (bY 2 rfl (gP (bh (cy (bS (bB (aa 4 rfl) ag rfl rfl) (bB (aa 5 rfl) ag rfl rfl)) ag (by walk_at "div")) (bh (cy (bS (bB (aa 4 rfl) ag rfl rfl) (bB (aa 5 rfl) ag rfl rfl)) ag (by walk_at "div")) cD bV) bV)) (by unfold ji; simp [rl]; exact am (by omega)) (az ?_))
  refine ⟨i+1,rfl,rfl,rfl,?_,trivial⟩
  exact congrArg (fun l=> some (Sl.own l)) (by
   unfold ji
   simp only [List.range_succ,List.map_append,List.map_cons,List.map_nil,List.append_assoc]
   rfl)
 case hd=>
  rintro q ps hq hps
  refine bT ?_ hps
  rw [be,hm] at hq
  have e:q=l.length - 1:=by omega
  subst e
  refine jq 2 rfl ?_
  refine af (gU (aI (aa 2 rfl) bg (aV ag) (.inl rfl)) ?_)
  show Out.new _=Out.new _
  rw [d5 _ (by decide)]
  rfl
end
section
variable {P:Program} {w:World} {K:PySem.W.Frag} {mg:Str→Option Value} {base:Heap}
def fq:List U→Out→Prop:=fun us o=> ∃ (l:List P2) (c:Int),us=[lp l,.int c]∧2≤l.length∧l.length≤100∧(∀ p∈l,Szp 1000 p)∧Sz 1048576 c∧o=.new ((jA l c).map lp)
set_option maxHeartbeats 8000000 in
theorem gb (T:Txt K mg):bF P w K mg base (CXF P w) 1 T.a__law_lists T.d__law_lists ["land","cell"] (spU K (fq)):=by
 refine ck T.F__law_lists aq (fun us o h=> ?_) (fun cdv A outer s H E O us o hr h=> ?_)
 ·obtain ⟨l,c,rfl,h2,h100,sz,sc,rfl⟩:=h
  rfl
 obtain ⟨l,c,rfl,h2,h100,sz,sc,rfl⟩:=h
 refine Ws.nox ?_
 have hm:((l.map pu).length:Int)=(l.length:Int):=by rw [List.length_map]
 have hi:=aG c (n:=(l.length:Int)) (by omega)
 have hd:=aG (c / 97) (n:=(l.length:Int) - 1) (by omega)
 have hj:=aG (c % (l.length:Int)+1+c / 97 % ((l.length:Int) - 1)) (n:=(l.length:Int)) (by omega)
 have ha:=aG (c / 9409) (n:=(l.length:Int)+1) (by omega)
 have ht:=aG (c / 89) (n:=(l.length:Int) - 1) (by omega)
 have iI:mI l c < l.length:=by unfold mI; omega
 have iJ:mJ l c < l.length:=by unfold mJ; omega
 have zI:=sz _ (aR iI)
 have zJ:=sz _ (aR iJ)
 refine af (aE (i:=2) aq.nd rfl (Or.inr rfl) (aC (cB rfl) rfl T.z_len PySem.boot_len (ah (aa 0 rfl) ao ai)) ?_)
 rw [hm]
 refine af (aE (i:=3) aq.nd rfl (Or.inl rfl) (ce (aa 1 rfl) (aa 2 rfl) (by omega)) ?_)
 refine af (aE (i:=4) aq.nd rfl (Or.inl rfl) (ce (bS (bS (aa 3 rfl) ag) (ce (cy (aa 1 rfl) ag (by walk_at "div")) (bE (aa 2 rfl) ag) (by omega))) (aa 2 rfl) (by omega)) ?_)
 refine af (aE (i:=5) aq.nd rfl (Or.inl rfl) (ce (cy (aa 1 rfl) ag (by walk_at "div")) (bS (aa 2 rfl) ag) (by omega)) ?_)
 refine af (aE (i:=6) aq.nd rfl (Or.inl rfl) (bB (aa 0 rfl) (aa 3 rfl) rfl (gl (i:=mI l c) (by unfold mI; omega) iI)) ?_)
 refine af (aE (i:=7) aq.nd rfl (Or.inl rfl) (bB (aa 0 rfl) (aa 4 rfl) rfl (gl (i:=mJ l c) (by unfold mJ; omega) iJ)) ?_)
 refine af (aE (i:=8) aq.nd rfl (Or.inl rfl) (gP (bh (cy (bS (bB (aa 6 rfl) ag rfl rfl) (bB (aa 7 rfl) ag rfl rfl)) ag (by walk_at "div")) (bh (cy (bS (bB (aa 6 rfl) ag rfl rfl) (bB (aa 7 rfl) ag rfl rfl)) ag (by walk_at "div")) cD bV) bV)) ?_)
 show Ws _ _ _ _ _ _ [some (.val (lp l)),some (.val (.int c)),some (.val (.int (l.length:Int))),some (.val (.int (c % (l.length:Int)))),some (.val (.int ((c % (l.length:Int)+1+c / 97 % ((l.length:Int) - 1)) % (l.length:Int)))),some (.val (.int (c / 9409 % ((l.length:Int)+1)))),some (.val (pu (gp l (mI l c)))),some (.val (pu (gp l (mJ l c)))),some (.val (pu (hlf (gp l (mI l c)) (gp l (mJ l c))))),none,none,none,none,none,none]
 refine af (aE (i:=9) aq.nd rfl (Or.inl rfl) (bS ag (ce (cy (aa 1 rfl) ag (by walk_at "div")) (bE (aa 2 rfl) ag) (by omega))) ?_)
 refine af (eC (i:=10) aq.nd rfl (Or.inl rfl) (g8 (jd rfl) rfl T.z_list boot_list (ah (aa 0 rfl) ao ai)) ?_)
 refine af (kl 10 rfl (aa 7 rfl) (aa 3 rfl) (show ixN (l.map pu).length (c % (l.length:Int))=some (mI l c) by unfold ixN mI; rw [List.length_map,if_pos hi.1,if_pos hi.2]) ?_)
 refine af (kl 10 rfl (aa 6 rfl) (aa 4 rfl) (show ixN ((l.map pu).set (mI l c) (pu (gp l (mJ l c)))).length _=some (mJ l c) by unfold ixN mJ; rw [List.length_set,List.length_map,if_pos hj.1,if_pos hj.2]) ?_)
 refine jq 10 rfl ?_
 rw [← List.map_set,← List.map_set]
 show Ws _ _ _ _ _ _ [some (.val (lp l)),some (.val (.int c)),some (.val (.int (l.length:Int))),some (.val (.int (c % (l.length:Int)))),some (.val (.int ((c % (l.length:Int)+1+c / 97 % ((l.length:Int) - 1)) % (l.length:Int)))),some (.val (.int (c / 9409 % ((l.length:Int)+1)))),some (.val (pu (gp l (mI l c)))),some (.val (pu (gp l (mJ l c)))),some (.val (pu (hlf (gp l (mI l c)) (gp l (mJ l c))))),some (.val (.int (1+c / 89 % ((l.length:Int) - 1)))),some (.val (lp (swp l (mI l c) (mJ l c)))),none,none,none,none]
 refine af (eC (i:=11) aq.nd rfl (Or.inl rfl) (cH (bh (EvN.ev (cm (EvN.ev (aI (aa 0 rfl) (aV (aa 9 rfl)) bg (.inl rfl))) (EvN.ev (aI (aa 0 rfl) bg (aV (aa 9 rfl)) (.inl rfl))) (by simp [cG]; exact Nat.le_of_lt (am (by omega))))) (bh (EvN.ev (cm (EvN.ev (cm (EvN.ev (aI (aa 0 rfl) bg (aV (aa 5 rfl)) (.inl rfl))) (EvN.ev (cH (bh (aa 6 rfl) cD ai))) (by simp [cG]; exact Nat.le_of_lt (am (by omega))))) (EvN.ev (aI (aa 0 rfl) (aV (aa 5 rfl)) bg (.inl rfl))) (by simp [cG]; exact Nat.le_of_lt (am (by omega))))) (bh (EvN.ev (cm (EvN.ev (cm (EvN.ev (aI (aa 0 rfl) bg (aV (aa 5 rfl)) (.inl rfl))) (EvN.ev (cH (bh (aa 8 rfl) cD ai))) (by simp [cG]; exact Nat.le_of_lt (am (by omega))))) (EvN.ev (aI (aa 0 rfl) (aV (aa 5 rfl)) bg (.inl rfl))) (by simp [cG]; exact Nat.le_of_lt (am (by omega))))) (bh (aa 10 rfl) cD ai) bV) bV) bV)) ?_)
 rw [eP l (k:=1+c / 89 % ((l.length:Int) - 1)) (by omega) (by omega),d5 l (k:=1+c / 89 % ((l.length:Int) - 1)) (by omega),eP l ha.1 (by omega),d5 l ha.1]
 have e4:[U.lst ((l.drop (1+c / 89 % ((l.length:Int) - 1)).toNat).map pu++(l.take (1+c / 89 % ((l.length:Int) - 1)).toNat).map pu),.lst ((l.take (c / 9409 % ((l.length:Int)+1)).toNat).map pu++[pu (gp l (mI l c))]++(l.drop (c / 9409 % ((l.length:Int)+1)).toNat).map pu),.lst ((l.take (c / 9409 % ((l.length:Int)+1)).toNat).map pu++[pu (hlf (gp l (mI l c)) (gp l (mJ l c)))]++(l.drop (c / 9409 % ((l.length:Int)+1)).toNat).map pu),.lst ((swp l (mI l c) (mJ l c)).map pu)]=(gc l c).map lp:=by
  unfold gc rtl fJ mT mA
  simp [lp]
 rw [e4]
 show Ws _ _ _ _ _ _ [some (.val (lp l)),some (.val (.int c)),some (.val (.int (l.length:Int))),some (.val (.int (c % (l.length:Int)))),some (.val (.int ((c % (l.length:Int)+1+c / 97 % ((l.length:Int) - 1)) % (l.length:Int)))),some (.val (.int (c / 9409 % ((l.length:Int)+1)))),some (.val (pu (gp l (mI l c)))),some (.val (pu (gp l (mJ l c)))),some (.val (pu (hlf (gp l (mI l c)) (gp l (mJ l c))))),some (.val (.int (1+c / 89 % ((l.length:Int) - 1)))),some (.val (lp (swp l (mI l c) (mJ l c)))),some (.own ((gc l c).map lp)),none,none,none]
 refine b_ (fun ps=> SubP [some (.val (lp l)),some (.val (.int c)),some (.val (.int (l.length:Int))),none,none,none,none,none,none,none,none,some (.own ((iA l c).map lp)),none,none,none] ps) (eN (aQ eX (aa 2 rfl) ag) (fun hT=> ?_) (fun hF=> (az ?_))) ?hj
 ·have h3:=dTb hT
  have ho:=aG (c / 101) (n:=(l.length:Int) - 2) (by omega)
  refine af (bY 11 rfl (EvN.ev (cm (EvN.ev (aI (aa 0 rfl) bg (aV ag) (.inl rfl))) (EvN.ev (dN rfl rfl T.z_list rfl T.z_reversed (EvN.ev (aI (aa 0 rfl) (aV ag) bg (.inl rfl))) d9)) (by simp [cG]; exact Nat.le_of_lt (am (by omega))))) (by unfold gc; simp; exact am (by omega)) ?_)
  rw [d5 l (k:=1) (by decide),eP l (k:=1) (by decide) (by omega)]
  show Ws _ _ _ _ _ _ [some (.val (lp l)),some (.val (.int c)),some (.val (.int (l.length:Int))),some (.val (.int (c % (l.length:Int)))),some (.val (.int ((c % (l.length:Int)+1+c / 97 % ((l.length:Int) - 1)) % (l.length:Int)))),some (.val (.int (c / 9409 % ((l.length:Int)+1)))),some (.val (pu (gp l (mI l c)))),some (.val (pu (gp l (mJ l c)))),some (.val (pu (hlf (gp l (mI l c)) (gp l (mJ l c))))),some (.val (.int (1+c / 89 % ((l.length:Int) - 1)))),some (.val (lp (swp l (mI l c) (mJ l c)))),some (.own ((gc l c).map lp++[.lst ((l.take (Int.toNat 1)).map pu++((l.drop (Int.toNat 1)).map pu).reverse)])),none,none,none]
  refine af (aE (i:=12) aq.nd rfl (Or.inl rfl) (bS ag (ce (cy (aa 1 rfl) ag (by walk_at "div")) (bE (aa 2 rfl) ag) (by omega))) ?_)
  refine af (bY 11 rfl (EvN.ev (cm (EvN.ev (cm (EvN.ev (aI (aa 0 rfl) bg (aV ag) (.inl rfl))) (EvN.ev (aI (aa 0 rfl) (aV (aa 12 rfl)) bg (.inl rfl))) (by simp [cG]; exact Nat.le_of_lt (am (by omega))))) (EvN.ev (aI (aa 0 rfl) (aV ag) (aV (aa 12 rfl)) (.inl rfl))) (by simp [cG]; exact Nat.le_of_lt (am (by omega))))) (by unfold gc; simp; exact am (by omega)) (az ?_))
  rw [d5 l (k:=1) (by decide),eP l (k:=2+c / 101 % ((l.length:Int) - 2)) (by omega) (by omega),pP l (by omega) (by omega)]
  refine ⟨rfl,rfl,rfl,?_,trivial⟩
  refine congrArg (fun l=> some (Sl.own l)) ?_
  unfold iA rv1 on1 mO
  rw [if_pos (by omega)]
  simp [lp]
 ·have h3:=dFb hF
  refine ⟨rfl,rfl,rfl,?_,trivial⟩
  refine congrArg (fun l=> some (Sl.own l)) ?_
  unfold iA
  rw [if_neg (by omega),List.append_nil]
 case hj=>
  intro ps hps
  refine bT ?_ hps
  have l6:(iA l c).length≤6:=by unfold iA gc; split <;> simp
  refine b_ (fun ps=> SubP [some (.val (lp l)),some (.val (.int c)),some (.val (.int (l.length:Int))),none,none,none,none,none,none,none,none,some (.own ((ie l c).map lp)),none,none,none] ps) (eN (aQ eX (aa 2 rfl) ag) (fun hT=> ?_) (fun hF=> (az ?_))) ?hj3
  ·have h3:=dTb hT
   have ho:=aG (c / 103) (n:=(l.length:Int) - 3) (by omega)
   refine af (aE (i:=13) aq.nd rfl (Or.inr rfl) (bS ag (ce (cy (aa 1 rfl) ag (by walk_at "div")) (bE (aa 2 rfl) ag) (by omega))) ?_)
   refine af (bY 11 rfl (EvN.ev (qC (ys:=((iW l (mS l c)).map pu)) rfl (blk (aj bd) ["land","cell","many","i","j","at","one","two","half","turn_on","swapped","some","on","stride","k"] [14] rfl rfl rfl rfl (by decide+kernel)) (iK rfl T.z_range (ah (aa 2 rfl) ao ai) (by omega) (by omega)) (fun _ _ _ _=> fe (i:=14) aq.nd rfl (Or.inl rfl)) (fQ (by decide)) ?clen ?csz (fun _ _=> trivial) ?celt)) (by rw [List.length_map]; exact am (by omega)) (az ?_))
   case clen=> rw [be]; unfold iW; simp
   case csz=> rw [be]; exact Nat.le_of_lt (am (by omega))
   case celt=>
    intro C s' H' fp j x y hx hy
    obtain ⟨hj',rfl⟩:=cT hx
    have hjl:j < l.length:=by omega
    have ey:y=pu (gp l (j * mS l c % l.length)):=by
     unfold iW at hy
     rw [List.map_map,List.getElem?_map,List.getElem?_range hjl] at hy
     cases hy; rfl
    rw [ey]
    have sj:Sz 8 (0+(j:Int)):=by unfold Sz; omega
    have ss:Sz 8 (2+c / 103 % ((l.length:Int) - 3)):=by unfold Sz; omega
    have em:(0+(j:Int)) * (2+c / 103 % ((l.length:Int) - 3)) % (l.length:Int)=((j * mS l c % l.length:Nat):Int):=by
     rw [Int.natCast_emod,Int.natCast_mul,show ((mS l c:Nat):Int)=2+c / 103 % ((l.length:Int) - 3) by unfold mS; omega,Int.zero_add]
    exact (bB (aa 0 rfl) (ce (cu (aa 14 rfl) (aa 13 rfl) (by walk_at "mul")) (aa 2 rfl) (by omega)) rfl (gl (i:=j * mS l c % l.length) em (Nat.mod_lt _ (by omega))))
   refine ⟨rfl,rfl,rfl,?_,trivial⟩
   refine congrArg (fun l=> some (Sl.own l)) ?_
   unfold ie
   rw [if_pos (by omega),List.map_append]
   rfl
  ·have h3:=dFb hF
   refine ⟨rfl,rfl,rfl,?_,trivial⟩
   refine congrArg (fun l=> some (Sl.own l)) ?_
   unfold ie
   rw [if_neg (by omega),List.append_nil]
  case hj3=>
   intro ps hps
   refine bT ?_ hps
   have l7:(ie l c).length≤7:=by unfold ie; split <;> simp <;> omega
   refine jq 11 rfl ?_
   refine af (gU (cm (aa 11 rfl) (EvN.ev (cH (bh (EvN.ev (dN rfl rfl T.z_list rfl T.z_reversed (aa 0 rfl) ai)) cD cM))) (by simp; exact Nat.le_of_lt (am (by omega)))) ?_)
   show Out.new _=Out.new _
   unfold jA
   rw [List.map_append,← List.map_reverse]
   rfl
end
section
variable {P:Program} {w:World} {K:PySem.W.Frag} {mg:Str→Option Value} {base:Heap}
def wF (ns:List Int):Int:=cel ns 0 % 8
def fF (ns:List Int):Int:=cel ns 0 / 8 * 777767777 % (2 * 10 ^ (40:Int).toNat+1) - 10 ^ (40:Int).toNat
theorem o4 (ns:List Int):Sz 140 (fF ns):=(sD (m:=134) (by decide+kernel) (by decide+kernel)).mono (by decide)
def eW (ns:List Int):List Int:=if wF ns=7 then (List.range (70+cel ns 1 % 31).toNat).map (fun i:Nat=> (0+(i:Int))) else (List.range (max 4 (min ns.length 63) - 3)).map fun i:Nat=> cel ns (3+(i:Int))
theorem ki (ns:List Int):1≤(eW ns).length∧(eW ns).length≤100:=by unfold eW; split <;> simp <;> omega
theorem lG {ns:List Int} (hB:∀ m∈ns,Sz 1048576 m):∀ c∈eW ns,Sz 1048576 c∧(wF ns=7→0≤c∧c≤100):=fun c hc=> by
 unfold eW at hc
 split at hc
 ·obtain ⟨i,hi,rfl⟩:=List.mem_map.mp hc
  have:=List.mem_range.mp hi
  exact ⟨Sz.mono (m:=8) (by unfold Sz; omega) (by decide),fun _=> by omega⟩
 ·rename_i h7
  obtain ⟨i,hi,rfl⟩:=List.mem_map.mp hc
  have:=List.mem_range.mp hi
  exact ⟨fx hB (by omega) (by omega),fun h=> absurd h h7⟩
def y1 (w c:Int):Int:=if w=3 then 2 * (c % 13 - 6)+1 else c / 13 % 13 - 6
def y2 (w c:Int):Int:=if w=4 then (c % 13 - 6) * (c % 13 - 6) else y1 w c
def x1 (w c:Int):Int:=if w=5 then 0 else c % 13 - 6
def b6 (w:Int) (l:List P2) (c:Int):P2:=if w=6∧l≠[] then gp l 0 else (x1 w c,y2 w c)
def b7 (w:Int) (l:List P2) (c:Int):P2:=if w=7 then (c,0 - c * c) else b6 w l c
def bas (w:Int) (cs:List Int):List P2:=cs.foldl (fun B c=> B++[b7 w B c]) []
def emb (f:Int) (p:P2):P2:=(6 * p.1+f,6 * p.2 - f)
theorem rO (w c:Int):Sz 8 (x1 w c):=by unfold x1 Sz; split <;> omega
theorem rP (w c:Int):Sz 20 (y2 w c):=by
 unfold y2
 split
 ·have h:Sz 8 (c % 13 - 6):=by unfold Sz; omega
  exact (L2.Sz.mul h h).mono (by decide)
 ·unfold y1
  split
  ·exact Sz.mono (m:=8) (by unfold Sz; omega) (by decide)
  ·exact Sz.mono (m:=8) (by unfold Sz; omega) (by decide)
theorem oT {w:Int} {l:List P2} {c:Int} (hl:∀ p∈l,Szp 40 p) (hc:w=7→0≤c∧c≤100):Szp 40 (b7 w l c):=by
 unfold b7
 split
 ·rename_i h
  have:=hc h
  have s:Sz 8 c:=by unfold Sz; omega
  have s0:Sz 16 (0:Int):=Sz.mono (m:=8) (by decide) (by decide)
  exact ⟨s.mono (by decide),(L2.Sz.sub' s0 (L2.Sz.mul s s)).mono (by decide)⟩
 ·unfold b6
  split
  ·rename_i h
   exact hl _ (aR (List.length_pos_iff.mpr h.2))
  ·exact ⟨(rO w c).mono (by decide),(rP w c).mono (by decide)⟩
theorem jo (w:Int):∀ (cs:List Int) (B:List P2),(∀ p∈B,Szp 40 p)→(∀ c∈cs,w=7→0≤c∧c≤100)→(cs.foldl (fun B c=> B++[b7 w B c]) B).length=B.length+cs.length∧∀ p∈cs.foldl (fun B c=> B++[b7 w B c]) B,Szp 40 p
 | [],B,hB,_=> ⟨rfl,hB⟩
 | c::cs,B,hB,hc=> by
  obtain ⟨h1,h2⟩:=jo w cs (B++[b7 w B c]) (fun p hp=> by
   rcases List.mem_append.mp hp with m | m
   ·exact hB p m
   ·rw [List.mem_singleton.mp m]; exact oT hB (hc c List.mem_cons_self)) fun d hd=> hc d (List.mem_cons_of_mem _ hd)
  rw [List.foldl_cons]
  exact ⟨by rw [h1]; simp; omega,h2⟩
theorem mv (w:Int) {cs:List Int} {i:Nat} {c:Int} (h:cs[i]?=some c):bas w (cs.take (i+1))=bas w (cs.take i)++[b7 w (bas w (cs.take i)) c]:=by
 unfold bas
 rw [List.take_succ,h,List.foldl_append]
 rfl
theorem qr {f:Int} (sf:Sz 140 f) {p:P2} (h:Szp 40 p):Szp 200 (emb f p):=by
 have s6:Sz 8 (6:Int):=by decide
 exact ⟨(L2.Sz.add' (L2.Sz.mul s6 h.1) sf).mono (by decide),(L2.Sz.sub' (L2.Sz.mul s6 h.2) sf).mono (by decide)⟩
theorem lQ (f:Int) (B:List P2):fR (B.map (emb f)):=fun p hp q hq=> by
 obtain ⟨x,_,rfl⟩:=List.mem_map.mp hp
 obtain ⟨y,_,rfl⟩:=List.mem_map.mp hq
 unfold emb
 dsimp only
 omega
def jr (ns:List Int):List P2:=(bas (wF ns) (eW ns)).map (emb (fF ns))
def m7:List U→Out→Prop:=fun us o=> ∃ (ns:List Int),us=[.scr (ns.map U.int)]∧ns.length≤63∧(∀ m∈ns,Sz 1048576 m)∧o=.new ((jr ns).map pu)
set_option maxHeartbeats 8000000 in
theorem fH (T:Txt K mg):bF P w K mg base (CXF P w) 2 T.a__law_points T.d__law_points ["script"] (spU K (m7)):=by
 refine ck T.F__law_points ak (fun us o h=> ?_) (fun cdv A outer s H E O us o hr h=> ?_)
 ·obtain ⟨ns,rfl,h63,hB,rfl⟩:=h
  rfl
 obtain ⟨ns,rfl,h63,hB,rfl⟩:=h
 refine Ws.nox ?_
 have hm:((ns.map U.int).length:Int)=(ns.length:Int):=by rw [List.length_map]
 have hb:(if (if (63:Int) < ((ns.map U.int).length:Int) then (63:Int) else ((ns.map U.int).length:Int)) > 4 then (if (63:Int) < ((ns.map U.int).length:Int) then (63:Int) else ((ns.map U.int).length:Int)) else 4)=((max 4 (min ns.length 63):Nat):Int):=by
  rw [hm]
  split <;> split <;> omega
 have c0:=fx hB (k:=0) (by decide) (by decide)
 have c1:=fx hB (k:=1) (by decide) (by decide)
 have fz:=o4 ns
 have cok:=lG hB
 have cln:=ki ns
 refine af (aE (i:=1) ak.nd rfl (Or.inl rfl) (ce (bD ((bb T).mono (by decide)) hr rfl T.m__law_cell T.F__law_cell.kp T.b__law_cell aX (ah (aa 0 rfl) (ah ag ao bC) ai) ⟨ns,_,rfl,h63,by decide,by decide,rfl⟩) ag (by walk_at "mod")) ?_)
 refine af (aE (i:=2) ak.nd rfl (Or.inl rfl) (bE (ce (cu (cy (bD ((bb T).mono (by decide)) hr rfl T.m__law_cell T.F__law_cell.kp T.b__law_cell aX (ah (aa 0 rfl) (ah ag ao bC) ai) ⟨ns,_,rfl,h63,by decide,by decide,rfl⟩) ag (by walk_at "div")) ag (by walk_at "mul")) (bS (cu ag (ms ag ag ⟨by decide,by decide,by decide⟩) (by walk_at "mul")) ag) (by decide+kernel)) (ms ag ag ⟨by decide,by decide,by decide⟩)) ?_)
 rw [show cel ns 0 % 8=wF ns from rfl,show cel ns 0 / 8 * 777767777 % (2 * 10 ^ (40:Int).toNat+1) - 10 ^ (40:Int).toNat=fF ns from rfl]
 refine af (gv (ys:=(((List.range (max 4 (min ns.length 63) - 3)).map fun i:Nat=> cel ns (3+(i:Int))).map U.int)) (j:=3) false rfl ak.nd rfl (Or.inl rfl) (blk (aj aP) ["script","way","far","cells","k","points","cell","x","y"] [4] rfl rfl rfl rfl (by decide+kernel)) (iR rfl T.z_range (ah ag (ah (aC (qI rfl) rfl T.z_max boot_max (ah ag (ah (aC (rN rfl) rfl T.z_min boot_min (ah (aC (cB rfl) rfl T.z_len PySem.boot_len (ah (aa 0 rfl) ao ai)) (ah ag ao bC) cM)) ao cM) bC)) ao cM) bC) (by rw [hb]; omega)) (fun _ _ _ _=> fe (i:=4) ak.nd rfl (Or.inl rfl)) (fQ (by decide)) ?clen ?csz (fun _ _=> trivial) ?celt ?_)
 case clen=> rw [be,hb]; simp; omega
 case csz=> rw [be,hb]; exact Nat.le_of_lt (am (by omega))
 case celt=>
  intro C s' H' fp j x y hx hy
  rw [hb] at hx
  obtain ⟨hj,rfl⟩:=cT hx
  rw [List.map_map,List.getElem?_map,List.getElem?_range (by omega)] at hy
  cases hy
  exact (bD ((bb T).mono (by decide)) hr rfl T.m__law_cell T.F__law_cell.kp T.b__law_cell aX (ah (aa 0 rfl) (ah (aa 4 rfl) ao ai) ai) ⟨ns,_,rfl,h63,by omega,by omega,rfl⟩)
 refine b_ (fun ps=> SubP [some (.val (.scr (ns.map U.int))),some (.val (.int (wF ns))),some (.val (.int (fF ns))),some (.val (.lst ((eW ns).map U.int))),none,none,none,none,none] ps) (eN (aQ dk (aa 1 rfl) ag) (fun hT=> ?_) (fun hF=> (az ?_))) ?hj
 ·have h7:=dTb hT
  refine af (gv (ys:=(((List.range (70+cel ns 1 % 31).toNat).map (fun i:Nat=> (0+(i:Int)))).map U.int)) (j:=3) false rfl ak.nd rfl (Or.inl rfl) (blk (aj aP) ["script","way","far","cells","k","points","cell","x","y"] [4] rfl rfl rfl rfl (by decide+kernel)) (iK rfl T.z_range (ah (bS ag (ce (bD ((bb T).mono (by decide)) hr rfl T.m__law_cell T.F__law_cell.kp T.b__law_cell aX (ah (aa 0 rfl) (ah ag ao bC) ai) ⟨ns,_,rfl,h63,by decide,by decide,rfl⟩) ag (by walk_at "mod"))) ao bV) (by omega) (by omega)) (fun _ _ _ _=> fe (i:=4) ak.nd rfl (Or.inl rfl)) (fQ (by decide)) ?clen ?csz (fun _ _=> trivial) ?celt (az ?_))
  case clen=> rw [be]; simp
  case csz=> rw [be]; exact Nat.le_of_lt (am (by omega))
  case celt=>
   intro C s' H' fp j x y hx hy
   obtain ⟨hj,rfl⟩:=cT hx
   rw [List.map_map,List.getElem?_map,List.getElem?_range (by omega)] at hy
   cases hy
   exact (aa 4 rfl)
  refine ⟨rfl,rfl,rfl,?_,trivial⟩
  exact congrArg (fun z=> some (Sl.val (.lst z))) (by unfold eW; rw [if_pos h7])
 ·have h7:=dFb hF
  refine ⟨rfl,rfl,rfl,?_,trivial⟩
  exact congrArg (fun z=> some (Sl.val (.lst z))) (by unfold eW; rw [if_neg h7])
 case hj=>
  intro ps hps
  refine bT ?_ hps
  unfold jr
  generalize fF ns=f at *
  generalize wF ns=w at *
  generalize eW ns=cs at *
  refine af (eC (i:=5) ak.nd rfl (Or.inl rfl) (cH cD) ?_)
  refine af (du (fun B:List P2=> [some (.val (.scr (ns.map U.int))),some (.val (.int w)),some (.val (.int f)),some (.val (.lst (cs.map U.int))),none,some (.own ((B.map (emb f)).map pu)),none,none,none]) (fun i B=> B=bas w (cs.take i)) rfl PassesOwn.never (eH (aa 3 rfl) (.inl rfl)) ?h0 ?hs ?hd)
  case h0=> exact ⟨[],rfl,rfl,rfl,rfl,rfl,rfl,trivial⟩
  case hs=>
   rintro H0 i x _ hx rfl
   have hc:∃ c,cs[i]?=some c∧x=.int c:=by
    rw [List.getElem?_map] at hx
    cases e:cs[i]? with
    | none=> rw [e] at hx; cases hx
    | some c=> rw [e] at hx; cases hx; exact ⟨c,rfl,rfl⟩
   obtain ⟨c,hc,rfl⟩:=hc
   have hi:i < cs.length:=aA hc
   obtain ⟨cz,c7⟩:=cok c (List.mem_of_getElem? hc)
   obtain ⟨bl,bz⟩:=jo w (cs.take i) [] (fun p hp=> by simp at hp) fun d hd=> (cok d (List.mem_of_mem_take hd)).2
   rw [show (cs.take i).foldl (fun B c=> B++[b7 w B c]) []=bas w (cs.take i) from rfl] at bl bz
   have bl':(bas w (cs.take i)).length=i:=by rw [bl]; simp; omega
   have sn:=mv w hc
   refine ⟨_,(dG (i:=6) ak.nd rfl (Or.inl rfl)),?_⟩
   generalize bas w (cs.take i)=B at *
   have hmB:(((B.map (emb f)).map pu).length:Int)=(B.length:Int):=by rw [List.length_map,List.length_map]
   have xz:Sz 8 (c % 13 - 6):=by unfold Sz; omega
   refine af (aE (i:=7) ak.nd rfl (Or.inl rfl) (bE (ce (aa 6 rfl) ag (by walk_at "mod")) ag) ?_)
   refine af (aE (i:=8) ak.nd rfl (Or.inl rfl) (bE (ce (cy (aa 6 rfl) ag (by walk_at "div")) ag (by walk_at "mod")) ag) ?_)
   refine b_ (fun ps=> SubP [some (.val (.scr (ns.map U.int))),some (.val (.int w)),some (.val (.int f)),some (.val (.lst (cs.map U.int))),none,some (.own ((B.map (emb f)).map pu)),some (.val (.int c)),some (.val (.int (c % 13 - 6))),some (.val (.int (y1 w c)))] ps) (eN (aQ dk (aa 1 rfl) ag) (fun hT=> ?_) (fun hF=> (az ?_))) ?hj
   ·refine af (aE (i:=8) ak.nd rfl (Or.inl rfl) (bS (cu ag (aa 7 rfl) (by walk_at "mul")) ag) (az ?_))
    refine ⟨rfl,rfl,rfl,rfl,rfl,rfl,rfl,?_,trivial⟩
    exact congrArg (fun z=> some (Sl.val (.int z))) (by unfold y1; rw [if_pos (dTb hT)])
   ·refine ⟨rfl,rfl,rfl,rfl,rfl,rfl,rfl,?_,trivial⟩
    exact congrArg (fun z=> some (Sl.val (.int z))) (by unfold y1; rw [if_neg (dFb hF)])
   case hj=>
    intro ps hps
    refine bT ?_ hps
    refine b_ (fun ps=> SubP [some (.val (.scr (ns.map U.int))),some (.val (.int w)),some (.val (.int f)),some (.val (.lst (cs.map U.int))),none,some (.own ((B.map (emb f)).map pu)),some (.val (.int c)),some (.val (.int (c % 13 - 6))),some (.val (.int (y2 w c)))] ps) (eN (aQ dk (aa 1 rfl) ag) (fun hT=> ?_) (fun hF=> (az ?_))) ?hj2
    ·refine af (aE (i:=8) ak.nd rfl (Or.inl rfl) (cu (aa 7 rfl) (aa 7 rfl) (by walk_at "mul")) (az ?_))
     refine ⟨rfl,rfl,rfl,rfl,rfl,rfl,rfl,?_,trivial⟩
     exact congrArg (fun z=> some (Sl.val (.int z))) (by unfold y2; rw [if_pos (dTb hT)])
    ·refine ⟨rfl,rfl,rfl,rfl,rfl,rfl,rfl,?_,trivial⟩
     exact congrArg (fun z=> some (Sl.val (.int z))) (by unfold y2; rw [if_neg (dFb hF)])
    case hj2=>
     intro ps hps
     refine bT ?_ hps
     refine b_ (fun ps=> SubP [some (.val (.scr (ns.map U.int))),some (.val (.int w)),some (.val (.int f)),some (.val (.lst (cs.map U.int))),none,some (.own ((B.map (emb f)).map pu)),some (.val (.int c)),some (.val (.int (x1 w c))),some (.val (.int (y2 w c)))] ps) (eN (aQ dk (aa 1 rfl) ag) (fun hT=> ?_) (fun hF=> (az ?_))) ?hj3
     ·refine af (aE (i:=7) ak.nd rfl (Or.inl rfl) ag (az ?_))
      refine ⟨rfl,rfl,rfl,rfl,rfl,rfl,?_,rfl,trivial⟩
      exact congrArg (fun z=> some (Sl.val (.int z))) (by unfold x1; rw [if_pos (dTb hT)])
     ·refine ⟨rfl,rfl,rfl,rfl,rfl,rfl,?_,rfl,trivial⟩
      exact congrArg (fun z=> some (Sl.val (.int z))) (by unfold x1; rw [if_neg (dFb hF)])
     case hj3=>
      intro ps hps
      refine bT ?_ hps
      refine b_ (fun ps=> SubP [some (.val (.scr (ns.map U.int))),some (.val (.int w)),some (.val (.int f)),some (.val (.lst (cs.map U.int))),none,some (.own ((B.map (emb f)).map pu)),some (.val (.int c)),some (.val (.int (b6 w B c).1)),some (.val (.int (b6 w B c).2))] ps) (eN (Tw.t (ka (aQ dk (aa 1 rfl) ag) (fun hz=> (i8 (aQ eX (df 5 rfl rfl T.z_len) ag))))) (fun hT=> ?_) (fun hF=> (az ?_))) ?hj4
      ·rw [hmB] at hT
       have h6:w=6∧0 < B.length:=by simpa using hT
       have hat:atI ((B.map (emb f)).map pu) 0=some (pu (emb f (gp B 0))):=mt (i:=0) rfl (by rw [List.getElem?_map,List.getElem?_map,iq h6.2]; rfl)
       have e6:b6 w B c=gp B 0:=by unfold b6; rw [if_pos ⟨h6.1,List.length_pos_iff.mp h6.2⟩]
       refine af (aE (i:=7) ak.nd rfl (Or.inl rfl) (cy (bE (bB (gi 5 rfl ag hat) ag rfl rfl) (aa 2 rfl)) ag (by walk_at "div")) ?_)
       refine af (aE (i:=8) ak.nd rfl (Or.inl rfl) (cy (bS (bB (gi 5 rfl ag hat) ag rfl rfl) (aa 2 rfl)) ag (by walk_at "div")) (az ?_))
       rw [e6]
       refine ⟨rfl,rfl,rfl,rfl,rfl,rfl,?_,?_,trivial⟩
       ·exact congrArg (fun z=> some (Sl.val (.int z))) (show (6 * (gp B 0).1+f - f) / 6=(gp B 0).1 by omega)
       ·exact congrArg (fun z=> some (Sl.val (.int z))) (show (6 * (gp B 0).2 - f+f) / 6=(gp B 0).2 by omega)
      ·rw [hmB] at hF
       have h6:¬ (w=6∧B≠[]):=fun z=> by
        have:=List.length_pos_iff.mpr z.2
        rw [decide_eq_true z.1,decide_eq_true (show (0:Int) < (B.length:Int) by omega)] at hF
        cases hF
       have e6:b6 w B c=(x1 w c,y2 w c):=by unfold b6; rw [if_neg h6]
       rw [e6]
       exact ⟨rfl,rfl,rfl,rfl,rfl,rfl,rfl,rfl,trivial⟩
      case hj4=>
       intro ps hps
       refine bT ?_ hps
       refine b_ (fun ps=> SubP [some (.val (.scr (ns.map U.int))),some (.val (.int w)),some (.val (.int f)),some (.val (.lst (cs.map U.int))),none,some (.own ((B.map (emb f)).map pu)),some (.val (.int c)),some (.val (.int (b7 w B c).1)),some (.val (.int (b7 w B c).2))] ps) (eN (aQ dk (aa 1 rfl) ag) (fun hT=> ?_) (fun hF=> (az ?_))) ?hj5
       ·have h7:=dTb hT
        have hc7:=c7 h7
        clear cz
        have cz8:Sz 8 c:=by unfold Sz; omega
        have e7:b7 w B c=(c,0 - c * c):=by unfold b7; rw [if_pos h7]
        refine af (aE (i:=7) ak.nd rfl (Or.inl rfl) (aa 6 rfl) ?_)
        refine af (aE (i:=8) ak.nd rfl (Or.inl rfl) (bE ag (cu (aa 6 rfl) (aa 6 rfl) (by walk_at "mul"))) (az ?_))
        rw [e7]
        exact ⟨rfl,rfl,rfl,rfl,rfl,rfl,rfl,rfl,trivial⟩
       ·have e7:b7 w B c=b6 w B c:=by unfold b7; rw [if_neg (dFb hF)]
        rw [e7]
        exact ⟨rfl,rfl,rfl,rfl,rfl,rfl,rfl,rfl,trivial⟩
       case hj5=>
        intro ps hps
        refine bT ?_ hps
        have z:=oT bz c7
        have z1:=z.1
        have z2:=z.2
        refine af (bY 5 rfl (gP (bh (bS (cu ag (aa 7 rfl) (by walk_at "mul")) (aa 2 rfl)) (bh (bE (cu ag (aa 8 rfl) (by walk_at "mul")) (aa 2 rfl)) cD bV) bV)) (by rw [List.length_map,List.length_map]; exact am (by omega)) (az ?_))
        refine ⟨B++[b7 w B c],sn.symm,rfl,rfl,rfl,rfl,?_,trivial⟩
        exact congrArg (fun l=> some (Sl.own l)) (by rw [List.map_append,List.map_append]; rfl)
  case hd=>
   rintro _ ps rfl hps
   refine bT ?_ hps
   rw [List.length_map,List.take_length]
   refine af (fT 5 rfl ?_)
   exact rfl
end
section
variable {P:Program} {w:World} {K:PySem.W.Frag} {mg:Str→Option Value} {base:Heap}
set_option maxHeartbeats 8000000 in
theorem qx (T:Txt K mg):bF P w K mg base (CXF P w) 7 T.a_law T.d_law ["script"] (spU K (eE)):=by
 refine ck T.F_law di (fun us o h=> ?_) (fun cdv A outer s H E O us o hr h=> ?_)
 ·obtain ⟨ns,rfl,h63,hB,rfl⟩:=h
  rfl
 obtain ⟨ns,rfl,h63,hB,rfl⟩:=h
 refine Ws.nox ?_
 have c1:=fx hB (k:=1) (by decide) (by decide)
 have c2:=fx hB (k:=2) (by decide) (by decide)
 have cln:=ki ns
 obtain ⟨bl,bz⟩:=jo (wF ns) (eW ns) [] (fun p hp=> by simp at hp) fun d hd=> (lG hB d hd).2
 have pl:(jr ns).length=(eW ns).length:=by unfold jr bas; rw [List.length_map,bl]; simp
 have pz:∀ p∈jr ns,Szp 200 p:=fun p hp=> by
  obtain ⟨q,hq,rfl⟩:=List.mem_map.mp hp
  exact qr (o4 ns) (bz q hq)
 have ev:fR (jr ns):=lQ _ _
 refine af (aE (i:=1) di.nd rfl (Or.inl rfl) (EvN.ev (cr ((fH T).mono (by decide)) hr rfl T.m__law_points T.F__law_points.kp T.b__law_points aX (ah (aa 0 rfl) ao ai) ⟨ns,rfl,h63,hB,rfl⟩)) ?_)
 generalize jr ns=P at *
 have pne:P≠[]:=fun e=> by rw [e] at pl; simp at pl; omega
 refine af (aE (i:=2) di.nd rfl (Or.inl rfl) (EvN.ev (cr ((dj T).mono (by decide)) hr rfl T.m__law_corners T.F__law_corners.kp T.b__law_corners aX (ah (aa 1 rfl) ao ai) ⟨P,rfl,d8 (by decide) pz,by omega,rfl⟩)) ?_)
 have hzz:∀ {p q:P2},Szp 200 p→Szp 200 q→Szp 1000 (hlf p q):=fun hp hq=> ⟨((L2.Sz.add' hp.1 hq.1).ediv).mono (by decide),((L2.Sz.add' hp.2 hq.2).ediv).mono (by decide)⟩
 have lcc:al (al P)=al P:=eK P
 have lne:al P≠[]:=nT pne
 have ll:(al P).length≤100:=Nat.le_trans (oM P) (by omega)
 have lsub:=dC P
 have lz:∀ p∈al P,Szp 200 p:=fun p hp=> pz p (lsub p hp)
 have lev:fR (al P):=fun p hp q hq=> ev p (lsub p hp) q (lsub q hq)
 have P0:0 < P.length:=by omega
 have mxc:=lZ P0 (by omega) ev (cel ns 1)
 obtain ⟨mxl,mxs⟩:=n5 P0 (cel ns 1)
 have mxz:∀ p∈fj P (cel ns 1),Szp 1000 p:=fun p hp=> by
  rcases mxs p hp with m | ⟨a,ha,b,hb,rfl⟩
  ·have z:=pz p m; exact ⟨z.1.mono (by decide),z.2.mono (by decide)⟩
  ·exact hzz (pz a ha) (pz b hb)
 have three:∀ l∈[P,fj P (cel ns 1),al P],(∀ p∈l,Szp 1000 p)∧l.length≤400∧l≠[]∧al l=al P:=fun l hl=> by
  simp only [List.mem_cons,List.not_mem_nil,or_false] at hl
  rcases hl with rfl | rfl | rfl
  ·exact ⟨d8 (by decide) pz,by omega,pne,rfl⟩
  ·exact ⟨mxz,by omega,fun e=> lne (by rw [← mxc,e]; rfl),mxc⟩
  ·exact ⟨d8 (by decide) lz,by omega,lne,lcc⟩
 have mxsp:i0 [lp P,.int (cel ns 1)] (.new ((fj P (cel ns 1)).map pu)):=⟨P,_,rfl,P0,by omega,d8 (by decide) pz,rfl⟩
 generalize hland:al P=land at *
 generalize fj P (cel ns 1)=mx at *
 refine b_ (fun ps=> SubP [some (.val (.scr (ns.map U.int))),none,some (.val (lp land)),none,none,none,none,none] ps) (du (fun _:Unit=> [some (.val (.scr (ns.map U.int))),some (.val (lp P)),some (.val (lp land)),none,none,none,none,none]) (fun _ _=> True) rfl PassesOwn.never (eH (EvN.ev (cH (bh (aa 1 rfl) (bh (EvN.ev (cr ((fX T).mono (by decide)) hr rfl T.m__law_mixed T.F__law_mixed.kp T.b__law_mixed aX (ah (aa 1 rfl) (ah (bD ((bb T).mono (by decide)) hr rfl T.m__law_cell T.F__law_cell.kp T.b__law_cell aX (ah (aa 0 rfl) (ah ag ao bC) ai) ⟨ns,_,rfl,h63,by decide,by decide,rfl⟩) ao cM) ai) mxsp)) (bh (aa 2 rfl) cD ai) cM) ai))) (.inl rfl)) ?h0 ?hs ?hd) ?hj
 case h0=> exact ⟨(),trivial,rfl,rfl,rfl,trivial⟩
 case hs=>
  intro H0 i x _ hx _
  obtain ⟨l,hl,rfl⟩:∃ l∈[P,mx,land],x=lp l:=by
   match i,hx with
   | 0,hx=> cases hx; exact ⟨P,by simp,rfl⟩
   | 1,hx=> cases hx; exact ⟨mx,by simp,rfl⟩
   | 2,hx=> cases hx; exact ⟨land,by simp,rfl⟩
   | i+3,hx=> simp at hx
  obtain ⟨t1,t2,t3,t4⟩:=three l hl
  refine ⟨_,(dG (i:=3) di.nd rfl (Or.inl rfl)),?_⟩
  refine af (aE (i:=4) di.nd rfl (Or.inl rfl) (EvN.ev (g8 (jd rfl) rfl T.z_list boot_list (ah (aa 3 rfl) ao ai))) ?_)
  refine af (eC (i:=5) di.nd rfl (Or.inl rfl) (cr ((il T).mono (by decide)) hr rfl T.m_field T.F_field.kp T.b_field aX (ah (aa 4 rfl) ao ai) ⟨l,rfl,d8 (by decide) t1,t2,by rw [if_neg t3]⟩) ?_)
  rw [t4]
  refine af (dB (eu (d0 (og 5 rfl ((fW T).mono (by decide)) hr rfl T.m__law_alike T.F__law_alike.kp T.b__law_alike aX (ah (aa 2 rfl) ao ai) ⟨land,land,rfl,rfl⟩))) (show (!decide (land=land))=false by simp) (az ?_))
  refine af (bY 5 rfl (gP (bh ag (bh ag cD bC) bC)) (by rw [List.length_map]; exact am (by omega)) ?_)
  refine af (dB (aQ (qu (fM hr) (dl _) (dl _)) (aa 4 rfl) (aa 3 rfl)) (show (!eqW (lp l) (lp l))=false by rw [eJ]; simp) (az (az ?_)))
  exact ⟨(),trivial,rfl,rfl,rfl,trivial⟩
 case hd=>
  rintro _ ps _ hps
  exact SubP.trans (by exact ⟨rfl,rfl,trivial⟩) hps
 case hj=>
  intro ps hps
  refine bT ?_ hps
  have l0:0 < land.length:=List.length_pos_iff.mpr lne
  have hmL:((land.map pu).length:Int)=(land.length:Int):=by rw [List.length_map]
  have lz5:∀ p∈land,Szp 5000 p:=d8 (by decide) lz
  have m0:gp land 0∈land:=aR l0
  refine af (dB (Tw.t (mV (eu (d0 (bD ((bH T).mono (by decide)) hr rfl T.m__law_asked T.F__law_asked.kp T.b__law_asked aX (ah (aa 2 rfl) (ah jm ao bC) ai) ⟨land,true,rfl,lz5,by omega,m4 lne lcc,rfl⟩))) (fun hz=> (mV (eu (d0 (bD ((bH T).mono (by decide)) hr rfl T.m__law_asked T.F__law_asked.kp T.b__law_asked aX (ah (EvN.ev (cH cD)) (ah jm ao bC) p9) ⟨[],false,rfl,fun p hp=> by simp at hp,Nat.zero_le _,rfl,rfl⟩))) (fun hz=> (kf (eu (d0 (bD ((bH T).mono (by decide)) hr rfl T.m__law_asked T.F__law_asked.kp T.b__law_asked aX (ah (EvN.ev (cm (aa 2 rfl) (EvN.ev (cH (bh (bB (aa 2 rfl) ag rfl (gl (i:=0) (by decide) l0)) cD d9))) (by rw [List.length_map]; exact Nat.le_of_lt (am (by simp; omega))))) (ah jm ao bC) bV) ⟨land++[gp land 0],false,by simp [lp],fun p hp=> by
   rcases List.mem_append.mp hp with m | m
   ·exact lz5 p m
   ·rw [List.mem_singleton.mp m]; exact lz5 _ m0,by simp; omega,oO lcc m0,rfl⟩))))))))) (show (!true || (!true || !true))=false from rfl) (az ?_))
  by_cases h1:land.length=1
  ·refine af (i5 (aQ dk (aC (cB rfl) rfl T.z_len PySem.boot_len (ah (aa 2 rfl) ao ai)) ag) (by rw [hmL]; exact decide_eq_true (by omega)) ?_)
   refine af (cC jm ?_)
   exact vB rfl
  refine af (dB (aQ dk (aC (cB rfl) rfl T.z_len PySem.boot_len (ah (aa 2 rfl) ao ai)) ag) (by rw [hmL]; exact decide_eq_false (by omega)) (az ?_))
  have h2:2≤land.length:=by omega
  have sc2:Sz 1048576 (cel ns 2 % 10 ^ (12:Int).toNat):=by
   have e:=aG (cel ns 2) (n:=10 ^ (12:Int).toNat) (by decide+kernel)
   have z:Sz 64 ((10:Int) ^ (12:Int).toNat):=by decide+kernel
   exact (Sz.le (by omega) z).mono (by decide)
  have lok:=om lcc h2 lev (cel ns 2 % 10 ^ (12:Int).toNat)
  have lin:=nQ h2 (cel ns 2 % 10 ^ (12:Int).toNat)
  have hlsp:fq [lp land,.int (cel ns 2 % 10 ^ (12:Int).toNat)] (.new ((jA land (cel ns 2 % 10 ^ (12:Int).toNat)).map lp)):=⟨land,_,rfl,h2,ll,d8 (by decide) lz,sc2,rfl⟩
  have iI:mI land (cel ns 2 % 10 ^ (12:Int).toNat) < land.length:=by have:=aG (cel ns 2 % 10 ^ (12:Int).toNat) (n:=(land.length:Int)) (by omega); unfold mI; omega
  have iJ:mJ land (cel ns 2 % 10 ^ (12:Int).toNat) < land.length:=by unfold mJ; exact (fun x=> by have:=aG x (n:=(land.length:Int)) (by omega); omega:∀ x:Int,(x % (land.length:Int)).toNat < land.length) _
  have hz:=hzz (lz _ (aR iI)) (lz _ (aR iJ))
  refine b_ (fun ps=> SubP [some (.val (.scr (ns.map U.int))),none,some (.val (lp land)),none,none,none,none,none] ps) (du (fun _:Unit=> [some (.val (.scr (ns.map U.int))),none,some (.val (lp land)),none,none,none,none,none]) (fun _ _=> True) rfl PassesOwn.never (eH (EvN.ev (cr ((gb T).mono (by decide)) hr rfl T.m__law_lists T.F__law_lists.kp T.b__law_lists aX (ah (aa 2 rfl) (ah (ce (bD ((bb T).mono (by decide)) hr rfl T.m__law_cell T.F__law_cell.kp T.b__law_cell aX (ah (aa 0 rfl) (ah ag ao bC) ai) ⟨ns,_,rfl,h63,by decide,by decide,rfl⟩) (ms ag ag ⟨by decide,by decide,by decide⟩) (by decide+kernel)) ao bV) ai) hlsp)) (.inl rfl)) ?h02 ?hs2 ?hd2) ?hj2
  case h02=> exact ⟨(),trivial,rfl,rfl,trivial⟩
  case hs2=>
   intro H1 j y _ hy _
   obtain ⟨m,hm,rfl⟩:=List.mem_map.mp (List.mem_of_getElem? hy)
   obtain ⟨n1,n2⟩:=lin m hm
   have mz:∀ p∈m,Szp 5000 p:=fun p hp=> by
    rcases n2 p hp with k | k
    ·exact lz5 p k
    ·rw [k]; exact ⟨hz.1.mono (by decide),hz.2.mono (by decide)⟩
   refine ⟨_,(dG (i:=3) di.nd rfl (Or.inl rfl)),?_⟩
   refine af (dB (eu (d0 (bD ((bH T).mono (by decide)) hr rfl T.m__law_asked T.F__law_asked.kp T.b__law_asked aX (ah (aa 3 rfl) (ah jm ao bC) ai) ⟨m,false,rfl,mz,by omega,lok m hm,rfl⟩))) (show (!true)=false from rfl) (az (az ?_)))
   exact ⟨(),trivial,rfl,rfl,trivial⟩
  case hd2=>
   rintro _ ps2 _ hps2
   exact hps2
  case hj2=>
   intro ps2 hps2
   refine bT ?_ hps2
   have ha:=aG (cel ns 2 / 7) (n:=(land.length:Int)) (by omega)
   refine af (aE (i:=6) di.nd rfl (Or.inl rfl) (ce (cy (bD ((bb T).mono (by decide)) hr rfl T.m__law_cell T.F__law_cell.kp T.b__law_cell aX (ah (aa 0 rfl) (ah ag ao bC) ai) ⟨ns,_,rfl,h63,by decide,by decide,rfl⟩) ag (by walk_at "div")) (aC (cB rfl) rfl T.z_len PySem.boot_len (ah (aa 2 rfl) ao ai)) (by rw [hmL]; omega)) ?_)
   rw [hmL]
   generalize cel ns 2 / 7 % (land.length:Int)=a at *
   refine af (aE (i:=7) di.nd rfl (Or.inl rfl) (EvN.ev (cm (EvN.ev (aI (aa 2 rfl) bg (aV (aa 6 rfl)) (.inl rfl))) (EvN.ev (aI (aa 2 rfl) (aV (bS (aa 6 rfl) ag)) bg (.inl rfl))) (by simp [cG]; exact Nat.le_of_lt (am (by omega))))) ?_)
   rw [d5 land ha.1,eP land (k:=a+1) (by omega) (by omega),← List.map_append]
   have rz:∀ p∈land.take a.toNat++land.drop (a+1).toNat,Szp 5000 p:=fun p hp=> lz5 p ((List.mem_append.mp hp).elim (fun h=> List.mem_of_mem_take h) fun h=> List.mem_of_mem_drop h)
   have rl:(land.take a.toNat++land.drop (a+1).toNat).length=land.length - 1:=by simp; omega
   generalize land.take a.toNat++land.drop (a+1).toNat=rest at *
   have rne:rest≠[]:=fun e=> by rw [e] at rl; simp at rl; omega
   refine af (cC (bD ((bH T).mono (by decide)) hr rfl T.m__law_asked T.F__law_asked.kp T.b__law_asked aX (ah (aa 7 rfl) (ah (gf (oh (fM hr) (dl _) (dl _)) (aa 7 rfl) (EvN.ev (cr ((dj T).mono (by decide)) hr rfl T.m__law_corners T.F__law_corners.kp T.b__law_corners aX (ah (aa 7 rfl) ao ai) ⟨rest,rfl,rz,by omega,rfl⟩))) ao pq) ai) ⟨rest,_,rfl,rz,by omega,(show isF rest=eqW (lp rest) (lp (al rest)) by unfold isF; rw [if_neg rne,eJ]),rfl⟩) ?_)
   exact vB rfl
end
theorem ar1 {p:List Value→Prop} {us:List Value} (h:us.length=1) (q:∀ a0,p [a0]):p us:=match us,h with | [a0],_=> q a0
theorem ar2 {p:List Value→Prop} {us:List Value} (h:us.length=2) (q:∀ a0 a1,p [a0,a1]):p us:=match us,h with | [a0,a1],_=> q a0 a1
theorem ar3 {p:List Value→Prop} {us:List Value} (h:us.length=3) (q:∀ a0 a1 a2,p [a0,a1,a2]):p us:=match us,h with | [a0,a1,a2],_=> q a0 a1 a2
set_option maxHeartbeats 8000000 in
theorem txt_mk {K:PySem.W.Frag} {h:Heap} {mg:Str→Option Value} {fa f0 f1 f2 f3 f4 f5 f6 f7 f8 f9 f10 f11 f12 f13 f14 c_NoField:Addr} (X:K.In h) (G:h.Ns mainGlobals mg) (hfa:mg "law"=some (.ref fa))
  {od0 an0 od1 an1 od2 an2 od3 an3 od4 an4 od5 an5 od6 an6 od7 an7 od8 an8 od9 an9 od10 an10 od11 an11 od12 an12 od13 an13 od14 an14:Option Addr} {sl0 sl1 sl2 sl3 sl4 sl5 sl6 sl7 sl8 sl9 sl10 sl11 sl12 sl13 sl14:Array (Option Value)} {oc0 kV0 dc0 pm0 cd0 ct0 oc1 kV1 dc1 pm1 cd1 ct1 oc2 kV2 dc2 pm2 cd2 ct2 oc3 kV3 dc3 pm3 cd3 ct3 oc4 kV4 dc4 pm4 cd4 ct4 oc5 kV5 dc5 pm5 cd5 ct5 oc6 kV6 dc6 pm6 cd6 ct6 oc7 kV7 dc7 pm7 cd7 ct7 oc8 kV8 dc8 pm8 cd8 ct8 oc9 kV9 dc9 pm9 cd9 ct9 oc10 kV10 dc10 pm10 cd10 ct10 oc11 kV11 dc11 pm11 cd11 ct11 oc12 kV12 dc12 pm12 cd12 ct12 oc13 kV13 dc13 pm13 cd13 ct13 oc14 kV14 dc14 pm14 cd14 ct14:Value}
  (a0:PySem.W.nsIn K mainGlobals "sign"=some (some (.ref f0))) (l0:K.lookup f0=some ⟨oc0,od0,.func (PySem.W.fnOf "sign" "sign" (aH eM) (aB eM) (aj eM) .none kV0 dc0 pm0 an0 cd0 ct0),sl0⟩) (c0:PySem.W.codeIn K cd0 "sign"=true) (k0:PySem.W.keepIn K (.ref f0)=true)
  (a1:PySem.W.nsIn K mainGlobals "turn"=some (some (.ref f1))) (l1:K.lookup f1=some ⟨oc1,od1,.func (PySem.W.fnOf "turn" "turn" (aH eQ) (aB eQ) (aj eQ) .none kV1 dc1 pm1 an1 cd1 ct1),sl1⟩) (c1:PySem.W.codeIn K cd1 "turn"=true) (k1:PySem.W.keepIn K (.ref f1)=true)
  (a2:PySem.W.nsIn K mainGlobals "left_bends"=some (some (.ref f2))) (l2:K.lookup f2=some ⟨oc2,od2,.func (PySem.W.fnOf "left_bends" "left_bends" (aH bx) (aB bx) (aj bx) .none kV2 dc2 pm2 an2 cd2 ct2),sl2⟩) (c2:PySem.W.codeIn K cd2 "left_bends"=true) (k2:PySem.W.keepIn K (.ref f2)=true)
  (a3:PySem.W.nsIn K mainGlobals "field"=some (some (.ref f3))) (l3:K.lookup f3=some ⟨oc3,od3,.func (PySem.W.fnOf "field" "field" (aH dJ) (aB dJ) (aj dJ) .none kV3 dc3 pm3 an3 cd3 ct3),sl3⟩) (c3:PySem.W.codeIn K cd3 "field"=true) (k3:PySem.W.keepIn K (.ref f3)=true)
  (a4:PySem.W.nsIn K mainGlobals "is_field"=some (some (.ref f4))) (l4:K.lookup f4=some ⟨oc4,od4,.func (PySem.W.fnOf "is_field" "is_field" (aH bU) (aB bU) (aj bU) .none kV4 dc4 pm4 an4 cd4 ct4),sl4⟩) (c4:PySem.W.codeIn K cd4 "is_field"=true) (k4:PySem.W.keepIn K (.ref f4)=true)
  (a5:PySem.W.nsIn K mainGlobals "_law_cell"=some (some (.ref f5))) (l5:K.lookup f5=some ⟨oc5,od5,.func (PySem.W.fnOf "_law_cell" "_law_cell" (aH bM) (aB bM) (aj bM) .none kV5 dc5 pm5 an5 cd5 ct5),sl5⟩) (c5:PySem.W.codeIn K cd5 "_law_cell"=true) (k5:PySem.W.keepIn K (.ref f5)=true)
  (a6:PySem.W.nsIn K mainGlobals "_law_side"=some (some (.ref f6))) (l6:K.lookup f6=some ⟨oc6,od6,.func (PySem.W.fnOf "_law_side" "_law_side" (aH bO) (aB bO) (aj bO) .none kV6 dc6 pm6 an6 cd6 ct6),sl6⟩) (c6:PySem.W.codeIn K cd6 "_law_side"=true) (k6:PySem.W.keepIn K (.ref f6)=true)
  (a7:PySem.W.nsIn K mainGlobals "_law_half"=some (some (.ref f7))) (l7:K.lookup f7=some ⟨oc7,od7,.func (PySem.W.fnOf "_law_half" "_law_half" (aH bP) (aB bP) (aj bP) .none kV7 dc7 pm7 an7 cd7 ct7),sl7⟩) (c7:PySem.W.codeIn K cd7 "_law_half"=true) (k7:PySem.W.keepIn K (.ref f7)=true)
  (a8:PySem.W.nsIn K mainGlobals "_law_corners"=some (some (.ref f8))) (l8:K.lookup f8=some ⟨oc8,od8,.func (PySem.W.fnOf "_law_corners" "_law_corners" (aH a_) (aB a_) (aj a_) .none kV8 dc8 pm8 an8 cd8 ct8),sl8⟩) (c8:PySem.W.codeIn K cd8 "_law_corners"=true) (k8:PySem.W.keepIn K (.ref f8)=true)
  (a9:PySem.W.nsIn K mainGlobals "_law_points"=some (some (.ref f9))) (l9:K.lookup f9=some ⟨oc9,od9,.func (PySem.W.fnOf "_law_points" "_law_points" (aH aP) (aB aP) (aj aP) .none kV9 dc9 pm9 an9 cd9 ct9),sl9⟩) (c9:PySem.W.codeIn K cd9 "_law_points"=true) (k9:PySem.W.keepIn K (.ref f9)=true)
  (a10:PySem.W.nsIn K mainGlobals "_law_mixed"=some (some (.ref f10))) (l10:K.lookup f10=some ⟨oc10,od10,.func (PySem.W.fnOf "_law_mixed" "_law_mixed" (aH bp) (aB bp) (aj bp) .none kV10 dc10 pm10 an10 cd10 ct10),sl10⟩) (c10:PySem.W.codeIn K cd10 "_law_mixed"=true) (k10:PySem.W.keepIn K (.ref f10)=true)
  (a11:PySem.W.nsIn K mainGlobals "_law_alike"=some (some (.ref f11))) (l11:K.lookup f11=some ⟨oc11,od11,.func (PySem.W.fnOf "_law_alike" "_law_alike" (aH bq) (aB bq) (aj bq) .none kV11 dc11 pm11 an11 cd11 ct11),sl11⟩) (c11:PySem.W.codeIn K cd11 "_law_alike"=true) (k11:PySem.W.keepIn K (.ref f11)=true)
  (a12:PySem.W.nsIn K mainGlobals "_law_lists"=some (some (.ref f12))) (l12:K.lookup f12=some ⟨oc12,od12,.func (PySem.W.fnOf "_law_lists" "_law_lists" (aH bd) (aB bd) (aj bd) .none kV12 dc12 pm12 an12 cd12 ct12),sl12⟩) (c12:PySem.W.codeIn K cd12 "_law_lists"=true) (k12:PySem.W.keepIn K (.ref f12)=true)
  (a13:PySem.W.nsIn K mainGlobals "_law_asked"=some (some (.ref f13))) (l13:K.lookup f13=some ⟨oc13,od13,.func (PySem.W.fnOf "_law_asked" "_law_asked" (aH bw) (aB bw) (aj bw) .none kV13 dc13 pm13 an13 cd13 ct13),sl13⟩) (c13:PySem.W.codeIn K cd13 "_law_asked"=true) (k13:PySem.W.keepIn K (.ref f13)=true)
  (a14:PySem.W.nsIn K mainGlobals "law"=some (some (.ref f14))) (l14:K.lookup f14=some ⟨oc14,od14,.func (PySem.W.fnOf "law" "law" (aH gq) (aB gq) (aj gq) .none kV14 dc14 pm14 an14 cd14 ct14),sl14⟩) (c14:PySem.W.codeIn K cd14 "law"=true) (k14:PySem.W.keepIn K (.ref f14)=true)
  (e_NoField:PySem.W.nsIn K mainGlobals "NoField"=some (some (.ref c_NoField))) (x_NoField:PySem.W.excIn K c_NoField [.type "ValueError",.type "Exception",.type "BaseException",.type "object"] "ValueError.__new__"=true)
  (z_bool:PySem.W.nsIn K mainGlobals "bool"=some none)
  (z_int:PySem.W.nsIn K mainGlobals "int"=some none)
  (z_isinstance:PySem.W.nsIn K mainGlobals "isinstance"=some none)
  (z_len:PySem.W.nsIn K mainGlobals "len"=some none)
  (z_list:PySem.W.nsIn K mainGlobals "list"=some none)
  (z_max:PySem.W.nsIn K mainGlobals "max"=some none)
  (z_min:PySem.W.nsIn K mainGlobals "min"=some none)
  (z_range:PySem.W.nsIn K mainGlobals "range"=some none)
  (z_reversed:PySem.W.nsIn K mainGlobals "reversed"=some none)
  (z_set:PySem.W.nsIn K mainGlobals "set"=some none)
  (z_sorted:PySem.W.nsIn K mainGlobals "sorted"=some none)
  (z_tuple:PySem.W.nsIn K mainGlobals "tuple"=some none)
  :∃ T:Txt K mg,T.a_law=fa∧(∀ (s:Shared) (v:Value),BindsTo s T.d_law ⟨[v],[]⟩ [("script",v)]):=by
 have e:=hfa.symm.trans (PySem.W.mg_of X G a14)
 cases e
 have F0:=bK (st:=eM) l0 c0 k0
 have b0:=F0.binds (ps:=["number"]) fun _ _ _ _ _ _ us hl=> ar1 (p:=fun us=> bindArgs _ ⟨us,[]⟩=pure (List.zip _ us)) hl fun _=> rfl
 have F1:=bK (st:=eQ) l1 c1 k1
 have b1:=F1.binds (ps:=["P","Q","R"]) fun _ _ _ _ _ _ us hl=> ar3 (p:=fun us=> bindArgs _ ⟨us,[]⟩=pure (List.zip _ us)) hl fun _ _ _=> rfl
 have F2:=bK (st:=bx) l2 c2 k2
 have b2:=F2.binds (ps:=["row"]) fun _ _ _ _ _ _ us hl=> ar1 (p:=fun us=> bindArgs _ ⟨us,[]⟩=pure (List.zip _ us)) hl fun _=> rfl
 have F3:=bK (st:=dJ) l3 c3 k3
 have b3:=F3.binds (ps:=["points"]) fun _ _ _ _ _ _ us hl=> ar1 (p:=fun us=> bindArgs _ ⟨us,[]⟩=pure (List.zip _ us)) hl fun _=> rfl
 have F4:=bK (st:=bU) l4 c4 k4
 have b4:=F4.binds (ps:=["points"]) fun _ _ _ _ _ _ us hl=> ar1 (p:=fun us=> bindArgs _ ⟨us,[]⟩=pure (List.zip _ us)) hl fun _=> rfl
 have F5:=bK (st:=bM) l5 c5 k5
 have b5:=F5.binds (ps:=["script","k"]) fun _ _ _ _ _ _ us hl=> ar2 (p:=fun us=> bindArgs _ ⟨us,[]⟩=pure (List.zip _ us)) hl fun _ _=> rfl
 have F6:=bK (st:=bO) l6 c6 k6
 have b6:=F6.binds (ps:=["a","b","p"]) fun _ _ _ _ _ _ us hl=> ar3 (p:=fun us=> bindArgs _ ⟨us,[]⟩=pure (List.zip _ us)) hl fun _ _ _=> rfl
 have F7:=bK (st:=bP) l7 c7 k7
 have b7:=F7.binds (ps:=["points"]) fun _ _ _ _ _ _ us hl=> ar1 (p:=fun us=> bindArgs _ ⟨us,[]⟩=pure (List.zip _ us)) hl fun _=> rfl
 have F8:=bK (st:=a_) l8 c8 k8
 have b8:=F8.binds (ps:=["points"]) fun _ _ _ _ _ _ us hl=> ar1 (p:=fun us=> bindArgs _ ⟨us,[]⟩=pure (List.zip _ us)) hl fun _=> rfl
 have F9:=bK (st:=aP) l9 c9 k9
 have b9:=F9.binds (ps:=["script"]) fun _ _ _ _ _ _ us hl=> ar1 (p:=fun us=> bindArgs _ ⟨us,[]⟩=pure (List.zip _ us)) hl fun _=> rfl
 have F10:=bK (st:=bp) l10 c10 k10
 have b10:=F10.binds (ps:=["points","at"]) fun _ _ _ _ _ _ us hl=> ar2 (p:=fun us=> bindArgs _ ⟨us,[]⟩=pure (List.zip _ us)) hl fun _ _=> rfl
 have F11:=bK (st:=bq) l11 c11 k11
 have b11:=F11.binds (ps:=["found","due"]) fun _ _ _ _ _ _ us hl=> ar2 (p:=fun us=> bindArgs _ ⟨us,[]⟩=pure (List.zip _ us)) hl fun _ _=> rfl
 have F12:=bK (st:=bd) l12 c12 k12
 have b12:=F12.binds (ps:=["land","cell"]) fun _ _ _ _ _ _ us hl=> ar2 (p:=fun us=> bindArgs _ ⟨us,[]⟩=pure (List.zip _ us)) hl fun _ _=> rfl
 have F13:=bK (st:=bw) l13 c13 k13
 have b13:=F13.binds (ps:=["some","due"]) fun _ _ _ _ _ _ us hl=> ar2 (p:=fun us=> bindArgs _ ⟨us,[]⟩=pure (List.zip _ us)) hl fun _ _=> rfl
 have F14:=bK (st:=gq) l14 c14 k14
 have b14:=F14.binds (ps:=["script"]) fun _ _ _ _ _ _ us hl=> ar1 (p:=fun us=> bindArgs _ ⟨us,[]⟩=pure (List.zip _ us)) hl fun _=> rfl
 exact ⟨⟨_,_,F0,b0,PySem.W.mg_of X G a0,_,_,F1,b1,PySem.W.mg_of X G a1,_,_,F2,b2,PySem.W.mg_of X G a2,_,_,F3,b3,PySem.W.mg_of X G a3,_,_,F4,b4,PySem.W.mg_of X G a4,_,_,F5,b5,PySem.W.mg_of X G a5,_,_,F6,b6,PySem.W.mg_of X G a6,_,_,F7,b7,PySem.W.mg_of X G a7,_,_,F8,b8,PySem.W.mg_of X G a8,_,_,F9,b9,PySem.W.mg_of X G a9,_,_,F10,b10,PySem.W.mg_of X G a10,_,_,F11,b11,PySem.W.mg_of X G a11,_,_,F12,b12,PySem.W.mg_of X G a12,_,_,F13,b13,PySem.W.mg_of X G a13,_,_,F14,b14,PySem.W.mg_of X G a14,_,x_NoField,PySem.W.mg_of X G e_NoField,PySem.W.mg_none_of X G z_bool,PySem.W.mg_none_of X G z_int,PySem.W.mg_none_of X G z_isinstance,PySem.W.mg_none_of X G z_len,PySem.W.mg_none_of X G z_list,PySem.W.mg_none_of X G z_max,PySem.W.mg_none_of X G z_min,PySem.W.mg_none_of X G z_range,PySem.W.mg_none_of X G z_reversed,PySem.W.mg_none_of X G z_set,PySem.W.mg_none_of X G z_sorted,PySem.W.mg_none_of X G z_tuple⟩,rfl,fun s v=> .of_eq rfl⟩
abbrev spLaw (K:PySem.W.Frag):Sp:=spU K eE
theorem law_start (K:PySem.W.Frag) (H:Hp) (a:Addr) (ns:List Int) (h1:ns.length≤63) (h2:∀ m∈ns,Sz 1048576 m) (_:nW H) (h3:SqL K H a (ns.map V.int)):spLaw K [.ref a] H (fun v _=> v=.bl true) fun _ _ _=> False:=kO h1 h2 h3
theorem law_ok {P:Program} {w:World} {K:PySem.W.Frag} {mg:Str→Option Value} {fa:Addr} (h:∃ T:Txt K mg,T.a_law=fa∧(∀ (s:Shared) (v:Value),BindsTo s T.d_law ⟨[v],[]⟩ [("script",v)])):
  ∃ fd:FuncData,(∀ (s:Shared) (u:Value),BindsTo s fd ⟨[u],[]⟩ [("script",u)])∧∀ base:Heap,K.In base→base.Ns mainGlobals mg→bF P w K mg base CX0 7 fa fd ["script"] (spLaw K):=by
 obtain ⟨T,rfl,hb⟩:=h
 exact ⟨T.d_law,hb,fun base _ _=> (qx T).calm mX⟩
end My
def PySem.W.Fast.tw13899446139524576034:Unit:=()
def PySem.W.Fast.tw8937730997660875788:Unit:=()
def PySem.W.Fast.tw3516632821298471838:Unit:=()
def PySem.W.Fast.tw3835050422804826807:Unit:=()
def PySem.W.Fast.tw13682001701528990585:Unit:=()
def PySem.W.Fast.tw12325077212983201306:Unit:=()
def PySem.W.Fast.tw13549992598552722636:Unit:=()
def PySem.W.Fast.tw18339413184662671041:Unit:=()
def PySem.W.Fast.tw5599272508065240475:Unit:=()
def PySem.W.Fast.tw964777473405253107:Unit:=()
def PySem.W.Fast.tw11848087492115304956:Unit:=()
def PySem.W.Fast.tw3065626424244013693:Unit:=()
def PySem.W.Fast.tw17159226646353126243:Unit:=()
def PySem.W.Fast.tw7865126426461241933:Unit:=()
def PySem.W.Fast.tw12573751446501956233:Unit:=()
def PySem.W.Fast.tw13037594949265428478:Unit:=()
def PySem.W.Fast.tw4545735947537941417:Unit:=()
def PySem.W.Fast.tw13552738244588632666:Unit:=()
def PySem.W.Fast.tw3971153362079882430:Unit:=()
def PySem.W.Fast.tw782881881379711809:Unit:=()
def PySem.W.Fast.tw8262449128469646799:Unit:=()
def PySem.W.Fast.tw5993358303763606580:Unit:=()
def PySem.W.Fast.tw3580531828882961870:Unit:=()
def PySem.W.Fast.tw3596601679367213386:Unit:=()
def PySem.W.Fast.tw17706543862841576752:Unit:=()
def PySem.W.Fast.tw7960496536224515140:Unit:=()
def PySem.W.Fast.tw9452518007411243273:Unit:=()
def PySem.W.Fast.tw2224441018262494607:Unit:=()
def PySem.W.Fast.tw8411686815441433591:Unit:=()
def PySem.W.Fast.tw3231761122301062447:Unit:=()
def PySem.W.Fast.tw17541228098408643822:Unit:=()
def PySem.W.Fast.tw6476254626367122773:Unit:=()
def PySem.W.Fast.tw1330259668165262453:Unit:=()
def PySem.W.Fast.tw16388706904053908906:Unit:=()
open PySem PySem.W PyProof.Rows L2
set_option maxRecDepth 100000 in
set_option maxHeartbeats 0 in
theorem PySem.Challenge.cw_stakefield_k13_the_same_field_holds : PySem.Challenge.rw_stakefield_k13_the_same_field.Holds := by
 w_on; o_law; k_head; (case hw=> w_witness2)
 k_fill
 refine L2.walk_ofB (l:=PySem.Challenge.rw_stakefield_k13_the_same_field) (n:=63) (k:=7) (x:="script") (CX:=CX0) (sp:=My.spLaw) rfl (by decide) rfl ⟨rfl,by decide,by decide⟩ (fun w h Y=> by first | exact PySem.W.kIn_of Y | exact PySem.W.km_in_of Y) ?F My.law_start (fun _ _ _ _ z=> z)
 case F=>
  intro w mg fa h KX G hmg
  refine My.law_ok ?T
  refine' My.txt_mk KX G hmg ?a0 ?l0 ?c0 ?k0 ?a1 ?l1 ?c1 ?k1 ?a2 ?l2 ?c2 ?k2 ?a3 ?l3 ?c3 ?k3 ?a4 ?l4 ?c4 ?k4 ?a5 ?l5 ?c5 ?k5 ?a6 ?l6 ?c6 ?k6 ?a7 ?l7 ?c7 ?k7 ?a8 ?l8 ?c8 ?k8 ?a9 ?l9 ?c9 ?k9 ?a10 ?l10 ?c10 ?k10 ?a11 ?l11 ?c11 ?k11 ?a12 ?l12 ?c12 ?k12 ?a13 ?l13 ?c13 ?k13 ?a14 ?l14 ?c14 ?k14 ?e_NoField ?x_NoField ?z_bool ?z_int ?z_isinstance ?z_len ?z_list ?z_max ?z_min ?z_range ?z_reversed ?z_set ?z_sorted ?z_tuple  
  (case a0=> k_is); (case l0=> k_is); (case c0=> k_is); (case k0=> k_is)
  (case a1=> k_is); (case l1=> k_is); (case c1=> k_is); (case k1=> k_is)
  (case a2=> k_is); (case l2=> k_is); (case c2=> k_is); (case k2=> k_is)
  (case a3=> k_is); (case l3=> k_is); (case c3=> k_is); (case k3=> k_is)
  (case a4=> k_is); (case l4=> k_is); (case c4=> k_is); (case k4=> k_is)
  (case a5=> k_is); (case l5=> k_is); (case c5=> k_is); (case k5=> k_is)
  (case a6=> k_is); (case l6=> k_is); (case c6=> k_is); (case k6=> k_is)
  (case a7=> k_is); (case l7=> k_is); (case c7=> k_is); (case k7=> k_is)
  (case a8=> k_is); (case l8=> k_is); (case c8=> k_is); (case k8=> k_is)
  (case a9=> k_is); (case l9=> k_is); (case c9=> k_is); (case k9=> k_is)
  (case a10=> k_is); (case l10=> k_is); (case c10=> k_is); (case k10=> k_is)
  (case a11=> k_is); (case l11=> k_is); (case c11=> k_is); (case k11=> k_is)
  (case a12=> k_is); (case l12=> k_is); (case c12=> k_is); (case k12=> k_is)
  (case a13=> k_is); (case l13=> k_is); (case c13=> k_is); (case k13=> k_is)
  (case a14=> k_is); (case l14=> k_is); (case c14=> k_is); (case k14=> k_is)
  (case e_NoField=> k_is); (case x_NoField=> k_exc)
  (case z_bool=> k_is)
  (case z_int=> k_is)
  (case z_isinstance=> k_is)
  (case z_len=> k_is)
  (case z_list=> k_is)
  (case z_max=> k_is)
  (case z_min=> k_is)
  (case z_range=> k_is)
  (case z_reversed=> k_is)
  (case z_set=> k_is)
  (case z_sorted=> k_is)
  (case z_tuple=> k_is)
