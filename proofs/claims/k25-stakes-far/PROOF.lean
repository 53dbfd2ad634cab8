import PyProof.Rows.All
import Wide.All
import OpenK.AllK
import Wide.FinOn
import Lean
import PyProof.EqAt
import PyProof.EqKinds
import PyProof.NeKinds
import PyProof.TupleCall
import KE.KDictSum
import KE.KSortTup
import KE.KRevIter
import KE.KRevSl
import PySem.Challenge.RW_stakefield_k25_stakes_far
set_option Elab.async false
set_option linter.all false
set_option maxRecDepth 100000
namespace L2
open PySem PySem.Spec PyProof.Rows
abbrev Key:=Sum Int Str
def yn:Key→Value→Bool
 | .inl k,v=> Value.isInt k v
 | .inr x,v=> Value.isStrOf x v
def AR (w:World):Key→Int
 | .inl k=> hashInt k
 | .inr x=> hashStr w x
theorem bD:∀ {k:Key} {v:Value},yn k v=true→(∃ i t,k=Sum.inl i∧v=Value.int i t)∨(∃ x t,k=Sum.inr x∧v=Value.str x t)
 | .inl i,v,h=> by
  obtain ⟨t,e⟩:=Value.isInt_shape (k:=i) (v:=v) h
  exact .inl ⟨i,t,rfl,e⟩
 | .inr x,v,h=> by
  obtain ⟨t,e⟩:=Value.isStrOf_shape (x:=x) (v:=v) h
  exact .inr ⟨x,t,rfl,e⟩
theorem yB (a b:Int):decide ((Sum.inl a:Key)=Sum.inl b)=(a==b):=by
 by_cases e:a=b
 ·subst e; simp
 ·have h:¬ (Sum.inl a:Key)=Sum.inl b:=fun q=> e (Sum.inl.inj q)
  rw [decide_eq_false h]
  exact (beq_eq_false_iff_ne.mpr e).symm
theorem yK (a b:Str):decide ((Sum.inr a:Key)=Sum.inr b)=decide (a=b):=by
 by_cases e:a=b
 ·subst e; simp
 ·have h:¬ (Sum.inr a:Key)=Sum.inr b:=fun q=> e (Sum.inr.inj q)
  rw [decide_eq_false h,decide_eq_false e]
theorem zk (a:Int) (b:Str):decide ((Sum.inl a:Key)=Sum.inr b)=false:=decide_eq_false (fun q=> nomatch q)
theorem zK (a:Str) (b:Int):decide ((Sum.inr a:Key)=Sum.inl b)=false:=decide_eq_false (fun q=> nomatch q)
def pQ (prog:Program) (w:World):PySem.KeyKind prog w Key where
 is:=yn
 hash:=AR w
 inj:=fun v a b ha hb=> by
  rcases bD ha with ⟨i,t,rfl,rfl⟩ | ⟨x,t,rfl,rfl⟩
  ·rcases bD hb with ⟨j,u,rfl,e⟩ | ⟨y,u,rfl,e⟩
   ·injection e with e1 _; rw [e1]
   ·exact nomatch e
  ·rcases bD hb with ⟨j,u,rfl,e⟩ | ⟨y,u,rfl,e⟩
   ·exact nomatch e
   ·injection e with e1 _; rw [e1]
 byValue:=fun k v h=> by
  rcases bD h with ⟨i,t,rfl,rfl⟩ | ⟨x,t,rfl,rfl⟩ <;> rfl
 pyHash:=fun hv h=> by
  rcases bD hv with ⟨i,t,rfl,rfl⟩ | ⟨x,t,rfl,rfl⟩
  ·exact wpAny_pyHash_int h
  ·exact wpAny_pyHash_str h
 eqBool:=fun hu hv h=> by
  rcases bD hu with ⟨i,t,rfl,rfl⟩ | ⟨x,t,rfl,rfl⟩
  ·rcases bD hv with ⟨j,u,rfl,rfl⟩ | ⟨y,u,rfl,rfl⟩
   ·rw [yB] at h; exact wpAny_eqBool_int h
   ·rw [zk] at h; exact SeqAt.EqAt.int_str i t y u _ _ _ _ h
  ·rcases bD hv with ⟨j,u,rfl,rfl⟩ | ⟨y,u,rfl,rfl⟩
   ·rw [zK] at h; exact SeqAt.EqAt.str_int x t j u _ _ _ _ h
   ·rw [yK] at h; exact wpAny_eqBool_str h
 «strs»:=fun k x t v h=> by
  rcases bD h with ⟨i,u,rfl,e⟩ | ⟨y,u,rfl,e⟩
  ·exact nomatch e
  ·injection e with e1 _
   subst e1
   cases v <;> rfl
end L2
namespace L2
open PySem PySem.Spec PyProof.Rows
inductive V where
 | non | bl (b:Bool) | int (i:Int) | str (x:Str) | byt (b:Array UInt8) | flt (b:UInt64) | ref (a:Addr) | ty (n:String)
 deriving DecidableEq
def aY:V→Value→Prop
 | .non,u=> u=Value.none
 | .bl b,u=> u=Value.bool b
 | .int i,u=> ∃ t,u=Value.int i t
 | .str x,u=> ∃ t,u=Value.str x t
 | .byt b,u=> ∃ t,u=Value.bytes b t
 | .flt b,u=> ∃ t,u=Value.float b t
 | .ref a,u=> u=Value.ref a
 | .ty n,u=> u=Value.type n
abbrev aL:List V→List Value→Prop:=Paired aY
theorem aL.length {xs:List V} {us:List Value} (r:aL xs us):xs.length=us.length:=Paired.length r
theorem aL.get:∀ {xs:List V} {us:List Value} {i:Nat} {x:V},aL xs us→xs[i]?=some x→∃ u,us[i]?=some u∧aY x u
 | _,_,_,_,.nil,e=> by simp at e
 | _,_,0,_,.cons r _,e=> by simp at e; subst e; exact ⟨_,rfl,r⟩
 | _,_,i+1,x,.cons _ t,e=> by
  obtain ⟨u,h1,h2⟩:=aL.get (i:=i) (x:=x) t (by simpa using e)
  exact ⟨u,by simpa using h1,h2⟩
theorem aL.append:∀ {xs ys:List V} {us ws:List Value},aL xs us→aL ys ws→aL (xs++ys) (us++ws)
 | _,_,_,_,.nil,s=> s
 | _,_,_,_,.cons r t,s=> .cons r (aL.append t s)
theorem aL.take:∀ {xs:List V} {us:List Value} (n:Nat),aL xs us→aL (xs.take n) (us.take n)
 | _,_,0,_=> .nil
 | _,_,_+1,.nil=> .nil
 | _,_,n+1,.cons r t=> .cons r (aL.take n t)
theorem aL.drop:∀ {xs:List V} {us:List Value} (n:Nat),aL xs us→aL (xs.drop n) (us.drop n)
 | _,_,0,r=> r
 | _,_,_+1,.nil=> .nil
 | _,_,n+1,.cons _ t=> aL.drop n t
def yT:Option V→Option Value→Prop
 | some v,some u=> aY v u
 | none,none=> True
 | _,_=> False
def KV {κ:Type}:List (κ×V)→List (κ×Value)→Prop:=Paired fun (p:κ×V) (q:κ×Value)=> p.1=q.1∧aY p.2 q.2
def kV:Key→V
 | .inl i=> .int i
 | .inr x=> .str x
inductive HO where
 /-- a list -/
 | lst (xs:List V)
 /-- a tuple (never changes) -/
 | tup (xs:List V)
 /-- a dict whose keys are ints and texts; one whose keys are tuples of ints and texts (the empty one is both) -/
 | dK (kvs:List (Key×V)) | dT (kvs:List (List Key×V))
 /-- a set of ints:its members,its size -/
 | set (S:Int→Bool) (n:Nat)
 /-- an instance of the class at C,its dict at dx,its attributes -/
 | ins (C dx:Addr) (fs:List (Str×V))
 /-- the dict of the instance at x -/
 | own (x:Addr)
 /-- the dict of an exception -/
 | xd (fs:List (Str×V))
 /-- a bound method,f of x -/
 | met (f x:Addr)
 /-- a range object lo,lo+1,.. below hi -/
 | rng (lo hi:Int)
 /-- a thing that is known to the object (the script; a dict while a loop walks it):read,never written while it is so -/
 | frz (o:Obj) (u:HO)
 /-- a code object's table -/
 | tbl (ps:Array Value)
 /-- any other thing,by what is true of its one object (a def of one's own:SetO a S n:=HO.ext fun h=> ..) -/
 | ext (φ:Heap→Prop)
abbrev Hp:=Addr→Option HO
def upd (H:Hp) (a:Addr) (o:HO):Hp:=fun b=> if b=a then some o else H b
theorem aU {H:Hp} {a:Addr} {o:HO}:upd H a o a=some o:=by unfold upd; rw [if_pos rfl]
theorem a_ {H:Hp} {a b:Addr} {o:HO} (h:b≠a):upd H a o b=H b:=by unfold upd; rw [if_neg h]
theorem cB {H:Hp} {a b:Addr} {o:HO} (h:H a=some o) (h':H b=none):a≠b:=by
 intro e; subst e; rw [h] at h'; cases h'
section
variable (P:Program) (w:World)
def cu (H:Hp) (h:Heap) (a:Addr):HO→Prop
 | .lst xs=> xs.length≤sizeLine∧∃ (its:List Value) (n:Nat),aL xs its∧h.get? a=some { cls:=.type "list",data:=.seq its.toArray n }
 | .tup xs=> xs.length≤sizeLine∧∃ its:List Value,aL xs its∧IsTup h a its.toArray
 | .dK kvs=> kvs.length≤sizeLine∧(a==sysModules)=false∧∃ vs,KV kvs vs∧h.DictOf (pQ P w) a vs
 | .dT kvs=> kvs.length≤sizeLine∧(a==sysModules)=false∧∃ xs:List (List Key×Addr×Value),
   Paired (fun (p:List Key×V) (q:List Key×Addr×Value)=> p.1=q.1∧H q.2.1=some (.tup (p.1.map kV))∧aY p.2 q.2.2) kvs xs∧
   ∃ o es ep,h.get? a=some o∧o.ExactDict∧o.data=.dict es ep∧es.toList=xs.map (entryOfKey (tupleKind (pQ P w)))∧(xs.map (·.1)).Nodup
 | .set S n=> h.SetOf (intKind P w) a S n
 | .ins C dx fs=> H dx=some (.own a)∧fs.length≤1000∧dx≠a∧h.get? a=some (PySem.W.instObj C dx)∧
   ∃ mA,h.Ns1 dx mA∧(∀ f,yT (fs.lookup f) (mA f))∧PySem.Within mA (fs.map (·.1))
 | .own _=> ∃ o,h.get? a=some o
 | .xd fs=> ∃ mA,h.Ns1 a mA∧∀ f,yT (fs.lookup f) (mA f)
 | .rng lo hi=> ∃ t u v,h.get? a=some { cls:=.type "range",data:=.fields #[.int lo t,.int hi u,.int 1 v] }
 | .frz o u=> h.get? a=some o∧cu H h a u
 | .tbl ps=> h.get? a=some { cls:=.none,data:=.fields ps }
 | .met f x=> h.get? a=some (PySem.W.methodObj (.ref f) (.ref x))
 | .ext φ=> φ h∧(∃ o,h.get? a=some o)∧∀ h1 h2:Heap,φ h1→(∀ o,h1.get? a=some o→h2.get? a=some o)→φ h2
def HOk (H:Hp) (h:Heap):Prop:=∀ a o,H a=some o→cu P w H h a o
end
section
variable {P:Program} {w:World} {H H':Hp} {h h':Heap} {a:Addr} {o:HO}
theorem cu.lt (x:cu P w H h a o):a < h.objs.size:=by
 cases o with
 | lst xs=> obtain ⟨_,_,_,_,e⟩:=x; exact Heap.lt_size e
 | tup xs=> obtain ⟨_,_,_,p⟩:=x; exact p.lt
 | dK kvs=> obtain ⟨_,_,_,_,o,_,_,e,_⟩:=x; exact Heap.lt_size e
 | dT kvs=> obtain ⟨_,_,_,_,o,_,_,e,_⟩:=x; exact Heap.lt_size e
 | set S n=> obtain ⟨o,_,_,_,e,_⟩:=x; exact Heap.lt_size e
 | ins C dx fs=> obtain ⟨_,_,_,e,_⟩:=x; exact Heap.lt_size e
 | own y=> obtain ⟨_,e⟩:=x; exact Heap.lt_size e
 | xd fs=> obtain ⟨_,⟨_,_,_,e,_⟩,_⟩:=x; exact Heap.lt_size e
 | rng lo hi=> obtain ⟨_,_,_,e⟩:=x; exact Heap.lt_size e
 | frz ob u=> obtain ⟨e,_⟩:=x; exact Heap.lt_size e
 | tbl ps=> exact Heap.lt_size (show h.get? a=some _ from x)
 | met f y=> exact Heap.lt_size (show h.get? a=some _ from x)
 | ext φ=> obtain ⟨_,⟨_,e⟩,_⟩:=x; exact Heap.lt_size e
theorem Paired.mapP {α β:Type} {F G:α→β→Prop}:∀ {l₁:List α} {l₂:List β},Paired F l₁ l₂→(∀ a b,F a b→G a b)→Paired G l₁ l₂
 | _,_,.nil,_=> .nil
 | _,_,.cons r t,f=> .cons (f _ _ r) (Paired.mapP t f)
theorem cu.stay (x:cu P w H h a o) (k:∀ b u,(b=a∨H b=some (.own a))→h.get? b=some u→h'.get? b=some u)
  (ho:∀ b,H b=some (.own a)→H' b=some (.own a)) (ht:∀ b xs,H b=some (.tup xs)→H' b=some (.tup xs)):cu P w H' h' a o:=by
 induction o with
 | lst xs=> obtain ⟨z,its,n,r,e⟩:=x; exact ⟨z,its,n,r,k _ _ (.inl rfl) e⟩
 | tup xs=> obtain ⟨z,its,r,ob,e,c⟩:=x; exact ⟨z,its,r,ob,k _ _ (.inl rfl) e,c⟩
 | dK kvs=> obtain ⟨z,y,vs,r,ob,es,ep,e,c⟩:=x; exact ⟨z,y,vs,r,ob,es,ep,k _ _ (.inl rfl) e,c⟩
 | dT kvs=>
  obtain ⟨z,y,xs,r,ob,es,ep,e,c⟩:=x
  exact ⟨z,y,xs,Paired.mapP r fun p q z=> ⟨z.1,ht _ _ z.2.1,z.2.2⟩,ob,es,ep,k _ _ (.inl rfl) e,c⟩
 | set S n=> obtain ⟨ob,es,ep,t,e,c⟩:=x; exact ⟨ob,es,ep,t,k _ _ (.inl rfl) e,c⟩
 | ins C dx fs=>
  obtain ⟨d,z,ne,e,mA,⟨od,es,ep,e2,c⟩,r⟩:=x
  exact ⟨ho _ d,z,ne,k _ _ (.inl rfl) e,mA,⟨od,es,ep,k _ _ (.inr d) e2,c⟩,r⟩
 | own y=> obtain ⟨ob,e⟩:=x; exact ⟨ob,k _ _ (.inl rfl) e⟩
 | xd fs=> obtain ⟨mA,⟨od,es,ep,e,c⟩,r⟩:=x; exact ⟨mA,⟨od,es,ep,k _ _ (.inl rfl) e,c⟩,r⟩
 | rng lo hi=> obtain ⟨t,u,v,e⟩:=x; exact ⟨t,u,v,k _ _ (.inl rfl) e⟩
 | frz ob u ih=> obtain ⟨e,q⟩:=x; exact ⟨k _ _ (.inl rfl) e,ih q⟩
 | tbl ps=>
  have e:h.get? a=some { cls:=.none,data:=.fields ps }:=x
  show h'.get? a=some { cls:=.none,data:=.fields ps }
  exact k a _ (.inl rfl) e
 | met f y=>
  have e:h.get? a=some (PySem.W.methodObj (.ref f) (.ref y)):=x
  show h'.get? a=some (PySem.W.methodObj (.ref f) (.ref y))
  exact k a _ (.inl rfl) e
 | ext φ=> obtain ⟨p,⟨o,e⟩,st⟩:=x; exact ⟨st _ _ p fun o q=> k _ _ (.inl rfl) q,⟨o,k _ _ (.inl rfl) e⟩,st⟩
theorem HOk.lt (x:HOk P w H h) (e:H a=some o):a < h.objs.size:=(x a o e).lt
theorem HOk.fresh (x:HOk P w H h) (e:h.objs.size≤a):H a=none:=by
 cases q:H a with
 | none=> rfl
 | some u=> exact absurd (Nat.lt_of_lt_of_le (x.lt q) e) (Nat.lt_irrefl _)
theorem HOk.kept (x:HOk P w H h) (k:∀ b u,h.get? b=some u→h'.get? b=some u):HOk P w H h':=fun a o e=>
 (x a o e).stay (fun b u _ q=> k b u q) (fun _ q=> q) fun _ _ q=> q
theorem HOk.laid (x:HOk P w H h) (k:∀ b u,h.get? b=some u→h'.get? b=some u) (hp:h.objs.size≤a) (new:cu P w (upd H a o) h' a o):HOk P w (upd H a o) h':=fun b u e=> by
 have hn:=x.fresh hp
 by_cases hb:b=a
 ·subst hb; rw [aU] at e; cases e; exact new
 ·rw [a_ hb] at e
  exact (x b u e).stay (fun c v _ q=> k c v q) (fun c q=> by rw [a_ (cB q hn)]; exact q) fun c xs q=> by rw [a_ (cB q hn)]; exact q
end
def Rd (H:Hp) (a:Addr) (u:HO):Prop:=H a=some u∨∃ o,H a=some (.frz o u)
theorem Rd.ok {P:Program} {w:World} {H:Hp} {h:Heap} {a:Addr} {u:HO} (r:Rd H a u) (x:HOk P w H h):cu P w H h a u:=by
 rcases r with r | ⟨o,r⟩
 ·exact x a u r
 ·obtain ⟨_,q⟩:=x a _ r
  exact q
def Mut:Option HO→Prop
 | some (.lst _)=> True
 | some (.dK _)=> True
 | some (.dT _)=> True
 | some (.set _ _)=> True
 | some (.ins _ _ _)=> True
 | some (.ext _)=> True
 | _=> False
section
variable {P:Program} {w:World} {H:Hp} {h h':Heap} {x e:Addr} {o':HO}
theorem HOk.write (ok:HOk P w H h) (mu:Mut (H x)) (he:e=x∨H e=some (.own x)) (k:∀ b u,b≠e→h.get? b=some u→h'.get? b=some u) (heo:∃ u,h'.get? e=some u)
  (new:cu P w (upd H x o') h' x o'):HOk P w (upd H x o') h':=fun b u q=> by
 have nown:∀ c y,H c=some (.own y)→c≠x:=fun c y r z=> by subst z; rw [r] at mu; exact mu
 have ntup:∀ c xs,H c=some (.tup xs)→c≠x:=fun c xs r z=> by subst z; rw [r] at mu; exact mu
 by_cases hb:b=x
 ·subst hb; rw [aU] at q; cases q; exact new
 ·rw [a_ hb] at q
  by_cases hbe:b=e
  ·have q':H b=some (.own x):=by
    rcases he with z | z
    ·exact absurd (hbe.trans z) hb
    ·rw [hbe]; exact z
   rw [q] at q'; cases q'
   obtain ⟨v,hv⟩:=heo
   exact ⟨v,by rw [hbe]; exact hv⟩
  ·refine (ok b u q).stay (fun c v hc r=> k c v ?_ r) (fun c r=> by rw [a_ (nown c b r)]; exact r) fun c xs r=> by rw [a_ (ntup c xs r)]; exact r
   rcases hc with rfl | hc
   ·exact hbe
   ·rintro rfl
    rcases he with z | z
    ·exact nown c b hc z
    ·rw [hc] at z; cases z; exact hb rfl
end
structure Un (fs ex:List Addr) (H H':Hp) (h h':Heap):Prop where
 keep:∀ b o,h.get? b=some o→H b=none→b ∉ fs→b ∉ ex→h'.get? b=some o
 slot:∀ b o,h.get? b=some o→H b=none→b∈fs→b ∉ ex→∃ sl,h'.get? b=some { o with slots:=sl }
 free:∀ b o,h.get? b=some o→H b=none→b ∉ ex→H' b=none
 there:∀ b o,h.get? b=some o→b ∉ ex→∃ o',h'.get? b=some o'
 tups:∀ b xs,H b=some (.tup xs)→H' b=some (.tup xs)
 frzs:∀ b o u,H b=some (.frz o u)→H' b=some (.frz o u)
 tbls:∀ b ps,H b=some (.tbl ps)→∃ more,H' b=some (.tbl (ps++more))
section
variable {fs fs' ex ex':List Addr} {H H1 H2:Hp} {h h1 h2 h':Heap} {a x e:Addr} {o:HO}
theorem Un.any (u:Un fs ex H H1 h h1) {b:Addr} {ob:Obj} (q:h.get? b=some ob) (n:H b=none) (hx:b ∉ ex):∃ sl,h1.get? b=some { ob with slots:=sl }:=by
 by_cases hb:b∈fs
 ·exact u.slot b ob q n hb hx
 ·exact ⟨ob.slots,u.keep b ob q n hb hx⟩
theorem Un.kept (k:∀ b u,h.get? b=some u→h'.get? b=some u):Un fs ex H H h h':=
 ⟨fun b ob q _ _ _=> k b ob q,fun b ob q _ _ _=> ⟨ob.slots,k b ob q⟩,fun _ _ _ n _=> n,fun b ob q _=> ⟨ob,k b ob q⟩,fun _ _ q=> q,fun _ _ _ q=> q,fun _ ps q=> ⟨#[],by rw [q]; simp⟩⟩
theorem Un.refl:Un fs ex H H h h:=Un.kept fun _ _ q=> q
theorem Un.laid (k:∀ b u,h.get? b=some u→h'.get? b=some u) (hp:h.objs.size≤a) (hn:H a=none):Un fs ex H (upd H a o) h h' where
 keep:=fun b u q _ _ _=> k b u q
 slot:=fun b u q _ _ _=> ⟨u.slots,k b u q⟩
 free:=fun b u q n _=> by rw [a_ (Nat.ne_of_lt (Nat.lt_of_lt_of_le (Heap.lt_size q) hp))]; exact n
 there:=fun b u q _=> ⟨u,k b u q⟩
 tups:=fun b xs q=> by rw [a_ (cB q hn)]; exact q
 frzs:=fun b u xs q=> by rw [a_ (cB q hn)]; exact q
 tbls:=fun b ps q=> ⟨#[],by rw [a_ (cB q hn),q]; simp⟩
theorem Un.write (mu:Mut (H x)) (he:e=x∨H e=some (.own x)) (k:∀ b u,b≠e→h.get? b=some u→h'.get? b=some u) (heo:∃ u,h'.get? e=some u):Un fs ex H (upd H x o) h h':=by
 have hx:∀ b,H b=none→b≠x:=fun b n z=> by subst z; rw [n] at mu; exact mu
 have hb:∀ b,H b=none→b≠e:=fun b n z=> by
  subst z
  rcases he with r | r
  ·exact hx b n r
  ·rw [n] at r; cases r
 have hm:∀ b u,H b=some u→¬ Mut (some u)→b≠x:=fun b u q nm z=> by subst z; rw [q] at mu; exact nm mu
 refine ⟨fun b u q n _ _=> k b u (hb b n) q,fun b u q n _ _=> ⟨u.slots,k b u (hb b n) q⟩,fun b u q n _=> by rw [a_ (hx b n)]; exact n,fun b u q _=> ?_,
  fun b xs q=> by rw [a_ (hm b _ q fun z=> z)]; exact q,fun b u xs q=> by rw [a_ (hm b _ q fun z=> z)]; exact q,fun b ps q=> ⟨#[],by rw [a_ (hm b _ q fun z=> z),q]; simp⟩⟩
 by_cases hbe:b=e
 ·subst hbe; exact heo
 ·exact ⟨u,k b u hbe q⟩
end
def trk (h:Heap) (H:Hp):List Addr:=(List.range h.objs.size).filter fun a=> (H a).isSome
def lq (h:Heap) (H:Hp):Heap:=PySem.W.hideAll h (trk h H)
theorem rO (h:Heap) (H:Hp):(lq h H).objs.size=h.objs.size:=PySem.W.hideAll_size _ _
theorem vI {h:Heap} {H:Hp} {b:Addr} {o:Obj} (e:h.get? b=some o) (n:H b=none):(lq h H).get? b=some o:=
 PySem.W.hideAll_get _ e fun hm=> by
  have q:(H b).isSome=true:=(List.mem_filter.mp hm).2
  rw [n] at q; simp at q
theorem wt {h:Heap} {H:Hp} {b:Addr} {o:Obj} (e:(lq h H).get? b=some o):h.get? b=some o∧H b=none:=by
 have e':h.get? b=some o:=PySem.W.of_hideAll (trk h H) e
 refine ⟨e',?_⟩
 cases q:H b with
 | none=> rfl
 | some x=>
  have hm:b∈trk h H:=List.mem_filter.mpr ⟨List.mem_range.mpr (Heap.lt_size e'),by simp [q]⟩
  have z:(lq h H).get? b=none:=PySem.W.hideAll_none (trk h H) hm
  rw [z] at e; cases e
def xJ (g h:Heap) (L:Addr):List (Addr×Obj):=(List.range h.objs.size).filterMap fun a=> if a=L∨(g.get? a).isSome=true then none else (h.get? a).map fun o=> (a,o)
def rest (g h:Heap) (L d:Addr):List (Addr×Obj):=(xJ g h L).filter fun p=> decide (p.1≠d)
end L2
namespace L2
open PySem PySem.Spec PyProof.Rows
structure Mod (K:PySem.W.Frag) (mg:Str→Option Value) (base:Heap):Prop where
 kin:K.In base
 glob:base.Ns mainGlobals mg
 blt:∃ mb,base.Ns builtinsNs mb∧∀ x:Str,x≠"__name__"→mb x=bootBuiltins x
 nolimit:base.NoLimit
structure Cx where
 prog:Program
 w:World
 K:PySem.W.Frag
 mg:Str→Option Value
 base:Heap
 A:Around
 N:List Str
 s₀:Shared
 H₀:Hp
 env:Env
 outer:List Env
 stack:List Env
 ex:List Addr
 fn:Str→Bool
 calm:Bool
 pn:List (Addr×Obj)
 xe:Value→Shared→Prop
def frs (l:List Env):List Addr:=l.filterMap (·.frame)
abbrev Cx.fs (X:Cx):List Addr:=frs X.outer
def Vis (sc:Scope) (x:Str):Prop:=sc.names.lookup x=some .local∨sc.names.lookup x=some .cell∨sc.names.lookup x=some .free
def Loc (sc:Scope) (x:Str):Prop:=sc.names.lookup x=some .local∨sc.names.lookup x=some .cell
def AU (env:Env) (h:Heap) (m:Str→Option Value) (x:Str) (u:Value):Prop:=
 (env.kindOf x=some .local∧m x=some u)∨((env.kindOf x=some .cell∨env.kindOf x=some .free)∧∃ c,env.cells.lookup x=some c∧h.IsCell c (some u))
structure Cx.Ok (X:Cx):Prop where
 mod:Mod X.K X.mg X.base
 kind:X.env.scope.kind=.function
 glob:X.env.globals=mainGlobals
 blt:X.env.builtins=builtinsNs
 above:X.s₀.heap.objs.size≤X.env.locals
 inj:∀ x y c,X.env.cells.lookup x=some c→X.env.cells.lookup y=some c→x=y
 has:∀ x,(X.env.kindOf x=some .cell∨X.env.kindOf x=some .free)→∃ c,X.env.cells.lookup x=some c
 cab:∀ x c,X.fn x=true→X.env.cells.lookup x=some c→X.s₀.heap.objs.size≤c
 hd:X.calm=true→X.A.handled=none
 frames:X.A.frames=some X.stack
 stk:X.stack=X.outer∨(X.stack=X.env::X.outer∧X.env.frame=some X.env.locals)
 exf:∀ b∈X.ex,b≠X.env.locals∧∀ x c,X.env.cells.lookup x=some c→c≠b
 bs:∀ b o,X.base.get? b=some o→X.s₀.heap.get? b=some o∧X.H₀ b=none
 bsz:X.base.objs.size≤X.s₀.heap.objs.size
 noex:∀ b o,X.base.get? b=some o→b ∉ X.ex
 exfs:∀ b∈X.ex,b ∉ X.fs
 funs:X.s₀.heap.FunFrames X.base X.outer
 frf:∀ b∈X.fs,X.H₀ b=none
structure Inv (X:Cx) (pins:List (Addr×Obj)) (σ:List (Option V)) (H:Hp) (s:Shared):Prop where
 ok:X.Ok
 os:s.os=X.s₀.os
 bare:AllBare s.gens
 base:Un X.fs X.ex X.H₀ H X.s₀.heap s.heap
 loc:∃ m,s.heap.Ns X.env.locals m∧∀ (i:Nat) (x:Str) (v:V),X.N[i]?=some x→σ[i]?=some (some v)→Vis X.env.scope x→∃ u,aY v u∧AU X.env s.heap m x u
 cell:∀ x c,X.env.cells.lookup x=some c→∃ v,s.heap.IsCell c v
 free:H X.env.locals=none
 freeC:∀ x c,X.env.cells.lookup x=some c→H c=none
 pin:∀ p∈X.pn++pins,s.heap.get? p.1=some p.2∧H p.1=none∧p.1≠X.env.locals∧p.1 ∉ X.fs∧∀ v,p.2.data≠.cell v
 hok:HOk X.prog X.w H s.heap
 len:σ.length=X.N.length
section
variable {X:Cx} {pins:List (Addr×Obj)} {σ:List (Option V)} {H H':Hp} {s:Shared} {h':Heap}
theorem Cx.Ok.nofr (ok:X.Ok) {b:Addr} {o:Obj} (e:X.base.get? b=some o):b ∉ X.fs:=fun hb=> by
 have:=(ok.funs.mem hb).1
 rw [e] at this; cases this
theorem Inv.bs (I:Inv X pins σ H s):∀ b o,X.base.get? b=some o→s.heap.get? b=some o∧H b=none:=fun b o e=>
 ⟨I.base.keep b o (I.ok.bs b o e).1 (I.ok.bs b o e).2 (I.ok.nofr e) (I.ok.noex b o e),I.base.free b o (I.ok.bs b o e).1 (I.ok.bs b o e).2 (I.ok.noex b o e)⟩
theorem Inv.bk (I:Inv X pins σ H s):∀ b o,X.base.get? b=some o→s.heap.get? b=some o:=fun b o e=> (I.bs b o e).1
theorem Inv.mod (I:Inv X pins σ H s):Mod X.K X.mg X.base:=I.ok.mod
theorem Inv.kIn (I:Inv X pins σ H s):X.K.In s.heap:=I.ok.mod.kin.keeps I.bk
theorem Inv.lt (I:Inv X pins σ H s):X.env.locals < s.heap.objs.size:=let ⟨_,hn,_⟩:=I.loc; hn.lt
theorem Inv.sz (I:Inv X pins σ H s):X.s₀.heap.objs.size≤s.heap.objs.size:=Nat.le_trans I.ok.above (Nat.le_of_lt I.lt)
theorem Inv.nofs (I:Inv X pins σ H s) {a:Addr} (h:s.heap.objs.size≤a):a ∉ X.fs:=fun hb=> by
 obtain ⟨_,o,ho,_⟩:=I.ok.funs.mem hb
 exact absurd (Nat.lt_of_lt_of_le (Heap.lt_size ho) (Nat.le_trans I.sz h)) (Nat.lt_irrefl _)
theorem Inv.cne (I:Inv X pins σ H s):∀ x c,X.env.cells.lookup x=some c→c≠X.env.locals:=fun x c e z=> by
 obtain ⟨v,o,ho,hd⟩:=I.cell x c e
 obtain ⟨m,⟨o',es,ep,ho',hd',_⟩,_⟩:=I.loc
 rw [z,ho'] at ho; cases ho; rw [hd'] at hd; cases hd
theorem Inv.funs (I:Inv X pins σ H s):s.heap.FunFrames X.base X.outer:=by
 have all:∀ (l:List Env),(∀ b∈frs l,b∈X.fs)→X.s₀.heap.FunFrames X.base l→s.heap.FunFrames X.base l:=by
  intro l
  induction l with
  | nil=> intro _ _; trivial
  | cons env r ih=>
   intro hs hl
   obtain ⟨hk,⟨L,o,hf,hn,ho,hd⟩,hr⟩:=hl
   have hL:L∈X.fs:=hs L (by unfold frs; rw [List.filterMap_cons,hf]; exact List.mem_cons_self)
   obtain ⟨sl,e⟩:=I.base.slot L o ho (I.ok.frf L hL) hL fun z=> I.ok.exfs L z hL
   exact ⟨hk,⟨L,_,hf,hn,e,hd⟩,ih (fun b hb=> hs b (by unfold frs; rw [List.filterMap_cons,hf]; exact List.mem_cons_of_mem _ hb)) hr⟩
 exact all X.outer (fun _ hb=> hb) I.ok.funs
theorem Inv.stack (I:Inv X pins σ H s):s.heap.FunFrames X.base X.stack:=by
 rcases I.ok.stk with e | ⟨e,hf⟩
 ·rw [e]; exact I.funs
 ·rw [e]
  obtain ⟨m,hn,_⟩:=I.loc
  refine .cons (by rw [I.ok.kind]; decide) hf hn ?_ I.funs
  exact Heap.get?_none_of_le (Nat.le_trans I.ok.bsz I.ok.above)
theorem Inv.stkSub (I:Inv X pins σ H s):∀ b∈frs X.stack,b∈X.env.locals::X.fs:=fun b hb=> by
 rcases I.ok.stk with e | ⟨e,hf⟩
 ·rw [e] at hb; exact List.mem_cons_of_mem _ hb
 ·rw [e] at hb
  unfold frs at hb
  rw [List.filterMap_cons,hf] at hb
  exact hb
theorem Inv.stkFree (I:Inv X pins σ H s):∀ b∈frs X.stack,H b=none:=fun b hb=> by
 rcases List.mem_cons.mp (I.stkSub b hb) with e | hb
 ·rw [e]; exact I.free
 ·obtain ⟨_,o,ho,_⟩:=I.ok.funs.mem hb
  exact I.base.free b o ho (I.ok.frf b hb) fun z=> I.ok.exfs b z hb
theorem Inv.step {g':Array GenState} {t':Nat} {d':Drawn} {ch:List Addr} (I:Inv X pins σ H s)
  (hch:∀ b∈ch,(b∈X.ex∨X.s₀.heap.objs.size≤b)∧b≠X.env.locals∧(∀ x c,X.env.cells.lookup x=some c→c≠b)∧∀ p∈X.pn++pins,p.1≠b)
  (keep:∀ b o,b≠X.env.locals→b ∉ X.fs→b ∉ ch→s.heap.get? b=some o→H b=none→h'.get? b=some o)
  (slot:∀ b o,b≠X.env.locals→b∈X.fs→b ∉ ch→s.heap.get? b=some o→H b=none→∃ sl,h'.get? b=some { o with slots:=sl }) (free:∀ b o,b ∉ ch→s.heap.get? b=some o→H b=none→H' b=none)
  (there:∀ b o,b ∉ ch→s.heap.get? b=some o→∃ o',h'.get? b=some o')
  (tups:∀ b xs,H b=some (.tup xs)→H' b=some (.tup xs)) (frzs:∀ b o u,H b=some (.frz o u)→H' b=some (.frz o u)) (tbls:∀ b ps,H b=some (.tbl ps)→∃ more,H' b=some (.tbl (ps++more)))
  (ns:∀ m,s.heap.Ns X.env.locals m→h'.Ns X.env.locals m) (hok:HOk X.prog X.w H' h') (hg:AllBare g'):
  Inv X pins σ H' { s with heap:=h',gens:=g',drawn:=d',toks:=t' }:=by
 have neL:∀ b o,X.s₀.heap.get? b=some o→b≠X.env.locals:=fun b o e=> Nat.ne_of_lt (Nat.lt_of_lt_of_le (Heap.lt_size e) I.ok.above)
 have neC:∀ b o,X.s₀.heap.get? b=some o→b ∉ X.ex→b ∉ ch:=fun b o e hx hb=> by
  rcases (hch b hb).1 with z | z
  ·exact hx z
  ·exact absurd (Nat.lt_of_lt_of_le (Heap.lt_size e) z) (Nat.lt_irrefl _)
 have cellK:∀ x c,X.env.cells.lookup x=some c→∀ v,s.heap.IsCell c v→h'.IsCell c v:=fun x c e v ⟨o,ho,hd⟩=> by
  have nch:c ∉ ch:=fun z=> (hch c z).2.2.1 x c e rfl
  by_cases hc:c∈X.fs
  ·obtain ⟨sl,q⟩:=slot c o (I.cne x c e) hc nch ho (I.freeC x c e)
   exact ⟨_,q,hd⟩
  ·exact ⟨o,keep c o (I.cne x c e) hc nch ho (I.freeC x c e),hd⟩
 refine ⟨I.ok,I.os,hg,⟨fun b o e n hb hx=> ?_,fun b o e n hb hx=> ?_,fun b o e n hx=> ?_,fun b o e hx=> ?_,fun b xs e=> tups b xs (I.base.tups b xs e),fun b o xs e=> frzs b o xs (I.base.frzs b o xs e),fun b ps e=> ?_⟩,?_,fun x c e=> ?_,?_,fun x c e=> ?_,fun p hp=> ?_,hok,I.len⟩
 ·exact keep b o (neL b o e) hb (neC b o e hx) (I.base.keep b o e n hb hx) (I.base.free b o e n hx)
 ·obtain ⟨sl,e1⟩:=I.base.slot b o e n hb hx
  obtain ⟨sl',e2⟩:=slot b _ (neL b o e) hb (neC b o e hx) e1 (I.base.free b o e n hx)
  exact ⟨sl',e2⟩
 ·obtain ⟨o',e1⟩:=I.base.there b o e hx
  exact free b o' (neC b o e hx) e1 (I.base.free b o e n hx)
 ·obtain ⟨o',e1⟩:=I.base.there b o e hx
  exact there b o' (neC b o e hx) e1
 ·obtain ⟨m1,e1⟩:=I.base.tbls b ps e
  obtain ⟨m2,e2⟩:=tbls b _ e1
  exact ⟨m1++m2,by rw [e2,Array.append_assoc]⟩
 ·obtain ⟨m,hn,hl⟩:=I.loc
  refine ⟨m,ns m hn,fun i x v e1 e2 e3=> ?_⟩
  obtain ⟨u,r,l⟩:=hl i x v e1 e2 e3
  refine ⟨u,r,?_⟩
  rcases l with l | ⟨k,c,e,z⟩
  ·exact .inl l
  ·exact .inr ⟨k,c,e,cellK x c e _ z⟩
 ·obtain ⟨v,z⟩:=I.cell x c e
  exact ⟨v,cellK x c e v z⟩
 ·obtain ⟨m,⟨o,_,_,ho,_⟩,_⟩:=I.loc
  exact free _ o (fun z=> (hch _ z).2.1 rfl) ho I.free
 ·obtain ⟨v,o,ho,hd⟩:=I.cell x c e
  exact free c o (fun z=> (hch c z).2.2.1 x c e rfl) ho (I.freeC x c e)
 ·obtain ⟨e,n,ne,nf,d⟩:=I.pin p hp
  have nch:p.1 ∉ ch:=fun z=> (hch p.1 z).2.2.2 p hp rfl
  exact ⟨keep p.1 p.2 ne nf nch e n,free p.1 p.2 nch e n,ne,nf,d⟩
theorem Inv.un {t':Nat} (I:Inv X pins σ H s) (u:Un X.fs [] H H' s.heap h') (hok:HOk X.prog X.w H' h'):Inv X pins σ H' { s with heap:=h',toks:=t' }:=by
 obtain ⟨m,⟨o,es,ep,ho,r⟩,_⟩:=id I.loc
 obtain ⟨sl,hL⟩:=u.any ho I.free (by simp)
 exact I.step (g':=s.gens) (d':=s.drawn) (ch:=[]) (fun _ z=> nomatch z) (fun b o _ hb _ e n=> u.keep b o e n hb (by simp)) (fun b o _ hb _ e n=> u.slot b o e n hb (by simp)) (fun b o _ e n=> u.free b o e n (by simp)) (fun b o _ e=> u.there b o e (by simp)) u.tups u.frzs u.tbls (fun m' hm=> by
  obtain ⟨o',es',ep',ho',r'⟩:=hm
  rw [ho] at ho'; cases ho'
  exact ⟨_,es',ep',hL,r'⟩) hok I.bare
theorem Inv.call {g':Array GenState} {t':Nat} {d':Drawn} {ch:List Addr} (I:Inv X pins σ H s) (u:Un (frs X.stack) ch H H' s.heap h') (hok:HOk X.prog X.w H' h') (hg:AllBare g')
  (hch:∀ b∈ch,(b∈X.ex∨X.s₀.heap.objs.size≤b)∧b≠X.env.locals∧(∀ x c,X.env.cells.lookup x=some c→c≠b)∧∀ p∈X.pn++pins,p.1≠b):
  Inv X pins σ H' { s with heap:=h',gens:=g',drawn:=d',toks:=t' }:=by
 obtain ⟨m,⟨o,es,ep,ho,r⟩,_⟩:=id I.loc
 obtain ⟨sl,hL⟩:=u.any ho I.free fun z=> (hch _ z).2.1 rfl
 exact I.step (ch:=ch) hch (fun b o hL hb hc e n=> u.keep b o e n (fun z=> (List.mem_cons.mp (I.stkSub b z)).elim hL hb) hc) (fun b o _ _ hc e n=> u.any e n hc) (fun b o hc e n=> u.free b o e n hc) (fun b o hc e=> u.there b o e hc) u.tups u.frzs u.tbls (fun m' hm=> by
  obtain ⟨o',es',ep',ho',r'⟩:=hm
  rw [ho] at ho'; cases ho'
  exact ⟨_,es',ep',hL,r'⟩) hok hg
theorem Inv.turned {t':Nat} {it:Addr} (I:Inv X pins σ H s) (k:∀ b o,b≠it→s.heap.get? b=some o→h'.get? b=some o) (hn:H it=none) (hL:it≠X.env.locals)
  (h1:it∈X.ex∨X.s₀.heap.objs.size≤it) (h2:∀ x c,X.env.cells.lookup x=some c→c≠it) (h3:∀ p∈X.pn++pins,p.1≠it):Inv X pins σ H { s with heap:=h',toks:=t' }:=by
 have nit:∀ b u,H b=some u→b≠it:=fun b u e z=> by rw [z,hn] at e; cases e
 refine I.step (g':=s.gens) (d':=s.drawn) (ch:=[it]) (fun b hb=> ?_) (fun b o _ _ hc e _=> k b o (fun z=> hc (by simp [z])) e) (fun b o _ _ hc e _=> ⟨o.slots,k b o (fun z=> hc (by simp [z])) e⟩) (fun _ _ _ _ n=> n)
  (fun b o hc e=> ⟨o,k b o (fun z=> hc (by simp [z])) e⟩) (fun _ _ e=> e) (fun _ _ _ e=> e) (fun b ps e=> ⟨#[],by rw [e]; simp⟩) (fun m hm=> ?_) (fun b u e=> ?_) I.bare
 ·have e:b=it:=by simpa using hb
  subst e
  exact ⟨h1,hL,h2,h3⟩
 ·obtain ⟨o,es,ep,ho,r⟩:=hm
  exact ⟨o,es,ep,k _ o (Ne.symm hL) ho,r⟩
 ·refine (I.hok b u e).stay (fun c v hc q=> k c v ?_ q) (fun _ q=> q) fun _ _ q=> q
  rcases hc with z | z
  ·rw [z]; exact nit b u e
  ·exact nit c _ z
theorem Inv.tok (I:Inv X pins σ H s) (t:Nat):Inv X pins σ H { s with toks:=t }:=I.un (h':=s.heap) (t':=t) Un.refl I.hok
theorem Inv.kept {t':Nat} (I:Inv X pins σ H s) (k:∀ b u,s.heap.get? b=some u→h'.get? b=some u):Inv X pins σ H { s with heap:=h',toks:=t' }:=I.un (Un.kept k) (I.hok.kept k)
theorem Inv.laid {a:Addr} {o:HO} {t':Nat} (I:Inv X pins σ H s) (k:∀ b u,s.heap.get? b=some u→h'.get? b=some u) (hp:s.heap.objs.size≤a) (new:cu X.prog X.w (upd H a o) h' a o):
  Inv X pins σ (upd H a o) { s with heap:=h',toks:=t' }:=I.un (Un.laid k hp (I.hok.fresh hp)) (I.hok.laid k hp new)
theorem Inv.write {x e:Addr} {o:HO} {t':Nat} (I:Inv X pins σ H s) (mu:Mut (H x)) (he:e=x∨H e=some (.own x)) (k:∀ b u,b≠e→s.heap.get? b=some u→h'.get? b=some u) (heo:∃ u,h'.get? e=some u)
  (new:cu X.prog X.w (upd H x o) h' x o):Inv X pins σ (upd H x o) { s with heap:=h',toks:=t' }:=I.un (Un.write mu he k heo) (I.hok.write mu he k heo new)
theorem Inv.weak {σ':List (Option V)} (I:Inv X pins σ H s) (hl:σ'.length=σ.length) (w:∀ (i:Nat) v,σ'[i]?=some (some v)→σ[i]?=some (some v)):Inv X pins σ' H s:=
 ⟨I.ok,I.os,I.bare,I.base,let ⟨m,hn,hl'⟩:=I.loc; ⟨m,hn,fun i x v e1 e2 e3=> hl' i x v e1 (w i v e2) e3⟩,I.cell,I.free,I.freeC,I.pin,I.hok,hl.trans I.len⟩
theorem Inv.pins_of {pins':List (Addr×Obj)} (I:Inv X pins σ H s) (h:∀ p∈pins',s.heap.get? p.1=some p.2∧H p.1=none∧p.1≠X.env.locals∧p.1 ∉ X.fs∧∀ v,p.2.data≠.cell v):Inv X pins' σ H s:=
 ⟨I.ok,I.os,I.bare,I.base,I.loc,I.cell,I.free,I.freeC,fun p hp=> (List.mem_append.mp hp).elim (fun z=> I.pin p (List.mem_append_left _ z)) (h p),I.hok,I.len⟩
theorem nS {N:List Str} (hN:N.Nodup) {i j:Nat} {x:Str} (a:N[i]?=some x) (b:N[j]?=some x):i=j:=by
 obtain ⟨h1,e1⟩:=List.getElem?_eq_some_iff.mp a
 obtain ⟨h2,e2⟩:=List.getElem?_eq_some_iff.mp b
 exact (List.getElem_inj hN).mp (e1.trans e2.symm)
theorem kD {M:Model} {A:Around} {E:Value→Shared→Prop} {i:Nat} {x:Str} {v:V} {u:Value} {Q:Unit→Shared→Prop} (I:Inv X pins σ H s) (hN:X.N.Nodup) (hi:X.N[i]?=some x) (hx:Loc X.env.scope x) (r:aY v u)
  (h:∀ s',Inv X pins (σ.set i (some v)) H s'→(∃ a,Heap.SameBut a s.heap s'.heap∧(a=X.env.locals∨X.env.cells.lookup x=some a))→Q () s') (hf:X.fn x=true∨X.env.scope.names.lookup x=some .local:=by first | exact .inl rfl | exact .inr rfl | assumption):wpAny M A (storeName X.env x u) Q E s:=by
 obtain ⟨m,hn,hl⟩:=id I.loc
 have hcls:(X.env.scope.kind==.class || (X.env.scope.kind==.module && X.env.locals !=X.env.globals))=false:=by rw [I.ok.kind]; rfl
 have hiσ:i < σ.length:=by rw [I.len]; exact (List.getElem?_eq_some_iff.mp hi).1
 have cne:=I.cne
 have tracked:∀ {a:Addr} {h':Heap},(∃ o,s.heap.get? a=some o∧H a=none)→Heap.SameBut a s.heap h'→HOk X.prog X.w H h':=fun {a h'} ha hs b ob e=> by
  obtain ⟨_,_,hfree⟩:=ha
  refine (I.hok b ob e).stay (fun c w' hc q=> (hs.2 c ?_).trans q) (fun _ q=> q) fun _ _ q=> q
  rintro rfl
  rcases hc with rfl | hc
  ·rw [hfree] at e; cases e
  ·rw [hfree] at hc; cases hc
 rcases hx with hk | hk
 ·refine wpAny_storeName_local hk hn (fun h' hn' hs=> ?_) hcls
  obtain ⟨oL,_,_,hoL,_⟩:=id hn
  refine h _ ⟨I.ok,I.os,I.bare,⟨fun b o e n hb hx=> ?_,fun b o e n hb hx=> ?_,I.base.free,fun b o e hx=> ?_,I.base.tups,I.base.frzs,I.base.tbls⟩,⟨_,hn',fun j y v' e1 e2 e3=> ?_⟩,fun y c e=> ?_,I.free,I.freeC,fun p hp=> ?_,tracked ⟨oL,hoL,I.free⟩ hs,by simpa using I.len⟩ ⟨_,hs,.inl rfl⟩
  ·exact (hs.2 b (Nat.ne_of_lt (Nat.lt_of_lt_of_le (Heap.lt_size e) I.ok.above))).trans (I.base.keep b o e n hb hx)
  ·obtain ⟨sl,e1⟩:=I.base.slot b o e n hb hx
   exact ⟨sl,(hs.2 b (Nat.ne_of_lt (Nat.lt_of_lt_of_le (Heap.lt_size e) I.ok.above))).trans e1⟩
  ·obtain ⟨o',e1⟩:=I.base.there b o e hx
   exact ⟨o',(hs.2 b (Nat.ne_of_lt (Nat.lt_of_lt_of_le (Heap.lt_size e) I.ok.above))).trans e1⟩
  ·by_cases hj:j=i
   ·subst hj
    rw [hi] at e1; cases e1
    rw [List.getElem?_set_self hiσ] at e2
    cases e2
    exact ⟨u,r,.inl ⟨hk,by simp⟩⟩
   ·rw [List.getElem?_set_ne (Ne.symm hj)] at e2
    obtain ⟨u',r',q⟩:=hl j y v' e1 e2 e3
    refine ⟨u',r',?_⟩
    rcases q with ⟨k,e⟩ | ⟨k,c,e,z⟩
    ·refine .inl ⟨k,?_⟩
     have:y≠x:=fun e=> hj (nS hN e1 (e ▸ hi))
     simp [this,e]
    ·exact .inr ⟨k,c,e,z.sameBut hs (cne y c e)⟩
  ·obtain ⟨w',z⟩:=I.cell y c e
   exact ⟨w',z.sameBut hs (cne y c e)⟩
  ·obtain ⟨e,n,ne,nf,d⟩:=I.pin p hp
   exact ⟨(hs.2 p.1 ne).trans e,n,ne,nf,d⟩
 ·have hfn:X.fn x=true:=by
   rcases hf with z | z
   ·exact z
   ·rw [z] at hk; cases hk
  obtain ⟨c,hc⟩:=I.ok.has x (.inl hk)
  obtain ⟨w',z⟩:=I.cell x c hc
  refine wpAny_storeName_cell I.ok.kind hk hc z (fun h' hc' hs=> ?_)
  obtain ⟨oc,hoc,hocd⟩:=id z
  refine h { s with heap:=h' } ⟨I.ok,I.os,I.bare,⟨fun b o e n hb hx=> ?_,fun b o e n hb hx=> ?_,I.base.free,fun b o e hx=> ?_,I.base.tups,I.base.frzs,I.base.tbls⟩,⟨m,hn.sameBut hs (Ne.symm (cne x c hc)),fun j y v' e1 e2 e3=> ?_⟩,fun y c' e=> ?_,I.free,I.freeC,fun p hp=> ?_,tracked ⟨oc,hoc,I.freeC x c hc⟩ hs,by simpa using I.len⟩ ⟨c,hs,.inr hc⟩
  ·exact (hs.2 b (Nat.ne_of_lt (Nat.lt_of_lt_of_le (Heap.lt_size e) (I.ok.cab x c hfn hc)))).trans (I.base.keep b o e n hb hx)
  ·obtain ⟨sl,e1⟩:=I.base.slot b o e n hb hx
   exact ⟨sl,(hs.2 b (Nat.ne_of_lt (Nat.lt_of_lt_of_le (Heap.lt_size e) (I.ok.cab x c hfn hc)))).trans e1⟩
  ·obtain ⟨o',e1⟩:=I.base.there b o e hx
   exact ⟨o',(hs.2 b (Nat.ne_of_lt (Nat.lt_of_lt_of_le (Heap.lt_size e) (I.ok.cab x c hfn hc)))).trans e1⟩
  ·by_cases hj:j=i
   ·subst hj
    rw [hi] at e1; cases e1
    rw [List.getElem?_set_self hiσ] at e2
    cases e2
    exact ⟨u,r,.inr ⟨.inl hk,c,hc,hc'⟩⟩
   ·rw [List.getElem?_set_ne (Ne.symm hj)] at e2
    obtain ⟨u',r',q⟩:=hl j y v' e1 e2 e3
    refine ⟨u',r',?_⟩
    rcases q with q | ⟨k,c',e,z'⟩
    ·exact .inl q
    ·refine .inr ⟨k,c',e,z'.sameBut hs ?_⟩
     rintro rfl
     exact hj (nS hN e1 (I.ok.inj _ _ _ e hc ▸ hi))
  ·by_cases hcc:c'=c
   ·subst hcc; exact ⟨_,hc'⟩
   ·obtain ⟨w2,z2⟩:=I.cell y c' e
    exact ⟨w2,z2.sameBut hs hcc⟩
  ·obtain ⟨e,n,ne,nf,d⟩:=I.pin p hp
   refine ⟨(hs.2 p.1 ?_).trans e,n,ne,nf,d⟩
   intro q
   rw [q,hoc] at e
   have q':oc=p.2:=Option.some.inj e
   exact d w' (by rw [← q']; exact hocd)
theorem hJ {M:Model} {A:Around} {E:Value→Shared→Prop} {i:Nat} {x:Str} {v:V} {u:Value} {Q:Unit→Shared→Prop} (I:Inv X pins σ H s) (hN:X.N.Nodup) (hi:X.N[i]?=some x) (hx:Loc X.env.scope x) (r:aY v u)
  (h:∀ s',Inv X pins (σ.set i (some v)) H s'→Q () s') (hf:X.fn x=true∨X.env.scope.names.lookup x=some .local:=by first | exact .inl rfl | exact .inr rfl | assumption):wpAny M A (storeName X.env x u) Q E s:=
 kD I hN hi hx r (fun s' I' _=> h s' I') hf
theorem Inv.call' {s':Shared} {ch:List Addr} (I:Inv X pins σ H s) (ho:s'.os=s.os) (u:Un (frs X.stack) ch H H' s.heap s'.heap) (hok:HOk X.prog X.w H' s'.heap) (hg:AllBare s'.gens)
  (hch:∀ b∈ch,(b∈X.ex∨X.s₀.heap.objs.size≤b)∧b≠X.env.locals∧(∀ x c,X.env.cells.lookup x=some c→c≠b)∧∀ p∈X.pn++pins,p.1≠b):Inv X pins σ H' s':=by
 obtain ⟨h',g',d',t',o'⟩:=s'
 have e:o'=s.os:=ho
 subst e
 exact I.call (g':=g') (t':=t') (d':=d') u hok hg hch
end
abbrev XK:=Value→Option Addr→Hp→Prop
abbrev St:=List (Option V)
abbrev VK:=V→Hp→Prop
abbrev TE:=St→Hp→VK→Prop
abbrev TT:=St→Hp→(Bool→Hp→Prop)→Prop
abbrev TA:=St→Hp→(List V→Hp→Prop)→Prop
structure kU where
 nx:St→Hp→Prop
 rt:VK
 bk:St→Hp→Prop:=fun _ _=> False
 ct:St→Hp→Prop:=fun _ _=> False
abbrev TS:=kU→St→Hp→Prop
def EP (X:Cx) (pins:List (Addr×Obj)) (σ:St) (Q:VK) (u:Value) (s':Shared):Prop:=∃ v H',Inv X pins σ H' s'∧aY v u∧Q v H'
def TP (X:Cx) (pins:List (Addr×Obj)) (σ:St) (Q:Bool→Hp→Prop) (b:Bool) (s':Shared):Prop:=∃ H',Inv X pins σ H' s'∧Q b H'
def AP (X:Cx) (pins:List (Addr×Obj)) (σ:St) (Q:List V→Hp→Prop) (us:List Value) (s':Shared):Prop:=∃ vs H',Inv X pins σ H' s'∧aL vs us∧Q vs H'
def SP (X:Cx) (pins:List (Addr×Obj)) (D:kU) (f:Flow) (s':Shared):Prop:=
 match f with
 | .next=> ∃ σ' H',Inv X pins σ' H' s'∧D.nx σ' H'
 | .brk=> ∃ σ' H',Inv X pins σ' H' s'∧D.bk σ' H'
 | .cont=> ∃ σ' H',Inv X pins σ' H' s'∧D.ct σ' H'
 | .ret u=> ∃ v σ' H',Inv X pins σ' H' s'∧aY v u∧D.rt v H'
def PE (X:Cx) (e:Expr) (t:TE):Prop:=
 ∀ (pins:List (Addr×Obj)) (s:Shared) (σ:St) (H:Hp) (Q:VK),Inv X pins σ H s→t σ H Q→wpAny (model X.prog X.w) X.A (eval e X.env) (EP X pins σ Q) X.xe s
def PT (X:Cx) (e:Expr) (t:TT):Prop:=
 ∀ (pins:List (Addr×Obj)) (s:Shared) (σ:St) (H:Hp) (Q:Bool→Hp→Prop),Inv X pins σ H s→t σ H Q→wpAny (model X.prog X.w) X.A (isTrue e X.env (eval e X.env)) (TP X pins σ Q) X.xe s
def PW (X:Cx) (e:Expr) (t:TT):Prop:=
 ∀ (whole:Sem Value) (pins:List (Addr×Obj)) (s:Shared) (σ:St) (H:Hp) (Q:Bool→Hp→Prop),Inv X pins σ H s→t σ H Q→wpAny (model X.prog X.w) X.A (isTrue e X.env whole) (TP X pins σ Q) X.xe s
theorem PW.pt {X:Cx} {e:Expr} {t:TT} (h:PW X e t):PT X e t:=h _
def PA (X:Cx) (es:List Expr) (t:TA):Prop:=
 ∀ (pos:Pos) (pins:List (Addr×Obj)) (s:Shared) (σ:St) (H:Hp) (Q:List V→Hp→Prop),Inv X pins σ H s→t σ H Q→wpAny (model X.prog X.w) X.A (spliced (backTo pos (starEach es X.env))) (AP X pins σ Q) X.xe s
def PS (X:Cx) (st:Stmt) (t:TS):Prop:=
 ∀ (pins:List (Addr×Obj)) (s:Shared) (σ:St) (H:Hp) (D:kU),Inv X pins σ H s→t D σ H→wpAny (model X.prog X.w) X.A (exec st X.env) (SP X pins D) X.xe s
def PSs (X:Cx) (st:List Stmt) (t:TS):Prop:=
 ∀ (pins:List (Addr×Obj)) (s:Shared) (σ:St) (H:Hp) (D:kU),Inv X pins σ H s→t D σ H→wpAny (model X.prog X.w) X.A (execs st X.env) (SP X pins D) X.xe s
theorem thn {α:Type} {t:Sem α} {Q Q':α→Shared→Prop} {M:Model} {A:Around} {E:Value→Shared→Prop} {s:Shared} (h:wpAny M A t Q E s) (hQ:∀ a s,Q a s→Q' a s):wpAny M A t Q' E s:=wpAny_mono h hQ fun _ _ x=> x
end L2
namespace L2
open PySem PySem.Spec PyProof.Rows
section
variable {X:Cx}
def A4 (i:Nat):TE:=fun σ H Q=> ∃ v,σ[i]?=some (some v)∧Q v H
def tC (v:V):TE:=fun _ H Q=> Q v H
theorem gA {i:Nat} {x:Str} {pos:Pos} (hN:X.N[i]?=some x) (hv:Vis X.env.scope x) (hd:(x==("__debug__":Str))=false:=by decide) (hcd:(x==("__classdict__":Str))=false:=by decide):PE X (.Name x pos) (A4 i):=by
 intro pins s σ H Q I h
 obtain ⟨v,e,h⟩:=h
 obtain ⟨m,hn,hl⟩:=I.loc
 obtain ⟨u,r,l⟩:=hl i x v hN e hv
 have fin:EP X pins σ Q u s:=⟨v,H,I,r,h⟩
 rcases l with ⟨hk,hm⟩ | ⟨hk,c,hc,hcell⟩
 ·exact wpAny_Name (wpAny_loadName_local I.ok.kind hk hn hm fin) hd
 ·rcases hk with hk | hk
  ·exact wpAny_Name (wpAny_loadName_cell I.ok.kind hk hc hcell fin) hd
  ·exact wpAny_Name (wpAny_loadName_free I.ok.kind hk hc hcell fin hcd) hd
theorem yQ {i j pos}:PE X (.Constant (.int i) j pos) (tC (.int i)):=fun _ _ _ H _ I h=> wpAny_Constant_int ⟨.int i,H,I.tok _,⟨_,rfl⟩,h⟩
theorem Aa {b j pos}:PE X (.Constant (.bool b) j pos) (tC (.bl b)):=fun _ _ _ H _ I h=> Constant_bool ⟨.bl b,H,I,rfl,h⟩
theorem yy {x j pos}:PE X (.Constant (.str x) j pos) (tC (.str x)):=fun _ _ _ H _ I h=> Calls.Constant_str ⟨.str x,H,I.tok _,⟨_,rfl⟩,h⟩
def Gl (X:Cx) (x:Str):Prop:=X.env.kindOf x=some .globalImplicit
theorem lz {E:Value→Shared→Prop} {pins:List (Addr×Obj)} {s:Shared} {σ:St} {H:Hp} {x:Str} {u:Value} {pos:Pos} {Q:Value→Shared→Prop} (I:Inv X pins σ H s) (hg:Gl X x) (hm:X.mg x=some u) (h:Q u s)
  (hd:(x==("__debug__":Str))=false:=by decide):wpAny (model X.prog X.w) X.A (eval (.Name x pos) X.env) Q E s:=
 Calls.Name_function_global I.ok.kind hg (Calls.loadGlobal_global (by rw [I.ok.glob]; exact I.mod.glob.keeps I.bk) hm h) hd
theorem cR {E:Value→Shared→Prop} {pins:List (Addr×Obj)} {s:Shared} {σ:St} {H:Hp} {x:Str} {u:Value} {pos:Pos} {Q:Value→Shared→Prop} (I:Inv X pins σ H s) (hg:Gl X x) (hm:X.mg x=none) (hv:bootBuiltins x=some u) (h:Q u s)
  (hn:x≠"__name__":=by decide) (hd:(x==("__debug__":Str))=false:=by decide):wpAny (model X.prog X.w) X.A (eval (.Name x pos) X.env) Q E s:=by
 obtain ⟨mb,h1,h2⟩:=I.mod.blt
 exact Calls.Name_function_global I.ok.kind hg (Calls.loadGlobal_builtin (by rw [I.ok.glob]; exact I.mod.glob.keeps I.bk) hm (by rw [I.ok.blt]; exact h1.keeps I.bk) ((h2 x hn).trans hv) h) hd
theorem xA {x:Str} {v:V} {u:Value} {pos:Pos} (hg:Gl X x) (hm:X.mg x=some u) (r:aY v u) (hd:(x==("__debug__":Str))=false:=by decide):PE X (.Name x pos) (tC v):=
 fun _ _ _ H _ I h=> lz I hg hm ⟨v,H,I,r,h⟩ hd
theorem wv {x:Str} {v:V} {u:Value} {pos:Pos} (hg:Gl X x) (hm:X.mg x=none) (hv:bootBuiltins x=some u) (r:aY v u) (hn:x≠"__name__":=by decide) (hd:(x==("__debug__":Str))=false:=by decide):PE X (.Name x pos) (tC v):=
 fun _ _ _ H _ I h=> cR I hg hm hv ⟨v,H,I,r,h⟩ hn hd
variable {a b:Expr} {ta tb:TE} {pos:Pos}
def tB (t:TE):TT:=fun σ H Q=> t σ H fun x H1=> ∃ c,x=.bl c∧Q c H1
theorem yI {e:Expr} {t:TE} (h:PE X e t) (he:∀ whole,isTrue e X.env whole=(do let v ← whole; standAt e.pos; holding [v] (truthy v)):=by intro _; rfl):PT X e (tB t):=by
 intro pins s σ H Q I hw
 refine isTrue_plain (thn (h pins s σ H _ I hw) fun v s1 ⟨x,H1,I1,r1,q1⟩=> ?_) (he _)
 obtain ⟨d,rfl,q⟩:=q1
 cases r1
 exact wpAny_truthy_bool ⟨H1,I1,q⟩
variable {tA tB':TT} {rest:List Expr}
def A_ (t u:TT):TT:=fun σ H Q=> t σ H fun c H1=> if c=true then u σ H1 Q else Q false H1
def tOr (t u:TT):TT:=fun σ H Q=> t σ H fun c H1=> if c=true then Q true H1 else u σ H1 Q
def A6 (t:TT):TT:=fun σ H Q=> t σ H fun c H1=> Q (!c) H1
theorem xx (ha:PT X a tA):PW X (.BoolOp .And [a] pos) tA:=by
 intro wh pins s σ H Q I h
 refine isTrue_and (thn (ha pins s σ H Q I h) fun c s1 e=> ?_)
 cases c with
 | true=> exact isTrue_and_nil e
 | false=> exact e
theorem yC (ha:PT X a tA):PW X (.BoolOp .Or [a] pos) tA:=by
 intro wh pins s σ H Q I h
 refine isTrue_or (thn (ha pins s σ H Q I h) fun c s1 e=> ?_)
 cases c with
 | false=> exact isTrue_or_nil e
 | true=> exact e
theorem vJ (ha:PT X a tA) (hb:PW X (.BoolOp .And (b::rest) pos) tB'):PW X (.BoolOp .And (a::b::rest) pos) (A_ tA tB'):=by
 intro wh pins s σ H Q I h
 refine isTrue_and (thn (ha pins s σ H _ I h) fun c s1 ⟨H1,I1,q1⟩=> ?_)
 cases c with
 | true=> exact hb wh pins s1 σ H1 Q I1 q1
 | false=> exact ⟨H1,I1,q1⟩
theorem xQ (ha:PT X a tA) (hb:PW X (.BoolOp .Or (b::rest) pos) tB'):PW X (.BoolOp .Or (a::b::rest) pos) (tOr tA tB'):=by
 intro wh pins s σ H Q I h
 refine isTrue_or (thn (ha pins s σ H _ I h) fun c s1 ⟨H1,I1,q1⟩=> ?_)
 cases c with
 | true=> exact ⟨H1,I1,q1⟩
 | false=> exact hb wh pins s1 σ H1 Q I1 q1
theorem yL (ha:PT X a tA):PT X (.UnaryOp .Not a pos) (A6 tA):=by
 intro pins s σ H Q I h
 exact isTrue_not (ha pins s σ H (fun c H1=> Q (!c) H1) I h)
def Am (ta tb:TE):TE:=fun σ H Q=> ta σ H fun x H1=> ∃ c,x=.bl c∧if c=true then tb σ H1 Q else Q (.bl false) H1
def Ac (ta:TE):TE:=fun σ H Q=> ta σ H fun x H1=> ∃ c,x=.bl c∧Q (.bl (!c)) H1
theorem y_ {op} {t:TE} (h:PE X a t):PE X (.BoolOp op [a] pos) t:=fun pins s σ H Q I hw=> BoolOp_one (h pins s σ H Q I hw)
theorem vL (ha:PE X a ta) (hb:PE X (.BoolOp .And (b::rest) pos) tb):PE X (.BoolOp .And (a::b::rest) pos) (Am ta tb):=by
 intro pins s σ H Q I h
 refine BoolOp_and (thn (ha pins s σ H _ I h) fun v s1 ⟨x,H1,I1,r1,q1⟩=> ?_)
 obtain ⟨c,rfl,q1⟩:=q1
 cases r1
 refine wpAny_truthy_bool ?_
 cases c with
 | true=> exact hb pins s1 σ H1 Q I1 q1
 | false=> exact ⟨.bl false,H1,I1,rfl,q1⟩
theorem yG (ha:PE X a ta):PE X (.UnaryOp .Not a pos) (Ac ta):=by
 intro pins s σ H Q I h
 refine UnaryOp_ (thn (ha pins s σ H _ I h) fun v s1 ⟨x,H1,I1,r1,q1⟩=> ?_)
 obtain ⟨c,rfl,q1⟩:=q1
 cases r1
 exact not_of (wpAny_truthy_bool ⟨.bl (!c),H1,I1,rfl,q1⟩)
end
end L2
namespace L2
open PySem PySem.Spec PyProof.Rows
def SqL (K:PySem.W.Frag) (H:Hp) (a:Addr) (xs:List V):Prop:=
 Rd H a (.lst xs)∨
  ∃ (o:Obj) (its:Array Value) (n:Nat),K.lookup a=some o∧o.cls=.type "list"∧o.dict=none∧o.data=.seq its n∧its.size≤sizeLine∧aL xs its.toList
def SqT (K:PySem.W.Frag) (H:Hp) (a:Addr) (xs:List V):Prop:=
 Rd H a (.tup xs)∨
  ∃ (o:Obj) (its:Array Value) (n:Nat),K.lookup a=some o∧o.cls=.type "tuple"∧o.data=.seq its n∧its.size≤sizeLine∧aL xs its.toList
def AV:Value→Option V
 | .none=> some .non
 | .bool b=> some (.bl b)
 | .int i _=> some (.int i)
 | .str x _=> some (.str x)
 | .bytes b _=> some (.byt b)
 | .float b _=> some (.flt b)
 | .ref a=> some (.ref a)
 | .type n=> some (.ty n)
 | _=> none
theorem aY.abs {x:V} {u:Value} (r:aY x u):AV u=some x:=by
 cases x with
 | non=> cases r; rfl
 | bl _=> cases r; rfl
 | int _=> obtain ⟨t,rfl⟩:=r; rfl
 | str _=> obtain ⟨t,rfl⟩:=r; rfl
 | byt _=> obtain ⟨t,rfl⟩:=r; rfl
 | flt _=> obtain ⟨t,rfl⟩:=r; rfl
 | ref _=> cases r; rfl
 | ty _=> cases r; rfl
theorem aY.inj {x y:V} {u:Value} (r:aY x u) (q:aY y u):x=y:=Option.some.inj (r.abs.symm.trans q.abs)
theorem aL.inj:∀ {xs ys:List V} {us:List Value},aL xs us→aL ys us→xs=ys
 | _,_,_,.nil,.nil=> rfl
 | _,_,_,.cons r t,.cons r' t'=> by rw [r.inj r',aL.inj t t']
section
variable {X:Cx} {pins:List (Addr×Obj)} {σ:St} {H:Hp} {s:Shared} {a:Addr} {xs ys:List V}
theorem SqL.of {K:PySem.W.Frag} (h:H a=some (.lst xs)):SqL K H a xs:=.inl (.inl h)
theorem SqT.of {K:PySem.W.Frag} (h:H a=some (.tup xs)):SqT K H a xs:=.inl (.inl h)
theorem Inv.list (I:Inv X pins σ H s) (h:SqL X.K H a xs):∃ its:List Value,aL xs its∧PlainL s.heap a its.toArray∧xs.length≤sizeLine:=by
 rcases h with h | ⟨o,its,n,hk,hc,hd,hs,hz,r⟩
 ·obtain ⟨z,its,n,r,e⟩:=h.ok I.hok
  exact ⟨its,r,⟨_,n,e,rfl,rfl,rfl⟩,z⟩
 ·refine ⟨its.toList,r,⟨o,n,I.kIn a o hk,hc,hd,by simpa using hs⟩,?_⟩
  have e:=r.length
  simp only [Array.length_toList] at e
  omega
theorem Inv.tuple (I:Inv X pins σ H s) (h:SqT X.K H a xs):∃ its:List Value,aL xs its∧IsTup s.heap a its.toArray∧xs.length≤sizeLine:=by
 rcases h with h | ⟨o,its,n,hk,hc,hs,hz,r⟩
 ·obtain ⟨z,its,r,p⟩:=h.ok I.hok
  exact ⟨its,r,p,z⟩
 ·refine ⟨its.toList,r,⟨o,I.kIn a o hk,hc,n,by simpa using hs⟩,?_⟩
  have e:=r.length
  simp only [Array.length_toList] at e
  omega
theorem Inv.list_inj (I:Inv X pins σ H s) (h:SqL X.K H a xs) (h':SqL X.K H a ys):xs=ys:=by
 obtain ⟨its,r,⟨o,n,e,_,_,d⟩,_⟩:=I.list h
 obtain ⟨its',r',⟨o',n',e',_,_,d'⟩,_⟩:=I.list h'
 rw [e] at e'; cases e'
 rw [d] at d'
 injection d' with d1 _
 have:its=its':=by simpa using congrArg Array.toList d1
 subst this
 exact r.inj r'
theorem Inv.tuple_inj (I:Inv X pins σ H s) (h:SqT X.K H a xs) (h':SqT X.K H a ys):xs=ys:=by
 obtain ⟨its,r,⟨o,e,_,n,d⟩,_⟩:=I.tuple h
 obtain ⟨its',r',⟨o',e',_,n',d'⟩,_⟩:=I.tuple h'
 rw [e] at e'; cases e'
 rw [d] at d'
 injection d' with d1 _
 have:its=its':=by simpa using congrArg Array.toList d1
 subst this
 exact r.inj r'
end
abbrev Cx.wish (X:Cx) (E:Value→Shared→Prop):Cx:={ X with xe:=E }
abbrev Cx.nox (X:Cx):Cx:=X.wish fun _ _=> False
theorem Cx.Ok.wish {X:Cx} (ok:X.Ok) (E:Value→Shared→Prop):(X.wish E).Ok:=
 ⟨ok.mod,ok.kind,ok.glob,ok.blt,ok.above,ok.inj,ok.has,ok.cab,ok.hd,ok.frames,ok.stk,ok.exf,ok.bs,ok.bsz,ok.noex,ok.exfs,ok.funs,ok.frf⟩
theorem Cx.Ok.unwish {X:Cx} {E:Value→Shared→Prop} (ok:(X.wish E).Ok):X.Ok:=
 ⟨ok.mod,ok.kind,ok.glob,ok.blt,ok.above,ok.inj,ok.has,ok.cab,ok.hd,ok.frames,ok.stk,ok.exf,ok.bs,ok.bsz,ok.noex,ok.exfs,ok.funs,ok.frf⟩
section
variable {X:Cx} {pins:List (Addr×Obj)} {σ:St} {H:Hp} {s:Shared} {E:Value→Shared→Prop}
theorem Inv.wish (I:Inv X pins σ H s) (E:Value→Shared→Prop):Inv (X.wish E) pins σ H s:=⟨I.ok.wish E,I.os,I.bare,I.base,I.loc,I.cell,I.free,I.freeC,I.pin,I.hok,I.len⟩
theorem Inv.unwish (I:Inv (X.wish E) pins σ H s):Inv X pins σ H s:=⟨I.ok.unwish,I.os,I.bare,I.base,I.loc,I.cell,I.free,I.freeC,I.pin,I.hok,I.len⟩
theorem SP.unwish {D:kU} {f:Flow} {s':Shared} (h:SP (X.wish E) pins D f s'):SP X pins D f s':=by
 cases f with
 | next=> obtain ⟨σ',H',I,q⟩:=h; exact ⟨σ',H',I.unwish,q⟩
 | brk=> obtain ⟨σ',H',I,q⟩:=h; exact ⟨σ',H',I.unwish,q⟩
 | cont=> obtain ⟨σ',H',I,q⟩:=h; exact ⟨σ',H',I.unwish,q⟩
 | ret u=> obtain ⟨v,σ',H',I,r,q⟩:=h; exact ⟨v,σ',H',I.unwish,r,q⟩
theorem PSs.nox {st:List Stmt} {t:TS} (h:PSs X.nox st t):PSs X st t:=fun pins s σ H D I hw=>
 wpAny_mono (h pins s σ H D (I.wish _) hw) (fun _ _ q=> q.unwish) fun _ _ z=> False.elim z
end
section
variable {X:Cx} {st:Stmt} {rest:List Stmt} {t u:TS} {e:Expr} {te:TE} {pos:Pos}
def zT:TS:=fun D σ H=> D.nx σ H
def AQ (t u:TS):TS:=fun D σ H=> t { D with nx:=u D } σ H
theorem xy:PSs X [] zT:=fun _ _ σ H _ I h=> wpAny_execs_nil ⟨σ,H,I,h⟩
theorem uq (h1:PS X st t) (h2:PSs X rest u):PSs X (st::rest) (AQ t u):=by
 intro pins s σ H D I h
 refine wpAny_execs_cons (thn (h1 pins s σ H { D with nx:=u D } I h) fun f s1 q=> ?_)
 cases f with
 | next=>
  obtain ⟨σ',H',I',q⟩:=q
  exact h2 pins s1 σ' H' D I' q
 | ret v=> exact q
 | brk=> exact q
 | cont=> exact q
theorem Inv.quiet {pins:List (Addr×Obj)} {σ:St} {H:Hp} {s:Shared} (I:Inv X pins σ H s):interactive X.env=false:=by simp [interactive,I.ok.kind]
def At (te:TE):TS:=fun D σ H=> te σ H fun _ H1=> D.nx σ H1
theorem g8 (he:PE X e te) (hs:swapsWith e none pos.line X.env=pure false:=by rfl):PS X (.Expr e pos) (At te):=by
 intro pins s σ H D I h
 exact wpAny_Expr_any (thn (he pins s σ H _ I h) fun v s1 ⟨x,H1,I1,r1,q1⟩=> ⟨σ,H1,I1,q1⟩) I.quiet hs
def A9 (te:TE):TS:=fun D σ H=> te σ H D.rt
theorem ot (he:PE X e te):PS X (.Return (some e) pos) (A9 te):=by
 intro pins s σ H D I h
 exact wpAny_Return_some (thn (he pins s σ H _ I h) fun v s1 ⟨x,H1,I1,r1,q1⟩=> ⟨x,σ,H1,I1,r1,q1⟩)
def AH (c:TT) (t u:TS):TS:=fun D σ H=> c σ H fun b H1=> if b=true then t D σ H1 else u D σ H1
theorem xY {c:Expr} {a b:List Stmt} {tc:TT} (hc:PT X c tc) (ha:PSs X a t) (hb:PSs X b u):PS X (.If c a b pos) (AH tc t u):=by
 intro pins s σ H D I h
 refine wpAny_If (thn (hc pins s σ H _ I h) fun d s1 ⟨H1,I1,q1⟩=> ?_)
 cases d with
 | true=> exact ha pins s1 σ H1 D I1 q1
 | false=> exact hb pins s1 σ H1 D I1 q1
end
abbrev TG:=V→St→Hp→(St→Hp→Prop)→Prop
abbrev TGs:=List V→St→Hp→(St→Hp→Prop)→Prop
def PG (X:Cx) (target:Expr) (t:TG):Prop:=
 ∀ (pins:List (Addr×Obj)) (s:Shared) (σ:St) (H:Hp) (v:V) (u:Value) (Q:St→Hp→Prop),Inv X pins σ H s→aY v u→t v σ H Q→
  wpAny (model X.prog X.w) X.A (assign target X.env u) (fun _ s'=> ∃ σ' H',Inv X pins σ' H' s'∧Q σ' H') X.xe s
def PGs (X:Cx) (ts:List Expr) (t:TGs):Prop:=
 ∀ (pins:List (Addr×Obj)) (s:Shared) (σ:St) (H:Hp) (vs:List V) (us:List Value) (Q:St→Hp→Prop),Inv X pins σ H s→aL vs us→t vs σ H Q→
  wpAny (model X.prog X.w) X.A (assignInOrder ((assignEach ts X.env).map (·.2)) us) (fun _ s'=> ∃ σ' H',Inv X pins σ' H' s'∧Q σ' H') X.xe s
section
variable {X:Cx} {pos:Pos}
def nI (i:Nat):TG:=fun v σ H Q=> Q (σ.set i (some v)) H
theorem bi {i:Nat} {x:Str} (hN:X.N.Nodup) (hi:X.N[i]?=some x) (hx:Loc X.env.scope x) (hf:X.fn x=true∨X.env.scope.names.lookup x=some .local:=by first | exact .inl rfl | exact .inr rfl | assumption):PG X (.Name x pos) (nI i):=by
 intro pins s σ H v u Q I r h
 exact wpAny_assign_Name (hJ I hN hi hx r (fun s' I'=> ⟨_,H,I',h⟩) hf)
def An:TGs:=fun vs σ H Q=> vs=[]∧Q σ H
def xP (t:TG) (u:TGs):TGs:=fun vs σ H Q=> ∃ v r,vs=v::r∧t v σ H fun σ' H'=> u r σ' H' Q
theorem i4:PGs X [] An:=by
 intro pins s σ H vs us Q I r h
 obtain ⟨e,h⟩:=h
 subst e
 cases r
 exact assignInOrder_nil ⟨σ,H,I,h⟩
theorem dl {e:Expr} {es:List Expr} {t:TG} {u:TGs} (h1:PG X e t) (h2:PGs X es u)
  (hs:(assignEach (e::es) X.env).map (·.2)=assign e X.env::(assignEach es X.env).map (·.2):=by rfl):PGs X (e::es) (xP t u):=by
 intro pins s σ H vs us Q I r h
 obtain ⟨v,vr,e1,h⟩:=h
 subst e1
 cases r with
 | cons r rr=>
  rw [hs]
  refine assignInOrder_cons (thn (h1 pins s σ H _ _ _ I r h) fun _ s1 ⟨σ1,H1,I1,q1⟩=> ?_)
  exact h2 pins s1 σ1 H1 _ _ Q I1 rr q1
def As (K:PySem.W.Frag) (n:Nat) (t:TGs):TG:=fun v σ H Q=> ∃ a xs,v=.ref a∧SqT K H a xs∧xs.length=n∧t xs σ H Q
theorem oM {es:List Expr} {k:Nat} {t:TGs} {n:Nat} (hc:X.calm=true) (h:PGs X es t)
  (hn:(assignEach es X.env).length=n:=by rfl) (hst:(assignEach es X.env).findIdx? (·.1)=none:=by rfl):PG X (.Tuple es k pos) (As X.K n t):=by
 intro pins s σ H v u Q I r hw
 obtain ⟨a,xs,e1,hq,hl,hw⟩:=hw
 subst e1
 cases r
 obtain ⟨its,rv,ht,hz⟩:=I.tuple hq
 refine assign_Tuple_tuple (I.ok.hd hc) ht (by simp [hn,← hl,rv.length]) hst fun h' hx=> ?_
 have I1:Inv X pins σ H { s with heap:=h' }:=I.kept (t':=s.toks) fun b o e=> hx b o (Nat.ne_of_lt (Heap.lt_size e)) e
 exact h pins _ σ H xs _ Q I1 (by simpa using rv) hw
def ze (te:TE) (g:TG):TS:=fun D σ H=> te σ H fun x H1=> g x σ H1 D.nx
theorem y3 {tg e:Expr} {te:TE} {g:TG} (he:PE X e te) (hg:PG X tg g) (hs:swapsWithSole [tg] e pos.line X.env=pure false:=by rfl) (hw:swappedStores [tg] e X.env=pure none:=by rfl)
  (h1:(assignEach [tg] X.env).map (·.2)=[assign tg X.env]:=by rfl):PS X (.Assign [tg] e pos) (ze te g):=by
 intro pins s σ H D I h
 refine wpAny_Assign_stores (thn (he pins s σ H _ I h) fun v s1 ⟨x,H1,I1,r1,q1⟩=> ?_) hs hw
 rw [h1]
 exact thn (hg pins s1 σ H1 x v _ I1 r1 q1) fun _ s2 q=> q
theorem vW {i:Nat} {x:Str} {e:Expr} {te:TE} {pos':Pos} (hN:X.N.Nodup) (hi:X.N[i]?=some x) (hx:Loc X.env.scope x) (he:PE X e te) (hs:swapsWith e (some (.Name x pos')) pos.line X.env=pure false:=by rfl) (hf:X.fn x=true∨X.env.scope.names.lookup x=some .local:=by first | exact .inl rfl | exact .inr rfl | assumption):
  PS X (.Assign [.Name x pos'] e pos) (ze te (nI i)):=by
 intro pins s σ H D I h
 refine wpAny_Assign_Name (thn (he pins s σ H _ I h) fun v s1 ⟨y,H1,I1,r1,q1⟩=> ?_) hs
 exact hJ I1 hN hi hx r1 (fun s2 I2=> ⟨_,H1,I2,q1⟩) hf
def AL (i j:Nat) (ta:TA):TS:=fun D σ H=> ta σ H fun vs H1=> ∃ v w,vs=[v,w]∧D.nx ((σ.set i (some v)).set j (some w)) H1
theorem zn {i j:Nat} {x y:Str} {a b:Expr} {ta:TA} {px py pt:Pos} {kt k2 pt2} (hc:X.calm=true) (hN:X.N.Nodup) (hi:X.N[i]?=some x) (hj:X.N[j]?=some y) (hij:i≠j)
  (hx:X.env.scope.names.lookup x=some .local) (hy:X.env.scope.names.lookup y=some .local) (ha:PA X [a,b] ta)
  (hw:swappedStores [.Tuple [.Name x px,.Name y py] kt pt] (.Tuple [a,b] k2 pt2) X.env=pure (some [x,y]))
  (hs:swapsWithSole [.Tuple [.Name x px,.Name y py] kt pt] (.Tuple [a,b] k2 pt2) pos.line X.env=pure false:=by rfl):
  PS X (.Assign [.Tuple [.Name x px,.Name y py] kt pt] (.Tuple [a,b] k2 pt2) pos) (AL i j ta):=by
 intro pins s σ H D I h
 rw [exec_Assign_arm]
 refine wpAny_bind (wpAny_standAt ?_)
 rw [hs]
 refine wpAny_bind (wpAny_pure ?_)
 rw [if_neg (by decide)]
 refine wpAny_bind (Tuple_ (thn (ha _ pins s σ H _ I h) fun us s1 ⟨vs,H1,I1,r1,q1⟩=> ?_))
 obtain ⟨v,w,e1,q1⟩:=q1
 subst e1
 obtain ⟨u1,u2,rfl,rv,rw'⟩:∃ u1 u2,us=[u1,u2]∧aY v u1∧aY w u2:=by
  cases r1 with
  | cons p q=>
   cases q with
   | cons p' q'=>
    cases q'
    exact ⟨_,_,rfl,p,p'⟩
 refine wpAny_newObj_type ?_ (by show 2≤sizeLine; decide)
 have I2:Inv X pins σ H1 { s1 with heap:=s1.heap.push { cls:=.type "tuple",data:=.seq [u1,u2].toArray } }:=I1.kept (t':=s1.toks) fun b o e=> Heap.get?_push_of_some _ e
 rw [hw]
 refine wpAny_bind (wpAny_pure ?_)
 show wpAny (model X.prog X.w) X.A (do rule "assign.swapped-stores"; let items ← unpackItems (.ref s1.heap.objs.size) 2 none; assignInOrder [fun v=> bindName X.env y v,fun v=> bindName X.env x v] items.reverse; pure Flow.next) _ _ _
 refine wpAny_bind (wpAny_rule (wpAny_bind (unpackItems_tuple (items:=#[u1,u2]) (I.ok.hd hc) (IsTup.new s1.heap _) fun h' hx'=> ?_)))
 have I3:=I2.kept (h':=h') (t':=s1.toks) fun b o e=> hx' b o (Nat.ne_of_lt (Heap.lt_size e)) e
 show wpAny _ _ (assignInOrder [fun v=> bindName X.env y v,fun v=> bindName X.env x v] [u2,u1] >>=fun _=> pure Flow.next) _ _ _
 refine wpAny_bind (assignInOrder_cons (wpAny_bindName (hJ I3 hN hj (.inl hy) rw' (fun s2 I4=> ?_) (.inr hy))))
 refine assignInOrder_cons (wpAny_bindName (hJ I4 hN hi (.inl hx) rv (fun s3 I5=> assignInOrder_nil (wpAny_pure ?_)) (.inr hx)))
 rw [List.set_comm _ _ (Ne.symm hij)] at I5
 exact ⟨_,H1,I5,q1⟩
end
section
variable {X:Cx} {pos:Pos}
def zq (c:TT) (tb:TS):TS:=fun D σ H=> ∃ W:Nat→St→Hp→Prop,(∃ m,W m σ H)∧∀ m σ H,W m σ H→
 c σ H fun b H1=> if b=true then ∃ N:St→Hp→Prop,(∀ σ' H',N σ' H'→∃ m',m' < m∧W m' σ' H')∧tb { D with nx:=N,ct:=N,bk:=D.nx } σ H1 else D.nx σ H1
theorem tj {c:Expr} {body:List Stmt} {tc:TT} {tb:TS} (hp:PassesOwn (model X.prog X.w) X.A X.env X.xe) (hc:PT X c tc) (hb:PSs X body tb):PS X (.While c body [] pos) (zq tc tb):=by
 intro pins s σ H D I h
 obtain ⟨W,⟨m0,w0⟩,turn⟩:=h
 refine wpAny_While (codeAny_whileLoop (fun n s'=> ∃ σ' H',Inv X pins σ' H' s'∧W n σ' H') ?_ m0 ⟨σ,H,I,w0⟩)
 rintro n s1 ⟨σ1,H1,I1,w1⟩
 refine wpAny_passesOwn hp (thn (hc pins s1 σ1 H1 _ I1 (turn n σ1 H1 w1)) fun b s2 ⟨H2,I2,q2⟩=> ?_)
 cases b with
 | true=>
  obtain ⟨N,hN,q2⟩:=q2
  rw [if_pos rfl]
  refine wpAny_passesOwn hp (thn (hb pins s2 σ1 H2 _ I2 q2) fun f s3 q3=> ?_)
  cases f with
  | next=>
   obtain ⟨σ3,H3,I3,n3⟩:=q3
   obtain ⟨m',hm,w3⟩:=hN σ3 H3 n3
   exact ⟨m',hm,σ3,H3,I3,w3⟩
  | cont=>
   obtain ⟨σ3,H3,I3,n3⟩:=q3
   obtain ⟨m',hm,w3⟩:=hN σ3 H3 n3
   exact ⟨m',hm,σ3,H3,I3,w3⟩
  | brk=> exact q3
  | ret v=> exact q3
 | false=>
  rw [if_neg Bool.false_ne_true]
  exact wpAny_execs_nil ⟨σ1,H2,I2,q2⟩
end
structure It where
 go:Nat→Hp→Prop
 yld:Nat→Hp→V→Hp→Prop
 stop:Nat→Hp→Prop
def ju (X:Cx) (pins:List (Addr×Obj)) (H:Hp) (b:Addr):Prop:=
 H b=none∧b≠X.env.locals∧b ∉ X.fs∧(b∈X.ex∨X.s₀.heap.objs.size≤b)∧(∀ x c,X.env.cells.lookup x=some c→c≠b)∧∀ p∈X.pn++pins,p.1≠b
theorem Inv.fpOk {X:Cx} {pins:List (Addr×Obj)} {σ:St} {H H':Hp} {s:Shared} {b:Addr} (I:Inv X pins σ H s) (hb:s.heap.objs.size≤b) (hn:H' b=none):ju X pins H' b:=by
 refine ⟨hn,Nat.ne_of_gt (Nat.lt_of_lt_of_le I.lt hb),I.nofs hb,.inr (Nat.le_trans I.sz hb),fun x c e z=> ?_,fun p hp z=> ?_⟩
 ·obtain ⟨v,q⟩:=I.cell x c e
  exact absurd (Nat.lt_of_lt_of_le q.lt (by rw [z]; exact hb)) (Nat.lt_irrefl _)
 ·exact absurd (Nat.lt_of_lt_of_le (Heap.lt_size (I.pin p hp).1) (by rw [z]; exact hb)) (Nat.lt_irrefl _)
structure vS (P:Program) (w:World) (K:PySem.W.Frag) (tg:Expr) (J:It) (fp:List Addr) (it:Addr) (tn:Nat→Heap→Prop):Prop where
 mem:it∈fp
 obj:∀ i h,tn i h→∀ b∈fp,∃ o,h.get? b=some o∧∀ v,o.data≠.cell v
 keep:∀ i h h',tn i h→(∀ b∈fp,∀ o,h.get? b=some o→h'.get? b=some o)→tn i h'
 item:∀ (X:Cx),X.prog=P→X.w=w→X.K=K→X.calm=true→∀ (i:Nat) (pins:List (Addr×Obj)) (s:Shared) (σ:St) (H:Hp) (E:Value→Shared→Prop),Inv X pins σ H s→(∀ b∈fp,ju X pins H b)→tn i s.heap→J.go i H→
  wpAny (model P w) X.A (pyNext (.ref it)) (fun r s1=> ∃ u,r=some u∧
   wpAny (model P w) X.A (letOwnedTupleGo tg (.ref it) u) (fun _ s2=> ∃ x H',Inv X pins σ H' s2∧aY x u∧J.yld i H x H'∧tn (i+1) s2.heap∧∀ b∈fp,H' b=none) E s1) E s
 done:∀ (X:Cx),X.prog=P→X.w=w→X.K=K→X.calm=true→∀ (i:Nat) (pins:List (Addr×Obj)) (s:Shared) (σ:St) (H:Hp) (E:Value→Shared→Prop),Inv X pins σ H s→(∀ b∈fp,ju X pins H b)→tn i s.heap→J.stop i H→
  wpAny (model P w) X.A (pyNext (.ref it)) (fun r s1=> r=none∧Inv X pins σ H s1) E s
 self:∀ (A:Around) (i:Nat) (s:Shared) (Q:Value→Shared→Prop) (E:Value→Shared→Prop),tn i s.heap→Q (.ref it) s→wpAny (model P w) A (pyIter (.ref it)) Q E s
abbrev TI:=St→Hp→(It→Hp→Prop)→Prop
def PIE (X:Cx) (pins:List (Addr×Obj)) (σ:St) (tg:Expr) (R:It→Hp→Prop) (itv:Value) (s2:Shared):Prop:=
 ∃ (it:Addr) (fp:List Addr) (tn:Nat→Heap→Prop) (J:It) (H':Hp),itv=.ref it∧Inv X pins σ H' s2∧vS X.prog X.w X.K tg J fp it tn∧tn 0 s2.heap∧(∀ b∈fp,ju X pins H' b)∧R J H'
def PI (X:Cx) (tg iter:Expr) (wi:TI):Prop:=
 ∀ (pins:List (Addr×Obj)) (s:Shared) (σ:St) (H:Hp) (R:It→Hp→Prop),Inv X pins σ H s→wi σ H R→
  wpAny (model X.prog X.w) X.A (eval iter X.env) (fun v s1=> wpAny (model X.prog X.w) X.A (pyIter v) (PIE X pins σ tg R) X.xe s1) X.xe s
theorem pM {M:Model} {A:Around} {E:Value→Shared→Prop} {s:Shared} {tg:Expr} {it:Addr} {u:Value} {o:Obj} {n:String} {vs:Array Value} {Q:Unit→Shared→Prop} (ho:s.heap.get? it=some o) (hc:o.cls=.type n) (hd:o.data=.fields vs)
  (hn:["enumerate","zip","dict_itemiterator","dict_reverseitemiterator","odict_iterator","itertools.zip_longest","itertools.pairwise"].contains n=false) (hQ:Q () s):wpAny M A (letOwnedTupleGo tg (.ref it) u) Q E s:=by
 unfold letOwnedTupleGo
 cases tg <;> first
  | exact wpAny_pure hQ
  | (cases u <;> first
    | exact wpAny_pure hQ
    | (refine wpAny_bind (wpAny_load ho ?_)
       rw [hc,hd]
       show wpAny M A (if (["enumerate","zip","dict_itemiterator","dict_reverseitemiterator","odict_iterator","itertools.zip_longest","itertools.pairwise"].contains n && vs[0]?==some (rawInt _))=true then _ else _) Q E s
       rw [if_neg (by intro h; rw [hn,Bool.false_and] at h; cases h)]
       exact wpAny_pure hQ))
def Itl (K:PySem.W.Frag) (a:Addr):It:=
 ⟨fun i H=> ∃ xs x,SqL K H a xs∧xs[i]?=some x,fun i H x H'=> H'=H∧∀ xs,SqL K H a xs→xs[i]?=some x,fun i H=> ∃ xs,SqL K H a xs∧xs.length≤i⟩
def Itt (K:PySem.W.Frag) (a:Addr):It:=
 ⟨fun i H=> ∃ xs x,SqT K H a xs∧xs[i]?=some x,fun i H x H'=> H'=H∧∀ xs,SqT K H a xs→xs[i]?=some x,fun i H=> ∃ xs,SqT K H a xs∧xs.length≤i⟩
def Itr (lo:Int) (n:Nat):It:=⟨fun i _=> i < n,fun i H x H'=> H'=H∧x=.int (lo+i),fun i _=> n≤i⟩
theorem qY {P:Program} {w:World} {K:PySem.W.Frag} {tg:Expr} (a it:Addr):vS P w K tg (Itl K a) [it] it (fun i h=> h.IsListIter it a i) where
 mem:=by simp
 obj:=fun i h st b hb=> by
  have e:b=it:=by simpa using hb
  subst e
  obtain ⟨o,e,c,d⟩:=st
  exact ⟨o,e,fun v z=> by rw [d] at z; cases z⟩
 keep:=fun i h h' st k=> st.at fun o e=> k it (by simp) o e
 item:=by
  intro X hP hw hK hc i pins s σ H E I hf st hg
  subst hP hw hK
  obtain ⟨xs,x,hq,hx⟩:=hg
  obtain ⟨its,rv,p,hz⟩:=I.list hq
  obtain ⟨u,hu,ru⟩:=rv.get hx
  obtain ⟨f0,f1,f2,f3,f4,f5⟩:=hf it (by simp)
  refine wpAny_pyNext_list_item st p.isList (x:=u) (by simpa using hu) fun h' st' sb=> ?_
  have I1:Inv X pins σ H { s with heap:=h' }:=I.turned (t':=s.toks) (fun b o hb e=> (sb.2 b hb).trans e) f0 f1 f3 f4 f5
  obtain ⟨o,e,c,d⟩:=id st'
  exact ⟨u,rfl,pM (s:={ s with heap:=h' }) e c d (by decide) ⟨x,H,I1,ru,⟨rfl,fun ys hy=> by rw [I.list_inj hy hq]; exact hx⟩,st',fun b hb=> (hf b hb).1⟩⟩
 done:=by
  intro X hP hw hK hc i pins s σ H E I hf st hg
  subst hP hw hK
  obtain ⟨xs,hq,hx⟩:=hg
  obtain ⟨its,rv,p,hz⟩:=I.list hq
  obtain ⟨f0,f1,f2,f3,f4,f5⟩:=hf it (by simp)
  have hl:=rv.length
  exact wpAny_pyNext_list_end (I.ok.hd hc) st p.isList (by simp; omega) fun h' eb=> ⟨rfl,I.turned (t':=s.toks) (fun b o hb e=> eb b o hb e) f0 f1 f3 f4 f5⟩
 self:=fun _ _ _ _ _ st h=> wpAny_pyIter_listiter st h
theorem oG {P:Program} {w:World} {K:PySem.W.Frag} {tg:Expr} (a it:Addr):vS P w K tg (Itt K a) [it] it (fun i h=> h.IsTupleIter it a i) where
 mem:=by simp
 obj:=fun i h st b hb=> by
  have e:b=it:=by simpa using hb
  subst e
  obtain ⟨o,e,c,d⟩:=st
  exact ⟨o,e,fun v z=> by rw [d] at z; cases z⟩
 keep:=fun i h h' st k=> st.at fun o e=> k it (by simp) o e
 item:=by
  intro X hP hw hK hc i pins s σ H E I hf st hg
  subst hP hw hK
  obtain ⟨xs,x,hq,hx⟩:=hg
  obtain ⟨its,rv,p,hz⟩:=I.tuple hq
  obtain ⟨u,hu,ru⟩:=rv.get hx
  obtain ⟨f0,f1,f2,f3,f4,f5⟩:=hf it (by simp)
  refine wpAny_pyNext_tuple_item st (show s.heap.IsTuple a its.toArray from p) (x:=u) (by simpa using hu) fun h' st' sb=> ?_
  have I1:Inv X pins σ H { s with heap:=h' }:=I.turned (t':=s.toks) (fun b o hb e=> (sb.2 b hb).trans e) f0 f1 f3 f4 f5
  obtain ⟨o,e,c,d⟩:=id st'
  exact ⟨u,rfl,pM (s:={ s with heap:=h' }) e c d (by decide) ⟨x,H,I1,ru,⟨rfl,fun ys hy=> by rw [I.tuple_inj hy hq]; exact hx⟩,st',fun b hb=> (hf b hb).1⟩⟩
 done:=by
  intro X hP hw hK hc i pins s σ H E I hf st hg
  subst hP hw hK
  obtain ⟨xs,hq,hx⟩:=hg
  obtain ⟨its,rv,p,hz⟩:=I.tuple hq
  obtain ⟨f0,f1,f2,f3,f4,f5⟩:=hf it (by simp)
  have hl:=rv.length
  exact wpAny_pyNext_tuple_end (I.ok.hd hc) st (show s.heap.IsTuple a its.toArray from p) (by simp; omega) fun h' eb=> ⟨rfl,I.turned (t':=s.toks) (fun b o hb e=> eb b o hb e) f0 f1 f3 f4 f5⟩
 self:=fun _ _ _ _ _ st h=> wpAny_pyIter_tupleiter st h
theorem jj {P:Program} {w:World} {K:PySem.W.Frag} {tg:Expr} (it:Addr) (lo:Int) (n:Nat):vS P w K tg (Itr lo n) [it] it (fun i h=> IsRangeIter h it (lo+(i:Nat) * 1) ((n:Int) - (i:Nat)) 1) where
 mem:=by simp
 obj:=fun i h st b hb=> by
  have e:b=it:=by simpa using hb
  subst e
  exact ⟨_,st,fun v z=> by
   have z':Data.fields _=Data.cell v:=z
   cases z'⟩
 keep:=fun i h h' st k=> k it (by simp) _ st
 item:=by
  intro X hP hw hK hc i pins s σ H E I hf st hg
  subst hP hw hK
  obtain ⟨f0,f1,f2,f3,f4,f5⟩:=hf it (by simp)
  have W:=Walks.range (prog:=X.prog) (w:=X.w) (I.ok.hd hc) it lo 1 n
  refine W.item i s _ _ hg st fun v h' tk hv st' kk=> ?_
  obtain ⟨t,rfl⟩:=hv
  have I1:Inv X pins σ H { s with heap:=h',toks:=tk }:=I.turned (fun b o hb e=> kk b o (by simpa using hb) e) f0 f1 f3 f4 f5
  refine ⟨_,rfl,pM (s:={ s with heap:=h',toks:=tk }) (n:="range_iterator") st' rfl rfl (by decide) ⟨.int (lo+i),H,I1,⟨t,?_⟩,⟨rfl,rfl⟩,st',fun b hb=> (hf b hb).1⟩⟩
  rw [Int.mul_one]
 done:=by
  intro X hP hw hK hc i pins s σ H E I hf st hg
  subst hP hw hK
  obtain ⟨f0,f1,f2,f3,f4,f5⟩:=hf it (by simp)
  exact wpAny_pyNext_range_end (I.ok.hd hc) st (by have:n≤i:=hg; omega) fun h' eb=> ⟨rfl,I.turned (t':=s.toks) (fun b o hb e=> eb b o hb e) f0 f1 f3 f4 f5⟩
 self:=fun _ _ _ _ _ st h=> wpAny_pyIter_rangeiter st h
end L2
namespace L2
open PySem PySem.Spec PyProof.Rows
section
variable {X:Cx} {tg:Expr}
def zW (K:PySem.W.Frag) (tl:TE):TI:=fun σ H R=> tl σ H fun x H1=> ∃ a,x=.ref a∧(∃ xs,SqL K H1 a xs)∧R (Itl K a) H1
def A3 (K:PySem.W.Frag) (tl:TE):TI:=fun σ H R=> tl σ H fun x H1=> ∃ a,x=.ref a∧(∃ xs,SqT K H1 a xs)∧R (Itt K a) H1
theorem xo {l:Expr} {tl:TE} (hl:PE X l tl):PI X tg l (zW X.K tl):=by
 intro pins s σ H R I h
 refine thn (hl pins s σ H _ I h) fun v s1 ⟨x,H1,I1,r1,q1⟩=> ?_
 obtain ⟨a,e,⟨xs,hq⟩,q⟩:=q1
 subst e
 cases r1
 obtain ⟨its,rv,p,hz⟩:=I1.list hq
 refine wpAny_pyIter_list p.isList ?_
 refine ⟨s1.heap.objs.size,[s1.heap.objs.size],_,_,H1,rfl,I1.kept (t':=s1.toks) fun b o e=> Heap.get?_push_of_some _ e,qY a _,⟨_,Heap.get?_push_size _ rfl,rfl,rfl⟩,fun b hb=> ?_,q⟩
 have e:b=s1.heap.objs.size:=by simpa using hb
 subst e
 exact I1.fpOk (Nat.le_refl _) (I1.hok.fresh (Nat.le_refl _))
theorem zG {l:Expr} {tl:TE} (hl:PE X l tl):PI X tg l (A3 X.K tl):=by
 intro pins s σ H R I h
 refine thn (hl pins s σ H _ I h) fun v s1 ⟨x,H1,I1,r1,q1⟩=> ?_
 obtain ⟨a,e,⟨xs,hq⟩,q⟩:=q1
 subst e
 cases r1
 obtain ⟨its,rv,p,hz⟩:=I1.tuple hq
 refine wpAny_pyIter_tuple (show s1.heap.IsTuple a its.toArray from p) ?_
 refine ⟨s1.heap.objs.size,[s1.heap.objs.size],_,_,H1,rfl,I1.kept (t':=s1.toks) fun b o e=> Heap.get?_push_of_some _ e,oG a _,⟨_,Heap.get?_push_size _ rfl,rfl,rfl⟩,fun b hb=> ?_,q⟩
 have e:b=s1.heap.objs.size:=by simpa using hb
 subst e
 exact I1.fpOk (Nat.le_refl _) (I1.hok.fresh (Nat.le_refl _))
theorem nu {pins:List (Addr×Obj)} {σ:St} {H:Hp} {s:Shared} {R:It→Hp→Prop} {E:Value→Shared→Prop} {lo hi:Int} {t u v:Tok} {tk:Nat} (I:Inv X pins σ H s) (h1:-(2 ^ 62)≤lo) (h2:lo < 2 ^ 62) (h3:-(2 ^ 62)≤hi) (h4:hi < 2 ^ 62)
  (q:R (Itr lo (hi - lo).toNat) H):wpAny (model X.prog X.w) X.A (pyIter (.ref s.heap.objs.size)) (PIE X pins σ tg R) E { s with heap:=s.heap.push { cls:=.type "range",data:=.fields #[.int lo t,.int hi u,.int 1 v] },toks:=tk }:=by
 refine wpAny_pyIter_range (IsRange.new ..) (small_one h1 h2 h3 h4) ?_
 have I1:Inv X pins σ H { s with heap:=s.heap.push { cls:=.type "range",data:=.fields #[.int lo t,.int hi u,.int 1 v] },toks:=tk }:=I.kept fun b o e=> Heap.get?_push_of_some _ e
 refine ⟨(s.heap.push { cls:=.type "range",data:=.fields #[.int lo t,.int hi u,.int 1 v] }).objs.size,[(s.heap.push { cls:=.type "range",data:=.fields #[.int lo t,.int hi u,.int 1 v] }).objs.size],_,_,H,rfl,
  I1.kept (t':=tk) fun b o e=> Heap.get?_push_of_some _ e,jj _ lo (hi - lo).toNat,?_,fun b hb=> ?_,q⟩
 ·have e1:lo+((0:Nat):Int) * 1=lo:=by simp
  have e2:(((hi - lo).toNat:Nat):Int) - ((0:Nat):Int)=Builtin.Range.rangeSize lo hi 1:=by rw [rangeSize_one]; split <;> omega
  show IsRangeIter _ _ (lo+((0:Nat):Int) * 1) ((((hi - lo).toNat:Nat):Int) - ((0:Nat):Int)) 1
  rw [e1,e2]
  exact Heap.get?_push_size _ rfl
 ·have e:b=(s.heap.push { cls:=.type "range",data:=.fields #[.int lo t,.int hi u,.int 1 v] }).objs.size:=by simpa using hb
  subst e
  exact I1.fpOk (Nat.le_refl _) (I1.hok.fresh (Nat.le_refl _))
def zR (ta:TA):TI:=fun σ H R=> ta σ H fun vs H1=> ∃ j:Int,vs=[.int j]∧-(2 ^ 62)≤j∧j < 2 ^ 62∧R (Itr 0 j.toNat) H1
def z8 (ta:TA):TI:=fun σ H R=> ta σ H fun vs H1=> ∃ i j:Int,vs=[.int i,.int j]∧(-(2 ^ 62)≤i∧i < 2 ^ 62∧-(2 ^ 62)≤j∧j < 2 ^ 62)∧R (Itr i (j - i).toNat) H1
theorem rN {a:Expr} {ta:TA} {p pos:Pos} (hg:Gl X "range") (hm:X.mg "range"=none) (ha:PA X [a] ta) (hs:starEach [a] X.env=[(false,eval a X.env)]:=by rfl):PI X tg (.Call (.Name "range" p) [a] [] pos) (zR ta):=by
 intro pins s σ H R I h
 refine Call_ (cR I hg hm boot_range (PyProof.Rows.callWith_type1 (thn (ha pos pins s σ H _ I h) fun us s1 ⟨vs,H1,I1,r1,q1⟩=> ?_) hs rfl))
 obtain ⟨j,e,q1,q2,q⟩:=q1
 subst e
 cases r1 with
 | cons r rr=>
  cases rr
  obtain ⟨t,rfl⟩:=r
  exact call_range_1 (nu I1 (by omega) (by omega) q1 q2 (by simpa using q))
theorem rE {a b:Expr} {ta:TA} {p pos:Pos} (hg:Gl X "range") (hm:X.mg "range"=none) (ha:PA X [a,b] ta) (hs:starEach [a,b] X.env=[(false,eval a X.env),(false,eval b X.env)]:=by rfl) (hs2:starEach [b] X.env=[(false,eval b X.env)]:=by rfl):
  PI X tg (.Call (.Name "range" p) [a,b] [] pos) (z8 ta):=by
 intro pins s σ H R I h
 refine Call_ (cR I hg hm boot_range (PyProof.Rows.callWith_type1 (thn (ha pos pins s σ H _ I h) fun us s1 ⟨vs,H1,I1,r1,q1⟩=> ?_) (by rw [hs,hs2]) (by rw [hs2]; rfl)))
 obtain ⟨i,j,e,⟨q1,q2,q3,q4⟩,q⟩:=q1
 subst e
 cases r1 with
 | cons r rr=>
  cases rr with
  | cons r' rr=>
   cases rr
   obtain ⟨t,rfl⟩:=r
   obtain ⟨t',rfl⟩:=r'
   exact call_range_2 (nu I1 q1 q2 q3 q4 q)
def AX (wi:TI) (g:TG) (tb:TS):TS:=fun D σ H=> wi σ H fun J H1=> ∃ W:Nat→Nat→St→Hp→Prop,(∃ m,W 0 m σ H1)∧∀ i m σ H,W i m σ H→
 (J.stop i H∧D.nx σ H)∨(J.go i H∧∃ N:St→Hp→Prop,(∀ σ' H',N σ' H'→∃ m',m' < m∧W (i+1) m' σ' H')∧∀ x H',J.yld i H x H'→g x σ H' fun σ2 H2=> tb { D with nx:=N,ct:=N,bk:=D.nx } σ2 H2)
def jG (fp:List Addr) (h:Heap):List (Addr×Obj):=fp.filterMap fun b=> (h.get? b).map fun o=> (b,o)
theorem de {fp:List Addr} {h:Heap} {b:Addr} {o:Obj} (hb:b∈fp) (e:h.get? b=some o):(b,o)∈jG fp h:=List.mem_filterMap.mpr ⟨b,hb,by rw [e]; rfl⟩
theorem rq {fp:List Addr} {h:Heap} {p:Addr×Obj} (hp:p∈jG fp h):p.1∈fp∧h.get? p.1=some p.2:=by
 obtain ⟨b,hb,e⟩:=List.mem_filterMap.mp hp
 cases q:h.get? b with
 | none=> rw [q] at e; cases e
 | some o=>
  rw [q] at e
  have e':(b,o)=p:=Option.some.inj e
  subst e'
  exact ⟨hb,q⟩
theorem Inv.pinned {pins:List (Addr×Obj)} {σ:St} {H:Hp} {s:Shared} {fp:List Addr} (I:Inv X pins σ H s) (hf:∀ b∈fp,ju X pins H b) (ho:∀ b∈fp,∃ o,s.heap.get? b=some o∧∀ v,o.data≠.cell v):Inv X (pins++jG fp s.heap) σ H s:=
 I.pins_of fun p hp=> (List.mem_append.mp hp).elim (fun z=> I.pin p (List.mem_append_right _ z)) fun z=> by
  obtain ⟨hb,e⟩:=rq z
  obtain ⟨f0,f1,f2,_⟩:=hf p.1 hb
  obtain ⟨o,e',d⟩:=ho p.1 hb
  rw [e] at e'; cases e'
  exact ⟨e,f0,f1,f2,d⟩
theorem Inv.unpinned {pins pl:List (Addr×Obj)} {σ:St} {H:Hp} {s:Shared} (I:Inv X (pins++pl) σ H s):Inv X pins σ H s:=I.pins_of fun p hp=> I.pin p (List.mem_append_right _ (List.mem_append_left _ hp))
theorem zF {iter:Expr} {body:List Stmt} {wi:TI} {g:TG} {tb:TS} {pos:Pos} (hp:PassesOwn (model X.prog X.w) X.A X.env X.xe) (hc:X.calm=true) (hi:PI X tg iter wi) (hg:PG X tg g) (hb:PSs X body tb)
  (hs:∀ x,foldedSetIterable iter X.env x=pure x:=by intro _; rfl):PS X (.For tg iter body [] pos) (AX wi g tb):=by
 intro pins s σ H D I h
 refine wpAny_For (thn (hi pins s σ H _ I h) fun v s1 h1=> thn h1 fun itv s2 h2=> ?_) hs
 obtain ⟨it,fp,tn,J,H2,e,I2,T,st2,f2,W,⟨m0,w0⟩,turn⟩:=h2
 subst e
 have stat:∀ {H':Hp},(∀ b∈fp,H' b=none)→∀ b∈fp,ju X pins H' b:=fun hn b hb=> ⟨hn b hb,(f2 b hb).2⟩
 refine codeAny_forLoop_any (fun n s'=> ∃ i σ' H',Inv X pins σ' H' s'∧tn i s'.heap∧(∀ b∈fp,H' b=none)∧W i n σ' H') ?_ m0 ⟨0,σ,H2,I2,st2,fun b hb=> (f2 b hb).1,w0⟩
 rintro n s3 ⟨i,σ3,H3,I3,st3,fr3,w3⟩
 rcases turn i n σ3 H3 w3 with ⟨stop,qn⟩ | ⟨go,N,hN,step⟩
 ·refine wpAny_passesOwn hp (thn (T.done X rfl rfl rfl hc i pins s3 σ3 H3 X.xe I3 (stat fr3) st3 stop) fun r s4 ⟨hr,I4⟩=> ?_)
  subst hr
  exact wpAny_execs_nil ⟨σ3,H3,I4,qn⟩
 ·refine wpAny_passesOwn hp (thn (T.item X rfl rfl rfl hc i pins s3 σ3 H3 X.xe I3 (stat fr3) st3 go) fun r s4 ⟨u,hr,h4⟩=> ?_)
  subst hr
  refine wpAny_passesOwn hp (thn h4 fun _ s5 ⟨x,H5,I5,r5,y5,st5,fr5⟩=> ?_)
  have I5':=I5.pinned (stat fr5) (T.obj _ _ st5)
  refine wpAny_passesOwn hp (thn (hg _ s5 σ3 H5 x u _ I5' r5 (step x H5 y5)) fun _ s6 ⟨σ6,H6,I6,q6⟩=> ?_)
  refine wpAny_passesOwn hp (thn (hb _ s6 σ6 H6 _ I6 q6) fun f s7 q7=> ?_)
  have again:∀ {σ7:St} {H7:Hp},Inv X (pins++jG fp s5.heap) σ7 H7 s7→N σ7 H7→∃ m,m < n∧∃ i σ' H',Inv X pins σ' H' s7∧tn i s7.heap∧(∀ b∈fp,H' b=none)∧W i m σ' H':=fun {σ7 H7} I7 n7=> by
   obtain ⟨m',hm,w7⟩:=hN σ7 H7 n7
   refine ⟨m',hm,i+1,σ7,H7,I7.unpinned,T.keep _ _ _ st5 fun b hb o e=> (I7.pin (b,o) (List.mem_append_right _ (List.mem_append_right _ (de hb e)))).1,fun b hb=> ?_,w7⟩
   obtain ⟨o,e,d⟩:=T.obj _ _ st5 b hb
   exact (I7.pin (b,o) (List.mem_append_right _ (List.mem_append_right _ (de hb e)))).2.1
  cases f with
  | next=> obtain ⟨σ7,H7,I7,n7⟩:=q7; exact again I7 n7
  | cont=> obtain ⟨σ7,H7,I7,n7⟩:=q7; exact again I7 n7
  | brk=> obtain ⟨σ7,H7,I7,q7⟩:=q7; exact ⟨σ7,H7,I7.unpinned,q7⟩
  | ret v=> obtain ⟨x7,σ7,H7,I7,r7,q7⟩:=q7; exact ⟨x7,σ7,H7,I7.unpinned,r7,q7⟩
end
end L2
namespace L2
open PySem PySem.Spec PyProof.Rows
abbrev R2:=V→V→Hp→VK→Prop
def OpR (X:Cx) (f:Value→Value→Sem Value) (r:R2):Prop:=
 ∀ (pins:List (Addr×Obj)) (s:Shared) (σ:St) (H:Hp) (x y:V) (v u:Value) (Q:VK),Inv X pins σ H s→aY x v→aY y u→r x y H Q→
  wpAny (model X.prog X.w) X.A (f v u) (EP X pins σ Q) X.xe s
def UnR (X:Cx) (f:Value→Sem Value) (r:V→Hp→VK→Prop):Prop:=
 ∀ (pins:List (Addr×Obj)) (s:Shared) (σ:St) (H:Hp) (x:V) (v:Value) (Q:VK),Inv X pins σ H s→aY x v→r x H Q→
  wpAny (model X.prog X.w) X.A (f v) (EP X pins σ Q) X.xe s
def eu (X:Cx) (f:Value) (r:List V→Hp→VK→Prop):Prop:=
 ∀ (pins:List (Addr×Obj)) (s:Shared) (σ:St) (H:Hp) (xs:List V) (us:List Value) (Q:VK),Inv X pins σ H s→aL xs us→r xs H Q→
  wpAny (model X.prog X.w) X.A (call f us) (EP X pins σ Q) X.xe s
def tOp (r:R2) (ta tb:TE):TE:=fun σ H Q=> ta σ H fun x H1=> tb σ H1 fun y H2=> r x y H2 Q
def tUn (r:V→Hp→VK→Prop) (ta:TE):TE:=fun σ H Q=> ta σ H fun x H1=> r x H1 Q
def rI (C:Int→Int→Prop) (g:Int→Int→V):R2:=fun x y H Q=> ∃ i j,x=.int i∧y=.int j∧C i j∧Q (g i j) H
def rI0 (g:Int→Int→V):R2:=fun x y H Q=> ∃ i j,x=.int i∧y=.int j∧Q (g i j) H
def rU (g:Int→V):V→Hp→VK→Prop:=fun x H Q=> ∃ i,x=.int i∧Q (g i) H
section
variable {X:Cx} {a b c:Expr} {ta tb tc:TE} {pos:Pos}
theorem yx (ha:PE X a ta) (hb:PE X b tb) {pins:List (Addr×Obj)} {s:Shared} {σ:St} {H:Hp} {R:V→V→Hp→Prop} (I:Inv X pins σ H s)
  (h:ta σ H fun x H1=> tb σ H1 fun y H2=> R x y H2) {Q:Value→Shared→Prop} {f:Value→Value→Sem Value}
  (hf:∀ v u s2 x y H2,Inv X pins σ H2 s2→aY x v→aY y u→R x y H2→wpAny (model X.prog X.w) X.A (f v u) Q X.xe s2):
  wpAny (model X.prog X.w) X.A (eval a X.env) (fun v s₁=> wpAny (model X.prog X.w) X.A (eval b X.env) (fun u s₂=> wpAny (model X.prog X.w) X.A (f v u) Q X.xe s₂) X.xe s₁) X.xe s:=by
 refine thn (ha pins s σ H _ I h) fun v s1 ⟨x,H1,I1,r1,q1⟩=> ?_
 refine thn (hb pins s1 σ H1 _ I1 q1) fun u s2 ⟨y,H2,I2,r2,q2⟩=> ?_
 exact hf v u s2 x y H2 I2 r1 r2 q2
theorem tP {op:Operator} {r:R2} (ho:OpR X (binaryOp op) r) (ha:PE X a ta) (hb:PE X b tb):PE X (.BinOp a op b pos) (tOp r ta tb):=by
 intro pins s σ H Q I h
 exact wpAny_BinOp (yx ha hb I h fun v u s2 x y H2 I2 rx ry q=> ho pins s2 σ H2 x y v u Q I2 rx ry q)
theorem Ar {op:UnaryOp} {r:V→Hp→VK→Prop} (ho:UnR X (unaryOp op) r) (ha:PE X a ta):PE X (.UnaryOp op a pos) (tUn r ta):=by
 intro pins s σ H Q I h
 exact UnaryOp_ (thn (ha pins s σ H _ I h) fun v s1 ⟨x,H1,I1,r1,q1⟩=> ho pins s1 σ H1 x v Q I1 r1 q1)
theorem opI {f:Value→Value→Sem Value} {C:Int→Int→Prop} {g:Int→Int→Int}
  (rule:∀ (i j:Int) (t u:Tok) (s:Shared) (Q:Value→Shared→Prop) (E:Value→Shared→Prop),C i j→Q (.int (g i j) s.toks) { s with toks:=s.toks+1 }→wpAny (model X.prog X.w) X.A (f (.int i t) (.int j u)) Q E s):
  OpR X f (rI C fun i j=> .int (g i j)):=by
 intro pins s σ H x y v u Q I rx ry h
 obtain ⟨i,j,rfl,rfl,hc,q⟩:=h
 obtain ⟨t,rfl⟩:=rx
 obtain ⟨t',rfl⟩:=ry
 exact rule i j t t' s _ _ hc ⟨.int (g i j),H,I.tok _,⟨_,rfl⟩,q⟩
theorem Ai {f:Value→Value→Sem Value} {g:Int→Int→Int}
  (rule:∀ (i j:Int) (t u:Tok) (s:Shared) (Q:Value→Shared→Prop) (E:Value→Shared→Prop),Q (.int (g i j) s.toks) { s with toks:=s.toks+1 }→wpAny (model X.prog X.w) X.A (f (.int i t) (.int j u)) Q E s):
  OpR X f (rI0 fun i j=> .int (g i j)):=by
 intro pins s σ H x y v u Q I rx ry h
 obtain ⟨i,j,rfl,rfl,q⟩:=h
 obtain ⟨t,rfl⟩:=rx
 obtain ⟨t',rfl⟩:=ry
 exact rule i j t t' s _ _ ⟨.int (g i j),H,I.tok _,⟨_,rfl⟩,q⟩
theorem yM {f:Value→Value→Sem Value} {g:Int→Int→Bool}
  (rule:∀ (i j:Int) (t u:Tok) (s:Shared) (Q:Value→Shared→Prop) (E:Value→Shared→Prop),Q (.bool (g i j)) s→wpAny (model X.prog X.w) X.A (f (.int i t) (.int j u)) Q E s):
  OpR X f (rI0 fun i j=> .bl (g i j)):=by
 intro pins s σ H x y v u Q I rx ry h
 obtain ⟨i,j,rfl,rfl,q⟩:=h
 obtain ⟨t,rfl⟩:=rx
 obtain ⟨t',rfl⟩:=ry
 exact rule i j t t' s _ _ ⟨.bl (g i j),H,I,rfl,q⟩
def Av (i j:Int):Prop:=0≤j∧j≤1000000∧i.natAbs < 2 ^ 64
theorem zf:OpR X (binaryOp .Add) (rI0 fun i j=> .int (i+j)):=Ai fun _ _ _ _ _ _ _ q=> add_int q
theorem zj:OpR X (binaryOp .Sub) (rI0 fun i j=> .int (i - j)):=Ai fun _ _ _ _ _ _ _ q=> sub_int q
theorem yS:OpR X (binaryOp .Mod) (rI (fun _ j=> 0 < j) fun i j=> .int (i % j)):=opI fun i j _ _ _ _ _ hc q=> by
 have h1:(0:Int) < j:=hc
 exact mod_int' (by omega) (by rw [Int.fmod_eq_emod_of_nonneg i (by omega)]; exact q)
theorem y9:OpR X (binaryOp .Pow) (rI Av fun i j=> .int (i ^ j.toNat)):=opI fun _ _ _ _ _ _ _ hc q=> pow_int_small hc.1 hc.2.1 hc.2.2 q
theorem unI {f:Value→Sem Value} {g:Int→Int}
  (rule:∀ (i:Int) (t:Tok) (s:Shared) (Q:Value→Shared→Prop) (E:Value→Shared→Prop),Q (.int (g i) s.toks) { s with toks:=s.toks+1 }→wpAny (model X.prog X.w) X.A (f (.int i t)) Q E s):
  UnR X f (rU fun i=> .int (g i)):=by
 intro pins s σ H x v Q I rx h
 obtain ⟨i,rfl,q⟩:=h
 obtain ⟨t,rfl⟩:=rx
 exact rule i t s _ _ ⟨.int (g i),H,I.tok _,⟨_,rfl⟩,q⟩
theorem y8:UnR X (unaryOp .USub) (rU fun i=> .int (-i)):=unI fun _ _ _ _ _ q=> neg_int q
end
def Ax:V→V→Bool
 | .non,.non=> true | .non,.int _=> true | .int _,.non=> true | .non,.bl _=> true | .bl _,.non=> true | .non,.str _=> true | .str _,.non=> true
 | .int _,.int _=> true | .bl _,.bl _=> true | .str _,.str _=> true | .byt _,.byt _=> true
 | .int _,.str _=> true | .str _,.int _=> true | .bl _,.str _=> true | .str _,.bl _=> true
 | _,_=> false
def rEq:R2:=fun x y H Q=> Ax x y=true∧Q (.bl (decide (x=y))) H
def rNe:R2:=fun x y H Q=> Ax x y=true∧Q (.bl (!decide (x=y))) H
theorem iO {i j:Int}:decide (V.int i=V.int j)=(i==j):=by
 rw [Bool.eq_iff_iff]
 simp
theorem tS {i j:Bool}:decide (V.bl i=V.bl j)=(i==j):=by
 rw [Bool.eq_iff_iff]
 simp
theorem qs {i j:Str}:decide (V.str i=V.str j)=(i==j):=by
 rw [Bool.eq_iff_iff]
 simp
theorem pY {i j:Array UInt8}:decide (V.byt i=V.byt j)=(i.toList==j.toList):=by
 rw [Bool.eq_iff_iff]
 cases i
 cases j
 simp
section
variable {X:Cx} {a b c:Expr} {ta tb tc:TE} {pos:Pos}
theorem aT {pins:List (Addr×Obj)} {σ:St} {H:Hp} {s:Shared} {Q:VK} {k k':Bool} (I:Inv X pins σ H s) (q:Q (.bl k) H) (e:k=k'):EP X pins σ Q (.bool k') s:=by
 subst e
 exact ⟨.bl k,H,I,rfl,q⟩
theorem AB:OpR X (compareOp .Eq) rEq:=by
 intro pins s σ H x y v u Q I rx ry h
 obtain ⟨hs,q⟩:=h
 cases x with
 | non=>
  cases rx
  cases y with
  | non=> cases ry; exact PySem.EqNone.eq_none_none (aT I q (by simp))
  | bl j=> cases ry; exact PySem.EqNone.eq_none_bool (aT I q (by simp))
  | int j=> obtain ⟨t',rfl⟩:=ry; exact PySem.EqNone.eq_none_int (aT I q (by simp))
  | str j=> obtain ⟨t',rfl⟩:=ry; exact PySem.EqNone.eq_none_str (aT I q (by simp))
  | _=> exact absurd (show false=true from hs) Bool.false_ne_true
 | bl i=>
  cases rx
  cases y with
  | non=> cases ry; exact PySem.EqNone.eq_bool_none (aT I q (by simp))
  | bl j=> cases ry; exact eq_bool (aT I q tS)
  | str j=> obtain ⟨t',rfl⟩:=ry; exact PySem.EqMixed.eq_bool_str (aT I q (by simp))
  | _=> exact absurd (show false=true from hs) Bool.false_ne_true
 | int i=>
  obtain ⟨t,rfl⟩:=rx
  cases y with
  | non=> cases ry; exact PySem.EqNone.eq_int_none (aT I q (by simp))
  | int j=> obtain ⟨t',rfl⟩:=ry; exact eq_int (aT I q iO)
  | str j=> obtain ⟨t',rfl⟩:=ry; exact PySem.EqMixed.eq_int_str (aT I q (by simp))
  | _=> exact absurd (show false=true from hs) Bool.false_ne_true
 | str i=>
  obtain ⟨t,rfl⟩:=rx
  cases y with
  | non=> cases ry; exact PySem.EqNone.eq_str_none (aT I q (by simp))
  | bl j=> cases ry; exact PySem.EqMixed.eq_str_bool (aT I q (by simp))
  | int j=> obtain ⟨t',rfl⟩:=ry; exact PySem.EqMixed.eq_str_int (aT I q (by simp))
  | str j=> obtain ⟨t',rfl⟩:=ry; exact eq_str (aT I q qs)
  | _=> exact absurd (show false=true from hs) Bool.false_ne_true
 | byt i=>
  obtain ⟨t,rfl⟩:=rx
  cases y with
  | byt j=> obtain ⟨t',rfl⟩:=ry; exact PySem.W.eq_bytes (aT I q pY)
  | _=> exact absurd (show false=true from hs) Bool.false_ne_true
 | _=> cases y <;> exact absurd (show false=true from hs) Bool.false_ne_true
theorem Ay:OpR X (compareOp .NotEq) rNe:=by
 intro pins s σ H x y v u Q I rx ry h
 obtain ⟨hs,q⟩:=h
 cases x with
 | non=>
  cases rx
  cases y with
  | non=> cases ry; exact PySem.EqNone.ne_none_none (aT I q (by simp))
  | bl j=> cases ry; exact PySem.EqNone.ne_none_bool (aT I q (by simp))
  | int j=> obtain ⟨t',rfl⟩:=ry; exact PySem.EqNone.ne_none_int (aT I q (by simp))
  | str j=> obtain ⟨t',rfl⟩:=ry; exact PySem.EqNone.ne_none_str (aT I q (by simp))
  | _=> exact absurd (show false=true from hs) Bool.false_ne_true
 | bl i=>
  cases rx
  cases y with
  | non=> cases ry; exact PySem.EqNone.ne_bool_none (aT I q (by simp))
  | bl j=> cases ry; exact ne_bool (aT I q (congrArg not tS))
  | str j=> obtain ⟨t',rfl⟩:=ry; exact PySem.EqMixed.ne_bool_str (aT I q (by simp))
  | _=> exact absurd (show false=true from hs) Bool.false_ne_true
 | int i=>
  obtain ⟨t,rfl⟩:=rx
  cases y with
  | non=> cases ry; exact PySem.EqNone.ne_int_none (aT I q (by simp))
  | int j=> obtain ⟨t',rfl⟩:=ry; exact ne_int (aT I q (congrArg not iO))
  | str j=> obtain ⟨t',rfl⟩:=ry; exact PySem.EqMixed.ne_int_str (aT I q (by simp))
  | _=> exact absurd (show false=true from hs) Bool.false_ne_true
 | str i=>
  obtain ⟨t,rfl⟩:=rx
  cases y with
  | non=> cases ry; exact PySem.EqNone.ne_str_none (aT I q (by simp))
  | bl j=> cases ry; exact PySem.EqMixed.ne_str_bool (aT I q (by simp))
  | int j=> obtain ⟨t',rfl⟩:=ry; exact PySem.EqMixed.ne_str_int (aT I q (by simp))
  | str j=> obtain ⟨t',rfl⟩:=ry; exact ne_str (aT I q (congrArg not qs))
  | _=> exact absurd (show false=true from hs) Bool.false_ne_true
 | byt i=>
  obtain ⟨t,rfl⟩:=rx
  cases y with
  | byt j=> obtain ⟨t',rfl⟩:=ry; exact PySem.W.ne_bytes (aT I q (congrArg not pY))
  | _=> exact absurd (show false=true from hs) Bool.false_ne_true
 | _=> cases y <;> exact absurd (show false=true from hs) Bool.false_ne_true
theorem z_:OpR X (compareOp .Lt) (rI0 fun i j=> .bl (decide (i < j))):=yM fun _ _ _ _ _ _ _ q=> lt_int q
theorem Af:OpR X (compareOp .LtE) (rI0 fun i j=> .bl (decide (i≤j))):=yM fun _ _ _ _ _ _ _ q=> le_int q
theorem Ak:OpR X (compareOp .Gt) (rI0 fun i j=> .bl (decide (j < i))):=yM fun _ _ _ _ _ _ _ q=> gt_int q
theorem vf (b:Expr) {op:CmpOp} (h:op≠.In:=by decide) (h2:op≠.NotIn:=by decide):behindInMarks op b=false:=by
 have e1:(op==CmpOp.In)=false:=by cases op <;> first | rfl | exact absurd rfl h
 have e2:(op==CmpOp.NotIn)=false:=by cases op <;> first | rfl | exact absurd rfl h2
 cases b <;> simp [behindInMarks,e1,e2]
theorem xu {op:CmpOp} {r:R2} (ho:OpR X (compareOp op) r) (ha:PE X a ta) (hb:PE X b tb) (hm:behindInMarks op b=false):PE X (.Compare a [op] [b] pos) (tOp r ta tb):=by
 intro pins s σ H Q I h
 exact wpAny_Compare1 (yx ha hb I h fun v u s2 x y H2 I2 rx ry q=> ho pins s2 σ H2 x y v u Q I2 rx ry q) hm
def zQ (t:TE):TT:=fun σ H Q=> t σ H fun x H'=> ∃ k,x=.bl k∧Q k H'
theorem wG {op:CmpOp} {r:R2} (ho:OpR X (compareOp op) r) (ha:PE X a ta) (hb:PE X b tb) (hm:behindInMarks op b=false):PT X (.Compare a [op] [b] pos) (zQ (tOp r ta tb)):=by
 intro pins s σ H Q I h
 refine wpAny_isTrue_Compare1 (thn (ha pins s σ H _ I h) fun v s1 ⟨x,H1,I1,r1,q1⟩=> thn (hb pins s1 σ H1 _ I1 q1) fun u s2 ⟨y,H2,I2,r2,q2⟩=>
  thn (ho pins s2 σ H2 x y v u _ I2 r1 r2 q2) fun c s3 ⟨z,H3,I3,r3,k,e,q3⟩=> ?_) hm
 subst e
 cases r3
 exact wpAny_truthy_bool ⟨H3,I3,q3⟩
theorem o_:(sizeLine:Nat) < 2 ^ 63:=by rw [sizeLine_eq]; decide
theorem fh {x:V} {us:List Value} (r:aL [x] us):∃ u,us=[u]∧aY x u:=by
 cases r with
 | cons r1 r2=> cases r2; exact ⟨_,rfl,r1⟩
theorem qa {x y:V} {us:List Value} (r:aL [x,y] us):∃ u w',us=[u,w']∧aY x u∧aY y w':=by
 cases r with
 | cons r1 r2=>
  cases r2 with
  | cons r3 r4=> cases r4; exact ⟨_,_,rfl,r1,r3⟩
theorem vQ:eu X (.builtin "abs") (fun xs H Q=> ∃ i,xs=[.int i]∧Q (.int (if i < 0 then -i else i)) H):=by
 intro pins s σ H xs us Q I r h
 obtain ⟨i,rfl,q⟩:=h
 obtain ⟨u,rfl,t,rfl⟩:=fh r
 exact call_abs_int fun u tk=> ⟨.int (if i < 0 then -i else i),H,I.tok _,⟨_,rfl⟩,q⟩
end
end L2
namespace L2
open PySem PySem.Spec PyProof.Rows
structure zO (h:Heap) (x dx C:Addr) (mA:Str→Option Value):Prop where
 obj:h.get? x=some (PySem.W.instObj C dx)
 ns:h.Ns1 dx mA
 ne:dx≠x
theorem rB {h:Heap} {dx:Addr} {mA:Str→Option Value} (n:h.Ns1 dx mA):∃ od,h.get? dx=some od∧∀ name,PySem.W.lookIn name od=some (mA name):=by
 obtain ⟨o,es,ep,ho,hd,hk,_,hm⟩:=n
 refine ⟨o,ho,fun name=> ?_⟩
 have e:=hm name
 unfold nsFind findBy at e
 rw [← Array.find?_toList] at e
 unfold PySem.W.lookIn
 rw [hd]
 dsimp only
 split
 ·rename_i y q
  rw [q] at e
  exact congrArg some e
 ·rename_i q
  rw [q] at e
  have a:es.toList.any (·.refKey)=false:=by
   rw [List.any_eq_false]
   intro y hy
   obtain ⟨z,t,hkey⟩:=hk y (Array.mem_toList_iff.mp hy)
   simp [DictEntry.refKey,hkey]
  have a':¬ es.toList.any (·.refKey)=true:=by rw [a]; exact Bool.false_ne_true
  rw [if_neg a']
  exact congrArg some e
theorem zO.look {h:Heap} {x dx C:Addr} {mA:Str→Option Value} (I:zO h x dx C mA):∃ od,PySem.W.InstAt h x (PySem.W.instObj C dx) C (some od)∧∀ name,PySem.W.lookIn name od=some (mA name):=
 let ⟨od,ho,hl⟩:=rB I.ns
 ⟨od,⟨I.obj,rfl,rfl,ho⟩,hl⟩
section
variable {prog:Program} {w:World} {A:Around} {E:Value→Shared→Prop} {s:Shared} {K:PySem.W.Frag} {x dx C f:Addr} {mA:Str→Option Value} {name:Str} {v:Value}
end
def putF (f:Str) (v:V):List (Str×V)→List (Str×V)
 | []=> [(f,v)]
 | (g,x)::r=> if g=f then (g,v)::r else (g,x)::putF f v r
section
variable {P:Program} {w:World} {H H':Hp} {h h':Heap} {a C dx:Addr} {fs fs':List (Str×V)}
theorem wn (hok:HOk P w H h) (e:H a=some (.ins C dx fs)):∃ mA,zO h a dx C mA∧(∀ f,yT (fs.lookup f) (mA f))∧PySem.Within mA (fs.map (·.1))∧fs.length≤1000∧H dx=some (.own a):=by
 obtain ⟨d,z,ne,ob,mA,n,r,q⟩:=(show cu P w H h a (.ins C dx fs) from hok a _ e)
 exact ⟨mA,⟨ob,n,ne⟩,r,q,z,d⟩
end
structure Cls (K:PySem.W.Frag) (C:Addr):Prop where
 pg:PySem.W.plainGet K C Str.empty=true
 hd:PySem.W.hasDictIn K C=true
 po:PySem.W.plainOver K C=true
 sa:PySem.W.findIn K (.ref C) "__setattr__"=some (some (.builtin "object.__setattr__"))
theorem Cls.get {K:PySem.W.Frag} {C:Addr} (c:Cls K C) (f:Str):PySem.W.plainGet K C f=true:=c.pg
structure Con (K:PySem.W.Frag) (C:Addr) (f:Str) (v:V) (u:Value):Prop where
 at_:PySem.W.findIn K (.ref C) f=some (some u)
 rel:aY v u
 get:PySem.W.specialIn K u "__get__"=some none
 cp:PySem.W.copiedNames.contains f=false
structure Ba (K:PySem.W.Frag) (C:Addr) (m:Str) (f:Addr):Prop where
 at_:PySem.W.findIn K (.ref C) m=some (some (.ref f))
 fn:PySem.W.isFn K (.ref f)=true
 kp:PySem.W.keepIn K (.ref f)=true
section
variable {X:Cx} {pins:List (Addr×Obj)} {σ:St} {H:Hp} {s:Shared} {a C dx:Addr} {fs:List (Str×V)} {f:Str} {v:V} {A:Around} {E:Value→Shared→Prop}
end
section
variable {X:Cx} {o e value:Expr} {f:Str} {pos pos' tpos:Pos} {ta tv:TE}
end
section
variable {X:Cx} {pins:List (Addr×Obj)} {σ:St} {H:Hp} {s:Shared} {A:Around} {E:Value→Shared→Prop} {Q:Value→Shared→Prop} {c:Value} {b:Bool}
inductive iE (K:PySem.W.Frag) (H:Hp):V→Value→Prop where
 | non:iE K H .non (.type "NoneType")
 | bl (x:Bool):iE K H (.bl x) (.type "bool")
 | int (i:Int):iE K H (.int i) (.type "int")
 | str (x:Str):iE K H (.str x) (.type "str")
 | flt (x:UInt64):iE K H (.flt x) (.type "float")
 | lst {a:Addr} {xs:List V} (e:H a=some (.lst xs)):iE K H (.ref a) (.type "list")
 | frz {a:Addr} {o:Obj} {xs:List V} (e:H a=some (.frz o (.lst xs))):iE K H (.ref a) (.type "list")
 | tup {a:Addr} {xs:List V} (e:H a=some (.tup xs)):iE K H (.ref a) (.type "tuple")
 | dK {a:Addr} {kvs:List (Key×V)} (e:H a=some (.dK kvs)):iE K H (.ref a) (.type "dict")
 | dT {a:Addr} {kvs:List (List Key×V)} (e:H a=some (.dT kvs)):iE K H (.ref a) (.type "dict")
 | ins {a C dx:Addr} {fs:List (Str×V)} (e:H a=some (.ins C dx fs)) (cl:Cls K C) (ha:PySem.W.findIn K (.ref C) "__class__"=some (some (.builtin "object.__class__")))
   (hn:PySem.W.specialIn K (.builtin "object.__class__") "__get__"=some (some (.builtin "getset_descriptor.__get__"))) (htk:PySem.W.takesIn K (.builtin "object.__class__")=some true)
   (hm:PySem.W.mroIn K C (.type "object")=some true):iE K H (.ref a) (.ref C)
theorem dH {x:V} {u t:Value} (I:Inv X pins σ H s) (rx:aY x u) (ty:iE X.K H x t) (e:PySem.W.kitOne X.K t c=some b) (h:∀ tk,Q (.bool b) { s with toks:=tk }):
  wpAny (model X.prog X.w) A (call (.builtin "isinstance") [u,c]) Q E s:=by
 cases ty with
 | non=> cases (show u=Value.none from rx); exact PySem.W.kia_one PySem.W.kitx_none I.kIn True.intro e (fun z=> nomatch z) h
 | bl y=> cases (show u=Value.bool y from rx); exact PySem.W.kia_one PySem.W.kitx_bool I.kIn True.intro e (fun z=> nomatch z) h
 | int i=> obtain ⟨t,q⟩:=(show ∃ t,u=Value.int i t from rx); cases q; exact PySem.W.kia_one PySem.W.kitx_int I.kIn True.intro e (fun z=> nomatch z) h
 | str y=> obtain ⟨t,q⟩:=(show ∃ t,u=Value.str y t from rx); cases q; exact PySem.W.kia_one PySem.W.kitx_str I.kIn True.intro e (fun z=> nomatch z) h
 | flt y=> obtain ⟨t,q⟩:=(show ∃ t,u=Value.float y t from rx); cases q; exact PySem.W.kia_one PySem.W.kitx_float I.kIn True.intro e (fun z=> nomatch z) h
 | @lst a xs ea=>
  cases (show u=Value.ref a from rx)
  obtain ⟨_,_,n,_,h1⟩:=(show cu X.prog X.w H s.heap a (.lst xs) from I.hok a _ ea)
  exact PySem.W.kia_one PySem.W.kitx_list I.kIn ⟨_,h1,rfl⟩ e (fun z=> nomatch z) h
 | @frz a ob xs ea=>
  cases (show u=Value.ref a from rx)
  obtain ⟨_,_,_,n,_,h1⟩:=(show cu X.prog X.w H s.heap a (.frz ob (.lst xs)) from I.hok a _ ea)
  exact PySem.W.kia_one PySem.W.kitx_list I.kIn ⟨_,h1,rfl⟩ e (fun z=> nomatch z) h
 | @tup a xs ea=>
  cases (show u=Value.ref a from rx)
  obtain ⟨_,_,_,p⟩:=(show cu X.prog X.w H s.heap a (.tup xs) from I.hok a _ ea)
  obtain ⟨o,h1,h2,_⟩:=p
  exact PySem.W.kia_one PySem.W.kitx_tuple I.kIn ⟨o,h1,h2⟩ e (fun z=> nomatch z) h
 | @dK a kvs ea=>
  cases (show u=Value.ref a from rx)
  obtain ⟨_,_,vs,_,p⟩:=(show cu X.prog X.w H s.heap a (.dK kvs) from I.hok a _ ea)
  obtain ⟨o,es,ep,h1,h2,_⟩:=p
  exact PySem.W.kia_one PySem.W.kitx_dict I.kIn ⟨o,h1,h2.1⟩ e (fun z=> nomatch z) h
 | @dT a kvs ea=>
  cases (show u=Value.ref a from rx)
  obtain ⟨_,_,xs,_,o,es,ep,h1,h2,_⟩:=(show cu X.prog X.w H s.heap a (.dT kvs) from I.hok a _ ea)
  exact PySem.W.kia_one PySem.W.kitx_dict I.kIn ⟨o,h1,h2.1⟩ e (fun z=> nomatch z) h
 | @ins a C dx fs ea cl ha hn htk hm=>
  cases (show u=Value.ref a from rx)
  obtain ⟨mA,O,_⟩:=wn I.hok ea
  obtain ⟨od,J,_⟩:=O.look
  exact PySem.W.kia_one (PySem.W.kitx_own (cl.get _) cl.hd ha hn htk hm) I.kIn J e (fun z=> nomatch z) h
end
end L2
namespace L2
open PySem PySem.Spec PyProof.Rows
structure dR (k:Nat) (A:Around):Prop where
 hd:A.handled=none
 dp:A.depth+3 * k+5 < recursionLimit
 un:A.units+16 * k+200 < cLine
theorem dR.mono {j k:Nat} {A:Around} (r:dR k A) (h:j≤k):dR j A:=⟨r.hd,by have:=r.dp; omega,by have:=r.un; omega⟩
theorem dR.deeper {k:Nat} {A:Around} (r:dR (k+1) A) (env:Env):dR k (A.deeper env):=
 ⟨r.hd,by have:=r.dp; show A.depth+1+3 * k+5 < _; omega,by have:=r.un; show A.units+3+16 * k+200 < _; omega⟩
theorem dR.depth {k:Nat} {A:Around} (r:dR k A):A.depth < recursionLimit:=by have:=r.dp; omega
def AY:TA:=fun _ H Q=> Q [] H
def zU (ta:TE) (tr:TA):TA:=fun σ H Q=> ta σ H fun x H1=> tr σ H1 fun xs H2=> Q (x::xs) H2
section
variable {X:Cx} {e:Expr} {es:List Expr} {te:TE} {t:TA} {pos:Pos}
theorem fA:PA X [] AY:=fun _ _ _ _ H Q I h=> Calls.spliced_nil ⟨[],H,I,.nil,h⟩
theorem dA (ha:PE X e te) (hr:PA X es t) (hs:starEach (e::es) X.env=(false,eval e X.env)::starEach es X.env:=by rfl):PA X (e::es) (zU te t):=by
 intro pos pins s σ H Q I h
 rw [hs]
 show wpAny _ _ (spliced ((false,eval e X.env)::backTo pos (starEach es X.env))) _ _ s
 refine Calls.spliced_cons (thn (ha pins s σ H _ I h) fun u s1 ⟨x,H1,I1,r1,q1⟩=> ?_)
 exact thn (hr pos pins s1 σ H1 _ I1 q1) fun us s2 ⟨xs,H2,I2,r2,q2⟩=> ⟨x::xs,H2,I2,.cons r1 r2,q2⟩
def AI (t:TA):TE:=fun σ H Q=> t σ H fun xs H1=> xs.length≤sizeLine∧∀ p,H1 p=none→Q (.ref p) (upd H1 p (.tup xs))
def AS (t:TA):TE:=fun σ H Q=> t σ H fun xs H1=> xs.length≤sizeLine∧∀ p,H1 p=none→Q (.ref p) (upd H1 p (.lst xs))
theorem yR {x1} (h:PA X es t):PE X (.Tuple es x1 pos) (AI t):=by
 intro pins s σ H Q I hq
 refine wpAny_Tuple_spliced (thn (h pos pins s σ H _ I hq) fun us s1 ⟨xs,H1,I1,r,z,q⟩=> ⟨by rw [← r.length]; exact z,?_⟩)
 have hf:H1 s1.heap.objs.size=none:=I1.hok.fresh (Nat.le_refl _)
 refine ⟨.ref s1.heap.objs.size,upd H1 s1.heap.objs.size (.tup xs),I1.laid (t':=s1.toks) (fun b u e=> Heap.get?_push_of_some _ e) (Nat.le_refl _) ?_,rfl,q _ hf⟩
 exact ⟨z,us,r,⟨_,Heap.get?_push_size _ rfl,rfl,_,rfl⟩⟩
theorem zJ (h:PA X es t):PE X (.List es pos) (AS t):=by
 intro pins s σ H Q I hq
 refine wpAny_List_spliced (thn (h pos pins s σ H _ I hq) fun us s1 ⟨xs,H1,I1,r,z,q⟩=> ⟨by rw [← r.length]; exact z,?_⟩)
 have hf:H1 s1.heap.objs.size=none:=I1.hok.fresh (Nat.le_refl _)
 refine ⟨.ref s1.heap.objs.size,upd H1 s1.heap.objs.size (.lst xs),I1.laid (t':=s1.toks) (fun b u e=> Heap.get?_push_of_some _ e) (Nat.le_refl _) ?_,rfl,q _ hf⟩
 exact ⟨z,us,0,r,Heap.get?_push_size _ rfl⟩
end
abbrev Sp:=List V→Hp→VK→XK→Prop
abbrev CXT:=List Env→Hp→Shared→XK→Value→Shared→Prop
structure wT (P:Program) (w:World) (K:PySem.W.Frag) (mg:Str→Option Value) (base:Heap) (A:Around) (outer:List Env) (s:Shared) (H:Hp):Prop where
 frames:A.frames=some outer
 mod:Mod K mg base
 bs:∀ b o,base.get? b=some o→s.heap.get? b=some o∧H b=none
 bsz:base.objs.size≤s.heap.objs.size
 funs:s.heap.FunFrames base outer
 frf:∀ b∈frs outer,H b=none
 hok:HOk P w H s.heap
 bare:AllBare s.gens
def CE (outer:List Env) (P:Program) (w:World) (H:Hp) (s:Shared) (Q:VK) (u:Value) (s':Shared):Prop:=
 ∃ v H',s'.os=s.os∧AllBare s'.gens∧Un (frs outer) [] H H' s.heap s'.heap∧HOk P w H' s'.heap∧aY v u∧Q v H'
def CR (CX:CXT) (outer:List Env) (P:Program) (w:World) (H:Hp) (s:Shared) (Q:VK) (E:XK) (r:Result) (s':Shared):Prop:=
 match r with
 | .ok (.ret u)=> CE outer P w H s Q u s'
 | .ok _=> False
 | .error e=> CX outer H s E e s'
structure aX (P:Program) (w:World) (K:PySem.W.Frag) (mg:Str→Option Value) (base:Heap) (CX:CXT) (k:Nat) (f:Addr) (fd:FuncData) (ps:List Str) (sp:Sp):Prop where
 len:∀ vs H Q E,sp vs H Q E→vs.length=ps.length
 run:∀ (A:Around) (outer:List Env) (s:Shared) (H:Hp) (args:Args) (us:List Value) (vs:List V) (Q:VK) (E:XK),dR k A→wT P w K mg base A outer s H→BindsTo s fd args (ps.zip us)→aL vs us→sp vs H Q E→
  codeAny (model P w) A (.call (.ref f) args) (CR CX outer P w H s Q E) s
theorem aX.mono {P:Program} {w:World} {K:PySem.W.Frag} {mg:Str→Option Value} {base:Heap} {CX:CXT} {j k:Nat} {f:Addr} {fd:FuncData} {ps:List Str} {sp:Sp} (F:aX P w K mg base CX j f fd ps sp) (h:j≤k):
  aX P w K mg base CX k f fd ps sp:=⟨F.len,fun A outer s H args us vs Q E hr=> F.run A outer s H args us vs Q E (hr.mono h)⟩
section
variable {X:Cx} {pins:List (Addr×Obj)} {σ:St} {H:Hp} {s s':Shared}
theorem Inv.env0 (I:Inv X pins σ H s):wT X.prog X.w X.K X.mg X.base X.A X.stack s H:=
 ⟨I.ok.frames,I.ok.mod,I.bs,Nat.le_trans I.ok.bsz I.sz,I.stack,I.stkFree,I.hok,I.bare⟩
theorem Inv.after {Q:VK} {u:Value} (I:Inv X pins σ H s) (h:CE X.stack X.prog X.w H s Q u s'):EP X pins σ Q u s':=by
 obtain ⟨v,H',os,bare,un,hok,r,q⟩:=h
 obtain ⟨hh,g,d,t,os'⟩:=s'
 obtain rfl:os'=s.os:=os
 exact ⟨v,H',I.call (h':=hh) (g':=g) (d':=d) (t':=t) (ch:=[]) un hok bare (fun b z=> absurd z (by simp)),r,q⟩
end
def AE (sp:Sp) (dvs:List V) (E:XK) (t:TA):TE:=fun σ H Q=> t σ H fun vs H1=> sp (vs++dvs) H1 Q E
def aK (K:PySem.W.Frag) (fd:FuncData) (ps:List Str) (ds:List Value):Prop:=
 ∀ (s:Shared) (us:List Value),K.In s.heap→(us++ds).length=ps.length→BindsTo s fd ⟨us,[]⟩ (ps.zip (us++ds))
theorem aK.all {K:PySem.W.Frag} {fd:FuncData} {ps:List Str} (h:∀ us:List Value,us.length=ps.length→bindArgs fd ⟨us,[]⟩=pure (ps.zip us)):aK K fd ps []:=fun s us _ hl=> by
 rw [List.append_nil] at hl ⊢
 exact .of_eq (h us hl)
def fu (CX:CXT) (X:Cx) (E:XK):Prop:=∀ (pins:List (Addr×Obj)) (σ:St) (H:Hp) (s:Shared) (e:Value) (s':Shared),Inv X pins σ H s→CX X.stack H s E e s'→X.xe e s'
section
variable {X:Cx} {CX:CXT} {k:Nat} {f C:Addr} {fd:FuncData} {ps:List Str} {sp:Sp} {dvs:List V} {ds:List Value} {E:XK} {x m:Str} {p pos apos:Pos} {e o:Expr} {es:List Expr} {ta:TE} {t:TA}
theorem zo {pins:List (Addr×Obj)} {σ:St} {H:Hp} {s:Shared} {Q:VK} {us:List Value} {vs:List V} (F:aX X.prog X.w X.K X.mg X.base CX k f fd ps sp) (hr:dR k X.A) (hb:aK X.K fd ps ds) (hd:aL dvs ds) (hx:fu CX X E)
  (I:Inv X pins σ H s) (r:aL vs us) (h:sp (vs++dvs) H Q E):wpAny (model X.prog X.w) X.A (call (.ref f) us) (EP X pins σ Q) X.xe s:=by
 have r2:aL (vs++dvs) (us++ds):=r.append hd
 have hl:(us++ds).length=ps.length:=by rw [← r2.length]; exact F.len _ _ _ _ h
 refine wpAny_call (codeAny_mono (F.run X.A X.stack s H ⟨us,[]⟩ (us++ds) (vs++dvs) Q E hr I.env0 (hb s us I.kIn hl) r2 h) fun r s' hq=> ?_)
 cases r with
 | error e=> exact hx pins σ H s e s' I hq
 | ok fl=>
  cases fl with
  | ret u=> exact I.after hq
  | next=> exact False.elim hq
  | brk=> exact False.elim hq
  | cont=> exact False.elim hq
theorem iL (F:aX X.prog X.w X.K X.mg X.base CX k f fd ps sp) (hr:dR k X.A) (hg:Gl X x) (hm:X.mg x=some (.ref f)) (hk:PySem.W.keepIn X.K (.ref f)=true) (hb:aK X.K fd ps ds) (hd:aL dvs ds) (hx:fu CX X E)
  (ha:PA X (e::es) t) (hdb:(x==("__debug__":Str))=false:=by decide) (he:starEach (e::es) X.env=(false,eval e X.env)::starEach es X.env:=by rfl) (hpl:(backTo pos (starEach es X.env)).any (·.1)=false:=by rfl):
  PE X (.Call (.Name x p) (e::es) [] pos) (AE sp dvs E t):=by
 intro pins s σ H Q I h
 refine wpAny_Call_Name_kw (lz I hg hm ?_ hdb)
 refine PySem.W.callWith_K (h₀:=X.base) I.ok.mod.kin hk (thn (ha pos pins s σ H _ I h) fun us s1 ⟨vs,H1,I1,r,q⟩=> ⟨I1.kIn,?_⟩) he hpl
 exact zo F hr hb hd hx I1 r q
structure Mk (K:PySem.W.Frag) (C f:Addr):Prop where
 makes:PySem.W.makesIn K C=true
 init:PySem.W.findIn K (.ref C) "__init__"=some (some (.ref f))
 fn:PySem.W.isFn K (.ref f)=true
 kp:PySem.W.keepIn K (.ref C)=true
end
section
variable {X:Cx} {CX:CXT} {k:Nat} {f C:Addr} {fd:FuncData} {ps ks:List Str} {sp:Sp} {E:XK} {x m:Str} {p pos apos kpos:Pos} {e o:Expr} {es:List Expr} {kws:List Keyword} {te ta:TE} {t tk:TA} {nm:Option Str}
structure A8 (K:PySem.W.Frag) (fd:FuncData) (ps ks:List Str) (g:List Value→List Value→List Value) (gV:List V→List V→List V):Prop where
 to:∀ (s:Shared) (us ws:List Value),K.In s.heap→(g us ws).length=ps.length→BindsTo s fd ⟨us,ks.zip ws⟩ (ps.zip (g us ws))
 rel:∀ {vs:List V} {us:List Value} {zs:List V} {ws:List Value},aL vs us→aL zs ws→aL (gV vs zs) (g us ws)
variable {g:List Value→List Value→List Value} {gV:List V→List V→List V}
end
structure av (N P:List Str) (sc:Scope):Prop where
 kind:sc.kind=.function
 co:sc.isCoroutine=false
 gen:sc.isGenerator=false
 nd:N.Nodup
 pre:N.take P.length=P
 par:∀ x∈P,sc.names.lookup x=some .local∨sc.names.lookup x=some .cell
 nofree:∀ y∈sc.names,y.2≠.free
theorem kh {kindOf:Str→Option NameKind} {x:Str}:∀ {binds:List (Str×Value)} {m:Str→Option Value},(∀ v,(x,v) ∉ binds)→bindL kindOf binds m x=m x
 | [],_,_=> rfl
 | (n,v)::r,m,h=> by
  unfold bindL
  rw [kh fun w hw=> h w (List.mem_cons_of_mem _ hw)]
  split
  ·have:x≠n:=by rintro rfl; exact h v List.mem_cons_self
   simp [this]
  ·rfl
theorem kK {kindOf:Str→Option NameKind} {x:Str}:∀ {binds:List (Str×Value)} {m:Str→Option Value},(∀ v,(x,v) ∉ binds)→bindC kindOf binds m x=m x
 | [],_,_=> rfl
 | (n,v)::r,m,h=> by
  unfold bindC
  rw [kK fun w hw=> h w (List.mem_cons_of_mem _ hw)]
  split
  ·rfl
  ·have:x≠n:=by rintro rfl; exact h v List.mem_cons_self
   simp [this]
theorem kC {kindOf:Str→Option NameKind} {x:Str} {v:Value}:∀ {P:List Str} {vs:List Value} {i:Nat} {m:Str→Option Value},P.Nodup→P[i]?=some x→vs[i]?=some v→kindOf x=some .local→
  bindL kindOf (P.zip vs) m x=some v
 | [],_,_,_,_,h,_,_=> by simp at h
 | _::_,[],_,_,_,_,h,_=> by simp at h
 | p::P,w::vs,0,m,nd,h1,h2,hk=> by
  simp at h1 h2; subst h1; subst h2
  show bindL kindOf ((p,w)::P.zip vs) m p=_
  unfold bindL
  rw [kh fun v hv=> (List.nodup_cons.mp nd).1 (List.of_mem_zip hv).1,if_pos hk]
  simp
 | p::P,w::vs,i+1,m,nd,h1,h2,hk=> by
  show bindL kindOf ((p,w)::P.zip vs) m x=_
  unfold bindL
  exact kC (i:=i) (List.nodup_cons.mp nd).2 (by simpa using h1) (by simpa using h2) hk
theorem kA {kindOf:Str→Option NameKind} {x:Str} {v:Value}:∀ {P:List Str} {vs:List Value} {i:Nat} {m:Str→Option Value},P.Nodup→P[i]?=some x→vs[i]?=some v→kindOf x≠some .local→
  bindC kindOf (P.zip vs) m x=some v
 | [],_,_,_,_,h,_,_=> by simp at h
 | _::_,[],_,_,_,_,h,_=> by simp at h
 | p::P,w::vs,0,m,nd,h1,h2,hk=> by
  simp at h1 h2; subst h1; subst h2
  show bindC kindOf ((p,w)::P.zip vs) m p=_
  unfold bindC
  rw [kK fun v hv=> (List.nodup_cons.mp nd).1 (List.of_mem_zip hv).1,if_neg hk]
  simp
 | p::P,w::vs,i+1,m,nd,h1,h2,hk=> by
  show bindC kindOf ((p,w)::P.zip vs) m x=_
  unfold bindC
  exact kA (i:=i) (List.nodup_cons.mp nd).2 (by simpa using h1) (by simpa using h2) hk
def start (N:List Str) (vs:List V):St:=vs.map some++List.replicate (N.length - vs.length) none
def dW (CX:CXT) (P:Program) (w:World) (K:PySem.W.Frag) (mg:Str→Option Value) (base:Heap) (N:List Str) (qual:Str) (scope:Scope) (f:Addr) (cd:Value) (A:Around) (outer:List Env) (s:Shared) (H:Hp) (E:XK):Cx where
 prog:=P
 w:=w
 K:=K
 mg:=mg
 base:=base
 A:=A.deeper (envOfC qual scope s.heap.objs.size f cd)
 N:=N
 s₀:=s
 H₀:=H
 env:=envOfC qual scope s.heap.objs.size f cd
 outer:=outer
 stack:=envOfC qual scope s.heap.objs.size f cd::outer
 ex:=[]
 calm:=true
 fn:=fun _=> true
 pn:=[]
 xe:=fun e s'=> wpAny (model P w) (A.deeper (envOfC qual scope s.heap.objs.size f cd)) (leaving (envOfC qual scope s.heap.objs.size f cd) e) (fun _ s''=> CX outer H s E e s'') (fun e' s''=> CX outer H s E e' s'') s'
theorem mr {sc:Scope} {n:Nat} {x:Str} (h:sc.names.lookup x=some .cell):∃ c,(cellsFrom n sc.names []).lookup x=some c:=by
 have q:=PySem.W.cellsFrom_some sc.names n [] (.inl h)
 exact Option.isSome_iff_exists.mp q
theorem rh {CX:CXT} {P:Program} {w:World} {K:PySem.W.Frag} {mg:Str→Option Value} {base:Heap} {N ps:List Str} {qual:Str} {scope:Scope} {f:Addr} {cd:Value} {A:Around} {outer:List Env} {s s1:Shared} {H:Hp} {E:XK} {us:List Value} {vs:List V}
  (S:av N ps scope) (hd:A.handled=none) (e0:wT P w K mg base A outer s H) (hl:vs.length=ps.length) (r:aL vs us)
  (x:InCallC s s.heap.objs.size (bindL (envOfC qual scope s.heap.objs.size f cd).kindOf (ps.zip us) fun _=> none) (cellsFrom (s.heap.objs.size+1) scope.names []) (bindC (envOfC qual scope s.heap.objs.size f cd).kindOf (ps.zip us) fun _=> none) s1):
  Inv (dW CX P w K mg base N qual scope f cd A outer s H E) [] (start N vs) H s1:=by
 have hpl:ps.length≤N.length:=by have:=congrArg List.length S.pre; rw [List.length_take] at this; omega
 obtain ⟨h1,tk,rfl,hk⟩:=x.done
 have noA:∀ b:Addr,b ∉ (dW CX P w K mg base N qual scope f cd A outer s H E).ex:=fun b z=> absurd (show b∈([]:List Addr) from z) (by simp)
 refine ⟨⟨e0.mod,S.kind,rfl,rfl,Nat.le_refl _,fun y z c h1 h2=> ?_,fun y hy=> ?_,fun y c _ h=> ?_,fun _=> hd,Around.frames_deeper e0.frames,.inr ⟨rfl,rfl⟩,fun b z=> absurd z (noA b),e0.bs,e0.bsz,fun b _ _=> noA b,fun b z=> absurd z (noA b),e0.funs,e0.frf⟩,
  rfl,e0.bare,Un.kept hk,⟨_,x.toInCall.ns,fun i y v h1 h2 h3=> ?_⟩,fun y c h=> ⟨_,x.cell y c h⟩,e0.hok.fresh (Nat.le_refl _),fun y c h=> ?_,fun p hp=> absurd (show p∈([]:List (Addr×Obj)) from hp) (by simp),e0.hok.kept hk,?_⟩
 ·exact name_of_addr x.apart (PySem.mem_of_lookup h1) (PySem.mem_of_lookup h2)
 ·have hy:scope.names.lookup y=some .cell∨scope.names.lookup y=some .free:=hy
  rcases hy with hy | hy
  ·exact mr hy
  ·exact absurd rfl (S.nofree _ (PySem.mem_of_lookup hy))
 ·exact Nat.le_of_lt (x.above y c (PySem.mem_of_lookup h))
 ·have hi:i < vs.length:=by
   unfold start at h2
   by_cases hi:i < vs.length
   ·exact hi
   ·rw [List.getElem?_append_right (by simpa using hi)] at h2
    rw [List.getElem?_replicate] at h2
    split at h2 <;> cases h2
  have ha:vs[i]?=some v:=by
   unfold start at h2
   rw [List.getElem?_append_left (by simpa using hi),List.getElem?_map] at h2
   cases e:vs[i]? with
   | none=> rw [e] at h2; cases h2
   | some a=> rw [e] at h2; cases h2; rfl
  obtain ⟨u,hu,rv⟩:=r.get ha
  have hp:ps[i]?=some y:=by
   rw [← S.pre,List.getElem?_take_of_lt (by omega)]; exact h1
  have ndP:ps.Nodup:=by rw [← S.pre]; exact S.nd.sublist (List.take_sublist _ _)
  refine ⟨u,rv,?_⟩
  rcases S.par y (List.mem_of_getElem? hp) with k | k
  ·exact .inl ⟨k,kC ndP hp hu k⟩
  ·obtain ⟨c,e⟩:=mr (n:=s.heap.objs.size+1) k
   refine .inr ⟨.inl k,c,e,?_⟩
   have q:=x.cell y c e
   rw [kA ndP hp hu (by show scope.names.lookup y≠_; rw [k]; decide)] at q
   exact q
 ·exact e0.hok.fresh (Nat.le_of_lt (x.above y c (PySem.mem_of_lookup h)))
 ·unfold start
  show _=N.length
  rw [List.length_append,List.length_map,List.length_replicate]
  omega
theorem yh {CX:CXT} {P:Program} {w:World} {K:PySem.W.Frag} {mg:Str→Option Value} {base:Heap} {k:Nat} {f:Addr} {name qual:Str} {params:Arguments} {body:List Stmt} {scope:Scope} {dV kV doc pm cdv ct oc:Value} {an od:Option Addr}
  {osl:Array (Option Value)} {N ps:List Str} {sp:Sp} (lk:K.lookup f=some ⟨oc,od,.func (PySem.W.fnOf name qual params body scope dV kV doc pm an cdv ct),osl⟩) (hcd:PySem.W.codeIn K cdv qual=true) (S:av N ps scope)
  (len:∀ vs H Q E,sp vs H Q E→vs.length=ps.length)
  (hbody:∀ (A:Around) (outer:List Env) (s:Shared) (H:Hp) (vs:List V) (Q:VK) (E:XK),dR k (A.deeper (envOfC qual scope s.heap.objs.size f cdv))→sp vs H Q E→
   ∃ t,PSs (dW CX P w K mg base N qual scope f cdv A outer s H E) body t∧t { nx:=fun _ H'=> Q .non H',rt:=Q } (start N vs) H):
  aX P w K mg base CX (k+1) f (PySem.W.fnOf name qual params body scope dV kV doc pm an cdv ct) ps sp:=by
 refine ⟨len,fun A outer s H args us vs Q E hr e0 hb r hsp=> ?_⟩
 have hl:=len _ _ _ _ hsp
 have KX:K.In s.heap:=e0.mod.kin.keeps fun b o e=> (e0.bs b o e).1
 have lim:s.heap.NoLimit:=e0.mod.nolimit.keeps fun b o e=> (e0.bs b o e).1
 have hkind:∀ y∈ps.zip us,scope.names.lookup y.1=some .local∨(scope.names.lookup y.1=some .cell∧((cellsFrom (s.heap.objs.size+1) scope.names []).lookup y.1).isSome=true):=fun ⟨n,v⟩ hy=> by
  rcases S.par n (List.of_mem_zip hy).1 with q | q
  ·exact .inl q
  ·exact .inr ⟨q,PySem.W.cellsFrom_some _ _ _ (.inl q)⟩
 refine codeAny_call_function hr.depth (KX _ _ lk) rfl S.co S.gen rfl (PySem.W.codeRec_of KX hcd) (hb _ _ _ _ ?_)
 refine wpAny_newFunctionEnv_cells S.kind hkind fun env he s1 x=> ?_
 subst he
 refine ⟨lim.keeps x.toInCall.keep,codeAny_func ?_⟩
 obtain ⟨t,ht,hq⟩:=hbody A outer s H vs Q E (hr.deeper _) hsp
 have I:Inv (dW CX P w K mg base N qual scope f cdv A outer s H E) [] (start N vs) H s1:=rh S hr.hd e0 hl r x
 refine wpAny_mono (ht [] s1 (start N vs) H _ I hq) (fun fl s' hs=> ?_) fun e s' hs=> hs
 have fin:∀ {σ':St} {H':Hp} {v:V} {u:Value},Inv (dW CX P w K mg base N qual scope f cdv A outer s H E) [] σ' H' s'→aY v u→Q v H'→CE outer P w H s Q u s':=
  fun {σ' H' v u} J rv q=> ⟨v,H',J.os,J.bare,J.base,J.hok,rv,q⟩
 cases fl with
 | ret u=>
  obtain ⟨v,σ',H',J,rv,q⟩:=hs
  exact fin J rv q
 | next=>
  obtain ⟨σ',H',J,q⟩:=hs
  exact fin (v:=V.non) (u:=Value.none) J rfl q
 | brk=>
  obtain ⟨_,_,_,q⟩:=hs
  exact False.elim q
 | cont=>
  obtain ⟨_,_,_,q⟩:=hs
  exact False.elim q
end L2
namespace L2
open PySem PySem.Spec PyProof.Rows
section
variable {X:Cx} {x:Str} {p pos:Pos} {e:Expr} {es:List Expr} {t:TA} {id T:String} {r:List V→Hp→VK→Prop}
def tCB (r:List V→Hp→VK→Prop) (t:TA):TE:=fun σ H Q=> t σ H fun vs H1=> r vs H1 Q
theorem mF (hc:eu X (.builtin id) r) (hg:Gl X x) (hm:X.mg x=none) (hv:bootBuiltins x=some (.builtin id)) (ha:PA X (e::es) t) (hn:x≠"__name__":=by decide) (hdb:(x==("__debug__":Str))=false:=by decide)
  (he:starEach (e::es) X.env=(false,eval e X.env)::starEach es X.env:=by rfl) (hpl:(backTo pos (starEach es X.env)).any (·.1)=false:=by rfl):PE X (.Call (.Name x p) (e::es) [] pos) (tCB r t):=by
 intro pins s σ H Q I h
 refine wpAny_Call_Name_kw (cR I hg hm hv ?_ hn hdb)
 exact PyProof.Rows.callWith_builtin1 (thn (ha pos pins s σ H _ I h) fun us s1 ⟨vs,H1,I1,r1,q1⟩=> hc pins s1 σ H1 vs us Q I1 r1 q1) he hpl
theorem sQ (hc:eu X (.type T) r) (hg:Gl X x) (hm:X.mg x=none) (hv:bootBuiltins x=some (.type T)) (ha:PA X (e::es) t) (hn:x≠"__name__":=by decide) (hdb:(x==("__debug__":Str))=false:=by decide)
  (he:starEach (e::es) X.env=(false,eval e X.env)::starEach es X.env:=by rfl) (hpl:(backTo pos (starEach es X.env)).any (·.1)=false:=by rfl):PE X (.Call (.Name x p) (e::es) [] pos) (tCB r t):=by
 intro pins s σ H Q I h
 refine wpAny_Call_Name_kw (cR I hg hm hv ?_ hn hdb)
 exact PyProof.Rows.callWith_type1 (thn (ha pos pins s σ H _ I h) fun us s1 ⟨vs,H1,I1,r1,q1⟩=> hc pins s1 σ H1 vs us Q I1 r1 q1) he hpl
end
end L2
namespace HT
open PySem PyProof.Rows
section
open PySem.SeqAt
open PySem.AutoSeq1 (wpAny_loadPart')
open PySem.MeetsSeq PySem.MeetsSeq2 PySem.MeetsSeq3
end
section
variable {prog:Program} {w:World} {A:Around} {E:Value→Shared→Prop} {s:Shared}
def sIx (n d:Nat):Option Int→Nat
 | none=> d
 | some v=> if v < 0 then (v+(n:Int)).toNat else min v.toNat n
end
end HT
namespace L2
open PySem PySem.Spec PyProof.Rows
abbrev TO:=St→Hp→(Option Int→Hp→Prop)→Prop
def PO (X:Cx) (e:Option Expr) (t:TO):Prop:=
 ∀ (pins:List (Addr×Obj)) (s:Shared) (σ:St) (H:Hp) (Q:Option Int→Hp→Prop),Inv X pins σ H s→t σ H Q→
  wpAny (model X.prog X.w) X.A (evalPart e X.env) (fun u s'=> ∃ o H',Inv X pins σ H' s'∧IsPart u o∧Q o H') X.xe s
def wY:TO:=fun _ H Q=> Q none H
def Az (t:TE):TO:=fun σ H Q=> t σ H fun x H1=> ∃ i,x=.int i∧Q (some i) H1
section
variable {X:Cx} {e:Expr} {te:TE} {lo hi:Option Expr} {tl th:TO} {pos p2:Pos}
theorem wf:PO X none wY:=by
 intro pins s σ H Q I h
 rw [evalPart_none]
 exact wpAny_pure ⟨none,H,I,.none,h⟩
theorem wI (h:PE X e te):PO X (some e) (Az te):=by
 intro pins s σ H Q I hw
 rw [evalPart_some]
 refine thn (h pins s σ H _ I hw) fun u s1 ⟨x,H1,I1,r1,q1⟩=> ?_
 obtain ⟨i,rfl,q⟩:=q1
 obtain ⟨t,rfl⟩:=r1
 exact ⟨some i,H1,I1,.int i t,q⟩
def SlR (X:Cx) (r:V→Option Int→Option Int→Hp→VK→Prop):Prop:=
 ∀ (pins:List (Addr×Obj)) (s:Shared) (σ:St) (H:Hp) (x:V) (v vl vu:Value) (lo hi:Option Int) (sl:Addr) (Q:VK),Inv X pins σ H s→aY x v→s.heap.IsSliceOf sl vl vu .none→IsPart vl lo→IsPart vu hi→r x lo hi H Q→
  ∃ T id,typeLookup (.type T) "__getitem__"=pure (some (.builtin id))∧s.TypeIs v T∧wpAny (model X.prog X.w) X.A (getItem v (.ref sl)) (EP X pins σ Q) X.xe s
def tSl (r:V→Option Int→Option Int→Hp→VK→Prop) (te:TE) (tl th:TO):TE:=fun σ H Q=> te σ H fun x H1=> tl σ H1 fun l H2=> th σ H2 fun u H3=> r x l u H3 Q
theorem tY {r:V→Option Int→Option Int→Hp→VK→Prop} (hr:SlR X r) (he:PE X e te) (hl:PO X lo tl) (hu:PO X hi th):PE X (.Subscript e (.Slice lo hi none p2) pos) (tSl r te tl th):=by
 intro pins s σ H Q I h
 refine Subscript_ (thn (he pins s σ H _ I h) fun v s1 ⟨x,H1,I1,r1,q1⟩=> ?_)
 refine wpAny_Slice (thn (hl pins s1 σ H1 _ I1 q1) fun vl s2 ⟨l,H2,I2,pl,q2⟩=> thn (hu pins s2 σ H2 _ I2 q2) fun vu s3 ⟨u,H3,I3,pu,q3⟩=> ?_)
 rw [evalPart_none]
 refine wpAny_pure ?_
 have I4:Inv X pins σ H3 { s3 with heap:=s3.heap.push { cls:=.type "slice",data:=.fields #[vl,vu,.none] } }:=I3.kept (t':=s3.toks) fun b ob q=> Heap.get?_push_of_some _ q
 obtain ⟨T,id,hT,ht,hg⟩:=hr pins { s3 with heap:=s3.heap.push { cls:=.type "slice",data:=.fields #[vl,vu,.none] } } σ H3 x v vl vu l u s3.heap.objs.size Q I4 r1 (Heap.IsSliceOf.new ..) pl pu q3
 show wpAny (model X.prog X.w) X.A (subscriptTail e (.Slice lo hi none p2) v (.ref s3.heap.objs.size)) (EP X pins σ Q) X.xe { s3 with heap:=s3.heap.push { cls:=.type "slice",data:=.fields #[vl,vu,.none] } }
 exact tail_any (ops:=[.ref s3.heap.objs.size,v]) ht hT hg (by with_unfolding_all rfl)
def rL (xs:List V) (lo hi:Option Int):List V:=(xs.drop (HT.sIx xs.length 0 lo)).take (HT.sIx xs.length xs.length hi - HT.sIx xs.length 0 lo)
theorem nM (xs:List V) (lo hi:Option Int):(rL xs lo hi).length≤xs.length:=by
 unfold rL
 rw [List.length_take,List.length_drop]
 omega
end
end L2
namespace L2
open PySem PySem.Spec PyProof.Rows
def ixN (n:Nat) (i:Int):Option Nat:=if 0≤i then (if i < n then some i.toNat else none) else if -(n:Int)≤i then some (i+n).toNat else none
def atI {α:Type} (xs:List α) (i:Int):Option α:=(ixN xs.length i).bind fun j=> xs[j]?
theorem w4 {n:Nat} {i:Int} {j:Nat} (h:ixN n i=some j):seqIndex? i n=some j∧j < n∧-(n:Int)≤i∧i < n:=by
 unfold ixN at h
 by_cases h0:0≤i
 ·rw [if_pos h0] at h
  by_cases h1:i < n
  ·rw [if_pos h1] at h
   have e:i.toNat=j:=Option.some.inj h
   exact ⟨by rw [seqIndex_of h0 h1,e],by omega,by omega,h1⟩
  ·rw [if_neg h1] at h; cases h
 ·rw [if_neg h0] at h
  by_cases h1:-(n:Int)≤i
  ·rw [if_pos h1] at h
   have e:(i+n).toNat=j:=Option.some.inj h
   exact ⟨by rw [seqIndex_neg (by omega) h1,e],by omega,h1,by omega⟩
  ·rw [if_neg h1] at h; cases h
theorem qr {α:Type} {xs:List α} {i:Int} {v:α} (h:atI xs i=some v):∃ j,seqIndex? i xs.length=some j∧xs[j]?=some v∧j < xs.length∧-(xs.length:Int)≤i∧i < xs.length:=by
 unfold atI at h
 cases e:ixN xs.length i with
 | none=> rw [e] at h; cases h
 | some j=>
  rw [e] at h
  obtain ⟨h1,h2,h3,h4⟩:=w4 e
  exact ⟨j,h1,h,h2,h3,h4⟩
theorem qD {α:Type} {xs:List α} {j:Nat} {v:α} (h:xs[j]?=some v):atI xs (j:Int)=some v:=by
 have hj:j < xs.length:=(List.getElem?_eq_some_iff.mp h).1
 have e:ixN xs.length (j:Int)=some j:=by
  unfold ixN
  rw [if_pos (by omega),if_pos (by omega)]; simp
 unfold atI; rw [e]; exact h
def lL (b:Expr):Prop:=∀ o i,subscripted b false o i=operate [o,i] (getItem o i)
def IxR (X:Cx) (r:R2):Prop:=
 ∀ (value slice:Expr) (pins:List (Addr×Obj)) (s:Shared) (σ:St) (H:Hp) (x y:V) (v u:Value) (Q:VK),Inv X pins σ H s→aY x v→aY y u→r x y H Q→
  subscripted slice false v u=operate [v,u] (getItem v u)→wpAny (model X.prog X.w) X.A (subscriptTail value slice v u) (EP X pins σ Q) X.xe s
def MtR (X:Cx) (id:String) (r:V→List V→Hp→VK→Prop):Prop:=
 ∀ (pins:List (Addr×Obj)) (s:Shared) (σ:St) (H:Hp) (x:V) (xs:List V) (v:Value) (us:List Value) (Q:VK),Inv X pins σ H s→aY x v→aL xs us→r x xs H Q→
  wpAny (model X.prog X.w) X.A (call (.builtin id) (v::us)) (EP X pins σ Q) X.xe s
section
variable {X:Cx} {a b:Expr} {ta tb:TE} {pos:Pos}
theorem IxR.or {r r':R2} (h:IxR X r) (h':IxR X r'):IxR X (fun x y H Q=> r x y H Q∨r' x y H Q):=by
 intro value slice pins s σ H x y v u Q I rx ry q hs
 rcases q with q | q
 ·exact h value slice pins s σ H x y v u Q I rx ry q hs
 ·exact h' value slice pins s σ H x y v u Q I rx ry q hs
theorem xR {r:R2} (hr:IxR X r) (ha:PE X a ta) (hb:PE X b tb) (hs:lL b):PE X (.Subscript a b pos) (tOp r ta tb):=by
 intro pins s σ H Q I h
 exact Subscript_ (yx ha hb I h fun v u s2 x y H2 I2 rx ry q=> hr a b pins s2 σ H2 x y v u Q I2 rx ry q (hs _ _))
def A1 (K:PySem.W.Frag):R2:=fun x y H Q=> ∃ p xs i v,x=.ref p∧y=.int i∧SqL K H p xs∧atI xs i=some v∧Q v H
def A0 (K:PySem.W.Frag):R2:=fun x y H Q=> ∃ p xs i v,x=.ref p∧y=.int i∧SqT K H p xs∧atI xs i=some v∧Q v H
theorem qz:IxR X (A1 X.K):=by
 intro value slice pins s σ H x y v u Q I rx ry h hs
 obtain ⟨p,xs,i,z,rfl,rfl,hq,he,q⟩:=h
 cases rx
 obtain ⟨t,rfl⟩:=ry
 obtain ⟨its,r,pl,hz⟩:=I.list hq
 obtain ⟨j,h1,h2,h3,h4,h5⟩:=qr he
 obtain ⟨w,ew,rw'⟩:=r.get h2
 have hl:=r.length
 have hn:=o_
 have fin:EP X pins σ Q w s:=⟨z,H,I,rw',q⟩
 by_cases h0:0≤i
 ·have hj:i.toNat=j:=by
   rw [seqIndex_of h0 h5] at h1
   exact Option.some.inj h1
  exact item_listR pl.isList h0 (by omega) (by rw [hj]; simpa using ew) fin hs
 ·have hj:(i+(its.toArray.size:Int)).toNat=j:=by
   rw [seqIndex_neg (by omega) h4] at h1
   rw [List.size_toArray,← hl]
   exact Option.some.inj h1
  exact subscriptTail_builtinR (x:=w) pl.isList.typeIs slot_list_getitem.lookup
   (wpAny_getItem_list_neg (Q:=fun r s'=> r=w∧EP X pins σ Q r s') pl.isList (by omega) (by rw [List.size_toArray] <;> omega) (by omega) (by rw [hj]; simpa using ew) ⟨rfl,fin⟩) hs
theorem zC:IxR X (A0 X.K):=by
 intro value slice pins s σ H x y v u Q I rx ry h hs
 obtain ⟨p,xs,i,z,rfl,rfl,hq,he,q⟩:=h
 cases rx
 obtain ⟨t,rfl⟩:=ry
 obtain ⟨its,r,pl,hz⟩:=I.tuple hq
 obtain ⟨j,h1,h2,h3,h4,h5⟩:=qr he
 obtain ⟨w,ew,rw'⟩:=r.get h2
 have hl:=r.length
 have hn:=o_
 have fin:EP X pins σ Q w s:=⟨z,H,I,rw',q⟩
 exact subscriptTail_builtinR (x:=w) pl.typeIs slot_tuple_getitem.lookup
  (getItem_tuple (j:=j) (Q:=fun r s'=> r=w∧EP X pins σ Q r s') pl (by omega) (by omega) (by rw [List.size_toArray,← hl]; exact h1) (by simpa using ew) ⟨rfl,fin⟩) hs
theorem kY (lo hi:Option Int) (n:Nat):(sliceBounds lo hi none n).1=((HT.sIx n 0 lo:Nat):Int)∧(sliceBounds lo hi none n).2.1=((HT.sIx n n hi:Nat):Int)∧(sliceBounds lo hi none n).2.2=1:=by
 refine ⟨?_,?_,rfl⟩
 ·cases lo with
  | none=> simp [sliceBounds,HT.sIx]
  | some i=>
   simp only [sliceBounds,HT.sIx,Option.getD_none,show (1:Int) > 0 by decide,if_true]
   by_cases h:i < 0
   ·simp only [h,if_true] <;> omega
   ·simp only [h,if_false] <;> omega
 ·cases hi with
  | none=> simp [sliceBounds,HT.sIx]
  | some i=>
   simp only [sliceBounds,HT.sIx,Option.getD_none,show (1:Int) > 0 by decide,if_true]
   by_cases h:i < 0
   ·simp only [h,if_true] <;> omega
   ·simp only [h,if_false] <;> omega
theorem jZ (its:List Value) (lo hi:Option Int):slicePick its.toArray lo hi none=((its.drop (HT.sIx its.length 0 lo)).take (HT.sIx its.length its.length hi - HT.sIx its.length 0 lo)).toArray:=by
 obtain ⟨h1,h2,h3⟩:=kY lo hi its.toArray.size
 unfold slicePick
 rw [h1,h2,h3]
 simp only [sliceRange_one,pick_run,List.size_toArray] <;> rfl
def AT (K:PySem.W.Frag):V→Option Int→Option Int→Hp→VK→Prop:=fun x lo hi H Q=> ∃ a xs,x=.ref a∧SqL K H a xs∧∀ p,H p=none→Q (.ref p) (upd H p (.lst (rL xs lo hi)))
theorem wF:SlR X (AT X.K):=by
 intro pins s σ H x v vl vu lo hi sl Q I rx hs pl pu h
 obtain ⟨a,xs,rfl,hx,q⟩:=h
 cases rx
 obtain ⟨its,r,ht,hz⟩:=I.list hx
 have hlen:=r.length
 refine ⟨"list",_,slot_list_getitem.lookup,ht.isList.typeIs,?_⟩
 refine wpAny_getItem_list_slice ht.isList hs pl pu .none (by simp) ?_ (by rw [List.size_toArray] <;> omega)
 rw [jZ,← hlen]
 refine ⟨.ref s.heap.objs.size,_,I.laid (t':=s.toks) (o:=.lst (rL xs lo hi)) (fun b ob q=> Heap.get?_push_of_some _ q) (Nat.le_refl _) ?_,rfl,q _ (I.hok.fresh (Nat.le_refl _))⟩
 exact ⟨Nat.le_trans (nM xs lo hi) hz,_,0,(r.drop (HT.sIx xs.length 0 lo)).take (HT.sIx xs.length xs.length hi - HT.sIx xs.length 0 lo),Heap.get?_push_size _ rfl⟩
def gw:V→Bool
 | .non=> true
 | .bl _=> true
 | .int _=> true
 | .str _=> true
 | _=> false
def eqV:V→V→Bool
 | .non,.non=> true
 | .bl a,.bl b=> a==b
 | .bl a,.int b=> (if a then 1 else 0)==b
 | .int a,.bl b=> a==(if b then 1 else 0)
 | .int a,.int b=> a==b
 | .str a,.str b=> a==b
 | _,_=> false
theorem zB {A:Around} {s:Shared} {y x:V} {u v:Value} (ry:aY y u) (rx:aY x v) (fy:gw y=true) (fx:gw x=true):SeqAt.EqAt A s u v (eqV y x):=by
 cases y with
 | non=>
  cases ry
  cases x with
  | non=> cases rx; exact SeqAt.EqAt.same _
  | bl b=> cases rx; exact SeqAt.EqAt.none_bool b
  | int b=> obtain ⟨t,rfl⟩:=rx; exact SeqAt.EqAt.none_int b t
  | str b=> obtain ⟨t,rfl⟩:=rx; exact SeqAt.EqAt.none_str b t
  | _=> exact absurd (show false=true from fx) Bool.false_ne_true
 | bl a=>
  cases ry
  cases x with
  | non=> cases rx; exact SeqAt.EqAt.bool_none a
  | bl b=> cases rx; exact SeqAt.EqAt.bool_bool a b
  | int b=> obtain ⟨t,rfl⟩:=rx; exact SeqAt.EqAt.bool_int a b t
  | str b=> obtain ⟨t,rfl⟩:=rx; exact SeqAt.EqAt.bool_str a b t
  | _=> exact absurd (show false=true from fx) Bool.false_ne_true
 | int a=>
  obtain ⟨t',rfl⟩:=ry
  cases x with
  | non=> cases rx; exact SeqAt.EqAt.int_none a t'
  | bl b=> cases rx; exact SeqAt.EqAt.int_bool a t' b
  | int b=> obtain ⟨t,rfl⟩:=rx; exact SeqAt.EqAt.int_int a t' b t
  | str b=> obtain ⟨t,rfl⟩:=rx; exact SeqAt.EqAt.int_str a t' b t
  | _=> exact absurd (show false=true from fx) Bool.false_ne_true
 | str a=>
  obtain ⟨t',rfl⟩:=ry
  cases x with
  | non=> cases rx; exact SeqAt.EqAt.str_none a t'
  | bl b=> cases rx; exact SeqAt.EqAt.str_bool a t' b
  | int b=> obtain ⟨t,rfl⟩:=rx; exact SeqAt.EqAt.str_int a t' b t
  | str b=> obtain ⟨t,rfl⟩:=rx; exact SeqAt.EqAt.str_str a t' b t
  | _=> exact absurd (show false=true from fx) Bool.false_ne_true
 | _=> exact absurd (show false=true from fy) Bool.false_ne_true
def eqU (x:V) (u:Value):Bool:=match u with
 | .none=> eqV .non x
 | .bool b=> eqV (.bl b) x
 | .int i _=> eqV (.int i) x
 | .str z _=> eqV (.str z) x
 | _=> false
theorem tw {x y:V} {u:Value} (r:aY y u) (f:gw y=true):eqU x u=eqV y x:=by
 cases y with
 | non=> cases r; rfl
 | bl b=> cases r; rfl
 | int i=> obtain ⟨t,rfl⟩:=r; rfl
 | str z=> obtain ⟨t,rfl⟩:=r; rfl
 | _=> exact absurd (show false=true from f) Bool.false_ne_true
theorem ll {x:V}:∀ {xs:List V} {us:List Value},aL xs us→xs.all gw=true→us.any (eqU x)=xs.any fun y=> eqV y x
 | _,_,.nil,_=> rfl
 | y::xs,u::us,.cons r t,f=> by
  rw [List.all_cons,Bool.and_eq_true] at f
  rw [List.any_cons,List.any_cons,tw r f.1,ll t f.2]
theorem jV {A:Around} {s:Shared} {x:V} {v:Value} (rx:aY x v) (fx:gw x=true):∀ {xs:List V} {us:List Value},aL xs us→xs.all gw=true→∀ u∈us,SeqAt.EqAt A s u v (eqU x u)
 | _,_,.nil,_=> fun u hu=> by cases hu
 | y::xs,u::us,.cons r t,f=> fun u' hu=> by
  rw [List.all_cons,Bool.and_eq_true] at f
  rcases List.mem_cons.mp hu with rfl | hu
  ·rw [tw r f.1]; exact zB r rx f.1 fx
  ·exact jV rx fx t f.2 u' hu
def inV (x:V) (xs:List V):Bool:=xs.any fun y=> eqV y x
def rIn (K:PySem.W.Frag) (neg:Bool):R2:=fun x y H Q=> ∃ p xs,y=.ref p∧(SqL K H p xs∨SqT K H p xs)∧gw x=true∧xs.all gw=true∧Q (.bl (if neg then !inV x xs else inV x xs)) H
theorem sN:OpR X (compareOp .In) (rIn X.K false):=by
 intro pins s σ H x y v u Q I rx ry h
 obtain ⟨p,xs,rfl,hq,fx,fs,q⟩:=h
 cases ry
 rcases hq with hq | hq
 ·obtain ⟨its,r,pl,hz⟩:=I.list hq
  refine SeqAt.in_listAt (eqU x) pl.isList (fun w hw=> jV rx fx r fs w (by simpa using hw)) ⟨.bl _,H,I,rfl,?_⟩
  rw [show its.toArray.any (eqU x)=its.any (eqU x) by simp,ll r fs]
  exact q
 ·obtain ⟨its,r,pl,hz⟩:=I.tuple hq
  refine SeqAt.in_tupleAt (eqU x) pl (fun w hw=> jV rx fx r fs w (by simpa using hw)) ⟨.bl _,H,I,rfl,?_⟩
  rw [show its.toArray.any (eqU x)=its.any (eqU x) by simp,ll r fs]
  exact q
theorem gR:eu X (.builtin "len") (fun xs H Q=> ∃ p ys,xs=[.ref p]∧(SqL X.K H p ys∨SqT X.K H p ys)∧Q (.int ys.length) H):=by
 intro pins s σ H xs us Q I r h
 obtain ⟨p,ys,rfl,hq,q⟩:=h
 obtain ⟨u,rfl,rx⟩:=fh r
 cases rx
 have hn:=o_
 rcases hq with hq | hq
 ·obtain ⟨its,r',pl,hz⟩:=I.list hq
  have hlen:=r'.length
  exact Calls.call_len_list pl.isList (by simp only [List.size_toArray] <;> omega) ⟨.int ys.length,H,I.tok _,⟨s.toks+1,by rw [List.size_toArray,hlen]⟩,q⟩
 ·obtain ⟨its,r',pl,hz⟩:=I.tuple hq
  have hlen:=r'.length
  exact len_tuple pl (by simp only [List.size_toArray] <;> omega) ⟨.int ys.length,H,I.tok _,⟨s.toks+1,by rw [List.size_toArray,hlen]⟩,q⟩
theorem ls:eu X (.type "list") (fun xs H Q=> ∃ p ys,xs=[.ref p]∧(SqL X.K H p ys∨SqT X.K H p ys)∧∀ l,H l=none→Q (.ref l) (upd H l (.lst ys))):=by
 intro pins s σ H xs us Q I r h
 obtain ⟨p,ys,rfl,hq,q⟩:=h
 obtain ⟨u,rfl,rx⟩:=fh r
 cases rx
 have fin:∀ (its:List Value),aL ys its→ys.length≤sizeLine→∀ (h':Heap) (c':Nat),(∀ b o',s.heap.get? b=some o'→h'.get? b=some o')→
   h'.get? s.heap.objs.size=some { cls:=.type "list",dict:=none,data:=.seq its.toArray c',slots:=#[] }→EP X pins σ Q (.ref s.heap.objs.size) { s with heap:=h' }:=fun its r' hz h' c' kp e=>
  ⟨.ref s.heap.objs.size,_,I.laid (t':=s.toks) kp (Nat.le_refl _) (show cu X.prog X.w _ h' _ (.lst ys) from ⟨hz,its,c',r',e⟩),rfl,q _ (I.hok.fresh (Nat.le_refl _))⟩
 rcases hq with hq | hq
 ·obtain ⟨its,r',pl,hz⟩:=I.list hq
  have hlen:=r'.length
  obtain ⟨o,ho,hc,n,hd⟩:=pl.isList
  exact call_list_seq p (.inl rfl) ho hc hd (fun h' c' kp e=> fin its r' hz h' c' kp e) (by simp only [List.size_toArray] <;> omega)
 ·obtain ⟨its,r',pl,hz⟩:=I.tuple hq
  have hlen:=r'.length
  obtain ⟨o,ho,hc,n,hd⟩:=pl
  exact call_list_seq p (.inr rfl) ho hc hd (fun h' c' kp e=> fin its r' hz h' c' kp e) (by simp only [List.size_toArray] <;> omega)
def tyV (K:PySem.W.Frag) (T:String) (x:V) (H:Hp):Prop:=match x with
 | .str _=> T="str"
 | .int _=> T="int"
 | .ref p=> (T="list"∧∃ xs,SqL K H p xs)∨(T="tuple"∧∃ o,K.lookup p=some o∧o.cls=.type "tuple"∧o.dict=none)∨
   (T="dict"∧((∃ kvs,H p=some (.dK kvs))∨∃ kvs,H p=some (.dT kvs)))∨(T="set"∧∃ S n,H p=some (.set S n))
 | _=> False
theorem uw {pins:List (Addr×Obj)} {σ:St} {H:Hp} {s:Shared} {T:String} {x:V} {v:Value} (I:Inv X pins σ H s) (r:aY x v) (ty:tyV X.K T x H):
  s.TypeIs v T∧∀ a,v=.ref a→∃ ob,s.heap.get? a=some ob∧ob.dict=none:=by
 cases x with
 | str z=>
  obtain ⟨t,rfl⟩:=r
  cases (show T="str" from ty)
  exact ⟨typeIs_str s z t,fun _ e=> nomatch e⟩
 | int i=>
  obtain ⟨t,rfl⟩:=r
  cases (show T="int" from ty)
  exact ⟨typeIs_int s i t,fun _ e=> nomatch e⟩
 | ref p=>
  cases r
  rcases ty with ⟨rfl,xs,hq⟩ | ⟨rfl,o,hk,hc,hd⟩ | ⟨rfl,hk⟩ | ⟨rfl,S,n,hk⟩
  ·obtain ⟨its,_,pl,_⟩:=I.list hq
   refine ⟨pl.isList.typeIs,fun a e=> ?_⟩
   cases e
   obtain ⟨o,n,e,c,hd,_⟩:=pl
   exact ⟨o,e,hd⟩
  ·refine ⟨⟨o,I.kIn p o hk,hc⟩,fun a e=> ?_⟩
   cases e
   exact ⟨o,I.kIn _ o hk,hd⟩
  ·have z:∃ o,s.heap.get? p=some o∧o.ExactDict:=by
    rcases hk with ⟨kvs,hk⟩ | ⟨kvs,hk⟩
    ·obtain ⟨_,_,_,_,o,_,_,e,ex,_⟩:=I.hok p _ hk
     exact ⟨o,e,ex⟩
    ·obtain ⟨_,_,_,_,o,_,_,e,ex,_⟩:=I.hok p _ hk
     exact ⟨o,e,ex⟩
   obtain ⟨o,e,ex⟩:=z
   refine ⟨⟨o,e,ex.1⟩,fun a e2=> ?_⟩
   cases e2
   exact ⟨o,e,ex.2.1⟩
  ·obtain ⟨o,_,_,_,e,ex,_⟩:=I.hok p _ hk
   refine ⟨⟨o,e,ex.1⟩,fun a e2=> ?_⟩
   cases e2
   exact ⟨o,e,ex.2.1⟩
 | _=> exact False.elim ty
def AW (K:PySem.W.Frag) (T:String) (r:V→List V→Hp→VK→Prop) (to:TE):TE:=fun σ H Q=> to σ H fun x H1=> tyV K T x H1∧r x [] H1 Q
def tBM (K:PySem.W.Frag) (T:String) (r:V→List V→Hp→VK→Prop) (to:TE) (t:TA):TE:=fun σ H Q=> to σ H fun x H1=> tyV K T x H1∧t σ H1 fun xs H2=> r x xs H2 Q
variable {o e:Expr} {es:List Expr} {to:TE} {t:TA} {name:Str} {apos cpos:Pos} {T id:String} {r:V→List V→Hp→VK→Prop}
theorem yJ (pa:PlainAttrs T) (slot:Slot T name id) (hty:typeOf (.builtin id)=pure (.type "method_descriptor")) (hm:MtR X id r) (ho:PE X o to)
  (hbase:attributeBase o name X.env (eval o X.env)=eval o X.env:=by rfl) (hline:(apos.endLine==cpos.line)=true:=by rfl):PE X (.Call (.Attribute o name apos) [] [] cpos) (AW X.K T r to):=by
 intro pins s σ H Q I h
 refine wpAny_Call_method0_late hbase hline (thn (ho pins s σ H _ I h) fun v s1 ⟨x,H1,I1,r1,ty,q1⟩=> ?_)
 obtain ⟨h1,h2⟩:=uw I1 r1 ty
 exact ⟨T,id,pa,slot,hty,h1,h2,Calls.callWith_builtin rfl (PySem.evalArgs_none (hm pins s1 σ H1 x [] v [] Q I1 r1 .nil q1))⟩
theorem xO (pa:PlainAttrs T) (slot:Slot T name id) (hty:typeOf (.builtin id)=pure (.type "method_descriptor")) (hm:MtR X id r) (ho:PE X o to) (ha:PA X (e::es) t)
  (hbase:attributeBase o name X.env (eval o X.env)=eval o X.env:=by rfl)
  (hfew:((backTo cpos (starEach (e::es) X.env)).all (fun x=> !x.1) && (backToKw cpos (keywordEach [] X.env)).all (fun x=> x.1.isSome)
   && decide ((e::es).length+([]:List Keyword).length+(if ([]:List Keyword).isEmpty then 0 else 1) < 30))=true:=by rfl)
  (hline:(apos.endLine==cpos.line)=true:=by rfl) (hs:starEach (e::es) X.env=(false,eval e X.env)::starEach es X.env:=by rfl) (hplain:(backTo cpos (starEach es X.env)).any (·.1)=false:=by rfl):
  PE X (.Call (.Attribute o name apos) (e::es) [] cpos) (tBM X.K T r to t):=by
 intro pins s σ H Q I h
 refine wpAny_Call_method_late hbase hfew hline rfl (thn (ho pins s σ H _ I h) fun v s1 ⟨x,H1,I1,r1,ty,q1⟩=> ?_)
 obtain ⟨h1,h2⟩:=uw I1 r1 ty
 refine ⟨T,id,pa,slot,hty,h1,h2,?_⟩
 have hA:=ha cpos pins s1 σ H1 _ I1 q1
 rw [hs] at hA ⊢
 refine Calls.callWith_builtin (by show (false || (backTo cpos (starEach es X.env)).any (·.1))=false; rw [hplain] <;> rfl) (Calls.evalArgs_plain ?_)
 exact thn hA fun us s2 ⟨vs,H2,I2,r2,q2⟩=> hm pins s2 σ H2 x vs v us Q I2 r1 r2 q2
/- xs.append(e),list.index on a module's tuple .. are MtR facts of 06m -/
end
end L2
namespace L2
open PySem PySem.Spec PyProof.Rows
def MtM (X:Cx) (id:String) (r:V→List V→Hp→VK→Prop):Prop:=
 ∀ (pins:List (Addr×Obj)) (s:Shared) (σ:St) (H:Hp) (x:V) (xs:List V) (v:Value) (us:List Value) (Q:VK),Inv X pins σ H s→aY x v→aL xs us→r x xs H Q→
  wpAny (model X.prog X.w) X.A (call (.builtin id) (v::us)) (EP X pins σ Q) X.xe s
theorem aL.one:∀ {x:V} {us:List Value},aL [x] us→∃ u,us=[u]∧aY x u
 | _,_,.cons r .nil=> ⟨_,rfl,r⟩
theorem aL.zero:∀ {us:List Value},aL [] us→us=[]
 | _,.nil=> rfl
theorem aL.dropLast {xs:List V} {us:List Value} (h:aL xs us):aL xs.dropLast us.dropLast:=by
 induction h with
 | nil=> exact .nil
 | cons r t ih=>
  cases t with
  | nil=> exact .nil
  | cons q t'=> exact .cons r ih
theorem oZ {α:Type} (l:List α):l.eraseIdx (l.length - 1)=l.dropLast:=by
 induction l with
 | nil=> rfl
 | cons a r ih=>
  cases r with
  | nil=> rfl
  | cons b r=>
   have e:(a::b::r).length - 1=((b::r).length - 1)+1:=by
    have h1:(a::b::r).length=r.length+2:=rfl
    have h2:(b::r).length=r.length+1:=rfl
    omega
   rw [e,List.eraseIdx_cons_succ,ih]
   all_goals rfl
section
variable {X:Cx} {pins:List (Addr×Obj)} {σ:St} {H:Hp} {s:Shared} {l b:Addr} {xs ys zs:List V}
theorem Inv.lset {its its':List Value} {n:Nat} {f:Array Value→Array Value} {t':Nat} (I:Inv X pins σ H s) (hH:H l=some (.lst xs))
  (e:s.heap.get? l=some { cls:=.type "list",data:=.seq its.toArray n }) (hf:f its.toArray=its'.toArray) (hv:aL ys its') (hz:ys.length≤sizeLine):
  Inv X pins σ (upd H l (.lst ys)) { s with heap:=s.heap.update l (Obj.mapSeq f),toks:=t' }:=by
 have q:=PySem.IsL.update e f
 rw [hf] at q
 refine I.write (x:=l) (e:=l) (by rw [hH]; exact trivial) (.inl rfl) (fun b' u hb hu=> (Heap.get?_update_other s.heap (Obj.mapSeq f) (Ne.symm hb)).trans hu) ⟨_,q⟩ ?_
 exact ⟨hz,its',_,hv,q⟩
theorem Inv.lnew {its:List Value} {t':Nat} (I:Inv X pins σ H s) (hv:aL ys its) (hz:ys.length≤sizeLine):
  Inv X pins σ (upd H s.heap.objs.size (.lst ys)) { s with heap:=s.heap.push { cls:=.type "list",data:=.seq its.toArray },toks:=t' }:=
 I.laid (fun _ _ q=> Heap.get?_push_of_some _ q) (Nat.le_refl _) ⟨hz,its,0,hv,Heap.get?_push_size _ rfl⟩
theorem Inv.fresh (I:Inv X pins σ H s):H s.heap.objs.size=none:=I.hok.fresh (Nat.le_refl _)
theorem Inv.lstM (I:Inv X pins σ H s) (hH:H l=some (.lst xs)):xs.length≤sizeLine∧∃ (its:List Value) (n:Nat),aL xs its∧xs.length=its.length∧s.heap.get? l=some { cls:=.type "list",data:=.seq its.toArray n }:=by
 obtain ⟨z,its,n,r,e⟩:=I.hok l _ hH
 exact ⟨z,its,n,r,r.length,e⟩
theorem tW {n:Nat} (h:n≤sizeLine):Builtin.List.listTooLong n=false:=by
 unfold Builtin.List.listTooLong
 exact decide_eq_false (by omega)
end
section
variable {X:Cx}
def wD:V→List V→Hp→VK→Prop:=fun x vs H Q=> ∃ l xs y,x=.ref l∧vs=[y]∧H l=some (.lst xs)∧xs.length < sizeLine∧Q .non (upd H l (.lst (xs++[y])))
theorem ip:MtM X "list.append" wD:=by
 intro pins s σ H x vs v us Q I rx rv h
 obtain ⟨l,xs,y,rfl,rfl,hH,hz,q⟩:=h
 cases rx
 obtain ⟨u,rfl,ru⟩:=rv.one
 obtain ⟨z,its,n,r,hl,e⟩:=I.lstM hH
 refine call_meets F.slot_list_append ⟨_,e,rfl⟩ F.entry_list_append (F.args_list_append_2 _ _) (PySem.list_append l its.toArray n u (by rw [List.size_toArray]; omega)) ⟨e,?_⟩
 refine ⟨.non,_,I.lset (its':=its++[u]) hH e (by simp) (r.append (.cons ru .nil)) ?_,rfl,q⟩
 rw [List.length_append,List.length_singleton]
 omega
def wc:V→List V→Hp→VK→Prop:=fun x vs H Q=> ∃ l b xs zs,x=.ref l∧vs=[.ref b]∧H l=some (.lst xs)∧H b=some (.lst zs)∧xs.length+zs.length≤sizeLine∧Q .non (upd H l (.lst (xs++zs)))
theorem sD:MtM X "list.extend" wc:=by
 intro pins s σ H x vs v us Q I rx rv h
 obtain ⟨l,b,xs,zs,rfl,rfl,hH,hB,hz,q⟩:=h
 cases rx
 obtain ⟨u,rfl,ru⟩:=rv.one
 cases ru
 obtain ⟨z,its,n,r,hl,e⟩:=I.lstM hH
 obtain ⟨z2,its2,n2,r2,hl2,e2⟩:=I.lstM hB
 have hsz:its.toArray.size+its2.toArray.size≤sizeLine:=by rw [List.size_toArray,List.size_toArray]; omega
 have hlong:¬ (!its.toArray.isEmpty && Builtin.List.listTooLong (its.toArray.size+its2.toArray.size))=true:=by
  rw [tW hsz,Bool.and_false]
  exact Bool.false_ne_true
 refine call_meets F.slot_list_extend ⟨_,e,rfl⟩ F.entry_list_extend (F.args_list_extend_2 _ _)
  (AutoSeq1.list_extend_list_list_0 l its.toArray n b its2.toArray n2 hlong (by rw [List.size_toArray]; omega) (by omega)) ⟨e,e2,?_⟩
 refine ⟨.non,_,I.lset (its':=its++its2) hH e (by simp) (r.append r2) ?_,rfl,q⟩
 rw [List.length_append]
 omega
def AM:V→List V→Hp→VK→Prop:=fun x vs H Q=> ∃ l xs y,x=.ref l∧vs=[]∧H l=some (.lst xs)∧xs[xs.length - 1]?=some y∧Q y (upd H l (.lst xs.dropLast))
theorem zh:MtM X "list.pop" AM:=by
 intro pins s σ H x vs v us Q I rx rv h
 obtain ⟨l,xs,y,rfl,rfl,hH,hy,q⟩:=h
 cases rx
 have hus:=rv.zero
 subst hus
 obtain ⟨z,its,n,r,hl,e⟩:=I.lstM hH
 obtain ⟨u,hu,ru⟩:=r.get hy
 have hy':its.toArray[its.toArray.size - 1]?=some u:=by
  show its.toArray[its.length - 1]?=some u
  rw [← Array.getElem?_toList,← hl]
  exact hu
 refine call_meets F.slot_list_pop ⟨_,e,rfl⟩ F.entry_list_pop (F.args_list_pop_1 _) (MeetsSeq.list_pop_last l its.toArray n u hy' (by rw [List.size_toArray]; omega)) ⟨e,?_⟩
 refine ⟨y,_,I.lset (its':=its.dropLast) hH e ?_ r.dropLast ?_,ru,q⟩
 ·show its.toArray.eraseIdxIfInBounds (its.toArray.size - 1)=its.dropLast.toArray
  rw [List.size_toArray,List.eraseIdxIfInBounds_toArray,oZ]
 ·rw [List.length_dropLast]
  omega
def AO:R2:=fun x y H Q=> ∃ l b xs zs,x=.ref l∧y=.ref b∧H l=some (.lst xs)∧H b=some (.lst zs)∧xs.length+zs.length≤sizeLine∧∀ p,H p=none→Q (.ref p) (upd H p (.lst (xs++zs)))
theorem zI:OpR X (binaryOp .Add) AO:=by
 intro pins s σ H x y v u Q I rx ry h
 obtain ⟨l,b,xs,zs,rfl,rfl,hH,hB,hz,q⟩:=h
 cases rx
 cases ry
 obtain ⟨z,its,n,r,hl,e⟩:=I.lstM hH
 obtain ⟨z2,its2,n2,r2,hl2,e2⟩:=I.lstM hB
 refine PySem.P.add_list e e2 ?_ (by rw [List.size_toArray,List.size_toArray]; omega)
 have ea:its.toArray++its2.toArray=(its++its2).toArray:=by simp
 rw [ea]
 exact ⟨.ref _,_,I.lnew (t':=s.toks) (r.append r2) (by rw [List.length_append]; omega),rfl,q _ I.fresh⟩
end
section
variable {prog:Program} {w:World} {A:Around} {E:Value→Shared→Prop} {s:Shared}
end
section
variable {X:Cx}
end
end L2
namespace Att
open PySem PySem.W PySem.Calls PyProof.Rows
theorem iJ {P:Params} {h:Heap}:∀ (ns:List Int) (vs:List Value),WellAll P h vs (ns.map WData.int)→IntsAre vs ns:=by
 intro ns
 induction ns with
 | nil=>
  intro vs w
  rw [List.map_nil] at w
  cases w
  exact .nil
 | cons n ns ih=>
  intro vs w
  rw [List.map_cons] at w
  cases w with
  | cons a b=>
   cases a
   exact .cons _ _ (ih _ b)
theorem script_of {l:OpenLaw} {n:Nat} (hn:l.most=some n) {P:Params} {h:Heap} {args:List WData} {vals:List Value}
  (hpre:l.row.toRowW.claim.pre args=true) (hwl:WellAll P h vals args):
  ∃ a vs ns,vals=[Value.ref a]∧args=[WData.list (ns.map WData.int)]∧h.get? a=some { cls:=.type "list",data:=.seq vs.toArray }∧IntsAre vs ns∧ns.length≤n:=by
 have hsh:WShape.hasAll [] args [.list .int]=true:=(pre_splitW hpre).1
 have hc:l.pre.holds [] { args:=args }=true:=(pre_splitW hpre).2
 obtain ⟨d,r,rfl,h1,h2⟩:=hasAllW_cons hsh
 obtain rfl:=hasAllW_nil h2
 obtain ⟨xs,rfl,h3⟩:=hasW_list h1
 obtain ⟨ns,rfl⟩:=items_int h3
 have hlen:ns.length≤n:=by
  unfold OpenLaw.pre at hc
  have h4:(WTm.not (.lt (.lit (.int (n:Int))) (.len (.arg 0)))).holds [] { args:=[.list (ns.map .int)] }=true:=by
   have h4:=(holds_andW hc).1
   rw [hn] at h4
   exact h4
  have h5:=condW_of h4 (w_not (w_lt w_lit (w_len_list (w_arg rfl))))
  rw [List.length_map] at h5
  refine Nat.le_of_not_lt fun q=> ?_
  have q':(n:Int) < ((ns.length:Nat):Int):=by omega
  first
   | (rw [decide_eq_true q'] at h5; exact absurd h5 (by decide))
   | (simp at h5; omega)
 cases hwl with
 | cons w1 w2=>
  cases w2
  cases w1 with
  | list ho hall=> exact ⟨_,_,ns,rfl,rfl,ho,iJ ns _ hall,hlen⟩
theorem post_true (l:OpenLaw) (args:List WData):l.row.toRowW.claim.post args (.bool true) args=true:=
 postW_of (r:=l.row.toRowW) (X:=(true==true))
  (show WShape.has [] (.bool true) .bool=true by first | rfl | decide | simp [WShape.has,WShape.arms,WShape.armsAll])
  (show (WTm.eq .res (.lit (.bool true))).value [] { args:=args,res:=some (.bool true),after:=args }=some (.bool (true==true)) from w_eq_bool (w_res rfl) w_lit) rfl
section
variable {prog:Program} {w:World} {A:Around} {E:Value→Shared→Prop} {s:Shared} {K:Frag}
end
end Att
namespace L2
open PySem PySem.Spec PyProof.Rows
theorem ke:∀ {vs:List Value} {ns:List Int},IntsAre vs ns→aL (ns.map V.int) vs
 | _,_,.nil=> .nil
 | _,_,.cons n t h=> .cons ⟨t,rfl⟩ (ke h)
def ww (H:Hp):Prop:=∀ b,H b=none∨∃ o xs,H b=some (.frz o (.lst xs))
theorem v3 {P:Program} {w:World} {K:PySem.W.Frag} {mg mb:Str→Option Value} {CX:CXT} {k:Nat} {fa a:Addr} {fd:FuncData} {x:Str} {sp:Sp} {s₁:Shared} {vs:List Value} {ns:List Int}
  (KX:K.In s₁.heap) (hns:s₁.heap.Ns mainGlobals mg) (hb:s₁.heap.Ns builtinsNs mb) (hbb:∀ x:Str,x≠"__name__"→mb x=bootBuiltins x) (hlim:s₁.heap.NoLimit) (hg:s₁.gens=#[])
  (ha:s₁.heap.get? a=some { cls:=.type "list",data:=.seq vs.toArray }) (hi:IntsAre vs ns) (hl:ns.length≤sizeLine) (hr:dR k callerA)
  (F:∀ base:Heap,K.In base→base.Ns mainGlobals mg→aX P w K mg base CX k fa fd [x] sp) (hbind:∀ (s:Shared) (u:Value),BindsTo s fd ⟨[u],[]⟩ [(x,u)])
  (hsp:∀ H:Hp,ww H→SqL K H a (ns.map V.int)→sp [.ref a] H (fun v _=> v=.bl true) fun _ _ _=> False)
  (hCX:∀ H e s',CX [] H s₁ (fun _ _ _=> False) e s'→False):
  codeAny (model P w) callerA (.call (.ref fa) ⟨[.ref a],[]⟩) (fun r s'=> r=.ok (.ret (.bool true))∧OldK s₁.heap s'.heap∧s'.os=s₁.os∧AllBare s'.gens) s₁:=by
 have rv:=ke hi
 have lenV:=hi.length
 have core:∀ H:Hp,ww H→SqL K H a (ns.map V.int)→HOk P w H s₁.heap→(∀ b,H b≠none→b=a)→(H a≠none→K.lookup a=none)→
   codeAny (model P w) callerA (.call (.ref fa) ⟨[.ref a],[]⟩) (fun r s'=> r=.ok (.ret (.bool true))∧OldK s₁.heap s'.heap∧s'.os=s₁.os∧AllBare s'.gens) s₁:=by
  intro H hO hS hok hA hK
  have base_of:∀ {b:Addr} {o:Obj},s₁.heap.get? b=some o→H b=none→(lq s₁.heap H).get? b=some o:=fun e n=> vI e n
  have noA:∀ {b:Addr} {o:Obj} {es:Array DictEntry} {ep:Nat},s₁.heap.get? b=some o→o.data=.dict es ep→H b=none:=fun {b o es ep} e d=> by
   cases q:H b with
   | none=> rfl
   | some u=>
    have e':b=a:=hA b (by rw [q]; simp)
    subst e'
    rw [ha] at e; cases e
    have d':Data.seq vs.toArray _=Data.dict es ep:=d
    cases d'
  have nsK:∀ {b:Addr} {m:Str→Option Value},s₁.heap.Ns b m→(lq s₁.heap H).Ns b m:=fun {b m} ⟨o,es,ep,e,d,r⟩=> ⟨o,es,ep,base_of e (noA e d),d,r⟩
  have hKb:K.In (lq s₁.heap H):=fun b o e=> base_of (KX b o e) (by
   cases q:H b with
   | none=> rfl
   | some u=>
    have e':b=a:=hA b (by rw [q]; simp)
    subst e'
    rw [hK (by rw [q]; simp)] at e; cases e)
  have hM:Mod K mg (lq s₁.heap H):=⟨hKb,nsK hns,⟨mb,nsK hb,hbb⟩,let ⟨mc,h1,h2⟩:=hlim; ⟨mc,nsK h1,h2⟩⟩
  have e0:wT P w K mg (lq s₁.heap H) callerA [] s₁ H:=⟨rfl,hM,fun b o e=> wt e,Nat.le_of_eq (rO _ _),trivial,fun b hb=> absurd (show b∈([]:List Addr) from hb) (by simp),hok,.of_eq hg⟩
  refine codeAny_mono ((F _ hKb (nsK hns)).run callerA [] s₁ H ⟨[.ref a],[]⟩ [.ref a] [.ref a] _ _ hr e0 (hbind s₁ (.ref a)) (.cons rfl .nil) (hsp H hO hS)) fun r s' h=> ?_
  cases r with
  | error e=> exact (hCX H e s' h).elim
  | ok fl=>
   cases fl with
   | next=> exact False.elim h
   | brk=> exact False.elim h
   | cont=> exact False.elim h
   | ret u=>
    obtain ⟨v,H',os,bare,un,hok',r',q⟩:=h
    have q':v=.bl true:=q
    subst q'
    obtain rfl:u=Value.bool true:=r'
    refine ⟨rfl,OldK.of_keep fun b o e=> ?_,os,bare⟩
    cases q:H b with
    | none=> exact un.keep b o e q (by intro z; exact absurd (show b∈([]:List Addr) from z) (by simp)) (by simp)
    | some u=>
     rcases hO b with z | ⟨ob,xs,z⟩
     ·rw [q] at z; cases z
     ·have z2:=un.frzs b ob _ z
      obtain ⟨e1,_⟩:=hok b _ z
      obtain ⟨e2,_⟩:=hok' b _ z2
      rw [e] at e1; cases e1
      exact e2
 cases hk:K.lookup a with
 | some o=>
  have e:=KX a o hk
  rw [ha] at e
  cases e
  refine core (fun _=> none) (fun _=> .inl rfl) (.inr ⟨_,vs.toArray,_,hk,rfl,rfl,rfl,by rw [List.size_toArray,lenV]; exact hl,by simpa using rv⟩) (fun b u z=> by have z':(none:Option HO)=some u:=z; cases z') (fun b z=> absurd rfl z) fun z=> absurd rfl z
 | none=>
  refine core (fun b=> if b=a then some (.frz { cls:=.type "list",data:=.seq vs.toArray } (.lst (ns.map V.int))) else none) (fun b=> ?_) (.inl (.inr ⟨{ cls:=.type "list",data:=.seq vs.toArray },if_pos rfl⟩)) (fun b u z=> ?_) (fun b z=> ?_) fun _=> hk
  ·by_cases hb:b=a
   ·exact .inr ⟨_,_,if_pos hb⟩
   ·exact .inl (if_neg hb)
  ·by_cases hb:b=a
   ·have z':=(if_pos hb).symm.trans z
    cases z'
    subst hb
    exact ⟨ha,by rw [List.length_map]; exact hl,vs,_,rv,ha⟩
   ·have z':=(if_neg hb).symm.trans z
    cases z'
  ·by_cases hb:b=a
   ·exact hb
   ·exact absurd (if_neg hb) z
end L2
namespace L2
open PySem PySem.Spec PyProof.Rows
abbrev KOf {K:PySem.W.Frag} {h:Heap} (_:K.In h):PySem.W.Frag:=K
end L2
/- THE LAST THEOREM (shape; LID,My.* are yours):
   My.Adr:a structure of the addresses that your layer names (classes,functions); My.Txt K t:a structure (Prop) of the equations over K;
   My.txt_mk:{K} {implicit addresses ..} (e1:nsIn K mainGlobals "law"=some (some (.ref f))) (e2:K.lookup f=some ⟨oc,od,.func (fnOf "law" "law" params body scope dV kV doc pm an cdv ct),sl⟩) (e3:codeIn K cdv "law"=true) ..:∃ t,My.Txt K t
set_option maxRecDepth 100000 in
set_option maxHeartbeats 0 in
theorem PySem.Challenge.cw_LID_holds : PySem.Challenge.rw_LID.Holds := by
 w_on; o_law; k_head; (case hw=> w_witness2)
 k_fill
 refine L2.walk_of (l:=PySem.Challenge.rw_LID) (n:=63) (k:=40) (x:="script") (CX:=fun w=> ..) (sp:=fun _=> My.sp_law) rfl (by decide) rfl ⟨rfl,by decide,by decide⟩ (fun w h Y=> PySem.W.kIn_of Y) ?F ?S ?C
 case F=>
  intro w mg fa h KX G hmg
  have T:∃ t,My.Txt (L2.KOf KX) t:=by
   dsimp only [L2.KOf]                          -- K must stand as «<heap const> w.params» for k_is
   refine' My.txt_mk ?e1 ?e2 ?e3 ..
   (case e1=> PySem.W.k_is)                    -- in the order:a name -> its address -> its object -> its parts
   (case e2=> PySem.W.k_is)
   ..
  obtain ⟨t,T⟩:=T
  have e0:=hmg.symm.trans (PySem.W.mg_of KX G T.law)
  cases e0                                       -- fa is the law's own address
  exact ⟨_,fun s u=> .of_eq rfl,fun base kb nb=> My.law_fn T kb nb⟩     -- if «.of_eq rfl» comes too early:refine' ⟨_,?b,fun base kb nb=> My.law_fn T kb nb⟩; exact fun s u=> .of_eq rfl
 case S=> exact fun w H a ns hl hO hS=> ..
 case C=> exact ..
(the tactic k_is has no namespace:write k_is) -/
namespace L2
open PySem PySem.Spec PyProof.Rows
def au (s:Stmt):Arguments:=match s with
 | .FunctionDef _ a _ _ _ _ _ _ _ _=> a
 | _=> { posonlyargs:=[],args:=[],vararg:=none,kwonlyargs:=[],kw_defaults:=[],kwarg:=none,defaults:=[] }
def aq (s:Stmt):List Stmt:=match s with
 | .FunctionDef _ _ b _ _ _ _ _ _ _=> b
 | _=> []
def ah (s:Stmt):Scope:=match s with
 | .FunctionDef _ _ _ _ _ _ sc _ _ _=> sc
 | _=> { kind:=.function,names:=[],isGenerator:=false,isCoroutine:=false }
abbrev CX0:CXT:=fun _ _ _ _ _ _=> False
abbrev E0:XK:=fun _ _ _=> False
structure Fun (K:PySem.W.Frag) (x qual:Str) (st:Stmt) (f:Addr) (fd:FuncData):Prop where
 ex:∃ (oc:Value) (od:Option Addr) (kV doc pm:Value) (an:Option Addr) (cdv ct:Value) (osl:Array (Option Value)),
  fd=PySem.W.fnOf x qual (au st) (aq st) (ah st) .none kV doc pm an cdv ct∧K.lookup f=some ⟨oc,od,.func fd,osl⟩∧PySem.W.codeIn K cdv qual=true
 kp:PySem.W.keepIn K (.ref f)=true
section
variable {P:Program} {w:World} {K:PySem.W.Frag} {mg:Str→Option Value} {base:Heap}
theorem Fun.binds {x qual:Str} {st:Stmt} {f:Addr} {fd:FuncData} {ps:List Str} (F:Fun K x qual st f fd)
  (h:∀ (kV doc pm:Value) (an:Option Addr) (cdv ct:Value) (us:List Value),us.length=ps.length→bindArgs (PySem.W.fnOf x qual (au st) (aq st) (ah st) .none kV doc pm an cdv ct) ⟨us,[]⟩=pure (ps.zip us)):aK K fd ps []:=by
 obtain ⟨oc,od,kV,doc,pm,an,cdv,ct,osl,rfl,lk,hcd⟩:=F.ex
 exact .all (h kV doc pm an cdv ct)
theorem aO {x qual:Str} {st:Stmt} {f:Addr} {oc:Value} {od an:Option Addr} {osl:Array (Option Value)} {kV doc pm cdv ct:Value} (l:K.lookup f=some ⟨oc,od,.func (PySem.W.fnOf x qual (au st) (aq st) (ah st) .none kV doc pm an cdv ct),osl⟩)
  (c:PySem.W.codeIn K cdv qual=true) (k:PySem.W.keepIn K (.ref f)=true):Fun K x qual st f (PySem.W.fnOf x qual (au st) (aq st) (ah st) .none kV doc pm an cdv ct):=⟨⟨oc,od,kV,doc,pm,an,cdv,ct,osl,rfl,l,c⟩,k⟩
end
theorem aI {n:Nat} (h:n≤1000):n < sizeLine:=Nat.lt_of_le_of_lt h (by decide)
section
variable {X:Cx}
end
theorem sH {A B:Prop} (h:B):if false=true then A else B:=by
 rw [if_neg Bool.false_ne_true]
 exact h
theorem rG {A B:Prop} (h:A):if true=true then A else B:=by
 rw [if_pos rfl]
 exact h
def aJ (H H':Hp):Prop:=∀ b o,H b=some o→H' b=some o
theorem aJ.refl (H:Hp):aJ H H:=fun _ _ h=> h
theorem aJ.trans {H H1 H2:Hp} (a:aJ H H1) (b:aJ H1 H2):aJ H H2:=fun c o h=> b c o (a c o h)
theorem aJ.free {H H':Hp} (e:aJ H H') {l:Addr} (h:H' l=Option.none):H l=Option.none:=by
 cases q:H l with
 | none=> rfl
 | some o=>
  rw [e l o q] at h
  cases h
theorem aJ.seq {K:PySem.W.Frag} {H H':Hp} {a:Addr} {xs:List V} (e:aJ H H') (h:SqL K H a xs):SqL K H' a xs:=by
 rcases h with (h | ⟨o,h⟩) | h
 ·exact .inl (.inl (e _ _ h))
 ·exact .inl (.inr ⟨o,e _ _ h⟩)
 ·exact .inr h
end L2
namespace L2
open PySem PySem.Spec PyProof.Rows
def Sz (m:Nat) (x:Int):Prop:=x.natAbs < 2 ^ m
theorem Sz.mono {m n:Nat} {x:Int} (h:Sz m x) (hmn:m≤n):Sz n x:=Nat.lt_of_lt_of_le h (Nat.pow_le_pow_right (by decide) hmn)
theorem Sz.neg {m:Nat} {x:Int} (h:Sz m x):Sz m (-x):=by unfold Sz at *; rw [Int.natAbs_neg]; exact h
theorem Sz.add {m:Nat} {x y:Int} (hx:Sz m x) (hy:Sz m y):Sz (m+1) (x+y):=by
 unfold Sz at *
 have:=Int.natAbs_add_le x y
 rw [Nat.pow_succ]; omega
theorem Sz.sub {m:Nat} {x y:Int} (hx:Sz m x) (hy:Sz m y):Sz (m+1) (x - y):=by
 rw [Int.sub_eq_add_neg]; exact hx.add hy.neg
theorem Sz.mul {m n:Nat} {x y:Int} (hx:Sz m x) (hy:Sz n y):Sz (m+n) (x * y):=by
 unfold Sz at *
 rw [Int.natAbs_mul,Nat.pow_add]
 exact Nat.mul_lt_mul'' hx hy
theorem Sz.le {m:Nat} {x y:Int} (h:x.natAbs≤y.natAbs) (hy:Sz m y):Sz m x:=Nat.lt_of_le_of_lt h hy
theorem Sz.ediv {m:Nat} {x y:Int} (hx:Sz m x):Sz m (x / y):=Sz.le (Int.natAbs_ediv_le_natAbs x y) hx
theorem Sz.abs {m:Nat} {x:Int} (hx:Sz m x):Sz m (if x < 0 then -x else x):=by split; exact hx.neg; exact hx
instance (m:Nat) (x:Int):Decidable (Sz m x):=inferInstanceAs (Decidable (x.natAbs < 2 ^ m))
theorem Sz.add' {m n:Nat} {x y:Int} (hx:Sz m x) (hy:Sz n y):Sz (max m n+1) (x+y):=(hx.mono (Nat.le_max_left m n)).add (hy.mono (Nat.le_max_right m n))
theorem Sz.sub' {m n:Nat} {x y:Int} (hx:Sz m x) (hy:Sz n y):Sz (max m n+1) (x - y):=(hx.mono (Nat.le_max_left m n)).sub (hy.mono (Nat.le_max_right m n))
theorem Sz.lit {m:Nat} {x:Int} (h:Sz m x):Sz m x:=h
theorem Sz.ok {m n:Nat} {x y:Int} (hx:Sz m x) (hy:Sz n y) (h:m+n≤134217728):IntMulOk x y:=
 PyProof.Rows.mulOk_of_bits (intBits_le_iff.mpr hx) (intBits_le_iff.mpr hy) h
theorem Sz.log {m:Nat} {x:Int} (h:Sz m x) (hm:m≤9000) (h0:x≠0):x.natAbs.log2 < 9000:=by
 have q:=(Nat.log2_lt (by omega)).mpr (show x.natAbs < 2 ^ m from h)
 omega
def yc (_ j:Int):Prop:=0 < j∧Sz 9000 j
def xZ (_ j:Int):Prop:=j≠0∧Sz 9000 j
section
variable {X:Cx} {a b c:Expr} {ta tb tc:TE} {pos:Pos}
theorem wa:OpR X (binaryOp .Mult) (rI IntMulOk fun i j=> .int (i * j)):=opI fun _ _ _ _ _ _ _ hc q=> mul_int q hc
theorem uA:OpR X (binaryOp .FloorDiv) (rI yc fun i j=> .int (i / j)):=opI fun i j _ _ _ _ _ hc q=> by
 have h1:(0:Int) < j:=hc.1
 exact floordiv_int (by omega) (by rw [Int.fdiv_eq_ediv_of_nonneg i (by omega)]; exact q) (.inl (PyProof.noPylong_of_log2 (hc.2.log (by decide) (by omega))))
theorem tD:OpR X (binaryOp .FloorDiv) (rI xZ fun i j=> .int (i.fdiv j)):=opI fun i j _ _ _ _ _ hc q=>
 floordiv_int hc.1 q (.inl (PyProof.noPylong_of_log2 (hc.2.log (by decide) hc.1)))
theorem Au {x:Str} {n:String} {pos:Pos} (hg:Gl X x) (hm:X.mg x=none) (hv:bootBuiltins x=some (.type n)) (hn:x≠"__name__":=by decide) (hd:(x==("__debug__":Str))=false:=by decide):PE X (.Name x pos) (tC (.ty n)):=
 wv hg hm hv rfl hn hd
end
section
variable {X:Cx}
end
theorem kit_int_int (K:PySem.W.Frag):PySem.W.kitOne K (.type "int") (.type "int")=some true:=rfl
theorem kit_int_bool (K:PySem.W.Frag):PySem.W.kitOne K (.type "int") (.type "bool")=some false:=rfl
theorem kit_bool_int (K:PySem.W.Frag):PySem.W.kitOne K (.type "bool") (.type "int")=some true:=rfl
theorem kit_tuple_tuple (K:PySem.W.Frag):PySem.W.kitOne K (.type "tuple") (.type "tuple")=some true:=rfl
theorem kit_list_list (K:PySem.W.Frag):PySem.W.kitOne K (.type "list") (.type "list")=some true:=rfl
theorem kit_list_tuple (K:PySem.W.Frag):PySem.W.kitOne K (.type "list") (.type "tuple")=some false:=rfl
section
variable {X:Cx} {tg:Expr}
end
theorem aW {H:Hp} {p:Addr} (h:H p=none) (o:HO):aJ H (upd H p o):=fun b u q=> by rw [a_ (cB q h)]; exact q
theorem aJ.put {H H':Hp} {l:Addr} (e:aJ H H') (h:H l=none) (o:HO):aJ H (upd H' l o):=fun b u q=> by rw [a_ (cB q h)]; exact e b u q
theorem aJ.tup {K:PySem.W.Frag} {H H':Hp} {a:Addr} {xs:List V} (e:aJ H H') (h:SqT K H a xs):SqT K H' a xs:=by
 rcases h with (h | ⟨o,h⟩) | h
 ·exact .inl (.inl (e _ _ h))
 ·exact .inl (.inr ⟨o,e _ _ h⟩)
 ·exact .inr h
end L2
namespace L2
open PySem PySem.W PySem.Calls PySem.Spec PyProof.Rows
theorem mm {ns:List Int} (h:WData.layableAll [WData.list (ns.map WData.int)]=true):∀ n∈ns,Sz 1048576 n:=by
 intro n hn
 have h1:=(PySem.W.layableW_arg h) _ (List.mem_singleton.mpr rfl)
 have h2:=PySem.W.layableW_item h1 (WData.int n) (List.mem_map.mpr ⟨n,hn,rfl⟩)
 have h3:=(PySem.W.layableW_iff.mp h2).2.2
 have h4:Builtin.Int.intBits n≤1048576:=by simpa only [WData.weight,Builtin.Int.intBits] using h3
 exact intBits_le_iff.mp h4
theorem kT {l:PySem.W.OpenLaw} {n:Nat} {q:Program} {loose:List Str} {XP:(Str→Option Value)→Heap→Prop} {YP:World→Heap→Prop} {d:DefRec}
  (hn:l.most=some n) (hdf:d.params.defaults=[])
  (call:∀ (w:World) (s₀ s₁:Shared) (mg mb:Str→Option Value) (fa:Addr) (o:Obj) (pm cd doc:Value) (a:Addr) (vs:List Value) (ns:List Int),
   PySem.W.Ground q loose [] XP w s₀ mg mb s₁.heap→YP w s₁.heap→
   s₁.heap.get? fa=some o→o.data=.func (docDef d.name d.params d.body d.scope pm cd doc)→s₁.heap.CodeRec cd d.name→mg d.name=some (.ref fa)→
   s₁.heap.get? a=some { cls:=.type "list",data:=.seq vs.toArray }→IntsAre vs ns→ns.length≤n→(∀ m∈ns,Sz 1048576 m)→s₁.gens=#[]→
   codeAny (model l.prog w) callerA (.call (.ref fa) ⟨[.ref a],[]⟩) (fun r s'=> r=.ok (.ret (.bool true))∧OldK s₁.heap s'.heap∧s'.os=s₁.os∧AllBare s'.gens) s₁):
  PySem.W.WalkO q loose XP YP l.row.toRowW d [] (fun f vs=> PySem.call f vs):=by
 intro w s₀ s₁ mg mb G Y fa o pm cd doc dV kV ho hd hcd hD hmg hg args vals as hpre hlay hrd hwl hlo
 obtain rfl:dV=.none:=PySem.W.Dflts.none hD hdf
 obtain rfl:kV=.none:=PySem.W.Dflts.noKw hD
 obtain ⟨a,vs,ns,rfl,rfl,hobj,hints,hlen⟩:=Att.script_of hn hpre hwl
 refine PySem.W.enter_call (codeAny_mono (call w s₀ s₁ mg mb fa o pm cd doc a vs ns G Y ho (PySem.W.fd_plain hd) hcd hmg hobj hints hlen (mm hlay) hg) fun r s' hq=> ?_)
 obtain ⟨rfl,h2,h3,h4⟩:=hq
 exact ⟨.inl ⟨.bool true,.bool true,[],rfl,fun _=> rfl,.bool true,Att.post_true l _,fun _=> ⟨List.Pairwise.nil,fun _ hm=> (nomatch hm)⟩⟩,h2,h3,h4⟩
theorem walk_ofB {l:PySem.W.OpenLaw} {n k:Nat} {q:Program} {loose:List Str} {XP:(Str→Option Value)→Heap→Prop} {YP:World→Heap→Prop} {d:DefRec} {K:Params→PySem.W.Frag} {CX:CXT} {sp:PySem.W.Frag→Sp} {x:Str}
  (hn:l.most=some n) (hn2:n≤sizeLine) (hdf:d.params.defaults=[]) (hr:dR k callerA)
  (hY:∀ (w:World) (h:Heap),YP w h→(K w.params).In h)
  (F:∀ (w:World) (mg:Str→Option Value) (fa:Addr) (h:Heap),(K w.params).In h→h.Ns mainGlobals mg→mg d.name=some (.ref fa)→
   ∃ fd:FuncData,(∀ (s:Shared) (u:Value),BindsTo s fd ⟨[u],[]⟩ [(x,u)])∧
    ∀ base:Heap,(K w.params).In base→base.Ns mainGlobals mg→aX l.prog w (K w.params) mg base CX k fa fd [x] (sp (K w.params)))
  (hsp:∀ (K:PySem.W.Frag) (H:Hp) (a:Addr) (ns:List Int),ns.length≤n→(∀ m∈ns,Sz 1048576 m)→ww H→SqL K H a (ns.map V.int)→sp K [.ref a] H (fun v _=> v=.bl true) fun _ _ _=> False)
  (hCX:∀ (H:Hp) (s:Shared) (e:Value) (s':Shared),CX [] H s (fun _ _ _=> False) e s'→False):
  PySem.W.WalkO q loose XP YP l.row.toRowW d [] (fun f vs=> PySem.call f vs):=by
 refine kT hn hdf fun w s₀ s₁ mg mb fa o pm cd doc a vs ns G Y ho hd hcd hmg hobj hints hlen hbits hg=> ?_
 have KX:=hY w _ Y
 obtain ⟨fd,hb,hF⟩:=F w mg fa _ KX G.T.g hmg
 exact v3 KX G.T.g G.T.b G.T.builtins G.T.nolimit hg hobj hints (Nat.le_trans hlen hn2) hr hF hb (fun H hO hS=> hsp _ H a ns hlen hbits hO hS) fun H e s'=> hCX H s₁ e s'
end L2
namespace L2
theorem vO {α:Type} {xs:List α} {k:Int} {i:Nat} {v:α} (e:k=(i:Int)) (h:xs[i]?=some v):atI xs k=some v:=by subst e; exact qD h
end L2
namespace L2
theorem Sz.natle {m:Nat} {x y:Int} (hy:Sz m y) (h:x.natAbs≤y.natAbs):Sz m x:=Sz.le h hy
end L2
namespace L2
open PySem PySem.Spec PyProof.Rows
abbrev ax (X:Cx) (scope:Scope) (cl:List (Str×Addr)) (C:Addr) (s:Shared) (H:Hp) (fp:List Addr):Cx:=
 { X with s₀:=s,H₀:=H,env:=compEnvC scope cl C X.env,outer:=X.stack,ex:=fp,fn:=fun _=> false,pn:=[],xe:=fun _ _=> False }
def mask:List Nat→St→St
 | [],σ=> σ
 | i::is,σ=> mask is (σ.set i none)
theorem eJ:∀ (is:List Nat) (σ:St),(mask is σ).length=σ.length
 | [],_=> rfl
 | i::is,σ=> by rw [mask,eJ is]; simp
theorem gU:∀ (is:List Nat) (σ:St) (j:Nat) (v:V),(mask is σ)[j]?=some (some v)→σ[j]?=some (some v)∧j ∉ is
 | [],σ,j,v,h=> ⟨h,by simp⟩
 | i::is,σ,j,v,h=> by
  obtain ⟨h1,h2⟩:=gU is _ j v h
  by_cases e:i=j
  ·subst e
   rw [List.getElem?_set] at h1
   simp at h1
  ·rw [List.getElem?_set_ne e] at h1
   exact ⟨h1,by simp [Ne.symm e,h2]⟩
structure dg (X:Cx) (scope:Scope) (cl:List (Str×Addr)) (is:List Nat):Prop where
 clos:closureFor scope X.env=pure cl
 cell:∀ y∈scope.names,y.2≠.cell
 kind:scope.kind=.function
 names:∀ y∈scope.names,y.2=.local→scope.names.lookup y.1=some .local
 cls:∀ x c,cl.lookup x=some c→X.env.cells.lookup x=some c
 free:∀ x,((relabel scope X.env).names.lookup x=some .cell∨(relabel scope X.env).names.lookup x=some .free)→Vis X.env.scope x∧X.env.scope.names.lookup x≠some .local∧∃ c,cl.lookup x=some c
 own:∀ i x,X.N[i]?=some x→(relabel scope X.env).names.lookup x=some .local→i∈is
def ui (J:It) (is:List Nat) (g:TG) (te:TE) (σ:St) (H1:Hp) (l:Addr) (Q:VK):Prop:=
 ∃ W:Nat→Nat→Hp→Prop,(∃ m,W 0 m (upd H1 l (.lst [])))∧∀ i m H2,W i m H2→
  (J.stop i H2∧Q (.ref l) H2)∨(J.go i H2∧∀ x H3,J.yld i H2 x H3→g x (mask is σ) H3 fun σ4 H4=> te σ4 H4 fun y H5=>
   (∀ (j:Nat) (v:V),(mask is σ)[j]?=some (some v)→σ4[j]?=some (some v))∧∃ vs,H5 l=some (.lst vs)∧vs.length < sizeLine∧∃ m',m' < m∧W (i+1) m' (upd H5 l (.lst (vs++[y]))))
def x_ (is:List Nat) (g:TG) (te:TE) (σ:St) (Q:VK) (J:It) (H1:Hp):Prop:=∀ l,H1 l=none→ui J is g te σ H1 l Q
def uE (is:List Nat) (wi:TI) (g:TG) (te:TE):TE:=fun σ H Q=> wi σ H (x_ is g te σ Q)
section
variable {X:Cx} {pins:List (Addr×Obj)} {σ:St} {H:Hp} {s:Shared}
theorem iD {scope:Scope} {cl:List (Str×Addr)} {is:List Nat} {fp:List Addr} {h₁:Heap} {m:Str→Option Value} {t':Nat} (I:Inv X pins σ H s) (B:dg X scope cl is) (hf:∀ b∈fp,ju X pins H b) (hfl:∀ b∈fp,b < s.heap.objs.size)
  (hn:h₁.Ns s.heap.objs.size m) (hk:∀ b o,s.heap.get? b=some o→h₁.get? b=some o):
  Inv (ax X scope cl s.heap.objs.size s H fp) [] (mask is σ) H { s with heap:=h₁,toks:=t' }:=by
 refine ⟨⟨I.ok.mod,B.kind,I.ok.glob,I.ok.blt,Nat.le_refl _,fun x y c h1 h2=> I.ok.inj x y c (B.cls x c h1) (B.cls y c h2),fun x hx=> (B.free x hx).2.2,fun x c h=> (by cases h),I.ok.hd,I.ok.frames,.inl rfl,fun b hb=> ⟨Nat.ne_of_lt (hfl b hb),fun x c e=> (hf b hb).2.2.2.2.1 x c (B.cls x c e)⟩,
  I.bs,Nat.le_trans I.ok.bsz I.sz,fun b o e hb=> ?_,fun b hb z=> ?_,I.stack,I.stkFree⟩,rfl,I.bare,Un.kept hk,⟨m,hn,fun i x v h1 h2 h3=> ?_⟩,fun x c e=> ?_,I.hok.fresh (Nat.le_refl _),fun x c e=> I.freeC x c (B.cls x c e),fun p hp=> absurd (show p∈([]:List (Addr×Obj)) from hp) (by simp),I.hok.kept hk,?_⟩
 ·rcases (hf b hb).2.2.2.1 with z | z
  ·exact I.ok.noex b o e z
  ·exact absurd (Nat.lt_of_lt_of_le (Heap.lt_size e) (Nat.le_trans I.ok.bsz z)) (Nat.lt_irrefl _)
 ·rcases List.mem_cons.mp (I.stkSub b z) with e | e
  ·exact (hf b hb).2.1 e
  ·exact (hf b hb).2.2.1 e
 ·obtain ⟨e2,ni⟩:=gU is σ i v h2
  have h3':(relabel scope X.env).names.lookup x=some .local∨(relabel scope X.env).names.lookup x=some .cell∨(relabel scope X.env).names.lookup x=some .free:=h3
  rcases h3' with z | z
  ·exact absurd (B.own i x h1 z) ni
  ·obtain ⟨hv,hnl,c,hc⟩:=B.free x z
   obtain ⟨m0,_,hl⟩:=I.loc
   obtain ⟨u,r,l⟩:=hl i x v h1 e2 hv
   refine ⟨u,r,.inr ⟨z,c,hc,?_⟩⟩
   rcases l with ⟨k,_⟩ | ⟨_,c',hc',o,ho,hd⟩
   ·exact absurd k hnl
   ·have ec:=B.cls x c hc
    rw [hc'] at ec
    cases ec
    exact ⟨o,hk _ _ ho,hd⟩
 ·obtain ⟨v,o,ho,hd⟩:=I.cell x c (B.cls x c e)
  exact ⟨v,o,hk _ _ ho,hd⟩
 ·show (mask is σ).length=X.N.length
  rw [eJ]; exact I.len
theorem m9 {elt iter tg:Expr} {scope:Scope} {cl:List (Str×Addr)} {pos pos0:Pos} {is:List Nat} {wi:TI} {g:TG} {te:TE} {use:Option (Value→Sem Unit)} {Q0:VK} {Q:Value→Shared→Prop} (hc:X.calm=true) (B:dg X scope cl is)
  (hi:PI X tg iter wi) (hg:∀ C s H fp,PG (ax X scope cl C s H fp) tg g) (he:∀ C s H fp,PE (ax X scope cl C s H fp) elt te) (hs:∀ x,foldedSetIterable iter X.env x=pure x)
  (I:Inv X pins σ H s) (h:uE is wi g te σ H Q0)
  (fin:∀ (l C:Addr) (H':Hp) (s':Shared) (m:Str→Option Value),Inv X pins σ H' s'→s'.heap.Ns C m→H' C=none→C≠X.env.locals→C ∉ X.fs→X.s₀.heap.objs.size≤C→(∀ x c,X.env.cells.lookup x=some c→c≠C)→(∀ p∈X.pn++pins,p.1≠C)→Q0 (.ref l) H'→
   compPost (model X.prog X.w) X.A X.xe use Q (.ref l) C (.ok .next) s'):
  wpAny (model X.prog X.w) X.A (comprehension (.ListComp elt [⟨tg,iter,[],0⟩] scope pos) scope X.env pos0 (newList []) false (eval iter X.env) use) Q X.xe s:=by
 refine wpAny_comprehension_free rfl hs B.clos B.kind B.names (thn (hi pins s σ H _ I h) fun xv s1 h1=> thn h1 fun itv s2 h2=> ?_)
 obtain ⟨it,fp,tn,J,H2,e,I2,T,st2,f2,R⟩:=h2
 subst e
 refine wpAny_newObj_type (wpAny_newFunctionEnv B.cell (by intro y hy; simp at hy) (fun h₁ hns hsb=> ?_) B.kind)
 have hl:H2 s2.heap.objs.size=none:=I2.hok.fresh (Nat.le_refl _)
 obtain ⟨W,⟨m0,w0⟩,turn⟩:=R s2.heap.objs.size hl
 have I3:Inv X pins σ (upd H2 s2.heap.objs.size (.lst [])) { s2 with heap:=s2.heap.push { cls:=.type "list",dict:=none,data:=.seq ([]:List Value).toArray } }:=
  I2.laid (t':=s2.toks) (o:=.lst []) (fun b u e=> Heap.get?_push_of_some _ e) (Nat.le_refl _) ⟨Nat.zero_le _,[],0,.nil,Heap.get?_push_size _ rfl⟩
 have hfl:∀ b∈fp,b < s2.heap.objs.size:=fun b hb=> let ⟨o,e,_⟩:=T.obj 0 _ st2 b hb; Heap.lt_size e
 have f3:∀ b∈fp,ju X pins (upd H2 s2.heap.objs.size (.lst [])) b:=fun b hb=> ⟨by rw [a_ (Nat.ne_of_lt (hfl b hb))]; exact (f2 b hb).1,(f2 b hb).2⟩
 have kp:∀ b o,(s2.heap.push { cls:=.type "list",dict:=none,data:=.seq ([]:List Value).toArray }).get? b=some o→h₁.get? b=some o:=fun b o e=>
  hsb.extBut b o (Nat.ne_of_lt (Heap.lt_size e)) (Heap.get?_push_of_some _ e)
 have st4:tn 0 h₁:=T.keep 0 _ _ st2 fun b _ o e=> kp b o (Heap.get?_push_of_some _ e)
 have hfl3:∀ b∈fp,b < (s2.heap.push { cls:=.type "list",dict:=none,data:=.seq ([]:List Value).toArray }).objs.size:=fun b hb=> by
  rw [Heap.size_push]; exact Nat.lt_succ_of_lt (hfl b hb)
 have I4:=iD (t':=s2.toks+([]:List (Str×Value)).length) I3 B f3 hfl3 hns kp
 have loop:codeAny (model X.prog X.w) X.A (.compLoop (.ListComp elt [⟨tg,iter,[],0⟩] scope pos) 0 (.ref it) (.ref s2.heap.objs.size) (compEnvC scope cl (s2.heap.push { cls:=.type "list",dict:=none,data:=.seq ([]:List Value).toArray }).objs.size X.env))
   (compPost (model X.prog X.w) X.A X.xe use Q (.ref s2.heap.objs.size) (s2.heap.push { cls:=.type "list",dict:=none,data:=.seq ([]:List Value).toArray }).objs.size)
   { s2 with heap:=h₁,toks:=s2.toks+([]:List (Str×Value)).length }:=by
  generalize hs3:({ s2 with heap:=s2.heap.push { cls:=.type "list",dict:=none,data:=.seq ([]:List Value).toArray } }:Shared)=s3 at *
  have hC:(s2.heap.push { cls:=.type "list",dict:=none,data:=.seq ([]:List Value).toArray }).objs.size=s3.heap.objs.size:=by rw [← hs3]
  rw [hC]
  have hstat:∀ {H':Hp},(∀ b∈fp,H' b=none)→∀ b∈fp,ju (ax X scope cl s3.heap.objs.size s3 (upd H2 s2.heap.objs.size (.lst [])) fp) [] H' b:=fun hn b hb=>
   ⟨hn b hb,(I4.ok.exf b hb).1,I4.ok.exfs b hb,.inl hb,fun x c e=> (I4.ok.exf b hb).2 x c e,fun p hp=> absurd (show p∈([]:List (Addr×Obj)) from hp) (by simp)⟩
  have back:∀ {σ':St} {H':Hp} {pp:List (Addr×Obj)} {s':Shared},Inv (ax X scope cl s3.heap.objs.size s3 (upd H2 s2.heap.objs.size (.lst [])) fp) pp σ' H' s'→Inv X pins σ H' s':=fun I'=>
   I3.call' (ch:=fp) I'.os I'.base I'.hok I'.bare fun b hb=> ⟨(f3 b hb).2.2.2.1,(f3 b hb).2.1,(f3 b hb).2.2.2.2.1,(f3 b hb).2.2.2.2.2⟩
  refine codeAny_loop rfl (fun n s'=> ∃ i H',Inv (ax X scope cl s3.heap.objs.size s3 (upd H2 s2.heap.objs.size (.lst [])) fp) [] (mask is σ) H' s'∧tn i s'.heap∧(∀ b∈fp,H' b=none)∧W i n H') ?_ m0 ⟨0,_,(by subst hs3; exact I4),st4,fun b hb=> (f3 b hb).1,w0⟩
  rintro n s5 ⟨i,H5,I5,st5,fr5,w5⟩
  show wpAny _ _ ((compTurn (.ListComp elt [⟨tg,iter,[],0⟩] scope pos) 0 (.ref it) (.ref s2.heap.objs.size) (compEnvC scope cl s3.heap.objs.size X.env)).onRaise (fun x=> do noteFrame x (compEnvC scope cl s3.heap.objs.size X.env); theTreesLotGoes x)) _ _ s5
  refine wpAny_noted ?_
  rw [compTurn_list1]
  refine wpAny_bind (wpAny_standAt (wpAny_bind ?_))
  rcases turn i n H5 w5 with ⟨stop,q⟩ | ⟨go,step⟩
  ·refine thn (T.done (ax X scope cl s3.heap.objs.size s3 (upd H2 s2.heap.objs.size (.lst [])) fp) rfl rfl rfl hc i [] s5 _ H5 _ I5 (hstat fr5) st5 stop) fun r s6 ⟨hr,I6⟩=> ?_
   subst hr
   refine wpAny_pure ?_
   obtain ⟨m6,hn6,_⟩:=I6.loc
   have hCn:∀ b,b < s3.heap.objs.size→b≠s3.heap.objs.size:=fun b hb=> Nat.ne_of_lt hb
   refine fin _ s3.heap.objs.size H5 s6 m6 (back I6) hn6 I6.free (Nat.ne_of_gt I3.lt) (I3.nofs (Nat.le_refl _)) I3.sz (fun x c e=> ?_) (fun p hp=> ?_) q
   ·obtain ⟨v,z⟩:=I3.cell x c e
    exact Nat.ne_of_lt z.lt
   ·exact Nat.ne_of_lt (Heap.lt_size (I3.pin p hp).1)
  ·refine thn (T.item (ax X scope cl s3.heap.objs.size s3 (upd H2 s2.heap.objs.size (.lst [])) fp) rfl rfl rfl hc i [] s5 _ H5 _ I5 (hstat fr5) st5 go) fun r s6 ⟨u,hr,h6⟩=> ?_
   subst hr
   refine wpAny_bind (thn h6 fun _ s7 ⟨x,H7,I7,r7,y7,st7,fr7⟩=> ?_)
   have I7':=I7.pinned (hstat fr7) (T.obj _ _ st7)
   refine wpAny_bind (wpAny_mono (hg _ _ _ _ _ s7 (mask is σ) H7 x u _ I7' r7 (step x H7 y7)) (fun _ s8 ⟨σ8,H8,I8,q8⟩=> ?_) fun _ _ z=> z.elim)
   refine wpAny_bind (wpAny_bind (wpAny_mono (he _ _ _ _ _ s8 σ8 H8 _ I8 q8) (fun v s9 ⟨y,H9,I9,r9,sub,vs,hl9,hz,m',hm,w'⟩=> ?_) fun _ _ z=> z.elim))
   refine wpAny_bind (wpAny_mono (ip (X:=ax X scope cl s3.heap.objs.size s3 (upd H2 s2.heap.objs.size (.lst [])) fp) _ s9 σ8 H9 (.ref s2.heap.objs.size) [y] (.ref s2.heap.objs.size) [v] (fun _ H'=> H'=upd H9 s2.heap.objs.size (.lst (vs++[y]))) I9 rfl (.cons r9 .nil) ⟨_,vs,y,rfl,rfl,hl9,hz,rfl⟩) (fun z s10 ⟨zv,H10,I10,_,e10⟩=> ?_) fun _ _ z=> z.elim)
   subst e10
   refine wpAny_pure (wpAny_pure ⟨rfl,m',hm,i+1,_,(I10.unpinned (pins:=[])).weak (by rw [I10.len,eJ,I.len]) sub,T.keep _ _ _ st7 fun b hb o e=> (I10.pin (b,o) (List.mem_append_right _ (List.mem_append_right _ (de hb e)))).1,fun b hb=> ?_,w'⟩)
   obtain ⟨o,e,d⟩:=T.obj _ _ st7 b hb
   exact (I10.pin (b,o) (List.mem_append_right _ (List.mem_append_right _ (de hb e)))).2.1
 exact codeAny_compStart_list loop (T.self X.A 0 _ _ _ st4 loop)
theorem xg {elt iter tg:Expr} {scope:Scope} {cl:List (Str×Addr)} {pos:Pos} {is:List Nat} {wi:TI} {g:TG} {te:TE} (hc:X.calm=true) (B:dg X scope cl is)
  (hi:PI X tg iter wi) (hg:∀ C s H fp,PG (ax X scope cl C s H fp) tg g) (he:∀ C s H fp,PE (ax X scope cl C s H fp) elt te) (hs:∀ x,foldedSetIterable iter X.env x=pure x:=by intro _; rfl):
  PE X (.ListComp elt [⟨tg,iter,[],0⟩] scope pos) (uE is wi g te):=by
 intro pins s σ H Q I h
 rw [eval_ListComp]
 refine m9 (use:=none) hc B hi hg he hs I h fun l C H' s' m I' hn h1 h2 h3 h4 h5 h6 q=> ⟨m,hn,fun h' hsb=> ?_⟩
 exact ⟨.ref l,H',I'.turned (t':=s'.toks) (fun b o hb e=> hsb.extBut b o hb e) h1 (Ne.symm h2.symm) (.inr h4) h5 h6,rfl,q⟩
end
end L2
namespace L2
open PySem PySem.Spec PyProof.Rows
section
variable {X:Cx}
theorem ov {elt iter tg:Expr} {scope:Scope} {cl:List (Str×Addr)} {pos spos py:Pos} {y:Str} {j:Nat} {is:List Nat} {wi:TI} {g:TG} {te:TE} (hc:X.calm=true) (hN:X.N.Nodup) (hj:X.N[j]?=some y) (hy:Loc X.env.scope y) (B:dg X scope cl is)
  (hi:PI X tg iter wi) (hg:∀ C s H fp,PG (ax X scope cl C s H fp) tg g) (he:∀ C s H fp,PE (ax X scope cl C s H fp) elt te) (hs:∀ x,foldedSetIterable iter X.env x=pure x:=by intro _; rfl)
  (hsw:swapsWith (.ListComp elt [⟨tg,iter,[],0⟩] scope pos) (some (.Name y py)) spos.line X.env=pure true:=by rfl) (hf:X.fn y=true∨X.env.scope.names.lookup y=some .local:=by first | exact .inl rfl | exact .inr rfl | assumption):
  PS X (.Assign [.Name y py] (.ListComp elt [⟨tg,iter,[],0⟩] scope pos) spos) (ze (uE is wi g te) (nI j)):=by
 intro pins s σ H D I h
 rw [exec_Assign_Name_used _ _ _ _ hsw]
 refine wpAny_bind (wpAny_standAt (wpAny_bind ?_))
 show wpAny _ X.A (do let _ ← comprehension (.ListComp elt [⟨tg,iter,[],0⟩] scope pos) scope X.env _ (newList []) false (eval iter X.env) (some (assign (.Name y py) X.env))) _ _ s
 refine wpAny_bind (wpAny_mono (m9 (Q0:=fun v H'=> D.nx (σ.set j (some v)) H') (use:=some (assign (.Name y py) X.env)) (Q:=fun _ s'=> SP X pins D .next s') hc B hi hg he hs I h fun l C H' s' m I' hn h1 h2 h3 h4 h5 h6 q=> ?_) (fun _ s' hq=> wpAny_pure (wpAny_pure hq)) fun _ _ e=> e)
 show wpAny _ X.A (assign (.Name y py) X.env (.ref l)) _ _ _
 refine wpAny_assign_Name (kD I' hN hj hy (v:=.ref l) rfl (fun s2 I2 ⟨a,hsb,ha⟩=> ?_) hf)
 have hCa:C≠a:=by
  rcases ha with e | e
  ·rw [e]; exact h2
  ·exact Ne.symm (h5 _ _ e)
 refine ⟨m,hn.sameBut hsb hCa,fun h' hsb'=> ⟨_,H',I2.turned (t':=s2.toks) (fun b o hb e=> hsb'.extBut b o hb e) h1 h2 (.inr h4) h5 h6,q⟩⟩
end
section
variable {prog:Program} {w:World} {A:Around} {E:Value→Shared→Prop}
end
section
variable {X:Cx} {pos:Pos}
end
end L2
namespace L2
open PySem PySem.Spec PyProof.Rows
def goC (cells:List (Str×Addr)):List (Str×NameKind)→List (Str×Addr)→List (Str×Addr)
 | [],acc=> acc
 | (n,k)::r,acc=> goC cells r (if (k==.free)=true then (n,(cells.lookup n).getD 0)::acc else acc)
theorem oO {env:Env} {scope:Scope} (h:∀ y∈scope.names,y.2=.free→(env.cells.lookup y.1).isSome=true):closureFor scope env=pure (goC env.cells scope.names []):=by
 have all:∀ (names:List (Str×NameKind)) (acc:List (Str×Addr)),(∀ y∈names,y.2=.free→(env.cells.lookup y.1).isSome=true)→
   (forIn names acc (fun x cs=> match x with | (name,kind)=> if (kind==.free)=true then (do let c ← cellOf env name; pure (ForInStep.yield ((name,c)::cs))) else pure (ForInStep.yield cs)):Sem (List (Str×Addr)))=pure (goC env.cells names acc):=by
  intro names
  induction names with
  | nil=> intro acc _; rfl
  | cons y r ih=>
   intro acc hy
   obtain ⟨n,k⟩:=y
   rw [List.forIn_cons]
   by_cases hk:k=.free
   ·subst hk
    have:=hy (n,.free) List.mem_cons_self rfl
    obtain ⟨c,hc⟩:=Option.isSome_iff_exists.mp this
    have e:cellOf env n=pure c:=by unfold cellOf; rw [hc]
    simp only [beq_self_eq_true,if_true,e,pure_bind]
    rw [ih _ fun y hy'=> hy y (List.mem_cons_of_mem _ hy')]
    simp only [goC,beq_self_eq_true,if_true,hc,Option.getD_some]
   ·have hb:(k==NameKind.free)=false:=by simpa using hk
    simp only [hb,Bool.false_eq_true,if_false,pure_bind]
    rw [ih _ fun y hy'=> hy y (List.mem_cons_of_mem _ hy')]
    simp only [goC,hb,Bool.false_eq_true,if_false]
 simp only [closureFor]
 have:=all scope.names [] h
 simpa using this
theorem qR {cells:List (Str×Addr)}:∀ (names:List (Str×NameKind)) (acc:List (Str×Addr)),(∀ y∈names,y.2=.free→(cells.lookup y.1).isSome=true)→(∀ x c,acc.lookup x=some c→cells.lookup x=some c)→
  ∀ x c,(goC cells names acc).lookup x=some c→cells.lookup x=some c
 | [],_,_,ha,x,c,h=> ha x c h
 | (n,k)::r,acc,hy,ha,x,c,h=> by
  rw [goC] at h
  refine qR r _ (fun y hy'=> hy y (List.mem_cons_of_mem _ hy')) (fun x' c' e=> ?_) x c h
  by_cases hk:k=.free
  ·subst hk
   simp only [beq_self_eq_true,if_true] at e
   rw [List.lookup_cons] at e
   by_cases hx:(x'==n)=true
   ·rw [hx] at e
    have hx':x'=n:=by simpa using hx
    obtain ⟨c2,hc2⟩:=Option.isSome_iff_exists.mp (hy (n,.free) List.mem_cons_self rfl)
    simp only [hc2,Option.getD_some] at e
    rw [hx',hc2]; exact e
   ·have:(x'==n)=false:=by simpa using hx
    rw [this] at e
    exact ha x' c' e
  ·have hb:(k==NameKind.free)=false:=by simpa using hk
   rw [hb] at e
   exact ha x' c' e
theorem qO {cells:List (Str×Addr)} {x:Str}:∀ (names:List (Str×NameKind)) (acc:List (Str×Addr)),((x,NameKind.free)∈names∨∃ c,acc.lookup x=some c)→∃ c,(goC cells names acc).lookup x=some c
 | [],_,h=> by
  rcases h with h | h
  ·cases h
  ·exact h
 | (n,k)::r,acc,h=> by
  rw [goC]
  refine qO r _ ?_
  rcases h with h | ⟨c,h⟩
  ·rcases List.mem_cons.mp h with e | h
   ·cases e
    right
    simp
   ·exact .inl h
  ·right
   by_cases hk:k=.free
   ·subst hk
    simp only [beq_self_eq_true,if_true]
    rw [List.lookup_cons]
    cases hx:x==n with
    | true=> exact ⟨_,rfl⟩
    | false=> exact ⟨c,h⟩
   ·have hb:(k==NameKind.free)=false:=by simpa using hk
    rw [hb]; exact ⟨c,h⟩
theorem cL {env:Env} {x:Str} {kd:NameKind}:∀ {names:List (Str×NameKind)},
  (names.map fun (n,k)=> if (k==NameKind.free && env.scope.kind==.function && env.kindOf n==some .cell) then (n,NameKind.cell) else (n,k)).lookup x=some kd→names.lookup x=some kd∨(kd=.cell∧names.lookup x=some .free)
 | [],h=> by simp at h
 | (n,k)::r,h=> by
  have ih:=@cL env x kd r
  change List.lookup x ((if (k==NameKind.free && env.scope.kind==.function && env.kindOf n==some .cell)=true then (n,NameKind.cell) else (n,k))::_)=_ at h
  by_cases hc:(k==NameKind.free && env.scope.kind==.function && env.kindOf n==some .cell)=true
  ·rw [if_pos hc] at h
   rw [List.lookup_cons] at h ⊢
   cases hx:x==n with
   | true=>
    rw [hx] at h
    have hk:k=.free:=by
     have:=(Bool.and_eq_true_iff.mp (Bool.and_eq_true_iff.mp hc).1).1
     simpa using this
    subst hk
    have h':some NameKind.cell=some kd:=h
    cases h'
    exact .inr ⟨rfl,rfl⟩
   | false=> rw [hx] at h; exact ih h
  ·rw [if_neg hc] at h
   rw [List.lookup_cons] at h ⊢
   cases hx:x==n with
   | true=> rw [hx] at h; exact .inl h
   | false=> rw [hx] at h; exact ih h
def uZ (scope fscope:Scope) (N:List Str) (is:List Nat):Bool:=
 scope.names.all (fun y=> y.2 !=.cell) && scope.names.all (fun y=> y.2 !=.local || scope.names.lookup y.1==some .local) && scope.names.all (fun y=> y.2 !=.free || fscope.names.lookup y.1==some .cell) &&
  (List.range N.length).all fun i=> match N[i]? with | some x=> scope.names.lookup x !=some .local || is.contains i | none=> true
theorem blk {X:Cx} {scope:Scope} (fscope:Scope) (N:List Str) (is:List Nat) (hNN:X.N=N) (hs:X.env.scope=fscope) (hcs:X.env.cells=cellsFrom (X.env.locals+1) fscope.names []) (hk:scope.kind=.function) (h:uZ scope fscope N is=true):dg X scope (goC X.env.cells scope.names []) is:=by
 subst hNN
 unfold uZ at h
 simp only [Bool.and_eq_true,List.all_eq_true] at h
 obtain ⟨⟨⟨h1,h2⟩,h3⟩,h4⟩:=h
 have f1:∀ y∈scope.names,y.2=.free→fscope.names.lookup y.1=some .cell:=fun y hy e=> by
  have:=h3 y hy
  simp only [Bool.or_eq_true,bne_iff_ne,ne_eq,beq_iff_eq] at this
  exact this.resolve_left fun z=> z e
 have f2:∀ y∈scope.names,y.2=.free→(X.env.cells.lookup y.1).isSome=true:=fun y hy e=> by
  rw [hcs]; exact PySem.W.cellsFrom_some _ _ _ (.inl (f1 y hy e))
 have nc:∀ y∈scope.names,y.2≠.cell:=fun y hy=> by have:=h1 y hy; simpa using this
 refine ⟨oO f2,nc,hk,fun y hy e=> ?_,qR _ _ f2 (fun x c e=> by simp at e),fun x hx=> ?_,fun i x hi hl=> ?_⟩
 ·have:=h2 y hy
  simp only [Bool.or_eq_true,bne_iff_ne,ne_eq,beq_iff_eq] at this
  exact this.resolve_left fun z=> z e
 ·have hf:(x,NameKind.free)∈scope.names:=by
   rcases hx with hx | hx
   ·rcases cL hx with z | ⟨_,z⟩
    ·exact absurd rfl (nc _ (PySem.mem_of_lookup z))
    ·exact PySem.mem_of_lookup z
   ·rcases cL hx with z | ⟨z,_⟩
    ·exact PySem.mem_of_lookup z
    ·cases z
  have hc:=f1 _ hf rfl
  refine ⟨.inr (.inl (by rw [hs]; exact hc)),(by rw [hs,show fscope.names.lookup x=some .cell from hc]; intro z; cases z),qO _ _ (.inl hf)⟩
 ·have hi':i < X.N.length:=(List.getElem?_eq_some_iff.mp hi).1
  have:=h4 i (List.mem_range.mpr hi')
  rw [hi] at this
  have hl':scope.names.lookup x=some .local:=by
   rcases cL hl with z | ⟨z,_⟩
   ·exact z
   ·cases z
  simp only [hl',bne_self_eq_false,Bool.false_or,List.contains_iff_mem] at this
  exact this
end L2
namespace L2
end L2
namespace L2
open PySem PySem.Spec PySem.W PyProof.Rows
theorem xm {K:Frag} {h:Heap} {mg:Str→Option Value} {x:Str} {C:Addr} {bmB:List Value} {newId:String} (X:K.In h) (hb:mg x=some (.ref C)) (q:excIn K C bmB newId=true):OwnCls x C bmB newId mg h:=by
 refine ⟨hb,?_⟩
 unfold excIn at q
 split at q
 ·rename_i dd cd sl ho
  split at q
  ·rename_i C' bm k0 k1 k2 k3 n k5 hm hs
   simp only [Bool.and_eq_true,beq_iff_eq,Bool.not_eq_true'] at q
   obtain ⟨⟨⟨⟨⟨e1,e2⟩,hdel⟩,ht⟩,hok⟩,hni⟩:=q
   subst e1 e2
   obtain ⟨nm,bs,mro,ns,qn,hd,sn,sub,ab,col,del⟩:=cd
   dsimp only at hm hdel hok hni
   subst hm hdel
   have hsl:sl=#[k0,k1,k2,k3,some (.builtin n),k5]:=by cases sl; simp only at hs; rw [hs]
   subst hsl
   exact ⟨bm,ns,nm,qn,bs,hd,sn,sub,ab,col,dd,k0,k1,k2,k3,k5,_,X _ _ ho,.of_isNs (isNs_of_in X hok),nsMap_none_of_in X hok hni,tail_of_in X ht⟩
  ·cases q
 ·cases q
def CXF (P:Program) (w:World):CXT:=fun outer H s E e s'=> ∃ (ea:Addr) (cls a0:Value) (B:Heap) (H':Hp),e=.ref ea∧s'.os=s.os∧AllBare s'.gens∧Un (frs outer) [] H H' s.heap s'.heap∧HOk P w H' s'.heap∧H' ea=none∧
 (∀ b o,s.heap.get? b=some o→b ∉ frs outer→H b=none→B.get? b=some o)∧(∀ b u,H' b=some u→∃ o,B.get? b=some o)∧(∀ b o,s.heap.get? b=some o→b ∉ frs outer→∃ o',B.get? b=some o')∧
 Heap.FlyingW B outer ea cls a0 s'.heap∧E cls none H'
theorem aA {P:Program} {w:World} {X:Cx}:fu (CXF P w) X E0:=fun _ _ _ _ _ _ _ h=> by
 obtain ⟨_,_,_,_,_,_,_,_,_,_,_,_,_,_,_,hE⟩:=h
 exact hE.elim
theorem km {P:Program} {w:World} {H:Hp} {h:Heap} {a:Addr} {o:HO} (x:cu P w H h a o):∃ ob,h.get? a=some ob:=by
 cases o with
 | lst xs=> obtain ⟨_,_,_,_,e⟩:=x; exact ⟨_,e⟩
 | tup xs=> obtain ⟨_,_,_,ob,e,_⟩:=x; exact ⟨_,e⟩
 | dK kvs=> obtain ⟨_,_,_,_,o,_,_,e,_⟩:=x; exact ⟨_,e⟩
 | dT kvs=> obtain ⟨_,_,_,_,o,_,_,e,_⟩:=x; exact ⟨_,e⟩
 | set S n=> obtain ⟨o,_,_,_,e,_⟩:=x; exact ⟨_,e⟩
 | ins C dx fs=> obtain ⟨_,_,_,e,_⟩:=x; exact ⟨_,e⟩
 | own y=> obtain ⟨_,e⟩:=x; exact ⟨_,e⟩
 | xd fs=> obtain ⟨_,⟨_,_,_,e,_⟩,_⟩:=x; exact ⟨_,e⟩
 | rng lo hi=> obtain ⟨_,_,_,e⟩:=x; exact ⟨_,e⟩
 | frz ob u=> obtain ⟨e,_⟩:=x; exact ⟨_,e⟩
 | tbl ps=> exact ⟨_,(show h.get? a=some _ from x)⟩
 | met f y=> exact ⟨_,(show h.get? a=some _ from x)⟩
 | ext φ=> obtain ⟨_,⟨_,e⟩,_⟩:=x; exact ⟨_,e⟩
theorem pR {P:Program} {w:World} {H':Hp} {h h' B:Heap} (ok:HOk P w H' h) (hB:∀ b u,H' b=some u→∃ o,B.get? b=some o) (s1:B.StaysIn h) (s2:B.StaysIn h'):HOk P w H' h':=fun a o e=> by
 refine (ok a o e).stay (fun b u hb q=> ?_) (fun _ q=> q) fun _ _ q=> q
 have:∃ v,H' b=some v:=by
  rcases hb with z | z
  ·subst z; exact ⟨_,e⟩
  ·exact ⟨_,z⟩
 obtain ⟨v,hv⟩:=this
 obtain ⟨ob,hob⟩:=hB b v hv
 have:=s1 b ob hob
 rw [q] at this
 cases this
 exact s2 b _ hob
theorem pV {h base:Heap}:∀ {l:List Env},h.FunFrames base l→∀ b∈frs l,∀ o,h.get? b=some o→∀ vs,o.data≠.fields vs
 | [],_,b,hb,_,_=> absurd (show b∈([]:List Addr) from hb) (by simp)
 | env::r,⟨_,⟨L,o',hf,_,ho,hd⟩,hr⟩,b,hb,o,e=> by
  unfold frs at hb
  rw [List.filterMap_cons,hf] at hb
  rcases List.mem_cons.mp hb with z | z
  ·subst z; rw [ho] at e; cases e; exact hd
  ·exact pV hr b z o e
section
variable {P:Program} {w:World} {K:Frag} {mg:Str→Option Value} {base:Heap} {N:List Str} {qual:Str} {scope:Scope} {f:Addr} {cd:Value} {A:Around} {outer:List Env} {s:Shared} {H:Hp} {E:XK}
theorem uv {env:Env} {L:Addr} {l:List Env} (h:env.frame=some L):frs (env::l)=L::frs l:=by unfold frs; rw [List.filterMap_cons,h]
theorem md {pins:List (Addr×Obj)} {σ:St} {H1 H':Hp} {s1:Shared} {B h1 h2:Heap} (I:Inv (dW (CXF P w) P w K mg base N qual scope f cd A outer s H E) pins σ H1 s1)
  (un:Un (frs (envOfC qual scope s.heap.objs.size f cd::outer)) [] H1 H' s1.heap h1)
  (k1:∀ b o,s1.heap.get? b=some o→b ∉ frs (envOfC qual scope s.heap.objs.size f cd::outer)→H1 b=none→B.get? b=some o) (k3:∀ b o,s1.heap.get? b=some o→b ∉ frs (envOfC qual scope s.heap.objs.size f cd::outer)→∃ o',B.get? b=some o')
  (st:B.StaysIn h2) (up:h1.UpToSlots h2):
  Un (frs outer) [] H H' s.heap h2∧(∀ b o,s.heap.get? b=some o→b ∉ frs outer→H b=none→B.get? b=some o)∧(∀ b o,s.heap.get? b=some o→b ∉ frs outer→∃ o',B.get? b=some o'):=by
 have ef:frs (envOfC qual scope s.heap.objs.size f cd::outer)=s.heap.objs.size::frs outer:=uv rfl
 rw [ef] at un k1 k3
 have ne:∀ b o,s.heap.get? b=some o→b ∉ frs outer→b ∉ s.heap.objs.size::frs outer:=fun b o e hb z=> by
  rcases List.mem_cons.mp z with y | y
  ·exact absurd (Heap.lt_size e) (by rw [y]; exact Nat.lt_irrefl _)
  ·exact hb y
 have ib:Un (frs outer) [] H H1 s.heap s1.heap:=I.base
 have K1:∀ b o,s.heap.get? b=some o→b ∉ frs outer→H b=none→B.get? b=some o:=fun b o e hb n=>
  k1 b o (ib.keep b o e n hb (by simp)) (ne b o e hb) (ib.free b o e n (by simp))
 have K3:∀ b o,s.heap.get? b=some o→b ∉ frs outer→∃ o',B.get? b=some o':=fun b o e hb=> by
  obtain ⟨o',e'⟩:=ib.there b o e (by simp)
  exact k3 b o' e' (ne b o e hb)
 have ffr:∀ b∈frs outer,∀ o,s.heap.get? b=some o→∀ vs,o.data≠.fields vs:=pV I.ok.funs
 have frf:∀ b∈frs outer,H b=none:=I.ok.frf
 refine ⟨⟨fun b o e n hb _=> st b o (K1 b o e hb n),fun b o e n hb hx=> ?_,fun b o e n hx=> ?_,fun b o e hx=> ?_,fun b xs e=> un.tups b xs (ib.tups b xs e),fun b o u e=> un.frzs b o u (ib.frzs b o u e),fun b ps e=> ?_⟩,K1,K3⟩
 ·obtain ⟨sl,e1⟩:=ib.slot b o e n hb hx
  obtain ⟨sl2,e2⟩:=un.slot b _ e1 (ib.free b o e n hx) (List.mem_cons_of_mem _ hb) hx
  obtain ⟨sl3,e3⟩:=up b _ e2 (ffr b hb o e)
  exact ⟨sl3,e3⟩
 ·obtain ⟨o',e1⟩:=ib.there b o e hx
  exact un.free b o' e1 (ib.free b o e n hx) hx
 ·by_cases hb:b∈frs outer
  ·obtain ⟨sl,e1⟩:=ib.slot b o e (frf b hb) hb hx
   obtain ⟨sl2,e2⟩:=un.slot b _ e1 (ib.free b o e (frf b hb) hx) (List.mem_cons_of_mem _ hb) hx
   obtain ⟨sl3,e3⟩:=up b _ e2 (ffr b hb o e)
   exact ⟨_,e3⟩
  ·obtain ⟨o',e'⟩:=K3 b o e hb
   exact ⟨o',st b o' e'⟩
 ·obtain ⟨m1,e1⟩:=ib.tbls b ps e
  obtain ⟨m2,e2⟩:=un.tbls b _ e1
  exact ⟨m1++m2,by rw [e2,Array.append_assoc]⟩
theorem qw:fu (CXF P w) (dW (CXF P w) P w K mg base N qual scope f cd A outer s H E) E:=by
 intro pins σ H1 s1 e s' I hcx
 obtain ⟨ea,cls,a0,B,H',rfl,os,bare,un,hok,hea,k1,k2,k3,fl,hE⟩:=hcx
 show wpAny _ _ (leaving (envOfC qual scope s.heap.objs.size f cd) (.ref ea)) _ _ s'
 refine wpAny_leaves_onW (L:=s.heap.objs.size) I.ok.frames rfl fl fun h2 fl2 up=> ?_
 obtain ⟨u,K1,K3⟩:=md I un k1 k3 fl2.1 up
 exact ⟨ea,cls,a0,B,H',rfl,os.trans I.os,bare,u,pR hok k2 fl.1 fl2.1,hea,K1,k2,K3,fl2,hE⟩
def yU (E:XK) (C:Addr) (te:TE):TS:=fun _ σ H=> te σ H fun _ H1=> E (.ref C) none H1
theorem tF {x:Str} {C:Addr} {e0:Expr} {te:TE} {np cpos pos:Pos} (hex:excIn K C [.type "ValueError",.type "Exception",.type "BaseException",.type "object"] "ValueError.__new__"=true)
  (hg:Gl (dW (CXF P w) P w K mg base N qual scope f cd A outer s H E) x) (hm:mg x=some (.ref C)) (he:PE (dW (CXF P w) P w K mg base N qual scope f cd A outer s H E) e0 te)
  (hst:starEach [e0] (dW (CXF P w) P w K mg base N qual scope f cd A outer s H E).env=[(false,eval e0 (dW (CXF P w) P w K mg base N qual scope f cd A outer s H E).env)]:=by rfl) (hd:(x==("__debug__":Str))=false:=by decide):
  PS (dW (CXF P w) P w K mg base N qual scope f cd A outer s H E) (.Raise (some (.Call (.Name x np) [e0] [] cpos)) none pos) (yU E C te):=by
 intro pins s1 σ H1 D I h
 have O:=xm I.ok.mod.kin hm hex
 obtain ⟨tl,NN,nm,q,bs,hdct,sn,sub,ab,col,dd,k0,k1,k2,k3,k5,mN,hC,hN,hni,T⟩:=O.obj
 have hpl:(backTo cpos (starEach [e0] (dW (CXF P w) P w K mg base N qual scope f cd A outer s H E).env)).any (·.1)=false:=by rw [hst]; rfl
 refine wpAny_Raise_call_subT (C:=C) (nm:=nm) (q:=q) (N:=NN) (bs:=bs) (bm:=tl) (hdct:=hdct) (sn:=sn) (sub:=sub) (ab:=ab) (col:=col) (dd:=dd) (k0:=k0) (k1:=k1) (k2:=k2) (k3:=k3) (k5:=k5)
  PySem.F.excBase_ValueError (mN:=mN) (T.hasType PySem.F.excBase_ValueError.hasBase) (I.ok.hd rfl) hpl hni (lz I hg hm ⟨rfl,?_⟩ hd)
 rw [hst]
 refine Calls.evalArgs_plain ?_
 show wpAny _ _ (spliced ((false,eval e0 _)::backTo cpos [])) _ _ s1
 refine Calls.spliced_cons (thn (he pins s1 σ H1 _ I h) fun v s2 ⟨y,H2,I2,r2,hE⟩=> Calls.spliced_nil ⟨rfl,by show 1≤sizeLine; decide,I2.bk _ _ hC,hN.keeps I2.bk,T.keeps I2.bk,fun h' e hx=> ?_⟩)
 show wpAny _ _ (leaving (envOfC qual scope s.heap.objs.size f cd) (.ref e)) _ _ { s2 with heap:=h' }
 have stk:s2.heap.FunFrames base (envOfC qual scope s.heap.objs.size f cd::outer):=I2.stack
 refine wpAny_leaves_madeW (base:=hideAll s2.heap (frs (envOfC qual scope s.heap.objs.size f cd::outer))) (h:=s2.heap) (L:=s.heap.objs.size) I2.ok.frames rfl (fun b o q=> of_hideAll _ q)
  (funFrames_hide stk fun env he b hb=> List.mem_filterMap.mpr ⟨env,he,hb⟩) hx fun h2 t fl _ _ up=> ?_
 have k2':∀ b u,H2 b=some u→∃ o,(hideAll s2.heap (frs (envOfC qual scope s.heap.objs.size f cd::outer))).get? b=some o:=fun b u e=> by
  obtain ⟨ob,hob⟩:=km (I2.hok b u e)
  exact ⟨ob,hideAll_get _ hob fun z=> by have:=I2.stkFree b z; rw [e] at this; cases this⟩
 obtain ⟨u,K1,K3⟩:=md (h1:=h') I2 (Un.kept hx.keeps) (fun b o e hb _=> hideAll_get _ e hb) (fun b o e hb=> ⟨o,hideAll_get _ e hb⟩) fl.1 up
 refine ⟨e,.ref C,.ref t,_,H2,rfl,I2.os,I2.bare,u,pR (h:=s2.heap) I2.hok k2' (fun b o q=> of_hideAll _ q) fl.1,?_,K1,k2',K3,fl,hE⟩
 cases z:H2 e with
 | none=> rfl
 | some u=>
  obtain ⟨ob,hob⟩:=km (I2.hok e u z)
  rw [hx.new] at hob; cases hob
end
theorem Fun.okF {P:Program} {w:World} {K:Frag} {mg:Str→Option Value} {base:Heap} {x qual:Str} {st:Stmt} {f:Addr} {fd:FuncData} {N ps:List Str} {k:Nat} {sp:Sp} (F:Fun K x qual st f fd) (S:av N ps (ah st)) (len:∀ vs H Q E,sp vs H Q E→vs.length=ps.length)
  (hbody:∀ (cdv:Value) (A:Around) (outer:List Env) (s:Shared) (H:Hp) (vs:List V) (Q:VK) (E:XK),dR k (A.deeper (envOfC qual (ah st) s.heap.objs.size f cdv))→sp vs H Q E→
   ∃ t,PSs (dW (CXF P w) P w K mg base N qual (ah st) f cdv A outer s H E) (aq st) t∧t { nx:=fun _ H'=> Q .non H',rt:=Q } (start N vs) H):aX P w K mg base (CXF P w) (k+1) f fd ps sp:=by
 obtain ⟨oc,od,kV,doc,pm,an,cdv,ct,osl,rfl,lk,hcd⟩:=F.ex
 exact yh lk hcd S len fun A outer s H vs Q E hr hsp=> hbody cdv A outer s H vs Q E hr hsp
end L2
namespace L2
open PySem PySem.Spec PySem.W PyProof.Rows
section
variable {X:Cx} {pins:List (Addr×Obj)} {σ:St} {H:Hp} {s:Shared}
end
section
variable {X:Cx}
end
end L2
namespace L2
open PySem PySem.Spec PyProof.Rows
theorem kL {n:Nat} {e:Nat→Bool}:(List.range n).all e=true↔∀ j,j < n→e j=true:=by
 rw [List.all_eq_true]
 exact ⟨fun h j hj=> h j (List.mem_range.mpr hj),fun h j hj=> h j (List.mem_range.mp hj)⟩
section
variable {X:Cx}
end
end L2
namespace PySem.W
open PySem PySem.Spec PySem.Calls PyProof.Rows PySem.Builtin PySem.Builtin.ObjectAttr PySem.Builtin.Getset_descriptor
section
variable {prog:Program} {w:World} {A:Around} {E:Value→Shared→Prop} {s:Shared} {K:Frag} {x C:Addr}
def OfCls (x C:Addr) (h:Heap):Prop:=∃ o,h.get? x=some o∧o.cls=.ref C
variable (hga:findIn K (.ref C) "__getattribute__"=some (some (.builtin "BaseException.__getattribute__"))) (hgn:findIn K (.ref C) "__getattr__"=some none) (ha:findIn K (.ref C) "__class__"=some (some (.builtin "object.__class__")))
 (hn:specialIn K (.builtin "object.__class__") "__get__"=some (some (.builtin "getset_descriptor.__get__"))) (htk:takesIn K (.builtin "object.__class__")=some true) (hm:mroIn K C (.type "object")=some true) (hmB:mroIn K C (.type "BaseException")=some true)
include ha hn htk hm in
end
structure XcOk (K:Frag) (C:Addr):Prop where
 ga:findIn K (.ref C) "__getattribute__"=some (some (.builtin "BaseException.__getattribute__"))
 gn:findIn K (.ref C) "__getattr__"=some none
 at_:findIn K (.ref C) "__class__"=some (some (.builtin "object.__class__"))
 sp:specialIn K (.builtin "object.__class__") "__get__"=some (some (.builtin "getset_descriptor.__get__"))
 tk:takesIn K (.builtin "object.__class__")=some true
 mo:mroIn K C (.type "object")=some true
 mb:mroIn K C (.type "BaseException")=some true
theorem XcOk.off {x C:Addr} {h:Heap} {o:Obj} {T:String} (I:OfCls x C h) (e:h.get? x=some o) (c:o.cls=.type T):False:=by
 obtain ⟨o',e',c'⟩:=I
 rw [e] at e'; cases e'
 rw [c] at c'; cases c'
end PySem.W
namespace L2
open PySem PySem.Spec PyProof.Rows
inductive TyX where
 | nm (n:String) | xc (C:Addr)
inductive U where
 | non | bl (b:Bool) | int (i:Int) | str (x:Str) | ty (n:TyX) | dic | scr (xs:List U) | tup (xs:List U) | lst (xs:List U)
def U.items:U→Option (List U)
 | .scr xs=> some xs
 | .tup xs=> some xs
 | .lst xs=> some xs
 | _=> none
def hid (H:Hp) (O:List Addr):Hp:=fun b=> if b∈O then none else H b
theorem gC {H:Hp} {O:List Addr} {b:Addr} {o:HO} (h:hid H O b=some o):H b=some o∧b ∉ O:=by
 unfold hid at h
 split at h
 ·cases h
 ·exact ⟨h,by assumption⟩
theorem dU {H:Hp} {O:List Addr} {b:Addr} {o:HO} (h:H b=some o) (n:b ∉ O):hid H O b=some o:=by
 unfold hid; rw [if_neg n]; exact h
theorem aw {H:Hp} {O:List Addr}:aJ (hid H O) H:=fun _ _ h=> (gC h).1
theorem bu {H H':Hp} {O:List Addr} (e:aJ H H'):aJ (hid H O) (hid H' O):=fun _ _ h=> dU (e _ _ (gC h).1) (gC h).2
theorem eI {H:Hp} {O O':List Addr} (e:∀ a∈O',a∈O):aJ (hid H O) (hid H O'):=fun _ _ h=> dU (gC h).1 fun z=> (gC h).2 (e _ z)
theorem bP {H H':Hp} {O:List Addr} {a:Addr} (e:aJ H H') (n:H a=none):aJ (hid H O) (hid H' (a::O)):=fun b o h=> by
 obtain ⟨h1,h2⟩:=gC h
 refine dU (e _ _ h1) fun z=> ?_
 rcases List.mem_cons.mp z with y | y
 ·subst y; rw [n] at h1; cases h1
 ·exact h2 y
theorem lf {H:Hp} {O:List Addr} {a:Addr} {o:HO} (h:a∈O):hid (upd H a o) O=hid H O:=by
 funext b
 unfold hid
 split
 ·rfl
 ·rename_i n
  rw [a_ fun e=> n (by rw [e]; exact h)]
inductive Rp (K:PySem.W.Frag) (H:Hp):V→U→Prop where
 | non:Rp K H .non .non
 | bl (b:Bool):Rp K H (.bl b) (.bl b)
 | int (i:Int):Rp K H (.int i) (.int i)
 | str (x:Str):Rp K H (.str x) (.str x)
 | ty (n:String):Rp K H (.ty n) (.ty (.nm n))
 | dic {a:Addr} {kvs:List (Key×V)} (h:H a=some (.dK kvs)):Rp K H (.ref a) .dic
 | xc {a C:Addr} (h:H a=some (.ext (PySem.W.OfCls a C))) (k:PySem.W.XcOk K C):Rp K H (.ref a) (.ty (.xc C))
 | scr {a:Addr} {vs:List V} {xs:List U} (h:SqL K H a vs) (hl:vs.length=xs.length) (hi:∀ (i:Nat) (v:V) (x:U),vs[i]?=some v→xs[i]?=some x→Rp K H v x):Rp K H (.ref a) (.scr xs)
 | tup {a:Addr} {vs:List V} {xs:List U} (h:SqT K H a vs) (hl:vs.length=xs.length) (hi:∀ (i:Nat) (v:V) (x:U),vs[i]?=some v→xs[i]?=some x→Rp K H v x):Rp K H (.ref a) (.tup xs)
 | lst {a:Addr} {vs:List V} {xs:List U} (h:H a=some (.lst vs)) (hl:vs.length=xs.length) (hi:∀ (i:Nat) (v:V) (x:U),vs[i]?=some v→xs[i]?=some x→Rp K H v x):Rp K H (.ref a) (.lst xs)
theorem Rp.same {K:PySem.W.Frag} {H H':Hp} {v:V} {u:U} (e:aJ H H') (h:Rp K H v u):Rp K H' v u:=by
 induction h with
 | non=> exact .non
 | bl b=> exact .bl b
 | int i=> exact .int i
 | str x=> exact .str x
 | ty n=> exact .ty n
 | dic h=> exact .dic (e _ _ h)
 | xc h k=> exact .xc (e _ _ h) k
 | scr h hl hi ih=> exact .scr (e.seq h) hl ih
 | tup h hl hi ih=> exact .tup (e.tup h) hl ih
 | lst h hl hi ih=> exact .lst (e _ _ h) hl ih
structure Rps (K:PySem.W.Frag) (H:Hp) (vs:List V) (xs:List U):Prop where
 len:vs.length=xs.length
 at_:∀ (i:Nat) (v:V) (x:U),vs[i]?=some v→xs[i]?=some x→Rp K H v x
theorem Rps.same {K:PySem.W.Frag} {H H':Hp} {vs:List V} {xs:List U} (e:aJ H H') (h:Rps K H vs xs):Rps K H' vs xs:=⟨h.len,fun i v x a b=> (h.at_ i v x a b).same e⟩
theorem Rps.nil {K:PySem.W.Frag} {H:Hp}:Rps K H [] []:=⟨rfl,fun i v x h=> by simp at h⟩
theorem Rps.cons {K:PySem.W.Frag} {H:Hp} {v:V} {x:U} {vs:List V} {xs:List U} (h:Rp K H v x) (t:Rps K H vs xs):Rps K H (v::vs) (x::xs):=by
 refine ⟨by simp [t.len],fun i a b h1 h2=> ?_⟩
 cases i with
 | zero=> simp at h1 h2; subst h1; subst h2; exact h
 | succ i=> exact t.at_ i a b (by simpa using h1) (by simpa using h2)
theorem Rps.snoc {K:PySem.W.Frag} {H:Hp} {vs ws:List V} {xs ys:List U} (h:Rps K H vs xs) (t:Rps K H ws ys):Rps K H (vs++ws) (xs++ys):=by
 refine ⟨by simp [h.len,t.len],fun i a b h1 h2=> ?_⟩
 by_cases hi:i < vs.length
 ·rw [List.getElem?_append_left hi] at h1
  rw [List.getElem?_append_left (by rw [← h.len]; exact hi)] at h2
  exact h.at_ i a b h1 h2
 ·have hle:vs.length≤i:=Nat.le_of_not_lt hi
  rw [List.getElem?_append_right hle] at h1
  rw [List.getElem?_append_right (by rw [← h.len]; exact hle),← h.len] at h2
  exact t.at_ _ a b h1 h2
theorem Rps.get {K:PySem.W.Frag} {H:Hp} {vs:List V} {xs:List U} {i:Nat} {x:U} (h:Rps K H vs xs) (e:xs[i]?=some x):∃ v,vs[i]?=some v∧Rp K H v x:=by
 have hi:i < vs.length:=by rw [h.len]; exact (List.getElem?_eq_some_iff.mp e).1
 exact ⟨vs[i],List.getElem?_eq_getElem hi,h.at_ i _ x (List.getElem?_eq_getElem hi) e⟩
theorem Rps.atI {K:PySem.W.Frag} {H:Hp} {vs:List V} {xs:List U} {i:Int} {x:U} (h:Rps K H vs xs) (e:L2.atI xs i=some x):∃ v,L2.atI vs i=some v∧Rp K H v x:=by
 unfold L2.atI at e ⊢
 rw [h.len]
 cases q:ixN xs.length i with
 | none=> rw [q] at e; cases e
 | some j=>
  rw [q] at e
  obtain ⟨v,h1,h2⟩:=h.get (show xs[j]?=some x from e)
  exact ⟨v,h1,h2⟩
theorem Rps.cons_inv {K:PySem.W.Frag} {H:Hp} {vs:List V} {x:U} {xs:List U} (h:Rps K H vs (x::xs)):∃ v ws,vs=v::ws∧Rp K H v x∧Rps K H ws xs:=by
 cases vs with
 | nil=> have:=h.len; simp at this
 | cons v ws=>
  refine ⟨v,ws,rfl,h.at_ 0 v x rfl rfl,by have:=h.len; simpa using this,fun i a b h1 h2=> h.at_ (i+1) a b (by simpa using h1) (by simpa using h2)⟩
theorem Rps.nil_inv {K:PySem.W.Frag} {H:Hp} {vs:List V} (h:Rps K H vs []):vs=[]:=List.length_eq_zero_iff.mp (by rw [h.len]; rfl)
inductive Sl where
 | val (u:U) | own (xs:List U)
abbrev PSt:=List (Option Sl)
def xG (K:PySem.W.Frag) (H:Hp) (O O0:List Addr) (v:V):Sl→Prop
 | .val u=> Rp K (hid H O) v u
 | .own xs=> ∃ a vs,v=.ref a∧a∈O∧a ∉ O0∧H a=some (.lst vs)∧Rps K (hid H O) vs xs
structure Rs (K:PySem.W.Frag) (H0:Hp) (O0:List Addr) (ps:PSt) (σ:St) (H:Hp) (O:List Addr):Prop where
 same:aJ H0 H
 old:∀ a∈O0,a∈O
 new:∀ a∈O,a∈O0∨H0 a=none
 dom:∀ a∈O,H a≠none
 len:σ.length=ps.length
 at_:∀ (i:Nat) (s:Sl),ps[i]?=some (some s)→∃ v,σ[i]?=some (some v)∧xG K H O O0 v s
 inj:∀ (i j:Nat) (xs ys:List U) (a:Addr),ps[i]?=some (some (.own xs))→ps[j]?=some (some (.own ys))→σ[i]?=some (some (.ref a))→σ[j]?=some (some (.ref a))→i=j
section
variable {K:PySem.W.Frag} {H0 H H':Hp} {O0 O:List Addr} {ps:PSt} {σ:St}
theorem xG.same {v:V} {s:Sl} (e:aJ H H') (h:xG K H O O0 v s):xG K H' O O0 v s:=by
 cases s with
 | val u=> exact Rp.same (bu e) h
 | own xs=> obtain ⟨a,vs,h1,h2,h3,h4,h5⟩:=h; exact ⟨a,vs,h1,h2,h3,e _ _ h4,h5.same (bu e)⟩
theorem Rs.go (R:Rs K H0 O0 ps σ H O) (e:aJ H H'):Rs K H0 O0 ps σ H' O:=
 ⟨R.same.trans e,R.old,R.new,fun a ha z=> R.dom a ha (e.free z),R.len,fun i s h=> let ⟨v,h1,h2⟩:=R.at_ i s h; ⟨v,h1,h2.same e⟩,R.inj⟩
theorem dw {α:Type} {xs:List α} {i j:Nat} {y x:α} (h:(xs.set i y)[j]?=some x):(i=j∧x=y)∨(i≠j∧xs[j]?=some x):=by
 by_cases e:i=j
 ·subst e
  rw [List.getElem?_set] at h
  simp at h
  exact .inl ⟨rfl,h.2.symm⟩
 ·rw [List.getElem?_set_ne e] at h
  exact .inr ⟨e,h⟩
theorem gQ {α:Type} {xs:List α} {i:Nat} {y:α} (h:i < xs.length):(xs.set i y)[i]?=some y:=by rw [List.getElem?_set]; simp [h]
theorem aG {α:Type} {xs:List α} {i:Nat} {y:α} (h:xs[i]?=some y):i < xs.length:=(List.getElem?_eq_some_iff.mp h).1
theorem jQ {i:Nat} {u:U} {j:Nat} {xs:List U} (h:(ps.set i (some (.val u)))[j]?=some (some (.own xs))):i≠j∧ps[j]?=some (some (.own xs)):=by
 rcases dw h with ⟨_,e⟩ | h
 ·cases e
 ·exact h
theorem Rs.set {i:Nat} {v:V} {u:U} (R:Rs K H0 O0 ps σ H O) (r:Rp K (hid H O) v u):Rs K H0 O0 (ps.set i (some (.val u))) (σ.set i (some v)) H O:=by
 refine ⟨R.same,R.old,R.new,R.dom,by simp [R.len],fun j s h=> ?_,fun j k xs ys a h1 h2 h3 h4=> ?_⟩
 ·rcases dw h with ⟨e,q⟩ | ⟨n,q⟩
  ·subst e
   cases q
   have hi:=aG h
   rw [List.length_set] at hi
   exact ⟨v,gQ (by rw [R.len]; exact hi),r⟩
  ·obtain ⟨w,h1,h2⟩:=R.at_ j s q
   exact ⟨w,by rw [List.getElem?_set_ne n]; exact h1,h2⟩
 ·obtain ⟨n1,q1⟩:=jQ h1
  obtain ⟨n2,q2⟩:=jQ h2
  rw [List.getElem?_set_ne n1] at h3
  rw [List.getElem?_set_ne n2] at h4
  exact R.inj j k xs ys a q1 q2 h3 h4
theorem Rs.drop {i:Nat} {o:Option V} (R:Rs K H0 O0 ps σ H O):Rs K H0 O0 (ps.set i none) (σ.set i o) H O:=by
 have key:∀ {j:Nat} {s:Sl},(ps.set i none)[j]?=some (some s)→i≠j∧ps[j]?=some (some s):=fun {j s} h=> by
  rcases dw h with ⟨_,e⟩ | h
  ·cases e
  ·exact h
 refine ⟨R.same,R.old,R.new,R.dom,by simp [R.len],fun j s h=> ?_,fun j k xs ys a h1 h2 h3 h4=> ?_⟩
 ·obtain ⟨n,q⟩:=key h
  obtain ⟨w,h1,h2⟩:=R.at_ j s q
  exact ⟨w,by rw [List.getElem?_set_ne n]; exact h1,h2⟩
 ·obtain ⟨n1,q1⟩:=key h1
  obtain ⟨n2,q2⟩:=key h2
  rw [List.getElem?_set_ne n1] at h3
  rw [List.getElem?_set_ne n2] at h4
  exact R.inj j k xs ys a q1 q2 h3 h4
theorem Rs.own {i:Nat} {a:Addr} {vs:List V} {xs:List U} (R:Rs K H0 O0 ps σ H O) (e:aJ H H') (n:H a=none) (h:H' a=some (.lst vs)) (r:Rps K (hid H' (a::O)) vs xs):
  Rs K H0 O0 (ps.set i (some (.own xs))) (σ.set i (some (.ref a))) H' (a::O):=by
 have na:a ∉ O:=fun z=> R.dom a z n
 have na0:a ∉ O0:=fun z=> na (R.old a z)
 have n0:H0 a=none:=R.same.free n
 have noref:∀ (j:Nat) (ys:List U),ps[j]?=some (some (.own ys))→σ[j]?≠some (some (.ref a)):=fun j ys h1 h2=> by
  obtain ⟨v,h3,b,ws,h4,h5,_⟩:=R.at_ j _ h1
  rw [h2] at h3
  cases h3
  cases h4
  exact na h5
 refine ⟨R.same.trans e,fun b hb=> List.mem_cons_of_mem _ (R.old b hb),fun b hb=> ?_,fun b hb z=> ?_,by simp [R.len],fun j s q=> ?_,fun j k ys zs b h1 h2 h3 h4=> ?_⟩
 ·rcases List.mem_cons.mp hb with y | y
  ·subst y; exact .inr n0
  ·exact R.new b y
 ·rcases List.mem_cons.mp hb with y | y
  ·subst y; rw [h] at z; cases z
  ·exact R.dom b y (e.free z)
 ·rcases dw q with ⟨e',q'⟩ | ⟨ne,q'⟩
  ·subst e'
   cases q'
   have hi:=aG q
   rw [List.length_set] at hi
   exact ⟨.ref a,gQ (by rw [R.len]; exact hi),a,vs,rfl,List.mem_cons_self,na0,h,r⟩
  ·obtain ⟨w,h1,h2⟩:=R.at_ j s q'
   refine ⟨w,by rw [List.getElem?_set_ne ne]; exact h1,?_⟩
   cases s with
   | val u=> exact Rp.same (bP e n) h2
   | own ys=>
    obtain ⟨b,ws,k1,k2,k3,k4,k5⟩:=h2
    exact ⟨b,ws,k1,List.mem_cons_of_mem _ k2,k3,e _ _ k4,k5.same (bP e n)⟩
 ·rcases dw h1 with ⟨e1,q1⟩ | ⟨n1,q1⟩ <;> rcases dw h2 with ⟨e2,q2⟩ | ⟨n2,q2⟩
  ·rw [← e1,← e2]
  ·subst e1
   have hi:=aG h3
   rw [List.length_set] at hi
   rw [gQ hi] at h3
   cases h3
   rw [List.getElem?_set_ne n2] at h4
   exact absurd h4 (noref k zs q2)
  ·subst e2
   have hi:=aG h4
   rw [List.length_set] at hi
   rw [gQ hi] at h4
   cases h4
   rw [List.getElem?_set_ne n1] at h3
   exact absurd h3 (noref j ys q1)
  ·rw [List.getElem?_set_ne n1] at h3
   rw [List.getElem?_set_ne n2] at h4
   exact R.inj j k ys zs b q1 q2 h3 h4
theorem Rs.write {i:Nat} {a:Addr} {vs:List V} {xs ys:List U} (R:Rs K H0 O0 ps σ H O) (hp:ps[i]?=some (some (.own xs))) (hs:σ[i]?=some (some (.ref a))) (r:Rps K (hid H O) vs ys):
  Rs K H0 O0 (ps.set i (some (.own ys))) σ (upd H a (.lst vs)) O:=by
 obtain ⟨v,h1,b,ws,h2,h3,h4,h5,h6⟩:=R.at_ i _ hp
 rw [hs] at h1
 cases h1
 cases h2
 have h0:H0 a=none:=(R.new a h3).resolve_left h4
 have eh:hid (upd H a (.lst vs)) O=hid H O:=lf h3
 refine ⟨R.same.put h0 _,R.old,R.new,fun b hb z=> ?_,by simp [R.len],fun j s q=> ?_,fun j k zs us b q1 q2 q3 q4=> ?_⟩
 ·by_cases e:b=a
  ·subst e; rw [aU] at z; cases z
  ·rw [a_ e] at z; exact R.dom b hb z
 ·rcases dw q with ⟨e',q'⟩ | ⟨ne,q'⟩
  ·subst e'
   cases q'
   exact ⟨.ref a,hs,a,vs,rfl,h3,h4,aU,by rw [eh]; exact r⟩
  ·obtain ⟨w,k1,k2⟩:=R.at_ j s q'
   refine ⟨w,k1,?_⟩
   cases s with
   | val u=> exact (show Rp K (hid (upd H a (.lst vs)) O) w u by rw [eh]; exact k2)
   | own zs=>
    obtain ⟨b,us,e1,e2,e3,e4,e5⟩:=k2
    subst e1
    have:b≠a:=fun z=> by subst z; exact ne (R.inj i j xs zs b hp q' hs k1)
    exact ⟨b,us,rfl,e2,e3,by rw [a_ this]; exact e4,by rw [eh]; exact e5⟩
 ·have c1:∃ zs',ps[j]?=some (some (.own zs')):=by
   rcases dw q1 with ⟨e,_⟩ | ⟨_,z⟩
   ·subst e; exact ⟨_,hp⟩
   ·exact ⟨_,z⟩
  have c2:∃ zs',ps[k]?=some (some (.own zs')):=by
   rcases dw q2 with ⟨e,_⟩ | ⟨_,z⟩
   ·subst e; exact ⟨_,hp⟩
   ·exact ⟨_,z⟩
  obtain ⟨_,c1⟩:=c1
  obtain ⟨_,c2⟩:=c2
  exact R.inj j k _ _ b c1 c2 q3 q4
def SubP:PSt→PSt→Prop
 | [],[]=> True
 | none::p,_::q=> SubP p q
 | some s::p,t::q=> t=some s∧SubP p q
 | _,_=> False
theorem SubP.at_:∀ {p q:PSt},SubP p q→p.length=q.length∧∀ (i:Nat) (s:Sl),p[i]?=some (some s)→q[i]?=some (some s)
 | [],[],_=> ⟨rfl,fun i s h=> by simp at h⟩
 | none::p,t::q,h=> by
  obtain ⟨h1,h2⟩:=SubP.at_ (p:=p) (q:=q) h
  refine ⟨by simp [h1],fun i s e=> ?_⟩
  cases i with
  | zero=> simp at e
  | succ i=> exact h2 i s (by simpa using e)
 | some s0::p,t::q,h=> by
  obtain ⟨h0,h⟩:=h
  obtain ⟨h1,h2⟩:=SubP.at_ (p:=p) (q:=q) h
  refine ⟨by simp [h1],fun i s e=> ?_⟩
  cases i with
  | zero=> simp at e; subst e; rw [h0]; rfl
  | succ i=> exact h2 i s (by simpa using e)
 | [],_::_,h=> h.elim
 | none::_,[],h=> h.elim
 | some _::_,[],h=> h.elim
theorem Rs.sub {ps':PSt} (R:Rs K H0 O0 ps σ H O) (h:SubP ps' ps):Rs K H0 O0 ps' σ H O:=by
 obtain ⟨h1,h2⟩:=h.at_
 exact ⟨R.same,R.old,R.new,R.dom,R.len.trans h1.symm,fun i s e=> R.at_ i s (h2 i s e),fun i j xs ys a e1 e2=> R.inj i j xs ys a (h2 _ _ e1) (h2 _ _ e2)⟩
end
def Ev (X:Cx) (H0:Hp) (O0:List Addr) (ps:PSt) (e:Expr) (u:U):Prop:=
 PE X e fun σ H Q=> ∃ O,Rs X.K H0 O0 ps σ H O∧∀ v H',aJ H H'→Rp X.K (hid H' O) v u→Q v H'
def EvN (X:Cx) (H0:Hp) (O0:List Addr) (ps:PSt) (e:Expr) (xs:List U):Prop:=
 PE X e fun σ H Q=> ∃ O,Rs X.K H0 O0 ps σ H O∧∀ a vs H',aJ H H'→H a=none→H' a=some (.lst vs)→Rps X.K (hid H' (a::O)) vs xs→Q (.ref a) H'
def Tt (X:Cx) (H0:Hp) (O0:List Addr) (ps:PSt) (e:Expr) (b:Bool):Prop:=
 PT X e fun σ H Q=> ∃ O,Rs X.K H0 O0 ps σ H O∧∀ H',aJ H H'→Q b H'
def Tw (X:Cx) (H0:Hp) (O0:List Addr) (ps:PSt) (e:Expr) (b:Bool):Prop:=
 PW X e fun σ H Q=> ∃ O,Rs X.K H0 O0 ps σ H O∧∀ H',aJ H H'→Q b H'
def EvA (X:Cx) (H0:Hp) (O0:List Addr) (ps:PSt) (es:List Expr) (us:List U):Prop:=
 PA X es fun σ H Q=> ∃ O,Rs X.K H0 O0 ps σ H O∧∀ vs H',aJ H H'→Rps X.K (hid H' O) vs us→Q vs H'
theorem PE.mono {X:Cx} {e:Expr} {t t':TE} (h:PE X e t) (m:∀ σ H Q,t' σ H Q→t σ H Q):PE X e t':=fun pins s σ H Q I q=> h pins s σ H Q I (m σ H Q q)
theorem PT.mono {X:Cx} {e:Expr} {t t':TT} (h:PT X e t) (m:∀ σ H Q,t' σ H Q→t σ H Q):PT X e t':=fun pins s σ H Q I q=> h pins s σ H Q I (m σ H Q q)
theorem PW.mono {X:Cx} {e:Expr} {t t':TT} (h:PW X e t) (m:∀ σ H Q,t' σ H Q→t σ H Q):PW X e t':=fun wh pins s σ H Q I q=> h wh pins s σ H Q I (m σ H Q q)
theorem PA.mono {X:Cx} {e:List Expr} {t t':TA} (h:PA X e t) (m:∀ σ H Q,t' σ H Q→t σ H Q):PA X e t':=fun pos pins s σ H Q I q=> h pos pins s σ H Q I (m σ H Q q)
theorem PS.mono {X:Cx} {e:Stmt} {t t':TS} (h:PS X e t) (m:∀ D σ H,t' D σ H→t D σ H):PS X e t':=fun pins s σ H D I q=> h pins s σ H D I (m D σ H q)
theorem PSs.mono {X:Cx} {e:List Stmt} {t t':TS} (h:PSs X e t) (m:∀ D σ H,t' D σ H→t D σ H):PSs X e t':=fun pins s σ H D I q=> h pins s σ H D I (m D σ H q)
section
variable {X:Cx} {H0:Hp} {O0:List Addr} {ps:PSt} {a b c e:Expr} {es:List Expr} {pos p:Pos} {u x y:U} {xs ys us:List U} {i j:Int}
theorem EvN.ev (h:EvN X H0 O0 ps e xs):Ev X H0 O0 ps e (.lst xs):=PE.mono h fun σ H Q ⟨O,R,k⟩=> ⟨O,R,fun a vs H' s n h r=> by
 have na:a ∉ O:=fun z=> R.dom a z n
 have less:aJ (hid H' (a::O)) (hid H' O):=eI fun b hb=> List.mem_cons_of_mem _ hb
 exact k _ H' s (.lst (dU h na) (r.same less).len (r.same less).at_)⟩
theorem aa (i:Nat) {x:Str} {u:U} (h:ps[i]?=some (some (.val u))) (hN:X.N[i]?=some x:=by rfl) (hv:Vis X.env.scope x:=by first | exact Or.inl rfl | exact Or.inr (Or.inl rfl) | exact Or.inr (Or.inr rfl)) (hd:(x==("__debug__":Str))=false:=by decide)
  (hcd:(x==("__classdict__":Str))=false:=by decide):Ev X H0 O0 ps (.Name x pos) u:=PE.mono (gA hN hv hd hcd) fun σ H Q ⟨O,R,k⟩=> by
 obtain ⟨v,h1,h2⟩:=R.at_ i _ h
 exact ⟨v,h1,k v H (.refl H) h2⟩
theorem ai {i j pos}:Ev X H0 O0 ps (.Constant (.int i) j pos) (.int i):=PE.mono yQ fun _ H _ ⟨_,_,k⟩=> k _ H (.refl H) (.int i)
theorem i9 {i j pos}:Ev X H0 O0 ps (.Constant (.bool i) j pos) (.bl i):=PE.mono Aa fun _ H _ ⟨_,_,k⟩=> k _ H (.refl H) (.bl i)
theorem qc {i j pos}:Ev X H0 O0 ps (.Constant (.str i) j pos) (.str i):=PE.mono yy fun _ H _ ⟨_,_,k⟩=> k _ H (.refl H) (.str i)
theorem cS {x:Str} {n:String} {pos:Pos} (hg:Gl X x) (hm:X.mg x=none) (hv:bootBuiltins x=some (.type n)) (hn:x≠"__name__":=by decide) (hd:(x==("__debug__":Str))=false:=by decide):Ev X H0 O0 ps (.Name x pos) (.ty (.nm n)):=
 PE.mono (Au hg hm hv hn hd) fun _ H _ ⟨_,_,k⟩=> k _ H (.refl H) (.ty n)
theorem two {ta tb:TE} {σ:St} {H:Hp} {Q:VK} {O:List Addr} {r:R2} (R:Rs X.K H0 O0 ps σ H O)
  (ha:∀ σ H Q,(∃ O,Rs X.K H0 O0 ps σ H O∧∀ v H',aJ H H'→Rp X.K (hid H' O) v x→Q v H')→ta σ H Q) (hb:∀ σ H Q,(∃ O,Rs X.K H0 O0 ps σ H O∧∀ v H',aJ H H'→Rp X.K (hid H' O) v y→Q v H')→tb σ H Q)
  (h:∀ v w H',aJ H H'→Rs X.K H0 O0 ps σ H' O→Rp X.K (hid H' O) v x→Rp X.K (hid H' O) w y→r v w H' Q):tOp r ta tb σ H Q:=
 ha σ H _ ⟨O,R,fun v H1 s1 r1=> hb σ H1 _ ⟨O,R.go s1,fun w H2 s2 r2=> h v w H2 (s1.trans s2) (R.go (s1.trans s2)) (r1.same (bu s2)) r2⟩⟩
theorem yl {op:Operator} {g:Int→Int→Int} (ho:OpR X (binaryOp op) (rI0 fun i j=> .int (g i j))) (ha:Ev X H0 O0 ps a (.int i)) (hb:Ev X H0 O0 ps b (.int j)):Ev X H0 O0 ps (.BinOp a op b pos) (.int (g i j)):=
 PE.mono (tP ho ha hb) fun σ H Q ⟨O,R,k⟩=> two (x:=.int i) (y:=.int j) R (fun _ _ _ z=> z) (fun _ _ _ z=> z) fun v w H' s _ r1 r2=> by
  cases r1; cases r2; exact ⟨i,j,rfl,rfl,k _ H' s (.int _)⟩
theorem m8 {op:Operator} {C:Int→Int→Prop} {g:Int→Int→Int} (ho:OpR X (binaryOp op) (rI C fun i j=> .int (g i j))) (ha:Ev X H0 O0 ps a (.int i)) (hb:Ev X H0 O0 ps b (.int j)) (hc:C i j):Ev X H0 O0 ps (.BinOp a op b pos) (.int (g i j)):=
 PE.mono (tP ho ha hb) fun σ H Q ⟨O,R,k⟩=> two (x:=.int i) (y:=.int j) R (fun _ _ _ z=> z) (fun _ _ _ z=> z) fun v w H' s _ r1 r2=> by
  cases r1; cases r2; exact ⟨i,j,rfl,rfl,hc,k _ H' s (.int _)⟩
theorem bX (ha:Ev X H0 O0 ps a (.int i)) (hb:Ev X H0 O0 ps b (.int j)):Ev X H0 O0 ps (.BinOp a .Add b pos) (.int (i+j)):=yl zf ha hb
theorem bv (ha:Ev X H0 O0 ps a (.int i)) (hb:Ev X H0 O0 ps b (.int j)):Ev X H0 O0 ps (.BinOp a .Sub b pos) (.int (i - j)):=yl zj ha hb
theorem bh (ha:Ev X H0 O0 ps a (.int i)) (hb:Ev X H0 O0 ps b (.int j)) (hc:IntMulOk i j):Ev X H0 O0 ps (.BinOp a .Mult b pos) (.int (i * j)):=m8 wa ha hb hc
theorem fi (ha:Ev X H0 O0 ps a (.int i)) (hb:Ev X H0 O0 ps b (.int j)) (hc:yc i j):Ev X H0 O0 ps (.BinOp a .FloorDiv b pos) (.int (i / j)):=m8 uA ha hb hc
theorem y6 (ha:Ev X H0 O0 ps a (.int i)) (hb:Ev X H0 O0 ps b (.int j)) (hc:xZ i j):Ev X H0 O0 ps (.BinOp a .FloorDiv b pos) (.int (i.fdiv j)):=m8 tD ha hb hc
theorem eL (ha:Ev X H0 O0 ps a (.int i)) (hb:Ev X H0 O0 ps b (.int j)) (hc:0 < j):Ev X H0 O0 ps (.BinOp a .Mod b pos) (.int (i % j)):=m8 yS ha hb hc
theorem ko (ha:Ev X H0 O0 ps a (.int i)) (hb:Ev X H0 O0 ps b (.int j)) (hc:Av i j):Ev X H0 O0 ps (.BinOp a .Pow b pos) (.int (i ^ j.toNat)):=m8 y9 ha hb hc
theorem cU (ha:Ev X H0 O0 ps a (.int i)):Ev X H0 O0 ps (.UnaryOp .USub a pos) (.int (-i)):=
 PE.mono (Ar y8 ha) fun σ H Q ⟨O,R,k⟩=> ⟨O,R,fun v H' s r=> by cases r; exact ⟨i,rfl,k _ H' s (.int _)⟩⟩
end
end L2
namespace L2
open PySem PySem.Spec PyProof.Rows
mutual
def eqW:U→U→Bool
 | .non,.non=> true
 | .bl a,.bl b=> a==b
 | .bl a,.int j=> (if a then 1 else 0)==j
 | .int i,.bl b=> i==(if b then 1 else 0)
 | .int i,.int j=> i==j
 | .str a,.str b=> a==b
 | .tup xs,.tup ys=> eqWs xs ys
 | .lst xs,.lst ys=> eqWs xs ys
 | .lst xs,.scr ys=> eqWs xs ys
 | .scr xs,.lst ys=> eqWs xs ys
 | .scr xs,.scr ys=> eqWs xs ys
 | _,_=> false
def eqWs:List U→List U→Bool
 | [],[]=> true
 | x::xs,y::ys=> eqW x y && eqWs xs ys
 | _,_=> false
end
mutual
def okU:Nat→U→Bool
 | _,.ty _=> false
 | _,.dic=> false
 | 0,.tup _=> false
 | 0,.lst _=> false
 | 0,.scr _=> false
 | n+1,.tup xs=> okUs n xs
 | n+1,.lst xs=> okUs n xs
 | n+1,.scr xs=> okUs n xs
 | _,_=> true
def okUs:Nat→List U→Bool
 | _,[]=> true
 | n,x::xs=> okU n x && okUs n xs
end
theorem i0:∀ {n:Nat} {xs:List U} {i:Nat} {x:U},okUs n xs=true→xs[i]?=some x→okU n x=true
 | n,[],i,x,_,h=> by simp at h
 | n,y::xs,0,x,h,e=> by simp at e; subst e; simp [okUs] at h; exact h.1
 | n,y::xs,i+1,x,h,e=> by simp [okUs] at h; exact i0 (i:=i) h.2 (by simpa using e)
theorem dk:∀ (xs ys:List U),((List.range (min xs.length ys.length)).all (fun j=> eqW (xs.getD j .non) (ys.getD j .non)) && xs.length==ys.length)=eqWs xs ys
 | [],[]=> rfl
 | [],y::ys=> by simp [eqWs]
 | x::xs,[]=> by simp [eqWs]
 | x::xs,y::ys=> by
  have ih:=dk xs ys
  rw [eqWs,← ih]
  simp only [List.length_cons,Nat.succ_min_succ]
  rw [List.range_succ_eq_map,List.all_cons,List.all_map]
  have e:((xs.length+1==ys.length+1))=(xs.length==ys.length):=by simp
  rw [e,Bool.and_assoc]
  rfl
theorem Rp.one {X:Cx} {pins:List (Addr×Obj)} {σ:St} {H:Hp} {s:Shared} (I:Inv X pins σ H s) {v:V} {x:U} (h:Rp X.K H v x):∀ {n:Nat} {y:U},Rp X.K H v y→okU n x=true→eqW x y=true:=by
 have key:∀ {vs ws:List V} {xs ys:List U},vs=ws→vs.length=xs.length→ws.length=ys.length→(∀ (i:Nat) (x y:U),xs[i]?=some x→ys[i]?=some y→eqW x y=true)→eqWs xs ys=true:=fun {vs ws xs ys} e h1 h2 hh=> by
  subst e
  rw [← dk,Bool.and_eq_true,kL]
  refine ⟨fun j hj=> ?_,by simp [← h1,← h2]⟩
  have j1:j < xs.length:=by omega
  have j2:j < ys.length:=by omega
  rw [List.getD_eq_getElem?_getD,List.getElem?_eq_getElem j1,List.getD_eq_getElem?_getD,List.getElem?_eq_getElem j2]
  exact hh j _ _ (List.getElem?_eq_getElem j1) (List.getElem?_eq_getElem j2)
 have key2:∀ {vs:List V} {xs ys:List U} {n:Nat},vs.length=xs.length→(∀ (i:Nat) (v:V) (x:U),vs[i]?=some v→xs[i]?=some x→∀ {n:Nat} {y:U},Rp X.K H v y→okU n x=true→eqW x y=true)→(∀ (i:Nat) (v:V) (y:U),vs[i]?=some v→ys[i]?=some y→Rp X.K H v y)→okUs n xs=true→
   ∀ (i:Nat) (x y:U),xs[i]?=some x→ys[i]?=some y→eqW x y=true:=fun {vs xs ys n} h1 ih hi ok i x y e1 e2=> by
  have hlt:i < vs.length:=by rw [h1]; exact aG e1
  exact ih i _ x (List.getElem?_eq_getElem hlt) e1 (hi i _ y (List.getElem?_eq_getElem hlt) e2) (i0 ok e1)
 induction h with
 | non=> intro n y q _; cases q; rfl
 | bl b=> intro n y q _; cases q; simp [eqW]
 | int i=> intro n y q _; cases q; simp [eqW]
 | str i=> intro n y q _; cases q; simp [eqW]
 | ty=> intro n y q ok; simp [okU] at ok
 | dic=> intro n y q ok; simp [okU] at ok
 | xc=> intro n y q ok; simp [okU] at ok
 | @scr a vs xs hq hl hi ih=>
  intro n y q ok
  cases n with
  | zero=> simp [okU] at ok
  | succ n=>
   rw [okU] at ok
   cases q with
   | scr hq' hl' hi'=> rw [eqW]; have e:=I.list_inj hq hq'; subst e; exact key rfl hl hl' (key2 hl (fun i v x a b=> ih i v x a b) hi' ok)
   | lst hq' hl' hi'=> rw [eqW]; have e:=I.list_inj hq (SqL.of hq'); subst e; exact key rfl hl hl' (key2 hl (fun i v x a b=> ih i v x a b) hi' ok)
   | xc hq' kk=>
    exfalso
    obtain ⟨_,_,pl,_⟩:=I.list hq
    obtain ⟨o,n,e,c,_⟩:=pl
    exact PySem.W.XcOk.off (I.hok _ _ hq').1 e c
   | dic hq'=>
    exfalso
    obtain ⟨_,_,pl,_⟩:=I.list hq
    obtain ⟨o,n,e,c,_⟩:=pl
    obtain ⟨_,_,_,_,o',_,_,e',ex,_⟩:=I.hok _ _ hq'
    rw [e] at e'; cases e'
    rw [ex.1] at c; exact absurd (Value.type.inj c) (by decide)
   | tup hq' hl' hi'=>
    exfalso
    obtain ⟨_,_,pl,_⟩:=I.list hq
    obtain ⟨_,_,pt,_⟩:=I.tuple hq'
    exact SeqAt.ne_of_list_tuple pl.isList pt rfl
 | @tup a vs xs hq hl hi ih=>
  intro n y q ok
  cases n with
  | zero=> simp [okU] at ok
  | succ n=>
   rw [okU] at ok
   cases q with
   | tup hq' hl' hi'=> rw [eqW]; have e:=I.tuple_inj hq hq'; subst e; exact key rfl hl hl' (key2 hl (fun i v x a b=> ih i v x a b) hi' ok)
   | scr hq' hl' hi'=>
    exfalso
    obtain ⟨_,_,pl,_⟩:=I.list hq'
    obtain ⟨_,_,pt,_⟩:=I.tuple hq
    exact SeqAt.ne_of_list_tuple pl.isList pt rfl
   | lst hq' hl' hi'=>
    exfalso
    obtain ⟨_,_,pl,_⟩:=I.list (SqL.of hq')
    obtain ⟨_,_,pt,_⟩:=I.tuple hq
    exact SeqAt.ne_of_list_tuple pl.isList pt rfl
   | xc hq' kk=>
    exfalso
    obtain ⟨_,_,pt,_⟩:=I.tuple hq
    obtain ⟨o,e,c,_⟩:=pt
    exact PySem.W.XcOk.off (I.hok _ _ hq').1 e c
   | dic hq'=>
    exfalso
    obtain ⟨_,_,pt,_⟩:=I.tuple hq
    obtain ⟨o,e,c,_⟩:=pt
    obtain ⟨_,_,_,_,o',_,_,e',ex,_⟩:=I.hok _ _ hq'
    rw [e] at e'; cases e'
    rw [ex.1] at c; exact absurd (Value.type.inj c) (by decide)
 | @lst a vs xs hq hl hi ih=>
  intro n y q ok
  cases n with
  | zero=> simp [okU] at ok
  | succ n=>
   rw [okU] at ok
   cases q with
   | lst hq' hl' hi'=> rw [eqW]; have e:=I.list_inj (SqL.of hq) (SqL.of hq'); subst e; exact key rfl hl hl' (key2 hl (fun i v x a b=> ih i v x a b) hi' ok)
   | scr hq' hl' hi'=> rw [eqW]; have e:=I.list_inj (SqL.of hq) hq'; subst e; exact key rfl hl hl' (key2 hl (fun i v x a b=> ih i v x a b) hi' ok)
   | tup hq' hl' hi'=>
    exfalso
    obtain ⟨_,_,pl,_⟩:=I.list (SqL.of hq)
    obtain ⟨_,_,pt,_⟩:=I.tuple hq'
    exact SeqAt.ne_of_list_tuple pl.isList pt rfl
   | xc hq' kk=>
    exfalso
    rw [hq] at hq'; cases hq'
   | dic hq'=>
    exfalso
    rw [hq] at hq'; cases hq'
theorem IsU.list {X:Cx} {pins:List (Addr×Obj)} {σ:St} {H:Hp} {s:Shared} (I:Inv X pins σ H s) {a:Addr} {xs:List U} {vs:List V} (h:SqL X.K H a vs) (hl:vs.length=xs.length):∃ its:List Value,aL vs its∧s.heap.IsList a its.toArray∧its.length=xs.length:=by
 obtain ⟨its,r,pl,_⟩:=I.list h
 exact ⟨its,r,pl.isList,by rw [← r.length,hl]⟩
theorem IsU.tup {X:Cx} {pins:List (Addr×Obj)} {σ:St} {H:Hp} {s:Shared} (I:Inv X pins σ H s) {a:Addr} {xs:List U} {vs:List V} (h:SqT X.K H a vs) (hl:vs.length=xs.length):∃ its:List Value,aL vs its∧IsTup s.heap a its.toArray∧its.length=xs.length:=by
 obtain ⟨its,r,pl,_⟩:=I.tuple h
 exact ⟨its,r,pl,by rw [← r.length,hl]⟩
section
variable {X:Cx} {pins:List (Addr×Obj)} {σ:St} {H:Hp} {s:Shared}
theorem cx (I:Inv X pins σ H s) {n:Nat} {vs ws:List V} {xs ys:List U} {its its2:List Value} (r1:aL vs its) (r2:aL ws its2) (hl1:vs.length=xs.length) (hl2:ws.length=ys.length)
  (h1:∀ (i:Nat) (v:V) (x:U),vs[i]?=some v→xs[i]?=some x→Rp X.K H v x) (h2:∀ (i:Nat) (v:V) (x:U),ws[i]?=some v→ys[i]?=some x→Rp X.K H v x) (ok1:okUs n xs=true) (ok2:okUs n ys=true) {A:Around}
  (rc0:∀ (x y:U) (v w:V) (p q:Value),Rp X.K H v x→Rp X.K H w y→aY v p→aY w q→okU n x=true→okU n y=true→SeqAt.RcAt A.in1 s p q (eqW x y)) (hu:A.units+n+1 < cLine)
  (j:Nat) (j1:j < its.length) (j2:j < its2.length):SeqAt.EqAt A.in1 s its[j] its2[j] (eqW (xs.getD j .non) (ys.getD j .non)):=by
 have a1:j < vs.length:=by rw [r1.length]; exact j1
 have a2:j < ws.length:=by rw [r2.length]; exact j2
 have b1:j < xs.length:=by omega
 have b2:j < ys.length:=by omega
 rw [List.getD_eq_getElem?_getD,List.getElem?_eq_getElem b1,List.getD_eq_getElem?_getD,List.getElem?_eq_getElem b2,Option.getD_some,Option.getD_some]
 have R1:=h1 j vs[j] xs[j] (List.getElem?_eq_getElem a1) (List.getElem?_eq_getElem b1)
 have R2:=h2 j ws[j] ys[j] (List.getElem?_eq_getElem a2) (List.getElem?_eq_getElem b2)
 obtain ⟨u1,e1,q1⟩:=r1.get (List.getElem?_eq_getElem a1)
 obtain ⟨u2,e2,q2⟩:=r2.get (List.getElem?_eq_getElem a2)
 rw [List.getElem?_eq_getElem j1] at e1
 rw [List.getElem?_eq_getElem j2] at e2
 cases e1; cases e2
 have o1:=i0 ok1 (List.getElem?_eq_getElem b1)
 have o2:=i0 ok2 (List.getElem?_eq_getElem b2)
 generalize vs[j]=v at *
 generalize ws[j]=w at *
 generalize its[j]=p at *
 generalize its2[j]=q at *
 generalize xs[j]=x at *
 generalize ys[j]=y at *
 have main:=rc0 x y v w p q R1 R2 q1 q2 o1 o2
 have ref_ref:∀ (a b:Addr),p=.ref a→q=.ref b→SeqAt.EqAt A.in1 s p q (eqW x y):=fun a b ea eb=> by
  subst ea eb
  by_cases e:a=b
  ·subst e
   have e2:v=w:=q1.inj q2
   subst e2
   rw [R1.one I R2 o1]
   exact SeqAt.EqAt.same _
  ·exact SeqAt.EqAt.of_refs e main
 have hu1:A.in1.units < cLine:=by show A.units+1 < _; omega
 cases R1 with
 | non=>
  cases (show p=Value.none from q1)
  cases R2 with
  | non=> cases (show q=Value.none from q2); exact SeqAt.EqAt.same _
  | bl b=> cases (show q=Value.bool b from q2); exact SeqAt.EqAt.none_bool b
  | int i=> obtain ⟨t,rfl⟩:=(show ∃ t,q=Value.int i t from q2); exact SeqAt.EqAt.none_int i t
  | str i=> obtain ⟨t,rfl⟩:=(show ∃ t,q=Value.str i t from q2); exact SeqAt.EqAt.none_str i t
  | ty=> simp [okU] at o2
  | dic=> simp [okU] at o2
  | xc=> simp [okU] at o2
  | scr hq hl hi=> cases q2; obtain ⟨_,_,pl,_⟩:=IsU.list I hq hl; exact SeqAt.EqAt.none_list pl hu1
  | tup hq hl hi=> cases q2; obtain ⟨_,_,pl,_⟩:=IsU.tup I hq hl; exact SeqAt.EqAt.none_tuple pl hu1
  | lst hq hl hi=> cases q2; obtain ⟨_,_,pl,_⟩:=IsU.list I (SqL.of hq) hl; exact SeqAt.EqAt.none_list pl hu1
 | bl c=>
  cases (show p=Value.bool c from q1)
  cases R2 with
  | non=> cases (show q=Value.none from q2); exact SeqAt.EqAt.bool_none c
  | bl b=> cases (show q=Value.bool b from q2); exact SeqAt.EqAt.bool_bool c b
  | int i=> obtain ⟨t,rfl⟩:=(show ∃ t,q=Value.int i t from q2); exact SeqAt.EqAt.bool_int c i t
  | str i=> obtain ⟨t,rfl⟩:=(show ∃ t,q=Value.str i t from q2); exact SeqAt.EqAt.bool_str c i t
  | ty=> simp [okU] at o2
  | dic=> simp [okU] at o2
  | xc=> simp [okU] at o2
  | scr hq hl hi=> cases q2; obtain ⟨_,_,pl,_⟩:=IsU.list I hq hl; exact SeqAt.EqAt.bool_list c pl hu1
  | tup hq hl hi=> cases q2; obtain ⟨_,_,pl,_⟩:=IsU.tup I hq hl; exact SeqAt.EqAt.bool_tuple c pl hu1
  | lst hq hl hi=> cases q2; obtain ⟨_,_,pl,_⟩:=IsU.list I (SqL.of hq) hl; exact SeqAt.EqAt.bool_list c pl hu1
 | int c=>
  obtain ⟨t0,rfl⟩:=(show ∃ t,p=Value.int c t from q1)
  cases R2 with
  | non=> cases (show q=Value.none from q2); exact SeqAt.EqAt.int_none c t0
  | bl b=> cases (show q=Value.bool b from q2); exact SeqAt.EqAt.int_bool c t0 b
  | int i=> obtain ⟨t,rfl⟩:=(show ∃ t,q=Value.int i t from q2); exact SeqAt.EqAt.int_int c t0 i t
  | str i=> obtain ⟨t,rfl⟩:=(show ∃ t,q=Value.str i t from q2); exact SeqAt.EqAt.int_str c t0 i t
  | ty=> simp [okU] at o2
  | dic=> simp [okU] at o2
  | xc=> simp [okU] at o2
  | scr hq hl hi=> cases q2; obtain ⟨_,_,pl,_⟩:=IsU.list I hq hl; exact SeqAt.EqAt.int_list c t0 pl hu1
  | tup hq hl hi=> cases q2; obtain ⟨_,_,pl,_⟩:=IsU.tup I hq hl; exact SeqAt.EqAt.int_tuple c t0 pl hu1
  | lst hq hl hi=> cases q2; obtain ⟨_,_,pl,_⟩:=IsU.list I (SqL.of hq) hl; exact SeqAt.EqAt.int_list c t0 pl hu1
 | str c=>
  obtain ⟨t0,rfl⟩:=(show ∃ t,p=Value.str c t from q1)
  cases R2 with
  | non=> cases (show q=Value.none from q2); exact SeqAt.EqAt.str_none c t0
  | bl b=> cases (show q=Value.bool b from q2); exact SeqAt.EqAt.str_bool c t0 b
  | int i=> obtain ⟨t,rfl⟩:=(show ∃ t,q=Value.int i t from q2); exact SeqAt.EqAt.str_int c t0 i t
  | str i=> obtain ⟨t,rfl⟩:=(show ∃ t,q=Value.str i t from q2); exact SeqAt.EqAt.str_str c t0 i t
  | ty=> simp [okU] at o2
  | dic=> simp [okU] at o2
  | xc=> simp [okU] at o2
  | scr hq hl hi=> cases q2; obtain ⟨_,_,pl,_⟩:=IsU.list I hq hl; exact SeqAt.EqAt.str_list c t0 pl hu1
  | tup hq hl hi=> cases q2; obtain ⟨_,_,pl,_⟩:=IsU.tup I hq hl; exact SeqAt.EqAt.str_tuple c t0 pl hu1
  | lst hq hl hi=> cases q2; obtain ⟨_,_,pl,_⟩:=IsU.list I (SqL.of hq) hl; exact SeqAt.EqAt.str_list c t0 pl hu1
 | ty=> simp [okU] at o1
 | dic=> simp [okU] at o1
 | xc=> simp [okU] at o1
 | @scr a vs xs hq hl hi=>
  cases q1
  obtain ⟨_,_,pl,_⟩:=IsU.list I hq hl
  cases R2 with
  | non=> cases (show q=Value.none from q2); exact SeqAt.EqAt.list_none pl hu1
  | bl b=> cases (show q=Value.bool b from q2); exact SeqAt.EqAt.list_bool b pl hu1
  | int i=> obtain ⟨t,rfl⟩:=(show ∃ t,q=Value.int i t from q2); exact SeqAt.EqAt.list_int i t pl hu1
  | str i=> obtain ⟨t,rfl⟩:=(show ∃ t,q=Value.str i t from q2); exact SeqAt.EqAt.list_str i t pl hu1
  | ty=> simp [okU] at o2
  | dic=> simp [okU] at o2
  | xc=> simp [okU] at o2
  | scr=> exact ref_ref _ _ rfl q2
  | tup=> exact ref_ref _ _ rfl q2
  | lst=> exact ref_ref _ _ rfl q2
 | @lst a vs xs hq hl hi=>
  cases q1
  obtain ⟨_,_,pl,_⟩:=IsU.list I (SqL.of hq) hl
  cases R2 with
  | non=> cases (show q=Value.none from q2); exact SeqAt.EqAt.list_none pl hu1
  | bl b=> cases (show q=Value.bool b from q2); exact SeqAt.EqAt.list_bool b pl hu1
  | int i=> obtain ⟨t,rfl⟩:=(show ∃ t,q=Value.int i t from q2); exact SeqAt.EqAt.list_int i t pl hu1
  | str i=> obtain ⟨t,rfl⟩:=(show ∃ t,q=Value.str i t from q2); exact SeqAt.EqAt.list_str i t pl hu1
  | ty=> simp [okU] at o2
  | dic=> simp [okU] at o2
  | xc=> simp [okU] at o2
  | scr=> exact ref_ref _ _ rfl q2
  | tup=> exact ref_ref _ _ rfl q2
  | lst=> exact ref_ref _ _ rfl q2
 | @tup a vs xs hq hl hi=>
  cases q1
  obtain ⟨_,_,pl,_⟩:=IsU.tup I hq hl
  cases R2 with
  | non=> cases (show q=Value.none from q2); exact SeqAt.EqAt.tuple_none pl hu1
  | bl b=> cases (show q=Value.bool b from q2); exact SeqAt.EqAt.tuple_bool b pl hu1
  | int i=> obtain ⟨t,rfl⟩:=(show ∃ t,q=Value.int i t from q2); exact SeqAt.EqAt.tuple_int i t pl hu1
  | str i=> obtain ⟨t,rfl⟩:=(show ∃ t,q=Value.str i t from q2); exact SeqAt.EqAt.tuple_str i t pl hu1
  | ty=> simp [okU] at o2
  | dic=> simp [okU] at o2
  | xc=> simp [okU] at o2
  | scr=> exact ref_ref _ _ rfl q2
  | tup=> exact ref_ref _ _ rfl q2
  | lst=> exact ref_ref _ _ rfl q2
theorem gN {A:Around} {n:Nat} {a b:Addr} {xs ys:List U} {its its2:List Value} (p1:s.heap.IsList a its.toArray) (p2:s.heap.IsList b its2.toArray) (l1:its.length=xs.length) (l2:its2.length=ys.length) (hu:A.units+n < cLine)
  (he:∀ (j:Nat) (j1:j < its.length) (j2:j < its2.length),SeqAt.EqAt A.in1 s its[j] its2[j] (eqW (xs.getD j .non) (ys.getD j .non))):SeqAt.RcAt A s (.ref a) (.ref b) (eqWs xs ys):=by
 by_cases hl:its.length=its2.length
 ·have:=SeqAt.RcAt.lists (A:=A) (s:=s) (e:=fun j=> eqW (xs.getD j .non) (ys.getD j .non)) p1 p2 (by simpa using hl) (by omega) (fun j h1 h2=> by simpa using he j (by simpa using h1) (by simpa using h2))
  rw [← dk,← l1,← l2,hl,Nat.min_self,beq_self_eq_true,Bool.and_true]
  rwa [List.size_toArray,hl] at this
 ·have:=SeqAt.RcAt.lists_lengths (A:=A) (s:=s) p1 p2 (by simpa using hl) (by omega)
  rw [← dk,← l1,← l2,show (its.length==its2.length)=false by simpa using hl,Bool.and_false]
  exact this
theorem wW {A:Around} {n:Nat} {a b:Addr} {xs ys:List U} {its its2:List Value} (p1:IsTup s.heap a its.toArray) (p2:IsTup s.heap b its2.toArray) (l1:its.length=xs.length) (l2:its2.length=ys.length) (hu:A.units+n < cLine)
  (he:∀ (j:Nat) (j1:j < its.length) (j2:j < its2.length),SeqAt.EqAt A.in1 s its[j] its2[j] (eqW (xs.getD j .non) (ys.getD j .non))):SeqAt.RcAt A s (.ref a) (.ref b) (eqWs xs ys):=by
 have:=SeqAt.RcAt.tuples (A:=A) (s:=s) (e:=fun j=> eqW (xs.getD j .non) (ys.getD j .non)) p1 p2 (by omega) (fun j h1 h2=> by simpa using he j (by simpa using h1) (by simpa using h2))
 rw [List.size_toArray,List.size_toArray,l1,l2,dk] at this
 exact this
theorem AD (I:Inv X pins σ H s):∀ (n:Nat) (A:Around) (x y:U) (v w:V) (p q:Value),Rp X.K H v x→Rp X.K H w y→aY v p→aY w q→okU n x=true→okU n y=true→A.units+n < cLine→SeqAt.RcAt A s p q (eqW x y):=by
 intro n
 induction n with
 | zero=>
  intro A x y v w p q R1 R2 q1 q2 o1 o2 hu
  cases R1 with
  | non=>
   cases (show p=Value.none from q1)
   cases R2 with
   | non=> cases (show q=Value.none from q2); exact SeqAt.RcAt.none_none
   | bl b=> cases (show q=Value.bool b from q2); exact SeqAt.RcAt.none_bool b
   | int i=> obtain ⟨t,rfl⟩:=(show ∃ t,q=Value.int i t from q2); exact SeqAt.RcAt.none_int i t
   | str i=> obtain ⟨t,rfl⟩:=(show ∃ t,q=Value.str i t from q2); exact SeqAt.RcAt.none_str i t
   | _=> simp [okU] at o2
  | bl c=>
   cases (show p=Value.bool c from q1)
   cases R2 with
   | non=> cases (show q=Value.none from q2); exact SeqAt.RcAt.bool_none c
   | bl b=> cases (show q=Value.bool b from q2); exact SeqAt.RcAt.bool_bool c b
   | int i=> obtain ⟨t,rfl⟩:=(show ∃ t,q=Value.int i t from q2); exact SeqAt.RcAt.bool_int c i t
   | str i=> obtain ⟨t,rfl⟩:=(show ∃ t,q=Value.str i t from q2); exact SeqAt.RcAt.bool_str c i t
   | _=> simp [okU] at o2
  | int c=>
   obtain ⟨t0,rfl⟩:=(show ∃ t,p=Value.int c t from q1)
   cases R2 with
   | non=> cases (show q=Value.none from q2); exact SeqAt.RcAt.int_none c t0
   | bl b=> cases (show q=Value.bool b from q2); exact SeqAt.RcAt.int_bool c t0 b
   | int i=> obtain ⟨t,rfl⟩:=(show ∃ t,q=Value.int i t from q2); exact SeqAt.RcAt.int_int c t0 i t
   | str i=> obtain ⟨t,rfl⟩:=(show ∃ t,q=Value.str i t from q2); exact SeqAt.RcAt.int_str c t0 i t
   | _=> simp [okU] at o2
  | str c=>
   obtain ⟨t0,rfl⟩:=(show ∃ t,p=Value.str c t from q1)
   cases R2 with
   | non=> cases (show q=Value.none from q2); exact SeqAt.RcAt.str_none c t0
   | bl b=> cases (show q=Value.bool b from q2); exact SeqAt.RcAt.str_bool c t0 b
   | int i=> obtain ⟨t,rfl⟩:=(show ∃ t,q=Value.int i t from q2); exact SeqAt.RcAt.str_int c t0 i t
   | str i=> obtain ⟨t,rfl⟩:=(show ∃ t,q=Value.str i t from q2); exact SeqAt.RcAt.str_str c t0 i t
   | _=> simp [okU] at o2
  | _=> simp [okU] at o1
 | succ n ih=>
  intro A x y v w p q R1 R2 q1 q2 o1 o2 hu
  have hu1:A.units < cLine:=by omega
  have rc0:∀ (x y:U) (v w:V) (p q:Value),Rp X.K H v x→Rp X.K H w y→aY v p→aY w q→okU n x=true→okU n y=true→SeqAt.RcAt A.in1 s p q (eqW x y):=fun x y v w p q r1 r2 k1 k2 z1 z2=> ih A.in1 x y v w p q r1 r2 k1 k2 z1 z2 (by show A.units+1+n < _; omega)
  cases R1 with
  | non=>
   cases (show p=Value.none from q1)
   cases R2 with
   | non=> cases (show q=Value.none from q2); exact SeqAt.RcAt.none_none
   | bl b=> cases (show q=Value.bool b from q2); exact SeqAt.RcAt.none_bool b
   | int i=> obtain ⟨t,rfl⟩:=(show ∃ t,q=Value.int i t from q2); exact SeqAt.RcAt.none_int i t
   | str i=> obtain ⟨t,rfl⟩:=(show ∃ t,q=Value.str i t from q2); exact SeqAt.RcAt.none_str i t
   | ty=> simp [okU] at o2
   | dic=> simp [okU] at o2
   | xc=> simp [okU] at o2
   | scr hq hl hi=> cases q2; obtain ⟨_,_,pl,_⟩:=IsU.list I hq hl; exact SeqAt.RcAt.none_list pl hu1
   | tup hq hl hi=> cases q2; obtain ⟨_,_,pl,_⟩:=IsU.tup I hq hl; exact SeqAt.RcAt.none_tuple pl hu1
   | lst hq hl hi=> cases q2; obtain ⟨_,_,pl,_⟩:=IsU.list I (SqL.of hq) hl; exact SeqAt.RcAt.none_list pl hu1
  | bl c=>
   cases (show p=Value.bool c from q1)
   cases R2 with
   | non=> cases (show q=Value.none from q2); exact SeqAt.RcAt.bool_none c
   | bl b=> cases (show q=Value.bool b from q2); exact SeqAt.RcAt.bool_bool c b
   | int i=> obtain ⟨t,rfl⟩:=(show ∃ t,q=Value.int i t from q2); exact SeqAt.RcAt.bool_int c i t
   | str i=> obtain ⟨t,rfl⟩:=(show ∃ t,q=Value.str i t from q2); exact SeqAt.RcAt.bool_str c i t
   | ty=> simp [okU] at o2
   | dic=> simp [okU] at o2
   | xc=> simp [okU] at o2
   | scr hq hl hi=> cases q2; obtain ⟨_,_,pl,_⟩:=IsU.list I hq hl; exact SeqAt.RcAt.bool_list c pl hu1
   | tup hq hl hi=> cases q2; obtain ⟨_,_,pl,_⟩:=IsU.tup I hq hl; exact SeqAt.RcAt.bool_tuple c pl hu1
   | lst hq hl hi=> cases q2; obtain ⟨_,_,pl,_⟩:=IsU.list I (SqL.of hq) hl; exact SeqAt.RcAt.bool_list c pl hu1
  | int c=>
   obtain ⟨t0,rfl⟩:=(show ∃ t,p=Value.int c t from q1)
   cases R2 with
   | non=> cases (show q=Value.none from q2); exact SeqAt.RcAt.int_none c t0
   | bl b=> cases (show q=Value.bool b from q2); exact SeqAt.RcAt.int_bool c t0 b
   | int i=> obtain ⟨t,rfl⟩:=(show ∃ t,q=Value.int i t from q2); exact SeqAt.RcAt.int_int c t0 i t
   | str i=> obtain ⟨t,rfl⟩:=(show ∃ t,q=Value.str i t from q2); exact SeqAt.RcAt.int_str c t0 i t
   | ty=> simp [okU] at o2
   | dic=> simp [okU] at o2
   | xc=> simp [okU] at o2
   | scr hq hl hi=> cases q2; obtain ⟨_,_,pl,_⟩:=IsU.list I hq hl; exact SeqAt.RcAt.int_list c t0 pl hu1
   | tup hq hl hi=> cases q2; obtain ⟨_,_,pl,_⟩:=IsU.tup I hq hl; exact SeqAt.RcAt.int_tuple c t0 pl hu1
   | lst hq hl hi=> cases q2; obtain ⟨_,_,pl,_⟩:=IsU.list I (SqL.of hq) hl; exact SeqAt.RcAt.int_list c t0 pl hu1
  | str c=>
   obtain ⟨t0,rfl⟩:=(show ∃ t,p=Value.str c t from q1)
   cases R2 with
   | non=> cases (show q=Value.none from q2); exact SeqAt.RcAt.str_none c t0
   | bl b=> cases (show q=Value.bool b from q2); exact SeqAt.RcAt.str_bool c t0 b
   | int i=> obtain ⟨t,rfl⟩:=(show ∃ t,q=Value.int i t from q2); exact SeqAt.RcAt.str_int c t0 i t
   | str i=> obtain ⟨t,rfl⟩:=(show ∃ t,q=Value.str i t from q2); exact SeqAt.RcAt.str_str c t0 i t
   | ty=> simp [okU] at o2
   | dic=> simp [okU] at o2
   | xc=> simp [okU] at o2
   | scr hq hl hi=> cases q2; obtain ⟨_,_,pl,_⟩:=IsU.list I hq hl; exact SeqAt.RcAt.str_list c t0 pl hu1
   | tup hq hl hi=> cases q2; obtain ⟨_,_,pl,_⟩:=IsU.tup I hq hl; exact SeqAt.RcAt.str_tuple c t0 pl hu1
   | lst hq hl hi=> cases q2; obtain ⟨_,_,pl,_⟩:=IsU.list I (SqL.of hq) hl; exact SeqAt.RcAt.str_list c t0 pl hu1
  | ty=> simp [okU] at o1
  | dic=> simp [okU] at o1
  | xc=> simp [okU] at o1
  | @scr a vs xs hq hl hi=>
   cases q1
   obtain ⟨its,r1,pl,l1⟩:=IsU.list I hq hl
   rw [okU] at o1
   cases R2 with
   | non=> cases (show q=Value.none from q2); exact SeqAt.RcAt.list_none pl hu1
   | bl b=> cases (show q=Value.bool b from q2); exact SeqAt.RcAt.list_bool b pl hu1
   | int i=> obtain ⟨t,rfl⟩:=(show ∃ t,q=Value.int i t from q2); exact SeqAt.RcAt.list_int i t pl hu1
   | str i=> obtain ⟨t,rfl⟩:=(show ∃ t,q=Value.str i t from q2); exact SeqAt.RcAt.list_str i t pl hu1
   | ty=> simp [okU] at o2
   | dic=> simp [okU] at o2
   | xc=> simp [okU] at o2
   | scr hq' hl' hi'=> cases q2; rw [okU] at o2; obtain ⟨its2,r2,pl2,l2⟩:=IsU.list I hq' hl'; rw [eqW]; exact gN pl pl2 l1 l2 hu (cx I r1 r2 hl hl' hi hi' o1 o2 rc0 (by omega))
   | lst hq' hl' hi'=> cases q2; rw [okU] at o2; obtain ⟨its2,r2,pl2,l2⟩:=IsU.list I (SqL.of hq') hl'; rw [eqW]; exact gN pl pl2 l1 l2 hu (cx I r1 r2 hl hl' hi hi' o1 o2 rc0 (by omega))
   | tup hq' hl' hi'=> cases q2; obtain ⟨its2,r2,pl2,l2⟩:=IsU.tup I hq' hl'; exact SeqAt.RcAt.list_tuple pl pl2 hu1
  | @lst a vs xs hq hl hi=>
   cases q1
   obtain ⟨its,r1,pl,l1⟩:=IsU.list I (SqL.of hq) hl
   rw [okU] at o1
   cases R2 with
   | non=> cases (show q=Value.none from q2); exact SeqAt.RcAt.list_none pl hu1
   | bl b=> cases (show q=Value.bool b from q2); exact SeqAt.RcAt.list_bool b pl hu1
   | int i=> obtain ⟨t,rfl⟩:=(show ∃ t,q=Value.int i t from q2); exact SeqAt.RcAt.list_int i t pl hu1
   | str i=> obtain ⟨t,rfl⟩:=(show ∃ t,q=Value.str i t from q2); exact SeqAt.RcAt.list_str i t pl hu1
   | ty=> simp [okU] at o2
   | dic=> simp [okU] at o2
   | xc=> simp [okU] at o2
   | scr hq' hl' hi'=> cases q2; rw [okU] at o2; obtain ⟨its2,r2,pl2,l2⟩:=IsU.list I hq' hl'; rw [eqW]; exact gN pl pl2 l1 l2 hu (cx I r1 r2 hl hl' hi hi' o1 o2 rc0 (by omega))
   | lst hq' hl' hi'=> cases q2; rw [okU] at o2; obtain ⟨its2,r2,pl2,l2⟩:=IsU.list I (SqL.of hq') hl'; rw [eqW]; exact gN pl pl2 l1 l2 hu (cx I r1 r2 hl hl' hi hi' o1 o2 rc0 (by omega))
   | tup hq' hl' hi'=> cases q2; obtain ⟨its2,r2,pl2,l2⟩:=IsU.tup I hq' hl'; exact SeqAt.RcAt.list_tuple pl pl2 hu1
  | @tup a vs xs hq hl hi=>
   cases q1
   obtain ⟨its,r1,pl,l1⟩:=IsU.tup I hq hl
   rw [okU] at o1
   cases R2 with
   | non=> cases (show q=Value.none from q2); exact SeqAt.RcAt.tuple_none pl hu1
   | bl b=> cases (show q=Value.bool b from q2); exact SeqAt.RcAt.tuple_bool b pl hu1
   | int i=> obtain ⟨t,rfl⟩:=(show ∃ t,q=Value.int i t from q2); exact SeqAt.RcAt.tuple_int i t pl hu1
   | str i=> obtain ⟨t,rfl⟩:=(show ∃ t,q=Value.str i t from q2); exact SeqAt.RcAt.tuple_str i t pl hu1
   | ty=> simp [okU] at o2
   | dic=> simp [okU] at o2
   | xc=> simp [okU] at o2
   | scr hq' hl' hi'=> cases q2; obtain ⟨its2,r2,pl2,l2⟩:=IsU.list I hq' hl'; exact SeqAt.RcAt.tuple_list pl pl2 hu1
   | lst hq' hl' hi'=> cases q2; obtain ⟨its2,r2,pl2,l2⟩:=IsU.list I (SqL.of hq') hl'; exact SeqAt.RcAt.tuple_list pl pl2 hu1
   | tup hq' hl' hi'=> cases q2; rw [okU] at o2; obtain ⟨its2,r2,pl2,l2⟩:=IsU.tup I hq' hl'; rw [eqW]; exact wW pl pl2 l1 l2 hu (cx I r1 r2 hl hl' hi hi' o1 o2 rc0 (by omega))
end
end L2
namespace L2
open PySem PySem.Spec PyProof.Rows
section
variable {X:Cx} {pins:List (Addr×Obj)} {σ:St} {H:Hp} {s:Shared}
theorem e7 {A:Around} {n:Nat} {a b:Addr} {xs ys:List U} {its its2:List Value} (p1:s.heap.IsList a its.toArray) (p2:s.heap.IsList b its2.toArray) (l1:its.length=xs.length) (l2:its2.length=ys.length) (hu:A.units+n < cLine)
  (he:∀ (j:Nat) (j1:j < its.length) (j2:j < its2.length),SeqAt.EqAt A.in1 s its[j] its2[j] (eqW (xs.getD j .non) (ys.getD j .non))):SeqAt.RcNeAt A s (.ref a) (.ref b) (!eqWs xs ys):=by
 by_cases hl:its.length=its2.length
 ·have:=SeqAt.RcNeAt.lists (A:=A) (s:=s) (e:=fun j=> eqW (xs.getD j .non) (ys.getD j .non)) p1 p2 (by simpa using hl) (by omega) (fun j h1 h2=> by simpa using he j (by simpa using h1) (by simpa using h2))
  rw [← dk,← l1,← l2,hl,Nat.min_self,beq_self_eq_true,Bool.and_true]
  rwa [List.size_toArray,hl] at this
 ·have:=SeqAt.RcNeAt.lists_lengths (A:=A) (s:=s) p1 p2 (by simpa using hl) (by omega)
  rw [← dk,← l1,← l2,show (its.length==its2.length)=false by simpa using hl,Bool.and_false]
  exact this
theorem qV {A:Around} {n:Nat} {a b:Addr} {xs ys:List U} {its its2:List Value} (p1:IsTup s.heap a its.toArray) (p2:IsTup s.heap b its2.toArray) (l1:its.length=xs.length) (l2:its2.length=ys.length) (hu:A.units+n < cLine)
  (he:∀ (j:Nat) (j1:j < its.length) (j2:j < its2.length),SeqAt.EqAt A.in1 s its[j] its2[j] (eqW (xs.getD j .non) (ys.getD j .non))):SeqAt.RcNeAt A s (.ref a) (.ref b) (!eqWs xs ys):=by
 have:=SeqAt.RcNeAt.tuples (A:=A) (s:=s) (e:=fun j=> eqW (xs.getD j .non) (ys.getD j .non)) p1 p2 (by omega) (fun j h1 h2=> by simpa using he j (by simpa using h1) (by simpa using h2))
 rw [List.size_toArray,List.size_toArray,l1,l2,dk] at this
 exact this
theorem zD (I:Inv X pins σ H s) (n:Nat) (A:Around) (x y:U) (v w:V) (p q:Value) (R1:Rp X.K H v x) (R2:Rp X.K H w y) (q1:aY v p) (q2:aY w q) (o1:okU (n+1) x=true) (o2:okU (n+1) y=true) (hu:A.units+(n+1) < cLine):SeqAt.RcNeAt A s p q (!eqW x y):=by
 have hu1:A.units < cLine:=by omega
 have rc0:∀ (x y:U) (v w:V) (p q:Value),Rp X.K H v x→Rp X.K H w y→aY v p→aY w q→okU n x=true→okU n y=true→SeqAt.RcAt A.in1 s p q (eqW x y):=fun x y v w p q r1 r2 k1 k2 z1 z2=> AD I n A.in1 x y v w p q r1 r2 k1 k2 z1 z2 (by show A.units+1+n < _; omega)
 cases R1 with
 | ty=> simp [okU] at o1
 | dic=> simp [okU] at o1
 | xc=> simp [okU] at o1
 | non=>
  cases (show p=Value.none from q1)
  cases R2 with
  | ty=> simp [okU] at o2
  | dic=> simp [okU] at o2
  | xc=> simp [okU] at o2
  | non=> cases (show q=Value.none from q2); exact SeqAt.RcNeAt.none_none
  | bl c2=> cases (show q=Value.bool c2 from q2); exact SeqAt.RcNeAt.none_bool c2
  | int c2=> obtain ⟨t2,rfl⟩:=(show ∃ t,q=Value.int c2 t from q2); exact SeqAt.RcNeAt.none_int c2 t2
  | str c2=> obtain ⟨t2,rfl⟩:=(show ∃ t,q=Value.str c2 t from q2); exact SeqAt.RcNeAt.none_str c2 t2
  | scr hq2 hl2 hi2=> cases q2; obtain ⟨its2,r2,pl2,l2⟩:=IsU.list I hq2 hl2; exact SeqAt.RcNeAt.none_list pl2 hu1
  | tup hq2 hl2 hi2=> cases q2; obtain ⟨its2,r2,pl2,l2⟩:=IsU.tup I hq2 hl2; exact SeqAt.RcNeAt.none_tuple pl2 hu1
  | lst hq2 hl2 hi2=> cases q2; obtain ⟨its2,r2,pl2,l2⟩:=IsU.list I (SqL.of hq2) hl2; exact SeqAt.RcNeAt.none_list pl2 hu1
 | bl c1=>
  cases (show p=Value.bool c1 from q1)
  cases R2 with
  | ty=> simp [okU] at o2
  | dic=> simp [okU] at o2
  | xc=> simp [okU] at o2
  | non=> cases (show q=Value.none from q2); exact SeqAt.RcNeAt.bool_none c1
  | bl c2=> cases (show q=Value.bool c2 from q2); exact SeqAt.RcNeAt.bool_bool c1 c2
  | int c2=> obtain ⟨t2,rfl⟩:=(show ∃ t,q=Value.int c2 t from q2); exact SeqAt.RcNeAt.bool_int c1 c2 t2
  | str c2=> obtain ⟨t2,rfl⟩:=(show ∃ t,q=Value.str c2 t from q2); exact SeqAt.RcNeAt.bool_str c1 c2 t2
  | scr hq2 hl2 hi2=> cases q2; obtain ⟨its2,r2,pl2,l2⟩:=IsU.list I hq2 hl2; exact SeqAt.RcNeAt.bool_list c1 pl2 hu1
  | tup hq2 hl2 hi2=> cases q2; obtain ⟨its2,r2,pl2,l2⟩:=IsU.tup I hq2 hl2; exact SeqAt.RcNeAt.bool_tuple c1 pl2 hu1
  | lst hq2 hl2 hi2=> cases q2; obtain ⟨its2,r2,pl2,l2⟩:=IsU.list I (SqL.of hq2) hl2; exact SeqAt.RcNeAt.bool_list c1 pl2 hu1
 | int c1=>
  obtain ⟨t1,rfl⟩:=(show ∃ t,p=Value.int c1 t from q1)
  cases R2 with
  | ty=> simp [okU] at o2
  | dic=> simp [okU] at o2
  | xc=> simp [okU] at o2
  | non=> cases (show q=Value.none from q2); exact SeqAt.RcNeAt.int_none c1 t1
  | bl c2=> cases (show q=Value.bool c2 from q2); exact SeqAt.RcNeAt.int_bool c1 t1 c2
  | int c2=> obtain ⟨t2,rfl⟩:=(show ∃ t,q=Value.int c2 t from q2); exact SeqAt.RcNeAt.int_int c1 t1 c2 t2
  | str c2=> obtain ⟨t2,rfl⟩:=(show ∃ t,q=Value.str c2 t from q2); exact SeqAt.RcNeAt.int_str c1 t1 c2 t2
  | scr hq2 hl2 hi2=> cases q2; obtain ⟨its2,r2,pl2,l2⟩:=IsU.list I hq2 hl2; exact SeqAt.RcNeAt.int_list c1 t1 pl2 hu1
  | tup hq2 hl2 hi2=> cases q2; obtain ⟨its2,r2,pl2,l2⟩:=IsU.tup I hq2 hl2; exact SeqAt.RcNeAt.int_tuple c1 t1 pl2 hu1
  | lst hq2 hl2 hi2=> cases q2; obtain ⟨its2,r2,pl2,l2⟩:=IsU.list I (SqL.of hq2) hl2; exact SeqAt.RcNeAt.int_list c1 t1 pl2 hu1
 | str c1=>
  obtain ⟨t1,rfl⟩:=(show ∃ t,p=Value.str c1 t from q1)
  cases R2 with
  | ty=> simp [okU] at o2
  | dic=> simp [okU] at o2
  | xc=> simp [okU] at o2
  | non=> cases (show q=Value.none from q2); exact SeqAt.RcNeAt.str_none c1 t1
  | bl c2=> cases (show q=Value.bool c2 from q2); exact SeqAt.RcNeAt.str_bool c1 t1 c2
  | int c2=> obtain ⟨t2,rfl⟩:=(show ∃ t,q=Value.int c2 t from q2); exact SeqAt.RcNeAt.str_int c1 t1 c2 t2
  | str c2=> obtain ⟨t2,rfl⟩:=(show ∃ t,q=Value.str c2 t from q2); exact SeqAt.RcNeAt.str_str c1 t1 c2 t2
  | scr hq2 hl2 hi2=> cases q2; obtain ⟨its2,r2,pl2,l2⟩:=IsU.list I hq2 hl2; exact SeqAt.RcNeAt.str_list c1 t1 pl2 hu1
  | tup hq2 hl2 hi2=> cases q2; obtain ⟨its2,r2,pl2,l2⟩:=IsU.tup I hq2 hl2; exact SeqAt.RcNeAt.str_tuple c1 t1 pl2 hu1
  | lst hq2 hl2 hi2=> cases q2; obtain ⟨its2,r2,pl2,l2⟩:=IsU.list I (SqL.of hq2) hl2; exact SeqAt.RcNeAt.str_list c1 t1 pl2 hu1
 | scr hq1 hl1 hi1=>
  cases q1; obtain ⟨its1,r1,pl1,l1⟩:=IsU.list I hq1 hl1
  cases R2 with
  | ty=> simp [okU] at o2
  | dic=> simp [okU] at o2
  | xc=> simp [okU] at o2
  | non=> cases (show q=Value.none from q2); exact SeqAt.RcNeAt.list_none pl1 hu1
  | bl c2=> cases (show q=Value.bool c2 from q2); exact SeqAt.RcNeAt.list_bool c2 pl1 hu1
  | int c2=> obtain ⟨t2,rfl⟩:=(show ∃ t,q=Value.int c2 t from q2); exact SeqAt.RcNeAt.list_int c2 t2 pl1 hu1
  | str c2=> obtain ⟨t2,rfl⟩:=(show ∃ t,q=Value.str c2 t from q2); exact SeqAt.RcNeAt.list_str c2 t2 pl1 hu1
  | scr hq2 hl2 hi2=> cases q2; obtain ⟨its2,r2,pl2,l2⟩:=IsU.list I hq2 hl2; rw [okU] at o1; rw [okU] at o2; rw [eqW]; exact e7 pl1 pl2 l1 l2 hu (cx I r1 r2 hl1 hl2 hi1 hi2 o1 o2 rc0 (by omega))
  | tup hq2 hl2 hi2=> cases q2; obtain ⟨its2,r2,pl2,l2⟩:=IsU.tup I hq2 hl2; exact SeqAt.RcNeAt.list_tuple pl1 pl2 hu1
  | lst hq2 hl2 hi2=> cases q2; obtain ⟨its2,r2,pl2,l2⟩:=IsU.list I (SqL.of hq2) hl2; rw [okU] at o1; rw [okU] at o2; rw [eqW]; exact e7 pl1 pl2 l1 l2 hu (cx I r1 r2 hl1 hl2 hi1 hi2 o1 o2 rc0 (by omega))
 | tup hq1 hl1 hi1=>
  cases q1; obtain ⟨its1,r1,pl1,l1⟩:=IsU.tup I hq1 hl1
  cases R2 with
  | ty=> simp [okU] at o2
  | dic=> simp [okU] at o2
  | xc=> simp [okU] at o2
  | non=> cases (show q=Value.none from q2); exact SeqAt.RcNeAt.tuple_none pl1 hu1
  | bl c2=> cases (show q=Value.bool c2 from q2); exact SeqAt.RcNeAt.tuple_bool c2 pl1 hu1
  | int c2=> obtain ⟨t2,rfl⟩:=(show ∃ t,q=Value.int c2 t from q2); exact SeqAt.RcNeAt.tuple_int c2 t2 pl1 hu1
  | str c2=> obtain ⟨t2,rfl⟩:=(show ∃ t,q=Value.str c2 t from q2); exact SeqAt.RcNeAt.tuple_str c2 t2 pl1 hu1
  | scr hq2 hl2 hi2=> cases q2; obtain ⟨its2,r2,pl2,l2⟩:=IsU.list I hq2 hl2; exact SeqAt.RcNeAt.tuple_list pl1 pl2 hu1
  | tup hq2 hl2 hi2=> cases q2; obtain ⟨its2,r2,pl2,l2⟩:=IsU.tup I hq2 hl2; rw [okU] at o1; rw [okU] at o2; rw [eqW]; exact qV pl1 pl2 l1 l2 hu (cx I r1 r2 hl1 hl2 hi1 hi2 o1 o2 rc0 (by omega))
  | lst hq2 hl2 hi2=> cases q2; obtain ⟨its2,r2,pl2,l2⟩:=IsU.list I (SqL.of hq2) hl2; exact SeqAt.RcNeAt.tuple_list pl1 pl2 hu1
 | lst hq1 hl1 hi1=>
  cases q1; obtain ⟨its1,r1,pl1,l1⟩:=IsU.list I (SqL.of hq1) hl1
  cases R2 with
  | ty=> simp [okU] at o2
  | dic=> simp [okU] at o2
  | xc=> simp [okU] at o2
  | non=> cases (show q=Value.none from q2); exact SeqAt.RcNeAt.list_none pl1 hu1
  | bl c2=> cases (show q=Value.bool c2 from q2); exact SeqAt.RcNeAt.list_bool c2 pl1 hu1
  | int c2=> obtain ⟨t2,rfl⟩:=(show ∃ t,q=Value.int c2 t from q2); exact SeqAt.RcNeAt.list_int c2 t2 pl1 hu1
  | str c2=> obtain ⟨t2,rfl⟩:=(show ∃ t,q=Value.str c2 t from q2); exact SeqAt.RcNeAt.list_str c2 t2 pl1 hu1
  | scr hq2 hl2 hi2=> cases q2; obtain ⟨its2,r2,pl2,l2⟩:=IsU.list I hq2 hl2; rw [okU] at o1; rw [okU] at o2; rw [eqW]; exact e7 pl1 pl2 l1 l2 hu (cx I r1 r2 hl1 hl2 hi1 hi2 o1 o2 rc0 (by omega))
  | tup hq2 hl2 hi2=> cases q2; obtain ⟨its2,r2,pl2,l2⟩:=IsU.tup I hq2 hl2; exact SeqAt.RcNeAt.list_tuple pl1 pl2 hu1
  | lst hq2 hl2 hi2=> cases q2; obtain ⟨its2,r2,pl2,l2⟩:=IsU.list I (SqL.of hq2) hl2; rw [okU] at o1; rw [okU] at o2; rw [eqW]; exact e7 pl1 pl2 l1 l2 hu (cx I r1 r2 hl1 hl2 hi1 hi2 o1 o2 rc0 (by omega))
end
end L2
namespace L2
open PySem PySem.Spec PyProof.Rows
def OpS (X:Cx) (f:Value→Value→Sem Value) (x y:U) (z:V):Prop:=OpR X f fun v w H Q=> Rp X.K H v x∧Rp X.K H w y∧Q z H
section
variable {X:Cx} {H0:Hp} {O0:List Addr} {ps:PSt} {a b c e:Expr} {es rest:List Expr} {pos p:Pos} {u x y:U} {xs ys us:List U} {i j:Int} {k m:Bool}
theorem Rp.out {K:PySem.W.Frag} {H:Hp} {O:List Addr} {v:V} {u:U} (h:Rp K (hid H O) v u):Rp K H v u:=h.same aw
theorem lZ {op:CmpOp} (ho:OpS X (compareOp op) x y (.bl k)) (ha:Ev X H0 O0 ps a x) (hb:Ev X H0 O0 ps b y) (hm:behindInMarks op b=false:=by first | exact vf _ | with_unfolding_all rfl):Ev X H0 O0 ps (.Compare a [op] [b] pos) (.bl k):=
 PE.mono (xu ho ha hb hm) fun σ H Q ⟨O,R,q⟩=> two R (fun _ _ _ z=> z) (fun _ _ _ z=> z) fun v w H' s _ r1 r2=> ⟨r1.out,r2.out,q _ H' s (.bl _)⟩
theorem aV {op:CmpOp} (ho:OpS X (compareOp op) x y (.bl k)) (ha:Ev X H0 O0 ps a x) (hb:Ev X H0 O0 ps b y) (hm:behindInMarks op b=false:=by first | exact vf _ | with_unfolding_all rfl):Tt X H0 O0 ps (.Compare a [op] [b] pos) k:=
 PT.mono (wG ho ha hb hm) fun σ H Q ⟨O,R,q⟩=> two R (fun _ _ _ z=> z) (fun _ _ _ z=> z) fun v w H' s _ r1 r2=> ⟨r1.out,r2.out,_,rfl,q H' s⟩
theorem v7 {op:CmpOp} {g:Int→Int→Bool} (ho:OpR X (compareOp op) (rI0 fun i j=> .bl (g i j))):OpS X (compareOp op) (.int i) (.int j) (.bl (g i j)):=by
 intro pins s σ H v w p q Q I r1 r2 h
 obtain ⟨h1,h2,h3⟩:=h
 cases h1; cases h2
 exact ho pins s σ H _ _ _ _ Q I r1 r2 ⟨i,j,rfl,rfl,h3⟩
theorem g9:OpS X (compareOp .Lt) (.int i) (.int j) (.bl (decide (i < j))):=v7 z_
theorem AK:OpS X (compareOp .LtE) (.int i) (.int j) (.bl (decide (i≤j))):=v7 Af
theorem jo:OpS X (compareOp .Gt) (.int i) (.int j) (.bl (decide (j < i))):=v7 Ak
theorem AN (hu:X.A.units+10 < cLine) (h1:okU 9 x=true) (h2:okU 9 y=true):OpS X (compareOp .Eq) x y (.bl (eqW x y)):=by
 intro pins s σ H v w p q Q I r1 r2 h
 obtain ⟨k1,k2,k3⟩:=h
 exact AD I 9 X.A x y v w p q k1 k2 r1 r2 h1 h2 (by omega) X.prog X.w _ _ (aT I k3 rfl)
theorem Ag (hu:X.A.units+10 < cLine) (h1:okU 9 x=true) (h2:okU 9 y=true):OpS X (compareOp .NotEq) x y (.bl (!eqW x y)):=by
 intro pins s σ H v w p q Q I r1 r2 h
 obtain ⟨k1,k2,k3⟩:=h
 exact zD I 8 X.A x y v w p q k1 k2 r1 r2 h1 h2 (by omega) X.prog X.w _ _ (aT I k3 rfl)
theorem dX:OpS X (compareOp .Eq) (.int i) (.int j) (.bl (decide (i=j))):=by
 intro pins s σ H v w p q Q I r1 r2 h
 obtain ⟨h1,h2,h3⟩:=h
 cases h1; cases h2
 exact AB pins s σ H _ _ _ _ Q I r1 r2 ⟨rfl,by rw [iO,← Bool.beq_eq_decide_eq] at *; simpa [Bool.beq_eq_decide_eq] using h3⟩
theorem ya:OpS X (compareOp .NotEq) (.int i) (.int j) (.bl (!decide (i=j))):=by
 intro pins s σ H v w p q Q I r1 r2 h
 obtain ⟨h1,h2,h3⟩:=h
 cases h1; cases h2
 exact Ay pins s σ H _ _ _ _ Q I r1 r2 ⟨rfl,by rw [iO]; simpa [Bool.beq_eq_decide_eq] using h3⟩
theorem dP (h:Ev X H0 O0 ps e (.bl k)) (he:∀ whole,isTrue e X.env whole=(do let v ← whole; standAt e.pos; holding [v] (truthy v)):=by intro _; rfl):Tt X H0 O0 ps e k:=
 PT.mono (yI h he) fun σ H Q ⟨O,R,q⟩=> ⟨O,R,fun v H' s r=> by cases r; exact ⟨_,rfl,q H' s⟩⟩
theorem fN (h:Tt X H0 O0 ps a k):Tt X H0 O0 ps (.UnaryOp .Not a pos) (!k):=PT.mono (yL h) fun σ H Q ⟨O,R,q⟩=> ⟨O,R,q⟩
theorem Tw.t (h:Tw X H0 O0 ps e k):Tt X H0 O0 ps e k:=h.pt
theorem ux (h:Tt X H0 O0 ps a k):Tw X H0 O0 ps (.BoolOp .And [a] pos) k:=xx h
theorem ym (h:Tt X H0 O0 ps a k):Tw X H0 O0 ps (.BoolOp .Or [a] pos) k:=yC h
theorem tK (ha:Tt X H0 O0 ps a k) (hb:k=true→Tw X H0 O0 ps (.BoolOp .And (b::rest) pos) m):Tw X H0 O0 ps (.BoolOp .And (a::b::rest) pos) (k && m):=by
 cases k with
 | true=> exact PW.mono (vJ ha (hb rfl)) fun σ H Q ⟨O,R,q⟩=> ⟨O,R,fun H' s=> by exact rG (⟨O,R.go s,fun H2 s2=> q H2 (s.trans s2)⟩)⟩
 | false=> exact PW.mono (vJ ha (fun _ _ _ _ _ _ _ h=> h.elim) (tB':=fun _ _ _=> False)) fun σ H Q ⟨O,R,q⟩=> ⟨O,R,fun H' s=> by exact sH (q H' s)⟩
theorem xh (ha:Tt X H0 O0 ps a k) (hb:k=false→Tw X H0 O0 ps (.BoolOp .Or (b::rest) pos) m):Tw X H0 O0 ps (.BoolOp .Or (a::b::rest) pos) (k || m):=by
 cases k with
 | false=> exact PW.mono (xQ ha (hb rfl)) fun σ H Q ⟨O,R,q⟩=> ⟨O,R,fun H' s=> by exact sH (⟨O,R.go s,fun H2 s2=> q H2 (s.trans s2)⟩)⟩
 | true=> exact PW.mono (xQ ha (fun _ _ _ _ _ _ _ h=> h.elim) (tB':=fun _ _ _=> False)) fun σ H Q ⟨O,R,q⟩=> ⟨O,R,fun H' s=> by exact rG (q H' s)⟩
theorem gg {op} (h:Ev X H0 O0 ps a u):Ev X H0 O0 ps (.BoolOp op [a] pos) u:=y_ h
theorem fj (ha:Ev X H0 O0 ps a (.bl k)) (hb:k=true→Ev X H0 O0 ps (.BoolOp .And (b::rest) pos) (.bl m)):Ev X H0 O0 ps (.BoolOp .And (a::b::rest) pos) (.bl (k && m)):=by
 cases k with
 | true=> exact PE.mono (vL ha (hb rfl)) fun σ H Q ⟨O,R,q⟩=> ⟨O,R,fun v H' s r=> by cases r; exact ⟨_,rfl,by exact rG (⟨O,R.go s,fun v H2 s2 r2=> q v H2 (s.trans s2) r2⟩)⟩⟩
 | false=> exact PE.mono (vL ha (fun _ _ _ _ _ _ h=> h.elim) (tb:=fun _ _ _=> False)) fun σ H Q ⟨O,R,q⟩=> ⟨O,R,fun v H' s r=> by cases r; exact ⟨_,rfl,by exact sH (q _ H' s (.bl _))⟩⟩
theorem gM (ha:Ev X H0 O0 ps a (.bl k)):Ev X H0 O0 ps (.UnaryOp .Not a pos) (.bl (!k)):=PE.mono (yG ha) fun σ H Q ⟨O,R,q⟩=> ⟨O,R,fun v H' s r=> by cases r; exact ⟨_,rfl,q _ H' s (.bl _)⟩⟩
theorem am:EvA X H0 O0 ps [] []:=PA.mono fA fun σ H Q ⟨O,R,q⟩=> q [] H (.refl H) .nil
theorem ac (ha:Ev X H0 O0 ps e u) (hr:EvA X H0 O0 ps es us) (hs:starEach (e::es) X.env=(false,eval e X.env)::starEach es X.env:=by rfl):EvA X H0 O0 ps (e::es) (u::us):=
 PA.mono (dA ha hr hs) fun σ H Q ⟨O,R,q⟩=> ⟨O,R,fun v H1 s1 r1=> ⟨O,R.go s1,fun vs H2 s2 r2=> q _ H2 (s1.trans s2) (.cons (r1.same (bu s2)) r2)⟩⟩
theorem Rs.hidnew {K:PySem.W.Frag} {σ:St} {H:Hp} {O:List Addr} (R:Rs K H0 O0 ps σ H O) {p:Addr} {o:HO} (n:H p=none):hid (upd H p o) O p=some o:=dU aU fun z=> R.dom p z n
theorem Ad {x1} (h:EvA X H0 O0 ps es us) (hz:us.length≤sizeLine:=by first | decide | (simp only [List.length_cons,List.length_nil]; decide)):Ev X H0 O0 ps (.Tuple es x1 pos) (.tup us):=
 PE.mono (yR h) fun σ H Q ⟨O,R,q⟩=> ⟨O,R,fun vs H1 s1 r1=> ⟨by rw [r1.len]; exact hz,fun p hp=> by
  have s2:=aW hp (.tup vs)
  have r2:=r1.same (bu (O:=O) s2)
  exact q _ _ (s1.trans s2) (.tup (SqT.of ((R.go s1).hidnew hp)) r2.len r2.at_)⟩⟩
theorem Aq (h:EvA X H0 O0 ps es us) (hz:us.length≤sizeLine:=by first | decide | (simp only [List.length_cons,List.length_nil]; decide)):EvN X H0 O0 ps (.List es pos) us:=
 PE.mono (zJ h) fun σ H Q ⟨O,R,q⟩=> ⟨O,R,fun vs H1 s1 r1=> ⟨by rw [r1.len]; exact hz,fun p hp=> by
  exact q p vs _ (s1.trans (aW hp _)) (s1.free hp) aU (r1.same (bP (aW hp _) hp))⟩⟩
theorem aE (ha:Ev X H0 O0 ps a x) (hb:Ev X H0 O0 ps b (.int i)) (hx:x.items=some xs) (hi:atI xs i=some u) (hs:lL b:=by intro _ _; rfl):Ev X H0 O0 ps (.Subscript a b pos) u:=
 PE.mono (xR (qz.or zC) ha hb hs) fun σ H Q ⟨O,R,q⟩=> two (y:=.int i) R (fun _ _ _ z=> z) (fun _ _ _ z=> z) fun v w H' s _ r1 r2=> by
  cases r2
  cases r1 with
  | scr h hl hh=> cases hx; obtain ⟨z,h1,h2⟩:=Rps.atI ⟨hl,hh⟩ hi; exact .inl ⟨_,_,i,z,rfl,rfl,aw.seq h,h1,q z H' s h2⟩
  | lst h hl hh=> cases hx; obtain ⟨z,h1,h2⟩:=Rps.atI ⟨hl,hh⟩ hi; exact .inl ⟨_,_,i,z,rfl,rfl,aw.seq (SqL.of h),h1,q z H' s h2⟩
  | tup h hl hh=> cases hx; obtain ⟨z,h1,h2⟩:=Rps.atI ⟨hl,hh⟩ hi; exact .inr ⟨_,_,i,z,rfl,rfl,aw.tup h,h1,q z H' s h2⟩
  | _=> cases hx
theorem pA (n:Nat) {x:Str} (h:ps[n]?=some (some (.own xs))) (hb:Ev X H0 O0 ps b (.int i)) (hi:atI xs i=some u) (hN:X.N[n]?=some x:=by rfl) (hv:Vis X.env.scope x:=by first | exact Or.inl rfl | exact Or.inr (Or.inl rfl) | exact Or.inr (Or.inr rfl)) (hd:(x==("__debug__":Str))=false:=by decide)
  (hcd:(x==("__classdict__":Str))=false:=by decide) (hs:lL b:=by intro _ _; rfl):Ev X H0 O0 ps (.Subscript (.Name x p) b pos) u:=
 PE.mono (xR qz (gA hN hv hd hcd) hb hs) fun σ H Q ⟨O,R,q⟩=> by
  obtain ⟨v,h1,a,vs,rfl,h3,h4,h5,h6⟩:=R.at_ n _ h
  refine ⟨_,h1,O,R,fun w H' s r=> ?_⟩
  cases r
  obtain ⟨z,k1,k2⟩:=h6.atI hi
  exact ⟨a,vs,i,z,rfl,rfl,SqL.of (s _ _ h5),k1,q z H' s (k2.same (bu s))⟩
def gx (X:Cx) (f:Value) (us:List U) (u:U):Prop:=eu X f fun vs H Q=> ∃ O,(∀ a∈O,H a≠none)∧Rps X.K (hid H O) vs us∧∀ v H',aJ H H'→Rp X.K (hid H' O) v u→Q v H'
def xX (X:Cx) (f:Value) (us:List U) (xs:List U):Prop:=eu X f fun vs H Q=> ∃ O,(∀ a∈O,H a≠none)∧Rps X.K (hid H O) vs us∧∀ a vs H',aJ H H'→H a=none→H' a=some (.lst vs)→Rps X.K (hid H' (a::O)) vs xs→Q (.ref a) H'
theorem ao {id:String} {f:Str} (hc:gx X (.builtin id) us u) (hg:Gl X f) (hm:X.mg f=none) (hv:bootBuiltins f=some (.builtin id)) (ha:EvA X H0 O0 ps (e::es) us) (hn:f≠"__name__":=by decide) (hdb:(f==("__debug__":Str))=false:=by decide)
  (he:starEach (e::es) X.env=(false,eval e X.env)::starEach es X.env:=by rfl) (hpl:(backTo pos (starEach es X.env)).any (·.1)=false:=by rfl):Ev X H0 O0 ps (.Call (.Name f p) (e::es) [] pos) u:=
 PE.mono (mF hc hg hm hv ha hn hdb he hpl) fun σ H Q ⟨O,R,q⟩=> ⟨O,R,fun vs H1 s1 r1=> ⟨O,(R.go s1).dom,r1,fun v H2 s2 r2=> q v H2 (s1.trans s2) r2⟩⟩
theorem qB {id:String} {f:Str} (hc:xX X (.type id) us xs) (hg:Gl X f) (hm:X.mg f=none) (hv:bootBuiltins f=some (.type id)) (ha:EvA X H0 O0 ps (e::es) us) (hn:f≠"__name__":=by decide) (hdb:(f==("__debug__":Str))=false:=by decide)
  (he:starEach (e::es) X.env=(false,eval e X.env)::starEach es X.env:=by rfl) (hpl:(backTo pos (starEach es X.env)).any (·.1)=false:=by rfl):EvN X H0 O0 ps (.Call (.Name f p) (e::es) [] pos) xs:=
 PE.mono (sQ hc hg hm hv ha hn hdb he hpl) fun σ H Q ⟨O,R,q⟩=> ⟨O,R,fun vs H1 s1 r1=> ⟨O,(R.go s1).dom,r1,fun a vs H2 s2 n h r2=> q a vs H2 (s1.trans s2) (s1.free n) h r2⟩⟩
theorem cA {K:PySem.W.Frag} {H:Hp} {vs:List V} (h:Rps K H vs [x]):∃ v,vs=[v]∧Rp K H v x:=by
 obtain ⟨v,ws,rfl,h1,h2⟩:=h.cons_inv
 rw [h2.nil_inv]
 exact ⟨v,rfl,h1⟩
theorem i3 {K:PySem.W.Frag} {H:Hp} {vs:List V} (h:Rps K H vs [x,y]):∃ v w,vs=[v,w]∧Rp K H v x∧Rp K H w y:=by
 obtain ⟨v,ws,rfl,h1,h2⟩:=h.cons_inv
 obtain ⟨w,rfl,h3⟩:=cA h2
 exact ⟨v,w,rfl,h1,h3⟩
theorem eu.mono {f:Value} {r r':List V→Hp→VK→Prop} (h:eu X f r) (m:∀ vs H Q,r' vs H Q→r vs H Q):eu X f r':=fun pins s σ H vs us Q I v q=> h pins s σ H vs us Q I v (m vs H Q q)
theorem lj {K:PySem.W.Frag} {H:Hp} {v:V} (h:Rp K H v x) (hx:x.items=some xs):∃ a vs,v=.ref a∧(SqL K H a vs∨SqT K H a vs)∧Rps K H vs xs:=by
 cases h with
 | scr h hl hh=> cases hx; exact ⟨_,_,rfl,.inl h,hl,hh⟩
 | lst h hl hh=> cases hx; exact ⟨_,_,rfl,.inl (SqL.of h),hl,hh⟩
 | tup h hl hh=> cases hx; exact ⟨_,_,rfl,.inr h,hl,hh⟩
 | _=> cases hx
theorem qk {K:PySem.W.Frag} {H:Hp} {O:List Addr} {a:Addr} {vs:List V} (h:SqL K (hid H O) a vs∨SqT K (hid H O) a vs):SqL K H a vs∨SqT K H a vs:=h.imp (fun z=> aw.seq z) fun z=> aw.tup z
theorem dn (hx:x.items=some xs):gx X (.builtin "len") [x] (.int xs.length):=eu.mono gR fun vs H Q ⟨O,d,r,q⟩=> by
 obtain ⟨v,rfl,h⟩:=cA r
 obtain ⟨a,ws,rfl,h1,h2⟩:=lj h hx
 exact ⟨a,ws,rfl,qk h1,by rw [h2.len]; exact q _ H (.refl H) (.int _)⟩
theorem zu (n:Nat) {x:Str} (h:ps[n]?=some (some (.own xs))) (hg:Gl X "len") (hm:X.mg "len"=none) (hN:X.N[n]?=some x:=by rfl) (hv:Vis X.env.scope x:=by first | exact Or.inl rfl | exact Or.inr (Or.inl rfl) | exact Or.inr (Or.inr rfl)) (hd:(x==("__debug__":Str))=false:=by decide)
  (hcd:(x==("__classdict__":Str))=false:=by decide) {pc p':Pos} (hs:starEach [.Name x p'] X.env=(false,eval (.Name x p') X.env)::starEach [] X.env:=by rfl) (hpl:(backTo pos (starEach [] X.env)).any (·.1)=false:=by rfl):Ev X H0 O0 ps (.Call (.Name "len" pc) [.Name x p'] [] pos) (.int xs.length):=
 PE.mono (mF gR hg hm PySem.boot_len (dA (gA hN hv hd hcd) fA hs) (by decide) (by decide) hs hpl) fun σ H Q ⟨O,R,q⟩=> by
  obtain ⟨v,h1,a,vs,rfl,h3,h4,h5,h6⟩:=R.at_ n _ h
  exact ⟨_,h1,a,vs,rfl,.inl (SqL.of h5),by rw [h6.len]; exact q _ H (.refl H) (.int _)⟩
theorem vg:gx X (.builtin "abs") [.int i] (.int (if i < 0 then -i else i)):=eu.mono vQ fun vs H Q ⟨O,d,r,q⟩=> by
 obtain ⟨v,rfl,h⟩:=cA r
 cases h
 exact ⟨i,rfl,q _ H (.refl H) (.int _)⟩
theorem uo (hx:x.items=some xs):xX X (.type "list") [x] xs:=eu.mono ls fun vs H Q ⟨O,d,r,q⟩=> by
 obtain ⟨v,rfl,h⟩:=cA r
 obtain ⟨a,ws,rfl,h1,h2⟩:=lj h hx
 exact ⟨a,ws,rfl,qk h1,fun l hl=> q l ws _ (aW hl _) hl aU (h2.same (bP (aW hl _) hl))⟩
def tyU:U→Value
 | .non=> .type "NoneType" | .bl _=> .type "bool" | .int _=> .type "int" | .str _=> .type "str" | .ty _=> .type "type" | .dic=> .type "dict" | .scr _=> .type "list" | .tup _=> .type "tuple" | .lst _=> .type "list"
theorem aD {n:String} (hn:∀ m,x≠.ty m) (h:PySem.W.kitOne X.K (tyU x) (.type n)=some k):gx X (.builtin "isinstance") [x,.ty (.nm n)] (.bl k):=by
 intro pins s σ H vs us Q I r hq
 obtain ⟨O,d,rs,q⟩:=hq
 obtain ⟨v,w,rfl,h1,h2⟩:=i3 rs
 cases h2
 obtain ⟨p1,p2,rfl,r1,r2⟩:=qa r
 cases (show p2=Value.type n from r2)
 have fin:∀ tk,EP X pins σ Q (.bool k) { s with toks:=tk }:=fun tk=> ⟨.bl k,H,I.tok _,rfl,q _ H (.refl H) (.bl _)⟩
 cases h1 with
 | non=> exact dH I r1 .non h fin
 | bl b=> exact dH I r1 (.bl b) h fin
 | int b=> exact dH I r1 (.int b) h fin
 | str b=> exact dH I r1 (.str b) h fin
 | ty m=> exact absurd rfl (hn _)
 | dic e=> exact dH I r1 (.dK (aw _ _ e)) h fin
 | xc e kk=> exact absurd rfl (hn _)
 | scr e hl hh=>
  cases r1
  obtain ⟨its,_,pl,_⟩:=I.list (aw.seq e)
  obtain ⟨o,nn,e1,e2,_⟩:=pl
  exact PySem.W.kia_one PySem.W.kitx_list I.kIn ⟨o,e1,e2⟩ h (fun z=> nomatch z) fin
 | lst e hl hh=> exact dH I r1 (.lst (aw _ _ e)) h fin
 | tup e hl hh=>
  cases r1
  obtain ⟨its,_,pl,_⟩:=I.tuple (aw.tup e)
  obtain ⟨o,e1,e2,_⟩:=pl
  exact PySem.W.kia_one PySem.W.kitx_tuple I.kIn ⟨o,e1,e2⟩ h (fun z=> nomatch z) fin
end
end L2
namespace L2
open PySem PySem.Spec PyProof.Rows
inductive Out where
 | val (u:U) | new (xs:List U) | exc (C:Addr)
def nU (K:PySem.W.Frag) (H0:Hp) (O0:List Addr) (Q:VK) (E:XK):Out→Prop
 | .val u=> ∀ v H',aJ H0 H'→Rp K (hid H' O0) v u→Q v H'
 | .new xs=> ∀ a vs H',aJ H0 H'→H0 a=none→H' a=some (.lst vs)→Rps K (hid H' (a::O0)) vs xs→Q (.ref a) H'
 | .exc C=> ∀ H',aJ H0 H'→E (.ref C) none H'
theorem nU.later {K:PySem.W.Frag} {H0 H1:Hp} {O0:List Addr} {Q:VK} {E:XK} {o:Out} (e:aJ H0 H1) (h:nU K H0 O0 Q E o):nU K H1 O0 Q E o:=by
 cases o with
 | val u=> exact fun v H' s r=> h v H' (e.trans s) r
 | new xs=> exact fun a vs H' s n q r=> h a vs H' (e.trans s) (e.free n) q r
 | exc C=> exact fun H' s=> h H' (e.trans s)
structure PD where
 nx:PSt→Prop
 rt:Out→Prop
 bk:PSt→Prop:=fun _=> False
 ct:PSt→Prop:=fun _=> False
structure Lf (K:PySem.W.Frag) (H0:Hp) (O0:List Addr) (E:XK) (D:PD) (D':kU):Prop where
 nx:∀ ps σ H O,Rs K H0 O0 ps σ H O→D.nx ps→D'.nx σ H
 bk:∀ ps σ H O,Rs K H0 O0 ps σ H O→D.bk ps→D'.bk σ H
 ct:∀ ps σ H O,Rs K H0 O0 ps σ H O→D.ct ps→D'.ct σ H
 rt:∀ o,D.rt o→nU K H0 O0 D'.rt E o
def Ws (X:Cx) (H0:Hp) (O0:List Addr) (E:XK) (ss:List Stmt) (D:PD) (ps:PSt):Prop:=PSs X ss fun D' σ H=> Lf X.K H0 O0 E D D'∧∃ O,Rs X.K H0 O0 ps σ H O
def W1 (X:Cx) (H0:Hp) (O0:List Addr) (E:XK) (s:Stmt) (D:PD) (ps:PSt):Prop:=PS X s fun D' σ H=> Lf X.K H0 O0 E D D'∧∃ O,Rs X.K H0 O0 ps σ H O
section
variable {X:Cx} {H0:Hp} {O0:List Addr} {E:XK} {ps ps':PSt} {D:PD} {s:Stmt} {ss body:List Stmt} {a b c e:Expr} {es:List Expr} {pos p:Pos} {u x y:U} {xs ys us:List U} {k:Bool}
theorem aQ (h:D.nx ps):Ws X H0 O0 E [] D ps:=PSs.mono xy fun D' σ H ⟨L,O,R⟩=> L.nx ps σ H O R h
theorem ae (h:W1 X H0 O0 E s { D with nx:=fun p=> Ws X H0 O0 E ss D p } ps):Ws X H0 O0 E (s::ss) D ps:=by
 have h2:PSs X ss fun D' σ H=> ∃ p,Ws X H0 O0 E ss D p∧Lf X.K H0 O0 E D D'∧∃ O,Rs X.K H0 O0 p σ H O:=fun pins s σ H D' I ⟨p,w,l,r⟩=> w pins s σ H D' I ⟨l,r⟩
 exact PSs.mono (uq h h2) fun D' σ H ⟨L,O,R⟩=> ⟨⟨fun p σ H O R q=> ⟨p,q,L,O,R⟩,L.bk,L.ct,L.rt⟩,O,R⟩
theorem eM (h:Ws X H0 O0 E ss D ps') (hs:SubP ps' ps):Ws X H0 O0 E ss D ps:=PSs.mono h fun D' σ H ⟨L,O,R⟩=> ⟨L,O,R.sub hs⟩
theorem aF {i:Nat} {x:Str} {pos':Pos} (hN:X.N.Nodup) (hi:X.N[i]?=some x) (hx:Loc X.env.scope x) (he:Ev X H0 O0 ps e u) (h:D.nx (ps.set i (some (.val u)))) (hs:swapsWith e (some (.Name x pos')) pos.line X.env=pure false:=by rfl) (hf:X.fn x=true∨X.env.scope.names.lookup x=some .local:=by first | exact .inl rfl | exact .inr rfl | assumption):
  W1 X H0 O0 E (.Assign [.Name x pos'] e pos) D ps:=PS.mono (vW hN hi hx he hs hf) fun D' σ H ⟨L,O,R⟩=> ⟨O,R,fun v H' s r=> L.nx _ _ _ O ((R.go s).set r) h⟩
theorem jl {i:Nat} {x:Str} {pos':Pos} (hN:X.N.Nodup) (hi:X.N[i]?=some x) (hx:Loc X.env.scope x) (he:EvN X H0 O0 ps e xs) (h:D.nx (ps.set i (some (.own xs)))) (hs:swapsWith e (some (.Name x pos')) pos.line X.env=pure false:=by rfl) (hf:X.fn x=true∨X.env.scope.names.lookup x=some .local:=by first | exact .inl rfl | exact .inr rfl | assumption):
  W1 X H0 O0 E (.Assign [.Name x pos'] e pos) D ps:=PS.mono (vW hN hi hx he hs hf) fun D' σ H ⟨L,O,R⟩=> ⟨O,R,fun a vs H' s n q r=> L.nx _ _ _ _ (R.own s n q r) h⟩
theorem h9 {tb fb:List Stmt} (hc:Tt X H0 O0 ps c k) (h1:k=true→Ws X H0 O0 E tb D ps) (h2:k=false→Ws X H0 O0 E fb D ps):W1 X H0 O0 E (.If c tb fb pos) D ps:=by
 cases k with
 | true=> exact PS.mono (xY hc (h1 rfl) (fun _ _ _ _ _ _ h=> h.elim) (u:=fun _ _ _=> False)) fun D' σ H ⟨L,O,R⟩=> ⟨O,R,fun H' s=> rG ⟨L,O,R.go s⟩⟩
 | false=> exact PS.mono (xY hc (fun _ _ _ _ _ _ h=> h.elim) (h2 rfl) (t:=fun _ _ _=> False)) fun D' σ H ⟨L,O,R⟩=> ⟨O,R,fun H' s=> sH ⟨L,O,R.go s⟩⟩
theorem Rs.ret {K:PySem.W.Frag} {σ:St} {H:Hp} {O:List Addr} {v:V} (R:Rs K H0 O0 ps σ H O) (r:Rp K (hid H O) v u):Rp K (hid H O0) v u:=r.same (eI R.old)
theorem aH (he:Ev X H0 O0 ps e u) (h:D.rt (.val u)):W1 X H0 O0 E (.Return (some e) pos) D ps:=
 PS.mono (ot he) fun D' σ H ⟨L,O,R⟩=> ⟨O,R,fun v H' s r=> L.rt _ h v H' (R.same.trans s) ((R.go s).ret r)⟩
theorem fF (he:EvN X H0 O0 ps e xs) (h:D.rt (.new xs)):W1 X H0 O0 E (.Return (some e) pos) D ps:=
 PS.mono (ot he) fun D' σ H ⟨L,O,R⟩=> ⟨O,R,fun a vs H' s n q r=> L.rt _ h a vs H' (R.same.trans s) (R.same.free n) q (r.same (eI fun b hb=> by
  rcases List.mem_cons.mp hb with y | y
  ·subst y; exact List.mem_cons_self
  ·exact List.mem_cons_of_mem _ (R.old b y)))⟩
theorem om (i:Nat) {x:Str} (hp:ps[i]?=some (some (.own xs))) (h:D.rt (.new xs)) (hN:X.N[i]?=some x:=by rfl) (hv:Vis X.env.scope x:=by first | exact Or.inl rfl | exact Or.inr (Or.inl rfl) | exact Or.inr (Or.inr rfl)) (hd:(x==("__debug__":Str))=false:=by decide)
  (hcd:(x==("__classdict__":Str))=false:=by decide):W1 X H0 O0 E (.Return (some (.Name x p)) pos) D ps:=
 PS.mono (ot (gA hN hv hd hcd)) fun D' σ H ⟨L,O,R⟩=> by
  obtain ⟨v,h1,a,vs,rfl,h3,h4,h5,h6⟩:=R.at_ i _ hp
  refine ⟨_,h1,L.rt _ h a vs H R.same ((R.new a h3).resolve_left h4) h5 (h6.same (eI fun b hb=> ?_))⟩
  rcases List.mem_cons.mp hb with y | y
  ·subst y; exact h3
  ·exact R.old b y
theorem vv (he:Ev X H0 O0 ps e u) (h:D.nx ps) (hs:swapsWith e none pos.line X.env=pure false:=by rfl):W1 X H0 O0 E (.Expr e pos) D ps:=
 PS.mono (g8 he hs) fun D' σ H ⟨L,O,R⟩=> ⟨O,R,fun v H' s r=> L.nx _ _ _ O (R.go s) h⟩
theorem fC (i:Nat) {x:Str} {apos cpos xp:Pos} (hp:ps[i]?=some (some (.own xs))) (ha:Ev X H0 O0 ps e u) (hz:xs.length < sizeLine) (h:D.nx (ps.set i (some (.own (xs++[u])))))
  (hN:X.N[i]?=some x:=by rfl) (hv:Vis X.env.scope x:=by first | exact Or.inl rfl | exact Or.inr (Or.inl rfl) | exact Or.inr (Or.inr rfl)) (hd:(x==("__debug__":Str))=false:=by decide) (hcd:(x==("__classdict__":Str))=false:=by decide)
  (hbase:attributeBase (.Name x xp) "append" X.env (eval (.Name x xp) X.env)=eval (.Name x xp) X.env:=by rfl)
  (hfew:((backTo cpos (starEach [e] X.env)).all (fun x=> !x.1) && (backToKw cpos (keywordEach [] X.env)).all (fun x=> x.1.isSome) && decide ([e].length+([]:List Keyword).length+(if ([]:List Keyword).isEmpty then 0 else 1) < 30))=true:=by rfl)
  (hline:(apos.endLine==cpos.line)=true:=by rfl) (hse:starEach [e] X.env=(false,eval e X.env)::starEach [] X.env:=by rfl) (hplain:(backTo cpos (starEach [] X.env)).any (·.1)=false:=by rfl)
  (hs:swapsWith (.Call (.Attribute (.Name x xp) "append" apos) [e] [] cpos) none pos.line X.env=pure false:=by rfl):W1 X H0 O0 E (.Expr (.Call (.Attribute (.Name x xp) "append" apos) [e] [] cpos) pos) D ps:=
 PS.mono (g8 (xO PySem.F.plainAttrs_list PySem.F.slot_list_append PySem.F.type_list_append ip (gA hN hv hd hcd) (dA ha fA hse) hbase hfew hline hse hplain) hs) fun D' σ H ⟨L,O,R⟩=> by
  obtain ⟨v,h1,a,vs,rfl,h3,h4,h5,h6⟩:=R.at_ i _ hp
  refine ⟨_,h1,.inl ⟨rfl,_,SqL.of h5⟩,O,R,fun w H' s r=> ⟨a,vs,w,rfl,rfl,s _ _ h5,by rw [h6.len]; exact hz,?_⟩⟩
  exact L.nx _ _ _ O ((R.go s).write hp h1 ((h6.same (bu s)).snoc (.cons r .nil))) h
theorem xV (i:Nat) {x:Str} {apos cpos xp:Pos} (hp:ps[i]?=some (some (.own xs))) (hne:xs≠[]) (h:D.nx (ps.set i (some (.own xs.dropLast))))
  (hN:X.N[i]?=some x:=by rfl) (hv:Vis X.env.scope x:=by first | exact Or.inl rfl | exact Or.inr (Or.inl rfl) | exact Or.inr (Or.inr rfl)) (hd:(x==("__debug__":Str))=false:=by decide) (hcd:(x==("__classdict__":Str))=false:=by decide)
  (hbase:attributeBase (.Name x xp) "pop" X.env (eval (.Name x xp) X.env)=eval (.Name x xp) X.env:=by rfl)
  (hline:(apos.endLine==cpos.line)=true:=by rfl)
  (hs:swapsWith (.Call (.Attribute (.Name x xp) "pop" apos) [] [] cpos) none pos.line X.env=pure false:=by rfl):W1 X H0 O0 E (.Expr (.Call (.Attribute (.Name x xp) "pop" apos) [] [] cpos) pos) D ps:=
 PS.mono (g8 (yJ PySem.F.plainAttrs_list PySem.F.slot_list_pop PySem.F.type_list_pop zh (gA hN hv hd hcd) hbase hline) hs) fun D' σ H ⟨L,O,R⟩=> by
  obtain ⟨v,h1,a,vs,rfl,h3,h4,h5,h6⟩:=R.at_ i _ hp
  have hpos:0 < vs.length:=by rw [h6.len]; exact List.length_pos_iff.mpr hne
  have hlt:vs.length - 1 < vs.length:=by omega
  refine ⟨_,h1,.inl ⟨rfl,_,SqL.of h5⟩,a,vs,vs[vs.length - 1],rfl,rfl,h5,List.getElem?_eq_getElem hlt,?_⟩
  refine L.nx _ _ _ O (R.write hp h1 ⟨by simp [h6.len],fun j v x e1 e2=> ?_⟩) h
  rw [List.getElem?_dropLast] at e1 e2
  split at e1
  ·split at e2
   ·exact h6.at_ j v x e1 e2
   ·cases e2
  ·cases e1
end
end L2
namespace L2
open PySem PySem.Spec PyProof.Rows
def lF:List Nat→TGs
 | []=> An
 | j::js=> xP (nI j) (lF js)
def setAll:PSt→List Nat→List U→PSt
 | ps,j::js,u::us=> setAll (ps.set j (some (.val u))) js us
 | ps,_,_=> ps
def iV:St→List Nat→List V→St
 | σ,j::js,u::us=> iV (σ.set j (some u)) js us
 | σ,_,_=> σ
theorem Rs.setAll {K:PySem.W.Frag} {H0:Hp} {O0:List Addr} {H:Hp} {O:List Addr}:∀ {js:List Nat} {ps:PSt} {σ:St} {vs:List V} {us:List U},Rs K H0 O0 ps σ H O→Rps K (hid H O) vs us→Rs K H0 O0 (L2.setAll ps js us) (iV σ js vs) H O
 | [],ps,σ,vs,us,R,r=> by cases us <;> cases vs <;> exact R
 | j::js,ps,σ,vs,[],R,r=> by rw [r.nil_inv]; exact R
 | j::js,ps,σ,vs,u::us,R,r=> by
  obtain ⟨v,ws,rfl,h1,h2⟩:=r.cons_inv
  exact Rs.setAll (js:=js) (R.set h1) h2
theorem h7 {Q:St→Hp→Prop} {H:Hp}:∀ {js:List Nat} {σ:St} {vs:List V},vs.length=js.length→Q (iV σ js vs) H→lF js vs σ H Q
 | [],σ,[],_,q=> ⟨rfl,q⟩
 | j::js,σ,v::vs,e,q=> ⟨v,vs,rfl,h7 (js:=js) (by simpa using e) q⟩
 | [],_,_::_,e,_=> by simp at e
 | _::_,_,[],e,_=> by simp at e
def TgS (X:Cx) (H0:Hp) (O0:List Addr) (tg:Expr) (ps:PSt) (u:U) (ps':PSt):Prop:=
 PG X tg fun v σ H Q=> ∃ O,Rs X.K H0 O0 ps σ H O∧Rp X.K (hid H O) v u∧∀ σ' H',aJ H H'→Rs X.K H0 O0 ps' σ' H' O→Q σ' H'
theorem PG.mono {X:Cx} {e:Expr} {t t':TG} (h:PG X e t) (m:∀ v σ H Q,t' v σ H Q→t v σ H Q):PG X e t':=fun pins s σ H v u Q I r q=> h pins s σ H v u Q I r (m v σ H Q q)
theorem PI.mono {X:Cx} {tg e:Expr} {t t':TI} (h:PI X tg e t) (m:∀ σ H Q,t' σ H Q→t σ H Q):PI X tg e t':=fun pins s σ H Q I q=> h pins s σ H Q I (m σ H Q q)
def Yl (K:PySem.W.Frag) (J:It) (G:Hp) (xs:List U):Prop:=
 ∀ H2,aJ G H2→(∀ i,i < xs.length→J.go i H2∧∀ x H3,J.yld i H2 x H3→H3=H2∧∃ u,xs[i]?=some u∧Rp K G x u)∧J.stop xs.length H2
def EvI (X:Cx) (H0:Hp) (O0:List Addr) (ps:PSt) (tg iter:Expr) (xs:List U):Prop:=
 PI X tg iter fun σ H R=> ∃ O,Rs X.K H0 O0 ps σ H O∧∀ J H',aJ H H'→Yl X.K J (hid H' O) xs→R J H'
section
variable {X:Cx} {H0:Hp} {O0:List Addr} {E:XK} {ps ps':PSt} {D:PD} {s:Stmt} {ss body:List Stmt} {a b c e tg iter:Expr} {es:List Expr} {pos p:Pos} {u x y:U} {xs ys us:List U} {k:Bool}
theorem gH {i:Nat} {x:Str} (hN:X.N.Nodup) (hi:X.N[i]?=some x) (hx:Loc X.env.scope x) (hf:X.fn x=true∨X.env.scope.names.lookup x=some .local:=by first | exact .inl rfl | exact .inr rfl | assumption):TgS X H0 O0 (.Name x pos) ps u (ps.set i (some (.val u))):=
 PG.mono (bi hN hi hx hf) fun v σ H Q ⟨O,R,r,q⟩=> q _ H (.refl H) (R.set r)
theorem x9 {k:Nat} (js:List Nat) (hc:X.calm=true) (h:PGs X es (lF js)) (hl:us.length=js.length) (hn:(assignEach es X.env).length=js.length:=by rfl) (hst:(assignEach es X.env).findIdx? (·.1)=none:=by rfl):TgS X H0 O0 (.Tuple es k pos) ps (.tup us) (setAll ps js us):=
 PG.mono (oM hc h hn hst) fun v σ H Q ⟨O,R,r,q⟩=> by
  cases r with
  | tup hq hl' hh=> exact ⟨_,_,rfl,aw.tup hq,hl'.trans hl,h7 (hl'.trans hl) (q _ H (.refl H) (R.setAll ⟨hl',hh⟩))⟩
theorem AG (he:Ev X H0 O0 ps e u) (hg:TgS X H0 O0 tg ps u ps') (h:D.nx ps') (hs:swapsWithSole [tg] e pos.line X.env=pure false:=by rfl) (hw:swappedStores [tg] e X.env=pure none:=by rfl)
  (h1:(assignEach [tg] X.env).map (·.2)=[assign tg X.env]:=by rfl):W1 X H0 O0 E (.Assign [tg] e pos) D ps:=
 PS.mono (y3 he hg hs hw h1) fun D' σ H ⟨L,O,R⟩=> ⟨O,R,fun v H1 s1 r1=> ⟨O,R.go s1,r1,fun σ' H2 s2 R2=> L.nx _ _ _ O R2 h⟩⟩
theorem AA {i j:Nat} {x y:Str} {px py pt:Pos} {kt k2 pt2} {u w:U} (hc:X.calm=true) (hN:X.N.Nodup) (hi:X.N[i]?=some x) (hj:X.N[j]?=some y) (hij:i≠j)
  (hx:X.env.scope.names.lookup x=some .local) (hy:X.env.scope.names.lookup y=some .local) (ha:EvA X H0 O0 ps [a,b] [u,w])
  (hw:swappedStores [.Tuple [.Name x px,.Name y py] kt pt] (.Tuple [a,b] k2 pt2) X.env=pure (some [x,y])) (h:D.nx ((ps.set i (some (.val u))).set j (some (.val w))))
  (hs:swapsWithSole [.Tuple [.Name x px,.Name y py] kt pt] (.Tuple [a,b] k2 pt2) pos.line X.env=pure false:=by rfl):
  W1 X H0 O0 E (.Assign [.Tuple [.Name x px,.Name y py] kt pt] (.Tuple [a,b] k2 pt2) pos) D ps:=
 PS.mono (zn hc hN hi hj hij hx hy ha hw hs) fun D' σ H ⟨L,O,R⟩=> ⟨O,R,fun vs H1 s1 r1=> by
  obtain ⟨v,z,rfl,h1,h2⟩:=i3 r1
  exact ⟨v,z,rfl,L.nx _ _ _ O (((R.go s1).set h1).set h2) h⟩⟩
theorem cD (he:Ev X H0 O0 ps iter x) (hx:x=.lst xs∨x=.scr xs):EvI X H0 O0 ps tg iter xs:=
 PI.mono (xo he) fun σ H Q ⟨O,R,q⟩=> ⟨O,R,fun v H' s r=> by
  have key:∃ a vs,v=.ref a∧SqL X.K (hid H' O) a vs∧Rps X.K (hid H' O) vs xs:=by
   rcases hx with rfl | rfl
   ·cases r with
    | lst hq hl hh=> exact ⟨_,_,rfl,SqL.of hq,hl,hh⟩
   ·cases r with
    | scr hq hl hh=> exact ⟨_,_,rfl,hq,hl,hh⟩
  obtain ⟨a,vs,rfl,hq,rs⟩:=key
  refine ⟨a,rfl,⟨vs,aw.seq hq⟩,q _ H' s fun H2 s2=> ⟨fun i hi=> ?_,⟨vs,s2.seq hq,by rw [rs.len]; exact Nat.le_refl _⟩⟩⟩
  have hi':i < vs.length:=by rw [rs.len]; exact hi
  refine ⟨⟨vs,vs[i],s2.seq hq,List.getElem?_eq_getElem hi'⟩,fun z H3 y=> ⟨y.1,xs[i],List.getElem?_eq_getElem hi,rs.at_ i z _ (y.2 vs (s2.seq hq)) (List.getElem?_eq_getElem hi)⟩⟩⟩
theorem zP (he:Ev X H0 O0 ps iter (.tup xs)):EvI X H0 O0 ps tg iter xs:=
 PI.mono (zG he) fun σ H Q ⟨O,R,q⟩=> ⟨O,R,fun v H' s r=> by
  cases r with
  | @tup a vs _ hq hl hh=>
   have rs:Rps X.K (hid H' O) vs xs:=⟨hl,hh⟩
   refine ⟨a,rfl,⟨vs,aw.tup hq⟩,q _ H' s fun H2 s2=> ⟨fun i hi=> ?_,⟨vs,s2.tup hq,by rw [rs.len]; exact Nat.le_refl _⟩⟩⟩
   have hi':i < vs.length:=by rw [rs.len]; exact hi
   refine ⟨⟨vs,vs[i],s2.tup hq,List.getElem?_eq_getElem hi'⟩,fun z H3 y=> ⟨y.1,xs[i],List.getElem?_eq_getElem hi,rs.at_ i z _ (y.2 vs (s2.tup hq)) (List.getElem?_eq_getElem hi)⟩⟩⟩
def d4 (lo:Int) (n:Nat):List U:=(List.range n).map fun (i:Nat)=> U.int (lo+(i:Int))
theorem bZ {lo:Int} {n:Nat}:(d4 lo n).length=n:=by simp [d4]
theorem kH {lo:Int} {n i:Nat} (h:i < n):(d4 lo n)[i]?=some (.int (lo+(i:Int))):=by
 unfold d4
 rw [List.getElem?_map,List.getElem?_range h]; rfl
theorem dL {lo:Int} {n i:Nat} {x:U} (h:(d4 lo n)[i]?=some x):i < n∧x=.int (lo+(i:Int)):=by
 have hi:=aG h
 rw [bZ] at hi
 rw [kH hi] at h
 exact ⟨hi,(Option.some.inj h).symm⟩
theorem g5 {K:PySem.W.Frag} {G:Hp} {lo:Int} {n:Nat}:Yl K (Itr lo n) G (d4 lo n):=fun H2 s2=> by
 rw [bZ]
 refine ⟨fun i hi=> ⟨hi,fun z H3 y=> ⟨y.1,_,kH hi,?_⟩⟩,Nat.le_refl _⟩
 rw [y.2]; exact .int _
theorem u5 {j:Int} (hg:Gl X "range") (hm:X.mg "range"=none) (ha:EvA X H0 O0 ps [a] [.int j]) (h1:-(2 ^ 62)≤j) (h2:j < 2 ^ 62) (hs:starEach [a] X.env=[(false,eval a X.env)]:=by rfl):EvI X H0 O0 ps tg (.Call (.Name "range" p) [a] [] pos) (d4 0 j.toNat):=
 PI.mono (rN hg hm ha hs) fun σ H Q ⟨O,R,q⟩=> ⟨O,R,fun vs H' s r=> by
  obtain ⟨v,rfl,h⟩:=cA r
  cases h
  exact ⟨j,rfl,h1,h2,q _ H' s g5⟩⟩
theorem ny {i j:Int} (hg:Gl X "range") (hm:X.mg "range"=none) (ha:EvA X H0 O0 ps [a,b] [.int i,.int j]) (h:-(2 ^ 62)≤i∧i < 2 ^ 62∧-(2 ^ 62)≤j∧j < 2 ^ 62) (hs:starEach [a,b] X.env=[(false,eval a X.env),(false,eval b X.env)]:=by rfl) (hs2:starEach [b] X.env=[(false,eval b X.env)]:=by rfl):
  EvI X H0 O0 ps tg (.Call (.Name "range" p) [a,b] [] pos) (d4 i (j - i).toNat):=
 PI.mono (rE hg hm ha hs hs2) fun σ H Q ⟨O,R,q⟩=> ⟨O,R,fun vs H' s r=> by
  obtain ⟨v,w,rfl,k1,k2⟩:=i3 r
  cases k1; cases k2
  exact ⟨i,j,rfl,h,q _ H' s g5⟩⟩
theorem Rs.rebase {K:PySem.W.Frag} {σ:St} {H:Hp} {O:List Addr} (R:Rs K H0 O0 ps σ H O):Rs K (hid H (O.filter fun a=> decide (a ∉ O0))) O0 ps σ H O:=
 ⟨aw,R.old,fun a ha=> by
  by_cases h:a∈O0
  ·exact .inl h
  ·right; unfold hid; rw [if_pos (List.mem_filter.mpr ⟨ha,by simpa using h⟩)],R.dom,R.len,R.at_,R.inj⟩
theorem Rs.base {K:PySem.W.Frag} {σ:St} {H:Hp} {O:List Addr} (R:Rs K H0 O0 ps σ H O):aJ H0 (hid H (O.filter fun a=> decide (a ∉ O0))):=fun b o h=> by
 refine dU (R.same b o h) fun z=> ?_
 obtain ⟨z1,z2⟩:=List.mem_filter.mp z
 rcases R.new b z1 with y | y
 ·simp [y] at z2
 ·rw [h] at y; cases y
theorem Rs.unbase {K:PySem.W.Frag} {H1:Hp} {σ:St} {H:Hp} {O:List Addr} (e:aJ H0 H1) (R:Rs K H1 O0 ps σ H O):Rs K H0 O0 ps σ H O:=
 ⟨e.trans R.same,R.old,fun a ha=> (R.new a ha).imp id fun z=> e.free z,R.dom,R.len,R.at_,R.inj⟩
theorem Rs.seen {K:PySem.W.Frag} {ps2:PSt} {σ σ2:St} {H H2:Hp} {O O2:List Addr} (R:Rs K H0 O0 ps σ H O) (R2:Rs K (hid H (O.filter fun a=> decide (a ∉ O0))) O0 ps2 σ2 H2 O2):aJ (hid H O) (hid H2 O2):=fun b o h=> by
 obtain ⟨h1,h2⟩:=gC h
 have h3:hid H (O.filter fun a=> decide (a ∉ O0)) b=some o:=dU h1 fun z=> h2 (List.mem_filter.mp z).1
 refine dU (R2.same b o h3) fun z=> ?_
 rcases R2.new b z with y | y
 ·exact h2 (R.old b y)
 ·rw [h3] at y; cases y
theorem z9 (hc:X.calm=true) (hp:PassesOwn (model X.prog X.w) X.A X.env X.xe) (hi:EvI X H0 O0 ps tg iter xs) (Iv:Nat→PSt→Prop) (h0:Iv 0 ps)
  (hs:∀ (H0:Hp) (i:Nat) (x:U) (ps:PSt),xs[i]?=some x→Iv i ps→∃ ps',TgS X H0 O0 tg ps x ps'∧Ws X H0 O0 E body { D with nx:=Iv (i+1),ct:=Iv (i+1),bk:=D.nx } ps') (hd:∀ ps,Iv xs.length ps→D.nx ps)
  (hf:∀ x,foldedSetIterable iter X.env x=pure x:=by intro _; rfl):W1 X H0 O0 E (.For tg iter body [] pos) D ps:=by
 have hg:PG X tg fun v σ H Q=> ∃ H1 ps u ps',TgS X H1 O0 tg ps u ps'∧∃ O,Rs X.K H1 O0 ps σ H O∧Rp X.K (hid H O) v u∧∀ σ' H',aJ H H'→Rs X.K H1 O0 ps' σ' H' O→Q σ' H':=
  fun pins s σ H v u Q I r ⟨H1,ps,w,ps',t,z⟩=> t pins s σ H v u Q I r z
 have hb:PSs X body fun D' σ H=> ∃ H1 D1 ps',Ws X H1 O0 E body D1 ps'∧Lf X.K H1 O0 E D1 D'∧∃ O,Rs X.K H1 O0 ps' σ H O:=fun pins s σ H D' I ⟨H1,D1,ps',w,z⟩=> w pins s σ H D' I z
 refine PS.mono (zF hp hc hi hg hb hf) fun D' σ H ⟨L,O,R⟩=> ⟨O,R,fun J H1 s1 Y=> ?_⟩
 have R1:=R.go s1
 have base:=R1.base
 refine ⟨fun i m σ H=> m=xs.length - i∧i≤xs.length∧∃ ps O',Iv i ps∧Rs X.K (hid H1 (O.filter fun a=> decide (a ∉ O0))) O0 ps σ H O',⟨_,rfl,Nat.zero_le _,ps,O,h0,R1.rebase⟩,?_⟩
 rintro i m σ2 H2 ⟨rfl,hi2,ps2,O2,iv,R2⟩
 have seen:=R1.seen R2
 obtain ⟨y1,y2⟩:=Y H2 (seen.trans aw)
 by_cases hlt:i < xs.length
 ·obtain ⟨g1,g2⟩:=y1 i hlt
  refine .inr ⟨g1,fun σ' H'=> ∃ ps O',Iv (i+1) ps∧Rs X.K (hid H1 (O.filter fun a=> decide (a ∉ O0))) O0 ps σ' H' O',fun σ' H' z=> ⟨xs.length - (i+1),by omega,rfl,hlt,z⟩,fun x H3 y=> ?_⟩
  obtain ⟨rfl,u,hu,r⟩:=g2 x H3 y
  obtain ⟨ps',t,w⟩:=hs (hid H1 (O.filter fun a=> decide (a ∉ O0))) i u ps2 hu iv
  refine ⟨_,ps2,u,ps',t,O2,R2,r.same seen,fun σ' H' s' R'=> ⟨_,_,ps',w,?_,O2,R'⟩⟩
  exact ⟨fun p σ H O R q=> ⟨p,O,q,R⟩,fun p σ H O R q=> L.nx _ _ _ _ (R.unbase base) q,fun p σ H O R q=> ⟨p,O,q,R⟩,fun o q=> (L.rt o q).later base⟩
 ·have e:i=xs.length:=by omega
  subst e
  exact .inl ⟨y2,L.nx _ _ _ _ (R2.unbase base) (hd ps2 iv)⟩
theorem wS (hp:PassesOwn (model X.prog X.w) X.A X.env X.xe) (Iv:Nat→PSt→Prop) (m:Nat) (h0:Iv m ps)
  (hs:∀ m ps,Iv m ps→∃ b,Tt X H0 O0 ps c b∧(b=true→Ws X H0 O0 E body { D with nx:=fun p=> ∃ m',m' < m∧Iv m' p,ct:=fun p=> ∃ m',m' < m∧Iv m' p,bk:=D.nx } ps)∧(b=false→D.nx ps)):W1 X H0 O0 E (.While c body [] pos) D ps:=by
 have ht:PT X c fun σ H Q=> ∃ ps b,Tt X H0 O0 ps c b∧∃ O,Rs X.K H0 O0 ps σ H O∧∀ H',aJ H H'→Q b H':=fun pins s σ H Q I ⟨ps,b,t,z⟩=> t pins s σ H Q I z
 have hb:PSs X body fun D' σ H=> ∃ D1 ps',Ws X H0 O0 E body D1 ps'∧Lf X.K H0 O0 E D1 D'∧∃ O,Rs X.K H0 O0 ps' σ H O:=fun pins s σ H D' I ⟨D1,ps',w,z⟩=> w pins s σ H D' I z
 refine PS.mono (tj hp ht hb) fun D' σ H ⟨L,O,R⟩=> ⟨fun m σ H=> ∃ ps O,Iv m ps∧Rs X.K H0 O0 ps σ H O,⟨m,ps,O,h0,R⟩,?_⟩
 rintro m σ2 H2 ⟨ps2,O2,iv,R2⟩
 obtain ⟨b,t,h1,h2⟩:=hs m ps2 iv
 refine ⟨ps2,b,t,O2,R2,fun H3 s3=> ?_⟩
 cases b with
 | true=>
  refine rG ⟨fun σ H=> ∃ m',m' < m∧∃ ps O,Iv m' ps∧Rs X.K H0 O0 ps σ H O,fun σ' H' z=> z,_,ps2,h1 rfl,?_,O2,R2.go s3⟩
  exact ⟨fun p σ H O R ⟨m',l,q⟩=> ⟨m',l,p,O,q,R⟩,fun p σ H O R q=> L.nx _ _ _ _ R q,fun p σ H O R ⟨m',l,q⟩=> ⟨m',l,p,O,q,R⟩,L.rt⟩
 | false=> exact sH (L.nx _ _ _ _ (R2.go s3) (h2 rfl))
def eQ:List Nat→PSt→PSt
 | [],ps=> ps
 | i::is,ps=> eQ is (ps.set i none)
theorem Rs.mask {K:PySem.W.Frag} {H:Hp} {O:List Addr}:∀ {is:List Nat} {ps:PSt} {σ:St},Rs K H0 O0 ps σ H O→Rs K H0 O0 (eQ is ps) (L2.mask is σ) H O
 | [],ps,σ,R=> R
 | i::is,ps,σ,R=> Rs.mask (is:=is) (R.drop (i:=i) (o:=none))
theorem Rs.hide {K:PySem.W.Frag} {σ:St} {H H':Hp} {O:List Addr} {l:Addr} (R:Rs K H0 O0 ps σ H O) (e:aJ H H') (n:H l=none) (d:H' l≠none):Rs K H0 O0 ps σ H' (l::O):=by
 refine ⟨R.same.trans e,fun a ha=> List.mem_cons_of_mem _ (R.old a ha),fun a ha=> ?_,fun a ha z=> ?_,R.len,fun i s h=> ?_,R.inj⟩
 ·rcases List.mem_cons.mp ha with y | y
  ·subst y; exact .inr (R.same.free n)
  ·exact R.new a y
 ·rcases List.mem_cons.mp ha with y | y
  ·subst y; exact d z
  ·exact R.dom a y (e.free z)
 ·obtain ⟨w,h1,h2⟩:=R.at_ i s h
  refine ⟨w,h1,?_⟩
  cases s with
  | val u=> exact Rp.same (bP e n) h2
  | own ys=>
   obtain ⟨b,ws,k1,k2,k3,k4,k5⟩:=h2
   exact ⟨b,ws,k1,List.mem_cons_of_mem _ k2,k3,e _ _ k4,k5.same (bP e n)⟩
theorem nK {js is:List Nat}:∀ {σ:St} {vs:List V},(∀ j∈js,j∈is)→∀ (n:Nat) (v:V),n ∉ is→σ[n]?=some (some v)→(iV σ js vs)[n]?=some (some v):=by
 induction js with
 | nil=> intro σ vs _ n v _ h; cases vs <;> exact h
 | cons j js ih=>
  intro σ vs hj n v hn h
  cases vs with
  | nil=> exact h
  | cons w ws=> exact ih (fun z hz=> hj z (List.mem_cons_of_mem _ hz)) n v hn (by rw [List.getElem?_set_ne (fun z=> hn (by rw [← z]; exact hj j List.mem_cons_self))]; exact h)
def GOk (g:TG) (K:PySem.W.Frag) (is:List Nat) (f:PSt→U→PSt) (dom:U→Prop):Prop:=
 ∀ (H0:Hp) (O0:List Addr) (ps:PSt) (σ:St) (H:Hp) (O:List Addr) (v:V) (u:U) (Q:St→Hp→Prop),dom u→Rs K H0 O0 ps σ H O→Rp K (hid H O) v u→
  (∀ σ',Rs K H0 O0 (f ps u) σ' H O→(∀ (n:Nat) (w:V),n ∉ is→σ[n]?=some (some w)→σ'[n]?=some (some w))→Q σ' H)→g v σ H Q
theorem bW {K:PySem.W.Frag} {is:List Nat} {i:Nat} (h:i∈is):GOk (nI i) K is (fun ps u=> ps.set i (some (.val u))) fun _=> True:=fun H0 O0 ps σ H O v u Q _ R r q=>
 q _ (R.set r) fun n w hn e=> by rw [List.getElem?_set_ne (fun z=> hn (by rw [← z]; exact h))]; exact e
theorem qA {K:PySem.W.Frag} {is js:List Nat} (h:∀ j∈js,j∈is):GOk (As K js.length (lF js)) K is (fun ps u=> match u with | .tup us=> setAll ps js us | _=> ps) fun u=> ∃ us,u=.tup us∧us.length=js.length:=fun H0 O0 ps σ H O v u Q d R r q=> by
 obtain ⟨us,rfl,hl⟩:=d
 cases r with
 | tup hq hl' hh=> exact ⟨_,_,rfl,aw.tup hq,hl'.trans hl,h7 (hl'.trans hl) (q _ (R.setAll ⟨hl',hh⟩) fun n w hn e=> nK h n w hn e)⟩
theorem kF {is:List Nat} {g:TG} {f:PSt→U→PSt} {dom:U→Prop} {σ:St} {H1:Hp} {O:List Addr} {Q:VK} {J:It} {te:TE} (hg:GOk g X.K is f dom) (R1:Rs X.K H0 O0 ps σ H1 O) (Y:Yl X.K J (hid H1 O) xs) (hlen:ys.length=xs.length) (hz:xs.length≤sizeLine) (hdom:∀ x∈xs,dom x)
  (hte:∀ (i:Nat) (x y:U) (σ:St) (H:Hp) (O':List Addr) (Q:VK),xs[i]?=some x→ys[i]?=some y→Rs X.K H0 O0 (f (eQ is ps) x) σ H O'→(∀ v H',aJ H H'→Rp X.K (hid H' O') v y→Q v H')→te σ H Q)
  (fin:∀ a vs H',aJ H1 H'→H1 a=none→H' a=some (.lst vs)→Rps X.K (hid H' (a::O)) vs ys→Q (.ref a) H'):x_ is g te σ Q J H1:=by
 intro l hl
 refine ⟨fun i m H2=> m=xs.length - i∧i≤xs.length∧aJ H1 H2∧∃ vs,H2 l=some (.lst vs)∧vs.length=i∧Rps X.K (hid H2 (l::O)) vs (ys.take i),⟨_,rfl,Nat.zero_le _,aW hl _,[],aU,rfl,by rw [List.take_zero]; exact .nil⟩,?_⟩
 rintro i m H2 ⟨rfl,hi,s2,vs,h2,hv,rs⟩
 have seen:aJ (hid H1 O) (hid H2 (l::O)):=bP s2 hl
 obtain ⟨y1,y2⟩:=Y H2 (seen.trans aw)
 by_cases hlt:i < xs.length
 ·obtain ⟨g1,g2⟩:=y1 i hlt
  refine .inr ⟨g1,fun x H3 y=> ?_⟩
  obtain ⟨rfl,u,hu,r⟩:=g2 x H3 y
  have R2:=(R1.mask (is:=is)).hide s2 hl (by rw [h2]; intro z; cases z)
  refine hg H0 O0 _ _ H3 (l::O) x u _ (hdom u (List.mem_of_getElem? hu)) R2 (r.same seen) fun σ4 R4 keep=> ?_
  have hy:ys[i]?=some (ys[i]'(by omega)):=List.getElem?_eq_getElem _
  refine hte i u _ σ4 H3 (l::O) _ hu hy R4 fun v H5 s5 r5=> ⟨fun j w e=> keep j w (gU is σ j w e).2 e,vs,s5 _ _ h2,?_,xs.length - (i+1),by omega,rfl,hlt,(s2.trans s5).put hl _,vs++[v],aU,by simp [hv],?_⟩
  ·rw [hv]; omega
  ·rw [lf List.mem_cons_self,List.take_succ,hy]
   exact (rs.same (bu s5)).snoc (.cons r5 .nil)
 ·have e:i=xs.length:=by omega
  subst e
  rw [← hlen,List.take_length] at rs
  exact .inl ⟨y2,fin l vs H2 s2 hl h2 rs⟩
theorem d9 {elt:Expr} {scope:Scope} {cl:List (Str×Addr)} {is:List Nat} {g:TG} {f:PSt→U→PSt} {dom:U→Prop} (hc:X.calm=true) (B:dg X scope cl is) (hi:EvI X H0 O0 ps tg iter xs) (hg:∀ C s H fp,PG (ax X scope cl C s H fp) tg g) (gk:GOk g X.K is f dom)
  (hlen:ys.length=xs.length) (hz:xs.length≤sizeLine) (hdom:∀ x∈xs,dom x) (he:∀ C s H fp (i:Nat) (x y:U),xs[i]?=some x→ys[i]?=some y→Ev (ax X scope cl C s H fp) H0 O0 (f (eQ is ps) x) elt y)
  (hs:∀ x,foldedSetIterable iter X.env x=pure x:=by intro _; rfl):EvN X H0 O0 ps (.ListComp elt [⟨tg,iter,[],0⟩] scope pos) ys:=by
 have hte:∀ C s H fp,PE (ax X scope cl C s H fp) elt fun σ H Q=> ∃ i x y,xs[i]?=some x∧ys[i]?=some y∧∃ O',Rs X.K H0 O0 (f (eQ is ps) x) σ H O'∧∀ v H',aJ H H'→Rp X.K (hid H' O') v y→Q v H':=
  fun C s H fp pins s' σ H' Q I ⟨i,x,y,h1,h2,z⟩=> he C s H fp i x y h1 h2 pins s' σ H' Q I z
 refine PE.mono (xg hc B hi hg hte hs) fun σ H Q ⟨O,R,q⟩=> ⟨O,R,fun J H1 s1 Y=> ?_⟩
 exact kF gk (R.go s1) Y hlen hz hdom (fun i x y σ H O' Q h1 h2 R' z=> ⟨i,x,y,h1,h2,O',R',z⟩) fun a vs H' s n h r=> q a vs H' (s1.trans s) (s1.free n) h r
theorem j_ {elt:Expr} {scope:Scope} {cl:List (Str×Addr)} {spos py:Pos} {y:Str} {j:Nat} {is:List Nat} {g:TG} {f:PSt→U→PSt} {dom:U→Prop} (own:Bool) (hc:X.calm=true) (hN:X.N.Nodup) (hj:X.N[j]?=some y) (hy:Loc X.env.scope y) (B:dg X scope cl is)
  (hi:EvI X H0 O0 ps tg iter xs) (hg:∀ C s H fp,PG (ax X scope cl C s H fp) tg g) (gk:GOk g X.K is f dom) (hlen:ys.length=xs.length) (hz:xs.length≤sizeLine) (hdom:∀ x∈xs,dom x)
  (he:∀ C s H fp (i:Nat) (x y:U),xs[i]?=some x→ys[i]?=some y→Ev (ax X scope cl C s H fp) H0 O0 (f (eQ is ps) x) elt y) (h:D.nx (ps.set j (some (if own then .own ys else .val (.lst ys)))))
  (hs:∀ x,foldedSetIterable iter X.env x=pure x:=by intro _; rfl)
  (hsw:swapsWith (.ListComp elt [⟨tg,iter,[],0⟩] scope pos) (some (.Name y py)) spos.line X.env=pure true:=by rfl) (hf:X.fn y=true∨X.env.scope.names.lookup y=some .local:=by first | exact .inl rfl | exact .inr rfl | assumption):
  W1 X H0 O0 E (.Assign [.Name y py] (.ListComp elt [⟨tg,iter,[],0⟩] scope pos) spos) D ps:=by
 have hte:∀ C s H fp,PE (ax X scope cl C s H fp) elt fun σ H Q=> ∃ i x y,xs[i]?=some x∧ys[i]?=some y∧∃ O',Rs X.K H0 O0 (f (eQ is ps) x) σ H O'∧∀ v H',aJ H H'→Rp X.K (hid H' O') v y→Q v H':=
  fun C s H fp pins s' σ H' Q I ⟨i,x,y,h1,h2,z⟩=> he C s H fp i x y h1 h2 pins s' σ H' Q I z
 refine PS.mono (ov hc hN hj hy B hi hg hte hs hsw hf) fun D' σ H ⟨L,O,R⟩=> ⟨O,R,fun J H1 s1 Y=> ?_⟩
 refine kF gk (R.go s1) Y hlen hz hdom (fun i x y σ H O' Q h1 h2 R' z=> ⟨i,x,y,h1,h2,O',R',z⟩) fun a vs H' s n h' r=> ?_
 cases own with
 | true=> exact L.nx _ _ _ _ ((R.go s1).own s n h' r) h
 | false=>
  have na:a ∉ O:=fun z=> (R.go s1).dom a z n
  have r':=r.same (eI fun b hb=> List.mem_cons_of_mem a hb)
  exact L.nx _ _ _ _ (((R.go s1).go s).set (.lst (dU h' na) r'.len r'.at_)) h
end
end L2
namespace L2
open PySem PySem.Spec PyProof.Rows
def spU (K:PySem.W.Frag) (spec:List U→Out→Prop):Sp:=fun vs H Q E=> ∃ us O o,(∀ a∈O,H a≠none)∧Rps K (hid H O) vs us∧spec us o∧nU K H O Q E o
section
variable {X:Cx} {H0:Hp} {O0:List Addr} {E:XK} {ps ps':PSt} {D:PD} {s:Stmt} {ss body:List Stmt} {a b c e:Expr} {es:List Expr} {pos p:Pos} {u x y:U} {xs ys us:List U} {k:Bool}
 {CX:CXT} {n:Nat} {f C:Addr} {fd:FuncData} {pn:List Str} {spec:List U→Out→Prop} {nm:Str}
theorem ay (F:aX X.prog X.w X.K X.mg X.base CX n f fd pn (spU X.K spec)) (hr:dR n X.A) (hg:Gl X nm) (hm:X.mg nm=some (.ref f)) (hk:PySem.W.keepIn X.K (.ref f)=true) (hb:aK X.K fd pn []) (hx:fu CX X E0)
  (ha:EvA X H0 O0 ps (e::es) us) (h:spec us (.val u)) (hdb:(nm==("__debug__":Str))=false:=by decide) (he:starEach (e::es) X.env=(false,eval e X.env)::starEach es X.env:=by rfl) (hpl:(backTo pos (starEach es X.env)).any (·.1)=false:=by rfl):
  Ev X H0 O0 ps (.Call (.Name nm p) (e::es) [] pos) u:=
 PE.mono (iL F hr hg hm hk hb .nil hx ha hdb he hpl) fun σ H Q ⟨O,R,q⟩=> ⟨O,R,fun vs H1 s1 r1=> by
  show spU X.K spec (vs++[]) H1 Q _
  rw [List.append_nil]
  exact ⟨us,O,.val u,(R.go s1).dom,r1,h,fun v H2 s2 r2=> q v H2 (s1.trans s2) r2⟩⟩
theorem cW (F:aX X.prog X.w X.K X.mg X.base CX n f fd pn (spU X.K spec)) (hr:dR n X.A) (hg:Gl X nm) (hm:X.mg nm=some (.ref f)) (hk:PySem.W.keepIn X.K (.ref f)=true) (hb:aK X.K fd pn []) (hx:fu CX X E0)
  (ha:EvA X H0 O0 ps (e::es) us) (h:spec us (.new xs)) (hdb:(nm==("__debug__":Str))=false:=by decide) (he:starEach (e::es) X.env=(false,eval e X.env)::starEach es X.env:=by rfl) (hpl:(backTo pos (starEach es X.env)).any (·.1)=false:=by rfl):
  EvN X H0 O0 ps (.Call (.Name nm p) (e::es) [] pos) xs:=
 PE.mono (iL F hr hg hm hk hb .nil hx ha hdb he hpl) fun σ H Q ⟨O,R,q⟩=> ⟨O,R,fun vs H1 s1 r1=> by
  show spU X.K spec (vs++[]) H1 Q _
  rw [List.append_nil]
  exact ⟨us,O,.new xs,(R.go s1).dom,r1,h,fun a vs H2 s2 n2 h2 r2=> q a vs H2 (s1.trans s2) (s1.free n2) h2 r2⟩⟩
def Xv (X:Cx) (H0:Hp) (O0:List Addr) (E:XK) (ps:PSt) (e:Expr) (C:Addr):Prop:=PE X e fun σ H _=> ∃ O,Rs X.K H0 O0 ps σ H O∧∀ H',aJ H H'→E (.ref C) none H'
theorem u3 (F:aX X.prog X.w X.K X.mg X.base CX n f fd pn (spU X.K spec)) (hr:dR n X.A) (hg:Gl X nm) (hm:X.mg nm=some (.ref f)) (hk:PySem.W.keepIn X.K (.ref f)=true) (hb:aK X.K fd pn []) (hx:fu CX X E)
  (ha:EvA X H0 O0 ps (e::es) us) (h:spec us (.exc C)) (hdb:(nm==("__debug__":Str))=false:=by decide) (he:starEach (e::es) X.env=(false,eval e X.env)::starEach es X.env:=by rfl) (hpl:(backTo pos (starEach es X.env)).any (·.1)=false:=by rfl):
  Xv X H0 O0 E ps (.Call (.Name nm p) (e::es) [] pos) C:=
 PE.mono (iL F hr hg hm hk hb .nil hx ha hdb he hpl) fun σ H Q ⟨O,R,q⟩=> ⟨O,R,fun vs H1 s1 r1=> by
  show spU X.K spec (vs++[]) H1 Q _
  rw [List.append_nil]
  exact ⟨us,O,.exc C,(R.go s1).dom,r1,h,fun H2 s2=> q H2 (s1.trans s2)⟩⟩
theorem qe (he:Xv X H0 O0 E ps e C) (h:D.rt (.exc C)) (hs:swapsWith e none pos.line X.env=pure false:=by rfl):W1 X H0 O0 E (.Expr e pos) D ps:=
 PS.mono (g8 he hs) fun D' σ H ⟨L,O,R⟩=> ⟨O,R,fun H' s=> L.rt _ h H' (R.same.trans s)⟩
end
section
variable {P:Program} {w:World} {K:PySem.W.Frag} {mg:Str→Option Value} {base:Heap} {N pn:List Str} {qual nm:Str} {scope:Scope} {f:Addr} {cd:Value} {A:Around} {outer:List Env} {s:Shared} {H H0:Hp} {O0:List Addr} {E:XK} {D:PD} {ps:PSt} {u:U}
theorem iR {x:Str} {C:Addr} {e0:Expr} {np cpos pos:Pos} (hex:PySem.W.excIn K C [.type "ValueError",.type "Exception",.type "BaseException",.type "object"] "ValueError.__new__"=true)
  (hg:Gl (dW (CXF P w) P w K mg base N qual scope f cd A outer s H E) x) (hm:mg x=some (.ref C)) (he:Ev (dW (CXF P w) P w K mg base N qual scope f cd A outer s H E) H0 O0 ps e0 u) (h:D.rt (.exc C))
  (hst:starEach [e0] (dW (CXF P w) P w K mg base N qual scope f cd A outer s H E).env=[(false,eval e0 (dW (CXF P w) P w K mg base N qual scope f cd A outer s H E).env)]:=by rfl) (hd:(x==("__debug__":Str))=false:=by decide):
  W1 (dW (CXF P w) P w K mg base N qual scope f cd A outer s H E) H0 O0 E (.Raise (some (.Call (.Name x np) [e0] [] cpos)) none pos) D ps:=
 PS.mono (tF hex hg hm he hst hd) fun D' σ H ⟨L,O,R⟩=> ⟨O,R,fun v H' s r=> L.rt _ h H' (R.same.trans s)⟩
def fI (N:List Str) (us:List U):PSt:=us.map (fun u=> some (.val u))++List.replicate (N.length - us.length) none
theorem bg {st:Stmt} {fd:FuncData} {k:Nat} {spec:List U→Out→Prop} (F:Fun K nm qual st f fd) (S:av N pn (ah st)) (len:∀ us o,spec us o→us.length=pn.length)
  (hbody:∀ (cdv:Value) (A:Around) (outer:List Env) (s:Shared) (H:Hp) (E:XK) (O:List Addr) (us:List U) (o:Out),dR k (A.deeper (envOfC qual (ah st) s.heap.objs.size f cdv))→spec us o→
   Ws (dW (CXF P w) P w K mg base N qual (ah st) f cdv A outer s H E) H O E (aq st) ⟨fun _=> o=.val .non,fun o'=> o'=o,fun _=> False,fun _=> False⟩ (fI N us)):aX P w K mg base (CXF P w) (k+1) f fd pn (spU K spec):=by
 refine F.okF S (fun vs H Q E h=> ?_) fun cdv A outer s H vs Q E hr h=> ?_
 ·obtain ⟨us,O,o,_,r,hsp,_⟩:=h
  rw [r.len]; exact len us o hsp
 ·obtain ⟨us,O,o,d,r,hsp,q⟩:=h
  refine ⟨_,hbody cdv A outer s H E O us o hr hsp,⟨fun ps σ H' O' R e=> ?_,fun _ _ _ _ _ e=> e.elim,fun _ _ _ _ _ e=> e.elim,fun o' e=> by subst e; exact q⟩,O,?_⟩
  ·subst e; exact q .non H' R.same .non
  ·refine ⟨.refl H,fun a h=> h,fun a h=> .inl h,d,?_,fun i sl e=> ?_,fun i j xs ys a e1 e2 _ _=> ?_⟩
   ·unfold start fI
    rw [List.length_append,List.length_append,List.length_map,List.length_map,List.length_replicate,List.length_replicate,r.len]
   ·unfold fI at e
    by_cases hi:i < us.length
    ·rw [List.getElem?_append_left (by simpa using hi),List.getElem?_map,List.getElem?_eq_getElem hi] at e
     cases e
     obtain ⟨v,h1,h2⟩:=r.get (List.getElem?_eq_getElem hi)
     refine ⟨v,?_,h2⟩
     unfold start
     rw [List.getElem?_append_left (by simpa [r.len] using hi),List.getElem?_map,h1]; rfl
    ·rw [List.getElem?_append_right (by simpa using hi),List.getElem?_replicate] at e
     split at e <;> cases e
   ·exfalso
    unfold fI at e1
    by_cases hi:i < us.length
    ·rw [List.getElem?_append_left (by simpa using hi),List.getElem?_map,List.getElem?_eq_getElem hi] at e1
     cases e1
    ·rw [List.getElem?_append_right (by simpa using hi),List.getElem?_replicate] at e1
     split at e1 <;> cases e1
end
section
variable {X:Cx} {H0:Hp} {O0:List Addr} {ps:PSt} {a b c e:Expr} {es rest:List Expr} {pos p p2:Pos} {u x y:U} {xs ys us:List U} {i j:Int} {k m:Bool} {lo hi:Option Expr} {l h:Option Int}
def EvO (X:Cx) (H0:Hp) (O0:List Addr) (ps:PSt) (e:Option Expr) (n:Option Int):Prop:=PO X e fun σ H Q=> ∃ O,Rs X.K H0 O0 ps σ H O∧∀ H',aJ H H'→Q n H'
theorem jq:EvO X H0 O0 ps none none:=fun pins s σ H Q I ⟨O,R,q⟩=> wf pins s σ H Q I (q H (.refl H))
theorem gz (he:Ev X H0 O0 ps e (.int i)):EvO X H0 O0 ps (some e) (some i):=fun pins s σ H Q I ⟨O,R,q⟩=> wI he pins s σ H Q I ⟨O,R,fun v H' s r=> by cases r; exact ⟨i,rfl,q H' s⟩⟩
def gF (xs:List U) (lo hi:Option Int):List U:=(xs.drop (HT.sIx xs.length 0 lo)).take (HT.sIx xs.length xs.length hi - HT.sIx xs.length 0 lo)
theorem Rps.drop {K:PySem.W.Frag} {H:Hp} {vs:List V} {xs:List U} (r:Rps K H vs xs) (n:Nat):Rps K H (vs.drop n) (xs.drop n):=⟨by simp [r.len],fun i v x h1 h2=> r.at_ _ v x (by rwa [List.getElem?_drop] at h1) (by rwa [List.getElem?_drop] at h2)⟩
theorem Rps.take {K:PySem.W.Frag} {H:Hp} {vs:List V} {xs:List U} (r:Rps K H vs xs) (n:Nat):Rps K H (vs.take n) (xs.take n):=⟨by simp [r.len],fun i v x h1 h2=> by
 by_cases hn:i < n
 ·rw [List.getElem?_take_of_lt hn] at h1 h2
  exact r.at_ i v x h1 h2
 ·rw [List.getElem?_take_eq_none (by omega)] at h1
  cases h1⟩
theorem Rps.cut {K:PySem.W.Frag} {H:Hp} {vs:List V} {xs:List U} (r:Rps K H vs xs):Rps K H (rL vs l h) (gF xs l h):=by
 unfold rL gF
 rw [r.len]
 exact (r.drop _).take _
theorem fR (he:Ev X H0 O0 ps e x) (hl:EvO X H0 O0 ps lo l) (hh:EvO X H0 O0 ps hi h) (hx:x=.lst xs∨x=.scr xs):EvN X H0 O0 ps (.Subscript e (.Slice lo hi none p2) pos) (gF xs l h):=
 PE.mono (tY wF he hl hh) fun σ H Q ⟨O,R,q⟩=> ⟨O,R,fun v H1 s1 r1=> ⟨O,R.go s1,fun H2 s2=> ⟨O,R.go (s1.trans s2),fun H3 s3=> by
  have key:∃ a vs,v=.ref a∧SqL X.K (hid H1 O) a vs∧Rps X.K (hid H1 O) vs xs:=by
   rcases hx with rfl | rfl
   ·cases r1 with
    | lst hq hl hh=> exact ⟨_,_,rfl,SqL.of hq,hl,hh⟩
   ·cases r1 with
    | scr hq hl hh=> exact ⟨_,_,rfl,hq,hl,hh⟩
  obtain ⟨a,vs,rfl,hq,rs⟩:=key
  have s13:=s2.trans s3
  refine ⟨a,vs,rfl,s13.seq (aw.seq hq),fun p hp=> q p _ _ ((s1.trans s13).trans (aW hp _)) ((s1.trans s13).free hp) aU ?_⟩
  exact (rs.cut.same (bu s13)).same (bP (aW hp _) hp)⟩⟩⟩
theorem uC (ha:Ev X H0 O0 ps a (.lst xs)) (hb:Ev X H0 O0 ps b (.lst ys)) (hz:xs.length+ys.length≤sizeLine):EvN X H0 O0 ps (.BinOp a .Add b pos) (xs++ys):=
 PE.mono (tP zI ha hb) fun σ H Q ⟨O,R,q⟩=> two R (fun _ _ _ z=> z) (fun _ _ _ z=> z) fun v w H' s _ r1 r2=> by
  cases r1 with
  | lst hq hl hh=>
   cases r2 with
   | lst hq' hl' hh'=>
    refine ⟨_,_,_,_,rfl,rfl,aw _ _ hq,aw _ _ hq',by rw [hl,hl']; exact hz,fun p hp=> q p _ _ (s.trans (aW hp _)) (s.free hp) aU ?_⟩
    exact (Rps.snoc ⟨hl,hh⟩ ⟨hl',hh'⟩).same (bP (aW hp _) hp)
def fl:U→V
 | .bl b=> .bl b | .int i=> .int i | .str x=> .str x | _=> .non
def vE:U→Bool
 | .bl _=> true | .int _=> true | .str _=> true | .non=> true | _=> false
theorem yq {K:PySem.W.Frag} {H:Hp} {v:V} {u:U} (h:Rp K H v u) (f:vE u=true):v=fl u∧gw v=true:=by
 cases h <;> first | exact ⟨rfl,rfl⟩ | simp [vE] at f
theorem ut {K:PySem.W.Frag} {H:Hp}:∀ {vs:List V} {xs:List U},Rps K H vs xs→xs.all vE=true→vs=xs.map fl∧vs.all gw=true
 | vs,[],r,_=> by rw [r.nil_inv]; exact ⟨rfl,rfl⟩
 | vs,x::xs,r,f=> by
  obtain ⟨v,ws,rfl,h1,h2⟩:=r.cons_inv
  simp only [List.all_cons,Bool.and_eq_true] at f
  obtain ⟨e1,e2⟩:=yq h1 f.1
  obtain ⟨e3,e4⟩:=ut h2 f.2
  refine ⟨by rw [List.map_cons,← e1,← e3],?_⟩
  simp only [List.all_cons,Bool.and_eq_true]
  exact ⟨e2,e4⟩
theorem AZ (hx:vE x=true) (hy:y.items=some ys) (hf:ys.all vE=true):OpS X (compareOp .In) x y (.bl (inV (fl x) (ys.map fl))):=by
 intro pins s σ H v w p q Q I r1 r2 h
 obtain ⟨k1,k2,k3⟩:=h
 obtain ⟨a,vs,rfl,h1,h2⟩:=lj k2 hy
 obtain ⟨e1,e2⟩:=yq k1 hx
 obtain ⟨e3,e4⟩:=ut h2 hf
 exact sN pins s σ H v _ p q Q I r1 r2 ⟨a,vs,rfl,h1,e2,e4,by rw [e1,e3]; exact k3⟩
theorem AF {bs:List Bool} (hc:X.calm=true):gx X (.builtin "all") [.lst (bs.map U.bl)] (.bl (bs.all id)):=by
 intro pins s σ H vs us Q I r hq
 obtain ⟨O,d,rs,q⟩:=hq
 obtain ⟨v,rfl,h1⟩:=cA rs
 obtain ⟨p1,rfl,r1⟩:=fh r
 cases h1 with
 | @lst a ws _ hq hl hh=>
  cases r1
  obtain ⟨its,rv,pl,_⟩:=I.list (SqL.of (aw _ _ hq))
  have hlen:its.length=bs.length:=by rw [← rv.length,hl,List.length_map]
  have hat:∀ (i:Nat) (z:Value),its.toArray[i]?=some z→z=.bool (bs.getD i false):=fun i z e=> by
   have hi:i < its.length:=by have:=aG (show its[i]?=some z by simpa using e); exact this
   have hb:i < bs.length:=by omega
   have hw:i < ws.length:=by rw [rv.length]; exact hi
   obtain ⟨u,e1,e2⟩:=rv.get (List.getElem?_eq_getElem hw)
   have e3:=hh i ws[i] (.bl bs[i]) (List.getElem?_eq_getElem hw) (by rw [List.getElem?_map,List.getElem?_eq_getElem hb]; rfl)
   have e4:its[i]?=some z:=by simpa using e
   rw [e4] at e1
   cases e1
   generalize ws[i]=wi at *
   cases e3
   rw [List.getD_eq_getElem?_getD,List.getElem?_eq_getElem hb]
   exact e2
  refine call_all_walk (wpAny_pyIter_list pl.isList ?_)
  have hne:a≠s.heap.objs.size:=by obtain ⟨o,e,_⟩:=pl.isList; exact Nat.ne_of_lt (Heap.lt_size e)
  refine ⟨s.heap.objs.size,_,_,_,_,_,fun i=> bs.getD i false,rfl,Walks.list (A:=X.A.in1) (I.ok.hd hc) s.heap.objs.size a hne its.toArray,⟨⟨_,Heap.get?_push_size _ rfl,rfl,rfl⟩,pl.isList.push _⟩,fun i z s' Q' E' hP hQ=> ?_,fun h' tk hk=> ?_⟩
  ·rw [hat i z hP]; exact wpAny_truthy_bool hQ
  ·have e:(List.range its.toArray.size).all (fun i=> bs.getD i false)=bs.all id:=by
    rw [List.size_toArray,hlen,Bool.eq_iff_iff,kL,List.all_eq_true]
    constructor
    ·intro h x hx
     obtain ⟨i,hi,rfl⟩:=List.getElem_of_mem hx
     have:=h i hi
     rwa [List.getD_eq_getElem?_getD,List.getElem?_eq_getElem hi] at this
    ·intro h j hj
     rw [List.getD_eq_getElem?_getD,List.getElem?_eq_getElem hj]
     exact h _ (List.getElem_mem hj)
   rw [e]
   refine ⟨.bl _,H,I.kept (t':=tk) fun b o e=> hk b o ?_ (Heap.get?_push_of_some _ e),rfl,q _ H (.refl H) (.bl _)⟩
   intro z
   have:b=s.heap.objs.size:=by simpa using z
   exact absurd (Heap.lt_size e) (by rw [this]; exact Nat.lt_irrefl _)
end
end L2
namespace L2
open PySem PySem.Spec PyProof.Rows
def sS (J:It) (is:List Nat) (g:TG) (tt:TT) (te:TE) (σ:St) (H1:Hp) (l:Addr) (Q:VK):Prop:=
 ∃ W:Nat→Nat→Hp→Prop,(∃ m,W 0 m (upd H1 l (.lst [])))∧∀ i m H2,W i m H2→
  (J.stop i H2∧Q (.ref l) H2)∨(J.go i H2∧∀ x H3,J.yld i H2 x H3→g x (mask is σ) H3 fun σ4 H4=> tt σ4 H4 fun b H5=>
   (∀ (j:Nat) (v:V),(mask is σ)[j]?=some (some v)→σ4[j]?=some (some v))∧
   if b=true then te σ4 H5 fun y H6=> ∃ vs,H6 l=some (.lst vs)∧vs.length < sizeLine∧∃ m',m' < m∧W (i+1) m' (upd H6 l (.lst (vs++[y]))) else ∃ m',m' < m∧W (i+1) m' H5)
def uG (is:List Nat) (g:TG) (tt:TT) (te:TE) (σ:St) (Q:VK) (J:It) (H1:Hp):Prop:=∀ l,H1 l=none→sS J is g tt te σ H1 l Q
def vx (is:List Nat) (wi:TI) (g:TG) (tt:TT) (te:TE):TE:=fun σ H Q=> wi σ H (uG is g tt te σ Q)
section
variable {X:Cx} {pins:List (Addr×Obj)} {σ:St} {H:Hp} {s:Shared}
theorem q_ {elt iter tg:Expr} {scope:Scope} {cl:List (Str×Addr)} {pos pos0:Pos} {is:List Nat} {wi:TI} {g:TG} {tt:TT} {te:TE} {cond:Expr} {use:Option (Value→Sem Unit)} {Q0:VK} {Q:Value→Shared→Prop} (hc:X.calm=true) (B:dg X scope cl is)
  (hi:PI X tg iter wi) (hg:∀ C s H fp,PG (ax X scope cl C s H fp) tg g) (ht:∀ C s H fp,PT (ax X scope cl C s H fp) cond tt) (he:∀ C s H fp,PE (ax X scope cl C s H fp) elt te) (hs:∀ x,foldedSetIterable iter X.env x=pure x)
  (I:Inv X pins σ H s) (h:vx is wi g tt te σ H Q0)
  (fin:∀ (l C:Addr) (H':Hp) (s':Shared) (m:Str→Option Value),Inv X pins σ H' s'→s'.heap.Ns C m→H' C=none→C≠X.env.locals→C ∉ X.fs→X.s₀.heap.objs.size≤C→(∀ x c,X.env.cells.lookup x=some c→c≠C)→(∀ p∈X.pn++pins,p.1≠C)→Q0 (.ref l) H'→
   compPost (model X.prog X.w) X.A X.xe use Q (.ref l) C (.ok .next) s'):
  wpAny (model X.prog X.w) X.A (comprehension (.ListComp elt [⟨tg,iter,[cond],0⟩] scope pos) scope X.env pos0 (newList []) false (eval iter X.env) use) Q X.xe s:=by
 refine wpAny_comprehension_free rfl hs B.clos B.kind B.names (thn (hi pins s σ H _ I h) fun xv s1 h1=> thn h1 fun itv s2 h2=> ?_)
 obtain ⟨it,fp,tn,J,H2,e,I2,T,st2,f2,R⟩:=h2
 subst e
 refine wpAny_newObj_type (wpAny_newFunctionEnv B.cell (by intro y hy; simp at hy) (fun h₁ hns hsb=> ?_) B.kind)
 have hl:H2 s2.heap.objs.size=none:=I2.hok.fresh (Nat.le_refl _)
 obtain ⟨W,⟨m0,w0⟩,turn⟩:=R s2.heap.objs.size hl
 have I3:Inv X pins σ (upd H2 s2.heap.objs.size (.lst [])) { s2 with heap:=s2.heap.push { cls:=.type "list",dict:=none,data:=.seq ([]:List Value).toArray } }:=
  I2.laid (t':=s2.toks) (o:=.lst []) (fun b u e=> Heap.get?_push_of_some _ e) (Nat.le_refl _) ⟨Nat.zero_le _,[],0,.nil,Heap.get?_push_size _ rfl⟩
 have hfl:∀ b∈fp,b < s2.heap.objs.size:=fun b hb=> let ⟨o,e,_⟩:=T.obj 0 _ st2 b hb; Heap.lt_size e
 have f3:∀ b∈fp,ju X pins (upd H2 s2.heap.objs.size (.lst [])) b:=fun b hb=> ⟨by rw [a_ (Nat.ne_of_lt (hfl b hb))]; exact (f2 b hb).1,(f2 b hb).2⟩
 have kp:∀ b o,(s2.heap.push { cls:=.type "list",dict:=none,data:=.seq ([]:List Value).toArray }).get? b=some o→h₁.get? b=some o:=fun b o e=>
  hsb.extBut b o (Nat.ne_of_lt (Heap.lt_size e)) (Heap.get?_push_of_some _ e)
 have st4:tn 0 h₁:=T.keep 0 _ _ st2 fun b _ o e=> kp b o (Heap.get?_push_of_some _ e)
 have hfl3:∀ b∈fp,b < (s2.heap.push { cls:=.type "list",dict:=none,data:=.seq ([]:List Value).toArray }).objs.size:=fun b hb=> by
  rw [Heap.size_push]; exact Nat.lt_succ_of_lt (hfl b hb)
 have I4:=iD (t':=s2.toks+([]:List (Str×Value)).length) I3 B f3 hfl3 hns kp
 have loop:codeAny (model X.prog X.w) X.A (.compLoop (.ListComp elt [⟨tg,iter,[cond],0⟩] scope pos) 0 (.ref it) (.ref s2.heap.objs.size) (compEnvC scope cl (s2.heap.push { cls:=.type "list",dict:=none,data:=.seq ([]:List Value).toArray }).objs.size X.env))
   (compPost (model X.prog X.w) X.A X.xe use Q (.ref s2.heap.objs.size) (s2.heap.push { cls:=.type "list",dict:=none,data:=.seq ([]:List Value).toArray }).objs.size)
   { s2 with heap:=h₁,toks:=s2.toks+([]:List (Str×Value)).length }:=by
  generalize hs3:({ s2 with heap:=s2.heap.push { cls:=.type "list",dict:=none,data:=.seq ([]:List Value).toArray } }:Shared)=s3 at *
  have hC:(s2.heap.push { cls:=.type "list",dict:=none,data:=.seq ([]:List Value).toArray }).objs.size=s3.heap.objs.size:=by rw [← hs3]
  rw [hC]
  have hstat:∀ {H':Hp},(∀ b∈fp,H' b=none)→∀ b∈fp,ju (ax X scope cl s3.heap.objs.size s3 (upd H2 s2.heap.objs.size (.lst [])) fp) [] H' b:=fun hn b hb=>
   ⟨hn b hb,(I4.ok.exf b hb).1,I4.ok.exfs b hb,.inl hb,fun x c e=> (I4.ok.exf b hb).2 x c e,fun p hp=> absurd (show p∈([]:List (Addr×Obj)) from hp) (by simp)⟩
  have back:∀ {σ':St} {H':Hp} {pp:List (Addr×Obj)} {s':Shared},Inv (ax X scope cl s3.heap.objs.size s3 (upd H2 s2.heap.objs.size (.lst [])) fp) pp σ' H' s'→Inv X pins σ H' s':=fun I'=>
   I3.call' (ch:=fp) I'.os I'.base I'.hok I'.bare fun b hb=> ⟨(f3 b hb).2.2.2.1,(f3 b hb).2.1,(f3 b hb).2.2.2.2.1,(f3 b hb).2.2.2.2.2⟩
  refine codeAny_loop rfl (fun n s'=> ∃ i H',Inv (ax X scope cl s3.heap.objs.size s3 (upd H2 s2.heap.objs.size (.lst [])) fp) [] (mask is σ) H' s'∧tn i s'.heap∧(∀ b∈fp,H' b=none)∧W i n H') ?_ m0 ⟨0,_,(by subst hs3; exact I4),st4,fun b hb=> (f3 b hb).1,w0⟩
  rintro n s5 ⟨i,H5,I5,st5,fr5,w5⟩
  show wpAny _ _ ((compTurn (.ListComp elt [⟨tg,iter,[cond],0⟩] scope pos) 0 (.ref it) (.ref s2.heap.objs.size) (compEnvC scope cl s3.heap.objs.size X.env)).onRaise (fun x=> do noteFrame x (compEnvC scope cl s3.heap.objs.size X.env); theTreesLotGoes x)) _ _ s5
  refine wpAny_noted ?_
  rw [compTurn_list]
  refine wpAny_bind (wpAny_standAt (wpAny_bind ?_))
  rcases turn i n H5 w5 with ⟨stop,q⟩ | ⟨go,step⟩
  ·refine thn (T.done (ax X scope cl s3.heap.objs.size s3 (upd H2 s2.heap.objs.size (.lst [])) fp) rfl rfl rfl hc i [] s5 _ H5 _ I5 (hstat fr5) st5 stop) fun r s6 ⟨hr,I6⟩=> ?_
   subst hr
   refine wpAny_pure ?_
   obtain ⟨m6,hn6,_⟩:=I6.loc
   have hCn:∀ b,b < s3.heap.objs.size→b≠s3.heap.objs.size:=fun b hb=> Nat.ne_of_lt hb
   refine fin _ s3.heap.objs.size H5 s6 m6 (back I6) hn6 I6.free (Nat.ne_of_gt I3.lt) (I3.nofs (Nat.le_refl _)) I3.sz (fun x c e=> ?_) (fun p hp=> ?_) q
   ·obtain ⟨v,z⟩:=I3.cell x c e
    exact Nat.ne_of_lt z.lt
   ·exact Nat.ne_of_lt (Heap.lt_size (I3.pin p hp).1)
  ·refine thn (T.item (ax X scope cl s3.heap.objs.size s3 (upd H2 s2.heap.objs.size (.lst [])) fp) rfl rfl rfl hc i [] s5 _ H5 _ I5 (hstat fr5) st5 go) fun r s6 ⟨u,hr,h6⟩=> ?_
   subst hr
   refine wpAny_bind (thn h6 fun _ s7 ⟨x,H7,I7,r7,y7,st7,fr7⟩=> ?_)
   have I7':=I7.pinned (hstat fr7) (T.obj _ _ st7)
   refine wpAny_bind (wpAny_mono (hg _ _ _ _ _ s7 (mask is σ) H7 x u _ I7' r7 (step x H7 y7)) (fun _ s8 ⟨σ8,H8,I8,q8⟩=> ?_) fun _ _ z=> z.elim)
   refine wpAny_bind (wpAny_tests_one (wpAny_mono (ht _ _ _ _ _ s8 σ8 H8 _ I8 q8) (fun bb s9 ⟨H9,I9,sub,q9⟩=> ?_) fun _ _ z=> z.elim))
   have fpn:∀ {H':Hp} {s':Shared} {σ':St},Inv (ax X scope cl s3.heap.objs.size s3 (upd H2 s2.heap.objs.size (.lst [])) fp) ([]++jG fp s7.heap) σ' H' s'→tn (i+1) s'.heap∧∀ b∈fp,H' b=none:=fun {H' s' σ'} J=> ⟨T.keep _ _ _ st7 fun b hb o e=> (J.pin (b,o) (List.mem_append_right _ (List.mem_append_right _ (de hb e)))).1,fun b hb=> by
    obtain ⟨o,e,d⟩:=T.obj _ _ st7 b hb
    exact (J.pin (b,o) (List.mem_append_right _ (List.mem_append_right _ (de hb e)))).2.1⟩
   cases bb with
   | true=>
    rw [if_pos rfl] at q9
    simp only [if_true]
    refine wpAny_bind (wpAny_bind (wpAny_mono (he _ _ _ _ _ s9 σ8 H9 _ I9 q9) (fun v s10 ⟨y,H10,I10,r10,vs,hl10,hz,m',hm,w'⟩=> ?_) fun _ _ z=> z.elim))
    refine wpAny_bind (wpAny_mono (ip (X:=ax X scope cl s3.heap.objs.size s3 (upd H2 s2.heap.objs.size (.lst [])) fp) _ s10 σ8 H10 (.ref s2.heap.objs.size) [y] (.ref s2.heap.objs.size) [v] (fun _ H'=> H'=upd H10 s2.heap.objs.size (.lst (vs++[y]))) I10 rfl (.cons r10 .nil) ⟨_,vs,y,rfl,rfl,hl10,hz,rfl⟩) (fun z s11 ⟨zv,H11,I11,_,e11⟩=> ?_) fun _ _ z=> z.elim)
    subst e11
    obtain ⟨k1,k2⟩:=fpn I11
    exact wpAny_pure (wpAny_pure ⟨rfl,m',hm,i+1,_,(I11.unpinned (pins:=[])).weak (by rw [I11.len,eJ,I.len]) sub,k1,k2,w'⟩)
   | false=>
    rw [if_neg (by decide)] at q9
    simp only [Bool.false_eq_true,if_false]
    obtain ⟨m',hm,w'⟩:=q9
    obtain ⟨k1,k2⟩:=fpn I9
    first
     | exact wpAny_pure ⟨rfl,m',hm,i+1,_,(I9.unpinned (pins:=[])).weak (by rw [I9.len,eJ,I.len]) sub,k1,k2,w'⟩
     | exact wpAny_bind (wpAny_pure (wpAny_pure ⟨rfl,m',hm,i+1,_,(I9.unpinned (pins:=[])).weak (by rw [I9.len,eJ,I.len]) sub,k1,k2,w'⟩))
 exact codeAny_compStart_list loop (T.self X.A 0 _ _ _ st4 loop)
theorem uF {elt iter tg:Expr} {scope:Scope} {cl:List (Str×Addr)} {pos:Pos} {is:List Nat} {wi:TI} {g:TG} {tt:TT} {te:TE} {cond:Expr} (hc:X.calm=true) (B:dg X scope cl is)
  (hi:PI X tg iter wi) (hg:∀ C s H fp,PG (ax X scope cl C s H fp) tg g) (ht:∀ C s H fp,PT (ax X scope cl C s H fp) cond tt) (he:∀ C s H fp,PE (ax X scope cl C s H fp) elt te) (hs:∀ x,foldedSetIterable iter X.env x=pure x:=by intro _; rfl):
  PE X (.ListComp elt [⟨tg,iter,[cond],0⟩] scope pos) (vx is wi g tt te):=by
 intro pins s σ H Q I h
 rw [eval_ListComp]
 refine q_ (use:=none) hc B hi hg ht he hs I h fun l C H' s' m I' hn h1 h2 h3 h4 h5 h6 q=> ⟨m,hn,fun h' hsb=> ?_⟩
 exact ⟨.ref l,H',I'.turned (t':=s'.toks) (fun b o hb e=> hsb.extBut b o hb e) h1 (Ne.symm h2.symm) (.inr h4) h5 h6,rfl,q⟩
end
section
variable {X:Cx} {H0:Hp} {O0:List Addr} {E:XK} {ps ps':PSt} {D:PD} {tg iter cond:Expr} {pos p:Pos} {xs:List U} {fs:List (Option U)}
theorem oH {is:List Nat} {g:TG} {f:PSt→U→PSt} {dom:U→Prop} {σ:St} {H1:Hp} {O:List Addr} {Q:VK} {J:It} {tt:TT} {te:TE} (hg:GOk g X.K is f dom) (R1:Rs X.K H0 O0 ps σ H1 O) (Y:Yl X.K J (hid H1 O) xs) (hlen:fs.length=xs.length) (hz:xs.length≤sizeLine) (hdom:∀ x∈xs,dom x)
  (htt:∀ (i:Nat) (x:U) (o:Option U) (σ:St) (H:Hp) (O':List Addr) (Q:Bool→Hp→Prop),xs[i]?=some x→fs[i]?=some o→Rs X.K H0 O0 (f (eQ is ps) x) σ H O'→(∀ H',aJ H H'→Q o.isSome H')→tt σ H Q)
  (hte:∀ (i:Nat) (x y:U) (σ:St) (H:Hp) (O':List Addr) (Q:VK),xs[i]?=some x→fs[i]?=some (some y)→Rs X.K H0 O0 (f (eQ is ps) x) σ H O'→(∀ v H',aJ H H'→Rp X.K (hid H' O') v y→Q v H')→te σ H Q)
  (fin:∀ a vs H',aJ H1 H'→H1 a=none→H' a=some (.lst vs)→Rps X.K (hid H' (a::O)) vs (fs.filterMap id)→Q (.ref a) H'):uG is g tt te σ Q J H1:=by
 intro l hl
 refine ⟨fun i m H2=> m=xs.length - i∧i≤xs.length∧aJ H1 H2∧∃ vs,H2 l=some (.lst vs)∧vs.length≤i∧Rps X.K (hid H2 (l::O)) vs ((fs.take i).filterMap id),⟨_,rfl,Nat.zero_le _,aW hl _,[],aU,Nat.le_refl _,by rw [List.take_zero]; exact .nil⟩,?_⟩
 rintro i m H2 ⟨rfl,hi,s2,vs,h2,hv,rs⟩
 have seen:aJ (hid H1 O) (hid H2 (l::O)):=bP s2 hl
 obtain ⟨y1,y2⟩:=Y H2 (seen.trans aw)
 by_cases hlt:i < xs.length
 ·obtain ⟨g1,g2⟩:=y1 i hlt
  refine .inr ⟨g1,fun x H3 y=> ?_⟩
  obtain ⟨rfl,u,hu,r⟩:=g2 x H3 y
  have R2:=(R1.mask (is:=is)).hide s2 hl (by rw [h2]; intro z; cases z)
  refine hg H0 O0 _ _ H3 (l::O) x u _ (hdom u (List.mem_of_getElem? hu)) R2 (r.same seen) fun σ4 R4 keep=> ?_
  obtain ⟨o,ho⟩:∃ o,fs[i]?=some o:=⟨_,List.getElem?_eq_getElem (by omega)⟩
  refine htt i u o σ4 H3 (l::O) _ hu ho R4 fun H5 s5=> ⟨fun j w e=> keep j w (gU is σ j w e).2 e,?_⟩
  cases o with
  | none=>
   refine sH ⟨xs.length - (i+1),by omega,rfl,hlt,s2.trans s5,vs,s5 _ _ h2,by omega,?_⟩
   rw [List.take_succ,ho,Option.toList_some,List.filterMap_append]
   simpa using rs.same (bu s5)
  | some yv=>
   refine rG (hte i u yv σ4 H5 (l::O) _ hu ho (R4.go s5) fun v H6 s6 r6=> ⟨vs,s6 _ _ (s5 _ _ h2),?_,xs.length - (i+1),by omega,rfl,hlt,((s2.trans s5).trans s6).put hl _,vs++[v],aU,by simp; omega,?_⟩)
   ·omega
   ·rw [lf List.mem_cons_self,List.take_succ,ho,Option.toList_some,List.filterMap_append]
    exact ((rs.same (bu s5)).same (bu s6)).snoc (.cons r6 .nil)
 ·have e:i=xs.length:=by omega
  subst e
  rw [← hlen,List.take_length] at rs
  exact .inl ⟨y2,fin l vs H2 s2 hl h2 rs⟩
theorem wu {elt:Expr} {scope:Scope} {cl:List (Str×Addr)} {is:List Nat} {g:TG} {f:PSt→U→PSt} {dom:U→Prop} (fs:List (Option U)) (hc:X.calm=true) (B:dg X scope cl is) (hi:EvI X H0 O0 ps tg iter xs) (hg:∀ C s H fp,PG (ax X scope cl C s H fp) tg g) (gk:GOk g X.K is f dom)
  (hlen:fs.length=xs.length) (hz:xs.length≤sizeLine) (hdom:∀ x∈xs,dom x) (ht:∀ C s H fp (i:Nat) (x:U) (o:Option U),xs[i]?=some x→fs[i]?=some o→Tt (ax X scope cl C s H fp) H0 O0 (f (eQ is ps) x) cond o.isSome)
  (he:∀ C s H fp (i:Nat) (x y:U),xs[i]?=some x→fs[i]?=some (some y)→Ev (ax X scope cl C s H fp) H0 O0 (f (eQ is ps) x) elt y)
  (hs:∀ x,foldedSetIterable iter X.env x=pure x:=by intro _; rfl):EvN X H0 O0 ps (.ListComp elt [⟨tg,iter,[cond],0⟩] scope pos) (fs.filterMap id):=by
 have hte:∀ C s H fp,PE (ax X scope cl C s H fp) elt fun σ H Q=> ∃ i x y,xs[i]?=some x∧fs[i]?=some (some y)∧∃ O',Rs X.K H0 O0 (f (eQ is ps) x) σ H O'∧∀ v H',aJ H H'→Rp X.K (hid H' O') v y→Q v H':=
  fun C s H fp pins s' σ H' Q I ⟨i,x,y,h1,h2,z⟩=> he C s H fp i x y h1 h2 pins s' σ H' Q I z
 have htt:∀ C s H fp,PT (ax X scope cl C s H fp) cond fun σ H Q=> ∃ (i:Nat) (x:U) (o:Option U),xs[i]?=some x∧fs[i]?=some o∧∃ O',Rs X.K H0 O0 (f (eQ is ps) x) σ H O'∧∀ H',aJ H H'→Q o.isSome H':=
  fun C s H fp pins s' σ H' Q I ⟨i,x,o,h1,h2,z⟩=> ht C s H fp i x o h1 h2 pins s' σ H' Q I z
 refine PE.mono (uF hc B hi hg htt hte hs) fun σ H Q ⟨O,R,q⟩=> ⟨O,R,fun J H1 s1 Y=> ?_⟩
 exact oH gk (R.go s1) Y hlen hz hdom (fun i x o σ H O' Q h1 h2 R' z=> ⟨i,x,o,h1,h2,O',R',z⟩) (fun i x y σ H O' Q h1 h2 R' z=> ⟨i,x,y,h1,h2,O',R',z⟩) fun a vs H' s n h r=> q a vs H' (s1.trans s) (s1.free n) h r
end
end L2
namespace L2
open PySem PySem.Spec PyProof.Rows
inductive zN:List (Option Expr)→List Expr→Prop where
 | nil:zN [] []
 | cons {k v:Int} {a b:Nat} {p q:Pos} {ks:List (Option Expr)} {vs:List Expr} (h:zN ks vs):zN (some (.Constant (.int k) a p)::ks) (.Constant (.int v) b q::vs)
section
variable {X:Cx} {H0:Hp} {O0:List Addr} {ps:PSt} {pos:Pos} {keys:List (Option Expr)} {values:List Expr} {k m:Bool}
end
end L2
namespace L2
open PySem PySem.Spec PyProof.Rows
theorem Ws.nox {X:Cx} {H0:Hp} {O0:List Addr} {E:XK} {ss:List Stmt} {D:PD} {ps:PSt} (h:Ws X.nox H0 O0 E ss D ps):Ws X H0 O0 E ss D ps:=PSs.nox h
theorem aX.calm {P:Program} {w:World} {K:PySem.W.Frag} {mg:Str→Option Value} {base:Heap} {k:Nat} {f:Addr} {fd:FuncData} {ps:List Str} {sp:Sp} (F:aX P w K mg base (CXF P w) k f fd ps sp) (h:∀ vs H Q E,sp vs H Q E→sp vs H Q E0):aX P w K mg base CX0 k f fd ps sp:=by
 refine ⟨F.len,fun A outer s H args us vs Q E hr he hb hv hs=> codeAny_mono (F.run A outer s H args us vs Q E0 hr he hb hv (h _ _ _ _ hs)) fun r s' q=> ?_⟩
 cases r with
 | ok fl=>
  cases fl with
  | ret u=> exact q
  | next=> exact q
  | brk=> exact q
  | cont=> exact q
 | error e=>
  obtain ⟨_,_,_,_,_,_,_,_,_,_,_,_,_,_,_,hE⟩:=q
  exact hE.elim
def g_:List U→Out→Prop:=fun us o=> ∃ ns:List Int,us=[.scr (ns.map U.int)]∧ns.length≤63∧(∀ m∈ns,Sz 1048576 m)∧o=.val (.bl true)
theorem tZ {K:PySem.W.Frag} (vs:List V) (H:Hp) (Q:VK) (E:XK) (h:spU K g_ vs H Q E):spU K g_ vs H Q E0:=by
 obtain ⟨us,O,o,d,r,⟨ns,h1,h2,h3,rfl⟩,q⟩:=h
 exact ⟨us,O,_,d,r,⟨ns,h1,h2,h3,rfl⟩,q⟩
theorem rC {K:PySem.W.Frag} {H:Hp} {a:Addr} {ns:List Int} {E:XK} (h1:ns.length≤63) (h2:∀ m∈ns,Sz 1048576 m) (h3:SqL K H a (ns.map V.int)):spU K g_ [.ref a] H (fun v _=> v=.bl true) E:=by
 refine ⟨[.scr (ns.map U.int)],[],.val (.bl true),fun a ha=> (nomatch ha),.cons ?_ .nil,⟨ns,rfl,h1,h2,rfl⟩,fun v H' s r=> by cases r; rfl⟩
 have e:hid H []=H:=by funext b; unfold hid; rw [if_neg (by simp)]
 rw [e]
 refine .scr h3 (by simp) fun i v x e1 e2=> ?_
 rw [List.getElem?_map] at e1 e2
 cases q:ns[i]? with
 | none=> rw [q] at e1; cases e1
 | some n=> rw [q] at e1 e2; cases e1; cases e2; exact .int n
theorem nJ {k:Nat} {A:Around} (hr:dR k A):A.units+10 < cLine:=by have:=hr.un; omega
theorem uU {ns:List Int} {k:Int} (h0:0≤k) (h:k < (ns.length:Int)):atI (ns.map U.int) k=some (.int (ns.getD k.toNat 0)):=by
 have hk:k.toNat < ns.length:=by omega
 have q:atI (ns.map U.int) ((k.toNat:Nat):Int)=some (.int (ns.getD k.toNat 0)):=qD (by rw [List.getElem?_map,List.getD_eq_getElem?_getD,List.getElem?_eq_getElem hk] <;> rfl)
 rwa [show ((k.toNat:Nat):Int)=k by omega] at q
theorem wb {ns:List Int} (h:∀ m∈ns,Sz 1048576 m) (i:Nat):Sz 1048576 (ns.getD i 0):=by
 by_cases hk:i < ns.length
 ·rw [List.getD_eq_getElem?_getD,List.getElem?_eq_getElem hk,Option.getD_some]; exact h _ (List.getElem_mem hk)
 ·rw [List.getD_eq_getElem?_getD,List.getElem?_eq_none (by omega),Option.getD_none]; exact Sz.mono (m:=8) (by decide) (by decide)
abbrev pt (x y:Int):U:=.tup [.int x,.int y]
theorem dTb {p:Prop} [Decidable p] (h:decide p=true):p:=of_decide_eq_true h
theorem dFb {p:Prop} [Decidable p] (h:decide p=false):¬ p:=of_decide_eq_false h
theorem nTb {p:Prop} [Decidable p] (h:(!decide p)=true):¬ p:=by simpa using h
theorem nFb {p:Prop} [Decidable p] (h:(!decide p)=false):p:=by simpa using h
theorem vB {a b:Bool} (h:a=b):Out.val (.bl a)=Out.val (.bl b):=by rw [h]
theorem vIO {a b:Int} (h:a=b):Out.val (.int a)=Out.val (.int b):=by rw [h]
mutual
theorem vq:∀ (n:Nat) (u:U),okU n u=true→eqW u u=true
 | _,.non,_=> rfl
 | _,.bl b,_=> by simp [eqW]
 | _,.int b,_=> by simp [eqW]
 | _,.str b,_=> by simp [eqW]
 | _,.ty _,h=> by simp [okU] at h
 | _,.dic,h=> by simp [okU] at h
 | 0,.tup _,h=> by simp [okU] at h
 | 0,.lst _,h=> by simp [okU] at h
 | 0,.scr _,h=> by simp [okU] at h
 | n+1,.tup xs,h=> by rw [eqW]; rw [okU] at h; exact eqWs_refl n xs h
 | n+1,.lst xs,h=> by rw [eqW]; rw [okU] at h; exact eqWs_refl n xs h
 | n+1,.scr xs,h=> by rw [eqW]; rw [okU] at h; exact eqWs_refl n xs h
theorem eqWs_refl:∀ (n:Nat) (xs:List U),okUs n xs=true→eqWs xs xs=true
 | _,[],_=> rfl
 | n,x::xs,h=> by
  simp only [okUs,Bool.and_eq_true] at h
  simp only [eqWs,Bool.and_eq_true]
  exact ⟨vq n x h.1,eqWs_refl n xs h.2⟩
end
theorem uK {α:Type} {n:Nat} {f:α→U} {l:List α} (h:∀ a∈l,okU n (f a)=true):okUs n (l.map f)=true:=by
 induction l with
 | nil=> rfl
 | cons a l ih=>
  rw [List.map_cons,okUs,Bool.and_eq_true]
  exact ⟨h a List.mem_cons_self,ih fun b hb=> h b (List.mem_cons_of_mem _ hb)⟩
theorem nF {α:Type} {n:Nat} {f:α→U} {l:List α} (h:∀ a,okU n (f a)=true):okU (n+1) (.lst (l.map f))=true:=by rw [okU]; exact uK fun a _=> h a
theorem mY {α:Type} {f:α→U} {p:α→α→Prop} [DecidableEq α] (hf:∀ a b,eqW (f a) (f b)=decide (a=b)):∀ (l m:List α),eqWs (l.map f) (m.map f)=decide (l=m)
 | [],[]=> rfl
 | [],_::_=> rfl
 | _::_,[]=> rfl
 | a::l,b::m=> by
  rw [List.map_cons,List.map_cons,eqWs,hf,mY (p:=p) hf l m,Bool.eq_iff_iff]
  simp
end L2
namespace L2
open PySem PySem.Spec PyProof.Rows
section
variable {X:Cx} {H0:Hp} {O0:List Addr} {E:XK} {ps:PSt} {D:PD} {a b c e:Expr} {rest:List Expr} {pos:Pos} {k:Bool}
theorem cT {tb fb:List Stmt} (hc:Tt X H0 O0 ps c k) (hk:k=true) (h:Ws X H0 O0 E tb D ps):W1 X H0 O0 E (.If c tb fb pos) D ps:=h9 hc (fun _=> h) (fun e=> by rw [hk] at e; cases e)
theorem dY {tb fb:List Stmt} (hc:Tt X H0 O0 ps c k) (hk:k=false) (h:Ws X H0 O0 E fb D ps):W1 X H0 O0 E (.If c tb fb pos) D ps:=h9 hc (fun e=> by rw [hk] at e; cases e) (fun _=> h)
theorem lw (ha:Tt X H0 O0 ps a k) (hk:k=false):Tw X H0 O0 ps (.BoolOp .And (a::b::rest) pos) false:=by
 subst hk
 exact tK (m:=true) ha fun h=> by cases h
theorem ji (ha:Tt X H0 O0 ps a k) (hk:k=true):Tw X H0 O0 ps (.BoolOp .Or (a::b::rest) pos) true:=by
 subst hk
 exact xh (m:=true) ha fun h=> by cases h
end
end L2
namespace L2
open PySem PySem.Spec PyProof.Rows
section
variable {X:Cx} {H0:Hp} {O0:List Addr} {E:XK} {ps:PSt} {D:PD} {body:List Stmt} {tg iter c:Expr} {pos:Pos} {xs:List U} {α:Type}
theorem TgS.sub {p p':PSt} {u:U} {ps':PSt} (h:TgS X H0 O0 tg p u ps') (hs:SubP p p'):TgS X H0 O0 tg p' u ps':=PG.mono h fun v σ H Q ⟨O,R,r,q⟩=> ⟨O,R.sub hs,r,q⟩
theorem Tt.sub {p p':PSt} {e:Expr} {k:Bool} (h:Tt X H0 O0 p e k) (hs:SubP p p'):Tt X H0 O0 p' e k:=PT.mono h fun σ H Q ⟨O,R,q⟩=> ⟨O,R.sub hs,q⟩
theorem fG (st:α→PSt) (Q:Nat→α→Prop) (hc:X.calm=true) (hp:PassesOwn (model X.prog X.w) X.A X.env X.xe) (hi:EvI X H0 O0 ps tg iter xs) (h0:∃ a,Q 0 a∧SubP (st a) ps)
  (hs:∀ (H0:Hp) (i:Nat) (x:U) (a:α),xs[i]?=some x→Q i a→∃ ps',TgS X H0 O0 tg (st a) x ps'∧Ws X H0 O0 E body { D with nx:=fun p=> ∃ b,Q (i+1) b∧SubP (st b) p,ct:=fun p=> ∃ b,Q (i+1) b∧SubP (st b) p,bk:=D.nx } ps')
  (hd:∀ a ps,Q xs.length a→SubP (st a) ps→D.nx ps) (hf:∀ x,foldedSetIterable iter X.env x=pure x:=by intro _; rfl):W1 X H0 O0 E (.For tg iter body [] pos) D ps:=
 z9 hc hp hi (fun i ps=> ∃ a,Q i a∧SubP (st a) ps) h0 (fun H0 i x ps hx ⟨a,q,sb⟩=> by
  obtain ⟨ps',t,w⟩:=hs H0 i x a hx q
  exact ⟨ps',t.sub sb,w⟩) (fun ps ⟨a,q,sb⟩=> hd a ps q sb) hf
theorem jH (st:α→PSt) (Q:Nat→α→Prop) (hp:PassesOwn (model X.prog X.w) X.A X.env X.xe) (h0:∃ m a,Q m a∧SubP (st a) ps)
  (hs:∀ m a,Q m a→∃ b,Tt X H0 O0 (st a) c b∧(b=true→Ws X H0 O0 E body { D with nx:=fun p=> ∃ m' a',m' < m∧Q m' a'∧SubP (st a') p,ct:=fun p=> ∃ m' a',m' < m∧Q m' a'∧SubP (st a') p,bk:=D.nx } (st a))∧(b=false→∀ ps,SubP (st a) ps→D.nx ps)):W1 X H0 O0 E (.While c body [] pos) D ps:=by
 obtain ⟨m,a,q,sb⟩:=h0
 refine wS hp (fun m ps=> ∃ a,Q m a∧SubP (st a) ps) m ⟨a,q,sb⟩ fun m ps ⟨a,q,sb⟩=> ?_
 obtain ⟨b,t,h1,h2⟩:=hs m a q
 refine ⟨b,t.sub sb,fun e=> ?_,fun e=> h2 e ps sb⟩
 refine eM (PSs.mono (h1 e) fun D' σ H ⟨L,O,R⟩=> ⟨⟨fun p σ H O R ⟨m',a',l,q',sb'⟩=> L.nx p σ H O R ⟨m',l,a',q',sb'⟩,L.bk,fun p σ H O R ⟨m',a',l,q',sb'⟩=> L.ct p σ H O R ⟨m',l,a',q',sb'⟩,L.rt⟩,O,R⟩) sb
end
abbrev P2:=Int×Int
abbrev pu (p:P2):U:=.tup [.int p.1,.int p.2]
abbrev lp (l:List P2):U:=.lst (l.map pu)
theorem zH (p q:P2):eqW (pu p) (pu q)=decide (p=q):=by
 obtain ⟨a,b⟩:=p
 obtain ⟨c,d⟩:=q
 simp only [pu,eqW,eqWs,Bool.and_true]
 rw [Bool.eq_iff_iff]; simp
theorem tq (l m:List P2):eqW (lp l) (lp m)=decide (l=m):=by rw [lp,lp,eqW]; exact mY (p:=fun _ _=> True) zH l m
theorem pI (l:List P2):okU 9 (lp l)=true:=nF fun _=> rfl
theorem qG {l:List P2} {i:Nat} {x:U} (h:(l.map pu)[i]?=some x):∃ p,l[i]?=some p∧p∈l∧x=pu p:=by
 rw [List.getElem?_map] at h
 cases q:l[i]? with
 | none=> rw [q] at h; cases h
 | some p=> rw [q] at h; cases h; exact ⟨p,rfl,List.mem_of_getElem? q,rfl⟩
theorem dC {α:Type} {l:List α} {f:α→U} {g:α→U} {i:Nat} {x y:U} (hx:(l.map f)[i]?=some x) (hy:(l.map g)[i]?=some y):∃ a,l[i]?=some a∧a∈l∧x=f a∧y=g a:=by
 rw [List.getElem?_map] at hx hy
 cases q:l[i]? with
 | none=> rw [q] at hx; cases hx
 | some p=> rw [q] at hx hy; cases hx; cases hy; exact ⟨p,rfl,List.mem_of_getElem? q,rfl,rfl⟩
end L2
namespace L2
open PySem PySem.Spec PyProof.Rows
theorem W1.mono {X:Cx} {H0:Hp} {O0:List Addr} {E:XK} {s:Stmt} {D:PD} {J:PSt→Prop} {ps:PSt} (h:W1 X H0 O0 E s { D with nx:=J } ps) (m:∀ ps,J ps→D.nx ps):W1 X H0 O0 E s D ps:=
 PS.mono h fun D' σ H ⟨L,O,R⟩=> ⟨⟨fun p σ H O R q=> L.nx p σ H O R (m p q),L.bk,L.ct,L.rt⟩,O,R⟩
theorem i_ {X:Cx} {H0:Hp} {O0:List Addr} {E:XK} {s:Stmt} {ss:List Stmt} {D:PD} {ps:PSt} (J:PSt→Prop) (h1:W1 X H0 O0 E s { D with nx:=J } ps) (h2:∀ ps,J ps→Ws X H0 O0 E ss D ps):Ws X H0 O0 E (s::ss) D ps:=
 ae (W1.mono (J:=J) (D:={ D with nx:=fun p=> Ws X H0 O0 E ss D p }) h1 h2)
end L2
namespace PySem.W
open PySem PySem.Spec PySem.Calls PyProof.Rows
end PySem.W
namespace L2
open PySem PySem.Spec PySem.W PyProof.Rows
section
variable {X:Cx} {pins:List (Addr×Obj)} {σ:St} {H:Hp} {s:Shared}
end
section
variable {X:Cx}
def kU.drop (D:kU) (i:Nat):kU:=⟨fun σ H=> D.nx (σ.set i none) H,D.rt,fun σ H=> D.bk (σ.set i none) H,fun σ H=> D.ct (σ.set i none) H⟩
end
section
variable {X:Cx} {H0:Hp} {O0:List Addr} {E:XK} {ps:PSt} {D:PD} {a e:Expr} {es:List Expr} {us:List U} {k:Bool} {n:Nat} {fd:FuncData} {pn:List Str} {spec:List U→Out→Prop}
def PD.drop (D:PD) (i:Nat):PD:=⟨fun p=> D.nx (p.set i none),D.rt,fun p=> D.bk (p.set i none),fun p=> D.ct (p.set i none)⟩
end
section
variable {X:Cx} {H0:Hp} {O0:List Addr} {ps:PSt} {pos:Pos}
end
end L2
namespace L2
open PySem
theorem e8 {c:Const} {j:Nat} {pos:Pos} {es:List Expr} {env:Env}:starEach (.Constant c j pos::es) env=(false,eval (.Constant c j pos) env)::starEach es env:=by rw [starEach]; intro e p h; cases h
theorem tI {l:List Expr} {j:Nat} {pos:Pos} {es:List Expr} {env:Env}:starEach (.Tuple l j pos::es) env=(false,eval (.Tuple l j pos) env)::starEach es env:=by rw [starEach]; intro e p h; cases h
theorem lJ {o:UnaryOp} {a:Expr} {pos:Pos} {es:List Expr} {env:Env}:starEach (.UnaryOp o a pos::es) env=(false,eval (.UnaryOp o a pos) env)::starEach es env:=by rw [starEach]; intro e p h; cases h
theorem bJ {a b:Expr} {o:Operator} {pos:Pos} {es:List Expr} {env:Env}:starEach (.BinOp a o b pos::es) env=(false,eval (.BinOp a o b pos) env)::starEach es env:=by rw [starEach]; intro e p h; cases h
theorem ag {x:Str} {pos:Pos} {es:List Expr} {env:Env}:starEach (.Name x pos::es) env=(false,eval (.Name x pos) env)::starEach es env:=by rw [starEach]; intro e p h; cases h
theorem cw {a b:Expr} {pos:Pos} {es:List Expr} {env:Env}:starEach (.Subscript a b pos::es) env=(false,eval (.Subscript a b pos) env)::starEach es env:=by rw [starEach]; intro e p h; cases h
theorem cQ {f:Expr} {a:List Expr} {k:List Keyword} {pos:Pos} {es:List Expr} {env:Env}:starEach (.Call f a k pos::es) env=(false,eval (.Call f a k pos) env)::starEach es env:=by rw [starEach]; intro e p h; cases h
theorem ur {a:Expr} {o:List CmpOp} {c:List Expr} {pos:Pos} {es:List Expr} {env:Env}:starEach (.Compare a o c pos::es) env=(false,eval (.Compare a o c pos) env)::starEach es env:=by rw [starEach]; intro e p h; cases h
theorem dh {e:Expr} {g:List Comprehension} {sc:Scope} {pos:Pos} {es:List Expr} {env:Env}:starEach (.ListComp e g sc pos::es) env=(false,eval (.ListComp e g sc pos) env)::starEach es env:=by rw [starEach]; intro e p h; cases h
structure EvS (X:Cx) (H0:Hp) (O0:List Addr) (ps:PSt) (es:List Expr) (us:List U):Prop where
 a:EvA X H0 O0 ps es us
section
variable {X:Cx} {H0:Hp} {O0:List Addr} {ps:PSt} {e:Expr} {es:List Expr} {u:U} {us:List U} {pos:Pos}
theorem bS:EvS X H0 O0 ps [] []:=⟨am⟩
theorem aB (ha:Ev X H0 O0 ps e u) (hr:EvS X H0 O0 ps es us) (hs:starEach (e::es) X.env=(false,eval e X.env)::starEach es X.env):EvS X H0 O0 ps (e::es) (u::us):=⟨ac ha hr.a hs⟩
theorem cO {x1} (h:EvS X H0 O0 ps es us) (hz:us.length≤sizeLine:=by first | decide | (simp only [List.length_cons,List.length_nil]; decide)):Ev X H0 O0 ps (.Tuple es x1 pos) (.tup us):=Ad h.a hz
theorem d8 (h:EvS X H0 O0 ps es us) (hz:us.length≤sizeLine:=by first | decide | (simp only [List.length_cons,List.length_nil]; decide)):EvN X H0 O0 ps (.List es pos) us:=Aq h.a hz
end
end L2
namespace ST
open PySem PySem.SetTable
def Ris (xs:Array Nat):Prop:=∀ (i j x y:Nat),i < j→xs[i]?=some x→xs[j]?=some y→x < y
theorem Ris.inj {xs:Array Nat} (h:Ris xs) {i j x:Nat} (h1:xs[i]?=some x) (h2:xs[j]?=some x):i=j:=by
 rcases Nat.lt_trichotomy i j with z | z | z
 ·exact absurd (h i j x x z h1 h2) (Nat.lt_irrefl _)
 ·exact z
 ·exact absurd (h j i x x z h2 h1) (Nat.lt_irrefl _)
theorem d0 {xs:Array Nat} {i:Nat} (h:i < xs.size):xs[i]?=some xs[i]:=by simp [h]
theorem pL {xs:Array Nat} {i x:Nat} (h:xs[i]?=some x):i < xs.size:=(Array.getElem?_eq_some_iff.mp h).1
theorem kZ {xs:Array Nat} (R:Ris xs) (j:Nat):∀ (fuel lo hi:Nat),lo≤hi→hi≤xs.size→hi - lo≤fuel→(∀ (i x:Nat),i < lo→xs[i]?=some x→x < j)→(∀ (i x:Nat),hi≤i→xs[i]?=some x→j≤x)→
  (∀ (i x:Nat),i < below.go xs j fuel lo hi→xs[i]?=some x→x < j)∧(∀ (i x:Nat),below.go xs j fuel lo hi≤i→xs[i]?=some x→j≤x)∧below.go xs j fuel lo hi≤xs.size
 | 0,lo,hi,h1,h2,h3,h4,h5=> by
  have e:lo=hi:=by omega
  subst e
  rw [below.go]
  exact ⟨h4,h5,h2⟩
 | fuel+1,lo,hi,h1,h2,h3,h4,h5=> by
  rw [below.go]
  by_cases hlt:lo < hi
  ·rw [if_pos hlt]
   have hm:(lo+hi) / 2 < xs.size:=by omega
   have e:xs.getD ((lo+hi) / 2) j=xs[(lo+hi) / 2]:=by simp [Array.getD,hm]
   simp only [e]
   split
   ·rename_i hl
    refine kZ R j fuel _ hi (by omega) h2 (by omega) (fun i x hi' hx=> ?_) h5
    rcases Nat.lt_or_eq_of_le (show i≤(lo+hi) / 2 by omega) with z | z
    ·exact Nat.lt_trans (R i _ x _ z hx (d0 hm)) hl
    ·subst z; rw [d0 hm] at hx; cases hx; exact hl
   ·rename_i hl
    refine kZ R j fuel lo _ (by omega) (by omega) (by omega) h4 (fun i x hi' hx=> ?_)
    rcases Nat.lt_or_eq_of_le hi' with z | z
    ·exact Nat.le_trans (Nat.le_of_not_lt hl) (Nat.le_of_lt (R _ i _ x z (d0 hm) hx))
    ·subst z; rw [d0 hm] at hx; cases hx; exact Nat.le_of_not_lt hl
  ·rw [if_neg hlt]
   have e:lo=hi:=by omega
   subst e
   exact ⟨h4,h5,h2⟩
theorem e9 {xs:Array Nat} (R:Ris xs) (j:Nat):(∀ (i x:Nat),i < below xs j→xs[i]?=some x→x < j)∧(∀ (i x:Nat),below xs j≤i→xs[i]?=some x→j≤x)∧below xs j≤xs.size:=
 kZ R j xs.size 0 xs.size (Nat.zero_le _) (Nat.le_refl _) (by omega) (fun i x h=> absurd h (Nat.not_lt_zero _)) (fun i x h e=> absurd (pL e) (by omega))
theorem vD {xs:Array Nat} (R:Ris xs) {i j:Nat} (h:xs[i]?=some j):below xs j=i:=by
 obtain ⟨h1,h2,h3⟩:=e9 R j
 rcases Nat.lt_trichotomy (below xs j) i with z | z | z
 ·have hk:below xs j < xs.size:=Nat.lt_trans z (pL h)
  have:=h2 _ _ (Nat.le_refl _) (d0 hk)
  have:=R _ _ _ _ z (d0 hk) h
  omega
 ·exact z
 ·have:=h1 i j z h
  omega
theorem kI {t:SetTable} (R:Ris t.place) {i j:Nat} (h:t.place[i]?=some j):t.slot j=.live i:=by
 unfold SetTable.slot
 simp only [vD R h,h,beq_self_eq_true,if_true]
theorem si {t:SetTable} (hd:t.dummies=#[]) {j:Nat} (h:∀ i:Nat,t.place[i]?≠some j):t.slot j=.empty:=by
 unfold SetTable.slot
 have e:(t.place[below t.place j]?==some j)=false:=by simpa using h _
 simp only [e,hd]
 simp [SetTable.has]
theorem n6 {t:SetTable} (R:Ris t.place) (hd:t.dummies=#[]) (j:Nat):(t.slot j=.empty∧∀ i:Nat,t.place[i]?≠some j)∨∃ i:Nat,t.slot j=.live i∧t.place[i]?=some j:=by
 by_cases h:∃ i:Nat,t.place[i]?=some j
 ·obtain ⟨i,hi⟩:=h
  exact .inr ⟨i,kI R hi,hi⟩
 ·exact .inl ⟨si hd fun i e=> h ⟨i,e⟩,fun i e=> h ⟨i,e⟩⟩
theorem rW {xs:Array Nat} (R:Ris xs) {mask:Nat} (hn:xs.size≤mask):∃ s,s≤mask∧∀ i:Nat,xs[i]?≠some s:=by
 apply Classical.byContradiction
 intro hno
 have all:∀ s,s≤mask→∃ i:Nat,xs[i]?=some s:=fun s hs=> by
  apply Classical.byContradiction
  intro h
  exact hno ⟨s,hs,fun i e=> h ⟨i,e⟩⟩
 have key:∀ s,s≤mask→∃ i:Nat,xs[i]?=some s∧s≤i:=by
  intro s
  induction s with
  | zero=> intro h; obtain ⟨i,hi⟩:=all 0 h; exact ⟨i,hi,Nat.zero_le _⟩
  | succ s ih=>
   intro h
   obtain ⟨i,hi,hle⟩:=ih (by omega)
   obtain ⟨k,hk⟩:=all (s+1) h
   refine ⟨k,hk,?_⟩
   rcases Nat.lt_trichotomy i k with z | z | z
   ·omega
   ·subst z; rw [hi] at hk; cases hk
   ·have:=R k i _ _ z hk hi; omega
 obtain ⟨i,hi,hle⟩:=key mask (Nat.le_refl _)
 have:=pL hi
 omega
def adv (mask:Nat) (p:Probe):Probe:=
 if p.more > 0 then { p with j:=p.j+1,more:=p.more - 1 } else
 { p with j:=(leap mask p.i p.perturb).1,more:=runEnd mask (leap mask p.i p.perturb).1 - (leap mask p.i p.perturb).1,i:=(leap mask p.i p.perturb).1,perturb:=(leap mask p.i p.perturb).2 }
theorem jL (t:SetTable) (p:Probe):t.advance p=adv t.mask p:=by
 unfold SetTable.advance adv
 split
 ·rfl
 ·rfl
def start (mask:Nat) (h:Int):Probe:={ j:=bits h % (mask+1),more:=runEnd mask (bits h % (mask+1)) - bits h % (mask+1),i:=bits h % (mask+1),perturb:=bits h,dummy:=none }
def pth (mask:Nat) (h:Int):Nat→Probe
 | 0=> start mask h
 | n+1=> adv mask (pth mask h n)
def aM (mask:Nat) (h:Int):Nat→Nat×Nat
 | 0=> (bits h % (mask+1),bits h)
 | r+1=> leap mask (aM mask h r).1 (aM mask h r).2
theorem iW {mask:Nat}:∀ (m:Nat) (p:Probe) (f:Nat→Probe),f 0=p→(∀ n,f (n+1)=adv mask (f n))→m≤p.more→f m={ p with j:=p.j+m,more:=p.more - m }
 | 0,p,f,h0,_,_=> by rw [h0]; rfl
 | m+1,p,f,h0,hs,hm=> by
  rw [hs m,iW m p f h0 hs (by omega)]
  unfold adv
  rw [if_pos (by show p.more - m > 0; omega)]
  simp only [Probe.mk.injEq]
  exact ⟨by omega,by omega,trivial,trivial,trivial⟩
theorem i8 (mask:Nat) (h:Int):∀ n,(pth mask h n).dummy=none
 | 0=> rfl
 | n+1=> by
  rw [pth]; unfold adv
  split
  ·exact i8 mask h n
  ·exact i8 mask h n
theorem rS (mask i:Nat):runEnd mask i - i≤9:=by unfold runEnd; split <;> omega
theorem p5 (mask:Nat) (h:Int):∀ r,∃ n,n≤10 * r∧pth mask h n={ j:=(aM mask h r).1,more:=runEnd mask (aM mask h r).1 - (aM mask h r).1,i:=(aM mask h r).1,perturb:=(aM mask h r).2,dummy:=none }
 | 0=> ⟨0,Nat.le_refl _,rfl⟩
 | r+1=> by
  obtain ⟨n,hn,e⟩:=p5 mask h r
  have hL:=rS mask (aM mask h r).1
  have step:=iW (mask:=mask) (runEnd mask (aM mask h r).1 - (aM mask h r).1) (pth mask h n) (fun m=> pth mask h (n+m)) rfl (fun m=> rfl) (by rw [e]; exact Nat.le_refl _)
  refine ⟨n+(runEnd mask (aM mask h r).1 - (aM mask h r).1)+1,by omega,?_⟩
  rw [pth]
  have step':pth mask h (n+(runEnd mask (aM mask h r).1 - (aM mask h r).1))=_:=step
  rw [step',e]
  unfold adv
  rw [if_neg (by simp)]
  rfl
theorem wB (h:Int):bits h < 2 ^ 64:=by
 unfold bits
 have h1:=Int.emod_nonneg h (show (2 ^ 64:Int)≠0 by decide)
 have h2:=Int.emod_lt_of_pos h (show (0:Int) < 2 ^ 64 by decide)
 omega
theorem ka (mask:Nat) (h:Int):∀ r,(aM mask h r).2=bits h / 32 ^ r
 | 0=> by simp [aM]
 | r+1=> by
  rw [aM]
  show (aM mask h r).2 / 32=_
  rw [ka mask h r,Nat.div_div_eq_div_mul,Nat.pow_succ]
theorem ro (mask:Nat) (h:Int) (r:Nat) (hr:12≤r):(aM mask h r).2 / 32=0:=by
 rw [ka]
 have h1:=wB h
 rw [Nat.div_div_eq_div_mul]
 apply Nat.div_eq_of_lt
 have:32 ^ 12 * 32≤32 ^ r * 32:=Nat.mul_le_mul_right _ (Nat.pow_le_pow_right (by decide) hr)
 exact Nat.lt_of_lt_of_le (Nat.lt_of_lt_of_le h1 (by decide)) this
def cK:Nat→Nat
 | 0=> 1
 | k+1=> cK k * (4 * cK k+2)
theorem uO:∀ k,∃ m,cK k=2 ^ k * (2 * m+1)
 | 0=> ⟨0,by simp [cK]⟩
 | k+1=> by
  obtain ⟨m,e⟩:=uO k
  refine ⟨2 * (cK k) * m+m+cK k,?_⟩
  rw [cK,Nat.pow_succ]
  have:cK k * (4 * cK k+2)=2 ^ k * (2 * m+1) * (4 * cK k+2):=by rw [← e]
  rw [this]
  generalize cK k=c
  generalize 2 ^ k=p
  grind
def fZ:Nat→Nat→Nat
 | 0,x=> x
 | n+1,x=> 5 * fZ n x+1
theorem jp (m x:Nat):∀ n,fZ (m+n) x=fZ n (fZ m x)
 | 0=> rfl
 | n+1=> by rw [← Nat.add_assoc,fZ,jp m x n,fZ]
theorem i6:∀ (k x:Nat),fZ (2 ^ k) x=(1+4 * cK k) * x+cK k
 | 0,x=> by simp [fZ,cK]
 | k+1,x=> by
  rw [Nat.pow_succ,Nat.mul_two,jp,i6 k,i6 k,cK]
  generalize cK k=c
  grind
theorem o5 (k x:Nat):fZ (2 ^ k) x % 2 ^ (k+1)=(x+2 ^ k) % 2 ^ (k+1):=by
 rw [i6]
 obtain ⟨m,e⟩:=uO k
 rw [e]
 have:(1+4 * (2 ^ k * (2 * m+1))) * x+2 ^ k * (2 * m+1)=(x+2 ^ k)+2 ^ (k+1) * (2 * (2 * m+1) * x+m):=by
  rw [Nat.pow_succ]
  generalize 2 ^ k=p
  grind
 rw [this,Nat.add_mul_mod_self_left]
theorem gI (x:Nat):∀ (k y:Nat),∃ n,n < 2 ^ k∧fZ n x % 2 ^ k=y % 2 ^ k
 | 0,y=> ⟨0,by simp,by simp [Nat.mod_one]⟩
 | k+1,y=> by
  obtain ⟨n,hn,e⟩:=gI x k y
  have hp:2 ^ (k+1)=2 ^ k+2 ^ k:=by rw [Nat.pow_succ]; omega
  have h2:0 < 2 ^ k:=Nat.pow_pos (by decide)
  by_cases h:fZ n x % 2 ^ (k+1)=y % 2 ^ (k+1)
  ·exact ⟨n,by omega,h⟩
  ·refine ⟨n+2 ^ k,by omega,?_⟩
   rw [jp,o5]
   generalize fZ n x=z at *
   have d1:z % 2 ^ (k+1) % 2 ^ k=z % 2 ^ k:=Nat.mod_mod_of_dvd _ ⟨2,by rw [Nat.pow_succ]⟩
   have d2:y % 2 ^ (k+1) % 2 ^ k=y % 2 ^ k:=Nat.mod_mod_of_dvd _ ⟨2,by rw [Nat.pow_succ]⟩
   have l1:=Nat.mod_lt z (show 0 < 2 ^ (k+1) by omega)
   have l2:=Nat.mod_lt y (show 0 < 2 ^ (k+1) by omega)
   rw [← Nat.mod_add_mod]
   rw [← d1,← d2] at e
   generalize z % 2 ^ (k+1)=a at *
   generalize y % 2 ^ (k+1)=b at *
   rw [hp] at *
   generalize 2 ^ k=p at *
   have ea:a % p=if a < p then a else a - p:=by
    split
    ·exact Nat.mod_eq_of_lt (by assumption)
    ·rw [Nat.mod_eq_sub_mod (by omega),Nat.mod_eq_of_lt (by omega)]
   have eb:b % p=if b < p then b else b - p:=by
    split
    ·exact Nat.mod_eq_of_lt (by assumption)
    ·rw [Nat.mod_eq_sub_mod (by omega),Nat.mod_eq_of_lt (by omega)]
   rw [ea,eb] at e
   by_cases ha:a < p
   ·rw [if_pos ha] at e
    rw [Nat.mod_eq_of_lt (by omega)]
    split at e <;> omega
   ·rw [if_neg ha] at e
    rw [Nat.mod_eq_sub_mod (by omega),Nat.mod_eq_of_lt (by omega)]
    split at e <;> omega
theorem i7 {mask k:Nat} (hk:mask+1=2 ^ k) (h:Int):∀ q,(aM mask h (12+q)).1=fZ q (aM mask h 12).1 % 2 ^ k
 | 0=> by
  rw [fZ]
  have:(aM mask h 12).1 < 2 ^ k:=by
   rw [← hk]
   show (leap mask (aM mask h 11).1 (aM mask h 11).2).1 < _
   exact Nat.mod_lt _ (by omega)
  exact (Nat.mod_eq_of_lt this).symm
 | q+1=> by
  show (leap mask (aM mask h (12+q)).1 (aM mask h (12+q)).2).1=_
  unfold leap
  simp only [ro mask h (12+q) (by omega)]
  rw [i7 hk h q,hk,fZ,Nat.add_zero,Nat.mul_comm 5 _]
  generalize fZ q (aM mask h 12).1=z
  generalize 2 ^ k=m
  rw [Nat.add_mod,Nat.mod_mul_mod,← Nat.add_mod]
theorem cover {mask k:Nat} (hk:mask+1=2 ^ k) (h:Int) (s:Nat) (hs:s≤mask):∃ n,n < 10 * turns mask∧(pth mask h n).j=s:=by
 obtain ⟨q,hq,e⟩:=gI (aM mask h 12).1 k s
 obtain ⟨n,hn,en⟩:=p5 mask h (12+q)
 refine ⟨n,?_,?_⟩
 ·unfold turns; omega
 ·rw [en]
  show (aM mask h (12+q)).1=s
  rw [i7 hk h q,e]
  exact Nat.mod_eq_of_lt (by omega)
end ST
namespace ST
open PySem PySem.SetTable
def Liv (t:SetTable) (j:Nat):Prop:=∃ i:Nat,t.place[i]?=some j
structure TOk (t:SetTable) (hs:List Int):Prop where
 R:Ris t.place
 d:t.dummies=#[]
 k:∃ k,3≤k∧t.mask+1=2 ^ k
 n:t.place.size=hs.length
 f:t.place.size≤t.mask
 le:∀ (i x:Nat),t.place[i]?=some x→x≤t.mask
 reach:∀ (i j:Nat) (h:Int),t.place[i]?=some j→hs[i]?=some h→∃ m,(pth t.mask h m).j=j∧∀ m',m' < m→Liv t (pth t.mask h m').j
theorem least {P:Nat→Prop}:∀ n,P n→∃ m,m≤n∧P m∧∀ k,k < m→¬ P k:=by
 intro n
 induction n using Nat.strongRecOn with
 | _ n ih=>
  intro h
  by_cases hk:∃ k,k < n∧P k
  ·obtain ⟨k,hk,hp⟩:=hk
   obtain ⟨m,h1,h2,h3⟩:=ih k hk hp
   exact ⟨m,by omega,h2,h3⟩
  ·exact ⟨n,Nat.le_refl _,h,fun k hk' hp=> hk ⟨k,hk',hp⟩⟩
theorem oz {t:SetTable} {hs:List Int} (T:TOk t hs) (h:Int):∃ N,N < 10 * turns t.mask∧¬ Liv t (pth t.mask h N).j∧∀ m,m < N→Liv t (pth t.mask h m).j:=by
 obtain ⟨s,hs1,hs2⟩:=rW T.R T.f
 obtain ⟨k,_,hk⟩:=T.k
 obtain ⟨n,hn,e⟩:=cover hk h s hs1
 obtain ⟨m,h1,h2,h3⟩:=least (P:=fun n=> ¬ Liv t (pth t.mask h n).j) n (by show ¬ Liv t (pth t.mask h n).j; rw [e]; rintro ⟨i,hi⟩; exact hs2 i hi)
 exact ⟨m,by omega,h2,fun k hk'=> Classical.byContradiction fun z=> h3 k hk' z⟩
theorem l_ {t:SetTable} {hs:List Int} (T:TOk t hs) (hashAt:Nat→Int) (h:Int) {N:Nat} (h0:¬ Liv t (pth t.mask h N).j) (h1:∀ m,m < N→Liv t (pth t.mask h m).j):∀ (fuel n:Nat),n≤N→N - n < fuel→
  (probe.go t hashAt h fuel (pth t.mask h n)=some (.empty (pth t.mask h N).j none)∧∀ (m i:Nat),n≤m→m < N→t.place[i]?=some (pth t.mask h m).j→hashAt i≠h)∨
  ∃ m i:Nat,n≤m∧m < N∧t.place[i]?=some (pth t.mask h m).j∧hashAt i=h∧probe.go t hashAt h fuel (pth t.mask h n)=some (.candidate (pth t.mask h m).j i (pth t.mask h (m+1)))∧
   ∀ (m' i':Nat),n≤m'→m' < m→t.place[i']?=some (pth t.mask h m').j→hashAt i'≠h
 | 0,n,_,hf=> by omega
 | fuel+1,n,hn,hf=> by
  rw [probe.go]
  rcases n6 T.R T.d (pth t.mask h n).j with ⟨e,hno⟩ | ⟨i,e,hi⟩
  ·have hN:n=N:=by
    rcases Nat.lt_or_eq_of_le hn with z | z
    ·obtain ⟨i,hi⟩:=h1 n z; exact absurd hi (hno i)
    ·exact z
   subst hN
   refine .inl ⟨by simp only [e,i8],fun m i z1 z2=> by omega⟩
  ·have hN:n < N:=by
    rcases Nat.lt_or_eq_of_le hn with z | z
    ·exact z
    ·subst z; exact absurd ⟨i,hi⟩ h0
   simp only [e]
   by_cases hh:hashAt i=h
   ·refine .inr ⟨n,i,Nat.le_refl _,hN,hi,hh,?_,fun m' i' z1 z2=> by omega⟩
    simp only [hh,beq_self_eq_true,if_true,jL]
    rfl
   ·have hb:(hashAt i==h)=false:=by simpa using hh
    simp only [hb,Bool.false_eq_true,if_false,jL]
    have ih:=l_ T hashAt h h0 h1 fuel (n+1) (by omega) (by omega)
    rcases ih with ⟨q1,q2⟩ | ⟨m,i2,q1,q2,q3,q4,q5,q6⟩
    ·refine .inl ⟨q1,fun m i' z1 z2 z3=> ?_⟩
     rcases Nat.lt_or_eq_of_le z1 with z | z
     ·exact q2 m i' z z2 z3
     ·subst z
      rw [T.R.inj z3 hi]; exact hh
    ·refine .inr ⟨m,i2,by omega,q2,q3,q4,q5,fun m' i' z1 z2 z3=> ?_⟩
     rcases Nat.lt_or_eq_of_le z1 with z | z
     ·exact q6 m' i' z z2 z3
     ·subst z
      rw [T.R.inj z3 hi]; exact hh
theorem vp {t:SetTable} {hs:List Int} (T:TOk t hs) {h:Int} {N i:Nat} (h0:¬ Liv t (pth t.mask h N).j) (hi:hs[i]?=some h):∃ (m j:Nat),m < N∧t.place[i]?=some j∧(pth t.mask h m).j=j:=by
 have hlt:i < t.place.size:=by rw [T.n]; exact (List.getElem?_eq_some_iff.mp hi).1
 obtain ⟨m,e,hm⟩:=T.reach i _ h (d0 hlt) hi
 refine ⟨m,_,?_,d0 hlt,e⟩
 rcases Nat.lt_trichotomy m N with z | z | z
 ·exact z
 ·subst z; exact absurd ⟨i,by rw [e]; exact d0 hlt⟩ h0
 ·exact absurd (hm N z) h0
theorem d7 {α:Type} (xs:Array α) (p:Nat) (x:α):(insertAt xs p x).toList=xs.toList.take p++x::xs.toList.drop p:=by
 unfold insertAt
 simp [Array.toList_extract]
 exact List.take_of_length_le (by simp)
theorem ci {α:Type} {xs:Array α} {p:Nat} {x:α} (hp:p≤xs.size) (i:Nat):(insertAt xs p x)[i]?=if i < p then xs[i]? else if i=p then some x else xs[i - 1]?:=by
 rw [← Array.getElem?_toList,d7]
 have hl:(xs.toList.take p).length=p:=by simp; omega
 by_cases h1:i < p
 ·rw [if_pos h1,List.getElem?_append_left (by omega),List.getElem?_take_of_lt h1,Array.getElem?_toList]
 ·rw [if_neg h1,List.getElem?_append_right (by omega),hl]
  by_cases h2:i=p
  ·subst h2; simp
  ·rw [if_neg h2]
   obtain ⟨q,hq⟩:∃ q,i - p=q+1:=⟨i - p - 1,by omega⟩
   rw [hq,List.getElem?_cons_succ,List.getElem?_drop,Array.getElem?_toList]
   congr 1; omega
theorem gh {α:Type} (xs:Array α) (p:Nat) (x:α) (hp:p≤xs.size):(insertAt xs p x).size=xs.size+1:=by
 rw [← Array.length_toList,d7]; simp; omega
def gc {α:Type} (xs:List α) (p:Nat) (x:α):List α:=xs.take p++x::xs.drop p
theorem vC {α:Type} {xs:List α} {p:Nat} {x:α} (hp:p≤xs.length) (i:Nat):(gc xs p x)[i]?=if i < p then xs[i]? else if i=p then some x else xs[i - 1]?:=by
 unfold gc
 have hl:(xs.take p).length=p:=by simp; omega
 by_cases h1:i < p
 ·rw [if_pos h1,List.getElem?_append_left (by omega),List.getElem?_take_of_lt h1]
 ·rw [if_neg h1,List.getElem?_append_right (by omega),hl]
  by_cases h2:i=p
  ·subst h2; simp
  ·rw [if_neg h2]
   obtain ⟨q,hq⟩:∃ q,i - p=q+1:=⟨i - p - 1,by omega⟩
   rw [hq,List.getElem?_cons_succ,List.getElem?_drop]
   congr 1; omega
theorem wX {xs:Array Nat} (R:Ris xs) {j:Nat} (hno:∀ i:Nat,xs[i]?≠some j):Ris (insertAt xs (below xs j) j):=by
 obtain ⟨h1,h2,h3⟩:=e9 R j
 have gt:∀ (i x:Nat),below xs j≤i→xs[i]?=some x→j < x:=fun i x hi hx=> by
  rcases Nat.lt_or_eq_of_le (h2 i x hi hx) with z | z
  ·exact z
  ·subst z; exact absurd hx (hno i)
 intro a b x y hab hx hy
 rw [ci h3] at hx hy
 by_cases a1:a < below xs j
 ·rw [if_pos a1] at hx
  by_cases b1:b < below xs j
  ·rw [if_pos b1] at hy; exact R a b x y hab hx hy
  ·rw [if_neg b1] at hy
   by_cases b2:b=below xs j
   ·rw [if_pos b2] at hy; cases hy; exact h1 a x a1 hx
   ·rw [if_neg b2] at hy; exact R a (b - 1) x y (by omega) hx hy
 ·rw [if_neg a1] at hx
  have b1:¬ b < below xs j:=by omega
  rw [if_neg b1] at hy
  have b2:¬ b=below xs j:=by omega
  rw [if_neg b2] at hy
  by_cases a2:a=below xs j
  ·rw [if_pos a2] at hx; cases hx; exact gt (b - 1) y (by omega) hy
  ·rw [if_neg a2] at hx; exact R (a - 1) (b - 1) x y (by omega) hx hy
theorem qN {xs:Array Nat} {p j:Nat} (hp:p≤xs.size) (s:Nat):(∃ i:Nat,(insertAt xs p j)[i]?=some s)↔s=j∨∃ i:Nat,xs[i]?=some s:=by
 constructor
 ·rintro ⟨i,hi⟩
  rw [ci hp] at hi
  split at hi
  ·exact .inr ⟨i,hi⟩
  ·split at hi
   ·cases hi; exact .inl rfl
   ·exact .inr ⟨i - 1,hi⟩
 ·rintro (rfl | ⟨i,hi⟩)
  ·exact ⟨p,by rw [ci hp,if_neg (Nat.lt_irrefl _),if_pos rfl]⟩
  ·by_cases h:i < p
   ·exact ⟨i,by rw [ci hp,if_pos h]; exact hi⟩
   ·exact ⟨i+1,by rw [ci hp,if_neg (by omega),if_neg (by omega)]; simpa using hi⟩
theorem TOk.put {t:SetTable} {hs:List Int} (T:TOk t hs) {h:Int} {N:Nat} (h0:¬ Liv t (pth t.mask h N).j) (h1:∀ m,m < N→Liv t (pth t.mask h m).j) (hle:(pth t.mask h N).j≤t.mask) (hf:t.place.size+1≤t.mask):
  TOk (t.put (pth t.mask h N).j).1 (gc hs (t.put (pth t.mask h N).j).2 h):=by
 have hno:∀ i:Nat,t.place[i]?≠some (pth t.mask h N).j:=fun i e=> h0 ⟨i,e⟩
 obtain ⟨_,_,hb⟩:=e9 T.R (pth t.mask h N).j
 have hbl:below t.place (pth t.mask h N).j≤hs.length:=by rw [← T.n]; exact hb
 have ed:(if SetTable.has t.dummies (pth t.mask h N).j then eraseAt t.dummies (below t.dummies (pth t.mask h N).j) else t.dummies)=#[]:=by
  rw [T.d]; simp [SetTable.has]
 unfold SetTable.put
 simp only [ed]
 refine ⟨wX T.R hno,rfl,T.k,?_,?_,fun i x e=> ?_,fun i j hh e1 e2=> ?_⟩
 ·show (insertAt _ _ _).size=(gc hs _ h).length
  rw [gh _ _ _ hb,T.n]; unfold gc; simp; omega
 ·show (insertAt _ _ _).size≤t.mask
  rw [gh _ _ _ hb]; exact hf
 ·rcases (qN hb x).mp ⟨i,e⟩ with z | ⟨q,hq⟩
  ·rw [z]; exact hle
  ·exact T.le q x hq
 ·have liv:∀ s,Liv t s→Liv { t with place:=insertAt t.place (below t.place (pth t.mask h N).j) (pth t.mask h N).j,dummies:=#[] } s:=fun s z=> (qN hb s).mpr (.inr z)
  change (insertAt t.place _ _)[i]?=some j at e1
  rw [ci hb] at e1
  rw [vC hbl] at e2
  split at e1
  ·rename_i z
   rw [if_pos z] at e2
   obtain ⟨m,q1,q2⟩:=T.reach i j hh e1 e2
   exact ⟨m,q1,fun m' hm=> liv _ (q2 m' hm)⟩
  ·rename_i z
   rw [if_neg z] at e2
   split at e1
   ·rename_i z2
    rw [if_pos z2] at e2
    cases e1; cases e2
    exact ⟨N,rfl,fun m' hm=> liv _ (h1 m' hm)⟩
   ·rename_i z2
    rw [if_neg z2] at e2
    obtain ⟨m,q1,q2⟩:=T.reach (i - 1) j hh e1 e2
    exact ⟨m,q1,fun m' hm=> liv _ (q2 m' hm)⟩
theorem tO {mask:Nat} (h:Int):∀ n,(pth mask h n).j+(pth mask h n).more≤mask
 | 0=> by
  show bits h % (mask+1)+(runEnd mask (bits h % (mask+1)) - bits h % (mask+1))≤mask
  have:=Nat.mod_lt (bits h) (show 0 < mask+1 by omega)
  unfold runEnd; split <;> omega
 | n+1=> by
  have ih:=tO (mask:=mask) h n
  rw [pth]; unfold adv
  split
  ·simp only; omega
  ·show (leap mask _ _).1+(runEnd mask (leap mask _ _).1 - (leap mask _ _).1)≤mask
   have:(leap mask (pth mask h n).i (pth mask h n).perturb).1 < mask+1:=Nat.mod_lt _ (by omega)
   unfold runEnd; split <;> omega
end ST
namespace ST
open PySem PySem.SetTable
def OL (owner:Array (Option Nat)) (j:Nat):Prop:=∃ k:Nat,owner[j]?=some (some k)
def nr (mask:Nat) (h:Int):Nat→Nat
 | 0=> 0
 | r+1=> nr mask h r+(runEnd mask (aM mask h r).1 - (aM mask h r).1)+1
theorem yo (mask:Nat) (h:Int):∀ r,pth mask h (nr mask h r)={ j:=(aM mask h r).1,more:=runEnd mask (aM mask h r).1 - (aM mask h r).1,i:=(aM mask h r).1,perturb:=(aM mask h r).2,dummy:=none }
 | 0=> rfl
 | r+1=> by
  have e:=yo mask h r
  have step:=iW (mask:=mask) (runEnd mask (aM mask h r).1 - (aM mask h r).1) (pth mask h (nr mask h r)) (fun m=> pth mask h (nr mask h r+m)) rfl (fun m=> rfl) (by rw [e]; exact Nat.le_refl _)
  have step':pth mask h (nr mask h r+(runEnd mask (aM mask h r).1 - (aM mask h r).1))=_:=step
  rw [nr,pth,step',e]
  unfold adv
  rw [if_neg (by simp)]
  rfl
theorem oW (mask:Nat) (h:Int) (r k:Nat) (hk:k≤runEnd mask (aM mask h r).1 - (aM mask h r).1):(pth mask h (nr mask h r+k)).j=(aM mask h r).1+k:=by
 have e:=yo mask h r
 have step:=iW (mask:=mask) k (pth mask h (nr mask h r)) (fun m=> pth mask h (nr mask h r+m)) rfl (fun m=> rfl) (by rw [e]; exact hk)
 have step':pth mask h (nr mask h r+k)=_:=step
 rw [step',e]
theorem rD (mask i:Nat):i≤runEnd mask i:=by unfold runEnd; split <;> omega
theorem xa (mask:Nat) (h:Int):∀ r,(aM mask h r).1≤mask
 | 0=> Nat.le_of_lt_succ (Nat.mod_lt _ (by omega))
 | r+1=> Nat.le_of_lt_succ (Nat.mod_lt _ (by omega))
theorem mT {mask i:Nat} (h:i≤mask):runEnd mask i≤mask:=by unfold runEnd; split <;> omega
theorem qu {mask:Nat} {owner:Array (Option Nat)} (hsz:owner.size=mask+1) (h:Int):∀ (fuel r:Nat),(∃ r',r≤r'∧r' < r+fuel∧owner[(aM mask h r').1]?=some none)→(∀ m,m < nr mask h r→OL owner (pth mask h m).j)→
  ∃ N,layClean.free mask owner fuel (aM mask h r).1 (aM mask h r).2=some (pth mask h N).j∧owner[(pth mask h N).j]?=some none∧∀ m,m < N→OL owner (pth mask h m).j
 | 0,r,⟨r',h1,h2,_⟩,_=> by omega
 | fuel+1,r,hex,hl=> by
  rw [layClean.free]
  have hge:=rD mask (aM mask h r).1
  have hmk:=mT (xa mask h r)
  have hin:∀ k,k < runEnd mask (aM mask h r).1+1 - (aM mask h r).1→(aM mask h r).1+k < owner.size:=fun k hk=> by omega
  cases hf:(List.range (runEnd mask (aM mask h r).1+1 - (aM mask h r).1)).find? fun k=> (owner.getD ((aM mask h r).1+k) (some 0)).isNone with
  | some k=>
   obtain ⟨p1,p2,p3⟩:=List.find?_range_eq_some.mp hf
   have hk:=List.mem_range.mp p2
   have hlt:=hin k hk
   have e1:owner[(aM mask h r).1+k]?=some none:=by
    have:owner.getD ((aM mask h r).1+k) (some 0)=owner[(aM mask h r).1+k]:=by simp [Array.getD,hlt]
    rw [this] at p1
    have:owner[(aM mask h r).1+k]=none:=by simpa using p1
    simp [hlt,this]
   have ej:=oW mask h r k (by omega)
   refine ⟨nr mask h r+k,by simp only [ej],by rw [ej]; exact e1,fun m hm=> ?_⟩
   by_cases hm1:m < nr mask h r
   ·exact hl m hm1
   ·obtain ⟨q,rfl⟩:∃ q,m=nr mask h r+q:=⟨m - nr mask h r,by omega⟩
    have hq:=p3 q (by omega)
    have hlt2:=hin q (by omega)
    rw [oW mask h r q (by omega)]
    have:owner.getD ((aM mask h r).1+q) (some 0)=owner[(aM mask h r).1+q]:=by simp [Array.getD,hlt2]
    rw [this] at hq
    cases hv:owner[(aM mask h r).1+q] with
    | none=> rw [hv] at hq; simp at hq
    | some v=> exact ⟨v,by simp [hlt2,hv]⟩
  | none=>
   have hall:∀ q,q < runEnd mask (aM mask h r).1+1 - (aM mask h r).1→OL owner ((aM mask h r).1+q):=fun q hq=> by
    have:=List.find?_eq_none.mp hf q (List.mem_range.mpr hq)
    have hlt2:=hin q hq
    have e:owner.getD ((aM mask h r).1+q) (some 0)=owner[(aM mask h r).1+q]:=by simp [Array.getD,hlt2]
    rw [e] at this
    cases hv:owner[(aM mask h r).1+q] with
    | none=> rw [hv] at this; simp at this
    | some v=> exact ⟨v,by simp [hlt2,hv]⟩
   have next:=qu hsz h fuel (r+1) (by
    obtain ⟨r',h1,h2,h3⟩:=hex
    refine ⟨r',?_,by omega,h3⟩
    rcases Nat.lt_or_eq_of_le h1 with z | z
    ·exact z
    ·subst z
     obtain ⟨v,hv⟩:=hall 0 (by omega)
     rw [Nat.add_zero,h3] at hv
     cases hv) (fun m hm=> by
    by_cases hm1:m < nr mask h r
    ·exact hl m hm1
    ·obtain ⟨q,rfl⟩:∃ q,m=nr mask h r+q:=⟨m - nr mask h r,by omega⟩
     have hm2:nr mask h r+q < nr mask h r+(runEnd mask (aM mask h r).1 - (aM mask h r).1)+1:=hm
     rw [oW mask h r q (by omega)]
     exact hall q (by omega))
   exact next
structure OI (mask:Nat) (owner:Array (Option Nat)) (hs:List Int):Prop where
 sz:owner.size=mask+1
 lt:∀ (j k:Nat),owner[j]?=some (some k)→k < hs.length
 inj:∀ (i j k:Nat),owner[i]?=some (some k)→owner[j]?=some (some k)→i=j
 all:∀ k:Nat,k < hs.length→∃ j:Nat,owner[j]?=some (some k)
 reach:∀ (j k:Nat) (h:Int),owner[j]?=some (some k)→hs[k]?=some h→∃ m,(pth mask h m).j=j∧∀ m',m' < m→OL owner (pth mask h m').j
theorem OI.free {mask:Nat} {owner:Array (Option Nat)} {hs:List Int} (O:OI mask owner hs) (hn:hs.length≤mask):∃ s,s≤mask∧owner[s]?=some none:=by
 apply Classical.byContradiction
 intro hno
 have hlive:∀ s,s≤mask→OL owner s:=fun s hs'=> by
  have hlt:s < owner.size:=by rw [O.sz]; omega
  cases e:owner[s] with
  | none=> exact absurd ⟨s,hs',by simp [hlt,e]⟩ hno
  | some k=> exact ⟨k,by simp [hlt,e]⟩
 have nd:((List.range (mask+1)).map fun s=> (owner.getD s none).getD 0).Nodup:=by
  rw [List.nodup_iff_pairwise_ne,List.pairwise_map]
  refine List.Pairwise.imp_of_mem ?_ (List.pairwise_lt_range (n:=mask+1))
  intro a b ha hb hab e
  obtain ⟨k1,h1⟩:=hlive a (by have:=List.mem_range.mp ha; omega)
  obtain ⟨k2,h2⟩:=hlive b (by have:=List.mem_range.mp hb; omega)
  have e1:(owner.getD a none).getD 0=k1:=by simp [Array.getD_eq_getD_getElem?,h1]
  have e2:(owner.getD b none).getD 0=k2:=by simp [Array.getD_eq_getD_getElem?,h2]
  rw [e1,e2] at e
  subst e
  have:=O.inj a b k1 h1 h2
  omega
 have sub:((List.range (mask+1)).map fun s=> (owner.getD s none).getD 0) ⊆ List.range hs.length:=by
  intro x hx
  obtain ⟨s,hs1,rfl⟩:=List.mem_map.mp hx
  obtain ⟨k1,h1⟩:=hlive s (by have:=List.mem_range.mp hs1; omega)
  have e1:(owner.getD s none).getD 0=k1:=by simp [Array.getD_eq_getD_getElem?,h1]
  rw [e1]
  exact List.mem_range.mpr (O.lt s k1 h1)
 have:=List.Nodup.length_le_of_subset nd sub
 simp at this
 omega
theorem OI.step {mask k:Nat} (hk:mask+1=2 ^ k) {owner:Array (Option Nat)} {hs:List Int} (O:OI mask owner hs) (hn:hs.length≤mask) (h:Int):
  ∃ j,layClean.free mask owner (turns mask) (bits h % (mask+1)) (bits h)=some j∧OI mask (owner.setIfInBounds j (some hs.length)) (hs++[h]):=by
 obtain ⟨s,hs1,hs2⟩:=O.free hn
 obtain ⟨q,hq,e⟩:=gI (aM mask h 12).1 k s
 have er:(aM mask h (12+q)).1=s:=by rw [i7 hk h q,e]; exact Nat.mod_eq_of_lt (by omega)
 obtain ⟨N,f1,f2,f3⟩:=qu O.sz h (turns mask) 0 ⟨12+q,Nat.zero_le _,by unfold turns; omega,by rw [er]; exact hs2⟩ (fun m hm=> absurd hm (Nat.not_lt_zero _))
 refine ⟨_,f1,?_⟩
 generalize hj:(pth mask h N).j=j at *
 have hjs:j < owner.size:=(Array.getElem?_eq_some_iff.mp f2).1
 have get:∀ i:Nat,(owner.setIfInBounds j (some hs.length))[i]?=if j=i then some (some hs.length) else owner[i]?:=fun i=> by
  rw [Array.getElem?_setIfInBounds]
  split
  ·rename_i z; subst z; simp [hjs]
  ·rfl
 have liv:∀ i,OL owner i→OL (owner.setIfInBounds j (some hs.length)) i:=fun i ⟨v,hv⟩=> by
  refine ⟨v,?_⟩
  rw [get,if_neg (fun z=> by subst z; rw [f2] at hv; cases hv)]
  exact hv
 refine ⟨by simp [O.sz],fun i v e=> ?_,fun a b v e1 e2=> ?_,fun v hv=> ?_,fun i v hh e1 e2=> ?_⟩
 ·rw [get] at e
  split at e
  ·cases e; simp
  ·have:=O.lt i v e; simp; omega
 ·rw [get] at e1 e2
  split at e1 <;> split at e2
  ·omega
  ·cases e1; exact absurd (O.lt b _ e2) (Nat.lt_irrefl _)
  ·cases e2; exact absurd (O.lt a _ e1) (Nat.lt_irrefl _)
  ·exact O.inj a b v e1 e2
 ·simp at hv
  rcases Nat.lt_or_eq_of_le (Nat.le_of_lt_succ hv) with z | z
  ·obtain ⟨i,hi⟩:=O.all v z
   refine ⟨i,?_⟩
   rw [get,if_neg (fun y=> by subst y; rw [f2] at hi; cases hi)]
   exact hi
  ·subst z; exact ⟨j,by rw [get,if_pos rfl]⟩
 ·rw [get] at e1
  split at e1
  ·rename_i z
   cases e1
   rw [List.getElem?_append_right (Nat.le_refl _)] at e2
   simp at e2
   subst e2
   exact ⟨N,by rw [hj]; exact z,fun m hm=> liv _ (f3 m hm)⟩
  ·have hv:=O.lt i v e1
   rw [List.getElem?_append_left hv] at e2
   obtain ⟨m,q1,q2⟩:=O.reach i v hh e1 e2
   exact ⟨m,q1,fun m' hm=> liv _ (q2 m' hm)⟩
theorem qQ {mask k:Nat} (hk:mask+1=2 ^ k):∀ (more done:List Int) (owner:Array (Option Nat)),OI mask owner done→done.length+more.length≤mask+1→∃ owner',more.foldl (fun acc h=> do
  let (owner,k) ← acc
  let j ← layClean.free mask owner (turns mask) (bits h % (mask+1)) (bits h)
  pure (owner.setIfInBounds j (some k),k+1)) (some (owner,done.length))=some (owner',done.length+more.length)∧OI mask owner' (done++more)
 | [],done,owner,O,_=> ⟨owner,by simp,by simpa using O⟩
 | h::more,done,owner,O,hl=> by
  obtain ⟨j,e,O2⟩:=O.step hk (by simp at hl; omega) h
  obtain ⟨ow,e2,O3⟩:=qQ hk more (done++[h]) _ O2 (by simp at hl ⊢; omega)
  refine ⟨ow,?_,by simpa using O3⟩
  rw [List.foldl_cons]
  have:(do
   let (owner,k) ← some (owner,done.length)
   let j ← layClean.free mask owner (turns mask) (bits h % (mask+1)) (bits h)
   pure (owner.setIfInBounds j (some k),k+1):Option (Array (Option Nat)×Nat))=some (owner.setIfInBounds j (some done.length),done.length+1):=by
   simp [e]
  rw [this]
  simp only [List.length_append,List.length_singleton] at e2
  rw [e2]
  simp; omega
theorem mh {mask k:Nat} (hk:mask+1=2 ^ k) {hs:Array Int} (hl:hs.size≤mask+1):∃ owner,layClean mask hs=some owner∧OI mask owner hs.toList:=by
 have O0:OI mask (Array.replicate (mask+1) none) []:=⟨by simp,fun j k e=> by simp [Array.getElem?_replicate] at e,fun i j k e=> by simp [Array.getElem?_replicate] at e,fun k h=> by simp at h,fun j k h e=> by simp [Array.getElem?_replicate] at e⟩
 obtain ⟨ow,e,O⟩:=qQ hk hs.toList [] _ O0 (by simpa using hl)
 refine ⟨ow,?_,by simpa using O⟩
 unfold layClean
 rw [← Array.foldl_toList]
 simp only [List.length_nil] at e
 rw [e]
 rfl
end ST
namespace ST
open PySem PySem.SetTable
theorem mL (n:Nat):∀ (fuel k:Nat),n < 2 ^ (k+fuel)→∃ k',k≤k'∧sizeAbove.go n fuel (2 ^ k)=2 ^ k'∧n < 2 ^ k'∧(2 ^ k'≤2 * n∨k'=k)
 | 0,k,h=> ⟨k,Nat.le_refl _,rfl,by simpa using h,.inr rfl⟩
 | fuel+1,k,h=> by
  rw [sizeAbove.go]
  by_cases hle:2 ^ k≤n
  ·rw [if_pos hle,← Nat.pow_succ]
   obtain ⟨k',h1,h2,h3,h4⟩:=mL n fuel (k+1) (by rw [show k+1+fuel=k+(fuel+1) by omega]; exact h)
   refine ⟨k',by omega,h2,h3,.inl ?_⟩
   rcases h4 with z | z
   ·exact z
   ·subst z; rw [Nat.pow_succ]; omega
  ·rw [if_neg hle]
   exact ⟨k,Nat.le_refl _,rfl,by omega,.inr rfl⟩
theorem above (n:Nat) (h:n < 2 ^ 60):∃ k,3≤k∧sizeAbove n=2 ^ k∧n < 2 ^ k∧2 ^ k≤2 * n+8:=by
 obtain ⟨k,h1,h2,h3,h4⟩:=mL n 64 3 (Nat.lt_of_lt_of_le h (Nat.pow_le_pow_right (by decide) (by decide)))
 refine ⟨k,h1,h2,h3,?_⟩
 rcases h4 with z | z
 ·omega
 ·subst z; omega
def dj (mask:Nat) (owner:Array (Option Nat)):List (Nat×Nat):=(List.range (mask+1)).filterMap fun j=> (owner.getD j none).map (j,·)
theorem nZ (owner:Array (Option Nat)):∀ l:List Nat,(l.filterMap fun j=> (owner.getD j none).map (j,·)).map (·.1)=l.filter fun j=> (owner.getD j none).isSome
 | []=> rfl
 | a::l=> by
  have ih:=nZ owner l
  rw [List.filterMap_cons,List.filter_cons]
  cases owner.getD a none with
  | none=> simpa using ih
  | some v=> simpa using ih
theorem dM {mask:Nat} {owner:Array (Option Nat)} (hsz:owner.size=mask+1) (j k:Nat):(j,k)∈dj mask owner↔owner[j]?=some (some k):=by
 unfold dj
 rw [List.mem_filterMap]
 constructor
 ·rintro ⟨a,ha,e⟩
  have hlt:a < owner.size:=by rw [hsz]; exact List.mem_range.mp ha
  cases hv:owner.getD a none with
  | none=> rw [hv] at e; cases e
  | some v=>
   rw [hv] at e
   cases e
   have:owner.getD j none=owner[j]:=by simp [Array.getD,hlt]
   rw [this] at hv
   simp [hlt,hv]
 ·intro e
  have hlt:=(Array.getElem?_eq_some_iff.mp e).1
  refine ⟨j,List.mem_range.mpr (by omega),?_⟩
  rw [Array.getD_eq_getD_getElem?,e]; rfl
theorem rJ (mask:Nat) (owner:Array (Option Nat)):(dj mask owner).Pairwise fun a b=> a.1 < b.1:=by
 have:=(List.pairwise_lt_range (n:=mask+1)).filter fun j=> (owner.getD j none).isSome
 rw [← nZ owner (List.range (mask+1)),List.pairwise_map] at this
 exact this
theorem zi {l:List Nat} (h:l.Pairwise (· < ·)):Ris l.toArray:=by
 intro i j x y hij hx hy
 rw [List.getElem?_toArray] at hx hy
 obtain ⟨h1,e1⟩:=List.getElem?_eq_some_iff.mp hx
 obtain ⟨h2,e2⟩:=List.getElem?_eq_some_iff.mp hy
 have:=List.pairwise_iff_getElem.mp h i j h1 h2 hij
 rw [e1,e2] at this
 exact this
theorem wA {mask k:Nat} (h3:3≤k) (hk:mask+1=2 ^ k) {hs:Array Int} (hl:hs.size≤mask) (finger moves:Nat) (led plain:Bool):
  ∃ t order,laid mask finger moves led plain hs=some (t,order)∧TOk t (order.toList.map fun i=> hs.getD i 0)∧order.toList.Perm (List.range hs.size)∧t.mask=mask∧t.led=led∧t.plain=plain∧t.moves=moves:=by
 obtain ⟨owner,e,O⟩:=mh hk (hs:=hs) (by omega)
 have pr:=rJ mask owner
 have nd:((dj mask owner).map (·.2)).Nodup:=by
  rw [List.nodup_iff_pairwise_ne,List.pairwise_map]
  refine List.Pairwise.imp_of_mem ?_ pr
  intro a b ha hb hab ee
  have h1:=(dM O.sz a.1 a.2).mp ha
  have h2:=(dM O.sz b.1 b.2).mp hb
  rw [ee] at h1
  have:=O.inj a.1 b.1 b.2 h1 h2
  omega
 have perm:((dj mask owner).map (·.2)).Perm (List.range hs.size):=by
  refine (List.perm_ext_iff_of_nodup nd List.nodup_range).mpr fun x=> ?_
  rw [List.mem_map,List.mem_range]
  constructor
  ·rintro ⟨⟨j,v⟩,hm,rfl⟩
   have:=O.lt j v ((dM O.sz j v).mp hm)
   simpa using this
  ·intro hx
   obtain ⟨j,hj⟩:=O.all x (by simpa using hx)
   exact ⟨(j,x),(dM O.sz j x).mpr hj,rfl⟩
 have len:(dj mask owner).length=hs.size:=by have:=perm.length_eq; simpa using this
 refine ⟨_,_,by unfold laid; rw [e]; rfl,⟨?_,rfl,⟨k,h3,hk⟩,?_,?_,fun i x ee=> ?_,fun i j h e1 e2=> ?_⟩,?_,rfl,rfl,rfl,rfl⟩
 ·show Ris ((dj mask owner).map (·.1)).toArray
  exact zi (by rw [List.pairwise_map]; exact pr)
 ·show ((dj mask owner).map (·.1)).toArray.size=_
  simp [dj]
 ·show ((dj mask owner).map (·.1)).toArray.size≤mask
  simp [len,hl]
 ·change ((dj mask owner).map (·.1)).toArray[i]?=some x at ee
  rw [List.getElem?_toArray,List.getElem?_map] at ee
  cases q:(dj mask owner)[i]? with
  | none=> rw [q] at ee; cases ee
  | some p=>
   rw [q] at ee
   cases ee
   have:=(dM O.sz p.1 p.2).mp (List.mem_of_getElem? q)
   have:=(Array.getElem?_eq_some_iff.mp this).1
   show p.1≤mask
   have hz:=O.sz
   omega
 ·change ((dj mask owner).map (·.1)).toArray[i]?=some j at e1
  change (((dj mask owner).map (·.2)).toArray.toList.map fun i=> hs.getD i 0)[i]?=some h at e2
  rw [List.getElem?_toArray,List.getElem?_map] at e1
  rw [List.getElem?_map,List.getElem?_map] at e2
  cases q:(dj mask owner)[i]? with
  | none=> rw [q] at e1; cases e1
  | some p=>
   rw [q] at e1 e2
   cases e1
   have hp:=(dM O.sz p.1 p.2).mp (List.mem_of_getElem? q)
   have hlt:=O.lt _ _ hp
   have e3:hs.toList[p.2]?=some h:=by
    have e4:hs.getD p.2 0=h:=by simpa using e2
    have:p.2 < hs.size:=by simpa using hlt
    rw [← e4]
    simp [Array.getD,this]
   obtain ⟨m,q1,q2⟩:=O.reach _ _ h hp e3
   refine ⟨m,q1,fun m' hm=> ?_⟩
   obtain ⟨v,hv⟩:=q2 m' hm
   obtain ⟨n,hn⟩:=List.mem_iff_getElem?.mp ((dM O.sz _ v).mpr hv)
   refine ⟨n,?_⟩
   show ((dj mask owner).map (·.1)).toArray[n]?=_
   rw [List.getElem?_toArray,List.getElem?_map,hn]; rfl
 ·show ((dj mask owner).map (·.2)).toArray.toList.Perm _
  simpa using perm
end ST
namespace ST
open PySem PySem.SetTable
section
variable {prog:Program} {w:World} {A:Around} {E:Value→Shared→Prop} {s:Shared}
abbrev TK (prog:Program) (w:World) (h:Heap) (k:List Int) (b:Addr):Prop:=IsTupleKey (intKind prog w) h k b
abbrev hsh (prog:Program) (w:World) (k:List Int):Int:=tupleKeyHash (intKind prog w) k
theorem TK.ints {h:Heap} {k:List Int} {vs:List Value} (x:ItemsAre (intKind prog w) k vs):∀ v∈vs,∃ n t,v=.int n t:=by
 induction x with
 | nil=> intro v hv; simp at hv
 | cons h1 _ ih=>
  intro v hv
  rcases List.mem_cons.mp hv with rfl | hv
  ·obtain ⟨t,rfl⟩:=Value.isInt_shape h1; exact ⟨_,t,rfl⟩
  ·exact ih v hv
theorem kN {k:List Int} {a:Addr} {Q:Bool→Shared→Prop} (hk:TK prog w s.heap k a) (h:Q false s):wpAny (model prog w) A (ofAClassStatement 8 (.ref a)) Q E s:=by
 have hT:=hk.typeIs
 obtain ⟨o,items,n,ho,_,hd,hi⟩:=hk
 unfold ofAClassStatement
 refine wpAny_bind (wpAny_typeOf hT ?_)
 dsimp only
 rw [if_pos (by decide)]
 refine wpAny_bind (wpAny_pure ?_)
 simp only [Bool.not_true,Bool.false_eq_true,if_false]
 refine wpAny_bind (wpAny_seqItems ho hd ?_)
 dsimp only
 refine wpAny_bind ?_
 rw [← Array.forIn_toList]
 refine wpAny_forIn_list _ (fun rest r s'=> r.1=none∧s'=s∧∀ v∈rest,∃ n t,v=Value.int n t) _ ?_ ?_ _ _ ⟨rfl,rfl,TK.ints (h:=s.heap) hi⟩
 ·rintro v rest r s' ⟨hr,rfl,hall⟩
  obtain ⟨n,t,rfl⟩:=hall v List.mem_cons_self
  have e:ofAClassStatement 7 (Value.int n t)=pure false:=by unfold ofAClassStatement; rfl
  rw [e]
  refine wpAny_bind (wpAny_pure ?_)
  simp only [Bool.false_eq_true,if_false]
  exact wpAny_pure ⟨rfl,rfl,fun u hu'=> hall u (List.mem_cons_of_mem _ hu')⟩
 ·rintro ⟨r1,r2⟩ s' ⟨hr,rfl,_⟩
  simp only at hr
  subst hr
  exact wpAny_pure h
theorem AC {k:List Int} {a:Addr} {Q:Bool→Shared→Prop} (hk:TK prog w s.heap k a) (h:Q true s):wpAny (model prog w) A (hashByValue 8 (.ref a)) Q E s:=by
 have hT:=hk.typeIs
 obtain ⟨o,items,n,ho,_,hd,hi⟩:=hk
 unfold hashByValue
 refine wpAny_bind (wpAny_specialOf hT F.slot_tuple_hash.lookup ?_)
 show wpAny _ _ (seqItems? (.ref a) >>=_) _ _ s
 refine wpAny_bind (wpAny_seqItems ho hd ?_)
 refine wpAny_bind ?_
 show wpAny _ _ (forIn items _ _) _ _ s
 rw [← Array.forIn_toList]
 refine wpAny_forIn_list _ (fun rest r s'=> r.1=none∧s'=s∧∀ v∈rest,∃ n t,v=Value.int n t) _ ?_ ?_ _ _ ⟨rfl,rfl,TK.ints (h:=s.heap) hi⟩
 ·rintro v rest r s' ⟨hr,rfl,hall⟩
  obtain ⟨n,t,rfl⟩:=hall v List.mem_cons_self
  have e:hashByValue 7 (Value.int n t)=pure true:=by unfold hashByValue; rfl
  rw [e]
  refine wpAny_bind (wpAny_pure ?_)
  simp only [Bool.not_true,Bool.false_eq_true,if_false]
  exact wpAny_pure ⟨rfl,rfl,fun u hu'=> hall u (List.mem_cons_of_mem _ hu')⟩
 ·rintro ⟨r1,r2⟩ s' ⟨hr,rfl,_⟩
  simp only at hr
  subst hr
  exact wpAny_pure h
theorem oF {k:List Int} {a:Addr} {l:List Value} {Q:Bool→Shared→Prop} (hk:TK prog w s.heap k a) (hl:∀ v∈l,∃ k' b,v=.ref b∧TK prog w s.heap k' b) (h:Q false s):
  wpAny (model prog w) A (searchCouldBeSeen (.ref a) l) Q E s:=by
 unfold searchCouldBeSeen
 refine wpAny_bind ?_
 refine wpAny_forIn_list _ (fun rest r s'=> r.1=none∧s'=s∧∀ v∈rest,∃ k' b,v=.ref b∧TK prog w s.heap k' b) _ ?_ ?_ _ _ ⟨rfl,rfl,hl⟩
 ·rintro v rest r s' ⟨hr,rfl,hall⟩
  obtain ⟨k',b,rfl,hb⟩:=hall v List.mem_cons_self
  dsimp only
  split
  ·exact wpAny_pure ⟨rfl,rfl,fun u hu'=> hall u (List.mem_cons_of_mem _ hu')⟩
  ·refine wpAny_bind (wpAny_eqIsQuiet_tuple hk ?_)
   simp only [Bool.not_true,Bool.false_eq_true,if_false]
   refine wpAny_bind (wpAny_eqIsQuiet_tuple hb ?_)
   simp only [Bool.not_true,Bool.false_eq_true,if_false]
   refine wpAny_bind (kN hk ?_)
   simp only [Bool.false_eq_true,if_false]
   refine wpAny_bind (kN hb ?_)
   simp only [Bool.false_eq_true,if_false]
   exact wpAny_pure ⟨rfl,rfl,fun u hu'=> hall u (List.mem_cons_of_mem _ hu')⟩
 ·rintro ⟨r1,r2⟩ s' ⟨hr,rfl,_⟩
  simp only at hr
  subst hr
  exact wpAny_pure h
def fm (prog:Program) (w:World) (kb:List (List Int×Addr)):List (Int×Value):=kb.map fun p=> (hsh prog w p.1,.ref p.2)
theorem qS {kb:List (List Int×Addr)} {i:Nat}:(fm prog w kb)[i]?=(kb[i]?).map fun p=> (hsh prog w p.1,.ref p.2):=by unfold fm; rw [List.getElem?_map]
theorem xt (kb:List (List Int×Addr)):(fm prog w kb).map (·.1)=kb.map fun p=> hsh prog w p.1:=by unfold fm; rw [List.map_map]; rfl
theorem TOk.fits {t:SetTable} {hs:List Int} (T:TOk t hs) {n:Nat} (hn:hs.length=n):t.fits n=true:=by
 have h1:=T.n
 have h2:=T.f
 have h3:t.fill=t.place.size:=by unfold fill; rw [T.d]; rfl
 unfold SetTable.fits
 rw [h3]
 simp [h1,hn]
 omega
theorem TOk.gave {t:SetTable} {hs:List Int} (T:TOk t hs):t.gaveWay=false:=by
 obtain ⟨k,h3,hk⟩:=T.k
 unfold SetTable.gaveWay
 obtain ⟨j,rfl⟩:∃ j,k=j+1:=⟨k - 1,by omega⟩
 rw [Nat.pow_succ] at hk
 have:t.mask % 2=1:=by omega
 simp [this]
theorem lY {S:Addr} {o:Obj} {es:Array (Int×Value)} {ep:Nat} {t:SetTable} {kb:List (List Int×Addr)} {k:List Int} {x:Addr} (hu:A.units < cLine)
  (ho:s.heap.get? S=some o) (hd:o.data=.set es ep t) (he:es.toList=fm prog w kb) (T:TOk t (kb.map fun p=> hsh prog w p.1)) (hkb:∀ p∈kb,TK prog w s.heap p.1 p.2) (hx:TK prog w s.heap k x)
  {N:Nat} (hN:N < 10 * turns t.mask) (h0:¬ Liv t (pth t.mask (hsh prog w k) N).j) (h1:∀ m,m < N→Liv t (pth t.mask (hsh prog w k) m).j) {Q:SetFound→Shared→Prop}
  (qf:(∀ p∈kb,p.1≠k)→Q (.free (pth t.mask (hsh prog w k) N).j false) s) (qt:(∃ p∈kb,p.1=k)→Q (.there none) s):
  ∀ (fuel n:Nat) (stand:Option Probe),n≤N→N - n < fuel→stand.getD (t.probeStart (hsh prog w k))=pth t.mask (hsh prog w k) n→
   (∀ (m i:Nat) (p:List Int×Addr),m < n→t.place[i]?=some (pth t.mask (hsh prog w k) m).j→kb[i]?=some p→p.1≠k)→
   wpAny (model prog w) A (setSearchFrom S (.ref x) (hsh prog w k) true fuel stand) Q E s:=by
 have hsz:es.size=kb.length:=by rw [← Array.length_toList,he]; simp [fm]
 have hfit:t.fits es.size=true:=T.fits (by rw [List.length_map,hsz])
 have eat:∀ i:Nat,es[i]?=(kb[i]?).map fun (p:List Int×Addr)=> (hsh prog w p.1,Value.ref p.2):=fun i=> by rw [← Array.getElem?_toList,he,qS]
 intro fuel
 induction fuel with
 | zero=> intro n stand _ h; omega
 | succ fuel ih=>
  intro n stand hn hf hst hpre
  unfold setSearchFrom
  refine wpAny_bind (wpAny_setState_of ho hd hfit ?_)
  dsimp only
  rw [T.gave]
  simp only [Bool.false_eq_true,if_false]
  rw [hst]
  have hash:∀ (i:Nat) (p:List Int×Addr),kb[i]?=some p→((es[i]?.map (fun (e:Int×Value)=> e.1)).getD 0:Int)=hsh prog w p.1:=fun i p hp=> by rw [eat,hp]; rfl
  have pg:=l_ T (fun (i:Nat)=> (es[i]?.map (fun (e:Int×Value)=> e.1)).getD 0) (hsh prog w k) h0 h1 (10 * turns t.mask) n hn (by omega)
  split
  ·rename_i met hmet
   rcases pg with ⟨e,hne⟩ | ⟨m,i,hnm,hmN,hpl,hhi,e,hbef⟩
   ·have q:some met=some (.empty (pth t.mask (hsh prog w k) N).j none):=hmet.symm.trans e
    cases q
    dsimp only
    refine wpAny_pure (qf fun p hp hpk=> ?_)
    obtain ⟨i,hi⟩:=List.mem_iff_getElem?.mp hp
    obtain ⟨m,j,hm,hpl,hj⟩:=vp T (h:=hsh prog w k) h0 (i:=i) (by rw [List.getElem?_map,hi,← hpk]; rfl)
    rcases Nat.lt_or_ge m n with hmn | hmn
    ·exact hpre m i p hmn (by rw [hj]; exact hpl) hi hpk
    ·exact hne m i hmn hm (by rw [hj]; exact hpl) (by rw [hash i p hi,hpk])
   ·have q:some met=some (.candidate (pth t.mask (hsh prog w k) m).j i (pth t.mask (hsh prog w k) (m+1))):=hmet.symm.trans e
    cases q
    dsimp only
    have hik:i < kb.length:=by rw [← hsz,← show t.place.size=es.size by rw [T.n,List.length_map,hsz]]; exact pL hpl
    obtain ⟨p,hp⟩:∃ p,kb[i]?=some p:=⟨_,List.getElem?_eq_getElem hik⟩
    have hpm:p∈kb:=List.mem_of_getElem? hp
    have hei:es[i]?=some (hsh prog w p.1,Value.ref p.2):=by rw [eat,hp]; rfl
    have rest:wpAny (model prog w) A (do
      let equal ← holding [Value.ref p.2] (eqBool (Value.ref p.2) (.ref x))
      let (es',_,t') ← setState S
      if true && equal then return .there none
      let some same:=t'.sameMemory t.moves t.mask | unsupported "set.changed-during-lookup:is-the-new-block-at-the-old-address"
      let still ← match (if same then t'.slot (pth t.mask (hsh prog w k) m).j else .empty) with
       | .live i'=> match es'[i']? with
        | some (_,y')=> do pure (if ← isSame y' (Value.ref p.2) then some i' else none)
        | none=> pure none
       | _=> pure none
      match still with
      | none=> rule "set.search.anew"; setSearchFrom S (.ref x) (hsh prog w k) true fuel none
      | some i'=> if equal then return .there (some i') else setSearchFrom S (.ref x) (hsh prog w k) true fuel (some (pth t.mask (hsh prog w k) (m+1)))) Q E s:=by
     refine wpAny_bind (wpAny_holding (wpAny_eqBool_tuple hu (hkb p hpm) hx ?_))
     refine wpAny_bind (wpAny_setState_of ho hd hfit ?_)
     dsimp only
     by_cases hpk:p.1=k
     ·rw [decide_eq_true hpk]
      simp only [Bool.and_self,if_true]
      exact wpAny_pure (qt ⟨p,hpm,hpk⟩)
     ·rw [decide_eq_false hpk]
      simp only [Bool.and_false,Bool.false_eq_true,if_false]
      have hsm:t.sameMemory t.moves t.mask=some true:=by unfold SetTable.sameMemory; simp
      rw [hsm]
      dsimp only
      rw [if_pos rfl,kI T.R hpl]
      dsimp only
      rw [hei]
      dsimp only
      refine wpAny_bind (wpAny_isSame_ref_self ?_)
      refine wpAny_bind (wpAny_pure ?_)
      simp only [if_true]
      refine ih (m+1) (some (pth t.mask (hsh prog w k) (m+1))) (by omega) (by omega) rfl fun m' i' p' hm' hpl' hp'=> ?_
      rcases Nat.lt_or_ge m' n with z | z
      ·exact hpre m' i' p' z hpl' hp'
      ·rcases Nat.lt_or_eq_of_le (Nat.le_of_lt_succ hm') with y | y
       ·have:=hbef m' i' z y hpl'
        intro e'
        exact this (by rw [hash i' p' hp',e'])
       ·subst y
        have ei:=T.R.inj hpl hpl'
        subst ei
        rw [hp] at hp'
        cases hp'
        exact hpk
    by_cases hled:t.led=true
    ·rw [hled]
     simp only [Bool.not_true,Bool.false_eq_true,if_false]
     rw [hei]
     exact rest
    ·rw [show t.led=false by simpa using hled]
     simp only [Bool.not_false,if_true]
     refine wpAny_bind (oF hx (fun v hv=> ?_) ?_)
     ·obtain ⟨e',he',rfl⟩:=List.mem_map.mp hv
      have hm':e'∈es.toList:=by
       have:=Array.mem_toList_iff.mp he'
       exact Array.mem_toList_iff.mpr (Array.mem_filter.mp this).1
      rw [he] at hm'
      obtain ⟨p',hp',rfl⟩:=List.mem_map.mp hm'
      exact ⟨p'.1,p'.2,rfl,hkb p' hp'⟩
     ·simp only [Bool.false_eq_true,if_false]
      rw [hei]
      exact rest
  ·rename_i hno
   rcases pg with ⟨e,hne⟩ | ⟨m,i,hnm,hmN,hpl,hhi,e,hbef⟩
   ·exact absurd e (hno _)
   ·exact absurd e (hno _)
end
end ST
namespace ST
open PySem PySem.SetTable
section
variable {prog:Program} {w:World} {A:Around} {E:Value→Shared→Prop} {s:Shared}
structure SP (prog:Program) (w:World) (h:Heap) (S:Addr) (kb:List (List Int×Addr)):Prop where
 ex:∃ o es ep t,h.get? S=some o∧o.ExactSet∧o.data=.set es ep t∧es.toList=fm prog w kb∧TOk t (kb.map fun p=> hsh prog w p.1)∧t.led=(!w.params.followText "set-order")∧t.plain=true∧t.tooFull=false∧t.mask < 8 * kb.length+8
 keys:∀ p∈kb,TK prog w h p.1 p.2
 nd:(kb.map (·.1)).Nodup
theorem TK.keep {h h':Heap} {k:List Int} {b S:Addr} {o:Obj} {es ep t} (x:TK prog w h k b) (ho:h.get? S=some o) (hd:o.data=.set es ep t) (hs:Heap.SameBut S h h'):TK prog w h' k b:=by
 obtain ⟨o',items,n,ho',hc,hd',hi⟩:=x
 have hne:b≠S:=by
  rintro rfl
  obtain rfl:o'=o:=Option.some.inj (ho'.symm.trans ho)
  rw [hd] at hd'; exact nomatch hd'
 exact ⟨o',items,n,(hs.2 b hne).trans ho',hc,hd',hi⟩
theorem o3 (x:Addr) (es:Array (Int×Value)):byScan (.ref x) es=false:=by simp [byScan,Value.scannable]
theorem nG {α β:Type} (f:α→β) (xs:List α) (p:Nat) (x:α):(gc xs p x).map f=gc (xs.map f) p (f x):=by
 unfold gc; rw [List.map_append,List.map_cons,List.map_take,List.map_drop]
theorem eG {α:Type} (xs:List α) (p:Nat) (x:α):(gc xs p x).Perm (xs++[x]):=by
 unfold gc
 refine List.perm_middle.trans ?_
 rw [List.take_append_drop]
 exact (List.perm_append_singleton x xs).symm
theorem m_ {α β:Type} {kb:List α} (f:α→β) (d:β):∀ (o:List Nat),(∀ i∈o,i < kb.length)→o.map (fun i=> ((kb.map f).toArray).getD i d)=(o.filterMap fun i=> kb[i]?).map f
 | [],_=> rfl
 | i::o,h=> by
  have hi:=h i List.mem_cons_self
  rw [List.map_cons,List.filterMap_cons,List.getElem?_eq_getElem hi,m_ f d o fun j hj=> h j (List.mem_cons_of_mem _ hj)]
  simp [Array.getD,hi]
theorem sq {α:Type} {kb:List α} {o:List Nat} (h:o.Perm (List.range kb.length)):(o.filterMap fun i=> kb[i]?).Perm kb:=by
 refine (h.filterMap _).trans ?_
 suffices (List.range kb.length).filterMap (fun i=> kb[i]?)=kb by rw [this]
 have:∀ (l pre:List α),(List.range' pre.length l.length).filterMap (fun i=> (pre++l)[i]?)=l:=by
  intro l
  induction l with
  | nil=> intro pre; rfl
  | cons x l ih=>
   intro pre
   rw [List.length_cons,List.range'_succ,List.filterMap_cons]
   have e:(pre++x::l)[pre.length]?=some x:=by rw [List.getElem?_append_right (Nat.le_refl _)]; simp
   rw [e]
   have:=ih (pre++[x])
   rw [List.append_assoc,List.length_append] at this
   simpa using this
 have q:=this kb []
 simpa [List.range_eq_range'] using q
theorem w6 {t:SetTable} {hs:List Int} (T:TOk t hs) (h:t.tooFull=false):t.place.size+1≤t.mask:=by
 obtain ⟨k,h3,hk⟩:=T.k
 have hf:t.fill=t.place.size:=by unfold fill; rw [T.d]; rfl
 have h8:2 ^ 3≤2 ^ k:=Nat.pow_le_pow_right (by decide) h3
 unfold tooFull at h
 rw [hf] at h
 simp at h
 omega
set_option maxHeartbeats 1000000 in
theorem Ab {S:Addr} {o:Obj} {es:Array (Int×Value)} {ep:Nat} {t:SetTable} {kb:List (List Int×Addr)} {Q:Unit→Shared→Prop} (ho:s.heap.get? S=some o) (hex:o.ExactSet) (hd:o.data=.set es ep t) (he:es.toList=fm prog w kb)
  (T:TOk t (kb.map fun p=> hsh prog w p.1)) (hl:t.led=(!w.params.followText "set-order")) (hp:t.plain=true) (hkb:∀ p∈kb,TK prog w s.heap p.1 p.2) (hnd:(kb.map (·.1)).Nodup) (h1:0 < kb.length) (hn:kb.length≤1000)
  (h:∀ h' kb',Heap.SameBut S s.heap h'→SP prog w h' S kb'→kb'.Perm kb→Q () { s with heap:=h' }):wpAny (model prog w) A (setRelay S (grown kb.length)) Q E s:=by
 have hsz:es.size=kb.length:=by rw [← Array.length_toList,he]; simp [fm]
 have hfit:t.fits es.size=true:=T.fits (by rw [List.length_map,hsz])
 have eat:∀ i:Nat,es[i]?=(kb[i]?).map fun (p:List Int×Addr)=> (hsh prog w p.1,Value.ref p.2):=fun i=> by rw [← Array.getElem?_toList,he,qS]
 have hg:grown kb.length=kb.length * 4:=by unfold grown; rw [if_neg (by omega)]
 rw [hg]
 obtain ⟨k,k3,ek,lk,uk⟩:=above (kb.length * 4) (by omega)
 have hmask:(sizeAbove (kb.length * 4) - 1)+1=2 ^ k:=by omega
 obtain ⟨t',order,e,T',hord,em,el,ep',_⟩:=wA k3 hmask (hs:=es.map (·.1)) (by rw [Array.size_map,hsz]; omega) t.finger (t.movedTo (sizeAbove (kb.length * 4) - 1)) t.led t.plain
 have hrel:t.relaid (es.map (·.1)) (kb.length * 4)=some (t',order):=e
 have hord':order.toList.Perm (List.range kb.length):=by rw [Array.size_map,hsz] at hord; exact hord
 have hlt:∀ i∈order.toList,i < kb.length:=fun i hi=> List.mem_range.mp (hord'.mem_iff.mp hi)
 have hpk:=sq hord'
 have hes:(order.filterMap (fun i=> es[i]?)).toList=fm prog w (order.toList.filterMap fun i=> kb[i]?):=by
  rw [Array.toList_filterMap]
  unfold fm
  rw [List.map_filterMap]
  congr 1
  funext i
  rw [eat]
 have hes2:(order.filterMap (fun i=> es[i]?)).size=es.size:=by
  rw [← Array.length_toList,hes,hsz]
  unfold fm
  rw [List.length_map,hpk.length_eq]
 unfold setRelay
 refine wpAny_bind (wpAny_setState_of ho hd hfit ?_)
 dsimp only
 rw [if_neg (by rw [ek,sizeLine_eq]; omega),hrel]
 have goal:wpAny (model prog w) A (do
   if (order.filterMap (fun i=> es[i]?)).size !=es.size then unsupported "internal:set-table-lost-an-element"
   pure (order.filterMap (fun i=> es[i]?),t'):Sem (Array (Int×Value)×SetTable)) (fun r s'=> wpAny (model prog w) A (storeSet S r.1 r.2) Q E s') E s:=by
  rw [hes2]
  simp only [bne_self_eq_false,Bool.false_eq_true,if_false]
  refine wpAny_pure ?_
  refine wpAny_storeSet_of ho hd ?_ (by rw [hes2,hsz,sizeLine_eq]; omega)
  have hg':(s.heap.update S (Obj.putSet (order.filterMap (fun i=> es[i]?)) t')).get? S=some { o with data:=.set (order.filterMap (fun i=> es[i]?)) (ep+1) t' }:=by
   have:=Heap.get?_update_self (Obj.putSet (order.filterMap (fun i=> es[i]?)) t') ho (by rw [putSet_of _ t' hd]; rfl)
   rw [putSet_of _ t' hd] at this; exact this
  have hsb:=Heap.SameBut.update s.heap S (Obj.putSet (order.filterMap (fun i=> es[i]?)) t')
  refine h _ (order.toList.filterMap fun i=> kb[i]?) hsb ⟨⟨_,_,_,t',hg',hex,rfl,hes,?_,by rw [el]; exact hl,by rw [ep']; exact hp,?_,?_⟩,fun p hp'=> ?_,?_⟩ hpk
  ·have:=m_ (kb:=kb) (fun p=> hsh prog w p.1) 0 order.toList hlt
   rw [← this]
   have e2:(es.map (·.1))=((kb.map fun p=> hsh prog w p.1)).toArray:=by
    apply Array.toList_inj.mp
    rw [Array.toList_map,he,xt]
   rw [e2] at T'
   exact T'
  ·have hf:t'.fill=t'.place.size:=by unfold fill; rw [T'.d]; rfl
   have hn':=T'.n
   rw [List.length_map,hord'.length_eq,List.length_range] at hn'
   unfold tooFull
   rw [hf,hn',em]
   simp
   omega
  ·rw [em,hpk.length_eq]; omega
  ·exact (hkb p (hpk.mem_iff.mp hp')).keep ho hd hsb
  ·exact ((hpk.map (·.1)).nodup_iff).mpr hnd
 exact wpAny_bind goal
end
end ST
namespace ST
open PySem PySem.SetTable
section
variable {prog:Program} {w:World} {A:Around} {E:Value→Shared→Prop} {s:Shared}
set_option maxHeartbeats 1000000 in
theorem oo {S x:Addr} {kb:List (List Int×Addr)} {k:List Int} {Q:Bool→Shared→Prop} (hu:A.units < cLine) (P:SP prog w s.heap S kb) (hx:TK prog w s.heap k x) (hn:kb.length < 1000)
  (h:∀ b h' kb',Heap.SameBut S s.heap h'→SP prog w h' S kb'→(if k∈kb.map (·.1) then kb'=kb else kb'.Perm (kb++[(k,x)]))→Q b { s with heap:=h' }):
  wpAny (model prog w) A (setAddHashed S (.ref x) (hsh prog w k)) Q E s:=by
 obtain ⟨⟨o,es,ep,t,ho,hex,hd,he,T,hl,hp,hfull,hmask⟩,hkb,hnd⟩:=P
 have P0:SP prog w s.heap S kb:=⟨⟨o,es,ep,t,ho,hex,hd,he,T,hl,hp,hfull,hmask⟩,hkb,hnd⟩
 have hsz:es.size=kb.length:=by rw [← Array.length_toList,he]; simp [fm]
 have hfit:t.fits es.size=true:=T.fits (by rw [List.length_map,hsz])
 obtain ⟨N,hN,h0,h1⟩:=oz T (hsh prog w k)
 have hN':N < 100000:=by unfold turns at hN; omega
 unfold setAddHashed setAddHashedIn
 refine wpAny_holding (wpAny_bind (wpAny_setState_of ho hd hfit ?_))
 dsimp only
 rw [o3]
 simp only [Bool.false_eq_true,if_false]
 unfold setSearch
 refine wpAny_bind (lY hu ho hd he T hkb hx hN h0 h1 (fun hno=> ?_) (fun hyes=> ?_) 100000 0 none (Nat.zero_le _) (by omega) rfl fun m i p hm=> by omega)
 ·dsimp only
  have hk:k ∉ kb.map (·.1):=fun z=> by obtain ⟨p,hp',e⟩:=List.mem_map.mp z; exact hno p hp' e
  refine wpAny_bind (wpAny_setState_of ho hd hfit ?_)
  dsimp only
  generalize hj:(pth t.mask (hsh prog w k) N).j=j at *
  have T1:=T.put (h:=hsh prog w k) (N:=N) (by rw [hj]; exact h0) h1 (by have:=tO (mask:=t.mask) (hsh prog w k) N; omega) (w6 T hfull)
  rw [hj] at T1
  have epl:(t.put j).1.plain=true:=hp
  have eled:(t.put j).1.led=(!w.params.followText "set-order"):=hl
  have emask:(t.put j).1.mask=t.mask:=rfl
  generalize (t.put j).1=t1 at *
  generalize (t.put j).2=q at *
  have hlen1:(gc kb q (k,x)).length=kb.length+1:=by rw [(eG kb q (k,x)).length_eq]; simp
  have he1:(insertAt es q (hsh prog w k,Value.ref x)).toList=fm prog w (gc kb q (k,x)):=by
   rw [d7,he]
   unfold fm
   rw [nG]
   rfl
  have hsz1:(insertAt es q (hsh prog w k,Value.ref x)).size=kb.length+1:=by
   rw [← Array.length_toList,he1]; unfold fm; rw [List.length_map,hlen1]
  have T2:TOk t1 ((gc kb q (k,x)).map fun p=> hsh prog w p.1):=by rw [nG]; exact T1
  rw [if_pos epl]
  refine wpAny_bind (AC hx ?_)
  rw [if_pos rfl]
  have hg1:(s.heap.update S (Obj.putSet (insertAt es q (hsh prog w k,Value.ref x)) t1)).get? S=some { o with data:=.set (insertAt es q (hsh prog w k,Value.ref x)) (ep+1) t1 }:=by
   have:=Heap.get?_update_self (Obj.putSet (insertAt es q (hsh prog w k,Value.ref x)) t1) ho (by rw [putSet_of _ t1 hd]; rfl)
   rw [putSet_of _ t1 hd] at this; exact this
  have hsb:=Heap.SameBut.update s.heap S (Obj.putSet (insertAt es q (hsh prog w k,Value.ref x)) t1)
  have hkb1:∀ p∈gc kb q (k,x),TK prog w (s.heap.update S (Obj.putSet (insertAt es q (hsh prog w k,Value.ref x)) t1)) p.1 p.2:=fun p hp'=> by
   have:=(eG kb q (k,x)).mem_iff.mp hp'
   rcases List.mem_append.mp this with z | z
   ·exact (hkb p z).keep ho hd hsb
   ·rw [List.mem_singleton.mp z]; exact hx.keep ho hd hsb
  have hnd1:((gc kb q (k,x)).map (·.1)).Nodup:=by
   rw [((eG kb q (k,x)).map (·.1)).nodup_iff,List.map_append,List.nodup_append]
   refine ⟨hnd,by simp,fun a ha b hb=> ?_⟩
   simp at hb
   subst hb
   rintro rfl
   exact hk ha
  refine wpAny_bind (wpAny_storeSet_of ho hd ?_ (by rw [hsz1,sizeLine_eq]; omega))
  rw [Bool.not_false,Bool.true_and]
  by_cases hft:t1.tooFull=true
  ·rw [if_pos hft,hsz,← hlen1]
   refine wpAny_bind (Ab (s:={ s with heap:=s.heap.update S (Obj.putSet (insertAt es q (hsh prog w k,Value.ref x)) t1) }) hg1 hex rfl he1 T2 eled epl hkb1 hnd1 (by omega) (by omega) fun h' kb' hsb' P' pm=> wpAny_pure ?_)
   exact h true h' kb' (hsb.trans hsb') P' (by rw [if_neg hk]; exact pm.trans (eG kb q (k,x)))
  ·rw [if_neg hft]
   refine wpAny_pure (h true _ (gc kb q (k,x)) hsb ⟨⟨_,_,_,t1,hg1,hex,rfl,he1,T2,eled,epl,by simpa using hft,by rw [emask,hlen1]; omega⟩,hkb1,hnd1⟩ (by rw [if_neg hk]; exact eG kb q (k,x)))
 ·dsimp only
  refine wpAny_pure ?_
  have hk:k∈kb.map (·.1):=by obtain ⟨p,hp',e⟩:=hyes; exact List.mem_map.mpr ⟨p,hp',e⟩
  exact h false s.heap kb (Heap.SameBut.refl S s.heap) P0 (by rw [if_pos hk])
end
end ST
namespace ST
open PySem PySem.SetTable
section
variable {prog:Program} {w:World} {A:Around}
theorem TK.moved {s s':Shared} {wr:List Addr} {G:Array GenState→Array GenState→Prop} {k:List Int} {b:Addr} (x:TK prog w s.heap k b) (hb:b ∉ wr) (m:Moved wr G s s'):TK prog w s'.heap k b:=by
 obtain ⟨o,its,n,ho,hc,hd,hi⟩:=x
 exact ⟨o,its,n,m.heap b o hb ho,hc,hd,hi⟩
theorem SP.moved {s s':Shared} {wr:List Addr} {G:Array GenState→Array GenState→Prop} {S:Addr} {kb:List (List Int×Addr)} (x:SP prog w s.heap S kb) (hS:S ∉ wr) (hb:∀ p∈kb,p.2 ∉ wr) (m:Moved wr G s s'):SP prog w s'.heap S kb:=by
 obtain ⟨⟨o,es,ep,t,ho,r⟩,hk,hn⟩:=x
 exact ⟨⟨o,es,ep,t,m.heap S o hS ho,r⟩,fun p hp=> (hk p hp).moved (hb p hp) m,hn⟩
structure Got (kx:Nat→List Int×Addr) (i:Nat) (kb:List (List Int×Addr)):Prop where
 src:∀ p∈kb,∃ j,j < i∧p=kx j
 all:∀ j,j < i→(kx j).1∈kb.map (·.1)
 len:kb.length≤i
variable {R:Result→Shared→Prop} {I:Addr} {fp wr:List Addr} {G:Array GenState→Array GenState→Prop} {n:Nat} {P:Nat→Value→Prop} {St:Nat→Shared→Prop}
set_option maxHeartbeats 1000000 in
theorem uV (W:WalksS prog w A.in1 I fp wr G n P St) (hu:A.in1.units < cLine) {S:Addr} (hSf:S ∉ fp) (kx:Nat→List Int×Addr) (hP:∀ i v,P i v→v=.ref (kx i).2) (hwr:∀ i,i < n→(kx i).2 ∉ wr) (hn:n≤1000):
  ∀ (k i:Nat) (s:Shared) (kb:List (List Int×Addr)),n - i=k→i≤n→St i s→SP prog w s.heap S kb→Got kx i kb→(∀ j,j < n→TK prog w s.heap (kx j).1 (kx j).2)→
   (∀ s' kb',Moved (S::wr) G s s'→SP prog w s'.heap S kb'→Got kx n kb'→R (.ok (.ret .none)) s')→
   codeAny (model prog w) A (.builtin "set.update.loop" ⟨[.ref S,.ref I],[]⟩) R s:=by
 have hSw:S ∉ wr:=fun h=> hSf (W.sub _ h)
 have more:∀ b∈wr,b∈S::wr:=fun b hb=> List.mem_cons_of_mem _ hb
 intro k
 induction k with
 | zero=>
  intro i s kb hk hi st hS g tk hR
  obtain rfl:i=n:=by omega
  refine codeAny_builtin PyProof.Rows.F.entry_set_update_loop ?_
  rw [Around.under_plainId PyProof.Rows.F.plain_set_update_loop _]
  show wpAny _ A.in1 (pyNext (.ref I) >>=_) _ _ s
  refine wpAny_bind (W.done s _ _ st fun s' m=> ?_)
  exact wpAny_pure (hR s' kb (m.mono more) (hS.moved hSw (fun p hp=> by obtain ⟨j,hj,rfl⟩:=g.src p hp; exact hwr j hj) m) g)
 | succ k ih=>
  intro i s kb hk hi st hS g tk hR
  have hlt:i < n:=by omega
  have hkb:∀ p∈kb,p.2 ∉ wr:=fun p hp=> by obtain ⟨j,hj,rfl⟩:=g.src p hp; exact hwr j (by omega)
  refine codeAny_builtin PyProof.Rows.F.entry_set_update_loop ?_
  rw [Around.under_plainId PyProof.Rows.F.plain_set_update_loop _]
  show wpAny _ A.in1 (pyNext (.ref I) >>=_) _ _ s
  refine wpAny_bind (W.item i s _ _ hlt st fun v s1 pv st1 m=> ?_)
  obtain rfl:=hP i v pv
  have hS1:=hS.moved hSw hkb m
  have tk1:∀ j,j < n→TK prog w s1.heap (kx j).1 (kx j).2:=fun j hj=> (tk j hj).moved (hwr j hj) m
  show wpAny _ A.in1 (holding [Value.ref (kx i).2] (setAdd S (.ref (kx i).2)) >>=_) _ _ s1
  refine wpAny_bind (wpAny_holding ?_)
  unfold setAdd
  refine wpAny_holding (wpAny_bind (wpAny_pyHash_tuple hu (tk1 i hlt) ?_))
  refine oo (s:={ s1 with toks:=s1.toks+((kx i).1.length+1) }) hu hS1 (tk1 i hlt) (by have:=g.len; omega) fun b h' kb' sb hS2 hkk=> ?_
  obtain ⟨⟨o,es,ep,t,ho,hex,hd,hrest⟩,hks,hnd⟩:=hS1
  have same:∀ b o,b ∉ S::wr→s1.heap.get? b=some o→h'.get? b=some o:=fun b o hb e=> by rw [sb.2 b (fun z=> hb (by rw [z]; exact List.mem_cons_self))]; exact e
  refine wpAny_pure ⟨plainId_quiet PyProof.Rows.F.plain_set_update_loop _,ih (i+1) _ kb' (by omega) hlt (W.frame _ s1 _ _ st1 (by show s1.toks≤s1.toks+_; omega) fun b hb o e=> ?_) hS2 ?_ (fun j hj=> (tk1 j hj).keep ho hd sb) fun s2 kb2 m2 hS3 g2=> ?_⟩
  ·rw [sb.2 b (fun z=> hSf (by rw [← z]; exact hb))]; exact e
  ·by_cases hin:(kx i).1∈kb.map (·.1)
   ·rw [if_pos hin] at hkk
    subst hkk
    refine ⟨fun p hp=> ?_,fun j hj=> ?_,by have:=g.len; omega⟩
    ·obtain ⟨j,hj,e⟩:=g.src p hp; exact ⟨j,by omega,e⟩
    ·rcases Nat.lt_or_eq_of_le (Nat.le_of_lt_succ hj) with z | z
     ·exact g.all j z
     ·rw [z]; exact hin
   ·rw [if_neg hin] at hkk
    refine ⟨fun p hp=> ?_,fun j hj=> ?_,by rw [hkk.length_eq]; have:=g.len; simp; omega⟩
    ·rcases List.mem_append.mp (hkk.mem_iff.mp hp) with z | z
     ·obtain ⟨j,hj,e⟩:=g.src p z; exact ⟨j,by omega,e⟩
     ·exact ⟨i,Nat.lt_succ_self i,by rw [List.mem_singleton.mp z]⟩
    ·rw [(hkk.map (·.1)).mem_iff,List.map_append]
     rcases Nat.lt_or_eq_of_le (Nat.le_of_lt_succ hj) with z | z
     ·exact List.mem_append_left _ (g.all j z)
     ·rw [z]; exact List.mem_append_right _ (by simp)
  ·exact hR s2 kb2 (Moved.trans W.gtrans ((m.mono more).then_heap (by show s1.toks≤s1.toks+_; omega) same) m2) hS3 g2
end
section
variable {prog:Program} {w:World} {A:Around} {E:Value→Shared→Prop} {s:Shared}
abbrev bV (w:World):Obj:={ cls:=.type "set",dict:=none,data:=.set #[] 0 (.fresh 0 0 (!w.params.followText "set-order")) }
theorem ul:TOk (.fresh 0 0 (!w.params.followText "set-order")) [] where
 R:=by intro i j x y _ h; simp [SetTable.fresh] at h
 d:=rfl
 k:=⟨3,by decide,rfl⟩
 n:=rfl
 f:=by show 0≤7; decide
 le:=by intro i x h; simp [SetTable.fresh] at h
 reach:=by intro i x h hi; simp [SetTable.fresh] at hi
theorem uS {h:Heap} {S:Addr} (e:h.get? S=some (bV w)):SP prog w h S []:=by
 refine ⟨⟨_,_,_,_,e,⟨rfl,rfl,rfl⟩,rfl,rfl,ul,rfl,rfl,by simp [SetTable.tooFull,SetTable.fresh,SetTable.fill],by show 7 < 8; decide⟩,fun p hp=> by simp at hp,by simp⟩
theorem xn (a:Value) {Q:Value→Shared→Prop} (h:Q (.ref s.heap.objs.size) { s with heap:=s.heap.push (bV w) }):
  codeAny (model prog w) A (.call (.builtin "set.__new__") ⟨[.type "set",a],[]⟩) (wants Q E) s:=by
 refine codeAny_of_tree ?_
 show wpAny _ A.in1 (do checkBuiltinCall "set.__new__" ⟨[.type "set",a],[]⟩; again (.builtin "set.__new__" ⟨[.type "set",a],[]⟩)) _ _ s
 refine wpAny_bind (wpAny_of_eq (PySem.F.newCall_set_1 a) (wpAny_pure ⟨plainId_quiet PySem.F.plain_set_new _,codeAny_builtin PySem.F.entry_set_new ?_⟩))
 rw [Around.under_plainId PySem.F.plain_set_new _]
 unfold Builtin.«set.__new__» Builtin.Frozenset.newClass
 have hsub:=sub_set_self
 obtain ⟨hp,g,d,tk,os⟩:=s
 dsimp only
 wp_walk
 refine wpAny_askSetting (wpAny_pure ?_)
 dsimp only
 simp only [newObj]
 exact wpAny_bind (wpAny_alloc (wpAny_pure (wpAny_pure h)))
end
end ST
namespace ST
open PySem PySem.SetTable
section
variable {prog:Program} {w:World} {A:Around} {E:Value→Shared→Prop} {s:Shared}
set_option maxRecDepth 100000 in
set_option maxHeartbeats 3200000 in
theorem call_set_pts {l:Addr} {items:Array Value} {Q:Value→Shared→Prop} (kx:Nat→List Int×Addr) (hh:A.handled=none) (hu:A.in1.in1.in1.units < cLine) (hl:s.heap.IsList l items)
  (hit:∀ (i:Nat) (v:Value),items[i]?=some v→v=.ref (kx i).2) (htk:∀ i,i < items.size→TK prog w s.heap (kx i).1 (kx i).2) (hn:items.size≤1000)
  (h:∀ (h':Heap) (tk:Nat) (kb:List (List Int×Addr)),SP prog w h' s.heap.objs.size kb→Got kx items.size kb→(∀ b o,s.heap.get? b=some o→h'.get? b=some o)→Q (.ref s.heap.objs.size) { s with heap:=h',toks:=tk }):
  wpAny (model prog w) A (call (.type "set") [.ref l]) Q E s:=by
 obtain ⟨cc,tl,hmro⟩:=PySem.F.called_set.mro
 have hmade:=PySem.F.called_set.made
 have hsub:=PySem.F.called_set.sub
 refine wpAny_call (codeAny_of_tree ?_)
 show wpAny _ _ (callAny (.type "set") _) _ _ _
 refine wpAny_pure ⟨Code.quiet_builtin _ (by decide+kernel),codeAny_builtin PySem.F.entry_type_call ?_⟩
 rw [Around.under_plain (weight_type_call_type "set" [.ref l] []) rfl]
 have g1:=PySem.F.called_set.notType
 have g2:=PySem.F.called_set.canCreate
 have g3:=PySem.F.typeCall_set_1 (.ref l)
 repeat (any_goals (first | assumption | wp_step))
 refine codeAny_mono (xn (w:=w) (.ref l) (E:=E) (Q:=fun obj s₁=> obj=.ref s.heap.objs.size∧s₁={ s with heap:=s.heap.push (bV w) }) ⟨rfl,rfl⟩) fun r s₁ hr=> ?_
 cases r with
 | error e=> exact hr
 | ok fl=>
  cases fl with
  | ret obj=>
   obtain ⟨rfl,rfl⟩:=hr
   have hS:(s.heap.push (bV w)).get? s.heap.objs.size=some (bV w):=Heap.get?_push_size _ rfl
   have hT:Shared.TypeIs { s with heap:=s.heap.push (bV w) } (.ref s.heap.objs.size) "set":=⟨_,hS,rfl⟩
   have hli:=PySem.F.called_set.init.lookup
   have hbi:=PySem.F.called_set.init.bind (.ref s.heap.objs.size)
   repeat (any_goals (first | assumption | wp_step))
   refine codeAny_mono (codeAny_call_builtin (R:=wants (fun r s₂=> r=.none∧∃ h' tk kb,s₂={ s with heap:=h',toks:=tk }∧
     SP prog w h' s.heap.objs.size kb∧Got kx items.size kb∧(∀ b o,s.heap.get? b=some o→h'.get? b=some o)) E) PySem.F.called_set.init.plain PySem.F.entry_set_init (check_set_init_1 hT ?_)) fun r₂ s₂ hr₂=> ?_
   ·obtain ⟨ol,hol,hcl,nl,hdl⟩:=hl
    obtain ⟨ocls,odict,odata,oslots⟩:=ol
    simp only at hcl hdl
    subst hcl; subst hdl
    have hol':(s.heap.push (bV w)).get? l=some { cls:=.type "list",dict:=odict,data:=.seq items nl,slots:=oslots }:=Heap.get?_push_of_some _ hol
    have k1:=PySem.F.sub_list_set
    have k2:=PySem.F.sub_list_frozenset
    have k3:(Value.type "list"==Value.type "dict")=false:=by decide
    have hl1:(s.heap.push (bV w)).IsList l items:=⟨_,hol',rfl,nl,rfl⟩
    unfold Builtin.«set.__init__» noKeywords Builtin.Frozenset.updateFrom
    generalize hPI:pyIter=PI
    wp_walk
    subst hPI
    refine wpAny_pyIter_list hl1 (wpAny_bind (wpAny_runValue ?_))
    have hlS:l < s.heap.objs.size:=Heap.lt_size hol
    have h3:A.in1.in1.in1.handled=none:=by simp [hh]
    have szI:(s.heap.push (bV w)).objs.size=s.heap.objs.size+1:=Heap.size_push ..
    have hneI:l≠(s.heap.push (bV w)).objs.size:=by rw [szI]; exact Nat.ne_of_lt (Nat.lt_succ_of_lt hlS)
    have hSf:s.heap.objs.size ∉ [(s.heap.push (bV w)).objs.size,l]:=by
     rw [szI]
     intro z
     rcases List.mem_cons.mp z with z | z
     ·exact absurd z (Nat.ne_of_lt (Nat.lt_succ_self _))
     ·exact absurd (List.mem_singleton.mp z) (Nat.ne_of_gt hlS)
    refine uV ((Walks.list h3 _ l hneI items).toS) hu hSf kx hit (fun i hi=> ?_) hn (items.size - 0) 0 _ [] (by omega) (Nat.zero_le _)
     ⟨⟨_,Heap.get?_push_size _ rfl,rfl,rfl⟩,(hl1.push _)⟩ ?_ ⟨fun p hp=> by simp at hp,fun j hj=> by omega,by simp⟩ (fun j hj=> ?_) fun s' kb m hS' g=> ?_
    ·intro z
     have z':=List.mem_singleton.mp z
     obtain ⟨o,_,_,ho,_⟩:=htk i hi
     have:=Heap.lt_size ho
     rw [z',szI] at this
     exact Nat.lt_irrefl _ (Nat.lt_trans (Nat.lt_succ_self _) this)
    ·exact uS (Heap.get?_push_of_some _ hS)
    ·obtain ⟨o,its,k,ho,r⟩:=htk j hj
     exact ⟨o,its,k,Heap.get?_push_of_some _ (Heap.get?_push_of_some _ ho),r⟩
    ·obtain ⟨h',g',d',tk',os'⟩:=s'
     obtain rfl:g'=s.gens:=m.gens
     obtain rfl:d'=s.drawn:=m.drawn
     obtain rfl:os'=s.os:=m.os
     refine wpAny_pure ?_
     show wpAny _ _ (ret Value.none) _ _ _
     refine wpAny_pure ⟨rfl,h',tk',kb,rfl,hS',g,fun b o e=> ?_⟩
     have hb:=Heap.lt_size e
     refine m.heap b o (fun z=> ?_) (Heap.get?_push_of_some _ (Heap.get?_push_of_some _ e))
     rcases List.mem_cons.mp z with z | z
     ·exact absurd z (Nat.ne_of_lt hb)
     ·have z':=List.mem_singleton.mp z
      rw [z',szI] at hb
      exact Nat.lt_irrefl _ (Nat.lt_trans (Nat.lt_succ_self _) hb)
   ·cases r₂ with
    | error e=> exact hr₂
    | ok fl₂=>
     cases fl₂ with
     | ret r=>
      obtain ⟨rfl,h',tk,kb,rfl,hS',g,hk'⟩:=hr₂
      repeat (any_goals (first | assumption | wp_step))
      exact h _ _ kb hS' g hk'
     | _=> exact hr₂.elim
  | _=> exact hr.elim
end
end ST
namespace ST
open PySem PySem.SetTable
theorem dI:Slot "set_iterator" "__next__" "set_iterator.__next__":=
 .of (owner:="set_iterator") (n:="__next__") (by rw [typeLookup_type,builtinLookup_eq_fast]; kernel_rfl) (by decide+kernel) (by decide+kernel) (by decide+kernel) (by first | exact .inl (by decide+kernel) | exact .inr (by decide+kernel)) (by rw [isSubtype_type]; kernel_rfl)
theorem jK:entryFor table "set_iterator.__next__"=some Builtin.«set_iterator.__next__»:=entryFor_of_tree (by kernel_rfl)
theorem kM (a:Value):argsOk "set_iterator.__next__" ⟨[a],[]⟩:=by unfold argsOk; kernel_rfl
theorem pd:entryFor table "set.__iter__"=some Builtin.«frozenset.__iter__»:=entryFor_alias (id':="frozenset.__iter__") (by kernel_rfl) rfl (by decide+kernel) (by kernel_rfl)
theorem oe {α:Type} {l:List α} {i:Nat} (h:i < l.length):(l[i]::l.eraseIdx i).Perm l:=by
 rw [List.eraseIdx_eq_take_drop_succ]
 refine List.perm_middle.symm.trans ?_
 rw [← List.drop_eq_getElem_cons h,List.take_append_drop]
theorem qm {α:Type} (next:Nat→Nat):∀ (fuel k:Nat) (left:List α) (out:Array α),left.length=fuel→(pickOrder.go next fuel k left out).toList.Perm (out.toList++left)
 | 0,k,left,out,h=> by
  obtain rfl:left=[]:=List.length_eq_zero_iff.mp h
  rw [pickOrder.go,List.append_nil]
 | fuel+1,k,left,out,h=> by
  have hi:next k % left.length < left.length:=Nat.mod_lt _ (by omega)
  rw [pickOrder.go,List.getElem?_eq_getElem hi]
  refine (qm next fuel (k+1) _ _ (by rw [List.length_eraseIdx_of_lt hi]; omega)).trans ?_
  rw [Array.toList_push,List.append_assoc]
  refine List.Perm.append_left _ ?_
  rw [List.singleton_append]
  exact oe hi
theorem v0 {α:Type} (next:Nat→Nat) (xs:Array α):(pickOrder next xs).toList.Perm xs.toList:=by
 unfold pickOrder
 have:=qm next xs.size 0 xs.toList #[] (by simp)
 simpa using this
section
variable {prog:Program} {w:World} {A:Around} {E:Value→Shared→Prop} {s:Shared}
def ca (w:World) (S:Addr) (es:Array (Int×Value)) (ep:Nat):List Value:=(if w.params.followText "set-order"=true then pickOrder (w.params.setOrder S ep) es else es).toList.map (·.2)
theorem eS (w:World) (S:Addr) (es:Array (Int×Value)) (ep:Nat):(ca w S es ep).Perm (es.toList.map (·.2)):=by
 unfold ca
 refine List.Perm.map _ ?_
 split
 ·exact v0 _ es
 ·exact List.Perm.refl _
def fJ (t:SetTable):Nat→Nat
 | 0=> 0
 | j+1=> t.place.getD j 0+1
def aP (w:World) (t:SetTable) (i:Nat):Nat:=if w.params.followText "set-order"=true then 0 else fJ t i
def o6 (w:World) (h:Heap) (it S:Addr) (t:SetTable) (i n ep:Nat):Prop:=∃ o,h.get? it=some o∧o.cls=.type "set_iterator"∧o.data=.fields #[rawInt (aP w t i),rawInt i,.ref S,rawInt n,rawInt ep]
theorem o6.ty {it S:Addr} {t:SetTable} {i n ep:Nat} (x:o6 w s.heap it S t i n ep):s.TypeIs (.ref it) "set_iterator":=let ⟨o,ho,hc,_⟩:=x; ⟨o,ho,hc⟩
structure SO (prog:Program) (w:World) (o:Obj) (es:Array (Int×Value)) (ep:Nat) (t:SetTable) (hs:List Int):Prop where
 ex:o.ExactSet
 d:o.data=.set es ep t
 T:TOk t hs
 n:hs.length=es.size
 led:t.led=(!w.params.followText "set-order")
 plain:t.plain=true
theorem uj {S:Addr} {o:Obj} {es ep t hs} {Q:Bool→Shared→Prop} (O:SO prog w o es ep t hs) (ho:s.heap.get? S=some o) (h:Q false s):wpAny (model prog w) A (setDrawn S) Q E s:=by
 unfold setDrawn setsByText
 refine wpAny_bind (wpAny_setState_of ho O.d (O.T.fits O.n) (wpAny_bind (wpAny_bind (wpAny_askSetting (wpAny_pure (wpAny_pure ?_))))))
 have q:Q (!w.params.followText "set-order" && (!t.plain && decide (es.size > 1))) s:=by rw [O.plain]; simpa using h
 exact q
theorem um {S:Addr} {o:Obj} {es ep t hs} {Q:Value→Shared→Prop} (O:SO prog w o es ep t hs) (ho:s.heap.get? S=some o)
  (hQ:Q (.ref s.heap.objs.size) { s with heap:=s.heap.push { cls:=.type "set_iterator",data:=.fields #[rawInt 0,rawInt 0,.ref S,rawInt es.size,rawInt ep] } }):wpAny (model prog w) A (pyIter (.ref S)) Q E s:=by
 have hT:s.TypeIs (.ref S) "set":=⟨o,ho,O.ex.1⟩
 refine wpAny_pyIter_slot hT PySem.F.slot_set_iter (wpAny_call_entry PySem.F.slot_set_iter hT pd ?_ (PySem.F.args_set_iter_1 _))
 unfold Builtin.«frozenset.__iter__»
 show wpAny _ _ (Builtin.Frozenset.sizeOf S >>=_) _ _ s
 unfold Builtin.Frozenset.sizeOf
 refine wpAny_bind (wpAny_bind (wpAny_setEntries_of ho O.d (O.T.fits O.n) (wpAny_pure ?_)))
 refine wpAny_bind (uj O ho ?_)
 simp only [Bool.false_eq_true,if_false]
 refine wpAny_bind (wpAny_pure ?_)
 refine wpAny_bind (wpAny_setEpoch_of ho O.d (O.T.fits O.n) ?_)
 refine wpAny_bind (wpAny_newObj_type (wpAny_pure ⟨_,rfl,"set_iterator",_,⟨_,Heap.get?_push_size _ rfl,rfl⟩,dI.lookup,?_⟩))
 exact hQ
theorem og {t:SetTable} {hs:List Int} (T:TOk t hs) {i:Nat} (hi:i≤t.place.size):below t.place (fJ t i)=i:=by
 obtain ⟨h1,h2,h3⟩:=e9 T.R (fJ t i)
 cases i with
 | zero=>
  dsimp only [fJ] at *
  rcases Nat.eq_zero_or_pos (below t.place 0) with z | z
  ·exact z
  ·have:=h1 0 _ z (d0 (by omega)); omega
 | succ j=>
  dsimp only [fJ] at *
  have hj:j < t.place.size:=by omega
  have ej:t.place.getD j 0=t.place[j]:=by simp [Array.getD,hj]
  rw [ej] at h1 h2 h3 ⊢
  generalize hb:below t.place (t.place[j]+1)=b at *
  rcases Nat.lt_trichotomy b (j+1) with z | z | z
  ·have:=h2 j t.place[j] (by omega) (d0 hj); omega
  ·exact z
  ·have q:=h1 (j+1) _ z (d0 (by omega))
   have:=T.R j (j+1) _ _ (by omega) (d0 hj) (d0 (show j+1 < t.place.size by omega))
   omega
theorem ja {S:Addr} {o:Obj} {es ep t hs} {i:Nat} {Q:Option (Value×Nat)→Shared→Prop} (O:SO prog w o es ep t hs) (ho:s.heap.get? S=some o) (hi:i≤es.size)
  (h:Q (((ca w S es ep)[i]?).map fun v=> (v,aP w t (i+1))) s):wpAny (model prog w) A (setNext S (aP w t i) i ep) Q E s:=by
 have hfit:=O.T.fits O.n
 have hpl:t.place.size=es.size:=by rw [O.T.n,O.n]
 unfold setNext setsByText
 refine wpAny_bind (wpAny_setState_of ho O.d hfit (wpAny_bind (wpAny_bind (wpAny_askSetting (wpAny_pure ?_)))))
 by_cases bt:w.params.followText "set-order"=true
 ·dsimp only
  rw [show (model prog w).w.params.followText "set-order"=true from bt,if_pos rfl,if_neg (by simp)]
  unfold setWalk setsByText
  refine wpAny_bind (wpAny_bind (wpAny_setState_of ho O.d hfit (wpAny_bind (wpAny_bind (wpAny_askSetting (wpAny_pure ?_))))))
  dsimp only
  rw [show (model prog w).w.params.followText "set-order"=true from bt,if_pos rfl]
  refine wpAny_bind (wpAny_askSetting (wpAny_pure (wpAny_pure ?_)))
  have e:Option.map (fun (e:Int×Value)=> (e.2,aP w t i)) (pickOrder (w.params.setOrder S ep) es)[i]?=((ca w S es ep)[i]?).map fun v=> (v,aP w t (i+1)):=by
   unfold ca aP
   rw [if_pos bt,if_pos bt,if_pos bt,List.getElem?_map,Array.getElem?_toList,Option.map_map]
   rfl
  have q:Q (Option.map (fun (e:Int×Value)=> (e.2,aP w t i)) (pickOrder (w.params.setOrder S ep) es)[i]?) s:=by rw [e]; exact h
  exact q
 ·have bf:w.params.followText "set-order"=false:=by simpa using bt
  dsimp only
  rw [show (model prog w).w.params.followText "set-order"=false from bf,if_neg (by simp)]
  have e1:aP w t i=fJ t i:=by unfold aP; rw [if_neg bt]
  have e2:below t.place (aP w t i)=i:=by rw [e1]; exact og O.T (by omega)
  have e3:(match es[below t.place (aP w t i)]?,t.place[below t.place (aP w t i)]? with
    | some (_,x),some j=> some (x,j+1)
    | _,_=> none)=((ca w S es ep)[i]?).map fun v=> (v,aP w t (i+1)):=by
   rw [e2]
   unfold ca aP
   rw [if_neg bt,if_neg bt,List.getElem?_map,Array.getElem?_toList]
   rcases Nat.lt_or_ge i es.size with z | z
   ·have z':i < t.place.size:=by omega
    simp [z,z',Array.getD,fJ]
   ·have z':t.place.size≤i:=by omega
    simp [z,z']
  split
  ·rename_i hc
   exact absurd (show (!t.plain && decide (es.size > 1))=true from hc) (by rw [O.plain]; simp)
  ·refine wpAny_bind ?_
   show wpAny _ _ (if (!t.led && !es.isEmpty)=true then unsupported "set:maker-not-led" else pure ()) _ _ _
   rw [O.led,bf,if_neg (by simp)]
   refine wpAny_pure (wpAny_pure ?_)
   have q:Q (match es[below t.place (aP w t i)]?,t.place[below t.place (aP w t i)]? with
    | some (_,x),some j=> some (x,j+1)
    | _,_=> none) s:=by rw [e3]; exact h
   exact q
set_option maxHeartbeats 1000000 in
theorem sK {S it:Addr} {o:Obj} {es ep t hs} {i:Nat} {v:Value} {Q:Option Value→Shared→Prop} (O:SO prog w o es ep t hs) (ho:s.heap.get? S=some o) (hit:o6 w s.heap it S t i es.size ep) (hv:(ca w S es ep)[i]?=some v)
  (hQ:∀ h',o6 w h' it S t (i+1) es.size ep→Heap.SameBut it s.heap h'→Q (some v) { s with heap:=h' }):wpAny (model prog w) A (pyNext (.ref it)) Q E s:=by
 obtain ⟨oi,hoi,hc,hd⟩:=id hit
 have hfit:=O.T.fits O.n
 unfold pyNext
 refine wpAny_bind (wpAny_attempt (wpAny_callSpecial?_slot (name:=Str.ofString "__next__") hit.ty dI (wpAny_call_entry dI hit.ty jK ?_ (kM _))))
 unfold Builtin.«set_iterator.__next__»
 refine wpAny_bind (m:=slotArgs "__next__" 0 _) (wpAny_pure ?_)
 dsimp only
 refine wpAny_bind (wpAny_fieldsOf hoi hd ?_)
 dsimp only [rawInt]
 refine wpAny_bind (wpAny_setEntries_of ho O.d hfit ?_)
 rw [if_neg (by simp)]
 have hlt:i < es.size:=by
  have q:=(List.getElem?_eq_some_iff.mp hv).1
  rw [(eS w S es ep).length_eq,List.length_map,Array.length_toList] at q
  exact q
 rw [show ((aP w t i:Nat):Int).toNat=aP w t i from Int.toNat_natCast _,show ((i:Nat):Int).toNat=i from Int.toNat_natCast _,show ((ep:Nat):Int).toNat=ep from Int.toNat_natCast _]
 refine wpAny_bind (ja O ho (Nat.le_of_lt hlt) ?_)
 rw [hv]
 dsimp only [Option.map]
 refine wpAny_bind (wpAny_setField hoi hd (by simp) ?_)
 have g1:=Heap.get?_update_self (Obj.mapFields (·.setIfInBounds 0 (Value.int ((aP w t (i+1):Nat):Int) 0))) hoi (Obj.isFreed_of_fields (Obj.data_mapFields hd _))
 refine wpAny_bind (wpAny_setField g1 (Obj.data_mapFields hd _) (by simp) ?_)
 refine wpAny_pure ⟨_,rfl,wpAny_pure (hQ _ ?_ ((Heap.SameBut.update ..).trans (Heap.SameBut.update ..)))⟩
 refine ⟨_,Heap.get?_update_self _ g1 (Obj.isFreed_of_fields (Obj.data_mapFields (Obj.data_mapFields hd _) _)),(Obj.cls_mapFields ..).trans ((Obj.cls_mapFields ..).trans hc),?_⟩
 rw [Obj.data_mapFields (Obj.data_mapFields hd _)]
 simp [rawInt]
set_option maxHeartbeats 1000000 in
theorem tJ {S it:Addr} {o:Obj} {es ep t hs} {Q:Option Value→Shared→Prop} (hh:A.handled=none) (O:SO prog w o es ep t hs) (ho:s.heap.get? S=some o) (hit:o6 w s.heap it S t es.size es.size ep)
  (hQ:∀ h',Heap.ExtBut it s.heap h'→Q none { s with heap:=h' }):wpAny (model prog w) A (pyNext (.ref it)) Q E s:=by
 obtain ⟨oi,hoi,hc,hd⟩:=id hit
 have hfit:=O.T.fits O.n
 unfold pyNext
 refine wpAny_bind (wpAny_attempt (wpAny_callSpecial?_slot (name:=Str.ofString "__next__") hit.ty dI (wpAny_call_entry dI hit.ty jK ?_ (kM _))))
 unfold Builtin.«set_iterator.__next__»
 refine wpAny_bind (m:=slotArgs "__next__" 0 _) (wpAny_pure ?_)
 dsimp only
 refine wpAny_bind (wpAny_fieldsOf hoi hd ?_)
 dsimp only [rawInt]
 refine wpAny_bind (wpAny_setEntries_of ho O.d hfit ?_)
 rw [if_neg (by simp)]
 rw [show ((aP w t es.size:Nat):Int).toNat=aP w t es.size from Int.toNat_natCast _,show ((es.size:Nat):Int).toNat=es.size from Int.toNat_natCast _,show ((ep:Nat):Int).toNat=ep from Int.toNat_natCast _]
 refine wpAny_bind (ja O ho (Nat.le_refl _) ?_)
 rw [show (ca w S es ep)[es.size]?=none from List.getElem?_eq_none (by rw [(eS w S es ep).length_eq,List.length_map,Array.length_toList]; exact Nat.le_refl _)]
 dsimp only [Option.map]
 refine wpAny_bind (wpAny_setField hoi hd (by simp) ?_)
 refine wpAny_bind ?_
 simp only [newExc,newTuple]
 refine wpAny_bind (wpAny_newObj_type ?_ (by size_fits))
 refine wpAny_bind (m:=firstArgMember _ _) (wpAny_of_eq (a:=Value.none) (by first | rfl | (simp only [firstArgMember]; rfl)) ?_)
 refine wpAny_newObj_type ?_ (by size_fits)
 simp only [raiseNew]
 refine wpAny_bind (wpAny_handled ?_)
 rw [show A.in1.handled=none from hh]
 refine wpAny_bind (wpAny_pure (wpAny_throw ?_))
 refine wpAny_bind (wpAny_isInstance (T:="StopIteration") (b:=true) ⟨_,Heap.get?_push_size _ rfl,rfl⟩ isSubtype_stop ?_)
 exact wpAny_pure (hQ _ (((Heap.SameBut.update ..).extBut.push _).push _))
end
end ST
namespace ST
open PySem PySem.SetTable PySem.W
theorem kr:Slot "set_iterator" "__iter__" "set_iterator.__iter__":=
 .of (owner:="set_iterator") (n:="__iter__") (by rw [typeLookup_type,builtinLookup_eq_fast]; kernel_rfl) (by decide+kernel) (by decide+kernel) (by decide+kernel) (by first | exact .inl (by decide+kernel) | exact .inr (by decide+kernel)) (by rw [isSubtype_type]; kernel_rfl)
theorem oP:entryFor table "set_iterator.__iter__"=some Builtin.«dict_keyiterator.__iter__»:=entryFor_alias (id':="dict_keyiterator.__iter__") (by kernel_rfl) rfl (by decide+kernel) (by kernel_rfl)
theorem rX (a:Value):argsOk "set_iterator.__iter__" ⟨[a],[]⟩:=by unfold argsOk; kernel_rfl
section
variable {prog:Program} {w:World} {A:Around} {E:Value→Shared→Prop} {s:Shared}
theorem xE {it S:Addr} {t:SetTable} {i n ep:Nat} {Q:Value→Shared→Prop} (hit:o6 w s.heap it S t i n ep) (h:Q (.ref it) s):wpAny (model prog w) A (pyIter (.ref it)) Q E s:=by
 refine wpAny_pyIter_slot hit.ty kr (wpAny_call_entry kr hit.ty oP ?_ (rX _))
 exact wpAny_pure ⟨_,rfl,"set_iterator",_,hit.ty,dI.lookup,h⟩
theorem s_ (hh:A.handled=none) {it S:Addr} (hne:S≠it) {o:Obj} {es ep t hs} (O:SO prog w o es ep t hs):
  Walks prog w A it [it,S] [it] es.size (fun i v=> (ca w S es ep)[i]?=some v) (fun i h=> o6 w h it S t i es.size ep∧h.get? S=some o) where
 sub:=fun b hb=> by simp at hb; simp [hb]
 frame:=fun _ _ _ st hk=> ⟨let ⟨x,hx,r⟩:=st.1; ⟨x,hk it (by simp) x hx,r⟩,hk S (by simp) o st.2⟩
 item:=fun i s Q E hi st hQ=> by
  obtain ⟨v,hv⟩:∃ v,(ca w S es ep)[i]?=some v:=⟨_,List.getElem?_eq_getElem (by rw [(eS w S es ep).length_eq,List.length_map,Array.length_toList]; exact hi)⟩
  refine sK O st.2 st.1 hv fun h' hit' sb=> ?_
  exact hQ v h' s.toks hv ⟨hit',(sb.2 S hne).trans st.2⟩ fun b x hb e=> sb.extBut b x (fun z=> hb (by simp [z])) e
 done:=fun s Q E st hQ=> tJ hh O st.2 st.1 fun h' xb=> hQ h' s.toks fun b x hb e=> xb b x (fun z=> hb (by simp [z])) e
 self:=fun _ _ _ _ st hQ=> xE st.1 hQ
theorem t8 {r:Addr} {Q:Bool→Shared→Prop} (hT:s.TypeIs (.ref r) "set") (h:Q false s):wpAny (model prog w) A (Builtin.List.listLengthHint (.ref r)) Q E s:=by
 unfold Builtin.List.listLengthHint
 refine wpAny_bind (wpAny_specialOf hT PySem.F.slot_set_len.lookup ?_)
 generalize hid:("set.__len__":String)=id0
 wp_delta
 rw [show splitId id0=some ("set","__len__") from by subst hid; decide+kernel]
 subst hid
 refine wpAny_bind (wpAny_isInstance (T:="set") (b:=true) hT (by rw [isSubtype_type]; kernel_rfl) ?_)
 refine wpAny_ite_split (fun z=> absurd z (by decide)) (fun _=> ?_)
 refine wpAny_ite_split (fun _=> ?_) (fun z=> absurd (by decide+kernel) z)
 exact wpAny_bind (wpAny_typeOf hT (wpAny_pure h))
theorem xq {S:Addr} {o:Obj} {es ep t hs} (O:SO prog w o es ep t hs):KdlSrc prog w "set" S S es.size (fun i v=> (ca w S es ep)[i]?=some v) (fun h=> h.get? S=some o) where
 type:=fun _ hm=> ⟨o,hm,O.ex.1⟩
 there:=fun _ hm=> ⟨Heap.lt_size hm,Heap.lt_size hm⟩
 keep:=fun _ _ hm hk=> hk S (.inl rfl) o hm
 notList:=by decide
 notTuple:=by decide
 hint:=fun _ _ _ _ hm hq=> t8 ⟨o,hm,O.ex.1⟩ hq
 iter:=fun _ s hh hm=> ⟨_,_,(fun _ _ hq=> um O hm hq),s_ hh (Nat.ne_of_lt (Heap.lt_size hm)) O,⟨⟨_,Heap.get?_push_size _ rfl,rfl,by simp [aP,fJ]⟩,Heap.get?_push_of_some _ hm⟩⟩
end
end ST
namespace ST
open PySem PySem.W PyProof.Rows
inductive fD (lt:Nat→Nat→Bool) (n:Nat) {α:Type}:KasT α→α→Prop
 | ret (a:α):fD lt n (.ret a) a
 | ask {i j:Nat} {k:Bool→KasT α} {a:α}:i < n→j < n→fD lt n (k (lt i j)) a→fD lt n (.ask i j k) a
variable {lt:Nat→Nat→Bool} {n:Nat}
theorem fD.bind {α β:Type} {t:KasT α} {a:α} {f:α→KasT β} {b:β} (h:fD lt n t a) (h':fD lt n (f a) b):fD lt n (t.bind f) b:=by
 induction h with
 | ret a=> exact h'
 | ask hi hj _ ih=> exact fD.ask hi hj (ih h')
theorem fD.wp {α:Type} {t:KasT α} {a:α} (h:fD lt n t a) {cmp:Nat→Nat→(Bool→Shared→Prop)→Shared→Prop} {s:Shared} (hc:∀ i j C,i < n→j < n→C (lt i j) s→cmp i j C s) {Q:α→Shared→Prop} (q:Q a s):t.kasWp cmp Q s:=by
 induction h with
 | ret a=> exact q
 | ask hi hj _ ih=> exact hc _ _ _ hi hj (ih q)
structure LtO (n:Nat) (lt:Nat→Nat→Bool):Prop where
 tr:∀ i j k,lt i j=true→lt j k=true→lt i k=true
 tot:∀ i j,i < n→j < n→i≠j→lt i j=false→lt j i=true
 asy:∀ i j,lt i j=true→lt j i=false
abbrev g (p:Array Nat) (k:Nat):Nat:=p.getD k 0
theorem xj {p q:Array Nat} {k l:Nat} (h:p[k]?=q[l]?):g p k=g q l:=by
 unfold g
 rw [Array.getD_eq_getD_getElem?,Array.getD_eq_getD_getElem?,h]
structure PP (n:Nat) (p:Array Nat):Prop where
 perm:p.toList.Perm (List.range n)
theorem PP.size {p:Array Nat} (h:PP n p):p.size=n:=by rw [← Array.length_toList,h.perm.length_eq,List.length_range]
theorem PP.mem {p:Array Nat} (h:PP n p) {k:Nat} (hk:k < n):g p k < n:=by
 have hk':k < p.size:=by rw [h.size]; exact hk
 have e:g p k=p[k]:=by simp [g,Array.getD,hk']
 rw [e]
 exact List.mem_range.mp (h.perm.mem_iff.mp (by simp))
theorem PP.inj {p:Array Nat} (h:PP n p) {k l:Nat} (hk:k < n) (hl:l < n) (e:g p k=g p l):k=l:=by
 have hk':k < p.toList.length:=by rw [Array.length_toList,h.size]; exact hk
 have hl':l < p.toList.length:=by rw [Array.length_toList,h.size]; exact hl
 have nd:p.toList.Nodup:=h.perm.nodup_iff.mpr List.nodup_range
 have e1:g p k=p.toList[k]:=by simp [g,Array.getD,h.size,hk]
 have e2:g p l=p.toList[l]:=by simp [g,Array.getD,h.size,hl]
 exact (List.getElem_inj nd).mp (by rw [← e1,← e2,e])
theorem PP.of {p q:Array Nat} (h:PP n p) (hq:q.Perm p):PP n q:=⟨(Array.perm_iff_toList_perm.mp hq).trans h.perm⟩
def Srt (lt:Nat→Nat→Bool) (p:Array Nat) (m:Nat):Prop:=∀ i j,i < j→j < m→lt (g p i) (g p j)=true
def Dsc (lt:Nat→Nat→Bool) (p:Array Nat) (m:Nat):Prop:=∀ i j,i < j→j < m→lt (g p j) (g p i)=true
theorem Srt.one (p:Array Nat):Srt lt p 1:=fun i j h1 h2=> by omega
theorem Srt.more (O:LtO n lt) {p:Array Nat} {m:Nat} (S:Srt lt p m) (h1:1≤m) (h:lt (g p (m - 1)) (g p m)=true):Srt lt p (m+1):=fun i j hij hj=> by
 rcases Nat.lt_or_eq_of_le (Nat.le_of_lt_succ hj) with z | z
 ·exact S i j hij z
 ·subst z
  rcases Nat.lt_or_eq_of_le (show i≤j - 1 by omega) with y | y
  ·exact O.tr _ _ _ (S i (j - 1) y (by omega)) h
  ·subst y; exact h
theorem Dsc.more (O:LtO n lt) {p:Array Nat} {m:Nat} (S:Dsc lt p m) (h1:1≤m) (h:lt (g p m) (g p (m - 1))=true):Dsc lt p (m+1):=fun i j hij hj=> by
 rcases Nat.lt_or_eq_of_le (Nat.le_of_lt_succ hj) with z | z
 ·exact S i j hij z
 ·subst z
  rcases Nat.lt_or_eq_of_le (show i≤j - 1 by omega) with y | y
  ·exact O.tr _ _ _ h (S i (j - 1) y (by omega))
  ·subst y; exact h
theorem kO (O:LtO n lt) {p:Array Nat} (P:PP n p):∀ (f m:Nat),1≤m→m+f=n→Srt lt p m→∃ m',fD lt n (kas_asc p f m) m'∧m≤m'∧m'≤n∧Srt lt p m'∧(m' < n→lt (g p m') (g p (m' - 1))=true)
 | 0,m,h1,hf,S=> ⟨m,.ret m,Nat.le_refl _,by omega,S,fun h=> by omega⟩
 | f+1,m,h1,hf,S=> by
  by_cases hc:lt (g p m) (g p (m - 1))=true
  ·refine ⟨m,.ask (P.mem (by omega)) (P.mem (by omega)) ?_,Nat.le_refl _,by omega,S,fun _=> hc⟩
   rw [if_pos hc]; exact .ret m
  ·have hc':lt (g p m) (g p (m - 1))=false:=by simpa using hc
   have ht:=O.tot _ _ (P.mem (show m < n by omega)) (P.mem (show m - 1 < n by omega)) (fun e=> by have:=P.inj (by omega) (by omega) e; omega) hc'
   obtain ⟨m',r,a1,a2,a3,a4⟩:=kO O P f (m+1) (by omega) (by omega) (S.more O h1 ht)
   refine ⟨m',.ask (P.mem (by omega)) (P.mem (by omega)) ?_,by omega,a2,a3,a4⟩
   rw [if_neg hc]; exact r
theorem mw (O:LtO n lt) {p:Array Nat} (P:PP n p):∀ (f m:Nat),1≤m→m+f=n→Dsc lt p m→∃ m',fD lt n (kas_desc f p m 0) (p,m',0)∧m≤m'∧m'≤n∧Dsc lt p m'
 | 0,m,h1,hf,S=> ⟨m,.ret _,Nat.le_refl _,by omega,S⟩
 | f+1,m,h1,hf,S=> by
  by_cases hc:lt (g p m) (g p (m - 1))=true
  ·obtain ⟨m',r,a1,a2,a3⟩:=mw O P f (m+1) (by omega) (by omega) (S.more O h1 hc)
   refine ⟨m',.ask (P.mem (by omega)) (P.mem (by omega)) ?_,by omega,a2,a3⟩
   rw [if_pos hc,if_neg (by omega)]; exact r
  ·have hc':lt (g p m) (g p (m - 1))=false:=by simpa using hc
   have ht:=O.tot _ _ (P.mem (show m < n by omega)) (P.mem (show m - 1 < n by omega)) (fun e=> by have:=P.inj (by omega) (by omega) e; omega) hc'
   refine ⟨m,.ask (P.mem (by omega)) (P.mem (by omega)) ?_,Nat.le_refl _,by omega,S⟩
   rw [if_neg hc]
   refine .ask (P.mem (by omega)) (P.mem (by omega)) ?_
   rw [if_pos ht]; exact .ret _
theorem u6 {p:Array Nat} (P:PP n p) {m k:Nat} (hm:m≤n) (hk:k < m):g (kas_rev p 0 m) k=g p (m - 1 - k):=by
 refine xj ?_
 unfold kas_rev
 rw [getElem?_mirror (by rw [P.size]; exact hm) _ (by omega)]
 split
 ·congr 1; omega
 ·congr 1; omega
theorem t5 {p:Array Nat} (P:PP n p) (i j:Nat):PP n (kas_rev p i j):=P.of (mirror_perm _ _ _ _)
theorem xD {p:Array Nat} (P:PP n p) {m:Nat} (hm:m≤n) (D:Dsc lt p m):Srt lt (kas_rev p 0 m) m:=fun i j hij hj=> by
 rw [u6 P hm (by omega),u6 P hm hj]
 exact D _ _ (by omega) (by omega)
theorem qU (O:LtO n lt) {p:Array Nat} (P:PP n p) (h2:2≤n):∃ m p',fD lt n (kas_count n p) (m,p')∧PP n p'∧1≤m∧m≤n∧Srt lt p' m:=by
 obtain ⟨m,r,a1,a2,a3,a4⟩:=kO O P (n - 1) 1 (Nat.le_refl _) (by omega) (Srt.one p)
 by_cases hm:m=n
 ·exact ⟨m,p,r.bind (by rw [if_pos (by simp [hm])]; exact .ret _),P,a1,a2,a3⟩
 ·have hne:¬ ((m==n)=true):=by simpa using hm
  by_cases h1:m > 1
  ·refine ⟨m,p,r.bind ?_,P,a1,a2,a3⟩
   rw [if_neg hne,if_pos h1]
   refine .ask (P.mem (by omega)) (P.mem (by omega)) ?_
   rw [if_pos (a3 0 (m - 1) (by omega) (by omega))]
   exact .ret _
  ·obtain rfl:m=1:=by omega
   have D2:Dsc lt p 2:=Dsc.more O (fun i j x y=> by omega) (Nat.le_refl _) (a4 (by omega))
   obtain ⟨d,rd,b1,b2,b3⟩:=mw O P (n - 2) 2 (by omega) (by omega) D2
   obtain ⟨e,re,c1,c2,c3,c4⟩:=kO O (t5 P 0 d) (n - d) d (by omega) (by omega) (xD P b2 b3)
   refine ⟨e,kas_rev p 0 d,r.bind ?_,t5 P 0 d,by omega,c2,c3⟩
   rw [if_neg hne,if_neg h1]
   unfold kas_descPart
   refine fD.bind (a:=(p,d,0)) rd ?_
   rw [if_neg (by simp)]
   unfold kas_tail3
   exact re.bind (.ret _)
theorem hV (O:LtO n lt) {p:Array Nat} (P:PP n p) {k:Nat} (hk:k < n) (S:Srt lt p k):∀ (f l r:Nat),l≤r→r≤k→r - l≤f→(∀ i,i < l→lt (g p i) (g p k)=true)→(∀ i,r≤i→i < k→lt (g p k) (g p i)=true)→
  ∃ l',fD lt n (kas_place p k f l r) l'∧l'≤k∧(∀ i,i < l'→lt (g p i) (g p k)=true)∧(∀ i,l'≤i→i < k→lt (g p k) (g p i)=true)
 | 0,l,r,h1,h2,h3,a,b=> ⟨l,.ret l,by omega,a,fun i x y=> b i (by omega) y⟩
 | f+1,l,r,h1,h2,h3,a,b=> by
  unfold kas_place
  by_cases hlr:l ≥ r
  ·rw [if_pos hlr]
   exact ⟨l,.ret l,by omega,a,fun i x y=> b i (by omega) y⟩
  ·rw [if_neg hlr]
   have hm:(l+r) / 2 < k:=by omega
   by_cases hc:lt (g p k) (g p ((l+r) / 2))=true
   ·obtain ⟨l',r',x1,x2,x3⟩:=hV O P hk S f l ((l+r) / 2) (by omega) (by omega) (by omega) a fun i hi hik=> by
     rcases Nat.lt_or_eq_of_le hi with z | z
     ·exact O.tr _ _ _ hc (S _ _ z hik)
     ·rw [← z]; exact hc
    refine ⟨l',.ask (P.mem hk) (P.mem (by omega)) ?_,x1,x2,x3⟩
    rw [if_pos hc]; exact r'
   ·have hc':lt (g p k) (g p ((l+r) / 2))=false:=by simpa using hc
    have ht:=O.tot _ _ (P.mem hk) (P.mem (show (l+r) / 2 < n by omega)) (fun e=> by have:=P.inj hk (by omega) e; omega) hc'
    obtain ⟨l',r',x1,x2,x3⟩:=hV O P hk S f ((l+r) / 2+1) r (by omega) h2 (by omega) (fun i hi=> by
     rcases Nat.lt_or_eq_of_le (Nat.le_of_lt_succ hi) with z | z
     ·exact O.tr _ _ _ (S _ _ z hm) ht
     ·rw [z]; exact ht) b
    refine ⟨l',.ask (P.mem hk) (P.mem (by omega)) ?_,x1,x2,x3⟩
    rw [if_neg hc]; exact r'
theorem pO (O:LtO n lt):∀ (f k:Nat) (p:Array Nat),k+f=n→PP n p→Srt lt p k→∃ p',fD lt n (kas_bin f p k) p'∧PP n p'∧Srt lt p' n
 | 0,k,p,hf,P,S=> ⟨p,.ret p,P,by rw [← hf]; exact S⟩
 | f+1,k,p,hf,P,S=> by
  obtain ⟨l,rl,x1,x2,x3⟩:=hV O P (show k < n by omega) S k 0 k (Nat.zero_le _) (Nat.le_refl _) (by omega) (fun i h=> by omega) (fun i h h'=> by omega)
  have at_:∀ j,g (bubble p k (k - l)) j=if j=l then g p k else if l < j∧j≤k then g p (j - 1) else g p j:=fun j=> by
   have e:=getElem?_bubble (xs:=p) (src:=k) (by rw [P.size]; omega) (k - l) (by omega) j
   rw [show k - (k - l)=l by omega] at e
   split
   ·rename_i z; rw [if_pos z] at e; exact xj e
   ·rename_i z
    rw [if_neg z] at e
    split
    ·rename_i y; rw [if_pos y] at e; exact xj e
    ·rename_i y; rw [if_neg y] at e; exact xj e
  have e1:g (bubble p k (k - l)) l=g p k:=by rw [at_,if_pos rfl]
  have e2:∀ j,l < j→j≤k→g (bubble p k (k - l)) j=g p (j - 1):=fun j y z=> by rw [at_,if_neg (by omega),if_pos ⟨y,z⟩]
  have e3:∀ j,j < l→g (bubble p k (k - l)) j=g p j:=fun j y=> by rw [at_,if_neg (by omega),if_neg (by omega)]
  have S':Srt lt (bubble p k (k - l)) (k+1):=fun i j hij hj=> by
   rcases Nat.lt_trichotomy j l with y | y | y
   ·rw [e3 i (by omega),e3 j y]; exact S _ _ hij (by omega)
   ·rw [y,e1,e3 i (by omega)]; exact x2 i (by omega)
   ·rw [e2 j y (by omega)]
    rcases Nat.lt_trichotomy i l with z | z | z
    ·rw [e3 i z]; exact S _ _ (by omega) (by omega)
    ·rw [z,e1]; exact x3 (j - 1) (by omega) (by omega)
    ·rw [e2 i z (by omega)]; exact S _ _ (by omega) (by omega)
  obtain ⟨p',r',P',S''⟩:=pO O f (k+1) (bubble p k (k - l)) (by omega) (P.of (bubble_perm _ _ _)) S'
  exact ⟨p',rl.bind r',P',S''⟩
theorem vh (O:LtO n lt) (h2:2≤n):∃ p,fD lt n (kas_sort n) p∧PP n p∧Srt lt p n:=by
 obtain ⟨m,p,r,P,a1,a2,S⟩:=qU O (p:=List.toArray (List.range n)) ⟨by simp⟩ h2
 by_cases hm:m < n
 ·obtain ⟨p',r',P',S'⟩:=pO O (n - max m 1) (max m 1) p (by omega) P (by rw [show max m 1=m by omega]; exact S)
  exact ⟨p',r.bind (by rw [if_pos hm]; exact r'),P',S'⟩
 ·obtain rfl:m=n:=by omega
  exact ⟨p,r.bind (by rw [if_neg hm]; exact .ret _),P,S⟩
end ST
namespace ST
open PySem PySem.W PyProof.Rows
def ltP (a b:Int×Int):Bool:=decide (a.1 < b.1∨(a.1=b.1∧a.2 < b.2))
theorem ud {a b c:Int×Int} (h1:ltP a b=true) (h2:ltP b c=true):ltP a c=true:=by
 unfold ltP at *; simp at *; omega
theorem pP {a b:Int×Int} (h1:ltP a b=true):ltP b a=false:=by
 unfold ltP at *; simp at *; omega
theorem ltP_tot {a b:Int×Int} (h:a≠b) (h1:ltP a b=false):ltP b a=true:=by
 unfold ltP at *
 have:¬ (a.1=b.1∧a.2=b.2):=fun z=> h (Prod.ext z.1 z.2)
 simp at *; omega
section
variable {prog:Program} {w:World} {A:Around} {E:Value→Shared→Prop} {s:Shared}
theorem TK.two {h:Heap} {x y:Int} {b:Addr} (k:TK prog w h [x,y] b):∃ o its n t u,h.get? b=some o∧o.cls=.type "tuple"∧o.data=.seq its n∧its.toList=[.int x t,.int y u]:=by
 obtain ⟨o,its,n,ho,hc,hd,hi⟩:=k
 cases hi':its.toList with
 | nil=> rw [hi'] at hi; cases hi
 | cons v1 r=>
  rw [hi'] at hi
  cases hi with
  | cons h1 hr=>
   cases hr with
   | cons h2 hr2=>
    cases hr2
    obtain ⟨t,rfl⟩:=Value.isInt_shape h1
    obtain ⟨u,rfl⟩:=Value.isInt_shape h2
    exact ⟨o,its,n,t,u,ho,hc,hd,hi'⟩
theorem zg {x y:Addr} {a b:Int×Int} {Q:Bool→Shared→Prop} (hx:TK prog w s.heap [a.1,a.2] x) (hy:TK prog w s.heap [b.1,b.2] y) (h:Q (ltP a b) s):wpAny (model prog w) A (keyLt' (tuples' true) (.ref x) (.ref y)) Q E s:=by
 obtain ⟨o,its,n,t,u,ho,_,hd,hi⟩:=hx.two
 obtain ⟨o',its',n',t',u',ho',_,hd',hi'⟩:=hy.two
 refine kat_lt ho hd ho' hd' ?_
 rw [hi,hi']
 refine kat_cons ((intKind prog w).eqBool (a:=a.1) (b:=b.1) (intKind_is _ _ _ _) (intKind_is _ _ _ _) ?_)
 by_cases e1:a.1=b.1
 ·rw [decide_eq_true e1]
  refine kat_yes (kat_cons ((intKind prog w).eqBool (a:=a.2) (b:=b.2) (intKind_is _ _ _ _) (intKind_is _ _ _ _) ?_))
  by_cases e2:a.2=b.2
  ·rw [decide_eq_true e2]
   refine kat_yes (kat_nil ?_)
   have z:ltP a b=false:=by unfold ltP; simp; omega
   rw [z] at h
   have z2:decide (its.size < its'.size)=false:=by
    rw [← Array.length_toList,← Array.length_toList,hi,hi']; simp
   rw [z2]; exact h
  ·rw [decide_eq_false e2]
   refine kat_no (kat_one _ _ (lt_int ?_))
   have z:ltP a b=decide (a.2 < b.2):=by unfold ltP; rw [e1]; simp
   rw [z] at h
   exact h
 ·rw [decide_eq_false e1]
  refine kat_no (oneLt_int ?_)
  have z:ltP a b=decide (a.1 < b.1):=by unfold ltP; simp [e1]
  rw [z] at h
  exact h
abbrev PB:=List ((Int×Int)×Addr)
abbrev refs (pb:PB):List Value:=pb.map fun p=> Value.ref p.2
def dfl:(Int×Int)×Addr:=((0,0),0)
theorem oy (pb:PB):(List.range pb.length).map (fun i=> pb.getD i dfl)=pb:=by
 apply List.ext_getElem
 ·simp
 ·intro i h1 h2
  simp at h1
  simp [h1]
theorem tL {pb:PB} {Q:SortKind→Shared→Prop} (htk:∀ p∈pb,TK prog w s.heap [p.1.1,p.1.2] p.2) (h0:0 < pb.length) (h:Q (tuples' true) s):wpAny (model prog w) A (keyKind' (refs pb).toArray) Q E s:=by
 obtain ⟨fs,hf,hl,hi⟩:∃ fs,KatTups s.heap (refs pb) fs∧fs.length=pb.length∧∀ v∈fs,∃ n t,v=Value.int n t:=by
  clear h h0
  induction pb with
  | nil=> exact ⟨[],.nil,rfl,fun v hv=> by simp at hv⟩
  | cons p r ih=>
   obtain ⟨fs,hf,hl,hi⟩:=ih fun q hq=> htk q (List.mem_cons_of_mem _ hq)
   obtain ⟨o,its,n,t,u,ho,hc,hd,hit⟩:=(htk p List.mem_cons_self).two
   refine ⟨.int p.1.1 t::fs,.cons ho hc hd (by rw [← Array.getElem?_toList,hit]; rfl) hf,by simp [hl],fun v hv=> ?_⟩
   rcases List.mem_cons.mp hv with z | z
   ·exact ⟨_,_,z⟩
   ·exact hi v z
 refine kat_kind (T:=.type "int") hf (by omega) (fun v hv=> ?_) (by decide) h
 obtain ⟨n,t,rfl⟩:=hi v hv
 exact Looks.of_pure rfl
set_option maxHeartbeats 1000000 in
theorem mK {a:Addr} {pb:PB} {n:Nat} {P:PySem.Fin→Shared→Prop} (ho:s.heap.get? a=some (seqObj "list" (refs pb).toArray n)) (htk:∀ p∈pb,TK prog w s.heap [p.1.1,p.1.2] p.2) (hnd:(pb.map (·.1)).Nodup) (h64:pb.length < 64)
  (h:∀ pb':PB,pb'.Perm pb→(pb'.map (·.1)).Pairwise (fun x y=> ltP x y=true)→P (.done (.ret .none)) { s with heap:=sortedHeap s.heap a (refs pb) (refs pb').toArray }):
  wpAny (model prog w) A (Builtin.«list.sort» ⟨[.ref a],[]⟩) P E s:=by
 have hvl:(refs pb).length=pb.length:=by simp
 have hva:(refs pb).toArray.size=pb.length:=by simp
 rw [list_sort_plain]
 have ha:a < s.heap.objs.size:=Heap.lt_size ho
 refine wpAny_bind (listItems_at ho rfl (wpAny_bind (listUpdate_at ho rfl ?_ (by rw [hva,sizeLine_eq]; omega) (Nat.zero_le _))))
 obtain ⟨e1,ho1⟩:∃ e1,(s.heap.update a (Obj.mapSeq fun _=> (#[]:Array Value))).get? a=some (seqObj "list" #[] e1):=⟨_,get?_update_seq ho (fun _=> #[])⟩
 refine wpAny_bind (seqEpoch_at ho1 rfl (wpAny_bind (wpAny_newTuple ?_ (by show (refs pb).length≤_; rw [hvl,sizeLine_eq]; omega))))
 refine wpAny_bind (wpAny_newList ?_ (Nat.zero_le _))
 refine wpAny_holding ?_
 generalize hh6:((s.heap.update a (Obj.mapSeq fun _=> (#[]:Array Value))).push (seqObj "tuple" (refs pb).toArray 0)).push (seqObj "list" #[] 0)=h6
 have old6:∀ b o,b≠a→s.heap.get? b=some o→h6.get? b=some o:=fun b o hb e=> by
  rw [← hh6]
  exact Heap.get?_push_of_some _ (Heap.get?_push_of_some _ ((Heap.get?_update_other _ _ (Ne.symm hb)).trans e))
 have ho6:h6.get? a=some (seqObj "list" #[] e1):=by rw [← hh6]; exact Heap.get?_push_of_some _ (Heap.get?_push_of_some _ ho1)
 have tk6:∀ p∈pb,TK prog w h6 [p.1.1,p.1.2] p.2:=fun p hp=> by
  obtain ⟨o,its,k,hop,hc,r⟩:=htk p hp
  refine ⟨o,its,k,old6 p.2 o (fun z=> ?_) hop,hc,r⟩
  rw [z,ho] at hop
  cases hop
  exact absurd hc (by show ¬ (Value.type "list"=Value.type "tuple"); decide)
 have fin:∀ pb':PB,pb'.Perm pb→(pb'.map (·.1)).Pairwise (fun x y=> ltP x y=true)→P (.done (.ret .none)) { s with heap:=h6.update a (Obj.mapSeq fun _=> (refs pb').toArray) }:=fun pb' p1 p2=> by
  rw [← hh6]; exact h pb' p1 p2
 show wpAny (model prog w) A _ P E { s with heap:=h6 }
 dsimp only
 by_cases h2:(refs pb).toArray.size < 2
 ·rw [if_pos h2,if_pos h2]
  refine wpAny_bind (wpAny_pure ?_)
  rw [StateT.run_pure]
  refine wpAny_bind (wpAny_pure ?_)
  dsimp only
  have eout:(arrOf (SortSt.mk' general' ((refs pb).toArray.zip (refs pb).toArray) #[] 7 none)).map (·.2)=(refs pb).toArray:=by
   show (((refs pb).toArray.zip (refs pb).toArray)).map (·.2)=_
   apply Array.toList_inj.mp
   have zip2:∀ l:List Value,(l.zip l).map (·.2)=l:=fun l=> by
    induction l with
    | nil=> rfl
    | cons x r ih=> rw [List.zip_cons_cons,List.map_cons,ih]
   rw [Array.toList_map,Array.toList_zip]
   exact zip2 _
  rw [eout]
  refine wpAny_bind (seqEpoch_at ho6 rfl (wpAny_bind (listUpdate_at ho6 rfl ?_ (Nat.zero_le _) (by rw [hva,sizeLine_eq]; omega))))
  show wpAny _ _ (if (e1 !=e1)=true then _ else _) _ _ _
  rw [if_neg (by simp)]
  refine wpAny_pure (fin pb (List.Perm.refl _) ?_)
  match pb,hva,h2 with
  | [],_,_=> simp
  | [_],_,_=> simp
  | _::_::r,hva,h2=> rw [hva] at h2; exact absurd h2 (by simp)
 ·rw [if_neg h2,if_neg h2]
  rw [hva] at h2
  have h2':2≤(refs pb).length:=by rw [hvl]; omega
  refine wpAny_bind (tL (s:={ s with heap:=h6 }) tk6 (by omega) ?_)
  have inj:∀ i j,i < pb.length→j < pb.length→i≠j→(pb.getD i dfl).1≠(pb.getD j dfl).1:=fun i j hi hj hij e=> by
   refine hij ((List.getElem_inj (xs:=pb.map (·.1)) (h₀:=by simpa using hi) (h₁:=by simpa using hj) hnd).mp ?_)
   simpa [hi,hj] using e
  have O:LtO pb.length (fun i j=> ltP (pb.getD i dfl).1 (pb.getD j dfl).1):=⟨fun i j k=> ud,fun i j hi hj hij=> ltP_tot (inj i j hi hj hij),fun i j=> pP⟩
  obtain ⟨p,R,PP',S⟩:=vh O (by omega)
  have hcmp:∀ i j C,i < pb.length→j < pb.length→C (ltP (pb.getD i dfl).1 (pb.getD j dfl).1) { s with heap:=h6 }→kas_ask prog w A (tuples' true) (refs pb) i j C { s with heap:=h6 }:=fun i j C hi hj c=> by
   unfold kas_ask
   have ei:(refs pb).getD i Value.none=.ref (pb.getD i dfl).2:=by simp [hi]
   have ej:(refs pb).getD j Value.none=.ref (pb.getD j dfl).2:=by simp [hj]
   rw [ei,ej]
   have mi:pb.getD i dfl∈pb:=by simp [hi]
   have mj:pb.getD j dfl∈pb:=by simp [hj]
   exact zg (s:={ s with heap:=h6 }) (tk6 _ mi) (tk6 _ mj) c
  have tree:(kas_sort (refs pb).length).kasWp (kas_ask prog w A (tuples' true) (refs pb)) (fun p' s'=> p'=p∧s'={ s with heap:=h6 }) { s with heap:=h6 }:=by
   rw [hvl]
   exact R.wp hcmp ⟨rfl,rfl⟩
  refine wpAny_bind (wpAny_mono (kat_run (Q:=fun st' s'=> s'={ s with heap:=h6 }∧failedOf st'=none∧(arrOf st').map (·.2)=List.toArray (p.toList.map fun i=> (refs pb).getD i Value.none)) rfl h2' (by rw [hvl]; exact h64) (fun p' st' s' _ a2 a3 a4=> ?_) tree) ?_ fun _ _ e=> e)
  ·obtain ⟨rfl,rfl⟩:=a4
   exact ⟨rfl,a3,kat_snds rfl a2⟩
  ·rintro ⟨⟨⟩,st'⟩ s' ⟨rfl,hf,hout⟩
   dsimp only
   rw [hout]
   have hlt:∀ i∈p.toList,i < pb.length:=fun i hi=> List.mem_range.mp (PP'.perm.mem_iff.mp hi)
   have er:(p.toList.map fun i=> (refs pb).getD i Value.none)=refs (p.toList.map fun i=> pb.getD i dfl):=by
    unfold refs
    rw [List.map_map]
    refine List.map_congr_left fun i hi=> ?_
    have:=hlt i hi
    simp [this]
   rw [er]
   have hperm:(p.toList.map fun i=> pb.getD i dfl).Perm pb:=by
    refine (PP'.perm.map _).trans ?_
    rw [oy]
   have hs2:(refs (p.toList.map fun i=> pb.getD i dfl)).toArray.size=pb.length:=by simp [PP'.size]
   refine wpAny_bind (seqEpoch_at ho6 rfl (wpAny_bind (listUpdate_at ho6 rfl ?_ (Nat.zero_le _) (by rw [hs2,sizeLine_eq]; omega))))
   rw [hf]
   show wpAny _ _ (if (e1 !=e1)=true then _ else _) _ _ _
   rw [if_neg (by simp)]
   refine wpAny_pure (fin _ hperm ?_)
   rw [List.map_map,List.pairwise_map,List.pairwise_iff_getElem]
   intro i j hi hj hij
   have hj':j < pb.length:=by rw [Array.length_toList,PP'.size] at hj; exact hj
   have q:=S i j hij hj'
   have ei:g p i=p.toList[i]:=by simp [g,Array.getD,PP'.size,show i < pb.length by omega]
   have ej:g p j=p.toList[j]:=by simp [g,Array.getD,PP'.size,hj']
   rw [ei,ej] at q
   exact q
end
end ST
namespace ST
open PySem PySem.W PyProof.Rows PySem.Calls
theorem v8 {α β:Type} (f:α→β) {l m:List β} (h:l.Perm m):∀ kb:List α,m=kb.map f→∃ kb':List α,List.Perm kb' kb∧l=List.map f kb':=by
 induction h with
 | nil=> intro kb e; exact ⟨kb,.refl _,e⟩
 | @cons x l m _ ih=>
  intro kb e
  match kb,e with
  | [],e=> simp at e
  | k::kb,e=>
   rw [List.map_cons,List.cons.injEq] at e
   obtain ⟨kb',p,e'⟩:=ih kb e.2
   exact ⟨k::kb',p.cons k,by rw [List.map_cons,← e',e.1]⟩
 | swap x y l=>
  intro kb e
  match kb,e with
  | [],e=> simp at e
  | [_],e=> simp at e
  | k::k'::kb,e=>
   simp only [List.map_cons,List.cons.injEq] at e
   exact ⟨k'::k::kb,.swap k k' kb,by rw [List.map_cons,List.map_cons,← e.2.2,e.1,e.2.1]⟩
 | trans _ _ ih1 ih2=>
  intro kb e
  obtain ⟨kb2,p2,e2⟩:=ih2 kb e
  obtain ⟨kb1,p1,e1⟩:=ih1 kb2 e2
  exact ⟨kb1,p1.trans p2,e1⟩
def ptsOf (kb:List (List Int×Addr)):PB:=kb.map fun p=> ((p.1.getD 0 0,p.1.getD 1 0),p.2)
section
variable {prog:Program} {w:World} {A:Around} {E:Value→Shared→Prop} {s:Shared}
set_option maxHeartbeats 1000000 in
theorem call_sorted_set {S:Addr} {kb:List (List Int×Addr)} {Q:Value→Shared→Prop} (hh:A.handled=none) (P:SP prog w s.heap S kb) (h64:kb.length < 64) (h2:∀ p∈kb,p.1.length=2)
  (h:∀ (h1 h':Heap) (tk:Nat) (pb:PB) (e:Nat),List.Perm pb (ptsOf kb)→(pb.map (·.1)).Pairwise (fun x y=> ltP x y=true)→(∀ b o,s.heap.get? b=some o→h1.get? b=some o)→(∀ b o,h1.get? b=some o→h'.get? b=some o)→h'.get? h1.objs.size=some (seqObj "list" (refs pb).toArray e)→Q (.ref h1.objs.size) { s with heap:=h',toks:=tk }):
  wpAny (model prog w) A (call (.builtin "sorted") [.ref S]) Q E s:=by
 obtain ⟨⟨o,es,ep,t,ho,hex,hd,he,T,hl,hp,_,_⟩,hk,hnd⟩:=P
 have hsz:es.size=kb.length:=by rw [← Array.length_toList,he]; simp [fm]
 have O:SO prog w o es ep t (kb.map fun p=> hsh prog w p.1):=⟨hex,hd,T,by rw [List.length_map,hsz],hl,hp⟩
 have two:∀ p∈kb,p.1=[p.1.getD 0 0,p.1.getD 1 0]:=fun p hp'=> by
  have:=h2 p hp'
  match hq:p.1,this with
  | [x,y],_=> rfl
 refine call_function_entry kind_sorted plain_sorted entry_sorted (args_sorted1 _) ?_
 unfold Builtin.«sorted»
 refine wpAny_bind (m:=checkCount "sorted" 1 1 _) (wpAny_pure ?_)
 refine wpAny_bind (kdu_collect (A:=A.in1) (xq O) hh ho (by rw [hsz,sizeLine_eq]; omega) fun h' tk acc keep hacc=> ?_)
 have hal:acc.toList=ca w S es ep:=by
  apply List.ext_getElem?
  intro i
  rcases Nat.lt_or_ge i acc.size with z | z
  ·rw [Array.getElem?_toList,Array.getElem?_eq_getElem z]
   exact (hacc.2 i _ (Array.getElem?_eq_getElem z)).symm
  ·rw [List.getElem?_eq_none (by simpa using z),List.getElem?_eq_none]
   rw [(eS w S es ep).length_eq,List.length_map,Array.length_toList,← hacc.1]; exact z
 obtain ⟨kb1,pk,ek⟩:=v8 (fun (p:List Int×Addr)=> Value.ref p.2) (eS w S es ep) kb (by rw [he]; unfold fm; rw [List.map_map]; rfl)
 have hl1:acc.toList=refs (ptsOf kb1):=by
  rw [hal,ek]; unfold refs ptsOf; rw [List.map_map]; rfl
 have hlen1:(ptsOf kb1).length=kb.length:=by unfold ptsOf; rw [List.length_map,pk.length_eq]
 have hlenA:acc.toList.length=kb.length:=by rw [hl1]; simp [hlen1]
 refine wpAny_bind (wpAny_newList ?_ (by rw [hlenA,sizeLine_eq]; omega))
 have hD:(h'.push { cls:=.type "list",data:=.seq acc.toList.toArray }).get? h'.objs.size=some (seqObj "list" (refs (ptsOf kb1)).toArray 0):=by
  rw [← hl1]; exact Heap.get?_push_size _ rfl
 have tk1:∀ p∈ptsOf kb1,TK prog w (h'.push { cls:=.type "list",data:=.seq acc.toList.toArray }) [p.1.1,p.1.2] p.2:=fun p hp'=> by
  obtain ⟨q,hq,rfl⟩:=List.mem_map.mp hp'
  have hq':=pk.mem_iff.mp hq
  obtain ⟨oq,its,k,hoq,r⟩:=hk q hq'
  have e2:=two q hq'
  refine ⟨oq,its,k,Heap.get?_push_of_some _ (keep _ _ hoq),?_⟩
  rw [← e2]; exact r
 have nd1:((ptsOf kb1).map (·.1)).Nodup:=by
  have n1:(kb1.map (·.1)).Nodup:=((pk.map (·.1)).nodup_iff).mpr hnd
  unfold ptsOf
  rw [List.map_map]
  refine List.pairwise_map.mpr ((List.pairwise_map.mp n1).imp_of_mem fun {a b} ha hb hab=> ?_)
  intro z
  have ea:=two a (pk.mem_iff.mp ha)
  have eb:=two b (pk.mem_iff.mp hb)
  have z':(a.1.getD 0 0,a.1.getD 1 0)=(b.1.getD 0 0,b.1.getD 1 0):=z
  rw [Prod.mk.injEq] at z'
  rw [z'.1,z'.2] at ea
  exact hab (ea.trans eb.symm)
 refine wpAny_bind (wpAny_holding (wpAny_call_entry slot_list_sort ⟨_,hD,rfl⟩ entry_list_sort ?_ (args_list_sort _)))
 refine mK (s:={ s with heap:=h'.push { cls:=.type "list",data:=.seq acc.toList.toArray },toks:=tk }) hD tk1 nd1 (by omega) fun pb' pp so=> ⟨_,rfl,wpAny_pure ⟨_,rfl,?_⟩⟩
 obtain ⟨e,eD⟩:=sortedHeap_at (out:=(refs pb').toArray) hD
 refine h h' _ tk pb' e (pp.trans ?_) so keep (fun b x hb'=> ?_) eD
 ·unfold ptsOf; exact pk.map _
 ·have hlt:=Heap.lt_size hb'
  rw [sortedHeap_old (Nat.ne_of_lt hlt) (by rw [Heap.size_push]; exact Nat.lt_succ_of_lt hlt)]
  exact Heap.get?_push_of_some _ hb'
end
end ST
namespace ST
open PySem
def ins (x:Int×Int):List (Int×Int)→List (Int×Int)
 | []=> [x]
 | y::r=> if x=y then y::r else if ltP x y=true then x::y::r else y::ins x r
def srt (pts:List (Int×Int)):List (Int×Int):=pts.foldr ins []
theorem lR (x z:Int×Int):∀ l,z∈ins x l↔z=x∨z∈l
 | []=> by simp [ins]
 | y::r=> by
  unfold ins
  split
  ·rename_i h; subst h; simp
  ·split
   ·simp
   ·rw [List.mem_cons,lR x z r,List.mem_cons]
    constructor
    ·rintro (h | h | h)
     ·exact .inr (.inl h)
     ·exact .inl h
     ·exact .inr (.inr h)
    ·rintro (h | h | h)
     ·exact .inr (.inl h)
     ·exact .inl h
     ·exact .inr (.inr h)
abbrev Asc (l:List (Int×Int)):Prop:=l.Pairwise (fun x y=> ltP x y=true)
theorem qi (x:Int×Int):∀ l,Asc l→Asc (ins x l)
 | [],_=> by simp [ins]
 | y::r,h=> by
  unfold ins
  split
  ·exact h
  ·rename_i hne
   obtain ⟨h1,h2⟩:=List.pairwise_cons.mp h
   split
   ·rename_i hlt
    refine List.pairwise_cons.mpr ⟨fun z hz=> ?_,h⟩
    rcases List.mem_cons.mp hz with e | e
    ·rw [e]; exact hlt
    ·exact ud hlt (h1 z e)
   ·rename_i hlt
    refine List.pairwise_cons.mpr ⟨fun z hz=> ?_,qi x r h2⟩
    rcases (lR x z r).mp hz with e | e
    ·rw [e]; exact ltP_tot hne (by simpa using hlt)
    ·exact h1 z e
theorem srt_mem (z:Int×Int):∀ l,z∈srt l↔z∈l
 | []=> by simp [srt]
 | y::r=> by
  show z∈ins y (srt r)↔_
  rw [lR,srt_mem z r,List.mem_cons]
theorem srt_asc:∀ l,Asc (srt l)
 | []=> List.Pairwise.nil
 | y::r=> qi y (srt r) (srt_asc r)
theorem asc_irr {x:Int×Int}:ltP x x=false:=by unfold ltP; simp
theorem asc_one:∀ {l m:List (Int×Int)},Asc l→Asc m→(∀ z,z∈l↔z∈m)→l=m
 | [],[],_,_,_=> rfl
 | [],y::r,_,_,h=> by have:=(h y).mpr List.mem_cons_self; simp at this
 | x::l,[],_,_,h=> by have:=(h x).mp List.mem_cons_self; simp at this
 | x::l,y::m,hl,hm,h=> by
  obtain ⟨a1,a2⟩:=List.pairwise_cons.mp hl
  obtain ⟨b1,b2⟩:=List.pairwise_cons.mp hm
  have e:x=y:=by
   rcases List.mem_cons.mp ((h x).mp List.mem_cons_self) with z | z
   ·exact z
   ·rcases List.mem_cons.mp ((h y).mpr List.mem_cons_self) with z' | z'
    ·exact z'.symm
    ·have:=pP (b1 x z)
     rw [a1 y z'] at this; cases this
  subst e
  congr 1
  refine asc_one a2 b2 fun z=> ⟨fun hz=> ?_,fun hz=> ?_⟩
  ·rcases List.mem_cons.mp ((h z).mp (List.mem_cons_of_mem _ hz)) with e | e
   ·have:=a1 z hz; rw [e,asc_irr] at this; cases this
   ·exact e
  ·rcases List.mem_cons.mp ((h z).mpr (List.mem_cons_of_mem _ hz)) with e | e
   ·have:=b1 z hz; rw [e,asc_irr] at this; cases this
   ·exact e
theorem asc_srt {l:List (Int×Int)} (h:Asc l):srt l=l:=asc_one (srt_asc l) h fun z=> srt_mem z l
theorem pS (x:Int×Int):∀ l,(ins x l).length≤l.length+1
 | []=> by simp [ins]
 | y::r=> by
  have:=pS x r
  unfold ins
  split
  ·simp
  ·split
   ·simp
   ·simp only [List.length_cons]; omega
theorem srt_len:∀ l,(srt l).length≤l.length
 | []=> Nat.le_refl _
 | y::r=> by
  have h1:=pS y (srt r)
  have h2:=srt_len r
  show (ins y (srt r)).length≤_
  simp only [List.length_cons]; omega
end ST
namespace L2
open PySem PySem.Spec PyProof.Rows
theorem A2 {p:Nat→Addr→Prop} {n:Nat} (h:∀ i,i < n→∃ b,p i b):∃ f:Nat→Addr,∀ i,i < n→p i (f i):=by
 refine ⟨fun i=> if k:i < n then Classical.choose (h i k) else 0,fun i hi=> ?_⟩
 dsimp only
 rw [dif_pos hi]
 exact Classical.choose_spec (h i hi)
theorem tV:bootBuiltins "set"=some (.type "set"):=by decide+kernel
section
variable {X:Cx} {H0:Hp} {O0:List Addr} {ps:PSt} {e:Expr} {pts:List P2} {pos pos' p p':Pos}
set_option maxHeartbeats 2000000 in
theorem iq (hc:X.calm=true) (hu:X.A.units+10 < cLine) (hg:Gl X "sorted") (hm:X.mg "sorted"=none) (hgs:Gl X "set") (hms:X.mg "set"=none) (ha:Ev X H0 O0 ps e (lp pts)) (hl:pts.length < 64)
  (he:starEach [e] X.env=(false,eval e X.env)::starEach [] X.env:=by rfl):EvN X H0 O0 ps (.Call (.Name "sorted" p) [.Call (.Name "set" p') [e] [] pos'] [] pos) ((ST.srt pts).map pu):=by
 rintro pins s σ H Q I ⟨O,R,q⟩
 have hh:X.A.handled=none:=I.ok.hd hc
 refine wpAny_Call_Name_kw (cR I hg hm boot_sorted ?_)
 refine callWith_builtin1 (e:=.Call (.Name "set" p') [e] [] pos') (rest:=[]) ?_ rfl rfl
 show wpAny _ _ (spliced ((false,eval (.Call (.Name "set" p') [e] [] pos') X.env)::backTo pos (starEach [] X.env))) _ _ s
 refine Calls.spliced_cons ?_
 refine wpAny_Call_Name_kw (cR I hgs hms tV ?_)
 refine callWith_type1 (thn (dA ha fA he pos' pins s σ H (fun vs H1=> ∃ v,vs=[v]∧aJ H H1∧Rp X.K (hid H1 O) v (lp pts)) I ⟨O,R,fun v H1 s1 r1=> ⟨v,rfl,s1,r1⟩⟩) fun us s1 hx=> ?_) he rfl
 obtain ⟨vs,H1,I1,rv,v,rfl,sm,rp⟩:=hx
 obtain ⟨u,rfl,ru⟩:=fh rv
 cases rp with
 | @lst a ws _ hq hwl hwi=>
  cases ru
  obtain ⟨its,rw',pl,hz⟩:=I1.list (SqL.of (aw _ _ hq))
  have hlp:ws.length=pts.length:=by rw [hwl,List.length_map]
  have hil:its.length=pts.length:=by rw [← rw'.length,hlp]
  have item:∀ i,i < pts.length→∃ b,its[i]?=some (.ref b)∧Rp X.K (hid H1 O) (.ref b) (pu (pts.getD i (0,0)))∧ST.TK X.prog X.w s1.heap [(pts.getD i (0,0)).1,(pts.getD i (0,0)).2] b:=fun i hi=> by
   have hw:ws[i]?=some ws[i]:=List.getElem?_eq_getElem (by omega)
   have hp:(pts.map pu)[i]?=some (pu (pts.getD i (0,0))):=by rw [List.getElem?_map,List.getElem?_eq_getElem hi]; simp [hi]
   have r:=hwi i _ _ hw hp
   obtain ⟨u',e1,e2⟩:=rw'.get hw
   generalize ws[i]=z at *
   cases r with
   | @tup b zs _ hs hsl hsi=>
    cases e2
    refine ⟨b,e1,Rp.tup hs hsl hsi,?_⟩
    obtain ⟨jts,rj,ht,_⟩:=I1.tuple (by exact aw.tup hs)
    have z0:zs.length=2:=hsl
    match zs,z0,hsi,rj with
    | [z1,z2],_,hsi,rj=>
     have q1:=hsi 0 z1 _ rfl rfl
     have q2:=hsi 1 z2 _ rfl rfl
     cases q1
     cases q2
     obtain ⟨u1,u2,rfl,r1,r2⟩:=qa rj
     obtain ⟨t1,rfl⟩:=r1
     obtain ⟨t2,rfl⟩:=r2
     obtain ⟨o,ho,hoc,n,hod⟩:=ht
     exact ⟨o,_,n,ho,hoc,hod,.cons (intKind_is _ _ _ _) (.cons (intKind_is _ _ _ _) .nil)⟩
  obtain ⟨ad',adE⟩:=A2 item
  have hsz:its.toArray.size=pts.length:=by simp [hil]
  refine ST.call_set_pts (fun i=> ([(pts.getD i (0,0)).1,(pts.getD i (0,0)).2],ad' i)) hh (by show X.A.units+1+1+1 < cLine; omega) pl.isList (fun i z ez=> ?_) (fun i hi=> ?_) (by rw [hsz]; omega) fun h2 tk kb sp got keep=> ?_
  ·have hi:i < pts.length:=by have:=aG (show its[i]?=some z by simpa using ez); omega
   have:=(adE i hi).1
   rw [show its.toArray[i]?=its[i]? by simp,this] at ez
   cases ez; rfl
  ·exact (adE i (by rw [hsz] at hi; exact hi)).2.2
  ·rw [hsz] at got
   have I2:Inv X pins σ H1 { s1 with heap:=h2,toks:=tk }:=I1.kept (t':=tk) keep
   refine Calls.spliced_nil ?_
   have hkl:kb.length < 64:=by have:=got.len; omega
   refine ST.call_sorted_set (s:={ s1 with heap:=h2,toks:=tk }) hh sp hkl (fun z hz=> by obtain ⟨j,_,rfl⟩:=got.src z hz; rfl) fun h3 h4 tk2 pb ep pm so k1 k2 hD=> ?_
   have I3:Inv X pins σ H1 { s1 with heap:=h3,toks:=tk2 }:=I2.kept (t':=tk2) k1
   have src:∀ z∈pb,∃ j,j < pts.length∧z=(pts.getD j (0,0),ad' j):=fun z hz=> by
    obtain ⟨y,hy,rfl⟩:=List.mem_map.mp (pm.mem_iff.mp hz)
    obtain ⟨j,hj,rfl⟩:=got.src y hy
    exact ⟨j,hj,rfl⟩
   have epts:pb.map (·.1)=ST.srt pts:=by
    refine ST.asc_one so (ST.srt_asc pts) fun z=> ?_
    rw [ST.srt_mem]
    constructor
    ·intro hz
     obtain ⟨y,hy,rfl⟩:=List.mem_map.mp hz
     obtain ⟨j,hj,rfl⟩:=src y hy
     simp [hj]
    ·intro hz
     obtain ⟨j,hj⟩:=List.mem_iff_getElem?.mp hz
     have hjl:=aG hj
     have hk:=got.all j hjl
     obtain ⟨y,hy,ey⟩:=List.mem_map.mp hk
     have hin:((y.1.getD 0 0,y.1.getD 1 0),y.2)∈ST.ptsOf kb:=List.mem_map.mpr ⟨y,hy,rfl⟩
     have hin':=pm.mem_iff.mpr hin
     refine List.mem_map.mpr ⟨_,hin',?_⟩
     rw [ey]
     have:pts.getD j (0,0)=z:=by rw [List.getD_eq_getElem?_getD,hj]; rfl
     show ((pts.getD j (0,0)).1,(pts.getD j (0,0)).2)=z
     rw [this]
   have fr:H1 h3.objs.size=none:=I3.hok.fresh (Nat.le_refl _)
   refine ⟨.ref h3.objs.size,upd H1 h3.objs.size (.lst (pb.map fun z=> V.ref z.2)),?_,rfl,?_⟩
   ·refine I3.laid (t':=tk2) k2 (Nat.le_refl _) ⟨?_,(ST.refs pb),ep,?_,hD⟩
    ·rw [List.length_map,← List.length_map (f:=(·.1)),epts,sizeLine_eq]
     have:=ST.srt_len pts
     omega
    ·have all:∀ l:ST.PB,aL (l.map fun z=> V.ref z.2) (ST.refs l):=fun l=> by
      induction l with
      | nil=> exact .nil
      | cons z r ih=> exact .cons rfl ih
     exact all pb
   ·refine q _ _ _ (sm.trans (aW fr _)) (sm.free fr) aU ⟨?_,fun i z x e1 e2=> ?_⟩
    ·rw [List.length_map,← epts,List.length_map,List.length_map]
    ·rw [← epts,List.map_map,List.getElem?_map] at e2
     rw [List.getElem?_map] at e1
     cases hpi:pb[i]? with
     | none=> rw [hpi] at e1; cases e1
     | some y=>
      rw [hpi] at e1 e2
      cases e1
      cases e2
      obtain ⟨j,hj,rfl⟩:=src y (List.mem_of_getElem? hpi)
      exact (adE j hj).2.1.same (bP (aW fr _) fr)
end
end L2
namespace ST
open PySem
section
variable {prog:Program} {w:World} {A:Around} {s:Shared} {R:Result→Shared→Prop} {I:Addr} {fp wr:List Addr} {G:Array GenState→Array GenState→Prop} {n:Nat} {P:Nat→Value→Prop} {St:Nat→Shared→Prop} {T:String}
def uc (prog:Program) (w:World) (T:String):Prop:=∀ (A:Around) (E:Value→Shared→Prop) (s:Shared) (r:Addr) (Q:Bool→Shared→Prop),s.TypeIs (.ref r) T→(∀ b,Q b s)→wpAny (model prog w) A (Builtin.List.listLengthHint (.ref r)) Q E s
theorem sF (W:WalksS prog w A.in1 I fp wr G n P St) (hT:∀ i s,St i s→s.TypeIs (.ref I) T) (hl:(Value.type T==Value.type "list")=false) (ht:(Value.type T==Value.type "tuple")=false) (hint:uc prog w T) (S:Addr) (res:Value) (c₀:Nat) (hst:St 0 s) (hSf:S ∉ fp) (hI:I∈fp)
  (hS:s.heap.get? S=some { cls:=.type "list",data:=.seq #[] c₀ })
  (hR:∀ s' acc' c',Moved (S::wr) G s s'→s'.heap.get? S=some { cls:=.type "list",dict:=none,data:=.seq acc' c',slots:=#[] }→ItemsOf P acc' n→R (.ok (.ret res)) s') (hn:n≤sizeLine):
  wpAny (model prog w) A.in1 (Builtin.List.listExtendWith (.ref S) (.ref I) res)
   (fun fin s'=> match fin with | .done f=> R (.ok f) s' | .again c'=> c'.quiet=true∧codeAny (model prog w) A c' R s') (fun e s'=> R (.error e) s') s:=by
 have hSI:S≠I:=fun e=> hSf (e ▸ hI)
 unfold Builtin.List.listExtendWith
 refine wpAny_bind (wpAny_typeOf (hT 0 _ hst) ?_)
 have k1:Builtin.List.listSameRef (.ref S) (.ref I)=false:=by simp [Builtin.List.listSameRef,hSI]
 simp only [k1,hl,ht,Bool.or_false,Bool.false_eq_true,if_false]
 refine wpAny_bind (W.self 0 _ _ _ hst (wpAny_bind (wpAny_holding (hint _ _ _ _ _ (hT 0 _ hst) fun b=> ?_))))
 refine wpAny_ite_split (fun _=> ?_) (fun _=> ?_)
 ·refine wpAny_bind (wpAny_rule (wpAny_bind ?_))
  show wpAny _ A.in1 (updateSeq S (·.push .none) >>=fun _=> updateSeq S (·.pop)) _ _ _
  refine wpAny_bind (wpAny_updateSeq hS rfl ?_)
  have g2:=Heap.get?_update_self (Obj.mapSeq (·.push Value.none)) hS rfl
  refine wpAny_updateSeq (hz:=by seq_fits) g2 rfl ?_
  have g3:=Heap.get?_update_self (Obj.mapSeq (·.pop)) g2 rfl
  have oth:∀ b o,b≠S→s.heap.get? b=some o→((s.heap.update S (Obj.mapSeq (·.push Value.none))).update S (Obj.mapSeq (·.pop))).get? b=some o:=fun b o hb e=> (Heap.get?_update_other _ _ (Ne.symm hb)).trans ((Heap.get?_update_other _ _ (Ne.symm hb)).trans e)
  refine wpAny_pure ⟨plainId_quiet PySem.F.plain_extend_loop _,codeAny_extend_loopS W hn _ hSf _ n 0 _ _ _ rfl (Nat.zero_le _) (W.frame 0 s _ s.toks hst (Nat.le_refl _) fun b hb o e=> oth b o (fun z=> hSf (z ▸ hb)) e) g3 (ItemsOf.nil P) fun s' acc' c' m g' it=> ?_⟩
  exact hR s' acc' c' (Moved.trans W.gtrans ((Moved.refl W.grefl).then_heap (Nat.le_refl _) fun b o hb e=> oth b o (fun z=> hb (z ▸ List.mem_cons_self)) e) m) g' it
 ·exact wpAny_pure ⟨plainId_quiet PySem.F.plain_extend_loop _,codeAny_extend_loopS W hn _ hSf _ n 0 _ _ _ rfl (Nat.zero_le _) hst hS (ItemsOf.nil P) fun s' acc' c' m g' it=> hR s' acc' c' m g' it⟩
theorem xw (W:WalksS prog w A.in1 I fp wr G n P St) (hT:∀ i s,St i s→s.TypeIs (.ref I) T) (hl:(Value.type T==Value.type "list")=false) (ht:(Value.type T==Value.type "tuple")=false) (hint:uc prog w T) (S:Addr) (hst:St 0 s) (hSf:S ∉ fp) (hI:I∈fp)
  (hS:s.heap.get? S=some { cls:=.type "list",data:=.seq #[] })
  (hR:∀ s' acc' c',Moved (S::wr) G s s'→s'.heap.get? S=some { cls:=.type "list",dict:=none,data:=.seq acc' c',slots:=#[] }→ItemsOf P acc' n→R (.ok (.ret .none)) s') (hn:n≤sizeLine):
  wpAny (model prog w) A.in1 (Builtin.«list.__init__» ⟨[.ref S,.ref I],[]⟩)
   (fun fin s'=> match fin with | .done f=> R (.ok f) s' | .again c'=> c'.quiet=true∧codeAny (model prog w) A c' R s') (fun e s'=> R (.error e) s') s:=by
 show wpAny _ A.in1 (Builtin.List.listItems (.ref S) >>=fun old=> Builtin.List.listUpdate (.ref S) (fun _=> #[]) >>=fun _=> letGo old.toList.reverse >>=fun _=> Builtin.List.listExtendWith (.ref S) (.ref I) .none) _ _ s
 refine wpAny_bind ?_
 unfold Builtin.List.listItems
 refine wpAny_bind (wpAny_seqItems hS rfl (wpAny_pure ?_))
 show wpAny _ A.in1 (updateSeq S (fun _=> #[]) >>=fun _=> letGo (#[]:Array Value).toList.reverse >>=fun _=> Builtin.List.listExtendWith (.ref S) (.ref I) .none) _ _ s
 refine wpAny_bind (wpAny_updateSeq hS rfl ?_)
 have g2:=Heap.get?_update_self (Obj.mapSeq (fun _=> (#[]:Array Value))) hS rfl
 have oth:∀ b o,b≠S→s.heap.get? b=some o→(s.heap.update S (Obj.mapSeq (fun _=> (#[]:Array Value)))).get? b=some o:=fun b o hb e=> (Heap.get?_update_other _ _ (Ne.symm hb)).trans e
 refine wpAny_bind (wpAny_letGo ?_)
 refine sF W hT hl ht hint S .none _ (W.frame 0 s _ s.toks hst (Nat.le_refl _) fun b hb o e=> oth b o (fun z=> hSf (z ▸ hb)) e) hSf hI g2 (fun s' acc' c' m g' it=> ?_) hn
 exact hR s' acc' c' (Moved.trans W.gtrans ((Moved.refl W.grefl).then_heap (Nat.le_refl _) fun b o hb e=> oth b o (fun z=> hb (z ▸ List.mem_cons_self)) e) m) g' it
end
section
variable {prog:Program} {w:World} {A:Around} {E:Value→Shared→Prop} {s:Shared} {I:Addr} {fp wr:List Addr} {G:Array GenState→Array GenState→Prop} {n:Nat} {P:Nat→Value→Prop} {St:Nat→Shared→Prop} {T:String}
theorem call_list_it {Q:Value→Shared→Prop} (W:WalksS prog w A.in1.in1 I fp wr G n P St) (hT:∀ i s,St i s→s.TypeIs (.ref I) T) (hl:(Value.type T==Value.type "list")=false) (ht:(Value.type T==Value.type "tuple")=false) (hint:uc prog w T) (hst:St 0 s) (hfp:∀ b∈fp,b < s.heap.objs.size) (hI:I∈fp)
  (hQ:∀ s' acc' c',Moved (s.heap.objs.size::wr) G { s with heap:=s.heap.push { cls:=.type "list",data:=.seq #[] } } s'→
   s'.heap.get? s.heap.objs.size=some { cls:=.type "list",dict:=none,data:=.seq acc' c',slots:=#[] }→ItemsOf P acc' n→Q (.ref s.heap.objs.size) s') (hn:n≤sizeLine):
  wpAny (model prog w) A (call (.type "list") [.ref I]) Q E s:=by
 have hSf:s.heap.objs.size ∉ fp:=fun hm=> Nat.lt_irrefl _ (hfp _ hm)
 refine callType_codes (Q₁:=fun obj s₁=> obj=.ref s.heap.objs.size∧s₁={ s with heap:=s.heap.push { cls:=.type "list",data:=.seq #[] } }) PySem.F.called_list (PySem.F.typeCall_list_1 _) PySem.F.entry_list_init (code_list_new _ ⟨rfl,rfl⟩) fun obj s₁ h₁=> ?_
 obtain ⟨rfl,rfl⟩:=h₁
 have hS:(s.heap.push { cls:=.type "list",data:=.seq #[] }).get? s.heap.objs.size=some { cls:=.type "list",data:=.seq #[] }:=Heap.get?_push_size _ rfl
 refine ⟨⟨_,hS,rfl⟩,PySem.F.args_list_init_2 _ _,xw W hT hl ht hint _ (W.frame 0 s _ s.toks hst (Nat.le_refl _) fun b _ o e=> Heap.get?_push_of_some _ e) hSf hI hS (fun s' acc' c' m g' it=> ?_) hn⟩
 exact ⟨rfl,hQ s' acc' c' m g' it⟩
end
theorem v9:typeLookup (.type "list_reverseiterator") "__len__"=pure none:=by rw [typeLookup_type,builtinLookup_eq_fast]; kernel_rfl
theorem jX:Slot "list_reverseiterator" "__length_hint__" "list_reverseiterator.__length_hint__":=
 .of (owner:="list_reverseiterator") (n:="__length_hint__") (by rw [typeLookup_type,builtinLookup_eq_fast]; kernel_rfl) (by decide+kernel) (by decide+kernel) (by decide+kernel) (by first | exact .inl (by decide+kernel) | exact .inr (by decide+kernel)) (by rw [isSubtype_type]; kernel_rfl)
theorem hint_rev (prog:Program) (w:World):uc prog w "list_reverseiterator":=fun A E s r Q hT h=> by
 unfold Builtin.List.listLengthHint
 refine wpAny_bind (wpAny_specialOf hT v9 ?_)
 show wpAny _ A (specialOf (Value.ref r) (Str.ofString "__length_hint__") >>=_) _ _ _
 refine wpAny_bind (wpAny_specialOf hT jX.lookup ?_)
 generalize hid:("list_reverseiterator.__length_hint__":String)=id0
 wp_delta
 rw [show splitId id0=some ("list_reverseiterator","__length_hint__") from by subst hid; decide+kernel]
 subst hid
 refine wpAny_bind (wpAny_isInstance (T:="list_reverseiterator") (b:=true) hT (by rw [isSubtype_type]; kernel_rfl) ?_)
 refine wpAny_ite_split (fun z=> absurd z (by decide)) (fun _=> ?_)
 refine wpAny_ite_split (fun _=> ?_) (fun z=> absurd (by decide+kernel) z)
 refine wpAny_ite_split (fun z=> absurd z (by decide+kernel)) (fun _=> wpAny_pure (h _))
end ST
namespace L2
open PySem PySem.Spec PyProof.Rows
theorem j4:bootBuiltins "reversed"=some (.type "reversed"):=by decide+kernel
theorem aL.rev:∀ {xs:List V} {us:List Value},aL xs us→aL xs.reverse us.reverse:=fun {xs us} r=> by
 induction r with
 | nil=> exact .nil
 | @cons x u xs us r1 r2 ih=>
  rw [List.reverse_cons,List.reverse_cons]
  have app:∀ {a:List V} {b:List Value},aL a b→aL (a++[x]) (b++[u]):=fun {a b} q=> by
   induction q with
   | nil=> exact .cons r1 .nil
   | cons q1 _ ih'=> exact .cons q1 ih'
  exact app ih
theorem Rps.rev {K:PySem.W.Frag} {H:Hp} {vs:List V} {xs:List U} (r:Rps K H vs xs):Rps K H vs.reverse xs.reverse:=⟨by simp [r.len],fun i v x h1 h2=> by
 have hi:i < vs.length:=by have:=aG h1; simpa using this
 have hx:i < xs.length:=by rw [← r.len]; exact hi
 rw [List.getElem?_reverse hi] at h1
 rw [List.getElem?_reverse hx,← r.len] at h2
 exact r.at_ _ v x h1 h2⟩
section
variable {X:Cx} {H0:Hp} {O0:List Addr} {ps:PSt} {e k:Expr} {x:U} {xs:List U} {pos pos' p p' p2:Pos}
theorem wE {K:PySem.W.Frag} {H:Hp} {v:V} (rp:Rp K H v x) (hx:x=.lst xs∨x=.scr xs):∃ a vs,v=.ref a∧SqL K H a vs∧Rps K H vs xs:=by
 rcases hx with rfl | rfl
 ·cases rp with
  | lst hq hl hh=> exact ⟨_,_,rfl,SqL.of hq,hl,hh⟩
 ·cases rp with
  | scr hq hl hh=> exact ⟨_,_,rfl,hq,hl,hh⟩
theorem Ae (he:Ev X H0 O0 ps e x) (hk:Ev X H0 O0 ps k (.int (-1))) (hx:x=.lst xs∨x=.scr xs):EvN X H0 O0 ps (.Subscript e (.Slice none none (some k) p2) pos) xs.reverse:=by
 rintro pins s σ H Q I ⟨O,R,q⟩
 refine Subscript_ (thn (he pins s σ H (fun v H1=> aJ H H1∧Rp X.K (hid H1 O) v x) I ⟨O,R,fun v H1 s1 r1=> ⟨s1,r1⟩⟩) fun u s1 ⟨v,H1,I1,r1,sm,rp⟩=> ?_)
 obtain ⟨a,vs,rfl,hq,rs⟩:=wE rp hx
 cases r1
 refine wpAny_Slice ?_
 rw [evalPart_none]
 refine wpAny_pure (wpAny_pure ?_)
 rw [evalPart_some]
 refine thn (hk pins s1 σ H1 (fun v H2=> aJ H1 H2∧v=.int (-1)) I1 ⟨O,R.go sm,fun v H2 s2 r2=> ⟨s2,by cases r2; rfl⟩⟩) fun uk s2 hy=> ?_
 obtain ⟨vk,H2,I2,rk,s12,rfl⟩:=hy
 obtain ⟨t,rfl⟩:=rk
 have I3:Inv X pins σ H2 { s2 with heap:=s2.heap.push { cls:=.type "slice",data:=.fields #[.none,.none,.int (-1) t] } }:=I2.kept (t':=s2.toks) fun b ob z=> Heap.get?_push_of_some _ z
 obtain ⟨its,rv,pl,hz⟩:=I3.list (s12.seq (aw.seq hq))
 have hlen:=rv.length
 show wpAny (model X.prog X.w) X.A (subscriptTail e (.Slice none none (some k) p2) (.ref a) (.ref s2.heap.objs.size)) (EP X pins σ Q) X.xe { s2 with heap:=s2.heap.push { cls:=.type "slice",data:=.fields #[.none,.none,.int (-1) t] } }
 refine tail_any (ops:=[.ref a,.ref s2.heap.objs.size]) pl.isList.typeIs slot_list_getitem.lookup ?_ (by with_unfolding_all rfl)
 refine wpAny_getItem_list_slice pl.isList (Heap.IsSliceOf.new ..) .none .none (IsPart.int _ _) (by simp) ?_ (by rw [List.size_toArray]; omega)
 rw [PySem.W.krv_pick]
 generalize hn:(s2.heap.push { cls:=.type "slice",data:=.fields #[.none,.none,.int (-1) t] }).objs.size=D
 have fr:H2 D=none:=I3.hok.fresh (by rw [← hn]; exact Nat.le_refl _)
 refine ⟨.ref D,upd H2 D (.lst vs.reverse),I3.laid (t':=s2.toks) (o:=.lst vs.reverse) (fun b ob z=> Heap.get?_push_of_some _ z) (by rw [← hn]; exact Nat.le_refl _) ⟨by rw [List.length_reverse]; exact hz,its.reverse,0,rv.rev,?_⟩,rfl,?_⟩
 ·rw [← hn]; exact Heap.get?_push_size _ rfl
 ·refine q D _ _ ((sm.trans s12).trans (aW fr _)) ((sm.trans s12).free fr) aU ?_
  exact (rs.rev.same (bu s12)).same (bP (aW fr _) fr)
theorem sM (hc:X.calm=true) (hg:Gl X "list") (hm:X.mg "list"=none) (hgr:Gl X "reversed") (hmr:X.mg "reversed"=none) (ha:Ev X H0 O0 ps e (.lst xs))
  (he:starEach [e] X.env=(false,eval e X.env)::starEach [] X.env:=by rfl):EvN X H0 O0 ps (.Call (.Name "list" p) [.Call (.Name "reversed" p') [e] [] pos'] [] pos) xs.reverse:=by
 rintro pins s σ H Q I ⟨O,R,q⟩
 have hh:X.A.handled=none:=I.ok.hd hc
 refine wpAny_Call_Name_kw (cR I hg hm boot_list ?_)
 refine callWith_type1 (e:=.Call (.Name "reversed" p') [e] [] pos') (rest:=[]) ?_ cQ rfl
 rw [cQ]
 show wpAny _ _ (spliced ((false,eval (.Call (.Name "reversed" p') [e] [] pos') X.env)::backTo pos (starEach [] X.env))) _ _ s
 refine Calls.spliced_cons ?_
 refine wpAny_Call_Name_kw (cR I hgr hmr j4 ?_)
 refine callWith_type1 (thn (dA ha fA he pos' pins s σ H (fun vs H1=> ∃ v,vs=[v]∧aJ H H1∧Rp X.K (hid H1 O) v (.lst xs)) I ⟨O,R,fun v H1 s1 r1=> ⟨v,rfl,s1,r1⟩⟩) fun us s1 hx=> ?_) he rfl
 obtain ⟨vs,H1,I1,rv,v,rfl,sm,rp⟩:=hx
 obtain ⟨u,rfl,ru⟩:=fh rv
 obtain ⟨a,ws,rfl,hq,rs⟩:=wE rp (.inl rfl)
 cases ru
 obtain ⟨its,rw',pl,hz⟩:=I1.list (aw.seq hq)
 have hlen:=rw'.length
 have hsz:its.toArray.size=its.length:=by simp
 refine call_reversed_list pl.isList ?_
 have I2:Inv X pins σ H1 { s1 with heap:=s1.heap.push (revObj a ((its.toArray.size:Int) - 1)) }:=I1.kept (t':=s1.toks) fun b ob z=> Heap.get?_push_of_some _ z
 refine Calls.spliced_nil ?_
 have hal:a < s1.heap.objs.size:=by obtain ⟨o,ho,_⟩:=pl.isList; exact Heap.lt_size ho
 have W:=(Walks.listRev (prog:=X.prog) (w:=X.w) (A:=X.A.in1.in1) hh s1.heap.objs.size a (Nat.ne_of_lt hal) its.toArray).toS
 refine ST.call_list_it (T:="list_reverseiterator") (s:={ s1 with heap:=s1.heap.push (revObj a ((its.toArray.size:Int) - 1)) }) W (fun i s' st=> st.2.1.typeIs) (by decide) (by decide) (ST.hint_rev _ _) ⟨Nat.zero_le _,⟨_,Heap.get?_push_size _ rfl,rfl,by simp [revObj]⟩,pl.isList.push _⟩ (fun b hb=> ?_) (by simp) (fun s3 acc c m hD hit=> ?_) (by rw [hsz]; omega)
 ·show b < (s1.heap.push _).objs.size
  rw [Heap.size_push]
  simp at hb
  rcases hb with z | z
  ·rw [z]; exact Nat.lt_succ_self _
  ·rw [z]; exact Nat.lt_succ_of_lt hal
 ·obtain ⟨h3,g3,d3,tk3,os3⟩:=s3
  obtain rfl:g3=s1.gens:=m.gens
  obtain rfl:d3=s1.drawn:=m.drawn
  obtain rfl:os3=s1.os:=m.os
  have szI:(s1.heap.push (revObj a ((its.toArray.size:Int) - 1))).objs.size=s1.heap.objs.size+1:=Heap.size_push ..
  have keep:∀ b ob,s1.heap.get? b=some ob→h3.get? b=some ob:=fun b ob z=> by
   have hb:=Heap.lt_size z
   refine m.heap b ob (fun y=> ?_) (Heap.get?_push_of_some _ (Heap.get?_push_of_some _ z))
   rcases List.mem_cons.mp y with y | y
   ·rw [y] at hb
    have hb':s1.heap.objs.size+1 < s1.heap.objs.size:=by rw [← szI]; exact hb
    exact absurd hb' (by omega)
   ·rw [List.mem_singleton.mp y] at hb; exact Nat.lt_irrefl _ hb
  have hacc:acc.toList=its.reverse:=by
   apply List.ext_getElem?
   intro i
   rcases Nat.lt_or_ge i acc.size with z | z
   ·have y:=hit.2 i _ (Array.getElem?_eq_getElem z)
    have hi:i < its.length:=by rw [hit.1,hsz] at z; exact z
    rw [Array.getElem?_toList,Array.getElem?_eq_getElem z,List.getElem?_reverse hi,← y,hsz]
    simp
   ·have hi:its.length≤i:=by rw [hit.1,hsz] at z; exact z
    rw [List.getElem?_eq_none (by simpa using z),List.getElem?_eq_none (by simpa using hi)]
  generalize hn:(s1.heap.push (revObj a ((its.toArray.size:Int) - 1))).objs.size=D at *
  have fr:H1 D=none:=I2.hok.fresh (by rw [← hn]; exact Nat.le_refl _)
  have I3:Inv X pins σ (upd H1 D (.lst ws.reverse)) { s1 with heap:=h3,toks:=tk3 }:=I1.laid (t':=tk3) (o:=.lst ws.reverse) keep (by rw [szI]; exact Nat.le_succ _) ⟨by rw [List.length_reverse]; exact hz,its.reverse,c,rw'.rev,by rw [← hacc,Array.toArray_toList]; exact hD⟩
  refine ⟨.ref D,_,I3,rfl,q D _ _ (sm.trans (aW fr _)) (sm.free fr) aU ?_⟩
  exact rs.rev.same (bP (aW fr _) fr)
end
end L2
namespace L2
open PySem PySem.Spec PyProof.Rows
theorem SubP.trans:∀ {p q r:PSt},SubP p q→SubP q r→SubP p r
 | [],[],[],_,_=> trivial
 | none::p,none::q,_::r,h1,h2=> SubP.trans (p:=p) (q:=q) h1 h2
 | none::p,some _::q,_::r,h1,h2=> SubP.trans (p:=p) (q:=q) h1 h2.2
 | some _::p,some _::q,_::r,h1,h2=> ⟨h2.1.trans h1.1,SubP.trans (p:=p) (q:=q) h1.2 h2.2⟩
 | some _::p,none::q,_::r,h1,h2=> by cases h1.1
 | [],_::_,_,h1,_=> h1.elim
 | none::_,[],_,h1,_=> h1.elim
 | some _::_,[],_,h1,_=> h1.elim
 | [],[],_::_,_,h2=> h2.elim
 | _::_,none::_,[],_,h2=> h2.elim
 | _::_,some _::_,[],_,h2=> h2.elim
section
variable {X:Cx} {H0:Hp} {O0:List Addr} {ps:PSt} {xs:List U} {us:List U} {es:List Expr} {x:Str} {pc p' pos:Pos}
theorem gB (n:Nat) (h:ps[n]?=some (some (.own xs))) (hg:Gl X "len") (hm:X.mg "len"=none) (hN:X.N[n]?=some x:=by rfl) (hv:Vis X.env.scope x:=by first | exact Or.inl rfl | exact Or.inr (Or.inl rfl) | exact Or.inr (Or.inr rfl)) (hd:(x==("__debug__":Str))=false:=by decide)
  (hcd:(x==("__classdict__":Str))=false:=by decide) (hpl:(backTo pos (starEach [] X.env)).any (·.1)=false:=by rfl):Ev X H0 O0 ps (.Call (.Name "len" pc) [.Name x p'] [] pos) (.int xs.length):=zu n h hg hm hN hv hd hcd ag hpl
end
end L2
namespace ST
open PySem
abbrev iF (h:Heap) (z TI TO T:Addr) (b:Bool):Prop:=h.get? z=some { cls:=.type "zip",dict:=none,data:=.fields #[rawInt T,.bool b,.bool false,.ref TI,.ref TO],slots:=#[] }
section
variable {prog:Program} {w:World} {A:Around} {E:Value→Shared→Prop} {s:Shared}
theorem Ap {T:Addr} {o:Obj} {Q:Option Obj→Shared→Prop} (h:s.heap.get? T=some o) (q:Q (some o) s):wpAny (model prog w) A (loadIfAlive T) Q E s:=fun Γ p hΓ=> by
 unfold loadIfAlive
 rw [Sem.wp_loadIfAlive,h]
 simpa using q
theorem iA {z TI TO T:Addr} {b:Bool} {oT:Obj} {Q:Bool→Shared→Prop} (hz:iF s.heap z TI TO T b) (hT:s.heap.get? T=some oT) (h:∀ h',iF h' z TI TO T true→Heap.SameBut z s.heap h'→Q false { s with heap:=h' }):
  wpAny (model prog w) A (Builtin.SmallTypes.ownedTupleIsFree (.ref z)) Q E s:=by
 unfold Builtin.SmallTypes.ownedTupleIsFree
 refine wpAny_bind (wpAny_field hz rfl (x:=rawInt T) rfl ?_)
 dsimp only [rawInt]
 refine wpAny_bind (Ap (T:=(T:Int).toNat) (o:=oT) (by rw [Int.toNat_natCast]; exact hT) ?_)
 rw [if_neg (by simp)]
 refine wpAny_bind (wpAny_field hz rfl (x:=.bool b) rfl ?_)
 cases b with
 | true=>
  rw [if_neg (by decide)]
  exact wpAny_pure (h s.heap hz (Heap.SameBut.refl _ _))
 | false=>
  rw [if_pos (by decide)]
  refine wpAny_bind (wpAny_setField_rec hz (by simp) fun h₁ hz₁ hs₁=> wpAny_pure (h h₁ hz₁ hs₁))
theorem uY {z TI TO i1 i2 l1 l2 T:Addr} {b:Bool} {oT:Obj} {k1 k2:Nat} {xs ys:Array Value} {x y:Value} {Q:Value→Shared→Prop} (D:ZipApart z TI TO i1 i2 l1 l2)
  (hz:iF s.heap z TI TO T b) (hT:s.heap.get? T=some oT) (hTI:IsPair s.heap TI (.ref i1) (.ref i2))
  (h1:s.heap.IsListIter i1 l1 k1) (h2:s.heap.IsListIter i2 l2 k2) (hl1:s.heap.IsList l1 xs) (hl2:s.heap.IsList l2 ys) (hx:xs[k1]?=some x) (hy:ys[k2]?=some y)
  (hQ:∀ h',iF h' z TI TO T true→h'.IsListIter i1 l1 (k1+1)→h'.IsListIter i2 l2 (k2+1)→IsPair h' s.heap.objs.size x y→(∀ c o,c≠z→c≠i1→c≠i2→s.heap.get? c=some o→h'.get? c=some o)→Q (.ref s.heap.objs.size) { s with heap:=h' }):
  wpAny (model prog w) A (Builtin.«zip.__next__» ⟨[.ref z],[]⟩) (fun fin s'=> ∃ v,fin=.done (.ret v)∧Q v s') E s:=by
 show wpAny _ _ (field (.ref z) 2 >>=_) _ _ _
 refine wpAny_bind (wpAny_field hz rfl (x:=.bool false) rfl ?_)
 show wpAny _ _ (field (.ref z) 3 >>=_) _ _ _
 refine wpAny_bind (wpAny_field hz rfl (x:=.ref TI) rfl (wpAny_bind (wpAny_seqItems hTI rfl ?_)))
 show wpAny _ _ (Builtin.SmallTypes.ownedTupleIsFree (.ref z) >>=_) _ _ _
 refine wpAny_bind (iA hz hT fun ha za sa=> ?_)
 simp only [Bool.false_eq_true,if_false]
 refine wpAny_bind ?_
 rw [← Array.forIn_toList]
 show wpAny _ _ (forIn [Value.ref i1,Value.ref i2] _ _) _ _ _
 simp only [List.forIn_cons,List.forIn_nil]
 refine wpAny_bind (wpAny_bind (wpAny_holding ?_))
 show wpAny _ _ (Builtin.SmallTypes.nextOf (.ref i1) >>=_) _ _ _
 refine wpAny_bind (wpAny_nextOf_list_item (h1.extBut sa.extBut D.i1z) (hl1.extBut sa.extBut D.l1z) hx fun hb b1 sb=> wpAny_pure ?_)
 dsimp only
 refine wpAny_pure ?_
 dsimp only
 refine wpAny_bind (wpAny_bind (wpAny_holding ?_))
 show wpAny _ _ (Builtin.SmallTypes.nextOf (.ref i2) >>=_) _ _ _
 refine wpAny_bind (wpAny_nextOf_list_item ((h2.extBut sa.extBut D.i2z).extBut sb.extBut D.i12.symm) ((hl2.extBut sa.extBut D.l2z).extBut sb.extBut D.l2i1) hy fun hc c2 sc=> wpAny_pure ?_)
 dsimp only
 refine wpAny_pure (wpAny_pure ?_)
 dsimp only
 refine wpAny_bind (wpAny_newTuple ?_ (by show 2≤sizeLine; rw [sizeLine_eq]; omega))
 have hsz:hc.objs.size=s.heap.objs.size:=by rw [sc.1,sb.1,sa.1]
 have zc:iF hc z TI TO T true:=sc.extBut _ _ D.i2z.symm (sb.extBut _ _ D.i1z.symm za)
 refine wpAny_pure ⟨_,rfl,?_⟩
 show Q (.ref hc.objs.size) _
 rw [hsz]
 refine hQ _ (Heap.get?_push_of_some _ zc) (((b1.extBut sc.extBut D.i12)).at fun o e=> Heap.get?_push_of_some _ e) (c2.at fun o e=> Heap.get?_push_of_some _ e) ?_ fun c o n1 n2 n3 e=> Heap.get?_push_of_some _ (sc.extBut _ _ n3 (sb.extBut _ _ n2 (sa.extBut _ _ n1 e)))
 rw [← hsz]
 exact Heap.get?_push_size _ rfl
theorem lI {z TI TO i1 i2 l1 l2 T:Addr} {b:Bool} {oT:Obj} {k1:Nat} {xs:Array Value} {Q:PySem.Fin→Shared→Prop} (hh:A.handled=none) (D:ZipApart z TI TO i1 i2 l1 l2)
  (hz:iF s.heap z TI TO T b) (hT:s.heap.get? T=some oT) (hTI:IsPair s.heap TI (.ref i1) (.ref i2))
  (h1:s.heap.IsListIter i1 l1 k1) (hl1:s.heap.IsList l1 xs) (hx:xs[k1]?=none)
  (hE:∀ h' e,(∀ c o,c≠z→c≠i1→c≠i2→s.heap.get? c=some o→h'.get? c=some o)→(∃ o,h'.get? e=some o∧o.cls=.type "StopIteration")→E (.ref e) { s with heap:=h' }):
  wpAny (model prog w) A (Builtin.«zip.__next__» ⟨[.ref z],[]⟩) Q E s:=by
 show wpAny _ _ (field (.ref z) 2 >>=_) _ _ _
 refine wpAny_bind (wpAny_field hz rfl (x:=.bool false) rfl ?_)
 show wpAny _ _ (field (.ref z) 3 >>=_) _ _ _
 refine wpAny_bind (wpAny_field hz rfl (x:=.ref TI) rfl (wpAny_bind (wpAny_seqItems hTI rfl ?_)))
 show wpAny _ _ (Builtin.SmallTypes.ownedTupleIsFree (.ref z) >>=_) _ _ _
 refine wpAny_bind (iA hz hT fun ha za sa=> ?_)
 simp only [Bool.false_eq_true,if_false]
 refine wpAny_bind ?_
 rw [← Array.forIn_toList]
 show wpAny _ _ (forIn [Value.ref i1,Value.ref i2] _ _) _ _ _
 simp only [List.forIn_cons,List.forIn_nil]
 refine wpAny_bind (wpAny_bind (wpAny_holding ?_))
 show wpAny _ _ (Builtin.SmallTypes.nextOf (.ref i1) >>=_) _ _ _
 refine wpAny_bind (wpAny_nextOf_list_end hh (h1.extBut sa.extBut D.i1z) (hl1.extBut sa.extBut D.l1z) hx fun hb e sb he=> ?_)
 exact hE hb e (fun c o n1 n2 n3 q=> sb _ _ n2 (sa.extBut _ _ n1 q)) he
theorem rc {z TI TO i1 i2 l1 l2 T:Addr} {b:Bool} {oT:Obj} {k1 k2:Nat} {xs ys:Array Value} {x y:Value} {Q:Option Value→Shared→Prop} (D:ZipApart z TI TO i1 i2 l1 l2)
  (hz:iF s.heap z TI TO T b) (hT:s.heap.get? T=some oT) (hTI:IsPair s.heap TI (.ref i1) (.ref i2))
  (h1:s.heap.IsListIter i1 l1 k1) (h2:s.heap.IsListIter i2 l2 k2) (hl1:s.heap.IsList l1 xs) (hl2:s.heap.IsList l2 ys) (hx:xs[k1]?=some x) (hy:ys[k2]?=some y)
  (hQ:∀ h',iF h' z TI TO T true→h'.IsListIter i1 l1 (k1+1)→h'.IsListIter i2 l2 (k2+1)→IsPair h' s.heap.objs.size x y→(∀ c o,c≠z→c≠i1→c≠i2→s.heap.get? c=some o→h'.get? c=some o)→Q (some (.ref s.heap.objs.size)) { s with heap:=h' }):
  wpAny (model prog w) A (pyNext (.ref z)) Q E s:=by
 have hty:s.TypeIs (.ref z) "zip":=⟨_,hz,rfl⟩
 unfold pyNext
 exact wpAny_bind (wpAny_attempt (wpAny_callSpecial?_slot (name:=Str.ofString "__next__") hty PySem.F.slot_zip_next
  (wpAny_call_entry PySem.F.slot_zip_next hty PySem.F.entry_zip_next (uY D hz hT hTI h1 h2 hl1 hl2 hx hy fun h' a1 a2 a3 a4 a5=> wpAny_pure (hQ h' a1 a2 a3 a4 a5)) (PySem.F.args_zip_next_1 _))))
theorem jW {z TI TO i1 i2 l1 l2 T:Addr} {b:Bool} {oT:Obj} {k1:Nat} {xs:Array Value} {Q:Option Value→Shared→Prop} (hh:A.handled=none) (D:ZipApart z TI TO i1 i2 l1 l2)
  (hz:iF s.heap z TI TO T b) (hT:s.heap.get? T=some oT) (hTI:IsPair s.heap TI (.ref i1) (.ref i2)) (h1:s.heap.IsListIter i1 l1 k1) (hl1:s.heap.IsList l1 xs) (hx:xs[k1]?=none)
  (hQ:∀ h',(∀ c o,c≠z→c≠i1→c≠i2→s.heap.get? c=some o→h'.get? c=some o)→Q none { s with heap:=h' }):wpAny (model prog w) A (pyNext (.ref z)) Q E s:=by
 have hty:s.TypeIs (.ref z) "zip":=⟨_,hz,rfl⟩
 unfold pyNext
 refine wpAny_bind (wpAny_attempt (wpAny_callSpecial?_slot (name:=Str.ofString "__next__") hty PySem.F.slot_zip_next
  (wpAny_call_entry PySem.F.slot_zip_next hty PySem.F.entry_zip_next (lI hh D hz hT hTI h1 hl1 hx fun h' e hk he=> ?_) (PySem.F.args_zip_next_1 _))))
 obtain ⟨o,ho,hc⟩:=he
 refine wpAny_bind (wpAny_isInstance (T:="StopIteration") (b:=true) ⟨o,ho,hc⟩ isSubtype_stop ?_)
 exact wpAny_pure (hQ h' hk)
end
structure ZL (xs ys:Array Value) (z TI TO i1 i2 l1 l2 S:Addr) (h:Heap) (i:Nat) (ad:List Addr) (c:Nat):Prop where
 ti:IsPair h TI (.ref i1) (.ref i2)
 a1:h.IsListIter i1 l1 i
 a2:h.IsListIter i2 l2 i
 b1:h.IsList l1 xs
 b2:h.IsList l2 ys
 acc:h.get? S=some { cls:=.type "list",dict:=none,data:=.seq (ad.map Value.ref).toArray c,slots:=#[] }
 len:ad.length=i
 tup:∀ (j:Nat) (a:Addr),ad[j]?=some a→∃ x y,xs[j]?=some x∧ys[j]?=some y∧IsPair h a x y
 far:∀ a∈ad,a≠z∧a≠TO∧a≠i1∧a≠i2∧a≠S
 to:∃ o,h.get? TO=some o
 nd:ad.Nodup
 zz:(i=0∧IsZip h z TI TO .none∧∃ a b,IsPair h TO a b)∨(∃ b T,ad[0]?=some T∧iF h z TI TO T b)
section
variable {prog:Program} {w:World} {A:Around} {R:Result→Shared→Prop}
theorem ZL.put {xs ys:Array Value} {z TI TO i1 i2 l1 l2 S:Addr} {h h':Heap} {i:Nat} {ad:List Addr} {c:Nat} {a:Addr} {x y:Value} (Z:ZL xs ys z TI TO i1 i2 l1 l2 S h i ad c) (D:ZipApart z TI TO i1 i2 l1 l2)
  (hS:S≠z∧S≠TI∧S≠TO∧S≠i1∧S≠i2∧S≠l1∧S≠l2) (ha:a=h.objs.size) (hzlt:z < h.objs.size) (nto:∃ o,h'.get? TO=some o) (hx:xs[i]?=some x) (hy:ys[i]?=some y)
  (n1:h'.IsListIter i1 l1 (i+1)) (n2:h'.IsListIter i2 l2 (i+1)) (np:IsPair h' a x y) (nk:∀ c o,c≠z→c≠TO→c≠i1→c≠i2→h.get? c=some o→h'.get? c=some o)
  (nz:∃ b T,(ad++[a])[0]?=some T∧iF h' z TI TO T b):
  ∃ c',ZL xs ys z TI TO i1 i2 l1 l2 S (h'.update S (Obj.mapSeq (·.push (.ref a)))) (i+1) (ad++[a]) c':=by
 obtain ⟨s1,s2,s3,s4,s5,s6,s7⟩:=hS
 have gS:h'.get? S=some { cls:=.type "list",dict:=none,data:=.seq (ad.map Value.ref).toArray c,slots:=#[] }:=nk S _ s1 s3 s4 s5 Z.acc
 have oth:∀ b o,b≠S→h'.get? b=some o→(h'.update S (Obj.mapSeq (·.push (.ref a)))).get? b=some o:=fun b o hb e=> (Heap.get?_update_other _ _ (Ne.symm hb)).trans e
 have hlt:∀ b o,h.get? b=some o→b≠a:=fun b o e z=> by rw [z,ha] at e; exact Nat.lt_irrefl _ (Heap.lt_size e)
 have aS:a≠S:=fun e=> hlt S _ Z.acc e.symm
 have ai1:a≠i1:=by obtain ⟨o,e,_⟩:=Z.a1; exact fun q=> hlt i1 o e q.symm
 have ai2:a≠i2:=by obtain ⟨o,e,_⟩:=Z.a2; exact fun q=> hlt i2 o e q.symm
 have az:a≠z:=by rw [ha]; exact Nat.ne_of_gt hzlt
 have aTO:a≠TO:=by obtain ⟨o,e⟩:=Z.to; exact fun q=> hlt TO o e q.symm
 obtain ⟨c',gS'⟩:∃ c',(h'.update S (Obj.mapSeq (·.push (.ref a)))).get? S=some { cls:=.type "list",dict:=none,data:=.seq ((ad.map Value.ref).toArray.push (.ref a)) c',slots:=#[] }:=⟨_,PyProof.Rows.get?_update_seq gS (·.push (.ref a))⟩
 refine ⟨c',⟨oth _ _ s2.symm (nk TI _ D.TIz D.TITO D.TIi1 D.TIi2 Z.ti),n1.at fun o e=> oth _ o s4.symm e,n2.at fun o e=> oth _ o s5.symm e,?_,?_,?_,by rw [List.length_append,Z.len]; rfl,?_,?_,?_,?_,?_⟩⟩
 ·exact (Z.b1.at fun o e=> nk l1 o D.l1z D.l1TO D.l1i1 D.l1i2 e).at fun o e=> oth _ o s6.symm e
 ·exact (Z.b2.at fun o e=> nk l2 o D.l2z D.l2TO D.l2i1 D.l2i2 e).at fun o e=> oth _ o s7.symm e
 ·rw [gS']; simp
 ·intro j b hj
  rcases Nat.lt_or_ge j ad.length with q | q
  ·rw [List.getElem?_append_left q] at hj
   obtain ⟨x',y',e1,e2,e3⟩:=Z.tup j b hj
   obtain ⟨f1,f2,f3,f4,f5⟩:=Z.far b (List.mem_of_getElem? hj)
   exact ⟨x',y',e1,e2,oth _ _ f5 (nk b _ f1 f2 f3 f4 e3)⟩
  ·rw [List.getElem?_append_right q] at hj
   have hj0:j=i:=by
    have:=(List.getElem?_eq_some_iff.mp hj).1
    simp at this; rw [Z.len] at *; omega
   subst hj0
   rw [Z.len,Nat.sub_self] at hj
   cases hj
   exact ⟨x,y,hx,hy,oth _ _ aS np⟩
 ·intro b hb
  rcases List.mem_append.mp hb with q | q
  ·exact Z.far b q
  ·rw [List.mem_singleton.mp q]; exact ⟨az,aTO,ai1,ai2,aS⟩
 ·obtain ⟨o,e⟩:=nto; exact ⟨o,oth _ _ s3.symm e⟩
 ·rw [List.nodup_append]
  refine ⟨Z.nd,by simp,fun p hp q hq=> ?_⟩
  rw [List.mem_singleton.mp hq]
  obtain ⟨j,hj⟩:=List.mem_iff_getElem?.mp hp
  obtain ⟨_,_,_,_,e⟩:=Z.tup j p hj
  exact hlt p _ e
 ·obtain ⟨b,T,e1,e2⟩:=nz
  exact .inr ⟨b,T,e1,oth _ _ s1.symm e2⟩
end
end ST
namespace ST
open PySem
section
variable {prog:Program} {w:World} {A:Around} {R:Result→Shared→Prop}
structure ZF (xs ys:Array Value) (S:Addr) (h:Heap) (ad:List Addr) (c:Nat):Prop where
 acc:h.get? S=some { cls:=.type "list",dict:=none,data:=.seq (ad.map Value.ref).toArray c,slots:=#[] }
 len:ad.length=xs.size
 tup:∀ (j:Nat) (a:Addr),ad[j]?=some a→∃ x y,xs[j]?=some x∧ys[j]?=some y∧IsPair h a x y
 ne:∀ a∈ad,a≠S
 nd:ad.Nodup
set_option maxHeartbeats 1000000 in
theorem mt (hh:A.in1.handled=none) {xs ys:Array Value} {z TI TO i1 i2 l1 l2 S:Addr} (D:ZipApart z TI TO i1 i2 l1 l2) (hS:S≠z∧S≠TI∧S≠TO∧S≠i1∧S≠i2∧S≠l1∧S≠l2) (hxy:ys.size=xs.size) (hn:xs.size≤1000) (res:Value):
  ∀ (k i:Nat) (s:Shared) (ad:List Addr) (c:Nat),xs.size - i=k→i≤xs.size→ZL xs ys z TI TO i1 i2 l1 l2 S s.heap i ad c→
   (∀ h' ad' c',ZF xs ys S h' ad' c'→(∀ b o,b≠z→b≠TO→b≠i1→b≠i2→b≠S→s.heap.get? b=some o→h'.get? b=some o)→(∀ a∈ad',a∈ad∨s.heap.get? a=none)→R (.ok (.ret res)) { s with heap:=h' })→
   codeAny (model prog w) A (.builtin "list.extend.loop" ⟨[.ref S,.ref z,res],[]⟩) R s:=by
 intro k
 induction k with
 | zero=>
  intro i s ad c hk hi Z hR
  obtain rfl:i=xs.size:=by omega
  refine codeAny_builtin PySem.F.entry_extend_loop ?_
  rw [Around.under_plainId PySem.F.plain_extend_loop _]
  show wpAny _ A.in1 (pyNext (.ref z) >>=_) _ _ s
  have fin:∀ h',(∀ b o,b≠z→b≠TO→b≠i1→b≠i2→s.heap.get? b=some o→h'.get? b=some o)→R (.ok (.ret res)) { s with heap:=h' }:=fun h' kp=>
   hR h' ad c ⟨kp S _ hS.1 hS.2.2.1 hS.2.2.2.1 hS.2.2.2.2.1 Z.acc,Z.len,fun j a e=> by
    obtain ⟨x,y,e1,e2,e3⟩:=Z.tup j a e
    obtain ⟨f1,f2,f3,f4,f5⟩:=Z.far a (List.mem_of_getElem? e)
    exact ⟨x,y,e1,e2,kp a _ f1 f2 f3 f4 e3⟩,fun a ha=> (Z.far a ha).2.2.2.2,Z.nd⟩ (fun b o n1 n2 n3 n4 _ e=> kp b o n1 n2 n3 n4 e) fun a ha=> .inl ha
  rcases Z.zz with ⟨h0,hz,a,b,hTO⟩ | ⟨b,T,hT,hz⟩
  ·refine wpAny_bind (wpAny_pyNext_zip_end hh D hz Z.ti hTO Z.a1 Z.a2 Z.b1 Z.b2 (.inl (by simp)) fun h' kp=> ?_)
   exact wpAny_pure (fin h' kp)
  ·obtain ⟨x,y,_,_,hp⟩:=Z.tup 0 T hT
   refine wpAny_bind (jW hh D hz hp Z.ti Z.a1 Z.b1 (by simp) fun h' kp=> ?_)
   exact wpAny_pure (fin h' fun b o n1 _ n3 n4 e=> kp b o n1 n3 n4 e)
 | succ k ih=>
  intro i s ad c hk hi Z hR
  have hlt:i < xs.size:=by omega
  have hx:xs[i]?=some xs[i]:=Array.getElem?_eq_getElem hlt
  have hy:ys[i]?=some (ys[i]'(by omega)):=Array.getElem?_eq_getElem (by omega)
  refine codeAny_builtin PySem.F.entry_extend_loop ?_
  rw [Around.under_plainId PySem.F.plain_extend_loop _]
  show wpAny _ A.in1 (pyNext (.ref z) >>=_) _ _ s
  have go:∀ h',(∃ b T,(ad++[s.heap.objs.size])[0]?=some T∧iF h' z TI TO T b)→(∃ o,h'.get? TO=some o)→h'.IsListIter i1 l1 (i+1)→h'.IsListIter i2 l2 (i+1)→IsPair h' s.heap.objs.size xs[i] (ys[i]'(by omega))→
    (∀ b o,b≠z→b≠TO→b≠i1→b≠i2→s.heap.get? b=some o→h'.get? b=some o)→
    wpAny (model prog w) A.in1 (updateSeq S (·.push (.ref s.heap.objs.size)) >>=fun _=> again (.builtin "list.extend.loop" ⟨[.ref S,.ref z,res],[]⟩))
     (fun fin s'=> match fin with | .done f=> R (.ok f) s' | .again c'=> c'.quiet=true∧codeAny (model prog w) A c' R s') (fun e s'=> R (.error e) s') { s with heap:=h' }:=fun h' nz nto n1 n2 np nk=> by
   have gS:h'.get? S=some { cls:=.type "list",dict:=none,data:=.seq (ad.map Value.ref).toArray c,slots:=#[] }:=nk S _ hS.1 hS.2.2.1 hS.2.2.2.1 hS.2.2.2.2.1 Z.acc
   have hzlt:z < s.heap.objs.size:=by
    rcases Z.zz with ⟨_,hz,_⟩ | ⟨_,_,_,hz⟩ <;> exact Heap.lt_size hz
   obtain ⟨c',Z'⟩:=Z.put D hS rfl hzlt nto hx hy n1 n2 np nk nz
   have hal:((ad.map Value.ref).toArray).size=i:=by simp [Z.len]
   refine wpAny_bind (wpAny_updateSeq (s:={ s with heap:=h' }) gS rfl (wpAny_pure ⟨plainId_quiet PySem.F.plain_extend_loop _,ih (i+1) _ (ad++[s.heap.objs.size]) c' (by omega) hlt Z' fun h2 ad2 c2 F kp fr=> ?_⟩) (by rw [hal,sizeLine_eq]; omega) (by rw [Array.size_push,hal,sizeLine_eq]; omega))
   refine hR h2 ad2 c2 F (fun b o m1 m2 m3 m4 m5 e=> kp b o m1 m2 m3 m4 m5 ((Heap.get?_update_other _ _ (Ne.symm m5)).trans (nk b o m1 m2 m3 m4 e))) fun a ha=> ?_
   rcases fr a ha with q | q
   ·rcases List.mem_append.mp q with q | q
    ·exact .inl q
    ·right; rw [List.mem_singleton.mp q]; exact Heap.get?_none_of_le (Nat.le_refl _)
   ·right
    cases hq:s.heap.get? a with
    | none=> rfl
    | some o=>
     exfalso
     by_cases e1:a=S
     ·subst e1; exact F.ne a ha rfl
     ·have q':h'.get? a=none:=by
       have:=q
       rw [Heap.get?_update_other _ _ (Ne.symm e1)] at this
       exact this
      by_cases f1:a=z
      ·obtain ⟨_,_,_,e⟩:=nz; rw [f1,e] at q'; cases q'
      ·by_cases f2:a=TO
       ·obtain ⟨o',e⟩:=nto; rw [f2,e] at q'; cases q'
       ·by_cases f3:a=i1
        ·obtain ⟨o',e,_⟩:=n1; rw [f3,e] at q'; cases q'
        ·by_cases f4:a=i2
         ·obtain ⟨o',e,_⟩:=n2; rw [f4,e] at q'; cases q'
         ·rw [nk a o f1 f2 f3 f4 hq] at q'; cases q'
  rcases Z.zz with ⟨h0,hz,a,b,hTO⟩ | ⟨b,T,hT,hz⟩
  ·subst h0
   have had:ad=[]:=List.length_eq_zero_iff.mp Z.len
   refine wpAny_bind (wpAny_pyNext_zip_item D hz Z.ti hTO Z.a1 Z.a2 Z.b1 Z.b2 hx hy fun h' m1 m2 m3 m4 m5 _ kp=> ?_)
   exact go h' ⟨false,_,by rw [had]; rfl,m1⟩ ⟨_,m2⟩ m3 m4 m5 kp
  ·obtain ⟨x,y,_,_,hp⟩:=Z.tup 0 T hT
   refine wpAny_bind (rc D hz hp Z.ti Z.a1 Z.a2 Z.b1 Z.b2 hx hy fun h' m1 m3 m4 m5 kp=> ?_)
   refine go h' ⟨true,T,?_,m1⟩ ?_ m3 m4 m5 fun b o n1 _ n3 n4 e=> kp b o n1 n3 n4 e
   ·rw [List.getElem?_append_left (List.getElem?_eq_some_iff.mp hT).1]; exact hT
   ·obtain ⟨o,e⟩:=Z.to; exact ⟨o,kp TO o D.TOz D.TOi1 D.TOi2 e⟩
end
end ST
namespace ST
open PySem
theorem xC:typeLookup (.type "zip") "__len__"=pure none:=by rw [typeLookup_type,builtinLookup_eq_fast]; kernel_rfl
theorem v4:typeLookup (.type "zip") "__length_hint__"=pure none:=by rw [typeLookup_type,builtinLookup_eq_fast]; kernel_rfl
theorem u7 (prog:Program) (w:World):uc prog w "zip":=fun A E s r Q hT h=> by
 unfold Builtin.List.listLengthHint
 refine wpAny_bind (wpAny_specialOf hT xC ?_)
 show wpAny _ A (specialOf (Value.ref r) (Str.ofString "__length_hint__") >>=_) _ _ _
 refine wpAny_bind (wpAny_specialOf hT v4 ?_)
 exact wpAny_pure (h _)
section
variable {prog:Program} {w:World} {A:Around} {E:Value→Shared→Prop} {s:Shared}
theorem vF {z TI TO:Addr} {f:Value} {Q:Value→Shared→Prop} (hz:IsZip s.heap z TI TO f) (h:Q (.ref z) s):wpAny (model prog w) A (pyIter (.ref z)) Q E s:=by
 have hT:s.TypeIs (.ref z) "zip":=⟨_,hz,rfl⟩
 refine wpAny_pyIter_slot hT PySem.F.slot_zip_iter (wpAny_call_entry PySem.F.slot_zip_iter hT PySem.F.entry_zip_iter ?_ (PySem.F.args_zip_iter_1 _))
 exact wpAny_pure ⟨_,rfl,"zip",_,hT,PySem.F.slot_zip_next.lookup,h⟩
end
section
variable {prog:Program} {w:World} {A:Around} {R:Result→Shared→Prop} {s:Shared}
theorem oU (hh:A.in1.handled=none) {xs ys:Array Value} {z TI TO i1 i2 l1 l2 S:Addr} (D:ZipApart z TI TO i1 i2 l1 l2) (hS:S≠z∧S≠TI∧S≠TO∧S≠i1∧S≠i2∧S≠l1∧S≠l2) (hxy:ys.size=xs.size) (hn:xs.size≤1000) (res:Value) {c₀:Nat}
  (hz:IsZip s.heap z TI TO .none) (Z:∀ h',(∀ b o,b≠S→s.heap.get? b=some o→h'.get? b=some o)→∀ c,h'.get? S=some { cls:=.type "list",dict:=none,data:=.seq #[] c,slots:=#[] }→ZL xs ys z TI TO i1 i2 l1 l2 S h' 0 [] c)
  (gS:s.heap.get? S=some { cls:=.type "list",data:=.seq #[] c₀ })
  (hR:∀ h' ad' c',ZF xs ys S h' ad' c'→(∀ b o,b≠z→b≠TO→b≠i1→b≠i2→b≠S→s.heap.get? b=some o→h'.get? b=some o)→(∀ a∈ad',s.heap.get? a=none)→R (.ok (.ret res)) { s with heap:=h' }):
  wpAny (model prog w) A.in1 (Builtin.List.listExtendWith (.ref S) (.ref z) res)
   (fun fin s'=> match fin with | .done f=> R (.ok f) s' | .again c'=> c'.quiet=true∧codeAny (model prog w) A c' R s') (fun e s'=> R (.error e) s') s:=by
 have hT:s.TypeIs (.ref z) "zip":=⟨_,hz,rfl⟩
 unfold Builtin.List.listExtendWith
 refine wpAny_bind (wpAny_typeOf hT ?_)
 have k1:Builtin.List.listSameRef (.ref S) (.ref z)=false:=by simp [Builtin.List.listSameRef,hS.1]
 have k2:(Value.type "zip"==Value.type "list")=false:=by decide
 have k3:(Value.type "zip"==Value.type "tuple")=false:=by decide
 simp only [k1,k2,k3,Bool.or_false,Bool.false_eq_true,if_false]
 refine wpAny_bind (vF hz (wpAny_bind (wpAny_holding (u7 prog w _ _ _ _ _ hT fun b=> ?_))))
 refine wpAny_ite_split (fun _=> ?_) (fun _=> ?_)
 ·refine wpAny_bind (wpAny_rule (wpAny_bind ?_))
  show wpAny _ A.in1 (updateSeq S (·.push .none) >>=fun _=> updateSeq S (·.pop)) _ _ _
  refine wpAny_bind (wpAny_updateSeq gS rfl ?_)
  have g2:=Heap.get?_update_self (Obj.mapSeq (·.push Value.none)) gS rfl
  refine wpAny_updateSeq (hz:=by seq_fits) g2 rfl ?_
  have g3:=Heap.get?_update_self (Obj.mapSeq (·.pop)) g2 rfl
  have oth:∀ b o,b≠S→s.heap.get? b=some o→((s.heap.update S (Obj.mapSeq (·.push Value.none))).update S (Obj.mapSeq (·.pop))).get? b=some o:=fun b o hb e=> (Heap.get?_update_other _ _ (Ne.symm hb)).trans ((Heap.get?_update_other _ _ (Ne.symm hb)).trans e)
  refine wpAny_pure ⟨plainId_quiet PySem.F.plain_extend_loop _,mt (s:={ s with heap:=(s.heap.update S (Obj.mapSeq (·.push Value.none))).update S (Obj.mapSeq (·.pop)) }) hh D hS hxy hn res _ 0 [] _ rfl (Nat.zero_le _) (Z _ oth _ g3) fun h' ad' c' F kp fr=> ?_⟩
  refine hR h' ad' c' F (fun b o m1 m2 m3 m4 m5 e=> kp b o m1 m2 m3 m4 m5 (oth b o m5 e)) fun a ha=> ?_
  rcases fr a ha with q | q
  ·simp at q
  ·cases hq:s.heap.get? a with
   | none=> rfl
   | some o=>
    have e:=oth a o (F.ne a ha) hq
    rw [e] at q; cases q
 ·refine wpAny_pure ⟨plainId_quiet PySem.F.plain_extend_loop _,mt hh D hS hxy hn res _ 0 _ [] _ rfl (Nat.zero_le _) (Z _ (fun _ _ _ e=> e) _ gS) fun h' ad' c' F kp fr=> ?_⟩
  exact hR h' ad' c' F kp fun a ha=> (fr a ha).resolve_left (by simp)
end
section
variable {prog:Program} {w:World} {A:Around} {E:Value→Shared→Prop} {s:Shared}
set_option maxHeartbeats 1000000 in
theorem call_list_zip {Q:Value→Shared→Prop} (hh:A.handled=none) {xs ys:Array Value} {z TI TO i1 i2 l1 l2:Addr} (D:ZipApart z TI TO i1 i2 l1 l2) (hxy:ys.size=xs.size) (hn:xs.size≤1000)
  (hz:IsZip s.heap z TI TO .none) (hTI:IsPair s.heap TI (.ref i1) (.ref i2)) {a b:Value} (hTO:IsPair s.heap TO a b) (h1:s.heap.IsListIter i1 l1 0) (h2:s.heap.IsListIter i2 l2 0) (hl1:s.heap.IsList l1 xs) (hl2:s.heap.IsList l2 ys)
  (hQ:∀ h' ad' c',ZF xs ys s.heap.objs.size h' ad' c'→(∀ b o,b≠z→b≠TO→b≠i1→b≠i2→s.heap.get? b=some o→h'.get? b=some o)→(∀ a∈ad',s.heap.get? a=none)→Q (.ref s.heap.objs.size) { s with heap:=h' }):
  wpAny (model prog w) A (call (.type "list") [.ref z]) Q E s:=by
 refine callType_codes (Q₁:=fun obj s₁=> obj=.ref s.heap.objs.size∧s₁={ s with heap:=s.heap.push { cls:=.type "list",data:=.seq #[] } }) PySem.F.called_list (PySem.F.typeCall_list_1 _) PySem.F.entry_list_init (code_list_new _ ⟨rfl,rfl⟩) fun obj s₁ h₁=> ?_
 obtain ⟨rfl,rfl⟩:=h₁
 generalize hSd:s.heap.objs.size=S at *
 have lt:∀ c o,s.heap.get? c=some o→S≠c:=fun c o e q=> by rw [← q,← hSd] at e; exact Nat.lt_irrefl _ (Heap.lt_size e)
 have gS:(s.heap.push { cls:=.type "list",data:=.seq #[] }).get? S=some { cls:=.type "list",data:=.seq #[] }:=by rw [← hSd]; exact Heap.get?_push_size _ rfl
 have up:∀ b o,s.heap.get? b=some o→(s.heap.push { cls:=.type "list",data:=.seq #[] }).get? b=some o:=fun b o e=> Heap.get?_push_of_some _ e
 have hS:S≠z∧S≠TI∧S≠TO∧S≠i1∧S≠i2∧S≠l1∧S≠l2:=⟨lt _ _ hz,lt _ _ hTI,lt _ _ hTO,by obtain ⟨o,e,_⟩:=h1; exact lt _ _ e,by obtain ⟨o,e,_⟩:=h2; exact lt _ _ e,by obtain ⟨o,e,_⟩:=hl1; exact lt _ _ e,by obtain ⟨o,e,_⟩:=hl2; exact lt _ _ e⟩
 refine ⟨⟨_,gS,rfl⟩,PySem.F.args_list_init_2 _ _,?_⟩
 show wpAny _ A.in1.in1 (Builtin.List.listItems (.ref S) >>=fun old=> Builtin.List.listUpdate (.ref S) (fun _=> #[]) >>=fun _=> letGo old.toList.reverse >>=fun _=> Builtin.List.listExtendWith (.ref S) (.ref z) .none) _ _ _
 refine wpAny_bind ?_
 unfold Builtin.List.listItems
 refine wpAny_bind (wpAny_seqItems gS rfl (wpAny_pure ?_))
 show wpAny _ A.in1.in1 (updateSeq S (fun _=> #[]) >>=fun _=> letGo (#[]:Array Value).toList.reverse >>=fun _=> Builtin.List.listExtendWith (.ref S) (.ref z) .none) _ _ _
 refine wpAny_bind (wpAny_updateSeq gS rfl ?_)
 have g2:=Heap.get?_update_self (Obj.mapSeq (fun _=> (#[]:Array Value))) gS rfl
 have oth:∀ b o,b≠S→s.heap.get? b=some o→((s.heap.push { cls:=.type "list",data:=.seq #[] }).update S (Obj.mapSeq (fun _=> (#[]:Array Value)))).get? b=some o:=fun b o hb e=> (Heap.get?_update_other _ _ (Ne.symm hb)).trans (up b o e)
 refine wpAny_bind (wpAny_letGo ?_)
 refine oU (A:=A.in1) (s:={ s with heap:=(s.heap.push { cls:=.type "list",data:=.seq #[] }).update S (Obj.mapSeq (fun _=> (#[]:Array Value))) }) hh D hS hxy hn .none (oth _ _ hS.1.symm hz) (fun h' kp c e=> ?_) g2 fun h' ad' c' F kp fr=> ?_
 ·have k:∀ b o,b≠S→s.heap.get? b=some o→h'.get? b=some o:=fun b o hb e=> kp b o hb (oth b o hb e)
  exact ⟨k _ _ hS.2.1.symm hTI,h1.at fun o e=> k _ o hS.2.2.2.1.symm e,h2.at fun o e=> k _ o hS.2.2.2.2.1.symm e,hl1.at fun o e=> k _ o hS.2.2.2.2.2.1.symm e,hl2.at fun o e=> k _ o hS.2.2.2.2.2.2.symm e,e,rfl,fun j a e=> by simp at e,fun a ha=> by simp at ha,⟨_,k _ _ hS.2.2.1.symm hTO⟩,List.nodup_nil,.inl ⟨rfl,k _ _ hS.1.symm hz,a,b,k _ _ hS.2.2.1.symm hTO⟩⟩
 ·refine ⟨rfl,hQ h' ad' c' F (fun b o m1 m2 m3 m4 e=> kp b o m1 m2 m3 m4 (fun q=> lt b o e q.symm) (oth b o (fun q=> lt b o e q.symm) e)) fun a ha=> ?_⟩
  cases hq:s.heap.get? a with
  | none=> rfl
  | some o=>
   have e:=oth a o (F.ne a ha) hq
   have q:=fr a ha
   rw [show ({ s with heap:=(s.heap.push { cls:=.type "list",data:=.seq #[] }).update S (Obj.mapSeq (fun _=> (#[]:Array Value))) }:Shared).heap.get? a=some o from e] at q
   cases q
end
end ST
namespace L2
open PySem PySem.Spec PyProof.Rows
theorem t7 {a b:Nat} (h:a < b∨b < a):@Ne Addr a b:=fun e=> by
 have e':a=b:=e
 omega
theorem tU:bootBuiltins "zip"=some (.type "zip"):=by decide+kernel
section
variable {P:Program} {w:World} {H:Hp} {h:Heap} {a:Addr} {o:HO}
theorem gK (x:cu P w H h a o):∃ ob,h.get? a=some ob:=by
 cases o with
 | lst xs=> obtain ⟨_,_,_,_,e⟩:=x; exact ⟨_,e⟩
 | tup xs=> obtain ⟨_,_,_,ob,e,_⟩:=x; exact ⟨_,e⟩
 | dK kvs=> obtain ⟨_,_,_,_,o,_,_,e,_⟩:=x; exact ⟨_,e⟩
 | dT kvs=> obtain ⟨_,_,_,_,o,_,_,e,_⟩:=x; exact ⟨_,e⟩
 | set S n=> obtain ⟨o,_,_,_,e,_⟩:=x; exact ⟨_,e⟩
 | ins C dx fs=> obtain ⟨_,_,_,e,_⟩:=x; exact ⟨_,e⟩
 | own y=> exact x
 | xd fs=> obtain ⟨_,⟨_,_,_,e,_⟩,_⟩:=x; exact ⟨_,e⟩
 | rng lo hi=> obtain ⟨_,_,_,e⟩:=x; exact ⟨_,e⟩
 | frz ob u=> obtain ⟨e,_⟩:=x; exact ⟨_,e⟩
 | tbl ps=> exact ⟨_,(show h.get? a=some _ from x)⟩
 | met f y=> exact ⟨_,(show h.get? a=some _ from x)⟩
 | ext φ=> exact x.2.1
end
theorem xK {X:Cx} {pins:List (Addr×Obj)} {σ:List (Option V)} {H H':Hp} {s:Shared} {h':Heap} {t':Nat} (I:Inv X pins σ H s) (k:∀ b u,s.heap.get? b=some u→h'.get? b=some u)
  (old:∀ b u,s.heap.get? b=some u→H' b=H b) (new:∀ b o,s.heap.get? b=none→H' b=some o→cu X.prog X.w H' h' b o):Inv X pins σ H' { s with heap:=h',toks:=t' }:=by
 have at':∀ b o,H b=some o→H' b=some o:=fun b o e=> let ⟨ob,q⟩:=gK (I.hok b o e); (old b ob q).trans e
 refine I.un ⟨fun b u q _ _ _=> k b u q,fun b u q _ _ _=> ⟨u.slots,k b u q⟩,fun b u q n _=> (old b u q).trans n,fun b u q _=> ⟨u,k b u q⟩,fun b xs q=> at' b _ q,fun b u xs q=> at' b _ q,fun b ps q=> ⟨#[],by rw [at' b _ q]; simp⟩⟩ fun b u e=> ?_
 cases hb:s.heap.get? b with
 | some ob=>
  rw [old b ob hb] at e
  exact (I.hok b u e).stay (fun c v _ q=> k c v q) (fun c q=> at' c _ q) fun c xs q=> at' c _ q
 | none=> exact new b u hb e
def jC (H:Hp):List Addr→List (List V)→Hp
 | [],_=> H
 | a::as,ps=> match ps with
  | []=> H
  | p::ps=> upd (jC H as ps) a (.tup p)
theorem nE {H:Hp}:∀ {as:List Addr} {ps:List (List V)} {b:Addr},b ∉ as→jC H as ps b=H b
 | [],_,_,_=> rfl
 | a::as,[],_,_=> rfl
 | a::as,p::ps,b,h=> by
  show upd (jC H as ps) a (.tup p) b=H b
  rw [a_ fun z=> h (by rw [z]; exact List.mem_cons_self)]
  exact nE fun z=> h (List.mem_cons_of_mem _ z)
theorem pX {H:Hp}:∀ {as:List Addr} {ps:List (List V)} {j:Nat} {a:Addr} {p:List V},as.Nodup→as[j]?=some a→ps[j]?=some p→jC H as ps a=some (.tup p)
 | [],_,j,_,_,_,e,_=> by simp at e
 | _::_,[],j,_,_,_,_,e=> by simp at e
 | b::as,q::ps,0,a,p,_,e1,e2=> by
  simp at e1 e2
  subst e1; subst e2
  exact aU
 | b::as,q::ps,j+1,a,p,nd,e1,e2=> by
  show upd (jC H as ps) b (.tup q) a=_
  rw [List.getElem?_cons_succ] at e1 e2
  have nd':=List.nodup_cons.mp nd
  rw [a_ fun z=> nd'.1 (by rw [← z]; exact List.mem_of_getElem? e1)]
  exact pX nd'.2 e1 e2
theorem nj {H:Hp}:∀ {as:List Addr} {ps:List (List V)} {b:Addr} {o:HO},jC H as ps b=some o→H b=some o∨∃ (j:Nat) (p:List V),as[j]?=some b∧ps[j]?=some p∧o=.tup p
 | [],_,_,_,e=> .inl e
 | _::_,[],_,_,e=> .inl e
 | a::as,p::ps,b,o,e=> by
  have e':upd (jC H as ps) a (.tup p) b=some o:=e
  by_cases hb:b=a
  ·subst hb
   rw [aU] at e'
   cases e'
   exact .inr ⟨0,p,rfl,rfl,rfl⟩
  ·rw [a_ hb] at e'
   rcases nj e' with z | ⟨j,q,e1,e2,e3⟩
   ·exact .inl z
   ·exact .inr ⟨j+1,q,by simpa using e1,by simpa using e2,e3⟩
theorem kl:∀ (ad:List Addr),aL (ad.map V.ref) (ad.map Value.ref)
 | []=> .nil
 | _::ad=> .cons rfl (kl ad)
section
variable {X:Cx} {H0:Hp} {O0:List Addr} {ps:PSt} {e f:Expr} {x y:U} {xs ys:List U} {pos pos' p p':Pos}
set_option maxHeartbeats 1000000 in
theorem rY (hc:X.calm=true) (hg:Gl X "list") (hm:X.mg "list"=none) (hgz:Gl X "zip") (hmz:X.mg "zip"=none) (ha:Ev X H0 O0 ps e x) (hx:x=.lst xs∨x=.scr xs) (hb:Ev X H0 O0 ps f y) (hy:y=.lst ys∨y=.scr ys) (hl:ys.length=xs.length) (hn:xs.length≤1000)
  (he:starEach [e,f] X.env=(false,eval e X.env)::starEach [f] X.env:=by rfl) (hf:starEach [f] X.env=(false,eval f X.env)::starEach [] X.env:=by rfl):
  EvN X H0 O0 ps (.Call (.Name "list" p) [.Call (.Name "zip" p') [e,f] [] pos'] [] pos) (List.zipWith (fun a b=> U.tup [a,b]) xs ys):=by
 rintro pins s σ H Q I ⟨O,R,q⟩
 have hh:X.A.handled=none:=I.ok.hd hc
 refine wpAny_Call_Name_kw (cR I hg hm boot_list ?_)
 refine callWith_type1 (e:=.Call (.Name "zip" p') [e,f] [] pos') (rest:=[]) ?_ cQ rfl
 rw [cQ]
 show wpAny _ _ (spliced ((false,eval (.Call (.Name "zip" p') [e,f] [] pos') X.env)::backTo pos (starEach [] X.env))) _ _ s
 refine Calls.spliced_cons ?_
 refine wpAny_Call_Name_kw (cR I hgz hmz tU ?_)
 refine callWith_type1 (thn (dA ha (dA hb fA hf) he pos' pins s σ H (fun vs H1=> ∃ v u,vs=[v,u]∧aJ H H1∧Rp X.K (hid H1 O) v x∧Rp X.K (hid H1 O) u y) I ⟨O,R,fun v H1 s1 r1=> ⟨O,R.go s1,fun u H2 s2 r2=> ⟨v,u,rfl,s1.trans s2,r1.same (bu s2),r2⟩⟩⟩) fun us s1 hx'=> ?_) he (by rw [hf]; rfl)
 obtain ⟨vs,H1,I1,rv,v,u,rfl,sm,rp1,rp2⟩:=hx'
 obtain ⟨w1,w2,rfl,ru1,ru2⟩:=qa rv
 obtain ⟨a,va,rfl,hq1,rs1⟩:=wE rp1 hx
 obtain ⟨b,vb,rfl,hq2,rs2⟩:=wE rp2 hy
 cases ru1
 cases ru2
 obtain ⟨ia,ra,pl1,hz1⟩:=I1.list (aw.seq hq1)
 obtain ⟨ib,rb,pl2,hz2⟩:=I1.list (aw.seq hq2)
 have la:=ra.length
 have lb:=rb.length
 have l1:=rs1.len
 have l2:=rs2.len
 have al:@LT.lt Nat instLTNat a s1.heap.objs.size:=by obtain ⟨o,ho,_⟩:=pl1.isList; exact Heap.lt_size ho
 have bl:@LT.lt Nat instLTNat b s1.heap.objs.size:=by obtain ⟨o,ho,_⟩:=pl2.isList; exact Heap.lt_size ho
 refine PySem.call_zip_2 pl1.isList pl2.isList fun h' z1 z2 z3 z4 z5 z6 z7=> ?_
 refine Calls.spliced_nil ?_
 have D:ZipApart (s1.heap.objs.size+4) (s1.heap.objs.size+2) (s1.heap.objs.size+3) s1.heap.objs.size (s1.heap.objs.size+1) a b:=by constructor <;> exact t7 (by omega)
 have sxy:ib.toArray.size=ia.toArray.size:=by simp; omega
 have sx:ia.toArray.size≤1000:=by simp; omega
 refine ST.call_list_zip (s:={ s1 with heap:=h' }) hh D sxy sx z1 z2 z3 z4 z5 (pl1.isList.at fun o e=> z7 _ o e) (pl2.isList.at fun o e=> z7 _ o e) fun h3 ad c F kp fr=> ?_
 have lD:s1.heap.objs.size≤({ s1 with heap:=h' }:Shared).heap.objs.size:=by show _≤h'.objs.size; omega
 generalize ({ s1 with heap:=h' }:Shared).heap.objs.size=D0 at *
 have keep:∀ b o,s1.heap.get? b=some o→h3.get? b=some o:=fun b o e=> by
  have this:@LT.lt Nat instLTNat b s1.heap.objs.size:=Heap.lt_size e
  exact kp b o (t7 (by omega)) (t7 (by omega)) (t7 (by omega)) (t7 (by omega)) (z7 b o e)
 have fr':∀ a∈ad,s1.heap.get? a=none:=fun a ha=> by
  cases hq:s1.heap.get? a with
  | none=> rfl
  | some o=>
   have q1:=fr a ha
   rw [show ({ s1 with heap:=h' }:Shared).heap.get? a=some o from z7 a o hq] at q1
   cases q1
 have frD:s1.heap.get? D0=none:=Heap.get?_none_of_le lD
 have nH:∀ a,s1.heap.get? a=none→H1 a=none:=fun a e=> by
  cases hq:H1 a with
  | none=> rfl
  | some o=>
   obtain ⟨ob,z⟩:=gK (I1.hok a o hq)
   rw [e] at z; cases z
 generalize hP:List.zipWith (fun x y:V=> [x,y]) va vb=PS
 have old:∀ b u,s1.heap.get? b=some u→upd (jC H1 ad PS) D0 (.lst (ad.map V.ref)) b=H1 b:=fun b u e=> by
  rw [a_ fun z=> by rw [z,frD] at e; cases e]
  exact nE fun z=> by rw [fr' b z] at e; cases e
 have sm1:aJ H1 (upd (jC H1 ad PS) D0 (.lst (ad.map V.ref))):=fun b o e=> let ⟨ob,z⟩:=gK (I1.hok b o e); (old b ob z).trans e
 have lad:ad.length=ia.length:=by rw [F.len]; simp
 have atT:∀ (j:Nat) (c:Addr) (v u:V),ad[j]?=some c→va[j]?=some v→vb[j]?=some u→upd (jC H1 ad PS) D0 (.lst (ad.map V.ref)) c=some (.tup [v,u]):=fun j c v u e1 e2 e3=> by
  rw [a_ (F.ne c (List.mem_of_getElem? e1))]
  refine pX F.nd e1 ?_
  rw [← hP]
  exact List.getElem?_zipWith_eq_some.mpr ⟨v,u,e2,e3,rfl⟩
 have I3:Inv X pins σ (upd (jC H1 ad PS) D0 (.lst (ad.map V.ref))) { s1 with heap:=h3 }:=by
  refine xK (t':=s1.toks) I1 keep old fun b o nb e=> ?_
  by_cases hbD:b=D0
  ·subst hbD
   rw [aU] at e
   cases e
   exact ⟨by rw [List.length_map,lad,← la]; exact hz1,ad.map Value.ref,c,kl ad,F.acc⟩
  ·rw [a_ hbD] at e
   rcases nj e with z | ⟨j,pr,e1,e2,rfl⟩
   ·rw [nH b nb] at z; cases z
   ·rw [← hP] at e2
    obtain ⟨v,u,f1,f2,rfl⟩:=List.getElem?_zipWith_eq_some.mp e2
    obtain ⟨xv,g1,r1⟩:=ra.get f1
    obtain ⟨yv,g2,r2⟩:=rb.get f2
    obtain ⟨xv',yv',k1,k2,k3⟩:=F.tup j b e1
    have m1:xv'=xv:=by
     have:ia.toArray[j]?=some xv:=by simpa using g1
     rw [this] at k1; cases k1; rfl
    have m2:yv'=yv:=by
     have:ib.toArray[j]?=some yv:=by simpa using g2
     rw [this] at k2; cases k2; rfl
    subst m1; subst m2
    exact ⟨(show 2≤sizeLine by decide),[xv',yv'],.cons r1 (.cons r2 .nil),_,k3,rfl,_,rfl⟩
 refine ⟨.ref D0,_,I3,rfl,q D0 _ _ (sm.trans sm1) (sm.free (nH _ frD)) aU ⟨?_,fun i v u h1 h2=> ?_⟩⟩
 ·rw [List.length_map,List.length_zipWith]; omega
 ·rw [List.getElem?_map] at h1
  cases hi:ad[i]? with
  | none=> rw [hi] at h1; cases h1
  | some c'=>
   rw [hi] at h1
   obtain rfl:V.ref c'=v:=by simpa using h1
   obtain ⟨xi,yi,f1,f2,rfl⟩:=List.getElem?_zipWith_eq_some.mp h2
   obtain ⟨vi,g1,r1⟩:=rs1.get f1
   obtain ⟨wi,g2,r2⟩:=rs2.get f2
   have S:=bP (O:=O) sm1 (nH _ frD)
   have rr:=Rps.cons (r1.same S) (Rps.cons (r2.same S) Rps.nil)
   have hc':=List.mem_of_getElem? hi
   refine .tup (SqT.of (dU (atT i c' vi wi hi g1 g2) fun z=> ?_)) rr.len rr.at_
   rcases List.mem_cons.mp z with z | z
   ·exact F.ne c' hc' z
   ·exact (R.go sm).dom c' z (nH _ (fr' c' hc'))
end
end L2
namespace L2
open PySem PySem.Spec PyProof.Rows
theorem iC (ns:List Int):∀ j,preSum (fun i=> ns.getD i 0) j=(ns.take j).sum
 | 0=> by simp [preSum]
 | j+1=> by rw [preSum,iC ns j,PySem.sum_take_succ]
section
variable {X:Cx} {ns:List Int} {M:Int}
theorem jx {K:PySem.W.Frag} {H:Hp} {ws:List V} {its:List Value} (rv:aL ws its) (rs:Rps K H ws (ns.map U.int)) (i:Nat) (z:Value) (e:its.toArray[i]?=some z):∃ t,z=.int (ns.getD i 0) t:=by
 have hl:=rs.len
 rw [List.length_map] at hl
 have e4:its[i]?=some z:=by simpa using e
 have hi:i < its.length:=aG e4
 have hw:i < ws.length:=by rw [rv.length]; exact hi
 have hb:i < ns.length:=by omega
 obtain ⟨u,e1,e2⟩:=rv.get (List.getElem?_eq_getElem hw)
 have e3:=rs.at_ i ws[i] (.int ns[i]) (List.getElem?_eq_getElem hw) (by rw [List.getElem?_map,List.getElem?_eq_getElem hb]; rfl)
 rw [e4] at e1
 cases e1
 generalize ws[i]=wi at *
 cases e3
 rw [List.getD_eq_getElem?_getD,List.getElem?_eq_getElem hb]
 obtain ⟨t,rfl⟩:=e2
 exact ⟨t,rfl⟩
theorem oB (hc:X.calm=true) (hM:M∈ns∧∀ a∈ns,M≤a):gx X (.builtin "min") [.lst (ns.map U.int)] (.int M):=by
 intro pins s σ H vs us Q I r hq
 obtain ⟨O,d,rs,q⟩:=hq
 obtain ⟨v,rfl,h1⟩:=cA rs
 obtain ⟨p1,rfl,r1⟩:=fh r
 cases h1 with
 | @lst a ws _ hq hl hh=>
  cases r1
  obtain ⟨its,rv,pl,_⟩:=I.list (SqL.of (aw _ _ hq))
  have hlen:its.length=ns.length:=by rw [← rv.length,hl,List.length_map]
  have hat:=jx (ns:=ns) rv ⟨hl,hh⟩
  have hn:0 < ns.length:=List.length_pos_of_mem hM.1
  refine call_min_walk (wpAny_pyIter_list pl.isList ?_)
  have hal:a < s.heap.objs.size:=by obtain ⟨o,e,_⟩:=pl.isList; exact Heap.lt_size e
  refine ⟨s.heap.objs.size,_,_,_,_,_,_,rfl,Walks.list (A:=X.A.in1) (I.ok.hd hc) s.heap.objs.size a (Nat.ne_of_lt hal) its.toArray,⟨⟨_,Heap.get?_push_size _ rfl,rfl,rfl⟩,pl.isList.push _⟩,fun b hb=> ?_,by rw [List.size_toArray,hlen]; exact hn,CmpOf.ints_lt (fun i=> ns.getD i 0) hat,fun v h' tk hP hk=> ?_⟩
  ·show b < (s.heap.push _).objs.size
   rw [Heap.size_push]
   rcases List.mem_cons.mp hb with z | z
   ·rw [z]; exact Nat.lt_succ_self _
   ·rw [List.mem_singleton.mp z]; exact Nat.lt_succ_of_lt hal
  ·obtain ⟨t,rfl⟩:=hat _ _ hP
   obtain ⟨b1,b2⟩:=argBest_lt (fun i=> ns.getD i 0) (its.toArray.size - 1)
   have e:ns.getD (argBest (fun i j=> decide (ns.getD i 0 < ns.getD j 0)) (its.toArray.size - 1)) 0=M:=by
    rw [List.size_toArray,hlen] at b1 b2 ⊢
    generalize argBest (fun i j=> decide (ns.getD i 0 < ns.getD j 0)) (ns.length - 1)=g at *
    have hg:g < ns.length:=by omega
    obtain ⟨j,hj,ej⟩:=List.getElem_of_mem hM.1
    have k1:=b2 j (by omega)
    have k2:=hM.2 ns[g] (List.getElem_mem hg)
    simp only [List.getD_eq_getElem?_getD,List.getElem?_eq_getElem hg,List.getElem?_eq_getElem hj,Option.getD_some] at k1 ⊢
    omega
   rw [e]
   refine ⟨.int M,H,I.kept (t':=tk) fun b o e=> hk b o ?_ (Heap.get?_push_of_some _ e),⟨t,rfl⟩,q _ H (.refl H) (.int _)⟩
   intro z
   have:b=s.heap.objs.size:=by simpa using z
   exact absurd (Heap.lt_size e) (by rw [this]; exact Nat.lt_irrefl _)
theorem vc (hc:X.calm=true):gx X (.builtin "sum") [.lst (ns.map U.int)] (.int ns.sum):=by
 intro pins s σ H vs us Q I r hq
 obtain ⟨O,d,rs,q⟩:=hq
 obtain ⟨v,rfl,h1⟩:=cA rs
 obtain ⟨p1,rfl,r1⟩:=fh r
 cases h1 with
 | @lst a ws _ hq hl hh=>
  cases r1
  obtain ⟨its,rv,pl,_⟩:=I.list (SqL.of (aw _ _ hq))
  have hlen:its.length=ns.length:=by rw [← rv.length,hl,List.length_map]
  have hat:=jx (ns:=ns) rv ⟨hl,hh⟩
  refine call_sum_walkG (wpAny_pyIter_list pl.isList ?_)
  have hal:a < s.heap.objs.size:=by obtain ⟨o,e,_⟩:=pl.isList; exact Heap.lt_size e
  refine ⟨s.heap.objs.size,_,_,_,_,_,fun i=> ns.getD i 0,rfl,Walks.list (A:=X.A.in1) (I.ok.hd hc) s.heap.objs.size a (Nat.ne_of_lt hal) its.toArray,⟨⟨_,Heap.get?_push_size _ rfl,rfl,rfl⟩,pl.isList.push _⟩,fun b hb=> ?_,hat,fun h' tk t' hk=> ?_⟩
  ·show b < (s.heap.push _).objs.size
   rw [Heap.size_push]
   rcases List.mem_cons.mp hb with z | z
   ·rw [z]; exact Nat.lt_succ_self _
   ·rw [List.mem_singleton.mp z]; exact Nat.lt_succ_of_lt hal
  ·rw [iC,List.size_toArray,hlen,List.take_length]
   refine ⟨.int ns.sum,H,I.kept (t':=tk) fun b o e=> hk b o ?_ (Heap.get?_push_of_some _ e),⟨t',rfl⟩,q _ H (.refl H) (.int _)⟩
   intro z
   have:b=s.heap.objs.size:=by simpa using z
   exact absurd (Heap.lt_size e) (by rw [this]; exact Nat.lt_irrefl _)
end
end L2
namespace ST
open PySem PyProof.Rows
def leP (a b:Int×Int):Bool:=decide (a.1 < b.1∨(a.1=b.1∧a.2≤b.2))
section
variable {prog:Program} {w:World} {A:Around} {E:Value→Shared→Prop} {s:Shared}
end
end ST
namespace L2
open PySem PySem.Spec PyProof.Rows
section
variable {X:Cx} {H0:Hp} {O0:List Addr} {ps:PSt} {a b c:Expr} {pos:Pos} {x y z:U} {p q:P2} {k m:Bool}
end
end L2
namespace L2
open PySem PySem.Spec PyProof.Rows
section
variable {X:Cx} {p q:P2} {l:List P2}
theorem ua {pins:List (Addr×Obj)} {σ:List (Option V)} {H:Hp} {s:Shared} (I:Inv X pins σ H s) {v:V} {u:Value} (r:Rp X.K H v (pu p)) (e:aY v u):∃ b,u=.ref b∧∀ prog w,ST.TK prog w s.heap [p.1,p.2] b:=by
 cases r with
 | @tup b zs _ hs hsl hsi=>
  cases e
  refine ⟨b,rfl,fun prog w=> ?_⟩
  obtain ⟨jts,rj,ht,_⟩:=I.tuple hs
  have z0:zs.length=2:=hsl
  match zs,z0,hsi,rj with
  | [z1,z2],_,hsi,rj=>
   have q1:=hsi 0 z1 _ rfl rfl
   have q2:=hsi 1 z2 _ rfl rfl
   cases q1
   cases q2
   obtain ⟨u1,u2,rfl,r1,r2⟩:=qa rj
   obtain ⟨t1,rfl⟩:=r1
   obtain ⟨t2,rfl⟩:=r2
   obtain ⟨o,ho,hoc,n,hod⟩:=ht
   exact ⟨o,_,n,ho,hoc,hod,.cons (intKind_is _ _ _ _) (.cons (intKind_is _ _ _ _) .nil)⟩
end
end L2
namespace L2
open PySem PySem.Spec PyProof.Rows
section
variable {X:Cx} {H0:Hp} {O0:List Addr} {ps:PSt} {e:Expr} {pts:List P2} {pos pos' p p':Pos}
end
end L2
namespace ST
open PySem
def sO (prog:Program) (w:World) (A:Around) (op:CmpOp) (G:Heap→Prop) (P:Nat→Value→Prop) (bt:Nat→Nat→Bool):Prop:=
 ∀ i j vi vj (s:Shared) (Q:Value→Shared→Prop) (E:Value→Shared→Prop),G s.heap→P i vi→P j vj→Q (.bool (bt i j)) s→wpAny (model prog w) A (richCompare op vi vj) Q E s
section
variable {prog:Program} {w:World} {A:Around} {R:Result→Shared→Prop} {I S:Addr} {fp wr:List Addr} {n:Nat} {P:Nat→Value→Prop} {St:Nat→Heap→Prop} {G:Heap→Prop} {bt:Nat→Nat→Bool}
theorem rV (W:Walks prog w A.in1 I fp wr n P St) (hc:sO prog w A.in1 .Lt G P bt) (stay:∀ h h':Heap,G h→(∀ b o,b ∉ wr→b≠S→h.get? b=some o→h'.get? b=some o)→G h') (hSf:S ∉ fp):
  ∀ (k j:Nat) (s:Shared) (vb:Value) (c:Nat),n - (j+1)=k→j+1≤n→G s.heap→St (j+1) s.heap→P (argBest bt j) vb→s.heap.get? S=some { cls:=.type "list",dict:=none,data:=.seq #[vb,vb] c,slots:=#[] }→
  (∀ v h' tk,P (argBest bt (n - 1)) v→(∀ b o,b ∉ wr→b≠S→s.heap.get? b=some o→h'.get? b=some o)→R (.ok (.ret v)) { s with heap:=h',toks:=tk })→
  codeAny (model prog w) A (.builtin "min.loop" ⟨[.ref I,.none,.ref S],[]⟩) R s:=by
 have nw:S ∉ wr:=fun h=> hSf (W.sub _ h)
 have nm:(toString "min"++toString ".loop":String)="min.loop":=by decide
 intro k
 induction k with
 | zero=>
  intro j s vb c hk hj g st pb hS hR
  obtain rfl:j+1=n:=by omega
  refine codeAny_builtin PySem.F.entry_min_loop ?_
  rw [Around.under_plainId PySem.F.plain_min_loop _]
  show wpAny _ A.in1 (seqItems? (.ref S) >>=_) _ _ s
  refine wpAny_bind (wpAny_seqItems hS rfl ?_)
  show wpAny _ A.in1 (tryCatch (pyNext (.ref I)) _ >>=_) _ _ s
  refine wpAny_bind (wpAny_tryCatch (W.done s _ _ st fun h' tk kp=> ?_))
  show wpAny _ A.in1 (updateSeq S (fun _=> #[]) >>=_) _ _ _
  refine wpAny_bind (wpAny_updateSeq (kp S _ nw hS) rfl (wpAny_bind (wpAny_letGo (wpAny_pure ?_))))
  exact hR vb _ tk pb fun b o hw hb e=> (Heap.get?_update_other _ _ (Ne.symm hb)).trans (kp b o hw e)
 | succ k ih=>
  intro j s vb c hk hj g st pb hS hR
  refine codeAny_builtin PySem.F.entry_min_loop ?_
  rw [Around.under_plainId PySem.F.plain_min_loop _]
  show wpAny _ A.in1 (seqItems? (.ref S) >>=_) _ _ s
  refine wpAny_bind (wpAny_seqItems hS rfl ?_)
  show wpAny _ A.in1 (tryCatch (pyNext (.ref I)) _ >>=_) _ _ s
  refine wpAny_bind (wpAny_tryCatch (W.item (j+1) s _ _ (by omega) st fun v h' tk pv st' kp=> ?_))
  have g':G h':=stay _ _ g fun b o hw _ e=> kp b o hw e
  have hS':=kp S _ nw hS
  show wpAny _ A.in1 (tryCatch (holding [v,v] (richCompare .Lt v vb >>=_)) _ >>=_) _ _ _
  refine wpAny_bind (wpAny_tryCatch (wpAny_holding (wpAny_bind (hc (j+1) (argBest bt j) v vb _ _ _ g' pv pb ?_))))
  refine wpAny_bind (wpAny_holding (wpAny_truthy_bool (wpAny_bind (wpAny_letGo (wpAny_pure ?_)))))
  by_cases hb:bt (j+1) (argBest bt j)=true
  ·rw [if_pos hb]
   refine wpAny_bind (wpAny_updateSeq hS' rfl (wpAny_bind (wpAny_letGo ?_)))
   rw [nm]
   have oth:∀ b o,b≠S→h'.get? b=some o→(h'.update S (Obj.mapSeq fun _=> #[v,v])).get? b=some o:=fun b o h e=> (Heap.get?_update_other _ _ (Ne.symm h)).trans e
   refine wpAny_pure ⟨plainId_quiet PySem.F.plain_min_loop _,ih (j+1) _ v _ (by omega) (by omega) (stay _ _ g' fun b o _ h e=> oth b o h e) (W.frame _ _ _ st' fun b hf o e=> oth b o (fun h=> hSf (h ▸ hf)) e) (by rw [argBest,if_pos hb]; exact pv) (Heap.get?_update_self _ hS' rfl) fun v2 h2 t2 p2 k2=> ?_⟩
   exact hR v2 h2 t2 p2 fun b o hw h e=> k2 b o hw h (oth b o h (kp b o hw e))
  ·rw [if_neg hb]
   refine wpAny_bind (wpAny_letGo ?_)
   rw [nm]
   refine wpAny_pure ⟨plainId_quiet PySem.F.plain_min_loop _,ih (j+1) _ vb c (by omega) (by omega) g' st' (by rw [argBest,if_neg hb]; exact pb) hS' fun v2 h2 t2 p2 k2=> ?_⟩
   exact hR v2 h2 t2 p2 fun b o hw h e=> k2 b o hw h (kp b o hw e)
theorem oa (W:Walks prog w A.in1 I fp wr n P St) (hc:sO prog w A.in1 .Lt G P bt) (stay:∀ h h':Heap,G h→(∀ b o,b ∉ wr→b≠S→h.get? b=some o→h'.get? b=some o)→G h') (hSf:S ∉ fp) (hn:0 < n) {s:Shared} {c:Nat} (g:G s.heap) (st:St 0 s.heap)
  (hS:s.heap.get? S=some { cls:=.type "list",dict:=none,data:=.seq #[] c,slots:=#[] })
  (hR:∀ v h' tk,P (argBest bt (n - 1)) v→(∀ b o,b ∉ wr→b≠S→s.heap.get? b=some o→h'.get? b=some o)→R (.ok (.ret v)) { s with heap:=h',toks:=tk }):
  codeAny (model prog w) A (.builtin "min.loop" ⟨[.ref I,.none,.ref S],[]⟩) R s:=by
 have nw:S ∉ wr:=fun h=> hSf (W.sub _ h)
 have nm:(toString "min"++toString ".loop":String)="min.loop":=by decide
 refine codeAny_builtin PySem.F.entry_min_loop ?_
 rw [Around.under_plainId PySem.F.plain_min_loop _]
 show wpAny _ A.in1 (seqItems? (.ref S) >>=_) _ _ s
 refine wpAny_bind (wpAny_seqItems hS rfl ?_)
 show wpAny _ A.in1 (tryCatch (pyNext (.ref I)) _ >>=_) _ _ s
 refine wpAny_bind (wpAny_tryCatch (W.item 0 s _ _ hn st fun v h' tk pv st' kp=> ?_))
 have hS':=kp S _ nw hS
 show wpAny _ A.in1 (updateSeq S (fun _=> #[v,v]) >>=_) _ _ _
 refine wpAny_bind (wpAny_updateSeq hS' rfl ?_)
 rw [nm]
 have oth:∀ b o,b≠S→h'.get? b=some o→(h'.update S (Obj.mapSeq fun _=> #[v,v])).get? b=some o:=fun b o h e=> (Heap.get?_update_other _ _ (Ne.symm h)).trans e
 refine wpAny_pure ⟨plainId_quiet PySem.F.plain_min_loop _,rV W hc stay hSf _ 0 _ v _ rfl hn (stay _ _ g fun b o hw h e=> oth b o h (kp b o hw e)) (W.frame _ _ _ st' fun b hf o e=> oth b o (fun h=> hSf (h ▸ hf)) e) pv (Heap.get?_update_self _ hS' rfl) fun v2 h2 t2 p2 k2=> ?_⟩
 exact hR v2 h2 t2 p2 fun b o hw h e=> k2 b o hw h (oth b o h (kp b o hw e))
end
section
variable {prog:Program} {w:World} {A:Around} {E:Value→Shared→Prop} {s:Shared}
theorem call_minG {l:Addr} {items:Array Value} {G:Heap→Prop} {bt:Nat→Nat→Bool} {Q:Value→Shared→Prop} (hh:A.handled=none) (hl:s.heap.IsList l items) (hn:0 < items.size) (hc:sO prog w A.in1 .Lt G (fun i v=> items[i]?=some v) bt)
  (g:G s.heap) (stay:∀ h h':Heap,G h→(∀ b o,s.heap.get? b=some o→h.get? b=some o)→(∀ b o,s.heap.get? b=some o→h'.get? b=some o)→G h')
  (hQ:∀ v h' tk,items[argBest bt (items.size - 1)]?=some v→(∀ b o,s.heap.get? b=some o→h'.get? b=some o)→Q v { s with heap:=h',toks:=tk }):
  wpAny (model prog w) A (call (.builtin "min") [.ref l]) Q E s:=by
 have nm:(toString "min"++toString ".loop":String)="min.loop":=by decide
 refine call_function_tree PySem.F.kind_min PySem.F.plain_min PySem.F.entry_min (PySem.F.args_min1 _) ?_
 show wpAny _ A.in1 (Builtin.Builtins.bindParams "min" ["key","default"] 0 ⟨[],[]⟩ >>=_) _ _ s
 refine wpAny_bind (wpAny_of_eq (show Builtin.Builtins.bindParams "min" ["key","default"] 0 ⟨[],[]⟩=pure [none,none] from rfl) ?_)
 refine wpAny_bind (wpAny_pure ?_)
 refine wpAny_bind (wpAny_pyIter_list hl ?_)
 have hal:l < s.heap.objs.size:=by obtain ⟨o,e,_⟩:=hl; exact Heap.lt_size e
 refine wpAny_bind (wpAny_newObj_type ?_)
 rw [nm]
 have W:=Walks.list (prog:=prog) (w:=w) (A:=A.in1) hh s.heap.objs.size l (Nat.ne_of_lt hal) items
 have up:∀ b o,s.heap.get? b=some o→((s.heap.push { cls:=.type "list_iterator",data:=.fields #[.ref l,.int 0 0] }).push { cls:=.type "list",data:=.seq #[] }).get? b=some o:=fun b o e=> Heap.get?_push_of_some _ (Heap.get?_push_of_some _ e)
 have sI:(s.heap.push { cls:=.type "list_iterator",data:=.fields #[.ref l,.int 0 0] }).objs.size=s.heap.objs.size+1:=Heap.size_push ..
 have lt:∀ b o,s.heap.get? b=some o→b ∉ [s.heap.objs.size]∧b≠(s.heap.push { cls:=.type "list_iterator",data:=.fields #[.ref l,.int 0 0] }).objs.size:=fun b o e=> by
  have h:=Heap.lt_size e
  refine ⟨fun z=> ?_,fun z=> ?_⟩
  ·rw [List.mem_singleton.mp z] at h; exact Nat.lt_irrefl _ h
  ·rw [z,sI] at h; exact Nat.lt_irrefl _ (Nat.lt_of_succ_lt h)
 refine wpAny_pure ⟨plainId_quiet PySem.F.plain_min_loop _,oa (G:=fun h=> G h∧∀ b o,s.heap.get? b=some o→h.get? b=some o) W (fun i j vi vj s' Q' E' g'=> hc i j vi vj s' Q' E' g'.1) (fun h h' g' kp=> ?_) ?_ hn ⟨stay _ _ g (fun _ _ e=> e) up,up⟩ ⟨⟨_,Heap.get?_push_of_some _ (Heap.get?_push_size _ rfl),rfl,rfl⟩,(hl.push _).push _⟩ (Heap.get?_push_size _ rfl) fun v h' tk pv kp=> ?_⟩
 ·have k2:∀ b o,s.heap.get? b=some o→h'.get? b=some o:=fun b o e=> kp b o (lt b o e).1 (lt b o e).2 (g'.2 b o e)
  exact ⟨stay _ _ g'.1 g'.2 k2,k2⟩
 ·intro z
  have z':(s.heap.push { cls:=.type "list_iterator",data:=.fields #[.ref l,.int 0 0] }).objs.size∈[s.heap.objs.size,l]:=z
  rw [sI] at z'
  rcases List.mem_cons.mp z' with z | z
  ·exact absurd z (Nat.succ_ne_self _)
  ·have e:=List.mem_singleton.mp z
   rw [← e] at hal; exact absurd hal (Nat.not_lt_of_gt (Nat.lt_succ_self _))
 ·exact hQ v h' tk pv fun b o e=> kp b o (lt b o e).1 (lt b o e).2 (up b o e)
end
section
variable {prog:Program} {w:World} {A:Around} {R:Result→Shared→Prop} {I S:Addr} {fp wr:List Addr} {n:Nat} {P:Nat→Value→Prop} {St:Nat→Heap→Prop} {G:Heap→Prop} {bt:Nat→Nat→Bool}
theorem rK (W:Walks prog w A.in1 I fp wr n P St) (hc:sO prog w A.in1 .Gt G P bt) (stay:∀ h h':Heap,G h→(∀ b o,b ∉ wr→b≠S→h.get? b=some o→h'.get? b=some o)→G h') (hSf:S ∉ fp):
  ∀ (k j:Nat) (s:Shared) (vb:Value) (c:Nat),n - (j+1)=k→j+1≤n→G s.heap→St (j+1) s.heap→P (argBest bt j) vb→s.heap.get? S=some { cls:=.type "list",dict:=none,data:=.seq #[vb,vb] c,slots:=#[] }→
  (∀ v h' tk,P (argBest bt (n - 1)) v→(∀ b o,b ∉ wr→b≠S→s.heap.get? b=some o→h'.get? b=some o)→R (.ok (.ret v)) { s with heap:=h',toks:=tk })→
  codeAny (model prog w) A (.builtin "max.loop" ⟨[.ref I,.none,.ref S],[]⟩) R s:=by
 have nw:S ∉ wr:=fun h=> hSf (W.sub _ h)
 have nm:(toString "max"++toString ".loop":String)="max.loop":=by decide
 intro k
 induction k with
 | zero=>
  intro j s vb c hk hj g st pb hS hR
  obtain rfl:j+1=n:=by omega
  refine codeAny_builtin PySem.F.entry_max_loop ?_
  rw [Around.under_plainId PySem.F.plain_max_loop _]
  show wpAny _ A.in1 (seqItems? (.ref S) >>=_) _ _ s
  refine wpAny_bind (wpAny_seqItems hS rfl ?_)
  show wpAny _ A.in1 (tryCatch (pyNext (.ref I)) _ >>=_) _ _ s
  refine wpAny_bind (wpAny_tryCatch (W.done s _ _ st fun h' tk kp=> ?_))
  show wpAny _ A.in1 (updateSeq S (fun _=> #[]) >>=_) _ _ _
  refine wpAny_bind (wpAny_updateSeq (kp S _ nw hS) rfl (wpAny_bind (wpAny_letGo (wpAny_pure ?_))))
  exact hR vb _ tk pb fun b o hw hb e=> (Heap.get?_update_other _ _ (Ne.symm hb)).trans (kp b o hw e)
 | succ k ih=>
  intro j s vb c hk hj g st pb hS hR
  refine codeAny_builtin PySem.F.entry_max_loop ?_
  rw [Around.under_plainId PySem.F.plain_max_loop _]
  show wpAny _ A.in1 (seqItems? (.ref S) >>=_) _ _ s
  refine wpAny_bind (wpAny_seqItems hS rfl ?_)
  show wpAny _ A.in1 (tryCatch (pyNext (.ref I)) _ >>=_) _ _ s
  refine wpAny_bind (wpAny_tryCatch (W.item (j+1) s _ _ (by omega) st fun v h' tk pv st' kp=> ?_))
  have g':G h':=stay _ _ g fun b o hw _ e=> kp b o hw e
  have hS':=kp S _ nw hS
  show wpAny _ A.in1 (tryCatch (holding [v,v] (richCompare .Gt v vb >>=_)) _ >>=_) _ _ _
  refine wpAny_bind (wpAny_tryCatch (wpAny_holding (wpAny_bind (hc (j+1) (argBest bt j) v vb _ _ _ g' pv pb ?_))))
  refine wpAny_bind (wpAny_holding (wpAny_truthy_bool (wpAny_bind (wpAny_letGo (wpAny_pure ?_)))))
  by_cases hb:bt (j+1) (argBest bt j)=true
  ·rw [if_pos hb]
   refine wpAny_bind (wpAny_updateSeq hS' rfl (wpAny_bind (wpAny_letGo ?_)))
   rw [nm]
   have oth:∀ b o,b≠S→h'.get? b=some o→(h'.update S (Obj.mapSeq fun _=> #[v,v])).get? b=some o:=fun b o h e=> (Heap.get?_update_other _ _ (Ne.symm h)).trans e
   refine wpAny_pure ⟨plainId_quiet PySem.F.plain_max_loop _,ih (j+1) _ v _ (by omega) (by omega) (stay _ _ g' fun b o _ h e=> oth b o h e) (W.frame _ _ _ st' fun b hf o e=> oth b o (fun h=> hSf (h ▸ hf)) e) (by rw [argBest,if_pos hb]; exact pv) (Heap.get?_update_self _ hS' rfl) fun v2 h2 t2 p2 k2=> ?_⟩
   exact hR v2 h2 t2 p2 fun b o hw h e=> k2 b o hw h (oth b o h (kp b o hw e))
  ·rw [if_neg hb]
   refine wpAny_bind (wpAny_letGo ?_)
   rw [nm]
   refine wpAny_pure ⟨plainId_quiet PySem.F.plain_max_loop _,ih (j+1) _ vb c (by omega) (by omega) g' st' (by rw [argBest,if_neg hb]; exact pb) hS' fun v2 h2 t2 p2 k2=> ?_⟩
   exact hR v2 h2 t2 p2 fun b o hw h e=> k2 b o hw h (kp b o hw e)
theorem oA (W:Walks prog w A.in1 I fp wr n P St) (hc:sO prog w A.in1 .Gt G P bt) (stay:∀ h h':Heap,G h→(∀ b o,b ∉ wr→b≠S→h.get? b=some o→h'.get? b=some o)→G h') (hSf:S ∉ fp) (hn:0 < n) {s:Shared} {c:Nat} (g:G s.heap) (st:St 0 s.heap)
  (hS:s.heap.get? S=some { cls:=.type "list",dict:=none,data:=.seq #[] c,slots:=#[] })
  (hR:∀ v h' tk,P (argBest bt (n - 1)) v→(∀ b o,b ∉ wr→b≠S→s.heap.get? b=some o→h'.get? b=some o)→R (.ok (.ret v)) { s with heap:=h',toks:=tk }):
  codeAny (model prog w) A (.builtin "max.loop" ⟨[.ref I,.none,.ref S],[]⟩) R s:=by
 have nw:S ∉ wr:=fun h=> hSf (W.sub _ h)
 have nm:(toString "max"++toString ".loop":String)="max.loop":=by decide
 refine codeAny_builtin PySem.F.entry_max_loop ?_
 rw [Around.under_plainId PySem.F.plain_max_loop _]
 show wpAny _ A.in1 (seqItems? (.ref S) >>=_) _ _ s
 refine wpAny_bind (wpAny_seqItems hS rfl ?_)
 show wpAny _ A.in1 (tryCatch (pyNext (.ref I)) _ >>=_) _ _ s
 refine wpAny_bind (wpAny_tryCatch (W.item 0 s _ _ hn st fun v h' tk pv st' kp=> ?_))
 have hS':=kp S _ nw hS
 show wpAny _ A.in1 (updateSeq S (fun _=> #[v,v]) >>=_) _ _ _
 refine wpAny_bind (wpAny_updateSeq hS' rfl ?_)
 rw [nm]
 have oth:∀ b o,b≠S→h'.get? b=some o→(h'.update S (Obj.mapSeq fun _=> #[v,v])).get? b=some o:=fun b o h e=> (Heap.get?_update_other _ _ (Ne.symm h)).trans e
 refine wpAny_pure ⟨plainId_quiet PySem.F.plain_max_loop _,rK W hc stay hSf _ 0 _ v _ rfl hn (stay _ _ g fun b o hw h e=> oth b o h (kp b o hw e)) (W.frame _ _ _ st' fun b hf o e=> oth b o (fun h=> hSf (h ▸ hf)) e) pv (Heap.get?_update_self _ hS' rfl) fun v2 h2 t2 p2 k2=> ?_⟩
 exact hR v2 h2 t2 p2 fun b o hw h e=> k2 b o hw h (oth b o h (kp b o hw e))
end
section
variable {prog:Program} {w:World} {A:Around} {E:Value→Shared→Prop} {s:Shared}
theorem call_maxG {l:Addr} {items:Array Value} {G:Heap→Prop} {bt:Nat→Nat→Bool} {Q:Value→Shared→Prop} (hh:A.handled=none) (hl:s.heap.IsList l items) (hn:0 < items.size) (hc:sO prog w A.in1 .Gt G (fun i v=> items[i]?=some v) bt)
  (g:G s.heap) (stay:∀ h h':Heap,G h→(∀ b o,s.heap.get? b=some o→h.get? b=some o)→(∀ b o,s.heap.get? b=some o→h'.get? b=some o)→G h')
  (hQ:∀ v h' tk,items[argBest bt (items.size - 1)]?=some v→(∀ b o,s.heap.get? b=some o→h'.get? b=some o)→Q v { s with heap:=h',toks:=tk }):
  wpAny (model prog w) A (call (.builtin "max") [.ref l]) Q E s:=by
 have nm:(toString "max"++toString ".loop":String)="max.loop":=by decide
 refine call_function_tree PySem.F.kind_max PySem.F.plain_max PySem.F.entry_max (PySem.F.args_max1 _) ?_
 show wpAny _ A.in1 (Builtin.Builtins.bindParams "max" ["key","default"] 0 ⟨[],[]⟩ >>=_) _ _ s
 refine wpAny_bind (wpAny_of_eq (show Builtin.Builtins.bindParams "max" ["key","default"] 0 ⟨[],[]⟩=pure [none,none] from rfl) ?_)
 refine wpAny_bind (wpAny_pure ?_)
 refine wpAny_bind (wpAny_pyIter_list hl ?_)
 have hal:l < s.heap.objs.size:=by obtain ⟨o,e,_⟩:=hl; exact Heap.lt_size e
 refine wpAny_bind (wpAny_newObj_type ?_)
 rw [nm]
 have W:=Walks.list (prog:=prog) (w:=w) (A:=A.in1) hh s.heap.objs.size l (Nat.ne_of_lt hal) items
 have up:∀ b o,s.heap.get? b=some o→((s.heap.push { cls:=.type "list_iterator",data:=.fields #[.ref l,.int 0 0] }).push { cls:=.type "list",data:=.seq #[] }).get? b=some o:=fun b o e=> Heap.get?_push_of_some _ (Heap.get?_push_of_some _ e)
 have sI:(s.heap.push { cls:=.type "list_iterator",data:=.fields #[.ref l,.int 0 0] }).objs.size=s.heap.objs.size+1:=Heap.size_push ..
 have lt:∀ b o,s.heap.get? b=some o→b ∉ [s.heap.objs.size]∧b≠(s.heap.push { cls:=.type "list_iterator",data:=.fields #[.ref l,.int 0 0] }).objs.size:=fun b o e=> by
  have h:=Heap.lt_size e
  refine ⟨fun z=> ?_,fun z=> ?_⟩
  ·rw [List.mem_singleton.mp z] at h; exact Nat.lt_irrefl _ h
  ·rw [z,sI] at h; exact Nat.lt_irrefl _ (Nat.lt_of_succ_lt h)
 refine wpAny_pure ⟨plainId_quiet PySem.F.plain_max_loop _,oA (G:=fun h=> G h∧∀ b o,s.heap.get? b=some o→h.get? b=some o) W (fun i j vi vj s' Q' E' g'=> hc i j vi vj s' Q' E' g'.1) (fun h h' g' kp=> ?_) ?_ hn ⟨stay _ _ g (fun _ _ e=> e) up,up⟩ ⟨⟨_,Heap.get?_push_of_some _ (Heap.get?_push_size _ rfl),rfl,rfl⟩,(hl.push _).push _⟩ (Heap.get?_push_size _ rfl) fun v h' tk pv kp=> ?_⟩
 ·have k2:∀ b o,s.heap.get? b=some o→h'.get? b=some o:=fun b o e=> kp b o (lt b o e).1 (lt b o e).2 (g'.2 b o e)
  exact ⟨stay _ _ g'.1 g'.2 k2,k2⟩
 ·intro z
  have z':(s.heap.push { cls:=.type "list_iterator",data:=.fields #[.ref l,.int 0 0] }).objs.size∈[s.heap.objs.size,l]:=z
  rw [sI] at z'
  rcases List.mem_cons.mp z' with z | z
  ·exact absurd z (Nat.succ_ne_self _)
  ·have e:=List.mem_singleton.mp z
   rw [← e] at hal; exact absurd hal (Nat.not_lt_of_gt (Nat.lt_succ_self _))
 ·exact hQ v h' tk pv fun b o e=> kp b o (lt b o e).1 (lt b o e).2 (up b o e)
end
end ST
namespace ST
open PySem PyProof.Rows
section
variable {prog:Program} {w:World} {A:Around} {E:Value→Shared→Prop} {s:Shared}
theorem qI {x y:Int} {t u:Tok} {Q:Value→Shared→Prop} (h:Q (.bool (decide (x < y))) s):wpAny (model prog w) A (richCompare .Lt (.int x t) (.int y u)) Q E s:=
 richCompare_gives (op:=.Lt) (typeIs_int s _ t) (typeIs_int s _ u) PySem.F.slot_int_lt PySem.F.entry_int_lt (PySem.F.args_int_lt_2 _ _) (gives_int_lt _ _ t u) (fun x=> nomatch x) h
theorem uW {x y:Addr} {a b:Int×Int} {P:Fin→Shared→Prop} (hx:TK prog w s.heap [a.1,a.2] x) (hy:TK prog w s.heap [b.1,b.2] y) (h:P (.done (.ret (.bool (ltP a b)))) s):
  wpAny (model prog w) A (Builtin.«tuple.__lt__» ⟨[.ref x,.ref y],[]⟩) P E s:=by
 have hTb:=hy.typeIs
 obtain ⟨o,its,n,t,u,ho,_,hd,hi⟩:=hx.two
 obtain ⟨o',its',n',t',u',ho',_,hd',hi'⟩:=hy.two
 show wpAny _ _ (isInstance (.ref y) (.type "tuple") >>=_) _ _ s
 refine wpAny_bind (wpAny_isInstance hTb isSubtype_tuple_tuple ?_)
 simp only [Bool.not_true,Bool.false_eq_true,if_false]
 refine wpAny_bind (wpAny_tupleItemsOf ho hd ?_)
 refine wpAny_bind (wpAny_tupleItemsOf ho' hd' ?_)
 have sz:its.size=its'.size:=by rw [← Array.length_toList,← Array.length_toList,hi,hi']; rfl
 rw [hi,hi']
 refine wpAny_bind ?_
 simp only [List.zip_cons_cons,List.zip_nil_left,List.forIn_cons,List.forIn_nil]
 refine wpAny_bind (wpAny_bind ((intKind prog w).eqBool (a:=a.1) (b:=b.1) (intKind_is _ _ _ _) (intKind_is _ _ _ _) ?_))
 by_cases e1:a.1=b.1
 ·rw [decide_eq_true e1]
  simp only [Bool.not_true,Bool.false_eq_true,if_false]
  refine wpAny_pure ?_
  refine wpAny_bind (wpAny_bind ((intKind prog w).eqBool (a:=a.2) (b:=b.2) (intKind_is _ _ _ _) (intKind_is _ _ _ _) ?_))
  by_cases e2:a.2=b.2
  ·rw [decide_eq_true e2]
   simp only [Bool.not_true,Bool.false_eq_true,if_false]
   refine wpAny_pure (wpAny_pure ?_)
   have z:ltP a b=false:=by unfold ltP; simp; omega
   rw [z] at h
   refine wpAny_pure ?_
   show P (.done (.ret (.bool (decide (its.size < its'.size))))) s
   rw [sz,decide_eq_false (Nat.lt_irrefl _)]
   exact h
  ·rw [decide_eq_false e2]
   simp only [Bool.not_false,if_true]
   have z:ltP a b=decide (a.2 < b.2):=by unfold ltP; rw [e1]; simp
   rw [z] at h
   exact wpAny_bind (wpAny_rule (wpAny_bind (qI (wpAny_bind (wpAny_pure (wpAny_pure (wpAny_pure (wpAny_pure h))))))))
 ·rw [decide_eq_false e1]
  simp only [Bool.not_false,if_true]
  have z:ltP a b=decide (a.1 < b.1):=by unfold ltP; simp [e1]
  rw [z] at h
  exact wpAny_bind (wpAny_rule (wpAny_bind (qI (wpAny_bind (wpAny_pure (wpAny_pure (wpAny_pure (wpAny_pure h))))))))
theorem lt_ptsR {x y:Addr} {a b:Int×Int} {Q:Value→Shared→Prop} (hu:A.units < cLine) (hx:TK prog w s.heap [a.1,a.2] x) (hy:TK prog w s.heap [b.1,b.2] y) (h:Q (.bool (ltP a b)) s):
  wpAny (model prog w) A (compareOp .Lt (.ref x) (.ref y)) Q E s:=
 wpAny_richCompare_same_room (op:=.Lt) hx.typeIs hy.typeIs PySem.F.slot_tuple_lt
  (wpAny_call_entry PySem.F.slot_tuple_lt hx.typeIs PySem.F.entry_tuple_lt (uW hx hy ⟨_,rfl,(fun e=> nomatch e),h⟩) (PySem.F.args_tuple_lt_2 _ _)) hu
theorem pB {x y:Int} {t u:Tok} {Q:Value→Shared→Prop} (h:Q (.bool (decide (y < x))) s):wpAny (model prog w) A (richCompare .Gt (.int x t) (.int y u)) Q E s:=
 richCompare_gives (op:=.Gt) (typeIs_int s _ t) (typeIs_int s _ u) PySem.F.slot_int_gt PySem.F.entry_int_gt (PySem.F.args_int_gt_2 _ _) (gives_int_gt _ _ t u) (fun x=> nomatch x) h
theorem vy {x y:Addr} {a b:Int×Int} {P:Fin→Shared→Prop} (hx:TK prog w s.heap [a.1,a.2] x) (hy:TK prog w s.heap [b.1,b.2] y) (h:P (.done (.ret (.bool (ltP b a)))) s):
  wpAny (model prog w) A (Builtin.«tuple.__gt__» ⟨[.ref x,.ref y],[]⟩) P E s:=by
 have hTb:=hy.typeIs
 obtain ⟨o,its,n,t,u,ho,_,hd,hi⟩:=hx.two
 obtain ⟨o',its',n',t',u',ho',_,hd',hi'⟩:=hy.two
 show wpAny _ _ (isInstance (.ref y) (.type "tuple") >>=_) _ _ s
 refine wpAny_bind (wpAny_isInstance hTb isSubtype_tuple_tuple ?_)
 simp only [Bool.not_true,Bool.false_eq_true,if_false]
 refine wpAny_bind (wpAny_tupleItemsOf ho hd ?_)
 refine wpAny_bind (wpAny_tupleItemsOf ho' hd' ?_)
 have sz:its.size=its'.size:=by rw [← Array.length_toList,← Array.length_toList,hi,hi']; rfl
 rw [hi,hi']
 refine wpAny_bind ?_
 simp only [List.zip_cons_cons,List.zip_nil_left,List.forIn_cons,List.forIn_nil]
 refine wpAny_bind (wpAny_bind ((intKind prog w).eqBool (a:=a.1) (b:=b.1) (intKind_is _ _ _ _) (intKind_is _ _ _ _) ?_))
 by_cases e1:a.1=b.1
 ·rw [decide_eq_true e1]
  simp only [Bool.not_true,Bool.false_eq_true,if_false]
  refine wpAny_pure ?_
  refine wpAny_bind (wpAny_bind ((intKind prog w).eqBool (a:=a.2) (b:=b.2) (intKind_is _ _ _ _) (intKind_is _ _ _ _) ?_))
  by_cases e2:a.2=b.2
  ·rw [decide_eq_true e2]
   simp only [Bool.not_true,Bool.false_eq_true,if_false]
   refine wpAny_pure (wpAny_pure ?_)
   have z:ltP b a=false:=by unfold ltP; simp; omega
   rw [z] at h
   refine wpAny_pure ?_
   show P (.done (.ret (.bool (decide (its.size > its'.size))))) s
   rw [sz,decide_eq_false (Nat.lt_irrefl _)]
   exact h
  ·rw [decide_eq_false e2]
   simp only [Bool.not_false,if_true]
   have z:ltP b a=decide (b.2 < a.2):=by unfold ltP; rw [e1]; simp
   rw [z] at h
   exact wpAny_bind (wpAny_rule (wpAny_bind (pB (wpAny_bind (wpAny_pure (wpAny_pure (wpAny_pure (wpAny_pure h))))))))
 ·rw [decide_eq_false e1]
  simp only [Bool.not_false,if_true]
  have z:ltP b a=decide (b.1 < a.1):=by unfold ltP; simp [Ne.symm e1]
  rw [z] at h
  exact wpAny_bind (wpAny_rule (wpAny_bind (pB (wpAny_bind (wpAny_pure (wpAny_pure (wpAny_pure (wpAny_pure h))))))))
theorem gt_ptsR {x y:Addr} {a b:Int×Int} {Q:Value→Shared→Prop} (hu:A.units < cLine) (hx:TK prog w s.heap [a.1,a.2] x) (hy:TK prog w s.heap [b.1,b.2] y) (h:Q (.bool (ltP b a)) s):
  wpAny (model prog w) A (compareOp .Gt (.ref x) (.ref y)) Q E s:=
 wpAny_richCompare_same_room (op:=.Gt) hx.typeIs hy.typeIs PySem.F.slot_tuple_gt
  (wpAny_call_entry PySem.F.slot_tuple_gt hx.typeIs PySem.F.entry_tuple_gt (vy hx hy ⟨_,rfl,(fun e=> nomatch e),h⟩) (PySem.F.args_tuple_gt_2 _ _)) hu
end
theorem pT {a b:Int×Int}:ltP a b=true↔(a.1 < b.1∨(a.1=b.1∧a.2 < b.2)):=by unfold ltP; exact decide_eq_true_iff
theorem ltP_no {a b:Int×Int}:ltP a b=false↔¬ (a.1 < b.1∨(a.1=b.1∧a.2 < b.2)):=by unfold ltP; exact decide_eq_false_iff_not
theorem ltP_one {a b:Int×Int} (h1:ltP a b=false) (h2:ltP b a=false):a=b:=by
 rw [ltP_no] at h1 h2
 obtain ⟨a1,a2⟩:=a
 obtain ⟨b1,b2⟩:=b
 simp only [Prod.mk.injEq] at *
 omega
theorem best_min (f:Nat→Int×Int):∀ k,argBest (fun i j=> ltP (f i) (f j)) k≤k∧∀ j,j≤k→ltP (f j) (f (argBest (fun i j=> ltP (f i) (f j)) k))=false
 | 0=> ⟨Nat.le_refl _,fun j hj=> by
  obtain rfl:j=0:=by omega
  rw [ltP_no]; simp [argBest]⟩
 | k+1=> by
  obtain ⟨h1,h2⟩:=best_min f k
  by_cases hb:ltP (f (k+1)) (f (argBest (fun i j=> ltP (f i) (f j)) k))=true
  ·rw [argBest,if_pos hb]
   refine ⟨Nat.le_refl _,fun j hj=> ?_⟩
   rw [pT] at hb
   rcases Nat.lt_or_ge j (k+1) with z | z
   ·have:=ltP_no.mp (h2 j (by omega))
    rw [ltP_no]; omega
   ·obtain rfl:j=k+1:=by omega
    rw [ltP_no]; omega
  ·rw [argBest,if_neg hb]
   refine ⟨by omega,fun j hj=> ?_⟩
   rcases Nat.lt_or_ge j (k+1) with z | z
   ·exact h2 j (by omega)
   ·obtain rfl:j=k+1:=by omega
    simpa using hb
theorem best_max (f:Nat→Int×Int):∀ k,argBest (fun i j=> ltP (f j) (f i)) k≤k∧∀ j,j≤k→ltP (f (argBest (fun i j=> ltP (f j) (f i)) k)) (f j)=false
 | 0=> ⟨Nat.le_refl _,fun j hj=> by
  obtain rfl:j=0:=by omega
  rw [ltP_no]; simp [argBest]⟩
 | k+1=> by
  obtain ⟨h1,h2⟩:=best_max f k
  by_cases hb:ltP (f (argBest (fun i j=> ltP (f j) (f i)) k)) (f (k+1))=true
  ·rw [argBest,if_pos hb]
   refine ⟨Nat.le_refl _,fun j hj=> ?_⟩
   rw [pT] at hb
   rcases Nat.lt_or_ge j (k+1) with z | z
   ·have:=ltP_no.mp (h2 j (by omega))
    rw [ltP_no]; omega
   ·obtain rfl:j=k+1:=by omega
    rw [ltP_no]; omega
  ·rw [argBest,if_neg hb]
   refine ⟨by omega,fun j hj=> ?_⟩
   rcases Nat.lt_or_ge j (k+1) with z | z
   ·exact h2 j (by omega)
   ·obtain rfl:j=k+1:=by omega
    simpa using hb
end ST
namespace L2
open PySem PySem.Spec PyProof.Rows
section
variable {X:Cx} {pts:List P2} {M:P2}
theorem v6 {pins:List (Addr×Obj)} {σ:List (Option V)} {H:Hp} {s:Shared} (I:Inv X pins σ H s) {ws:List V} {its:List Value} (rv:aL ws its) (rs:Rps X.K H ws (pts.map pu)) (i:Nat) (y:Value) (hy:its.toArray[i]?=some y):
  i < pts.length∧∃ c,y=.ref c∧ws[i]?=some (.ref c)∧∀ prog w,ST.TK prog w s.heap [(pts.getD i (0,0)).1,(pts.getD i (0,0)).2] c:=by
 have hy':its[i]?=some y:=by simpa using hy
 have hll:ws.length=pts.length:=by rw [rs.len,List.length_map]
 have hi:i < its.length:=aG hy'
 have hw:i < ws.length:=by rw [rv.length]; exact hi
 have hq:i < pts.length:=by omega
 obtain ⟨u,e1,e2⟩:=rv.get (List.getElem?_eq_getElem hw)
 rw [hy'] at e1
 cases e1
 have r:=rs.at_ i _ (pu (pts.getD i (0,0))) (List.getElem?_eq_getElem hw) (by rw [List.getElem?_map,List.getElem?_eq_getElem hq]; simp [hq])
 obtain ⟨c,rfl,t⟩:=ua I r e2
 refine ⟨hq,c,rfl,?_,t⟩
 rw [List.getElem?_eq_getElem hw]
 generalize ws[i]=z at *
 cases r
 cases e2
 rfl
theorem xS {g:Nat} (hg:g < pts.length):(pts.map pu)[g]?=some (pu (pts.getD g (0,0))):=by
 rw [List.getElem?_map,List.getElem?_eq_getElem hg]; simp [hg]
theorem zw (hc:X.calm=true) (hu:X.A.units+10 < cLine) (hM:M∈pts) (hL:∀ q∈pts,ST.ltP q M=false):gx X (.builtin "min") [lp pts] (pu M):=by
 intro pins s σ H vs us Q I r hq
 obtain ⟨O,d,rs,q⟩:=hq
 obtain ⟨v,rfl,h1⟩:=cA rs
 obtain ⟨p1,rfl,r1⟩:=fh r
 cases h1 with
 | @lst a ws _ hq hl hh=>
  cases r1
  obtain ⟨its,rv,pl,_⟩:=I.list (SqL.of (aw _ _ hq))
  have rs':Rps X.K (hid H O) ws (pts.map pu):=⟨hl,hh⟩
  have hlen:its.toArray.size=pts.length:=by rw [List.size_toArray,← rv.length,hl,List.length_map]
  have hat:=v6 (pts:=pts) I rv (rs'.same aw)
  have hn:0 < pts.length:=List.length_pos_of_mem hM
  refine ST.call_minG (G:=fun h=> ∀ (i:Nat) (y:Value),its.toArray[i]?=some y→∃ c,y=.ref c∧ST.TK X.prog X.w h [(pts.getD i (0,0)).1,(pts.getD i (0,0)).2] c) (bt:=fun i j=> ST.ltP (pts.getD i (0,0)) (pts.getD j (0,0))) (I.ok.hd hc) pl.isList (by rw [hlen]; exact hn) (fun i j vi vj s' Q' E' g hi hj k=> ?_) (fun i y hy=> ?_) (fun h h' _ _ k2 i y hy=> ?_) fun y h' tk hy kp=> ?_
  ·obtain ⟨c,rfl,t⟩:=g i vi hi
   obtain ⟨c',rfl,t'⟩:=g j vj hj
   exact ST.lt_ptsR (show X.A.units+1 < cLine by omega) t t' k
  ·obtain ⟨_,c,rfl,_,t⟩:=hat i y hy
   exact ⟨c,rfl,t _ _⟩
  ·obtain ⟨_,c,rfl,_,t⟩:=hat i y hy
   obtain ⟨o,items,n,ho,z⟩:=t X.prog X.w
   exact ⟨c,rfl,o,items,n,k2 c o ho,z⟩
  ·obtain ⟨hg,c,rfl,hw,t⟩:=hat _ y hy
   obtain ⟨b1,b2⟩:=ST.best_min (fun i=> pts.getD i (0,0)) (its.toArray.size - 1)
   have e:pts.getD (argBest (fun i j=> ST.ltP (pts.getD i (0,0)) (pts.getD j (0,0))) (its.toArray.size - 1)) (0,0)=M:=by
    rw [hlen] at b1 b2 hg ⊢
    generalize argBest (fun i j=> ST.ltP (pts.getD i (0,0)) (pts.getD j (0,0))) (pts.length - 1)=g at *
    obtain ⟨j,hj⟩:=List.mem_iff_getElem?.mp hM
    have k1:=b2 j (by have:=aG hj; omega)
    rw [show pts.getD j (0,0)=M by rw [List.getD_eq_getElem?_getD,hj]; rfl] at k1
    exact ST.ltP_one (hL _ (by simp [hg])) k1
   refine ⟨.ref c,H,I.kept (t':=tk) kp,rfl,q _ H (.refl H) ?_⟩
   have z:=rs'.at_ _ _ _ hw (xS hg)
   rw [e] at z
   exact z
theorem yr (hc:X.calm=true) (hu:X.A.units+10 < cLine) (hM:M∈pts) (hL:∀ q∈pts,ST.ltP M q=false):gx X (.builtin "max") [lp pts] (pu M):=by
 intro pins s σ H vs us Q I r hq
 obtain ⟨O,d,rs,q⟩:=hq
 obtain ⟨v,rfl,h1⟩:=cA rs
 obtain ⟨p1,rfl,r1⟩:=fh r
 cases h1 with
 | @lst a ws _ hq hl hh=>
  cases r1
  obtain ⟨its,rv,pl,_⟩:=I.list (SqL.of (aw _ _ hq))
  have rs':Rps X.K (hid H O) ws (pts.map pu):=⟨hl,hh⟩
  have hlen:its.toArray.size=pts.length:=by rw [List.size_toArray,← rv.length,hl,List.length_map]
  have hat:=v6 (pts:=pts) I rv (rs'.same aw)
  have hn:0 < pts.length:=List.length_pos_of_mem hM
  refine ST.call_maxG (G:=fun h=> ∀ (i:Nat) (y:Value),its.toArray[i]?=some y→∃ c,y=.ref c∧ST.TK X.prog X.w h [(pts.getD i (0,0)).1,(pts.getD i (0,0)).2] c) (bt:=fun i j=> ST.ltP (pts.getD j (0,0)) (pts.getD i (0,0))) (I.ok.hd hc) pl.isList (by rw [hlen]; exact hn) (fun i j vi vj s' Q' E' g hi hj k=> ?_) (fun i y hy=> ?_) (fun h h' _ _ k2 i y hy=> ?_) fun y h' tk hy kp=> ?_
  ·obtain ⟨c,rfl,t⟩:=g i vi hi
   obtain ⟨c',rfl,t'⟩:=g j vj hj
   exact ST.gt_ptsR (show X.A.units+1 < cLine by omega) t t' k
  ·obtain ⟨_,c,rfl,_,t⟩:=hat i y hy
   exact ⟨c,rfl,t _ _⟩
  ·obtain ⟨_,c,rfl,_,t⟩:=hat i y hy
   obtain ⟨o,items,n,ho,z⟩:=t X.prog X.w
   exact ⟨c,rfl,o,items,n,k2 c o ho,z⟩
  ·obtain ⟨hg,c,rfl,hw,t⟩:=hat _ y hy
   obtain ⟨b1,b2⟩:=ST.best_max (fun i=> pts.getD i (0,0)) (its.toArray.size - 1)
   have e:pts.getD (argBest (fun i j=> ST.ltP (pts.getD j (0,0)) (pts.getD i (0,0))) (its.toArray.size - 1)) (0,0)=M:=by
    rw [hlen] at b1 b2 hg ⊢
    generalize argBest (fun i j=> ST.ltP (pts.getD j (0,0)) (pts.getD i (0,0))) (pts.length - 1)=g at *
    obtain ⟨j,hj⟩:=List.mem_iff_getElem?.mp hM
    have k1:=b2 j (by have:=aG hj; omega)
    rw [show pts.getD j (0,0)=M by rw [List.getD_eq_getElem?_getD,hj]; rfl] at k1
    exact ST.ltP_one k1 (hL _ (by simp [hg]))
   refine ⟨.ref c,H,I.kept (t':=tk) kp,rfl,q _ H (.refl H) ?_⟩
   have z:=rs'.at_ _ _ _ hw (xS hg)
   rw [e] at z
   exact z
end
end L2
namespace L2
open PySem PySem.Spec PyProof.Rows
section
variable {X:Cx} {H0:Hp} {O0:List Addr} {ps:PSt} {xs:List U} {x:Str} {pos pc p':Pos}
end
end L2
namespace L2
open PySem PySem.Spec PyProof.Rows
section
variable {X:Cx} {H0:Hp} {O0:List Addr} {ps:PSt} {x:Str} {pos:Pos} {a b:Expr} {i j:Int}
theorem yk (hg:Gl X x) (h:∃ t,X.mg x=some (.int i t)) (hd:(x==("__debug__":Str))=false:=by decide):Ev X H0 O0 ps (.Name x pos) (.int i):=by
 obtain ⟨t,hm⟩:=h
 exact PE.mono (xA (v:=.int i) hg hm ⟨t,rfl⟩ hd) fun _ H _ ⟨_,_,k⟩=> k _ H (.refl H) (.int i)
end
end L2
namespace L2
open PySem PySem.Spec PyProof.Rows
section
variable {X:Cx} {H0:Hp} {O0:List Addr} {ps:PSt} {e tg:Expr} {p pos:Pos} {xs:List U} {x:U}
end
end L2
namespace L2
open PySem PySem.Spec PyProof.Rows
section
variable {X:Cx} {H0:Hp} {O0:List Addr} {ps:PSt} {a b:Expr} {pos:Pos} {xs:List U} {u:U} {k:Int}
end
end L2
namespace L2
open PySem PySem.Spec PySem.W PyProof.Rows
section
variable {X:Cx}
end
end L2
namespace L2
open PySem PySem.Spec PyProof.Rows
section
variable {X:Cx} {H0:Hp} {O0:List Addr} {E:XK} {ps ps':PSt} {D:PD} {s:Stmt} {ss body:List Stmt} {a b c e:Expr} {es:List Expr} {pos p:Pos} {u x y:U} {xs ys us:List U} {k:Bool}
 {CX:CXT} {n:Nat} {f C:Addr} {fd:FuncData} {pn:List Str} {spec:List U→Out→Prop} {nm:Str}
end
end L2
namespace L2
open PySem PySem.Spec PyProof.Rows
theorem Rs.free {K:PySem.W.Frag} {H0 H:Hp} {O0 O:List Addr} {ps:PSt} {σ:St} {xs:List U} (n:Nat) (h:ps[n]?=some (some (.own xs))) (R:Rs K H0 O0 ps σ H O):∃ O',(∀ b∈O',b∈O)∧Rs K H0 O0 (ps.set n (some (.val (.lst xs)))) σ H O':=by
 obtain ⟨v,hv,a,vs,rfl,ha,ha0,hH,rs⟩:=R.at_ n _ h
 have less:∀ b∈O.filter (fun b=> decide (b≠a)),b∈O:=fun b hb=> (List.mem_filter.mp hb).1
 have keep:∀ b∈O,b≠a→b∈O.filter (fun b=> decide (b≠a)):=fun b hb ne=> List.mem_filter.mpr ⟨hb,by simpa using ne⟩
 have sm:aJ (hid H O) (hid H (O.filter (fun b=> decide (b≠a)))):=eI less
 have na:a ∉ O.filter (fun b=> decide (b≠a)):=fun z=> by have:=(List.mem_filter.mp z).2; simp at this
 refine ⟨O.filter (fun b=> decide (b≠a)),less,R.same,fun b hb=> keep b (R.old b hb) fun e=> ha0 (e ▸ hb),fun b hb=> R.new b (less b hb),fun b hb=> R.dom b (less b hb),by rw [R.len,List.length_set],fun i s hs=> ?_,fun i j ys zs b h1 h2 h3 h4=> ?_⟩
 ·rcases dw hs with ⟨rfl,e⟩ | ⟨ne,hs⟩
  ·cases e
   exact ⟨.ref a,hv,.lst (dU hH na) (rs.same sm).len (rs.same sm).at_⟩
  ·obtain ⟨w,hw,ok⟩:=R.at_ i s hs
   refine ⟨w,hw,?_⟩
   cases s with
   | val u=> exact Rp.same sm ok
   | own ys=>
    obtain ⟨b,ws,rfl,hb,hb0,hHb,rsb⟩:=ok
    refine ⟨b,ws,rfl,keep b hb fun e=> ?_,hb0,hHb,rsb.same sm⟩
    subst e
    exact ne (R.inj n i _ _ b h hs hv hw)
 ·rcases dw h1 with ⟨_,e⟩ | ⟨_,h1⟩
  ·cases e
  ·rcases dw h2 with ⟨_,e⟩ | ⟨_,h2⟩
   ·cases e
   ·exact R.inj i j _ _ b h1 h2 h3 h4
section
variable {X:Cx} {H0:Hp} {O0:List Addr} {E:XK} {ps:PSt} {D:PD} {ss:List Stmt} {e:Expr} {xs:List U} {b:Bool}
theorem ln (n:Nat) (h:ps[n]?=some (some (.own xs))) (w:Ws X H0 O0 E ss D (ps.set n (some (.val (.lst xs))))):Ws X H0 O0 E ss D ps:=
 PSs.mono w fun D' σ H ⟨L,O,R⟩=> by
  obtain ⟨O',_,R'⟩:=R.free n h
  exact ⟨L,O',R'⟩
end
end L2
namespace L2
open PySem PySem.Spec PyProof.Rows
section
variable {X:Cx} {ns:List Int} {M:Int}
theorem lC (hc:X.calm=true) (hM:M∈ns∧∀ a∈ns,a≤M):gx X (.builtin "max") [.lst (ns.map U.int)] (.int M):=by
 intro pins s σ H vs us Q I r hq
 obtain ⟨O,d,rs,q⟩:=hq
 obtain ⟨v,rfl,h1⟩:=cA rs
 obtain ⟨p1,rfl,r1⟩:=fh r
 cases h1 with
 | @lst a ws _ hq hl hh=>
  cases r1
  obtain ⟨its,rv,pl,_⟩:=I.list (SqL.of (aw _ _ hq))
  have hlen:its.length=ns.length:=by rw [← rv.length,hl,List.length_map]
  have hat:=jx (ns:=ns) rv ⟨hl,hh⟩
  have hn:0 < ns.length:=List.length_pos_of_mem hM.1
  refine call_max_walk (wpAny_pyIter_list pl.isList ?_)
  have hal:a < s.heap.objs.size:=by obtain ⟨o,e,_⟩:=pl.isList; exact Heap.lt_size e
  refine ⟨s.heap.objs.size,_,_,_,_,_,_,rfl,Walks.list (A:=X.A.in1) (I.ok.hd hc) s.heap.objs.size a (Nat.ne_of_lt hal) its.toArray,⟨⟨_,Heap.get?_push_size _ rfl,rfl,rfl⟩,pl.isList.push _⟩,fun b hb=> ?_,by rw [List.size_toArray,hlen]; exact hn,CmpOf.ints_gt (fun i=> ns.getD i 0) hat,fun v h' tk hP hk=> ?_⟩
  ·show b < (s.heap.push _).objs.size
   rw [Heap.size_push]
   rcases List.mem_cons.mp hb with z | z
   ·rw [z]; exact Nat.lt_succ_self _
   ·rw [List.mem_singleton.mp z]; exact Nat.lt_succ_of_lt hal
  ·obtain ⟨t,rfl⟩:=hat _ _ hP
   obtain ⟨b1,b2⟩:=argBest_gt (fun i=> ns.getD i 0) (its.toArray.size - 1)
   have e:ns.getD (argBest (fun i j=> decide (ns.getD i 0 > ns.getD j 0)) (its.toArray.size - 1)) 0=M:=by
    rw [List.size_toArray,hlen] at b1 b2 ⊢
    generalize argBest (fun i j=> decide (ns.getD i 0 > ns.getD j 0)) (ns.length - 1)=g at *
    have hg:g < ns.length:=by omega
    obtain ⟨j,hj,ej⟩:=List.getElem_of_mem hM.1
    have k1:=b2 j (by omega)
    have k2:=hM.2 ns[g] (List.getElem_mem hg)
    simp only [List.getD_eq_getElem?_getD,List.getElem?_eq_getElem hg,List.getElem?_eq_getElem hj,Option.getD_some] at k1 ⊢
    omega
   rw [e]
   refine ⟨.int M,H,I.kept (t':=tk) fun b o e=> hk b o ?_ (Heap.get?_push_of_some _ e),⟨t,rfl⟩,q _ H (.refl H) (.int _)⟩
   intro z
   have:b=s.heap.objs.size:=by simpa using z
   exact absurd (Heap.lt_size e) (by rw [this]; exact Nat.lt_irrefl _)
end
end L2
namespace L2
open PySem PySem.Spec PyProof.Rows
section
variable {X:Cx} {H0:Hp} {O0:List Addr} {E:XK} {ps:PSt} {D:PD} {e:Expr} {pos:Pos} {xs ys:List U}
theorem uN (i:Nat) {x:Str} {apos cpos xp:Pos} (hp:ps[i]?=some (some (.own xs))) (ha:Ev X H0 O0 ps e (.lst ys)) (hz:xs.length+ys.length≤sizeLine) (h:D.nx (ps.set i (some (.own (xs++ys)))))
  (hN:X.N[i]?=some x:=by rfl) (hv:Vis X.env.scope x:=by first | exact Or.inl rfl | exact Or.inr (Or.inl rfl) | exact Or.inr (Or.inr rfl)) (hd:(x==("__debug__":Str))=false:=by decide) (hcd:(x==("__classdict__":Str))=false:=by decide)
  (hbase:attributeBase (.Name x xp) "extend" X.env (eval (.Name x xp) X.env)=eval (.Name x xp) X.env:=by rfl)
  (hfew:((backTo cpos (starEach [e] X.env)).all (fun x=> !x.1) && (backToKw cpos (keywordEach [] X.env)).all (fun x=> x.1.isSome) && decide ([e].length+([]:List Keyword).length+(if ([]:List Keyword).isEmpty then 0 else 1) < 30))=true:=by rfl)
  (hline:(apos.endLine==cpos.line)=true:=by rfl) (hse:starEach [e] X.env=(false,eval e X.env)::starEach [] X.env:=by rfl) (hplain:(backTo cpos (starEach [] X.env)).any (·.1)=false:=by rfl)
  (hs:swapsWith (.Call (.Attribute (.Name x xp) "extend" apos) [e] [] cpos) none pos.line X.env=pure false:=by rfl):W1 X H0 O0 E (.Expr (.Call (.Attribute (.Name x xp) "extend" apos) [e] [] cpos) pos) D ps:=
 PS.mono (g8 (xO PySem.F.plainAttrs_list PySem.F.slot_list_extend PySem.F.type_list_extend sD (gA hN hv hd hcd) (dA ha fA hse) hbase hfew hline hse hplain) hs) fun D' σ H ⟨L,O,R⟩=> by
  obtain ⟨v,h1,a,vs,rfl,h3,h4,h5,h6⟩:=R.at_ i _ hp
  refine ⟨_,h1,.inl ⟨rfl,_,SqL.of h5⟩,O,R,fun w H' s r=> ?_⟩
  cases r with
  | @lst b zs _ hq hl hh=>
   refine ⟨a,b,vs,zs,rfl,rfl,s _ _ h5,aw _ _ hq,by rw [h6.len,hl]; exact hz,?_⟩
   exact L.nx _ _ _ O ((R.go s).write hp h1 ((h6.same (bu s)).snoc ⟨hl,hh⟩)) h
end
end L2
namespace L2
open PySem PySem.Spec PySem.W PyProof.Rows
section
variable {X:Cx}
end
section
variable {X:Cx} {H0:Hp} {O0:List Addr} {E:XK} {ps:PSt} {D:PD} {a e:Expr} {es:List Expr} {us:List U} {k:Bool} {n:Nat} {fd:FuncData} {pn:List Str} {spec:List U→Out→Prop}
end
end L2
namespace L2
open PySem PySem.Spec PyProof.Rows
section
variable {X:Cx} {H0:Hp} {O0:List Addr} {ps:PSt} {a b:Expr} {p:P2} {l:List P2}
end
end L2
namespace ST
open PySem PySem.W PySem.Calls PyProof.Rows
section
variable {prog:Program} {w:World} {A:Around} {E:Value→Shared→Prop} {s:Shared}
end
end ST
namespace L2
open PySem PySem.Spec PyProof.Rows
section
variable {X:Cx} {H0:Hp} {O0:List Addr} {ps:PSt} {e:Expr} {p pos:Pos} {a b:P2}
end
end L2
namespace ST
open PySem PySem.W PySem.Calls PyProof.Rows
section
variable {prog:Program} {w:World} {A:Around} {E:Value→Shared→Prop} {s:Shared}
theorem call_sortedL {l:Addr} {pb:PB} {Q:Value→Shared→Prop} (hl:s.heap.IsList l (refs pb).toArray) (htk:∀ p∈pb,TK prog w s.heap [p.1.1,p.1.2] p.2) (hnd:(pb.map (·.1)).Nodup) (h64:pb.length < 64)
  (h:∀ (h1 h':Heap) (tk:Nat) (pb':PB) (e:Nat),pb'.Perm pb→(pb'.map (·.1)).Pairwise (fun x y=> ltP x y=true)→(∀ c o,s.heap.get? c=some o→h1.get? c=some o)→(∀ c o,h1.get? c=some o→h'.get? c=some o)→h'.get? h1.objs.size=some (seqObj "list" (refs pb').toArray e)→Q (.ref h1.objs.size) { s with heap:=h',toks:=tk }):
  wpAny (model prog w) A (call (.builtin "sorted") [.ref l]) Q E s:=by
 have hrl:(refs pb).length=pb.length:=by simp
 refine Calls.call_function_entry kind_sorted plain_sorted entry_sorted (args_sorted1 _) ?_
 unfold Builtin.«sorted»
 refine wpAny_bind (m:=checkCount "sorted" 1 1 _) (wpAny_pure ?_)
 refine wpAny_bind (collect_list hl ?_ (by rw [hrl,sizeLine_eq]; omega))
 refine wpAny_bind (wpAny_newList ?_ (by rw [hrl,sizeLine_eq]; omega))
 generalize hg:(s.heap.push (seqObj "list" #[] 0)).update s.heap.objs.size (Obj.mapSeq (·++(refs pb).toArray))=h1
 have keep:∀ c o,s.heap.get? c=some o→h1.get? c=some o:=fun c o e=> by
  rw [← hg,Heap.get?_update_other _ _ (Nat.ne_of_gt (Heap.lt_size e))]
  exact Heap.get?_push_of_some _ e
 have hD:(h1.push { cls:=.type "list",data:=.seq (refs pb).toArray }).get? h1.objs.size=some (seqObj "list" (refs pb).toArray 0):=Heap.get?_push_size _ rfl
 have up:∀ p∈pb,TK prog w (h1.push { cls:=.type "list",data:=.seq (refs pb).toArray }) [p.1.1,p.1.2] p.2:=fun p hp=> by
  obtain ⟨o,its,n,ho,r⟩:=htk p hp
  exact ⟨o,its,n,Heap.get?_push_of_some _ (keep _ _ ho),r⟩
 refine wpAny_bind (wpAny_holding (wpAny_call_entry slot_list_sort ⟨_,hD,rfl⟩ entry_list_sort ?_ (args_list_sort _)))
 refine mK (s:={ s with heap:=h1.push { cls:=.type "list",data:=.seq (refs pb).toArray } }) hD up hnd h64 fun pb' pp so=> ⟨_,rfl,wpAny_pure ⟨_,rfl,?_⟩⟩
 obtain ⟨e,eD⟩:=sortedHeap_at (out:=(refs pb').toArray) hD
 refine h h1 _ s.toks pb' e pp so keep (fun c o hb=> ?_) eD
 have hlt:=Heap.lt_size hb
 rw [sortedHeap_old (Nat.ne_of_lt hlt) (by rw [Heap.size_push]; exact Nat.lt_succ_of_lt hlt)]
 exact Heap.get?_push_of_some _ hb
end
end ST
namespace L2
open PySem PySem.Spec PyProof.Rows
section
variable {X:Cx} {H0:Hp} {O0:List Addr} {ps:PSt} {e:Expr} {pts:List P2} {pos p:Pos}
set_option maxHeartbeats 1000000 in
theorem qq (hg:Gl X "sorted") (hm:X.mg "sorted"=none) (ha:Ev X H0 O0 ps e (lp pts)) (hl:pts.length < 64∧pts.Nodup)
  (he:starEach [e] X.env=(false,eval e X.env)::starEach [] X.env:=by rfl):EvN X H0 O0 ps (.Call (.Name "sorted" p) [e] [] pos) ((ST.srt pts).map pu):=by
 obtain ⟨hl,hn⟩:=hl
 rintro pins s σ H Q I ⟨O,R,q⟩
 refine wpAny_Call_Name_kw (cR I hg hm boot_sorted ?_)
 refine callWith_builtin1 (e:=e) (rest:=[]) (thn (dA ha fA he pos pins s σ H (fun vs H1=> ∃ v,vs=[v]∧aJ H H1∧Rp X.K (hid H1 O) v (lp pts)) I ⟨O,R,fun v H1 s1 r1=> ⟨v,rfl,s1,r1⟩⟩) fun us s1 hx=> ?_) he rfl
 obtain ⟨vs,H1,I1,rv,v,rfl,sm,rp⟩:=hx
 obtain ⟨u,rfl,ru⟩:=fh rv
 cases rp with
 | @lst a ws _ hq hwl hwi=>
  cases ru
  obtain ⟨its,rw',pl,hz⟩:=I1.list (SqL.of (aw _ _ hq))
  have hlp:ws.length=pts.length:=by rw [hwl,List.length_map]
  have hil:its.length=pts.length:=by rw [← rw'.length,hlp]
  have item:∀ i,i < pts.length→∃ b,its[i]?=some (.ref b)∧Rp X.K (hid H1 O) (.ref b) (pu (pts.getD i (0,0)))∧ST.TK X.prog X.w s1.heap [(pts.getD i (0,0)).1,(pts.getD i (0,0)).2] b:=fun i hi=> by
   have hw:ws[i]?=some ws[i]:=List.getElem?_eq_getElem (by omega)
   have hp:(pts.map pu)[i]?=some (pu (pts.getD i (0,0))):=by rw [List.getElem?_map,List.getElem?_eq_getElem hi]; simp [hi]
   have r:=hwi i _ _ hw hp
   obtain ⟨u',e1,e2⟩:=rw'.get hw
   obtain ⟨b,rfl,tb⟩:=ua I1 (r.same aw) e2
   have ez:ws[i]=.ref b:=by
    generalize ws[i]=z at r e2
    cases r; cases e2; rfl
   rw [ez] at r
   exact ⟨b,e1,r,tb _ _⟩
  let ad:Nat→Addr:=fun i=> match its[i]? with | some (.ref b)=> b | _=> 0
  have adE:∀ i,i < pts.length→its[i]?=some (.ref (ad i))∧Rp X.K (hid H1 O) (.ref (ad i)) (pu (pts.getD i (0,0)))∧ST.TK X.prog X.w s1.heap [(pts.getD i (0,0)).1,(pts.getD i (0,0)).2] (ad i):=fun i hi=> by
   obtain ⟨b,e1,e2,e3⟩:=item i hi
   have:ad i=b:=by show (match its[i]? with | some (.ref b)=> b | _=> 0)=b; rw [e1]
   rw [this]; exact ⟨e1,e2,e3⟩
  generalize ad=ad' at adE
  clear ad
  generalize hpb:((List.range pts.length).map fun i=> ((pts.getD i (0,0),ad' i):(Int×Int)×Addr))=pb
  have hits:its=ST.refs pb:=by
   apply List.ext_getElem?
   intro i
   rw [← hpb]
   unfold ST.refs
   rcases Nat.lt_or_ge i pts.length with z | z
   ·rw [(adE i z).1]; simp [z]
   ·rw [List.getElem?_eq_none (by omega),List.getElem?_eq_none (by simpa using z)]
  have h1p:pb.map (·.1)=pts:=by
   rw [← hpb,List.map_map]
   apply List.ext_getElem?
   intro i
   rcases Nat.lt_or_ge i pts.length with z | z
   ·simp [z]
   ·rw [List.getElem?_eq_none (by simpa using z),List.getElem?_eq_none z]
  have srcb:∀ z∈pb,∃ j,j < pts.length∧z=(pts.getD j (0,0),ad' j):=fun z hz=> by
   rw [← hpb] at hz
   obtain ⟨j,hj,rfl⟩:=List.mem_map.mp hz
   exact ⟨j,List.mem_range.mp hj,rfl⟩
  have hbl:pb.length=pts.length:=by rw [← h1p,List.length_map]
  rw [hits] at pl
  refine ST.call_sortedL (pb:=pb) pl.isList (fun z hz=> ?_) (by rw [h1p]; exact hn) (by omega) fun h3 h4 tk2 pb' ep pm so k1 k2 hD=> ?_
  ·obtain ⟨j,hj,rfl⟩:=srcb z hz
   exact (adE j hj).2.2
  ·have I3:Inv X pins σ H1 { s1 with heap:=h3,toks:=tk2 }:=I1.kept (t':=tk2) k1
   have src:∀ z∈pb',∃ j,j < pts.length∧z=(pts.getD j (0,0),ad' j):=fun z hz=> srcb z (pm.mem_iff.mp hz)
   have epts:pb'.map (·.1)=ST.srt pts:=by
    refine ST.asc_one so (ST.srt_asc pts) fun z=> ?_
    rw [ST.srt_mem,(pm.map (·.1)).mem_iff,h1p]
   have fr:H1 h3.objs.size=none:=I3.hok.fresh (Nat.le_refl _)
   refine ⟨.ref h3.objs.size,upd H1 h3.objs.size (.lst (pb'.map fun z=> V.ref z.2)),?_,rfl,?_⟩
   ·refine I3.laid (t':=tk2) k2 (Nat.le_refl _) ⟨?_,(ST.refs pb'),ep,?_,hD⟩
    ·rw [List.length_map,pm.length_eq,hbl,sizeLine_eq]
     omega
    ·have all:∀ l:ST.PB,aL (l.map fun z=> V.ref z.2) (ST.refs l):=fun l=> by
      induction l with
      | nil=> exact .nil
      | cons z r ih=> exact .cons rfl ih
     exact all pb'
   ·refine q _ _ _ (sm.trans (aW fr _)) (sm.free fr) aU ⟨?_,fun i z x e1 e2=> ?_⟩
    ·rw [List.length_map,← epts,List.length_map,List.length_map]
    ·rw [← epts,List.map_map,List.getElem?_map] at e2
     rw [List.getElem?_map] at e1
     cases hpi:pb'[i]? with
     | none=> rw [hpi] at e1; cases e1
     | some y=>
      rw [hpi] at e1 e2
      cases e1
      cases e2
      obtain ⟨j,hj,rfl⟩:=src y (List.mem_of_getElem? hpi)
      exact (adE j hj).2.1.same (bP (aW fr _) fr)
end
end L2
namespace L2
open PySem PySem.Spec PySem.W PyProof.Rows
section
variable {X:Cx}
end
section
variable {X:Cx} {H0:Hp} {O0:List Addr} {E:XK} {ps:PSt} {D:PD} {a e:Expr} {es:List Expr} {us:List U} {k:Bool} {n:Nat} {fd:FuncData} {pn:List Str} {spec:List U→Out→Prop}
end
end L2
namespace L2
open PySem PySem.Spec PySem.W PyProof.Rows
structure vw (K:PySem.W.Frag) (x qual:Str) (st:Stmt) (f:Addr) (fd:FuncData) (D:Addr):Prop where
 ex:∃ (oc:Value) (od:Option Addr) (kV doc pm:Value) (an:Option Addr) (cdv ct:Value) (osl:Array (Option Value)),
  fd=PySem.W.fnOf x qual (au st) (aq st) (ah st) (.ref D) kV doc pm an cdv ct∧K.lookup f=some ⟨oc,od,.func fd,osl⟩∧PySem.W.codeIn K cdv qual=true
 kp:PySem.W.keepIn K (.ref f)=true
theorem v_ {K:PySem.W.Frag} {x qual:Str} {st:Stmt} {f D:Addr} {oc:Value} {od an:Option Addr} {osl:Array (Option Value)} {kV doc pm cdv ct:Value} (l:K.lookup f=some ⟨oc,od,.func (PySem.W.fnOf x qual (au st) (aq st) (ah st) (.ref D) kV doc pm an cdv ct),osl⟩)
  (c:PySem.W.codeIn K cdv qual=true) (k:PySem.W.keepIn K (.ref f)=true):vw K x qual st f (PySem.W.fnOf x qual (au st) (aq st) (ah st) (.ref D) kV doc pm an cdv ct) D:=⟨⟨oc,od,kV,doc,pm,an,cdv,ct,osl,rfl,l,c⟩,k⟩
section
variable {P:Program} {w:World} {K:PySem.W.Frag} {mg:Str→Option Value} {base:Heap} {N pn:List Str} {qual nm:Str} {f D:Addr}
theorem vw.okF {x:Str} {st:Stmt} {fd:FuncData} {k:Nat} {sp:Sp} (F:vw K x qual st f fd D) (S:av N pn (ah st)) (len:∀ vs H Q E,sp vs H Q E→vs.length=pn.length)
  (hbody:∀ (cdv:Value) (A:Around) (outer:List Env) (s:Shared) (H:Hp) (vs:List V) (Q:VK) (E:XK),dR k (A.deeper (envOfC qual (ah st) s.heap.objs.size f cdv))→sp vs H Q E→
   ∃ t,PSs (dW (CXF P w) P w K mg base N qual (ah st) f cdv A outer s H E) (aq st) t∧t { nx:=fun _ H'=> Q .non H',rt:=Q } (start N vs) H):aX P w K mg base (CXF P w) (k+1) f fd pn sp:=by
 obtain ⟨oc,od,kV,doc,pm,an,cdv,ct,osl,rfl,lk,hcd⟩:=F.ex
 exact yh lk hcd S len fun A outer s H vs Q E hr hsp=> hbody cdv A outer s H vs Q E hr hsp
theorem yO {st:Stmt} {fd:FuncData} {k:Nat} {spec:List U→Out→Prop} (F:vw K nm qual st f fd D) (S:av N pn (ah st)) (len:∀ us o,spec us o→us.length=pn.length)
  (hbody:∀ (cdv:Value) (A:Around) (outer:List Env) (s:Shared) (H:Hp) (E:XK) (O:List Addr) (us:List U) (o:Out),dR k (A.deeper (envOfC qual (ah st) s.heap.objs.size f cdv))→spec us o→
   Ws (dW (CXF P w) P w K mg base N qual (ah st) f cdv A outer s H E) H O E (aq st) ⟨fun _=> o=.val .non,fun o'=> o'=o,fun _=> False,fun _=> False⟩ (fI N us)):aX P w K mg base (CXF P w) (k+1) f fd pn (spU K spec):=by
 refine F.okF S (fun vs H Q E h=> ?_) fun cdv A outer s H vs Q E hr h=> ?_
 ·obtain ⟨us,O,o,_,r,hsp,_⟩:=h
  rw [r.len]; exact len us o hsp
 ·obtain ⟨us,O,o,d,r,hsp,q⟩:=h
  refine ⟨_,hbody cdv A outer s H E O us o hr hsp,⟨fun ps σ H' O' R e=> ?_,fun _ _ _ _ _ e=> e.elim,fun _ _ _ _ _ e=> e.elim,fun o' e=> by subst e; exact q⟩,O,?_⟩
  ·subst e; exact q .non H' R.same .non
  ·refine ⟨.refl H,fun a h=> h,fun a h=> .inl h,d,?_,fun i sl e=> ?_,fun i j xs ys a e1 e2 _ _=> ?_⟩
   ·unfold start fI
    rw [List.length_append,List.length_append,List.length_map,List.length_map,List.length_replicate,List.length_replicate,r.len]
   ·unfold fI at e
    by_cases hi:i < us.length
    ·rw [List.getElem?_append_left (by simpa using hi),List.getElem?_map,List.getElem?_eq_getElem hi] at e
     cases e
     obtain ⟨v,h1,h2⟩:=r.get (List.getElem?_eq_getElem hi)
     refine ⟨v,?_,h2⟩
     unfold start
     rw [List.getElem?_append_left (by simpa [r.len] using hi),List.getElem?_map,h1]; rfl
    ·rw [List.getElem?_append_right (by simpa using hi),List.getElem?_replicate] at e
     split at e <;> cases e
   ·exfalso
    unfold fI at e1
    by_cases hi:i < us.length
    ·rw [List.getElem?_append_left (by simpa using hi),List.getElem?_map,List.getElem?_eq_getElem hi] at e1
     cases e1
    ·rw [List.getElem?_append_right (by simpa using hi),List.getElem?_replicate] at e1
     split at e1 <;> cases e1
end
section
variable {X:Cx} {H0:Hp} {O0:List Addr} {ps:PSt} {e:Expr} {es:List Expr} {pos p:Pos} {u:U} {us:List U} {xs:List U} {CX:CXT} {n:Nat} {f:Addr} {fd:FuncData} {pn:List Str} {spec:List U→Out→Prop} {nm:Str} {j:Int}
theorem pU (F:aX X.prog X.w X.K X.mg X.base CX n f fd pn (spU X.K spec)) (hr:dR n X.A) (hg:Gl X nm) (hm:X.mg nm=some (.ref f)) (hk:PySem.W.keepIn X.K (.ref f)=true) (hb:∃ t,aK X.K fd pn [.int j t]) (hx:fu CX X E0)
  (ha:EvA X H0 O0 ps (e::es) us) (h:spec (us++[.int j]) (.val u)) (hdb:(nm==("__debug__":Str))=false:=by decide) (he:starEach (e::es) X.env=(false,eval e X.env)::starEach es X.env:=by rfl) (hpl:(backTo pos (starEach es X.env)).any (·.1)=false:=by rfl):
  Ev X H0 O0 ps (.Call (.Name nm p) (e::es) [] pos) u:=by
 obtain ⟨t,hb⟩:=hb
 refine PE.mono (iL F hr hg hm hk hb (.cons (show aY (.int j) (.int j t) from ⟨t,rfl⟩) .nil) hx ha hdb he hpl) fun σ H Q ⟨O,R,q⟩=> ⟨O,R,fun vs H1 s1 r1=> ?_⟩
 show spU X.K spec (vs++[.int j]) H1 Q _
 exact ⟨us++[.int j],O,.val u,(R.go s1).dom,r1.snoc (.cons (.int _) .nil),h,fun v H2 s2 r2=> q v H2 (s1.trans s2) r2⟩
end
end L2
namespace L2
open PySem PySem.Spec PyProof.Rows
section
variable {X:Cx} {H0:Hp} {O0:List Addr} {ps:PSt} {a b:Expr} {k:Int} {ns:List Int}
end
end L2
namespace L2
open PySem PySem.Spec PyProof.Rows
theorem sB {P:Program} {w:World} {K:PySem.W.Frag} {tg:Expr} (it:Addr) (lo:Int) (n:Nat):vS P w K tg (Itr lo n) [it] it (fun i h=> IsLongIter h it (lo+(i:Nat) * 1) ((n:Int) - (i:Nat)) 1) where
 mem:=by simp
 obj:=fun i h st b hb=> by
  have e:b=it:=by simpa using hb
  subst e
  exact ⟨_,st,fun v z=> by
   have z':Data.fields _=Data.cell v:=z
   cases z'⟩
 keep:=fun i h h' st k=> k it (by simp) _ st
 item:=by
  intro X hP hw hK hc i pins s σ H E I hf st hg
  subst hP hw hK
  obtain ⟨f0,f1,f2,f3,f4,f5⟩:=hf it (by simp)
  have W:=Walks.longrange (prog:=X.prog) (w:=X.w) (I.ok.hd hc) it lo 1 n
  refine W.item i s _ _ hg st fun v h' tk hv st' kk=> ?_
  obtain ⟨t,rfl⟩:=hv
  have I1:Inv X pins σ H { s with heap:=h',toks:=tk }:=I.turned (fun b o hb e=> kk b o (by simpa using hb) e) f0 f1 f3 f4 f5
  refine ⟨_,rfl,pM (s:={ s with heap:=h',toks:=tk }) (n:="longrange_iterator") st' rfl rfl (by decide) ⟨.int (lo+i),H,I1,⟨t,?_⟩,⟨rfl,rfl⟩,st',fun b hb=> (hf b hb).1⟩⟩
  rw [Int.mul_one]
 done:=by
  intro X hP hw hK hc i pins s σ H E I hf st hg
  subst hP hw hK
  obtain ⟨f0,f1,f2,f3,f4,f5⟩:=hf it (by simp)
  exact wpAny_pyNext_long_end (I.ok.hd hc) st (by have:n≤i:=hg; omega) fun h' eb=> ⟨rfl,I.turned (t':=s.toks) (fun b o hb e=> eb b o hb e) f0 f1 f3 f4 f5⟩
 self:=fun _ _ _ _ _ st h=> wpAny_pyIter_longiter st h
section
variable {X:Cx} {tg:Expr}
theorem kB {pins:List (Addr×Obj)} {σ:St} {H:Hp} {s:Shared} {R:It→Hp→Prop} {E:Value→Shared→Prop} {lo hi:Int} {t u v:Tok} {tk:Nat} (I:Inv X pins σ H s)
  (q:R (Itr lo (hi - lo).toNat) H):wpAny (model X.prog X.w) X.A (pyIter (.ref s.heap.objs.size)) (PIE X pins σ tg R) E { s with heap:=s.heap.push { cls:=.type "range",data:=.fields #[.int lo t,.int hi u,.int 1 v] },toks:=tk }:=by
 have I1:Inv X pins σ H { s with heap:=s.heap.push { cls:=.type "range",data:=.fields #[.int lo t,.int hi u,.int 1 v] },toks:=tk }:=I.kept fun b o e=> Heap.get?_push_of_some _ e
 have e1:lo+((0:Nat):Int) * 1=lo:=by simp
 have e2:(((hi - lo).toNat:Nat):Int) - ((0:Nat):Int)=Builtin.Range.rangeSize lo hi 1:=by rw [rangeSize_one]; split <;> omega
 by_cases hs:Builtin.Range.small lo hi 1=true
 ·refine wpAny_pyIter_range (IsRange.new ..) hs ?_
  refine ⟨(s.heap.push { cls:=.type "range",data:=.fields #[.int lo t,.int hi u,.int 1 v] }).objs.size,[(s.heap.push { cls:=.type "range",data:=.fields #[.int lo t,.int hi u,.int 1 v] }).objs.size],_,_,H,rfl,
   I1.kept (t':=tk) fun b o e=> Heap.get?_push_of_some _ e,jj _ lo (hi - lo).toNat,?_,fun b hb=> ?_,q⟩
  ·show IsRangeIter _ _ (lo+((0:Nat):Int) * 1) ((((hi - lo).toNat:Nat):Int) - ((0:Nat):Int)) 1
   rw [e1,e2]
   exact Heap.get?_push_size _ rfl
  ·have e:b=(s.heap.push { cls:=.type "range",data:=.fields #[.int lo t,.int hi u,.int 1 v] }).objs.size:=by simpa using hb
   subst e
   exact I1.fpOk (Nat.le_refl _) (I1.hok.fresh (Nat.le_refl _))
 ·refine wpAny_pyIter_longrange (IsRange.new ..) (by simpa using hs) ?_
  refine ⟨(s.heap.push { cls:=.type "range",data:=.fields #[.int lo t,.int hi u,.int 1 v] }).objs.size,[(s.heap.push { cls:=.type "range",data:=.fields #[.int lo t,.int hi u,.int 1 v] }).objs.size],_,_,H,rfl,
   I1.kept (t':=tk) fun b o e=> Heap.get?_push_of_some _ e,sB _ lo (hi - lo).toNat,?_,fun b hb=> ?_,q⟩
  ·show IsLongIter _ _ (lo+((0:Nat):Int) * 1) ((((hi - lo).toNat:Nat):Int) - ((0:Nat):Int)) 1
   rw [e1,e2]
   exact Heap.get?_push_size _ rfl
  ·have e:b=(s.heap.push { cls:=.type "range",data:=.fields #[.int lo t,.int hi u,.int 1 v] }).objs.size:=by simpa using hb
   subst e
   exact I1.fpOk (Nat.le_refl _) (I1.hok.fresh (Nat.le_refl _))
def yH (ta:TA):TI:=fun σ H R=> ta σ H fun vs H1=> ∃ i j:Int,vs=[.int i,.int j]∧R (Itr i (j - i).toNat) H1
theorem oI {a b:Expr} {ta:TA} {p pos:Pos} (hg:Gl X "range") (hm:X.mg "range"=none) (ha:PA X [a,b] ta) (hs:starEach [a,b] X.env=[(false,eval a X.env),(false,eval b X.env)]:=by rfl) (hs2:starEach [b] X.env=[(false,eval b X.env)]:=by rfl):
  PI X tg (.Call (.Name "range" p) [a,b] [] pos) (yH ta):=by
 intro pins s σ H R I h
 refine Call_ (cR I hg hm boot_range (PyProof.Rows.callWith_type1 (thn (ha pos pins s σ H _ I h) fun us s1 ⟨vs,H1,I1,r1,q1⟩=> ?_) (by rw [hs,hs2]) (by rw [hs2]; rfl)))
 obtain ⟨i,j,e,q⟩:=q1
 subst e
 cases r1 with
 | cons r rr=>
  cases rr with
  | cons r' rr=>
   cases rr
   obtain ⟨t,rfl⟩:=r
   obtain ⟨t',rfl⟩:=r'
   exact call_range_2 (kB I1 q)
variable {H0:Hp} {O0:List Addr} {ps:PSt} {a b:Expr} {p pos:Pos}
theorem rZ {i j:Int} (hg:Gl X "range") (hm:X.mg "range"=none) (ha:EvA X H0 O0 ps [a,b] [.int i,.int j]) (hs:starEach [a,b] X.env=[(false,eval a X.env),(false,eval b X.env)]:=by rfl) (hs2:starEach [b] X.env=[(false,eval b X.env)]:=by rfl):
  EvI X H0 O0 ps tg (.Call (.Name "range" p) [a,b] [] pos) (d4 i (j - i).toNat):=
 PI.mono (oI hg hm ha hs hs2) fun σ H Q ⟨O,R,q⟩=> ⟨O,R,fun vs H' s r=> by
  obtain ⟨v,w,rfl,k1,k2⟩:=i3 r
  cases k1; cases k2
  exact ⟨i,j,rfl,q _ H' s g5⟩⟩
end
section
variable {X:Cx} {H0:Hp} {O0:List Addr} {E:XK} {ps ps':PSt} {D:PD} {tg iter cond:Expr} {pos p:Pos} {xs:List U}
end
end L2
namespace L2
open PySem PySem.Spec PyProof.Rows
section
variable {X:Cx} {H0:Hp} {O0:List Addr} {ps:PSt} {e:Expr} {ns:List Int} {pos p:Pos}
end
end L2
namespace L2
open PySem PySem.Spec PyProof.Rows
section
variable {X:Cx} {H0:Hp} {O0:List Addr} {E:XK} {ps:PSt} {D:PD} {c:Expr} {pos:Pos} {xs:List U}
end
end L2
namespace L2
open PySem PySem.Spec PyProof.Rows
end L2
namespace L2
open PySem PySem.Spec PyProof.Rows
section
variable {X:Cx} {tg:Expr}
def zA (ta:TA):TI:=fun σ H R=> ta σ H fun vs H1=> ∃ j:Int,vs=[.int j]∧R (Itr 0 (j - 0).toNat) H1
theorem pj {a:Expr} {ta:TA} {p pos:Pos} (hg:Gl X "range") (hm:X.mg "range"=none) (ha:PA X [a] ta) (hs:starEach [a] X.env=[(false,eval a X.env)]:=by rfl):
  PI X tg (.Call (.Name "range" p) [a] [] pos) (zA ta):=by
 intro pins s σ H R I h
 refine Call_ (cR I hg hm boot_range (PyProof.Rows.callWith_type1 (thn (ha pos pins s σ H _ I h) fun us s1 ⟨vs,H1,I1,r1,q1⟩=> ?_) (by rw [hs]; rfl) rfl))
 obtain ⟨j,e,q⟩:=q1
 subst e
 cases r1 with
 | cons r rr=>
  cases rr
  obtain ⟨t,rfl⟩:=r
  exact call_range_1 (kB I1 q)
variable {H0:Hp} {O0:List Addr} {ps:PSt} {a:Expr} {p pos:Pos}
theorem sA {j:Int} (hg:Gl X "range") (hm:X.mg "range"=none) (ha:EvA X H0 O0 ps [a] [.int j]) (hs:starEach [a] X.env=[(false,eval a X.env)]:=by rfl):
  EvI X H0 O0 ps tg (.Call (.Name "range" p) [a] [] pos) (d4 0 (j - 0).toNat):=
 PI.mono (pj hg hm ha hs) fun σ H Q ⟨O,R,q⟩=> ⟨O,R,fun vs H' s r=> by
  obtain ⟨v,rfl,h⟩:=cA r
  cases h
  exact ⟨j,rfl,q _ H' s g5⟩⟩
end
end L2
local macro_rules | `(tactic| walk_at "sz")=> `(tactic| first | with_reducible assumption | ((with_reducible apply L2.Sz.sub') <;> walk_at "sz") | ((with_reducible apply L2.Sz.add') <;> walk_at "sz") | ((with_reducible apply L2.Sz.mul) <;> walk_at "sz") | ((with_reducible apply L2.Sz.neg) <;> walk_at "sz") | ((with_reducible apply L2.Sz.ediv) <;> walk_at "sz") | ((with_reducible apply L2.Sz.abs) <;> walk_at "sz") | exact L2.Sz.lit (m:=8) (by decide) | exact L2.Sz.emod (m:=250) (by decide) (by decide) | exact L2.Sz.lit (m:=250) (by decide))
local macro_rules | `(tactic| walk_at "mul")=> `(tactic| exact L2.Sz.ok (by walk_at "sz") (by walk_at "sz") (by decide))
local macro_rules | `(tactic| walk_at "div")=> `(tactic| first | exact ⟨by decide,L2.Sz.mono (m:=250) (by decide) (by decide)⟩ | exact ⟨by omega,L2.Sz.mono (by walk_at "sz") (by decide)⟩)
local macro_rules | `(tactic| walk_at "mod")=> `(tactic| first | decide | omega)
local macro_rules | `(tactic| walk_at "szb")=> `(tactic| exact L2.Sz.mono (by walk_at "sz") (by decide))
local macro_rules | `(tactic| walk_at "kit")=> `(tactic| first | exact L2.kit_int_int _ | exact L2.kit_int_bool _ | exact L2.kit_tuple_tuple _ | exact L2.kit_list_list _ | exact L2.kit_bool_int _ | exact L2.kit_list_tuple _ | rfl)
local macro_rules | `(tactic| walk_at "ok")=> `(tactic| first | rfl | decide)
local macro_rules | `(tactic| walk_at "sub")=> `(tactic| first | exact trivial | (refine ⟨rfl,?_⟩; walk_at "sub") | (with_reducible apply L2.SubP.skip; walk_at "sub"))
local macro_rules | `(tactic| walk_at "len")=> `(tactic| first | decide | (simp only [List.length_append,List.length_cons,List.length_nil,List.length_map]; decide))
namespace My
open PySem PySem.Spec PyProof.Rows L2
def top (i:Nat):Stmt:=PySem.Challenge.pw_stakefield_k25_stakes_far.main.body.getD i (.Pass ⟨0,0,0,0⟩)
abbrev cY:Stmt:=top 7
abbrev hU:Stmt:=top 8
abbrev eO:Stmt:=top 9
abbrev hX:Stmt:=top 11
abbrev cV:Stmt:=top 12
abbrev cE:Stmt:=top 13
abbrev eN:Stmt:=top 14
abbrev fW:Stmt:=top 15
abbrev df:Stmt:=top 16
abbrev fT:Stmt:=top 17
abbrev fS:Stmt:=top 18
abbrev ik:Stmt:=top 20
abbrev ck:Stmt:=top 21
abbrev fP:Stmt:=top 22
abbrev fO:Stmt:=top 23
abbrev bH:Stmt:=top 24
abbrev jk:Stmt:=top 25
abbrev bG:Stmt:=top 26
abbrev gD:Stmt:=top 28
abbrev cZ:Stmt:=top 30
abbrev cH:Stmt:=top 31
abbrev cy:Stmt:=top 32
abbrev dc:Stmt:=top 35
abbrev cG:Stmt:=top 36
abbrev eE:Stmt:=top 37
abbrev bM:Stmt:=top 39
abbrev cj:Stmt:=top 40
abbrev bA:Stmt:=top 41
abbrev cm:Stmt:=top 42
abbrev bL:Stmt:=top 43
abbrev cf:Stmt:=top 44
abbrev bp:Stmt:=top 45
abbrev bY:Stmt:=top 46
abbrev cF:Stmt:=top 47
abbrev c_:Stmt:=top 48
abbrev g6:Stmt:=top 49
theorem ma:av ["thing"] ["thing"] (ah cY):=⟨rfl,rfl,rfl,by decide+kernel,rfl,by decide+kernel,by decide+kernel⟩
theorem xr:av ["number"] ["number"] (ah hU):=⟨rfl,rfl,rfl,by decide+kernel,rfl,by decide+kernel,by decide+kernel⟩
theorem bq:av ["a","b","high","high_times","low","low_times","fits","rest","rest_times","s"] ["a","b"] (ah eO):=⟨rfl,rfl,rfl,by decide+kernel,rfl,by decide+kernel,by decide+kernel⟩
theorem wP:av ["move"] ["move"] (ah hX):=⟨rfl,rfl,rfl,by decide+kernel,rfl,by decide+kernel,by decide+kernel⟩
theorem jc:av ["thing","number"] ["thing"] (ah cV):=⟨rfl,rfl,rfl,by decide+kernel,rfl,by decide+kernel,by decide+kernel⟩
theorem lQ:av ["thing"] ["thing"] (ah cE):=⟨rfl,rfl,rfl,by decide+kernel,rfl,by decide+kernel,by decide+kernel⟩
theorem qZ:av ["P","move"] ["P","move"] (ah eN):=⟨rfl,rfl,rfl,by decide+kernel,rfl,by decide+kernel,by decide+kernel⟩
theorem mU:av ["P","move","place"] ["P","move"] (ah fW):=⟨rfl,rfl,rfl,by decide+kernel,rfl,by decide+kernel,by decide+kernel⟩
theorem cI:av ["move","side","a","b","c","d"] ["move"] (ah df):=⟨rfl,rfl,rfl,by decide+kernel,rfl,by decide+kernel,by decide+kernel⟩
theorem vz:av ["P","Q"] ["P","Q"] (ah fT):=⟨rfl,rfl,rfl,by decide+kernel,rfl,by decide+kernel,by decide+kernel⟩
theorem dm:av ["P","Q","far","u","v","parts","s","t"] ["P","Q"] (ah fS):=⟨rfl,rfl,rfl,by decide+kernel,rfl,by decide+kernel,by decide+kernel⟩
theorem wR:av ["P","Q","R"] ["P","Q","R"] (ah ik):=⟨rfl,rfl,rfl,by decide+kernel,rfl,by decide+kernel,by decide+kernel⟩
theorem d_:av ["row","kept","P"] ["row"] (ah ck):=⟨rfl,rfl,rfl,by decide+kernel,rfl,by decide+kernel,by decide+kernel⟩
theorem fq:av ["points","row","there","back"] ["points"] (ah fP):=⟨rfl,rfl,rfl,by decide+kernel,rfl,by decide+kernel,by decide+kernel⟩
theorem vU:av ["land"] ["land"] (ah fO):=⟨rfl,rfl,rfl,by decide+kernel,rfl,by decide+kernel,by decide+kernel⟩
theorem dN:av ["land","A","B"] ["land"] (ah bH):=⟨rfl,rfl,rfl,by decide+kernel,rfl,by decide+kernel,by decide+kernel⟩
theorem pi:av ["land","A","B"] ["land"] (ah jk):=⟨rfl,rfl,rfl,by decide+kernel,rfl,by decide+kernel,by decide+kernel⟩
theorem fB:av ["land","move","P"] ["land","move"] (ah bG):=⟨rfl,rfl,rfl,by decide+kernel,rfl,by decide+kernel,by decide+kernel⟩
theorem ql:av ["land","k","P"] ["land","k"] (ah gD):=⟨rfl,rfl,rfl,by decide+kernel,rfl,by decide+kernel,by decide+kernel⟩
theorem mH:av ["land","k"] ["land","k"] (ah cZ):=⟨rfl,rfl,rfl,by decide+kernel,rfl,by decide+kernel,by decide+kernel⟩
theorem ly:av ["land"] ["land"] (ah cH):=⟨rfl,rfl,rfl,by decide+kernel,rfl,by decide+kernel,by decide+kernel⟩
theorem nB:av ["land","k","many"] ["land","k"] (ah cy):=⟨rfl,rfl,rfl,by decide+kernel,rfl,by decide+kernel,by decide+kernel⟩
theorem b_:av ["land","y","begins","ends","A","B","rise","run"] ["land","y"] (ah dc):=⟨rfl,rfl,rfl,by decide+kernel,rfl,by decide+kernel,by decide+kernel⟩
theorem bO:av ["land","move","levelled","back","found","y","ends","x","P"] ["land"] (ah cG):=⟨rfl,rfl,rfl,by decide+kernel,rfl,by decide+kernel,by decide+kernel⟩
theorem qT:av ["land"] ["land"] (ah eE):=⟨rfl,rfl,rfl,by decide+kernel,rfl,by decide+kernel,by decide+kernel⟩
theorem iI:av ["script","k"] ["script","k"] (ah bM):=⟨rfl,rfl,rfl,by decide+kernel,rfl,by decide+kernel,by decide+kernel⟩
theorem jY:av ["found"] ["found"] (ah cj):=⟨rfl,rfl,rfl,by decide+kernel,rfl,by decide+kernel,by decide+kernel⟩
theorem io:av ["found"] ["found"] (ah bA):=⟨rfl,rfl,rfl,by decide+kernel,rfl,by decide+kernel,by decide+kernel⟩
theorem gd:av ["one","two","three","made"] ["one","two","three"] (ah cm):=⟨rfl,rfl,rfl,by decide+kernel,rfl,by decide+kernel,by decide+kernel⟩
theorem bn:av ["points","row","found","way","half","spot"] ["points"] (ah bL):=⟨rfl,rfl,rfl,by decide+kernel,rfl,by decide+kernel,by decide+kernel⟩
theorem ge:av ["ends","spot","k"] ["ends","spot"] (ah cf):=⟨rfl,rfl,rfl,by decide+kernel,rfl,by decide+kernel,by decide+kernel⟩
theorem be:av ["ends","xs","spot","ys","some","x","y"] ["ends"] (ah bp):=⟨rfl,rfl,rfl,by decide+kernel,rfl,by decide+kernel,by decide+kernel⟩
theorem bQ:av ["script","shape","wide","high","cells","cell"] ["script"] (ah bY):=⟨rfl,rfl,rfl,by decide+kernel,rfl,by decide+kernel,by decide+kernel⟩
theorem kX:av ["cell","small"] ["cell","small"] (ah cF):=⟨rfl,rfl,rfl,by decide+kernel,rfl,by decide+kernel,by decide+kernel⟩
theorem bF:av ["spot","script","x","y","shape","right","above"] ["spot","script"] (ah c_):=⟨rfl,rfl,rfl,by decide+kernel,rfl,by decide+kernel,by decide+kernel⟩
theorem fc:av ["script","ends","due","spot","far","handed","found"] ["script"] (ah g6):=⟨rfl,rfl,rfl,by decide+kernel,rfl,by decide+kernel,by decide+kernel⟩
set_option genInjectivity false in
set_option genSizeOf false in
set_option genSizeOfSpec false in
structure Txt (K:PySem.W.Frag) (mg:Str→Option Value) where
 a_is_whole:Addr
 d_is_whole:FuncData
 F_is_whole:Fun K "is_whole" "is_whole" cY a_is_whole d_is_whole
 b_is_whole:aK K d_is_whole ["thing"] []
 m_is_whole:mg "is_whole"=some (.ref a_is_whole)
 a_sign:Addr
 d_sign:FuncData
 F_sign:Fun K "sign" "sign" hU a_sign d_sign
 b_sign:aK K d_sign ["number"] []
 m_sign:mg "sign"=some (.ref a_sign)
 a_shares:Addr
 d_shares:FuncData
 F_shares:Fun K "shares" "shares" eO a_shares d_shares
 b_shares:aK K d_shares ["a","b"] []
 m_shares:mg "shares"=some (.ref a_shares)
 a_hand:Addr
 d_hand:FuncData
 F_hand:Fun K "hand" "hand" hX a_hand d_hand
 b_hand:aK K d_hand ["move"] []
 m_hand:mg "hand"=some (.ref a_hand)
 a_is_move:Addr
 d_is_move:FuncData
 F_is_move:Fun K "is_move" "is_move" cV a_is_move d_is_move
 b_is_move:aK K d_is_move ["thing"] []
 m_is_move:mg "is_move"=some (.ref a_is_move)
 a_need_move:Addr
 d_need_move:FuncData
 F_need_move:Fun K "need_move" "need_move" cE a_need_move d_need_move
 b_need_move:aK K d_need_move ["thing"] []
 m_need_move:mg "need_move"=some (.ref a_need_move)
 a_turned:Addr
 d_turned:FuncData
 F_turned:Fun K "turned" "turned" eN a_turned d_turned
 b_turned:aK K d_turned ["P","move"] []
 m_turned:mg "turned"=some (.ref a_turned)
 a_moved:Addr
 d_moved:FuncData
 F_moved:Fun K "moved" "moved" fW a_moved d_moved
 b_moved:aK K d_moved ["P","move"] []
 m_moved:mg "moved"=some (.ref a_moved)
 a_way_back:Addr
 d_way_back:FuncData
 F_way_back:Fun K "way_back" "way_back" df a_way_back d_way_back
 b_way_back:aK K d_way_back ["move"] []
 m_way_back:mg "way_back"=some (.ref a_way_back)
 a_steps:Addr
 d_steps:FuncData
 F_steps:Fun K "steps" "steps" fT a_steps d_steps
 b_steps:aK K d_steps ["P","Q"] []
 m_steps:mg "steps"=some (.ref a_steps)
 a_level:Addr
 d_level:FuncData
 F_level:Fun K "level" "level" fS a_level d_level
 b_level:aK K d_level ["P","Q"] []
 m_level:mg "level"=some (.ref a_level)
 a_turn:Addr
 d_turn:FuncData
 F_turn:Fun K "turn" "turn" ik a_turn d_turn
 b_turn:aK K d_turn ["P","Q","R"] []
 m_turn:mg "turn"=some (.ref a_turn)
 a_left_bends:Addr
 d_left_bends:FuncData
 F_left_bends:Fun K "left_bends" "left_bends" ck a_left_bends d_left_bends
 b_left_bends:aK K d_left_bends ["row"] []
 m_left_bends:mg "left_bends"=some (.ref a_left_bends)
 a_field:Addr
 d_field:FuncData
 F_field:Fun K "field" "field" fP a_field d_field
 b_field:aK K d_field ["points"] []
 m_field:mg "field"=some (.ref a_field)
 a_sides:Addr
 d_sides:FuncData
 F_sides:Fun K "sides" "sides" fO a_sides d_sides
 b_sides:aK K d_sides ["land"] []
 m_sides:mg "sides"=some (.ref a_sides)
 a_double_area:Addr
 d_double_area:FuncData
 F_double_area:Fun K "double_area" "double_area" bH a_double_area d_double_area
 b_double_area:aK K d_double_area ["land"] []
 m_double_area:mg "double_area"=some (.ref a_double_area)
 a_rim:Addr
 d_rim:FuncData
 F_rim:Fun K "rim" "rim" jk a_rim d_rim
 b_rim:aK K d_rim ["land"] []
 m_rim:mg "rim"=some (.ref a_rim)
 a_field_moved:Addr
 d_field_moved:FuncData
 F_field_moved:Fun K "field_moved" "field_moved" bG a_field_moved d_field_moved
 b_field_moved:aK K d_field_moved ["land","move"] []
 m_field_moved:mg "field_moved"=some (.ref a_field_moved)
 a_fold:Addr
 d_fold:FuncData
 F_fold:Fun K "fold" "fold" gD a_fold d_fold
 b_fold:aK K d_fold ["land","k"] []
 m_fold:mg "fold"=some (.ref a_fold)
 a_multiple:Addr
 d_multiple:FuncData
 F_multiple:Fun K "multiple" "multiple" cZ a_multiple d_multiple
 b_multiple:aK K d_multiple ["land","k"] []
 m_multiple:mg "multiple"=some (.ref a_multiple)
 a_points_in:Addr
 d_points_in:FuncData
 F_points_in:Fun K "points_in" "points_in" cH a_points_in d_points_in
 b_points_in:aK K d_points_in ["land"] []
 m_points_in:mg "points_in"=some (.ref a_points_in)
 a_count:Addr
 d_count:FuncData
 D_count:Addr
 F_count:vw K "count" "count" cy a_count d_count D_count
 b_count:aK K d_count ["land","k"] []
 bd_count:∃ t,aK K d_count ["land","k"] [.int 1 t]
 m_count:mg "count"=some (.ref a_count)
 a_row_ends:Addr
 d_row_ends:FuncData
 F_row_ends:Fun K "row_ends" "row_ends" dc a_row_ends d_row_ends
 b_row_ends:aK K d_row_ends ["land","y"] []
 m_row_ends:mg "row_ends"=some (.ref a_row_ends)
 a_by_rows:Addr
 d_by_rows:FuncData
 F_by_rows:Fun K "by_rows" "by_rows" cG a_by_rows d_by_rows
 b_by_rows:aK K d_by_rows ["land"] []
 m_by_rows:mg "by_rows"=some (.ref a_by_rows)
 a_stakes:Addr
 d_stakes:FuncData
 F_stakes:Fun K "stakes" "stakes" eE a_stakes d_stakes
 b_stakes:aK K d_stakes ["land"] []
 m_stakes:mg "stakes"=some (.ref a_stakes)
 a__law_cell_at:Addr
 d__law_cell_at:FuncData
 F__law_cell_at:Fun K "_law_cell_at" "_law_cell_at" bM a__law_cell_at d__law_cell_at
 b__law_cell_at:aK K d__law_cell_at ["script","k"] []
 m__law_cell_at:mg "_law_cell_at"=some (.ref a__law_cell_at)
 a__law_whole:Addr
 d__law_whole:FuncData
 F__law_whole:Fun K "_law_whole" "_law_whole" cj a__law_whole d__law_whole
 b__law_whole:aK K d__law_whole ["found"] []
 m__law_whole:mg "_law_whole"=some (.ref a__law_whole)
 a__law_is_point:Addr
 d__law_is_point:FuncData
 F__law_is_point:Fun K "_law_is_point" "_law_is_point" bA a__law_is_point d__law_is_point
 b__law_is_point:aK K d__law_is_point ["found"] []
 m__law_is_point:mg "_law_is_point"=some (.ref a__law_is_point)
 a__law_cross:Addr
 d__law_cross:FuncData
 F__law_cross:Fun K "_law_cross" "_law_cross" cm a__law_cross d__law_cross
 b__law_cross:aK K d__law_cross ["one","two","three"] []
 m__law_cross:mg "_law_cross"=some (.ref a__law_cross)
 a__law_corners:Addr
 d__law_corners:FuncData
 F__law_corners:Fun K "_law_corners" "_law_corners" bL a__law_corners d__law_corners
 b__law_corners:aK K d__law_corners ["points"] []
 m__law_corners:mg "_law_corners"=some (.ref a__law_corners)
 a__law_holds:Addr
 d__law_holds:FuncData
 F__law_holds:Fun K "_law_holds" "_law_holds" cf a__law_holds d__law_holds
 b__law_holds:aK K d__law_holds ["ends","spot"] []
 m__law_holds:mg "_law_holds"=some (.ref a__law_holds)
 a__law_walked:Addr
 d__law_walked:FuncData
 F__law_walked:Fun K "_law_walked" "_law_walked" bp a__law_walked d__law_walked
 b__law_walked:aK K d__law_walked ["ends"] []
 m__law_walked:mg "_law_walked"=some (.ref a__law_walked)
 a__law_ends:Addr
 d__law_ends:FuncData
 F__law_ends:Fun K "_law_ends" "_law_ends" bY a__law_ends d__law_ends
 b__law_ends:aK K d__law_ends ["script"] []
 m__law_ends:mg "_law_ends"=some (.ref a__law_ends)
 a__law_lean:Addr
 d__law_lean:FuncData
 F__law_lean:Fun K "_law_lean" "_law_lean" cF a__law_lean d__law_lean
 b__law_lean:aK K d__law_lean ["cell","small"] []
 m__law_lean:mg "_law_lean"=some (.ref a__law_lean)
 a__law_put:Addr
 d__law_put:FuncData
 F__law_put:Fun K "_law_put" "_law_put" c_ a__law_put d__law_put
 b__law_put:aK K d__law_put ["spot","script"] []
 m__law_put:mg "_law_put"=some (.ref a__law_put)
 a_law:Addr
 d_law:FuncData
 F_law:Fun K "law" "law" g6 a_law d_law
 b_law:aK K d_law ["script"] []
 m_law:mg "law"=some (.ref a_law)
 c_NoField:Addr
 x_NoField:PySem.W.excIn K c_NoField [.type "ValueError",.type "Exception",.type "BaseException",.type "object"] "ValueError.__new__"=true
 mx_NoField:mg "NoField"=some (.ref c_NoField)
 c_NoMove:Addr
 x_NoMove:PySem.W.excIn K c_NoMove [.type "ValueError",.type "Exception",.type "BaseException",.type "object"] "ValueError.__new__"=true
 mx_NoMove:mg "NoMove"=some (.ref c_NoMove)
 c_TooMany:Addr
 x_TooMany:PySem.W.excIn K c_TooMany [.type "ValueError",.type "Exception",.type "BaseException",.type "object"] "ValueError.__new__"=true
 mx_TooMany:mg "TooMany"=some (.ref c_TooMany)
 z_abs:mg "abs"=none
 z_all:mg "all"=none
 z_bool:mg "bool"=none
 z_int:mg "int"=none
 z_isinstance:mg "isinstance"=none
 z_len:mg "len"=none
 z_list:mg "list"=none
 z_max:mg "max"=none
 z_min:mg "min"=none
 z_range:mg "range"=none
 z_reversed:mg "reversed"=none
 z_set:mg "set"=none
 z_sorted:mg "sorted"=none
 z_sum:mg "sum"=none
 z_tuple:mg "tuple"=none
 z_zip:mg "zip"=none
 g_MOST_STAKES:∃ t,mg "MOST_STAKES"=some (.int 100 t)
section
variable {P:Program} {w:World} {K:PySem.W.Frag} {mg:Str→Option Value} {base:Heap}
def sgn (n:Int):Int:=if 0 < n then 1 else if n < 0 then -1 else 0
def bR (b:Int):Int:=if b < 0 then -b else b
theorem dq (b:Int):bR b=(b.natAbs:Int):=by unfold bR; split <;> omega
theorem g7 {b:Int} (h:b≠0):0 < bR b:=by unfold bR; split <;> omega
theorem dt (d b:Int):d ∣ bR b↔d ∣ b:=by
 unfold bR; split
 ·exact Int.dvd_neg
 ·exact Iff.rfl
theorem t_ (d b:Int):bR b ∣ d↔b ∣ d:=by
 unfold bR; split
 ·exact Int.neg_dvd
 ·exact Iff.rfl
structure iu (a b high ht low lt:Int):Prop where
 hp:0 < high
 lo0:0≤low
 lolt:low < high
 dv:∀ d,(d ∣ high∧d ∣ low)↔(d ∣ a∧d ∣ b)
 ch:b ∣ ht * a - high
 cl:b ∣ lt * a - low
 bd:ht.natAbs * low.natAbs+lt.natAbs * high.natAbs≤b.natAbs
 hi:high.natAbs≤b.natAbs
theorem nO {a b:Int} (hb:b≠0):iu a b (bR b) 0 (a % bR b) 1:=by
 have h0:=g7 hb
 refine ⟨h0,Int.emod_nonneg _ (by omega),Int.emod_lt_of_pos _ h0,fun d=> ?_,?_,?_,?_,by rw [dq]; simp⟩
 ·rw [dt]
  constructor
  ·rintro ⟨h1,h2⟩
   refine ⟨?_,h1⟩
   have e:=Int.emod_add_mul_ediv a (bR b)
   rw [← e]
   exact Int.dvd_add h2 (Int.dvd_trans ((dt d b).mpr h1) (Int.dvd_mul_right _ _))
  ·rintro ⟨h1,h2⟩
   refine ⟨h2,?_⟩
   have e:a % bR b=a - bR b * (a / bR b):=by have:=Int.emod_add_mul_ediv a (bR b); omega
   rw [e]
   exact Int.dvd_sub h1 (Int.dvd_trans ((dt d b).mpr h2) (Int.dvd_mul_right _ _))
 ·rw [Int.zero_mul,Int.zero_sub,Int.dvd_neg]
  exact (dt b b).mpr (Int.dvd_refl b)
 ·have e:1 * a - a % bR b=bR b * (a / bR b):=by have:=Int.emod_add_mul_ediv a (bR b); omega
  rw [e]
  exact Int.dvd_trans ((dt b b).mpr (Int.dvd_refl b)) (Int.dvd_mul_right _ _)
 ·rw [dq]; simp
theorem pN {a b high ht low lt:Int} (I:iu a b high ht low lt) (h:low≠0):iu a b low lt (high - high / low * low) (ht - high / low * lt)∧high - high / low * low < low:=by
 obtain ⟨hp,lo0,lolt,dv,ch,cl,bd,hi⟩:=I
 have hl:0 < low:=by omega
 have e:=Int.emod_add_mul_ediv high low
 have r0:=Int.emod_nonneg high h
 have r1:=Int.emod_lt_of_pos high hl
 have hf:0≤high / low:=Int.ediv_nonneg (by omega) (by omega)
 have er:high - high / low * low=high % low:=by rw [Int.mul_comm]; omega
 rw [er]
 refine ⟨⟨hl,r0,r1,fun d=> ?_,cl,?_,?_,by omega⟩,r1⟩
 ·rw [← dv d]
  constructor
  ·rintro ⟨h1,h2⟩
   refine ⟨?_,h1⟩
   rw [← e]
   exact Int.dvd_add h2 (Int.dvd_trans h1 (Int.dvd_mul_right _ _))
  ·rintro ⟨h1,h2⟩
   refine ⟨h2,?_⟩
   rw [show high % low=high - low * (high / low) by omega]
   exact Int.dvd_sub h1 (Int.dvd_trans h2 (Int.dvd_mul_right _ _))
 ·have e2:(ht - high / low * lt) * a - high % low=(ht * a - high) - (high / low) * (lt * a - low):=by grind
  rw [e2]
  exact Int.dvd_sub ch (Int.dvd_trans cl (Int.dvd_mul_left _ _))
 ·have n1:(ht - high / low * lt).natAbs≤ht.natAbs+(high / low).natAbs * lt.natAbs:=by
   have:=Int.natAbs_sub_le ht (high / low * lt)
   rw [Int.natAbs_mul] at this
   exact this
  have n2:high.natAbs=(high % low).natAbs+low.natAbs * (high / low).natAbs:=by
   have:(high.natAbs:Int)=((high % low).natAbs+low.natAbs * (high / low).natAbs:Nat):=by
    push_cast
    rw [Int.natAbs_of_nonneg r0,Int.natAbs_of_nonneg hf,Int.natAbs_of_nonneg (by omega:0≤high),Int.natAbs_of_nonneg lo0]
    omega
   omega
  have n3:(ht - high / low * lt).natAbs * low.natAbs≤(ht.natAbs+(high / low).natAbs * lt.natAbs) * low.natAbs:=Nat.mul_le_mul_right _ n1
  rw [n2] at bd
  refine Nat.le_trans ?_ bd
  generalize (ht - high / low * lt).natAbs=A at *
  generalize ht.natAbs=B at *
  generalize lt.natAbs=C at *
  generalize low.natAbs=D at *
  generalize (high / low).natAbs=E at *
  generalize (high % low).natAbs=F at *
  grind
structure eR (a b g s t:Int):Prop where
 g0:0≤g
 eq:s * a+t * b=g
 da:g ∣ a
 db:g ∣ b
 z:b=0→t=0∧s=sgn a∧g=bR a
 nz:b≠0→0 < g∧0≤s∧s < bR b / g
theorem kG (a:Int):eR a 0 (bR a) (sgn a) 0:=by
 refine ⟨by unfold bR; split <;> omega,?_,(t_ a a).mpr (Int.dvd_refl a),Int.dvd_zero _,fun _=> ⟨rfl,rfl,rfl⟩,fun h=> absurd rfl h⟩
 unfold sgn bR
 split
 ·split <;> omega
 ·split
  ·omega
  ·omega
theorem tQ {a b high ht lt:Int} (hb:b≠0) (I:iu a b high ht 0 lt):eR a b high (ht % (bR b / high)) ((high - ht % (bR b / high) * a).fdiv b):=by
 obtain ⟨hp,lo0,lolt,dv,ch,cl,bd,hi⟩:=I
 obtain ⟨ga,gb⟩:=(dv high).mp ⟨Int.dvd_refl _,Int.dvd_zero _⟩
 obtain ⟨a',rfl⟩:=ga
 have gb2:high ∣ bR b:=(dt _ _).mpr gb
 obtain ⟨b',hb'⟩:=gb2
 have hb0:=g7 hb
 have hq:bR b / high=b':=by rw [hb',Int.mul_ediv_cancel_left _ (by omega)]
 have hb1:0 < b':=by
  have:0 < high * b':=by omega
  exact Int.pos_of_mul_pos_right this (by omega)
 rw [hq]
 have es:=Int.emod_add_mul_ediv ht b'
 have key:b ∣ high - ht % b' * (high * a'):=by
  have e:high - ht % b' * (high * a')=-(ht * (high * a') - high)+bR b * (a' * (ht / b')):=by
   rw [hb',show ht % b'=ht - b' * (ht / b') by omega]; grind
  rw [e]
  refine Int.dvd_add (Int.dvd_neg.mpr ch) (Int.dvd_trans ((dt b b).mpr (Int.dvd_refl b)) (Int.dvd_mul_right _ _))
 refine ⟨by omega,?_,Int.dvd_mul_right _ _,gb,fun h=> absurd h hb,fun _=> ⟨hp,Int.emod_nonneg _ (by omega),?_⟩⟩
 ·obtain ⟨c,hc⟩:=key
  rw [hc,Int.mul_fdiv_cancel_left _ hb,Int.mul_comm c b]; omega
 ·rw [hq]; exact Int.emod_lt_of_pos _ hb1
theorem zS {a b high ht low lt:Int} (I:iu a b high ht low lt):lt.natAbs≤b.natAbs:=by
 have h1:1≤high.natAbs:=by have:=I.hp; omega
 have h2:lt.natAbs * 1≤lt.natAbs * high.natAbs:=Nat.mul_le_mul_left _ h1
 have:=I.bd
 omega
theorem tH {a b g s t g' s' t':Int} (h:eR a b g s t) (h':eR a b g' s' t'):g=g'∧s=s'∧t=t':=by
 have d1:g ∣ g':=by rw [← h'.eq]; exact Int.dvd_add (Int.dvd_trans h.da (Int.dvd_mul_left _ _)) (Int.dvd_trans h.db (Int.dvd_mul_left _ _))
 have d2:g' ∣ g:=by rw [← h.eq]; exact Int.dvd_add (Int.dvd_trans h'.da (Int.dvd_mul_left _ _)) (Int.dvd_trans h'.db (Int.dvd_mul_left _ _))
 have eg:g=g':=Int.dvd_antisymm h.g0 h'.g0 d1 d2
 subst eg
 by_cases hb:b=0
 ·obtain ⟨h1,h2,_⟩:=h.z hb
  obtain ⟨k1,k2,_⟩:=h'.z hb
  exact ⟨rfl,by omega,by omega⟩
 ·obtain ⟨p,s0,s1⟩:=h.nz hb
  obtain ⟨_,s0',s1'⟩:=h'.nz hb
  obtain ⟨a',ha⟩:=h.da
  obtain ⟨b',hb'⟩:=(dt g b).mpr h.db
  obtain ⟨b'',hb''⟩:=h.db
  have hq:bR b / g=b':=by rw [hb',Int.mul_ediv_cancel_left _ (by omega)]
  rw [hq] at s1 s1'
  have e1:=h.eq
  have e2:=h'.eq
  have bz:b''≠0:=by intro z; rw [z,Int.mul_zero] at hb''; exact hb hb''
  have k1:s * a'+t * b''=1:=by
   have:g * (s * a'+t * b'')=g * 1:=by rw [ha,hb''] at e1; grind
   exact Int.eq_of_mul_eq_mul_left (by omega) this
  have k2:s' * a'+t' * b''=1:=by
   have:g * (s' * a'+t' * b'')=g * 1:=by rw [ha,hb''] at e2; grind
   exact Int.eq_of_mul_eq_mul_left (by omega) this
  have k3:b'' ∣ s - s':=by
   refine ⟨s * (t' - t)+t * (s - s'),?_⟩
   grind
  have k4:b' ∣ s - s':=by
   have:b'.natAbs=b''.natAbs:=by
    have q1:(bR b).natAbs=b.natAbs:=by rw [dq]; simp
    rw [hb',hb''] at q1
    rw [Int.natAbs_mul,Int.natAbs_mul] at q1
    exact Nat.eq_of_mul_eq_mul_left (by omega) q1
   exact Int.natAbs_dvd_natAbs.mp (by rw [this]; exact Int.natAbs_dvd_natAbs.mpr k3)
  have k5:s=s':=by
   have:s - s'=0:=Int.eq_zero_of_dvd_of_natAbs_lt_natAbs k4 (by omega)
   omega
  subst k5
  refine ⟨rfl,rfl,?_⟩
  have:b * t=b * t':=by grind
  exact Int.eq_of_mul_eq_mul_left hb this
theorem xN {a b:Int} (hb:b≠0):∀ (n:Nat) (high ht low lt:Int),low.toNat≤n→iu a b high ht low lt→∃ high' ht' lt',iu a b high' ht' 0 lt'
 | 0,high,ht,low,lt,hn,I=> by
  have:low=0:=by have:=I.lo0; omega
  subst this
  exact ⟨_,_,_,I⟩
 | n+1,high,ht,low,lt,hn,I=> by
  by_cases h:low=0
  ·subst h; exact ⟨_,_,_,I⟩
  ·obtain ⟨I2,less⟩:=pN I h
   have:=I2.lo0
   exact xN hb n _ _ _ _ (by have:=I.lo0; omega) I2
theorem lv (a b:Int):∃ g s t,eR a b g s t:=by
 by_cases hb:b=0
 ·subst hb; exact ⟨_,_,_,kG a⟩
 ·obtain ⟨h,ht,lt,I⟩:=xN hb _ _ _ _ _ (Nat.le_refl _) (nO (a:=a) hb)
  exact ⟨_,_,_,tQ hb I⟩
theorem lU {m:Nat} {a b g s t:Int} (G:eR a b g s t) (sa:Sz m a) (sb:Sz m b):Sz (m+8) g∧Sz (m+8) s∧Sz (2 * m+8) t:=by
 by_cases hb:b=0
 ·subst hb
  obtain ⟨h1,h2,h3⟩:=G.z rfl
  rw [h1,h2,h3]
  have s1:Sz 8 (sgn a):=by unfold Sz sgn; split; decide; split <;> decide
  exact ⟨(Sz.abs sa).mono (by omega),s1.mono (by omega),Sz.mono (m:=8) (by decide) (by omega)⟩
 ·obtain ⟨g0,s0,s1⟩:=G.nz hb
  have h1:bR b / g≤bR b:=Int.ediv_le_self _ (by have:=g7 hb; omega)
  have h2:=dq b
  have sg:Sz m g:=by
   refine sb.natle ?_
   exact Nat.le_of_dvd (by omega) (Int.natAbs_dvd_natAbs.mpr G.db)
  have ss:Sz m s:=sb.natle (by omega)
  refine ⟨sg.mono (by omega),ss.mono (by omega),?_⟩
  have e:t * b=g - s * a:=by have:=G.eq; omega
  have q:Sz (2 * m+1) (t * b):=by
   rw [e]
   have:Sz (m+m) (s * a):=ss.mul sa
   have h3:=(sg.mono (show m≤m+m by omega)).sub this
   exact h3.mono (by omega)
  refine (Sz.mono (m:=2 * m+1) ?_ (by omega))
  unfold Sz at *
  rw [Int.natAbs_mul] at q
  have:1≤b.natAbs:=by omega
  exact Nat.lt_of_le_of_lt (Nat.le_mul_of_pos_right _ this) q
def rR:List U→Out→Prop:=fun us o=> ∃ n:Int,us=[.int n]∧o=.val (.int (sgn n))
set_option maxHeartbeats 8000000 in
theorem pG (T:Txt K mg):aX P w K mg base (CXF P w) 1 T.a_sign T.d_sign ["number"] (spU K (rR)):=by
 refine bg T.F_sign xr (fun us o h=> ?_) (fun cdv A outer s H E O us o hr h=> ?_)
 ·obtain ⟨n,rfl,rfl⟩:=h
  rfl
 obtain ⟨n,rfl,rfl⟩:=h
 refine Ws.nox ?_
 refine ae (h9 (aV jo (aa 0 rfl) ai) (fun hT=> ?_) (fun hF=> (aQ ?_)))
 ·refine ae (aH ai ?_)
  exact vIO (by unfold sgn; rw [if_pos (dTb hT)])
 ·refine ae (h9 (aV g9 (aa 0 rfl) ai) (fun hT=> ?_) (fun hF=> (aQ ?_)))
  ·refine ae (aH (cU ai) ?_)
   exact vIO (by unfold sgn; rw [if_neg (dFb hF),if_pos (dTb hT)])
  ·rename_i hF2
   refine ae (aH ai ?_)
   exact vIO (by unfold sgn; rw [if_neg (dFb hF),if_neg (dFb hF2)])
def mS:List U→Out→Prop:=fun us o=> ∃ a b g s t:Int,us=[.int a,.int b]∧Sz 4000 a∧Sz 4000 b∧eR a b g s t∧o=.val (.tup [.int g,.int s,.int t])
theorem mf {a b g s t g' s' t':Int} (G:eR a b g s t) (G':eR a b g' s' t'):Out.val (.tup [.int g,.int s,.int t])=Out.val (.tup [.int g',.int s',.int t']):=by
 obtain ⟨rfl,rfl,rfl⟩:=tH G G'
 rfl
set_option maxHeartbeats 8000000 in
theorem kJ (T:Txt K mg):aX P w K mg base (CXF P w) 2 T.a_shares T.d_shares ["a","b"] (spU K (mS)):=by
 refine bg T.F_shares bq (fun us o h=> ?_) (fun cdv A outer s H E O us o hr h=> ?_)
 ·obtain ⟨a,b,g,s,t,rfl,sa,sb,G,rfl⟩:=h
  rfl
 obtain ⟨a,b,g,s,t,rfl,sa,sb,G,rfl⟩:=h
 refine Ws.nox ?_
 refine ae (h9 (aV dX (aa 1 rfl) ai) (fun hT=> ?_) (fun hF=> (aQ ?_)))
 ·have hb:b=0:=dTb hT
  subst hb
  refine ae (aH (cO (aB (ao vg rfl T.z_abs PyProof.Rows.boot_abs (ac (aa 0 rfl) am ag)) (aB (ay ((pG T).mono (by decide)) hr rfl T.m_sign T.F_sign.kp T.b_sign aA (ac (aa 0 rfl) am ag) ⟨_,rfl,rfl⟩) (aB ai bS e8) cQ) cQ)) ?_)
  exact mf (kG a) G
 ·have hb:b≠0:=dFb hF
  have hp0:=g7 hb
  have sab:Sz 4000 (bR b):=Sz.abs sb
  refine ae (aF (i:=2) bq.nd rfl (Or.inl rfl) (ao vg rfl T.z_abs PyProof.Rows.boot_abs (ac (aa 1 rfl) am ag)) ?_)
  refine ae (aF (i:=3) bq.nd rfl (Or.inl rfl) ai ?_)
  refine ae (aF (i:=4) bq.nd rfl (Or.inl rfl) (eL (aa 0 rfl) (aa 2 rfl) hp0) ?_)
  refine ae (aF (i:=5) bq.nd rfl (Or.inl rfl) ai ?_)
  refine ae (jH (fun m:Int×Int×Int×Int=> [some (.val (.int a)),some (.val (.int b)),some (.val (.int m.1)),some (.val (.int m.2.1)),some (.val (.int m.2.2.1)),some (.val (.int m.2.2.2)),none,none,none,none]) (fun n m=> n=m.2.2.1.toNat∧iu a b m.1 m.2.1 m.2.2.1 m.2.2.2) PassesOwn.never ?h0 ?hs)
  case h0=> exact ⟨_,(_,_,_,_),⟨rfl,nO hb⟩,rfl,rfl,rfl,rfl,rfl,rfl,trivial⟩
  case hs=>
   rintro m ⟨high,ht,low,lt⟩ ⟨rfl,I⟩
   dsimp only at I ⊢
   have hl0:=I.lo0
   have hl1:=I.lolt
   have sh:Sz 4000 high:=sb.natle I.hi
   have sl:Sz 4000 low:=sh.natle (by omega)
   have slt:Sz 4000 lt:=sb.natle (zS I)
   refine ⟨_,(aV ya (aa 4 rfl) ai),fun h=> ?_,fun h ps hps=> ?_⟩
   ·have hl:low≠0:=nTb h
    obtain ⟨I2,less⟩:=pN I hl
    have hlt:(high - high / low * low).toNat < low.toNat:=by clear h; omega
    refine ae (aF (i:=6) bq.nd rfl (Or.inl rfl) (fi (aa 2 rfl) (aa 4 rfl) (by walk_at "div")) ?_)
    have sf:Sz 4000 (high / low):=sh.ediv
    refine ae (aF (i:=7) bq.nd rfl (Or.inl rfl) (bv (aa 2 rfl) (bh (aa 6 rfl) (aa 4 rfl) (by walk_at "mul"))) ?_)
    refine ae (aF (i:=8) bq.nd rfl (Or.inl rfl) (bv (aa 3 rfl) (bh (aa 6 rfl) (aa 5 rfl) (by walk_at "mul"))) ?_)
    refine ae (aF (i:=2) bq.nd rfl (Or.inl rfl) (aa 4 rfl) ?_)
    refine ae (aF (i:=3) bq.nd rfl (Or.inl rfl) (aa 5 rfl) ?_)
    refine ae (aF (i:=4) bq.nd rfl (Or.inl rfl) (aa 7 rfl) ?_)
    refine ae (aF (i:=5) bq.nd rfl (Or.inl rfl) (aa 8 rfl) (aQ ?_))
    exact ⟨_,(_,_,_,_),hlt,⟨rfl,I2⟩,rfl,rfl,rfl,rfl,rfl,rfl,trivial⟩
   ·have hl:low=0:=nFb h
    subst hl
    refine eM ?_ hps
    have G2:=tQ hb I
    obtain ⟨g0,s0,s1⟩:=G2.nz hb
    have hm:0 < bR b / high:=by omega
    have hg:0 < high:=I.hp
    have ss:Sz 4000 (ht % (bR b / high)):=by
     refine sb.natle ?_
     have h1:bR b / high≤bR b:=Int.ediv_le_self _ (by omega)
     have h2:=dq b
     omega
    refine ae (aF (i:=9) bq.nd rfl (Or.inl rfl) (eL (aa 3 rfl) (fi (ao vg rfl T.z_abs PyProof.Rows.boot_abs (ac (aa 1 rfl) am ag)) (aa 2 rfl) ⟨hg,sh.mono (by decide)⟩) hm) ?_)
    refine ae (aH (cO (aB (aa 2 rfl) (aB (aa 9 rfl) (aB (y6 (bv (aa 2 rfl) (bh (aa 9 rfl) (aa 0 rfl) (Sz.ok ss sa (by decide)))) (aa 1 rfl) ⟨hb,sb.mono (by decide)⟩) bS bJ) ag) ag)) ?_)
    exact mf G2 G
def isInt:U→Bool
 | .int _=> true
 | _=> false
abbrev mv (a b c d e f:Int):U:=.tup [.int a,.int b,.int c,.int d,.int e,.int f]
def im:U→Bool
 | .tup [.int a,.int b,.int c,.int d,.int _,.int _]=> decide (a * d - b * c=1) || decide (a * d - b * c=-1)
 | _=> false
structure lH (u:U):Prop where
 ty:∀ m,u≠.ty m
 ity:∀ xs,u=.tup xs→∀ x∈xs,∀ m,x≠.ty m
 len:∀ xs,u=.tup xs→xs.length≤100
 sz:∀ a b c d e f,u=mv a b c d e f→Sz 30000 a∧Sz 30000 b∧Sz 30000 c∧Sz 30000 d
theorem lH.of {a b c d e f:Int} (ha:Sz 30000 a) (hb:Sz 30000 b) (hc:Sz 30000 c) (hd:Sz 30000 d):lH (mv a b c d e f):=by
 refine ⟨fun m h=> (nomatch h),fun xs h x hx m e=> ?_,fun xs h=> ?_,fun a' b' c' d' e' f' h=> ?_⟩
 ·cases h; subst e; simp at hx
 ·cases h; simp
 ·cases h; exact ⟨ha,hb,hc,hd⟩
theorem wk {a b c d e f:Int} (h:a * d - b * c=1∨a * d - b * c=-1):im (mv a b c d e f)=true:=by
 show (decide (a * d - b * c=1) || decide (a * d - b * c=-1))=true
 simpa using h
theorem tX {xs:List U} (h:xs.length≠6):im (.tup xs)=false:=by
 unfold im
 split
 ·rename_i e; cases e; simp at h
 ·rfl
theorem yu {xs:List U} (h:xs.length=6) (hi:xs.all isInt=true):∃ a b c d e f,xs=[.int a,.int b,.int c,.int d,.int e,.int f]:=by
 match xs,h with
 | [x1,x2,x3,x4,x5,x6],_=>
  simp only [List.all_cons,List.all_nil,Bool.and_true,Bool.and_eq_true] at hi
  obtain ⟨h1,h2,h3,h4,h5,h6⟩:=hi
  have key:∀ {x:U},isInt x=true→∃ n,x=.int n:=fun {x} h=> by cases x <;> simp [isInt] at h; exact ⟨_,rfl⟩
  obtain ⟨a,rfl⟩:=key h1
  obtain ⟨b,rfl⟩:=key h2
  obtain ⟨c,rfl⟩:=key h3
  obtain ⟨d,rfl⟩:=key h4
  obtain ⟨e,rfl⟩:=key h5
  obtain ⟨f,rfl⟩:=key h6
  exact ⟨a,b,c,d,e,f,rfl⟩
theorem uQ {xs:List U} (h:xs.all isInt=false):im (.tup xs)=false:=by
 unfold im
 split
 ·rename_i e; cases e; simp [isInt] at h
 ·rfl
def oK:List U→Out→Prop:=fun us o=> ∃ u,us=[u]∧(∀ m,u≠.ty m)∧o=.val (.bl (isInt u))
set_option maxHeartbeats 8000000 in
theorem nW (T:Txt K mg):aX P w K mg base (CXF P w) 1 T.a_is_whole T.d_is_whole ["thing"] (spU K (oK)):=by
 refine bg T.F_is_whole ma (fun us o h=> ?_) (fun cdv A outer s H E O us o hr h=> ?_)
 ·obtain ⟨u,rfl,hu,rfl⟩:=h
  rfl
 obtain ⟨u,rfl,hu,rfl⟩:=h
 refine Ws.nox ?_
 cases u with
 | ty m=> exact absurd rfl (hu m)
 | int n=> refine ae (aH (fj (ao (aD (by intro _ h; cases h) (by walk_at "kit")) rfl T.z_isinstance boot_isinstance (ac (aa 0 rfl) (ac (cS rfl T.z_int boot_int) am ag) ag)) (fun hz=> (gg (gM (ao (aD (by intro _ h; cases h) (by walk_at "kit")) rfl T.z_isinstance boot_isinstance (ac (aa 0 rfl) (ac (cS rfl T.z_bool boot_bool) am ag) ag)))))) ?_); exact rfl
 | bl n=> refine ae (aH (fj (ao (aD (by intro _ h; cases h) (by walk_at "kit")) rfl T.z_isinstance boot_isinstance (ac (aa 0 rfl) (ac (cS rfl T.z_int boot_int) am ag) ag)) (fun hz=> (gg (gM (ao (aD (by intro _ h; cases h) (by walk_at "kit")) rfl T.z_isinstance boot_isinstance (ac (aa 0 rfl) (ac (cS rfl T.z_bool boot_bool) am ag) ag)))))) ?_); exact rfl
 | non=> refine ae (aH (fj (ao (aD (by intro _ h; cases h) (by walk_at "kit")) rfl T.z_isinstance boot_isinstance (ac (aa 0 rfl) (ac (cS rfl T.z_int boot_int) am ag) ag)) (fun hz=> (gg (gM (ao (aD (by intro _ h; cases h) (by walk_at "kit")) rfl T.z_isinstance boot_isinstance (ac (aa 0 rfl) (ac (cS rfl T.z_bool boot_bool) am ag) ag)))))) ?_); exact rfl
 | str n=> refine ae (aH (fj (ao (aD (by intro _ h; cases h) (by walk_at "kit")) rfl T.z_isinstance boot_isinstance (ac (aa 0 rfl) (ac (cS rfl T.z_int boot_int) am ag) ag)) (fun hz=> (gg (gM (ao (aD (by intro _ h; cases h) (by walk_at "kit")) rfl T.z_isinstance boot_isinstance (ac (aa 0 rfl) (ac (cS rfl T.z_bool boot_bool) am ag) ag)))))) ?_); exact rfl
 | dic=> refine ae (aH (fj (ao (aD (by intro _ h; cases h) (by walk_at "kit")) rfl T.z_isinstance boot_isinstance (ac (aa 0 rfl) (ac (cS rfl T.z_int boot_int) am ag) ag)) (fun hz=> (gg (gM (ao (aD (by intro _ h; cases h) (by walk_at "kit")) rfl T.z_isinstance boot_isinstance (ac (aa 0 rfl) (ac (cS rfl T.z_bool boot_bool) am ag) ag)))))) ?_); exact rfl
 | scr n=> refine ae (aH (fj (ao (aD (by intro _ h; cases h) (by walk_at "kit")) rfl T.z_isinstance boot_isinstance (ac (aa 0 rfl) (ac (cS rfl T.z_int boot_int) am ag) ag)) (fun hz=> (gg (gM (ao (aD (by intro _ h; cases h) (by walk_at "kit")) rfl T.z_isinstance boot_isinstance (ac (aa 0 rfl) (ac (cS rfl T.z_bool boot_bool) am ag) ag)))))) ?_); exact rfl
 | lst n=> refine ae (aH (fj (ao (aD (by intro _ h; cases h) (by walk_at "kit")) rfl T.z_isinstance boot_isinstance (ac (aa 0 rfl) (ac (cS rfl T.z_int boot_int) am ag) ag)) (fun hz=> (gg (gM (ao (aD (by intro _ h; cases h) (by walk_at "kit")) rfl T.z_isinstance boot_isinstance (ac (aa 0 rfl) (ac (cS rfl T.z_bool boot_bool) am ag) ag)))))) ?_); exact rfl
 | tup n=> refine ae (aH (fj (ao (aD (by intro _ h; cases h) (by walk_at "kit")) rfl T.z_isinstance boot_isinstance (ac (aa 0 rfl) (ac (cS rfl T.z_int boot_int) am ag) ag)) (fun hz=> (gg (gM (ao (aD (by intro _ h; cases h) (by walk_at "kit")) rfl T.z_isinstance boot_isinstance (ac (aa 0 rfl) (ac (cS rfl T.z_bool boot_bool) am ag) ag)))))) ?_); exact rfl
def sT:List U→Out→Prop:=fun us o=> ∃ a b c d e f,us=[mv a b c d e f]∧Sz 30000 a∧Sz 30000 b∧Sz 30000 c∧Sz 30000 d∧o=.val (.int (a * d - b * c))
set_option maxHeartbeats 8000000 in
theorem pF (T:Txt K mg):aX P w K mg base (CXF P w) 1 T.a_hand T.d_hand ["move"] (spU K (sT)):=by
 refine bg T.F_hand wP (fun us o h=> ?_) (fun cdv A outer s H E O us o hr h=> ?_)
 ·obtain ⟨a,b,c,d,e,f,rfl,sa,sb,sc,sd,rfl⟩:=h
  rfl
 obtain ⟨a,b,c,d,e,f,rfl,sa,sb,sc,sd,rfl⟩:=h
 refine Ws.nox ?_
 refine ae (aH (bv (bh (aE (aa 0 rfl) ai rfl rfl) (aE (aa 0 rfl) ai rfl rfl) (by walk_at "mul")) (bh (aE (aa 0 rfl) ai rfl rfl) (aE (aa 0 rfl) ai rfl rfl) (by walk_at "mul"))) ?_); exact rfl
def lX:List U→Out→Prop:=fun us o=> ∃ u,us=[u]∧lH u∧o=.val (.bl (im u))
set_option maxHeartbeats 8000000 in
theorem oS (T:Txt K mg):aX P w K mg base (CXF P w) 2 T.a_is_move T.d_is_move ["thing"] (spU K (lX)):=by
 refine bg T.F_is_move jc (fun us o h=> ?_) (fun cdv A outer s H E O us o hr h=> ?_)
 ·obtain ⟨u,rfl,hu,rfl⟩:=h
  rfl
 obtain ⟨u,rfl,hu,rfl⟩:=h
 refine Ws.nox ?_
 cases u with
 | ty m=> exact absurd rfl (hu.ty m)
 | int n=> refine ae (cT (Tw.t (ji (fN (dP (ao (aD (by intro _ h; cases h) (by walk_at "kit")) rfl T.z_isinstance boot_isinstance (ac (aa 0 rfl) (ac (cS rfl T.z_tuple boot_tuple) am ag) ag)))) rfl)) rfl ?_); refine ae (aH i9 ?_); exact rfl
 | bl n=> refine ae (cT (Tw.t (ji (fN (dP (ao (aD (by intro _ h; cases h) (by walk_at "kit")) rfl T.z_isinstance boot_isinstance (ac (aa 0 rfl) (ac (cS rfl T.z_tuple boot_tuple) am ag) ag)))) rfl)) rfl ?_); refine ae (aH i9 ?_); exact rfl
 | non=> refine ae (cT (Tw.t (ji (fN (dP (ao (aD (by intro _ h; cases h) (by walk_at "kit")) rfl T.z_isinstance boot_isinstance (ac (aa 0 rfl) (ac (cS rfl T.z_tuple boot_tuple) am ag) ag)))) rfl)) rfl ?_); refine ae (aH i9 ?_); exact rfl
 | str n=> refine ae (cT (Tw.t (ji (fN (dP (ao (aD (by intro _ h; cases h) (by walk_at "kit")) rfl T.z_isinstance boot_isinstance (ac (aa 0 rfl) (ac (cS rfl T.z_tuple boot_tuple) am ag) ag)))) rfl)) rfl ?_); refine ae (aH i9 ?_); exact rfl
 | dic=> refine ae (cT (Tw.t (ji (fN (dP (ao (aD (by intro _ h; cases h) (by walk_at "kit")) rfl T.z_isinstance boot_isinstance (ac (aa 0 rfl) (ac (cS rfl T.z_tuple boot_tuple) am ag) ag)))) rfl)) rfl ?_); refine ae (aH i9 ?_); exact rfl
 | scr n=> refine ae (cT (Tw.t (ji (fN (dP (ao (aD (by intro _ h; cases h) (by walk_at "kit")) rfl T.z_isinstance boot_isinstance (ac (aa 0 rfl) (ac (cS rfl T.z_tuple boot_tuple) am ag) ag)))) rfl)) rfl ?_); refine ae (aH i9 ?_); exact rfl
 | lst n=> refine ae (cT (Tw.t (ji (fN (dP (ao (aD (by intro _ h; cases h) (by walk_at "kit")) rfl T.z_isinstance boot_isinstance (ac (aa 0 rfl) (ac (cS rfl T.z_tuple boot_tuple) am ag) ag)))) rfl)) rfl ?_); refine ae (aH i9 ?_); exact rfl
 | tup xs=>
  refine ae (h9 (Tw.t (xh (fN (dP (ao (aD (by intro _ h; cases h) (by walk_at "kit")) rfl T.z_isinstance boot_isinstance (ac (aa 0 rfl) (ac (cS rfl T.z_tuple boot_tuple) am ag) ag)))) (fun hz=> (ym (aV ya (ao (dn rfl) rfl T.z_len PySem.boot_len (ac (aa 0 rfl) am ag)) ai))))) (fun hT=> ?_) (fun hF=> (aQ ?_)))
  ·have:xs.length≠6:=fun e=> by rw [e] at hT; revert hT; decide
   refine ae (aH i9 ?_)
   exact vB (tX this).symm
  ·have hl:xs.length=6:=by
    have:=nFb (show (!decide ((xs.length:Int)=6))=false from hF)
    omega
   refine ae (h9 (fN (dP (ao (AF rfl (bs:=xs.map isInt)) rfl T.z_all boot_all (ac (EvN.ev (d9  rfl (blk (ah cV) ["thing","number"] [1] rfl rfl rfl rfl (by decide+kernel)) (zP (aa 0 rfl)) (fun _ _ _ _=> bi (i:=1) jc.nd rfl (Or.inl rfl)) (bW (by decide)) ?clen ?csz (fun _ _=> trivial) ?celt)) am dh)))) (fun hT=> ?_) (fun hF=> (aQ ?_)))
   case clen=> simp
   case csz=> exact Nat.le_trans (hu.len xs rfl) (by decide)
   case celt=>
    intro C s' H' fp i x y hx hy
    rw [List.getElem?_map,List.getElem?_map,hx] at hy
    cases hy
    exact (ay ((nW T).mono (by decide)) hr rfl T.m_is_whole T.F_is_whole.kp T.b_is_whole aA (ac (aa 1 rfl) am ag) ⟨x,rfl,hu.ity xs rfl x (List.mem_of_getElem? hx),rfl⟩)
   ·have hall:xs.all isInt=false:=by simpa using hT
    refine ae (aH i9 ?_)
    exact vB (uQ hall).symm
   ·have hall:xs.all isInt=true:=by simpa using hF
    obtain ⟨a,b,c,d,e,f,rfl⟩:=yu hl hall
    obtain ⟨sa,sb,sc,sd⟩:=hu.sz a b c d e f rfl
    refine ae (aH (lZ (AZ rfl rfl rfl) (ay ((pF T).mono (by decide)) hr rfl T.m_hand T.F_hand.kp T.b_hand aA (ac (aa 0 rfl) am ag) ⟨a,b,c,d,e,f,rfl,sa,sb,sc,sd,rfl⟩) (cO (aB ai (aB (cU ai) bS lJ) e8))) ?_)
    refine vB ?_
    show inV (fl (.int (a * d - b * c))) ([U.int 1,.int (-1)].map fl)=_
    rw [show im (.tup [.int a,.int b,.int c,.int d,.int e,.int f])=(decide (a * d - b * c=1) || decide (a * d - b * c=-1)) from rfl]
    generalize a * d - b * c=h
    rw [Bool.eq_iff_iff]
    simp [inV,fl,eqV]
    omega
def ie (C:Addr):List U→Out→Prop:=fun us o=> ∃ u,us=[u]∧lH u∧o=if im u=true then .val .non else .exc C
set_option maxHeartbeats 8000000 in
theorem dD (T:Txt K mg):aX P w K mg base (CXF P w) 3 T.a_need_move T.d_need_move ["thing"] (spU K (ie T.c_NoMove)):=by
 refine bg T.F_need_move lQ (fun us o h=> ?_) (fun cdv A outer s H E O us o hr h=> ?_)
 ·obtain ⟨u,rfl,hu,rfl⟩:=h
  rfl
 obtain ⟨u,rfl,hu,rfl⟩:=h
 refine ae (h9 (fN (dP (ay ((oS T).mono (by decide)) hr rfl T.m_is_move T.F_is_move.kp T.b_is_move aA (ac (aa 0 rfl) am ag) ⟨u,rfl,hu,rfl⟩))) (fun hT=> ?_) (fun hF=> (aQ (aQ ?_))))
 ·have h:im u=false:=by simpa using hT
  refine ae (iR T.x_NoMove rfl T.mx_NoMove qc ?_)
  show Out.exc _=_
  rw [if_neg (by rw [h]; decide)]
 ·have h:im u=true:=by simpa using hF
  show _=_
  rw [if_pos h]
structure Mv (a b c d e f:Int):Prop where
 u:a * d - b * c=1∨a * d - b * c=-1
 a:Sz 30000 a
 b:Sz 30000 b
 c:Sz 30000 c
 d:Sz 30000 d
 e:Sz 30000 e
 f:Sz 30000 f
theorem Mv.ok {a b c d e f:Int} (M:Mv a b c d e f):lH (mv a b c d e f):=lH.of M.a M.b M.c M.d
theorem Mv.need {C:Addr} {a b c d e f:Int} (M:Mv a b c d e f):ie C [mv a b c d e f] (.val .non):=⟨_,rfl,M.ok,by rw [if_pos (wk M.u)]⟩
theorem pK {C:Addr} {u:U} (h:lH u) (n:im u=false):ie C [u] (.exc C):=⟨_,rfl,h,by rw [if_neg (by rw [n]; decide)]⟩
def nT:List U→Out→Prop:=fun us o=> ∃ x y a b c d e f,us=[pt x y,mv a b c d e f]∧(Sz 30000 x∧Sz 30000 y∧Sz 30000 a∧Sz 30000 b∧Sz 30000 c∧Sz 30000 d)∧o=.val (pt (a * x+b * y) (c * x+d * y))
set_option maxHeartbeats 8000000 in
theorem ri (T:Txt K mg):aX P w K mg base (CXF P w) 1 T.a_turned T.d_turned ["P","move"] (spU K (nT)):=by
 refine bg T.F_turned qZ (fun us o h=> ?_) (fun cdv A outer s H E O us o hr h=> ?_)
 ·obtain ⟨x,y,a,b,c,d,e,f,rfl,⟨sx,sy,sa,sb,sc,sd⟩,rfl⟩:=h
  rfl
 obtain ⟨x,y,a,b,c,d,e,f,rfl,⟨sx,sy,sa,sb,sc,sd⟩,rfl⟩:=h
 refine Ws.nox ?_
 refine ae (aH (cO (aB (bX (bh (aE (aa 1 rfl) ai rfl rfl) (aE (aa 0 rfl) ai rfl rfl) (by walk_at "mul")) (bh (aE (aa 1 rfl) ai rfl rfl) (aE (aa 0 rfl) ai rfl rfl) (by walk_at "mul"))) (aB (bX (bh (aE (aa 1 rfl) ai rfl rfl) (aE (aa 0 rfl) ai rfl rfl) (by walk_at "mul")) (bh (aE (aa 1 rfl) ai rfl rfl) (aE (aa 0 rfl) ai rfl rfl) (by walk_at "mul"))) bS bJ) bJ)) ?_); exact rfl
def ou (C:Addr):List U→Out→Prop:=fun us o=> (∃ x y a b c d e f,us=[pt x y,mv a b c d e f]∧Mv a b c d e f∧Sz 30000 x∧Sz 30000 y∧o=.val (pt (a * x+b * y+e) (c * x+d * y+f)))∨(∃ v u,us=[v,u]∧lH u∧im u=false∧o=.exc C)
set_option maxHeartbeats 8000000 in
theorem nN (T:Txt K mg):aX P w K mg base (CXF P w) 4 T.a_moved T.d_moved ["P","move"] (spU K (ou T.c_NoMove)):=by
 refine bg T.F_moved mU (by rintro us o (⟨x,y,a,b,c,d,e,f,rfl,_⟩ | ⟨v,u,rfl,_⟩) <;> rfl) (fun cdv A outer s H E O us o hr h=> ?_)
 rcases h with ⟨x,y,a,b,c,d,e,f,rfl,M,sx,sy,rfl⟩ | ⟨v,u,rfl,hu,hn,rfl⟩
 ·refine ae (vv (ay ((dD T).mono (by decide)) hr rfl T.m_need_move T.F_need_move.kp T.b_need_move aA (ac (aa 1 rfl) am ag) M.need) ?_)
  refine ae (aF (i:=2) mU.nd rfl (Or.inl rfl) (ay ((ri T).mono (by decide)) hr rfl T.m_turned T.F_turned.kp T.b_turned aA (ac (aa 0 rfl) (ac (aa 1 rfl) am ag) ag) ⟨x,y,a,b,c,d,e,f,rfl,⟨sx,sy,M.a,M.b,M.c,M.d⟩,rfl⟩) ?_)
  refine ae (aH (cO (aB (bX (aE (aa 2 rfl) ai rfl rfl) (aE (aa 1 rfl) ai rfl rfl)) (aB (bX (aE (aa 2 rfl) ai rfl rfl) (aE (aa 1 rfl) ai rfl rfl)) bS bJ) bJ)) ?_)
  exact rfl
 ·refine ae (qe (u3 ((dD T).mono (by decide)) hr rfl T.m_need_move T.F_need_move.kp T.b_need_move qw (ac (aa 1 rfl) am ag) (pK hu hn)) ?_)
  exact rfl
end
section
variable {P:Program} {w:World} {K:PySem.W.Frag} {mg:Str→Option Value} {base:Heap}
def zM (a b c d e f:Int):U:=
 mv ((a * d - b * c) * d) (-(a * d - b * c) * b) (-(a * d - b * c) * c) ((a * d - b * c) * a) (-((a * d - b * c) * d * e+-(a * d - b * c) * b * f)) (-(-(a * d - b * c) * c * e+(a * d - b * c) * a * f))
def sr (C:Addr):List U→Out→Prop:=fun us o=> (∃ a b c d e f,us=[mv a b c d e f]∧Mv a b c d e f∧o=.val (zM a b c d e f))∨(∃ u,us=[u]∧lH u∧im u=false∧o=.exc C)
set_option maxHeartbeats 8000000 in
theorem mR (T:Txt K mg):aX P w K mg base (CXF P w) 4 T.a_way_back T.d_way_back ["move"] (spU K (sr T.c_NoMove)):=by
 refine bg T.F_way_back cI (by rintro us o (⟨a,b,c,d,e,f,rfl,_⟩ | ⟨u,rfl,_⟩) <;> rfl) (fun cdv A outer s H E O us o hr h=> ?_)
 rcases h with ⟨a,b,c,d,e,f,rfl,M,rfl⟩ | ⟨u,rfl,hu,hn,rfl⟩
 ·obtain ⟨hd,sa,sb,sc,sd,se,sf⟩:=M
  have M:Mv a b c d e f:=⟨hd,sa,sb,sc,sd,se,sf⟩
  have sh:Sz 8 (a * d - b * c):=by rcases hd with h | h <;> rw [h] <;> decide
  refine ae (vv (ay ((dD T).mono (by decide)) hr rfl T.m_need_move T.F_need_move.kp T.b_need_move aA (ac (aa 0 rfl) am ag) M.need) ?_)
  refine ae (aF (i:=1) cI.nd rfl (Or.inl rfl) (ay ((pF T).mono (by decide)) hr rfl T.m_hand T.F_hand.kp T.b_hand aA (ac (aa 0 rfl) am ag) ⟨a,b,c,d,e,f,rfl,sa,sb,sc,sd,rfl⟩) ?_)
  refine ae (aF (i:=2) cI.nd rfl (Or.inl rfl) (bh (aa 1 rfl) (aE (aa 0 rfl) ai rfl rfl) (by walk_at "mul")) ?_)
  refine ae (aF (i:=3) cI.nd rfl (Or.inl rfl) (bh (cU (aa 1 rfl)) (aE (aa 0 rfl) ai rfl rfl) (by walk_at "mul")) ?_)
  refine ae (aF (i:=4) cI.nd rfl (Or.inl rfl) (bh (cU (aa 1 rfl)) (aE (aa 0 rfl) ai rfl rfl) (by walk_at "mul")) ?_)
  refine ae (aF (i:=5) cI.nd rfl (Or.inl rfl) (bh (aa 1 rfl) (aE (aa 0 rfl) ai rfl rfl) (by walk_at "mul")) ?_)
  refine ae (aH (cO (aB (aa 2 rfl) (aB (aa 3 rfl) (aB (aa 4 rfl) (aB (aa 5 rfl) (aB (cU (bX (bh (aa 2 rfl) (aE (aa 0 rfl) ai rfl rfl) (by walk_at "mul")) (bh (aa 3 rfl) (aE (aa 0 rfl) ai rfl rfl) (by walk_at "mul")))) (aB (cU (bX (bh (aa 4 rfl) (aE (aa 0 rfl) ai rfl rfl) (by walk_at "mul")) (bh (aa 5 rfl) (aE (aa 0 rfl) ai rfl rfl) (by walk_at "mul")))) bS lJ) lJ) ag) ag) ag) ag)) ?_)
  exact rfl
 ·refine ae (qe (u3 ((dD T).mono (by decide)) hr rfl T.m_need_move T.F_need_move.kp T.b_need_move qw (ac (aa 0 rfl) am ag) (pK hu hn)) ?_)
  exact rfl
theorem vH {a b g s t:Int} (G:eR a b g s t):g=((Int.gcd a b:Nat):Int):=by
 have h1:g ∣ ((Int.gcd a b:Nat):Int):=Int.dvd_coe_gcd G.da G.db
 have h2:((Int.gcd a b:Nat):Int) ∣ g:=by
  rw [← G.eq]
  exact Int.dvd_add (Int.dvd_trans (Int.gcd_dvd_left ..) (Int.dvd_mul_left _ _)) (Int.dvd_trans (Int.gcd_dvd_right ..) (Int.dvd_mul_left _ _))
 exact Int.dvd_antisymm G.g0 (Int.natCast_nonneg _) h1 h2
theorem jb (a b:Int):∃ s t,eR a b ((Int.gcd a b:Nat):Int) s t:=by
 obtain ⟨g,s,t,G⟩:=lv a b
 have e:=vH G
 subst e
 exact ⟨s,t,G⟩
theorem sV {a b g s t g' s' t':Int} (G:eR a b g s t) (gp:0 < g) (G':eR (a / g) (b / g) g' s' t'):g'=1:=by
 obtain ⟨a',ha⟩:=G.da
 obtain ⟨b',hb⟩:=G.db
 have ea:a / g=a':=by rw [ha,Int.mul_ediv_cancel_left _ (by omega)]
 have eb:b / g=b':=by rw [hb,Int.mul_ediv_cancel_left _ (by omega)]
 rw [ea,eb] at G'
 have e:=G.eq
 have k1:s * a'+t * b'=1:=by
  have:g * (s * a'+t * b')=g * 1:=by rw [ha,hb] at e; grind
  exact Int.eq_of_mul_eq_mul_left (by omega) this
 have d:g' ∣ 1:=by rw [← k1]; exact Int.dvd_add (Int.dvd_trans G'.da (Int.dvd_mul_left _ _)) (Int.dvd_trans G'.db (Int.dvd_mul_left _ _))
 have:=Int.le_of_dvd (by decide) d
 have h0:=G'.g0
 rcases Int.lt_or_eq_of_le h0 with h | h
 ·omega
 ·rw [← h] at d; exact absurd (Int.zero_dvd.mp d) (by decide)
theorem r_ {x0 y0 x1 y1 g s t:Int} (G:eR (x1 - x0) (y1 - y0) g s t) (h:g=0):x0=x1∧y0=y1:=by
 subst h
 have h1:=Int.zero_dvd.mp G.da
 have h2:=Int.zero_dvd.mp G.db
 omega
structure t3 (x0 y0 x1 y1:Int):Prop where
 s0:Sz 3000 x0
 t0:Sz 3000 y0
 s1:Sz 3000 x1
 t1:Sz 3000 y1
def oJ:List U→Out→Prop:=fun us o=> ∃ x0 y0 x1 y1 g s t:Int,us=[pt x0 y0,pt x1 y1]∧t3 x0 y0 x1 y1∧eR (x1 - x0) (y1 - y0) g s t∧o=.val (.int g)
set_option maxHeartbeats 8000000 in
theorem gT (T:Txt K mg):aX P w K mg base (CXF P w) 3 T.a_steps T.d_steps ["P","Q"] (spU K (oJ)):=by
 refine bg T.F_steps vz (fun us o h=> ?_) (fun cdv A outer s H E O us o hr h=> ?_)
 ·obtain ⟨x0,y0,x1,y1,g,s,t,rfl,⟨s0,t0,s1,t1⟩,G,rfl⟩:=h
  rfl
 obtain ⟨x0,y0,x1,y1,g,s,t,rfl,⟨s0,t0,s1,t1⟩,G,rfl⟩:=h
 refine Ws.nox ?_
 refine ae (aH (aE (ay ((kJ T).mono (by decide)) hr rfl T.m_shares T.F_shares.kp T.b_shares aA (ac (bv (aE (aa 1 rfl) ai rfl rfl) (aE (aa 0 rfl) ai rfl rfl)) (ac (bv (aE (aa 1 rfl) ai rfl rfl) (aE (aa 0 rfl) ai rfl rfl)) am bJ) bJ) ⟨_,_,g,s,t,rfl,by walk_at "szb",by walk_at "szb",G,rfl⟩) ai rfl rfl) ?_)
 exact rfl
def oh (C:Addr):List U→Out→Prop:=fun us o=> (∃ x0 y0 x1 y1 g a b s t:Int,us=[pt x0 y0,pt x1 y1]∧t3 x0 y0 x1 y1∧eR (x1 - x0) (y1 - y0) g a b∧g≠0∧eR ((x1 - x0) / g) ((y1 - y0) / g) 1 s t∧
  o=.val (mv s t (-((y1 - y0) / g)) ((x1 - x0) / g) (-s * x0 - t * y0) ((y1 - y0) / g * x0 - (x1 - x0) / g * y0)))∨(∃ x0 y0:Int,us=[pt x0 y0,pt x0 y0]∧t3 x0 y0 x0 y0∧o=.exc C)
theorem sG (x y:Int):eR (x - x) (y - y) 0 0 0:=by
 rw [Int.sub_self,Int.sub_self]
 exact ⟨by decide,by decide,⟨0,by simp⟩,⟨0,by simp⟩,fun _=> ⟨rfl,rfl,rfl⟩,fun h=> absurd rfl h⟩
set_option maxHeartbeats 8000000 in
theorem u4 (T:Txt K mg):aX P w K mg base (CXF P w) 4 T.a_level T.d_level ["P","Q"] (spU K (oh T.c_NoMove)):=by
 refine bg T.F_level dm (by rintro us o (⟨x0,y0,x1,y1,g,a,b,s,t,rfl,_⟩ | ⟨x0,y0,rfl,_⟩) <;> rfl) (fun cdv A outer s H E O us o hr h=> ?_)
 rcases h with ⟨x0,y0,x1,y1,g,a,b,s,t,rfl,two,G,gn,G1,rfl⟩ | ⟨x0,y0,rfl,two,rfl⟩
 ·have gp:0 < g:=by have:=G.g0; omega
  obtain ⟨s0,t0,s1,t1⟩:=two
  have two:t3 x0 y0 x1 y1:=⟨s0,t0,s1,t1⟩
  have sx:Sz 3001 (x1 - x0):=by walk_at "szb"
  have sy:Sz 3001 (y1 - y0):=by walk_at "szb"
  obtain ⟨sg,_,_⟩:=lU G sx sy
  have su:Sz 3001 ((x1 - x0) / g):=sx.ediv
  have sv:Sz 3001 ((y1 - y0) / g):=sy.ediv
  obtain ⟨_,ss,st⟩:=lU G1 su sv
  refine ae (aF (i:=2) dm.nd rfl (Or.inl rfl) (ay ((gT T).mono (by decide)) hr rfl T.m_steps T.F_steps.kp T.b_steps aA (ac (aa 0 rfl) (ac (aa 1 rfl) am ag) ag) ⟨x0,y0,x1,y1,g,a,b,rfl,two,G,rfl⟩) ?_)
  refine ae (dY (aV dX (aa 2 rfl) ai) (decide_eq_false gn) (aQ ?_))
  refine ae (aF (i:=3) dm.nd rfl (Or.inl rfl) (fi (bv (aE (aa 1 rfl) ai rfl rfl) (aE (aa 0 rfl) ai rfl rfl)) (aa 2 rfl) ⟨gp,sg.mono (by decide)⟩) ?_)
  refine ae (aF (i:=4) dm.nd rfl (Or.inl rfl) (fi (bv (aE (aa 1 rfl) ai rfl rfl) (aE (aa 0 rfl) ai rfl rfl)) (aa 2 rfl) ⟨gp,sg.mono (by decide)⟩) ?_)
  refine ae (aF (i:=5) dm.nd rfl (Or.inl rfl) (ay ((kJ T).mono (by decide)) hr rfl T.m_shares T.F_shares.kp T.b_shares aA (ac (aa 3 rfl) (ac (aa 4 rfl) am ag) ag) ⟨_,_,1,s,t,rfl,su.mono (by decide),sv.mono (by decide),G1,rfl⟩) ?_)
  refine ae (aF (i:=6) dm.nd rfl (Or.inl rfl) (aE (aa 5 rfl) ai rfl rfl) ?_)
  refine ae (aF (i:=7) dm.nd rfl (Or.inl rfl) (aE (aa 5 rfl) ai rfl rfl) ?_)
  refine ae (aH (cO (aB (aa 6 rfl) (aB (aa 7 rfl) (aB (cU (aa 4 rfl)) (aB (aa 3 rfl) (aB (bv (bh (cU (aa 6 rfl)) (aE (aa 0 rfl) ai rfl rfl) (by walk_at "mul")) (bh (aa 7 rfl) (aE (aa 0 rfl) ai rfl rfl) (by walk_at "mul"))) (aB (bv (bh (aa 4 rfl) (aE (aa 0 rfl) ai rfl rfl) (by walk_at "mul")) (bh (aa 3 rfl) (aE (aa 0 rfl) ai rfl rfl) (by walk_at "mul"))) bS bJ) bJ) ag) lJ) ag) ag)) ?_)
  exact rfl
 ·refine ae (aF (i:=2) dm.nd rfl (Or.inl rfl) (ay ((gT T).mono (by decide)) hr rfl T.m_steps T.F_steps.kp T.b_steps aA (ac (aa 0 rfl) (ac (aa 1 rfl) am ag) ag) ⟨x0,y0,x0,y0,0,0,0,rfl,two,sG x0 y0,rfl⟩) ?_)
  refine ae (cT (aV dX (aa 2 rfl) ai) rfl ?_)
  refine ae (iR T.x_NoMove rfl T.mx_NoMove qc ?_)
  exact rfl
def bN (n:Nat) (a b m:Int):Int:=match n with
 | 0=> 0
 | n+1=> bN n a b m+(a * (n:Int)+b) / m
theorem jO (a b m:Int):∀ n:Nat,bN (n+1) a b m=b / m+bN n a (b+a) m
 | 0=> by simp [bN]
 | n+1=> by
  rw [show bN (n+1+1) a b m=bN (n+1) a b m+(a * ((n+1:Nat):Int)+b) / m from rfl,jO a b m n]
  rw [show bN (n+1) a (b+a) m=bN n a (b+a) m+(a * (n:Int)+(b+a)) / m from rfl]
  have e:a * ((n+1:Nat):Int)+b=a * (n:Int)+(b+a):=by push_cast; grind
  rw [e]; omega
theorem lu {a b m:Int} (hm:0 < m):∀ n:Nat,bN n a (b+m) m=bN n a b m+n
 | 0=> by simp [bN]
 | n+1=> by
  show bN n a (b+m) m+(a * (n:Int)+(b+m)) / m=bN n a b m+(a * (n:Int)+b) / m+((n+1:Nat):Int)
  rw [lu hm n,← Int.add_assoc,Int.add_ediv_of_dvd_right (Int.dvd_refl m),Int.ediv_self (by omega)]
  push_cast; omega
theorem vT (n:Nat):(((n+1:Nat):Int) * (((n+1:Nat):Int) - 1)) / 2=((n:Int) * ((n:Int) - 1)) / 2+n:=by
 have e:(((n+1:Nat):Int) * (((n+1:Nat):Int) - 1))=(n:Int) * ((n:Int) - 1)+(n:Int) * 2:=by push_cast; grind
 rw [e,Int.add_mul_ediv_right _ _ (by decide)]
theorem nP {a b m:Int} (hm:0 < m):∀ n:Nat,bN n a b m=a / m * ((n:Int) * ((n:Int) - 1) / 2)+b / m * n+bN n (a % m) (b % m) m
 | 0=> by simp [bN]
 | n+1=> by
  show bN n a b m+(a * (n:Int)+b) / m=_+(bN n (a % m) (b % m) m+(a % m * (n:Int)+b % m) / m)
  rw [nP hm n,vT]
  have e:a * (n:Int)+b=(a % m * (n:Int)+b % m)+m * (a / m * n+b / m):=by
   have h1:=Int.emod_add_mul_ediv a m
   have h2:=Int.emod_add_mul_ediv b m
   grind
  rw [e,Int.add_mul_ediv_left _ _ (by omega)]
  push_cast
  grind
theorem ky {a b m:Int} (ha:0 < a) (ham:a < m) (hb:0≤b) (hbm:b < m):∀ n:Nat,bN n a b m=bN ((a * (n:Int)+b) / m).toNat m ((a * (n:Int)+b) % m) a
 | 0=> by
  have e:(a * ((0:Nat):Int)+b) / m=0:=by
   have:a * ((0:Nat):Int)+b=b:=by simp
   rw [this]; exact Int.ediv_eq_zero_of_lt hb hbm
  rw [e]; rfl
 | n+1=> by
  have ih:=ky ha ham hb hbm n
  have hz:0≤a * (n:Int)+b:=Int.add_nonneg (Int.mul_nonneg (by omega) (by omega)) hb
  have hY:0≤(a * (n:Int)+b) / m:=Int.ediv_nonneg hz (by omega)
  have hr0:=Int.emod_nonneg (a * (n:Int)+b) (show m≠0 by omega)
  have hr1:=Int.emod_lt_of_pos (a * (n:Int)+b) (show 0 < m by omega)
  have hz2:=Int.emod_add_mul_ediv (a * (n:Int)+b) m
  have ez:a * ((n+1:Nat):Int)+b=(a * (n:Int)+b)+a:=by push_cast; grind
  show bN n a b m+(a * (n:Int)+b) / m=_
  rw [ez,ih]
  generalize hZ:a * (n:Int)+b=z at *
  generalize hYY:z / m=Y at *
  generalize hRR:z % m=r at *
  obtain ⟨y,rfl⟩:=Int.eq_ofNat_of_zero_le hY
  by_cases hc:r+a < m
  ·have e1:(z+a) / m=(y:Int):=by
    rw [show z+a=(r+a)+m * (y:Int) by omega,Int.add_mul_ediv_left _ _ (by omega),Int.ediv_eq_zero_of_lt (by omega) hc]; omega
   have e2:(z+a) % m=r+a:=by
    rw [show z+a=(r+a)+m * (y:Int) by omega,Int.add_mul_emod_self_left,Int.emod_eq_of_lt (by omega) hc]
   rw [e1,e2,lu ha]
   simp
  ·have e1:(z+a) / m=(y:Int)+1:=by
    rw [show z+a=(r+a - m)+m * ((y:Int)+1) by rw [Int.mul_add]; omega,Int.add_mul_ediv_left _ _ (by omega),Int.ediv_eq_zero_of_lt (by omega) (by omega)]; omega
   have e2:(z+a) % m=r+a - m:=by
    rw [show z+a=(r+a - m)+m * ((y:Int)+1) by rw [Int.mul_add]; omega,Int.add_mul_emod_self_left,Int.emod_eq_of_lt (by omega) (by omega)]
   rw [e1,e2,show ((y:Int)+1).toNat=y+1 by omega,jO,Int.ediv_eq_zero_of_lt (by omega) (by omega),show r+a - m+m=r+a by omega,lu ha]
   simp
theorem o9 {a b m:Int} (ha:0≤a) (hb:0≤b) (n:Nat) (h:a * (n:Int)+b < m):bN n a b m=0:=by
 induction n with
 | zero=> rfl
 | succ n ih=>
  have e:a * ((n+1:Nat):Int)+b=a * (n:Int)+b+a:=by push_cast; grind
  have h1:0≤a * (n:Int):=Int.mul_nonneg ha (by omega)
  show bN n a b m+(a * (n:Int)+b) / m=0
  rw [ih (by omega),Int.ediv_eq_zero_of_lt (by omega) (by omega)]; rfl
theorem kc:∀ (m:Nat) (a b g:Int),0 < m→0 < g→g ∣ a→g ∣ (m:Int)→(∀ d,d ∣ a→d ∣ (m:Int)→d ∣ g)→2 * bN m a b m=(a - 1) * ((m:Int) - 1)+g - 1+2 * (g * (b / g)):=by
 intro m
 induction m using Nat.strongRecOn with
 | ind m ih=>
  intro a b g hm hg ga gm gr
  have hm':(0:Int) < (m:Int):=by omega
  have red:=nP (a:=a) (b:=b) hm' m
  have ha0:=Int.emod_nonneg a (show (m:Int)≠0 by omega)
  have ha1:=Int.emod_lt_of_pos a hm'
  have hb0:=Int.emod_nonneg b (show (m:Int)≠0 by omega)
  have hb1:=Int.emod_lt_of_pos b hm'
  have ea:=Int.emod_add_mul_ediv a (m:Int)
  have eb:=Int.emod_add_mul_ediv b (m:Int)
  have tri:2 * ((m:Int) * ((m:Int) - 1) / 2)=(m:Int) * ((m:Int) - 1):=by
   have:(2:Int) ∣ (m:Int) * ((m:Int) - 1):=by
    rcases Int.emod_two_eq (m:Int) with h | h
    ·exact Int.dvd_trans (Int.dvd_of_emod_eq_zero h) (Int.dvd_mul_right _ _)
    ·exact Int.dvd_trans (Int.dvd_of_emod_eq_zero (by omega)) (Int.dvd_mul_left _ _)
   exact Int.mul_ediv_cancel' this
  have gb:g * (b / g)=(m:Int) * (b / (m:Int))+g * (b % (m:Int) / g):=by
   obtain ⟨c,hc⟩:=gm
   have:b=b % (m:Int)+g * (c * (b / (m:Int))):=by rw [← Int.mul_assoc,← hc]; omega
   conv=> lhs; rw [this]
   rw [Int.add_mul_ediv_left _ _ (by omega),Int.mul_add,← Int.mul_assoc g c,← hc]; omega
  by_cases hz:a % (m:Int)=0
  ·have gm2:g=(m:Int):=Int.dvd_antisymm (by omega) (by omega) gm (gr _ (Int.dvd_of_emod_eq_zero hz) (Int.dvd_refl _))
   have small:bN m (a % (m:Int)) (b % (m:Int)) m=0:=o9 ha0 hb0 m (by rw [hz]; omega)
   rw [red,small,gb,gm2,Int.ediv_eq_zero_of_lt hb0 hb1]
   rw [hz] at ea
   have:a=(m:Int) * (a / (m:Int)):=by omega
   generalize a / (m:Int)=q at *
   subst this
   grind
  ·have hp:0 < a % (m:Int):=by omega
   have turn:=ky hp ha1 hb0 hb1 m
   have e1:(a % (m:Int) * (m:Int)+b % (m:Int)) / (m:Int)=a % (m:Int):=by
    rw [Int.add_comm,Int.add_mul_ediv_right _ _ (by omega),Int.ediv_eq_zero_of_lt hb0 hb1]; omega
   have e2:(a % (m:Int) * (m:Int)+b % (m:Int)) % (m:Int)=b % (m:Int):=by
    rw [Int.add_comm,Int.add_mul_emod_self_right,Int.emod_eq_of_lt hb0 hb1]
   rw [e1,e2] at turn
   have gd1:g ∣ a % (m:Int):=by
    rw [show a % (m:Int)=a - (m:Int) * (a / (m:Int)) by omega]
    exact Int.dvd_sub ga (Int.dvd_trans gm (Int.dvd_mul_right _ _))
   have IH:=ih (a % (m:Int)).toNat (by omega) (m:Int) (b % (m:Int)) g (by omega) hg gm (by rw [Int.toNat_of_nonneg ha0]; exact gd1) (fun d h1 h2=> by
    rw [Int.toNat_of_nonneg ha0] at h2
    refine gr d ?_ h1
    rw [← ea]
    exact Int.dvd_add h2 (Int.dvd_trans h1 (Int.dvd_mul_right _ _)))
   rw [Int.toNat_of_nonneg ha0] at IH
   rw [red,turn,gb]
   have e3:2 * (a / (m:Int) * ((m:Int) * ((m:Int) - 1) / 2))=a / (m:Int) * ((m:Int) * ((m:Int) - 1)):=by rw [← tri]; grind
   generalize a / (m:Int)=q at *
   generalize a % (m:Int)=a' at *
   subst ea
   grind
end
section
variable {P:Program} {w:World} {K:PySem.W.Frag} {mg:Str→Option Value} {base:Heap}
abbrev Pt:=Int×Int
def plt (p q:Pt):Prop:=p.1 < q.1∨(p.1=q.1∧p.2 < q.2)
def af (a b p:Pt):Int:=(b.1 - a.1) * (p.2 - a.2) - (b.2 - a.2) * (p.1 - a.1)
theorem ce {a b c:Pt} (h1:plt a b) (h2:plt b c):plt a c:=by unfold plt at *; omega
theorem bo (a:Pt):¬ plt a a:=by unfold plt; omega
theorem lG (a b:Pt):plt a b∨a=b∨plt b a:=by
 unfold plt
 by_cases h1:a.1=b.1
 ·by_cases h2:a.2=b.2
  ·exact .inr (.inl (Prod.ext h1 h2))
  ·omega
 ·omega
def fX (x y:Int):Prop:=0 < x∨(x=0∧0 < y)
theorem ba {a b:Pt} (h:plt a b):fX (b.1 - a.1) (b.2 - a.2):=by unfold plt fX at *; omega
theorem fv {u1 u2 v1 v2 w1 w2:Int} (hu:fX u1 u2) (hv:fX v1 v2) (hw:fX w1 w2) (h1:0≤u1 * v2 - u2 * v1) (h2:0≤v1 * w2 - v2 * w1):0≤u1 * w2 - u2 * w1:=by
 unfold fX at *
 by_cases hv1:v1=0
 ·subst hv1
  have hv2:0 < v2:=by omega
  have hw1:w1=0:=by
   have:v2 * w1≤0:=by rw [Int.zero_mul] at h2; omega
   by_cases hz:0 < w1
   ·have:=Int.mul_pos hv2 hz; omega
   ·omega
  subst hw1
  have hw2:0 < w2:=by omega
  have:=Int.mul_nonneg (show 0≤u1 by omega) (show 0≤w2 by omega)
  simp; omega
 ·have hv':0 < v1:=by omega
  have e:v1 * (u1 * w2 - u2 * w1)=u1 * (v1 * w2 - v2 * w1)+w1 * (u1 * v2 - u2 * v1):=by grind
  have p1:=Int.mul_nonneg (show 0≤u1 by omega) h2
  have p2:=Int.mul_nonneg (show 0≤w1 by omega) h1
  have:0≤v1 * (u1 * w2 - u2 * w1):=by omega
  exact Int.nonneg_of_mul_nonneg_right this hv'
theorem jd {u1 u2 v1 v2 w1 w2:Int} (hu:fX u1 u2) (hv:fX v1 v2) (hw:fX w1 w2) (h1:0 < u1 * v2 - u2 * v1) (h2:0≤v1 * w2 - v2 * w1):0 < u1 * w2 - u2 * w1:=by
 unfold fX at *
 by_cases hv1:v1=0
 ·subst hv1
  have hv2:0 < v2:=by omega
  have hw1:w1=0:=by
   have:v2 * w1≤0:=by rw [Int.zero_mul] at h2; omega
   by_cases hz:0 < w1
   ·have:=Int.mul_pos hv2 hz; omega
   ·omega
  subst hw1
  have hw2:0 < w2:=by omega
  have hu1:0 < u1:=by
   rcases hu with h | ⟨h,_⟩
   ·exact h
   ·subst h; simp at h1
  have:=Int.mul_pos hu1 hw2
  simp; omega
 ·have hv':0 < v1:=by omega
  have e:v1 * (u1 * w2 - u2 * w1)=u1 * (v1 * w2 - v2 * w1)+w1 * (u1 * v2 - u2 * v1):=by grind
  have p1:=Int.mul_nonneg (show 0≤u1 by omega) h2
  by_cases hw1:w1=0
  ·subst hw1
   have hw2:0 < w2:=by omega
   have hu1:0 < u1:=by
    rcases hu with h | ⟨h,h'⟩
    ·exact h
    ·subst h
     have:=Int.mul_pos h' hv'
     simp at h1; omega
   have:=Int.mul_pos hu1 hw2
   simp; omega
  ·have p2:=Int.mul_pos (show 0 < w1 by omega) h1
   have:0 < v1 * (u1 * w2 - u2 * w1):=by omega
   exact Int.pos_of_mul_pos_right this (by omega)
def lW:List Pt→Prop
 | b::a::r=> plt a b∧lW (a::r)
 | _=> True
def iB:List Pt→Prop
 | c::b::a::r=> 0 < af a b c∧iB (b::a::r)
 | _=> True
def gi (done:List Pt):List Pt→Prop
 | b::a::r=> (∀ q∈done,0≤af a b q)∧gi done (a::r)
 | _=> True
theorem iB.tail:∀ {b:Pt} {st:List Pt},iB (b::st)→iB st
 | _,[],_=> trivial
 | _,[_],_=> trivial
 | _,_::_::_,h=> h.2
theorem lW.tail:∀ {b:Pt} {st:List Pt},lW (b::st)→lW st
 | _,[],_=> trivial
 | _,_::_,h=> h.2
theorem gi.tail {done:List Pt}:∀ {b:Pt} {st:List Pt},gi done (b::st)→gi done st
 | _,[],_=> trivial
 | _,_::_,h=> h.2
def aR (P:Pt):List Pt→List Pt
 | b::a::r=> if af a b P≤0 then aR P (a::r) else b::a::r
 | st=> st
def aj (row:List Pt):List Pt:=row.foldl (fun st P=> P::aR P st) []
structure wx (done st:List Pt):Prop where
 ne:st≠[]
 desc:lW st
 turns:iB st
 cover:gi done st
 sub:∀ p∈st,p∈done
structure sJ (done st:List Pt) (P:Pt):Prop extends wx done st where
 pend:∀ h r,st=h::r→∀ q∈done,plt h q→0≤af h P q
theorem sj {done:List Pt} {P b a:Pt} {r:List Pt} (hP:∀ q∈done,plt q P) (D:sJ done (b::a::r) P) (h:af a b P≤0):sJ done (a::r) P:=by
 refine ⟨⟨by simp,D.desc.tail,D.turns.tail,D.cover.tail,fun p hp=> D.sub p (List.mem_cons_of_mem _ hp)⟩,?_⟩
 intro h' r' e q hq hlt
 cases e
 have hab:=D.desc.1
 have hq':=D.cover.1 q hq
 have hbP:=hP b (D.sub b List.mem_cons_self)
 have hqP:=hP q hq
 rcases lG q b with z | z | z
 ·have l1:=ba hlt
  have l2:=ba hab
  have l3:=ba (ce hab hbP)
  have:=fv (u1:=P.1 - a.1) (u2:=P.2 - a.2) (v1:=b.1 - a.1) (v2:=b.2 - a.2) (w1:=q.1 - a.1) (w2:=q.2 - a.2) l3 l2 l1 (by unfold af at h; grind) (by unfold af at hq'; grind)
  unfold af; grind
 ·subst z; unfold af at *; grind
 ·have p:=D.pend b _ rfl q hq z
  unfold af at *
  grind
theorem me {done:List Pt} {P:Pt} (hP:∀ q∈done,plt q P):∀ st:List Pt,sJ done st P→sJ done (aR P st) P∧(∀ b a r,aR P st=b::a::r→0 < af a b P)∧(st.getLast?=(aR P st).getLast?)
 | [],D=> absurd rfl D.ne
 | [b],D=> ⟨D,fun _ _ _ e=> by simp [aR] at e,rfl⟩
 | b::a::r,D=> by
  by_cases h:af a b P≤0
  ·rw [aR,if_pos h]
   obtain ⟨h1,h2,h3⟩:=me hP (a::r) (sj hP D h)
   exact ⟨h1,h2,by rw [← h3]; simp⟩
  ·rw [aR,if_neg h]
   refine ⟨D,fun b' a' r' e=> ?_,rfl⟩
   cases e; omega
theorem rT {done st:List Pt} {P:Pt} (hP:∀ q∈done,plt q P) (D:sJ done st P) (ht:∀ b a r,st=b::a::r→0 < af a b P) (hmin:∀ x,st=[x]→∀ q∈done,q=x∨plt x q):wx (done++[P]) (P::st):=by
 have up:∀ (b:Pt) (r:List Pt),lW (b::r)→iB (b::r)→gi done (b::r)→plt b P→(∀ a r',r=a::r'→0≤af a b P)→gi (done++[P]) (b::r):=by
  intro b r
  induction r generalizing b with
  | nil=> intro _ _ _ _ _; trivial
  | cons a r ih=>
   intro hd htn hc hbP hl
   refine ⟨fun q hq=> ?_,?_⟩
   ·rcases List.mem_append.mp hq with z | z
    ·exact hc.1 q z
    ·rw [List.mem_singleton.mp z]; exact hl a r rfl
   ·refine ih a hd.tail htn.tail hc.tail (ce hd.1 hbP) (fun c r' e=> ?_)
    subst e
    have t:=htn.1
    have g:=hl a _ rfl
    have l1:=ba hd.2.1
    have l2:=ba hd.1
    have l3:=ba (ce hd.1 hbP)
    have:=fv (u1:=a.1 - c.1) (u2:=a.2 - c.2) (v1:=b.1 - a.1) (v2:=b.2 - a.2) (w1:=P.1 - a.1) (w2:=P.2 - a.2) l1 l2 l3 (by unfold af at t; grind) (by unfold af at g; grind)
    unfold af; grind
 obtain ⟨h,r,e⟩:∃ h r,st=h::r:=by
  cases hst:st with
  | nil=> exact absurd hst D.ne
  | cons h r=> exact ⟨h,r,rfl⟩
 subst e
 have hhP:=hP h (D.sub h List.mem_cons_self)
 refine ⟨by simp,⟨hhP,D.desc⟩,?_,⟨fun q hq=> ?_,?_⟩,fun p hp=> ?_⟩
 ·cases r with
  | nil=> trivial
  | cons a r'=> exact ⟨ht h a r' rfl,D.turns⟩
 ·rcases List.mem_append.mp hq with z | z
  ·rcases lG q h with y | y | y
   ·cases r with
    | nil=>
     rcases hmin h rfl q z with w | w
     ·subst w; exact absurd y (bo _)
     ·exact absurd (ce y w) (bo _)
    | cons a r'=>
     have t:=ht h a r' rfl
     have c:=D.cover.1 q z
     have l1:=ba D.desc.1
     have l2:=ba y
     have l3:=ba hhP
     have:=fv (u1:=h.1 - q.1) (u2:=h.2 - q.2) (v1:=h.1 - a.1) (v2:=h.2 - a.2) (w1:=P.1 - h.1) (w2:=P.2 - h.2) l2 l1 l3 (by unfold af at c; grind) (by unfold af at t; grind)
     unfold af; grind
   ·subst y; unfold af; grind
   ·exact D.pend h r rfl q z y
  ·rw [List.mem_singleton.mp z]; unfold af; grind
 ·exact up h r D.desc D.turns D.cover hhP (fun a r' e=> Int.le_of_lt (ht h a r' (by rw [e])))
 ·rcases List.mem_cons.mp hp with z | z
  ·subst z; exact List.mem_append_right _ List.mem_cons_self
  ·exact List.mem_append_left _ (D.sub p z)
theorem jf (row:List Pt) (P:Pt):aj (row++[P])=P::aR P (aj row):=by
 unfold aj; rw [List.foldl_append]; rfl
theorem jy {row:List Pt} (hs:row.Pairwise plt):∀ n,0 < n→n≤row.length→wx (row.take n) (aj (row.take n))∧(aj (row.take n)).getLast?=row.head?∧(aj (row.take n)).head?=row[n - 1]?
 | 0,h,_=> absurd h (by decide)
 | 1,_,h=> by
  cases row with
  | nil=> simp at h
  | cons a r=>
   simp only [List.take_succ_cons,List.take_zero]
   exact ⟨⟨by simp [aj],trivial,trivial,trivial,fun p hp=> by simpa [aj,aR] using hp⟩,rfl,rfl⟩
 | n+2,_,h=> by
  obtain ⟨K,hl,hh⟩:=jy hs (n+1) (by omega) (by omega)
  have hn:n+1 < row.length:=by omega
  have et:row.take (n+2)=row.take (n+1)++[row[n+1]]:=by rw [List.take_succ_eq_append_getElem hn]
  have hP:∀ q∈row.take (n+1),plt q row[n+1]:=fun q hq=> by
   obtain ⟨i,hi,e⟩:=List.mem_take_iff_getElem.mp hq
   subst e
   exact List.pairwise_iff_getElem.mp hs i (n+1) (by omega) hn (by omega)
  have D:sJ (row.take (n+1)) (aj (row.take (n+1))) row[n+1]:=⟨K,fun h' r e q hq hlt=> by
   exfalso
   rw [e] at hh
   simp only [List.head?_cons,Nat.add_sub_cancel] at hh
   have hn':n < row.length:=by omega
   rw [List.getElem?_eq_getElem hn'] at hh
   have hh':=Option.some.inj hh
   obtain ⟨i,hi,e2⟩:=List.mem_take_iff_getElem.mp hq
   subst e2
   rw [hh'] at hlt
   rcases Nat.lt_or_ge i n with z | z
   ·exact bo _ (ce hlt (List.pairwise_iff_getElem.mp hs i n (by omega) hn' z))
   ·have:i=n:=by omega
    subst this
    exact bo _ hlt⟩
  obtain ⟨D2,ht,hlast⟩:=me hP _ D
  rw [et,jf]
  refine ⟨rT hP D2 ht (fun x e q hq=> ?_),?_,?_⟩
  ·rw [e,hl] at hlast
   simp at hlast
   obtain ⟨i,hi,e2⟩:=List.mem_take_iff_getElem.mp hq
   have h0:0 < row.length:=by omega
   have e3:row[0]=x:=by
    rw [List.head?_eq_getElem?,List.getElem?_eq_getElem h0] at hlast
    exact Option.some.inj hlast
   subst e2
   rcases Nat.eq_zero_or_pos i with z | z
   ·subst z; exact .inl e3
   ·right; rw [← e3]; exact List.pairwise_iff_getElem.mp hs 0 i h0 (by omega) z
  ·rw [List.getLast?_cons,← hlast,hl]
   cases row with
   | nil=> simp at hn
   | cons a r=> rfl
  ·simp only [List.head?_cons,Nat.add_sub_cancel]
   rw [show n+2 - 1=n+1 by omega,List.getElem?_eq_getElem hn]
theorem cg {row:List Pt} (hs:row.Pairwise plt) (h:row≠[]):wx row (aj row)∧(aj row).getLast?=row.head?∧(aj row).head?=row.getLast?:=by
 have h0:0 < row.length:=List.length_pos_iff.mpr h
 obtain ⟨h1,h2,h3⟩:=jy hs row.length h0 (Nat.le_refl _)
 rw [List.take_length] at h1 h2 h3
 exact ⟨h1,h2,by rw [h3,List.getLast?_eq_getElem?]⟩
theorem iG {u1 u2 v1 v2 w1 w2:Int} (hu:fX u1 u2) (hv:fX v1 v2) (hw:fX w1 w2) (h1:0≤u1 * v2 - u2 * v1) (h2:0 < v1 * w2 - v2 * w1):0 < u1 * w2 - u2 * w1:=by
 unfold fX at *
 by_cases hv1:v1=0
 ·subst hv1
  have hv2:0 < v2:=by omega
  have:=Int.mul_nonneg (show 0≤v2 by omega) (show 0≤w1 by omega)
  simp at h2; omega
 ·have hv':0 < v1:=by omega
  have hu1:0 < u1:=by
   rcases hu with h | ⟨h,h'⟩
   ·exact h
   ·subst h
    have:=Int.mul_pos h' hv'
    simp at h1; omega
  have e:v1 * (u1 * w2 - u2 * w1)=u1 * (v1 * w2 - v2 * w1)+w1 * (u1 * v2 - u2 * v1):=by grind
  have p1:=Int.mul_pos hu1 h2
  have p2:=Int.mul_nonneg (show 0≤w1 by omega) h1
  have q:0 < v1 * (u1 * w2 - u2 * w1):=by omega
  exact Int.pos_of_mul_pos_right q hv'
def low (row:List Pt) (p:Pt):Prop:=∀ a∈row,∀ b∈row,plt a p→plt p b→0 < af a p b
theorem xW {row:List Pt} {p:Pt}:∀ (st:List Pt) (n:Pt),lW (n::st)→iB (n::st)→gi row (n::st)→p∈st→(∀ l,(n::st).getLast?=some l→plt l p)→
  ∃ n' q,0 < af q p n'∧plt q p∧plt p n'∧(∀ x∈row,0≤af p n' x)∧(∀ x∈row,0≤af q p x)
 | [],n,_,_,_,hp,_=> by simp at hp
 | h::r,n,D,T,C,hp,hl=> by
  by_cases e:h=p
  ·subst e
   cases r with
   | nil=> exact absurd (hl h (by simp)) (bo h)
   | cons q r'=> exact ⟨n,q,T.1,D.2.1,D.1,C.1,C.2.1⟩
  ·have hp':p∈r:=by
    rcases List.mem_cons.mp hp with z | z
    ·exact absurd z.symm e
    ·exact z
   exact xW r h D.tail T.tail C.tail hp' (fun l hl'=> hl l (by rw [List.getLast?_cons_cons]; exact hl'))
theorem lN {row:List Pt} (hs:row.Pairwise plt) {p:Pt} (hp:p∈aj row):low row p:=by
 intro a ha b hb hap hpb
 have hne:row≠[]:=fun z=> by rw [z] at ha; simp at ha
 obtain ⟨K,hlast,hhead⟩:=cg hs hne
 have mn:∀ x∈row,∀ m,row.head?=some m→x=m∨plt m x:=fun x hx m hm=> by
  cases row with
  | nil=> simp at hx
  | cons y r=>
   cases hm
   rcases List.mem_cons.mp hx with z | z
   ·exact .inl z
   ·exact .inr ((List.pairwise_cons.mp hs).1 x z)
 have mx:∀ x∈row,∀ m,row.getLast?=some m→x=m∨plt x m:=fun x hx m hm=> by
  obtain ⟨i,hi⟩:=List.mem_iff_getElem?.mp hx
  have hil:=(List.getElem?_eq_some_iff.mp hi).1
  rw [List.getLast?_eq_getElem?] at hm
  have hml:=(List.getElem?_eq_some_iff.mp hm).1
  rcases Nat.lt_or_eq_of_le (show i≤row.length - 1 by omega) with z | z
  ·right
   have h1:=List.pairwise_iff_getElem.mp hs i (row.length - 1) hil hml z
   rw [(List.getElem?_eq_some_iff.mp hi).2,(List.getElem?_eq_some_iff.mp hm).2] at h1
   exact h1
  ·left; rw [z,hm] at hi; exact (Option.some.inj hi).symm
 cases hst:aj row with
 | nil=> exact absurd hst K.ne
 | cons n st=>
  rw [hst] at K hlast hhead hp
  have hn:row.getLast?=some n:=by rw [← hhead]; rfl
  have hpn:p∈st:=by
   rcases List.mem_cons.mp hp with z | z
   ·rcases mx b hb n hn with y | y
    ·rw [y,← z] at hpb; exact absurd hpb (bo p)
    ·rw [z] at hpb; exact absurd (ce hpb y) (bo n)
   ·exact z
  obtain ⟨n',q,t,qp,pn,c1,c2⟩:=xW st n K.desc K.turns K.cover hpn (fun l hl=> by
   rw [hlast] at hl
   rcases mn a ha l hl with y | y
   ·rw [← y]; exact hap
   ·exact ce y hap)
  have g1:=c2 a ha
  have g2:=c1 b hb
  unfold af at *
  have k1:0≤(p.1 - a.1) * (p.2 - q.2) - (p.2 - a.2) * (p.1 - q.1):=by grind
  have k2:0 < (p.1 - q.1) * (n'.2 - p.2) - (p.2 - q.2) * (n'.1 - p.1):=by grind
  have k3:0≤(n'.1 - p.1) * (b.2 - p.2) - (n'.2 - p.2) * (b.1 - p.1):=by grind
  have k4:=jd (ba qp) (ba pn) (ba hpb) k2 k3
  have k5:=iG (ba hap) (ba qp) (ba hpb) k1 k4
  grind
theorem u_ {row:List Pt} {p:Pt}:∀ (st:List Pt) (h:Pt),lW (h::st)→gi row (h::st)→p∈row→p ∉ h::st→plt p h→(∀ l,(h::st).getLast?=some l→plt l p)→∃ a∈h::st,∃ b∈h::st,plt a p∧plt p b∧0≤af a b p
 | [],h,_,_,_,_,hp,hl=> absurd (ce hp (hl h (by simp))) (bo p)
 | a::r,h,D,C,hr,hno,hp,hl=> by
  rcases lG p a with z | z | z
  ·obtain ⟨x,hx,y,hy,k⟩:=u_ r a D.tail C.tail hr (fun w=> hno (List.mem_cons_of_mem _ w)) z (fun l hl'=> hl l (by rw [List.getLast?_cons_cons]; exact hl'))
   exact ⟨x,List.mem_cons_of_mem _ hx,y,List.mem_cons_of_mem _ hy,k⟩
  ·exact absurd (by rw [z]; simp) hno
  ·exact ⟨a,by simp,h,by simp,z,hp,C.1 p hr⟩
theorem gap {row:List Pt} (hs:row.Pairwise plt) {p:Pt} (hp:p∈row) (hno:p ∉ aj row):∃ a∈aj row,∃ b∈aj row,plt a p∧plt p b∧af a p b≤0:=by
 have hne:row≠[]:=fun z=> by rw [z] at hp; simp at hp
 obtain ⟨K,hlast,hhead⟩:=cg hs hne
 cases hst:aj row with
 | nil=> exact absurd hst K.ne
 | cons n st=>
  rw [hst] at K hlast hhead hno
  have hn:row.getLast?=some n:=by rw [← hhead]; rfl
  have pn:plt p n:=by
   obtain ⟨i,hi⟩:=List.mem_iff_getElem?.mp hp
   have hil:=(List.getElem?_eq_some_iff.mp hi).1
   rw [List.getLast?_eq_getElem?] at hn
   have hml:=(List.getElem?_eq_some_iff.mp hn).1
   rcases Nat.lt_or_eq_of_le (show i≤row.length - 1 by omega) with z | z
   ·have h1:=List.pairwise_iff_getElem.mp hs i (row.length - 1) hil hml z
    rw [(List.getElem?_eq_some_iff.mp hi).2,(List.getElem?_eq_some_iff.mp hn).2] at h1
    exact h1
   ·rw [z,hn] at hi; exact absurd (by rw [← Option.some.inj hi]; simp) hno
  obtain ⟨a,ha,b,hb,k1,k2,k3⟩:=u_ st n K.desc K.cover hp hno pn (fun l hl=> by
   have hl':=hl
   rw [hlast] at hl
   cases row with
   | nil=> simp at hp
   | cons y r=>
    cases hl
    rcases List.mem_cons.mp hp with z | z
    ·exact absurd (by rw [z]; exact List.mem_of_getLast? hl') hno
    ·exact (List.pairwise_cons.mp hs).1 p z)
  refine ⟨a,ha,b,hb,k1,k2,?_⟩
  unfold af at *
  grind
theorem sX {row row':List Pt} (hs:row.Pairwise plt) (hs':row'.Pairwise plt) (h1:∀ p∈row',p∈row) (h2:∀ p∈aj row,p∈row') (sub:∀ (r:List Pt) (q:Pt),q∈aj r→q∈r) (p:Pt):p∈aj row'↔p∈aj row:=by
 constructor
 ·intro hp
  refine Classical.byContradiction fun hno=> ?_
  obtain ⟨a,ha,b,hb,k1,k2,k3⟩:=gap hs (h1 p (sub _ _ hp)) hno
  have:=lN hs' hp a (h2 a ha) b (h2 b hb) k1 k2
  omega
 ·intro hp
  refine Classical.byContradiction fun hno=> ?_
  obtain ⟨a,ha,b,hb,k1,k2,k3⟩:=gap hs' (h2 p hp) hno
  have:=lN hs hp a (h1 a (sub _ _ ha)) b (h1 b (sub _ _ hb)) k1 k2
  omega
abbrev Szp (m:Nat) (p:P2):Prop:=Sz m p.1∧Sz m p.2
theorem yf (b:P2) (r:List P2):atI ((b::r).reverse.map pu) (-1)=some (pu b):=by
 have h:ixN ((b::r).reverse.map pu).length (-1)=some r.length:=by
  unfold ixN
  simp
  omega
 unfold atI
 rw [h]
 simp
theorem yj (b a:P2) (r:List P2):atI ((b::a::r).reverse.map pu) (-2)=some (pu a):=by
 have h:ixN ((b::a::r).reverse.map pu).length (-2)=some r.length:=by
  unfold ixN
  simp
  omega
 unfold atI
 rw [h]
 simp
theorem iX (P:P2):∀ st:List P2,(aR P st).length≤st.length
 | []=> Nat.le_refl _
 | [_]=> Nat.le_refl _
 | b::a::r=> by
  unfold aR
  split
  ·have:=iX P (a::r); simp only [List.length_cons] at *; omega
  ·exact Nat.le_refl _
theorem qh (P:P2):∀ (st:List P2) (q:P2),q∈aR P st→q∈st
 | [],_,h=> h
 | [_],_,h=> h
 | b::a::r,q,h=> by
  unfold aR at h
  split at h
  ·exact List.mem_cons_of_mem _ (qh P (a::r) q h)
  ·exact h
theorem eV {row:List P2} {i:Nat} {P:P2} (h:row[i]?=some P):aj (row.take (i+1))=P::aR P (aj (row.take i)):=by
 rw [List.take_succ,h]; exact jf _ _
theorem fQ (row:List P2):∀ i,(aj (row.take i)).length≤i
 | 0=> by simp [aj]
 | i+1=> by
  have ih:=fQ row i
  cases h:row[i]? with
  | none=> rw [List.take_succ,h]; simp; omega
  | some P=>
   rw [eV h]
   have:=iX P (aj (row.take i))
   simp only [List.length_cons]; omega
theorem eT (row:List P2):∀ i q,q∈aj (row.take i)→q∈row
 | 0,q,h=> by simp [aj] at h
 | i+1,q,h=> by
  cases hi:row[i]? with
  | none=> rw [List.take_succ,hi] at h; exact eT row i q (by simpa using h)
  | some P=>
   rw [eV hi] at h
   rcases List.mem_cons.mp h with e | e
   ·rw [e]; exact List.mem_of_getElem? hi
   ·exact eT row i q (qh P _ q e)
theorem vd (n:Int):decide (sgn n < 1)=decide (n≤0):=by
 have h:sgn n < 1↔n≤0:=by
  unfold sgn
  split
  ·omega
  ·split <;> omega
 exact decide_eq_decide.mpr h
theorem ii (l:List P2):gF (l.map pu) none (some (-1))=l.dropLast.map pu:=by
 unfold gF HT.sIx
 rw [List.map_dropLast,List.dropLast_eq_take]
 simp
 try omega
def ak (pts:List P2):List P2:=if (ST.srt pts).length=1 then ST.srt pts else (aj (ST.srt pts)).reverse.dropLast++(aj (ST.srt pts).reverse).reverse.dropLast
theorem kP (a b:Pt):plt a b↔ST.ltP a b=true:=by unfold plt ST.ltP; simp
theorem gP {l:List Pt}:ST.Asc l↔l.Pairwise plt:=⟨fun h=> h.imp fun {a b} k=> (kP a b).mpr k,fun h=> h.imp fun {a b} k=> (kP a b).mp k⟩
theorem kw:∀ {st:List Pt},lW st→st.Pairwise (fun x y=> plt y x)
 | [],_=> List.Pairwise.nil
 | [_],_=> by simp
 | b::a::r,h=> by
  have ih:=kw h.2
  refine List.pairwise_cons.mpr ⟨fun x hx=> ?_,ih⟩
  rcases List.mem_cons.mp hx with z | z
  ·rw [z]; exact h.1
  ·exact ce ((List.pairwise_cons.mp ih).1 x z) h.1
theorem bI (row:List Pt) (q:Pt) (h:q∈aj row):q∈row:=by
 have:=eT row row.length q
 rw [List.take_length] at this
 exact this h
theorem dF {row:List Pt} (hs:row.Pairwise plt):ST.Asc (aj row).reverse:=by
 by_cases hne:row=[]
 ·subst hne; exact List.Pairwise.nil
 ·exact gP.mpr (List.pairwise_reverse.mpr (kw (cg hs hne).1.desc))
theorem m7 {row row':List Pt} (hs:row.Pairwise plt) (hs':row'.Pairwise plt) (h1:∀ p∈row',p∈row) (h2:∀ p∈aj row,p∈row'):aj row'=aj row:=by
 have e:=ST.asc_one (dF hs') (dF hs) fun z=> by
  rw [List.mem_reverse,List.mem_reverse]
  exact sX hs hs' h1 h2 bI z
 exact List.reverse_inj.mp e
def ng (p:Pt):Pt:=(-p.1,-p.2)
theorem gv (p:Pt):ng (ng p)=p:=by unfold ng; simp
theorem zd (l:List Pt):(l.map ng).map ng=l:=by
 rw [List.map_map,show ng ∘ ng=id from funext gv,List.map_id]
theorem jT (a b c:Pt):af (ng a) (ng b) (ng c)=af a b c:=by unfold af ng; grind
theorem jD {a b:Pt} (h:plt a b):plt (ng b) (ng a):=by unfold plt ng at *; simp; omega
theorem uh (P:Pt):∀ st:List Pt,aR (ng P) (st.map ng)=(aR P st).map ng
 | []=> rfl
 | [_]=> rfl
 | b::a::r=> by
  show aR (ng P) (ng b::ng a::r.map ng)=_
  unfold aR
  rw [jT]
  split
  ·exact uh P (a::r)
  ·rfl
theorem fE:∀ row:List Pt,aj (row.map ng)=(aj row).map ng:=fun row=> by
 have key:∀ (l:List Pt) (st:List Pt),(l.map ng).foldl (fun st P=> P::aR P st) (st.map ng)=(l.foldl (fun st P=> P::aR P st) st).map ng:=by
  intro l
  induction l with
  | nil=> intro st; rfl
  | cons p r ih=>
   intro st
   rw [List.map_cons,List.foldl_cons,List.foldl_cons,uh]
   exact ih (p::aR p st)
 exact key row []
theorem cN {row:List Pt} (hs:row.Pairwise plt):(row.reverse.map ng).Pairwise plt:=by
 rw [List.pairwise_map,List.pairwise_reverse]
 exact hs.imp fun {a b} h=> jD h
theorem bK (row:List Pt):aj row.reverse=(aj (row.reverse.map ng)).map ng:=by rw [fE,zd]
theorem lS {row row':List Pt} (hs:row.Pairwise plt) (hs':row'.Pairwise plt) (h1:∀ p∈row',p∈row) (h2:∀ p∈aj row.reverse,p∈row'):aj row'.reverse=aj row.reverse:=by
 rw [bK row,bK row']
 congr 1
 refine m7 (cN hs) (cN hs') (fun p hp=> ?_) (fun p hp=> ?_)
 ·obtain ⟨q,hq,rfl⟩:=List.mem_map.mp hp
  exact List.mem_map.mpr ⟨q,List.mem_reverse.mpr (h1 q (List.mem_reverse.mp hq)),rfl⟩
 ·rw [fE] at hp
  obtain ⟨q,hq,rfl⟩:=List.mem_map.mp hp
  exact List.mem_map.mpr ⟨q,List.mem_reverse.mpr (h2 q hq),rfl⟩
theorem ends {row:List Pt} (hs:row.Pairwise plt) (h2:2≤row.length):∃ mn mx t1 t2,aj row=mx::t1∧aj row.reverse=mn::t2∧mn∈t1∧mx∈t2∧(∀ p∈row,p=mn∨plt mn p)∧(∀ p∈row,p=mx∨plt p mx)∧mn∈row∧mx∈row:=by
 have hne:row≠[]:=fun z=> by rw [z] at h2; simp at h2
 obtain ⟨K,hl,hh⟩:=cg hs hne
 have hneR:row.reverse.map ng≠[]:=by simpa using hne
 obtain ⟨KR,hlR,hhR⟩:=cg (cN hs) hneR
 have e1:row.head?=some row[0]:=by rw [List.head?_eq_getElem?]; exact List.getElem?_eq_getElem (by omega)
 have e2:row.getLast?=some row[row.length - 1]:=by rw [List.getLast?_eq_getElem?]; exact List.getElem?_eq_getElem (by omega)
 have l01:plt row[0] row[row.length - 1]:=List.pairwise_iff_getElem.mp hs 0 (row.length - 1) (by omega) (by omega) (by omega)
 have mnA:∀ p∈row,p=row[0]∨plt row[0] p:=fun p hp=> by
  obtain ⟨i,hi,rfl⟩:=List.mem_iff_getElem.mp hp
  rcases Nat.eq_zero_or_pos i with z | z
  ·left; subst z; rfl
  ·right; exact List.pairwise_iff_getElem.mp hs 0 i (by omega) hi z
 have mxA:∀ p∈row,p=row[row.length - 1]∨plt p row[row.length - 1]:=fun p hp=> by
  obtain ⟨i,hi,rfl⟩:=List.mem_iff_getElem.mp hp
  rcases Nat.lt_or_eq_of_le (show i≤row.length - 1 by omega) with z | z
  ·right; exact List.pairwise_iff_getElem.mp hs i (row.length - 1) hi (by omega) z
  ·left; subst z; rfl
 have ne:row[0]≠row[row.length - 1]:=fun z=> by rw [z] at l01; exact bo _ l01
 generalize row[0]=mn at *
 generalize row[row.length - 1]=mx at *
 have mmn:mn∈row:=List.mem_of_head? e1
 have mmx:mx∈row:=List.mem_of_getLast? e2
 rw [e1] at hl
 rw [e2] at hh
 have hlR':(aj row.reverse).getLast?=some mx:=by
  rw [bK,List.getLast?_map,hlR,List.head?_map,List.head?_reverse,e2]; simp [gv]
 have hhR':(aj row.reverse).head?=some mn:=by
  rw [bK,List.head?_map,hhR,List.getLast?_map,List.getLast?_reverse,e1]; simp [gv]
 cases hb:aj row with
 | nil=> rw [hb] at hh; cases hh
 | cons x t1=>
  rw [hb] at hh hl
  cases hh
  cases hbR:aj row.reverse with
  | nil=> rw [hbR] at hhR'; cases hhR'
  | cons y t2=>
   rw [hbR] at hhR' hlR'
   cases hhR'
   refine ⟨_,_,t1,t2,rfl,rfl,?_,?_,mnA,mxA,mmn,mmx⟩
   ·cases t1 with
    | nil=> simp at hl; exact absurd hl.symm ne
    | cons z r=> rw [List.getLast?_cons_cons] at hl; exact List.mem_of_getLast? hl
   ·cases t2 with
    | nil=> simp at hlR'; exact absurd hlR' ne
    | cons z r=> rw [List.getLast?_cons_cons] at hlR'; exact List.mem_of_getLast? hlR'
theorem vn (st:List Pt):st.reverse.dropLast=st.tail.reverse:=by
 cases st with
 | nil=> rfl
 | cons h t=> simp
theorem fU {l:List Pt}:l.reverse.Nodup↔l.Nodup:=by
 unfold List.Nodup
 rw [List.pairwise_reverse]
 exact ⟨fun h=> h.imp fun k=> Ne.symm k,fun h=> h.imp fun k=> Ne.symm k⟩
theorem dG:∀ {l m:List Pt},l.Nodup→(∀ x∈l,x∈m)→l.length≤m.length
 | [],_,_,_=> Nat.zero_le _
 | x::l,m,h,hs=> by
  obtain ⟨h1,h2⟩:=List.nodup_cons.mp h
  have hx:x∈m:=hs x List.mem_cons_self
  have ih:=dG (m:=m.erase x) h2 fun y hy=> (List.mem_erase_of_ne (fun e=> h1 (by rw [← e]; exact hy))).mpr (hs y (List.mem_cons_of_mem _ hy))
  rw [List.length_erase_of_mem hx] at ih
  have:=List.length_pos_of_mem hx
  simp only [List.length_cons]; omega
theorem dz (pts:List Pt):(ST.srt pts).Pairwise plt:=gP.mp (ST.srt_asc pts)
theorem ft {pts:List Pt} (h:2≤(ST.srt pts).length):ak pts=(aj (ST.srt pts)).tail.reverse++(aj (ST.srt pts).reverse).tail.reverse:=by
 unfold ak; rw [if_neg (by omega),vn,vn]
theorem iS {pts:List Pt} (h:pts≠[]):ak pts≠[]:=by
 have hs:ST.srt pts≠[]:=fun z=> by
  obtain ⟨p,r,rfl⟩:=List.exists_cons_of_ne_nil h
  have:=(ST.srt_mem p (p::r)).mpr List.mem_cons_self
  rw [z] at this; simp at this
 by_cases h1:(ST.srt pts).length=1
 ·unfold ak; rw [if_pos h1]; exact hs
 ·have h2:2≤(ST.srt pts).length:=by have:=List.length_pos_iff.mpr hs; omega
  obtain ⟨mn,mx,t1,t2,e1,e2,m1,m2,_⟩:=ends (dz pts) h2
  rw [ft h2,e1,e2]
  intro z
  have:t1.reverse=[]:=(List.append_eq_nil_iff.mp z).1
  rw [List.reverse_eq_nil_iff.mp this] at m1
  simp at m1
theorem aZ (pts:List Pt):(ak pts).Nodup:=by
 have nd:∀ {l:List Pt},l.Pairwise plt→l.Nodup:=fun h=> h.imp fun {a b} k e=> by rw [e] at k; exact bo b k
 by_cases h2:2≤(ST.srt pts).length
 ·have hs:=dz pts
  obtain ⟨mn,mx,t1,t2,e1,e2,m1,m2,hmn,hmx,i1,i2⟩:=ends hs h2
  have n1:(mx::t1).Nodup:=by rw [← e1]; exact fU.mp (nd (gP.mp (dF hs)))
  have n2:(mn::t2).Nodup:=by
   rw [← e2,bK]
   have:=fU.mp (nd (gP.mp (dF (cN hs))))
   refine List.pairwise_map.mpr (this.imp fun {a b} hab e=> hab ?_)
   rw [← gv a,e,gv]
  obtain ⟨x1,y1⟩:=List.nodup_cons.mp n1
  obtain ⟨x2,y2⟩:=List.nodup_cons.mp n2
  rw [ft h2,e1,e2,List.tail_cons,List.tail_cons,List.nodup_append]
  refine ⟨fU.mpr y1,fU.mpr y2,fun p hp q hq=> ?_⟩
  rintro rfl
  have p1:p∈t1:=List.mem_reverse.mp hp
  have p2:p∈t2:=List.mem_reverse.mp hq
  have b1:p∈aj (ST.srt pts):=by rw [e1]; exact List.mem_cons_of_mem _ p1
  have b2:p∈aj (ST.srt pts).reverse:=by rw [e2]; exact List.mem_cons_of_mem _ p2
  have pr:=bI _ _ b1
  have l1:plt mn p:=(hmn p pr).resolve_left fun e=> x2 (by rw [← e]; exact p2)
  have l2:plt p mx:=(hmx p pr).resolve_left fun e=> x1 (by rw [← e]; exact p1)
  have d1:=lN hs b1 mn i1 mx i2 l1 l2
  have b3:ng p∈aj ((ST.srt pts).reverse.map ng):=by rw [fE]; exact List.mem_map.mpr ⟨p,b2,rfl⟩
  have d2:=lN (cN hs) b3 (ng mx) (List.mem_map.mpr ⟨mx,List.mem_reverse.mpr i2,rfl⟩) (ng mn) (List.mem_map.mpr ⟨mn,List.mem_reverse.mpr i1,rfl⟩) (jD l2) (jD l1)
  rw [jT] at d2
  unfold af at d1 d2
  grind
 ·unfold ak
  split
  ·exact nd (dz pts)
  ·have e:ST.srt pts=[]:=List.length_eq_zero_iff.mp (by omega)
   rw [e]; exact List.nodup_nil
theorem aN (pts:List Pt):∀ p∈ak pts,p∈pts:=fun p hp=> by
 unfold ak at hp
 split at hp
 ·exact (ST.srt_mem p pts).mp hp
 ·rcases List.mem_append.mp hp with h | h
  ·exact (ST.srt_mem p pts).mp (bI _ _ (List.mem_reverse.mp (List.dropLast_subset _ h)))
  ·exact (ST.srt_mem p pts).mp (List.mem_reverse.mp (bI _ _ (List.mem_reverse.mp (List.dropLast_subset _ h))))
theorem iT (pts:List Pt):(ak pts).length≤pts.length:=dG (aZ pts) (aN pts)
theorem ku (pts:List Pt):ak (ak pts)=ak pts:=by
 by_cases h2:2≤(ST.srt pts).length
 ·have hs:=dz pts
  obtain ⟨mn,mx,t1,t2,e1,e2,m1,m2,hmn,hmx,i1,i2⟩:=ends hs h2
  have ec:=ft h2
  have mem1:∀ p∈aj (ST.srt pts),p∈ak pts:=fun p hp=> by
   rw [ec,e1,e2,List.tail_cons,List.tail_cons]
   rw [e1] at hp
   rcases List.mem_cons.mp hp with z | z
   ·rw [z]; exact List.mem_append_right _ (List.mem_reverse.mpr m2)
   ·exact List.mem_append_left _ (List.mem_reverse.mpr z)
  have mem2:∀ p∈aj (ST.srt pts).reverse,p∈ak pts:=fun p hp=> by
   rw [ec,e1,e2,List.tail_cons,List.tail_cons]
   rw [e2] at hp
   rcases List.mem_cons.mp hp with z | z
   ·rw [z]; exact List.mem_append_left _ (List.mem_reverse.mpr m1)
   ·exact List.mem_append_right _ (List.mem_reverse.mpr z)
  have hs':=dz (ak pts)
  have sub:∀ p∈ST.srt (ak pts),p∈ST.srt pts:=fun p hp=> (ST.srt_mem p pts).mpr (aN pts p ((ST.srt_mem p _).mp hp))
  have q1:=m7 hs hs' sub fun p hp=> (ST.srt_mem p _).mpr (mem1 p hp)
  have q2:=lS hs hs' sub fun p hp=> (ST.srt_mem p _).mpr (mem2 p hp)
  have len:2≤(ST.srt (ak pts)).length:=by
   have a1:mn∈ST.srt (ak pts):=(ST.srt_mem _ _).mpr (mem1 mn (by rw [e1]; exact List.mem_cons_of_mem _ m1))
   have a2:mx∈ST.srt (ak pts):=(ST.srt_mem _ _).mpr (mem1 mx (by rw [e1]; exact List.mem_cons_self))
   have ne:mn≠mx:=fun z=> by
    have nd:=aZ pts
    rw [ec,e1,e2,List.tail_cons,List.tail_cons,List.nodup_append] at nd
    exact nd.2.2 mn (List.mem_reverse.mpr m1) mx (List.mem_reverse.mpr m2) z
   have:=dG (l:=[mn,mx]) (m:=ST.srt (ak pts)) (by simp [ne]) (fun x hx=> by
    rcases List.mem_cons.mp hx with z | z
    ·rw [z]; exact a1
    ·rw [List.mem_singleton.mp z]; exact a2)
   exact this
  rw [ft len,q1,q2,← ec]
 ·have e:ak pts=ST.srt pts:=by
   unfold ak
   split
   ·rfl
   ·have e:ST.srt pts=[]:=List.length_eq_zero_iff.mp (by omega)
    rw [e]; rfl
  rw [e]
  have e3:ST.srt (ST.srt pts)=ST.srt pts:=ST.asc_srt (ST.srt_asc pts)
  unfold ak
  rw [e3]
  split
  ·rfl
  ·have e:ST.srt pts=[]:=List.length_eq_zero_iff.mp (by omega)
   rw [e]; rfl
end
section
variable {P:Program} {w:World} {K:PySem.W.Frag} {mg:Str→Option Value} {base:Heap}
def qW:List U→Out→Prop:=fun us o=> ∃ P Q R:P2,us=[pu P,pu Q,pu R]∧Szp 5000 P∧Szp 5000 Q∧Szp 5000 R∧o=.val (.int (sgn (af P Q R)))
set_option maxHeartbeats 8000000 in
theorem xM (T:Txt K mg):aX P w K mg base (CXF P w) 2 T.a_turn T.d_turn ["P","Q","R"] (spU K (qW)):=by
 refine bg T.F_turn wR (fun us o h=> ?_) (fun cdv A outer s H E O us o hr h=> ?_)
 ·obtain ⟨P,Q,R,rfl,⟨p1,p2⟩,⟨q1,q2⟩,⟨r1,r2⟩,rfl⟩:=h
  rfl
 obtain ⟨P,Q,R,rfl,⟨p1,p2⟩,⟨q1,q2⟩,⟨r1,r2⟩,rfl⟩:=h
 refine Ws.nox ?_
 refine ae (aH (ay ((pG T).mono (by decide)) hr rfl T.m_sign T.F_sign.kp T.b_sign aA (ac (bv (bh (bv (aE (aa 1 rfl) ai rfl rfl) (aE (aa 0 rfl) ai rfl rfl)) (bv (aE (aa 2 rfl) ai rfl rfl) (aE (aa 0 rfl) ai rfl rfl)) (by walk_at "mul")) (bh (bv (aE (aa 1 rfl) ai rfl rfl) (aE (aa 0 rfl) ai rfl rfl)) (bv (aE (aa 2 rfl) ai rfl rfl) (aE (aa 0 rfl) ai rfl rfl)) (by walk_at "mul"))) am bJ) ⟨_,rfl,rfl⟩) ?_)
 exact rfl
def oY:List U→Out→Prop:=fun us o=> ∃ row:List P2,us=[lp row]∧(∀ p∈row,Szp 5000 p)∧row.length≤900∧o=.new ((aj row).reverse.map pu)
set_option maxHeartbeats 8000000 in
theorem gq (T:Txt K mg):aX P w K mg base (CXF P w) 3 T.a_left_bends T.d_left_bends ["row"] (spU K (oY)):=by
 refine bg T.F_left_bends d_ (fun us o h=> ?_) (fun cdv A outer s H E O us o hr h=> ?_)
 ·obtain ⟨row,rfl,sz,hl,rfl⟩:=h
  rfl
 obtain ⟨row,rfl,sz,hl,rfl⟩:=h
 refine Ws.nox ?_
 refine ae (jl (i:=1) d_.nd rfl (Or.inl rfl) (d8 bS) ?_)
 refine ae (fG (fun st:List P2=> [some (.val (lp row)),some (.own (st.reverse.map pu)),none]) (fun i st=> st=aj (row.take i)) rfl PassesOwn.never (cD (aa 0 rfl) (.inl rfl)) ?h0 ?hs ?hd)
 case h0=> exact ⟨[],rfl,rfl,rfl,trivial⟩
 case hs=>
  rintro H0 i x _ hx rfl
  obtain ⟨P,hP,mP,rfl⟩:=qG hx
  have hi:i < row.length:=aG hP
  have sP:=sz P mP
  refine ⟨_,(gH (i:=2) d_.nd rfl (Or.inl rfl)),?_⟩
  have len0:=fQ row i
  refine i_ (fun ps=> SubP [some (.val (lp row)),some (.own ((aR P (aj (row.take i))).reverse.map pu)),some (.val (pu P))] ps) (jH (fun s2:List P2=> [some (.val (lp row)),some (.own (s2.reverse.map pu)),some (.val (pu P))]) (fun m s2=> m=s2.length∧aR P s2=aR P (aj (row.take i))∧(∀ p∈s2,p∈row)∧s2.length≤i) PassesOwn.never ?h0 ?hs) ?hj
  case h0=> exact ⟨_,_,⟨rfl,rfl,fun q hq=> eT row i q hq,len0⟩,rfl,rfl,rfl,trivial⟩
  case hs=>
   rintro m s2 ⟨rfl,e2,sub,len2⟩
   match s2,e2,sub,len2 with
   | [],e2,sub,len2=>
    refine ⟨false,?_,fun h=> (nomatch h),fun h ps hps=> e2 ▸ hps⟩
    exact (Tw.t (lw (aV jo (gB 1 rfl rfl T.z_len) ai) rfl))
   | [b],e2,sub,len2=>
    refine ⟨false,?_,fun h=> (nomatch h),fun h ps hps=> e2 ▸ hps⟩
    exact (Tw.t (lw (aV jo (gB 1 rfl rfl T.z_len) ai) rfl))
   | b::a::r,e2,sub,len2=>
    have sa:=sz a (sub a (by simp))
    have sb:=sz b (sub b (by simp))
    have e1:decide ((1:Int) < ((((b::a::r).reverse.map pu).length:Nat):Int))=true:=decide_eq_true (by simp; omega)
    refine ⟨decide ((1:Int) < ((((b::a::r).reverse.map pu).length:Nat):Int)) && decide (sgn (af a b P) < 1),?_,fun h=> ?_,fun h ps hps=> ?_⟩
    ·exact (Tw.t (tK (aV jo (gB 1 rfl rfl T.z_len) ai) (fun hz=> (ux (aV g9 (ay ((xM T).mono (by decide)) hr rfl T.m_turn T.F_turn.kp T.b_turn aA (ac (pA 1 rfl (cU ai) (yj b a r)) (ac (pA 1 rfl (cU ai) (yf b (a::r))) (ac (aa 2 rfl) am ag) cw) cw) ⟨a,b,P,rfl,sa,sb,sP,rfl⟩) ai)))))
    ·rw [e1,Bool.true_and,vd] at h
     have hd:=dTb h
     refine ae (xV 1 rfl (by simp) (aQ ?_))
     refine ⟨_,a::r,?_,⟨rfl,?_,fun q hq=> sub q (List.mem_cons_of_mem _ hq),?_⟩,rfl,?_,rfl,trivial⟩
     ·simp
     ·rw [← e2]; conv=> rhs; unfold aR
      rw [if_pos hd]
     ·simp only [List.length_cons] at *; omega
     ·exact congrArg (fun l=> some (Sl.own l)) (by simp)
    ·rw [e1,Bool.true_and,vd] at h
     have hd:=dFb h
     have e3:aR P (b::a::r)=b::a::r:=by conv=> lhs; unfold aR
                                        rw [if_neg hd]
     rw [← e2,e3]
     exact hps
  case hj=>
   intro ps hps
   refine eM ?_ hps
   have e4:=eV hP
   have len3:=iX P (aj (row.take i))
   refine ae (fC 1 rfl (aa 2 rfl) (by rw [List.length_map,List.length_reverse]; exact aI (by omega)) (aQ ?_))
   refine ⟨_,rfl,rfl,?_,trivial⟩
   exact congrArg (fun l=> some (Sl.own l)) (by rw [e4]; simp)
 case hd=>
  rintro st ps hst hps
  refine eM ?_ hps
  refine ae (om 1 rfl ?_)
  rw [hst]
  simp
end
section
variable {P:Program} {w:World} {K:PySem.W.Frag} {mg:Str→Option Value} {base:Heap}
theorem uT {m:Nat} {pts:List P2} (h:∀ p∈pts,Szp m p):∀ p∈ST.srt pts,Szp m p:=fun p hp=> h p ((ST.srt_mem p pts).mp hp)
theorem fL (row:List P2):(aj row).length≤row.length:=by
 have:=fQ row row.length
 rwa [List.take_length] at this
def o4 (C:Addr):List U→Out→Prop:=fun us o=> ∃ pts:List P2,us=[lp pts]∧(∀ p∈pts,Szp 5000 p)∧pts.length < 64∧o=(if pts=[] then .exc C else .new ((ak pts).map pu))
set_option maxHeartbeats 8000000 in
theorem my (T:Txt K mg):aX P w K mg base (CXF P w) 4 T.a_field T.d_field ["points"] (spU K (o4 T.c_NoField)):=by
 refine bg T.F_field fq (by rintro us o ⟨_,rfl,_⟩; rfl) (fun cdv A outer s H E O us o hr h=> ?_)
 obtain ⟨pts,rfl,sz,hl,rfl⟩:=h
 have hml:((pts.map pu).length:Int)=(pts.length:Int):=by rw [List.length_map]
 by_cases hne:pts=[]
 ·subst hne
  refine ae (cT (aV dX (ao (dn rfl) rfl T.z_len PySem.boot_len (ac (aa 0 rfl) am ag)) ai) rfl ?_)
  refine ae (iR T.x_NoField rfl T.mx_NoField qc ?_)
  exact rfl
 ·have hpos:0 < pts.length:=List.length_pos_iff.mpr hne
  rw [if_neg hne]
  refine ae (dY (aV dX (ao (dn rfl) rfl T.z_len PySem.boot_len (ac (aa 0 rfl) am ag)) ai) (by rw [hml]; exact decide_eq_false (by omega)) (aQ ?_))
  have sl:=ST.srt_len pts
  have hms:(((ST.srt pts).map pu).length:Int)=((ST.srt pts).length:Int):=by rw [List.length_map]
  have szs:=uT sz
  refine Ws.nox ?_
  by_cases h1:(ST.srt pts).length=1
  ·refine ae (jl (i:=1) fq.nd rfl (Or.inl rfl) (iq rfl (nJ hr) rfl T.z_sorted rfl T.z_set (aa 0 rfl) hl ag) ?_)
   refine ae (cT (aV dX (gB 1 rfl rfl T.z_len) ai) (by rw [hms]; exact decide_eq_true (by omega)) ?_)
   refine ae (om 1 rfl ?_)
   show Out.new _=Out.new _
   unfold ak
   rw [if_pos h1]
  ·refine ae (aF (i:=1) fq.nd rfl (Or.inl rfl) (EvN.ev (iq rfl (nJ hr) rfl T.z_sorted rfl T.z_set (aa 0 rfl) hl ag)) ?_)
   refine ae (dY (aV dX (ao (dn rfl) rfl T.z_len PySem.boot_len (ac (aa 1 rfl) am ag)) ai) (by rw [hms]; exact decide_eq_false (by omega)) (aQ ?_))
   have b1:=fL (ST.srt pts)
   have b2:=fL (ST.srt pts).reverse
   rw [List.length_reverse] at b2
   refine ae (aF (i:=2) fq.nd rfl (Or.inl rfl) (EvN.ev (cW ((gq T).mono (by decide)) hr rfl T.m_left_bends T.F_left_bends.kp T.b_left_bends aA (ac (aa 1 rfl) am ag) ⟨ST.srt pts,rfl,szs,by omega,rfl⟩)) ?_)
   refine ae (aF (i:=3) fq.nd rfl (Or.inl rfl) (EvN.ev (cW ((gq T).mono (by decide)) hr rfl T.m_left_bends T.F_left_bends.kp T.b_left_bends aA (ac (EvN.ev (Ae (aa 1 rfl) (cU ai) (.inl rfl))) am cw) ⟨(ST.srt pts).reverse,by rw [lp,List.map_reverse],fun p hp=> szs p (List.mem_reverse.mp hp),by rw [List.length_reverse]; omega,rfl⟩)) ?_)
   refine ae (fF (uC (EvN.ev (fR (aa 2 rfl) jq (gz (cU ai)) (.inl rfl))) (EvN.ev (fR (aa 3 rfl) jq (gz (cU ai)) (.inl rfl))) (by rw [ii,ii,List.length_map,List.length_map,List.length_dropLast,List.length_dropLast,List.length_reverse,List.length_reverse]; exact Nat.le_of_lt (aI (by omega)))) ?_)
   show Out.new _=Out.new _
   unfold ak
   rw [if_neg h1,ii,ii,← List.map_append]
def ap (a b c d e f:Int) (p:P2):P2:=(a * p.1+b * p.2+e,c * p.1+d * p.2+f)
theorem xU {m:Nat} {a b c d e f:Int} {p:P2} (sa:Sz 500 a) (sb:Sz 500 b) (sc:Sz 500 c) (sd:Sz 500 d) (se:Sz 500 e) (sf:Sz 500 f) (hm:m≤3000) (s:Szp m p):Szp (m+510) (ap a b c d e f p):=by
 have key:∀ {x y z:Int},Sz 500 x→Sz 500 y→Sz 500 z→Sz (m+510) (x * p.1+y * p.2+z):=fun sx sy sz=> by
  have h1:=L2.Sz.add' (L2.Sz.mul sx s.1) (L2.Sz.mul sy s.2)
  have h2:=L2.Sz.add' h1 sz
  exact h2.mono (by omega)
 exact ⟨key sa sb se,key sc sd sf⟩
def w_ (C:Addr):List U→Out→Prop:=fun us o=> ∃ (pts:List P2) (a b c d e f:Int),us=[lp pts,mv a b c d e f]∧(a * d - b * c=1∨a * d - b * c=-1)∧(Sz 500 a∧Sz 500 b∧Sz 500 c∧Sz 500 d∧Sz 500 e∧Sz 500 f)∧(∀ p∈pts,Szp 3000 p)∧pts≠[]∧pts.length < 64∧o=.new ((ak (pts.map (ap a b c d e f))).map pu)
set_option maxHeartbeats 8000000 in
theorem jI (T:Txt K mg):aX P w K mg base (CXF P w) 5 T.a_field_moved T.d_field_moved ["land","move"] (spU K (w_ T.c_NoField)):=by
 refine bg T.F_field_moved fB (fun us o h=> ?_) (fun cdv A outer s H E O us o hr h=> ?_)
 ·obtain ⟨pts,a,b,c,d,e,f,rfl,hu,⟨sa,sb,sc,sd,se,sf⟩,sz,hne,hl,rfl⟩:=h
  rfl
 obtain ⟨pts,a,b,c,d,e,f,rfl,hu,⟨sa,sb,sc,sd,se,sf⟩,sz,hne,hl,rfl⟩:=h
 have k5:500≤30000:=by decide
 have M:Mv a b c d e f:=⟨hu,sa.mono k5,sb.mono k5,sc.mono k5,sd.mono k5,se.mono k5,sf.mono k5⟩
 refine ae (fF (cW ((my T).mono (by decide)) hr rfl T.m_field T.F_field.kp T.b_field aA (ac (EvN.ev (d9 (ys:=(pts.map fun p=> pu (ap a b c d e f p))) rfl (blk (ah bG) ["land","move","P"] [2] rfl rfl rfl rfl (by decide+kernel)) (cD (aa 0 rfl) (.inl rfl)) (fun _ _ _ _=> bi (i:=2) fB.nd rfl (Or.inl rfl)) (bW (by decide)) ?clen ?csz (fun _ _=> trivial) ?celt)) am dh) ⟨pts.map (ap a b c d e f),by rw [lp,List.map_map]; rfl,fun p hp=> by obtain ⟨q,hq,rfl⟩:=List.mem_map.mp hp; have z:=xU sa sb sc sd se sf (Nat.le_refl 3000) (sz q hq); exact ⟨z.1.mono (by decide),z.2.mono (by decide)⟩,by rw [List.length_map]; exact hl,by rw [if_neg (by simpa using hne)]⟩) ?_)
 case clen=> simp
 case csz=> rw [List.length_map]; exact Nat.le_of_lt (aI (by omega))
 case celt=>
  intro C s' H' fp j x y hx hy
  obtain ⟨p,hp,mp,rfl,rfl⟩:=dC hx hy
  exact (ay ((nN T).mono (by decide)) hr rfl T.m_moved T.F_moved.kp T.b_moved aA (ac (aa 2 rfl) (ac (aa 1 rfl) am ag) ag) (.inl ⟨p.1,p.2,a,b,c,d,e,f,rfl,M,(sz p mp).1.mono (by decide),(sz p mp).2.mono (by decide),rfl⟩))
 exact rfl
end
section
variable {P:Program} {w:World} {K:PySem.W.Frag} {mg:Str→Option Value} {base:Heap}
theorem o8 {l m:List Pt} (h:ST.srt l=ST.srt m):ak l=ak m:=by unfold ak; rw [h]
theorem ki {l m:List Pt} (h:∀ z,z∈l↔z∈m):ST.srt l=ST.srt m:=ST.asc_one (ST.srt_asc l) (ST.srt_asc m) fun z=> by rw [ST.srt_mem,ST.srt_mem]; exact h z
theorem dJ {pts:List Pt} (h:¬ 2≤(ST.srt pts).length):ak pts=ST.srt pts:=by
 unfold ak
 split
 ·rfl
 ·have e:ST.srt pts=[]:=List.length_eq_zero_iff.mp (by omega)
  rw [e]; rfl
section
variable {f:Pt→Pt}
theorem wj (hf:∀ a b,plt a b→plt (f a) (f b)) (l:List Pt):ST.srt (l.map f)=(ST.srt l).map f:=by
 refine ST.asc_one (ST.srt_asc _) (gP.mpr (List.pairwise_map.mpr ((dz l).imp fun {a b} h=> hf a b h))) fun z=> ?_
 rw [ST.srt_mem,List.mem_map,List.mem_map]
 exact ⟨fun ⟨x,hx,e⟩=> ⟨x,(ST.srt_mem x l).mpr hx,e⟩,fun ⟨x,hx,e⟩=> ⟨x,(ST.srt_mem x l).mp hx,e⟩⟩
theorem pW (hd:∀ a b c,af (f a) (f b) (f c)≤0↔af a b c≤0) (P:Pt):∀ st:List Pt,aR (f P) (st.map f)=(aR P st).map f
 | []=> rfl
 | [_]=> rfl
 | b::a::r=> by
  show aR (f P) (f b::f a::r.map f)=_
  unfold aR
  by_cases h:af a b P≤0
  ·rw [if_pos h,if_pos ((hd a b P).mpr h)]; exact pW hd P (a::r)
  ·rw [if_neg h,if_neg fun z=> h ((hd a b P).mp z)]; rfl
theorem kE (hd:∀ a b c,af (f a) (f b) (f c)≤0↔af a b c≤0) (row:List Pt):aj (row.map f)=(aj row).map f:=by
 have key:∀ (l:List Pt) (st:List Pt),(l.map f).foldl (fun st P=> P::aR P st) (st.map f)=(l.foldl (fun st P=> P::aR P st) st).map f:=by
  intro l
  induction l with
  | nil=> intro st; rfl
  | cons p r ih=>
   intro st
   rw [List.map_cons,List.foldl_cons,List.foldl_cons,pW hd]
   exact ih (p::aR p st)
 exact key row []
theorem tf (hf:∀ a b,plt a b→plt (f a) (f b)) (hd:∀ a b c,af (f a) (f b) (f c)≤0↔af a b c≤0) (l:List Pt):ak (l.map f)=(ak l).map f:=by
 unfold ak
 rw [wj hf,List.length_map,← List.map_reverse,kE hd,kE hd]
 split
 ·rfl
 ·rw [List.map_append,List.map_dropLast,List.map_dropLast,List.map_reverse,List.map_reverse]
end
def scl (k:Int) (p:Pt):Pt:=(k * p.1,k * p.2)
theorem wO (p:Pt):scl 1 p=p:=by unfold scl; simp
def lc:List Int→Int
 | []=> 0
 | a::l=> l.foldl min a
theorem gj:∀ (l:List Int) (a:Int),l.foldl min a∈a::l
 | [],a=> by simp
 | b::l,a=> by
  have:=gj l (min a b)
  rw [List.foldl_cons]
  rcases List.mem_cons.mp this with e | e
  ·rw [e]; rcases Int.le_total a b with h | h
   ·rw [Int.min_eq_left h]; simp
   ·rw [Int.min_eq_right h]; simp
  ·exact List.mem_cons_of_mem _ (List.mem_cons_of_mem _ e)
theorem gY:∀ (l:List Int) (a:Int),∀ x∈a::l,l.foldl min a≤x
 | [],a,x,h=> by simp at h; rw [h]; exact Int.le_refl _
 | b::l,a,x,h=> by
  have ih:=gY l (min a b)
  rw [List.foldl_cons]
  have h0:=ih (min a b) List.mem_cons_self
  rcases List.mem_cons.mp h with rfl | h
  ·omega
  ·rcases List.mem_cons.mp h with rfl | h
   ·omega
   ·exact ih x (List.mem_cons_of_mem _ h)
theorem bU {l:List Int} (h:l≠[]):lc l∈l∧∀ a∈l,lc l≤a:=by
 cases l with
 | nil=> exact absurd rfl h
 | cons a l=> exact ⟨gj l a,gY l a⟩
abbrev gp (l:List P2) (i:Nat):P2:=l.getD i (0,0)
def nxt (l:List P2) (i:Nat):P2:=gp l ((i+1) % l.length)
def sdl (l:List P2):List (P2×P2):=(List.range l.length).map fun i=> (gp l i,nxt l i)
abbrev pq (s:P2×P2):U:=.tup [pu s.1,pu s.2]
theorem dy {l:List P2} {i:Nat} (h:i < l.length):l[i]?=some (gp l i):=by simp [gp,h]
theorem ff {l:List P2} {i:Nat} (h:i < l.length):gp l i∈l:=List.mem_of_getElem? (dy h)
theorem yg (l:List U):gF l (some 1) none=l.drop 1:=by
 unfold gF HT.sIx
 cases l with
 | nil=> simp
 | cons a l=> simp
theorem yd (l:List U):gF l none (some 1)=l.take 1:=by
 unfold gF HT.sIx
 cases l with
 | nil=> simp
 | cons a l=> simp
theorem uH (l:List P2):List.zipWith (fun a b=> U.tup [a,b]) (l.map pu) (gF (l.map pu) (some 1) none++gF (l.map pu) none (some 1))=(sdl l).map pq:=by
 rw [yg,yd]
 apply List.ext_getElem?
 intro i
 unfold sdl
 by_cases hi:i < l.length
 ·have e1:(l.map pu)[i]?=some (pu (gp l i)):=by rw [List.getElem?_map,dy hi]; rfl
  have e2:((l.map pu).drop 1++(l.map pu).take 1)[i]?=some (pu (nxt l i)):=by
   unfold nxt
   by_cases hj:i+1 < l.length
   ·rw [List.getElem?_append_left (by simp; omega),List.getElem?_drop,Nat.add_comm,Nat.mod_eq_of_lt hj,List.getElem?_map,dy hj]; rfl
   ·have e:i+1=l.length:=by omega
    rw [List.getElem?_append_right (by simp; omega),e,Nat.mod_self]
    rw [show i - ((l.map pu).drop 1).length=0 by simp; omega,List.getElem?_take_of_lt (by omega),List.getElem?_map,dy (by omega)]; rfl
  rw [List.getElem?_zipWith_eq_some.mpr ⟨_,_,e1,e2,rfl⟩,List.map_map,List.getElem?_map,List.getElem?_range hi]
  rfl
 ·rw [List.getElem?_eq_none (by simp; omega),List.getElem?_eq_none (by simp; omega)]
theorem lr (l:List P2):(sdl l).length=l.length:=by simp [sdl]
theorem bj {l:List P2} {s:P2×P2} (h:s∈sdl l):s.1∈l∧s.2∈l:=by
 obtain ⟨i,hi,rfl⟩:=List.mem_map.mp h
 have hi':=List.mem_range.mp hi
 exact ⟨ff hi',ff (Nat.mod_lt _ (by omega))⟩
def oQ:List U→Out→Prop:=fun us o=> ∃ l:List P2,us=[lp l]∧l.length≤900∧o=.new ((sdl l).map pq)
set_option maxHeartbeats 8000000 in
theorem jg (T:Txt K mg):aX P w K mg base (CXF P w) 1 T.a_sides T.d_sides ["land"] (spU K (oQ)):=by
 refine bg T.F_sides vU (fun us o h=> ?_) (fun cdv A outer s H E O us o hr h=> ?_)
 ·obtain ⟨l,rfl,hl,rfl⟩:=h
  rfl
 obtain ⟨l,rfl,hl,rfl⟩:=h
 refine Ws.nox ?_
 have hlen:(gF (l.map pu) (some 1) none++gF (l.map pu) none (some 1)).length=l.length:=by rw [yg,yd]; simp; omega
 refine ae (fF (rY rfl rfl T.z_list rfl T.z_zip (aa 0 rfl) (.inl rfl) (EvN.ev (uC (EvN.ev (fR (aa 0 rfl) (gz ai) jq (.inl rfl))) (EvN.ev (fR (aa 0 rfl) jq (gz ai) (.inl rfl))) (by rw [← List.length_append,hlen]; exact Nat.le_of_lt (aI (by omega))))) (.inl rfl) (by rw [hlen,List.length_map]) (by rw [List.length_map]; omega) ag bJ) ?_)
 rw [uH]
theorem AJ {l:List P2} (h:0 < l.length):atI (l.map pu) 0=some (pu (gp l 0)):=vO (i:=0) rfl (by rw [List.getElem?_map,dy h]; rfl)
theorem qy {l:List P2} (h:0 < l.length):atI (l.map pu) (-1)=some (pu (gp l (l.length - 1))):=by
 have e:ixN (l.map pu).length (-1)=some (l.length - 1):=by
  unfold ixN
  simp
  omega
 unfold atI
 rw [e]
 show (l.map pu)[l.length - 1]?=_
 rw [List.getElem?_map,dy (by omega)]; rfl
end
section
variable {P:Program} {w:World} {K:PySem.W.Frag} {mg:Str→Option Value} {base:Heap}
def gst (s:P2×P2):Int:=((Int.gcd (s.2.1 - s.1.1) (s.2.2 - s.1.2):Nat):Int)
def crs (s:P2×P2):Int:=s.1.1 * s.2.2 - s.1.2 * s.2.1
def area (l:List P2):Int:=((sdl l).map crs).sum
def je (l:List P2):Int:=((sdl l).map gst).sum
def pin (l:List P2):Int:=if l.length < 3 then 0 else (area l - je l+2) / 2
theorem oj (s:P2×P2):0≤gst s:=by unfold gst; omega
theorem bT {s:P2×P2} (h:s.1≠s.2):0 < gst s:=by
 unfold gst
 have:Int.gcd (s.2.1 - s.1.1) (s.2.2 - s.1.2)≠0:=fun e=> by
  have:=Int.gcd_eq_zero_iff.mp e
  exact h (Prod.ext (by omega) (by omega))
 omega
def ev (p:P2):Int:=if p.1 % 2=0∧p.2 % 2=0 then 1 else 0
theorem p_ (l:List P2):(sdl l).map (·.1)=l:=by
 apply List.ext_getElem?
 intro i
 unfold sdl
 rw [List.map_map]
 by_cases hi:i < l.length
 ·rw [List.getElem?_map,List.getElem?_range hi,dy hi]; rfl
 ·rw [List.getElem?_eq_none (by simp; omega),List.getElem?_eq_none (by omega)]
theorem wy (l:List P2):(sdl l).map (·.2)=l.drop 1++l.take 1:=by
 apply List.ext_getElem?
 intro i
 unfold sdl
 rw [List.map_map]
 by_cases hi:i < l.length
 ·rw [List.getElem?_map,List.getElem?_range hi]
  show some (nxt l i)=_
  unfold nxt
  by_cases hj:i+1 < l.length
  ·rw [List.getElem?_append_left (by simp; omega),List.getElem?_drop,show 1+i=i+1 by omega,Nat.mod_eq_of_lt hj,dy hj]
  ·have e:i+1=l.length:=by omega
   rw [List.getElem?_append_right (by simp; omega),e,Nat.mod_self]
   rw [show i - (l.drop 1).length=0 by simp; omega,List.getElem?_take_of_lt (by omega),dy (by omega)]
 ·rw [List.getElem?_eq_none (by simp; omega),List.getElem?_eq_none (by simp; omega)]
theorem tN {l:List P2} (hn:l.Nodup) (h2:2≤l.length):∀ s∈sdl l,s.1≠s.2:=fun s hs e=> by
 obtain ⟨i,hi,rfl⟩:=List.mem_map.mp hs
 have hi':=List.mem_range.mp hi
 have hj:(i+1) % l.length < l.length:=Nat.mod_lt _ (by omega)
 have e':gp l i=gp l ((i+1) % l.length):=e
 have:l[i]?=l[(i+1) % l.length]?:=by rw [dy hi',dy hj,e']
 have:=(List.getElem?_inj hi' hn).mp this
 by_cases hk:i+1 < l.length
 ·rw [Nat.mod_eq_of_lt hk] at this; omega
 ·have e:i+1=l.length:=by omega
  rw [e,Nat.mod_self] at this; omega
theorem oN {m n:Nat} {l:List P2} (h:m≤n) (k:∀ p∈l,Szp m p):∀ p∈l,Szp n p:=fun p hp=> ⟨(k p hp).1.mono h,(k p hp).2.mono h⟩
def rm:List U→Out→Prop:=fun us o=> ∃ l:List P2,us=[lp l]∧l.length≤900∧(∀ p∈l,Szp 2500 p)∧o=.val (.int (area l))
set_option maxHeartbeats 8000000 in
theorem jA (T:Txt K mg):aX P w K mg base (CXF P w) 2 T.a_double_area T.d_double_area ["land"] (spU K (rm)):=by
 refine bg T.F_double_area dN (fun us o h=> ?_) (fun cdv A outer s H E O us o hr h=> ?_)
 ·obtain ⟨l,rfl,hl,sz,rfl⟩:=h
  rfl
 obtain ⟨l,rfl,hl,sz,rfl⟩:=h
 refine Ws.nox ?_
 refine ae (aH (ao (vc rfl ) rfl T.z_sum boot_sum (ac (EvN.ev (d9 (ys:=(((sdl l).map crs).map U.int)) rfl (blk (ah bH) ["land","A","B"] [1,2] rfl rfl rfl rfl (by decide+kernel)) (cD (EvN.ev (cW ((jg T).mono (by decide)) hr rfl T.m_sides T.F_sides.kp T.b_sides aA (ac (aa 0 rfl) am ag) ⟨l,rfl,hl,rfl⟩)) (.inl rfl)) (fun _ _ _ _=> oM rfl (dl (bi (i:=1) dN.nd rfl (Or.inl rfl)) (dl (bi (i:=2) dN.nd rfl (Or.inl rfl)) i4))) (qA (js:=[1,2]) (by decide)) ?clen ?csz ?dom ?celt)) am dh)) ?_)
 case clen=> simp
 case csz=> simp only [lr,List.length_map]; exact Nat.le_of_lt (aI (by omega))
 case dom=>
  intro x hx
  obtain ⟨s,_,rfl⟩:=List.mem_map.mp hx
  exact ⟨_,rfl,rfl⟩
 case celt=>
  intro C s' H' fp j x y hx hy
  rw [List.map_map] at hy
  obtain ⟨s,hs,ms,rfl,rfl⟩:=dC hx hy
  obtain ⟨m1,m2⟩:=bj ms
  have z1:=(sz _ m1).1
  have z2:=(sz _ m1).2
  have z3:=(sz _ m2).1
  have z4:=(sz _ m2).2
  exact (bv (bh (aE (aa 1 rfl) ai rfl rfl) (aE (aa 2 rfl) ai rfl rfl) (by walk_at "mul")) (bh (aE (aa 1 rfl) ai rfl rfl) (aE (aa 2 rfl) ai rfl rfl) (by walk_at "mul")))
 exact rfl
theorem mQ {done:List Pt}:∀ {st:List Pt},gi done st→∀ (k:Nat) {a b:Pt},st[k]?=some b→st[k+1]?=some a→∀ q∈done,0≤af a b q
 | [],_,k,_,_,h,_=> by simp at h
 | [_],_,k,_,_,_,h=> by simp at h
 | x::y::r,C,0,a,b,h1,h2=> by
  simp at h1 h2
  subst h1; subst h2
  exact C.1
 | x::y::r,C,k+1,a,b,h1,h2=> mQ C.2 k (by simpa using h1) (by simpa using h2)
theorem nV:∀ {st:List Pt},iB st→∀ (k:Nat) {a b c:Pt},st[k]?=some c→st[k+1]?=some b→st[k+2]?=some a→0 < af a b c
 | [],_,k,_,_,_,h,_,_=> by simp at h
 | [_],_,k,_,_,_,_,h,_=> by simp at h
 | [_,_],_,k,_,_,_,_,_,h=> by simp at h
 | x::y::z::r,C,0,a,b,c,h1,h2,h3=> by
  simp at h1 h2 h3
  subst h1; subst h2; subst h3
  exact C.1
 | x::y::z::r,C,k+1,a,b,c,h1,h2,h3=> nV C.2 k (by simpa using h1) (by simpa using h2) (by simpa using h3)
theorem ug {st:List Pt} {i:Nat} {a b:Pt} (h1:st.reverse[i]?=some a) (h2:st.reverse[i+1]?=some b):∃ k,st[k]?=some b∧st[k+1]?=some a:=by
 have l2:i+1 < st.length:=by have:=(List.getElem?_eq_some_iff.mp h2).1; simpa using this
 rw [List.getElem?_reverse (by omega)] at h1
 rw [List.getElem?_reverse l2] at h2
 exact ⟨st.length - 1 - (i+1),h2,by rw [← h1]; congr 1; omega⟩
theorem sZ {st:List Pt} {i:Nat} {a b c:Pt} (h1:st.reverse[i]?=some a) (h2:st.reverse[i+1]?=some b) (h3:st.reverse[i+2]?=some c):∃ k,st[k]?=some c∧st[k+1]?=some b∧st[k+2]?=some a:=by
 have l3:i+2 < st.length:=by have:=(List.getElem?_eq_some_iff.mp h3).1; simpa using this
 rw [List.getElem?_reverse (by omega)] at h1
 rw [List.getElem?_reverse (by omega)] at h2
 rw [List.getElem?_reverse l3] at h3
 exact ⟨st.length - 1 - (i+2),h3,by rw [← h2]; congr 1; omega,by rw [← h1]; congr 1; omega⟩
theorem fo {row:List Pt} (hs:row.Pairwise plt) (h:row≠[]) {i:Nat} {a b:Pt} (h1:(aj row).reverse[i]?=some a) (h2:(aj row).reverse[i+1]?=some b):∀ q∈row,0≤af a b q:=by
 obtain ⟨k,e1,e2⟩:=ug h1 h2
 exact mQ (cg hs h).1.cover k e1 e2
theorem gG {row:List Pt} (hs:row.Pairwise plt) (h:row≠[]) {i:Nat} {a b c:Pt} (h1:(aj row).reverse[i]?=some a) (h2:(aj row).reverse[i+1]?=some b) (h3:(aj row).reverse[i+2]?=some c):0 < af a b c:=by
 obtain ⟨k,e1,e2,e3⟩:=sZ h1 h2 h3
 exact nV (cg hs h).1.turns k e1 e2 e3
theorem eZ {row:List Pt} {i:Nat} {a:Pt} (h1:(aj row.reverse).reverse[i]?=some a):(aj (row.reverse.map ng)).reverse[i]?=some (ng a):=by
 rw [bK,← List.map_reverse,List.getElem?_map] at h1
 cases e:(aj (row.reverse.map ng)).reverse[i]? with
 | none=> rw [e] at h1; cases h1
 | some z=> rw [e] at h1; cases h1; rw [gv]
theorem jv {row:List Pt} (hs:row.Pairwise plt) (h:row≠[]) {i:Nat} {a b:Pt} (h1:(aj row.reverse).reverse[i]?=some a) (h2:(aj row.reverse).reverse[i+1]?=some b):∀ q∈row,0≤af a b q:=fun q hq=> by
 have:=fo (cN hs) (by simpa using h) (eZ h1) (eZ h2) (ng q) (List.mem_map_of_mem (List.mem_reverse.mpr hq))
 rwa [jT] at this
theorem kv {row:List Pt} (hs:row.Pairwise plt) (h:row≠[]) {i:Nat} {a b c:Pt} (h1:(aj row.reverse).reverse[i]?=some a) (h2:(aj row.reverse).reverse[i+1]?=some b) (h3:(aj row.reverse).reverse[i+2]?=some c):0 < af a b c:=by
 have:=gG (cN hs) (by simpa using h) (eZ h1) (eZ h2) (eZ h3)
 rwa [jT] at this
theorem vX {u1 u2 v1 v2 w1 w2:Int} (hu:fX u1 u2) (hv:fX v1 v2) (h0:u1 * v2 - u2 * v1=0) (h1:u1 * w2 - u2 * w1≤0) (h2:0≤v1 * w2 - v2 * w1):u1 * w2 - u2 * w1=0∧v1 * w2 - v2 * w1=0:=by
 have e1:v1 * (u1 * w2 - u2 * w1)=u1 * (v1 * w2 - v2 * w1):=by grind
 have e2:v2 * (u1 * w2 - u2 * w1)=u2 * (v1 * w2 - v2 * w1):=by grind
 have fin:∀ {s t A B:Int},0 < s→0 < t→s * A=t * B→A≤0→0≤B→A=0∧B=0:=fun {s t A B} hs ht e ha hb=> by
  have k1:s * A≤0:=Int.mul_nonpos_of_nonneg_of_nonpos (by omega) ha
  have k2:0≤t * B:=Int.mul_nonneg (by omega) hb
  have z1:s * A=0:=by omega
  have z2:t * B=0:=by omega
  refine ⟨(Int.mul_eq_zero.mp z1).resolve_left (by omega),(Int.mul_eq_zero.mp z2).resolve_left (by omega)⟩
 rcases hu with hu | ⟨hu,hu2⟩
 ·rcases hv with hv | ⟨hv,hv2⟩
  ·exact fin hv hu e1 h1 h2
  ·rw [hv] at h0
   have:=Int.mul_pos hu hv2
   omega
 ·rcases hv with hv | ⟨hv,hv2⟩
  ·rw [hu] at h0
   have:=Int.mul_pos hu2 hv
   omega
  ·exact fin hv2 hu2 e2 h1 h2
theorem sY {a m c:Pt} (ha:plt a m) (hc:plt c m) (h:af a m c=0) {q:Pt} (h1:0≤af a m q) (h2:0≤af m c q):af a m q=0∧af m c q=0:=by
 have k:=vX (w1:=m.1 - q.1) (w2:=m.2 - q.2) (ba ha) (ba hc) (by unfold af at h; grind) (by unfold af at h1; grind) (by unfold af at h2; grind)
 unfold af
 exact ⟨by grind,by grind⟩
theorem xk (a b c:Pt):af a b c=af b c a:=by unfold af; grind
theorem Ah {row:List Pt} (hs:row.Pairwise plt) (hne:row≠[]) {i:Nat} {a m c:Pt} (h1:(aj row).reverse[i]?=some a) (h2:(aj row).reverse[i+1]?=some m) (hl:(aj row).length=i+2)
  (h3:(aj row.reverse).reverse[0]?=some m) (h4:(aj row.reverse).reverse[1]?=some c) (ha:plt a m) (hc:plt c m) (big:2 < (aj row).length∨2 < (aj row.reverse).length):0 < af a m c:=by
 have mem:∀ {j:Nat} {p:Pt},(aj row).reverse[j]?=some p→p∈row:=fun h=> bI row _ (List.mem_reverse.mp (List.mem_of_getElem? h))
 have memR:∀ {j:Nat} {p:Pt},(aj row.reverse).reverse[j]?=some p→p∈row:=fun h=> List.mem_reverse.mp (bI _ _ (List.mem_reverse.mp (List.mem_of_getElem? h)))
 have cv:=fo hs hne h1 h2
 have cb:=jv hs hne h3 h4
 have h0:=cv c (memR h4)
 rcases Int.lt_or_eq_of_le h0 with z | z
 ·exact z
 ·exfalso
  have flat:∀ q∈row,af a m q=0∧af m c q=0:=fun q hq=> sY ha hc z.symm (cv q hq) (cb q hq)
  rcases big with b | b
  ·have hi:0 < i:=by omega
   have hx:i - 1 < (aj row).reverse.length:=by simp; omega
   have e:=List.getElem?_eq_getElem hx
   have t:=gG hs hne e (by rw [Nat.sub_add_cancel hi]; exact h1) (by rw [show i - 1+2=i+1 by omega]; exact h2)
   rw [xk,(flat _ (mem e)).1] at t
   omega
  ·have hx:2 < (aj row.reverse).reverse.length:=by simpa using b
   have e:=List.getElem?_eq_getElem hx
   have t:=kv hs hne h3 h4 e
   rw [(flat _ (memR e)).2] at t
   omega
structure yA (row T B:List Pt) (mn mx:Pt):Prop where
 t0:T[0]?=some mn
 t1:T[T.length - 1]?=some mx
 b0:B[0]?=some mx
 b1:B[B.length - 1]?=some mn
 lt:2≤T.length
 lb:2≤B.length
 least:∀ p∈row,p=mn∨plt mn p
 most:∀ p∈row,p=mx∨plt p mx
theorem ye {l:List Pt}:l.reverse[0]?=l.getLast?:=by rw [List.getLast?_eq_head?_reverse,List.head?_eq_getElem?]
theorem x8 {l:List Pt}:l.reverse[l.reverse.length - 1]?=l.head?:=by rw [← List.getLast?_eq_getElem?,List.getLast?_reverse]
theorem Al {row:List Pt} (hs:row.Pairwise plt) (h2:2≤row.length):∃ mn mx,yA row (aj row).reverse (aj row.reverse).reverse mn mx:=by
 have hne:row≠[]:=fun z=> by rw [z] at h2; simp at h2
 obtain ⟨mn,mx,t1,t2,e1,e2,m1,m2,least,most,_,_⟩:=ends hs h2
 obtain ⟨K,hl,hh⟩:=cg hs hne
 obtain ⟨KR,hlR,hhR⟩:=cg (cN hs) (by simpa using hne)
 have l1:2≤(aj row).length:=by rw [e1]; have:=List.length_pos_of_mem m1; simp; omega
 have l2:2≤(aj row.reverse).length:=by rw [e2]; have:=List.length_pos_of_mem m2; simp; omega
 have hd:row.head?=some row[0]:=by rw [List.head?_eq_getElem?]; exact List.getElem?_eq_getElem (by omega)
 have ld:row.getLast?=some row[row.length - 1]:=by rw [List.getLast?_eq_getElem?]; exact List.getElem?_eq_getElem (by omega)
 have q1:row[0]=mn:=by
  have hb:=hhR
  rw [List.getLast?_map,List.getLast?_reverse,hd] at hb
  have:(aj row.reverse).head?=some row[0]:=by rw [bK,List.head?_map,hb]; simp [gv]
  rw [e2] at this
  exact (Option.some.inj this).symm
 have q2:row[row.length - 1]=mx:=by
  rw [ld,e1] at hh
  exact (Option.some.inj hh).symm
 refine ⟨mn,mx,?_,?_,?_,?_,by simpa using l1,by simpa using l2,least,most⟩
 ·rw [ye,hl,hd,q1]
 ·rw [x8,hh,ld,q2]
 ·rw [ye,bK,List.getLast?_map,hlR,List.head?_map,List.head?_reverse,ld,q2]; simp [gv]
 ·rw [x8,e2]; rfl
section
variable {row T B:List Pt} {mn mx:Pt}
theorem dS (W:yA row T B mn mx) {k:Nat} (hk:k≤T.length - 1):(T.dropLast++B.dropLast)[k % (T.dropLast++B.dropLast).length]?=T[k]?:=by
 have h1:=W.lt
 have h2:=W.lb
 have hn:(T.dropLast++B.dropLast).length=T.length - 1+(B.length - 1):=by simp
 rw [hn,Nat.mod_eq_of_lt (by omega)]
 by_cases h:k < T.length - 1
 ·rw [List.getElem?_append_left (by simpa using h),List.getElem?_dropLast,if_pos h]
 ·obtain rfl:k=T.length - 1:=by omega
  rw [List.getElem?_append_right (by simp),List.length_dropLast,Nat.sub_self,List.getElem?_dropLast,if_pos (by omega),W.b0,W.t1]
theorem iK (W:yA row T B mn mx) {k:Nat} (h0:T.length - 1≤k) (hk:k≤T.length - 1+(B.length - 1)):(T.dropLast++B.dropLast)[k % (T.dropLast++B.dropLast).length]?=B[k - (T.length - 1)]?:=by
 have h1:=W.lt
 have h2:=W.lb
 have hn:(T.dropLast++B.dropLast).length=T.length - 1+(B.length - 1):=by simp
 by_cases h:k < T.length - 1+(B.length - 1)
 ·rw [hn,Nat.mod_eq_of_lt h,List.getElem?_append_right (by simpa using h0),List.length_dropLast,List.getElem?_dropLast,if_pos (by omega)]
 ·obtain rfl:k=T.length - 1+(B.length - 1):=by omega
  have:=dS W (k:=0) (by omega)
  rw [Nat.zero_mod] at this
  rw [hn,Nat.mod_self,this,W.t0,show T.length - 1+(B.length - 1) - (T.length - 1)=B.length - 1 by omega,W.b1]
end
theorem dZ {l:List Pt} {i:Nat} (h:i < l.length):∃ a,l[i]?=some a:=⟨_,List.getElem?_eq_getElem h⟩
theorem jS {pts:List Pt} (h2:2≤(ST.srt pts).length) {i:Nat} (hi:i < (ak pts).length):∃ a b,(ak pts)[i]?=some a∧(ak pts)[(i+1) % (ak pts).length]?=some b∧(∀ p∈pts,0≤af a b p)∧(2 < (ak pts).length→∃ c,(ak pts)[(i+2) % (ak pts).length]?=some c∧0 < af a b c):=by
 have hs:=dz pts
 have hne:ST.srt pts≠[]:=fun z=> by rw [z] at h2; simp at h2
 obtain ⟨mn,mx,W⟩:=Al hs h2
 have hmem:∀ p∈pts,p∈ST.srt pts:=fun p hp=> (ST.srt_mem p pts).mpr hp
 have hc:ak pts=(aj (ST.srt pts)).reverse.dropLast++(aj (ST.srt pts).reverse).reverse.dropLast:=by
  unfold ak; rw [if_neg (by omega)]
 have tc:∀ {j:Nat} {a b:Pt},(aj (ST.srt pts)).reverse[j]?=some a→(aj (ST.srt pts)).reverse[j+1]?=some b→∀ q∈ST.srt pts,0≤af a b q:=fun h h'=> fo hs hne h h'
 have tt:∀ {j:Nat} {a b c:Pt},(aj (ST.srt pts)).reverse[j]?=some a→(aj (ST.srt pts)).reverse[j+1]?=some b→(aj (ST.srt pts)).reverse[j+2]?=some c→0 < af a b c:=fun h h' h''=> gG hs hne h h' h''
 have bc:∀ {j:Nat} {a b:Pt},(aj (ST.srt pts).reverse).reverse[j]?=some a→(aj (ST.srt pts).reverse).reverse[j+1]?=some b→∀ q∈ST.srt pts,0≤af a b q:=fun h h'=> jv hs hne h h'
 have bt:∀ {j:Nat} {a b c:Pt},(aj (ST.srt pts).reverse).reverse[j]?=some a→(aj (ST.srt pts).reverse).reverse[j+1]?=some b→(aj (ST.srt pts).reverse).reverse[j+2]?=some c→0 < af a b c:=fun h h' h''=> kv hs hne h h' h''
 have memT:∀ {j:Nat} {p:Pt},(aj (ST.srt pts)).reverse[j]?=some p→p∈ST.srt pts:=fun h=> bI _ _ (List.mem_reverse.mp (List.mem_of_getElem? h))
 have memB:∀ {j:Nat} {p:Pt},(aj (ST.srt pts).reverse).reverse[j]?=some p→p∈ST.srt pts:=fun h=> List.mem_reverse.mp (bI _ _ (List.mem_reverse.mp (List.mem_of_getElem? h)))
 have ndT:(aj (ST.srt pts)).reverse.Nodup:=(dF hs).imp fun {a b} h e=> by subst e; exact bo _ ((kP _ _).mpr h)
 have ndB:(aj (ST.srt pts).reverse).reverse.Nodup:=by
  rw [bK,← List.map_reverse]
  have ndR:(aj ((ST.srt pts).reverse.map ng)).reverse.Nodup:=(dF (cN hs)).imp fun {a b} h e=> by subst e; exact bo _ ((kP _ _).mpr h)
  exact List.Pairwise.map _ (fun a b (h:a≠b) e=> h (by have:=congrArg ng e; rwa [gv,gv] at this)) ndR
 have m1:∀ {j:Nat} {a m c:Pt},(aj (ST.srt pts)).reverse[j]?=some a→(aj (ST.srt pts)).reverse[j+1]?=some m→(aj (ST.srt pts)).length=j+2→(aj (ST.srt pts).reverse).reverse[0]?=some m→(aj (ST.srt pts).reverse).reverse[1]?=some c→plt a m→plt c m→2 < (aj (ST.srt pts)).length∨2 < (aj (ST.srt pts).reverse).length→0 < af a m c:=fun a1 a2 a3 a4 a5 a6 a7 a8=> Ah hs hne a1 a2 a3 a4 a5 a6 a7 a8
 have m2:∀ {j:Nat} {a m c:Pt},(aj (ST.srt pts).reverse).reverse[j]?=some a→(aj (ST.srt pts).reverse).reverse[j+1]?=some m→(aj (ST.srt pts).reverse).length=j+2→(aj (ST.srt pts)).reverse[0]?=some m→(aj (ST.srt pts)).reverse[1]?=some c→plt m a→plt m c→2 < (aj (ST.srt pts)).length∨2 < (aj (ST.srt pts).reverse).length→0 < af a m c:=fun {j a m c} a1 a2 a3 a4 a5 a6 a7 a8=> by
  have er:((ST.srt pts).reverse.map ng).reverse=(ST.srt pts).map ng:=by rw [← List.map_reverse,List.reverse_reverse]
  have fw:∀ {k:Nat} {p:Pt},(aj (ST.srt pts)).reverse[k]?=some p→(aj ((ST.srt pts).reverse.map ng).reverse).reverse[k]?=some (ng p):=fun {k p} h=> by
   rw [er,fE,← List.map_reverse,List.getElem?_map,h]; rfl
  have lb:(aj ((ST.srt pts).reverse.map ng)).length=(aj (ST.srt pts).reverse).length:=by rw [bK,List.length_map]
  have lt:(aj ((ST.srt pts).reverse.map ng).reverse).length=(aj (ST.srt pts)).length:=by rw [er,fE,List.length_map]
  have:=Ah (cN hs) (by simpa using hne) (eZ a1) (eZ a2) (by rw [lb]; exact a3) (fw a4) (fw a5) (jD a6) (jD a7) (by rw [lb,lt]; exact a8.symm)
  rwa [jT] at this
 rw [hc] at hi ⊢
 have lT:(aj (ST.srt pts)).reverse.length=(aj (ST.srt pts)).length:=List.length_reverse
 have lB:(aj (ST.srt pts).reverse).reverse.length=(aj (ST.srt pts).reverse).length:=List.length_reverse
 generalize (aj (ST.srt pts)).reverse=T at *
 generalize (aj (ST.srt pts).reverse).reverse=B at *
 have h1:=W.lt
 have h3:=W.lb
 have hn:(T.dropLast++B.dropLast).length=T.length - 1+(B.length - 1):=by simp
 have own:∀ k,k < (T.dropLast++B.dropLast).length→(T.dropLast++B.dropLast)[k]?=(T.dropLast++B.dropLast)[k % (T.dropLast++B.dropLast).length]?:=fun k hk=> by rw [Nat.mod_eq_of_lt hk]
 have tne:∀ {j k:Nat} {p q:Pt},T[j]?=some p→T[k]?=some q→j≠k→p≠q:=fun {j k p q} a1 a2 a3 e=> a3 ((List.getElem?_inj (aG a1) ndT).mp (by rw [a1,a2,e]))
 have bne:∀ {j k:Nat} {p q:Pt},B[j]?=some p→B[k]?=some q→j≠k→p≠q:=fun {j k p q} a1 a2 a3 e=> a3 ((List.getElem?_inj (aG a1) ndB).mp (by rw [a1,a2,e]))
 by_cases c1:i < T.length - 1
 ·obtain ⟨a,ea⟩:=dZ (l:=T) (i:=i) (by omega)
  obtain ⟨b,eb⟩:=dZ (l:=T) (i:=i+1) (by omega)
  refine ⟨a,b,by rw [own i hi,dS W (by omega)]; exact ea,by rw [dS W (by omega)]; exact eb,fun p hp=> tc ea eb p (hmem p hp),fun big=> ?_⟩
  by_cases c2:i+2≤T.length - 1
  ·obtain ⟨c,ec⟩:=dZ (l:=T) (i:=i+2) (by omega)
   exact ⟨c,by rw [dS W c2]; exact ec,tt ea eb ec⟩
  ·have e:i+1=T.length - 1:=by omega
   obtain ⟨c,ec⟩:=dZ (l:=B) (i:=1) (by omega)
   have emx:b=mx:=by have:=W.t1; rw [← e,eb] at this; exact Option.some.inj this
   subst emx
   refine ⟨c,by rw [iK W (by omega) (by omega),show i+2 - (T.length - 1)=1 by omega]; exact ec,m1 ea eb (by omega) W.b0 ec ?_ ?_ (by omega)⟩
   ·exact (W.most a (memT ea)).resolve_left (tne ea eb (by omega))
   ·exact (W.most c (memB ec)).resolve_left (bne ec W.b0 (by omega))
 ·obtain ⟨a,ea⟩:=dZ (l:=B) (i:=i - (T.length - 1)) (by omega)
  obtain ⟨b,eb⟩:=dZ (l:=B) (i:=i - (T.length - 1)+1) (by omega)
  refine ⟨a,b,by rw [own i hi,iK W (by omega) (by omega)]; exact ea,by rw [iK W (by omega) (by omega),show i+1 - (T.length - 1)=i - (T.length - 1)+1 by omega]; exact eb,fun p hp=> bc ea eb p (hmem p hp),fun big=> ?_⟩
  by_cases c2:i+2≤T.length - 1+(B.length - 1)
  ·obtain ⟨c,ec⟩:=dZ (l:=B) (i:=i - (T.length - 1)+2) (by omega)
   exact ⟨c,by rw [iK W (by omega) c2,show i+2 - (T.length - 1)=i - (T.length - 1)+2 by omega]; exact ec,bt ea eb ec⟩
  ·have e:i - (T.length - 1)+1=B.length - 1:=by omega
   obtain ⟨c,ec⟩:=dZ (l:=T) (i:=1) (by omega)
   have emn:b=mn:=by have:=W.b1; rw [← e,eb] at this; exact Option.some.inj this
   subst emn
   refine ⟨c,?_,m2 ea eb (by omega) W.t0 ec ?_ ?_ (by omega)⟩
   ·have:=dS W (k:=1) (by omega)
    rw [show (i+2) % (T.dropLast++B.dropLast).length=1 % (T.dropLast++B.dropLast).length by rw [hn,show i+2=1+(T.length - 1+(B.length - 1)) by omega,Nat.add_mod_right],this]
    exact ec
   ·exact (W.least a (memB ea)).resolve_left (bne ea eb (by omega))
   ·exact (W.least c (memT ec)).resolve_left (tne ec W.t0 (by omega))
def cd (n q:Int):Int:=-(-n / q)
structure Chd (n q:Int):Prop where
 q0:0≤q
 qn:q < n
 g:Int.gcd n q=1
def unc:List Int→Int×Int
 | []=> (1,0)
 | b::l=> (b * (unc l).1 - (unc l).2,(unc l).1)
structure Lvl (a b:Pt) (g u v s t:Int):Prop where
 g0:0 < g
 e1:b.1 - a.1=g * u
 e2:b.2 - a.2=g * v
 st:s * u+t * v=1
def tx (a c:Pt) (s t:Int):Int:=s * (c.1 - a.1)+t * (c.2 - a.2)
def ty (a c:Pt) (u v:Int):Int:=u * (c.2 - a.2) - v * (c.1 - a.1)
def bk (a:Pt) (u v s t x y:Int):Pt:=(u * x - t * y+a.1,v * x+s * y+a.2)
theorem Lvl.area {a b:Pt} {g u v s t:Int} (L:Lvl a b g u v s t) (c:Pt):af a b c=g * ty a c u v:=by
 have:=L.e1
 have:=L.e2
 unfold af ty
 grind
theorem Lvl.d1 {a b:Pt} {g u v s t:Int} (L:Lvl a b g u v s t) (x y:Int):af a b (bk a u v s t x y)=g * y:=by
 have:=L.e1
 have:=L.e2
 have:=L.st
 unfold af bk
 dsimp only
 grind
theorem Lvl.back {a b:Pt} {g u v s t:Int} (L:Lvl a b g u v s t) (c:Pt):c.1=u * tx a c s t - t * ty a c u v+a.1∧c.2=v * tx a c s t+s * ty a c u v+a.2:=by
 have:=L.st
 unfold tx ty
 constructor <;> grind
theorem Lvl.d3 {a b:Pt} {g u v s t:Int} (L:Lvl a b g u v s t) (c:Pt) (x y:Int):af c a (bk a u v s t x y)=ty a c u v * x - tx a c s t * y:=by
 obtain ⟨k1,k2⟩:=L.back c
 have h:=L.st
 generalize tx a c s t=X at *
 generalize ty a c u v=Y at *
 unfold af bk
 dsimp only
 rw [k1,k2]
 grind
theorem Lvl.d2 {a b:Pt} {g u v s t:Int} (L:Lvl a b g u v s t) (c:Pt) (x y:Int):af b c (bk a u v s t x y)=(tx a c s t - g) * y - ty a c u v * (x - g):=by
 obtain ⟨k1,k2⟩:=L.back c
 have h:=L.st
 have m1:b.1=a.1+g * u:=by have:=L.e1; omega
 have m2:b.2=a.2+g * v:=by have:=L.e2; omega
 generalize tx a c s t=X at *
 generalize ty a c u v=Y at *
 unfold af bk
 dsimp only
 rw [k1,k2,m1,m2]
 grind
def wth (a b:Int) (p:Pt):Int:=a * p.1+b * p.2
theorem zp {a b:Int} {u p v:Pt} (hb:b≤0) (h1:plt u p) (h2:plt p v) (h:af u p v≤0):wth a b p≤wth a b u∨wth a b p≤wth a b v:=by
 rcases Int.lt_or_le (wth a b u) (wth a b p) with c1 | c1
 ·rcases Int.lt_or_le (wth a b v) (wth a b p) with c2 | c2
  ·exfalso
   have e:(v.1 - p.1) * (wth a b p - wth a b u)+(p.1 - u.1) * (wth a b p - wth a b v)=-((-b) * (-(af u p v))):=by unfold wth af; grind
   have n1:0≤(-b) * (-(af u p v)):=Int.mul_nonneg (by omega) (by omega)
   have d1:0≤p.1 - u.1:=by unfold plt at h1; omega
   have d2:0≤v.1 - p.1:=by unfold plt at h2; omega
   have m1:0≤(v.1 - p.1) * (wth a b p - wth a b u):=Int.mul_nonneg d2 (by omega)
   have m2:0≤(p.1 - u.1) * (wth a b p - wth a b v):=Int.mul_nonneg d1 (by omega)
   rcases Int.lt_or_le 0 (p.1 - u.1) with d | d
   ·have:=Int.mul_pos d (show 0 < wth a b p - wth a b v by omega)
    omega
   ·have ex:u.1=p.1:=by omega
    have ey:u.2 < p.2:=by unfold plt at h1; omega
    have:0≤(-b) * (p.2 - u.2):=Int.mul_nonneg (by omega) (by omega)
    have e2:wth a b p - wth a b u=-((-b) * (p.2 - u.2)):=by unfold wth; rw [ex]; grind
    omega
  ·exact .inr c2
 ·exact .inl c1
theorem qJ {row:List Pt} (hs:row.Pairwise plt) {a b:Int} (hb:b≤0) {p:Pt} (hp:p∈row):∃ c∈aj row,wth a b p≤wth a b c:=by
 by_cases h:p∈aj row
 ·exact ⟨p,h,Int.le_refl _⟩
 ·obtain ⟨u,hu,v,hv,k1,k2,k3⟩:=gap hs hp h
  rcases zp (a:=a) hb k1 k2 k3 with e | e
  ·exact ⟨u,hu,e⟩
  ·exact ⟨v,hv,e⟩
theorem zl (a b:Int) (p:Pt):wth (-a) (-b) (ng p)=wth a b p:=by unfold wth ng; grind
theorem xI (a b:Int) (p:Pt):wth a b (ng p)=wth (-a) (-b) p:=by unfold wth ng; grind
theorem uM {row:List Pt} (hs:row.Pairwise plt) {a b:Int} (hb:0≤b) {p:Pt} (hp:p∈row):∃ c∈aj row.reverse,wth a b p≤wth a b c:=by
 obtain ⟨c,hc,k⟩:=qJ (cN hs) (a:=-a) (b:=-b) (by omega) (p:=ng p) (List.mem_map.mpr ⟨p,List.mem_reverse.mpr hp,rfl⟩)
 refine ⟨ng c,by rw [bK]; exact List.mem_map.mpr ⟨c,hc,rfl⟩,?_⟩
 rw [zl] at k
 rw [xI]
 exact k
theorem nD {pts:List Pt} (a b:Int) {p:Pt} (hp:p∈pts):∃ c∈ak pts,wth a b p≤wth a b c:=by
 have hp':p∈ST.srt pts:=(ST.srt_mem p pts).mpr hp
 by_cases h2:2≤(ST.srt pts).length
 ·have hs:=dz pts
  obtain ⟨mn,mx,t1,t2,e1,e2,m1,m2,_⟩:=ends hs h2
  have big:=ft h2
  rw [e1,e2] at big
  rcases Int.le_total b 0 with hb | hb
  ·obtain ⟨c,hc,k⟩:=qJ hs (a:=a) hb hp'
   refine ⟨c,?_,k⟩
   rw [big]
   rw [e1] at hc
   rcases List.mem_cons.mp hc with rfl | hc
   ·exact List.mem_append_right _ (List.mem_reverse.mpr m2)
   ·exact List.mem_append_left _ (List.mem_reverse.mpr hc)
  ·obtain ⟨c,hc,k⟩:=uM hs (a:=a) hb hp'
   refine ⟨c,?_,k⟩
   rw [big]
   rw [e2] at hc
   rcases List.mem_cons.mp hc with rfl | hc
   ·exact List.mem_append_left _ (List.mem_reverse.mpr m1)
   ·exact List.mem_append_right _ (List.mem_reverse.mpr hc)
 ·exact ⟨p,by rw [dJ h2]; exact hp',Int.le_refl _⟩
def hiL:List Int→Int
 | []=> 0
 | a::l=> l.foldl max a
theorem d6:∀ (l:List Int) (a:Int),l.foldl max a∈a::l
 | [],a=> by simp
 | b::l,a=> by
  have:=d6 l (max a b)
  rw [List.foldl_cons]
  rcases List.mem_cons.mp this with e | e
  ·rw [e]; rcases Int.le_total a b with h | h
   ·rw [Int.max_eq_right h]; simp
   ·rw [Int.max_eq_left h]; simp
  ·exact List.mem_cons_of_mem _ (List.mem_cons_of_mem _ e)
theorem e_:∀ (l:List Int) (a:Int),∀ x∈a::l,x≤l.foldl max a
 | [],a,x,h=> by simp at h; rw [h]; exact Int.le_refl _
 | b::l,a,x,h=> by
  have ih:=e_ l (max a b)
  rw [List.foldl_cons]
  have h0:=ih (max a b) List.mem_cons_self
  rcases List.mem_cons.mp h with rfl | h
  ·omega
  ·rcases List.mem_cons.mp h with rfl | h
   ·omega
   ·exact ih x (List.mem_cons_of_mem _ h)
def hiW (a b:Int) (l:List Pt):Int:=hiL (l.map (wth a b))
theorem uP {l:List Pt} (a b:Int) (h:l≠[]):(∃ p∈l,wth a b p=hiW a b l)∧∀ p∈l,wth a b p≤hiW a b l:=by
 cases l with
 | nil=> exact absurd rfl h
 | cons q l=>
  refine ⟨?_,fun p hp=> ?_⟩
  ·have:=d6 (l.map (wth a b)) (wth a b q)
   rw [← List.map_cons] at this
   obtain ⟨p,hp,e⟩:=List.mem_map.mp this
   exact ⟨p,hp,e⟩
  ·exact e_ (l.map (wth a b)) (wth a b q) _ (by rw [← List.map_cons]; exact List.mem_map_of_mem hp)
theorem j9 {l:List P2} (h3:3≤(ak l).length):2≤(ST.srt l).length:=by
 rcases Nat.lt_or_ge (ST.srt l).length 2 with h | h
 ·rw [dJ (by omega)] at h3; omega
 ·exact h
theorem qg {l:List P2} {i:Nat} (h:i < l.length):(gp l i,gp l ((i+1) % l.length))∈sdl l:=List.mem_map.mpr ⟨i,List.mem_range.mpr h,rfl⟩
theorem ir {l:List P2} {i:Nat} {a:P2} (h:l[i]?=some a):gp l i=a:=by simp [gp,h]
theorem u9 {n i:Nat}:((i+1) % n+1) % n=(i+2) % n:=by rw [Nat.mod_add_mod]
theorem br {l:List P2} (h3:3≤(ak l).length) {s:P2×P2} (hs:s∈sdl (ak l)):∀ q∈l,0≤af s.1 s.2 q:=by
 obtain ⟨i,hi,rfl⟩:=List.mem_map.mp hs
 obtain ⟨a,b,e1,e2,cov,_⟩:=jS (j9 h3) (List.mem_range.mp hi)
 show ∀ q∈l,0≤af (gp (ak l) i) (gp (ak l) ((i+1) % (ak l).length)) q
 rw [ir e1,ir e2]; exact cov
theorem dB {l:List P2} (h3:3≤(ak l).length) {A B:P2} (hs:(A,B)∈sdl (ak l)):∃ C,(B,C)∈sdl (ak l)∧0 < af A B C:=by
 obtain ⟨i,hi,e⟩:=List.mem_map.mp hs
 have hi':=List.mem_range.mp hi
 obtain ⟨a,b,e1,e2,_,tu⟩:=jS (j9 h3) hi'
 obtain ⟨c,e3,pos⟩:=tu (by omega)
 have ea:A=a:=by rw [← ir e1]; exact (congrArg Prod.fst e).symm
 have eb:B=b:=by rw [← ir e2]; exact (congrArg Prod.snd e).symm
 refine ⟨c,?_,by rw [ea,eb]; exact pos⟩
 have:=qg (l:=ak l) (i:=(i+1) % (ak l).length) (Nat.mod_lt _ (by omega))
 rw [u9,ir e2,ir e3] at this
 rw [eb]; exact this
theorem zZ {l:List P2} {A:P2} (h:A∈l):∃ B,(A,B)∈sdl l:=by
 obtain ⟨i,hi⟩:=List.mem_iff_getElem?.mp h
 have hi':=(List.getElem?_eq_some_iff.mp hi).1
 have:=qg hi'
 rw [ir hi] at this
 exact ⟨_,this⟩
theorem mJ {l:List P2} {A:P2} (h:A∈l):∃ Z,(Z,A)∈sdl l:=by
 obtain ⟨i,hi⟩:=List.mem_iff_getElem?.mp h
 have hi':=(List.getElem?_eq_some_iff.mp hi).1
 have hj:(i+l.length - 1) % l.length < l.length:=Nat.mod_lt _ (by omega)
 have:=qg hj
 have e:((i+l.length - 1) % l.length+1) % l.length=i:=by
  rw [Nat.mod_add_mod,show i+l.length - 1+1=i+l.length by omega,Nat.add_mod_right,Nat.mod_eq_of_lt hi']
 rw [e,ir hi] at this
 exact ⟨_,this⟩
theorem ic {l:List P2} (hn:l.Nodup) {A B C:P2} (h1:(A,B)∈sdl l) (h2:(A,C)∈sdl l):B=C:=by
 obtain ⟨i,hi,e⟩:=List.mem_map.mp h1
 obtain ⟨j,hj,e'⟩:=List.mem_map.mp h2
 have hi':=List.mem_range.mp hi
 have hj':=List.mem_range.mp hj
 have ea:gp l i=gp l j:=(congrArg Prod.fst e).trans (congrArg Prod.fst e').symm
 have:i=j:=(List.getElem?_inj hi' hn).mp (by rw [dy hi',dy hj',ea])
 subst this
 exact (congrArg Prod.snd e).symm.trans (congrArg Prod.snd e')
theorem yE {u1 u2 v1 v2 w1 w2:Int} (hd:0 < u1 * v2 - u2 * v1) (h1:u1 * w2 - u2 * w1=0) (h2:v1 * w2 - v2 * w1=0):w1=0∧w2=0:=by
 have e1:(u1 * v2 - u2 * v1) * w1=0:=by
  have:(u1 * v2 - u2 * v1) * w1=v1 * (u1 * w2 - u2 * w1) - u1 * (v1 * w2 - v2 * w1):=by grind
  rw [this,h1,h2]; simp
 have e2:(u1 * v2 - u2 * v1) * w2=0:=by
  have:(u1 * v2 - u2 * v1) * w2=v2 * (u1 * w2 - u2 * w1) - u2 * (v1 * w2 - v2 * w1):=by grind
  rw [this,h1,h2]; simp
 refine ⟨?_,?_⟩
 ·rcases Int.mul_eq_zero.mp e1 with h | h
  ·omega
  ·exact h
 ·rcases Int.mul_eq_zero.mp e2 with h | h
  ·omega
  ·exact h
def rF (l:List P2) (p:P2):Prop:=p∈l∧∃ a b:Int,∀ q∈l,q≠p→wth a b q < wth a b p
theorem fK {l:List P2} {p:P2} (h:rF l p):p∈ak l:=by
 obtain ⟨hp,a,b,k⟩:=h
 obtain ⟨c,hc,e⟩:=nD a b hp
 by_cases hcp:c=p
 ·rw [← hcp]; exact hc
 ·have:=k c (aN _ c hc) hcp
  omega
theorem dr {l:List P2} (h3:3≤(ak l).length) {p:P2} (hp:p∈ak l):rF l p:=by
 obtain ⟨Z,hZ⟩:=mJ hp
 obtain ⟨B,hB,pos⟩:=dB h3 hZ
 refine ⟨aN _ p hp,B.2 - Z.2,Z.1 - B.1,fun q hq hne=> ?_⟩
 have c1:=br h3 hZ q hq
 have c2:=br h3 hB q hq
 dsimp only at c1 c2
 have e:wth (B.2 - Z.2) (Z.1 - B.1) q - wth (B.2 - Z.2) (Z.1 - B.1) p=-(af Z p q+af p B q):=by unfold wth af; grind
 rcases Int.lt_or_eq_of_le (Int.add_nonneg c1 c2) with h | h
 ·omega
 ·exfalso
  have z1:af Z p q=0:=by omega
  have z2:af p B q=0:=by omega
  have:=yE (u1:=p.1 - Z.1) (u2:=p.2 - Z.2) (v1:=B.1 - p.1) (v2:=B.2 - p.2) (w1:=q.1 - p.1) (w2:=q.2 - p.2) (by rw [← (show af Z p B=(p.1 - Z.1) * (B.2 - p.2) - (p.2 - Z.2) * (B.1 - p.1) by unfold af; grind)]; exact pos) (by rw [← z1]; unfold af; grind) (by rw [← z2]; unfold af; grind)
  exact hne (Prod.ext (by omega) (by omega))
theorem yZ {u1 u2 v1 v2 w1 w2:Int} (h:u1 * w2 - u2 * w1=0):(u1 * v2 - u2 * v1) * w1=(w1 * v2 - w2 * v1) * u1∧(u1 * v2 - u2 * v1) * w2=(w1 * v2 - w2 * v1) * u2:=by
 constructor
 ·have:(u1 * v2 - u2 * v1) * w1 - (w1 * v2 - w2 * v1) * u1=v1 * (u1 * w2 - u2 * w1):=by grind
  rw [h] at this; simp at this; omega
 ·have:(u1 * v2 - u2 * v1) * w2 - (w1 * v2 - w2 * v1) * u2=v2 * (u1 * w2 - u2 * w1):=by grind
  rw [h] at this; simp at this; omega
theorem h_ {l:List P2} (h3:3≤(ak l).length) {A B:P2}:(A,B)∈sdl (ak l)↔A∈ak l∧B∈ak l∧A≠B∧∀ q∈ak l,0≤af A B q:=by
 constructor
 ·intro h
  exact ⟨(bj h).1,(bj h).2,tN (aZ l) (by omega) _ h,fun q hq=> br h3 h q (aN _ q hq)⟩
 ·rintro ⟨hA,hB,hne,cov⟩
  obtain ⟨C,hC⟩:=zZ hA
  obtain ⟨Z,hZ⟩:=mJ hA
  by_cases hBC:B=C
  ·rw [hBC]; exact hC
  ·exfalso
   obtain ⟨D,hD,pD⟩:=dB h3 hC
   obtain ⟨C',hC',pC⟩:=dB h3 hZ
   have:C'=C:=ic (aZ l) hC' hC
   subst this
   have mC:=(bj hC).2
   have mD:=(bj hD).2
   have lB:=aN _ B hB
   have k1:=br h3 hC B lB
   have k2:=cov C' mC
   have k3:=br h3 hZ B lB
   have k4:=br h3 hD B lB
   dsimp only at k1 k3 k4 mC mD
   have z:(C'.1 - A.1) * (B.2 - A.2) - (C'.2 - A.2) * (B.1 - A.1)=0:=by
    have e1:af A C' B=(C'.1 - A.1) * (B.2 - A.2) - (C'.2 - A.2) * (B.1 - A.1):=rfl
    have e2:af A B C'=-((C'.1 - A.1) * (B.2 - A.2) - (C'.2 - A.2) * (B.1 - A.1)):=by unfold af; grind
    omega
   obtain ⟨p1,p2⟩:=yZ (v1:=Z.1 - A.1) (v2:=Z.2 - A.2) z
   have dpos:0 < (C'.1 - A.1) * (Z.2 - A.2) - (C'.2 - A.2) * (Z.1 - A.1):=by
    rw [← (show af Z A C'=(C'.1 - A.1) * (Z.2 - A.2) - (C'.2 - A.2) * (Z.1 - A.1) by unfold af; grind)]; exact pC
   have spos:0≤(B.1 - A.1) * (Z.2 - A.2) - (B.2 - A.2) * (Z.1 - A.1):=by
    rw [← (show af Z A B=(B.1 - A.1) * (Z.2 - A.2) - (B.2 - A.2) * (Z.1 - A.1) by unfold af; grind)]; exact k3
   generalize (C'.1 - A.1) * (Z.2 - A.2) - (C'.2 - A.2) * (Z.1 - A.1)=d at *
   generalize (B.1 - A.1) * (Z.2 - A.2) - (B.2 - A.2) * (Z.1 - A.1)=s at *
   have s0:s≠0:=fun e=> by
    rw [e,Int.zero_mul] at p1 p2
    have q1:=(Int.mul_eq_zero.mp p1).resolve_left (by omega)
    have q2:=(Int.mul_eq_zero.mp p2).resolve_left (by omega)
    exact hne (Prod.ext (by omega) (by omega))
   have s1:s≠d:=fun e=> by
    rw [e] at p1 p2
    have q1:=Int.eq_of_mul_eq_mul_left (by omega) p1
    have q2:=Int.eq_of_mul_eq_mul_left (by omega) p2
    exact hBC (Prod.ext (by omega) (by omega))
   have s2:s≤d:=by
    have e:d * af C' D B=(d - s) * af A C' D:=by
     have e1:d * af C' D B=(D.1 - C'.1) * (d * (B.2 - A.2) - d * (C'.2 - A.2)) - (D.2 - C'.2) * (d * (B.1 - A.1) - d * (C'.1 - A.1)):=by unfold af; grind
     rw [e1,p1,p2]; unfold af; grind
    have:0≤d * af C' D B:=Int.mul_nonneg (by omega) k4
    rcases Int.lt_or_le d s with h | h
    ·have:0 < (s - d) * af A C' D:=Int.mul_pos (by omega) pD
     have e3:(d - s) * af A C' D=-((s - d) * af A C' D):=by grind
     omega
    ·exact h
   obtain ⟨_,a,b,top⟩:=dr h3 hB
   have t1:=top A (aN _ A hA) hne
   have t2:=top C' (aN _ C' mC) (fun e=> hBC e.symm)
   have w1:d * (wth a b B - wth a b A)=s * (wth a b C' - wth a b A):=by
    have e1:d * (wth a b B - wth a b A)=a * (d * (B.1 - A.1))+b * (d * (B.2 - A.2)):=by unfold wth; grind
    rw [e1,p1,p2]; unfold wth; grind
   have g1:0 < d * (wth a b B - wth a b A):=Int.mul_pos (by omega) (by omega)
   have g2:0 < wth a b C' - wth a b A:=by
    rcases Int.lt_or_le 0 (wth a b C' - wth a b A) with h | h
    ·exact h
    ·have:0≤s * -(wth a b C' - wth a b A):=Int.mul_nonneg (by omega) (by omega)
     have e3:s * (wth a b C' - wth a b A)=-(s * -(wth a b C' - wth a b A)):=by grind
     omega
   have g3:0 < (d - s) * (wth a b C' - wth a b A):=Int.mul_pos (by omega) g2
   have w2:d * (wth a b B - wth a b C')=-((d - s) * (wth a b C' - wth a b A)):=by
    have:d * (wth a b B - wth a b C')=d * (wth a b B - wth a b A) - d * (wth a b C' - wth a b A):=by grind
    rw [this,w1]; grind
   have g4:0 < d * (wth a b B - wth a b C'):=Int.mul_pos (by omega) (by omega)
   omega
structure Lin (f:P2→P2) (d:Int):Prop where
 one:d=1∨d=-1
 ex:∃ a b c e:Int,a * e - b * c=d∧∀ p,f p=(a * p.1+b * p.2,c * p.1+e * p.2)
theorem Lin.det {f:P2→P2} {d:Int} (L:Lin f d) (A B q:P2):af (f A) (f B) (f q)=d * af A B q:=by
 obtain ⟨a,b,c,e,h,k⟩:=L.ex
 rw [k,k,k,← h]; unfold af; grind
theorem kW {f:P2→P2} {d:Int} (L:Lin f d) (x y:Int):∃ x' y':Int,∀ p,wth x' y' (f p)=wth x y p:=by
 obtain ⟨a,b,c,e,h,k⟩:=L.ex
 refine ⟨d * (x * e - y * c),d * (y * a - x * b),fun p=> ?_⟩
 rw [k]
 have dd:d * d=1:=by rcases L.one with z | z <;> rw [z] <;> rfl
 have:wth (d * (x * e - y * c)) (d * (y * a - x * b)) (a * p.1+b * p.2,c * p.1+e * p.2)=d * (a * e - b * c) * wth x y p:=by unfold wth; grind
 rw [this,h,dd,Int.one_mul]
theorem Lin.inj {f:P2→P2} {d:Int} (L:Lin f d) {p q:P2} (e:f p=f q):p=q:=by
 obtain ⟨x,y,h⟩:=kW L 1 0
 obtain ⟨x',y',h'⟩:=kW L 0 1
 have h1:wth 1 0 p=wth 1 0 q:=by rw [← h,← h,e]
 have h2:wth 0 1 p=wth 0 1 q:=by rw [← h',← h',e]
 unfold wth at h1 h2
 exact Prod.ext (by omega) (by omega)
theorem qx {f:P2→P2} {d:Int} (L:Lin f d) {l:List P2} {p:P2} (h:rF l p):rF (l.map f) (f p):=by
 obtain ⟨hp,a,b,k⟩:=h
 obtain ⟨x,y,e⟩:=kW L a b
 refine ⟨List.mem_map_of_mem hp,x,y,fun q hq hne=> ?_⟩
 obtain ⟨r,hr,rfl⟩:=List.mem_map.mp hq
 rw [e,e]
 exact k r hr fun z=> hne (by rw [z])
theorem vt {f:P2→P2} {d:Int} (L:Lin f d) {l:List P2} {p:P2} (hp:p∈l) (h:rF (l.map f) (f p)):rF l p:=by
 obtain ⟨_,a,b,k⟩:=h
 obtain ⟨u,v,w,z,_,kf⟩:=L.ex
 refine ⟨hp,a * u+b * w,a * v+b * z,fun q hq hne=> ?_⟩
 have e:∀ r:P2,wth (a * u+b * w) (a * v+b * z) r=wth a b (f r):=fun r=> by rw [kf]; unfold wth; grind
 rw [e,e]
 exact k (f q) (List.mem_map_of_mem hq) fun z=> hne (L.inj z)
theorem fV {f:P2→P2} {d:Int} (L:Lin f d) {l:List P2} (h3:3≤(ak l).length):3≤(ak (l.map f)).length:=by
 have nd:((ak l).map f).Nodup:=List.Pairwise.map _ (fun a b (h:a≠b) e=> h (L.inj e)) (aZ l)
 have:=dG nd (m:=ak (l.map f)) fun x hx=> by
  obtain ⟨p,hp,rfl⟩:=List.mem_map.mp hx
  exact fK (qx L (dr h3 hp))
 rw [List.length_map] at this
 omega
theorem di {f:P2→P2} {d:Int} (L:Lin f d) {l:List P2} (h3:3≤(ak l).length) (x:P2):x∈ak (l.map f)↔∃ p∈ak l,f p=x:=by
 constructor
 ·intro h
  obtain ⟨p,hp,rfl⟩:=List.mem_map.mp (aN _ x h)
  exact ⟨p,fK (vt L hp (dr (fV L h3) h)),rfl⟩
 ·rintro ⟨p,hp,rfl⟩
  exact fK (qx L (dr h3 hp))
def sdf (f:P2→P2) (d:Int) (s:P2×P2):P2×P2:=if d=1 then (f s.1,f s.2) else (f s.2,f s.1)
theorem uf {f:P2→P2} {d:Int} (L:Lin f d) {l:List P2} (h3:3≤(ak l).length) (t:P2×P2):t∈sdl (ak (l.map f))↔∃ s∈sdl (ak l),sdf f d s=t:=by
 have h3':=fV L h3
 have sw:∀ A B q:P2,af B A q=-af A B q:=fun A B q=> by unfold af; grind
 constructor
 ·intro h
  obtain ⟨x,y⟩:=t
  obtain ⟨hx,hy,ne,cov⟩:=(h_ h3').mp h
  obtain ⟨A,hA,rfl⟩:=(di L h3 x).mp hx
  obtain ⟨B,hB,rfl⟩:=(di L h3 y).mp hy
  have cv:∀ q∈ak l,0≤d * af A B q:=fun q hq=> by
   have:=cov (f q) ((di L h3 _).mpr ⟨q,hq,rfl⟩)
   rwa [L.det] at this
  rcases L.one with z | z
  ·refine ⟨(A,B),(h_ h3).mpr ⟨hA,hB,fun e=> ne (by rw [e]),fun q hq=> ?_⟩,by unfold sdf; rw [if_pos z]⟩
   have:=cv q hq
   rw [z] at this; omega
  ·refine ⟨(B,A),(h_ h3).mpr ⟨hB,hA,fun e=> ne (by rw [e]),fun q hq=> ?_⟩,by unfold sdf; rw [if_neg (by omega)]⟩
   have:=cv q hq
   rw [sw]
   rw [z] at this; omega
 ·rintro ⟨⟨A,B⟩,hs,rfl⟩
  obtain ⟨hA,hB,ne,cov⟩:=(h_ h3).mp hs
  have cv:∀ q∈ak (l.map f),0≤d * af (f A) (f B) q:=fun q hq=> by
   obtain ⟨p,hp,rfl⟩:=(di L h3 q).mp hq
   have:=cov p hp
   rw [L.det,← Int.mul_assoc,show d * d=1 by rcases L.one with z | z <;> rw [z] <;> rfl]
   omega
  unfold sdf
  rcases L.one with z | z
  ·rw [if_pos z]
   refine (h_ h3').mpr ⟨(di L h3 _).mpr ⟨A,hA,rfl⟩,(di L h3 _).mpr ⟨B,hB,rfl⟩,fun e=> ne (L.inj e),fun q hq=> ?_⟩
   have:=cv q hq
   dsimp only
   rw [z] at this; omega
  ·rw [if_neg (by omega)]
   refine (h_ h3').mpr ⟨(di L h3 _).mpr ⟨B,hB,rfl⟩,(di L h3 _).mpr ⟨A,hA,rfl⟩,fun e=> ne (L.inj e.symm),fun q hq=> ?_⟩
   have:=cv q hq
   dsimp only
   rw [sw]
   rw [z] at this; omega
theorem zL {l:List P2} (hn:l.Nodup):(sdl l).Nodup:=by
 have h:((sdl l).map (·.1)).Nodup:=by rw [p_]; exact hn
 exact (List.pairwise_map.mp h).imp fun {a b} k e=> k (by rw [e])
def ub (s:P2×P2):Int:=(s.2.1 - s.1.1) / gst s
def vb (s:P2×P2):Int:=(s.2.2 - s.1.2) / gst s
def onS (s:P2×P2) (k:Int):P2:=(s.1.1+k * ub s,s.1.2+k * vb s)
theorem fH (s:P2×P2):s.2.1 - s.1.1=gst s * ub s:=by
 unfold ub
 have h:gst s ∣ s.2.1 - s.1.1:=Int.gcd_dvd_left ..
 rw [Int.mul_ediv_cancel' h]
theorem fM (s:P2×P2):s.2.2 - s.1.2=gst s * vb s:=by
 unfold vb
 have h:gst s ∣ s.2.2 - s.1.2:=Int.gcd_dvd_right ..
 rw [Int.mul_ediv_cancel' h]
theorem n8 {s:P2×P2} (h:s.1≠s.2):∃ cs ct,Lvl s.1 s.2 (gst s) (ub s) (vb s) cs ct:=by
 have g0:=bT h
 obtain ⟨cs,ct,G⟩:=jb (s.2.1 - s.1.1) (s.2.2 - s.1.2)
 have Ge:cs * (s.2.1 - s.1.1)+ct * (s.2.2 - s.1.2)=gst s:=G.eq
 refine ⟨cs,ct,g0,fH s,fM s,?_⟩
 have e:gst s * (cs * ub s+ct * vb s)=gst s * 1:=by
  rw [Int.mul_one]
  have:gst s * (cs * ub s+ct * vb s)=cs * (gst s * ub s)+ct * (gst s * vb s):=by grind
  rw [this,← fH,← fM]; exact Ge
 exact Int.eq_of_mul_eq_mul_left (by omega) e
theorem iM {s:P2×P2} (h:s.1≠s.2) {p:P2} (hp:af s.1 s.2 p=0):∃ k,p=onS s k:=by
 obtain ⟨cs,ct,L⟩:=n8 h
 have z:ty s.1 p (ub s) (vb s)=0:=by
  rw [L.area] at hp
  exact (Int.mul_eq_zero.mp hp).resolve_left (by have:=L.g0; omega)
 obtain ⟨b1,b2⟩:=L.back p
 rw [z] at b1 b2
 refine ⟨tx s.1 p cs ct,Prod.ext ?_ ?_⟩
 ·show p.1=s.1.1+tx s.1 p cs ct * ub s
  grind
 ·show p.2=s.1.2+tx s.1 p cs ct * vb s
  grind
theorem du (s:P2×P2) (k:Int) (X Y:P2):gst s * af X Y (onS s k)=(gst s - k) * af X Y s.1+k * af X Y s.2:=by
 have h1:=fH s
 have h2:=fM s
 have e1:s.2.1=s.1.1+gst s * ub s:=by omega
 have e2:s.2.2=s.1.2+gst s * vb s:=by omega
 unfold onS af
 dsimp only
 rw [e1,e2]
 grind
theorem jm {s:P2×P2} (h:s.1≠s.2) {j k:Int} (e:onS s j=onS s k):j=k:=by
 obtain ⟨cs,ct,L⟩:=n8 h
 have st:=L.st
 have e1:s.1.1+j * ub s=s.1.1+k * ub s:=congrArg Prod.fst e
 have e2:s.1.2+j * vb s=s.1.2+k * vb s:=congrArg Prod.snd e
 have a1:(j - k) * ub s=0:=by have:(j - k) * ub s=j * ub s - k * ub s:=by grind
                              omega
 have a2:(j - k) * vb s=0:=by have:(j - k) * vb s=j * vb s - k * vb s:=by grind
                              omega
 have:(j - k) * (cs * ub s+ct * vb s)=cs * ((j - k) * ub s)+ct * ((j - k) * vb s):=by grind
 rw [st,a1,a2] at this
 simp at this
 omega
theorem aC {a b:Int} (ha:0 < a) (h:0≤a * b):0≤b:=by
 rcases Int.lt_or_le b 0 with z | z
 ·have:=Int.mul_pos ha (show 0 < -b by omega)
  have e:a * -b=-(a * b):=by grind
  omega
 ·exact z
def spt (s:P2×P2):List P2:=(List.range (gst s).toNat).map fun (k:Nat)=> onS s (k:Int)
def apt (l:List P2):List P2:=((sdl l).map spt).flatten
def bdr (l:List P2) (p:P2):Prop:=(∀ s∈sdl l,0≤af s.1 s.2 p)∧∃ s∈sdl l,af s.1 s.2 p=0
theorem wV (s:P2×P2):(spt s).length=(gst s).toNat:=by simp [spt]
theorem gO {s:P2×P2} {p:P2}:p∈spt s↔∃ k:Int,0≤k∧k < gst s∧p=onS s k:=by
 unfold spt
 rw [List.mem_map]
 constructor
 ·rintro ⟨k,hk,rfl⟩
  have:=List.mem_range.mp hk
  exact ⟨k,by omega,by omega,rfl⟩
 ·rintro ⟨k,h0,h1,rfl⟩
  exact ⟨k.toNat,List.mem_range.mpr (by omega),by rw [show ((k.toNat:Nat):Int)=k by omega]⟩
theorem wZ (l:List P2):((apt l).length:Int)=je l:=by
 unfold apt je
 generalize sdl l=ss
 induction ss with
 | nil=> rfl
 | cons s r ih=>
  rw [List.map_cons,List.flatten_cons,List.length_append,List.map_cons,List.sum_cons,wV]
  have:=oj s
  omega
section
variable {l:List P2} (h3:3≤(ak l).length)
include h3
theorem cq {s:P2×P2} (hs:s∈sdl (ak l)):s.1≠s.2:=tN (aZ l) (by omega) s hs
theorem wU {p:P2} (h:bdr (ak l) p):p∈apt (ak l):=by
 obtain ⟨hall,s,hs,h0⟩:=h
 obtain ⟨k,rfl⟩:=iM (cq h3 hs) h0
 have g0:=bT (cq h3 hs)
 obtain ⟨A,B⟩:=s
 obtain ⟨Z,hZ⟩:=mJ (bj hs).1
 obtain ⟨B',hB',pZ⟩:=dB h3 hZ
 have:B'=B:=ic (aZ l) hB' hs
 subst this
 obtain ⟨C,hC,pC⟩:=dB h3 hs
 have k0:0≤k:=by
  have m:=du (A,B') k Z A
  have z:af Z A A=0:=by unfold af; grind
  dsimp only at m
  rw [z,Int.mul_zero,Int.zero_add] at m
  have:0≤gst (A,B') * af Z A (onS (A,B') k):=Int.mul_nonneg (by omega) (hall _ hZ)
  rw [m,Int.mul_comm] at this
  exact aC pZ this
 have k1:k≤gst (A,B'):=by
  have m:=du (A,B') k B' C
  have z:af B' C B'=0:=by unfold af; grind
  have z2:af B' C A=af A B' C:=by unfold af; grind
  dsimp only at m
  rw [z,Int.mul_zero,Int.add_zero,z2] at m
  have:0≤gst (A,B') * af B' C (onS (A,B') k):=Int.mul_nonneg (by omega) (hall _ hC)
  rw [m,Int.mul_comm] at this
  have:=aC pC this
  omega
 unfold apt
 by_cases hk:k < gst (A,B')
 ·exact List.mem_flatten.mpr ⟨_,List.mem_map_of_mem hs,gO.mpr ⟨k,k0,hk,rfl⟩⟩
 ·have e:onS (A,B') k=onS (B',C) 0:=by
   have:k=gst (A,B'):=by omega
   rw [this]
   have h1:=fH (A,B')
   have h2:=fM (A,B')
   dsimp only at h1 h2
   unfold onS
   dsimp only
   exact Prod.ext (by dsimp only; omega) (by dsimp only; omega)
  rw [e]
  exact List.mem_flatten.mpr ⟨_,List.mem_map_of_mem hC,gO.mpr ⟨0,by omega,bT (cq h3 hC),rfl⟩⟩
theorem xH {p:P2} (h:p∈apt (ak l)):bdr (ak l) p:=by
 unfold apt at h
 obtain ⟨q,hq,hp⟩:=List.mem_flatten.mp h
 obtain ⟨s,hs,rfl⟩:=List.mem_map.mp hq
 obtain ⟨k,k0,k1,rfl⟩:=gO.mp hp
 have g0:=bT (cq h3 hs)
 refine ⟨fun t ht=> ?_,s,hs,?_⟩
 ·have c1:=br h3 ht s.1 (aN _ _ (bj hs).1)
  have c2:=br h3 ht s.2 (aN _ _ (bj hs).2)
  have m:=du s k t.1 t.2
  have a1:=Int.mul_nonneg (show 0≤gst s - k by omega) c1
  have a2:=Int.mul_nonneg k0 c2
  exact aC g0 (by omega)
 ·have m:=du s k s.1 s.2
  have z1:af s.1 s.2 s.1=0:=by unfold af; grind
  have z2:af s.1 s.2 s.2=0:=by unfold af; grind
  rw [z1,z2,Int.mul_zero,Int.mul_zero,Int.add_zero] at m
  exact (Int.mul_eq_zero.mp m).resolve_left (by omega)
theorem vA {s:P2×P2} (hs:s∈sdl (ak l)) {k:Int} (k0:0 < k) (k1:k < gst s):onS s k ∉ ak l:=fun h=> by
 obtain ⟨_,a,b,top⟩:=dr h3 h
 have ne:=cq h3 hs
 have w:gst s * (wth a b (onS s k) - wth a b s.1)=k * (wth a b s.2 - wth a b s.1):=by
  have h1:=fH s
  have h2:=fM s
  have e:wth a b s.2 - wth a b s.1=a * (s.2.1 - s.1.1)+b * (s.2.2 - s.1.2):=by unfold wth; grind
  rw [e,h1,h2]
  unfold wth onS
  grind
 have n1:s.1≠onS s k:=fun e=> by
  have:onS s 0=onS s k:=by rw [← e]; unfold onS; simp
  have:=jm ne this
  omega
 have n2:s.2≠onS s k:=fun e=> by
  have h1:=fH s
  have h2:=fM s
  have:onS s (gst s)=onS s k:=by rw [← e]; unfold onS; exact Prod.ext (by dsimp only; omega) (by dsimp only; omega)
  have:=jm ne this
  omega
 have t1:=top s.1 (aN _ _ (bj hs).1) n1
 have t2:=top s.2 (aN _ _ (bj hs).2) n2
 have g1:0 < gst s * (wth a b (onS s k) - wth a b s.1):=Int.mul_pos (by omega) (by omega)
 have g2:0 < wth a b s.2 - wth a b s.1:=by
  rcases Int.lt_or_le 0 (wth a b s.2 - wth a b s.1) with z | z
  ·exact z
  ·have:=Int.mul_nonneg (show 0≤k by omega) (show 0≤-(wth a b s.2 - wth a b s.1) by omega)
   have e:k * -(wth a b s.2 - wth a b s.1)=-(k * (wth a b s.2 - wth a b s.1)):=by grind
   omega
 have g3:k * (wth a b s.2 - wth a b s.1) < gst s * (wth a b s.2 - wth a b s.1):=Int.mul_lt_mul_of_pos_right k1 g2
 have g4:gst s * (wth a b (onS s k) - wth a b s.1) < gst s * (wth a b s.2 - wth a b s.1):=by omega
 have:=Int.lt_of_mul_lt_mul_left g4 (by omega)
 omega
theorem ox {s:P2×P2} (hs:s∈sdl (ak l)) {P:P2} (hP:P∈ak l) (h0:af s.1 s.2 P=0):P=s.1∨P=s.2:=by
 have hb:bdr (ak l) P:=⟨fun t ht=> br h3 ht P (aN _ _ hP),s,hs,h0⟩
 obtain ⟨k,e⟩:=iM (cq h3 hs) h0
 have ne:=cq h3 hs
 have g0:=bT ne
 obtain ⟨A,B⟩:=s
 obtain ⟨Z,hZ⟩:=mJ (bj hs).1
 obtain ⟨B',hB',pZ⟩:=dB h3 hZ
 have:B'=B:=ic (aZ l) hB' hs
 subst this
 obtain ⟨C,hC,pC⟩:=dB h3 hs
 have k0:0≤k:=by
  have m:=du (A,B') k Z A
  have z:af Z A A=0:=by unfold af; grind
  dsimp only at m
  rw [z,Int.mul_zero,Int.zero_add,← e] at m
  have:0≤gst (A,B') * af Z A P:=Int.mul_nonneg (by omega) (hb.1 _ hZ)
  rw [m,Int.mul_comm] at this
  exact aC pZ this
 have k1:k≤gst (A,B'):=by
  have m:=du (A,B') k B' C
  have z:af B' C B'=0:=by unfold af; grind
  have z2:af B' C A=af A B' C:=by unfold af; grind
  dsimp only at m
  rw [z,Int.mul_zero,Int.add_zero,z2,← e] at m
  have:0≤gst (A,B') * af B' C P:=Int.mul_nonneg (by omega) (hb.1 _ hC)
  rw [m,Int.mul_comm] at this
  have:=aC pC this
  omega
 rcases Int.lt_or_eq_of_le k0 with z | z
 ·rcases Int.lt_or_eq_of_le k1 with w | w
  ·exact absurd (e ▸ hP) (vA h3 hs z w)
  ·right
   rw [e,w]
   have h1:=fH (A,B')
   have h2:=fM (A,B')
   dsimp only at h1 h2
   unfold onS
   exact Prod.ext (by dsimp only; omega) (by dsimp only; omega)
 ·left
  rw [e,← z]; unfold onS; simp
theorem apart {s t:P2×P2} (hs:s∈sdl (ak l)) (ht:t∈sdl (ak l)) (hst:s≠t):∀ p∈spt s,∀ q∈spt t,p≠q:=by
 intro p hp q hq e
 subst e
 obtain ⟨k,k0,k1,rfl⟩:=gO.mp hp
 obtain ⟨j,j0,j1,e⟩:=gO.mp hq
 have gs:=bT (cq h3 hs)
 have gt:=bT (cq h3 ht)
 have mA:=(bj hs).1
 have mB:=(bj hs).2
 have key:∀ {s t:P2×P2},s∈sdl (ak l)→t∈sdl (ak l)→∀ {k j:Int},0≤k→k < gst s→0≤j→j < gst t→onS s k=onS t j→af t.1 t.2 s.1=0∧(k=0∨af t.1 t.2 s.2=0):=fun {s t} hs ht {k j} k0 k1 j0 j1 e=> by
  have z:af t.1 t.2 (onS s k)=0:=by
   rw [e]
   have m:=du t j t.1 t.2
   have z1:af t.1 t.2 t.1=0:=by unfold af; grind
   have z2:af t.1 t.2 t.2=0:=by unfold af; grind
   rw [z1,z2,Int.mul_zero,Int.mul_zero,Int.add_zero] at m
   have:=bT (cq h3 ht)
   exact (Int.mul_eq_zero.mp m).resolve_left (by omega)
  have m:=du s k t.1 t.2
  rw [z,Int.mul_zero] at m
  have c1:=br h3 ht s.1 (aN _ _ (bj hs).1)
  have c2:=br h3 ht s.2 (aN _ _ (bj hs).2)
  have a1:=Int.mul_nonneg (show 0≤gst s - k by omega) c1
  have a2:=Int.mul_nonneg k0 c2
  have b1:(gst s - k) * af t.1 t.2 s.1=0:=by omega
  have b2:k * af t.1 t.2 s.2=0:=by omega
  exact ⟨(Int.mul_eq_zero.mp b1).resolve_left (by omega),Int.mul_eq_zero.mp b2⟩
 obtain ⟨x1,x2⟩:=key hs ht k0 k1 j0 j1 e
 obtain ⟨y1,y2⟩:=key ht hs j0 j1 k0 k1 e.symm
 have nd:=aZ l
 have o0:∀ r:P2×P2,onS r 0=r.1:=fun r=> by unfold onS; simp
 rcases x2 with kz | xB
 ·subst kz
  rcases y2 with jz | yD
  ·subst jz
   rw [o0,o0] at e
   obtain ⟨A,B⟩:=s
   obtain ⟨C,D⟩:=t
   dsimp only at e
   subst e
   exact hst (by rw [ic nd hs ht])
  ·rw [o0] at e
   rcases Int.lt_or_eq_of_le j0 with z | z
   ·exact vA h3 ht z j1 (by rw [← e]; exact mA)
   ·rw [← z,o0] at e
    obtain ⟨A,B⟩:=s
    obtain ⟨C,D⟩:=t
    dsimp only at e
    subst e
    exact hst (by rw [ic nd hs ht])
 ·have eA:=ox h3 ht mA x1
  have eB:=ox h3 ht mB xB
  have ns:=cq h3 hs
  have nt:=cq h3 ht
  rcases eA with a | a
  ·obtain ⟨A,B⟩:=s
   obtain ⟨C,D⟩:=t
   dsimp only at a
   subst a
   exact hst (by rw [ic nd hs ht])
  ·rcases eB with b | b
   ·-- the side and the same turned round:a third corner lies at both hands
    obtain ⟨C,D⟩:=t
    obtain ⟨A,B⟩:=s
    dsimp only at a b
    subst a b
    obtain ⟨E,hE,pE⟩:=dB h3 hs
    have c:=br h3 ht E (aN _ _ (bj hE).2)
    have:af B A E=-af A B E:=by unfold af; grind
    dsimp only at c
    omega
   ·exact ns (by rw [a,b])
theorem rH:(apt (ak l)).Nodup:=by
 unfold apt
 refine List.pairwise_flatten.mpr ⟨fun q hq=> ?_,?_⟩
 ·obtain ⟨s,hs,rfl⟩:=List.mem_map.mp hq
  unfold spt
  refine List.Pairwise.map _ (fun a b (h:a≠b) e=> h ?_) List.nodup_range
  have:=jm (cq h3 hs) e
  omega
 ·refine List.pairwise_map.mpr ?_
  exact (zL (aZ l)).imp_of_mem fun {s t} hs ht h=> apart h3 hs ht h
end
theorem iP {A B p:P2} (h:ST.ltP A B=true):(af A B p=0∧ST.leP A p=true∧ST.leP p B=true)↔∃ k:Int,0≤k∧k≤gst (A,B)∧p=onS (A,B) k:=by
 have hne:(A,B).1≠(A,B).2:=fun e=> by
  dsimp only at e
  subst e
  unfold ST.ltP at h
  simp at h
 have g0:=bT hne
 have h1:=fH (A,B)
 have h2:=fM (A,B)
 dsimp only at h1 h2
 unfold ST.ltP at h
 have h:=of_decide_eq_true h
 have lex:0 < ub (A,B)∨(ub (A,B)=0∧0 < vb (A,B)):=by
  rcases h with z | ⟨z,w⟩
  ·left
   have:0 < gst (A,B) * ub (A,B):=by omega
   exact Int.pos_of_mul_pos_right this (by omega)
  ·right
   have e:gst (A,B) * ub (A,B)=0:=by omega
   have:0 < gst (A,B) * vb (A,B):=by omega
   exact ⟨(Int.mul_eq_zero.mp e).resolve_left (by omega),Int.pos_of_mul_pos_right this (by omega)⟩
 have sg:∀ k:Int,(ST.leP A (onS (A,B) k)=true↔0≤k)∧(ST.leP (onS (A,B) k) B=true↔k≤gst (A,B)):=fun k=> by
  have r:∀ m:Int,(0 < m * ub (A,B)∨(m * ub (A,B)=0∧0≤m * vb (A,B)))↔0≤m:=fun m=> by
   rcases lex with u | ⟨u,v⟩
   ·constructor
    ·rintro (z | ⟨z,_⟩)
     ·exact Int.le_of_lt (Int.pos_of_mul_pos_left z (by omega))
     ·rcases Int.mul_eq_zero.mp z with w | w <;> omega
    ·intro hm
     rcases Int.lt_or_eq_of_le hm with z | z
     ·left; exact Int.mul_pos z u
     ·right; rw [← z]; simp
   ·rw [u,Int.mul_zero]
    constructor
    ·rintro (z | ⟨_,z⟩)
     ·omega
     ·rw [Int.mul_comm] at z; exact aC v z
    ·intro hm
     exact .inr ⟨rfl,Int.mul_nonneg hm (by omega)⟩
  have e1:(gst (A,B) - k) * ub (A,B)=B.1 - (A.1+k * ub (A,B)):=by
   have:(gst (A,B) - k) * ub (A,B)=gst (A,B) * ub (A,B) - k * ub (A,B):=by grind
   omega
  have e2:(gst (A,B) - k) * vb (A,B)=B.2 - (A.2+k * vb (A,B)):=by
   have:(gst (A,B) - k) * vb (A,B)=gst (A,B) * vb (A,B) - k * vb (A,B):=by grind
   omega
  have r1:=r k
  have r2:=r (gst (A,B) - k)
  rw [e1,e2] at r2
  unfold ST.leP onS
  rw [decide_eq_true_eq,decide_eq_true_eq]
  dsimp only
  constructor
  ·rw [← r1]; omega
  ·rw [show k≤gst (A,B)↔0≤gst (A,B) - k by omega,← r2]; omega
 constructor
 ·rintro ⟨d,a,b⟩
  obtain ⟨k,rfl⟩:=iM hne d
  exact ⟨k,(sg k).1.mp a,(sg k).2.mp b,rfl⟩
 ·rintro ⟨k,k0,k1,rfl⟩
  refine ⟨?_,(sg k).1.mpr k0,(sg k).2.mpr k1⟩
  have m:=du (A,B) k A B
  have z1:af A B A=0:=by unfold af; grind
  have z2:af A B B=0:=by unfold af; grind
  dsimp only at m
  rw [z1,z2,Int.mul_zero,Int.mul_zero,Int.add_zero] at m
  exact (Int.mul_eq_zero.mp m).resolve_left (by omega)
end
section
variable {P:Program} {w:World} {K:PySem.W.Frag} {mg:Str→Option Value} {base:Heap}
theorem lV {a b c e x y:Int} (h:a * e - b * c=1∨a * e - b * c=-1):Int.gcd (a * x+b * y) (c * x+e * y)=Int.gcd x y:=by
 apply Nat.dvd_antisymm
 ·have h1:((Int.gcd (a * x+b * y) (c * x+e * y):Nat):Int) ∣ a * x+b * y:=Int.gcd_dvd_left ..
  have h2:((Int.gcd (a * x+b * y) (c * x+e * y):Nat):Int) ∣ c * x+e * y:=Int.gcd_dvd_right ..
  generalize Int.gcd (a * x+b * y) (c * x+e * y)=g at *
  have k1:(g:Int) ∣ (a * e - b * c) * x:=by
   have:(a * e - b * c) * x=e * (a * x+b * y) - b * (c * x+e * y):=by grind
   rw [this]; exact Int.dvd_sub (Int.dvd_trans h1 (Int.dvd_mul_left ..)) (Int.dvd_trans h2 (Int.dvd_mul_left ..))
  have k2:(g:Int) ∣ (a * e - b * c) * y:=by
   have:(a * e - b * c) * y=a * (c * x+e * y) - c * (a * x+b * y):=by grind
   rw [this]; exact Int.dvd_sub (Int.dvd_trans h2 (Int.dvd_mul_left ..)) (Int.dvd_trans h1 (Int.dvd_mul_left ..))
  have up:∀ z:Int,(g:Int) ∣ (a * e - b * c) * z→(g:Int) ∣ z:=fun z k=> by
   rcases h with w | w <;> rw [w] at k
   ·rwa [Int.one_mul] at k
   ·rw [Int.neg_one_mul] at k; exact Int.dvd_neg.mp k
  exact Int.ofNat_dvd.mp (Int.dvd_coe_gcd (up x k1) (up y k2))
 ·have h1:((Int.gcd x y:Nat):Int) ∣ x:=Int.gcd_dvd_left ..
  have h2:((Int.gcd x y:Nat):Int) ∣ y:=Int.gcd_dvd_right ..
  exact Int.ofNat_dvd.mp (Int.dvd_coe_gcd (Int.dvd_add (Int.dvd_trans h1 (Int.dvd_mul_left ..)) (Int.dvd_trans h2 (Int.dvd_mul_left ..))) (Int.dvd_add (Int.dvd_trans h1 (Int.dvd_mul_left ..)) (Int.dvd_trans h2 (Int.dvd_mul_left ..))))
theorem eK (A B:P2):gst (B,A)=gst (A,B):=by
 unfold gst
 dsimp only
 rw [show A.1 - B.1=-(B.1 - A.1) by omega,show A.2 - B.2=-(B.2 - A.2) by omega,Int.gcd_neg,Int.neg_gcd]
theorem we {f:P2→P2} {d:Int} (L:Lin f d) (s:P2×P2):gst (sdf f d s)=gst s:=by
 obtain ⟨A,B⟩:=s
 have key:gst (f A,f B)=gst (A,B):=by
  obtain ⟨a,b,c,e,h,k⟩:=L.ex
  unfold gst
  rw [k,k]
  dsimp only
  rw [show a * B.1+b * B.2 - (a * A.1+b * A.2)=a * (B.1 - A.1)+b * (B.2 - A.2) by grind,show c * B.1+e * B.2 - (c * A.1+e * A.2)=c * (B.1 - A.1)+e * (B.2 - A.2) by grind]
  rw [lV (by rw [h]; exact L.one)]
 unfold sdf
 split
 ·exact key
 ·exact (eK _ _).trans key
def loT (X Y y:Int):Int:=-((-X * y) / Y)
def hiT (g X Y y:Int):Int:=g+((X - g) * y) / Y
def lnT (g X Y y:Int):Int:=hiT g X Y y - loT X Y y+1
theorem oE {g X Y y:Int} (hY:0 < Y) (hg:0≤g) (h1:y≤Y):0≤lnT g X Y y:=by
 unfold lnT hiT loT
 have a1:=Int.emod_add_mul_ediv (-X * y) Y
 have a2:=Int.emod_lt_of_pos (-X * y) hY
 have b1:=Int.emod_add_mul_ediv ((X - g) * y) Y
 have b2:=Int.emod_lt_of_pos ((X - g) * y) hY
 generalize -X * y / Y=p at *
 generalize (X - g) * y / Y=q at *
 have e:-X * y+(X - g) * y=-(g * y):=by grind
 have gy:g * y≤g * Y:=Int.mul_le_mul_of_nonneg_left h1 hg
 have k:-(Y * (g+q+p+1)) < Y:=by
  have:Y * (g+q+p+1)=g * Y+Y * q+Y * p+Y:=by grind
  omega
 rcases Int.lt_or_le (g+q+p+1) 0 with z | z
 ·have:Y * 1≤Y * -(g+q+p+1):=Int.mul_le_mul_of_nonneg_left (by omega) (by omega)
  have e2:Y * -(g+q+p+1)=-(Y * (g+q+p+1)):=by grind
  omega
 ·omega
def nv (A:P2) (g u v s t X Y:Int) (y:Nat):List P2:=(List.range (lnT g X Y y).toNat).map fun (k:Nat)=> bk A u v s t (loT X Y y+(k:Int)) y
def jn (A:P2) (g u v s t X Y:Int) (n:Nat):List P2:=((List.range n).map (nv A g u v s t X Y)).flatten
theorem rA (A:P2) (g u v s t X Y:Int) (n:Nat):jn A g u v s t X Y (n+1)=jn A g u v s t X Y n++nv A g u v s t X Y n:=by
 unfold jn
 rw [List.range_succ,List.map_append,List.flatten_append]
 simp
theorem mI {A:P2} {g u v s t X Y:Int} (hY:0 < Y) (hg:0≤g):∀ n:Nat,(n:Int)≤Y+1→((jn A g u v s t X Y n).length:Int)=n * (g+1)+bN n (X - g) 0 Y+bN n (-X) 0 Y
 | 0,_=> by simp [jn,bN]
 | n+1,h=> by
  have ih:=mI (A:=A) (g:=g) (u:=u) (v:=v) (s:=s) (t:=t) (X:=X) hY hg n (by omega)
  have l0:=oE (g:=g) (X:=X) (y:=(n:Int)) hY hg (by omega)
  rw [rA,List.length_append]
  have rl:((nv A g u v s t X Y n).length:Int)=lnT g X Y n:=by unfold nv; simp; omega
  have e1:bN (n+1) (X - g) 0 Y=bN n (X - g) 0 Y+((X - g) * (n:Int)+0) / Y:=rfl
  have e2:bN (n+1) (-X) 0 Y=bN n (-X) 0 Y+(-X * (n:Int)+0) / Y:=rfl
  rw [e1,e2,Int.add_zero,Int.add_zero]
  have e3:((n+1:Nat):Int) * (g+1)=(n:Int) * (g+1)+(g+1):=by
   rw [show ((n+1:Nat):Int)=(n:Int)+1 by omega]; grind
  rw [e3]
  unfold lnT hiT loT at rl
  omega
theorem v5 {A:P2} {g u v s t X Y g1 g2:Int} (hY:0 < Y) (hg:0≤g) (h1:g1=((Int.gcd X Y:Nat):Int)) (h2:g2=((Int.gcd (X - g) Y:Nat):Int)):2 * ((jn A g u v s t X Y (Y.toNat+1)).length:Int)=g * Y+g+g1+g2+2:=by
 rw [mI hY hg _ (by omega)]
 have eY:((Y.toNat:Nat):Int)=Y:=by omega
 have gp1:0 < g1:=by
  have:Int.gcd X Y≠0:=fun z=> by have:=(Int.gcd_eq_zero_iff.mp z).2; omega
  omega
 have gp2:0 < g2:=by
  have:Int.gcd (X - g) Y≠0:=fun z=> by have:=(Int.gcd_eq_zero_iff.mp z).2; omega
  omega
 have r1:=kc Y.toNat (-X) 0 g1 (by omega) gp1 (by rw [h1]; exact Int.dvd_neg.mpr (Int.gcd_dvd_left ..)) (by rw [h1,eY]; exact Int.gcd_dvd_right ..) (fun d d1 d2=> by rw [h1]; rw [eY] at d2; exact Int.dvd_coe_gcd (Int.dvd_neg.mp d1) d2)
 have r2:=kc Y.toNat (X - g) 0 g2 (by omega) gp2 (by rw [h2]; exact Int.gcd_dvd_left ..) (by rw [h2,eY]; exact Int.gcd_dvd_right ..) (fun d d1 d2=> by rw [h2]; rw [eY] at d2; exact Int.dvd_coe_gcd d1 d2)
 rw [eY] at r1 r2
 have s1:bN (Y.toNat+1) (X - g) 0 Y=bN Y.toNat (X - g) 0 Y+((X - g) * ((Y.toNat:Nat):Int)+0) / Y:=rfl
 have s2:bN (Y.toNat+1) (-X) 0 Y=bN Y.toNat (-X) 0 Y+(-X * ((Y.toNat:Nat):Int)+0) / Y:=rfl
 rw [eY,Int.add_zero,Int.mul_ediv_cancel _ (by omega)] at s1 s2
 rw [s1,s2,show ((Y.toNat+1:Nat):Int)=Y+1 by omega]
 have z1:g1 * (0 / g1)=0:=by simp
 have z2:g2 * (0 / g2)=0:=by simp
 rw [z1] at r1
 rw [z2] at r2
 have e:2 * ((Y+1) * (g+1)+(bN Y.toNat (X - g) 0 Y+(X - g))+(bN Y.toNat (-X) 0 Y+-X))=2 * ((Y+1) * (g+1))+2 * bN Y.toNat (X - g) 0 Y+2 * bN Y.toNat (-X) 0 Y - 2 * g:=by grind
 rw [e,r1,r2]
 grind
def inT (A B C p:P2):Prop:=0≤af A B p∧0≤af B C p∧0≤af C A p
theorem li {a x Y:Int} (hY:0 < Y):x≤a / Y↔x * Y≤a:=Int.le_ediv_iff_mul_le hY
theorem zr {A B C:P2} {g u v s t:Int} (L:Lvl A B g u v s t) (hY:0 < ty A C u v) (p:P2):inT A B C p↔0≤ty A p u v∧loT (tx A C s t) (ty A C u v) (ty A p u v)≤tx A p s t∧tx A p s t≤hiT g (tx A C s t) (ty A C u v) (ty A p u v):=by
 have g0:=L.g0
 obtain ⟨b1,b2⟩:=L.back p
 have ep:p=bk A u v s t (tx A p s t) (ty A p u v):=Prod.ext b1 b2
 have d1:=L.d1 (tx A p s t) (ty A p u v)
 have d2:=L.d2 C (tx A p s t) (ty A p u v)
 have d3:=L.d3 C (tx A p s t) (ty A p u v)
 rw [← ep] at d1 d2 d3
 unfold inT
 rw [d1,d2,d3]
 generalize tx A p s t=x at *
 generalize ty A p u v=y at *
 generalize tx A C s t=X at *
 generalize ty A C u v=Y at *
 have c1:0≤g * y↔0≤y:=⟨fun h=> by
  rcases Int.lt_or_le y 0 with z | z
  ·have:=Int.mul_pos g0 (show 0 < -y by omega)
   have e:g * -y=-(g * y):=by grind
   omega
  ·exact z,fun h=> Int.mul_nonneg (by omega) h⟩
 have c2:loT X Y y≤x↔0≤Y * x - X * y:=by
  unfold loT
  rw [show (-((-X * y) / Y)≤x)↔(-x≤(-X * y) / Y) by omega,li hY]
  have e:-x * Y=-(Y * x):=by grind
  have e2:-X * y=-(X * y):=by grind
  rw [e,e2]; omega
 have c3:x≤hiT g X Y y↔0≤(X - g) * y - Y * (x - g):=by
  unfold hiT
  rw [show (x≤g+((X - g) * y) / Y)↔(x - g≤((X - g) * y) / Y) by omega,li hY]
  have e:(x - g) * Y=Y * (x - g):=Int.mul_comm ..
  rw [e]; omega
 rw [c1,c2,c3]
 constructor
 ·rintro ⟨a,b,c⟩; exact ⟨a,c,b⟩
 ·rintro ⟨a,b,c⟩; exact ⟨a,c,b⟩
theorem vK {A B:P2} {g u v s t:Int} (L:Lvl A B g u v s t) (x y:Int):tx A (bk A u v s t x y) s t=x∧ty A (bk A u v s t x y) u v=y:=by
 have:=L.st
 unfold tx ty bk
 dsimp only
 constructor <;> grind
theorem uu {A B C:P2} {g u v s t:Int} (L:Lvl A B g u v s t) (hY:0 < ty A C u v) (p:P2):p∈jn A g u v s t (tx A C s t) (ty A C u v) ((ty A C u v).toNat+1)↔inT A B C p:=by
 have g0:=L.g0
 rw [zr L hY]
 unfold jn
 rw [List.mem_flatten]
 constructor
 ·rintro ⟨r,hr,hp⟩
  obtain ⟨y,hy,rfl⟩:=List.mem_map.mp hr
  have hy':=List.mem_range.mp hy
  unfold nv at hp
  obtain ⟨k,hk,rfl⟩:=List.mem_map.mp hp
  have hk':=List.mem_range.mp hk
  obtain ⟨e1,e2⟩:=vK L (loT (tx A C s t) (ty A C u v) y+(k:Int)) y
  rw [e1,e2]
  unfold lnT at hk'
  omega
 ·rintro ⟨y0,lo,hi⟩
  obtain ⟨b1,b2⟩:=L.back p
  have ep:p=bk A u v s t (tx A p s t) (ty A p u v):=Prod.ext b1 b2
  have yY:ty A p u v≤ty A C u v:=by
   have h1:0≤ty A C u v * tx A p s t - tx A C s t * ty A p u v:=by
    unfold loT at lo
    rw [show (-((-tx A C s t * ty A p u v) / ty A C u v)≤tx A p s t)↔(-tx A p s t≤(-tx A C s t * ty A p u v) / ty A C u v) by omega,li hY] at lo
    have e:-tx A p s t * ty A C u v=-(ty A C u v * tx A p s t):=by grind
    have e2:-tx A C s t * ty A p u v=-(tx A C s t * ty A p u v):=by grind
    rw [e,e2] at lo; omega
   have h2:0≤(tx A C s t - g) * ty A p u v - ty A C u v * (tx A p s t - g):=by
    unfold hiT at hi
    rw [show (tx A p s t≤g+((tx A C s t - g) * ty A p u v) / ty A C u v)↔(tx A p s t - g≤((tx A C s t - g) * ty A p u v) / ty A C u v) by omega,li hY] at hi
    have e:(tx A p s t - g) * ty A C u v=ty A C u v * (tx A p s t - g):=Int.mul_comm ..
    rw [e] at hi; omega
   have h3:0≤g * (ty A C u v - ty A p u v):=by
    have:g * (ty A C u v - ty A p u v)=(ty A C u v * tx A p s t - tx A C s t * ty A p u v)+((tx A C s t - g) * ty A p u v - ty A C u v * (tx A p s t - g)):=by grind
    omega
   rcases Int.lt_or_le (ty A C u v) (ty A p u v) with z | z
   ·have:=Int.mul_pos g0 (show 0 < -(ty A C u v - ty A p u v) by omega)
    have e:g * -(ty A C u v - ty A p u v)=-(g * (ty A C u v - ty A p u v)):=by grind
    omega
   ·exact z
  refine ⟨_,List.mem_map.mpr ⟨(ty A p u v).toNat,List.mem_range.mpr (by omega),rfl⟩,?_⟩
  unfold nv
  have ey:(((ty A p u v).toNat:Nat):Int)=ty A p u v:=by omega
  rw [ey]
  refine List.mem_map.mpr ⟨(tx A p s t - loT (tx A C s t) (ty A C u v) (ty A p u v)).toNat,List.mem_range.mpr (by unfold lnT; omega),?_⟩
  rw [show loT (tx A C s t) (ty A C u v) (ty A p u v)+(((tx A p s t - loT (tx A C s t) (ty A C u v) (ty A p u v)).toNat:Nat):Int)=tx A p s t by omega]
  exact ep.symm
theorem oD {A B:P2} {g u v s t X Y:Int} (L:Lvl A B g u v s t) (n:Nat):(jn A g u v s t X Y n).Nodup:=by
 unfold jn
 have inj:∀ {x y x' y':Int},bk A u v s t x y=bk A u v s t x' y'→x=x'∧y=y':=fun {x y x' y'} e=> by
  have h1:=vK L x y
  have h2:=vK L x' y'
  rw [e] at h1
  exact ⟨h1.1.symm.trans h2.1,h1.2.symm.trans h2.2⟩
 refine List.pairwise_flatten.mpr ⟨fun q hq=> ?_,?_⟩
 ·obtain ⟨y,hy,rfl⟩:=List.mem_map.mp hq
  unfold nv
  refine List.Pairwise.map _ (fun a b (h:a≠b) e=> h ?_) List.nodup_range
  have:=(inj e).1
  omega
 ·refine List.pairwise_map.mpr ?_
  refine List.nodup_range.imp fun {y z} h p hp q hq e=> h ?_
  unfold nv at hp hq
  obtain ⟨k,_,rfl⟩:=List.mem_map.mp hp
  obtain ⟨j,_,rfl⟩:=List.mem_map.mp hq
  have:=(inj e).2
  omega
theorem jM (A B C:P2):af B C A=af A B C:=by unfold af; grind
theorem mE {A B C:P2} (hD:0 < af A B C) {W:List P2} (hW:W.Nodup) (hin:∀ p,inT A B C p→p∈W) (f:P2→Bool) (hf:∀ p,f p=true↔inT A B C p):2 * (((W.filter f).length:Nat):Int)=af A B C+gst (A,B)+gst (B,C)+gst (C,A)+2:=by
 have hne:(A,B).1≠(A,B).2:=fun e=> by
  dsimp only at e
  subst e
  have:af A A C=0:=by unfold af; grind
  omega
 obtain ⟨s,t,L⟩:=n8 hne
 dsimp only at L
 have g0:=L.g0
 have ar:=L.area C
 have hY:0 < ty A C (ub (A,B)) (vb (A,B)):=by
  rw [ar] at hD
  exact Int.pos_of_mul_pos_right hD (by omega)
 have st:=L.st
 have p:List.Perm (W.filter f) (jn A (gst (A,B)) (ub (A,B)) (vb (A,B)) s t (tx A C s t) (ty A C (ub (A,B)) (vb (A,B))) ((ty A C (ub (A,B)) (vb (A,B))).toNat+1)):=(List.perm_ext_iff_of_nodup (hW.filter _) (oD L _)).mpr fun q=> by
  rw [uu L hY,List.mem_filter,hf]
  exact ⟨fun h=> h.2,fun h=> ⟨hin q h,h⟩⟩
 have e1:gst (C,A)=((Int.gcd (tx A C s t) (ty A C (ub (A,B)) (vb (A,B))):Nat):Int):=by
  rw [eK]
  unfold gst tx ty
  dsimp only
  rw [show ub (A,B) * (C.2 - A.2) - vb (A,B) * (C.1 - A.1)=-vb (A,B) * (C.1 - A.1)+ub (A,B) * (C.2 - A.2) by grind,lV (.inl (by grind))]
 have e2:gst (B,C)=((Int.gcd (tx A C s t - gst (A,B)) (ty A C (ub (A,B)) (vb (A,B))):Nat):Int):=by
  have h1:=L.e1
  have h2:=L.e2
  have x:tx A C s t - gst (A,B)=s * (C.1 - B.1)+t * (C.2 - B.2):=by
   have:s * (B.1 - A.1)+t * (B.2 - A.2)=gst (A,B) * (s * ub (A,B)+t * vb (A,B)):=by rw [h1,h2]; grind
   rw [st,Int.mul_one] at this
   unfold tx
   grind
  have y:ty A C (ub (A,B)) (vb (A,B))=-vb (A,B) * (C.1 - B.1)+ub (A,B) * (C.2 - B.2):=by
   have:ub (A,B) * (B.2 - A.2) - vb (A,B) * (B.1 - A.1)=0:=by rw [h1,h2]; grind
   unfold ty
   grind
  rw [x,y,lV (.inl (by grind))]
  rfl
 have:=v5 (A:=A) (u:=ub (A,B)) (v:=vb (A,B)) (s:=s) (t:=t) hY (by omega) e1 e2
 rw [p.length_eq,this,ar]
 omega
theorem jt {A B C q:P2} (hD:0 < af A B C) (h:inT A B C q) {X Y:P2} (hA:0≤af X Y A) (hB:0≤af X Y B) (hC:0≤af X Y C):0≤af X Y q:=by
 obtain ⟨h1,h2,h3⟩:=h
 have e:af A B C * af X Y q=af B C q * af X Y A+af C A q * af X Y B+af A B q * af X Y C:=by unfold af; grind
 have a1:=Int.mul_nonneg h2 hA
 have a2:=Int.mul_nonneg h3 hB
 have a3:=Int.mul_nonneg h1 hC
 exact aC hD (by omega)
def chn:List P2→P2→Prop
 | b::c::r,q=> 0≤af b c q∧chn (c::r) q
 | _,_=> True
def inF (a:P2) (ch:List P2) (q:P2):Prop:=(∀ b,ch.head?=some b→0≤af a b q)∧chn ch q∧∀ z,ch.getLast?=some z→0≤af z a q
structure Cvx (a:P2) (ch:List P2):Prop where
 tr:ch.Pairwise fun x y=> 0 < af a x y
 sd:∀ x,x=a∨x∈ch→chn ch x
theorem gL {b:P2}:∀ {r:List P2} {q:P2},chn (b::r) q→chn r q
 | [],_,_=> trivial
 | _::_,_,h=> h.2
theorem Cvx.tail {a b:P2} {r:List P2} (h:Cvx a (b::r)):Cvx a r:=⟨(List.pairwise_cons.mp h.tr).2,fun x hx=> gL (h.sd x (hx.imp id fun z=> List.mem_cons_of_mem _ z))⟩
theorem lO (a b c q:P2):inF a [b,c] q↔inT a b c q:=by
 unfold inF inT chn chn
 simp
theorem iU {a b c d:P2} {r:List P2} (q:P2):inF a (b::c::d::r) q↔0≤af a b q∧0≤af b c q∧chn (c::d::r) q∧∀ z,(c::d::r).getLast?=some z→0≤af z a q:=by
 unfold inF
 rw [List.getLast?_cons_cons]
 constructor
 ·rintro ⟨h1,h2,h3⟩; exact ⟨h1 b rfl,h2.1,h2.2,h3⟩
 ·rintro ⟨h1,h2,h3,h4⟩; exact ⟨fun x hx=> by cases hx; exact h1,⟨h2,h3⟩,h4⟩
theorem nq {a:P2}:∀ (ch:List P2),2≤ch.length→Cvx a ch→∀ q,inF a ch q→∀ X Y,(∀ x,x=a∨x∈ch→0≤af X Y x)→0≤af X Y q
 | [b,c],_,K,q,h,X,Y,hx=> by
  have D:0 < af a b c:=(List.pairwise_cons.mp K.tr).1 c (by simp)
  exact jt D ((lO a b c q).mp h) (hx a (.inl rfl)) (hx b (.inr (by simp))) (hx c (.inr (by simp)))
 | b::c::d::r,_,K,q,h,X,Y,hx=> by
  have D:0 < af a b c:=(List.pairwise_cons.mp K.tr).1 c (by simp)
  obtain ⟨h1,h2,h3,h4⟩:=(iU q).mp h
  rcases Int.le_total 0 (af a c q) with z | z
  ·exact nq (c::d::r) (by simp) K.tail q ⟨fun x hx=> by cases hx; exact z,h3,h4⟩ X Y fun x hx'=> hx x (hx'.imp id fun w=> List.mem_cons_of_mem _ w)
  ·have e:af c a q=-af a c q:=by unfold af; grind
   exact jt D ⟨h1,h2,by omega⟩ (hx a (.inl rfl)) (hx b (.inr (by simp))) (hx c (.inr (by simp)))
 | [],h,_,_,_,_,_,_=> by simp at h
 | [_],h,_,_,_,_,_,_=> by simp at h
def nA (a:P2):List P2→Int
 | b::c::r=> af a b c+nA a (c::r)
 | _=> 0
def j5:List P2→Int
 | b::c::r=> gst (b,c)+j5 (c::r)
 | _=> 0
theorem Aj {f g h k:P2→Bool}:∀ W:List P2,(∀ q∈W,(if f q=true then 1 else 0)+(if g q=true then 1 else 0)=(if h q=true then 1 else 0)+(if k q=true then (1:Int) else 0))→(((W.filter f).length:Nat):Int)+((W.filter g).length:Nat)=((W.filter h).length:Nat)+((W.filter k).length:Nat)
 | [],_=> rfl
 | q::W,hq=> by
  have ih:=Aj W fun p hp=> hq p (List.mem_cons_of_mem _ hp)
  have h0:=hq q List.mem_cons_self
  simp only [List.filter_cons]
  split at h0 <;> split at h0 <;> split at h0 <;> split at h0 <;> simp_all <;> omega
theorem qj {A B C:P2} (hD:0 < af A B C) (q:P2):(inT A B C q∧af A C q=0)↔∃ k:Int,0≤k∧k≤gst (A,C)∧q=onS (A,C) k:=by
 have hne:(A,C).1≠(A,C).2:=fun e=> by
  dsimp only at e
  subst e
  have:af A B A=0:=by unfold af; grind
  omega
 have g0:=bT hne
 have mixes:∀ k:Int,gst (A,C) * af A B (onS (A,C) k)=k * af A B C∧gst (A,C) * af B C (onS (A,C) k)=(gst (A,C) - k) * af A B C∧af A C (onS (A,C) k)=0:=fun k=> by
  have m1:=du (A,C) k A B
  have m2:=du (A,C) k B C
  have m3:=du (A,C) k A C
  dsimp only at m1 m2 m3
  have z1:af A B A=0:=by unfold af; grind
  have z2:af B C A=af A B C:=jM A B C
  have z3:af B C C=0:=by unfold af; grind
  have z4:af A C A=0:=by unfold af; grind
  have z5:af A C C=0:=by unfold af; grind
  rw [z1,Int.mul_zero,Int.zero_add] at m1
  rw [z2,z3,Int.mul_zero,Int.add_zero] at m2
  rw [z4,z5,Int.mul_zero,Int.mul_zero,Int.add_zero] at m3
  exact ⟨m1,m2,(Int.mul_eq_zero.mp m3).resolve_left (by omega)⟩
 constructor
 ·rintro ⟨⟨h1,h2,_⟩,h0⟩
  obtain ⟨k,rfl⟩:=iM hne h0
  obtain ⟨m1,m2,_⟩:=mixes k
  refine ⟨k,?_,?_,rfl⟩
  ·have:0≤af A B C * k:=by rw [Int.mul_comm,← m1]; exact Int.mul_nonneg (by omega) h1
   exact aC hD this
  ·have:0≤af A B C * (gst (A,C) - k):=by rw [Int.mul_comm,← m2]; exact Int.mul_nonneg (by omega) h2
   have:=aC hD this
   omega
 ·rintro ⟨k,k0,k1,rfl⟩
  obtain ⟨m1,m2,m3⟩:=mixes k
  refine ⟨⟨aC g0 ?_,aC g0 ?_,?_⟩,m3⟩
  ·rw [m1]; exact Int.mul_nonneg k0 (by omega)
  ·rw [m2]; exact Int.mul_nonneg (by omega) (by omega)
  ·have:af C A (onS (A,C) k)=-af A C (onS (A,C) k):=by unfold af; grind
   omega
open Classical in
theorem mW {a:P2}:∀ (ch:List P2),2≤ch.length→Cvx a ch→∀ {W:List P2},W.Nodup→(∀ p,inF a ch p→p∈W)→∀ b z,ch.head?=some b→ch.getLast?=some z→2 * (((W.filter fun q=> decide (inF a ch q)).length:Nat):Int)=nA a ch+(gst (a,b)+j5 ch+gst (z,a))+2
 | [b,c],_,K,W,hW,hin,b',z',hb,hz=> by
  cases hb
  have hz':c=z':=by simpa using hz
  subst hz'
  have D:0 < af a b c:=(List.pairwise_cons.mp K.tr).1 c (by simp)
  have:=mE D hW (fun p hp=> hin p ((lO a b c p).mpr hp)) (fun q=> decide (inF a [b,c] q)) (fun p=> by rw [decide_eq_true_eq]; exact lO a b c p)
  rw [this]
  unfold nA nA j5 j5
  omega
 | b::c::d::r,_,K,W,hW,hin,b',z',hb,hz=> by
  cases hb
  have D:0 < af a b c:=(List.pairwise_cons.mp K.tr).1 c (by simp)
  rw [List.getLast?_cons_cons] at hz
  have swp:∀ q,af c a q=-af a c q:=fun q=> by unfold af; grind
  have tl:∀ q,inF a (c::d::r) q→inF a (b::c::d::r) q:=fun q h=> by
   have hull:=nq (c::d::r) (by simp) K.tail q h
   refine (iU q).mpr ⟨hull a b fun x hx=> ?_,hull b c fun x hx=> ?_,h.2.1,h.2.2⟩
   ·rcases hx with rfl | hx
    ·have:af x b x=0:=by unfold af; grind
     omega
    ·exact Int.le_of_lt ((List.pairwise_cons.mp K.tr).1 x hx)
   ·exact (K.sd x (hx.imp id fun w=> List.mem_cons_of_mem _ w)).1
  have tt:∀ q,inT a b c q→inF a (b::c::d::r) q:=fun q h=> by
   have bary:∀ X Y,0≤af X Y a→0≤af X Y b→0≤af X Y c→0≤af X Y q:=fun X Y h1 h2 h3=> jt D h h1 h2 h3
   have cov:∀ (ch:List P2),chn ch a→chn ch b→chn ch c→chn ch q:=fun ch=> by
    induction ch with
    | nil=> intros; trivial
    | cons x r ih=>
     cases r with
     | nil=> intros; trivial
     | cons y r=> intro h1 h2 h3; exact ⟨bary x y h1.1 h2.1 h3.1,ih h1.2 h2.2 h3.2⟩
   refine (iU q).mpr ⟨h.1,h.2.1,cov _ (gL (K.sd a (.inl rfl))) (gL (K.sd b (.inr (by simp)))) (gL (K.sd c (.inr (by simp)))),fun z hz=> ?_⟩
   have mz:z∈c::d::r:=List.mem_of_getLast? hz
   refine bary z a ?_ ?_ ?_
   ·have:af z a a=0:=by unfold af; grind
    omega
   ·have e:af z a b=af a b z:=by unfold af; grind
    rw [e]; exact Int.le_of_lt ((List.pairwise_cons.mp K.tr).1 z mz)
   ·have e:af z a c=af a c z:=by unfold af; grind
    rw [e]
    rcases List.mem_cons.mp mz with w | w
    ·rw [w]; have:af a c c=0:=by unfold af; grind
     omega
    ·exact Int.le_of_lt ((List.pairwise_cons.mp K.tail.tr).1 z w)
  have part:∀ q,inF a (b::c::d::r) q→(0≤af a c q→inF a (c::d::r) q)∧(af a c q≤0→inT a b c q):=fun q h=> by
   obtain ⟨h1,h2,h3,h4⟩:=(iU q).mp h
   exact ⟨fun w=> ⟨fun x hx=> by cases hx; exact w,h3,h4⟩,fun w=> ⟨h1,h2,by rw [swp]; omega⟩⟩
  have ih:=mW (c::d::r) (by simp) K.tail hW (fun p hp=> hin p (tl p hp)) c z' rfl hz
  have tp:=mE D hW (fun p hp=> hin p (tt p hp)) (fun q=> decide (inT a b c q)) (fun p=> by rw [decide_eq_true_eq])
  have sg:(((W.filter fun q=> decide (inT a b c q∧af a c q=0)).length:Nat):Int)=gst (a,c)+1:=by
   have hne:(a,c).1≠(a,c).2:=fun e=> by
    dsimp only at e
    subst e
    have:af a b a=0:=by unfold af; grind
    omega
   have g0:=bT hne
   have nd:((List.range ((gst (a,c)).toNat+1)).map fun (k:Nat)=> onS (a,c) (k:Int)).Nodup:=by
    refine List.Pairwise.map _ (fun x y (h:x≠y) e=> h ?_) List.nodup_range
    have:=jm hne e
    omega
   have p:List.Perm (W.filter fun q=> decide (inT a b c q∧af a c q=0)) ((List.range ((gst (a,c)).toNat+1)).map fun (k:Nat)=> onS (a,c) (k:Int)):=(List.perm_ext_iff_of_nodup (hW.filter _) nd).mpr fun p=> by
    rw [List.mem_filter,decide_eq_true_eq,qj D]
    constructor
    ·rintro ⟨_,k,k0,k1,rfl⟩
     exact List.mem_map.mpr ⟨k.toNat,List.mem_range.mpr (by omega),by rw [show ((k.toNat:Nat):Int)=k by omega]⟩
    ·intro hin'
     obtain ⟨k,hk,rfl⟩:=List.mem_map.mp hin'
     have hk':=List.mem_range.mp hk
     have w:∃ j:Int,0≤j∧j≤gst (a,c)∧onS (a,c) (k:Int)=onS (a,c) j:=⟨k,by omega,by omega,rfl⟩
     exact ⟨hin _ (tt _ ((qj D _).mpr w).1),w⟩
   rw [p.length_eq]
   simp only [List.length_map,List.length_range]
   omega
  have four:=Aj (f:=fun q=> decide (inF a (b::c::d::r) q)) (g:=fun q=> decide (inT a b c q∧af a c q=0)) (h:=fun q=> decide (inT a b c q)) (k:=fun q=> decide (inF a (c::d::r) q)) W (fun q _=> by
   simp only [decide_eq_true_eq]
   by_cases hP:inF a (b::c::d::r) q
   ·obtain ⟨p1,p2⟩:=part q hP
    rcases Int.lt_trichotomy (af a c q) 0 with w | w | w
    ·have hT:=p2 (by omega)
     have hN:¬ inF a (c::d::r) q:=fun z=> by have:=z.1 c rfl; omega
     rw [if_pos hP,if_neg (fun z=> by omega),if_pos hT,if_neg hN]
    ·rw [if_pos hP,if_pos ⟨p2 (by omega),w⟩,if_pos (p2 (by omega)),if_pos (p1 (by omega))]
    ·have hN:¬ inT a b c q:=fun z=> by have:=z.2.2; rw [swp] at this; omega
     rw [if_pos hP,if_neg (fun z=> hN z.1),if_neg hN,if_pos (p1 (by omega))]
     rfl
   ·rw [if_neg hP,if_neg (fun z=> hP (tt q z.1)),if_neg (fun z=> hP (tt q z)),if_neg (fun z=> hP (tl q z))])
  have ga:gst (c,a)=gst (a,c):=eK a c
  show 2 * _=(af a b c+nA a (c::d::r))+(gst (a,b)+(gst (b,c)+j5 (c::d::r))+gst (z',a))+2
  omega
 | [],h,_,_,_,_,_,_,_,_=> by simp at h
 | [_],h,_,_,_,_,_,_,_,_=> by simp at h
theorem eU (l:List P2):sdl l=List.zip l (l.drop 1++l.take 1):=by
 have h1:=p_ l
 have h2:=wy l
 have:sdl l=List.zip ((sdl l).map (·.1)) ((sdl l).map (·.2)):=by
  generalize sdl l=s
  induction s with
  | nil=> rfl
  | cons x r ih=> simp only [List.map_cons,List.zip_cons_cons]; rw [← ih]
 rw [h1,h2] at this
 exact this
theorem pJ (q a:P2):∀ (x:P2) (r:List P2),(∀ s∈List.zip (x::r) (r++[a]),0≤af s.1 s.2 q)↔chn (x::r) q∧∀ z,(x::r).getLast?=some z→0≤af z a q
 | x,[]=> by
  constructor
  ·intro h
   exact ⟨trivial,fun z hz=> by cases hz; exact h (x,a) (by simp)⟩
  ·rintro ⟨_,h⟩ s hs
   simp at hs
   rw [hs]; exact h x rfl
 | x,y::r=> by
  rw [List.cons_append,List.zip_cons_cons]
  have ih:=pJ q a y r
  rw [List.getLast?_cons_cons]
  constructor
  ·intro h
   have:=ih.mp fun s hs=> h s (List.mem_cons_of_mem _ hs)
   exact ⟨⟨h (x,y) List.mem_cons_self,this.1⟩,this.2⟩
  ·rintro ⟨⟨h1,h2⟩,h3⟩ s hs
   rcases List.mem_cons.mp hs with e | e
   ·rw [e]; exact h1
   ·exact ih.mpr ⟨h2,h3⟩ s e
theorem lE (a b:P2) (r:List P2) (q:P2):(∀ s∈sdl (a::b::r),0≤af s.1 s.2 q)↔inF a (b::r) q:=by
 rw [eU]
 show (∀ s∈List.zip (a::b::r) ((b::r)++[a]),0≤af s.1 s.2 q)↔_
 rw [pJ,List.getLast?_cons_cons]
 unfold inF
 constructor
 ·rintro ⟨⟨h1,h2⟩,h3⟩; exact ⟨fun x hx=> by cases hx; exact h1,h2,h3⟩
 ·rintro ⟨h1,h2,h3⟩; exact ⟨⟨h1 b rfl,h2⟩,h3⟩
def oC:List P2→Int
 | b::c::r=> crs (b,c)+oC (c::r)
 | _=> 0
theorem p9 (a:P2):∀ (x:P2) (r:List P2) (z:P2),(x::r).getLast?=some z→((List.zip (x::r) (r++[a])).map gst).sum=j5 (x::r)+gst (z,a)
 | x,[],z,hz=> by cases hz; simp [j5]
 | x,y::r,z,hz=> by
  rw [List.getLast?_cons_cons] at hz
  rw [List.cons_append,List.zip_cons_cons,List.map_cons,List.sum_cons,p9 a y r z hz]
  show _=gst (x,y)+j5 (y::r)+gst (z,a)
  omega
theorem qK (a:P2):∀ (x:P2) (r:List P2) (z:P2),(x::r).getLast?=some z→((List.zip (x::r) (r++[a])).map crs).sum=oC (x::r)+crs (z,a)
 | x,[],z,hz=> by cases hz; simp [oC]
 | x,y::r,z,hz=> by
  rw [List.getLast?_cons_cons] at hz
  rw [List.cons_append,List.zip_cons_cons,List.map_cons,List.sum_cons,qK a y r z hz]
  show _=crs (x,y)+oC (y::r)+crs (z,a)
  omega
theorem qF (a:P2):∀ (b:P2) (r:List P2) (z:P2),(b::r).getLast?=some z→nA a (b::r)=crs (a,b)+oC (b::r)+crs (z,a)
 | b,[],z,hz=> by
  cases hz
  show (0:Int)=crs (a,b)+0+crs (b,a)
  unfold crs; grind
 | b,c::r,z,hz=> by
  rw [List.getLast?_cons_cons] at hz
  have ih:=qF a c r z hz
  show af a b c+nA a (c::r)=crs (a,b)+(crs (b,c)+oC (c::r))+crs (z,a)
  rw [ih]
  have e:af a b c=crs (a,b)+crs (b,c) - crs (a,c):=by unfold af crs; grind
  omega
theorem ve (a b:P2) (r:List P2) (z:P2) (hz:(b::r).getLast?=some z):nA a (b::r)=area (a::b::r)∧gst (a,b)+j5 (b::r)+gst (z,a)=je (a::b::r):=by
 have hz':(a::b::r).getLast?=some z:=by rw [List.getLast?_cons_cons]; exact hz
 constructor
 ·rw [qF a b r z hz]
  unfold area
  rw [eU]
  have:=qK a a (b::r) z hz'
  show _=((List.zip (a::b::r) ((b::r)++[a])).map crs).sum
  rw [this]
  show _=crs (a,b)+oC (b::r)+crs (z,a)
  omega
 ·unfold je
  rw [eU]
  have:=p9 a a (b::r) z hz'
  show _=((List.zip (a::b::r) ((b::r)++[a])).map gst).sum
  rw [this]
  show _=gst (a,b)+j5 (b::r)+gst (z,a)
  omega
def xf (a:P2):List P2→Prop
 | b::c::r=> 0 < af a b c∧xf a (c::r)
 | _=> True
theorem tM (a u p q r:P2):af a u q * af a p r=af a u p * af a q r+af a u r * af a p q:=by unfold af; grind
theorem p0 {a u x:P2} (hx:0≤af a u x):∀ (y:P2) (r:List P2),0 < af a x y→xf a (y::r)→(∀ w∈y::r,0 < af a u w)→∀ w∈y::r,0 < af a x w
 | y,[],h,_,_,w,hw=> by rw [List.mem_singleton.mp hw]; exact h
 | y,z::r,h,hc,hu,w,hw=> by
  rcases List.mem_cons.mp hw with e | e
  ·rw [e]; exact h
  ·have hz:0 < af a x z:=by
    have f:=tM a u x y z
    have a1:=Int.mul_nonneg hx (Int.le_of_lt hc.1)
    have a2:=Int.mul_pos (hu z (by simp)) h
    have:0 < af a u y * af a x z:=by omega
    exact Int.pos_of_mul_pos_right this (hu y (by simp))
   exact p0 hx z r hz hc.2 (fun v hv=> hu v (List.mem_cons_of_mem _ hv)) w e
theorem ix {a u:P2}:∀ (ch:List P2),xf a ch→(∀ w∈ch,0≤af a u w)→(∀ w∈ch.tail,0 < af a u w)→ch.Pairwise fun x y=> 0 < af a x y
 | [],_,_,_=> .nil
 | [_],_,_,_=> by simp
 | x::y::r,hc,h0,h1=> by
  refine List.pairwise_cons.mpr ⟨p0 (h0 x (by simp)) y r hc.1 hc.2 h1,?_⟩
  exact ix (y::r) hc.2 (fun w hw=> h0 w (List.mem_cons_of_mem _ hw)) fun w hw=> h1 w (List.mem_cons_of_mem _ hw)
theorem qH {a:P2}:∀ (ch:List P2),(∀ s∈List.zip ch ch.tail,0 < af a s.1 s.2)→xf a ch
 | [],_=> trivial
 | [_],_=> trivial
 | x::y::r,h=> ⟨h (x,y) (by simp),qH (y::r) fun s hs=> h s (by
   show s∈(x,y)::List.zip (y::r) r
   exact List.mem_cons_of_mem _ hs)⟩
theorem qE (a:P2):∀ (ch:List P2),∀ s∈List.zip ch ch.tail,s∈List.zip ch (ch.tail++[a])
 | [],s,h=> by simp at h
 | [x],s,h=> by simp at h
 | x::y::r,s,h=> by
  have h':s∈(x,y)::List.zip (y::r) r:=h
  show s∈(x,y)::List.zip (y::r) (r++[a])
  rcases List.mem_cons.mp h' with e | e
  ·rw [e]; exact List.mem_cons_self
  ·exact List.mem_cons_of_mem _ (qE a (y::r) s e)
theorem u8 {l:List P2} {a b:P2} {r:List P2} (h3:3≤(ak l).length) (e:ak l=a::b::r):Cvx a (b::r):=by
 have nd:=aZ l
 have sides:∀ s∈sdl (a::b::r),∀ x∈a::b::r,0≤af s.1 s.2 x∧(x≠s.1→x≠s.2→0 < af s.1 s.2 x):=fun s hs x hx=> by
  rw [← e] at hs hx
  have c:=br h3 hs x (aN _ x hx)
  refine ⟨c,fun n1 n2=> ?_⟩
  rcases Int.lt_or_eq_of_le c with z | z
  ·exact z
  ·rcases ox h3 hs hx z.symm with w | w
   ·exact absurd w n1
   ·exact absurd w n2
 rw [e] at nd
 have na:∀ x∈b::r,a≠x:=(List.pairwise_cons.mp nd).1
 have sab:(a,b)∈sdl (a::b::r):=by rw [eU]; show (a,b)∈(a,b)::_; simp
 have sch:∀ s∈List.zip (b::r) r,s∈sdl (a::b::r):=fun s hs=> by
  rw [eU]
  show s∈(a,b)::List.zip (b::r) (r++[a])
  exact List.mem_cons_of_mem _ (qE a (b::r) s hs)
 have zm:∀ s∈List.zip (b::r) r,s.1∈b::r∧s.2∈b::r:=fun s hs=> ⟨(List.of_mem_zip hs).1,List.mem_cons_of_mem _ (List.of_mem_zip hs).2⟩
 refine ⟨ix (u:=b) (b::r) (qH _ fun s hs=> ?_) (fun w hw=> ?_) (fun w hw=> ?_),fun x hx=> ?_⟩
 ·have m:=zm s hs
  have:=(sides s (sch s hs) a (by simp)).2 (na _ m.1) (na _ m.2)
  rwa [← jM s.1 s.2 a,← jM] at this
 ·exact (sides _ sab w (List.mem_cons_of_mem _ hw)).1
 ·have hw':w∈r:=hw
  exact (sides _ sab w (by simp [hw'])).2 (fun z=> na w (List.mem_cons_of_mem _ hw') z.symm) (fun z=> by
   have:=(List.pairwise_cons.mp (List.pairwise_cons.mp nd).2).1 w hw'
   exact this z.symm)
 ·have mx:x∈a::b::r:=by
   rcases hx with h | h
   ·rw [h]; simp
   ·exact List.mem_cons_of_mem _ h
  exact ((lE a b r x).mp fun s hs=> (sides s hs x mx).1).2.1
open Classical in
theorem A5 {l:List P2} (h3:3≤(ak l).length) {W:List P2} (hW:W.Nodup) (hin:∀ p,(∀ s∈sdl (ak l),0≤af s.1 s.2 p)→p∈W):2 * (((W.filter fun q=> decide (∀ s∈sdl (ak l),0≤af s.1 s.2 q)).length:Nat):Int)=area (ak l)+je (ak l)+2:=by
 match e:ak l,h3 with
 | a::b::c::r,h3=>
  have K:=u8 (by rw [e]; exact h3) e
  obtain ⟨z,hz⟩:∃ z,(b::c::r).getLast?=some z:=⟨_,List.getLast?_eq_some_getLast (by simp)⟩
  have f:=mW (b::c::r) (by simp) K hW (fun p hp=> hin p (by rw [e]; exact (lE a b (c::r) p).mpr hp)) b z rfl hz
  obtain ⟨s1,s2⟩:=ve a b (c::r) z hz
  rw [s1,s2] at f
  rw [← f]
  congr 3
  refine List.filter_congr fun q _=> ?_
  exact decide_eq_decide.mpr (lE a b (c::r) q)
theorem qd {l:List P2} {k:Int} {i:Nat} (e:k=(i:Int)) (h:i < l.length):atI (l.map pu) k=some (pu (gp l i)):=vO e (by rw [List.getElem?_map,dy h]; rfl)
theorem Szp.mono {m n:Nat} {p:P2} (h:Szp m p) (le:m≤n):Szp n p:=⟨h.1.mono le,h.2.mono le⟩
def prv (l:List P2) (j:Nat):P2:=gp l ((j+l.length - 1) % l.length)
theorem yw {l:List P2} {j:Nat} (h:j < l.length):atI (l.map pu) ((0+(j:Int)) - 1)=some (pu (prv l j)):=by
 unfold prv
 by_cases h0:j=0
 ·subst h0
  rw [show (0+l.length - 1) % l.length=l.length - 1 from by rw [Nat.mod_eq_of_lt] <;> omega]
  exact qy h
 ·rw [show (j+l.length - 1) % l.length=j - 1 from by rw [show j+l.length - 1=(j - 1)+l.length by omega,Nat.add_mod_right,Nat.mod_eq_of_lt (by omega)]]
  exact qd (by omega) (by omega)
theorem wN {l:List P2} {j:Nat} (h:j < l.length):prv l j∈l:=ff (Nat.mod_lt _ (by omega))
theorem tG {l:List P2} {j:Nat} (h:j < l.length):(prv l j,gp l j)∈sdl l:=by
 have hi:(j+l.length - 1) % l.length < l.length:=Nat.mod_lt _ (by omega)
 refine List.mem_map.mpr ⟨(j+l.length - 1) % l.length,List.mem_range.mpr hi,?_⟩
 unfold prv nxt
 congr 2
 by_cases h0:j=0
 ·subst h0
  rw [show (0+l.length - 1) % l.length=l.length - 1 from by rw [Nat.mod_eq_of_lt] <;> omega,show l.length - 1+1=l.length by omega,Nat.mod_self]
 ·rw [show (j+l.length - 1) % l.length=j - 1 from by rw [show j+l.length - 1=(j - 1)+l.length by omega,Nat.add_mod_right,Nat.mod_eq_of_lt (by omega)],show j - 1+1=j by omega,Nat.mod_eq_of_lt h]
theorem t9 {l:List P2} {s:P2×P2} (hs:s∈sdl l):∃ j,j < l.length∧s=(prv l j,gp l j):=by
 obtain ⟨i,hi,rfl⟩:=List.mem_map.mp hs
 have hi':=List.mem_range.mp hi
 refine ⟨(i+1) % l.length,Nat.mod_lt _ (by omega),?_⟩
 unfold prv nxt
 congr 2
 by_cases hk:i+1 < l.length
 ·rw [Nat.mod_eq_of_lt hk,show i+1+l.length - 1=i+l.length by omega,Nat.add_mod_right,Nat.mod_eq_of_lt hi']
 ·rw [show i+1=l.length by omega,Nat.mod_self,show 0+l.length - 1=i by omega,Nat.mod_eq_of_lt hi']
def pvl (l:List P2):List (P2×P2):=(List.range l.length).map fun j=> (prv l j,gp l j)
theorem eX {l:List P2} (s:P2×P2):s∈pvl l↔s∈sdl l:=by
 constructor
 ·intro h
  obtain ⟨j,hj,rfl⟩:=List.mem_map.mp h
  exact tG (List.mem_range.mp hj)
 ·intro h
  obtain ⟨j,hj,rfl⟩:=t9 h
  exact List.mem_map.mpr ⟨j,List.mem_range.mpr hj,rfl⟩
theorem wL (Z P B q:P2) (a b:Int):af Z P B * (wth a b q - wth a b P)=-(af P B q * (wth a b P - wth a b Z)) - af Z P q * (wth a b P - wth a b B):=by unfold af wth; grind
theorem wQ {l:List P2} (h3:3≤(ak l).length) (a b:Int):∃ Z P B,(Z,P)∈sdl (ak l)∧(P,B)∈sdl (ak l)∧0 < af Z P B∧wth a b P=hiW a b (ak l)∧wth a b Z≤wth a b P∧wth a b B≤wth a b P:=by
 obtain ⟨⟨P,hP,e⟩,k⟩:=uP a b (l:=ak l) (fun z=> by rw [z] at h3; simp at h3)
 obtain ⟨Z,hZ⟩:=mJ hP
 obtain ⟨B,hB,pos⟩:=dB h3 hZ
 refine ⟨Z,P,B,hZ,hB,pos,e,?_,?_⟩
 ·rw [e]; exact k Z (bj hZ).1
 ·rw [e]; exact k B (bj hB).2
theorem A7 {l:List P2} (h3:3≤(ak l).length) (a b:Int) {q:P2} (hq:∀ s∈sdl (ak l),0≤af s.1 s.2 q):wth a b q≤hiW a b (ak l):=by
 obtain ⟨Z,P,B,hZ,hB,pos,e,k1,k2⟩:=wQ h3 a b
 rw [← e]
 have i1:0≤af P B q * (wth a b P - wth a b Z):=Int.mul_nonneg (hq _ hB) (by omega)
 have i2:0≤af Z P q * (wth a b P - wth a b B):=Int.mul_nonneg (hq _ hZ) (by omega)
 have pe:=wL Z P B q a b
 rcases Int.lt_or_le (wth a b P) (wth a b q) with h | h
 ·have:=Int.mul_pos pos (show 0 < wth a b q - wth a b P by omega)
  omega
 ·exact h
def j3 (l:List P2):Int:=if l.length < 3 then gst (gp l 0,gp l (l.length - 1))+1 else je l
def plc (l:List P2) (p:P2):Int:=if ∃ s∈pvl l,af s.1 s.2 p < 0 then -1 else if ∃ s∈pvl l,af s.1 s.2 p=0 then 0 else 1
def gJ (a:Int) (n:Nat):List Int:=(List.range n).map fun (i:Nat)=> a+(i:Int)
def il (x:Int) (n:Nat) (y:Int) (m:Nat):List P2:=((gJ x n).map fun a=> (gJ y m).map fun b=> (a,b)).flatten
theorem eF {a:Int} {n:Nat} {x:Int}:x∈gJ a n↔a≤x∧x < a+n:=by
 unfold gJ
 rw [List.mem_map]
 constructor
 ·rintro ⟨i,hi,rfl⟩
  have:=List.mem_range.mp hi
  omega
 ·rintro ⟨h1,h2⟩
  exact ⟨(x - a).toNat,List.mem_range.mpr (by omega),by omega⟩
theorem lh (a:Int) (n:Nat):(gJ a n).Nodup:=by
 unfold gJ
 exact List.Pairwise.map _ (fun i j (h:i≠j) e=> h (by omega)) List.nodup_range
theorem vG {x y:Int} {n m:Nat} {p:P2}:p∈il x n y m↔(x≤p.1∧p.1 < x+n)∧y≤p.2∧p.2 < y+m:=by
 unfold il
 rw [List.mem_flatten]
 constructor
 ·rintro ⟨q,hq,hp⟩
  obtain ⟨a,ha,rfl⟩:=List.mem_map.mp hq
  obtain ⟨b,hb,rfl⟩:=List.mem_map.mp hp
  exact ⟨eF.mp ha,eF.mp hb⟩
 ·rintro ⟨h1,h2⟩
  exact ⟨_,List.mem_map.mpr ⟨p.1,eF.mpr h1,rfl⟩,List.mem_map.mpr ⟨p.2,eF.mpr h2,rfl⟩⟩
theorem iN (x:Int) (n:Nat) (y:Int) (m:Nat):(il x n y m).Nodup:=by
 unfold il
 refine List.pairwise_flatten.mpr ⟨fun q hq=> ?_,?_⟩
 ·obtain ⟨a,_,rfl⟩:=List.mem_map.mp hq
  exact List.Pairwise.map _ (fun i j (h:i≠j) e=> h (congrArg Prod.snd e)) (lh y m)
 ·refine List.pairwise_map.mpr ((lh x n).imp fun {a b} h p hp q hq e=> ?_)
  obtain ⟨_,_,rfl⟩:=List.mem_map.mp hp
  obtain ⟨_,_,rfl⟩:=List.mem_map.mp hq
  exact h (congrArg Prod.fst e)
def iH (l W:List P2) (w:Int):Int:=((W.filter fun p=> decide (plc l p=w)).length:Nat)
def loX (l:List P2):Int:=lc (l.map (·.1))
def hiX (l:List P2):Int:=hiL (l.map (·.1))
def loY (l:List P2):Int:=lc (l.map (·.2))
def hiY (l:List P2):Int:=hiL (l.map (·.2))
theorem cC {l:List Int} (h:l≠[]):hiL l∈l∧∀ a∈l,a≤hiL l:=by
 cases l with
 | nil=> exact absurd rfl h
 | cons a l=> exact ⟨d6 l a,e_ l a⟩
def bxN (l:List P2):Nat:=(hiX l+1 - loX l).toNat
def byN (l:List P2):Nat:=(hiY l+1 - loY l).toNat
def box (l:List P2):List P2:=il (loX l) (bxN l) (loY l) (byN l)
theorem e6 {l:List P2} (hne:l≠[]) {p:P2}:p∈box l↔(loX l≤p.1∧p.1≤hiX l)∧loY l≤p.2∧p.2≤hiY l:=by
 unfold box bxN byN
 rw [vG]
 omega
theorem tm (l:List P2) (p:P2):plc l p=-1∨plc l p=0∨plc l p=1:=by
 unfold plc; split
 ·exact .inl rfl
 ·split
  ·exact .inr (.inl rfl)
  ·exact .inr (.inr rfl)
theorem iQ {l:List P2} {p:P2}:plc l p=-1↔¬ ∀ s∈sdl l,0≤af s.1 s.2 p:=by
 unfold plc
 constructor
 ·intro h hall
  split at h
  ·rename_i k
   obtain ⟨s,hs,h0⟩:=k
   have:=hall s ((eX s).mp hs)
   omega
  ·split at h <;> simp at h
 ·intro h
  rw [if_pos]
  rcases Classical.em (∃ s∈pvl l,af s.1 s.2 p < 0) with k | k
  ·exact k
  ·exfalso
   refine h fun s hs=> ?_
   rcases Int.lt_or_le (af s.1 s.2 p) 0 with z | z
   ·exact absurd ⟨s,(eX s).mpr hs,z⟩ k
   ·exact z
theorem nL {l:List P2} {p:P2}:plc l p=0↔bdr l p:=by
 constructor
 ·intro h
  have hn:∀ s∈sdl l,0≤af s.1 s.2 p:=by
   rcases Classical.em (∀ s∈sdl l,0≤af s.1 s.2 p) with k | k
   ·exact k
   ·rw [iQ.mpr k] at h; cases h
  refine ⟨hn,?_⟩
  unfold plc at h
  split at h
  ·cases h
  ·split at h
   ·rename_i k
    obtain ⟨s,hs,h0⟩:=k
    exact ⟨s,(eX s).mp hs,h0⟩
   ·cases h
 ·rintro ⟨h1,s,hs,h0⟩
  unfold plc
  rw [if_neg (fun ⟨t,ht,k⟩=> by have:=h1 t ((eX t).mp ht); omega),if_pos ⟨s,(eX s).mpr hs,h0⟩]
theorem dQ {A B:List P2} (hA:A.Nodup) (hB:B.Nodup) (h:∀ p,p∈A↔p∈B):A.length=B.length:=((List.perm_ext_iff_of_nodup hA hB).mpr h).length_eq
theorem cX {W:List P2} (h:W.Nodup) (f:P2→Bool):(W.filter f).Nodup:=List.Pairwise.filter f h
open Classical in
theorem kj (l W:List P2):iH l W 0+iH l W 1=((W.filter fun q=> decide (∀ s∈sdl l,0≤af s.1 s.2 q)).length:Nat):=by
 unfold iH
 induction W with
 | nil=> rfl
 | cons p W ih=>
  have hv:=tm l p
  by_cases hn:plc l p=-1
  ·have h2:¬ ∀ s∈sdl l,0≤af s.1 s.2 p:=iQ.mp hn
   rw [List.filter_cons_of_neg (by rw [hn]; decide),List.filter_cons_of_neg (by rw [hn]; decide),List.filter_cons_of_neg (by rw [decide_eq_false h2]; decide)]
   exact ih
  ·have h2:∀ s∈sdl l,0≤af s.1 s.2 p:=Classical.byContradiction fun k=> hn (iQ.mpr k)
   rcases hv with h | h | h
   ·exact absurd h hn
   ·rw [List.filter_cons_of_pos (by rw [h]; decide),List.filter_cons_of_neg (by rw [h]; decide),List.filter_cons_of_pos (by rw [decide_eq_true h2])]
    simp only [List.length_cons]; omega
   ·rw [List.filter_cons_of_neg (by rw [h]; decide),List.filter_cons_of_pos (by rw [h]; decide),List.filter_cons_of_pos (by rw [decide_eq_true h2])]
    simp only [List.length_cons]; omega
theorem gZ {l:List P2} (h3:3≤(ak l).length) {p:P2} (h:∀ s∈sdl (ak l),0≤af s.1 s.2 p):p∈box (ak l):=by
 have hne:ak l≠[]:=fun z=> by rw [z] at h3; simp at h3
 have key:∀ a b:Int,∃ q∈ak l,wth a b p≤wth a b q:=fun a b=> by
  obtain ⟨⟨q,hq,e⟩,_⟩:=uP a b hne
  exact ⟨q,hq,by rw [e]; exact A7 h3 a b h⟩
 have hx:(ak l).map (·.1)≠[]:=by simpa using hne
 have hy:(ak l).map (·.2)≠[]:=by simpa using hne
 obtain ⟨q1,m1,k1⟩:=key 1 0
 obtain ⟨q2,m2,k2⟩:=key (-1) 0
 obtain ⟨q3,m3,k3⟩:=key 0 1
 obtain ⟨q4,m4,k4⟩:=key 0 (-1)
 have a1:=(cC hx).2 q1.1 (List.mem_map_of_mem m1)
 have a2:=(bU hx).2 q2.1 (List.mem_map_of_mem m2)
 have a3:=(cC hy).2 q3.2 (List.mem_map_of_mem m3)
 have a4:=(bU hy).2 q4.2 (List.mem_map_of_mem m4)
 unfold wth at k1 k2 k3 k4
 rw [e6 hne]
 unfold loX hiX loY hiY
 omega
theorem Aw {l:List P2} (h3:3≤(ak l).length):iH (ak l) (box (ak l)) 0+iH (ak l) (box (ak l)) 1=pin (ak l)+j3 (ak l)∧iH (ak l) (box (ak l)) 1=pin (ak l):=by
 have nd:=iN (loX (ak l)) (bxN (ak l)) (loY (ak l)) (byN (ak l))
 have P:=A5 h3 (W:=box (ak l)) nd fun p hp=> gZ h3 hp
 rw [← kj] at P
 have Z:iH (ak l) (box (ak l)) 0=je (ak l):=by
  rw [← wZ]
  unfold iH
  congr 1
  refine dQ (cX nd _) (rH h3) fun p=> ?_
  rw [List.mem_filter,decide_eq_true_eq,nL]
  constructor
  ·rintro ⟨_,h⟩; exact wU h3 h
  ·intro h
   have b:=xH h3 h
   exact ⟨gZ h3 b.1,b⟩
 have e1:j3 (ak l)=je (ak l):=by unfold j3; rw [if_neg (by omega)]
 have e2:pin (ak l)=(area (ak l) - je (ak l)+2) / 2:=by unfold pin; rw [if_neg (by omega)]
 rw [e1,e2]
 omega
theorem kR (A:P2):box [A]=[A]:=by
 have h:∀ p,p∈box [A]↔p∈[A]:=fun p=> by
  rw [e6 (by simp),List.mem_singleton]
  unfold loX hiX loY hiY lc hiL
  simp only [List.map_cons,List.map_nil,List.foldl_nil]
  constructor
  ·intro h; exact Prod.ext (by omega) (by omega)
  ·rintro rfl; omega
 have hp:=(List.perm_ext_iff_of_nodup (iN _ _ _ _) (by simp:[A].Nodup)).mpr h
 exact List.perm_singleton.mp hp
theorem gW {A B p:P2} (h:ST.ltP A B=true):(p∈box [A,B]∧af A B p=0)↔∃ k:Int,0≤k∧k≤gst (A,B)∧p=onS (A,B) k:=by
 rw [← iP h,e6 (by simp)]
 have lt:=h
 unfold ST.ltP at lt
 have lt:=of_decide_eq_true lt
 have e1:loX [A,B]=A.1:=by show min A.1 B.1=A.1; omega
 have e2:hiX [A,B]=B.1:=by show max A.1 B.1=B.1; omega
 have e3:loY [A,B]=min A.2 B.2:=rfl
 have e4:hiY [A,B]=max A.2 B.2:=rfl
 rw [e1,e2,e3,e4]
 unfold ST.leP
 rw [decide_eq_true_eq,decide_eq_true_eq]
 constructor
 ·rintro ⟨⟨⟨a1,a2⟩,b1,b2⟩,d⟩
  refine ⟨d,?_,?_⟩
  ·rcases Int.lt_or_eq_of_le a1 with z | z
   ·exact .inl z
   ·right
    refine ⟨z,?_⟩
    rcases lt with w | ⟨w,w'⟩
    ·unfold af at d
     rw [← z,Int.sub_self,Int.mul_zero,Int.sub_zero] at d
     have:=(Int.mul_eq_zero.mp d).resolve_left (by omega)
     omega
    ·omega
  ·rcases Int.lt_or_eq_of_le a2 with z | z
   ·exact .inl z
   ·right
    refine ⟨z,?_⟩
    rcases lt with w | ⟨w,w'⟩
    ·have d':(B.1 - A.1) * (p.2 - B.2)=0:=by
      have:af A B p=(B.1 - A.1) * (p.2 - B.2):=by unfold af; rw [z]; grind
      omega
     have:=(Int.mul_eq_zero.mp d').resolve_left (by omega)
     omega
    ·omega
 ·rintro ⟨d,a,b⟩
  refine ⟨⟨⟨by omega,by omega⟩,?_⟩,d⟩
  rcases lt with w | ⟨w,w'⟩
  ·have hd:(B.1 - A.1) * (p.2 - A.2)=(B.2 - A.2) * (p.1 - A.1):=by unfold af at d; omega
   have hd':(B.1 - A.1) * (B.2 - p.2)=(B.2 - A.2) * (B.1 - p.1):=by grind
   rcases Int.le_total A.2 B.2 with u | u
   ·have x1:=Int.mul_nonneg (show 0≤B.2 - A.2 by omega) (show 0≤p.1 - A.1 by omega)
    have x2:=Int.mul_nonneg (show 0≤B.2 - A.2 by omega) (show 0≤B.1 - p.1 by omega)
    rw [← hd] at x1
    rw [← hd'] at x2
    have y1:=aC (by omega) x1
    have y2:=aC (by omega) x2
    omega
   ·have x1:=Int.mul_nonneg (show 0≤A.2 - B.2 by omega) (show 0≤p.1 - A.1 by omega)
    have x2:=Int.mul_nonneg (show 0≤A.2 - B.2 by omega) (show 0≤B.1 - p.1 by omega)
    have f1:(A.2 - B.2) * (p.1 - A.1)=(B.1 - A.1) * (A.2 - p.2):=by grind
    have f2:(A.2 - B.2) * (B.1 - p.1)=(B.1 - A.1) * (p.2 - B.2):=by grind
    rw [f1] at x1
    rw [f2] at x2
    have y1:=aC (by omega) x1
    have y2:=aC (by omega) x2
    omega
  ·omega
theorem iZ (A B:P2):sdl [A,B]=[(A,B),(B,A)]:=by
 unfold sdl nxt
 simp [List.range_succ]
theorem k_ {A B p:P2}:(plc [A,B] p=0↔af A B p=0)∧plc [A,B] p≠1:=by
 have sw:af B A p=-af A B p:=by unfold af; grind
 have z:plc [A,B] p=0↔af A B p=0:=by
  rw [nL]
  unfold bdr
  rw [iZ]
  constructor
  ·rintro ⟨h,_⟩
   have h1:0≤af A B p:=h (A,B) (by simp)
   have h2:0≤af B A p:=h (B,A) (by simp)
   omega
  ·intro h
   refine ⟨fun s hs=> ?_,(A,B),by simp,h⟩
   simp at hs
   rcases hs with rfl | rfl
   ·show 0≤af A B p; omega
   ·show 0≤af B A p; omega
 refine ⟨z,fun h=> ?_⟩
 by_cases hd:af A B p=0
 ·rw [z.mpr hd] at h; cases h
 ·have:plc [A,B] p=-1:=by
   rw [iQ,iZ]
   intro k
   have h1:0≤af A B p:=k (A,B) (by simp)
   have h2:0≤af B A p:=k (B,A) (by simp)
   omega
  rw [this] at h; cases h
theorem zV {A B:P2} (h:ST.ltP A B=true):iH [A,B] (box [A,B]) 0=gst (A,B)+1∧iH [A,B] (box [A,B]) 1=0:=by
 have hne:(A,B).1≠(A,B).2:=fun e=> by
  dsimp only at e
  subst e
  unfold ST.ltP at h
  simp at h
 have g0:=bT hne
 unfold iH
 constructor
 ·have e:((box [A,B]).filter fun p=> decide (plc [A,B] p=0)).length=((List.range ((gst (A,B)).toNat+1)).map fun (k:Nat)=> onS (A,B) (k:Int)).length:=by
   refine dQ (cX (iN _ _ _ _) _) ?_ fun p=> ?_
   ·exact List.Pairwise.map _ (fun i j (h:i≠j) e=> h (by have:=jm hne e; omega)) List.nodup_range
   ·rw [List.mem_filter,decide_eq_true_eq,k_.1,gW h,List.mem_map]
    constructor
    ·rintro ⟨k,k0,k1,rfl⟩
     exact ⟨k.toNat,List.mem_range.mpr (by omega),by rw [show ((k.toNat:Nat):Int)=k by omega]⟩
    ·rintro ⟨k,hk,rfl⟩
     have:=List.mem_range.mp hk
     exact ⟨k,by omega,by omega,rfl⟩
  rw [e,List.length_map,List.length_range]
  omega
 ·have:(box [A,B]).filter (fun p=> decide (plc [A,B] p=1))=[]:=List.filter_eq_nil_iff.mpr fun p _=> by
   rw [decide_eq_true_eq]; exact k_.2
  rw [this]; rfl
theorem sE {A B:P2} (h:ak [A,B]=[A,B]):ST.ltP A B=true:=by
 have nd:[A,B].Nodup:=by rw [← h]; exact aZ _
 have ne:A≠B:=by simpa using nd
 have asc:=ST.srt_asc [A,B]
 have hm:=fun z=> ST.srt_mem z [A,B]
 match e:ST.srt [A,B],asc,hm with
 | [],_,hm=> have:=(hm A).mpr (by simp); simp at this
 | [X],_,hm=>
  have a:=(hm A).mpr (by simp)
  have b:=(hm B).mpr (by simp)
  rw [List.mem_singleton] at a b
  exact absurd (a.trans b.symm) ne
 | X::Y::[],asc,_=>
  have c:ak [A,B]=[X,Y]:=by unfold ak; rw [e]; simp [aj,aR]
  rw [h] at c
  injection c with c1 c2
  injection c2 with c2 _
  subst c1 c2
  exact (List.pairwise_cons.mp asc).1 _ (by simp)
 | X::Y::Z::r,_,_=>
  have:=ST.srt_len [A,B]
  rw [e] at this
  simp at this
def jJ (l:List P2):Int:=pin l+j3 l
def TP:List P2→Prop
 | []=> True
 | a::v=> (v.Pairwise fun x y=> 0 < af a x y)∧TP v
section
variable {l:List P2} (R:∀ s∈sdl l,∀ w∈l,w≠s.1→w≠s.2→0 < af s.1 s.2 w) (nd:l.Nodup)
include R nd
end
theorem wo (f:P2→P2) (l:List P2):sdl (l.map f)=(sdl l).map fun s=> (f s.1,f s.2):=by
 rw [eU,eU,← List.map_drop,← List.map_take,← List.map_append]
 generalize l.drop 1++l.take 1=m
 induction l generalizing m with
 | nil=> rfl
 | cons a l ih=>
  cases m with
  | nil=> simp
  | cons b m=> simp only [List.map_cons,List.zip_cons_cons]; rw [ih]
theorem kq {a b:P2} (h:ST.ltP a b=true):ak [a,b]=[a,b]:=by
 have e:ST.srt [a,b]=[a,b]:=ST.asc_srt (by simp [ST.Asc,h])
 unfold ak
 rw [e]
 simp [aj,aR]
end
section
variable {P:Program} {w:World} {K:PySem.W.Frag} {mg:Str→Option Value} {base:Heap}
def cJ (l:List P2) (p:P2):Bool:=if l.length=1 then decide (p=gp l 0) else if l.length=2 then (decide (af (gp l 0) (gp l 1) p=0) && (ST.leP (gp l 0) p && ST.leP p (gp l 1))) else (sdl l).all fun s=> decide (0≤af s.1 s.2 p)
theorem gE {l:List P2} (h3:3≤l.length) (p:P2):cJ l p=true↔∀ s∈sdl l,0≤af s.1 s.2 p:=by
 unfold cJ
 rw [if_neg (by omega),if_neg (by omega),List.all_eq_true]
 simp only [decide_eq_true_eq]
theorem lm (A B p:P2):cJ [A,B] p=true↔af A B p=0∧ST.leP A p=true∧ST.leP p B=true:=by
 unfold cJ
 rw [if_neg (by simp),if_pos (by simp),Bool.and_eq_true,Bool.and_eq_true,decide_eq_true_eq]
 rfl
theorem ig (A p:P2):cJ [A] p=true↔p=A:=by
 unfold cJ
 rw [if_pos (by simp),decide_eq_true_eq]; rfl
section
variable {l:List P2} (h3:3≤(ak l).length)
include h3
end
theorem xL (A:P2):sdl [A]=[(A,A)]:=by
 unfold sdl nxt
 simp [List.range_succ]
theorem zb {A B:P2} (h:ST.ltP A B=true):A.1 < B.1∨(A.1=B.1∧A.2 < B.2):=by
 unfold ST.ltP at h
 exact of_decide_eq_true h
theorem uX {A B:P2} (h:ST.ltP A B=true):loX [A,B]=A.1∧hiX [A,B]=B.1∧loY [A,B]=min A.2 B.2∧hiY [A,B]=max A.2 B.2:=by
 have:=zb h
 exact ⟨(by show min A.1 B.1=A.1; omega),(by show max A.1 B.1=B.1; omega),rfl,rfl⟩
theorem wq {A B:P2} (h:ST.ltP A B=true) {p:P2} (hp:cJ [A,B] p=true):p∈box [A,B]:=by
 have:=(lm A B p).mp hp
 exact ((gW h).mpr ((iP h).mp this)).1
structure Fld (l:List P2):Prop where
 ne:l≠[]
 cr:ak l=l
theorem Fld.cases {l:List P2} (F:Fld l):(∃ A,l=[A])∨(∃ A B,l=[A,B]∧ST.ltP A B=true)∨3≤(ak l).length:=by
 match l,F with
 | [],F=> exact absurd rfl F.ne
 | [A],_=> exact .inl ⟨A,rfl⟩
 | [A,B],F=> exact .inr (.inl ⟨A,B,rfl,sE F.cr⟩)
 | A::B::C::r,F=> exact .inr (.inr (by rw [F.cr]; simp))
theorem Fld.in_box {l:List P2} (F:Fld l) {p:P2} (h:cJ l p=true):p∈box l:=by
 rcases F.cases with ⟨A,rfl⟩ | ⟨A,B,rfl,lt⟩ | h3
 ·rw [(ig A p).mp h,kR]; simp
 ·exact wq lt h
 ·rw [← F.cr] at h ⊢
  exact gZ h3 ((gE h3 p).mp h)
def shf (s a b:Int) (p:P2):P2:=(p.1+a,p.2+s * p.1+b)
theorem xF (s a b:Int) (p q:P2) (h:plt p q):plt (shf s a b p) (shf s a b q):=by
 unfold plt shf at *
 dsimp only
 rcases h with h | ⟨h,k⟩
 ·left; omega
 ·right; rw [h]; omega
theorem kS (s a b:Int) (p q r:P2):af (shf s a b p) (shf s a b q) (shf s a b r)=af p q r:=by unfold af shf; grind
theorem wC {s a b:Int} {p q:P2} (e:shf s a b p=shf s a b q):p=q:=by
 have e1:p.1+a=q.1+a:=congrArg Prod.fst e
 have e2:p.2+s * p.1+b=q.2+s * q.1+b:=congrArg Prod.snd e
 have e1:p.1=q.1:=by omega
 rw [e1] at e2
 exact Prod.ext e1 (by omega)
theorem mG (s a b:Int) (l:List P2):ak (l.map (shf s a b))=(ak l).map (shf s a b):=tf (xF s a b) (fun p q r=> by rw [kS]) l
theorem p4 (s a b:Int) (p q:P2):ST.leP (shf s a b p) (shf s a b q)=ST.leP p q:=by
 unfold ST.leP shf
 dsimp only
 rw [Bool.eq_iff_iff,decide_eq_true_eq,decide_eq_true_eq]
 constructor
 ·rintro (h | ⟨h,k⟩)
  ·left; omega
  ·right
   have:p.1=q.1:=by omega
   rw [this] at k
   omega
 ·rintro (h | ⟨h,k⟩)
  ·left; omega
  ·right; rw [h]; omega
theorem n5 {f:P2→P2} {l:List P2} {i:Nat} (h:i < l.length):gp (l.map f) i=f (gp l i):=by simp [gp,h]
theorem yN (s a b:Int) (l:List P2) (hne:l≠[]) (p:P2):cJ (l.map (shf s a b)) (shf s a b p)=cJ l p:=by
 have h0:0 < l.length:=List.length_pos_iff.mpr hne
 unfold cJ
 rw [List.length_map]
 by_cases h1:l.length=1
 ·rw [if_pos h1,if_pos h1,n5 h0]
  exact decide_eq_decide.mpr ⟨wC,fun e=> by rw [e]⟩
 ·rw [if_neg h1,if_neg h1]
  by_cases h2:l.length=2
  ·rw [if_pos h2,if_pos h2,n5 h0,n5 (show 1 < l.length by omega),kS,p4,p4]
  ·rw [if_neg h2,if_neg h2,wo,List.all_map]
   congr 1
   funext t
   show decide (0≤af (shf s a b t.1) (shf s a b t.2) (shf s a b p))=_
   rw [kS]
theorem r8 {pts:List P2} (hne:pts≠[]):∃ mn mx,(ak pts)[0]?=some mn∧mn∈pts∧mx∈pts∧(∀ q∈pts,ST.ltP q mn=false)∧(∀ q∈pts,ST.ltP mx q=false)∧(¬ 2 < (ak pts).length→(ak pts)[(ak pts).length - 1]?=some mx):=by
 have no:∀ {a b:P2},(a=b∨plt a b)→ST.ltP b a=false:=fun {a b} h=> by
  rw [ST.ltP_no]
  rcases h with rfl | h
  ·omega
  ·unfold plt at h; omega
 by_cases h2:2≤(ST.srt pts).length
 ·have hs:=dz pts
  obtain ⟨mn,mx,W⟩:=Al hs h2
  have hc:ak pts=(aj (ST.srt pts)).reverse.dropLast++(aj (ST.srt pts).reverse).reverse.dropLast:=by
   unfold ak; rw [if_neg (by omega)]
  have memT:mn∈ST.srt pts:=bI _ _ (List.mem_reverse.mp (List.mem_of_getElem? W.t0))
  have memX:mx∈ST.srt pts:=bI _ _ (List.mem_reverse.mp (List.mem_of_getElem? W.t1))
  refine ⟨mn,mx,?_,(ST.srt_mem _ _).mp memT,(ST.srt_mem _ _).mp memX,fun q hq=> no ((W.least q ((ST.srt_mem _ _).mpr hq)).imp (fun e=> e.symm) id),fun q hq=> no (W.most q ((ST.srt_mem _ _).mpr hq)),fun h=> ?_⟩
  ·have:=dS W (k:=0) (by omega)
   rw [Nat.zero_mod] at this
   rw [hc,this]; exact W.t0
  ·rw [hc] at h ⊢
   have h1:=W.lt
   have h3:=W.lb
   have hn:((aj (ST.srt pts)).reverse.dropLast++(aj (ST.srt pts).reverse).reverse.dropLast).length=(aj (ST.srt pts)).reverse.length - 1+((aj (ST.srt pts).reverse).reverse.length - 1):=by simp
   have:=dS W (k:=(aj (ST.srt pts)).reverse.length - 1) (Nat.le_refl _)
   rw [W.t1,Nat.mod_eq_of_lt (by omega)] at this
   rw [← this]; congr 1; omega
 ·have h1:(ST.srt pts).length=1:=by
   obtain ⟨x,hx⟩:=List.exists_mem_of_ne_nil pts hne
   have:=List.length_pos_of_mem ((ST.srt_mem x pts).mpr hx)
   omega
  obtain ⟨x,hx⟩:=List.length_eq_one_iff.mp h1
  have all:∀ q∈pts,q=x:=fun q hq=> by have:=(ST.srt_mem q pts).mpr hq; rw [hx] at this; simpa using this
  have mx:x∈pts:=(ST.srt_mem _ _).mp (by rw [hx]; simp)
  rw [dJ h2,hx]
  exact ⟨x,x,rfl,mx,mx,fun q hq=> no (.inl (all q hq).symm),fun q hq=> no (.inl (all q hq)),fun _=> rfl⟩
theorem qL {f:P2→P2} {d:Int} (L:Lin f d) (A B:P2):gst (f A,f B)=gst (A,B):=by
 have:=we L (A,B)
 unfold sdf at this
 split at this
 ·exact this
 ·rw [← eK]; exact this
theorem uI {f:P2→P2} {d:Int} (L:Lin f d) {A B:P2} (h:A≠B) (k:Int):onS (f A,f B) k=f (onS (A,B) k):=by
 have g0:0 < gst (A,B):=bT h
 have e1:=fH (A,B)
 have e2:=fM (A,B)
 have eg:=qL L A B
 obtain ⟨a,b,c,e,_,hf⟩:=L.ex
 have u1:ub (f A,f B)=a * ub (A,B)+b * vb (A,B):=by
  unfold ub
  rw [eg]
  dsimp only at *
  rw [hf,hf]
  dsimp only
  rw [show a * B.1+b * B.2 - (a * A.1+b * A.2)=gst (A,B) * (a * ub (A,B)+b * vb (A,B)) by
   have:a * B.1+b * B.2 - (a * A.1+b * A.2)=a * (B.1 - A.1)+b * (B.2 - A.2):=by grind
   rw [this,e1,e2]; grind]
  rw [Int.mul_ediv_cancel_left _ (by omega)]
  rfl
 have v1:vb (f A,f B)=c * ub (A,B)+e * vb (A,B):=by
  unfold vb
  rw [eg]
  dsimp only at *
  rw [hf,hf]
  dsimp only
  rw [show c * B.1+e * B.2 - (c * A.1+e * A.2)=gst (A,B) * (c * ub (A,B)+e * vb (A,B)) by
   have:c * B.1+e * B.2 - (c * A.1+e * A.2)=c * (B.1 - A.1)+e * (B.2 - A.2):=by grind
   rw [this,e1,e2]; grind]
  rw [Int.mul_ediv_cancel_left _ (by omega)]
  rfl
 unfold onS
 rw [u1,v1]
 dsimp only
 rw [hf,hf]
 dsimp only
 exact Prod.ext (by dsimp only; grind) (by dsimp only; grind)
theorem wg {A B:P2} (h:A≠B) (k:Int):onS (B,A) k=onS (A,B) (gst (A,B) - k):=by
 have e1:=fH (A,B)
 have e2:=fM (A,B)
 have e3:=fH (B,A)
 have e4:=fM (B,A)
 have g0:0 < gst (A,B):=bT h
 rw [eK] at e3 e4
 dsimp only at *
 have u:ub (B,A)=-ub (A,B):=Int.eq_of_mul_eq_mul_left (a:=gst (A,B)) (by omega) (by rw [Int.mul_neg]; omega)
 have v:vb (B,A)=-vb (A,B):=Int.eq_of_mul_eq_mul_left (a:=gst (A,B)) (by omega) (by rw [Int.mul_neg]; omega)
 unfold onS
 rw [u,v]
 dsimp only
 exact Prod.ext (by dsimp only; grind) (by dsimp only; grind)
def nQ (A B p:P2):Prop:=∃ k:Int,0≤k∧k≤gst (A,B)∧p=onS (A,B) k
theorem uB {A B:P2} (h:A≠B) (p:P2):nQ B A p↔nQ A B p:=by
 have key:∀ {A B:P2},A≠B→nQ B A p→nQ A B p:=fun {A B} h ⟨k,k0,k1,e⟩=> by
  rw [eK] at k1
  exact ⟨gst (A,B) - k,by omega,by omega,by rw [e,wg h]⟩
 exact ⟨key h,key h.symm⟩
theorem wd {f:P2→P2} {d:Int} (L:Lin f d) {A B:P2} (h:A≠B) (p:P2):nQ (f A) (f B) (f p)↔nQ A B p:=by
 unfold nQ
 rw [qL L]
 constructor
 ·rintro ⟨k,k0,k1,e⟩
  exact ⟨k,k0,k1,L.inj (by rw [e,uI L h])⟩
 ·rintro ⟨k,k0,k1,e⟩
  exact ⟨k,k0,k1,by rw [e,uI L h]⟩
theorem lK {A B:P2} (h:ST.ltP A B=true) (p:P2):cJ [A,B] p=true↔nQ A B p:=by rw [lm,iP h]; rfl
theorem jh {A B:P2} (h:A≠B):(ST.ltP A B=true∧ak [A,B]=[A,B])∨(ST.ltP B A=true∧ak [A,B]=[B,A]):=by
 by_cases hl:ST.ltP A B=true
 ·exact .inl ⟨hl,kq hl⟩
 ·have hb:=ST.ltP_tot h (by simpa using hl)
  refine .inr ⟨hb,?_⟩
  rw [o8 (ki (m:=[B,A]) fun z=> by simp [or_comm]),kq hb]
theorem yW {f:P2→P2} {d:Int} (L:Lin f d) {l:List P2} (F:Fld l) (p:P2):cJ (ak (l.map f)) (f p)=cJ l p:=by
 rw [Bool.eq_iff_iff]
 rcases F.cases with ⟨A,rfl⟩ | ⟨A,B,rfl,lt⟩ | h3
 ·have e:ak ([A].map f)=[f A]:=rfl
  rw [e,ig,ig]
  exact ⟨fun h=> L.inj h,fun h=> by rw [h]⟩
 ·have ne:A≠B:=fun e=> by rw [e,ST.asc_irr] at lt; cases lt
  have ne':f A≠f B:=fun e=> ne (L.inj e)
  rw [lK lt,← wd L ne]
  show cJ (ak [f A,f B]) (f p)=true↔_
  rcases jh ne' with ⟨h,e⟩ | ⟨h,e⟩
  ·rw [e,lK h]
  ·rw [e,lK h,uB ne']
 ·have l3:=fV L h3
  have h3':3≤l.length:=by rw [← F.cr]; exact h3
  rw [gE l3,gE h3']
  constructor
  ·intro h s hs
   have:=h _ ((uf L h3 _).mpr ⟨s,by rw [F.cr]; exact hs,rfl⟩)
   unfold sdf at this
   rcases L.one with e | e
   ·rw [if_pos e] at this
    dsimp only at this
    rw [L.det,e,Int.one_mul] at this
    exact this
   ·rw [if_neg (by omega)] at this
    dsimp only at this
    rw [L.det,e] at this
    have sw:af s.2 s.1 p=-af s.1 s.2 p:=by unfold af; grind
    omega
  ·intro h t ht
   obtain ⟨s,hs,rfl⟩:=(uf L h3 t).mp ht
   have k:=h s (by rw [F.cr] at hs; exact hs)
   unfold sdf
   rcases L.one with e | e
   ·rw [if_pos e]
    dsimp only
    rw [L.det,e,Int.one_mul]; exact k
   ·rw [if_neg (by omega)]
    dsimp only
    rw [L.det,e]
    have sw:af s.2 s.1 p=-af s.1 s.2 p:=by unfold af; grind
    omega
theorem oX {a b c d:Int} (h:a * d - b * c=1∨a * d - b * c=-1):Lin (fun p:P2=> (a * p.1+b * p.2,c * p.1+d * p.2)) (a * d - b * c):=⟨h,a,b,c,d,rfl,fun _=> rfl⟩
theorem mM (a b c d e f:Int) (l:List P2):l.map (ap a b c d e f)=(l.map fun p:P2=> (a * p.1+b * p.2,c * p.1+d * p.2)).map (shf 0 e f):=by
 rw [List.map_map]
 refine List.map_congr_left fun p _=> ?_
 unfold ap shf
 exact Prod.ext rfl (by dsimp only [Function.comp]; omega)
theorem vo {a b c d:Int} (e f:Int) (h:a * d - b * c=1∨a * d - b * c=-1) {l:List P2} (F:Fld l) (p:P2):cJ (ak (l.map (ap a b c d e f))) (ap a b c d e f p)=cJ l p:=by
 rw [mM,mG]
 have hp:ap a b c d e f p=shf 0 e f (a * p.1+b * p.2,c * p.1+d * p.2):=by
  unfold ap shf
  exact Prod.ext rfl (by dsimp only; omega)
 rw [hp,yN _ _ _ _ (iS (by simpa using F.ne))]
 exact yW (oX h) F p
theorem t4 {a b c d:Int} (e f:Int) {l:List P2} (F:Fld l):Fld (ak (l.map (ap a b c d e f))):=⟨iS (by simpa using F.ne),ku _⟩
theorem y4 {a b c d e f:Int} (h:a * d - b * c=1∨a * d - b * c=-1) {p q:P2} (k:ap a b c d e f p=ap a b c d e f q):p=q:=by
 refine (oX h).inj ?_
 have e1:a * p.1+b * p.2+e=a * q.1+b * q.2+e:=congrArg Prod.fst k
 have e2:c * p.1+d * p.2+f=c * q.1+d * q.2+f:=congrArg Prod.snd k
 exact Prod.ext (by dsimp only; omega) (by dsimp only; omega)
theorem yt {a b c d e f:Int} (h:a * d - b * c=1∨a * d - b * c=-1) (q:P2):∃ p,ap a b c d e f p=q:=by
 rcases h with h | h
 ·refine ⟨(d * (q.1 - e) - b * (q.2 - f),a * (q.2 - f) - c * (q.1 - e)),?_⟩
  unfold ap
  refine Prod.ext ?_ ?_
  ·dsimp only
   have:a * (d * (q.1 - e) - b * (q.2 - f))+b * (a * (q.2 - f) - c * (q.1 - e))=(a * d - b * c) * (q.1 - e):=by grind
   rw [this,h]; omega
  ·dsimp only
   have:c * (d * (q.1 - e) - b * (q.2 - f))+d * (a * (q.2 - f) - c * (q.1 - e))=(a * d - b * c) * (q.2 - f):=by grind
   rw [this,h]; omega
 ·refine ⟨(-(d * (q.1 - e) - b * (q.2 - f)),-(a * (q.2 - f) - c * (q.1 - e))),?_⟩
  unfold ap
  refine Prod.ext ?_ ?_
  ·dsimp only
   have:a * -(d * (q.1 - e) - b * (q.2 - f))+b * -(a * (q.2 - f) - c * (q.1 - e))=-((a * d - b * c) * (q.1 - e)):=by grind
   rw [this,h]; omega
  ·dsimp only
   have:c * -(d * (q.1 - e) - b * (q.2 - f))+d * -(a * (q.2 - f) - c * (q.1 - e))=-((a * d - b * c) * (q.2 - f)):=by grind
   rw [this,h]; omega
def xl (l:List P2) (f:P2→Bool):Int:=(((box l).filter fun p=> cJ l p && f p).length:Nat)
theorem jF (l:List P2):(box l).Nodup:=iN _ _ _ _
theorem pH {l:List P2} (F:Fld l):jJ l=xl l fun _=> true:=by
 unfold xl
 rcases F.cases with ⟨A,rfl⟩ | ⟨A,B,rfl,lt⟩ | h3
 ·rw [kR,List.filter_cons_of_pos (by rw [(ig A A).mpr rfl]; rfl)]
  unfold jJ pin j3
  rw [if_pos (by simp),if_pos (by simp)]
  show 0+(gst (A,A)+1)=_
  unfold gst
  simp
 ·have w:=(zV lt).1
  unfold iH at w
  have e:((box [A,B]).filter fun p=> decide (plc [A,B] p=0)).length=((box [A,B]).filter fun p=> cJ [A,B] p && true).length:=by
   refine dQ (cX (jF _) _) (cX (jF _) _) fun p=> ?_
   rw [List.mem_filter,decide_eq_true_eq,k_.1,gW lt,List.mem_filter,Bool.and_true,lK lt]
   exact ⟨fun h=> ⟨((gW lt).mpr h).1,h⟩,fun h=> h.2⟩
  rw [← e,w]
  unfold jJ pin j3
  rw [if_pos (by simp),if_pos (by simp)]
  show 0+(gst (A,B)+1)=_
  omega
 ·have w:=(Aw h3).1
  rw [kj] at w
  rw [F.cr] at w
  unfold jJ
  rw [← w]
  congr 2
  refine List.filter_congr fun p _=> ?_
  rw [Bool.and_true,Bool.eq_iff_iff,decide_eq_true_eq,gE (by rw [← F.cr]; exact h3)]
def i5 (s:P2×P2) (y:Int):Int:=(s.2.1 - s.1.1) * (y - s.1.2)
def vY (y:Int) (s:P2×P2):Int:=s.1.1+i5 s y / (s.2.2 - s.1.2)
def vN (y:Int) (s:P2×P2):Int:=s.1.1 - i5 s y / -(s.2.2 - s.1.2)
def cP (l:List P2) (ss:List (P2×P2)) (y:Int):List Int:=hiX l::(ss.filter fun s=> decide (0 < s.2.2 - s.1.2)).map (vY y)
def cM (l:List P2) (ss:List (P2×P2)) (y:Int):List Int:=loX l::(ss.filter fun s=> decide (s.2.2 - s.1.2 < 0)).map (vN y)
def j8 (l:List P2) (y:Int):Int:=lc (cP l (sdl l) y)
def fk (l:List P2) (y:Int):Int:=hiL (cM l (sdl l) y)
theorem iY (s:P2×P2) (x y:Int):af s.1 s.2 (x,y)=i5 s y - (s.2.2 - s.1.2) * (x - s.1.1):=by unfold af i5; grind
theorem qM {s:P2×P2} {x y:Int} (h:0 < s.2.2 - s.1.2):0≤af s.1 s.2 (x,y)↔x≤vY y s:=by
 rw [iY]
 unfold vY
 have k:x - s.1.1≤i5 s y / (s.2.2 - s.1.2)↔(x - s.1.1) * (s.2.2 - s.1.2)≤i5 s y:=Int.le_ediv_iff_mul_le h
 rw [Int.mul_comm] at k
 omega
theorem qb {s:P2×P2} {x y:Int} (h:s.2.2 - s.1.2 < 0):0≤af s.1 s.2 (x,y)↔vN y s≤x:=by
 rw [iY]
 unfold vN
 have k:s.1.1 - x≤i5 s y / -(s.2.2 - s.1.2)↔(s.1.1 - x) * -(s.2.2 - s.1.2)≤i5 s y:=Int.le_ediv_iff_mul_le (by omega)
 have e:(s.1.1 - x) * -(s.2.2 - s.1.2)=(s.2.2 - s.1.2) * (x - s.1.1):=by grind
 rw [e] at k
 omega
theorem pw {l:List P2} {ss:List (P2×P2)} {x y:Int}:x≤lc (cP l ss y)↔x≤hiX l∧∀ s∈ss,0 < s.2.2 - s.1.2→x≤vY y s:=by
 have ok:=bU (l:=cP l ss y) (by unfold cP; simp)
 constructor
 ·intro h
  refine ⟨Int.le_trans h (ok.2 _ (by unfold cP; simp)),fun s hs hr=> Int.le_trans h (ok.2 _ ?_)⟩
  unfold cP
  exact List.mem_cons_of_mem _ (List.mem_map_of_mem (List.mem_filter.mpr ⟨hs,decide_eq_true hr⟩))
 ·rintro ⟨h1,h2⟩
  have m:=ok.1
  unfold cP at m
  rcases List.mem_cons.mp m with e | e
  ·unfold cP; rw [e]; exact h1
  ·obtain ⟨s,hs,e2⟩:=List.mem_map.mp e
   obtain ⟨hs,hr⟩:=List.mem_filter.mp hs
   unfold cP; rw [← e2]; exact h2 s hs (of_decide_eq_true hr)
theorem p8 {l:List P2} {ss:List (P2×P2)} {x y:Int}:hiL (cM l ss y)≤x↔loX l≤x∧∀ s∈ss,s.2.2 - s.1.2 < 0→vN y s≤x:=by
 have ok:=cC (l:=cM l ss y) (by unfold cM; simp)
 constructor
 ·intro h
  refine ⟨Int.le_trans (ok.2 _ (by unfold cM; simp)) h,fun s hs hr=> Int.le_trans (ok.2 _ ?_) h⟩
  unfold cM
  exact List.mem_cons_of_mem _ (List.mem_map_of_mem (List.mem_filter.mpr ⟨hs,decide_eq_true hr⟩))
 ·rintro ⟨h1,h2⟩
  have m:=ok.1
  unfold cM at m
  rcases List.mem_cons.mp m with e | e
  ·unfold cM; rw [e]; exact h1
  ·obtain ⟨s,hs,e2⟩:=List.mem_map.mp e
   obtain ⟨hs,hr⟩:=List.mem_filter.mp hs
   unfold cM; rw [← e2]; exact h2 s hs (of_decide_eq_true hr)
theorem vM {l:List P2} (hne:l≠[]):∃ q∈l,q.2=loY l:=by
 obtain ⟨q,hq,e⟩:=List.mem_map.mp (bU (l:=l.map (·.2)) (by simpa using hne)).1
 exact ⟨q,hq,e⟩
theorem uR {l:List P2} (hne:l≠[]):∃ q∈l,q.2=hiY l:=by
 obtain ⟨q,hq,e⟩:=List.mem_map.mp (cC (l:=l.map (·.2)) (by simpa using hne)).1
 exact ⟨q,hq,e⟩
theorem vV {l:List P2} (F:Fld l) (h3:3≤l.length) {x y:Int} (y0:loY l≤y) (y1:y≤hiY l):cJ l (x,y)=true↔fk l y≤x∧x≤j8 l y:=by
 have hc:=F.cr
 have c3:3≤(ak l).length:=by rw [hc]; exact h3
 unfold fk j8
 rw [pw,p8]
 constructor
 ·intro h
  have d:=(gE h3 _).mp h
  have b:=(e6 F.ne).mp (F.in_box h)
  exact ⟨⟨b.1.1,fun s hs hr=> (qb hr).mp (d s hs)⟩,b.1.2,fun s hs hr=> (qM hr).mp (d s hs)⟩
 ·rintro ⟨⟨_,hb⟩,_,he⟩
  refine (gE h3 _).mpr fun s hs=> ?_
  rcases Int.lt_or_le 0 (s.2.2 - s.1.2) with z | z
  ·exact (qM z).mpr (he s hs z)
  ·rcases Int.lt_or_le (s.2.2 - s.1.2) 0 with w | w
   ·exact (qb w).mpr (hb s hs w)
   ·have e0:s.2.2 - s.1.2=0:=by omega
    have cov:∀ q∈l,0≤(s.2.1 - s.1.1) * (q.2 - s.1.2):=fun q hq=> by
     have k:=br c3 (by rw [hc]; exact hs) q hq
     have:=iY s q.1 q.2
     rw [e0,Int.zero_mul,Int.sub_zero] at this
     rw [← show i5 s q.2=(s.2.1 - s.1.1) * (q.2 - s.1.2) from rfl,← this]
     exact k
    rw [iY,e0,Int.zero_mul,Int.sub_zero]
    show 0≤(s.2.1 - s.1.1) * (y - s.1.2)
    rcases Int.lt_or_le 0 (s.2.1 - s.1.1) with u | u
    ·obtain ⟨q,hq,eq⟩:=vM F.ne
     have k:=Int.nonneg_of_mul_nonneg_right (cov q hq) u
     exact Int.mul_nonneg (by omega) (by omega)
    ·rcases Int.lt_or_le (s.2.1 - s.1.1) 0 with v | v
     ·obtain ⟨q,hq,eq⟩:=uR F.ne
      have c:=cov q hq
      have e2:(s.2.1 - s.1.1) * (q.2 - s.1.2)=(-(s.2.1 - s.1.1)) * (s.1.2 - q.2):=by grind
      rw [e2] at c
      have k:=Int.nonneg_of_mul_nonneg_right c (by omega)
      have e3:(s.2.1 - s.1.1) * (y - s.1.2)=(-(s.2.1 - s.1.1)) * (s.1.2 - y):=by grind
      rw [e3]
      exact Int.mul_nonneg (by omega) (by omega)
     ·rw [show s.2.1 - s.1.1=0 by omega,Int.zero_mul]; exact Int.le_refl _
theorem lx {a b:P2}:ST.leP a b=true↔a.1 < b.1∨(a.1=b.1∧a.2≤b.2):=by unfold ST.leP; exact decide_eq_true_iff
theorem uy {A B:P2} (lt:ST.ltP A B=true) (h:A.2=B.2) {x y:Int} (hy:y=A.2):cJ [A,B] (x,y)=true↔fk [A,B] y≤x∧x≤j8 [A,B] y:=by
 obtain ⟨b1,b2,_,_⟩:=uX lt
 unfold fk j8
 rw [pw,p8,lm,iZ,b1,b2]
 have hl:=zb lt
 constructor
 ·rintro ⟨_,h1,h2⟩
  rw [lx] at h1 h2
  dsimp only at h1 h2
  refine ⟨⟨by omega,fun s hs hr=> ?_⟩,by omega,fun s hs hr=> ?_⟩
  ·simp at hs; rcases hs with rfl | rfl <;> dsimp only at hr <;> omega
  ·simp at hs; rcases hs with rfl | rfl <;> dsimp only at hr <;> omega
 ·rintro ⟨⟨h1,_⟩,h2,_⟩
  rw [lx,lx]
  dsimp only
  refine ⟨?_,by omega,by omega⟩
  unfold af
  rw [hy,← h]
  grind
def jR (l:List P2) (y:Int):List P2:=(gJ (fk l y) (j8 l y+1 - fk l y).toNat).map fun x=> (x,y)
def dO (l:List P2) (n:Nat):List P2:=((List.range n).map fun y:Nat=> jR l (0+(y:Int))).flatten
theorem eo {l:List P2} {y:Int} {p:P2}:p∈jR l y↔p.2=y∧fk l y≤p.1∧p.1≤j8 l y:=by
 unfold jR
 rw [List.mem_map]
 constructor
 ·rintro ⟨x,hx,rfl⟩
  have:=eF.mp hx
  exact ⟨rfl,by omega,by omega⟩
 ·rintro ⟨e,h1,h2⟩
  exact ⟨p.1,eF.mpr ⟨h1,by omega⟩,by rw [← e]⟩
theorem dE {l:List P2} {n:Nat} {p:P2}:p∈dO l n↔(0≤p.2∧p.2 < n)∧fk l p.2≤p.1∧p.1≤j8 l p.2:=by
 unfold dO
 rw [List.mem_flatten]
 constructor
 ·rintro ⟨r,hr,hp⟩
  obtain ⟨y,hy,rfl⟩:=List.mem_map.mp hr
  have:=List.mem_range.mp hy
  obtain ⟨e,h1,h2⟩:=eo.mp hp
  rw [← e] at h1 h2
  exact ⟨by omega,h1,h2⟩
 ·rintro ⟨h0,h1,h2⟩
  exact ⟨_,List.mem_map.mpr ⟨p.2.toNat,List.mem_range.mpr (by omega),rfl⟩,eo.mpr ⟨by omega,by rw [show 0+(p.2.toNat:Int)=p.2 by omega]; exact ⟨h1,h2⟩⟩⟩
theorem qP (l:List P2) (y:Int):(jR l y).Nodup:=List.Pairwise.map _ (fun a b h e=> h (congrArg Prod.fst e)) (lh _ _)
theorem jP (l:List P2) (n:Nat):dO l (n+1)=dO l n++jR l (0+(n:Int)):=by
 unfold dO
 rw [List.range_succ,List.map_append,List.flatten_append]
 simp
theorem jU (l:List P2):∀ n,(dO l n).Nodup
 | 0=> by unfold dO; simp
 | n+1=> by
  rw [jP]
  refine List.nodup_append.mpr ⟨jU l n,qP l _,fun a ha b hb e=> ?_⟩
  have h1:=dE.mp ha
  have h2:=(eo.mp hb).1
  rw [← e] at h2
  omega
structure Lev (l:List P2):Prop where
 F:Fld l
 y0:loY l=0
 two:l.length=2→hiY l=0
 ne1:2≤l.length
theorem jN {l:List P2} (L:Lev l) (p:P2):p∈dO l (hiY l+1).toNat↔cJ l p=true:=by
 obtain ⟨q,hq,eq⟩:=vM L.F.ne
 have hh:0≤hiY l:=by
  have:=(cC (l:=l.map (·.2)) (by simpa using L.F.ne)).2 q.2 (List.mem_map_of_mem hq)
  have e:=L.y0
  unfold hiY
  omega
 rw [dE]
 have key:0≤p.2→p.2≤hiY l→(cJ l (p.1,p.2)=true↔fk l p.2≤p.1∧p.1≤j8 l p.2):=fun h0 h1=> by
  rcases L.F.cases with ⟨A,rfl⟩ | ⟨A,B,e,lt⟩ | h3
  ·have:=L.ne1; simp at this
  ·subst e
   obtain ⟨_,_,b3,b4⟩:=uX lt
   have t:=L.two rfl
   have y0:=L.y0
   exact uy lt (by omega) (by omega)
  ·exact vV L.F (by rw [← L.F.cr]; exact h3) (by rw [L.y0]; exact h0) h1
 constructor
 ·rintro ⟨h0,h1⟩
  exact (key h0.1 (by omega)).mpr h1
 ·intro h
  have b:=(e6 L.F.ne).mp (L.F.in_box h)
  rw [L.y0] at b
  exact ⟨by omega,(key b.2.1 b.2.2).mp h⟩
structure LvP (a b:P2) (g u v s t:Int):Prop where
 gp:0 < g
 hu:g * u=b.1 - a.1
 hv:g * v=b.2 - a.2
 st:s * u+t * v=1
abbrev lvF (a:P2) (u v s t:Int):P2→P2:=ap s t (-v) u (-s * a.1 - t * a.2) (v * a.1 - u * a.2)
abbrev bkF (a:P2) (u v s t:Int):P2→P2:=ap u (-t) v s a.1 a.2
theorem p7 {a b:P2} {g u v s t:Int} (L:LvP a b g u v s t) (p:P2):bkF a u v s t (lvF a u v s t p)=p∧lvF a u v s t (bkF a u v s t p)=p:=by
 have h:=L.st
 unfold bkF lvF ap
 refine ⟨Prod.ext ?_ ?_,Prod.ext ?_ ?_⟩ <;> dsimp only
 ·have:u * (s * p.1+t * p.2+(-s * a.1 - t * a.2))+-t * (-v * p.1+u * p.2+(v * a.1 - u * a.2))+a.1=(s * u+t * v) * p.1 - (s * u+t * v) * a.1+a.1:=by grind
  rw [this,h]; omega
 ·have:v * (s * p.1+t * p.2+(-s * a.1 - t * a.2))+s * (-v * p.1+u * p.2+(v * a.1 - u * a.2))+a.2=(s * u+t * v) * p.2 - (s * u+t * v) * a.2+a.2:=by grind
  rw [this,h]; omega
 ·have:s * (u * p.1+-t * p.2+a.1)+t * (v * p.1+s * p.2+a.2)+(-s * a.1 - t * a.2)=(s * u+t * v) * p.1:=by grind
  rw [this,h]; omega
 ·have:-v * (u * p.1+-t * p.2+a.1)+u * (v * p.1+s * p.2+a.2)+(v * a.1 - u * a.2)=(s * u+t * v) * p.2:=by grind
  rw [this,h]; omega
theorem zt {a b:P2} {g u v s t:Int} (L:LvP a b g u v s t) (q:P2):g * (lvF a u v s t q).2=af a b q:=by
 unfold lvF ap af
 dsimp only
 rw [← L.hu,← L.hv]; grind
theorem tE {l:List P2} (F:Fld l) (h2:2≤l.length) {g u v s t:Int} (L:LvP (gp l 0) (gp l 1) g u v s t):Lev (ak (l.map (lvF (gp l 0) u v s t))):=by
 have hd:s * u - t * -v=1:=by have:=L.st; grind
 have F':=t4 (a:=s) (b:=t) (c:=-v) (d:=u) (-s * (gp l 0).1 - t * (gp l 0).2) (v * (gp l 0).1 - u * (gp l 0).2) F
 have hg:=L.gp
 have im0:lvF (gp l 0) u v s t (gp l 0)=(0,0):=by unfold lvF ap; refine Prod.ext ?_ ?_ <;> dsimp only <;> grind
 have up:∀ q∈l,0≤(lvF (gp l 0) u v s t q).2:=fun q hq=> by
  have e:=zt L q
  have k:0≤af (gp l 0) (gp l 1) q:=by
   rcases F.cases with ⟨A,rfl⟩ | ⟨A,B,rfl,lt⟩ | h3
   ·simp at h2
   ·simp at hq
    rcases hq with rfl | rfl
    ·show 0≤af q B q; unfold af; grind
    ·show 0≤af A q q; unfold af; grind
   ·have c3:3≤l.length:=by rw [← F.cr]; exact h3
    have hs:=qg (l:=l) (i:=0) (by omega)
    rw [show (0+1) % l.length=1 from Nat.mod_eq_of_lt (by omega)] at hs
    exact br h3 (by rw [F.cr]; exact hs) q hq
  rw [← e] at k
  exact Int.nonneg_of_mul_nonneg_right k hg
 have g0:gp l 0∈l:=ff (by omega)
 have yb:∀ q∈ak (l.map (lvF (gp l 0) u v s t)),0≤q.2:=fun q hq=> by
  obtain ⟨p,hp,rfl⟩:=List.mem_map.mp (aN _ q hq)
  exact up p hp
 have len3:3≤l.length→3≤(ak (l.map (lvF (gp l 0) u v s t))).length:=fun h3=> by
  unfold lvF
  rw [mM,mG,List.length_map]
  exact fV (oX (.inl hd)) (by rw [F.cr]; exact h3)
 have two:∀ A B,l=[A,B]→ST.ltP A B=true→ak (l.map (lvF (gp l 0) u v s t))=[(0,0),(g,0)]:=fun A B e lt=> by
  subst e
  have im1:lvF A u v s t B=(g,0):=by
   have k1:=L.hu
   have k2:=L.hv
   have k3:=L.st
   have k1':g * u=B.1 - A.1:=k1
   have k2':g * v=B.2 - A.2:=k2
   unfold lvF ap
   refine Prod.ext ?_ ?_ <;> dsimp only
   ·have:s * B.1+t * B.2+(-s * A.1 - t * A.2)=s * (B.1 - A.1)+t * (B.2 - A.2):=by grind
    rw [this,← k1',← k2']
    have:s * (g * u)+t * (g * v)=g * (s * u+t * v):=by grind
    rw [this,k3,Int.mul_one]
   ·have:-v * B.1+u * B.2+(v * A.1 - u * A.2)=u * (B.2 - A.2) - v * (B.1 - A.1):=by grind
    rw [this,← k1',← k2']; grind
  have im0':lvF A u v s t A=(0,0):=im0
  show ak [lvF A u v s t A,lvF A u v s t B]=_
  rw [im0',im1]
  rcases jh (A:=(0,0)) (B:=(g,0)) (fun e=> by have:=congrArg Prod.fst e; dsimp only at this; omega) with ⟨_,e⟩ | ⟨z,_⟩
  ·exact e
  ·have:=zb z; dsimp only at this; omega
 refine ⟨F',?_,fun e=> ?_,?_⟩
 ·obtain ⟨c,hc,k⟩:=nD 0 (-1) (List.mem_map_of_mem (f:=lvF (gp l 0) u v s t) g0)
  rw [im0] at k
  unfold wth at k
  dsimp only at k
  have c0:=yb c hc
  have ok:=bU (l:=(ak (l.map (lvF (gp l 0) u v s t))).map (·.2)) (by simpa using F'.ne)
  have le:=ok.2 c.2 (List.mem_map_of_mem (f:=fun p:P2=> p.2) hc)
  obtain ⟨d,hd',ed⟩:=List.mem_map.mp ok.1
  have:=yb d hd'
  unfold loY
  omega
 ·rcases F.cases with ⟨A,rfl⟩ | ⟨A,B,e2,lt⟩ | h3
  ·simp at h2
  ·rw [two A B e2 lt]; rfl
  ·have:=len3 (by rw [← F.cr]; exact h3); omega
 ·rcases F.cases with ⟨A,rfl⟩ | ⟨A,B,e2,lt⟩ | h3
  ·simp at h2
  ·rw [two A B e2 lt]; exact Nat.le_refl _
  ·have:=len3 (by rw [← F.cr]; exact h3); omega
def tz (l:List P2) (u v s t:Int):List P2:=(dO (ak (l.map (lvF (gp l 0) u v s t))) (hiY (ak (l.map (lvF (gp l 0) u v s t)))+1).toNat).map (bkF (gp l 0) u v s t)
theorem qC {l:List P2} (F:Fld l) (h2:2≤l.length) {g u v s t:Int} (L:LvP (gp l 0) (gp l 1) g u v s t) (p:P2):p∈tz l u v s t↔cJ l p=true:=by
 have hd:s * u - t * -v=1:=by have:=L.st; grind
 have iw:=fun q=> vo (a:=s) (b:=t) (c:=-v) (d:=u) (-s * (gp l 0).1 - t * (gp l 0).2) (v * (gp l 0).1 - u * (gp l 0).2) (.inl hd) F q
 have V:=tE F h2 L
 unfold tz
 rw [List.mem_map]
 constructor
 ·rintro ⟨q,hq,rfl⟩
  have k:=(jN V q).mp hq
  rw [← (p7 L q).2] at k
  rw [← iw]; exact k
 ·intro h
  exact ⟨lvF (gp l 0) u v s t p,(jN V _).mpr (by rw [iw]; exact h),(p7 L p).1⟩
theorem vZ {l:List P2} {g u v s t:Int} (L:LvP (gp l 0) (gp l 1) g u v s t):(tz l u v s t).Nodup:=
 List.Pairwise.map _ (fun a b h e=> h (by rw [← (p7 L a).2,← (p7 L b).2,e])) (jU _ _)
theorem xz {l:List P2} (F:Fld l) (h2:2≤l.length) {g u v s t:Int} (L:LvP (gp l 0) (gp l 1) g u v s t):((tz l u v s t).length:Int)=jJ l:=by
 rw [pH F]
 unfold xl
 congr 1
 refine dQ (vZ L) (cX (jF l) _) fun p=> ?_
 rw [qC F h2 L,List.mem_filter]
 constructor
 ·intro h; exact ⟨F.in_box h,by rw [h]; rfl⟩
 ·rintro ⟨_,h⟩; simpa using h
def n_ (l:List P2):List P2:=ST.srt ((box l).filter fun p=> cJ l p)
theorem lP {l R:List P2} (F:Fld l) (h:∀ p,p∈R↔cJ l p=true):ST.srt R=n_ l:=by
 unfold n_
 refine ki fun p=> ?_
 rw [h,List.mem_filter]
 exact ⟨fun k=> ⟨F.in_box k,k⟩,fun k=> k.2⟩
end
section
variable {P:Program} {w:World} {K:PySem.W.Frag} {mg:Str→Option Value} {base:Heap}
def tR:List U→Out→Prop:=fun us o=> ∃ l:List P2,us=[lp l]∧0 < l.length∧l.length≤900∧(∀ p∈l,Szp 2500 p)∧o=.val (.int (j3 l))
set_option maxHeartbeats 8000000 in
theorem u0 (T:Txt K mg):aX P w K mg base (CXF P w) 4 T.a_rim T.d_rim ["land"] (spU K (tR)):=by
 refine bg T.F_rim pi (fun us o h=> ?_) (fun cdv A outer s H E O us o hr h=> ?_)
 ·obtain ⟨l,rfl,h0,hl,sz,rfl⟩:=h
  rfl
 obtain ⟨l,rfl,h0,hl,sz,rfl⟩:=h
 refine Ws.nox ?_
 have hm:((l.map pu).length:Int)=(l.length:Int):=by rw [List.length_map]
 unfold j3
 by_cases h3:l.length < 3
 ·rw [if_pos h3]
  refine ae (cT (aV g9 (ao (dn rfl) rfl T.z_len PySem.boot_len (ac (aa 0 rfl) am ag)) ai) (by rw [hm]; exact decide_eq_true (by omega)) ?_)
  have z0:=sz _ (ff h0)
  have z1:=sz _ (ff (l:=l) (i:=l.length - 1) (by omega))
  obtain ⟨cs,ct,G⟩:=jb ((gp l (l.length - 1)).1 - (gp l 0).1) ((gp l (l.length - 1)).2 - (gp l 0).2)
  refine ae (aH (bX (ay ((gT T).mono (by decide)) hr rfl T.m_steps T.F_steps.kp T.b_steps aA (ac (aE (aa 0 rfl) ai rfl (AJ h0)) (ac (aE (aa 0 rfl) (cU ai) rfl (qy h0)) am cw) cw) ⟨_,_,_,_,_,cs,ct,rfl,⟨z0.1.mono (by decide),z0.2.mono (by decide),z1.1.mono (by decide),z1.2.mono (by decide)⟩,G,rfl⟩) ai) ?_)
  exact rfl
 ·rw [if_neg h3]
  refine ae (dY (aV g9 (ao (dn rfl) rfl T.z_len PySem.boot_len (ac (aa 0 rfl) am ag)) ai) (by rw [hm]; exact decide_eq_false (by omega)) (aQ ?_))
  refine ae (aH (ao (vc rfl ) rfl T.z_sum boot_sum (ac (EvN.ev (d9 (ys:=(((sdl l).map gst).map U.int)) rfl (blk (ah jk) ["land","A","B"] [1,2] rfl rfl rfl rfl (by decide+kernel)) (cD (EvN.ev (cW ((jg T).mono (by decide)) hr rfl T.m_sides T.F_sides.kp T.b_sides aA (ac (aa 0 rfl) am ag) ⟨l,rfl,hl,rfl⟩)) (.inl rfl)) (fun _ _ _ _=> oM rfl (dl (bi (i:=1) pi.nd rfl (Or.inl rfl)) (dl (bi (i:=2) pi.nd rfl (Or.inl rfl)) i4))) (qA (js:=[1,2]) (by decide)) ?clen ?csz ?dom ?celt)) am dh)) ?_)
  case clen=> simp
  case csz=> simp only [lr,List.length_map]; exact Nat.le_of_lt (aI (by omega))
  case dom=>
   intro x hx
   obtain ⟨s,_,rfl⟩:=List.mem_map.mp hx
   exact ⟨_,rfl,rfl⟩
  case celt=>
   intro C s' H' fp j x y hx hy
   rw [List.map_map] at hy
   obtain ⟨s,hs,ms,rfl,rfl⟩:=dC hx hy
   obtain ⟨m1,m2⟩:=bj ms
   obtain ⟨cs,ct,G⟩:=jb (s.2.1 - s.1.1) (s.2.2 - s.1.2)
   exact (ay ((gT T).mono (by decide)) hr rfl T.m_steps T.F_steps.kp T.b_steps aA (ac (aa 1 rfl) (ac (aa 2 rfl) am ag) ag) ⟨_,_,_,_,_,cs,ct,rfl,⟨(sz _ m1).1.mono (by decide),(sz _ m1).2.mono (by decide),(sz _ m2).1.mono (by decide),(sz _ m2).2.mono (by decide)⟩,G,rfl⟩)
  exact rfl
end
section
variable {P:Program} {w:World} {K:PySem.W.Frag} {mg:Str→Option Value} {base:Heap}
theorem uJ {m n:Nat} {k:Int} {p:P2} (sk:Sz n k) (s:Szp m p):Szp (n+m) (scl k p):=⟨L2.Sz.mul sk s.1,L2.Sz.mul sk s.2⟩
def sW:List U→Out→Prop:=fun us o=> ∃ (pts:List P2) (k:Int),us=[lp pts,.int k]∧Sz 1000 k∧(∀ p∈pts,Szp 3000 p)∧pts≠[]∧pts.length < 64∧o=.new ((ak (pts.map (scl k))).map pu)
set_option maxHeartbeats 8000000 in
theorem wJ (T:Txt K mg):aX P w K mg base (CXF P w) 5 T.a_fold T.d_fold ["land","k"] (spU K (sW)):=by
 refine bg T.F_fold ql (fun us o h=> ?_) (fun cdv A outer s H E O us o hr h=> ?_)
 ·obtain ⟨pts,k,rfl,sk,sz,hne,hl,rfl⟩:=h
  rfl
 obtain ⟨pts,k,rfl,sk,sz,hne,hl,rfl⟩:=h
 refine ae (fF (cW ((my T).mono (by decide)) hr rfl T.m_field T.F_field.kp T.b_field aA (ac (EvN.ev (d9 (ys:=(pts.map fun p=> pu (scl k p))) rfl (blk (ah gD) ["land","k","P"] [2] rfl rfl rfl rfl (by decide+kernel)) (cD (aa 0 rfl) (.inl rfl)) (fun _ _ _ _=> bi (i:=2) ql.nd rfl (Or.inl rfl)) (bW (by decide)) ?clen ?csz (fun _ _=> trivial) ?celt)) am dh) ⟨pts.map (scl k),by rw [lp,List.map_map]; rfl,fun p hp=> by obtain ⟨q,hq,rfl⟩:=List.mem_map.mp hp; have z:=uJ sk (sz q hq); exact ⟨z.1.mono (by decide),z.2.mono (by decide)⟩,by rw [List.length_map]; exact hl,by rw [if_neg (by simpa using hne)]⟩) ?_)
 case clen=> simp
 case csz=> rw [List.length_map]; exact Nat.le_of_lt (aI (by omega))
 case celt=>
  intro C s' H' fp j x y hx hy
  obtain ⟨p,hp,mp,rfl,rfl⟩:=dC hx hy
  have s1:=(sz p mp).1
  have s2:=(sz p mp).2
  exact (cO (aB (bh (aa 1 rfl) (aE (aa 2 rfl) ai rfl rfl) (by walk_at "mul")) (aB (bh (aa 1 rfl) (aE (aa 2 rfl) ai rfl rfl) (by walk_at "mul")) bS bJ) bJ))
 exact rfl
def td:List U→Out→Prop:=fun us o=> ∃ (pts:List P2) (k:Int),us=[lp pts,.int k]∧0≤k∧Sz 1000 k∧(∀ p∈pts,Szp 3000 p)∧pts≠[]∧pts.length < 64∧o=.new ((ak (pts.map (scl k))).map pu)
set_option maxHeartbeats 8000000 in
theorem nh (T:Txt K mg):aX P w K mg base (CXF P w) 6 T.a_multiple T.d_multiple ["land","k"] (spU K (td)):=by
 refine bg T.F_multiple mH (fun us o h=> ?_) (fun cdv A outer s H E O us o hr h=> ?_)
 ·obtain ⟨pts,k,rfl,k0,sk,sz,hne,hl,rfl⟩:=h
  rfl
 obtain ⟨pts,k,rfl,k0,sk,sz,hne,hl,rfl⟩:=h
 refine Ws.nox ?_
 refine ae (dY (aV g9 (aa 1 rfl) ai) (decide_eq_false (by omega)) (aQ ?_))
 refine ae (fF (cW ((wJ T).mono (by decide)) hr rfl T.m_fold T.F_fold.kp T.b_fold aA (ac (aa 0 rfl) (ac (aa 1 rfl) am ag) ag) ⟨pts,k,rfl,sk,sz,hne,hl,rfl⟩) ?_)
 exact rfl
def uL:List U→Out→Prop:=fun us o=> ∃ l:List P2,us=[lp l]∧l.length≤900∧(∀ p∈l,Szp 2500 p)∧o=.val (.int (pin l))
set_option maxHeartbeats 8000000 in
theorem kQ (T:Txt K mg):aX P w K mg base (CXF P w) 5 T.a_points_in T.d_points_in ["land"] (spU K (uL)):=by
 refine bg T.F_points_in ly (fun us o h=> ?_) (fun cdv A outer s H E O us o hr h=> ?_)
 ·obtain ⟨l,rfl,hl,sz,rfl⟩:=h
  rfl
 obtain ⟨l,rfl,hl,sz,rfl⟩:=h
 refine Ws.nox ?_
 have hm:((l.map pu).length:Int)=(l.length:Int):=by rw [List.length_map]
 by_cases h3:l.length < 3
 ·refine ae (cT (aV g9 (ao (dn rfl) rfl T.z_len PySem.boot_len (ac (aa 0 rfl) am ag)) ai) (by rw [hm]; exact decide_eq_true (by omega)) ?_)
  refine ae (aH ai ?_)
  exact vIO (by unfold pin; rw [if_pos h3])
 ·refine ae (dY (aV g9 (ao (dn rfl) rfl T.z_len PySem.boot_len (ac (aa 0 rfl) am ag)) ai) (by rw [hm]; exact decide_eq_false (by omega)) (aQ ?_))
  have er:j3 l=je l:=by unfold j3; rw [if_neg h3]
  refine ae (aH (fi (bX (bv (ay ((jA T).mono (by decide)) hr rfl T.m_double_area T.F_double_area.kp T.b_double_area aA (ac (aa 0 rfl) am ag) ⟨l,rfl,hl,sz,rfl⟩) (ay ((u0 T).mono (by decide)) hr rfl T.m_rim T.F_rim.kp T.b_rim aA (ac (aa 0 rfl) am ag) ⟨l,rfl,by omega,hl,sz,rfl⟩)) ai) ai (by walk_at "div")) ?_)
  exact vIO (by unfold pin; rw [if_neg h3,er])
theorem tT {pts:List P2} {k:Int} (sk:Sz 1000 k) (sz:∀ p∈pts,Szp 1500 p):∀ p∈ak (pts.map (scl k)),Szp 2500 p:=fun p hp=> by
 obtain ⟨q,hq,rfl⟩:=List.mem_map.mp (aN _ p hp)
 exact uJ sk (sz q hq)
def jE:List U→Out→Prop:=fun us o=> ∃ (pts:List P2) (k:Int),us=[lp pts,.int k]∧0≤k∧Sz 1000 k∧(∀ p∈pts,Szp 1500 p)∧pts≠[]∧pts.length < 64∧o=.val (.int (jJ (ak (pts.map (scl k)))))
set_option maxHeartbeats 8000000 in
theorem mV (T:Txt K mg):aX P w K mg base (CXF P w) 7 T.a_count T.d_count ["land","k"] (spU K (jE)):=by
 refine yO T.F_count nB (fun us o h=> ?_) (fun cdv A outer s H E O us o hr h=> ?_)
 ·obtain ⟨pts,k,rfl,k0,sk,sz,hne,hl,rfl⟩:=h
  rfl
 obtain ⟨pts,k,rfl,k0,sk,sz,hne,hl,rfl⟩:=h
 refine Ws.nox ?_
 have cl:(ak (pts.map (scl k))).length≤900:=Nat.le_trans (iT _) (by rw [List.length_map]; omega)
 have cn:0 < (ak (pts.map (scl k))).length:=List.length_pos_iff.mpr (iS (by simpa using hne))
 refine ae (aF (i:=2) nB.nd rfl (Or.inl rfl) (EvN.ev (cW ((nh T).mono (by decide)) hr rfl T.m_multiple T.F_multiple.kp T.b_multiple aA (ac (aa 0 rfl) (ac (aa 1 rfl) am ag) ag) ⟨pts,k,rfl,k0,sk,oN (by decide) sz,hne,hl,rfl⟩)) ?_)
 refine ae (aH (bX (ay ((kQ T).mono (by decide)) hr rfl T.m_points_in T.F_points_in.kp T.b_points_in aA (ac (aa 2 rfl) am ag) ⟨_,rfl,cl,tT sk sz,rfl⟩) (ay ((u0 T).mono (by decide)) hr rfl T.m_rim T.F_rim.kp T.b_rim aA (ac (aa 2 rfl) am ag) ⟨_,rfl,cn,cl,tT sk sz,rfl⟩)) ?_)
 exact rfl
end
section
variable {P:Program} {w:World} {K:PySem.W.Frag} {mg:Str→Option Value} {base:Heap}
theorem ph (l:List P2) (L:List (P2×P2)) (s:P2×P2) (y:Int):cP l (L++[s]) y=cP l L y++(if 0 < s.2.2 - s.1.2 then [vY y s] else []):=by
 unfold cP
 rw [List.filter_append,List.map_append]
 by_cases h:0 < s.2.2 - s.1.2
 ·rw [if_pos h,List.filter_cons_of_pos (by simpa using h)]; rfl
 ·rw [if_neg h,List.filter_cons_of_neg (by simpa using h)]; rfl
theorem o7 (l:List P2) (L:List (P2×P2)) (s:P2×P2) (y:Int):cM l (L++[s]) y=cM l L y++(if s.2.2 - s.1.2 < 0 then [vN y s] else []):=by
 unfold cM
 rw [List.filter_append,List.map_append]
 by_cases h:s.2.2 - s.1.2 < 0
 ·rw [if_pos h,List.filter_cons_of_pos (by simpa using h)]; rfl
 ·rw [if_neg h,List.filter_cons_of_neg (by simpa using h)]; rfl
theorem t6 (l:List P2) (y:Int) (L:List (P2×P2)):(cP l L y).length≤L.length+1∧(cM l L y).length≤L.length+1:=by
 unfold cP cM
 simp only [List.length_cons,List.length_map]
 exact ⟨Nat.succ_le_succ (List.length_filter_le _ _),Nat.succ_le_succ (List.length_filter_le _ _)⟩
def n9:List U→Out→Prop:=fun us o=> ∃ (l:List P2) (y:Int),us=[lp l,.int y]∧l≠[]∧l.length≤900∧(∀ q∈l,Szp 1000 q)∧Sz 1001 y∧o=.val (.tup [.int (fk l y),.int (j8 l y)])
set_option maxHeartbeats 8000000 in
theorem mX (T:Txt K mg):aX P w K mg base (CXF P w) 2 T.a_row_ends T.d_row_ends ["land","y"] (spU K (n9)):=by
 refine bg T.F_row_ends b_ (fun us o h=> ?_) (fun cdv A outer s H E O us o hr h=> ?_)
 ·obtain ⟨l,y,rfl,hne,hl,sz,sy,rfl⟩:=h
  rfl
 obtain ⟨l,y,rfl,hne,hl,sz,sy,rfl⟩:=h
 refine Ws.nox ?_
 obtain ⟨mn,mx,_,m1,m2,q1,q2,_⟩:=r8 hne
 have hx:l.map (·.1)≠[]:=by simpa using hne
 have e1:mn.1=loX l:=by
  have ok:=bU hx
  obtain ⟨q,hq,e⟩:=List.mem_map.mp ok.1
  have a:=ok.2 mn.1 (List.mem_map_of_mem (f:=fun p:P2=> p.1) m1)
  have b:=q1 q hq
  rw [ST.ltP_no] at b
  unfold loX
  omega
 have e2:mx.1=hiX l:=by
  have ok:=cC hx
  obtain ⟨q,hq,e⟩:=List.mem_map.mp ok.1
  have a:=ok.2 mx.1 (List.mem_map_of_mem (f:=fun p:P2=> p.1) m2)
  have b:=q2 q hq
  rw [ST.ltP_no] at b
  unfold hiX
  omega
 refine ae (jl (i:=2) b_.nd rfl (Or.inl rfl) (d8 (aB (aE (ao (zw rfl (nJ hr) m1 q1) rfl T.z_min boot_min (ac (aa 0 rfl) am ag)) ai rfl rfl) bS cw)) ?_)
 refine ae (jl (i:=3) b_.nd rfl (Or.inl rfl) (d8 (aB (aE (ao (yr rfl (nJ hr) m2 q2) rfl T.z_max boot_max (ac (aa 0 rfl) am ag)) ai rfl rfl) bS cw)) ?_)
 rw [e1,e2]
 refine ae (fG (fun i:Nat=> [some (.val (lp l)),some (.val (.int y)),some (.own ((cM l ((sdl l).take i) y).map U.int)),some (.own ((cP l ((sdl l).take i) y).map U.int)),none,none,none,none]) (fun i j=> i=j) rfl PassesOwn.never (cD (EvN.ev (cW ((jg T).mono (by decide)) hr rfl T.m_sides T.F_sides.kp T.b_sides aA (ac (aa 0 rfl) am ag) ⟨l,rfl,hl,rfl⟩)) (.inl rfl)) ?h0 ?hs ?hd)
 case h0=> exact ⟨0,rfl,rfl,rfl,rfl,rfl,trivial⟩
 case hs=>
  rintro H0 i x _ hx' rfl
  have hq:∃ s,(sdl l)[i]?=some s∧x=pq s:=by
   rw [List.getElem?_map] at hx'
   cases e:(sdl l)[i]? with
   | none=> rw [e] at hx'; cases hx'
   | some s=> rw [e] at hx'; cases hx'; exact ⟨s,rfl,rfl⟩
  obtain ⟨s,hs,rfl⟩:=hq
  obtain ⟨n1,n2⟩:=bj (List.mem_of_getElem? hs)
  have hi:i < (sdl l).length:=aG hs
  rw [lr] at hi
  have z1:=(sz _ n1).1
  have z2:=(sz _ n1).2
  have z3:=(sz _ n2).1
  have z4:=(sz _ n2).2
  have tk:(sdl l).take (i+1)=(sdl l).take i++[s]:=by rw [List.take_succ,hs]; rfl
  have bE:=ph l ((sdl l).take i) s y
  have bB:=o7 l ((sdl l).take i) s y
  rw [← tk] at bE bB
  obtain ⟨r1,r2⟩:=t6 l y ((sdl l).take i)
  have r0:((sdl l).take i).length≤i:=by simp; omega
  refine ⟨_,(x9 [4,5] rfl (dl (bi (i:=4) b_.nd rfl (Or.inl rfl)) (dl (bi (i:=5) b_.nd rfl (Or.inl rfl)) i4)) rfl),?_⟩
  refine ae (aF (i:=6) b_.nd rfl (Or.inl rfl) (bv (aE (aa 5 rfl) ai rfl rfl) (aE (aa 4 rfl) ai rfl rfl)) ?_)
  refine ae (aF (i:=7) b_.nd rfl (Or.inl rfl) (bh (bv (aE (aa 5 rfl) ai rfl rfl) (aE (aa 4 rfl) ai rfl rfl)) (bv (aa 1 rfl) (aE (aa 4 rfl) ai rfl rfl)) (by walk_at "mul")) ?_)
  rw [show (s.2.1 - s.1.1) * (y - s.1.2)=i5 s y from rfl]
  have rz:Sz 1001 (s.2.2 - s.1.2):=(L2.Sz.sub' z4 z2).mono (by decide)
  have rn:Sz 1001 (-(s.2.2 - s.1.2)):=rz.natle (by omega)
  show Ws _ _ _ _ _ _ [some (.val (lp l)),some (.val (.int y)),some (.own ((cM l ((sdl l).take i) y).map U.int)),some (.own ((cP l ((sdl l).take i) y).map U.int)),some (.val (pu s.1)),some (.val (pu s.2)),some (.val (.int (s.2.2 - s.1.2))),some (.val (.int (i5 s y)))]
  by_cases p:0 < s.2.2 - s.1.2
  ·rw [if_pos p] at bE
   rw [if_neg (by omega),List.append_nil] at bB
   refine ae (cT (aV jo (aa 6 rfl) ai) (decide_eq_true p) ?_)
   refine ae (fC 3 rfl (bX (aE (aa 4 rfl) ai rfl rfl) (fi (aa 7 rfl) (aa 6 rfl) ⟨p,rz.mono (by decide)⟩)) (by rw [List.length_map]; exact aI (by omega)) (aQ ?_))
   refine ae (dY (aV g9 (aa 6 rfl) ai) (decide_eq_false (by omega)) (aQ (aQ ?_)))
   refine ⟨i+1,rfl,rfl,rfl,?_,?_,trivial⟩
   ·exact congrArg (fun l=> some (Sl.own l)) (by rw [bB])
   ·exact congrArg (fun l=> some (Sl.own l)) (by rw [bE,List.map_append]; rfl)
  ·rw [if_neg p,List.append_nil] at bE
   refine ae (dY (aV jo (aa 6 rfl) ai) (decide_eq_false p) (aQ ?_))
   by_cases n:s.2.2 - s.1.2 < 0
   ·rw [if_pos n] at bB
    refine ae (cT (aV g9 (aa 6 rfl) ai) (decide_eq_true n) ?_)
    refine ae (fC 2 rfl (bv (aE (aa 4 rfl) ai rfl rfl) (fi (aa 7 rfl) (cU (aa 6 rfl)) ⟨by omega,rn.mono (by decide)⟩)) (by rw [List.length_map]; exact aI (by omega)) (aQ (aQ ?_)))
    refine ⟨i+1,rfl,rfl,rfl,?_,?_,trivial⟩
    ·exact congrArg (fun l=> some (Sl.own l)) (by rw [bB,List.map_append]; rfl)
    ·exact congrArg (fun l=> some (Sl.own l)) (by rw [bE])
   ·rw [if_neg n,List.append_nil] at bB
    refine ae (dY (aV g9 (aa 6 rfl) ai) (decide_eq_false n) (aQ (aQ ?_)))
    refine ⟨i+1,rfl,rfl,rfl,?_,?_,trivial⟩
    ·exact congrArg (fun l=> some (Sl.own l)) (by rw [bB])
    ·exact congrArg (fun l=> some (Sl.own l)) (by rw [bE])
 case hd=>
  rintro q ps hq hps
  refine eM ?_ hps
  have e:q=(sdl l).length:=by rw [← hq,List.length_map]
  subst e
  rw [List.take_length]
  refine ln 2 rfl (ln 3 rfl ?_)
  show Ws _ _ _ _ _ _ [some (.val (lp l)),some (.val (.int y)),some (.val (.lst ((cM l (sdl l) y).map U.int))),some (.val (.lst ((cP l (sdl l) y).map U.int))),none,none,none,none]
  refine ae (aH (cO (aB (ao (lC rfl (cC (l:=cM l (sdl l) y) (by unfold cM; simp))) rfl T.z_max boot_max (ac (aa 2 rfl) am ag)) (aB (ao (oB rfl (bU (l:=cP l (sdl l) y) (by unfold cP; simp))) rfl T.z_min boot_min (ac (aa 3 rfl) am ag)) bS cQ) cQ)) ?_)
  exact rfl
end
section
variable {P:Program} {w:World} {K:PySem.W.Frag} {mg:Str→Option Value} {base:Heap}
theorem Ao {a b c d e f a' b' c' d' e' f':Int} (h1:a=a') (h2:b=b') (h3:c=c') (h4:d=d') (h5:e=e') (h6:f=f'):mv a b c d e f=mv a' b' c' d' e' f':=by rw [h1,h2,h3,h4,h5,h6]
theorem yX {a b:P2} (h:a≠b):∃ g s1 t1 s t:Int,eR (b.1 - a.1) (b.2 - a.2) g s1 t1∧g≠0∧eR ((b.1 - a.1) / g) ((b.2 - a.2) / g) 1 s t∧LvP a b g ((b.1 - a.1) / g) ((b.2 - a.2) / g) s t:=by
 obtain ⟨g,s1,t1,G⟩:=lv (b.1 - a.1) (b.2 - a.2)
 have gn:g≠0:=fun e=> h (by
  obtain ⟨h1,h2⟩:=r_ G e
  exact Prod.ext h1 h2)
 have gp:0 < g:=by have:=G.g0; omega
 obtain ⟨g',s,t,G'⟩:=lv ((b.1 - a.1) / g) ((b.2 - a.2) / g)
 have:=sV G gp G'
 subst this
 exact ⟨g,s1,t1,s,t,G,gn,G',gp,Int.mul_ediv_cancel' G.da,Int.mul_ediv_cancel' G.db,G'.eq⟩
theorem wK {a:P2} {u v s t:Int} (h:s * u+t * v=1):zM s t (-v) u (-s * a.1 - t * a.2) (v * a.1 - u * a.2)=mv u (-t) v s a.1 a.2:=by
 have k:s * u - t * -v=1:=by grind
 unfold zM
 rw [k]
 refine Ao (by omega) (by omega) (by omega) (by omega) ?_ ?_
 ·have:-(1 * u * (-s * a.1 - t * a.2)+-1 * t * (v * a.1 - u * a.2))=(s * u+t * v) * a.1:=by grind
  rw [this,h,Int.one_mul]
 ·have:-(-1 * -v * (-s * a.1 - t * a.2)+1 * s * (v * a.1 - u * a.2))=(s * u+t * v) * a.2:=by grind
  rw [this,h,Int.one_mul]
theorem w8 {l:List P2} (F:Fld l) (h2:2≤l.length):gp l 0≠gp l 1:=fun e=> by
 have nd:l.Nodup:=by rw [← F.cr]; exact aZ l
 have:l[0]?=l[1]?:=by rw [dy (by omega),dy (by omega),e]
 have:=(List.getElem?_inj (by omega) nd).mp this
 omega
theorem wH {l:List P2} {n y:Nat} (h:y < n):(jR l (0+(y:Int))).length≤(dO l n).length:=dG (qP _ _) fun p hp=> by
 have k:=eo.mp hp
 refine dE.mpr ⟨by omega,?_⟩
 rw [k.1]; exact k.2
theorem vP {l:List P2} {n y:Nat} (h:y≤n):(dO l y).length≤(dO l n).length:=dG (jU _ _) fun p hp=> by
 have k:=dE.mp hp
 exact dE.mpr ⟨by omega,k.2⟩
def mZ:List U→Out→Prop:=fun us o=> ∃ l:List P2,us=[lp l]∧Fld l∧2≤l.length∧l.length < 64∧(∀ p∈l,Szp 150 p)∧jJ l≤60∧o=.new ((n_ l).map pu)
set_option maxHeartbeats 8000000 in
theorem pf (T:Txt K mg):aX P w K mg base (CXF P w) 6 T.a_by_rows T.d_by_rows ["land"] (spU K (mZ)):=by
 refine bg T.F_by_rows bO (fun us o h=> ?_) (fun cdv A outer s H E O us o hr h=> ?_)
 ·obtain ⟨l,rfl,F,h2,hl,sz,hc,rfl⟩:=h
  rfl
 obtain ⟨l,rfl,F,h2,hl,sz,hc,rfl⟩:=h
 refine Ws.nox ?_
 obtain ⟨g,s1,t1,s,t,G,gn,G1,L⟩:=yX (w8 F h2)
 have z0:=sz _ (ff (l:=l) (i:=0) (by omega))
 have z1:=sz _ (ff (l:=l) (i:=1) (by omega))
 have zx:Sz 151 ((gp l 1).1 - (gp l 0).1):=(L2.Sz.sub' z1.1 z0.1).mono (by decide)
 have zy:Sz 151 ((gp l 1).2 - (gp l 0).2):=(L2.Sz.sub' z1.2 z0.2).mono (by decide)
 have two:t3 (gp l 0).1 (gp l 0).2 (gp l 1).1 (gp l 1).2:=⟨z0.1.mono (by decide),z0.2.mono (by decide),z1.1.mono (by decide),z1.2.mono (by decide)⟩
 have su:Sz 151 (((gp l 1).1 - (gp l 0).1) / g):=zx.ediv
 have sv:Sz 151 (((gp l 1).2 - (gp l 0).2) / g):=zy.ediv
 obtain ⟨_,ss,st⟩:=lU G1 su sv
 refine ae (aF (i:=1) bO.nd rfl (Or.inl rfl) (ay ((u4 T).mono (by decide)) hr rfl T.m_level T.F_level.kp T.b_level aA (ac (aE (aa 0 rfl) ai rfl (qd (i:=0) (by decide) (by omega))) (ac (aE (aa 0 rfl) ai rfl (qd (i:=1) (by decide) (by omega))) am cw) cw) (.inl ⟨_,_,_,_,g,s1,t1,s,t,rfl,two,G,gn,G1,rfl⟩)) ?_)
 have V:=tE F h2 L
 have hlen:=xz F h2 L
 have hmem:=qC F h2 L
 have hnd:=vZ L
 generalize hu:((gp l 1).1 - (gp l 0).1) / g=u at *
 generalize hv:((gp l 1).2 - (gp l 0).2) / g=v at *
 have hd:s * u - t * -v=1:=by have:=L.st; grind
 have a5:Sz 500 s:=ss.mono (by decide)
 have b5:Sz 500 t:=st.mono (by decide)
 have c5:Sz 500 (-v):=(sv.natle (by omega):Sz 151 (-v)).mono (by decide)
 have d5:Sz 500 u:=su.mono (by decide)
 have ns:Sz 310 (-s):=(ss.natle (by omega):Sz _ (-s)).mono (by decide)
 have e5:Sz 500 (-s * (gp l 0).1 - t * (gp l 0).2):=(L2.Sz.sub' (L2.Sz.mul ns z0.1) (L2.Sz.mul (st.mono (n:=310) (by decide)) z0.2)).mono (by decide)
 have f5:Sz 500 (v * (gp l 0).1 - u * (gp l 0).2):=(L2.Sz.sub' (L2.Sz.mul sv z0.1) (L2.Sz.mul su z0.2)).mono (by decide)
 have k5:500≤30000:=by decide
 have M:Mv s t (-v) u (-s * (gp l 0).1 - t * (gp l 0).2) (v * (gp l 0).1 - u * (gp l 0).2):=⟨.inl hd,a5.mono k5,b5.mono k5,c5.mono k5,d5.mono k5,e5.mono k5,f5.mono k5⟩
 refine ae (aF (i:=2) bO.nd rfl (Or.inl rfl) (EvN.ev (cW ((jI T).mono (by decide)) hr rfl T.m_field_moved T.F_field_moved.kp T.b_field_moved aA (ac (aa 0 rfl) (ac (aa 1 rfl) am ag) ag) ⟨l,_,_,_,_,_,_,rfl,.inl hd,⟨a5,b5,c5,d5,e5,f5⟩,oN (by decide) sz,F.ne,hl,rfl⟩)) ?_)
 have mz:∀ p∈ak (l.map (lvF (gp l 0) u v s t)),Szp 1000 p:=fun p hp=> by
  obtain ⟨q,hq,rfl⟩:=List.mem_map.mp (aN _ p hp)
  have z:=xU a5 b5 c5 d5 e5 f5 (by decide) (sz q hq)
  exact ⟨z.1.mono (by decide),z.2.mono (by decide)⟩
 have ml:(ak (l.map (lvF (gp l 0) u v s t))).length≤900:=Nat.le_trans (iT _) (by rw [List.length_map]; omega)
 refine ae (aF (i:=3) bO.nd rfl (Or.inr rfl) (ay ((mR T).mono (by decide)) hr rfl T.m_way_back T.F_way_back.kp T.b_way_back aA (ac (aa 1 rfl) am ag) (.inl ⟨_,_,_,_,_,_,rfl,M,rfl⟩)) ?_)
 rw [wK L.st]
 unfold tz at hlen hmem hnd
 rw [List.length_map] at hlen
 have hbk:∀ p:P2,pu (bkF (gp l 0) u v s t p)=pt (u * p.1+-t * p.2+(gp l 0).1) (v * p.1+s * p.2+(gp l 0).2):=fun p=> rfl
 have nt:Sz 30000 (-t):=(st.natle (by omega):Sz _ (-t)).mono (by decide)
 have MB:Mv u (-t) v s (gp l 0).1 (gp l 0).2:=⟨.inl (by have:=L.st; grind),d5.mono k5,nt,sv.mono (by decide),a5.mono k5,z0.1.mono (by decide),z0.2.mono (by decide)⟩
 have mne:=V.F.ne
 have hY:=cC (l:=(ak (l.map (lvF (gp l 0) u v s t))).map (·.2)) (by simpa using mne)
 have zY:Sz 1000 (hiY (ak (l.map (lvF (gp l 0) u v s t)))):=by
  obtain ⟨q,hq,e⟩:=uR mne
  rw [← e]; exact (mz q hq).2
 show Ws _ _ _ _ _ _ [some (.val (lp l)),some (.val (mv s t (-v) u (-s * (gp l 0).1 - t * (gp l 0).2) (v * (gp l 0).1 - u * (gp l 0).2))),some (.val (lp (ak (l.map (lvF (gp l 0) u v s t))))),some (.val (mv u (-t) v s (gp l 0).1 (gp l 0).2)),none,none,none,none,none]
 generalize hM:ak (l.map (lvF (gp l 0) u v s t))=m at *
 refine ae (jl (i:=4) bO.nd rfl (Or.inl rfl) (d8 bS) ?_)
 refine ae (fG (fun i:Nat=> [some (.val (lp l)),some (.val (mv s t (-v) u (-s * (gp l 0).1 - t * (gp l 0).2) (v * (gp l 0).1 - u * (gp l 0).2))),some (.val (lp m)),some (.val (mv u (-t) v s (gp l 0).1 (gp l 0).2)),some (.own (((dO m i).map (bkF (gp l 0) u v s t)).map pu)),none,none,none,none]) (fun i j=> i=j) rfl PassesOwn.never (sA rfl T.z_range (ac (bX (ao (lC rfl hY) rfl T.z_max boot_max (ac (EvN.ev (d9 (ys:=((m.map (·.2)).map U.int)) rfl (blk (ah cG) ["land","move","levelled","back","found","y","ends","x","P"] [8] rfl rfl rfl rfl (by decide+kernel)) (cD (aa 2 rfl) (.inl rfl)) (fun _ _ _ _=> bi (i:=8) bO.nd rfl (Or.inl rfl)) (bW (by decide)) ?clen ?csz (fun _ _=> trivial) ?celt)) am dh)) ai) am bJ)) ?h0 ?hs ?hd)
 case clen=> simp
 case csz=> rw [List.length_map]; exact Nat.le_of_lt (aI (by omega))
 case celt=>
  intro C s' H' fp j x y hx hy
  rw [List.map_map] at hy
  obtain ⟨p,hp,mp,rfl,rfl⟩:=dC hx hy
  exact (aE (aa 8 rfl) ai rfl rfl)
 case h0=> exact ⟨0,rfl,rfl,rfl,rfl,rfl,rfl,trivial⟩
 case hs=>
  rintro H0 i x _ hx rfl
  obtain ⟨hi,rfl⟩:=dL hx
  have hi':i < (hiY m+1).toNat:=by
   have:hiL (m.map (·.2))=hiY m:=rfl
   rw [this] at hi
   omega
  have rf:=wH (l:=m) hi'
  have rg:=vP (l:=m) (Nat.le_of_lt hi')
  have iz:Sz 1001 (0+(i:Int)):=by
   have one:Sz 1000 (1:Int):=Sz.mono (m:=8) (by decide) (by decide)
   exact Sz.le (by omega) (L2.Sz.add' zY one)
  have rl:(jR m (0+(i:Int))).length=(j8 m (0+(i:Int))+1 - fk m (0+(i:Int))).toNat:=by unfold jR gJ; simp
  refine ⟨_,(gH (i:=5) bO.nd rfl (Or.inr rfl)),?_⟩
  refine ae (aF (i:=6) bO.nd rfl (Or.inl rfl) (ay ((mX T).mono (by decide)) hr rfl T.m_row_ends T.F_row_ends.kp T.b_row_ends aA (ac (aa 2 rfl) (ac (aa 5 rfl) am ag) ag) ⟨m,_,rfl,mne,ml,mz,iz,rfl⟩) ?_)
  refine ae (uN 4 rfl (EvN.ev (d9 (ys:=(((jR m (0+(i:Int))).map (bkF (gp l 0) u v s t)).map pu)) rfl (blk (ah cG) ["land","move","levelled","back","found","y","ends","x","P"] [7] rfl rfl rfl rfl (by decide+kernel)) (rZ rfl T.z_range (ac (aE (aa 6 rfl) ai rfl rfl) (ac (bX (aE (aa 6 rfl) ai rfl rfl) ai) am bJ) cw)) (fun _ _ _ _=> bi (i:=7) bO.nd rfl (Or.inl rfl)) (bW (by decide)) ?clen ?csz (fun _ _=> trivial) ?celt)) (by simp only [List.length_map]; exact Nat.le_of_lt (aI (by omega))) (aQ ?_))
  case clen=> rw [bZ,List.length_map,List.length_map,rl]
  case csz=> rw [bZ]; exact Nat.le_of_lt (aI (by omega))
  case celt=>
   intro C s' H' fp j x y hx hy
   obtain ⟨hj,rfl⟩:=dL hx
   have ey:y=pu (bkF (gp l 0) u v s t (fk m (0+(i:Int))+(j:Int),0+(i:Int))):=by
    unfold jR gJ at hy
    rw [List.map_map,List.map_map,List.map_map,List.getElem?_map,List.getElem?_range hj] at hy
    cases hy; rfl
   have hp:(fk m (0+(i:Int))+(j:Int),0+(i:Int))∈jR m (0+(i:Int)):=eo.mpr ⟨rfl,by dsimp only; omega,by dsimp only; omega⟩
   have hq:(fk m (0+(i:Int))+(j:Int),0+(i:Int))∈dO m (hiY m+1).toNat:=by
    have k:=eo.mp hp
    exact dE.mpr ⟨by dsimp only; omega,k.2⟩
   have bx:=(e6 mne).mp (V.F.in_box ((jN V _).mp hq))
   have zX:Sz 30000 (fk m (0+(i:Int))+(j:Int)):=by
    obtain ⟨q1,m1,e1⟩:=List.mem_map.mp (bU (l:=m.map (·.1)) (by simpa using mne)).1
    obtain ⟨q2,m2,e2⟩:=List.mem_map.mp (cC (l:=m.map (·.1)) (by simpa using mne)).1
    have y1:=(mz q1 m1).1
    have y2:=(mz q2 m2).1
    have b1:q1.1≤fk m (0+(i:Int))+(j:Int):=by have:=bx.1.1; unfold loX at this; rw [← e1] at this; exact this
    have b2:fk m (0+(i:Int))+(j:Int)≤q2.1:=by have:=bx.1.2; unfold hiX at this; rw [← e2] at this; exact this
    rcases Int.lt_or_le (fk m (0+(i:Int))+(j:Int)) 0 with z | z
    ·exact (y1.natle (by omega):Sz 1000 _).mono (by decide)
    ·exact (y2.natle (by omega):Sz 1000 _).mono (by decide)
   rw [ey,hbk]
   exact (ay ((nN T).mono (by decide)) hr rfl T.m_moved T.F_moved.kp T.b_moved aA (ac (cO (aB (aa 7 rfl) (aB (aa 5 rfl) bS ag) ag)) (ac (aa 3 rfl) am ag) tI) (.inl ⟨_,_,_,_,_,_,_,_,rfl,MB,zX,iz.mono (by decide),rfl⟩))
  refine ⟨i+1,rfl,rfl,rfl,rfl,rfl,?_,trivial⟩
  exact congrArg (fun l=> some (Sl.own l)) (by rw [jP,List.map_append,List.map_append])
 case hd=>
  rintro q ps hq hps
  refine eM ?_ hps
  rw [bZ] at hq
  have e:q=(hiY m+1).toNat:=by rw [← hq]; show (hiY m+1 - 0).toNat=_; omega
  subst e
  refine ln 4 rfl ?_
  have fs:=lP F hmem
  have n64:((dO m (hiY m+1).toNat).map (bkF (gp l 0) u v s t)).length < 64:=by rw [List.length_map]; omega
  refine ae (fF (qq rfl T.z_sorted (aa 4 rfl) ⟨n64,hnd⟩ ag) ?_)
  rw [fs]
def nC (C:Addr):List U→Out→Prop:=fun us o=> ∃ l:List P2,us=[lp l]∧Fld l∧l.length < 64∧(∀ p∈l,Szp 150 p)∧((jJ l≤60∧o=.new ((n_ l).map pu))∨(100 < jJ l∧o=.exc C))
set_option maxHeartbeats 8000000 in
theorem sC (T:Txt K mg):aX P w K mg base (CXF P w) 8 T.a_stakes T.d_stakes ["land"] (spU K (nC T.c_TooMany)):=by
 refine bg T.F_stakes qT (by rintro us o ⟨_,rfl,_⟩; rfl) (fun cdv A outer s H E O us o hr h=> ?_)
 obtain ⟨l,rfl,F,hl,sz,h⟩:=h
 have hm:((l.map pu).length:Int)=(l.length:Int):=by rw [List.length_map]
 have one:ak (l.map (scl 1))=l:=by rw [show scl 1=id from funext wO,List.map_id]; exact F.cr
 have cs:jE [lp l,.int 1] (.val (.int (jJ l))):=⟨l,1,rfl,by decide,Sz.mono (m:=8) (by decide) (by decide),oN (by decide) sz,F.ne,hl,by rw [one]⟩
 have l0:0 < l.length:=List.length_pos_iff.mpr F.ne
 rcases h with ⟨hc,rfl⟩ | ⟨hc,rfl⟩
 ·refine ae (dY (aV jo (pU ((mV T).mono (by decide)) hr rfl T.m_count T.F_count.kp T.bd_count aA (ac (aa 0 rfl) am ag) cs) (yk rfl T.g_MOST_STAKES)) (decide_eq_false (by omega)) (aQ ?_))
  refine Ws.nox ?_
  by_cases h1:l.length=1
  ·refine ae (cT (aV dX (ao (dn rfl) rfl T.z_len PySem.boot_len (ac (aa 0 rfl) am ag)) ai) (by rw [hm]; exact decide_eq_true (by omega)) ?_)
   refine ae (fF (qB (uo rfl) rfl T.z_list boot_list (ac (aa 0 rfl) am ag)) ?_)
   obtain ⟨A,rfl⟩:=List.length_eq_one_iff.mp h1
   have:n_ [A]=[A]:=by
    rw [← lP (R:=[A]) F fun p=> by rw [ig]; simp]
    exact dJ (pts:=[A]) (by have:=ST.srt_len [A]; simp at this; omega) ▸ F.cr
   rw [this]
  ·refine ae (dY (aV dX (ao (dn rfl) rfl T.z_len PySem.boot_len (ac (aa 0 rfl) am ag)) ai) (by rw [hm]; exact decide_eq_false (by omega)) (aQ ?_))
   refine ae (fF (cW ((pf T).mono (by decide)) hr rfl T.m_by_rows T.F_by_rows.kp T.b_by_rows aA (ac (aa 0 rfl) am ag) ⟨l,rfl,F,by omega,hl,sz,hc,rfl⟩) ?_)
   exact rfl
 ·refine ae (cT (aV jo (pU ((mV T).mono (by decide)) hr rfl T.m_count T.F_count.kp T.bd_count aA (ac (aa 0 rfl) am ag) cs) (yk rfl T.g_MOST_STAKES)) (decide_eq_true (by omega)) ?_)
  refine ae (iR T.x_TooMany rfl T.mx_TooMany qc ?_)
  exact rfl
end
section
variable {P:Program} {w:World} {K:PySem.W.Frag} {mg:Str→Option Value} {base:Heap}
def f_ (ns:List Int) (k:Int):Int:=if k < (ns.length:Int) then ns.getD k.toNat 0 else 0
theorem qo {ns:List Int} (h:∀ m∈ns,Sz 1048576 m) (k:Int):Sz 1048576 (f_ ns k):=by
 unfold f_
 split
 ·exact wb h _
 ·exact Sz.mono (m:=8) (by decide) (by decide)
def sL:List U→Out→Prop:=fun us o=> ∃ (ns:List Int) (k:Int),us=[.scr (ns.map U.int),.int k]∧0≤k∧o=.val (.int (f_ ns k))
set_option maxHeartbeats 8000000 in
theorem bC (T:Txt K mg):aX P w K mg base (CXF P w) 1 T.a__law_cell_at T.d__law_cell_at ["script","k"] (spU K (sL)):=by
 refine bg T.F__law_cell_at iI (fun us o h=> ?_) (fun cdv A outer s H E O us o hr h=> ?_)
 ·obtain ⟨ns,k,rfl,h0,rfl⟩:=h
  rfl
 obtain ⟨ns,k,rfl,h0,rfl⟩:=h
 refine Ws.nox ?_
 have hm:((ns.map U.int).length:Int)=(ns.length:Int):=by rw [List.length_map]
 refine ae (h9 (aV g9 (aa 1 rfl) (ao (dn rfl) rfl T.z_len PySem.boot_len (ac (aa 0 rfl) am ag))) (fun hT=> ?_) (fun hF=> (aQ ?_)))
 ·rw [hm] at hT
  have hk:=dTb hT
  refine ae (aH (aE (aa 0 rfl) (aa 1 rfl) rfl (uU h0 hk)) ?_)
  exact vIO (by unfold f_; rw [if_pos hk])
 ·rw [hm] at hF
  have hk:=dFb hF
  refine ae (aH ai ?_)
  exact vIO (by unfold f_; rw [if_neg hk])
def wM:List U→Out→Prop:=fun us o=> ∃ n:Int,us=[.int n]∧o=.val (.bl true)
set_option maxHeartbeats 8000000 in
theorem gf (T:Txt K mg):aX P w K mg base (CXF P w) 1 T.a__law_whole T.d__law_whole ["found"] (spU K (wM)):=by
 refine bg T.F__law_whole jY (fun us o h=> ?_) (fun cdv A outer s H E O us o hr h=> ?_)
 ·obtain ⟨n,rfl,rfl⟩:=h
  rfl
 obtain ⟨n,rfl,rfl⟩:=h
 refine Ws.nox ?_
 refine ae (aH (fj (ao (aD (by intro _ h; cases h) (by walk_at "kit")) rfl T.z_isinstance boot_isinstance (ac (aa 0 rfl) (ac (cS rfl T.z_int boot_int) am ag) ag)) (fun hz=> (gg (gM (ao (aD (by intro _ h; cases h) (by walk_at "kit")) rfl T.z_isinstance boot_isinstance (ac (aa 0 rfl) (ac (cS rfl T.z_bool boot_bool) am ag) ag)))))) ?_)
 exact rfl
def rP:List U→Out→Prop:=fun us o=> ∃ p:P2,us=[pu p]∧o=.val (.bl true)
set_option maxHeartbeats 8000000 in
theorem ij (T:Txt K mg):aX P w K mg base (CXF P w) 2 T.a__law_is_point T.d__law_is_point ["found"] (spU K (rP)):=by
 refine bg T.F__law_is_point io (fun us o h=> ?_) (fun cdv A outer s H E O us o hr h=> ?_)
 ·obtain ⟨p,rfl,rfl⟩:=h
  rfl
 obtain ⟨p,rfl,rfl⟩:=h
 refine Ws.nox ?_
 refine ae (aH (fj (ao (aD (by intro _ h; cases h) (by walk_at "kit")) rfl T.z_isinstance boot_isinstance (ac (aa 0 rfl) (ac (cS rfl T.z_tuple boot_tuple) am ag) ag)) (fun hz=> (fj (lZ dX (ao (dn rfl) rfl T.z_len PySem.boot_len (ac (aa 0 rfl) am ag)) ai) (fun hz=> (fj (ay ((gf T).mono (by decide)) hr rfl T.m__law_whole T.F__law_whole.kp T.b__law_whole aA (ac (aE (aa 0 rfl) ai rfl rfl) am cw) ⟨_,rfl,rfl⟩) (fun hz=> (gg (ay ((gf T).mono (by decide)) hr rfl T.m__law_whole T.F__law_whole.kp T.b__law_whole aA (ac (aE (aa 0 rfl) ai rfl rfl) am cw) ⟨_,rfl,rfl⟩)))))))) ?_)
 exact rfl
def oR:List U→Out→Prop:=fun us o=> ∃ P Q R:P2,us=[pu P,pu Q,pu R]∧Szp 5000 P∧Szp 5000 Q∧Szp 5000 R∧o=.val (.int (af P Q R))
set_option maxHeartbeats 8000000 in
theorem gu (T:Txt K mg):aX P w K mg base (CXF P w) 1 T.a__law_cross T.d__law_cross ["one","two","three"] (spU K (oR)):=by
 refine bg T.F__law_cross gd (fun us o h=> ?_) (fun cdv A outer s H E O us o hr h=> ?_)
 ·obtain ⟨P,Q,R,rfl,⟨p1,p2⟩,⟨q1,q2⟩,⟨r1,r2⟩,rfl⟩:=h
  rfl
 obtain ⟨P,Q,R,rfl,⟨p1,p2⟩,⟨q1,q2⟩,⟨r1,r2⟩,rfl⟩:=h
 refine Ws.nox ?_
 refine ae (aF (i:=3) gd.nd rfl (Or.inl rfl) (bh (bv (aE (aa 1 rfl) ai rfl rfl) (aE (aa 0 rfl) ai rfl rfl)) (bv (aE (aa 2 rfl) ai rfl rfl) (aE (aa 0 rfl) ai rfl rfl)) (by walk_at "mul")) ?_)
 refine ae (aH (bv (aa 3 rfl) (bh (bv (aE (aa 1 rfl) ai rfl rfl) (aE (aa 0 rfl) ai rfl rfl)) (bv (aE (aa 2 rfl) ai rfl rfl) (aE (aa 0 rfl) ai rfl rfl)) (by walk_at "mul"))) ?_)
 exact rfl
end
section
variable {P:Program} {w:World} {K:PySem.W.Frag} {mg:Str→Option Value} {base:Heap}
theorem vR {pts:List P2} (h:(ST.srt pts).length=2):ak pts=ST.srt pts:=by
 match e:ST.srt pts,h with
 | [a,b],_=>
  unfold ak
  rw [e]
  simp [aj,aR]
def hG (row:List P2) (j:Nat):List P2:=if j=0 then [] else if j=1 then (aj row).reverse.dropLast else (aj row).reverse.dropLast++(aj row.reverse).reverse.dropLast
def j6:List U→Out→Prop:=fun us o=> ∃ pts:List P2,us=[lp pts]∧(∀ p∈pts,Szp 5000 p)∧pts.length < 64∧o=.val (lp (ak pts))
set_option maxHeartbeats 8000000 in
theorem fg (T:Txt K mg):aX P w K mg base (CXF P w) 2 T.a__law_corners T.d__law_corners ["points"] (spU K (j6)):=by
 refine bg T.F__law_corners bn (fun us o h=> ?_) (fun cdv A outer s H E O us o hr h=> ?_)
 ·obtain ⟨pts,rfl,sz,hl,rfl⟩:=h
  rfl
 obtain ⟨pts,rfl,sz,hl,rfl⟩:=h
 refine Ws.nox ?_
 have sl:=ST.srt_len pts
 have hms:(((ST.srt pts).map pu).length:Int)=((ST.srt pts).length:Int):=by rw [List.length_map]
 have szs:=uT sz
 have b1:=fL (ST.srt pts)
 have b2:=fL (ST.srt pts).reverse
 rw [List.length_reverse] at b2
 refine ae (aF (i:=1) bn.nd rfl (Or.inl rfl) (EvN.ev (iq rfl (nJ hr) rfl T.z_sorted rfl T.z_set (aa 0 rfl) hl ag)) ?_)
 by_cases h1:(ST.srt pts).length < 3
 ·have ec:ak pts=ST.srt pts:=by
   by_cases h2:(ST.srt pts).length=2
   ·exact vR h2
   ·exact dJ (by omega)
  refine ae (cT (aV g9 (ao (dn rfl) rfl T.z_len PySem.boot_len (ac (aa 1 rfl) am ag)) ai) (by rw [hms]; exact decide_eq_true (by omega)) ?_)
  refine ae (aH (aa 1 rfl) ?_)
  rw [ec]
 ·have ec:ak pts=hG (ST.srt pts) 2:=by unfold ak hG; rw [if_neg (by omega)]; rfl
  rw [ec]
  refine ae (dY (aV g9 (ao (dn rfl) rfl T.z_len PySem.boot_len (ac (aa 1 rfl) am ag)) ai) (by rw [hms]; exact decide_eq_false (by omega)) (aQ ?_))
  generalize ST.srt pts=row at *
  refine ae (aF (i:=2) bn.nd rfl (Or.inl rfl) (EvN.ev (d8 bS)) ?_)
  refine ae (fG (fun j:Nat=> [some (.val (lp pts)),some (.val (lp row)),some (.val (lp (hG row j))),none,none,none]) (fun i j=> i=j) rfl PassesOwn.never (cD (EvN.ev (d8 (aB (aa 1 rfl) (aB (EvN.ev (sM rfl rfl T.z_list rfl T.z_reversed (aa 1 rfl) ag)) bS cQ) ag))) (.inl rfl)) ?h0 ?hs ?hd)
  case h0=> exact ⟨0,rfl,rfl,rfl,rfl,trivial⟩
  case hs=>
   rintro H0 j x _ hx rfl
   have hz:∃ w:List P2,x=lp w∧(∀ p∈w,Szp 5000 p)∧w.length≤63∧hG row (j+1)=hG row j++(aj w).reverse.dropLast∧(hG row j).length≤63:=by
    match j,hx with
    | 0,hx=>
     cases hx
     exact ⟨row,rfl,szs,by omega,by simp [hG],by simp [hG]⟩
    | 1,hx=>
     have e:x=U.lst ((row.map pu).reverse):=by cases hx; rfl
     subst e
     exact ⟨row.reverse,by rw [lp,List.map_reverse],fun p hp=> szs p (List.mem_reverse.mp hp),by rw [List.length_reverse]; omega,by simp [hG],by simp [hG]; omega⟩
    | j+2,hx=> simp at hx
   obtain ⟨w,rfl,wz,wl,hacc,hal⟩:=hz
   refine ⟨_,(gH (i:=3) bn.nd rfl (Or.inl rfl)),?_⟩
   have bw:=fL w
   refine ae (jl (i:=4) bn.nd rfl (Or.inl rfl) (d8 bS) ?_)
   refine i_ (fun ps=> SubP [some (.val (lp pts)),some (.val (lp row)),some (.val (lp (hG row j))),some (.val (lp w)),some (.own ((aj w).reverse.map pu)),none] ps) (fG (fun st:List P2=> [some (.val (lp pts)),some (.val (lp row)),some (.val (lp (hG row j))),some (.val (lp w)),some (.own (st.reverse.map pu)),none]) (fun i st=> st=aj (w.take i)) rfl PassesOwn.never (cD (aa 3 rfl) (.inl rfl)) ?h02 ?hs2 ?hd2) ?hj
   case h02=> exact ⟨[],rfl,rfl,rfl,rfl,rfl,rfl,trivial⟩
   case hs2=>
    rintro H0 i x _ hx rfl
    obtain ⟨P,hP,mP,rfl⟩:=qG hx
    have hi:i < w.length:=aG hP
    have sP:=wz P mP
    refine ⟨_,(gH (i:=5) bn.nd rfl (Or.inl rfl)),?_⟩
    have len0:=fQ w i
    refine i_ (fun ps=> SubP [some (.val (lp pts)),some (.val (lp row)),some (.val (lp (hG row j))),some (.val (lp w)),some (.own ((aR P (aj (w.take i))).reverse.map pu)),some (.val (pu P))] ps) (jH (fun s2:List P2=> [some (.val (lp pts)),some (.val (lp row)),some (.val (lp (hG row j))),some (.val (lp w)),some (.own (s2.reverse.map pu)),some (.val (pu P))]) (fun m s2=> m=s2.length∧aR P s2=aR P (aj (w.take i))∧(∀ p∈s2,p∈w)∧s2.length≤i) PassesOwn.never ?h03 ?hs3) ?hj3
    case h03=> exact ⟨_,_,⟨rfl,rfl,fun q hq=> eT w i q hq,len0⟩,rfl,rfl,rfl,rfl,rfl,rfl,trivial⟩
    case hs3=>
     rintro m s2 ⟨rfl,e2,sub,len2⟩
     match s2,e2,sub,len2 with
     | [],e2,sub,len2=>
      refine ⟨false,?_,fun h=> (nomatch h),fun h ps hps=> e2 ▸ hps⟩
      exact (Tw.t (lw (aV jo (gB 4 rfl rfl T.z_len) ai) rfl))
     | [b],e2,sub,len2=>
      refine ⟨false,?_,fun h=> (nomatch h),fun h ps hps=> e2 ▸ hps⟩
      exact (Tw.t (lw (aV jo (gB 4 rfl rfl T.z_len) ai) rfl))
     | b::a::r,e2,sub,len2=>
      have sa:=wz a (sub a (by simp))
      have sb:=wz b (sub b (by simp))
      have e1:decide ((1:Int) < ((((b::a::r).reverse.map pu).length:Nat):Int))=true:=decide_eq_true (by simp; omega)
      refine ⟨decide ((1:Int) < ((((b::a::r).reverse.map pu).length:Nat):Int)) && decide (af a b P≤0),?_,fun h=> ?_,fun h ps hps=> ?_⟩
      ·exact (Tw.t (tK (aV jo (gB 4 rfl rfl T.z_len) ai) (fun hz=> (ux (aV AK (ay ((gu T).mono (by decide)) hr rfl T.m__law_cross T.F__law_cross.kp T.b__law_cross aA (ac (pA 4 rfl (cU ai) (yj b a r)) (ac (pA 4 rfl (cU ai) (yf b (a::r))) (ac (aa 5 rfl) am ag) cw) cw) ⟨a,b,P,rfl,sa,sb,sP,rfl⟩) ai)))))
      ·rw [e1,Bool.true_and] at h
       have hd:=dTb h
       refine ae (xV 4 rfl (by simp) (aQ ?_))
       refine ⟨_,a::r,?_,⟨rfl,?_,fun q hq=> sub q (List.mem_cons_of_mem _ hq),?_⟩,rfl,rfl,rfl,rfl,?_,rfl,trivial⟩
       ·simp
       ·rw [← e2]; conv=> rhs; unfold aR
        rw [if_pos hd]
       ·simp only [List.length_cons] at *; omega
       ·exact congrArg (fun l=> some (Sl.own l)) (by simp)
      ·rw [e1,Bool.true_and] at h
       have hd:=dFb h
       have e3:aR P (b::a::r)=b::a::r:=by conv=> lhs; unfold aR
                                          rw [if_neg hd]
       rw [← e2,e3]
       exact hps
    case hj3=>
     intro ps hps
     refine eM ?_ hps
     have e4:=eV hP
     have len3:=iX P (aj (w.take i))
     refine ae (fC 4 rfl (aa 5 rfl) (by rw [List.length_map,List.length_reverse]; exact aI (by omega)) (aQ ?_))
     refine ⟨_,rfl,rfl,rfl,rfl,rfl,?_,trivial⟩
     exact congrArg (fun l=> some (Sl.own l)) (by rw [e4]; simp)
   case hd2=>
    rintro st ps hst hps
    rw [hst] at hps
    rw [List.length_map,List.take_length] at hps
    exact hps
   case hj=>
    intro ps hps
    refine eM ?_ hps
    refine ln 4 rfl ?_
    refine ae (aF (i:=2) bn.nd rfl (Or.inl rfl) (EvN.ev (uC (aa 2 rfl) (EvN.ev (fR (aa 4 rfl) jq (gz (cU ai)) (.inl rfl))) (by rw [ii,List.length_map,List.length_map,List.length_dropLast,List.length_reverse]; exact Nat.le_of_lt (aI (by omega))))) (aQ ?_))
    rw [ii,← List.map_append,← hacc]
    exact ⟨j+1,rfl,rfl,rfl,rfl,trivial⟩
  case hd=>
   rintro q ps hq hps
   refine eM ?_ hps
   have:q=2:=by rw [← hq]; rfl
   subst this
   refine ae (aH (aa 2 rfl) ?_)
   exact rfl
end
section
variable {P:Program} {w:World} {K:PySem.W.Frag} {mg:Str→Option Value} {base:Heap}
def fY (l:List P2) (p:P2):Bool:=decide (∀ s∈pvl l,0≤af s.1 s.2 p)
def oV:List U→Out→Prop:=fun us o=> ∃ (l:List P2) (p:P2),us=[lp l,pu p]∧l.length≤900∧(∀ q∈l,Szp 2500 q)∧Szp 2500 p∧o=.val (.bl (fY l p))
set_option maxHeartbeats 8000000 in
theorem j7 (T:Txt K mg):aX P w K mg base (CXF P w) 2 T.a__law_holds T.d__law_holds ["ends","spot"] (spU K (oV)):=by
 refine bg T.F__law_holds ge (fun us o h=> ?_) (fun cdv A outer s H E O us o hr h=> ?_)
 ·obtain ⟨l,p,rfl,hl,sz,sp,rfl⟩:=h
  rfl
 obtain ⟨l,p,rfl,hl,sz,sp,rfl⟩:=h
 refine Ws.nox ?_
 have hm:((l.map pu).length:Int)=(l.length:Int):=by rw [List.length_map]
 refine ae (fG (fun _:Unit=> [some (.val (lp l)),some (.val (pu p)),none]) (fun i _=> ∀ j,j < i→0≤af (prv l j) (gp l j) p) rfl PassesOwn.never (u5 rfl T.z_range (ac (ao (dn rfl) rfl T.z_len PySem.boot_len (ac (aa 0 rfl) am ag)) am cQ) (by rw [hm]; omega) (by rw [hm]; omega)) ?h0 ?hs ?hd)
 case h0=> exact ⟨(),fun j hj=> by omega,rfl,rfl,trivial⟩
 case hs=>
  rintro H0 i x _ hx I
  obtain ⟨hi,rfl⟩:=dL hx
  have hi':i < l.length:=by rw [hm] at hi; omega
  refine ⟨_,(gH (i:=2) ge.nd rfl (Or.inl rfl)),?_⟩
  refine ae (h9 (aV g9 (ay ((gu T).mono (by decide)) hr rfl T.m__law_cross T.F__law_cross.kp T.b__law_cross aA (ac (aE (aa 0 rfl) (bv (aa 2 rfl) ai) rfl (yw hi')) (ac (aE (aa 0 rfl) (aa 2 rfl) rfl (qd (i:=i) (by omega) hi')) (ac (aa 1 rfl) am ag) cw) cw) ⟨_,_,p,rfl,Szp.mono (sz _ (wN hi')) (by decide),Szp.mono (sz _ (ff hi')) (by decide),Szp.mono sp (by decide),rfl⟩) ai) (fun hT=> ?_) (fun hF=> (aQ (aQ ?_))))
  ·have h:=dTb hT
   refine ae (aH i9 ?_)
   refine vB (Eq.symm (decide_eq_false fun z=> ?_))
   have:=z (prv l i,gp l i) (List.mem_map.mpr ⟨i,List.mem_range.mpr hi',rfl⟩)
   dsimp only at this; omega
  ·have h:=dFb hF
   refine ⟨(),fun j hj=> ?_,rfl,rfl,trivial⟩
   by_cases hji:j < i
   ·exact I j hji
   ·have:j=i:=by omega
    subst this; omega
 case hd=>
  rintro _ ps I hps
  refine eM ?_ hps
  refine ae (aH i9 ?_)
  refine vB (Eq.symm (decide_eq_true fun s hs=> ?_))
  obtain ⟨j,hj,rfl⟩:=List.mem_map.mp hs
  exact I j (by rw [bZ,hm]; have:=List.mem_range.mp hj; omega)
end
section
variable {P:Program} {w:World} {K:PySem.W.Frag} {mg:Str→Option Value} {base:Heap}
def jB (a y:Int) (j:Nat):List P2:=(gJ y j).map fun b=> (a,b)
theorem kn (a:Int) (n:Nat):gJ a (n+1)=gJ a n++[a+(n:Int)]:=by
 unfold gJ
 rw [List.range_succ,List.map_append]; rfl
theorem qX (a y:Int) (j:Nat):jB a y (j+1)=jB a y j++[(a,y+(j:Int))]:=by
 unfold jB
 rw [kn,List.map_append]; rfl
theorem kg (x:Int) (n:Nat) (y:Int) (m:Nat):il x (n+1) y m=il x n y m++jB (x+(n:Int)) y m:=by
 unfold il jB
 rw [kn,List.map_append,List.flatten_append]
 congr 1
 show [List.map _ _].flatten=_
 rw [List.flatten_cons,List.flatten_nil,List.append_nil]
theorem mq (a y:Int) (j:Nat):(jB a y j).length=j:=by unfold jB gJ; simp
theorem jr (x:Int) (y:Int) (m:Nat):∀ n:Nat,(il x n y m).length=n * m
 | 0=> by unfold il gJ; simp
 | n+1=> by rw [kg,List.length_append,jr x y m n,mq,Nat.succ_mul]
def Sm (p:P2):Prop:=0≤p.1∧p.1≤6∧0≤p.2∧p.2≤4
theorem nR {p:P2} (h:Sm p):Szp 8 p:=by unfold Sm at h; constructor <;> unfold Sz <;> omega
theorem uz {l:List P2} (hne:l≠[]) (h:∀ p∈l,Sm p):(0≤loX l∧loX l≤hiX l∧hiX l≤6)∧0≤loY l∧loY l≤hiY l∧hiY l≤4:=by
 have hx:l.map (·.1)≠[]:=by simpa using hne
 have hy:l.map (·.2)≠[]:=by simpa using hne
 obtain ⟨q1,m1,e1⟩:=List.mem_map.mp (bU hx).1
 obtain ⟨q2,m2,e2⟩:=List.mem_map.mp (cC hx).1
 obtain ⟨q3,m3,e3⟩:=List.mem_map.mp (bU hy).1
 obtain ⟨q4,m4,e4⟩:=List.mem_map.mp (cC hy).1
 have l1:=(bU hx).2 _ (cC hx).1
 have l2:=(bU hy).2 _ (cC hy).1
 have n1:=h _ m1
 have n2:=h _ m2
 have n3:=h _ m3
 have n4:=h _ m4
 unfold Sm at n1 n2 n3 n4
 unfold loX hiX loY hiY
 omega
def mO:List U→Out→Prop:=fun us o=> ∃ l:List P2,us=[lp l]∧l≠[]∧l.length≤60∧(∀ q∈l,Sm q)∧o=.new (((box l).filter (fY l)).map pu)
set_option maxHeartbeats 8000000 in
theorem jw (T:Txt K mg):aX P w K mg base (CXF P w) 3 T.a__law_walked T.d__law_walked ["ends"] (spU K (mO)):=by
 refine bg T.F__law_walked be (fun us o h=> ?_) (fun cdv A outer s H E O us o hr h=> ?_)
 ·obtain ⟨l,rfl,hne,hl,hs,rfl⟩:=h
  rfl
 obtain ⟨l,rfl,hne,hl,hs,rfl⟩:=h
 refine Ws.nox ?_
 have sz:∀ q∈l,Szp 2500 q:=fun q hq=> Szp.mono (nR (hs q hq)) (by decide)
 have hx:l.map (·.1)≠[]:=by simpa using hne
 have hy:l.map (·.2)≠[]:=by simpa using hne
 refine ae (j_ (ys:=((l.map (·.1)).map U.int)) (j:=1) false rfl be.nd rfl (Or.inl rfl) (blk (ah bp) ["ends","xs","spot","ys","some","x","y"] [2] rfl rfl rfl rfl (by decide+kernel)) (cD (aa 0 rfl) (.inl rfl)) (fun _ _ _ _=> bi (i:=2) be.nd rfl (Or.inl rfl)) (bW (by decide)) ?clen ?csz (fun _ _=> trivial) ?celt ?_)
 case clen=> simp
 case csz=> rw [List.length_map]; exact Nat.le_of_lt (aI (by omega))
 case celt=>
  intro C s' H' fp j x y hx hy
  rw [List.map_map] at hy
  obtain ⟨p,hp,mp,rfl,rfl⟩:=dC hx hy
  exact (aE (aa 2 rfl) ai rfl rfl)
 refine ae (j_ (ys:=((l.map (·.2)).map U.int)) (j:=3) false rfl be.nd rfl (Or.inl rfl) (blk (ah bp) ["ends","xs","spot","ys","some","x","y"] [2] rfl rfl rfl rfl (by decide+kernel)) (cD (aa 0 rfl) (.inl rfl)) (fun _ _ _ _=> bi (i:=2) be.nd rfl (Or.inl rfl)) (bW (by decide)) ?clen ?csz (fun _ _=> trivial) ?celt ?_)
 case clen=> simp
 case csz=> rw [List.length_map]; exact Nat.le_of_lt (aI (by omega))
 case celt=>
  intro C s' H' fp j x y hx hy
  rw [List.map_map] at hy
  obtain ⟨p,hp,mp,rfl,rfl⟩:=dC hx hy
  exact (aE (aa 2 rfl) ai rfl rfl)
 obtain ⟨bx,by'⟩:=uz hne hs
 have nX:bxN l≤7:=by unfold bxN; omega
 have nY:byN l≤5:=by unfold byN; omega
 refine ae (jl (i:=4) be.nd rfl (Or.inl rfl) (d8 bS) ?_)
 refine ae (fG (fun i:Nat=> [some (.val (lp l)),some (.val (.lst ((l.map (·.1)).map U.int))),none,some (.val (.lst ((l.map (·.2)).map U.int))),some (.own (((il (loX l) i (loY l) (byN l)).filter (fY l)).map pu)),none,none]) (fun i j=> i=j) rfl PassesOwn.never (ny rfl T.z_range (ac (ao (oB rfl (bU hx)) rfl T.z_min boot_min (ac (aa 1 rfl) am ag)) (ac (bX (ao (lC rfl (cC hx)) rfl T.z_max boot_max (ac (aa 1 rfl) am ag)) ai) am bJ) cQ) (by show -(2 ^ 62)≤loX l∧loX l < 2 ^ 62∧-(2 ^ 62)≤hiX l+1∧hiX l+1 < 2 ^ 62; omega)) ?h0 ?hs ?hd)
 case h0=> exact ⟨0,rfl,rfl,rfl,rfl,rfl,trivial⟩
 case hs=>
  rintro H0 i x _ hx' rfl
  obtain ⟨hi,rfl⟩:=dL hx'
  have hi':i < bxN l:=hi
  refine ⟨_,(gH (i:=5) be.nd rfl (Or.inl rfl)),?_⟩
  rw [show lc (l.map (·.1))=loX l from rfl]
  refine ae (fG (fun j:Nat=> [some (.val (lp l)),some (.val (.lst ((l.map (·.1)).map U.int))),none,some (.val (.lst ((l.map (·.2)).map U.int))),some (.own (((il (loX l) i (loY l) (byN l)++jB (loX l+(i:Int)) (loY l) j).filter (fY l)).map pu)),some (.val (.int (loX l+(i:Int)))),none]) (fun i j=> i=j) rfl PassesOwn.never (ny rfl T.z_range (ac (ao (oB rfl (bU hy)) rfl T.z_min boot_min (ac (aa 3 rfl) am ag)) (ac (bX (ao (lC rfl (cC hy)) rfl T.z_max boot_max (ac (aa 3 rfl) am ag)) ai) am bJ) cQ) (by show -(2 ^ 62)≤loY l∧loY l < 2 ^ 62∧-(2 ^ 62)≤hiY l+1∧hiY l+1 < 2 ^ 62; omega)) ?h02 ?hs2 ?hd2)
  case h02=>
   refine ⟨0,rfl,rfl,rfl,rfl,?_,rfl,trivial⟩
   exact congrArg (fun z=> some (Sl.own z)) (show _=(List.filter (fY l) (_++[])).map pu by rw [List.append_nil])
  case hs2=>
   rintro H1 j y _ hy' rfl
   obtain ⟨hj,rfl⟩:=dL hy'
   have hj':j < byN l:=hj
   refine ⟨_,(gH (i:=6) be.nd rfl (Or.inl rfl)),?_⟩
   rw [show lc (l.map (·.2))=loY l from rfl]
   have pz:Szp 2500 (loX l+(i:Int),loY l+(j:Int)):=by
    have u1:Sz 8 (loX l+(i:Int)):=by unfold Sz; omega
    have u2:Sz 8 (loY l+(j:Int)):=by unfold Sz; omega
    exact ⟨u1.mono (by decide),u2.mono (by decide)⟩
   have st:jB (loX l+(i:Int)) (loY l) (j+1)=jB (loX l+(i:Int)) (loY l) j++[(loX l+(i:Int),loY l+(j:Int))]:=qX _ _ _
   have room:(((il (loX l) i (loY l) (byN l)++jB (loX l+(i:Int)) (loY l) j).filter (fY l)).map pu).length≤100:=by
    rw [List.length_map]
    refine Nat.le_trans (List.length_filter_le _ _) ?_
    rw [List.length_append,jr,mq]
    have:i * byN l≤7 * 5:=Nat.mul_le_mul (by omega) nY
    omega
   refine ae (h9 (dP (ay ((j7 T).mono (by decide)) hr rfl T.m__law_holds T.F__law_holds.kp T.b__law_holds aA (ac (aa 0 rfl) (ac (cO (aB (aa 5 rfl) (aB (aa 6 rfl) bS ag) ag)) am tI) ag) ⟨l,(loX l+(i:Int),loY l+(j:Int)),rfl,by omega,sz,pz,rfl⟩)) (fun hT=> ?_) (fun hF=> (aQ (aQ ?_))))
   ·refine ae (fC 4 rfl (cO (aB (aa 5 rfl) (aB (aa 6 rfl) bS ag) ag)) (aI (by omega)) (aQ (aQ ?_)))
    refine ⟨j+1,rfl,rfl,rfl,rfl,?_,rfl,trivial⟩
    refine congrArg (fun z=> some (Sl.own z)) ?_
    rw [st,← List.append_assoc,List.filter_append (p:=fY l) (l₁:=_++_),List.map_append,List.filter_cons_of_pos hT]
    rfl
   ·refine ⟨j+1,rfl,rfl,rfl,rfl,?_,rfl,trivial⟩
    refine congrArg (fun z=> some (Sl.own z)) ?_
    rw [st,← List.append_assoc,List.filter_append (p:=fY l) (l₁:=_++_),List.filter_cons_of_neg (by rw [hF]; decide)]
    simp
  case hd2=>
   rintro q ps hq hps
   rw [bZ] at hq
   have:q=byN l:=hq.symm
   subst this
   refine aQ ?_
   refine ⟨i+1,rfl,SubP.trans ?_ hps⟩
   refine ⟨rfl,rfl,rfl,?_,trivial⟩
   exact congrArg (fun z=> some (Sl.own z)) (by rw [kg])
 case hd=>
  rintro q ps hq hps
  refine eM ?_ hps
  rw [bZ] at hq
  have:q=bxN l:=hq.symm
  subst this
  refine ae (om 4 rfl ?_)
  exact rfl
theorem w9 {l:List P2} (F:Fld l) (p:P2):p∈(box l).filter (fY l)↔cJ l p=true:=by
 rw [List.mem_filter]
 unfold fY
 rw [decide_eq_true_iff]
 have hs:(∀ s∈pvl l,0≤af s.1 s.2 p)↔∀ s∈sdl l,0≤af s.1 s.2 p:=⟨fun h s m=> h s ((eX s).mpr m),fun h s m=> h s ((eX s).mp m)⟩
 rw [hs]
 rcases F.cases with ⟨A,rfl⟩ | ⟨A,B,rfl,lt⟩ | h3
 ·rw [kR,ig,xL]
  simp
  intro e
  subst e
  unfold af; grind
 ·rw [lm,iP lt,← gW lt,iZ]
  simp
  intro _
  have e:af B A p=-af A B p:=by unfold af; grind
  omega
 ·have c3:3≤l.length:=by rw [← F.cr]; exact h3
  rw [gE c3]
  exact ⟨fun h=> h.2,fun h=> ⟨by have:=gZ h3 (p:=p) (by rw [F.cr]; exact h); rwa [F.cr] at this,h⟩⟩
end
section
variable {P:Program} {w:World} {K:PySem.W.Frag} {mg:Str→Option Value} {base:Heap}
theorem yV (l:List U):gF l (some 5) (some 60)=(l.drop 5).take 55:=by
 unfold gF
 rw [show HT.sIx l.length 0 (some 5)=min 5 l.length from rfl,show HT.sIx l.length l.length (some 60)=min 60 l.length from rfl]
 by_cases h5:5≤l.length
 ·rw [Nat.min_eq_left h5]
  by_cases h60:60≤l.length
  ·rw [Nat.min_eq_left h60]
  ·rw [Nat.min_eq_right (by omega),List.take_of_length_le (by simp),List.take_of_length_le (by simp; omega)]
 ·rw [List.drop_eq_nil_of_le (by omega),List.drop_eq_nil_of_le (by omega)]; simp
def eC (ns:List Int):List Int:=if (ns.drop 5).take 55=[] then [0] else (ns.drop 5).take 55
def eW (ns:List Int):Int:=1+f_ ns 0 % 7
def eH (ns:List Int):Int:=1+f_ ns 0 / 7 % 5
def eP (ns:List Int):List P2:=(eC ns).map fun c=> (c % eW ns,c / eW ns % eH ns)
theorem yp {ns:List Int} (hB:∀ m∈ns,Sz 1048576 m):(eC ns).length≤55∧eC ns≠[]∧∀ c∈eC ns,Sz 1048576 c:=by
 unfold eC
 split
 ·exact ⟨by simp,by simp,fun c hc=> by simp at hc; rw [hc]; exact Sz.mono (m:=8) (by decide) (by decide)⟩
 ·rename_i h
  exact ⟨by simp; omega,h,fun c hc=> hB c (List.mem_of_mem_drop (List.mem_of_mem_take hc))⟩
theorem xT (ns:List Int):∀ p∈eP ns,Sm p:=fun p hp=> by
 obtain ⟨c,_,rfl⟩:=List.mem_map.mp hp
 have w0:0 < eW ns∧eW ns≤7:=by unfold eW; omega
 have h0:0 < eH ns∧eH ns≤5:=by unfold eH; omega
 have a1:=Int.emod_nonneg c (show eW ns≠0 by omega)
 have a2:=Int.emod_lt_of_pos c w0.1
 have b1:=Int.emod_nonneg (c / eW ns) (show eH ns≠0 by omega)
 have b2:=Int.emod_lt_of_pos (c / eW ns) h0.1
 unfold Sm
 dsimp only
 omega
theorem p6 (l:List Int):eqW (.lst (l.map U.int)) (.lst [])=decide (l=[]):=by
 cases l with
 | nil=> rfl
 | cons a l=> simp [eqW,eqWs]
def rQ:List U→Out→Prop:=fun us o=> ∃ ns:List Int,us=[.scr (ns.map U.int)]∧(∀ m∈ns,Sz 1048576 m)∧o=.val (lp (ak (eP ns)))
set_option maxHeartbeats 8000000 in
theorem lg (T:Txt K mg):aX P w K mg base (CXF P w) 3 T.a__law_ends T.d__law_ends ["script"] (spU K (rQ)):=by
 refine bg T.F__law_ends bQ (fun us o h=> ?_) (fun cdv A outer s H E O us o hr h=> ?_)
 ·obtain ⟨ns,rfl,hB,rfl⟩:=h
  rfl
 obtain ⟨ns,rfl,hB,rfl⟩:=h
 refine Ws.nox ?_
 have w0:0 < eW ns∧eW ns≤7:=by unfold eW; omega
 have h0:0 < eH ns∧eH ns≤5:=by unfold eH; omega
 have wz:Sz 9000 (eW ns):=Sz.mono (m:=8) (by unfold Sz; omega) (by decide)
 obtain ⟨k1,k2,k3⟩:=yp hB
 refine ae (aF (i:=1) bQ.nd rfl (Or.inl rfl) (ay ((bC T).mono (by decide)) hr rfl T.m__law_cell_at T.F__law_cell_at.kp T.b__law_cell_at aA (ac (aa 0 rfl) (ac ai am e8) ag) ⟨ns,_,rfl,by decide,rfl⟩) ?_)
 refine ae (aF (i:=2) bQ.nd rfl (Or.inr rfl) (bX ai (eL (aa 1 rfl) ai (by walk_at "mod"))) ?_)
 refine ae (aF (i:=3) bQ.nd rfl (Or.inr rfl) (bX ai (eL (fi (aa 1 rfl) ai (by walk_at "div")) ai (by walk_at "mod"))) ?_)
 rw [show 1+f_ ns 0 % 7=eW ns from rfl,show 1+f_ ns 0 / 7 % 5=eH ns from rfl]
 refine ae (aF (i:=4) bQ.nd rfl (Or.inl rfl) (EvN.ev (fR (aa 0 rfl) (gz ai) (gz ai) (.inr rfl))) ?_)
 rw [yV,← List.map_drop,← List.map_take]
 refine i_ (fun ps=> SubP [some (.val (.scr (ns.map U.int))),some (.val (.int (f_ ns 0))),some (.val (.int (eW ns))),some (.val (.int (eH ns))),some (.val (.lst ((eC ns).map U.int))),none] ps) (h9 (aV (AN (nJ hr) (nF fun _=> rfl) rfl) (aa 4 rfl) (EvN.ev (d8 bS))) (fun hT=> ?_) (fun hF=> (aQ ?_))) ?hj
 ·rw [p6] at hT
  have e:eC ns=[0]:=by unfold eC; rw [if_pos (dTb hT)]
  refine ae (aF (i:=4) bQ.nd rfl (Or.inl rfl) (EvN.ev (d8 (aB ai bS e8))) (aQ ?_))
  rw [e]
  exact ⟨rfl,rfl,rfl,rfl,rfl,trivial⟩
 ·rw [p6] at hF
  have e:eC ns=(ns.drop 5).take 55:=by unfold eC; rw [if_neg (dFb hF)]
  rw [e]
  exact ⟨rfl,rfl,rfl,rfl,rfl,trivial⟩
 case hj=>
  intro ps hps
  refine eM ?_ hps
  refine ae (aH (ay ((fg T).mono (by decide)) hr rfl T.m__law_corners T.F__law_corners.kp T.b__law_corners aA (ac (EvN.ev (d9 (ys:=((eP ns).map pu)) rfl (blk (ah bY) ["script","shape","wide","high","cells","cell"] [5] rfl rfl rfl rfl (by decide+kernel)) (cD (aa 4 rfl) (.inl rfl)) (fun _ _ _ _=> bi (i:=5) bQ.nd rfl (Or.inl rfl)) (bW (by decide)) ?clen ?csz (fun _ _=> trivial) ?celt)) am dh) ⟨eP ns,rfl,fun p hp=> Szp.mono (nR (xT ns p hp)) (by decide),by unfold eP; rw [List.length_map]; omega,rfl⟩) ?_)
  case clen=> unfold eP; simp
  case csz=> rw [List.length_map]; exact Nat.le_of_lt (aI (by omega))
  case celt=>
   intro C s' H' fp j x y hx hy
   unfold eP at hy
   rw [List.map_map] at hy
   rw [List.getElem?_map] at hx hy
   cases e:(eC ns)[j]? with
   | none=> rw [e] at hx; cases hx
   | some c=>
    rw [e] at hx hy
    cases hx
    cases hy
    have cz:=k3 c (List.mem_of_getElem? e)
    exact (cO (aB (eL (aa 5 rfl) (aa 2 rfl) w0.1) (aB (eL (fi (aa 5 rfl) (aa 2 rfl) ⟨w0.1,wz⟩) (aa 3 rfl) h0.1) bS bJ) bJ))
  exact rfl
end
section
variable {P:Program} {w:World} {K:PySem.W.Frag} {mg:Str→Option Value} {base:Heap}
def lnF (c:Int) (b:Bool):Int:=if b=true then c % 9 - 4 else c % (2 * 10 ^ (20:Int).toNat+1) - 10 ^ (20:Int).toNat
theorem lM (c:Int) (b:Bool):Sz 67 (lnF c b):=by
 unfold lnF
 split
 ·exact Sz.mono (m:=8) (by unfold Sz; omega) (by decide)
 ·have h1:=Int.emod_nonneg c (show (2 * 10 ^ (20:Int).toNat+1:Int)≠0 by decide+kernel)
  have h2:=Int.emod_lt_of_pos c (show (0:Int) < 2 * 10 ^ (20:Int).toNat+1 by decide+kernel)
  have z:Sz 67 ((10:Int) ^ (20:Int).toNat):=by decide+kernel
  exact z.natle (by omega)
def rM:List U→Out→Prop:=fun us o=> ∃ (c:Int) (b:Bool),us=[.int c,.bl b]∧Sz 1048576 c∧o=.val (.int (lnF c b))
set_option maxHeartbeats 8000000 in
theorem gX (T:Txt K mg):aX P w K mg base (CXF P w) 1 T.a__law_lean T.d__law_lean ["cell","small"] (spU K (rM)):=by
 refine bg T.F__law_lean kX (fun us o h=> ?_) (fun cdv A outer s H E O us o hr h=> ?_)
 ·obtain ⟨c,b,rfl,sc,rfl⟩:=h
  rfl
 obtain ⟨c,b,rfl,sc,rfl⟩:=h
 refine Ws.nox ?_
 unfold lnF
 cases b with
 | true=>
  refine ae (cT (dP (aa 1 rfl)) rfl ?_)
  refine ae (aH (bv (eL (aa 0 rfl) ai (by walk_at "mod")) ai) ?_)
  exact rfl
 | false=>
  refine ae (dY (dP (aa 1 rfl)) rfl (aQ ?_))
  refine ae (aH (bv (eL (aa 0 rfl) (bX (bh ai (ko ai ai ⟨by decide,by decide,by decide⟩) (by walk_at "mul")) ai) (by decide+kernel)) (ko ai ai ⟨by decide,by decide,by decide⟩)) ?_)
  exact rfl
def shp (ns:List Int):Int:=f_ ns 0 / 35
def lA (ns:List Int):Int:=lnF (f_ ns 1) (decide (shp ns / 2 % 2=1))
def lB (ns:List Int):Int:=lnF (f_ ns 2) (decide (shp ns / 4 % 2=1))
def sR (ns:List Int):Int:=f_ ns 3 % (2 * 10 ^ (40:Int).toNat+1) - 10 ^ (40:Int).toNat
def sU (ns:List Int):Int:=f_ ns 4 % (2 * 10 ^ (40:Int).toNat+1) - 10 ^ (40:Int).toNat
def swF (ns:List Int) (p:P2):P2:=if shp ns % 2=1 then (p.2,p.1) else p
def yF (ns:List Int) (p:P2):Int:=(swF ns p).2+lA ns * (swF ns p).1
def putF (ns:List Int) (p:P2):P2:=((swF ns p).1+lB ns * yF ns p+sR ns,yF ns p+sU ns)
theorem s40 (c:Int):Sz 134 (c % (2 * 10 ^ (40:Int).toNat+1) - 10 ^ (40:Int).toNat):=by
 have h1:=Int.emod_nonneg c (show (2 * 10 ^ (40:Int).toNat+1:Int)≠0 by decide+kernel)
 have h2:=Int.emod_lt_of_pos c (show (0:Int) < 2 * 10 ^ (40:Int).toNat+1 by decide+kernel)
 have z:Sz 134 ((10:Int) ^ (40:Int).toNat):=by decide+kernel
 exact z.natle (by omega)
theorem qv {ns:List Int} {p:P2} (h:Szp 8 p):Szp 8 (swF ns p):=by
 unfold swF
 split
 ·exact ⟨h.2,h.1⟩
 ·exact h
theorem uD {ns:List Int} {p:P2} (h:Szp 8 p):Sz 76 (yF ns p):=(L2.Sz.add' ((qv (ns:=ns) h).2.mono (n:=75) (by decide)) (L2.Sz.mul (lM _ _) (qv (ns:=ns) h).1)).mono (by decide)
theorem vm {ns:List Int} {p:P2} (h:Szp 8 p):Szp 150 (putF ns p):=
 ⟨(L2.Sz.add' (L2.Sz.add' ((qv (ns:=ns) h).1.mono (n:=143) (by decide)) (L2.Sz.mul (lM _ _) (uD h))) ((s40 _).mono (n:=144) (by decide))).mono (by decide),(L2.Sz.add' ((uD h).mono (n:=134) (by decide)) (s40 _)).mono (by decide)⟩
theorem yP (ns:List Int):∃ a b c d e f:Int,(a * d - b * c=1∨a * d - b * c=-1)∧putF ns=ap a b c d e f:=by
 by_cases h:shp ns % 2=1
 ·refine ⟨lB ns,1+lA ns * lB ns,1,lA ns,sR ns,sU ns,.inr (by grind),funext fun p=> ?_⟩
  unfold putF yF swF ap
  rw [if_pos h]
  refine Prod.ext ?_ ?_ <;> dsimp only <;> grind
 ·refine ⟨1+lA ns * lB ns,lB ns,lA ns,1,sR ns,sU ns,.inl (by grind),funext fun p=> ?_⟩
  unfold putF yF swF ap
  rw [if_neg h]
  refine Prod.ext ?_ ?_ <;> dsimp only <;> grind
def ue:List U→Out→Prop:=fun us o=> ∃ (p:P2) (ns:List Int),us=[pu p,.scr (ns.map U.int)]∧(∀ m∈ns,Sz 1048576 m)∧Szp 8 p∧o=.val (pu (putF ns p))
set_option maxHeartbeats 8000000 in
theorem iy (T:Txt K mg):aX P w K mg base (CXF P w) 2 T.a__law_put T.d__law_put ["spot","script"] (spU K (ue)):=by
 refine bg T.F__law_put bF (fun us o h=> ?_) (fun cdv A outer s H E O us o hr h=> ?_)
 ·obtain ⟨p,ns,rfl,hB,sp,rfl⟩:=h
  rfl
 obtain ⟨p,ns,rfl,hB,sp,rfl⟩:=h
 refine Ws.nox ?_
 have c1:=qo hB 1
 have c2:=qo hB 2
 have w:=qv (ns:=ns) sp
 have w1:=w.1
 have w2:=w.2
 have yz:=uD (ns:=ns) sp
 have az:Sz 67 (lA ns):=lM _ _
 have bz:Sz 67 (lB ns):=lM _ _
 refine ae (AG (aa 0 rfl) (x9 [2,3] rfl (dl (bi (i:=2) bF.nd rfl (Or.inl rfl)) (dl (bi (i:=3) bF.nd rfl (Or.inl rfl)) i4)) rfl) ?_)
 refine ae (aF (i:=4) bF.nd rfl (Or.inl rfl) (fi (ay ((bC T).mono (by decide)) hr rfl T.m__law_cell_at T.F__law_cell_at.kp T.b__law_cell_at aA (ac (aa 1 rfl) (ac ai am e8) ag) ⟨ns,_,rfl,by decide,rfl⟩) ai (by walk_at "div")) ?_)
 rw [show f_ ns 0 / 35=shp ns from rfl]
 refine i_ (fun ps=> SubP [some (.val (pu p)),some (.val (.scr (ns.map U.int))),some (.val (.int (swF ns p).1)),some (.val (.int (swF ns p).2)),some (.val (.int (shp ns))),none,none] ps) (h9 (aV dX (eL (aa 4 rfl) ai (by walk_at "mod")) ai) (fun hT=> ?_) (fun hF=> (aQ ?_))) ?hj
 ·have e:swF ns p=(p.2,p.1):=by unfold swF; rw [if_pos (dTb hT)]
  refine ae (AA (i:=2) (j:=3) rfl bF.nd rfl rfl (by decide) rfl rfl (ac (aa 3 rfl) (ac (aa 2 rfl) am ag) ag) rfl (aQ ?_))
  rw [e]
  exact ⟨rfl,rfl,rfl,rfl,rfl,trivial⟩
 ·have e:swF ns p=p:=by unfold swF; rw [if_neg (dFb hF)]
  rw [e]
  exact ⟨rfl,rfl,rfl,rfl,rfl,trivial⟩
 case hj=>
  intro ps hps
  refine eM ?_ hps
  refine ae (aF (i:=3) bF.nd rfl (Or.inl rfl) (bX (aa 3 rfl) (bh (ay ((gX T).mono (by decide)) hr rfl T.m__law_lean T.F__law_lean.kp T.b__law_lean aA (ac (ay ((bC T).mono (by decide)) hr rfl T.m__law_cell_at T.F__law_cell_at.kp T.b__law_cell_at aA (ac (aa 1 rfl) (ac ai am e8) ag) ⟨ns,_,rfl,by decide,rfl⟩) (ac (lZ dX (eL (fi (aa 4 rfl) ai (by walk_at "div")) ai (by walk_at "mod")) ai) am ur) cQ) ⟨_,_,rfl,c1,rfl⟩) (aa 2 rfl) (L2.Sz.ok az w1 (by decide)))) ?_)
  refine ae (aF (i:=2) bF.nd rfl (Or.inl rfl) (bX (aa 2 rfl) (bh (ay ((gX T).mono (by decide)) hr rfl T.m__law_lean T.F__law_lean.kp T.b__law_lean aA (ac (ay ((bC T).mono (by decide)) hr rfl T.m__law_cell_at T.F__law_cell_at.kp T.b__law_cell_at aA (ac (aa 1 rfl) (ac ai am e8) ag) ⟨ns,_,rfl,by decide,rfl⟩) (ac (lZ dX (eL (fi (aa 4 rfl) ai (by walk_at "div")) ai (by walk_at "mod")) ai) am ur) cQ) ⟨_,_,rfl,c2,rfl⟩) (aa 3 rfl) (L2.Sz.ok bz yz (by decide)))) ?_)
  refine ae (aF (i:=5) bF.nd rfl (Or.inl rfl) (bv (eL (ay ((bC T).mono (by decide)) hr rfl T.m__law_cell_at T.F__law_cell_at.kp T.b__law_cell_at aA (ac (aa 1 rfl) (ac ai am e8) ag) ⟨ns,_,rfl,by decide,rfl⟩) (bX (bh ai (ko ai ai ⟨by decide,by decide,by decide⟩) (by walk_at "mul")) ai) (by decide+kernel)) (ko ai ai ⟨by decide,by decide,by decide⟩)) ?_)
  refine ae (aF (i:=6) bF.nd rfl (Or.inl rfl) (bv (eL (ay ((bC T).mono (by decide)) hr rfl T.m__law_cell_at T.F__law_cell_at.kp T.b__law_cell_at aA (ac (aa 1 rfl) (ac ai am e8) ag) ⟨ns,_,rfl,by decide,rfl⟩) (bX (bh ai (ko ai ai ⟨by decide,by decide,by decide⟩) (by walk_at "mul")) ai) (by decide+kernel)) (ko ai ai ⟨by decide,by decide,by decide⟩)) ?_)
  refine ae (aH (cO (aB (bX (aa 2 rfl) (aa 5 rfl)) (aB (bX (aa 3 rfl) (aa 6 rfl)) bS bJ) bJ)) ?_)
  exact rfl
end
section
variable {P:Program} {w:World} {K:PySem.W.Frag} {mg:Str→Option Value} {base:Heap}
set_option maxHeartbeats 8000000 in
theorem zE (T:Txt K mg):aX P w K mg base (CXF P w) 9 T.a_law T.d_law ["script"] (spU K (g_)):=by
 refine bg T.F_law fc (fun us o h=> ?_) (fun cdv A outer s H E O us o hr h=> ?_)
 ·obtain ⟨ns,rfl,h63,hB,rfl⟩:=h
  rfl
 obtain ⟨ns,rfl,h63,hB,rfl⟩:=h
 refine Ws.nox ?_
 obtain ⟨k1,k2,k3⟩:=yp hB
 have ene:eP ns≠[]:=by unfold eP; simpa using k2
 have el:(eP ns).length≤55:=by unfold eP; rw [List.length_map]; exact k1
 have F:Fld (ak (eP ns)):=⟨iS ene,ku _⟩
 have csm:∀ p∈ak (eP ns),Sm p:=fun p hp=> xT ns p (aN _ p hp)
 have cl:(ak (eP ns)).length≤55:=Nat.le_trans (iT _) el
 refine ae (aF (i:=1) fc.nd rfl (Or.inl rfl) (ay ((lg T).mono (by decide)) hr rfl T.m__law_ends T.F__law_ends.kp T.b__law_ends aA (ac (aa 0 rfl) am ag) ⟨ns,rfl,hB,rfl⟩) ?_)
 generalize ak (eP ns)=l at *
 obtain ⟨bx,by'⟩:=uz F.ne csm
 have nX:bxN l≤7:=by unfold bxN; omega
 have nY:byN l≤5:=by unfold byN; omega
 have bl:(box l).length≤35:=by
  unfold box
  rw [jr]
  exact Nat.mul_le_mul nX nY
 have wl:((box l).filter (fY l)).length≤35:=Nat.le_trans (List.length_filter_le _ _) bl
 have wm:=w9 F
 have wnd:((box l).filter (fY l)).Nodup:=cX (jF l) _
 obtain ⟨a,b,c,d,e,f,hd,hput⟩:=yP ns
 have ps8:∀ p,cJ l p=true→Szp 8 p:=fun p hp=> by
  have q:=(e6 F.ne).mp (F.in_box hp)
  constructor <;> unfold Sz <;> omega
 have F2:Fld (ak (l.map (putF ns))):=by rw [hput]; exact t4 e f F
 have fz:∀ p∈ak (l.map (putF ns)),Szp 150 p:=fun p hp=> by
  obtain ⟨q,hq,rfl⟩:=List.mem_map.mp (aN _ p hp)
  exact vm (nR (csm q hq))
 have far_in:∀ p,p∈((box l).filter (fY l)).map (putF ns)↔cJ (ak (l.map (putF ns))) p=true:=fun p=> by
  rw [List.mem_map]
  constructor
  ·rintro ⟨q,hq,rfl⟩
   rw [hput,vo e f hd F]; exact (wm q).mp hq
  ·intro h
   rw [hput] at h
   obtain ⟨q,rfl⟩:=yt (a:=a) (b:=b) (c:=c) (d:=d) (e:=e) (f:=f) hd p
   rw [vo e f hd F] at h
   exact ⟨q,(wm q).mpr h,by rw [hput]⟩
 have pnd:(((box l).filter (fY l)).map (putF ns)).Nodup:=List.Pairwise.map _ (fun x y h z=> h (by rw [hput] at z; exact y4 hd z)) wnd
 have cnt:jJ (ak (l.map (putF ns)))≤60:=by
  rw [pH F2]
  unfold xl
  have:=dQ (cX (jF (ak (l.map (putF ns)))) fun p=> cJ (ak (l.map (putF ns))) p && true) pnd fun p=> by
   rw [far_in,List.mem_filter]
   exact ⟨fun h=> by simpa using h.2,fun h=> ⟨F2.in_box h,by rw [h]; rfl⟩⟩
  rw [this,List.length_map]
  omega
 have fe:=lP F2 far_in
 have w55:((box l).filter (fY l)).length < 64:=by omega
 refine ae (aF (i:=2) fc.nd rfl (Or.inl rfl) (EvN.ev (qq rfl T.z_sorted (EvN.ev (d9 (ys:=((((box l).filter (fY l)).map (putF ns)).map pu)) rfl (blk (ah g6) ["script","ends","due","spot","far","handed","found"] [3] rfl rfl rfl rfl (by decide+kernel)) (cD (EvN.ev (cW ((jw T).mono (by decide)) hr rfl T.m__law_walked T.F__law_walked.kp T.b__law_walked aA (ac (aa 1 rfl) am ag) ⟨l,rfl,F.ne,by omega,csm,rfl⟩)) (.inl rfl)) (fun _ _ _ _=> bi (i:=3) fc.nd rfl (Or.inl rfl)) (bW (by decide)) ?clen ?csz (fun _ _=> trivial) ?celt)) ⟨by rw [List.length_map]; exact w55,pnd⟩ dh)) ?_)
 case clen=> simp
 case csz=> rw [List.length_map]; exact Nat.le_of_lt (aI (by omega))
 case celt=>
  intro C s' H' fp j x y hx hy
  rw [List.map_map] at hy
  obtain ⟨p,hp,mp,rfl,rfl⟩:=dC hx hy
  exact (ay ((iy T).mono (by decide)) hr rfl T.m__law_put T.F__law_put.kp T.b__law_put aA (ac (aa 3 rfl) (ac (aa 0 rfl) am ag) ag) ⟨p,ns,rfl,hB,ps8 p ((wm p).mp mp),rfl⟩)
 rw [fe]
 refine ae (aF (i:=4) fc.nd rfl (Or.inl rfl) (ay ((fg T).mono (by decide)) hr rfl T.m__law_corners T.F__law_corners.kp T.b__law_corners aA (ac (EvN.ev (d9 (ys:=((l.map (putF ns)).map pu)) rfl (blk (ah g6) ["script","ends","due","spot","far","handed","found"] [3] rfl rfl rfl rfl (by decide+kernel)) (cD (aa 1 rfl) (.inl rfl)) (fun _ _ _ _=> bi (i:=3) fc.nd rfl (Or.inl rfl)) (bW (by decide)) ?clen ?csz (fun _ _=> trivial) ?celt)) am dh) ⟨l.map (putF ns),rfl,fun p hp=> by
  obtain ⟨q,hq,rfl⟩:=List.mem_map.mp hp
  exact Szp.mono (vm (nR (csm q hq))) (by decide),by rw [List.length_map]; omega,rfl⟩) ?_)
 case clen=> simp
 case csz=> rw [List.length_map]; exact Nat.le_of_lt (aI (by omega))
 case celt=>
  intro C s' H' fp j x y hx hy
  rw [List.map_map] at hy
  obtain ⟨p,hp,mp,rfl,rfl⟩:=dC hx hy
  exact (ay ((iy T).mono (by decide)) hr rfl T.m__law_put T.F__law_put.kp T.b__law_put aA (ac (aa 3 rfl) (ac (aa 0 rfl) am ag) ag) ⟨p,ns,rfl,hB,nR (csm p mp),rfl⟩)
 have fl:(ak (l.map (putF ns))).length < 64:=Nat.lt_of_le_of_lt (iT _) (by rw [List.length_map]; omega)
 have gl:(n_ (ak (l.map (putF ns)))).length≤35:=by
  rw [← fe]
  exact Nat.le_trans (ST.srt_len _) (by rw [List.length_map]; exact wl)
 generalize ak (l.map (putF ns))=far at *
 refine ae (aF (i:=5) fc.nd rfl (Or.inl rfl) (EvN.ev (qB (uo rfl) rfl T.z_list boot_list (ac (aa 4 rfl) am ag))) ?_)
 refine ae (aF (i:=6) fc.nd rfl (Or.inl rfl) (EvN.ev (cW ((sC T).mono (by decide)) hr rfl T.m_stakes T.F_stakes.kp T.b_stakes aA (ac (aa 5 rfl) am ag) ⟨far,rfl,F2,fl,fz,.inl ⟨cnt,rfl⟩⟩)) ?_)
 generalize n_ far=R at *
 refine ae (dY (Tw.t (xh (aV (Ag (nJ hr) (pI _) (pI _)) (aa 5 rfl) (aa 4 rfl)) (fun hz=> (xh (fN (dP (ao (aD (by intro _ h; cases h) (L2.kit_list_list _)) rfl T.z_isinstance boot_isinstance (ac (aa 6 rfl) (ac (cS rfl T.z_list boot_list) am ag) ag)))) (fun hz=> (ym (aV (Ag (nJ hr) (pI _) (pI _)) (aa 6 rfl) (aa 2 rfl)))))))) (show (!eqW (lp far) (lp far) || (!true || !eqW (lp R) (lp R)))=false by rw [tq,tq]; simp) (aQ ?_))
 refine ae (aH (lZ dX (ao (dn rfl) rfl T.z_len PySem.boot_len (ac (EvN.ev (wu (R.map fun p=> some (pu p)) rfl (blk (ah g6) ["script","ends","due","spot","far","handed","found"] [3] rfl rfl rfl rfl (by decide+kernel)) (cD (aa 6 rfl) (.inl rfl)) (fun _ _ _ _=> bi (i:=3) fc.nd rfl (Or.inl rfl)) (bW (by decide)) ?clen ?csz (fun _ _=> trivial) ?ctest ?celt)) am dh)) (ao (dn rfl) rfl T.z_len PySem.boot_len (ac (aa 2 rfl) am ag))) ?_)
 case clen=> simp
 case csz=> rw [List.length_map]; exact Nat.le_of_lt (aI (by omega))
 case ctest=>
  intro C s' H' fp j x o hx ho
  obtain ⟨p,hp,mp,rfl⟩:=qG hx
  rw [List.getElem?_map,hp] at ho
  cases ho
  exact (dP (ay ((ij T).mono (by decide)) hr rfl T.m__law_is_point T.F__law_is_point.kp T.b__law_is_point aA (ac (aa 3 rfl) am ag) ⟨p,rfl,rfl⟩))
 case celt=>
  intro C s' H' fp j x y hx hy
  obtain ⟨p,hp,mp,rfl⟩:=qG hx
  rw [List.getElem?_map,hp] at hy
  cases hy
  exact (aa 3 rfl)
 refine vB ?_
 simp
end
theorem ar1 {p:List Value→Prop} {us:List Value} (h:us.length=1) (q:∀ a0,p [a0]):p us:=match us,h with | [a0],_=> q a0
theorem ar2 {p:List Value→Prop} {us:List Value} (h:us.length=2) (q:∀ a0 a1,p [a0,a1]):p us:=match us,h with | [a0,a1],_=> q a0 a1
theorem ar3 {p:List Value→Prop} {us:List Value} (h:us.length=3) (q:∀ a0 a1 a2,p [a0,a1,a2]):p us:=match us,h with | [a0,a1,a2],_=> q a0 a1 a2
set_option maxHeartbeats 8000000 in
theorem txt_mk {K:PySem.W.Frag} {h:Heap} {mg:Str→Option Value} {fa f0 f1 f2 f3 f4 f5 f6 f7 f8 f9 f10 f11 f12 f13 f14 f15 f16 f17 f18 f19 f20 f21 f22 f23 f24 f25 f26 f27 f28 f29 f30 f31 f32 f33 f34 f35 c_NoField c_NoMove c_TooMany:Addr} (X:K.In h) (G:h.Ns mainGlobals mg) (hfa:mg "law"=some (.ref fa))
  {od0 an0 od1 an1 od2 an2 od3 an3 od4 an4 od5 an5 od6 an6 od7 an7 od8 an8 od9 an9 od10 an10 od11 an11 od12 an12 od13 an13 od14 an14 od15 an15 od16 an16 od17 an17 od18 an18 od19 an19 od20 an20 od21 an21 od22 an22 od23 an23 od24 an24 od25 an25 od26 an26 od27 an27 od28 an28 od29 an29 od30 an30 od31 an31 od32 an32 od33 an33 od34 an34 od35 an35:Option Addr} {sl0 sl1 sl2 sl3 sl4 sl5 sl6 sl7 sl8 sl9 sl10 sl11 sl12 sl13 sl14 sl15 sl16 sl17 sl18 sl19 sl20 sl21 sl22 sl23 sl24 sl25 sl26 sl27 sl28 sl29 sl30 sl31 sl32 sl33 sl34 sl35:Array (Option Value)} {oc0 kV0 dc0 pm0 cd0 ct0 oc1 kV1 dc1 pm1 cd1 ct1 oc2 kV2 dc2 pm2 cd2 ct2 oc3 kV3 dc3 pm3 cd3 ct3 oc4 kV4 dc4 pm4 cd4 ct4 oc5 kV5 dc5 pm5 cd5 ct5 oc6 kV6 dc6 pm6 cd6 ct6 oc7 kV7 dc7 pm7 cd7 ct7 oc8 kV8 dc8 pm8 cd8 ct8 oc9 kV9 dc9 pm9 cd9 ct9 oc10 kV10 dc10 pm10 cd10 ct10 oc11 kV11 dc11 pm11 cd11 ct11 oc12 kV12 dc12 pm12 cd12 ct12 oc13 kV13 dc13 pm13 cd13 ct13 oc14 kV14 dc14 pm14 cd14 ct14 oc15 kV15 dc15 pm15 cd15 ct15 oc16 kV16 dc16 pm16 cd16 ct16 oc17 kV17 dc17 pm17 cd17 ct17 oc18 kV18 dc18 pm18 cd18 ct18 oc19 kV19 dc19 pm19 cd19 ct19 oc20 kV20 dc20 pm20 cd20 ct20 oc21 kV21 dc21 pm21 cd21 ct21 oc22 kV22 dc22 pm22 cd22 ct22 oc23 kV23 dc23 pm23 cd23 ct23 oc24 kV24 dc24 pm24 cd24 ct24 oc25 kV25 dc25 pm25 cd25 ct25 oc26 kV26 dc26 pm26 cd26 ct26 oc27 kV27 dc27 pm27 cd27 ct27 oc28 kV28 dc28 pm28 cd28 ct28 oc29 kV29 dc29 pm29 cd29 ct29 oc30 kV30 dc30 pm30 cd30 ct30 oc31 kV31 dc31 pm31 cd31 ct31 oc32 kV32 dc32 pm32 cd32 ct32 oc33 kV33 dc33 pm33 cd33 ct33 oc34 kV34 dc34 pm34 cd34 ct34 oc35 kV35 dc35 pm35 cd35 ct35:Value}
  (a0:PySem.W.nsIn K mainGlobals "is_whole"=some (some (.ref f0))) (l0:K.lookup f0=some ⟨oc0,od0,.func (PySem.W.fnOf "is_whole" "is_whole" (au cY) (aq cY) (ah cY) .none kV0 dc0 pm0 an0 cd0 ct0),sl0⟩) (c0:PySem.W.codeIn K cd0 "is_whole"=true) (k0:PySem.W.keepIn K (.ref f0)=true)
  (a1:PySem.W.nsIn K mainGlobals "sign"=some (some (.ref f1))) (l1:K.lookup f1=some ⟨oc1,od1,.func (PySem.W.fnOf "sign" "sign" (au hU) (aq hU) (ah hU) .none kV1 dc1 pm1 an1 cd1 ct1),sl1⟩) (c1:PySem.W.codeIn K cd1 "sign"=true) (k1:PySem.W.keepIn K (.ref f1)=true)
  (a2:PySem.W.nsIn K mainGlobals "shares"=some (some (.ref f2))) (l2:K.lookup f2=some ⟨oc2,od2,.func (PySem.W.fnOf "shares" "shares" (au eO) (aq eO) (ah eO) .none kV2 dc2 pm2 an2 cd2 ct2),sl2⟩) (c2:PySem.W.codeIn K cd2 "shares"=true) (k2:PySem.W.keepIn K (.ref f2)=true)
  (a3:PySem.W.nsIn K mainGlobals "hand"=some (some (.ref f3))) (l3:K.lookup f3=some ⟨oc3,od3,.func (PySem.W.fnOf "hand" "hand" (au hX) (aq hX) (ah hX) .none kV3 dc3 pm3 an3 cd3 ct3),sl3⟩) (c3:PySem.W.codeIn K cd3 "hand"=true) (k3:PySem.W.keepIn K (.ref f3)=true)
  (a4:PySem.W.nsIn K mainGlobals "is_move"=some (some (.ref f4))) (l4:K.lookup f4=some ⟨oc4,od4,.func (PySem.W.fnOf "is_move" "is_move" (au cV) (aq cV) (ah cV) .none kV4 dc4 pm4 an4 cd4 ct4),sl4⟩) (c4:PySem.W.codeIn K cd4 "is_move"=true) (k4:PySem.W.keepIn K (.ref f4)=true)
  (a5:PySem.W.nsIn K mainGlobals "need_move"=some (some (.ref f5))) (l5:K.lookup f5=some ⟨oc5,od5,.func (PySem.W.fnOf "need_move" "need_move" (au cE) (aq cE) (ah cE) .none kV5 dc5 pm5 an5 cd5 ct5),sl5⟩) (c5:PySem.W.codeIn K cd5 "need_move"=true) (k5:PySem.W.keepIn K (.ref f5)=true)
  (a6:PySem.W.nsIn K mainGlobals "turned"=some (some (.ref f6))) (l6:K.lookup f6=some ⟨oc6,od6,.func (PySem.W.fnOf "turned" "turned" (au eN) (aq eN) (ah eN) .none kV6 dc6 pm6 an6 cd6 ct6),sl6⟩) (c6:PySem.W.codeIn K cd6 "turned"=true) (k6:PySem.W.keepIn K (.ref f6)=true)
  (a7:PySem.W.nsIn K mainGlobals "moved"=some (some (.ref f7))) (l7:K.lookup f7=some ⟨oc7,od7,.func (PySem.W.fnOf "moved" "moved" (au fW) (aq fW) (ah fW) .none kV7 dc7 pm7 an7 cd7 ct7),sl7⟩) (c7:PySem.W.codeIn K cd7 "moved"=true) (k7:PySem.W.keepIn K (.ref f7)=true)
  (a8:PySem.W.nsIn K mainGlobals "way_back"=some (some (.ref f8))) (l8:K.lookup f8=some ⟨oc8,od8,.func (PySem.W.fnOf "way_back" "way_back" (au df) (aq df) (ah df) .none kV8 dc8 pm8 an8 cd8 ct8),sl8⟩) (c8:PySem.W.codeIn K cd8 "way_back"=true) (k8:PySem.W.keepIn K (.ref f8)=true)
  (a9:PySem.W.nsIn K mainGlobals "steps"=some (some (.ref f9))) (l9:K.lookup f9=some ⟨oc9,od9,.func (PySem.W.fnOf "steps" "steps" (au fT) (aq fT) (ah fT) .none kV9 dc9 pm9 an9 cd9 ct9),sl9⟩) (c9:PySem.W.codeIn K cd9 "steps"=true) (k9:PySem.W.keepIn K (.ref f9)=true)
  (a10:PySem.W.nsIn K mainGlobals "level"=some (some (.ref f10))) (l10:K.lookup f10=some ⟨oc10,od10,.func (PySem.W.fnOf "level" "level" (au fS) (aq fS) (ah fS) .none kV10 dc10 pm10 an10 cd10 ct10),sl10⟩) (c10:PySem.W.codeIn K cd10 "level"=true) (k10:PySem.W.keepIn K (.ref f10)=true)
  (a11:PySem.W.nsIn K mainGlobals "turn"=some (some (.ref f11))) (l11:K.lookup f11=some ⟨oc11,od11,.func (PySem.W.fnOf "turn" "turn" (au ik) (aq ik) (ah ik) .none kV11 dc11 pm11 an11 cd11 ct11),sl11⟩) (c11:PySem.W.codeIn K cd11 "turn"=true) (k11:PySem.W.keepIn K (.ref f11)=true)
  (a12:PySem.W.nsIn K mainGlobals "left_bends"=some (some (.ref f12))) (l12:K.lookup f12=some ⟨oc12,od12,.func (PySem.W.fnOf "left_bends" "left_bends" (au ck) (aq ck) (ah ck) .none kV12 dc12 pm12 an12 cd12 ct12),sl12⟩) (c12:PySem.W.codeIn K cd12 "left_bends"=true) (k12:PySem.W.keepIn K (.ref f12)=true)
  (a13:PySem.W.nsIn K mainGlobals "field"=some (some (.ref f13))) (l13:K.lookup f13=some ⟨oc13,od13,.func (PySem.W.fnOf "field" "field" (au fP) (aq fP) (ah fP) .none kV13 dc13 pm13 an13 cd13 ct13),sl13⟩) (c13:PySem.W.codeIn K cd13 "field"=true) (k13:PySem.W.keepIn K (.ref f13)=true)
  (a14:PySem.W.nsIn K mainGlobals "sides"=some (some (.ref f14))) (l14:K.lookup f14=some ⟨oc14,od14,.func (PySem.W.fnOf "sides" "sides" (au fO) (aq fO) (ah fO) .none kV14 dc14 pm14 an14 cd14 ct14),sl14⟩) (c14:PySem.W.codeIn K cd14 "sides"=true) (k14:PySem.W.keepIn K (.ref f14)=true)
  (a15:PySem.W.nsIn K mainGlobals "double_area"=some (some (.ref f15))) (l15:K.lookup f15=some ⟨oc15,od15,.func (PySem.W.fnOf "double_area" "double_area" (au bH) (aq bH) (ah bH) .none kV15 dc15 pm15 an15 cd15 ct15),sl15⟩) (c15:PySem.W.codeIn K cd15 "double_area"=true) (k15:PySem.W.keepIn K (.ref f15)=true)
  (a16:PySem.W.nsIn K mainGlobals "rim"=some (some (.ref f16))) (l16:K.lookup f16=some ⟨oc16,od16,.func (PySem.W.fnOf "rim" "rim" (au jk) (aq jk) (ah jk) .none kV16 dc16 pm16 an16 cd16 ct16),sl16⟩) (c16:PySem.W.codeIn K cd16 "rim"=true) (k16:PySem.W.keepIn K (.ref f16)=true)
  (a17:PySem.W.nsIn K mainGlobals "field_moved"=some (some (.ref f17))) (l17:K.lookup f17=some ⟨oc17,od17,.func (PySem.W.fnOf "field_moved" "field_moved" (au bG) (aq bG) (ah bG) .none kV17 dc17 pm17 an17 cd17 ct17),sl17⟩) (c17:PySem.W.codeIn K cd17 "field_moved"=true) (k17:PySem.W.keepIn K (.ref f17)=true)
  (a18:PySem.W.nsIn K mainGlobals "fold"=some (some (.ref f18))) (l18:K.lookup f18=some ⟨oc18,od18,.func (PySem.W.fnOf "fold" "fold" (au gD) (aq gD) (ah gD) .none kV18 dc18 pm18 an18 cd18 ct18),sl18⟩) (c18:PySem.W.codeIn K cd18 "fold"=true) (k18:PySem.W.keepIn K (.ref f18)=true)
  (a19:PySem.W.nsIn K mainGlobals "multiple"=some (some (.ref f19))) (l19:K.lookup f19=some ⟨oc19,od19,.func (PySem.W.fnOf "multiple" "multiple" (au cZ) (aq cZ) (ah cZ) .none kV19 dc19 pm19 an19 cd19 ct19),sl19⟩) (c19:PySem.W.codeIn K cd19 "multiple"=true) (k19:PySem.W.keepIn K (.ref f19)=true)
  (a20:PySem.W.nsIn K mainGlobals "points_in"=some (some (.ref f20))) (l20:K.lookup f20=some ⟨oc20,od20,.func (PySem.W.fnOf "points_in" "points_in" (au cH) (aq cH) (ah cH) .none kV20 dc20 pm20 an20 cd20 ct20),sl20⟩) (c20:PySem.W.codeIn K cd20 "points_in"=true) (k20:PySem.W.keepIn K (.ref f20)=true)
  {D21:Addr} {dod21 dn21 dsl21 dt21:_} (q21:K.lookup D21=some ⟨.type "tuple",dod21,.seq #[.int 1 dt21] dn21,dsl21⟩)
  (a21:PySem.W.nsIn K mainGlobals "count"=some (some (.ref f21))) (l21:K.lookup f21=some ⟨oc21,od21,.func (PySem.W.fnOf "count" "count" (au cy) (aq cy) (ah cy) (.ref D21) kV21 dc21 pm21 an21 cd21 ct21),sl21⟩) (c21:PySem.W.codeIn K cd21 "count"=true) (k21:PySem.W.keepIn K (.ref f21)=true)
  (a22:PySem.W.nsIn K mainGlobals "row_ends"=some (some (.ref f22))) (l22:K.lookup f22=some ⟨oc22,od22,.func (PySem.W.fnOf "row_ends" "row_ends" (au dc) (aq dc) (ah dc) .none kV22 dc22 pm22 an22 cd22 ct22),sl22⟩) (c22:PySem.W.codeIn K cd22 "row_ends"=true) (k22:PySem.W.keepIn K (.ref f22)=true)
  (a23:PySem.W.nsIn K mainGlobals "by_rows"=some (some (.ref f23))) (l23:K.lookup f23=some ⟨oc23,od23,.func (PySem.W.fnOf "by_rows" "by_rows" (au cG) (aq cG) (ah cG) .none kV23 dc23 pm23 an23 cd23 ct23),sl23⟩) (c23:PySem.W.codeIn K cd23 "by_rows"=true) (k23:PySem.W.keepIn K (.ref f23)=true)
  (a24:PySem.W.nsIn K mainGlobals "stakes"=some (some (.ref f24))) (l24:K.lookup f24=some ⟨oc24,od24,.func (PySem.W.fnOf "stakes" "stakes" (au eE) (aq eE) (ah eE) .none kV24 dc24 pm24 an24 cd24 ct24),sl24⟩) (c24:PySem.W.codeIn K cd24 "stakes"=true) (k24:PySem.W.keepIn K (.ref f24)=true)
  (a25:PySem.W.nsIn K mainGlobals "_law_cell_at"=some (some (.ref f25))) (l25:K.lookup f25=some ⟨oc25,od25,.func (PySem.W.fnOf "_law_cell_at" "_law_cell_at" (au bM) (aq bM) (ah bM) .none kV25 dc25 pm25 an25 cd25 ct25),sl25⟩) (c25:PySem.W.codeIn K cd25 "_law_cell_at"=true) (k25:PySem.W.keepIn K (.ref f25)=true)
  (a26:PySem.W.nsIn K mainGlobals "_law_whole"=some (some (.ref f26))) (l26:K.lookup f26=some ⟨oc26,od26,.func (PySem.W.fnOf "_law_whole" "_law_whole" (au cj) (aq cj) (ah cj) .none kV26 dc26 pm26 an26 cd26 ct26),sl26⟩) (c26:PySem.W.codeIn K cd26 "_law_whole"=true) (k26:PySem.W.keepIn K (.ref f26)=true)
  (a27:PySem.W.nsIn K mainGlobals "_law_is_point"=some (some (.ref f27))) (l27:K.lookup f27=some ⟨oc27,od27,.func (PySem.W.fnOf "_law_is_point" "_law_is_point" (au bA) (aq bA) (ah bA) .none kV27 dc27 pm27 an27 cd27 ct27),sl27⟩) (c27:PySem.W.codeIn K cd27 "_law_is_point"=true) (k27:PySem.W.keepIn K (.ref f27)=true)
  (a28:PySem.W.nsIn K mainGlobals "_law_cross"=some (some (.ref f28))) (l28:K.lookup f28=some ⟨oc28,od28,.func (PySem.W.fnOf "_law_cross" "_law_cross" (au cm) (aq cm) (ah cm) .none kV28 dc28 pm28 an28 cd28 ct28),sl28⟩) (c28:PySem.W.codeIn K cd28 "_law_cross"=true) (k28:PySem.W.keepIn K (.ref f28)=true)
  (a29:PySem.W.nsIn K mainGlobals "_law_corners"=some (some (.ref f29))) (l29:K.lookup f29=some ⟨oc29,od29,.func (PySem.W.fnOf "_law_corners" "_law_corners" (au bL) (aq bL) (ah bL) .none kV29 dc29 pm29 an29 cd29 ct29),sl29⟩) (c29:PySem.W.codeIn K cd29 "_law_corners"=true) (k29:PySem.W.keepIn K (.ref f29)=true)
  (a30:PySem.W.nsIn K mainGlobals "_law_holds"=some (some (.ref f30))) (l30:K.lookup f30=some ⟨oc30,od30,.func (PySem.W.fnOf "_law_holds" "_law_holds" (au cf) (aq cf) (ah cf) .none kV30 dc30 pm30 an30 cd30 ct30),sl30⟩) (c30:PySem.W.codeIn K cd30 "_law_holds"=true) (k30:PySem.W.keepIn K (.ref f30)=true)
  (a31:PySem.W.nsIn K mainGlobals "_law_walked"=some (some (.ref f31))) (l31:K.lookup f31=some ⟨oc31,od31,.func (PySem.W.fnOf "_law_walked" "_law_walked" (au bp) (aq bp) (ah bp) .none kV31 dc31 pm31 an31 cd31 ct31),sl31⟩) (c31:PySem.W.codeIn K cd31 "_law_walked"=true) (k31:PySem.W.keepIn K (.ref f31)=true)
  (a32:PySem.W.nsIn K mainGlobals "_law_ends"=some (some (.ref f32))) (l32:K.lookup f32=some ⟨oc32,od32,.func (PySem.W.fnOf "_law_ends" "_law_ends" (au bY) (aq bY) (ah bY) .none kV32 dc32 pm32 an32 cd32 ct32),sl32⟩) (c32:PySem.W.codeIn K cd32 "_law_ends"=true) (k32:PySem.W.keepIn K (.ref f32)=true)
  (a33:PySem.W.nsIn K mainGlobals "_law_lean"=some (some (.ref f33))) (l33:K.lookup f33=some ⟨oc33,od33,.func (PySem.W.fnOf "_law_lean" "_law_lean" (au cF) (aq cF) (ah cF) .none kV33 dc33 pm33 an33 cd33 ct33),sl33⟩) (c33:PySem.W.codeIn K cd33 "_law_lean"=true) (k33:PySem.W.keepIn K (.ref f33)=true)
  (a34:PySem.W.nsIn K mainGlobals "_law_put"=some (some (.ref f34))) (l34:K.lookup f34=some ⟨oc34,od34,.func (PySem.W.fnOf "_law_put" "_law_put" (au c_) (aq c_) (ah c_) .none kV34 dc34 pm34 an34 cd34 ct34),sl34⟩) (c34:PySem.W.codeIn K cd34 "_law_put"=true) (k34:PySem.W.keepIn K (.ref f34)=true)
  (a35:PySem.W.nsIn K mainGlobals "law"=some (some (.ref f35))) (l35:K.lookup f35=some ⟨oc35,od35,.func (PySem.W.fnOf "law" "law" (au g6) (aq g6) (ah g6) .none kV35 dc35 pm35 an35 cd35 ct35),sl35⟩) (c35:PySem.W.codeIn K cd35 "law"=true) (k35:PySem.W.keepIn K (.ref f35)=true)
  (e_NoField:PySem.W.nsIn K mainGlobals "NoField"=some (some (.ref c_NoField))) (x_NoField:PySem.W.excIn K c_NoField [.type "ValueError",.type "Exception",.type "BaseException",.type "object"] "ValueError.__new__"=true)
  (e_NoMove:PySem.W.nsIn K mainGlobals "NoMove"=some (some (.ref c_NoMove))) (x_NoMove:PySem.W.excIn K c_NoMove [.type "ValueError",.type "Exception",.type "BaseException",.type "object"] "ValueError.__new__"=true)
  (e_TooMany:PySem.W.nsIn K mainGlobals "TooMany"=some (some (.ref c_TooMany))) (x_TooMany:PySem.W.excIn K c_TooMany [.type "ValueError",.type "Exception",.type "BaseException",.type "object"] "ValueError.__new__"=true)
  (z_abs:PySem.W.nsIn K mainGlobals "abs"=some none)
  (z_all:PySem.W.nsIn K mainGlobals "all"=some none)
  (z_bool:PySem.W.nsIn K mainGlobals "bool"=some none)
  (z_int:PySem.W.nsIn K mainGlobals "int"=some none)
  (z_isinstance:PySem.W.nsIn K mainGlobals "isinstance"=some none)
  (z_len:PySem.W.nsIn K mainGlobals "len"=some none)
  (z_list:PySem.W.nsIn K mainGlobals "list"=some none)
  (z_max:PySem.W.nsIn K mainGlobals "max"=some none)
  (z_min:PySem.W.nsIn K mainGlobals "min"=some none)
  (z_range:PySem.W.nsIn K mainGlobals "range"=some none)
  (z_reversed:PySem.W.nsIn K mainGlobals "reversed"=some none)
  (z_set:PySem.W.nsIn K mainGlobals "set"=some none)
  (z_sorted:PySem.W.nsIn K mainGlobals "sorted"=some none)
  (z_sum:PySem.W.nsIn K mainGlobals "sum"=some none)
  (z_tuple:PySem.W.nsIn K mainGlobals "tuple"=some none)
  (z_zip:PySem.W.nsIn K mainGlobals "zip"=some none)
  {t_MOST_STAKES:_} (g_MOST_STAKES:PySem.W.nsIn K mainGlobals "MOST_STAKES"=some (some (.int 100 t_MOST_STAKES)))
  :∃ T:Txt K mg,T.a_law=fa∧(∀ (s:Shared) (v:Value),BindsTo s T.d_law ⟨[v],[]⟩ [("script",v)]):=by
 have e:=hfa.symm.trans (PySem.W.mg_of X G a35)
 cases e
 have F0:=aO (st:=cY) l0 c0 k0
 have b0:=F0.binds (ps:=["thing"]) fun _ _ _ _ _ _ us hl=> ar1 (p:=fun us=> bindArgs _ ⟨us,[]⟩=pure (List.zip _ us)) hl fun _=> rfl
 have F1:=aO (st:=hU) l1 c1 k1
 have b1:=F1.binds (ps:=["number"]) fun _ _ _ _ _ _ us hl=> ar1 (p:=fun us=> bindArgs _ ⟨us,[]⟩=pure (List.zip _ us)) hl fun _=> rfl
 have F2:=aO (st:=eO) l2 c2 k2
 have b2:=F2.binds (ps:=["a","b"]) fun _ _ _ _ _ _ us hl=> ar2 (p:=fun us=> bindArgs _ ⟨us,[]⟩=pure (List.zip _ us)) hl fun _ _=> rfl
 have F3:=aO (st:=hX) l3 c3 k3
 have b3:=F3.binds (ps:=["move"]) fun _ _ _ _ _ _ us hl=> ar1 (p:=fun us=> bindArgs _ ⟨us,[]⟩=pure (List.zip _ us)) hl fun _=> rfl
 have F4:=aO (st:=cV) l4 c4 k4
 have b4:=F4.binds (ps:=["thing"]) fun _ _ _ _ _ _ us hl=> ar1 (p:=fun us=> bindArgs _ ⟨us,[]⟩=pure (List.zip _ us)) hl fun _=> rfl
 have F5:=aO (st:=cE) l5 c5 k5
 have b5:=F5.binds (ps:=["thing"]) fun _ _ _ _ _ _ us hl=> ar1 (p:=fun us=> bindArgs _ ⟨us,[]⟩=pure (List.zip _ us)) hl fun _=> rfl
 have F6:=aO (st:=eN) l6 c6 k6
 have b6:=F6.binds (ps:=["P","move"]) fun _ _ _ _ _ _ us hl=> ar2 (p:=fun us=> bindArgs _ ⟨us,[]⟩=pure (List.zip _ us)) hl fun _ _=> rfl
 have F7:=aO (st:=fW) l7 c7 k7
 have b7:=F7.binds (ps:=["P","move"]) fun _ _ _ _ _ _ us hl=> ar2 (p:=fun us=> bindArgs _ ⟨us,[]⟩=pure (List.zip _ us)) hl fun _ _=> rfl
 have F8:=aO (st:=df) l8 c8 k8
 have b8:=F8.binds (ps:=["move"]) fun _ _ _ _ _ _ us hl=> ar1 (p:=fun us=> bindArgs _ ⟨us,[]⟩=pure (List.zip _ us)) hl fun _=> rfl
 have F9:=aO (st:=fT) l9 c9 k9
 have b9:=F9.binds (ps:=["P","Q"]) fun _ _ _ _ _ _ us hl=> ar2 (p:=fun us=> bindArgs _ ⟨us,[]⟩=pure (List.zip _ us)) hl fun _ _=> rfl
 have F10:=aO (st:=fS) l10 c10 k10
 have b10:=F10.binds (ps:=["P","Q"]) fun _ _ _ _ _ _ us hl=> ar2 (p:=fun us=> bindArgs _ ⟨us,[]⟩=pure (List.zip _ us)) hl fun _ _=> rfl
 have F11:=aO (st:=ik) l11 c11 k11
 have b11:=F11.binds (ps:=["P","Q","R"]) fun _ _ _ _ _ _ us hl=> ar3 (p:=fun us=> bindArgs _ ⟨us,[]⟩=pure (List.zip _ us)) hl fun _ _ _=> rfl
 have F12:=aO (st:=ck) l12 c12 k12
 have b12:=F12.binds (ps:=["row"]) fun _ _ _ _ _ _ us hl=> ar1 (p:=fun us=> bindArgs _ ⟨us,[]⟩=pure (List.zip _ us)) hl fun _=> rfl
 have F13:=aO (st:=fP) l13 c13 k13
 have b13:=F13.binds (ps:=["points"]) fun _ _ _ _ _ _ us hl=> ar1 (p:=fun us=> bindArgs _ ⟨us,[]⟩=pure (List.zip _ us)) hl fun _=> rfl
 have F14:=aO (st:=fO) l14 c14 k14
 have b14:=F14.binds (ps:=["land"]) fun _ _ _ _ _ _ us hl=> ar1 (p:=fun us=> bindArgs _ ⟨us,[]⟩=pure (List.zip _ us)) hl fun _=> rfl
 have F15:=aO (st:=bH) l15 c15 k15
 have b15:=F15.binds (ps:=["land"]) fun _ _ _ _ _ _ us hl=> ar1 (p:=fun us=> bindArgs _ ⟨us,[]⟩=pure (List.zip _ us)) hl fun _=> rfl
 have F16:=aO (st:=jk) l16 c16 k16
 have b16:=F16.binds (ps:=["land"]) fun _ _ _ _ _ _ us hl=> ar1 (p:=fun us=> bindArgs _ ⟨us,[]⟩=pure (List.zip _ us)) hl fun _=> rfl
 have F17:=aO (st:=bG) l17 c17 k17
 have b17:=F17.binds (ps:=["land","move"]) fun _ _ _ _ _ _ us hl=> ar2 (p:=fun us=> bindArgs _ ⟨us,[]⟩=pure (List.zip _ us)) hl fun _ _=> rfl
 have F18:=aO (st:=gD) l18 c18 k18
 have b18:=F18.binds (ps:=["land","k"]) fun _ _ _ _ _ _ us hl=> ar2 (p:=fun us=> bindArgs _ ⟨us,[]⟩=pure (List.zip _ us)) hl fun _ _=> rfl
 have F19:=aO (st:=cZ) l19 c19 k19
 have b19:=F19.binds (ps:=["land","k"]) fun _ _ _ _ _ _ us hl=> ar2 (p:=fun us=> bindArgs _ ⟨us,[]⟩=pure (List.zip _ us)) hl fun _ _=> rfl
 have F20:=aO (st:=cH) l20 c20 k20
 have b20:=F20.binds (ps:=["land"]) fun _ _ _ _ _ _ us hl=> ar1 (p:=fun us=> bindArgs _ ⟨us,[]⟩=pure (List.zip _ us)) hl fun _=> rfl
 have F21:=v_ (st:=cy) l21 c21 k21
 have b21:aK K (PySem.W.fnOf "count" "count" (au cy) (aq cy) (ah cy) (.ref D21) kV21 dc21 pm21 an21 cd21 ct21) ["land","k"] []:=fun s us X hl=> match us,hl with | [_,_],_=> BindsTo.of_defaults rfl (X _ _ q21) rfl rfl rfl
 have bd21:∃ t,aK K (PySem.W.fnOf "count" "count" (au cy) (aq cy) (ah cy) (.ref D21) kV21 dc21 pm21 an21 cd21 ct21) ["land","k"] [.int 1 t]:=⟨dt21,fun s us X hl=> match us,(show us.length=1 by simpa using hl) with | [_],_=> BindsTo.of_defaults rfl (X _ _ q21) rfl rfl rfl⟩
 have F22:=aO (st:=dc) l22 c22 k22
 have b22:=F22.binds (ps:=["land","y"]) fun _ _ _ _ _ _ us hl=> ar2 (p:=fun us=> bindArgs _ ⟨us,[]⟩=pure (List.zip _ us)) hl fun _ _=> rfl
 have F23:=aO (st:=cG) l23 c23 k23
 have b23:=F23.binds (ps:=["land"]) fun _ _ _ _ _ _ us hl=> ar1 (p:=fun us=> bindArgs _ ⟨us,[]⟩=pure (List.zip _ us)) hl fun _=> rfl
 have F24:=aO (st:=eE) l24 c24 k24
 have b24:=F24.binds (ps:=["land"]) fun _ _ _ _ _ _ us hl=> ar1 (p:=fun us=> bindArgs _ ⟨us,[]⟩=pure (List.zip _ us)) hl fun _=> rfl
 have F25:=aO (st:=bM) l25 c25 k25
 have b25:=F25.binds (ps:=["script","k"]) fun _ _ _ _ _ _ us hl=> ar2 (p:=fun us=> bindArgs _ ⟨us,[]⟩=pure (List.zip _ us)) hl fun _ _=> rfl
 have F26:=aO (st:=cj) l26 c26 k26
 have b26:=F26.binds (ps:=["found"]) fun _ _ _ _ _ _ us hl=> ar1 (p:=fun us=> bindArgs _ ⟨us,[]⟩=pure (List.zip _ us)) hl fun _=> rfl
 have F27:=aO (st:=bA) l27 c27 k27
 have b27:=F27.binds (ps:=["found"]) fun _ _ _ _ _ _ us hl=> ar1 (p:=fun us=> bindArgs _ ⟨us,[]⟩=pure (List.zip _ us)) hl fun _=> rfl
 have F28:=aO (st:=cm) l28 c28 k28
 have b28:=F28.binds (ps:=["one","two","three"]) fun _ _ _ _ _ _ us hl=> ar3 (p:=fun us=> bindArgs _ ⟨us,[]⟩=pure (List.zip _ us)) hl fun _ _ _=> rfl
 have F29:=aO (st:=bL) l29 c29 k29
 have b29:=F29.binds (ps:=["points"]) fun _ _ _ _ _ _ us hl=> ar1 (p:=fun us=> bindArgs _ ⟨us,[]⟩=pure (List.zip _ us)) hl fun _=> rfl
 have F30:=aO (st:=cf) l30 c30 k30
 have b30:=F30.binds (ps:=["ends","spot"]) fun _ _ _ _ _ _ us hl=> ar2 (p:=fun us=> bindArgs _ ⟨us,[]⟩=pure (List.zip _ us)) hl fun _ _=> rfl
 have F31:=aO (st:=bp) l31 c31 k31
 have b31:=F31.binds (ps:=["ends"]) fun _ _ _ _ _ _ us hl=> ar1 (p:=fun us=> bindArgs _ ⟨us,[]⟩=pure (List.zip _ us)) hl fun _=> rfl
 have F32:=aO (st:=bY) l32 c32 k32
 have b32:=F32.binds (ps:=["script"]) fun _ _ _ _ _ _ us hl=> ar1 (p:=fun us=> bindArgs _ ⟨us,[]⟩=pure (List.zip _ us)) hl fun _=> rfl
 have F33:=aO (st:=cF) l33 c33 k33
 have b33:=F33.binds (ps:=["cell","small"]) fun _ _ _ _ _ _ us hl=> ar2 (p:=fun us=> bindArgs _ ⟨us,[]⟩=pure (List.zip _ us)) hl fun _ _=> rfl
 have F34:=aO (st:=c_) l34 c34 k34
 have b34:=F34.binds (ps:=["spot","script"]) fun _ _ _ _ _ _ us hl=> ar2 (p:=fun us=> bindArgs _ ⟨us,[]⟩=pure (List.zip _ us)) hl fun _ _=> rfl
 have F35:=aO (st:=g6) l35 c35 k35
 have b35:=F35.binds (ps:=["script"]) fun _ _ _ _ _ _ us hl=> ar1 (p:=fun us=> bindArgs _ ⟨us,[]⟩=pure (List.zip _ us)) hl fun _=> rfl
 exact ⟨⟨_,_,F0,b0,PySem.W.mg_of X G a0,_,_,F1,b1,PySem.W.mg_of X G a1,_,_,F2,b2,PySem.W.mg_of X G a2,_,_,F3,b3,PySem.W.mg_of X G a3,_,_,F4,b4,PySem.W.mg_of X G a4,_,_,F5,b5,PySem.W.mg_of X G a5,_,_,F6,b6,PySem.W.mg_of X G a6,_,_,F7,b7,PySem.W.mg_of X G a7,_,_,F8,b8,PySem.W.mg_of X G a8,_,_,F9,b9,PySem.W.mg_of X G a9,_,_,F10,b10,PySem.W.mg_of X G a10,_,_,F11,b11,PySem.W.mg_of X G a11,_,_,F12,b12,PySem.W.mg_of X G a12,_,_,F13,b13,PySem.W.mg_of X G a13,_,_,F14,b14,PySem.W.mg_of X G a14,_,_,F15,b15,PySem.W.mg_of X G a15,_,_,F16,b16,PySem.W.mg_of X G a16,_,_,F17,b17,PySem.W.mg_of X G a17,_,_,F18,b18,PySem.W.mg_of X G a18,_,_,F19,b19,PySem.W.mg_of X G a19,_,_,F20,b20,PySem.W.mg_of X G a20,_,_,_,F21,b21,bd21,PySem.W.mg_of X G a21,_,_,F22,b22,PySem.W.mg_of X G a22,_,_,F23,b23,PySem.W.mg_of X G a23,_,_,F24,b24,PySem.W.mg_of X G a24,_,_,F25,b25,PySem.W.mg_of X G a25,_,_,F26,b26,PySem.W.mg_of X G a26,_,_,F27,b27,PySem.W.mg_of X G a27,_,_,F28,b28,PySem.W.mg_of X G a28,_,_,F29,b29,PySem.W.mg_of X G a29,_,_,F30,b30,PySem.W.mg_of X G a30,_,_,F31,b31,PySem.W.mg_of X G a31,_,_,F32,b32,PySem.W.mg_of X G a32,_,_,F33,b33,PySem.W.mg_of X G a33,_,_,F34,b34,PySem.W.mg_of X G a34,_,_,F35,b35,PySem.W.mg_of X G a35,_,x_NoField,PySem.W.mg_of X G e_NoField,_,x_NoMove,PySem.W.mg_of X G e_NoMove,_,x_TooMany,PySem.W.mg_of X G e_TooMany,PySem.W.mg_none_of X G z_abs,PySem.W.mg_none_of X G z_all,PySem.W.mg_none_of X G z_bool,PySem.W.mg_none_of X G z_int,PySem.W.mg_none_of X G z_isinstance,PySem.W.mg_none_of X G z_len,PySem.W.mg_none_of X G z_list,PySem.W.mg_none_of X G z_max,PySem.W.mg_none_of X G z_min,PySem.W.mg_none_of X G z_range,PySem.W.mg_none_of X G z_reversed,PySem.W.mg_none_of X G z_set,PySem.W.mg_none_of X G z_sorted,PySem.W.mg_none_of X G z_sum,PySem.W.mg_none_of X G z_tuple,PySem.W.mg_none_of X G z_zip,⟨_,PySem.W.mg_of X G g_MOST_STAKES⟩⟩,rfl,fun s v=> .of_eq rfl⟩
abbrev spLaw (K:PySem.W.Frag):Sp:=spU K g_
theorem law_start (K:PySem.W.Frag) (H:Hp) (a:Addr) (ns:List Int) (h1:ns.length≤63) (h2:∀ m∈ns,Sz 1048576 m) (_:ww H) (h3:SqL K H a (ns.map V.int)):spLaw K [.ref a] H (fun v _=> v=.bl true) fun _ _ _=> False:=rC h1 h2 h3
theorem law_ok {P:Program} {w:World} {K:PySem.W.Frag} {mg:Str→Option Value} {fa:Addr} (h:∃ T:Txt K mg,T.a_law=fa∧(∀ (s:Shared) (v:Value),BindsTo s T.d_law ⟨[v],[]⟩ [("script",v)])):
  ∃ fd:FuncData,(∀ (s:Shared) (u:Value),BindsTo s fd ⟨[u],[]⟩ [("script",u)])∧∀ base:Heap,K.In base→base.Ns mainGlobals mg→aX P w K mg base CX0 9 fa fd ["script"] (spLaw K):=by
 obtain ⟨T,rfl,hb⟩:=h
 exact ⟨T.d_law,hb,fun base _ _=> (zE T).calm tZ⟩
end My
def PySem.W.Fast.tw7224731573384534113:Unit:=()
def PySem.W.Fast.tw13729626407219741317:Unit:=()
def PySem.W.Fast.tw15157625257547763716:Unit:=()
def PySem.W.Fast.tw3662871084962358641:Unit:=()
def PySem.W.Fast.tw16482806620630764047:Unit:=()
def PySem.W.Fast.tw1743984284083628944:Unit:=()
def PySem.W.Fast.tw13784476294089803835:Unit:=()
def PySem.W.Fast.tw373001254736470448:Unit:=()
def PySem.W.Fast.tw15753880202460625412:Unit:=()
def PySem.W.Fast.tw17775884847317198834:Unit:=()
def PySem.W.Fast.tw14229869531053309565:Unit:=()
def PySem.W.Fast.tw12510532520760971874:Unit:=()
def PySem.W.Fast.tw17530412626175128476:Unit:=()
def PySem.W.Fast.tw16209374256079072073:Unit:=()
def PySem.W.Fast.tw4701016946134355994:Unit:=()
def PySem.W.Fast.tw600935025374222434:Unit:=()
def PySem.W.Fast.tw2865597535717195423:Unit:=()
def PySem.W.Fast.tw14897262476627320558:Unit:=()
def PySem.W.Fast.tw11431576648934134659:Unit:=()
def PySem.W.Fast.tw18231575275236192228:Unit:=()
def PySem.W.Fast.tw11893737599600355496:Unit:=()
def PySem.W.Fast.tw5901844561462731494:Unit:=()
def PySem.W.Fast.tw16345266029109959058:Unit:=()
def PySem.W.Fast.tw15877937669660763711:Unit:=()
def PySem.W.Fast.tw18096813069263729574:Unit:=()
def PySem.W.Fast.tw9127952623260094886:Unit:=()
def PySem.W.Fast.tw7686125176314459889:Unit:=()
def PySem.W.Fast.tw15032639935682507576:Unit:=()
def PySem.W.Fast.tw15240798533300169824:Unit:=()
def PySem.W.Fast.tw3292667395451244964:Unit:=()
def PySem.W.Fast.tw6781617972924411486:Unit:=()
def PySem.W.Fast.tw11939272319607767332:Unit:=()
def PySem.W.Fast.tw5264710345879701516:Unit:=()
def PySem.W.Fast.tw5425187567637700616:Unit:=()
def PySem.W.Fast.tw5907336500575832874:Unit:=()
def PySem.W.Fast.tw6344765748974945753:Unit:=()
def PySem.W.Fast.tw691067378760609155:Unit:=()
def PySem.W.Fast.tw275573257430350965:Unit:=()
def PySem.W.Fast.tw16089973401304947535:Unit:=()
def PySem.W.Fast.tw12208884813856417832:Unit:=()
def PySem.W.Fast.tw6601324314617602320:Unit:=()
def PySem.W.Fast.tw13707030521070719593:Unit:=()
def PySem.W.Fast.tw11440588931737557925:Unit:=()
def PySem.W.Fast.tw14210995467205000958:Unit:=()
def PySem.W.Fast.tw17288700632139857229:Unit:=()
def PySem.W.Fast.tw14891173817406909413:Unit:=()
def PySem.W.Fast.tw884575962099092623:Unit:=()
def PySem.W.Fast.tw7239719729451871771:Unit:=()
def PySem.W.Fast.tw16694735584035264508:Unit:=()
def PySem.W.Fast.tw9085492559849875904:Unit:=()
def PySem.W.Fast.tw8255805538062750611:Unit:=()
def PySem.W.Fast.tw15445957771284007070:Unit:=()
def PySem.W.Fast.tw4997800023149231661:Unit:=()
def PySem.W.Fast.tw11131724440093439568:Unit:=()
def PySem.W.Fast.tw7712314943109010748:Unit:=()
def PySem.W.Fast.tw10101983667849757601:Unit:=()
def PySem.W.Fast.tw14587402354558543939:Unit:=()
def PySem.W.Fast.tw18232446117008662084:Unit:=()
def PySem.W.Fast.tw13576633913283397431:Unit:=()
def PySem.W.Fast.tw1559394934751189642:Unit:=()
def PySem.W.Fast.tw14164338145866024548:Unit:=()
def PySem.W.Fast.tw358068991017582088:Unit:=()
def PySem.W.Fast.tw2008461302579122192:Unit:=()
def PySem.W.Fast.tw17765032332716082473:Unit:=()
def PySem.W.Fast.tw15873623798431972878:Unit:=()
def PySem.W.Fast.tw1450454080733250942:Unit:=()
def PySem.W.Fast.tw14616130981441237529:Unit:=()
def PySem.W.Fast.tw4776882142088465956:Unit:=()
def PySem.W.Fast.tw7011147852647122723:Unit:=()
def PySem.W.Fast.tw3880754966059708169:Unit:=()
def PySem.W.Fast.tw13856145596997438233:Unit:=()
def PySem.W.Fast.tw2582995411433861989:Unit:=()
open PySem PySem.W PyProof.Rows L2
set_option maxRecDepth 100000 in
set_option maxHeartbeats 0 in
theorem PySem.Challenge.cw_stakefield_k25_stakes_far_holds : PySem.Challenge.rw_stakefield_k25_stakes_far.Holds := by
 w_on; o_law; k_head; (case hw=> w_witness2)
 k_fill
 refine L2.walk_ofB (l:=PySem.Challenge.rw_stakefield_k25_stakes_far) (n:=63) (k:=9) (x:="script") (CX:=CX0) (sp:=My.spLaw) rfl (by decide) rfl ⟨rfl,by decide,by decide⟩ (fun w h Y=> by first | exact PySem.W.kIn_of Y | exact PySem.W.km_in_of Y) ?F My.law_start (fun _ _ _ _ z=> z)
 case F=>
  intro w mg fa h KX G hmg
  refine My.law_ok ?T
  refine' My.txt_mk KX G hmg ?a0 ?l0 ?c0 ?k0 ?a1 ?l1 ?c1 ?k1 ?a2 ?l2 ?c2 ?k2 ?a3 ?l3 ?c3 ?k3 ?a4 ?l4 ?c4 ?k4 ?a5 ?l5 ?c5 ?k5 ?a6 ?l6 ?c6 ?k6 ?a7 ?l7 ?c7 ?k7 ?a8 ?l8 ?c8 ?k8 ?a9 ?l9 ?c9 ?k9 ?a10 ?l10 ?c10 ?k10 ?a11 ?l11 ?c11 ?k11 ?a12 ?l12 ?c12 ?k12 ?a13 ?l13 ?c13 ?k13 ?a14 ?l14 ?c14 ?k14 ?a15 ?l15 ?c15 ?k15 ?a16 ?l16 ?c16 ?k16 ?a17 ?l17 ?c17 ?k17 ?a18 ?l18 ?c18 ?k18 ?a19 ?l19 ?c19 ?k19 ?a20 ?l20 ?c20 ?k20 ?q21 ?a21 ?l21 ?c21 ?k21 ?a22 ?l22 ?c22 ?k22 ?a23 ?l23 ?c23 ?k23 ?a24 ?l24 ?c24 ?k24 ?a25 ?l25 ?c25 ?k25 ?a26 ?l26 ?c26 ?k26 ?a27 ?l27 ?c27 ?k27 ?a28 ?l28 ?c28 ?k28 ?a29 ?l29 ?c29 ?k29 ?a30 ?l30 ?c30 ?k30 ?a31 ?l31 ?c31 ?k31 ?a32 ?l32 ?c32 ?k32 ?a33 ?l33 ?c33 ?k33 ?a34 ?l34 ?c34 ?k34 ?a35 ?l35 ?c35 ?k35 ?e_NoField ?x_NoField ?e_NoMove ?x_NoMove ?e_TooMany ?x_TooMany ?z_abs ?z_all ?z_bool ?z_int ?z_isinstance ?z_len ?z_list ?z_max ?z_min ?z_range ?z_reversed ?z_set ?z_sorted ?z_sum ?z_tuple ?z_zip  ?g_MOST_STAKES
  (case a0=> k_is); (case l0=> k_is); (case c0=> k_is); (case k0=> k_is)
  (case a1=> k_is); (case l1=> k_is); (case c1=> k_is); (case k1=> k_is)
  (case a2=> k_is); (case l2=> k_is); (case c2=> k_is); (case k2=> k_is)
  (case a3=> k_is); (case l3=> k_is); (case c3=> k_is); (case k3=> k_is)
  (case a4=> k_is); (case l4=> k_is); (case c4=> k_is); (case k4=> k_is)
  (case a5=> k_is); (case l5=> k_is); (case c5=> k_is); (case k5=> k_is)
  (case a6=> k_is); (case l6=> k_is); (case c6=> k_is); (case k6=> k_is)
  (case a7=> k_is); (case l7=> k_is); (case c7=> k_is); (case k7=> k_is)
  (case a8=> k_is); (case l8=> k_is); (case c8=> k_is); (case k8=> k_is)
  (case a9=> k_is); (case l9=> k_is); (case c9=> k_is); (case k9=> k_is)
  (case a10=> k_is); (case l10=> k_is); (case c10=> k_is); (case k10=> k_is)
  (case a11=> k_is); (case l11=> k_is); (case c11=> k_is); (case k11=> k_is)
  (case a12=> k_is); (case l12=> k_is); (case c12=> k_is); (case k12=> k_is)
  (case a13=> k_is); (case l13=> k_is); (case c13=> k_is); (case k13=> k_is)
  (case a14=> k_is); (case l14=> k_is); (case c14=> k_is); (case k14=> k_is)
  (case a15=> k_is); (case l15=> k_is); (case c15=> k_is); (case k15=> k_is)
  (case a16=> k_is); (case l16=> k_is); (case c16=> k_is); (case k16=> k_is)
  (case a17=> k_is); (case l17=> k_is); (case c17=> k_is); (case k17=> k_is)
  (case a18=> k_is); (case l18=> k_is); (case c18=> k_is); (case k18=> k_is)
  (case a19=> k_is); (case l19=> k_is); (case c19=> k_is); (case k19=> k_is)
  (case a20=> k_is); (case l20=> k_is); (case c20=> k_is); (case k20=> k_is)
  (case a21=> k_is); (case l21=> k_is); (case c21=> k_is); (case k21=> k_is); (case q21=> k_is)
  (case a22=> k_is); (case l22=> k_is); (case c22=> k_is); (case k22=> k_is)
  (case a23=> k_is); (case l23=> k_is); (case c23=> k_is); (case k23=> k_is)
  (case a24=> k_is); (case l24=> k_is); (case c24=> k_is); (case k24=> k_is)
  (case a25=> k_is); (case l25=> k_is); (case c25=> k_is); (case k25=> k_is)
  (case a26=> k_is); (case l26=> k_is); (case c26=> k_is); (case k26=> k_is)
  (case a27=> k_is); (case l27=> k_is); (case c27=> k_is); (case k27=> k_is)
  (case a28=> k_is); (case l28=> k_is); (case c28=> k_is); (case k28=> k_is)
  (case a29=> k_is); (case l29=> k_is); (case c29=> k_is); (case k29=> k_is)
  (case a30=> k_is); (case l30=> k_is); (case c30=> k_is); (case k30=> k_is)
  (case a31=> k_is); (case l31=> k_is); (case c31=> k_is); (case k31=> k_is)
  (case a32=> k_is); (case l32=> k_is); (case c32=> k_is); (case k32=> k_is)
  (case a33=> k_is); (case l33=> k_is); (case c33=> k_is); (case k33=> k_is)
  (case a34=> k_is); (case l34=> k_is); (case c34=> k_is); (case k34=> k_is)
  (case a35=> k_is); (case l35=> k_is); (case c35=> k_is); (case k35=> k_is)
  (case e_NoField=> k_is); (case x_NoField=> k_exc)
  (case e_NoMove=> k_is); (case x_NoMove=> k_exc)
  (case e_TooMany=> k_is); (case x_TooMany=> k_exc)
  (case z_abs=> k_is)
  (case z_all=> k_is)
  (case z_bool=> k_is)
  (case z_int=> k_is)
  (case z_isinstance=> k_is)
  (case z_len=> k_is)
  (case z_list=> k_is)
  (case z_max=> k_is)
  (case z_min=> k_is)
  (case z_range=> k_is)
  (case z_reversed=> k_is)
  (case z_set=> k_is)
  (case z_sorted=> k_is)
  (case z_sum=> k_is)
  (case z_tuple=> k_is)
  (case z_zip=> k_is)
  (case g_MOST_STAKES=> k_is)
