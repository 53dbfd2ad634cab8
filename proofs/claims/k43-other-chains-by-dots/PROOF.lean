import PyProof.Rows.All
import Wide.All
import OpenK.AllK
import Wide.FinOn
import Lean
import PyProof.EqAt
import PyProof.EqKinds
import PyProof.NeKinds
import PyProof.TupleCall
import KE.KDictSum
import KE.KSortTup
import KE.KRevIter
import KE.KRevSl
import PySem.Challenge.RW_stakefield_k43_other_chains_by_dots
set_option Elab.async false
set_option linter.all false
set_option maxRecDepth 100000
namespace L2
open PySem PySem.Spec PyProof.Rows
abbrev Key:=Sum Int Str
def iT:Key→Value→Bool
 | .inl k,v=> Value.isInt k v
 | .inr x,v=> Value.isStrOf x v
def lf (w:World):Key→Int
 | .inl k=> hashInt k
 | .inr x=> hashStr w x
theorem aA:∀ {k:Key} {v:Value},iT k v=true→(∃ i t,k=Sum.inl i∧v=Value.int i t)∨(∃ x t,k=Sum.inr x∧v=Value.str x t)
 | .inl i,v,h=> by
  obtain ⟨t,e⟩:=Value.isInt_shape (k:=i) (v:=v) h
  exact .inl ⟨i,t,rfl,e⟩
 | .inr x,v,h=> by
  obtain ⟨t,e⟩:=Value.isStrOf_shape (x:=x) (v:=v) h
  exact .inr ⟨x,t,rfl,e⟩
theorem jD (a b:Int):decide ((Sum.inl a:Key)=Sum.inl b)=(a==b):=by
 by_cases e:a=b
 ·subst e; simp
 ·have h:¬ (Sum.inl a:Key)=Sum.inl b:=fun q=> e (Sum.inl.inj q)
  rw [decide_eq_false h]
  exact (beq_eq_false_iff_ne.mpr e).symm
theorem ju (a b:Str):decide ((Sum.inr a:Key)=Sum.inr b)=decide (a=b):=by
 by_cases e:a=b
 ·subst e; simp
 ·have h:¬ (Sum.inr a:Key)=Sum.inr b:=fun q=> e (Sum.inr.inj q)
  rw [decide_eq_false h,decide_eq_false e]
theorem jd (a:Int) (b:Str):decide ((Sum.inl a:Key)=Sum.inr b)=false:=decide_eq_false (fun q=> nomatch q)
theorem jB (a:Str) (b:Int):decide ((Sum.inr a:Key)=Sum.inl b)=false:=decide_eq_false (fun q=> nomatch q)
def ff (prog:Program) (w:World):PySem.KeyKind prog w Key where
 is:=iT
 hash:=lf w
 inj:=fun v a b ha hb=> by
  rcases aA ha with ⟨i,t,rfl,rfl⟩ | ⟨x,t,rfl,rfl⟩
  ·rcases aA hb with ⟨j,u,rfl,e⟩ | ⟨y,u,rfl,e⟩
   ·injection e with e1 _; rw [e1]
   ·exact nomatch e
  ·rcases aA hb with ⟨j,u,rfl,e⟩ | ⟨y,u,rfl,e⟩
   ·exact nomatch e
   ·injection e with e1 _; rw [e1]
 byValue:=fun k v h=> by
  rcases aA h with ⟨i,t,rfl,rfl⟩ | ⟨x,t,rfl,rfl⟩ <;> rfl
 pyHash:=fun hv h=> by
  rcases aA hv with ⟨i,t,rfl,rfl⟩ | ⟨x,t,rfl,rfl⟩
  ·exact wpAny_pyHash_int h
  ·exact wpAny_pyHash_str h
 eqBool:=fun hu hv h=> by
  rcases aA hu with ⟨i,t,rfl,rfl⟩ | ⟨x,t,rfl,rfl⟩
  ·rcases aA hv with ⟨j,u,rfl,rfl⟩ | ⟨y,u,rfl,rfl⟩
   ·rw [jD] at h; exact wpAny_eqBool_int h
   ·rw [jd] at h; exact SeqAt.EqAt.int_str i t y u _ _ _ _ h
  ·rcases aA hv with ⟨j,u,rfl,rfl⟩ | ⟨y,u,rfl,rfl⟩
   ·rw [jB] at h; exact SeqAt.EqAt.str_int x t j u _ _ _ _ h
   ·rw [ju] at h; exact wpAny_eqBool_str h
 «strs»:=fun k x t v h=> by
  rcases aA h with ⟨i,u,rfl,e⟩ | ⟨y,u,rfl,e⟩
  ·exact nomatch e
  ·injection e with e1 _
   subst e1
   cases v <;> rfl
end L2
namespace L2
open PySem PySem.Spec PyProof.Rows
inductive V where
 | non | bl (b:Bool) | int (i:Int) | str (x:Str) | byt (b:Array UInt8) | flt (b:UInt64) | ref (a:Addr) | ty (n:String)
 deriving DecidableEq
def av:V→Value→Prop
 | .non,u=> u=Value.none
 | .bl b,u=> u=Value.bool b
 | .int i,u=> ∃ t,u=Value.int i t
 | .str x,u=> ∃ t,u=Value.str x t
 | .byt b,u=> ∃ t,u=Value.bytes b t
 | .flt b,u=> ∃ t,u=Value.float b t
 | .ref a,u=> u=Value.ref a
 | .ty n,u=> u=Value.type n
abbrev ak:List V→List Value→Prop:=Paired av
theorem ak.length {xs:List V} {us:List Value} (r:ak xs us):xs.length=us.length:=Paired.length r
theorem ak.get:∀ {xs:List V} {us:List Value} {i:Nat} {x:V},ak xs us→xs[i]?=some x→∃ u,us[i]?=some u∧av x u
 | _,_,_,_,.nil,e=> by simp at e
 | _,_,0,_,.cons r _,e=> by simp at e; subst e; exact ⟨_,rfl,r⟩
 | _,_,i+1,x,.cons _ t,e=> by
  obtain ⟨u,h1,h2⟩:=ak.get (i:=i) (x:=x) t (by simpa using e)
  exact ⟨u,by simpa using h1,h2⟩
theorem ak.set {x:V} {u:Value} (r:av x u):∀ {xs:List V} {us:List Value} (i:Nat),ak xs us→ak (xs.set i x) (us.set i u)
 | _,_,_,.nil=> .nil
 | _,_,0,.cons _ t=> .cons r t
 | _,_,i+1,.cons q t=> .cons q (ak.set r i t)
theorem ak.append:∀ {xs ys:List V} {us ws:List Value},ak xs us→ak ys ws→ak (xs++ys) (us++ws)
 | _,_,_,_,.nil,s=> s
 | _,_,_,_,.cons r t,s=> .cons r (ak.append t s)
theorem ak.take:∀ {xs:List V} {us:List Value} (n:Nat),ak xs us→ak (xs.take n) (us.take n)
 | _,_,0,_=> .nil
 | _,_,_+1,.nil=> .nil
 | _,_,n+1,.cons r t=> .cons r (ak.take n t)
theorem ak.drop:∀ {xs:List V} {us:List Value} (n:Nat),ak xs us→ak (xs.drop n) (us.drop n)
 | _,_,0,r=> r
 | _,_,_+1,.nil=> .nil
 | _,_,n+1,.cons _ t=> ak.drop n t
def jf:Option V→Option Value→Prop
 | some v,some u=> av v u
 | none,none=> True
 | _,_=> False
def KV {κ:Type}:List (κ×V)→List (κ×Value)→Prop:=Paired fun (p:κ×V) (q:κ×Value)=> p.1=q.1∧av p.2 q.2
def kV:Key→V
 | .inl i=> .int i
 | .inr x=> .str x
inductive HO where
 /-- a list -/
 | lst (xs:List V)
 /-- a tuple (never changes) -/
 | tup (xs:List V)
 /-- a dict whose keys are ints and texts; one whose keys are tuples of ints and texts (the empty one is both) -/
 | dK (kvs:List (Key×V)) | dT (kvs:List (List Key×V))
 /-- a set of ints:its members,its size -/
 | set (S:Int→Bool) (n:Nat)
 /-- an instance of the class at C,its dict at dx,its attributes -/
 | ins (C dx:Addr) (fs:List (Str×V))
 /-- the dict of the instance at x -/
 | own (x:Addr)
 /-- the dict of an exception -/
 | xd (fs:List (Str×V))
 /-- a bound method,f of x -/
 | met (f x:Addr)
 /-- a range object lo,lo+1,.. below hi -/
 | rng (lo hi:Int)
 /-- a thing that is known to the object (the script; a dict while a loop walks it):read,never written while it is so -/
 | frz (o:Obj) (u:HO)
 /-- a code object's table -/
 | tbl (ps:Array Value)
 /-- any other thing,by what is true of its one object (a def of one's own:SetO a S n:=HO.ext fun h=> ..) -/
 | ext (φ:Heap→Prop)
abbrev Hp:=Addr→Option HO
def upd (H:Hp) (a:Addr) (o:HO):Hp:=fun b=> if b=a then some o else H b
theorem aF {H:Hp} {a:Addr} {o:HO}:upd H a o a=some o:=by unfold upd; rw [if_pos rfl]
theorem au {H:Hp} {a b:Addr} {o:HO} (h:b≠a):upd H a o b=H b:=by unfold upd; rw [if_neg h]
theorem ay {H:Hp} {a b:Addr} {o:HO} (h:H a=some o) (h':H b=none):a≠b:=by
 intro e; subst e; rw [h] at h'; cases h'
section
variable (P:Program) (w:World)
def ba (H:Hp) (h:Heap) (a:Addr):HO→Prop
 | .lst xs=> xs.length≤sizeLine∧∃ (its:List Value) (n:Nat),ak xs its∧h.get? a=some { cls:=.type "list",data:=.seq its.toArray n }
 | .tup xs=> xs.length≤sizeLine∧∃ its:List Value,ak xs its∧IsTup h a its.toArray
 | .dK kvs=> kvs.length≤sizeLine∧(a==sysModules)=false∧∃ vs,KV kvs vs∧h.DictOf (ff P w) a vs
 | .dT kvs=> kvs.length≤sizeLine∧(a==sysModules)=false∧∃ xs:List (List Key×Addr×Value),
   Paired (fun (p:List Key×V) (q:List Key×Addr×Value)=> p.1=q.1∧H q.2.1=some (.tup (p.1.map kV))∧av p.2 q.2.2) kvs xs∧
   ∃ o es ep,h.get? a=some o∧o.ExactDict∧o.data=.dict es ep∧es.toList=xs.map (entryOfKey (tupleKind (ff P w)))∧(xs.map (·.1)).Nodup
 | .set S n=> h.SetOf (intKind P w) a S n
 | .ins C dx fs=> H dx=some (.own a)∧fs.length≤1000∧dx≠a∧h.get? a=some (PySem.W.instObj C dx)∧
   ∃ mA,h.Ns1 dx mA∧(∀ f,jf (fs.lookup f) (mA f))∧PySem.Within mA (fs.map (·.1))
 | .own _=> ∃ o,h.get? a=some o
 | .xd fs=> ∃ mA,h.Ns1 a mA∧∀ f,jf (fs.lookup f) (mA f)
 | .rng lo hi=> ∃ t u v,h.get? a=some { cls:=.type "range",data:=.fields #[.int lo t,.int hi u,.int 1 v] }
 | .frz o u=> h.get? a=some o∧ba H h a u
 | .tbl ps=> h.get? a=some { cls:=.none,data:=.fields ps }
 | .met f x=> h.get? a=some (PySem.W.methodObj (.ref f) (.ref x))
 | .ext φ=> φ h∧(∃ o,h.get? a=some o)∧∀ h1 h2:Heap,φ h1→(∀ o,h1.get? a=some o→h2.get? a=some o)→φ h2
def HOk (H:Hp) (h:Heap):Prop:=∀ a o,H a=some o→ba P w H h a o
end
section
variable {P:Program} {w:World} {H H':Hp} {h h':Heap} {a:Addr} {o:HO}
theorem ba.lt (x:ba P w H h a o):a < h.objs.size:=by
 cases o with
 | lst xs=> obtain ⟨_,_,_,_,e⟩:=x; exact Heap.lt_size e
 | tup xs=> obtain ⟨_,_,_,p⟩:=x; exact p.lt
 | dK kvs=> obtain ⟨_,_,_,_,o,_,_,e,_⟩:=x; exact Heap.lt_size e
 | dT kvs=> obtain ⟨_,_,_,_,o,_,_,e,_⟩:=x; exact Heap.lt_size e
 | set S n=> obtain ⟨o,_,_,_,e,_⟩:=x; exact Heap.lt_size e
 | ins C dx fs=> obtain ⟨_,_,_,e,_⟩:=x; exact Heap.lt_size e
 | own y=> obtain ⟨_,e⟩:=x; exact Heap.lt_size e
 | xd fs=> obtain ⟨_,⟨_,_,_,e,_⟩,_⟩:=x; exact Heap.lt_size e
 | rng lo hi=> obtain ⟨_,_,_,e⟩:=x; exact Heap.lt_size e
 | frz ob u=> obtain ⟨e,_⟩:=x; exact Heap.lt_size e
 | tbl ps=> exact Heap.lt_size (show h.get? a=some _ from x)
 | met f y=> exact Heap.lt_size (show h.get? a=some _ from x)
 | ext φ=> obtain ⟨_,⟨_,e⟩,_⟩:=x; exact Heap.lt_size e
theorem Paired.mapP {α β:Type} {F G:α→β→Prop}:∀ {l₁:List α} {l₂:List β},Paired F l₁ l₂→(∀ a b,F a b→G a b)→Paired G l₁ l₂
 | _,_,.nil,_=> .nil
 | _,_,.cons r t,f=> .cons (f _ _ r) (Paired.mapP t f)
theorem ba.stay (x:ba P w H h a o) (k:∀ b u,(b=a∨H b=some (.own a))→h.get? b=some u→h'.get? b=some u)
  (ho:∀ b,H b=some (.own a)→H' b=some (.own a)) (ht:∀ b xs,H b=some (.tup xs)→H' b=some (.tup xs)):ba P w H' h' a o:=by
 induction o with
 | lst xs=> obtain ⟨z,its,n,r,e⟩:=x; exact ⟨z,its,n,r,k _ _ (.inl rfl) e⟩
 | tup xs=> obtain ⟨z,its,r,ob,e,c⟩:=x; exact ⟨z,its,r,ob,k _ _ (.inl rfl) e,c⟩
 | dK kvs=> obtain ⟨z,y,vs,r,ob,es,ep,e,c⟩:=x; exact ⟨z,y,vs,r,ob,es,ep,k _ _ (.inl rfl) e,c⟩
 | dT kvs=>
  obtain ⟨z,y,xs,r,ob,es,ep,e,c⟩:=x
  exact ⟨z,y,xs,Paired.mapP r fun p q z=> ⟨z.1,ht _ _ z.2.1,z.2.2⟩,ob,es,ep,k _ _ (.inl rfl) e,c⟩
 | set S n=> obtain ⟨ob,es,ep,t,e,c⟩:=x; exact ⟨ob,es,ep,t,k _ _ (.inl rfl) e,c⟩
 | ins C dx fs=>
  obtain ⟨d,z,ne,e,mA,⟨od,es,ep,e2,c⟩,r⟩:=x
  exact ⟨ho _ d,z,ne,k _ _ (.inl rfl) e,mA,⟨od,es,ep,k _ _ (.inr d) e2,c⟩,r⟩
 | own y=> obtain ⟨ob,e⟩:=x; exact ⟨ob,k _ _ (.inl rfl) e⟩
 | xd fs=> obtain ⟨mA,⟨od,es,ep,e,c⟩,r⟩:=x; exact ⟨mA,⟨od,es,ep,k _ _ (.inl rfl) e,c⟩,r⟩
 | rng lo hi=> obtain ⟨t,u,v,e⟩:=x; exact ⟨t,u,v,k _ _ (.inl rfl) e⟩
 | frz ob u ih=> obtain ⟨e,q⟩:=x; exact ⟨k _ _ (.inl rfl) e,ih q⟩
 | tbl ps=>
  have e:h.get? a=some { cls:=.none,data:=.fields ps }:=x
  show h'.get? a=some { cls:=.none,data:=.fields ps }
  exact k a _ (.inl rfl) e
 | met f y=>
  have e:h.get? a=some (PySem.W.methodObj (.ref f) (.ref y)):=x
  show h'.get? a=some (PySem.W.methodObj (.ref f) (.ref y))
  exact k a _ (.inl rfl) e
 | ext φ=> obtain ⟨p,⟨o,e⟩,st⟩:=x; exact ⟨st _ _ p fun o q=> k _ _ (.inl rfl) q,⟨o,k _ _ (.inl rfl) e⟩,st⟩
theorem HOk.lt (x:HOk P w H h) (e:H a=some o):a < h.objs.size:=(x a o e).lt
theorem HOk.fresh (x:HOk P w H h) (e:h.objs.size≤a):H a=none:=by
 cases q:H a with
 | none=> rfl
 | some u=> exact absurd (Nat.lt_of_lt_of_le (x.lt q) e) (Nat.lt_irrefl _)
theorem HOk.kept (x:HOk P w H h) (k:∀ b u,h.get? b=some u→h'.get? b=some u):HOk P w H h':=fun a o e=>
 (x a o e).stay (fun b u _ q=> k b u q) (fun _ q=> q) fun _ _ q=> q
theorem HOk.laid (x:HOk P w H h) (k:∀ b u,h.get? b=some u→h'.get? b=some u) (hp:h.objs.size≤a) (new:ba P w (upd H a o) h' a o):HOk P w (upd H a o) h':=fun b u e=> by
 have hn:=x.fresh hp
 by_cases hb:b=a
 ·subst hb; rw [aF] at e; cases e; exact new
 ·rw [au hb] at e
  exact (x b u e).stay (fun c v _ q=> k c v q) (fun c q=> by rw [au (ay q hn)]; exact q) fun c xs q=> by rw [au (ay q hn)]; exact q
end
def Rd (H:Hp) (a:Addr) (u:HO):Prop:=H a=some u∨∃ o,H a=some (.frz o u)
theorem Rd.ok {P:Program} {w:World} {H:Hp} {h:Heap} {a:Addr} {u:HO} (r:Rd H a u) (x:HOk P w H h):ba P w H h a u:=by
 rcases r with r | ⟨o,r⟩
 ·exact x a u r
 ·obtain ⟨_,q⟩:=x a _ r
  exact q
def Mut:Option HO→Prop
 | some (.lst _)=> True
 | some (.dK _)=> True
 | some (.dT _)=> True
 | some (.set _ _)=> True
 | some (.ins _ _ _)=> True
 | some (.ext _)=> True
 | _=> False
section
variable {P:Program} {w:World} {H:Hp} {h h':Heap} {x e:Addr} {o':HO}
theorem HOk.write (ok:HOk P w H h) (mu:Mut (H x)) (he:e=x∨H e=some (.own x)) (k:∀ b u,b≠e→h.get? b=some u→h'.get? b=some u) (heo:∃ u,h'.get? e=some u)
  (new:ba P w (upd H x o') h' x o'):HOk P w (upd H x o') h':=fun b u q=> by
 have nown:∀ c y,H c=some (.own y)→c≠x:=fun c y r z=> by subst z; rw [r] at mu; exact mu
 have ntup:∀ c xs,H c=some (.tup xs)→c≠x:=fun c xs r z=> by subst z; rw [r] at mu; exact mu
 by_cases hb:b=x
 ·subst hb; rw [aF] at q; cases q; exact new
 ·rw [au hb] at q
  by_cases hbe:b=e
  ·have q':H b=some (.own x):=by
    rcases he with z | z
    ·exact absurd (hbe.trans z) hb
    ·rw [hbe]; exact z
   rw [q] at q'; cases q'
   obtain ⟨v,hv⟩:=heo
   exact ⟨v,by rw [hbe]; exact hv⟩
  ·refine (ok b u q).stay (fun c v hc r=> k c v ?_ r) (fun c r=> by rw [au (nown c b r)]; exact r) fun c xs r=> by rw [au (ntup c xs r)]; exact r
   rcases hc with rfl | hc
   ·exact hbe
   ·rintro rfl
    rcases he with z | z
    ·exact nown c b hc z
    ·rw [hc] at z; cases z; exact hb rfl
end
structure Un (fs ex:List Addr) (H H':Hp) (h h':Heap):Prop where
 keep:∀ b o,h.get? b=some o→H b=none→b ∉ fs→b ∉ ex→h'.get? b=some o
 slot:∀ b o,h.get? b=some o→H b=none→b∈fs→b ∉ ex→∃ sl,h'.get? b=some { o with slots:=sl }
 free:∀ b o,h.get? b=some o→H b=none→b ∉ ex→H' b=none
 there:∀ b o,h.get? b=some o→b ∉ ex→∃ o',h'.get? b=some o'
 tups:∀ b xs,H b=some (.tup xs)→H' b=some (.tup xs)
 frzs:∀ b o u,H b=some (.frz o u)→H' b=some (.frz o u)
 tbls:∀ b ps,H b=some (.tbl ps)→∃ more,H' b=some (.tbl (ps++more))
section
variable {fs fs' ex ex':List Addr} {H H1 H2:Hp} {h h1 h2 h':Heap} {a x e:Addr} {o:HO}
theorem Un.any (u:Un fs ex H H1 h h1) {b:Addr} {ob:Obj} (q:h.get? b=some ob) (n:H b=none) (hx:b ∉ ex):∃ sl,h1.get? b=some { ob with slots:=sl }:=by
 by_cases hb:b∈fs
 ·exact u.slot b ob q n hb hx
 ·exact ⟨ob.slots,u.keep b ob q n hb hx⟩
theorem Un.kept (k:∀ b u,h.get? b=some u→h'.get? b=some u):Un fs ex H H h h':=
 ⟨fun b ob q _ _ _=> k b ob q,fun b ob q _ _ _=> ⟨ob.slots,k b ob q⟩,fun _ _ _ n _=> n,fun b ob q _=> ⟨ob,k b ob q⟩,fun _ _ q=> q,fun _ _ _ q=> q,fun _ ps q=> ⟨#[],by rw [q]; simp⟩⟩
theorem Un.refl:Un fs ex H H h h:=Un.kept fun _ _ q=> q
theorem Un.laid (k:∀ b u,h.get? b=some u→h'.get? b=some u) (hp:h.objs.size≤a) (hn:H a=none):Un fs ex H (upd H a o) h h' where
 keep:=fun b u q _ _ _=> k b u q
 slot:=fun b u q _ _ _=> ⟨u.slots,k b u q⟩
 free:=fun b u q n _=> by rw [au (Nat.ne_of_lt (Nat.lt_of_lt_of_le (Heap.lt_size q) hp))]; exact n
 there:=fun b u q _=> ⟨u,k b u q⟩
 tups:=fun b xs q=> by rw [au (ay q hn)]; exact q
 frzs:=fun b u xs q=> by rw [au (ay q hn)]; exact q
 tbls:=fun b ps q=> ⟨#[],by rw [au (ay q hn),q]; simp⟩
theorem Un.write (mu:Mut (H x)) (he:e=x∨H e=some (.own x)) (k:∀ b u,b≠e→h.get? b=some u→h'.get? b=some u) (heo:∃ u,h'.get? e=some u):Un fs ex H (upd H x o) h h':=by
 have hx:∀ b,H b=none→b≠x:=fun b n z=> by subst z; rw [n] at mu; exact mu
 have hb:∀ b,H b=none→b≠e:=fun b n z=> by
  subst z
  rcases he with r | r
  ·exact hx b n r
  ·rw [n] at r; cases r
 have hm:∀ b u,H b=some u→¬ Mut (some u)→b≠x:=fun b u q nm z=> by subst z; rw [q] at mu; exact nm mu
 refine ⟨fun b u q n _ _=> k b u (hb b n) q,fun b u q n _ _=> ⟨u.slots,k b u (hb b n) q⟩,fun b u q n _=> by rw [au (hx b n)]; exact n,fun b u q _=> ?_,
  fun b xs q=> by rw [au (hm b _ q fun z=> z)]; exact q,fun b u xs q=> by rw [au (hm b _ q fun z=> z)]; exact q,fun b ps q=> ⟨#[],by rw [au (hm b _ q fun z=> z),q]; simp⟩⟩
 by_cases hbe:b=e
 ·subst hbe; exact heo
 ·exact ⟨u,k b u hbe q⟩
end
def trk (h:Heap) (H:Hp):List Addr:=(List.range h.objs.size).filter fun a=> (H a).isSome
def dJ (h:Heap) (H:Hp):Heap:=PySem.W.hideAll h (trk h H)
theorem fO (h:Heap) (H:Hp):(dJ h H).objs.size=h.objs.size:=PySem.W.hideAll_size _ _
theorem gm {h:Heap} {H:Hp} {b:Addr} {o:Obj} (e:h.get? b=some o) (n:H b=none):(dJ h H).get? b=some o:=
 PySem.W.hideAll_get _ e fun hm=> by
  have q:(H b).isSome=true:=(List.mem_filter.mp hm).2
  rw [n] at q; simp at q
theorem hJ {h:Heap} {H:Hp} {b:Addr} {o:Obj} (e:(dJ h H).get? b=some o):h.get? b=some o∧H b=none:=by
 have e':h.get? b=some o:=PySem.W.of_hideAll (trk h H) e
 refine ⟨e',?_⟩
 cases q:H b with
 | none=> rfl
 | some x=>
  have hm:b∈trk h H:=List.mem_filter.mpr ⟨List.mem_range.mpr (Heap.lt_size e'),by simp [q]⟩
  have z:(dJ h H).get? b=none:=PySem.W.hideAll_none (trk h H) hm
  rw [z] at e; cases e
def ig (g h:Heap) (L:Addr):List (Addr×Obj):=(List.range h.objs.size).filterMap fun a=> if a=L∨(g.get? a).isSome=true then none else (h.get? a).map fun o=> (a,o)
def bK (g h:Heap) (L d:Addr):List (Addr×Obj):=(ig g h L).filter fun p=> decide (p.1≠d)
end L2
namespace L2
open PySem PySem.Spec PyProof.Rows
structure Mod (K:PySem.W.Frag) (mg:Str→Option Value) (base:Heap):Prop where
 kin:K.In base
 glob:base.Ns mainGlobals mg
 blt:∃ mb,base.Ns builtinsNs mb∧∀ x:Str,x≠"__name__"→mb x=bootBuiltins x
 nolimit:base.NoLimit
structure Cx where
 prog:Program
 w:World
 K:PySem.W.Frag
 mg:Str→Option Value
 base:Heap
 A:Around
 N:List Str
 s₀:Shared
 H₀:Hp
 env:Env
 outer:List Env
 stack:List Env
 ex:List Addr
 fn:Str→Bool
 calm:Bool
 pn:List (Addr×Obj)
 xe:Value→Shared→Prop
def frs (l:List Env):List Addr:=l.filterMap (·.frame)
abbrev Cx.fs (X:Cx):List Addr:=frs X.outer
def Vis (sc:Scope) (x:Str):Prop:=sc.names.lookup x=some .local∨sc.names.lookup x=some .cell∨sc.names.lookup x=some .free
def Loc (sc:Scope) (x:Str):Prop:=sc.names.lookup x=some .local∨sc.names.lookup x=some .cell
def kR (env:Env) (h:Heap) (m:Str→Option Value) (x:Str) (u:Value):Prop:=
 (env.kindOf x=some .local∧m x=some u)∨((env.kindOf x=some .cell∨env.kindOf x=some .free)∧∃ c,env.cells.lookup x=some c∧h.IsCell c (some u))
structure Cx.Ok (X:Cx):Prop where
 mod:Mod X.K X.mg X.base
 kind:X.env.scope.kind=.function
 glob:X.env.globals=mainGlobals
 blt:X.env.builtins=builtinsNs
 above:X.s₀.heap.objs.size≤X.env.locals
 inj:∀ x y c,X.env.cells.lookup x=some c→X.env.cells.lookup y=some c→x=y
 has:∀ x,(X.env.kindOf x=some .cell∨X.env.kindOf x=some .free)→∃ c,X.env.cells.lookup x=some c
 cab:∀ x c,X.fn x=true→X.env.cells.lookup x=some c→X.s₀.heap.objs.size≤c
 hd:X.calm=true→X.A.handled=none
 frames:X.A.frames=some X.stack
 stk:X.stack=X.outer∨(X.stack=X.env::X.outer∧X.env.frame=some X.env.locals)
 exf:∀ b∈X.ex,b≠X.env.locals∧∀ x c,X.env.cells.lookup x=some c→c≠b
 bs:∀ b o,X.base.get? b=some o→X.s₀.heap.get? b=some o∧X.H₀ b=none
 bsz:X.base.objs.size≤X.s₀.heap.objs.size
 noex:∀ b o,X.base.get? b=some o→b ∉ X.ex
 exfs:∀ b∈X.ex,b ∉ X.fs
 funs:X.s₀.heap.FunFrames X.base X.outer
 frf:∀ b∈X.fs,X.H₀ b=none
structure Inv (X:Cx) (pins:List (Addr×Obj)) (σ:List (Option V)) (H:Hp) (s:Shared):Prop where
 ok:X.Ok
 os:s.os=X.s₀.os
 bare:AllBare s.gens
 base:Un X.fs X.ex X.H₀ H X.s₀.heap s.heap
 loc:∃ m,s.heap.Ns X.env.locals m∧∀ (i:Nat) (x:Str) (v:V),X.N[i]?=some x→σ[i]?=some (some v)→Vis X.env.scope x→∃ u,av v u∧kR X.env s.heap m x u
 cell:∀ x c,X.env.cells.lookup x=some c→∃ v,s.heap.IsCell c v
 free:H X.env.locals=none
 freeC:∀ x c,X.env.cells.lookup x=some c→H c=none
 pin:∀ p∈X.pn++pins,s.heap.get? p.1=some p.2∧H p.1=none∧p.1≠X.env.locals∧p.1 ∉ X.fs∧∀ v,p.2.data≠.cell v
 hok:HOk X.prog X.w H s.heap
 len:σ.length=X.N.length
section
variable {X:Cx} {pins:List (Addr×Obj)} {σ:List (Option V)} {H H':Hp} {s:Shared} {h':Heap}
theorem Cx.Ok.nofr (ok:X.Ok) {b:Addr} {o:Obj} (e:X.base.get? b=some o):b ∉ X.fs:=fun hb=> by
 have:=(ok.funs.mem hb).1
 rw [e] at this; cases this
theorem Inv.bs (I:Inv X pins σ H s):∀ b o,X.base.get? b=some o→s.heap.get? b=some o∧H b=none:=fun b o e=>
 ⟨I.base.keep b o (I.ok.bs b o e).1 (I.ok.bs b o e).2 (I.ok.nofr e) (I.ok.noex b o e),I.base.free b o (I.ok.bs b o e).1 (I.ok.bs b o e).2 (I.ok.noex b o e)⟩
theorem Inv.bk (I:Inv X pins σ H s):∀ b o,X.base.get? b=some o→s.heap.get? b=some o:=fun b o e=> (I.bs b o e).1
theorem Inv.mod (I:Inv X pins σ H s):Mod X.K X.mg X.base:=I.ok.mod
theorem Inv.kIn (I:Inv X pins σ H s):X.K.In s.heap:=I.ok.mod.kin.keeps I.bk
theorem Inv.lt (I:Inv X pins σ H s):X.env.locals < s.heap.objs.size:=let ⟨_,hn,_⟩:=I.loc; hn.lt
theorem Inv.sz (I:Inv X pins σ H s):X.s₀.heap.objs.size≤s.heap.objs.size:=Nat.le_trans I.ok.above (Nat.le_of_lt I.lt)
theorem Inv.nofs (I:Inv X pins σ H s) {a:Addr} (h:s.heap.objs.size≤a):a ∉ X.fs:=fun hb=> by
 obtain ⟨_,o,ho,_⟩:=I.ok.funs.mem hb
 exact absurd (Nat.lt_of_lt_of_le (Heap.lt_size ho) (Nat.le_trans I.sz h)) (Nat.lt_irrefl _)
theorem Inv.cne (I:Inv X pins σ H s):∀ x c,X.env.cells.lookup x=some c→c≠X.env.locals:=fun x c e z=> by
 obtain ⟨v,o,ho,hd⟩:=I.cell x c e
 obtain ⟨m,⟨o',es,ep,ho',hd',_⟩,_⟩:=I.loc
 rw [z,ho'] at ho; cases ho; rw [hd'] at hd; cases hd
theorem Inv.funs (I:Inv X pins σ H s):s.heap.FunFrames X.base X.outer:=by
 have all:∀ (l:List Env),(∀ b∈frs l,b∈X.fs)→X.s₀.heap.FunFrames X.base l→s.heap.FunFrames X.base l:=by
  intro l
  induction l with
  | nil=> intro _ _; trivial
  | cons env r ih=>
   intro hs hl
   obtain ⟨hk,⟨L,o,hf,hn,ho,hd⟩,hr⟩:=hl
   have hL:L∈X.fs:=hs L (by unfold frs; rw [List.filterMap_cons,hf]; exact List.mem_cons_self)
   obtain ⟨sl,e⟩:=I.base.slot L o ho (I.ok.frf L hL) hL fun z=> I.ok.exfs L z hL
   exact ⟨hk,⟨L,_,hf,hn,e,hd⟩,ih (fun b hb=> hs b (by unfold frs; rw [List.filterMap_cons,hf]; exact List.mem_cons_of_mem _ hb)) hr⟩
 exact all X.outer (fun _ hb=> hb) I.ok.funs
theorem Inv.stack (I:Inv X pins σ H s):s.heap.FunFrames X.base X.stack:=by
 rcases I.ok.stk with e | ⟨e,hf⟩
 ·rw [e]; exact I.funs
 ·rw [e]
  obtain ⟨m,hn,_⟩:=I.loc
  refine .cons (by rw [I.ok.kind]; decide) hf hn ?_ I.funs
  exact Heap.get?_none_of_le (Nat.le_trans I.ok.bsz I.ok.above)
theorem Inv.stkSub (I:Inv X pins σ H s):∀ b∈frs X.stack,b∈X.env.locals::X.fs:=fun b hb=> by
 rcases I.ok.stk with e | ⟨e,hf⟩
 ·rw [e] at hb; exact List.mem_cons_of_mem _ hb
 ·rw [e] at hb
  unfold frs at hb
  rw [List.filterMap_cons,hf] at hb
  exact hb
theorem Inv.stkFree (I:Inv X pins σ H s):∀ b∈frs X.stack,H b=none:=fun b hb=> by
 rcases List.mem_cons.mp (I.stkSub b hb) with e | hb
 ·rw [e]; exact I.free
 ·obtain ⟨_,o,ho,_⟩:=I.ok.funs.mem hb
  exact I.base.free b o ho (I.ok.frf b hb) fun z=> I.ok.exfs b z hb
theorem Inv.step {g':Array GenState} {t':Nat} {d':Drawn} {ch:List Addr} (I:Inv X pins σ H s)
  (hch:∀ b∈ch,(b∈X.ex∨X.s₀.heap.objs.size≤b)∧b≠X.env.locals∧(∀ x c,X.env.cells.lookup x=some c→c≠b)∧∀ p∈X.pn++pins,p.1≠b)
  (keep:∀ b o,b≠X.env.locals→b ∉ X.fs→b ∉ ch→s.heap.get? b=some o→H b=none→h'.get? b=some o)
  (slot:∀ b o,b≠X.env.locals→b∈X.fs→b ∉ ch→s.heap.get? b=some o→H b=none→∃ sl,h'.get? b=some { o with slots:=sl }) (free:∀ b o,b ∉ ch→s.heap.get? b=some o→H b=none→H' b=none)
  (there:∀ b o,b ∉ ch→s.heap.get? b=some o→∃ o',h'.get? b=some o')
  (tups:∀ b xs,H b=some (.tup xs)→H' b=some (.tup xs)) (frzs:∀ b o u,H b=some (.frz o u)→H' b=some (.frz o u)) (tbls:∀ b ps,H b=some (.tbl ps)→∃ more,H' b=some (.tbl (ps++more)))
  (ns:∀ m,s.heap.Ns X.env.locals m→h'.Ns X.env.locals m) (hok:HOk X.prog X.w H' h') (hg:AllBare g'):
  Inv X pins σ H' { s with heap:=h',gens:=g',drawn:=d',toks:=t' }:=by
 have neL:∀ b o,X.s₀.heap.get? b=some o→b≠X.env.locals:=fun b o e=> Nat.ne_of_lt (Nat.lt_of_lt_of_le (Heap.lt_size e) I.ok.above)
 have neC:∀ b o,X.s₀.heap.get? b=some o→b ∉ X.ex→b ∉ ch:=fun b o e hx hb=> by
  rcases (hch b hb).1 with z | z
  ·exact hx z
  ·exact absurd (Nat.lt_of_lt_of_le (Heap.lt_size e) z) (Nat.lt_irrefl _)
 have cellK:∀ x c,X.env.cells.lookup x=some c→∀ v,s.heap.IsCell c v→h'.IsCell c v:=fun x c e v ⟨o,ho,hd⟩=> by
  have nch:c ∉ ch:=fun z=> (hch c z).2.2.1 x c e rfl
  by_cases hc:c∈X.fs
  ·obtain ⟨sl,q⟩:=slot c o (I.cne x c e) hc nch ho (I.freeC x c e)
   exact ⟨_,q,hd⟩
  ·exact ⟨o,keep c o (I.cne x c e) hc nch ho (I.freeC x c e),hd⟩
 refine ⟨I.ok,I.os,hg,⟨fun b o e n hb hx=> ?_,fun b o e n hb hx=> ?_,fun b o e n hx=> ?_,fun b o e hx=> ?_,fun b xs e=> tups b xs (I.base.tups b xs e),fun b o xs e=> frzs b o xs (I.base.frzs b o xs e),fun b ps e=> ?_⟩,?_,fun x c e=> ?_,?_,fun x c e=> ?_,fun p hp=> ?_,hok,I.len⟩
 ·exact keep b o (neL b o e) hb (neC b o e hx) (I.base.keep b o e n hb hx) (I.base.free b o e n hx)
 ·obtain ⟨sl,e1⟩:=I.base.slot b o e n hb hx
  obtain ⟨sl',e2⟩:=slot b _ (neL b o e) hb (neC b o e hx) e1 (I.base.free b o e n hx)
  exact ⟨sl',e2⟩
 ·obtain ⟨o',e1⟩:=I.base.there b o e hx
  exact free b o' (neC b o e hx) e1 (I.base.free b o e n hx)
 ·obtain ⟨o',e1⟩:=I.base.there b o e hx
  exact there b o' (neC b o e hx) e1
 ·obtain ⟨m1,e1⟩:=I.base.tbls b ps e
  obtain ⟨m2,e2⟩:=tbls b _ e1
  exact ⟨m1++m2,by rw [e2,Array.append_assoc]⟩
 ·obtain ⟨m,hn,hl⟩:=I.loc
  refine ⟨m,ns m hn,fun i x v e1 e2 e3=> ?_⟩
  obtain ⟨u,r,l⟩:=hl i x v e1 e2 e3
  refine ⟨u,r,?_⟩
  rcases l with l | ⟨k,c,e,z⟩
  ·exact .inl l
  ·exact .inr ⟨k,c,e,cellK x c e _ z⟩
 ·obtain ⟨v,z⟩:=I.cell x c e
  exact ⟨v,cellK x c e v z⟩
 ·obtain ⟨m,⟨o,_,_,ho,_⟩,_⟩:=I.loc
  exact free _ o (fun z=> (hch _ z).2.1 rfl) ho I.free
 ·obtain ⟨v,o,ho,hd⟩:=I.cell x c e
  exact free c o (fun z=> (hch c z).2.2.1 x c e rfl) ho (I.freeC x c e)
 ·obtain ⟨e,n,ne,nf,d⟩:=I.pin p hp
  have nch:p.1 ∉ ch:=fun z=> (hch p.1 z).2.2.2 p hp rfl
  exact ⟨keep p.1 p.2 ne nf nch e n,free p.1 p.2 nch e n,ne,nf,d⟩
theorem Inv.un {t':Nat} (I:Inv X pins σ H s) (u:Un X.fs [] H H' s.heap h') (hok:HOk X.prog X.w H' h'):Inv X pins σ H' { s with heap:=h',toks:=t' }:=by
 obtain ⟨m,⟨o,es,ep,ho,r⟩,_⟩:=id I.loc
 obtain ⟨sl,hL⟩:=u.any ho I.free (by simp)
 exact I.step (g':=s.gens) (d':=s.drawn) (ch:=[]) (fun _ z=> nomatch z) (fun b o _ hb _ e n=> u.keep b o e n hb (by simp)) (fun b o _ hb _ e n=> u.slot b o e n hb (by simp)) (fun b o _ e n=> u.free b o e n (by simp)) (fun b o _ e=> u.there b o e (by simp)) u.tups u.frzs u.tbls (fun m' hm=> by
  obtain ⟨o',es',ep',ho',r'⟩:=hm
  rw [ho] at ho'; cases ho'
  exact ⟨_,es',ep',hL,r'⟩) hok I.bare
theorem Inv.call {g':Array GenState} {t':Nat} {d':Drawn} {ch:List Addr} (I:Inv X pins σ H s) (u:Un (frs X.stack) ch H H' s.heap h') (hok:HOk X.prog X.w H' h') (hg:AllBare g')
  (hch:∀ b∈ch,(b∈X.ex∨X.s₀.heap.objs.size≤b)∧b≠X.env.locals∧(∀ x c,X.env.cells.lookup x=some c→c≠b)∧∀ p∈X.pn++pins,p.1≠b):
  Inv X pins σ H' { s with heap:=h',gens:=g',drawn:=d',toks:=t' }:=by
 obtain ⟨m,⟨o,es,ep,ho,r⟩,_⟩:=id I.loc
 obtain ⟨sl,hL⟩:=u.any ho I.free fun z=> (hch _ z).2.1 rfl
 exact I.step (ch:=ch) hch (fun b o hL hb hc e n=> u.keep b o e n (fun z=> (List.mem_cons.mp (I.stkSub b z)).elim hL hb) hc) (fun b o _ _ hc e n=> u.any e n hc) (fun b o hc e n=> u.free b o e n hc) (fun b o hc e=> u.there b o e hc) u.tups u.frzs u.tbls (fun m' hm=> by
  obtain ⟨o',es',ep',ho',r'⟩:=hm
  rw [ho] at ho'; cases ho'
  exact ⟨_,es',ep',hL,r'⟩) hok hg
theorem Inv.turned {t':Nat} {it:Addr} (I:Inv X pins σ H s) (k:∀ b o,b≠it→s.heap.get? b=some o→h'.get? b=some o) (hn:H it=none) (hL:it≠X.env.locals)
  (h1:it∈X.ex∨X.s₀.heap.objs.size≤it) (h2:∀ x c,X.env.cells.lookup x=some c→c≠it) (h3:∀ p∈X.pn++pins,p.1≠it):Inv X pins σ H { s with heap:=h',toks:=t' }:=by
 have nit:∀ b u,H b=some u→b≠it:=fun b u e z=> by rw [z,hn] at e; cases e
 refine I.step (g':=s.gens) (d':=s.drawn) (ch:=[it]) (fun b hb=> ?_) (fun b o _ _ hc e _=> k b o (fun z=> hc (by simp [z])) e) (fun b o _ _ hc e _=> ⟨o.slots,k b o (fun z=> hc (by simp [z])) e⟩) (fun _ _ _ _ n=> n)
  (fun b o hc e=> ⟨o,k b o (fun z=> hc (by simp [z])) e⟩) (fun _ _ e=> e) (fun _ _ _ e=> e) (fun b ps e=> ⟨#[],by rw [e]; simp⟩) (fun m hm=> ?_) (fun b u e=> ?_) I.bare
 ·have e:b=it:=by simpa using hb
  subst e
  exact ⟨h1,hL,h2,h3⟩
 ·obtain ⟨o,es,ep,ho,r⟩:=hm
  exact ⟨o,es,ep,k _ o (Ne.symm hL) ho,r⟩
 ·refine (I.hok b u e).stay (fun c v hc q=> k c v ?_ q) (fun _ q=> q) fun _ _ q=> q
  rcases hc with z | z
  ·rw [z]; exact nit b u e
  ·exact nit c _ z
theorem Inv.tok (I:Inv X pins σ H s) (t:Nat):Inv X pins σ H { s with toks:=t }:=I.un (h':=s.heap) (t':=t) Un.refl I.hok
theorem Inv.kept {t':Nat} (I:Inv X pins σ H s) (k:∀ b u,s.heap.get? b=some u→h'.get? b=some u):Inv X pins σ H { s with heap:=h',toks:=t' }:=I.un (Un.kept k) (I.hok.kept k)
theorem Inv.laid {a:Addr} {o:HO} {t':Nat} (I:Inv X pins σ H s) (k:∀ b u,s.heap.get? b=some u→h'.get? b=some u) (hp:s.heap.objs.size≤a) (new:ba X.prog X.w (upd H a o) h' a o):
  Inv X pins σ (upd H a o) { s with heap:=h',toks:=t' }:=I.un (Un.laid k hp (I.hok.fresh hp)) (I.hok.laid k hp new)
theorem Inv.write {x e:Addr} {o:HO} {t':Nat} (I:Inv X pins σ H s) (mu:Mut (H x)) (he:e=x∨H e=some (.own x)) (k:∀ b u,b≠e→s.heap.get? b=some u→h'.get? b=some u) (heo:∃ u,h'.get? e=some u)
  (new:ba X.prog X.w (upd H x o) h' x o):Inv X pins σ (upd H x o) { s with heap:=h',toks:=t' }:=I.un (Un.write mu he k heo) (I.hok.write mu he k heo new)
theorem Inv.weak {σ':List (Option V)} (I:Inv X pins σ H s) (hl:σ'.length=σ.length) (w:∀ (i:Nat) v,σ'[i]?=some (some v)→σ[i]?=some (some v)):Inv X pins σ' H s:=
 ⟨I.ok,I.os,I.bare,I.base,let ⟨m,hn,hl'⟩:=I.loc; ⟨m,hn,fun i x v e1 e2 e3=> hl' i x v e1 (w i v e2) e3⟩,I.cell,I.free,I.freeC,I.pin,I.hok,hl.trans I.len⟩
theorem Inv.pins_of {pins':List (Addr×Obj)} (I:Inv X pins σ H s) (h:∀ p∈pins',s.heap.get? p.1=some p.2∧H p.1=none∧p.1≠X.env.locals∧p.1 ∉ X.fs∧∀ v,p.2.data≠.cell v):Inv X pins' σ H s:=
 ⟨I.ok,I.os,I.bare,I.base,I.loc,I.cell,I.free,I.freeC,fun p hp=> (List.mem_append.mp hp).elim (fun z=> I.pin p (List.mem_append_left _ z)) (h p),I.hok,I.len⟩
theorem cS {N:List Str} (hN:N.Nodup) {i j:Nat} {x:Str} (a:N[i]?=some x) (b:N[j]?=some x):i=j:=by
 obtain ⟨h1,e1⟩:=List.getElem?_eq_some_iff.mp a
 obtain ⟨h2,e2⟩:=List.getElem?_eq_some_iff.mp b
 exact (List.getElem_inj hN).mp (e1.trans e2.symm)
theorem dC {M:Model} {A:Around} {E:Value→Shared→Prop} {i:Nat} {x:Str} {v:V} {u:Value} {Q:Unit→Shared→Prop} (I:Inv X pins σ H s) (hN:X.N.Nodup) (hi:X.N[i]?=some x) (hx:Loc X.env.scope x) (r:av v u)
  (h:∀ s',Inv X pins (σ.set i (some v)) H s'→(∃ a,Heap.SameBut a s.heap s'.heap∧(a=X.env.locals∨X.env.cells.lookup x=some a))→Q () s') (hf:X.fn x=true∨X.env.scope.names.lookup x=some .local:=by first | exact .inl rfl | exact .inr rfl | assumption):wpAny M A (storeName X.env x u) Q E s:=by
 obtain ⟨m,hn,hl⟩:=id I.loc
 have hcls:(X.env.scope.kind==.class || (X.env.scope.kind==.module && X.env.locals !=X.env.globals))=false:=by rw [I.ok.kind]; rfl
 have hiσ:i < σ.length:=by rw [I.len]; exact (List.getElem?_eq_some_iff.mp hi).1
 have cne:=I.cne
 have tracked:∀ {a:Addr} {h':Heap},(∃ o,s.heap.get? a=some o∧H a=none)→Heap.SameBut a s.heap h'→HOk X.prog X.w H h':=fun {a h'} ha hs b ob e=> by
  obtain ⟨_,_,hfree⟩:=ha
  refine (I.hok b ob e).stay (fun c w' hc q=> (hs.2 c ?_).trans q) (fun _ q=> q) fun _ _ q=> q
  rintro rfl
  rcases hc with rfl | hc
  ·rw [hfree] at e; cases e
  ·rw [hfree] at hc; cases hc
 rcases hx with hk | hk
 ·refine wpAny_storeName_local hk hn (fun h' hn' hs=> ?_) hcls
  obtain ⟨oL,_,_,hoL,_⟩:=id hn
  refine h _ ⟨I.ok,I.os,I.bare,⟨fun b o e n hb hx=> ?_,fun b o e n hb hx=> ?_,I.base.free,fun b o e hx=> ?_,I.base.tups,I.base.frzs,I.base.tbls⟩,⟨_,hn',fun j y v' e1 e2 e3=> ?_⟩,fun y c e=> ?_,I.free,I.freeC,fun p hp=> ?_,tracked ⟨oL,hoL,I.free⟩ hs,by simpa using I.len⟩ ⟨_,hs,.inl rfl⟩
  ·exact (hs.2 b (Nat.ne_of_lt (Nat.lt_of_lt_of_le (Heap.lt_size e) I.ok.above))).trans (I.base.keep b o e n hb hx)
  ·obtain ⟨sl,e1⟩:=I.base.slot b o e n hb hx
   exact ⟨sl,(hs.2 b (Nat.ne_of_lt (Nat.lt_of_lt_of_le (Heap.lt_size e) I.ok.above))).trans e1⟩
  ·obtain ⟨o',e1⟩:=I.base.there b o e hx
   exact ⟨o',(hs.2 b (Nat.ne_of_lt (Nat.lt_of_lt_of_le (Heap.lt_size e) I.ok.above))).trans e1⟩
  ·by_cases hj:j=i
   ·subst hj
    rw [hi] at e1; cases e1
    rw [List.getElem?_set_self hiσ] at e2
    cases e2
    exact ⟨u,r,.inl ⟨hk,by simp⟩⟩
   ·rw [List.getElem?_set_ne (Ne.symm hj)] at e2
    obtain ⟨u',r',q⟩:=hl j y v' e1 e2 e3
    refine ⟨u',r',?_⟩
    rcases q with ⟨k,e⟩ | ⟨k,c,e,z⟩
    ·refine .inl ⟨k,?_⟩
     have:y≠x:=fun e=> hj (cS hN e1 (e ▸ hi))
     simp [this,e]
    ·exact .inr ⟨k,c,e,z.sameBut hs (cne y c e)⟩
  ·obtain ⟨w',z⟩:=I.cell y c e
   exact ⟨w',z.sameBut hs (cne y c e)⟩
  ·obtain ⟨e,n,ne,nf,d⟩:=I.pin p hp
   exact ⟨(hs.2 p.1 ne).trans e,n,ne,nf,d⟩
 ·have hfn:X.fn x=true:=by
   rcases hf with z | z
   ·exact z
   ·rw [z] at hk; cases hk
  obtain ⟨c,hc⟩:=I.ok.has x (.inl hk)
  obtain ⟨w',z⟩:=I.cell x c hc
  refine wpAny_storeName_cell I.ok.kind hk hc z (fun h' hc' hs=> ?_)
  obtain ⟨oc,hoc,hocd⟩:=id z
  refine h { s with heap:=h' } ⟨I.ok,I.os,I.bare,⟨fun b o e n hb hx=> ?_,fun b o e n hb hx=> ?_,I.base.free,fun b o e hx=> ?_,I.base.tups,I.base.frzs,I.base.tbls⟩,⟨m,hn.sameBut hs (Ne.symm (cne x c hc)),fun j y v' e1 e2 e3=> ?_⟩,fun y c' e=> ?_,I.free,I.freeC,fun p hp=> ?_,tracked ⟨oc,hoc,I.freeC x c hc⟩ hs,by simpa using I.len⟩ ⟨c,hs,.inr hc⟩
  ·exact (hs.2 b (Nat.ne_of_lt (Nat.lt_of_lt_of_le (Heap.lt_size e) (I.ok.cab x c hfn hc)))).trans (I.base.keep b o e n hb hx)
  ·obtain ⟨sl,e1⟩:=I.base.slot b o e n hb hx
   exact ⟨sl,(hs.2 b (Nat.ne_of_lt (Nat.lt_of_lt_of_le (Heap.lt_size e) (I.ok.cab x c hfn hc)))).trans e1⟩
  ·obtain ⟨o',e1⟩:=I.base.there b o e hx
   exact ⟨o',(hs.2 b (Nat.ne_of_lt (Nat.lt_of_lt_of_le (Heap.lt_size e) (I.ok.cab x c hfn hc)))).trans e1⟩
  ·by_cases hj:j=i
   ·subst hj
    rw [hi] at e1; cases e1
    rw [List.getElem?_set_self hiσ] at e2
    cases e2
    exact ⟨u,r,.inr ⟨.inl hk,c,hc,hc'⟩⟩
   ·rw [List.getElem?_set_ne (Ne.symm hj)] at e2
    obtain ⟨u',r',q⟩:=hl j y v' e1 e2 e3
    refine ⟨u',r',?_⟩
    rcases q with q | ⟨k,c',e,z'⟩
    ·exact .inl q
    ·refine .inr ⟨k,c',e,z'.sameBut hs ?_⟩
     rintro rfl
     exact hj (cS hN e1 (I.ok.inj _ _ _ e hc ▸ hi))
  ·by_cases hcc:c'=c
   ·subst hcc; exact ⟨_,hc'⟩
   ·obtain ⟨w2,z2⟩:=I.cell y c' e
    exact ⟨w2,z2.sameBut hs hcc⟩
  ·obtain ⟨e,n,ne,nf,d⟩:=I.pin p hp
   refine ⟨(hs.2 p.1 ?_).trans e,n,ne,nf,d⟩
   intro q
   rw [q,hoc] at e
   have q':oc=p.2:=Option.some.inj e
   exact d w' (by rw [← q']; exact hocd)
theorem eL {M:Model} {A:Around} {E:Value→Shared→Prop} {i:Nat} {x:Str} {v:V} {u:Value} {Q:Unit→Shared→Prop} (I:Inv X pins σ H s) (hN:X.N.Nodup) (hi:X.N[i]?=some x) (hx:Loc X.env.scope x) (r:av v u)
  (h:∀ s',Inv X pins (σ.set i (some v)) H s'→Q () s') (hf:X.fn x=true∨X.env.scope.names.lookup x=some .local:=by first | exact .inl rfl | exact .inr rfl | assumption):wpAny M A (storeName X.env x u) Q E s:=
 dC I hN hi hx r (fun s' I' _=> h s' I') hf
theorem Inv.call' {s':Shared} {ch:List Addr} (I:Inv X pins σ H s) (ho:s'.os=s.os) (u:Un (frs X.stack) ch H H' s.heap s'.heap) (hok:HOk X.prog X.w H' s'.heap) (hg:AllBare s'.gens)
  (hch:∀ b∈ch,(b∈X.ex∨X.s₀.heap.objs.size≤b)∧b≠X.env.locals∧(∀ x c,X.env.cells.lookup x=some c→c≠b)∧∀ p∈X.pn++pins,p.1≠b):Inv X pins σ H' s':=by
 obtain ⟨h',g',d',t',o'⟩:=s'
 have e:o'=s.os:=ho
 subst e
 exact I.call (g':=g') (t':=t') (d':=d') u hok hg hch
end
abbrev XK:=Value→Option Addr→Hp→Prop
abbrev St:=List (Option V)
abbrev VK:=V→Hp→Prop
abbrev TE:=St→Hp→VK→Prop
abbrev TT:=St→Hp→(Bool→Hp→Prop)→Prop
abbrev TA:=St→Hp→(List V→Hp→Prop)→Prop
structure cN where
 nx:St→Hp→Prop
 rt:VK
 bk:St→Hp→Prop:=fun _ _=> False
 ct:St→Hp→Prop:=fun _ _=> False
abbrev TS:=cN→St→Hp→Prop
def EP (X:Cx) (pins:List (Addr×Obj)) (σ:St) (Q:VK) (u:Value) (s':Shared):Prop:=∃ v H',Inv X pins σ H' s'∧av v u∧Q v H'
def TP (X:Cx) (pins:List (Addr×Obj)) (σ:St) (Q:Bool→Hp→Prop) (b:Bool) (s':Shared):Prop:=∃ H',Inv X pins σ H' s'∧Q b H'
def AP (X:Cx) (pins:List (Addr×Obj)) (σ:St) (Q:List V→Hp→Prop) (us:List Value) (s':Shared):Prop:=∃ vs H',Inv X pins σ H' s'∧ak vs us∧Q vs H'
def SP (X:Cx) (pins:List (Addr×Obj)) (D:cN) (f:Flow) (s':Shared):Prop:=
 match f with
 | .next=> ∃ σ' H',Inv X pins σ' H' s'∧D.nx σ' H'
 | .brk=> ∃ σ' H',Inv X pins σ' H' s'∧D.bk σ' H'
 | .cont=> ∃ σ' H',Inv X pins σ' H' s'∧D.ct σ' H'
 | .ret u=> ∃ v σ' H',Inv X pins σ' H' s'∧av v u∧D.rt v H'
def PE (X:Cx) (e:Expr) (t:TE):Prop:=
 ∀ (pins:List (Addr×Obj)) (s:Shared) (σ:St) (H:Hp) (Q:VK),Inv X pins σ H s→t σ H Q→wpAny (model X.prog X.w) X.A (eval e X.env) (EP X pins σ Q) X.xe s
def PT (X:Cx) (e:Expr) (t:TT):Prop:=
 ∀ (pins:List (Addr×Obj)) (s:Shared) (σ:St) (H:Hp) (Q:Bool→Hp→Prop),Inv X pins σ H s→t σ H Q→wpAny (model X.prog X.w) X.A (isTrue e X.env (eval e X.env)) (TP X pins σ Q) X.xe s
def PW (X:Cx) (e:Expr) (t:TT):Prop:=
 ∀ (whole:Sem Value) (pins:List (Addr×Obj)) (s:Shared) (σ:St) (H:Hp) (Q:Bool→Hp→Prop),Inv X pins σ H s→t σ H Q→wpAny (model X.prog X.w) X.A (isTrue e X.env whole) (TP X pins σ Q) X.xe s
theorem PW.pt {X:Cx} {e:Expr} {t:TT} (h:PW X e t):PT X e t:=h _
def PA (X:Cx) (es:List Expr) (t:TA):Prop:=
 ∀ (pos:Pos) (pins:List (Addr×Obj)) (s:Shared) (σ:St) (H:Hp) (Q:List V→Hp→Prop),Inv X pins σ H s→t σ H Q→wpAny (model X.prog X.w) X.A (spliced (backTo pos (starEach es X.env))) (AP X pins σ Q) X.xe s
def PS (X:Cx) (st:Stmt) (t:TS):Prop:=
 ∀ (pins:List (Addr×Obj)) (s:Shared) (σ:St) (H:Hp) (D:cN),Inv X pins σ H s→t D σ H→wpAny (model X.prog X.w) X.A (exec st X.env) (SP X pins D) X.xe s
def PSs (X:Cx) (st:List Stmt) (t:TS):Prop:=
 ∀ (pins:List (Addr×Obj)) (s:Shared) (σ:St) (H:Hp) (D:cN),Inv X pins σ H s→t D σ H→wpAny (model X.prog X.w) X.A (execs st X.env) (SP X pins D) X.xe s
theorem thn {α:Type} {t:Sem α} {Q Q':α→Shared→Prop} {M:Model} {A:Around} {E:Value→Shared→Prop} {s:Shared} (h:wpAny M A t Q E s) (hQ:∀ a s,Q a s→Q' a s):wpAny M A t Q' E s:=wpAny_mono h hQ fun _ _ x=> x
end L2
namespace L2
open PySem PySem.Spec PyProof.Rows
section
variable {X:Cx}
def la (i:Nat):TE:=fun σ H Q=> ∃ v,σ[i]?=some (some v)∧Q v H
def tC (v:V):TE:=fun _ H Q=> Q v H
theorem cf {i:Nat} {x:Str} {pos:Pos} (hN:X.N[i]?=some x) (hv:Vis X.env.scope x) (hd:(x==("__debug__":Str))=false:=by decide) (hcd:(x==("__classdict__":Str))=false:=by decide):PE X (.Name x pos) (la i):=by
 intro pins s σ H Q I h
 obtain ⟨v,e,h⟩:=h
 obtain ⟨m,hn,hl⟩:=I.loc
 obtain ⟨u,r,l⟩:=hl i x v hN e hv
 have fin:EP X pins σ Q u s:=⟨v,H,I,r,h⟩
 rcases l with ⟨hk,hm⟩ | ⟨hk,c,hc,hcell⟩
 ·exact wpAny_Name (wpAny_loadName_local I.ok.kind hk hn hm fin) hd
 ·rcases hk with hk | hk
  ·exact wpAny_Name (wpAny_loadName_cell I.ok.kind hk hc hcell fin) hd
  ·exact wpAny_Name (wpAny_loadName_free I.ok.kind hk hc hcell fin hcd) hd
theorem jM {i j pos}:PE X (.Constant (.int i) j pos) (tC (.int i)):=fun _ _ _ H _ I h=> wpAny_Constant_int ⟨.int i,H,I.tok _,⟨_,rfl⟩,h⟩
theorem jP {b j pos}:PE X (.Constant (.bool b) j pos) (tC (.bl b)):=fun _ _ _ H _ I h=> Constant_bool ⟨.bl b,H,I,rfl,h⟩
theorem jI {x j pos}:PE X (.Constant (.str x) j pos) (tC (.str x)):=fun _ _ _ H _ I h=> Calls.Constant_str ⟨.str x,H,I.tok _,⟨_,rfl⟩,h⟩
def Gl (X:Cx) (x:Str):Prop:=X.env.kindOf x=some .globalImplicit
theorem ck {E:Value→Shared→Prop} {pins:List (Addr×Obj)} {s:Shared} {σ:St} {H:Hp} {x:Str} {u:Value} {pos:Pos} {Q:Value→Shared→Prop} (I:Inv X pins σ H s) (hg:Gl X x) (hm:X.mg x=some u) (h:Q u s)
  (hd:(x==("__debug__":Str))=false:=by decide):wpAny (model X.prog X.w) X.A (eval (.Name x pos) X.env) Q E s:=
 Calls.Name_function_global I.ok.kind hg (Calls.loadGlobal_global (by rw [I.ok.glob]; exact I.mod.glob.keeps I.bk) hm h) hd
theorem c_ {E:Value→Shared→Prop} {pins:List (Addr×Obj)} {s:Shared} {σ:St} {H:Hp} {x:Str} {u:Value} {pos:Pos} {Q:Value→Shared→Prop} (I:Inv X pins σ H s) (hg:Gl X x) (hm:X.mg x=none) (hv:bootBuiltins x=some u) (h:Q u s)
  (hn:x≠"__name__":=by decide) (hd:(x==("__debug__":Str))=false:=by decide):wpAny (model X.prog X.w) X.A (eval (.Name x pos) X.env) Q E s:=by
 obtain ⟨mb,h1,h2⟩:=I.mod.blt
 exact Calls.Name_function_global I.ok.kind hg (Calls.loadGlobal_builtin (by rw [I.ok.glob]; exact I.mod.glob.keeps I.bk) hm (by rw [I.ok.blt]; exact h1.keeps I.bk) ((h2 x hn).trans hv) h) hd
theorem ft {x:Str} {v:V} {u:Value} {pos:Pos} (hg:Gl X x) (hm:X.mg x=some u) (r:av v u) (hd:(x==("__debug__":Str))=false:=by decide):PE X (.Name x pos) (tC v):=
 fun _ _ _ H _ I h=> ck I hg hm ⟨v,H,I,r,h⟩ hd
theorem im {x:Str} {v:V} {u:Value} {pos:Pos} (hg:Gl X x) (hm:X.mg x=none) (hv:bootBuiltins x=some u) (r:av v u) (hn:x≠"__name__":=by decide) (hd:(x==("__debug__":Str))=false:=by decide):PE X (.Name x pos) (tC v):=
 fun _ _ _ H _ I h=> c_ I hg hm hv ⟨v,H,I,r,h⟩ hn hd
variable {a b:Expr} {ta tb:TE} {pos:Pos}
def tB (t:TE):TT:=fun σ H Q=> t σ H fun x H1=> ∃ c,x=.bl c∧Q c H1
theorem jy {e:Expr} {t:TE} (h:PE X e t) (he:∀ whole,isTrue e X.env whole=(do let v ← whole; standAt e.pos; holding [v] (truthy v)):=by intro _; rfl):PT X e (tB t):=by
 intro pins s σ H Q I hw
 refine isTrue_plain (thn (h pins s σ H _ I hw) fun v s1 ⟨x,H1,I1,r1,q1⟩=> ?_) (he _)
 obtain ⟨d,rfl,q⟩:=q1
 cases r1
 exact wpAny_truthy_bool ⟨H1,I1,q⟩
variable {tA tB':TT} {bK:List Expr}
def tOr (t u:TT):TT:=fun σ H Q=> t σ H fun c H1=> if c=true then Q true H1 else u σ H1 Q
def lg (t:TT):TT:=fun σ H Q=> t σ H fun c H1=> Q (!c) H1
theorem jh (ha:PT X a tA):PW X (.BoolOp .Or [a] pos) tA:=by
 intro wh pins s σ H Q I h
 refine isTrue_or (thn (ha pins s σ H Q I h) fun c s1 e=> ?_)
 cases c with
 | false=> exact isTrue_or_nil e
 | true=> exact e
theorem iW (ha:PT X a tA) (hb:PW X (.BoolOp .Or (b::bK) pos) tB'):PW X (.BoolOp .Or (a::b::bK) pos) (tOr tA tB'):=by
 intro wh pins s σ H Q I h
 refine isTrue_or (thn (ha pins s σ H _ I h) fun c s1 ⟨H1,I1,q1⟩=> ?_)
 cases c with
 | true=> exact ⟨H1,I1,q1⟩
 | false=> exact hb wh pins s1 σ H1 Q I1 q1
theorem jF (ha:PT X a tA):PT X (.UnaryOp .Not a pos) (lg tA):=by
 intro pins s σ H Q I h
 exact isTrue_not (ha pins s σ H (fun c H1=> Q (!c) H1) I h)
def kc (ta tb:TE):TE:=fun σ H Q=> ta σ H fun x H1=> ∃ c,x=.bl c∧if c=true then tb σ H1 Q else Q (.bl false) H1
def lc (ta tb:TE):TE:=fun σ H Q=> ta σ H fun x H1=> ∃ c,x=.bl c∧if c=true then Q (.bl true) H1 else tb σ H1 Q
def kF (ta:TE):TE:=fun σ H Q=> ta σ H fun x H1=> ∃ c,x=.bl c∧Q (.bl (!c)) H1
theorem i8 {op} {t:TE} (h:PE X a t):PE X (.BoolOp op [a] pos) t:=fun pins s σ H Q I hw=> BoolOp_one (h pins s σ H Q I hw)
theorem gu (ha:PE X a ta) (hb:PE X (.BoolOp .And (b::bK) pos) tb):PE X (.BoolOp .And (a::b::bK) pos) (kc ta tb):=by
 intro pins s σ H Q I h
 refine BoolOp_and (thn (ha pins s σ H _ I h) fun v s1 ⟨x,H1,I1,r1,q1⟩=> ?_)
 obtain ⟨c,rfl,q1⟩:=q1
 cases r1
 refine wpAny_truthy_bool ?_
 cases c with
 | true=> exact hb pins s1 σ H1 Q I1 q1
 | false=> exact ⟨.bl false,H1,I1,rfl,q1⟩
theorem iX (ha:PE X a ta) (hb:PE X (.BoolOp .Or (b::bK) pos) tb):PE X (.BoolOp .Or (a::b::bK) pos) (lc ta tb):=by
 intro pins s σ H Q I h
 refine BoolOp_or (thn (ha pins s σ H _ I h) fun v s1 ⟨x,H1,I1,r1,q1⟩=> ?_)
 obtain ⟨c,rfl,q1⟩:=q1
 cases r1
 refine wpAny_truthy_bool ?_
 cases c with
 | false=> exact hb pins s1 σ H1 Q I1 q1
 | true=> exact ⟨.bl true,H1,I1,rfl,q1⟩
theorem jC (ha:PE X a ta):PE X (.UnaryOp .Not a pos) (kF ta):=by
 intro pins s σ H Q I h
 refine UnaryOp_ (thn (ha pins s σ H _ I h) fun v s1 ⟨x,H1,I1,r1,q1⟩=> ?_)
 obtain ⟨c,rfl,q1⟩:=q1
 cases r1
 exact not_of (wpAny_truthy_bool ⟨.bl (!c),H1,I1,rfl,q1⟩)
end
end L2
namespace L2
open PySem PySem.Spec PyProof.Rows
def SqL (K:PySem.W.Frag) (H:Hp) (a:Addr) (xs:List V):Prop:=
 Rd H a (.lst xs)∨
  ∃ (o:Obj) (its:Array Value) (n:Nat),K.lookup a=some o∧o.cls=.type "list"∧o.dict=none∧o.data=.seq its n∧its.size≤sizeLine∧ak xs its.toList
def SqT (K:PySem.W.Frag) (H:Hp) (a:Addr) (xs:List V):Prop:=
 Rd H a (.tup xs)∨
  ∃ (o:Obj) (its:Array Value) (n:Nat),K.lookup a=some o∧o.cls=.type "tuple"∧o.data=.seq its n∧its.size≤sizeLine∧ak xs its.toList
def kH:Value→Option V
 | .none=> some .non
 | .bool b=> some (.bl b)
 | .int i _=> some (.int i)
 | .str x _=> some (.str x)
 | .bytes b _=> some (.byt b)
 | .float b _=> some (.flt b)
 | .ref a=> some (.ref a)
 | .type n=> some (.ty n)
 | _=> none
theorem av.abs {x:V} {u:Value} (r:av x u):kH u=some x:=by
 cases x with
 | non=> cases r; rfl
 | bl _=> cases r; rfl
 | int _=> obtain ⟨t,rfl⟩:=r; rfl
 | str _=> obtain ⟨t,rfl⟩:=r; rfl
 | byt _=> obtain ⟨t,rfl⟩:=r; rfl
 | flt _=> obtain ⟨t,rfl⟩:=r; rfl
 | ref _=> cases r; rfl
 | ty _=> cases r; rfl
theorem av.inj {x y:V} {u:Value} (r:av x u) (q:av y u):x=y:=Option.some.inj (r.abs.symm.trans q.abs)
theorem ak.inj:∀ {xs ys:List V} {us:List Value},ak xs us→ak ys us→xs=ys
 | _,_,_,.nil,.nil=> rfl
 | _,_,_,.cons r t,.cons r' t'=> by rw [r.inj r',ak.inj t t']
section
variable {X:Cx} {pins:List (Addr×Obj)} {σ:St} {H:Hp} {s:Shared} {a:Addr} {xs ys:List V}
theorem SqL.of {K:PySem.W.Frag} (h:H a=some (.lst xs)):SqL K H a xs:=.inl (.inl h)
theorem SqT.of {K:PySem.W.Frag} (h:H a=some (.tup xs)):SqT K H a xs:=.inl (.inl h)
theorem Inv.list (I:Inv X pins σ H s) (h:SqL X.K H a xs):∃ its:List Value,ak xs its∧PlainL s.heap a its.toArray∧xs.length≤sizeLine:=by
 rcases h with h | ⟨o,its,n,hk,hc,hd,hs,hz,r⟩
 ·obtain ⟨z,its,n,r,e⟩:=h.ok I.hok
  exact ⟨its,r,⟨_,n,e,rfl,rfl,rfl⟩,z⟩
 ·refine ⟨its.toList,r,⟨o,n,I.kIn a o hk,hc,hd,by simpa using hs⟩,?_⟩
  have e:=r.length
  simp only [Array.length_toList] at e
  omega
theorem Inv.tuple (I:Inv X pins σ H s) (h:SqT X.K H a xs):∃ its:List Value,ak xs its∧IsTup s.heap a its.toArray∧xs.length≤sizeLine:=by
 rcases h with h | ⟨o,its,n,hk,hc,hs,hz,r⟩
 ·obtain ⟨z,its,r,p⟩:=h.ok I.hok
  exact ⟨its,r,p,z⟩
 ·refine ⟨its.toList,r,⟨o,I.kIn a o hk,hc,n,by simpa using hs⟩,?_⟩
  have e:=r.length
  simp only [Array.length_toList] at e
  omega
theorem Inv.list_inj (I:Inv X pins σ H s) (h:SqL X.K H a xs) (h':SqL X.K H a ys):xs=ys:=by
 obtain ⟨its,r,⟨o,n,e,_,_,d⟩,_⟩:=I.list h
 obtain ⟨its',r',⟨o',n',e',_,_,d'⟩,_⟩:=I.list h'
 rw [e] at e'; cases e'
 rw [d] at d'
 injection d' with d1 _
 have:its=its':=by simpa using congrArg Array.toList d1
 subst this
 exact r.inj r'
theorem Inv.tuple_inj (I:Inv X pins σ H s) (h:SqT X.K H a xs) (h':SqT X.K H a ys):xs=ys:=by
 obtain ⟨its,r,⟨o,e,_,n,d⟩,_⟩:=I.tuple h
 obtain ⟨its',r',⟨o',e',_,n',d'⟩,_⟩:=I.tuple h'
 rw [e] at e'; cases e'
 rw [d] at d'
 injection d' with d1 _
 have:its=its':=by simpa using congrArg Array.toList d1
 subst this
 exact r.inj r'
end
abbrev Cx.wish (X:Cx) (E:Value→Shared→Prop):Cx:={ X with xe:=E }
abbrev Cx.nox (X:Cx):Cx:=X.wish fun _ _=> False
theorem Cx.Ok.wish {X:Cx} (ok:X.Ok) (E:Value→Shared→Prop):(X.wish E).Ok:=
 ⟨ok.mod,ok.kind,ok.glob,ok.blt,ok.above,ok.inj,ok.has,ok.cab,ok.hd,ok.frames,ok.stk,ok.exf,ok.bs,ok.bsz,ok.noex,ok.exfs,ok.funs,ok.frf⟩
theorem Cx.Ok.unwish {X:Cx} {E:Value→Shared→Prop} (ok:(X.wish E).Ok):X.Ok:=
 ⟨ok.mod,ok.kind,ok.glob,ok.blt,ok.above,ok.inj,ok.has,ok.cab,ok.hd,ok.frames,ok.stk,ok.exf,ok.bs,ok.bsz,ok.noex,ok.exfs,ok.funs,ok.frf⟩
section
variable {X:Cx} {pins:List (Addr×Obj)} {σ:St} {H:Hp} {s:Shared} {E:Value→Shared→Prop}
theorem Inv.wish (I:Inv X pins σ H s) (E:Value→Shared→Prop):Inv (X.wish E) pins σ H s:=⟨I.ok.wish E,I.os,I.bare,I.base,I.loc,I.cell,I.free,I.freeC,I.pin,I.hok,I.len⟩
theorem Inv.unwish (I:Inv (X.wish E) pins σ H s):Inv X pins σ H s:=⟨I.ok.unwish,I.os,I.bare,I.base,I.loc,I.cell,I.free,I.freeC,I.pin,I.hok,I.len⟩
theorem SP.unwish {D:cN} {f:Flow} {s':Shared} (h:SP (X.wish E) pins D f s'):SP X pins D f s':=by
 cases f with
 | next=> obtain ⟨σ',H',I,q⟩:=h; exact ⟨σ',H',I.unwish,q⟩
 | brk=> obtain ⟨σ',H',I,q⟩:=h; exact ⟨σ',H',I.unwish,q⟩
 | cont=> obtain ⟨σ',H',I,q⟩:=h; exact ⟨σ',H',I.unwish,q⟩
 | ret u=> obtain ⟨v,σ',H',I,r,q⟩:=h; exact ⟨v,σ',H',I.unwish,r,q⟩
theorem PSs.nox {st:List Stmt} {t:TS} (h:PSs X.nox st t):PSs X st t:=fun pins s σ H D I hw=>
 wpAny_mono (h pins s σ H D (I.wish _) hw) (fun _ _ q=> q.unwish) fun _ _ z=> False.elim z
end
section
variable {X:Cx} {st:Stmt} {bK:List Stmt} {t u:TS} {e:Expr} {te:TE} {pos:Pos}
def gP:TS:=fun D σ H=> D.nx σ H
def ku (t u:TS):TS:=fun D σ H=> t { D with nx:=u D } σ H
theorem d3:PSs X [] gP:=fun _ _ σ H _ I h=> wpAny_execs_nil ⟨σ,H,I,h⟩
theorem eG (h1:PS X st t) (h2:PSs X bK u):PSs X (st::bK) (ku t u):=by
 intro pins s σ H D I h
 refine wpAny_execs_cons (thn (h1 pins s σ H { D with nx:=u D } I h) fun f s1 q=> ?_)
 cases f with
 | next=>
  obtain ⟨σ',H',I',q⟩:=q
  exact h2 pins s1 σ' H' D I' q
 | ret v=> exact q
 | brk=> exact q
 | cont=> exact q
theorem Inv.quiet {pins:List (Addr×Obj)} {σ:St} {H:Hp} {s:Shared} (I:Inv X pins σ H s):interactive X.env=false:=by simp [interactive,I.ok.kind]
def jX (te:TE):TS:=fun D σ H=> te σ H fun _ H1=> D.nx σ H1
theorem ix (he:PE X e te) (hs:swapsWith e none pos.line X.env=pure false:=by rfl):PS X (.Expr e pos) (jX te):=by
 intro pins s σ H D I h
 exact wpAny_Expr_any (thn (he pins s σ H _ I h) fun v s1 ⟨x,H1,I1,r1,q1⟩=> ⟨σ,H1,I1,q1⟩) I.quiet hs
def kY (te:TE):TS:=fun D σ H=> te σ H D.rt
theorem dI (he:PE X e te):PS X (.Return (some e) pos) (kY te):=by
 intro pins s σ H D I h
 exact wpAny_Return_some (thn (he pins s σ H _ I h) fun v s1 ⟨x,H1,I1,r1,q1⟩=> ⟨x,σ,H1,I1,r1,q1⟩)
def jU (c:TT) (t u:TS):TS:=fun D σ H=> c σ H fun b H1=> if b=true then t D σ H1 else u D σ H1
theorem gJ {c:Expr} {a b:List Stmt} {tc:TT} (hc:PT X c tc) (ha:PSs X a t) (hb:PSs X b u):PS X (.If c a b pos) (jU tc t u):=by
 intro pins s σ H D I h
 refine wpAny_If (thn (hc pins s σ H _ I h) fun d s1 ⟨H1,I1,q1⟩=> ?_)
 cases d with
 | true=> exact ha pins s1 σ H1 D I1 q1
 | false=> exact hb pins s1 σ H1 D I1 q1
end
abbrev TG:=V→St→Hp→(St→Hp→Prop)→Prop
abbrev TGs:=List V→St→Hp→(St→Hp→Prop)→Prop
def PG (X:Cx) (target:Expr) (t:TG):Prop:=
 ∀ (pins:List (Addr×Obj)) (s:Shared) (σ:St) (H:Hp) (v:V) (u:Value) (Q:St→Hp→Prop),Inv X pins σ H s→av v u→t v σ H Q→
  wpAny (model X.prog X.w) X.A (assign target X.env u) (fun _ s'=> ∃ σ' H',Inv X pins σ' H' s'∧Q σ' H') X.xe s
def PGs (X:Cx) (ts:List Expr) (t:TGs):Prop:=
 ∀ (pins:List (Addr×Obj)) (s:Shared) (σ:St) (H:Hp) (vs:List V) (us:List Value) (Q:St→Hp→Prop),Inv X pins σ H s→ak vs us→t vs σ H Q→
  wpAny (model X.prog X.w) X.A (assignInOrder ((assignEach ts X.env).map (·.2)) us) (fun _ s'=> ∃ σ' H',Inv X pins σ' H' s'∧Q σ' H') X.xe s
abbrev jl:=V→V→V→Hp→(Hp→Prop)→Prop
def jO (X:Cx) (t:jl):Prop:=
 ∀ (pins:List (Addr×Obj)) (s:Shared) (σ:St) (H:Hp) (o i v:V) (ov iv u:Value) (Q:Hp→Prop),Inv X pins σ H s→av o ov→av i iv→av v u→t o i v H Q→
  wpAny (model X.prog X.w) X.A (setItem ov iv u) (fun _ s'=> ∃ H',Inv X pins σ H' s'∧Q H') X.xe s
section
variable {X:Cx} {pos:Pos}
def fm (i:Nat):TG:=fun v σ H Q=> Q (σ.set i (some v)) H
theorem bp {i:Nat} {x:Str} (hN:X.N.Nodup) (hi:X.N[i]?=some x) (hx:Loc X.env.scope x) (hf:X.fn x=true∨X.env.scope.names.lookup x=some .local:=by first | exact .inl rfl | exact .inr rfl | assumption):PG X (.Name x pos) (fm i):=by
 intro pins s σ H v u Q I r h
 exact wpAny_assign_Name (eL I hN hi hx r (fun s' I'=> ⟨_,H,I',h⟩) hf)
def kv:TGs:=fun vs σ H Q=> vs=[]∧Q σ H
def iR (t:TG) (u:TGs):TGs:=fun vs σ H Q=> ∃ v r,vs=v::r∧t v σ H fun σ' H'=> u r σ' H' Q
theorem iz:PGs X [] kv:=by
 intro pins s σ H vs us Q I r h
 obtain ⟨e,h⟩:=h
 subst e
 cases r
 exact assignInOrder_nil ⟨σ,H,I,h⟩
theorem eo {e:Expr} {es:List Expr} {t:TG} {u:TGs} (h1:PG X e t) (h2:PGs X es u)
  (hs:(assignEach (e::es) X.env).map (·.2)=assign e X.env::(assignEach es X.env).map (·.2):=by rfl):PGs X (e::es) (iR t u):=by
 intro pins s σ H vs us Q I r h
 obtain ⟨v,vr,e1,h⟩:=h
 subst e1
 cases r with
 | cons r rr=>
  rw [hs]
  refine assignInOrder_cons (thn (h1 pins s σ H _ _ _ I r h) fun _ s1 ⟨σ1,H1,I1,q1⟩=> ?_)
  exact h2 pins s1 σ1 H1 _ _ Q I1 rr q1
def li (K:PySem.W.Frag) (n:Nat) (t:TGs):TG:=fun v σ H Q=> ∃ a xs,v=.ref a∧SqT K H a xs∧xs.length=n∧t xs σ H Q
theorem jJ {es:List Expr} {k:Nat} {t:TGs} {n:Nat} (hc:X.calm=true) (h:PGs X es t)
  (hn:(assignEach es X.env).length=n:=by rfl) (hst:(assignEach es X.env).findIdx? (·.1)=none:=by rfl):PG X (.Tuple es k pos) (li X.K n t):=by
 intro pins s σ H v u Q I r hw
 obtain ⟨a,xs,e1,hq,hl,hw⟩:=hw
 subst e1
 cases r
 obtain ⟨its,rv,ht,hz⟩:=I.tuple hq
 refine assign_Tuple_tuple (I.ok.hd hc) ht (by simp [hn,← hl,rv.length]) hst fun h' hx=> ?_
 have I1:Inv X pins σ H { s with heap:=h' }:=I.kept (t':=s.toks) fun b o e=> hx b o (Nat.ne_of_lt (Heap.lt_size e)) e
 exact h pins _ σ H xs _ Q I1 (by simpa using rv) hw
def kU (to ti:TE) (t:jl):TG:=fun v σ H Q=> to σ H fun o H1=> ti σ H1 fun i H2=> t o i v H2 fun H3=> Q σ H3
theorem jn {o i:Expr} {to ti:TE} {t:jl} (ho:PE X o to) (hi:PE X i ti) (hs:jO X t)
  (ha:∀ v,assign (.Subscript o i pos) X.env v=(do
   let ov ← holding [v] (eval o X.env)
   let iv ← holding [v,ov] (eval i X.env)
   standAt pos
   holding [v,ov,iv] (setItem ov iv v)
   release [v,ov,iv] []):=by intro _; rfl):PG X (.Subscript o i pos) (kU to ti t):=by
 intro pins s σ H v u Q I r h
 rw [ha]
 refine wpAny_bind (wpAny_holding (thn (ho pins s σ H _ I h) fun ov s1 ⟨x,H1,I1,r1,q1⟩=> ?_))
 refine wpAny_bind (wpAny_holding (thn (hi pins s1 σ H1 _ I1 q1) fun iv s2 ⟨y,H2,I2,r2,q2⟩=> ?_))
 refine wpAny_bind (wpAny_standAt (wpAny_bind (wpAny_holding (thn (hs pins s2 σ H2 x y v ov iv u _ I2 r1 r2 r q2) fun _ s3 ⟨H3,I3,q3⟩=> ?_))))
 exact wpAny_release ⟨σ,H3,I3,q3⟩
def ki (te:TE) (g:TG):TS:=fun D σ H=> te σ H fun x H1=> g x σ H1 D.nx
theorem gs {tg e:Expr} {te:TE} {g:TG} (he:PE X e te) (hg:PG X tg g) (hs:swapsWithSole [tg] e pos.line X.env=pure false:=by rfl) (hw:swappedStores [tg] e X.env=pure none:=by rfl)
  (h1:(assignEach [tg] X.env).map (·.2)=[assign tg X.env]:=by rfl):PS X (.Assign [tg] e pos) (ki te g):=by
 intro pins s σ H D I h
 refine wpAny_Assign_stores (thn (he pins s σ H _ I h) fun v s1 ⟨x,H1,I1,r1,q1⟩=> ?_) hs hw
 rw [h1]
 exact thn (hg pins s1 σ H1 x v _ I1 r1 q1) fun _ s2 q=> q
theorem gy {i:Nat} {x:Str} {e:Expr} {te:TE} {pos':Pos} (hN:X.N.Nodup) (hi:X.N[i]?=some x) (hx:Loc X.env.scope x) (he:PE X e te) (hs:swapsWith e (some (.Name x pos')) pos.line X.env=pure false:=by rfl) (hf:X.fn x=true∨X.env.scope.names.lookup x=some .local:=by first | exact .inl rfl | exact .inr rfl | assumption):
  PS X (.Assign [.Name x pos'] e pos) (ki te (fm i)):=by
 intro pins s σ H D I h
 refine wpAny_Assign_Name (thn (he pins s σ H _ I h) fun v s1 ⟨y,H1,I1,r1,q1⟩=> ?_) hs
 exact eL I1 hN hi hx r1 (fun s2 I2=> ⟨_,H1,I2,q1⟩) hf
end
section
variable {X:Cx} {pos:Pos}
def jj (c:TT) (tb:TS):TS:=fun D σ H=> ∃ W:Nat→St→Hp→Prop,(∃ m,W m σ H)∧∀ m σ H,W m σ H→
 c σ H fun b H1=> if b=true then ∃ N:St→Hp→Prop,(∀ σ' H',N σ' H'→∃ m',m' < m∧W m' σ' H')∧tb { D with nx:=N,ct:=N,bk:=D.nx } σ H1 else D.nx σ H1
theorem g5 {c:Expr} {body:List Stmt} {tc:TT} {tb:TS} (hp:PassesOwn (model X.prog X.w) X.A X.env X.xe) (hc:PT X c tc) (hb:PSs X body tb):PS X (.While c body [] pos) (jj tc tb):=by
 intro pins s σ H D I h
 obtain ⟨W,⟨m0,w0⟩,turn⟩:=h
 refine wpAny_While (codeAny_whileLoop (fun n s'=> ∃ σ' H',Inv X pins σ' H' s'∧W n σ' H') ?_ m0 ⟨σ,H,I,w0⟩)
 rintro n s1 ⟨σ1,H1,I1,w1⟩
 refine wpAny_passesOwn hp (thn (hc pins s1 σ1 H1 _ I1 (turn n σ1 H1 w1)) fun b s2 ⟨H2,I2,q2⟩=> ?_)
 cases b with
 | true=>
  obtain ⟨N,hN,q2⟩:=q2
  rw [if_pos rfl]
  refine wpAny_passesOwn hp (thn (hb pins s2 σ1 H2 _ I2 q2) fun f s3 q3=> ?_)
  cases f with
  | next=>
   obtain ⟨σ3,H3,I3,n3⟩:=q3
   obtain ⟨m',hm,w3⟩:=hN σ3 H3 n3
   exact ⟨m',hm,σ3,H3,I3,w3⟩
  | cont=>
   obtain ⟨σ3,H3,I3,n3⟩:=q3
   obtain ⟨m',hm,w3⟩:=hN σ3 H3 n3
   exact ⟨m',hm,σ3,H3,I3,w3⟩
  | brk=> exact q3
  | ret v=> exact q3
 | false=>
  rw [if_neg Bool.false_ne_true]
  exact wpAny_execs_nil ⟨σ1,H2,I2,q2⟩
end
structure It where
 go:Nat→Hp→Prop
 yld:Nat→Hp→V→Hp→Prop
 stop:Nat→Hp→Prop
def dO (X:Cx) (pins:List (Addr×Obj)) (H:Hp) (b:Addr):Prop:=
 H b=none∧b≠X.env.locals∧b ∉ X.fs∧(b∈X.ex∨X.s₀.heap.objs.size≤b)∧(∀ x c,X.env.cells.lookup x=some c→c≠b)∧∀ p∈X.pn++pins,p.1≠b
theorem Inv.fpOk {X:Cx} {pins:List (Addr×Obj)} {σ:St} {H H':Hp} {s:Shared} {b:Addr} (I:Inv X pins σ H s) (hb:s.heap.objs.size≤b) (hn:H' b=none):dO X pins H' b:=by
 refine ⟨hn,Nat.ne_of_gt (Nat.lt_of_lt_of_le I.lt hb),I.nofs hb,.inr (Nat.le_trans I.sz hb),fun x c e z=> ?_,fun p hp z=> ?_⟩
 ·obtain ⟨v,q⟩:=I.cell x c e
  exact absurd (Nat.lt_of_lt_of_le q.lt (by rw [z]; exact hb)) (Nat.lt_irrefl _)
 ·exact absurd (Nat.lt_of_lt_of_le (Heap.lt_size (I.pin p hp).1) (by rw [z]; exact hb)) (Nat.lt_irrefl _)
structure iC (P:Program) (w:World) (K:PySem.W.Frag) (tg:Expr) (J:It) (fp:List Addr) (it:Addr) (tn:Nat→Heap→Prop):Prop where
 mem:it∈fp
 obj:∀ i h,tn i h→∀ b∈fp,∃ o,h.get? b=some o∧∀ v,o.data≠.cell v
 keep:∀ i h h',tn i h→(∀ b∈fp,∀ o,h.get? b=some o→h'.get? b=some o)→tn i h'
 item:∀ (X:Cx),X.prog=P→X.w=w→X.K=K→X.calm=true→∀ (i:Nat) (pins:List (Addr×Obj)) (s:Shared) (σ:St) (H:Hp) (E:Value→Shared→Prop),Inv X pins σ H s→(∀ b∈fp,dO X pins H b)→tn i s.heap→J.go i H→
  wpAny (model P w) X.A (pyNext (.ref it)) (fun r s1=> ∃ u,r=some u∧
   wpAny (model P w) X.A (letOwnedTupleGo tg (.ref it) u) (fun _ s2=> ∃ x H',Inv X pins σ H' s2∧av x u∧J.yld i H x H'∧tn (i+1) s2.heap∧∀ b∈fp,H' b=none) E s1) E s
 done:∀ (X:Cx),X.prog=P→X.w=w→X.K=K→X.calm=true→∀ (i:Nat) (pins:List (Addr×Obj)) (s:Shared) (σ:St) (H:Hp) (E:Value→Shared→Prop),Inv X pins σ H s→(∀ b∈fp,dO X pins H b)→tn i s.heap→J.stop i H→
  wpAny (model P w) X.A (pyNext (.ref it)) (fun r s1=> r=none∧Inv X pins σ H s1) E s
 self:∀ (A:Around) (i:Nat) (s:Shared) (Q:Value→Shared→Prop) (E:Value→Shared→Prop),tn i s.heap→Q (.ref it) s→wpAny (model P w) A (pyIter (.ref it)) Q E s
abbrev TI:=St→Hp→(It→Hp→Prop)→Prop
def PIE (X:Cx) (pins:List (Addr×Obj)) (σ:St) (tg:Expr) (R:It→Hp→Prop) (itv:Value) (s2:Shared):Prop:=
 ∃ (it:Addr) (fp:List Addr) (tn:Nat→Heap→Prop) (J:It) (H':Hp),itv=.ref it∧Inv X pins σ H' s2∧iC X.prog X.w X.K tg J fp it tn∧tn 0 s2.heap∧(∀ b∈fp,dO X pins H' b)∧R J H'
def PI (X:Cx) (tg iter:Expr) (wi:TI):Prop:=
 ∀ (pins:List (Addr×Obj)) (s:Shared) (σ:St) (H:Hp) (R:It→Hp→Prop),Inv X pins σ H s→wi σ H R→
  wpAny (model X.prog X.w) X.A (eval iter X.env) (fun v s1=> wpAny (model X.prog X.w) X.A (pyIter v) (PIE X pins σ tg R) X.xe s1) X.xe s
theorem gi {M:Model} {A:Around} {E:Value→Shared→Prop} {s:Shared} {tg:Expr} {it:Addr} {u:Value} {o:Obj} {n:String} {vs:Array Value} {Q:Unit→Shared→Prop} (ho:s.heap.get? it=some o) (hc:o.cls=.type n) (hd:o.data=.fields vs)
  (hn:["enumerate","zip","dict_itemiterator","dict_reverseitemiterator","odict_iterator","itertools.zip_longest","itertools.pairwise"].contains n=false) (hQ:Q () s):wpAny M A (letOwnedTupleGo tg (.ref it) u) Q E s:=by
 unfold letOwnedTupleGo
 cases tg <;> first
  | exact wpAny_pure hQ
  | (cases u <;> first
    | exact wpAny_pure hQ
    | (refine wpAny_bind (wpAny_load ho ?_)
       rw [hc,hd]
       show wpAny M A (if (["enumerate","zip","dict_itemiterator","dict_reverseitemiterator","odict_iterator","itertools.zip_longest","itertools.pairwise"].contains n && vs[0]?==some (rawInt _))=true then _ else _) Q E s
       rw [if_neg (by intro h; rw [hn,Bool.false_and] at h; cases h)]
       exact wpAny_pure hQ))
def Itl (K:PySem.W.Frag) (a:Addr):It:=
 ⟨fun i H=> ∃ xs x,SqL K H a xs∧xs[i]?=some x,fun i H x H'=> H'=H∧∀ xs,SqL K H a xs→xs[i]?=some x,fun i H=> ∃ xs,SqL K H a xs∧xs.length≤i⟩
def Itr (lo:Int) (n:Nat):It:=⟨fun i _=> i < n,fun i H x H'=> H'=H∧x=.int (lo+i),fun i _=> n≤i⟩
theorem fL {P:Program} {w:World} {K:PySem.W.Frag} {tg:Expr} (a it:Addr):iC P w K tg (Itl K a) [it] it (fun i h=> h.IsListIter it a i) where
 mem:=by simp
 obj:=fun i h st b hb=> by
  have e:b=it:=by simpa using hb
  subst e
  obtain ⟨o,e,c,d⟩:=st
  exact ⟨o,e,fun v z=> by rw [d] at z; cases z⟩
 keep:=fun i h h' st k=> st.at fun o e=> k it (by simp) o e
 item:=by
  intro X hP hw hK hc i pins s σ H E I hf st hg
  subst hP hw hK
  obtain ⟨xs,x,hq,hx⟩:=hg
  obtain ⟨its,rv,p,hz⟩:=I.list hq
  obtain ⟨u,hu,ru⟩:=rv.get hx
  obtain ⟨f0,f1,f2,f3,f4,f5⟩:=hf it (by simp)
  refine wpAny_pyNext_list_item st p.isList (x:=u) (by simpa using hu) fun h' st' sb=> ?_
  have I1:Inv X pins σ H { s with heap:=h' }:=I.turned (t':=s.toks) (fun b o hb e=> (sb.2 b hb).trans e) f0 f1 f3 f4 f5
  obtain ⟨o,e,c,d⟩:=id st'
  exact ⟨u,rfl,gi (s:={ s with heap:=h' }) e c d (by decide) ⟨x,H,I1,ru,⟨rfl,fun ys hy=> by rw [I.list_inj hy hq]; exact hx⟩,st',fun b hb=> (hf b hb).1⟩⟩
 done:=by
  intro X hP hw hK hc i pins s σ H E I hf st hg
  subst hP hw hK
  obtain ⟨xs,hq,hx⟩:=hg
  obtain ⟨its,rv,p,hz⟩:=I.list hq
  obtain ⟨f0,f1,f2,f3,f4,f5⟩:=hf it (by simp)
  have hl:=rv.length
  exact wpAny_pyNext_list_end (I.ok.hd hc) st p.isList (by simp; omega) fun h' eb=> ⟨rfl,I.turned (t':=s.toks) (fun b o hb e=> eb b o hb e) f0 f1 f3 f4 f5⟩
 self:=fun _ _ _ _ _ st h=> wpAny_pyIter_listiter st h
theorem eW {P:Program} {w:World} {K:PySem.W.Frag} {tg:Expr} (it:Addr) (lo:Int) (n:Nat):iC P w K tg (Itr lo n) [it] it (fun i h=> IsRangeIter h it (lo+(i:Nat) * 1) ((n:Int) - (i:Nat)) 1) where
 mem:=by simp
 obj:=fun i h st b hb=> by
  have e:b=it:=by simpa using hb
  subst e
  exact ⟨_,st,fun v z=> by
   have z':Data.fields _=Data.cell v:=z
   cases z'⟩
 keep:=fun i h h' st k=> k it (by simp) _ st
 item:=by
  intro X hP hw hK hc i pins s σ H E I hf st hg
  subst hP hw hK
  obtain ⟨f0,f1,f2,f3,f4,f5⟩:=hf it (by simp)
  have W:=Walks.range (prog:=X.prog) (w:=X.w) (I.ok.hd hc) it lo 1 n
  refine W.item i s _ _ hg st fun v h' tk hv st' kk=> ?_
  obtain ⟨t,rfl⟩:=hv
  have I1:Inv X pins σ H { s with heap:=h',toks:=tk }:=I.turned (fun b o hb e=> kk b o (by simpa using hb) e) f0 f1 f3 f4 f5
  refine ⟨_,rfl,gi (s:={ s with heap:=h',toks:=tk }) (n:="range_iterator") st' rfl rfl (by decide) ⟨.int (lo+i),H,I1,⟨t,?_⟩,⟨rfl,rfl⟩,st',fun b hb=> (hf b hb).1⟩⟩
  rw [Int.mul_one]
 done:=by
  intro X hP hw hK hc i pins s σ H E I hf st hg
  subst hP hw hK
  obtain ⟨f0,f1,f2,f3,f4,f5⟩:=hf it (by simp)
  exact wpAny_pyNext_range_end (I.ok.hd hc) st (by have:n≤i:=hg; omega) fun h' eb=> ⟨rfl,I.turned (t':=s.toks) (fun b o hb e=> eb b o hb e) f0 f1 f3 f4 f5⟩
 self:=fun _ _ _ _ _ st h=> wpAny_pyIter_rangeiter st h
end L2
namespace L2
open PySem PySem.Spec PyProof.Rows
section
variable {X:Cx} {tg:Expr}
def jT (K:PySem.W.Frag) (tl:TE):TI:=fun σ H R=> tl σ H fun x H1=> ∃ a,x=.ref a∧(∃ xs,SqL K H1 a xs)∧R (Itl K a) H1
theorem fo {l:Expr} {tl:TE} (hl:PE X l tl):PI X tg l (jT X.K tl):=by
 intro pins s σ H R I h
 refine thn (hl pins s σ H _ I h) fun v s1 ⟨x,H1,I1,r1,q1⟩=> ?_
 obtain ⟨a,e,⟨xs,hq⟩,q⟩:=q1
 subst e
 cases r1
 obtain ⟨its,rv,p,hz⟩:=I1.list hq
 refine wpAny_pyIter_list p.isList ?_
 refine ⟨s1.heap.objs.size,[s1.heap.objs.size],_,_,H1,rfl,I1.kept (t':=s1.toks) fun b o e=> Heap.get?_push_of_some _ e,fL a _,⟨_,Heap.get?_push_size _ rfl,rfl,rfl⟩,fun b hb=> ?_,q⟩
 have e:b=s1.heap.objs.size:=by simpa using hb
 subst e
 exact I1.fpOk (Nat.le_refl _) (I1.hok.fresh (Nat.le_refl _))
theorem gf {pins:List (Addr×Obj)} {σ:St} {H:Hp} {s:Shared} {R:It→Hp→Prop} {E:Value→Shared→Prop} {lo hi:Int} {t u v:Tok} {tk:Nat} (I:Inv X pins σ H s) (h1:-(2 ^ 62)≤lo) (h2:lo < 2 ^ 62) (h3:-(2 ^ 62)≤hi) (h4:hi < 2 ^ 62)
  (q:R (Itr lo (hi - lo).toNat) H):wpAny (model X.prog X.w) X.A (pyIter (.ref s.heap.objs.size)) (PIE X pins σ tg R) E { s with heap:=s.heap.push { cls:=.type "range",data:=.fields #[.int lo t,.int hi u,.int 1 v] },toks:=tk }:=by
 refine wpAny_pyIter_range (IsRange.new ..) (small_one h1 h2 h3 h4) ?_
 have I1:Inv X pins σ H { s with heap:=s.heap.push { cls:=.type "range",data:=.fields #[.int lo t,.int hi u,.int 1 v] },toks:=tk }:=I.kept fun b o e=> Heap.get?_push_of_some _ e
 refine ⟨(s.heap.push { cls:=.type "range",data:=.fields #[.int lo t,.int hi u,.int 1 v] }).objs.size,[(s.heap.push { cls:=.type "range",data:=.fields #[.int lo t,.int hi u,.int 1 v] }).objs.size],_,_,H,rfl,
  I1.kept (t':=tk) fun b o e=> Heap.get?_push_of_some _ e,eW _ lo (hi - lo).toNat,?_,fun b hb=> ?_,q⟩
 ·have e1:lo+((0:Nat):Int) * 1=lo:=by simp
  have e2:(((hi - lo).toNat:Nat):Int) - ((0:Nat):Int)=Builtin.Range.rangeSize lo hi 1:=by rw [rangeSize_one]; split <;> omega
  show IsRangeIter _ _ (lo+((0:Nat):Int) * 1) ((((hi - lo).toNat:Nat):Int) - ((0:Nat):Int)) 1
  rw [e1,e2]
  exact Heap.get?_push_size _ rfl
 ·have e:b=(s.heap.push { cls:=.type "range",data:=.fields #[.int lo t,.int hi u,.int 1 v] }).objs.size:=by simpa using hb
  subst e
  exact I1.fpOk (Nat.le_refl _) (I1.hok.fresh (Nat.le_refl _))
def kt (ta:TA):TI:=fun σ H R=> ta σ H fun vs H1=> ∃ j:Int,vs=[.int j]∧-(2 ^ 62)≤j∧j < 2 ^ 62∧R (Itr 0 j.toNat) H1
theorem fU {a:Expr} {ta:TA} {p pos:Pos} (hg:Gl X "range") (hm:X.mg "range"=none) (ha:PA X [a] ta) (hs:starEach [a] X.env=[(false,eval a X.env)]:=by rfl):PI X tg (.Call (.Name "range" p) [a] [] pos) (kt ta):=by
 intro pins s σ H R I h
 refine Call_ (c_ I hg hm boot_range (PyProof.Rows.callWith_type1 (thn (ha pos pins s σ H _ I h) fun us s1 ⟨vs,H1,I1,r1,q1⟩=> ?_) hs rfl))
 obtain ⟨j,e,q1,q2,q⟩:=q1
 subst e
 cases r1 with
 | cons r rr=>
  cases rr
  obtain ⟨t,rfl⟩:=r
  exact call_range_1 (gf I1 (by omega) (by omega) q1 q2 (by simpa using q))
def kQ (wi:TI) (g:TG) (tb:TS):TS:=fun D σ H=> wi σ H fun J H1=> ∃ W:Nat→Nat→St→Hp→Prop,(∃ m,W 0 m σ H1)∧∀ i m σ H,W i m σ H→
 (J.stop i H∧D.nx σ H)∨(J.go i H∧∃ N:St→Hp→Prop,(∀ σ' H',N σ' H'→∃ m',m' < m∧W (i+1) m' σ' H')∧∀ x H',J.yld i H x H'→g x σ H' fun σ2 H2=> tb { D with nx:=N,ct:=N,bk:=D.nx } σ2 H2)
def dL (fp:List Addr) (h:Heap):List (Addr×Obj):=fp.filterMap fun b=> (h.get? b).map fun o=> (b,o)
theorem bD {fp:List Addr} {h:Heap} {b:Addr} {o:Obj} (hb:b∈fp) (e:h.get? b=some o):(b,o)∈dL fp h:=List.mem_filterMap.mpr ⟨b,hb,by rw [e]; rfl⟩
theorem fD {fp:List Addr} {h:Heap} {p:Addr×Obj} (hp:p∈dL fp h):p.1∈fp∧h.get? p.1=some p.2:=by
 obtain ⟨b,hb,e⟩:=List.mem_filterMap.mp hp
 cases q:h.get? b with
 | none=> rw [q] at e; cases e
 | some o=>
  rw [q] at e
  have e':(b,o)=p:=Option.some.inj e
  subst e'
  exact ⟨hb,q⟩
theorem Inv.pinned {pins:List (Addr×Obj)} {σ:St} {H:Hp} {s:Shared} {fp:List Addr} (I:Inv X pins σ H s) (hf:∀ b∈fp,dO X pins H b) (ho:∀ b∈fp,∃ o,s.heap.get? b=some o∧∀ v,o.data≠.cell v):Inv X (pins++dL fp s.heap) σ H s:=
 I.pins_of fun p hp=> (List.mem_append.mp hp).elim (fun z=> I.pin p (List.mem_append_right _ z)) fun z=> by
  obtain ⟨hb,e⟩:=fD z
  obtain ⟨f0,f1,f2,_⟩:=hf p.1 hb
  obtain ⟨o,e',d⟩:=ho p.1 hb
  rw [e] at e'; cases e'
  exact ⟨e,f0,f1,f2,d⟩
theorem Inv.unpinned {pins pl:List (Addr×Obj)} {σ:St} {H:Hp} {s:Shared} (I:Inv X (pins++pl) σ H s):Inv X pins σ H s:=I.pins_of fun p hp=> I.pin p (List.mem_append_right _ (List.mem_append_left _ hp))
theorem gl {iter:Expr} {body:List Stmt} {wi:TI} {g:TG} {tb:TS} {pos:Pos} (hp:PassesOwn (model X.prog X.w) X.A X.env X.xe) (hc:X.calm=true) (hi:PI X tg iter wi) (hg:PG X tg g) (hb:PSs X body tb)
  (hs:∀ x,foldedSetIterable iter X.env x=pure x:=by intro _; rfl):PS X (.For tg iter body [] pos) (kQ wi g tb):=by
 intro pins s σ H D I h
 refine wpAny_For (thn (hi pins s σ H _ I h) fun v s1 h1=> thn h1 fun itv s2 h2=> ?_) hs
 obtain ⟨it,fp,tn,J,H2,e,I2,T,st2,f2,W,⟨m0,w0⟩,turn⟩:=h2
 subst e
 have stat:∀ {H':Hp},(∀ b∈fp,H' b=none)→∀ b∈fp,dO X pins H' b:=fun hn b hb=> ⟨hn b hb,(f2 b hb).2⟩
 refine codeAny_forLoop_any (fun n s'=> ∃ i σ' H',Inv X pins σ' H' s'∧tn i s'.heap∧(∀ b∈fp,H' b=none)∧W i n σ' H') ?_ m0 ⟨0,σ,H2,I2,st2,fun b hb=> (f2 b hb).1,w0⟩
 rintro n s3 ⟨i,σ3,H3,I3,st3,fr3,w3⟩
 rcases turn i n σ3 H3 w3 with ⟨stop,qn⟩ | ⟨go,N,hN,step⟩
 ·refine wpAny_passesOwn hp (thn (T.done X rfl rfl rfl hc i pins s3 σ3 H3 X.xe I3 (stat fr3) st3 stop) fun r s4 ⟨hr,I4⟩=> ?_)
  subst hr
  exact wpAny_execs_nil ⟨σ3,H3,I4,qn⟩
 ·refine wpAny_passesOwn hp (thn (T.item X rfl rfl rfl hc i pins s3 σ3 H3 X.xe I3 (stat fr3) st3 go) fun r s4 ⟨u,hr,h4⟩=> ?_)
  subst hr
  refine wpAny_passesOwn hp (thn h4 fun _ s5 ⟨x,H5,I5,r5,y5,st5,fr5⟩=> ?_)
  have I5':=I5.pinned (stat fr5) (T.obj _ _ st5)
  refine wpAny_passesOwn hp (thn (hg _ s5 σ3 H5 x u _ I5' r5 (step x H5 y5)) fun _ s6 ⟨σ6,H6,I6,q6⟩=> ?_)
  refine wpAny_passesOwn hp (thn (hb _ s6 σ6 H6 _ I6 q6) fun f s7 q7=> ?_)
  have again:∀ {σ7:St} {H7:Hp},Inv X (pins++dL fp s5.heap) σ7 H7 s7→N σ7 H7→∃ m,m < n∧∃ i σ' H',Inv X pins σ' H' s7∧tn i s7.heap∧(∀ b∈fp,H' b=none)∧W i m σ' H':=fun {σ7 H7} I7 n7=> by
   obtain ⟨m',hm,w7⟩:=hN σ7 H7 n7
   refine ⟨m',hm,i+1,σ7,H7,I7.unpinned,T.keep _ _ _ st5 fun b hb o e=> (I7.pin (b,o) (List.mem_append_right _ (List.mem_append_right _ (bD hb e)))).1,fun b hb=> ?_,w7⟩
   obtain ⟨o,e,d⟩:=T.obj _ _ st5 b hb
   exact (I7.pin (b,o) (List.mem_append_right _ (List.mem_append_right _ (bD hb e)))).2.1
  cases f with
  | next=> obtain ⟨σ7,H7,I7,n7⟩:=q7; exact again I7 n7
  | cont=> obtain ⟨σ7,H7,I7,n7⟩:=q7; exact again I7 n7
  | brk=> obtain ⟨σ7,H7,I7,q7⟩:=q7; exact ⟨σ7,H7,I7.unpinned,q7⟩
  | ret v=> obtain ⟨x7,σ7,H7,I7,r7,q7⟩:=q7; exact ⟨x7,σ7,H7,I7.unpinned,r7,q7⟩
end
end L2
namespace L2
open PySem PySem.Spec PyProof.Rows
abbrev R2:=V→V→Hp→VK→Prop
def OpR (X:Cx) (f:Value→Value→Sem Value) (r:R2):Prop:=
 ∀ (pins:List (Addr×Obj)) (s:Shared) (σ:St) (H:Hp) (x y:V) (v u:Value) (Q:VK),Inv X pins σ H s→av x v→av y u→r x y H Q→
  wpAny (model X.prog X.w) X.A (f v u) (EP X pins σ Q) X.xe s
def UnR (X:Cx) (f:Value→Sem Value) (r:V→Hp→VK→Prop):Prop:=
 ∀ (pins:List (Addr×Obj)) (s:Shared) (σ:St) (H:Hp) (x:V) (v:Value) (Q:VK),Inv X pins σ H s→av x v→r x H Q→
  wpAny (model X.prog X.w) X.A (f v) (EP X pins σ Q) X.xe s
def bL (X:Cx) (f:Value) (r:List V→Hp→VK→Prop):Prop:=
 ∀ (pins:List (Addr×Obj)) (s:Shared) (σ:St) (H:Hp) (xs:List V) (us:List Value) (Q:VK),Inv X pins σ H s→ak xs us→r xs H Q→
  wpAny (model X.prog X.w) X.A (call f us) (EP X pins σ Q) X.xe s
def tOp (r:R2) (ta tb:TE):TE:=fun σ H Q=> ta σ H fun x H1=> tb σ H1 fun y H2=> r x y H2 Q
def tUn (r:V→Hp→VK→Prop) (ta:TE):TE:=fun σ H Q=> ta σ H fun x H1=> r x H1 Q
def rI (C:Int→Int→Prop) (g:Int→Int→V):R2:=fun x y H Q=> ∃ i j,x=.int i∧y=.int j∧C i j∧Q (g i j) H
def rI0 (g:Int→Int→V):R2:=fun x y H Q=> ∃ i j,x=.int i∧y=.int j∧Q (g i j) H
def rU (g:Int→V):V→Hp→VK→Prop:=fun x H Q=> ∃ i,x=.int i∧Q (g i) H
section
variable {X:Cx} {a b c:Expr} {ta tb tc:TE} {pos:Pos}
theorem jx (ha:PE X a ta) (hb:PE X b tb) {pins:List (Addr×Obj)} {s:Shared} {σ:St} {H:Hp} {R:V→V→Hp→Prop} (I:Inv X pins σ H s)
  (h:ta σ H fun x H1=> tb σ H1 fun y H2=> R x y H2) {Q:Value→Shared→Prop} {f:Value→Value→Sem Value}
  (hf:∀ v u s2 x y H2,Inv X pins σ H2 s2→av x v→av y u→R x y H2→wpAny (model X.prog X.w) X.A (f v u) Q X.xe s2):
  wpAny (model X.prog X.w) X.A (eval a X.env) (fun v s₁=> wpAny (model X.prog X.w) X.A (eval b X.env) (fun u s₂=> wpAny (model X.prog X.w) X.A (f v u) Q X.xe s₂) X.xe s₁) X.xe s:=by
 refine thn (ha pins s σ H _ I h) fun v s1 ⟨x,H1,I1,r1,q1⟩=> ?_
 refine thn (hb pins s1 σ H1 _ I1 q1) fun u s2 ⟨y,H2,I2,r2,q2⟩=> ?_
 exact hf v u s2 x y H2 I2 r1 r2 q2
theorem fj {op:Operator} {r:R2} (ho:OpR X (binaryOp op) r) (ha:PE X a ta) (hb:PE X b tb):PE X (.BinOp a op b pos) (tOp r ta tb):=by
 intro pins s σ H Q I h
 exact wpAny_BinOp (jx ha hb I h fun v u s2 x y H2 I2 rx ry q=> ho pins s2 σ H2 x y v u Q I2 rx ry q)
theorem kn {op:UnaryOp} {r:V→Hp→VK→Prop} (ho:UnR X (unaryOp op) r) (ha:PE X a ta):PE X (.UnaryOp op a pos) (tUn r ta):=by
 intro pins s σ H Q I h
 exact UnaryOp_ (thn (ha pins s σ H _ I h) fun v s1 ⟨x,H1,I1,r1,q1⟩=> ho pins s1 σ H1 x v Q I1 r1 q1)
theorem opI {f:Value→Value→Sem Value} {C:Int→Int→Prop} {g:Int→Int→Int}
  (rule:∀ (i j:Int) (t u:Tok) (s:Shared) (Q:Value→Shared→Prop) (E:Value→Shared→Prop),C i j→Q (.int (g i j) s.toks) { s with toks:=s.toks+1 }→wpAny (model X.prog X.w) X.A (f (.int i t) (.int j u)) Q E s):
  OpR X f (rI C fun i j=> .int (g i j)):=by
 intro pins s σ H x y v u Q I rx ry h
 obtain ⟨i,j,rfl,rfl,hc,q⟩:=h
 obtain ⟨t,rfl⟩:=rx
 obtain ⟨t',rfl⟩:=ry
 exact rule i j t t' s _ _ hc ⟨.int (g i j),H,I.tok _,⟨_,rfl⟩,q⟩
theorem kw {f:Value→Value→Sem Value} {g:Int→Int→Int}
  (rule:∀ (i j:Int) (t u:Tok) (s:Shared) (Q:Value→Shared→Prop) (E:Value→Shared→Prop),Q (.int (g i j) s.toks) { s with toks:=s.toks+1 }→wpAny (model X.prog X.w) X.A (f (.int i t) (.int j u)) Q E s):
  OpR X f (rI0 fun i j=> .int (g i j)):=by
 intro pins s σ H x y v u Q I rx ry h
 obtain ⟨i,j,rfl,rfl,q⟩:=h
 obtain ⟨t,rfl⟩:=rx
 obtain ⟨t',rfl⟩:=ry
 exact rule i j t t' s _ _ ⟨.int (g i j),H,I.tok _,⟨_,rfl⟩,q⟩
theorem kP {f:Value→Value→Sem Value} {g:Int→Int→Bool}
  (rule:∀ (i j:Int) (t u:Tok) (s:Shared) (Q:Value→Shared→Prop) (E:Value→Shared→Prop),Q (.bool (g i j)) s→wpAny (model X.prog X.w) X.A (f (.int i t) (.int j u)) Q E s):
  OpR X f (rI0 fun i j=> .bl (g i j)):=by
 intro pins s σ H x y v u Q I rx ry h
 obtain ⟨i,j,rfl,rfl,q⟩:=h
 obtain ⟨t,rfl⟩:=rx
 obtain ⟨t',rfl⟩:=ry
 exact rule i j t t' s _ _ ⟨.bl (g i j),H,I,rfl,q⟩
def km (i j:Int):Prop:=0≤j∧j≤1000000∧i.natAbs < 2 ^ 64
theorem iZ:OpR X (binaryOp .Add) (rI0 fun i j=> .int (i+j)):=kw fun _ _ _ _ _ _ _ q=> add_int q
theorem i_:OpR X (binaryOp .Sub) (rI0 fun i j=> .int (i - j)):=kw fun _ _ _ _ _ _ _ q=> sub_int q
theorem i5:OpR X (binaryOp .Mod) (rI (fun _ j=> 0 < j) fun i j=> .int (i % j)):=opI fun i j _ _ _ _ _ hc q=> by
 have h1:(0:Int) < j:=hc
 exact mod_int' (by omega) (by rw [Int.fmod_eq_emod_of_nonneg i (by omega)]; exact q)
theorem jK:OpR X (binaryOp .Pow) (rI km fun i j=> .int (i ^ j.toNat)):=opI fun _ _ _ _ _ _ _ hc q=> pow_int_small hc.1 hc.2.1 hc.2.2 q
theorem unI {f:Value→Sem Value} {g:Int→Int}
  (rule:∀ (i:Int) (t:Tok) (s:Shared) (Q:Value→Shared→Prop) (E:Value→Shared→Prop),Q (.int (g i) s.toks) { s with toks:=s.toks+1 }→wpAny (model X.prog X.w) X.A (f (.int i t)) Q E s):
  UnR X f (rU fun i=> .int (g i)):=by
 intro pins s σ H x v Q I rx h
 obtain ⟨i,rfl,q⟩:=h
 obtain ⟨t,rfl⟩:=rx
 exact rule i t s _ _ ⟨.int (g i),H,I.tok _,⟨_,rfl⟩,q⟩
theorem jr:UnR X (unaryOp .USub) (rU fun i=> .int (-i)):=unI fun _ _ _ _ _ q=> neg_int q
end
def kL:V→V→Bool
 | .non,.non=> true | .non,.int _=> true | .int _,.non=> true | .non,.bl _=> true | .bl _,.non=> true | .non,.str _=> true | .str _,.non=> true
 | .int _,.int _=> true | .bl _,.bl _=> true | .str _,.str _=> true | .byt _,.byt _=> true
 | .int _,.str _=> true | .str _,.int _=> true | .bl _,.str _=> true | .str _,.bl _=> true
 | _,_=> false
def rEq:R2:=fun x y H Q=> kL x y=true∧Q (.bl (decide (x=y))) H
theorem e_ {i j:Int}:decide (V.int i=V.int j)=(i==j):=by
 rw [Bool.eq_iff_iff]
 simp
theorem jg {i j:Bool}:decide (V.bl i=V.bl j)=(i==j):=by
 rw [Bool.eq_iff_iff]
 simp
theorem hV {i j:Str}:decide (V.str i=V.str j)=(i==j):=by
 rw [Bool.eq_iff_iff]
 simp
theorem h7 {i j:Array UInt8}:decide (V.byt i=V.byt j)=(i.toList==j.toList):=by
 rw [Bool.eq_iff_iff]
 cases i
 cases j
 simp
section
variable {X:Cx} {a b c:Expr} {ta tb tc:TE} {pos:Pos}
theorem aP {pins:List (Addr×Obj)} {σ:St} {H:Hp} {s:Shared} {Q:VK} {k k':Bool} (I:Inv X pins σ H s) (q:Q (.bl k) H) (e:k=k'):EP X pins σ Q (.bool k') s:=by
 subst e
 exact ⟨.bl k,H,I,rfl,q⟩
theorem jZ:OpR X (compareOp .Eq) rEq:=by
 intro pins s σ H x y v u Q I rx ry h
 obtain ⟨hs,q⟩:=h
 cases x with
 | non=>
  cases rx
  cases y with
  | non=> cases ry; exact PySem.EqNone.eq_none_none (aP I q (by simp))
  | bl j=> cases ry; exact PySem.EqNone.eq_none_bool (aP I q (by simp))
  | int j=> obtain ⟨t',rfl⟩:=ry; exact PySem.EqNone.eq_none_int (aP I q (by simp))
  | str j=> obtain ⟨t',rfl⟩:=ry; exact PySem.EqNone.eq_none_str (aP I q (by simp))
  | _=> exact absurd (show false=true from hs) Bool.false_ne_true
 | bl i=>
  cases rx
  cases y with
  | non=> cases ry; exact PySem.EqNone.eq_bool_none (aP I q (by simp))
  | bl j=> cases ry; exact eq_bool (aP I q jg)
  | str j=> obtain ⟨t',rfl⟩:=ry; exact PySem.EqMixed.eq_bool_str (aP I q (by simp))
  | _=> exact absurd (show false=true from hs) Bool.false_ne_true
 | int i=>
  obtain ⟨t,rfl⟩:=rx
  cases y with
  | non=> cases ry; exact PySem.EqNone.eq_int_none (aP I q (by simp))
  | int j=> obtain ⟨t',rfl⟩:=ry; exact eq_int (aP I q e_)
  | str j=> obtain ⟨t',rfl⟩:=ry; exact PySem.EqMixed.eq_int_str (aP I q (by simp))
  | _=> exact absurd (show false=true from hs) Bool.false_ne_true
 | str i=>
  obtain ⟨t,rfl⟩:=rx
  cases y with
  | non=> cases ry; exact PySem.EqNone.eq_str_none (aP I q (by simp))
  | bl j=> cases ry; exact PySem.EqMixed.eq_str_bool (aP I q (by simp))
  | int j=> obtain ⟨t',rfl⟩:=ry; exact PySem.EqMixed.eq_str_int (aP I q (by simp))
  | str j=> obtain ⟨t',rfl⟩:=ry; exact eq_str (aP I q hV)
  | _=> exact absurd (show false=true from hs) Bool.false_ne_true
 | byt i=>
  obtain ⟨t,rfl⟩:=rx
  cases y with
  | byt j=> obtain ⟨t',rfl⟩:=ry; exact PySem.W.eq_bytes (aP I q h7)
  | _=> exact absurd (show false=true from hs) Bool.false_ne_true
 | _=> cases y <;> exact absurd (show false=true from hs) Bool.false_ne_true
theorem kq:OpR X (compareOp .Gt) (rI0 fun i j=> .bl (decide (j < i))):=kP fun _ _ _ _ _ _ _ q=> gt_int q
theorem gM (b:Expr) {op:CmpOp} (h:op≠.In:=by decide) (h2:op≠.NotIn:=by decide):behindInMarks op b=false:=by
 have e1:(op==CmpOp.In)=false:=by cases op <;> first | rfl | exact absurd rfl h
 have e2:(op==CmpOp.NotIn)=false:=by cases op <;> first | rfl | exact absurd rfl h2
 cases b <;> simp [behindInMarks,e1,e2]
theorem iu {op:CmpOp} {r:R2} (ho:OpR X (compareOp op) r) (ha:PE X a ta) (hb:PE X b tb) (hm:behindInMarks op b=false):PE X (.Compare a [op] [b] pos) (tOp r ta tb):=by
 intro pins s σ H Q I h
 exact wpAny_Compare1 (jx ha hb I h fun v u s2 x y H2 I2 rx ry q=> ho pins s2 σ H2 x y v u Q I2 rx ry q) hm
def j6 (t:TE):TT:=fun σ H Q=> t σ H fun x H'=> ∃ k,x=.bl k∧Q k H'
theorem g_ {op:CmpOp} {r:R2} (ho:OpR X (compareOp op) r) (ha:PE X a ta) (hb:PE X b tb) (hm:behindInMarks op b=false):PT X (.Compare a [op] [b] pos) (j6 (tOp r ta tb)):=by
 intro pins s σ H Q I h
 refine wpAny_isTrue_Compare1 (thn (ha pins s σ H _ I h) fun v s1 ⟨x,H1,I1,r1,q1⟩=> thn (hb pins s1 σ H1 _ I1 q1) fun u s2 ⟨y,H2,I2,r2,q2⟩=>
  thn (ho pins s2 σ H2 x y v u _ I2 r1 r2 q2) fun c s3 ⟨z,H3,I3,r3,k,e,q3⟩=> ?_) hm
 subst e
 cases r3
 exact wpAny_truthy_bool ⟨H3,I3,q3⟩
theorem dM:(sizeLine:Nat) < 2 ^ 63:=by rw [sizeLine_eq]; decide
theorem ei {x:V} {us:List Value} (r:ak [x] us):∃ u,us=[u]∧av x u:=by
 cases r with
 | cons r1 r2=> cases r2; exact ⟨_,rfl,r1⟩
theorem iP {x y:V} {us:List Value} (r:ak [x,y] us):∃ u w',us=[u,w']∧av x u∧av y w':=by
 cases r with
 | cons r1 r2=>
  cases r2 with
  | cons r3 r4=> cases r4; exact ⟨_,_,rfl,r1,r3⟩
end
end L2
namespace L2
open PySem PySem.Spec PyProof.Rows
structure jo (h:Heap) (x dx C:Addr) (mA:Str→Option Value):Prop where
 obj:h.get? x=some (PySem.W.instObj C dx)
 ns:h.Ns1 dx mA
 ne:dx≠x
theorem fH {h:Heap} {dx:Addr} {mA:Str→Option Value} (n:h.Ns1 dx mA):∃ od,h.get? dx=some od∧∀ name,PySem.W.lookIn name od=some (mA name):=by
 obtain ⟨o,es,ep,ho,hd,hk,_,hm⟩:=n
 refine ⟨o,ho,fun name=> ?_⟩
 have e:=hm name
 unfold nsFind findBy at e
 rw [← Array.find?_toList] at e
 unfold PySem.W.lookIn
 rw [hd]
 dsimp only
 split
 ·rename_i y q
  rw [q] at e
  exact congrArg some e
 ·rename_i q
  rw [q] at e
  have a:es.toList.any (·.refKey)=false:=by
   rw [List.any_eq_false]
   intro y hy
   obtain ⟨z,t,hkey⟩:=hk y (Array.mem_toList_iff.mp hy)
   simp [DictEntry.refKey,hkey]
  have a':¬ es.toList.any (·.refKey)=true:=by rw [a]; exact Bool.false_ne_true
  rw [if_neg a']
  exact congrArg some e
theorem jo.look {h:Heap} {x dx C:Addr} {mA:Str→Option Value} (I:jo h x dx C mA):∃ od,PySem.W.InstAt h x (PySem.W.instObj C dx) C (some od)∧∀ name,PySem.W.lookIn name od=some (mA name):=
 let ⟨od,ho,hl⟩:=fH I.ns
 ⟨od,⟨I.obj,rfl,rfl,ho⟩,hl⟩
section
variable {prog:Program} {w:World} {A:Around} {E:Value→Shared→Prop} {s:Shared} {K:PySem.W.Frag} {x dx C f:Addr} {mA:Str→Option Value} {name:Str} {v:Value}
end
section
variable {P:Program} {w:World} {H H':Hp} {h h':Heap} {a C dx:Addr} {fs fs':List (Str×V)}
theorem iI (hok:HOk P w H h) (e:H a=some (.ins C dx fs)):∃ mA,jo h a dx C mA∧(∀ f,jf (fs.lookup f) (mA f))∧PySem.Within mA (fs.map (·.1))∧fs.length≤1000∧H dx=some (.own a):=by
 obtain ⟨d,z,ne,ob,mA,n,r,q⟩:=(show ba P w H h a (.ins C dx fs) from hok a _ e)
 exact ⟨mA,⟨ob,n,ne⟩,r,q,z,d⟩
end
structure Cls (K:PySem.W.Frag) (C:Addr):Prop where
 pg:PySem.W.plainGet K C Str.empty=true
 hd:PySem.W.hasDictIn K C=true
 po:PySem.W.plainOver K C=true
 sa:PySem.W.findIn K (.ref C) "__setattr__"=some (some (.builtin "object.__setattr__"))
theorem Cls.get {K:PySem.W.Frag} {C:Addr} (c:Cls K C) (f:Str):PySem.W.plainGet K C f=true:=c.pg
structure Con (K:PySem.W.Frag) (C:Addr) (f:Str) (v:V) (u:Value):Prop where
 at_:PySem.W.findIn K (.ref C) f=some (some u)
 rel:av v u
 get:PySem.W.specialIn K u "__get__"=some none
 cp:PySem.W.copiedNames.contains f=false
structure lm (K:PySem.W.Frag) (C:Addr) (m:Str) (f:Addr):Prop where
 at_:PySem.W.findIn K (.ref C) m=some (some (.ref f))
 fn:PySem.W.isFn K (.ref f)=true
 kp:PySem.W.keepIn K (.ref f)=true
section
variable {X:Cx} {pins:List (Addr×Obj)} {σ:St} {H:Hp} {s:Shared} {a C dx:Addr} {fs:List (Str×V)} {f:Str} {v:V} {A:Around} {E:Value→Shared→Prop}
end
section
variable {X:Cx} {o e value:Expr} {f:Str} {pos pos' tpos:Pos} {ta tv:TE}
end
section
variable {X:Cx} {pins:List (Addr×Obj)} {σ:St} {H:Hp} {s:Shared} {A:Around} {E:Value→Shared→Prop} {Q:Value→Shared→Prop} {c:Value} {b:Bool}
inductive cG (K:PySem.W.Frag) (H:Hp):V→Value→Prop where
 | non:cG K H .non (.type "NoneType")
 | bl (x:Bool):cG K H (.bl x) (.type "bool")
 | int (i:Int):cG K H (.int i) (.type "int")
 | str (x:Str):cG K H (.str x) (.type "str")
 | flt (x:UInt64):cG K H (.flt x) (.type "float")
 | lst {a:Addr} {xs:List V} (e:H a=some (.lst xs)):cG K H (.ref a) (.type "list")
 | frz {a:Addr} {o:Obj} {xs:List V} (e:H a=some (.frz o (.lst xs))):cG K H (.ref a) (.type "list")
 | tup {a:Addr} {xs:List V} (e:H a=some (.tup xs)):cG K H (.ref a) (.type "tuple")
 | dK {a:Addr} {kvs:List (Key×V)} (e:H a=some (.dK kvs)):cG K H (.ref a) (.type "dict")
 | dT {a:Addr} {kvs:List (List Key×V)} (e:H a=some (.dT kvs)):cG K H (.ref a) (.type "dict")
 | ins {a C dx:Addr} {fs:List (Str×V)} (e:H a=some (.ins C dx fs)) (cl:Cls K C) (ha:PySem.W.findIn K (.ref C) "__class__"=some (some (.builtin "object.__class__")))
   (hn:PySem.W.specialIn K (.builtin "object.__class__") "__get__"=some (some (.builtin "getset_descriptor.__get__"))) (htk:PySem.W.takesIn K (.builtin "object.__class__")=some true)
   (hm:PySem.W.mroIn K C (.type "object")=some true):cG K H (.ref a) (.ref C)
theorem bq {x:V} {u t:Value} (I:Inv X pins σ H s) (rx:av x u) (ty:cG X.K H x t) (e:PySem.W.kitOne X.K t c=some b) (h:∀ tk,Q (.bool b) { s with toks:=tk }):
  wpAny (model X.prog X.w) A (call (.builtin "isinstance") [u,c]) Q E s:=by
 cases ty with
 | non=> cases (show u=Value.none from rx); exact PySem.W.kia_one PySem.W.kitx_none I.kIn True.intro e (fun z=> nomatch z) h
 | bl y=> cases (show u=Value.bool y from rx); exact PySem.W.kia_one PySem.W.kitx_bool I.kIn True.intro e (fun z=> nomatch z) h
 | int i=> obtain ⟨t,q⟩:=(show ∃ t,u=Value.int i t from rx); cases q; exact PySem.W.kia_one PySem.W.kitx_int I.kIn True.intro e (fun z=> nomatch z) h
 | str y=> obtain ⟨t,q⟩:=(show ∃ t,u=Value.str y t from rx); cases q; exact PySem.W.kia_one PySem.W.kitx_str I.kIn True.intro e (fun z=> nomatch z) h
 | flt y=> obtain ⟨t,q⟩:=(show ∃ t,u=Value.float y t from rx); cases q; exact PySem.W.kia_one PySem.W.kitx_float I.kIn True.intro e (fun z=> nomatch z) h
 | @lst a xs ea=>
  cases (show u=Value.ref a from rx)
  obtain ⟨_,_,n,_,h1⟩:=(show ba X.prog X.w H s.heap a (.lst xs) from I.hok a _ ea)
  exact PySem.W.kia_one PySem.W.kitx_list I.kIn ⟨_,h1,rfl⟩ e (fun z=> nomatch z) h
 | @frz a ob xs ea=>
  cases (show u=Value.ref a from rx)
  obtain ⟨_,_,_,n,_,h1⟩:=(show ba X.prog X.w H s.heap a (.frz ob (.lst xs)) from I.hok a _ ea)
  exact PySem.W.kia_one PySem.W.kitx_list I.kIn ⟨_,h1,rfl⟩ e (fun z=> nomatch z) h
 | @tup a xs ea=>
  cases (show u=Value.ref a from rx)
  obtain ⟨_,_,_,p⟩:=(show ba X.prog X.w H s.heap a (.tup xs) from I.hok a _ ea)
  obtain ⟨o,h1,h2,_⟩:=p
  exact PySem.W.kia_one PySem.W.kitx_tuple I.kIn ⟨o,h1,h2⟩ e (fun z=> nomatch z) h
 | @dK a kvs ea=>
  cases (show u=Value.ref a from rx)
  obtain ⟨_,_,vs,_,p⟩:=(show ba X.prog X.w H s.heap a (.dK kvs) from I.hok a _ ea)
  obtain ⟨o,es,ep,h1,h2,_⟩:=p
  exact PySem.W.kia_one PySem.W.kitx_dict I.kIn ⟨o,h1,h2.1⟩ e (fun z=> nomatch z) h
 | @dT a kvs ea=>
  cases (show u=Value.ref a from rx)
  obtain ⟨_,_,xs,_,o,es,ep,h1,h2,_⟩:=(show ba X.prog X.w H s.heap a (.dT kvs) from I.hok a _ ea)
  exact PySem.W.kia_one PySem.W.kitx_dict I.kIn ⟨o,h1,h2.1⟩ e (fun z=> nomatch z) h
 | @ins a C dx fs ea cl ha hn htk hm=>
  cases (show u=Value.ref a from rx)
  obtain ⟨mA,O,_⟩:=iI I.hok ea
  obtain ⟨od,J,_⟩:=O.look
  exact PySem.W.kia_one (PySem.W.kitx_own (cl.get _) cl.hd ha hn htk hm) I.kIn J e (fun z=> nomatch z) h
end
end L2
namespace L2
open PySem PySem.Spec PyProof.Rows
structure bx (k:Nat) (A:Around):Prop where
 hd:A.handled=none
 dp:A.depth+3 * k+5 < recursionLimit
 un:A.units+16 * k+200 < cLine
theorem bx.mono {j k:Nat} {A:Around} (r:bx k A) (h:j≤k):bx j A:=⟨r.hd,by have:=r.dp; omega,by have:=r.un; omega⟩
theorem bx.deeper {k:Nat} {A:Around} (r:bx (k+1) A) (env:Env):bx k (A.deeper env):=
 ⟨r.hd,by have:=r.dp; show A.depth+1+3 * k+5 < _; omega,by have:=r.un; show A.units+3+16 * k+200 < _; omega⟩
theorem bx.depth {k:Nat} {A:Around} (r:bx k A):A.depth < recursionLimit:=by have:=r.dp; omega
def k_:TA:=fun _ H Q=> Q [] H
def j3 (ta:TE) (tr:TA):TA:=fun σ H Q=> ta σ H fun x H1=> tr σ H1 fun xs H2=> Q (x::xs) H2
section
variable {X:Cx} {e:Expr} {es:List Expr} {te:TE} {t:TA} {pos:Pos}
theorem cP:PA X [] k_:=fun _ _ _ _ H Q I h=> Calls.spliced_nil ⟨[],H,I,.nil,h⟩
theorem bW (ha:PE X e te) (hr:PA X es t) (hs:starEach (e::es) X.env=(false,eval e X.env)::starEach es X.env:=by rfl):PA X (e::es) (j3 te t):=by
 intro pos pins s σ H Q I h
 rw [hs]
 show wpAny _ _ (spliced ((false,eval e X.env)::backTo pos (starEach es X.env))) _ _ s
 refine Calls.spliced_cons (thn (ha pins s σ H _ I h) fun u s1 ⟨x,H1,I1,r1,q1⟩=> ?_)
 exact thn (hr pos pins s1 σ H1 _ I1 q1) fun us s2 ⟨xs,H2,I2,r2,q2⟩=> ⟨x::xs,H2,I2,.cons r1 r2,q2⟩
def kM (t:TA):TE:=fun σ H Q=> t σ H fun xs H1=> xs.length≤sizeLine∧∀ p,H1 p=none→Q (.ref p) (upd H1 p (.tup xs))
def kZ (t:TA):TE:=fun σ H Q=> t σ H fun xs H1=> xs.length≤sizeLine∧∀ p,H1 p=none→Q (.ref p) (upd H1 p (.lst xs))
theorem jL {x1} (h:PA X es t):PE X (.Tuple es x1 pos) (kM t):=by
 intro pins s σ H Q I hq
 refine wpAny_Tuple_spliced (thn (h pos pins s σ H _ I hq) fun us s1 ⟨xs,H1,I1,r,z,q⟩=> ⟨by rw [← r.length]; exact z,?_⟩)
 have hf:H1 s1.heap.objs.size=none:=I1.hok.fresh (Nat.le_refl _)
 refine ⟨.ref s1.heap.objs.size,upd H1 s1.heap.objs.size (.tup xs),I1.laid (t':=s1.toks) (fun b u e=> Heap.get?_push_of_some _ e) (Nat.le_refl _) ?_,rfl,q _ hf⟩
 exact ⟨z,us,r,⟨_,Heap.get?_push_size _ rfl,rfl,_,rfl⟩⟩
theorem jA (h:PA X es t):PE X (.List es pos) (kZ t):=by
 intro pins s σ H Q I hq
 refine wpAny_List_spliced (thn (h pos pins s σ H _ I hq) fun us s1 ⟨xs,H1,I1,r,z,q⟩=> ⟨by rw [← r.length]; exact z,?_⟩)
 have hf:H1 s1.heap.objs.size=none:=I1.hok.fresh (Nat.le_refl _)
 refine ⟨.ref s1.heap.objs.size,upd H1 s1.heap.objs.size (.lst xs),I1.laid (t':=s1.toks) (fun b u e=> Heap.get?_push_of_some _ e) (Nat.le_refl _) ?_,rfl,q _ hf⟩
 exact ⟨z,us,0,r,Heap.get?_push_size _ rfl⟩
end
abbrev Sp:=List V→Hp→VK→XK→Prop
abbrev CXT:=List Env→Hp→Shared→XK→Value→Shared→Prop
structure hU (P:Program) (w:World) (K:PySem.W.Frag) (mg:Str→Option Value) (base:Heap) (A:Around) (outer:List Env) (s:Shared) (H:Hp):Prop where
 frames:A.frames=some outer
 mod:Mod K mg base
 bs:∀ b o,base.get? b=some o→s.heap.get? b=some o∧H b=none
 bsz:base.objs.size≤s.heap.objs.size
 funs:s.heap.FunFrames base outer
 frf:∀ b∈frs outer,H b=none
 hok:HOk P w H s.heap
 bare:AllBare s.gens
def CE (outer:List Env) (P:Program) (w:World) (H:Hp) (s:Shared) (Q:VK) (u:Value) (s':Shared):Prop:=
 ∃ v H',s'.os=s.os∧AllBare s'.gens∧Un (frs outer) [] H H' s.heap s'.heap∧HOk P w H' s'.heap∧av v u∧Q v H'
def CR (CX:CXT) (outer:List Env) (P:Program) (w:World) (H:Hp) (s:Shared) (Q:VK) (E:XK) (r:Result) (s':Shared):Prop:=
 match r with
 | .ok (.ret u)=> CE outer P w H s Q u s'
 | .ok _=> False
 | .error e=> CX outer H s E e s'
structure aZ (P:Program) (w:World) (K:PySem.W.Frag) (mg:Str→Option Value) (base:Heap) (CX:CXT) (k:Nat) (f:Addr) (fd:FuncData) (ps:List Str) (sp:Sp):Prop where
 len:∀ vs H Q E,sp vs H Q E→vs.length=ps.length
 run:∀ (A:Around) (outer:List Env) (s:Shared) (H:Hp) (args:Args) (us:List Value) (vs:List V) (Q:VK) (E:XK),bx k A→hU P w K mg base A outer s H→BindsTo s fd args (ps.zip us)→ak vs us→sp vs H Q E→
  codeAny (model P w) A (.call (.ref f) args) (CR CX outer P w H s Q E) s
theorem aZ.mono {P:Program} {w:World} {K:PySem.W.Frag} {mg:Str→Option Value} {base:Heap} {CX:CXT} {j k:Nat} {f:Addr} {fd:FuncData} {ps:List Str} {sp:Sp} (F:aZ P w K mg base CX j f fd ps sp) (h:j≤k):
  aZ P w K mg base CX k f fd ps sp:=⟨F.len,fun A outer s H args us vs Q E hr=> F.run A outer s H args us vs Q E (hr.mono h)⟩
section
variable {X:Cx} {pins:List (Addr×Obj)} {σ:St} {H:Hp} {s s':Shared}
theorem Inv.env0 (I:Inv X pins σ H s):hU X.prog X.w X.K X.mg X.base X.A X.stack s H:=
 ⟨I.ok.frames,I.ok.mod,I.bs,Nat.le_trans I.ok.bsz I.sz,I.stack,I.stkFree,I.hok,I.bare⟩
theorem Inv.after {Q:VK} {u:Value} (I:Inv X pins σ H s) (h:CE X.stack X.prog X.w H s Q u s'):EP X pins σ Q u s':=by
 obtain ⟨v,H',os,bare,un,hok,r,q⟩:=h
 obtain ⟨hh,g,d,t,os'⟩:=s'
 obtain rfl:os'=s.os:=os
 exact ⟨v,H',I.call (h':=hh) (g':=g) (d':=d) (t':=t) (ch:=[]) un hok bare (fun b z=> absurd z (by simp)),r,q⟩
end
def j7 (sp:Sp) (dvs:List V) (E:XK) (t:TA):TE:=fun σ H Q=> t σ H fun vs H1=> sp (vs++dvs) H1 Q E
def aT (K:PySem.W.Frag) (fd:FuncData) (ps:List Str) (ds:List Value):Prop:=
 ∀ (s:Shared) (us:List Value),K.In s.heap→(us++ds).length=ps.length→BindsTo s fd ⟨us,[]⟩ (ps.zip (us++ds))
theorem aT.all {K:PySem.W.Frag} {fd:FuncData} {ps:List Str} (h:∀ us:List Value,us.length=ps.length→bindArgs fd ⟨us,[]⟩=pure (ps.zip us)):aT K fd ps []:=fun s us _ hl=> by
 rw [List.append_nil] at hl ⊢
 exact .of_eq (h us hl)
def bZ (CX:CXT) (X:Cx) (E:XK):Prop:=∀ (pins:List (Addr×Obj)) (σ:St) (H:Hp) (s:Shared) (e:Value) (s':Shared),Inv X pins σ H s→CX X.stack H s E e s'→X.xe e s'
section
variable {X:Cx} {CX:CXT} {k:Nat} {f C:Addr} {fd:FuncData} {ps:List Str} {sp:Sp} {dvs:List V} {ds:List Value} {E:XK} {x m:Str} {p pos apos:Pos} {e o:Expr} {es:List Expr} {ta:TE} {t:TA}
theorem i4 {pins:List (Addr×Obj)} {σ:St} {H:Hp} {s:Shared} {Q:VK} {us:List Value} {vs:List V} (F:aZ X.prog X.w X.K X.mg X.base CX k f fd ps sp) (hr:bx k X.A) (hb:aT X.K fd ps ds) (hd:ak dvs ds) (hx:bZ CX X E)
  (I:Inv X pins σ H s) (r:ak vs us) (h:sp (vs++dvs) H Q E):wpAny (model X.prog X.w) X.A (call (.ref f) us) (EP X pins σ Q) X.xe s:=by
 have r2:ak (vs++dvs) (us++ds):=r.append hd
 have hl:(us++ds).length=ps.length:=by rw [← r2.length]; exact F.len _ _ _ _ h
 refine wpAny_call (codeAny_mono (F.run X.A X.stack s H ⟨us,[]⟩ (us++ds) (vs++dvs) Q E hr I.env0 (hb s us I.kIn hl) r2 h) fun r s' hq=> ?_)
 cases r with
 | error e=> exact hx pins σ H s e s' I hq
 | ok fl=>
  cases fl with
  | ret u=> exact I.after hq
  | next=> exact False.elim hq
  | brk=> exact False.elim hq
  | cont=> exact False.elim hq
theorem d0 (F:aZ X.prog X.w X.K X.mg X.base CX k f fd ps sp) (hr:bx k X.A) (hg:Gl X x) (hm:X.mg x=some (.ref f)) (hk:PySem.W.keepIn X.K (.ref f)=true) (hb:aT X.K fd ps ds) (hd:ak dvs ds) (hx:bZ CX X E)
  (ha:PA X (e::es) t) (hdb:(x==("__debug__":Str))=false:=by decide) (he:starEach (e::es) X.env=(false,eval e X.env)::starEach es X.env:=by rfl) (hpl:(backTo pos (starEach es X.env)).any (·.1)=false:=by rfl):
  PE X (.Call (.Name x p) (e::es) [] pos) (j7 sp dvs E t):=by
 intro pins s σ H Q I h
 refine wpAny_Call_Name_kw (ck I hg hm ?_ hdb)
 refine PySem.W.callWith_K (h₀:=X.base) I.ok.mod.kin hk (thn (ha pos pins s σ H _ I h) fun us s1 ⟨vs,H1,I1,r,q⟩=> ⟨I1.kIn,?_⟩) he hpl
 exact i4 F hr hb hd hx I1 r q
structure Mk (K:PySem.W.Frag) (C f:Addr):Prop where
 makes:PySem.W.makesIn K C=true
 init:PySem.W.findIn K (.ref C) "__init__"=some (some (.ref f))
 fn:PySem.W.isFn K (.ref f)=true
 kp:PySem.W.keepIn K (.ref C)=true
end
section
variable {X:Cx} {CX:CXT} {k:Nat} {f C:Addr} {fd:FuncData} {ps ks:List Str} {sp:Sp} {E:XK} {x m:Str} {p pos apos kpos:Pos} {e o:Expr} {es:List Expr} {kws:List Keyword} {te ta:TE} {t tk:TA} {nm:Option Str}
structure kN (K:PySem.W.Frag) (fd:FuncData) (ps ks:List Str) (g:List Value→List Value→List Value) (gV:List V→List V→List V):Prop where
 to:∀ (s:Shared) (us ws:List Value),K.In s.heap→(g us ws).length=ps.length→BindsTo s fd ⟨us,ks.zip ws⟩ (ps.zip (g us ws))
 rel:∀ {vs:List V} {us:List Value} {zs:List V} {ws:List Value},ak vs us→ak zs ws→ak (gV vs zs) (g us ws)
variable {g:List Value→List Value→List Value} {gV:List V→List V→List V}
end
structure aD (N P:List Str) (sc:Scope):Prop where
 kind:sc.kind=.function
 co:sc.isCoroutine=false
 gen:sc.isGenerator=false
 nd:N.Nodup
 pre:N.take P.length=P
 par:∀ x∈P,sc.names.lookup x=some .local∨sc.names.lookup x=some .cell
 nofree:∀ y∈sc.names,y.2≠.free
theorem dG {kindOf:Str→Option NameKind} {x:Str}:∀ {binds:List (Str×Value)} {m:Str→Option Value},(∀ v,(x,v) ∉ binds)→bindL kindOf binds m x=m x
 | [],_,_=> rfl
 | (n,v)::r,m,h=> by
  unfold bindL
  rw [dG fun w hw=> h w (List.mem_cons_of_mem _ hw)]
  split
  ·have:x≠n:=by rintro rfl; exact h v List.mem_cons_self
   simp [this]
  ·rfl
theorem dE {kindOf:Str→Option NameKind} {x:Str}:∀ {binds:List (Str×Value)} {m:Str→Option Value},(∀ v,(x,v) ∉ binds)→bindC kindOf binds m x=m x
 | [],_,_=> rfl
 | (n,v)::r,m,h=> by
  unfold bindC
  rw [dE fun w hw=> h w (List.mem_cons_of_mem _ hw)]
  split
  ·rfl
  ·have:x≠n:=by rintro rfl; exact h v List.mem_cons_self
   simp [this]
theorem dA {kindOf:Str→Option NameKind} {x:Str} {v:Value}:∀ {P:List Str} {vs:List Value} {i:Nat} {m:Str→Option Value},P.Nodup→P[i]?=some x→vs[i]?=some v→kindOf x=some .local→
  bindL kindOf (P.zip vs) m x=some v
 | [],_,_,_,_,h,_,_=> by simp at h
 | _::_,[],_,_,_,_,h,_=> by simp at h
 | p::P,w::vs,0,m,nd,h1,h2,hk=> by
  simp at h1 h2; subst h1; subst h2
  show bindL kindOf ((p,w)::P.zip vs) m p=_
  unfold bindL
  rw [dG fun v hv=> (List.nodup_cons.mp nd).1 (List.of_mem_zip hv).1,if_pos hk]
  simp
 | p::P,w::vs,i+1,m,nd,h1,h2,hk=> by
  show bindL kindOf ((p,w)::P.zip vs) m x=_
  unfold bindL
  exact dA (i:=i) (List.nodup_cons.mp nd).2 (by simpa using h1) (by simpa using h2) hk
theorem dH {kindOf:Str→Option NameKind} {x:Str} {v:Value}:∀ {P:List Str} {vs:List Value} {i:Nat} {m:Str→Option Value},P.Nodup→P[i]?=some x→vs[i]?=some v→kindOf x≠some .local→
  bindC kindOf (P.zip vs) m x=some v
 | [],_,_,_,_,h,_,_=> by simp at h
 | _::_,[],_,_,_,_,h,_=> by simp at h
 | p::P,w::vs,0,m,nd,h1,h2,hk=> by
  simp at h1 h2; subst h1; subst h2
  show bindC kindOf ((p,w)::P.zip vs) m p=_
  unfold bindC
  rw [dE fun v hv=> (List.nodup_cons.mp nd).1 (List.of_mem_zip hv).1,if_neg hk]
  simp
 | p::P,w::vs,i+1,m,nd,h1,h2,hk=> by
  show bindC kindOf ((p,w)::P.zip vs) m x=_
  unfold bindC
  exact dH (i:=i) (List.nodup_cons.mp nd).2 (by simpa using h1) (by simpa using h2) hk
def start (N:List Str) (vs:List V):St:=vs.map some++List.replicate (N.length - vs.length) none
def bC (CX:CXT) (P:Program) (w:World) (K:PySem.W.Frag) (mg:Str→Option Value) (base:Heap) (N:List Str) (qual:Str) (scope:Scope) (f:Addr) (cd:Value) (A:Around) (outer:List Env) (s:Shared) (H:Hp) (E:XK):Cx where
 prog:=P
 w:=w
 K:=K
 mg:=mg
 base:=base
 A:=A.deeper (envOfC qual scope s.heap.objs.size f cd)
 N:=N
 s₀:=s
 H₀:=H
 env:=envOfC qual scope s.heap.objs.size f cd
 outer:=outer
 stack:=envOfC qual scope s.heap.objs.size f cd::outer
 ex:=[]
 calm:=true
 fn:=fun _=> true
 pn:=[]
 xe:=fun e s'=> wpAny (model P w) (A.deeper (envOfC qual scope s.heap.objs.size f cd)) (leaving (envOfC qual scope s.heap.objs.size f cd) e) (fun _ s''=> CX outer H s E e s'') (fun e' s''=> CX outer H s E e' s'') s'
theorem ej {sc:Scope} {n:Nat} {x:Str} (h:sc.names.lookup x=some .cell):∃ c,(cellsFrom n sc.names []).lookup x=some c:=by
 have q:=PySem.W.cellsFrom_some sc.names n [] (.inl h)
 exact Option.isSome_iff_exists.mp q
theorem fG {CX:CXT} {P:Program} {w:World} {K:PySem.W.Frag} {mg:Str→Option Value} {base:Heap} {N ps:List Str} {qual:Str} {scope:Scope} {f:Addr} {cd:Value} {A:Around} {outer:List Env} {s s1:Shared} {H:Hp} {E:XK} {us:List Value} {vs:List V}
  (S:aD N ps scope) (hd:A.handled=none) (e0:hU P w K mg base A outer s H) (hl:vs.length=ps.length) (r:ak vs us)
  (x:InCallC s s.heap.objs.size (bindL (envOfC qual scope s.heap.objs.size f cd).kindOf (ps.zip us) fun _=> none) (cellsFrom (s.heap.objs.size+1) scope.names []) (bindC (envOfC qual scope s.heap.objs.size f cd).kindOf (ps.zip us) fun _=> none) s1):
  Inv (bC CX P w K mg base N qual scope f cd A outer s H E) [] (start N vs) H s1:=by
 have hpl:ps.length≤N.length:=by have:=congrArg List.length S.pre; rw [List.length_take] at this; omega
 obtain ⟨h1,tk,rfl,hk⟩:=x.done
 have noA:∀ b:Addr,b ∉ (bC CX P w K mg base N qual scope f cd A outer s H E).ex:=fun b z=> absurd (show b∈([]:List Addr) from z) (by simp)
 refine ⟨⟨e0.mod,S.kind,rfl,rfl,Nat.le_refl _,fun y z c h1 h2=> ?_,fun y hy=> ?_,fun y c _ h=> ?_,fun _=> hd,Around.frames_deeper e0.frames,.inr ⟨rfl,rfl⟩,fun b z=> absurd z (noA b),e0.bs,e0.bsz,fun b _ _=> noA b,fun b z=> absurd z (noA b),e0.funs,e0.frf⟩,
  rfl,e0.bare,Un.kept hk,⟨_,x.toInCall.ns,fun i y v h1 h2 h3=> ?_⟩,fun y c h=> ⟨_,x.cell y c h⟩,e0.hok.fresh (Nat.le_refl _),fun y c h=> ?_,fun p hp=> absurd (show p∈([]:List (Addr×Obj)) from hp) (by simp),e0.hok.kept hk,?_⟩
 ·exact name_of_addr x.apart (PySem.mem_of_lookup h1) (PySem.mem_of_lookup h2)
 ·have hy:scope.names.lookup y=some .cell∨scope.names.lookup y=some .free:=hy
  rcases hy with hy | hy
  ·exact ej hy
  ·exact absurd rfl (S.nofree _ (PySem.mem_of_lookup hy))
 ·exact Nat.le_of_lt (x.above y c (PySem.mem_of_lookup h))
 ·have hi:i < vs.length:=by
   unfold start at h2
   by_cases hi:i < vs.length
   ·exact hi
   ·rw [List.getElem?_append_right (by simpa using hi)] at h2
    rw [List.getElem?_replicate] at h2
    split at h2 <;> cases h2
  have ha:vs[i]?=some v:=by
   unfold start at h2
   rw [List.getElem?_append_left (by simpa using hi),List.getElem?_map] at h2
   cases e:vs[i]? with
   | none=> rw [e] at h2; cases h2
   | some a=> rw [e] at h2; cases h2; rfl
  obtain ⟨u,hu,rv⟩:=r.get ha
  have hp:ps[i]?=some y:=by
   rw [← S.pre,List.getElem?_take_of_lt (by omega)]; exact h1
  have ndP:ps.Nodup:=by rw [← S.pre]; exact S.nd.sublist (List.take_sublist _ _)
  refine ⟨u,rv,?_⟩
  rcases S.par y (List.mem_of_getElem? hp) with k | k
  ·exact .inl ⟨k,dA ndP hp hu k⟩
  ·obtain ⟨c,e⟩:=ej (n:=s.heap.objs.size+1) k
   refine .inr ⟨.inl k,c,e,?_⟩
   have q:=x.cell y c e
   rw [dH ndP hp hu (by show scope.names.lookup y≠_; rw [k]; decide)] at q
   exact q
 ·exact e0.hok.fresh (Nat.le_of_lt (x.above y c (PySem.mem_of_lookup h)))
 ·unfold start
  show _=N.length
  rw [List.length_append,List.length_map,List.length_replicate]
  omega
theorem j_ {CX:CXT} {P:Program} {w:World} {K:PySem.W.Frag} {mg:Str→Option Value} {base:Heap} {k:Nat} {f:Addr} {name qual:Str} {params:Arguments} {body:List Stmt} {scope:Scope} {dV kV doc pm cdv ct oc:Value} {an od:Option Addr}
  {osl:Array (Option Value)} {N ps:List Str} {sp:Sp} (lk:K.lookup f=some ⟨oc,od,.func (PySem.W.fnOf name qual params body scope dV kV doc pm an cdv ct),osl⟩) (hcd:PySem.W.codeIn K cdv qual=true) (S:aD N ps scope)
  (len:∀ vs H Q E,sp vs H Q E→vs.length=ps.length)
  (hbody:∀ (A:Around) (outer:List Env) (s:Shared) (H:Hp) (vs:List V) (Q:VK) (E:XK),bx k (A.deeper (envOfC qual scope s.heap.objs.size f cdv))→sp vs H Q E→
   ∃ t,PSs (bC CX P w K mg base N qual scope f cdv A outer s H E) body t∧t { nx:=fun _ H'=> Q .non H',rt:=Q } (start N vs) H):
  aZ P w K mg base CX (k+1) f (PySem.W.fnOf name qual params body scope dV kV doc pm an cdv ct) ps sp:=by
 refine ⟨len,fun A outer s H args us vs Q E hr e0 hb r hsp=> ?_⟩
 have hl:=len _ _ _ _ hsp
 have KX:K.In s.heap:=e0.mod.kin.keeps fun b o e=> (e0.bs b o e).1
 have lim:s.heap.NoLimit:=e0.mod.nolimit.keeps fun b o e=> (e0.bs b o e).1
 have hkind:∀ y∈ps.zip us,scope.names.lookup y.1=some .local∨(scope.names.lookup y.1=some .cell∧((cellsFrom (s.heap.objs.size+1) scope.names []).lookup y.1).isSome=true):=fun ⟨n,v⟩ hy=> by
  rcases S.par n (List.of_mem_zip hy).1 with q | q
  ·exact .inl q
  ·exact .inr ⟨q,PySem.W.cellsFrom_some _ _ _ (.inl q)⟩
 refine codeAny_call_function hr.depth (KX _ _ lk) rfl S.co S.gen rfl (PySem.W.codeRec_of KX hcd) (hb _ _ _ _ ?_)
 refine wpAny_newFunctionEnv_cells S.kind hkind fun env he s1 x=> ?_
 subst he
 refine ⟨lim.keeps x.toInCall.keep,codeAny_func ?_⟩
 obtain ⟨t,ht,hq⟩:=hbody A outer s H vs Q E (hr.deeper _) hsp
 have I:Inv (bC CX P w K mg base N qual scope f cdv A outer s H E) [] (start N vs) H s1:=fG S hr.hd e0 hl r x
 refine wpAny_mono (ht [] s1 (start N vs) H _ I hq) (fun fl s' hs=> ?_) fun e s' hs=> hs
 have fin:∀ {σ':St} {H':Hp} {v:V} {u:Value},Inv (bC CX P w K mg base N qual scope f cdv A outer s H E) [] σ' H' s'→av v u→Q v H'→CE outer P w H s Q u s':=
  fun {σ' H' v u} J rv q=> ⟨v,H',J.os,J.bare,J.base,J.hok,rv,q⟩
 cases fl with
 | ret u=>
  obtain ⟨v,σ',H',J,rv,q⟩:=hs
  exact fin J rv q
 | next=>
  obtain ⟨σ',H',J,q⟩:=hs
  exact fin (v:=V.non) (u:=Value.none) J rfl q
 | brk=>
  obtain ⟨_,_,_,q⟩:=hs
  exact False.elim q
 | cont=>
  obtain ⟨_,_,_,q⟩:=hs
  exact False.elim q
end L2
namespace L2
open PySem PySem.Spec PyProof.Rows
section
variable {X:Cx} {x:Str} {p pos:Pos} {e:Expr} {es:List Expr} {t:TA} {id T:String} {r:List V→Hp→VK→Prop}
def tCB (r:List V→Hp→VK→Prop) (t:TA):TE:=fun σ H Q=> t σ H fun vs H1=> r vs H1 Q
theorem cX (hc:bL X (.builtin id) r) (hg:Gl X x) (hm:X.mg x=none) (hv:bootBuiltins x=some (.builtin id)) (ha:PA X (e::es) t) (hn:x≠"__name__":=by decide) (hdb:(x==("__debug__":Str))=false:=by decide)
  (he:starEach (e::es) X.env=(false,eval e X.env)::starEach es X.env:=by rfl) (hpl:(backTo pos (starEach es X.env)).any (·.1)=false:=by rfl):PE X (.Call (.Name x p) (e::es) [] pos) (tCB r t):=by
 intro pins s σ H Q I h
 refine wpAny_Call_Name_kw (c_ I hg hm hv ?_ hn hdb)
 exact PyProof.Rows.callWith_builtin1 (thn (ha pos pins s σ H _ I h) fun us s1 ⟨vs,H1,I1,r1,q1⟩=> hc pins s1 σ H1 vs us Q I1 r1 q1) he hpl
theorem fT (hc:bL X (.type T) r) (hg:Gl X x) (hm:X.mg x=none) (hv:bootBuiltins x=some (.type T)) (ha:PA X (e::es) t) (hn:x≠"__name__":=by decide) (hdb:(x==("__debug__":Str))=false:=by decide)
  (he:starEach (e::es) X.env=(false,eval e X.env)::starEach es X.env:=by rfl) (hpl:(backTo pos (starEach es X.env)).any (·.1)=false:=by rfl):PE X (.Call (.Name x p) (e::es) [] pos) (tCB r t):=by
 intro pins s σ H Q I h
 refine wpAny_Call_Name_kw (c_ I hg hm hv ?_ hn hdb)
 exact PyProof.Rows.callWith_type1 (thn (ha pos pins s σ H _ I h) fun us s1 ⟨vs,H1,I1,r1,q1⟩=> hc pins s1 σ H1 vs us Q I1 r1 q1) he hpl
end
end L2
namespace HT
open PySem PyProof.Rows
section
open PySem.SeqAt
open PySem.AutoSeq1 (wpAny_loadPart')
open PySem.MeetsSeq PySem.MeetsSeq2 PySem.MeetsSeq3
end
section
variable {prog:Program} {w:World} {A:Around} {E:Value→Shared→Prop} {s:Shared}
def sIx (n d:Nat):Option Int→Nat
 | none=> d
 | some v=> if v < 0 then (v+(n:Int)).toNat else min v.toNat n
theorem sIx_none (n d:Nat):sIx n d none=d:=rfl
theorem sIx_nat (n d k:Nat):sIx n d (some (k:Int))=min k n:=by
 show (if (k:Int) < 0 then ((k:Int)+(n:Int)).toNat else min (k:Int).toNat n)=min k n
 rw [if_neg (by omega),Int.toNat_natCast]
end
end HT
namespace L2
open PySem PySem.Spec PyProof.Rows
abbrev TO:=St→Hp→(Option Int→Hp→Prop)→Prop
def PO (X:Cx) (e:Option Expr) (t:TO):Prop:=
 ∀ (pins:List (Addr×Obj)) (s:Shared) (σ:St) (H:Hp) (Q:Option Int→Hp→Prop),Inv X pins σ H s→t σ H Q→
  wpAny (model X.prog X.w) X.A (evalPart e X.env) (fun u s'=> ∃ o H',Inv X pins σ H' s'∧IsPart u o∧Q o H') X.xe s
def ii:TO:=fun _ H Q=> Q none H
def jY (t:TE):TO:=fun σ H Q=> t σ H fun x H1=> ∃ i,x=.int i∧Q (some i) H1
section
variable {X:Cx} {e:Expr} {te:TE} {lo hi:Option Expr} {tl th:TO} {pos p2:Pos}
theorem iH:PO X none ii:=by
 intro pins s σ H Q I h
 rw [evalPart_none]
 exact wpAny_pure ⟨none,H,I,.none,h⟩
theorem ic (h:PE X e te):PO X (some e) (jY te):=by
 intro pins s σ H Q I hw
 rw [evalPart_some]
 refine thn (h pins s σ H _ I hw) fun u s1 ⟨x,H1,I1,r1,q1⟩=> ?_
 obtain ⟨i,rfl,q⟩:=q1
 obtain ⟨t,rfl⟩:=r1
 exact ⟨some i,H1,I1,.int i t,q⟩
def SlR (X:Cx) (r:V→Option Int→Option Int→Hp→VK→Prop):Prop:=
 ∀ (pins:List (Addr×Obj)) (s:Shared) (σ:St) (H:Hp) (x:V) (v vl vu:Value) (lo hi:Option Int) (sl:Addr) (Q:VK),Inv X pins σ H s→av x v→s.heap.IsSliceOf sl vl vu .none→IsPart vl lo→IsPart vu hi→r x lo hi H Q→
  ∃ T id,typeLookup (.type T) "__getitem__"=pure (some (.builtin id))∧s.TypeIs v T∧wpAny (model X.prog X.w) X.A (getItem v (.ref sl)) (EP X pins σ Q) X.xe s
def tSl (r:V→Option Int→Option Int→Hp→VK→Prop) (te:TE) (tl th:TO):TE:=fun σ H Q=> te σ H fun x H1=> tl σ H1 fun l H2=> th σ H2 fun u H3=> r x l u H3 Q
theorem ge {r:V→Option Int→Option Int→Hp→VK→Prop} (hr:SlR X r) (he:PE X e te) (hl:PO X lo tl) (hu:PO X hi th):PE X (.Subscript e (.Slice lo hi none p2) pos) (tSl r te tl th):=by
 intro pins s σ H Q I h
 refine Subscript_ (thn (he pins s σ H _ I h) fun v s1 ⟨x,H1,I1,r1,q1⟩=> ?_)
 refine wpAny_Slice (thn (hl pins s1 σ H1 _ I1 q1) fun vl s2 ⟨l,H2,I2,pl,q2⟩=> thn (hu pins s2 σ H2 _ I2 q2) fun vu s3 ⟨u,H3,I3,pu,q3⟩=> ?_)
 rw [evalPart_none]
 refine wpAny_pure ?_
 have I4:Inv X pins σ H3 { s3 with heap:=s3.heap.push { cls:=.type "slice",data:=.fields #[vl,vu,.none] } }:=I3.kept (t':=s3.toks) fun b ob q=> Heap.get?_push_of_some _ q
 obtain ⟨T,id,hT,ht,hg⟩:=hr pins { s3 with heap:=s3.heap.push { cls:=.type "slice",data:=.fields #[vl,vu,.none] } } σ H3 x v vl vu l u s3.heap.objs.size Q I4 r1 (Heap.IsSliceOf.new ..) pl pu q3
 show wpAny (model X.prog X.w) X.A (subscriptTail e (.Slice lo hi none p2) v (.ref s3.heap.objs.size)) (EP X pins σ Q) X.xe { s3 with heap:=s3.heap.push { cls:=.type "slice",data:=.fields #[vl,vu,.none] } }
 exact tail_any (ops:=[.ref s3.heap.objs.size,v]) ht hT hg (by with_unfolding_all rfl)
def fE (xs:List V) (lo hi:Option Int):List V:=(xs.drop (HT.sIx xs.length 0 lo)).take (HT.sIx xs.length xs.length hi - HT.sIx xs.length 0 lo)
theorem eM (xs:List V) (lo hi:Option Int):(fE xs lo hi).length≤xs.length:=by
 unfold fE
 rw [List.length_take,List.length_drop]
 omega
end
end L2
namespace L2
open PySem PySem.Spec PyProof.Rows
def ixN (n:Nat) (i:Int):Option Nat:=if 0≤i then (if i < n then some i.toNat else none) else if -(n:Int)≤i then some (i+n).toNat else none
def atI {α:Type} (xs:List α) (i:Int):Option α:=(ixN xs.length i).bind fun j=> xs[j]?
theorem fk {n:Nat} {i:Int} {j:Nat} (h:ixN n i=some j):seqIndex? i n=some j∧j < n∧-(n:Int)≤i∧i < n:=by
 unfold ixN at h
 by_cases h0:0≤i
 ·rw [if_pos h0] at h
  by_cases h1:i < n
  ·rw [if_pos h1] at h
   have e:i.toNat=j:=Option.some.inj h
   exact ⟨by rw [seqIndex_of h0 h1,e],by omega,by omega,h1⟩
  ·rw [if_neg h1] at h; cases h
 ·rw [if_neg h0] at h
  by_cases h1:-(n:Int)≤i
  ·rw [if_pos h1] at h
   have e:(i+n).toNat=j:=Option.some.inj h
   exact ⟨by rw [seqIndex_neg (by omega) h1,e],by omega,h1,by omega⟩
  ·rw [if_neg h1] at h; cases h
theorem fu {α:Type} {xs:List α} {i:Int} {v:α} (h:atI xs i=some v):∃ j,seqIndex? i xs.length=some j∧xs[j]?=some v∧j < xs.length∧-(xs.length:Int)≤i∧i < xs.length:=by
 unfold atI at h
 cases e:ixN xs.length i with
 | none=> rw [e] at h; cases h
 | some j=>
  rw [e] at h
  obtain ⟨h1,h2,h3,h4⟩:=fk e
  exact ⟨j,h1,h,h2,h3,h4⟩
theorem fB {α:Type} {xs:List α} {j:Nat} {v:α} (h:xs[j]?=some v):atI xs (j:Int)=some v:=by
 have hj:j < xs.length:=(List.getElem?_eq_some_iff.mp h).1
 have e:ixN xs.length (j:Int)=some j:=by
  unfold ixN
  rw [if_pos (by omega),if_pos (by omega)]; simp
 unfold atI; rw [e]; exact h
def dP (b:Expr):Prop:=∀ o i,subscripted b false o i=operate [o,i] (getItem o i)
def IxR (X:Cx) (r:R2):Prop:=
 ∀ (value slice:Expr) (pins:List (Addr×Obj)) (s:Shared) (σ:St) (H:Hp) (x y:V) (v u:Value) (Q:VK),Inv X pins σ H s→av x v→av y u→r x y H Q→
  subscripted slice false v u=operate [v,u] (getItem v u)→wpAny (model X.prog X.w) X.A (subscriptTail value slice v u) (EP X pins σ Q) X.xe s
def MtR (X:Cx) (id:String) (r:V→List V→Hp→VK→Prop):Prop:=
 ∀ (pins:List (Addr×Obj)) (s:Shared) (σ:St) (H:Hp) (x:V) (xs:List V) (v:Value) (us:List Value) (Q:VK),Inv X pins σ H s→av x v→ak xs us→r x xs H Q→
  wpAny (model X.prog X.w) X.A (call (.builtin id) (v::us)) (EP X pins σ Q) X.xe s
section
variable {X:Cx} {a b:Expr} {ta tb:TE} {pos:Pos}
theorem IxR.or {r r':R2} (h:IxR X r) (h':IxR X r'):IxR X (fun x y H Q=> r x y H Q∨r' x y H Q):=by
 intro value slice pins s σ H x y v u Q I rx ry q hs
 rcases q with q | q
 ·exact h value slice pins s σ H x y v u Q I rx ry q hs
 ·exact h' value slice pins s σ H x y v u Q I rx ry q hs
theorem iS {r:R2} (hr:IxR X r) (ha:PE X a ta) (hb:PE X b tb) (hs:dP b):PE X (.Subscript a b pos) (tOp r ta tb):=by
 intro pins s σ H Q I h
 exact Subscript_ (jx ha hb I h fun v u s2 x y H2 I2 rx ry q=> hr a b pins s2 σ H2 x y v u Q I2 rx ry q (hs _ _))
def kT (K:PySem.W.Frag):R2:=fun x y H Q=> ∃ p xs i v,x=.ref p∧y=.int i∧SqL K H p xs∧atI xs i=some v∧Q v H
def kX (K:PySem.W.Frag):R2:=fun x y H Q=> ∃ p xs i v,x=.ref p∧y=.int i∧SqT K H p xs∧atI xs i=some v∧Q v H
theorem fz:IxR X (kT X.K):=by
 intro value slice pins s σ H x y v u Q I rx ry h hs
 obtain ⟨p,xs,i,z,rfl,rfl,hq,he,q⟩:=h
 cases rx
 obtain ⟨t,rfl⟩:=ry
 obtain ⟨its,r,pl,hz⟩:=I.list hq
 obtain ⟨j,h1,h2,h3,h4,h5⟩:=fu he
 obtain ⟨w,ew,rw'⟩:=r.get h2
 have hl:=r.length
 have hn:=dM
 have fin:EP X pins σ Q w s:=⟨z,H,I,rw',q⟩
 by_cases h0:0≤i
 ·have hj:i.toNat=j:=by
   rw [seqIndex_of h0 h5] at h1
   exact Option.some.inj h1
  exact item_listR pl.isList h0 (by omega) (by rw [hj]; simpa using ew) fin hs
 ·have hj:(i+(its.toArray.size:Int)).toNat=j:=by
   rw [seqIndex_neg (by omega) h4] at h1
   rw [List.size_toArray,← hl]
   exact Option.some.inj h1
  exact subscriptTail_builtinR (x:=w) pl.isList.typeIs slot_list_getitem.lookup
   (wpAny_getItem_list_neg (Q:=fun r s'=> r=w∧EP X pins σ Q r s') pl.isList (by omega) (by rw [List.size_toArray] <;> omega) (by omega) (by rw [hj]; simpa using ew) ⟨rfl,fin⟩) hs
theorem je:IxR X (kX X.K):=by
 intro value slice pins s σ H x y v u Q I rx ry h hs
 obtain ⟨p,xs,i,z,rfl,rfl,hq,he,q⟩:=h
 cases rx
 obtain ⟨t,rfl⟩:=ry
 obtain ⟨its,r,pl,hz⟩:=I.tuple hq
 obtain ⟨j,h1,h2,h3,h4,h5⟩:=fu he
 obtain ⟨w,ew,rw'⟩:=r.get h2
 have hl:=r.length
 have hn:=dM
 have fin:EP X pins σ Q w s:=⟨z,H,I,rw',q⟩
 exact subscriptTail_builtinR (x:=w) pl.typeIs slot_tuple_getitem.lookup
  (getItem_tuple (j:=j) (Q:=fun r s'=> r=w∧EP X pins σ Q r s') pl (by omega) (by omega) (by rw [List.size_toArray,← hl]; exact h1) (by simpa using ew) ⟨rfl,fin⟩) hs
theorem eU (its:List Value) (n j:Nat) (u:Value):Obj.mapSeq (·.setIfInBounds j u) { cls:=.type "list",data:=.seq its.toArray n }={ cls:=.type "list",data:=.seq (its.set j u).toArray n }:=by
 simp [Obj.mapSeq]
theorem Inv.lst {pins:List (Addr×Obj)} {σ:St} {H:Hp} {s:Shared} {p:Addr} {xs:List V} (I:Inv X pins σ H s) (h:H p=some (.lst xs)):
  ∃ (its:List Value) (n:Nat),ak xs its∧s.heap.get? p=some { cls:=.type "list",data:=.seq its.toArray n }∧xs.length≤sizeLine:=by
 obtain ⟨z,its,n,r,e⟩:=I.hok p _ h
 exact ⟨its,n,r,e,z⟩
theorem Inv.lstUpd {pins:List (Addr×Obj)} {σ:St} {H:Hp} {s:Shared} {p:Addr} {xs ys:List V} {its its':List Value} {n n':Nat} {f:Obj→Obj} (I:Inv X pins σ H s) (h:H p=some (.lst xs))
  (ho:s.heap.get? p=some { cls:=.type "list",data:=.seq its.toArray n }) (hf:f { cls:=.type "list",data:=.seq its.toArray n }={ cls:=.type "list",data:=.seq its'.toArray n' }) (r:ak ys its') (hz:ys.length≤sizeLine) (t:Nat):
  Inv X pins σ (upd H p (.lst ys)) { s with heap:=s.heap.update p f,toks:=t }:=by
 have e:(s.heap.update p f).get? p=some { cls:=.type "list",data:=.seq its'.toArray n' }:=by
  rw [Heap.get?_update_self f ho (by rw [hf] <;> rfl),hf]
 refine I.write (x:=p) (e:=p) (by rw [h]; trivial) (.inl rfl) (fun b u hb q=> (Heap.get?_update_other _ _ (Ne.symm hb)).trans q) ⟨_,e⟩ ?_
 exact ⟨hz,its',n',r,e⟩
def kh:V→V→V→Hp→(Hp→Prop)→Prop:=fun o i v H Q=> ∃ p xs k j,o=.ref p∧i=.int k∧H p=some (.lst xs)∧ixN xs.length k=some j∧Q (upd H p (.lst (xs.set j v)))
theorem gG:jO X kh:=by
 intro pins s σ H o i v ov iv u Q I ro ri rv h
 obtain ⟨p,xs,k,j,rfl,rfl,hp,hj,q⟩:=h
 cases ro
 obtain ⟨t,rfl⟩:=ri
 obtain ⟨its,n,r,ho,hz⟩:=I.lst hp
 obtain ⟨h1,h2,h3,h4⟩:=fk hj
 have hl:=r.length
 have hn:=dM
 have I':Inv X pins σ (upd H p (.lst (xs.set j v))) { s with heap:=s.heap.update p (Obj.mapSeq (·.setIfInBounds j u)) }:=
  I.lstUpd hp ho (eU its n j u) (r.set rv j) (by rw [List.length_set]; exact hz) s.toks
 by_cases h0:0≤k
 ·have hk:k.toNat=j:=by
   rw [seqIndex_of h0 h4] at h1
   exact Option.some.inj h1
  exact PySem.W.ki_setAt ho h0 (by omega) (by rw [List.size_toArray,← hl]; exact h4) (by rw [hk]; exact ⟨_,I',q⟩)
 ·have hk:(k+(its.toArray.size:Int)).toNat=j:=by
   rw [seqIndex_neg (by omega) h3] at h1
   rw [List.size_toArray,← hl]
   exact Option.some.inj h1
  exact PySem.W.ki_setBack ho (by omega) (by rw [List.size_toArray,← hl]; exact h3) (by omega) (by rw [hk]; exact ⟨_,I',q⟩)
theorem d6 (lo hi:Option Int) (n:Nat):(sliceBounds lo hi none n).1=((HT.sIx n 0 lo:Nat):Int)∧(sliceBounds lo hi none n).2.1=((HT.sIx n n hi:Nat):Int)∧(sliceBounds lo hi none n).2.2=1:=by
 refine ⟨?_,?_,rfl⟩
 ·cases lo with
  | none=> simp [sliceBounds,HT.sIx]
  | some i=>
   simp only [sliceBounds,HT.sIx,Option.getD_none,show (1:Int) > 0 by decide,if_true]
   by_cases h:i < 0
   ·simp only [h,if_true] <;> omega
   ·simp only [h,if_false] <;> omega
 ·cases hi with
  | none=> simp [sliceBounds,HT.sIx]
  | some i=>
   simp only [sliceBounds,HT.sIx,Option.getD_none,show (1:Int) > 0 by decide,if_true]
   by_cases h:i < 0
   ·simp only [h,if_true] <;> omega
   ·simp only [h,if_false] <;> omega
theorem de (its:List Value) (lo hi:Option Int):slicePick its.toArray lo hi none=((its.drop (HT.sIx its.length 0 lo)).take (HT.sIx its.length its.length hi - HT.sIx its.length 0 lo)).toArray:=by
 obtain ⟨h1,h2,h3⟩:=d6 lo hi its.toArray.size
 unfold slicePick
 rw [h1,h2,h3]
 simp only [sliceRange_one,pick_run,List.size_toArray] <;> rfl
def lb (K:PySem.W.Frag):V→Option Int→Option Int→Hp→VK→Prop:=fun x lo hi H Q=> ∃ a xs,x=.ref a∧SqL K H a xs∧∀ p,H p=none→Q (.ref p) (upd H p (.lst (fE xs lo hi)))
theorem hI:SlR X (lb X.K):=by
 intro pins s σ H x v vl vu lo hi sl Q I rx hs pl pu h
 obtain ⟨a,xs,rfl,hx,q⟩:=h
 cases rx
 obtain ⟨its,r,ht,hz⟩:=I.list hx
 have hlen:=r.length
 refine ⟨"list",_,slot_list_getitem.lookup,ht.isList.typeIs,?_⟩
 refine wpAny_getItem_list_slice ht.isList hs pl pu .none (by simp) ?_ (by rw [List.size_toArray] <;> omega)
 rw [de,← hlen]
 refine ⟨.ref s.heap.objs.size,_,I.laid (t':=s.toks) (o:=.lst (fE xs lo hi)) (fun b ob q=> Heap.get?_push_of_some _ q) (Nat.le_refl _) ?_,rfl,q _ (I.hok.fresh (Nat.le_refl _))⟩
 exact ⟨Nat.le_trans (eM xs lo hi) hz,_,0,(r.drop (HT.sIx xs.length 0 lo)).take (HT.sIx xs.length xs.length hi - HT.sIx xs.length 0 lo),Heap.get?_push_size _ rfl⟩
theorem cr:bL X (.builtin "len") (fun xs H Q=> ∃ p ys,xs=[.ref p]∧(SqL X.K H p ys∨SqT X.K H p ys)∧Q (.int ys.length) H):=by
 intro pins s σ H xs us Q I r h
 obtain ⟨p,ys,rfl,hq,q⟩:=h
 obtain ⟨u,rfl,rx⟩:=ei r
 cases rx
 have hn:=dM
 rcases hq with hq | hq
 ·obtain ⟨its,r',pl,hz⟩:=I.list hq
  have hlen:=r'.length
  exact Calls.call_len_list pl.isList (by simp only [List.size_toArray] <;> omega) ⟨.int ys.length,H,I.tok _,⟨s.toks+1,by rw [List.size_toArray,hlen]⟩,q⟩
 ·obtain ⟨its,r',pl,hz⟩:=I.tuple hq
  have hlen:=r'.length
  exact len_tuple pl (by simp only [List.size_toArray] <;> omega) ⟨.int ys.length,H,I.tok _,⟨s.toks+1,by rw [List.size_toArray,hlen]⟩,q⟩
theorem dU:bL X (.type "list") (fun xs H Q=> ∃ p ys,xs=[.ref p]∧(SqL X.K H p ys∨SqT X.K H p ys)∧∀ l,H l=none→Q (.ref l) (upd H l (.lst ys))):=by
 intro pins s σ H xs us Q I r h
 obtain ⟨p,ys,rfl,hq,q⟩:=h
 obtain ⟨u,rfl,rx⟩:=ei r
 cases rx
 have fin:∀ (its:List Value),ak ys its→ys.length≤sizeLine→∀ (h':Heap) (c':Nat),(∀ b o',s.heap.get? b=some o'→h'.get? b=some o')→
   h'.get? s.heap.objs.size=some { cls:=.type "list",dict:=none,data:=.seq its.toArray c',slots:=#[] }→EP X pins σ Q (.ref s.heap.objs.size) { s with heap:=h' }:=fun its r' hz h' c' kp e=>
  ⟨.ref s.heap.objs.size,_,I.laid (t':=s.toks) kp (Nat.le_refl _) (show ba X.prog X.w _ h' _ (.lst ys) from ⟨hz,its,c',r',e⟩),rfl,q _ (I.hok.fresh (Nat.le_refl _))⟩
 rcases hq with hq | hq
 ·obtain ⟨its,r',pl,hz⟩:=I.list hq
  have hlen:=r'.length
  obtain ⟨o,ho,hc,n,hd⟩:=pl.isList
  exact call_list_seq p (.inl rfl) ho hc hd (fun h' c' kp e=> fin its r' hz h' c' kp e) (by simp only [List.size_toArray] <;> omega)
 ·obtain ⟨its,r',pl,hz⟩:=I.tuple hq
  have hlen:=r'.length
  obtain ⟨o,ho,hc,n,hd⟩:=pl
  exact call_list_seq p (.inr rfl) ho hc hd (fun h' c' kp e=> fin its r' hz h' c' kp e) (by simp only [List.size_toArray] <;> omega)
def tyV (K:PySem.W.Frag) (T:String) (x:V) (H:Hp):Prop:=match x with
 | .str _=> T="str"
 | .int _=> T="int"
 | .ref p=> (T="list"∧∃ xs,SqL K H p xs)∨(T="tuple"∧∃ o,K.lookup p=some o∧o.cls=.type "tuple"∧o.dict=none)∨
   (T="dict"∧((∃ kvs,H p=some (.dK kvs))∨∃ kvs,H p=some (.dT kvs)))∨(T="set"∧∃ S n,H p=some (.set S n))
 | _=> False
theorem jw {pins:List (Addr×Obj)} {σ:St} {H:Hp} {s:Shared} {T:String} {x:V} {v:Value} (I:Inv X pins σ H s) (r:av x v) (ty:tyV X.K T x H):
  s.TypeIs v T∧∀ a,v=.ref a→∃ ob,s.heap.get? a=some ob∧ob.dict=none:=by
 cases x with
 | str z=>
  obtain ⟨t,rfl⟩:=r
  cases (show T="str" from ty)
  exact ⟨typeIs_str s z t,fun _ e=> nomatch e⟩
 | int i=>
  obtain ⟨t,rfl⟩:=r
  cases (show T="int" from ty)
  exact ⟨typeIs_int s i t,fun _ e=> nomatch e⟩
 | ref p=>
  cases r
  rcases ty with ⟨rfl,xs,hq⟩ | ⟨rfl,o,hk,hc,hd⟩ | ⟨rfl,hk⟩ | ⟨rfl,S,n,hk⟩
  ·obtain ⟨its,_,pl,_⟩:=I.list hq
   refine ⟨pl.isList.typeIs,fun a e=> ?_⟩
   cases e
   obtain ⟨o,n,e,c,hd,_⟩:=pl
   exact ⟨o,e,hd⟩
  ·refine ⟨⟨o,I.kIn p o hk,hc⟩,fun a e=> ?_⟩
   cases e
   exact ⟨o,I.kIn _ o hk,hd⟩
  ·have z:∃ o,s.heap.get? p=some o∧o.ExactDict:=by
    rcases hk with ⟨kvs,hk⟩ | ⟨kvs,hk⟩
    ·obtain ⟨_,_,_,_,o,_,_,e,ex,_⟩:=I.hok p _ hk
     exact ⟨o,e,ex⟩
    ·obtain ⟨_,_,_,_,o,_,_,e,ex,_⟩:=I.hok p _ hk
     exact ⟨o,e,ex⟩
   obtain ⟨o,e,ex⟩:=z
   refine ⟨⟨o,e,ex.1⟩,fun a e2=> ?_⟩
   cases e2
   exact ⟨o,e,ex.2.1⟩
  ·obtain ⟨o,_,_,_,e,ex,_⟩:=I.hok p _ hk
   refine ⟨⟨o,e,ex.1⟩,fun a e2=> ?_⟩
   cases e2
   exact ⟨o,e,ex.2.1⟩
 | _=> exact False.elim ty
def tBM (K:PySem.W.Frag) (T:String) (r:V→List V→Hp→VK→Prop) (to:TE) (t:TA):TE:=fun σ H Q=> to σ H fun x H1=> tyV K T x H1∧t σ H1 fun xs H2=> r x xs H2 Q
variable {o e:Expr} {es:List Expr} {to:TE} {t:TA} {name:Str} {apos cpos:Pos} {T id:String} {r:V→List V→Hp→VK→Prop}
theorem jR (pa:PlainAttrs T) (slot:Slot T name id) (hty:typeOf (.builtin id)=pure (.type "method_descriptor")) (hm:MtR X id r) (ho:PE X o to) (ha:PA X (e::es) t)
  (hbase:attributeBase o name X.env (eval o X.env)=eval o X.env:=by rfl)
  (hfew:((backTo cpos (starEach (e::es) X.env)).all (fun x=> !x.1) && (backToKw cpos (keywordEach [] X.env)).all (fun x=> x.1.isSome)
   && decide ((e::es).length+([]:List Keyword).length+(if ([]:List Keyword).isEmpty then 0 else 1) < 30))=true:=by rfl)
  (hline:(apos.endLine==cpos.line)=true:=by rfl) (hs:starEach (e::es) X.env=(false,eval e X.env)::starEach es X.env:=by rfl) (hplain:(backTo cpos (starEach es X.env)).any (·.1)=false:=by rfl):
  PE X (.Call (.Attribute o name apos) (e::es) [] cpos) (tBM X.K T r to t):=by
 intro pins s σ H Q I h
 refine wpAny_Call_method_late hbase hfew hline rfl (thn (ho pins s σ H _ I h) fun v s1 ⟨x,H1,I1,r1,ty,q1⟩=> ?_)
 obtain ⟨h1,h2⟩:=jw I1 r1 ty
 refine ⟨T,id,pa,slot,hty,h1,h2,?_⟩
 have hA:=ha cpos pins s1 σ H1 _ I1 q1
 rw [hs] at hA ⊢
 refine Calls.callWith_builtin (by show (false || (backTo cpos (starEach es X.env)).any (·.1))=false; rw [hplain] <;> rfl) (Calls.evalArgs_plain ?_)
 exact thn hA fun us s2 ⟨vs,H2,I2,r2,q2⟩=> hm pins s2 σ H2 x vs v us Q I2 r1 r2 q2
/- xs.append(e),list.index on a module's tuple .. are MtR facts of 06m -/
end
end L2
namespace L2
open PySem PySem.Spec PyProof.Rows
def MtM (X:Cx) (id:String) (r:V→List V→Hp→VK→Prop):Prop:=
 ∀ (pins:List (Addr×Obj)) (s:Shared) (σ:St) (H:Hp) (x:V) (xs:List V) (v:Value) (us:List Value) (Q:VK),Inv X pins σ H s→av x v→ak xs us→r x xs H Q→
  wpAny (model X.prog X.w) X.A (call (.builtin id) (v::us)) (EP X pins σ Q) X.xe s
theorem ak.one:∀ {x:V} {us:List Value},ak [x] us→∃ u,us=[u]∧av x u
 | _,_,.cons r .nil=> ⟨_,rfl,r⟩
theorem ak.rep {xs:List V} {us:List Value} (h:ak xs us):∀ k:Nat,ak (List.replicate k xs).flatten (List.replicate k us).flatten
 | 0=> .nil
 | k+1=> by
  rw [List.replicate_succ,List.replicate_succ,List.flatten_cons,List.flatten_cons]
  exact ak.append h (ak.rep h k)
theorem dy (its:List Value):∀ (k:Nat) (acc:List Value),
  List.foldl (fun x1 x2=> x1++x2) acc.toArray (List.replicate k its.toArray)=(acc++(List.replicate k its).flatten).toArray
 | 0,acc=> by simp
 | k+1,acc=> by
  have e:acc.toArray++its.toArray=(acc++its).toArray:=by simp
  have e2:(acc++its)++(List.replicate k its).flatten=acc++(List.replicate (k+1) its).flatten:=by
   rw [List.replicate_succ,List.flatten_cons,List.append_assoc]
  rw [← e2,← dy its k (acc++its),← e,List.replicate_succ,List.foldl_cons]
section
variable {X:Cx} {pins:List (Addr×Obj)} {σ:St} {H:Hp} {s:Shared} {l b:Addr} {xs ys zs:List V}
theorem Inv.lset {its its':List Value} {n:Nat} {f:Array Value→Array Value} {t':Nat} (I:Inv X pins σ H s) (hH:H l=some (.lst xs))
  (e:s.heap.get? l=some { cls:=.type "list",data:=.seq its.toArray n }) (hf:f its.toArray=its'.toArray) (hv:ak ys its') (hz:ys.length≤sizeLine):
  Inv X pins σ (upd H l (.lst ys)) { s with heap:=s.heap.update l (Obj.mapSeq f),toks:=t' }:=by
 have q:=PySem.IsL.update e f
 rw [hf] at q
 refine I.write (x:=l) (e:=l) (by rw [hH]; exact trivial) (.inl rfl) (fun b' u hb hu=> (Heap.get?_update_other s.heap (Obj.mapSeq f) (Ne.symm hb)).trans hu) ⟨_,q⟩ ?_
 exact ⟨hz,its',_,hv,q⟩
theorem Inv.lnew {its:List Value} {t':Nat} (I:Inv X pins σ H s) (hv:ak ys its) (hz:ys.length≤sizeLine):
  Inv X pins σ (upd H s.heap.objs.size (.lst ys)) { s with heap:=s.heap.push { cls:=.type "list",data:=.seq its.toArray },toks:=t' }:=
 I.laid (fun _ _ q=> Heap.get?_push_of_some _ q) (Nat.le_refl _) ⟨hz,its,0,hv,Heap.get?_push_size _ rfl⟩
theorem Inv.fresh (I:Inv X pins σ H s):H s.heap.objs.size=none:=I.hok.fresh (Nat.le_refl _)
theorem Inv.lstM (I:Inv X pins σ H s) (hH:H l=some (.lst xs)):xs.length≤sizeLine∧∃ (its:List Value) (n:Nat),ak xs its∧xs.length=its.length∧s.heap.get? l=some { cls:=.type "list",data:=.seq its.toArray n }:=by
 obtain ⟨z,its,n,r,e⟩:=I.hok l _ hH
 exact ⟨z,its,n,r,r.length,e⟩
theorem gW {n:Nat} (h:n≤sizeLine):Builtin.List.listTooLong n=false:=by
 unfold Builtin.List.listTooLong
 exact decide_eq_false (by omega)
end
section
variable {X:Cx}
def iG:V→List V→Hp→VK→Prop:=fun x vs H Q=> ∃ l xs y,x=.ref l∧vs=[y]∧H l=some (.lst xs)∧xs.length < sizeLine∧Q .non (upd H l (.lst (xs++[y])))
theorem dD:MtM X "list.append" iG:=by
 intro pins s σ H x vs v us Q I rx rv h
 obtain ⟨l,xs,y,rfl,rfl,hH,hz,q⟩:=h
 cases rx
 obtain ⟨u,rfl,ru⟩:=rv.one
 obtain ⟨z,its,n,r,hl,e⟩:=I.lstM hH
 refine call_meets F.slot_list_append ⟨_,e,rfl⟩ F.entry_list_append (F.args_list_append_2 _ _) (PySem.list_append l its.toArray n u (by rw [List.size_toArray]; omega)) ⟨e,?_⟩
 refine ⟨.non,_,I.lset (its':=its++[u]) hH e (by simp) (r.append (.cons ru .nil)) ?_,rfl,q⟩
 rw [List.length_append,List.length_singleton]
 omega
def kS:R2:=fun x y H Q=> ∃ l b xs zs,x=.ref l∧y=.ref b∧H l=some (.lst xs)∧H b=some (.lst zs)∧xs.length+zs.length≤sizeLine∧∀ p,H p=none→Q (.ref p) (upd H p (.lst (xs++zs)))
theorem jH:OpR X (binaryOp .Add) kS:=by
 intro pins s σ H x y v u Q I rx ry h
 obtain ⟨l,b,xs,zs,rfl,rfl,hH,hB,hz,q⟩:=h
 cases rx
 cases ry
 obtain ⟨z,its,n,r,hl,e⟩:=I.lstM hH
 obtain ⟨z2,its2,n2,r2,hl2,e2⟩:=I.lstM hB
 refine PySem.P.add_list e e2 ?_ (by rw [List.size_toArray,List.size_toArray]; omega)
 have ea:its.toArray++its2.toArray=(its++its2).toArray:=by simp
 rw [ea]
 exact ⟨.ref _,_,I.lnew (t':=s.toks) (r.append r2) (by rw [List.length_append]; omega),rfl,q _ I.fresh⟩
def kK:R2:=fun x y H Q=> ∃ l k xs,x=.ref l∧y=.int k∧H l=some (.lst xs)∧-(2 ^ 63)≤k∧k < 2 ^ 63∧xs.length * k.toNat≤sizeLine∧
 ∀ p,H p=none→Q (.ref p) (upd H p (.lst (List.replicate k.toNat xs).flatten))
theorem iD {α:Type} (xs:List α) (k:Nat):(List.replicate k xs).flatten.length=k * xs.length:=by
 induction k with
 | zero=> simp
 | succ k ih=> rw [List.replicate_succ,List.flatten_cons,List.length_append,ih,Nat.succ_mul,Nat.add_comm]
theorem ja:OpR X (binaryOp .Mult) kK:=by
 intro pins s σ H x y v u Q I rx ry h
 obtain ⟨l,k,xs,rfl,rfl,hH,h1,h2,hz,q⟩:=h
 cases rx
 obtain ⟨t,rfl⟩:=ry
 obtain ⟨z,its,n,r,hl,e⟩:=I.lstM hH
 have hlen:its.toArray.size * k.toNat≤sizeLine:=by rw [List.size_toArray,← hl]; exact hz
 have hcap:¬ its.toArray.size * k.toNat > (2 ^ 63 - 1) / 8:=by
  have:(sizeLine:Nat)≤(2 ^ 63 - 1) / 8:=by decide
  omega
 have hfit:¬ (!Builtin.List.listFitsIndex k)=true:=by
  rw [fitsIndex_both h1 h2]
  exact Bool.false_ne_true
 have hlong:¬ Builtin.List.listTooLong (its.toArray.size * k.toNat)=true:=by
  rw [gW hlen]
  exact Bool.false_ne_true
 have hnew:List.foldl (fun x1 x2=> x1++x2) #[] (List.replicate (if its.toArray.isEmpty=true then 0 else k.toNat) its.toArray)=(List.replicate k.toNat its).flatten.toArray:=by
  have f0:∀ m:Nat,List.foldl (fun x1 x2=> x1++x2) #[] (List.replicate m its.toArray)=(List.replicate m its).flatten.toArray:=fun m=> by
   have:=dy its m []
   rw [List.nil_append] at this
   exact this
  rw [f0]
  cases its with
  | nil=> simp
  | cons a r'=> rw [if_neg (by simp)]
 refine wpAny_binaryOp_repeat_ref (T:="list") (U:="int") (by decide) ⟨_,e,rfl⟩ (fun s'=> typeIs_int s' k t) noFill_list_mul F.fills_int_mul F.slot_int_rmul repeat_list F.slot_int_index.lookup
  (call_meets F.slot_int_rmul (typeIs_int s k t) F.entry_int_rmul (F.args_int_rmul_2 _ _) (int___rmul___int_list k t l its.toArray n)
   ⟨e,rfl,⟨_,e,rfl⟩,call_meets F.slot_list_mul ⟨_,e,rfl⟩ F.entry_list_mul (F.args_list_mul_2 _ _) (AutoListH.list___mul___list_int_3 l its.toArray n k t hfit hcap hlong) ⟨e,?_⟩⟩)
 rw [hnew]
 exact ⟨.ref _,_,I.lnew (t':=s.toks) (r.rep k.toNat) (by rw [iD,Nat.mul_comm]; exact hz),rfl,q _ I.fresh⟩
end
section
variable {prog:Program} {w:World} {A:Around} {E:Value→Shared→Prop} {s:Shared}
end
section
variable {X:Cx}
end
end L2
namespace Att
open PySem PySem.W PySem.Calls PyProof.Rows
theorem cI {P:Params} {h:Heap}:∀ (ns:List Int) (vs:List Value),WellAll P h vs (ns.map WData.int)→IntsAre vs ns:=by
 intro ns
 induction ns with
 | nil=>
  intro vs w
  rw [List.map_nil] at w
  cases w
  exact .nil
 | cons n ns ih=>
  intro vs w
  rw [List.map_cons] at w
  cases w with
  | cons a b=>
   cases a
   exact .cons _ _ (ih _ b)
theorem script_of {l:OpenLaw} {n:Nat} (hn:l.most=some n) {P:Params} {h:Heap} {args:List WData} {vals:List Value}
  (hpre:l.row.toRowW.claim.pre args=true) (hwl:WellAll P h vals args):
  ∃ a vs ns,vals=[Value.ref a]∧args=[WData.list (ns.map WData.int)]∧h.get? a=some { cls:=.type "list",data:=.seq vs.toArray }∧IntsAre vs ns∧ns.length≤n:=by
 have hsh:WShape.hasAll [] args [.list .int]=true:=(pre_splitW hpre).1
 have hc:l.pre.holds [] { args:=args }=true:=(pre_splitW hpre).2
 obtain ⟨d,r,rfl,h1,h2⟩:=hasAllW_cons hsh
 obtain rfl:=hasAllW_nil h2
 obtain ⟨xs,rfl,h3⟩:=hasW_list h1
 obtain ⟨ns,rfl⟩:=items_int h3
 have hlen:ns.length≤n:=by
  unfold OpenLaw.pre at hc
  have h4:(WTm.not (.lt (.lit (.int (n:Int))) (.len (.arg 0)))).holds [] { args:=[.list (ns.map .int)] }=true:=by
   have h4:=(holds_andW hc).1
   rw [hn] at h4
   exact h4
  have h5:=condW_of h4 (w_not (w_lt w_lit (w_len_list (w_arg rfl))))
  rw [List.length_map] at h5
  refine Nat.le_of_not_lt fun q=> ?_
  have q':(n:Int) < ((ns.length:Nat):Int):=by omega
  first
   | (rw [decide_eq_true q'] at h5; exact absurd h5 (by decide))
   | (simp at h5; omega)
 cases hwl with
 | cons w1 w2=>
  cases w2
  cases w1 with
  | list ho hall=> exact ⟨_,_,ns,rfl,rfl,ho,cI ns _ hall,hlen⟩
theorem post_true (l:OpenLaw) (args:List WData):l.row.toRowW.claim.post args (.bool true) args=true:=
 postW_of (r:=l.row.toRowW) (X:=(true==true))
  (show WShape.has [] (.bool true) .bool=true by first | rfl | decide | simp [WShape.has,WShape.arms,WShape.armsAll])
  (show (WTm.eq .res (.lit (.bool true))).value [] { args:=args,res:=some (.bool true),after:=args }=some (.bool (true==true)) from w_eq_bool (w_res rfl) w_lit) rfl
section
variable {prog:Program} {w:World} {A:Around} {E:Value→Shared→Prop} {s:Shared} {K:Frag}
end
end Att
namespace L2
open PySem PySem.Spec PyProof.Rows
theorem dw:∀ {vs:List Value} {ns:List Int},IntsAre vs ns→ak (ns.map V.int) vs
 | _,_,.nil=> .nil
 | _,_,.cons n t h=> .cons ⟨t,rfl⟩ (dw h)
def h_ (H:Hp):Prop:=∀ b,H b=none∨∃ o xs,H b=some (.frz o (.lst xs))
theorem gS {P:Program} {w:World} {K:PySem.W.Frag} {mg mb:Str→Option Value} {CX:CXT} {k:Nat} {fa a:Addr} {fd:FuncData} {x:Str} {sp:Sp} {s₁:Shared} {vs:List Value} {ns:List Int}
  (KX:K.In s₁.heap) (hns:s₁.heap.Ns mainGlobals mg) (hb:s₁.heap.Ns builtinsNs mb) (hbb:∀ x:Str,x≠"__name__"→mb x=bootBuiltins x) (hlim:s₁.heap.NoLimit) (hg:s₁.gens=#[])
  (ha:s₁.heap.get? a=some { cls:=.type "list",data:=.seq vs.toArray }) (hi:IntsAre vs ns) (hl:ns.length≤sizeLine) (hr:bx k callerA)
  (F:∀ base:Heap,K.In base→base.Ns mainGlobals mg→aZ P w K mg base CX k fa fd [x] sp) (hbind:∀ (s:Shared) (u:Value),BindsTo s fd ⟨[u],[]⟩ [(x,u)])
  (hsp:∀ H:Hp,h_ H→SqL K H a (ns.map V.int)→sp [.ref a] H (fun v _=> v=.bl true) fun _ _ _=> False)
  (hCX:∀ H e s',CX [] H s₁ (fun _ _ _=> False) e s'→False):
  codeAny (model P w) callerA (.call (.ref fa) ⟨[.ref a],[]⟩) (fun r s'=> r=.ok (.ret (.bool true))∧OldK s₁.heap s'.heap∧s'.os=s₁.os∧AllBare s'.gens) s₁:=by
 have rv:=dw hi
 have lenV:=hi.length
 have core:∀ H:Hp,h_ H→SqL K H a (ns.map V.int)→HOk P w H s₁.heap→(∀ b,H b≠none→b=a)→(H a≠none→K.lookup a=none)→
   codeAny (model P w) callerA (.call (.ref fa) ⟨[.ref a],[]⟩) (fun r s'=> r=.ok (.ret (.bool true))∧OldK s₁.heap s'.heap∧s'.os=s₁.os∧AllBare s'.gens) s₁:=by
  intro H hO hS hok hA hK
  have base_of:∀ {b:Addr} {o:Obj},s₁.heap.get? b=some o→H b=none→(dJ s₁.heap H).get? b=some o:=fun e n=> gm e n
  have noA:∀ {b:Addr} {o:Obj} {es:Array DictEntry} {ep:Nat},s₁.heap.get? b=some o→o.data=.dict es ep→H b=none:=fun {b o es ep} e d=> by
   cases q:H b with
   | none=> rfl
   | some u=>
    have e':b=a:=hA b (by rw [q]; simp)
    subst e'
    rw [ha] at e; cases e
    have d':Data.seq vs.toArray _=Data.dict es ep:=d
    cases d'
  have nsK:∀ {b:Addr} {m:Str→Option Value},s₁.heap.Ns b m→(dJ s₁.heap H).Ns b m:=fun {b m} ⟨o,es,ep,e,d,r⟩=> ⟨o,es,ep,base_of e (noA e d),d,r⟩
  have hKb:K.In (dJ s₁.heap H):=fun b o e=> base_of (KX b o e) (by
   cases q:H b with
   | none=> rfl
   | some u=>
    have e':b=a:=hA b (by rw [q]; simp)
    subst e'
    rw [hK (by rw [q]; simp)] at e; cases e)
  have hM:Mod K mg (dJ s₁.heap H):=⟨hKb,nsK hns,⟨mb,nsK hb,hbb⟩,let ⟨mc,h1,h2⟩:=hlim; ⟨mc,nsK h1,h2⟩⟩
  have e0:hU P w K mg (dJ s₁.heap H) callerA [] s₁ H:=⟨rfl,hM,fun b o e=> hJ e,Nat.le_of_eq (fO _ _),trivial,fun b hb=> absurd (show b∈([]:List Addr) from hb) (by simp),hok,.of_eq hg⟩
  refine codeAny_mono ((F _ hKb (nsK hns)).run callerA [] s₁ H ⟨[.ref a],[]⟩ [.ref a] [.ref a] _ _ hr e0 (hbind s₁ (.ref a)) (.cons rfl .nil) (hsp H hO hS)) fun r s' h=> ?_
  cases r with
  | error e=> exact (hCX H e s' h).elim
  | ok fl=>
   cases fl with
   | next=> exact False.elim h
   | brk=> exact False.elim h
   | cont=> exact False.elim h
   | ret u=>
    obtain ⟨v,H',os,bare,un,hok',r',q⟩:=h
    have q':v=.bl true:=q
    subst q'
    obtain rfl:u=Value.bool true:=r'
    refine ⟨rfl,OldK.of_keep fun b o e=> ?_,os,bare⟩
    cases q:H b with
    | none=> exact un.keep b o e q (by intro z; exact absurd (show b∈([]:List Addr) from z) (by simp)) (by simp)
    | some u=>
     rcases hO b with z | ⟨ob,xs,z⟩
     ·rw [q] at z; cases z
     ·have z2:=un.frzs b ob _ z
      obtain ⟨e1,_⟩:=hok b _ z
      obtain ⟨e2,_⟩:=hok' b _ z2
      rw [e] at e1; cases e1
      exact e2
 cases hk:K.lookup a with
 | some o=>
  have e:=KX a o hk
  rw [ha] at e
  cases e
  refine core (fun _=> none) (fun _=> .inl rfl) (.inr ⟨_,vs.toArray,_,hk,rfl,rfl,rfl,by rw [List.size_toArray,lenV]; exact hl,by simpa using rv⟩) (fun b u z=> by have z':(none:Option HO)=some u:=z; cases z') (fun b z=> absurd rfl z) fun z=> absurd rfl z
 | none=>
  refine core (fun b=> if b=a then some (.frz { cls:=.type "list",data:=.seq vs.toArray } (.lst (ns.map V.int))) else none) (fun b=> ?_) (.inl (.inr ⟨{ cls:=.type "list",data:=.seq vs.toArray },if_pos rfl⟩)) (fun b u z=> ?_) (fun b z=> ?_) fun _=> hk
  ·by_cases hb:b=a
   ·exact .inr ⟨_,_,if_pos hb⟩
   ·exact .inl (if_neg hb)
  ·by_cases hb:b=a
   ·have z':=(if_pos hb).symm.trans z
    cases z'
    subst hb
    exact ⟨ha,by rw [List.length_map]; exact hl,vs,_,rv,ha⟩
   ·have z':=(if_neg hb).symm.trans z
    cases z'
  ·by_cases hb:b=a
   ·exact hb
   ·exact absurd (if_neg hb) z
end L2
namespace L2
open PySem PySem.Spec PyProof.Rows
abbrev KOf {K:PySem.W.Frag} {h:Heap} (_:K.In h):PySem.W.Frag:=K
end L2
/- THE LAST THEOREM (shape; LID,My.* are yours):
   My.Adr:a structure of the addresses that your layer names (classes,functions); My.Txt K t:a structure (Prop) of the equations over K;
   My.txt_mk:{K} {implicit addresses ..} (e1:nsIn K mainGlobals "law"=some (some (.ref f))) (e2:K.lookup f=some ⟨oc,od,.func (fnOf "law" "law" params body scope dV kV doc pm an cdv ct),sl⟩) (e3:codeIn K cdv "law"=true) ..:∃ t,My.Txt K t
set_option maxRecDepth 100000 in
set_option maxHeartbeats 0 in
theorem PySem.Challenge.cw_LID_holds : PySem.Challenge.rw_LID.Holds := by
 w_on; o_law; k_head; (case hw=> w_witness2)
 k_fill
 refine L2.walk_of (l:=PySem.Challenge.rw_LID) (n:=63) (k:=40) (x:="script") (CX:=fun w=> ..) (sp:=fun _=> My.sp_law) rfl (by decide) rfl ⟨rfl,by decide,by decide⟩ (fun w h Y=> PySem.W.kIn_of Y) ?F ?S ?C
 case F=>
  intro w mg fa h KX G hmg
  have T:∃ t,My.Txt (L2.KOf KX) t:=by
   dsimp only [L2.KOf]                          -- K must stand as «<heap const> w.params» for k_is
   refine' My.txt_mk ?e1 ?e2 ?e3 ..
   (case e1=> PySem.W.k_is)                    -- in the order:a name -> its address -> its object -> its parts
   (case e2=> PySem.W.k_is)
   ..
  obtain ⟨t,T⟩:=T
  have e0:=hmg.symm.trans (PySem.W.mg_of KX G T.law)
  cases e0                                       -- fa is the law's own address
  exact ⟨_,fun s u=> .of_eq rfl,fun base kb nb=> My.law_fn T kb nb⟩     -- if «.of_eq rfl» comes too early:refine' ⟨_,?b,fun base kb nb=> My.law_fn T kb nb⟩; exact fun s u=> .of_eq rfl
 case S=> exact fun w H a ns hl hO hS=> ..
 case C=> exact ..
(the tactic k_is has no namespace:write k_is) -/
namespace L2
open PySem PySem.Spec PyProof.Rows
def az (s:Stmt):Arguments:=match s with
 | .FunctionDef _ a _ _ _ _ _ _ _ _=> a
 | _=> { posonlyargs:=[],args:=[],vararg:=none,kwonlyargs:=[],kw_defaults:=[],kwarg:=none,defaults:=[] }
def aw (s:Stmt):List Stmt:=match s with
 | .FunctionDef _ _ b _ _ _ _ _ _ _=> b
 | _=> []
def ag (s:Stmt):Scope:=match s with
 | .FunctionDef _ _ _ _ _ _ sc _ _ _=> sc
 | _=> { kind:=.function,names:=[],isGenerator:=false,isCoroutine:=false }
abbrev CX0:CXT:=fun _ _ _ _ _ _=> False
abbrev E0:XK:=fun _ _ _=> False
structure Fun (K:PySem.W.Frag) (x qual:Str) (st:Stmt) (f:Addr) (fd:FuncData):Prop where
 ex:∃ (oc:Value) (od:Option Addr) (kV doc pm:Value) (an:Option Addr) (cdv ct:Value) (osl:Array (Option Value)),
  fd=PySem.W.fnOf x qual (az st) (aw st) (ag st) .none kV doc pm an cdv ct∧K.lookup f=some ⟨oc,od,.func fd,osl⟩∧PySem.W.codeIn K cdv qual=true
 kp:PySem.W.keepIn K (.ref f)=true
section
variable {P:Program} {w:World} {K:PySem.W.Frag} {mg:Str→Option Value} {base:Heap}
theorem Fun.binds {x qual:Str} {st:Stmt} {f:Addr} {fd:FuncData} {ps:List Str} (F:Fun K x qual st f fd)
  (h:∀ (kV doc pm:Value) (an:Option Addr) (cdv ct:Value) (us:List Value),us.length=ps.length→bindArgs (PySem.W.fnOf x qual (az st) (aw st) (ag st) .none kV doc pm an cdv ct) ⟨us,[]⟩=pure (ps.zip us)):aT K fd ps []:=by
 obtain ⟨oc,od,kV,doc,pm,an,cdv,ct,osl,rfl,lk,hcd⟩:=F.ex
 exact .all (h kV doc pm an cdv ct)
theorem bn {x qual:Str} {st:Stmt} {f:Addr} {oc:Value} {od an:Option Addr} {osl:Array (Option Value)} {kV doc pm cdv ct:Value} (l:K.lookup f=some ⟨oc,od,.func (PySem.W.fnOf x qual (az st) (aw st) (ag st) .none kV doc pm an cdv ct),osl⟩)
  (c:PySem.W.codeIn K cdv qual=true) (k:PySem.W.keepIn K (.ref f)=true):Fun K x qual st f (PySem.W.fnOf x qual (az st) (aw st) (ag st) .none kV doc pm an cdv ct):=⟨⟨oc,od,kV,doc,pm,an,cdv,ct,osl,rfl,l,c⟩,k⟩
end
theorem aq {n:Nat} (h:n≤1000):n < sizeLine:=Nat.lt_of_le_of_lt h (by decide)
section
variable {X:Cx}
end
theorem fC {A B:Prop} (h:B):if false=true then A else B:=by
 rw [if_neg Bool.false_ne_true]
 exact h
theorem fZ {A B:Prop} (h:A):if true=true then A else B:=by
 rw [if_pos rfl]
 exact h
def al (H H':Hp):Prop:=∀ b o,H b=some o→H' b=some o
theorem al.refl (H:Hp):al H H:=fun _ _ h=> h
theorem al.trans {H H1 H2:Hp} (a:al H H1) (b:al H1 H2):al H H2:=fun c o h=> b c o (a c o h)
theorem al.free {H H':Hp} (e:al H H') {l:Addr} (h:H' l=Option.none):H l=Option.none:=by
 cases q:H l with
 | none=> rfl
 | some o=>
  rw [e l o q] at h
  cases h
theorem al.seq {K:PySem.W.Frag} {H H':Hp} {a:Addr} {xs:List V} (e:al H H') (h:SqL K H a xs):SqL K H' a xs:=by
 rcases h with (h | ⟨o,h⟩) | h
 ·exact .inl (.inl (e _ _ h))
 ·exact .inl (.inr ⟨o,e _ _ h⟩)
 ·exact .inr h
end L2
namespace L2
open PySem PySem.Spec PyProof.Rows
def Sz (m:Nat) (x:Int):Prop:=x.natAbs < 2 ^ m
theorem Sz.mono {m n:Nat} {x:Int} (h:Sz m x) (hmn:m≤n):Sz n x:=Nat.lt_of_lt_of_le h (Nat.pow_le_pow_right (by decide) hmn)
theorem Sz.mul {m n:Nat} {x y:Int} (hx:Sz m x) (hy:Sz n y):Sz (m+n) (x * y):=by
 unfold Sz at *
 rw [Int.natAbs_mul,Nat.pow_add]
 exact Nat.mul_lt_mul'' hx hy
theorem Sz.le {m:Nat} {x y:Int} (h:x.natAbs≤y.natAbs) (hy:Sz m y):Sz m x:=Nat.lt_of_le_of_lt h hy
instance (m:Nat) (x:Int):Decidable (Sz m x):=inferInstanceAs (Decidable (x.natAbs < 2 ^ m))
theorem Sz.lit {m:Nat} {x:Int} (h:Sz m x):Sz m x:=h
theorem Sz.ok {m n:Nat} {x y:Int} (hx:Sz m x) (hy:Sz n y) (h:m+n≤134217728):IntMulOk x y:=
 PyProof.Rows.mulOk_of_bits (intBits_le_iff.mpr hx) (intBits_le_iff.mpr hy) h
theorem Sz.log {m:Nat} {x:Int} (h:Sz m x) (hm:m≤9000) (h0:x≠0):x.natAbs.log2 < 9000:=by
 have q:=(Nat.log2_lt (by omega)).mpr (show x.natAbs < 2 ^ m from h)
 omega
def iY (_ j:Int):Prop:=0 < j∧Sz 9000 j
section
variable {X:Cx} {a b c:Expr} {ta tb tc:TE} {pos:Pos}
theorem ip:OpR X (binaryOp .Mult) (rI IntMulOk fun i j=> .int (i * j)):=opI fun _ _ _ _ _ _ _ hc q=> mul_int q hc
theorem g6:OpR X (binaryOp .FloorDiv) (rI iY fun i j=> .int (i / j)):=opI fun i j _ _ _ _ _ hc q=> by
 have h1:(0:Int) < j:=hc.1
 exact floordiv_int (by omega) (by rw [Int.fdiv_eq_ediv_of_nonneg i (by omega)]; exact q) (.inl (PyProof.noPylong_of_log2 (hc.2.log (by decide) (by omega))))
theorem jV {x:Str} {n:String} {pos:Pos} (hg:Gl X x) (hm:X.mg x=none) (hv:bootBuiltins x=some (.type n)) (hn:x≠"__name__":=by decide) (hd:(x==("__debug__":Str))=false:=by decide):PE X (.Name x pos) (tC (.ty n)):=
 im hg hm hv rfl hn hd
end
section
variable {X:Cx}
end
theorem kit_int_int (K:PySem.W.Frag):PySem.W.kitOne K (.type "int") (.type "int")=some true:=rfl
theorem kit_int_bool (K:PySem.W.Frag):PySem.W.kitOne K (.type "int") (.type "bool")=some false:=rfl
theorem kit_bool_int (K:PySem.W.Frag):PySem.W.kitOne K (.type "bool") (.type "int")=some true:=rfl
theorem kit_list_list (K:PySem.W.Frag):PySem.W.kitOne K (.type "list") (.type "list")=some true:=rfl
section
variable {X:Cx} {tg:Expr}
end
theorem aE {H:Hp} {p:Addr} (h:H p=none) (o:HO):al H (upd H p o):=fun b u q=> by rw [au (ay q h)]; exact q
theorem al.put {H H':Hp} {l:Addr} (e:al H H') (h:H l=none) (o:HO):al H (upd H' l o):=fun b u q=> by rw [au (ay q h)]; exact e b u q
theorem al.tup {K:PySem.W.Frag} {H H':Hp} {a:Addr} {xs:List V} (e:al H H') (h:SqT K H a xs):SqT K H' a xs:=by
 rcases h with (h | ⟨o,h⟩) | h
 ·exact .inl (.inl (e _ _ h))
 ·exact .inl (.inr ⟨o,e _ _ h⟩)
 ·exact .inr h
end L2
namespace L2
open PySem PySem.W PySem.Calls PySem.Spec PyProof.Rows
theorem eg {ns:List Int} (h:WData.layableAll [WData.list (ns.map WData.int)]=true):∀ n∈ns,Sz 1048576 n:=by
 intro n hn
 have h1:=(PySem.W.layableW_arg h) _ (List.mem_singleton.mpr rfl)
 have h2:=PySem.W.layableW_item h1 (WData.int n) (List.mem_map.mpr ⟨n,hn,rfl⟩)
 have h3:=(PySem.W.layableW_iff.mp h2).2.2
 have h4:Builtin.Int.intBits n≤1048576:=by simpa only [WData.weight,Builtin.Int.intBits] using h3
 exact intBits_le_iff.mp h4
theorem dR {l:PySem.W.OpenLaw} {n:Nat} {q:Program} {loose:List Str} {XP:(Str→Option Value)→Heap→Prop} {YP:World→Heap→Prop} {d:DefRec}
  (hn:l.most=some n) (hdf:d.params.defaults=[])
  (call:∀ (w:World) (s₀ s₁:Shared) (mg mb:Str→Option Value) (fa:Addr) (o:Obj) (pm cd doc:Value) (a:Addr) (vs:List Value) (ns:List Int),
   PySem.W.Ground q loose [] XP w s₀ mg mb s₁.heap→YP w s₁.heap→
   s₁.heap.get? fa=some o→o.data=.func (docDef d.name d.params d.body d.scope pm cd doc)→s₁.heap.CodeRec cd d.name→mg d.name=some (.ref fa)→
   s₁.heap.get? a=some { cls:=.type "list",data:=.seq vs.toArray }→IntsAre vs ns→ns.length≤n→(∀ m∈ns,Sz 1048576 m)→s₁.gens=#[]→
   codeAny (model l.prog w) callerA (.call (.ref fa) ⟨[.ref a],[]⟩) (fun r s'=> r=.ok (.ret (.bool true))∧OldK s₁.heap s'.heap∧s'.os=s₁.os∧AllBare s'.gens) s₁):
  PySem.W.WalkO q loose XP YP l.row.toRowW d [] (fun f vs=> PySem.call f vs):=by
 intro w s₀ s₁ mg mb G Y fa o pm cd doc dV kV ho hd hcd hD hmg hg args vals as hpre hlay hrd hwl hlo
 obtain rfl:dV=.none:=PySem.W.Dflts.none hD hdf
 obtain rfl:kV=.none:=PySem.W.Dflts.noKw hD
 obtain ⟨a,vs,ns,rfl,rfl,hobj,hints,hlen⟩:=Att.script_of hn hpre hwl
 refine PySem.W.enter_call (codeAny_mono (call w s₀ s₁ mg mb fa o pm cd doc a vs ns G Y ho (PySem.W.fd_plain hd) hcd hmg hobj hints hlen (eg hlay) hg) fun r s' hq=> ?_)
 obtain ⟨rfl,h2,h3,h4⟩:=hq
 exact ⟨.inl ⟨.bool true,.bool true,[],rfl,fun _=> rfl,.bool true,Att.post_true l _,fun _=> ⟨List.Pairwise.nil,fun _ hm=> (nomatch hm)⟩⟩,h2,h3,h4⟩
theorem walk_ofB {l:PySem.W.OpenLaw} {n k:Nat} {q:Program} {loose:List Str} {XP:(Str→Option Value)→Heap→Prop} {YP:World→Heap→Prop} {d:DefRec} {K:Params→PySem.W.Frag} {CX:CXT} {sp:PySem.W.Frag→Sp} {x:Str}
  (hn:l.most=some n) (hn2:n≤sizeLine) (hdf:d.params.defaults=[]) (hr:bx k callerA)
  (hY:∀ (w:World) (h:Heap),YP w h→(K w.params).In h)
  (F:∀ (w:World) (mg:Str→Option Value) (fa:Addr) (h:Heap),(K w.params).In h→h.Ns mainGlobals mg→mg d.name=some (.ref fa)→
   ∃ fd:FuncData,(∀ (s:Shared) (u:Value),BindsTo s fd ⟨[u],[]⟩ [(x,u)])∧
    ∀ base:Heap,(K w.params).In base→base.Ns mainGlobals mg→aZ l.prog w (K w.params) mg base CX k fa fd [x] (sp (K w.params)))
  (hsp:∀ (K:PySem.W.Frag) (H:Hp) (a:Addr) (ns:List Int),ns.length≤n→(∀ m∈ns,Sz 1048576 m)→h_ H→SqL K H a (ns.map V.int)→sp K [.ref a] H (fun v _=> v=.bl true) fun _ _ _=> False)
  (hCX:∀ (H:Hp) (s:Shared) (e:Value) (s':Shared),CX [] H s (fun _ _ _=> False) e s'→False):
  PySem.W.WalkO q loose XP YP l.row.toRowW d [] (fun f vs=> PySem.call f vs):=by
 refine dR hn hdf fun w s₀ s₁ mg mb fa o pm cd doc a vs ns G Y ho hd hcd hmg hobj hints hlen hbits hg=> ?_
 have KX:=hY w _ Y
 obtain ⟨fd,hb,hF⟩:=F w mg fa _ KX G.T.g hmg
 exact gS KX G.T.g G.T.b G.T.builtins G.T.nolimit hg hobj hints (Nat.le_trans hlen hn2) hr hF hb (fun H hO hS=> hsp _ H a ns hlen hbits hO hS) fun H e s'=> hCX H s₁ e s'
end L2
namespace L2
theorem i3 {α:Type} {xs:List α} {k:Int} {i:Nat} {v:α} (e:k=(i:Int)) (h:xs[i]?=some v):atI xs k=some v:=by subst e; exact fB h
end L2
namespace L2
theorem Sz.natle {m:Nat} {x y:Int} (hy:Sz m y) (h:x.natAbs≤y.natAbs):Sz m x:=Sz.le h hy
end L2
namespace L2
open PySem PySem.Spec PyProof.Rows
abbrev aM (X:Cx) (scope:Scope) (cl:List (Str×Addr)) (C:Addr) (s:Shared) (H:Hp) (fp:List Addr):Cx:=
 { X with s₀:=s,H₀:=H,env:=compEnvC scope cl C X.env,outer:=X.stack,ex:=fp,fn:=fun _=> false,pn:=[],xe:=fun _ _=> False }
def mask:List Nat→St→St
 | [],σ=> σ
 | i::is,σ=> mask is (σ.set i none)
theorem dc:∀ (is:List Nat) (σ:St),(mask is σ).length=σ.length
 | [],_=> rfl
 | i::is,σ=> by rw [mask,dc is]; simp
theorem cV:∀ (is:List Nat) (σ:St) (j:Nat) (v:V),(mask is σ)[j]?=some (some v)→σ[j]?=some (some v)∧j ∉ is
 | [],σ,j,v,h=> ⟨h,by simp⟩
 | i::is,σ,j,v,h=> by
  obtain ⟨h1,h2⟩:=cV is _ j v h
  by_cases e:i=j
  ·subst e
   rw [List.getElem?_set] at h1
   simp at h1
  ·rw [List.getElem?_set_ne e] at h1
   exact ⟨h1,by simp [Ne.symm e,h2]⟩
structure cy (X:Cx) (scope:Scope) (cl:List (Str×Addr)) (is:List Nat):Prop where
 clos:closureFor scope X.env=pure cl
 cell:∀ y∈scope.names,y.2≠.cell
 kind:scope.kind=.function
 names:∀ y∈scope.names,y.2=.local→scope.names.lookup y.1=some .local
 cls:∀ x c,cl.lookup x=some c→X.env.cells.lookup x=some c
 free:∀ x,((relabel scope X.env).names.lookup x=some .cell∨(relabel scope X.env).names.lookup x=some .free)→Vis X.env.scope x∧X.env.scope.names.lookup x≠some .local∧∃ c,cl.lookup x=some c
 own:∀ i x,X.N[i]?=some x→(relabel scope X.env).names.lookup x=some .local→i∈is
def gT (J:It) (is:List Nat) (g:TG) (te:TE) (σ:St) (H1:Hp) (l:Addr) (Q:VK):Prop:=
 ∃ W:Nat→Nat→Hp→Prop,(∃ m,W 0 m (upd H1 l (.lst [])))∧∀ i m H2,W i m H2→
  (J.stop i H2∧Q (.ref l) H2)∨(J.go i H2∧∀ x H3,J.yld i H2 x H3→g x (mask is σ) H3 fun σ4 H4=> te σ4 H4 fun y H5=>
   (∀ (j:Nat) (v:V),(mask is σ)[j]?=some (some v)→σ4[j]?=some (some v))∧∃ vs,H5 l=some (.lst vs)∧vs.length < sizeLine∧∃ m',m' < m∧W (i+1) m' (upd H5 l (.lst (vs++[y]))))
def iO (is:List Nat) (g:TG) (te:TE) (σ:St) (Q:VK) (J:It) (H1:Hp):Prop:=∀ l,H1 l=none→gT J is g te σ H1 l Q
def iM (is:List Nat) (wi:TI) (g:TG) (te:TE):TE:=fun σ H Q=> wi σ H (iO is g te σ Q)
section
variable {X:Cx} {pins:List (Addr×Obj)} {σ:St} {H:Hp} {s:Shared}
theorem eH {scope:Scope} {cl:List (Str×Addr)} {is:List Nat} {fp:List Addr} {h₁:Heap} {m:Str→Option Value} {t':Nat} (I:Inv X pins σ H s) (B:cy X scope cl is) (hf:∀ b∈fp,dO X pins H b) (hfl:∀ b∈fp,b < s.heap.objs.size)
  (hn:h₁.Ns s.heap.objs.size m) (hk:∀ b o,s.heap.get? b=some o→h₁.get? b=some o):
  Inv (aM X scope cl s.heap.objs.size s H fp) [] (mask is σ) H { s with heap:=h₁,toks:=t' }:=by
 refine ⟨⟨I.ok.mod,B.kind,I.ok.glob,I.ok.blt,Nat.le_refl _,fun x y c h1 h2=> I.ok.inj x y c (B.cls x c h1) (B.cls y c h2),fun x hx=> (B.free x hx).2.2,fun x c h=> (by cases h),I.ok.hd,I.ok.frames,.inl rfl,fun b hb=> ⟨Nat.ne_of_lt (hfl b hb),fun x c e=> (hf b hb).2.2.2.2.1 x c (B.cls x c e)⟩,
  I.bs,Nat.le_trans I.ok.bsz I.sz,fun b o e hb=> ?_,fun b hb z=> ?_,I.stack,I.stkFree⟩,rfl,I.bare,Un.kept hk,⟨m,hn,fun i x v h1 h2 h3=> ?_⟩,fun x c e=> ?_,I.hok.fresh (Nat.le_refl _),fun x c e=> I.freeC x c (B.cls x c e),fun p hp=> absurd (show p∈([]:List (Addr×Obj)) from hp) (by simp),I.hok.kept hk,?_⟩
 ·rcases (hf b hb).2.2.2.1 with z | z
  ·exact I.ok.noex b o e z
  ·exact absurd (Nat.lt_of_lt_of_le (Heap.lt_size e) (Nat.le_trans I.ok.bsz z)) (Nat.lt_irrefl _)
 ·rcases List.mem_cons.mp (I.stkSub b z) with e | e
  ·exact (hf b hb).2.1 e
  ·exact (hf b hb).2.2.1 e
 ·obtain ⟨e2,ni⟩:=cV is σ i v h2
  have h3':(relabel scope X.env).names.lookup x=some .local∨(relabel scope X.env).names.lookup x=some .cell∨(relabel scope X.env).names.lookup x=some .free:=h3
  rcases h3' with z | z
  ·exact absurd (B.own i x h1 z) ni
  ·obtain ⟨hv,hnl,c,hc⟩:=B.free x z
   obtain ⟨m0,_,hl⟩:=I.loc
   obtain ⟨u,r,l⟩:=hl i x v h1 e2 hv
   refine ⟨u,r,.inr ⟨z,c,hc,?_⟩⟩
   rcases l with ⟨k,_⟩ | ⟨_,c',hc',o,ho,hd⟩
   ·exact absurd k hnl
   ·have ec:=B.cls x c hc
    rw [hc'] at ec
    cases ec
    exact ⟨o,hk _ _ ho,hd⟩
 ·obtain ⟨v,o,ho,hd⟩:=I.cell x c (B.cls x c e)
  exact ⟨v,o,hk _ _ ho,hd⟩
 ·show (mask is σ).length=X.N.length
  rw [dc]; exact I.len
theorem g8 {elt iter tg:Expr} {scope:Scope} {cl:List (Str×Addr)} {pos pos0:Pos} {is:List Nat} {wi:TI} {g:TG} {te:TE} {use:Option (Value→Sem Unit)} {Q0:VK} {Q:Value→Shared→Prop} (hc:X.calm=true) (B:cy X scope cl is)
  (hi:PI X tg iter wi) (hg:∀ C s H fp,PG (aM X scope cl C s H fp) tg g) (he:∀ C s H fp,PE (aM X scope cl C s H fp) elt te) (hs:∀ x,foldedSetIterable iter X.env x=pure x)
  (I:Inv X pins σ H s) (h:iM is wi g te σ H Q0)
  (fin:∀ (l C:Addr) (H':Hp) (s':Shared) (m:Str→Option Value),Inv X pins σ H' s'→s'.heap.Ns C m→H' C=none→C≠X.env.locals→C ∉ X.fs→X.s₀.heap.objs.size≤C→(∀ x c,X.env.cells.lookup x=some c→c≠C)→(∀ p∈X.pn++pins,p.1≠C)→Q0 (.ref l) H'→
   compPost (model X.prog X.w) X.A X.xe use Q (.ref l) C (.ok .next) s'):
  wpAny (model X.prog X.w) X.A (comprehension (.ListComp elt [⟨tg,iter,[],0⟩] scope pos) scope X.env pos0 (newList []) false (eval iter X.env) use) Q X.xe s:=by
 refine wpAny_comprehension_free rfl hs B.clos B.kind B.names (thn (hi pins s σ H _ I h) fun xv s1 h1=> thn h1 fun itv s2 h2=> ?_)
 obtain ⟨it,fp,tn,J,H2,e,I2,T,st2,f2,R⟩:=h2
 subst e
 refine wpAny_newObj_type (wpAny_newFunctionEnv B.cell (by intro y hy; simp at hy) (fun h₁ hns hsb=> ?_) B.kind)
 have hl:H2 s2.heap.objs.size=none:=I2.hok.fresh (Nat.le_refl _)
 obtain ⟨W,⟨m0,w0⟩,turn⟩:=R s2.heap.objs.size hl
 have I3:Inv X pins σ (upd H2 s2.heap.objs.size (.lst [])) { s2 with heap:=s2.heap.push { cls:=.type "list",dict:=none,data:=.seq ([]:List Value).toArray } }:=
  I2.laid (t':=s2.toks) (o:=.lst []) (fun b u e=> Heap.get?_push_of_some _ e) (Nat.le_refl _) ⟨Nat.zero_le _,[],0,.nil,Heap.get?_push_size _ rfl⟩
 have hfl:∀ b∈fp,b < s2.heap.objs.size:=fun b hb=> let ⟨o,e,_⟩:=T.obj 0 _ st2 b hb; Heap.lt_size e
 have f3:∀ b∈fp,dO X pins (upd H2 s2.heap.objs.size (.lst [])) b:=fun b hb=> ⟨by rw [au (Nat.ne_of_lt (hfl b hb))]; exact (f2 b hb).1,(f2 b hb).2⟩
 have kp:∀ b o,(s2.heap.push { cls:=.type "list",dict:=none,data:=.seq ([]:List Value).toArray }).get? b=some o→h₁.get? b=some o:=fun b o e=>
  hsb.extBut b o (Nat.ne_of_lt (Heap.lt_size e)) (Heap.get?_push_of_some _ e)
 have st4:tn 0 h₁:=T.keep 0 _ _ st2 fun b _ o e=> kp b o (Heap.get?_push_of_some _ e)
 have hfl3:∀ b∈fp,b < (s2.heap.push { cls:=.type "list",dict:=none,data:=.seq ([]:List Value).toArray }).objs.size:=fun b hb=> by
  rw [Heap.size_push]; exact Nat.lt_succ_of_lt (hfl b hb)
 have I4:=eH (t':=s2.toks+([]:List (Str×Value)).length) I3 B f3 hfl3 hns kp
 have loop:codeAny (model X.prog X.w) X.A (.compLoop (.ListComp elt [⟨tg,iter,[],0⟩] scope pos) 0 (.ref it) (.ref s2.heap.objs.size) (compEnvC scope cl (s2.heap.push { cls:=.type "list",dict:=none,data:=.seq ([]:List Value).toArray }).objs.size X.env))
   (compPost (model X.prog X.w) X.A X.xe use Q (.ref s2.heap.objs.size) (s2.heap.push { cls:=.type "list",dict:=none,data:=.seq ([]:List Value).toArray }).objs.size)
   { s2 with heap:=h₁,toks:=s2.toks+([]:List (Str×Value)).length }:=by
  generalize hs3:({ s2 with heap:=s2.heap.push { cls:=.type "list",dict:=none,data:=.seq ([]:List Value).toArray } }:Shared)=s3 at *
  have hC:(s2.heap.push { cls:=.type "list",dict:=none,data:=.seq ([]:List Value).toArray }).objs.size=s3.heap.objs.size:=by rw [← hs3]
  rw [hC]
  have hstat:∀ {H':Hp},(∀ b∈fp,H' b=none)→∀ b∈fp,dO (aM X scope cl s3.heap.objs.size s3 (upd H2 s2.heap.objs.size (.lst [])) fp) [] H' b:=fun hn b hb=>
   ⟨hn b hb,(I4.ok.exf b hb).1,I4.ok.exfs b hb,.inl hb,fun x c e=> (I4.ok.exf b hb).2 x c e,fun p hp=> absurd (show p∈([]:List (Addr×Obj)) from hp) (by simp)⟩
  have back:∀ {σ':St} {H':Hp} {pp:List (Addr×Obj)} {s':Shared},Inv (aM X scope cl s3.heap.objs.size s3 (upd H2 s2.heap.objs.size (.lst [])) fp) pp σ' H' s'→Inv X pins σ H' s':=fun I'=>
   I3.call' (ch:=fp) I'.os I'.base I'.hok I'.bare fun b hb=> ⟨(f3 b hb).2.2.2.1,(f3 b hb).2.1,(f3 b hb).2.2.2.2.1,(f3 b hb).2.2.2.2.2⟩
  refine codeAny_loop rfl (fun n s'=> ∃ i H',Inv (aM X scope cl s3.heap.objs.size s3 (upd H2 s2.heap.objs.size (.lst [])) fp) [] (mask is σ) H' s'∧tn i s'.heap∧(∀ b∈fp,H' b=none)∧W i n H') ?_ m0 ⟨0,_,(by subst hs3; exact I4),st4,fun b hb=> (f3 b hb).1,w0⟩
  rintro n s5 ⟨i,H5,I5,st5,fr5,w5⟩
  show wpAny _ _ ((compTurn (.ListComp elt [⟨tg,iter,[],0⟩] scope pos) 0 (.ref it) (.ref s2.heap.objs.size) (compEnvC scope cl s3.heap.objs.size X.env)).onRaise (fun x=> do noteFrame x (compEnvC scope cl s3.heap.objs.size X.env); theTreesLotGoes x)) _ _ s5
  refine wpAny_noted ?_
  rw [compTurn_list1]
  refine wpAny_bind (wpAny_standAt (wpAny_bind ?_))
  rcases turn i n H5 w5 with ⟨stop,q⟩ | ⟨go,step⟩
  ·refine thn (T.done (aM X scope cl s3.heap.objs.size s3 (upd H2 s2.heap.objs.size (.lst [])) fp) rfl rfl rfl hc i [] s5 _ H5 _ I5 (hstat fr5) st5 stop) fun r s6 ⟨hr,I6⟩=> ?_
   subst hr
   refine wpAny_pure ?_
   obtain ⟨m6,hn6,_⟩:=I6.loc
   have hCn:∀ b,b < s3.heap.objs.size→b≠s3.heap.objs.size:=fun b hb=> Nat.ne_of_lt hb
   refine fin _ s3.heap.objs.size H5 s6 m6 (back I6) hn6 I6.free (Nat.ne_of_gt I3.lt) (I3.nofs (Nat.le_refl _)) I3.sz (fun x c e=> ?_) (fun p hp=> ?_) q
   ·obtain ⟨v,z⟩:=I3.cell x c e
    exact Nat.ne_of_lt z.lt
   ·exact Nat.ne_of_lt (Heap.lt_size (I3.pin p hp).1)
  ·refine thn (T.item (aM X scope cl s3.heap.objs.size s3 (upd H2 s2.heap.objs.size (.lst [])) fp) rfl rfl rfl hc i [] s5 _ H5 _ I5 (hstat fr5) st5 go) fun r s6 ⟨u,hr,h6⟩=> ?_
   subst hr
   refine wpAny_bind (thn h6 fun _ s7 ⟨x,H7,I7,r7,y7,st7,fr7⟩=> ?_)
   have I7':=I7.pinned (hstat fr7) (T.obj _ _ st7)
   refine wpAny_bind (wpAny_mono (hg _ _ _ _ _ s7 (mask is σ) H7 x u _ I7' r7 (step x H7 y7)) (fun _ s8 ⟨σ8,H8,I8,q8⟩=> ?_) fun _ _ z=> z.elim)
   refine wpAny_bind (wpAny_bind (wpAny_mono (he _ _ _ _ _ s8 σ8 H8 _ I8 q8) (fun v s9 ⟨y,H9,I9,r9,sub,vs,hl9,hz,m',hm,w'⟩=> ?_) fun _ _ z=> z.elim))
   refine wpAny_bind (wpAny_mono (dD (X:=aM X scope cl s3.heap.objs.size s3 (upd H2 s2.heap.objs.size (.lst [])) fp) _ s9 σ8 H9 (.ref s2.heap.objs.size) [y] (.ref s2.heap.objs.size) [v] (fun _ H'=> H'=upd H9 s2.heap.objs.size (.lst (vs++[y]))) I9 rfl (.cons r9 .nil) ⟨_,vs,y,rfl,rfl,hl9,hz,rfl⟩) (fun z s10 ⟨zv,H10,I10,_,e10⟩=> ?_) fun _ _ z=> z.elim)
   subst e10
   refine wpAny_pure (wpAny_pure ⟨rfl,m',hm,i+1,_,(I10.unpinned (pins:=[])).weak (by rw [I10.len,dc,I.len]) sub,T.keep _ _ _ st7 fun b hb o e=> (I10.pin (b,o) (List.mem_append_right _ (List.mem_append_right _ (bD hb e)))).1,fun b hb=> ?_,w'⟩)
   obtain ⟨o,e,d⟩:=T.obj _ _ st7 b hb
   exact (I10.pin (b,o) (List.mem_append_right _ (List.mem_append_right _ (bD hb e)))).2.1
 exact codeAny_compStart_list loop (T.self X.A 0 _ _ _ st4 loop)
theorem il {elt iter tg:Expr} {scope:Scope} {cl:List (Str×Addr)} {pos:Pos} {is:List Nat} {wi:TI} {g:TG} {te:TE} (hc:X.calm=true) (B:cy X scope cl is)
  (hi:PI X tg iter wi) (hg:∀ C s H fp,PG (aM X scope cl C s H fp) tg g) (he:∀ C s H fp,PE (aM X scope cl C s H fp) elt te) (hs:∀ x,foldedSetIterable iter X.env x=pure x:=by intro _; rfl):
  PE X (.ListComp elt [⟨tg,iter,[],0⟩] scope pos) (iM is wi g te):=by
 intro pins s σ H Q I h
 rw [eval_ListComp]
 refine g8 (use:=none) hc B hi hg he hs I h fun l C H' s' m I' hn h1 h2 h3 h4 h5 h6 q=> ⟨m,hn,fun h' hsb=> ?_⟩
 exact ⟨.ref l,H',I'.turned (t':=s'.toks) (fun b o hb e=> hsb.extBut b o hb e) h1 (Ne.symm h2.symm) (.inr h4) h5 h6,rfl,q⟩
end
end L2
namespace L2
open PySem PySem.Spec PyProof.Rows
section
variable {X:Cx}
end
section
variable {prog:Program} {w:World} {A:Around} {E:Value→Shared→Prop}
end
section
variable {X:Cx} {pos:Pos}
end
end L2
namespace L2
open PySem PySem.Spec PyProof.Rows
def goC (cells:List (Str×Addr)):List (Str×NameKind)→List (Str×Addr)→List (Str×Addr)
 | [],acc=> acc
 | (n,k)::r,acc=> goC cells r (if (k==.free)=true then (n,(cells.lookup n).getD 0)::acc else acc)
theorem eO {env:Env} {scope:Scope} (h:∀ y∈scope.names,y.2=.free→(env.cells.lookup y.1).isSome=true):closureFor scope env=pure (goC env.cells scope.names []):=by
 have all:∀ (names:List (Str×NameKind)) (acc:List (Str×Addr)),(∀ y∈names,y.2=.free→(env.cells.lookup y.1).isSome=true)→
   (forIn names acc (fun x cs=> match x with | (name,kind)=> if (kind==.free)=true then (do let c ← cellOf env name; pure (ForInStep.yield ((name,c)::cs))) else pure (ForInStep.yield cs)):Sem (List (Str×Addr)))=pure (goC env.cells names acc):=by
  intro names
  induction names with
  | nil=> intro acc _; rfl
  | cons y r ih=>
   intro acc hy
   obtain ⟨n,k⟩:=y
   rw [List.forIn_cons]
   by_cases hk:k=.free
   ·subst hk
    have:=hy (n,.free) List.mem_cons_self rfl
    obtain ⟨c,hc⟩:=Option.isSome_iff_exists.mp this
    have e:cellOf env n=pure c:=by unfold cellOf; rw [hc]
    simp only [beq_self_eq_true,if_true,e,pure_bind]
    rw [ih _ fun y hy'=> hy y (List.mem_cons_of_mem _ hy')]
    simp only [goC,beq_self_eq_true,if_true,hc,Option.getD_some]
   ·have hb:(k==NameKind.free)=false:=by simpa using hk
    simp only [hb,Bool.false_eq_true,if_false,pure_bind]
    rw [ih _ fun y hy'=> hy y (List.mem_cons_of_mem _ hy')]
    simp only [goC,hb,Bool.false_eq_true,if_false]
 simp only [closureFor]
 have:=all scope.names [] h
 simpa using this
theorem fv {cells:List (Str×Addr)}:∀ (names:List (Str×NameKind)) (acc:List (Str×Addr)),(∀ y∈names,y.2=.free→(cells.lookup y.1).isSome=true)→(∀ x c,acc.lookup x=some c→cells.lookup x=some c)→
  ∀ x c,(goC cells names acc).lookup x=some c→cells.lookup x=some c
 | [],_,_,ha,x,c,h=> ha x c h
 | (n,k)::r,acc,hy,ha,x,c,h=> by
  rw [goC] at h
  refine fv r _ (fun y hy'=> hy y (List.mem_cons_of_mem _ hy')) (fun x' c' e=> ?_) x c h
  by_cases hk:k=.free
  ·subst hk
   simp only [beq_self_eq_true,if_true] at e
   rw [List.lookup_cons] at e
   by_cases hx:(x'==n)=true
   ·rw [hx] at e
    have hx':x'=n:=by simpa using hx
    obtain ⟨c2,hc2⟩:=Option.isSome_iff_exists.mp (hy (n,.free) List.mem_cons_self rfl)
    simp only [hc2,Option.getD_some] at e
    rw [hx',hc2]; exact e
   ·have:(x'==n)=false:=by simpa using hx
    rw [this] at e
    exact ha x' c' e
  ·have hb:(k==NameKind.free)=false:=by simpa using hk
   rw [hb] at e
   exact ha x' c' e
theorem fq {cells:List (Str×Addr)} {x:Str}:∀ (names:List (Str×NameKind)) (acc:List (Str×Addr)),((x,NameKind.free)∈names∨∃ c,acc.lookup x=some c)→∃ c,(goC cells names acc).lookup x=some c
 | [],_,h=> by
  rcases h with h | h
  ·cases h
  ·exact h
 | (n,k)::r,acc,h=> by
  rw [goC]
  refine fq r _ ?_
  rcases h with h | ⟨c,h⟩
  ·rcases List.mem_cons.mp h with e | h
   ·cases e
    right
    simp
   ·exact .inl h
  ·right
   by_cases hk:k=.free
   ·subst hk
    simp only [beq_self_eq_true,if_true]
    rw [List.lookup_cons]
    cases hx:x==n with
    | true=> exact ⟨_,rfl⟩
    | false=> exact ⟨c,h⟩
   ·have hb:(k==NameKind.free)=false:=by simpa using hk
    rw [hb]; exact ⟨c,h⟩
theorem bc {env:Env} {x:Str} {kd:NameKind}:∀ {names:List (Str×NameKind)},
  (names.map fun (n,k)=> if (k==NameKind.free && env.scope.kind==.function && env.kindOf n==some .cell) then (n,NameKind.cell) else (n,k)).lookup x=some kd→names.lookup x=some kd∨(kd=.cell∧names.lookup x=some .free)
 | [],h=> by simp at h
 | (n,k)::r,h=> by
  have ih:=@bc env x kd r
  change List.lookup x ((if (k==NameKind.free && env.scope.kind==.function && env.kindOf n==some .cell)=true then (n,NameKind.cell) else (n,k))::_)=_ at h
  by_cases hc:(k==NameKind.free && env.scope.kind==.function && env.kindOf n==some .cell)=true
  ·rw [if_pos hc] at h
   rw [List.lookup_cons] at h ⊢
   cases hx:x==n with
   | true=>
    rw [hx] at h
    have hk:k=.free:=by
     have:=(Bool.and_eq_true_iff.mp (Bool.and_eq_true_iff.mp hc).1).1
     simpa using this
    subst hk
    have h':some NameKind.cell=some kd:=h
    cases h'
    exact .inr ⟨rfl,rfl⟩
   | false=> rw [hx] at h; exact ih h
  ·rw [if_neg hc] at h
   rw [List.lookup_cons] at h ⊢
   cases hx:x==n with
   | true=> rw [hx] at h; exact .inl h
   | false=> rw [hx] at h; exact ih h
def gR (scope fscope:Scope) (N:List Str) (is:List Nat):Bool:=
 scope.names.all (fun y=> y.2 !=.cell) && scope.names.all (fun y=> y.2 !=.local || scope.names.lookup y.1==some .local) && scope.names.all (fun y=> y.2 !=.free || fscope.names.lookup y.1==some .cell) &&
  (List.range N.length).all fun i=> match N[i]? with | some x=> scope.names.lookup x !=some .local || is.contains i | none=> true
theorem blk {X:Cx} {scope:Scope} (fscope:Scope) (N:List Str) (is:List Nat) (hNN:X.N=N) (hs:X.env.scope=fscope) (hcs:X.env.cells=cellsFrom (X.env.locals+1) fscope.names []) (hk:scope.kind=.function) (h:gR scope fscope N is=true):cy X scope (goC X.env.cells scope.names []) is:=by
 subst hNN
 unfold gR at h
 simp only [Bool.and_eq_true,List.all_eq_true] at h
 obtain ⟨⟨⟨h1,h2⟩,h3⟩,h4⟩:=h
 have f1:∀ y∈scope.names,y.2=.free→fscope.names.lookup y.1=some .cell:=fun y hy e=> by
  have:=h3 y hy
  simp only [Bool.or_eq_true,bne_iff_ne,ne_eq,beq_iff_eq] at this
  exact this.resolve_left fun z=> z e
 have f2:∀ y∈scope.names,y.2=.free→(X.env.cells.lookup y.1).isSome=true:=fun y hy e=> by
  rw [hcs]; exact PySem.W.cellsFrom_some _ _ _ (.inl (f1 y hy e))
 have nc:∀ y∈scope.names,y.2≠.cell:=fun y hy=> by have:=h1 y hy; simpa using this
 refine ⟨eO f2,nc,hk,fun y hy e=> ?_,fv _ _ f2 (fun x c e=> by simp at e),fun x hx=> ?_,fun i x hi hl=> ?_⟩
 ·have:=h2 y hy
  simp only [Bool.or_eq_true,bne_iff_ne,ne_eq,beq_iff_eq] at this
  exact this.resolve_left fun z=> z e
 ·have hf:(x,NameKind.free)∈scope.names:=by
   rcases hx with hx | hx
   ·rcases bc hx with z | ⟨_,z⟩
    ·exact absurd rfl (nc _ (PySem.mem_of_lookup z))
    ·exact PySem.mem_of_lookup z
   ·rcases bc hx with z | ⟨z,_⟩
    ·exact PySem.mem_of_lookup z
    ·cases z
  have hc:=f1 _ hf rfl
  refine ⟨.inr (.inl (by rw [hs]; exact hc)),(by rw [hs,show fscope.names.lookup x=some .cell from hc]; intro z; cases z),fq _ _ (.inl hf)⟩
 ·have hi':i < X.N.length:=(List.getElem?_eq_some_iff.mp hi).1
  have:=h4 i (List.mem_range.mpr hi')
  rw [hi] at this
  have hl':scope.names.lookup x=some .local:=by
   rcases bc hl with z | ⟨z,_⟩
   ·exact z
   ·cases z
  simp only [hl',bne_self_eq_false,Bool.false_or,List.contains_iff_mem] at this
  exact this
end L2
namespace L2
end L2
namespace L2
open PySem PySem.Spec PySem.W PyProof.Rows
theorem iB {K:Frag} {h:Heap} {mg:Str→Option Value} {x:Str} {C:Addr} {bmB:List Value} {newId:String} (X:K.In h) (hb:mg x=some (.ref C)) (q:excIn K C bmB newId=true):OwnCls x C bmB newId mg h:=by
 refine ⟨hb,?_⟩
 unfold excIn at q
 split at q
 ·rename_i dd cd sl ho
  split at q
  ·rename_i C' bm k0 k1 k2 k3 n k5 hm hs
   simp only [Bool.and_eq_true,beq_iff_eq,Bool.not_eq_true'] at q
   obtain ⟨⟨⟨⟨⟨e1,e2⟩,hdel⟩,ht⟩,hok⟩,hni⟩:=q
   subst e1 e2
   obtain ⟨nm,bs,mro,ns,qn,hd,sn,sub,ab,col,del⟩:=cd
   dsimp only at hm hdel hok hni
   subst hm hdel
   have hsl:sl=#[k0,k1,k2,k3,some (.builtin n),k5]:=by cases sl; simp only at hs; rw [hs]
   subst hsl
   exact ⟨bm,ns,nm,qn,bs,hd,sn,sub,ab,col,dd,k0,k1,k2,k3,k5,_,X _ _ ho,.of_isNs (isNs_of_in X hok),nsMap_none_of_in X hok hni,tail_of_in X ht⟩
  ·cases q
 ·cases q
def CXF (P:Program) (w:World):CXT:=fun outer H s E e s'=> ∃ (ea:Addr) (cls a0:Value) (B:Heap) (H':Hp),e=.ref ea∧s'.os=s.os∧AllBare s'.gens∧Un (frs outer) [] H H' s.heap s'.heap∧HOk P w H' s'.heap∧H' ea=none∧
 (∀ b o,s.heap.get? b=some o→b ∉ frs outer→H b=none→B.get? b=some o)∧(∀ b u,H' b=some u→∃ o,B.get? b=some o)∧(∀ b o,s.heap.get? b=some o→b ∉ frs outer→∃ o',B.get? b=some o')∧
 Heap.FlyingW B outer ea cls a0 s'.heap∧E cls none H'
theorem bu {P:Program} {w:World} {X:Cx}:bZ (CXF P w) X E0:=fun _ _ _ _ _ _ _ h=> by
 obtain ⟨_,_,_,_,_,_,_,_,_,_,_,_,_,_,_,hE⟩:=h
 exact hE.elim
theorem dq {P:Program} {w:World} {H:Hp} {h:Heap} {a:Addr} {o:HO} (x:ba P w H h a o):∃ ob,h.get? a=some ob:=by
 cases o with
 | lst xs=> obtain ⟨_,_,_,_,e⟩:=x; exact ⟨_,e⟩
 | tup xs=> obtain ⟨_,_,_,ob,e,_⟩:=x; exact ⟨_,e⟩
 | dK kvs=> obtain ⟨_,_,_,_,o,_,_,e,_⟩:=x; exact ⟨_,e⟩
 | dT kvs=> obtain ⟨_,_,_,_,o,_,_,e,_⟩:=x; exact ⟨_,e⟩
 | set S n=> obtain ⟨o,_,_,_,e,_⟩:=x; exact ⟨_,e⟩
 | ins C dx fs=> obtain ⟨_,_,_,e,_⟩:=x; exact ⟨_,e⟩
 | own y=> obtain ⟨_,e⟩:=x; exact ⟨_,e⟩
 | xd fs=> obtain ⟨_,⟨_,_,_,e,_⟩,_⟩:=x; exact ⟨_,e⟩
 | rng lo hi=> obtain ⟨_,_,_,e⟩:=x; exact ⟨_,e⟩
 | frz ob u=> obtain ⟨e,_⟩:=x; exact ⟨_,e⟩
 | tbl ps=> exact ⟨_,(show h.get? a=some _ from x)⟩
 | met f y=> exact ⟨_,(show h.get? a=some _ from x)⟩
 | ext φ=> obtain ⟨_,⟨_,e⟩,_⟩:=x; exact ⟨_,e⟩
theorem cL {P:Program} {w:World} {H':Hp} {h h' B:Heap} (ok:HOk P w H' h) (hB:∀ b u,H' b=some u→∃ o,B.get? b=some o) (s1:B.StaysIn h) (s2:B.StaysIn h'):HOk P w H' h':=fun a o e=> by
 refine (ok a o e).stay (fun b u hb q=> ?_) (fun _ q=> q) fun _ _ q=> q
 have:∃ v,H' b=some v:=by
  rcases hb with z | z
  ·subst z; exact ⟨_,e⟩
  ·exact ⟨_,z⟩
 obtain ⟨v,hv⟩:=this
 obtain ⟨ob,hob⟩:=hB b v hv
 have:=s1 b ob hob
 rw [q] at this
 cases this
 exact s2 b _ hob
theorem fY {fs:List Addr} {H0 H':Hp} {h0 h1 h2 B:Heap} (u:Un fs [] H0 H' h0 h1) (k1:∀ b o,h0.get? b=some o→b ∉ fs→H0 b=none→B.get? b=some o) (k3:∀ b o,h0.get? b=some o→b ∉ fs→∃ o',B.get? b=some o')
  (st:B.StaysIn h2) (up:h1.UpToSlots h2) (fr:∀ b∈fs,∀ o,h0.get? b=some o→∀ vs,o.data≠.fields vs) (frf:∀ b∈fs,H0 b=none):Un fs [] H0 H' h0 h2 where
 keep:=fun b o e n hb _=> st b o (k1 b o e hb n)
 slot:=fun b o e n hb hx=> by
  obtain ⟨sl,e1⟩:=u.slot b o e n hb hx
  obtain ⟨sl2,e2⟩:=up b _ e1 (fr b hb o e)
  exact ⟨sl2,e2⟩
 free:=u.free
 there:=fun b o e hx=> by
  by_cases hb:b∈fs
  ·obtain ⟨sl,e1⟩:=u.slot b o e (frf b hb) hb hx
   obtain ⟨sl2,e2⟩:=up b _ e1 (fr b hb o e)
   exact ⟨_,e2⟩
  ·obtain ⟨o',e'⟩:=k3 b o e hb
   exact ⟨o',st b o' e'⟩
 tups:=u.tups
 frzs:=u.frzs
 tbls:=u.tbls
theorem dQ {h base:Heap}:∀ {l:List Env},h.FunFrames base l→∀ b∈frs l,∀ o,h.get? b=some o→∀ vs,o.data≠.fields vs
 | [],_,b,hb,_,_=> absurd (show b∈([]:List Addr) from hb) (by simp)
 | env::r,⟨_,⟨L,o',hf,_,ho,hd⟩,hr⟩,b,hb,o,e=> by
  unfold frs at hb
  rw [List.filterMap_cons,hf] at hb
  rcases List.mem_cons.mp hb with z | z
  ·subst z; rw [ho] at e; cases e; exact hd
  ·exact dQ hr b z o e
section
variable {P:Program} {w:World} {K:Frag} {mg:Str→Option Value} {base:Heap} {N:List Str} {qual:Str} {scope:Scope} {f:Addr} {cd:Value} {A:Around} {outer:List Env} {s:Shared} {H:Hp} {E:XK}
theorem gB {env:Env} {L:Addr} {l:List Env} (h:env.frame=some L):frs (env::l)=L::frs l:=by unfold frs; rw [List.filterMap_cons,h]
theorem d9 {pins:List (Addr×Obj)} {σ:St} {H1 H':Hp} {s1:Shared} {B h1 h2:Heap} (I:Inv (bC (CXF P w) P w K mg base N qual scope f cd A outer s H E) pins σ H1 s1)
  (un:Un (frs (envOfC qual scope s.heap.objs.size f cd::outer)) [] H1 H' s1.heap h1)
  (k1:∀ b o,s1.heap.get? b=some o→b ∉ frs (envOfC qual scope s.heap.objs.size f cd::outer)→H1 b=none→B.get? b=some o) (k3:∀ b o,s1.heap.get? b=some o→b ∉ frs (envOfC qual scope s.heap.objs.size f cd::outer)→∃ o',B.get? b=some o')
  (st:B.StaysIn h2) (up:h1.UpToSlots h2):
  Un (frs outer) [] H H' s.heap h2∧(∀ b o,s.heap.get? b=some o→b ∉ frs outer→H b=none→B.get? b=some o)∧(∀ b o,s.heap.get? b=some o→b ∉ frs outer→∃ o',B.get? b=some o'):=by
 have ef:frs (envOfC qual scope s.heap.objs.size f cd::outer)=s.heap.objs.size::frs outer:=gB rfl
 rw [ef] at un k1 k3
 have ne:∀ b o,s.heap.get? b=some o→b ∉ frs outer→b ∉ s.heap.objs.size::frs outer:=fun b o e hb z=> by
  rcases List.mem_cons.mp z with y | y
  ·exact absurd (Heap.lt_size e) (by rw [y]; exact Nat.lt_irrefl _)
  ·exact hb y
 have ib:Un (frs outer) [] H H1 s.heap s1.heap:=I.base
 have K1:∀ b o,s.heap.get? b=some o→b ∉ frs outer→H b=none→B.get? b=some o:=fun b o e hb n=>
  k1 b o (ib.keep b o e n hb (by simp)) (ne b o e hb) (ib.free b o e n (by simp))
 have K3:∀ b o,s.heap.get? b=some o→b ∉ frs outer→∃ o',B.get? b=some o':=fun b o e hb=> by
  obtain ⟨o',e'⟩:=ib.there b o e (by simp)
  exact k3 b o' e' (ne b o e hb)
 have ffr:∀ b∈frs outer,∀ o,s.heap.get? b=some o→∀ vs,o.data≠.fields vs:=dQ I.ok.funs
 have frf:∀ b∈frs outer,H b=none:=I.ok.frf
 refine ⟨⟨fun b o e n hb _=> st b o (K1 b o e hb n),fun b o e n hb hx=> ?_,fun b o e n hx=> ?_,fun b o e hx=> ?_,fun b xs e=> un.tups b xs (ib.tups b xs e),fun b o u e=> un.frzs b o u (ib.frzs b o u e),fun b ps e=> ?_⟩,K1,K3⟩
 ·obtain ⟨sl,e1⟩:=ib.slot b o e n hb hx
  obtain ⟨sl2,e2⟩:=un.slot b _ e1 (ib.free b o e n hx) (List.mem_cons_of_mem _ hb) hx
  obtain ⟨sl3,e3⟩:=up b _ e2 (ffr b hb o e)
  exact ⟨sl3,e3⟩
 ·obtain ⟨o',e1⟩:=ib.there b o e hx
  exact un.free b o' e1 (ib.free b o e n hx) hx
 ·by_cases hb:b∈frs outer
  ·obtain ⟨sl,e1⟩:=ib.slot b o e (frf b hb) hb hx
   obtain ⟨sl2,e2⟩:=un.slot b _ e1 (ib.free b o e (frf b hb) hx) (List.mem_cons_of_mem _ hb) hx
   obtain ⟨sl3,e3⟩:=up b _ e2 (ffr b hb o e)
   exact ⟨_,e3⟩
  ·obtain ⟨o',e'⟩:=K3 b o e hb
   exact ⟨o',st b o' e'⟩
 ·obtain ⟨m1,e1⟩:=ib.tbls b ps e
  obtain ⟨m2,e2⟩:=un.tbls b _ e1
  exact ⟨m1++m2,by rw [e2,Array.append_assoc]⟩
theorem iE:bZ (CXF P w) (bC (CXF P w) P w K mg base N qual scope f cd A outer s H E) E:=by
 intro pins σ H1 s1 e s' I hcx
 obtain ⟨ea,cls,a0,B,H',rfl,os,bare,un,hok,hea,k1,k2,k3,fl,hE⟩:=hcx
 show wpAny _ _ (leaving (envOfC qual scope s.heap.objs.size f cd) (.ref ea)) _ _ s'
 refine wpAny_leaves_onW (L:=s.heap.objs.size) I.ok.frames rfl fl fun h2 fl2 up=> ?_
 obtain ⟨u,K1,K3⟩:=d9 I un k1 k3 fl2.1 up
 exact ⟨ea,cls,a0,B,H',rfl,os.trans I.os,bare,u,cL hok k2 fl.1 fl2.1,hea,K1,k2,K3,fl2,hE⟩
def jc (E:XK) (C:Addr) (te:TE):TS:=fun _ σ H=> te σ H fun _ H1=> E (.ref C) none H1
theorem gb {x:Str} {C:Addr} {e0:Expr} {te:TE} {np cpos pos:Pos} (hex:excIn K C [.type "ValueError",.type "Exception",.type "BaseException",.type "object"] "ValueError.__new__"=true)
  (hg:Gl (bC (CXF P w) P w K mg base N qual scope f cd A outer s H E) x) (hm:mg x=some (.ref C)) (he:PE (bC (CXF P w) P w K mg base N qual scope f cd A outer s H E) e0 te)
  (hst:starEach [e0] (bC (CXF P w) P w K mg base N qual scope f cd A outer s H E).env=[(false,eval e0 (bC (CXF P w) P w K mg base N qual scope f cd A outer s H E).env)]:=by rfl) (hd:(x==("__debug__":Str))=false:=by decide):
  PS (bC (CXF P w) P w K mg base N qual scope f cd A outer s H E) (.Raise (some (.Call (.Name x np) [e0] [] cpos)) none pos) (jc E C te):=by
 intro pins s1 σ H1 D I h
 have O:=iB I.ok.mod.kin hm hex
 obtain ⟨tl,NN,nm,q,bs,hdct,sn,sub,ab,col,dd,k0,k1,k2,k3,k5,mN,hC,hN,hni,T⟩:=O.obj
 have hpl:(backTo cpos (starEach [e0] (bC (CXF P w) P w K mg base N qual scope f cd A outer s H E).env)).any (·.1)=false:=by rw [hst]; rfl
 refine wpAny_Raise_call_subT (C:=C) (nm:=nm) (q:=q) (N:=NN) (bs:=bs) (bm:=tl) (hdct:=hdct) (sn:=sn) (sub:=sub) (ab:=ab) (col:=col) (dd:=dd) (k0:=k0) (k1:=k1) (k2:=k2) (k3:=k3) (k5:=k5)
  PySem.F.excBase_ValueError (mN:=mN) (T.hasType PySem.F.excBase_ValueError.hasBase) (I.ok.hd rfl) hpl hni (ck I hg hm ⟨rfl,?_⟩ hd)
 rw [hst]
 refine Calls.evalArgs_plain ?_
 show wpAny _ _ (spliced ((false,eval e0 _)::backTo cpos [])) _ _ s1
 refine Calls.spliced_cons (thn (he pins s1 σ H1 _ I h) fun v s2 ⟨y,H2,I2,r2,hE⟩=> Calls.spliced_nil ⟨rfl,by show 1≤sizeLine; decide,I2.bk _ _ hC,hN.keeps I2.bk,T.keeps I2.bk,fun h' e hx=> ?_⟩)
 show wpAny _ _ (leaving (envOfC qual scope s.heap.objs.size f cd) (.ref e)) _ _ { s2 with heap:=h' }
 have stk:s2.heap.FunFrames base (envOfC qual scope s.heap.objs.size f cd::outer):=I2.stack
 refine wpAny_leaves_madeW (base:=hideAll s2.heap (frs (envOfC qual scope s.heap.objs.size f cd::outer))) (h:=s2.heap) (L:=s.heap.objs.size) I2.ok.frames rfl (fun b o q=> of_hideAll _ q)
  (funFrames_hide stk fun env he b hb=> List.mem_filterMap.mpr ⟨env,he,hb⟩) hx fun h2 t fl _ _ up=> ?_
 have k2':∀ b u,H2 b=some u→∃ o,(hideAll s2.heap (frs (envOfC qual scope s.heap.objs.size f cd::outer))).get? b=some o:=fun b u e=> by
  obtain ⟨ob,hob⟩:=dq (I2.hok b u e)
  exact ⟨ob,hideAll_get _ hob fun z=> by have:=I2.stkFree b z; rw [e] at this; cases this⟩
 obtain ⟨u,K1,K3⟩:=d9 (h1:=h') I2 (Un.kept hx.keeps) (fun b o e hb _=> hideAll_get _ e hb) (fun b o e hb=> ⟨o,hideAll_get _ e hb⟩) fl.1 up
 refine ⟨e,.ref C,.ref t,_,H2,rfl,I2.os,I2.bare,u,cL (h:=s2.heap) I2.hok k2' (fun b o q=> of_hideAll _ q) fl.1,?_,K1,k2',K3,fl,hE⟩
 cases z:H2 e with
 | none=> rfl
 | some u=>
  obtain ⟨ob,hob⟩:=dq (I2.hok e u z)
  rw [hx.new] at hob; cases hob
end
theorem Fun.okF {P:Program} {w:World} {K:Frag} {mg:Str→Option Value} {base:Heap} {x qual:Str} {st:Stmt} {f:Addr} {fd:FuncData} {N ps:List Str} {k:Nat} {sp:Sp} (F:Fun K x qual st f fd) (S:aD N ps (ag st)) (len:∀ vs H Q E,sp vs H Q E→vs.length=ps.length)
  (hbody:∀ (cdv:Value) (A:Around) (outer:List Env) (s:Shared) (H:Hp) (vs:List V) (Q:VK) (E:XK),bx k (A.deeper (envOfC qual (ag st) s.heap.objs.size f cdv))→sp vs H Q E→
   ∃ t,PSs (bC (CXF P w) P w K mg base N qual (ag st) f cdv A outer s H E) (aw st) t∧t { nx:=fun _ H'=> Q .non H',rt:=Q } (start N vs) H):aZ P w K mg base (CXF P w) (k+1) f fd ps sp:=by
 obtain ⟨oc,od,kV,doc,pm,an,cdv,ct,osl,rfl,lk,hcd⟩:=F.ex
 exact j_ lk hcd S len fun A outer s H vs Q E hr hsp=> hbody cdv A outer s H vs Q E hr hsp
end L2
namespace L2
open PySem PySem.Spec PySem.W PyProof.Rows
abbrev ci (X:Cx) (ea:Addr):Cx:={ X with A:=X.A.mark (some (.ref ea)),calm:=false,xe:=fun _ _=> False }
section
variable {X:Cx} {pins:List (Addr×Obj)} {σ:St} {H:Hp} {s:Shared}
theorem Inv.hand (I:Inv X pins σ H s) (ea:Addr):Inv (ci X ea) pins σ H s:=
 ⟨⟨I.ok.mod,I.ok.kind,I.ok.glob,I.ok.blt,I.ok.above,I.ok.inj,I.ok.has,I.ok.cab,fun h=> (by cases h),I.ok.frames,I.ok.stk,I.ok.exf,I.ok.bs,I.ok.bsz,I.ok.noex,I.ok.exfs,I.ok.funs,I.ok.frf⟩,
  I.os,I.bare,I.base,I.loc,I.cell,I.free,I.freeC,I.pin,I.hok,I.len⟩
theorem Inv.unhand {ea:Addr} (hd:X.calm=true→X.A.handled=none) (I:Inv (ci X ea) pins σ H s):Inv X pins σ H s:=
 ⟨⟨I.ok.mod,I.ok.kind,I.ok.glob,I.ok.blt,I.ok.above,I.ok.inj,I.ok.has,I.ok.cab,hd,I.ok.frames,I.ok.stk,I.ok.exf,I.ok.bs,I.ok.bsz,I.ok.noex,I.ok.exfs,I.ok.funs,I.ok.frf⟩,
  I.os,I.bare,I.base,I.loc,I.cell,I.free,I.freeC,I.pin,I.hok,I.len⟩
theorem SP.unhand {ea:Addr} {D:cN} {f:Flow} {s':Shared} (hd:X.calm=true→X.A.handled=none) (h:SP (ci X ea) pins D f s'):SP X pins D f s':=by
 cases f with
 | next=> obtain ⟨σ',H',I,q⟩:=h; exact ⟨σ',H',I.unhand hd,q⟩
 | brk=> obtain ⟨σ',H',I,q⟩:=h; exact ⟨σ',H',I.unhand hd,q⟩
 | cont=> obtain ⟨σ',H',I,q⟩:=h; exact ⟨σ',H',I.unhand hd,q⟩
 | ret u=> obtain ⟨v,σ',H',I,r,q⟩:=h; exact ⟨v,σ',H',I.unhand hd,r,q⟩
end
section
variable {X:Cx}
end
end L2
namespace L2
open PySem PySem.Spec PyProof.Rows
theorem dz {n:Nat} {e:Nat→Bool}:(List.range n).all e=true↔∀ j,j < n→e j=true:=by
 rw [List.all_eq_true]
 exact ⟨fun h j hj=> h j (List.mem_range.mpr hj),fun h j hj=> h j (List.mem_range.mp hj)⟩
section
variable {X:Cx}
end
end L2
namespace PySem.W
open PySem PySem.Spec PySem.Calls PyProof.Rows PySem.Builtin PySem.Builtin.ObjectAttr PySem.Builtin.Getset_descriptor
section
variable {prog:Program} {w:World} {A:Around} {E:Value→Shared→Prop} {s:Shared} {K:Frag} {x C:Addr}
def OfCls (x C:Addr) (h:Heap):Prop:=∃ o,h.get? x=some o∧o.cls=.ref C
theorem OfCls.type {M:Model} {h:Heap} (I:OfCls x C h):Looks M h (typeOf (.ref x)) (.ref C):=by
 obtain ⟨o,h1,h2⟩:=I
 exact h2 ▸ (Looks.ld h1).andThen .now
theorem jt {tp:Value} {R:Result→Shared→Prop} (X:K.In s.heap) (I:OfCls x C s.heap) (hm:mroIn K C (.type "object")=some true)
  (h:R (.ok (.ret (.ref C))) s):codeAny (model prog w) A (.call (.builtin "getset_descriptor.__get__") ⟨[.builtin "object.__class__",.ref x,tp],[]⟩) R s:=by
 obtain ⟨hh,g,dr,t,os⟩:=s
 have L0:=I.type (M:=model prog w)
 have L1:=looks_mroIn (M:=model prog w) X hm
 refine codeAny_call_builtin KF.slot_gs.plain KF.entry_gs (KF.slot_gs.check _ _ _ _ _ _ _ _ KF.type_class (KF.args_gs _ _ _) ?_)
 unfold Builtin.«getset_descriptor.__get__» descrGet
 rw [dga_obj]
 refine wpAny_bind (wpAny_pure ?_)
 unfold descrGetter descrCheckInstance descrNameAndClass isInstance
 simp only [KF.owner_class]
 repeat lk
 refine ⟨Code.quiet_builtin _ (by decide+kernel),codeAny_builtin KF.entry_class ?_⟩
 unfold Builtin.«object.__class__» shownTypeOf
 repeat lk
 exact h
theorem ie {M:Model} {h:Heap} {name:Str} {a g:Value} (X:K.In h) (ha:findIn K (.ref C) name=some (some a)) (hg:specialIn K a "__get__"=some (some g)) (ht:takesIn K a=some true):
  Looks M h (find (.ref x) (.ref C) name) (.bind g a):=by
 have L1:=looks_findIn (M:=M) X ha
 have L2:Looks M h (getOf (some a)) (some g):=looks_specialIn X hg
 have L3:=looks_takesIn (M:=M) X ht
 exact L1.andThen (L2.andThen ((show Looks M h (dataDescriptor? (some a) (some g)) (some (g,a)) from L3.andThen .now).andThen (Looks.tag .now)))
variable (hga:findIn K (.ref C) "__getattribute__"=some (some (.builtin "BaseException.__getattribute__"))) (hgn:findIn K (.ref C) "__getattr__"=some none) (ha:findIn K (.ref C) "__class__"=some (some (.builtin "object.__class__")))
 (hn:specialIn K (.builtin "object.__class__") "__get__"=some (some (.builtin "getset_descriptor.__get__"))) (htk:takesIn K (.builtin "object.__class__")=some true) (hm:mroIn K C (.type "object")=some true) (hmB:mroIn K C (.type "BaseException")=some true)
include ha hn htk hm in
theorem g7 {tk:Tok} {Q:Fin→Shared→Prop} (X:K.In s.heap) (I:OfCls x C s.heap) (hq:Q (.done (.ret (.ref C))) s):
  wpAny (model prog w) A (Builtin.«object.__getattribute__» ⟨[.ref x,.str "__class__" tk],[]⟩) Q E s:=by
 have L0:=I.type (M:=model prog w)
 have L1:=ie (M:=model prog w) (x:=x) X ha hn htk
 obtain ⟨hh,g,dr,t,os⟩:=s
 unfold Builtin.«object.__getattribute__»
 refine wpAny_bind (wpAny_pure ?_)
 refine wpAny_bind (wpAny_pure (wpAny_bind (L0.at (wpAny_bind (L1.at ?_)))))
 show wpAny _ _ (bindTo _ _ _ _) _ _ _
 unfold bindTo
 show wpAny _ _ (holding [_] (call _ [_,_,_]) >>=ret) _ _ _
 refine wpAny_bind (wpAny_holding (wpAny_call (jt X I hm ?_)))
 exact wpAny_pure hq
include hmB in
theorem gI {nameV:Value} {M:Model} {Q:Unit→Shared→Prop} (X:K.In s.heap) (I:OfCls x C s.heap) (hq:Q () s):wpAny M A (checkBuiltinCall "BaseException.__getattribute__" ⟨[.ref x,nameV],[]⟩) Q E s:=by
 have hk:builtinKind "BaseException.__getattribute__"=some .slot:=by decide+kernel
 have hsplit:splitId "BaseException.__getattribute__"=some ("BaseException","__getattribute__"):=by decide+kernel
 have ha':=F.args_bexc_ga (.ref x) nameV
 have L:Looks M s.heap (isInstance (.ref x) (.type "BaseException")) true:=I.type.andThen (looks_mroIn X hmB)
 obtain ⟨hh,g,dr,t,os⟩:=s
 simp only [checkBuiltinCall,hk,hsplit]
 refine wpAny_bind (L.at ?_)
 repeat (first | assumption | wp_step)
include hga hgn ha hn htk hm hmB
theorem hG {tk:Tok} {R:Result→Shared→Prop} (X:K.In s.heap) (I:OfCls x C s.heap) (hq:R (.ok (.ret (.ref C))) s):
  codeAny (model prog w) A (.call (.builtin "BaseException.__getattribute__") ⟨[.ref x,.str "__class__" tk],[]⟩) R s:=by
 exact codeAny_call_builtin F.excAttr_ValueError.ga.plain F.entry_bexc_ga (gI hmB X I (g7 ha hn htk hm X I hq))
theorem gY {Q:Option Value→Shared→Prop} (X:K.In s.heap) (I:OfCls x C s.heap) (h:Q (some (.ref C)) { s with toks:=s.toks+1 }):wpAny (model prog w) A (getAttr? (.ref x) "__class__") Q E s:=by
 obtain ⟨hh,g,d,t,os⟩:=s
 have L0:=I.type (M:=model prog w)
 have L1:=looks_findIn (M:=model prog w) X hga
 have L2:=looks_findIn (M:=model prog w) X hgn
 have f3:=F.excAttr_ValueError.ga.bind (.ref x)
 unfold getAttr? getAttrBy? getAttrBy
 refine wpAny_bind (wpAny_mkText (wpAny_bind (wpAny_attempt (wpAny_holding (wpAny_bind (L0.at (wpAny_bind (L1.at ?_))))))))
 show wpAny _ _ (getAttrByItsOwn _ _ _ _ _ _) _ _ _
 unfold getAttrByItsOwn
 refine wpAny_bind (L2.at ?_)
 refine wpAny_bind (wpAny_attempt (wpAny_holding ?_))
 show wpAny _ _ (boundAndCalled _ _ _) _ _ _
 unfold boundAndCalled
 rw [f3]
 refine wpAny_bind (wpAny_pure (wpAny_call ?_))
 exact hG hga hgn ha hn htk hm hmB X I (wpAny_pure (wpAny_pure h))
theorem ia (hc:(clsIn K C).isSome=true):KitX K (.ref x) (.ref C) (OfCls x C) where
 ty:=fun _ _ _ I=> I.type
 it:=fun _ _ X _=> by
  obtain ⟨cdD,hcD⟩:=Option.isSome_iff_exists.mp hc
  unfold clsIn at hcD
  split at hcD
  ·rename_i c' d' cd' sl' ho
   intro A' Q' E' s' k q
   unfold isType loadHead
   exact wpAny_bind (wpAny_loadPart (k _ _ (X _ _ ho)) (wpAny_pure q))
  ·cases hcD
 ne:=fun h tp dd its n sl X htp=> by
  obtain ⟨cdD,hcD⟩:=Option.isSome_iff_exists.mp hc
  refine Bool.eq_false_iff.mpr fun q=> ?_
  have e:C=tp:=Value.ref.inj (beq_iff_eq.mp q)
  subst e
  unfold clsIn at hcD
  split at hcD
  ·rename_i c' d' cd' sl' ho
   have z:=(X _ _ ho).symm.trans htp
   cases z
  ·cases hcD
 ca:=fun X I k=> gY hga hgn ha hn htk hm hmB X I k
end
theorem cZ {K:Frag} {C:Addr} {v:Value} {b:Bool} (h:mroIn K C v=some b):(clsIn K C).isSome=true:=by
 obtain ⟨cd,e,_⟩:=Option.bind_eq_some_iff.mp h
 rw [e]; rfl
structure XcOk (K:Frag) (C:Addr):Prop where
 ga:findIn K (.ref C) "__getattribute__"=some (some (.builtin "BaseException.__getattribute__"))
 gn:findIn K (.ref C) "__getattr__"=some none
 at_:findIn K (.ref C) "__class__"=some (some (.builtin "object.__class__"))
 sp:specialIn K (.builtin "object.__class__") "__get__"=some (some (.builtin "getset_descriptor.__get__"))
 tk:takesIn K (.builtin "object.__class__")=some true
 mo:mroIn K C (.type "object")=some true
 mb:mroIn K C (.type "BaseException")=some true
theorem XcOk.kit {K:Frag} {x C:Addr} (h:XcOk K C):KitX K (.ref x) (.ref C) (OfCls x C):=ia h.ga h.gn h.at_ h.sp h.tk h.mo h.mb (cZ h.mo)
theorem XcOk.off {x C:Addr} {h:Heap} {o:Obj} {T:String} (I:OfCls x C h) (e:h.get? x=some o) (c:o.cls=.type T):False:=by
 obtain ⟨o',e',c'⟩:=I
 rw [e] at e'; cases e'
 rw [c] at c'; cases c'
end PySem.W
namespace L2
open PySem PySem.Spec PyProof.Rows
inductive TyX where
 | nm (n:String) | xc (C:Addr)
inductive U where
 | non | bl (b:Bool) | int (i:Int) | str (x:Str) | ty (n:TyX) | dic | scr (xs:List U) | tup (xs:List U) | lst (xs:List U)
def U.items:U→Option (List U)
 | .scr xs=> some xs
 | .tup xs=> some xs
 | .lst xs=> some xs
 | _=> none
def hid (H:Hp) (O:List Addr):Hp:=fun b=> if b∈O then none else H b
theorem b_ {H:Hp} {O:List Addr} {b:Addr} {o:HO} (h:hid H O b=some o):H b=some o∧b ∉ O:=by
 unfold hid at h
 split at h
 ·cases h
 ·exact ⟨h,by assumption⟩
theorem bI {H:Hp} {O:List Addr} {b:Addr} {o:HO} (h:H b=some o) (n:b ∉ O):hid H O b=some o:=by
 unfold hid; rw [if_neg n]; exact h
theorem am {H:Hp} {O:List Addr}:al (hid H O) H:=fun _ _ h=> (b_ h).1
theorem aK {H H':Hp} {O:List Addr} (e:al H H'):al (hid H O) (hid H' O):=fun _ _ h=> bI (e _ _ (b_ h).1) (b_ h).2
theorem bQ {H:Hp} {O O':List Addr} (e:∀ a∈O',a∈O):al (hid H O) (hid H O'):=fun _ _ h=> bI (b_ h).1 fun z=> (b_ h).2 (e _ z)
theorem bh {H H':Hp} {O:List Addr} {a:Addr} (e:al H H') (n:H a=none):al (hid H O) (hid H' (a::O)):=fun b o h=> by
 obtain ⟨h1,h2⟩:=b_ h
 refine bI (e _ _ h1) fun z=> ?_
 rcases List.mem_cons.mp z with y | y
 ·subst y; rw [n] at h1; cases h1
 ·exact h2 y
theorem fw {H:Hp} {O:List Addr} {a:Addr} {o:HO} (h:a∈O):hid (upd H a o) O=hid H O:=by
 funext b
 unfold hid
 split
 ·rfl
 ·rename_i n
  rw [au fun e=> n (by rw [e]; exact h)]
inductive Rp (K:PySem.W.Frag) (H:Hp):V→U→Prop where
 | non:Rp K H .non .non
 | bl (b:Bool):Rp K H (.bl b) (.bl b)
 | int (i:Int):Rp K H (.int i) (.int i)
 | str (x:Str):Rp K H (.str x) (.str x)
 | ty (n:String):Rp K H (.ty n) (.ty (.nm n))
 | dic {a:Addr} {kvs:List (Key×V)} (h:H a=some (.dK kvs)):Rp K H (.ref a) .dic
 | xc {a C:Addr} (h:H a=some (.ext (PySem.W.OfCls a C))) (k:PySem.W.XcOk K C):Rp K H (.ref a) (.ty (.xc C))
 | scr {a:Addr} {vs:List V} {xs:List U} (h:SqL K H a vs) (hl:vs.length=xs.length) (hi:∀ (i:Nat) (v:V) (x:U),vs[i]?=some v→xs[i]?=some x→Rp K H v x):Rp K H (.ref a) (.scr xs)
 | tup {a:Addr} {vs:List V} {xs:List U} (h:SqT K H a vs) (hl:vs.length=xs.length) (hi:∀ (i:Nat) (v:V) (x:U),vs[i]?=some v→xs[i]?=some x→Rp K H v x):Rp K H (.ref a) (.tup xs)
 | lst {a:Addr} {vs:List V} {xs:List U} (h:H a=some (.lst vs)) (hl:vs.length=xs.length) (hi:∀ (i:Nat) (v:V) (x:U),vs[i]?=some v→xs[i]?=some x→Rp K H v x):Rp K H (.ref a) (.lst xs)
theorem Rp.same {K:PySem.W.Frag} {H H':Hp} {v:V} {u:U} (e:al H H') (h:Rp K H v u):Rp K H' v u:=by
 induction h with
 | non=> exact .non
 | bl b=> exact .bl b
 | int i=> exact .int i
 | str x=> exact .str x
 | ty n=> exact .ty n
 | dic h=> exact .dic (e _ _ h)
 | xc h k=> exact .xc (e _ _ h) k
 | scr h hl hi ih=> exact .scr (e.seq h) hl ih
 | tup h hl hi ih=> exact .tup (e.tup h) hl ih
 | lst h hl hi ih=> exact .lst (e _ _ h) hl ih
structure Rps (K:PySem.W.Frag) (H:Hp) (vs:List V) (xs:List U):Prop where
 len:vs.length=xs.length
 at_:∀ (i:Nat) (v:V) (x:U),vs[i]?=some v→xs[i]?=some x→Rp K H v x
theorem Rps.same {K:PySem.W.Frag} {H H':Hp} {vs:List V} {xs:List U} (e:al H H') (h:Rps K H vs xs):Rps K H' vs xs:=⟨h.len,fun i v x a b=> (h.at_ i v x a b).same e⟩
theorem Rps.nil {K:PySem.W.Frag} {H:Hp}:Rps K H [] []:=⟨rfl,fun i v x h=> by simp at h⟩
theorem Rps.cons {K:PySem.W.Frag} {H:Hp} {v:V} {x:U} {vs:List V} {xs:List U} (h:Rp K H v x) (t:Rps K H vs xs):Rps K H (v::vs) (x::xs):=by
 refine ⟨by simp [t.len],fun i a b h1 h2=> ?_⟩
 cases i with
 | zero=> simp at h1 h2; subst h1; subst h2; exact h
 | succ i=> exact t.at_ i a b (by simpa using h1) (by simpa using h2)
theorem Rps.snoc {K:PySem.W.Frag} {H:Hp} {vs ws:List V} {xs ys:List U} (h:Rps K H vs xs) (t:Rps K H ws ys):Rps K H (vs++ws) (xs++ys):=by
 refine ⟨by simp [h.len,t.len],fun i a b h1 h2=> ?_⟩
 by_cases hi:i < vs.length
 ·rw [List.getElem?_append_left hi] at h1
  rw [List.getElem?_append_left (by rw [← h.len]; exact hi)] at h2
  exact h.at_ i a b h1 h2
 ·have hle:vs.length≤i:=Nat.le_of_not_lt hi
  rw [List.getElem?_append_right hle] at h1
  rw [List.getElem?_append_right (by rw [← h.len]; exact hle),← h.len] at h2
  exact t.at_ _ a b h1 h2
theorem Rps.get {K:PySem.W.Frag} {H:Hp} {vs:List V} {xs:List U} {i:Nat} {x:U} (h:Rps K H vs xs) (e:xs[i]?=some x):∃ v,vs[i]?=some v∧Rp K H v x:=by
 have hi:i < vs.length:=by rw [h.len]; exact (List.getElem?_eq_some_iff.mp e).1
 exact ⟨vs[i],List.getElem?_eq_getElem hi,h.at_ i _ x (List.getElem?_eq_getElem hi) e⟩
theorem Rps.atI {K:PySem.W.Frag} {H:Hp} {vs:List V} {xs:List U} {i:Int} {x:U} (h:Rps K H vs xs) (e:L2.atI xs i=some x):∃ v,L2.atI vs i=some v∧Rp K H v x:=by
 unfold L2.atI at e ⊢
 rw [h.len]
 cases q:ixN xs.length i with
 | none=> rw [q] at e; cases e
 | some j=>
  rw [q] at e
  obtain ⟨v,h1,h2⟩:=h.get (show xs[j]?=some x from e)
  exact ⟨v,h1,h2⟩
theorem Rps.cons_inv {K:PySem.W.Frag} {H:Hp} {vs:List V} {x:U} {xs:List U} (h:Rps K H vs (x::xs)):∃ v ws,vs=v::ws∧Rp K H v x∧Rps K H ws xs:=by
 cases vs with
 | nil=> have:=h.len; simp at this
 | cons v ws=>
  refine ⟨v,ws,rfl,h.at_ 0 v x rfl rfl,by have:=h.len; simpa using this,fun i a b h1 h2=> h.at_ (i+1) a b (by simpa using h1) (by simpa using h2)⟩
theorem Rps.nil_inv {K:PySem.W.Frag} {H:Hp} {vs:List V} (h:Rps K H vs []):vs=[]:=List.length_eq_zero_iff.mp (by rw [h.len]; rfl)
inductive Sl where
 | val (u:U) | own (xs:List U)
abbrev PSt:=List (Option Sl)
def hX (K:PySem.W.Frag) (H:Hp) (O O0:List Addr) (v:V):Sl→Prop
 | .val u=> Rp K (hid H O) v u
 | .own xs=> ∃ a vs,v=.ref a∧a∈O∧a ∉ O0∧H a=some (.lst vs)∧Rps K (hid H O) vs xs
structure Rs (K:PySem.W.Frag) (H0:Hp) (O0:List Addr) (ps:PSt) (σ:St) (H:Hp) (O:List Addr):Prop where
 same:al H0 H
 old:∀ a∈O0,a∈O
 new:∀ a∈O,a∈O0∨H0 a=none
 dom:∀ a∈O,H a≠none
 len:σ.length=ps.length
 at_:∀ (i:Nat) (s:Sl),ps[i]?=some (some s)→∃ v,σ[i]?=some (some v)∧hX K H O O0 v s
 inj:∀ (i j:Nat) (xs ys:List U) (a:Addr),ps[i]?=some (some (.own xs))→ps[j]?=some (some (.own ys))→σ[i]?=some (some (.ref a))→σ[j]?=some (some (.ref a))→i=j
section
variable {K:PySem.W.Frag} {H0 H H':Hp} {O0 O:List Addr} {ps:PSt} {σ:St}
theorem hX.same {v:V} {s:Sl} (e:al H H') (h:hX K H O O0 v s):hX K H' O O0 v s:=by
 cases s with
 | val u=> exact Rp.same (aK e) h
 | own xs=> obtain ⟨a,vs,h1,h2,h3,h4,h5⟩:=h; exact ⟨a,vs,h1,h2,h3,e _ _ h4,h5.same (aK e)⟩
theorem Rs.go (R:Rs K H0 O0 ps σ H O) (e:al H H'):Rs K H0 O0 ps σ H' O:=
 ⟨R.same.trans e,R.old,R.new,fun a ha z=> R.dom a ha (e.free z),R.len,fun i s h=> let ⟨v,h1,h2⟩:=R.at_ i s h; ⟨v,h1,h2.same e⟩,R.inj⟩
theorem a_ {α:Type} {xs:List α} {i j:Nat} {y x:α} (h:(xs.set i y)[j]?=some x):(i=j∧x=y)∨(i≠j∧xs[j]?=some x):=by
 by_cases e:i=j
 ·subst e
  rw [List.getElem?_set] at h
  simp at h
  exact .inl ⟨rfl,h.2.symm⟩
 ·rw [List.getElem?_set_ne e] at h
  exact .inr ⟨e,h⟩
theorem cA {α:Type} {xs:List α} {i:Nat} {y:α} (h:i < xs.length):(xs.set i y)[i]?=some y:=by rw [List.getElem?_set]; simp [h]
theorem ax {α:Type} {xs:List α} {i:Nat} {y:α} (h:xs[i]?=some y):i < xs.length:=(List.getElem?_eq_some_iff.mp h).1
theorem cR {i:Nat} {u:U} {j:Nat} {xs:List U} (h:(ps.set i (some (.val u)))[j]?=some (some (.own xs))):i≠j∧ps[j]?=some (some (.own xs)):=by
 rcases a_ h with ⟨_,e⟩ | h
 ·cases e
 ·exact h
theorem Rs.set {i:Nat} {v:V} {u:U} (R:Rs K H0 O0 ps σ H O) (r:Rp K (hid H O) v u):Rs K H0 O0 (ps.set i (some (.val u))) (σ.set i (some v)) H O:=by
 refine ⟨R.same,R.old,R.new,R.dom,by simp [R.len],fun j s h=> ?_,fun j k xs ys a h1 h2 h3 h4=> ?_⟩
 ·rcases a_ h with ⟨e,q⟩ | ⟨n,q⟩
  ·subst e
   cases q
   have hi:=ax h
   rw [List.length_set] at hi
   exact ⟨v,cA (by rw [R.len]; exact hi),r⟩
  ·obtain ⟨w,h1,h2⟩:=R.at_ j s q
   exact ⟨w,by rw [List.getElem?_set_ne n]; exact h1,h2⟩
 ·obtain ⟨n1,q1⟩:=cR h1
  obtain ⟨n2,q2⟩:=cR h2
  rw [List.getElem?_set_ne n1] at h3
  rw [List.getElem?_set_ne n2] at h4
  exact R.inj j k xs ys a q1 q2 h3 h4
theorem Rs.drop {i:Nat} {o:Option V} (R:Rs K H0 O0 ps σ H O):Rs K H0 O0 (ps.set i none) (σ.set i o) H O:=by
 have key:∀ {j:Nat} {s:Sl},(ps.set i none)[j]?=some (some s)→i≠j∧ps[j]?=some (some s):=fun {j s} h=> by
  rcases a_ h with ⟨_,e⟩ | h
  ·cases e
  ·exact h
 refine ⟨R.same,R.old,R.new,R.dom,by simp [R.len],fun j s h=> ?_,fun j k xs ys a h1 h2 h3 h4=> ?_⟩
 ·obtain ⟨n,q⟩:=key h
  obtain ⟨w,h1,h2⟩:=R.at_ j s q
  exact ⟨w,by rw [List.getElem?_set_ne n]; exact h1,h2⟩
 ·obtain ⟨n1,q1⟩:=key h1
  obtain ⟨n2,q2⟩:=key h2
  rw [List.getElem?_set_ne n1] at h3
  rw [List.getElem?_set_ne n2] at h4
  exact R.inj j k xs ys a q1 q2 h3 h4
theorem Rs.own {i:Nat} {a:Addr} {vs:List V} {xs:List U} (R:Rs K H0 O0 ps σ H O) (e:al H H') (n:H a=none) (h:H' a=some (.lst vs)) (r:Rps K (hid H' (a::O)) vs xs):
  Rs K H0 O0 (ps.set i (some (.own xs))) (σ.set i (some (.ref a))) H' (a::O):=by
 have na:a ∉ O:=fun z=> R.dom a z n
 have na0:a ∉ O0:=fun z=> na (R.old a z)
 have n0:H0 a=none:=R.same.free n
 have noref:∀ (j:Nat) (ys:List U),ps[j]?=some (some (.own ys))→σ[j]?≠some (some (.ref a)):=fun j ys h1 h2=> by
  obtain ⟨v,h3,b,ws,h4,h5,_⟩:=R.at_ j _ h1
  rw [h2] at h3
  cases h3
  cases h4
  exact na h5
 refine ⟨R.same.trans e,fun b hb=> List.mem_cons_of_mem _ (R.old b hb),fun b hb=> ?_,fun b hb z=> ?_,by simp [R.len],fun j s q=> ?_,fun j k ys zs b h1 h2 h3 h4=> ?_⟩
 ·rcases List.mem_cons.mp hb with y | y
  ·subst y; exact .inr n0
  ·exact R.new b y
 ·rcases List.mem_cons.mp hb with y | y
  ·subst y; rw [h] at z; cases z
  ·exact R.dom b y (e.free z)
 ·rcases a_ q with ⟨e',q'⟩ | ⟨ne,q'⟩
  ·subst e'
   cases q'
   have hi:=ax q
   rw [List.length_set] at hi
   exact ⟨.ref a,cA (by rw [R.len]; exact hi),a,vs,rfl,List.mem_cons_self,na0,h,r⟩
  ·obtain ⟨w,h1,h2⟩:=R.at_ j s q'
   refine ⟨w,by rw [List.getElem?_set_ne ne]; exact h1,?_⟩
   cases s with
   | val u=> exact Rp.same (bh e n) h2
   | own ys=>
    obtain ⟨b,ws,k1,k2,k3,k4,k5⟩:=h2
    exact ⟨b,ws,k1,List.mem_cons_of_mem _ k2,k3,e _ _ k4,k5.same (bh e n)⟩
 ·rcases a_ h1 with ⟨e1,q1⟩ | ⟨n1,q1⟩ <;> rcases a_ h2 with ⟨e2,q2⟩ | ⟨n2,q2⟩
  ·rw [← e1,← e2]
  ·subst e1
   have hi:=ax h3
   rw [List.length_set] at hi
   rw [cA hi] at h3
   cases h3
   rw [List.getElem?_set_ne n2] at h4
   exact absurd h4 (noref k zs q2)
  ·subst e2
   have hi:=ax h4
   rw [List.length_set] at hi
   rw [cA hi] at h4
   cases h4
   rw [List.getElem?_set_ne n1] at h3
   exact absurd h3 (noref j ys q1)
  ·rw [List.getElem?_set_ne n1] at h3
   rw [List.getElem?_set_ne n2] at h4
   exact R.inj j k ys zs b q1 q2 h3 h4
theorem Rs.write {i:Nat} {a:Addr} {vs:List V} {xs ys:List U} (R:Rs K H0 O0 ps σ H O) (hp:ps[i]?=some (some (.own xs))) (hs:σ[i]?=some (some (.ref a))) (r:Rps K (hid H O) vs ys):
  Rs K H0 O0 (ps.set i (some (.own ys))) σ (upd H a (.lst vs)) O:=by
 obtain ⟨v,h1,b,ws,h2,h3,h4,h5,h6⟩:=R.at_ i _ hp
 rw [hs] at h1
 cases h1
 cases h2
 have h0:H0 a=none:=(R.new a h3).resolve_left h4
 have eh:hid (upd H a (.lst vs)) O=hid H O:=fw h3
 refine ⟨R.same.put h0 _,R.old,R.new,fun b hb z=> ?_,by simp [R.len],fun j s q=> ?_,fun j k zs us b q1 q2 q3 q4=> ?_⟩
 ·by_cases e:b=a
  ·subst e; rw [aF] at z; cases z
  ·rw [au e] at z; exact R.dom b hb z
 ·rcases a_ q with ⟨e',q'⟩ | ⟨ne,q'⟩
  ·subst e'
   cases q'
   exact ⟨.ref a,hs,a,vs,rfl,h3,h4,aF,by rw [eh]; exact r⟩
  ·obtain ⟨w,k1,k2⟩:=R.at_ j s q'
   refine ⟨w,k1,?_⟩
   cases s with
   | val u=> exact (show Rp K (hid (upd H a (.lst vs)) O) w u by rw [eh]; exact k2)
   | own zs=>
    obtain ⟨b,us,e1,e2,e3,e4,e5⟩:=k2
    subst e1
    have:b≠a:=fun z=> by subst z; exact ne (R.inj i j xs zs b hp q' hs k1)
    exact ⟨b,us,rfl,e2,e3,by rw [au this]; exact e4,by rw [eh]; exact e5⟩
 ·have c1:∃ zs',ps[j]?=some (some (.own zs')):=by
   rcases a_ q1 with ⟨e,_⟩ | ⟨_,z⟩
   ·subst e; exact ⟨_,hp⟩
   ·exact ⟨_,z⟩
  have c2:∃ zs',ps[k]?=some (some (.own zs')):=by
   rcases a_ q2 with ⟨e,_⟩ | ⟨_,z⟩
   ·subst e; exact ⟨_,hp⟩
   ·exact ⟨_,z⟩
  obtain ⟨_,c1⟩:=c1
  obtain ⟨_,c2⟩:=c2
  exact R.inj j k _ _ b c1 c2 q3 q4
def SubP:PSt→PSt→Prop
 | [],[]=> True
 | none::p,_::q=> SubP p q
 | some s::p,t::q=> t=some s∧SubP p q
 | _,_=> False
theorem SubP.at_:∀ {p q:PSt},SubP p q→p.length=q.length∧∀ (i:Nat) (s:Sl),p[i]?=some (some s)→q[i]?=some (some s)
 | [],[],_=> ⟨rfl,fun i s h=> by simp at h⟩
 | none::p,t::q,h=> by
  obtain ⟨h1,h2⟩:=SubP.at_ (p:=p) (q:=q) h
  refine ⟨by simp [h1],fun i s e=> ?_⟩
  cases i with
  | zero=> simp at e
  | succ i=> exact h2 i s (by simpa using e)
 | some s0::p,t::q,h=> by
  obtain ⟨h0,h⟩:=h
  obtain ⟨h1,h2⟩:=SubP.at_ (p:=p) (q:=q) h
  refine ⟨by simp [h1],fun i s e=> ?_⟩
  cases i with
  | zero=> simp at e; subst e; rw [h0]; rfl
  | succ i=> exact h2 i s (by simpa using e)
 | [],_::_,h=> h.elim
 | none::_,[],h=> h.elim
 | some _::_,[],h=> h.elim
theorem Rs.sub {ps':PSt} (R:Rs K H0 O0 ps σ H O) (h:SubP ps' ps):Rs K H0 O0 ps' σ H O:=by
 obtain ⟨h1,h2⟩:=h.at_
 exact ⟨R.same,R.old,R.new,R.dom,R.len.trans h1.symm,fun i s e=> R.at_ i s (h2 i s e),fun i j xs ys a e1 e2=> R.inj i j xs ys a (h2 _ _ e1) (h2 _ _ e2)⟩
end
def Ev (X:Cx) (H0:Hp) (O0:List Addr) (ps:PSt) (e:Expr) (u:U):Prop:=
 PE X e fun σ H Q=> ∃ O,Rs X.K H0 O0 ps σ H O∧∀ v H',al H H'→Rp X.K (hid H' O) v u→Q v H'
def EvN (X:Cx) (H0:Hp) (O0:List Addr) (ps:PSt) (e:Expr) (xs:List U):Prop:=
 PE X e fun σ H Q=> ∃ O,Rs X.K H0 O0 ps σ H O∧∀ a vs H',al H H'→H a=none→H' a=some (.lst vs)→Rps X.K (hid H' (a::O)) vs xs→Q (.ref a) H'
def Tt (X:Cx) (H0:Hp) (O0:List Addr) (ps:PSt) (e:Expr) (b:Bool):Prop:=
 PT X e fun σ H Q=> ∃ O,Rs X.K H0 O0 ps σ H O∧∀ H',al H H'→Q b H'
def Tw (X:Cx) (H0:Hp) (O0:List Addr) (ps:PSt) (e:Expr) (b:Bool):Prop:=
 PW X e fun σ H Q=> ∃ O,Rs X.K H0 O0 ps σ H O∧∀ H',al H H'→Q b H'
def EvA (X:Cx) (H0:Hp) (O0:List Addr) (ps:PSt) (es:List Expr) (us:List U):Prop:=
 PA X es fun σ H Q=> ∃ O,Rs X.K H0 O0 ps σ H O∧∀ vs H',al H H'→Rps X.K (hid H' O) vs us→Q vs H'
theorem PE.mono {X:Cx} {e:Expr} {t t':TE} (h:PE X e t) (m:∀ σ H Q,t' σ H Q→t σ H Q):PE X e t':=fun pins s σ H Q I q=> h pins s σ H Q I (m σ H Q q)
theorem PT.mono {X:Cx} {e:Expr} {t t':TT} (h:PT X e t) (m:∀ σ H Q,t' σ H Q→t σ H Q):PT X e t':=fun pins s σ H Q I q=> h pins s σ H Q I (m σ H Q q)
theorem PW.mono {X:Cx} {e:Expr} {t t':TT} (h:PW X e t) (m:∀ σ H Q,t' σ H Q→t σ H Q):PW X e t':=fun wh pins s σ H Q I q=> h wh pins s σ H Q I (m σ H Q q)
theorem PA.mono {X:Cx} {e:List Expr} {t t':TA} (h:PA X e t) (m:∀ σ H Q,t' σ H Q→t σ H Q):PA X e t':=fun pos pins s σ H Q I q=> h pos pins s σ H Q I (m σ H Q q)
theorem PS.mono {X:Cx} {e:Stmt} {t t':TS} (h:PS X e t) (m:∀ D σ H,t' D σ H→t D σ H):PS X e t':=fun pins s σ H D I q=> h pins s σ H D I (m D σ H q)
theorem PSs.mono {X:Cx} {e:List Stmt} {t t':TS} (h:PSs X e t) (m:∀ D σ H,t' D σ H→t D σ H):PSs X e t':=fun pins s σ H D I q=> h pins s σ H D I (m D σ H q)
section
variable {X:Cx} {H0:Hp} {O0:List Addr} {ps:PSt} {a b c e:Expr} {es:List Expr} {pos p:Pos} {u x y:U} {xs ys us:List U} {i j:Int}
theorem EvN.ev (h:EvN X H0 O0 ps e xs):Ev X H0 O0 ps e (.lst xs):=PE.mono h fun σ H Q ⟨O,R,k⟩=> ⟨O,R,fun a vs H' s n h r=> by
 have na:a ∉ O:=fun z=> R.dom a z n
 have less:al (hid H' (a::O)) (hid H' O):=bQ fun b hb=> List.mem_cons_of_mem _ hb
 exact k _ H' s (.lst (bI h na) (r.same less).len (r.same less).at_)⟩
theorem aa (i:Nat) {x:Str} {u:U} (h:ps[i]?=some (some (.val u))) (hN:X.N[i]?=some x:=by rfl) (hv:Vis X.env.scope x:=by first | exact Or.inl rfl | exact Or.inr (Or.inl rfl) | exact Or.inr (Or.inr rfl)) (hd:(x==("__debug__":Str))=false:=by decide)
  (hcd:(x==("__classdict__":Str))=false:=by decide):Ev X H0 O0 ps (.Name x pos) u:=PE.mono (cf hN hv hd hcd) fun σ H Q ⟨O,R,k⟩=> by
 obtain ⟨v,h1,h2⟩:=R.at_ i _ h
 exact ⟨v,h1,k v H (.refl H) h2⟩
theorem ah {i j pos}:Ev X H0 O0 ps (.Constant (.int i) j pos) (.int i):=PE.mono jM fun _ H _ ⟨_,_,k⟩=> k _ H (.refl H) (.int i)
theorem jq {i j pos}:Ev X H0 O0 ps (.Constant (.bool i) j pos) (.bl i):=PE.mono jP fun _ H _ ⟨_,_,k⟩=> k _ H (.refl H) (.bl i)
theorem kE {i j pos}:Ev X H0 O0 ps (.Constant (.str i) j pos) (.str i):=PE.mono jI fun _ H _ ⟨_,_,k⟩=> k _ H (.refl H) (.str i)
theorem bE {x:Str} {n:String} {pos:Pos} (hg:Gl X x) (hm:X.mg x=none) (hv:bootBuiltins x=some (.type n)) (hn:x≠"__name__":=by decide) (hd:(x==("__debug__":Str))=false:=by decide):Ev X H0 O0 ps (.Name x pos) (.ty (.nm n)):=
 PE.mono (jV hg hm hv hn hd) fun _ H _ ⟨_,_,k⟩=> k _ H (.refl H) (.ty n)
theorem two {ta tb:TE} {σ:St} {H:Hp} {Q:VK} {O:List Addr} {r:R2} (R:Rs X.K H0 O0 ps σ H O)
  (ha:∀ σ H Q,(∃ O,Rs X.K H0 O0 ps σ H O∧∀ v H',al H H'→Rp X.K (hid H' O) v x→Q v H')→ta σ H Q) (hb:∀ σ H Q,(∃ O,Rs X.K H0 O0 ps σ H O∧∀ v H',al H H'→Rp X.K (hid H' O) v y→Q v H')→tb σ H Q)
  (h:∀ v w H',al H H'→Rs X.K H0 O0 ps σ H' O→Rp X.K (hid H' O) v x→Rp X.K (hid H' O) w y→r v w H' Q):tOp r ta tb σ H Q:=
 ha σ H _ ⟨O,R,fun v H1 s1 r1=> hb σ H1 _ ⟨O,R.go s1,fun w H2 s2 r2=> h v w H2 (s1.trans s2) (R.go (s1.trans s2)) (r1.same (aK s2)) r2⟩⟩
theorem iJ {op:Operator} {g:Int→Int→Int} (ho:OpR X (binaryOp op) (rI0 fun i j=> .int (g i j))) (ha:Ev X H0 O0 ps a (.int i)) (hb:Ev X H0 O0 ps b (.int j)):Ev X H0 O0 ps (.BinOp a op b pos) (.int (g i j)):=
 PE.mono (fj ho ha hb) fun σ H Q ⟨O,R,k⟩=> two (x:=.int i) (y:=.int j) R (fun _ _ _ z=> z) (fun _ _ _ z=> z) fun v w H' s _ r1 r2=> by
  cases r1; cases r2; exact ⟨i,j,rfl,rfl,k _ H' s (.int _)⟩
theorem fc {op:Operator} {C:Int→Int→Prop} {g:Int→Int→Int} (ho:OpR X (binaryOp op) (rI C fun i j=> .int (g i j))) (ha:Ev X H0 O0 ps a (.int i)) (hb:Ev X H0 O0 ps b (.int j)) (hc:C i j):Ev X H0 O0 ps (.BinOp a op b pos) (.int (g i j)):=
 PE.mono (fj ho ha hb) fun σ H Q ⟨O,R,k⟩=> two (x:=.int i) (y:=.int j) R (fun _ _ _ z=> z) (fun _ _ _ z=> z) fun v w H' s _ r1 r2=> by
  cases r1; cases r2; exact ⟨i,j,rfl,rfl,hc,k _ H' s (.int _)⟩
theorem bz (ha:Ev X H0 O0 ps a (.int i)) (hb:Ev X H0 O0 ps b (.int j)):Ev X H0 O0 ps (.BinOp a .Add b pos) (.int (i+j)):=iJ iZ ha hb
theorem bY (ha:Ev X H0 O0 ps a (.int i)) (hb:Ev X H0 O0 ps b (.int j)):Ev X H0 O0 ps (.BinOp a .Sub b pos) (.int (i - j)):=iJ i_ ha hb
theorem fx (ha:Ev X H0 O0 ps a (.int i)) (hb:Ev X H0 O0 ps b (.int j)) (hc:IntMulOk i j):Ev X H0 O0 ps (.BinOp a .Mult b pos) (.int (i * j)):=fc ip ha hb hc
theorem dm (ha:Ev X H0 O0 ps a (.int i)) (hb:Ev X H0 O0 ps b (.int j)) (hc:iY i j):Ev X H0 O0 ps (.BinOp a .FloorDiv b pos) (.int (i / j)):=fc g6 ha hb hc
theorem bO (ha:Ev X H0 O0 ps a (.int i)) (hb:Ev X H0 O0 ps b (.int j)) (hc:0 < j):Ev X H0 O0 ps (.BinOp a .Mod b pos) (.int (i % j)):=fc i5 ha hb hc
theorem kf (ha:Ev X H0 O0 ps a (.int i)) (hb:Ev X H0 O0 ps b (.int j)) (hc:km i j):Ev X H0 O0 ps (.BinOp a .Pow b pos) (.int (i ^ j.toNat)):=fc jK ha hb hc
theorem gd (ha:Ev X H0 O0 ps a (.int i)):Ev X H0 O0 ps (.UnaryOp .USub a pos) (.int (-i)):=
 PE.mono (kn jr ha) fun σ H Q ⟨O,R,k⟩=> ⟨O,R,fun v H' s r=> by cases r; exact ⟨i,rfl,k _ H' s (.int _)⟩⟩
end
end L2
namespace L2
open PySem PySem.Spec PyProof.Rows
mutual
def eqW:U→U→Bool
 | .non,.non=> true
 | .bl a,.bl b=> a==b
 | .bl a,.int j=> (if a then 1 else 0)==j
 | .int i,.bl b=> i==(if b then 1 else 0)
 | .int i,.int j=> i==j
 | .str a,.str b=> a==b
 | .tup xs,.tup ys=> eqWs xs ys
 | .lst xs,.lst ys=> eqWs xs ys
 | .lst xs,.scr ys=> eqWs xs ys
 | .scr xs,.lst ys=> eqWs xs ys
 | .scr xs,.scr ys=> eqWs xs ys
 | _,_=> false
def eqWs:List U→List U→Bool
 | [],[]=> true
 | x::xs,y::ys=> eqW x y && eqWs xs ys
 | _,_=> false
end
mutual
def okU:Nat→U→Bool
 | _,.ty _=> false
 | _,.dic=> false
 | 0,.tup _=> false
 | 0,.lst _=> false
 | 0,.scr _=> false
 | n+1,.tup xs=> okUs n xs
 | n+1,.lst xs=> okUs n xs
 | n+1,.scr xs=> okUs n xs
 | _,_=> true
def okUs:Nat→List U→Bool
 | _,[]=> true
 | n,x::xs=> okU n x && okUs n xs
end
theorem cM:∀ {n:Nat} {xs:List U} {i:Nat} {x:U},okUs n xs=true→xs[i]?=some x→okU n x=true
 | n,[],i,x,_,h=> by simp at h
 | n,y::xs,0,x,h,e=> by simp at e; subst e; simp [okUs] at h; exact h.1
 | n,y::xs,i+1,x,h,e=> by simp [okUs] at h; exact cM (i:=i) h.2 (by simpa using e)
theorem bi:∀ (xs ys:List U),((List.range (min xs.length ys.length)).all (fun j=> eqW (xs.getD j .non) (ys.getD j .non)) && xs.length==ys.length)=eqWs xs ys
 | [],[]=> rfl
 | [],y::ys=> by simp [eqWs]
 | x::xs,[]=> by simp [eqWs]
 | x::xs,y::ys=> by
  have ih:=bi xs ys
  rw [eqWs,← ih]
  simp only [List.length_cons,Nat.succ_min_succ]
  rw [List.range_succ_eq_map,List.all_cons,List.all_map]
  have e:((xs.length+1==ys.length+1))=(xs.length==ys.length):=by simp
  rw [e,Bool.and_assoc]
  rfl
theorem Rp.one {X:Cx} {pins:List (Addr×Obj)} {σ:St} {H:Hp} {s:Shared} (I:Inv X pins σ H s) {v:V} {x:U} (h:Rp X.K H v x):∀ {n:Nat} {y:U},Rp X.K H v y→okU n x=true→eqW x y=true:=by
 have key:∀ {vs ws:List V} {xs ys:List U},vs=ws→vs.length=xs.length→ws.length=ys.length→(∀ (i:Nat) (x y:U),xs[i]?=some x→ys[i]?=some y→eqW x y=true)→eqWs xs ys=true:=fun {vs ws xs ys} e h1 h2 hh=> by
  subst e
  rw [← bi,Bool.and_eq_true,dz]
  refine ⟨fun j hj=> ?_,by simp [← h1,← h2]⟩
  have j1:j < xs.length:=by omega
  have j2:j < ys.length:=by omega
  rw [List.getD_eq_getElem?_getD,List.getElem?_eq_getElem j1,List.getD_eq_getElem?_getD,List.getElem?_eq_getElem j2]
  exact hh j _ _ (List.getElem?_eq_getElem j1) (List.getElem?_eq_getElem j2)
 have key2:∀ {vs:List V} {xs ys:List U} {n:Nat},vs.length=xs.length→(∀ (i:Nat) (v:V) (x:U),vs[i]?=some v→xs[i]?=some x→∀ {n:Nat} {y:U},Rp X.K H v y→okU n x=true→eqW x y=true)→(∀ (i:Nat) (v:V) (y:U),vs[i]?=some v→ys[i]?=some y→Rp X.K H v y)→okUs n xs=true→
   ∀ (i:Nat) (x y:U),xs[i]?=some x→ys[i]?=some y→eqW x y=true:=fun {vs xs ys n} h1 ih hi ok i x y e1 e2=> by
  have hlt:i < vs.length:=by rw [h1]; exact ax e1
  exact ih i _ x (List.getElem?_eq_getElem hlt) e1 (hi i _ y (List.getElem?_eq_getElem hlt) e2) (cM ok e1)
 induction h with
 | non=> intro n y q _; cases q; rfl
 | bl b=> intro n y q _; cases q; simp [eqW]
 | int i=> intro n y q _; cases q; simp [eqW]
 | str i=> intro n y q _; cases q; simp [eqW]
 | ty=> intro n y q ok; simp [okU] at ok
 | dic=> intro n y q ok; simp [okU] at ok
 | xc=> intro n y q ok; simp [okU] at ok
 | @scr a vs xs hq hl hi ih=>
  intro n y q ok
  cases n with
  | zero=> simp [okU] at ok
  | succ n=>
   rw [okU] at ok
   cases q with
   | scr hq' hl' hi'=> rw [eqW]; have e:=I.list_inj hq hq'; subst e; exact key rfl hl hl' (key2 hl (fun i v x a b=> ih i v x a b) hi' ok)
   | lst hq' hl' hi'=> rw [eqW]; have e:=I.list_inj hq (SqL.of hq'); subst e; exact key rfl hl hl' (key2 hl (fun i v x a b=> ih i v x a b) hi' ok)
   | xc hq' kk=>
    exfalso
    obtain ⟨_,_,pl,_⟩:=I.list hq
    obtain ⟨o,n,e,c,_⟩:=pl
    exact PySem.W.XcOk.off (I.hok _ _ hq').1 e c
   | dic hq'=>
    exfalso
    obtain ⟨_,_,pl,_⟩:=I.list hq
    obtain ⟨o,n,e,c,_⟩:=pl
    obtain ⟨_,_,_,_,o',_,_,e',ex,_⟩:=I.hok _ _ hq'
    rw [e] at e'; cases e'
    rw [ex.1] at c; exact absurd (Value.type.inj c) (by decide)
   | tup hq' hl' hi'=>
    exfalso
    obtain ⟨_,_,pl,_⟩:=I.list hq
    obtain ⟨_,_,pt,_⟩:=I.tuple hq'
    exact SeqAt.ne_of_list_tuple pl.isList pt rfl
 | @tup a vs xs hq hl hi ih=>
  intro n y q ok
  cases n with
  | zero=> simp [okU] at ok
  | succ n=>
   rw [okU] at ok
   cases q with
   | tup hq' hl' hi'=> rw [eqW]; have e:=I.tuple_inj hq hq'; subst e; exact key rfl hl hl' (key2 hl (fun i v x a b=> ih i v x a b) hi' ok)
   | scr hq' hl' hi'=>
    exfalso
    obtain ⟨_,_,pl,_⟩:=I.list hq'
    obtain ⟨_,_,pt,_⟩:=I.tuple hq
    exact SeqAt.ne_of_list_tuple pl.isList pt rfl
   | lst hq' hl' hi'=>
    exfalso
    obtain ⟨_,_,pl,_⟩:=I.list (SqL.of hq')
    obtain ⟨_,_,pt,_⟩:=I.tuple hq
    exact SeqAt.ne_of_list_tuple pl.isList pt rfl
   | xc hq' kk=>
    exfalso
    obtain ⟨_,_,pt,_⟩:=I.tuple hq
    obtain ⟨o,e,c,_⟩:=pt
    exact PySem.W.XcOk.off (I.hok _ _ hq').1 e c
   | dic hq'=>
    exfalso
    obtain ⟨_,_,pt,_⟩:=I.tuple hq
    obtain ⟨o,e,c,_⟩:=pt
    obtain ⟨_,_,_,_,o',_,_,e',ex,_⟩:=I.hok _ _ hq'
    rw [e] at e'; cases e'
    rw [ex.1] at c; exact absurd (Value.type.inj c) (by decide)
 | @lst a vs xs hq hl hi ih=>
  intro n y q ok
  cases n with
  | zero=> simp [okU] at ok
  | succ n=>
   rw [okU] at ok
   cases q with
   | lst hq' hl' hi'=> rw [eqW]; have e:=I.list_inj (SqL.of hq) (SqL.of hq'); subst e; exact key rfl hl hl' (key2 hl (fun i v x a b=> ih i v x a b) hi' ok)
   | scr hq' hl' hi'=> rw [eqW]; have e:=I.list_inj (SqL.of hq) hq'; subst e; exact key rfl hl hl' (key2 hl (fun i v x a b=> ih i v x a b) hi' ok)
   | tup hq' hl' hi'=>
    exfalso
    obtain ⟨_,_,pl,_⟩:=I.list (SqL.of hq)
    obtain ⟨_,_,pt,_⟩:=I.tuple hq'
    exact SeqAt.ne_of_list_tuple pl.isList pt rfl
   | xc hq' kk=>
    exfalso
    rw [hq] at hq'; cases hq'
   | dic hq'=>
    exfalso
    rw [hq] at hq'; cases hq'
theorem IsU.list {X:Cx} {pins:List (Addr×Obj)} {σ:St} {H:Hp} {s:Shared} (I:Inv X pins σ H s) {a:Addr} {xs:List U} {vs:List V} (h:SqL X.K H a vs) (hl:vs.length=xs.length):∃ its:List Value,ak vs its∧s.heap.IsList a its.toArray∧its.length=xs.length:=by
 obtain ⟨its,r,pl,_⟩:=I.list h
 exact ⟨its,r,pl.isList,by rw [← r.length,hl]⟩
theorem IsU.tup {X:Cx} {pins:List (Addr×Obj)} {σ:St} {H:Hp} {s:Shared} (I:Inv X pins σ H s) {a:Addr} {xs:List U} {vs:List V} (h:SqT X.K H a vs) (hl:vs.length=xs.length):∃ its:List Value,ak vs its∧IsTup s.heap a its.toArray∧its.length=xs.length:=by
 obtain ⟨its,r,pl,_⟩:=I.tuple h
 exact ⟨its,r,pl,by rw [← r.length,hl]⟩
section
variable {X:Cx} {pins:List (Addr×Obj)} {σ:St} {H:Hp} {s:Shared}
theorem aU (I:Inv X pins σ H s) {n:Nat} {vs ws:List V} {xs ys:List U} {its its2:List Value} (r1:ak vs its) (r2:ak ws its2) (hl1:vs.length=xs.length) (hl2:ws.length=ys.length)
  (h1:∀ (i:Nat) (v:V) (x:U),vs[i]?=some v→xs[i]?=some x→Rp X.K H v x) (h2:∀ (i:Nat) (v:V) (x:U),ws[i]?=some v→ys[i]?=some x→Rp X.K H v x) (ok1:okUs n xs=true) (ok2:okUs n ys=true) {A:Around}
  (rc0:∀ (x y:U) (v w:V) (p q:Value),Rp X.K H v x→Rp X.K H w y→av v p→av w q→okU n x=true→okU n y=true→SeqAt.RcAt A.in1 s p q (eqW x y)) (hu:A.units+n+1 < cLine)
  (j:Nat) (j1:j < its.length) (j2:j < its2.length):SeqAt.EqAt A.in1 s its[j] its2[j] (eqW (xs.getD j .non) (ys.getD j .non)):=by
 have a1:j < vs.length:=by rw [r1.length]; exact j1
 have a2:j < ws.length:=by rw [r2.length]; exact j2
 have b1:j < xs.length:=by omega
 have b2:j < ys.length:=by omega
 rw [List.getD_eq_getElem?_getD,List.getElem?_eq_getElem b1,List.getD_eq_getElem?_getD,List.getElem?_eq_getElem b2,Option.getD_some,Option.getD_some]
 have R1:=h1 j vs[j] xs[j] (List.getElem?_eq_getElem a1) (List.getElem?_eq_getElem b1)
 have R2:=h2 j ws[j] ys[j] (List.getElem?_eq_getElem a2) (List.getElem?_eq_getElem b2)
 obtain ⟨u1,e1,q1⟩:=r1.get (List.getElem?_eq_getElem a1)
 obtain ⟨u2,e2,q2⟩:=r2.get (List.getElem?_eq_getElem a2)
 rw [List.getElem?_eq_getElem j1] at e1
 rw [List.getElem?_eq_getElem j2] at e2
 cases e1; cases e2
 have o1:=cM ok1 (List.getElem?_eq_getElem b1)
 have o2:=cM ok2 (List.getElem?_eq_getElem b2)
 generalize vs[j]=v at *
 generalize ws[j]=w at *
 generalize its[j]=p at *
 generalize its2[j]=q at *
 generalize xs[j]=x at *
 generalize ys[j]=y at *
 have main:=rc0 x y v w p q R1 R2 q1 q2 o1 o2
 have ref_ref:∀ (a b:Addr),p=.ref a→q=.ref b→SeqAt.EqAt A.in1 s p q (eqW x y):=fun a b ea eb=> by
  subst ea eb
  by_cases e:a=b
  ·subst e
   have e2:v=w:=q1.inj q2
   subst e2
   rw [R1.one I R2 o1]
   exact SeqAt.EqAt.same _
  ·exact SeqAt.EqAt.of_refs e main
 have hu1:A.in1.units < cLine:=by show A.units+1 < _; omega
 cases R1 with
 | non=>
  cases (show p=Value.none from q1)
  cases R2 with
  | non=> cases (show q=Value.none from q2); exact SeqAt.EqAt.same _
  | bl b=> cases (show q=Value.bool b from q2); exact SeqAt.EqAt.none_bool b
  | int i=> obtain ⟨t,rfl⟩:=(show ∃ t,q=Value.int i t from q2); exact SeqAt.EqAt.none_int i t
  | str i=> obtain ⟨t,rfl⟩:=(show ∃ t,q=Value.str i t from q2); exact SeqAt.EqAt.none_str i t
  | ty=> simp [okU] at o2
  | dic=> simp [okU] at o2
  | xc=> simp [okU] at o2
  | scr hq hl hi=> cases q2; obtain ⟨_,_,pl,_⟩:=IsU.list I hq hl; exact SeqAt.EqAt.none_list pl hu1
  | tup hq hl hi=> cases q2; obtain ⟨_,_,pl,_⟩:=IsU.tup I hq hl; exact SeqAt.EqAt.none_tuple pl hu1
  | lst hq hl hi=> cases q2; obtain ⟨_,_,pl,_⟩:=IsU.list I (SqL.of hq) hl; exact SeqAt.EqAt.none_list pl hu1
 | bl c=>
  cases (show p=Value.bool c from q1)
  cases R2 with
  | non=> cases (show q=Value.none from q2); exact SeqAt.EqAt.bool_none c
  | bl b=> cases (show q=Value.bool b from q2); exact SeqAt.EqAt.bool_bool c b
  | int i=> obtain ⟨t,rfl⟩:=(show ∃ t,q=Value.int i t from q2); exact SeqAt.EqAt.bool_int c i t
  | str i=> obtain ⟨t,rfl⟩:=(show ∃ t,q=Value.str i t from q2); exact SeqAt.EqAt.bool_str c i t
  | ty=> simp [okU] at o2
  | dic=> simp [okU] at o2
  | xc=> simp [okU] at o2
  | scr hq hl hi=> cases q2; obtain ⟨_,_,pl,_⟩:=IsU.list I hq hl; exact SeqAt.EqAt.bool_list c pl hu1
  | tup hq hl hi=> cases q2; obtain ⟨_,_,pl,_⟩:=IsU.tup I hq hl; exact SeqAt.EqAt.bool_tuple c pl hu1
  | lst hq hl hi=> cases q2; obtain ⟨_,_,pl,_⟩:=IsU.list I (SqL.of hq) hl; exact SeqAt.EqAt.bool_list c pl hu1
 | int c=>
  obtain ⟨t0,rfl⟩:=(show ∃ t,p=Value.int c t from q1)
  cases R2 with
  | non=> cases (show q=Value.none from q2); exact SeqAt.EqAt.int_none c t0
  | bl b=> cases (show q=Value.bool b from q2); exact SeqAt.EqAt.int_bool c t0 b
  | int i=> obtain ⟨t,rfl⟩:=(show ∃ t,q=Value.int i t from q2); exact SeqAt.EqAt.int_int c t0 i t
  | str i=> obtain ⟨t,rfl⟩:=(show ∃ t,q=Value.str i t from q2); exact SeqAt.EqAt.int_str c t0 i t
  | ty=> simp [okU] at o2
  | dic=> simp [okU] at o2
  | xc=> simp [okU] at o2
  | scr hq hl hi=> cases q2; obtain ⟨_,_,pl,_⟩:=IsU.list I hq hl; exact SeqAt.EqAt.int_list c t0 pl hu1
  | tup hq hl hi=> cases q2; obtain ⟨_,_,pl,_⟩:=IsU.tup I hq hl; exact SeqAt.EqAt.int_tuple c t0 pl hu1
  | lst hq hl hi=> cases q2; obtain ⟨_,_,pl,_⟩:=IsU.list I (SqL.of hq) hl; exact SeqAt.EqAt.int_list c t0 pl hu1
 | str c=>
  obtain ⟨t0,rfl⟩:=(show ∃ t,p=Value.str c t from q1)
  cases R2 with
  | non=> cases (show q=Value.none from q2); exact SeqAt.EqAt.str_none c t0
  | bl b=> cases (show q=Value.bool b from q2); exact SeqAt.EqAt.str_bool c t0 b
  | int i=> obtain ⟨t,rfl⟩:=(show ∃ t,q=Value.int i t from q2); exact SeqAt.EqAt.str_int c t0 i t
  | str i=> obtain ⟨t,rfl⟩:=(show ∃ t,q=Value.str i t from q2); exact SeqAt.EqAt.str_str c t0 i t
  | ty=> simp [okU] at o2
  | dic=> simp [okU] at o2
  | xc=> simp [okU] at o2
  | scr hq hl hi=> cases q2; obtain ⟨_,_,pl,_⟩:=IsU.list I hq hl; exact SeqAt.EqAt.str_list c t0 pl hu1
  | tup hq hl hi=> cases q2; obtain ⟨_,_,pl,_⟩:=IsU.tup I hq hl; exact SeqAt.EqAt.str_tuple c t0 pl hu1
  | lst hq hl hi=> cases q2; obtain ⟨_,_,pl,_⟩:=IsU.list I (SqL.of hq) hl; exact SeqAt.EqAt.str_list c t0 pl hu1
 | ty=> simp [okU] at o1
 | dic=> simp [okU] at o1
 | xc=> simp [okU] at o1
 | @scr a vs xs hq hl hi=>
  cases q1
  obtain ⟨_,_,pl,_⟩:=IsU.list I hq hl
  cases R2 with
  | non=> cases (show q=Value.none from q2); exact SeqAt.EqAt.list_none pl hu1
  | bl b=> cases (show q=Value.bool b from q2); exact SeqAt.EqAt.list_bool b pl hu1
  | int i=> obtain ⟨t,rfl⟩:=(show ∃ t,q=Value.int i t from q2); exact SeqAt.EqAt.list_int i t pl hu1
  | str i=> obtain ⟨t,rfl⟩:=(show ∃ t,q=Value.str i t from q2); exact SeqAt.EqAt.list_str i t pl hu1
  | ty=> simp [okU] at o2
  | dic=> simp [okU] at o2
  | xc=> simp [okU] at o2
  | scr=> exact ref_ref _ _ rfl q2
  | tup=> exact ref_ref _ _ rfl q2
  | lst=> exact ref_ref _ _ rfl q2
 | @lst a vs xs hq hl hi=>
  cases q1
  obtain ⟨_,_,pl,_⟩:=IsU.list I (SqL.of hq) hl
  cases R2 with
  | non=> cases (show q=Value.none from q2); exact SeqAt.EqAt.list_none pl hu1
  | bl b=> cases (show q=Value.bool b from q2); exact SeqAt.EqAt.list_bool b pl hu1
  | int i=> obtain ⟨t,rfl⟩:=(show ∃ t,q=Value.int i t from q2); exact SeqAt.EqAt.list_int i t pl hu1
  | str i=> obtain ⟨t,rfl⟩:=(show ∃ t,q=Value.str i t from q2); exact SeqAt.EqAt.list_str i t pl hu1
  | ty=> simp [okU] at o2
  | dic=> simp [okU] at o2
  | xc=> simp [okU] at o2
  | scr=> exact ref_ref _ _ rfl q2
  | tup=> exact ref_ref _ _ rfl q2
  | lst=> exact ref_ref _ _ rfl q2
 | @tup a vs xs hq hl hi=>
  cases q1
  obtain ⟨_,_,pl,_⟩:=IsU.tup I hq hl
  cases R2 with
  | non=> cases (show q=Value.none from q2); exact SeqAt.EqAt.tuple_none pl hu1
  | bl b=> cases (show q=Value.bool b from q2); exact SeqAt.EqAt.tuple_bool b pl hu1
  | int i=> obtain ⟨t,rfl⟩:=(show ∃ t,q=Value.int i t from q2); exact SeqAt.EqAt.tuple_int i t pl hu1
  | str i=> obtain ⟨t,rfl⟩:=(show ∃ t,q=Value.str i t from q2); exact SeqAt.EqAt.tuple_str i t pl hu1
  | ty=> simp [okU] at o2
  | dic=> simp [okU] at o2
  | xc=> simp [okU] at o2
  | scr=> exact ref_ref _ _ rfl q2
  | tup=> exact ref_ref _ _ rfl q2
  | lst=> exact ref_ref _ _ rfl q2
theorem cx {A:Around} {n:Nat} {a b:Addr} {xs ys:List U} {its its2:List Value} (p1:s.heap.IsList a its.toArray) (p2:s.heap.IsList b its2.toArray) (l1:its.length=xs.length) (l2:its2.length=ys.length) (hu:A.units+n < cLine)
  (he:∀ (j:Nat) (j1:j < its.length) (j2:j < its2.length),SeqAt.EqAt A.in1 s its[j] its2[j] (eqW (xs.getD j .non) (ys.getD j .non))):SeqAt.RcAt A s (.ref a) (.ref b) (eqWs xs ys):=by
 by_cases hl:its.length=its2.length
 ·have:=SeqAt.RcAt.lists (A:=A) (s:=s) (e:=fun j=> eqW (xs.getD j .non) (ys.getD j .non)) p1 p2 (by simpa using hl) (by omega) (fun j h1 h2=> by simpa using he j (by simpa using h1) (by simpa using h2))
  rw [← bi,← l1,← l2,hl,Nat.min_self,beq_self_eq_true,Bool.and_true]
  rwa [List.size_toArray,hl] at this
 ·have:=SeqAt.RcAt.lists_lengths (A:=A) (s:=s) p1 p2 (by simpa using hl) (by omega)
  rw [← bi,← l1,← l2,show (its.length==its2.length)=false by simpa using hl,Bool.and_false]
  exact this
theorem iy {A:Around} {n:Nat} {a b:Addr} {xs ys:List U} {its its2:List Value} (p1:IsTup s.heap a its.toArray) (p2:IsTup s.heap b its2.toArray) (l1:its.length=xs.length) (l2:its2.length=ys.length) (hu:A.units+n < cLine)
  (he:∀ (j:Nat) (j1:j < its.length) (j2:j < its2.length),SeqAt.EqAt A.in1 s its[j] its2[j] (eqW (xs.getD j .non) (ys.getD j .non))):SeqAt.RcAt A s (.ref a) (.ref b) (eqWs xs ys):=by
 have:=SeqAt.RcAt.tuples (A:=A) (s:=s) (e:=fun j=> eqW (xs.getD j .non) (ys.getD j .non)) p1 p2 (by omega) (fun j h1 h2=> by simpa using he j (by simpa using h1) (by simpa using h2))
 rw [List.size_toArray,List.size_toArray,l1,l2,bi] at this
 exact this
theorem kj (I:Inv X pins σ H s):∀ (n:Nat) (A:Around) (x y:U) (v w:V) (p q:Value),Rp X.K H v x→Rp X.K H w y→av v p→av w q→okU n x=true→okU n y=true→A.units+n < cLine→SeqAt.RcAt A s p q (eqW x y):=by
 intro n
 induction n with
 | zero=>
  intro A x y v w p q R1 R2 q1 q2 o1 o2 hu
  cases R1 with
  | non=>
   cases (show p=Value.none from q1)
   cases R2 with
   | non=> cases (show q=Value.none from q2); exact SeqAt.RcAt.none_none
   | bl b=> cases (show q=Value.bool b from q2); exact SeqAt.RcAt.none_bool b
   | int i=> obtain ⟨t,rfl⟩:=(show ∃ t,q=Value.int i t from q2); exact SeqAt.RcAt.none_int i t
   | str i=> obtain ⟨t,rfl⟩:=(show ∃ t,q=Value.str i t from q2); exact SeqAt.RcAt.none_str i t
   | _=> simp [okU] at o2
  | bl c=>
   cases (show p=Value.bool c from q1)
   cases R2 with
   | non=> cases (show q=Value.none from q2); exact SeqAt.RcAt.bool_none c
   | bl b=> cases (show q=Value.bool b from q2); exact SeqAt.RcAt.bool_bool c b
   | int i=> obtain ⟨t,rfl⟩:=(show ∃ t,q=Value.int i t from q2); exact SeqAt.RcAt.bool_int c i t
   | str i=> obtain ⟨t,rfl⟩:=(show ∃ t,q=Value.str i t from q2); exact SeqAt.RcAt.bool_str c i t
   | _=> simp [okU] at o2
  | int c=>
   obtain ⟨t0,rfl⟩:=(show ∃ t,p=Value.int c t from q1)
   cases R2 with
   | non=> cases (show q=Value.none from q2); exact SeqAt.RcAt.int_none c t0
   | bl b=> cases (show q=Value.bool b from q2); exact SeqAt.RcAt.int_bool c t0 b
   | int i=> obtain ⟨t,rfl⟩:=(show ∃ t,q=Value.int i t from q2); exact SeqAt.RcAt.int_int c t0 i t
   | str i=> obtain ⟨t,rfl⟩:=(show ∃ t,q=Value.str i t from q2); exact SeqAt.RcAt.int_str c t0 i t
   | _=> simp [okU] at o2
  | str c=>
   obtain ⟨t0,rfl⟩:=(show ∃ t,p=Value.str c t from q1)
   cases R2 with
   | non=> cases (show q=Value.none from q2); exact SeqAt.RcAt.str_none c t0
   | bl b=> cases (show q=Value.bool b from q2); exact SeqAt.RcAt.str_bool c t0 b
   | int i=> obtain ⟨t,rfl⟩:=(show ∃ t,q=Value.int i t from q2); exact SeqAt.RcAt.str_int c t0 i t
   | str i=> obtain ⟨t,rfl⟩:=(show ∃ t,q=Value.str i t from q2); exact SeqAt.RcAt.str_str c t0 i t
   | _=> simp [okU] at o2
  | _=> simp [okU] at o1
 | succ n ih=>
  intro A x y v w p q R1 R2 q1 q2 o1 o2 hu
  have hu1:A.units < cLine:=by omega
  have rc0:∀ (x y:U) (v w:V) (p q:Value),Rp X.K H v x→Rp X.K H w y→av v p→av w q→okU n x=true→okU n y=true→SeqAt.RcAt A.in1 s p q (eqW x y):=fun x y v w p q r1 r2 k1 k2 z1 z2=> ih A.in1 x y v w p q r1 r2 k1 k2 z1 z2 (by show A.units+1+n < _; omega)
  cases R1 with
  | non=>
   cases (show p=Value.none from q1)
   cases R2 with
   | non=> cases (show q=Value.none from q2); exact SeqAt.RcAt.none_none
   | bl b=> cases (show q=Value.bool b from q2); exact SeqAt.RcAt.none_bool b
   | int i=> obtain ⟨t,rfl⟩:=(show ∃ t,q=Value.int i t from q2); exact SeqAt.RcAt.none_int i t
   | str i=> obtain ⟨t,rfl⟩:=(show ∃ t,q=Value.str i t from q2); exact SeqAt.RcAt.none_str i t
   | ty=> simp [okU] at o2
   | dic=> simp [okU] at o2
   | xc=> simp [okU] at o2
   | scr hq hl hi=> cases q2; obtain ⟨_,_,pl,_⟩:=IsU.list I hq hl; exact SeqAt.RcAt.none_list pl hu1
   | tup hq hl hi=> cases q2; obtain ⟨_,_,pl,_⟩:=IsU.tup I hq hl; exact SeqAt.RcAt.none_tuple pl hu1
   | lst hq hl hi=> cases q2; obtain ⟨_,_,pl,_⟩:=IsU.list I (SqL.of hq) hl; exact SeqAt.RcAt.none_list pl hu1
  | bl c=>
   cases (show p=Value.bool c from q1)
   cases R2 with
   | non=> cases (show q=Value.none from q2); exact SeqAt.RcAt.bool_none c
   | bl b=> cases (show q=Value.bool b from q2); exact SeqAt.RcAt.bool_bool c b
   | int i=> obtain ⟨t,rfl⟩:=(show ∃ t,q=Value.int i t from q2); exact SeqAt.RcAt.bool_int c i t
   | str i=> obtain ⟨t,rfl⟩:=(show ∃ t,q=Value.str i t from q2); exact SeqAt.RcAt.bool_str c i t
   | ty=> simp [okU] at o2
   | dic=> simp [okU] at o2
   | xc=> simp [okU] at o2
   | scr hq hl hi=> cases q2; obtain ⟨_,_,pl,_⟩:=IsU.list I hq hl; exact SeqAt.RcAt.bool_list c pl hu1
   | tup hq hl hi=> cases q2; obtain ⟨_,_,pl,_⟩:=IsU.tup I hq hl; exact SeqAt.RcAt.bool_tuple c pl hu1
   | lst hq hl hi=> cases q2; obtain ⟨_,_,pl,_⟩:=IsU.list I (SqL.of hq) hl; exact SeqAt.RcAt.bool_list c pl hu1
  | int c=>
   obtain ⟨t0,rfl⟩:=(show ∃ t,p=Value.int c t from q1)
   cases R2 with
   | non=> cases (show q=Value.none from q2); exact SeqAt.RcAt.int_none c t0
   | bl b=> cases (show q=Value.bool b from q2); exact SeqAt.RcAt.int_bool c t0 b
   | int i=> obtain ⟨t,rfl⟩:=(show ∃ t,q=Value.int i t from q2); exact SeqAt.RcAt.int_int c t0 i t
   | str i=> obtain ⟨t,rfl⟩:=(show ∃ t,q=Value.str i t from q2); exact SeqAt.RcAt.int_str c t0 i t
   | ty=> simp [okU] at o2
   | dic=> simp [okU] at o2
   | xc=> simp [okU] at o2
   | scr hq hl hi=> cases q2; obtain ⟨_,_,pl,_⟩:=IsU.list I hq hl; exact SeqAt.RcAt.int_list c t0 pl hu1
   | tup hq hl hi=> cases q2; obtain ⟨_,_,pl,_⟩:=IsU.tup I hq hl; exact SeqAt.RcAt.int_tuple c t0 pl hu1
   | lst hq hl hi=> cases q2; obtain ⟨_,_,pl,_⟩:=IsU.list I (SqL.of hq) hl; exact SeqAt.RcAt.int_list c t0 pl hu1
  | str c=>
   obtain ⟨t0,rfl⟩:=(show ∃ t,p=Value.str c t from q1)
   cases R2 with
   | non=> cases (show q=Value.none from q2); exact SeqAt.RcAt.str_none c t0
   | bl b=> cases (show q=Value.bool b from q2); exact SeqAt.RcAt.str_bool c t0 b
   | int i=> obtain ⟨t,rfl⟩:=(show ∃ t,q=Value.int i t from q2); exact SeqAt.RcAt.str_int c t0 i t
   | str i=> obtain ⟨t,rfl⟩:=(show ∃ t,q=Value.str i t from q2); exact SeqAt.RcAt.str_str c t0 i t
   | ty=> simp [okU] at o2
   | dic=> simp [okU] at o2
   | xc=> simp [okU] at o2
   | scr hq hl hi=> cases q2; obtain ⟨_,_,pl,_⟩:=IsU.list I hq hl; exact SeqAt.RcAt.str_list c t0 pl hu1
   | tup hq hl hi=> cases q2; obtain ⟨_,_,pl,_⟩:=IsU.tup I hq hl; exact SeqAt.RcAt.str_tuple c t0 pl hu1
   | lst hq hl hi=> cases q2; obtain ⟨_,_,pl,_⟩:=IsU.list I (SqL.of hq) hl; exact SeqAt.RcAt.str_list c t0 pl hu1
  | ty=> simp [okU] at o1
  | dic=> simp [okU] at o1
  | xc=> simp [okU] at o1
  | @scr a vs xs hq hl hi=>
   cases q1
   obtain ⟨its,r1,pl,l1⟩:=IsU.list I hq hl
   rw [okU] at o1
   cases R2 with
   | non=> cases (show q=Value.none from q2); exact SeqAt.RcAt.list_none pl hu1
   | bl b=> cases (show q=Value.bool b from q2); exact SeqAt.RcAt.list_bool b pl hu1
   | int i=> obtain ⟨t,rfl⟩:=(show ∃ t,q=Value.int i t from q2); exact SeqAt.RcAt.list_int i t pl hu1
   | str i=> obtain ⟨t,rfl⟩:=(show ∃ t,q=Value.str i t from q2); exact SeqAt.RcAt.list_str i t pl hu1
   | ty=> simp [okU] at o2
   | dic=> simp [okU] at o2
   | xc=> simp [okU] at o2
   | scr hq' hl' hi'=> cases q2; rw [okU] at o2; obtain ⟨its2,r2,pl2,l2⟩:=IsU.list I hq' hl'; rw [eqW]; exact cx pl pl2 l1 l2 hu (aU I r1 r2 hl hl' hi hi' o1 o2 rc0 (by omega))
   | lst hq' hl' hi'=> cases q2; rw [okU] at o2; obtain ⟨its2,r2,pl2,l2⟩:=IsU.list I (SqL.of hq') hl'; rw [eqW]; exact cx pl pl2 l1 l2 hu (aU I r1 r2 hl hl' hi hi' o1 o2 rc0 (by omega))
   | tup hq' hl' hi'=> cases q2; obtain ⟨its2,r2,pl2,l2⟩:=IsU.tup I hq' hl'; exact SeqAt.RcAt.list_tuple pl pl2 hu1
  | @lst a vs xs hq hl hi=>
   cases q1
   obtain ⟨its,r1,pl,l1⟩:=IsU.list I (SqL.of hq) hl
   rw [okU] at o1
   cases R2 with
   | non=> cases (show q=Value.none from q2); exact SeqAt.RcAt.list_none pl hu1
   | bl b=> cases (show q=Value.bool b from q2); exact SeqAt.RcAt.list_bool b pl hu1
   | int i=> obtain ⟨t,rfl⟩:=(show ∃ t,q=Value.int i t from q2); exact SeqAt.RcAt.list_int i t pl hu1
   | str i=> obtain ⟨t,rfl⟩:=(show ∃ t,q=Value.str i t from q2); exact SeqAt.RcAt.list_str i t pl hu1
   | ty=> simp [okU] at o2
   | dic=> simp [okU] at o2
   | xc=> simp [okU] at o2
   | scr hq' hl' hi'=> cases q2; rw [okU] at o2; obtain ⟨its2,r2,pl2,l2⟩:=IsU.list I hq' hl'; rw [eqW]; exact cx pl pl2 l1 l2 hu (aU I r1 r2 hl hl' hi hi' o1 o2 rc0 (by omega))
   | lst hq' hl' hi'=> cases q2; rw [okU] at o2; obtain ⟨its2,r2,pl2,l2⟩:=IsU.list I (SqL.of hq') hl'; rw [eqW]; exact cx pl pl2 l1 l2 hu (aU I r1 r2 hl hl' hi hi' o1 o2 rc0 (by omega))
   | tup hq' hl' hi'=> cases q2; obtain ⟨its2,r2,pl2,l2⟩:=IsU.tup I hq' hl'; exact SeqAt.RcAt.list_tuple pl pl2 hu1
  | @tup a vs xs hq hl hi=>
   cases q1
   obtain ⟨its,r1,pl,l1⟩:=IsU.tup I hq hl
   rw [okU] at o1
   cases R2 with
   | non=> cases (show q=Value.none from q2); exact SeqAt.RcAt.tuple_none pl hu1
   | bl b=> cases (show q=Value.bool b from q2); exact SeqAt.RcAt.tuple_bool b pl hu1
   | int i=> obtain ⟨t,rfl⟩:=(show ∃ t,q=Value.int i t from q2); exact SeqAt.RcAt.tuple_int i t pl hu1
   | str i=> obtain ⟨t,rfl⟩:=(show ∃ t,q=Value.str i t from q2); exact SeqAt.RcAt.tuple_str i t pl hu1
   | ty=> simp [okU] at o2
   | dic=> simp [okU] at o2
   | xc=> simp [okU] at o2
   | scr hq' hl' hi'=> cases q2; obtain ⟨its2,r2,pl2,l2⟩:=IsU.list I hq' hl'; exact SeqAt.RcAt.tuple_list pl pl2 hu1
   | lst hq' hl' hi'=> cases q2; obtain ⟨its2,r2,pl2,l2⟩:=IsU.list I (SqL.of hq') hl'; exact SeqAt.RcAt.tuple_list pl pl2 hu1
   | tup hq' hl' hi'=> cases q2; rw [okU] at o2; obtain ⟨its2,r2,pl2,l2⟩:=IsU.tup I hq' hl'; rw [eqW]; exact iy pl pl2 l1 l2 hu (aU I r1 r2 hl hl' hi hi' o1 o2 rc0 (by omega))
end
end L2
namespace L2
open PySem PySem.Spec PyProof.Rows
section
variable {X:Cx} {pins:List (Addr×Obj)} {σ:St} {H:Hp} {s:Shared}
theorem bF {A:Around} {n:Nat} {a b:Addr} {xs ys:List U} {its its2:List Value} (p1:s.heap.IsList a its.toArray) (p2:s.heap.IsList b its2.toArray) (l1:its.length=xs.length) (l2:its2.length=ys.length) (hu:A.units+n < cLine)
  (he:∀ (j:Nat) (j1:j < its.length) (j2:j < its2.length),SeqAt.EqAt A.in1 s its[j] its2[j] (eqW (xs.getD j .non) (ys.getD j .non))):SeqAt.RcNeAt A s (.ref a) (.ref b) (!eqWs xs ys):=by
 by_cases hl:its.length=its2.length
 ·have:=SeqAt.RcNeAt.lists (A:=A) (s:=s) (e:=fun j=> eqW (xs.getD j .non) (ys.getD j .non)) p1 p2 (by simpa using hl) (by omega) (fun j h1 h2=> by simpa using he j (by simpa using h1) (by simpa using h2))
  rw [← bi,← l1,← l2,hl,Nat.min_self,beq_self_eq_true,Bool.and_true]
  rwa [List.size_toArray,hl] at this
 ·have:=SeqAt.RcNeAt.lists_lengths (A:=A) (s:=s) p1 p2 (by simpa using hl) (by omega)
  rw [← bi,← l1,← l2,show (its.length==its2.length)=false by simpa using hl,Bool.and_false]
  exact this
theorem fW {A:Around} {n:Nat} {a b:Addr} {xs ys:List U} {its its2:List Value} (p1:IsTup s.heap a its.toArray) (p2:IsTup s.heap b its2.toArray) (l1:its.length=xs.length) (l2:its2.length=ys.length) (hu:A.units+n < cLine)
  (he:∀ (j:Nat) (j1:j < its.length) (j2:j < its2.length),SeqAt.EqAt A.in1 s its[j] its2[j] (eqW (xs.getD j .non) (ys.getD j .non))):SeqAt.RcNeAt A s (.ref a) (.ref b) (!eqWs xs ys):=by
 have:=SeqAt.RcNeAt.tuples (A:=A) (s:=s) (e:=fun j=> eqW (xs.getD j .non) (ys.getD j .non)) p1 p2 (by omega) (fun j h1 h2=> by simpa using he j (by simpa using h1) (by simpa using h2))
 rw [List.size_toArray,List.size_toArray,l1,l2,bi] at this
 exact this
theorem jG (I:Inv X pins σ H s) (n:Nat) (A:Around) (x y:U) (v w:V) (p q:Value) (R1:Rp X.K H v x) (R2:Rp X.K H w y) (q1:av v p) (q2:av w q) (o1:okU (n+1) x=true) (o2:okU (n+1) y=true) (hu:A.units+(n+1) < cLine):SeqAt.RcNeAt A s p q (!eqW x y):=by
 have hu1:A.units < cLine:=by omega
 have rc0:∀ (x y:U) (v w:V) (p q:Value),Rp X.K H v x→Rp X.K H w y→av v p→av w q→okU n x=true→okU n y=true→SeqAt.RcAt A.in1 s p q (eqW x y):=fun x y v w p q r1 r2 k1 k2 z1 z2=> kj I n A.in1 x y v w p q r1 r2 k1 k2 z1 z2 (by show A.units+1+n < _; omega)
 cases R1 with
 | ty=> simp [okU] at o1
 | dic=> simp [okU] at o1
 | xc=> simp [okU] at o1
 | non=>
  cases (show p=Value.none from q1)
  cases R2 with
  | ty=> simp [okU] at o2
  | dic=> simp [okU] at o2
  | xc=> simp [okU] at o2
  | non=> cases (show q=Value.none from q2); exact SeqAt.RcNeAt.none_none
  | bl c2=> cases (show q=Value.bool c2 from q2); exact SeqAt.RcNeAt.none_bool c2
  | int c2=> obtain ⟨t2,rfl⟩:=(show ∃ t,q=Value.int c2 t from q2); exact SeqAt.RcNeAt.none_int c2 t2
  | str c2=> obtain ⟨t2,rfl⟩:=(show ∃ t,q=Value.str c2 t from q2); exact SeqAt.RcNeAt.none_str c2 t2
  | scr hq2 hl2 hi2=> cases q2; obtain ⟨its2,r2,pl2,l2⟩:=IsU.list I hq2 hl2; exact SeqAt.RcNeAt.none_list pl2 hu1
  | tup hq2 hl2 hi2=> cases q2; obtain ⟨its2,r2,pl2,l2⟩:=IsU.tup I hq2 hl2; exact SeqAt.RcNeAt.none_tuple pl2 hu1
  | lst hq2 hl2 hi2=> cases q2; obtain ⟨its2,r2,pl2,l2⟩:=IsU.list I (SqL.of hq2) hl2; exact SeqAt.RcNeAt.none_list pl2 hu1
 | bl c1=>
  cases (show p=Value.bool c1 from q1)
  cases R2 with
  | ty=> simp [okU] at o2
  | dic=> simp [okU] at o2
  | xc=> simp [okU] at o2
  | non=> cases (show q=Value.none from q2); exact SeqAt.RcNeAt.bool_none c1
  | bl c2=> cases (show q=Value.bool c2 from q2); exact SeqAt.RcNeAt.bool_bool c1 c2
  | int c2=> obtain ⟨t2,rfl⟩:=(show ∃ t,q=Value.int c2 t from q2); exact SeqAt.RcNeAt.bool_int c1 c2 t2
  | str c2=> obtain ⟨t2,rfl⟩:=(show ∃ t,q=Value.str c2 t from q2); exact SeqAt.RcNeAt.bool_str c1 c2 t2
  | scr hq2 hl2 hi2=> cases q2; obtain ⟨its2,r2,pl2,l2⟩:=IsU.list I hq2 hl2; exact SeqAt.RcNeAt.bool_list c1 pl2 hu1
  | tup hq2 hl2 hi2=> cases q2; obtain ⟨its2,r2,pl2,l2⟩:=IsU.tup I hq2 hl2; exact SeqAt.RcNeAt.bool_tuple c1 pl2 hu1
  | lst hq2 hl2 hi2=> cases q2; obtain ⟨its2,r2,pl2,l2⟩:=IsU.list I (SqL.of hq2) hl2; exact SeqAt.RcNeAt.bool_list c1 pl2 hu1
 | int c1=>
  obtain ⟨t1,rfl⟩:=(show ∃ t,p=Value.int c1 t from q1)
  cases R2 with
  | ty=> simp [okU] at o2
  | dic=> simp [okU] at o2
  | xc=> simp [okU] at o2
  | non=> cases (show q=Value.none from q2); exact SeqAt.RcNeAt.int_none c1 t1
  | bl c2=> cases (show q=Value.bool c2 from q2); exact SeqAt.RcNeAt.int_bool c1 t1 c2
  | int c2=> obtain ⟨t2,rfl⟩:=(show ∃ t,q=Value.int c2 t from q2); exact SeqAt.RcNeAt.int_int c1 t1 c2 t2
  | str c2=> obtain ⟨t2,rfl⟩:=(show ∃ t,q=Value.str c2 t from q2); exact SeqAt.RcNeAt.int_str c1 t1 c2 t2
  | scr hq2 hl2 hi2=> cases q2; obtain ⟨its2,r2,pl2,l2⟩:=IsU.list I hq2 hl2; exact SeqAt.RcNeAt.int_list c1 t1 pl2 hu1
  | tup hq2 hl2 hi2=> cases q2; obtain ⟨its2,r2,pl2,l2⟩:=IsU.tup I hq2 hl2; exact SeqAt.RcNeAt.int_tuple c1 t1 pl2 hu1
  | lst hq2 hl2 hi2=> cases q2; obtain ⟨its2,r2,pl2,l2⟩:=IsU.list I (SqL.of hq2) hl2; exact SeqAt.RcNeAt.int_list c1 t1 pl2 hu1
 | str c1=>
  obtain ⟨t1,rfl⟩:=(show ∃ t,p=Value.str c1 t from q1)
  cases R2 with
  | ty=> simp [okU] at o2
  | dic=> simp [okU] at o2
  | xc=> simp [okU] at o2
  | non=> cases (show q=Value.none from q2); exact SeqAt.RcNeAt.str_none c1 t1
  | bl c2=> cases (show q=Value.bool c2 from q2); exact SeqAt.RcNeAt.str_bool c1 t1 c2
  | int c2=> obtain ⟨t2,rfl⟩:=(show ∃ t,q=Value.int c2 t from q2); exact SeqAt.RcNeAt.str_int c1 t1 c2 t2
  | str c2=> obtain ⟨t2,rfl⟩:=(show ∃ t,q=Value.str c2 t from q2); exact SeqAt.RcNeAt.str_str c1 t1 c2 t2
  | scr hq2 hl2 hi2=> cases q2; obtain ⟨its2,r2,pl2,l2⟩:=IsU.list I hq2 hl2; exact SeqAt.RcNeAt.str_list c1 t1 pl2 hu1
  | tup hq2 hl2 hi2=> cases q2; obtain ⟨its2,r2,pl2,l2⟩:=IsU.tup I hq2 hl2; exact SeqAt.RcNeAt.str_tuple c1 t1 pl2 hu1
  | lst hq2 hl2 hi2=> cases q2; obtain ⟨its2,r2,pl2,l2⟩:=IsU.list I (SqL.of hq2) hl2; exact SeqAt.RcNeAt.str_list c1 t1 pl2 hu1
 | scr hq1 hl1 hi1=>
  cases q1; obtain ⟨its1,r1,pl1,l1⟩:=IsU.list I hq1 hl1
  cases R2 with
  | ty=> simp [okU] at o2
  | dic=> simp [okU] at o2
  | xc=> simp [okU] at o2
  | non=> cases (show q=Value.none from q2); exact SeqAt.RcNeAt.list_none pl1 hu1
  | bl c2=> cases (show q=Value.bool c2 from q2); exact SeqAt.RcNeAt.list_bool c2 pl1 hu1
  | int c2=> obtain ⟨t2,rfl⟩:=(show ∃ t,q=Value.int c2 t from q2); exact SeqAt.RcNeAt.list_int c2 t2 pl1 hu1
  | str c2=> obtain ⟨t2,rfl⟩:=(show ∃ t,q=Value.str c2 t from q2); exact SeqAt.RcNeAt.list_str c2 t2 pl1 hu1
  | scr hq2 hl2 hi2=> cases q2; obtain ⟨its2,r2,pl2,l2⟩:=IsU.list I hq2 hl2; rw [okU] at o1; rw [okU] at o2; rw [eqW]; exact bF pl1 pl2 l1 l2 hu (aU I r1 r2 hl1 hl2 hi1 hi2 o1 o2 rc0 (by omega))
  | tup hq2 hl2 hi2=> cases q2; obtain ⟨its2,r2,pl2,l2⟩:=IsU.tup I hq2 hl2; exact SeqAt.RcNeAt.list_tuple pl1 pl2 hu1
  | lst hq2 hl2 hi2=> cases q2; obtain ⟨its2,r2,pl2,l2⟩:=IsU.list I (SqL.of hq2) hl2; rw [okU] at o1; rw [okU] at o2; rw [eqW]; exact bF pl1 pl2 l1 l2 hu (aU I r1 r2 hl1 hl2 hi1 hi2 o1 o2 rc0 (by omega))
 | tup hq1 hl1 hi1=>
  cases q1; obtain ⟨its1,r1,pl1,l1⟩:=IsU.tup I hq1 hl1
  cases R2 with
  | ty=> simp [okU] at o2
  | dic=> simp [okU] at o2
  | xc=> simp [okU] at o2
  | non=> cases (show q=Value.none from q2); exact SeqAt.RcNeAt.tuple_none pl1 hu1
  | bl c2=> cases (show q=Value.bool c2 from q2); exact SeqAt.RcNeAt.tuple_bool c2 pl1 hu1
  | int c2=> obtain ⟨t2,rfl⟩:=(show ∃ t,q=Value.int c2 t from q2); exact SeqAt.RcNeAt.tuple_int c2 t2 pl1 hu1
  | str c2=> obtain ⟨t2,rfl⟩:=(show ∃ t,q=Value.str c2 t from q2); exact SeqAt.RcNeAt.tuple_str c2 t2 pl1 hu1
  | scr hq2 hl2 hi2=> cases q2; obtain ⟨its2,r2,pl2,l2⟩:=IsU.list I hq2 hl2; exact SeqAt.RcNeAt.tuple_list pl1 pl2 hu1
  | tup hq2 hl2 hi2=> cases q2; obtain ⟨its2,r2,pl2,l2⟩:=IsU.tup I hq2 hl2; rw [okU] at o1; rw [okU] at o2; rw [eqW]; exact fW pl1 pl2 l1 l2 hu (aU I r1 r2 hl1 hl2 hi1 hi2 o1 o2 rc0 (by omega))
  | lst hq2 hl2 hi2=> cases q2; obtain ⟨its2,r2,pl2,l2⟩:=IsU.list I (SqL.of hq2) hl2; exact SeqAt.RcNeAt.tuple_list pl1 pl2 hu1
 | lst hq1 hl1 hi1=>
  cases q1; obtain ⟨its1,r1,pl1,l1⟩:=IsU.list I (SqL.of hq1) hl1
  cases R2 with
  | ty=> simp [okU] at o2
  | dic=> simp [okU] at o2
  | xc=> simp [okU] at o2
  | non=> cases (show q=Value.none from q2); exact SeqAt.RcNeAt.list_none pl1 hu1
  | bl c2=> cases (show q=Value.bool c2 from q2); exact SeqAt.RcNeAt.list_bool c2 pl1 hu1
  | int c2=> obtain ⟨t2,rfl⟩:=(show ∃ t,q=Value.int c2 t from q2); exact SeqAt.RcNeAt.list_int c2 t2 pl1 hu1
  | str c2=> obtain ⟨t2,rfl⟩:=(show ∃ t,q=Value.str c2 t from q2); exact SeqAt.RcNeAt.list_str c2 t2 pl1 hu1
  | scr hq2 hl2 hi2=> cases q2; obtain ⟨its2,r2,pl2,l2⟩:=IsU.list I hq2 hl2; rw [okU] at o1; rw [okU] at o2; rw [eqW]; exact bF pl1 pl2 l1 l2 hu (aU I r1 r2 hl1 hl2 hi1 hi2 o1 o2 rc0 (by omega))
  | tup hq2 hl2 hi2=> cases q2; obtain ⟨its2,r2,pl2,l2⟩:=IsU.tup I hq2 hl2; exact SeqAt.RcNeAt.list_tuple pl1 pl2 hu1
  | lst hq2 hl2 hi2=> cases q2; obtain ⟨its2,r2,pl2,l2⟩:=IsU.list I (SqL.of hq2) hl2; rw [okU] at o1; rw [okU] at o2; rw [eqW]; exact bF pl1 pl2 l1 l2 hu (aU I r1 r2 hl1 hl2 hi1 hi2 o1 o2 rc0 (by omega))
end
end L2
namespace L2
open PySem PySem.Spec PyProof.Rows
def OpS (X:Cx) (f:Value→Value→Sem Value) (x y:U) (z:V):Prop:=OpR X f fun v w H Q=> Rp X.K H v x∧Rp X.K H w y∧Q z H
section
variable {X:Cx} {H0:Hp} {O0:List Addr} {ps:PSt} {a b c e:Expr} {es bK:List Expr} {pos p:Pos} {u x y:U} {xs ys us:List U} {i j:Int} {k m:Bool}
theorem Rp.out {K:PySem.W.Frag} {H:Hp} {O:List Addr} {v:V} {u:U} (h:Rp K (hid H O) v u):Rp K H v u:=h.same am
theorem cv {op:CmpOp} (ho:OpS X (compareOp op) x y (.bl k)) (ha:Ev X H0 O0 ps a x) (hb:Ev X H0 O0 ps b y) (hm:behindInMarks op b=false:=by first | exact gM _ | with_unfolding_all rfl):Ev X H0 O0 ps (.Compare a [op] [b] pos) (.bl k):=
 PE.mono (iu ho ha hb hm) fun σ H Q ⟨O,R,q⟩=> two R (fun _ _ _ z=> z) (fun _ _ _ z=> z) fun v w H' s _ r1 r2=> ⟨r1.out,r2.out,q _ H' s (.bl _)⟩
theorem br {op:CmpOp} (ho:OpS X (compareOp op) x y (.bl k)) (ha:Ev X H0 O0 ps a x) (hb:Ev X H0 O0 ps b y) (hm:behindInMarks op b=false:=by first | exact gM _ | with_unfolding_all rfl):Tt X H0 O0 ps (.Compare a [op] [b] pos) k:=
 PT.mono (g_ ho ha hb hm) fun σ H Q ⟨O,R,q⟩=> two R (fun _ _ _ z=> z) (fun _ _ _ z=> z) fun v w H' s _ r1 r2=> ⟨r1.out,r2.out,_,rfl,q H' s⟩
theorem jW {op:CmpOp} {g:Int→Int→Bool} (ho:OpR X (compareOp op) (rI0 fun i j=> .bl (g i j))):OpS X (compareOp op) (.int i) (.int j) (.bl (g i j)):=by
 intro pins s σ H v w p q Q I r1 r2 h
 obtain ⟨h1,h2,h3⟩:=h
 cases h1; cases h2
 exact ho pins s σ H _ _ _ _ Q I r1 r2 ⟨i,j,rfl,rfl,h3⟩
theorem eK:OpS X (compareOp .Gt) (.int i) (.int j) (.bl (decide (j < i))):=jW kq
theorem eu (hu:X.A.units+10 < cLine) (h1:okU 9 x=true) (h2:okU 9 y=true):OpS X (compareOp .Eq) x y (.bl (eqW x y)):=by
 intro pins s σ H v w p q Q I r1 r2 h
 obtain ⟨k1,k2,k3⟩:=h
 exact kj I 9 X.A x y v w p q k1 k2 r1 r2 h1 h2 (by omega) X.prog X.w _ _ (aP I k3 rfl)
theorem j5 (hu:X.A.units+10 < cLine) (h1:okU 9 x=true) (h2:okU 9 y=true):OpS X (compareOp .NotEq) x y (.bl (!eqW x y)):=by
 intro pins s σ H v w p q Q I r1 r2 h
 obtain ⟨k1,k2,k3⟩:=h
 exact jG I 8 X.A x y v w p q k1 k2 r1 r2 h1 h2 (by omega) X.prog X.w _ _ (aP I k3 rfl)
theorem dn:OpS X (compareOp .Eq) (.int i) (.int j) (.bl (decide (i=j))):=by
 intro pins s σ H v w p q Q I r1 r2 h
 obtain ⟨h1,h2,h3⟩:=h
 cases h1; cases h2
 exact jZ pins s σ H _ _ _ _ Q I r1 r2 ⟨rfl,by rw [e_,← Bool.beq_eq_decide_eq] at *; simpa [Bool.beq_eq_decide_eq] using h3⟩
theorem fe (h:Ev X H0 O0 ps e (.bl k)) (he:∀ whole,isTrue e X.env whole=(do let v ← whole; standAt e.pos; holding [v] (truthy v)):=by intro _; rfl):Tt X H0 O0 ps e k:=
 PT.mono (jy h he) fun σ H Q ⟨O,R,q⟩=> ⟨O,R,fun v H' s r=> by cases r; exact ⟨_,rfl,q H' s⟩⟩
theorem e8 (h:Tt X H0 O0 ps a k):Tt X H0 O0 ps (.UnaryOp .Not a pos) (!k):=PT.mono (jF h) fun σ H Q ⟨O,R,q⟩=> ⟨O,R,q⟩
theorem Tw.t (h:Tw X H0 O0 ps e k):Tt X H0 O0 ps e k:=h.pt
theorem j4 (h:Tt X H0 O0 ps a k):Tw X H0 O0 ps (.BoolOp .Or [a] pos) k:=jh h
theorem kr (ha:Tt X H0 O0 ps a k) (hb:k=false→Tw X H0 O0 ps (.BoolOp .Or (b::bK) pos) m):Tw X H0 O0 ps (.BoolOp .Or (a::b::bK) pos) (k || m):=by
 cases k with
 | false=> exact PW.mono (iW ha (hb rfl)) fun σ H Q ⟨O,R,q⟩=> ⟨O,R,fun H' s=> by exact fC (⟨O,R.go s,fun H2 s2=> q H2 (s.trans s2)⟩)⟩
 | true=> exact PW.mono (iW ha (fun _ _ _ _ _ _ _ h=> h.elim) (tB':=fun _ _ _=> False)) fun σ H Q ⟨O,R,q⟩=> ⟨O,R,fun H' s=> by exact fZ (q H' s)⟩
theorem bo {op} (h:Ev X H0 O0 ps a u):Ev X H0 O0 ps (.BoolOp op [a] pos) u:=i8 h
theorem bA (ha:Ev X H0 O0 ps a (.bl k)) (hb:k=true→Ev X H0 O0 ps (.BoolOp .And (b::bK) pos) (.bl m)):Ev X H0 O0 ps (.BoolOp .And (a::b::bK) pos) (.bl (k && m)):=by
 cases k with
 | true=> exact PE.mono (gu ha (hb rfl)) fun σ H Q ⟨O,R,q⟩=> ⟨O,R,fun v H' s r=> by cases r; exact ⟨_,rfl,by exact fZ (⟨O,R.go s,fun v H2 s2 r2=> q v H2 (s.trans s2) r2⟩)⟩⟩
 | false=> exact PE.mono (gu ha (fun _ _ _ _ _ _ h=> h.elim) (tb:=fun _ _ _=> False)) fun σ H Q ⟨O,R,q⟩=> ⟨O,R,fun v H' s r=> by cases r; exact ⟨_,rfl,by exact fC (q _ H' s (.bl _))⟩⟩
theorem ko (ha:Ev X H0 O0 ps a (.bl k)) (hb:k=false→Ev X H0 O0 ps (.BoolOp .Or (b::bK) pos) (.bl m)):Ev X H0 O0 ps (.BoolOp .Or (a::b::bK) pos) (.bl (k || m)):=by
 cases k with
 | false=> exact PE.mono (iX ha (hb rfl)) fun σ H Q ⟨O,R,q⟩=> ⟨O,R,fun v H' s r=> by cases r; exact ⟨_,rfl,by exact fC (⟨O,R.go s,fun v H2 s2 r2=> q v H2 (s.trans s2) r2⟩)⟩⟩
 | true=> exact PE.mono (iX ha (fun _ _ _ _ _ _ h=> h.elim) (tb:=fun _ _ _=> False)) fun σ H Q ⟨O,R,q⟩=> ⟨O,R,fun v H' s r=> by cases r; exact ⟨_,rfl,by exact fZ (q _ H' s (.bl _))⟩⟩
theorem cn (ha:Ev X H0 O0 ps a (.bl k)):Ev X H0 O0 ps (.UnaryOp .Not a pos) (.bl (!k)):=PE.mono (jC ha) fun σ H Q ⟨O,R,q⟩=> ⟨O,R,fun v H' s r=> by cases r; exact ⟨_,rfl,q _ H' s (.bl _)⟩⟩
theorem ai:EvA X H0 O0 ps [] []:=PA.mono cP fun σ H Q ⟨O,R,q⟩=> q [] H (.refl H) .nil
theorem ae (ha:Ev X H0 O0 ps e u) (hr:EvA X H0 O0 ps es us) (hs:starEach (e::es) X.env=(false,eval e X.env)::starEach es X.env:=by rfl):EvA X H0 O0 ps (e::es) (u::us):=
 PA.mono (bW ha hr hs) fun σ H Q ⟨O,R,q⟩=> ⟨O,R,fun v H1 s1 r1=> ⟨O,R.go s1,fun vs H2 s2 r2=> q _ H2 (s1.trans s2) (.cons (r1.same (aK s2)) r2)⟩⟩
theorem Rs.hidnew {K:PySem.W.Frag} {σ:St} {H:Hp} {O:List Addr} (R:Rs K H0 O0 ps σ H O) {p:Addr} {o:HO} (n:H p=none):hid (upd H p o) O p=some o:=bI aF fun z=> R.dom p z n
theorem kC {x1} (h:EvA X H0 O0 ps es us) (hz:us.length≤sizeLine:=by first | decide | (simp only [List.length_cons,List.length_nil]; decide)):Ev X H0 O0 ps (.Tuple es x1 pos) (.tup us):=
 PE.mono (jL h) fun σ H Q ⟨O,R,q⟩=> ⟨O,R,fun vs H1 s1 r1=> ⟨by rw [r1.len]; exact hz,fun p hp=> by
  have s2:=aE hp (.tup vs)
  have r2:=r1.same (aK (O:=O) s2)
  exact q _ _ (s1.trans s2) (.tup (SqT.of ((R.go s1).hidnew hp)) r2.len r2.at_)⟩⟩
theorem kl (h:EvA X H0 O0 ps es us) (hz:us.length≤sizeLine:=by first | decide | (simp only [List.length_cons,List.length_nil]; decide)):EvN X H0 O0 ps (.List es pos) us:=
 PE.mono (jA h) fun σ H Q ⟨O,R,q⟩=> ⟨O,R,fun vs H1 s1 r1=> ⟨by rw [r1.len]; exact hz,fun p hp=> by
  exact q p vs _ (s1.trans (aE hp _)) (s1.free hp) aF (r1.same (bh (aE hp _) hp))⟩⟩
theorem fI (ha:Ev X H0 O0 ps a x) (hb:Ev X H0 O0 ps b (.int i)) (hx:x.items=some xs) (hi:atI xs i=some u) (hs:dP b:=by intro _ _; rfl):Ev X H0 O0 ps (.Subscript a b pos) u:=
 PE.mono (iS (fz.or je) ha hb hs) fun σ H Q ⟨O,R,q⟩=> two (y:=.int i) R (fun _ _ _ z=> z) (fun _ _ _ z=> z) fun v w H' s _ r1 r2=> by
  cases r2
  cases r1 with
  | scr h hl hh=> cases hx; obtain ⟨z,h1,h2⟩:=Rps.atI ⟨hl,hh⟩ hi; exact .inl ⟨_,_,i,z,rfl,rfl,am.seq h,h1,q z H' s h2⟩
  | lst h hl hh=> cases hx; obtain ⟨z,h1,h2⟩:=Rps.atI ⟨hl,hh⟩ hi; exact .inl ⟨_,_,i,z,rfl,rfl,am.seq (SqL.of h),h1,q z H' s h2⟩
  | tup h hl hh=> cases hx; obtain ⟨z,h1,h2⟩:=Rps.atI ⟨hl,hh⟩ hi; exact .inr ⟨_,_,i,z,rfl,rfl,am.tup h,h1,q z H' s h2⟩
  | _=> cases hx
theorem kD (n:Nat) {x:Str} (h:ps[n]?=some (some (.own xs))) (hb:Ev X H0 O0 ps b (.int i)) (hi:atI xs i=some u) (hN:X.N[n]?=some x:=by rfl) (hv:Vis X.env.scope x:=by first | exact Or.inl rfl | exact Or.inr (Or.inl rfl) | exact Or.inr (Or.inr rfl)) (hd:(x==("__debug__":Str))=false:=by decide)
  (hcd:(x==("__classdict__":Str))=false:=by decide) (hs:dP b:=by intro _ _; rfl):Ev X H0 O0 ps (.Subscript (.Name x p) b pos) u:=
 PE.mono (iS fz (cf hN hv hd hcd) hb hs) fun σ H Q ⟨O,R,q⟩=> by
  obtain ⟨v,h1,a,vs,rfl,h3,h4,h5,h6⟩:=R.at_ n _ h
  refine ⟨_,h1,O,R,fun w H' s r=> ?_⟩
  cases r
  obtain ⟨z,k1,k2⟩:=h6.atI hi
  exact ⟨a,vs,i,z,rfl,rfl,SqL.of (s _ _ h5),k1,q z H' s (k2.same (aK s))⟩
def ek (X:Cx) (f:Value) (us:List U) (u:U):Prop:=bL X f fun vs H Q=> ∃ O,(∀ a∈O,H a≠none)∧Rps X.K (hid H O) vs us∧∀ v H',al H H'→Rp X.K (hid H' O) v u→Q v H'
def iV (X:Cx) (f:Value) (us:List U) (xs:List U):Prop:=bL X f fun vs H Q=> ∃ O,(∀ a∈O,H a≠none)∧Rps X.K (hid H O) vs us∧∀ a vs H',al H H'→H a=none→H' a=some (.lst vs)→Rps X.K (hid H' (a::O)) vs xs→Q (.ref a) H'
theorem aj {id:String} {f:Str} (hc:ek X (.builtin id) us u) (hg:Gl X f) (hm:X.mg f=none) (hv:bootBuiltins f=some (.builtin id)) (ha:EvA X H0 O0 ps (e::es) us) (hn:f≠"__name__":=by decide) (hdb:(f==("__debug__":Str))=false:=by decide)
  (he:starEach (e::es) X.env=(false,eval e X.env)::starEach es X.env:=by rfl) (hpl:(backTo pos (starEach es X.env)).any (·.1)=false:=by rfl):Ev X H0 O0 ps (.Call (.Name f p) (e::es) [] pos) u:=
 PE.mono (cX hc hg hm hv ha hn hdb he hpl) fun σ H Q ⟨O,R,q⟩=> ⟨O,R,fun vs H1 s1 r1=> ⟨O,(R.go s1).dom,r1,fun v H2 s2 r2=> q v H2 (s1.trans s2) r2⟩⟩
theorem cj {id:String} {f:Str} (hc:iV X (.type id) us xs) (hg:Gl X f) (hm:X.mg f=none) (hv:bootBuiltins f=some (.type id)) (ha:EvA X H0 O0 ps (e::es) us) (hn:f≠"__name__":=by decide) (hdb:(f==("__debug__":Str))=false:=by decide)
  (he:starEach (e::es) X.env=(false,eval e X.env)::starEach es X.env:=by rfl) (hpl:(backTo pos (starEach es X.env)).any (·.1)=false:=by rfl):EvN X H0 O0 ps (.Call (.Name f p) (e::es) [] pos) xs:=
 PE.mono (fT hc hg hm hv ha hn hdb he hpl) fun σ H Q ⟨O,R,q⟩=> ⟨O,R,fun vs H1 s1 r1=> ⟨O,(R.go s1).dom,r1,fun a vs H2 s2 n h r2=> q a vs H2 (s1.trans s2) (s1.free n) h r2⟩⟩
theorem bV {K:PySem.W.Frag} {H:Hp} {vs:List V} (h:Rps K H vs [x]):∃ v,vs=[v]∧Rp K H v x:=by
 obtain ⟨v,ws,rfl,h1,h2⟩:=h.cons_inv
 rw [h2.nil_inv]
 exact ⟨v,rfl,h1⟩
theorem io {K:PySem.W.Frag} {H:Hp} {vs:List V} (h:Rps K H vs [x,y]):∃ v w,vs=[v,w]∧Rp K H v x∧Rp K H w y:=by
 obtain ⟨v,ws,rfl,h1,h2⟩:=h.cons_inv
 obtain ⟨w,rfl,h3⟩:=bV h2
 exact ⟨v,w,rfl,h1,h3⟩
theorem bL.mono {f:Value} {r r':List V→Hp→VK→Prop} (h:bL X f r) (m:∀ vs H Q,r' vs H Q→r vs H Q):bL X f r':=fun pins s σ H vs us Q I v q=> h pins s σ H vs us Q I v (m vs H Q q)
theorem fg {K:PySem.W.Frag} {H:Hp} {v:V} (h:Rp K H v x) (hx:x.items=some xs):∃ a vs,v=.ref a∧(SqL K H a vs∨SqT K H a vs)∧Rps K H vs xs:=by
 cases h with
 | scr h hl hh=> cases hx; exact ⟨_,_,rfl,.inl h,hl,hh⟩
 | lst h hl hh=> cases hx; exact ⟨_,_,rfl,.inl (SqL.of h),hl,hh⟩
 | tup h hl hh=> cases hx; exact ⟨_,_,rfl,.inr h,hl,hh⟩
 | _=> cases hx
theorem fi {K:PySem.W.Frag} {H:Hp} {O:List Addr} {a:Addr} {vs:List V} (h:SqL K (hid H O) a vs∨SqT K (hid H O) a vs):SqL K H a vs∨SqT K H a vs:=h.imp (fun z=> am.seq z) fun z=> am.tup z
theorem e9 (hx:x.items=some xs):ek X (.builtin "len") [x] (.int xs.length):=bL.mono cr fun vs H Q ⟨O,d,r,q⟩=> by
 obtain ⟨v,rfl,h⟩:=bV r
 obtain ⟨a,ws,rfl,h1,h2⟩:=fg h hx
 exact ⟨a,ws,rfl,fi h1,by rw [h2.len]; exact q _ H (.refl H) (.int _)⟩
theorem i9 (n:Nat) {x:Str} (h:ps[n]?=some (some (.own xs))) (hg:Gl X "len") (hm:X.mg "len"=none) (hN:X.N[n]?=some x:=by rfl) (hv:Vis X.env.scope x:=by first | exact Or.inl rfl | exact Or.inr (Or.inl rfl) | exact Or.inr (Or.inr rfl)) (hd:(x==("__debug__":Str))=false:=by decide)
  (hcd:(x==("__classdict__":Str))=false:=by decide) {pc p':Pos} (hs:starEach [.Name x p'] X.env=(false,eval (.Name x p') X.env)::starEach [] X.env:=by rfl) (hpl:(backTo pos (starEach [] X.env)).any (·.1)=false:=by rfl):Ev X H0 O0 ps (.Call (.Name "len" pc) [.Name x p'] [] pos) (.int xs.length):=
 PE.mono (cX cr hg hm PySem.boot_len (bW (cf hN hv hd hcd) cP hs) (by decide) (by decide) hs hpl) fun σ H Q ⟨O,R,q⟩=> by
  obtain ⟨v,h1,a,vs,rfl,h3,h4,h5,h6⟩:=R.at_ n _ h
  exact ⟨_,h1,a,vs,rfl,.inl (SqL.of h5),by rw [h6.len]; exact q _ H (.refl H) (.int _)⟩
theorem cY (hx:x.items=some xs):iV X (.type "list") [x] xs:=bL.mono dU fun vs H Q ⟨O,d,r,q⟩=> by
 obtain ⟨v,rfl,h⟩:=bV r
 obtain ⟨a,ws,rfl,h1,h2⟩:=fg h hx
 exact ⟨a,ws,rfl,fi h1,fun l hl=> q l ws _ (aE hl _) hl aF (h2.same (bh (aE hl _) hl))⟩
def tyU:U→Value
 | .non=> .type "NoneType" | .bl _=> .type "bool" | .int _=> .type "int" | .str _=> .type "str" | .ty _=> .type "type" | .dic=> .type "dict" | .scr _=> .type "list" | .tup _=> .type "tuple" | .lst _=> .type "list"
theorem ao {n:String} (hn:∀ m,x≠.ty m) (h:PySem.W.kitOne X.K (tyU x) (.type n)=some k):ek X (.builtin "isinstance") [x,.ty (.nm n)] (.bl k):=by
 intro pins s σ H vs us Q I r hq
 obtain ⟨O,d,rs,q⟩:=hq
 obtain ⟨v,w,rfl,h1,h2⟩:=io rs
 cases h2
 obtain ⟨p1,p2,rfl,r1,r2⟩:=iP r
 cases (show p2=Value.type n from r2)
 have fin:∀ tk,EP X pins σ Q (.bool k) { s with toks:=tk }:=fun tk=> ⟨.bl k,H,I.tok _,rfl,q _ H (.refl H) (.bl _)⟩
 cases h1 with
 | non=> exact bq I r1 .non h fin
 | bl b=> exact bq I r1 (.bl b) h fin
 | int b=> exact bq I r1 (.int b) h fin
 | str b=> exact bq I r1 (.str b) h fin
 | ty m=> exact absurd rfl (hn _)
 | dic e=> exact bq I r1 (.dK (am _ _ e)) h fin
 | xc e kk=> exact absurd rfl (hn _)
 | scr e hl hh=>
  cases r1
  obtain ⟨its,_,pl,_⟩:=I.list (am.seq e)
  obtain ⟨o,nn,e1,e2,_⟩:=pl
  exact PySem.W.kia_one PySem.W.kitx_list I.kIn ⟨o,e1,e2⟩ h (fun z=> nomatch z) fin
 | lst e hl hh=> exact bq I r1 (.lst (am _ _ e)) h fin
 | tup e hl hh=>
  cases r1
  obtain ⟨its,_,pl,_⟩:=I.tuple (am.tup e)
  obtain ⟨o,e1,e2,_⟩:=pl
  exact PySem.W.kia_one PySem.W.kitx_tuple I.kIn ⟨o,e1,e2⟩ h (fun z=> nomatch z) fin
end
end L2
namespace L2
open PySem PySem.Spec PyProof.Rows
inductive Out where
 | val (u:U) | new (xs:List U) | exc (C:Addr)
def eA (K:PySem.W.Frag) (H0:Hp) (O0:List Addr) (Q:VK) (E:XK):Out→Prop
 | .val u=> ∀ v H',al H0 H'→Rp K (hid H' O0) v u→Q v H'
 | .new xs=> ∀ a vs H',al H0 H'→H0 a=none→H' a=some (.lst vs)→Rps K (hid H' (a::O0)) vs xs→Q (.ref a) H'
 | .exc C=> ∀ H',al H0 H'→E (.ref C) none H'
theorem eA.later {K:PySem.W.Frag} {H0 H1:Hp} {O0:List Addr} {Q:VK} {E:XK} {o:Out} (e:al H0 H1) (h:eA K H0 O0 Q E o):eA K H1 O0 Q E o:=by
 cases o with
 | val u=> exact fun v H' s r=> h v H' (e.trans s) r
 | new xs=> exact fun a vs H' s n q r=> h a vs H' (e.trans s) (e.free n) q r
 | exc C=> exact fun H' s=> h H' (e.trans s)
structure PD where
 nx:PSt→Prop
 rt:Out→Prop
 bk:PSt→Prop:=fun _=> False
 ct:PSt→Prop:=fun _=> False
structure Lf (K:PySem.W.Frag) (H0:Hp) (O0:List Addr) (E:XK) (D:PD) (D':cN):Prop where
 nx:∀ ps σ H O,Rs K H0 O0 ps σ H O→D.nx ps→D'.nx σ H
 bk:∀ ps σ H O,Rs K H0 O0 ps σ H O→D.bk ps→D'.bk σ H
 ct:∀ ps σ H O,Rs K H0 O0 ps σ H O→D.ct ps→D'.ct σ H
 rt:∀ o,D.rt o→eA K H0 O0 D'.rt E o
def Ws (X:Cx) (H0:Hp) (O0:List Addr) (E:XK) (ss:List Stmt) (D:PD) (ps:PSt):Prop:=PSs X ss fun D' σ H=> Lf X.K H0 O0 E D D'∧∃ O,Rs X.K H0 O0 ps σ H O
def W1 (X:Cx) (H0:Hp) (O0:List Addr) (E:XK) (s:Stmt) (D:PD) (ps:PSt):Prop:=PS X s fun D' σ H=> Lf X.K H0 O0 E D D'∧∃ O,Rs X.K H0 O0 ps σ H O
section
variable {X:Cx} {H0:Hp} {O0:List Addr} {E:XK} {ps ps':PSt} {D:PD} {s:Stmt} {ss body:List Stmt} {a b c e:Expr} {es:List Expr} {pos p:Pos} {u x y:U} {xs ys us:List U} {k:Bool}
theorem aW (h:D.nx ps):Ws X H0 O0 E [] D ps:=PSs.mono d3 fun D' σ H ⟨L,O,R⟩=> L.nx ps σ H O R h
theorem ac (h:W1 X H0 O0 E s { D with nx:=fun p=> Ws X H0 O0 E ss D p } ps):Ws X H0 O0 E (s::ss) D ps:=by
 have h2:PSs X ss fun D' σ H=> ∃ p,Ws X H0 O0 E ss D p∧Lf X.K H0 O0 E D D'∧∃ O,Rs X.K H0 O0 p σ H O:=fun pins s σ H D' I ⟨p,w,l,r⟩=> w pins s σ H D' I ⟨l,r⟩
 exact PSs.mono (eG h h2) fun D' σ H ⟨L,O,R⟩=> ⟨⟨fun p σ H O R q=> ⟨p,q,L,O,R⟩,L.bk,L.ct,L.rt⟩,O,R⟩
theorem bX (h:Ws X H0 O0 E ss D ps') (hs:SubP ps' ps):Ws X H0 O0 E ss D ps:=PSs.mono h fun D' σ H ⟨L,O,R⟩=> ⟨L,O,R.sub hs⟩
theorem aJ {i:Nat} {x:Str} {pos':Pos} (hN:X.N.Nodup) (hi:X.N[i]?=some x) (hx:Loc X.env.scope x) (he:Ev X H0 O0 ps e u) (h:D.nx (ps.set i (some (.val u)))) (hs:swapsWith e (some (.Name x pos')) pos.line X.env=pure false:=by rfl) (hf:X.fn x=true∨X.env.scope.names.lookup x=some .local:=by first | exact .inl rfl | exact .inr rfl | assumption):
  W1 X H0 O0 E (.Assign [.Name x pos'] e pos) D ps:=PS.mono (gy hN hi hx he hs hf) fun D' σ H ⟨L,O,R⟩=> ⟨O,R,fun v H' s r=> L.nx _ _ _ O ((R.go s).set r) h⟩
theorem em {i:Nat} {x:Str} {pos':Pos} (hN:X.N.Nodup) (hi:X.N[i]?=some x) (hx:Loc X.env.scope x) (he:EvN X H0 O0 ps e xs) (h:D.nx (ps.set i (some (.own xs)))) (hs:swapsWith e (some (.Name x pos')) pos.line X.env=pure false:=by rfl) (hf:X.fn x=true∨X.env.scope.names.lookup x=some .local:=by first | exact .inl rfl | exact .inr rfl | assumption):
  W1 X H0 O0 E (.Assign [.Name x pos'] e pos) D ps:=PS.mono (gy hN hi hx he hs hf) fun D' σ H ⟨L,O,R⟩=> ⟨O,R,fun a vs H' s n q r=> L.nx _ _ _ _ (R.own s n q r) h⟩
theorem hR {tb fb:List Stmt} (hc:Tt X H0 O0 ps c k) (h1:k=true→Ws X H0 O0 E tb D ps) (h2:k=false→Ws X H0 O0 E fb D ps):W1 X H0 O0 E (.If c tb fb pos) D ps:=by
 cases k with
 | true=> exact PS.mono (gJ hc (h1 rfl) (fun _ _ _ _ _ _ h=> h.elim) (u:=fun _ _ _=> False)) fun D' σ H ⟨L,O,R⟩=> ⟨O,R,fun H' s=> fZ ⟨L,O,R.go s⟩⟩
 | false=> exact PS.mono (gJ hc (fun _ _ _ _ _ _ h=> h.elim) (h2 rfl) (t:=fun _ _ _=> False)) fun D' σ H ⟨L,O,R⟩=> ⟨O,R,fun H' s=> fC ⟨L,O,R.go s⟩⟩
theorem Rs.ret {K:PySem.W.Frag} {σ:St} {H:Hp} {O:List Addr} {v:V} (R:Rs K H0 O0 ps σ H O) (r:Rp K (hid H O) v u):Rp K (hid H O0) v u:=r.same (bQ R.old)
theorem bj (he:Ev X H0 O0 ps e u) (h:D.rt (.val u)):W1 X H0 O0 E (.Return (some e) pos) D ps:=
 PS.mono (dI he) fun D' σ H ⟨L,O,R⟩=> ⟨O,R,fun v H' s r=> L.rt _ h v H' (R.same.trans s) ((R.go s).ret r)⟩
theorem d4 (he:EvN X H0 O0 ps e xs) (h:D.rt (.new xs)):W1 X H0 O0 E (.Return (some e) pos) D ps:=
 PS.mono (dI he) fun D' σ H ⟨L,O,R⟩=> ⟨O,R,fun a vs H' s n q r=> L.rt _ h a vs H' (R.same.trans s) (R.same.free n) q (r.same (bQ fun b hb=> by
  rcases List.mem_cons.mp hb with y | y
  ·subst y; exact List.mem_cons_self
  ·exact List.mem_cons_of_mem _ (R.old b y)))⟩
theorem gg (i:Nat) {x:Str} (hp:ps[i]?=some (some (.own xs))) (h:D.rt (.new xs)) (hN:X.N[i]?=some x:=by rfl) (hv:Vis X.env.scope x:=by first | exact Or.inl rfl | exact Or.inr (Or.inl rfl) | exact Or.inr (Or.inr rfl)) (hd:(x==("__debug__":Str))=false:=by decide)
  (hcd:(x==("__classdict__":Str))=false:=by decide):W1 X H0 O0 E (.Return (some (.Name x p)) pos) D ps:=
 PS.mono (dI (cf hN hv hd hcd)) fun D' σ H ⟨L,O,R⟩=> by
  obtain ⟨v,h1,a,vs,rfl,h3,h4,h5,h6⟩:=R.at_ i _ hp
  refine ⟨_,h1,L.rt _ h a vs H R.same ((R.new a h3).resolve_left h4) h5 (h6.same (bQ fun b hb=> ?_))⟩
  rcases List.mem_cons.mp hb with y | y
  ·subst y; exact h3
  ·exact R.old b y
theorem cu (i:Nat) {x:Str} {apos cpos xp:Pos} (hp:ps[i]?=some (some (.own xs))) (ha:Ev X H0 O0 ps e u) (hz:xs.length < sizeLine) (h:D.nx (ps.set i (some (.own (xs++[u])))))
  (hN:X.N[i]?=some x:=by rfl) (hv:Vis X.env.scope x:=by first | exact Or.inl rfl | exact Or.inr (Or.inl rfl) | exact Or.inr (Or.inr rfl)) (hd:(x==("__debug__":Str))=false:=by decide) (hcd:(x==("__classdict__":Str))=false:=by decide)
  (hbase:attributeBase (.Name x xp) "append" X.env (eval (.Name x xp) X.env)=eval (.Name x xp) X.env:=by rfl)
  (hfew:((backTo cpos (starEach [e] X.env)).all (fun x=> !x.1) && (backToKw cpos (keywordEach [] X.env)).all (fun x=> x.1.isSome) && decide ([e].length+([]:List Keyword).length+(if ([]:List Keyword).isEmpty then 0 else 1) < 30))=true:=by rfl)
  (hline:(apos.endLine==cpos.line)=true:=by rfl) (hse:starEach [e] X.env=(false,eval e X.env)::starEach [] X.env:=by rfl) (hplain:(backTo cpos (starEach [] X.env)).any (·.1)=false:=by rfl)
  (hs:swapsWith (.Call (.Attribute (.Name x xp) "append" apos) [e] [] cpos) none pos.line X.env=pure false:=by rfl):W1 X H0 O0 E (.Expr (.Call (.Attribute (.Name x xp) "append" apos) [e] [] cpos) pos) D ps:=
 PS.mono (ix (jR PySem.F.plainAttrs_list PySem.F.slot_list_append PySem.F.type_list_append dD (cf hN hv hd hcd) (bW ha cP hse) hbase hfew hline hse hplain) hs) fun D' σ H ⟨L,O,R⟩=> by
  obtain ⟨v,h1,a,vs,rfl,h3,h4,h5,h6⟩:=R.at_ i _ hp
  refine ⟨_,h1,.inl ⟨rfl,_,SqL.of h5⟩,O,R,fun w H' s r=> ⟨a,vs,w,rfl,rfl,s _ _ h5,by rw [h6.len]; exact hz,?_⟩⟩
  exact L.nx _ _ _ O ((R.go s).write hp h1 ((h6.same (aK s)).snoc (.cons r .nil))) h
theorem fh (i:Nat) {x:Str} {xp tp:Pos} {n:Int} {j:Nat} (hp:ps[i]?=some (some (.own xs))) (he:Ev X H0 O0 ps e u) (hb:Ev X H0 O0 ps b (.int n)) (hj:ixN xs.length n=some j) (h:D.nx (ps.set i (some (.own (xs.set j u)))))
  (hN:X.N[i]?=some x:=by rfl) (hv:Vis X.env.scope x:=by first | exact Or.inl rfl | exact Or.inr (Or.inl rfl) | exact Or.inr (Or.inr rfl)) (hd:(x==("__debug__":Str))=false:=by decide) (hcd:(x==("__classdict__":Str))=false:=by decide)
  (ha:∀ v,assign (.Subscript (.Name x xp) b tp) X.env v=(do
   let ov ← holding [v] (eval (.Name x xp) X.env)
   let iv ← holding [v,ov] (eval b X.env)
   standAt tp
   holding [v,ov,iv] (setItem ov iv v)
   release [v,ov,iv] []):=by intro _; rfl)
  (hs:swapsWithSole [.Subscript (.Name x xp) b tp] e pos.line X.env=pure false:=by rfl) (hw:swappedStores [.Subscript (.Name x xp) b tp] e X.env=pure none:=by rfl)
  (h1:(assignEach [.Subscript (.Name x xp) b tp] X.env).map (·.2)=[assign (.Subscript (.Name x xp) b tp) X.env]:=by rfl):W1 X H0 O0 E (.Assign [.Subscript (.Name x xp) b tp] e pos) D ps:=
 PS.mono (gs he (jn (cf hN hv hd hcd) hb gG ha) hs hw h1) fun D' σ H ⟨L,O,R⟩=> ⟨O,R,fun w H1 s1 r1=> by
  obtain ⟨v,h1,a,vs,rfl,h3,h4,h5,h6⟩:=(R.go s1).at_ i _ hp
  refine ⟨_,h1,O,R.go s1,fun z H2 s2 r2=> ?_⟩
  cases r2
  have h6':=h6.same (aK (O:=O) s2)
  refine ⟨a,vs,n,j,rfl,rfl,s2 _ _ h5,by rw [h6.len]; exact hj,?_⟩
  refine L.nx _ _ _ O ((R.go (s1.trans s2)).write hp h1 ⟨by simp [h6.len],fun m v x e1 e2=> ?_⟩) h
  rcases a_ e1 with ⟨q1,q2⟩ | ⟨q1,q2⟩
  ·subst q1
   rcases a_ e2 with ⟨_,q4⟩ | ⟨q3,_⟩
   ·rw [q2,q4]; exact r1.same (aK s2)
   ·exact absurd rfl q3
  ·rcases a_ e2 with ⟨q3,_⟩ | ⟨_,q4⟩
   ·exact absurd q3 q1
   ·exact h6'.at_ m v x q2 q4⟩
end
end L2
namespace L2
open PySem PySem.Spec PyProof.Rows
def e6:List Nat→TGs
 | []=> kv
 | j::js=> iR (fm j) (e6 js)
def setAll:PSt→List Nat→List U→PSt
 | ps,j::js,u::us=> setAll (ps.set j (some (.val u))) js us
 | ps,_,_=> ps
def dZ:St→List Nat→List V→St
 | σ,j::js,u::us=> dZ (σ.set j (some u)) js us
 | σ,_,_=> σ
theorem Rs.setAll {K:PySem.W.Frag} {H0:Hp} {O0:List Addr} {H:Hp} {O:List Addr}:∀ {js:List Nat} {ps:PSt} {σ:St} {vs:List V} {us:List U},Rs K H0 O0 ps σ H O→Rps K (hid H O) vs us→Rs K H0 O0 (L2.setAll ps js us) (dZ σ js vs) H O
 | [],ps,σ,vs,us,R,r=> by cases us <;> cases vs <;> exact R
 | j::js,ps,σ,vs,[],R,r=> by rw [r.nil_inv]; exact R
 | j::js,ps,σ,vs,u::us,R,r=> by
  obtain ⟨v,ws,rfl,h1,h2⟩:=r.cons_inv
  exact Rs.setAll (js:=js) (R.set h1) h2
theorem du {Q:St→Hp→Prop} {H:Hp}:∀ {js:List Nat} {σ:St} {vs:List V},vs.length=js.length→Q (dZ σ js vs) H→e6 js vs σ H Q
 | [],σ,[],_,q=> ⟨rfl,q⟩
 | j::js,σ,v::vs,e,q=> ⟨v,vs,rfl,du (js:=js) (by simpa using e) q⟩
 | [],_,_::_,e,_=> by simp at e
 | _::_,_,[],e,_=> by simp at e
def TgS (X:Cx) (H0:Hp) (O0:List Addr) (tg:Expr) (ps:PSt) (u:U) (ps':PSt):Prop:=
 PG X tg fun v σ H Q=> ∃ O,Rs X.K H0 O0 ps σ H O∧Rp X.K (hid H O) v u∧∀ σ' H',al H H'→Rs X.K H0 O0 ps' σ' H' O→Q σ' H'
theorem PG.mono {X:Cx} {e:Expr} {t t':TG} (h:PG X e t) (m:∀ v σ H Q,t' v σ H Q→t v σ H Q):PG X e t':=fun pins s σ H v u Q I r q=> h pins s σ H v u Q I r (m v σ H Q q)
theorem PI.mono {X:Cx} {tg e:Expr} {t t':TI} (h:PI X tg e t) (m:∀ σ H Q,t' σ H Q→t σ H Q):PI X tg e t':=fun pins s σ H Q I q=> h pins s σ H Q I (m σ H Q q)
def Yl (K:PySem.W.Frag) (J:It) (G:Hp) (xs:List U):Prop:=
 ∀ H2,al G H2→(∀ i,i < xs.length→J.go i H2∧∀ x H3,J.yld i H2 x H3→H3=H2∧∃ u,xs[i]?=some u∧Rp K G x u)∧J.stop xs.length H2
def EvI (X:Cx) (H0:Hp) (O0:List Addr) (ps:PSt) (tg iter:Expr) (xs:List U):Prop:=
 PI X tg iter fun σ H R=> ∃ O,Rs X.K H0 O0 ps σ H O∧∀ J H',al H H'→Yl X.K J (hid H' O) xs→R J H'
section
variable {X:Cx} {H0:Hp} {O0:List Addr} {E:XK} {ps ps':PSt} {D:PD} {s:Stmt} {ss body:List Stmt} {a b c e tg iter:Expr} {es:List Expr} {pos p:Pos} {u x y:U} {xs ys us:List U} {k:Bool}
theorem cQ {i:Nat} {x:Str} (hN:X.N.Nodup) (hi:X.N[i]?=some x) (hx:Loc X.env.scope x) (hf:X.fn x=true∨X.env.scope.names.lookup x=some .local:=by first | exact .inl rfl | exact .inr rfl | assumption):TgS X H0 O0 (.Name x pos) ps u (ps.set i (some (.val u))):=
 PG.mono (bp hN hi hx hf) fun v σ H Q ⟨O,R,r,q⟩=> q _ H (.refl H) (R.set r)
theorem ka {k:Nat} (js:List Nat) (hc:X.calm=true) (h:PGs X es (e6 js)) (hl:us.length=js.length) (hn:(assignEach es X.env).length=js.length:=by rfl) (hst:(assignEach es X.env).findIdx? (·.1)=none:=by rfl):TgS X H0 O0 (.Tuple es k pos) ps (.tup us) (setAll ps js us):=
 PG.mono (jJ hc h hn hst) fun v σ H Q ⟨O,R,r,q⟩=> by
  cases r with
  | tup hq hl' hh=> exact ⟨_,_,rfl,am.tup hq,hl'.trans hl,du (hl'.trans hl) (q _ H (.refl H) (R.setAll ⟨hl',hh⟩))⟩
theorem ky (he:Ev X H0 O0 ps e u) (hg:TgS X H0 O0 tg ps u ps') (h:D.nx ps') (hs:swapsWithSole [tg] e pos.line X.env=pure false:=by rfl) (hw:swappedStores [tg] e X.env=pure none:=by rfl)
  (h1:(assignEach [tg] X.env).map (·.2)=[assign tg X.env]:=by rfl):W1 X H0 O0 E (.Assign [tg] e pos) D ps:=
 PS.mono (gs he hg hs hw h1) fun D' σ H ⟨L,O,R⟩=> ⟨O,R,fun v H1 s1 r1=> ⟨O,R.go s1,r1,fun σ' H2 s2 R2=> L.nx _ _ _ O R2 h⟩⟩
theorem bR (he:Ev X H0 O0 ps iter x) (hx:x=.lst xs∨x=.scr xs):EvI X H0 O0 ps tg iter xs:=
 PI.mono (fo he) fun σ H Q ⟨O,R,q⟩=> ⟨O,R,fun v H' s r=> by
  have key:∃ a vs,v=.ref a∧SqL X.K (hid H' O) a vs∧Rps X.K (hid H' O) vs xs:=by
   rcases hx with rfl | rfl
   ·cases r with
    | lst hq hl hh=> exact ⟨_,_,rfl,SqL.of hq,hl,hh⟩
   ·cases r with
    | scr hq hl hh=> exact ⟨_,_,rfl,hq,hl,hh⟩
  obtain ⟨a,vs,rfl,hq,rs⟩:=key
  refine ⟨a,rfl,⟨vs,am.seq hq⟩,q _ H' s fun H2 s2=> ⟨fun i hi=> ?_,⟨vs,s2.seq hq,by rw [rs.len]; exact Nat.le_refl _⟩⟩⟩
  have hi':i < vs.length:=by rw [rs.len]; exact hi
  refine ⟨⟨vs,vs[i],s2.seq hq,List.getElem?_eq_getElem hi'⟩,fun z H3 y=> ⟨y.1,xs[i],List.getElem?_eq_getElem hi,rs.at_ i z _ (y.2 vs (s2.seq hq)) (List.getElem?_eq_getElem hi)⟩⟩⟩
def cb (lo:Int) (n:Nat):List U:=(List.range n).map fun (i:Nat)=> U.int (lo+(i:Int))
theorem cc {lo:Int} {n:Nat}:(cb lo n).length=n:=by simp [cb]
theorem dB {lo:Int} {n i:Nat} (h:i < n):(cb lo n)[i]?=some (.int (lo+(i:Int))):=by
 unfold cb
 rw [List.getElem?_map,List.getElem?_range h]; rfl
theorem eV {lo:Int} {n i:Nat} {x:U} (h:(cb lo n)[i]?=some x):i < n∧x=.int (lo+(i:Int)):=by
 have hi:=ax h
 rw [cc] at hi
 rw [dB hi] at h
 exact ⟨hi,(Option.some.inj h).symm⟩
theorem f_ {K:PySem.W.Frag} {G:Hp} {lo:Int} {n:Nat}:Yl K (Itr lo n) G (cb lo n):=fun H2 s2=> by
 rw [cc]
 refine ⟨fun i hi=> ⟨hi,fun z H3 y=> ⟨y.1,_,dB hi,?_⟩⟩,Nat.le_refl _⟩
 rw [y.2]; exact .int _
theorem gx {j:Int} (hg:Gl X "range") (hm:X.mg "range"=none) (ha:EvA X H0 O0 ps [a] [.int j]) (h1:-(2 ^ 62)≤j) (h2:j < 2 ^ 62) (hs:starEach [a] X.env=[(false,eval a X.env)]:=by rfl):EvI X H0 O0 ps tg (.Call (.Name "range" p) [a] [] pos) (cb 0 j.toNat):=
 PI.mono (fU hg hm ha hs) fun σ H Q ⟨O,R,q⟩=> ⟨O,R,fun vs H' s r=> by
  obtain ⟨v,rfl,h⟩:=bV r
  cases h
  exact ⟨j,rfl,h1,h2,q _ H' s f_⟩⟩
theorem Rs.rebase {K:PySem.W.Frag} {σ:St} {H:Hp} {O:List Addr} (R:Rs K H0 O0 ps σ H O):Rs K (hid H (O.filter fun a=> decide (a ∉ O0))) O0 ps σ H O:=
 ⟨am,R.old,fun a ha=> by
  by_cases h:a∈O0
  ·exact .inl h
  ·right; unfold hid; rw [if_pos (List.mem_filter.mpr ⟨ha,by simpa using h⟩)],R.dom,R.len,R.at_,R.inj⟩
theorem Rs.base {K:PySem.W.Frag} {σ:St} {H:Hp} {O:List Addr} (R:Rs K H0 O0 ps σ H O):al H0 (hid H (O.filter fun a=> decide (a ∉ O0))):=fun b o h=> by
 refine bI (R.same b o h) fun z=> ?_
 obtain ⟨z1,z2⟩:=List.mem_filter.mp z
 rcases R.new b z1 with y | y
 ·simp [y] at z2
 ·rw [h] at y; cases y
theorem Rs.unbase {K:PySem.W.Frag} {H1:Hp} {σ:St} {H:Hp} {O:List Addr} (e:al H0 H1) (R:Rs K H1 O0 ps σ H O):Rs K H0 O0 ps σ H O:=
 ⟨e.trans R.same,R.old,fun a ha=> (R.new a ha).imp id fun z=> e.free z,R.dom,R.len,R.at_,R.inj⟩
theorem Rs.seen {K:PySem.W.Frag} {ps2:PSt} {σ σ2:St} {H H2:Hp} {O O2:List Addr} (R:Rs K H0 O0 ps σ H O) (R2:Rs K (hid H (O.filter fun a=> decide (a ∉ O0))) O0 ps2 σ2 H2 O2):al (hid H O) (hid H2 O2):=fun b o h=> by
 obtain ⟨h1,h2⟩:=b_ h
 have h3:hid H (O.filter fun a=> decide (a ∉ O0)) b=some o:=bI h1 fun z=> h2 (List.mem_filter.mp z).1
 refine bI (R2.same b o h3) fun z=> ?_
 rcases R2.new b z with y | y
 ·exact h2 (R.old b y)
 ·rw [h3] at y; cases y
theorem kG (hc:X.calm=true) (hp:PassesOwn (model X.prog X.w) X.A X.env X.xe) (hi:EvI X H0 O0 ps tg iter xs) (Iv:Nat→PSt→Prop) (h0:Iv 0 ps)
  (hs:∀ (H0:Hp) (i:Nat) (x:U) (ps:PSt),xs[i]?=some x→Iv i ps→∃ ps',TgS X H0 O0 tg ps x ps'∧Ws X H0 O0 E body { D with nx:=Iv (i+1),ct:=Iv (i+1),bk:=D.nx } ps') (hd:∀ ps,Iv xs.length ps→D.nx ps)
  (hf:∀ x,foldedSetIterable iter X.env x=pure x:=by intro _; rfl):W1 X H0 O0 E (.For tg iter body [] pos) D ps:=by
 have hg:PG X tg fun v σ H Q=> ∃ H1 ps u ps',TgS X H1 O0 tg ps u ps'∧∃ O,Rs X.K H1 O0 ps σ H O∧Rp X.K (hid H O) v u∧∀ σ' H',al H H'→Rs X.K H1 O0 ps' σ' H' O→Q σ' H':=
  fun pins s σ H v u Q I r ⟨H1,ps,w,ps',t,z⟩=> t pins s σ H v u Q I r z
 have hb:PSs X body fun D' σ H=> ∃ H1 D1 ps',Ws X H1 O0 E body D1 ps'∧Lf X.K H1 O0 E D1 D'∧∃ O,Rs X.K H1 O0 ps' σ H O:=fun pins s σ H D' I ⟨H1,D1,ps',w,z⟩=> w pins s σ H D' I z
 refine PS.mono (gl hp hc hi hg hb hf) fun D' σ H ⟨L,O,R⟩=> ⟨O,R,fun J H1 s1 Y=> ?_⟩
 have R1:=R.go s1
 have base:=R1.base
 refine ⟨fun i m σ H=> m=xs.length - i∧i≤xs.length∧∃ ps O',Iv i ps∧Rs X.K (hid H1 (O.filter fun a=> decide (a ∉ O0))) O0 ps σ H O',⟨_,rfl,Nat.zero_le _,ps,O,h0,R1.rebase⟩,?_⟩
 rintro i m σ2 H2 ⟨rfl,hi2,ps2,O2,iv,R2⟩
 have seen:=R1.seen R2
 obtain ⟨y1,y2⟩:=Y H2 (seen.trans am)
 by_cases hlt:i < xs.length
 ·obtain ⟨g1,g2⟩:=y1 i hlt
  refine .inr ⟨g1,fun σ' H'=> ∃ ps O',Iv (i+1) ps∧Rs X.K (hid H1 (O.filter fun a=> decide (a ∉ O0))) O0 ps σ' H' O',fun σ' H' z=> ⟨xs.length - (i+1),by omega,rfl,hlt,z⟩,fun x H3 y=> ?_⟩
  obtain ⟨rfl,u,hu,r⟩:=g2 x H3 y
  obtain ⟨ps',t,w⟩:=hs (hid H1 (O.filter fun a=> decide (a ∉ O0))) i u ps2 hu iv
  refine ⟨_,ps2,u,ps',t,O2,R2,r.same seen,fun σ' H' s' R'=> ⟨_,_,ps',w,?_,O2,R'⟩⟩
  exact ⟨fun p σ H O R q=> ⟨p,O,q,R⟩,fun p σ H O R q=> L.nx _ _ _ _ (R.unbase base) q,fun p σ H O R q=> ⟨p,O,q,R⟩,fun o q=> (L.rt o q).later base⟩
 ·have e:i=xs.length:=by omega
  subst e
  exact .inl ⟨y2,L.nx _ _ _ _ (R2.unbase base) (hd ps2 iv)⟩
theorem iw (hp:PassesOwn (model X.prog X.w) X.A X.env X.xe) (Iv:Nat→PSt→Prop) (m:Nat) (h0:Iv m ps)
  (hs:∀ m ps,Iv m ps→∃ b,Tt X H0 O0 ps c b∧(b=true→Ws X H0 O0 E body { D with nx:=fun p=> ∃ m',m' < m∧Iv m' p,ct:=fun p=> ∃ m',m' < m∧Iv m' p,bk:=D.nx } ps)∧(b=false→D.nx ps)):W1 X H0 O0 E (.While c body [] pos) D ps:=by
 have ht:PT X c fun σ H Q=> ∃ ps b,Tt X H0 O0 ps c b∧∃ O,Rs X.K H0 O0 ps σ H O∧∀ H',al H H'→Q b H':=fun pins s σ H Q I ⟨ps,b,t,z⟩=> t pins s σ H Q I z
 have hb:PSs X body fun D' σ H=> ∃ D1 ps',Ws X H0 O0 E body D1 ps'∧Lf X.K H0 O0 E D1 D'∧∃ O,Rs X.K H0 O0 ps' σ H O:=fun pins s σ H D' I ⟨D1,ps',w,z⟩=> w pins s σ H D' I z
 refine PS.mono (g5 hp ht hb) fun D' σ H ⟨L,O,R⟩=> ⟨fun m σ H=> ∃ ps O,Iv m ps∧Rs X.K H0 O0 ps σ H O,⟨m,ps,O,h0,R⟩,?_⟩
 rintro m σ2 H2 ⟨ps2,O2,iv,R2⟩
 obtain ⟨b,t,h1,h2⟩:=hs m ps2 iv
 refine ⟨ps2,b,t,O2,R2,fun H3 s3=> ?_⟩
 cases b with
 | true=>
  refine fZ ⟨fun σ H=> ∃ m',m' < m∧∃ ps O,Iv m' ps∧Rs X.K H0 O0 ps σ H O,fun σ' H' z=> z,_,ps2,h1 rfl,?_,O2,R2.go s3⟩
  exact ⟨fun p σ H O R ⟨m',l,q⟩=> ⟨m',l,p,O,q,R⟩,fun p σ H O R q=> L.nx _ _ _ _ R q,fun p σ H O R ⟨m',l,q⟩=> ⟨m',l,p,O,q,R⟩,L.rt⟩
 | false=> exact fC (L.nx _ _ _ _ (R2.go s3) (h2 rfl))
def eC:List Nat→PSt→PSt
 | [],ps=> ps
 | i::is,ps=> eC is (ps.set i none)
theorem Rs.mask {K:PySem.W.Frag} {H:Hp} {O:List Addr}:∀ {is:List Nat} {ps:PSt} {σ:St},Rs K H0 O0 ps σ H O→Rs K H0 O0 (eC is ps) (L2.mask is σ) H O
 | [],ps,σ,R=> R
 | i::is,ps,σ,R=> Rs.mask (is:=is) (R.drop (i:=i) (o:=none))
theorem Rs.hide {K:PySem.W.Frag} {σ:St} {H H':Hp} {O:List Addr} {l:Addr} (R:Rs K H0 O0 ps σ H O) (e:al H H') (n:H l=none) (d:H' l≠none):Rs K H0 O0 ps σ H' (l::O):=by
 refine ⟨R.same.trans e,fun a ha=> List.mem_cons_of_mem _ (R.old a ha),fun a ha=> ?_,fun a ha z=> ?_,R.len,fun i s h=> ?_,R.inj⟩
 ·rcases List.mem_cons.mp ha with y | y
  ·subst y; exact .inr (R.same.free n)
  ·exact R.new a y
 ·rcases List.mem_cons.mp ha with y | y
  ·subst y; exact d z
  ·exact R.dom a y (e.free z)
 ·obtain ⟨w,h1,h2⟩:=R.at_ i s h
  refine ⟨w,h1,?_⟩
  cases s with
  | val u=> exact Rp.same (bh e n) h2
  | own ys=>
   obtain ⟨b,ws,k1,k2,k3,k4,k5⟩:=h2
   exact ⟨b,ws,k1,List.mem_cons_of_mem _ k2,k3,e _ _ k4,k5.same (bh e n)⟩
def GOk (g:TG) (K:PySem.W.Frag) (is:List Nat) (f:PSt→U→PSt) (dom:U→Prop):Prop:=
 ∀ (H0:Hp) (O0:List Addr) (ps:PSt) (σ:St) (H:Hp) (O:List Addr) (v:V) (u:U) (Q:St→Hp→Prop),dom u→Rs K H0 O0 ps σ H O→Rp K (hid H O) v u→
  (∀ σ',Rs K H0 O0 (f ps u) σ' H O→(∀ (n:Nat) (w:V),n ∉ is→σ[n]?=some (some w)→σ'[n]?=some (some w))→Q σ' H)→g v σ H Q
theorem bP {K:PySem.W.Frag} {is:List Nat} {i:Nat} (h:i∈is):GOk (fm i) K is (fun ps u=> ps.set i (some (.val u))) fun _=> True:=fun H0 O0 ps σ H O v u Q _ R r q=>
 q _ (R.set r) fun n w hn e=> by rw [List.getElem?_set_ne (fun z=> hn (by rw [← z]; exact h))]; exact e
theorem fF {is:List Nat} {g:TG} {f:PSt→U→PSt} {dom:U→Prop} {σ:St} {H1:Hp} {O:List Addr} {Q:VK} {J:It} {te:TE} (hg:GOk g X.K is f dom) (R1:Rs X.K H0 O0 ps σ H1 O) (Y:Yl X.K J (hid H1 O) xs) (hlen:ys.length=xs.length) (hz:xs.length≤sizeLine) (hdom:∀ x∈xs,dom x)
  (hte:∀ (i:Nat) (x y:U) (σ:St) (H:Hp) (O':List Addr) (Q:VK),xs[i]?=some x→ys[i]?=some y→Rs X.K H0 O0 (f (eC is ps) x) σ H O'→(∀ v H',al H H'→Rp X.K (hid H' O') v y→Q v H')→te σ H Q)
  (fin:∀ a vs H',al H1 H'→H1 a=none→H' a=some (.lst vs)→Rps X.K (hid H' (a::O)) vs ys→Q (.ref a) H'):iO is g te σ Q J H1:=by
 intro l hl
 refine ⟨fun i m H2=> m=xs.length - i∧i≤xs.length∧al H1 H2∧∃ vs,H2 l=some (.lst vs)∧vs.length=i∧Rps X.K (hid H2 (l::O)) vs (ys.take i),⟨_,rfl,Nat.zero_le _,aE hl _,[],aF,rfl,by rw [List.take_zero]; exact .nil⟩,?_⟩
 rintro i m H2 ⟨rfl,hi,s2,vs,h2,hv,rs⟩
 have seen:al (hid H1 O) (hid H2 (l::O)):=bh s2 hl
 obtain ⟨y1,y2⟩:=Y H2 (seen.trans am)
 by_cases hlt:i < xs.length
 ·obtain ⟨g1,g2⟩:=y1 i hlt
  refine .inr ⟨g1,fun x H3 y=> ?_⟩
  obtain ⟨rfl,u,hu,r⟩:=g2 x H3 y
  have R2:=(R1.mask (is:=is)).hide s2 hl (by rw [h2]; intro z; cases z)
  refine hg H0 O0 _ _ H3 (l::O) x u _ (hdom u (List.mem_of_getElem? hu)) R2 (r.same seen) fun σ4 R4 keep=> ?_
  have hy:ys[i]?=some (ys[i]'(by omega)):=List.getElem?_eq_getElem _
  refine hte i u _ σ4 H3 (l::O) _ hu hy R4 fun v H5 s5 r5=> ⟨fun j w e=> keep j w (cV is σ j w e).2 e,vs,s5 _ _ h2,?_,xs.length - (i+1),by omega,rfl,hlt,(s2.trans s5).put hl _,vs++[v],aF,by simp [hv],?_⟩
  ·rw [hv]; omega
  ·rw [fw List.mem_cons_self,List.take_succ,hy]
   exact (rs.same (aK s5)).snoc (.cons r5 .nil)
 ·have e:i=xs.length:=by omega
  subst e
  rw [← hlen,List.take_length] at rs
  exact .inl ⟨y2,fin l vs H2 s2 hl h2 rs⟩
theorem cT {elt:Expr} {scope:Scope} {cl:List (Str×Addr)} {is:List Nat} {g:TG} {f:PSt→U→PSt} {dom:U→Prop} (hc:X.calm=true) (B:cy X scope cl is) (hi:EvI X H0 O0 ps tg iter xs) (hg:∀ C s H fp,PG (aM X scope cl C s H fp) tg g) (gk:GOk g X.K is f dom)
  (hlen:ys.length=xs.length) (hz:xs.length≤sizeLine) (hdom:∀ x∈xs,dom x) (he:∀ C s H fp (i:Nat) (x y:U),xs[i]?=some x→ys[i]?=some y→Ev (aM X scope cl C s H fp) H0 O0 (f (eC is ps) x) elt y)
  (hs:∀ x,foldedSetIterable iter X.env x=pure x:=by intro _; rfl):EvN X H0 O0 ps (.ListComp elt [⟨tg,iter,[],0⟩] scope pos) ys:=by
 have hte:∀ C s H fp,PE (aM X scope cl C s H fp) elt fun σ H Q=> ∃ i x y,xs[i]?=some x∧ys[i]?=some y∧∃ O',Rs X.K H0 O0 (f (eC is ps) x) σ H O'∧∀ v H',al H H'→Rp X.K (hid H' O') v y→Q v H':=
  fun C s H fp pins s' σ H' Q I ⟨i,x,y,h1,h2,z⟩=> he C s H fp i x y h1 h2 pins s' σ H' Q I z
 refine PE.mono (il hc B hi hg hte hs) fun σ H Q ⟨O,R,q⟩=> ⟨O,R,fun J H1 s1 Y=> ?_⟩
 exact fF gk (R.go s1) Y hlen hz hdom (fun i x y σ H O' Q h1 h2 R' z=> ⟨i,x,y,h1,h2,O',R',z⟩) fun a vs H' s n h r=> q a vs H' (s1.trans s) (s1.free n) h r
end
end L2
namespace L2
open PySem PySem.Spec PyProof.Rows
def spU (K:PySem.W.Frag) (spec:List U→Out→Prop):Sp:=fun vs H Q E=> ∃ us O o,(∀ a∈O,H a≠none)∧Rps K (hid H O) vs us∧spec us o∧eA K H O Q E o
section
variable {X:Cx} {H0:Hp} {O0:List Addr} {E:XK} {ps ps':PSt} {D:PD} {s:Stmt} {ss body:List Stmt} {a b c e:Expr} {es:List Expr} {pos p:Pos} {u x y:U} {xs ys us:List U} {k:Bool}
 {CX:CXT} {n:Nat} {f C:Addr} {fd:FuncData} {pn:List Str} {spec:List U→Out→Prop} {nm:Str}
theorem bH (F:aZ X.prog X.w X.K X.mg X.base CX n f fd pn (spU X.K spec)) (hr:bx n X.A) (hg:Gl X nm) (hm:X.mg nm=some (.ref f)) (hk:PySem.W.keepIn X.K (.ref f)=true) (hb:aT X.K fd pn []) (hx:bZ CX X E0)
  (ha:EvA X H0 O0 ps (e::es) us) (h:spec us (.val u)) (hdb:(nm==("__debug__":Str))=false:=by decide) (he:starEach (e::es) X.env=(false,eval e X.env)::starEach es X.env:=by rfl) (hpl:(backTo pos (starEach es X.env)).any (·.1)=false:=by rfl):
  Ev X H0 O0 ps (.Call (.Name nm p) (e::es) [] pos) u:=
 PE.mono (d0 F hr hg hm hk hb .nil hx ha hdb he hpl) fun σ H Q ⟨O,R,q⟩=> ⟨O,R,fun vs H1 s1 r1=> by
  show spU X.K spec (vs++[]) H1 Q _
  rw [List.append_nil]
  exact ⟨us,O,.val u,(R.go s1).dom,r1,h,fun v H2 s2 r2=> q v H2 (s1.trans s2) r2⟩⟩
theorem cB (F:aZ X.prog X.w X.K X.mg X.base CX n f fd pn (spU X.K spec)) (hr:bx n X.A) (hg:Gl X nm) (hm:X.mg nm=some (.ref f)) (hk:PySem.W.keepIn X.K (.ref f)=true) (hb:aT X.K fd pn []) (hx:bZ CX X E0)
  (ha:EvA X H0 O0 ps (e::es) us) (h:spec us (.new xs)) (hdb:(nm==("__debug__":Str))=false:=by decide) (he:starEach (e::es) X.env=(false,eval e X.env)::starEach es X.env:=by rfl) (hpl:(backTo pos (starEach es X.env)).any (·.1)=false:=by rfl):
  EvN X H0 O0 ps (.Call (.Name nm p) (e::es) [] pos) xs:=
 PE.mono (d0 F hr hg hm hk hb .nil hx ha hdb he hpl) fun σ H Q ⟨O,R,q⟩=> ⟨O,R,fun vs H1 s1 r1=> by
  show spU X.K spec (vs++[]) H1 Q _
  rw [List.append_nil]
  exact ⟨us,O,.new xs,(R.go s1).dom,r1,h,fun a vs H2 s2 n2 h2 r2=> q a vs H2 (s1.trans s2) (s1.free n2) h2 r2⟩⟩
def Xv (X:Cx) (H0:Hp) (O0:List Addr) (E:XK) (ps:PSt) (e:Expr) (C:Addr):Prop:=PE X e fun σ H _=> ∃ O,Rs X.K H0 O0 ps σ H O∧∀ H',al H H'→E (.ref C) none H'
theorem ji (F:aZ X.prog X.w X.K X.mg X.base CX n f fd pn (spU X.K spec)) (hr:bx n X.A) (hg:Gl X nm) (hm:X.mg nm=some (.ref f)) (hk:PySem.W.keepIn X.K (.ref f)=true) (hb:aT X.K fd pn []) (hx:bZ CX X E)
  (ha:EvA X H0 O0 ps (e::es) us) (h:spec us (.exc C)) (hdb:(nm==("__debug__":Str))=false:=by decide) (he:starEach (e::es) X.env=(false,eval e X.env)::starEach es X.env:=by rfl) (hpl:(backTo pos (starEach es X.env)).any (·.1)=false:=by rfl):
  Xv X H0 O0 E ps (.Call (.Name nm p) (e::es) [] pos) C:=
 PE.mono (d0 F hr hg hm hk hb .nil hx ha hdb he hpl) fun σ H Q ⟨O,R,q⟩=> ⟨O,R,fun vs H1 s1 r1=> by
  show spU X.K spec (vs++[]) H1 Q _
  rw [List.append_nil]
  exact ⟨us,O,.exc C,(R.go s1).dom,r1,h,fun H2 s2=> q H2 (s1.trans s2)⟩⟩
theorem jN (he:Xv X H0 O0 E ps e C) (h:D.rt (.exc C)):W1 X H0 O0 E (.Return (some e) pos) D ps:=
 PS.mono (dI he) fun D' σ H ⟨L,O,R⟩=> ⟨O,R,fun H' s=> L.rt _ h H' (R.same.trans s)⟩
end
section
variable {P:Program} {w:World} {K:PySem.W.Frag} {mg:Str→Option Value} {base:Heap} {N pn:List Str} {qual nm:Str} {scope:Scope} {f:Addr} {cd:Value} {A:Around} {outer:List Env} {s:Shared} {H H0:Hp} {O0:List Addr} {E:XK} {D:PD} {ps:PSt} {u:U}
theorem h9 {x:Str} {C:Addr} {e0:Expr} {np cpos pos:Pos} (hex:PySem.W.excIn K C [.type "ValueError",.type "Exception",.type "BaseException",.type "object"] "ValueError.__new__"=true)
  (hg:Gl (bC (CXF P w) P w K mg base N qual scope f cd A outer s H E) x) (hm:mg x=some (.ref C)) (he:Ev (bC (CXF P w) P w K mg base N qual scope f cd A outer s H E) H0 O0 ps e0 u) (h:D.rt (.exc C))
  (hst:starEach [e0] (bC (CXF P w) P w K mg base N qual scope f cd A outer s H E).env=[(false,eval e0 (bC (CXF P w) P w K mg base N qual scope f cd A outer s H E).env)]:=by rfl) (hd:(x==("__debug__":Str))=false:=by decide):
  W1 (bC (CXF P w) P w K mg base N qual scope f cd A outer s H E) H0 O0 E (.Raise (some (.Call (.Name x np) [e0] [] cpos)) none pos) D ps:=
 PS.mono (gb hex hg hm he hst hd) fun D' σ H ⟨L,O,R⟩=> ⟨O,R,fun v H' s r=> L.rt _ h H' (R.same.trans s)⟩
def dW (N:List Str) (us:List U):PSt:=us.map (fun u=> some (.val u))++List.replicate (N.length - us.length) none
theorem bN {st:Stmt} {fd:FuncData} {k:Nat} {spec:List U→Out→Prop} (F:Fun K nm qual st f fd) (S:aD N pn (ag st)) (len:∀ us o,spec us o→us.length=pn.length)
  (hbody:∀ (cdv:Value) (A:Around) (outer:List Env) (s:Shared) (H:Hp) (E:XK) (O:List Addr) (us:List U) (o:Out),bx k (A.deeper (envOfC qual (ag st) s.heap.objs.size f cdv))→spec us o→
   Ws (bC (CXF P w) P w K mg base N qual (ag st) f cdv A outer s H E) H O E (aw st) ⟨fun _=> o=.val .non,fun o'=> o'=o,fun _=> False,fun _=> False⟩ (dW N us)):aZ P w K mg base (CXF P w) (k+1) f fd pn (spU K spec):=by
 refine F.okF S (fun vs H Q E h=> ?_) fun cdv A outer s H vs Q E hr h=> ?_
 ·obtain ⟨us,O,o,_,r,hsp,_⟩:=h
  rw [r.len]; exact len us o hsp
 ·obtain ⟨us,O,o,d,r,hsp,q⟩:=h
  refine ⟨_,hbody cdv A outer s H E O us o hr hsp,⟨fun ps σ H' O' R e=> ?_,fun _ _ _ _ _ e=> e.elim,fun _ _ _ _ _ e=> e.elim,fun o' e=> by subst e; exact q⟩,O,?_⟩
  ·subst e; exact q .non H' R.same .non
  ·refine ⟨.refl H,fun a h=> h,fun a h=> .inl h,d,?_,fun i sl e=> ?_,fun i j xs ys a e1 e2 _ _=> ?_⟩
   ·unfold start dW
    rw [List.length_append,List.length_append,List.length_map,List.length_map,List.length_replicate,List.length_replicate,r.len]
   ·unfold dW at e
    by_cases hi:i < us.length
    ·rw [List.getElem?_append_left (by simpa using hi),List.getElem?_map,List.getElem?_eq_getElem hi] at e
     cases e
     obtain ⟨v,h1,h2⟩:=r.get (List.getElem?_eq_getElem hi)
     refine ⟨v,?_,h2⟩
     unfold start
     rw [List.getElem?_append_left (by simpa [r.len] using hi),List.getElem?_map,h1]; rfl
    ·rw [List.getElem?_append_right (by simpa using hi),List.getElem?_replicate] at e
     split at e <;> cases e
   ·exfalso
    unfold dW at e1
    by_cases hi:i < us.length
    ·rw [List.getElem?_append_left (by simpa using hi),List.getElem?_map,List.getElem?_eq_getElem hi] at e1
     cases e1
    ·rw [List.getElem?_append_right (by simpa using hi),List.getElem?_replicate] at e1
     split at e1 <;> cases e1
end
section
variable {X:Cx} {H0:Hp} {O0:List Addr} {ps:PSt} {a b c e:Expr} {es bK:List Expr} {pos p p2:Pos} {u x y:U} {xs ys us:List U} {i j:Int} {k m:Bool} {lo hi:Option Expr} {l h:Option Int}
def EvO (X:Cx) (H0:Hp) (O0:List Addr) (ps:PSt) (e:Option Expr) (n:Option Int):Prop:=PO X e fun σ H Q=> ∃ O,Rs X.K H0 O0 ps σ H O∧∀ H',al H H'→Q n H'
theorem i0:EvO X H0 O0 ps none none:=fun pins s σ H Q I ⟨O,R,q⟩=> iH pins s σ H Q I (q H (.refl H))
theorem i6 (he:Ev X H0 O0 ps e (.int i)):EvO X H0 O0 ps (some e) (some i):=fun pins s σ H Q I ⟨O,R,q⟩=> ic he pins s σ H Q I ⟨O,R,fun v H' s r=> by cases r; exact ⟨i,rfl,q H' s⟩⟩
def fN (xs:List U) (lo hi:Option Int):List U:=(xs.drop (HT.sIx xs.length 0 lo)).take (HT.sIx xs.length xs.length hi - HT.sIx xs.length 0 lo)
theorem Rps.drop {K:PySem.W.Frag} {H:Hp} {vs:List V} {xs:List U} (r:Rps K H vs xs) (n:Nat):Rps K H (vs.drop n) (xs.drop n):=⟨by simp [r.len],fun i v x h1 h2=> r.at_ _ v x (by rwa [List.getElem?_drop] at h1) (by rwa [List.getElem?_drop] at h2)⟩
theorem Rps.take {K:PySem.W.Frag} {H:Hp} {vs:List V} {xs:List U} (r:Rps K H vs xs) (n:Nat):Rps K H (vs.take n) (xs.take n):=⟨by simp [r.len],fun i v x h1 h2=> by
 by_cases hn:i < n
 ·rw [List.getElem?_take_of_lt hn] at h1 h2
  exact r.at_ i v x h1 h2
 ·rw [List.getElem?_take_eq_none (by omega)] at h1
  cases h1⟩
theorem Rps.cut {K:PySem.W.Frag} {H:Hp} {vs:List V} {xs:List U} (r:Rps K H vs xs):Rps K H (fE vs l h) (fN xs l h):=by
 unfold fE fN
 rw [r.len]
 exact (r.drop _).take _
theorem h8 (he:Ev X H0 O0 ps e x) (hl:EvO X H0 O0 ps lo l) (hh:EvO X H0 O0 ps hi h) (hx:x=.lst xs∨x=.scr xs):EvN X H0 O0 ps (.Subscript e (.Slice lo hi none p2) pos) (fN xs l h):=
 PE.mono (ge hI he hl hh) fun σ H Q ⟨O,R,q⟩=> ⟨O,R,fun v H1 s1 r1=> ⟨O,R.go s1,fun H2 s2=> ⟨O,R.go (s1.trans s2),fun H3 s3=> by
  have key:∃ a vs,v=.ref a∧SqL X.K (hid H1 O) a vs∧Rps X.K (hid H1 O) vs xs:=by
   rcases hx with rfl | rfl
   ·cases r1 with
    | lst hq hl hh=> exact ⟨_,_,rfl,SqL.of hq,hl,hh⟩
   ·cases r1 with
    | scr hq hl hh=> exact ⟨_,_,rfl,hq,hl,hh⟩
  obtain ⟨a,vs,rfl,hq,rs⟩:=key
  have s13:=s2.trans s3
  refine ⟨a,vs,rfl,s13.seq (am.seq hq),fun p hp=> q p _ _ ((s1.trans s13).trans (aE hp _)) ((s1.trans s13).free hp) aF ?_⟩
  exact (rs.cut.same (aK s13)).same (bh (aE hp _) hp)⟩⟩⟩
theorem gp (ha:Ev X H0 O0 ps a (.lst xs)) (hb:Ev X H0 O0 ps b (.lst ys)) (hz:xs.length+ys.length≤sizeLine):EvN X H0 O0 ps (.BinOp a .Add b pos) (xs++ys):=
 PE.mono (fj jH ha hb) fun σ H Q ⟨O,R,q⟩=> two R (fun _ _ _ z=> z) (fun _ _ _ z=> z) fun v w H' s _ r1 r2=> by
  cases r1 with
  | lst hq hl hh=>
   cases r2 with
   | lst hq' hl' hh'=>
    refine ⟨_,_,_,_,rfl,rfl,am _ _ hq,am _ _ hq',by rw [hl,hl']; exact hz,fun p hp=> q p _ _ (s.trans (aE hp _)) (s.free hp) aF ?_⟩
    exact (Rps.snoc ⟨hl,hh⟩ ⟨hl',hh'⟩).same (bh (aE hp _) hp)
def fl:U→V
 | .bl b=> .bl b | .int i=> .int i | .str x=> .str x | _=> .non
theorem j8 {bs:List Bool} (hc:X.calm=true):ek X (.builtin "all") [.lst (bs.map U.bl)] (.bl (bs.all id)):=by
 intro pins s σ H vs us Q I r hq
 obtain ⟨O,d,rs,q⟩:=hq
 obtain ⟨v,rfl,h1⟩:=bV rs
 obtain ⟨p1,rfl,r1⟩:=ei r
 cases h1 with
 | @lst a ws _ hq hl hh=>
  cases r1
  obtain ⟨its,rv,pl,_⟩:=I.list (SqL.of (am _ _ hq))
  have hlen:its.length=bs.length:=by rw [← rv.length,hl,List.length_map]
  have hat:∀ (i:Nat) (z:Value),its.toArray[i]?=some z→z=.bool (bs.getD i false):=fun i z e=> by
   have hi:i < its.length:=by have:=ax (show its[i]?=some z by simpa using e); exact this
   have hb:i < bs.length:=by omega
   have hw:i < ws.length:=by rw [rv.length]; exact hi
   obtain ⟨u,e1,e2⟩:=rv.get (List.getElem?_eq_getElem hw)
   have e3:=hh i ws[i] (.bl bs[i]) (List.getElem?_eq_getElem hw) (by rw [List.getElem?_map,List.getElem?_eq_getElem hb]; rfl)
   have e4:its[i]?=some z:=by simpa using e
   rw [e4] at e1
   cases e1
   generalize ws[i]=wi at *
   cases e3
   rw [List.getD_eq_getElem?_getD,List.getElem?_eq_getElem hb]
   exact e2
  refine call_all_walk (wpAny_pyIter_list pl.isList ?_)
  have hne:a≠s.heap.objs.size:=by obtain ⟨o,e,_⟩:=pl.isList; exact Nat.ne_of_lt (Heap.lt_size e)
  refine ⟨s.heap.objs.size,_,_,_,_,_,fun i=> bs.getD i false,rfl,Walks.list (A:=X.A.in1) (I.ok.hd hc) s.heap.objs.size a hne its.toArray,⟨⟨_,Heap.get?_push_size _ rfl,rfl,rfl⟩,pl.isList.push _⟩,fun i z s' Q' E' hP hQ=> ?_,fun h' tk hk=> ?_⟩
  ·rw [hat i z hP]; exact wpAny_truthy_bool hQ
  ·have e:(List.range its.toArray.size).all (fun i=> bs.getD i false)=bs.all id:=by
    rw [List.size_toArray,hlen,Bool.eq_iff_iff,dz,List.all_eq_true]
    constructor
    ·intro h x hx
     obtain ⟨i,hi,rfl⟩:=List.getElem_of_mem hx
     have:=h i hi
     rwa [List.getD_eq_getElem?_getD,List.getElem?_eq_getElem hi] at this
    ·intro h j hj
     rw [List.getD_eq_getElem?_getD,List.getElem?_eq_getElem hj]
     exact h _ (List.getElem_mem hj)
   rw [e]
   refine ⟨.bl _,H,I.kept (t':=tk) fun b o e=> hk b o ?_ (Heap.get?_push_of_some _ e),rfl,q _ H (.refl H) (.bl _)⟩
   intro z
   have:b=s.heap.objs.size:=by simpa using z
   exact absurd (Heap.lt_size e) (by rw [this]; exact Nat.lt_irrefl _)
end
end L2
namespace L2
open PySem PySem.Spec PyProof.Rows
section
variable {X:Cx} {pins:List (Addr×Obj)} {σ:St} {H:Hp} {s:Shared}
end
section
variable {X:Cx} {H0:Hp} {O0:List Addr} {E:XK} {ps ps':PSt} {D:PD} {tg iter cond:Expr} {pos p:Pos} {xs:List U} {fs:List (Option U)}
end
end L2
namespace L2
open PySem PySem.Spec PyProof.Rows
inductive jz:List (Option Expr)→List Expr→Prop where
 | nil:jz [] []
 | cons {k v:Int} {a b:Nat} {p q:Pos} {ks:List (Option Expr)} {vs:List Expr} (h:jz ks vs):jz (some (.Constant (.int k) a p)::ks) (.Constant (.int v) b q::vs)
section
variable {X:Cx} {H0:Hp} {O0:List Addr} {ps:PSt} {pos:Pos} {keys:List (Option Expr)} {values:List Expr} {k m:Bool}
end
end L2
namespace L2
open PySem PySem.Spec PyProof.Rows
theorem Ws.nox {X:Cx} {H0:Hp} {O0:List Addr} {E:XK} {ss:List Stmt} {D:PD} {ps:PSt} (h:Ws X.nox H0 O0 E ss D ps):Ws X H0 O0 E ss D ps:=PSs.nox h
theorem aZ.calm {P:Program} {w:World} {K:PySem.W.Frag} {mg:Str→Option Value} {base:Heap} {k:Nat} {f:Addr} {fd:FuncData} {ps:List Str} {sp:Sp} (F:aZ P w K mg base (CXF P w) k f fd ps sp) (h:∀ vs H Q E,sp vs H Q E→sp vs H Q E0):aZ P w K mg base CX0 k f fd ps sp:=by
 refine ⟨F.len,fun A outer s H args us vs Q E hr he hb hv hs=> codeAny_mono (F.run A outer s H args us vs Q E0 hr he hb hv (h _ _ _ _ hs)) fun r s' q=> ?_⟩
 cases r with
 | ok fl=>
  cases fl with
  | ret u=> exact q
  | next=> exact q
  | brk=> exact q
  | cont=> exact q
 | error e=>
  obtain ⟨_,_,_,_,_,_,_,_,_,_,_,_,_,_,_,hE⟩:=q
  exact hE.elim
def cq:List U→Out→Prop:=fun us o=> ∃ ns:List Int,us=[.scr (ns.map U.int)]∧ns.length≤63∧(∀ m∈ns,Sz 1048576 m)∧o=.val (.bl true)
theorem gt {K:PySem.W.Frag} (vs:List V) (H:Hp) (Q:VK) (E:XK) (h:spU K cq vs H Q E):spU K cq vs H Q E0:=by
 obtain ⟨us,O,o,d,r,⟨ns,h1,h2,h3,rfl⟩,q⟩:=h
 exact ⟨us,O,_,d,r,⟨ns,h1,h2,h3,rfl⟩,q⟩
theorem fJ {K:PySem.W.Frag} {H:Hp} {a:Addr} {ns:List Int} {E:XK} (h1:ns.length≤63) (h2:∀ m∈ns,Sz 1048576 m) (h3:SqL K H a (ns.map V.int)):spU K cq [.ref a] H (fun v _=> v=.bl true) E:=by
 refine ⟨[.scr (ns.map U.int)],[],.val (.bl true),fun a ha=> (nomatch ha),.cons ?_ .nil,⟨ns,rfl,h1,h2,rfl⟩,fun v H' s r=> by cases r; rfl⟩
 have e:hid H []=H:=by funext b; unfold hid; rw [if_neg (by simp)]
 rw [e]
 refine .scr h3 (by simp) fun i v x e1 e2=> ?_
 rw [List.getElem?_map] at e1 e2
 cases q:ns[i]? with
 | none=> rw [q] at e1; cases e1
 | some n=> rw [q] at e1 e2; cases e1; cases e2; exact .int n
theorem df {k:Nat} {A:Around} (hr:bx k A):A.units+10 < cLine:=by have:=hr.un; omega
theorem gL {ns:List Int} {k:Int} (h0:0≤k) (h:k < (ns.length:Int)):atI (ns.map U.int) k=some (.int (ns.getD k.toNat 0)):=by
 have hk:k.toNat < ns.length:=by omega
 have q:atI (ns.map U.int) ((k.toNat:Nat):Int)=some (.int (ns.getD k.toNat 0)):=fB (by rw [List.getElem?_map,List.getD_eq_getElem?_getD,List.getElem?_eq_getElem hk] <;> rfl)
 rwa [show ((k.toNat:Nat):Int)=k by omega] at q
theorem fy {ns:List Int} (h:∀ m∈ns,Sz 1048576 m) (i:Nat):Sz 1048576 (ns.getD i 0):=by
 by_cases hk:i < ns.length
 ·rw [List.getD_eq_getElem?_getD,List.getElem?_eq_getElem hk,Option.getD_some]; exact h _ (List.getElem_mem hk)
 ·rw [List.getD_eq_getElem?_getD,List.getElem?_eq_none (by omega),Option.getD_none]; exact Sz.mono (m:=8) (by decide) (by decide)
abbrev pt (x y:Int):U:=.tup [.int x,.int y]
theorem fP (xs:List U) (k:Nat):fN xs none (some (k:Int))=xs.take k:=by
 unfold fN
 rw [HT.sIx_none,HT.sIx_nat,List.drop_zero,Nat.sub_zero]
 by_cases h:k≤xs.length
 ·rw [Nat.min_eq_left h]
 ·rw [Nat.min_eq_right (by omega),List.take_of_length_le (Nat.le_refl _),List.take_of_length_le (by omega)]
theorem dTb {p:Prop} [Decidable p] (h:decide p=true):p:=of_decide_eq_true h
theorem dFb {p:Prop} [Decidable p] (h:decide p=false):¬ p:=of_decide_eq_false h
theorem vB {a b:Bool} (h:a=b):Out.val (.bl a)=Out.val (.bl b):=by rw [h]
mutual
theorem ey:∀ (n:Nat) (u:U),okU n u=true→eqW u u=true
 | _,.non,_=> rfl
 | _,.bl b,_=> by simp [eqW]
 | _,.int b,_=> by simp [eqW]
 | _,.str b,_=> by simp [eqW]
 | _,.ty _,h=> by simp [okU] at h
 | _,.dic,h=> by simp [okU] at h
 | 0,.tup _,h=> by simp [okU] at h
 | 0,.lst _,h=> by simp [okU] at h
 | 0,.scr _,h=> by simp [okU] at h
 | n+1,.tup xs,h=> by rw [eqW]; rw [okU] at h; exact eqWs_refl n xs h
 | n+1,.lst xs,h=> by rw [eqW]; rw [okU] at h; exact eqWs_refl n xs h
 | n+1,.scr xs,h=> by rw [eqW]; rw [okU] at h; exact eqWs_refl n xs h
theorem eqWs_refl:∀ (n:Nat) (xs:List U),okUs n xs=true→eqWs xs xs=true
 | _,[],_=> rfl
 | n,x::xs,h=> by
  simp only [okUs,Bool.and_eq_true] at h
  simp only [eqWs,Bool.and_eq_true]
  exact ⟨ey n x h.1,eqWs_refl n xs h.2⟩
end
theorem gQ {α:Type} {n:Nat} {f:α→U} {l:List α} (h:∀ a∈l,okU n (f a)=true):okUs n (l.map f)=true:=by
 induction l with
 | nil=> rfl
 | cons a l ih=>
  rw [List.map_cons,okUs,Bool.and_eq_true]
  exact ⟨h a List.mem_cons_self,ih fun b hb=> h b (List.mem_cons_of_mem _ hb)⟩
theorem gq {α:Type} {n:Nat} {f:α→U} {l:List α} (h:∀ a,okU n (f a)=true):okU (n+1) (.lst (l.map f))=true:=by rw [okU]; exact gQ fun a _=> h a
end L2
namespace L2
open PySem PySem.Spec PyProof.Rows
section
variable {X:Cx} {H0:Hp} {O0:List Addr} {E:XK} {ps:PSt} {D:PD} {a b c e:Expr} {bK:List Expr} {pos:Pos} {k:Bool}
theorem d_ {tb fb:List Stmt} (hc:Tt X H0 O0 ps c k) (hk:k=true) (h:Ws X H0 O0 E tb D ps):W1 X H0 O0 E (.If c tb fb pos) D ps:=hR hc (fun _=> h) (fun e=> by rw [hk] at e; cases e)
theorem cE {tb fb:List Stmt} (hc:Tt X H0 O0 ps c k) (hk:k=false) (h:Ws X H0 O0 E fb D ps):W1 X H0 O0 E (.If c tb fb pos) D ps:=hR hc (fun e=> by rw [hk] at e; cases e) (fun _=> h)
end
end L2
namespace L2
open PySem PySem.Spec PyProof.Rows
section
variable {X:Cx} {H0:Hp} {O0:List Addr} {E:XK} {ps:PSt} {D:PD} {body:List Stmt} {tg iter c:Expr} {pos:Pos} {xs:List U} {α:Type}
theorem TgS.sub {p p':PSt} {u:U} {ps':PSt} (h:TgS X H0 O0 tg p u ps') (hs:SubP p p'):TgS X H0 O0 tg p' u ps':=PG.mono h fun v σ H Q ⟨O,R,r,q⟩=> ⟨O,R.sub hs,r,q⟩
theorem Tt.sub {p p':PSt} {e:Expr} {k:Bool} (h:Tt X H0 O0 p e k) (hs:SubP p p'):Tt X H0 O0 p' e k:=PT.mono h fun σ H Q ⟨O,R,q⟩=> ⟨O,R.sub hs,q⟩
theorem cW (st:α→PSt) (Q:Nat→α→Prop) (hc:X.calm=true) (hp:PassesOwn (model X.prog X.w) X.A X.env X.xe) (hi:EvI X H0 O0 ps tg iter xs) (h0:∃ a,Q 0 a∧SubP (st a) ps)
  (hs:∀ (H0:Hp) (i:Nat) (x:U) (a:α),xs[i]?=some x→Q i a→∃ ps',TgS X H0 O0 tg (st a) x ps'∧Ws X H0 O0 E body { D with nx:=fun p=> ∃ b,Q (i+1) b∧SubP (st b) p,ct:=fun p=> ∃ b,Q (i+1) b∧SubP (st b) p,bk:=D.nx } ps')
  (hd:∀ a ps,Q xs.length a→SubP (st a) ps→D.nx ps) (hf:∀ x,foldedSetIterable iter X.env x=pure x:=by intro _; rfl):W1 X H0 O0 E (.For tg iter body [] pos) D ps:=
 kG hc hp hi (fun i ps=> ∃ a,Q i a∧SubP (st a) ps) h0 (fun H0 i x ps hx ⟨a,q,sb⟩=> by
  obtain ⟨ps',t,w⟩:=hs H0 i x a hx q
  exact ⟨ps',t.sub sb,w⟩) (fun ps ⟨a,q,sb⟩=> hd a ps q sb) hf
theorem gF (st:α→PSt) (Q:Nat→α→Prop) (hp:PassesOwn (model X.prog X.w) X.A X.env X.xe) (h0:∃ m a,Q m a∧SubP (st a) ps)
  (hs:∀ m a,Q m a→∃ b,Tt X H0 O0 (st a) c b∧(b=true→Ws X H0 O0 E body { D with nx:=fun p=> ∃ m' a',m' < m∧Q m' a'∧SubP (st a') p,ct:=fun p=> ∃ m' a',m' < m∧Q m' a'∧SubP (st a') p,bk:=D.nx } (st a))∧(b=false→∀ ps,SubP (st a) ps→D.nx ps)):W1 X H0 O0 E (.While c body [] pos) D ps:=by
 obtain ⟨m,a,q,sb⟩:=h0
 refine iw hp (fun m ps=> ∃ a,Q m a∧SubP (st a) ps) m ⟨a,q,sb⟩ fun m ps ⟨a,q,sb⟩=> ?_
 obtain ⟨b,t,h1,h2⟩:=hs m a q
 refine ⟨b,t.sub sb,fun e=> ?_,fun e=> h2 e ps sb⟩
 refine bX (PSs.mono (h1 e) fun D' σ H ⟨L,O,R⟩=> ⟨⟨fun p σ H O R ⟨m',a',l,q',sb'⟩=> L.nx p σ H O R ⟨m',l,a',q',sb'⟩,L.bk,fun p σ H O R ⟨m',a',l,q',sb'⟩=> L.ct p σ H O R ⟨m',l,a',q',sb'⟩,L.rt⟩,O,R⟩) sb
end
abbrev P2:=Int×Int
abbrev pu (p:P2):U:=.tup [.int p.1,.int p.2]
theorem jk (p q:P2):eqW (pu p) (pu q)=decide (p=q):=by
 obtain ⟨a,b⟩:=p
 obtain ⟨c,d⟩:=q
 simp only [pu,eqW,eqWs,Bool.and_true]
 rw [Bool.eq_iff_iff]; simp
theorem cm {α:Type} {l:List α} {f:α→U} {g:α→U} {i:Nat} {x y:U} (hx:(l.map f)[i]?=some x) (hy:(l.map g)[i]?=some y):∃ a,l[i]?=some a∧a∈l∧x=f a∧y=g a:=by
 rw [List.getElem?_map] at hx hy
 cases q:l[i]? with
 | none=> rw [q] at hx; cases hx
 | some p=> rw [q] at hx hy; cases hx; cases hy; exact ⟨p,rfl,List.mem_of_getElem? q,rfl,rfl⟩
end L2
namespace L2
open PySem PySem.Spec PyProof.Rows
theorem W1.mono {X:Cx} {H0:Hp} {O0:List Addr} {E:XK} {s:Stmt} {D:PD} {J:PSt→Prop} {ps:PSt} (h:W1 X H0 O0 E s { D with nx:=J } ps) (m:∀ ps,J ps→D.nx ps):W1 X H0 O0 E s D ps:=
 PS.mono h fun D' σ H ⟨L,O,R⟩=> ⟨⟨fun p σ H O R q=> L.nx p σ H O R (m p q),L.bk,L.ct,L.rt⟩,O,R⟩
theorem eY {X:Cx} {H0:Hp} {O0:List Addr} {E:XK} {s:Stmt} {ss:List Stmt} {D:PD} {ps:PSt} (J:PSt→Prop) (h1:W1 X H0 O0 E s { D with nx:=J } ps) (h2:∀ ps,J ps→Ws X H0 O0 E ss D ps):Ws X H0 O0 E (s::ss) D ps:=
 ac (W1.mono (J:=J) (D:={ D with nx:=fun p=> Ws X H0 O0 E ss D p }) h1 h2)
end L2
namespace PySem.W
open PySem PySem.Spec PySem.Calls PyProof.Rows
theorem eZ {M:Model} {A:Around} {E:Value→Shared→Prop} {K:Frag} {s:Shared} {x C B:Addr} {Q:Bool→Shared→Prop} (X:K.In s.heap) (I:OfCls x C s.heap) (hT:typeIn K (.ref B)=some (.type "type")) (hc:(clsIn K B).isSome=true)
  (hB:mroIn K B (.type "BaseException")=some true) (hC:mroIn K C (.ref B)=some true) (h:Q true s):wpAny M A (excMatches (.ref x) (.ref B)) Q E s:=by
 have L1:Looks M s.heap (typeOf (.ref x)) (.ref C):=I.type
 have L2:Looks M s.heap (typeOf (.ref B)) (.type "type"):=looks_typeIn X hT
 have L3:Looks M s.heap (isInstance (.ref B) (.type "tuple")) false:=L2.andThen (Looks.of_pure tc_notTuple)
 have L4:Looks M s.heap (isSubtype (.ref B) (.type "BaseException")) true:=looks_mroIn X hB
 have L5:Looks M s.heap (isSubtype (.ref C) (.ref B)) true:=looks_mroIn X hC
 have L6:Looks M s.heap (isType (.ref B)) true:=by
  obtain ⟨cdD,hcD⟩:=Option.isSome_iff_exists.mp hc
  unfold clsIn at hcD
  split at hcD
  ·rename_i c' d' cd' sl' ho
   intro A' Q' E' s' k q
   unfold isType loadHead
   exact wpAny_bind (wpAny_loadPart (k _ _ (X _ _ ho)) (wpAny_pure q))
  ·cases hcD
 obtain ⟨hh,g,dr,t,os⟩:=s
 unfold excMatches isExcClass
 repeat (first | lk | wp_step)
 exact h
end PySem.W
namespace L2
open PySem PySem.Spec PySem.W PyProof.Rows
section
variable {X:Cx} {pins:List (Addr×Obj)} {σ:St} {H:Hp} {s:Shared}
theorem cJ {M:Model} {A:Around} {E:Value→Shared→Prop} {i:Nat} {x:Str} {pos:Pos} {Q:Unit→Shared→Prop} (I:Inv X pins σ H s) (hN:X.N.Nodup) (hi:X.N[i]?=some x) (hk:X.env.kindOf x=some .local)
  (h:∀ s',Inv X pins (σ.set i none) H s'→Q () s'):wpAny M A (do bindName X.env x .none; unbindBehindTheSuite X.env x pos) Q E s:=by
 obtain ⟨m,hn,hl⟩:=id I.loc
 have hcls:(X.env.scope.kind==.class || (X.env.scope.kind==.module && X.env.locals !=X.env.globals))=false:=by rw [I.ok.kind]; rfl
 have hiσ:i < σ.length:=by rw [I.len]; exact (List.getElem?_eq_some_iff.mp hi).1
 have cne:=I.cne
 refine wpAny_nameGoes_keeps hk hn hcls fun h' v hn' hs=> ?_
 have tracked:HOk X.prog X.w H h':=fun b ob e=> by
  refine (I.hok b ob e).stay (fun c w' hc q=> (hs.2 c ?_).trans q) (fun _ q=> q) fun _ _ q=> q
  rintro rfl
  rcases hc with z | hc
  ·rw [← z,I.free] at e; cases e
  ·rw [I.free] at hc; cases hc
 refine h _ ⟨I.ok,I.os,I.bare,⟨fun b o e n hb hx=> ?_,fun b o e n hb hx=> ?_,I.base.free,fun b o e hx=> ?_,I.base.tups,I.base.frzs,I.base.tbls⟩,⟨_,hn',fun j y v' e1 e2 e3=> ?_⟩,fun y c e=> ?_,I.free,I.freeC,fun p hp=> ?_,tracked,by simpa using I.len⟩
 ·exact (hs.2 b (Nat.ne_of_lt (Nat.lt_of_lt_of_le (Heap.lt_size e) I.ok.above))).trans (I.base.keep b o e n hb hx)
 ·obtain ⟨sl,e1⟩:=I.base.slot b o e n hb hx
  exact ⟨sl,(hs.2 b (Nat.ne_of_lt (Nat.lt_of_lt_of_le (Heap.lt_size e) I.ok.above))).trans e1⟩
 ·obtain ⟨o',e1⟩:=I.base.there b o e hx
  exact ⟨o',(hs.2 b (Nat.ne_of_lt (Nat.lt_of_lt_of_le (Heap.lt_size e) I.ok.above))).trans e1⟩
 ·by_cases hj:j=i
  ·subst hj
   rw [List.getElem?_set_self hiσ] at e2
   cases e2
  ·rw [List.getElem?_set_ne (Ne.symm hj)] at e2
   obtain ⟨u',r',q⟩:=hl j y v' e1 e2 e3
   refine ⟨u',r',?_⟩
   rcases q with ⟨k,e⟩ | ⟨k,c,e,z⟩
   ·refine .inl ⟨k,?_⟩
    have:y≠x:=fun e=> hj (cS hN e1 (e ▸ hi))
    simp [this,e]
   ·exact .inr ⟨k,c,e,z.sameBut hs (cne y c e)⟩
 ·obtain ⟨w',z⟩:=I.cell y c e
  exact ⟨w',z.sameBut hs (cne y c e)⟩
 ·obtain ⟨e,n,ne,nf,d⟩:=I.pin p hp
  exact ⟨(hs.2 p.1 ne).trans e,n,ne,nf,d⟩
theorem gr {fs:List Addr} {H0 H':Hp} {h0 h1:Heap} {ea:Addr} {o:HO} (u:Un fs [] H0 H' h0 h1) (n0:h0.get? ea=none) (n1:H' ea=none):Un fs [] H0 (upd H' ea o) h0 h1 where
 keep:=u.keep
 slot:=u.slot
 free:=fun b ob e n hx=> by
  rw [au fun z=> by subst z; rw [n0] at e; cases e]; exact u.free b ob e n hx
 there:=u.there
 tups:=fun b xs e=> by have q:=u.tups b xs e; rw [au (ay q n1)]; exact q
 frzs:=fun b ob xs e=> by have q:=u.frzs b ob xs e; rw [au (ay q n1)]; exact q
 tbls:=fun b ps e=> by obtain ⟨m,q⟩:=u.tbls b ps e; exact ⟨m,by rw [au (ay q n1)]; exact q⟩
theorem fQ {P:Program} {w:World} {H':Hp} {h:Heap} {ea C:Addr} (ok:HOk P w H' h) (n1:H' ea=none) (I:OfCls ea C h):HOk P w (upd H' ea (.ext (OfCls ea C))) h:=fun a o e=> by
 by_cases z:a=ea
 ·subst z
  rw [aF] at e; cases e
  obtain ⟨ob,e1,e2⟩:=id I
  exact ⟨I,⟨ob,e1⟩,fun h1 h2 ⟨o1,q1,q2⟩ q3=> ⟨o1,q3 _ q1,q2⟩⟩
 ·rw [au z] at e
  refine (ok a o e).stay (fun _ _ _ q=> q) (fun _ q=> ?_) fun _ _ q=> ?_
  all_goals (first | (rw [au (ay q n1)]; exact q) | trace_state)
end
section
variable {X:Cx}
def cN.drop (D:cN) (i:Nat):cN:=⟨fun σ H=> D.nx (σ.set i none) H,D.rt,fun σ H=> D.bk (σ.set i none) H,fun σ H=> D.ct (σ.set i none) H⟩
def jE (K:Frag) (sp:Sp) (B:Addr) (i:Nat) (ta:TA) (th:TS):TS:=fun D σ H=> ta σ H fun vs H1=> sp vs H1 (fun _ H2=> D.nx σ H2) fun cls _ H2=> ∃ C,cls=.ref C∧mroIn K C (.ref B)=some true∧
 ∀ ea,H2 ea=none→th (D.drop i) (σ.set i (some (.ref ea))) (upd H2 ea (.ext (OfCls ea C)))
theorem gj {k:Nat} {fA B:Addr} {fd:FuncData} {ps:List Str} {sp:Sp} {f x n:Str} {i:Nat} {e:Expr} {es:List Expr} {ta:TA} {th:TS} {b₀:Stmt} {suite:List Stmt} {p cpos epos np hpos pos:Pos}
  (hstk:X.stack=X.env::X.outer) (hfr:X.env.frame=some X.env.locals) (F:aZ X.prog X.w X.K X.mg X.base (CXF X.prog X.w) k fA fd ps sp) (hr:bx k X.A) (hg:Gl X f) (hm:X.mg f=some (.ref fA)) (hk:keepIn X.K (.ref fA)=true) (hb:aT X.K fd ps []) (ha:PA X.nox (e::es) ta)
  (hgx:Gl X x) (hmx:X.mg x=some (.ref B)) (hT:typeIn X.K (.ref B)=some (.type "type")) (hB:mroIn X.K B (.type "BaseException")=some true)
  (hN:X.N.Nodup) (hi:X.N[i]?=some n) (hl:X.env.kindOf n=some .local) (hth:∀ ea,PSs (ci X ea) (b₀::suite) th)
  (hdb:(f==("__debug__":Str))=false:=by decide) (hdx:(x==("__debug__":Str))=false:=by decide) (he:starEach (e::es) X.env=(false,eval e X.env)::starEach es X.env:=by rfl) (hpl:(backTo cpos (starEach es X.env)).any (·.1)=false:=by rfl)
  (hsw:swapsWith (.Call (.Name f p) (e::es) [] cpos) none epos.line X.env=pure false:=by rfl):
  PS X (.Try [.Expr (.Call (.Name f p) (e::es) [] cpos) epos] [.ExceptHandler (some (.Name x np)) (some n) (b₀::suite) hpos] [] [] pos) (jE X.K sp B i ta th):=by
 intro pins s σ H D I h
 refine wpAny_Try_except ?_
 refine wpAny_execs_cons (wpAny_Expr_any (Q:=fun f s'=> match f with | .next=> wpAny (model X.prog X.w) X.A (execs [] X.env) (fun f s₁=> match f with | .next=> wpAny (model X.prog X.w) X.A (execs [] X.env) (SP X pins D) X.xe s₁ | f=> SP X pins D f s₁) _ s' | f=> _) ?_ I.quiet hsw)
 refine wpAny_Call_Name_kw (ck I hg hm ?_ hdb)
 refine PySem.W.callWith_K (h₀:=X.base) I.ok.mod.kin hk (wpAny_mono (ha cpos pins s σ H _ (I.wish _) h) (fun us s1 ⟨vs,H1,I1,r,q⟩=> ⟨I1.kIn,?_⟩) fun _ _ z=> z.elim) he hpl
 have J1:Inv X pins σ H1 s1:=I1.unwish
 have hlen:us.length=ps.length:=by rw [← r.length]; exact F.len _ _ _ _ q
 have hbd:=hb s1 us J1.kIn (by rw [List.append_nil]; exact hlen)
 rw [List.append_nil] at hbd
 refine wpAny_call (codeAny_mono (F.run X.A X.stack s1 H1 ⟨us,[]⟩ us vs _ _ hr J1.env0 hbd r q) fun res s' hq=> ?_)
 cases res with
 | ok fl=>
  cases fl with
  | ret u=>
   obtain ⟨v,H2,I2,_,q2⟩:=J1.after hq
   exact wpAny_execs_nil (wpAny_execs_nil ⟨σ,H2,I2,q2⟩)
  | next=> exact False.elim hq
  | brk=> exact False.elim hq
  | cont=> exact False.elim hq
 | error ev=>
  obtain ⟨ea,cls,a0,B0,H',rfl,os,bare,un,hok,hea,k1,k2,k3,fl,C,rfl,hmC,hT'⟩:=hq
  have hfrs:=J1.ok.frames
  have fl0:=fl
  rw [hstk] at hfrs fl
  refine wpAny_looks_onW hfrs hfr fl fun h4 held4 up4=> ?_
  refine wpAny_landsW held4 fun h5 fl5 up5=> ?_
  have ffr:∀ b∈frs X.stack,∀ o,s1.heap.get? b=some o→∀ vs,o.data≠.fields vs:=dQ J1.stack
  have inv:∀ h6,B0.StaysIn h6→s'.heap.UpToSlots h6→Inv X pins σ H' { s' with heap:=h6 }:=fun h6 st up=>
   J1.call' (s':={ s' with heap:=h6 }) (ch:=[]) os (fY un k1 k3 st up ffr J1.stkFree) (cL hok k2 fl.1 st) bare (fun b z=> absurd z (by simp))
  have n0:s1.heap.get? ea=none:=by
   cases z:s1.heap.get? ea with
   | none=> rfl
   | some o=>
    exfalso
    by_cases hb':ea∈frs X.stack
    ·obtain ⟨sl,e1⟩:=un.slot ea o z (J1.stkFree ea hb') hb' (by simp)
     obtain ⟨_,_,_,oe,vs',T',oT,ts,g1,g2,g3,_⟩:=fl0
     rw [e1] at g1; cases g1
     exact ffr ea hb' o z _ g3
    ·obtain ⟨o',e'⟩:=k3 ea o z hb'
     have:=fl0.2.1
     rw [e'] at this; cases this
  have inv2:∀ h6,B0.StaysIn h6→s'.heap.UpToSlots h6→OfCls ea C h6→Inv X pins σ (upd H' ea (.ext (OfCls ea C))) { s' with heap:=h6 }:=fun h6 st up oc=>
   J1.call' (s':={ s' with heap:=h6 }) (ch:=[]) os (gr (fY un k1 k3 st up ffr J1.stkFree) n0 hea) (fQ (cL hok k2 fl.1 st) hea oc) bare (fun b z=> absurd z (by simp))
  have I5:=inv h5 fl5.1 (up4.trans up5)
  refine wpAny_handleBy_cons (codeAny_handlers_test (ck (X:=ci X ea) (I5.hand ea) hgx hmx ?_ hdx)) (by intro z; cases z)
  refine eZ I5.kIn fl5.there hT (cZ hB) hB hmC ?_
  refine codeAny_handlers_suite_as (lands_againW fl5 fun h6 fl6 up6=> ?_)
  have I6:=inv2 h6 fl6.1 ((up4.trans up5).trans up6) fl6.there
  refine dC (X:=ci X ea) (v:=.ref ea) (I6.hand ea) hN hi (.inl hl) rfl (fun s7 I7 _=> ?_) (.inr hl)
  refine wpAny_mono (hth ea pins s7 _ _ (D.drop i) I7 (hT' ea hea)) (fun f s2 z=> ?_) fun _ _ z=> z.elim
  have z1:SP X pins (D.drop i) f s2:=z.unhand I.ok.hd
  cases f with
  | next=> obtain ⟨σ',H8,I8,q8⟩:=z1; exact cJ I8 hN hi hl fun s9 I9=> ⟨_,_,I9,q8⟩
  | brk=> obtain ⟨σ',H8,I8,q8⟩:=z1; exact cJ I8 hN hi hl fun s9 I9=> ⟨_,_,I9,q8⟩
  | cont=> obtain ⟨σ',H8,I8,q8⟩:=z1; exact cJ I8 hN hi hl fun s9 I9=> ⟨_,_,I9,q8⟩
  | ret u=> obtain ⟨v,σ',H8,I8,r8,q8⟩:=z1; exact cJ I8 hN hi hl fun s9 I9=> ⟨v,_,_,I9,r8,q8⟩
end
section
variable {X:Cx} {H0:Hp} {O0:List Addr} {E:XK} {ps:PSt} {D:PD} {a e:Expr} {es:List Expr} {us:List U} {k:Bool} {n:Nat} {fd:FuncData} {pn:List Str} {spec:List U→Out→Prop}
theorem gw:bL X (.builtin "isinstance") (fun xs H Q=> ∃ a C D k,xs=[.ref a,.ref D]∧H a=some (.ext (OfCls a C))∧XcOk X.K C∧kitOne X.K (.ref C) (.ref D)=some k∧Q (.bl k) H):=by
 intro pins s σ H xs us Q I r h
 obtain ⟨a,C,D,k,rfl,ha,hk,e,q⟩:=h
 obtain ⟨u,w',rfl,r1,r2⟩:=iP r
 cases r1; cases r2
 exact PySem.W.kia_one hk.kit I.kIn (I.hok _ _ ha).1 e (fun z=> nomatch z) fun tk=> ⟨.bl k,H,I.tok _,rfl,q⟩
theorem iQ {C D':Addr} {nm:Str} {p p2 pos:Pos} (h:kitOne X.K (.ref C) (.ref D')=some k) (hg:Gl X "isinstance") (hm:X.mg "isinstance"=none) (hv:bootBuiltins "isinstance"=some (.builtin "isinstance")) (ha:Ev X H0 O0 ps a (.ty (.xc C))) (hgD:Gl X nm) (hmD:X.mg nm=some (.ref D'))
  (hd:(nm==("__debug__":Str))=false:=by decide)
  (he:starEach [a,.Name nm p2] X.env=(false,eval a X.env)::starEach [.Name nm p2] X.env:=by rfl) (he2:starEach [.Name nm p2] X.env=(false,eval (.Name nm p2) X.env)::starEach [] X.env:=by rfl) (hpl:(backTo pos (starEach [.Name nm p2] X.env)).any (·.1)=false:=by rfl):
  Ev X H0 O0 ps (.Call (.Name "isinstance" p) [a,.Name nm p2] [] pos) (.bl k):=
 PE.mono (cX gw hg hm hv (bW ha (bW (ft (v:=.ref D') hgD hmD rfl hd) cP he2) he) (by decide) (by decide) he hpl) fun σ H Q ⟨O,R,q⟩=> ⟨O,R,fun v H1 s1 r1=> by
  cases r1 with
  | xc h1 h2=> exact ⟨_,_,_,k,rfl,am _ _ h1,h2,h,q _ H1 s1 (.bl k)⟩⟩
def PD.drop (D:PD) (i:Nat):PD:=⟨fun p=> D.nx (p.set i none),D.rt,fun p=> D.bk (p.set i none),fun p=> D.ct (p.set i none)⟩
theorem Lf.drop {K:Frag} {D':cN} (L:Lf K H0 O0 E D D') (i:Nat):Lf K H0 O0 E (D.drop i) (D'.drop i):=
 ⟨fun ps σ H O R h=> L.nx _ _ H O R.drop h,fun ps σ H O R h=> L.bk _ _ H O R.drop h,fun ps σ H O R h=> L.ct _ _ H O R.drop h,L.rt⟩
theorem fM {fA B C:Addr} {x f m:Str} {i:Nat} {b₀:Stmt} {suite:List Stmt} {p cpos epos np hpos pos:Pos}
  (hstk:X.stack=X.env::X.outer) (hfr:X.env.frame=some X.env.locals) (F:aZ X.prog X.w X.K X.mg X.base (CXF X.prog X.w) n fA fd pn (spU X.K spec)) (hr:bx n X.A) (hg:Gl X f) (hm:X.mg f=some (.ref fA)) (hk:PySem.W.keepIn X.K (.ref fA)=true) (hb:aT X.K fd pn []) (ha:EvA X.nox H0 O0 ps (e::es) us)
  (hgx:Gl X x) (hmx:X.mg x=some (.ref B)) (hT:typeIn X.K (.ref B)=some (.type "type")) (hB:mroIn X.K B (.type "BaseException")=some true)
  (hN:X.N.Nodup) (hi:X.N[i]?=some m) (hl:X.env.kindOf m=some .local) (hsp:spec us (.exc C)) (hC:mroIn X.K C (.ref B)=some true) (hxc:XcOk X.K C)
  (h:∀ ea,Ws (ci X ea) H0 O0 E (b₀::suite) (D.drop i) (ps.set i (some (.val (.ty (.xc C))))))
  (hdb:(f==("__debug__":Str))=false:=by decide) (hdx:(x==("__debug__":Str))=false:=by decide) (he:starEach (e::es) X.env=(false,eval e X.env)::starEach es X.env:=by rfl) (hpl:(backTo cpos (starEach es X.env)).any (·.1)=false:=by rfl)
  (hsw:swapsWith (.Call (.Name f p) (e::es) [] cpos) none epos.line X.env=pure false:=by rfl):
  W1 X H0 O0 E (.Try [.Expr (.Call (.Name f p) (e::es) [] cpos) epos] [.ExceptHandler (some (.Name x np)) (some m) (b₀::suite) hpos] [] [] pos) D ps:=
 PS.mono (gj (th:=fun D' σ H=> Lf X.K H0 O0 E (D.drop i) D'∧∃ O,Rs X.K H0 O0 (ps.set i (some (.val (.ty (.xc C))))) σ H O) hstk hfr F hr hg hm hk hb ha hgx hmx hT hB hN hi hl (fun ea=> h ea) hdb hdx he hpl hsw) fun D' σ H ⟨L,O,R⟩=>
  ⟨O,R,fun vs H1 s1 r1=> ⟨us,O,.exc C,(R.go s1).dom,r1,hsp,fun H2 s2=> ⟨C,rfl,hC,fun ea hn=> ⟨L.drop i,O,((R.go (s1.trans s2)).go (aE hn _)).set (.xc ((R.go (s1.trans s2)).hidnew hn) hxc)⟩⟩⟩⟩
end
section
variable {X:Cx} {H0:Hp} {O0:List Addr} {ps:PSt} {pos:Pos}
end
end L2
namespace L2
open PySem
theorem bG {c:Const} {j:Nat} {pos:Pos} {es:List Expr} {env:Env}:starEach (.Constant c j pos::es) env=(false,eval (.Constant c j pos) env)::starEach es env:=by rw [starEach]; intro e p h; cases h
theorem cC {a b:Expr} {o:Operator} {pos:Pos} {es:List Expr} {env:Env}:starEach (.BinOp a o b pos::es) env=(false,eval (.BinOp a o b pos) env)::starEach es env:=by rw [starEach]; intro e p h; cases h
theorem af {x:Str} {pos:Pos} {es:List Expr} {env:Env}:starEach (.Name x pos::es) env=(false,eval (.Name x pos) env)::starEach es env:=by rw [starEach]; intro e p h; cases h
theorem cg {f:Expr} {a:List Expr} {k:List Keyword} {pos:Pos} {es:List Expr} {env:Env}:starEach (.Call f a k pos::es) env=(false,eval (.Call f a k pos) env)::starEach es env:=by rw [starEach]; intro e p h; cases h
theorem cK {e:Expr} {g:List Comprehension} {sc:Scope} {pos:Pos} {es:List Expr} {env:Env}:starEach (.ListComp e g sc pos::es) env=(false,eval (.ListComp e g sc pos) env)::starEach es env:=by rw [starEach]; intro e p h; cases h
structure EvS (X:Cx) (H0:Hp) (O0:List Addr) (ps:PSt) (es:List Expr) (us:List U):Prop where
 a:EvA X H0 O0 ps es us
section
variable {X:Cx} {H0:Hp} {O0:List Addr} {ps:PSt} {e:Expr} {es:List Expr} {u:U} {us:List U} {pos:Pos}
theorem be:EvS X H0 O0 ps [] []:=⟨ai⟩
theorem aH (ha:Ev X H0 O0 ps e u) (hr:EvS X H0 O0 ps es us) (hs:starEach (e::es) X.env=(false,eval e X.env)::starEach es X.env):EvS X H0 O0 ps (e::es) (u::us):=⟨ae ha hr.a hs⟩
theorem gC {x1} (h:EvS X H0 O0 ps es us) (hz:us.length≤sizeLine:=by first | decide | (simp only [List.length_cons,List.length_nil]; decide)):Ev X H0 O0 ps (.Tuple es x1 pos) (.tup us):=kC h.a hz
theorem aN (h:EvS X H0 O0 ps es us) (hz:us.length≤sizeLine:=by first | decide | (simp only [List.length_cons,List.length_nil]; decide)):EvN X H0 O0 ps (.List es pos) us:=kl h.a hz
end
end L2
namespace ST
open PySem PySem.SetTable
def Ris (xs:Array Nat):Prop:=∀ (i j x y:Nat),i < j→xs[i]?=some x→xs[j]?=some y→x < y
def adv (mask:Nat) (p:Probe):Probe:=
 if p.more > 0 then { p with j:=p.j+1,more:=p.more - 1 } else
 { p with j:=(leap mask p.i p.perturb).1,more:=runEnd mask (leap mask p.i p.perturb).1 - (leap mask p.i p.perturb).1,i:=(leap mask p.i p.perturb).1,perturb:=(leap mask p.i p.perturb).2 }
def start (mask:Nat) (h:Int):Probe:={ j:=bits h % (mask+1),more:=runEnd mask (bits h % (mask+1)) - bits h % (mask+1),i:=bits h % (mask+1),perturb:=bits h,dummy:=none }
def pth (mask:Nat) (h:Int):Nat→Probe
 | 0=> start mask h
 | n+1=> adv mask (pth mask h n)
end ST
namespace ST
open PySem PySem.SetTable
def Liv (t:SetTable) (j:Nat):Prop:=∃ i:Nat,t.place[i]?=some j
structure TOk (t:SetTable) (hs:List Int):Prop where
 R:Ris t.place
 d:t.dummies=#[]
 k:∃ k,3≤k∧t.mask+1=2 ^ k
 n:t.place.size=hs.length
 f:t.place.size≤t.mask
 le:∀ (i x:Nat),t.place[i]?=some x→x≤t.mask
 reach:∀ (i j:Nat) (h:Int),t.place[i]?=some j→hs[i]?=some h→∃ m,(pth t.mask h m).j=j∧∀ m',m' < m→Liv t (pth t.mask h m').j
end ST
namespace ST
open PySem PySem.SetTable
def OL (owner:Array (Option Nat)) (j:Nat):Prop:=∃ k:Nat,owner[j]?=some (some k)
structure OI (mask:Nat) (owner:Array (Option Nat)) (hs:List Int):Prop where
 sz:owner.size=mask+1
 lt:∀ (j k:Nat),owner[j]?=some (some k)→k < hs.length
 inj:∀ (i j k:Nat),owner[i]?=some (some k)→owner[j]?=some (some k)→i=j
 all:∀ k:Nat,k < hs.length→∃ j:Nat,owner[j]?=some (some k)
 reach:∀ (j k:Nat) (h:Int),owner[j]?=some (some k)→hs[k]?=some h→∃ m,(pth mask h m).j=j∧∀ m',m' < m→OL owner (pth mask h m').j
end ST
namespace ST
open PySem PySem.SetTable
end ST
namespace ST
open PySem PySem.SetTable
section
variable {prog:Program} {w:World} {A:Around} {E:Value→Shared→Prop} {s:Shared}
abbrev TK (prog:Program) (w:World) (h:Heap) (k:List Int) (b:Addr):Prop:=IsTupleKey (intKind prog w) h k b
abbrev hsh (prog:Program) (w:World) (k:List Int):Int:=tupleKeyHash (intKind prog w) k
def lh (prog:Program) (w:World) (kb:List (List Int×Addr)):List (Int×Value):=kb.map fun p=> (hsh prog w p.1,.ref p.2)
end
end ST
namespace ST
open PySem PySem.SetTable
section
variable {prog:Program} {w:World} {A:Around} {E:Value→Shared→Prop} {s:Shared}
structure SP (prog:Program) (w:World) (h:Heap) (S:Addr) (kb:List (List Int×Addr)):Prop where
 ex:∃ o es ep t,h.get? S=some o∧o.ExactSet∧o.data=.set es ep t∧es.toList=lh prog w kb∧TOk t (kb.map fun p=> hsh prog w p.1)∧t.led=(!w.params.followText "set-order")∧t.plain=true∧t.tooFull=false∧t.mask < 8 * kb.length+8
 keys:∀ p∈kb,TK prog w h p.1 p.2
 nd:(kb.map (·.1)).Nodup
end
end ST
namespace ST
open PySem PySem.SetTable
section
variable {prog:Program} {w:World} {A:Around} {E:Value→Shared→Prop} {s:Shared}
end
end ST
namespace ST
open PySem PySem.SetTable
section
variable {prog:Program} {w:World} {A:Around}
structure Got (kx:Nat→List Int×Addr) (i:Nat) (kb:List (List Int×Addr)):Prop where
 src:∀ p∈kb,∃ j,j < i∧p=kx j
 all:∀ j,j < i→(kx j).1∈kb.map (·.1)
 len:kb.length≤i
variable {R:Result→Shared→Prop} {I:Addr} {fp wr:List Addr} {G:Array GenState→Array GenState→Prop} {n:Nat} {P:Nat→Value→Prop} {St:Nat→Shared→Prop}
end
section
variable {prog:Program} {w:World} {A:Around} {E:Value→Shared→Prop} {s:Shared}
end
end ST
namespace ST
open PySem PySem.SetTable
section
variable {prog:Program} {w:World} {A:Around} {E:Value→Shared→Prop} {s:Shared}
end
end ST
namespace ST
open PySem PySem.SetTable
section
variable {prog:Program} {w:World} {A:Around} {E:Value→Shared→Prop} {s:Shared}
structure SO (prog:Program) (w:World) (o:Obj) (es:Array (Int×Value)) (ep:Nat) (t:SetTable) (hs:List Int):Prop where
 ex:o.ExactSet
 d:o.data=.set es ep t
 T:TOk t hs
 n:hs.length=es.size
 led:t.led=(!w.params.followText "set-order")
 plain:t.plain=true
end
end ST
namespace ST
open PySem PySem.SetTable PySem.W
section
variable {prog:Program} {w:World} {A:Around} {E:Value→Shared→Prop} {s:Shared}
end
end ST
namespace ST
open PySem PySem.W PyProof.Rows
inductive jm (lt:Nat→Nat→Bool) (n:Nat) {α:Type}:KasT α→α→Prop
 | ret (a:α):jm lt n (.ret a) a
 | ask {i j:Nat} {k:Bool→KasT α} {a:α}:i < n→j < n→jm lt n (k (lt i j)) a→jm lt n (.ask i j k) a
variable {lt:Nat→Nat→Bool} {n:Nat}
structure LtO (n:Nat) (lt:Nat→Nat→Bool):Prop where
 tr:∀ i j k,lt i j=true→lt j k=true→lt i k=true
 tot:∀ i j,i < n→j < n→i≠j→lt i j=false→lt j i=true
 asy:∀ i j,lt i j=true→lt j i=false
abbrev g (p:Array Nat) (k:Nat):Nat:=p.getD k 0
structure PP (n:Nat) (p:Array Nat):Prop where
 perm:p.toList.Perm (List.range n)
end ST
namespace ST
open PySem PySem.W PyProof.Rows
def ltP (a b:Int×Int):Bool:=decide (a.1 < b.1∨(a.1=b.1∧a.2 < b.2))
section
variable {prog:Program} {w:World} {A:Around} {E:Value→Shared→Prop} {s:Shared}
end
end ST
namespace ST
open PySem PySem.W PyProof.Rows PySem.Calls
section
variable {prog:Program} {w:World} {A:Around} {E:Value→Shared→Prop} {s:Shared}
end
end ST
namespace ST
open PySem
def ins (x:Int×Int):List (Int×Int)→List (Int×Int)
 | []=> [x]
 | y::r=> if x=y then y::r else if ltP x y=true then x::y::r else y::ins x r
end ST
namespace L2
open PySem PySem.Spec PyProof.Rows
section
variable {X:Cx} {H0:Hp} {O0:List Addr} {ps:PSt} {e:Expr} {pts:List P2} {pos pos' p p':Pos}
end
end L2
namespace ST
open PySem
section
variable {prog:Program} {w:World} {A:Around} {s:Shared} {R:Result→Shared→Prop} {I:Addr} {fp wr:List Addr} {G:Array GenState→Array GenState→Prop} {n:Nat} {P:Nat→Value→Prop} {St:Nat→Shared→Prop} {T:String}
end
section
variable {prog:Program} {w:World} {A:Around} {E:Value→Shared→Prop} {s:Shared} {I:Addr} {fp wr:List Addr} {G:Array GenState→Array GenState→Prop} {n:Nat} {P:Nat→Value→Prop} {St:Nat→Shared→Prop} {T:String}
end
end ST
namespace L2
open PySem PySem.Spec PyProof.Rows
theorem dj:bootBuiltins "reversed"=some (.type "reversed"):=by decide+kernel
section
variable {X:Cx} {H0:Hp} {O0:List Addr} {ps:PSt} {e k:Expr} {x:U} {xs:List U} {pos pos' p p' p2:Pos}
theorem kO {K:PySem.W.Frag} {H:Hp} {v:V} (rp:Rp K H v x) (hx:x=.lst xs∨x=.scr xs):∃ a vs,v=.ref a∧SqL K H a vs∧Rps K H vs xs:=by
 rcases hx with rfl | rfl
 ·cases rp with
  | lst hq hl hh=> exact ⟨_,_,rfl,SqL.of hq,hl,hh⟩
 ·cases rp with
  | scr hq hl hh=> exact ⟨_,_,rfl,hq,hl,hh⟩
end
end L2
namespace L2
open PySem PySem.Spec PyProof.Rows
section
variable {X:Cx} {H0:Hp} {O0:List Addr} {ps:PSt} {xs:List U} {us:List U} {es:List Expr} {x:Str} {pc p' pos:Pos}
theorem eT (n:Nat) (h:ps[n]?=some (some (.own xs))) (hg:Gl X "len") (hm:X.mg "len"=none) (hN:X.N[n]?=some x:=by rfl) (hv:Vis X.env.scope x:=by first | exact Or.inl rfl | exact Or.inr (Or.inl rfl) | exact Or.inr (Or.inr rfl)) (hd:(x==("__debug__":Str))=false:=by decide)
  (hcd:(x==("__classdict__":Str))=false:=by decide) (hpl:(backTo pos (starEach [] X.env)).any (·.1)=false:=by rfl):Ev X H0 O0 ps (.Call (.Name "len" pc) [.Name x p'] [] pos) (.int xs.length):=i9 n h hg hm hN hv hd hcd af hpl
end
end L2
namespace ST
open PySem
abbrev kJ (h:Heap) (z TI TO T:Addr) (b:Bool):Prop:=h.get? z=some { cls:=.type "zip",dict:=none,data:=.fields #[rawInt T,.bool b,.bool false,.ref TI,.ref TO],slots:=#[] }
section
variable {prog:Program} {w:World} {A:Around} {E:Value→Shared→Prop} {s:Shared}
end
structure ZL (xs ys:Array Value) (z TI TO i1 i2 l1 l2 S:Addr) (h:Heap) (i:Nat) (ad:List Addr) (c:Nat):Prop where
 ti:IsPair h TI (.ref i1) (.ref i2)
 a1:h.IsListIter i1 l1 i
 a2:h.IsListIter i2 l2 i
 b1:h.IsList l1 xs
 b2:h.IsList l2 ys
 acc:h.get? S=some { cls:=.type "list",dict:=none,data:=.seq (ad.map Value.ref).toArray c,slots:=#[] }
 len:ad.length=i
 tup:∀ (j:Nat) (a:Addr),ad[j]?=some a→∃ x y,xs[j]?=some x∧ys[j]?=some y∧IsPair h a x y
 far:∀ a∈ad,a≠z∧a≠TO∧a≠i1∧a≠i2∧a≠S
 to:∃ o,h.get? TO=some o
 nd:ad.Nodup
 zz:(i=0∧IsZip h z TI TO .none∧∃ a b,IsPair h TO a b)∨(∃ b T,ad[0]?=some T∧kJ h z TI TO T b)
section
variable {prog:Program} {w:World} {A:Around} {R:Result→Shared→Prop}
end
end ST
namespace ST
open PySem
section
variable {prog:Program} {w:World} {A:Around} {R:Result→Shared→Prop}
structure ZF (xs ys:Array Value) (S:Addr) (h:Heap) (ad:List Addr) (c:Nat):Prop where
 acc:h.get? S=some { cls:=.type "list",dict:=none,data:=.seq (ad.map Value.ref).toArray c,slots:=#[] }
 len:ad.length=xs.size
 tup:∀ (j:Nat) (a:Addr),ad[j]?=some a→∃ x y,xs[j]?=some x∧ys[j]?=some y∧IsPair h a x y
 ne:∀ a∈ad,a≠S
 nd:ad.Nodup
end
end ST
namespace ST
open PySem
section
variable {prog:Program} {w:World} {A:Around} {E:Value→Shared→Prop} {s:Shared}
end
section
variable {prog:Program} {w:World} {A:Around} {R:Result→Shared→Prop} {s:Shared}
end
section
variable {prog:Program} {w:World} {A:Around} {E:Value→Shared→Prop} {s:Shared}
end
end ST
namespace L2
open PySem PySem.Spec PyProof.Rows
section
variable {P:Program} {w:World} {H:Hp} {h:Heap} {a:Addr} {o:HO}
end
section
variable {X:Cx} {H0:Hp} {O0:List Addr} {ps:PSt} {e f:Expr} {x y:U} {xs ys:List U} {pos pos' p p':Pos}
end
end L2
namespace L2
open PySem PySem.Spec PyProof.Rows
theorem cF (ns:List Int):∀ j,preSum (fun i=> ns.getD i 0) j=(ns.take j).sum
 | 0=> by simp [preSum]
 | j+1=> by rw [preSum,cF ns j,PySem.sum_take_succ]
section
variable {X:Cx} {ns:List Int} {M:Int}
theorem gN {K:PySem.W.Frag} {H:Hp} {ws:List V} {its:List Value} (rv:ak ws its) (rs:Rps K H ws (ns.map U.int)) (i:Nat) (z:Value) (e:its.toArray[i]?=some z):∃ t,z=.int (ns.getD i 0) t:=by
 have hl:=rs.len
 rw [List.length_map] at hl
 have e4:its[i]?=some z:=by simpa using e
 have hi:i < its.length:=ax e4
 have hw:i < ws.length:=by rw [rv.length]; exact hi
 have hb:i < ns.length:=by omega
 obtain ⟨u,e1,e2⟩:=rv.get (List.getElem?_eq_getElem hw)
 have e3:=rs.at_ i ws[i] (.int ns[i]) (List.getElem?_eq_getElem hw) (by rw [List.getElem?_map,List.getElem?_eq_getElem hb]; rfl)
 rw [e4] at e1
 cases e1
 generalize ws[i]=wi at *
 cases e3
 rw [List.getD_eq_getElem?_getD,List.getElem?_eq_getElem hb]
 obtain ⟨t,rfl⟩:=e2
 exact ⟨t,rfl⟩
theorem e7 (hc:X.calm=true):ek X (.builtin "sum") [.lst (ns.map U.int)] (.int ns.sum):=by
 intro pins s σ H vs us Q I r hq
 obtain ⟨O,d,rs,q⟩:=hq
 obtain ⟨v,rfl,h1⟩:=bV rs
 obtain ⟨p1,rfl,r1⟩:=ei r
 cases h1 with
 | @lst a ws _ hq hl hh=>
  cases r1
  obtain ⟨its,rv,pl,_⟩:=I.list (SqL.of (am _ _ hq))
  have hlen:its.length=ns.length:=by rw [← rv.length,hl,List.length_map]
  have hat:=gN (ns:=ns) rv ⟨hl,hh⟩
  refine call_sum_walkG (wpAny_pyIter_list pl.isList ?_)
  have hal:a < s.heap.objs.size:=by obtain ⟨o,e,_⟩:=pl.isList; exact Heap.lt_size e
  refine ⟨s.heap.objs.size,_,_,_,_,_,fun i=> ns.getD i 0,rfl,Walks.list (A:=X.A.in1) (I.ok.hd hc) s.heap.objs.size a (Nat.ne_of_lt hal) its.toArray,⟨⟨_,Heap.get?_push_size _ rfl,rfl,rfl⟩,pl.isList.push _⟩,fun b hb=> ?_,hat,fun h' tk t' hk=> ?_⟩
  ·show b < (s.heap.push _).objs.size
   rw [Heap.size_push]
   rcases List.mem_cons.mp hb with z | z
   ·rw [z]; exact Nat.lt_succ_self _
   ·rw [List.mem_singleton.mp z]; exact Nat.lt_succ_of_lt hal
  ·rw [cF,List.size_toArray,hlen,List.take_length]
   refine ⟨.int ns.sum,H,I.kept (t':=tk) fun b o e=> hk b o ?_ (Heap.get?_push_of_some _ e),⟨t',rfl⟩,q _ H (.refl H) (.int _)⟩
   intro z
   have:b=s.heap.objs.size:=by simpa using z
   exact absurd (Heap.lt_size e) (by rw [this]; exact Nat.lt_irrefl _)
end
end L2
namespace ST
open PySem PyProof.Rows
section
variable {prog:Program} {w:World} {A:Around} {E:Value→Shared→Prop} {s:Shared}
end
end ST
namespace L2
open PySem PySem.Spec PyProof.Rows
section
variable {X:Cx} {H0:Hp} {O0:List Addr} {ps:PSt} {a b c:Expr} {pos:Pos} {x y z:U} {p q:P2} {k m:Bool}
end
end L2
namespace L2
open PySem PySem.Spec PyProof.Rows
section
variable {X:Cx} {p q:P2} {l:List P2}
end
end L2
namespace L2
open PySem PySem.Spec PyProof.Rows
section
variable {X:Cx} {H0:Hp} {O0:List Addr} {ps:PSt} {e:Expr} {pts:List P2} {pos pos' p p':Pos}
end
end L2
namespace ST
open PySem
section
variable {prog:Program} {w:World} {A:Around} {R:Result→Shared→Prop} {I S:Addr} {fp wr:List Addr} {n:Nat} {P:Nat→Value→Prop} {St:Nat→Heap→Prop} {G:Heap→Prop} {bt:Nat→Nat→Bool}
end
section
variable {prog:Program} {w:World} {A:Around} {E:Value→Shared→Prop} {s:Shared}
end
section
variable {prog:Program} {w:World} {A:Around} {R:Result→Shared→Prop} {I S:Addr} {fp wr:List Addr} {n:Nat} {P:Nat→Value→Prop} {St:Nat→Heap→Prop} {G:Heap→Prop} {bt:Nat→Nat→Bool}
end
section
variable {prog:Program} {w:World} {A:Around} {E:Value→Shared→Prop} {s:Shared}
end
end ST
namespace ST
open PySem PyProof.Rows
section
variable {prog:Program} {w:World} {A:Around} {E:Value→Shared→Prop} {s:Shared}
end
end ST
namespace L2
open PySem PySem.Spec PyProof.Rows
section
variable {X:Cx} {pts:List P2} {M:P2}
end
end L2
namespace L2
open PySem PySem.Spec PyProof.Rows
section
variable {X:Cx} {H0:Hp} {O0:List Addr} {ps:PSt} {xs:List U} {x:Str} {pos pc p':Pos}
end
end L2
namespace L2
open PySem PySem.Spec PyProof.Rows
section
variable {X:Cx} {H0:Hp} {O0:List Addr} {ps:PSt} {x:Str} {pos:Pos} {a b:Expr} {i j:Int}
theorem iN (hg:Gl X x) (h:∃ t,X.mg x=some (.int i t)) (hd:(x==("__debug__":Str))=false:=by decide):Ev X H0 O0 ps (.Name x pos) (.int i):=by
 obtain ⟨t,hm⟩:=h
 exact PE.mono (ft (v:=.int i) hg hm ⟨t,rfl⟩ hd) fun _ H _ ⟨_,_,k⟩=> k _ H (.refl H) (.int i)
end
end L2
namespace L2
open PySem PySem.Spec PyProof.Rows
def Itv (K:PySem.W.Frag) (a:Addr) (n:Nat):It:=
 ⟨fun i H=> i < n∧∃ xs x,SqL K H a xs∧xs[n - 1 - i]?=some x,fun i H x H'=> H'=H∧∀ xs,SqL K H a xs→xs[n - 1 - i]?=some x,fun i _=> n≤i⟩
theorem gc {P:Program} {w:World} {K:PySem.W.Frag} {tg:Expr} (a it:Addr) (n:Nat):iC P w K tg (Itv K a n) [it] it (fun i h=> i≤n∧h.IsRevIter it a ((n:Int) - 1 - (i:Int))) where
 mem:=by simp
 obj:=fun i h st b hb=> by
  have e:b=it:=by simpa using hb
  subst e
  obtain ⟨_,o,e,c,d⟩:=st
  exact ⟨o,e,fun v z=> by rw [d] at z; cases z⟩
 keep:=fun i h h' st k=> ⟨st.1,st.2.at fun o e=> k it (by simp) o e⟩
 item:=by
  intro X hP hw hK hc i pins s σ H E I hf st hg
  subst hP hw hK
  obtain ⟨hi,xs,x,hq,hx⟩:=hg
  obtain ⟨its,rv,p,hz⟩:=I.list hq
  obtain ⟨u,hu,ru⟩:=rv.get hx
  obtain ⟨f0,f1,f2,f3,f4,f5⟩:=hf it (by simp)
  have e1:(n:Int) - 1 - (i:Int)=((n - 1 - i:Nat):Int):=by omega
  have st1:=st.2
  rw [e1] at st1
  refine wpAny_pyNext_rev_item st1 p.isList (x:=u) (by simpa using hu) fun h' st' sb=> ?_
  have e2:((n - 1 - i:Nat):Int) - 1=(n:Int) - 1 - ((i+1:Nat):Int):=by omega
  rw [e2] at st'
  have I1:Inv X pins σ H { s with heap:=h' }:=I.turned (t':=s.toks) (fun b o hb e=> (sb.2 b hb).trans e) f0 f1 f3 f4 f5
  obtain ⟨o,e,c,d⟩:=id st'
  exact ⟨u,rfl,gi (s:={ s with heap:=h' }) e c d (by decide) ⟨x,H,I1,ru,⟨rfl,fun ys hy=> by rw [I.list_inj hy hq]; exact hx⟩,⟨hi,st'⟩,fun b hb=> (hf b hb).1⟩⟩
 done:=by
  intro X hP hw hK hc i pins s σ H E I hf st hg
  subst hP hw hK
  obtain ⟨f0,f1,f2,f3,f4,f5⟩:=hf it (by simp)
  have hn:n≤i:=hg
  have e1:(n:Int) - 1 - (i:Int)=-1:=by have:=st.1; omega
  have st1:=st.2
  rw [e1] at st1
  exact wpAny_pyNext_rev_end (I.ok.hd hc) st1 fun h' eb=> ⟨rfl,I.turned (t':=s.toks) (fun b o hb e=> eb b o hb e) f0 f1 f3 f4 f5⟩
 self:=fun _ _ _ _ _ st h=> wpAny_pyIter_revIter st.2 h
section
variable {X:Cx} {H0:Hp} {O0:List Addr} {ps:PSt} {e tg:Expr} {p pos:Pos} {xs:List U} {x:U}
theorem ke (hg:Gl X "reversed") (hm:X.mg "reversed"=none) (ha:Ev X H0 O0 ps e x) (hx:x=.lst xs∨x=.scr xs) (he:starEach [e] X.env=(false,eval e X.env)::starEach [] X.env:=by rfl):
  EvI X H0 O0 ps tg (.Call (.Name "reversed" p) [e] [] pos) xs.reverse:=by
 rintro pins s σ H Q I ⟨O,R,q⟩
 refine wpAny_Call_Name_kw (c_ I hg hm dj ?_)
 refine callWith_type1 (thn (bW ha cP he pos pins s σ H (fun vs H1=> ∃ v,vs=[v]∧al H H1∧Rp X.K (hid H1 O) v x) I ⟨O,R,fun v H1 s1 r1=> ⟨v,rfl,s1,r1⟩⟩) fun us s1 hx'=> ?_) he rfl
 obtain ⟨vs,H1,I1,rv,v,rfl,sm,rp⟩:=hx'
 obtain ⟨u,rfl,ru⟩:=ei rv
 obtain ⟨a,ws,rfl,hq,rs⟩:=kO rp hx
 cases ru
 obtain ⟨its,rw',pl,hz⟩:=I1.list (am.seq hq)
 have hlen:=rw'.length
 have hsz:its.toArray.size=ws.length:=by simp [hlen]
 refine call_reversed_list pl.isList ?_
 rw [hsz]
 have I2:Inv X pins σ H1 { s1 with heap:=s1.heap.push (revObj a ((ws.length:Int) - 1)) }:=I1.kept (t':=s1.toks) fun b ob z=> Heap.get?_push_of_some _ z
 have st0:(s1.heap.push (revObj a ((ws.length:Int) - 1))).IsRevIter s1.heap.objs.size a ((ws.length:Int) - 1):=⟨_,Heap.get?_push_size _ rfl,rfl,rfl⟩
 refine wpAny_pyIter_revIter st0 ?_
 have fresh:H1 s1.heap.objs.size=none:=I1.hok.fresh (Nat.le_refl _)
 refine ⟨s1.heap.objs.size,[s1.heap.objs.size],_,_,H1,rfl,I2,gc a _ ws.length,⟨Nat.zero_le _,by simpa using st0⟩,fun b hb=> ?_,q _ H1 sm fun H2 s2=> ⟨fun i hi=> ?_,?_⟩⟩
 ·have e:b=s1.heap.objs.size:=by simpa using hb
  subst e
  exact I1.fpOk (Nat.le_refl _) fresh
 ·rw [List.length_reverse,← rs.len] at hi
  have hi':ws.length - 1 - i < ws.length:=by omega
  have hi2:ws.length - 1 - i < xs.length:=by rw [← rs.len]; exact hi'
  refine ⟨⟨hi,ws,ws[ws.length - 1 - i],s2.seq hq,List.getElem?_eq_getElem hi'⟩,fun z H3 y=> ⟨y.1,xs[ws.length - 1 - i],?_,rs.at_ _ z _ (y.2 ws (s2.seq hq)) (List.getElem?_eq_getElem hi2)⟩⟩
  rw [List.getElem?_reverse (by rw [← rs.len]; exact hi),← rs.len]
  exact List.getElem?_eq_getElem hi2
 ·show ws.length≤xs.reverse.length
  rw [List.length_reverse,rs.len]; exact Nat.le_refl _
end
end L2
namespace L2
open PySem PySem.Spec PyProof.Rows
theorem Rps.rep {K:PySem.W.Frag} {H:Hp} {vs:List V} {xs:List U} (r:Rps K H vs xs):∀ k,Rps K H (List.replicate k vs).flatten (List.replicate k xs).flatten
 | 0=> .nil
 | k+1=> by
  rw [List.replicate_succ,List.replicate_succ,List.flatten_cons,List.flatten_cons]
  exact r.snoc (r.rep k)
section
variable {X:Cx} {H0:Hp} {O0:List Addr} {ps:PSt} {a b:Expr} {pos:Pos} {xs:List U} {u:U} {k:Int}
theorem kB (ha:Ev X H0 O0 ps a (.lst xs)) (hb:Ev X H0 O0 ps b (.int k)) (h1:-(2 ^ 63)≤k) (h2:k < 2 ^ 63) (hz:xs.length * k.toNat≤sizeLine):EvN X H0 O0 ps (.BinOp a .Mult b pos) (List.replicate k.toNat xs).flatten:=
 PE.mono (fj ja ha hb) fun σ H Q ⟨O,R,q⟩=> two R (fun _ _ _ z=> z) (fun _ _ _ z=> z) fun v w H' s _ r1 r2=> by
  cases r2
  cases r1 with
  | lst hq hl hh=>
   refine ⟨_,_,_,rfl,rfl,am _ _ hq,h1,h2,by rw [hl]; exact hz,fun p hp=> q p _ _ (s.trans (aE hp _)) (s.free hp) aF ?_⟩
   exact (Rps.rep ⟨hl,hh⟩ _).same (bh (aE hp _) hp)
theorem eE {α:Type} (u:α):∀ k,(List.replicate k [u]).flatten=List.replicate k u
 | 0=> rfl
 | k+1=> by rw [List.replicate_succ,List.flatten_cons,eE u k]; rfl
theorem dN (ha:Ev X H0 O0 ps a (.lst [u])) (hb:Ev X H0 O0 ps b (.int k)) (h1:-(2 ^ 63)≤k) (h2:k < 2 ^ 63) (hz:k.toNat≤sizeLine):EvN X H0 O0 ps (.BinOp a .Mult b pos) (List.replicate k.toNat u):=by
 rw [← eE]
 exact kB ha hb h1 h2 (by simpa using hz)
end
end L2
namespace L2
open PySem PySem.Spec PySem.W PyProof.Rows
section
variable {X:Cx}
end
end L2
namespace L2
open PySem PySem.Spec PyProof.Rows
section
variable {X:Cx} {H0:Hp} {O0:List Addr} {E:XK} {ps ps':PSt} {D:PD} {s:Stmt} {ss body:List Stmt} {a b c e:Expr} {es:List Expr} {pos p:Pos} {u x y:U} {xs ys us:List U} {k:Bool}
 {CX:CXT} {n:Nat} {f C:Addr} {fd:FuncData} {pn:List Str} {spec:List U→Out→Prop} {nm:Str}
end
end L2
namespace L2
open PySem PySem.Spec PyProof.Rows
theorem Rs.free {K:PySem.W.Frag} {H0 H:Hp} {O0 O:List Addr} {ps:PSt} {σ:St} {xs:List U} (n:Nat) (h:ps[n]?=some (some (.own xs))) (R:Rs K H0 O0 ps σ H O):∃ O',(∀ b∈O',b∈O)∧Rs K H0 O0 (ps.set n (some (.val (.lst xs)))) σ H O':=by
 obtain ⟨v,hv,a,vs,rfl,ha,ha0,hH,rs⟩:=R.at_ n _ h
 have less:∀ b∈O.filter (fun b=> decide (b≠a)),b∈O:=fun b hb=> (List.mem_filter.mp hb).1
 have keep:∀ b∈O,b≠a→b∈O.filter (fun b=> decide (b≠a)):=fun b hb ne=> List.mem_filter.mpr ⟨hb,by simpa using ne⟩
 have sm:al (hid H O) (hid H (O.filter (fun b=> decide (b≠a)))):=bQ less
 have na:a ∉ O.filter (fun b=> decide (b≠a)):=fun z=> by have:=(List.mem_filter.mp z).2; simp at this
 refine ⟨O.filter (fun b=> decide (b≠a)),less,R.same,fun b hb=> keep b (R.old b hb) fun e=> ha0 (e ▸ hb),fun b hb=> R.new b (less b hb),fun b hb=> R.dom b (less b hb),by rw [R.len,List.length_set],fun i s hs=> ?_,fun i j ys zs b h1 h2 h3 h4=> ?_⟩
 ·rcases a_ hs with ⟨rfl,e⟩ | ⟨ne,hs⟩
  ·cases e
   exact ⟨.ref a,hv,.lst (bI hH na) (rs.same sm).len (rs.same sm).at_⟩
  ·obtain ⟨w,hw,ok⟩:=R.at_ i s hs
   refine ⟨w,hw,?_⟩
   cases s with
   | val u=> exact Rp.same sm ok
   | own ys=>
    obtain ⟨b,ws,rfl,hb,hb0,hHb,rsb⟩:=ok
    refine ⟨b,ws,rfl,keep b hb fun e=> ?_,hb0,hHb,rsb.same sm⟩
    subst e
    exact ne (R.inj n i _ _ b h hs hv hw)
 ·rcases a_ h1 with ⟨_,e⟩ | ⟨_,h1⟩
  ·cases e
  ·rcases a_ h2 with ⟨_,e⟩ | ⟨_,h2⟩
   ·cases e
   ·exact R.inj i j _ _ b h1 h2 h3 h4
section
variable {X:Cx} {H0:Hp} {O0:List Addr} {E:XK} {ps:PSt} {D:PD} {ss:List Stmt} {e:Expr} {xs:List U} {b:Bool}
theorem gE (n:Nat) (h:ps[n]?=some (some (.own xs))) (w:Ws X H0 O0 E ss D (ps.set n (some (.val (.lst xs))))):Ws X H0 O0 E ss D ps:=
 PSs.mono w fun D' σ H ⟨L,O,R⟩=> by
  obtain ⟨O',_,R'⟩:=R.free n h
  exact ⟨L,O',R'⟩
end
end L2
namespace L2
open PySem PySem.Spec PyProof.Rows
section
variable {X:Cx} {ns:List Int} {M:Int}
end
end L2
namespace L2
open PySem PySem.Spec PyProof.Rows
section
variable {X:Cx} {H0:Hp} {O0:List Addr} {E:XK} {ps:PSt} {D:PD} {e:Expr} {pos:Pos} {xs ys:List U}
end
end L2
namespace L2
open PySem PySem.Spec PySem.W PyProof.Rows
section
variable {X:Cx}
end
section
variable {X:Cx} {H0:Hp} {O0:List Addr} {E:XK} {ps:PSt} {D:PD} {a e:Expr} {es:List Expr} {us:List U} {k:Bool} {n:Nat} {fd:FuncData} {pn:List Str} {spec:List U→Out→Prop}
end
end L2
namespace L2
open PySem PySem.Spec PyProof.Rows
section
variable {X:Cx} {H0:Hp} {O0:List Addr} {ps:PSt} {a b:Expr} {p:P2} {l:List P2}
end
end L2
namespace ST
open PySem PySem.W PySem.Calls PyProof.Rows
section
variable {prog:Program} {w:World} {A:Around} {E:Value→Shared→Prop} {s:Shared}
end
end ST
namespace L2
open PySem PySem.Spec PyProof.Rows
section
variable {X:Cx} {H0:Hp} {O0:List Addr} {ps:PSt} {e:Expr} {p pos:Pos} {a b:P2}
end
end L2
namespace ST
open PySem PySem.W PySem.Calls PyProof.Rows
section
variable {prog:Program} {w:World} {A:Around} {E:Value→Shared→Prop} {s:Shared}
end
end ST
namespace L2
open PySem PySem.Spec PyProof.Rows
section
variable {X:Cx} {H0:Hp} {O0:List Addr} {ps:PSt} {e:Expr} {pts:List P2} {pos p:Pos}
end
end L2
namespace L2
open PySem PySem.Spec PySem.W PyProof.Rows
section
variable {X:Cx}
end
section
variable {X:Cx} {H0:Hp} {O0:List Addr} {E:XK} {ps:PSt} {D:PD} {a e:Expr} {es:List Expr} {us:List U} {k:Bool} {n:Nat} {fd:FuncData} {pn:List Str} {spec:List U→Out→Prop}
end
end L2
namespace L2
open PySem PySem.Spec PySem.W PyProof.Rows
structure ln (K:PySem.W.Frag) (x qual:Str) (st:Stmt) (f:Addr) (fd:FuncData) (D:Addr):Prop where
 ex:∃ (oc:Value) (od:Option Addr) (kV doc pm:Value) (an:Option Addr) (cdv ct:Value) (osl:Array (Option Value)),
  fd=PySem.W.fnOf x qual (az st) (aw st) (ag st) (.ref D) kV doc pm an cdv ct∧K.lookup f=some ⟨oc,od,.func fd,osl⟩∧PySem.W.codeIn K cdv qual=true
 kp:PySem.W.keepIn K (.ref f)=true
section
variable {P:Program} {w:World} {K:PySem.W.Frag} {mg:Str→Option Value} {base:Heap} {N pn:List Str} {qual nm:Str} {f D:Addr}
end
section
variable {X:Cx} {H0:Hp} {O0:List Addr} {ps:PSt} {e:Expr} {es:List Expr} {pos p:Pos} {u:U} {us:List U} {xs:List U} {CX:CXT} {n:Nat} {f:Addr} {fd:FuncData} {pn:List Str} {spec:List U→Out→Prop} {nm:Str} {j:Int}
end
end L2
namespace L2
open PySem PySem.Spec PyProof.Rows
section
variable {X:Cx} {H0:Hp} {O0:List Addr} {ps:PSt} {a b:Expr} {k:Int} {ns:List Int}
end
end L2
namespace L2
open PySem PySem.Spec PyProof.Rows
section
variable {X:Cx} {tg:Expr}
variable {H0:Hp} {O0:List Addr} {ps:PSt} {a b:Expr} {p pos:Pos}
end
section
variable {X:Cx} {H0:Hp} {O0:List Addr} {E:XK} {ps ps':PSt} {D:PD} {tg iter cond:Expr} {pos p:Pos} {xs:List U}
end
end L2
namespace L2
open PySem PySem.Spec PyProof.Rows
section
variable {X:Cx} {H0:Hp} {O0:List Addr} {ps:PSt} {e:Expr} {ns:List Int} {pos p:Pos}
end
end L2
namespace L2
open PySem PySem.Spec PyProof.Rows
section
variable {X:Cx} {H0:Hp} {O0:List Addr} {E:XK} {ps:PSt} {D:PD} {c:Expr} {pos:Pos} {xs:List U}
theorem fS {n j:Nat} {x y:Str} {xp yp ipos:Pos} {tb:List Stmt} (hc:X.calm=true) (hp:PassesOwn (model X.prog X.w) X.A X.env X.xe) (hn:ps[n]?=some (some (.own xs))) (hnj:j≠n) (hN:X.N.Nodup) (hj:X.N[j]?=some y) (hy:Loc X.env.scope y)
  (ht:∀ (i:Nat) (u:U),xs[i]?=some u→Tt X H0 O0 (ps.set j (some (.val u))) c false) (h:∀ o:Option Sl,D.nx (ps.set j o))
  (hN':X.N[n]?=some x:=by rfl) (hv:Vis X.env.scope x:=by first | exact Or.inl rfl | exact Or.inr (Or.inl rfl) | exact Or.inr (Or.inr rfl)) (hd:(x==("__debug__":Str))=false:=by decide) (hcd:(x==("__classdict__":Str))=false:=by decide)
  (hfn:X.fn y=true∨X.env.scope.names.lookup y=some .local:=by first | exact .inl rfl | exact .inr rfl | assumption)
  (hf:∀ z,foldedSetIterable (.Name x xp) X.env z=pure z:=by intro _; rfl):W1 X H0 O0 E (.For (.Name y yp) (.Name x xp) [.If c tb [] ipos] [] pos) D ps:=by
 have hb:PSs X [.If c tb [] ipos] (ku (jU (fun σ H Q=> ∃ (i:Nat) (u:U),xs[i]?=some u∧∃ O,Rs X.K H0 O0 (ps.set j (some (.val u))) σ H O∧∀ H',al H H'→Q false H') (fun _ _ _=> False) gP) gP):=
  eG (gJ (fun pins s σ H Q I ⟨i,u,hu,z⟩=> ht i u hu pins s σ H Q I z) (fun _ _ _ _ _ _ h=> h.elim) d3) d3
 refine PS.mono (gl hp hc (fo (cf hN' hv hd hcd)) (bp hN hj hy hfn) hb hf) fun D' σ H ⟨L,O,R⟩=> ?_
 obtain ⟨v,h1,a,vs,rfl,h3,h4,h5,h6⟩:=R.at_ n _ hn
 obtain ⟨o0,e0⟩:∃ o,ps.set j o=ps:=by
  by_cases hl:j < ps.length
  ·exact ⟨ps[j],List.set_getElem_self hl⟩
  ·exact ⟨none,List.set_eq_of_length_le (by omega)⟩
 refine ⟨_,h1,a,rfl,⟨vs,SqL.of h5⟩,?_⟩
 refine ⟨fun i m σ' H'=> m=xs.length - i∧i≤xs.length∧al H H'∧∃ o:Option Sl,Rs X.K H0 O0 (ps.set j o) σ' H' O∧σ'[n]?=some (some (.ref a)),⟨_,rfl,Nat.zero_le _,al.refl _,o0,by rw [e0]; exact R,h1⟩,?_⟩
 rintro i m σ2 H2 ⟨rfl,hi2,sm,o,R2,hr⟩
 have hq:=SqL.of (K:=X.K) (sm _ _ h5)
 by_cases hlt:i < xs.length
 ·have hiv:i < vs.length:=by rw [h6.len]; exact hlt
  refine .inr ⟨⟨vs,vs[i],hq,List.getElem?_eq_getElem hiv⟩,fun σ' H'=> i+1≤xs.length∧al H H'∧∃ o:Option Sl,Rs X.K H0 O0 (ps.set j o) σ' H' O∧σ'[n]?=some (some (.ref a)),fun σ' H' ⟨z1,z2,z3⟩=> ⟨xs.length - (i+1),by omega,rfl,z1,z2,z3⟩,fun z H3 yl=> ?_⟩
  obtain ⟨e3,y2⟩:=yl
  subst e3
  have hz:=y2 vs hq
  have hu:xs[i]?=some xs[i]:=List.getElem?_eq_getElem hlt
  have r:=(h6.at_ i z _ hz hu).same (aK (O:=O) sm)
  have R3:=R2.set (i:=j) r
  rw [List.set_set] at R3
  refine ⟨i,xs[i],hu,O,R3,fun H' s=> fC ?_⟩
  refine ⟨hlt,sm.trans s,_,R3.go s,?_⟩
  rw [List.getElem?_set_ne hnj]
  exact hr
 ·exact .inl ⟨⟨vs,hq,by rw [h6.len]; omega⟩,L.nx _ _ _ O R2 (h o)⟩
end
end L2
namespace L2
open PySem PySem.Spec PyProof.Rows
theorem i7 {X:Cx} {H0:Hp} {O0:List Addr} {ps:PSt} {xs:List U} {c:Expr} {b:Bool} (n:Nat) (h:ps[n]?=some (some (.own xs))) (w:Tt X H0 O0 (ps.set n (some (.val (.lst xs)))) c b):Tt X H0 O0 ps c b:=
 fun pins s σ H Q I ⟨O,R,k⟩=> by
  obtain ⟨O',_,R'⟩:=R.free n h
  exact w pins s σ H Q I ⟨O',R',k⟩
end L2
local macro_rules | `(tactic| walk_at "sz")=> `(tactic| first | with_reducible assumption | ((with_reducible apply L2.Sz.sub') <;> walk_at "sz") | ((with_reducible apply L2.Sz.add') <;> walk_at "sz") | ((with_reducible apply L2.Sz.mul) <;> walk_at "sz") | ((with_reducible apply L2.Sz.neg) <;> walk_at "sz") | ((with_reducible apply L2.Sz.ediv) <;> walk_at "sz") | ((with_reducible apply L2.Sz.abs) <;> walk_at "sz") | exact L2.Sz.lit (m:=8) (by decide) | exact L2.Sz.emod (m:=250) (by decide) (by decide) | exact L2.Sz.lit (m:=250) (by decide))
local macro_rules | `(tactic| walk_at "mul")=> `(tactic| exact L2.Sz.ok (by walk_at "sz") (by walk_at "sz") (by decide))
local macro_rules | `(tactic| walk_at "div")=> `(tactic| first | exact ⟨by decide,L2.Sz.mono (m:=250) (by decide) (by decide)⟩ | exact ⟨by omega,L2.Sz.mono (by walk_at "sz") (by decide)⟩)
local macro_rules | `(tactic| walk_at "mod")=> `(tactic| first | decide | omega)
local macro_rules | `(tactic| walk_at "szb")=> `(tactic| exact L2.Sz.mono (by walk_at "sz") (by decide))
local macro_rules | `(tactic| walk_at "kit")=> `(tactic| first | exact L2.kit_int_int _ | exact L2.kit_int_bool _ | exact L2.kit_tuple_tuple _ | exact L2.kit_list_list _ | exact L2.kit_bool_int _ | exact L2.kit_list_tuple _ | rfl)
local macro_rules | `(tactic| walk_at "ok")=> `(tactic| first | rfl | decide)
local macro_rules | `(tactic| walk_at "sub")=> `(tactic| first | exact trivial | (refine ⟨rfl,?_⟩; walk_at "sub") | (with_reducible apply L2.SubP.skip; walk_at "sub"))
local macro_rules | `(tactic| walk_at "len")=> `(tactic| first | decide | (simp only [List.length_append,List.length_cons,List.length_nil,List.length_map]; decide))
namespace My
open PySem PySem.Spec PyProof.Rows L2
def top (i:Nat):Stmt:=PySem.Challenge.pw_stakefield_k43_other_chains_by_dots.main.body.getD i (.Pass ⟨0,0,0,0⟩)
abbrev bf:Stmt:=top 5
abbrev bT:Stmt:=top 8
abbrev bg:Stmt:=top 9
abbrev aL:Stmt:=top 10
abbrev aR:Stmt:=top 12
abbrev aQ:Stmt:=top 13
abbrev aS:Stmt:=top 14
abbrev ar:Stmt:=top 15
abbrev aG:Stmt:=top 16
abbrev bb:Stmt:=top 17
abbrev aI:Stmt:=top 18
abbrev dt:Stmt:=top 19
theorem eJ:aD ["thing"] ["thing"] (ag bf):=⟨rfl,rfl,rfl,by decide+kernel,rfl,by decide+kernel,by decide+kernel⟩
theorem bB:aD ["n","q","found","b","rest"] ["n","q"] (ag bT):=⟨rfl,rfl,rfl,by decide+kernel,rfl,by decide+kernel,by decide+kernel⟩
theorem aO:aD ["some","b","n","q","longer"] ["some"] (ag bg):=⟨rfl,rfl,rfl,by decide+kernel,rfl,by decide+kernel,by decide+kernel⟩
theorem bw:aD ["some","both","n"] ["some"] (ag aL):=⟨rfl,rfl,rfl,by decide+kernel,rfl,by decide+kernel,by decide+kernel⟩
theorem dh:aD ["found"] ["found"] (ag aR):=⟨rfl,rfl,rfl,by decide+kernel,rfl,by decide+kernel,by decide+kernel⟩
theorem aV:aD ["cells","some","cell","b"] ["cells"] (ag aQ):=⟨rfl,rfl,rfl,by decide+kernel,rfl,by decide+kernel,by decide+kernel⟩
theorem aC:aD ["cells","first","last","one","many"] ["cells"] (ag aS):=⟨rfl,rfl,rfl,by decide+kernel,rfl,by decide+kernel,by decide+kernel⟩
theorem ap:aD ["some","dots","b","at","k","many"] ["some"] (ag ar):=⟨rfl,rfl,rfl,by decide+kernel,rfl,by decide+kernel,by decide+kernel⟩
theorem aX:aD ["some","kinds","e"] ["some"] (ag aG):=⟨rfl,rfl,rfl,by decide+kernel,rfl,by decide+kernel,by decide+kernel⟩
theorem bJ:aD ["due","some","n","q"] ["due","some"] (ag bb):=⟨rfl,rfl,rfl,by decide+kernel,rfl,by decide+kernel,by decide+kernel⟩
theorem aB:aD ["some","handed","b","found","due"] ["some"] (ag aI):=⟨rfl,rfl,rfl,by decide+kernel,rfl,by decide+kernel,by decide+kernel⟩
theorem eP:aD ["script","cells","some"] ["script"] (ag dt):=⟨rfl,rfl,rfl,by decide+kernel,rfl,by decide+kernel,by decide+kernel⟩
set_option genInjectivity false in
set_option genSizeOf false in
set_option genSizeOfSpec false in
structure Txt (K:PySem.W.Frag) (mg:Str→Option Value) where
 a_is_whole:Addr
 d_is_whole:FuncData
 F_is_whole:Fun K "is_whole" "is_whole" bf a_is_whole d_is_whole
 b_is_whole:aT K d_is_whole ["thing"] []
 m_is_whole:mg "is_whole"=some (.ref a_is_whole)
 a_links:Addr
 d_links:FuncData
 F_links:Fun K "links" "links" bT a_links d_links
 b_links:aT K d_links ["n","q"] []
 m_links:mg "links"=some (.ref a_links)
 a_unchain:Addr
 d_unchain:FuncData
 F_unchain:Fun K "unchain" "unchain" bg a_unchain d_unchain
 b_unchain:aT K d_unchain ["some"] []
 m_unchain:mg "unchain"=some (.ref a_unchain)
 a_other_chain:Addr
 d_other_chain:FuncData
 F_other_chain:Fun K "other_chain" "other_chain" aL a_other_chain d_other_chain
 b_other_chain:aT K d_other_chain ["some"] []
 m_other_chain:mg "other_chain"=some (.ref a_other_chain)
 a__law_whole:Addr
 d__law_whole:FuncData
 F__law_whole:Fun K "_law_whole" "_law_whole" aR a__law_whole d__law_whole
 b__law_whole:aT K d__law_whole ["found"] []
 m__law_whole:mg "_law_whole"=some (.ref a__law_whole)
 a__law_links:Addr
 d__law_links:FuncData
 F__law_links:Fun K "_law_links" "_law_links" aQ a__law_links d__law_links
 b__law_links:aT K d__law_links ["cells"] []
 m__law_links:mg "_law_links"=some (.ref a__law_links)
 a__law_edges:Addr
 d__law_edges:FuncData
 F__law_edges:Fun K "_law_edges" "_law_edges" aS a__law_edges d__law_edges
 b__law_edges:aT K d__law_edges ["cells"] []
 m__law_edges:mg "_law_edges"=some (.ref a__law_edges)
 a__law_columns:Addr
 d__law_columns:FuncData
 F__law_columns:Fun K "_law_columns" "_law_columns" ar a__law_columns d__law_columns
 b__law_columns:aT K d__law_columns ["some"] []
 m__law_columns:mg "_law_columns"=some (.ref a__law_columns)
 a__law_refused:Addr
 d__law_refused:FuncData
 F__law_refused:Fun K "_law_refused" "_law_refused" aG a__law_refused d__law_refused
 b__law_refused:aT K d__law_refused ["some"] []
 m__law_refused:mg "_law_refused"=some (.ref a__law_refused)
 a__law_back:Addr
 d__law_back:FuncData
 F__law_back:Fun K "_law_back" "_law_back" bb a__law_back d__law_back
 b__law_back:aT K d__law_back ["due","some"] []
 m__law_back:mg "_law_back"=some (.ref a__law_back)
 a__law_good:Addr
 d__law_good:FuncData
 F__law_good:Fun K "_law_good" "_law_good" aI a__law_good d__law_good
 b__law_good:aT K d__law_good ["some"] []
 m__law_good:mg "_law_good"=some (.ref a__law_good)
 a_law:Addr
 d_law:FuncData
 F_law:Fun K "law" "law" dt a_law d_law
 b_law:aT K d_law ["script"] []
 m_law:mg "law"=some (.ref a_law)
 c_NoNumber:Addr
 mx_NoNumber:mg "NoNumber"=some (.ref c_NoNumber)
 c_StakeError:Addr
 mx_StakeError:mg "StakeError"=some (.ref c_StakeError)
 c_TooMany:Addr
 x_TooMany:PySem.W.excIn K c_TooMany [.type "ValueError",.type "Exception",.type "BaseException",.type "object"] "ValueError.__new__"=true
 mx_TooMany:mg "TooMany"=some (.ref c_TooMany)
 z_all:mg "all"=none
 z_bool:mg "bool"=none
 z_int:mg "int"=none
 z_isinstance:mg "isinstance"=none
 z_len:mg "len"=none
 z_list:mg "list"=none
 z_range:mg "range"=none
 z_reversed:mg "reversed"=none
 z_sum:mg "sum"=none
 bx_StakeError:PySem.W.mroIn K c_StakeError (.type "BaseException")=some true
 kit_TooMany_NoNumber:PySem.W.kitOne K (.ref c_TooMany) (.ref c_NoNumber)=some false
 kit_TooMany_TooMany:PySem.W.kitOne K (.ref c_TooMany) (.ref c_TooMany)=some true
 sub_TooMany_StakeError:PySem.W.mroIn K c_TooMany (.ref c_StakeError)=some true
 ty_StakeError:PySem.W.typeIn K (.ref c_StakeError)=some (.type "type")
 xc_TooMany:PySem.W.XcOk K c_TooMany
 g_MOST_NUMBERS:∃ t,mg "MOST_NUMBERS"=some (.int 100 t)
section
variable {P:Program} {w:World} {K:PySem.W.Frag} {mg:Str→Option Value} {base:Heap}
def sgn (n:Int):Int:=if 0 < n then 1 else if n < 0 then -1 else 0
def kA (b:Int):Int:=if b < 0 then -b else b
structure lj (a b high ht low lt:Int):Prop where
 hp:0 < high
 lo0:0≤low
 lolt:low < high
 dv:∀ d,(d ∣ high∧d ∣ low)↔(d ∣ a∧d ∣ b)
 ch:b ∣ ht * a - high
 cl:b ∣ lt * a - low
 bd:ht.natAbs * low.natAbs+lt.natAbs * high.natAbs≤b.natAbs
 hi:high.natAbs≤b.natAbs
structure lp (a b g s t:Int):Prop where
 g0:0≤g
 eq:s * a+t * b=g
 da:g ∣ a
 db:g ∣ b
 z:b=0→t=0∧s=sgn a∧g=kA a
 nz:b≠0→0 < g∧0≤s∧s < kA b / g
def cd (n q:Int):Int:=-(-n / q)
theorem fX {n q:Int} (h:0 < q):n≤cd n q * q:=by
 unfold cd
 have h1:=Int.emod_nonneg (-n) (show q≠0 by omega)
 have h2:=Int.mul_ediv_add_emod (-n) q
 have h3:-(-n / q) * q=-(q * (-n / q)):=by grind
 omega
theorem gU {n q:Int} (h:0 < q):cd n q * q - n < q:=by
 unfold cd
 have h1:=Int.emod_lt_of_pos (-n) h
 have h2:=Int.mul_ediv_add_emod (-n) q
 have h3:-(-n / q) * q=-(q * (-n / q)):=by grind
 omega
theorem g9 {n q b:Int} (h:0 < q) (h1:n≤b * q) (h2:b * q - n < q):cd n q=b:=by
 have l:=fX (n:=n) h
 have u:=gU (n:=n) h
 generalize cd n q=c at *
 have e1:(c - b) * q < 1 * q:=by grind
 have e2:(b - c) * q < 1 * q:=by grind
 have:=Int.lt_of_mul_lt_mul_right e1 (by omega)
 have:=Int.lt_of_mul_lt_mul_right e2 (by omega)
 omega
theorem jp {n q:Int} (hn:0 < n) (h:0 < q):0 < cd n q:=by
 have l:=fX (n:=n) h
 refine Int.not_le.mp fun z=> ?_
 have:=Int.mul_nonneg (show 0≤-cd n q by omega) (show 0≤q by omega)
 grind
theorem j0 {n q:Int} (hn:0 < n) (h:0 < q):cd n q≤n:=by
 have u:=gU (n:=n) h
 refine Int.not_lt.mp fun z=> ?_
 have:=Int.mul_nonneg (show 0≤cd n q - n - 1 by omega) (show 0≤q by omega)
 have:=Int.mul_nonneg (show 0≤n - 0 by omega) (show 0≤q - 1 by omega)
 grind
def lks:Nat→Int→Int→Option (List Int)
 | 0,_,q=> if q≤0 then some [] else none
 | k+1,n,q=> if q≤0 then some [] else (lks k q (cd n q * q - n)).map (cd n q::·)
theorem ez (k:Nat) (n:Int) {q:Int} (h:q≤0):lks k n q=some []:=by
 cases k <;> · unfold lks; rw [if_pos h]
theorem ee (n:Int) {q:Int} (h:0 < q):lks 0 n q=none:=by unfold lks; rw [if_neg (by omega)]
theorem eD (k:Nat) (n:Int) {q:Int} (h:0 < q):lks (k+1) n q=(lks k q (cd n q * q - n)).map (cd n q::·):=by
 rw [lks,if_neg (by omega)]
theorem gz (n q b:Int):Int.gcd q (b * q - n)=Int.gcd n q:=by
 refine Nat.dvd_antisymm ?_ ?_
 ·have h1:((Int.gcd q (b * q - n):Nat):Int) ∣ q:=Int.gcd_dvd_left ..
  have h2:((Int.gcd q (b * q - n):Nat):Int) ∣ b * q - n:=Int.gcd_dvd_right ..
  have h3:((Int.gcd q (b * q - n):Nat):Int) ∣ n:=by
   have:=Int.dvd_sub (Int.dvd_trans h1 (Int.dvd_mul_left b q)) h2
   rwa [show b * q - (b * q - n)=n by omega] at this
  exact Int.ofNat_dvd.mp (Int.dvd_coe_gcd h3 h1)
 ·have h1:((Int.gcd n q:Nat):Int) ∣ n:=Int.gcd_dvd_left ..
  have h2:((Int.gcd n q:Nat):Int) ∣ q:=Int.gcd_dvd_right ..
  exact Int.ofNat_dvd.mp (Int.dvd_coe_gcd h2 (Int.dvd_sub (Int.dvd_trans h2 (Int.dvd_mul_left _ _)) h1))
structure Chd (n q:Int):Prop where
 q0:0≤q
 qn:q < n
 g:Int.gcd n q=1
theorem Chd.back {n q b:Int} (h:Chd n q) (hb:2≤b):Chd (b * n - q) n:=by
 have h1:=h.q0
 have h2:=h.qn
 have h3:2 * n≤b * n:=Int.mul_le_mul_of_nonneg_right hb (by omega)
 refine ⟨by omega,by omega,?_⟩
 have:=gz (b * n - q) n b
 rw [← this,show b * n - (b * n - q)=q by omega]
 exact h.g
theorem hZ {n q b:Int} (h:Chd n q):cd (b * n - q) n=b:=by
 have h1:=h.q0
 have h2:=h.qn
 exact g9 (by omega) (by omega) (by omega)
def unc:List Int→Int×Int
 | []=> (1,0)
 | b::l=> (b * (unc l).1 - (unc l).2,(unc l).1)
theorem cU:∀ {l:List Int},(∀ b∈l,2≤b)→Chd (unc l).1 (unc l).2
 | [],_=> ⟨by decide,by decide,by decide⟩
 | b::l,h=> (cU fun c hc=> h c (List.mem_cons_of_mem _ hc)).back (h b (List.mem_cons_self ..))
theorem d7:∀ {l:List Int} (k:Nat),(∀ b∈l,2≤b)→lks k (unc l).1 (unc l).2=if l.length≤k then some l else none
 | [],k,_=> by rw [if_pos (show ([]:List Int).length≤k from Nat.zero_le _)]; exact ez k _ (by decide)
 | b::l,k,h=> by
  have hl:=fun c hc=> h c (List.mem_cons_of_mem _ hc)
  have ok:=cU hl
  have p:0 < (unc l).1:=by have:=ok.q0; have:=ok.qn; omega
  show lks k (b * (unc l).1 - (unc l).2) (unc l).1=_
  cases k with
  | zero=> rw [ee _ p,if_neg (by simp)]
  | succ k=>
   rw [eD _ _ p,hZ ok,show b * (unc l).1 - (b * (unc l).1 - (unc l).2)=(unc l).2 by omega,d7 k hl]
   simp only [List.length_cons,Nat.add_le_add_iff_right]
   split <;> rfl
def inc:List Int→List Int
 | []=> []
 | c::t=> (c+1)::t
def ds:List Int→List Int
 | []=> [1]
 | b::l=> List.replicate (b - 2).toNat 2++inc (ds l)
theorem bU:∀ {l:List Int},(∀ b∈l,2≤b)→∃ c t,ds l=c::t∧1≤c∧(∀ x∈t,2≤x)∧(l≠[]→2≤c)
 | [],_=> ⟨1,[],rfl,by decide,by simp,fun z=> absurd rfl z⟩
 | b::l,h=> by
  obtain ⟨c,t,e,h1,h2,_⟩:=bU (l:=l) fun c hc=> h c (List.mem_cons_of_mem _ hc)
  rw [ds,e,inc]
  cases hk:(b - 2).toNat with
  | zero=> exact ⟨c+1,t,rfl,by omega,h2,fun _=> by omega⟩
  | succ k=>
   refine ⟨2,List.replicate k 2++(c+1)::t,rfl,by decide,fun x hx=> ?_,fun _=> by decide⟩
   rcases List.mem_append.mp hx with z | z
   ·rw [List.eq_of_mem_replicate z]; decide
   ·rcases List.mem_cons.mp z with rfl | z
    ·omega
    ·exact h2 x z
theorem gK {l:List Int} (h:∀ b∈l,2≤b) (hn:l≠[]):∀ x∈ds l,2≤x:=by
 obtain ⟨c,t,e,_,h2,h3⟩:=bU h
 intro x hx
 rw [e] at hx
 rcases List.mem_cons.mp hx with rfl | z
 ·exact h3 hn
 ·exact h2 x z
theorem eI (r:List Int):∀ m:Nat,unc (List.replicate m 2++r)=((unc r).1+m * ((unc r).1 - (unc r).2),(unc r).2+m * ((unc r).1 - (unc r).2))
 | 0=> by simp
 | m+1=> by
  rw [List.replicate_succ,List.cons_append,unc,eI r m]
  refine Prod.ext ?_ ?_ <;> · push_cast; grind
theorem d5:∀ {l:List Int},(∀ b∈l,2≤b)→unc (ds l)=((unc l).1,(unc l).1 - (unc l).2)
 | [],_=> by simp [ds,unc]
 | b::l,h=> by
  have hl:=fun c hc=> h c (List.mem_cons_of_mem _ hc)
  have hb:=h b (List.mem_cons_self ..)
  have I:=d5 hl
  obtain ⟨c,t,e,_⟩:=bU hl
  rw [ds,eI,e,inc]
  rw [e] at I
  simp only [unc,Prod.mk.injEq] at I ⊢
  obtain ⟨i1,i2⟩:=I
  have k:(((b - 2).toNat:Nat):Int)=b - 2:=by omega
  rw [k]
  constructor <;> grind
theorem g4:∀ {l:List Int},(∀ b∈l,2≤b)→(((ds l).length:Nat):Int)=1+(l.map fun b=> b - 2).sum
 | [],_=> by simp [ds]
 | b::l,h=> by
  have hl:=fun c hc=> h c (List.mem_cons_of_mem _ hc)
  have hb:=h b (List.mem_cons_self ..)
  have I:=g4 hl
  obtain ⟨c,t,e,_⟩:=bU hl
  rw [ds,e,inc,List.length_append,List.length_replicate,List.length_cons,List.map_cons,List.sum_cons]
  rw [e,List.length_cons] at I
  omega
def cw (d:List Int) (a:Nat):Nat→List Int
 | 0=> d
 | j+1=> (cw d a j).set (a+j) ((cw d a j).getD (a+j) 0+1)
theorem iF (A B:List Int) (y z:Int):(A++y::B).set A.length z=A++z::B:=by simp
theorem gD (A B:List Int) (y:Int):(A++y::B).getD A.length 0=y:=by simp
theorem dF (pre xs tl:List Int):∀ m,m≤xs.length→cw (pre++xs++tl) pre.length m=pre++((xs.take m).map (·+1)++xs.drop m)++tl
 | 0,_=> by simp [cw]
 | m+1,h=> by
  have ih:=dF pre xs tl m (by omega)
  have hm:m < xs.length:=by omega
  rw [cw,ih,List.drop_eq_getElem_cons hm]
  have hl:pre.length+m=(pre++(xs.take m).map (·+1)).length:=by
   rw [List.length_append,List.length_map,List.length_take]; omega
  have e:pre++((xs.take m).map (·+1)++xs[m]::xs.drop (m+1))++tl=(pre++(xs.take m).map (·+1))++xs[m]::(xs.drop (m+1)++tl):=by simp only [List.append_assoc,List.cons_append]
  rw [e,hl,iF,gD,List.take_succ_eq_append_getElem hm]
  simp only [List.map_append,List.map_cons,List.map_nil,List.append_assoc,List.cons_append,List.nil_append]
theorem gh (pre xs tl:List Int) {m:Nat} (h:m=xs.length):cw (pre++xs++tl) pre.length m=pre++xs.map (·+1)++tl:=by
 rw [dF pre xs tl m (by omega),h,List.take_length,List.drop_length,List.append_nil]
theorem cO (d:List Int) (a:Nat):∀ m,(cw d a m).length=d.length
 | 0=> rfl
 | m+1=> by rw [cw,List.length_set,cO d a m]
def d8:List Int→Nat→List Int→List Int
 | [],_,d=> d
 | b::l,a,d=> d8 l (a+(b - 2).toNat) (cw d a (b - 1).toNat)
def jQ (x:Int):List Int→List Int
 | []=> []
 | c::t=> (c+x)::t
def sm2 (l:List Int):Int:=(l.map fun b=> b - 2).sum
theorem cD:∀ {l:List Int},(∀ b∈l,2≤b)→0≤sm2 l
 | [],_=> by decide
 | b::l,h=> by
  have:=cD (l:=l) fun c hc=> h c (List.mem_cons_of_mem _ hc)
  have:=h b List.mem_cons_self
  unfold sm2 at *
  rw [List.map_cons,List.sum_cons]; omega
theorem dS:∀ (l:List Int),(∀ b∈l,2≤b)→∀ (pre:List Int) (x:Int),d8 l pre.length (pre++x::List.replicate (sm2 l).toNat 0)=pre++jQ x ((ds l).map (· - 1))
 | [],_,pre,x=> by
  show pre++[x]=pre++[1 - 1+x]
  rw [show (1:Int) - 1+x=x by omega]
 | b::l,h,pre,x=> by
  have hl:=fun c hc=> h c (List.mem_cons_of_mem _ hc)
  have hb:=h b List.mem_cons_self
  have s0:=cD hl
  obtain ⟨c,t,ec,_⟩:=bU hl
  have es:(sm2 (b::l)).toNat=(b - 2).toNat+(sm2 l).toNat:=by
   unfold sm2 at *
   rw [List.map_cons,List.sum_cons]; omega
  rw [es,d8]
  have e1:(b - 1).toNat=(b - 2).toNat+1:=by omega
  have e2:pre++x::List.replicate ((b - 2).toNat+(sm2 l).toNat) 0=pre++(x::List.replicate (b - 2).toNat 0)++List.replicate (sm2 l).toNat 0:=by
   rw [← List.replicate_append_replicate]; simp
  rw [e2,gh pre (x::List.replicate (b - 2).toNat 0) _ (by rw [e1]; simp)]
  have ed:ds (b::l)=List.replicate (b - 2).toNat 2++inc (ds l):=rfl
  rw [ed]
  cases hk:(b - 2).toNat with
  | zero=>
   have:=dS l hl pre (x+1)
   simp only [List.replicate_zero,List.map_cons,List.map_nil,List.append_assoc,List.nil_append,Nat.add_zero,List.cons_append] at this ⊢
   rw [this,ec]
   show pre++(c - 1+(x+1))::_=pre++(c+1 - 1+x)::_
   rw [show c - 1+(x+1)=c+1 - 1+x by omega]
  | succ k=>
   have:=dS l hl (pre++(x+1)::List.replicate k 1) 1
   have el:pre.length+(k+1)=(pre++(x+1)::List.replicate k 1).length:=by simp
   have er:pre++(x::List.replicate (k+1) 0).map (·+1)++List.replicate (sm2 l).toNat 0=(pre++(x+1)::List.replicate k 1)++1::List.replicate (sm2 l).toNat 0:=by
    rw [List.map_cons,List.map_replicate,List.replicate_succ']
    simp
   rw [el,er,this,ec,List.map_append,List.map_replicate,List.replicate_succ]
   show (pre++(x+1)::List.replicate k 1)++(c - 1+1)::_=pre++(2 - 1+x)::(List.replicate k (2 - 1)++(c+1 - 1)::_)
   rw [show (c:Int) - 1+1=c+1 - 1 by omega,show (2:Int) - 1+x=x+1 by omega,show (2:Int) - 1=1 by omega]
   simp
theorem gA {l:List Int} (h:∀ b∈l,2≤b):(d8 l 0 (List.replicate (1+sm2 l).toNat 0)).map (·+1)=ds l:=by
 have s0:=cD h
 have e:=dS l h [] 0
 rw [show (1+sm2 l).toNat=(sm2 l).toNat+1 by omega,List.replicate_succ]
 have e':d8 l 0 (0::List.replicate (sm2 l).toNat 0)=jQ 0 ((ds l).map (· - 1)):=e
 rw [e']
 have hm:∀ t:List Int,(t.map (· - 1)).map (·+1)=t:=fun t=> by
  rw [List.map_map]
  conv=> rhs; rw [← List.map_id t]
  exact List.map_congr_left fun x _=> by show x - 1+1=x; omega
 cases hd:ds l with
 | nil=> rfl
 | cons c t=>
  show (c - 1+0+1)::((t.map (· - 1)).map (·+1))=c::t
  rw [hm,show c - 1+0+1=c by omega]
inductive Wt:List Int→Nat→Prop
 | nil:Wt [] 0
 | cons {b:Int} {l:List Int} {m n:Nat} (h2:2≤b) (s:Sz m b) (t:Wt l n):Wt (b::l) (m+n)
theorem Wt.two {l:List Int} {n:Nat} (h:Wt l n):∀ b∈l,2≤b:=by
 induction h with
 | nil=> simp
 | cons h2 s t ih=>
  intro c hc
  rcases List.mem_cons.mp hc with rfl | z
  ·exact h2
  ·exact ih c z
theorem Wt.each {l:List Int} {n:Nat} (h:Wt l n):∀ b∈l,Sz n b:=by
 induction h with
 | nil=> simp
 | cons h2 s t ih=>
  intro c hc
  rcases List.mem_cons.mp hc with rfl | z
  ·exact s.mono (by omega)
  ·exact (ih c z).mono (by omega)
theorem Wt.unc {l:List Int} {n:Nat} (h:Wt l n):Sz (n+1) (unc l).1:=by
 induction h with
 | nil=> show Sz 1 1; decide
 | @cons b l m n h2 s t ih=>
  have I:=cU t.two
  have:=I.q0
  have:=I.qn
  have k:=L2.Sz.mul s ih
  have h3:2 * (My.unc l).1≤b * (My.unc l).1:=Int.mul_le_mul_of_nonneg_right h2 (by omega)
  refine (k.natle ?_).mono (by omega)
  show (b * (My.unc l).1 - (My.unc l).2).natAbs≤(b * (My.unc l).1).natAbs
  omega
theorem Wt.drop {l:List Int} {n:Nat} (h:Wt l n):∀ i,∃ k,k≤n∧Wt (l.drop i) k:=by
 induction h with
 | nil=> exact fun i=> ⟨0,Nat.le_refl _,by simpa using Wt.nil⟩
 | cons h2 s t ih=>
  intro i
  cases i with
  | zero=> exact ⟨_,Nat.le_refl _,.cons h2 s t⟩
  | succ i=>
   obtain ⟨k,h1,h3⟩:=ih i
   exact ⟨k,by omega,h3⟩
def isInt:U→Bool
 | .int _=> true
 | _=> false
def eX:List U→Out→Prop:=fun us o=> ∃ u,us=[u]∧(∀ m,u≠.ty m)∧o=.val (.bl (isInt u))
set_option maxHeartbeats 8000000 in
theorem eN (T:Txt K mg):aZ P w K mg base (CXF P w) 1 T.a_is_whole T.d_is_whole ["thing"] (spU K (eX)):=by
 refine bN T.F_is_whole eJ (fun us o h=> ?_) (fun cdv A outer s H E O us o hr h=> ?_)
 ·obtain ⟨u,rfl,hu,rfl⟩:=h
  rfl
 obtain ⟨u,rfl,hu,rfl⟩:=h
 refine Ws.nox ?_
 cases u with
 | ty m=> exact absurd rfl (hu m)
 | int n=> refine ac (bj (bA (aj (ao (by intro _ h; cases h) (by walk_at "kit")) rfl T.z_isinstance boot_isinstance (ae (aa 0 rfl) (ae (bE rfl T.z_int boot_int) ai af) af)) (fun hz=> (bo (cn (aj (ao (by intro _ h; cases h) (by walk_at "kit")) rfl T.z_isinstance boot_isinstance (ae (aa 0 rfl) (ae (bE rfl T.z_bool boot_bool) ai af) af)))))) ?_); exact rfl
 | bl n=> refine ac (bj (bA (aj (ao (by intro _ h; cases h) (by walk_at "kit")) rfl T.z_isinstance boot_isinstance (ae (aa 0 rfl) (ae (bE rfl T.z_int boot_int) ai af) af)) (fun hz=> (bo (cn (aj (ao (by intro _ h; cases h) (by walk_at "kit")) rfl T.z_isinstance boot_isinstance (ae (aa 0 rfl) (ae (bE rfl T.z_bool boot_bool) ai af) af)))))) ?_); exact rfl
 | non=> refine ac (bj (bA (aj (ao (by intro _ h; cases h) (by walk_at "kit")) rfl T.z_isinstance boot_isinstance (ae (aa 0 rfl) (ae (bE rfl T.z_int boot_int) ai af) af)) (fun hz=> (bo (cn (aj (ao (by intro _ h; cases h) (by walk_at "kit")) rfl T.z_isinstance boot_isinstance (ae (aa 0 rfl) (ae (bE rfl T.z_bool boot_bool) ai af) af)))))) ?_); exact rfl
 | str n=> refine ac (bj (bA (aj (ao (by intro _ h; cases h) (by walk_at "kit")) rfl T.z_isinstance boot_isinstance (ae (aa 0 rfl) (ae (bE rfl T.z_int boot_int) ai af) af)) (fun hz=> (bo (cn (aj (ao (by intro _ h; cases h) (by walk_at "kit")) rfl T.z_isinstance boot_isinstance (ae (aa 0 rfl) (ae (bE rfl T.z_bool boot_bool) ai af) af)))))) ?_); exact rfl
 | dic=> refine ac (bj (bA (aj (ao (by intro _ h; cases h) (by walk_at "kit")) rfl T.z_isinstance boot_isinstance (ae (aa 0 rfl) (ae (bE rfl T.z_int boot_int) ai af) af)) (fun hz=> (bo (cn (aj (ao (by intro _ h; cases h) (by walk_at "kit")) rfl T.z_isinstance boot_isinstance (ae (aa 0 rfl) (ae (bE rfl T.z_bool boot_bool) ai af) af)))))) ?_); exact rfl
 | scr n=> refine ac (bj (bA (aj (ao (by intro _ h; cases h) (by walk_at "kit")) rfl T.z_isinstance boot_isinstance (ae (aa 0 rfl) (ae (bE rfl T.z_int boot_int) ai af) af)) (fun hz=> (bo (cn (aj (ao (by intro _ h; cases h) (by walk_at "kit")) rfl T.z_isinstance boot_isinstance (ae (aa 0 rfl) (ae (bE rfl T.z_bool boot_bool) ai af) af)))))) ?_); exact rfl
 | lst n=> refine ac (bj (bA (aj (ao (by intro _ h; cases h) (by walk_at "kit")) rfl T.z_isinstance boot_isinstance (ae (aa 0 rfl) (ae (bE rfl T.z_int boot_int) ai af) af)) (fun hz=> (bo (cn (aj (ao (by intro _ h; cases h) (by walk_at "kit")) rfl T.z_isinstance boot_isinstance (ae (aa 0 rfl) (ae (bE rfl T.z_bool boot_bool) ai af) af)))))) ?_); exact rfl
 | tup n=> refine ac (bj (bA (aj (ao (by intro _ h; cases h) (by walk_at "kit")) rfl T.z_isinstance boot_isinstance (ae (aa 0 rfl) (ae (bE rfl T.z_int boot_int) ai af) af)) (fun hz=> (bo (cn (aj (ao (by intro _ h; cases h) (by walk_at "kit")) rfl T.z_isinstance boot_isinstance (ae (aa 0 rfl) (ae (bE rfl T.z_bool boot_bool) ai af) af)))))) ?_); exact rfl
end
section
variable {P:Program} {w:World} {K:PySem.W.Frag} {mg:Str→Option Value} {base:Heap}
theorem jS {m:Nat} {n q:Int} (hn:0 < n) (hq:0 < q) (s:Sz m n):Sz m (cd n q):=s.natle (by have:=jp hn hq; have:=j0 hn hq; omega)
def lkO (C:Addr) (r:Option (List Int)):Out:=match r with | some l=> .new (l.map U.int) | none=> .exc C
def eQ (C:Addr):List U→Out→Prop:=fun us o=> ∃ n q:Int,us=[.int n,.int q]∧Sz 7000 n∧0≤q∧q < n∧o=lkO C (lks 100 n q)
set_option maxHeartbeats 8000000 in
theorem eB (T:Txt K mg):aZ P w K mg base (CXF P w) 1 T.a_links T.d_links ["n","q"] (spU K (eQ T.c_TooMany)):=by
 refine bN T.F_links bB (fun us o h=> ?_) (fun cdv A outer s H E O us o hr h=> ?_)
 ·obtain ⟨n,q,rfl,sn,q0,qn,rfl⟩:=h
  rfl
 obtain ⟨n,q,rfl,sn,q0,qn,rfl⟩:=h
 refine ac (em (i:=2) bB.nd rfl (Or.inl rfl) (aN be) ?_)
 refine ac (gF (fun z:List Int×Int×Int=> [some (.val (.int z.2.1)),some (.val (.int z.2.2)),some (.own (z.1.map U.int)),none,none]) (fun m z=> m=z.2.2.toNat∧(z.1.length≤100∧Sz 7000 z.2.1∧0≤z.2.2∧z.2.2 < z.2.1)∧lks 100 n q=(lks (100 - z.1.length) z.2.1 z.2.2).map (z.1++·)) PassesOwn.leaving ?h0 ?hs)
 case h0=> exact ⟨_,([],n,q),⟨rfl,⟨Nat.zero_le _,sn,q0,qn⟩,by simp⟩,rfl,rfl,rfl,trivial⟩
 case hs=>
  rintro m ⟨pre,x,y⟩ ⟨hm,⟨pl,sx,y0,yx⟩,I⟩
  dsimp only at hm pl sx y0 yx I ⊢
  refine ⟨decide ((0:Int) < y),(br eK (aa 1 rfl) ah),fun h=> ?_,fun h ps hps=> ?_⟩
  ·have hy:=dTb h
   have hlen:((pre.map U.int).length:Int)=(pre.length:Int):=by rw [List.length_map]
   by_cases hf:pre.length=100
   ·refine ac (d_ (br dn (eT 2 rfl rfl T.z_len) (iN rfl T.g_MOST_NUMBERS)) (by rw [hlen]; exact decide_eq_true (by omega)) ?_)
    refine ac (h9 T.x_TooMany rfl T.mx_TooMany kE ?_)
    rw [hf,ee _ hy] at I
    rw [I]
    exact rfl
   ·refine ac (cE (br dn (eT 2 rfl rfl T.z_len) (iN rfl T.g_MOST_NUMBERS)) (by rw [hlen]; exact decide_eq_false (by omega)) (aW ?_))
    have sy:Sz 7000 y:=sx.natle (by omega)
    have sc:=jS (q:=y) (by omega) hy sx
    have lo:=fX (n:=x) hy
    have hi:=gU (n:=x) hy
    refine ac (aJ (i:=3) bB.nd rfl (Or.inl rfl) (gd (dm (gd (aa 0 rfl)) (aa 1 rfl) (by walk_at "div"))) ?_)
    rw [show -(-x / y)=cd x y from rfl]
    refine ac (cu 2 rfl (aa 3 rfl) (by simp; exact aq (by omega)) ?_)
    refine ac (aJ (i:=4) bB.nd rfl (Or.inl rfl) (bY (fx (aa 3 rfl) (aa 1 rfl) (by walk_at "mul")) (aa 0 rfl)) ?_)
    refine ac (aJ (i:=0) bB.nd rfl (Or.inl rfl) (aa 1 rfl) ?_)
    refine ac (aJ (i:=1) bB.nd rfl (Or.inl rfl) (aa 4 rfl) (aW ?_))
    refine ⟨(cd x y * y - x).toNat,(pre++[cd x y],y,cd x y * y - x),by omega,⟨rfl,⟨?_,sy,by dsimp only; omega,by dsimp only; omega⟩,?_⟩,rfl,rfl,?_,trivial⟩
    ·simp; omega
    ·dsimp only
     rw [I,show 100 - pre.length=(100 - (pre++[cd x y]).length)+1 by simp; omega,eD _ _ hy,Option.map_map]
     congr 1
     funext l
     simp
    ·exact congrArg (fun l=> some (Sl.own l)) (by rw [List.map_append]; rfl)
  ·have hy:y≤0:=by have:=dFb h; omega
   refine bX ?_ hps
   refine ac (gg 2 rfl ?_)
   rw [I,ez _ _ hy]
   simp [lkO]
end
section
variable {P:Program} {w:World} {K:PySem.W.Frag} {mg:Str→Option Value} {base:Heap}
def gbI (b:Int):Bool:=isInt (.int b) && decide (b > 1)
theorem ik {l:List Int} (h:∀ b∈l,2≤b):((l.map gbI).all id)=true:=by
 rw [List.all_map]
 refine List.all_eq_true.mpr fun b hb=> ?_
 have:=h b hb
 simp [gbI,isInt]
 omega
def dX:List U→Out→Prop:=fun us o=> ∃ (l:List Int) (wn:Nat),us=[.lst (l.map U.int)]∧l.length≤210∧Wt l wn∧wn≤6800∧o=.val (pu (unc l))
set_option maxHeartbeats 8000000 in
theorem ce (T:Txt K mg):aZ P w K mg base (CXF P w) 2 T.a_unchain T.d_unchain ["some"] (spU K (dX)):=by
 refine bN T.F_unchain aO (fun us o h=> ?_) (fun cdv A outer s H E O us o hr h=> ?_)
 ·obtain ⟨l,wn,rfl,hl,W,hw,rfl⟩:=h
  rfl
 obtain ⟨l,wn,rfl,hl,W,hw,rfl⟩:=h
 refine Ws.nox ?_
 refine ac (cE (e8 (fe (aj (j8 rfl ) rfl T.z_all boot_all (ae (EvN.ev (cT (ys:=((l.map gbI).map U.bl)) rfl (blk (ag bg) ["some","b","n","q","longer"] [1] rfl rfl rfl rfl (by decide+kernel)) (bR (aa 0 rfl) (.inl rfl)) (fun _ _ _ _=> bp (i:=1) aO.nd rfl (Or.inl rfl)) (bP (by decide)) ?clen ?csz (fun _ _=> trivial) ?celt)) ai cK)))) (by rw [ik W.two]; rfl) (aW ?_))
 case clen=> simp
 case csz=> rw [List.length_map]; exact Nat.le_of_lt (aq (by omega))
 case celt=>
  intro C s' H' fp j x y hx hy
  rw [List.map_map] at hy
  obtain ⟨b,_,_,rfl,rfl⟩:=cm hx hy
  exact (bA (bH ((eN T).mono (by decide)) hr rfl T.m_is_whole T.F_is_whole.kp T.b_is_whole bu (ae (aa 1 rfl) ai af) ⟨_,rfl,(by intro m h; cases h),rfl⟩) (fun hz=> (bo (cv eK (aa 1 rfl) ah))))
 refine ac (aJ (i:=2) aO.nd rfl (Or.inl rfl) ah ?_)
 refine ac (aJ (i:=3) aO.nd rfl (Or.inl rfl) ah ?_)
 refine ac (cW (fun i:Nat=> [some (.val (.lst (l.map U.int))),none,some (.val (.int (unc (l.drop (l.length - i))).1)),some (.val (.int (unc (l.drop (l.length - i))).2)),none]) (fun i j=> i=j∧i≤l.length) rfl PassesOwn.never (ke rfl T.z_reversed (aa 0 rfl) (.inl rfl) af) ?h0 ?hs ?hd)
 case h0=> exact ⟨0,⟨rfl,Nat.zero_le _⟩,rfl,by rw [Nat.sub_zero,List.drop_length]; rfl,by rw [Nat.sub_zero,List.drop_length]; rfl,trivial⟩
 case hs=>
  rintro H0 i x _ hx ⟨rfl,hi⟩
  have hil:i < l.length:=by have:=ax hx; simpa using this
  rw [List.getElem?_reverse (by rw [List.length_map]; exact hil),List.length_map,List.getElem?_map] at hx
  obtain ⟨b,hb',rfl⟩:=Option.map_eq_some_iff.mp hx
  obtain ⟨hi',hb2⟩:=List.getElem?_eq_some_iff.mp hb'
  have ed:l.drop (l.length - (i+1))=b::l.drop (l.length - i):=by
   rw [show l.length - (i+1)=l.length - 1 - i by omega,List.drop_eq_getElem_cons hi',hb2,show l.length - 1 - i+1=l.length - i by omega]
  have zb:=(W.each b (List.mem_of_getElem? hb')).mono hw
  obtain ⟨k,hk,Wk⟩:=W.drop (l.length - i)
  have zn:=Wk.unc.mono (show k+1≤7000 by omega)
  refine ⟨_,(cQ (i:=1) aO.nd rfl (Or.inl rfl)),?_⟩
  refine ac (aJ (i:=4) aO.nd rfl (Or.inl rfl) (bY (fx (aa 1 rfl) (aa 2 rfl) (by walk_at "mul")) (aa 3 rfl)) ?_)
  refine ac (aJ (i:=3) aO.nd rfl (Or.inl rfl) (aa 2 rfl) ?_)
  refine ac (aJ (i:=2) aO.nd rfl (Or.inl rfl) (aa 4 rfl) (aW ?_))
  refine ⟨i+1,⟨rfl,hil⟩,rfl,?_,?_,trivial⟩
  ·exact congrArg (fun z=> some (Sl.val (.int z))) (by rw [ed,unc])
  ·exact congrArg (fun z=> some (Sl.val (.int z))) (by rw [ed,unc])
 case hd=>
  rintro q ps ⟨hq,_⟩ hps
  refine bX ?_ hps
  rw [List.length_reverse,List.length_map] at hq
  subst hq
  rw [Nat.sub_self,List.drop_zero]
  refine ac (bj (gC (aH (aa 2 rfl) (aH (aa 3 rfl) be af) af)) ?_)
  exact rfl
def eF (C:Addr):List U→Out→Prop:=fun us o=> ∃ (l:List Int) (wn:Nat),us=[.lst (l.map U.int)]∧l.length≤210∧Wt l wn∧wn≤6800∧o=if l=[] then .new [] else lkO C (lks 100 (unc l).1 ((unc l).1 - (unc l).2))
theorem iA:∀ {l:List Int},(∀ b∈l,2≤b)→l≠[]→1 < (unc l).1∧0 < (unc l).2
 | [],_,h=> absurd rfl h
 | b::l,h,_=> by
  have I:=cU fun c hc=> h c (List.mem_cons_of_mem _ hc)
  have:=I.q0
  have:=I.qn
  have h2:2 * (unc l).1≤b * (unc l).1:=Int.mul_le_mul_of_nonneg_right (h b (List.mem_cons_self ..)) (by omega)
  rw [unc]
  exact ⟨by dsimp only; omega,by dsimp only; omega⟩
set_option maxHeartbeats 8000000 in
theorem bv (T:Txt K mg):aZ P w K mg base (CXF P w) 3 T.a_other_chain T.d_other_chain ["some"] (spU K (eF T.c_TooMany)):=by
 refine bN T.F_other_chain bw (fun us o h=> ?_) (fun cdv A outer s H E O us o hr h=> ?_)
 ·obtain ⟨l,wn,rfl,ll,W,hw,rfl⟩:=h
  rfl
 obtain ⟨l,wn,rfl,ll,W,hw,rfl⟩:=h
 refine ac (aJ (i:=1) bw.nd rfl (Or.inl rfl) (bH ((ce T).mono (by decide)) hr rfl T.m_unchain T.F_unchain.kp T.b_unchain bu (ae (aa 0 rfl) ai af) ⟨l,wn,rfl,ll,W,hw,rfl⟩) ?_)
 refine ac (aJ (i:=2) bw.nd rfl (Or.inl rfl) (fI (aa 1 rfl) ah rfl rfl) ?_)
 by_cases hl:l=[]
 ·subst hl
  refine ac (d_ (br dn (aa 2 rfl) ah) rfl ?_)
  refine ac (d4 (aN be) ?_)
  exact rfl
 ·obtain ⟨b1,b2⟩:=iA W.two hl
  have I:=cU W.two
  have:=I.q0
  have:=I.qn
  have sn:=W.unc.mono (show wn+1≤7000 by omega)
  refine ac (cE (br dn (aa 2 rfl) ah) (decide_eq_false (by omega)) (aW ?_))
  rw [if_neg hl]
  cases e:lks 100 (unc l).1 ((unc l).1 - (unc l).2) with
  | none=>
   refine ac (jN (ji ((eB T).mono (by decide)) hr rfl T.m_links T.F_links.kp T.b_links iE (ae (aa 2 rfl) (ae (bY (aa 2 rfl) (fI (aa 1 rfl) ah rfl rfl)) ai cC) af) ⟨_,_,rfl,sn,by omega,by omega,by rw [e]; rfl⟩) ?_)
   exact rfl
  | some r=>
   refine ac (d4 (cB ((eB T).mono (by decide)) hr rfl T.m_links T.F_links.kp T.b_links bu (ae (aa 2 rfl) (ae (bY (aa 2 rfl) (fI (aa 1 rfl) ah rfl rfl)) ai cC) af) ⟨_,_,rfl,sn,by omega,by omega,by rw [e]; rfl⟩) ?_)
   exact rfl
end
section
variable {P:Program} {w:World} {K:PySem.W.Frag} {mg:Str→Option Value} {base:Heap}
def iq:List U→Out→Prop:=fun us o=> ∃ n:Int,us=[.int n]∧o=.val (.bl true)
set_option maxHeartbeats 8000000 in
theorem dk (T:Txt K mg):aZ P w K mg base (CXF P w) 1 T.a__law_whole T.d__law_whole ["found"] (spU K (iq)):=by
 refine bN T.F__law_whole dh (fun us o h=> ?_) (fun cdv A outer s H E O us o hr h=> ?_)
 ·obtain ⟨n,rfl,rfl⟩:=h
  rfl
 obtain ⟨n,rfl,rfl⟩:=h
 refine Ws.nox ?_
 refine ac (bj (bA (aj (ao (by intro _ h; cases h) (by walk_at "kit")) rfl T.z_isinstance boot_isinstance (ae (aa 0 rfl) (ae (bE rfl T.z_int boot_int) ai af) af)) (fun hz=> (bo (cn (aj (ao (by intro _ h; cases h) (by walk_at "kit")) rfl T.z_isinstance boot_isinstance (ae (aa 0 rfl) (ae (bE rfl T.z_bool boot_bool) ai af) af)))))) ?_)
 exact rfl
theorem iU {l:List Int} (h:∀ b∈l,2≤b) (hn:l≠[]):lks 100 (unc l).1 ((unc l).1 - (unc l).2)=if (ds l).length≤100 then some (ds l) else none:=by
 have e:=d5 h
 have k:=d7 (l:=ds l) 100 (gK h hn)
 rw [e] at k
 exact k
theorem hW {l:List Int} (h:∀ b∈l,2≤b):lks 100 (unc (ds l)).1 ((unc (ds l)).1 - (unc (ds l)).2)=if l.length≤100 then some l else none:=by
 rw [d5 h]
 dsimp only
 rw [show (unc l).1 - ((unc l).1 - (unc l).2)=(unc l).2 by omega]
 exact d7 100 h
theorem iL:∀ {l:List Int},(∀ b∈l,2≤b)→∀ x∈ds l,x≤(l.length:Int)+1
 | [],_,x,hx=> by
  have:x=1:=by simpa [ds] using hx
  rw [this]; simp
 | b::l,h,x,hx=> by
  have hl:=fun c hc=> h c (List.mem_cons_of_mem _ hc)
  obtain ⟨c,t,e,_⟩:=bU hl
  have ih:=iL hl
  rw [ds,e,inc] at hx
  rw [e] at ih
  rw [List.length_cons]
  rcases List.mem_append.mp hx with z | z
  ·rw [List.eq_of_mem_replicate z]; omega
  ·rcases List.mem_cons.mp z with z | z
   ·have:=ih c List.mem_cons_self
    omega
   ·have:=ih x (List.mem_cons_of_mem _ z)
    omega
theorem gO {l:List Int}:ds l≠[]:=by
 cases l with
 | nil=> simp [ds]
 | cons b l=>
  intro e
  have h:=congrArg List.length e
  rw [ds,List.length_append] at h
  have:0 < (inc (ds l)).length:=by
   cases k:ds l with
   | nil=> exact absurd k gO
   | cons c t=> simp [inc]
  rw [List.length_nil] at h
  omega
theorem en {m:Nat}:∀ (l:List Int),(∀ b∈l,2≤b∧Sz m b)→Wt l (m * l.length)
 | [],_=> Wt.nil
 | b::l,h=> by
  have:=Wt.cons (h b List.mem_cons_self).1 (h b List.mem_cons_self).2 (en l fun c hc=> h c (List.mem_cons_of_mem _ hc))
  rw [List.length_cons,Nat.mul_add,Nat.mul_one,Nat.add_comm]
  exact this
theorem kz {l:List Int} (h:∀ b∈l,2≤b) (hn:l≠[]) (hl:l.length≤210):Wt (ds l) (9 * (ds l).length):=en (ds l) fun b hb=> by
 have a:=gK h hn b hb
 have c:=iL h b hb
 exact ⟨a,by unfold Sz; omega⟩
def pk (c:Int):Int:=if c % 4=2 then 1 else if c % 4=3 then c / 4 % 8 else 0
theorem kg (c:Int):atI ([.int 0,.int 0,.int 1,.int (c / 4 % 8)]:List U) (c % 4)=some (.int (pk c)):=by
 unfold pk
 rcases (show c % 4=0∨c % 4=1∨c % 4=2∨c % 4=3 by omega) with e | e | e | e <;> rw [e] <;> rfl
theorem iK (c:Int):0≤pk c∧pk c < 8:=by unfold pk; split <;> (try split) <;> omega
def lkF (c:Int):Int:=if c % 90=77 then 10 ^ (30:Int).toNat else 2+pk c
theorem jb (c:Int):2≤lkF c∧Sz 100 (lkF c):=by
 have h:=iK c
 unfold lkF
 split
 ·exact ⟨by decide+kernel,by decide+kernel⟩
 ·exact ⟨by omega,by refine Sz.mono (m:=8) ?_ (by decide); unfold Sz; omega⟩
def gZ:List U→Out→Prop:=fun us o=> ∃ (ms:List Int),us=[.lst (ms.map U.int)]∧ms.length≤60∧(∀ m∈ms,Sz 1048576 m)∧o=.new ((ms.map lkF).map U.int)
set_option maxHeartbeats 8000000 in
theorem dg (T:Txt K mg):aZ P w K mg base (CXF P w) 1 T.a__law_links T.d__law_links ["cells"] (spU K (gZ)):=by
 refine bN T.F__law_links aV (fun us o h=> ?_) (fun cdv A outer s H E O us o hr h=> ?_)
 ·obtain ⟨ms,rfl,hl,hB,rfl⟩:=h
  rfl
 obtain ⟨ms,rfl,hl,hB,rfl⟩:=h
 refine Ws.nox ?_
 refine ac (em (i:=1) aV.nd rfl (Or.inl rfl) (aN be) ?_)
 refine ac (cW (fun i:Nat=> [some (.val (.lst (ms.map U.int))),some (.own (((ms.take i).map lkF).map U.int)),none,none]) (fun i j=> i=j) rfl PassesOwn.never (bR (aa 0 rfl) (.inl rfl)) ?h0 ?hs ?hd)
 case h0=> exact ⟨0,rfl,rfl,rfl,trivial⟩
 case hs=>
  rintro H0 i x _ hx rfl
  rw [List.getElem?_map] at hx
  obtain ⟨c,hc,rfl⟩:=Option.map_eq_some_iff.mp hx
  have hi:i < ms.length:=ax hc
  have cz:=hB c (List.mem_of_getElem? hc)
  have pz:=iK c
  have et:ms.take (i+1)=ms.take i++[c]:=by rw [List.take_succ,hc]; rfl
  refine ⟨_,(cQ (i:=2) aV.nd rfl (Or.inl rfl)),?_⟩
  refine ac (aJ (i:=3) aV.nd rfl (Or.inl rfl) (bz ah (fI (EvN.ev (aN (aH ah (aH ah (aH ah (aH (bO (dm (aa 2 rfl) ah (by walk_at "div")) ah (by walk_at "mod")) be cC) bG) bG) bG))) (bO (aa 2 rfl) ah (by walk_at "mod")) rfl (kg c))) ?_)
  by_cases h77:c % 90=77
  ·refine ac (d_ (br dn (bO (aa 2 rfl) ah (by walk_at "mod")) ah) (decide_eq_true h77) ?_)
   refine ac (aJ (i:=3) aV.nd rfl (Or.inl rfl) (kf ah ah ⟨by decide,by decide,by decide⟩) (aW ?_))
   refine ac (cu 1 rfl (aa 3 rfl) (by simp; exact aq (by omega)) (aW ?_))
   refine ⟨i+1,rfl,rfl,?_,trivial⟩
   exact congrArg (fun l=> some (Sl.own l)) (by rw [et,List.map_append,List.map_append]; show _=_++[U.int (lkF c)]; unfold lkF; rw [if_pos h77])
  ·refine ac (cE (br dn (bO (aa 2 rfl) ah (by walk_at "mod")) ah) (decide_eq_false h77) (aW ?_))
   refine ac (cu 1 rfl (aa 3 rfl) (by simp; exact aq (by omega)) (aW ?_))
   refine ⟨i+1,rfl,rfl,?_,trivial⟩
   exact congrArg (fun l=> some (Sl.own l)) (by rw [et,List.map_append,List.map_append]; show _=_++[U.int (lkF c)]; unfold lkF; rw [if_neg h77])
 case hd=>
  rintro q ps hq hps
  refine bX ?_ hps
  rw [List.length_map] at hq
  subst hq
  rw [List.take_length]
  refine ac (gg 1 rfl ?_)
  exact rfl
end
section
variable {P:Program} {w:World} {K:PySem.W.Frag} {mg:Str→Option Value} {base:Heap}
def fsF (ms:List Int):Int:=if 0 < ms.length then (ms.getD 0 0 * 48271+7919) % 2147483647 else 5
def laF (ms:List Int):Int:=if 0 < ms.length then (ms.getD (ms.length - 1) 0 * 16807+104729) % 2147483629 else 3
def eR (f t:Int):List Int:=List.replicate (f % 3).toNat 2++[99+t % 6]++List.replicate (t / 6 % 3).toNat 2
def eS (f t:Int):List Int:=(List.replicate (95+f / 3 % 8).toNat (2:Int)).set (t / 18 % (95+f / 3 % 8)).toNat (2+f / 24 % 2)
theorem ij (f t:Int):(∀ b∈eR f t,2≤b∧Sz 8 b)∧(eR f t).length≤10∧eR f t≠[]:=by
 unfold eR
 refine ⟨fun b hb=> ?_,?_,by simp⟩
 ·rcases List.mem_append.mp hb with z | z
  ·rcases List.mem_append.mp z with w | w
   ·rw [List.eq_of_mem_replicate w]; exact ⟨by decide,by decide⟩
   ·rw [List.mem_singleton.mp w]; exact ⟨by omega,by unfold Sz; omega⟩
  ·rw [List.eq_of_mem_replicate z]; exact ⟨by decide,by decide⟩
 ·simp only [List.length_append,List.length_replicate,List.length_cons,List.length_nil]; omega
theorem ir (f t:Int):(∀ b∈eS f t,2≤b∧Sz 8 b)∧(eS f t).length≤110∧eS f t≠[]:=by
 unfold eS
 refine ⟨fun b hb=> ?_,?_,fun e=> ?_⟩
 ·rcases List.mem_or_eq_of_mem_set hb with z | z
  ·rw [List.eq_of_mem_replicate z]; exact ⟨by decide,by decide⟩
  ·rw [z]; exact ⟨by omega,by unfold Sz; omega⟩
 ·rw [List.length_set,List.length_replicate]; omega
 ·have h:=congrArg List.length e
  rw [List.length_set,List.length_replicate,List.length_nil] at h
  omega
theorem j9 {ms:List Int} (h:0 < ms.length):atI (ms.map U.int) (-1)=some (.int (ms.getD (ms.length - 1) 0)):=by
 have k:ixN (ms.map U.int).length (-1)=some (ms.length - 1):=by
  unfold ixN
  rw [List.length_map]
  simp
  omega
 unfold atI
 rw [k]
 simp [List.getD_eq_getElem?_getD,List.getElem?_eq_getElem (show ms.length - 1 < ms.length by omega)]
def gH:List U→Out→Prop:=fun us o=> ∃ (ms:List Int),us=[.lst (ms.map U.int)]∧ms.length≤60∧(∀ m∈ms,Sz 1048576 m)∧o=.new [.lst ((eR (fsF ms) (laF ms)).map U.int),.lst ((eS (fsF ms) (laF ms)).map U.int)]
set_option maxHeartbeats 8000000 in
theorem di (T:Txt K mg):aZ P w K mg base (CXF P w) 1 T.a__law_edges T.d__law_edges ["cells"] (spU K (gH)):=by
 refine bN T.F__law_edges aC (fun us o h=> ?_) (fun cdv A outer s H E O us o hr h=> ?_)
 ·obtain ⟨ms,rfl,hl,hB,rfl⟩:=h
  rfl
 obtain ⟨ms,rfl,hl,hB,rfl⟩:=h
 refine Ws.nox ?_
 have hm:((ms.map U.int).length:Int)=(ms.length:Int):=by rw [List.length_map]
 have z0:Sz 1048576 (ms.getD (0:Int).toNat 0):=fy hB _
 have z1:Sz 1048576 (ms.getD (ms.length - 1) 0):=fy hB _
 refine ac (aJ (i:=1) aC.nd rfl (Or.inl rfl) ah ?_)
 refine ac (aJ (i:=2) aC.nd rfl (Or.inl rfl) ah ?_)
 refine eY (fun ps=> SubP [some (.val (.lst (ms.map U.int))),some (.val (.int (fsF ms))),some (.val (.int (laF ms))),none,none] ps) (hR (br eK (aj (e9 rfl) rfl T.z_len PySem.boot_len (ae (aa 0 rfl) ai af)) ah) (fun hT=> ?_) (fun hF=> (aW ?_))) ?hj
 ·rw [hm] at hT
  have h2:=dTb hT
  refine ac (aJ (i:=1) aC.nd rfl (Or.inl rfl) (bO (bz (fx (fI (aa 0 rfl) ah rfl (gL (by decide) (by omega))) ah (by walk_at "mul")) ah) ah (by walk_at "mod")) ?_)
  refine ac (aJ (i:=2) aC.nd rfl (Or.inl rfl) (bO (bz (fx (fI (aa 0 rfl) (gd ah) rfl (j9 (by omega))) ah (by walk_at "mul")) ah) ah (by walk_at "mod")) (aW ?_))
  refine ⟨rfl,?_,?_,trivial⟩
  ·exact congrArg (fun z=> some (Sl.val (.int z))) (show _=fsF ms by unfold fsF; rw [if_pos (by omega)]; rfl)
  ·exact congrArg (fun z=> some (Sl.val (.int z))) (show _=laF ms by unfold laF; rw [if_pos (by omega)])
 ·rw [hm] at hF
  have h2:=dFb hF
  refine ⟨rfl,?_,?_,trivial⟩
  ·exact congrArg (fun z=> some (Sl.val (.int z))) (show 5=fsF ms by unfold fsF; rw [if_neg (by omega)])
  ·exact congrArg (fun z=> some (Sl.val (.int z))) (show 3=laF ms by unfold laF; rw [if_neg (by omega)])
 case hj=>
  intro ps hps
  refine bX ?_ hps
  generalize fsF ms=f at *
  generalize laF ms=t at *
  have e1:List.replicate (f % 3).toNat (U.int 2)++[U.int (99+t % 6)]++List.replicate (t / 6 % 3).toNat (U.int 2)=(eR f t).map U.int:=by
   unfold eR
   rw [List.map_append,List.map_append,List.map_replicate,List.map_replicate]; rfl
  refine ac (aJ (i:=3) aC.nd rfl (Or.inl rfl) (EvN.ev (gp (EvN.ev (gp (EvN.ev (dN (EvN.ev (aN (aH ah be bG))) (bO (aa 1 rfl) ah (by walk_at "mod")) (by omega) (by omega) (Nat.le_of_lt (aq (by omega))))) (EvN.ev (aN (aH (bz ah (bO (aa 2 rfl) ah (by walk_at "mod"))) be cC))) (by simp only [List.length_append,List.length_replicate,List.length_cons,List.length_nil]; exact Nat.le_of_lt (aq (by omega))))) (EvN.ev (dN (EvN.ev (aN (aH ah be bG))) (bO (dm (aa 2 rfl) ah (by walk_at "div")) ah (by walk_at "mod")) (by omega) (by omega) (Nat.le_of_lt (aq (by omega))))) (by simp only [List.length_append,List.length_replicate,List.length_cons,List.length_nil]; exact Nat.le_of_lt (aq (by omega))))) ?_)
  rw [e1]
  refine ac (em (i:=4) aC.nd rfl (Or.inl rfl) (dN (EvN.ev (aN (aH ah be bG))) (bz ah (bO (dm (aa 1 rfl) ah (by walk_at "div")) ah (by walk_at "mod"))) (by omega) (by omega) (Nat.le_of_lt (aq (by omega)))) ?_)
  have hL:((List.replicate (95+f / 3 % 8).toNat (U.int 2)).length:Int)=95+f / 3 % 8:=by rw [List.length_replicate]; omega
  have q1:=Int.emod_nonneg (t / 18) (show 95+f / 3 % 8≠0 by omega)
  have q2:=Int.emod_lt_of_pos (t / 18) (show 0 < 95+f / 3 % 8 by omega)
  refine ac (fh 4 rfl (bz ah (bO (dm (aa 1 rfl) ah (by walk_at "div")) ah (by walk_at "mod"))) (bO (dm (aa 2 rfl) ah (by walk_at "div")) (eT 4 rfl rfl T.z_len) (by rw [hL]; omega)) (show ixN _ _=some (t / 18 % (95+f / 3 % 8)).toNat by
        rw [hL]
        unfold ixN
        rw [List.length_replicate]
        rw [if_pos (by omega),if_pos (by omega)]) ?_)
  refine gE 4 rfl ?_
  have e2:(List.replicate (95+f / 3 % 8).toNat (U.int 2)).set (t / 18 % (95+f / 3 % 8)).toNat (.int (2+f / 24 % 2))=(eS f t).map U.int:=by
   unfold eS
   rw [List.map_set,List.map_replicate]
  rw [e2]
  refine ac (d4 (aN (aH (aa 3 rfl) (aH (aa 4 rfl) be af) af)) ?_)
  exact rfl
end
section
variable {P:Program} {w:World} {K:PySem.W.Frag} {mg:Str→Option Value} {base:Heap}
theorem kW {d:List Int} {k:Int} {i:Nat} (e:k=(i:Int)) (h:i < d.length):atI (d.map U.int) k=some (.int (d.getD i 0)):=i3 e (by rw [List.getElem?_map,List.getElem?_eq_getElem h]; simp [h])
theorem kI {d:List Int} {k:Int} {i:Nat} (e:k=(i:Int)) (h:i < d.length):ixN (d.map U.int).length k=some i:=by
 subst e
 unfold ixN
 rw [List.length_map]
 simp [h]
theorem gX {l:List Int} {i:Nat} {b:Int} (h:l[i]?=some b):sm2 (l.drop i)=(b - 2)+sm2 (l.drop (i+1)):=by
 obtain ⟨hi,e⟩:=List.getElem?_eq_some_iff.mp h
 rw [List.drop_eq_getElem_cons hi,e]
 unfold sm2
 rw [List.map_cons,List.sum_cons]
def fK:List U→Out→Prop:=fun us o=> ∃ (l:List Int),us=[.lst (l.map U.int)]∧l.length≤210∧(∀ b∈l,2≤b)∧sm2 l≤99∧o=.new ((ds l).map U.int)
set_option maxHeartbeats 8000000 in
theorem cH (T:Txt K mg):aZ P w K mg base (CXF P w) 1 T.a__law_columns T.d__law_columns ["some"] (spU K (fK)):=by
 refine bN T.F__law_columns ap (fun us o h=> ?_) (fun cdv A outer s H E O us o hr h=> ?_)
 ·obtain ⟨l,rfl,hl,h2,h99,rfl⟩:=h
  rfl
 obtain ⟨l,rfl,hl,h2,h99,rfl⟩:=h
 refine Ws.nox ?_
 have s0:=cD h2
 refine ac (em (i:=1) ap.nd rfl (Or.inl rfl) (dN (EvN.ev (aN (aH ah be bG))) (bz ah (aj (e7 rfl ) rfl T.z_sum boot_sum (ae (EvN.ev (cT (ys:=((l.map fun b=> b - 2).map U.int)) rfl (blk (ag ar) ["some","dots","b","at","k","many"] [2] rfl rfl rfl rfl (by decide+kernel)) (bR (aa 0 rfl) (.inl rfl)) (fun _ _ _ _=> bp (i:=2) ap.nd rfl (Or.inl rfl)) (bP (by decide)) ?clen ?csz (fun _ _=> trivial) ?celt)) ai cK))) (by show -(2 ^ 63)≤1+sm2 l; omega) (by show 1+sm2 l < 2 ^ 63; omega) (by show (1+sm2 l).toNat≤sizeLine; exact Nat.le_of_lt (aq (by omega)))) ?_)
 case clen=> simp
 case csz=> rw [List.length_map]; exact Nat.le_of_lt (aq (by omega))
 case celt=>
  intro C s' H' fp j x y hx hy
  rw [List.map_map] at hy
  obtain ⟨b,_,_,rfl,rfl⟩:=cm hx hy
  exact (bY (aa 2 rfl) ah)
 have er:List.replicate (1+(l.map fun b=> b - 2).sum).toNat (U.int 0)=(List.replicate (1+sm2 l).toNat (0:Int)).map U.int:=by rw [List.map_replicate]; rfl
 rw [er]
 refine ac (aJ (i:=3) ap.nd rfl (Or.inl rfl) ah ?_)
 refine ac (cW (fun q:Nat×List Int=> [some (.val (.lst (l.map U.int))),some (.own (q.2.map U.int)),none,some (.val (.int (q.1:Int))),none,none]) (fun i q=> i≤l.length∧q.2.length=(1+sm2 l).toNat∧(q.1:Int)+sm2 (l.drop i)=sm2 l∧d8 (l.drop i) q.1 q.2=d8 l 0 (List.replicate (1+sm2 l).toNat 0)) rfl PassesOwn.never (bR (aa 0 rfl) (.inl rfl)) ?h0 ?hs ?hd)
 case h0=> exact ⟨(0,List.replicate (1+sm2 l).toNat 0),⟨Nat.zero_le _,by simp,by rw [List.drop_zero]; simp,by rw [List.drop_zero]⟩,rfl,rfl,rfl,trivial⟩
 case hs=>
  rintro H0 i x ⟨a,d⟩ hx ⟨hi,hd,ha,hc⟩
  dsimp only at hd ha hc ⊢
  rw [List.getElem?_map] at hx
  obtain ⟨b,hb,rfl⟩:=Option.map_eq_some_iff.mp hx
  have hil:i < l.length:=ax hb
  have b2:=h2 b (List.mem_of_getElem? hb)
  have sd:=gX hb
  have sn:=cD (l:=l.drop (i+1)) fun c hc=> h2 c (List.mem_of_mem_drop hc)
  refine ⟨_,(cQ (i:=2) ap.nd rfl (Or.inl rfl)),?_⟩
  refine eY (fun ps=> SubP [some (.val (.lst (l.map U.int))),some (.own ((cw d a (b - 1).toNat).map U.int)),some (.val (.int b)),some (.val (.int (a:Int))),none,none] ps) (cW (fun j:Nat=> [some (.val (.lst (l.map U.int))),some (.own ((cw d a j).map U.int)),some (.val (.int b)),some (.val (.int (a:Int))),none,none]) (fun i j=> i=j) rfl PassesOwn.never (gx rfl T.z_range (ae (bY (aa 2 rfl) ah) ai cC) (by omega) (by omega)) ?h02 ?hs2 ?hd2) ?hj
  case h02=> exact ⟨0,rfl,rfl,rfl,rfl,rfl,trivial⟩
  case hs2=>
   rintro H1 j y _ hy rfl
   obtain ⟨hj,rfl⟩:=eV hy
   refine ⟨_,(cQ (i:=4) ap.nd rfl (Or.inl rfl)),?_⟩
   have hlt:a+j < (cw d a j).length:=by rw [cO,hd]; omega
   refine ac (fh 1 rfl (bz (kD 1 rfl (bz (aa 3 rfl) (aa 4 rfl)) (kW (i:=a+j) (by push_cast; omega) hlt)) ah) (bz (aa 3 rfl) (aa 4 rfl)) (kI (i:=a+j) (by push_cast; omega) hlt) (aW ?_))
   refine ⟨j+1,rfl,rfl,?_,rfl,rfl,trivial⟩
   exact congrArg (fun l=> some (Sl.own l)) (by rw [cw,List.map_set])
  case hd2=>
   rintro q ps hq hps
   rw [cc] at hq
   subst hq
   exact hps
  case hj=>
   intro ps hps
   refine bX ?_ hps
   refine ac (aJ (i:=3) ap.nd rfl (Or.inl rfl) (bY (bz (aa 3 rfl) (aa 2 rfl)) ah) (aW ?_))
   refine ⟨(a+(b - 2).toNat,cw d a (b - 1).toNat),⟨hil,by dsimp only; rw [cO,hd],by dsimp only; push_cast; omega,?_⟩,rfl,rfl,?_,trivial⟩
   ·dsimp only
    obtain ⟨hi',e⟩:=List.getElem?_eq_some_iff.mp hb
    rw [← hc,List.drop_eq_getElem_cons hi',e,d8]
   ·exact congrArg (fun z=> some (Sl.val (.int z))) (by dsimp only; push_cast; omega)
 case hd=>
  rintro ⟨a,d⟩ ps ⟨_,hd,_,hc⟩ hps
  refine bX ?_ hps
  dsimp only at hd hc ⊢
  rw [List.length_map,List.drop_length] at hc
  have hc':d=d8 l 0 (List.replicate (1+sm2 l).toNat 0):=hc
  refine gE 1 rfl ?_
  refine ac (d4 (cT (ys:=((d.map (·+1)).map U.int)) rfl (blk (ag ar) ["some","dots","b","at","k","many"] [5] rfl rfl rfl rfl (by decide+kernel)) (bR (aa 1 rfl) (.inl rfl)) (fun _ _ _ _=> bp (i:=5) ap.nd rfl (Or.inl rfl)) (bP (by decide)) ?clen ?csz (fun _ _=> trivial) ?celt) ?_)
  case clen=> simp
  case csz=> rw [List.length_map,hd]; exact Nat.le_of_lt (aq (by omega))
  case celt=>
   intro C s' H' fp j x y hx hy
   rw [List.map_map] at hy
   obtain ⟨b,_,_,rfl,rfl⟩:=cm hx hy
   exact (bz (aa 5 rfl) ah)
  rw [hc',gA h2]
end
section
variable {P:Program} {w:World} {K:PySem.W.Frag} {mg:Str→Option Value} {base:Heap}
def gv:List U→Out→Prop:=fun us o=> ∃ (l:List Int) (wn:Nat),us=[.lst (l.map U.int)]∧l.length≤210∧Wt l wn∧wn≤6800∧l≠[]∧lks 100 (unc l).1 ((unc l).1 - (unc l).2)=none∧o=.val (.bl true)
set_option maxHeartbeats 8000000 in
theorem bM (T:Txt K mg):aZ P w K mg base (CXF P w) 4 T.a__law_refused T.d__law_refused ["some"] (spU K (gv)):=by
 refine bN T.F__law_refused aX (fun us o h=> ?_) (fun cdv A outer s H E O us o hr h=> ?_)
 ·obtain ⟨l,wn,rfl,hl,W,hw,hn,hz,rfl⟩:=h
  rfl
 obtain ⟨l,wn,rfl,hl,W,hw,hn,hz,rfl⟩:=h
 refine Ws.nox ?_
 refine ac (aJ (i:=1) aX.nd rfl (Or.inl rfl) (EvN.ev (aN be)) ?_)
 refine ac (fM rfl rfl ((bv T).mono (by decide)) hr rfl T.m_other_chain T.F_other_chain.kp T.b_other_chain (ae (aa 0 rfl) ai af) rfl T.mx_StakeError T.ty_StakeError T.bx_StakeError aX.nd (i:=2) rfl rfl ⟨l,wn,rfl,hl,W,hw,by rw [if_neg hn,hz]; rfl⟩ T.sub_TooMany_StakeError (T.xc_TooMany) (fun ea=> ?_))
 refine ac (aJ (i:=1) aX.nd rfl (Or.inl rfl) (EvN.ev (aN (aH (iQ T.kit_TooMany_TooMany rfl T.z_isinstance boot_isinstance (aa 2 rfl) rfl T.mx_TooMany) (aH (iQ T.kit_TooMany_NoNumber rfl T.z_isinstance boot_isinstance (aa 2 rfl) rfl T.mx_NoNumber) be cg) cg))) (aW ?_))
 show Ws _ _ _ _ _ _ [some (.val (.lst (l.map U.int))),some (.val (.lst [.bl true,.bl false])),none]
 refine ac (bj (cv (eu (df hr) (by walk_at "ok") (by walk_at "ok")) (aa 1 rfl) (EvN.ev (aN (aH jq (aH jq be bG) bG)))) ?_)
 exact rfl
theorem aY (l:List Int):okU 9 (.lst (l.map U.int))=true:=gq fun _=> rfl
theorem bS (l:List Int):eqW (.lst (l.map U.int)) (.lst (l.map U.int))=true:=ey 9 _ (aY l)
def fV:List U→Out→Prop:=fun us o=> ∃ (l:List Int) (wn:Nat),us=[.lst ((ds l).map U.int),.lst (l.map U.int)]∧l.length≤210∧Wt l wn∧wn≤6800∧l≠[]∧(ds l).length≤100∧o=.val (.bl true)
set_option maxHeartbeats 8000000 in
theorem d2 (T:Txt K mg):aZ P w K mg base (CXF P w) 5 T.a__law_back T.d__law_back ["due","some"] (spU K (fV)):=by
 refine bN T.F__law_back bJ (fun us o h=> ?_) (fun cdv A outer s H E O us o hr h=> ?_)
 ·obtain ⟨l,wn,rfl,hl,W,hw,hn,hd,rfl⟩:=h
  rfl
 obtain ⟨l,wn,rfl,hl,W,hw,hn,hd,rfl⟩:=h
 refine Ws.nox ?_
 have hm:((l.map U.int).length:Int)=(l.length:Int):=by rw [List.length_map]
 have Wd:=kz W.two hn hl
 have ob:=hW W.two
 by_cases h100:100 < l.length
 ·rw [if_neg (by omega)] at ob
  refine ac (d_ (br eK (aj (e9 rfl) rfl T.z_len PySem.boot_len (ae (aa 1 rfl) ai af)) ah) (by rw [hm]; exact decide_eq_true (by omega)) ?_)
  refine ac (bj (bH ((bM T).mono (by decide)) hr rfl T.m__law_refused T.F__law_refused.kp T.b__law_refused bu (ae (EvN.ev (cj (cY rfl) rfl T.z_list boot_list (ae (aa 0 rfl) ai af))) ai cg) ⟨ds l,_,rfl,by omega,Wd,by omega,gO,ob,rfl⟩) ?_)
  exact rfl
 ·rw [if_pos (by omega)] at ob
  refine ac (cE (br eK (aj (e9 rfl) rfl T.z_len PySem.boot_len (ae (aa 1 rfl) ai af)) ah) (by rw [hm]; exact decide_eq_false (by omega)) (aW ?_))
  refine ac (ky (bH ((ce T).mono (by decide)) hr rfl T.m_unchain T.F_unchain.kp T.b_unchain bu (ae (EvN.ev (cj (cY rfl) rfl T.z_list boot_list (ae (aa 1 rfl) ai af))) ai cg) ⟨l,wn,rfl,hl,W,hw,rfl⟩) (ka [2,3] rfl (eo (bp (i:=2) bJ.nd rfl (Or.inl rfl)) (eo (bp (i:=3) bJ.nd rfl (Or.inl rfl)) iz)) rfl) ?_)
  refine ac (bj (bA (cv (eu (df hr) (aY _) (aY _)) (EvN.ev (cB ((bv T).mono (by decide)) hr rfl T.m_other_chain T.F_other_chain.kp T.b_other_chain bu (ae (EvN.ev (cj (cY rfl) rfl T.z_list boot_list (ae (aa 0 rfl) ai af))) ai cg) ⟨ds l,_,rfl,by omega,Wd,by omega,by rw [if_neg gO,ob]; rfl⟩)) (aa 1 rfl)) (fun hz=> (bo (cv (eu (df hr) rfl rfl) (bH ((ce T).mono (by decide)) hr rfl T.m_unchain T.F_unchain.kp T.b_unchain bu (ae (EvN.ev (cj (cY rfl) rfl T.z_list boot_list (ae (aa 0 rfl) ai af))) ai cg) ⟨ds l,_,rfl,by omega,Wd,by omega,rfl⟩) (gC (aH (aa 2 rfl) (aH (bY (aa 2 rfl) (aa 3 rfl)) be cC) af)))))) ?_)
  refine vB ?_
  rw [d5 W.two]
  show (eqW (.lst (l.map U.int)) (.lst (l.map U.int)) && eqW (pu ((unc l).1,(unc l).1 - (unc l).2)) (pu ((unc l).1,(unc l).1 - (unc l).2)))=true
  rw [bS,jk]; simp
end
section
variable {P:Program} {w:World} {K:PySem.W.Frag} {mg:Str→Option Value} {base:Heap}
def dsO (l:List Int):List Int:=if l=[] then [] else ds l
def fR:List U→Out→Prop:=fun us o=> ∃ (l:List Int) (wn:Nat),us=[.lst (l.map U.int)]∧l.length≤110∧Wt l wn∧wn≤6800∧o=.val (.bl true)
set_option maxHeartbeats 8000000 in
theorem dY (T:Txt K mg):aZ P w K mg base (CXF P w) 6 T.a__law_good T.d__law_good ["some"] (spU K (fR)):=by
 refine bN T.F__law_good aB (fun us o h=> ?_) (fun cdv A outer s H E O us o hr h=> ?_)
 ·obtain ⟨l,wn,rfl,hl,W,hw,rfl⟩:=h
  rfl
 obtain ⟨l,wn,rfl,hl,W,hw,rfl⟩:=h
 refine Ws.nox ?_
 have hm:((l.map U.int).length:Int)=(l.length:Int):=by rw [List.length_map]
 have s0:=cD W.two
 have dl:(((ds l).length:Nat):Int)=1+sm2 l:=g4 W.two
 refine ac (aJ (i:=1) aB.nd rfl (Or.inl rfl) (EvN.ev (cj (cY rfl) rfl T.z_list boot_list (ae (aa 0 rfl) ai af))) ?_)
 by_cases hb:100 < 1+sm2 l
 ·have hn:l≠[]:=fun e=> by subst e; exact absurd hb (by decide)
  have oc:=iU W.two hn
  rw [if_neg (by omega)] at oc
  refine ac (d_ (br eK (bz ah (aj (e7 rfl ) rfl T.z_sum boot_sum (ae (EvN.ev (cT (ys:=((l.map fun b=> b - 2).map U.int)) rfl (blk (ag aI) ["some","handed","b","found","due"] [2] rfl rfl rfl rfl (by decide+kernel)) (bR (aa 0 rfl) (.inl rfl)) (fun _ _ _ _=> bp (i:=2) aB.nd rfl (Or.inl rfl)) (bP (by decide)) ?clen ?csz (fun _ _=> trivial) ?celt)) ai cK))) ah) (decide_eq_true (show 1+sm2 l > 100 from hb)) ?_)
  case clen=> simp
  case csz=> rw [List.length_map]; exact Nat.le_of_lt (aq (by omega))
  case celt=>
   intro C s' H' fp j x y hx hy
   rw [List.map_map] at hy
   obtain ⟨b,_,_,rfl,rfl⟩:=cm hx hy
   exact (bY (aa 2 rfl) ah)
  refine ac (bj (bA (bH ((bM T).mono (by decide)) hr rfl T.m__law_refused T.F__law_refused.kp T.b__law_refused bu (ae (aa 1 rfl) ai af) ⟨l,wn,rfl,by omega,W,hw,hn,oc,rfl⟩) (fun hz=> (bo (cv (eu (df hr) (aY _) (aY _)) (aa 1 rfl) (aa 0 rfl))))) ?_)
  exact vB (by rw [bS]; rfl)
 ·refine ac (cE (br eK (bz ah (aj (e7 rfl ) rfl T.z_sum boot_sum (ae (EvN.ev (cT (ys:=((l.map fun b=> b - 2).map U.int)) rfl (blk (ag aI) ["some","handed","b","found","due"] [2] rfl rfl rfl rfl (by decide+kernel)) (bR (aa 0 rfl) (.inl rfl)) (fun _ _ _ _=> bp (i:=2) aB.nd rfl (Or.inl rfl)) (bP (by decide)) ?clen ?csz (fun _ _=> trivial) ?celt)) ai cK))) ah) (decide_eq_false (show ¬ 1+sm2 l > 100 from hb)) (aW ?_))
  case clen=> simp
  case csz=> rw [List.length_map]; exact Nat.le_of_lt (aq (by omega))
  case celt=>
   intro C s' H' fp j x y hx hy
   rw [List.map_map] at hy
   obtain ⟨b,_,_,rfl,rfl⟩:=cm hx hy
   exact (bY (aa 2 rfl) ah)
  have dle:(dsO l).length≤100:=by
   unfold dsO
   split
   ·simp
   ·omega
  refine ac (em (i:=3) aB.nd rfl (Or.inl rfl) (cB ((bv T).mono (by decide)) hr rfl T.m_other_chain T.F_other_chain.kp T.b_other_chain bu (ae (aa 1 rfl) ai af) ⟨l,wn,rfl,by omega,W,hw,(show Out.new ((dsO l).map U.int)=_ by
        unfold dsO
        by_cases hn:l=[]
        ·rw [if_pos hn,if_pos hn]; rfl
        ·rw [if_neg hn,if_neg hn,iU W.two hn,if_pos (by omega)]; rfl)⟩) ?_)
  refine ac (aJ (i:=4) aB.nd rfl (Or.inl rfl) (EvN.ev (aN be)) ?_)
  refine eY (fun ps=> SubP [some (.val (.lst (l.map U.int))),some (.val (.lst (l.map U.int))),none,some (.own ((dsO l).map U.int)),some (.val (.lst ((dsO l).map U.int)))] ps) (hR (br eK (aj (e9 rfl) rfl T.z_len PySem.boot_len (ae (aa 0 rfl) ai af)) ah) (fun hT=> ?_) (fun hF=> (aW ?_))) ?hj
  ·rw [hm] at hT
   have h0:=dTb hT
   have hn:l≠[]:=fun e=> by subst e; simp at h0
   refine ac (aJ (i:=4) aB.nd rfl (Or.inl rfl) (EvN.ev (cB ((cH T).mono (by decide)) hr rfl T.m__law_columns T.F__law_columns.kp T.b__law_columns bu (ae (aa 0 rfl) ai af) ⟨l,rfl,by omega,W.two,by omega,rfl⟩)) (aW ?_))
   refine ⟨rfl,rfl,rfl,?_,trivial⟩
   exact congrArg (fun z=> some (Sl.val (.lst z))) (by unfold dsO; rw [if_neg hn])
  ·rw [hm] at hF
   have h0:=dFb hF
   have hn:l=[]:=List.eq_nil_of_length_eq_zero (by omega)
   refine ⟨rfl,rfl,rfl,?_,trivial⟩
   exact congrArg (fun z=> some (Sl.val (.lst z))) (by unfold dsO; rw [if_pos hn]; rfl)
  case hj=>
   intro ps hps
   refine bX ?_ hps
   refine ac (cE (i7 3 rfl (Tw.t (kr (e8 (fe (aj (ao (by intro _ h; cases h) (L2.kit_list_list _)) rfl T.z_isinstance boot_isinstance (ae (aa 3 rfl) (ae (bE rfl T.z_list boot_list) ai af) af)))) (fun hz=> (kr (br (j5 (df hr) (aY _) (aY _)) (aa 1 rfl) (aa 0 rfl)) (fun hz=> (j4 (br (j5 (df hr) (aY _) (aY _)) (aa 3 rfl) (aa 4 rfl))))))))) (show (!true || (!eqW (.lst (l.map U.int)) (.lst (l.map U.int)) || !eqW (.lst ((dsO l).map U.int)) (.lst ((dsO l).map U.int))))=false by rw [bS,bS]; rfl) (aW ?_))
   refine ac (fS (n:=3) (j:=2) rfl PassesOwn.never rfl (by decide) aB.nd rfl (Or.inl rfl) (fun i u hu=> ?_) (fun o=> ?_))
   ·rw [List.getElem?_map] at hu
    obtain ⟨n,_,rfl⟩:=Option.map_eq_some_iff.mp hu
    exact (show Tt _ _ _ _ _ (!true) from (e8 (fe (bH ((dk T).mono (by decide)) hr rfl T.m__law_whole T.F__law_whole.kp T.b__law_whole bu (ae (aa 2 rfl) ai af) ⟨_,rfl,rfl⟩))))
   ·refine bX ?_ (show SubP [some (.val (.lst (l.map U.int))),some (.val (.lst (l.map U.int))),none,some (.own ((dsO l).map U.int)),some (.val (.lst ((dsO l).map U.int)))] _ from ⟨rfl,rfl,rfl,rfl,trivial⟩)
    refine ac (cu 3 rfl ah (by rw [List.length_map]; exact aq (by omega)) ?_)
    by_cases hn:l=[]
    ·subst hn
     refine ac (bj (bA (cv (eu (df hr) rfl rfl) (aa 1 rfl) (aa 0 rfl)) (fun hz=> (bo (ko (cv (eu (df hr) rfl rfl) (aa 4 rfl) (EvN.ev (aN be))) (fun hz=> (bo (show Ev _ _ _ _ _ (.bl true) from by cases hz))))))) ?_)
     exact rfl
    ·have ed:dsO l=ds l:=by unfold dsO; rw [if_neg hn]
     rw [ed]
     refine ac (bj (bA (cv (eu (df hr) (aY _) (aY _)) (aa 1 rfl) (aa 0 rfl)) (fun hz=> (bo (ko (cv (eu (df hr) (aY _) rfl) (aa 4 rfl) (EvN.ev (aN be))) (fun hz=> (bo (bH ((d2 T).mono (by decide)) hr rfl T.m__law_back T.F__law_back.kp T.b__law_back bu (ae (aa 4 rfl) (ae (aa 0 rfl) ai af) af) ⟨l,wn,rfl,by omega,W,hw,hn,by omega,rfl⟩))))))) ?_)
     exact vB (by rw [bS]; simp)
end
section
variable {P:Program} {w:World} {K:PySem.W.Frag} {mg:Str→Option Value} {base:Heap}
set_option maxHeartbeats 8000000 in
theorem jv (T:Txt K mg):aZ P w K mg base (CXF P w) 7 T.a_law T.d_law ["script"] (spU K (cq)):=by
 refine bN T.F_law eP (fun us o h=> ?_) (fun cdv A outer s H E O us o hr h=> ?_)
 ·obtain ⟨ns,rfl,h63,hB,rfl⟩:=h
  rfl
 obtain ⟨ns,rfl,h63,hB,rfl⟩:=h
 refine Ws.nox ?_
 have hcut:fN (ns.map U.int) none (some 60)=(ns.take 60).map U.int:=by rw [List.map_take]; exact fP _ 60
 refine ac (aJ (i:=1) eP.nd rfl (Or.inl rfl) (EvN.ev (h8 (aa 0 rfl) i0 (i6 ah) (.inr rfl))) ?_)
 rw [hcut]
 have hM:∀ m∈ns.take 60,Sz 1048576 m:=fun m hm=> hB m (List.mem_of_mem_take hm)
 have hl:(ns.take 60).length≤60:=by rw [List.length_take]; omega
 generalize ns.take 60=ms at *
 have W1:Wt (ms.map lkF) (100 * (ms.map lkF).length):=en _ fun b hb=> by
  obtain ⟨c,_,rfl⟩:=List.mem_map.mp hb
  exact jb c
 have l1:(ms.map lkF).length=ms.length:=List.length_map ..
 obtain ⟨o1,o2,o3⟩:=ij (fsF ms) (laF ms)
 obtain ⟨m1,m2,m3⟩:=ir (fsF ms) (laF ms)
 have W2:=en _ o1
 have W3:=en _ m1
 refine ac (cW (fun _:Unit=> [some (.val (.scr (ns.map U.int))),some (.val (.lst (ms.map U.int))),none]) (fun _ _=> True) rfl PassesOwn.never (bR (EvN.ev (gp (EvN.ev (aN (aH (EvN.ev (cB ((dg T).mono (by decide)) hr rfl T.m__law_links T.F__law_links.kp T.b__law_links bu (ae (aa 1 rfl) ai af) ⟨ms,rfl,hl,hM,rfl⟩)) be cg))) (EvN.ev (cB ((di T).mono (by decide)) hr rfl T.m__law_edges T.F__law_edges.kp T.b__law_edges bu (ae (aa 1 rfl) ai af) ⟨ms,rfl,hl,hM,rfl⟩)) (show 1+2≤sizeLine by decide))) (.inl rfl)) ?h0 ?hs ?hd)
 case h0=> exact ⟨(),trivial,rfl,rfl,trivial⟩
 case hs=>
  intro H0 i x _ hx _
  have key:∃ (l:List Int) (wn:Nat),x=.lst (l.map U.int)∧l.length≤110∧Wt l wn∧wn≤6800:=by
   match i,hx with
   | 0,hx=> cases hx; exact ⟨_,_,rfl,by omega,W1,by omega⟩
   | 1,hx=> cases hx; exact ⟨_,_,rfl,by omega,W2,by omega⟩
   | 2,hx=> cases hx; exact ⟨_,_,rfl,by omega,W3,by omega⟩
   | i+3,hx=> simp at hx
  obtain ⟨l,wn,rfl,k1,k2,k3⟩:=key
  refine ⟨_,(cQ (i:=2) eP.nd rfl (Or.inl rfl)),?_⟩
  refine ac (cE (e8 (fe (bH ((dY T).mono (by decide)) hr rfl T.m__law_good T.F__law_good.kp T.b__law_good bu (ae (aa 2 rfl) ai af) ⟨l,wn,rfl,k1,k2,k3,rfl⟩))) rfl (aW (aW ?_)))
  exact ⟨(),trivial,rfl,rfl,trivial⟩
 case hd=>
  intro _ ps _ hps
  refine bX ?_ hps
  refine ac (bj jq ?_)
  exact rfl
end
set_option maxHeartbeats 8000000 in
theorem txt_mk {K:PySem.W.Frag} {h:Heap} {mg:Str→Option Value} {fa f0 f1 f2 f3 f4 f5 f6 f7 f8 f9 f10 f11 c_NoNumber c_StakeError c_TooMany:Addr} (X:K.In h) (G:h.Ns mainGlobals mg) (hfa:mg "law"=some (.ref fa))
  {od0 an0 od1 an1 od2 an2 od3 an3 od4 an4 od5 an5 od6 an6 od7 an7 od8 an8 od9 an9 od10 an10 od11 an11:Option Addr} {sl0 sl1 sl2 sl3 sl4 sl5 sl6 sl7 sl8 sl9 sl10 sl11:Array (Option Value)} {oc0 kV0 dc0 pm0 cd0 ct0 oc1 kV1 dc1 pm1 cd1 ct1 oc2 kV2 dc2 pm2 cd2 ct2 oc3 kV3 dc3 pm3 cd3 ct3 oc4 kV4 dc4 pm4 cd4 ct4 oc5 kV5 dc5 pm5 cd5 ct5 oc6 kV6 dc6 pm6 cd6 ct6 oc7 kV7 dc7 pm7 cd7 ct7 oc8 kV8 dc8 pm8 cd8 ct8 oc9 kV9 dc9 pm9 cd9 ct9 oc10 kV10 dc10 pm10 cd10 ct10 oc11 kV11 dc11 pm11 cd11 ct11:Value}
  (a0:PySem.W.nsIn K mainGlobals "is_whole"=some (some (.ref f0))) (l0:K.lookup f0=some ⟨oc0,od0,.func (PySem.W.fnOf "is_whole" "is_whole" (az bf) (aw bf) (ag bf) .none kV0 dc0 pm0 an0 cd0 ct0),sl0⟩) (c0:PySem.W.codeIn K cd0 "is_whole"=true) (k0:PySem.W.keepIn K (.ref f0)=true)
  (a1:PySem.W.nsIn K mainGlobals "links"=some (some (.ref f1))) (l1:K.lookup f1=some ⟨oc1,od1,.func (PySem.W.fnOf "links" "links" (az bT) (aw bT) (ag bT) .none kV1 dc1 pm1 an1 cd1 ct1),sl1⟩) (c1:PySem.W.codeIn K cd1 "links"=true) (k1:PySem.W.keepIn K (.ref f1)=true)
  (a2:PySem.W.nsIn K mainGlobals "unchain"=some (some (.ref f2))) (l2:K.lookup f2=some ⟨oc2,od2,.func (PySem.W.fnOf "unchain" "unchain" (az bg) (aw bg) (ag bg) .none kV2 dc2 pm2 an2 cd2 ct2),sl2⟩) (c2:PySem.W.codeIn K cd2 "unchain"=true) (k2:PySem.W.keepIn K (.ref f2)=true)
  (a3:PySem.W.nsIn K mainGlobals "other_chain"=some (some (.ref f3))) (l3:K.lookup f3=some ⟨oc3,od3,.func (PySem.W.fnOf "other_chain" "other_chain" (az aL) (aw aL) (ag aL) .none kV3 dc3 pm3 an3 cd3 ct3),sl3⟩) (c3:PySem.W.codeIn K cd3 "other_chain"=true) (k3:PySem.W.keepIn K (.ref f3)=true)
  (a4:PySem.W.nsIn K mainGlobals "_law_whole"=some (some (.ref f4))) (l4:K.lookup f4=some ⟨oc4,od4,.func (PySem.W.fnOf "_law_whole" "_law_whole" (az aR) (aw aR) (ag aR) .none kV4 dc4 pm4 an4 cd4 ct4),sl4⟩) (c4:PySem.W.codeIn K cd4 "_law_whole"=true) (k4:PySem.W.keepIn K (.ref f4)=true)
  (a5:PySem.W.nsIn K mainGlobals "_law_links"=some (some (.ref f5))) (l5:K.lookup f5=some ⟨oc5,od5,.func (PySem.W.fnOf "_law_links" "_law_links" (az aQ) (aw aQ) (ag aQ) .none kV5 dc5 pm5 an5 cd5 ct5),sl5⟩) (c5:PySem.W.codeIn K cd5 "_law_links"=true) (k5:PySem.W.keepIn K (.ref f5)=true)
  (a6:PySem.W.nsIn K mainGlobals "_law_edges"=some (some (.ref f6))) (l6:K.lookup f6=some ⟨oc6,od6,.func (PySem.W.fnOf "_law_edges" "_law_edges" (az aS) (aw aS) (ag aS) .none kV6 dc6 pm6 an6 cd6 ct6),sl6⟩) (c6:PySem.W.codeIn K cd6 "_law_edges"=true) (k6:PySem.W.keepIn K (.ref f6)=true)
  (a7:PySem.W.nsIn K mainGlobals "_law_columns"=some (some (.ref f7))) (l7:K.lookup f7=some ⟨oc7,od7,.func (PySem.W.fnOf "_law_columns" "_law_columns" (az ar) (aw ar) (ag ar) .none kV7 dc7 pm7 an7 cd7 ct7),sl7⟩) (c7:PySem.W.codeIn K cd7 "_law_columns"=true) (k7:PySem.W.keepIn K (.ref f7)=true)
  (a8:PySem.W.nsIn K mainGlobals "_law_refused"=some (some (.ref f8))) (l8:K.lookup f8=some ⟨oc8,od8,.func (PySem.W.fnOf "_law_refused" "_law_refused" (az aG) (aw aG) (ag aG) .none kV8 dc8 pm8 an8 cd8 ct8),sl8⟩) (c8:PySem.W.codeIn K cd8 "_law_refused"=true) (k8:PySem.W.keepIn K (.ref f8)=true)
  (a9:PySem.W.nsIn K mainGlobals "_law_back"=some (some (.ref f9))) (l9:K.lookup f9=some ⟨oc9,od9,.func (PySem.W.fnOf "_law_back" "_law_back" (az bb) (aw bb) (ag bb) .none kV9 dc9 pm9 an9 cd9 ct9),sl9⟩) (c9:PySem.W.codeIn K cd9 "_law_back"=true) (k9:PySem.W.keepIn K (.ref f9)=true)
  (a10:PySem.W.nsIn K mainGlobals "_law_good"=some (some (.ref f10))) (l10:K.lookup f10=some ⟨oc10,od10,.func (PySem.W.fnOf "_law_good" "_law_good" (az aI) (aw aI) (ag aI) .none kV10 dc10 pm10 an10 cd10 ct10),sl10⟩) (c10:PySem.W.codeIn K cd10 "_law_good"=true) (k10:PySem.W.keepIn K (.ref f10)=true)
  (a11:PySem.W.nsIn K mainGlobals "law"=some (some (.ref f11))) (l11:K.lookup f11=some ⟨oc11,od11,.func (PySem.W.fnOf "law" "law" (az dt) (aw dt) (ag dt) .none kV11 dc11 pm11 an11 cd11 ct11),sl11⟩) (c11:PySem.W.codeIn K cd11 "law"=true) (k11:PySem.W.keepIn K (.ref f11)=true)
  (e_NoNumber:PySem.W.nsIn K mainGlobals "NoNumber"=some (some (.ref c_NoNumber)))
  (e_StakeError:PySem.W.nsIn K mainGlobals "StakeError"=some (some (.ref c_StakeError)))
  (e_TooMany:PySem.W.nsIn K mainGlobals "TooMany"=some (some (.ref c_TooMany))) (x_TooMany:PySem.W.excIn K c_TooMany [.type "ValueError",.type "Exception",.type "BaseException",.type "object"] "ValueError.__new__"=true)
  (z_all:PySem.W.nsIn K mainGlobals "all"=some none)
  (z_bool:PySem.W.nsIn K mainGlobals "bool"=some none)
  (z_int:PySem.W.nsIn K mainGlobals "int"=some none)
  (z_isinstance:PySem.W.nsIn K mainGlobals "isinstance"=some none)
  (z_len:PySem.W.nsIn K mainGlobals "len"=some none)
  (z_list:PySem.W.nsIn K mainGlobals "list"=some none)
  (z_range:PySem.W.nsIn K mainGlobals "range"=some none)
  (z_reversed:PySem.W.nsIn K mainGlobals "reversed"=some none)
  (z_sum:PySem.W.nsIn K mainGlobals "sum"=some none)
  (bx_StakeError:PySem.W.mroIn K c_StakeError (.type "BaseException")=some true)
  (kit_TooMany_NoNumber:PySem.W.kitOne K (.ref c_TooMany) (.ref c_NoNumber)=some false)
  (kit_TooMany_TooMany:PySem.W.kitOne K (.ref c_TooMany) (.ref c_TooMany)=some true)
  (sub_TooMany_StakeError:PySem.W.mroIn K c_TooMany (.ref c_StakeError)=some true)
  (ty_StakeError:PySem.W.typeIn K (.ref c_StakeError)=some (.type "type"))
  (xc_TooMany:PySem.W.XcOk K c_TooMany)
  {t_MOST_NUMBERS:_} (g_MOST_NUMBERS:PySem.W.nsIn K mainGlobals "MOST_NUMBERS"=some (some (.int 100 t_MOST_NUMBERS)))
  :∃ T:Txt K mg,T.a_law=fa∧(∀ (s:Shared) (v:Value),BindsTo s T.d_law ⟨[v],[]⟩ [("script",v)]):=by
 have e:=hfa.symm.trans (PySem.W.mg_of X G a11)
 cases e
 have F0:=bn (st:=bf) l0 c0 k0
 have b0:=F0.binds (ps:=["thing"]) fun _ _ _ _ _ _ us hl=> match us,hl with | [_],_=> rfl
 have F1:=bn (st:=bT) l1 c1 k1
 have b1:=F1.binds (ps:=["n","q"]) fun _ _ _ _ _ _ us hl=> match us,hl with | [_,_],_=> rfl
 have F2:=bn (st:=bg) l2 c2 k2
 have b2:=F2.binds (ps:=["some"]) fun _ _ _ _ _ _ us hl=> match us,hl with | [_],_=> rfl
 have F3:=bn (st:=aL) l3 c3 k3
 have b3:=F3.binds (ps:=["some"]) fun _ _ _ _ _ _ us hl=> match us,hl with | [_],_=> rfl
 have F4:=bn (st:=aR) l4 c4 k4
 have b4:=F4.binds (ps:=["found"]) fun _ _ _ _ _ _ us hl=> match us,hl with | [_],_=> rfl
 have F5:=bn (st:=aQ) l5 c5 k5
 have b5:=F5.binds (ps:=["cells"]) fun _ _ _ _ _ _ us hl=> match us,hl with | [_],_=> rfl
 have F6:=bn (st:=aS) l6 c6 k6
 have b6:=F6.binds (ps:=["cells"]) fun _ _ _ _ _ _ us hl=> match us,hl with | [_],_=> rfl
 have F7:=bn (st:=ar) l7 c7 k7
 have b7:=F7.binds (ps:=["some"]) fun _ _ _ _ _ _ us hl=> match us,hl with | [_],_=> rfl
 have F8:=bn (st:=aG) l8 c8 k8
 have b8:=F8.binds (ps:=["some"]) fun _ _ _ _ _ _ us hl=> match us,hl with | [_],_=> rfl
 have F9:=bn (st:=bb) l9 c9 k9
 have b9:=F9.binds (ps:=["due","some"]) fun _ _ _ _ _ _ us hl=> match us,hl with | [_,_],_=> rfl
 have F10:=bn (st:=aI) l10 c10 k10
 have b10:=F10.binds (ps:=["some"]) fun _ _ _ _ _ _ us hl=> match us,hl with | [_],_=> rfl
 have F11:=bn (st:=dt) l11 c11 k11
 have b11:=F11.binds (ps:=["script"]) fun _ _ _ _ _ _ us hl=> match us,hl with | [_],_=> rfl
 exact ⟨⟨_,_,F0,b0,PySem.W.mg_of X G a0,_,_,F1,b1,PySem.W.mg_of X G a1,_,_,F2,b2,PySem.W.mg_of X G a2,_,_,F3,b3,PySem.W.mg_of X G a3,_,_,F4,b4,PySem.W.mg_of X G a4,_,_,F5,b5,PySem.W.mg_of X G a5,_,_,F6,b6,PySem.W.mg_of X G a6,_,_,F7,b7,PySem.W.mg_of X G a7,_,_,F8,b8,PySem.W.mg_of X G a8,_,_,F9,b9,PySem.W.mg_of X G a9,_,_,F10,b10,PySem.W.mg_of X G a10,_,_,F11,b11,PySem.W.mg_of X G a11,_,PySem.W.mg_of X G e_NoNumber,_,PySem.W.mg_of X G e_StakeError,_,x_TooMany,PySem.W.mg_of X G e_TooMany,PySem.W.mg_none_of X G z_all,PySem.W.mg_none_of X G z_bool,PySem.W.mg_none_of X G z_int,PySem.W.mg_none_of X G z_isinstance,PySem.W.mg_none_of X G z_len,PySem.W.mg_none_of X G z_list,PySem.W.mg_none_of X G z_range,PySem.W.mg_none_of X G z_reversed,PySem.W.mg_none_of X G z_sum,bx_StakeError,kit_TooMany_NoNumber,kit_TooMany_TooMany,sub_TooMany_StakeError,ty_StakeError,xc_TooMany,⟨_,PySem.W.mg_of X G g_MOST_NUMBERS⟩⟩,rfl,fun s v=> .of_eq rfl⟩
abbrev spLaw (K:PySem.W.Frag):Sp:=spU K cq
theorem law_start (K:PySem.W.Frag) (H:Hp) (a:Addr) (ns:List Int) (h1:ns.length≤63) (h2:∀ m∈ns,Sz 1048576 m) (_:h_ H) (h3:SqL K H a (ns.map V.int)):spLaw K [.ref a] H (fun v _=> v=.bl true) fun _ _ _=> False:=fJ h1 h2 h3
theorem law_ok {P:Program} {w:World} {K:PySem.W.Frag} {mg:Str→Option Value} {fa:Addr} (h:∃ T:Txt K mg,T.a_law=fa∧(∀ (s:Shared) (v:Value),BindsTo s T.d_law ⟨[v],[]⟩ [("script",v)])):
  ∃ fd:FuncData,(∀ (s:Shared) (u:Value),BindsTo s fd ⟨[u],[]⟩ [("script",u)])∧∀ base:Heap,K.In base→base.Ns mainGlobals mg→aZ P w K mg base CX0 7 fa fd ["script"] (spLaw K):=by
 obtain ⟨T,rfl,hb⟩:=h
 exact ⟨T.d_law,hb,fun base _ _=> (jv T).calm gt⟩
end My
open PySem PySem.W PyProof.Rows L2
set_option maxRecDepth 100000 in
set_option maxHeartbeats 0 in
theorem PySem.Challenge.cw_stakefield_k43_other_chains_by_dots_holds : PySem.Challenge.rw_stakefield_k43_other_chains_by_dots.Holds := by
 w_on; o_law; k_head; (case hw=> w_witness2)
 k_fill
 refine L2.walk_ofB (l:=PySem.Challenge.rw_stakefield_k43_other_chains_by_dots) (n:=63) (k:=7) (x:="script") (CX:=CX0) (sp:=My.spLaw) rfl (by decide) rfl ⟨rfl,by decide,by decide⟩ (fun w h Y=> by first | exact PySem.W.kIn_of Y | exact PySem.W.km_in_of Y) ?F My.law_start (fun _ _ _ _ z=> z)
 case F=>
  intro w mg fa h KX G hmg
  refine My.law_ok ?T
  refine' My.txt_mk KX G hmg ?a0 ?l0 ?c0 ?k0 ?a1 ?l1 ?c1 ?k1 ?a2 ?l2 ?c2 ?k2 ?a3 ?l3 ?c3 ?k3 ?a4 ?l4 ?c4 ?k4 ?a5 ?l5 ?c5 ?k5 ?a6 ?l6 ?c6 ?k6 ?a7 ?l7 ?c7 ?k7 ?a8 ?l8 ?c8 ?k8 ?a9 ?l9 ?c9 ?k9 ?a10 ?l10 ?c10 ?k10 ?a11 ?l11 ?c11 ?k11 ?e_NoNumber ?e_StakeError ?e_TooMany ?x_TooMany ?z_all ?z_bool ?z_int ?z_isinstance ?z_len ?z_list ?z_range ?z_reversed ?z_sum ?bx_StakeError ?kit_TooMany_NoNumber ?kit_TooMany_TooMany ?sub_TooMany_StakeError ?ty_StakeError ?xc_TooMany ?g_MOST_NUMBERS
  (case a0=> k_is); (case l0=> k_is); (case c0=> k_is); (case k0=> k_is)
  (case a1=> k_is); (case l1=> k_is); (case c1=> k_is); (case k1=> k_is)
  (case a2=> k_is); (case l2=> k_is); (case c2=> k_is); (case k2=> k_is)
  (case a3=> k_is); (case l3=> k_is); (case c3=> k_is); (case k3=> k_is)
  (case a4=> k_is); (case l4=> k_is); (case c4=> k_is); (case k4=> k_is)
  (case a5=> k_is); (case l5=> k_is); (case c5=> k_is); (case k5=> k_is)
  (case a6=> k_is); (case l6=> k_is); (case c6=> k_is); (case k6=> k_is)
  (case a7=> k_is); (case l7=> k_is); (case c7=> k_is); (case k7=> k_is)
  (case a8=> k_is); (case l8=> k_is); (case c8=> k_is); (case k8=> k_is)
  (case a9=> k_is); (case l9=> k_is); (case c9=> k_is); (case k9=> k_is)
  (case a10=> k_is); (case l10=> k_is); (case c10=> k_is); (case k10=> k_is)
  (case a11=> k_is); (case l11=> k_is); (case c11=> k_is); (case k11=> k_is)
  (case e_NoNumber=> k_is)
  (case e_StakeError=> k_is)
  (case e_TooMany=> k_is); (case x_TooMany=> k_exc)
  (case z_all=> k_is)
  (case z_bool=> k_is)
  (case z_int=> k_is)
  (case z_isinstance=> k_is)
  (case z_len=> k_is)
  (case z_list=> k_is)
  (case z_range=> k_is)
  (case z_reversed=> k_is)
  (case z_sum=> k_is)
  (case bx_StakeError=> k_is)
  (case kit_TooMany_NoNumber=> kit_is)
  (case kit_TooMany_TooMany=> kit_is)
  (case sub_TooMany_StakeError=> k_is)
  (case ty_StakeError=> k_is)
  (case xc_TooMany=> exact ⟨by k_is,by k_is,by k_is,by k_is,by k_is,by k_is,by k_is⟩)
  (case g_MOST_NUMBERS=> k_is)
