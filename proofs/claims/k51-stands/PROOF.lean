import PyProof.Rows.All
import Wide.All
import OpenK.AllK
import Wide.FinOn
import Lean
import PyProof.EqAt
import PyProof.EqKinds
import PyProof.NeKinds
import PyProof.TupleCall
import KE.KDictSum
import KE.KSortTup
import KE.KRevIter
import KE.KRevSl
import PySem.Challenge.RW_stakefield_k51_stands
set_option Elab.async false
set_option linter.all false
set_option maxRecDepth 100000
namespace L2
open PySem PySem.Spec PyProof.Rows
abbrev Key:=Sum Int Str
def uC:Key→Value→Bool
 | .inl k,v=> Value.isInt k v
 | .inr x,v=> Value.isStrOf x v
def xo (w:World):Key→Int
 | .inl k=> hashInt k
 | .inr x=> hashStr w x
theorem bC:∀ {k:Key} {v:Value},uC k v=true→(∃ i t,k=Sum.inl i∧v=Value.int i t)∨(∃ x t,k=Sum.inr x∧v=Value.str x t)
 | .inl i,v,h=> by
  obtain ⟨t,e⟩:=Value.isInt_shape (k:=i) (v:=v) h
  exact .inl ⟨i,t,rfl,e⟩
 | .inr x,v,h=> by
  obtain ⟨t,e⟩:=Value.isStrOf_shape (x:=x) (v:=v) h
  exact .inr ⟨x,t,rfl,e⟩
theorem uJ (a b:Int):decide ((Sum.inl a:Key)=Sum.inl b)=(a==b):=by
 by_cases e:a=b
 ·subst e; simp
 ·have h:¬ (Sum.inl a:Key)=Sum.inl b:=fun q=> e (Sum.inl.inj q)
  rw [decide_eq_false h]
  exact (beq_eq_false_iff_ne.mpr e).symm
theorem uO (a b:Str):decide ((Sum.inr a:Key)=Sum.inr b)=decide (a=b):=by
 by_cases e:a=b
 ·subst e; simp
 ·have h:¬ (Sum.inr a:Key)=Sum.inr b:=fun q=> e (Sum.inr.inj q)
  rw [decide_eq_false h,decide_eq_false e]
theorem uG (a:Int) (b:Str):decide ((Sum.inl a:Key)=Sum.inr b)=false:=decide_eq_false (fun q=> nomatch q)
theorem uX (a:Str) (b:Int):decide ((Sum.inr a:Key)=Sum.inl b)=false:=decide_eq_false (fun q=> nomatch q)
def nM (prog:Program) (w:World):PySem.KeyKind prog w Key where
 is:=uC
 hash:=xo w
 inj:=fun v a b ha hb=> by
  rcases bC ha with ⟨i,t,rfl,rfl⟩ | ⟨x,t,rfl,rfl⟩
  ·rcases bC hb with ⟨j,u,rfl,e⟩ | ⟨y,u,rfl,e⟩
   ·injection e with e1 _; rw [e1]
   ·exact nomatch e
  ·rcases bC hb with ⟨j,u,rfl,e⟩ | ⟨y,u,rfl,e⟩
   ·exact nomatch e
   ·injection e with e1 _; rw [e1]
 byValue:=fun k v h=> by
  rcases bC h with ⟨i,t,rfl,rfl⟩ | ⟨x,t,rfl,rfl⟩ <;> rfl
 pyHash:=fun hv h=> by
  rcases bC hv with ⟨i,t,rfl,rfl⟩ | ⟨x,t,rfl,rfl⟩
  ·exact wpAny_pyHash_int h
  ·exact wpAny_pyHash_str h
 eqBool:=fun hu hv h=> by
  rcases bC hu with ⟨i,t,rfl,rfl⟩ | ⟨x,t,rfl,rfl⟩
  ·rcases bC hv with ⟨j,u,rfl,rfl⟩ | ⟨y,u,rfl,rfl⟩
   ·rw [uJ] at h; exact wpAny_eqBool_int h
   ·rw [uG] at h; exact SeqAt.EqAt.int_str i t y u _ _ _ _ h
  ·rcases bC hv with ⟨j,u,rfl,rfl⟩ | ⟨y,u,rfl,rfl⟩
   ·rw [uX] at h; exact SeqAt.EqAt.str_int x t j u _ _ _ _ h
   ·rw [uO] at h; exact wpAny_eqBool_str h
 «strs»:=fun k x t v h=> by
  rcases bC h with ⟨i,u,rfl,e⟩ | ⟨y,u,rfl,e⟩
  ·exact nomatch e
  ·injection e with e1 _
   subst e1
   cases v <;> rfl
end L2
namespace L2
open PySem PySem.Spec PyProof.Rows
inductive V where
 | non | bl (b:Bool) | int (i:Int) | str (x:Str) | byt (b:Array UInt8) | flt (b:UInt64) | ref (a:Addr) | ty (n:String)
 deriving DecidableEq
def aU:V→Value→Prop
 | .non,u=> u=Value.none
 | .bl b,u=> u=Value.bool b
 | .int i,u=> ∃ t,u=Value.int i t
 | .str x,u=> ∃ t,u=Value.str x t
 | .byt b,u=> ∃ t,u=Value.bytes b t
 | .flt b,u=> ∃ t,u=Value.float b t
 | .ref a,u=> u=Value.ref a
 | .ty n,u=> u=Value.type n
abbrev aK:List V→List Value→Prop:=Paired aU
theorem aK.length {xs:List V} {us:List Value} (r:aK xs us):xs.length=us.length:=Paired.length r
theorem aK.get:∀ {xs:List V} {us:List Value} {i:Nat} {x:V},aK xs us→xs[i]?=some x→∃ u,us[i]?=some u∧aU x u
 | _,_,_,_,.nil,e=> by simp at e
 | _,_,0,_,.cons r _,e=> by simp at e; subst e; exact ⟨_,rfl,r⟩
 | _,_,i+1,x,.cons _ t,e=> by
  obtain ⟨u,h1,h2⟩:=aK.get (i:=i) (x:=x) t (by simpa using e)
  exact ⟨u,by simpa using h1,h2⟩
theorem aK.append:∀ {xs ys:List V} {us ws:List Value},aK xs us→aK ys ws→aK (xs++ys) (us++ws)
 | _,_,_,_,.nil,s=> s
 | _,_,_,_,.cons r t,s=> .cons r (aK.append t s)
theorem aK.take:∀ {xs:List V} {us:List Value} (n:Nat),aK xs us→aK (xs.take n) (us.take n)
 | _,_,0,_=> .nil
 | _,_,_+1,.nil=> .nil
 | _,_,n+1,.cons r t=> .cons r (aK.take n t)
theorem aK.drop:∀ {xs:List V} {us:List Value} (n:Nat),aK xs us→aK (xs.drop n) (us.drop n)
 | _,_,0,r=> r
 | _,_,_+1,.nil=> .nil
 | _,_,n+1,.cons _ t=> aK.drop n t
def vQ:Option V→Option Value→Prop
 | some v,some u=> aU v u
 | none,none=> True
 | _,_=> False
def KV {κ:Type}:List (κ×V)→List (κ×Value)→Prop:=Paired fun (p:κ×V) (q:κ×Value)=> p.1=q.1∧aU p.2 q.2
def kV:Key→V
 | .inl i=> .int i
 | .inr x=> .str x
inductive HO where
 /-- a list -/
 | lst (xs:List V)
 /-- a tuple (never changes) -/
 | tup (xs:List V)
 /-- a dict whose keys are ints and texts; one whose keys are tuples of ints and texts (the empty one is both) -/
 | dK (kvs:List (Key×V)) | dT (kvs:List (List Key×V))
 /-- a set of ints:its members,its size -/
 | set (S:Int→Bool) (n:Nat)
 /-- an instance of the class at C,its dict at dx,its attributes -/
 | ins (C dx:Addr) (fs:List (Str×V))
 /-- the dict of the instance at x -/
 | own (x:Addr)
 /-- the dict of an exception -/
 | xd (fs:List (Str×V))
 /-- a bound method,f of x -/
 | met (f x:Addr)
 /-- a range object lo,lo+1,.. below hi -/
 | rng (lo hi:Int)
 /-- a thing that is known to the object (the script; a dict while a loop walks it):read,never written while it is so -/
 | frz (o:Obj) (u:HO)
 /-- a code object's table -/
 | tbl (ps:Array Value)
 /-- any other thing,by what is true of its one object (a def of one's own:SetO a S n:=HO.ext fun h=> ..) -/
 | ext (φ:Heap→Prop)
abbrev Hp:=Addr→Option HO
def upd (H:Hp) (a:Addr) (o:HO):Hp:=fun b=> if b=a then some o else H b
theorem aT {H:Hp} {a:Addr} {o:HO}:upd H a o a=some o:=by unfold upd; rw [if_pos rfl]
theorem aL {H:Hp} {a b:Addr} {o:HO} (h:b≠a):upd H a o b=H b:=by unfold upd; rw [if_neg h]
theorem bq {H:Hp} {a b:Addr} {o:HO} (h:H a=some o) (h':H b=none):a≠b:=by
 intro e; subst e; rw [h] at h'; cases h'
section
variable (P:Program) (w:World)
def bR (H:Hp) (h:Heap) (a:Addr):HO→Prop
 | .lst xs=> xs.length≤sizeLine∧∃ (its:List Value) (n:Nat),aK xs its∧h.get? a=some { cls:=.type "list",data:=.seq its.toArray n }
 | .tup xs=> xs.length≤sizeLine∧∃ its:List Value,aK xs its∧IsTup h a its.toArray
 | .dK kvs=> kvs.length≤sizeLine∧(a==sysModules)=false∧∃ vs,KV kvs vs∧h.DictOf (nM P w) a vs
 | .dT kvs=> kvs.length≤sizeLine∧(a==sysModules)=false∧∃ xs:List (List Key×Addr×Value),
   Paired (fun (p:List Key×V) (q:List Key×Addr×Value)=> p.1=q.1∧H q.2.1=some (.tup (p.1.map kV))∧aU p.2 q.2.2) kvs xs∧
   ∃ o es ep,h.get? a=some o∧o.ExactDict∧o.data=.dict es ep∧es.toList=xs.map (entryOfKey (tupleKind (nM P w)))∧(xs.map (·.1)).Nodup
 | .set S n=> h.SetOf (intKind P w) a S n
 | .ins C dx fs=> H dx=some (.own a)∧fs.length≤1000∧dx≠a∧h.get? a=some (PySem.W.instObj C dx)∧
   ∃ mA,h.Ns1 dx mA∧(∀ f,vQ (fs.lookup f) (mA f))∧PySem.Within mA (fs.map (·.1))
 | .own _=> ∃ o,h.get? a=some o
 | .xd fs=> ∃ mA,h.Ns1 a mA∧∀ f,vQ (fs.lookup f) (mA f)
 | .rng lo hi=> ∃ t u v,h.get? a=some { cls:=.type "range",data:=.fields #[.int lo t,.int hi u,.int 1 v] }
 | .frz o u=> h.get? a=some o∧bR H h a u
 | .tbl ps=> h.get? a=some { cls:=.none,data:=.fields ps }
 | .met f x=> h.get? a=some (PySem.W.methodObj (.ref f) (.ref x))
 | .ext φ=> φ h∧(∃ o,h.get? a=some o)∧∀ h1 h2:Heap,φ h1→(∀ o,h1.get? a=some o→h2.get? a=some o)→φ h2
def HOk (H:Hp) (h:Heap):Prop:=∀ a o,H a=some o→bR P w H h a o
end
section
variable {P:Program} {w:World} {H H':Hp} {h h':Heap} {a:Addr} {o:HO}
theorem bR.lt (x:bR P w H h a o):a < h.objs.size:=by
 cases o with
 | lst xs=> obtain ⟨_,_,_,_,e⟩:=x; exact Heap.lt_size e
 | tup xs=> obtain ⟨_,_,_,p⟩:=x; exact p.lt
 | dK kvs=> obtain ⟨_,_,_,_,o,_,_,e,_⟩:=x; exact Heap.lt_size e
 | dT kvs=> obtain ⟨_,_,_,_,o,_,_,e,_⟩:=x; exact Heap.lt_size e
 | set S n=> obtain ⟨o,_,_,_,e,_⟩:=x; exact Heap.lt_size e
 | ins C dx fs=> obtain ⟨_,_,_,e,_⟩:=x; exact Heap.lt_size e
 | own y=> obtain ⟨_,e⟩:=x; exact Heap.lt_size e
 | xd fs=> obtain ⟨_,⟨_,_,_,e,_⟩,_⟩:=x; exact Heap.lt_size e
 | rng lo hi=> obtain ⟨_,_,_,e⟩:=x; exact Heap.lt_size e
 | frz ob u=> obtain ⟨e,_⟩:=x; exact Heap.lt_size e
 | tbl ps=> exact Heap.lt_size (show h.get? a=some _ from x)
 | met f y=> exact Heap.lt_size (show h.get? a=some _ from x)
 | ext φ=> obtain ⟨_,⟨_,e⟩,_⟩:=x; exact Heap.lt_size e
theorem Paired.mapP {α β:Type} {F G:α→β→Prop}:∀ {l₁:List α} {l₂:List β},Paired F l₁ l₂→(∀ a b,F a b→G a b)→Paired G l₁ l₂
 | _,_,.nil,_=> .nil
 | _,_,.cons r t,f=> .cons (f _ _ r) (Paired.mapP t f)
theorem bR.stay (x:bR P w H h a o) (k:∀ b u,(b=a∨H b=some (.own a))→h.get? b=some u→h'.get? b=some u)
  (ho:∀ b,H b=some (.own a)→H' b=some (.own a)) (ht:∀ b xs,H b=some (.tup xs)→H' b=some (.tup xs)):bR P w H' h' a o:=by
 induction o with
 | lst xs=> obtain ⟨z,its,n,r,e⟩:=x; exact ⟨z,its,n,r,k _ _ (.inl rfl) e⟩
 | tup xs=> obtain ⟨z,its,r,ob,e,c⟩:=x; exact ⟨z,its,r,ob,k _ _ (.inl rfl) e,c⟩
 | dK kvs=> obtain ⟨z,y,vs,r,ob,es,ep,e,c⟩:=x; exact ⟨z,y,vs,r,ob,es,ep,k _ _ (.inl rfl) e,c⟩
 | dT kvs=>
  obtain ⟨z,y,xs,r,ob,es,ep,e,c⟩:=x
  exact ⟨z,y,xs,Paired.mapP r fun p q z=> ⟨z.1,ht _ _ z.2.1,z.2.2⟩,ob,es,ep,k _ _ (.inl rfl) e,c⟩
 | set S n=> obtain ⟨ob,es,ep,t,e,c⟩:=x; exact ⟨ob,es,ep,t,k _ _ (.inl rfl) e,c⟩
 | ins C dx fs=>
  obtain ⟨d,z,ne,e,mA,⟨od,es,ep,e2,c⟩,r⟩:=x
  exact ⟨ho _ d,z,ne,k _ _ (.inl rfl) e,mA,⟨od,es,ep,k _ _ (.inr d) e2,c⟩,r⟩
 | own y=> obtain ⟨ob,e⟩:=x; exact ⟨ob,k _ _ (.inl rfl) e⟩
 | xd fs=> obtain ⟨mA,⟨od,es,ep,e,c⟩,r⟩:=x; exact ⟨mA,⟨od,es,ep,k _ _ (.inl rfl) e,c⟩,r⟩
 | rng lo hi=> obtain ⟨t,u,v,e⟩:=x; exact ⟨t,u,v,k _ _ (.inl rfl) e⟩
 | frz ob u ih=> obtain ⟨e,q⟩:=x; exact ⟨k _ _ (.inl rfl) e,ih q⟩
 | tbl ps=>
  have e:h.get? a=some { cls:=.none,data:=.fields ps }:=x
  show h'.get? a=some { cls:=.none,data:=.fields ps }
  exact k a _ (.inl rfl) e
 | met f y=>
  have e:h.get? a=some (PySem.W.methodObj (.ref f) (.ref y)):=x
  show h'.get? a=some (PySem.W.methodObj (.ref f) (.ref y))
  exact k a _ (.inl rfl) e
 | ext φ=> obtain ⟨p,⟨o,e⟩,st⟩:=x; exact ⟨st _ _ p fun o q=> k _ _ (.inl rfl) q,⟨o,k _ _ (.inl rfl) e⟩,st⟩
theorem HOk.lt (x:HOk P w H h) (e:H a=some o):a < h.objs.size:=(x a o e).lt
theorem HOk.fresh (x:HOk P w H h) (e:h.objs.size≤a):H a=none:=by
 cases q:H a with
 | none=> rfl
 | some u=> exact absurd (Nat.lt_of_lt_of_le (x.lt q) e) (Nat.lt_irrefl _)
theorem HOk.kept (x:HOk P w H h) (k:∀ b u,h.get? b=some u→h'.get? b=some u):HOk P w H h':=fun a o e=>
 (x a o e).stay (fun b u _ q=> k b u q) (fun _ q=> q) fun _ _ q=> q
theorem HOk.laid (x:HOk P w H h) (k:∀ b u,h.get? b=some u→h'.get? b=some u) (hp:h.objs.size≤a) (new:bR P w (upd H a o) h' a o):HOk P w (upd H a o) h':=fun b u e=> by
 have hn:=x.fresh hp
 by_cases hb:b=a
 ·subst hb; rw [aT] at e; cases e; exact new
 ·rw [aL hb] at e
  exact (x b u e).stay (fun c v _ q=> k c v q) (fun c q=> by rw [aL (bq q hn)]; exact q) fun c xs q=> by rw [aL (bq q hn)]; exact q
end
def Rd (H:Hp) (a:Addr) (u:HO):Prop:=H a=some u∨∃ o,H a=some (.frz o u)
theorem Rd.ok {P:Program} {w:World} {H:Hp} {h:Heap} {a:Addr} {u:HO} (r:Rd H a u) (x:HOk P w H h):bR P w H h a u:=by
 rcases r with r | ⟨o,r⟩
 ·exact x a u r
 ·obtain ⟨_,q⟩:=x a _ r
  exact q
def Mut:Option HO→Prop
 | some (.lst _)=> True
 | some (.dK _)=> True
 | some (.dT _)=> True
 | some (.set _ _)=> True
 | some (.ins _ _ _)=> True
 | some (.ext _)=> True
 | _=> False
section
variable {P:Program} {w:World} {H:Hp} {h h':Heap} {x e:Addr} {o':HO}
theorem HOk.write (ok:HOk P w H h) (mu:Mut (H x)) (he:e=x∨H e=some (.own x)) (k:∀ b u,b≠e→h.get? b=some u→h'.get? b=some u) (heo:∃ u,h'.get? e=some u)
  (new:bR P w (upd H x o') h' x o'):HOk P w (upd H x o') h':=fun b u q=> by
 have nown:∀ c y,H c=some (.own y)→c≠x:=fun c y r z=> by subst z; rw [r] at mu; exact mu
 have ntup:∀ c xs,H c=some (.tup xs)→c≠x:=fun c xs r z=> by subst z; rw [r] at mu; exact mu
 by_cases hb:b=x
 ·subst hb; rw [aT] at q; cases q; exact new
 ·rw [aL hb] at q
  by_cases hbe:b=e
  ·have q':H b=some (.own x):=by
    rcases he with z | z
    ·exact absurd (hbe.trans z) hb
    ·rw [hbe]; exact z
   rw [q] at q'; cases q'
   obtain ⟨v,hv⟩:=heo
   exact ⟨v,by rw [hbe]; exact hv⟩
  ·refine (ok b u q).stay (fun c v hc r=> k c v ?_ r) (fun c r=> by rw [aL (nown c b r)]; exact r) fun c xs r=> by rw [aL (ntup c xs r)]; exact r
   rcases hc with rfl | hc
   ·exact hbe
   ·rintro rfl
    rcases he with z | z
    ·exact nown c b hc z
    ·rw [hc] at z; cases z; exact hb rfl
end
structure Un (fs ex:List Addr) (H H':Hp) (h h':Heap):Prop where
 keep:∀ b o,h.get? b=some o→H b=none→b ∉ fs→b ∉ ex→h'.get? b=some o
 slot:∀ b o,h.get? b=some o→H b=none→b∈fs→b ∉ ex→∃ sl,h'.get? b=some { o with slots:=sl }
 free:∀ b o,h.get? b=some o→H b=none→b ∉ ex→H' b=none
 there:∀ b o,h.get? b=some o→b ∉ ex→∃ o',h'.get? b=some o'
 tups:∀ b xs,H b=some (.tup xs)→H' b=some (.tup xs)
 frzs:∀ b o u,H b=some (.frz o u)→H' b=some (.frz o u)
 tbls:∀ b ps,H b=some (.tbl ps)→∃ more,H' b=some (.tbl (ps++more))
section
variable {fs fs' ex ex':List Addr} {H H1 H2:Hp} {h h1 h2 h':Heap} {a x e:Addr} {o:HO}
theorem Un.any (u:Un fs ex H H1 h h1) {b:Addr} {ob:Obj} (q:h.get? b=some ob) (n:H b=none) (hx:b ∉ ex):∃ sl,h1.get? b=some { ob with slots:=sl }:=by
 by_cases hb:b∈fs
 ·exact u.slot b ob q n hb hx
 ·exact ⟨ob.slots,u.keep b ob q n hb hx⟩
theorem Un.kept (k:∀ b u,h.get? b=some u→h'.get? b=some u):Un fs ex H H h h':=
 ⟨fun b ob q _ _ _=> k b ob q,fun b ob q _ _ _=> ⟨ob.slots,k b ob q⟩,fun _ _ _ n _=> n,fun b ob q _=> ⟨ob,k b ob q⟩,fun _ _ q=> q,fun _ _ _ q=> q,fun _ ps q=> ⟨#[],by rw [q]; simp⟩⟩
theorem Un.refl:Un fs ex H H h h:=Un.kept fun _ _ q=> q
theorem Un.laid (k:∀ b u,h.get? b=some u→h'.get? b=some u) (hp:h.objs.size≤a) (hn:H a=none):Un fs ex H (upd H a o) h h' where
 keep:=fun b u q _ _ _=> k b u q
 slot:=fun b u q _ _ _=> ⟨u.slots,k b u q⟩
 free:=fun b u q n _=> by rw [aL (Nat.ne_of_lt (Nat.lt_of_lt_of_le (Heap.lt_size q) hp))]; exact n
 there:=fun b u q _=> ⟨u,k b u q⟩
 tups:=fun b xs q=> by rw [aL (bq q hn)]; exact q
 frzs:=fun b u xs q=> by rw [aL (bq q hn)]; exact q
 tbls:=fun b ps q=> ⟨#[],by rw [aL (bq q hn),q]; simp⟩
theorem Un.write (mu:Mut (H x)) (he:e=x∨H e=some (.own x)) (k:∀ b u,b≠e→h.get? b=some u→h'.get? b=some u) (heo:∃ u,h'.get? e=some u):Un fs ex H (upd H x o) h h':=by
 have hx:∀ b,H b=none→b≠x:=fun b n z=> by subst z; rw [n] at mu; exact mu
 have hb:∀ b,H b=none→b≠e:=fun b n z=> by
  subst z
  rcases he with r | r
  ·exact hx b n r
  ·rw [n] at r; cases r
 have hm:∀ b u,H b=some u→¬ Mut (some u)→b≠x:=fun b u q nm z=> by subst z; rw [q] at mu; exact nm mu
 refine ⟨fun b u q n _ _=> k b u (hb b n) q,fun b u q n _ _=> ⟨u.slots,k b u (hb b n) q⟩,fun b u q n _=> by rw [aL (hx b n)]; exact n,fun b u q _=> ?_,
  fun b xs q=> by rw [aL (hm b _ q fun z=> z)]; exact q,fun b u xs q=> by rw [aL (hm b _ q fun z=> z)]; exact q,fun b ps q=> ⟨#[],by rw [aL (hm b _ q fun z=> z),q]; simp⟩⟩
 by_cases hbe:b=e
 ·subst hbe; exact heo
 ·exact ⟨u,k b u hbe q⟩
end
def trk (h:Heap) (H:Hp):List Addr:=(List.range h.objs.size).filter fun a=> (H a).isSome
def jN (h:Heap) (H:Hp):Heap:=PySem.W.hideAll h (trk h H)
theorem om (h:Heap) (H:Hp):(jN h H).objs.size=h.objs.size:=PySem.W.hideAll_size _ _
theorem qm {h:Heap} {H:Hp} {b:Addr} {o:Obj} (e:h.get? b=some o) (n:H b=none):(jN h H).get? b=some o:=
 PySem.W.hideAll_get _ e fun hm=> by
  have q:(H b).isSome=true:=(List.mem_filter.mp hm).2
  rw [n] at q; simp at q
theorem sK {h:Heap} {H:Hp} {b:Addr} {o:Obj} (e:(jN h H).get? b=some o):h.get? b=some o∧H b=none:=by
 have e':h.get? b=some o:=PySem.W.of_hideAll (trk h H) e
 refine ⟨e',?_⟩
 cases q:H b with
 | none=> rfl
 | some x=>
  have hm:b∈trk h H:=List.mem_filter.mpr ⟨List.mem_range.mpr (Heap.lt_size e'),by simp [q]⟩
  have z:(jN h H).get? b=none:=PySem.W.hideAll_none (trk h H) hm
  rw [z] at e; cases e
def sT (g h:Heap) (L:Addr):List (Addr×Obj):=(List.range h.objs.size).filterMap fun a=> if a=L∨(g.get? a).isSome=true then none else (h.get? a).map fun o=> (a,o)
def rest (g h:Heap) (L d:Addr):List (Addr×Obj):=(sT g h L).filter fun p=> decide (p.1≠d)
end L2
namespace L2
open PySem PySem.Spec PyProof.Rows
structure Mod (K:PySem.W.Frag) (mg:Str→Option Value) (base:Heap):Prop where
 kin:K.In base
 glob:base.Ns mainGlobals mg
 blt:∃ mb,base.Ns builtinsNs mb∧∀ x:Str,x≠"__name__"→mb x=bootBuiltins x
 nolimit:base.NoLimit
structure Cx where
 prog:Program
 w:World
 K:PySem.W.Frag
 mg:Str→Option Value
 base:Heap
 A:Around
 N:List Str
 s₀:Shared
 H₀:Hp
 env:Env
 outer:List Env
 stack:List Env
 ex:List Addr
 fn:Str→Bool
 calm:Bool
 pn:List (Addr×Obj)
 xe:Value→Shared→Prop
def frs (l:List Env):List Addr:=l.filterMap (·.frame)
abbrev Cx.fs (X:Cx):List Addr:=frs X.outer
def Vis (sc:Scope) (x:Str):Prop:=sc.names.lookup x=some .local∨sc.names.lookup x=some .cell∨sc.names.lookup x=some .free
def Loc (sc:Scope) (x:Str):Prop:=sc.names.lookup x=some .local∨sc.names.lookup x=some .cell
def xF (env:Env) (h:Heap) (m:Str→Option Value) (x:Str) (u:Value):Prop:=
 (env.kindOf x=some .local∧m x=some u)∨((env.kindOf x=some .cell∨env.kindOf x=some .free)∧∃ c,env.cells.lookup x=some c∧h.IsCell c (some u))
structure Cx.Ok (X:Cx):Prop where
 mod:Mod X.K X.mg X.base
 kind:X.env.scope.kind=.function
 glob:X.env.globals=mainGlobals
 blt:X.env.builtins=builtinsNs
 above:X.s₀.heap.objs.size≤X.env.locals
 inj:∀ x y c,X.env.cells.lookup x=some c→X.env.cells.lookup y=some c→x=y
 has:∀ x,(X.env.kindOf x=some .cell∨X.env.kindOf x=some .free)→∃ c,X.env.cells.lookup x=some c
 cab:∀ x c,X.fn x=true→X.env.cells.lookup x=some c→X.s₀.heap.objs.size≤c
 hd:X.calm=true→X.A.handled=none
 frames:X.A.frames=some X.stack
 stk:X.stack=X.outer∨(X.stack=X.env::X.outer∧X.env.frame=some X.env.locals)
 exf:∀ b∈X.ex,b≠X.env.locals∧∀ x c,X.env.cells.lookup x=some c→c≠b
 bs:∀ b o,X.base.get? b=some o→X.s₀.heap.get? b=some o∧X.H₀ b=none
 bsz:X.base.objs.size≤X.s₀.heap.objs.size
 noex:∀ b o,X.base.get? b=some o→b ∉ X.ex
 exfs:∀ b∈X.ex,b ∉ X.fs
 funs:X.s₀.heap.FunFrames X.base X.outer
 frf:∀ b∈X.fs,X.H₀ b=none
structure Inv (X:Cx) (pins:List (Addr×Obj)) (σ:List (Option V)) (H:Hp) (s:Shared):Prop where
 ok:X.Ok
 os:s.os=X.s₀.os
 bare:AllBare s.gens
 base:Un X.fs X.ex X.H₀ H X.s₀.heap s.heap
 loc:∃ m,s.heap.Ns X.env.locals m∧∀ (i:Nat) (x:Str) (v:V),X.N[i]?=some x→σ[i]?=some (some v)→Vis X.env.scope x→∃ u,aU v u∧xF X.env s.heap m x u
 cell:∀ x c,X.env.cells.lookup x=some c→∃ v,s.heap.IsCell c v
 free:H X.env.locals=none
 freeC:∀ x c,X.env.cells.lookup x=some c→H c=none
 pin:∀ p∈X.pn++pins,s.heap.get? p.1=some p.2∧H p.1=none∧p.1≠X.env.locals∧p.1 ∉ X.fs∧∀ v,p.2.data≠.cell v
 hok:HOk X.prog X.w H s.heap
 len:σ.length=X.N.length
section
variable {X:Cx} {pins:List (Addr×Obj)} {σ:List (Option V)} {H H':Hp} {s:Shared} {h':Heap}
theorem Cx.Ok.nofr (ok:X.Ok) {b:Addr} {o:Obj} (e:X.base.get? b=some o):b ∉ X.fs:=fun hb=> by
 have:=(ok.funs.mem hb).1
 rw [e] at this; cases this
theorem Inv.bs (I:Inv X pins σ H s):∀ b o,X.base.get? b=some o→s.heap.get? b=some o∧H b=none:=fun b o e=>
 ⟨I.base.keep b o (I.ok.bs b o e).1 (I.ok.bs b o e).2 (I.ok.nofr e) (I.ok.noex b o e),I.base.free b o (I.ok.bs b o e).1 (I.ok.bs b o e).2 (I.ok.noex b o e)⟩
theorem Inv.bk (I:Inv X pins σ H s):∀ b o,X.base.get? b=some o→s.heap.get? b=some o:=fun b o e=> (I.bs b o e).1
theorem Inv.mod (I:Inv X pins σ H s):Mod X.K X.mg X.base:=I.ok.mod
theorem Inv.kIn (I:Inv X pins σ H s):X.K.In s.heap:=I.ok.mod.kin.keeps I.bk
theorem Inv.lt (I:Inv X pins σ H s):X.env.locals < s.heap.objs.size:=let ⟨_,hn,_⟩:=I.loc; hn.lt
theorem Inv.sz (I:Inv X pins σ H s):X.s₀.heap.objs.size≤s.heap.objs.size:=Nat.le_trans I.ok.above (Nat.le_of_lt I.lt)
theorem Inv.nofs (I:Inv X pins σ H s) {a:Addr} (h:s.heap.objs.size≤a):a ∉ X.fs:=fun hb=> by
 obtain ⟨_,o,ho,_⟩:=I.ok.funs.mem hb
 exact absurd (Nat.lt_of_lt_of_le (Heap.lt_size ho) (Nat.le_trans I.sz h)) (Nat.lt_irrefl _)
theorem Inv.cne (I:Inv X pins σ H s):∀ x c,X.env.cells.lookup x=some c→c≠X.env.locals:=fun x c e z=> by
 obtain ⟨v,o,ho,hd⟩:=I.cell x c e
 obtain ⟨m,⟨o',es,ep,ho',hd',_⟩,_⟩:=I.loc
 rw [z,ho'] at ho; cases ho; rw [hd'] at hd; cases hd
theorem Inv.funs (I:Inv X pins σ H s):s.heap.FunFrames X.base X.outer:=by
 have all:∀ (l:List Env),(∀ b∈frs l,b∈X.fs)→X.s₀.heap.FunFrames X.base l→s.heap.FunFrames X.base l:=by
  intro l
  induction l with
  | nil=> intro _ _; trivial
  | cons env r ih=>
   intro hs hl
   obtain ⟨hk,⟨L,o,hf,hn,ho,hd⟩,hr⟩:=hl
   have hL:L∈X.fs:=hs L (by unfold frs; rw [List.filterMap_cons,hf]; exact List.mem_cons_self)
   obtain ⟨sl,e⟩:=I.base.slot L o ho (I.ok.frf L hL) hL fun z=> I.ok.exfs L z hL
   exact ⟨hk,⟨L,_,hf,hn,e,hd⟩,ih (fun b hb=> hs b (by unfold frs; rw [List.filterMap_cons,hf]; exact List.mem_cons_of_mem _ hb)) hr⟩
 exact all X.outer (fun _ hb=> hb) I.ok.funs
theorem Inv.stack (I:Inv X pins σ H s):s.heap.FunFrames X.base X.stack:=by
 rcases I.ok.stk with e | ⟨e,hf⟩
 ·rw [e]; exact I.funs
 ·rw [e]
  obtain ⟨m,hn,_⟩:=I.loc
  refine .cons (by rw [I.ok.kind]; decide) hf hn ?_ I.funs
  exact Heap.get?_none_of_le (Nat.le_trans I.ok.bsz I.ok.above)
theorem Inv.stkSub (I:Inv X pins σ H s):∀ b∈frs X.stack,b∈X.env.locals::X.fs:=fun b hb=> by
 rcases I.ok.stk with e | ⟨e,hf⟩
 ·rw [e] at hb; exact List.mem_cons_of_mem _ hb
 ·rw [e] at hb
  unfold frs at hb
  rw [List.filterMap_cons,hf] at hb
  exact hb
theorem Inv.stkFree (I:Inv X pins σ H s):∀ b∈frs X.stack,H b=none:=fun b hb=> by
 rcases List.mem_cons.mp (I.stkSub b hb) with e | hb
 ·rw [e]; exact I.free
 ·obtain ⟨_,o,ho,_⟩:=I.ok.funs.mem hb
  exact I.base.free b o ho (I.ok.frf b hb) fun z=> I.ok.exfs b z hb
theorem Inv.step {g':Array GenState} {t':Nat} {d':Drawn} {ch:List Addr} (I:Inv X pins σ H s)
  (hch:∀ b∈ch,(b∈X.ex∨X.s₀.heap.objs.size≤b)∧b≠X.env.locals∧(∀ x c,X.env.cells.lookup x=some c→c≠b)∧∀ p∈X.pn++pins,p.1≠b)
  (keep:∀ b o,b≠X.env.locals→b ∉ X.fs→b ∉ ch→s.heap.get? b=some o→H b=none→h'.get? b=some o)
  (slot:∀ b o,b≠X.env.locals→b∈X.fs→b ∉ ch→s.heap.get? b=some o→H b=none→∃ sl,h'.get? b=some { o with slots:=sl }) (free:∀ b o,b ∉ ch→s.heap.get? b=some o→H b=none→H' b=none)
  (there:∀ b o,b ∉ ch→s.heap.get? b=some o→∃ o',h'.get? b=some o')
  (tups:∀ b xs,H b=some (.tup xs)→H' b=some (.tup xs)) (frzs:∀ b o u,H b=some (.frz o u)→H' b=some (.frz o u)) (tbls:∀ b ps,H b=some (.tbl ps)→∃ more,H' b=some (.tbl (ps++more)))
  (ns:∀ m,s.heap.Ns X.env.locals m→h'.Ns X.env.locals m) (hok:HOk X.prog X.w H' h') (hg:AllBare g'):
  Inv X pins σ H' { s with heap:=h',gens:=g',drawn:=d',toks:=t' }:=by
 have neL:∀ b o,X.s₀.heap.get? b=some o→b≠X.env.locals:=fun b o e=> Nat.ne_of_lt (Nat.lt_of_lt_of_le (Heap.lt_size e) I.ok.above)
 have neC:∀ b o,X.s₀.heap.get? b=some o→b ∉ X.ex→b ∉ ch:=fun b o e hx hb=> by
  rcases (hch b hb).1 with z | z
  ·exact hx z
  ·exact absurd (Nat.lt_of_lt_of_le (Heap.lt_size e) z) (Nat.lt_irrefl _)
 have cellK:∀ x c,X.env.cells.lookup x=some c→∀ v,s.heap.IsCell c v→h'.IsCell c v:=fun x c e v ⟨o,ho,hd⟩=> by
  have nch:c ∉ ch:=fun z=> (hch c z).2.2.1 x c e rfl
  by_cases hc:c∈X.fs
  ·obtain ⟨sl,q⟩:=slot c o (I.cne x c e) hc nch ho (I.freeC x c e)
   exact ⟨_,q,hd⟩
  ·exact ⟨o,keep c o (I.cne x c e) hc nch ho (I.freeC x c e),hd⟩
 refine ⟨I.ok,I.os,hg,⟨fun b o e n hb hx=> ?_,fun b o e n hb hx=> ?_,fun b o e n hx=> ?_,fun b o e hx=> ?_,fun b xs e=> tups b xs (I.base.tups b xs e),fun b o xs e=> frzs b o xs (I.base.frzs b o xs e),fun b ps e=> ?_⟩,?_,fun x c e=> ?_,?_,fun x c e=> ?_,fun p hp=> ?_,hok,I.len⟩
 ·exact keep b o (neL b o e) hb (neC b o e hx) (I.base.keep b o e n hb hx) (I.base.free b o e n hx)
 ·obtain ⟨sl,e1⟩:=I.base.slot b o e n hb hx
  obtain ⟨sl',e2⟩:=slot b _ (neL b o e) hb (neC b o e hx) e1 (I.base.free b o e n hx)
  exact ⟨sl',e2⟩
 ·obtain ⟨o',e1⟩:=I.base.there b o e hx
  exact free b o' (neC b o e hx) e1 (I.base.free b o e n hx)
 ·obtain ⟨o',e1⟩:=I.base.there b o e hx
  exact there b o' (neC b o e hx) e1
 ·obtain ⟨m1,e1⟩:=I.base.tbls b ps e
  obtain ⟨m2,e2⟩:=tbls b _ e1
  exact ⟨m1++m2,by rw [e2,Array.append_assoc]⟩
 ·obtain ⟨m,hn,hl⟩:=I.loc
  refine ⟨m,ns m hn,fun i x v e1 e2 e3=> ?_⟩
  obtain ⟨u,r,l⟩:=hl i x v e1 e2 e3
  refine ⟨u,r,?_⟩
  rcases l with l | ⟨k,c,e,z⟩
  ·exact .inl l
  ·exact .inr ⟨k,c,e,cellK x c e _ z⟩
 ·obtain ⟨v,z⟩:=I.cell x c e
  exact ⟨v,cellK x c e v z⟩
 ·obtain ⟨m,⟨o,_,_,ho,_⟩,_⟩:=I.loc
  exact free _ o (fun z=> (hch _ z).2.1 rfl) ho I.free
 ·obtain ⟨v,o,ho,hd⟩:=I.cell x c e
  exact free c o (fun z=> (hch c z).2.2.1 x c e rfl) ho (I.freeC x c e)
 ·obtain ⟨e,n,ne,nf,d⟩:=I.pin p hp
  have nch:p.1 ∉ ch:=fun z=> (hch p.1 z).2.2.2 p hp rfl
  exact ⟨keep p.1 p.2 ne nf nch e n,free p.1 p.2 nch e n,ne,nf,d⟩
theorem Inv.un {t':Nat} (I:Inv X pins σ H s) (u:Un X.fs [] H H' s.heap h') (hok:HOk X.prog X.w H' h'):Inv X pins σ H' { s with heap:=h',toks:=t' }:=by
 obtain ⟨m,⟨o,es,ep,ho,r⟩,_⟩:=id I.loc
 obtain ⟨sl,hL⟩:=u.any ho I.free (by simp)
 exact I.step (g':=s.gens) (d':=s.drawn) (ch:=[]) (fun _ z=> nomatch z) (fun b o _ hb _ e n=> u.keep b o e n hb (by simp)) (fun b o _ hb _ e n=> u.slot b o e n hb (by simp)) (fun b o _ e n=> u.free b o e n (by simp)) (fun b o _ e=> u.there b o e (by simp)) u.tups u.frzs u.tbls (fun m' hm=> by
  obtain ⟨o',es',ep',ho',r'⟩:=hm
  rw [ho] at ho'; cases ho'
  exact ⟨_,es',ep',hL,r'⟩) hok I.bare
theorem Inv.call {g':Array GenState} {t':Nat} {d':Drawn} {ch:List Addr} (I:Inv X pins σ H s) (u:Un (frs X.stack) ch H H' s.heap h') (hok:HOk X.prog X.w H' h') (hg:AllBare g')
  (hch:∀ b∈ch,(b∈X.ex∨X.s₀.heap.objs.size≤b)∧b≠X.env.locals∧(∀ x c,X.env.cells.lookup x=some c→c≠b)∧∀ p∈X.pn++pins,p.1≠b):
  Inv X pins σ H' { s with heap:=h',gens:=g',drawn:=d',toks:=t' }:=by
 obtain ⟨m,⟨o,es,ep,ho,r⟩,_⟩:=id I.loc
 obtain ⟨sl,hL⟩:=u.any ho I.free fun z=> (hch _ z).2.1 rfl
 exact I.step (ch:=ch) hch (fun b o hL hb hc e n=> u.keep b o e n (fun z=> (List.mem_cons.mp (I.stkSub b z)).elim hL hb) hc) (fun b o _ _ hc e n=> u.any e n hc) (fun b o hc e n=> u.free b o e n hc) (fun b o hc e=> u.there b o e hc) u.tups u.frzs u.tbls (fun m' hm=> by
  obtain ⟨o',es',ep',ho',r'⟩:=hm
  rw [ho] at ho'; cases ho'
  exact ⟨_,es',ep',hL,r'⟩) hok hg
theorem Inv.turned {t':Nat} {it:Addr} (I:Inv X pins σ H s) (k:∀ b o,b≠it→s.heap.get? b=some o→h'.get? b=some o) (hn:H it=none) (hL:it≠X.env.locals)
  (h1:it∈X.ex∨X.s₀.heap.objs.size≤it) (h2:∀ x c,X.env.cells.lookup x=some c→c≠it) (h3:∀ p∈X.pn++pins,p.1≠it):Inv X pins σ H { s with heap:=h',toks:=t' }:=by
 have nit:∀ b u,H b=some u→b≠it:=fun b u e z=> by rw [z,hn] at e; cases e
 refine I.step (g':=s.gens) (d':=s.drawn) (ch:=[it]) (fun b hb=> ?_) (fun b o _ _ hc e _=> k b o (fun z=> hc (by simp [z])) e) (fun b o _ _ hc e _=> ⟨o.slots,k b o (fun z=> hc (by simp [z])) e⟩) (fun _ _ _ _ n=> n)
  (fun b o hc e=> ⟨o,k b o (fun z=> hc (by simp [z])) e⟩) (fun _ _ e=> e) (fun _ _ _ e=> e) (fun b ps e=> ⟨#[],by rw [e]; simp⟩) (fun m hm=> ?_) (fun b u e=> ?_) I.bare
 ·have e:b=it:=by simpa using hb
  subst e
  exact ⟨h1,hL,h2,h3⟩
 ·obtain ⟨o,es,ep,ho,r⟩:=hm
  exact ⟨o,es,ep,k _ o (Ne.symm hL) ho,r⟩
 ·refine (I.hok b u e).stay (fun c v hc q=> k c v ?_ q) (fun _ q=> q) fun _ _ q=> q
  rcases hc with z | z
  ·rw [z]; exact nit b u e
  ·exact nit c _ z
theorem Inv.tok (I:Inv X pins σ H s) (t:Nat):Inv X pins σ H { s with toks:=t }:=I.un (h':=s.heap) (t':=t) Un.refl I.hok
theorem Inv.kept {t':Nat} (I:Inv X pins σ H s) (k:∀ b u,s.heap.get? b=some u→h'.get? b=some u):Inv X pins σ H { s with heap:=h',toks:=t' }:=I.un (Un.kept k) (I.hok.kept k)
theorem Inv.laid {a:Addr} {o:HO} {t':Nat} (I:Inv X pins σ H s) (k:∀ b u,s.heap.get? b=some u→h'.get? b=some u) (hp:s.heap.objs.size≤a) (new:bR X.prog X.w (upd H a o) h' a o):
  Inv X pins σ (upd H a o) { s with heap:=h',toks:=t' }:=I.un (Un.laid k hp (I.hok.fresh hp)) (I.hok.laid k hp new)
theorem Inv.write {x e:Addr} {o:HO} {t':Nat} (I:Inv X pins σ H s) (mu:Mut (H x)) (he:e=x∨H e=some (.own x)) (k:∀ b u,b≠e→s.heap.get? b=some u→h'.get? b=some u) (heo:∃ u,h'.get? e=some u)
  (new:bR X.prog X.w (upd H x o) h' x o):Inv X pins σ (upd H x o) { s with heap:=h',toks:=t' }:=I.un (Un.write mu he k heo) (I.hok.write mu he k heo new)
theorem Inv.weak {σ':List (Option V)} (I:Inv X pins σ H s) (hl:σ'.length=σ.length) (w:∀ (i:Nat) v,σ'[i]?=some (some v)→σ[i]?=some (some v)):Inv X pins σ' H s:=
 ⟨I.ok,I.os,I.bare,I.base,let ⟨m,hn,hl'⟩:=I.loc; ⟨m,hn,fun i x v e1 e2 e3=> hl' i x v e1 (w i v e2) e3⟩,I.cell,I.free,I.freeC,I.pin,I.hok,hl.trans I.len⟩
theorem Inv.pins_of {pins':List (Addr×Obj)} (I:Inv X pins σ H s) (h:∀ p∈pins',s.heap.get? p.1=some p.2∧H p.1=none∧p.1≠X.env.locals∧p.1 ∉ X.fs∧∀ v,p.2.data≠.cell v):Inv X pins' σ H s:=
 ⟨I.ok,I.os,I.bare,I.base,I.loc,I.cell,I.free,I.freeC,fun p hp=> (List.mem_append.mp hp).elim (fun z=> I.pin p (List.mem_append_left _ z)) (h p),I.hok,I.len⟩
theorem g_ {N:List Str} (hN:N.Nodup) {i j:Nat} {x:Str} (a:N[i]?=some x) (b:N[j]?=some x):i=j:=by
 obtain ⟨h1,e1⟩:=List.getElem?_eq_some_iff.mp a
 obtain ⟨h2,e2⟩:=List.getElem?_eq_some_iff.mp b
 exact (List.getElem_inj hN).mp (e1.trans e2.symm)
theorem f_ {M:Model} {A:Around} {E:Value→Shared→Prop} {i:Nat} {x:Str} {v:V} {u:Value} {Q:Unit→Shared→Prop} (I:Inv X pins σ H s) (hN:X.N.Nodup) (hi:X.N[i]?=some x) (hx:Loc X.env.scope x) (r:aU v u)
  (h:∀ s',Inv X pins (σ.set i (some v)) H s'→(∃ a,Heap.SameBut a s.heap s'.heap∧(a=X.env.locals∨X.env.cells.lookup x=some a))→Q () s') (hf:X.fn x=true∨X.env.scope.names.lookup x=some .local:=by first | exact .inl rfl | exact .inr rfl | assumption):wpAny M A (storeName X.env x u) Q E s:=by
 obtain ⟨m,hn,hl⟩:=id I.loc
 have hcls:(X.env.scope.kind==.class || (X.env.scope.kind==.module && X.env.locals !=X.env.globals))=false:=by rw [I.ok.kind]; rfl
 have hiσ:i < σ.length:=by rw [I.len]; exact (List.getElem?_eq_some_iff.mp hi).1
 have cne:=I.cne
 have tracked:∀ {a:Addr} {h':Heap},(∃ o,s.heap.get? a=some o∧H a=none)→Heap.SameBut a s.heap h'→HOk X.prog X.w H h':=fun {a h'} ha hs b ob e=> by
  obtain ⟨_,_,hfree⟩:=ha
  refine (I.hok b ob e).stay (fun c w' hc q=> (hs.2 c ?_).trans q) (fun _ q=> q) fun _ _ q=> q
  rintro rfl
  rcases hc with rfl | hc
  ·rw [hfree] at e; cases e
  ·rw [hfree] at hc; cases hc
 rcases hx with hk | hk
 ·refine wpAny_storeName_local hk hn (fun h' hn' hs=> ?_) hcls
  obtain ⟨oL,_,_,hoL,_⟩:=id hn
  refine h _ ⟨I.ok,I.os,I.bare,⟨fun b o e n hb hx=> ?_,fun b o e n hb hx=> ?_,I.base.free,fun b o e hx=> ?_,I.base.tups,I.base.frzs,I.base.tbls⟩,⟨_,hn',fun j y v' e1 e2 e3=> ?_⟩,fun y c e=> ?_,I.free,I.freeC,fun p hp=> ?_,tracked ⟨oL,hoL,I.free⟩ hs,by simpa using I.len⟩ ⟨_,hs,.inl rfl⟩
  ·exact (hs.2 b (Nat.ne_of_lt (Nat.lt_of_lt_of_le (Heap.lt_size e) I.ok.above))).trans (I.base.keep b o e n hb hx)
  ·obtain ⟨sl,e1⟩:=I.base.slot b o e n hb hx
   exact ⟨sl,(hs.2 b (Nat.ne_of_lt (Nat.lt_of_lt_of_le (Heap.lt_size e) I.ok.above))).trans e1⟩
  ·obtain ⟨o',e1⟩:=I.base.there b o e hx
   exact ⟨o',(hs.2 b (Nat.ne_of_lt (Nat.lt_of_lt_of_le (Heap.lt_size e) I.ok.above))).trans e1⟩
  ·by_cases hj:j=i
   ·subst hj
    rw [hi] at e1; cases e1
    rw [List.getElem?_set_self hiσ] at e2
    cases e2
    exact ⟨u,r,.inl ⟨hk,by simp⟩⟩
   ·rw [List.getElem?_set_ne (Ne.symm hj)] at e2
    obtain ⟨u',r',q⟩:=hl j y v' e1 e2 e3
    refine ⟨u',r',?_⟩
    rcases q with ⟨k,e⟩ | ⟨k,c,e,z⟩
    ·refine .inl ⟨k,?_⟩
     have:y≠x:=fun e=> hj (g_ hN e1 (e ▸ hi))
     simp [this,e]
    ·exact .inr ⟨k,c,e,z.sameBut hs (cne y c e)⟩
  ·obtain ⟨w',z⟩:=I.cell y c e
   exact ⟨w',z.sameBut hs (cne y c e)⟩
  ·obtain ⟨e,n,ne,nf,d⟩:=I.pin p hp
   exact ⟨(hs.2 p.1 ne).trans e,n,ne,nf,d⟩
 ·have hfn:X.fn x=true:=by
   rcases hf with z | z
   ·exact z
   ·rw [z] at hk; cases hk
  obtain ⟨c,hc⟩:=I.ok.has x (.inl hk)
  obtain ⟨w',z⟩:=I.cell x c hc
  refine wpAny_storeName_cell I.ok.kind hk hc z (fun h' hc' hs=> ?_)
  obtain ⟨oc,hoc,hocd⟩:=id z
  refine h { s with heap:=h' } ⟨I.ok,I.os,I.bare,⟨fun b o e n hb hx=> ?_,fun b o e n hb hx=> ?_,I.base.free,fun b o e hx=> ?_,I.base.tups,I.base.frzs,I.base.tbls⟩,⟨m,hn.sameBut hs (Ne.symm (cne x c hc)),fun j y v' e1 e2 e3=> ?_⟩,fun y c' e=> ?_,I.free,I.freeC,fun p hp=> ?_,tracked ⟨oc,hoc,I.freeC x c hc⟩ hs,by simpa using I.len⟩ ⟨c,hs,.inr hc⟩
  ·exact (hs.2 b (Nat.ne_of_lt (Nat.lt_of_lt_of_le (Heap.lt_size e) (I.ok.cab x c hfn hc)))).trans (I.base.keep b o e n hb hx)
  ·obtain ⟨sl,e1⟩:=I.base.slot b o e n hb hx
   exact ⟨sl,(hs.2 b (Nat.ne_of_lt (Nat.lt_of_lt_of_le (Heap.lt_size e) (I.ok.cab x c hfn hc)))).trans e1⟩
  ·obtain ⟨o',e1⟩:=I.base.there b o e hx
   exact ⟨o',(hs.2 b (Nat.ne_of_lt (Nat.lt_of_lt_of_le (Heap.lt_size e) (I.ok.cab x c hfn hc)))).trans e1⟩
  ·by_cases hj:j=i
   ·subst hj
    rw [hi] at e1; cases e1
    rw [List.getElem?_set_self hiσ] at e2
    cases e2
    exact ⟨u,r,.inr ⟨.inl hk,c,hc,hc'⟩⟩
   ·rw [List.getElem?_set_ne (Ne.symm hj)] at e2
    obtain ⟨u',r',q⟩:=hl j y v' e1 e2 e3
    refine ⟨u',r',?_⟩
    rcases q with q | ⟨k,c',e,z'⟩
    ·exact .inl q
    ·refine .inr ⟨k,c',e,z'.sameBut hs ?_⟩
     rintro rfl
     exact hj (g_ hN e1 (I.ok.inj _ _ _ e hc ▸ hi))
  ·by_cases hcc:c'=c
   ·subst hcc; exact ⟨_,hc'⟩
   ·obtain ⟨w2,z2⟩:=I.cell y c' e
    exact ⟨w2,z2.sameBut hs hcc⟩
  ·obtain ⟨e,n,ne,nf,d⟩:=I.pin p hp
   refine ⟨(hs.2 p.1 ?_).trans e,n,ne,nf,d⟩
   intro q
   rw [q,hoc] at e
   have q':oc=p.2:=Option.some.inj e
   exact d w' (by rw [← q']; exact hocd)
theorem fE {M:Model} {A:Around} {E:Value→Shared→Prop} {i:Nat} {x:Str} {v:V} {u:Value} {Q:Unit→Shared→Prop} (I:Inv X pins σ H s) (hN:X.N.Nodup) (hi:X.N[i]?=some x) (hx:Loc X.env.scope x) (r:aU v u)
  (h:∀ s',Inv X pins (σ.set i (some v)) H s'→Q () s') (hf:X.fn x=true∨X.env.scope.names.lookup x=some .local:=by first | exact .inl rfl | exact .inr rfl | assumption):wpAny M A (storeName X.env x u) Q E s:=
 f_ I hN hi hx r (fun s' I' _=> h s' I') hf
theorem Inv.call' {s':Shared} {ch:List Addr} (I:Inv X pins σ H s) (ho:s'.os=s.os) (u:Un (frs X.stack) ch H H' s.heap s'.heap) (hok:HOk X.prog X.w H' s'.heap) (hg:AllBare s'.gens)
  (hch:∀ b∈ch,(b∈X.ex∨X.s₀.heap.objs.size≤b)∧b≠X.env.locals∧(∀ x c,X.env.cells.lookup x=some c→c≠b)∧∀ p∈X.pn++pins,p.1≠b):Inv X pins σ H' s':=by
 obtain ⟨h',g',d',t',o'⟩:=s'
 have e:o'=s.os:=ho
 subst e
 exact I.call (g':=g') (t':=t') (d':=d') u hok hg hch
end
abbrev XK:=Value→Option Addr→Hp→Prop
abbrev St:=List (Option V)
abbrev VK:=V→Hp→Prop
abbrev TE:=St→Hp→VK→Prop
abbrev TT:=St→Hp→(Bool→Hp→Prop)→Prop
abbrev TA:=St→Hp→(List V→Hp→Prop)→Prop
structure iH where
 nx:St→Hp→Prop
 rt:VK
 bk:St→Hp→Prop:=fun _ _=> False
 ct:St→Hp→Prop:=fun _ _=> False
abbrev TS:=iH→St→Hp→Prop
def EP (X:Cx) (pins:List (Addr×Obj)) (σ:St) (Q:VK) (u:Value) (s':Shared):Prop:=∃ v H',Inv X pins σ H' s'∧aU v u∧Q v H'
def TP (X:Cx) (pins:List (Addr×Obj)) (σ:St) (Q:Bool→Hp→Prop) (b:Bool) (s':Shared):Prop:=∃ H',Inv X pins σ H' s'∧Q b H'
def AP (X:Cx) (pins:List (Addr×Obj)) (σ:St) (Q:List V→Hp→Prop) (us:List Value) (s':Shared):Prop:=∃ vs H',Inv X pins σ H' s'∧aK vs us∧Q vs H'
def SP (X:Cx) (pins:List (Addr×Obj)) (D:iH) (f:Flow) (s':Shared):Prop:=
 match f with
 | .next=> ∃ σ' H',Inv X pins σ' H' s'∧D.nx σ' H'
 | .brk=> ∃ σ' H',Inv X pins σ' H' s'∧D.bk σ' H'
 | .cont=> ∃ σ' H',Inv X pins σ' H' s'∧D.ct σ' H'
 | .ret u=> ∃ v σ' H',Inv X pins σ' H' s'∧aU v u∧D.rt v H'
def PE (X:Cx) (e:Expr) (t:TE):Prop:=
 ∀ (pins:List (Addr×Obj)) (s:Shared) (σ:St) (H:Hp) (Q:VK),Inv X pins σ H s→t σ H Q→wpAny (model X.prog X.w) X.A (eval e X.env) (EP X pins σ Q) X.xe s
def PT (X:Cx) (e:Expr) (t:TT):Prop:=
 ∀ (pins:List (Addr×Obj)) (s:Shared) (σ:St) (H:Hp) (Q:Bool→Hp→Prop),Inv X pins σ H s→t σ H Q→wpAny (model X.prog X.w) X.A (isTrue e X.env (eval e X.env)) (TP X pins σ Q) X.xe s
def PW (X:Cx) (e:Expr) (t:TT):Prop:=
 ∀ (whole:Sem Value) (pins:List (Addr×Obj)) (s:Shared) (σ:St) (H:Hp) (Q:Bool→Hp→Prop),Inv X pins σ H s→t σ H Q→wpAny (model X.prog X.w) X.A (isTrue e X.env whole) (TP X pins σ Q) X.xe s
theorem PW.pt {X:Cx} {e:Expr} {t:TT} (h:PW X e t):PT X e t:=h _
def PA (X:Cx) (es:List Expr) (t:TA):Prop:=
 ∀ (pos:Pos) (pins:List (Addr×Obj)) (s:Shared) (σ:St) (H:Hp) (Q:List V→Hp→Prop),Inv X pins σ H s→t σ H Q→wpAny (model X.prog X.w) X.A (spliced (backTo pos (starEach es X.env))) (AP X pins σ Q) X.xe s
def PS (X:Cx) (st:Stmt) (t:TS):Prop:=
 ∀ (pins:List (Addr×Obj)) (s:Shared) (σ:St) (H:Hp) (D:iH),Inv X pins σ H s→t D σ H→wpAny (model X.prog X.w) X.A (exec st X.env) (SP X pins D) X.xe s
def PSs (X:Cx) (st:List Stmt) (t:TS):Prop:=
 ∀ (pins:List (Addr×Obj)) (s:Shared) (σ:St) (H:Hp) (D:iH),Inv X pins σ H s→t D σ H→wpAny (model X.prog X.w) X.A (execs st X.env) (SP X pins D) X.xe s
theorem thn {α:Type} {t:Sem α} {Q Q':α→Shared→Prop} {M:Model} {A:Around} {E:Value→Shared→Prop} {s:Shared} (h:wpAny M A t Q E s) (hQ:∀ a s,Q a s→Q' a s):wpAny M A t Q' E s:=wpAny_mono h hQ fun _ _ x=> x
end L2
namespace L2
open PySem PySem.Spec PyProof.Rows
section
variable {X:Cx}
def uL (i:Nat):TE:=fun σ H Q=> ∃ v,σ[i]?=some (some v)∧Q v H
def tC (v:V):TE:=fun _ H Q=> Q v H
theorem fg {i:Nat} {x:Str} {pos:Pos} (hN:X.N[i]?=some x) (hv:Vis X.env.scope x) (hd:(x==("__debug__":Str))=false:=by decide) (hcd:(x==("__classdict__":Str))=false:=by decide):PE X (.Name x pos) (uL i):=by
 intro pins s σ H Q I h
 obtain ⟨v,e,h⟩:=h
 obtain ⟨m,hn,hl⟩:=I.loc
 obtain ⟨u,r,l⟩:=hl i x v hN e hv
 have fin:EP X pins σ Q u s:=⟨v,H,I,r,h⟩
 rcases l with ⟨hk,hm⟩ | ⟨hk,c,hc,hcell⟩
 ·exact wpAny_Name (wpAny_loadName_local I.ok.kind hk hn hm fin) hd
 ·rcases hk with hk | hk
  ·exact wpAny_Name (wpAny_loadName_cell I.ok.kind hk hc hcell fin) hd
  ·exact wpAny_Name (wpAny_loadName_free I.ok.kind hk hc hcell fin hcd) hd
theorem vN {i j pos}:PE X (.Constant (.int i) j pos) (tC (.int i)):=fun _ _ _ H _ I h=> wpAny_Constant_int ⟨.int i,H,I.tok _,⟨_,rfl⟩,h⟩
theorem uo {b j pos}:PE X (.Constant (.bool b) j pos) (tC (.bl b)):=fun _ _ _ H _ I h=> Constant_bool ⟨.bl b,H,I,rfl,h⟩
theorem vX {x j pos}:PE X (.Constant (.str x) j pos) (tC (.str x)):=fun _ _ _ H _ I h=> Calls.Constant_str ⟨.str x,H,I.tok _,⟨_,rfl⟩,h⟩
def Gl (X:Cx) (x:Str):Prop:=X.env.kindOf x=some .globalImplicit
theorem fP {E:Value→Shared→Prop} {pins:List (Addr×Obj)} {s:Shared} {σ:St} {H:Hp} {x:Str} {u:Value} {pos:Pos} {Q:Value→Shared→Prop} (I:Inv X pins σ H s) (hg:Gl X x) (hm:X.mg x=some u) (h:Q u s)
  (hd:(x==("__debug__":Str))=false:=by decide):wpAny (model X.prog X.w) X.A (eval (.Name x pos) X.env) Q E s:=
 Calls.Name_function_global I.ok.kind hg (Calls.loadGlobal_global (by rw [I.ok.glob]; exact I.mod.glob.keeps I.bk) hm h) hd
theorem cT {E:Value→Shared→Prop} {pins:List (Addr×Obj)} {s:Shared} {σ:St} {H:Hp} {x:Str} {u:Value} {pos:Pos} {Q:Value→Shared→Prop} (I:Inv X pins σ H s) (hg:Gl X x) (hm:X.mg x=none) (hv:bootBuiltins x=some u) (h:Q u s)
  (hn:x≠"__name__":=by decide) (hd:(x==("__debug__":Str))=false:=by decide):wpAny (model X.prog X.w) X.A (eval (.Name x pos) X.env) Q E s:=by
 obtain ⟨mb,h1,h2⟩:=I.mod.blt
 exact Calls.Name_function_global I.ok.kind hg (Calls.loadGlobal_builtin (by rw [I.ok.glob]; exact I.mod.glob.keeps I.bk) hm (by rw [I.ok.blt]; exact h1.keeps I.bk) ((h2 x hn).trans hv) h) hd
theorem tY {x:Str} {v:V} {u:Value} {pos:Pos} (hg:Gl X x) (hm:X.mg x=some u) (r:aU v u) (hd:(x==("__debug__":Str))=false:=by decide):PE X (.Name x pos) (tC v):=
 fun _ _ _ H _ I h=> fP I hg hm ⟨v,H,I,r,h⟩ hd
theorem tX {x:Str} {v:V} {u:Value} {pos:Pos} (hg:Gl X x) (hm:X.mg x=none) (hv:bootBuiltins x=some u) (r:aU v u) (hn:x≠"__name__":=by decide) (hd:(x==("__debug__":Str))=false:=by decide):PE X (.Name x pos) (tC v):=
 fun _ _ _ H _ I h=> cT I hg hm hv ⟨v,H,I,r,h⟩ hn hd
variable {a b:Expr} {ta tb:TE} {pos:Pos}
def PC (X:Cx) (op:CmpOp) (a b:Expr) (t:TE):Prop:=
 ∀ (pins:List (Addr×Obj)) (s:Shared) (σ:St) (H:Hp) (Q:VK),Inv X pins σ H s→t σ H Q→
  wpAny (model X.prog X.w) X.A (eval a X.env) (fun v s₁=> wpAny (model X.prog X.w) X.A (eval b X.env) (fun u s₂=> wpAny (model X.prog X.w) X.A (compareOp op v u) (EP X pins σ Q) X.xe s₂) X.xe s₁) X.xe s
theorem qN (b:Expr) {op:CmpOp} (h:op≠.In) (h2:op≠.NotIn):behindInMarks op b=false:=by
 have e1:(op==CmpOp.In)=false:=by cases op <;> first | rfl | exact absurd rfl h
 have e2:(op==CmpOp.NotIn)=false:=by cases op <;> first | rfl | exact absurd rfl h2
 cases b <;> simp [behindInMarks,e1,e2]
def xM (ta:TE):TE:=fun σ H Q=> ta σ H fun x H1=> Q (.bl (decide (x=.non))) H1
theorem aU.none_iff {x:V} {v:Value} (r:aU x v):(v==Value.none)=decide (x=.non):=by
 cases x with
 | non=> cases r; rfl
 | bl _=> cases r; rfl
 | int _=> obtain ⟨t,rfl⟩:=r; rfl
 | str _=> obtain ⟨t,rfl⟩:=r; rfl
 | byt _=> obtain ⟨t,rfl⟩:=r; rfl
 | flt _=> obtain ⟨t,rfl⟩:=r; rfl
 | ref _=> cases r; rfl
 | ty _=> cases r; rfl
theorem vF {j pos'} (ha:PE X a ta):PC X .Is a (.Constant .none j pos') (xM ta):=by
 intro pins s σ H Q I h
 refine thn (ha pins s σ H _ I h) fun v s1 ⟨x,H1,I1,r1,q1⟩=> ?_
 exact Constant_none (is_none_gen ⟨.bl _,H1,I1,by rw [r1.none_iff]; rfl,q1⟩)
def tB (t:TE):TT:=fun σ H Q=> t σ H fun x H1=> ∃ c,x=.bl c∧Q c H1
theorem p_ {op:CmpOp} {t:TE} (h:PC X op a b t) (h1:behindInMarks op b=false:=by first | exact qN _ (by decide) (by decide) | rfl):PT X (.Compare a [op] [b] pos) (tB t):=by
 intro pins s σ H Q I hw
 refine wpAny_isTrue_Compare1 (thn (h pins s σ H _ I hw) fun v s1 h1=> thn h1 fun u s2 h2=> thn h2 fun c s3 ⟨x,H1,I1,r1,q1⟩=> ?_) h1
 obtain ⟨d,rfl,q⟩:=q1
 cases r1
 exact wpAny_truthy_bool ⟨H1,I1,q⟩
theorem vV {e:Expr} {t:TE} (h:PE X e t) (he:∀ whole,isTrue e X.env whole=(do let v ← whole; standAt e.pos; holding [v] (truthy v)):=by intro _; rfl):PT X e (tB t):=by
 intro pins s σ H Q I hw
 refine isTrue_plain (thn (h pins s σ H _ I hw) fun v s1 ⟨x,H1,I1,r1,q1⟩=> ?_) (he _)
 obtain ⟨d,rfl,q⟩:=q1
 cases r1
 exact wpAny_truthy_bool ⟨H1,I1,q⟩
variable {tA tB':TT} {rest:List Expr}
def xJ (t u:TT):TT:=fun σ H Q=> t σ H fun c H1=> if c=true then u σ H1 Q else Q false H1
def tOr (t u:TT):TT:=fun σ H Q=> t σ H fun c H1=> if c=true then Q true H1 else u σ H1 Q
def xz (t:TT):TT:=fun σ H Q=> t σ H fun c H1=> Q (!c) H1
theorem sI (ha:PT X a tA):PW X (.BoolOp .And [a] pos) tA:=by
 intro wh pins s σ H Q I h
 refine isTrue_and (thn (ha pins s σ H Q I h) fun c s1 e=> ?_)
 cases c with
 | true=> exact isTrue_and_nil e
 | false=> exact e
theorem qM (ha:PT X a tA):PW X (.BoolOp .Or [a] pos) tA:=by
 intro wh pins s σ H Q I h
 refine isTrue_or (thn (ha pins s σ H Q I h) fun c s1 e=> ?_)
 cases c with
 | false=> exact isTrue_or_nil e
 | true=> exact e
theorem pS (ha:PT X a tA) (hb:PW X (.BoolOp .And (b::rest) pos) tB'):PW X (.BoolOp .And (a::b::rest) pos) (xJ tA tB'):=by
 intro wh pins s σ H Q I h
 refine isTrue_and (thn (ha pins s σ H _ I h) fun c s1 ⟨H1,I1,q1⟩=> ?_)
 cases c with
 | true=> exact hb wh pins s1 σ H1 Q I1 q1
 | false=> exact ⟨H1,I1,q1⟩
theorem qI (ha:PT X a tA) (hb:PW X (.BoolOp .Or (b::rest) pos) tB'):PW X (.BoolOp .Or (a::b::rest) pos) (tOr tA tB'):=by
 intro wh pins s σ H Q I h
 refine isTrue_or (thn (ha pins s σ H _ I h) fun c s1 ⟨H1,I1,q1⟩=> ?_)
 cases c with
 | true=> exact ⟨H1,I1,q1⟩
 | false=> exact hb wh pins s1 σ H1 Q I1 q1
theorem vW (ha:PT X a tA):PT X (.UnaryOp .Not a pos) (xz tA):=by
 intro pins s σ H Q I h
 exact isTrue_not (ha pins s σ H (fun c H1=> Q (!c) H1) I h)
def we (ta tb:TE):TE:=fun σ H Q=> ta σ H fun x H1=> ∃ c,x=.bl c∧if c=true then tb σ H1 Q else Q (.bl false) H1
def wR (ta:TE):TE:=fun σ H Q=> ta σ H fun x H1=> ∃ c,x=.bl c∧Q (.bl (!c)) H1
theorem vG {op} {t:TE} (h:PE X a t):PE X (.BoolOp op [a] pos) t:=fun pins s σ H Q I hw=> BoolOp_one (h pins s σ H Q I hw)
theorem qK (ha:PE X a ta) (hb:PE X (.BoolOp .And (b::rest) pos) tb):PE X (.BoolOp .And (a::b::rest) pos) (we ta tb):=by
 intro pins s σ H Q I h
 refine BoolOp_and (thn (ha pins s σ H _ I h) fun v s1 ⟨x,H1,I1,r1,q1⟩=> ?_)
 obtain ⟨c,rfl,q1⟩:=q1
 cases r1
 refine wpAny_truthy_bool ?_
 cases c with
 | true=> exact hb pins s1 σ H1 Q I1 q1
 | false=> exact ⟨.bl false,H1,I1,rfl,q1⟩
theorem vh (ha:PE X a ta):PE X (.UnaryOp .Not a pos) (wR ta):=by
 intro pins s σ H Q I h
 refine UnaryOp_ (thn (ha pins s σ H _ I h) fun v s1 ⟨x,H1,I1,r1,q1⟩=> ?_)
 obtain ⟨c,rfl,q1⟩:=q1
 cases r1
 exact not_of (wpAny_truthy_bool ⟨.bl (!c),H1,I1,rfl,q1⟩)
end
end L2
namespace L2
open PySem PySem.Spec PyProof.Rows
def SqL (K:PySem.W.Frag) (H:Hp) (a:Addr) (xs:List V):Prop:=
 Rd H a (.lst xs)∨
  ∃ (o:Obj) (its:Array Value) (n:Nat),K.lookup a=some o∧o.cls=.type "list"∧o.dict=none∧o.data=.seq its n∧its.size≤sizeLine∧aK xs its.toList
def SqT (K:PySem.W.Frag) (H:Hp) (a:Addr) (xs:List V):Prop:=
 Rd H a (.tup xs)∨
  ∃ (o:Obj) (its:Array Value) (n:Nat),K.lookup a=some o∧o.cls=.type "tuple"∧o.data=.seq its n∧its.size≤sizeLine∧aK xs its.toList
def xL:Value→Option V
 | .none=> some .non
 | .bool b=> some (.bl b)
 | .int i _=> some (.int i)
 | .str x _=> some (.str x)
 | .bytes b _=> some (.byt b)
 | .float b _=> some (.flt b)
 | .ref a=> some (.ref a)
 | .type n=> some (.ty n)
 | _=> none
theorem aU.abs {x:V} {u:Value} (r:aU x u):xL u=some x:=by
 cases x with
 | non=> cases r; rfl
 | bl _=> cases r; rfl
 | int _=> obtain ⟨t,rfl⟩:=r; rfl
 | str _=> obtain ⟨t,rfl⟩:=r; rfl
 | byt _=> obtain ⟨t,rfl⟩:=r; rfl
 | flt _=> obtain ⟨t,rfl⟩:=r; rfl
 | ref _=> cases r; rfl
 | ty _=> cases r; rfl
theorem aU.inj {x y:V} {u:Value} (r:aU x u) (q:aU y u):x=y:=Option.some.inj (r.abs.symm.trans q.abs)
theorem aK.inj:∀ {xs ys:List V} {us:List Value},aK xs us→aK ys us→xs=ys
 | _,_,_,.nil,.nil=> rfl
 | _,_,_,.cons r t,.cons r' t'=> by rw [r.inj r',aK.inj t t']
section
variable {X:Cx} {pins:List (Addr×Obj)} {σ:St} {H:Hp} {s:Shared} {a:Addr} {xs ys:List V}
theorem SqL.of {K:PySem.W.Frag} (h:H a=some (.lst xs)):SqL K H a xs:=.inl (.inl h)
theorem SqT.of {K:PySem.W.Frag} (h:H a=some (.tup xs)):SqT K H a xs:=.inl (.inl h)
theorem Inv.list (I:Inv X pins σ H s) (h:SqL X.K H a xs):∃ its:List Value,aK xs its∧PlainL s.heap a its.toArray∧xs.length≤sizeLine:=by
 rcases h with h | ⟨o,its,n,hk,hc,hd,hs,hz,r⟩
 ·obtain ⟨z,its,n,r,e⟩:=h.ok I.hok
  exact ⟨its,r,⟨_,n,e,rfl,rfl,rfl⟩,z⟩
 ·refine ⟨its.toList,r,⟨o,n,I.kIn a o hk,hc,hd,by simpa using hs⟩,?_⟩
  have e:=r.length
  simp only [Array.length_toList] at e
  omega
theorem Inv.tuple (I:Inv X pins σ H s) (h:SqT X.K H a xs):∃ its:List Value,aK xs its∧IsTup s.heap a its.toArray∧xs.length≤sizeLine:=by
 rcases h with h | ⟨o,its,n,hk,hc,hs,hz,r⟩
 ·obtain ⟨z,its,r,p⟩:=h.ok I.hok
  exact ⟨its,r,p,z⟩
 ·refine ⟨its.toList,r,⟨o,I.kIn a o hk,hc,n,by simpa using hs⟩,?_⟩
  have e:=r.length
  simp only [Array.length_toList] at e
  omega
theorem Inv.list_inj (I:Inv X pins σ H s) (h:SqL X.K H a xs) (h':SqL X.K H a ys):xs=ys:=by
 obtain ⟨its,r,⟨o,n,e,_,_,d⟩,_⟩:=I.list h
 obtain ⟨its',r',⟨o',n',e',_,_,d'⟩,_⟩:=I.list h'
 rw [e] at e'; cases e'
 rw [d] at d'
 injection d' with d1 _
 have:its=its':=by simpa using congrArg Array.toList d1
 subst this
 exact r.inj r'
theorem Inv.tuple_inj (I:Inv X pins σ H s) (h:SqT X.K H a xs) (h':SqT X.K H a ys):xs=ys:=by
 obtain ⟨its,r,⟨o,e,_,n,d⟩,_⟩:=I.tuple h
 obtain ⟨its',r',⟨o',e',_,n',d'⟩,_⟩:=I.tuple h'
 rw [e] at e'; cases e'
 rw [d] at d'
 injection d' with d1 _
 have:its=its':=by simpa using congrArg Array.toList d1
 subst this
 exact r.inj r'
end
abbrev Cx.wish (X:Cx) (E:Value→Shared→Prop):Cx:={ X with xe:=E }
abbrev Cx.nox (X:Cx):Cx:=X.wish fun _ _=> False
theorem Cx.Ok.wish {X:Cx} (ok:X.Ok) (E:Value→Shared→Prop):(X.wish E).Ok:=
 ⟨ok.mod,ok.kind,ok.glob,ok.blt,ok.above,ok.inj,ok.has,ok.cab,ok.hd,ok.frames,ok.stk,ok.exf,ok.bs,ok.bsz,ok.noex,ok.exfs,ok.funs,ok.frf⟩
theorem Cx.Ok.unwish {X:Cx} {E:Value→Shared→Prop} (ok:(X.wish E).Ok):X.Ok:=
 ⟨ok.mod,ok.kind,ok.glob,ok.blt,ok.above,ok.inj,ok.has,ok.cab,ok.hd,ok.frames,ok.stk,ok.exf,ok.bs,ok.bsz,ok.noex,ok.exfs,ok.funs,ok.frf⟩
section
variable {X:Cx} {pins:List (Addr×Obj)} {σ:St} {H:Hp} {s:Shared} {E:Value→Shared→Prop}
theorem Inv.wish (I:Inv X pins σ H s) (E:Value→Shared→Prop):Inv (X.wish E) pins σ H s:=⟨I.ok.wish E,I.os,I.bare,I.base,I.loc,I.cell,I.free,I.freeC,I.pin,I.hok,I.len⟩
theorem Inv.unwish (I:Inv (X.wish E) pins σ H s):Inv X pins σ H s:=⟨I.ok.unwish,I.os,I.bare,I.base,I.loc,I.cell,I.free,I.freeC,I.pin,I.hok,I.len⟩
theorem SP.unwish {D:iH} {f:Flow} {s':Shared} (h:SP (X.wish E) pins D f s'):SP X pins D f s':=by
 cases f with
 | next=> obtain ⟨σ',H',I,q⟩:=h; exact ⟨σ',H',I.unwish,q⟩
 | brk=> obtain ⟨σ',H',I,q⟩:=h; exact ⟨σ',H',I.unwish,q⟩
 | cont=> obtain ⟨σ',H',I,q⟩:=h; exact ⟨σ',H',I.unwish,q⟩
 | ret u=> obtain ⟨v,σ',H',I,r,q⟩:=h; exact ⟨v,σ',H',I.unwish,r,q⟩
theorem PSs.nox {st:List Stmt} {t:TS} (h:PSs X.nox st t):PSs X st t:=fun pins s σ H D I hw=>
 wpAny_mono (h pins s σ H D (I.wish _) hw) (fun _ _ q=> q.unwish) fun _ _ z=> False.elim z
end
section
variable {X:Cx} {st:Stmt} {rest:List Stmt} {t u:TS} {e:Expr} {te:TE} {pos:Pos}
def w4:TS:=fun D σ H=> D.nx σ H
def xI (t u:TS):TS:=fun D σ H=> t { D with nx:=u D } σ H
theorem gU:PSs X [] w4:=fun _ _ σ H _ I h=> wpAny_execs_nil ⟨σ,H,I,h⟩
theorem cS (h1:PS X st t) (h2:PSs X rest u):PSs X (st::rest) (xI t u):=by
 intro pins s σ H D I h
 refine wpAny_execs_cons (thn (h1 pins s σ H { D with nx:=u D } I h) fun f s1 q=> ?_)
 cases f with
 | next=>
  obtain ⟨σ',H',I',q⟩:=q
  exact h2 pins s1 σ' H' D I' q
 | ret v=> exact q
 | brk=> exact q
 | cont=> exact q
theorem Inv.quiet {pins:List (Addr×Obj)} {σ:St} {H:Hp} {s:Shared} (I:Inv X pins σ H s):interactive X.env=false:=by simp [interactive,I.ok.kind]
def wy (te:TE):TS:=fun D σ H=> te σ H fun _ H1=> D.nx σ H1
theorem gR (he:PE X e te) (hs:swapsWith e none pos.line X.env=pure false:=by rfl):PS X (.Expr e pos) (wy te):=by
 intro pins s σ H D I h
 exact wpAny_Expr_any (thn (he pins s σ H _ I h) fun v s1 ⟨x,H1,I1,r1,q1⟩=> ⟨σ,H1,I1,q1⟩) I.quiet hs
def xB (te:TE):TS:=fun D σ H=> te σ H D.rt
theorem qS (he:PE X e te):PS X (.Return (some e) pos) (xB te):=by
 intro pins s σ H D I h
 exact wpAny_Return_some (thn (he pins s σ H _ I h) fun v s1 ⟨x,H1,I1,r1,q1⟩=> ⟨x,σ,H1,I1,r1,q1⟩)
def xw (c:TT) (t u:TS):TS:=fun D σ H=> c σ H fun b H1=> if b=true then t D σ H1 else u D σ H1
theorem mO {c:Expr} {a b:List Stmt} {tc:TT} (hc:PT X c tc) (ha:PSs X a t) (hb:PSs X b u):PS X (.If c a b pos) (xw tc t u):=by
 intro pins s σ H D I h
 refine wpAny_If (thn (hc pins s σ H _ I h) fun d s1 ⟨H1,I1,q1⟩=> ?_)
 cases d with
 | true=> exact ha pins s1 σ H1 D I1 q1
 | false=> exact hb pins s1 σ H1 D I1 q1
def vf:TS:=fun _ _ _=> False
theorem ja {sts:List Stmt}:PSs X sts vf:=fun _ _ _ _ _ _ h=> h.elim
end
abbrev TG:=V→St→Hp→(St→Hp→Prop)→Prop
abbrev TGs:=List V→St→Hp→(St→Hp→Prop)→Prop
def PG (X:Cx) (target:Expr) (t:TG):Prop:=
 ∀ (pins:List (Addr×Obj)) (s:Shared) (σ:St) (H:Hp) (v:V) (u:Value) (Q:St→Hp→Prop),Inv X pins σ H s→aU v u→t v σ H Q→
  wpAny (model X.prog X.w) X.A (assign target X.env u) (fun _ s'=> ∃ σ' H',Inv X pins σ' H' s'∧Q σ' H') X.xe s
def PGs (X:Cx) (ts:List Expr) (t:TGs):Prop:=
 ∀ (pins:List (Addr×Obj)) (s:Shared) (σ:St) (H:Hp) (vs:List V) (us:List Value) (Q:St→Hp→Prop),Inv X pins σ H s→aK vs us→t vs σ H Q→
  wpAny (model X.prog X.w) X.A (assignInOrder ((assignEach ts X.env).map (·.2)) us) (fun _ s'=> ∃ σ' H',Inv X pins σ' H' s'∧Q σ' H') X.xe s
section
variable {X:Cx} {pos:Pos}
def kR (i:Nat):TG:=fun v σ H Q=> Q (σ.set i (some v)) H
theorem bK {i:Nat} {x:Str} (hN:X.N.Nodup) (hi:X.N[i]?=some x) (hx:Loc X.env.scope x) (hf:X.fn x=true∨X.env.scope.names.lookup x=some .local:=by first | exact .inl rfl | exact .inr rfl | assumption):PG X (.Name x pos) (kR i):=by
 intro pins s σ H v u Q I r h
 exact wpAny_assign_Name (fE I hN hi hx r (fun s' I'=> ⟨_,H,I',h⟩) hf)
def wt:TGs:=fun vs σ H Q=> vs=[]∧Q σ H
def ue (t:TG) (u:TGs):TGs:=fun vs σ H Q=> ∃ v r,vs=v::r∧t v σ H fun σ' H'=> u r σ' H' Q
theorem gX:PGs X [] wt:=by
 intro pins s σ H vs us Q I r h
 obtain ⟨e,h⟩:=h
 subst e
 cases r
 exact assignInOrder_nil ⟨σ,H,I,h⟩
theorem cr {e:Expr} {es:List Expr} {t:TG} {u:TGs} (h1:PG X e t) (h2:PGs X es u)
  (hs:(assignEach (e::es) X.env).map (·.2)=assign e X.env::(assignEach es X.env).map (·.2):=by rfl):PGs X (e::es) (ue t u):=by
 intro pins s σ H vs us Q I r h
 obtain ⟨v,vr,e1,h⟩:=h
 subst e1
 cases r with
 | cons r rr=>
  rw [hs]
  refine assignInOrder_cons (thn (h1 pins s σ H _ _ _ I r h) fun _ s1 ⟨σ1,H1,I1,q1⟩=> ?_)
  exact h2 pins s1 σ1 H1 _ _ Q I1 rr q1
def xK (K:PySem.W.Frag) (n:Nat) (t:TGs):TG:=fun v σ H Q=> ∃ a xs,v=.ref a∧SqT K H a xs∧xs.length=n∧t xs σ H Q
theorem uQ {es:List Expr} {k:Nat} {t:TGs} {n:Nat} (hc:X.calm=true) (h:PGs X es t)
  (hn:(assignEach es X.env).length=n:=by rfl) (hst:(assignEach es X.env).findIdx? (·.1)=none:=by rfl):PG X (.Tuple es k pos) (xK X.K n t):=by
 intro pins s σ H v u Q I r hw
 obtain ⟨a,xs,e1,hq,hl,hw⟩:=hw
 subst e1
 cases r
 obtain ⟨its,rv,ht,hz⟩:=I.tuple hq
 refine assign_Tuple_tuple (I.ok.hd hc) ht (by simp [hn,← hl,rv.length]) hst fun h' hx=> ?_
 have I1:Inv X pins σ H { s with heap:=h' }:=I.kept (t':=s.toks) fun b o e=> hx b o (Nat.ne_of_lt (Heap.lt_size e)) e
 exact h pins _ σ H xs _ Q I1 (by simpa using rv) hw
def vn (te:TE) (g:TG):TS:=fun D σ H=> te σ H fun x H1=> g x σ H1 D.nx
theorem vp {tg e:Expr} {te:TE} {g:TG} (he:PE X e te) (hg:PG X tg g) (hs:swapsWithSole [tg] e pos.line X.env=pure false:=by rfl) (hw:swappedStores [tg] e X.env=pure none:=by rfl)
  (h1:(assignEach [tg] X.env).map (·.2)=[assign tg X.env]:=by rfl):PS X (.Assign [tg] e pos) (vn te g):=by
 intro pins s σ H D I h
 refine wpAny_Assign_stores (thn (he pins s σ H _ I h) fun v s1 ⟨x,H1,I1,r1,q1⟩=> ?_) hs hw
 rw [h1]
 exact thn (hg pins s1 σ H1 x v _ I1 r1 q1) fun _ s2 q=> q
theorem jM {i:Nat} {x:Str} {e:Expr} {te:TE} {pos':Pos} (hN:X.N.Nodup) (hi:X.N[i]?=some x) (hx:Loc X.env.scope x) (he:PE X e te) (hs:swapsWith e (some (.Name x pos')) pos.line X.env=pure false:=by rfl) (hf:X.fn x=true∨X.env.scope.names.lookup x=some .local:=by first | exact .inl rfl | exact .inr rfl | assumption):
  PS X (.Assign [.Name x pos'] e pos) (vn te (kR i)):=by
 intro pins s σ H D I h
 refine wpAny_Assign_Name (thn (he pins s σ H _ I h) fun v s1 ⟨y,H1,I1,r1,q1⟩=> ?_) hs
 exact fE I1 hN hi hx r1 (fun s2 I2=> ⟨_,H1,I2,q1⟩) hf
def xx (i j:Nat) (ta:TA):TS:=fun D σ H=> ta σ H fun vs H1=> ∃ v w,vs=[v,w]∧D.nx ((σ.set i (some v)).set j (some w)) H1
theorem vK {i j:Nat} {x y:Str} {a b:Expr} {ta:TA} {px py pt:Pos} {kt k2 pt2} (hc:X.calm=true) (hN:X.N.Nodup) (hi:X.N[i]?=some x) (hj:X.N[j]?=some y) (hij:i≠j)
  (hx:X.env.scope.names.lookup x=some .local) (hy:X.env.scope.names.lookup y=some .local) (ha:PA X [a,b] ta)
  (hw:swappedStores [.Tuple [.Name x px,.Name y py] kt pt] (.Tuple [a,b] k2 pt2) X.env=pure (some [x,y]))
  (hs:swapsWithSole [.Tuple [.Name x px,.Name y py] kt pt] (.Tuple [a,b] k2 pt2) pos.line X.env=pure false:=by rfl):
  PS X (.Assign [.Tuple [.Name x px,.Name y py] kt pt] (.Tuple [a,b] k2 pt2) pos) (xx i j ta):=by
 intro pins s σ H D I h
 rw [exec_Assign_arm]
 refine wpAny_bind (wpAny_standAt ?_)
 rw [hs]
 refine wpAny_bind (wpAny_pure ?_)
 rw [if_neg (by decide)]
 refine wpAny_bind (Tuple_ (thn (ha _ pins s σ H _ I h) fun us s1 ⟨vs,H1,I1,r1,q1⟩=> ?_))
 obtain ⟨v,w,e1,q1⟩:=q1
 subst e1
 obtain ⟨u1,u2,rfl,rv,rw'⟩:∃ u1 u2,us=[u1,u2]∧aU v u1∧aU w u2:=by
  cases r1 with
  | cons p q=>
   cases q with
   | cons p' q'=>
    cases q'
    exact ⟨_,_,rfl,p,p'⟩
 refine wpAny_newObj_type ?_ (by show 2≤sizeLine; decide)
 have I2:Inv X pins σ H1 { s1 with heap:=s1.heap.push { cls:=.type "tuple",data:=.seq [u1,u2].toArray } }:=I1.kept (t':=s1.toks) fun b o e=> Heap.get?_push_of_some _ e
 rw [hw]
 refine wpAny_bind (wpAny_pure ?_)
 show wpAny (model X.prog X.w) X.A (do rule "assign.swapped-stores"; let items ← unpackItems (.ref s1.heap.objs.size) 2 none; assignInOrder [fun v=> bindName X.env y v,fun v=> bindName X.env x v] items.reverse; pure Flow.next) _ _ _
 refine wpAny_bind (wpAny_rule (wpAny_bind (unpackItems_tuple (items:=#[u1,u2]) (I.ok.hd hc) (IsTup.new s1.heap _) fun h' hx'=> ?_)))
 have I3:=I2.kept (h':=h') (t':=s1.toks) fun b o e=> hx' b o (Nat.ne_of_lt (Heap.lt_size e)) e
 show wpAny _ _ (assignInOrder [fun v=> bindName X.env y v,fun v=> bindName X.env x v] [u2,u1] >>=fun _=> pure Flow.next) _ _ _
 refine wpAny_bind (assignInOrder_cons (wpAny_bindName (fE I3 hN hj (.inl hy) rw' (fun s2 I4=> ?_) (.inr hy))))
 refine assignInOrder_cons (wpAny_bindName (fE I4 hN hi (.inl hx) rv (fun s3 I5=> assignInOrder_nil (wpAny_pure ?_)) (.inr hx)))
 rw [List.set_comm _ _ (Ne.symm hij)] at I5
 exact ⟨_,H1,I5,q1⟩
end
section
variable {X:Cx} {pos:Pos}
def vk (c:TT) (tb:TS):TS:=fun D σ H=> ∃ W:Nat→St→Hp→Prop,(∃ m,W m σ H)∧∀ m σ H,W m σ H→
 c σ H fun b H1=> if b=true then ∃ N:St→Hp→Prop,(∀ σ' H',N σ' H'→∃ m',m' < m∧W m' σ' H')∧tb { D with nx:=N,ct:=N,bk:=D.nx } σ H1 else D.nx σ H1
theorem rk {c:Expr} {body:List Stmt} {tc:TT} {tb:TS} (hp:PassesOwn (model X.prog X.w) X.A X.env X.xe) (hc:PT X c tc) (hb:PSs X body tb):PS X (.While c body [] pos) (vk tc tb):=by
 intro pins s σ H D I h
 obtain ⟨W,⟨m0,w0⟩,turn⟩:=h
 refine wpAny_While (codeAny_whileLoop (fun n s'=> ∃ σ' H',Inv X pins σ' H' s'∧W n σ' H') ?_ m0 ⟨σ,H,I,w0⟩)
 rintro n s1 ⟨σ1,H1,I1,w1⟩
 refine wpAny_passesOwn hp (thn (hc pins s1 σ1 H1 _ I1 (turn n σ1 H1 w1)) fun b s2 ⟨H2,I2,q2⟩=> ?_)
 cases b with
 | true=>
  obtain ⟨N,hN,q2⟩:=q2
  rw [if_pos rfl]
  refine wpAny_passesOwn hp (thn (hb pins s2 σ1 H2 _ I2 q2) fun f s3 q3=> ?_)
  cases f with
  | next=>
   obtain ⟨σ3,H3,I3,n3⟩:=q3
   obtain ⟨m',hm,w3⟩:=hN σ3 H3 n3
   exact ⟨m',hm,σ3,H3,I3,w3⟩
  | cont=>
   obtain ⟨σ3,H3,I3,n3⟩:=q3
   obtain ⟨m',hm,w3⟩:=hN σ3 H3 n3
   exact ⟨m',hm,σ3,H3,I3,w3⟩
  | brk=> exact q3
  | ret v=> exact q3
 | false=>
  rw [if_neg Bool.false_ne_true]
  exact wpAny_execs_nil ⟨σ1,H2,I2,q2⟩
end
structure It where
 go:Nat→Hp→Prop
 yld:Nat→Hp→V→Hp→Prop
 stop:Nat→Hp→Prop
def iC (X:Cx) (pins:List (Addr×Obj)) (H:Hp) (b:Addr):Prop:=
 H b=none∧b≠X.env.locals∧b ∉ X.fs∧(b∈X.ex∨X.s₀.heap.objs.size≤b)∧(∀ x c,X.env.cells.lookup x=some c→c≠b)∧∀ p∈X.pn++pins,p.1≠b
theorem Inv.fpOk {X:Cx} {pins:List (Addr×Obj)} {σ:St} {H H':Hp} {s:Shared} {b:Addr} (I:Inv X pins σ H s) (hb:s.heap.objs.size≤b) (hn:H' b=none):iC X pins H' b:=by
 refine ⟨hn,Nat.ne_of_gt (Nat.lt_of_lt_of_le I.lt hb),I.nofs hb,.inr (Nat.le_trans I.sz hb),fun x c e z=> ?_,fun p hp z=> ?_⟩
 ·obtain ⟨v,q⟩:=I.cell x c e
  exact absurd (Nat.lt_of_lt_of_le q.lt (by rw [z]; exact hb)) (Nat.lt_irrefl _)
 ·exact absurd (Nat.lt_of_lt_of_le (Heap.lt_size (I.pin p hp).1) (by rw [z]; exact hb)) (Nat.lt_irrefl _)
structure oY (P:Program) (w:World) (K:PySem.W.Frag) (tg:Expr) (J:It) (fp:List Addr) (it:Addr) (tn:Nat→Heap→Prop):Prop where
 mem:it∈fp
 obj:∀ i h,tn i h→∀ b∈fp,∃ o,h.get? b=some o∧∀ v,o.data≠.cell v
 keep:∀ i h h',tn i h→(∀ b∈fp,∀ o,h.get? b=some o→h'.get? b=some o)→tn i h'
 item:∀ (X:Cx),X.prog=P→X.w=w→X.K=K→X.calm=true→∀ (i:Nat) (pins:List (Addr×Obj)) (s:Shared) (σ:St) (H:Hp) (E:Value→Shared→Prop),Inv X pins σ H s→(∀ b∈fp,iC X pins H b)→tn i s.heap→J.go i H→
  wpAny (model P w) X.A (pyNext (.ref it)) (fun r s1=> ∃ u,r=some u∧
   wpAny (model P w) X.A (letOwnedTupleGo tg (.ref it) u) (fun _ s2=> ∃ x H',Inv X pins σ H' s2∧aU x u∧J.yld i H x H'∧tn (i+1) s2.heap∧∀ b∈fp,H' b=none) E s1) E s
 done:∀ (X:Cx),X.prog=P→X.w=w→X.K=K→X.calm=true→∀ (i:Nat) (pins:List (Addr×Obj)) (s:Shared) (σ:St) (H:Hp) (E:Value→Shared→Prop),Inv X pins σ H s→(∀ b∈fp,iC X pins H b)→tn i s.heap→J.stop i H→
  wpAny (model P w) X.A (pyNext (.ref it)) (fun r s1=> r=none∧Inv X pins σ H s1) E s
 self:∀ (A:Around) (i:Nat) (s:Shared) (Q:Value→Shared→Prop) (E:Value→Shared→Prop),tn i s.heap→Q (.ref it) s→wpAny (model P w) A (pyIter (.ref it)) Q E s
abbrev TI:=St→Hp→(It→Hp→Prop)→Prop
def PIE (X:Cx) (pins:List (Addr×Obj)) (σ:St) (tg:Expr) (R:It→Hp→Prop) (itv:Value) (s2:Shared):Prop:=
 ∃ (it:Addr) (fp:List Addr) (tn:Nat→Heap→Prop) (J:It) (H':Hp),itv=.ref it∧Inv X pins σ H' s2∧oY X.prog X.w X.K tg J fp it tn∧tn 0 s2.heap∧(∀ b∈fp,iC X pins H' b)∧R J H'
def PI (X:Cx) (tg iter:Expr) (wi:TI):Prop:=
 ∀ (pins:List (Addr×Obj)) (s:Shared) (σ:St) (H:Hp) (R:It→Hp→Prop),Inv X pins σ H s→wi σ H R→
  wpAny (model X.prog X.w) X.A (eval iter X.env) (fun v s1=> wpAny (model X.prog X.w) X.A (pyIter v) (PIE X pins σ tg R) X.xe s1) X.xe s
theorem nC {M:Model} {A:Around} {E:Value→Shared→Prop} {s:Shared} {tg:Expr} {it:Addr} {u:Value} {o:Obj} {n:String} {vs:Array Value} {Q:Unit→Shared→Prop} (ho:s.heap.get? it=some o) (hc:o.cls=.type n) (hd:o.data=.fields vs)
  (hn:["enumerate","zip","dict_itemiterator","dict_reverseitemiterator","odict_iterator","itertools.zip_longest","itertools.pairwise"].contains n=false) (hQ:Q () s):wpAny M A (letOwnedTupleGo tg (.ref it) u) Q E s:=by
 unfold letOwnedTupleGo
 cases tg <;> first
  | exact wpAny_pure hQ
  | (cases u <;> first
    | exact wpAny_pure hQ
    | (refine wpAny_bind (wpAny_load ho ?_)
       rw [hc,hd]
       show wpAny M A (if (["enumerate","zip","dict_itemiterator","dict_reverseitemiterator","odict_iterator","itertools.zip_longest","itertools.pairwise"].contains n && vs[0]?==some (rawInt _))=true then _ else _) Q E s
       rw [if_neg (by intro h; rw [hn,Bool.false_and] at h; cases h)]
       exact wpAny_pure hQ))
def Itl (K:PySem.W.Frag) (a:Addr):It:=
 ⟨fun i H=> ∃ xs x,SqL K H a xs∧xs[i]?=some x,fun i H x H'=> H'=H∧∀ xs,SqL K H a xs→xs[i]?=some x,fun i H=> ∃ xs,SqL K H a xs∧xs.length≤i⟩
def Itt (K:PySem.W.Frag) (a:Addr):It:=
 ⟨fun i H=> ∃ xs x,SqT K H a xs∧xs[i]?=some x,fun i H x H'=> H'=H∧∀ xs,SqT K H a xs→xs[i]?=some x,fun i H=> ∃ xs,SqT K H a xs∧xs.length≤i⟩
def Itr (lo:Int) (n:Nat):It:=⟨fun i _=> i < n,fun i H x H'=> H'=H∧x=.int (lo+i),fun i _=> n≤i⟩
theorem og {P:Program} {w:World} {K:PySem.W.Frag} {tg:Expr} (a it:Addr):oY P w K tg (Itl K a) [it] it (fun i h=> h.IsListIter it a i) where
 mem:=by simp
 obj:=fun i h st b hb=> by
  have e:b=it:=by simpa using hb
  subst e
  obtain ⟨o,e,c,d⟩:=st
  exact ⟨o,e,fun v z=> by rw [d] at z; cases z⟩
 keep:=fun i h h' st k=> st.at fun o e=> k it (by simp) o e
 item:=by
  intro X hP hw hK hc i pins s σ H E I hf st hg
  subst hP hw hK
  obtain ⟨xs,x,hq,hx⟩:=hg
  obtain ⟨its,rv,p,hz⟩:=I.list hq
  obtain ⟨u,hu,ru⟩:=rv.get hx
  obtain ⟨f0,f1,f2,f3,f4,f5⟩:=hf it (by simp)
  refine wpAny_pyNext_list_item st p.isList (x:=u) (by simpa using hu) fun h' st' sb=> ?_
  have I1:Inv X pins σ H { s with heap:=h' }:=I.turned (t':=s.toks) (fun b o hb e=> (sb.2 b hb).trans e) f0 f1 f3 f4 f5
  obtain ⟨o,e,c,d⟩:=id st'
  exact ⟨u,rfl,nC (s:={ s with heap:=h' }) e c d (by decide) ⟨x,H,I1,ru,⟨rfl,fun ys hy=> by rw [I.list_inj hy hq]; exact hx⟩,st',fun b hb=> (hf b hb).1⟩⟩
 done:=by
  intro X hP hw hK hc i pins s σ H E I hf st hg
  subst hP hw hK
  obtain ⟨xs,hq,hx⟩:=hg
  obtain ⟨its,rv,p,hz⟩:=I.list hq
  obtain ⟨f0,f1,f2,f3,f4,f5⟩:=hf it (by simp)
  have hl:=rv.length
  exact wpAny_pyNext_list_end (I.ok.hd hc) st p.isList (by simp; omega) fun h' eb=> ⟨rfl,I.turned (t':=s.toks) (fun b o hb e=> eb b o hb e) f0 f1 f3 f4 f5⟩
 self:=fun _ _ _ _ _ st h=> wpAny_pyIter_listiter st h
theorem lE {P:Program} {w:World} {K:PySem.W.Frag} {tg:Expr} (a it:Addr):oY P w K tg (Itt K a) [it] it (fun i h=> h.IsTupleIter it a i) where
 mem:=by simp
 obj:=fun i h st b hb=> by
  have e:b=it:=by simpa using hb
  subst e
  obtain ⟨o,e,c,d⟩:=st
  exact ⟨o,e,fun v z=> by rw [d] at z; cases z⟩
 keep:=fun i h h' st k=> st.at fun o e=> k it (by simp) o e
 item:=by
  intro X hP hw hK hc i pins s σ H E I hf st hg
  subst hP hw hK
  obtain ⟨xs,x,hq,hx⟩:=hg
  obtain ⟨its,rv,p,hz⟩:=I.tuple hq
  obtain ⟨u,hu,ru⟩:=rv.get hx
  obtain ⟨f0,f1,f2,f3,f4,f5⟩:=hf it (by simp)
  refine wpAny_pyNext_tuple_item st (show s.heap.IsTuple a its.toArray from p) (x:=u) (by simpa using hu) fun h' st' sb=> ?_
  have I1:Inv X pins σ H { s with heap:=h' }:=I.turned (t':=s.toks) (fun b o hb e=> (sb.2 b hb).trans e) f0 f1 f3 f4 f5
  obtain ⟨o,e,c,d⟩:=id st'
  exact ⟨u,rfl,nC (s:={ s with heap:=h' }) e c d (by decide) ⟨x,H,I1,ru,⟨rfl,fun ys hy=> by rw [I.tuple_inj hy hq]; exact hx⟩,st',fun b hb=> (hf b hb).1⟩⟩
 done:=by
  intro X hP hw hK hc i pins s σ H E I hf st hg
  subst hP hw hK
  obtain ⟨xs,hq,hx⟩:=hg
  obtain ⟨its,rv,p,hz⟩:=I.tuple hq
  obtain ⟨f0,f1,f2,f3,f4,f5⟩:=hf it (by simp)
  have hl:=rv.length
  exact wpAny_pyNext_tuple_end (I.ok.hd hc) st (show s.heap.IsTuple a its.toArray from p) (by simp; omega) fun h' eb=> ⟨rfl,I.turned (t':=s.toks) (fun b o hb e=> eb b o hb e) f0 f1 f3 f4 f5⟩
 self:=fun _ _ _ _ _ st h=> wpAny_pyIter_tupleiter st h
theorem mm {P:Program} {w:World} {K:PySem.W.Frag} {tg:Expr} (it:Addr) (lo:Int) (n:Nat):oY P w K tg (Itr lo n) [it] it (fun i h=> IsRangeIter h it (lo+(i:Nat) * 1) ((n:Int) - (i:Nat)) 1) where
 mem:=by simp
 obj:=fun i h st b hb=> by
  have e:b=it:=by simpa using hb
  subst e
  exact ⟨_,st,fun v z=> by
   have z':Data.fields _=Data.cell v:=z
   cases z'⟩
 keep:=fun i h h' st k=> k it (by simp) _ st
 item:=by
  intro X hP hw hK hc i pins s σ H E I hf st hg
  subst hP hw hK
  obtain ⟨f0,f1,f2,f3,f4,f5⟩:=hf it (by simp)
  have W:=Walks.range (prog:=X.prog) (w:=X.w) (I.ok.hd hc) it lo 1 n
  refine W.item i s _ _ hg st fun v h' tk hv st' kk=> ?_
  obtain ⟨t,rfl⟩:=hv
  have I1:Inv X pins σ H { s with heap:=h',toks:=tk }:=I.turned (fun b o hb e=> kk b o (by simpa using hb) e) f0 f1 f3 f4 f5
  refine ⟨_,rfl,nC (s:={ s with heap:=h',toks:=tk }) (n:="range_iterator") st' rfl rfl (by decide) ⟨.int (lo+i),H,I1,⟨t,?_⟩,⟨rfl,rfl⟩,st',fun b hb=> (hf b hb).1⟩⟩
  rw [Int.mul_one]
 done:=by
  intro X hP hw hK hc i pins s σ H E I hf st hg
  subst hP hw hK
  obtain ⟨f0,f1,f2,f3,f4,f5⟩:=hf it (by simp)
  exact wpAny_pyNext_range_end (I.ok.hd hc) st (by have:n≤i:=hg; omega) fun h' eb=> ⟨rfl,I.turned (t':=s.toks) (fun b o hb e=> eb b o hb e) f0 f1 f3 f4 f5⟩
 self:=fun _ _ _ _ _ st h=> wpAny_pyIter_rangeiter st h
end L2
namespace L2
open PySem PySem.Spec PyProof.Rows
section
variable {X:Cx} {tg:Expr}
def wK (K:PySem.W.Frag) (tl:TE):TI:=fun σ H R=> tl σ H fun x H1=> ∃ a,x=.ref a∧(∃ xs,SqL K H1 a xs)∧R (Itl K a) H1
def xk (K:PySem.W.Frag) (tl:TE):TI:=fun σ H R=> tl σ H fun x H1=> ∃ a,x=.ref a∧(∃ xs,SqT K H1 a xs)∧R (Itt K a) H1
theorem tZ {l:Expr} {tl:TE} (hl:PE X l tl):PI X tg l (wK X.K tl):=by
 intro pins s σ H R I h
 refine thn (hl pins s σ H _ I h) fun v s1 ⟨x,H1,I1,r1,q1⟩=> ?_
 obtain ⟨a,e,⟨xs,hq⟩,q⟩:=q1
 subst e
 cases r1
 obtain ⟨its,rv,p,hz⟩:=I1.list hq
 refine wpAny_pyIter_list p.isList ?_
 refine ⟨s1.heap.objs.size,[s1.heap.objs.size],_,_,H1,rfl,I1.kept (t':=s1.toks) fun b o e=> Heap.get?_push_of_some _ e,og a _,⟨_,Heap.get?_push_size _ rfl,rfl,rfl⟩,fun b hb=> ?_,q⟩
 have e:b=s1.heap.objs.size:=by simpa using hb
 subst e
 exact I1.fpOk (Nat.le_refl _) (I1.hok.fresh (Nat.le_refl _))
theorem vS {l:Expr} {tl:TE} (hl:PE X l tl):PI X tg l (xk X.K tl):=by
 intro pins s σ H R I h
 refine thn (hl pins s σ H _ I h) fun v s1 ⟨x,H1,I1,r1,q1⟩=> ?_
 obtain ⟨a,e,⟨xs,hq⟩,q⟩:=q1
 subst e
 cases r1
 obtain ⟨its,rv,p,hz⟩:=I1.tuple hq
 refine wpAny_pyIter_tuple (show s1.heap.IsTuple a its.toArray from p) ?_
 refine ⟨s1.heap.objs.size,[s1.heap.objs.size],_,_,H1,rfl,I1.kept (t':=s1.toks) fun b o e=> Heap.get?_push_of_some _ e,lE a _,⟨_,Heap.get?_push_size _ rfl,rfl,rfl⟩,fun b hb=> ?_,q⟩
 have e:b=s1.heap.objs.size:=by simpa using hb
 subst e
 exact I1.fpOk (Nat.le_refl _) (I1.hok.fresh (Nat.le_refl _))
theorem rK {pins:List (Addr×Obj)} {σ:St} {H:Hp} {s:Shared} {R:It→Hp→Prop} {E:Value→Shared→Prop} {lo hi:Int} {t u v:Tok} {tk:Nat} (I:Inv X pins σ H s) (h1:-(2 ^ 62)≤lo) (h2:lo < 2 ^ 62) (h3:-(2 ^ 62)≤hi) (h4:hi < 2 ^ 62)
  (q:R (Itr lo (hi - lo).toNat) H):wpAny (model X.prog X.w) X.A (pyIter (.ref s.heap.objs.size)) (PIE X pins σ tg R) E { s with heap:=s.heap.push { cls:=.type "range",data:=.fields #[.int lo t,.int hi u,.int 1 v] },toks:=tk }:=by
 refine wpAny_pyIter_range (IsRange.new ..) (small_one h1 h2 h3 h4) ?_
 have I1:Inv X pins σ H { s with heap:=s.heap.push { cls:=.type "range",data:=.fields #[.int lo t,.int hi u,.int 1 v] },toks:=tk }:=I.kept fun b o e=> Heap.get?_push_of_some _ e
 refine ⟨(s.heap.push { cls:=.type "range",data:=.fields #[.int lo t,.int hi u,.int 1 v] }).objs.size,[(s.heap.push { cls:=.type "range",data:=.fields #[.int lo t,.int hi u,.int 1 v] }).objs.size],_,_,H,rfl,
  I1.kept (t':=tk) fun b o e=> Heap.get?_push_of_some _ e,mm _ lo (hi - lo).toNat,?_,fun b hb=> ?_,q⟩
 ·have e1:lo+((0:Nat):Int) * 1=lo:=by simp
  have e2:(((hi - lo).toNat:Nat):Int) - ((0:Nat):Int)=Builtin.Range.rangeSize lo hi 1:=by rw [rangeSize_one]; split <;> omega
  show IsRangeIter _ _ (lo+((0:Nat):Int) * 1) ((((hi - lo).toNat:Nat):Int) - ((0:Nat):Int)) 1
  rw [e1,e2]
  exact Heap.get?_push_size _ rfl
 ·have e:b=(s.heap.push { cls:=.type "range",data:=.fields #[.int lo t,.int hi u,.int 1 v] }).objs.size:=by simpa using hb
  subst e
  exact I1.fpOk (Nat.le_refl _) (I1.hok.fresh (Nat.le_refl _))
def w6 (ta:TA):TI:=fun σ H R=> ta σ H fun vs H1=> ∃ j:Int,vs=[.int j]∧-(2 ^ 62)≤j∧j < 2 ^ 62∧R (Itr 0 j.toNat) H1
theorem oQ {a:Expr} {ta:TA} {p pos:Pos} (hg:Gl X "range") (hm:X.mg "range"=none) (ha:PA X [a] ta) (hs:starEach [a] X.env=[(false,eval a X.env)]:=by rfl):PI X tg (.Call (.Name "range" p) [a] [] pos) (w6 ta):=by
 intro pins s σ H R I h
 refine Call_ (cT I hg hm boot_range (PyProof.Rows.callWith_type1 (thn (ha pos pins s σ H _ I h) fun us s1 ⟨vs,H1,I1,r1,q1⟩=> ?_) hs rfl))
 obtain ⟨j,e,q1,q2,q⟩:=q1
 subst e
 cases r1 with
 | cons r rr=>
  cases rr
  obtain ⟨t,rfl⟩:=r
  exact call_range_1 (rK I1 (by omega) (by omega) q1 q2 (by simpa using q))
def xn (wi:TI) (g:TG) (tb:TS):TS:=fun D σ H=> wi σ H fun J H1=> ∃ W:Nat→Nat→St→Hp→Prop,(∃ m,W 0 m σ H1)∧∀ i m σ H,W i m σ H→
 (J.stop i H∧D.nx σ H)∨(J.go i H∧∃ N:St→Hp→Prop,(∀ σ' H',N σ' H'→∃ m',m' < m∧W (i+1) m' σ' H')∧∀ x H',J.yld i H x H'→g x σ H' fun σ2 H2=> tb { D with nx:=N,ct:=N,bk:=D.nx } σ2 H2)
def jx (fp:List Addr) (h:Heap):List (Addr×Obj):=fp.filterMap fun b=> (h.get? b).map fun o=> (b,o)
theorem dJ {fp:List Addr} {h:Heap} {b:Addr} {o:Obj} (hb:b∈fp) (e:h.get? b=some o):(b,o)∈jx fp h:=List.mem_filterMap.mpr ⟨b,hb,by rw [e]; rfl⟩
theorem n9 {fp:List Addr} {h:Heap} {p:Addr×Obj} (hp:p∈jx fp h):p.1∈fp∧h.get? p.1=some p.2:=by
 obtain ⟨b,hb,e⟩:=List.mem_filterMap.mp hp
 cases q:h.get? b with
 | none=> rw [q] at e; cases e
 | some o=>
  rw [q] at e
  have e':(b,o)=p:=Option.some.inj e
  subst e'
  exact ⟨hb,q⟩
theorem Inv.pinned {pins:List (Addr×Obj)} {σ:St} {H:Hp} {s:Shared} {fp:List Addr} (I:Inv X pins σ H s) (hf:∀ b∈fp,iC X pins H b) (ho:∀ b∈fp,∃ o,s.heap.get? b=some o∧∀ v,o.data≠.cell v):Inv X (pins++jx fp s.heap) σ H s:=
 I.pins_of fun p hp=> (List.mem_append.mp hp).elim (fun z=> I.pin p (List.mem_append_right _ z)) fun z=> by
  obtain ⟨hb,e⟩:=n9 z
  obtain ⟨f0,f1,f2,_⟩:=hf p.1 hb
  obtain ⟨o,e',d⟩:=ho p.1 hb
  rw [e] at e'; cases e'
  exact ⟨e,f0,f1,f2,d⟩
theorem Inv.unpinned {pins pl:List (Addr×Obj)} {σ:St} {H:Hp} {s:Shared} (I:Inv X (pins++pl) σ H s):Inv X pins σ H s:=I.pins_of fun p hp=> I.pin p (List.mem_append_right _ (List.mem_append_left _ hp))
theorem lC {iter:Expr} {body:List Stmt} {wi:TI} {g:TG} {tb:TS} {pos:Pos} (hp:PassesOwn (model X.prog X.w) X.A X.env X.xe) (hc:X.calm=true) (hi:PI X tg iter wi) (hg:PG X tg g) (hb:PSs X body tb)
  (hs:∀ x,foldedSetIterable iter X.env x=pure x:=by intro _; rfl):PS X (.For tg iter body [] pos) (xn wi g tb):=by
 intro pins s σ H D I h
 refine wpAny_For (thn (hi pins s σ H _ I h) fun v s1 h1=> thn h1 fun itv s2 h2=> ?_) hs
 obtain ⟨it,fp,tn,J,H2,e,I2,T,st2,f2,W,⟨m0,w0⟩,turn⟩:=h2
 subst e
 have stat:∀ {H':Hp},(∀ b∈fp,H' b=none)→∀ b∈fp,iC X pins H' b:=fun hn b hb=> ⟨hn b hb,(f2 b hb).2⟩
 refine codeAny_forLoop_any (fun n s'=> ∃ i σ' H',Inv X pins σ' H' s'∧tn i s'.heap∧(∀ b∈fp,H' b=none)∧W i n σ' H') ?_ m0 ⟨0,σ,H2,I2,st2,fun b hb=> (f2 b hb).1,w0⟩
 rintro n s3 ⟨i,σ3,H3,I3,st3,fr3,w3⟩
 rcases turn i n σ3 H3 w3 with ⟨stop,qn⟩ | ⟨go,N,hN,step⟩
 ·refine wpAny_passesOwn hp (thn (T.done X rfl rfl rfl hc i pins s3 σ3 H3 X.xe I3 (stat fr3) st3 stop) fun r s4 ⟨hr,I4⟩=> ?_)
  subst hr
  exact wpAny_execs_nil ⟨σ3,H3,I4,qn⟩
 ·refine wpAny_passesOwn hp (thn (T.item X rfl rfl rfl hc i pins s3 σ3 H3 X.xe I3 (stat fr3) st3 go) fun r s4 ⟨u,hr,h4⟩=> ?_)
  subst hr
  refine wpAny_passesOwn hp (thn h4 fun _ s5 ⟨x,H5,I5,r5,y5,st5,fr5⟩=> ?_)
  have I5':=I5.pinned (stat fr5) (T.obj _ _ st5)
  refine wpAny_passesOwn hp (thn (hg _ s5 σ3 H5 x u _ I5' r5 (step x H5 y5)) fun _ s6 ⟨σ6,H6,I6,q6⟩=> ?_)
  refine wpAny_passesOwn hp (thn (hb _ s6 σ6 H6 _ I6 q6) fun f s7 q7=> ?_)
  have again:∀ {σ7:St} {H7:Hp},Inv X (pins++jx fp s5.heap) σ7 H7 s7→N σ7 H7→∃ m,m < n∧∃ i σ' H',Inv X pins σ' H' s7∧tn i s7.heap∧(∀ b∈fp,H' b=none)∧W i m σ' H':=fun {σ7 H7} I7 n7=> by
   obtain ⟨m',hm,w7⟩:=hN σ7 H7 n7
   refine ⟨m',hm,i+1,σ7,H7,I7.unpinned,T.keep _ _ _ st5 fun b hb o e=> (I7.pin (b,o) (List.mem_append_right _ (List.mem_append_right _ (dJ hb e)))).1,fun b hb=> ?_,w7⟩
   obtain ⟨o,e,d⟩:=T.obj _ _ st5 b hb
   exact (I7.pin (b,o) (List.mem_append_right _ (List.mem_append_right _ (dJ hb e)))).2.1
  cases f with
  | next=> obtain ⟨σ7,H7,I7,n7⟩:=q7; exact again I7 n7
  | cont=> obtain ⟨σ7,H7,I7,n7⟩:=q7; exact again I7 n7
  | brk=> obtain ⟨σ7,H7,I7,q7⟩:=q7; exact ⟨σ7,H7,I7.unpinned,q7⟩
  | ret v=> obtain ⟨x7,σ7,H7,I7,r7,q7⟩:=q7; exact ⟨x7,σ7,H7,I7.unpinned,r7,q7⟩
end
end L2
namespace L2
open PySem PySem.Spec PyProof.Rows
abbrev R2:=V→V→Hp→VK→Prop
def OpR (X:Cx) (f:Value→Value→Sem Value) (r:R2):Prop:=
 ∀ (pins:List (Addr×Obj)) (s:Shared) (σ:St) (H:Hp) (x y:V) (v u:Value) (Q:VK),Inv X pins σ H s→aU x v→aU y u→r x y H Q→
  wpAny (model X.prog X.w) X.A (f v u) (EP X pins σ Q) X.xe s
def UnR (X:Cx) (f:Value→Sem Value) (r:V→Hp→VK→Prop):Prop:=
 ∀ (pins:List (Addr×Obj)) (s:Shared) (σ:St) (H:Hp) (x:V) (v:Value) (Q:VK),Inv X pins σ H s→aU x v→r x H Q→
  wpAny (model X.prog X.w) X.A (f v) (EP X pins σ Q) X.xe s
def dc (X:Cx) (f:Value) (r:List V→Hp→VK→Prop):Prop:=
 ∀ (pins:List (Addr×Obj)) (s:Shared) (σ:St) (H:Hp) (xs:List V) (us:List Value) (Q:VK),Inv X pins σ H s→aK xs us→r xs H Q→
  wpAny (model X.prog X.w) X.A (call f us) (EP X pins σ Q) X.xe s
def tOp (r:R2) (ta tb:TE):TE:=fun σ H Q=> ta σ H fun x H1=> tb σ H1 fun y H2=> r x y H2 Q
def tUn (r:V→Hp→VK→Prop) (ta:TE):TE:=fun σ H Q=> ta σ H fun x H1=> r x H1 Q
def rI (C:Int→Int→Prop) (g:Int→Int→V):R2:=fun x y H Q=> ∃ i j,x=.int i∧y=.int j∧C i j∧Q (g i j) H
def rI0 (g:Int→Int→V):R2:=fun x y H Q=> ∃ i j,x=.int i∧y=.int j∧Q (g i j) H
def rU (g:Int→V):V→Hp→VK→Prop:=fun x H Q=> ∃ i,x=.int i∧Q (g i) H
section
variable {X:Cx} {a b c:Expr} {ta tb tc:TE} {pos:Pos}
theorem vJ (ha:PE X a ta) (hb:PE X b tb) {pins:List (Addr×Obj)} {s:Shared} {σ:St} {H:Hp} {R:V→V→Hp→Prop} (I:Inv X pins σ H s)
  (h:ta σ H fun x H1=> tb σ H1 fun y H2=> R x y H2) {Q:Value→Shared→Prop} {f:Value→Value→Sem Value}
  (hf:∀ v u s2 x y H2,Inv X pins σ H2 s2→aU x v→aU y u→R x y H2→wpAny (model X.prog X.w) X.A (f v u) Q X.xe s2):
  wpAny (model X.prog X.w) X.A (eval a X.env) (fun v s₁=> wpAny (model X.prog X.w) X.A (eval b X.env) (fun u s₂=> wpAny (model X.prog X.w) X.A (f v u) Q X.xe s₂) X.xe s₁) X.xe s:=by
 refine thn (ha pins s σ H _ I h) fun v s1 ⟨x,H1,I1,r1,q1⟩=> ?_
 refine thn (hb pins s1 σ H1 _ I1 q1) fun u s2 ⟨y,H2,I2,r2,q2⟩=> ?_
 exact hf v u s2 x y H2 I2 r1 r2 q2
theorem qR {op:Operator} {r:R2} (ho:OpR X (binaryOp op) r) (ha:PE X a ta) (hb:PE X b tb):PE X (.BinOp a op b pos) (tOp r ta tb):=by
 intro pins s σ H Q I h
 exact wpAny_BinOp (vJ ha hb I h fun v u s2 x y H2 I2 rx ry q=> ho pins s2 σ H2 x y v u Q I2 rx ry q)
theorem wN {op:UnaryOp} {r:V→Hp→VK→Prop} (ho:UnR X (unaryOp op) r) (ha:PE X a ta):PE X (.UnaryOp op a pos) (tUn r ta):=by
 intro pins s σ H Q I h
 exact UnaryOp_ (thn (ha pins s σ H _ I h) fun v s1 ⟨x,H1,I1,r1,q1⟩=> ho pins s1 σ H1 x v Q I1 r1 q1)
theorem opI {f:Value→Value→Sem Value} {C:Int→Int→Prop} {g:Int→Int→Int}
  (rule:∀ (i j:Int) (t u:Tok) (s:Shared) (Q:Value→Shared→Prop) (E:Value→Shared→Prop),C i j→Q (.int (g i j) s.toks) { s with toks:=s.toks+1 }→wpAny (model X.prog X.w) X.A (f (.int i t) (.int j u)) Q E s):
  OpR X f (rI C fun i j=> .int (g i j)):=by
 intro pins s σ H x y v u Q I rx ry h
 obtain ⟨i,j,rfl,rfl,hc,q⟩:=h
 obtain ⟨t,rfl⟩:=rx
 obtain ⟨t',rfl⟩:=ry
 exact rule i j t t' s _ _ hc ⟨.int (g i j),H,I.tok _,⟨_,rfl⟩,q⟩
theorem wf {f:Value→Value→Sem Value} {g:Int→Int→Int}
  (rule:∀ (i j:Int) (t u:Tok) (s:Shared) (Q:Value→Shared→Prop) (E:Value→Shared→Prop),Q (.int (g i j) s.toks) { s with toks:=s.toks+1 }→wpAny (model X.prog X.w) X.A (f (.int i t) (.int j u)) Q E s):
  OpR X f (rI0 fun i j=> .int (g i j)):=by
 intro pins s σ H x y v u Q I rx ry h
 obtain ⟨i,j,rfl,rfl,q⟩:=h
 obtain ⟨t,rfl⟩:=rx
 obtain ⟨t',rfl⟩:=ry
 exact rule i j t t' s _ _ ⟨.int (g i j),H,I.tok _,⟨_,rfl⟩,q⟩
theorem vY {f:Value→Value→Sem Value} {g:Int→Int→Bool}
  (rule:∀ (i j:Int) (t u:Tok) (s:Shared) (Q:Value→Shared→Prop) (E:Value→Shared→Prop),Q (.bool (g i j)) s→wpAny (model X.prog X.w) X.A (f (.int i t) (.int j u)) Q E s):
  OpR X f (rI0 fun i j=> .bl (g i j)):=by
 intro pins s σ H x y v u Q I rx ry h
 obtain ⟨i,j,rfl,rfl,q⟩:=h
 obtain ⟨t,rfl⟩:=rx
 obtain ⟨t',rfl⟩:=ry
 exact rule i j t t' s _ _ ⟨.bl (g i j),H,I,rfl,q⟩
def wS (i j:Int):Prop:=0≤j∧j≤1000000∧i.natAbs < 2 ^ 64
theorem vw:OpR X (binaryOp .Add) (rI0 fun i j=> .int (i+j)):=wf fun _ _ _ _ _ _ _ q=> add_int q
theorem vd:OpR X (binaryOp .Sub) (rI0 fun i j=> .int (i - j)):=wf fun _ _ _ _ _ _ _ q=> sub_int q
theorem u8:OpR X (binaryOp .Mod) (rI (fun _ j=> 0 < j) fun i j=> .int (i % j)):=opI fun i j _ _ _ _ _ hc q=> by
 have h1:(0:Int) < j:=hc
 exact mod_int' (by omega) (by rw [Int.fmod_eq_emod_of_nonneg i (by omega)]; exact q)
theorem u7:OpR X (binaryOp .Pow) (rI wS fun i j=> .int (i ^ j.toNat)):=opI fun _ _ _ _ _ _ _ hc q=> pow_int_small hc.1 hc.2.1 hc.2.2 q
theorem unI {f:Value→Sem Value} {g:Int→Int}
  (rule:∀ (i:Int) (t:Tok) (s:Shared) (Q:Value→Shared→Prop) (E:Value→Shared→Prop),Q (.int (g i) s.toks) { s with toks:=s.toks+1 }→wpAny (model X.prog X.w) X.A (f (.int i t)) Q E s):
  UnR X f (rU fun i=> .int (g i)):=by
 intro pins s σ H x v Q I rx h
 obtain ⟨i,rfl,q⟩:=h
 obtain ⟨t,rfl⟩:=rx
 exact rule i t s _ _ ⟨.int (g i),H,I.tok _,⟨_,rfl⟩,q⟩
theorem uM:UnR X (unaryOp .USub) (rU fun i=> .int (-i)):=unI fun _ _ _ _ _ q=> neg_int q
end
def wo:V→V→Bool
 | .non,.non=> true | .non,.int _=> true | .int _,.non=> true | .non,.bl _=> true | .bl _,.non=> true | .non,.str _=> true | .str _,.non=> true
 | .int _,.int _=> true | .bl _,.bl _=> true | .str _,.str _=> true | .byt _,.byt _=> true
 | .int _,.str _=> true | .str _,.int _=> true | .bl _,.str _=> true | .str _,.bl _=> true
 | _,_=> false
def rEq:R2:=fun x y H Q=> wo x y=true∧Q (.bl (decide (x=y))) H
def rNe:R2:=fun x y H Q=> wo x y=true∧Q (.bl (!decide (x=y))) H
theorem gL {i j:Int}:decide (V.int i=V.int j)=(i==j):=by
 rw [Bool.eq_iff_iff]
 simp
theorem rz {i j:Bool}:decide (V.bl i=V.bl j)=(i==j):=by
 rw [Bool.eq_iff_iff]
 simp
theorem nv {i j:Str}:decide (V.str i=V.str j)=(i==j):=by
 rw [Bool.eq_iff_iff]
 simp
theorem m4 {i j:Array UInt8}:decide (V.byt i=V.byt j)=(i.toList==j.toList):=by
 rw [Bool.eq_iff_iff]
 cases i
 cases j
 simp
section
variable {X:Cx} {a b c:Expr} {ta tb tc:TE} {pos:Pos}
theorem aR {pins:List (Addr×Obj)} {σ:St} {H:Hp} {s:Shared} {Q:VK} {k k':Bool} (I:Inv X pins σ H s) (q:Q (.bl k) H) (e:k=k'):EP X pins σ Q (.bool k') s:=by
 subst e
 exact ⟨.bl k,H,I,rfl,q⟩
theorem wE:OpR X (compareOp .Eq) rEq:=by
 intro pins s σ H x y v u Q I rx ry h
 obtain ⟨hs,q⟩:=h
 cases x with
 | non=>
  cases rx
  cases y with
  | non=> cases ry; exact PySem.EqNone.eq_none_none (aR I q (by simp))
  | bl j=> cases ry; exact PySem.EqNone.eq_none_bool (aR I q (by simp))
  | int j=> obtain ⟨t',rfl⟩:=ry; exact PySem.EqNone.eq_none_int (aR I q (by simp))
  | str j=> obtain ⟨t',rfl⟩:=ry; exact PySem.EqNone.eq_none_str (aR I q (by simp))
  | _=> exact absurd (show false=true from hs) Bool.false_ne_true
 | bl i=>
  cases rx
  cases y with
  | non=> cases ry; exact PySem.EqNone.eq_bool_none (aR I q (by simp))
  | bl j=> cases ry; exact eq_bool (aR I q rz)
  | str j=> obtain ⟨t',rfl⟩:=ry; exact PySem.EqMixed.eq_bool_str (aR I q (by simp))
  | _=> exact absurd (show false=true from hs) Bool.false_ne_true
 | int i=>
  obtain ⟨t,rfl⟩:=rx
  cases y with
  | non=> cases ry; exact PySem.EqNone.eq_int_none (aR I q (by simp))
  | int j=> obtain ⟨t',rfl⟩:=ry; exact eq_int (aR I q gL)
  | str j=> obtain ⟨t',rfl⟩:=ry; exact PySem.EqMixed.eq_int_str (aR I q (by simp))
  | _=> exact absurd (show false=true from hs) Bool.false_ne_true
 | str i=>
  obtain ⟨t,rfl⟩:=rx
  cases y with
  | non=> cases ry; exact PySem.EqNone.eq_str_none (aR I q (by simp))
  | bl j=> cases ry; exact PySem.EqMixed.eq_str_bool (aR I q (by simp))
  | int j=> obtain ⟨t',rfl⟩:=ry; exact PySem.EqMixed.eq_str_int (aR I q (by simp))
  | str j=> obtain ⟨t',rfl⟩:=ry; exact eq_str (aR I q nv)
  | _=> exact absurd (show false=true from hs) Bool.false_ne_true
 | byt i=>
  obtain ⟨t,rfl⟩:=rx
  cases y with
  | byt j=> obtain ⟨t',rfl⟩:=ry; exact PySem.W.eq_bytes (aR I q m4)
  | _=> exact absurd (show false=true from hs) Bool.false_ne_true
 | _=> cases y <;> exact absurd (show false=true from hs) Bool.false_ne_true
theorem wB:OpR X (compareOp .NotEq) rNe:=by
 intro pins s σ H x y v u Q I rx ry h
 obtain ⟨hs,q⟩:=h
 cases x with
 | non=>
  cases rx
  cases y with
  | non=> cases ry; exact PySem.EqNone.ne_none_none (aR I q (by simp))
  | bl j=> cases ry; exact PySem.EqNone.ne_none_bool (aR I q (by simp))
  | int j=> obtain ⟨t',rfl⟩:=ry; exact PySem.EqNone.ne_none_int (aR I q (by simp))
  | str j=> obtain ⟨t',rfl⟩:=ry; exact PySem.EqNone.ne_none_str (aR I q (by simp))
  | _=> exact absurd (show false=true from hs) Bool.false_ne_true
 | bl i=>
  cases rx
  cases y with
  | non=> cases ry; exact PySem.EqNone.ne_bool_none (aR I q (by simp))
  | bl j=> cases ry; exact ne_bool (aR I q (congrArg not rz))
  | str j=> obtain ⟨t',rfl⟩:=ry; exact PySem.EqMixed.ne_bool_str (aR I q (by simp))
  | _=> exact absurd (show false=true from hs) Bool.false_ne_true
 | int i=>
  obtain ⟨t,rfl⟩:=rx
  cases y with
  | non=> cases ry; exact PySem.EqNone.ne_int_none (aR I q (by simp))
  | int j=> obtain ⟨t',rfl⟩:=ry; exact ne_int (aR I q (congrArg not gL))
  | str j=> obtain ⟨t',rfl⟩:=ry; exact PySem.EqMixed.ne_int_str (aR I q (by simp))
  | _=> exact absurd (show false=true from hs) Bool.false_ne_true
 | str i=>
  obtain ⟨t,rfl⟩:=rx
  cases y with
  | non=> cases ry; exact PySem.EqNone.ne_str_none (aR I q (by simp))
  | bl j=> cases ry; exact PySem.EqMixed.ne_str_bool (aR I q (by simp))
  | int j=> obtain ⟨t',rfl⟩:=ry; exact PySem.EqMixed.ne_str_int (aR I q (by simp))
  | str j=> obtain ⟨t',rfl⟩:=ry; exact ne_str (aR I q (congrArg not nv))
  | _=> exact absurd (show false=true from hs) Bool.false_ne_true
 | byt i=>
  obtain ⟨t,rfl⟩:=rx
  cases y with
  | byt j=> obtain ⟨t',rfl⟩:=ry; exact PySem.W.ne_bytes (aR I q (congrArg not m4))
  | _=> exact absurd (show false=true from hs) Bool.false_ne_true
 | _=> cases y <;> exact absurd (show false=true from hs) Bool.false_ne_true
theorem wq:OpR X (compareOp .Lt) (rI0 fun i j=> .bl (decide (i < j))):=vY fun _ _ _ _ _ _ _ q=> lt_int q
theorem wX:OpR X (compareOp .LtE) (rI0 fun i j=> .bl (decide (i≤j))):=vY fun _ _ _ _ _ _ _ q=> le_int q
theorem wJ:OpR X (compareOp .Gt) (rI0 fun i j=> .bl (decide (j < i))):=vY fun _ _ _ _ _ _ _ q=> gt_int q
theorem pC (b:Expr) {op:CmpOp} (h:op≠.In:=by decide) (h2:op≠.NotIn:=by decide):behindInMarks op b=false:=by
 have e1:(op==CmpOp.In)=false:=by cases op <;> first | rfl | exact absurd rfl h
 have e2:(op==CmpOp.NotIn)=false:=by cases op <;> first | rfl | exact absurd rfl h2
 cases b <;> simp [behindInMarks,e1,e2]
theorem ud {op:CmpOp} {r:R2} (ho:OpR X (compareOp op) r) (ha:PE X a ta) (hb:PE X b tb) (hm:behindInMarks op b=false):PE X (.Compare a [op] [b] pos) (tOp r ta tb):=by
 intro pins s σ H Q I h
 exact wpAny_Compare1 (vJ ha hb I h fun v u s2 x y H2 I2 rx ry q=> ho pins s2 σ H2 x y v u Q I2 rx ry q) hm
def xg (t:TE):TT:=fun σ H Q=> t σ H fun x H'=> ∃ k,x=.bl k∧Q k H'
theorem tR {op:CmpOp} {r:R2} (ho:OpR X (compareOp op) r) (ha:PE X a ta) (hb:PE X b tb) (hm:behindInMarks op b=false):PT X (.Compare a [op] [b] pos) (xg (tOp r ta tb)):=by
 intro pins s σ H Q I h
 refine wpAny_isTrue_Compare1 (thn (ha pins s σ H _ I h) fun v s1 ⟨x,H1,I1,r1,q1⟩=> thn (hb pins s1 σ H1 _ I1 q1) fun u s2 ⟨y,H2,I2,r2,q2⟩=>
  thn (ho pins s2 σ H2 x y v u _ I2 r1 r2 q2) fun c s3 ⟨z,H3,I3,r3,k,e,q3⟩=> ?_) hm
 subst e
 cases r3
 exact wpAny_truthy_bool ⟨H3,I3,q3⟩
theorem mz:(sizeLine:Nat) < 2 ^ 63:=by rw [sizeLine_eq]; decide
theorem gY {x:V} {us:List Value} (r:aK [x] us):∃ u,us=[u]∧aU x u:=by
 cases r with
 | cons r1 r2=> cases r2; exact ⟨_,rfl,r1⟩
theorem mQ {x y:V} {us:List Value} (r:aK [x,y] us):∃ u w',us=[u,w']∧aU x u∧aU y w':=by
 cases r with
 | cons r1 r2=>
  cases r2 with
  | cons r3 r4=> cases r4; exact ⟨_,_,rfl,r1,r3⟩
theorem rW:dc X (.builtin "abs") (fun xs H Q=> ∃ i,xs=[.int i]∧Q (.int (if i < 0 then -i else i)) H):=by
 intro pins s σ H xs us Q I r h
 obtain ⟨i,rfl,q⟩:=h
 obtain ⟨u,rfl,t,rfl⟩:=gY r
 exact call_abs_int fun u tk=> ⟨.int (if i < 0 then -i else i),H,I.tok _,⟨_,rfl⟩,q⟩
end
end L2
namespace L2
open PySem PySem.Spec PyProof.Rows
structure uI (h:Heap) (x dx C:Addr) (mA:Str→Option Value):Prop where
 obj:h.get? x=some (PySem.W.instObj C dx)
 ns:h.Ns1 dx mA
 ne:dx≠x
theorem nW {h:Heap} {dx:Addr} {mA:Str→Option Value} (n:h.Ns1 dx mA):∃ od,h.get? dx=some od∧∀ name,PySem.W.lookIn name od=some (mA name):=by
 obtain ⟨o,es,ep,ho,hd,hk,_,hm⟩:=n
 refine ⟨o,ho,fun name=> ?_⟩
 have e:=hm name
 unfold nsFind findBy at e
 rw [← Array.find?_toList] at e
 unfold PySem.W.lookIn
 rw [hd]
 dsimp only
 split
 ·rename_i y q
  rw [q] at e
  exact congrArg some e
 ·rename_i q
  rw [q] at e
  have a:es.toList.any (·.refKey)=false:=by
   rw [List.any_eq_false]
   intro y hy
   obtain ⟨z,t,hkey⟩:=hk y (Array.mem_toList_iff.mp hy)
   simp [DictEntry.refKey,hkey]
  have a':¬ es.toList.any (·.refKey)=true:=by rw [a]; exact Bool.false_ne_true
  rw [if_neg a']
  exact congrArg some e
theorem uI.look {h:Heap} {x dx C:Addr} {mA:Str→Option Value} (I:uI h x dx C mA):∃ od,PySem.W.InstAt h x (PySem.W.instObj C dx) C (some od)∧∀ name,PySem.W.lookIn name od=some (mA name):=
 let ⟨od,ho,hl⟩:=nW I.ns
 ⟨od,⟨I.obj,rfl,rfl,ho⟩,hl⟩
section
variable {prog:Program} {w:World} {A:Around} {E:Value→Shared→Prop} {s:Shared} {K:PySem.W.Frag} {x dx C f:Addr} {mA:Str→Option Value} {name:Str} {v:Value}
end
def putF (f:Str) (v:V):List (Str×V)→List (Str×V)
 | []=> [(f,v)]
 | (g,x)::r=> if g=f then (g,v)::r else (g,x)::putF f v r
section
variable {P:Program} {w:World} {H H':Hp} {h h':Heap} {a C dx:Addr} {fs fs':List (Str×V)}
theorem tN (hok:HOk P w H h) (e:H a=some (.ins C dx fs)):∃ mA,uI h a dx C mA∧(∀ f,vQ (fs.lookup f) (mA f))∧PySem.Within mA (fs.map (·.1))∧fs.length≤1000∧H dx=some (.own a):=by
 obtain ⟨d,z,ne,ob,mA,n,r,q⟩:=(show bR P w H h a (.ins C dx fs) from hok a _ e)
 exact ⟨mA,⟨ob,n,ne⟩,r,q,z,d⟩
end
structure Cls (K:PySem.W.Frag) (C:Addr):Prop where
 pg:PySem.W.plainGet K C Str.empty=true
 hd:PySem.W.hasDictIn K C=true
 po:PySem.W.plainOver K C=true
 sa:PySem.W.findIn K (.ref C) "__setattr__"=some (some (.builtin "object.__setattr__"))
theorem Cls.get {K:PySem.W.Frag} {C:Addr} (c:Cls K C) (f:Str):PySem.W.plainGet K C f=true:=c.pg
structure Con (K:PySem.W.Frag) (C:Addr) (f:Str) (v:V) (u:Value):Prop where
 at_:PySem.W.findIn K (.ref C) f=some (some u)
 rel:aU v u
 get:PySem.W.specialIn K u "__get__"=some none
 cp:PySem.W.copiedNames.contains f=false
structure xO (K:PySem.W.Frag) (C:Addr) (m:Str) (f:Addr):Prop where
 at_:PySem.W.findIn K (.ref C) m=some (some (.ref f))
 fn:PySem.W.isFn K (.ref f)=true
 kp:PySem.W.keepIn K (.ref f)=true
section
variable {X:Cx} {pins:List (Addr×Obj)} {σ:St} {H:Hp} {s:Shared} {a C dx:Addr} {fs:List (Str×V)} {f:Str} {v:V} {A:Around} {E:Value→Shared→Prop}
end
section
variable {X:Cx} {o e value:Expr} {f:Str} {pos pos' tpos:Pos} {ta tv:TE}
end
section
variable {X:Cx} {pins:List (Addr×Obj)} {σ:St} {H:Hp} {s:Shared} {A:Around} {E:Value→Shared→Prop} {Q:Value→Shared→Prop} {c:Value} {b:Bool}
inductive gB (K:PySem.W.Frag) (H:Hp):V→Value→Prop where
 | non:gB K H .non (.type "NoneType")
 | bl (x:Bool):gB K H (.bl x) (.type "bool")
 | int (i:Int):gB K H (.int i) (.type "int")
 | str (x:Str):gB K H (.str x) (.type "str")
 | flt (x:UInt64):gB K H (.flt x) (.type "float")
 | lst {a:Addr} {xs:List V} (e:H a=some (.lst xs)):gB K H (.ref a) (.type "list")
 | frz {a:Addr} {o:Obj} {xs:List V} (e:H a=some (.frz o (.lst xs))):gB K H (.ref a) (.type "list")
 | tup {a:Addr} {xs:List V} (e:H a=some (.tup xs)):gB K H (.ref a) (.type "tuple")
 | dK {a:Addr} {kvs:List (Key×V)} (e:H a=some (.dK kvs)):gB K H (.ref a) (.type "dict")
 | dT {a:Addr} {kvs:List (List Key×V)} (e:H a=some (.dT kvs)):gB K H (.ref a) (.type "dict")
 | ins {a C dx:Addr} {fs:List (Str×V)} (e:H a=some (.ins C dx fs)) (cl:Cls K C) (ha:PySem.W.findIn K (.ref C) "__class__"=some (some (.builtin "object.__class__")))
   (hn:PySem.W.specialIn K (.builtin "object.__class__") "__get__"=some (some (.builtin "getset_descriptor.__get__"))) (htk:PySem.W.takesIn K (.builtin "object.__class__")=some true)
   (hm:PySem.W.mroIn K C (.type "object")=some true):gB K H (.ref a) (.ref C)
theorem cR {x:V} {u t:Value} (I:Inv X pins σ H s) (rx:aU x u) (ty:gB X.K H x t) (e:PySem.W.kitOne X.K t c=some b) (h:∀ tk,Q (.bool b) { s with toks:=tk }):
  wpAny (model X.prog X.w) A (call (.builtin "isinstance") [u,c]) Q E s:=by
 cases ty with
 | non=> cases (show u=Value.none from rx); exact PySem.W.kia_one PySem.W.kitx_none I.kIn True.intro e (fun z=> nomatch z) h
 | bl y=> cases (show u=Value.bool y from rx); exact PySem.W.kia_one PySem.W.kitx_bool I.kIn True.intro e (fun z=> nomatch z) h
 | int i=> obtain ⟨t,q⟩:=(show ∃ t,u=Value.int i t from rx); cases q; exact PySem.W.kia_one PySem.W.kitx_int I.kIn True.intro e (fun z=> nomatch z) h
 | str y=> obtain ⟨t,q⟩:=(show ∃ t,u=Value.str y t from rx); cases q; exact PySem.W.kia_one PySem.W.kitx_str I.kIn True.intro e (fun z=> nomatch z) h
 | flt y=> obtain ⟨t,q⟩:=(show ∃ t,u=Value.float y t from rx); cases q; exact PySem.W.kia_one PySem.W.kitx_float I.kIn True.intro e (fun z=> nomatch z) h
 | @lst a xs ea=>
  cases (show u=Value.ref a from rx)
  obtain ⟨_,_,n,_,h1⟩:=(show bR X.prog X.w H s.heap a (.lst xs) from I.hok a _ ea)
  exact PySem.W.kia_one PySem.W.kitx_list I.kIn ⟨_,h1,rfl⟩ e (fun z=> nomatch z) h
 | @frz a ob xs ea=>
  cases (show u=Value.ref a from rx)
  obtain ⟨_,_,_,n,_,h1⟩:=(show bR X.prog X.w H s.heap a (.frz ob (.lst xs)) from I.hok a _ ea)
  exact PySem.W.kia_one PySem.W.kitx_list I.kIn ⟨_,h1,rfl⟩ e (fun z=> nomatch z) h
 | @tup a xs ea=>
  cases (show u=Value.ref a from rx)
  obtain ⟨_,_,_,p⟩:=(show bR X.prog X.w H s.heap a (.tup xs) from I.hok a _ ea)
  obtain ⟨o,h1,h2,_⟩:=p
  exact PySem.W.kia_one PySem.W.kitx_tuple I.kIn ⟨o,h1,h2⟩ e (fun z=> nomatch z) h
 | @dK a kvs ea=>
  cases (show u=Value.ref a from rx)
  obtain ⟨_,_,vs,_,p⟩:=(show bR X.prog X.w H s.heap a (.dK kvs) from I.hok a _ ea)
  obtain ⟨o,es,ep,h1,h2,_⟩:=p
  exact PySem.W.kia_one PySem.W.kitx_dict I.kIn ⟨o,h1,h2.1⟩ e (fun z=> nomatch z) h
 | @dT a kvs ea=>
  cases (show u=Value.ref a from rx)
  obtain ⟨_,_,xs,_,o,es,ep,h1,h2,_⟩:=(show bR X.prog X.w H s.heap a (.dT kvs) from I.hok a _ ea)
  exact PySem.W.kia_one PySem.W.kitx_dict I.kIn ⟨o,h1,h2.1⟩ e (fun z=> nomatch z) h
 | @ins a C dx fs ea cl ha hn htk hm=>
  cases (show u=Value.ref a from rx)
  obtain ⟨mA,O,_⟩:=tN I.hok ea
  obtain ⟨od,J,_⟩:=O.look
  exact PySem.W.kia_one (PySem.W.kitx_own (cl.get _) cl.hd ha hn htk hm) I.kIn J e (fun z=> nomatch z) h
end
end L2
namespace L2
open PySem PySem.Spec PyProof.Rows
structure cY (k:Nat) (A:Around):Prop where
 hd:A.handled=none
 dp:A.depth+3 * k+5 < recursionLimit
 un:A.units+16 * k+200 < cLine
theorem cY.mono {j k:Nat} {A:Around} (r:cY k A) (h:j≤k):cY j A:=⟨r.hd,by have:=r.dp; omega,by have:=r.un; omega⟩
theorem cY.deeper {k:Nat} {A:Around} (r:cY (k+1) A) (env:Env):cY k (A.deeper env):=
 ⟨r.hd,by have:=r.dp; show A.depth+1+3 * k+5 < _; omega,by have:=r.un; show A.units+3+16 * k+200 < _; omega⟩
theorem cY.depth {k:Nat} {A:Around} (r:cY k A):A.depth < recursionLimit:=by have:=r.dp; omega
def xA:TA:=fun _ H Q=> Q [] H
def wH (ta:TE) (tr:TA):TA:=fun σ H Q=> ta σ H fun x H1=> tr σ H1 fun xs H2=> Q (x::xs) H2
section
variable {X:Cx} {e:Expr} {es:List Expr} {te:TE} {t:TA} {pos:Pos}
theorem d9:PA X [] xA:=fun _ _ _ _ H Q I h=> Calls.spliced_nil ⟨[],H,I,.nil,h⟩
theorem cn (ha:PE X e te) (hr:PA X es t) (hs:starEach (e::es) X.env=(false,eval e X.env)::starEach es X.env:=by rfl):PA X (e::es) (wH te t):=by
 intro pos pins s σ H Q I h
 rw [hs]
 show wpAny _ _ (spliced ((false,eval e X.env)::backTo pos (starEach es X.env))) _ _ s
 refine Calls.spliced_cons (thn (ha pins s σ H _ I h) fun u s1 ⟨x,H1,I1,r1,q1⟩=> ?_)
 exact thn (hr pos pins s1 σ H1 _ I1 q1) fun us s2 ⟨xs,H2,I2,r2,q2⟩=> ⟨x::xs,H2,I2,.cons r1 r2,q2⟩
def xq (t:TA):TE:=fun σ H Q=> t σ H fun xs H1=> xs.length≤sizeLine∧∀ p,H1 p=none→Q (.ref p) (upd H1 p (.tup xs))
def xj (t:TA):TE:=fun σ H Q=> t σ H fun xs H1=> xs.length≤sizeLine∧∀ p,H1 p=none→Q (.ref p) (upd H1 p (.lst xs))
theorem v9 {x1} (h:PA X es t):PE X (.Tuple es x1 pos) (xq t):=by
 intro pins s σ H Q I hq
 refine wpAny_Tuple_spliced (thn (h pos pins s σ H _ I hq) fun us s1 ⟨xs,H1,I1,r,z,q⟩=> ⟨by rw [← r.length]; exact z,?_⟩)
 have hf:H1 s1.heap.objs.size=none:=I1.hok.fresh (Nat.le_refl _)
 refine ⟨.ref s1.heap.objs.size,upd H1 s1.heap.objs.size (.tup xs),I1.laid (t':=s1.toks) (fun b u e=> Heap.get?_push_of_some _ e) (Nat.le_refl _) ?_,rfl,q _ hf⟩
 exact ⟨z,us,r,⟨_,Heap.get?_push_size _ rfl,rfl,_,rfl⟩⟩
theorem vg (h:PA X es t):PE X (.List es pos) (xj t):=by
 intro pins s σ H Q I hq
 refine wpAny_List_spliced (thn (h pos pins s σ H _ I hq) fun us s1 ⟨xs,H1,I1,r,z,q⟩=> ⟨by rw [← r.length]; exact z,?_⟩)
 have hf:H1 s1.heap.objs.size=none:=I1.hok.fresh (Nat.le_refl _)
 refine ⟨.ref s1.heap.objs.size,upd H1 s1.heap.objs.size (.lst xs),I1.laid (t':=s1.toks) (fun b u e=> Heap.get?_push_of_some _ e) (Nat.le_refl _) ?_,rfl,q _ hf⟩
 exact ⟨z,us,0,r,Heap.get?_push_size _ rfl⟩
end
abbrev Sp:=List V→Hp→VK→XK→Prop
abbrev CXT:=List Env→Hp→Shared→XK→Value→Shared→Prop
structure tq (P:Program) (w:World) (K:PySem.W.Frag) (mg:Str→Option Value) (base:Heap) (A:Around) (outer:List Env) (s:Shared) (H:Hp):Prop where
 frames:A.frames=some outer
 mod:Mod K mg base
 bs:∀ b o,base.get? b=some o→s.heap.get? b=some o∧H b=none
 bsz:base.objs.size≤s.heap.objs.size
 funs:s.heap.FunFrames base outer
 frf:∀ b∈frs outer,H b=none
 hok:HOk P w H s.heap
 bare:AllBare s.gens
def CE (outer:List Env) (P:Program) (w:World) (H:Hp) (s:Shared) (Q:VK) (u:Value) (s':Shared):Prop:=
 ∃ v H',s'.os=s.os∧AllBare s'.gens∧Un (frs outer) [] H H' s.heap s'.heap∧HOk P w H' s'.heap∧aU v u∧Q v H'
def CR (CX:CXT) (outer:List Env) (P:Program) (w:World) (H:Hp) (s:Shared) (Q:VK) (E:XK) (r:Result) (s':Shared):Prop:=
 match r with
 | .ok (.ret u)=> CE outer P w H s Q u s'
 | .ok _=> False
 | .error e=> CX outer H s E e s'
structure bB (P:Program) (w:World) (K:PySem.W.Frag) (mg:Str→Option Value) (base:Heap) (CX:CXT) (k:Nat) (f:Addr) (fd:FuncData) (ps:List Str) (sp:Sp):Prop where
 len:∀ vs H Q E,sp vs H Q E→vs.length=ps.length
 run:∀ (A:Around) (outer:List Env) (s:Shared) (H:Hp) (args:Args) (us:List Value) (vs:List V) (Q:VK) (E:XK),cY k A→tq P w K mg base A outer s H→BindsTo s fd args (ps.zip us)→aK vs us→sp vs H Q E→
  codeAny (model P w) A (.call (.ref f) args) (CR CX outer P w H s Q E) s
theorem bB.mono {P:Program} {w:World} {K:PySem.W.Frag} {mg:Str→Option Value} {base:Heap} {CX:CXT} {j k:Nat} {f:Addr} {fd:FuncData} {ps:List Str} {sp:Sp} (F:bB P w K mg base CX j f fd ps sp) (h:j≤k):
  bB P w K mg base CX k f fd ps sp:=⟨F.len,fun A outer s H args us vs Q E hr=> F.run A outer s H args us vs Q E (hr.mono h)⟩
section
variable {X:Cx} {pins:List (Addr×Obj)} {σ:St} {H:Hp} {s s':Shared}
theorem Inv.env0 (I:Inv X pins σ H s):tq X.prog X.w X.K X.mg X.base X.A X.stack s H:=
 ⟨I.ok.frames,I.ok.mod,I.bs,Nat.le_trans I.ok.bsz I.sz,I.stack,I.stkFree,I.hok,I.bare⟩
theorem Inv.after {Q:VK} {u:Value} (I:Inv X pins σ H s) (h:CE X.stack X.prog X.w H s Q u s'):EP X pins σ Q u s':=by
 obtain ⟨v,H',os,bare,un,hok,r,q⟩:=h
 obtain ⟨hh,g,d,t,os'⟩:=s'
 obtain rfl:os'=s.os:=os
 exact ⟨v,H',I.call (h':=hh) (g':=g) (d':=d) (t':=t) (ch:=[]) un hok bare (fun b z=> absurd z (by simp)),r,q⟩
end
def wT (sp:Sp) (dvs:List V) (E:XK) (t:TA):TE:=fun σ H Q=> t σ H fun vs H1=> sp (vs++dvs) H1 Q E
def a_ (K:PySem.W.Frag) (fd:FuncData) (ps:List Str) (ds:List Value):Prop:=
 ∀ (s:Shared) (us:List Value),K.In s.heap→(us++ds).length=ps.length→BindsTo s fd ⟨us,[]⟩ (ps.zip (us++ds))
theorem a_.all {K:PySem.W.Frag} {fd:FuncData} {ps:List Str} (h:∀ us:List Value,us.length=ps.length→bindArgs fd ⟨us,[]⟩=pure (ps.zip us)):a_ K fd ps []:=fun s us _ hl=> by
 rw [List.append_nil] at hl ⊢
 exact .of_eq (h us hl)
def fo (CX:CXT) (X:Cx) (E:XK):Prop:=∀ (pins:List (Addr×Obj)) (σ:St) (H:Hp) (s:Shared) (e:Value) (s':Shared),Inv X pins σ H s→CX X.stack H s E e s'→X.xe e s'
section
variable {X:Cx} {CX:CXT} {k:Nat} {f C:Addr} {fd:FuncData} {ps:List Str} {sp:Sp} {dvs:List V} {ds:List Value} {E:XK} {x m:Str} {p pos apos:Pos} {e o:Expr} {es:List Expr} {ta:TE} {t:TA}
theorem vy {pins:List (Addr×Obj)} {σ:St} {H:Hp} {s:Shared} {Q:VK} {us:List Value} {vs:List V} (F:bB X.prog X.w X.K X.mg X.base CX k f fd ps sp) (hr:cY k X.A) (hb:a_ X.K fd ps ds) (hd:aK dvs ds) (hx:fo CX X E)
  (I:Inv X pins σ H s) (r:aK vs us) (h:sp (vs++dvs) H Q E):wpAny (model X.prog X.w) X.A (call (.ref f) us) (EP X pins σ Q) X.xe s:=by
 have r2:aK (vs++dvs) (us++ds):=r.append hd
 have hl:(us++ds).length=ps.length:=by rw [← r2.length]; exact F.len _ _ _ _ h
 refine wpAny_call (codeAny_mono (F.run X.A X.stack s H ⟨us,[]⟩ (us++ds) (vs++dvs) Q E hr I.env0 (hb s us I.kIn hl) r2 h) fun r s' hq=> ?_)
 cases r with
 | error e=> exact hx pins σ H s e s' I hq
 | ok fl=>
  cases fl with
  | ret u=> exact I.after hq
  | next=> exact False.elim hq
  | brk=> exact False.elim hq
  | cont=> exact False.elim hq
theorem jX (F:bB X.prog X.w X.K X.mg X.base CX k f fd ps sp) (hr:cY k X.A) (hg:Gl X x) (hm:X.mg x=some (.ref f)) (hk:PySem.W.keepIn X.K (.ref f)=true) (hb:a_ X.K fd ps ds) (hd:aK dvs ds) (hx:fo CX X E)
  (ha:PA X (e::es) t) (hdb:(x==("__debug__":Str))=false:=by decide) (he:starEach (e::es) X.env=(false,eval e X.env)::starEach es X.env:=by rfl) (hpl:(backTo pos (starEach es X.env)).any (·.1)=false:=by rfl):
  PE X (.Call (.Name x p) (e::es) [] pos) (wT sp dvs E t):=by
 intro pins s σ H Q I h
 refine wpAny_Call_Name_kw (fP I hg hm ?_ hdb)
 refine PySem.W.callWith_K (h₀:=X.base) I.ok.mod.kin hk (thn (ha pos pins s σ H _ I h) fun us s1 ⟨vs,H1,I1,r,q⟩=> ⟨I1.kIn,?_⟩) he hpl
 exact vy F hr hb hd hx I1 r q
structure Mk (K:PySem.W.Frag) (C f:Addr):Prop where
 makes:PySem.W.makesIn K C=true
 init:PySem.W.findIn K (.ref C) "__init__"=some (some (.ref f))
 fn:PySem.W.isFn K (.ref f)=true
 kp:PySem.W.keepIn K (.ref C)=true
end
section
variable {X:Cx} {CX:CXT} {k:Nat} {f C:Addr} {fd:FuncData} {ps ks:List Str} {sp:Sp} {E:XK} {x m:Str} {p pos apos kpos:Pos} {e o:Expr} {es:List Expr} {kws:List Keyword} {te ta:TE} {t tk:TA} {nm:Option Str}
structure xH (K:PySem.W.Frag) (fd:FuncData) (ps ks:List Str) (g:List Value→List Value→List Value) (gV:List V→List V→List V):Prop where
 to:∀ (s:Shared) (us ws:List Value),K.In s.heap→(g us ws).length=ps.length→BindsTo s fd ⟨us,ks.zip ws⟩ (ps.zip (g us ws))
 rel:∀ {vs:List V} {us:List Value} {zs:List V} {ws:List Value},aK vs us→aK zs ws→aK (gV vs zs) (g us ws)
variable {g:List Value→List Value→List Value} {gV:List V→List V→List V}
end
structure aH (N P:List Str) (sc:Scope):Prop where
 kind:sc.kind=.function
 co:sc.isCoroutine=false
 gen:sc.isGenerator=false
 nd:N.Nodup
 pre:N.take P.length=P
 par:∀ x∈P,sc.names.lookup x=some .local∨sc.names.lookup x=some .cell
 nofree:∀ y∈sc.names,y.2≠.free
theorem i9 {kindOf:Str→Option NameKind} {x:Str}:∀ {binds:List (Str×Value)} {m:Str→Option Value},(∀ v,(x,v) ∉ binds)→bindL kindOf binds m x=m x
 | [],_,_=> rfl
 | (n,v)::r,m,h=> by
  unfold bindL
  rw [i9 fun w hw=> h w (List.mem_cons_of_mem _ hw)]
  split
  ·have:x≠n:=by rintro rfl; exact h v List.mem_cons_self
   simp [this]
  ·rfl
theorem jg {kindOf:Str→Option NameKind} {x:Str}:∀ {binds:List (Str×Value)} {m:Str→Option Value},(∀ v,(x,v) ∉ binds)→bindC kindOf binds m x=m x
 | [],_,_=> rfl
 | (n,v)::r,m,h=> by
  unfold bindC
  rw [jg fun w hw=> h w (List.mem_cons_of_mem _ hw)]
  split
  ·rfl
  ·have:x≠n:=by rintro rfl; exact h v List.mem_cons_self
   simp [this]
theorem jq {kindOf:Str→Option NameKind} {x:Str} {v:Value}:∀ {P:List Str} {vs:List Value} {i:Nat} {m:Str→Option Value},P.Nodup→P[i]?=some x→vs[i]?=some v→kindOf x=some .local→
  bindL kindOf (P.zip vs) m x=some v
 | [],_,_,_,_,h,_,_=> by simp at h
 | _::_,[],_,_,_,_,h,_=> by simp at h
 | p::P,w::vs,0,m,nd,h1,h2,hk=> by
  simp at h1 h2; subst h1; subst h2
  show bindL kindOf ((p,w)::P.zip vs) m p=_
  unfold bindL
  rw [i9 fun v hv=> (List.nodup_cons.mp nd).1 (List.of_mem_zip hv).1,if_pos hk]
  simp
 | p::P,w::vs,i+1,m,nd,h1,h2,hk=> by
  show bindL kindOf ((p,w)::P.zip vs) m x=_
  unfold bindL
  exact jq (i:=i) (List.nodup_cons.mp nd).2 (by simpa using h1) (by simpa using h2) hk
theorem i5 {kindOf:Str→Option NameKind} {x:Str} {v:Value}:∀ {P:List Str} {vs:List Value} {i:Nat} {m:Str→Option Value},P.Nodup→P[i]?=some x→vs[i]?=some v→kindOf x≠some .local→
  bindC kindOf (P.zip vs) m x=some v
 | [],_,_,_,_,h,_,_=> by simp at h
 | _::_,[],_,_,_,_,h,_=> by simp at h
 | p::P,w::vs,0,m,nd,h1,h2,hk=> by
  simp at h1 h2; subst h1; subst h2
  show bindC kindOf ((p,w)::P.zip vs) m p=_
  unfold bindC
  rw [jg fun v hv=> (List.nodup_cons.mp nd).1 (List.of_mem_zip hv).1,if_neg hk]
  simp
 | p::P,w::vs,i+1,m,nd,h1,h2,hk=> by
  show bindC kindOf ((p,w)::P.zip vs) m x=_
  unfold bindC
  exact i5 (i:=i) (List.nodup_cons.mp nd).2 (by simpa using h1) (by simpa using h2) hk
def start (N:List Str) (vs:List V):St:=vs.map some++List.replicate (N.length - vs.length) none
def dj (CX:CXT) (P:Program) (w:World) (K:PySem.W.Frag) (mg:Str→Option Value) (base:Heap) (N:List Str) (qual:Str) (scope:Scope) (f:Addr) (cd:Value) (A:Around) (outer:List Env) (s:Shared) (H:Hp) (E:XK):Cx where
 prog:=P
 w:=w
 K:=K
 mg:=mg
 base:=base
 A:=A.deeper (envOfC qual scope s.heap.objs.size f cd)
 N:=N
 s₀:=s
 H₀:=H
 env:=envOfC qual scope s.heap.objs.size f cd
 outer:=outer
 stack:=envOfC qual scope s.heap.objs.size f cd::outer
 ex:=[]
 calm:=true
 fn:=fun _=> true
 pn:=[]
 xe:=fun e s'=> wpAny (model P w) (A.deeper (envOfC qual scope s.heap.objs.size f cd)) (leaving (envOfC qual scope s.heap.objs.size f cd) e) (fun _ s''=> CX outer H s E e s'') (fun e' s''=> CX outer H s E e' s'') s'
theorem lg {sc:Scope} {n:Nat} {x:Str} (h:sc.names.lookup x=some .cell):∃ c,(cellsFrom n sc.names []).lookup x=some c:=by
 have q:=PySem.W.cellsFrom_some sc.names n [] (.inl h)
 exact Option.isSome_iff_exists.mp q
theorem oX {CX:CXT} {P:Program} {w:World} {K:PySem.W.Frag} {mg:Str→Option Value} {base:Heap} {N ps:List Str} {qual:Str} {scope:Scope} {f:Addr} {cd:Value} {A:Around} {outer:List Env} {s s1:Shared} {H:Hp} {E:XK} {us:List Value} {vs:List V}
  (S:aH N ps scope) (hd:A.handled=none) (e0:tq P w K mg base A outer s H) (hl:vs.length=ps.length) (r:aK vs us)
  (x:InCallC s s.heap.objs.size (bindL (envOfC qual scope s.heap.objs.size f cd).kindOf (ps.zip us) fun _=> none) (cellsFrom (s.heap.objs.size+1) scope.names []) (bindC (envOfC qual scope s.heap.objs.size f cd).kindOf (ps.zip us) fun _=> none) s1):
  Inv (dj CX P w K mg base N qual scope f cd A outer s H E) [] (start N vs) H s1:=by
 have hpl:ps.length≤N.length:=by have:=congrArg List.length S.pre; rw [List.length_take] at this; omega
 obtain ⟨h1,tk,rfl,hk⟩:=x.done
 have noA:∀ b:Addr,b ∉ (dj CX P w K mg base N qual scope f cd A outer s H E).ex:=fun b z=> absurd (show b∈([]:List Addr) from z) (by simp)
 refine ⟨⟨e0.mod,S.kind,rfl,rfl,Nat.le_refl _,fun y z c h1 h2=> ?_,fun y hy=> ?_,fun y c _ h=> ?_,fun _=> hd,Around.frames_deeper e0.frames,.inr ⟨rfl,rfl⟩,fun b z=> absurd z (noA b),e0.bs,e0.bsz,fun b _ _=> noA b,fun b z=> absurd z (noA b),e0.funs,e0.frf⟩,
  rfl,e0.bare,Un.kept hk,⟨_,x.toInCall.ns,fun i y v h1 h2 h3=> ?_⟩,fun y c h=> ⟨_,x.cell y c h⟩,e0.hok.fresh (Nat.le_refl _),fun y c h=> ?_,fun p hp=> absurd (show p∈([]:List (Addr×Obj)) from hp) (by simp),e0.hok.kept hk,?_⟩
 ·exact name_of_addr x.apart (PySem.mem_of_lookup h1) (PySem.mem_of_lookup h2)
 ·have hy:scope.names.lookup y=some .cell∨scope.names.lookup y=some .free:=hy
  rcases hy with hy | hy
  ·exact lg hy
  ·exact absurd rfl (S.nofree _ (PySem.mem_of_lookup hy))
 ·exact Nat.le_of_lt (x.above y c (PySem.mem_of_lookup h))
 ·have hi:i < vs.length:=by
   unfold start at h2
   by_cases hi:i < vs.length
   ·exact hi
   ·rw [List.getElem?_append_right (by simpa using hi)] at h2
    rw [List.getElem?_replicate] at h2
    split at h2 <;> cases h2
  have ha:vs[i]?=some v:=by
   unfold start at h2
   rw [List.getElem?_append_left (by simpa using hi),List.getElem?_map] at h2
   cases e:vs[i]? with
   | none=> rw [e] at h2; cases h2
   | some a=> rw [e] at h2; cases h2; rfl
  obtain ⟨u,hu,rv⟩:=r.get ha
  have hp:ps[i]?=some y:=by
   rw [← S.pre,List.getElem?_take_of_lt (by omega)]; exact h1
  have ndP:ps.Nodup:=by rw [← S.pre]; exact S.nd.sublist (List.take_sublist _ _)
  refine ⟨u,rv,?_⟩
  rcases S.par y (List.mem_of_getElem? hp) with k | k
  ·exact .inl ⟨k,jq ndP hp hu k⟩
  ·obtain ⟨c,e⟩:=lg (n:=s.heap.objs.size+1) k
   refine .inr ⟨.inl k,c,e,?_⟩
   have q:=x.cell y c e
   rw [i5 ndP hp hu (by show scope.names.lookup y≠_; rw [k]; decide)] at q
   exact q
 ·exact e0.hok.fresh (Nat.le_of_lt (x.above y c (PySem.mem_of_lookup h)))
 ·unfold start
  show _=N.length
  rw [List.length_append,List.length_map,List.length_replicate]
  omega
theorem wP {CX:CXT} {P:Program} {w:World} {K:PySem.W.Frag} {mg:Str→Option Value} {base:Heap} {k:Nat} {f:Addr} {name qual:Str} {params:Arguments} {body:List Stmt} {scope:Scope} {dV kV doc pm cdv ct oc:Value} {an od:Option Addr}
  {osl:Array (Option Value)} {N ps:List Str} {sp:Sp} (lk:K.lookup f=some ⟨oc,od,.func (PySem.W.fnOf name qual params body scope dV kV doc pm an cdv ct),osl⟩) (hcd:PySem.W.codeIn K cdv qual=true) (S:aH N ps scope)
  (len:∀ vs H Q E,sp vs H Q E→vs.length=ps.length)
  (hbody:∀ (A:Around) (outer:List Env) (s:Shared) (H:Hp) (vs:List V) (Q:VK) (E:XK),cY k (A.deeper (envOfC qual scope s.heap.objs.size f cdv))→sp vs H Q E→
   ∃ t,PSs (dj CX P w K mg base N qual scope f cdv A outer s H E) body t∧t { nx:=fun _ H'=> Q .non H',rt:=Q } (start N vs) H):
  bB P w K mg base CX (k+1) f (PySem.W.fnOf name qual params body scope dV kV doc pm an cdv ct) ps sp:=by
 refine ⟨len,fun A outer s H args us vs Q E hr e0 hb r hsp=> ?_⟩
 have hl:=len _ _ _ _ hsp
 have KX:K.In s.heap:=e0.mod.kin.keeps fun b o e=> (e0.bs b o e).1
 have lim:s.heap.NoLimit:=e0.mod.nolimit.keeps fun b o e=> (e0.bs b o e).1
 have hkind:∀ y∈ps.zip us,scope.names.lookup y.1=some .local∨(scope.names.lookup y.1=some .cell∧((cellsFrom (s.heap.objs.size+1) scope.names []).lookup y.1).isSome=true):=fun ⟨n,v⟩ hy=> by
  rcases S.par n (List.of_mem_zip hy).1 with q | q
  ·exact .inl q
  ·exact .inr ⟨q,PySem.W.cellsFrom_some _ _ _ (.inl q)⟩
 refine codeAny_call_function hr.depth (KX _ _ lk) rfl S.co S.gen rfl (PySem.W.codeRec_of KX hcd) (hb _ _ _ _ ?_)
 refine wpAny_newFunctionEnv_cells S.kind hkind fun env he s1 x=> ?_
 subst he
 refine ⟨lim.keeps x.toInCall.keep,codeAny_func ?_⟩
 obtain ⟨t,ht,hq⟩:=hbody A outer s H vs Q E (hr.deeper _) hsp
 have I:Inv (dj CX P w K mg base N qual scope f cdv A outer s H E) [] (start N vs) H s1:=oX S hr.hd e0 hl r x
 refine wpAny_mono (ht [] s1 (start N vs) H _ I hq) (fun fl s' hs=> ?_) fun e s' hs=> hs
 have fin:∀ {σ':St} {H':Hp} {v:V} {u:Value},Inv (dj CX P w K mg base N qual scope f cdv A outer s H E) [] σ' H' s'→aU v u→Q v H'→CE outer P w H s Q u s':=
  fun {σ' H' v u} J rv q=> ⟨v,H',J.os,J.bare,J.base,J.hok,rv,q⟩
 cases fl with
 | ret u=>
  obtain ⟨v,σ',H',J,rv,q⟩:=hs
  exact fin J rv q
 | next=>
  obtain ⟨σ',H',J,q⟩:=hs
  exact fin (v:=V.non) (u:=Value.none) J rfl q
 | brk=>
  obtain ⟨_,_,_,q⟩:=hs
  exact False.elim q
 | cont=>
  obtain ⟨_,_,_,q⟩:=hs
  exact False.elim q
end L2
namespace L2
open PySem PySem.Spec PyProof.Rows
section
variable {X:Cx} {x:Str} {p pos:Pos} {e:Expr} {es:List Expr} {t:TA} {id T:String} {r:List V→Hp→VK→Prop}
def tCB (r:List V→Hp→VK→Prop) (t:TA):TE:=fun σ H Q=> t σ H fun vs H1=> r vs H1 Q
theorem iw (hc:dc X (.builtin id) r) (hg:Gl X x) (hm:X.mg x=none) (hv:bootBuiltins x=some (.builtin id)) (ha:PA X (e::es) t) (hn:x≠"__name__":=by decide) (hdb:(x==("__debug__":Str))=false:=by decide)
  (he:starEach (e::es) X.env=(false,eval e X.env)::starEach es X.env:=by rfl) (hpl:(backTo pos (starEach es X.env)).any (·.1)=false:=by rfl):PE X (.Call (.Name x p) (e::es) [] pos) (tCB r t):=by
 intro pins s σ H Q I h
 refine wpAny_Call_Name_kw (cT I hg hm hv ?_ hn hdb)
 exact PyProof.Rows.callWith_builtin1 (thn (ha pos pins s σ H _ I h) fun us s1 ⟨vs,H1,I1,r1,q1⟩=> hc pins s1 σ H1 vs us Q I1 r1 q1) he hpl
theorem n8 (hc:dc X (.type T) r) (hg:Gl X x) (hm:X.mg x=none) (hv:bootBuiltins x=some (.type T)) (ha:PA X (e::es) t) (hn:x≠"__name__":=by decide) (hdb:(x==("__debug__":Str))=false:=by decide)
  (he:starEach (e::es) X.env=(false,eval e X.env)::starEach es X.env:=by rfl) (hpl:(backTo pos (starEach es X.env)).any (·.1)=false:=by rfl):PE X (.Call (.Name x p) (e::es) [] pos) (tCB r t):=by
 intro pins s σ H Q I h
 refine wpAny_Call_Name_kw (cT I hg hm hv ?_ hn hdb)
 exact PyProof.Rows.callWith_type1 (thn (ha pos pins s σ H _ I h) fun us s1 ⟨vs,H1,I1,r1,q1⟩=> hc pins s1 σ H1 vs us Q I1 r1 q1) he hpl
end
end L2
namespace HT
open PySem PyProof.Rows
section
open PySem.SeqAt
open PySem.AutoSeq1 (wpAny_loadPart')
open PySem.MeetsSeq PySem.MeetsSeq2 PySem.MeetsSeq3
end
section
variable {prog:Program} {w:World} {A:Around} {E:Value→Shared→Prop} {s:Shared}
def sIx (n d:Nat):Option Int→Nat
 | none=> d
 | some v=> if v < 0 then (v+(n:Int)).toNat else min v.toNat n
theorem sIx_none (n d:Nat):sIx n d none=d:=rfl
end
end HT
namespace L2
open PySem PySem.Spec PyProof.Rows
abbrev TO:=St→Hp→(Option Int→Hp→Prop)→Prop
def PO (X:Cx) (e:Option Expr) (t:TO):Prop:=
 ∀ (pins:List (Addr×Obj)) (s:Shared) (σ:St) (H:Hp) (Q:Option Int→Hp→Prop),Inv X pins σ H s→t σ H Q→
  wpAny (model X.prog X.w) X.A (evalPart e X.env) (fun u s'=> ∃ o H',Inv X pins σ H' s'∧IsPart u o∧Q o H') X.xe s
def sJ:TO:=fun _ H Q=> Q none H
def wL (t:TE):TO:=fun σ H Q=> t σ H fun x H1=> ∃ i,x=.int i∧Q (some i) H1
section
variable {X:Cx} {e:Expr} {te:TE} {lo hi:Option Expr} {tl th:TO} {pos p2:Pos}
theorem r_:PO X none sJ:=by
 intro pins s σ H Q I h
 rw [evalPart_none]
 exact wpAny_pure ⟨none,H,I,.none,h⟩
theorem t9 (h:PE X e te):PO X (some e) (wL te):=by
 intro pins s σ H Q I hw
 rw [evalPart_some]
 refine thn (h pins s σ H _ I hw) fun u s1 ⟨x,H1,I1,r1,q1⟩=> ?_
 obtain ⟨i,rfl,q⟩:=q1
 obtain ⟨t,rfl⟩:=r1
 exact ⟨some i,H1,I1,.int i t,q⟩
def SlR (X:Cx) (r:V→Option Int→Option Int→Hp→VK→Prop):Prop:=
 ∀ (pins:List (Addr×Obj)) (s:Shared) (σ:St) (H:Hp) (x:V) (v vl vu:Value) (lo hi:Option Int) (sl:Addr) (Q:VK),Inv X pins σ H s→aU x v→s.heap.IsSliceOf sl vl vu .none→IsPart vl lo→IsPart vu hi→r x lo hi H Q→
  ∃ T id,typeLookup (.type T) "__getitem__"=pure (some (.builtin id))∧s.TypeIs v T∧wpAny (model X.prog X.w) X.A (getItem v (.ref sl)) (EP X pins σ Q) X.xe s
def tSl (r:V→Option Int→Option Int→Hp→VK→Prop) (te:TE) (tl th:TO):TE:=fun σ H Q=> te σ H fun x H1=> tl σ H1 fun l H2=> th σ H2 fun u H3=> r x l u H3 Q
theorem ql {r:V→Option Int→Option Int→Hp→VK→Prop} (hr:SlR X r) (he:PE X e te) (hl:PO X lo tl) (hu:PO X hi th):PE X (.Subscript e (.Slice lo hi none p2) pos) (tSl r te tl th):=by
 intro pins s σ H Q I h
 refine Subscript_ (thn (he pins s σ H _ I h) fun v s1 ⟨x,H1,I1,r1,q1⟩=> ?_)
 refine wpAny_Slice (thn (hl pins s1 σ H1 _ I1 q1) fun vl s2 ⟨l,H2,I2,pl,q2⟩=> thn (hu pins s2 σ H2 _ I2 q2) fun vu s3 ⟨u,H3,I3,pu,q3⟩=> ?_)
 rw [evalPart_none]
 refine wpAny_pure ?_
 have I4:Inv X pins σ H3 { s3 with heap:=s3.heap.push { cls:=.type "slice",data:=.fields #[vl,vu,.none] } }:=I3.kept (t':=s3.toks) fun b ob q=> Heap.get?_push_of_some _ q
 obtain ⟨T,id,hT,ht,hg⟩:=hr pins { s3 with heap:=s3.heap.push { cls:=.type "slice",data:=.fields #[vl,vu,.none] } } σ H3 x v vl vu l u s3.heap.objs.size Q I4 r1 (Heap.IsSliceOf.new ..) pl pu q3
 show wpAny (model X.prog X.w) X.A (subscriptTail e (.Slice lo hi none p2) v (.ref s3.heap.objs.size)) (EP X pins σ Q) X.xe { s3 with heap:=s3.heap.push { cls:=.type "slice",data:=.fields #[vl,vu,.none] } }
 exact tail_any (ops:=[.ref s3.heap.objs.size,v]) ht hT hg (by with_unfolding_all rfl)
def n6 (xs:List V) (lo hi:Option Int):List V:=(xs.drop (HT.sIx xs.length 0 lo)).take (HT.sIx xs.length xs.length hi - HT.sIx xs.length 0 lo)
theorem kF (xs:List V) (lo hi:Option Int):(n6 xs lo hi).length≤xs.length:=by
 unfold n6
 rw [List.length_take,List.length_drop]
 omega
end
end L2
namespace L2
open PySem PySem.Spec PyProof.Rows
def ixN (n:Nat) (i:Int):Option Nat:=if 0≤i then (if i < n then some i.toNat else none) else if -(n:Int)≤i then some (i+n).toNat else none
def atI {α:Type} (xs:List α) (i:Int):Option α:=(ixN xs.length i).bind fun j=> xs[j]?
theorem tf {n:Nat} {i:Int} {j:Nat} (h:ixN n i=some j):seqIndex? i n=some j∧j < n∧-(n:Int)≤i∧i < n:=by
 unfold ixN at h
 by_cases h0:0≤i
 ·rw [if_pos h0] at h
  by_cases h1:i < n
  ·rw [if_pos h1] at h
   have e:i.toNat=j:=Option.some.inj h
   exact ⟨by rw [seqIndex_of h0 h1,e],by omega,by omega,h1⟩
  ·rw [if_neg h1] at h; cases h
 ·rw [if_neg h0] at h
  by_cases h1:-(n:Int)≤i
  ·rw [if_pos h1] at h
   have e:(i+n).toNat=j:=Option.some.inj h
   exact ⟨by rw [seqIndex_neg (by omega) h1,e],by omega,h1,by omega⟩
  ·rw [if_neg h1] at h; cases h
theorem nE {α:Type} {xs:List α} {i:Int} {v:α} (h:atI xs i=some v):∃ j,seqIndex? i xs.length=some j∧xs[j]?=some v∧j < xs.length∧-(xs.length:Int)≤i∧i < xs.length:=by
 unfold atI at h
 cases e:ixN xs.length i with
 | none=> rw [e] at h; cases h
 | some j=>
  rw [e] at h
  obtain ⟨h1,h2,h3,h4⟩:=tf e
  exact ⟨j,h1,h,h2,h3,h4⟩
theorem mK {α:Type} {xs:List α} {j:Nat} {v:α} (h:xs[j]?=some v):atI xs (j:Int)=some v:=by
 have hj:j < xs.length:=(List.getElem?_eq_some_iff.mp h).1
 have e:ixN xs.length (j:Int)=some j:=by
  unfold ixN
  rw [if_pos (by omega),if_pos (by omega)]; simp
 unfold atI; rw [e]; exact h
def jO (b:Expr):Prop:=∀ o i,subscripted b false o i=operate [o,i] (getItem o i)
def IxR (X:Cx) (r:R2):Prop:=
 ∀ (value slice:Expr) (pins:List (Addr×Obj)) (s:Shared) (σ:St) (H:Hp) (x y:V) (v u:Value) (Q:VK),Inv X pins σ H s→aU x v→aU y u→r x y H Q→
  subscripted slice false v u=operate [v,u] (getItem v u)→wpAny (model X.prog X.w) X.A (subscriptTail value slice v u) (EP X pins σ Q) X.xe s
def MtR (X:Cx) (id:String) (r:V→List V→Hp→VK→Prop):Prop:=
 ∀ (pins:List (Addr×Obj)) (s:Shared) (σ:St) (H:Hp) (x:V) (xs:List V) (v:Value) (us:List Value) (Q:VK),Inv X pins σ H s→aU x v→aK xs us→r x xs H Q→
  wpAny (model X.prog X.w) X.A (call (.builtin id) (v::us)) (EP X pins σ Q) X.xe s
section
variable {X:Cx} {a b:Expr} {ta tb:TE} {pos:Pos}
theorem IxR.or {r r':R2} (h:IxR X r) (h':IxR X r'):IxR X (fun x y H Q=> r x y H Q∨r' x y H Q):=by
 intro value slice pins s σ H x y v u Q I rx ry q hs
 rcases q with q | q
 ·exact h value slice pins s σ H x y v u Q I rx ry q hs
 ·exact h' value slice pins s σ H x y v u Q I rx ry q hs
theorem uD {r:R2} (hr:IxR X r) (ha:PE X a ta) (hb:PE X b tb) (hs:jO b):PE X (.Subscript a b pos) (tOp r ta tb):=by
 intro pins s σ H Q I h
 exact Subscript_ (vJ ha hb I h fun v u s2 x y H2 I2 rx ry q=> hr a b pins s2 σ H2 x y v u Q I2 rx ry q (hs _ _))
def xy (K:PySem.W.Frag):R2:=fun x y H Q=> ∃ p xs i v,x=.ref p∧y=.int i∧SqL K H p xs∧atI xs i=some v∧Q v H
def xE (K:PySem.W.Frag):R2:=fun x y H Q=> ∃ p xs i v,x=.ref p∧y=.int i∧SqT K H p xs∧atI xs i=some v∧Q v H
theorem m9:IxR X (xy X.K):=by
 intro value slice pins s σ H x y v u Q I rx ry h hs
 obtain ⟨p,xs,i,z,rfl,rfl,hq,he,q⟩:=h
 cases rx
 obtain ⟨t,rfl⟩:=ry
 obtain ⟨its,r,pl,hz⟩:=I.list hq
 obtain ⟨j,h1,h2,h3,h4,h5⟩:=nE he
 obtain ⟨w,ew,rw'⟩:=r.get h2
 have hl:=r.length
 have hn:=mz
 have fin:EP X pins σ Q w s:=⟨z,H,I,rw',q⟩
 by_cases h0:0≤i
 ·have hj:i.toNat=j:=by
   rw [seqIndex_of h0 h5] at h1
   exact Option.some.inj h1
  exact item_listR pl.isList h0 (by omega) (by rw [hj]; simpa using ew) fin hs
 ·have hj:(i+(its.toArray.size:Int)).toNat=j:=by
   rw [seqIndex_neg (by omega) h4] at h1
   rw [List.size_toArray,← hl]
   exact Option.some.inj h1
  exact subscriptTail_builtinR (x:=w) pl.isList.typeIs slot_list_getitem.lookup
   (wpAny_getItem_list_neg (Q:=fun r s'=> r=w∧EP X pins σ Q r s') pl.isList (by omega) (by rw [List.size_toArray] <;> omega) (by omega) (by rw [hj]; simpa using ew) ⟨rfl,fin⟩) hs
theorem vE:IxR X (xE X.K):=by
 intro value slice pins s σ H x y v u Q I rx ry h hs
 obtain ⟨p,xs,i,z,rfl,rfl,hq,he,q⟩:=h
 cases rx
 obtain ⟨t,rfl⟩:=ry
 obtain ⟨its,r,pl,hz⟩:=I.tuple hq
 obtain ⟨j,h1,h2,h3,h4,h5⟩:=nE he
 obtain ⟨w,ew,rw'⟩:=r.get h2
 have hl:=r.length
 have hn:=mz
 have fin:EP X pins σ Q w s:=⟨z,H,I,rw',q⟩
 exact subscriptTail_builtinR (x:=w) pl.typeIs slot_tuple_getitem.lookup
  (getItem_tuple (j:=j) (Q:=fun r s'=> r=w∧EP X pins σ Q r s') pl (by omega) (by omega) (by rw [List.size_toArray,← hl]; exact h1) (by simpa using ew) ⟨rfl,fin⟩) hs
theorem jv (lo hi:Option Int) (n:Nat):(sliceBounds lo hi none n).1=((HT.sIx n 0 lo:Nat):Int)∧(sliceBounds lo hi none n).2.1=((HT.sIx n n hi:Nat):Int)∧(sliceBounds lo hi none n).2.2=1:=by
 refine ⟨?_,?_,rfl⟩
 ·cases lo with
  | none=> simp [sliceBounds,HT.sIx]
  | some i=>
   simp only [sliceBounds,HT.sIx,Option.getD_none,show (1:Int) > 0 by decide,if_true]
   by_cases h:i < 0
   ·simp only [h,if_true] <;> omega
   ·simp only [h,if_false] <;> omega
 ·cases hi with
  | none=> simp [sliceBounds,HT.sIx]
  | some i=>
   simp only [sliceBounds,HT.sIx,Option.getD_none,show (1:Int) > 0 by decide,if_true]
   by_cases h:i < 0
   ·simp only [h,if_true] <;> omega
   ·simp only [h,if_false] <;> omega
theorem iL (its:List Value) (lo hi:Option Int):slicePick its.toArray lo hi none=((its.drop (HT.sIx its.length 0 lo)).take (HT.sIx its.length its.length hi - HT.sIx its.length 0 lo)).toArray:=by
 obtain ⟨h1,h2,h3⟩:=jv lo hi its.toArray.size
 unfold slicePick
 rw [h1,h2,h3]
 simp only [sliceRange_one,pick_run,List.size_toArray] <;> rfl
def xi (K:PySem.W.Frag):V→Option Int→Option Int→Hp→VK→Prop:=fun x lo hi H Q=> ∃ a xs,x=.ref a∧SqL K H a xs∧∀ p,H p=none→Q (.ref p) (upd H p (.lst (n6 xs lo hi)))
theorem sD:SlR X (xi X.K):=by
 intro pins s σ H x v vl vu lo hi sl Q I rx hs pl pu h
 obtain ⟨a,xs,rfl,hx,q⟩:=h
 cases rx
 obtain ⟨its,r,ht,hz⟩:=I.list hx
 have hlen:=r.length
 refine ⟨"list",_,slot_list_getitem.lookup,ht.isList.typeIs,?_⟩
 refine wpAny_getItem_list_slice ht.isList hs pl pu .none (by simp) ?_ (by rw [List.size_toArray] <;> omega)
 rw [iL,← hlen]
 refine ⟨.ref s.heap.objs.size,_,I.laid (t':=s.toks) (o:=.lst (n6 xs lo hi)) (fun b ob q=> Heap.get?_push_of_some _ q) (Nat.le_refl _) ?_,rfl,q _ (I.hok.fresh (Nat.le_refl _))⟩
 exact ⟨Nat.le_trans (kF xs lo hi) hz,_,0,(r.drop (HT.sIx xs.length 0 lo)).take (HT.sIx xs.length xs.length hi - HT.sIx xs.length 0 lo),Heap.get?_push_size _ rfl⟩
def eZ:V→Bool
 | .non=> true
 | .bl _=> true
 | .int _=> true
 | .str _=> true
 | _=> false
def eqV:V→V→Bool
 | .non,.non=> true
 | .bl a,.bl b=> a==b
 | .bl a,.int b=> (if a then 1 else 0)==b
 | .int a,.bl b=> a==(if b then 1 else 0)
 | .int a,.int b=> a==b
 | .str a,.str b=> a==b
 | _,_=> false
theorem uR {A:Around} {s:Shared} {y x:V} {u v:Value} (ry:aU y u) (rx:aU x v) (fy:eZ y=true) (fx:eZ x=true):SeqAt.EqAt A s u v (eqV y x):=by
 cases y with
 | non=>
  cases ry
  cases x with
  | non=> cases rx; exact SeqAt.EqAt.same _
  | bl b=> cases rx; exact SeqAt.EqAt.none_bool b
  | int b=> obtain ⟨t,rfl⟩:=rx; exact SeqAt.EqAt.none_int b t
  | str b=> obtain ⟨t,rfl⟩:=rx; exact SeqAt.EqAt.none_str b t
  | _=> exact absurd (show false=true from fx) Bool.false_ne_true
 | bl a=>
  cases ry
  cases x with
  | non=> cases rx; exact SeqAt.EqAt.bool_none a
  | bl b=> cases rx; exact SeqAt.EqAt.bool_bool a b
  | int b=> obtain ⟨t,rfl⟩:=rx; exact SeqAt.EqAt.bool_int a b t
  | str b=> obtain ⟨t,rfl⟩:=rx; exact SeqAt.EqAt.bool_str a b t
  | _=> exact absurd (show false=true from fx) Bool.false_ne_true
 | int a=>
  obtain ⟨t',rfl⟩:=ry
  cases x with
  | non=> cases rx; exact SeqAt.EqAt.int_none a t'
  | bl b=> cases rx; exact SeqAt.EqAt.int_bool a t' b
  | int b=> obtain ⟨t,rfl⟩:=rx; exact SeqAt.EqAt.int_int a t' b t
  | str b=> obtain ⟨t,rfl⟩:=rx; exact SeqAt.EqAt.int_str a t' b t
  | _=> exact absurd (show false=true from fx) Bool.false_ne_true
 | str a=>
  obtain ⟨t',rfl⟩:=ry
  cases x with
  | non=> cases rx; exact SeqAt.EqAt.str_none a t'
  | bl b=> cases rx; exact SeqAt.EqAt.str_bool a t' b
  | int b=> obtain ⟨t,rfl⟩:=rx; exact SeqAt.EqAt.str_int a t' b t
  | str b=> obtain ⟨t,rfl⟩:=rx; exact SeqAt.EqAt.str_str a t' b t
  | _=> exact absurd (show false=true from fx) Bool.false_ne_true
 | _=> exact absurd (show false=true from fy) Bool.false_ne_true
def eqU (x:V) (u:Value):Bool:=match u with
 | .none=> eqV .non x
 | .bool b=> eqV (.bl b) x
 | .int i _=> eqV (.int i) x
 | .str z _=> eqV (.str z) x
 | _=> false
theorem pY {x y:V} {u:Value} (r:aU y u) (f:eZ y=true):eqU x u=eqV y x:=by
 cases y with
 | non=> cases r; rfl
 | bl b=> cases r; rfl
 | int i=> obtain ⟨t,rfl⟩:=r; rfl
 | str z=> obtain ⟨t,rfl⟩:=r; rfl
 | _=> exact absurd (show false=true from f) Bool.false_ne_true
theorem jR {x:V}:∀ {xs:List V} {us:List Value},aK xs us→xs.all eZ=true→us.any (eqU x)=xs.any fun y=> eqV y x
 | _,_,.nil,_=> rfl
 | y::xs,u::us,.cons r t,f=> by
  rw [List.all_cons,Bool.and_eq_true] at f
  rw [List.any_cons,List.any_cons,pY r f.1,jR t f.2]
theorem iq {A:Around} {s:Shared} {x:V} {v:Value} (rx:aU x v) (fx:eZ x=true):∀ {xs:List V} {us:List Value},aK xs us→xs.all eZ=true→∀ u∈us,SeqAt.EqAt A s u v (eqU x u)
 | _,_,.nil,_=> fun u hu=> by cases hu
 | y::xs,u::us,.cons r t,f=> fun u' hu=> by
  rw [List.all_cons,Bool.and_eq_true] at f
  rcases List.mem_cons.mp hu with rfl | hu
  ·rw [pY r f.1]; exact uR r rx f.1 fx
  ·exact iq rx fx t f.2 u' hu
def inV (x:V) (xs:List V):Bool:=xs.any fun y=> eqV y x
def rIn (K:PySem.W.Frag) (neg:Bool):R2:=fun x y H Q=> ∃ p xs,y=.ref p∧(SqL K H p xs∨SqT K H p xs)∧eZ x=true∧xs.all eZ=true∧Q (.bl (if neg then !inV x xs else inV x xs)) H
theorem oF:OpR X (compareOp .In) (rIn X.K false):=by
 intro pins s σ H x y v u Q I rx ry h
 obtain ⟨p,xs,rfl,hq,fx,fs,q⟩:=h
 cases ry
 rcases hq with hq | hq
 ·obtain ⟨its,r,pl,hz⟩:=I.list hq
  refine SeqAt.in_listAt (eqU x) pl.isList (fun w hw=> iq rx fx r fs w (by simpa using hw)) ⟨.bl _,H,I,rfl,?_⟩
  rw [show its.toArray.any (eqU x)=its.any (eqU x) by simp,jR r fs]
  exact q
 ·obtain ⟨its,r,pl,hz⟩:=I.tuple hq
  refine SeqAt.in_tupleAt (eqU x) pl (fun w hw=> iq rx fx r fs w (by simpa using hw)) ⟨.bl _,H,I,rfl,?_⟩
  rw [show its.toArray.any (eqU x)=its.any (eqU x) by simp,jR r fs]
  exact q
theorem fM:dc X (.builtin "len") (fun xs H Q=> ∃ p ys,xs=[.ref p]∧(SqL X.K H p ys∨SqT X.K H p ys)∧Q (.int ys.length) H):=by
 intro pins s σ H xs us Q I r h
 obtain ⟨p,ys,rfl,hq,q⟩:=h
 obtain ⟨u,rfl,rx⟩:=gY r
 cases rx
 have hn:=mz
 rcases hq with hq | hq
 ·obtain ⟨its,r',pl,hz⟩:=I.list hq
  have hlen:=r'.length
  exact Calls.call_len_list pl.isList (by simp only [List.size_toArray] <;> omega) ⟨.int ys.length,H,I.tok _,⟨s.toks+1,by rw [List.size_toArray,hlen]⟩,q⟩
 ·obtain ⟨its,r',pl,hz⟩:=I.tuple hq
  have hlen:=r'.length
  exact len_tuple pl (by simp only [List.size_toArray] <;> omega) ⟨.int ys.length,H,I.tok _,⟨s.toks+1,by rw [List.size_toArray,hlen]⟩,q⟩
theorem jB:dc X (.type "list") (fun xs H Q=> ∃ p ys,xs=[.ref p]∧(SqL X.K H p ys∨SqT X.K H p ys)∧∀ l,H l=none→Q (.ref l) (upd H l (.lst ys))):=by
 intro pins s σ H xs us Q I r h
 obtain ⟨p,ys,rfl,hq,q⟩:=h
 obtain ⟨u,rfl,rx⟩:=gY r
 cases rx
 have fin:∀ (its:List Value),aK ys its→ys.length≤sizeLine→∀ (h':Heap) (c':Nat),(∀ b o',s.heap.get? b=some o'→h'.get? b=some o')→
   h'.get? s.heap.objs.size=some { cls:=.type "list",dict:=none,data:=.seq its.toArray c',slots:=#[] }→EP X pins σ Q (.ref s.heap.objs.size) { s with heap:=h' }:=fun its r' hz h' c' kp e=>
  ⟨.ref s.heap.objs.size,_,I.laid (t':=s.toks) kp (Nat.le_refl _) (show bR X.prog X.w _ h' _ (.lst ys) from ⟨hz,its,c',r',e⟩),rfl,q _ (I.hok.fresh (Nat.le_refl _))⟩
 rcases hq with hq | hq
 ·obtain ⟨its,r',pl,hz⟩:=I.list hq
  have hlen:=r'.length
  obtain ⟨o,ho,hc,n,hd⟩:=pl.isList
  exact call_list_seq p (.inl rfl) ho hc hd (fun h' c' kp e=> fin its r' hz h' c' kp e) (by simp only [List.size_toArray] <;> omega)
 ·obtain ⟨its,r',pl,hz⟩:=I.tuple hq
  have hlen:=r'.length
  obtain ⟨o,ho,hc,n,hd⟩:=pl
  exact call_list_seq p (.inr rfl) ho hc hd (fun h' c' kp e=> fin its r' hz h' c' kp e) (by simp only [List.size_toArray] <;> omega)
def tyV (K:PySem.W.Frag) (T:String) (x:V) (H:Hp):Prop:=match x with
 | .str _=> T="str"
 | .int _=> T="int"
 | .ref p=> (T="list"∧∃ xs,SqL K H p xs)∨(T="tuple"∧∃ o,K.lookup p=some o∧o.cls=.type "tuple"∧o.dict=none)∨
   (T="dict"∧((∃ kvs,H p=some (.dK kvs))∨∃ kvs,H p=some (.dT kvs)))∨(T="set"∧∃ S n,H p=some (.set S n))
 | _=> False
theorem qk {pins:List (Addr×Obj)} {σ:St} {H:Hp} {s:Shared} {T:String} {x:V} {v:Value} (I:Inv X pins σ H s) (r:aU x v) (ty:tyV X.K T x H):
  s.TypeIs v T∧∀ a,v=.ref a→∃ ob,s.heap.get? a=some ob∧ob.dict=none:=by
 cases x with
 | str z=>
  obtain ⟨t,rfl⟩:=r
  cases (show T="str" from ty)
  exact ⟨typeIs_str s z t,fun _ e=> nomatch e⟩
 | int i=>
  obtain ⟨t,rfl⟩:=r
  cases (show T="int" from ty)
  exact ⟨typeIs_int s i t,fun _ e=> nomatch e⟩
 | ref p=>
  cases r
  rcases ty with ⟨rfl,xs,hq⟩ | ⟨rfl,o,hk,hc,hd⟩ | ⟨rfl,hk⟩ | ⟨rfl,S,n,hk⟩
  ·obtain ⟨its,_,pl,_⟩:=I.list hq
   refine ⟨pl.isList.typeIs,fun a e=> ?_⟩
   cases e
   obtain ⟨o,n,e,c,hd,_⟩:=pl
   exact ⟨o,e,hd⟩
  ·refine ⟨⟨o,I.kIn p o hk,hc⟩,fun a e=> ?_⟩
   cases e
   exact ⟨o,I.kIn _ o hk,hd⟩
  ·have z:∃ o,s.heap.get? p=some o∧o.ExactDict:=by
    rcases hk with ⟨kvs,hk⟩ | ⟨kvs,hk⟩
    ·obtain ⟨_,_,_,_,o,_,_,e,ex,_⟩:=I.hok p _ hk
     exact ⟨o,e,ex⟩
    ·obtain ⟨_,_,_,_,o,_,_,e,ex,_⟩:=I.hok p _ hk
     exact ⟨o,e,ex⟩
   obtain ⟨o,e,ex⟩:=z
   refine ⟨⟨o,e,ex.1⟩,fun a e2=> ?_⟩
   cases e2
   exact ⟨o,e,ex.2.1⟩
  ·obtain ⟨o,_,_,_,e,ex,_⟩:=I.hok p _ hk
   refine ⟨⟨o,e,ex.1⟩,fun a e2=> ?_⟩
   cases e2
   exact ⟨o,e,ex.2.1⟩
 | _=> exact False.elim ty
def xD (K:PySem.W.Frag) (T:String) (r:V→List V→Hp→VK→Prop) (to:TE):TE:=fun σ H Q=> to σ H fun x H1=> tyV K T x H1∧r x [] H1 Q
def tBM (K:PySem.W.Frag) (T:String) (r:V→List V→Hp→VK→Prop) (to:TE) (t:TA):TE:=fun σ H Q=> to σ H fun x H1=> tyV K T x H1∧t σ H1 fun xs H2=> r x xs H2 Q
variable {o e:Expr} {es:List Expr} {to:TE} {t:TA} {name:Str} {apos cpos:Pos} {T id:String} {r:V→List V→Hp→VK→Prop}
theorem vD (pa:PlainAttrs T) (slot:Slot T name id) (hty:typeOf (.builtin id)=pure (.type "method_descriptor")) (hm:MtR X id r) (ho:PE X o to)
  (hbase:attributeBase o name X.env (eval o X.env)=eval o X.env:=by rfl) (hline:(apos.endLine==cpos.line)=true:=by rfl):PE X (.Call (.Attribute o name apos) [] [] cpos) (xD X.K T r to):=by
 intro pins s σ H Q I h
 refine wpAny_Call_method0_late hbase hline (thn (ho pins s σ H _ I h) fun v s1 ⟨x,H1,I1,r1,ty,q1⟩=> ?_)
 obtain ⟨h1,h2⟩:=qk I1 r1 ty
 exact ⟨T,id,pa,slot,hty,h1,h2,Calls.callWith_builtin rfl (PySem.evalArgs_none (hm pins s1 σ H1 x [] v [] Q I1 r1 .nil q1))⟩
theorem wj (pa:PlainAttrs T) (slot:Slot T name id) (hty:typeOf (.builtin id)=pure (.type "method_descriptor")) (hm:MtR X id r) (ho:PE X o to) (ha:PA X (e::es) t)
  (hbase:attributeBase o name X.env (eval o X.env)=eval o X.env:=by rfl)
  (hfew:((backTo cpos (starEach (e::es) X.env)).all (fun x=> !x.1) && (backToKw cpos (keywordEach [] X.env)).all (fun x=> x.1.isSome)
   && decide ((e::es).length+([]:List Keyword).length+(if ([]:List Keyword).isEmpty then 0 else 1) < 30))=true:=by rfl)
  (hline:(apos.endLine==cpos.line)=true:=by rfl) (hs:starEach (e::es) X.env=(false,eval e X.env)::starEach es X.env:=by rfl) (hplain:(backTo cpos (starEach es X.env)).any (·.1)=false:=by rfl):
  PE X (.Call (.Attribute o name apos) (e::es) [] cpos) (tBM X.K T r to t):=by
 intro pins s σ H Q I h
 refine wpAny_Call_method_late hbase hfew hline rfl (thn (ho pins s σ H _ I h) fun v s1 ⟨x,H1,I1,r1,ty,q1⟩=> ?_)
 obtain ⟨h1,h2⟩:=qk I1 r1 ty
 refine ⟨T,id,pa,slot,hty,h1,h2,?_⟩
 have hA:=ha cpos pins s1 σ H1 _ I1 q1
 rw [hs] at hA ⊢
 refine Calls.callWith_builtin (by show (false || (backTo cpos (starEach es X.env)).any (·.1))=false; rw [hplain] <;> rfl) (Calls.evalArgs_plain ?_)
 exact thn hA fun us s2 ⟨vs,H2,I2,r2,q2⟩=> hm pins s2 σ H2 x vs v us Q I2 r1 r2 q2
/- xs.append(e),list.index on a module's tuple .. are MtR facts of 06m -/
end
end L2
namespace L2
open PySem PySem.Spec PyProof.Rows
def MtM (X:Cx) (id:String) (r:V→List V→Hp→VK→Prop):Prop:=
 ∀ (pins:List (Addr×Obj)) (s:Shared) (σ:St) (H:Hp) (x:V) (xs:List V) (v:Value) (us:List Value) (Q:VK),Inv X pins σ H s→aU x v→aK xs us→r x xs H Q→
  wpAny (model X.prog X.w) X.A (call (.builtin id) (v::us)) (EP X pins σ Q) X.xe s
theorem aK.one:∀ {x:V} {us:List Value},aK [x] us→∃ u,us=[u]∧aU x u
 | _,_,.cons r .nil=> ⟨_,rfl,r⟩
theorem aK.zero:∀ {us:List Value},aK [] us→us=[]
 | _,.nil=> rfl
theorem aK.dropLast {xs:List V} {us:List Value} (h:aK xs us):aK xs.dropLast us.dropLast:=by
 induction h with
 | nil=> exact .nil
 | cons r t ih=>
  cases t with
  | nil=> exact .nil
  | cons q t'=> exact .cons r ih
theorem lY {α:Type} (l:List α):l.eraseIdx (l.length - 1)=l.dropLast:=by
 induction l with
 | nil=> rfl
 | cons a r ih=>
  cases r with
  | nil=> rfl
  | cons b r=>
   have e:(a::b::r).length - 1=((b::r).length - 1)+1:=by
    have h1:(a::b::r).length=r.length+2:=rfl
    have h2:(b::r).length=r.length+1:=rfl
    omega
   rw [e,List.eraseIdx_cons_succ,ih]
   all_goals rfl
section
variable {X:Cx} {pins:List (Addr×Obj)} {σ:St} {H:Hp} {s:Shared} {l b:Addr} {xs ys zs:List V}
theorem Inv.lset {its its':List Value} {n:Nat} {f:Array Value→Array Value} {t':Nat} (I:Inv X pins σ H s) (hH:H l=some (.lst xs))
  (e:s.heap.get? l=some { cls:=.type "list",data:=.seq its.toArray n }) (hf:f its.toArray=its'.toArray) (hv:aK ys its') (hz:ys.length≤sizeLine):
  Inv X pins σ (upd H l (.lst ys)) { s with heap:=s.heap.update l (Obj.mapSeq f),toks:=t' }:=by
 have q:=PySem.IsL.update e f
 rw [hf] at q
 refine I.write (x:=l) (e:=l) (by rw [hH]; exact trivial) (.inl rfl) (fun b' u hb hu=> (Heap.get?_update_other s.heap (Obj.mapSeq f) (Ne.symm hb)).trans hu) ⟨_,q⟩ ?_
 exact ⟨hz,its',_,hv,q⟩
theorem Inv.lnew {its:List Value} {t':Nat} (I:Inv X pins σ H s) (hv:aK ys its) (hz:ys.length≤sizeLine):
  Inv X pins σ (upd H s.heap.objs.size (.lst ys)) { s with heap:=s.heap.push { cls:=.type "list",data:=.seq its.toArray },toks:=t' }:=
 I.laid (fun _ _ q=> Heap.get?_push_of_some _ q) (Nat.le_refl _) ⟨hz,its,0,hv,Heap.get?_push_size _ rfl⟩
theorem Inv.fresh (I:Inv X pins σ H s):H s.heap.objs.size=none:=I.hok.fresh (Nat.le_refl _)
theorem Inv.lstM (I:Inv X pins σ H s) (hH:H l=some (.lst xs)):xs.length≤sizeLine∧∃ (its:List Value) (n:Nat),aK xs its∧xs.length=its.length∧s.heap.get? l=some { cls:=.type "list",data:=.seq its.toArray n }:=by
 obtain ⟨z,its,n,r,e⟩:=I.hok l _ hH
 exact ⟨z,its,n,r,r.length,e⟩
theorem ww {n:Nat} (h:n≤sizeLine):Builtin.List.listTooLong n=false:=by
 unfold Builtin.List.listTooLong
 exact decide_eq_false (by omega)
end
section
variable {X:Cx}
def tx:V→List V→Hp→VK→Prop:=fun x vs H Q=> ∃ l xs y,x=.ref l∧vs=[y]∧H l=some (.lst xs)∧xs.length < sizeLine∧Q .non (upd H l (.lst (xs++[y])))
theorem jd:MtM X "list.append" tx:=by
 intro pins s σ H x vs v us Q I rx rv h
 obtain ⟨l,xs,y,rfl,rfl,hH,hz,q⟩:=h
 cases rx
 obtain ⟨u,rfl,ru⟩:=rv.one
 obtain ⟨z,its,n,r,hl,e⟩:=I.lstM hH
 refine call_meets F.slot_list_append ⟨_,e,rfl⟩ F.entry_list_append (F.args_list_append_2 _ _) (PySem.list_append l its.toArray n u (by rw [List.size_toArray]; omega)) ⟨e,?_⟩
 refine ⟨.non,_,I.lset (its':=its++[u]) hH e (by simp) (r.append (.cons ru .nil)) ?_,rfl,q⟩
 rw [List.length_append,List.length_singleton]
 omega
def xC:V→List V→Hp→VK→Prop:=fun x vs H Q=> ∃ l xs y,x=.ref l∧vs=[]∧H l=some (.lst xs)∧xs[xs.length - 1]?=some y∧Q y (upd H l (.lst xs.dropLast))
theorem vH:MtM X "list.pop" xC:=by
 intro pins s σ H x vs v us Q I rx rv h
 obtain ⟨l,xs,y,rfl,rfl,hH,hy,q⟩:=h
 cases rx
 have hus:=rv.zero
 subst hus
 obtain ⟨z,its,n,r,hl,e⟩:=I.lstM hH
 obtain ⟨u,hu,ru⟩:=r.get hy
 have hy':its.toArray[its.toArray.size - 1]?=some u:=by
  show its.toArray[its.length - 1]?=some u
  rw [← Array.getElem?_toList,← hl]
  exact hu
 refine call_meets F.slot_list_pop ⟨_,e,rfl⟩ F.entry_list_pop (F.args_list_pop_1 _) (MeetsSeq.list_pop_last l its.toArray n u hy' (by rw [List.size_toArray]; omega)) ⟨e,?_⟩
 refine ⟨y,_,I.lset (its':=its.dropLast) hH e ?_ r.dropLast ?_,ru,q⟩
 ·show its.toArray.eraseIdxIfInBounds (its.toArray.size - 1)=its.dropLast.toArray
  rw [List.size_toArray,List.eraseIdxIfInBounds_toArray,lY]
 ·rw [List.length_dropLast]
  omega
def xt:R2:=fun x y H Q=> ∃ l b xs zs,x=.ref l∧y=.ref b∧H l=some (.lst xs)∧H b=some (.lst zs)∧xs.length+zs.length≤sizeLine∧∀ p,H p=none→Q (.ref p) (upd H p (.lst (xs++zs)))
theorem vR:OpR X (binaryOp .Add) xt:=by
 intro pins s σ H x y v u Q I rx ry h
 obtain ⟨l,b,xs,zs,rfl,rfl,hH,hB,hz,q⟩:=h
 cases rx
 cases ry
 obtain ⟨z,its,n,r,hl,e⟩:=I.lstM hH
 obtain ⟨z2,its2,n2,r2,hl2,e2⟩:=I.lstM hB
 refine PySem.P.add_list e e2 ?_ (by rw [List.size_toArray,List.size_toArray]; omega)
 have ea:its.toArray++its2.toArray=(its++its2).toArray:=by simp
 rw [ea]
 exact ⟨.ref _,_,I.lnew (t':=s.toks) (r.append r2) (by rw [List.length_append]; omega),rfl,q _ I.fresh⟩
end
section
variable {prog:Program} {w:World} {A:Around} {E:Value→Shared→Prop} {s:Shared}
end
section
variable {X:Cx}
end
end L2
namespace Att
open PySem PySem.W PySem.Calls PyProof.Rows
theorem gC {P:Params} {h:Heap}:∀ (ns:List Int) (vs:List Value),WellAll P h vs (ns.map WData.int)→IntsAre vs ns:=by
 intro ns
 induction ns with
 | nil=>
  intro vs w
  rw [List.map_nil] at w
  cases w
  exact .nil
 | cons n ns ih=>
  intro vs w
  rw [List.map_cons] at w
  cases w with
  | cons a b=>
   cases a
   exact .cons _ _ (ih _ b)
theorem script_of {l:OpenLaw} {n:Nat} (hn:l.most=some n) {P:Params} {h:Heap} {args:List WData} {vals:List Value}
  (hpre:l.row.toRowW.claim.pre args=true) (hwl:WellAll P h vals args):
  ∃ a vs ns,vals=[Value.ref a]∧args=[WData.list (ns.map WData.int)]∧h.get? a=some { cls:=.type "list",data:=.seq vs.toArray }∧IntsAre vs ns∧ns.length≤n:=by
 have hsh:WShape.hasAll [] args [.list .int]=true:=(pre_splitW hpre).1
 have hc:l.pre.holds [] { args:=args }=true:=(pre_splitW hpre).2
 obtain ⟨d,r,rfl,h1,h2⟩:=hasAllW_cons hsh
 obtain rfl:=hasAllW_nil h2
 obtain ⟨xs,rfl,h3⟩:=hasW_list h1
 obtain ⟨ns,rfl⟩:=items_int h3
 have hlen:ns.length≤n:=by
  unfold OpenLaw.pre at hc
  have h4:(WTm.not (.lt (.lit (.int (n:Int))) (.len (.arg 0)))).holds [] { args:=[.list (ns.map .int)] }=true:=by
   have h4:=(holds_andW hc).1
   rw [hn] at h4
   exact h4
  have h5:=condW_of h4 (w_not (w_lt w_lit (w_len_list (w_arg rfl))))
  rw [List.length_map] at h5
  refine Nat.le_of_not_lt fun q=> ?_
  have q':(n:Int) < ((ns.length:Nat):Int):=by omega
  first
   | (rw [decide_eq_true q'] at h5; exact absurd h5 (by decide))
   | (simp at h5; omega)
 cases hwl with
 | cons w1 w2=>
  cases w2
  cases w1 with
  | list ho hall=> exact ⟨_,_,ns,rfl,rfl,ho,gC ns _ hall,hlen⟩
theorem post_true (l:OpenLaw) (args:List WData):l.row.toRowW.claim.post args (.bool true) args=true:=
 postW_of (r:=l.row.toRowW) (X:=(true==true))
  (show WShape.has [] (.bool true) .bool=true by first | rfl | decide | simp [WShape.has,WShape.arms,WShape.armsAll])
  (show (WTm.eq .res (.lit (.bool true))).value [] { args:=args,res:=some (.bool true),after:=args }=some (.bool (true==true)) from w_eq_bool (w_res rfl) w_lit) rfl
section
variable {prog:Program} {w:World} {A:Around} {E:Value→Shared→Prop} {s:Shared} {K:Frag}
end
end Att
namespace L2
open PySem PySem.Spec PyProof.Rows
theorem iT:∀ {vs:List Value} {ns:List Int},IntsAre vs ns→aK (ns.map V.int) vs
 | _,_,.nil=> .nil
 | _,_,.cons n t h=> .cons ⟨t,rfl⟩ (iT h)
def sw (H:Hp):Prop:=∀ b,H b=none∨∃ o xs,H b=some (.frz o (.lst xs))
theorem q9 {P:Program} {w:World} {K:PySem.W.Frag} {mg mb:Str→Option Value} {CX:CXT} {k:Nat} {fa a:Addr} {fd:FuncData} {x:Str} {sp:Sp} {s₁:Shared} {vs:List Value} {ns:List Int}
  (KX:K.In s₁.heap) (hns:s₁.heap.Ns mainGlobals mg) (hb:s₁.heap.Ns builtinsNs mb) (hbb:∀ x:Str,x≠"__name__"→mb x=bootBuiltins x) (hlim:s₁.heap.NoLimit) (hg:s₁.gens=#[])
  (ha:s₁.heap.get? a=some { cls:=.type "list",data:=.seq vs.toArray }) (hi:IntsAre vs ns) (hl:ns.length≤sizeLine) (hr:cY k callerA)
  (F:∀ base:Heap,K.In base→base.Ns mainGlobals mg→bB P w K mg base CX k fa fd [x] sp) (hbind:∀ (s:Shared) (u:Value),BindsTo s fd ⟨[u],[]⟩ [(x,u)])
  (hsp:∀ H:Hp,sw H→SqL K H a (ns.map V.int)→sp [.ref a] H (fun v _=> v=.bl true) fun _ _ _=> False)
  (hCX:∀ H e s',CX [] H s₁ (fun _ _ _=> False) e s'→False):
  codeAny (model P w) callerA (.call (.ref fa) ⟨[.ref a],[]⟩) (fun r s'=> r=.ok (.ret (.bool true))∧OldK s₁.heap s'.heap∧s'.os=s₁.os∧AllBare s'.gens) s₁:=by
 have rv:=iT hi
 have lenV:=hi.length
 have core:∀ H:Hp,sw H→SqL K H a (ns.map V.int)→HOk P w H s₁.heap→(∀ b,H b≠none→b=a)→(H a≠none→K.lookup a=none)→
   codeAny (model P w) callerA (.call (.ref fa) ⟨[.ref a],[]⟩) (fun r s'=> r=.ok (.ret (.bool true))∧OldK s₁.heap s'.heap∧s'.os=s₁.os∧AllBare s'.gens) s₁:=by
  intro H hO hS hok hA hK
  have base_of:∀ {b:Addr} {o:Obj},s₁.heap.get? b=some o→H b=none→(jN s₁.heap H).get? b=some o:=fun e n=> qm e n
  have noA:∀ {b:Addr} {o:Obj} {es:Array DictEntry} {ep:Nat},s₁.heap.get? b=some o→o.data=.dict es ep→H b=none:=fun {b o es ep} e d=> by
   cases q:H b with
   | none=> rfl
   | some u=>
    have e':b=a:=hA b (by rw [q]; simp)
    subst e'
    rw [ha] at e; cases e
    have d':Data.seq vs.toArray _=Data.dict es ep:=d
    cases d'
  have nsK:∀ {b:Addr} {m:Str→Option Value},s₁.heap.Ns b m→(jN s₁.heap H).Ns b m:=fun {b m} ⟨o,es,ep,e,d,r⟩=> ⟨o,es,ep,base_of e (noA e d),d,r⟩
  have hKb:K.In (jN s₁.heap H):=fun b o e=> base_of (KX b o e) (by
   cases q:H b with
   | none=> rfl
   | some u=>
    have e':b=a:=hA b (by rw [q]; simp)
    subst e'
    rw [hK (by rw [q]; simp)] at e; cases e)
  have hM:Mod K mg (jN s₁.heap H):=⟨hKb,nsK hns,⟨mb,nsK hb,hbb⟩,let ⟨mc,h1,h2⟩:=hlim; ⟨mc,nsK h1,h2⟩⟩
  have e0:tq P w K mg (jN s₁.heap H) callerA [] s₁ H:=⟨rfl,hM,fun b o e=> sK e,Nat.le_of_eq (om _ _),trivial,fun b hb=> absurd (show b∈([]:List Addr) from hb) (by simp),hok,.of_eq hg⟩
  refine codeAny_mono ((F _ hKb (nsK hns)).run callerA [] s₁ H ⟨[.ref a],[]⟩ [.ref a] [.ref a] _ _ hr e0 (hbind s₁ (.ref a)) (.cons rfl .nil) (hsp H hO hS)) fun r s' h=> ?_
  cases r with
  | error e=> exact (hCX H e s' h).elim
  | ok fl=>
   cases fl with
   | next=> exact False.elim h
   | brk=> exact False.elim h
   | cont=> exact False.elim h
   | ret u=>
    obtain ⟨v,H',os,bare,un,hok',r',q⟩:=h
    have q':v=.bl true:=q
    subst q'
    obtain rfl:u=Value.bool true:=r'
    refine ⟨rfl,OldK.of_keep fun b o e=> ?_,os,bare⟩
    cases q:H b with
    | none=> exact un.keep b o e q (by intro z; exact absurd (show b∈([]:List Addr) from z) (by simp)) (by simp)
    | some u=>
     rcases hO b with z | ⟨ob,xs,z⟩
     ·rw [q] at z; cases z
     ·have z2:=un.frzs b ob _ z
      obtain ⟨e1,_⟩:=hok b _ z
      obtain ⟨e2,_⟩:=hok' b _ z2
      rw [e] at e1; cases e1
      exact e2
 cases hk:K.lookup a with
 | some o=>
  have e:=KX a o hk
  rw [ha] at e
  cases e
  refine core (fun _=> none) (fun _=> .inl rfl) (.inr ⟨_,vs.toArray,_,hk,rfl,rfl,rfl,by rw [List.size_toArray,lenV]; exact hl,by simpa using rv⟩) (fun b u z=> by have z':(none:Option HO)=some u:=z; cases z') (fun b z=> absurd rfl z) fun z=> absurd rfl z
 | none=>
  refine core (fun b=> if b=a then some (.frz { cls:=.type "list",data:=.seq vs.toArray } (.lst (ns.map V.int))) else none) (fun b=> ?_) (.inl (.inr ⟨{ cls:=.type "list",data:=.seq vs.toArray },if_pos rfl⟩)) (fun b u z=> ?_) (fun b z=> ?_) fun _=> hk
  ·by_cases hb:b=a
   ·exact .inr ⟨_,_,if_pos hb⟩
   ·exact .inl (if_neg hb)
  ·by_cases hb:b=a
   ·have z':=(if_pos hb).symm.trans z
    cases z'
    subst hb
    exact ⟨ha,by rw [List.length_map]; exact hl,vs,_,rv,ha⟩
   ·have z':=(if_neg hb).symm.trans z
    cases z'
  ·by_cases hb:b=a
   ·exact hb
   ·exact absurd (if_neg hb) z
end L2
namespace L2
open PySem PySem.Spec PyProof.Rows
abbrev KOf {K:PySem.W.Frag} {h:Heap} (_:K.In h):PySem.W.Frag:=K
end L2
/- THE LAST THEOREM (shape; LID,My.* are yours):
   My.Adr:a structure of the addresses that your layer names (classes,functions); My.Txt K t:a structure (Prop) of the equations over K;
   My.txt_mk:{K} {implicit addresses ..} (e1:nsIn K mainGlobals "law"=some (some (.ref f))) (e2:K.lookup f=some ⟨oc,od,.func (fnOf "law" "law" params body scope dV kV doc pm an cdv ct),sl⟩) (e3:codeIn K cdv "law"=true) ..:∃ t,My.Txt K t
set_option maxRecDepth 100000 in
set_option maxHeartbeats 0 in
theorem PySem.Challenge.cw_LID_holds : PySem.Challenge.rw_LID.Holds := by
 w_on; o_law; k_head; (case hw=> w_witness2)
 k_fill
 refine L2.walk_of (l:=PySem.Challenge.rw_LID) (n:=63) (k:=40) (x:="script") (CX:=fun w=> ..) (sp:=fun _=> My.sp_law) rfl (by decide) rfl ⟨rfl,by decide,by decide⟩ (fun w h Y=> PySem.W.kIn_of Y) ?F ?S ?C
 case F=>
  intro w mg fa h KX G hmg
  have T:∃ t,My.Txt (L2.KOf KX) t:=by
   dsimp only [L2.KOf]                          -- K must stand as «<heap const> w.params» for k_is
   refine' My.txt_mk ?e1 ?e2 ?e3 ..
   (case e1=> PySem.W.k_is)                    -- in the order:a name -> its address -> its object -> its parts
   (case e2=> PySem.W.k_is)
   ..
  obtain ⟨t,T⟩:=T
  have e0:=hmg.symm.trans (PySem.W.mg_of KX G T.law)
  cases e0                                       -- fa is the law's own address
  exact ⟨_,fun s u=> .of_eq rfl,fun base kb nb=> My.law_fn T kb nb⟩     -- if «.of_eq rfl» comes too early:refine' ⟨_,?b,fun base kb nb=> My.law_fn T kb nb⟩; exact fun s u=> .of_eq rfl
 case S=> exact fun w H a ns hl hO hS=> ..
 case C=> exact ..
(the tactic k_is has no namespace:write k_is) -/
namespace L2
open PySem PySem.Spec PyProof.Rows
def aC (s:Stmt):Arguments:=match s with
 | .FunctionDef _ a _ _ _ _ _ _ _ _=> a
 | _=> { posonlyargs:=[],args:=[],vararg:=none,kwonlyargs:=[],kw_defaults:=[],kwarg:=none,defaults:=[] }
def aA (s:Stmt):List Stmt:=match s with
 | .FunctionDef _ _ b _ _ _ _ _ _ _=> b
 | _=> []
def aj (s:Stmt):Scope:=match s with
 | .FunctionDef _ _ _ _ _ _ sc _ _ _=> sc
 | _=> { kind:=.function,names:=[],isGenerator:=false,isCoroutine:=false }
abbrev CX0:CXT:=fun _ _ _ _ _ _=> False
abbrev E0:XK:=fun _ _ _=> False
structure Fun (K:PySem.W.Frag) (x qual:Str) (st:Stmt) (f:Addr) (fd:FuncData):Prop where
 ex:∃ (oc:Value) (od:Option Addr) (kV doc pm:Value) (an:Option Addr) (cdv ct:Value) (osl:Array (Option Value)),
  fd=PySem.W.fnOf x qual (aC st) (aA st) (aj st) .none kV doc pm an cdv ct∧K.lookup f=some ⟨oc,od,.func fd,osl⟩∧PySem.W.codeIn K cdv qual=true
 kp:PySem.W.keepIn K (.ref f)=true
section
variable {P:Program} {w:World} {K:PySem.W.Frag} {mg:Str→Option Value} {base:Heap}
theorem Fun.binds {x qual:Str} {st:Stmt} {f:Addr} {fd:FuncData} {ps:List Str} (F:Fun K x qual st f fd)
  (h:∀ (kV doc pm:Value) (an:Option Addr) (cdv ct:Value) (us:List Value),us.length=ps.length→bindArgs (PySem.W.fnOf x qual (aC st) (aA st) (aj st) .none kV doc pm an cdv ct) ⟨us,[]⟩=pure (ps.zip us)):a_ K fd ps []:=by
 obtain ⟨oc,od,kV,doc,pm,an,cdv,ct,osl,rfl,lk,hcd⟩:=F.ex
 exact .all (h kV doc pm an cdv ct)
theorem bh {x qual:Str} {st:Stmt} {f:Addr} {oc:Value} {od an:Option Addr} {osl:Array (Option Value)} {kV doc pm cdv ct:Value} (l:K.lookup f=some ⟨oc,od,.func (PySem.W.fnOf x qual (aC st) (aA st) (aj st) .none kV doc pm an cdv ct),osl⟩)
  (c:PySem.W.codeIn K cdv qual=true) (k:PySem.W.keepIn K (.ref f)=true):Fun K x qual st f (PySem.W.fnOf x qual (aC st) (aA st) (aj st) .none kV doc pm an cdv ct):=⟨⟨oc,od,kV,doc,pm,an,cdv,ct,osl,rfl,l,c⟩,k⟩
end
theorem br {n:Nat} (h:n≤1000):n < sizeLine:=Nat.lt_of_le_of_lt h (by decide)
section
variable {X:Cx}
end
theorem km {A B:Prop} (h:B):if false=true then A else B:=by
 rw [if_neg Bool.false_ne_true]
 exact h
theorem qU {A B:Prop} (h:A):if true=true then A else B:=by
 rw [if_pos rfl]
 exact h
def aD (H H':Hp):Prop:=∀ b o,H b=some o→H' b=some o
theorem aD.refl (H:Hp):aD H H:=fun _ _ h=> h
theorem aD.trans {H H1 H2:Hp} (a:aD H H1) (b:aD H1 H2):aD H H2:=fun c o h=> b c o (a c o h)
theorem aD.free {H H':Hp} (e:aD H H') {l:Addr} (h:H' l=Option.none):H l=Option.none:=by
 cases q:H l with
 | none=> rfl
 | some o=>
  rw [e l o q] at h
  cases h
theorem aD.seq {K:PySem.W.Frag} {H H':Hp} {a:Addr} {xs:List V} (e:aD H H') (h:SqL K H a xs):SqL K H' a xs:=by
 rcases h with (h | ⟨o,h⟩) | h
 ·exact .inl (.inl (e _ _ h))
 ·exact .inl (.inr ⟨o,e _ _ h⟩)
 ·exact .inr h
end L2
namespace L2
open PySem PySem.Spec PyProof.Rows
def Sz (m:Nat) (x:Int):Prop:=x.natAbs < 2 ^ m
theorem Sz.mono {m n:Nat} {x:Int} (h:Sz m x) (hmn:m≤n):Sz n x:=Nat.lt_of_lt_of_le h (Nat.pow_le_pow_right (by decide) hmn)
theorem Sz.neg {m:Nat} {x:Int} (h:Sz m x):Sz m (-x):=by unfold Sz at *; rw [Int.natAbs_neg]; exact h
theorem Sz.add {m:Nat} {x y:Int} (hx:Sz m x) (hy:Sz m y):Sz (m+1) (x+y):=by
 unfold Sz at *
 have:=Int.natAbs_add_le x y
 rw [Nat.pow_succ]; omega
theorem Sz.sub {m:Nat} {x y:Int} (hx:Sz m x) (hy:Sz m y):Sz (m+1) (x - y):=by
 rw [Int.sub_eq_add_neg]; exact hx.add hy.neg
theorem Sz.mul {m n:Nat} {x y:Int} (hx:Sz m x) (hy:Sz n y):Sz (m+n) (x * y):=by
 unfold Sz at *
 rw [Int.natAbs_mul,Nat.pow_add]
 exact Nat.mul_lt_mul'' hx hy
theorem Sz.le {m:Nat} {x y:Int} (h:x.natAbs≤y.natAbs) (hy:Sz m y):Sz m x:=Nat.lt_of_le_of_lt h hy
theorem Sz.ediv {m:Nat} {x y:Int} (hx:Sz m x):Sz m (x / y):=Sz.le (Int.natAbs_ediv_le_natAbs x y) hx
theorem Sz.abs {m:Nat} {x:Int} (hx:Sz m x):Sz m (if x < 0 then -x else x):=by split; exact hx.neg; exact hx
instance (m:Nat) (x:Int):Decidable (Sz m x):=inferInstanceAs (Decidable (x.natAbs < 2 ^ m))
theorem Sz.add' {m n:Nat} {x y:Int} (hx:Sz m x) (hy:Sz n y):Sz (max m n+1) (x+y):=(hx.mono (Nat.le_max_left m n)).add (hy.mono (Nat.le_max_right m n))
theorem Sz.sub' {m n:Nat} {x y:Int} (hx:Sz m x) (hy:Sz n y):Sz (max m n+1) (x - y):=(hx.mono (Nat.le_max_left m n)).sub (hy.mono (Nat.le_max_right m n))
theorem Sz.lit {m:Nat} {x:Int} (h:Sz m x):Sz m x:=h
theorem Sz.ok {m n:Nat} {x y:Int} (hx:Sz m x) (hy:Sz n y) (h:m+n≤134217728):IntMulOk x y:=
 PyProof.Rows.mulOk_of_bits (intBits_le_iff.mpr hx) (intBits_le_iff.mpr hy) h
theorem Sz.log {m:Nat} {x:Int} (h:Sz m x) (hm:m≤9000) (h0:x≠0):x.natAbs.log2 < 9000:=by
 have q:=(Nat.log2_lt (by omega)).mpr (show x.natAbs < 2 ^ m from h)
 omega
def ux (_ j:Int):Prop:=0 < j∧Sz 9000 j
def uw (_ j:Int):Prop:=j≠0∧Sz 9000 j
section
variable {X:Cx} {a b c:Expr} {ta tb tc:TE} {pos:Pos}
theorem tJ:OpR X (binaryOp .Mult) (rI IntMulOk fun i j=> .int (i * j)):=opI fun _ _ _ _ _ _ _ hc q=> mul_int q hc
theorem q_:OpR X (binaryOp .FloorDiv) (rI ux fun i j=> .int (i / j)):=opI fun i j _ _ _ _ _ hc q=> by
 have h1:(0:Int) < j:=hc.1
 exact floordiv_int (by omega) (by rw [Int.fdiv_eq_ediv_of_nonneg i (by omega)]; exact q) (.inl (PyProof.noPylong_of_log2 (hc.2.log (by decide) (by omega))))
theorem qh:OpR X (binaryOp .FloorDiv) (rI uw fun i j=> .int (i.fdiv j)):=opI fun i j _ _ _ _ _ hc q=>
 floordiv_int hc.1 q (.inl (PyProof.noPylong_of_log2 (hc.2.log (by decide) hc.1)))
theorem wD {x:Str} {n:String} {pos:Pos} (hg:Gl X x) (hm:X.mg x=none) (hv:bootBuiltins x=some (.type n)) (hn:x≠"__name__":=by decide) (hd:(x==("__debug__":Str))=false:=by decide):PE X (.Name x pos) (tC (.ty n)):=
 tX hg hm hv rfl hn hd
end
section
variable {X:Cx}
end
theorem kit_int_int (K:PySem.W.Frag):PySem.W.kitOne K (.type "int") (.type "int")=some true:=rfl
theorem kit_int_bool (K:PySem.W.Frag):PySem.W.kitOne K (.type "int") (.type "bool")=some false:=rfl
theorem kit_bool_int (K:PySem.W.Frag):PySem.W.kitOne K (.type "bool") (.type "int")=some true:=rfl
theorem kit_tuple_tuple (K:PySem.W.Frag):PySem.W.kitOne K (.type "tuple") (.type "tuple")=some true:=rfl
theorem kit_list_tuple (K:PySem.W.Frag):PySem.W.kitOne K (.type "list") (.type "tuple")=some false:=rfl
def Its (lo c:Int) (n:Nat):It:=⟨fun i _=> i < n,fun i H x H'=> H'=H∧x=.int (lo+(i:Nat) * c),fun i _=> n≤i⟩
theorem kS {P:Program} {w:World} {K:PySem.W.Frag} {tg:Expr} (it:Addr) (lo c:Int) (n:Nat):oY P w K tg (Its lo c n) [it] it (fun i h=> IsRangeIter h it (lo+(i:Nat) * c) ((n:Int) - (i:Nat)) c) where
 mem:=by simp
 obj:=fun i h st b hb=> by
  have e:b=it:=by simpa using hb
  subst e
  exact ⟨_,st,fun v z=> by
   have z':Data.fields _=Data.cell v:=z
   cases z'⟩
 keep:=fun i h h' st k=> k it (by simp) _ st
 item:=by
  intro X hP hw hK hc i pins s σ H E I hf st hg
  subst hP hw hK
  obtain ⟨f0,f1,f2,f3,f4,f5⟩:=hf it (by simp)
  have W:=Walks.range (prog:=X.prog) (w:=X.w) (I.ok.hd hc) it lo c n
  refine W.item i s _ _ hg st fun v h' tk hv st' kk=> ?_
  obtain ⟨t,rfl⟩:=hv
  have I1:Inv X pins σ H { s with heap:=h',toks:=tk }:=I.turned (fun b o hb e=> kk b o (by simpa using hb) e) f0 f1 f3 f4 f5
  exact ⟨_,rfl,nC (s:={ s with heap:=h',toks:=tk }) (n:="range_iterator") st' rfl rfl (by decide) ⟨.int (lo+(i:Nat) * c),H,I1,⟨t,rfl⟩,⟨rfl,rfl⟩,st',fun b hb=> (hf b hb).1⟩⟩
 done:=by
  intro X hP hw hK hc i pins s σ H E I hf st hg
  subst hP hw hK
  obtain ⟨f0,f1,f2,f3,f4,f5⟩:=hf it (by simp)
  exact wpAny_pyNext_range_end (I.ok.hd hc) st (by have:n≤i:=hg; omega) fun h' eb=> ⟨rfl,I.turned (t':=s.toks) (fun b o hb e=> eb b o hb e) f0 f1 f3 f4 f5⟩
 self:=fun _ _ _ _ _ st h=> wpAny_pyIter_rangeiter st h
def dP (i j c:Int):Nat:=if i < j then ((j - i - 1) / c+1).toNat else 0
theorem mC {a b c:Int} (ha:-(2 ^ 60)≤a) (ha':a < 2 ^ 60) (hb:-(2 ^ 60)≤b) (hb':b < 2 ^ 60) (hc:0 < c) (hc':c < 2 ^ 60):Builtin.Range.small a b c=true:=by
 have q1:a < b→(b - a - 1) / c≤b - a - 1:=fun h=> Int.ediv_le_self _ (by omega)
 have q2:a < b→0≤(b - a - 1) / c:=fun h=> Int.ediv_nonneg (by omega) (by omega)
 unfold Builtin.Range.small Builtin.Range.rangeSize
 simp only [Builtin.Range.rangeFitsLong,Bool.and_eq_true,Bool.or_eq_true,decide_eq_true_eq,beq_iff_eq,show c > 0 from hc,if_true]
 split
 ·have:=q1 (by assumption); have:=q2 (by assumption); omega
 ·omega
section
variable {X:Cx} {tg:Expr}
def wM (ta:TA):TI:=fun σ H R=> ta σ H fun vs H1=> ∃ i j c:Int,vs=[.int i,.int j,.int c]∧(-(2 ^ 60)≤i∧i < 2 ^ 60∧-(2 ^ 60)≤j∧j < 2 ^ 60∧0 < c∧c < 2 ^ 30)∧R (Its i c (dP i j c)) H1
theorem oZ {a b c:Expr} {ta:TA} {p pos:Pos} (hg:Gl X "range") (hm:X.mg "range"=none) (ha:PA X [a,b,c] ta) (hs:starEach [a,b,c] X.env=[(false,eval a X.env),(false,eval b X.env),(false,eval c X.env)]:=by rfl)
  (hs2:starEach [b,c] X.env=[(false,eval b X.env),(false,eval c X.env)]:=by rfl):
  PI X tg (.Call (.Name "range" p) [a,b,c] [] pos) (wM ta):=by
 intro pins s σ H R I h
 refine Call_ (cT I hg hm boot_range (PyProof.Rows.callWith_type1 (thn (ha pos pins s σ H _ I h) fun us s1 ⟨vs,H1,I1,r1,q1⟩=> ?_) (by rw [hs,hs2]) (by rw [hs2]; rfl)))
 obtain ⟨i,j,k,e,⟨q1,q2,q3,q4,q5,q6⟩,q⟩:=q1
 subst e
 cases r1 with
 | cons r rr=>
  cases rr with
  | cons r' rr=>
   cases rr with
   | cons r'' rr=>
    cases rr
    obtain ⟨t,rfl⟩:=r
    obtain ⟨t',rfl⟩:=r'
    obtain ⟨t'',rfl⟩:=r''
    refine call_range_3 (by omega) ?_ (.inl (PyProof.noPylong_small (by omega)))
    refine wpAny_pyIter_range (IsRange.new ..) (mC q1 q2 q3 q4 q5 (by omega)) ?_
    have I2:Inv X pins σ H1 { s1 with heap:=s1.heap.push { cls:=.type "range",data:=.fields #[.int i t,.int j t',.int k t''] },toks:=s1.toks }:=I1.kept fun b o e=> Heap.get?_push_of_some _ e
    refine ⟨(s1.heap.push { cls:=.type "range",data:=.fields #[.int i t,.int j t',.int k t''] }).objs.size,[(s1.heap.push { cls:=.type "range",data:=.fields #[.int i t,.int j t',.int k t''] }).objs.size],_,_,H1,rfl,
     I2.kept (t':=s1.toks) fun b o e=> Heap.get?_push_of_some _ e,kS _ i k (dP i j k),?_,fun b hb=> ?_,q⟩
    ·have e1:i+((0:Nat):Int) * k=i:=by simp
     have e2:((dP i j k:Nat):Int) - ((0:Nat):Int)=Builtin.Range.rangeSize i j k:=by
      unfold dP Builtin.Range.rangeSize
      rw [if_pos (show k > 0 from q5)]
      by_cases hij:i < j
      ·rw [if_pos hij,if_pos hij]
       have:0≤(j - i - 1) / k:=Int.ediv_nonneg (by omega) (by omega)
       omega
      ·rw [if_neg hij,if_neg hij] <;> omega
     show IsRangeIter _ _ (i+((0:Nat):Int) * k) (((dP i j k:Nat):Int) - ((0:Nat):Int)) k
     rw [e1,e2]
     exact Heap.get?_push_size _ rfl
    ·have e:b=(s1.heap.push { cls:=.type "range",data:=.fields #[.int i t,.int j t',.int k t''] }).objs.size:=by simpa using hb
     subst e
     exact I2.fpOk (Nat.le_refl _) (I2.hok.fresh (Nat.le_refl _))
end
theorem aV {H:Hp} {p:Addr} (h:H p=none) (o:HO):aD H (upd H p o):=fun b u q=> by rw [aL (bq q h)]; exact q
theorem aD.put {H H':Hp} {l:Addr} (e:aD H H') (h:H l=none) (o:HO):aD H (upd H' l o):=fun b u q=> by rw [aL (bq q h)]; exact e b u q
theorem aD.tup {K:PySem.W.Frag} {H H':Hp} {a:Addr} {xs:List V} (e:aD H H') (h:SqT K H a xs):SqT K H' a xs:=by
 rcases h with (h | ⟨o,h⟩) | h
 ·exact .inl (.inl (e _ _ h))
 ·exact .inl (.inr ⟨o,e _ _ h⟩)
 ·exact .inr h
end L2
namespace L2
open PySem PySem.W PySem.Calls PySem.Spec PyProof.Rows
theorem kL {ns:List Int} (h:WData.layableAll [WData.list (ns.map WData.int)]=true):∀ n∈ns,Sz 1048576 n:=by
 intro n hn
 have h1:=(PySem.W.layableW_arg h) _ (List.mem_singleton.mpr rfl)
 have h2:=PySem.W.layableW_item h1 (WData.int n) (List.mem_map.mpr ⟨n,hn,rfl⟩)
 have h3:=(PySem.W.layableW_iff.mp h2).2.2
 have h4:Builtin.Int.intBits n≤1048576:=by simpa only [WData.weight,Builtin.Int.intBits] using h3
 exact intBits_le_iff.mp h4
theorem j5 {l:PySem.W.OpenLaw} {n:Nat} {q:Program} {loose:List Str} {XP:(Str→Option Value)→Heap→Prop} {YP:World→Heap→Prop} {d:DefRec}
  (hn:l.most=some n) (hdf:d.params.defaults=[])
  (call:∀ (w:World) (s₀ s₁:Shared) (mg mb:Str→Option Value) (fa:Addr) (o:Obj) (pm cd doc:Value) (a:Addr) (vs:List Value) (ns:List Int),
   PySem.W.Ground q loose [] XP w s₀ mg mb s₁.heap→YP w s₁.heap→
   s₁.heap.get? fa=some o→o.data=.func (docDef d.name d.params d.body d.scope pm cd doc)→s₁.heap.CodeRec cd d.name→mg d.name=some (.ref fa)→
   s₁.heap.get? a=some { cls:=.type "list",data:=.seq vs.toArray }→IntsAre vs ns→ns.length≤n→(∀ m∈ns,Sz 1048576 m)→s₁.gens=#[]→
   codeAny (model l.prog w) callerA (.call (.ref fa) ⟨[.ref a],[]⟩) (fun r s'=> r=.ok (.ret (.bool true))∧OldK s₁.heap s'.heap∧s'.os=s₁.os∧AllBare s'.gens) s₁):
  PySem.W.WalkO q loose XP YP l.row.toRowW d [] (fun f vs=> PySem.call f vs):=by
 intro w s₀ s₁ mg mb G Y fa o pm cd doc dV kV ho hd hcd hD hmg hg args vals as hpre hlay hrd hwl hlo
 obtain rfl:dV=.none:=PySem.W.Dflts.none hD hdf
 obtain rfl:kV=.none:=PySem.W.Dflts.noKw hD
 obtain ⟨a,vs,ns,rfl,rfl,hobj,hints,hlen⟩:=Att.script_of hn hpre hwl
 refine PySem.W.enter_call (codeAny_mono (call w s₀ s₁ mg mb fa o pm cd doc a vs ns G Y ho (PySem.W.fd_plain hd) hcd hmg hobj hints hlen (kL hlay) hg) fun r s' hq=> ?_)
 obtain ⟨rfl,h2,h3,h4⟩:=hq
 exact ⟨.inl ⟨.bool true,.bool true,[],rfl,fun _=> rfl,.bool true,Att.post_true l _,fun _=> ⟨List.Pairwise.nil,fun _ hm=> (nomatch hm)⟩⟩,h2,h3,h4⟩
theorem walk_ofB {l:PySem.W.OpenLaw} {n k:Nat} {q:Program} {loose:List Str} {XP:(Str→Option Value)→Heap→Prop} {YP:World→Heap→Prop} {d:DefRec} {K:Params→PySem.W.Frag} {CX:CXT} {sp:PySem.W.Frag→Sp} {x:Str}
  (hn:l.most=some n) (hn2:n≤sizeLine) (hdf:d.params.defaults=[]) (hr:cY k callerA)
  (hY:∀ (w:World) (h:Heap),YP w h→(K w.params).In h)
  (F:∀ (w:World) (mg:Str→Option Value) (fa:Addr) (h:Heap),(K w.params).In h→h.Ns mainGlobals mg→mg d.name=some (.ref fa)→
   ∃ fd:FuncData,(∀ (s:Shared) (u:Value),BindsTo s fd ⟨[u],[]⟩ [(x,u)])∧
    ∀ base:Heap,(K w.params).In base→base.Ns mainGlobals mg→bB l.prog w (K w.params) mg base CX k fa fd [x] (sp (K w.params)))
  (hsp:∀ (K:PySem.W.Frag) (H:Hp) (a:Addr) (ns:List Int),ns.length≤n→(∀ m∈ns,Sz 1048576 m)→sw H→SqL K H a (ns.map V.int)→sp K [.ref a] H (fun v _=> v=.bl true) fun _ _ _=> False)
  (hCX:∀ (H:Hp) (s:Shared) (e:Value) (s':Shared),CX [] H s (fun _ _ _=> False) e s'→False):
  PySem.W.WalkO q loose XP YP l.row.toRowW d [] (fun f vs=> PySem.call f vs):=by
 refine j5 hn hdf fun w s₀ s₁ mg mb fa o pm cd doc a vs ns G Y ho hd hcd hmg hobj hints hlen hbits hg=> ?_
 have KX:=hY w _ Y
 obtain ⟨fd,hb,hF⟩:=F w mg fa _ KX G.T.g hmg
 exact q9 KX G.T.g G.T.b G.T.builtins G.T.nolimit hg hobj hints (Nat.le_trans hlen hn2) hr hF hb (fun H hO hS=> hsp _ H a ns hlen hbits hO hS) fun H e s'=> hCX H s₁ e s'
end L2
namespace L2
theorem jF {α:Type} {xs:List α} {k:Int} {i:Nat} {v:α} (e:k=(i:Int)) (h:xs[i]?=some v):atI xs k=some v:=by subst e; exact mK h
end L2
namespace L2
theorem Sz.natle {m:Nat} {x y:Int} (hy:Sz m y) (h:x.natAbs≤y.natAbs):Sz m x:=Sz.le h hy
end L2
namespace L2
open PySem PySem.Spec PyProof.Rows
abbrev bi (X:Cx) (scope:Scope) (cl:List (Str×Addr)) (C:Addr) (s:Shared) (H:Hp) (fp:List Addr):Cx:=
 { X with s₀:=s,H₀:=H,env:=compEnvC scope cl C X.env,outer:=X.stack,ex:=fp,fn:=fun _=> false,pn:=[],xe:=fun _ _=> False }
def mask:List Nat→St→St
 | [],σ=> σ
 | i::is,σ=> mask is (σ.set i none)
theorem ix:∀ (is:List Nat) (σ:St),(mask is σ).length=σ.length
 | [],_=> rfl
 | i::is,σ=> by rw [mask,ix is]; simp
theorem il:∀ (is:List Nat) (σ:St) (j:Nat) (v:V),(mask is σ)[j]?=some (some v)→σ[j]?=some (some v)∧j ∉ is
 | [],σ,j,v,h=> ⟨h,by simp⟩
 | i::is,σ,j,v,h=> by
  obtain ⟨h1,h2⟩:=il is _ j v h
  by_cases e:i=j
  ·subst e
   rw [List.getElem?_set] at h1
   simp at h1
  ·rw [List.getElem?_set_ne e] at h1
   exact ⟨h1,by simp [Ne.symm e,h2]⟩
structure dE (X:Cx) (scope:Scope) (cl:List (Str×Addr)) (is:List Nat):Prop where
 clos:closureFor scope X.env=pure cl
 cell:∀ y∈scope.names,y.2≠.cell
 kind:scope.kind=.function
 names:∀ y∈scope.names,y.2=.local→scope.names.lookup y.1=some .local
 cls:∀ x c,cl.lookup x=some c→X.env.cells.lookup x=some c
 free:∀ x,((relabel scope X.env).names.lookup x=some .cell∨(relabel scope X.env).names.lookup x=some .free)→Vis X.env.scope x∧X.env.scope.names.lookup x≠some .local∧∃ c,cl.lookup x=some c
 own:∀ i x,X.N[i]?=some x→(relabel scope X.env).names.lookup x=some .local→i∈is
def qP (J:It) (is:List Nat) (g:TG) (te:TE) (σ:St) (H1:Hp) (l:Addr) (Q:VK):Prop:=
 ∃ W:Nat→Nat→Hp→Prop,(∃ m,W 0 m (upd H1 l (.lst [])))∧∀ i m H2,W i m H2→
  (J.stop i H2∧Q (.ref l) H2)∨(J.go i H2∧∀ x H3,J.yld i H2 x H3→g x (mask is σ) H3 fun σ4 H4=> te σ4 H4 fun y H5=>
   (∀ (j:Nat) (v:V),(mask is σ)[j]?=some (some v)→σ4[j]?=some (some v))∧∃ vs,H5 l=some (.lst vs)∧vs.length < sizeLine∧∃ m',m' < m∧W (i+1) m' (upd H5 l (.lst (vs++[y]))))
def uh (is:List Nat) (g:TG) (te:TE) (σ:St) (Q:VK) (J:It) (H1:Hp):Prop:=∀ l,H1 l=none→qP J is g te σ H1 l Q
def rP (is:List Nat) (wi:TI) (g:TG) (te:TE):TE:=fun σ H Q=> wi σ H (uh is g te σ Q)
section
variable {X:Cx} {pins:List (Addr×Obj)} {σ:St} {H:Hp} {s:Shared}
theorem kv {scope:Scope} {cl:List (Str×Addr)} {is:List Nat} {fp:List Addr} {h₁:Heap} {m:Str→Option Value} {t':Nat} (I:Inv X pins σ H s) (B:dE X scope cl is) (hf:∀ b∈fp,iC X pins H b) (hfl:∀ b∈fp,b < s.heap.objs.size)
  (hn:h₁.Ns s.heap.objs.size m) (hk:∀ b o,s.heap.get? b=some o→h₁.get? b=some o):
  Inv (bi X scope cl s.heap.objs.size s H fp) [] (mask is σ) H { s with heap:=h₁,toks:=t' }:=by
 refine ⟨⟨I.ok.mod,B.kind,I.ok.glob,I.ok.blt,Nat.le_refl _,fun x y c h1 h2=> I.ok.inj x y c (B.cls x c h1) (B.cls y c h2),fun x hx=> (B.free x hx).2.2,fun x c h=> (by cases h),I.ok.hd,I.ok.frames,.inl rfl,fun b hb=> ⟨Nat.ne_of_lt (hfl b hb),fun x c e=> (hf b hb).2.2.2.2.1 x c (B.cls x c e)⟩,
  I.bs,Nat.le_trans I.ok.bsz I.sz,fun b o e hb=> ?_,fun b hb z=> ?_,I.stack,I.stkFree⟩,rfl,I.bare,Un.kept hk,⟨m,hn,fun i x v h1 h2 h3=> ?_⟩,fun x c e=> ?_,I.hok.fresh (Nat.le_refl _),fun x c e=> I.freeC x c (B.cls x c e),fun p hp=> absurd (show p∈([]:List (Addr×Obj)) from hp) (by simp),I.hok.kept hk,?_⟩
 ·rcases (hf b hb).2.2.2.1 with z | z
  ·exact I.ok.noex b o e z
  ·exact absurd (Nat.lt_of_lt_of_le (Heap.lt_size e) (Nat.le_trans I.ok.bsz z)) (Nat.lt_irrefl _)
 ·rcases List.mem_cons.mp (I.stkSub b z) with e | e
  ·exact (hf b hb).2.1 e
  ·exact (hf b hb).2.2.1 e
 ·obtain ⟨e2,ni⟩:=il is σ i v h2
  have h3':(relabel scope X.env).names.lookup x=some .local∨(relabel scope X.env).names.lookup x=some .cell∨(relabel scope X.env).names.lookup x=some .free:=h3
  rcases h3' with z | z
  ·exact absurd (B.own i x h1 z) ni
  ·obtain ⟨hv,hnl,c,hc⟩:=B.free x z
   obtain ⟨m0,_,hl⟩:=I.loc
   obtain ⟨u,r,l⟩:=hl i x v h1 e2 hv
   refine ⟨u,r,.inr ⟨z,c,hc,?_⟩⟩
   rcases l with ⟨k,_⟩ | ⟨_,c',hc',o,ho,hd⟩
   ·exact absurd k hnl
   ·have ec:=B.cls x c hc
    rw [hc'] at ec
    cases ec
    exact ⟨o,hk _ _ ho,hd⟩
 ·obtain ⟨v,o,ho,hd⟩:=I.cell x c (B.cls x c e)
  exact ⟨v,o,hk _ _ ho,hd⟩
 ·show (mask is σ).length=X.N.length
  rw [ix]; exact I.len
theorem kQ {elt iter tg:Expr} {scope:Scope} {cl:List (Str×Addr)} {pos pos0:Pos} {is:List Nat} {wi:TI} {g:TG} {te:TE} {use:Option (Value→Sem Unit)} {Q0:VK} {Q:Value→Shared→Prop} (hc:X.calm=true) (B:dE X scope cl is)
  (hi:PI X tg iter wi) (hg:∀ C s H fp,PG (bi X scope cl C s H fp) tg g) (he:∀ C s H fp,PE (bi X scope cl C s H fp) elt te) (hs:∀ x,foldedSetIterable iter X.env x=pure x)
  (I:Inv X pins σ H s) (h:rP is wi g te σ H Q0)
  (fin:∀ (l C:Addr) (H':Hp) (s':Shared) (m:Str→Option Value),Inv X pins σ H' s'→s'.heap.Ns C m→H' C=none→C≠X.env.locals→C ∉ X.fs→X.s₀.heap.objs.size≤C→(∀ x c,X.env.cells.lookup x=some c→c≠C)→(∀ p∈X.pn++pins,p.1≠C)→Q0 (.ref l) H'→
   compPost (model X.prog X.w) X.A X.xe use Q (.ref l) C (.ok .next) s'):
  wpAny (model X.prog X.w) X.A (comprehension (.ListComp elt [⟨tg,iter,[],0⟩] scope pos) scope X.env pos0 (newList []) false (eval iter X.env) use) Q X.xe s:=by
 refine wpAny_comprehension_free rfl hs B.clos B.kind B.names (thn (hi pins s σ H _ I h) fun xv s1 h1=> thn h1 fun itv s2 h2=> ?_)
 obtain ⟨it,fp,tn,J,H2,e,I2,T,st2,f2,R⟩:=h2
 subst e
 refine wpAny_newObj_type (wpAny_newFunctionEnv B.cell (by intro y hy; simp at hy) (fun h₁ hns hsb=> ?_) B.kind)
 have hl:H2 s2.heap.objs.size=none:=I2.hok.fresh (Nat.le_refl _)
 obtain ⟨W,⟨m0,w0⟩,turn⟩:=R s2.heap.objs.size hl
 have I3:Inv X pins σ (upd H2 s2.heap.objs.size (.lst [])) { s2 with heap:=s2.heap.push { cls:=.type "list",dict:=none,data:=.seq ([]:List Value).toArray } }:=
  I2.laid (t':=s2.toks) (o:=.lst []) (fun b u e=> Heap.get?_push_of_some _ e) (Nat.le_refl _) ⟨Nat.zero_le _,[],0,.nil,Heap.get?_push_size _ rfl⟩
 have hfl:∀ b∈fp,b < s2.heap.objs.size:=fun b hb=> let ⟨o,e,_⟩:=T.obj 0 _ st2 b hb; Heap.lt_size e
 have f3:∀ b∈fp,iC X pins (upd H2 s2.heap.objs.size (.lst [])) b:=fun b hb=> ⟨by rw [aL (Nat.ne_of_lt (hfl b hb))]; exact (f2 b hb).1,(f2 b hb).2⟩
 have kp:∀ b o,(s2.heap.push { cls:=.type "list",dict:=none,data:=.seq ([]:List Value).toArray }).get? b=some o→h₁.get? b=some o:=fun b o e=>
  hsb.extBut b o (Nat.ne_of_lt (Heap.lt_size e)) (Heap.get?_push_of_some _ e)
 have st4:tn 0 h₁:=T.keep 0 _ _ st2 fun b _ o e=> kp b o (Heap.get?_push_of_some _ e)
 have hfl3:∀ b∈fp,b < (s2.heap.push { cls:=.type "list",dict:=none,data:=.seq ([]:List Value).toArray }).objs.size:=fun b hb=> by
  rw [Heap.size_push]; exact Nat.lt_succ_of_lt (hfl b hb)
 have I4:=kv (t':=s2.toks+([]:List (Str×Value)).length) I3 B f3 hfl3 hns kp
 have loop:codeAny (model X.prog X.w) X.A (.compLoop (.ListComp elt [⟨tg,iter,[],0⟩] scope pos) 0 (.ref it) (.ref s2.heap.objs.size) (compEnvC scope cl (s2.heap.push { cls:=.type "list",dict:=none,data:=.seq ([]:List Value).toArray }).objs.size X.env))
   (compPost (model X.prog X.w) X.A X.xe use Q (.ref s2.heap.objs.size) (s2.heap.push { cls:=.type "list",dict:=none,data:=.seq ([]:List Value).toArray }).objs.size)
   { s2 with heap:=h₁,toks:=s2.toks+([]:List (Str×Value)).length }:=by
  generalize hs3:({ s2 with heap:=s2.heap.push { cls:=.type "list",dict:=none,data:=.seq ([]:List Value).toArray } }:Shared)=s3 at *
  have hC:(s2.heap.push { cls:=.type "list",dict:=none,data:=.seq ([]:List Value).toArray }).objs.size=s3.heap.objs.size:=by rw [← hs3]
  rw [hC]
  have hstat:∀ {H':Hp},(∀ b∈fp,H' b=none)→∀ b∈fp,iC (bi X scope cl s3.heap.objs.size s3 (upd H2 s2.heap.objs.size (.lst [])) fp) [] H' b:=fun hn b hb=>
   ⟨hn b hb,(I4.ok.exf b hb).1,I4.ok.exfs b hb,.inl hb,fun x c e=> (I4.ok.exf b hb).2 x c e,fun p hp=> absurd (show p∈([]:List (Addr×Obj)) from hp) (by simp)⟩
  have back:∀ {σ':St} {H':Hp} {pp:List (Addr×Obj)} {s':Shared},Inv (bi X scope cl s3.heap.objs.size s3 (upd H2 s2.heap.objs.size (.lst [])) fp) pp σ' H' s'→Inv X pins σ H' s':=fun I'=>
   I3.call' (ch:=fp) I'.os I'.base I'.hok I'.bare fun b hb=> ⟨(f3 b hb).2.2.2.1,(f3 b hb).2.1,(f3 b hb).2.2.2.2.1,(f3 b hb).2.2.2.2.2⟩
  refine codeAny_loop rfl (fun n s'=> ∃ i H',Inv (bi X scope cl s3.heap.objs.size s3 (upd H2 s2.heap.objs.size (.lst [])) fp) [] (mask is σ) H' s'∧tn i s'.heap∧(∀ b∈fp,H' b=none)∧W i n H') ?_ m0 ⟨0,_,(by subst hs3; exact I4),st4,fun b hb=> (f3 b hb).1,w0⟩
  rintro n s5 ⟨i,H5,I5,st5,fr5,w5⟩
  show wpAny _ _ ((compTurn (.ListComp elt [⟨tg,iter,[],0⟩] scope pos) 0 (.ref it) (.ref s2.heap.objs.size) (compEnvC scope cl s3.heap.objs.size X.env)).onRaise (fun x=> do noteFrame x (compEnvC scope cl s3.heap.objs.size X.env); theTreesLotGoes x)) _ _ s5
  refine wpAny_noted ?_
  rw [compTurn_list1]
  refine wpAny_bind (wpAny_standAt (wpAny_bind ?_))
  rcases turn i n H5 w5 with ⟨stop,q⟩ | ⟨go,step⟩
  ·refine thn (T.done (bi X scope cl s3.heap.objs.size s3 (upd H2 s2.heap.objs.size (.lst [])) fp) rfl rfl rfl hc i [] s5 _ H5 _ I5 (hstat fr5) st5 stop) fun r s6 ⟨hr,I6⟩=> ?_
   subst hr
   refine wpAny_pure ?_
   obtain ⟨m6,hn6,_⟩:=I6.loc
   have hCn:∀ b,b < s3.heap.objs.size→b≠s3.heap.objs.size:=fun b hb=> Nat.ne_of_lt hb
   refine fin _ s3.heap.objs.size H5 s6 m6 (back I6) hn6 I6.free (Nat.ne_of_gt I3.lt) (I3.nofs (Nat.le_refl _)) I3.sz (fun x c e=> ?_) (fun p hp=> ?_) q
   ·obtain ⟨v,z⟩:=I3.cell x c e
    exact Nat.ne_of_lt z.lt
   ·exact Nat.ne_of_lt (Heap.lt_size (I3.pin p hp).1)
  ·refine thn (T.item (bi X scope cl s3.heap.objs.size s3 (upd H2 s2.heap.objs.size (.lst [])) fp) rfl rfl rfl hc i [] s5 _ H5 _ I5 (hstat fr5) st5 go) fun r s6 ⟨u,hr,h6⟩=> ?_
   subst hr
   refine wpAny_bind (thn h6 fun _ s7 ⟨x,H7,I7,r7,y7,st7,fr7⟩=> ?_)
   have I7':=I7.pinned (hstat fr7) (T.obj _ _ st7)
   refine wpAny_bind (wpAny_mono (hg _ _ _ _ _ s7 (mask is σ) H7 x u _ I7' r7 (step x H7 y7)) (fun _ s8 ⟨σ8,H8,I8,q8⟩=> ?_) fun _ _ z=> z.elim)
   refine wpAny_bind (wpAny_bind (wpAny_mono (he _ _ _ _ _ s8 σ8 H8 _ I8 q8) (fun v s9 ⟨y,H9,I9,r9,sub,vs,hl9,hz,m',hm,w'⟩=> ?_) fun _ _ z=> z.elim))
   refine wpAny_bind (wpAny_mono (jd (X:=bi X scope cl s3.heap.objs.size s3 (upd H2 s2.heap.objs.size (.lst [])) fp) _ s9 σ8 H9 (.ref s2.heap.objs.size) [y] (.ref s2.heap.objs.size) [v] (fun _ H'=> H'=upd H9 s2.heap.objs.size (.lst (vs++[y]))) I9 rfl (.cons r9 .nil) ⟨_,vs,y,rfl,rfl,hl9,hz,rfl⟩) (fun z s10 ⟨zv,H10,I10,_,e10⟩=> ?_) fun _ _ z=> z.elim)
   subst e10
   refine wpAny_pure (wpAny_pure ⟨rfl,m',hm,i+1,_,(I10.unpinned (pins:=[])).weak (by rw [I10.len,ix,I.len]) sub,T.keep _ _ _ st7 fun b hb o e=> (I10.pin (b,o) (List.mem_append_right _ (List.mem_append_right _ (dJ hb e)))).1,fun b hb=> ?_,w'⟩)
   obtain ⟨o,e,d⟩:=T.obj _ _ st7 b hb
   exact (I10.pin (b,o) (List.mem_append_right _ (List.mem_append_right _ (dJ hb e)))).2.1
 exact codeAny_compStart_list loop (T.self X.A 0 _ _ _ st4 loop)
theorem sr {elt iter tg:Expr} {scope:Scope} {cl:List (Str×Addr)} {pos:Pos} {is:List Nat} {wi:TI} {g:TG} {te:TE} (hc:X.calm=true) (B:dE X scope cl is)
  (hi:PI X tg iter wi) (hg:∀ C s H fp,PG (bi X scope cl C s H fp) tg g) (he:∀ C s H fp,PE (bi X scope cl C s H fp) elt te) (hs:∀ x,foldedSetIterable iter X.env x=pure x:=by intro _; rfl):
  PE X (.ListComp elt [⟨tg,iter,[],0⟩] scope pos) (rP is wi g te):=by
 intro pins s σ H Q I h
 rw [eval_ListComp]
 refine kQ (use:=none) hc B hi hg he hs I h fun l C H' s' m I' hn h1 h2 h3 h4 h5 h6 q=> ⟨m,hn,fun h' hsb=> ?_⟩
 exact ⟨.ref l,H',I'.turned (t':=s'.toks) (fun b o hb e=> hsb.extBut b o hb e) h1 (Ne.symm h2.symm) (.inr h4) h5 h6,rfl,q⟩
end
end L2
namespace L2
open PySem PySem.Spec PyProof.Rows
section
variable {X:Cx}
theorem lD {elt iter tg:Expr} {scope:Scope} {cl:List (Str×Addr)} {pos spos py:Pos} {y:Str} {j:Nat} {is:List Nat} {wi:TI} {g:TG} {te:TE} (hc:X.calm=true) (hN:X.N.Nodup) (hj:X.N[j]?=some y) (hy:Loc X.env.scope y) (B:dE X scope cl is)
  (hi:PI X tg iter wi) (hg:∀ C s H fp,PG (bi X scope cl C s H fp) tg g) (he:∀ C s H fp,PE (bi X scope cl C s H fp) elt te) (hs:∀ x,foldedSetIterable iter X.env x=pure x:=by intro _; rfl)
  (hsw:swapsWith (.ListComp elt [⟨tg,iter,[],0⟩] scope pos) (some (.Name y py)) spos.line X.env=pure true:=by rfl) (hf:X.fn y=true∨X.env.scope.names.lookup y=some .local:=by first | exact .inl rfl | exact .inr rfl | assumption):
  PS X (.Assign [.Name y py] (.ListComp elt [⟨tg,iter,[],0⟩] scope pos) spos) (vn (rP is wi g te) (kR j)):=by
 intro pins s σ H D I h
 rw [exec_Assign_Name_used _ _ _ _ hsw]
 refine wpAny_bind (wpAny_standAt (wpAny_bind ?_))
 show wpAny _ X.A (do let _ ← comprehension (.ListComp elt [⟨tg,iter,[],0⟩] scope pos) scope X.env _ (newList []) false (eval iter X.env) (some (assign (.Name y py) X.env))) _ _ s
 refine wpAny_bind (wpAny_mono (kQ (Q0:=fun v H'=> D.nx (σ.set j (some v)) H') (use:=some (assign (.Name y py) X.env)) (Q:=fun _ s'=> SP X pins D .next s') hc B hi hg he hs I h fun l C H' s' m I' hn h1 h2 h3 h4 h5 h6 q=> ?_) (fun _ s' hq=> wpAny_pure (wpAny_pure hq)) fun _ _ e=> e)
 show wpAny _ X.A (assign (.Name y py) X.env (.ref l)) _ _ _
 refine wpAny_assign_Name (f_ I' hN hj hy (v:=.ref l) rfl (fun s2 I2 ⟨a,hsb,ha⟩=> ?_) hf)
 have hCa:C≠a:=by
  rcases ha with e | e
  ·rw [e]; exact h2
  ·exact Ne.symm (h5 _ _ e)
 refine ⟨m,hn.sameBut hsb hCa,fun h' hsb'=> ⟨_,H',I2.turned (t':=s2.toks) (fun b o hb e=> hsb'.extBut b o hb e) h1 h2 (.inr h4) h5 h6,q⟩⟩
end
section
variable {prog:Program} {w:World} {A:Around} {E:Value→Shared→Prop}
end
section
variable {X:Cx} {pos:Pos}
end
end L2
namespace L2
open PySem PySem.Spec PyProof.Rows
def goC (cells:List (Str×Addr)):List (Str×NameKind)→List (Str×Addr)→List (Str×Addr)
 | [],acc=> acc
 | (n,k)::r,acc=> goC cells r (if (k==.free)=true then (n,(cells.lookup n).getD 0)::acc else acc)
theorem lR {env:Env} {scope:Scope} (h:∀ y∈scope.names,y.2=.free→(env.cells.lookup y.1).isSome=true):closureFor scope env=pure (goC env.cells scope.names []):=by
 have all:∀ (names:List (Str×NameKind)) (acc:List (Str×Addr)),(∀ y∈names,y.2=.free→(env.cells.lookup y.1).isSome=true)→
   (forIn names acc (fun x cs=> match x with | (name,kind)=> if (kind==.free)=true then (do let c ← cellOf env name; pure (ForInStep.yield ((name,c)::cs))) else pure (ForInStep.yield cs)):Sem (List (Str×Addr)))=pure (goC env.cells names acc):=by
  intro names
  induction names with
  | nil=> intro acc _; rfl
  | cons y r ih=>
   intro acc hy
   obtain ⟨n,k⟩:=y
   rw [List.forIn_cons]
   by_cases hk:k=.free
   ·subst hk
    have:=hy (n,.free) List.mem_cons_self rfl
    obtain ⟨c,hc⟩:=Option.isSome_iff_exists.mp this
    have e:cellOf env n=pure c:=by unfold cellOf; rw [hc]
    simp only [beq_self_eq_true,if_true,e,pure_bind]
    rw [ih _ fun y hy'=> hy y (List.mem_cons_of_mem _ hy')]
    simp only [goC,beq_self_eq_true,if_true,hc,Option.getD_some]
   ·have hb:(k==NameKind.free)=false:=by simpa using hk
    simp only [hb,Bool.false_eq_true,if_false,pure_bind]
    rw [ih _ fun y hy'=> hy y (List.mem_cons_of_mem _ hy')]
    simp only [goC,hb,Bool.false_eq_true,if_false]
 simp only [closureFor]
 have:=all scope.names [] h
 simpa using this
theorem m5 {cells:List (Str×Addr)}:∀ (names:List (Str×NameKind)) (acc:List (Str×Addr)),(∀ y∈names,y.2=.free→(cells.lookup y.1).isSome=true)→(∀ x c,acc.lookup x=some c→cells.lookup x=some c)→
  ∀ x c,(goC cells names acc).lookup x=some c→cells.lookup x=some c
 | [],_,_,ha,x,c,h=> ha x c h
 | (n,k)::r,acc,hy,ha,x,c,h=> by
  rw [goC] at h
  refine m5 r _ (fun y hy'=> hy y (List.mem_cons_of_mem _ hy')) (fun x' c' e=> ?_) x c h
  by_cases hk:k=.free
  ·subst hk
   simp only [beq_self_eq_true,if_true] at e
   rw [List.lookup_cons] at e
   by_cases hx:(x'==n)=true
   ·rw [hx] at e
    have hx':x'=n:=by simpa using hx
    obtain ⟨c2,hc2⟩:=Option.isSome_iff_exists.mp (hy (n,.free) List.mem_cons_self rfl)
    simp only [hc2,Option.getD_some] at e
    rw [hx',hc2]; exact e
   ·have:(x'==n)=false:=by simpa using hx
    rw [this] at e
    exact ha x' c' e
  ·have hb:(k==NameKind.free)=false:=by simpa using hk
   rw [hb] at e
   exact ha x' c' e
theorem nU {cells:List (Str×Addr)} {x:Str}:∀ (names:List (Str×NameKind)) (acc:List (Str×Addr)),((x,NameKind.free)∈names∨∃ c,acc.lookup x=some c)→∃ c,(goC cells names acc).lookup x=some c
 | [],_,h=> by
  rcases h with h | h
  ·cases h
  ·exact h
 | (n,k)::r,acc,h=> by
  rw [goC]
  refine nU r _ ?_
  rcases h with h | ⟨c,h⟩
  ·rcases List.mem_cons.mp h with e | h
   ·cases e
    right
    simp
   ·exact .inl h
  ·right
   by_cases hk:k=.free
   ·subst hk
    simp only [beq_self_eq_true,if_true]
    rw [List.lookup_cons]
    cases hx:x==n with
    | true=> exact ⟨_,rfl⟩
    | false=> exact ⟨c,h⟩
   ·have hb:(k==NameKind.free)=false:=by simpa using hk
    rw [hb]; exact ⟨c,h⟩
theorem cq {env:Env} {x:Str} {kd:NameKind}:∀ {names:List (Str×NameKind)},
  (names.map fun (n,k)=> if (k==NameKind.free && env.scope.kind==.function && env.kindOf n==some .cell) then (n,NameKind.cell) else (n,k)).lookup x=some kd→names.lookup x=some kd∨(kd=.cell∧names.lookup x=some .free)
 | [],h=> by simp at h
 | (n,k)::r,h=> by
  have ih:=@cq env x kd r
  change List.lookup x ((if (k==NameKind.free && env.scope.kind==.function && env.kindOf n==some .cell)=true then (n,NameKind.cell) else (n,k))::_)=_ at h
  by_cases hc:(k==NameKind.free && env.scope.kind==.function && env.kindOf n==some .cell)=true
  ·rw [if_pos hc] at h
   rw [List.lookup_cons] at h ⊢
   cases hx:x==n with
   | true=>
    rw [hx] at h
    have hk:k=.free:=by
     have:=(Bool.and_eq_true_iff.mp (Bool.and_eq_true_iff.mp hc).1).1
     simpa using this
    subst hk
    have h':some NameKind.cell=some kd:=h
    cases h'
    exact .inr ⟨rfl,rfl⟩
   | false=> rw [hx] at h; exact ih h
  ·rw [if_neg hc] at h
   rw [List.lookup_cons] at h ⊢
   cases hx:x==n with
   | true=> rw [hx] at h; exact .inl h
   | false=> rw [hx] at h; exact ih h
def qL (scope fscope:Scope) (N:List Str) (is:List Nat):Bool:=
 scope.names.all (fun y=> y.2 !=.cell) && scope.names.all (fun y=> y.2 !=.local || scope.names.lookup y.1==some .local) && scope.names.all (fun y=> y.2 !=.free || fscope.names.lookup y.1==some .cell) &&
  (List.range N.length).all fun i=> match N[i]? with | some x=> scope.names.lookup x !=some .local || is.contains i | none=> true
theorem blk {X:Cx} {scope:Scope} (fscope:Scope) (N:List Str) (is:List Nat) (hNN:X.N=N) (hs:X.env.scope=fscope) (hcs:X.env.cells=cellsFrom (X.env.locals+1) fscope.names []) (hk:scope.kind=.function) (h:qL scope fscope N is=true):dE X scope (goC X.env.cells scope.names []) is:=by
 subst hNN
 unfold qL at h
 simp only [Bool.and_eq_true,List.all_eq_true] at h
 obtain ⟨⟨⟨h1,h2⟩,h3⟩,h4⟩:=h
 have f1:∀ y∈scope.names,y.2=.free→fscope.names.lookup y.1=some .cell:=fun y hy e=> by
  have:=h3 y hy
  simp only [Bool.or_eq_true,bne_iff_ne,ne_eq,beq_iff_eq] at this
  exact this.resolve_left fun z=> z e
 have f2:∀ y∈scope.names,y.2=.free→(X.env.cells.lookup y.1).isSome=true:=fun y hy e=> by
  rw [hcs]; exact PySem.W.cellsFrom_some _ _ _ (.inl (f1 y hy e))
 have nc:∀ y∈scope.names,y.2≠.cell:=fun y hy=> by have:=h1 y hy; simpa using this
 refine ⟨lR f2,nc,hk,fun y hy e=> ?_,m5 _ _ f2 (fun x c e=> by simp at e),fun x hx=> ?_,fun i x hi hl=> ?_⟩
 ·have:=h2 y hy
  simp only [Bool.or_eq_true,bne_iff_ne,ne_eq,beq_iff_eq] at this
  exact this.resolve_left fun z=> z e
 ·have hf:(x,NameKind.free)∈scope.names:=by
   rcases hx with hx | hx
   ·rcases cq hx with z | ⟨_,z⟩
    ·exact absurd rfl (nc _ (PySem.mem_of_lookup z))
    ·exact PySem.mem_of_lookup z
   ·rcases cq hx with z | ⟨z,_⟩
    ·exact PySem.mem_of_lookup z
    ·cases z
  have hc:=f1 _ hf rfl
  refine ⟨.inr (.inl (by rw [hs]; exact hc)),(by rw [hs,show fscope.names.lookup x=some .cell from hc]; intro z; cases z),nU _ _ (.inl hf)⟩
 ·have hi':i < X.N.length:=(List.getElem?_eq_some_iff.mp hi).1
  have:=h4 i (List.mem_range.mpr hi')
  rw [hi] at this
  have hl':scope.names.lookup x=some .local:=by
   rcases cq hl with z | ⟨z,_⟩
   ·exact z
   ·cases z
  simp only [hl',bne_self_eq_false,Bool.false_or,List.contains_iff_mem] at this
  exact this
end L2
namespace L2
end L2
namespace L2
open PySem PySem.Spec PySem.W PyProof.Rows
theorem tU {K:Frag} {h:Heap} {mg:Str→Option Value} {x:Str} {C:Addr} {bmB:List Value} {newId:String} (X:K.In h) (hb:mg x=some (.ref C)) (q:excIn K C bmB newId=true):OwnCls x C bmB newId mg h:=by
 refine ⟨hb,?_⟩
 unfold excIn at q
 split at q
 ·rename_i dd cd sl ho
  split at q
  ·rename_i C' bm k0 k1 k2 k3 n k5 hm hs
   simp only [Bool.and_eq_true,beq_iff_eq,Bool.not_eq_true'] at q
   obtain ⟨⟨⟨⟨⟨e1,e2⟩,hdel⟩,ht⟩,hok⟩,hni⟩:=q
   subst e1 e2
   obtain ⟨nm,bs,mro,ns,qn,hd,sn,sub,ab,col,del⟩:=cd
   dsimp only at hm hdel hok hni
   subst hm hdel
   have hsl:sl=#[k0,k1,k2,k3,some (.builtin n),k5]:=by cases sl; simp only at hs; rw [hs]
   subst hsl
   exact ⟨bm,ns,nm,qn,bs,hd,sn,sub,ab,col,dd,k0,k1,k2,k3,k5,_,X _ _ ho,.of_isNs (isNs_of_in X hok),nsMap_none_of_in X hok hni,tail_of_in X ht⟩
  ·cases q
 ·cases q
def CXF (P:Program) (w:World):CXT:=fun outer H s E e s'=> ∃ (ea:Addr) (cls a0:Value) (B:Heap) (H':Hp),e=.ref ea∧s'.os=s.os∧AllBare s'.gens∧Un (frs outer) [] H H' s.heap s'.heap∧HOk P w H' s'.heap∧H' ea=none∧
 (∀ b o,s.heap.get? b=some o→b ∉ frs outer→H b=none→B.get? b=some o)∧(∀ b u,H' b=some u→∃ o,B.get? b=some o)∧(∀ b o,s.heap.get? b=some o→b ∉ frs outer→∃ o',B.get? b=some o')∧
 Heap.FlyingW B outer ea cls a0 s'.heap∧E cls none H'
theorem aB {P:Program} {w:World} {X:Cx}:fo (CXF P w) X E0:=fun _ _ _ _ _ _ _ h=> by
 obtain ⟨_,_,_,_,_,_,_,_,_,_,_,_,_,_,_,hE⟩:=h
 exact hE.elim
theorem iU {P:Program} {w:World} {H:Hp} {h:Heap} {a:Addr} {o:HO} (x:bR P w H h a o):∃ ob,h.get? a=some ob:=by
 cases o with
 | lst xs=> obtain ⟨_,_,_,_,e⟩:=x; exact ⟨_,e⟩
 | tup xs=> obtain ⟨_,_,_,ob,e,_⟩:=x; exact ⟨_,e⟩
 | dK kvs=> obtain ⟨_,_,_,_,o,_,_,e,_⟩:=x; exact ⟨_,e⟩
 | dT kvs=> obtain ⟨_,_,_,_,o,_,_,e,_⟩:=x; exact ⟨_,e⟩
 | set S n=> obtain ⟨o,_,_,_,e,_⟩:=x; exact ⟨_,e⟩
 | ins C dx fs=> obtain ⟨_,_,_,e,_⟩:=x; exact ⟨_,e⟩
 | own y=> obtain ⟨_,e⟩:=x; exact ⟨_,e⟩
 | xd fs=> obtain ⟨_,⟨_,_,_,e,_⟩,_⟩:=x; exact ⟨_,e⟩
 | rng lo hi=> obtain ⟨_,_,_,e⟩:=x; exact ⟨_,e⟩
 | frz ob u=> obtain ⟨e,_⟩:=x; exact ⟨_,e⟩
 | tbl ps=> exact ⟨_,(show h.get? a=some _ from x)⟩
 | met f y=> exact ⟨_,(show h.get? a=some _ from x)⟩
 | ext φ=> obtain ⟨_,⟨_,e⟩,_⟩:=x; exact ⟨_,e⟩
theorem gK {P:Program} {w:World} {H':Hp} {h h' B:Heap} (ok:HOk P w H' h) (hB:∀ b u,H' b=some u→∃ o,B.get? b=some o) (s1:B.StaysIn h) (s2:B.StaysIn h'):HOk P w H' h':=fun a o e=> by
 refine (ok a o e).stay (fun b u hb q=> ?_) (fun _ q=> q) fun _ _ q=> q
 have:∃ v,H' b=some v:=by
  rcases hb with z | z
  ·subst z; exact ⟨_,e⟩
  ·exact ⟨_,z⟩
 obtain ⟨v,hv⟩:=this
 obtain ⟨ob,hob⟩:=hB b v hv
 have:=s1 b ob hob
 rw [q] at this
 cases this
 exact s2 b _ hob
theorem qW {fs:List Addr} {H0 H':Hp} {h0 h1 h2 B:Heap} (u:Un fs [] H0 H' h0 h1) (k1:∀ b o,h0.get? b=some o→b ∉ fs→H0 b=none→B.get? b=some o) (k3:∀ b o,h0.get? b=some o→b ∉ fs→∃ o',B.get? b=some o')
  (st:B.StaysIn h2) (up:h1.UpToSlots h2) (fr:∀ b∈fs,∀ o,h0.get? b=some o→∀ vs,o.data≠.fields vs) (frf:∀ b∈fs,H0 b=none):Un fs [] H0 H' h0 h2 where
 keep:=fun b o e n hb _=> st b o (k1 b o e hb n)
 slot:=fun b o e n hb hx=> by
  obtain ⟨sl,e1⟩:=u.slot b o e n hb hx
  obtain ⟨sl2,e2⟩:=up b _ e1 (fr b hb o e)
  exact ⟨sl2,e2⟩
 free:=u.free
 there:=fun b o e hx=> by
  by_cases hb:b∈fs
  ·obtain ⟨sl,e1⟩:=u.slot b o e (frf b hb) hb hx
   obtain ⟨sl2,e2⟩:=up b _ e1 (fr b hb o e)
   exact ⟨_,e2⟩
  ·obtain ⟨o',e'⟩:=k3 b o e hb
   exact ⟨o',st b o' e'⟩
 tups:=u.tups
 frzs:=u.frzs
 tbls:=u.tbls
theorem jH {h base:Heap}:∀ {l:List Env},h.FunFrames base l→∀ b∈frs l,∀ o,h.get? b=some o→∀ vs,o.data≠.fields vs
 | [],_,b,hb,_,_=> absurd (show b∈([]:List Addr) from hb) (by simp)
 | env::r,⟨_,⟨L,o',hf,_,ho,hd⟩,hr⟩,b,hb,o,e=> by
  unfold frs at hb
  rw [List.filterMap_cons,hf] at hb
  rcases List.mem_cons.mp hb with z | z
  ·subst z; rw [ho] at e; cases e; exact hd
  ·exact jH hr b z o e
section
variable {P:Program} {w:World} {K:Frag} {mg:Str→Option Value} {base:Heap} {N:List Str} {qual:Str} {scope:Scope} {f:Addr} {cd:Value} {A:Around} {outer:List Env} {s:Shared} {H:Hp} {E:XK}
theorem o9 {env:Env} {L:Addr} {l:List Env} (h:env.frame=some L):frs (env::l)=L::frs l:=by unfold frs; rw [List.filterMap_cons,h]
theorem ko {pins:List (Addr×Obj)} {σ:St} {H1 H':Hp} {s1:Shared} {B h1 h2:Heap} (I:Inv (dj (CXF P w) P w K mg base N qual scope f cd A outer s H E) pins σ H1 s1)
  (un:Un (frs (envOfC qual scope s.heap.objs.size f cd::outer)) [] H1 H' s1.heap h1)
  (k1:∀ b o,s1.heap.get? b=some o→b ∉ frs (envOfC qual scope s.heap.objs.size f cd::outer)→H1 b=none→B.get? b=some o) (k3:∀ b o,s1.heap.get? b=some o→b ∉ frs (envOfC qual scope s.heap.objs.size f cd::outer)→∃ o',B.get? b=some o')
  (st:B.StaysIn h2) (up:h1.UpToSlots h2):
  Un (frs outer) [] H H' s.heap h2∧(∀ b o,s.heap.get? b=some o→b ∉ frs outer→H b=none→B.get? b=some o)∧(∀ b o,s.heap.get? b=some o→b ∉ frs outer→∃ o',B.get? b=some o'):=by
 have ef:frs (envOfC qual scope s.heap.objs.size f cd::outer)=s.heap.objs.size::frs outer:=o9 rfl
 rw [ef] at un k1 k3
 have ne:∀ b o,s.heap.get? b=some o→b ∉ frs outer→b ∉ s.heap.objs.size::frs outer:=fun b o e hb z=> by
  rcases List.mem_cons.mp z with y | y
  ·exact absurd (Heap.lt_size e) (by rw [y]; exact Nat.lt_irrefl _)
  ·exact hb y
 have ib:Un (frs outer) [] H H1 s.heap s1.heap:=I.base
 have K1:∀ b o,s.heap.get? b=some o→b ∉ frs outer→H b=none→B.get? b=some o:=fun b o e hb n=>
  k1 b o (ib.keep b o e n hb (by simp)) (ne b o e hb) (ib.free b o e n (by simp))
 have K3:∀ b o,s.heap.get? b=some o→b ∉ frs outer→∃ o',B.get? b=some o':=fun b o e hb=> by
  obtain ⟨o',e'⟩:=ib.there b o e (by simp)
  exact k3 b o' e' (ne b o e hb)
 have ffr:∀ b∈frs outer,∀ o,s.heap.get? b=some o→∀ vs,o.data≠.fields vs:=jH I.ok.funs
 have frf:∀ b∈frs outer,H b=none:=I.ok.frf
 refine ⟨⟨fun b o e n hb _=> st b o (K1 b o e hb n),fun b o e n hb hx=> ?_,fun b o e n hx=> ?_,fun b o e hx=> ?_,fun b xs e=> un.tups b xs (ib.tups b xs e),fun b o u e=> un.frzs b o u (ib.frzs b o u e),fun b ps e=> ?_⟩,K1,K3⟩
 ·obtain ⟨sl,e1⟩:=ib.slot b o e n hb hx
  obtain ⟨sl2,e2⟩:=un.slot b _ e1 (ib.free b o e n hx) (List.mem_cons_of_mem _ hb) hx
  obtain ⟨sl3,e3⟩:=up b _ e2 (ffr b hb o e)
  exact ⟨sl3,e3⟩
 ·obtain ⟨o',e1⟩:=ib.there b o e hx
  exact un.free b o' e1 (ib.free b o e n hx) hx
 ·by_cases hb:b∈frs outer
  ·obtain ⟨sl,e1⟩:=ib.slot b o e (frf b hb) hb hx
   obtain ⟨sl2,e2⟩:=un.slot b _ e1 (ib.free b o e (frf b hb) hx) (List.mem_cons_of_mem _ hb) hx
   obtain ⟨sl3,e3⟩:=up b _ e2 (ffr b hb o e)
   exact ⟨_,e3⟩
  ·obtain ⟨o',e'⟩:=K3 b o e hb
   exact ⟨o',st b o' e'⟩
 ·obtain ⟨m1,e1⟩:=ib.tbls b ps e
  obtain ⟨m2,e2⟩:=un.tbls b _ e1
  exact ⟨m1++m2,by rw [e2,Array.append_assoc]⟩
theorem j_:fo (CXF P w) (dj (CXF P w) P w K mg base N qual scope f cd A outer s H E) E:=by
 intro pins σ H1 s1 e s' I hcx
 obtain ⟨ea,cls,a0,B,H',rfl,os,bare,un,hok,hea,k1,k2,k3,fl,hE⟩:=hcx
 show wpAny _ _ (leaving (envOfC qual scope s.heap.objs.size f cd) (.ref ea)) _ _ s'
 refine wpAny_leaves_onW (L:=s.heap.objs.size) I.ok.frames rfl fl fun h2 fl2 up=> ?_
 obtain ⟨u,K1,K3⟩:=ko I un k1 k3 fl2.1 up
 exact ⟨ea,cls,a0,B,H',rfl,os.trans I.os,bare,u,gK hok k2 fl.1 fl2.1,hea,K1,k2,K3,fl2,hE⟩
def uZ (E:XK) (C:Addr) (te:TE):TS:=fun _ σ H=> te σ H fun _ H1=> E (.ref C) none H1
theorem rf {x:Str} {C:Addr} {e0:Expr} {te:TE} {np cpos pos:Pos} (hex:excIn K C [.type "ValueError",.type "Exception",.type "BaseException",.type "object"] "ValueError.__new__"=true)
  (hg:Gl (dj (CXF P w) P w K mg base N qual scope f cd A outer s H E) x) (hm:mg x=some (.ref C)) (he:PE (dj (CXF P w) P w K mg base N qual scope f cd A outer s H E) e0 te)
  (hst:starEach [e0] (dj (CXF P w) P w K mg base N qual scope f cd A outer s H E).env=[(false,eval e0 (dj (CXF P w) P w K mg base N qual scope f cd A outer s H E).env)]:=by rfl) (hd:(x==("__debug__":Str))=false:=by decide):
  PS (dj (CXF P w) P w K mg base N qual scope f cd A outer s H E) (.Raise (some (.Call (.Name x np) [e0] [] cpos)) none pos) (uZ E C te):=by
 intro pins s1 σ H1 D I h
 have O:=tU I.ok.mod.kin hm hex
 obtain ⟨tl,NN,nm,q,bs,hdct,sn,sub,ab,col,dd,k0,k1,k2,k3,k5,mN,hC,hN,hni,T⟩:=O.obj
 have hpl:(backTo cpos (starEach [e0] (dj (CXF P w) P w K mg base N qual scope f cd A outer s H E).env)).any (·.1)=false:=by rw [hst]; rfl
 refine wpAny_Raise_call_subT (C:=C) (nm:=nm) (q:=q) (N:=NN) (bs:=bs) (bm:=tl) (hdct:=hdct) (sn:=sn) (sub:=sub) (ab:=ab) (col:=col) (dd:=dd) (k0:=k0) (k1:=k1) (k2:=k2) (k3:=k3) (k5:=k5)
  PySem.F.excBase_ValueError (mN:=mN) (T.hasType PySem.F.excBase_ValueError.hasBase) (I.ok.hd rfl) hpl hni (fP I hg hm ⟨rfl,?_⟩ hd)
 rw [hst]
 refine Calls.evalArgs_plain ?_
 show wpAny _ _ (spliced ((false,eval e0 _)::backTo cpos [])) _ _ s1
 refine Calls.spliced_cons (thn (he pins s1 σ H1 _ I h) fun v s2 ⟨y,H2,I2,r2,hE⟩=> Calls.spliced_nil ⟨rfl,by show 1≤sizeLine; decide,I2.bk _ _ hC,hN.keeps I2.bk,T.keeps I2.bk,fun h' e hx=> ?_⟩)
 show wpAny _ _ (leaving (envOfC qual scope s.heap.objs.size f cd) (.ref e)) _ _ { s2 with heap:=h' }
 have stk:s2.heap.FunFrames base (envOfC qual scope s.heap.objs.size f cd::outer):=I2.stack
 refine wpAny_leaves_madeW (base:=hideAll s2.heap (frs (envOfC qual scope s.heap.objs.size f cd::outer))) (h:=s2.heap) (L:=s.heap.objs.size) I2.ok.frames rfl (fun b o q=> of_hideAll _ q)
  (funFrames_hide stk fun env he b hb=> List.mem_filterMap.mpr ⟨env,he,hb⟩) hx fun h2 t fl _ _ up=> ?_
 have k2':∀ b u,H2 b=some u→∃ o,(hideAll s2.heap (frs (envOfC qual scope s.heap.objs.size f cd::outer))).get? b=some o:=fun b u e=> by
  obtain ⟨ob,hob⟩:=iU (I2.hok b u e)
  exact ⟨ob,hideAll_get _ hob fun z=> by have:=I2.stkFree b z; rw [e] at this; cases this⟩
 obtain ⟨u,K1,K3⟩:=ko (h1:=h') I2 (Un.kept hx.keeps) (fun b o e hb _=> hideAll_get _ e hb) (fun b o e hb=> ⟨o,hideAll_get _ e hb⟩) fl.1 up
 refine ⟨e,.ref C,.ref t,_,H2,rfl,I2.os,I2.bare,u,gK (h:=s2.heap) I2.hok k2' (fun b o q=> of_hideAll _ q) fl.1,?_,K1,k2',K3,fl,hE⟩
 cases z:H2 e with
 | none=> rfl
 | some u=>
  obtain ⟨ob,hob⟩:=iU (I2.hok e u z)
  rw [hx.new] at hob; cases hob
end
theorem Fun.okF {P:Program} {w:World} {K:Frag} {mg:Str→Option Value} {base:Heap} {x qual:Str} {st:Stmt} {f:Addr} {fd:FuncData} {N ps:List Str} {k:Nat} {sp:Sp} (F:Fun K x qual st f fd) (S:aH N ps (aj st)) (len:∀ vs H Q E,sp vs H Q E→vs.length=ps.length)
  (hbody:∀ (cdv:Value) (A:Around) (outer:List Env) (s:Shared) (H:Hp) (vs:List V) (Q:VK) (E:XK),cY k (A.deeper (envOfC qual (aj st) s.heap.objs.size f cdv))→sp vs H Q E→
   ∃ t,PSs (dj (CXF P w) P w K mg base N qual (aj st) f cdv A outer s H E) (aA st) t∧t { nx:=fun _ H'=> Q .non H',rt:=Q } (start N vs) H):bB P w K mg base (CXF P w) (k+1) f fd ps sp:=by
 obtain ⟨oc,od,kV,doc,pm,an,cdv,ct,osl,rfl,lk,hcd⟩:=F.ex
 exact wP lk hcd S len fun A outer s H vs Q E hr hsp=> hbody cdv A outer s H vs Q E hr hsp
end L2
namespace L2
open PySem PySem.Spec PySem.W PyProof.Rows
abbrev fz (X:Cx) (ea:Addr):Cx:={ X with A:=X.A.mark (some (.ref ea)),calm:=false,xe:=fun _ _=> False }
section
variable {X:Cx} {pins:List (Addr×Obj)} {σ:St} {H:Hp} {s:Shared}
theorem Inv.hand (I:Inv X pins σ H s) (ea:Addr):Inv (fz X ea) pins σ H s:=
 ⟨⟨I.ok.mod,I.ok.kind,I.ok.glob,I.ok.blt,I.ok.above,I.ok.inj,I.ok.has,I.ok.cab,fun h=> (by cases h),I.ok.frames,I.ok.stk,I.ok.exf,I.ok.bs,I.ok.bsz,I.ok.noex,I.ok.exfs,I.ok.funs,I.ok.frf⟩,
  I.os,I.bare,I.base,I.loc,I.cell,I.free,I.freeC,I.pin,I.hok,I.len⟩
theorem Inv.unhand {ea:Addr} (hd:X.calm=true→X.A.handled=none) (I:Inv (fz X ea) pins σ H s):Inv X pins σ H s:=
 ⟨⟨I.ok.mod,I.ok.kind,I.ok.glob,I.ok.blt,I.ok.above,I.ok.inj,I.ok.has,I.ok.cab,hd,I.ok.frames,I.ok.stk,I.ok.exf,I.ok.bs,I.ok.bsz,I.ok.noex,I.ok.exfs,I.ok.funs,I.ok.frf⟩,
  I.os,I.bare,I.base,I.loc,I.cell,I.free,I.freeC,I.pin,I.hok,I.len⟩
theorem SP.unhand {ea:Addr} {D:iH} {f:Flow} {s':Shared} (hd:X.calm=true→X.A.handled=none) (h:SP (fz X ea) pins D f s'):SP X pins D f s':=by
 cases f with
 | next=> obtain ⟨σ',H',I,q⟩:=h; exact ⟨σ',H',I.unhand hd,q⟩
 | brk=> obtain ⟨σ',H',I,q⟩:=h; exact ⟨σ',H',I.unhand hd,q⟩
 | cont=> obtain ⟨σ',H',I,q⟩:=h; exact ⟨σ',H',I.unhand hd,q⟩
 | ret u=> obtain ⟨v,σ',H',I,r,q⟩:=h; exact ⟨v,σ',H',I.unhand hd,r,q⟩
end
section
variable {X:Cx}
end
end L2
namespace L2
open PySem PySem.Spec PyProof.Rows
theorem jc {n:Nat} {e:Nat→Bool}:(List.range n).all e=true↔∀ j,j < n→e j=true:=by
 rw [List.all_eq_true]
 exact ⟨fun h j hj=> h j (List.mem_range.mpr hj),fun h j hj=> h j (List.mem_range.mp hj)⟩
section
variable {X:Cx}
end
end L2
namespace PySem.W
open PySem PySem.Spec PySem.Calls PyProof.Rows PySem.Builtin PySem.Builtin.ObjectAttr PySem.Builtin.Getset_descriptor
section
variable {prog:Program} {w:World} {A:Around} {E:Value→Shared→Prop} {s:Shared} {K:Frag} {x C:Addr}
def OfCls (x C:Addr) (h:Heap):Prop:=∃ o,h.get? x=some o∧o.cls=.ref C
theorem OfCls.type {M:Model} {h:Heap} (I:OfCls x C h):Looks M h (typeOf (.ref x)) (.ref C):=by
 obtain ⟨o,h1,h2⟩:=I
 exact h2 ▸ (Looks.ld h1).andThen .now
theorem v0 {tp:Value} {R:Result→Shared→Prop} (X:K.In s.heap) (I:OfCls x C s.heap) (hm:mroIn K C (.type "object")=some true)
  (h:R (.ok (.ret (.ref C))) s):codeAny (model prog w) A (.call (.builtin "getset_descriptor.__get__") ⟨[.builtin "object.__class__",.ref x,tp],[]⟩) R s:=by
 obtain ⟨hh,g,dr,t,os⟩:=s
 have L0:=I.type (M:=model prog w)
 have L1:=looks_mroIn (M:=model prog w) X hm
 refine codeAny_call_builtin KF.slot_gs.plain KF.entry_gs (KF.slot_gs.check _ _ _ _ _ _ _ _ KF.type_class (KF.args_gs _ _ _) ?_)
 unfold Builtin.«getset_descriptor.__get__» descrGet
 rw [dga_obj]
 refine wpAny_bind (wpAny_pure ?_)
 unfold descrGetter descrCheckInstance descrNameAndClass isInstance
 simp only [KF.owner_class]
 repeat lk
 refine ⟨Code.quiet_builtin _ (by decide+kernel),codeAny_builtin KF.entry_class ?_⟩
 unfold Builtin.«object.__class__» shownTypeOf
 repeat lk
 exact h
theorem tD {M:Model} {h:Heap} {name:Str} {a g:Value} (X:K.In h) (ha:findIn K (.ref C) name=some (some a)) (hg:specialIn K a "__get__"=some (some g)) (ht:takesIn K a=some true):
  Looks M h (find (.ref x) (.ref C) name) (.bind g a):=by
 have L1:=looks_findIn (M:=M) X ha
 have L2:Looks M h (getOf (some a)) (some g):=looks_specialIn X hg
 have L3:=looks_takesIn (M:=M) X ht
 exact L1.andThen (L2.andThen ((show Looks M h (dataDescriptor? (some a) (some g)) (some (g,a)) from L3.andThen .now).andThen (Looks.tag .now)))
variable (hga:findIn K (.ref C) "__getattribute__"=some (some (.builtin "BaseException.__getattribute__"))) (hgn:findIn K (.ref C) "__getattr__"=some none) (ha:findIn K (.ref C) "__class__"=some (some (.builtin "object.__class__")))
 (hn:specialIn K (.builtin "object.__class__") "__get__"=some (some (.builtin "getset_descriptor.__get__"))) (htk:takesIn K (.builtin "object.__class__")=some true) (hm:mroIn K C (.type "object")=some true) (hmB:mroIn K C (.type "BaseException")=some true)
include ha hn htk hm in
theorem qJ {tk:Tok} {Q:Fin→Shared→Prop} (X:K.In s.heap) (I:OfCls x C s.heap) (hq:Q (.done (.ret (.ref C))) s):
  wpAny (model prog w) A (Builtin.«object.__getattribute__» ⟨[.ref x,.str "__class__" tk],[]⟩) Q E s:=by
 have L0:=I.type (M:=model prog w)
 have L1:=tD (M:=model prog w) (x:=x) X ha hn htk
 obtain ⟨hh,g,dr,t,os⟩:=s
 unfold Builtin.«object.__getattribute__»
 refine wpAny_bind (wpAny_pure ?_)
 refine wpAny_bind (wpAny_pure (wpAny_bind (L0.at (wpAny_bind (L1.at ?_)))))
 show wpAny _ _ (bindTo _ _ _ _) _ _ _
 unfold bindTo
 show wpAny _ _ (holding [_] (call _ [_,_,_]) >>=ret) _ _ _
 refine wpAny_bind (wpAny_holding (wpAny_call (v0 X I hm ?_)))
 exact wpAny_pure hq
include hmB in
theorem ri {nameV:Value} {M:Model} {Q:Unit→Shared→Prop} (X:K.In s.heap) (I:OfCls x C s.heap) (hq:Q () s):wpAny M A (checkBuiltinCall "BaseException.__getattribute__" ⟨[.ref x,nameV],[]⟩) Q E s:=by
 have hk:builtinKind "BaseException.__getattribute__"=some .slot:=by decide+kernel
 have hsplit:splitId "BaseException.__getattribute__"=some ("BaseException","__getattribute__"):=by decide+kernel
 have ha':=F.args_bexc_ga (.ref x) nameV
 have L:Looks M s.heap (isInstance (.ref x) (.type "BaseException")) true:=I.type.andThen (looks_mroIn X hmB)
 obtain ⟨hh,g,dr,t,os⟩:=s
 simp only [checkBuiltinCall,hk,hsplit]
 refine wpAny_bind (L.at ?_)
 repeat (first | assumption | wp_step)
include hga hgn ha hn htk hm hmB
theorem t_ {tk:Tok} {R:Result→Shared→Prop} (X:K.In s.heap) (I:OfCls x C s.heap) (hq:R (.ok (.ret (.ref C))) s):
  codeAny (model prog w) A (.call (.builtin "BaseException.__getattribute__") ⟨[.ref x,.str "__class__" tk],[]⟩) R s:=by
 exact codeAny_call_builtin F.excAttr_ValueError.ga.plain F.entry_bexc_ga (ri hmB X I (qJ ha hn htk hm X I hq))
theorem rN {Q:Option Value→Shared→Prop} (X:K.In s.heap) (I:OfCls x C s.heap) (h:Q (some (.ref C)) { s with toks:=s.toks+1 }):wpAny (model prog w) A (getAttr? (.ref x) "__class__") Q E s:=by
 obtain ⟨hh,g,d,t,os⟩:=s
 have L0:=I.type (M:=model prog w)
 have L1:=looks_findIn (M:=model prog w) X hga
 have L2:=looks_findIn (M:=model prog w) X hgn
 have f3:=F.excAttr_ValueError.ga.bind (.ref x)
 unfold getAttr? getAttrBy? getAttrBy
 refine wpAny_bind (wpAny_mkText (wpAny_bind (wpAny_attempt (wpAny_holding (wpAny_bind (L0.at (wpAny_bind (L1.at ?_))))))))
 show wpAny _ _ (getAttrByItsOwn _ _ _ _ _ _) _ _ _
 unfold getAttrByItsOwn
 refine wpAny_bind (L2.at ?_)
 refine wpAny_bind (wpAny_attempt (wpAny_holding ?_))
 show wpAny _ _ (boundAndCalled _ _ _) _ _ _
 unfold boundAndCalled
 rw [f3]
 refine wpAny_bind (wpAny_pure (wpAny_call ?_))
 exact t_ hga hgn ha hn htk hm hmB X I (wpAny_pure (wpAny_pure h))
theorem tz (hc:(clsIn K C).isSome=true):KitX K (.ref x) (.ref C) (OfCls x C) where
 ty:=fun _ _ _ I=> I.type
 it:=fun _ _ X _=> by
  obtain ⟨cdD,hcD⟩:=Option.isSome_iff_exists.mp hc
  unfold clsIn at hcD
  split at hcD
  ·rename_i c' d' cd' sl' ho
   intro A' Q' E' s' k q
   unfold isType loadHead
   exact wpAny_bind (wpAny_loadPart (k _ _ (X _ _ ho)) (wpAny_pure q))
  ·cases hcD
 ne:=fun h tp dd its n sl X htp=> by
  obtain ⟨cdD,hcD⟩:=Option.isSome_iff_exists.mp hc
  refine Bool.eq_false_iff.mpr fun q=> ?_
  have e:C=tp:=Value.ref.inj (beq_iff_eq.mp q)
  subst e
  unfold clsIn at hcD
  split at hcD
  ·rename_i c' d' cd' sl' ho
   have z:=(X _ _ ho).symm.trans htp
   cases z
  ·cases hcD
 ca:=fun X I k=> rN hga hgn ha hn htk hm hmB X I k
end
theorem iE {K:Frag} {C:Addr} {v:Value} {b:Bool} (h:mroIn K C v=some b):(clsIn K C).isSome=true:=by
 obtain ⟨cd,e,_⟩:=Option.bind_eq_some_iff.mp h
 rw [e]; rfl
structure XcOk (K:Frag) (C:Addr):Prop where
 ga:findIn K (.ref C) "__getattribute__"=some (some (.builtin "BaseException.__getattribute__"))
 gn:findIn K (.ref C) "__getattr__"=some none
 at_:findIn K (.ref C) "__class__"=some (some (.builtin "object.__class__"))
 sp:specialIn K (.builtin "object.__class__") "__get__"=some (some (.builtin "getset_descriptor.__get__"))
 tk:takesIn K (.builtin "object.__class__")=some true
 mo:mroIn K C (.type "object")=some true
 mb:mroIn K C (.type "BaseException")=some true
theorem XcOk.kit {K:Frag} {x C:Addr} (h:XcOk K C):KitX K (.ref x) (.ref C) (OfCls x C):=tz h.ga h.gn h.at_ h.sp h.tk h.mo h.mb (iE h.mo)
theorem XcOk.off {x C:Addr} {h:Heap} {o:Obj} {T:String} (I:OfCls x C h) (e:h.get? x=some o) (c:o.cls=.type T):False:=by
 obtain ⟨o',e',c'⟩:=I
 rw [e] at e'; cases e'
 rw [c] at c'; cases c'
end PySem.W
namespace L2
open PySem PySem.Spec PyProof.Rows
inductive TyX where
 | nm (n:String) | xc (C:Addr)
inductive U where
 | non | bl (b:Bool) | int (i:Int) | str (x:Str) | ty (n:TyX) | dic | scr (xs:List U) | tup (xs:List U) | lst (xs:List U)
def U.items:U→Option (List U)
 | .scr xs=> some xs
 | .tup xs=> some xs
 | .lst xs=> some xs
 | _=> none
def hid (H:Hp) (O:List Addr):Hp:=fun b=> if b∈O then none else H b
theorem ft {H:Hp} {O:List Addr} {b:Addr} {o:HO} (h:hid H O b=some o):H b=some o∧b ∉ O:=by
 unfold hid at h
 split at h
 ·cases h
 ·exact ⟨h,by assumption⟩
theorem cU {H:Hp} {O:List Addr} {b:Addr} {o:HO} (h:H b=some o) (n:b ∉ O):hid H O b=some o:=by
 unfold hid; rw [if_neg n]; exact h
theorem ax {H:Hp} {O:List Addr}:aD (hid H O) H:=fun _ _ h=> (ft h).1
theorem bb {H H':Hp} {O:List Addr} (e:aD H H'):aD (hid H O) (hid H' O):=fun _ _ h=> cU (e _ _ (ft h).1) (ft h).2
theorem d8 {H:Hp} {O O':List Addr} (e:∀ a∈O',a∈O):aD (hid H O) (hid H O'):=fun _ _ h=> cU (ft h).1 fun z=> (ft h).2 (e _ z)
theorem bO {H H':Hp} {O:List Addr} {a:Addr} (e:aD H H') (n:H a=none):aD (hid H O) (hid H' (a::O)):=fun b o h=> by
 obtain ⟨h1,h2⟩:=ft h
 refine cU (e _ _ h1) fun z=> ?_
 rcases List.mem_cons.mp z with y | y
 ·subst y; rw [n] at h1; cases h1
 ·exact h2 y
theorem jP {H:Hp} {O:List Addr} {a:Addr} {o:HO} (h:a∈O):hid (upd H a o) O=hid H O:=by
 funext b
 unfold hid
 split
 ·rfl
 ·rename_i n
  rw [aL fun e=> n (by rw [e]; exact h)]
inductive Rp (K:PySem.W.Frag) (H:Hp):V→U→Prop where
 | non:Rp K H .non .non
 | bl (b:Bool):Rp K H (.bl b) (.bl b)
 | int (i:Int):Rp K H (.int i) (.int i)
 | str (x:Str):Rp K H (.str x) (.str x)
 | ty (n:String):Rp K H (.ty n) (.ty (.nm n))
 | dic {a:Addr} {kvs:List (Key×V)} (h:H a=some (.dK kvs)):Rp K H (.ref a) .dic
 | xc {a C:Addr} (h:H a=some (.ext (PySem.W.OfCls a C))) (k:PySem.W.XcOk K C):Rp K H (.ref a) (.ty (.xc C))
 | scr {a:Addr} {vs:List V} {xs:List U} (h:SqL K H a vs) (hl:vs.length=xs.length) (hi:∀ (i:Nat) (v:V) (x:U),vs[i]?=some v→xs[i]?=some x→Rp K H v x):Rp K H (.ref a) (.scr xs)
 | tup {a:Addr} {vs:List V} {xs:List U} (h:SqT K H a vs) (hl:vs.length=xs.length) (hi:∀ (i:Nat) (v:V) (x:U),vs[i]?=some v→xs[i]?=some x→Rp K H v x):Rp K H (.ref a) (.tup xs)
 | lst {a:Addr} {vs:List V} {xs:List U} (h:H a=some (.lst vs)) (hl:vs.length=xs.length) (hi:∀ (i:Nat) (v:V) (x:U),vs[i]?=some v→xs[i]?=some x→Rp K H v x):Rp K H (.ref a) (.lst xs)
theorem Rp.same {K:PySem.W.Frag} {H H':Hp} {v:V} {u:U} (e:aD H H') (h:Rp K H v u):Rp K H' v u:=by
 induction h with
 | non=> exact .non
 | bl b=> exact .bl b
 | int i=> exact .int i
 | str x=> exact .str x
 | ty n=> exact .ty n
 | dic h=> exact .dic (e _ _ h)
 | xc h k=> exact .xc (e _ _ h) k
 | scr h hl hi ih=> exact .scr (e.seq h) hl ih
 | tup h hl hi ih=> exact .tup (e.tup h) hl ih
 | lst h hl hi ih=> exact .lst (e _ _ h) hl ih
structure Rps (K:PySem.W.Frag) (H:Hp) (vs:List V) (xs:List U):Prop where
 len:vs.length=xs.length
 at_:∀ (i:Nat) (v:V) (x:U),vs[i]?=some v→xs[i]?=some x→Rp K H v x
theorem Rps.same {K:PySem.W.Frag} {H H':Hp} {vs:List V} {xs:List U} (e:aD H H') (h:Rps K H vs xs):Rps K H' vs xs:=⟨h.len,fun i v x a b=> (h.at_ i v x a b).same e⟩
theorem Rps.nil {K:PySem.W.Frag} {H:Hp}:Rps K H [] []:=⟨rfl,fun i v x h=> by simp at h⟩
theorem Rps.cons {K:PySem.W.Frag} {H:Hp} {v:V} {x:U} {vs:List V} {xs:List U} (h:Rp K H v x) (t:Rps K H vs xs):Rps K H (v::vs) (x::xs):=by
 refine ⟨by simp [t.len],fun i a b h1 h2=> ?_⟩
 cases i with
 | zero=> simp at h1 h2; subst h1; subst h2; exact h
 | succ i=> exact t.at_ i a b (by simpa using h1) (by simpa using h2)
theorem Rps.snoc {K:PySem.W.Frag} {H:Hp} {vs ws:List V} {xs ys:List U} (h:Rps K H vs xs) (t:Rps K H ws ys):Rps K H (vs++ws) (xs++ys):=by
 refine ⟨by simp [h.len,t.len],fun i a b h1 h2=> ?_⟩
 by_cases hi:i < vs.length
 ·rw [List.getElem?_append_left hi] at h1
  rw [List.getElem?_append_left (by rw [← h.len]; exact hi)] at h2
  exact h.at_ i a b h1 h2
 ·have hle:vs.length≤i:=Nat.le_of_not_lt hi
  rw [List.getElem?_append_right hle] at h1
  rw [List.getElem?_append_right (by rw [← h.len]; exact hle),← h.len] at h2
  exact t.at_ _ a b h1 h2
theorem Rps.get {K:PySem.W.Frag} {H:Hp} {vs:List V} {xs:List U} {i:Nat} {x:U} (h:Rps K H vs xs) (e:xs[i]?=some x):∃ v,vs[i]?=some v∧Rp K H v x:=by
 have hi:i < vs.length:=by rw [h.len]; exact (List.getElem?_eq_some_iff.mp e).1
 exact ⟨vs[i],List.getElem?_eq_getElem hi,h.at_ i _ x (List.getElem?_eq_getElem hi) e⟩
theorem Rps.atI {K:PySem.W.Frag} {H:Hp} {vs:List V} {xs:List U} {i:Int} {x:U} (h:Rps K H vs xs) (e:L2.atI xs i=some x):∃ v,L2.atI vs i=some v∧Rp K H v x:=by
 unfold L2.atI at e ⊢
 rw [h.len]
 cases q:ixN xs.length i with
 | none=> rw [q] at e; cases e
 | some j=>
  rw [q] at e
  obtain ⟨v,h1,h2⟩:=h.get (show xs[j]?=some x from e)
  exact ⟨v,h1,h2⟩
theorem Rps.cons_inv {K:PySem.W.Frag} {H:Hp} {vs:List V} {x:U} {xs:List U} (h:Rps K H vs (x::xs)):∃ v ws,vs=v::ws∧Rp K H v x∧Rps K H ws xs:=by
 cases vs with
 | nil=> have:=h.len; simp at this
 | cons v ws=>
  refine ⟨v,ws,rfl,h.at_ 0 v x rfl rfl,by have:=h.len; simpa using this,fun i a b h1 h2=> h.at_ (i+1) a b (by simpa using h1) (by simpa using h2)⟩
theorem Rps.nil_inv {K:PySem.W.Frag} {H:Hp} {vs:List V} (h:Rps K H vs []):vs=[]:=List.length_eq_zero_iff.mp (by rw [h.len]; rfl)
inductive Sl where
 | val (u:U) | own (xs:List U) | pin (w:V) (u:U)
abbrev PSt:=List (Option Sl)
def tE (K:PySem.W.Frag) (H:Hp) (O O0:List Addr) (v:V):Sl→Prop
 | .val u=> Rp K (hid H O) v u
 | .own xs=> ∃ a vs,v=.ref a∧a∈O∧a ∉ O0∧H a=some (.lst vs)∧Rps K (hid H O) vs xs
 | .pin w u=> v=w∧Rp K (hid H O) v u
structure Rs (K:PySem.W.Frag) (H0:Hp) (O0:List Addr) (ps:PSt) (σ:St) (H:Hp) (O:List Addr):Prop where
 same:aD H0 H
 old:∀ a∈O0,a∈O
 new:∀ a∈O,a∈O0∨H0 a=none
 dom:∀ a∈O,H a≠none
 len:σ.length=ps.length
 at_:∀ (i:Nat) (s:Sl),ps[i]?=some (some s)→∃ v,σ[i]?=some (some v)∧tE K H O O0 v s
 inj:∀ (i j:Nat) (xs ys:List U) (a:Addr),ps[i]?=some (some (.own xs))→ps[j]?=some (some (.own ys))→σ[i]?=some (some (.ref a))→σ[j]?=some (some (.ref a))→i=j
section
variable {K:PySem.W.Frag} {H0 H H':Hp} {O0 O:List Addr} {ps:PSt} {σ:St}
theorem tE.same {v:V} {s:Sl} (e:aD H H') (h:tE K H O O0 v s):tE K H' O O0 v s:=by
 cases s with
 | val u=> exact Rp.same (bb e) h
 | own xs=> obtain ⟨a,vs,h1,h2,h3,h4,h5⟩:=h; exact ⟨a,vs,h1,h2,h3,e _ _ h4,h5.same (bb e)⟩
 | pin w u=> exact ⟨h.1,Rp.same (bb e) h.2⟩
theorem Rs.go (R:Rs K H0 O0 ps σ H O) (e:aD H H'):Rs K H0 O0 ps σ H' O:=
 ⟨R.same.trans e,R.old,R.new,fun a ha z=> R.dom a ha (e.free z),R.len,fun i s h=> let ⟨v,h1,h2⟩:=R.at_ i s h; ⟨v,h1,h2.same e⟩,R.inj⟩
theorem cy {α:Type} {xs:List α} {i j:Nat} {y x:α} (h:(xs.set i y)[j]?=some x):(i=j∧x=y)∨(i≠j∧xs[j]?=some x):=by
 by_cases e:i=j
 ·subst e
  rw [List.getElem?_set] at h
  simp at h
  exact .inl ⟨rfl,h.2.symm⟩
 ·rw [List.getElem?_set_ne e] at h
  exact .inr ⟨e,h⟩
theorem dk {α:Type} {xs:List α} {i:Nat} {y:α} (h:i < xs.length):(xs.set i y)[i]?=some y:=by rw [List.getElem?_set]; simp [h]
theorem aM {α:Type} {xs:List α} {i:Nat} {y:α} (h:xs[i]?=some y):i < xs.length:=(List.getElem?_eq_some_iff.mp h).1
theorem ii {i:Nat} {u:U} {j:Nat} {xs:List U} (h:(ps.set i (some (.val u)))[j]?=some (some (.own xs))):i≠j∧ps[j]?=some (some (.own xs)):=by
 rcases cy h with ⟨_,e⟩ | h
 ·cases e
 ·exact h
theorem Rs.set {i:Nat} {v:V} {u:U} (R:Rs K H0 O0 ps σ H O) (r:Rp K (hid H O) v u):Rs K H0 O0 (ps.set i (some (.val u))) (σ.set i (some v)) H O:=by
 refine ⟨R.same,R.old,R.new,R.dom,by simp [R.len],fun j s h=> ?_,fun j k xs ys a h1 h2 h3 h4=> ?_⟩
 ·rcases cy h with ⟨e,q⟩ | ⟨n,q⟩
  ·subst e
   cases q
   have hi:=aM h
   rw [List.length_set] at hi
   exact ⟨v,dk (by rw [R.len]; exact hi),r⟩
  ·obtain ⟨w,h1,h2⟩:=R.at_ j s q
   exact ⟨w,by rw [List.getElem?_set_ne n]; exact h1,h2⟩
 ·obtain ⟨n1,q1⟩:=ii h1
  obtain ⟨n2,q2⟩:=ii h2
  rw [List.getElem?_set_ne n1] at h3
  rw [List.getElem?_set_ne n2] at h4
  exact R.inj j k xs ys a q1 q2 h3 h4
theorem Rs.drop {i:Nat} {o:Option V} (R:Rs K H0 O0 ps σ H O):Rs K H0 O0 (ps.set i none) (σ.set i o) H O:=by
 have key:∀ {j:Nat} {s:Sl},(ps.set i none)[j]?=some (some s)→i≠j∧ps[j]?=some (some s):=fun {j s} h=> by
  rcases cy h with ⟨_,e⟩ | h
  ·cases e
  ·exact h
 refine ⟨R.same,R.old,R.new,R.dom,by simp [R.len],fun j s h=> ?_,fun j k xs ys a h1 h2 h3 h4=> ?_⟩
 ·obtain ⟨n,q⟩:=key h
  obtain ⟨w,h1,h2⟩:=R.at_ j s q
  exact ⟨w,by rw [List.getElem?_set_ne n]; exact h1,h2⟩
 ·obtain ⟨n1,q1⟩:=key h1
  obtain ⟨n2,q2⟩:=key h2
  rw [List.getElem?_set_ne n1] at h3
  rw [List.getElem?_set_ne n2] at h4
  exact R.inj j k xs ys a q1 q2 h3 h4
theorem Rs.own {i:Nat} {a:Addr} {vs:List V} {xs:List U} (R:Rs K H0 O0 ps σ H O) (e:aD H H') (n:H a=none) (h:H' a=some (.lst vs)) (r:Rps K (hid H' (a::O)) vs xs):
  Rs K H0 O0 (ps.set i (some (.own xs))) (σ.set i (some (.ref a))) H' (a::O):=by
 have na:a ∉ O:=fun z=> R.dom a z n
 have na0:a ∉ O0:=fun z=> na (R.old a z)
 have n0:H0 a=none:=R.same.free n
 have noref:∀ (j:Nat) (ys:List U),ps[j]?=some (some (.own ys))→σ[j]?≠some (some (.ref a)):=fun j ys h1 h2=> by
  obtain ⟨v,h3,b,ws,h4,h5,_⟩:=R.at_ j _ h1
  rw [h2] at h3
  cases h3
  cases h4
  exact na h5
 refine ⟨R.same.trans e,fun b hb=> List.mem_cons_of_mem _ (R.old b hb),fun b hb=> ?_,fun b hb z=> ?_,by simp [R.len],fun j s q=> ?_,fun j k ys zs b h1 h2 h3 h4=> ?_⟩
 ·rcases List.mem_cons.mp hb with y | y
  ·subst y; exact .inr n0
  ·exact R.new b y
 ·rcases List.mem_cons.mp hb with y | y
  ·subst y; rw [h] at z; cases z
  ·exact R.dom b y (e.free z)
 ·rcases cy q with ⟨e',q'⟩ | ⟨ne,q'⟩
  ·subst e'
   cases q'
   have hi:=aM q
   rw [List.length_set] at hi
   exact ⟨.ref a,dk (by rw [R.len]; exact hi),a,vs,rfl,List.mem_cons_self,na0,h,r⟩
  ·obtain ⟨w,h1,h2⟩:=R.at_ j s q'
   refine ⟨w,by rw [List.getElem?_set_ne ne]; exact h1,?_⟩
   cases s with
   | val u=> exact Rp.same (bO e n) h2
   | own ys=>
    obtain ⟨b,ws,k1,k2,k3,k4,k5⟩:=h2
    exact ⟨b,ws,k1,List.mem_cons_of_mem _ k2,k3,e _ _ k4,k5.same (bO e n)⟩
   | pin z u=> exact ⟨h2.1,Rp.same (bO e n) h2.2⟩
 ·rcases cy h1 with ⟨e1,q1⟩ | ⟨n1,q1⟩ <;> rcases cy h2 with ⟨e2,q2⟩ | ⟨n2,q2⟩
  ·rw [← e1,← e2]
  ·subst e1
   have hi:=aM h3
   rw [List.length_set] at hi
   rw [dk hi] at h3
   cases h3
   rw [List.getElem?_set_ne n2] at h4
   exact absurd h4 (noref k zs q2)
  ·subst e2
   have hi:=aM h4
   rw [List.length_set] at hi
   rw [dk hi] at h4
   cases h4
   rw [List.getElem?_set_ne n1] at h3
   exact absurd h3 (noref j ys q1)
  ·rw [List.getElem?_set_ne n1] at h3
   rw [List.getElem?_set_ne n2] at h4
   exact R.inj j k ys zs b q1 q2 h3 h4
theorem Rs.write {i:Nat} {a:Addr} {vs:List V} {xs ys:List U} (R:Rs K H0 O0 ps σ H O) (hp:ps[i]?=some (some (.own xs))) (hs:σ[i]?=some (some (.ref a))) (r:Rps K (hid H O) vs ys):
  Rs K H0 O0 (ps.set i (some (.own ys))) σ (upd H a (.lst vs)) O:=by
 obtain ⟨v,h1,b,ws,h2,h3,h4,h5,h6⟩:=R.at_ i _ hp
 rw [hs] at h1
 cases h1
 cases h2
 have h0:H0 a=none:=(R.new a h3).resolve_left h4
 have eh:hid (upd H a (.lst vs)) O=hid H O:=jP h3
 refine ⟨R.same.put h0 _,R.old,R.new,fun b hb z=> ?_,by simp [R.len],fun j s q=> ?_,fun j k zs us b q1 q2 q3 q4=> ?_⟩
 ·by_cases e:b=a
  ·subst e; rw [aT] at z; cases z
  ·rw [aL e] at z; exact R.dom b hb z
 ·rcases cy q with ⟨e',q'⟩ | ⟨ne,q'⟩
  ·subst e'
   cases q'
   exact ⟨.ref a,hs,a,vs,rfl,h3,h4,aT,by rw [eh]; exact r⟩
  ·obtain ⟨w,k1,k2⟩:=R.at_ j s q'
   refine ⟨w,k1,?_⟩
   cases s with
   | val u=> exact (show Rp K (hid (upd H a (.lst vs)) O) w u by rw [eh]; exact k2)
   | own zs=>
    obtain ⟨b,us,e1,e2,e3,e4,e5⟩:=k2
    subst e1
    have:b≠a:=fun z=> by subst z; exact ne (R.inj i j xs zs b hp q' hs k1)
    exact ⟨b,us,rfl,e2,e3,by rw [aL this]; exact e4,by rw [eh]; exact e5⟩
   | pin z u=> exact ⟨k2.1,by rw [eh]; exact k2.2⟩
 ·have c1:∃ zs',ps[j]?=some (some (.own zs')):=by
   rcases cy q1 with ⟨e,_⟩ | ⟨_,z⟩
   ·subst e; exact ⟨_,hp⟩
   ·exact ⟨_,z⟩
  have c2:∃ zs',ps[k]?=some (some (.own zs')):=by
   rcases cy q2 with ⟨e,_⟩ | ⟨_,z⟩
   ·subst e; exact ⟨_,hp⟩
   ·exact ⟨_,z⟩
  obtain ⟨_,c1⟩:=c1
  obtain ⟨_,c2⟩:=c2
  exact R.inj j k _ _ b c1 c2 q3 q4
def SubP:PSt→PSt→Prop
 | [],[]=> True
 | none::p,_::q=> SubP p q
 | some s::p,t::q=> t=some s∧SubP p q
 | _,_=> False
theorem SubP.at_:∀ {p q:PSt},SubP p q→p.length=q.length∧∀ (i:Nat) (s:Sl),p[i]?=some (some s)→q[i]?=some (some s)
 | [],[],_=> ⟨rfl,fun i s h=> by simp at h⟩
 | none::p,t::q,h=> by
  obtain ⟨h1,h2⟩:=SubP.at_ (p:=p) (q:=q) h
  refine ⟨by simp [h1],fun i s e=> ?_⟩
  cases i with
  | zero=> simp at e
  | succ i=> exact h2 i s (by simpa using e)
 | some s0::p,t::q,h=> by
  obtain ⟨h0,h⟩:=h
  obtain ⟨h1,h2⟩:=SubP.at_ (p:=p) (q:=q) h
  refine ⟨by simp [h1],fun i s e=> ?_⟩
  cases i with
  | zero=> simp at e; subst e; rw [h0]; rfl
  | succ i=> exact h2 i s (by simpa using e)
 | [],_::_,h=> h.elim
 | none::_,[],h=> h.elim
 | some _::_,[],h=> h.elim
theorem Rs.sub {ps':PSt} (R:Rs K H0 O0 ps σ H O) (h:SubP ps' ps):Rs K H0 O0 ps' σ H O:=by
 obtain ⟨h1,h2⟩:=h.at_
 exact ⟨R.same,R.old,R.new,R.dom,R.len.trans h1.symm,fun i s e=> R.at_ i s (h2 i s e),fun i j xs ys a e1 e2=> R.inj i j xs ys a (h2 _ _ e1) (h2 _ _ e2)⟩
end
def Ev (X:Cx) (H0:Hp) (O0:List Addr) (ps:PSt) (e:Expr) (u:U):Prop:=
 PE X e fun σ H Q=> ∃ O,Rs X.K H0 O0 ps σ H O∧∀ v H',aD H H'→Rp X.K (hid H' O) v u→Q v H'
def EvN (X:Cx) (H0:Hp) (O0:List Addr) (ps:PSt) (e:Expr) (xs:List U):Prop:=
 PE X e fun σ H Q=> ∃ O,Rs X.K H0 O0 ps σ H O∧∀ a vs H',aD H H'→H a=none→H' a=some (.lst vs)→Rps X.K (hid H' (a::O)) vs xs→Q (.ref a) H'
def Tt (X:Cx) (H0:Hp) (O0:List Addr) (ps:PSt) (e:Expr) (b:Bool):Prop:=
 PT X e fun σ H Q=> ∃ O,Rs X.K H0 O0 ps σ H O∧∀ H',aD H H'→Q b H'
def Tw (X:Cx) (H0:Hp) (O0:List Addr) (ps:PSt) (e:Expr) (b:Bool):Prop:=
 PW X e fun σ H Q=> ∃ O,Rs X.K H0 O0 ps σ H O∧∀ H',aD H H'→Q b H'
def EvA (X:Cx) (H0:Hp) (O0:List Addr) (ps:PSt) (es:List Expr) (us:List U):Prop:=
 PA X es fun σ H Q=> ∃ O,Rs X.K H0 O0 ps σ H O∧∀ vs H',aD H H'→Rps X.K (hid H' O) vs us→Q vs H'
theorem PE.mono {X:Cx} {e:Expr} {t t':TE} (h:PE X e t) (m:∀ σ H Q,t' σ H Q→t σ H Q):PE X e t':=fun pins s σ H Q I q=> h pins s σ H Q I (m σ H Q q)
theorem PT.mono {X:Cx} {e:Expr} {t t':TT} (h:PT X e t) (m:∀ σ H Q,t' σ H Q→t σ H Q):PT X e t':=fun pins s σ H Q I q=> h pins s σ H Q I (m σ H Q q)
theorem PW.mono {X:Cx} {e:Expr} {t t':TT} (h:PW X e t) (m:∀ σ H Q,t' σ H Q→t σ H Q):PW X e t':=fun wh pins s σ H Q I q=> h wh pins s σ H Q I (m σ H Q q)
theorem PA.mono {X:Cx} {e:List Expr} {t t':TA} (h:PA X e t) (m:∀ σ H Q,t' σ H Q→t σ H Q):PA X e t':=fun pos pins s σ H Q I q=> h pos pins s σ H Q I (m σ H Q q)
theorem PS.mono {X:Cx} {e:Stmt} {t t':TS} (h:PS X e t) (m:∀ D σ H,t' D σ H→t D σ H):PS X e t':=fun pins s σ H D I q=> h pins s σ H D I (m D σ H q)
theorem PSs.mono {X:Cx} {e:List Stmt} {t t':TS} (h:PSs X e t) (m:∀ D σ H,t' D σ H→t D σ H):PSs X e t':=fun pins s σ H D I q=> h pins s σ H D I (m D σ H q)
section
variable {X:Cx} {H0:Hp} {O0:List Addr} {ps:PSt} {a b c e:Expr} {es:List Expr} {pos p:Pos} {u x y:U} {xs ys us:List U} {i j:Int}
theorem EvN.ev (h:EvN X H0 O0 ps e xs):Ev X H0 O0 ps e (.lst xs):=PE.mono h fun σ H Q ⟨O,R,k⟩=> ⟨O,R,fun a vs H' s n h r=> by
 have na:a ∉ O:=fun z=> R.dom a z n
 have less:aD (hid H' (a::O)) (hid H' O):=d8 fun b hb=> List.mem_cons_of_mem _ hb
 exact k _ H' s (.lst (cU h na) (r.same less).len (r.same less).at_)⟩
theorem aa (i:Nat) {x:Str} {u:U} (h:ps[i]?=some (some (.val u))) (hN:X.N[i]?=some x:=by rfl) (hv:Vis X.env.scope x:=by first | exact Or.inl rfl | exact Or.inr (Or.inl rfl) | exact Or.inr (Or.inr rfl)) (hd:(x==("__debug__":Str))=false:=by decide)
  (hcd:(x==("__classdict__":Str))=false:=by decide):Ev X H0 O0 ps (.Name x pos) u:=PE.mono (fg hN hv hd hcd) fun σ H Q ⟨O,R,k⟩=> by
 obtain ⟨v,h1,h2⟩:=R.at_ i _ h
 exact ⟨v,h1,k v H (.refl H) h2⟩
theorem ag {i j pos}:Ev X H0 O0 ps (.Constant (.int i) j pos) (.int i):=PE.mono vN fun _ H _ ⟨_,_,k⟩=> k _ H (.refl H) (.int i)
theorem fu {i j pos}:Ev X H0 O0 ps (.Constant (.bool i) j pos) (.bl i):=PE.mono uo fun _ H _ ⟨_,_,k⟩=> k _ H (.refl H) (.bl i)
theorem pT {i j pos}:Ev X H0 O0 ps (.Constant (.str i) j pos) (.str i):=PE.mono vX fun _ H _ ⟨_,_,k⟩=> k _ H (.refl H) (.str i)
theorem cm {x:Str} {n:String} {pos:Pos} (hg:Gl X x) (hm:X.mg x=none) (hv:bootBuiltins x=some (.type n)) (hn:x≠"__name__":=by decide) (hd:(x==("__debug__":Str))=false:=by decide):Ev X H0 O0 ps (.Name x pos) (.ty (.nm n)):=
 PE.mono (wD hg hm hv hn hd) fun _ H _ ⟨_,_,k⟩=> k _ H (.refl H) (.ty n)
theorem two {ta tb:TE} {σ:St} {H:Hp} {Q:VK} {O:List Addr} {r:R2} (R:Rs X.K H0 O0 ps σ H O)
  (ha:∀ σ H Q,(∃ O,Rs X.K H0 O0 ps σ H O∧∀ v H',aD H H'→Rp X.K (hid H' O) v x→Q v H')→ta σ H Q) (hb:∀ σ H Q,(∃ O,Rs X.K H0 O0 ps σ H O∧∀ v H',aD H H'→Rp X.K (hid H' O) v y→Q v H')→tb σ H Q)
  (h:∀ v w H',aD H H'→Rs X.K H0 O0 ps σ H' O→Rp X.K (hid H' O) v x→Rp X.K (hid H' O) w y→r v w H' Q):tOp r ta tb σ H Q:=
 ha σ H _ ⟨O,R,fun v H1 s1 r1=> hb σ H1 _ ⟨O,R.go s1,fun w H2 s2 r2=> h v w H2 (s1.trans s2) (R.go (s1.trans s2)) (r1.same (bb s2)) r2⟩⟩
theorem uE {op:Operator} {g:Int→Int→Int} (ho:OpR X (binaryOp op) (rI0 fun i j=> .int (g i j))) (ha:Ev X H0 O0 ps a (.int i)) (hb:Ev X H0 O0 ps b (.int j)):Ev X H0 O0 ps (.BinOp a op b pos) (.int (g i j)):=
 PE.mono (qR ho ha hb) fun σ H Q ⟨O,R,k⟩=> two (x:=.int i) (y:=.int j) R (fun _ _ _ z=> z) (fun _ _ _ z=> z) fun v w H' s _ r1 r2=> by
  cases r1; cases r2; exact ⟨i,j,rfl,rfl,k _ H' s (.int _)⟩
theorem ku {op:Operator} {C:Int→Int→Prop} {g:Int→Int→Int} (ho:OpR X (binaryOp op) (rI C fun i j=> .int (g i j))) (ha:Ev X H0 O0 ps a (.int i)) (hb:Ev X H0 O0 ps b (.int j)) (hc:C i j):Ev X H0 O0 ps (.BinOp a op b pos) (.int (g i j)):=
 PE.mono (qR ho ha hb) fun σ H Q ⟨O,R,k⟩=> two (x:=.int i) (y:=.int j) R (fun _ _ _ z=> z) (fun _ _ _ z=> z) fun v w H' s _ r1 r2=> by
  cases r1; cases r2; exact ⟨i,j,rfl,rfl,hc,k _ H' s (.int _)⟩
theorem bY (ha:Ev X H0 O0 ps a (.int i)) (hb:Ev X H0 O0 ps b (.int j)):Ev X H0 O0 ps (.BinOp a .Add b pos) (.int (i+j)):=uE vw ha hb
theorem bN (ha:Ev X H0 O0 ps a (.int i)) (hb:Ev X H0 O0 ps b (.int j)):Ev X H0 O0 ps (.BinOp a .Sub b pos) (.int (i - j)):=uE vd ha hb
theorem bD (ha:Ev X H0 O0 ps a (.int i)) (hb:Ev X H0 O0 ps b (.int j)) (hc:IntMulOk i j):Ev X H0 O0 ps (.BinOp a .Mult b pos) (.int (i * j)):=ku tJ ha hb hc
theorem cW (ha:Ev X H0 O0 ps a (.int i)) (hb:Ev X H0 O0 ps b (.int j)) (hc:ux i j):Ev X H0 O0 ps (.BinOp a .FloorDiv b pos) (.int (i / j)):=ku q_ ha hb hc
theorem vo (ha:Ev X H0 O0 ps a (.int i)) (hb:Ev X H0 O0 ps b (.int j)) (hc:uw i j):Ev X H0 O0 ps (.BinOp a .FloorDiv b pos) (.int (i.fdiv j)):=ku qh ha hb hc
theorem bH (ha:Ev X H0 O0 ps a (.int i)) (hb:Ev X H0 O0 ps b (.int j)) (hc:0 < j):Ev X H0 O0 ps (.BinOp a .Mod b pos) (.int (i % j)):=ku u8 ha hb hc
theorem jn (ha:Ev X H0 O0 ps a (.int i)) (hb:Ev X H0 O0 ps b (.int j)) (hc:wS i j):Ev X H0 O0 ps (.BinOp a .Pow b pos) (.int (i ^ j.toNat)):=ku u7 ha hb hc
theorem dL (ha:Ev X H0 O0 ps a (.int i)):Ev X H0 O0 ps (.UnaryOp .USub a pos) (.int (-i)):=
 PE.mono (wN uM ha) fun σ H Q ⟨O,R,k⟩=> ⟨O,R,fun v H' s r=> by cases r; exact ⟨i,rfl,k _ H' s (.int _)⟩⟩
end
end L2
namespace L2
open PySem PySem.Spec PyProof.Rows
mutual
def eqW:U→U→Bool
 | .non,.non=> true
 | .bl a,.bl b=> a==b
 | .bl a,.int j=> (if a then 1 else 0)==j
 | .int i,.bl b=> i==(if b then 1 else 0)
 | .int i,.int j=> i==j
 | .str a,.str b=> a==b
 | .tup xs,.tup ys=> eqWs xs ys
 | .lst xs,.lst ys=> eqWs xs ys
 | .lst xs,.scr ys=> eqWs xs ys
 | .scr xs,.lst ys=> eqWs xs ys
 | .scr xs,.scr ys=> eqWs xs ys
 | _,_=> false
def eqWs:List U→List U→Bool
 | [],[]=> true
 | x::xs,y::ys=> eqW x y && eqWs xs ys
 | _,_=> false
end
mutual
def okU:Nat→U→Bool
 | _,.ty _=> false
 | _,.dic=> false
 | 0,.tup _=> false
 | 0,.lst _=> false
 | 0,.scr _=> false
 | n+1,.tup xs=> okUs n xs
 | n+1,.lst xs=> okUs n xs
 | n+1,.scr xs=> okUs n xs
 | _,_=> true
def okUs:Nat→List U→Bool
 | _,[]=> true
 | n,x::xs=> okU n x && okUs n xs
end
theorem gN:∀ {n:Nat} {xs:List U} {i:Nat} {x:U},okUs n xs=true→xs[i]?=some x→okU n x=true
 | n,[],i,x,_,h=> by simp at h
 | n,y::xs,0,x,h,e=> by simp at e; subst e; simp [okUs] at h; exact h.1
 | n,y::xs,i+1,x,h,e=> by simp [okUs] at h; exact gN (i:=i) h.2 (by simpa using e)
theorem cG:∀ (xs ys:List U),((List.range (min xs.length ys.length)).all (fun j=> eqW (xs.getD j .non) (ys.getD j .non)) && xs.length==ys.length)=eqWs xs ys
 | [],[]=> rfl
 | [],y::ys=> by simp [eqWs]
 | x::xs,[]=> by simp [eqWs]
 | x::xs,y::ys=> by
  have ih:=cG xs ys
  rw [eqWs,← ih]
  simp only [List.length_cons,Nat.succ_min_succ]
  rw [List.range_succ_eq_map,List.all_cons,List.all_map]
  have e:((xs.length+1==ys.length+1))=(xs.length==ys.length):=by simp
  rw [e,Bool.and_assoc]
  rfl
theorem Rp.one {X:Cx} {pins:List (Addr×Obj)} {σ:St} {H:Hp} {s:Shared} (I:Inv X pins σ H s) {v:V} {x:U} (h:Rp X.K H v x):∀ {n:Nat} {y:U},Rp X.K H v y→okU n x=true→eqW x y=true:=by
 have key:∀ {vs ws:List V} {xs ys:List U},vs=ws→vs.length=xs.length→ws.length=ys.length→(∀ (i:Nat) (x y:U),xs[i]?=some x→ys[i]?=some y→eqW x y=true)→eqWs xs ys=true:=fun {vs ws xs ys} e h1 h2 hh=> by
  subst e
  rw [← cG,Bool.and_eq_true,jc]
  refine ⟨fun j hj=> ?_,by simp [← h1,← h2]⟩
  have j1:j < xs.length:=by omega
  have j2:j < ys.length:=by omega
  rw [List.getD_eq_getElem?_getD,List.getElem?_eq_getElem j1,List.getD_eq_getElem?_getD,List.getElem?_eq_getElem j2]
  exact hh j _ _ (List.getElem?_eq_getElem j1) (List.getElem?_eq_getElem j2)
 have key2:∀ {vs:List V} {xs ys:List U} {n:Nat},vs.length=xs.length→(∀ (i:Nat) (v:V) (x:U),vs[i]?=some v→xs[i]?=some x→∀ {n:Nat} {y:U},Rp X.K H v y→okU n x=true→eqW x y=true)→(∀ (i:Nat) (v:V) (y:U),vs[i]?=some v→ys[i]?=some y→Rp X.K H v y)→okUs n xs=true→
   ∀ (i:Nat) (x y:U),xs[i]?=some x→ys[i]?=some y→eqW x y=true:=fun {vs xs ys n} h1 ih hi ok i x y e1 e2=> by
  have hlt:i < vs.length:=by rw [h1]; exact aM e1
  exact ih i _ x (List.getElem?_eq_getElem hlt) e1 (hi i _ y (List.getElem?_eq_getElem hlt) e2) (gN ok e1)
 induction h with
 | non=> intro n y q _; cases q; rfl
 | bl b=> intro n y q _; cases q; simp [eqW]
 | int i=> intro n y q _; cases q; simp [eqW]
 | str i=> intro n y q _; cases q; simp [eqW]
 | ty=> intro n y q ok; simp [okU] at ok
 | dic=> intro n y q ok; simp [okU] at ok
 | xc=> intro n y q ok; simp [okU] at ok
 | @scr a vs xs hq hl hi ih=>
  intro n y q ok
  cases n with
  | zero=> simp [okU] at ok
  | succ n=>
   rw [okU] at ok
   cases q with
   | scr hq' hl' hi'=> rw [eqW]; have e:=I.list_inj hq hq'; subst e; exact key rfl hl hl' (key2 hl (fun i v x a b=> ih i v x a b) hi' ok)
   | lst hq' hl' hi'=> rw [eqW]; have e:=I.list_inj hq (SqL.of hq'); subst e; exact key rfl hl hl' (key2 hl (fun i v x a b=> ih i v x a b) hi' ok)
   | xc hq' kk=>
    exfalso
    obtain ⟨_,_,pl,_⟩:=I.list hq
    obtain ⟨o,n,e,c,_⟩:=pl
    exact PySem.W.XcOk.off (I.hok _ _ hq').1 e c
   | dic hq'=>
    exfalso
    obtain ⟨_,_,pl,_⟩:=I.list hq
    obtain ⟨o,n,e,c,_⟩:=pl
    obtain ⟨_,_,_,_,o',_,_,e',ex,_⟩:=I.hok _ _ hq'
    rw [e] at e'; cases e'
    rw [ex.1] at c; exact absurd (Value.type.inj c) (by decide)
   | tup hq' hl' hi'=>
    exfalso
    obtain ⟨_,_,pl,_⟩:=I.list hq
    obtain ⟨_,_,pt,_⟩:=I.tuple hq'
    exact SeqAt.ne_of_list_tuple pl.isList pt rfl
 | @tup a vs xs hq hl hi ih=>
  intro n y q ok
  cases n with
  | zero=> simp [okU] at ok
  | succ n=>
   rw [okU] at ok
   cases q with
   | tup hq' hl' hi'=> rw [eqW]; have e:=I.tuple_inj hq hq'; subst e; exact key rfl hl hl' (key2 hl (fun i v x a b=> ih i v x a b) hi' ok)
   | scr hq' hl' hi'=>
    exfalso
    obtain ⟨_,_,pl,_⟩:=I.list hq'
    obtain ⟨_,_,pt,_⟩:=I.tuple hq
    exact SeqAt.ne_of_list_tuple pl.isList pt rfl
   | lst hq' hl' hi'=>
    exfalso
    obtain ⟨_,_,pl,_⟩:=I.list (SqL.of hq')
    obtain ⟨_,_,pt,_⟩:=I.tuple hq
    exact SeqAt.ne_of_list_tuple pl.isList pt rfl
   | xc hq' kk=>
    exfalso
    obtain ⟨_,_,pt,_⟩:=I.tuple hq
    obtain ⟨o,e,c,_⟩:=pt
    exact PySem.W.XcOk.off (I.hok _ _ hq').1 e c
   | dic hq'=>
    exfalso
    obtain ⟨_,_,pt,_⟩:=I.tuple hq
    obtain ⟨o,e,c,_⟩:=pt
    obtain ⟨_,_,_,_,o',_,_,e',ex,_⟩:=I.hok _ _ hq'
    rw [e] at e'; cases e'
    rw [ex.1] at c; exact absurd (Value.type.inj c) (by decide)
 | @lst a vs xs hq hl hi ih=>
  intro n y q ok
  cases n with
  | zero=> simp [okU] at ok
  | succ n=>
   rw [okU] at ok
   cases q with
   | lst hq' hl' hi'=> rw [eqW]; have e:=I.list_inj (SqL.of hq) (SqL.of hq'); subst e; exact key rfl hl hl' (key2 hl (fun i v x a b=> ih i v x a b) hi' ok)
   | scr hq' hl' hi'=> rw [eqW]; have e:=I.list_inj (SqL.of hq) hq'; subst e; exact key rfl hl hl' (key2 hl (fun i v x a b=> ih i v x a b) hi' ok)
   | tup hq' hl' hi'=>
    exfalso
    obtain ⟨_,_,pl,_⟩:=I.list (SqL.of hq)
    obtain ⟨_,_,pt,_⟩:=I.tuple hq'
    exact SeqAt.ne_of_list_tuple pl.isList pt rfl
   | xc hq' kk=>
    exfalso
    rw [hq] at hq'; cases hq'
   | dic hq'=>
    exfalso
    rw [hq] at hq'; cases hq'
theorem IsU.list {X:Cx} {pins:List (Addr×Obj)} {σ:St} {H:Hp} {s:Shared} (I:Inv X pins σ H s) {a:Addr} {xs:List U} {vs:List V} (h:SqL X.K H a vs) (hl:vs.length=xs.length):∃ its:List Value,aK vs its∧s.heap.IsList a its.toArray∧its.length=xs.length:=by
 obtain ⟨its,r,pl,_⟩:=I.list h
 exact ⟨its,r,pl.isList,by rw [← r.length,hl]⟩
theorem IsU.tup {X:Cx} {pins:List (Addr×Obj)} {σ:St} {H:Hp} {s:Shared} (I:Inv X pins σ H s) {a:Addr} {xs:List U} {vs:List V} (h:SqT X.K H a vs) (hl:vs.length=xs.length):∃ its:List Value,aK vs its∧IsTup s.heap a its.toArray∧its.length=xs.length:=by
 obtain ⟨its,r,pl,_⟩:=I.tuple h
 exact ⟨its,r,pl,by rw [← r.length,hl]⟩
section
variable {X:Cx} {pins:List (Addr×Obj)} {σ:St} {H:Hp} {s:Shared}
theorem bX (I:Inv X pins σ H s) {n:Nat} {vs ws:List V} {xs ys:List U} {its its2:List Value} (r1:aK vs its) (r2:aK ws its2) (hl1:vs.length=xs.length) (hl2:ws.length=ys.length)
  (h1:∀ (i:Nat) (v:V) (x:U),vs[i]?=some v→xs[i]?=some x→Rp X.K H v x) (h2:∀ (i:Nat) (v:V) (x:U),ws[i]?=some v→ys[i]?=some x→Rp X.K H v x) (ok1:okUs n xs=true) (ok2:okUs n ys=true) {A:Around}
  (rc0:∀ (x y:U) (v w:V) (p q:Value),Rp X.K H v x→Rp X.K H w y→aU v p→aU w q→okU n x=true→okU n y=true→SeqAt.RcAt A.in1 s p q (eqW x y)) (hu:A.units+n+1 < cLine)
  (j:Nat) (j1:j < its.length) (j2:j < its2.length):SeqAt.EqAt A.in1 s its[j] its2[j] (eqW (xs.getD j .non) (ys.getD j .non)):=by
 have a1:j < vs.length:=by rw [r1.length]; exact j1
 have a2:j < ws.length:=by rw [r2.length]; exact j2
 have b1:j < xs.length:=by omega
 have b2:j < ys.length:=by omega
 rw [List.getD_eq_getElem?_getD,List.getElem?_eq_getElem b1,List.getD_eq_getElem?_getD,List.getElem?_eq_getElem b2,Option.getD_some,Option.getD_some]
 have R1:=h1 j vs[j] xs[j] (List.getElem?_eq_getElem a1) (List.getElem?_eq_getElem b1)
 have R2:=h2 j ws[j] ys[j] (List.getElem?_eq_getElem a2) (List.getElem?_eq_getElem b2)
 obtain ⟨u1,e1,q1⟩:=r1.get (List.getElem?_eq_getElem a1)
 obtain ⟨u2,e2,q2⟩:=r2.get (List.getElem?_eq_getElem a2)
 rw [List.getElem?_eq_getElem j1] at e1
 rw [List.getElem?_eq_getElem j2] at e2
 cases e1; cases e2
 have o1:=gN ok1 (List.getElem?_eq_getElem b1)
 have o2:=gN ok2 (List.getElem?_eq_getElem b2)
 generalize vs[j]=v at *
 generalize ws[j]=w at *
 generalize its[j]=p at *
 generalize its2[j]=q at *
 generalize xs[j]=x at *
 generalize ys[j]=y at *
 have main:=rc0 x y v w p q R1 R2 q1 q2 o1 o2
 have ref_ref:∀ (a b:Addr),p=.ref a→q=.ref b→SeqAt.EqAt A.in1 s p q (eqW x y):=fun a b ea eb=> by
  subst ea eb
  by_cases e:a=b
  ·subst e
   have e2:v=w:=q1.inj q2
   subst e2
   rw [R1.one I R2 o1]
   exact SeqAt.EqAt.same _
  ·exact SeqAt.EqAt.of_refs e main
 have hu1:A.in1.units < cLine:=by show A.units+1 < _; omega
 cases R1 with
 | non=>
  cases (show p=Value.none from q1)
  cases R2 with
  | non=> cases (show q=Value.none from q2); exact SeqAt.EqAt.same _
  | bl b=> cases (show q=Value.bool b from q2); exact SeqAt.EqAt.none_bool b
  | int i=> obtain ⟨t,rfl⟩:=(show ∃ t,q=Value.int i t from q2); exact SeqAt.EqAt.none_int i t
  | str i=> obtain ⟨t,rfl⟩:=(show ∃ t,q=Value.str i t from q2); exact SeqAt.EqAt.none_str i t
  | ty=> simp [okU] at o2
  | dic=> simp [okU] at o2
  | xc=> simp [okU] at o2
  | scr hq hl hi=> cases q2; obtain ⟨_,_,pl,_⟩:=IsU.list I hq hl; exact SeqAt.EqAt.none_list pl hu1
  | tup hq hl hi=> cases q2; obtain ⟨_,_,pl,_⟩:=IsU.tup I hq hl; exact SeqAt.EqAt.none_tuple pl hu1
  | lst hq hl hi=> cases q2; obtain ⟨_,_,pl,_⟩:=IsU.list I (SqL.of hq) hl; exact SeqAt.EqAt.none_list pl hu1
 | bl c=>
  cases (show p=Value.bool c from q1)
  cases R2 with
  | non=> cases (show q=Value.none from q2); exact SeqAt.EqAt.bool_none c
  | bl b=> cases (show q=Value.bool b from q2); exact SeqAt.EqAt.bool_bool c b
  | int i=> obtain ⟨t,rfl⟩:=(show ∃ t,q=Value.int i t from q2); exact SeqAt.EqAt.bool_int c i t
  | str i=> obtain ⟨t,rfl⟩:=(show ∃ t,q=Value.str i t from q2); exact SeqAt.EqAt.bool_str c i t
  | ty=> simp [okU] at o2
  | dic=> simp [okU] at o2
  | xc=> simp [okU] at o2
  | scr hq hl hi=> cases q2; obtain ⟨_,_,pl,_⟩:=IsU.list I hq hl; exact SeqAt.EqAt.bool_list c pl hu1
  | tup hq hl hi=> cases q2; obtain ⟨_,_,pl,_⟩:=IsU.tup I hq hl; exact SeqAt.EqAt.bool_tuple c pl hu1
  | lst hq hl hi=> cases q2; obtain ⟨_,_,pl,_⟩:=IsU.list I (SqL.of hq) hl; exact SeqAt.EqAt.bool_list c pl hu1
 | int c=>
  obtain ⟨t0,rfl⟩:=(show ∃ t,p=Value.int c t from q1)
  cases R2 with
  | non=> cases (show q=Value.none from q2); exact SeqAt.EqAt.int_none c t0
  | bl b=> cases (show q=Value.bool b from q2); exact SeqAt.EqAt.int_bool c t0 b
  | int i=> obtain ⟨t,rfl⟩:=(show ∃ t,q=Value.int i t from q2); exact SeqAt.EqAt.int_int c t0 i t
  | str i=> obtain ⟨t,rfl⟩:=(show ∃ t,q=Value.str i t from q2); exact SeqAt.EqAt.int_str c t0 i t
  | ty=> simp [okU] at o2
  | dic=> simp [okU] at o2
  | xc=> simp [okU] at o2
  | scr hq hl hi=> cases q2; obtain ⟨_,_,pl,_⟩:=IsU.list I hq hl; exact SeqAt.EqAt.int_list c t0 pl hu1
  | tup hq hl hi=> cases q2; obtain ⟨_,_,pl,_⟩:=IsU.tup I hq hl; exact SeqAt.EqAt.int_tuple c t0 pl hu1
  | lst hq hl hi=> cases q2; obtain ⟨_,_,pl,_⟩:=IsU.list I (SqL.of hq) hl; exact SeqAt.EqAt.int_list c t0 pl hu1
 | str c=>
  obtain ⟨t0,rfl⟩:=(show ∃ t,p=Value.str c t from q1)
  cases R2 with
  | non=> cases (show q=Value.none from q2); exact SeqAt.EqAt.str_none c t0
  | bl b=> cases (show q=Value.bool b from q2); exact SeqAt.EqAt.str_bool c t0 b
  | int i=> obtain ⟨t,rfl⟩:=(show ∃ t,q=Value.int i t from q2); exact SeqAt.EqAt.str_int c t0 i t
  | str i=> obtain ⟨t,rfl⟩:=(show ∃ t,q=Value.str i t from q2); exact SeqAt.EqAt.str_str c t0 i t
  | ty=> simp [okU] at o2
  | dic=> simp [okU] at o2
  | xc=> simp [okU] at o2
  | scr hq hl hi=> cases q2; obtain ⟨_,_,pl,_⟩:=IsU.list I hq hl; exact SeqAt.EqAt.str_list c t0 pl hu1
  | tup hq hl hi=> cases q2; obtain ⟨_,_,pl,_⟩:=IsU.tup I hq hl; exact SeqAt.EqAt.str_tuple c t0 pl hu1
  | lst hq hl hi=> cases q2; obtain ⟨_,_,pl,_⟩:=IsU.list I (SqL.of hq) hl; exact SeqAt.EqAt.str_list c t0 pl hu1
 | ty=> simp [okU] at o1
 | dic=> simp [okU] at o1
 | xc=> simp [okU] at o1
 | @scr a vs xs hq hl hi=>
  cases q1
  obtain ⟨_,_,pl,_⟩:=IsU.list I hq hl
  cases R2 with
  | non=> cases (show q=Value.none from q2); exact SeqAt.EqAt.list_none pl hu1
  | bl b=> cases (show q=Value.bool b from q2); exact SeqAt.EqAt.list_bool b pl hu1
  | int i=> obtain ⟨t,rfl⟩:=(show ∃ t,q=Value.int i t from q2); exact SeqAt.EqAt.list_int i t pl hu1
  | str i=> obtain ⟨t,rfl⟩:=(show ∃ t,q=Value.str i t from q2); exact SeqAt.EqAt.list_str i t pl hu1
  | ty=> simp [okU] at o2
  | dic=> simp [okU] at o2
  | xc=> simp [okU] at o2
  | scr=> exact ref_ref _ _ rfl q2
  | tup=> exact ref_ref _ _ rfl q2
  | lst=> exact ref_ref _ _ rfl q2
 | @lst a vs xs hq hl hi=>
  cases q1
  obtain ⟨_,_,pl,_⟩:=IsU.list I (SqL.of hq) hl
  cases R2 with
  | non=> cases (show q=Value.none from q2); exact SeqAt.EqAt.list_none pl hu1
  | bl b=> cases (show q=Value.bool b from q2); exact SeqAt.EqAt.list_bool b pl hu1
  | int i=> obtain ⟨t,rfl⟩:=(show ∃ t,q=Value.int i t from q2); exact SeqAt.EqAt.list_int i t pl hu1
  | str i=> obtain ⟨t,rfl⟩:=(show ∃ t,q=Value.str i t from q2); exact SeqAt.EqAt.list_str i t pl hu1
  | ty=> simp [okU] at o2
  | dic=> simp [okU] at o2
  | xc=> simp [okU] at o2
  | scr=> exact ref_ref _ _ rfl q2
  | tup=> exact ref_ref _ _ rfl q2
  | lst=> exact ref_ref _ _ rfl q2
 | @tup a vs xs hq hl hi=>
  cases q1
  obtain ⟨_,_,pl,_⟩:=IsU.tup I hq hl
  cases R2 with
  | non=> cases (show q=Value.none from q2); exact SeqAt.EqAt.tuple_none pl hu1
  | bl b=> cases (show q=Value.bool b from q2); exact SeqAt.EqAt.tuple_bool b pl hu1
  | int i=> obtain ⟨t,rfl⟩:=(show ∃ t,q=Value.int i t from q2); exact SeqAt.EqAt.tuple_int i t pl hu1
  | str i=> obtain ⟨t,rfl⟩:=(show ∃ t,q=Value.str i t from q2); exact SeqAt.EqAt.tuple_str i t pl hu1
  | ty=> simp [okU] at o2
  | dic=> simp [okU] at o2
  | xc=> simp [okU] at o2
  | scr=> exact ref_ref _ _ rfl q2
  | tup=> exact ref_ref _ _ rfl q2
  | lst=> exact ref_ref _ _ rfl q2
theorem fH {A:Around} {n:Nat} {a b:Addr} {xs ys:List U} {its its2:List Value} (p1:s.heap.IsList a its.toArray) (p2:s.heap.IsList b its2.toArray) (l1:its.length=xs.length) (l2:its2.length=ys.length) (hu:A.units+n < cLine)
  (he:∀ (j:Nat) (j1:j < its.length) (j2:j < its2.length),SeqAt.EqAt A.in1 s its[j] its2[j] (eqW (xs.getD j .non) (ys.getD j .non))):SeqAt.RcAt A s (.ref a) (.ref b) (eqWs xs ys):=by
 by_cases hl:its.length=its2.length
 ·have:=SeqAt.RcAt.lists (A:=A) (s:=s) (e:=fun j=> eqW (xs.getD j .non) (ys.getD j .non)) p1 p2 (by simpa using hl) (by omega) (fun j h1 h2=> by simpa using he j (by simpa using h1) (by simpa using h2))
  rw [← cG,← l1,← l2,hl,Nat.min_self,beq_self_eq_true,Bool.and_true]
  rwa [List.size_toArray,hl] at this
 ·have:=SeqAt.RcAt.lists_lengths (A:=A) (s:=s) p1 p2 (by simpa using hl) (by omega)
  rw [← cG,← l1,← l2,show (its.length==its2.length)=false by simpa using hl,Bool.and_false]
  exact this
theorem tK {A:Around} {n:Nat} {a b:Addr} {xs ys:List U} {its its2:List Value} (p1:IsTup s.heap a its.toArray) (p2:IsTup s.heap b its2.toArray) (l1:its.length=xs.length) (l2:its2.length=ys.length) (hu:A.units+n < cLine)
  (he:∀ (j:Nat) (j1:j < its.length) (j2:j < its2.length),SeqAt.EqAt A.in1 s its[j] its2[j] (eqW (xs.getD j .non) (ys.getD j .non))):SeqAt.RcAt A s (.ref a) (.ref b) (eqWs xs ys):=by
 have:=SeqAt.RcAt.tuples (A:=A) (s:=s) (e:=fun j=> eqW (xs.getD j .non) (ys.getD j .non)) p1 p2 (by omega) (fun j h1 h2=> by simpa using he j (by simpa using h1) (by simpa using h2))
 rw [List.size_toArray,List.size_toArray,l1,l2,cG] at this
 exact this
theorem wG (I:Inv X pins σ H s):∀ (n:Nat) (A:Around) (x y:U) (v w:V) (p q:Value),Rp X.K H v x→Rp X.K H w y→aU v p→aU w q→okU n x=true→okU n y=true→A.units+n < cLine→SeqAt.RcAt A s p q (eqW x y):=by
 intro n
 induction n with
 | zero=>
  intro A x y v w p q R1 R2 q1 q2 o1 o2 hu
  cases R1 with
  | non=>
   cases (show p=Value.none from q1)
   cases R2 with
   | non=> cases (show q=Value.none from q2); exact SeqAt.RcAt.none_none
   | bl b=> cases (show q=Value.bool b from q2); exact SeqAt.RcAt.none_bool b
   | int i=> obtain ⟨t,rfl⟩:=(show ∃ t,q=Value.int i t from q2); exact SeqAt.RcAt.none_int i t
   | str i=> obtain ⟨t,rfl⟩:=(show ∃ t,q=Value.str i t from q2); exact SeqAt.RcAt.none_str i t
   | _=> simp [okU] at o2
  | bl c=>
   cases (show p=Value.bool c from q1)
   cases R2 with
   | non=> cases (show q=Value.none from q2); exact SeqAt.RcAt.bool_none c
   | bl b=> cases (show q=Value.bool b from q2); exact SeqAt.RcAt.bool_bool c b
   | int i=> obtain ⟨t,rfl⟩:=(show ∃ t,q=Value.int i t from q2); exact SeqAt.RcAt.bool_int c i t
   | str i=> obtain ⟨t,rfl⟩:=(show ∃ t,q=Value.str i t from q2); exact SeqAt.RcAt.bool_str c i t
   | _=> simp [okU] at o2
  | int c=>
   obtain ⟨t0,rfl⟩:=(show ∃ t,p=Value.int c t from q1)
   cases R2 with
   | non=> cases (show q=Value.none from q2); exact SeqAt.RcAt.int_none c t0
   | bl b=> cases (show q=Value.bool b from q2); exact SeqAt.RcAt.int_bool c t0 b
   | int i=> obtain ⟨t,rfl⟩:=(show ∃ t,q=Value.int i t from q2); exact SeqAt.RcAt.int_int c t0 i t
   | str i=> obtain ⟨t,rfl⟩:=(show ∃ t,q=Value.str i t from q2); exact SeqAt.RcAt.int_str c t0 i t
   | _=> simp [okU] at o2
  | str c=>
   obtain ⟨t0,rfl⟩:=(show ∃ t,p=Value.str c t from q1)
   cases R2 with
   | non=> cases (show q=Value.none from q2); exact SeqAt.RcAt.str_none c t0
   | bl b=> cases (show q=Value.bool b from q2); exact SeqAt.RcAt.str_bool c t0 b
   | int i=> obtain ⟨t,rfl⟩:=(show ∃ t,q=Value.int i t from q2); exact SeqAt.RcAt.str_int c t0 i t
   | str i=> obtain ⟨t,rfl⟩:=(show ∃ t,q=Value.str i t from q2); exact SeqAt.RcAt.str_str c t0 i t
   | _=> simp [okU] at o2
  | _=> simp [okU] at o1
 | succ n ih=>
  intro A x y v w p q R1 R2 q1 q2 o1 o2 hu
  have hu1:A.units < cLine:=by omega
  have rc0:∀ (x y:U) (v w:V) (p q:Value),Rp X.K H v x→Rp X.K H w y→aU v p→aU w q→okU n x=true→okU n y=true→SeqAt.RcAt A.in1 s p q (eqW x y):=fun x y v w p q r1 r2 k1 k2 z1 z2=> ih A.in1 x y v w p q r1 r2 k1 k2 z1 z2 (by show A.units+1+n < _; omega)
  cases R1 with
  | non=>
   cases (show p=Value.none from q1)
   cases R2 with
   | non=> cases (show q=Value.none from q2); exact SeqAt.RcAt.none_none
   | bl b=> cases (show q=Value.bool b from q2); exact SeqAt.RcAt.none_bool b
   | int i=> obtain ⟨t,rfl⟩:=(show ∃ t,q=Value.int i t from q2); exact SeqAt.RcAt.none_int i t
   | str i=> obtain ⟨t,rfl⟩:=(show ∃ t,q=Value.str i t from q2); exact SeqAt.RcAt.none_str i t
   | ty=> simp [okU] at o2
   | dic=> simp [okU] at o2
   | xc=> simp [okU] at o2
   | scr hq hl hi=> cases q2; obtain ⟨_,_,pl,_⟩:=IsU.list I hq hl; exact SeqAt.RcAt.none_list pl hu1
   | tup hq hl hi=> cases q2; obtain ⟨_,_,pl,_⟩:=IsU.tup I hq hl; exact SeqAt.RcAt.none_tuple pl hu1
   | lst hq hl hi=> cases q2; obtain ⟨_,_,pl,_⟩:=IsU.list I (SqL.of hq) hl; exact SeqAt.RcAt.none_list pl hu1
  | bl c=>
   cases (show p=Value.bool c from q1)
   cases R2 with
   | non=> cases (show q=Value.none from q2); exact SeqAt.RcAt.bool_none c
   | bl b=> cases (show q=Value.bool b from q2); exact SeqAt.RcAt.bool_bool c b
   | int i=> obtain ⟨t,rfl⟩:=(show ∃ t,q=Value.int i t from q2); exact SeqAt.RcAt.bool_int c i t
   | str i=> obtain ⟨t,rfl⟩:=(show ∃ t,q=Value.str i t from q2); exact SeqAt.RcAt.bool_str c i t
   | ty=> simp [okU] at o2
   | dic=> simp [okU] at o2
   | xc=> simp [okU] at o2
   | scr hq hl hi=> cases q2; obtain ⟨_,_,pl,_⟩:=IsU.list I hq hl; exact SeqAt.RcAt.bool_list c pl hu1
   | tup hq hl hi=> cases q2; obtain ⟨_,_,pl,_⟩:=IsU.tup I hq hl; exact SeqAt.RcAt.bool_tuple c pl hu1
   | lst hq hl hi=> cases q2; obtain ⟨_,_,pl,_⟩:=IsU.list I (SqL.of hq) hl; exact SeqAt.RcAt.bool_list c pl hu1
  | int c=>
   obtain ⟨t0,rfl⟩:=(show ∃ t,p=Value.int c t from q1)
   cases R2 with
   | non=> cases (show q=Value.none from q2); exact SeqAt.RcAt.int_none c t0
   | bl b=> cases (show q=Value.bool b from q2); exact SeqAt.RcAt.int_bool c t0 b
   | int i=> obtain ⟨t,rfl⟩:=(show ∃ t,q=Value.int i t from q2); exact SeqAt.RcAt.int_int c t0 i t
   | str i=> obtain ⟨t,rfl⟩:=(show ∃ t,q=Value.str i t from q2); exact SeqAt.RcAt.int_str c t0 i t
   | ty=> simp [okU] at o2
   | dic=> simp [okU] at o2
   | xc=> simp [okU] at o2
   | scr hq hl hi=> cases q2; obtain ⟨_,_,pl,_⟩:=IsU.list I hq hl; exact SeqAt.RcAt.int_list c t0 pl hu1
   | tup hq hl hi=> cases q2; obtain ⟨_,_,pl,_⟩:=IsU.tup I hq hl; exact SeqAt.RcAt.int_tuple c t0 pl hu1
   | lst hq hl hi=> cases q2; obtain ⟨_,_,pl,_⟩:=IsU.list I (SqL.of hq) hl; exact SeqAt.RcAt.int_list c t0 pl hu1
  | str c=>
   obtain ⟨t0,rfl⟩:=(show ∃ t,p=Value.str c t from q1)
   cases R2 with
   | non=> cases (show q=Value.none from q2); exact SeqAt.RcAt.str_none c t0
   | bl b=> cases (show q=Value.bool b from q2); exact SeqAt.RcAt.str_bool c t0 b
   | int i=> obtain ⟨t,rfl⟩:=(show ∃ t,q=Value.int i t from q2); exact SeqAt.RcAt.str_int c t0 i t
   | str i=> obtain ⟨t,rfl⟩:=(show ∃ t,q=Value.str i t from q2); exact SeqAt.RcAt.str_str c t0 i t
   | ty=> simp [okU] at o2
   | dic=> simp [okU] at o2
   | xc=> simp [okU] at o2
   | scr hq hl hi=> cases q2; obtain ⟨_,_,pl,_⟩:=IsU.list I hq hl; exact SeqAt.RcAt.str_list c t0 pl hu1
   | tup hq hl hi=> cases q2; obtain ⟨_,_,pl,_⟩:=IsU.tup I hq hl; exact SeqAt.RcAt.str_tuple c t0 pl hu1
   | lst hq hl hi=> cases q2; obtain ⟨_,_,pl,_⟩:=IsU.list I (SqL.of hq) hl; exact SeqAt.RcAt.str_list c t0 pl hu1
  | ty=> simp [okU] at o1
  | dic=> simp [okU] at o1
  | xc=> simp [okU] at o1
  | @scr a vs xs hq hl hi=>
   cases q1
   obtain ⟨its,r1,pl,l1⟩:=IsU.list I hq hl
   rw [okU] at o1
   cases R2 with
   | non=> cases (show q=Value.none from q2); exact SeqAt.RcAt.list_none pl hu1
   | bl b=> cases (show q=Value.bool b from q2); exact SeqAt.RcAt.list_bool b pl hu1
   | int i=> obtain ⟨t,rfl⟩:=(show ∃ t,q=Value.int i t from q2); exact SeqAt.RcAt.list_int i t pl hu1
   | str i=> obtain ⟨t,rfl⟩:=(show ∃ t,q=Value.str i t from q2); exact SeqAt.RcAt.list_str i t pl hu1
   | ty=> simp [okU] at o2
   | dic=> simp [okU] at o2
   | xc=> simp [okU] at o2
   | scr hq' hl' hi'=> cases q2; rw [okU] at o2; obtain ⟨its2,r2,pl2,l2⟩:=IsU.list I hq' hl'; rw [eqW]; exact fH pl pl2 l1 l2 hu (bX I r1 r2 hl hl' hi hi' o1 o2 rc0 (by omega))
   | lst hq' hl' hi'=> cases q2; rw [okU] at o2; obtain ⟨its2,r2,pl2,l2⟩:=IsU.list I (SqL.of hq') hl'; rw [eqW]; exact fH pl pl2 l1 l2 hu (bX I r1 r2 hl hl' hi hi' o1 o2 rc0 (by omega))
   | tup hq' hl' hi'=> cases q2; obtain ⟨its2,r2,pl2,l2⟩:=IsU.tup I hq' hl'; exact SeqAt.RcAt.list_tuple pl pl2 hu1
  | @lst a vs xs hq hl hi=>
   cases q1
   obtain ⟨its,r1,pl,l1⟩:=IsU.list I (SqL.of hq) hl
   rw [okU] at o1
   cases R2 with
   | non=> cases (show q=Value.none from q2); exact SeqAt.RcAt.list_none pl hu1
   | bl b=> cases (show q=Value.bool b from q2); exact SeqAt.RcAt.list_bool b pl hu1
   | int i=> obtain ⟨t,rfl⟩:=(show ∃ t,q=Value.int i t from q2); exact SeqAt.RcAt.list_int i t pl hu1
   | str i=> obtain ⟨t,rfl⟩:=(show ∃ t,q=Value.str i t from q2); exact SeqAt.RcAt.list_str i t pl hu1
   | ty=> simp [okU] at o2
   | dic=> simp [okU] at o2
   | xc=> simp [okU] at o2
   | scr hq' hl' hi'=> cases q2; rw [okU] at o2; obtain ⟨its2,r2,pl2,l2⟩:=IsU.list I hq' hl'; rw [eqW]; exact fH pl pl2 l1 l2 hu (bX I r1 r2 hl hl' hi hi' o1 o2 rc0 (by omega))
   | lst hq' hl' hi'=> cases q2; rw [okU] at o2; obtain ⟨its2,r2,pl2,l2⟩:=IsU.list I (SqL.of hq') hl'; rw [eqW]; exact fH pl pl2 l1 l2 hu (bX I r1 r2 hl hl' hi hi' o1 o2 rc0 (by omega))
   | tup hq' hl' hi'=> cases q2; obtain ⟨its2,r2,pl2,l2⟩:=IsU.tup I hq' hl'; exact SeqAt.RcAt.list_tuple pl pl2 hu1
  | @tup a vs xs hq hl hi=>
   cases q1
   obtain ⟨its,r1,pl,l1⟩:=IsU.tup I hq hl
   rw [okU] at o1
   cases R2 with
   | non=> cases (show q=Value.none from q2); exact SeqAt.RcAt.tuple_none pl hu1
   | bl b=> cases (show q=Value.bool b from q2); exact SeqAt.RcAt.tuple_bool b pl hu1
   | int i=> obtain ⟨t,rfl⟩:=(show ∃ t,q=Value.int i t from q2); exact SeqAt.RcAt.tuple_int i t pl hu1
   | str i=> obtain ⟨t,rfl⟩:=(show ∃ t,q=Value.str i t from q2); exact SeqAt.RcAt.tuple_str i t pl hu1
   | ty=> simp [okU] at o2
   | dic=> simp [okU] at o2
   | xc=> simp [okU] at o2
   | scr hq' hl' hi'=> cases q2; obtain ⟨its2,r2,pl2,l2⟩:=IsU.list I hq' hl'; exact SeqAt.RcAt.tuple_list pl pl2 hu1
   | lst hq' hl' hi'=> cases q2; obtain ⟨its2,r2,pl2,l2⟩:=IsU.list I (SqL.of hq') hl'; exact SeqAt.RcAt.tuple_list pl pl2 hu1
   | tup hq' hl' hi'=> cases q2; rw [okU] at o2; obtain ⟨its2,r2,pl2,l2⟩:=IsU.tup I hq' hl'; rw [eqW]; exact tK pl pl2 l1 l2 hu (bX I r1 r2 hl hl' hi hi' o1 o2 rc0 (by omega))
end
end L2
namespace L2
open PySem PySem.Spec PyProof.Rows
section
variable {X:Cx} {pins:List (Addr×Obj)} {σ:St} {H:Hp} {s:Shared}
theorem dG {A:Around} {n:Nat} {a b:Addr} {xs ys:List U} {its its2:List Value} (p1:s.heap.IsList a its.toArray) (p2:s.heap.IsList b its2.toArray) (l1:its.length=xs.length) (l2:its2.length=ys.length) (hu:A.units+n < cLine)
  (he:∀ (j:Nat) (j1:j < its.length) (j2:j < its2.length),SeqAt.EqAt A.in1 s its[j] its2[j] (eqW (xs.getD j .non) (ys.getD j .non))):SeqAt.RcNeAt A s (.ref a) (.ref b) (!eqWs xs ys):=by
 by_cases hl:its.length=its2.length
 ·have:=SeqAt.RcNeAt.lists (A:=A) (s:=s) (e:=fun j=> eqW (xs.getD j .non) (ys.getD j .non)) p1 p2 (by simpa using hl) (by omega) (fun j h1 h2=> by simpa using he j (by simpa using h1) (by simpa using h2))
  rw [← cG,← l1,← l2,hl,Nat.min_self,beq_self_eq_true,Bool.and_true]
  rwa [List.size_toArray,hl] at this
 ·have:=SeqAt.RcNeAt.lists_lengths (A:=A) (s:=s) p1 p2 (by simpa using hl) (by omega)
  rw [← cG,← l1,← l2,show (its.length==its2.length)=false by simpa using hl,Bool.and_false]
  exact this
theorem oS {A:Around} {n:Nat} {a b:Addr} {xs ys:List U} {its its2:List Value} (p1:IsTup s.heap a its.toArray) (p2:IsTup s.heap b its2.toArray) (l1:its.length=xs.length) (l2:its2.length=ys.length) (hu:A.units+n < cLine)
  (he:∀ (j:Nat) (j1:j < its.length) (j2:j < its2.length),SeqAt.EqAt A.in1 s its[j] its2[j] (eqW (xs.getD j .non) (ys.getD j .non))):SeqAt.RcNeAt A s (.ref a) (.ref b) (!eqWs xs ys):=by
 have:=SeqAt.RcNeAt.tuples (A:=A) (s:=s) (e:=fun j=> eqW (xs.getD j .non) (ys.getD j .non)) p1 p2 (by omega) (fun j h1 h2=> by simpa using he j (by simpa using h1) (by simpa using h2))
 rw [List.size_toArray,List.size_toArray,l1,l2,cG] at this
 exact this
theorem vA (I:Inv X pins σ H s) (n:Nat) (A:Around) (x y:U) (v w:V) (p q:Value) (R1:Rp X.K H v x) (R2:Rp X.K H w y) (q1:aU v p) (q2:aU w q) (o1:okU (n+1) x=true) (o2:okU (n+1) y=true) (hu:A.units+(n+1) < cLine):SeqAt.RcNeAt A s p q (!eqW x y):=by
 have hu1:A.units < cLine:=by omega
 have rc0:∀ (x y:U) (v w:V) (p q:Value),Rp X.K H v x→Rp X.K H w y→aU v p→aU w q→okU n x=true→okU n y=true→SeqAt.RcAt A.in1 s p q (eqW x y):=fun x y v w p q r1 r2 k1 k2 z1 z2=> wG I n A.in1 x y v w p q r1 r2 k1 k2 z1 z2 (by show A.units+1+n < _; omega)
 cases R1 with
 | ty=> simp [okU] at o1
 | dic=> simp [okU] at o1
 | xc=> simp [okU] at o1
 | non=>
  cases (show p=Value.none from q1)
  cases R2 with
  | ty=> simp [okU] at o2
  | dic=> simp [okU] at o2
  | xc=> simp [okU] at o2
  | non=> cases (show q=Value.none from q2); exact SeqAt.RcNeAt.none_none
  | bl c2=> cases (show q=Value.bool c2 from q2); exact SeqAt.RcNeAt.none_bool c2
  | int c2=> obtain ⟨t2,rfl⟩:=(show ∃ t,q=Value.int c2 t from q2); exact SeqAt.RcNeAt.none_int c2 t2
  | str c2=> obtain ⟨t2,rfl⟩:=(show ∃ t,q=Value.str c2 t from q2); exact SeqAt.RcNeAt.none_str c2 t2
  | scr hq2 hl2 hi2=> cases q2; obtain ⟨its2,r2,pl2,l2⟩:=IsU.list I hq2 hl2; exact SeqAt.RcNeAt.none_list pl2 hu1
  | tup hq2 hl2 hi2=> cases q2; obtain ⟨its2,r2,pl2,l2⟩:=IsU.tup I hq2 hl2; exact SeqAt.RcNeAt.none_tuple pl2 hu1
  | lst hq2 hl2 hi2=> cases q2; obtain ⟨its2,r2,pl2,l2⟩:=IsU.list I (SqL.of hq2) hl2; exact SeqAt.RcNeAt.none_list pl2 hu1
 | bl c1=>
  cases (show p=Value.bool c1 from q1)
  cases R2 with
  | ty=> simp [okU] at o2
  | dic=> simp [okU] at o2
  | xc=> simp [okU] at o2
  | non=> cases (show q=Value.none from q2); exact SeqAt.RcNeAt.bool_none c1
  | bl c2=> cases (show q=Value.bool c2 from q2); exact SeqAt.RcNeAt.bool_bool c1 c2
  | int c2=> obtain ⟨t2,rfl⟩:=(show ∃ t,q=Value.int c2 t from q2); exact SeqAt.RcNeAt.bool_int c1 c2 t2
  | str c2=> obtain ⟨t2,rfl⟩:=(show ∃ t,q=Value.str c2 t from q2); exact SeqAt.RcNeAt.bool_str c1 c2 t2
  | scr hq2 hl2 hi2=> cases q2; obtain ⟨its2,r2,pl2,l2⟩:=IsU.list I hq2 hl2; exact SeqAt.RcNeAt.bool_list c1 pl2 hu1
  | tup hq2 hl2 hi2=> cases q2; obtain ⟨its2,r2,pl2,l2⟩:=IsU.tup I hq2 hl2; exact SeqAt.RcNeAt.bool_tuple c1 pl2 hu1
  | lst hq2 hl2 hi2=> cases q2; obtain ⟨its2,r2,pl2,l2⟩:=IsU.list I (SqL.of hq2) hl2; exact SeqAt.RcNeAt.bool_list c1 pl2 hu1
 | int c1=>
  obtain ⟨t1,rfl⟩:=(show ∃ t,p=Value.int c1 t from q1)
  cases R2 with
  | ty=> simp [okU] at o2
  | dic=> simp [okU] at o2
  | xc=> simp [okU] at o2
  | non=> cases (show q=Value.none from q2); exact SeqAt.RcNeAt.int_none c1 t1
  | bl c2=> cases (show q=Value.bool c2 from q2); exact SeqAt.RcNeAt.int_bool c1 t1 c2
  | int c2=> obtain ⟨t2,rfl⟩:=(show ∃ t,q=Value.int c2 t from q2); exact SeqAt.RcNeAt.int_int c1 t1 c2 t2
  | str c2=> obtain ⟨t2,rfl⟩:=(show ∃ t,q=Value.str c2 t from q2); exact SeqAt.RcNeAt.int_str c1 t1 c2 t2
  | scr hq2 hl2 hi2=> cases q2; obtain ⟨its2,r2,pl2,l2⟩:=IsU.list I hq2 hl2; exact SeqAt.RcNeAt.int_list c1 t1 pl2 hu1
  | tup hq2 hl2 hi2=> cases q2; obtain ⟨its2,r2,pl2,l2⟩:=IsU.tup I hq2 hl2; exact SeqAt.RcNeAt.int_tuple c1 t1 pl2 hu1
  | lst hq2 hl2 hi2=> cases q2; obtain ⟨its2,r2,pl2,l2⟩:=IsU.list I (SqL.of hq2) hl2; exact SeqAt.RcNeAt.int_list c1 t1 pl2 hu1
 | str c1=>
  obtain ⟨t1,rfl⟩:=(show ∃ t,p=Value.str c1 t from q1)
  cases R2 with
  | ty=> simp [okU] at o2
  | dic=> simp [okU] at o2
  | xc=> simp [okU] at o2
  | non=> cases (show q=Value.none from q2); exact SeqAt.RcNeAt.str_none c1 t1
  | bl c2=> cases (show q=Value.bool c2 from q2); exact SeqAt.RcNeAt.str_bool c1 t1 c2
  | int c2=> obtain ⟨t2,rfl⟩:=(show ∃ t,q=Value.int c2 t from q2); exact SeqAt.RcNeAt.str_int c1 t1 c2 t2
  | str c2=> obtain ⟨t2,rfl⟩:=(show ∃ t,q=Value.str c2 t from q2); exact SeqAt.RcNeAt.str_str c1 t1 c2 t2
  | scr hq2 hl2 hi2=> cases q2; obtain ⟨its2,r2,pl2,l2⟩:=IsU.list I hq2 hl2; exact SeqAt.RcNeAt.str_list c1 t1 pl2 hu1
  | tup hq2 hl2 hi2=> cases q2; obtain ⟨its2,r2,pl2,l2⟩:=IsU.tup I hq2 hl2; exact SeqAt.RcNeAt.str_tuple c1 t1 pl2 hu1
  | lst hq2 hl2 hi2=> cases q2; obtain ⟨its2,r2,pl2,l2⟩:=IsU.list I (SqL.of hq2) hl2; exact SeqAt.RcNeAt.str_list c1 t1 pl2 hu1
 | scr hq1 hl1 hi1=>
  cases q1; obtain ⟨its1,r1,pl1,l1⟩:=IsU.list I hq1 hl1
  cases R2 with
  | ty=> simp [okU] at o2
  | dic=> simp [okU] at o2
  | xc=> simp [okU] at o2
  | non=> cases (show q=Value.none from q2); exact SeqAt.RcNeAt.list_none pl1 hu1
  | bl c2=> cases (show q=Value.bool c2 from q2); exact SeqAt.RcNeAt.list_bool c2 pl1 hu1
  | int c2=> obtain ⟨t2,rfl⟩:=(show ∃ t,q=Value.int c2 t from q2); exact SeqAt.RcNeAt.list_int c2 t2 pl1 hu1
  | str c2=> obtain ⟨t2,rfl⟩:=(show ∃ t,q=Value.str c2 t from q2); exact SeqAt.RcNeAt.list_str c2 t2 pl1 hu1
  | scr hq2 hl2 hi2=> cases q2; obtain ⟨its2,r2,pl2,l2⟩:=IsU.list I hq2 hl2; rw [okU] at o1; rw [okU] at o2; rw [eqW]; exact dG pl1 pl2 l1 l2 hu (bX I r1 r2 hl1 hl2 hi1 hi2 o1 o2 rc0 (by omega))
  | tup hq2 hl2 hi2=> cases q2; obtain ⟨its2,r2,pl2,l2⟩:=IsU.tup I hq2 hl2; exact SeqAt.RcNeAt.list_tuple pl1 pl2 hu1
  | lst hq2 hl2 hi2=> cases q2; obtain ⟨its2,r2,pl2,l2⟩:=IsU.list I (SqL.of hq2) hl2; rw [okU] at o1; rw [okU] at o2; rw [eqW]; exact dG pl1 pl2 l1 l2 hu (bX I r1 r2 hl1 hl2 hi1 hi2 o1 o2 rc0 (by omega))
 | tup hq1 hl1 hi1=>
  cases q1; obtain ⟨its1,r1,pl1,l1⟩:=IsU.tup I hq1 hl1
  cases R2 with
  | ty=> simp [okU] at o2
  | dic=> simp [okU] at o2
  | xc=> simp [okU] at o2
  | non=> cases (show q=Value.none from q2); exact SeqAt.RcNeAt.tuple_none pl1 hu1
  | bl c2=> cases (show q=Value.bool c2 from q2); exact SeqAt.RcNeAt.tuple_bool c2 pl1 hu1
  | int c2=> obtain ⟨t2,rfl⟩:=(show ∃ t,q=Value.int c2 t from q2); exact SeqAt.RcNeAt.tuple_int c2 t2 pl1 hu1
  | str c2=> obtain ⟨t2,rfl⟩:=(show ∃ t,q=Value.str c2 t from q2); exact SeqAt.RcNeAt.tuple_str c2 t2 pl1 hu1
  | scr hq2 hl2 hi2=> cases q2; obtain ⟨its2,r2,pl2,l2⟩:=IsU.list I hq2 hl2; exact SeqAt.RcNeAt.tuple_list pl1 pl2 hu1
  | tup hq2 hl2 hi2=> cases q2; obtain ⟨its2,r2,pl2,l2⟩:=IsU.tup I hq2 hl2; rw [okU] at o1; rw [okU] at o2; rw [eqW]; exact oS pl1 pl2 l1 l2 hu (bX I r1 r2 hl1 hl2 hi1 hi2 o1 o2 rc0 (by omega))
  | lst hq2 hl2 hi2=> cases q2; obtain ⟨its2,r2,pl2,l2⟩:=IsU.list I (SqL.of hq2) hl2; exact SeqAt.RcNeAt.tuple_list pl1 pl2 hu1
 | lst hq1 hl1 hi1=>
  cases q1; obtain ⟨its1,r1,pl1,l1⟩:=IsU.list I (SqL.of hq1) hl1
  cases R2 with
  | ty=> simp [okU] at o2
  | dic=> simp [okU] at o2
  | xc=> simp [okU] at o2
  | non=> cases (show q=Value.none from q2); exact SeqAt.RcNeAt.list_none pl1 hu1
  | bl c2=> cases (show q=Value.bool c2 from q2); exact SeqAt.RcNeAt.list_bool c2 pl1 hu1
  | int c2=> obtain ⟨t2,rfl⟩:=(show ∃ t,q=Value.int c2 t from q2); exact SeqAt.RcNeAt.list_int c2 t2 pl1 hu1
  | str c2=> obtain ⟨t2,rfl⟩:=(show ∃ t,q=Value.str c2 t from q2); exact SeqAt.RcNeAt.list_str c2 t2 pl1 hu1
  | scr hq2 hl2 hi2=> cases q2; obtain ⟨its2,r2,pl2,l2⟩:=IsU.list I hq2 hl2; rw [okU] at o1; rw [okU] at o2; rw [eqW]; exact dG pl1 pl2 l1 l2 hu (bX I r1 r2 hl1 hl2 hi1 hi2 o1 o2 rc0 (by omega))
  | tup hq2 hl2 hi2=> cases q2; obtain ⟨its2,r2,pl2,l2⟩:=IsU.tup I hq2 hl2; exact SeqAt.RcNeAt.list_tuple pl1 pl2 hu1
  | lst hq2 hl2 hi2=> cases q2; obtain ⟨its2,r2,pl2,l2⟩:=IsU.list I (SqL.of hq2) hl2; rw [okU] at o1; rw [okU] at o2; rw [eqW]; exact dG pl1 pl2 l1 l2 hu (bX I r1 r2 hl1 hl2 hi1 hi2 o1 o2 rc0 (by omega))
end
end L2
namespace L2
open PySem PySem.Spec PyProof.Rows
def OpS (X:Cx) (f:Value→Value→Sem Value) (x y:U) (z:V):Prop:=OpR X f fun v w H Q=> Rp X.K H v x∧Rp X.K H w y∧Q z H
section
variable {X:Cx} {H0:Hp} {O0:List Addr} {ps:PSt} {a b c e:Expr} {es rest:List Expr} {pos p:Pos} {u x y:U} {xs ys us:List U} {i j:Int} {k m:Bool}
theorem Rp.out {K:PySem.W.Frag} {H:Hp} {O:List Addr} {v:V} {u:U} (h:Rp K (hid H O) v u):Rp K H v u:=h.same ax
theorem jf {op:CmpOp} (ho:OpS X (compareOp op) x y (.bl k)) (ha:Ev X H0 O0 ps a x) (hb:Ev X H0 O0 ps b y) (hm:behindInMarks op b=false:=by first | exact pC _ | with_unfolding_all rfl):Ev X H0 O0 ps (.Compare a [op] [b] pos) (.bl k):=
 PE.mono (ud ho ha hb hm) fun σ H Q ⟨O,R,q⟩=> two R (fun _ _ _ z=> z) (fun _ _ _ z=> z) fun v w H' s _ r1 r2=> ⟨r1.out,r2.out,q _ H' s (.bl _)⟩
theorem aS {op:CmpOp} (ho:OpS X (compareOp op) x y (.bl k)) (ha:Ev X H0 O0 ps a x) (hb:Ev X H0 O0 ps b y) (hm:behindInMarks op b=false:=by first | exact pC _ | with_unfolding_all rfl):Tt X H0 O0 ps (.Compare a [op] [b] pos) k:=
 PT.mono (tR ho ha hb hm) fun σ H Q ⟨O,R,q⟩=> two R (fun _ _ _ z=> z) (fun _ _ _ z=> z) fun v w H' s _ r1 r2=> ⟨r1.out,r2.out,_,rfl,q H' s⟩
theorem o8 {op:CmpOp} {g:Int→Int→Bool} (ho:OpR X (compareOp op) (rI0 fun i j=> .bl (g i j))):OpS X (compareOp op) (.int i) (.int j) (.bl (g i j)):=by
 intro pins s σ H v w p q Q I r1 r2 h
 obtain ⟨h1,h2,h3⟩:=h
 cases h1; cases h2
 exact ho pins s σ H _ _ _ _ Q I r1 r2 ⟨i,j,rfl,rfl,h3⟩
theorem gF:OpS X (compareOp .Lt) (.int i) (.int j) (.bl (decide (i < j))):=o8 wq
theorem v3:OpS X (compareOp .LtE) (.int i) (.int j) (.bl (decide (i≤j))):=o8 wX
theorem n_:OpS X (compareOp .Gt) (.int i) (.int j) (.bl (decide (j < i))):=o8 wJ
theorem sj (hu:X.A.units+10 < cLine) (h1:okU 9 x=true) (h2:okU 9 y=true):OpS X (compareOp .Eq) x y (.bl (eqW x y)):=by
 intro pins s σ H v w p q Q I r1 r2 h
 obtain ⟨k1,k2,k3⟩:=h
 exact wG I 9 X.A x y v w p q k1 k2 r1 r2 h1 h2 (by omega) X.prog X.w _ _ (aR I k3 rfl)
theorem xG (hu:X.A.units+10 < cLine) (h1:okU 9 x=true) (h2:okU 9 y=true):OpS X (compareOp .NotEq) x y (.bl (!eqW x y)):=by
 intro pins s σ H v w p q Q I r1 r2 h
 obtain ⟨k1,k2,k3⟩:=h
 exact vA I 8 X.A x y v w p q k1 k2 r1 r2 h1 h2 (by omega) X.prog X.w _ _ (aR I k3 rfl)
theorem cL:OpS X (compareOp .Eq) (.int i) (.int j) (.bl (decide (i=j))):=by
 intro pins s σ H v w p q Q I r1 r2 h
 obtain ⟨h1,h2,h3⟩:=h
 cases h1; cases h2
 exact wE pins s σ H _ _ _ _ Q I r1 r2 ⟨rfl,by rw [gL,← Bool.beq_eq_decide_eq] at *; simpa [Bool.beq_eq_decide_eq] using h3⟩
theorem nT:OpS X (compareOp .NotEq) (.int i) (.int j) (.bl (!decide (i=j))):=by
 intro pins s σ H v w p q Q I r1 r2 h
 obtain ⟨h1,h2,h3⟩:=h
 cases h1; cases h2
 exact wB pins s σ H _ _ _ _ Q I r1 r2 ⟨rfl,by rw [gL]; simpa [Bool.beq_eq_decide_eq] using h3⟩
theorem cM (h:Ev X H0 O0 ps e (.bl k)) (he:∀ whole,isTrue e X.env whole=(do let v ← whole; standAt e.pos; holding [v] (truthy v)):=by intro _; rfl):Tt X H0 O0 ps e k:=
 PT.mono (vV h he) fun σ H Q ⟨O,R,q⟩=> ⟨O,R,fun v H' s r=> by cases r; exact ⟨_,rfl,q H' s⟩⟩
theorem cX (h:Tt X H0 O0 ps a k):Tt X H0 O0 ps (.UnaryOp .Not a pos) (!k):=PT.mono (vW h) fun σ H Q ⟨O,R,q⟩=> ⟨O,R,q⟩
theorem Tw.t (h:Tw X H0 O0 ps e k):Tt X H0 O0 ps e k:=h.pt
theorem iD (h:Tt X H0 O0 ps a k):Tw X H0 O0 ps (.BoolOp .And [a] pos) k:=sI h
theorem qw (h:Tt X H0 O0 ps a k):Tw X H0 O0 ps (.BoolOp .Or [a] pos) k:=qM h
theorem e_ (ha:Tt X H0 O0 ps a k) (hb:k=true→Tw X H0 O0 ps (.BoolOp .And (b::rest) pos) m):Tw X H0 O0 ps (.BoolOp .And (a::b::rest) pos) (k && m):=by
 cases k with
 | true=> exact PW.mono (pS ha (hb rfl)) fun σ H Q ⟨O,R,q⟩=> ⟨O,R,fun H' s=> by exact qU (⟨O,R.go s,fun H2 s2=> q H2 (s.trans s2)⟩)⟩
 | false=> exact PW.mono (pS ha (fun _ _ _ _ _ _ _ h=> h.elim) (tB':=fun _ _ _=> False)) fun σ H Q ⟨O,R,q⟩=> ⟨O,R,fun H' s=> by exact km (q H' s)⟩
theorem qZ (ha:Tt X H0 O0 ps a k) (hb:k=false→Tw X H0 O0 ps (.BoolOp .Or (b::rest) pos) m):Tw X H0 O0 ps (.BoolOp .Or (a::b::rest) pos) (k || m):=by
 cases k with
 | false=> exact PW.mono (qI ha (hb rfl)) fun σ H Q ⟨O,R,q⟩=> ⟨O,R,fun H' s=> by exact km (⟨O,R.go s,fun H2 s2=> q H2 (s.trans s2)⟩)⟩
 | true=> exact PW.mono (qI ha (fun _ _ _ _ _ _ _ h=> h.elim) (tB':=fun _ _ _=> False)) fun σ H Q ⟨O,R,q⟩=> ⟨O,R,fun H' s=> by exact qU (q H' s)⟩
theorem e9 {op} (h:Ev X H0 O0 ps a u):Ev X H0 O0 ps (.BoolOp op [a] pos) u:=vG h
theorem e8 (ha:Ev X H0 O0 ps a (.bl k)) (hb:k=true→Ev X H0 O0 ps (.BoolOp .And (b::rest) pos) (.bl m)):Ev X H0 O0 ps (.BoolOp .And (a::b::rest) pos) (.bl (k && m)):=by
 cases k with
 | true=> exact PE.mono (qK ha (hb rfl)) fun σ H Q ⟨O,R,q⟩=> ⟨O,R,fun v H' s r=> by cases r; exact ⟨_,rfl,by exact qU (⟨O,R.go s,fun v H2 s2 r2=> q v H2 (s.trans s2) r2⟩)⟩⟩
 | false=> exact PE.mono (qK ha (fun _ _ _ _ _ _ h=> h.elim) (tb:=fun _ _ _=> False)) fun σ H Q ⟨O,R,q⟩=> ⟨O,R,fun v H' s r=> by cases r; exact ⟨_,rfl,by exact km (q _ H' s (.bl _))⟩⟩
theorem fK (ha:Ev X H0 O0 ps a (.bl k)):Ev X H0 O0 ps (.UnaryOp .Not a pos) (.bl (!k)):=PE.mono (vh ha) fun σ H Q ⟨O,R,q⟩=> ⟨O,R,fun v H' s r=> by cases r; exact ⟨_,rfl,q _ H' s (.bl _)⟩⟩
theorem ao:EvA X H0 O0 ps [] []:=PA.mono d9 fun σ H Q ⟨O,R,q⟩=> q [] H (.refl H) .nil
theorem ae (ha:Ev X H0 O0 ps e u) (hr:EvA X H0 O0 ps es us) (hs:starEach (e::es) X.env=(false,eval e X.env)::starEach es X.env:=by rfl):EvA X H0 O0 ps (e::es) (u::us):=
 PA.mono (cn ha hr hs) fun σ H Q ⟨O,R,q⟩=> ⟨O,R,fun v H1 s1 r1=> ⟨O,R.go s1,fun vs H2 s2 r2=> q _ H2 (s1.trans s2) (.cons (r1.same (bb s2)) r2)⟩⟩
theorem Rs.hidnew {K:PySem.W.Frag} {σ:St} {H:Hp} {O:List Addr} (R:Rs K H0 O0 ps σ H O) {p:Addr} {o:HO} (n:H p=none):hid (upd H p o) O p=some o:=cU aT fun z=> R.dom p z n
theorem xf {x1} (h:EvA X H0 O0 ps es us) (hz:us.length≤sizeLine:=by first | decide | (simp only [List.length_cons,List.length_nil]; decide)):Ev X H0 O0 ps (.Tuple es x1 pos) (.tup us):=
 PE.mono (v9 h) fun σ H Q ⟨O,R,q⟩=> ⟨O,R,fun vs H1 s1 r1=> ⟨by rw [r1.len]; exact hz,fun p hp=> by
  have s2:=aV hp (.tup vs)
  have r2:=r1.same (bb (O:=O) s2)
  exact q _ _ (s1.trans s2) (.tup (SqT.of ((R.go s1).hidnew hp)) r2.len r2.at_)⟩⟩
theorem w8 (h:EvA X H0 O0 ps es us) (hz:us.length≤sizeLine:=by first | decide | (simp only [List.length_cons,List.length_nil]; decide)):EvN X H0 O0 ps (.List es pos) us:=
 PE.mono (vg h) fun σ H Q ⟨O,R,q⟩=> ⟨O,R,fun vs H1 s1 r1=> ⟨by rw [r1.len]; exact hz,fun p hp=> by
  exact q p vs _ (s1.trans (aV hp _)) (s1.free hp) aT (r1.same (bO (aV hp _) hp))⟩⟩
theorem aw (ha:Ev X H0 O0 ps a x) (hb:Ev X H0 O0 ps b (.int i)) (hx:x.items=some xs) (hi:atI xs i=some u) (hs:jO b:=by intro _ _; rfl):Ev X H0 O0 ps (.Subscript a b pos) u:=
 PE.mono (uD (m9.or vE) ha hb hs) fun σ H Q ⟨O,R,q⟩=> two (y:=.int i) R (fun _ _ _ z=> z) (fun _ _ _ z=> z) fun v w H' s _ r1 r2=> by
  cases r2
  cases r1 with
  | scr h hl hh=> cases hx; obtain ⟨z,h1,h2⟩:=Rps.atI ⟨hl,hh⟩ hi; exact .inl ⟨_,_,i,z,rfl,rfl,ax.seq h,h1,q z H' s h2⟩
  | lst h hl hh=> cases hx; obtain ⟨z,h1,h2⟩:=Rps.atI ⟨hl,hh⟩ hi; exact .inl ⟨_,_,i,z,rfl,rfl,ax.seq (SqL.of h),h1,q z H' s h2⟩
  | tup h hl hh=> cases hx; obtain ⟨z,h1,h2⟩:=Rps.atI ⟨hl,hh⟩ hi; exact .inr ⟨_,_,i,z,rfl,rfl,ax.tup h,h1,q z H' s h2⟩
  | _=> cases hx
theorem uj (n:Nat) {x:Str} (h:ps[n]?=some (some (.own xs))) (hb:Ev X H0 O0 ps b (.int i)) (hi:atI xs i=some u) (hN:X.N[n]?=some x:=by rfl) (hv:Vis X.env.scope x:=by first | exact Or.inl rfl | exact Or.inr (Or.inl rfl) | exact Or.inr (Or.inr rfl)) (hd:(x==("__debug__":Str))=false:=by decide)
  (hcd:(x==("__classdict__":Str))=false:=by decide) (hs:jO b:=by intro _ _; rfl):Ev X H0 O0 ps (.Subscript (.Name x p) b pos) u:=
 PE.mono (uD m9 (fg hN hv hd hcd) hb hs) fun σ H Q ⟨O,R,q⟩=> by
  obtain ⟨v,h1,a,vs,rfl,h3,h4,h5,h6⟩:=R.at_ n _ h
  refine ⟨_,h1,O,R,fun w H' s r=> ?_⟩
  cases r
  obtain ⟨z,k1,k2⟩:=h6.atI hi
  exact ⟨a,vs,i,z,rfl,rfl,SqL.of (s _ _ h5),k1,q z H' s (k2.same (bb s))⟩
def iW (X:Cx) (f:Value) (us:List U) (u:U):Prop:=dc X f fun vs H Q=> ∃ O,(∀ a∈O,H a≠none)∧Rps X.K (hid H O) vs us∧∀ v H',aD H H'→Rp X.K (hid H' O) v u→Q v H'
def ul (X:Cx) (f:Value) (us:List U) (xs:List U):Prop:=dc X f fun vs H Q=> ∃ O,(∀ a∈O,H a≠none)∧Rps X.K (hid H O) vs us∧∀ a vs H',aD H H'→H a=none→H' a=some (.lst vs)→Rps X.K (hid H' (a::O)) vs xs→Q (.ref a) H'
theorem au {id:String} {f:Str} (hc:iW X (.builtin id) us u) (hg:Gl X f) (hm:X.mg f=none) (hv:bootBuiltins f=some (.builtin id)) (ha:EvA X H0 O0 ps (e::es) us) (hn:f≠"__name__":=by decide) (hdb:(f==("__debug__":Str))=false:=by decide)
  (he:starEach (e::es) X.env=(false,eval e X.env)::starEach es X.env:=by rfl) (hpl:(backTo pos (starEach es X.env)).any (·.1)=false:=by rfl):Ev X H0 O0 ps (.Call (.Name f p) (e::es) [] pos) u:=
 PE.mono (iw hc hg hm hv ha hn hdb he hpl) fun σ H Q ⟨O,R,q⟩=> ⟨O,R,fun vs H1 s1 r1=> ⟨O,(R.go s1).dom,r1,fun v H2 s2 r2=> q v H2 (s1.trans s2) r2⟩⟩
theorem sH {id:String} {f:Str} (hc:ul X (.type id) us xs) (hg:Gl X f) (hm:X.mg f=none) (hv:bootBuiltins f=some (.type id)) (ha:EvA X H0 O0 ps (e::es) us) (hn:f≠"__name__":=by decide) (hdb:(f==("__debug__":Str))=false:=by decide)
  (he:starEach (e::es) X.env=(false,eval e X.env)::starEach es X.env:=by rfl) (hpl:(backTo pos (starEach es X.env)).any (·.1)=false:=by rfl):EvN X H0 O0 ps (.Call (.Name f p) (e::es) [] pos) xs:=
 PE.mono (n8 hc hg hm hv ha hn hdb he hpl) fun σ H Q ⟨O,R,q⟩=> ⟨O,R,fun vs H1 s1 r1=> ⟨O,(R.go s1).dom,r1,fun a vs H2 s2 n h r2=> q a vs H2 (s1.trans s2) (s1.free n) h r2⟩⟩
theorem eQ {K:PySem.W.Frag} {H:Hp} {vs:List V} (h:Rps K H vs [x]):∃ v,vs=[v]∧Rp K H v x:=by
 obtain ⟨v,ws,rfl,h1,h2⟩:=h.cons_inv
 rw [h2.nil_inv]
 exact ⟨v,rfl,h1⟩
theorem fO {K:PySem.W.Frag} {H:Hp} {vs:List V} (h:Rps K H vs [x,y]):∃ v w,vs=[v,w]∧Rp K H v x∧Rp K H w y:=by
 obtain ⟨v,ws,rfl,h1,h2⟩:=h.cons_inv
 obtain ⟨w,rfl,h3⟩:=eQ h2
 exact ⟨v,w,rfl,h1,h3⟩
theorem dc.mono {f:Value} {r r':List V→Hp→VK→Prop} (h:dc X f r) (m:∀ vs H Q,r' vs H Q→r vs H Q):dc X f r':=fun pins s σ H vs us Q I v q=> h pins s σ H vs us Q I v (m vs H Q q)
theorem jZ {K:PySem.W.Frag} {H:Hp} {v:V} (h:Rp K H v x) (hx:x.items=some xs):∃ a vs,v=.ref a∧(SqL K H a vs∨SqT K H a vs)∧Rps K H vs xs:=by
 cases h with
 | scr h hl hh=> cases hx; exact ⟨_,_,rfl,.inl h,hl,hh⟩
 | lst h hl hh=> cases hx; exact ⟨_,_,rfl,.inl (SqL.of h),hl,hh⟩
 | tup h hl hh=> cases hx; exact ⟨_,_,rfl,.inr h,hl,hh⟩
 | _=> cases hx
theorem mV {K:PySem.W.Frag} {H:Hp} {O:List Addr} {a:Addr} {vs:List V} (h:SqL K (hid H O) a vs∨SqT K (hid H O) a vs):SqL K H a vs∨SqT K H a vs:=h.imp (fun z=> ax.seq z) fun z=> ax.tup z
theorem cu (hx:x.items=some xs):iW X (.builtin "len") [x] (.int xs.length):=dc.mono fM fun vs H Q ⟨O,d,r,q⟩=> by
 obtain ⟨v,rfl,h⟩:=eQ r
 obtain ⟨a,ws,rfl,h1,h2⟩:=jZ h hx
 exact ⟨a,ws,rfl,mV h1,by rw [h2.len]; exact q _ H (.refl H) (.int _)⟩
theorem v5 (n:Nat) {x:Str} (h:ps[n]?=some (some (.own xs))) (hg:Gl X "len") (hm:X.mg "len"=none) (hN:X.N[n]?=some x:=by rfl) (hv:Vis X.env.scope x:=by first | exact Or.inl rfl | exact Or.inr (Or.inl rfl) | exact Or.inr (Or.inr rfl)) (hd:(x==("__debug__":Str))=false:=by decide)
  (hcd:(x==("__classdict__":Str))=false:=by decide) {pc p':Pos} (hs:starEach [.Name x p'] X.env=(false,eval (.Name x p') X.env)::starEach [] X.env:=by rfl) (hpl:(backTo pos (starEach [] X.env)).any (·.1)=false:=by rfl):Ev X H0 O0 ps (.Call (.Name "len" pc) [.Name x p'] [] pos) (.int xs.length):=
 PE.mono (iw fM hg hm PySem.boot_len (cn (fg hN hv hd hcd) d9 hs) (by decide) (by decide) hs hpl) fun σ H Q ⟨O,R,q⟩=> by
  obtain ⟨v,h1,a,vs,rfl,h3,h4,h5,h6⟩:=R.at_ n _ h
  exact ⟨_,h1,a,vs,rfl,.inl (SqL.of h5),by rw [h6.len]; exact q _ H (.refl H) (.int _)⟩
theorem nL:iW X (.builtin "abs") [.int i] (.int (if i < 0 then -i else i)):=dc.mono rW fun vs H Q ⟨O,d,r,q⟩=> by
 obtain ⟨v,rfl,h⟩:=eQ r
 cases h
 exact ⟨i,rfl,q _ H (.refl H) (.int _)⟩
theorem uS (hx:x.items=some xs):ul X (.type "list") [x] xs:=dc.mono jB fun vs H Q ⟨O,d,r,q⟩=> by
 obtain ⟨v,rfl,h⟩:=eQ r
 obtain ⟨a,ws,rfl,h1,h2⟩:=jZ h hx
 exact ⟨a,ws,rfl,mV h1,fun l hl=> q l ws _ (aV hl _) hl aT (h2.same (bO (aV hl _) hl))⟩
def tyU:U→Value
 | .non=> .type "NoneType" | .bl _=> .type "bool" | .int _=> .type "int" | .str _=> .type "str" | .ty _=> .type "type" | .dic=> .type "dict" | .scr _=> .type "list" | .tup _=> .type "tuple" | .lst _=> .type "list"
theorem ay {n:String} (hn:∀ m,x≠.ty m) (h:PySem.W.kitOne X.K (tyU x) (.type n)=some k):iW X (.builtin "isinstance") [x,.ty (.nm n)] (.bl k):=by
 intro pins s σ H vs us Q I r hq
 obtain ⟨O,d,rs,q⟩:=hq
 obtain ⟨v,w,rfl,h1,h2⟩:=fO rs
 cases h2
 obtain ⟨p1,p2,rfl,r1,r2⟩:=mQ r
 cases (show p2=Value.type n from r2)
 have fin:∀ tk,EP X pins σ Q (.bool k) { s with toks:=tk }:=fun tk=> ⟨.bl k,H,I.tok _,rfl,q _ H (.refl H) (.bl _)⟩
 cases h1 with
 | non=> exact cR I r1 .non h fin
 | bl b=> exact cR I r1 (.bl b) h fin
 | int b=> exact cR I r1 (.int b) h fin
 | str b=> exact cR I r1 (.str b) h fin
 | ty m=> exact absurd rfl (hn _)
 | dic e=> exact cR I r1 (.dK (ax _ _ e)) h fin
 | xc e kk=> exact absurd rfl (hn _)
 | scr e hl hh=>
  cases r1
  obtain ⟨its,_,pl,_⟩:=I.list (ax.seq e)
  obtain ⟨o,nn,e1,e2,_⟩:=pl
  exact PySem.W.kia_one PySem.W.kitx_list I.kIn ⟨o,e1,e2⟩ h (fun z=> nomatch z) fin
 | lst e hl hh=> exact cR I r1 (.lst (ax _ _ e)) h fin
 | tup e hl hh=>
  cases r1
  obtain ⟨its,_,pl,_⟩:=I.tuple (ax.tup e)
  obtain ⟨o,e1,e2,_⟩:=pl
  exact PySem.W.kia_one PySem.W.kitx_tuple I.kIn ⟨o,e1,e2⟩ h (fun z=> nomatch z) fin
end
end L2
namespace L2
open PySem PySem.Spec PyProof.Rows
inductive Out where
 | val (u:U) | new (xs:List U) | exc (C:Addr)
def kl (K:PySem.W.Frag) (H0:Hp) (O0:List Addr) (Q:VK) (E:XK):Out→Prop
 | .val u=> ∀ v H',aD H0 H'→Rp K (hid H' O0) v u→Q v H'
 | .new xs=> ∀ a vs H',aD H0 H'→H0 a=none→H' a=some (.lst vs)→Rps K (hid H' (a::O0)) vs xs→Q (.ref a) H'
 | .exc C=> ∀ H',aD H0 H'→E (.ref C) none H'
theorem kl.later {K:PySem.W.Frag} {H0 H1:Hp} {O0:List Addr} {Q:VK} {E:XK} {o:Out} (e:aD H0 H1) (h:kl K H0 O0 Q E o):kl K H1 O0 Q E o:=by
 cases o with
 | val u=> exact fun v H' s r=> h v H' (e.trans s) r
 | new xs=> exact fun a vs H' s n q r=> h a vs H' (e.trans s) (e.free n) q r
 | exc C=> exact fun H' s=> h H' (e.trans s)
structure PD where
 nx:PSt→Prop
 rt:Out→Prop
 bk:PSt→Prop:=fun _=> False
 ct:PSt→Prop:=fun _=> False
structure Lf (K:PySem.W.Frag) (H0:Hp) (O0:List Addr) (E:XK) (D:PD) (D':iH):Prop where
 nx:∀ ps σ H O,Rs K H0 O0 ps σ H O→D.nx ps→D'.nx σ H
 bk:∀ ps σ H O,Rs K H0 O0 ps σ H O→D.bk ps→D'.bk σ H
 ct:∀ ps σ H O,Rs K H0 O0 ps σ H O→D.ct ps→D'.ct σ H
 rt:∀ o,D.rt o→kl K H0 O0 D'.rt E o
def Ws (X:Cx) (H0:Hp) (O0:List Addr) (E:XK) (ss:List Stmt) (D:PD) (ps:PSt):Prop:=PSs X ss fun D' σ H=> Lf X.K H0 O0 E D D'∧∃ O,Rs X.K H0 O0 ps σ H O
def W1 (X:Cx) (H0:Hp) (O0:List Addr) (E:XK) (s:Stmt) (D:PD) (ps:PSt):Prop:=PS X s fun D' σ H=> Lf X.K H0 O0 E D D'∧∃ O,Rs X.K H0 O0 ps σ H O
section
variable {X:Cx} {H0:Hp} {O0:List Addr} {E:XK} {ps ps':PSt} {D:PD} {s:Stmt} {ss body:List Stmt} {a b c e:Expr} {es:List Expr} {pos p:Pos} {u x y:U} {xs ys us:List U} {k:Bool}
theorem aY (h:D.nx ps):Ws X H0 O0 E [] D ps:=PSs.mono gU fun D' σ H ⟨L,O,R⟩=> L.nx ps σ H O R h
theorem af (h:W1 X H0 O0 E s { D with nx:=fun p=> Ws X H0 O0 E ss D p } ps):Ws X H0 O0 E (s::ss) D ps:=by
 have h2:PSs X ss fun D' σ H=> ∃ p,Ws X H0 O0 E ss D p∧Lf X.K H0 O0 E D D'∧∃ O,Rs X.K H0 O0 p σ H O:=fun pins s σ H D' I ⟨p,w,l,r⟩=> w pins s σ H D' I ⟨l,r⟩
 exact PSs.mono (cS h h2) fun D' σ H ⟨L,O,R⟩=> ⟨⟨fun p σ H O R q=> ⟨p,q,L,O,R⟩,L.bk,L.ct,L.rt⟩,O,R⟩
theorem dU (h:Ws X H0 O0 E ss D ps') (hs:SubP ps' ps):Ws X H0 O0 E ss D ps:=PSs.mono h fun D' σ H ⟨L,O,R⟩=> ⟨L,O,R.sub hs⟩
theorem aJ {i:Nat} {x:Str} {pos':Pos} (hN:X.N.Nodup) (hi:X.N[i]?=some x) (hx:Loc X.env.scope x) (he:Ev X H0 O0 ps e u) (h:D.nx (ps.set i (some (.val u)))) (hs:swapsWith e (some (.Name x pos')) pos.line X.env=pure false:=by rfl) (hf:X.fn x=true∨X.env.scope.names.lookup x=some .local:=by first | exact .inl rfl | exact .inr rfl | assumption):
  W1 X H0 O0 E (.Assign [.Name x pos'] e pos) D ps:=PS.mono (jM hN hi hx he hs hf) fun D' σ H ⟨L,O,R⟩=> ⟨O,R,fun v H' s r=> L.nx _ _ _ O ((R.go s).set r) h⟩
theorem qE {i:Nat} {x:Str} {pos':Pos} (hN:X.N.Nodup) (hi:X.N[i]?=some x) (hx:Loc X.env.scope x) (he:EvN X H0 O0 ps e xs) (h:D.nx (ps.set i (some (.own xs)))) (hs:swapsWith e (some (.Name x pos')) pos.line X.env=pure false:=by rfl) (hf:X.fn x=true∨X.env.scope.names.lookup x=some .local:=by first | exact .inl rfl | exact .inr rfl | assumption):
  W1 X H0 O0 E (.Assign [.Name x pos'] e pos) D ps:=PS.mono (jM hN hi hx he hs hf) fun D' σ H ⟨L,O,R⟩=> ⟨O,R,fun a vs H' s n q r=> L.nx _ _ _ _ (R.own s n q r) h⟩
theorem gJ {tb fb:List Stmt} (hc:Tt X H0 O0 ps c k) (h1:k=true→Ws X H0 O0 E tb D ps) (h2:k=false→Ws X H0 O0 E fb D ps):W1 X H0 O0 E (.If c tb fb pos) D ps:=by
 cases k with
 | true=> exact PS.mono (mO hc (h1 rfl) (fun _ _ _ _ _ _ h=> h.elim) (u:=fun _ _ _=> False)) fun D' σ H ⟨L,O,R⟩=> ⟨O,R,fun H' s=> qU ⟨L,O,R.go s⟩⟩
 | false=> exact PS.mono (mO hc (fun _ _ _ _ _ _ h=> h.elim) (h2 rfl) (t:=fun _ _ _=> False)) fun D' σ H ⟨L,O,R⟩=> ⟨O,R,fun H' s=> km ⟨L,O,R.go s⟩⟩
theorem Rs.ret {K:PySem.W.Frag} {σ:St} {H:Hp} {O:List Addr} {v:V} (R:Rs K H0 O0 ps σ H O) (r:Rp K (hid H O) v u):Rp K (hid H O0) v u:=r.same (d8 R.old)
theorem aE (he:Ev X H0 O0 ps e u) (h:D.rt (.val u)):W1 X H0 O0 E (.Return (some e) pos) D ps:=
 PS.mono (qS he) fun D' σ H ⟨L,O,R⟩=> ⟨O,R,fun v H' s r=> L.rt _ h v H' (R.same.trans s) ((R.go s).ret r)⟩
theorem vi (he:EvN X H0 O0 ps e xs) (h:D.rt (.new xs)):W1 X H0 O0 E (.Return (some e) pos) D ps:=
 PS.mono (qS he) fun D' σ H ⟨L,O,R⟩=> ⟨O,R,fun a vs H' s n q r=> L.rt _ h a vs H' (R.same.trans s) (R.same.free n) q (r.same (d8 fun b hb=> by
  rcases List.mem_cons.mp hb with y | y
  ·subst y; exact List.mem_cons_self
  ·exact List.mem_cons_of_mem _ (R.old b y)))⟩
theorem jJ (he:Ev X H0 O0 ps e u) (h:D.nx ps) (hs:swapsWith e none pos.line X.env=pure false:=by rfl):W1 X H0 O0 E (.Expr e pos) D ps:=
 PS.mono (gR he hs) fun D' σ H ⟨L,O,R⟩=> ⟨O,R,fun v H' s r=> L.nx _ _ _ O (R.go s) h⟩
theorem fF (i:Nat) {x:Str} {apos cpos xp:Pos} (hp:ps[i]?=some (some (.own xs))) (ha:Ev X H0 O0 ps e u) (hz:xs.length < sizeLine) (h:D.nx (ps.set i (some (.own (xs++[u])))))
  (hN:X.N[i]?=some x:=by rfl) (hv:Vis X.env.scope x:=by first | exact Or.inl rfl | exact Or.inr (Or.inl rfl) | exact Or.inr (Or.inr rfl)) (hd:(x==("__debug__":Str))=false:=by decide) (hcd:(x==("__classdict__":Str))=false:=by decide)
  (hbase:attributeBase (.Name x xp) "append" X.env (eval (.Name x xp) X.env)=eval (.Name x xp) X.env:=by rfl)
  (hfew:((backTo cpos (starEach [e] X.env)).all (fun x=> !x.1) && (backToKw cpos (keywordEach [] X.env)).all (fun x=> x.1.isSome) && decide ([e].length+([]:List Keyword).length+(if ([]:List Keyword).isEmpty then 0 else 1) < 30))=true:=by rfl)
  (hline:(apos.endLine==cpos.line)=true:=by rfl) (hse:starEach [e] X.env=(false,eval e X.env)::starEach [] X.env:=by rfl) (hplain:(backTo cpos (starEach [] X.env)).any (·.1)=false:=by rfl)
  (hs:swapsWith (.Call (.Attribute (.Name x xp) "append" apos) [e] [] cpos) none pos.line X.env=pure false:=by rfl):W1 X H0 O0 E (.Expr (.Call (.Attribute (.Name x xp) "append" apos) [e] [] cpos) pos) D ps:=
 PS.mono (gR (wj PySem.F.plainAttrs_list PySem.F.slot_list_append PySem.F.type_list_append jd (fg hN hv hd hcd) (cn ha d9 hse) hbase hfew hline hse hplain) hs) fun D' σ H ⟨L,O,R⟩=> by
  obtain ⟨v,h1,a,vs,rfl,h3,h4,h5,h6⟩:=R.at_ i _ hp
  refine ⟨_,h1,.inl ⟨rfl,_,SqL.of h5⟩,O,R,fun w H' s r=> ⟨a,vs,w,rfl,rfl,s _ _ h5,by rw [h6.len]; exact hz,?_⟩⟩
  exact L.nx _ _ _ O ((R.go s).write hp h1 ((h6.same (bb s)).snoc (.cons r .nil))) h
theorem wc (i:Nat) {x:Str} {apos cpos xp:Pos} (hp:ps[i]?=some (some (.own xs))) (hne:xs≠[]) (h:D.nx (ps.set i (some (.own xs.dropLast))))
  (hN:X.N[i]?=some x:=by rfl) (hv:Vis X.env.scope x:=by first | exact Or.inl rfl | exact Or.inr (Or.inl rfl) | exact Or.inr (Or.inr rfl)) (hd:(x==("__debug__":Str))=false:=by decide) (hcd:(x==("__classdict__":Str))=false:=by decide)
  (hbase:attributeBase (.Name x xp) "pop" X.env (eval (.Name x xp) X.env)=eval (.Name x xp) X.env:=by rfl)
  (hline:(apos.endLine==cpos.line)=true:=by rfl)
  (hs:swapsWith (.Call (.Attribute (.Name x xp) "pop" apos) [] [] cpos) none pos.line X.env=pure false:=by rfl):W1 X H0 O0 E (.Expr (.Call (.Attribute (.Name x xp) "pop" apos) [] [] cpos) pos) D ps:=
 PS.mono (gR (vD PySem.F.plainAttrs_list PySem.F.slot_list_pop PySem.F.type_list_pop vH (fg hN hv hd hcd) hbase hline) hs) fun D' σ H ⟨L,O,R⟩=> by
  obtain ⟨v,h1,a,vs,rfl,h3,h4,h5,h6⟩:=R.at_ i _ hp
  have hpos:0 < vs.length:=by rw [h6.len]; exact List.length_pos_iff.mpr hne
  have hlt:vs.length - 1 < vs.length:=by omega
  refine ⟨_,h1,.inl ⟨rfl,_,SqL.of h5⟩,a,vs,vs[vs.length - 1],rfl,rfl,h5,List.getElem?_eq_getElem hlt,?_⟩
  refine L.nx _ _ _ O (R.write hp h1 ⟨by simp [h6.len],fun j v x e1 e2=> ?_⟩) h
  rw [List.getElem?_dropLast] at e1 e2
  split at e1
  ·split at e2
   ·exact h6.at_ j v x e1 e2
   ·cases e2
  ·cases e1
end
end L2
namespace L2
open PySem PySem.Spec PyProof.Rows
def lL:List Nat→TGs
 | []=> wt
 | j::js=> ue (kR j) (lL js)
def setAll:PSt→List Nat→List U→PSt
 | ps,j::js,u::us=> setAll (ps.set j (some (.val u))) js us
 | ps,_,_=> ps
def jt:St→List Nat→List V→St
 | σ,j::js,u::us=> jt (σ.set j (some u)) js us
 | σ,_,_=> σ
theorem Rs.setAll {K:PySem.W.Frag} {H0:Hp} {O0:List Addr} {H:Hp} {O:List Addr}:∀ {js:List Nat} {ps:PSt} {σ:St} {vs:List V} {us:List U},Rs K H0 O0 ps σ H O→Rps K (hid H O) vs us→Rs K H0 O0 (L2.setAll ps js us) (jt σ js vs) H O
 | [],ps,σ,vs,us,R,r=> by cases us <;> cases vs <;> exact R
 | j::js,ps,σ,vs,[],R,r=> by rw [r.nil_inv]; exact R
 | j::js,ps,σ,vs,u::us,R,r=> by
  obtain ⟨v,ws,rfl,h1,h2⟩:=r.cons_inv
  exact Rs.setAll (js:=js) (R.set h1) h2
theorem i7 {Q:St→Hp→Prop} {H:Hp}:∀ {js:List Nat} {σ:St} {vs:List V},vs.length=js.length→Q (jt σ js vs) H→lL js vs σ H Q
 | [],σ,[],_,q=> ⟨rfl,q⟩
 | j::js,σ,v::vs,e,q=> ⟨v,vs,rfl,i7 (js:=js) (by simpa using e) q⟩
 | [],_,_::_,e,_=> by simp at e
 | _::_,_,[],e,_=> by simp at e
def TgS (X:Cx) (H0:Hp) (O0:List Addr) (tg:Expr) (ps:PSt) (u:U) (ps':PSt):Prop:=
 PG X tg fun v σ H Q=> ∃ O,Rs X.K H0 O0 ps σ H O∧Rp X.K (hid H O) v u∧∀ σ' H',aD H H'→Rs X.K H0 O0 ps' σ' H' O→Q σ' H'
theorem PG.mono {X:Cx} {e:Expr} {t t':TG} (h:PG X e t) (m:∀ v σ H Q,t' v σ H Q→t v σ H Q):PG X e t':=fun pins s σ H v u Q I r q=> h pins s σ H v u Q I r (m v σ H Q q)
theorem PI.mono {X:Cx} {tg e:Expr} {t t':TI} (h:PI X tg e t) (m:∀ σ H Q,t' σ H Q→t σ H Q):PI X tg e t':=fun pins s σ H Q I q=> h pins s σ H Q I (m σ H Q q)
def Yl (K:PySem.W.Frag) (J:It) (G:Hp) (xs:List U):Prop:=
 ∀ H2,aD G H2→(∀ i,i < xs.length→J.go i H2∧∀ x H3,J.yld i H2 x H3→H3=H2∧∃ u,xs[i]?=some u∧Rp K G x u)∧J.stop xs.length H2
def EvI (X:Cx) (H0:Hp) (O0:List Addr) (ps:PSt) (tg iter:Expr) (xs:List U):Prop:=
 PI X tg iter fun σ H R=> ∃ O,Rs X.K H0 O0 ps σ H O∧∀ J H',aD H H'→Yl X.K J (hid H' O) xs→R J H'
section
variable {X:Cx} {H0:Hp} {O0:List Addr} {E:XK} {ps ps':PSt} {D:PD} {s:Stmt} {ss body:List Stmt} {a b c e tg iter:Expr} {es:List Expr} {pos p:Pos} {u x y:U} {xs ys us:List U} {k:Bool}
theorem fS {i:Nat} {x:Str} (hN:X.N.Nodup) (hi:X.N[i]?=some x) (hx:Loc X.env.scope x) (hf:X.fn x=true∨X.env.scope.names.lookup x=some .local:=by first | exact .inl rfl | exact .inr rfl | assumption):TgS X H0 O0 (.Name x pos) ps u (ps.set i (some (.val u))):=
 PG.mono (bK hN hi hx hf) fun v σ H Q ⟨O,R,r,q⟩=> q _ H (.refl H) (R.set r)
theorem nN {k:Nat} (js:List Nat) (hc:X.calm=true) (h:PGs X es (lL js)) (hl:us.length=js.length) (hn:(assignEach es X.env).length=js.length:=by rfl) (hst:(assignEach es X.env).findIdx? (·.1)=none:=by rfl):TgS X H0 O0 (.Tuple es k pos) ps (.tup us) (setAll ps js us):=
 PG.mono (uQ hc h hn hst) fun v σ H Q ⟨O,R,r,q⟩=> by
  cases r with
  | tup hq hl' hh=> exact ⟨_,_,rfl,ax.tup hq,hl'.trans hl,i7 (hl'.trans hl) (q _ H (.refl H) (R.setAll ⟨hl',hh⟩))⟩
theorem wU (he:Ev X H0 O0 ps e u) (hg:TgS X H0 O0 tg ps u ps') (h:D.nx ps') (hs:swapsWithSole [tg] e pos.line X.env=pure false:=by rfl) (hw:swappedStores [tg] e X.env=pure none:=by rfl)
  (h1:(assignEach [tg] X.env).map (·.2)=[assign tg X.env]:=by rfl):W1 X H0 O0 E (.Assign [tg] e pos) D ps:=
 PS.mono (vp he hg hs hw h1) fun D' σ H ⟨L,O,R⟩=> ⟨O,R,fun v H1 s1 r1=> ⟨O,R.go s1,r1,fun σ' H2 s2 R2=> L.nx _ _ _ O R2 h⟩⟩
theorem wV {i j:Nat} {x y:Str} {px py pt:Pos} {kt k2 pt2} {u w:U} (hc:X.calm=true) (hN:X.N.Nodup) (hi:X.N[i]?=some x) (hj:X.N[j]?=some y) (hij:i≠j)
  (hx:X.env.scope.names.lookup x=some .local) (hy:X.env.scope.names.lookup y=some .local) (ha:EvA X H0 O0 ps [a,b] [u,w])
  (hw:swappedStores [.Tuple [.Name x px,.Name y py] kt pt] (.Tuple [a,b] k2 pt2) X.env=pure (some [x,y])) (h:D.nx ((ps.set i (some (.val u))).set j (some (.val w))))
  (hs:swapsWithSole [.Tuple [.Name x px,.Name y py] kt pt] (.Tuple [a,b] k2 pt2) pos.line X.env=pure false:=by rfl):
  W1 X H0 O0 E (.Assign [.Tuple [.Name x px,.Name y py] kt pt] (.Tuple [a,b] k2 pt2) pos) D ps:=
 PS.mono (vK hc hN hi hj hij hx hy ha hw hs) fun D' σ H ⟨L,O,R⟩=> ⟨O,R,fun vs H1 s1 r1=> by
  obtain ⟨v,z,rfl,h1,h2⟩:=fO r1
  exact ⟨v,z,rfl,L.nx _ _ _ O (((R.go s1).set h1).set h2) h⟩⟩
theorem fh (he:Ev X H0 O0 ps iter x) (hx:x=.lst xs∨x=.scr xs):EvI X H0 O0 ps tg iter xs:=
 PI.mono (tZ he) fun σ H Q ⟨O,R,q⟩=> ⟨O,R,fun v H' s r=> by
  have key:∃ a vs,v=.ref a∧SqL X.K (hid H' O) a vs∧Rps X.K (hid H' O) vs xs:=by
   rcases hx with rfl | rfl
   ·cases r with
    | lst hq hl hh=> exact ⟨_,_,rfl,SqL.of hq,hl,hh⟩
   ·cases r with
    | scr hq hl hh=> exact ⟨_,_,rfl,hq,hl,hh⟩
  obtain ⟨a,vs,rfl,hq,rs⟩:=key
  refine ⟨a,rfl,⟨vs,ax.seq hq⟩,q _ H' s fun H2 s2=> ⟨fun i hi=> ?_,⟨vs,s2.seq hq,by rw [rs.len]; exact Nat.le_refl _⟩⟩⟩
  have hi':i < vs.length:=by rw [rs.len]; exact hi
  refine ⟨⟨vs,vs[i],s2.seq hq,List.getElem?_eq_getElem hi'⟩,fun z H3 y=> ⟨y.1,xs[i],List.getElem?_eq_getElem hi,rs.at_ i z _ (y.2 vs (s2.seq hq)) (List.getElem?_eq_getElem hi)⟩⟩⟩
theorem uF (he:Ev X H0 O0 ps iter (.tup xs)):EvI X H0 O0 ps tg iter xs:=
 PI.mono (vS he) fun σ H Q ⟨O,R,q⟩=> ⟨O,R,fun v H' s r=> by
  cases r with
  | @tup a vs _ hq hl hh=>
   have rs:Rps X.K (hid H' O) vs xs:=⟨hl,hh⟩
   refine ⟨a,rfl,⟨vs,ax.tup hq⟩,q _ H' s fun H2 s2=> ⟨fun i hi=> ?_,⟨vs,s2.tup hq,by rw [rs.len]; exact Nat.le_refl _⟩⟩⟩
   have hi':i < vs.length:=by rw [rs.len]; exact hi
   refine ⟨⟨vs,vs[i],s2.tup hq,List.getElem?_eq_getElem hi'⟩,fun z H3 y=> ⟨y.1,xs[i],List.getElem?_eq_getElem hi,rs.at_ i z _ (y.2 vs (s2.tup hq)) (List.getElem?_eq_getElem hi)⟩⟩⟩
def fm (lo:Int) (n:Nat):List U:=(List.range n).map fun (i:Nat)=> U.int (lo+(i:Int))
theorem fv {lo:Int} {n:Nat}:(fm lo n).length=n:=by simp [fm]
theorem i8 {lo:Int} {n i:Nat} (h:i < n):(fm lo n)[i]?=some (.int (lo+(i:Int))):=by
 unfold fm
 rw [List.getElem?_map,List.getElem?_range h]; rfl
theorem iA {lo:Int} {n i:Nat} {x:U} (h:(fm lo n)[i]?=some x):i < n∧x=.int (lo+(i:Int)):=by
 have hi:=aM h
 rw [fv] at hi
 rw [i8 hi] at h
 exact ⟨hi,(Option.some.inj h).symm⟩
theorem qa {K:PySem.W.Frag} {G:Hp} {lo:Int} {n:Nat}:Yl K (Itr lo n) G (fm lo n):=fun H2 s2=> by
 rw [fv]
 refine ⟨fun i hi=> ⟨hi,fun z H3 y=> ⟨y.1,_,i8 hi,?_⟩⟩,Nat.le_refl _⟩
 rw [y.2]; exact .int _
theorem kT {j:Int} (hg:Gl X "range") (hm:X.mg "range"=none) (ha:EvA X H0 O0 ps [a] [.int j]) (h1:-(2 ^ 62)≤j) (h2:j < 2 ^ 62) (hs:starEach [a] X.env=[(false,eval a X.env)]:=by rfl):EvI X H0 O0 ps tg (.Call (.Name "range" p) [a] [] pos) (fm 0 j.toNat):=
 PI.mono (oQ hg hm ha hs) fun σ H Q ⟨O,R,q⟩=> ⟨O,R,fun vs H' s r=> by
  obtain ⟨v,rfl,h⟩:=eQ r
  cases h
  exact ⟨j,rfl,h1,h2,q _ H' s qa⟩⟩
def eS (lo c:Int) (n:Nat):List U:=(List.range n).map fun (i:Nat)=> U.int (lo+(i:Int) * c)
theorem d0 {lo c:Int} {n:Nat}:(eS lo c n).length=n:=by simp [eS]
theorem h9 {lo c:Int} {n i:Nat} (h:i < n):(eS lo c n)[i]?=some (.int (lo+(i:Int) * c)):=by
 unfold eS
 rw [List.getElem?_map,List.getElem?_range h]; rfl
theorem kq {lo c:Int} {n i:Nat} {x:U} (h:(eS lo c n)[i]?=some x):i < n∧x=.int (lo+(i:Int) * c):=by
 have hi:=aM h
 rw [d0] at hi
 rw [h9 hi] at h
 exact ⟨hi,(Option.some.inj h).symm⟩
theorem pG {i j m:Int} (hg:Gl X "range") (hm:X.mg "range"=none) (ha:EvA X H0 O0 ps [a,b,c] [.int i,.int j,.int m]) (h:-(2 ^ 60)≤i∧i < 2 ^ 60∧-(2 ^ 60)≤j∧j < 2 ^ 60∧0 < m∧m < 2 ^ 30) (hs:starEach [a,b,c] X.env=[(false,eval a X.env),(false,eval b X.env),(false,eval c X.env)]:=by rfl)
  (hs2:starEach [b,c] X.env=[(false,eval b X.env),(false,eval c X.env)]:=by rfl):
  EvI X H0 O0 ps tg (.Call (.Name "range" p) [a,b,c] [] pos) (eS i m (dP i j m)):=
 PI.mono (oZ hg hm ha hs hs2) fun σ H Q ⟨O,R,q⟩=> ⟨O,R,fun vs H' s r=> by
  obtain ⟨v,ws,rfl,k1,k2⟩:=r.cons_inv
  obtain ⟨w,z,rfl,k2,k3⟩:=fO k2
  cases k1; cases k2; cases k3
  refine ⟨i,j,m,rfl,h,q _ H' s fun H2 s2=> ?_⟩
  rw [d0]
  refine ⟨fun i hi=> ⟨hi,fun z H3 y=> ⟨y.1,_,h9 hi,?_⟩⟩,Nat.le_refl _⟩
  rw [y.2]; exact .int _⟩
theorem Rs.rebase {K:PySem.W.Frag} {σ:St} {H:Hp} {O:List Addr} (R:Rs K H0 O0 ps σ H O):Rs K (hid H (O.filter fun a=> decide (a ∉ O0))) O0 ps σ H O:=
 ⟨ax,R.old,fun a ha=> by
  by_cases h:a∈O0
  ·exact .inl h
  ·right; unfold hid; rw [if_pos (List.mem_filter.mpr ⟨ha,by simpa using h⟩)],R.dom,R.len,R.at_,R.inj⟩
theorem Rs.base {K:PySem.W.Frag} {σ:St} {H:Hp} {O:List Addr} (R:Rs K H0 O0 ps σ H O):aD H0 (hid H (O.filter fun a=> decide (a ∉ O0))):=fun b o h=> by
 refine cU (R.same b o h) fun z=> ?_
 obtain ⟨z1,z2⟩:=List.mem_filter.mp z
 rcases R.new b z1 with y | y
 ·simp [y] at z2
 ·rw [h] at y; cases y
theorem Rs.unbase {K:PySem.W.Frag} {H1:Hp} {σ:St} {H:Hp} {O:List Addr} (e:aD H0 H1) (R:Rs K H1 O0 ps σ H O):Rs K H0 O0 ps σ H O:=
 ⟨e.trans R.same,R.old,fun a ha=> (R.new a ha).imp id fun z=> e.free z,R.dom,R.len,R.at_,R.inj⟩
theorem Rs.seen {K:PySem.W.Frag} {ps2:PSt} {σ σ2:St} {H H2:Hp} {O O2:List Addr} (R:Rs K H0 O0 ps σ H O) (R2:Rs K (hid H (O.filter fun a=> decide (a ∉ O0))) O0 ps2 σ2 H2 O2):aD (hid H O) (hid H2 O2):=fun b o h=> by
 obtain ⟨h1,h2⟩:=ft h
 have h3:hid H (O.filter fun a=> decide (a ∉ O0)) b=some o:=cU h1 fun z=> h2 (List.mem_filter.mp z).1
 refine cU (R2.same b o h3) fun z=> ?_
 rcases R2.new b z with y | y
 ·exact h2 (R.old b y)
 ·rw [h3] at y; cases y
theorem wF (hc:X.calm=true) (hp:PassesOwn (model X.prog X.w) X.A X.env X.xe) (hi:EvI X H0 O0 ps tg iter xs) (Iv:Nat→PSt→Prop) (h0:Iv 0 ps)
  (hs:∀ (H0:Hp) (i:Nat) (x:U) (ps:PSt),xs[i]?=some x→Iv i ps→∃ ps',TgS X H0 O0 tg ps x ps'∧Ws X H0 O0 E body { D with nx:=Iv (i+1),ct:=Iv (i+1),bk:=D.nx } ps') (hd:∀ ps,Iv xs.length ps→D.nx ps)
  (hf:∀ x,foldedSetIterable iter X.env x=pure x:=by intro _; rfl):W1 X H0 O0 E (.For tg iter body [] pos) D ps:=by
 have hg:PG X tg fun v σ H Q=> ∃ H1 ps u ps',TgS X H1 O0 tg ps u ps'∧∃ O,Rs X.K H1 O0 ps σ H O∧Rp X.K (hid H O) v u∧∀ σ' H',aD H H'→Rs X.K H1 O0 ps' σ' H' O→Q σ' H':=
  fun pins s σ H v u Q I r ⟨H1,ps,w,ps',t,z⟩=> t pins s σ H v u Q I r z
 have hb:PSs X body fun D' σ H=> ∃ H1 D1 ps',Ws X H1 O0 E body D1 ps'∧Lf X.K H1 O0 E D1 D'∧∃ O,Rs X.K H1 O0 ps' σ H O:=fun pins s σ H D' I ⟨H1,D1,ps',w,z⟩=> w pins s σ H D' I z
 refine PS.mono (lC hp hc hi hg hb hf) fun D' σ H ⟨L,O,R⟩=> ⟨O,R,fun J H1 s1 Y=> ?_⟩
 have R1:=R.go s1
 have base:=R1.base
 refine ⟨fun i m σ H=> m=xs.length - i∧i≤xs.length∧∃ ps O',Iv i ps∧Rs X.K (hid H1 (O.filter fun a=> decide (a ∉ O0))) O0 ps σ H O',⟨_,rfl,Nat.zero_le _,ps,O,h0,R1.rebase⟩,?_⟩
 rintro i m σ2 H2 ⟨rfl,hi2,ps2,O2,iv,R2⟩
 have seen:=R1.seen R2
 obtain ⟨y1,y2⟩:=Y H2 (seen.trans ax)
 by_cases hlt:i < xs.length
 ·obtain ⟨g1,g2⟩:=y1 i hlt
  refine .inr ⟨g1,fun σ' H'=> ∃ ps O',Iv (i+1) ps∧Rs X.K (hid H1 (O.filter fun a=> decide (a ∉ O0))) O0 ps σ' H' O',fun σ' H' z=> ⟨xs.length - (i+1),by omega,rfl,hlt,z⟩,fun x H3 y=> ?_⟩
  obtain ⟨rfl,u,hu,r⟩:=g2 x H3 y
  obtain ⟨ps',t,w⟩:=hs (hid H1 (O.filter fun a=> decide (a ∉ O0))) i u ps2 hu iv
  refine ⟨_,ps2,u,ps',t,O2,R2,r.same seen,fun σ' H' s' R'=> ⟨_,_,ps',w,?_,O2,R'⟩⟩
  exact ⟨fun p σ H O R q=> ⟨p,O,q,R⟩,fun p σ H O R q=> L.nx _ _ _ _ (R.unbase base) q,fun p σ H O R q=> ⟨p,O,q,R⟩,fun o q=> (L.rt o q).later base⟩
 ·have e:i=xs.length:=by omega
  subst e
  exact .inl ⟨y2,L.nx _ _ _ _ (R2.unbase base) (hd ps2 iv)⟩
theorem sk (hp:PassesOwn (model X.prog X.w) X.A X.env X.xe) (Iv:Nat→PSt→Prop) (m:Nat) (h0:Iv m ps)
  (hs:∀ m ps,Iv m ps→∃ b,Tt X H0 O0 ps c b∧(b=true→Ws X H0 O0 E body { D with nx:=fun p=> ∃ m',m' < m∧Iv m' p,ct:=fun p=> ∃ m',m' < m∧Iv m' p,bk:=D.nx } ps)∧(b=false→D.nx ps)):W1 X H0 O0 E (.While c body [] pos) D ps:=by
 have ht:PT X c fun σ H Q=> ∃ ps b,Tt X H0 O0 ps c b∧∃ O,Rs X.K H0 O0 ps σ H O∧∀ H',aD H H'→Q b H':=fun pins s σ H Q I ⟨ps,b,t,z⟩=> t pins s σ H Q I z
 have hb:PSs X body fun D' σ H=> ∃ D1 ps',Ws X H0 O0 E body D1 ps'∧Lf X.K H0 O0 E D1 D'∧∃ O,Rs X.K H0 O0 ps' σ H O:=fun pins s σ H D' I ⟨D1,ps',w,z⟩=> w pins s σ H D' I z
 refine PS.mono (rk hp ht hb) fun D' σ H ⟨L,O,R⟩=> ⟨fun m σ H=> ∃ ps O,Iv m ps∧Rs X.K H0 O0 ps σ H O,⟨m,ps,O,h0,R⟩,?_⟩
 rintro m σ2 H2 ⟨ps2,O2,iv,R2⟩
 obtain ⟨b,t,h1,h2⟩:=hs m ps2 iv
 refine ⟨ps2,b,t,O2,R2,fun H3 s3=> ?_⟩
 cases b with
 | true=>
  refine qU ⟨fun σ H=> ∃ m',m' < m∧∃ ps O,Iv m' ps∧Rs X.K H0 O0 ps σ H O,fun σ' H' z=> z,_,ps2,h1 rfl,?_,O2,R2.go s3⟩
  exact ⟨fun p σ H O R ⟨m',l,q⟩=> ⟨m',l,p,O,q,R⟩,fun p σ H O R q=> L.nx _ _ _ _ R q,fun p σ H O R ⟨m',l,q⟩=> ⟨m',l,p,O,q,R⟩,L.rt⟩
 | false=> exact km (L.nx _ _ _ _ (R2.go s3) (h2 rfl))
def g9:List Nat→PSt→PSt
 | [],ps=> ps
 | i::is,ps=> g9 is (ps.set i none)
theorem Rs.mask {K:PySem.W.Frag} {H:Hp} {O:List Addr}:∀ {is:List Nat} {ps:PSt} {σ:St},Rs K H0 O0 ps σ H O→Rs K H0 O0 (g9 is ps) (L2.mask is σ) H O
 | [],ps,σ,R=> R
 | i::is,ps,σ,R=> Rs.mask (is:=is) (R.drop (i:=i) (o:=none))
theorem Rs.hide {K:PySem.W.Frag} {σ:St} {H H':Hp} {O:List Addr} {l:Addr} (R:Rs K H0 O0 ps σ H O) (e:aD H H') (n:H l=none) (d:H' l≠none):Rs K H0 O0 ps σ H' (l::O):=by
 refine ⟨R.same.trans e,fun a ha=> List.mem_cons_of_mem _ (R.old a ha),fun a ha=> ?_,fun a ha z=> ?_,R.len,fun i s h=> ?_,R.inj⟩
 ·rcases List.mem_cons.mp ha with y | y
  ·subst y; exact .inr (R.same.free n)
  ·exact R.new a y
 ·rcases List.mem_cons.mp ha with y | y
  ·subst y; exact d z
  ·exact R.dom a y (e.free z)
 ·obtain ⟨w,h1,h2⟩:=R.at_ i s h
  refine ⟨w,h1,?_⟩
  cases s with
  | val u=> exact Rp.same (bO e n) h2
  | own ys=>
   obtain ⟨b,ws,k1,k2,k3,k4,k5⟩:=h2
   exact ⟨b,ws,k1,List.mem_cons_of_mem _ k2,k3,e _ _ k4,k5.same (bO e n)⟩
  | pin z u=> exact ⟨h2.1,Rp.same (bO e n) h2.2⟩
def GOk (g:TG) (K:PySem.W.Frag) (is:List Nat) (f:PSt→U→PSt) (dom:U→Prop):Prop:=
 ∀ (H0:Hp) (O0:List Addr) (ps:PSt) (σ:St) (H:Hp) (O:List Addr) (v:V) (u:U) (Q:St→Hp→Prop),dom u→Rs K H0 O0 ps σ H O→Rp K (hid H O) v u→
  (∀ σ',Rs K H0 O0 (f ps u) σ' H O→(∀ (n:Nat) (w:V),n ∉ is→σ[n]?=some (some w)→σ'[n]?=some (some w))→Q σ' H)→g v σ H Q
theorem fC {K:PySem.W.Frag} {is:List Nat} {i:Nat} (h:i∈is):GOk (kR i) K is (fun ps u=> ps.set i (some (.val u))) fun _=> True:=fun H0 O0 ps σ H O v u Q _ R r q=>
 q _ (R.set r) fun n w hn e=> by rw [List.getElem?_set_ne (fun z=> hn (by rw [← z]; exact h))]; exact e
theorem iX {is:List Nat} {g:TG} {f:PSt→U→PSt} {dom:U→Prop} {σ:St} {H1:Hp} {O:List Addr} {Q:VK} {J:It} {te:TE} (hg:GOk g X.K is f dom) (R1:Rs X.K H0 O0 ps σ H1 O) (Y:Yl X.K J (hid H1 O) xs) (hlen:ys.length=xs.length) (hz:xs.length≤sizeLine) (hdom:∀ x∈xs,dom x)
  (hte:∀ (i:Nat) (x y:U) (σ:St) (H:Hp) (O':List Addr) (Q:VK),xs[i]?=some x→ys[i]?=some y→Rs X.K H0 O0 (f (g9 is ps) x) σ H O'→(∀ v H',aD H H'→Rp X.K (hid H' O') v y→Q v H')→te σ H Q)
  (fin:∀ a vs H',aD H1 H'→H1 a=none→H' a=some (.lst vs)→Rps X.K (hid H' (a::O)) vs ys→Q (.ref a) H'):uh is g te σ Q J H1:=by
 intro l hl
 refine ⟨fun i m H2=> m=xs.length - i∧i≤xs.length∧aD H1 H2∧∃ vs,H2 l=some (.lst vs)∧vs.length=i∧Rps X.K (hid H2 (l::O)) vs (ys.take i),⟨_,rfl,Nat.zero_le _,aV hl _,[],aT,rfl,by rw [List.take_zero]; exact .nil⟩,?_⟩
 rintro i m H2 ⟨rfl,hi,s2,vs,h2,hv,rs⟩
 have seen:aD (hid H1 O) (hid H2 (l::O)):=bO s2 hl
 obtain ⟨y1,y2⟩:=Y H2 (seen.trans ax)
 by_cases hlt:i < xs.length
 ·obtain ⟨g1,g2⟩:=y1 i hlt
  refine .inr ⟨g1,fun x H3 y=> ?_⟩
  obtain ⟨rfl,u,hu,r⟩:=g2 x H3 y
  have R2:=(R1.mask (is:=is)).hide s2 hl (by rw [h2]; intro z; cases z)
  refine hg H0 O0 _ _ H3 (l::O) x u _ (hdom u (List.mem_of_getElem? hu)) R2 (r.same seen) fun σ4 R4 keep=> ?_
  have hy:ys[i]?=some (ys[i]'(by omega)):=List.getElem?_eq_getElem _
  refine hte i u _ σ4 H3 (l::O) _ hu hy R4 fun v H5 s5 r5=> ⟨fun j w e=> keep j w (il is σ j w e).2 e,vs,s5 _ _ h2,?_,xs.length - (i+1),by omega,rfl,hlt,(s2.trans s5).put hl _,vs++[v],aT,by simp [hv],?_⟩
  ·rw [hv]; omega
  ·rw [jP List.mem_cons_self,List.take_succ,hy]
   exact (rs.same (bb s5)).snoc (.cons r5 .nil)
 ·have e:i=xs.length:=by omega
  subst e
  rw [← hlen,List.take_length] at rs
  exact .inl ⟨y2,fin l vs H2 s2 hl h2 rs⟩
theorem mD {elt:Expr} {scope:Scope} {cl:List (Str×Addr)} {is:List Nat} {g:TG} {f:PSt→U→PSt} {dom:U→Prop} (hc:X.calm=true) (B:dE X scope cl is) (hi:EvI X H0 O0 ps tg iter xs) (hg:∀ C s H fp,PG (bi X scope cl C s H fp) tg g) (gk:GOk g X.K is f dom)
  (hlen:ys.length=xs.length) (hz:xs.length≤sizeLine) (hdom:∀ x∈xs,dom x) (he:∀ C s H fp (i:Nat) (x y:U),xs[i]?=some x→ys[i]?=some y→Ev (bi X scope cl C s H fp) H0 O0 (f (g9 is ps) x) elt y)
  (hs:∀ x,foldedSetIterable iter X.env x=pure x:=by intro _; rfl):EvN X H0 O0 ps (.ListComp elt [⟨tg,iter,[],0⟩] scope pos) ys:=by
 have hte:∀ C s H fp,PE (bi X scope cl C s H fp) elt fun σ H Q=> ∃ i x y,xs[i]?=some x∧ys[i]?=some y∧∃ O',Rs X.K H0 O0 (f (g9 is ps) x) σ H O'∧∀ v H',aD H H'→Rp X.K (hid H' O') v y→Q v H':=
  fun C s H fp pins s' σ H' Q I ⟨i,x,y,h1,h2,z⟩=> he C s H fp i x y h1 h2 pins s' σ H' Q I z
 refine PE.mono (sr hc B hi hg hte hs) fun σ H Q ⟨O,R,q⟩=> ⟨O,R,fun J H1 s1 Y=> ?_⟩
 exact iX gk (R.go s1) Y hlen hz hdom (fun i x y σ H O' Q h1 h2 R' z=> ⟨i,x,y,h1,h2,O',R',z⟩) fun a vs H' s n h r=> q a vs H' (s1.trans s) (s1.free n) h r
theorem oW {elt:Expr} {scope:Scope} {cl:List (Str×Addr)} {spos py:Pos} {y:Str} {j:Nat} {is:List Nat} {g:TG} {f:PSt→U→PSt} {dom:U→Prop} (own:Bool) (hc:X.calm=true) (hN:X.N.Nodup) (hj:X.N[j]?=some y) (hy:Loc X.env.scope y) (B:dE X scope cl is)
  (hi:EvI X H0 O0 ps tg iter xs) (hg:∀ C s H fp,PG (bi X scope cl C s H fp) tg g) (gk:GOk g X.K is f dom) (hlen:ys.length=xs.length) (hz:xs.length≤sizeLine) (hdom:∀ x∈xs,dom x)
  (he:∀ C s H fp (i:Nat) (x y:U),xs[i]?=some x→ys[i]?=some y→Ev (bi X scope cl C s H fp) H0 O0 (f (g9 is ps) x) elt y) (h:D.nx (ps.set j (some (if own then .own ys else .val (.lst ys)))))
  (hs:∀ x,foldedSetIterable iter X.env x=pure x:=by intro _; rfl)
  (hsw:swapsWith (.ListComp elt [⟨tg,iter,[],0⟩] scope pos) (some (.Name y py)) spos.line X.env=pure true:=by rfl) (hf:X.fn y=true∨X.env.scope.names.lookup y=some .local:=by first | exact .inl rfl | exact .inr rfl | assumption):
  W1 X H0 O0 E (.Assign [.Name y py] (.ListComp elt [⟨tg,iter,[],0⟩] scope pos) spos) D ps:=by
 have hte:∀ C s H fp,PE (bi X scope cl C s H fp) elt fun σ H Q=> ∃ i x y,xs[i]?=some x∧ys[i]?=some y∧∃ O',Rs X.K H0 O0 (f (g9 is ps) x) σ H O'∧∀ v H',aD H H'→Rp X.K (hid H' O') v y→Q v H':=
  fun C s H fp pins s' σ H' Q I ⟨i,x,y,h1,h2,z⟩=> he C s H fp i x y h1 h2 pins s' σ H' Q I z
 refine PS.mono (lD hc hN hj hy B hi hg hte hs hsw hf) fun D' σ H ⟨L,O,R⟩=> ⟨O,R,fun J H1 s1 Y=> ?_⟩
 refine iX gk (R.go s1) Y hlen hz hdom (fun i x y σ H O' Q h1 h2 R' z=> ⟨i,x,y,h1,h2,O',R',z⟩) fun a vs H' s n h' r=> ?_
 cases own with
 | true=> exact L.nx _ _ _ _ ((R.go s1).own s n h' r) h
 | false=>
  have na:a ∉ O:=fun z=> (R.go s1).dom a z n
  have r':=r.same (d8 fun b hb=> List.mem_cons_of_mem a hb)
  exact L.nx _ _ _ _ (((R.go s1).go s).set (.lst (cU h' na) r'.len r'.at_)) h
end
end L2
namespace L2
open PySem PySem.Spec PyProof.Rows
def spU (K:PySem.W.Frag) (spec:List U→Out→Prop):Sp:=fun vs H Q E=> ∃ us O o,(∀ a∈O,H a≠none)∧Rps K (hid H O) vs us∧spec us o∧kl K H O Q E o
section
variable {X:Cx} {H0:Hp} {O0:List Addr} {E:XK} {ps ps':PSt} {D:PD} {s:Stmt} {ss body:List Stmt} {a b c e:Expr} {es:List Expr} {pos p:Pos} {u x y:U} {xs ys us:List U} {k:Bool}
 {CX:CXT} {n:Nat} {f C:Addr} {fd:FuncData} {pn:List Str} {spec:List U→Out→Prop} {nm:Str}
theorem av (F:bB X.prog X.w X.K X.mg X.base CX n f fd pn (spU X.K spec)) (hr:cY n X.A) (hg:Gl X nm) (hm:X.mg nm=some (.ref f)) (hk:PySem.W.keepIn X.K (.ref f)=true) (hb:a_ X.K fd pn []) (hx:fo CX X E0)
  (ha:EvA X H0 O0 ps (e::es) us) (h:spec us (.val u)) (hdb:(nm==("__debug__":Str))=false:=by decide) (he:starEach (e::es) X.env=(false,eval e X.env)::starEach es X.env:=by rfl) (hpl:(backTo pos (starEach es X.env)).any (·.1)=false:=by rfl):
  Ev X H0 O0 ps (.Call (.Name nm p) (e::es) [] pos) u:=
 PE.mono (jX F hr hg hm hk hb .nil hx ha hdb he hpl) fun σ H Q ⟨O,R,q⟩=> ⟨O,R,fun vs H1 s1 r1=> by
  show spU X.K spec (vs++[]) H1 Q _
  rw [List.append_nil]
  exact ⟨us,O,.val u,(R.go s1).dom,r1,h,fun v H2 s2 r2=> q v H2 (s1.trans s2) r2⟩⟩
theorem v8 (F:bB X.prog X.w X.K X.mg X.base CX n f fd pn (spU X.K spec)) (hr:cY n X.A) (hg:Gl X nm) (hm:X.mg nm=some (.ref f)) (hk:PySem.W.keepIn X.K (.ref f)=true) (hb:a_ X.K fd pn []) (hx:fo CX X E0)
  (ha:EvA X H0 O0 ps (e::es) us) (h:spec us (.new xs)) (hdb:(nm==("__debug__":Str))=false:=by decide) (he:starEach (e::es) X.env=(false,eval e X.env)::starEach es X.env:=by rfl) (hpl:(backTo pos (starEach es X.env)).any (·.1)=false:=by rfl):
  EvN X H0 O0 ps (.Call (.Name nm p) (e::es) [] pos) xs:=
 PE.mono (jX F hr hg hm hk hb .nil hx ha hdb he hpl) fun σ H Q ⟨O,R,q⟩=> ⟨O,R,fun vs H1 s1 r1=> by
  show spU X.K spec (vs++[]) H1 Q _
  rw [List.append_nil]
  exact ⟨us,O,.new xs,(R.go s1).dom,r1,h,fun a vs H2 s2 n2 h2 r2=> q a vs H2 (s1.trans s2) (s1.free n2) h2 r2⟩⟩
def Xv (X:Cx) (H0:Hp) (O0:List Addr) (E:XK) (ps:PSt) (e:Expr) (C:Addr):Prop:=PE X e fun σ H _=> ∃ O,Rs X.K H0 O0 ps σ H O∧∀ H',aD H H'→E (.ref C) none H'
theorem lv (F:bB X.prog X.w X.K X.mg X.base CX n f fd pn (spU X.K spec)) (hr:cY n X.A) (hg:Gl X nm) (hm:X.mg nm=some (.ref f)) (hk:PySem.W.keepIn X.K (.ref f)=true) (hb:a_ X.K fd pn []) (hx:fo CX X E)
  (ha:EvA X H0 O0 ps (e::es) us) (h:spec us (.exc C)) (hdb:(nm==("__debug__":Str))=false:=by decide) (he:starEach (e::es) X.env=(false,eval e X.env)::starEach es X.env:=by rfl) (hpl:(backTo pos (starEach es X.env)).any (·.1)=false:=by rfl):
  Xv X H0 O0 E ps (.Call (.Name nm p) (e::es) [] pos) C:=
 PE.mono (jX F hr hg hm hk hb .nil hx ha hdb he hpl) fun σ H Q ⟨O,R,q⟩=> ⟨O,R,fun vs H1 s1 r1=> by
  show spU X.K spec (vs++[]) H1 Q _
  rw [List.append_nil]
  exact ⟨us,O,.exc C,(R.go s1).dom,r1,h,fun H2 s2=> q H2 (s1.trans s2)⟩⟩
theorem j4 (he:Xv X H0 O0 E ps e C) (h:D.rt (.exc C)) (hs:swapsWith e none pos.line X.env=pure false:=by rfl):W1 X H0 O0 E (.Expr e pos) D ps:=
 PS.mono (gR he hs) fun D' σ H ⟨L,O,R⟩=> ⟨O,R,fun H' s=> L.rt _ h H' (R.same.trans s)⟩
end
section
variable {P:Program} {w:World} {K:PySem.W.Frag} {mg:Str→Option Value} {base:Heap} {N pn:List Str} {qual nm:Str} {scope:Scope} {f:Addr} {cd:Value} {A:Around} {outer:List Env} {s:Shared} {H H0:Hp} {O0:List Addr} {E:XK} {D:PD} {ps:PSt} {u:U}
theorem jL {x:Str} {C:Addr} {e0:Expr} {np cpos pos:Pos} (hex:PySem.W.excIn K C [.type "ValueError",.type "Exception",.type "BaseException",.type "object"] "ValueError.__new__"=true)
  (hg:Gl (dj (CXF P w) P w K mg base N qual scope f cd A outer s H E) x) (hm:mg x=some (.ref C)) (he:Ev (dj (CXF P w) P w K mg base N qual scope f cd A outer s H E) H0 O0 ps e0 u) (h:D.rt (.exc C))
  (hst:starEach [e0] (dj (CXF P w) P w K mg base N qual scope f cd A outer s H E).env=[(false,eval e0 (dj (CXF P w) P w K mg base N qual scope f cd A outer s H E).env)]:=by rfl) (hd:(x==("__debug__":Str))=false:=by decide):
  W1 (dj (CXF P w) P w K mg base N qual scope f cd A outer s H E) H0 O0 E (.Raise (some (.Call (.Name x np) [e0] [] cpos)) none pos) D ps:=
 PS.mono (rf hex hg hm he hst hd) fun D' σ H ⟨L,O,R⟩=> ⟨O,R,fun v H' s r=> L.rt _ h H' (R.same.trans s)⟩
def j7 (N:List Str) (us:List U):PSt:=us.map (fun u=> some (.val u))++List.replicate (N.length - us.length) none
theorem bM {st:Stmt} {fd:FuncData} {k:Nat} {spec:List U→Out→Prop} (F:Fun K nm qual st f fd) (S:aH N pn (aj st)) (len:∀ us o,spec us o→us.length=pn.length)
  (hbody:∀ (cdv:Value) (A:Around) (outer:List Env) (s:Shared) (H:Hp) (E:XK) (O:List Addr) (us:List U) (o:Out),cY k (A.deeper (envOfC qual (aj st) s.heap.objs.size f cdv))→spec us o→
   Ws (dj (CXF P w) P w K mg base N qual (aj st) f cdv A outer s H E) H O E (aA st) ⟨fun _=> o=.val .non,fun o'=> o'=o,fun _=> False,fun _=> False⟩ (j7 N us)):bB P w K mg base (CXF P w) (k+1) f fd pn (spU K spec):=by
 refine F.okF S (fun vs H Q E h=> ?_) fun cdv A outer s H vs Q E hr h=> ?_
 ·obtain ⟨us,O,o,_,r,hsp,_⟩:=h
  rw [r.len]; exact len us o hsp
 ·obtain ⟨us,O,o,d,r,hsp,q⟩:=h
  refine ⟨_,hbody cdv A outer s H E O us o hr hsp,⟨fun ps σ H' O' R e=> ?_,fun _ _ _ _ _ e=> e.elim,fun _ _ _ _ _ e=> e.elim,fun o' e=> by subst e; exact q⟩,O,?_⟩
  ·subst e; exact q .non H' R.same .non
  ·refine ⟨.refl H,fun a h=> h,fun a h=> .inl h,d,?_,fun i sl e=> ?_,fun i j xs ys a e1 e2 _ _=> ?_⟩
   ·unfold start j7
    rw [List.length_append,List.length_append,List.length_map,List.length_map,List.length_replicate,List.length_replicate,r.len]
   ·unfold j7 at e
    by_cases hi:i < us.length
    ·rw [List.getElem?_append_left (by simpa using hi),List.getElem?_map,List.getElem?_eq_getElem hi] at e
     cases e
     obtain ⟨v,h1,h2⟩:=r.get (List.getElem?_eq_getElem hi)
     refine ⟨v,?_,h2⟩
     unfold start
     rw [List.getElem?_append_left (by simpa [r.len] using hi),List.getElem?_map,h1]; rfl
    ·rw [List.getElem?_append_right (by simpa using hi),List.getElem?_replicate] at e
     split at e <;> cases e
   ·exfalso
    unfold j7 at e1
    by_cases hi:i < us.length
    ·rw [List.getElem?_append_left (by simpa using hi),List.getElem?_map,List.getElem?_eq_getElem hi] at e1
     cases e1
    ·rw [List.getElem?_append_right (by simpa using hi),List.getElem?_replicate] at e1
     split at e1 <;> cases e1
end
section
variable {X:Cx} {H0:Hp} {O0:List Addr} {ps:PSt} {a b c e:Expr} {es rest:List Expr} {pos p p2:Pos} {u x y:U} {xs ys us:List U} {i j:Int} {k m:Bool} {lo hi:Option Expr} {l h:Option Int}
def EvO (X:Cx) (H0:Hp) (O0:List Addr) (ps:PSt) (e:Option Expr) (n:Option Int):Prop:=PO X e fun σ H Q=> ∃ O,Rs X.K H0 O0 ps σ H O∧∀ H',aD H H'→Q n H'
theorem fQ:EvO X H0 O0 ps none none:=fun pins s σ H Q I ⟨O,R,q⟩=> r_ pins s σ H Q I (q H (.refl H))
theorem d7 (he:Ev X H0 O0 ps e (.int i)):EvO X H0 O0 ps (some e) (some i):=fun pins s σ H Q I ⟨O,R,q⟩=> t9 he pins s σ H Q I ⟨O,R,fun v H' s r=> by cases r; exact ⟨i,rfl,q H' s⟩⟩
def dI (xs:List U) (lo hi:Option Int):List U:=(xs.drop (HT.sIx xs.length 0 lo)).take (HT.sIx xs.length xs.length hi - HT.sIx xs.length 0 lo)
theorem Rps.drop {K:PySem.W.Frag} {H:Hp} {vs:List V} {xs:List U} (r:Rps K H vs xs) (n:Nat):Rps K H (vs.drop n) (xs.drop n):=⟨by simp [r.len],fun i v x h1 h2=> r.at_ _ v x (by rwa [List.getElem?_drop] at h1) (by rwa [List.getElem?_drop] at h2)⟩
theorem Rps.take {K:PySem.W.Frag} {H:Hp} {vs:List V} {xs:List U} (r:Rps K H vs xs) (n:Nat):Rps K H (vs.take n) (xs.take n):=⟨by simp [r.len],fun i v x h1 h2=> by
 by_cases hn:i < n
 ·rw [List.getElem?_take_of_lt hn] at h1 h2
  exact r.at_ i v x h1 h2
 ·rw [List.getElem?_take_eq_none (by omega)] at h1
  cases h1⟩
theorem Rps.cut {K:PySem.W.Frag} {H:Hp} {vs:List V} {xs:List U} (r:Rps K H vs xs):Rps K H (n6 vs l h) (dI xs l h):=by
 unfold n6 dI
 rw [r.len]
 exact (r.drop _).take _
theorem dF (he:Ev X H0 O0 ps e x) (hl:EvO X H0 O0 ps lo l) (hh:EvO X H0 O0 ps hi h) (hx:x=.lst xs∨x=.scr xs):EvN X H0 O0 ps (.Subscript e (.Slice lo hi none p2) pos) (dI xs l h):=
 PE.mono (ql sD he hl hh) fun σ H Q ⟨O,R,q⟩=> ⟨O,R,fun v H1 s1 r1=> ⟨O,R.go s1,fun H2 s2=> ⟨O,R.go (s1.trans s2),fun H3 s3=> by
  have key:∃ a vs,v=.ref a∧SqL X.K (hid H1 O) a vs∧Rps X.K (hid H1 O) vs xs:=by
   rcases hx with rfl | rfl
   ·cases r1 with
    | lst hq hl hh=> exact ⟨_,_,rfl,SqL.of hq,hl,hh⟩
   ·cases r1 with
    | scr hq hl hh=> exact ⟨_,_,rfl,hq,hl,hh⟩
  obtain ⟨a,vs,rfl,hq,rs⟩:=key
  have s13:=s2.trans s3
  refine ⟨a,vs,rfl,s13.seq (ax.seq hq),fun p hp=> q p _ _ ((s1.trans s13).trans (aV hp _)) ((s1.trans s13).free hp) aT ?_⟩
  exact (rs.cut.same (bb s13)).same (bO (aV hp _) hp)⟩⟩⟩
theorem nH (ha:Ev X H0 O0 ps a (.lst xs)) (hb:Ev X H0 O0 ps b (.lst ys)) (hz:xs.length+ys.length≤sizeLine):EvN X H0 O0 ps (.BinOp a .Add b pos) (xs++ys):=
 PE.mono (qR vR ha hb) fun σ H Q ⟨O,R,q⟩=> two R (fun _ _ _ z=> z) (fun _ _ _ z=> z) fun v w H' s _ r1 r2=> by
  cases r1 with
  | lst hq hl hh=>
   cases r2 with
   | lst hq' hl' hh'=>
    refine ⟨_,_,_,_,rfl,rfl,ax _ _ hq,ax _ _ hq',by rw [hl,hl']; exact hz,fun p hp=> q p _ _ (s.trans (aV hp _)) (s.free hp) aT ?_⟩
    exact (Rps.snoc ⟨hl,hh⟩ ⟨hl',hh'⟩).same (bO (aV hp _) hp)
def fl:U→V
 | .bl b=> .bl b | .int i=> .int i | .str x=> .str x | _=> .non
def p0:U→Bool
 | .bl _=> true | .int _=> true | .str _=> true | .non=> true | _=> false
theorem ur {K:PySem.W.Frag} {H:Hp} {v:V} {u:U} (h:Rp K H v u) (f:p0 u=true):v=fl u∧eZ v=true:=by
 cases h <;> first | exact ⟨rfl,rfl⟩ | simp [p0] at f
theorem qO {K:PySem.W.Frag} {H:Hp}:∀ {vs:List V} {xs:List U},Rps K H vs xs→xs.all p0=true→vs=xs.map fl∧vs.all eZ=true
 | vs,[],r,_=> by rw [r.nil_inv]; exact ⟨rfl,rfl⟩
 | vs,x::xs,r,f=> by
  obtain ⟨v,ws,rfl,h1,h2⟩:=r.cons_inv
  simp only [List.all_cons,Bool.and_eq_true] at f
  obtain ⟨e1,e2⟩:=ur h1 f.1
  obtain ⟨e3,e4⟩:=qO h2 f.2
  refine ⟨by rw [List.map_cons,← e1,← e3],?_⟩
  simp only [List.all_cons,Bool.and_eq_true]
  exact ⟨e2,e4⟩
theorem xh (hx:p0 x=true) (hy:y.items=some ys) (hf:ys.all p0=true):OpS X (compareOp .In) x y (.bl (inV (fl x) (ys.map fl))):=by
 intro pins s σ H v w p q Q I r1 r2 h
 obtain ⟨k1,k2,k3⟩:=h
 obtain ⟨a,vs,rfl,h1,h2⟩:=jZ k2 hy
 obtain ⟨e1,e2⟩:=ur k1 hx
 obtain ⟨e3,e4⟩:=qO h2 hf
 exact oF pins s σ H v _ p q Q I r1 r2 ⟨a,vs,rfl,h1,e2,e4,by rw [e1,e3]; exact k3⟩
theorem wu {bs:List Bool} (hc:X.calm=true):iW X (.builtin "all") [.lst (bs.map U.bl)] (.bl (bs.all id)):=by
 intro pins s σ H vs us Q I r hq
 obtain ⟨O,d,rs,q⟩:=hq
 obtain ⟨v,rfl,h1⟩:=eQ rs
 obtain ⟨p1,rfl,r1⟩:=gY r
 cases h1 with
 | @lst a ws _ hq hl hh=>
  cases r1
  obtain ⟨its,rv,pl,_⟩:=I.list (SqL.of (ax _ _ hq))
  have hlen:its.length=bs.length:=by rw [← rv.length,hl,List.length_map]
  have hat:∀ (i:Nat) (z:Value),its.toArray[i]?=some z→z=.bool (bs.getD i false):=fun i z e=> by
   have hi:i < its.length:=by have:=aM (show its[i]?=some z by simpa using e); exact this
   have hb:i < bs.length:=by omega
   have hw:i < ws.length:=by rw [rv.length]; exact hi
   obtain ⟨u,e1,e2⟩:=rv.get (List.getElem?_eq_getElem hw)
   have e3:=hh i ws[i] (.bl bs[i]) (List.getElem?_eq_getElem hw) (by rw [List.getElem?_map,List.getElem?_eq_getElem hb]; rfl)
   have e4:its[i]?=some z:=by simpa using e
   rw [e4] at e1
   cases e1
   generalize ws[i]=wi at *
   cases e3
   rw [List.getD_eq_getElem?_getD,List.getElem?_eq_getElem hb]
   exact e2
  refine call_all_walk (wpAny_pyIter_list pl.isList ?_)
  have hne:a≠s.heap.objs.size:=by obtain ⟨o,e,_⟩:=pl.isList; exact Nat.ne_of_lt (Heap.lt_size e)
  refine ⟨s.heap.objs.size,_,_,_,_,_,fun i=> bs.getD i false,rfl,Walks.list (A:=X.A.in1) (I.ok.hd hc) s.heap.objs.size a hne its.toArray,⟨⟨_,Heap.get?_push_size _ rfl,rfl,rfl⟩,pl.isList.push _⟩,fun i z s' Q' E' hP hQ=> ?_,fun h' tk hk=> ?_⟩
  ·rw [hat i z hP]; exact wpAny_truthy_bool hQ
  ·have e:(List.range its.toArray.size).all (fun i=> bs.getD i false)=bs.all id:=by
    rw [List.size_toArray,hlen,Bool.eq_iff_iff,jc,List.all_eq_true]
    constructor
    ·intro h x hx
     obtain ⟨i,hi,rfl⟩:=List.getElem_of_mem hx
     have:=h i hi
     rwa [List.getD_eq_getElem?_getD,List.getElem?_eq_getElem hi] at this
    ·intro h j hj
     rw [List.getD_eq_getElem?_getD,List.getElem?_eq_getElem hj]
     exact h _ (List.getElem_mem hj)
   rw [e]
   refine ⟨.bl _,H,I.kept (t':=tk) fun b o e=> hk b o ?_ (Heap.get?_push_of_some _ e),rfl,q _ H (.refl H) (.bl _)⟩
   intro z
   have:b=s.heap.objs.size:=by simpa using z
   exact absurd (Heap.lt_size e) (by rw [this]; exact Nat.lt_irrefl _)
end
end L2
namespace L2
open PySem PySem.Spec PyProof.Rows
section
variable {X:Cx} {pins:List (Addr×Obj)} {σ:St} {H:Hp} {s:Shared}
end
section
variable {X:Cx} {H0:Hp} {O0:List Addr} {E:XK} {ps ps':PSt} {D:PD} {tg iter cond:Expr} {pos p:Pos} {xs:List U} {fs:List (Option U)}
end
end L2
namespace L2
open PySem PySem.Spec PyProof.Rows
inductive u_:List (Option Expr)→List Expr→Prop where
 | nil:u_ [] []
 | cons {k v:Int} {a b:Nat} {p q:Pos} {ks:List (Option Expr)} {vs:List Expr} (h:u_ ks vs):u_ (some (.Constant (.int k) a p)::ks) (.Constant (.int v) b q::vs)
section
variable {X:Cx} {H0:Hp} {O0:List Addr} {ps:PSt} {pos:Pos} {keys:List (Option Expr)} {values:List Expr} {k m:Bool}
end
end L2
namespace L2
open PySem PySem.Spec PyProof.Rows
theorem Ws.nox {X:Cx} {H0:Hp} {O0:List Addr} {E:XK} {ss:List Stmt} {D:PD} {ps:PSt} (h:Ws X.nox H0 O0 E ss D ps):Ws X H0 O0 E ss D ps:=PSs.nox h
theorem bB.calm {P:Program} {w:World} {K:PySem.W.Frag} {mg:Str→Option Value} {base:Heap} {k:Nat} {f:Addr} {fd:FuncData} {ps:List Str} {sp:Sp} (F:bB P w K mg base (CXF P w) k f fd ps sp) (h:∀ vs H Q E,sp vs H Q E→sp vs H Q E0):bB P w K mg base CX0 k f fd ps sp:=by
 refine ⟨F.len,fun A outer s H args us vs Q E hr he hb hv hs=> codeAny_mono (F.run A outer s H args us vs Q E0 hr he hb hv (h _ _ _ _ hs)) fun r s' q=> ?_⟩
 cases r with
 | ok fl=>
  cases fl with
  | ret u=> exact q
  | next=> exact q
  | brk=> exact q
  | cont=> exact q
 | error e=>
  obtain ⟨_,_,_,_,_,_,_,_,_,_,_,_,_,_,_,hE⟩:=q
  exact hE.elim
def fJ:List U→Out→Prop:=fun us o=> ∃ ns:List Int,us=[.scr (ns.map U.int)]∧ns.length≤63∧(∀ m∈ns,Sz 1048576 m)∧o=.val (.bl true)
theorem rQ {K:PySem.W.Frag} (vs:List V) (H:Hp) (Q:VK) (E:XK) (h:spU K fJ vs H Q E):spU K fJ vs H Q E0:=by
 obtain ⟨us,O,o,d,r,⟨ns,h1,h2,h3,rfl⟩,q⟩:=h
 exact ⟨us,O,_,d,r,⟨ns,h1,h2,h3,rfl⟩,q⟩
theorem oM {K:PySem.W.Frag} {H:Hp} {a:Addr} {ns:List Int} {E:XK} (h1:ns.length≤63) (h2:∀ m∈ns,Sz 1048576 m) (h3:SqL K H a (ns.map V.int)):spU K fJ [.ref a] H (fun v _=> v=.bl true) E:=by
 refine ⟨[.scr (ns.map U.int)],[],.val (.bl true),fun a ha=> (nomatch ha),.cons ?_ .nil,⟨ns,rfl,h1,h2,rfl⟩,fun v H' s r=> by cases r; rfl⟩
 have e:hid H []=H:=by funext b; unfold hid; rw [if_neg (by simp)]
 rw [e]
 refine .scr h3 (by simp) fun i v x e1 e2=> ?_
 rw [List.getElem?_map] at e1 e2
 cases q:ns[i]? with
 | none=> rw [q] at e1; cases e1
 | some n=> rw [q] at e1 e2; cases e1; cases e2; exact .int n
theorem kW {k:Nat} {A:Around} (hr:cY k A):A.units+10 < cLine:=by have:=hr.un; omega
theorem rR {ns:List Int} {k:Int} (h0:0≤k) (h:k < (ns.length:Int)):atI (ns.map U.int) k=some (.int (ns.getD k.toNat 0)):=by
 have hk:k.toNat < ns.length:=by omega
 have q:atI (ns.map U.int) ((k.toNat:Nat):Int)=some (.int (ns.getD k.toNat 0)):=mK (by rw [List.getElem?_map,List.getD_eq_getElem?_getD,List.getElem?_eq_getElem hk] <;> rfl)
 rwa [show ((k.toNat:Nat):Int)=k by omega] at q
theorem jW {ns:List Int} (h:∀ m∈ns,Sz 1048576 m) (i:Nat):Sz 1048576 (ns.getD i 0):=by
 by_cases hk:i < ns.length
 ·rw [List.getD_eq_getElem?_getD,List.getElem?_eq_getElem hk,Option.getD_some]; exact h _ (List.getElem_mem hk)
 ·rw [List.getD_eq_getElem?_getD,List.getElem?_eq_none (by omega),Option.getD_none]; exact Sz.mono (m:=8) (by decide) (by decide)
abbrev pt (x y:Int):U:=.tup [.int x,.int y]
theorem dTb {p:Prop} [Decidable p] (h:decide p=true):p:=of_decide_eq_true h
theorem dFb {p:Prop} [Decidable p] (h:decide p=false):¬ p:=of_decide_eq_false h
theorem nTb {p:Prop} [Decidable p] (h:(!decide p)=true):¬ p:=by simpa using h
theorem nFb {p:Prop} [Decidable p] (h:(!decide p)=false):p:=by simpa using h
theorem vB {a b:Bool} (h:a=b):Out.val (.bl a)=Out.val (.bl b):=by rw [h]
theorem vIO {a b:Int} (h:a=b):Out.val (.int a)=Out.val (.int b):=by rw [h]
mutual
theorem rV:∀ (n:Nat) (u:U),okU n u=true→eqW u u=true
 | _,.non,_=> rfl
 | _,.bl b,_=> by simp [eqW]
 | _,.int b,_=> by simp [eqW]
 | _,.str b,_=> by simp [eqW]
 | _,.ty _,h=> by simp [okU] at h
 | _,.dic,h=> by simp [okU] at h
 | 0,.tup _,h=> by simp [okU] at h
 | 0,.lst _,h=> by simp [okU] at h
 | 0,.scr _,h=> by simp [okU] at h
 | n+1,.tup xs,h=> by rw [eqW]; rw [okU] at h; exact eqWs_refl n xs h
 | n+1,.lst xs,h=> by rw [eqW]; rw [okU] at h; exact eqWs_refl n xs h
 | n+1,.scr xs,h=> by rw [eqW]; rw [okU] at h; exact eqWs_refl n xs h
theorem eqWs_refl:∀ (n:Nat) (xs:List U),okUs n xs=true→eqWs xs xs=true
 | _,[],_=> rfl
 | n,x::xs,h=> by
  simp only [okUs,Bool.and_eq_true] at h
  simp only [eqWs,Bool.and_eq_true]
  exact ⟨rV n x h.1,eqWs_refl n xs h.2⟩
end
theorem pF {α:Type} {n:Nat} {f:α→U} {l:List α} (h:∀ a∈l,okU n (f a)=true):okUs n (l.map f)=true:=by
 induction l with
 | nil=> rfl
 | cons a l ih=>
  rw [List.map_cons,okUs,Bool.and_eq_true]
  exact ⟨h a List.mem_cons_self,ih fun b hb=> h b (List.mem_cons_of_mem _ hb)⟩
theorem kN {α:Type} {n:Nat} {f:α→U} {l:List α} (h:∀ a,okU n (f a)=true):okU (n+1) (.lst (l.map f))=true:=by rw [okU]; exact pF fun a _=> h a
theorem kC {α:Type} {f:α→U} {p:α→α→Prop} [DecidableEq α] (hf:∀ a b,eqW (f a) (f b)=decide (a=b)):∀ (l m:List α),eqWs (l.map f) (m.map f)=decide (l=m)
 | [],[]=> rfl
 | [],_::_=> rfl
 | _::_,[]=> rfl
 | a::l,b::m=> by
  rw [List.map_cons,List.map_cons,eqWs,hf,kC (p:=p) hf l m,Bool.eq_iff_iff]
  simp
end L2
namespace L2
open PySem PySem.Spec PyProof.Rows
section
variable {X:Cx} {H0:Hp} {O0:List Addr} {E:XK} {ps:PSt} {D:PD} {a b c e:Expr} {rest:List Expr} {pos:Pos} {k:Bool}
theorem cF {tb fb:List Stmt} (hc:Tt X H0 O0 ps c k) (hk:k=true) (h:Ws X H0 O0 E tb D ps):W1 X H0 O0 E (.If c tb fb pos) D ps:=gJ hc (fun _=> h) (fun e=> by rw [hk] at e; cases e)
theorem dw {tb fb:List Stmt} (hc:Tt X H0 O0 ps c k) (hk:k=false) (h:Ws X H0 O0 E fb D ps):W1 X H0 O0 E (.If c tb fb pos) D ps:=gJ hc (fun e=> by rw [hk] at e; cases e) (fun _=> h)
theorem lF (ha:Tt X H0 O0 ps a k) (hk:k=false):Tw X H0 O0 ps (.BoolOp .And (a::b::rest) pos) false:=by
 subst hk
 exact e_ (m:=true) ha fun h=> by cases h
theorem h_ (ha:Tt X H0 O0 ps a k) (hk:k=true):Tw X H0 O0 ps (.BoolOp .Or (a::b::rest) pos) true:=by
 subst hk
 exact qZ (m:=true) ha fun h=> by cases h
end
end L2
namespace L2
open PySem PySem.Spec PyProof.Rows
section
variable {X:Cx} {H0:Hp} {O0:List Addr} {E:XK} {ps:PSt} {D:PD} {body:List Stmt} {tg iter c:Expr} {pos:Pos} {xs:List U} {α:Type}
theorem TgS.sub {p p':PSt} {u:U} {ps':PSt} (h:TgS X H0 O0 tg p u ps') (hs:SubP p p'):TgS X H0 O0 tg p' u ps':=PG.mono h fun v σ H Q ⟨O,R,r,q⟩=> ⟨O,R.sub hs,r,q⟩
theorem Tt.sub {p p':PSt} {e:Expr} {k:Bool} (h:Tt X H0 O0 p e k) (hs:SubP p p'):Tt X H0 O0 p' e k:=PT.mono h fun σ H Q ⟨O,R,q⟩=> ⟨O,R.sub hs,q⟩
theorem fk (st:α→PSt) (Q:Nat→α→Prop) (hc:X.calm=true) (hp:PassesOwn (model X.prog X.w) X.A X.env X.xe) (hi:EvI X H0 O0 ps tg iter xs) (h0:∃ a,Q 0 a∧SubP (st a) ps)
  (hs:∀ (H0:Hp) (i:Nat) (x:U) (a:α),xs[i]?=some x→Q i a→∃ ps',TgS X H0 O0 tg (st a) x ps'∧Ws X H0 O0 E body { D with nx:=fun p=> ∃ b,Q (i+1) b∧SubP (st b) p,ct:=fun p=> ∃ b,Q (i+1) b∧SubP (st b) p,bk:=D.nx } ps')
  (hd:∀ a ps,Q xs.length a→SubP (st a) ps→D.nx ps) (hf:∀ x,foldedSetIterable iter X.env x=pure x:=by intro _; rfl):W1 X H0 O0 E (.For tg iter body [] pos) D ps:=
 wF hc hp hi (fun i ps=> ∃ a,Q i a∧SubP (st a) ps) h0 (fun H0 i x ps hx ⟨a,q,sb⟩=> by
  obtain ⟨ps',t,w⟩:=hs H0 i x a hx q
  exact ⟨ps',t.sub sb,w⟩) (fun ps ⟨a,q,sb⟩=> hd a ps q sb) hf
theorem kU (st:α→PSt) (Q:Nat→α→Prop) (hp:PassesOwn (model X.prog X.w) X.A X.env X.xe) (h0:∃ m a,Q m a∧SubP (st a) ps)
  (hs:∀ m a,Q m a→∃ b,Tt X H0 O0 (st a) c b∧(b=true→Ws X H0 O0 E body { D with nx:=fun p=> ∃ m' a',m' < m∧Q m' a'∧SubP (st a') p,ct:=fun p=> ∃ m' a',m' < m∧Q m' a'∧SubP (st a') p,bk:=D.nx } (st a))∧(b=false→∀ ps,SubP (st a) ps→D.nx ps)):W1 X H0 O0 E (.While c body [] pos) D ps:=by
 obtain ⟨m,a,q,sb⟩:=h0
 refine sk hp (fun m ps=> ∃ a,Q m a∧SubP (st a) ps) m ⟨a,q,sb⟩ fun m ps ⟨a,q,sb⟩=> ?_
 obtain ⟨b,t,h1,h2⟩:=hs m a q
 refine ⟨b,t.sub sb,fun e=> ?_,fun e=> h2 e ps sb⟩
 refine dU (PSs.mono (h1 e) fun D' σ H ⟨L,O,R⟩=> ⟨⟨fun p σ H O R ⟨m',a',l,q',sb'⟩=> L.nx p σ H O R ⟨m',l,a',q',sb'⟩,L.bk,fun p σ H O R ⟨m',a',l,q',sb'⟩=> L.ct p σ H O R ⟨m',l,a',q',sb'⟩,L.rt⟩,O,R⟩) sb
end
abbrev P2:=Int×Int
abbrev pu (p:P2):U:=.tup [.int p.1,.int p.2]
abbrev lp (l:List P2):U:=.lst (l.map pu)
theorem lG (p q:P2):eqW (pu p) (pu q)=decide (p=q):=by
 obtain ⟨a,b⟩:=p
 obtain ⟨c,d⟩:=q
 simp only [pu,eqW,eqWs,Bool.and_true]
 rw [Bool.eq_iff_iff]; simp
theorem v4 (l m:List P2):eqW (lp l) (lp m)=decide (l=m):=by rw [lp,lp,eqW]; exact kC (p:=fun _ _=> True) lG l m
theorem nG (l:List P2):okU 9 (lp l)=true:=kN fun _=> rfl
theorem wg (p:P2):okU 9 (pu p)=true:=rfl
theorem wn {l:List P2} {i:Nat} {x:U} (h:(l.map pu)[i]?=some x):∃ p,l[i]?=some p∧p∈l∧x=pu p:=by
 rw [List.getElem?_map] at h
 cases q:l[i]? with
 | none=> rw [q] at h; cases h
 | some p=> rw [q] at h; cases h; exact ⟨p,rfl,List.mem_of_getElem? q,rfl⟩
theorem j9 {α:Type} {l:List α} {f:α→U} {g:α→U} {i:Nat} {x y:U} (hx:(l.map f)[i]?=some x) (hy:(l.map g)[i]?=some y):∃ a,l[i]?=some a∧a∈l∧x=f a∧y=g a:=by
 rw [List.getElem?_map] at hx hy
 cases q:l[i]? with
 | none=> rw [q] at hx; cases hx
 | some p=> rw [q] at hx hy; cases hx; cases hy; exact ⟨p,rfl,List.mem_of_getElem? q,rfl,rfl⟩
end L2
namespace L2
open PySem PySem.Spec PyProof.Rows
theorem W1.mono {X:Cx} {H0:Hp} {O0:List Addr} {E:XK} {s:Stmt} {D:PD} {J:PSt→Prop} {ps:PSt} (h:W1 X H0 O0 E s { D with nx:=J } ps) (m:∀ ps,J ps→D.nx ps):W1 X H0 O0 E s D ps:=
 PS.mono h fun D' σ H ⟨L,O,R⟩=> ⟨⟨fun p σ H O R q=> L.nx p σ H O R (m p q),L.bk,L.ct,L.rt⟩,O,R⟩
theorem jV {X:Cx} {H0:Hp} {O0:List Addr} {E:XK} {s:Stmt} {ss:List Stmt} {D:PD} {ps:PSt} (J:PSt→Prop) (h1:W1 X H0 O0 E s { D with nx:=J } ps) (h2:∀ ps,J ps→Ws X H0 O0 E ss D ps):Ws X H0 O0 E (s::ss) D ps:=
 af (W1.mono (J:=J) (D:={ D with nx:=fun p=> Ws X H0 O0 E ss D p }) h1 h2)
end L2
namespace PySem.W
open PySem PySem.Spec PySem.Calls PyProof.Rows
theorem mf {M:Model} {A:Around} {E:Value→Shared→Prop} {K:Frag} {s:Shared} {x C B:Addr} {Q:Bool→Shared→Prop} (X:K.In s.heap) (I:OfCls x C s.heap) (hT:typeIn K (.ref B)=some (.type "type")) (hc:(clsIn K B).isSome=true)
  (hB:mroIn K B (.type "BaseException")=some true) (hC:mroIn K C (.ref B)=some true) (h:Q true s):wpAny M A (excMatches (.ref x) (.ref B)) Q E s:=by
 have L1:Looks M s.heap (typeOf (.ref x)) (.ref C):=I.type
 have L2:Looks M s.heap (typeOf (.ref B)) (.type "type"):=looks_typeIn X hT
 have L3:Looks M s.heap (isInstance (.ref B) (.type "tuple")) false:=L2.andThen (Looks.of_pure tc_notTuple)
 have L4:Looks M s.heap (isSubtype (.ref B) (.type "BaseException")) true:=looks_mroIn X hB
 have L5:Looks M s.heap (isSubtype (.ref C) (.ref B)) true:=looks_mroIn X hC
 have L6:Looks M s.heap (isType (.ref B)) true:=by
  obtain ⟨cdD,hcD⟩:=Option.isSome_iff_exists.mp hc
  unfold clsIn at hcD
  split at hcD
  ·rename_i c' d' cd' sl' ho
   intro A' Q' E' s' k q
   unfold isType loadHead
   exact wpAny_bind (wpAny_loadPart (k _ _ (X _ _ ho)) (wpAny_pure q))
  ·cases hcD
 obtain ⟨hh,g,dr,t,os⟩:=s
 unfold excMatches isExcClass
 repeat (first | lk | wp_step)
 exact h
end PySem.W
namespace L2
open PySem PySem.Spec PySem.W PyProof.Rows
section
variable {X:Cx} {pins:List (Addr×Obj)} {σ:St} {H:Hp} {s:Shared}
theorem gP {M:Model} {A:Around} {E:Value→Shared→Prop} {i:Nat} {x:Str} {pos:Pos} {Q:Unit→Shared→Prop} (I:Inv X pins σ H s) (hN:X.N.Nodup) (hi:X.N[i]?=some x) (hk:X.env.kindOf x=some .local)
  (h:∀ s',Inv X pins (σ.set i none) H s'→Q () s'):wpAny M A (do bindName X.env x .none; unbindBehindTheSuite X.env x pos) Q E s:=by
 obtain ⟨m,hn,hl⟩:=id I.loc
 have hcls:(X.env.scope.kind==.class || (X.env.scope.kind==.module && X.env.locals !=X.env.globals))=false:=by rw [I.ok.kind]; rfl
 have hiσ:i < σ.length:=by rw [I.len]; exact (List.getElem?_eq_some_iff.mp hi).1
 have cne:=I.cne
 refine wpAny_nameGoes_keeps hk hn hcls fun h' v hn' hs=> ?_
 have tracked:HOk X.prog X.w H h':=fun b ob e=> by
  refine (I.hok b ob e).stay (fun c w' hc q=> (hs.2 c ?_).trans q) (fun _ q=> q) fun _ _ q=> q
  rintro rfl
  rcases hc with z | hc
  ·rw [← z,I.free] at e; cases e
  ·rw [I.free] at hc; cases hc
 refine h _ ⟨I.ok,I.os,I.bare,⟨fun b o e n hb hx=> ?_,fun b o e n hb hx=> ?_,I.base.free,fun b o e hx=> ?_,I.base.tups,I.base.frzs,I.base.tbls⟩,⟨_,hn',fun j y v' e1 e2 e3=> ?_⟩,fun y c e=> ?_,I.free,I.freeC,fun p hp=> ?_,tracked,by simpa using I.len⟩
 ·exact (hs.2 b (Nat.ne_of_lt (Nat.lt_of_lt_of_le (Heap.lt_size e) I.ok.above))).trans (I.base.keep b o e n hb hx)
 ·obtain ⟨sl,e1⟩:=I.base.slot b o e n hb hx
  exact ⟨sl,(hs.2 b (Nat.ne_of_lt (Nat.lt_of_lt_of_le (Heap.lt_size e) I.ok.above))).trans e1⟩
 ·obtain ⟨o',e1⟩:=I.base.there b o e hx
  exact ⟨o',(hs.2 b (Nat.ne_of_lt (Nat.lt_of_lt_of_le (Heap.lt_size e) I.ok.above))).trans e1⟩
 ·by_cases hj:j=i
  ·subst hj
   rw [List.getElem?_set_self hiσ] at e2
   cases e2
  ·rw [List.getElem?_set_ne (Ne.symm hj)] at e2
   obtain ⟨u',r',q⟩:=hl j y v' e1 e2 e3
   refine ⟨u',r',?_⟩
   rcases q with ⟨k,e⟩ | ⟨k,c,e,z⟩
   ·refine .inl ⟨k,?_⟩
    have:y≠x:=fun e=> hj (g_ hN e1 (e ▸ hi))
    simp [this,e]
   ·exact .inr ⟨k,c,e,z.sameBut hs (cne y c e)⟩
 ·obtain ⟨w',z⟩:=I.cell y c e
  exact ⟨w',z.sameBut hs (cne y c e)⟩
 ·obtain ⟨e,n,ne,nf,d⟩:=I.pin p hp
  exact ⟨(hs.2 p.1 ne).trans e,n,ne,nf,d⟩
theorem rD {fs:List Addr} {H0 H':Hp} {h0 h1:Heap} {ea:Addr} {o:HO} (u:Un fs [] H0 H' h0 h1) (n0:h0.get? ea=none) (n1:H' ea=none):Un fs [] H0 (upd H' ea o) h0 h1 where
 keep:=u.keep
 slot:=u.slot
 free:=fun b ob e n hx=> by
  rw [aL fun z=> by subst z; rw [n0] at e; cases e]; exact u.free b ob e n hx
 there:=u.there
 tups:=fun b xs e=> by have q:=u.tups b xs e; rw [aL (bq q n1)]; exact q
 frzs:=fun b ob xs e=> by have q:=u.frzs b ob xs e; rw [aL (bq q n1)]; exact q
 tbls:=fun b ps e=> by obtain ⟨m,q⟩:=u.tbls b ps e; exact ⟨m,by rw [aL (bq q n1)]; exact q⟩
theorem oJ {P:Program} {w:World} {H':Hp} {h:Heap} {ea C:Addr} (ok:HOk P w H' h) (n1:H' ea=none) (I:OfCls ea C h):HOk P w (upd H' ea (.ext (OfCls ea C))) h:=fun a o e=> by
 by_cases z:a=ea
 ·subst z
  rw [aT] at e; cases e
  obtain ⟨ob,e1,e2⟩:=id I
  exact ⟨I,⟨ob,e1⟩,fun h1 h2 ⟨o1,q1,q2⟩ q3=> ⟨o1,q3 _ q1,q2⟩⟩
 ·rw [aL z] at e
  refine (ok a o e).stay (fun _ _ _ q=> q) (fun _ q=> ?_) fun _ _ q=> ?_
  all_goals (first | (rw [aL (bq q n1)]; exact q) | trace_state)
end
section
variable {X:Cx}
def iH.drop (D:iH) (i:Nat):iH:=⟨fun σ H=> D.nx (σ.set i none) H,D.rt,fun σ H=> D.bk (σ.set i none) H,fun σ H=> D.ct (σ.set i none) H⟩
def vZ (K:Frag) (sp:Sp) (B:Addr) (i:Nat) (ta:TA) (th:TS):TS:=fun D σ H=> ta σ H fun vs H1=> sp vs H1 (fun _ H2=> D.nx σ H2) fun cls _ H2=> ∃ C,cls=.ref C∧mroIn K C (.ref B)=some true∧
 ∀ ea,H2 ea=none→th (D.drop i) (σ.set i (some (.ref ea))) (upd H2 ea (.ext (OfCls ea C)))
theorem p5 {k:Nat} {fA B:Addr} {fd:FuncData} {ps:List Str} {sp:Sp} {f x n:Str} {i:Nat} {e:Expr} {es:List Expr} {ta:TA} {th:TS} {b₀:Stmt} {suite:List Stmt} {p cpos epos np hpos pos:Pos}
  (hstk:X.stack=X.env::X.outer) (hfr:X.env.frame=some X.env.locals) (F:bB X.prog X.w X.K X.mg X.base (CXF X.prog X.w) k fA fd ps sp) (hr:cY k X.A) (hg:Gl X f) (hm:X.mg f=some (.ref fA)) (hk:keepIn X.K (.ref fA)=true) (hb:a_ X.K fd ps []) (ha:PA X.nox (e::es) ta)
  (hgx:Gl X x) (hmx:X.mg x=some (.ref B)) (hT:typeIn X.K (.ref B)=some (.type "type")) (hB:mroIn X.K B (.type "BaseException")=some true)
  (hN:X.N.Nodup) (hi:X.N[i]?=some n) (hl:X.env.kindOf n=some .local) (hth:∀ ea,PSs (fz X ea) (b₀::suite) th)
  (hdb:(f==("__debug__":Str))=false:=by decide) (hdx:(x==("__debug__":Str))=false:=by decide) (he:starEach (e::es) X.env=(false,eval e X.env)::starEach es X.env:=by rfl) (hpl:(backTo cpos (starEach es X.env)).any (·.1)=false:=by rfl)
  (hsw:swapsWith (.Call (.Name f p) (e::es) [] cpos) none epos.line X.env=pure false:=by rfl):
  PS X (.Try [.Expr (.Call (.Name f p) (e::es) [] cpos) epos] [.ExceptHandler (some (.Name x np)) (some n) (b₀::suite) hpos] [] [] pos) (vZ X.K sp B i ta th):=by
 intro pins s σ H D I h
 refine wpAny_Try_except ?_
 refine wpAny_execs_cons (wpAny_Expr_any (Q:=fun f s'=> match f with | .next=> wpAny (model X.prog X.w) X.A (execs [] X.env) (fun f s₁=> match f with | .next=> wpAny (model X.prog X.w) X.A (execs [] X.env) (SP X pins D) X.xe s₁ | f=> SP X pins D f s₁) _ s' | f=> _) ?_ I.quiet hsw)
 refine wpAny_Call_Name_kw (fP I hg hm ?_ hdb)
 refine PySem.W.callWith_K (h₀:=X.base) I.ok.mod.kin hk (wpAny_mono (ha cpos pins s σ H _ (I.wish _) h) (fun us s1 ⟨vs,H1,I1,r,q⟩=> ⟨I1.kIn,?_⟩) fun _ _ z=> z.elim) he hpl
 have J1:Inv X pins σ H1 s1:=I1.unwish
 have hlen:us.length=ps.length:=by rw [← r.length]; exact F.len _ _ _ _ q
 have hbd:=hb s1 us J1.kIn (by rw [List.append_nil]; exact hlen)
 rw [List.append_nil] at hbd
 refine wpAny_call (codeAny_mono (F.run X.A X.stack s1 H1 ⟨us,[]⟩ us vs _ _ hr J1.env0 hbd r q) fun res s' hq=> ?_)
 cases res with
 | ok fl=>
  cases fl with
  | ret u=>
   obtain ⟨v,H2,I2,_,q2⟩:=J1.after hq
   exact wpAny_execs_nil (wpAny_execs_nil ⟨σ,H2,I2,q2⟩)
  | next=> exact False.elim hq
  | brk=> exact False.elim hq
  | cont=> exact False.elim hq
 | error ev=>
  obtain ⟨ea,cls,a0,B0,H',rfl,os,bare,un,hok,hea,k1,k2,k3,fl,C,rfl,hmC,hT'⟩:=hq
  have hfrs:=J1.ok.frames
  have fl0:=fl
  rw [hstk] at hfrs fl
  refine wpAny_looks_onW hfrs hfr fl fun h4 held4 up4=> ?_
  refine wpAny_landsW held4 fun h5 fl5 up5=> ?_
  have ffr:∀ b∈frs X.stack,∀ o,s1.heap.get? b=some o→∀ vs,o.data≠.fields vs:=jH J1.stack
  have inv:∀ h6,B0.StaysIn h6→s'.heap.UpToSlots h6→Inv X pins σ H' { s' with heap:=h6 }:=fun h6 st up=>
   J1.call' (s':={ s' with heap:=h6 }) (ch:=[]) os (qW un k1 k3 st up ffr J1.stkFree) (gK hok k2 fl.1 st) bare (fun b z=> absurd z (by simp))
  have n0:s1.heap.get? ea=none:=by
   cases z:s1.heap.get? ea with
   | none=> rfl
   | some o=>
    exfalso
    by_cases hb':ea∈frs X.stack
    ·obtain ⟨sl,e1⟩:=un.slot ea o z (J1.stkFree ea hb') hb' (by simp)
     obtain ⟨_,_,_,oe,vs',T',oT,ts,g1,g2,g3,_⟩:=fl0
     rw [e1] at g1; cases g1
     exact ffr ea hb' o z _ g3
    ·obtain ⟨o',e'⟩:=k3 ea o z hb'
     have:=fl0.2.1
     rw [e'] at this; cases this
  have inv2:∀ h6,B0.StaysIn h6→s'.heap.UpToSlots h6→OfCls ea C h6→Inv X pins σ (upd H' ea (.ext (OfCls ea C))) { s' with heap:=h6 }:=fun h6 st up oc=>
   J1.call' (s':={ s' with heap:=h6 }) (ch:=[]) os (rD (qW un k1 k3 st up ffr J1.stkFree) n0 hea) (oJ (gK hok k2 fl.1 st) hea oc) bare (fun b z=> absurd z (by simp))
  have I5:=inv h5 fl5.1 (up4.trans up5)
  refine wpAny_handleBy_cons (codeAny_handlers_test (fP (X:=fz X ea) (I5.hand ea) hgx hmx ?_ hdx)) (by intro z; cases z)
  refine mf I5.kIn fl5.there hT (iE hB) hB hmC ?_
  refine codeAny_handlers_suite_as (lands_againW fl5 fun h6 fl6 up6=> ?_)
  have I6:=inv2 h6 fl6.1 ((up4.trans up5).trans up6) fl6.there
  refine f_ (X:=fz X ea) (v:=.ref ea) (I6.hand ea) hN hi (.inl hl) rfl (fun s7 I7 _=> ?_) (.inr hl)
  refine wpAny_mono (hth ea pins s7 _ _ (D.drop i) I7 (hT' ea hea)) (fun f s2 z=> ?_) fun _ _ z=> z.elim
  have z1:SP X pins (D.drop i) f s2:=z.unhand I.ok.hd
  cases f with
  | next=> obtain ⟨σ',H8,I8,q8⟩:=z1; exact gP I8 hN hi hl fun s9 I9=> ⟨_,_,I9,q8⟩
  | brk=> obtain ⟨σ',H8,I8,q8⟩:=z1; exact gP I8 hN hi hl fun s9 I9=> ⟨_,_,I9,q8⟩
  | cont=> obtain ⟨σ',H8,I8,q8⟩:=z1; exact gP I8 hN hi hl fun s9 I9=> ⟨_,_,I9,q8⟩
  | ret u=> obtain ⟨v,σ',H8,I8,r8,q8⟩:=z1; exact gP I8 hN hi hl fun s9 I9=> ⟨v,_,_,I9,r8,q8⟩
end
section
variable {X:Cx} {H0:Hp} {O0:List Addr} {E:XK} {ps:PSt} {D:PD} {a e:Expr} {es:List Expr} {us:List U} {k:Bool} {n:Nat} {fd:FuncData} {pn:List Str} {spec:List U→Out→Prop}
theorem pM:dc X (.builtin "isinstance") (fun xs H Q=> ∃ a C D k,xs=[.ref a,.ref D]∧H a=some (.ext (OfCls a C))∧XcOk X.K C∧kitOne X.K (.ref C) (.ref D)=some k∧Q (.bl k) H):=by
 intro pins s σ H xs us Q I r h
 obtain ⟨a,C,D,k,rfl,ha,hk,e,q⟩:=h
 obtain ⟨u,w',rfl,r1,r2⟩:=mQ r
 cases r1; cases r2
 exact PySem.W.kia_one hk.kit I.kIn (I.hok _ _ ha).1 e (fun z=> nomatch z) fun tk=> ⟨.bl k,H,I.tok _,rfl,q⟩
theorem uu {C D':Addr} {nm:Str} {p p2 pos:Pos} (h:kitOne X.K (.ref C) (.ref D')=some k) (hg:Gl X "isinstance") (hm:X.mg "isinstance"=none) (hv:bootBuiltins "isinstance"=some (.builtin "isinstance")) (ha:Ev X H0 O0 ps a (.ty (.xc C))) (hgD:Gl X nm) (hmD:X.mg nm=some (.ref D'))
  (hd:(nm==("__debug__":Str))=false:=by decide)
  (he:starEach [a,.Name nm p2] X.env=(false,eval a X.env)::starEach [.Name nm p2] X.env:=by rfl) (he2:starEach [.Name nm p2] X.env=(false,eval (.Name nm p2) X.env)::starEach [] X.env:=by rfl) (hpl:(backTo pos (starEach [.Name nm p2] X.env)).any (·.1)=false:=by rfl):
  Ev X H0 O0 ps (.Call (.Name "isinstance" p) [a,.Name nm p2] [] pos) (.bl k):=
 PE.mono (iw pM hg hm hv (cn ha (cn (tY (v:=.ref D') hgD hmD rfl hd) d9 he2) he) (by decide) (by decide) he hpl) fun σ H Q ⟨O,R,q⟩=> ⟨O,R,fun v H1 s1 r1=> by
  cases r1 with
  | xc h1 h2=> exact ⟨_,_,_,k,rfl,ax _ _ h1,h2,h,q _ H1 s1 (.bl k)⟩⟩
theorem o0 {C:Addr} {n:String} (h:PySem.W.kitOne X.K (.ref C) (.type n)=some k):iW X (.builtin "isinstance") [.ty (.xc C),.ty (.nm n)] (.bl k):=by
 intro pins s σ H vs us Q I r hq
 obtain ⟨O,d,rs,q⟩:=hq
 obtain ⟨v,w,rfl,h1,h2⟩:=fO rs
 cases h2
 obtain ⟨p1,p2,rfl,r1,r2⟩:=mQ r
 cases (show p2=Value.type n from r2)
 have fin:∀ tk,EP X pins σ Q (.bool k) { s with toks:=tk }:=fun tk=> ⟨.bl k,H,I.tok _,rfl,q _ H (.refl H) (.bl _)⟩
 cases h1 with
 | xc e kk=>
  cases r1
  exact PySem.W.kia_one kk.kit I.kIn (I.hok _ _ (ax _ _ e)).1 h (fun z=> nomatch z) fin
def PD.drop (D:PD) (i:Nat):PD:=⟨fun p=> D.nx (p.set i none),D.rt,fun p=> D.bk (p.set i none),fun p=> D.ct (p.set i none)⟩
theorem Lf.drop {K:Frag} {D':iH} (L:Lf K H0 O0 E D D') (i:Nat):Lf K H0 O0 E (D.drop i) (D'.drop i):=
 ⟨fun ps σ H O R h=> L.nx _ _ H O R.drop h,fun ps σ H O R h=> L.bk _ _ H O R.drop h,fun ps σ H O R h=> L.ct _ _ H O R.drop h,L.rt⟩
theorem o6 {fA B C:Addr} {x f m:Str} {i:Nat} {b₀:Stmt} {suite:List Stmt} {p cpos epos np hpos pos:Pos}
  (hstk:X.stack=X.env::X.outer) (hfr:X.env.frame=some X.env.locals) (F:bB X.prog X.w X.K X.mg X.base (CXF X.prog X.w) n fA fd pn (spU X.K spec)) (hr:cY n X.A) (hg:Gl X f) (hm:X.mg f=some (.ref fA)) (hk:PySem.W.keepIn X.K (.ref fA)=true) (hb:a_ X.K fd pn []) (ha:EvA X.nox H0 O0 ps (e::es) us)
  (hgx:Gl X x) (hmx:X.mg x=some (.ref B)) (hT:typeIn X.K (.ref B)=some (.type "type")) (hB:mroIn X.K B (.type "BaseException")=some true)
  (hN:X.N.Nodup) (hi:X.N[i]?=some m) (hl:X.env.kindOf m=some .local) (hsp:spec us (.exc C)) (hC:mroIn X.K C (.ref B)=some true) (hxc:XcOk X.K C)
  (h:∀ ea,Ws (fz X ea) H0 O0 E (b₀::suite) (D.drop i) (ps.set i (some (.val (.ty (.xc C))))))
  (hdb:(f==("__debug__":Str))=false:=by decide) (hdx:(x==("__debug__":Str))=false:=by decide) (he:starEach (e::es) X.env=(false,eval e X.env)::starEach es X.env:=by rfl) (hpl:(backTo cpos (starEach es X.env)).any (·.1)=false:=by rfl)
  (hsw:swapsWith (.Call (.Name f p) (e::es) [] cpos) none epos.line X.env=pure false:=by rfl):
  W1 X H0 O0 E (.Try [.Expr (.Call (.Name f p) (e::es) [] cpos) epos] [.ExceptHandler (some (.Name x np)) (some m) (b₀::suite) hpos] [] [] pos) D ps:=
 PS.mono (p5 (th:=fun D' σ H=> Lf X.K H0 O0 E (D.drop i) D'∧∃ O,Rs X.K H0 O0 (ps.set i (some (.val (.ty (.xc C))))) σ H O) hstk hfr F hr hg hm hk hb ha hgx hmx hT hB hN hi hl (fun ea=> h ea) hdb hdx he hpl hsw) fun D' σ H ⟨L,O,R⟩=>
  ⟨O,R,fun vs H1 s1 r1=> ⟨us,O,.exc C,(R.go s1).dom,r1,hsp,fun H2 s2=> ⟨C,rfl,hC,fun ea hn=> ⟨L.drop i,O,((R.go (s1.trans s2)).go (aV hn _)).set (.xc ((R.go (s1.trans s2)).hidnew hn) hxc)⟩⟩⟩⟩
end
section
variable {X:Cx} {H0:Hp} {O0:List Addr} {ps:PSt} {pos:Pos}
end
end L2
namespace L2
open PySem
theorem aI {c:Const} {j:Nat} {pos:Pos} {es:List Expr} {env:Env}:starEach (.Constant c j pos::es) env=(false,eval (.Constant c j pos) env)::starEach es env:=by rw [starEach]; intro e p h; cases h
theorem df {l:List Expr} {j:Nat} {pos:Pos} {es:List Expr} {env:Env}:starEach (.Tuple l j pos::es) env=(false,eval (.Tuple l j pos) env)::starEach es env:=by rw [starEach]; intro e p h; cases h
theorem ij {o:UnaryOp} {a:Expr} {pos:Pos} {es:List Expr} {env:Env}:starEach (.UnaryOp o a pos::es) env=(false,eval (.UnaryOp o a pos) env)::starEach es env:=by rw [starEach]; intro e p h; cases h
theorem aZ {a b:Expr} {o:Operator} {pos:Pos} {es:List Expr} {env:Env}:starEach (.BinOp a o b pos::es) env=(false,eval (.BinOp a o b pos) env)::starEach es env:=by rw [starEach]; intro e p h; cases h
theorem ai {x:Str} {pos:Pos} {es:List Expr} {env:Env}:starEach (.Name x pos::es) env=(false,eval (.Name x pos) env)::starEach es env:=by rw [starEach]; intro e p h; cases h
theorem bW {a b:Expr} {pos:Pos} {es:List Expr} {env:Env}:starEach (.Subscript a b pos::es) env=(false,eval (.Subscript a b pos) env)::starEach es env:=by rw [starEach]; intro e p h; cases h
theorem cB {f:Expr} {a:List Expr} {k:List Keyword} {pos:Pos} {es:List Expr} {env:Env}:starEach (.Call f a k pos::es) env=(false,eval (.Call f a k pos) env)::starEach es env:=by rw [starEach]; intro e p h; cases h
theorem pL {a:Expr} {o:List CmpOp} {c:List Expr} {pos:Pos} {es:List Expr} {env:Env}:starEach (.Compare a o c pos::es) env=(false,eval (.Compare a o c pos) env)::starEach es env:=by rw [starEach]; intro e p h; cases h
theorem ju {e:Expr} {g:List Comprehension} {sc:Scope} {pos:Pos} {es:List Expr} {env:Env}:starEach (.ListComp e g sc pos::es) env=(false,eval (.ListComp e g sc pos) env)::starEach es env:=by rw [starEach]; intro e p h; cases h
structure EvS (X:Cx) (H0:Hp) (O0:List Addr) (ps:PSt) (es:List Expr) (us:List U):Prop where
 a:EvA X H0 O0 ps es us
section
variable {X:Cx} {H0:Hp} {O0:List Addr} {ps:PSt} {e:Expr} {es:List Expr} {u:U} {us:List U} {pos:Pos}
theorem be:EvS X H0 O0 ps [] []:=⟨ao⟩
theorem aq (ha:Ev X H0 O0 ps e u) (hr:EvS X H0 O0 ps es us) (hs:starEach (e::es) X.env=(false,eval e X.env)::starEach es X.env):EvS X H0 O0 ps (e::es) (u::us):=⟨ae ha hr.a hs⟩
theorem bn {x1} (h:EvS X H0 O0 ps es us) (hz:us.length≤sizeLine:=by first | decide | (simp only [List.length_cons,List.length_nil]; decide)):Ev X H0 O0 ps (.Tuple es x1 pos) (.tup us):=xf h.a hz
theorem cJ (h:EvS X H0 O0 ps es us) (hz:us.length≤sizeLine:=by first | decide | (simp only [List.length_cons,List.length_nil]; decide)):EvN X H0 O0 ps (.List es pos) us:=w8 h.a hz
end
end L2
namespace ST
open PySem PySem.SetTable
def Ris (xs:Array Nat):Prop:=∀ (i j x y:Nat),i < j→xs[i]?=some x→xs[j]?=some y→x < y
theorem Ris.inj {xs:Array Nat} (h:Ris xs) {i j x:Nat} (h1:xs[i]?=some x) (h2:xs[j]?=some x):i=j:=by
 rcases Nat.lt_trichotomy i j with z | z | z
 ·exact absurd (h i j x x z h1 h2) (Nat.lt_irrefl _)
 ·exact z
 ·exact absurd (h j i x x z h2 h1) (Nat.lt_irrefl _)
theorem c_ {xs:Array Nat} {i:Nat} (h:i < xs.size):xs[i]?=some xs[i]:=by simp [h]
theorem nu {xs:Array Nat} {i x:Nat} (h:xs[i]?=some x):i < xs.size:=(Array.getElem?_eq_some_iff.mp h).1
theorem j6 {xs:Array Nat} (R:Ris xs) (j:Nat):∀ (fuel lo hi:Nat),lo≤hi→hi≤xs.size→hi - lo≤fuel→(∀ (i x:Nat),i < lo→xs[i]?=some x→x < j)→(∀ (i x:Nat),hi≤i→xs[i]?=some x→j≤x)→
  (∀ (i x:Nat),i < below.go xs j fuel lo hi→xs[i]?=some x→x < j)∧(∀ (i x:Nat),below.go xs j fuel lo hi≤i→xs[i]?=some x→j≤x)∧below.go xs j fuel lo hi≤xs.size
 | 0,lo,hi,h1,h2,h3,h4,h5=> by
  have e:lo=hi:=by omega
  subst e
  rw [below.go]
  exact ⟨h4,h5,h2⟩
 | fuel+1,lo,hi,h1,h2,h3,h4,h5=> by
  rw [below.go]
  by_cases hlt:lo < hi
  ·rw [if_pos hlt]
   have hm:(lo+hi) / 2 < xs.size:=by omega
   have e:xs.getD ((lo+hi) / 2) j=xs[(lo+hi) / 2]:=by simp [Array.getD,hm]
   simp only [e]
   split
   ·rename_i hl
    refine j6 R j fuel _ hi (by omega) h2 (by omega) (fun i x hi' hx=> ?_) h5
    rcases Nat.lt_or_eq_of_le (show i≤(lo+hi) / 2 by omega) with z | z
    ·exact Nat.lt_trans (R i _ x _ z hx (c_ hm)) hl
    ·subst z; rw [c_ hm] at hx; cases hx; exact hl
   ·rename_i hl
    refine j6 R j fuel lo _ (by omega) (by omega) (by omega) h4 (fun i x hi' hx=> ?_)
    rcases Nat.lt_or_eq_of_le hi' with z | z
    ·exact Nat.le_trans (Nat.le_of_not_lt hl) (Nat.le_of_lt (R _ i _ x z (c_ hm) hx))
    ·subst z; rw [c_ hm] at hx; cases hx; exact Nat.le_of_not_lt hl
  ·rw [if_neg hlt]
   have e:lo=hi:=by omega
   subst e
   exact ⟨h4,h5,h2⟩
theorem dC {xs:Array Nat} (R:Ris xs) (j:Nat):(∀ (i x:Nat),i < below xs j→xs[i]?=some x→x < j)∧(∀ (i x:Nat),below xs j≤i→xs[i]?=some x→j≤x)∧below xs j≤xs.size:=
 j6 R j xs.size 0 xs.size (Nat.zero_le _) (Nat.le_refl _) (by omega) (fun i x h=> absurd h (Nat.not_lt_zero _)) (fun i x h e=> absurd (nu e) (by omega))
theorem qA {xs:Array Nat} (R:Ris xs) {i j:Nat} (h:xs[i]?=some j):below xs j=i:=by
 obtain ⟨h1,h2,h3⟩:=dC R j
 rcases Nat.lt_trichotomy (below xs j) i with z | z | z
 ·have hk:below xs j < xs.size:=Nat.lt_trans z (nu h)
  have:=h2 _ _ (Nat.le_refl _) (c_ hk)
  have:=R _ _ _ _ z (c_ hk) h
  omega
 ·exact z
 ·have:=h1 i j z h
  omega
theorem jp {t:SetTable} (R:Ris t.place) {i j:Nat} (h:t.place[i]?=some j):t.slot j=.live i:=by
 unfold SetTable.slot
 simp only [qA R h,h,beq_self_eq_true,if_true]
theorem oP {t:SetTable} (hd:t.dummies=#[]) {j:Nat} (h:∀ i:Nat,t.place[i]?≠some j):t.slot j=.empty:=by
 unfold SetTable.slot
 have e:(t.place[below t.place j]?==some j)=false:=by simpa using h _
 simp only [e,hd]
 simp [SetTable.has]
theorem ml {t:SetTable} (R:Ris t.place) (hd:t.dummies=#[]) (j:Nat):(t.slot j=.empty∧∀ i:Nat,t.place[i]?≠some j)∨∃ i:Nat,t.slot j=.live i∧t.place[i]?=some j:=by
 by_cases h:∃ i:Nat,t.place[i]?=some j
 ·obtain ⟨i,hi⟩:=h
  exact .inr ⟨i,jp R hi,hi⟩
 ·exact .inl ⟨oP hd fun i e=> h ⟨i,e⟩,fun i e=> h ⟨i,e⟩⟩
theorem nX {xs:Array Nat} (R:Ris xs) {mask:Nat} (hn:xs.size≤mask):∃ s,s≤mask∧∀ i:Nat,xs[i]?≠some s:=by
 apply Classical.byContradiction
 intro hno
 have all:∀ s,s≤mask→∃ i:Nat,xs[i]?=some s:=fun s hs=> by
  apply Classical.byContradiction
  intro h
  exact hno ⟨s,hs,fun i e=> h ⟨i,e⟩⟩
 have key:∀ s,s≤mask→∃ i:Nat,xs[i]?=some s∧s≤i:=by
  intro s
  induction s with
  | zero=> intro h; obtain ⟨i,hi⟩:=all 0 h; exact ⟨i,hi,Nat.zero_le _⟩
  | succ s ih=>
   intro h
   obtain ⟨i,hi,hle⟩:=ih (by omega)
   obtain ⟨k,hk⟩:=all (s+1) h
   refine ⟨k,hk,?_⟩
   rcases Nat.lt_trichotomy i k with z | z | z
   ·omega
   ·subst z; rw [hi] at hk; cases hk
   ·have:=R k i _ _ z hk hi; omega
 obtain ⟨i,hi,hle⟩:=key mask (Nat.le_refl _)
 have:=nu hi
 omega
def adv (mask:Nat) (p:Probe):Probe:=
 if p.more > 0 then { p with j:=p.j+1,more:=p.more - 1 } else
 { p with j:=(leap mask p.i p.perturb).1,more:=runEnd mask (leap mask p.i p.perturb).1 - (leap mask p.i p.perturb).1,i:=(leap mask p.i p.perturb).1,perturb:=(leap mask p.i p.perturb).2 }
theorem iJ (t:SetTable) (p:Probe):t.advance p=adv t.mask p:=by
 unfold SetTable.advance adv
 split
 ·rfl
 ·rfl
def start (mask:Nat) (h:Int):Probe:={ j:=bits h % (mask+1),more:=runEnd mask (bits h % (mask+1)) - bits h % (mask+1),i:=bits h % (mask+1),perturb:=bits h,dummy:=none }
def pth (mask:Nat) (h:Int):Nat→Probe
 | 0=> start mask h
 | n+1=> adv mask (pth mask h n)
def aN (mask:Nat) (h:Int):Nat→Nat×Nat
 | 0=> (bits h % (mask+1),bits h)
 | r+1=> leap mask (aN mask h r).1 (aN mask h r).2
theorem gM {mask:Nat}:∀ (m:Nat) (p:Probe) (f:Nat→Probe),f 0=p→(∀ n,f (n+1)=adv mask (f n))→m≤p.more→f m={ p with j:=p.j+m,more:=p.more - m }
 | 0,p,f,h0,_,_=> by rw [h0]; rfl
 | m+1,p,f,h0,hs,hm=> by
  rw [hs m,gM m p f h0 hs (by omega)]
  unfold adv
  rw [if_pos (by show p.more - m > 0; omega)]
  simp only [Probe.mk.injEq]
  exact ⟨by omega,by omega,trivial,trivial,trivial⟩
theorem ip (mask:Nat) (h:Int):∀ n,(pth mask h n).dummy=none
 | 0=> rfl
 | n+1=> by
  rw [pth]; unfold adv
  split
  ·exact ip mask h n
  ·exact ip mask h n
theorem oR (mask i:Nat):runEnd mask i - i≤9:=by unfold runEnd; split <;> omega
theorem nA (mask:Nat) (h:Int):∀ r,∃ n,n≤10 * r∧pth mask h n={ j:=(aN mask h r).1,more:=runEnd mask (aN mask h r).1 - (aN mask h r).1,i:=(aN mask h r).1,perturb:=(aN mask h r).2,dummy:=none }
 | 0=> ⟨0,Nat.le_refl _,rfl⟩
 | r+1=> by
  obtain ⟨n,hn,e⟩:=nA mask h r
  have hL:=oR mask (aN mask h r).1
  have step:=gM (mask:=mask) (runEnd mask (aN mask h r).1 - (aN mask h r).1) (pth mask h n) (fun m=> pth mask h (n+m)) rfl (fun m=> rfl) (by rw [e]; exact Nat.le_refl _)
  refine ⟨n+(runEnd mask (aN mask h r).1 - (aN mask h r).1)+1,by omega,?_⟩
  rw [pth]
  have step':pth mask h (n+(runEnd mask (aN mask h r).1 - (aN mask h r).1))=_:=step
  rw [step',e]
  unfold adv
  rw [if_neg (by simp)]
  rfl
theorem sC (h:Int):bits h < 2 ^ 64:=by
 unfold bits
 have h1:=Int.emod_nonneg h (show (2 ^ 64:Int)≠0 by decide)
 have h2:=Int.emod_lt_of_pos h (show (0:Int) < 2 ^ 64 by decide)
 omega
theorem jr (mask:Nat) (h:Int):∀ r,(aN mask h r).2=bits h / 32 ^ r
 | 0=> by simp [aN]
 | r+1=> by
  rw [aN]
  show (aN mask h r).2 / 32=_
  rw [jr mask h r,Nat.div_div_eq_div_mul,Nat.pow_succ]
theorem oC (mask:Nat) (h:Int) (r:Nat) (hr:12≤r):(aN mask h r).2 / 32=0:=by
 rw [jr]
 have h1:=sC h
 rw [Nat.div_div_eq_div_mul]
 apply Nat.div_eq_of_lt
 have:32 ^ 12 * 32≤32 ^ r * 32:=Nat.mul_le_mul_right _ (Nat.pow_le_pow_right (by decide) hr)
 exact Nat.lt_of_lt_of_le (Nat.lt_of_lt_of_le h1 (by decide)) this
def cK:Nat→Nat
 | 0=> 1
 | k+1=> cK k * (4 * cK k+2)
theorem pi:∀ k,∃ m,cK k=2 ^ k * (2 * m+1)
 | 0=> ⟨0,by simp [cK]⟩
 | k+1=> by
  obtain ⟨m,e⟩:=pi k
  refine ⟨2 * (cK k) * m+m+cK k,?_⟩
  rw [cK,Nat.pow_succ]
  have:cK k * (4 * cK k+2)=2 ^ k * (2 * m+1) * (4 * cK k+2):=by rw [← e]
  rw [this]
  generalize cK k=c
  generalize 2 ^ k=p
  grind
def eU:Nat→Nat→Nat
 | 0,x=> x
 | n+1,x=> 5 * eU n x+1
theorem gZ (m x:Nat):∀ n,eU (m+n) x=eU n (eU m x)
 | 0=> rfl
 | n+1=> by rw [← Nat.add_assoc,eU,gZ m x n,eU]
theorem iz:∀ (k x:Nat),eU (2 ^ k) x=(1+4 * cK k) * x+cK k
 | 0,x=> by simp [eU,cK]
 | k+1,x=> by
  rw [Nat.pow_succ,Nat.mul_two,gZ,iz k,iz k,cK]
  generalize cK k=c
  grind
theorem mB (k x:Nat):eU (2 ^ k) x % 2 ^ (k+1)=(x+2 ^ k) % 2 ^ (k+1):=by
 rw [iz]
 obtain ⟨m,e⟩:=pi k
 rw [e]
 have:(1+4 * (2 ^ k * (2 * m+1))) * x+2 ^ k * (2 * m+1)=(x+2 ^ k)+2 ^ (k+1) * (2 * (2 * m+1) * x+m):=by
  rw [Nat.pow_succ]
  generalize 2 ^ k=p
  grind
 rw [this,Nat.add_mul_mod_self_left]
theorem fi (x:Nat):∀ (k y:Nat),∃ n,n < 2 ^ k∧eU n x % 2 ^ k=y % 2 ^ k
 | 0,y=> ⟨0,by simp,by simp [Nat.mod_one]⟩
 | k+1,y=> by
  obtain ⟨n,hn,e⟩:=fi x k y
  have hp:2 ^ (k+1)=2 ^ k+2 ^ k:=by rw [Nat.pow_succ]; omega
  have h2:0 < 2 ^ k:=Nat.pow_pos (by decide)
  by_cases h:eU n x % 2 ^ (k+1)=y % 2 ^ (k+1)
  ·exact ⟨n,by omega,h⟩
  ·refine ⟨n+2 ^ k,by omega,?_⟩
   rw [gZ,mB]
   generalize eU n x=z at *
   have d1:z % 2 ^ (k+1) % 2 ^ k=z % 2 ^ k:=Nat.mod_mod_of_dvd _ ⟨2,by rw [Nat.pow_succ]⟩
   have d2:y % 2 ^ (k+1) % 2 ^ k=y % 2 ^ k:=Nat.mod_mod_of_dvd _ ⟨2,by rw [Nat.pow_succ]⟩
   have l1:=Nat.mod_lt z (show 0 < 2 ^ (k+1) by omega)
   have l2:=Nat.mod_lt y (show 0 < 2 ^ (k+1) by omega)
   rw [← Nat.mod_add_mod]
   rw [← d1,← d2] at e
   generalize z % 2 ^ (k+1)=a at *
   generalize y % 2 ^ (k+1)=b at *
   rw [hp] at *
   generalize 2 ^ k=p at *
   have ea:a % p=if a < p then a else a - p:=by
    split
    ·exact Nat.mod_eq_of_lt (by assumption)
    ·rw [Nat.mod_eq_sub_mod (by omega),Nat.mod_eq_of_lt (by omega)]
   have eb:b % p=if b < p then b else b - p:=by
    split
    ·exact Nat.mod_eq_of_lt (by assumption)
    ·rw [Nat.mod_eq_sub_mod (by omega),Nat.mod_eq_of_lt (by omega)]
   rw [ea,eb] at e
   by_cases ha:a < p
   ·rw [if_pos ha] at e
    rw [Nat.mod_eq_of_lt (by omega)]
    split at e <;> omega
   ·rw [if_neg ha] at e
    rw [Nat.mod_eq_sub_mod (by omega),Nat.mod_eq_of_lt (by omega)]
    split at e <;> omega
theorem iI {mask k:Nat} (hk:mask+1=2 ^ k) (h:Int):∀ q,(aN mask h (12+q)).1=eU q (aN mask h 12).1 % 2 ^ k
 | 0=> by
  rw [eU]
  have:(aN mask h 12).1 < 2 ^ k:=by
   rw [← hk]
   show (leap mask (aN mask h 11).1 (aN mask h 11).2).1 < _
   exact Nat.mod_lt _ (by omega)
  exact (Nat.mod_eq_of_lt this).symm
 | q+1=> by
  show (leap mask (aN mask h (12+q)).1 (aN mask h (12+q)).2).1=_
  unfold leap
  simp only [oC mask h (12+q) (by omega)]
  rw [iI hk h q,hk,eU,Nat.add_zero,Nat.mul_comm 5 _]
  generalize eU q (aN mask h 12).1=z
  generalize 2 ^ k=m
  rw [Nat.add_mod,Nat.mod_mul_mod,← Nat.add_mod]
theorem cover {mask k:Nat} (hk:mask+1=2 ^ k) (h:Int) (s:Nat) (hs:s≤mask):∃ n,n < 10 * turns mask∧(pth mask h n).j=s:=by
 obtain ⟨q,hq,e⟩:=fi (aN mask h 12).1 k s
 obtain ⟨n,hn,en⟩:=nA mask h (12+q)
 refine ⟨n,?_,?_⟩
 ·unfold turns; omega
 ·rw [en]
  show (aN mask h (12+q)).1=s
  rw [iI hk h q,e]
  exact Nat.mod_eq_of_lt (by omega)
end ST
namespace ST
open PySem PySem.SetTable
def Liv (t:SetTable) (j:Nat):Prop:=∃ i:Nat,t.place[i]?=some j
structure TOk (t:SetTable) (hs:List Int):Prop where
 R:Ris t.place
 d:t.dummies=#[]
 k:∃ k,3≤k∧t.mask+1=2 ^ k
 n:t.place.size=hs.length
 f:t.place.size≤t.mask
 le:∀ (i x:Nat),t.place[i]?=some x→x≤t.mask
 reach:∀ (i j:Nat) (h:Int),t.place[i]?=some j→hs[i]?=some h→∃ m,(pth t.mask h m).j=j∧∀ m',m' < m→Liv t (pth t.mask h m').j
theorem least {P:Nat→Prop}:∀ n,P n→∃ m,m≤n∧P m∧∀ k,k < m→¬ P k:=by
 intro n
 induction n using Nat.strongRecOn with
 | _ n ih=>
  intro h
  by_cases hk:∃ k,k < n∧P k
  ·obtain ⟨k,hk,hp⟩:=hk
   obtain ⟨m,h1,h2,h3⟩:=ih k hk hp
   exact ⟨m,by omega,h2,h3⟩
  ·exact ⟨n,Nat.le_refl _,h,fun k hk' hp=> hk ⟨k,hk',hp⟩⟩
theorem mF {t:SetTable} {hs:List Int} (T:TOk t hs) (h:Int):∃ N,N < 10 * turns t.mask∧¬ Liv t (pth t.mask h N).j∧∀ m,m < N→Liv t (pth t.mask h m).j:=by
 obtain ⟨s,hs1,hs2⟩:=nX T.R T.f
 obtain ⟨k,_,hk⟩:=T.k
 obtain ⟨n,hn,e⟩:=cover hk h s hs1
 obtain ⟨m,h1,h2,h3⟩:=least (P:=fun n=> ¬ Liv t (pth t.mask h n).j) n (by show ¬ Liv t (pth t.mask h n).j; rw [e]; rintro ⟨i,hi⟩; exact hs2 i hi)
 exact ⟨m,by omega,h2,fun k hk'=> Classical.byContradiction fun z=> h3 k hk' z⟩
theorem kg {t:SetTable} {hs:List Int} (T:TOk t hs) (hashAt:Nat→Int) (h:Int) {N:Nat} (h0:¬ Liv t (pth t.mask h N).j) (h1:∀ m,m < N→Liv t (pth t.mask h m).j):∀ (fuel n:Nat),n≤N→N - n < fuel→
  (probe.go t hashAt h fuel (pth t.mask h n)=some (.empty (pth t.mask h N).j none)∧∀ (m i:Nat),n≤m→m < N→t.place[i]?=some (pth t.mask h m).j→hashAt i≠h)∨
  ∃ m i:Nat,n≤m∧m < N∧t.place[i]?=some (pth t.mask h m).j∧hashAt i=h∧probe.go t hashAt h fuel (pth t.mask h n)=some (.candidate (pth t.mask h m).j i (pth t.mask h (m+1)))∧
   ∀ (m' i':Nat),n≤m'→m' < m→t.place[i']?=some (pth t.mask h m').j→hashAt i'≠h
 | 0,n,_,hf=> by omega
 | fuel+1,n,hn,hf=> by
  rw [probe.go]
  rcases ml T.R T.d (pth t.mask h n).j with ⟨e,hno⟩ | ⟨i,e,hi⟩
  ·have hN:n=N:=by
    rcases Nat.lt_or_eq_of_le hn with z | z
    ·obtain ⟨i,hi⟩:=h1 n z; exact absurd hi (hno i)
    ·exact z
   subst hN
   refine .inl ⟨by simp only [e,ip],fun m i z1 z2=> by omega⟩
  ·have hN:n < N:=by
    rcases Nat.lt_or_eq_of_le hn with z | z
    ·exact z
    ·subst z; exact absurd ⟨i,hi⟩ h0
   simp only [e]
   by_cases hh:hashAt i=h
   ·refine .inr ⟨n,i,Nat.le_refl _,hN,hi,hh,?_,fun m' i' z1 z2=> by omega⟩
    simp only [hh,beq_self_eq_true,if_true,iJ]
    rfl
   ·have hb:(hashAt i==h)=false:=by simpa using hh
    simp only [hb,Bool.false_eq_true,if_false,iJ]
    have ih:=kg T hashAt h h0 h1 fuel (n+1) (by omega) (by omega)
    rcases ih with ⟨q1,q2⟩ | ⟨m,i2,q1,q2,q3,q4,q5,q6⟩
    ·refine .inl ⟨q1,fun m i' z1 z2 z3=> ?_⟩
     rcases Nat.lt_or_eq_of_le z1 with z | z
     ·exact q2 m i' z z2 z3
     ·subst z
      rw [T.R.inj z3 hi]; exact hh
    ·refine .inr ⟨m,i2,by omega,q2,q3,q4,q5,fun m' i' z1 z2 z3=> ?_⟩
     rcases Nat.lt_or_eq_of_le z1 with z | z
     ·exact q6 m' i' z z2 z3
     ·subst z
      rw [T.R.inj z3 hi]; exact hh
theorem rm {t:SetTable} {hs:List Int} (T:TOk t hs) {h:Int} {N i:Nat} (h0:¬ Liv t (pth t.mask h N).j) (hi:hs[i]?=some h):∃ (m j:Nat),m < N∧t.place[i]?=some j∧(pth t.mask h m).j=j:=by
 have hlt:i < t.place.size:=by rw [T.n]; exact (List.getElem?_eq_some_iff.mp hi).1
 obtain ⟨m,e,hm⟩:=T.reach i _ h (c_ hlt) hi
 refine ⟨m,_,?_,c_ hlt,e⟩
 rcases Nat.lt_trichotomy m N with z | z | z
 ·exact z
 ·subst z; exact absurd ⟨i,by rw [e]; exact c_ hlt⟩ h0
 ·exact absurd (hm N z) h0
theorem dg {α:Type} (xs:Array α) (p:Nat) (x:α):(insertAt xs p x).toList=xs.toList.take p++x::xs.toList.drop p:=by
 unfold insertAt
 simp [Array.toList_extract]
 exact List.take_of_length_le (by simp)
theorem bT {α:Type} {xs:Array α} {p:Nat} {x:α} (hp:p≤xs.size) (i:Nat):(insertAt xs p x)[i]?=if i < p then xs[i]? else if i=p then some x else xs[i - 1]?:=by
 rw [← Array.getElem?_toList,dg]
 have hl:(xs.toList.take p).length=p:=by simp; omega
 by_cases h1:i < p
 ·rw [if_pos h1,List.getElem?_append_left (by omega),List.getElem?_take_of_lt h1,Array.getElem?_toList]
 ·rw [if_neg h1,List.getElem?_append_right (by omega),hl]
  by_cases h2:i=p
  ·subst h2; simp
  ·rw [if_neg h2]
   obtain ⟨q,hq⟩:∃ q,i - p=q+1:=⟨i - p - 1,by omega⟩
   rw [hq,List.getElem?_cons_succ,List.getElem?_drop,Array.getElem?_toList]
   congr 1; omega
theorem eX {α:Type} (xs:Array α) (p:Nat) (x:α) (hp:p≤xs.size):(insertAt xs p x).size=xs.size+1:=by
 rw [← Array.length_toList,dg]; simp; omega
def eV {α:Type} (xs:List α) (p:Nat) (x:α):List α:=xs.take p++x::xs.drop p
theorem p9 {α:Type} {xs:List α} {p:Nat} {x:α} (hp:p≤xs.length) (i:Nat):(eV xs p x)[i]?=if i < p then xs[i]? else if i=p then some x else xs[i - 1]?:=by
 unfold eV
 have hl:(xs.take p).length=p:=by simp; omega
 by_cases h1:i < p
 ·rw [if_pos h1,List.getElem?_append_left (by omega),List.getElem?_take_of_lt h1]
 ·rw [if_neg h1,List.getElem?_append_right (by omega),hl]
  by_cases h2:i=p
  ·subst h2; simp
  ·rw [if_neg h2]
   obtain ⟨q,hq⟩:∃ q,i - p=q+1:=⟨i - p - 1,by omega⟩
   rw [hq,List.getElem?_cons_succ,List.getElem?_drop]
   congr 1; omega
theorem rZ {xs:Array Nat} (R:Ris xs) {j:Nat} (hno:∀ i:Nat,xs[i]?≠some j):Ris (insertAt xs (below xs j) j):=by
 obtain ⟨h1,h2,h3⟩:=dC R j
 have gt:∀ (i x:Nat),below xs j≤i→xs[i]?=some x→j < x:=fun i x hi hx=> by
  rcases Nat.lt_or_eq_of_le (h2 i x hi hx) with z | z
  ·exact z
  ·subst z; exact absurd hx (hno i)
 intro a b x y hab hx hy
 rw [bT h3] at hx hy
 by_cases a1:a < below xs j
 ·rw [if_pos a1] at hx
  by_cases b1:b < below xs j
  ·rw [if_pos b1] at hy; exact R a b x y hab hx hy
  ·rw [if_neg b1] at hy
   by_cases b2:b=below xs j
   ·rw [if_pos b2] at hy; cases hy; exact h1 a x a1 hx
   ·rw [if_neg b2] at hy; exact R a (b - 1) x y (by omega) hx hy
 ·rw [if_neg a1] at hx
  have b1:¬ b < below xs j:=by omega
  rw [if_neg b1] at hy
  have b2:¬ b=below xs j:=by omega
  rw [if_neg b2] at hy
  by_cases a2:a=below xs j
  ·rw [if_pos a2] at hx; cases hx; exact gt (b - 1) y (by omega) hy
  ·rw [if_neg a2] at hx; exact R (a - 1) (b - 1) x y (by omega) hx hy
theorem nR {xs:Array Nat} {p j:Nat} (hp:p≤xs.size) (s:Nat):(∃ i:Nat,(insertAt xs p j)[i]?=some s)↔s=j∨∃ i:Nat,xs[i]?=some s:=by
 constructor
 ·rintro ⟨i,hi⟩
  rw [bT hp] at hi
  split at hi
  ·exact .inr ⟨i,hi⟩
  ·split at hi
   ·cases hi; exact .inl rfl
   ·exact .inr ⟨i - 1,hi⟩
 ·rintro (rfl | ⟨i,hi⟩)
  ·exact ⟨p,by rw [bT hp,if_neg (Nat.lt_irrefl _),if_pos rfl]⟩
  ·by_cases h:i < p
   ·exact ⟨i,by rw [bT hp,if_pos h]; exact hi⟩
   ·exact ⟨i+1,by rw [bT hp,if_neg (by omega),if_neg (by omega)]; simpa using hi⟩
theorem TOk.put {t:SetTable} {hs:List Int} (T:TOk t hs) {h:Int} {N:Nat} (h0:¬ Liv t (pth t.mask h N).j) (h1:∀ m,m < N→Liv t (pth t.mask h m).j) (hle:(pth t.mask h N).j≤t.mask) (hf:t.place.size+1≤t.mask):
  TOk (t.put (pth t.mask h N).j).1 (eV hs (t.put (pth t.mask h N).j).2 h):=by
 have hno:∀ i:Nat,t.place[i]?≠some (pth t.mask h N).j:=fun i e=> h0 ⟨i,e⟩
 obtain ⟨_,_,hb⟩:=dC T.R (pth t.mask h N).j
 have hbl:below t.place (pth t.mask h N).j≤hs.length:=by rw [← T.n]; exact hb
 have ed:(if SetTable.has t.dummies (pth t.mask h N).j then eraseAt t.dummies (below t.dummies (pth t.mask h N).j) else t.dummies)=#[]:=by
  rw [T.d]; simp [SetTable.has]
 unfold SetTable.put
 simp only [ed]
 refine ⟨rZ T.R hno,rfl,T.k,?_,?_,fun i x e=> ?_,fun i j hh e1 e2=> ?_⟩
 ·show (insertAt _ _ _).size=(eV hs _ h).length
  rw [eX _ _ _ hb,T.n]; unfold eV; simp; omega
 ·show (insertAt _ _ _).size≤t.mask
  rw [eX _ _ _ hb]; exact hf
 ·rcases (nR hb x).mp ⟨i,e⟩ with z | ⟨q,hq⟩
  ·rw [z]; exact hle
  ·exact T.le q x hq
 ·have liv:∀ s,Liv t s→Liv { t with place:=insertAt t.place (below t.place (pth t.mask h N).j) (pth t.mask h N).j,dummies:=#[] } s:=fun s z=> (nR hb s).mpr (.inr z)
  change (insertAt t.place _ _)[i]?=some j at e1
  rw [bT hb] at e1
  rw [p9 hbl] at e2
  split at e1
  ·rename_i z
   rw [if_pos z] at e2
   obtain ⟨m,q1,q2⟩:=T.reach i j hh e1 e2
   exact ⟨m,q1,fun m' hm=> liv _ (q2 m' hm)⟩
  ·rename_i z
   rw [if_neg z] at e2
   split at e1
   ·rename_i z2
    rw [if_pos z2] at e2
    cases e1; cases e2
    exact ⟨N,rfl,fun m' hm=> liv _ (h1 m' hm)⟩
   ·rename_i z2
    rw [if_neg z2] at e2
    obtain ⟨m,q1,q2⟩:=T.reach (i - 1) j hh e1 e2
    exact ⟨m,q1,fun m' hm=> liv _ (q2 m' hm)⟩
theorem qG {mask:Nat} (h:Int):∀ n,(pth mask h n).j+(pth mask h n).more≤mask
 | 0=> by
  show bits h % (mask+1)+(runEnd mask (bits h % (mask+1)) - bits h % (mask+1))≤mask
  have:=Nat.mod_lt (bits h) (show 0 < mask+1 by omega)
  unfold runEnd; split <;> omega
 | n+1=> by
  have ih:=qG (mask:=mask) h n
  rw [pth]; unfold adv
  split
  ·simp only; omega
  ·show (leap mask _ _).1+(runEnd mask (leap mask _ _).1 - (leap mask _ _).1)≤mask
   have:(leap mask (pth mask h n).i (pth mask h n).perturb).1 < mask+1:=Nat.mod_lt _ (by omega)
   unfold runEnd; split <;> omega
end ST
namespace ST
open PySem PySem.SetTable
def OL (owner:Array (Option Nat)) (j:Nat):Prop:=∃ k:Nat,owner[j]?=some (some k)
def nr (mask:Nat) (h:Int):Nat→Nat
 | 0=> 0
 | r+1=> nr mask h r+(runEnd mask (aN mask h r).1 - (aN mask h r).1)+1
theorem ut (mask:Nat) (h:Int):∀ r,pth mask h (nr mask h r)={ j:=(aN mask h r).1,more:=runEnd mask (aN mask h r).1 - (aN mask h r).1,i:=(aN mask h r).1,perturb:=(aN mask h r).2,dummy:=none }
 | 0=> rfl
 | r+1=> by
  have e:=ut mask h r
  have step:=gM (mask:=mask) (runEnd mask (aN mask h r).1 - (aN mask h r).1) (pth mask h (nr mask h r)) (fun m=> pth mask h (nr mask h r+m)) rfl (fun m=> rfl) (by rw [e]; exact Nat.le_refl _)
  have step':pth mask h (nr mask h r+(runEnd mask (aN mask h r).1 - (aN mask h r).1))=_:=step
  rw [nr,pth,step',e]
  unfold adv
  rw [if_neg (by simp)]
  rfl
theorem mJ (mask:Nat) (h:Int) (r k:Nat) (hk:k≤runEnd mask (aN mask h r).1 - (aN mask h r).1):(pth mask h (nr mask h r+k)).j=(aN mask h r).1+k:=by
 have e:=ut mask h r
 have step:=gM (mask:=mask) k (pth mask h (nr mask h r)) (fun m=> pth mask h (nr mask h r+m)) rfl (fun m=> rfl) (by rw [e]; exact hk)
 have step':pth mask h (nr mask h r+k)=_:=step
 rw [step',e]
theorem oB (mask i:Nat):i≤runEnd mask i:=by unfold runEnd; split <;> omega
theorem rY (mask:Nat) (h:Int):∀ r,(aN mask h r).1≤mask
 | 0=> Nat.le_of_lt_succ (Nat.mod_lt _ (by omega))
 | r+1=> Nat.le_of_lt_succ (Nat.mod_lt _ (by omega))
theorem kK {mask i:Nat} (h:i≤mask):runEnd mask i≤mask:=by unfold runEnd; split <;> omega
theorem mZ {mask:Nat} {owner:Array (Option Nat)} (hsz:owner.size=mask+1) (h:Int):∀ (fuel r:Nat),(∃ r',r≤r'∧r' < r+fuel∧owner[(aN mask h r').1]?=some none)→(∀ m,m < nr mask h r→OL owner (pth mask h m).j)→
  ∃ N,layClean.free mask owner fuel (aN mask h r).1 (aN mask h r).2=some (pth mask h N).j∧owner[(pth mask h N).j]?=some none∧∀ m,m < N→OL owner (pth mask h m).j
 | 0,r,⟨r',h1,h2,_⟩,_=> by omega
 | fuel+1,r,hex,hl=> by
  rw [layClean.free]
  have hge:=oB mask (aN mask h r).1
  have hmk:=kK (rY mask h r)
  have hin:∀ k,k < runEnd mask (aN mask h r).1+1 - (aN mask h r).1→(aN mask h r).1+k < owner.size:=fun k hk=> by omega
  cases hf:(List.range (runEnd mask (aN mask h r).1+1 - (aN mask h r).1)).find? fun k=> (owner.getD ((aN mask h r).1+k) (some 0)).isNone with
  | some k=>
   obtain ⟨p1,p2,p3⟩:=List.find?_range_eq_some.mp hf
   have hk:=List.mem_range.mp p2
   have hlt:=hin k hk
   have e1:owner[(aN mask h r).1+k]?=some none:=by
    have:owner.getD ((aN mask h r).1+k) (some 0)=owner[(aN mask h r).1+k]:=by simp [Array.getD,hlt]
    rw [this] at p1
    have:owner[(aN mask h r).1+k]=none:=by simpa using p1
    simp [hlt,this]
   have ej:=mJ mask h r k (by omega)
   refine ⟨nr mask h r+k,by simp only [ej],by rw [ej]; exact e1,fun m hm=> ?_⟩
   by_cases hm1:m < nr mask h r
   ·exact hl m hm1
   ·obtain ⟨q,rfl⟩:∃ q,m=nr mask h r+q:=⟨m - nr mask h r,by omega⟩
    have hq:=p3 q (by omega)
    have hlt2:=hin q (by omega)
    rw [mJ mask h r q (by omega)]
    have:owner.getD ((aN mask h r).1+q) (some 0)=owner[(aN mask h r).1+q]:=by simp [Array.getD,hlt2]
    rw [this] at hq
    cases hv:owner[(aN mask h r).1+q] with
    | none=> rw [hv] at hq; simp at hq
    | some v=> exact ⟨v,by simp [hlt2,hv]⟩
  | none=>
   have hall:∀ q,q < runEnd mask (aN mask h r).1+1 - (aN mask h r).1→OL owner ((aN mask h r).1+q):=fun q hq=> by
    have:=List.find?_eq_none.mp hf q (List.mem_range.mpr hq)
    have hlt2:=hin q hq
    have e:owner.getD ((aN mask h r).1+q) (some 0)=owner[(aN mask h r).1+q]:=by simp [Array.getD,hlt2]
    rw [e] at this
    cases hv:owner[(aN mask h r).1+q] with
    | none=> rw [hv] at this; simp at this
    | some v=> exact ⟨v,by simp [hlt2,hv]⟩
   have next:=mZ hsz h fuel (r+1) (by
    obtain ⟨r',h1,h2,h3⟩:=hex
    refine ⟨r',?_,by omega,h3⟩
    rcases Nat.lt_or_eq_of_le h1 with z | z
    ·exact z
    ·subst z
     obtain ⟨v,hv⟩:=hall 0 (by omega)
     rw [Nat.add_zero,h3] at hv
     cases hv) (fun m hm=> by
    by_cases hm1:m < nr mask h r
    ·exact hl m hm1
    ·obtain ⟨q,rfl⟩:∃ q,m=nr mask h r+q:=⟨m - nr mask h r,by omega⟩
     have hm2:nr mask h r+q < nr mask h r+(runEnd mask (aN mask h r).1 - (aN mask h r).1)+1:=hm
     rw [mJ mask h r q (by omega)]
     exact hall q (by omega))
   exact next
structure OI (mask:Nat) (owner:Array (Option Nat)) (hs:List Int):Prop where
 sz:owner.size=mask+1
 lt:∀ (j k:Nat),owner[j]?=some (some k)→k < hs.length
 inj:∀ (i j k:Nat),owner[i]?=some (some k)→owner[j]?=some (some k)→i=j
 all:∀ k:Nat,k < hs.length→∃ j:Nat,owner[j]?=some (some k)
 reach:∀ (j k:Nat) (h:Int),owner[j]?=some (some k)→hs[k]?=some h→∃ m,(pth mask h m).j=j∧∀ m',m' < m→OL owner (pth mask h m').j
theorem OI.free {mask:Nat} {owner:Array (Option Nat)} {hs:List Int} (O:OI mask owner hs) (hn:hs.length≤mask):∃ s,s≤mask∧owner[s]?=some none:=by
 apply Classical.byContradiction
 intro hno
 have hlive:∀ s,s≤mask→OL owner s:=fun s hs'=> by
  have hlt:s < owner.size:=by rw [O.sz]; omega
  cases e:owner[s] with
  | none=> exact absurd ⟨s,hs',by simp [hlt,e]⟩ hno
  | some k=> exact ⟨k,by simp [hlt,e]⟩
 have nd:((List.range (mask+1)).map fun s=> (owner.getD s none).getD 0).Nodup:=by
  rw [List.nodup_iff_pairwise_ne,List.pairwise_map]
  refine List.Pairwise.imp_of_mem ?_ (List.pairwise_lt_range (n:=mask+1))
  intro a b ha hb hab e
  obtain ⟨k1,h1⟩:=hlive a (by have:=List.mem_range.mp ha; omega)
  obtain ⟨k2,h2⟩:=hlive b (by have:=List.mem_range.mp hb; omega)
  have e1:(owner.getD a none).getD 0=k1:=by simp [Array.getD_eq_getD_getElem?,h1]
  have e2:(owner.getD b none).getD 0=k2:=by simp [Array.getD_eq_getD_getElem?,h2]
  rw [e1,e2] at e
  subst e
  have:=O.inj a b k1 h1 h2
  omega
 have sub:((List.range (mask+1)).map fun s=> (owner.getD s none).getD 0) ⊆ List.range hs.length:=by
  intro x hx
  obtain ⟨s,hs1,rfl⟩:=List.mem_map.mp hx
  obtain ⟨k1,h1⟩:=hlive s (by have:=List.mem_range.mp hs1; omega)
  have e1:(owner.getD s none).getD 0=k1:=by simp [Array.getD_eq_getD_getElem?,h1]
  rw [e1]
  exact List.mem_range.mpr (O.lt s k1 h1)
 have:=List.Nodup.length_le_of_subset nd sub
 simp at this
 omega
theorem OI.step {mask k:Nat} (hk:mask+1=2 ^ k) {owner:Array (Option Nat)} {hs:List Int} (O:OI mask owner hs) (hn:hs.length≤mask) (h:Int):
  ∃ j,layClean.free mask owner (turns mask) (bits h % (mask+1)) (bits h)=some j∧OI mask (owner.setIfInBounds j (some hs.length)) (hs++[h]):=by
 obtain ⟨s,hs1,hs2⟩:=O.free hn
 obtain ⟨q,hq,e⟩:=fi (aN mask h 12).1 k s
 have er:(aN mask h (12+q)).1=s:=by rw [iI hk h q,e]; exact Nat.mod_eq_of_lt (by omega)
 obtain ⟨N,f1,f2,f3⟩:=mZ O.sz h (turns mask) 0 ⟨12+q,Nat.zero_le _,by unfold turns; omega,by rw [er]; exact hs2⟩ (fun m hm=> absurd hm (Nat.not_lt_zero _))
 refine ⟨_,f1,?_⟩
 generalize hj:(pth mask h N).j=j at *
 have hjs:j < owner.size:=(Array.getElem?_eq_some_iff.mp f2).1
 have get:∀ i:Nat,(owner.setIfInBounds j (some hs.length))[i]?=if j=i then some (some hs.length) else owner[i]?:=fun i=> by
  rw [Array.getElem?_setIfInBounds]
  split
  ·rename_i z; subst z; simp [hjs]
  ·rfl
 have liv:∀ i,OL owner i→OL (owner.setIfInBounds j (some hs.length)) i:=fun i ⟨v,hv⟩=> by
  refine ⟨v,?_⟩
  rw [get,if_neg (fun z=> by subst z; rw [f2] at hv; cases hv)]
  exact hv
 refine ⟨by simp [O.sz],fun i v e=> ?_,fun a b v e1 e2=> ?_,fun v hv=> ?_,fun i v hh e1 e2=> ?_⟩
 ·rw [get] at e
  split at e
  ·cases e; simp
  ·have:=O.lt i v e; simp; omega
 ·rw [get] at e1 e2
  split at e1 <;> split at e2
  ·omega
  ·cases e1; exact absurd (O.lt b _ e2) (Nat.lt_irrefl _)
  ·cases e2; exact absurd (O.lt a _ e1) (Nat.lt_irrefl _)
  ·exact O.inj a b v e1 e2
 ·simp at hv
  rcases Nat.lt_or_eq_of_le (Nat.le_of_lt_succ hv) with z | z
  ·obtain ⟨i,hi⟩:=O.all v z
   refine ⟨i,?_⟩
   rw [get,if_neg (fun y=> by subst y; rw [f2] at hi; cases hi)]
   exact hi
  ·subst z; exact ⟨j,by rw [get,if_pos rfl]⟩
 ·rw [get] at e1
  split at e1
  ·rename_i z
   cases e1
   rw [List.getElem?_append_right (Nat.le_refl _)] at e2
   simp at e2
   subst e2
   exact ⟨N,by rw [hj]; exact z,fun m hm=> liv _ (f3 m hm)⟩
  ·have hv:=O.lt i v e1
   rw [List.getElem?_append_left hv] at e2
   obtain ⟨m,q1,q2⟩:=O.reach i v hh e1 e2
   exact ⟨m,q1,fun m' hm=> liv _ (q2 m' hm)⟩
theorem mX {mask k:Nat} (hk:mask+1=2 ^ k):∀ (more done:List Int) (owner:Array (Option Nat)),OI mask owner done→done.length+more.length≤mask+1→∃ owner',more.foldl (fun acc h=> do
  let (owner,k) ← acc
  let j ← layClean.free mask owner (turns mask) (bits h % (mask+1)) (bits h)
  pure (owner.setIfInBounds j (some k),k+1)) (some (owner,done.length))=some (owner',done.length+more.length)∧OI mask owner' (done++more)
 | [],done,owner,O,_=> ⟨owner,by simp,by simpa using O⟩
 | h::more,done,owner,O,hl=> by
  obtain ⟨j,e,O2⟩:=O.step hk (by simp at hl; omega) h
  obtain ⟨ow,e2,O3⟩:=mX hk more (done++[h]) _ O2 (by simp at hl ⊢; omega)
  refine ⟨ow,?_,by simpa using O3⟩
  rw [List.foldl_cons]
  have:(do
   let (owner,k) ← some (owner,done.length)
   let j ← layClean.free mask owner (turns mask) (bits h % (mask+1)) (bits h)
   pure (owner.setIfInBounds j (some k),k+1):Option (Array (Option Nat)×Nat))=some (owner.setIfInBounds j (some done.length),done.length+1):=by
   simp [e]
  rw [this]
  simp only [List.length_append,List.length_singleton] at e2
  rw [e2]
  simp; omega
theorem kr {mask k:Nat} (hk:mask+1=2 ^ k) {hs:Array Int} (hl:hs.size≤mask+1):∃ owner,layClean mask hs=some owner∧OI mask owner hs.toList:=by
 have O0:OI mask (Array.replicate (mask+1) none) []:=⟨by simp,fun j k e=> by simp [Array.getElem?_replicate] at e,fun i j k e=> by simp [Array.getElem?_replicate] at e,fun k h=> by simp at h,fun j k h e=> by simp [Array.getElem?_replicate] at e⟩
 obtain ⟨ow,e,O⟩:=mX hk hs.toList [] _ O0 (by simpa using hl)
 refine ⟨ow,?_,by simpa using O⟩
 unfold layClean
 rw [← Array.foldl_toList]
 simp only [List.length_nil] at e
 rw [e]
 rfl
end ST
namespace ST
open PySem PySem.SetTable
theorem kB (n:Nat):∀ (fuel k:Nat),n < 2 ^ (k+fuel)→∃ k',k≤k'∧sizeAbove.go n fuel (2 ^ k)=2 ^ k'∧n < 2 ^ k'∧(2 ^ k'≤2 * n∨k'=k)
 | 0,k,h=> ⟨k,Nat.le_refl _,rfl,by simpa using h,.inr rfl⟩
 | fuel+1,k,h=> by
  rw [sizeAbove.go]
  by_cases hle:2 ^ k≤n
  ·rw [if_pos hle,← Nat.pow_succ]
   obtain ⟨k',h1,h2,h3,h4⟩:=kB n fuel (k+1) (by rw [show k+1+fuel=k+(fuel+1) by omega]; exact h)
   refine ⟨k',by omega,h2,h3,.inl ?_⟩
   rcases h4 with z | z
   ·exact z
   ·subst z; rw [Nat.pow_succ]; omega
  ·rw [if_neg hle]
   exact ⟨k,Nat.le_refl _,rfl,by omega,.inr rfl⟩
theorem above (n:Nat) (h:n < 2 ^ 60):∃ k,3≤k∧sizeAbove n=2 ^ k∧n < 2 ^ k∧2 ^ k≤2 * n+8:=by
 obtain ⟨k,h1,h2,h3,h4⟩:=kB n 64 3 (Nat.lt_of_lt_of_le h (Nat.pow_le_pow_right (by decide) (by decide)))
 refine ⟨k,h1,h2,h3,?_⟩
 rcases h4 with z | z
 ·omega
 ·subst z; omega
def cE (mask:Nat) (owner:Array (Option Nat)):List (Nat×Nat):=(List.range (mask+1)).filterMap fun j=> (owner.getD j none).map (j,·)
theorem kf (owner:Array (Option Nat)):∀ l:List Nat,(l.filterMap fun j=> (owner.getD j none).map (j,·)).map (·.1)=l.filter fun j=> (owner.getD j none).isSome
 | []=> rfl
 | a::l=> by
  have ih:=kf owner l
  rw [List.filterMap_cons,List.filter_cons]
  cases owner.getD a none with
  | none=> simpa using ih
  | some v=> simpa using ih
theorem cV {mask:Nat} {owner:Array (Option Nat)} (hsz:owner.size=mask+1) (j k:Nat):(j,k)∈cE mask owner↔owner[j]?=some (some k):=by
 unfold cE
 rw [List.mem_filterMap]
 constructor
 ·rintro ⟨a,ha,e⟩
  have hlt:a < owner.size:=by rw [hsz]; exact List.mem_range.mp ha
  cases hv:owner.getD a none with
  | none=> rw [hv] at e; cases e
  | some v=>
   rw [hv] at e
   cases e
   have:owner.getD j none=owner[j]:=by simp [Array.getD,hlt]
   rw [this] at hv
   simp [hlt,hv]
 ·intro e
  have hlt:=(Array.getElem?_eq_some_iff.mp e).1
  refine ⟨j,List.mem_range.mpr (by omega),?_⟩
  rw [Array.getD_eq_getD_getElem?,e]; rfl
theorem oI (mask:Nat) (owner:Array (Option Nat)):(cE mask owner).Pairwise fun a b=> a.1 < b.1:=by
 have:=(List.pairwise_lt_range (n:=mask+1)).filter fun j=> (owner.getD j none).isSome
 rw [← kf owner (List.range (mask+1)),List.pairwise_map] at this
 exact this
theorem vI {l:List Nat} (h:l.Pairwise (· < ·)):Ris l.toArray:=by
 intro i j x y hij hx hy
 rw [List.getElem?_toArray] at hx hy
 obtain ⟨h1,e1⟩:=List.getElem?_eq_some_iff.mp hx
 obtain ⟨h2,e2⟩:=List.getElem?_eq_some_iff.mp hy
 have:=List.pairwise_iff_getElem.mp h i j h1 h2 hij
 rw [e1,e2] at this
 exact this
theorem sV {mask k:Nat} (h3:3≤k) (hk:mask+1=2 ^ k) {hs:Array Int} (hl:hs.size≤mask) (finger moves:Nat) (led plain:Bool):
  ∃ t order,laid mask finger moves led plain hs=some (t,order)∧TOk t (order.toList.map fun i=> hs.getD i 0)∧order.toList.Perm (List.range hs.size)∧t.mask=mask∧t.led=led∧t.plain=plain∧t.moves=moves:=by
 obtain ⟨owner,e,O⟩:=kr hk (hs:=hs) (by omega)
 have pr:=oI mask owner
 have nd:((cE mask owner).map (·.2)).Nodup:=by
  rw [List.nodup_iff_pairwise_ne,List.pairwise_map]
  refine List.Pairwise.imp_of_mem ?_ pr
  intro a b ha hb hab ee
  have h1:=(cV O.sz a.1 a.2).mp ha
  have h2:=(cV O.sz b.1 b.2).mp hb
  rw [ee] at h1
  have:=O.inj a.1 b.1 b.2 h1 h2
  omega
 have perm:((cE mask owner).map (·.2)).Perm (List.range hs.size):=by
  refine (List.perm_ext_iff_of_nodup nd List.nodup_range).mpr fun x=> ?_
  rw [List.mem_map,List.mem_range]
  constructor
  ·rintro ⟨⟨j,v⟩,hm,rfl⟩
   have:=O.lt j v ((cV O.sz j v).mp hm)
   simpa using this
  ·intro hx
   obtain ⟨j,hj⟩:=O.all x (by simpa using hx)
   exact ⟨(j,x),(cV O.sz j x).mpr hj,rfl⟩
 have len:(cE mask owner).length=hs.size:=by have:=perm.length_eq; simpa using this
 refine ⟨_,_,by unfold laid; rw [e]; rfl,⟨?_,rfl,⟨k,h3,hk⟩,?_,?_,fun i x ee=> ?_,fun i j h e1 e2=> ?_⟩,?_,rfl,rfl,rfl,rfl⟩
 ·show Ris ((cE mask owner).map (·.1)).toArray
  exact vI (by rw [List.pairwise_map]; exact pr)
 ·show ((cE mask owner).map (·.1)).toArray.size=_
  simp [cE]
 ·show ((cE mask owner).map (·.1)).toArray.size≤mask
  simp [len,hl]
 ·change ((cE mask owner).map (·.1)).toArray[i]?=some x at ee
  rw [List.getElem?_toArray,List.getElem?_map] at ee
  cases q:(cE mask owner)[i]? with
  | none=> rw [q] at ee; cases ee
  | some p=>
   rw [q] at ee
   cases ee
   have:=(cV O.sz p.1 p.2).mp (List.mem_of_getElem? q)
   have:=(Array.getElem?_eq_some_iff.mp this).1
   show p.1≤mask
   have hz:=O.sz
   omega
 ·change ((cE mask owner).map (·.1)).toArray[i]?=some j at e1
  change (((cE mask owner).map (·.2)).toArray.toList.map fun i=> hs.getD i 0)[i]?=some h at e2
  rw [List.getElem?_toArray,List.getElem?_map] at e1
  rw [List.getElem?_map,List.getElem?_map] at e2
  cases q:(cE mask owner)[i]? with
  | none=> rw [q] at e1; cases e1
  | some p=>
   rw [q] at e1 e2
   cases e1
   have hp:=(cV O.sz p.1 p.2).mp (List.mem_of_getElem? q)
   have hlt:=O.lt _ _ hp
   have e3:hs.toList[p.2]?=some h:=by
    have e4:hs.getD p.2 0=h:=by simpa using e2
    have:p.2 < hs.size:=by simpa using hlt
    rw [← e4]
    simp [Array.getD,this]
   obtain ⟨m,q1,q2⟩:=O.reach _ _ h hp e3
   refine ⟨m,q1,fun m' hm=> ?_⟩
   obtain ⟨v,hv⟩:=q2 m' hm
   obtain ⟨n,hn⟩:=List.mem_iff_getElem?.mp ((cV O.sz _ v).mpr hv)
   refine ⟨n,?_⟩
   show ((cE mask owner).map (·.1)).toArray[n]?=_
   rw [List.getElem?_toArray,List.getElem?_map,hn]; rfl
 ·show ((cE mask owner).map (·.2)).toArray.toList.Perm _
  simpa using perm
end ST
namespace ST
open PySem PySem.SetTable
section
variable {prog:Program} {w:World} {A:Around} {E:Value→Shared→Prop} {s:Shared}
abbrev TK (prog:Program) (w:World) (h:Heap) (k:List Int) (b:Addr):Prop:=IsTupleKey (intKind prog w) h k b
abbrev hsh (prog:Program) (w:World) (k:List Int):Int:=tupleKeyHash (intKind prog w) k
theorem TK.ints {h:Heap} {k:List Int} {vs:List Value} (x:ItemsAre (intKind prog w) k vs):∀ v∈vs,∃ n t,v=.int n t:=by
 induction x with
 | nil=> intro v hv; simp at hv
 | cons h1 _ ih=>
  intro v hv
  rcases List.mem_cons.mp hv with rfl | hv
  ·obtain ⟨t,rfl⟩:=Value.isInt_shape h1; exact ⟨_,t,rfl⟩
  ·exact ih v hv
theorem jo {k:List Int} {a:Addr} {Q:Bool→Shared→Prop} (hk:TK prog w s.heap k a) (h:Q false s):wpAny (model prog w) A (ofAClassStatement 8 (.ref a)) Q E s:=by
 have hT:=hk.typeIs
 obtain ⟨o,items,n,ho,_,hd,hi⟩:=hk
 unfold ofAClassStatement
 refine wpAny_bind (wpAny_typeOf hT ?_)
 dsimp only
 rw [if_pos (by decide)]
 refine wpAny_bind (wpAny_pure ?_)
 simp only [Bool.not_true,Bool.false_eq_true,if_false]
 refine wpAny_bind (wpAny_seqItems ho hd ?_)
 dsimp only
 refine wpAny_bind ?_
 rw [← Array.forIn_toList]
 refine wpAny_forIn_list _ (fun rest r s'=> r.1=none∧s'=s∧∀ v∈rest,∃ n t,v=Value.int n t) _ ?_ ?_ _ _ ⟨rfl,rfl,TK.ints (h:=s.heap) hi⟩
 ·rintro v rest r s' ⟨hr,rfl,hall⟩
  obtain ⟨n,t,rfl⟩:=hall v List.mem_cons_self
  have e:ofAClassStatement 7 (Value.int n t)=pure false:=by unfold ofAClassStatement; rfl
  rw [e]
  refine wpAny_bind (wpAny_pure ?_)
  simp only [Bool.false_eq_true,if_false]
  exact wpAny_pure ⟨rfl,rfl,fun u hu'=> hall u (List.mem_cons_of_mem _ hu')⟩
 ·rintro ⟨r1,r2⟩ s' ⟨hr,rfl,_⟩
  simp only at hr
  subst hr
  exact wpAny_pure h
theorem wA {k:List Int} {a:Addr} {Q:Bool→Shared→Prop} (hk:TK prog w s.heap k a) (h:Q true s):wpAny (model prog w) A (hashByValue 8 (.ref a)) Q E s:=by
 have hT:=hk.typeIs
 obtain ⟨o,items,n,ho,_,hd,hi⟩:=hk
 unfold hashByValue
 refine wpAny_bind (wpAny_specialOf hT F.slot_tuple_hash.lookup ?_)
 show wpAny _ _ (seqItems? (.ref a) >>=_) _ _ s
 refine wpAny_bind (wpAny_seqItems ho hd ?_)
 refine wpAny_bind ?_
 show wpAny _ _ (forIn items _ _) _ _ s
 rw [← Array.forIn_toList]
 refine wpAny_forIn_list _ (fun rest r s'=> r.1=none∧s'=s∧∀ v∈rest,∃ n t,v=Value.int n t) _ ?_ ?_ _ _ ⟨rfl,rfl,TK.ints (h:=s.heap) hi⟩
 ·rintro v rest r s' ⟨hr,rfl,hall⟩
  obtain ⟨n,t,rfl⟩:=hall v List.mem_cons_self
  have e:hashByValue 7 (Value.int n t)=pure true:=by unfold hashByValue; rfl
  rw [e]
  refine wpAny_bind (wpAny_pure ?_)
  simp only [Bool.not_true,Bool.false_eq_true,if_false]
  exact wpAny_pure ⟨rfl,rfl,fun u hu'=> hall u (List.mem_cons_of_mem _ hu')⟩
 ·rintro ⟨r1,r2⟩ s' ⟨hr,rfl,_⟩
  simp only at hr
  subst hr
  exact wpAny_pure h
theorem l_ {k:List Int} {a:Addr} {l:List Value} {Q:Bool→Shared→Prop} (hk:TK prog w s.heap k a) (hl:∀ v∈l,∃ k' b,v=.ref b∧TK prog w s.heap k' b) (h:Q false s):
  wpAny (model prog w) A (searchCouldBeSeen (.ref a) l) Q E s:=by
 unfold searchCouldBeSeen
 refine wpAny_bind ?_
 refine wpAny_forIn_list _ (fun rest r s'=> r.1=none∧s'=s∧∀ v∈rest,∃ k' b,v=.ref b∧TK prog w s.heap k' b) _ ?_ ?_ _ _ ⟨rfl,rfl,hl⟩
 ·rintro v rest r s' ⟨hr,rfl,hall⟩
  obtain ⟨k',b,rfl,hb⟩:=hall v List.mem_cons_self
  dsimp only
  split
  ·exact wpAny_pure ⟨rfl,rfl,fun u hu'=> hall u (List.mem_cons_of_mem _ hu')⟩
  ·refine wpAny_bind (wpAny_eqIsQuiet_tuple hk ?_)
   simp only [Bool.not_true,Bool.false_eq_true,if_false]
   refine wpAny_bind (wpAny_eqIsQuiet_tuple hb ?_)
   simp only [Bool.not_true,Bool.false_eq_true,if_false]
   refine wpAny_bind (jo hk ?_)
   simp only [Bool.false_eq_true,if_false]
   refine wpAny_bind (jo hb ?_)
   simp only [Bool.false_eq_true,if_false]
   exact wpAny_pure ⟨rfl,rfl,fun u hu'=> hall u (List.mem_cons_of_mem _ hu')⟩
 ·rintro ⟨r1,r2⟩ s' ⟨hr,rfl,_⟩
  simp only at hr
  subst hr
  exact wpAny_pure h
def ents (prog:Program) (w:World) (kb:List (List Int×Addr)):List (Int×Value):=kb.map fun p=> (hsh prog w p.1,.ref p.2)
theorem mW {kb:List (List Int×Addr)} {i:Nat}:(ents prog w kb)[i]?=(kb[i]?).map fun p=> (hsh prog w p.1,.ref p.2):=by unfold ents; rw [List.getElem?_map]
theorem tH (kb:List (List Int×Addr)):(ents prog w kb).map (·.1)=kb.map fun p=> hsh prog w p.1:=by unfold ents; rw [List.map_map]; rfl
theorem TOk.fits {t:SetTable} {hs:List Int} (T:TOk t hs) {n:Nat} (hn:hs.length=n):t.fits n=true:=by
 have h1:=T.n
 have h2:=T.f
 have h3:t.fill=t.place.size:=by unfold fill; rw [T.d]; rfl
 unfold SetTable.fits
 rw [h3]
 simp [h1,hn]
 omega
theorem TOk.gave {t:SetTable} {hs:List Int} (T:TOk t hs):t.gaveWay=false:=by
 obtain ⟨k,h3,hk⟩:=T.k
 unfold SetTable.gaveWay
 obtain ⟨j,rfl⟩:∃ j,k=j+1:=⟨k - 1,by omega⟩
 rw [Nat.pow_succ] at hk
 have:t.mask % 2=1:=by omega
 simp [this]
theorem kJ {S:Addr} {o:Obj} {es:Array (Int×Value)} {ep:Nat} {t:SetTable} {kb:List (List Int×Addr)} {k:List Int} {x:Addr} (hu:A.units < cLine)
  (ho:s.heap.get? S=some o) (hd:o.data=.set es ep t) (he:es.toList=ents prog w kb) (T:TOk t (kb.map fun p=> hsh prog w p.1)) (hkb:∀ p∈kb,TK prog w s.heap p.1 p.2) (hx:TK prog w s.heap k x)
  {N:Nat} (hN:N < 10 * turns t.mask) (h0:¬ Liv t (pth t.mask (hsh prog w k) N).j) (h1:∀ m,m < N→Liv t (pth t.mask (hsh prog w k) m).j) {Q:SetFound→Shared→Prop}
  (qf:(∀ p∈kb,p.1≠k)→Q (.free (pth t.mask (hsh prog w k) N).j false) s) (qt:(∃ p∈kb,p.1=k)→Q (.there none) s):
  ∀ (fuel n:Nat) (stand:Option Probe),n≤N→N - n < fuel→stand.getD (t.probeStart (hsh prog w k))=pth t.mask (hsh prog w k) n→
   (∀ (m i:Nat) (p:List Int×Addr),m < n→t.place[i]?=some (pth t.mask (hsh prog w k) m).j→kb[i]?=some p→p.1≠k)→
   wpAny (model prog w) A (setSearchFrom S (.ref x) (hsh prog w k) true fuel stand) Q E s:=by
 have hsz:es.size=kb.length:=by rw [← Array.length_toList,he]; simp [ents]
 have hfit:t.fits es.size=true:=T.fits (by rw [List.length_map,hsz])
 have eat:∀ i:Nat,es[i]?=(kb[i]?).map fun (p:List Int×Addr)=> (hsh prog w p.1,Value.ref p.2):=fun i=> by rw [← Array.getElem?_toList,he,mW]
 intro fuel
 induction fuel with
 | zero=> intro n stand _ h; omega
 | succ fuel ih=>
  intro n stand hn hf hst hpre
  unfold setSearchFrom
  refine wpAny_bind (wpAny_setState_of ho hd hfit ?_)
  dsimp only
  rw [T.gave]
  simp only [Bool.false_eq_true,if_false]
  rw [hst]
  have hash:∀ (i:Nat) (p:List Int×Addr),kb[i]?=some p→((es[i]?.map (fun (e:Int×Value)=> e.1)).getD 0:Int)=hsh prog w p.1:=fun i p hp=> by rw [eat,hp]; rfl
  have pg:=kg T (fun (i:Nat)=> (es[i]?.map (fun (e:Int×Value)=> e.1)).getD 0) (hsh prog w k) h0 h1 (10 * turns t.mask) n hn (by omega)
  split
  ·rename_i met hmet
   rcases pg with ⟨e,hne⟩ | ⟨m,i,hnm,hmN,hpl,hhi,e,hbef⟩
   ·have q:some met=some (.empty (pth t.mask (hsh prog w k) N).j none):=hmet.symm.trans e
    cases q
    dsimp only
    refine wpAny_pure (qf fun p hp hpk=> ?_)
    obtain ⟨i,hi⟩:=List.mem_iff_getElem?.mp hp
    obtain ⟨m,j,hm,hpl,hj⟩:=rm T (h:=hsh prog w k) h0 (i:=i) (by rw [List.getElem?_map,hi,← hpk]; rfl)
    rcases Nat.lt_or_ge m n with hmn | hmn
    ·exact hpre m i p hmn (by rw [hj]; exact hpl) hi hpk
    ·exact hne m i hmn hm (by rw [hj]; exact hpl) (by rw [hash i p hi,hpk])
   ·have q:some met=some (.candidate (pth t.mask (hsh prog w k) m).j i (pth t.mask (hsh prog w k) (m+1))):=hmet.symm.trans e
    cases q
    dsimp only
    have hik:i < kb.length:=by rw [← hsz,← show t.place.size=es.size by rw [T.n,List.length_map,hsz]]; exact nu hpl
    obtain ⟨p,hp⟩:∃ p,kb[i]?=some p:=⟨_,List.getElem?_eq_getElem hik⟩
    have hpm:p∈kb:=List.mem_of_getElem? hp
    have hei:es[i]?=some (hsh prog w p.1,Value.ref p.2):=by rw [eat,hp]; rfl
    have rest:wpAny (model prog w) A (do
      let equal ← holding [Value.ref p.2] (eqBool (Value.ref p.2) (.ref x))
      let (es',_,t') ← setState S
      if true && equal then return .there none
      let some same:=t'.sameMemory t.moves t.mask | unsupported "set.changed-during-lookup:is-the-new-block-at-the-old-address"
      let still ← match (if same then t'.slot (pth t.mask (hsh prog w k) m).j else .empty) with
       | .live i'=> match es'[i']? with
        | some (_,y')=> do pure (if ← isSame y' (Value.ref p.2) then some i' else none)
        | none=> pure none
       | _=> pure none
      match still with
      | none=> rule "set.search.anew"; setSearchFrom S (.ref x) (hsh prog w k) true fuel none
      | some i'=> if equal then return .there (some i') else setSearchFrom S (.ref x) (hsh prog w k) true fuel (some (pth t.mask (hsh prog w k) (m+1)))) Q E s:=by
     refine wpAny_bind (wpAny_holding (wpAny_eqBool_tuple hu (hkb p hpm) hx ?_))
     refine wpAny_bind (wpAny_setState_of ho hd hfit ?_)
     dsimp only
     by_cases hpk:p.1=k
     ·rw [decide_eq_true hpk]
      simp only [Bool.and_self,if_true]
      exact wpAny_pure (qt ⟨p,hpm,hpk⟩)
     ·rw [decide_eq_false hpk]
      simp only [Bool.and_false,Bool.false_eq_true,if_false]
      have hsm:t.sameMemory t.moves t.mask=some true:=by unfold SetTable.sameMemory; simp
      rw [hsm]
      dsimp only
      rw [if_pos rfl,jp T.R hpl]
      dsimp only
      rw [hei]
      dsimp only
      refine wpAny_bind (wpAny_isSame_ref_self ?_)
      refine wpAny_bind (wpAny_pure ?_)
      simp only [if_true]
      refine ih (m+1) (some (pth t.mask (hsh prog w k) (m+1))) (by omega) (by omega) rfl fun m' i' p' hm' hpl' hp'=> ?_
      rcases Nat.lt_or_ge m' n with z | z
      ·exact hpre m' i' p' z hpl' hp'
      ·rcases Nat.lt_or_eq_of_le (Nat.le_of_lt_succ hm') with y | y
       ·have:=hbef m' i' z y hpl'
        intro e'
        exact this (by rw [hash i' p' hp',e'])
       ·subst y
        have ei:=T.R.inj hpl hpl'
        subst ei
        rw [hp] at hp'
        cases hp'
        exact hpk
    by_cases hled:t.led=true
    ·rw [hled]
     simp only [Bool.not_true,Bool.false_eq_true,if_false]
     rw [hei]
     exact rest
    ·rw [show t.led=false by simpa using hled]
     simp only [Bool.not_false,if_true]
     refine wpAny_bind (l_ hx (fun v hv=> ?_) ?_)
     ·obtain ⟨e',he',rfl⟩:=List.mem_map.mp hv
      have hm':e'∈es.toList:=by
       have:=Array.mem_toList_iff.mp he'
       exact Array.mem_toList_iff.mpr (Array.mem_filter.mp this).1
      rw [he] at hm'
      obtain ⟨p',hp',rfl⟩:=List.mem_map.mp hm'
      exact ⟨p'.1,p'.2,rfl,hkb p' hp'⟩
     ·simp only [Bool.false_eq_true,if_false]
      rw [hei]
      exact rest
  ·rename_i hno
   rcases pg with ⟨e,hne⟩ | ⟨m,i,hnm,hmN,hpl,hhi,e,hbef⟩
   ·exact absurd e (hno _)
   ·exact absurd e (hno _)
end
end ST
namespace ST
open PySem PySem.SetTable
section
variable {prog:Program} {w:World} {A:Around} {E:Value→Shared→Prop} {s:Shared}
structure SP (prog:Program) (w:World) (h:Heap) (S:Addr) (kb:List (List Int×Addr)):Prop where
 ex:∃ o es ep t,h.get? S=some o∧o.ExactSet∧o.data=.set es ep t∧es.toList=ents prog w kb∧TOk t (kb.map fun p=> hsh prog w p.1)∧t.led=(!w.params.followText "set-order")∧t.plain=true∧t.tooFull=false∧t.mask < 8 * kb.length+8
 keys:∀ p∈kb,TK prog w h p.1 p.2
 nd:(kb.map (·.1)).Nodup
theorem TK.keep {h h':Heap} {k:List Int} {b S:Addr} {o:Obj} {es ep t} (x:TK prog w h k b) (ho:h.get? S=some o) (hd:o.data=.set es ep t) (hs:Heap.SameBut S h h'):TK prog w h' k b:=by
 obtain ⟨o',items,n,ho',hc,hd',hi⟩:=x
 have hne:b≠S:=by
  rintro rfl
  obtain rfl:o'=o:=Option.some.inj (ho'.symm.trans ho)
  rw [hd] at hd'; exact nomatch hd'
 exact ⟨o',items,n,(hs.2 b hne).trans ho',hc,hd',hi⟩
theorem lH (x:Addr) (es:Array (Int×Value)):byScan (.ref x) es=false:=by simp [byScan,Value.scannable]
theorem lf {α β:Type} (f:α→β) (xs:List α) (p:Nat) (x:α):(eV xs p x).map f=eV (xs.map f) p (f x):=by
 unfold eV; rw [List.map_append,List.map_cons,List.map_take,List.map_drop]
theorem dq {α:Type} (xs:List α) (p:Nat) (x:α):(eV xs p x).Perm (xs++[x]):=by
 unfold eV
 refine List.perm_middle.trans ?_
 rw [List.take_append_drop]
 exact (List.perm_append_singleton x xs).symm
theorem kX {α β:Type} {kb:List α} (f:α→β) (d:β):∀ (o:List Nat),(∀ i∈o,i < kb.length)→o.map (fun i=> ((kb.map f).toArray).getD i d)=(o.filterMap fun i=> kb[i]?).map f
 | [],_=> rfl
 | i::o,h=> by
  have hi:=h i List.mem_cons_self
  rw [List.map_cons,List.filterMap_cons,List.getElem?_eq_getElem hi,kX f d o fun j hj=> h j (List.mem_cons_of_mem _ hj)]
  simp [Array.getD,hi]
theorem oV {α:Type} {kb:List α} {o:List Nat} (h:o.Perm (List.range kb.length)):(o.filterMap fun i=> kb[i]?).Perm kb:=by
 refine (h.filterMap _).trans ?_
 suffices (List.range kb.length).filterMap (fun i=> kb[i]?)=kb by rw [this]
 have:∀ (l pre:List α),(List.range' pre.length l.length).filterMap (fun i=> (pre++l)[i]?)=l:=by
  intro l
  induction l with
  | nil=> intro pre; rfl
  | cons x l ih=>
   intro pre
   rw [List.length_cons,List.range'_succ,List.filterMap_cons]
   have e:(pre++x::l)[pre.length]?=some x:=by rw [List.getElem?_append_right (Nat.le_refl _)]; simp
   rw [e]
   have:=ih (pre++[x])
   rw [List.append_assoc,List.length_append] at this
   simpa using this
 have q:=this kb []
 simpa [List.range_eq_range'] using q
theorem si {t:SetTable} {hs:List Int} (T:TOk t hs) (h:t.tooFull=false):t.place.size+1≤t.mask:=by
 obtain ⟨k,h3,hk⟩:=T.k
 have hf:t.fill=t.place.size:=by unfold fill; rw [T.d]; rfl
 have h8:2 ^ 3≤2 ^ k:=Nat.pow_le_pow_right (by decide) h3
 unfold tooFull at h
 rw [hf] at h
 simp at h
 omega
set_option maxHeartbeats 1000000 in
theorem wC {S:Addr} {o:Obj} {es:Array (Int×Value)} {ep:Nat} {t:SetTable} {kb:List (List Int×Addr)} {Q:Unit→Shared→Prop} (ho:s.heap.get? S=some o) (hex:o.ExactSet) (hd:o.data=.set es ep t) (he:es.toList=ents prog w kb)
  (T:TOk t (kb.map fun p=> hsh prog w p.1)) (hl:t.led=(!w.params.followText "set-order")) (hp:t.plain=true) (hkb:∀ p∈kb,TK prog w s.heap p.1 p.2) (hnd:(kb.map (·.1)).Nodup) (h1:0 < kb.length) (hn:kb.length≤1000)
  (h:∀ h' kb',Heap.SameBut S s.heap h'→SP prog w h' S kb'→kb'.Perm kb→Q () { s with heap:=h' }):wpAny (model prog w) A (setRelay S (grown kb.length)) Q E s:=by
 have hsz:es.size=kb.length:=by rw [← Array.length_toList,he]; simp [ents]
 have hfit:t.fits es.size=true:=T.fits (by rw [List.length_map,hsz])
 have eat:∀ i:Nat,es[i]?=(kb[i]?).map fun (p:List Int×Addr)=> (hsh prog w p.1,Value.ref p.2):=fun i=> by rw [← Array.getElem?_toList,he,mW]
 have hg:grown kb.length=kb.length * 4:=by unfold grown; rw [if_neg (by omega)]
 rw [hg]
 obtain ⟨k,k3,ek,lk,uk⟩:=above (kb.length * 4) (by omega)
 have hmask:(sizeAbove (kb.length * 4) - 1)+1=2 ^ k:=by omega
 obtain ⟨t',order,e,T',hord,em,el,ep',_⟩:=sV k3 hmask (hs:=es.map (·.1)) (by rw [Array.size_map,hsz]; omega) t.finger (t.movedTo (sizeAbove (kb.length * 4) - 1)) t.led t.plain
 have hrel:t.relaid (es.map (·.1)) (kb.length * 4)=some (t',order):=e
 have hord':order.toList.Perm (List.range kb.length):=by rw [Array.size_map,hsz] at hord; exact hord
 have hlt:∀ i∈order.toList,i < kb.length:=fun i hi=> List.mem_range.mp (hord'.mem_iff.mp hi)
 have hpk:=oV hord'
 have hes:(order.filterMap (fun i=> es[i]?)).toList=ents prog w (order.toList.filterMap fun i=> kb[i]?):=by
  rw [Array.toList_filterMap]
  unfold ents
  rw [List.map_filterMap]
  congr 1
  funext i
  rw [eat]
 have hes2:(order.filterMap (fun i=> es[i]?)).size=es.size:=by
  rw [← Array.length_toList,hes,hsz]
  unfold ents
  rw [List.length_map,hpk.length_eq]
 unfold setRelay
 refine wpAny_bind (wpAny_setState_of ho hd hfit ?_)
 dsimp only
 rw [if_neg (by rw [ek,sizeLine_eq]; omega),hrel]
 have goal:wpAny (model prog w) A (do
   if (order.filterMap (fun i=> es[i]?)).size !=es.size then unsupported "internal:set-table-lost-an-element"
   pure (order.filterMap (fun i=> es[i]?),t'):Sem (Array (Int×Value)×SetTable)) (fun r s'=> wpAny (model prog w) A (storeSet S r.1 r.2) Q E s') E s:=by
  rw [hes2]
  simp only [bne_self_eq_false,Bool.false_eq_true,if_false]
  refine wpAny_pure ?_
  refine wpAny_storeSet_of ho hd ?_ (by rw [hes2,hsz,sizeLine_eq]; omega)
  have hg':(s.heap.update S (Obj.putSet (order.filterMap (fun i=> es[i]?)) t')).get? S=some { o with data:=.set (order.filterMap (fun i=> es[i]?)) (ep+1) t' }:=by
   have:=Heap.get?_update_self (Obj.putSet (order.filterMap (fun i=> es[i]?)) t') ho (by rw [putSet_of _ t' hd]; rfl)
   rw [putSet_of _ t' hd] at this; exact this
  have hsb:=Heap.SameBut.update s.heap S (Obj.putSet (order.filterMap (fun i=> es[i]?)) t')
  refine h _ (order.toList.filterMap fun i=> kb[i]?) hsb ⟨⟨_,_,_,t',hg',hex,rfl,hes,?_,by rw [el]; exact hl,by rw [ep']; exact hp,?_,?_⟩,fun p hp'=> ?_,?_⟩ hpk
  ·have:=kX (kb:=kb) (fun p=> hsh prog w p.1) 0 order.toList hlt
   rw [← this]
   have e2:(es.map (·.1))=((kb.map fun p=> hsh prog w p.1)).toArray:=by
    apply Array.toList_inj.mp
    rw [Array.toList_map,he,tH]
   rw [e2] at T'
   exact T'
  ·have hf:t'.fill=t'.place.size:=by unfold fill; rw [T'.d]; rfl
   have hn':=T'.n
   rw [List.length_map,hord'.length_eq,List.length_range] at hn'
   unfold tooFull
   rw [hf,hn',em]
   simp
   omega
  ·rw [em,hpk.length_eq]; omega
  ·exact (hkb p (hpk.mem_iff.mp hp')).keep ho hd hsb
  ·exact ((hpk.map (·.1)).nodup_iff).mpr hnd
 exact wpAny_bind goal
end
end ST
namespace ST
open PySem PySem.SetTable
section
variable {prog:Program} {w:World} {A:Around} {E:Value→Shared→Prop} {s:Shared}
set_option maxHeartbeats 1000000 in
theorem lZ {S x:Addr} {kb:List (List Int×Addr)} {k:List Int} {Q:Bool→Shared→Prop} (hu:A.units < cLine) (P:SP prog w s.heap S kb) (hx:TK prog w s.heap k x) (hn:kb.length < 1000)
  (h:∀ b h' kb',Heap.SameBut S s.heap h'→SP prog w h' S kb'→(if k∈kb.map (·.1) then kb'=kb else kb'.Perm (kb++[(k,x)]))→Q b { s with heap:=h' }):
  wpAny (model prog w) A (setAddHashed S (.ref x) (hsh prog w k)) Q E s:=by
 obtain ⟨⟨o,es,ep,t,ho,hex,hd,he,T,hl,hp,hfull,hmask⟩,hkb,hnd⟩:=P
 have P0:SP prog w s.heap S kb:=⟨⟨o,es,ep,t,ho,hex,hd,he,T,hl,hp,hfull,hmask⟩,hkb,hnd⟩
 have hsz:es.size=kb.length:=by rw [← Array.length_toList,he]; simp [ents]
 have hfit:t.fits es.size=true:=T.fits (by rw [List.length_map,hsz])
 obtain ⟨N,hN,h0,h1⟩:=mF T (hsh prog w k)
 have hN':N < 100000:=by unfold turns at hN; omega
 unfold setAddHashed setAddHashedIn
 refine wpAny_holding (wpAny_bind (wpAny_setState_of ho hd hfit ?_))
 dsimp only
 rw [lH]
 simp only [Bool.false_eq_true,if_false]
 unfold setSearch
 refine wpAny_bind (kJ hu ho hd he T hkb hx hN h0 h1 (fun hno=> ?_) (fun hyes=> ?_) 100000 0 none (Nat.zero_le _) (by omega) rfl fun m i p hm=> by omega)
 ·dsimp only
  have hk:k ∉ kb.map (·.1):=fun z=> by obtain ⟨p,hp',e⟩:=List.mem_map.mp z; exact hno p hp' e
  refine wpAny_bind (wpAny_setState_of ho hd hfit ?_)
  dsimp only
  generalize hj:(pth t.mask (hsh prog w k) N).j=j at *
  have T1:=T.put (h:=hsh prog w k) (N:=N) (by rw [hj]; exact h0) h1 (by have:=qG (mask:=t.mask) (hsh prog w k) N; omega) (si T hfull)
  rw [hj] at T1
  have epl:(t.put j).1.plain=true:=hp
  have eled:(t.put j).1.led=(!w.params.followText "set-order"):=hl
  have emask:(t.put j).1.mask=t.mask:=rfl
  generalize (t.put j).1=t1 at *
  generalize (t.put j).2=q at *
  have hlen1:(eV kb q (k,x)).length=kb.length+1:=by rw [(dq kb q (k,x)).length_eq]; simp
  have he1:(insertAt es q (hsh prog w k,Value.ref x)).toList=ents prog w (eV kb q (k,x)):=by
   rw [dg,he]
   unfold ents
   rw [lf]
   rfl
  have hsz1:(insertAt es q (hsh prog w k,Value.ref x)).size=kb.length+1:=by
   rw [← Array.length_toList,he1]; unfold ents; rw [List.length_map,hlen1]
  have T2:TOk t1 ((eV kb q (k,x)).map fun p=> hsh prog w p.1):=by rw [lf]; exact T1
  rw [if_pos epl]
  refine wpAny_bind (wA hx ?_)
  rw [if_pos rfl]
  have hg1:(s.heap.update S (Obj.putSet (insertAt es q (hsh prog w k,Value.ref x)) t1)).get? S=some { o with data:=.set (insertAt es q (hsh prog w k,Value.ref x)) (ep+1) t1 }:=by
   have:=Heap.get?_update_self (Obj.putSet (insertAt es q (hsh prog w k,Value.ref x)) t1) ho (by rw [putSet_of _ t1 hd]; rfl)
   rw [putSet_of _ t1 hd] at this; exact this
  have hsb:=Heap.SameBut.update s.heap S (Obj.putSet (insertAt es q (hsh prog w k,Value.ref x)) t1)
  have hkb1:∀ p∈eV kb q (k,x),TK prog w (s.heap.update S (Obj.putSet (insertAt es q (hsh prog w k,Value.ref x)) t1)) p.1 p.2:=fun p hp'=> by
   have:=(dq kb q (k,x)).mem_iff.mp hp'
   rcases List.mem_append.mp this with z | z
   ·exact (hkb p z).keep ho hd hsb
   ·rw [List.mem_singleton.mp z]; exact hx.keep ho hd hsb
  have hnd1:((eV kb q (k,x)).map (·.1)).Nodup:=by
   rw [((dq kb q (k,x)).map (·.1)).nodup_iff,List.map_append,List.nodup_append]
   refine ⟨hnd,by simp,fun a ha b hb=> ?_⟩
   simp at hb
   subst hb
   rintro rfl
   exact hk ha
  refine wpAny_bind (wpAny_storeSet_of ho hd ?_ (by rw [hsz1,sizeLine_eq]; omega))
  rw [Bool.not_false,Bool.true_and]
  by_cases hft:t1.tooFull=true
  ·rw [if_pos hft,hsz,← hlen1]
   refine wpAny_bind (wC (s:={ s with heap:=s.heap.update S (Obj.putSet (insertAt es q (hsh prog w k,Value.ref x)) t1) }) hg1 hex rfl he1 T2 eled epl hkb1 hnd1 (by omega) (by omega) fun h' kb' hsb' P' pm=> wpAny_pure ?_)
   exact h true h' kb' (hsb.trans hsb') P' (by rw [if_neg hk]; exact pm.trans (dq kb q (k,x)))
  ·rw [if_neg hft]
   refine wpAny_pure (h true _ (eV kb q (k,x)) hsb ⟨⟨_,_,_,t1,hg1,hex,rfl,he1,T2,eled,epl,by simpa using hft,by rw [emask,hlen1]; omega⟩,hkb1,hnd1⟩ (by rw [if_neg hk]; exact dq kb q (k,x)))
 ·dsimp only
  refine wpAny_pure ?_
  have hk:k∈kb.map (·.1):=by obtain ⟨p,hp',e⟩:=hyes; exact List.mem_map.mpr ⟨p,hp',e⟩
  exact h false s.heap kb (Heap.SameBut.refl S s.heap) P0 (by rw [if_pos hk])
end
end ST
namespace ST
open PySem PySem.SetTable
section
variable {prog:Program} {w:World} {A:Around}
theorem TK.moved {s s':Shared} {wr:List Addr} {G:Array GenState→Array GenState→Prop} {k:List Int} {b:Addr} (x:TK prog w s.heap k b) (hb:b ∉ wr) (m:Moved wr G s s'):TK prog w s'.heap k b:=by
 obtain ⟨o,its,n,ho,hc,hd,hi⟩:=x
 exact ⟨o,its,n,m.heap b o hb ho,hc,hd,hi⟩
theorem SP.moved {s s':Shared} {wr:List Addr} {G:Array GenState→Array GenState→Prop} {S:Addr} {kb:List (List Int×Addr)} (x:SP prog w s.heap S kb) (hS:S ∉ wr) (hb:∀ p∈kb,p.2 ∉ wr) (m:Moved wr G s s'):SP prog w s'.heap S kb:=by
 obtain ⟨⟨o,es,ep,t,ho,r⟩,hk,hn⟩:=x
 exact ⟨⟨o,es,ep,t,m.heap S o hS ho,r⟩,fun p hp=> (hk p hp).moved (hb p hp) m,hn⟩
structure Got (kx:Nat→List Int×Addr) (i:Nat) (kb:List (List Int×Addr)):Prop where
 src:∀ p∈kb,∃ j,j < i∧p=kx j
 all:∀ j,j < i→(kx j).1∈kb.map (·.1)
 len:kb.length≤i
variable {R:Result→Shared→Prop} {I:Addr} {fp wr:List Addr} {G:Array GenState→Array GenState→Prop} {n:Nat} {P:Nat→Value→Prop} {St:Nat→Shared→Prop}
set_option maxHeartbeats 1000000 in
theorem ph (W:WalksS prog w A.in1 I fp wr G n P St) (hu:A.in1.units < cLine) {S:Addr} (hSf:S ∉ fp) (kx:Nat→List Int×Addr) (hP:∀ i v,P i v→v=.ref (kx i).2) (hwr:∀ i,i < n→(kx i).2 ∉ wr) (hn:n≤1000):
  ∀ (k i:Nat) (s:Shared) (kb:List (List Int×Addr)),n - i=k→i≤n→St i s→SP prog w s.heap S kb→Got kx i kb→(∀ j,j < n→TK prog w s.heap (kx j).1 (kx j).2)→
   (∀ s' kb',Moved (S::wr) G s s'→SP prog w s'.heap S kb'→Got kx n kb'→R (.ok (.ret .none)) s')→
   codeAny (model prog w) A (.builtin "set.update.loop" ⟨[.ref S,.ref I],[]⟩) R s:=by
 have hSw:S ∉ wr:=fun h=> hSf (W.sub _ h)
 have more:∀ b∈wr,b∈S::wr:=fun b hb=> List.mem_cons_of_mem _ hb
 intro k
 induction k with
 | zero=>
  intro i s kb hk hi st hS g tk hR
  obtain rfl:i=n:=by omega
  refine codeAny_builtin PyProof.Rows.F.entry_set_update_loop ?_
  rw [Around.under_plainId PyProof.Rows.F.plain_set_update_loop _]
  show wpAny _ A.in1 (pyNext (.ref I) >>=_) _ _ s
  refine wpAny_bind (W.done s _ _ st fun s' m=> ?_)
  exact wpAny_pure (hR s' kb (m.mono more) (hS.moved hSw (fun p hp=> by obtain ⟨j,hj,rfl⟩:=g.src p hp; exact hwr j hj) m) g)
 | succ k ih=>
  intro i s kb hk hi st hS g tk hR
  have hlt:i < n:=by omega
  have hkb:∀ p∈kb,p.2 ∉ wr:=fun p hp=> by obtain ⟨j,hj,rfl⟩:=g.src p hp; exact hwr j (by omega)
  refine codeAny_builtin PyProof.Rows.F.entry_set_update_loop ?_
  rw [Around.under_plainId PyProof.Rows.F.plain_set_update_loop _]
  show wpAny _ A.in1 (pyNext (.ref I) >>=_) _ _ s
  refine wpAny_bind (W.item i s _ _ hlt st fun v s1 pv st1 m=> ?_)
  obtain rfl:=hP i v pv
  have hS1:=hS.moved hSw hkb m
  have tk1:∀ j,j < n→TK prog w s1.heap (kx j).1 (kx j).2:=fun j hj=> (tk j hj).moved (hwr j hj) m
  show wpAny _ A.in1 (holding [Value.ref (kx i).2] (setAdd S (.ref (kx i).2)) >>=_) _ _ s1
  refine wpAny_bind (wpAny_holding ?_)
  unfold setAdd
  refine wpAny_holding (wpAny_bind (wpAny_pyHash_tuple hu (tk1 i hlt) ?_))
  refine lZ (s:={ s1 with toks:=s1.toks+((kx i).1.length+1) }) hu hS1 (tk1 i hlt) (by have:=g.len; omega) fun b h' kb' sb hS2 hkk=> ?_
  obtain ⟨⟨o,es,ep,t,ho,hex,hd,hrest⟩,hks,hnd⟩:=hS1
  have same:∀ b o,b ∉ S::wr→s1.heap.get? b=some o→h'.get? b=some o:=fun b o hb e=> by rw [sb.2 b (fun z=> hb (by rw [z]; exact List.mem_cons_self))]; exact e
  refine wpAny_pure ⟨plainId_quiet PyProof.Rows.F.plain_set_update_loop _,ih (i+1) _ kb' (by omega) hlt (W.frame _ s1 _ _ st1 (by show s1.toks≤s1.toks+_; omega) fun b hb o e=> ?_) hS2 ?_ (fun j hj=> (tk1 j hj).keep ho hd sb) fun s2 kb2 m2 hS3 g2=> ?_⟩
  ·rw [sb.2 b (fun z=> hSf (by rw [← z]; exact hb))]; exact e
  ·by_cases hin:(kx i).1∈kb.map (·.1)
   ·rw [if_pos hin] at hkk
    subst hkk
    refine ⟨fun p hp=> ?_,fun j hj=> ?_,by have:=g.len; omega⟩
    ·obtain ⟨j,hj,e⟩:=g.src p hp; exact ⟨j,by omega,e⟩
    ·rcases Nat.lt_or_eq_of_le (Nat.le_of_lt_succ hj) with z | z
     ·exact g.all j z
     ·rw [z]; exact hin
   ·rw [if_neg hin] at hkk
    refine ⟨fun p hp=> ?_,fun j hj=> ?_,by rw [hkk.length_eq]; have:=g.len; simp; omega⟩
    ·rcases List.mem_append.mp (hkk.mem_iff.mp hp) with z | z
     ·obtain ⟨j,hj,e⟩:=g.src p z; exact ⟨j,by omega,e⟩
     ·exact ⟨i,Nat.lt_succ_self i,by rw [List.mem_singleton.mp z]⟩
    ·rw [(hkk.map (·.1)).mem_iff,List.map_append]
     rcases Nat.lt_or_eq_of_le (Nat.le_of_lt_succ hj) with z | z
     ·exact List.mem_append_left _ (g.all j z)
     ·rw [z]; exact List.mem_append_right _ (by simp)
  ·exact hR s2 kb2 (Moved.trans W.gtrans ((m.mono more).then_heap (by show s1.toks≤s1.toks+_; omega) same) m2) hS3 g2
end
section
variable {prog:Program} {w:World} {A:Around} {E:Value→Shared→Prop} {s:Shared}
abbrev bQ (w:World):Obj:={ cls:=.type "set",dict:=none,data:=.set #[] 0 (.fresh 0 0 (!w.params.followText "set-order")) }
theorem rT:TOk (.fresh 0 0 (!w.params.followText "set-order")) [] where
 R:=by intro i j x y _ h; simp [SetTable.fresh] at h
 d:=rfl
 k:=⟨3,by decide,rfl⟩
 n:=rfl
 f:=by show 0≤7; decide
 le:=by intro i x h; simp [SetTable.fresh] at h
 reach:=by intro i x h hi; simp [SetTable.fresh] at hi
theorem rC {h:Heap} {S:Addr} (e:h.get? S=some (bQ w)):SP prog w h S []:=by
 refine ⟨⟨_,_,_,_,e,⟨rfl,rfl,rfl⟩,rfl,rfl,rT,rfl,rfl,by simp [SetTable.tooFull,SetTable.fresh,SetTable.fill],by show 7 < 8; decide⟩,fun p hp=> by simp at hp,by simp⟩
theorem sM (a:Value) {Q:Value→Shared→Prop} (h:Q (.ref s.heap.objs.size) { s with heap:=s.heap.push (bQ w) }):
  codeAny (model prog w) A (.call (.builtin "set.__new__") ⟨[.type "set",a],[]⟩) (wants Q E) s:=by
 refine codeAny_of_tree ?_
 show wpAny _ A.in1 (do checkBuiltinCall "set.__new__" ⟨[.type "set",a],[]⟩; again (.builtin "set.__new__" ⟨[.type "set",a],[]⟩)) _ _ s
 refine wpAny_bind (wpAny_of_eq (PySem.F.newCall_set_1 a) (wpAny_pure ⟨plainId_quiet PySem.F.plain_set_new _,codeAny_builtin PySem.F.entry_set_new ?_⟩))
 rw [Around.under_plainId PySem.F.plain_set_new _]
 unfold Builtin.«set.__new__» Builtin.Frozenset.newClass
 have hsub:=sub_set_self
 obtain ⟨hp,g,d,tk,os⟩:=s
 dsimp only
 wp_walk
 refine wpAny_askSetting (wpAny_pure ?_)
 dsimp only
 simp only [newObj]
 exact wpAny_bind (wpAny_alloc (wpAny_pure (wpAny_pure h)))
end
end ST
namespace ST
open PySem PySem.SetTable
section
variable {prog:Program} {w:World} {A:Around} {E:Value→Shared→Prop} {s:Shared}
set_option maxRecDepth 100000 in
set_option maxHeartbeats 3200000 in
theorem call_set_pts {l:Addr} {items:Array Value} {Q:Value→Shared→Prop} (kx:Nat→List Int×Addr) (hh:A.handled=none) (hu:A.in1.in1.in1.units < cLine) (hl:s.heap.IsList l items)
  (hit:∀ (i:Nat) (v:Value),items[i]?=some v→v=.ref (kx i).2) (htk:∀ i,i < items.size→TK prog w s.heap (kx i).1 (kx i).2) (hn:items.size≤1000)
  (h:∀ (h':Heap) (tk:Nat) (kb:List (List Int×Addr)),SP prog w h' s.heap.objs.size kb→Got kx items.size kb→(∀ b o,s.heap.get? b=some o→h'.get? b=some o)→Q (.ref s.heap.objs.size) { s with heap:=h',toks:=tk }):
  wpAny (model prog w) A (call (.type "set") [.ref l]) Q E s:=by
 obtain ⟨cc,tl,hmro⟩:=PySem.F.called_set.mro
 have hmade:=PySem.F.called_set.made
 have hsub:=PySem.F.called_set.sub
 refine wpAny_call (codeAny_of_tree ?_)
 show wpAny _ _ (callAny (.type "set") _) _ _ _
 refine wpAny_pure ⟨Code.quiet_builtin _ (by decide+kernel),codeAny_builtin PySem.F.entry_type_call ?_⟩
 rw [Around.under_plain (weight_type_call_type "set" [.ref l] []) rfl]
 have g1:=PySem.F.called_set.notType
 have g2:=PySem.F.called_set.canCreate
 have g3:=PySem.F.typeCall_set_1 (.ref l)
 repeat (any_goals (first | assumption | wp_step))
 refine codeAny_mono (sM (w:=w) (.ref l) (E:=E) (Q:=fun obj s₁=> obj=.ref s.heap.objs.size∧s₁={ s with heap:=s.heap.push (bQ w) }) ⟨rfl,rfl⟩) fun r s₁ hr=> ?_
 cases r with
 | error e=> exact hr
 | ok fl=>
  cases fl with
  | ret obj=>
   obtain ⟨rfl,rfl⟩:=hr
   have hS:(s.heap.push (bQ w)).get? s.heap.objs.size=some (bQ w):=Heap.get?_push_size _ rfl
   have hT:Shared.TypeIs { s with heap:=s.heap.push (bQ w) } (.ref s.heap.objs.size) "set":=⟨_,hS,rfl⟩
   have hli:=PySem.F.called_set.init.lookup
   have hbi:=PySem.F.called_set.init.bind (.ref s.heap.objs.size)
   repeat (any_goals (first | assumption | wp_step))
   refine codeAny_mono (codeAny_call_builtin (R:=wants (fun r s₂=> r=.none∧∃ h' tk kb,s₂={ s with heap:=h',toks:=tk }∧
     SP prog w h' s.heap.objs.size kb∧Got kx items.size kb∧(∀ b o,s.heap.get? b=some o→h'.get? b=some o)) E) PySem.F.called_set.init.plain PySem.F.entry_set_init (check_set_init_1 hT ?_)) fun r₂ s₂ hr₂=> ?_
   ·obtain ⟨ol,hol,hcl,nl,hdl⟩:=hl
    obtain ⟨ocls,odict,odata,oslots⟩:=ol
    simp only at hcl hdl
    subst hcl; subst hdl
    have hol':(s.heap.push (bQ w)).get? l=some { cls:=.type "list",dict:=odict,data:=.seq items nl,slots:=oslots }:=Heap.get?_push_of_some _ hol
    have k1:=PySem.F.sub_list_set
    have k2:=PySem.F.sub_list_frozenset
    have k3:(Value.type "list"==Value.type "dict")=false:=by decide
    have hl1:(s.heap.push (bQ w)).IsList l items:=⟨_,hol',rfl,nl,rfl⟩
    unfold Builtin.«set.__init__» noKeywords Builtin.Frozenset.updateFrom
    generalize hPI:pyIter=PI
    wp_walk
    subst hPI
    refine wpAny_pyIter_list hl1 (wpAny_bind (wpAny_runValue ?_))
    have hlS:l < s.heap.objs.size:=Heap.lt_size hol
    have h3:A.in1.in1.in1.handled=none:=by simp [hh]
    have szI:(s.heap.push (bQ w)).objs.size=s.heap.objs.size+1:=Heap.size_push ..
    have hneI:l≠(s.heap.push (bQ w)).objs.size:=by rw [szI]; exact Nat.ne_of_lt (Nat.lt_succ_of_lt hlS)
    have hSf:s.heap.objs.size ∉ [(s.heap.push (bQ w)).objs.size,l]:=by
     rw [szI]
     intro z
     rcases List.mem_cons.mp z with z | z
     ·exact absurd z (Nat.ne_of_lt (Nat.lt_succ_self _))
     ·exact absurd (List.mem_singleton.mp z) (Nat.ne_of_gt hlS)
    refine ph ((Walks.list h3 _ l hneI items).toS) hu hSf kx hit (fun i hi=> ?_) hn (items.size - 0) 0 _ [] (by omega) (Nat.zero_le _)
     ⟨⟨_,Heap.get?_push_size _ rfl,rfl,rfl⟩,(hl1.push _)⟩ ?_ ⟨fun p hp=> by simp at hp,fun j hj=> by omega,by simp⟩ (fun j hj=> ?_) fun s' kb m hS' g=> ?_
    ·intro z
     have z':=List.mem_singleton.mp z
     obtain ⟨o,_,_,ho,_⟩:=htk i hi
     have:=Heap.lt_size ho
     rw [z',szI] at this
     exact Nat.lt_irrefl _ (Nat.lt_trans (Nat.lt_succ_self _) this)
    ·exact rC (Heap.get?_push_of_some _ hS)
    ·obtain ⟨o,its,k,ho,r⟩:=htk j hj
     exact ⟨o,its,k,Heap.get?_push_of_some _ (Heap.get?_push_of_some _ ho),r⟩
    ·obtain ⟨h',g',d',tk',os'⟩:=s'
     obtain rfl:g'=s.gens:=m.gens
     obtain rfl:d'=s.drawn:=m.drawn
     obtain rfl:os'=s.os:=m.os
     refine wpAny_pure ?_
     show wpAny _ _ (ret Value.none) _ _ _
     refine wpAny_pure ⟨rfl,h',tk',kb,rfl,hS',g,fun b o e=> ?_⟩
     have hb:=Heap.lt_size e
     refine m.heap b o (fun z=> ?_) (Heap.get?_push_of_some _ (Heap.get?_push_of_some _ e))
     rcases List.mem_cons.mp z with z | z
     ·exact absurd z (Nat.ne_of_lt hb)
     ·have z':=List.mem_singleton.mp z
      rw [z',szI] at hb
      exact Nat.lt_irrefl _ (Nat.lt_trans (Nat.lt_succ_self _) hb)
   ·cases r₂ with
    | error e=> exact hr₂
    | ok fl₂=>
     cases fl₂ with
     | ret r=>
      obtain ⟨rfl,h',tk,kb,rfl,hS',g,hk'⟩:=hr₂
      repeat (any_goals (first | assumption | wp_step))
      exact h _ _ kb hS' g hk'
     | _=> exact hr₂.elim
  | _=> exact hr.elim
end
end ST
namespace ST
open PySem PySem.SetTable
theorem cQ:Slot "set_iterator" "__next__" "set_iterator.__next__":=
 .of (owner:="set_iterator") (n:="__next__") (by rw [typeLookup_type,builtinLookup_eq_fast]; kernel_rfl) (by decide+kernel) (by decide+kernel) (by decide+kernel) (by first | exact .inl (by decide+kernel) | exact .inr (by decide+kernel)) (by rw [isSubtype_type]; kernel_rfl)
theorem ie:entryFor table "set_iterator.__next__"=some Builtin.«set_iterator.__next__»:=entryFor_of_tree (by kernel_rfl)
theorem jh (a:Value):argsOk "set_iterator.__next__" ⟨[a],[]⟩:=by unfold argsOk; kernel_rfl
theorem ma:entryFor table "set.__iter__"=some Builtin.«frozenset.__iter__»:=entryFor_alias (id':="frozenset.__iter__") (by kernel_rfl) rfl (by decide+kernel) (by kernel_rfl)
theorem mI {α:Type} {l:List α} {i:Nat} (h:i < l.length):(l[i]::l.eraseIdx i).Perm l:=by
 rw [List.eraseIdx_eq_take_drop_succ]
 refine List.perm_middle.symm.trans ?_
 rw [← List.drop_eq_getElem_cons h,List.take_append_drop]
theorem mY {α:Type} (next:Nat→Nat):∀ (fuel k:Nat) (left:List α) (out:Array α),left.length=fuel→(pickOrder.go next fuel k left out).toList.Perm (out.toList++left)
 | 0,k,left,out,h=> by
  obtain rfl:left=[]:=List.length_eq_zero_iff.mp h
  rw [pickOrder.go,List.append_nil]
 | fuel+1,k,left,out,h=> by
  have hi:next k % left.length < left.length:=Nat.mod_lt _ (by omega)
  rw [pickOrder.go,List.getElem?_eq_getElem hi]
  refine (mY next fuel (k+1) _ _ (by rw [List.length_eraseIdx_of_lt hi]; omega)).trans ?_
  rw [Array.toList_push,List.append_assoc]
  refine List.Perm.append_left _ ?_
  rw [List.singleton_append]
  exact mI hi
theorem qj {α:Type} (next:Nat→Nat) (xs:Array α):(pickOrder next xs).toList.Perm xs.toList:=by
 unfold pickOrder
 have:=mY next xs.size 0 xs.toList #[] (by simp)
 simpa using this
section
variable {prog:Program} {w:World} {A:Around} {E:Value→Shared→Prop} {s:Shared}
def bV (w:World) (S:Addr) (es:Array (Int×Value)) (ep:Nat):List Value:=(if w.params.followText "set-order"=true then pickOrder (w.params.setOrder S ep) es else es).toList.map (·.2)
theorem dm (w:World) (S:Addr) (es:Array (Int×Value)) (ep:Nat):(bV w S es ep).Perm (es.toList.map (·.2)):=by
 unfold bV
 refine List.Perm.map _ ?_
 split
 ·exact qj _ es
 ·exact List.Perm.refl _
def dY (t:SetTable):Nat→Nat
 | 0=> 0
 | j+1=> t.place.getD j 0+1
def aQ (w:World) (t:SetTable) (i:Nat):Nat:=if w.params.followText "set-order"=true then 0 else dY t i
def mt (w:World) (h:Heap) (it S:Addr) (t:SetTable) (i n ep:Nat):Prop:=∃ o,h.get? it=some o∧o.cls=.type "set_iterator"∧o.data=.fields #[rawInt (aQ w t i),rawInt i,.ref S,rawInt n,rawInt ep]
theorem mt.ty {it S:Addr} {t:SetTable} {i n ep:Nat} (x:mt w s.heap it S t i n ep):s.TypeIs (.ref it) "set_iterator":=let ⟨o,ho,hc,_⟩:=x; ⟨o,ho,hc⟩
structure SO (prog:Program) (w:World) (o:Obj) (es:Array (Int×Value)) (ep:Nat) (t:SetTable) (hs:List Int):Prop where
 ex:o.ExactSet
 d:o.data=.set es ep t
 T:TOk t hs
 n:hs.length=es.size
 led:t.led=(!w.params.followText "set-order")
 plain:t.plain=true
theorem pW {S:Addr} {o:Obj} {es ep t hs} {Q:Bool→Shared→Prop} (O:SO prog w o es ep t hs) (ho:s.heap.get? S=some o) (h:Q false s):wpAny (model prog w) A (setDrawn S) Q E s:=by
 unfold setDrawn setsByText
 refine wpAny_bind (wpAny_setState_of ho O.d (O.T.fits O.n) (wpAny_bind (wpAny_bind (wpAny_askSetting (wpAny_pure (wpAny_pure ?_))))))
 have q:Q (!w.params.followText "set-order" && (!t.plain && decide (es.size > 1))) s:=by rw [O.plain]; simpa using h
 exact q
theorem rO {S:Addr} {o:Obj} {es ep t hs} {Q:Value→Shared→Prop} (O:SO prog w o es ep t hs) (ho:s.heap.get? S=some o)
  (hQ:Q (.ref s.heap.objs.size) { s with heap:=s.heap.push { cls:=.type "set_iterator",data:=.fields #[rawInt 0,rawInt 0,.ref S,rawInt es.size,rawInt ep] } }):wpAny (model prog w) A (pyIter (.ref S)) Q E s:=by
 have hT:s.TypeIs (.ref S) "set":=⟨o,ho,O.ex.1⟩
 refine wpAny_pyIter_slot hT PySem.F.slot_set_iter (wpAny_call_entry PySem.F.slot_set_iter hT ma ?_ (PySem.F.args_set_iter_1 _))
 unfold Builtin.«frozenset.__iter__»
 show wpAny _ _ (Builtin.Frozenset.sizeOf S >>=_) _ _ s
 unfold Builtin.Frozenset.sizeOf
 refine wpAny_bind (wpAny_bind (wpAny_setEntries_of ho O.d (O.T.fits O.n) (wpAny_pure ?_)))
 refine wpAny_bind (pW O ho ?_)
 simp only [Bool.false_eq_true,if_false]
 refine wpAny_bind (wpAny_pure ?_)
 refine wpAny_bind (wpAny_setEpoch_of ho O.d (O.T.fits O.n) ?_)
 refine wpAny_bind (wpAny_newObj_type (wpAny_pure ⟨_,rfl,"set_iterator",_,⟨_,Heap.get?_push_size _ rfl,rfl⟩,cQ.lookup,?_⟩))
 exact hQ
theorem lI {t:SetTable} {hs:List Int} (T:TOk t hs) {i:Nat} (hi:i≤t.place.size):below t.place (dY t i)=i:=by
 obtain ⟨h1,h2,h3⟩:=dC T.R (dY t i)
 cases i with
 | zero=>
  dsimp only [dY] at *
  rcases Nat.eq_zero_or_pos (below t.place 0) with z | z
  ·exact z
  ·have:=h1 0 _ z (c_ (by omega)); omega
 | succ j=>
  dsimp only [dY] at *
  have hj:j < t.place.size:=by omega
  have ej:t.place.getD j 0=t.place[j]:=by simp [Array.getD,hj]
  rw [ej] at h1 h2 h3 ⊢
  generalize hb:below t.place (t.place[j]+1)=b at *
  rcases Nat.lt_trichotomy b (j+1) with z | z | z
  ·have:=h2 j t.place[j] (by omega) (c_ hj); omega
  ·exact z
  ·have q:=h1 (j+1) _ z (c_ (by omega))
   have:=T.R j (j+1) _ _ (by omega) (c_ hj) (c_ (show j+1 < t.place.size by omega))
   omega
theorem im {S:Addr} {o:Obj} {es ep t hs} {i:Nat} {Q:Option (Value×Nat)→Shared→Prop} (O:SO prog w o es ep t hs) (ho:s.heap.get? S=some o) (hi:i≤es.size)
  (h:Q (((bV w S es ep)[i]?).map fun v=> (v,aQ w t (i+1))) s):wpAny (model prog w) A (setNext S (aQ w t i) i ep) Q E s:=by
 have hfit:=O.T.fits O.n
 have hpl:t.place.size=es.size:=by rw [O.T.n,O.n]
 unfold setNext setsByText
 refine wpAny_bind (wpAny_setState_of ho O.d hfit (wpAny_bind (wpAny_bind (wpAny_askSetting (wpAny_pure ?_)))))
 by_cases bt:w.params.followText "set-order"=true
 ·dsimp only
  rw [show (model prog w).w.params.followText "set-order"=true from bt,if_pos rfl,if_neg (by simp)]
  unfold setWalk setsByText
  refine wpAny_bind (wpAny_bind (wpAny_setState_of ho O.d hfit (wpAny_bind (wpAny_bind (wpAny_askSetting (wpAny_pure ?_))))))
  dsimp only
  rw [show (model prog w).w.params.followText "set-order"=true from bt,if_pos rfl]
  refine wpAny_bind (wpAny_askSetting (wpAny_pure (wpAny_pure ?_)))
  have e:Option.map (fun (e:Int×Value)=> (e.2,aQ w t i)) (pickOrder (w.params.setOrder S ep) es)[i]?=((bV w S es ep)[i]?).map fun v=> (v,aQ w t (i+1)):=by
   unfold bV aQ
   rw [if_pos bt,if_pos bt,if_pos bt,List.getElem?_map,Array.getElem?_toList,Option.map_map]
   rfl
  have q:Q (Option.map (fun (e:Int×Value)=> (e.2,aQ w t i)) (pickOrder (w.params.setOrder S ep) es)[i]?) s:=by rw [e]; exact h
  exact q
 ·have bf:w.params.followText "set-order"=false:=by simpa using bt
  dsimp only
  rw [show (model prog w).w.params.followText "set-order"=false from bf,if_neg (by simp)]
  have e1:aQ w t i=dY t i:=by unfold aQ; rw [if_neg bt]
  have e2:below t.place (aQ w t i)=i:=by rw [e1]; exact lI O.T (by omega)
  have e3:(match es[below t.place (aQ w t i)]?,t.place[below t.place (aQ w t i)]? with
    | some (_,x),some j=> some (x,j+1)
    | _,_=> none)=((bV w S es ep)[i]?).map fun v=> (v,aQ w t (i+1)):=by
   rw [e2]
   unfold bV aQ
   rw [if_neg bt,if_neg bt,List.getElem?_map,Array.getElem?_toList]
   rcases Nat.lt_or_ge i es.size with z | z
   ·have z':i < t.place.size:=by omega
    simp [z,z',Array.getD,dY]
   ·have z':t.place.size≤i:=by omega
    simp [z,z']
  split
  ·rename_i hc
   exact absurd (show (!t.plain && decide (es.size > 1))=true from hc) (by rw [O.plain]; simp)
  ·refine wpAny_bind ?_
   show wpAny _ _ (if (!t.led && !es.isEmpty)=true then unsupported "set:maker-not-led" else pure ()) _ _ _
   rw [O.led,bf,if_neg (by simp)]
   refine wpAny_pure (wpAny_pure ?_)
   have q:Q (match es[below t.place (aQ w t i)]?,t.place[below t.place (aQ w t i)]? with
    | some (_,x),some j=> some (x,j+1)
    | _,_=> none) s:=by rw [e3]; exact h
   exact q
set_option maxHeartbeats 1000000 in
theorem ot {S it:Addr} {o:Obj} {es ep t hs} {i:Nat} {v:Value} {Q:Option Value→Shared→Prop} (O:SO prog w o es ep t hs) (ho:s.heap.get? S=some o) (hit:mt w s.heap it S t i es.size ep) (hv:(bV w S es ep)[i]?=some v)
  (hQ:∀ h',mt w h' it S t (i+1) es.size ep→Heap.SameBut it s.heap h'→Q (some v) { s with heap:=h' }):wpAny (model prog w) A (pyNext (.ref it)) Q E s:=by
 obtain ⟨oi,hoi,hc,hd⟩:=id hit
 have hfit:=O.T.fits O.n
 unfold pyNext
 refine wpAny_bind (wpAny_attempt (wpAny_callSpecial?_slot (name:=Str.ofString "__next__") hit.ty cQ (wpAny_call_entry cQ hit.ty ie ?_ (jh _))))
 unfold Builtin.«set_iterator.__next__»
 refine wpAny_bind (m:=slotArgs "__next__" 0 _) (wpAny_pure ?_)
 dsimp only
 refine wpAny_bind (wpAny_fieldsOf hoi hd ?_)
 dsimp only [rawInt]
 refine wpAny_bind (wpAny_setEntries_of ho O.d hfit ?_)
 rw [if_neg (by simp)]
 have hlt:i < es.size:=by
  have q:=(List.getElem?_eq_some_iff.mp hv).1
  rw [(dm w S es ep).length_eq,List.length_map,Array.length_toList] at q
  exact q
 rw [show ((aQ w t i:Nat):Int).toNat=aQ w t i from Int.toNat_natCast _,show ((i:Nat):Int).toNat=i from Int.toNat_natCast _,show ((ep:Nat):Int).toNat=ep from Int.toNat_natCast _]
 refine wpAny_bind (im O ho (Nat.le_of_lt hlt) ?_)
 rw [hv]
 dsimp only [Option.map]
 refine wpAny_bind (wpAny_setField hoi hd (by simp) ?_)
 have g1:=Heap.get?_update_self (Obj.mapFields (·.setIfInBounds 0 (Value.int ((aQ w t (i+1):Nat):Int) 0))) hoi (Obj.isFreed_of_fields (Obj.data_mapFields hd _))
 refine wpAny_bind (wpAny_setField g1 (Obj.data_mapFields hd _) (by simp) ?_)
 refine wpAny_pure ⟨_,rfl,wpAny_pure (hQ _ ?_ ((Heap.SameBut.update ..).trans (Heap.SameBut.update ..)))⟩
 refine ⟨_,Heap.get?_update_self _ g1 (Obj.isFreed_of_fields (Obj.data_mapFields (Obj.data_mapFields hd _) _)),(Obj.cls_mapFields ..).trans ((Obj.cls_mapFields ..).trans hc),?_⟩
 rw [Obj.data_mapFields (Obj.data_mapFields hd _)]
 simp [rawInt]
set_option maxHeartbeats 1000000 in
theorem pH {S it:Addr} {o:Obj} {es ep t hs} {Q:Option Value→Shared→Prop} (hh:A.handled=none) (O:SO prog w o es ep t hs) (ho:s.heap.get? S=some o) (hit:mt w s.heap it S t es.size es.size ep)
  (hQ:∀ h',Heap.ExtBut it s.heap h'→Q none { s with heap:=h' }):wpAny (model prog w) A (pyNext (.ref it)) Q E s:=by
 obtain ⟨oi,hoi,hc,hd⟩:=id hit
 have hfit:=O.T.fits O.n
 unfold pyNext
 refine wpAny_bind (wpAny_attempt (wpAny_callSpecial?_slot (name:=Str.ofString "__next__") hit.ty cQ (wpAny_call_entry cQ hit.ty ie ?_ (jh _))))
 unfold Builtin.«set_iterator.__next__»
 refine wpAny_bind (m:=slotArgs "__next__" 0 _) (wpAny_pure ?_)
 dsimp only
 refine wpAny_bind (wpAny_fieldsOf hoi hd ?_)
 dsimp only [rawInt]
 refine wpAny_bind (wpAny_setEntries_of ho O.d hfit ?_)
 rw [if_neg (by simp)]
 rw [show ((aQ w t es.size:Nat):Int).toNat=aQ w t es.size from Int.toNat_natCast _,show ((es.size:Nat):Int).toNat=es.size from Int.toNat_natCast _,show ((ep:Nat):Int).toNat=ep from Int.toNat_natCast _]
 refine wpAny_bind (im O ho (Nat.le_refl _) ?_)
 rw [show (bV w S es ep)[es.size]?=none from List.getElem?_eq_none (by rw [(dm w S es ep).length_eq,List.length_map,Array.length_toList]; exact Nat.le_refl _)]
 dsimp only [Option.map]
 refine wpAny_bind (wpAny_setField hoi hd (by simp) ?_)
 refine wpAny_bind ?_
 simp only [newExc,newTuple]
 refine wpAny_bind (wpAny_newObj_type ?_ (by size_fits))
 refine wpAny_bind (m:=firstArgMember _ _) (wpAny_of_eq (a:=Value.none) (by first | rfl | (simp only [firstArgMember]; rfl)) ?_)
 refine wpAny_newObj_type ?_ (by size_fits)
 simp only [raiseNew]
 refine wpAny_bind (wpAny_handled ?_)
 rw [show A.in1.handled=none from hh]
 refine wpAny_bind (wpAny_pure (wpAny_throw ?_))
 refine wpAny_bind (wpAny_isInstance (T:="StopIteration") (b:=true) ⟨_,Heap.get?_push_size _ rfl,rfl⟩ isSubtype_stop ?_)
 exact wpAny_pure (hQ _ (((Heap.SameBut.update ..).extBut.push _).push _))
end
end ST
namespace ST
open PySem PySem.SetTable PySem.W
theorem i_:Slot "set_iterator" "__iter__" "set_iterator.__iter__":=
 .of (owner:="set_iterator") (n:="__iter__") (by rw [typeLookup_type,builtinLookup_eq_fast]; kernel_rfl) (by decide+kernel) (by decide+kernel) (by decide+kernel) (by first | exact .inl (by decide+kernel) | exact .inr (by decide+kernel)) (by rw [isSubtype_type]; kernel_rfl)
theorem lJ:entryFor table "set_iterator.__iter__"=some Builtin.«dict_keyiterator.__iter__»:=entryFor_alias (id':="dict_keyiterator.__iter__") (by kernel_rfl) rfl (by decide+kernel) (by kernel_rfl)
theorem oU (a:Value):argsOk "set_iterator.__iter__" ⟨[a],[]⟩:=by unfold argsOk; kernel_rfl
section
variable {prog:Program} {w:World} {A:Around} {E:Value→Shared→Prop} {s:Shared}
theorem uc {it S:Addr} {t:SetTable} {i n ep:Nat} {Q:Value→Shared→Prop} (hit:mt w s.heap it S t i n ep) (h:Q (.ref it) s):wpAny (model prog w) A (pyIter (.ref it)) Q E s:=by
 refine wpAny_pyIter_slot hit.ty i_ (wpAny_call_entry i_ hit.ty lJ ?_ (oU _))
 exact wpAny_pure ⟨_,rfl,"set_iterator",_,hit.ty,cQ.lookup,h⟩
theorem o4 (hh:A.handled=none) {it S:Addr} (hne:S≠it) {o:Obj} {es ep t hs} (O:SO prog w o es ep t hs):
  Walks prog w A it [it,S] [it] es.size (fun i v=> (bV w S es ep)[i]?=some v) (fun i h=> mt w h it S t i es.size ep∧h.get? S=some o) where
 sub:=fun b hb=> by simp at hb; simp [hb]
 frame:=fun _ _ _ st hk=> ⟨let ⟨x,hx,r⟩:=st.1; ⟨x,hk it (by simp) x hx,r⟩,hk S (by simp) o st.2⟩
 item:=fun i s Q E hi st hQ=> by
  obtain ⟨v,hv⟩:∃ v,(bV w S es ep)[i]?=some v:=⟨_,List.getElem?_eq_getElem (by rw [(dm w S es ep).length_eq,List.length_map,Array.length_toList]; exact hi)⟩
  refine ot O st.2 st.1 hv fun h' hit' sb=> ?_
  exact hQ v h' s.toks hv ⟨hit',(sb.2 S hne).trans st.2⟩ fun b x hb e=> sb.extBut b x (fun z=> hb (by simp [z])) e
 done:=fun s Q E st hQ=> pH hh O st.2 st.1 fun h' xb=> hQ h' s.toks fun b x hb e=> xb b x (fun z=> hb (by simp [z])) e
 self:=fun _ _ _ _ st hQ=> uc st.1 hQ
theorem pE {r:Addr} {Q:Bool→Shared→Prop} (hT:s.TypeIs (.ref r) "set") (h:Q false s):wpAny (model prog w) A (Builtin.List.listLengthHint (.ref r)) Q E s:=by
 unfold Builtin.List.listLengthHint
 refine wpAny_bind (wpAny_specialOf hT PySem.F.slot_set_len.lookup ?_)
 generalize hid:("set.__len__":String)=id0
 wp_delta
 rw [show splitId id0=some ("set","__len__") from by subst hid; decide+kernel]
 subst hid
 refine wpAny_bind (wpAny_isInstance (T:="set") (b:=true) hT (by rw [isSubtype_type]; kernel_rfl) ?_)
 refine wpAny_ite_split (fun z=> absurd z (by decide)) (fun _=> ?_)
 refine wpAny_ite_split (fun _=> ?_) (fun z=> absurd (by decide+kernel) z)
 exact wpAny_bind (wpAny_typeOf hT (wpAny_pure h))
theorem tO {S:Addr} {o:Obj} {es ep t hs} (O:SO prog w o es ep t hs):KdlSrc prog w "set" S S es.size (fun i v=> (bV w S es ep)[i]?=some v) (fun h=> h.get? S=some o) where
 type:=fun _ hm=> ⟨o,hm,O.ex.1⟩
 there:=fun _ hm=> ⟨Heap.lt_size hm,Heap.lt_size hm⟩
 keep:=fun _ _ hm hk=> hk S (.inl rfl) o hm
 notList:=by decide
 notTuple:=by decide
 hint:=fun _ _ _ _ hm hq=> pE ⟨o,hm,O.ex.1⟩ hq
 iter:=fun _ s hh hm=> ⟨_,_,(fun _ _ hq=> rO O hm hq),o4 hh (Nat.ne_of_lt (Heap.lt_size hm)) O,⟨⟨_,Heap.get?_push_size _ rfl,rfl,by simp [aQ,dY]⟩,Heap.get?_push_of_some _ hm⟩⟩
end
end ST
namespace ST
open PySem PySem.W PyProof.Rows
inductive dQ (lt:Nat→Nat→Bool) (n:Nat) {α:Type}:KasT α→α→Prop
 | ret (a:α):dQ lt n (.ret a) a
 | ask {i j:Nat} {k:Bool→KasT α} {a:α}:i < n→j < n→dQ lt n (k (lt i j)) a→dQ lt n (.ask i j k) a
variable {lt:Nat→Nat→Bool} {n:Nat}
theorem dQ.bind {α β:Type} {t:KasT α} {a:α} {f:α→KasT β} {b:β} (h:dQ lt n t a) (h':dQ lt n (f a) b):dQ lt n (t.bind f) b:=by
 induction h with
 | ret a=> exact h'
 | ask hi hj _ ih=> exact dQ.ask hi hj (ih h')
theorem dQ.wp {α:Type} {t:KasT α} {a:α} (h:dQ lt n t a) {cmp:Nat→Nat→(Bool→Shared→Prop)→Shared→Prop} {s:Shared} (hc:∀ i j C,i < n→j < n→C (lt i j) s→cmp i j C s) {Q:α→Shared→Prop} (q:Q a s):t.kasWp cmp Q s:=by
 induction h with
 | ret a=> exact q
 | ask hi hj _ ih=> exact hc _ _ _ hi hj (ih q)
structure LtO (n:Nat) (lt:Nat→Nat→Bool):Prop where
 tr:∀ i j k,lt i j=true→lt j k=true→lt i k=true
 tot:∀ i j,i < n→j < n→i≠j→lt i j=false→lt j i=true
 asy:∀ i j,lt i j=true→lt j i=false
abbrev g (p:Array Nat) (k:Nat):Nat:=p.getD k 0
theorem tG {p q:Array Nat} {k l:Nat} (h:p[k]?=q[l]?):g p k=g q l:=by
 unfold g
 rw [Array.getD_eq_getD_getElem?,Array.getD_eq_getD_getElem?,h]
structure PP (n:Nat) (p:Array Nat):Prop where
 perm:p.toList.Perm (List.range n)
theorem PP.size {p:Array Nat} (h:PP n p):p.size=n:=by rw [← Array.length_toList,h.perm.length_eq,List.length_range]
theorem PP.mem {p:Array Nat} (h:PP n p) {k:Nat} (hk:k < n):g p k < n:=by
 have hk':k < p.size:=by rw [h.size]; exact hk
 have e:g p k=p[k]:=by simp [g,Array.getD,hk']
 rw [e]
 exact List.mem_range.mp (h.perm.mem_iff.mp (by simp))
theorem PP.inj {p:Array Nat} (h:PP n p) {k l:Nat} (hk:k < n) (hl:l < n) (e:g p k=g p l):k=l:=by
 have hk':k < p.toList.length:=by rw [Array.length_toList,h.size]; exact hk
 have hl':l < p.toList.length:=by rw [Array.length_toList,h.size]; exact hl
 have nd:p.toList.Nodup:=h.perm.nodup_iff.mpr List.nodup_range
 have e1:g p k=p.toList[k]:=by simp [g,Array.getD,h.size,hk]
 have e2:g p l=p.toList[l]:=by simp [g,Array.getD,h.size,hl]
 exact (List.getElem_inj nd).mp (by rw [← e1,← e2,e])
theorem PP.of {p q:Array Nat} (h:PP n p) (hq:q.Perm p):PP n q:=⟨(Array.perm_iff_toList_perm.mp hq).trans h.perm⟩
def Srt (lt:Nat→Nat→Bool) (p:Array Nat) (m:Nat):Prop:=∀ i j,i < j→j < m→lt (g p i) (g p j)=true
def Dsc (lt:Nat→Nat→Bool) (p:Array Nat) (m:Nat):Prop:=∀ i j,i < j→j < m→lt (g p j) (g p i)=true
theorem Srt.one (p:Array Nat):Srt lt p 1:=fun i j h1 h2=> by omega
theorem Srt.more (O:LtO n lt) {p:Array Nat} {m:Nat} (S:Srt lt p m) (h1:1≤m) (h:lt (g p (m - 1)) (g p m)=true):Srt lt p (m+1):=fun i j hij hj=> by
 rcases Nat.lt_or_eq_of_le (Nat.le_of_lt_succ hj) with z | z
 ·exact S i j hij z
 ·subst z
  rcases Nat.lt_or_eq_of_le (show i≤j - 1 by omega) with y | y
  ·exact O.tr _ _ _ (S i (j - 1) y (by omega)) h
  ·subst y; exact h
theorem Dsc.more (O:LtO n lt) {p:Array Nat} {m:Nat} (S:Dsc lt p m) (h1:1≤m) (h:lt (g p m) (g p (m - 1))=true):Dsc lt p (m+1):=fun i j hij hj=> by
 rcases Nat.lt_or_eq_of_le (Nat.le_of_lt_succ hj) with z | z
 ·exact S i j hij z
 ·subst z
  rcases Nat.lt_or_eq_of_le (show i≤j - 1 by omega) with y | y
  ·exact O.tr _ _ _ h (S i (j - 1) y (by omega))
  ·subst y; exact h
theorem kc (O:LtO n lt) {p:Array Nat} (P:PP n p):∀ (f m:Nat),1≤m→m+f=n→Srt lt p m→∃ m',dQ lt n (kas_asc p f m) m'∧m≤m'∧m'≤n∧Srt lt p m'∧(m' < n→lt (g p m') (g p (m' - 1))=true)
 | 0,m,h1,hf,S=> ⟨m,.ret m,Nat.le_refl _,by omega,S,fun h=> by omega⟩
 | f+1,m,h1,hf,S=> by
  by_cases hc:lt (g p m) (g p (m - 1))=true
  ·refine ⟨m,.ask (P.mem (by omega)) (P.mem (by omega)) ?_,Nat.le_refl _,by omega,S,fun _=> hc⟩
   rw [if_pos hc]; exact .ret m
  ·have hc':lt (g p m) (g p (m - 1))=false:=by simpa using hc
   have ht:=O.tot _ _ (P.mem (show m < n by omega)) (P.mem (show m - 1 < n by omega)) (fun e=> by have:=P.inj (by omega) (by omega) e; omega) hc'
   obtain ⟨m',r,a1,a2,a3,a4⟩:=kc O P f (m+1) (by omega) (by omega) (S.more O h1 ht)
   refine ⟨m',.ask (P.mem (by omega)) (P.mem (by omega)) ?_,by omega,a2,a3,a4⟩
   rw [if_neg hc]; exact r
theorem kO (O:LtO n lt) {p:Array Nat} (P:PP n p):∀ (f m:Nat),1≤m→m+f=n→Dsc lt p m→∃ m',dQ lt n (kas_desc f p m 0) (p,m',0)∧m≤m'∧m'≤n∧Dsc lt p m'
 | 0,m,h1,hf,S=> ⟨m,.ret _,Nat.le_refl _,by omega,S⟩
 | f+1,m,h1,hf,S=> by
  by_cases hc:lt (g p m) (g p (m - 1))=true
  ·obtain ⟨m',r,a1,a2,a3⟩:=kO O P f (m+1) (by omega) (by omega) (S.more O h1 hc)
   refine ⟨m',.ask (P.mem (by omega)) (P.mem (by omega)) ?_,by omega,a2,a3⟩
   rw [if_pos hc,if_neg (by omega)]; exact r
  ·have hc':lt (g p m) (g p (m - 1))=false:=by simpa using hc
   have ht:=O.tot _ _ (P.mem (show m < n by omega)) (P.mem (show m - 1 < n by omega)) (fun e=> by have:=P.inj (by omega) (by omega) e; omega) hc'
   refine ⟨m,.ask (P.mem (by omega)) (P.mem (by omega)) ?_,Nat.le_refl _,by omega,S⟩
   rw [if_neg hc]
   refine .ask (P.mem (by omega)) (P.mem (by omega)) ?_
   rw [if_pos ht]; exact .ret _
theorem rH {p:Array Nat} (P:PP n p) {m k:Nat} (hm:m≤n) (hk:k < m):g (kas_rev p 0 m) k=g p (m - 1 - k):=by
 refine tG ?_
 unfold kas_rev
 rw [getElem?_mirror (by rw [P.size]; exact hm) _ (by omega)]
 split
 ·congr 1; omega
 ·congr 1; omega
theorem rM {p:Array Nat} (P:PP n p) (i j:Nat):PP n (kas_rev p i j):=P.of (mirror_perm _ _ _ _)
theorem tP {p:Array Nat} (P:PP n p) {m:Nat} (hm:m≤n) (D:Dsc lt p m):Srt lt (kas_rev p 0 m) m:=fun i j hij hj=> by
 rw [rH P hm (by omega),rH P hm hj]
 exact D _ _ (by omega) (by omega)
theorem ox (O:LtO n lt) {p:Array Nat} (P:PP n p) (h2:2≤n):∃ m p',dQ lt n (kas_count n p) (m,p')∧PP n p'∧1≤m∧m≤n∧Srt lt p' m:=by
 obtain ⟨m,r,a1,a2,a3,a4⟩:=kc O P (n - 1) 1 (Nat.le_refl _) (by omega) (Srt.one p)
 by_cases hm:m=n
 ·exact ⟨m,p,r.bind (by rw [if_pos (by simp [hm])]; exact .ret _),P,a1,a2,a3⟩
 ·have hne:¬ ((m==n)=true):=by simpa using hm
  by_cases h1:m > 1
  ·refine ⟨m,p,r.bind ?_,P,a1,a2,a3⟩
   rw [if_neg hne,if_pos h1]
   refine .ask (P.mem (by omega)) (P.mem (by omega)) ?_
   rw [if_pos (a3 0 (m - 1) (by omega) (by omega))]
   exact .ret _
  ·obtain rfl:m=1:=by omega
   have D2:Dsc lt p 2:=Dsc.more O (fun i j x y=> by omega) (Nat.le_refl _) (a4 (by omega))
   obtain ⟨d,rd,b1,b2,b3⟩:=kO O P (n - 2) 2 (by omega) (by omega) D2
   obtain ⟨e,re,c1,c2,c3,c4⟩:=kc O (rM P 0 d) (n - d) d (by omega) (by omega) (tP P b2 b3)
   refine ⟨e,kas_rev p 0 d,r.bind ?_,rM P 0 d,by omega,c2,c3⟩
   rw [if_neg hne,if_neg h1]
   unfold kas_descPart
   refine dQ.bind (a:=(p,d,0)) rd ?_
   rw [if_neg (by simp)]
   unfold kas_tail3
   exact re.bind (.ret _)
theorem gg (O:LtO n lt) {p:Array Nat} (P:PP n p) {k:Nat} (hk:k < n) (S:Srt lt p k):∀ (f l r:Nat),l≤r→r≤k→r - l≤f→(∀ i,i < l→lt (g p i) (g p k)=true)→(∀ i,r≤i→i < k→lt (g p k) (g p i)=true)→
  ∃ l',dQ lt n (kas_place p k f l r) l'∧l'≤k∧(∀ i,i < l'→lt (g p i) (g p k)=true)∧(∀ i,l'≤i→i < k→lt (g p k) (g p i)=true)
 | 0,l,r,h1,h2,h3,a,b=> ⟨l,.ret l,by omega,a,fun i x y=> b i (by omega) y⟩
 | f+1,l,r,h1,h2,h3,a,b=> by
  unfold kas_place
  by_cases hlr:l ≥ r
  ·rw [if_pos hlr]
   exact ⟨l,.ret l,by omega,a,fun i x y=> b i (by omega) y⟩
  ·rw [if_neg hlr]
   have hm:(l+r) / 2 < k:=by omega
   by_cases hc:lt (g p k) (g p ((l+r) / 2))=true
   ·obtain ⟨l',r',x1,x2,x3⟩:=gg O P hk S f l ((l+r) / 2) (by omega) (by omega) (by omega) a fun i hi hik=> by
     rcases Nat.lt_or_eq_of_le hi with z | z
     ·exact O.tr _ _ _ hc (S _ _ z hik)
     ·rw [← z]; exact hc
    refine ⟨l',.ask (P.mem hk) (P.mem (by omega)) ?_,x1,x2,x3⟩
    rw [if_pos hc]; exact r'
   ·have hc':lt (g p k) (g p ((l+r) / 2))=false:=by simpa using hc
    have ht:=O.tot _ _ (P.mem hk) (P.mem (show (l+r) / 2 < n by omega)) (fun e=> by have:=P.inj hk (by omega) e; omega) hc'
    obtain ⟨l',r',x1,x2,x3⟩:=gg O P hk S f ((l+r) / 2+1) r (by omega) h2 (by omega) (fun i hi=> by
     rcases Nat.lt_or_eq_of_le (Nat.le_of_lt_succ hi) with z | z
     ·exact O.tr _ _ _ (S _ _ z hm) ht
     ·rw [z]; exact ht) b
    refine ⟨l',.ask (P.mem hk) (P.mem (by omega)) ?_,x1,x2,x3⟩
    rw [if_neg hc]; exact r'
theorem nF (O:LtO n lt):∀ (f k:Nat) (p:Array Nat),k+f=n→PP n p→Srt lt p k→∃ p',dQ lt n (kas_bin f p k) p'∧PP n p'∧Srt lt p' n
 | 0,k,p,hf,P,S=> ⟨p,.ret p,P,by rw [← hf]; exact S⟩
 | f+1,k,p,hf,P,S=> by
  obtain ⟨l,rl,x1,x2,x3⟩:=gg O P (show k < n by omega) S k 0 k (Nat.zero_le _) (Nat.le_refl _) (by omega) (fun i h=> by omega) (fun i h h'=> by omega)
  have at_:∀ j,g (bubble p k (k - l)) j=if j=l then g p k else if l < j∧j≤k then g p (j - 1) else g p j:=fun j=> by
   have e:=getElem?_bubble (xs:=p) (src:=k) (by rw [P.size]; omega) (k - l) (by omega) j
   rw [show k - (k - l)=l by omega] at e
   split
   ·rename_i z; rw [if_pos z] at e; exact tG e
   ·rename_i z
    rw [if_neg z] at e
    split
    ·rename_i y; rw [if_pos y] at e; exact tG e
    ·rename_i y; rw [if_neg y] at e; exact tG e
  have e1:g (bubble p k (k - l)) l=g p k:=by rw [at_,if_pos rfl]
  have e2:∀ j,l < j→j≤k→g (bubble p k (k - l)) j=g p (j - 1):=fun j y z=> by rw [at_,if_neg (by omega),if_pos ⟨y,z⟩]
  have e3:∀ j,j < l→g (bubble p k (k - l)) j=g p j:=fun j y=> by rw [at_,if_neg (by omega),if_neg (by omega)]
  have S':Srt lt (bubble p k (k - l)) (k+1):=fun i j hij hj=> by
   rcases Nat.lt_trichotomy j l with y | y | y
   ·rw [e3 i (by omega),e3 j y]; exact S _ _ hij (by omega)
   ·rw [y,e1,e3 i (by omega)]; exact x2 i (by omega)
   ·rw [e2 j y (by omega)]
    rcases Nat.lt_trichotomy i l with z | z | z
    ·rw [e3 i z]; exact S _ _ (by omega) (by omega)
    ·rw [z,e1]; exact x3 (j - 1) (by omega) (by omega)
    ·rw [e2 i z (by omega)]; exact S _ _ (by omega) (by omega)
  obtain ⟨p',r',P',S''⟩:=nF O f (k+1) (bubble p k (k - l)) (by omega) (P.of (bubble_perm _ _ _)) S'
  exact ⟨p',rl.bind r',P',S''⟩
theorem rh (O:LtO n lt) (h2:2≤n):∃ p,dQ lt n (kas_sort n) p∧PP n p∧Srt lt p n:=by
 obtain ⟨m,p,r,P,a1,a2,S⟩:=ox O (p:=List.toArray (List.range n)) ⟨by simp⟩ h2
 by_cases hm:m < n
 ·obtain ⟨p',r',P',S'⟩:=nF O (n - max m 1) (max m 1) p (by omega) P (by rw [show max m 1=m by omega]; exact S)
  exact ⟨p',r.bind (by rw [if_pos hm]; exact r'),P',S'⟩
 ·obtain rfl:m=n:=by omega
  exact ⟨p,r.bind (by rw [if_neg hm]; exact .ret _),P,S⟩
end ST
namespace ST
open PySem PySem.W PyProof.Rows
def ltP (a b:Int×Int):Bool:=decide (a.1 < b.1∨(a.1=b.1∧a.2 < b.2))
theorem pP {a b c:Int×Int} (h1:ltP a b=true) (h2:ltP b c=true):ltP a c=true:=by
 unfold ltP at *; simp at *; omega
theorem mR {a b:Int×Int} (h1:ltP a b=true):ltP b a=false:=by
 unfold ltP at *; simp at *; omega
theorem nK {a b:Int×Int} (h:a≠b) (h1:ltP a b=false):ltP b a=true:=by
 unfold ltP at *
 have:¬ (a.1=b.1∧a.2=b.2):=fun z=> h (Prod.ext z.1 z.2)
 simp at *; omega
section
variable {prog:Program} {w:World} {A:Around} {E:Value→Shared→Prop} {s:Shared}
theorem TK.two {h:Heap} {x y:Int} {b:Addr} (k:TK prog w h [x,y] b):∃ o its n t u,h.get? b=some o∧o.cls=.type "tuple"∧o.data=.seq its n∧its.toList=[.int x t,.int y u]:=by
 obtain ⟨o,its,n,ho,hc,hd,hi⟩:=k
 cases hi':its.toList with
 | nil=> rw [hi'] at hi; cases hi
 | cons v1 r=>
  rw [hi'] at hi
  cases hi with
  | cons h1 hr=>
   cases hr with
   | cons h2 hr2=>
    cases hr2
    obtain ⟨t,rfl⟩:=Value.isInt_shape h1
    obtain ⟨u,rfl⟩:=Value.isInt_shape h2
    exact ⟨o,its,n,t,u,ho,hc,hd,hi'⟩
theorem vM {x y:Addr} {a b:Int×Int} {Q:Bool→Shared→Prop} (hx:TK prog w s.heap [a.1,a.2] x) (hy:TK prog w s.heap [b.1,b.2] y) (h:Q (ltP a b) s):wpAny (model prog w) A (keyLt' (tuples' true) (.ref x) (.ref y)) Q E s:=by
 obtain ⟨o,its,n,t,u,ho,_,hd,hi⟩:=hx.two
 obtain ⟨o',its',n',t',u',ho',_,hd',hi'⟩:=hy.two
 refine kat_lt ho hd ho' hd' ?_
 rw [hi,hi']
 refine kat_cons ((intKind prog w).eqBool (a:=a.1) (b:=b.1) (intKind_is _ _ _ _) (intKind_is _ _ _ _) ?_)
 by_cases e1:a.1=b.1
 ·rw [decide_eq_true e1]
  refine kat_yes (kat_cons ((intKind prog w).eqBool (a:=a.2) (b:=b.2) (intKind_is _ _ _ _) (intKind_is _ _ _ _) ?_))
  by_cases e2:a.2=b.2
  ·rw [decide_eq_true e2]
   refine kat_yes (kat_nil ?_)
   have z:ltP a b=false:=by unfold ltP; simp; omega
   rw [z] at h
   have z2:decide (its.size < its'.size)=false:=by
    rw [← Array.length_toList,← Array.length_toList,hi,hi']; simp
   rw [z2]; exact h
  ·rw [decide_eq_false e2]
   refine kat_no (kat_one _ _ (lt_int ?_))
   have z:ltP a b=decide (a.2 < b.2):=by unfold ltP; rw [e1]; simp
   rw [z] at h
   exact h
 ·rw [decide_eq_false e1]
  refine kat_no (oneLt_int ?_)
  have z:ltP a b=decide (a.1 < b.1):=by unfold ltP; simp [e1]
  rw [z] at h
  exact h
abbrev PB:=List ((Int×Int)×Addr)
abbrev refs (pb:PB):List Value:=pb.map fun p=> Value.ref p.2
def dfl:(Int×Int)×Addr:=((0,0),0)
theorem mH (pb:PB):(List.range pb.length).map (fun i=> pb.getD i dfl)=pb:=by
 apply List.ext_getElem
 ·simp
 ·intro i h1 h2
  simp at h1
  simp [h1]
theorem p4 {pb:PB} {Q:SortKind→Shared→Prop} (htk:∀ p∈pb,TK prog w s.heap [p.1.1,p.1.2] p.2) (h0:0 < pb.length) (h:Q (tuples' true) s):wpAny (model prog w) A (keyKind' (refs pb).toArray) Q E s:=by
 obtain ⟨fs,hf,hl,hi⟩:∃ fs,KatTups s.heap (refs pb) fs∧fs.length=pb.length∧∀ v∈fs,∃ n t,v=Value.int n t:=by
  clear h h0
  induction pb with
  | nil=> exact ⟨[],.nil,rfl,fun v hv=> by simp at hv⟩
  | cons p r ih=>
   obtain ⟨fs,hf,hl,hi⟩:=ih fun q hq=> htk q (List.mem_cons_of_mem _ hq)
   obtain ⟨o,its,n,t,u,ho,hc,hd,hit⟩:=(htk p List.mem_cons_self).two
   refine ⟨.int p.1.1 t::fs,.cons ho hc hd (by rw [← Array.getElem?_toList,hit]; rfl) hf,by simp [hl],fun v hv=> ?_⟩
   rcases List.mem_cons.mp hv with z | z
   ·exact ⟨_,_,z⟩
   ·exact hi v z
 refine kat_kind (T:=.type "int") hf (by omega) (fun v hv=> ?_) (by decide) h
 obtain ⟨n,t,rfl⟩:=hi v hv
 exact Looks.of_pure rfl
set_option maxHeartbeats 1000000 in
theorem o_ {a:Addr} {pb:PB} {n:Nat} {P:PySem.Fin→Shared→Prop} (ho:s.heap.get? a=some (seqObj "list" (refs pb).toArray n)) (htk:∀ p∈pb,TK prog w s.heap [p.1.1,p.1.2] p.2) (hnd:(pb.map (·.1)).Nodup) (h64:pb.length < 64)
  (h:∀ pb':PB,pb'.Perm pb→(pb'.map (·.1)).Pairwise (fun x y=> ltP x y=true)→P (.done (.ret .none)) { s with heap:=sortedHeap s.heap a (refs pb) (refs pb').toArray }):
  wpAny (model prog w) A (Builtin.«list.sort» ⟨[.ref a],[]⟩) P E s:=by
 have hvl:(refs pb).length=pb.length:=by simp
 have hva:(refs pb).toArray.size=pb.length:=by simp
 rw [list_sort_plain]
 have ha:a < s.heap.objs.size:=Heap.lt_size ho
 refine wpAny_bind (listItems_at ho rfl (wpAny_bind (listUpdate_at ho rfl ?_ (by rw [hva,sizeLine_eq]; omega) (Nat.zero_le _))))
 obtain ⟨e1,ho1⟩:∃ e1,(s.heap.update a (Obj.mapSeq fun _=> (#[]:Array Value))).get? a=some (seqObj "list" #[] e1):=⟨_,get?_update_seq ho (fun _=> #[])⟩
 refine wpAny_bind (seqEpoch_at ho1 rfl (wpAny_bind (wpAny_newTuple ?_ (by show (refs pb).length≤_; rw [hvl,sizeLine_eq]; omega))))
 refine wpAny_bind (wpAny_newList ?_ (Nat.zero_le _))
 refine wpAny_holding ?_
 generalize hh6:((s.heap.update a (Obj.mapSeq fun _=> (#[]:Array Value))).push (seqObj "tuple" (refs pb).toArray 0)).push (seqObj "list" #[] 0)=h6
 have old6:∀ b o,b≠a→s.heap.get? b=some o→h6.get? b=some o:=fun b o hb e=> by
  rw [← hh6]
  exact Heap.get?_push_of_some _ (Heap.get?_push_of_some _ ((Heap.get?_update_other _ _ (Ne.symm hb)).trans e))
 have ho6:h6.get? a=some (seqObj "list" #[] e1):=by rw [← hh6]; exact Heap.get?_push_of_some _ (Heap.get?_push_of_some _ ho1)
 have tk6:∀ p∈pb,TK prog w h6 [p.1.1,p.1.2] p.2:=fun p hp=> by
  obtain ⟨o,its,k,hop,hc,r⟩:=htk p hp
  refine ⟨o,its,k,old6 p.2 o (fun z=> ?_) hop,hc,r⟩
  rw [z,ho] at hop
  cases hop
  exact absurd hc (by show ¬ (Value.type "list"=Value.type "tuple"); decide)
 have fin:∀ pb':PB,pb'.Perm pb→(pb'.map (·.1)).Pairwise (fun x y=> ltP x y=true)→P (.done (.ret .none)) { s with heap:=h6.update a (Obj.mapSeq fun _=> (refs pb').toArray) }:=fun pb' p1 p2=> by
  rw [← hh6]; exact h pb' p1 p2
 show wpAny (model prog w) A _ P E { s with heap:=h6 }
 dsimp only
 by_cases h2:(refs pb).toArray.size < 2
 ·rw [if_pos h2,if_pos h2]
  refine wpAny_bind (wpAny_pure ?_)
  rw [StateT.run_pure]
  refine wpAny_bind (wpAny_pure ?_)
  dsimp only
  have eout:(arrOf (SortSt.mk' general' ((refs pb).toArray.zip (refs pb).toArray) #[] 7 none)).map (·.2)=(refs pb).toArray:=by
   show (((refs pb).toArray.zip (refs pb).toArray)).map (·.2)=_
   apply Array.toList_inj.mp
   have zip2:∀ l:List Value,(l.zip l).map (·.2)=l:=fun l=> by
    induction l with
    | nil=> rfl
    | cons x r ih=> rw [List.zip_cons_cons,List.map_cons,ih]
   rw [Array.toList_map,Array.toList_zip]
   exact zip2 _
  rw [eout]
  refine wpAny_bind (seqEpoch_at ho6 rfl (wpAny_bind (listUpdate_at ho6 rfl ?_ (Nat.zero_le _) (by rw [hva,sizeLine_eq]; omega))))
  show wpAny _ _ (if (e1 !=e1)=true then _ else _) _ _ _
  rw [if_neg (by simp)]
  refine wpAny_pure (fin pb (List.Perm.refl _) ?_)
  match pb,hva,h2 with
  | [],_,_=> simp
  | [_],_,_=> simp
  | _::_::r,hva,h2=> rw [hva] at h2; exact absurd h2 (by simp)
 ·rw [if_neg h2,if_neg h2]
  rw [hva] at h2
  have h2':2≤(refs pb).length:=by rw [hvl]; omega
  refine wpAny_bind (p4 (s:={ s with heap:=h6 }) tk6 (by omega) ?_)
  have inj:∀ i j,i < pb.length→j < pb.length→i≠j→(pb.getD i dfl).1≠(pb.getD j dfl).1:=fun i j hi hj hij e=> by
   refine hij ((List.getElem_inj (xs:=pb.map (·.1)) (h₀:=by simpa using hi) (h₁:=by simpa using hj) hnd).mp ?_)
   simpa [hi,hj] using e
  have O:LtO pb.length (fun i j=> ltP (pb.getD i dfl).1 (pb.getD j dfl).1):=⟨fun i j k=> pP,fun i j hi hj hij=> nK (inj i j hi hj hij),fun i j=> mR⟩
  obtain ⟨p,R,PP',S⟩:=rh O (by omega)
  have hcmp:∀ i j C,i < pb.length→j < pb.length→C (ltP (pb.getD i dfl).1 (pb.getD j dfl).1) { s with heap:=h6 }→kas_ask prog w A (tuples' true) (refs pb) i j C { s with heap:=h6 }:=fun i j C hi hj c=> by
   unfold kas_ask
   have ei:(refs pb).getD i Value.none=.ref (pb.getD i dfl).2:=by simp [hi]
   have ej:(refs pb).getD j Value.none=.ref (pb.getD j dfl).2:=by simp [hj]
   rw [ei,ej]
   have mi:pb.getD i dfl∈pb:=by simp [hi]
   have mj:pb.getD j dfl∈pb:=by simp [hj]
   exact vM (s:={ s with heap:=h6 }) (tk6 _ mi) (tk6 _ mj) c
  have tree:(kas_sort (refs pb).length).kasWp (kas_ask prog w A (tuples' true) (refs pb)) (fun p' s'=> p'=p∧s'={ s with heap:=h6 }) { s with heap:=h6 }:=by
   rw [hvl]
   exact R.wp hcmp ⟨rfl,rfl⟩
  refine wpAny_bind (wpAny_mono (kat_run (Q:=fun st' s'=> s'={ s with heap:=h6 }∧failedOf st'=none∧(arrOf st').map (·.2)=List.toArray (p.toList.map fun i=> (refs pb).getD i Value.none)) rfl h2' (by rw [hvl]; exact h64) (fun p' st' s' _ a2 a3 a4=> ?_) tree) ?_ fun _ _ e=> e)
  ·obtain ⟨rfl,rfl⟩:=a4
   exact ⟨rfl,a3,kat_snds rfl a2⟩
  ·rintro ⟨⟨⟩,st'⟩ s' ⟨rfl,hf,hout⟩
   dsimp only
   rw [hout]
   have hlt:∀ i∈p.toList,i < pb.length:=fun i hi=> List.mem_range.mp (PP'.perm.mem_iff.mp hi)
   have er:(p.toList.map fun i=> (refs pb).getD i Value.none)=refs (p.toList.map fun i=> pb.getD i dfl):=by
    unfold refs
    rw [List.map_map]
    refine List.map_congr_left fun i hi=> ?_
    have:=hlt i hi
    simp [this]
   rw [er]
   have hperm:(p.toList.map fun i=> pb.getD i dfl).Perm pb:=by
    refine (PP'.perm.map _).trans ?_
    rw [mH]
   have hs2:(refs (p.toList.map fun i=> pb.getD i dfl)).toArray.size=pb.length:=by simp [PP'.size]
   refine wpAny_bind (seqEpoch_at ho6 rfl (wpAny_bind (listUpdate_at ho6 rfl ?_ (Nat.zero_le _) (by rw [hs2,sizeLine_eq]; omega))))
   rw [hf]
   show wpAny _ _ (if (e1 !=e1)=true then _ else _) _ _ _
   rw [if_neg (by simp)]
   refine wpAny_pure (fin _ hperm ?_)
   rw [List.map_map,List.pairwise_map,List.pairwise_iff_getElem]
   intro i j hi hj hij
   have hj':j < pb.length:=by rw [Array.length_toList,PP'.size] at hj; exact hj
   have q:=S i j hij hj'
   have ei:g p i=p.toList[i]:=by simp [g,Array.getD,PP'.size,show i < pb.length by omega]
   have ej:g p j=p.toList[j]:=by simp [g,Array.getD,PP'.size,hj']
   rw [ei,ej] at q
   exact q
end
end ST
namespace ST
open PySem PySem.W PyProof.Rows PySem.Calls
theorem qB {α β:Type} (f:α→β) {l m:List β} (h:l.Perm m):∀ kb:List α,m=kb.map f→∃ kb':List α,List.Perm kb' kb∧l=List.map f kb':=by
 induction h with
 | nil=> intro kb e; exact ⟨kb,.refl _,e⟩
 | @cons x l m _ ih=>
  intro kb e
  match kb,e with
  | [],e=> simp at e
  | k::kb,e=>
   rw [List.map_cons,List.cons.injEq] at e
   obtain ⟨kb',p,e'⟩:=ih kb e.2
   exact ⟨k::kb',p.cons k,by rw [List.map_cons,← e',e.1]⟩
 | swap x y l=>
  intro kb e
  match kb,e with
  | [],e=> simp at e
  | [_],e=> simp at e
  | k::k'::kb,e=>
   simp only [List.map_cons,List.cons.injEq] at e
   exact ⟨k'::k::kb,.swap k k' kb,by rw [List.map_cons,List.map_cons,← e.2.2,e.1,e.2.1]⟩
 | trans _ _ ih1 ih2=>
  intro kb e
  obtain ⟨kb2,p2,e2⟩:=ih2 kb e
  obtain ⟨kb1,p1,e1⟩:=ih1 kb2 e2
  exact ⟨kb1,p1.trans p2,e1⟩
def ptsOf (kb:List (List Int×Addr)):PB:=kb.map fun p=> ((p.1.getD 0 0,p.1.getD 1 0),p.2)
section
variable {prog:Program} {w:World} {A:Around} {E:Value→Shared→Prop} {s:Shared}
set_option maxHeartbeats 1000000 in
theorem call_sorted_set {S:Addr} {kb:List (List Int×Addr)} {Q:Value→Shared→Prop} (hh:A.handled=none) (P:SP prog w s.heap S kb) (h64:kb.length < 64) (h2:∀ p∈kb,p.1.length=2)
  (h:∀ (h1 h':Heap) (tk:Nat) (pb:PB) (e:Nat),List.Perm pb (ptsOf kb)→(pb.map (·.1)).Pairwise (fun x y=> ltP x y=true)→(∀ b o,s.heap.get? b=some o→h1.get? b=some o)→(∀ b o,h1.get? b=some o→h'.get? b=some o)→h'.get? h1.objs.size=some (seqObj "list" (refs pb).toArray e)→Q (.ref h1.objs.size) { s with heap:=h',toks:=tk }):
  wpAny (model prog w) A (call (.builtin "sorted") [.ref S]) Q E s:=by
 obtain ⟨⟨o,es,ep,t,ho,hex,hd,he,T,hl,hp,_,_⟩,hk,hnd⟩:=P
 have hsz:es.size=kb.length:=by rw [← Array.length_toList,he]; simp [ents]
 have O:SO prog w o es ep t (kb.map fun p=> hsh prog w p.1):=⟨hex,hd,T,by rw [List.length_map,hsz],hl,hp⟩
 have two:∀ p∈kb,p.1=[p.1.getD 0 0,p.1.getD 1 0]:=fun p hp'=> by
  have:=h2 p hp'
  match hq:p.1,this with
  | [x,y],_=> rfl
 refine call_function_entry kind_sorted plain_sorted entry_sorted (args_sorted1 _) ?_
 unfold Builtin.«sorted»
 refine wpAny_bind (m:=checkCount "sorted" 1 1 _) (wpAny_pure ?_)
 refine wpAny_bind (kdu_collect (A:=A.in1) (tO O) hh ho (by rw [hsz,sizeLine_eq]; omega) fun h' tk acc keep hacc=> ?_)
 have hal:acc.toList=bV w S es ep:=by
  apply List.ext_getElem?
  intro i
  rcases Nat.lt_or_ge i acc.size with z | z
  ·rw [Array.getElem?_toList,Array.getElem?_eq_getElem z]
   exact (hacc.2 i _ (Array.getElem?_eq_getElem z)).symm
  ·rw [List.getElem?_eq_none (by simpa using z),List.getElem?_eq_none]
   rw [(dm w S es ep).length_eq,List.length_map,Array.length_toList,← hacc.1]; exact z
 obtain ⟨kb1,pk,ek⟩:=qB (fun (p:List Int×Addr)=> Value.ref p.2) (dm w S es ep) kb (by rw [he]; unfold ents; rw [List.map_map]; rfl)
 have hl1:acc.toList=refs (ptsOf kb1):=by
  rw [hal,ek]; unfold refs ptsOf; rw [List.map_map]; rfl
 have hlen1:(ptsOf kb1).length=kb.length:=by unfold ptsOf; rw [List.length_map,pk.length_eq]
 have hlenA:acc.toList.length=kb.length:=by rw [hl1]; simp [hlen1]
 refine wpAny_bind (wpAny_newList ?_ (by rw [hlenA,sizeLine_eq]; omega))
 have hD:(h'.push { cls:=.type "list",data:=.seq acc.toList.toArray }).get? h'.objs.size=some (seqObj "list" (refs (ptsOf kb1)).toArray 0):=by
  rw [← hl1]; exact Heap.get?_push_size _ rfl
 have tk1:∀ p∈ptsOf kb1,TK prog w (h'.push { cls:=.type "list",data:=.seq acc.toList.toArray }) [p.1.1,p.1.2] p.2:=fun p hp'=> by
  obtain ⟨q,hq,rfl⟩:=List.mem_map.mp hp'
  have hq':=pk.mem_iff.mp hq
  obtain ⟨oq,its,k,hoq,r⟩:=hk q hq'
  have e2:=two q hq'
  refine ⟨oq,its,k,Heap.get?_push_of_some _ (keep _ _ hoq),?_⟩
  rw [← e2]; exact r
 have nd1:((ptsOf kb1).map (·.1)).Nodup:=by
  have n1:(kb1.map (·.1)).Nodup:=((pk.map (·.1)).nodup_iff).mpr hnd
  unfold ptsOf
  rw [List.map_map]
  refine List.pairwise_map.mpr ((List.pairwise_map.mp n1).imp_of_mem fun {a b} ha hb hab=> ?_)
  intro z
  have ea:=two a (pk.mem_iff.mp ha)
  have eb:=two b (pk.mem_iff.mp hb)
  have z':(a.1.getD 0 0,a.1.getD 1 0)=(b.1.getD 0 0,b.1.getD 1 0):=z
  rw [Prod.mk.injEq] at z'
  rw [z'.1,z'.2] at ea
  exact hab (ea.trans eb.symm)
 refine wpAny_bind (wpAny_holding (wpAny_call_entry slot_list_sort ⟨_,hD,rfl⟩ entry_list_sort ?_ (args_list_sort _)))
 refine o_ (s:={ s with heap:=h'.push { cls:=.type "list",data:=.seq acc.toList.toArray },toks:=tk }) hD tk1 nd1 (by omega) fun pb' pp so=> ⟨_,rfl,wpAny_pure ⟨_,rfl,?_⟩⟩
 obtain ⟨e,eD⟩:=sortedHeap_at (out:=(refs pb').toArray) hD
 refine h h' _ tk pb' e (pp.trans ?_) so keep (fun b x hb'=> ?_) eD
 ·unfold ptsOf; exact pk.map _
 ·have hlt:=Heap.lt_size hb'
  rw [sortedHeap_old (Nat.ne_of_lt hlt) (by rw [Heap.size_push]; exact Nat.lt_succ_of_lt hlt)]
  exact Heap.get?_push_of_some _ hb'
end
end ST
namespace ST
open PySem
def ins (x:Int×Int):List (Int×Int)→List (Int×Int)
 | []=> [x]
 | y::r=> if x=y then y::r else if ltP x y=true then x::y::r else y::ins x r
def srt (pts:List (Int×Int)):List (Int×Int):=pts.foldr ins []
theorem jI (x z:Int×Int):∀ l,z∈ins x l↔z=x∨z∈l
 | []=> by simp [ins]
 | y::r=> by
  unfold ins
  split
  ·rename_i h; subst h; simp
  ·split
   ·simp
   ·rw [List.mem_cons,jI x z r,List.mem_cons]
    constructor
    ·rintro (h | h | h)
     ·exact .inr (.inl h)
     ·exact .inl h
     ·exact .inr (.inr h)
    ·rintro (h | h | h)
     ·exact .inr (.inl h)
     ·exact .inl h
     ·exact .inr (.inr h)
abbrev Asc (l:List (Int×Int)):Prop:=l.Pairwise (fun x y=> ltP x y=true)
theorem nQ (x:Int×Int):∀ l,Asc l→Asc (ins x l)
 | [],_=> by simp [ins]
 | y::r,h=> by
  unfold ins
  split
  ·exact h
  ·rename_i hne
   obtain ⟨h1,h2⟩:=List.pairwise_cons.mp h
   split
   ·rename_i hlt
    refine List.pairwise_cons.mpr ⟨fun z hz=> ?_,h⟩
    rcases List.mem_cons.mp hz with e | e
    ·rw [e]; exact hlt
    ·exact pP hlt (h1 z e)
   ·rename_i hlt
    refine List.pairwise_cons.mpr ⟨fun z hz=> ?_,nQ x r h2⟩
    rcases (jI x z r).mp hz with e | e
    ·rw [e]; exact nK hne (by simpa using hlt)
    ·exact h1 z e
theorem srt_mem (z:Int×Int):∀ l,z∈srt l↔z∈l
 | []=> by simp [srt]
 | y::r=> by
  show z∈ins y (srt r)↔_
  rw [jI,srt_mem z r,List.mem_cons]
theorem srt_asc:∀ l,Asc (srt l)
 | []=> List.Pairwise.nil
 | y::r=> nQ y (srt r) (srt_asc r)
theorem nq {x:Int×Int}:ltP x x=false:=by unfold ltP; simp
theorem asc_one:∀ {l m:List (Int×Int)},Asc l→Asc m→(∀ z,z∈l↔z∈m)→l=m
 | [],[],_,_,_=> rfl
 | [],y::r,_,_,h=> by have:=(h y).mpr List.mem_cons_self; simp at this
 | x::l,[],_,_,h=> by have:=(h x).mp List.mem_cons_self; simp at this
 | x::l,y::m,hl,hm,h=> by
  obtain ⟨a1,a2⟩:=List.pairwise_cons.mp hl
  obtain ⟨b1,b2⟩:=List.pairwise_cons.mp hm
  have e:x=y:=by
   rcases List.mem_cons.mp ((h x).mp List.mem_cons_self) with z | z
   ·exact z
   ·rcases List.mem_cons.mp ((h y).mpr List.mem_cons_self) with z' | z'
    ·exact z'.symm
    ·have:=mR (b1 x z)
     rw [a1 y z'] at this; cases this
  subst e
  congr 1
  refine asc_one a2 b2 fun z=> ⟨fun hz=> ?_,fun hz=> ?_⟩
  ·rcases List.mem_cons.mp ((h z).mp (List.mem_cons_of_mem _ hz)) with e | e
   ·have:=a1 z hz; rw [e,nq] at this; cases this
   ·exact e
  ·rcases List.mem_cons.mp ((h z).mpr (List.mem_cons_of_mem _ hz)) with e | e
   ·have:=b1 z hz; rw [e,nq] at this; cases this
   ·exact e
theorem mL (x:Int×Int):∀ l,(ins x l).length≤l.length+1
 | []=> by simp [ins]
 | y::r=> by
  have:=mL x r
  unfold ins
  split
  ·simp
  ·split
   ·simp
   ·simp only [List.length_cons]; omega
theorem srt_len:∀ l,(srt l).length≤l.length
 | []=> Nat.le_refl _
 | y::r=> by
  have h1:=mL y (srt r)
  have h2:=srt_len r
  show (ins y (srt r)).length≤_
  simp only [List.length_cons]; omega
end ST
namespace L2
open PySem PySem.Spec PyProof.Rows
theorem xr {p:Nat→Addr→Prop} {n:Nat} (h:∀ i,i < n→∃ b,p i b):∃ f:Nat→Addr,∀ i,i < n→p i (f i):=by
 refine ⟨fun i=> if k:i < n then Classical.choose (h i k) else 0,fun i hi=> ?_⟩
 dsimp only
 rw [dif_pos hi]
 exact Classical.choose_spec (h i hi)
theorem qY:bootBuiltins "set"=some (.type "set"):=by decide+kernel
section
variable {X:Cx} {H0:Hp} {O0:List Addr} {ps:PSt} {e:Expr} {pts:List P2} {pos pos' p p':Pos}
set_option maxHeartbeats 2000000 in
theorem oo (hc:X.calm=true) (hu:X.A.units+10 < cLine) (hg:Gl X "sorted") (hm:X.mg "sorted"=none) (hgs:Gl X "set") (hms:X.mg "set"=none) (ha:Ev X H0 O0 ps e (lp pts)) (hl:pts.length < 64)
  (he:starEach [e] X.env=(false,eval e X.env)::starEach [] X.env:=by rfl):EvN X H0 O0 ps (.Call (.Name "sorted" p) [.Call (.Name "set" p') [e] [] pos'] [] pos) ((ST.srt pts).map pu):=by
 rintro pins s σ H Q I ⟨O,R,q⟩
 have hh:X.A.handled=none:=I.ok.hd hc
 refine wpAny_Call_Name_kw (cT I hg hm boot_sorted ?_)
 refine callWith_builtin1 (e:=.Call (.Name "set" p') [e] [] pos') (rest:=[]) ?_ rfl rfl
 show wpAny _ _ (spliced ((false,eval (.Call (.Name "set" p') [e] [] pos') X.env)::backTo pos (starEach [] X.env))) _ _ s
 refine Calls.spliced_cons ?_
 refine wpAny_Call_Name_kw (cT I hgs hms qY ?_)
 refine callWith_type1 (thn (cn ha d9 he pos' pins s σ H (fun vs H1=> ∃ v,vs=[v]∧aD H H1∧Rp X.K (hid H1 O) v (lp pts)) I ⟨O,R,fun v H1 s1 r1=> ⟨v,rfl,s1,r1⟩⟩) fun us s1 hx=> ?_) he rfl
 obtain ⟨vs,H1,I1,rv,v,rfl,sm,rp⟩:=hx
 obtain ⟨u,rfl,ru⟩:=gY rv
 cases rp with
 | @lst a ws _ hq hwl hwi=>
  cases ru
  obtain ⟨its,rw',pl,hz⟩:=I1.list (SqL.of (ax _ _ hq))
  have hlp:ws.length=pts.length:=by rw [hwl,List.length_map]
  have hil:its.length=pts.length:=by rw [← rw'.length,hlp]
  have item:∀ i,i < pts.length→∃ b,its[i]?=some (.ref b)∧Rp X.K (hid H1 O) (.ref b) (pu (pts.getD i (0,0)))∧ST.TK X.prog X.w s1.heap [(pts.getD i (0,0)).1,(pts.getD i (0,0)).2] b:=fun i hi=> by
   have hw:ws[i]?=some ws[i]:=List.getElem?_eq_getElem (by omega)
   have hp:(pts.map pu)[i]?=some (pu (pts.getD i (0,0))):=by rw [List.getElem?_map,List.getElem?_eq_getElem hi]; simp [hi]
   have r:=hwi i _ _ hw hp
   obtain ⟨u',e1,e2⟩:=rw'.get hw
   generalize ws[i]=z at *
   cases r with
   | @tup b zs _ hs hsl hsi=>
    cases e2
    refine ⟨b,e1,Rp.tup hs hsl hsi,?_⟩
    obtain ⟨jts,rj,ht,_⟩:=I1.tuple (by exact ax.tup hs)
    have z0:zs.length=2:=hsl
    match zs,z0,hsi,rj with
    | [z1,z2],_,hsi,rj=>
     have q1:=hsi 0 z1 _ rfl rfl
     have q2:=hsi 1 z2 _ rfl rfl
     cases q1
     cases q2
     obtain ⟨u1,u2,rfl,r1,r2⟩:=mQ rj
     obtain ⟨t1,rfl⟩:=r1
     obtain ⟨t2,rfl⟩:=r2
     obtain ⟨o,ho,hoc,n,hod⟩:=ht
     exact ⟨o,_,n,ho,hoc,hod,.cons (intKind_is _ _ _ _) (.cons (intKind_is _ _ _ _) .nil)⟩
  obtain ⟨ad',adE⟩:=xr item
  have hsz:its.toArray.size=pts.length:=by simp [hil]
  refine ST.call_set_pts (fun i=> ([(pts.getD i (0,0)).1,(pts.getD i (0,0)).2],ad' i)) hh (by show X.A.units+1+1+1 < cLine; omega) pl.isList (fun i z ez=> ?_) (fun i hi=> ?_) (by rw [hsz]; omega) fun h2 tk kb sp got keep=> ?_
  ·have hi:i < pts.length:=by have:=aM (show its[i]?=some z by simpa using ez); omega
   have:=(adE i hi).1
   rw [show its.toArray[i]?=its[i]? by simp,this] at ez
   cases ez; rfl
  ·exact (adE i (by rw [hsz] at hi; exact hi)).2.2
  ·rw [hsz] at got
   have I2:Inv X pins σ H1 { s1 with heap:=h2,toks:=tk }:=I1.kept (t':=tk) keep
   refine Calls.spliced_nil ?_
   have hkl:kb.length < 64:=by have:=got.len; omega
   refine ST.call_sorted_set (s:={ s1 with heap:=h2,toks:=tk }) hh sp hkl (fun z hz=> by obtain ⟨j,_,rfl⟩:=got.src z hz; rfl) fun h3 h4 tk2 pb ep pm so k1 k2 hD=> ?_
   have I3:Inv X pins σ H1 { s1 with heap:=h3,toks:=tk2 }:=I2.kept (t':=tk2) k1
   have src:∀ z∈pb,∃ j,j < pts.length∧z=(pts.getD j (0,0),ad' j):=fun z hz=> by
    obtain ⟨y,hy,rfl⟩:=List.mem_map.mp (pm.mem_iff.mp hz)
    obtain ⟨j,hj,rfl⟩:=got.src y hy
    exact ⟨j,hj,rfl⟩
   have epts:pb.map (·.1)=ST.srt pts:=by
    refine ST.asc_one so (ST.srt_asc pts) fun z=> ?_
    rw [ST.srt_mem]
    constructor
    ·intro hz
     obtain ⟨y,hy,rfl⟩:=List.mem_map.mp hz
     obtain ⟨j,hj,rfl⟩:=src y hy
     simp [hj]
    ·intro hz
     obtain ⟨j,hj⟩:=List.mem_iff_getElem?.mp hz
     have hjl:=aM hj
     have hk:=got.all j hjl
     obtain ⟨y,hy,ey⟩:=List.mem_map.mp hk
     have hin:((y.1.getD 0 0,y.1.getD 1 0),y.2)∈ST.ptsOf kb:=List.mem_map.mpr ⟨y,hy,rfl⟩
     have hin':=pm.mem_iff.mpr hin
     refine List.mem_map.mpr ⟨_,hin',?_⟩
     rw [ey]
     have:pts.getD j (0,0)=z:=by rw [List.getD_eq_getElem?_getD,hj]; rfl
     show ((pts.getD j (0,0)).1,(pts.getD j (0,0)).2)=z
     rw [this]
   have fr:H1 h3.objs.size=none:=I3.hok.fresh (Nat.le_refl _)
   refine ⟨.ref h3.objs.size,upd H1 h3.objs.size (.lst (pb.map fun z=> V.ref z.2)),?_,rfl,?_⟩
   ·refine I3.laid (t':=tk2) k2 (Nat.le_refl _) ⟨?_,(ST.refs pb),ep,?_,hD⟩
    ·rw [List.length_map,← List.length_map (f:=(·.1)),epts,sizeLine_eq]
     have:=ST.srt_len pts
     omega
    ·have all:∀ l:ST.PB,aK (l.map fun z=> V.ref z.2) (ST.refs l):=fun l=> by
      induction l with
      | nil=> exact .nil
      | cons z r ih=> exact .cons rfl ih
     exact all pb
   ·refine q _ _ _ (sm.trans (aV fr _)) (sm.free fr) aT ⟨?_,fun i z x e1 e2=> ?_⟩
    ·rw [List.length_map,← epts,List.length_map,List.length_map]
    ·rw [← epts,List.map_map,List.getElem?_map] at e2
     rw [List.getElem?_map] at e1
     cases hpi:pb[i]? with
     | none=> rw [hpi] at e1; cases e1
     | some y=>
      rw [hpi] at e1 e2
      cases e1
      cases e2
      obtain ⟨j,hj,rfl⟩:=src y (List.mem_of_getElem? hpi)
      exact (adE j hj).2.1.same (bO (aV fr _) fr)
end
end L2
namespace ST
open PySem
section
variable {prog:Program} {w:World} {A:Around} {s:Shared} {R:Result→Shared→Prop} {I:Addr} {fp wr:List Addr} {G:Array GenState→Array GenState→Prop} {n:Nat} {P:Nat→Value→Prop} {St:Nat→Shared→Prop} {T:String}
def sW (prog:Program) (w:World) (T:String):Prop:=∀ (A:Around) (E:Value→Shared→Prop) (s:Shared) (r:Addr) (Q:Bool→Shared→Prop),s.TypeIs (.ref r) T→(∀ b,Q b s)→wpAny (model prog w) A (Builtin.List.listLengthHint (.ref r)) Q E s
theorem o3 (W:WalksS prog w A.in1 I fp wr G n P St) (hT:∀ i s,St i s→s.TypeIs (.ref I) T) (hl:(Value.type T==Value.type "list")=false) (ht:(Value.type T==Value.type "tuple")=false) (hint:sW prog w T) (S:Addr) (res:Value) (c₀:Nat) (hst:St 0 s) (hSf:S ∉ fp) (hI:I∈fp)
  (hS:s.heap.get? S=some { cls:=.type "list",data:=.seq #[] c₀ })
  (hR:∀ s' acc' c',Moved (S::wr) G s s'→s'.heap.get? S=some { cls:=.type "list",dict:=none,data:=.seq acc' c',slots:=#[] }→ItemsOf P acc' n→R (.ok (.ret res)) s') (hn:n≤sizeLine):
  wpAny (model prog w) A.in1 (Builtin.List.listExtendWith (.ref S) (.ref I) res)
   (fun fin s'=> match fin with | .done f=> R (.ok f) s' | .again c'=> c'.quiet=true∧codeAny (model prog w) A c' R s') (fun e s'=> R (.error e) s') s:=by
 have hSI:S≠I:=fun e=> hSf (e ▸ hI)
 unfold Builtin.List.listExtendWith
 refine wpAny_bind (wpAny_typeOf (hT 0 _ hst) ?_)
 have k1:Builtin.List.listSameRef (.ref S) (.ref I)=false:=by simp [Builtin.List.listSameRef,hSI]
 simp only [k1,hl,ht,Bool.or_false,Bool.false_eq_true,if_false]
 refine wpAny_bind (W.self 0 _ _ _ hst (wpAny_bind (wpAny_holding (hint _ _ _ _ _ (hT 0 _ hst) fun b=> ?_))))
 refine wpAny_ite_split (fun _=> ?_) (fun _=> ?_)
 ·refine wpAny_bind (wpAny_rule (wpAny_bind ?_))
  show wpAny _ A.in1 (updateSeq S (·.push .none) >>=fun _=> updateSeq S (·.pop)) _ _ _
  refine wpAny_bind (wpAny_updateSeq hS rfl ?_)
  have g2:=Heap.get?_update_self (Obj.mapSeq (·.push Value.none)) hS rfl
  refine wpAny_updateSeq (hz:=by seq_fits) g2 rfl ?_
  have g3:=Heap.get?_update_self (Obj.mapSeq (·.pop)) g2 rfl
  have oth:∀ b o,b≠S→s.heap.get? b=some o→((s.heap.update S (Obj.mapSeq (·.push Value.none))).update S (Obj.mapSeq (·.pop))).get? b=some o:=fun b o hb e=> (Heap.get?_update_other _ _ (Ne.symm hb)).trans ((Heap.get?_update_other _ _ (Ne.symm hb)).trans e)
  refine wpAny_pure ⟨plainId_quiet PySem.F.plain_extend_loop _,codeAny_extend_loopS W hn _ hSf _ n 0 _ _ _ rfl (Nat.zero_le _) (W.frame 0 s _ s.toks hst (Nat.le_refl _) fun b hb o e=> oth b o (fun z=> hSf (z ▸ hb)) e) g3 (ItemsOf.nil P) fun s' acc' c' m g' it=> ?_⟩
  exact hR s' acc' c' (Moved.trans W.gtrans ((Moved.refl W.grefl).then_heap (Nat.le_refl _) fun b o hb e=> oth b o (fun z=> hb (z ▸ List.mem_cons_self)) e) m) g' it
 ·exact wpAny_pure ⟨plainId_quiet PySem.F.plain_extend_loop _,codeAny_extend_loopS W hn _ hSf _ n 0 _ _ _ rfl (Nat.zero_le _) hst hS (ItemsOf.nil P) fun s' acc' c' m g' it=> hR s' acc' c' m g' it⟩
theorem sF (W:WalksS prog w A.in1 I fp wr G n P St) (hT:∀ i s,St i s→s.TypeIs (.ref I) T) (hl:(Value.type T==Value.type "list")=false) (ht:(Value.type T==Value.type "tuple")=false) (hint:sW prog w T) (S:Addr) (hst:St 0 s) (hSf:S ∉ fp) (hI:I∈fp)
  (hS:s.heap.get? S=some { cls:=.type "list",data:=.seq #[] })
  (hR:∀ s' acc' c',Moved (S::wr) G s s'→s'.heap.get? S=some { cls:=.type "list",dict:=none,data:=.seq acc' c',slots:=#[] }→ItemsOf P acc' n→R (.ok (.ret .none)) s') (hn:n≤sizeLine):
  wpAny (model prog w) A.in1 (Builtin.«list.__init__» ⟨[.ref S,.ref I],[]⟩)
   (fun fin s'=> match fin with | .done f=> R (.ok f) s' | .again c'=> c'.quiet=true∧codeAny (model prog w) A c' R s') (fun e s'=> R (.error e) s') s:=by
 show wpAny _ A.in1 (Builtin.List.listItems (.ref S) >>=fun old=> Builtin.List.listUpdate (.ref S) (fun _=> #[]) >>=fun _=> letGo old.toList.reverse >>=fun _=> Builtin.List.listExtendWith (.ref S) (.ref I) .none) _ _ s
 refine wpAny_bind ?_
 unfold Builtin.List.listItems
 refine wpAny_bind (wpAny_seqItems hS rfl (wpAny_pure ?_))
 show wpAny _ A.in1 (updateSeq S (fun _=> #[]) >>=fun _=> letGo (#[]:Array Value).toList.reverse >>=fun _=> Builtin.List.listExtendWith (.ref S) (.ref I) .none) _ _ s
 refine wpAny_bind (wpAny_updateSeq hS rfl ?_)
 have g2:=Heap.get?_update_self (Obj.mapSeq (fun _=> (#[]:Array Value))) hS rfl
 have oth:∀ b o,b≠S→s.heap.get? b=some o→(s.heap.update S (Obj.mapSeq (fun _=> (#[]:Array Value)))).get? b=some o:=fun b o hb e=> (Heap.get?_update_other _ _ (Ne.symm hb)).trans e
 refine wpAny_bind (wpAny_letGo ?_)
 refine o3 W hT hl ht hint S .none _ (W.frame 0 s _ s.toks hst (Nat.le_refl _) fun b hb o e=> oth b o (fun z=> hSf (z ▸ hb)) e) hSf hI g2 (fun s' acc' c' m g' it=> ?_) hn
 exact hR s' acc' c' (Moved.trans W.gtrans ((Moved.refl W.grefl).then_heap (Nat.le_refl _) fun b o hb e=> oth b o (fun z=> hb (z ▸ List.mem_cons_self)) e) m) g' it
end
section
variable {prog:Program} {w:World} {A:Around} {E:Value→Shared→Prop} {s:Shared} {I:Addr} {fp wr:List Addr} {G:Array GenState→Array GenState→Prop} {n:Nat} {P:Nat→Value→Prop} {St:Nat→Shared→Prop} {T:String}
theorem call_list_it {Q:Value→Shared→Prop} (W:WalksS prog w A.in1.in1 I fp wr G n P St) (hT:∀ i s,St i s→s.TypeIs (.ref I) T) (hl:(Value.type T==Value.type "list")=false) (ht:(Value.type T==Value.type "tuple")=false) (hint:sW prog w T) (hst:St 0 s) (hfp:∀ b∈fp,b < s.heap.objs.size) (hI:I∈fp)
  (hQ:∀ s' acc' c',Moved (s.heap.objs.size::wr) G { s with heap:=s.heap.push { cls:=.type "list",data:=.seq #[] } } s'→
   s'.heap.get? s.heap.objs.size=some { cls:=.type "list",dict:=none,data:=.seq acc' c',slots:=#[] }→ItemsOf P acc' n→Q (.ref s.heap.objs.size) s') (hn:n≤sizeLine):
  wpAny (model prog w) A (call (.type "list") [.ref I]) Q E s:=by
 have hSf:s.heap.objs.size ∉ fp:=fun hm=> Nat.lt_irrefl _ (hfp _ hm)
 refine callType_codes (Q₁:=fun obj s₁=> obj=.ref s.heap.objs.size∧s₁={ s with heap:=s.heap.push { cls:=.type "list",data:=.seq #[] } }) PySem.F.called_list (PySem.F.typeCall_list_1 _) PySem.F.entry_list_init (code_list_new _ ⟨rfl,rfl⟩) fun obj s₁ h₁=> ?_
 obtain ⟨rfl,rfl⟩:=h₁
 have hS:(s.heap.push { cls:=.type "list",data:=.seq #[] }).get? s.heap.objs.size=some { cls:=.type "list",data:=.seq #[] }:=Heap.get?_push_size _ rfl
 refine ⟨⟨_,hS,rfl⟩,PySem.F.args_list_init_2 _ _,sF W hT hl ht hint _ (W.frame 0 s _ s.toks hst (Nat.le_refl _) fun b _ o e=> Heap.get?_push_of_some _ e) hSf hI hS (fun s' acc' c' m g' it=> ?_) hn⟩
 exact ⟨rfl,hQ s' acc' c' m g' it⟩
end
theorem tT:typeLookup (.type "list_reverseiterator") "__len__"=pure none:=by rw [typeLookup_type,builtinLookup_eq_fast]; kernel_rfl
theorem iM:Slot "list_reverseiterator" "__length_hint__" "list_reverseiterator.__length_hint__":=
 .of (owner:="list_reverseiterator") (n:="__length_hint__") (by rw [typeLookup_type,builtinLookup_eq_fast]; kernel_rfl) (by decide+kernel) (by decide+kernel) (by decide+kernel) (by first | exact .inl (by decide+kernel) | exact .inr (by decide+kernel)) (by rw [isSubtype_type]; kernel_rfl)
theorem hint_rev (prog:Program) (w:World):sW prog w "list_reverseiterator":=fun A E s r Q hT h=> by
 unfold Builtin.List.listLengthHint
 refine wpAny_bind (wpAny_specialOf hT tT ?_)
 show wpAny _ A (specialOf (Value.ref r) (Str.ofString "__length_hint__") >>=_) _ _ _
 refine wpAny_bind (wpAny_specialOf hT iM.lookup ?_)
 generalize hid:("list_reverseiterator.__length_hint__":String)=id0
 wp_delta
 rw [show splitId id0=some ("list_reverseiterator","__length_hint__") from by subst hid; decide+kernel]
 subst hid
 refine wpAny_bind (wpAny_isInstance (T:="list_reverseiterator") (b:=true) hT (by rw [isSubtype_type]; kernel_rfl) ?_)
 refine wpAny_ite_split (fun z=> absurd z (by decide)) (fun _=> ?_)
 refine wpAny_ite_split (fun _=> ?_) (fun z=> absurd (by decide+kernel) z)
 refine wpAny_ite_split (fun z=> absurd z (by decide+kernel)) (fun _=> wpAny_pure (h _))
end ST
namespace L2
open PySem PySem.Spec PyProof.Rows
theorem iR:bootBuiltins "reversed"=some (.type "reversed"):=by decide+kernel
theorem aK.rev:∀ {xs:List V} {us:List Value},aK xs us→aK xs.reverse us.reverse:=fun {xs us} r=> by
 induction r with
 | nil=> exact .nil
 | @cons x u xs us r1 r2 ih=>
  rw [List.reverse_cons,List.reverse_cons]
  have app:∀ {a:List V} {b:List Value},aK a b→aK (a++[x]) (b++[u]):=fun {a b} q=> by
   induction q with
   | nil=> exact .cons r1 .nil
   | cons q1 _ ih'=> exact .cons q1 ih'
  exact app ih
theorem Rps.rev {K:PySem.W.Frag} {H:Hp} {vs:List V} {xs:List U} (r:Rps K H vs xs):Rps K H vs.reverse xs.reverse:=⟨by simp [r.len],fun i v x h1 h2=> by
 have hi:i < vs.length:=by have:=aM h1; simpa using this
 have hx:i < xs.length:=by rw [← r.len]; exact hi
 rw [List.getElem?_reverse hi] at h1
 rw [List.getElem?_reverse hx,← r.len] at h2
 exact r.at_ _ v x h1 h2⟩
section
variable {X:Cx} {H0:Hp} {O0:List Addr} {ps:PSt} {e k:Expr} {x:U} {xs:List U} {pos pos' p p' p2:Pos}
theorem sS {K:PySem.W.Frag} {H:Hp} {v:V} (rp:Rp K H v x) (hx:x=.lst xs∨x=.scr xs):∃ a vs,v=.ref a∧SqL K H a vs∧Rps K H vs xs:=by
 rcases hx with rfl | rfl
 ·cases rp with
  | lst hq hl hh=> exact ⟨_,_,rfl,SqL.of hq,hl,hh⟩
 ·cases rp with
  | scr hq hl hh=> exact ⟨_,_,rfl,hq,hl,hh⟩
theorem nV (hc:X.calm=true) (hg:Gl X "list") (hm:X.mg "list"=none) (hgr:Gl X "reversed") (hmr:X.mg "reversed"=none) (ha:Ev X H0 O0 ps e (.lst xs))
  (he:starEach [e] X.env=(false,eval e X.env)::starEach [] X.env:=by rfl):EvN X H0 O0 ps (.Call (.Name "list" p) [.Call (.Name "reversed" p') [e] [] pos'] [] pos) xs.reverse:=by
 rintro pins s σ H Q I ⟨O,R,q⟩
 have hh:X.A.handled=none:=I.ok.hd hc
 refine wpAny_Call_Name_kw (cT I hg hm boot_list ?_)
 refine callWith_type1 (e:=.Call (.Name "reversed" p') [e] [] pos') (rest:=[]) ?_ cB rfl
 rw [cB]
 show wpAny _ _ (spliced ((false,eval (.Call (.Name "reversed" p') [e] [] pos') X.env)::backTo pos (starEach [] X.env))) _ _ s
 refine Calls.spliced_cons ?_
 refine wpAny_Call_Name_kw (cT I hgr hmr iR ?_)
 refine callWith_type1 (thn (cn ha d9 he pos' pins s σ H (fun vs H1=> ∃ v,vs=[v]∧aD H H1∧Rp X.K (hid H1 O) v (.lst xs)) I ⟨O,R,fun v H1 s1 r1=> ⟨v,rfl,s1,r1⟩⟩) fun us s1 hx=> ?_) he rfl
 obtain ⟨vs,H1,I1,rv,v,rfl,sm,rp⟩:=hx
 obtain ⟨u,rfl,ru⟩:=gY rv
 obtain ⟨a,ws,rfl,hq,rs⟩:=sS rp (.inl rfl)
 cases ru
 obtain ⟨its,rw',pl,hz⟩:=I1.list (ax.seq hq)
 have hlen:=rw'.length
 have hsz:its.toArray.size=its.length:=by simp
 refine call_reversed_list pl.isList ?_
 have I2:Inv X pins σ H1 { s1 with heap:=s1.heap.push (revObj a ((its.toArray.size:Int) - 1)) }:=I1.kept (t':=s1.toks) fun b ob z=> Heap.get?_push_of_some _ z
 refine Calls.spliced_nil ?_
 have hal:a < s1.heap.objs.size:=by obtain ⟨o,ho,_⟩:=pl.isList; exact Heap.lt_size ho
 have W:=(Walks.listRev (prog:=X.prog) (w:=X.w) (A:=X.A.in1.in1) hh s1.heap.objs.size a (Nat.ne_of_lt hal) its.toArray).toS
 refine ST.call_list_it (T:="list_reverseiterator") (s:={ s1 with heap:=s1.heap.push (revObj a ((its.toArray.size:Int) - 1)) }) W (fun i s' st=> st.2.1.typeIs) (by decide) (by decide) (ST.hint_rev _ _) ⟨Nat.zero_le _,⟨_,Heap.get?_push_size _ rfl,rfl,by simp [revObj]⟩,pl.isList.push _⟩ (fun b hb=> ?_) (by simp) (fun s3 acc c m hD hit=> ?_) (by rw [hsz]; omega)
 ·show b < (s1.heap.push _).objs.size
  rw [Heap.size_push]
  simp at hb
  rcases hb with z | z
  ·rw [z]; exact Nat.lt_succ_self _
  ·rw [z]; exact Nat.lt_succ_of_lt hal
 ·obtain ⟨h3,g3,d3,tk3,os3⟩:=s3
  obtain rfl:g3=s1.gens:=m.gens
  obtain rfl:d3=s1.drawn:=m.drawn
  obtain rfl:os3=s1.os:=m.os
  have szI:(s1.heap.push (revObj a ((its.toArray.size:Int) - 1))).objs.size=s1.heap.objs.size+1:=Heap.size_push ..
  have keep:∀ b ob,s1.heap.get? b=some ob→h3.get? b=some ob:=fun b ob z=> by
   have hb:=Heap.lt_size z
   refine m.heap b ob (fun y=> ?_) (Heap.get?_push_of_some _ (Heap.get?_push_of_some _ z))
   rcases List.mem_cons.mp y with y | y
   ·rw [y] at hb
    have hb':s1.heap.objs.size+1 < s1.heap.objs.size:=by rw [← szI]; exact hb
    exact absurd hb' (by omega)
   ·rw [List.mem_singleton.mp y] at hb; exact Nat.lt_irrefl _ hb
  have hacc:acc.toList=its.reverse:=by
   apply List.ext_getElem?
   intro i
   rcases Nat.lt_or_ge i acc.size with z | z
   ·have y:=hit.2 i _ (Array.getElem?_eq_getElem z)
    have hi:i < its.length:=by rw [hit.1,hsz] at z; exact z
    rw [Array.getElem?_toList,Array.getElem?_eq_getElem z,List.getElem?_reverse hi,← y,hsz]
    simp
   ·have hi:its.length≤i:=by rw [hit.1,hsz] at z; exact z
    rw [List.getElem?_eq_none (by simpa using z),List.getElem?_eq_none (by simpa using hi)]
  generalize hn:(s1.heap.push (revObj a ((its.toArray.size:Int) - 1))).objs.size=D at *
  have fr:H1 D=none:=I2.hok.fresh (by rw [← hn]; exact Nat.le_refl _)
  have I3:Inv X pins σ (upd H1 D (.lst ws.reverse)) { s1 with heap:=h3,toks:=tk3 }:=I1.laid (t':=tk3) (o:=.lst ws.reverse) keep (by rw [szI]; exact Nat.le_succ _) ⟨by rw [List.length_reverse]; exact hz,its.reverse,c,rw'.rev,by rw [← hacc,Array.toArray_toList]; exact hD⟩
  refine ⟨.ref D,_,I3,rfl,q D _ _ (sm.trans (aV fr _)) (sm.free fr) aT ?_⟩
  exact rs.rev.same (bO (aV fr _) fr)
end
end L2
namespace L2
open PySem PySem.Spec PyProof.Rows
section
variable {X:Cx} {H0:Hp} {O0:List Addr} {ps:PSt} {xs:List U} {us:List U} {es:List Expr} {x:Str} {pc p' pos:Pos}
theorem lP (n:Nat) (h:ps[n]?=some (some (.own xs))) (hg:Gl X "len") (hm:X.mg "len"=none) (hN:X.N[n]?=some x:=by rfl) (hv:Vis X.env.scope x:=by first | exact Or.inl rfl | exact Or.inr (Or.inl rfl) | exact Or.inr (Or.inr rfl)) (hd:(x==("__debug__":Str))=false:=by decide)
  (hcd:(x==("__classdict__":Str))=false:=by decide) (hpl:(backTo pos (starEach [] X.env)).any (·.1)=false:=by rfl):Ev X H0 O0 ps (.Call (.Name "len" pc) [.Name x p'] [] pos) (.int xs.length):=v5 n h hg hm hN hv hd hcd ai hpl
end
end L2
namespace ST
open PySem
abbrev xu (h:Heap) (z TI TO T:Addr) (b:Bool):Prop:=h.get? z=some { cls:=.type "zip",dict:=none,data:=.fields #[rawInt T,.bool b,.bool false,.ref TI,.ref TO],slots:=#[] }
section
variable {prog:Program} {w:World} {A:Around} {E:Value→Shared→Prop} {s:Shared}
end
structure ZL (xs ys:Array Value) (z TI TO i1 i2 l1 l2 S:Addr) (h:Heap) (i:Nat) (ad:List Addr) (c:Nat):Prop where
 ti:IsPair h TI (.ref i1) (.ref i2)
 a1:h.IsListIter i1 l1 i
 a2:h.IsListIter i2 l2 i
 b1:h.IsList l1 xs
 b2:h.IsList l2 ys
 acc:h.get? S=some { cls:=.type "list",dict:=none,data:=.seq (ad.map Value.ref).toArray c,slots:=#[] }
 len:ad.length=i
 tup:∀ (j:Nat) (a:Addr),ad[j]?=some a→∃ x y,xs[j]?=some x∧ys[j]?=some y∧IsPair h a x y
 far:∀ a∈ad,a≠z∧a≠TO∧a≠i1∧a≠i2∧a≠S
 to:∃ o,h.get? TO=some o
 nd:ad.Nodup
 zz:(i=0∧IsZip h z TI TO .none∧∃ a b,IsPair h TO a b)∨(∃ b T,ad[0]?=some T∧xu h z TI TO T b)
section
variable {prog:Program} {w:World} {A:Around} {R:Result→Shared→Prop}
end
end ST
namespace ST
open PySem
section
variable {prog:Program} {w:World} {A:Around} {R:Result→Shared→Prop}
structure ZF (xs ys:Array Value) (S:Addr) (h:Heap) (ad:List Addr) (c:Nat):Prop where
 acc:h.get? S=some { cls:=.type "list",dict:=none,data:=.seq (ad.map Value.ref).toArray c,slots:=#[] }
 len:ad.length=ys.size
 tup:∀ (j:Nat) (a:Addr),ad[j]?=some a→∃ x y,xs[j]?=some x∧ys[j]?=some y∧IsPair h a x y
 ne:∀ a∈ad,a≠S
 nd:ad.Nodup
end
end ST
namespace ST
open PySem
section
variable {prog:Program} {w:World} {A:Around} {E:Value→Shared→Prop} {s:Shared}
end
section
variable {prog:Program} {w:World} {A:Around} {R:Result→Shared→Prop} {s:Shared}
end
section
variable {prog:Program} {w:World} {A:Around} {E:Value→Shared→Prop} {s:Shared}
end
end ST
namespace L2
open PySem PySem.Spec PyProof.Rows
theorem xl {a b:Nat} (h:a < b∨b < a):@Ne Addr a b:=fun e=> by
 have e':a=b:=e
 omega
theorem qu:bootBuiltins "zip"=some (.type "zip"):=by decide+kernel
section
variable {P:Program} {w:World} {H:Hp} {h:Heap} {a:Addr} {o:HO}
end
section
variable {X:Cx} {H0:Hp} {O0:List Addr} {ps:PSt} {e f:Expr} {x y:U} {xs ys:List U} {pos pos' p p':Pos}
end
end L2
namespace L2
open PySem PySem.Spec PyProof.Rows
section
variable {X:Cx} {ns:List Int} {M:Int}
end
end L2
namespace ST
open PySem PyProof.Rows
section
variable {prog:Program} {w:World} {A:Around} {E:Value→Shared→Prop} {s:Shared}
end
end ST
namespace L2
open PySem PySem.Spec PyProof.Rows
section
variable {X:Cx} {H0:Hp} {O0:List Addr} {ps:PSt} {a b c:Expr} {pos:Pos} {x y z:U} {p q:P2} {k m:Bool}
end
end L2
namespace L2
open PySem PySem.Spec PyProof.Rows
section
variable {X:Cx} {p q:P2} {l:List P2}
end
end L2
namespace L2
open PySem PySem.Spec PyProof.Rows
section
variable {X:Cx} {H0:Hp} {O0:List Addr} {ps:PSt} {e:Expr} {pts:List P2} {pos pos' p p':Pos}
end
end L2
namespace ST
open PySem
section
variable {prog:Program} {w:World} {A:Around} {R:Result→Shared→Prop} {I S:Addr} {fp wr:List Addr} {n:Nat} {P:Nat→Value→Prop} {St:Nat→Heap→Prop} {G:Heap→Prop} {bt:Nat→Nat→Bool}
end
section
variable {prog:Program} {w:World} {A:Around} {E:Value→Shared→Prop} {s:Shared}
end
section
variable {prog:Program} {w:World} {A:Around} {R:Result→Shared→Prop} {I S:Addr} {fp wr:List Addr} {n:Nat} {P:Nat→Value→Prop} {St:Nat→Heap→Prop} {G:Heap→Prop} {bt:Nat→Nat→Bool}
end
section
variable {prog:Program} {w:World} {A:Around} {E:Value→Shared→Prop} {s:Shared}
end
end ST
namespace ST
open PySem PyProof.Rows
section
variable {prog:Program} {w:World} {A:Around} {E:Value→Shared→Prop} {s:Shared}
theorem d_ {x y:Int} {t u:Tok} {Q:Value→Shared→Prop} (h:Q (.bool (decide (x < y))) s):wpAny (model prog w) A (richCompare .Lt (.int x t) (.int y u)) Q E s:=
 richCompare_gives (op:=.Lt) (typeIs_int s _ t) (typeIs_int s _ u) PySem.F.slot_int_lt PySem.F.entry_int_lt (PySem.F.args_int_lt_2 _ _) (gives_int_lt _ _ t u) (fun x=> nomatch x) h
end
end ST
namespace L2
open PySem PySem.Spec PyProof.Rows
section
variable {X:Cx} {pts:List P2} {M:P2}
end
end L2
namespace L2
open PySem PySem.Spec PyProof.Rows
section
variable {X:Cx} {H0:Hp} {O0:List Addr} {ps:PSt} {xs:List U} {x:Str} {pos pc p':Pos}
end
end L2
namespace L2
open PySem PySem.Spec PyProof.Rows
section
variable {X:Cx} {H0:Hp} {O0:List Addr} {ps:PSt} {x:Str} {pos:Pos} {a b:Expr} {i j:Int}
end
end L2
namespace L2
open PySem PySem.Spec PyProof.Rows
section
variable {X:Cx} {H0:Hp} {O0:List Addr} {ps:PSt} {e tg:Expr} {p pos:Pos} {xs:List U} {x:U}
end
end L2
namespace L2
open PySem PySem.Spec PyProof.Rows
section
variable {X:Cx} {H0:Hp} {O0:List Addr} {ps:PSt} {a b:Expr} {pos:Pos} {xs:List U} {u:U} {k:Int}
end
end L2
namespace L2
open PySem PySem.Spec PySem.W PyProof.Rows
section
variable {X:Cx}
end
end L2
namespace L2
open PySem PySem.Spec PyProof.Rows
section
variable {X:Cx} {H0:Hp} {O0:List Addr} {E:XK} {ps ps':PSt} {D:PD} {s:Stmt} {ss body:List Stmt} {a b c e:Expr} {es:List Expr} {pos p:Pos} {u x y:U} {xs ys us:List U} {k:Bool}
 {CX:CXT} {n:Nat} {f C:Addr} {fd:FuncData} {pn:List Str} {spec:List U→Out→Prop} {nm:Str}
end
end L2
namespace L2
open PySem PySem.Spec PyProof.Rows
theorem Rs.free {K:PySem.W.Frag} {H0 H:Hp} {O0 O:List Addr} {ps:PSt} {σ:St} {xs:List U} (n:Nat) (h:ps[n]?=some (some (.own xs))) (R:Rs K H0 O0 ps σ H O):∃ O',(∀ b∈O',b∈O)∧Rs K H0 O0 (ps.set n (some (.val (.lst xs)))) σ H O':=by
 obtain ⟨v,hv,a,vs,rfl,ha,ha0,hH,rs⟩:=R.at_ n _ h
 have less:∀ b∈O.filter (fun b=> decide (b≠a)),b∈O:=fun b hb=> (List.mem_filter.mp hb).1
 have keep:∀ b∈O,b≠a→b∈O.filter (fun b=> decide (b≠a)):=fun b hb ne=> List.mem_filter.mpr ⟨hb,by simpa using ne⟩
 have sm:aD (hid H O) (hid H (O.filter (fun b=> decide (b≠a)))):=d8 less
 have na:a ∉ O.filter (fun b=> decide (b≠a)):=fun z=> by have:=(List.mem_filter.mp z).2; simp at this
 refine ⟨O.filter (fun b=> decide (b≠a)),less,R.same,fun b hb=> keep b (R.old b hb) fun e=> ha0 (e ▸ hb),fun b hb=> R.new b (less b hb),fun b hb=> R.dom b (less b hb),by rw [R.len,List.length_set],fun i s hs=> ?_,fun i j ys zs b h1 h2 h3 h4=> ?_⟩
 ·rcases cy hs with ⟨rfl,e⟩ | ⟨ne,hs⟩
  ·cases e
   exact ⟨.ref a,hv,.lst (cU hH na) (rs.same sm).len (rs.same sm).at_⟩
  ·obtain ⟨w,hw,ok⟩:=R.at_ i s hs
   refine ⟨w,hw,?_⟩
   cases s with
   | val u=> exact Rp.same sm ok
   | own ys=>
    obtain ⟨b,ws,rfl,hb,hb0,hHb,rsb⟩:=ok
    refine ⟨b,ws,rfl,keep b hb fun e=> ?_,hb0,hHb,rsb.same sm⟩
    subst e
    exact ne (R.inj n i _ _ b h hs hv hw)
   | pin z u=> exact ⟨ok.1,Rp.same sm ok.2⟩
 ·rcases cy h1 with ⟨_,e⟩ | ⟨_,h1⟩
  ·cases e
  ·rcases cy h2 with ⟨_,e⟩ | ⟨_,h2⟩
   ·cases e
   ·exact R.inj i j _ _ b h1 h2 h3 h4
section
variable {X:Cx} {H0:Hp} {O0:List Addr} {E:XK} {ps:PSt} {D:PD} {ss:List Stmt} {e:Expr} {xs:List U} {b:Bool}
theorem my (n:Nat) (h:ps[n]?=some (some (.own xs))) (w:Ws X H0 O0 E ss D (ps.set n (some (.val (.lst xs))))):Ws X H0 O0 E ss D ps:=
 PSs.mono w fun D' σ H ⟨L,O,R⟩=> by
  obtain ⟨O',_,R'⟩:=R.free n h
  exact ⟨L,O',R'⟩
end
end L2
namespace L2
open PySem PySem.Spec PyProof.Rows
section
variable {X:Cx} {ns:List Int} {M:Int}
end
end L2
namespace L2
open PySem PySem.Spec PyProof.Rows
section
variable {X:Cx} {H0:Hp} {O0:List Addr} {E:XK} {ps:PSt} {D:PD} {e:Expr} {pos:Pos} {xs ys:List U}
end
end L2
namespace L2
open PySem PySem.Spec PySem.W PyProof.Rows
section
variable {X:Cx}
end
section
variable {X:Cx} {H0:Hp} {O0:List Addr} {E:XK} {ps:PSt} {D:PD} {a e:Expr} {es:List Expr} {us:List U} {k:Bool} {n:Nat} {fd:FuncData} {pn:List Str} {spec:List U→Out→Prop}
end
end L2
namespace L2
open PySem PySem.Spec PyProof.Rows
section
variable {X:Cx} {H0:Hp} {O0:List Addr} {ps:PSt} {a b:Expr} {p:P2} {l:List P2}
end
end L2
namespace ST
open PySem PySem.W PySem.Calls PyProof.Rows
section
variable {prog:Program} {w:World} {A:Around} {E:Value→Shared→Prop} {s:Shared}
end
end ST
namespace L2
open PySem PySem.Spec PyProof.Rows
section
variable {X:Cx} {H0:Hp} {O0:List Addr} {ps:PSt} {e:Expr} {p pos:Pos} {a b:P2}
end
end L2
namespace ST
open PySem PySem.W PySem.Calls PyProof.Rows
section
variable {prog:Program} {w:World} {A:Around} {E:Value→Shared→Prop} {s:Shared}
end
end ST
namespace L2
open PySem PySem.Spec PyProof.Rows
section
variable {X:Cx} {H0:Hp} {O0:List Addr} {ps:PSt} {e:Expr} {pts:List P2} {pos p:Pos}
end
end L2
namespace L2
open PySem PySem.Spec PySem.W PyProof.Rows
section
variable {X:Cx}
end
section
variable {X:Cx} {H0:Hp} {O0:List Addr} {E:XK} {ps:PSt} {D:PD} {a e:Expr} {es:List Expr} {us:List U} {k:Bool} {n:Nat} {fd:FuncData} {pn:List Str} {spec:List U→Out→Prop}
end
end L2
namespace L2
open PySem PySem.Spec PySem.W PyProof.Rows
structure xP (K:PySem.W.Frag) (x qual:Str) (st:Stmt) (f:Addr) (fd:FuncData) (D:Addr):Prop where
 ex:∃ (oc:Value) (od:Option Addr) (kV doc pm:Value) (an:Option Addr) (cdv ct:Value) (osl:Array (Option Value)),
  fd=PySem.W.fnOf x qual (aC st) (aA st) (aj st) (.ref D) kV doc pm an cdv ct∧K.lookup f=some ⟨oc,od,.func fd,osl⟩∧PySem.W.codeIn K cdv qual=true
 kp:PySem.W.keepIn K (.ref f)=true
section
variable {P:Program} {w:World} {K:PySem.W.Frag} {mg:Str→Option Value} {base:Heap} {N pn:List Str} {qual nm:Str} {f D:Addr}
end
section
variable {X:Cx} {H0:Hp} {O0:List Addr} {ps:PSt} {e:Expr} {es:List Expr} {pos p:Pos} {u:U} {us:List U} {xs:List U} {CX:CXT} {n:Nat} {f:Addr} {fd:FuncData} {pn:List Str} {spec:List U→Out→Prop} {nm:Str} {j:Int}
end
end L2
namespace L2
open PySem PySem.Spec PyProof.Rows
section
variable {X:Cx} {H0:Hp} {O0:List Addr} {ps:PSt} {a b:Expr} {k:Int} {ns:List Int}
end
end L2
namespace L2
open PySem PySem.Spec PyProof.Rows
section
variable {X:Cx} {tg:Expr}
variable {H0:Hp} {O0:List Addr} {ps:PSt} {a b:Expr} {p pos:Pos}
end
section
variable {X:Cx} {H0:Hp} {O0:List Addr} {E:XK} {ps ps':PSt} {D:PD} {tg iter cond:Expr} {pos p:Pos} {xs:List U}
end
end L2
namespace L2
open PySem PySem.Spec PyProof.Rows
section
variable {X:Cx} {H0:Hp} {O0:List Addr} {ps:PSt} {e:Expr} {ns:List Int} {pos p:Pos}
end
end L2
namespace L2
open PySem PySem.Spec PyProof.Rows
section
variable {X:Cx} {H0:Hp} {O0:List Addr} {E:XK} {ps:PSt} {D:PD} {c:Expr} {pos:Pos} {xs:List U}
end
end L2
namespace L2
open PySem PySem.Spec PyProof.Rows
end L2
namespace TS
open PySem PyProof.Rows
abbrev SM:=StateT SortSt Sem
def jz:Bool→Keyed→Array Keyed→Nat→Nat→Nat→StateT SortSt Sem (Option Nat):=sortPriv% PySem.Builtin.gallop
section
variable {prog:Program} {w:World} {A:Around} {E:Value→Shared→Prop} {s:Shared}
def gt (a:Array Keyed) (i:Nat):Keyed:=a.getD i (Value.none,Value.none)
theorem gt_eq {a:Array Keyed} {i:Nat} (h:i < a.toList.length):gt a i=a.toList[i]:=by
 have h':i < a.size:=by simpa using h
 simp [gt,Array.getD,h']
theorem aF {a:Array Keyed} {i:Nat} (h:i < a.size):gt a i∈a.toList:=by rw [gt_eq (by simpa using h)]; exact List.getElem_mem _
theorem el {a:Array Keyed} {i:Nat} {st:SortSt} {Q:Keyed→SortSt→Prop} (hi:i < a.size) (h:Q (gt a i) st):wpS (model prog w) A E s (elem' a i) Q st:=by
 rw [elem'_eq,Array.getElem?_eq_getElem hi]
 refine wpS_pure ?_
 rw [gt_eq (by simpa using hi)] at h
 simpa using h
end
section
variable {prog:Program} {w:World} {A:Around} {E:Value→Shared→Prop} {s:Shared}
theorem gal {left:Bool} {key:Keyed} {arr:Array Keyed} {base n hint:Nat} {st:SortSt} {Q:Option Nat→SortSt→Prop} {f:Nat→Bool} {p:Nat} (hh:hint < n)
  (hin:∀ i,i < n→base+i < arr.size)
  (hT:left=true→∀ i (Q:Option Bool→SortSt→Prop),i < n→Q (some (f i)) st→wpS (model prog w) A E s (lt' (gt arr (base+i)) key) Q st)
  (hF:left=false→∀ i (Q:Option Bool→SortSt→Prop),i < n→Q (some (!f i)) st→wpS (model prog w) A E s (lt' key (gt arr (base+i))) Q st)
  (hp:p≤n) (hf:∀ i,i < n→(f i=true↔i < p)) (h:Q (some p) st):wpS (model prog w) A E s (jz left key arr base n hint) Q st:=by
 refine wpS_bind (wpS_mono (Q:=fun r st2=> r=some (f _)∧st2=st) (by
  refine wpS_bind (el (hin _ hh) ?_)
  cases left with
  | true=> rw [if_pos rfl]; exact hT rfl _ _ hh ⟨rfl,rfl⟩
  | false=>
   rw [if_neg (by decide)]
   exact wpS_bind (hF rfl _ _ hh (wpS_pure ⟨by simp,rfl⟩))) ?_)
 intro r0 st0 hr0
 rw [hr0.1,hr0.2]
 clear hr0 r0 st0
 dsimp only
 by_cases hr:f hint=true
 ·rw [if_pos hr]
  have hhp:=(hf hint hh).mp hr
  refine wpS_bind (wpS_mono (wpS_forRange (I:=fun x c st'=> st'=st∧∃ la ofs,c=(none,la,ofs)∧x+1≤ofs∧la < ofs∧hint+la < p) (Q:=fun c st'=> st'=st∧∃ la ofs,c=(none,la,ofs)∧la < ofs∧hint+la < p∧p≤hint+min ofs (n - hint)) ?_ ?_ ⟨rfl,0,1,rfl,Nat.le_refl _,Nat.one_pos,hhp⟩) ?_)
  ·rintro x c st' _ hx ⟨rfl,la,ofs,rfl,a1,a2,a3⟩
   dsimp only
   by_cases ho:ofs ≥ n - hint
   ·rw [if_pos ho]
    exact wpS_pure ⟨rfl,la,ofs,rfl,a2,a3,by omega⟩
   ·rw [if_neg ho]
    have hm:hint+ofs < n:=by omega
    refine wpS_bind (wpS_mono (Q:=fun r st2=> r=some (f _)∧st2=st') (by
     refine wpS_bind (el (hin _ hm) ?_)
     cases left with
     | true=> rw [if_pos rfl]; exact hT rfl _ _ hm ⟨rfl,rfl⟩
     | false=>
      rw [if_neg (by decide)]
      exact wpS_bind (hF rfl _ _ hm (wpS_pure ⟨by simp,rfl⟩))) ?_)
    intro r0 st0 hr0
    rw [hr0.1,hr0.2]
    clear hr0 r0 st0
    dsimp only
    by_cases hfm:f (hint+ofs)=true
    ·rw [if_neg (by rw [hfm]; decide)]
     have:=(hf _ hm).mp hfm
     exact wpS_pure ⟨rfl,_,_,rfl,by omega,by omega,this⟩
    ·rw [if_pos (by simpa using hfm)]
     have:¬ hint+ofs < p:=fun z=> hfm ((hf _ hm).mpr z)
     exact wpS_pure ⟨rfl,la,ofs,rfl,a2,a3,by omega⟩
  ·rintro c st' ⟨rfl,la,ofs,rfl,a1,a2,a3⟩
   exact ⟨rfl,la,ofs,rfl,a2,a3,by omega⟩
  rintro c st' ⟨rfl,la,ofs,rfl,a1,a2,a3⟩
  dsimp only
  refine wpS_bind (wpS_mono (wpS_forRange (I:=fun x c st2=> st2=st'∧∃ lo hi,c=(none,lo,hi)∧lo≤p∧p≤hi∧hi≤n∧hi - lo≤n - x) (Q:=fun c st2=> st2=st'∧∃ lo,c=(none,lo,p)) ?_ ?_ ⟨rfl,_,_,rfl,by omega,a3,by omega,by omega⟩) ?_)
  ·rintro x c st' _ hx ⟨rfl,lo,hi,rfl,a1,a2,a3,a4⟩
   dsimp only
   by_cases hlh:lo ≥ hi
   ·rw [if_pos hlh]
    exact wpS_pure ⟨rfl,lo,by rw [show hi=p by omega]⟩
   ·rw [if_neg hlh]
    have hm:lo+(hi - lo) / 2 < n:=by omega
    refine wpS_bind (wpS_mono (Q:=fun r st2=> r=some (f _)∧st2=st') (by
     refine wpS_bind (el (hin _ hm) ?_)
     cases left with
     | true=> rw [if_pos rfl]; exact hT rfl _ _ hm ⟨rfl,rfl⟩
     | false=>
      rw [if_neg (by decide)]
      exact wpS_bind (hF rfl _ _ hm (wpS_pure ⟨by simp,rfl⟩))) ?_)
    intro r0 st0 hr0
    rw [hr0.1,hr0.2]
    clear hr0 r0 st0
    dsimp only
    by_cases hfm:f (lo+(hi - lo) / 2)=true
    ·rw [if_pos hfm]
     have:=(hf _ hm).mp hfm
     exact wpS_pure ⟨rfl,_,_,rfl,by omega,a2,a3,by omega⟩
    ·rw [if_neg hfm]
     have:¬ lo+(hi - lo) / 2 < p:=fun z=> hfm ((hf _ hm).mpr z)
     exact wpS_pure ⟨rfl,_,_,rfl,a1,by omega,by omega,by omega⟩
  ·rintro c st' ⟨rfl,lo,hi,rfl,a1,a2,a3,a4⟩
   exact ⟨rfl,lo,by rw [show hi=p by omega]⟩
  ·rintro c st' ⟨rfl,lo,rfl⟩
   exact wpS_pure h
 ·rw [if_neg hr]
  have hhp:¬ hint < p:=fun z=> hr ((hf hint hh).mpr z)
  refine wpS_bind (wpS_mono (wpS_forRange (I:=fun x c st'=> st'=st∧∃ la ofs,c=(none,la,ofs)∧x+1≤ofs∧la < ofs∧la≤hint∧p≤hint - la) (Q:=fun c st'=> st'=st∧∃ la ofs,c=(none,la,ofs)∧la≤hint∧p≤hint - la∧hint+1 - min ofs (hint+1)≤p) ?_ ?_ ⟨rfl,0,1,rfl,Nat.le_refl _,Nat.one_pos,Nat.zero_le _,by omega⟩) ?_)
  ·rintro x c st' _ hx ⟨rfl,la,ofs,rfl,a1,a2,a3,a4⟩
   dsimp only
   by_cases ho:ofs ≥ hint+1
   ·rw [if_pos ho]
    exact wpS_pure ⟨rfl,la,ofs,rfl,a3,a4,by omega⟩
   ·rw [if_neg ho]
    have hm:hint - ofs < n:=by omega
    refine wpS_bind (wpS_mono (Q:=fun r st2=> r=some (f _)∧st2=st') (by
     refine wpS_bind (el (hin _ hm) ?_)
     cases left with
     | true=> rw [if_pos rfl]; exact hT rfl _ _ hm ⟨rfl,rfl⟩
     | false=>
      rw [if_neg (by decide)]
      exact wpS_bind (hF rfl _ _ hm (wpS_pure ⟨by simp,rfl⟩))) ?_)
    intro r0 st0 hr0
    rw [hr0.1,hr0.2]
    clear hr0 r0 st0
    dsimp only
    by_cases hfm:f (hint - ofs)=true
    ·rw [if_pos hfm]
     have:=(hf _ hm).mp hfm
     exact wpS_pure ⟨rfl,la,ofs,rfl,a3,a4,by omega⟩
    ·rw [if_neg hfm]
     have:¬ hint - ofs < p:=fun z=> hfm ((hf _ hm).mpr z)
     exact wpS_pure ⟨rfl,_,_,rfl,by omega,by omega,by omega,by omega⟩
  ·rintro c st' ⟨rfl,la,ofs,rfl,a1,a2,a3,a4⟩
   exact ⟨rfl,la,ofs,rfl,a3,a4,by omega⟩
  rintro c st' ⟨rfl,la,ofs,rfl,a1,a2,a3⟩
  dsimp only
  refine wpS_bind (wpS_mono (wpS_forRange (I:=fun x c st2=> st2=st'∧∃ lo hi,c=(none,lo,hi)∧lo≤p∧p≤hi∧hi≤n∧hi - lo≤n - x) (Q:=fun c st2=> st2=st'∧∃ lo,c=(none,lo,p)) ?_ ?_ ⟨rfl,_,_,rfl,a3,a2,by omega,by omega⟩) ?_)
  ·rintro x c st' _ hx ⟨rfl,lo,hi,rfl,a1,a2,a3,a4⟩
   dsimp only
   by_cases hlh:lo ≥ hi
   ·rw [if_pos hlh]
    exact wpS_pure ⟨rfl,lo,by rw [show hi=p by omega]⟩
   ·rw [if_neg hlh]
    have hm:lo+(hi - lo) / 2 < n:=by omega
    refine wpS_bind (wpS_mono (Q:=fun r st2=> r=some (f _)∧st2=st') (by
     refine wpS_bind (el (hin _ hm) ?_)
     cases left with
     | true=> rw [if_pos rfl]; exact hT rfl _ _ hm ⟨rfl,rfl⟩
     | false=>
      rw [if_neg (by decide)]
      exact wpS_bind (hF rfl _ _ hm (wpS_pure ⟨by simp,rfl⟩))) ?_)
    intro r0 st0 hr0
    rw [hr0.1,hr0.2]
    clear hr0 r0 st0
    dsimp only
    by_cases hfm:f (lo+(hi - lo) / 2)=true
    ·rw [if_pos hfm]
     have:=(hf _ hm).mp hfm
     exact wpS_pure ⟨rfl,_,_,rfl,by omega,a2,a3,by omega⟩
    ·rw [if_neg hfm]
     have:¬ lo+(hi - lo) / 2 < p:=fun z=> hfm ((hf _ hm).mpr z)
     exact wpS_pure ⟨rfl,_,_,rfl,a1,by omega,by omega,by omega⟩
  ·rintro c st' ⟨rfl,lo,hi,rfl,a1,a2,a3,a4⟩
   exact ⟨rfl,lo,by rw [show hi=p by omega]⟩
  ·rintro c st' ⟨rfl,lo,rfl⟩
   exact wpS_pure h
end
def iO:Nat→StateT SortSt Sem Unit:=sortPriv% PySem.Builtin.setMinGallop
abbrev ff (st:SortSt) (g:Nat):SortSt:=SortSt.mk' (kindOf st) (arrOf st) (pendingOf st) g (failedOf st)
def p6:Array Keyed→Array Keyed→StateT SortSt Sem (Array Keyed):=sortPriv% PySem.Builtin.mergeLo
section
variable {α:Type} {R:α→α→Bool} {A B out:List α} {ia ib:Nat}
structure MI (R:α→α→Bool) (A B out:List α) (ia ib:Nat):Prop where
 perm:out.Perm (A.take ia++B.take ib)
 srt:out.Pairwise fun x y=> R x y=true
 lA:∀ x∈out,∀ y∈A.drop ia,R x y=true
 lB:∀ x∈out,∀ y∈B.drop ib,R x y=true
structure MO (R:α→α→Bool) (A B:List α):Prop where
 tr:∀ x y z,R x y=true→R y z=true→R x z=true
 sA:A.Pairwise fun x y=> R x y=true
 sB:B.Pairwise fun x y=> R x y=true
 tot:∀ x∈A,∀ y∈B,R y x=false→R x y=true
theorem dB (tr:∀ x y z,R x y=true→R y z=true→R x z=true) {L:List α} (sL:L.Pairwise fun x y=> R x y=true) {i:Nat} (hi:i < L.length) {x:α} (h:R x L[i]=true):∀ y∈L.drop i,R x y=true:=fun y hy=> by
 rw [List.drop_eq_getElem_cons hi] at hy
 rcases List.mem_cons.mp hy with e | e
 ·rw [e]; exact h
 ·have:=(List.pairwise_cons.mp (by rw [← List.drop_eq_getElem_cons hi]; exact sL.sublist (List.drop_sublist i L))).1 y e
  exact tr _ _ _ h this
theorem iV {L:List α} (sL:L.Pairwise fun x y=> R x y=true) {i:Nat} (hi:i < L.length):∀ y∈L.drop (i+1),R L[i] y=true:=fun y hy=>
 (List.pairwise_cons.mp (by rw [← List.drop_eq_getElem_cons hi]; exact sL.sublist (List.drop_sublist i L))).1 y hy
theorem fe {L:List α} {i:Nat} {y:α} (h:y∈L.drop (i+1)):y∈L.drop i:=by
 rw [← List.drop_drop] at h
 exact List.mem_of_mem_drop h
theorem gu {L:List α} {i:Nat} (hi:i < L.length):L[i]∈L.drop i:=by rw [List.drop_eq_getElem_cons hi]; exact List.mem_cons_self
theorem MI.pushA (O:MO R A B) (I:MI R A B out ia ib) (hi:ia < A.length) (h:∀ y∈B.drop ib,R A[ia] y=true):MI R A B (out++[A[ia]]) (ia+1) ib where
 perm:=by
  rw [List.take_succ_eq_append_getElem hi]
  refine (I.perm.append_right _).trans ?_
  rw [List.append_assoc,List.append_assoc]
  exact List.Perm.append_left _ List.perm_append_comm
 srt:=List.pairwise_append.mpr ⟨I.srt,by simp,fun x hx y hy=> by rw [List.mem_singleton.mp hy]; exact I.lA x hx _ (gu hi)⟩
 lA:=fun x hx y hy=> by
  rcases List.mem_append.mp hx with e | e
  ·exact I.lA x e y (fe hy)
  ·rw [List.mem_singleton.mp e]; exact iV O.sA hi y hy
 lB:=fun x hx y hy=> by
  rcases List.mem_append.mp hx with e | e
  ·exact I.lB x e y hy
  ·rw [List.mem_singleton.mp e]; exact h y hy
theorem MI.pushB (O:MO R A B) (I:MI R A B out ia ib) (hi:ib < B.length) (h:∀ y∈A.drop ia,R B[ib] y=true):MI R A B (out++[B[ib]]) ia (ib+1) where
 perm:=by
  rw [List.take_succ_eq_append_getElem hi,← List.append_assoc]
  exact I.perm.append_right _
 srt:=List.pairwise_append.mpr ⟨I.srt,by simp,fun x hx y hy=> by rw [List.mem_singleton.mp hy]; exact I.lB x hx _ (gu hi)⟩
 lA:=fun x hx y hy=> by
  rcases List.mem_append.mp hx with e | e
  ·exact I.lA x e y hy
  ·rw [List.mem_singleton.mp e]; exact h y hy
 lB:=fun x hx y hy=> by
  rcases List.mem_append.mp hx with e | e
  ·exact I.lB x e y (fe hy)
  ·rw [List.mem_singleton.mp e]; exact iV O.sB hi y hy
theorem MI.runA (O:MO R A B) (hb:ib < B.length):∀ (k:Nat) {out:List α} {ia:Nat},MI R A B out ia ib→ia+k≤A.length→(∀ i (h:ia+i < A.length),i < k→R A[ia+i] B[ib]=true)→MI R A B (out++(A.drop ia).take k) (ia+k) ib
 | 0,out,ia,I,_,_=> by simpa using I
 | k+1,out,ia,I,hk,h=> by
  have hi:ia < A.length:=by omega
  have I':=I.pushA O hi (dB O.tr O.sB hb (h 0 (by omega) (by omega)))
  have:=MI.runA O hb k I' (by omega) (fun i hi' hik=> by
   have:=h (i+1) (by omega) (by omega)
   have e:A[ia+1+i]=A[ia+(i+1)]'(by omega):=by congr 1; omega
   rw [e]; exact this)
  rw [List.drop_eq_getElem_cons hi,List.take_succ_cons]
  rw [List.append_assoc,show ia+1+k=ia+(k+1) by omega] at this
  exact this
theorem MI.runB (O:MO R A B) (ha:ia < A.length):∀ (k:Nat) {out:List α} {ib:Nat},MI R A B out ia ib→ib+k≤B.length→(∀ i (h:ib+i < B.length),i < k→R B[ib+i] A[ia]=true)→MI R A B (out++(B.drop ib).take k) ia (ib+k)
 | 0,out,ib,I,_,_=> by simpa using I
 | k+1,out,ib,I,hk,h=> by
  have hi:ib < B.length:=by omega
  have I':=I.pushB O hi (dB O.tr O.sA ha (h 0 (by omega) (by omega)))
  have:=MI.runB O ha k I' (by omega) (fun i hi' hik=> by
   have:=h (i+1) (by omega) (by omega)
   have e:B[ib+1+i]=B[ib+(i+1)]'(by omega):=by congr 1; omega
   rw [e]; exact this)
  rw [List.drop_eq_getElem_cons hi,List.take_succ_cons]
  rw [List.append_assoc,show ib+1+k=ib+(k+1) by omega] at this
  exact this
def Mgd (R:α→α→Bool) (A B r:List α):Prop:=r.Perm (A++B)∧r.Pairwise fun x y=> R x y=true
theorem MI.perm_all (I:MI R A B out ia ib):(out++A.drop ia++B.drop ib).Perm (A++B):=by
 have h:(out++A.drop ia++B.drop ib).Perm ((A.take ia++B.take ib)++A.drop ia++B.drop ib):=(I.perm.append_right _).append_right _
 refine h.trans ?_
 have e:A++B=(A.take ia++A.drop ia)++(B.take ib++B.drop ib):=by rw [List.take_append_drop,List.take_append_drop]
 rw [e,List.append_assoc,List.append_assoc,List.append_assoc]
 refine List.Perm.append_left _ ?_
 rw [← List.append_assoc,← List.append_assoc]
 exact List.Perm.append_right _ List.perm_append_comm
theorem MI.doneB (O:MO R A B) (I:MI R A B out ia ib) (h:ib=B.length):Mgd R A B (out++A.drop ia++B.drop ib):=by
 refine ⟨I.perm_all,?_⟩
 rw [h,List.drop_length,List.append_nil]
 exact List.pairwise_append.mpr ⟨I.srt,O.sA.sublist (List.drop_sublist _ _),I.lA⟩
theorem MI.doneA (O:MO R A B) (I:MI R A B out ia ib) (h:ia=A.length):Mgd R A B (out++A.drop ia++B.drop ib):=by
 refine ⟨I.perm_all,?_⟩
 rw [h,List.drop_length,List.append_nil]
 exact List.pairwise_append.mpr ⟨I.srt,O.sB.sublist (List.drop_sublist _ _),I.lB⟩
theorem MI.last (O:MO R A B) (I:MI R A B out ia ib) (h:ia+1=A.length) (hl:∀ y∈B,R y (A[ia]'(by omega))=true):Mgd R A B (out++B.drop ib++A.drop ia):=by
 refine ⟨?_,?_⟩
 ·refine List.Perm.trans ?_ I.perm_all
  rw [List.append_assoc,List.append_assoc]
  exact List.Perm.append_left _ List.perm_append_comm
 ·have e:A.drop ia=[A[ia]'(by omega)]:=by rw [List.drop_eq_getElem_cons (by omega),List.drop_of_length_le (by omega)]
  rw [e]
  refine List.pairwise_append.mpr ⟨List.pairwise_append.mpr ⟨I.srt,O.sB.sublist (List.drop_sublist _ _),I.lB⟩,by simp,fun x hx y hy=> ?_⟩
  rw [List.mem_singleton.mp hy]
  rcases List.mem_append.mp hx with z | z
  ·exact I.lA x z _ (by rw [e]; simp)
  ·exact hl x (List.mem_of_mem_drop z)
end
section
variable {M:Model} {A:Around} {E:Value→Shared→Prop} {s:Shared} {σ:Type}
theorem oh {β:Type} {n:Nat} {f:Nat→β→StateT σ Sem (ForInStep β)} (I:Nat→β→σ→Prop) {Q:β→σ→Prop}
  (hstep:∀ i c st,i < n→I i c st→∀ post:ForInStep β→σ→Prop,(∀ c st',Q c st'→post (.done c) st')→(∀ c st',I (i+1) c st'→post (.yield c) st')→wpS M A E s (f i c) post st)
  (hend:∀ c st,I n c st→Q c st) {c:β} {st:σ} (h:I 0 c st):wpS M A E s (forIn [0:n] c f) Q st:=
 wpS_forRange I (fun i c st _ hi hI=> hstep i c st hi hI _ (fun _ _ h=> h) (fun _ _ h=> h)) (fun c st h=> hend c st (by rwa [Nat.zero_max] at h)) h
theorem hv {α β:Type} {v:β} {f:β→StateT σ Sem α} {Q:α→σ→Prop} {st:σ} (h:wpS M A E s (f v) Q st):wpS M A E s (have x:=v; f x) Q st:=h
end
section
variable {prog:Program} {w:World} {A:Around} {E:Value→Shared→Prop} {s:Shared}
theorem ru {x:String} {Q:Unit→SortSt→Prop} {st:SortSt} (h:Q () st):wpS (model prog w) A E s (liftM (rule x)) Q st:=wpS_lift (wpAny_rule ⟨rfl,h⟩)
def Asks (prog:Program) (w:World) (A:Around) (E:Value→Shared→Prop) (s:Shared) (κ:SortKind) (P:Keyed→Prop) (R:Keyed→Keyed→Bool):Prop:=
 ∀ x y st (Q:Option Bool→SortSt→Prop),P x→P y→kindOf st=κ→Q (some (R x y)) st→wpS (model prog w) A E s (lt' x y) Q st
theorem nj {n:Nat} (q:Nat→Bool) (mono:∀ i j,i < j→j < n→q j=true→q i=true):∃ k,k≤n∧(∀ i,i < k→q i=true)∧∀ i,k≤i→i < n→q i=false:=by
 have go:∀ m,m≤n→(∀ i,m≤i→i < n→q i=false)→∃ k,k≤n∧(∀ i,i < k→q i=true)∧∀ i,k≤i→i < n→q i=false:=by
  intro m
  induction m with
  | zero=> intro _ hm; exact ⟨0,Nat.zero_le _,fun i h=> by omega,hm⟩
  | succ m ih=>
   intro hmn hm
   by_cases hr:q m=true
   ·refine ⟨m+1,hmn,fun i him=> ?_,hm⟩
    rcases Nat.lt_or_eq_of_le (Nat.le_of_lt_succ him) with z | z
    ·exact mono i m z (by omega) hr
    ·subst z; exact hr
   ·refine ih (by omega) fun i him hi=> ?_
    rcases Nat.lt_or_eq_of_le him with z | z
    ·exact hm i z hi
    ·subst z; simpa using hr
 exact go n (Nat.le_refl _) fun i h1 h2=> by omega
variable {κ:SortKind} {P:Keyed→Prop} {R:Keyed→Keyed→Bool} (K:Asks prog w A E s κ P R)
include K
theorem jU {key:Keyed} {b:Array Keyed} {ib n hint:Nat} {st:SortSt} {Q:Option Nat→SortSt→Prop} (hk:kindOf st=κ) (hn:ib+n≤b.size) (hh:hint < n) (pk:P key) (pb:∀ i,i < n→P (gt b (ib+i))) (tr:∀ x y z,R x y=true→R y z=true→R x z=true) (sb:∀ i j,i < j→j < n→R (gt b (ib+i)) (gt b (ib+j))=true)
  (h:∀ k,k≤n→(∀ i,i < k→R (gt b (ib+i)) key=true)→(∀ i,k≤i→i < n→R (gt b (ib+i)) key=false)→Q (some k) st):wpS (model prog w) A E s (jz true key b ib n hint) Q st:=by
 obtain ⟨k,kn,k1,k2⟩:=nj (n:=n) (fun i=> R (gt b (ib+i)) key) fun i j h1 h2 hj=> tr _ _ _ (sb i j h1 h2) hj
 refine gal (f:=fun i=> R (gt b (ib+i)) key) (p:=k) hh (fun i hi=> by omega) (fun _ i Q' hi hq=> K _ _ _ _ (pb i hi) pk hk hq) (fun z=> by cases z) kn (fun i hi=> ?_) (h k kn k1 k2)
 ·constructor
  ·intro hr
   rcases Nat.lt_or_ge i k with z | z
   ·exact z
   ·rw [k2 i z hi] at hr; cases hr
  ·intro z; exact k1 i z
theorem rq {key:Keyed} {b:Array Keyed} {ib n hint:Nat} {st:SortSt} {Q:Option Nat→SortSt→Prop} (hk:kindOf st=κ) (hn:ib+n≤b.size) (hh:hint < n) (pk:P key) (pb:∀ i,i < n→P (gt b (ib+i))) (tr:∀ x y z,R x y=true→R y z=true→R x z=true) (sb:∀ i j,i < j→j < n→R (gt b (ib+i)) (gt b (ib+j))=true)
  (h:∀ k,k≤n→(∀ i,i < k→R key (gt b (ib+i))=false)→(∀ i,k≤i→i < n→R key (gt b (ib+i))=true)→Q (some k) st):wpS (model prog w) A E s (jz false key b ib n hint) Q st:=by
 obtain ⟨k,kn,k1,k2⟩:=nj (n:=n) (fun i=> !R key (gt b (ib+i))) fun i j h1 h2 hj=> by
  rw [Bool.not_eq_true'] at hj ⊢
  cases hc:R key (gt b (ib+i)) with
  | false=> rfl
  | true=> rw [tr _ _ _ hc (sb i j h1 h2)] at hj; cases hj
 refine gal (f:=fun i=> !R key (gt b (ib+i))) (p:=k) hh (fun i hi=> by omega) (fun z=> by cases z) (fun _ i Q' hi hq=> K _ _ _ _ pk (pb i hi) hk (by simpa using hq)) kn (fun i hi=> ?_) (h k kn (fun i hi=> by simpa using k1 i hi) fun i h1 h2=> by simpa using k2 i h1 h2)
 ·constructor
  ·intro hr
   rcases Nat.lt_or_ge i k with z | z
   ·exact z
   ·have:=k2 i z hi
    rw [this] at hr; cases hr
  ·intro z; exact k1 i z
omit K in
theorem fX (a:Array Keyed) (i:Nat):(a.extract i a.size).toList=a.toList.drop i:=by simp [List.take_of_length_le]
omit K in
theorem eR (a:Array Keyed) (i k:Nat):(a.extract i (i+k)).toList=(a.toList.drop i).take k:=by simp
omit K in
theorem sg {g:Nat} {st:SortSt} {Q:Unit→SortSt→Prop} (h:Q () (ff st g)):wpS (model prog w) A E s (iO g) Q st:=wpS_modify h
set_option maxHeartbeats 4000000 in
theorem mlo {a b:Array Keyed} {st:SortSt} {Q:Array Keyed→SortSt→Prop} (O:MO R a.toList b.toList) (pa:∀ x∈a.toList,P x) (pb:∀ x∈b.toList,P x) (ha:0 < a.size) (hb:0 < b.size) (h0:R (gt b 0) (gt a 0)=true) (hl:∀ y∈b.toList,R y (gt a (a.size - 1))=true) (hk:kindOf st=κ)
  (h:∀ r g,Mgd R a.toList b.toList r.toList→Q r (ff st g)):wpS (model prog w) A E s (p6 a b) Q st:=by
 have la:a.toList.length=a.size:=by simp
 have lb:b.toList.length=b.size:=by simp
 have dn:∀ {out:Array Keyed} {ia ib:Nat},MI R a.toList b.toList out.toList ia ib→ib=b.size→Mgd R a.toList b.toList (out++a.extract ia a.size++b.extract ib b.size).toList:=fun {out ia ib} I e=> by
  rw [Array.toList_append,Array.toList_append,fX,fX]
  exact I.doneB O (by omega)
 have ls:∀ {out:Array Keyed} {ia ib:Nat},MI R a.toList b.toList out.toList ia ib→ia+1=a.size→Mgd R a.toList b.toList (out++b.extract ib b.size++a.extract ia a.size).toList:=fun {out ia ib} I e=> by
  rw [Array.toList_append,Array.toList_append,fX,fX]
  refine I.last O (by omega) fun y hy=> ?_
  have:=hl y hy
  rw [show a.size - 1=ia by omega,gt_eq (by omega)] at this
  exact this
 have pA:∀ {out:Array Keyed} {ia ib:Nat},MI R a.toList b.toList out.toList ia ib→ia < a.size→ib < b.size→R (gt b ib) (gt a ia)=false→MI R a.toList b.toList (out.push (gt a ia)).toList (ia+1) ib:=fun {out ia ib} I h1 h2 hr=> by
  rw [Array.toList_push,gt_eq (show ia < a.toList.length by omega)]
  refine I.pushA O (by omega) (dB O.tr O.sB (show ib < b.toList.length by omega) ?_)
  rw [gt_eq (show ib < b.toList.length by omega),gt_eq (show ia < a.toList.length by omega)] at hr
  exact O.tot _ (List.getElem_mem _) _ (List.getElem_mem _) hr
 have pB:∀ {out:Array Keyed} {ia ib:Nat},MI R a.toList b.toList out.toList ia ib→ia < a.size→ib < b.size→R (gt b ib) (gt a ia)=true→MI R a.toList b.toList (out.push (gt b ib)).toList ia (ib+1):=fun {out ia ib} I h1 h2 hr=> by
  rw [Array.toList_push,gt_eq (show ib < b.toList.length by omega)]
  refine I.pushB O (by omega) (dB O.tr O.sA (show ia < a.toList.length by omega) ?_)
  rw [gt_eq (show ib < b.toList.length by omega),gt_eq (show ia < a.toList.length by omega)] at hr
  exact hr
 have sa:∀ {ia n:Nat},ia+n≤a.size→∀ i j,i < j→j < n→R (gt a (ia+i)) (gt a (ia+j))=true:=fun {ia n} hn i j h1 h2=> by
  rw [gt_eq (show ia+i < a.toList.length by omega),gt_eq (show ia+j < a.toList.length by omega)]
  exact List.pairwise_iff_getElem.mp O.sA _ _ _ _ (by omega)
 have sb:∀ {ib n:Nat},ib+n≤b.size→∀ i j,i < j→j < n→R (gt b (ib+i)) (gt b (ib+j))=true:=fun {ib n} hn i j h1 h2=> by
  rw [gt_eq (show ib+i < b.toList.length by omega),gt_eq (show ib+j < b.toList.length by omega)]
  exact List.pairwise_iff_getElem.mp O.sB _ _ _ _ (by omega)
 have dA:∀ {out:Array Keyed} {ia ib:Nat},MI R a.toList b.toList out.toList ia ib→ia=a.size→Mgd R a.toList b.toList (out++a.extract ia a.size++b.extract ib b.size).toList:=fun {out ia ib} I e=> by
  rw [Array.toList_append,Array.toList_append,fX,fX]
  exact I.doneA O (by omega)
 have rA:∀ {out:Array Keyed} {ia ib k:Nat},MI R a.toList b.toList out.toList ia ib→ib < b.size→ia+k≤a.size→(∀ i,i < k→R (gt b ib) (gt a (ia+i))=false)→MI R a.toList b.toList (out++a.extract ia (ia+k)).toList (ia+k) ib:=fun {out ia ib k} I h2 h1 hr=> by
  rw [Array.toList_append,eR]
  refine I.runA O (show ib < b.toList.length by omega) k (by omega) fun i h hi=> ?_
  have:=hr i hi
  rw [gt_eq (show ib < b.toList.length by omega),gt_eq h] at this
  exact O.tot _ (List.getElem_mem _) _ (List.getElem_mem _) this
 have rB:∀ {out:Array Keyed} {ia ib k:Nat},MI R a.toList b.toList out.toList ia ib→ia < a.size→ib+k≤b.size→(∀ i,i < k→R (gt b (ib+i)) (gt a ia)=true)→MI R a.toList b.toList (out++b.extract ib (ib+k)).toList ia (ib+k):=fun {out ia ib k} I h2 h1 hr=> by
  rw [Array.toList_append,eR]
  refine I.runB O (show ia < a.toList.length by omega) k (by omega) fun i h hi=> ?_
  have:=hr i hi
  rw [gt_eq (show ia < a.toList.length by omega),gt_eq h] at this
  exact this
 have start:MI R a.toList b.toList (#[gt b 0]:Array Keyed).toList 0 1:=by
  have e:(#[gt b 0]:Array Keyed)=(#[]:Array Keyed).push (gt b 0):=rfl
  rw [e]
  exact pB ⟨by simp,by simp,by simp,by simp⟩ ha hb h0
 refine wpS_bind (ru ?_)
 refine wpS_bind (el hb ?_)
 refine hv (hv (hv ?_))
 by_cases e1:(1==b.size)=true
 ·rw [if_pos e1]
  exact wpS_pure (h _ (gallopOf st) (dn start (by simpa using e1)))
 rw [if_neg e1]
 have e1':1 < b.size:=by have:¬ 1=b.size:=by simpa using e1
                         omega
 by_cases e2:(0+1==a.size)=true
 ·rw [if_pos e2]
  exact wpS_pure (h _ (gallopOf st) (ls start (by simpa using e2)))
 rw [if_neg e2]
 have e2':1 < a.size:=by have:¬ 0+1=a.size:=by simpa using e2
                         omega
 refine wpS_bind (wpS_get ?_)
 refine hv ?_
 refine wpS_bind (wpS_mono (oh (I:=fun x c st'=> ∃ g out ia ib mg,st'=ff st g∧c=(none,out,ia,ib,mg)∧MI R a.toList b.toList out.toList ia ib∧ia+1 < a.size∧ib < b.size∧x+1≤ia+ib) (Q:=fun c st'=> ∃ g r rest,st'=ff st g∧c=(some r,rest)∧Mgd R a.toList b.toList r.toList) ?step ?fin ⟨gallopOf st,_,_,_,_,rfl,rfl,start,e2',e1',Nat.le_refl _⟩) ?post)
 case fin=>
  rintro c st' ⟨g,out,ia,ib,mg,rfl,rfl,I,i1,i2,pr⟩
  exfalso; omega
 case post=>
  rintro c st' ⟨g,r,rest,rfl,rfl,m⟩
  exact wpS_pure (h r g m)
 case step=>
  rintro x c st' hx ⟨g,out,ia,ib,mg,rfl,rfl,I,i1,i2,pr⟩ post pd py
  refine hv (hv (hv (hv (hv (hv (hv (hv (hv ?_))))))))
  refine wpS_bind (wpS_mono (oh (I:=fun x2 c st'=> ∃ out ia ib ac bc,st'=ff st g∧c=(none,out,ia,ib,ac,bc)∧MI R a.toList b.toList out.toList ia ib∧ia+1 < a.size∧ib < b.size∧x+1+x2≤ia+ib) (Q:=fun c st'=> st'=ff st g∧((∃ r rest,c=(some r,rest)∧Mgd R a.toList b.toList r.toList)∨∃ out ia ib ac bc,c=(none,out,ia,ib,ac,bc)∧MI R a.toList b.toList out.toList ia ib∧ia+1 < a.size∧ib < b.size∧x+2≤ia+ib)) ?s2 ?f2 ⟨out,ia,ib,0,0,rfl,rfl,I,i1,i2,pr⟩) ?p2)
  case f2=>
   rintro c st' ⟨out,ia,ib,ac,bc,rfl,rfl,I,j1,j2,pr'⟩
   exfalso; omega
  case s2=>
   rintro y c st' hy ⟨out,ia,ib,ac,bc,rfl,rfl,I,j1,j2,pr'⟩ post2 qd qy
   dsimp only
   have j0:ia < a.size:=by omega
   refine wpS_bind (el j2 ?_)
   refine wpS_bind (el j0 ?_)
   refine wpS_bind (K _ _ _ _ (pb _ (aF j2)) (pa _ (aF j0)) hk ?_)
   dsimp only
   by_cases hw:R (gt b ib) (gt a ia)=true
   ·rw [if_pos hw]
    refine wpS_bind (el j2 ?_)
    have I2:=pB I j0 j2 hw
    by_cases eb:(ib+1==b.size)=true
    ·rw [if_pos eb]
     exact wpS_pure (qd _ _ ⟨rfl,.inl ⟨_,_,rfl,dn I2 (by simpa using eb)⟩⟩)
    ·rw [if_neg eb]
     have eb':ib+1 < b.size:=by have:¬ ib+1=b.size:=by simpa using eb
                                omega
     by_cases hm:bc+1 ≥ mg
     ·rw [if_pos hm]
      exact wpS_pure (qd _ _ ⟨rfl,.inr ⟨_,_,_,_,_,rfl,I2,j1,eb',by omega⟩⟩)
     ·rw [if_neg hm]
      exact wpS_pure (qy _ _ ⟨_,_,_,_,_,rfl,rfl,I2,j1,eb',by omega⟩)
   ·rw [if_neg hw]
    refine wpS_bind (el j0 ?_)
    have I2:=pA I j0 j2 (by simpa using hw)
    by_cases ea:(ia+1+1==a.size)=true
    ·rw [if_pos ea]
     exact wpS_pure (qd _ _ ⟨rfl,.inl ⟨_,_,rfl,ls I2 (by simpa using ea)⟩⟩)
    ·rw [if_neg ea]
     have ea':ia+1+1 < a.size:=by have:¬ ia+1+1=a.size:=by simpa using ea
                                  omega
     by_cases hm:ac+1 ≥ mg
     ·rw [if_pos hm]
      exact wpS_pure (qd _ _ ⟨rfl,.inr ⟨_,_,_,_,_,rfl,I2,ea',j2,by omega⟩⟩)
     ·rw [if_neg hm]
      exact wpS_pure (qy _ _ ⟨_,_,_,_,_,rfl,rfl,I2,ea',j2,by omega⟩)
  case p2=>
   rintro c st' ⟨rfl,⟨r,rest,rfl,m⟩ | ⟨out,ia,ib,ac,bc,rfl,I,i1,i2,pr⟩⟩
   ·exact wpS_pure (pd _ _ ⟨g,r,_,rfl,rfl,m⟩)
   ·refine hv (hv (hv (hv (hv (hv (hv (hv (hv (hv ?_)))))))))
    refine wpS_bind (ru ?_)
    refine hv ?_
    refine wpS_bind (wpS_mono (oh (I:=fun x3 c st'=> ∃ g out ia ib mg ac bc,st'=ff st g∧c=(none,out,ia,ib,mg,ac,bc)∧MI R a.toList b.toList out.toList ia ib∧ia+1 < a.size∧ib < b.size∧x+2+x3≤ia+ib) (Q:=fun c st'=> ∃ g,st'=ff st g∧((∃ r rest,c=(some r,rest)∧Mgd R a.toList b.toList r.toList)∨∃ out ia ib mg ac bc,c=(none,out,ia,ib,mg,ac,bc)∧MI R a.toList b.toList out.toList ia ib∧ia+1 < a.size∧ib < b.size∧x+2≤ia+ib)) ?s3 ?f3 ⟨g,out,ia,ib,_,ac,bc,rfl,rfl,I,i1,i2,pr⟩) ?p3)
    case f3=>
     rintro c st' ⟨g,out,ia,ib,mg,ac,bc,rfl,rfl,I,j1,j2,pr'⟩
     exfalso; omega
    case p3=>
     rintro c st' ⟨g,rfl,⟨r,rest,rfl,m⟩ | ⟨out,ia,ib,mg,ac,bc,rfl,I,i1,i2,pr⟩⟩
     ·exact wpS_pure (pd _ _ ⟨g,r,_,rfl,rfl,m⟩)
     ·refine hv (hv (hv (hv (hv (hv (hv (hv (hv (hv (hv (hv ?_)))))))))))
      refine hv ?_
      refine wpS_bind (sg ?_)
      exact wpS_pure (py _ _ ⟨_,_,_,_,_,rfl,rfl,I,i1,i2,pr⟩)
    case s3=>
     rintro x3 c st' hx3 ⟨g,out,ia,ib,mg,ac,bc,rfl,rfl,I,j1,j2,pr'⟩ post3 qd qy
     dsimp only
     have j0:ia < a.size:=by omega
     by_cases hg:mg > 1
     ·rw [if_pos hg]
      refine wpS_bind (sg ?_)
      refine wpS_bind (el j2 ?_)
      refine wpS_bind (rq K hk (show ia+(a.size - ia)≤a.size by omega) (by omega) (pb _ (aF j2)) (fun i hi=> pa _ (aF (by omega))) O.tr (sa (by omega)) fun k kn k1 k2=> ?_)
      try dsimp only
      by_cases hk0:k > 0
      ·rw [if_pos hk0]
       have I2:=rA I j2 (show ia+k≤a.size by omega) k1
       by_cases ec:(ia+k+1==a.size)=true
       ·rw [if_pos ec]
        exact wpS_pure (qd _ _ ⟨_,rfl,.inl ⟨_,_,rfl,ls I2 (by simpa using ec)⟩⟩)
       rw [if_neg ec]
       by_cases ed:(ia+k==a.size)=true
       ·rw [if_pos ed]
        exact wpS_pure (qd _ _ ⟨_,rfl,.inl ⟨_,_,rfl,dA I2 (by simpa using ed)⟩⟩)
       rw [if_neg ed]
       have ec':ia+k+1 < a.size:=by have h1:¬ ia+k+1=a.size:=(by simpa using ec); have h2:¬ ia+k=a.size:=(by simpa using ed); omega
       have ia0:ia+k < a.size:=by omega
       refine wpS_bind (el j2 ?_)
       have I3:=pB I2 ia0 j2 (k2 k (Nat.le_refl _) (by omega))
       try dsimp only
       by_cases eb:(ib+1==b.size)=true
       ·rw [if_pos eb]
        exact wpS_pure (qd _ _ ⟨_,rfl,.inl ⟨_,_,rfl,dn I3 (by simpa using eb)⟩⟩)
       rw [if_neg eb]
       have eb':ib+1 < b.size:=by have h1:¬ ib+1=b.size:=(by simpa using eb); omega
       refine wpS_bind (el ia0 ?_)
       refine wpS_bind (jU K hk (show ib+1+(b.size - (ib+1))≤b.size by omega) (by omega) (pa _ (aF ia0)) (fun i hi=> pb _ (aF (by omega))) O.tr (sb (by omega)) fun l ln l1 l2=> ?_)
       try dsimp only
       by_cases hl0:l > 0
       ·rw [if_pos hl0]
        have I4:=rB I3 ia0 (show ib+1+l≤b.size by omega) l1
        by_cases ec:(ib+1+l==b.size)=true
        ·rw [if_pos ec]
         exact wpS_pure (qd _ _ ⟨_,rfl,.inl ⟨_,_,rfl,dn I4 (by simpa using ec)⟩⟩)
        rw [if_neg ec]
        have ec':ib+1+l < b.size:=by have h1:¬ ib+1+l=b.size:=(by simpa using ec); omega
        refine wpS_bind (el ia0 ?_)
        have I6:=pA I4 ia0 ec' (l2 l (Nat.le_refl _) (by omega))
        try dsimp only
        by_cases ea:(ia+k+1+1==a.size)=true
        ·rw [if_pos ea]
         exact wpS_pure (qd _ _ ⟨_,rfl,.inl ⟨_,_,rfl,ls I6 (by simpa using ea)⟩⟩)
        rw [if_neg ea]
        have ea':ia+k+1+1 < a.size:=by have h1:¬ ia+k+1+1=a.size:=(by simpa using ea); omega
        split
        ·exact wpS_pure (qd _ _ ⟨_,rfl,.inr ⟨_,_,_,_,_,_,rfl,I6,ea',ec',by omega⟩⟩)
        ·exact wpS_pure (qy _ _ ⟨_,_,_,_,_,_,_,rfl,rfl,I6,ea',ec',by omega⟩)
       ·rw [if_neg hl0]
        refine wpS_bind (el ia0 ?_)
        have I6:=pA I3 ia0 eb' (l2 0 (by omega) (by omega))
        try dsimp only
        by_cases ea:(ia+k+1+1==a.size)=true
        ·rw [if_pos ea]
         exact wpS_pure (qd _ _ ⟨_,rfl,.inl ⟨_,_,rfl,ls I6 (by simpa using ea)⟩⟩)
        rw [if_neg ea]
        have ea':ia+k+1+1 < a.size:=by have h1:¬ ia+k+1+1=a.size:=(by simpa using ea); omega
        split
        ·exact wpS_pure (qd _ _ ⟨_,rfl,.inr ⟨_,_,_,_,_,_,rfl,I6,ea',eb',by omega⟩⟩)
        ·exact wpS_pure (qy _ _ ⟨_,_,_,_,_,_,_,rfl,rfl,I6,ea',eb',by omega⟩)
      ·rw [if_neg hk0]
       have ia0:ia < a.size:=by omega
       refine wpS_bind (el j2 ?_)
       have I3:=pB I ia0 j2 (k2 0 (by omega) (by omega))
       try dsimp only
       by_cases eb:(ib+1==b.size)=true
       ·rw [if_pos eb]
        exact wpS_pure (qd _ _ ⟨_,rfl,.inl ⟨_,_,rfl,dn I3 (by simpa using eb)⟩⟩)
       rw [if_neg eb]
       have eb':ib+1 < b.size:=by have h1:¬ ib+1=b.size:=(by simpa using eb); omega
       refine wpS_bind (el ia0 ?_)
       refine wpS_bind (jU K hk (show ib+1+(b.size - (ib+1))≤b.size by omega) (by omega) (pa _ (aF ia0)) (fun i hi=> pb _ (aF (by omega))) O.tr (sb (by omega)) fun l ln l1 l2=> ?_)
       try dsimp only
       by_cases hl0:l > 0
       ·rw [if_pos hl0]
        have I4:=rB I3 ia0 (show ib+1+l≤b.size by omega) l1
        by_cases ec:(ib+1+l==b.size)=true
        ·rw [if_pos ec]
         exact wpS_pure (qd _ _ ⟨_,rfl,.inl ⟨_,_,rfl,dn I4 (by simpa using ec)⟩⟩)
        rw [if_neg ec]
        have ec':ib+1+l < b.size:=by have h1:¬ ib+1+l=b.size:=(by simpa using ec); omega
        refine wpS_bind (el ia0 ?_)
        have I6:=pA I4 ia0 ec' (l2 l (Nat.le_refl _) (by omega))
        try dsimp only
        by_cases ea:(ia+1+1==a.size)=true
        ·rw [if_pos ea]
         exact wpS_pure (qd _ _ ⟨_,rfl,.inl ⟨_,_,rfl,ls I6 (by simpa using ea)⟩⟩)
        rw [if_neg ea]
        have ea':ia+1+1 < a.size:=by have h1:¬ ia+1+1=a.size:=(by simpa using ea); omega
        split
        ·exact wpS_pure (qd _ _ ⟨_,rfl,.inr ⟨_,_,_,_,_,_,rfl,I6,ea',ec',by omega⟩⟩)
        ·exact wpS_pure (qy _ _ ⟨_,_,_,_,_,_,_,rfl,rfl,I6,ea',ec',by omega⟩)
       ·rw [if_neg hl0]
        refine wpS_bind (el ia0 ?_)
        have I6:=pA I3 ia0 eb' (l2 0 (by omega) (by omega))
        try dsimp only
        by_cases ea:(ia+1+1==a.size)=true
        ·rw [if_pos ea]
         exact wpS_pure (qd _ _ ⟨_,rfl,.inl ⟨_,_,rfl,ls I6 (by simpa using ea)⟩⟩)
        rw [if_neg ea]
        have ea':ia+1+1 < a.size:=by have h1:¬ ia+1+1=a.size:=(by simpa using ea); omega
        split
        ·exact wpS_pure (qd _ _ ⟨_,rfl,.inr ⟨_,_,_,_,_,_,rfl,I6,ea',eb',by omega⟩⟩)
        ·exact wpS_pure (qy _ _ ⟨_,_,_,_,_,_,_,rfl,rfl,I6,ea',eb',by omega⟩)
     ·rw [if_neg hg]
      refine wpS_bind (sg ?_)
      refine wpS_bind (el j2 ?_)
      refine wpS_bind (rq K hk (show ia+(a.size - ia)≤a.size by omega) (by omega) (pb _ (aF j2)) (fun i hi=> pa _ (aF (by omega))) O.tr (sa (by omega)) fun k kn k1 k2=> ?_)
      try dsimp only
      by_cases hk0:k > 0
      ·rw [if_pos hk0]
       have I2:=rA I j2 (show ia+k≤a.size by omega) k1
       by_cases ec:(ia+k+1==a.size)=true
       ·rw [if_pos ec]
        exact wpS_pure (qd _ _ ⟨_,rfl,.inl ⟨_,_,rfl,ls I2 (by simpa using ec)⟩⟩)
       rw [if_neg ec]
       by_cases ed:(ia+k==a.size)=true
       ·rw [if_pos ed]
        exact wpS_pure (qd _ _ ⟨_,rfl,.inl ⟨_,_,rfl,dA I2 (by simpa using ed)⟩⟩)
       rw [if_neg ed]
       have ec':ia+k+1 < a.size:=by have h1:¬ ia+k+1=a.size:=(by simpa using ec); have h2:¬ ia+k=a.size:=(by simpa using ed); omega
       have ia0:ia+k < a.size:=by omega
       refine wpS_bind (el j2 ?_)
       have I3:=pB I2 ia0 j2 (k2 k (Nat.le_refl _) (by omega))
       try dsimp only
       by_cases eb:(ib+1==b.size)=true
       ·rw [if_pos eb]
        exact wpS_pure (qd _ _ ⟨_,rfl,.inl ⟨_,_,rfl,dn I3 (by simpa using eb)⟩⟩)
       rw [if_neg eb]
       have eb':ib+1 < b.size:=by have h1:¬ ib+1=b.size:=(by simpa using eb); omega
       refine wpS_bind (el ia0 ?_)
       refine wpS_bind (jU K hk (show ib+1+(b.size - (ib+1))≤b.size by omega) (by omega) (pa _ (aF ia0)) (fun i hi=> pb _ (aF (by omega))) O.tr (sb (by omega)) fun l ln l1 l2=> ?_)
       try dsimp only
       by_cases hl0:l > 0
       ·rw [if_pos hl0]
        have I4:=rB I3 ia0 (show ib+1+l≤b.size by omega) l1
        by_cases ec:(ib+1+l==b.size)=true
        ·rw [if_pos ec]
         exact wpS_pure (qd _ _ ⟨_,rfl,.inl ⟨_,_,rfl,dn I4 (by simpa using ec)⟩⟩)
        rw [if_neg ec]
        have ec':ib+1+l < b.size:=by have h1:¬ ib+1+l=b.size:=(by simpa using ec); omega
        refine wpS_bind (el ia0 ?_)
        have I6:=pA I4 ia0 ec' (l2 l (Nat.le_refl _) (by omega))
        try dsimp only
        by_cases ea:(ia+k+1+1==a.size)=true
        ·rw [if_pos ea]
         exact wpS_pure (qd _ _ ⟨_,rfl,.inl ⟨_,_,rfl,ls I6 (by simpa using ea)⟩⟩)
        rw [if_neg ea]
        have ea':ia+k+1+1 < a.size:=by have h1:¬ ia+k+1+1=a.size:=(by simpa using ea); omega
        split
        ·exact wpS_pure (qd _ _ ⟨_,rfl,.inr ⟨_,_,_,_,_,_,rfl,I6,ea',ec',by omega⟩⟩)
        ·exact wpS_pure (qy _ _ ⟨_,_,_,_,_,_,_,rfl,rfl,I6,ea',ec',by omega⟩)
       ·rw [if_neg hl0]
        refine wpS_bind (el ia0 ?_)
        have I6:=pA I3 ia0 eb' (l2 0 (by omega) (by omega))
        try dsimp only
        by_cases ea:(ia+k+1+1==a.size)=true
        ·rw [if_pos ea]
         exact wpS_pure (qd _ _ ⟨_,rfl,.inl ⟨_,_,rfl,ls I6 (by simpa using ea)⟩⟩)
        rw [if_neg ea]
        have ea':ia+k+1+1 < a.size:=by have h1:¬ ia+k+1+1=a.size:=(by simpa using ea); omega
        split
        ·exact wpS_pure (qd _ _ ⟨_,rfl,.inr ⟨_,_,_,_,_,_,rfl,I6,ea',eb',by omega⟩⟩)
        ·exact wpS_pure (qy _ _ ⟨_,_,_,_,_,_,_,rfl,rfl,I6,ea',eb',by omega⟩)
      ·rw [if_neg hk0]
       have ia0:ia < a.size:=by omega
       refine wpS_bind (el j2 ?_)
       have I3:=pB I ia0 j2 (k2 0 (by omega) (by omega))
       try dsimp only
       by_cases eb:(ib+1==b.size)=true
       ·rw [if_pos eb]
        exact wpS_pure (qd _ _ ⟨_,rfl,.inl ⟨_,_,rfl,dn I3 (by simpa using eb)⟩⟩)
       rw [if_neg eb]
       have eb':ib+1 < b.size:=by have h1:¬ ib+1=b.size:=(by simpa using eb); omega
       refine wpS_bind (el ia0 ?_)
       refine wpS_bind (jU K hk (show ib+1+(b.size - (ib+1))≤b.size by omega) (by omega) (pa _ (aF ia0)) (fun i hi=> pb _ (aF (by omega))) O.tr (sb (by omega)) fun l ln l1 l2=> ?_)
       try dsimp only
       by_cases hl0:l > 0
       ·rw [if_pos hl0]
        have I4:=rB I3 ia0 (show ib+1+l≤b.size by omega) l1
        by_cases ec:(ib+1+l==b.size)=true
        ·rw [if_pos ec]
         exact wpS_pure (qd _ _ ⟨_,rfl,.inl ⟨_,_,rfl,dn I4 (by simpa using ec)⟩⟩)
        rw [if_neg ec]
        have ec':ib+1+l < b.size:=by have h1:¬ ib+1+l=b.size:=(by simpa using ec); omega
        refine wpS_bind (el ia0 ?_)
        have I6:=pA I4 ia0 ec' (l2 l (Nat.le_refl _) (by omega))
        try dsimp only
        by_cases ea:(ia+1+1==a.size)=true
        ·rw [if_pos ea]
         exact wpS_pure (qd _ _ ⟨_,rfl,.inl ⟨_,_,rfl,ls I6 (by simpa using ea)⟩⟩)
        rw [if_neg ea]
        have ea':ia+1+1 < a.size:=by have h1:¬ ia+1+1=a.size:=(by simpa using ea); omega
        split
        ·exact wpS_pure (qd _ _ ⟨_,rfl,.inr ⟨_,_,_,_,_,_,rfl,I6,ea',ec',by omega⟩⟩)
        ·exact wpS_pure (qy _ _ ⟨_,_,_,_,_,_,_,rfl,rfl,I6,ea',ec',by omega⟩)
       ·rw [if_neg hl0]
        refine wpS_bind (el ia0 ?_)
        have I6:=pA I3 ia0 eb' (l2 0 (by omega) (by omega))
        try dsimp only
        by_cases ea:(ia+1+1==a.size)=true
        ·rw [if_pos ea]
         exact wpS_pure (qd _ _ ⟨_,rfl,.inl ⟨_,_,rfl,ls I6 (by simpa using ea)⟩⟩)
        rw [if_neg ea]
        have ea':ia+1+1 < a.size:=by have h1:¬ ia+1+1=a.size:=(by simpa using ea); omega
        split
        ·exact wpS_pure (qd _ _ ⟨_,rfl,.inr ⟨_,_,_,_,_,_,rfl,I6,ea',eb',by omega⟩⟩)
        ·exact wpS_pure (qy _ _ ⟨_,_,_,_,_,_,_,rfl,rfl,I6,ea',eb',by omega⟩)
end
section
variable {α:Type} {R:α→α→Bool} {A B:List α}
theorem mU (L:List α) (i k:Nat) (h:i+k≤L.length):((L.drop i).take k).reverse=(L.reverse.drop (L.length - i - k)).take k:=by
 apply List.ext_getElem
 ·simp; omega
 ·intro n h1 h2
  simp only [List.length_reverse,List.length_take,List.length_drop] at h1 h2
  simp only [List.getElem_reverse,List.getElem_take,List.getElem_drop,List.length_take,List.length_drop]
  congr 1
  omega
theorem qX (L:List α) (n:Nat) (h:n≤L.length):L.reverse.drop (L.length - n)=(L.take n).reverse:=by
 rw [List.drop_reverse,Nat.sub_sub_self h]
theorem MO.rev (O:MO R A B):MO (fun x y=> R y x) B.reverse A.reverse where
 tr:=fun _ _ _ h1 h2=> O.tr _ _ _ h2 h1
 sA:=List.pairwise_reverse.mpr O.sB
 sB:=List.pairwise_reverse.mpr O.sA
 tot:=fun x hx y hy h=> O.tot y (List.mem_reverse.mp hy) x (List.mem_reverse.mp hx) h
theorem Mgd.rev {r:List α} (m:Mgd (fun x y=> R y x) B.reverse A.reverse r):Mgd R A B r.reverse:=
 ⟨(List.reverse_perm r).trans (m.1.trans ((List.perm_append_comm).trans ((List.reverse_perm A).append (List.reverse_perm B)))),List.pairwise_reverse.mpr m.2⟩
end
section
variable {prog:Program} {w:World} {A:Around} {E:Value→Shared→Prop} {s:Shared} {κ:SortKind} {P:Keyed→Prop} {R:Keyed→Keyed→Bool} (K:Asks prog w A E s κ P R)
theorem dH {a:Array Keyed} {n i:Nat} (hn:n≤a.size) (hi:i < n) (h:a.size - n+i < a.toList.reverse.length):a.toList.reverse[a.size - n+i]=gt a (n - 1 - i):=by
 rw [List.getElem_reverse,gt_eq (by simp; omega)]
 congr 1
 simp
 omega
def pX:Array Keyed→Array Keyed→StateT SortSt Sem (Array Keyed):=sortPriv% PySem.Builtin.mergeHi
include K
set_option maxHeartbeats 4000000 in
theorem mhi {a b:Array Keyed} {st:SortSt} {Q:Array Keyed→SortSt→Prop} (O:MO R a.toList b.toList) (pa:∀ x∈a.toList,P x) (pb:∀ x∈b.toList,P x) (ha:0 < a.size) (hb:0 < b.size) (h0:R (gt b (b.size - 1)) (gt a (a.size - 1))=true) (hl:∀ y∈a.toList,R (gt b 0) y=true) (hk:kindOf st=κ)
  (h:∀ r g,Mgd R a.toList b.toList r.toList→Q r (ff st g)):wpS (model prog w) A E s (pX a b) Q st:=by
 have la:a.toList.reverse.length=a.size:=by simp
 have lb:b.toList.reverse.length=b.size:=by simp
 have O':=O.rev
 have xa:∀ n,n≤a.size→(a.extract 0 n).toList=(a.toList.reverse.drop (a.size - n)).reverse:=fun n hn=> by
  have:=qX a.toList n (by simpa using hn)
  rw [Array.length_toList] at this
  rw [this,List.reverse_reverse]; simp
 have xb:∀ n,n≤b.size→(b.extract 0 n).toList=(b.toList.reverse.drop (b.size - n)).reverse:=fun n hn=> by
  have:=qX b.toList n (by simpa using hn)
  rw [Array.length_toList] at this
  rw [this,List.reverse_reverse]; simp
 have dn:∀ {out:Array Keyed} {na nb:Nat},MI (fun x y=> R y x) b.toList.reverse a.toList.reverse out.toList (b.size - nb) (a.size - na)→nb≤b.size→na=0→Mgd R a.toList b.toList (a.extract 0 na++b.extract 0 nb++out.reverse).toList:=fun {out na nb} I hn e=> by
  have:=(I.doneB O' (by omega)).rev
  rw [List.reverse_append,List.reverse_append,← List.append_assoc,← xa na (by omega),← xb nb hn] at this
  rw [Array.toList_append,Array.toList_append,Array.toList_reverse]
  exact this
 have dA:∀ {out:Array Keyed} {na nb:Nat},MI (fun x y=> R y x) b.toList.reverse a.toList.reverse out.toList (b.size - nb) (a.size - na)→na≤a.size→nb=0→Mgd R a.toList b.toList (a.extract 0 na++b.extract 0 nb++out.reverse).toList:=fun {out na nb} I hn e=> by
  have:=(I.doneA O' (by omega)).rev
  rw [List.reverse_append,List.reverse_append,← List.append_assoc,← xa na hn,← xb nb (by omega)] at this
  rw [Array.toList_append,Array.toList_append,Array.toList_reverse]
  exact this
 have ls:∀ {out:Array Keyed} {na nb:Nat},MI (fun x y=> R y x) b.toList.reverse a.toList.reverse out.toList (b.size - nb) (a.size - na)→na≤a.size→nb=1→Mgd R a.toList b.toList (b.extract 0 nb++a.extract 0 na++out.reverse).toList:=fun {out na nb} I hn e=> by
  have:=(I.last O' (by omega) fun y hy=> by
   have z:=hl y (List.mem_reverse.mp hy)
   have g:=dH (a:=b) (n:=nb) (i:=0) (by omega) (by omega) (by omega)
   simp only [Nat.add_zero] at g
   rw [g,e]
   exact z).rev
  rw [List.reverse_append,List.reverse_append,← List.append_assoc,← xa na hn,← xb nb (by omega)] at this
  rw [Array.toList_append,Array.toList_append,Array.toList_reverse]
  exact this
 have pB:∀ {out:Array Keyed} {na nb:Nat},MI (fun x y=> R y x) b.toList.reverse a.toList.reverse out.toList (b.size - nb) (a.size - na)→0 < na→na≤a.size→0 < nb→nb≤b.size→R (gt b (nb - 1)) (gt a (na - 1))=true→MI (fun x y=> R y x) b.toList.reverse a.toList.reverse (out.push (gt a (na - 1))).toList (b.size - nb) (a.size - (na - 1)):=fun {out na nb} I h1 h2 h3 h4 hr=> by
  have g:=dH (a:=a) (n:=na) (i:=0) h2 h1 (by omega)
  have g2:=dH (a:=b) (n:=nb) (i:=0) h4 h3 (by omega)
  simp only [Nat.add_zero,Nat.sub_zero] at g g2
  rw [Array.toList_push,← g,show a.size - (na - 1)=a.size - na+1 by omega]
  refine I.pushB O' (by omega) (dB O'.tr O'.sA (by omega) ?_)
  rw [g,g2]; exact hr
 have pA:∀ {out:Array Keyed} {na nb:Nat},MI (fun x y=> R y x) b.toList.reverse a.toList.reverse out.toList (b.size - nb) (a.size - na)→0 < na→na≤a.size→0 < nb→nb≤b.size→R (gt b (nb - 1)) (gt a (na - 1))=false→MI (fun x y=> R y x) b.toList.reverse a.toList.reverse (out.push (gt b (nb - 1))).toList (b.size - (nb - 1)) (a.size - na):=fun {out na nb} I h1 h2 h3 h4 hr=> by
  have g:=dH (a:=a) (n:=na) (i:=0) h2 h1 (by omega)
  have g2:=dH (a:=b) (n:=nb) (i:=0) h4 h3 (by omega)
  simp only [Nat.add_zero,Nat.sub_zero] at g g2
  rw [Array.toList_push,← g2,show b.size - (nb - 1)=b.size - nb+1 by omega]
  refine I.pushA O' (by omega) (dB O'.tr O'.sB (by omega) ?_)
  rw [g,g2]
  exact O.tot _ (aF (by omega)) _ (aF (by omega)) hr
 have rB:∀ {out:Array Keyed} {na nb k:Nat},MI (fun x y=> R y x) b.toList.reverse a.toList.reverse out.toList (b.size - nb) (a.size - na)→k≤na→na≤a.size→0 < nb→nb≤b.size→(∀ i,k≤i→i < na→R (gt b (nb - 1)) (gt a i)=true)→MI (fun x y=> R y x) b.toList.reverse a.toList.reverse (out++(a.extract k na).reverse).toList (b.size - nb) (a.size - k):=fun {out na nb k} I h1 h2 h3 h4 hr=> by
  have e:(a.extract k na).reverse.toList=(a.toList.reverse.drop (a.size - na)).take (na - k):=by
   rw [Array.toList_reverse,← show k+(na - k)=na by omega,eR,mU _ _ _ (by rw [Array.length_toList]; omega),Array.length_toList]
   congr 1
   ·omega
   ·congr 1; omega
  rw [Array.toList_append,e,show a.size - k=a.size - na+(na - k) by omega]
  refine I.runB O' (by omega) _ (by omega) fun i h hi=> ?_
  have g2:=dH (a:=b) (n:=nb) (i:=0) h4 h3 (by omega)
  simp only [Nat.add_zero,Nat.sub_zero] at g2
  rw [dH h2 (by omega),g2]
  exact hr _ (by omega) (by omega)
 have rA:∀ {out:Array Keyed} {na nb k:Nat},MI (fun x y=> R y x) b.toList.reverse a.toList.reverse out.toList (b.size - nb) (a.size - na)→k≤nb→nb≤b.size→0 < na→na≤a.size→(∀ i,k≤i→i < nb→R (gt b i) (gt a (na - 1))=false)→MI (fun x y=> R y x) b.toList.reverse a.toList.reverse (out++(b.extract k nb).reverse).toList (b.size - k) (a.size - na):=fun {out na nb k} I h1 h2 h3 h4 hr=> by
  have e:(b.extract k nb).reverse.toList=(b.toList.reverse.drop (b.size - nb)).take (nb - k):=by
   rw [Array.toList_reverse,← show k+(nb - k)=nb by omega,eR,mU _ _ _ (by rw [Array.length_toList]; omega),Array.length_toList]
   congr 1
   ·omega
   ·congr 1; omega
  rw [Array.toList_append,e,show b.size - k=b.size - nb+(nb - k) by omega]
  refine I.runA O' (by omega) _ (by omega) fun i h hi=> ?_
  have g2:=dH (a:=a) (n:=na) (i:=0) h4 h3 (by omega)
  simp only [Nat.add_zero,Nat.sub_zero] at g2
  rw [dH h2 (by omega),g2]
  exact O.tot _ (aF (by omega)) _ (aF (by omega)) (hr _ (by omega) (by omega))
 have sa:∀ {n:Nat},n≤a.size→∀ i j,i < j→j < n→R (gt a (0+i)) (gt a (0+j))=true:=fun {n} hn i j h1 h2=> by
  rw [gt_eq (show 0+i < a.toList.length by rw [Array.length_toList]; omega),gt_eq (show 0+j < a.toList.length by rw [Array.length_toList]; omega)]
  exact List.pairwise_iff_getElem.mp O.sA _ _ _ _ (by omega)
 have sb:∀ {n:Nat},n≤b.size→∀ i j,i < j→j < n→R (gt b (0+i)) (gt b (0+j))=true:=fun {n} hn i j h1 h2=> by
  rw [gt_eq (show 0+i < b.toList.length by rw [Array.length_toList]; omega),gt_eq (show 0+j < b.toList.length by rw [Array.length_toList]; omega)]
  exact List.pairwise_iff_getElem.mp O.sB _ _ _ _ (by omega)
 have start:MI (fun x y=> R y x) b.toList.reverse a.toList.reverse (#[gt a (a.size - 1)]:Array Keyed).toList (b.size - b.size) (a.size - (a.size - 1)):=by
  have e:(#[gt a (a.size - 1)]:Array Keyed)=(#[]:Array Keyed).push (gt a (a.size - 1)):=rfl
  rw [e]
  exact pB ⟨by simp,by simp,by simp,by simp⟩ ha (Nat.le_refl _) hb (Nat.le_refl _) h0
 refine wpS_bind (ru ?_)
 refine wpS_bind (el (show a.size - 1 < a.size by omega) ?_)
 try dsimp only
 by_cases e1:(a.size - 1==0)=true
 ·rw [if_pos e1]
  exact wpS_pure (h _ (gallopOf st) (dn start (Nat.le_refl _) (by simpa using e1)))
 rw [if_neg e1]
 have e1':0 < a.size - 1:=by have h1:¬ a.size - 1=0:=(by simpa using e1); omega
 by_cases e2:(b.size==1)=true
 ·rw [if_pos e2]
  exact wpS_pure (h _ (gallopOf st) (ls start (by omega) (by simpa using e2)))
 rw [if_neg e2]
 have e2':1 < b.size:=by have h1:¬ b.size=1:=(by simpa using e2); omega
 refine wpS_bind (wpS_get ?_)
 try dsimp only
 refine wpS_bind (wpS_mono (oh (I:=fun x c st'=> ∃ g na nb out mg,st'=ff st g∧c=(none,na,nb,out,mg)∧MI (fun x y=> R y x) b.toList.reverse a.toList.reverse (out).toList (b.size - nb) (a.size - na)∧0 < na∧na≤a.size∧1 < nb∧nb≤b.size∧x+1≤(a.size - na)+(b.size - nb)) (Q:=fun c st'=> ∃ g r rest,st'=ff st g∧c=(some r,rest)∧Mgd R a.toList b.toList r.toList) ?step ?fin ⟨gallopOf st,_,_,_,_,rfl,rfl,start,e1',by omega,e2',Nat.le_refl _,by omega⟩) ?post)
 case fin=>
  rintro c st' ⟨g,na,nb,out,mg,rfl,rfl,I,i1,i2,i3,i4,pr⟩
  exfalso; omega
 case post=>
  rintro c st' ⟨g,r,rest,rfl,rfl,m⟩
  exact wpS_pure (h r g m)
 case step=>
  rintro x c st' hx ⟨g,na,nb,out,mg,rfl,rfl,I,i1,i2,i3,i4,pr⟩ post pd py
  refine wpS_bind (wpS_mono (oh (I:=fun x2 c st'=> ∃ na nb out ac bc,st'=ff st g∧c=(none,na,nb,out,ac,bc)∧MI (fun x y=> R y x) b.toList.reverse a.toList.reverse (out).toList (b.size - nb) (a.size - na)∧0 < na∧na≤a.size∧1 < nb∧nb≤b.size∧x+1+x2≤(a.size - na)+(b.size - nb)) (Q:=fun c st'=> st'=ff st g∧((∃ r rest,c=(some r,rest)∧Mgd R a.toList b.toList r.toList)∨∃ na nb out ac bc,c=(none,na,nb,out,ac,bc)∧MI (fun x y=> R y x) b.toList.reverse a.toList.reverse (out).toList (b.size - nb) (a.size - na)∧0 < na∧na≤a.size∧1 < nb∧nb≤b.size∧x+2≤(a.size - na)+(b.size - nb))) ?s2 ?f2 ⟨na,nb,out,0,0,rfl,rfl,I,i1,i2,i3,i4,pr⟩) ?p2)
  case f2=>
   rintro c st' ⟨na,nb,out,ac,bc,rfl,rfl,I,i1,i2,i3,i4,pr⟩
   exfalso; omega
  case s2=>
   rintro y c st' hy ⟨na,nb,out,ac,bc,rfl,rfl,I,i1,i2,i3,i4,pr⟩ post2 qd qy
   try dsimp only
   refine wpS_bind (el (show nb - 1 < b.size by omega) ?_)
   refine wpS_bind (el (show na - 1 < a.size by omega) ?_)
   refine wpS_bind (K _ _ _ _ (pb _ (aF (by omega))) (pa _ (aF (by omega))) hk ?_)
   try dsimp only
   by_cases hw:R (gt b (nb - 1)) (gt a (na - 1))=true
   ·rw [if_pos hw]
    refine wpS_bind (el (show na - 1 < a.size by omega) ?_)
    have I2:=pB I i1 i2 (show 0 < nb by omega) i4 hw
    try dsimp only
    by_cases eb:(na - 1==0)=true
    ·rw [if_pos eb]
     exact wpS_pure (qd _ _ ⟨rfl,.inl ⟨_,_,rfl,dn I2 (by omega) (by simpa using eb)⟩⟩)
    ·rw [if_neg eb]
     have eb':0 < na - 1:=by have h1:¬ na - 1=0:=(by simpa using eb); omega
     by_cases hm:ac+1 ≥ mg
     ·rw [if_pos hm]
      exact wpS_pure (qd _ _ ⟨rfl,.inr ⟨_,_,_,_,_,rfl,I2,eb',by omega,i3,i4,by omega⟩⟩)
     ·rw [if_neg hm]
      exact wpS_pure (qy _ _ ⟨_,_,_,_,_,rfl,rfl,I2,eb',by omega,i3,i4,by omega⟩)
   ·rw [if_neg hw]
    refine wpS_bind (el (show nb - 1 < b.size by omega) ?_)
    have I2:=pA I i1 i2 (show 0 < nb by omega) i4 (by simpa using hw)
    try dsimp only
    by_cases ea:(nb - 1==1)=true
    ·rw [if_pos ea]
     exact wpS_pure (qd _ _ ⟨rfl,.inl ⟨_,_,rfl,ls I2 (by omega) (by simpa using ea)⟩⟩)
    ·rw [if_neg ea]
     have ea':1 < nb - 1:=by have h1:¬ nb - 1=1:=(by simpa using ea); omega
     by_cases hm:bc+1 ≥ mg
     ·rw [if_pos hm]
      exact wpS_pure (qd _ _ ⟨rfl,.inr ⟨_,_,_,_,_,rfl,I2,i1,i2,ea',by omega,by omega⟩⟩)
     ·rw [if_neg hm]
      exact wpS_pure (qy _ _ ⟨_,_,_,_,_,rfl,rfl,I2,i1,i2,ea',by omega,by omega⟩)
  case p2=>
   rintro c st' ⟨rfl,⟨r,rest,rfl,m⟩ | ⟨na,nb,out,ac,bc,rfl,I,i1,i2,i3,i4,pr⟩⟩
   ·exact wpS_pure (pd _ _ ⟨g,r,_,rfl,rfl,m⟩)
   ·refine wpS_bind (ru ?_)
    refine wpS_bind (wpS_mono (oh (I:=fun x3 c st'=> ∃ g na nb out mg ac bc,st'=ff st g∧c=(none,na,nb,out,mg,ac,bc)∧MI (fun x y=> R y x) b.toList.reverse a.toList.reverse (out).toList (b.size - nb) (a.size - na)∧0 < na∧na≤a.size∧1 < nb∧nb≤b.size∧x+2+x3≤(a.size - na)+(b.size - nb)) (Q:=fun c st'=> ∃ g,st'=ff st g∧((∃ r rest,c=(some r,rest)∧Mgd R a.toList b.toList r.toList)∨∃ na nb out mg ac bc,c=(none,na,nb,out,mg,ac,bc)∧MI (fun x y=> R y x) b.toList.reverse a.toList.reverse (out).toList (b.size - nb) (a.size - na)∧0 < na∧na≤a.size∧1 < nb∧nb≤b.size∧x+2≤(a.size - na)+(b.size - nb))) ?s3 ?f3 ⟨g,na,nb,out,_,ac,bc,rfl,rfl,I,i1,i2,i3,i4,pr⟩) ?p3)
    case f3=>
     rintro c st' ⟨g,na,nb,out,mg,ac,bc,rfl,rfl,I,i1,i2,i3,i4,pr⟩
     exfalso; omega
    case p3=>
     rintro c st' ⟨g,rfl,⟨r,rest,rfl,m⟩ | ⟨na,nb,out,mg,ac,bc,rfl,I,i1,i2,i3,i4,pr⟩⟩
     ·exact wpS_pure (pd _ _ ⟨g,r,_,rfl,rfl,m⟩)
     ·refine wpS_bind (sg ?_)
      exact wpS_pure (py _ _ ⟨_,_,_,_,_,rfl,rfl,I,i1,i2,i3,i4,pr⟩)
    case s3=>
     rintro x3 c st' hx3 ⟨g,na,nb,out,mg,ac,bc,rfl,rfl,I,i1,i2,i3,i4,pr⟩ post3 qd qy
     try dsimp only
     by_cases hg:mg > 1
     ·rw [if_pos hg]
      refine wpS_bind (sg ?_)
      refine wpS_bind (el (show nb - 1 < b.size by omega) ?_)
      refine wpS_bind (rq K hk (show 0+na≤a.size by omega) (by omega) (pb _ (aF (by omega))) (fun i hi=> pa _ (aF (by omega))) O.tr (sa (by omega)) fun k kn k1 k2=> ?_)
      simp only [Nat.zero_add] at k1 k2
      try dsimp only
      by_cases hk0:na - k > 0
      ·rw [if_pos hk0]
       have I2:=rB I (show k≤na by omega) i2 (show 0 < nb by omega) i4 k2
       by_cases ec:(k==0)=true
       ·rw [if_pos ec]
        exact wpS_pure (qd _ _ ⟨_,rfl,.inl ⟨_,_,rfl,dn I2 (by omega) (by simpa using ec)⟩⟩)
       rw [if_neg ec]
       have ec':0 < k:=by have h1:¬ k=0:=(by simpa using ec); omega
       have na0:0 < k:=by omega
       have na1:k≤a.size:=by omega
       refine wpS_bind (el (show nb - 1 < b.size by omega) ?_)
       have I3:=pA I2 na0 na1 (show 0 < nb by omega) i4 (k1 (k - 1) (by omega))
       try dsimp only
       by_cases eb:(nb - 1==1)=true
       ·rw [if_pos eb]
        exact wpS_pure (qd _ _ ⟨_,rfl,.inl ⟨_,_,rfl,ls I3 (by omega) (by simpa using eb)⟩⟩)
       rw [if_neg eb]
       have eb':1 < nb - 1:=by have h1:¬ nb - 1=1:=(by simpa using eb); omega
       refine wpS_bind (el (show k - 1 < a.size by omega) ?_)
       refine wpS_bind (jU K hk (show 0+(nb - 1)≤b.size by omega) (by omega) (pa _ (aF (by omega))) (fun i hi=> pb _ (aF (by omega))) O.tr (sb (by omega)) fun l ln l1 l2=> ?_)
       simp only [Nat.zero_add] at l1 l2
       try dsimp only
       by_cases hl0:nb - 1 - l > 0
       ·rw [if_pos hl0]
        have I4:=rA I3 (show l≤nb - 1 by omega) (show nb - 1≤b.size by omega) na0 na1 l2
        by_cases ec:(l==1)=true
        ·rw [if_pos ec]
         exact wpS_pure (qd _ _ ⟨_,rfl,.inl ⟨_,_,rfl,ls I4 (by omega) (by simpa using ec)⟩⟩)
        rw [if_neg ec]
        by_cases ed:(l==0)=true
        ·rw [if_pos ed]
         exact wpS_pure (qd _ _ ⟨_,rfl,.inl ⟨_,_,rfl,dA I4 (by omega) (by simpa using ed)⟩⟩)
        rw [if_neg ed]
        have ec':1 < l:=by have h1:¬ l=1:=(by simpa using ec); have h2:¬ l=0:=(by simpa using ed); omega
        refine wpS_bind (el (show k - 1 < a.size by omega) ?_)
        have I6:=pB I4 na0 na1 (show 0 < l by omega) (show l≤b.size by omega) (l1 (l - 1) (by omega))
        try dsimp only
        by_cases ea:(k - 1==0)=true
        ·rw [if_pos ea]
         exact wpS_pure (qd _ _ ⟨_,rfl,.inl ⟨_,_,rfl,dn I6 (by omega) (by simpa using ea)⟩⟩)
        rw [if_neg ea]
        have ea':0 < k - 1:=by have h1:¬ k - 1=0:=(by simpa using ea); omega
        split
        ·exact wpS_pure (qd _ _ ⟨_,rfl,.inr ⟨_,_,_,_,_,_,rfl,I6,ea',by omega,by omega,by omega,by omega⟩⟩)
        ·exact wpS_pure (qy _ _ ⟨_,_,_,_,_,_,_,rfl,rfl,I6,ea',by omega,by omega,by omega,by omega⟩)
       ·rw [if_neg hl0]
        refine wpS_bind (el (show k - 1 < a.size by omega) ?_)
        have I6:=pB I3 na0 na1 (show 0 < nb - 1 by omega) (show nb - 1≤b.size by omega) (l1 (nb - 1 - 1) (by omega))
        try dsimp only
        by_cases ea:(k - 1==0)=true
        ·rw [if_pos ea]
         exact wpS_pure (qd _ _ ⟨_,rfl,.inl ⟨_,_,rfl,dn I6 (by omega) (by simpa using ea)⟩⟩)
        rw [if_neg ea]
        have ea':0 < k - 1:=by have h1:¬ k - 1=0:=(by simpa using ea); omega
        split
        ·exact wpS_pure (qd _ _ ⟨_,rfl,.inr ⟨_,_,_,_,_,_,rfl,I6,ea',by omega,by omega,by omega,by omega⟩⟩)
        ·exact wpS_pure (qy _ _ ⟨_,_,_,_,_,_,_,rfl,rfl,I6,ea',by omega,by omega,by omega,by omega⟩)
      ·rw [if_neg hk0]
       have na0:0 < na:=by omega
       have na1:na≤a.size:=by omega
       refine wpS_bind (el (show nb - 1 < b.size by omega) ?_)
       have I3:=pA I na0 na1 (show 0 < nb by omega) i4 (k1 (na - 1) (by omega))
       try dsimp only
       by_cases eb:(nb - 1==1)=true
       ·rw [if_pos eb]
        exact wpS_pure (qd _ _ ⟨_,rfl,.inl ⟨_,_,rfl,ls I3 (by omega) (by simpa using eb)⟩⟩)
       rw [if_neg eb]
       have eb':1 < nb - 1:=by have h1:¬ nb - 1=1:=(by simpa using eb); omega
       refine wpS_bind (el (show na - 1 < a.size by omega) ?_)
       refine wpS_bind (jU K hk (show 0+(nb - 1)≤b.size by omega) (by omega) (pa _ (aF (by omega))) (fun i hi=> pb _ (aF (by omega))) O.tr (sb (by omega)) fun l ln l1 l2=> ?_)
       simp only [Nat.zero_add] at l1 l2
       try dsimp only
       by_cases hl0:nb - 1 - l > 0
       ·rw [if_pos hl0]
        have I4:=rA I3 (show l≤nb - 1 by omega) (show nb - 1≤b.size by omega) na0 na1 l2
        by_cases ec:(l==1)=true
        ·rw [if_pos ec]
         exact wpS_pure (qd _ _ ⟨_,rfl,.inl ⟨_,_,rfl,ls I4 (by omega) (by simpa using ec)⟩⟩)
        rw [if_neg ec]
        by_cases ed:(l==0)=true
        ·rw [if_pos ed]
         exact wpS_pure (qd _ _ ⟨_,rfl,.inl ⟨_,_,rfl,dA I4 (by omega) (by simpa using ed)⟩⟩)
        rw [if_neg ed]
        have ec':1 < l:=by have h1:¬ l=1:=(by simpa using ec); have h2:¬ l=0:=(by simpa using ed); omega
        refine wpS_bind (el (show na - 1 < a.size by omega) ?_)
        have I6:=pB I4 na0 na1 (show 0 < l by omega) (show l≤b.size by omega) (l1 (l - 1) (by omega))
        try dsimp only
        by_cases ea:(na - 1==0)=true
        ·rw [if_pos ea]
         exact wpS_pure (qd _ _ ⟨_,rfl,.inl ⟨_,_,rfl,dn I6 (by omega) (by simpa using ea)⟩⟩)
        rw [if_neg ea]
        have ea':0 < na - 1:=by have h1:¬ na - 1=0:=(by simpa using ea); omega
        split
        ·exact wpS_pure (qd _ _ ⟨_,rfl,.inr ⟨_,_,_,_,_,_,rfl,I6,ea',by omega,by omega,by omega,by omega⟩⟩)
        ·exact wpS_pure (qy _ _ ⟨_,_,_,_,_,_,_,rfl,rfl,I6,ea',by omega,by omega,by omega,by omega⟩)
       ·rw [if_neg hl0]
        refine wpS_bind (el (show na - 1 < a.size by omega) ?_)
        have I6:=pB I3 na0 na1 (show 0 < nb - 1 by omega) (show nb - 1≤b.size by omega) (l1 (nb - 1 - 1) (by omega))
        try dsimp only
        by_cases ea:(na - 1==0)=true
        ·rw [if_pos ea]
         exact wpS_pure (qd _ _ ⟨_,rfl,.inl ⟨_,_,rfl,dn I6 (by omega) (by simpa using ea)⟩⟩)
        rw [if_neg ea]
        have ea':0 < na - 1:=by have h1:¬ na - 1=0:=(by simpa using ea); omega
        split
        ·exact wpS_pure (qd _ _ ⟨_,rfl,.inr ⟨_,_,_,_,_,_,rfl,I6,ea',by omega,by omega,by omega,by omega⟩⟩)
        ·exact wpS_pure (qy _ _ ⟨_,_,_,_,_,_,_,rfl,rfl,I6,ea',by omega,by omega,by omega,by omega⟩)
     ·rw [if_neg hg]
      refine wpS_bind (sg ?_)
      refine wpS_bind (el (show nb - 1 < b.size by omega) ?_)
      refine wpS_bind (rq K hk (show 0+na≤a.size by omega) (by omega) (pb _ (aF (by omega))) (fun i hi=> pa _ (aF (by omega))) O.tr (sa (by omega)) fun k kn k1 k2=> ?_)
      simp only [Nat.zero_add] at k1 k2
      try dsimp only
      by_cases hk0:na - k > 0
      ·rw [if_pos hk0]
       have I2:=rB I (show k≤na by omega) i2 (show 0 < nb by omega) i4 k2
       by_cases ec:(k==0)=true
       ·rw [if_pos ec]
        exact wpS_pure (qd _ _ ⟨_,rfl,.inl ⟨_,_,rfl,dn I2 (by omega) (by simpa using ec)⟩⟩)
       rw [if_neg ec]
       have ec':0 < k:=by have h1:¬ k=0:=(by simpa using ec); omega
       have na0:0 < k:=by omega
       have na1:k≤a.size:=by omega
       refine wpS_bind (el (show nb - 1 < b.size by omega) ?_)
       have I3:=pA I2 na0 na1 (show 0 < nb by omega) i4 (k1 (k - 1) (by omega))
       try dsimp only
       by_cases eb:(nb - 1==1)=true
       ·rw [if_pos eb]
        exact wpS_pure (qd _ _ ⟨_,rfl,.inl ⟨_,_,rfl,ls I3 (by omega) (by simpa using eb)⟩⟩)
       rw [if_neg eb]
       have eb':1 < nb - 1:=by have h1:¬ nb - 1=1:=(by simpa using eb); omega
       refine wpS_bind (el (show k - 1 < a.size by omega) ?_)
       refine wpS_bind (jU K hk (show 0+(nb - 1)≤b.size by omega) (by omega) (pa _ (aF (by omega))) (fun i hi=> pb _ (aF (by omega))) O.tr (sb (by omega)) fun l ln l1 l2=> ?_)
       simp only [Nat.zero_add] at l1 l2
       try dsimp only
       by_cases hl0:nb - 1 - l > 0
       ·rw [if_pos hl0]
        have I4:=rA I3 (show l≤nb - 1 by omega) (show nb - 1≤b.size by omega) na0 na1 l2
        by_cases ec:(l==1)=true
        ·rw [if_pos ec]
         exact wpS_pure (qd _ _ ⟨_,rfl,.inl ⟨_,_,rfl,ls I4 (by omega) (by simpa using ec)⟩⟩)
        rw [if_neg ec]
        by_cases ed:(l==0)=true
        ·rw [if_pos ed]
         exact wpS_pure (qd _ _ ⟨_,rfl,.inl ⟨_,_,rfl,dA I4 (by omega) (by simpa using ed)⟩⟩)
        rw [if_neg ed]
        have ec':1 < l:=by have h1:¬ l=1:=(by simpa using ec); have h2:¬ l=0:=(by simpa using ed); omega
        refine wpS_bind (el (show k - 1 < a.size by omega) ?_)
        have I6:=pB I4 na0 na1 (show 0 < l by omega) (show l≤b.size by omega) (l1 (l - 1) (by omega))
        try dsimp only
        by_cases ea:(k - 1==0)=true
        ·rw [if_pos ea]
         exact wpS_pure (qd _ _ ⟨_,rfl,.inl ⟨_,_,rfl,dn I6 (by omega) (by simpa using ea)⟩⟩)
        rw [if_neg ea]
        have ea':0 < k - 1:=by have h1:¬ k - 1=0:=(by simpa using ea); omega
        split
        ·exact wpS_pure (qd _ _ ⟨_,rfl,.inr ⟨_,_,_,_,_,_,rfl,I6,ea',by omega,by omega,by omega,by omega⟩⟩)
        ·exact wpS_pure (qy _ _ ⟨_,_,_,_,_,_,_,rfl,rfl,I6,ea',by omega,by omega,by omega,by omega⟩)
       ·rw [if_neg hl0]
        refine wpS_bind (el (show k - 1 < a.size by omega) ?_)
        have I6:=pB I3 na0 na1 (show 0 < nb - 1 by omega) (show nb - 1≤b.size by omega) (l1 (nb - 1 - 1) (by omega))
        try dsimp only
        by_cases ea:(k - 1==0)=true
        ·rw [if_pos ea]
         exact wpS_pure (qd _ _ ⟨_,rfl,.inl ⟨_,_,rfl,dn I6 (by omega) (by simpa using ea)⟩⟩)
        rw [if_neg ea]
        have ea':0 < k - 1:=by have h1:¬ k - 1=0:=(by simpa using ea); omega
        split
        ·exact wpS_pure (qd _ _ ⟨_,rfl,.inr ⟨_,_,_,_,_,_,rfl,I6,ea',by omega,by omega,by omega,by omega⟩⟩)
        ·exact wpS_pure (qy _ _ ⟨_,_,_,_,_,_,_,rfl,rfl,I6,ea',by omega,by omega,by omega,by omega⟩)
      ·rw [if_neg hk0]
       have na0:0 < na:=by omega
       have na1:na≤a.size:=by omega
       refine wpS_bind (el (show nb - 1 < b.size by omega) ?_)
       have I3:=pA I na0 na1 (show 0 < nb by omega) i4 (k1 (na - 1) (by omega))
       try dsimp only
       by_cases eb:(nb - 1==1)=true
       ·rw [if_pos eb]
        exact wpS_pure (qd _ _ ⟨_,rfl,.inl ⟨_,_,rfl,ls I3 (by omega) (by simpa using eb)⟩⟩)
       rw [if_neg eb]
       have eb':1 < nb - 1:=by have h1:¬ nb - 1=1:=(by simpa using eb); omega
       refine wpS_bind (el (show na - 1 < a.size by omega) ?_)
       refine wpS_bind (jU K hk (show 0+(nb - 1)≤b.size by omega) (by omega) (pa _ (aF (by omega))) (fun i hi=> pb _ (aF (by omega))) O.tr (sb (by omega)) fun l ln l1 l2=> ?_)
       simp only [Nat.zero_add] at l1 l2
       try dsimp only
       by_cases hl0:nb - 1 - l > 0
       ·rw [if_pos hl0]
        have I4:=rA I3 (show l≤nb - 1 by omega) (show nb - 1≤b.size by omega) na0 na1 l2
        by_cases ec:(l==1)=true
        ·rw [if_pos ec]
         exact wpS_pure (qd _ _ ⟨_,rfl,.inl ⟨_,_,rfl,ls I4 (by omega) (by simpa using ec)⟩⟩)
        rw [if_neg ec]
        by_cases ed:(l==0)=true
        ·rw [if_pos ed]
         exact wpS_pure (qd _ _ ⟨_,rfl,.inl ⟨_,_,rfl,dA I4 (by omega) (by simpa using ed)⟩⟩)
        rw [if_neg ed]
        have ec':1 < l:=by have h1:¬ l=1:=(by simpa using ec); have h2:¬ l=0:=(by simpa using ed); omega
        refine wpS_bind (el (show na - 1 < a.size by omega) ?_)
        have I6:=pB I4 na0 na1 (show 0 < l by omega) (show l≤b.size by omega) (l1 (l - 1) (by omega))
        try dsimp only
        by_cases ea:(na - 1==0)=true
        ·rw [if_pos ea]
         exact wpS_pure (qd _ _ ⟨_,rfl,.inl ⟨_,_,rfl,dn I6 (by omega) (by simpa using ea)⟩⟩)
        rw [if_neg ea]
        have ea':0 < na - 1:=by have h1:¬ na - 1=0:=(by simpa using ea); omega
        split
        ·exact wpS_pure (qd _ _ ⟨_,rfl,.inr ⟨_,_,_,_,_,_,rfl,I6,ea',by omega,by omega,by omega,by omega⟩⟩)
        ·exact wpS_pure (qy _ _ ⟨_,_,_,_,_,_,_,rfl,rfl,I6,ea',by omega,by omega,by omega,by omega⟩)
       ·rw [if_neg hl0]
        refine wpS_bind (el (show na - 1 < a.size by omega) ?_)
        have I6:=pB I3 na0 na1 (show 0 < nb - 1 by omega) (show nb - 1≤b.size by omega) (l1 (nb - 1 - 1) (by omega))
        try dsimp only
        by_cases ea:(na - 1==0)=true
        ·rw [if_pos ea]
         exact wpS_pure (qd _ _ ⟨_,rfl,.inl ⟨_,_,rfl,dn I6 (by omega) (by simpa using ea)⟩⟩)
        rw [if_neg ea]
        have ea':0 < na - 1:=by have h1:¬ na - 1=0:=(by simpa using ea); omega
        split
        ·exact wpS_pure (qd _ _ ⟨_,rfl,.inr ⟨_,_,_,_,_,_,rfl,I6,ea',by omega,by omega,by omega,by omega⟩⟩)
        ·exact wpS_pure (qy _ _ ⟨_,_,_,_,_,_,_,rfl,rfl,I6,ea',by omega,by omega,by omega,by omega⟩)
end
end TS
namespace TS
open PySem PyProof.Rows
section
theorem lu {κ:Type}:∀ (m:List κ) (n p:Nat) (X Y:List κ) (arr:Array κ),arr.toList=X++Y→X.length=p+n→m.length≤Y.length→((m.zipIdx n).foldl (fun a (x:κ×Nat)=> a.setIfInBounds (p+x.2) x.1) arr).toList=X++m++Y.drop m.length
 | [],n,p,X,Y,arr,e,_,_=> by simpa using e
 | x::m,n,p,X,[],arr,e,h1,h2=> by simp at h2
 | x::m,n,p,X,y::Y,arr,e,h1,h2=> by
  rw [List.zipIdx_cons,List.foldl_cons]
  have:=lu m (n+1) p (X++[x]) Y (arr.setIfInBounds (p+n) x) (by
   rw [Array.toList_setIfInBounds,e,← h1,List.set_append_right _ _ (Nat.le_refl _)]; simp) (by simp; omega) (by simpa using h2)
  rw [this]; simp
theorem qc {M:Model} {A:Around} {E:Value→Shared→Prop} {s:Shared} {σ:Type} {x:σ} {Q:PUnit→σ→Prop} {st:σ} (h:Q ⟨⟩ x):wpS M A E s (set x:StateT σ Sem PUnit) Q st:=by
 unfold wpS; rw [StateT.run_set]; exact wpAny_pure ⟨rfl,h⟩
theorem seg {κ:Type} (X S Y:List κ):((X++S++Y).drop X.length).take S.length=S:=by simp
end
section
variable {prog:Program} {w:World} {A:Around} {E:Value→Shared→Prop} {s:Shared} {κ:SortKind} {P:Keyed→Prop} {R:Keyed→Keyed→Bool} (K:Asks prog w A E s κ P R)
include K
set_option maxHeartbeats 2000000 in
theorem mat {i sa na pw sb nb pw2:Nat} {X S1 S2 Y:List Keyed} {st:SortSt} {Q:Bool→SortSt→Prop} (hk:kindOf st=κ) (hf:failedOf st=none) (h1:(pendingOf st)[i]?=some (sa,na,pw)) (h2:(pendingOf st)[i+1]?=some (sb,nb,pw2)) (ha:(arrOf st).toList=X++S1++S2++Y) (lX:X.length=sa) (l1:S1.length=na) (l2:S2.length=nb) (hsb:sb=sa+na) (p1:0 < na) (p2:0 < nb) (pp:∀ x∈S1++S2,P x) (O:MO R S1 S2)
  (h:∀ S st',kindOf st'=κ→failedOf st'=none→pendingOf st'=((pendingOf st).setIfInBounds i (sa,na+nb,pw)).eraseIdxIfInBounds (i+1)→(arrOf st').toList=X++S++Y→Mgd R S1 S2 S→Q true st'):wpS (model prog w) A E s (mergeAt' i) Q st:=by
 have sz:(arrOf st).size=sa+na+nb+Y.length:=by rw [← Array.length_toList,ha]; simp; omega
 have g1:∀ j (hj:j < S1.length),gt (arrOf st) (sa+j)=S1[j]:=fun j hj=> by
  rw [gt_eq (by rw [Array.length_toList]; omega)]
  simp only [ha]
  rw [List.getElem_append_left (by simp; omega),List.getElem_append_left (by simp; omega),List.getElem_append_right (by omega)]
  congr 1; omega
 have g2:∀ j (hj:j < S2.length),gt (arrOf st) (sb+j)=S2[j]:=fun j hj=> by
  rw [gt_eq (by rw [Array.length_toList]; omega)]
  simp only [ha]
  rw [List.getElem_append_left (by simp; omega),List.getElem_append_right (by simp; omega)]
  congr 1; simp; omega
 have q1:∀ j,j < na→P (gt (arrOf st) (sa+j)):=fun j hj=> by rw [g1 j (by omega)]; exact pp _ (List.mem_append_left _ (List.getElem_mem _))
 have q2:∀ j,j < nb→P (gt (arrOf st) (sb+j)):=fun j hj=> by rw [g2 j (by omega)]; exact pp _ (List.mem_append_right _ (List.getElem_mem _))
 refine wpS_bind (wpS_get ?_)
 rw [h1,h2]
 dsimp only
 refine wpS_bind (qc ?_)
 refine wpS_bind (el (show sb < (arrOf st).size by omega) ?_)
 refine wpS_bind (rq K hk (show sa+na≤(arrOf st).size by omega) p1 (by have:=q2 0 p2; simpa using this) q1 O.tr (fun x y h3 h4=> by
  rw [g1 x (by omega),g1 y (by omega)]
  exact List.pairwise_iff_getElem.mp O.sA _ _ _ _ h3) fun k kn k1 k2=> ?_)
 dsimp only
 have hb0:gt (arrOf st) sb=S2[0]'(by omega):=by have:=g2 0 (by omega); simpa using this
 rw [hb0] at k1 k2
 have hU:∀ x∈S1.take k,∀ y∈S2,R x y=true:=fun x hx y hy=> by
  obtain ⟨j,hj,rfl⟩:=List.getElem_of_mem hx
  have jk:j < k:=by simp at hj; omega
  have z:=k1 j jk
  rw [g1 j (by omega)] at z
  have z2:=O.tot _ (List.getElem_mem _) _ (List.getElem_mem _) z
  rw [List.getElem_take]
  exact dB O.tr O.sB (show 0 < S2.length by omega) z2 y (by simpa using hy)
 have f1:∀ v∈S1.drop k,R (S2[0]'(by omega)) v=true:=fun v hv=> by
  obtain ⟨j,hj,rfl⟩:=List.getElem_of_mem hv
  rw [List.length_drop] at hj
  rw [List.getElem_drop,← g1 (k+j) (by omega)]
  exact k2 _ (by omega) (by omega)
 by_cases e1:(na - k==0)=true
 ·rw [if_pos e1]
  have e1':na - k=0:=by simpa using e1
  refine wpS_pure (h (S1++S2) _ hk hf rfl (by rw [← List.append_assoc]; exact ha) ⟨List.Perm.refl _,List.pairwise_append.mpr ⟨O.sA,O.sB,fun x hx y hy=> hU x (by rw [List.take_of_length_le (by omega)]; exact hx) y hy⟩⟩)
 rw [if_neg e1]
 have e1':0 < na - k:=by have z:¬ na - k=0:=(by simpa using e1); omega
 have hlast:gt (arrOf st) (sa+k+(na - k) - 1)=S1[na - 1]'(by omega):=by
  rw [← g1 (na - 1) (by omega)]; congr 1; omega
 refine wpS_bind (el (show sa+k+(na - k) - 1 < (arrOf st).size by omega) ?_)
 refine wpS_bind (jU K hk (show sb+nb≤(arrOf st).size by omega) (by omega) (by rw [hlast,← g1 (na - 1) (by omega)]; exact q1 _ (by omega)) q2 O.tr (fun x y h3 h4=> by
  rw [g2 x (by omega),g2 y (by omega)]
  exact List.pairwise_iff_getElem.mp O.sB _ _ _ _ h3) fun l ln m1 m2=> ?_)
 dsimp only
 rw [hlast] at m1 m2
 have hZ:∀ x∈S1,∀ z∈S2.drop l,R x z=true:=fun x hx z hz=> by
  obtain ⟨j,hj,rfl⟩:=List.getElem_of_mem hz
  rw [List.length_drop] at hj
  obtain ⟨i,hi,rfl⟩:=List.getElem_of_mem hx
  rw [List.getElem_drop]
  have z:=m2 (l+j) (by omega) (by omega)
  rw [g2 (l+j) (by omega)] at z
  have z2:=O.tot _ (List.getElem_mem _) _ (List.getElem_mem _) z
  rcases Nat.lt_or_ge i (na - 1) with c | c
  ·exact O.tr _ _ _ (List.pairwise_iff_getElem.mp O.sA i (na - 1) hi (by omega) c) z2
  ·have:i=na - 1:=by omega
   subst this
   exact z2
 have f2:∀ v∈S2.take l,R v (S1[na - 1]'(by omega))=true:=fun v hv=> by
  obtain ⟨j,hj,rfl⟩:=List.getElem_of_mem hv
  have jl:j < l:=by simp at hj; omega
  rw [List.getElem_take,← g2 j (by omega)]
  exact m1 _ jl
 have l0:0 < l:=by
  rcases Nat.eq_zero_or_pos l with c | c
  ·exfalso
   have z:=m2 0 (by omega) p2
   rw [g2 0 (by omega)] at z
   have z2:=f1 (S1[na - 1]'(by omega)) (by
    have:S1[na - 1]'(by omega)=(S1.drop k)[na - 1 - k]'(by rw [List.length_drop]; omega):=by rw [List.getElem_drop]; congr 1; omega
    rw [this]; exact List.getElem_mem _)
   rw [z2] at z; cases z
  ·exact c
 rw [if_neg (by simp; omega)]
 have ll:∀ {a:Array Keyed},a.toList.length=a.size:=by simp
 have eL:(arrOf st).toList=(X++S1.take k)++S1.drop k++(S2.take l++(S2.drop l++Y)):=by
  rw [ha]
  conv=> lhs; rw [← List.take_append_drop k S1,← List.take_append_drop l S2]
  simp only [List.append_assoc]
 have ex1:((arrOf st).extract (sa+k) sb).toList=S1.drop k:=by
  rw [show sb=sa+k+(na - k) by omega,eR,eL]
  have:=seg (X++S1.take k) (S1.drop k) (S2.take l++(S2.drop l++Y))
  rw [show (X++S1.take k).length=sa+k by simp; omega,show (S1.drop k).length=na - k by simp; omega] at this
  exact this
 have ex2:((arrOf st).extract sb (sb+l)).toList=S2.take l:=by
  rw [eR,ha]
  have:=seg (X++S1) (S2.take l) (S2.drop l++Y)
  rw [show (X++S1).length=sb by simp; omega,show (S2.take l).length=l by simp; omega] at this
  rw [← List.append_assoc,List.append_assoc (X++S1),List.take_append_drop] at this
  exact this
 generalize hx:(arrOf st).extract (sa+k) sb=x at ex1 ⊢
 generalize hy:(arrOf st).extract sb (sb+l)=y at ex2 ⊢
 have sx:x.size=na - k:=by rw [← ll,ex1]; simp; omega
 have sy:y.size=l:=by rw [← ll,ex2]; simp; omega
 have O2:MO R x.toList y.toList:=by
  rw [ex1,ex2]
  exact ⟨O.tr,O.sA.sublist (List.drop_sublist _ _),O.sB.sublist (List.take_sublist _ _),fun u hu v hv=> O.tot u (List.mem_of_mem_drop hu) v (List.mem_of_mem_take hv)⟩
 have gx:gt x (x.size - 1)=S1[na - 1]'(by omega):=by
  rw [gt_eq (by rw [ll]; omega)]
  simp only [ex1,sx,List.getElem_drop]
  congr 1; omega
 have gy:gt y 0=S2[0]'(by omega):=by
  rw [gt_eq (by rw [ll]; omega)]
  simp only [ex2,List.getElem_take]
 have px:∀ u∈x.toList,P u:=fun u hu=> pp u (List.mem_append_left _ (List.mem_of_mem_drop (by rw [ex1] at hu; exact hu)))
 have py:∀ u∈y.toList,P u:=fun u hu=> pp u (List.mem_append_right _ (List.mem_of_mem_take (by rw [ex2] at hu; exact hu)))
 have hlo:∀ v∈y.toList,R v (gt x (x.size - 1))=true:=fun v hv=> by rw [gx]; exact f2 v (by rw [ex2] at hv; exact hv)
 have hhi:∀ v∈x.toList,R (gt y 0) v=true:=fun v hv=> by rw [gy]; exact f1 v (by rw [ex1] at hv; exact hv)
 have fin:∀ r:Array Keyed,Mgd R x.toList y.toList r.toList→((r.toList.zipIdx).foldl (fun a (x:Keyed×Nat)=> a.setIfInBounds (sa+k+x.2) x.1) (arrOf st)).toList=X++(S1.take k++r.toList++S2.drop l)++Y∧Mgd R S1 S2 (S1.take k++r.toList++S2.drop l):=fun r m=> by
  have lr:r.toList.length=(S1.drop k++S2.take l).length:=by rw [← ex1,← ex2]; exact m.1.length_eq
  constructor
  ·rw [lu r.toList 0 (sa+k) (X++S1.take k) (S1.drop k++S2.take l++(S2.drop l++Y)) _ (by rw [eL]; simp only [List.append_assoc]) (by simp; omega) (by rw [lr,List.length_append (as:=S1.drop k++S2.take l)]; omega)]
   rw [lr,List.drop_left]
   simp only [List.append_assoc]
  ·have mp:r.toList.Perm (S1.drop k++S2.take l):=by rw [← ex1,← ex2]; exact m.1
   constructor
   ·refine ((mp.append_left _).append_right _).trans ?_
    have e:S1++S2=S1.take k++(S1.drop k++S2.take l)++S2.drop l:=by
     conv=> lhs; rw [← List.take_append_drop k S1,← List.take_append_drop l S2]
     simp only [List.append_assoc]
    rw [e]
   ·have sp1:=O.sA
    rw [← List.take_append_drop k S1] at sp1
    have sp2:=O.sB
    rw [← List.take_append_drop l S2] at sp2
    have c1:=List.pairwise_append.mp sp1
    have c2:=List.pairwise_append.mp sp2
    refine List.pairwise_append.mpr ⟨List.pairwise_append.mpr ⟨c1.1,m.2,fun u hu v hv=> ?_⟩,c2.2.1,fun u hu v hv=> ?_⟩
    ·rcases List.mem_append.mp (mp.mem_iff.mp hv) with z | z
     ·exact c1.2.2 u hu v z
     ·exact hU u hu v (List.mem_of_mem_take z)
    ·rcases List.mem_append.mp hu with z | z
     ·exact hU u z v (List.mem_of_mem_drop hv)
     ·rcases List.mem_append.mp (mp.mem_iff.mp z) with z | z
      ·exact hZ u (List.mem_of_mem_drop z) v hv
      ·exact c2.2.2 u z v hv
 have fin2:∀ (r:Array Keyed) g,Mgd R x.toList y.toList r.toList→Q true (SortSt.mk' (kindOf st) ((r.toList.zipIdx).foldl (fun a (x:Keyed×Nat)=> a.setIfInBounds (sa+k+x.2) x.1) (arrOf st)) (((pendingOf st).setIfInBounds i (sa,na+nb,pw)).eraseIdxIfInBounds (i+1)) g (failedOf st)):=fun r g m=> h _ _ hk hf rfl (fin r m).1 (fin r m).2
 by_cases hc:na - k≤l
 ·rw [if_pos hc]
  refine wpS_bind (mlo K O2 px py (by omega) (by omega) (hhi _ (aF (by omega))) hlo hk fun r g m=> ?_)
  refine wpS_bind (wpS_modify ?_)
  refine wpS_bind (wpS_get ?_)
  have:=fin2 r g m
  refine wpS_pure ?_
  show Q (failedOf st).isNone _
  rw [show (failedOf st).isNone=true by rw [hf]; rfl]
  exact this
 ·rw [if_neg hc]
  refine wpS_bind (mhi K O2 px py (by omega) (by omega) (hlo _ (aF (by omega))) hhi hk fun r g m=> ?_)
  refine wpS_bind (wpS_modify ?_)
  refine wpS_bind (wpS_get ?_)
  have:=fin2 r g m
  refine wpS_pure ?_
  show Q (failedOf st).isNone _
  rw [show (failedOf st).isNone=true by rw [hf]; rfl]
  exact this
end
end TS
namespace TS
open PySem PyProof.Rows
section
variable {prog:Program} {w:World} {A:Around} {E:Value→Shared→Prop} {s:Shared} {κ:SortKind} {P:Keyed→Prop} {R:Keyed→Keyed→Bool}
structure Ord (P:Keyed→Prop) (R:Keyed→Keyed→Bool) (l:List Keyed):Prop where
 tr:∀ x y z,R x y=true→R y z=true→R x z=true
 tot:∀ x∈l,∀ y∈l,x≠y→R x y=false→R y x=true
 nd:l.Nodup
 hp:∀ x∈l,P x
structure Stt (κ:SortKind) (l:List Keyed) (pd:Array (Nat×Nat×Nat)) (st:SortSt):Prop where
 kind:kindOf st=κ
 failed:failedOf st=none
 perm:(arrOf st).toList.Perm l
 pend:pendingOf st=pd
variable {l:List Keyed} {pd:Array (Nat×Nat×Nat)}
theorem Stt.size {st:SortSt} (S:Stt κ l pd st):(arrOf st).size=l.length:=by rw [← Array.length_toList,S.perm.length_eq]
theorem Stt.p (O:Ord P R l) {st:SortSt} (S:Stt κ l pd st) {i:Nat} (h:i < l.length):P (gt (arrOf st) i):=O.hp _ (S.perm.mem_iff.mp (aF (by rw [S.size]; exact h)))
theorem Stt.tot (O:Ord P R l) {st:SortSt} (S:Stt κ l pd st) {i j:Nat} (hi:i < l.length) (hj:j < l.length) (hne:i≠j) (hr:R (gt (arrOf st) i) (gt (arrOf st) j)=false):R (gt (arrOf st) j) (gt (arrOf st) i)=true:=by
 refine O.tot _ (S.perm.mem_iff.mp (aF (by rw [S.size]; exact hi))) _ (S.perm.mem_iff.mp (aF (by rw [S.size]; exact hj))) (fun e=> hne ?_) hr
 have li:i < (arrOf st).toList.length:=by rw [Array.length_toList,S.size]; exact hi
 have lj:j < (arrOf st).toList.length:=by rw [Array.length_toList,S.size]; exact hj
 rw [gt_eq li,gt_eq lj] at e
 exact (List.getElem_inj (S.perm.nodup_iff.mpr O.nd)).mp e
theorem Stt.arr {st:SortSt} (S:Stt κ l pd st) {a:Array Keyed} (h:a.Perm (arrOf st)):Stt κ l pd (setArr st a):=⟨S.kind,S.failed,(Array.perm_iff_toList_perm.mp h).trans S.perm,S.pend⟩
theorem ltK (K:Asks prog w A E s κ P R) (O:Ord P R l) {i j:Nat} {st:SortSt} {Q:Option Bool→SortSt→Prop} (S:Stt κ l pd st) (hi:i < l.length) (hj:j < l.length) (h:Q (some (R (gt (arrOf st) i) (gt (arrOf st) j))) st):wpS (model prog w) A E s (ltAt' i j) Q st:=by
 rw [ltAt'_eq]
 refine wpS_bind (wpS_get ?_)
 refine wpS_bind (el (by rw [S.size]; exact hi) ?_)
 refine wpS_bind (el (by rw [S.size]; exact hj) ?_)
 exact K _ _ _ _ (S.p O hi) (S.p O hj) S.kind h
theorem kA {a b:Array Keyed} {i j:Nat} (h:a[i]?=b[j]?):gt a i=gt b j:=by
 unfold gt
 rw [Array.getD_eq_getD_getElem?,Array.getD_eq_getD_getElem?,h]
def Up (R:Keyed→Keyed→Bool) (a:Array Keyed) (lo m:Nat):Prop:=∀ i j,i < j→j < m→R (gt a (lo+i)) (gt a (lo+j))=true
def Dn (R:Keyed→Keyed→Bool) (a:Array Keyed) (lo m:Nat):Prop:=∀ i j,i < j→j < m→R (gt a (lo+j)) (gt a (lo+i))=true
def Kept (a b:Array Keyed) (lo:Nat):Prop:=∀ j,j < lo→gt b j=gt a j
theorem vU {a:Array Keyed} {src d:Nat} (hs:src < a.size) (hd:d≤src) (k:Nat):gt (bubble a src d) k=if k=src - d then gt a src else if src - d < k∧k≤src then gt a (k - 1) else gt a k:=by
 have e:=getElem?_bubble hs d hd k
 by_cases h1:k=src - d
 ·rw [if_pos h1] at e ⊢; exact kA e
 ·rw [if_neg h1] at e ⊢
  by_cases h2:src - d < k∧k≤src
  ·rw [if_pos h2] at e ⊢; exact kA e
  ·rw [if_neg h2] at e ⊢; exact kA e
theorem lw {a:Array Keyed} {i j:Nat} (hj:j≤a.size) (k:Nat):gt (mirror a i j ((j - i) / 2)) k=if i≤k∧k < j then gt a (i+j - 1 - k) else gt a k:=by
 have e:=getElem?_mirror_all (xs:=a) (i:=i) hj k
 by_cases h1:i≤k∧k < j
 ·rw [if_pos h1] at e ⊢; exact kA e
 ·rw [if_neg h1] at e ⊢; exact kA e
variable (K:Asks prog w A E s κ P R)
include K
theorem xN (O:Ord P R l) {lo n ok:Nat} {st:SortSt} {Q:Bool→SortSt→Prop} (hn:lo+n≤l.length) (hok:ok≤n) (S:Stt κ l pd st) (hs:Up R (arrOf st) lo ok)
  (h:∀ st',Stt κ l pd st'→Kept (arrOf st) (arrOf st') lo→Up R (arrOf st') lo n→Q true st'):wpS (model prog w) A E s (binarySort' lo n ok) Q st:=by
 rw [binarySort'_eq]
 refine wpS_bind (wpS_mono (wpS_forRange (I:=fun k c st'=> c=(none,())∧Stt κ l pd st'∧Kept (arrOf st) (arrOf st') lo∧Up R (arrOf st') lo (min k n))
  (Q:=fun c st'=> c=(none,())∧Stt κ l pd st'∧Kept (arrOf st) (arrOf st') lo∧Up R (arrOf st') lo n) ?step ?fin ?init) ?post)
 case post=>
  rintro c st' ⟨rfl,S',k',u'⟩
  exact wpS_pure (h st' S' k' u')
 case init=>
  refine ⟨rfl,S,fun _ _=> rfl,fun i j hij hj=> ?_⟩
  exact hs i j hij (by omega)
 case fin=>
  rintro c st' ⟨hc,S',k',u'⟩
  refine ⟨hc,S',k',?_⟩
  rwa [show min (max (max ok 1) n) n=n by omega] at u'
 case step=>
  rintro k c st' hak hkn ⟨rfl,S',k',u'⟩
  rw [show min k n=k by omega] at u'
  have hk:lo+k < l.length:=by omega
  refine wpS_bind (wpS_mono (wpS_forRange (I:=fun x c st''=> st''=st'∧∃ p r,c=(none,p,r)∧p≤r∧r≤k∧r - p≤k - x∧
    (∀ i,i < p→R (gt (arrOf st') (lo+i)) (gt (arrOf st') (lo+k))=true)∧(∀ i,r≤i→i < k→R (gt (arrOf st') (lo+k)) (gt (arrOf st') (lo+i))=true))
   (Q:=fun c st''=> st''=st'∧∃ p r,c=(none,p,r)∧p≤k∧
    (∀ i,i < p→R (gt (arrOf st') (lo+i)) (gt (arrOf st') (lo+k))=true)∧(∀ i,p≤i→i < k→R (gt (arrOf st') (lo+k)) (gt (arrOf st') (lo+i))=true)) ?istep ?ifin ?iinit) ?ipost)
  case iinit=> exact ⟨rfl,0,k,rfl,by omega,by omega,by omega,fun i hi=> by omega,fun i h1 h2=> by omega⟩
  case ifin=>
   rintro c st'' ⟨rfl,p,r,rfl,hlr,hrk,hm,hlo,hhi⟩
   have:p=r:=by omega
   subst this
   exact ⟨rfl,p,p,rfl,hrk,hlo,hhi⟩
  case istep=>
   rintro x c st'' _ hxk ⟨rfl,p,r,rfl,hlr,hrk,hm,hlo,hhi⟩
   dsimp only
   by_cases hge:p ≥ r
   ·rw [if_pos hge]
    have:p=r:=by omega
    subst this
    exact wpS_pure ⟨rfl,p,p,rfl,hrk,hlo,hhi⟩
   ·rw [if_neg hge]
    refine wpS_bind (ltK K O S' hk (show lo+(p+r) / 2 < l.length by omega) ?_)
    dsimp only
    by_cases hless:R (gt (arrOf st'') (lo+k)) (gt (arrOf st'') (lo+(p+r) / 2))=true
    ·rw [if_pos hless]
     refine wpS_pure ⟨rfl,p,(p+r) / 2,rfl,by omega,by omega,by omega,hlo,fun i h1 h2=> ?_⟩
     rcases Nat.lt_or_eq_of_le h1 with z | z
     ·exact O.tr _ _ _ hless (u' _ _ z h2)
     ·rw [← z]; exact hless
    ·rw [if_neg hless]
     have ht:=S'.tot O hk (show lo+(p+r) / 2 < l.length by omega) (by omega) (by simpa using hless)
     refine wpS_pure ⟨rfl,(p+r) / 2+1,r,rfl,by omega,by omega,by omega,fun i h1=> ?_,hhi⟩
     rcases Nat.lt_or_eq_of_le (Nat.le_of_lt_succ h1) with z | z
     ·exact O.tr _ _ _ (u' _ _ z (by omega)) ht
     ·rw [z]; exact ht
  case ipost=>
   rintro c st'' ⟨rfl,p,r,rfl,hlk,hlo,hhi⟩
   show wpS _ _ _ _ (do moveDown' (lo+k) (lo+p); pure (ForInStep.yield (none,()))) _ _
   rw [moveDown'_eq]
   have hks:lo+k < (arrOf st'').size:=by rw [S'.size]; exact hk
   have at_:∀ j,gt (bubble (arrOf st'') (lo+k) (lo+k - (lo+p))) j=if j=lo+p then gt (arrOf st'') (lo+k) else if lo+p < j∧j≤lo+k then gt (arrOf st'') (j - 1) else gt (arrOf st'') j:=fun j=> by
    have:=vU hks (show lo+k - (lo+p)≤lo+k by omega) j
    rwa [show lo+k - (lo+k - (lo+p))=lo+p by omega] at this
   refine wpS_bind (wpS_modify (wpS_pure ⟨rfl,S'.arr (bubble_perm _ _ _),fun j hj=> ?_,?_⟩))
   ·show gt (bubble (arrOf st'') (lo+k) (lo+k - (lo+p))) j=_
    rw [at_,if_neg (by omega),if_neg (by omega)]
    exact k' j hj
   ·rw [show min (k+1) n=k+1 by omega]
    intro i j hij hj
    show R (gt (bubble (arrOf st'') (lo+k) (lo+k - (lo+p))) (lo+i)) (gt (bubble (arrOf st'') (lo+k) (lo+k - (lo+p))) (lo+j))=true
    rw [at_,at_]
    have sh:∀ q,lo+p < lo+q→lo+q - 1=lo+(q - 1):=fun q hq=> by omega
    by_cases a1:lo+i=lo+p
    ·rw [if_pos a1,if_neg (by omega),if_pos (by omega),sh j (by omega)]
     exact hhi _ (by omega) (by omega)
    ·rw [if_neg a1]
     by_cases a2:lo+p < lo+i∧lo+i≤lo+k
     ·rw [if_pos a2,if_neg (by omega),if_pos (by omega),sh i (by omega),sh j (by omega)]
      exact u' _ _ (by omega) (by omega)
     ·rw [if_neg a2]
      by_cases b1:lo+j=lo+p
      ·rw [if_pos b1]; exact hlo _ (by omega)
      ·rw [if_neg b1]
       by_cases b2:lo+p < lo+j∧lo+j≤lo+k
       ·rw [if_pos b2,sh j (by omega)]
        exact u' _ _ (by omega) (by omega)
       ·rw [if_neg b2]; exact u' _ _ hij (by omega)
end
end TS
namespace TS
open PySem PyProof.Rows
section
variable {prog:Program} {w:World} {A:Around} {E:Value→Shared→Prop} {s:Shared} {κ:SortKind} {P:Keyed→Prop} {R:Keyed→Keyed→Bool} {l:List Keyed} {pd:Array (Nat×Nat×Nat)}
theorem Up.more (tr:∀ x y z,R x y=true→R y z=true→R x z=true) {a:Array Keyed} {lo m:Nat} (S:Up R a lo m) (h1:1≤m) (h:R (gt a (lo+m - 1)) (gt a (lo+m))=true):Up R a lo (m+1):=fun i j hij hj=> by
 rcases Nat.lt_or_eq_of_le (Nat.le_of_lt_succ hj) with z | z
 ·exact S i j hij z
 ·subst z
  have e:lo+(j - 1)=lo+j - 1:=by omega
  rcases Nat.lt_or_eq_of_le (show i≤j - 1 by omega) with y | y
  ·have:=S i (j - 1) y (by omega)
   rw [e] at this
   exact tr _ _ _ this h
  ·subst y; rw [e]; exact h
theorem Dn.more (tr:∀ x y z,R x y=true→R y z=true→R x z=true) {a:Array Keyed} {lo m:Nat} (S:Dn R a lo m) (h1:1≤m) (h:R (gt a (lo+m)) (gt a (lo+m - 1))=true):Dn R a lo (m+1):=fun i j hij hj=> by
 rcases Nat.lt_or_eq_of_le (Nat.le_of_lt_succ hj) with z | z
 ·exact S i j hij z
 ·subst z
  have e:lo+(j - 1)=lo+j - 1:=by omega
  rcases Nat.lt_or_eq_of_le (show i≤j - 1 by omega) with y | y
  ·have:=S i (j - 1) y (by omega)
   rw [e] at this
   exact tr _ _ _ h this
  ·subst y; rw [e]; exact h
theorem rvs {i j:Nat} {Q:Unit→SortSt→Prop} {st:SortSt} (h:Q () (setArr st (mirror (arrOf st) i j ((j - i) / 2)))):wpS (model prog w) A E s (reverseSlice' i j) Q st:=by
 rw [reverseSlice'_eq]; exact wpS_modify h
variable (K:Asks prog w A E s κ P R)
include K
set_option maxHeartbeats 1000000 in
theorem cnt (O:Ord P R l) {lo nrem:Nat} {st:SortSt} {Q:Option Nat→SortSt→Prop} (hn:lo+nrem≤l.length) (h1:1≤nrem) (S:Stt κ l pd st)
  (h:∀ m st',Stt κ l pd st'→Kept (arrOf st) (arrOf st') lo→1≤m→m≤nrem→Up R (arrOf st') lo m→Q (some m) st'):wpS (model prog w) A E s (countRun' lo nrem) Q st:=by
 rw [countRun'_eq]
 dsimp only
 refine wpS_bind (wpS_mono (wpS_forRange (I:=fun x c st'=> st'=st∧c=(none,x)∧Up R (arrOf st) lo x) (Q:=fun c st'=> st'=st∧∃ n,c=(none,n)∧1≤n∧n≤nrem∧Up R (arrOf st) lo n∧(n < nrem→R (gt (arrOf st) (lo+n)) (gt (arrOf st) (lo+n - 1))=true)) ?s1 ?f1 ⟨rfl,rfl,fun i j h2 h3=> by omega⟩) ?p1)
 case s1=>
  rintro x c st' hx1 hx ⟨rfl,rfl,u⟩
  dsimp only
  refine wpS_bind (ltK K O S (show lo+x < l.length by omega) (show lo+x - 1 < l.length by omega) ?_)
  dsimp only
  by_cases hc:R (gt (arrOf st') (lo+x)) (gt (arrOf st') (lo+x - 1))=true
  ·rw [if_pos hc]
   exact wpS_pure ⟨rfl,x,rfl,hx1,by omega,u,fun _=> hc⟩
  ·rw [if_neg hc]
   exact wpS_pure ⟨rfl,rfl,u.more O.tr hx1 (S.tot O (by omega) (by omega) (by omega) (by simpa using hc))⟩
 case f1=>
  rintro c st' ⟨rfl,rfl,u⟩
  rw [show max 1 nrem=nrem by omega] at u ⊢
  exact ⟨rfl,nrem,rfl,h1,Nat.le_refl _,u,fun z=> by omega⟩
 case p1=>
  rintro c st' ⟨rfl,n,rfl,n1,n2,u,ht⟩
  dsimp only
  by_cases e:(n==nrem)=true
  ·rw [if_pos e]
   exact wpS_pure (h n _ S (fun _ _=> rfl) n1 n2 u)
  rw [if_neg e]
  have e':n < nrem:=by have z:¬ n=nrem:=(by simpa using e); omega
  by_cases hg:n > 1
  ·rw [if_pos hg]
   refine wpS_bind (ltK K O S (show lo < l.length by omega) (show lo+n - 1 < l.length by omega) ?_)
   dsimp only
   have z:=u 0 (n - 1) (by omega) (by omega)
   rw [Nat.add_zero,show lo+(n - 1)=lo+n - 1 by omega] at z
   rw [if_pos z]
   exact wpS_pure (h n _ S (fun _ _=> rfl) n1 n2 u)
  rw [if_neg hg]
  obtain rfl:n=1:=by omega
  have D2:Dn R (arrOf st') lo 2:=Dn.more O.tr (fun i j x y=> by omega) (Nat.le_refl _) (ht e')
  refine wpS_bind (ru ?_)
  try dsimp only
  refine wpS_bind (wpS_mono (wpS_forRange (I:=fun x c st2=> st2=st'∧c=(none,x,0)∧Dn R (arrOf st') lo x) (Q:=fun c st2=> st2=st'∧∃ n,c=(none,n,0)∧2≤n∧n≤nrem∧Dn R (arrOf st') lo n) ?s2 ?f2 ⟨rfl,rfl,D2⟩) ?p2)
  case s2=>
   rintro x c st2 hx1 hx ⟨rfl,rfl,u⟩
   dsimp only
   refine wpS_bind (ltK K O S (show lo+x < l.length by omega) (show lo+x - 1 < l.length by omega) ?_)
   dsimp only
   by_cases hc:R (gt (arrOf st2) (lo+x)) (gt (arrOf st2) (lo+x - 1))=true
   ·rw [if_pos hc,if_neg (by omega)]
    exact wpS_pure ⟨rfl,rfl,u.more O.tr (by omega) hc⟩
   ·rw [if_neg hc]
    refine wpS_bind (ltK K O S (show lo+x - 1 < l.length by omega) (show lo+x < l.length by omega) ?_)
    dsimp only
    rw [if_pos (S.tot O (by omega) (by omega) (by omega) (by simpa using hc))]
    exact wpS_pure ⟨rfl,x,rfl,hx1,by omega,u⟩
  case f2=>
   rintro c st2 ⟨rfl,rfl,u⟩
   rw [show max (1+1) nrem=nrem by omega] at u ⊢
   exact ⟨rfl,nrem,rfl,by omega,Nat.le_refl _,u⟩
  case p2=>
   rintro c st2 ⟨rfl,n,rfl,n1,n2,d⟩
   dsimp only
   rw [if_neg (by omega)]
   refine wpS_bind (rvs ?_)
   have sz:=S.size
   have S2:Stt κ l pd (setArr st2 (mirror (arrOf st2) lo (lo+n) ((lo+n - lo) / 2))):=S.arr (mirror_perm _ _ _ _)
   have kp:Kept (arrOf st2) (mirror (arrOf st2) lo (lo+n) ((lo+n - lo) / 2)) lo:=fun j hj=> by
    rw [lw (by omega),if_neg (by omega)]
   have up:Up R (mirror (arrOf st2) lo (lo+n) ((lo+n - lo) / 2)) lo n:=fun i j hij hj=> by
    rw [lw (by omega),lw (by omega),if_pos (by omega),if_pos (by omega),show lo+(lo+n) - 1 - (lo+i)=lo+(n - 1 - i) by omega,show lo+(lo+n) - 1 - (lo+j)=lo+(n - 1 - j) by omega]
    exact d _ _ (by omega) (by omega)
   generalize hst:setArr st2 (mirror (arrOf st2) lo (lo+n) ((lo+n - lo) / 2))=st3 at S2 ⊢
   have ha:arrOf st3=mirror (arrOf st2) lo (lo+n) ((lo+n - lo) / 2):=by rw [← hst]
   rw [← ha] at kp up
   refine wpS_bind (wpS_mono (wpS_forRange (I:=fun x c st'=> st'=st3∧c=(none,x)∧Up R (arrOf st3) lo x) (Q:=fun c st'=> st'=st3∧∃ m,c=(none,m)∧1≤m∧m≤nrem∧Up R (arrOf st3) lo m) ?s3 ?f3 ⟨rfl,rfl,up⟩) ?p3)
   case s3=>
    rintro x c st' hx1 hx ⟨rfl,rfl,u⟩
    dsimp only
    refine wpS_bind (ltK K O S2 (show lo+x < l.length by omega) (show lo+x - 1 < l.length by omega) ?_)
    dsimp only
    by_cases hc:R (gt (arrOf st') (lo+x)) (gt (arrOf st') (lo+x - 1))=true
    ·rw [if_pos hc]
     exact wpS_pure ⟨rfl,x,rfl,by omega,by omega,u⟩
    ·rw [if_neg hc]
     exact wpS_pure ⟨rfl,rfl,u.more O.tr (by omega) (S2.tot O (by omega) (by omega) (by omega) (by simpa using hc))⟩
   case f3=>
    rintro c st' ⟨rfl,rfl,u⟩
    rw [show max n nrem=nrem by omega] at u ⊢
    exact ⟨rfl,nrem,rfl,h1,Nat.le_refl _,u⟩
   case p3=>
    rintro c st' ⟨rfl,m,rfl,m1,m2,u⟩
    exact wpS_pure (h m _ S2 kp m1 m2 u)
end
end TS
namespace TS
open PySem PyProof.Rows
section
variable {prog:Program} {w:World} {A:Around} {E:Value→Shared→Prop} {s:Shared} {κ:SortKind} {P:Keyed→Prop} {R:Keyed→Keyed→Bool} {l:List Keyed}
def Ch (R:Keyed→Keyed→Bool) (a:Array Keyed):List (Nat×Nat×Nat)→Nat→Nat→Prop
 | [],x,y=> x=y
 | r::t,x,y=> r.1=x∧0 < r.2.1∧Up R a x r.2.1∧Ch R a t (x+r.2.1) y
theorem Ch.len {a:Array Keyed}:∀ {p:List (Nat×Nat×Nat)} {x y:Nat},Ch R a p x y→x+p.length≤y
 | [],x,y,h=> by have:x=y:=h; simp; omega
 | r::t,x,y,h=> by
  have:=Ch.len h.2.2.2
  have:=h.2.1
  simp; omega
theorem Ch.app {a:Array Keyed}:∀ {p q:List (Nat×Nat×Nat)} {x y:Nat},Ch R a (p++q) x y↔∃ z,Ch R a p x z∧Ch R a q z y
 | [],q,x,y=> ⟨fun h=> ⟨x,rfl,h⟩,fun ⟨z,h1,h2⟩=> by have:x=z:=h1; subst this; exact h2⟩
 | r::t,q,x,y=> by
  constructor
  ·rintro ⟨h1,h2,h3,h4⟩
   obtain ⟨z,z1,z2⟩:=Ch.app.mp h4
   exact ⟨z,⟨h1,h2,h3,z1⟩,z2⟩
  ·rintro ⟨z,⟨h1,h2,h3,h4⟩,h5⟩
   exact ⟨h1,h2,h3,Ch.app.mpr ⟨z,h4,h5⟩⟩
theorem Ch.congr {a b:Array Keyed}:∀ {p:List (Nat×Nat×Nat)} {x y:Nat},(∀ j,x≤j→j < y→gt b j=gt a j)→Ch R a p x y→Ch R b p x y
 | [],x,y,_,h=> h
 | r::t,x,y,e,h=> by
  have:=Ch.len h.2.2.2
  refine ⟨h.1,h.2.1,fun i j hij hj=> ?_,Ch.congr (fun j h1 h2=> e j (by omega) h2) h.2.2.2⟩
  rw [e _ (by omega) (by omega),e _ (by omega) (by omega)]
  exact h.2.2.1 i j hij hj
theorem oK (a:Array Keyed) (j:Nat):gt a j=a.toList.getD j (Value.none,Value.none):=by simp [gt]
theorem w_ {X Y:List Keyed} {j:Nat} {d:Keyed} (h:j < X.length):(X++Y).getD j d=X.getD j d:=by
 rw [List.getD_eq_getElem?_getD,List.getD_eq_getElem?_getD,List.getElem?_append_left h]
theorem tS {X Y:List Keyed} {j:Nat} {d:Keyed} (h:X.length≤j):(X++Y).getD j d=Y.getD (j - X.length) d:=by
 rw [List.getD_eq_getElem?_getD,List.getD_eq_getElem?_getD,List.getElem?_append_right h]
theorem uK {α:Type} (X:List α) (r1 r2 v:α) (Y:List α):((X++r1::r2::Y).set X.length v).eraseIdx (X.length+1)=X++v::Y:=by
 rw [List.set_append_right _ _ (Nat.le_refl _),Nat.sub_self,List.eraseIdx_append_of_length_le (by omega),Nat.add_sub_cancel_left]
 rfl
theorem parts (L:List Keyed) (x y z:Nat):L=L.take x++(L.drop x).take y++(L.drop (x+y)).take z++L.drop (x+y+z):=by
 have h1:=List.take_append_drop x L
 have h2:=List.take_append_drop y (L.drop x)
 have h3:=List.take_append_drop z (L.drop (x+y))
 rw [List.drop_drop] at h2 h3
 rw [List.append_assoc,h3,List.append_assoc,h2,h1]
variable (K:Asks prog w A E s κ P R)
include K
theorem uY (O:Ord P R l) {p:Array (Nat×Nat×Nat)} {lo i:Nat} {st:SortSt} {Q:Bool→SortSt→Prop} (S:Stt κ l p st) (C:Ch R (arrOf st) p.toList 0 lo) (hlo:lo≤l.length) (hi:i+1 < p.size)
  (h:∀ p' st',Stt κ l p' st'→Ch R (arrOf st') p'.toList 0 lo→p'.size+1=p.size→(∀ j,lo≤j→gt (arrOf st') j=gt (arrOf st) j)→Q true st'):wpS (model prog w) A E s (mergeAt' i) Q st:=by
 have lp:p.toList.length=p.size:=by simp
 have hi0:i < p.size:=by omega
 have ep:p.toList=p.toList.take i++(p[i]::p[i+1]::p.toList.drop (i+2)):=by
  conv=> lhs; rw [← List.take_append_drop i p.toList,List.drop_eq_getElem_cons (show i < p.toList.length by omega),List.drop_eq_getElem_cons (show i+1 < p.toList.length by omega)]
  rfl
 have h1:(pendingOf st)[i]?=some (p[i].1,p[i].2.1,p[i].2.2):=by rw [S.pend,Array.getElem?_eq_getElem hi0]
 have h2:(pendingOf st)[i+1]?=some (p[i+1].1,p[i+1].2.1,p[i+1].2.2):=by rw [S.pend,Array.getElem?_eq_getElem hi]
 rw [ep] at C
 obtain ⟨sa,C1,e1,n1,u1,e2,n2,u2,C2⟩:=Ch.app.mp C
 have C2l:=C2.len
 generalize hp1:p[i]=r1 at *
 generalize hp2:p[i+1]=r2 at *
 obtain ⟨s1,na,pw⟩:=r1
 obtain ⟨sb,nb,pw2⟩:=r2
 dsimp only at *
 subst e1
 subst e2
 have sz:=S.size
 have la:(arrOf st).toList.length=l.length:=by rw [Array.length_toList,sz]
 have ha:=parts (arrOf st).toList s1 na nb
 have lX:((arrOf st).toList.take s1).length=s1:=by simp; omega
 have l1:(((arrOf st).toList.drop s1).take na).length=na:=by simp; omega
 have l2:(((arrOf st).toList.drop (s1+na)).take nb).length=nb:=by simp; omega
 have c1:∀ j (hj:j < (((arrOf st).toList.drop s1).take na).length),(((arrOf st).toList.drop s1).take na)[j]=gt (arrOf st) (s1+j):=fun j hj=> by
  rw [gt_eq (by omega)]; simp
 have c2:∀ j (hj:j < (((arrOf st).toList.drop (s1+na)).take nb).length),(((arrOf st).toList.drop (s1+na)).take nb)[j]=gt (arrOf st) (s1+na+j):=fun j hj=> by
  rw [gt_eq (by omega)]; simp
 generalize hX:(arrOf st).toList.take s1=X at *
 generalize hS1:((arrOf st).toList.drop s1).take na=S1 at *
 generalize hS2:((arrOf st).toList.drop (s1+na)).take nb=S2 at *
 generalize hY:(arrOf st).toList.drop (s1+na+nb)=Y at *
 have mem:∀ x∈S1++S2,x∈l:=fun x hx=> S.perm.mem_iff.mp (by
  rw [ha]
  rcases List.mem_append.mp hx with z | z <;> simp [z])
 have nd:(X++S1++S2++Y).Nodup:=by rw [← ha]; exact S.perm.nodup_iff.mpr O.nd
 have MO1:MO R S1 S2:=by
  refine ⟨O.tr,List.pairwise_iff_getElem.mpr fun i j hi hj hij=> ?_,List.pairwise_iff_getElem.mpr fun i j hi hj hij=> ?_,fun x hx y hy hr=> O.tot y (mem y (List.mem_append_right _ hy)) x (mem x (List.mem_append_left _ hx)) (fun e=> ?_) hr⟩
  ·rw [c1 i hi,c1 j hj]; exact u1 i j hij (by omega)
  ·rw [c2 i hi,c2 j hj]; exact u2 i j hij (by omega)
  ·have nd2:=(List.nodup_append.mp nd).1
   exact (List.nodup_append.mp nd2).2.2 x (List.mem_append_right _ hx) y hy e.symm
 refine mat K S.kind S.failed h1 h2 ha lX l1 l2 rfl n1 n2 (fun x hx=> O.hp x (mem x hx)) MO1 fun S' st' k f pd' ar m=> ?_
 have lS:S'.length=na+nb:=by rw [m.1.length_eq,List.length_append,l1,l2]
 have tl:(((pendingOf st).setIfInBounds i (s1,na+nb,pw)).eraseIdxIfInBounds (i+1)).toList=p.toList.take i++((s1,na+nb,pw)::p.toList.drop (i+2)):=by
  rw [S.pend]
  have z:((p.setIfInBounds i (s1,na+nb,pw)).eraseIdxIfInBounds (i+1)).toList=(p.toList.set i (s1,na+nb,pw)).eraseIdx (i+1):=by
   rw [Array.eraseIdxIfInBounds,dif_pos (by simpa using hi),Array.toList_eraseIdx,Array.toList_setIfInBounds]
  have li:(p.toList.take i).length=i:=by simp; omega
  have y:=uK (p.toList.take i) (s1,na,pw) (s1+na,nb,pw2) (s1,na+nb,pw) (p.toList.drop (i+2))
  rw [← ep,li] at y
  rw [z,y]
 rw [← pd'] at tl
 refine h (pendingOf st') st' ⟨k,f,?_,rfl⟩ ?_ ?_ fun j hj=> ?_
 ·rw [ar]
  refine List.Perm.trans ?_ S.perm
  rw [ha]
  refine List.Perm.append_right _ ?_
  rw [List.append_assoc]
  exact List.Perm.append_left _ m.1
 ·rw [tl]
  refine Ch.app.mpr ⟨s1,C1.congr fun j h1 h2=> ?_,rfl,(by dsimp only; omega),fun x y hxy hy=> ?_,?_⟩
  ·rw [oK,oK,ar,ha]
   simp only [List.append_assoc]
   rw [w_ (by omega),w_ (by omega)]
  ·have q:∀ j (hj:j < S'.length),gt (arrOf st') (s1+j)=S'[j]:=fun j hj=> by
    rw [gt_eq (by rw [ar]; simp; omega)]
    simp only [ar]
    rw [List.getElem_append_left (by simp; omega),List.getElem_append_right (by omega)]
    congr 1; omega
   dsimp only at hy
   rw [q x (by omega),q y (by omega)]
   exact List.pairwise_iff_getElem.mp m.2 _ _ _ _ hxy
  ·dsimp only
   rw [← Nat.add_assoc]
   refine C2.congr fun j h1 h2=> ?_
   rw [oK,oK,ar,ha]
   rw [tS (by simp; omega),tS (by simp; omega)]
   congr 1
   simp; omega
 ·have:(pendingOf st').toList.length=_:=congrArg List.length tl
  simp at this
  omega
 ·rw [oK,oK,ar,ha]
  rw [tS (by simp; omega),tS (by simp; omega)]
  congr 1
  simp; omega
end
end TS
namespace TS
open PySem PyProof.Rows
section
variable {prog:Program} {w:World} {A:Around} {E:Value→Shared→Prop} {s:Shared} {κ:SortKind} {P:Keyed→Prop} {R:Keyed→Keyed→Bool} {l:List Keyed}
theorem ilt {c:Prop} [Decidable c] {a b n:Nat} (h1:a+1 < n) (h2:b+1 < n):(if c then a else b)+1 < n:=by split <;> assumption
theorem Ch.modL {a:Array Keyed} (pw:Nat):∀ {p:List (Nat×Nat×Nat)} (k:Nat) {x y:Nat},Ch R a p x y→Ch R a (p.modify k fun r=> (r.1,r.2.1,pw)) x y
 | [],k,x,y,h=> by rw [List.modify_nil]; exact h
 | r::t,0,x,y,h=> by rw [List.modify_zero_cons]; exact h
 | r::t,k+1,x,y,h=> by rw [List.modify_succ_cons]; exact ⟨h.1,h.2.1,h.2.2.1,Ch.modL pw k h.2.2.2⟩
theorem Ch.mod {a:Array Keyed} {p:Array (Nat×Nat×Nat)} {x y:Nat} (h:Ch R a p.toList x y) (pw k:Nat):Ch R a (p.modify k fun r=> (r.1,r.2.1,pw)).toList x y:=by
 rw [Array.toList_modify]; exact h.modL pw k
variable (K:Asks prog w A E s κ P R)
include K
set_option maxHeartbeats 2000000 in
theorem sruns (O:Ord P R l) {st:SortSt} {Q:Unit→SortSt→Prop} (S:Stt κ l #[] st) (h:∀ pd st',Stt κ l pd st'→Up R (arrOf st') 0 l.length→Q () st'):wpS (model prog w) A E s sortRuns' Q st:=by
 rw [sortRuns'_eq]
 refine wpS_bind (wpS_get ?_)
 try dsimp only
 simp only [S.size]
 generalize minRun' l.length l.length 0=mr
 refine wpS_bind (wpS_mono (wpS_forRange (I:=fun x c st'=> ∃ lo pd,c=(none,lo)∧Stt κ l pd st'∧Ch R (arrOf st') pd.toList 0 lo∧lo≤l.length∧x≤lo) (Q:=fun c st'=> ∃ pd,c=(none,l.length)∧Stt κ l pd st'∧Ch R (arrOf st') pd.toList 0 l.length) ?step ?fin ⟨0,#[],rfl,S,rfl,Nat.zero_le _,Nat.zero_le _⟩) ?post)
 case fin=>
  rintro c st' ⟨lo,pd,rfl,S',C,hlo,px⟩
  obtain rfl:lo=l.length:=by omega
  exact ⟨pd,rfl,S',C⟩
 case step=>
  rintro x c st' _ hx ⟨lo,pd,rfl,S',C,hlo,px⟩
  try dsimp only
  by_cases hge:lo ≥ l.length
  ·rw [if_pos hge]
   obtain rfl:lo=l.length:=by omega
   exact wpS_pure ⟨pd,rfl,S',C⟩
  rw [if_neg hge]
  refine wpS_bind (cnt K O (show lo+(l.length - lo)≤l.length by omega) (by omega) S' fun m st2 S2 kp m1 m2 u=> ?_)
  try dsimp only
  have C2:Ch R (arrOf st2) pd.toList 0 lo:=C.congr fun j _ hj=> kp j hj
  by_cases hm:m < mr
  ·rw [if_pos hm]
   refine wpS_bind (ru ?_)
   refine wpS_bind (xN K O (show lo+min (l.length - lo) mr≤l.length by omega) (show m≤min (l.length - lo) mr by omega) S2 u fun st3 S3 k3 u3=> ?_)
   simp only [Bool.not_true,Bool.false_eq_true,if_false]
   have C3:Ch R (arrOf st3) pd.toList 0 lo:=C2.congr fun j _ hj=> k3 j hj
   have f1:0 < min (l.length - lo) mr:=by omega
   have f2:min (l.length - lo) mr≤l.length - lo:=by omega
   generalize min (l.length - lo) mr=nn at *
   refine wpS_bind (wpS_get ?_)
   have hp:pendingOf st3=pd:=S3.pend
   rw [hp]
   cases hb:pd.back? with
   | none=>
    try dsimp only
    refine wpS_bind (wpS_modify (wpS_pure ⟨lo+nn,pd.push (lo,nn,0),rfl,?_,?_,by omega,by omega⟩))
    ·exact ⟨S3.kind,S3.failed,S3.perm,by show (pendingOf st3).push _=_; rw [hp]⟩
    ·rw [Array.toList_push]
     exact Ch.app.mpr ⟨lo,C3,rfl,f1,u3,rfl⟩
   | some v=>
    obtain ⟨s1,n1,pw0⟩:=v
    try dsimp only
    generalize power' _ _ _ _=pw
    refine wpS_bind (wpS_mono (wpS_forRange (I:=fun _ c st'=> ∃ pd,c=(none,())∧Stt κ l pd st'∧Ch R (arrOf st') pd.toList 0 lo∧Up R (arrOf st') lo (nn)) (Q:=fun c st'=> ∃ pd,c=(none,())∧Stt κ l pd st'∧Ch R (arrOf st') pd.toList 0 lo∧Up R (arrOf st') lo (nn)) ?_ (fun _ _ z=> z) ⟨pd,rfl,S3,C3,u3⟩) ?_)
    ·rintro y c st4 _ hy ⟨pd,rfl,S4,C4,u4⟩
     try dsimp only
     refine wpS_bind (wpS_get ?_)
     rw [S4.pend]
     by_cases hs:pd.size > 1
     ·rw [if_pos hs,Array.getElem?_eq_getElem (show pd.size - 2 < pd.size by omega)]
      generalize pd[pd.size - 2]=q
      obtain ⟨q1,q2,q3⟩:=q
      try dsimp only
      by_cases ho:q3≤pw
      ·rw [if_pos ho]
       exact wpS_pure ⟨pd,rfl,S4,C4,u4⟩
      ·rw [if_neg ho]
       refine wpS_bind (uY K O S4 C4 hlo (show pd.size - 2+1 < pd.size by omega) fun p' st5 S5 C5 _ k5=> ?_)
       simp only [Bool.not_true,Bool.false_eq_true,if_false]
       exact wpS_pure ⟨p',rfl,S5,C5,fun i j hij hj=> by rw [k5 _ (by omega),k5 _ (by omega)]; exact u4 i j hij hj⟩
     ·rw [if_neg hs]
      exact wpS_pure ⟨pd,rfl,S4,C4,u4⟩
    ·rintro c st4 ⟨pd,rfl,S4,C4,u4⟩
     try dsimp only
     have hp4:=S4.pend
     refine wpS_bind (wpS_modify ?_)
     refine wpS_bind (wpS_modify (wpS_pure ⟨lo+nn,(pd.modify (pd.size - 1) fun r=> (r.1,r.2.1,pw)).push (lo,nn,0),rfl,?_,?_,by omega,by omega⟩))
     ·refine ⟨S4.kind,S4.failed,S4.perm,?_⟩
      show ((pendingOf st4).modify ((pendingOf st4).size - 1) fun r=> (r.1,r.2.1,pw)).push _=_
      rw [hp4]
     ·rw [Array.toList_push]
      exact Ch.app.mpr ⟨lo,C4.mod pw _,rfl,f1,u4,rfl⟩
  ·rw [if_neg hm]
   refine wpS_bind (wpS_get ?_)
   have hp:pendingOf st2=pd:=S2.pend
   rw [hp]
   cases hb:pd.back? with
   | none=>
    try dsimp only
    refine wpS_bind (wpS_modify (wpS_pure ⟨lo+m,pd.push (lo,m,0),rfl,?_,?_,by omega,by omega⟩))
    ·exact ⟨S2.kind,S2.failed,S2.perm,by show (pendingOf st2).push _=_; rw [hp]⟩
    ·rw [Array.toList_push]
     exact Ch.app.mpr ⟨lo,C2,rfl,(show 0 < m by omega),u,rfl⟩
   | some v=>
    obtain ⟨s1,n1,pw0⟩:=v
    try dsimp only
    generalize power' _ _ _ _=pw
    refine wpS_bind (wpS_mono (wpS_forRange (I:=fun _ c st'=> ∃ pd,c=(none,())∧Stt κ l pd st'∧Ch R (arrOf st') pd.toList 0 lo∧Up R (arrOf st') lo (m)) (Q:=fun c st'=> ∃ pd,c=(none,())∧Stt κ l pd st'∧Ch R (arrOf st') pd.toList 0 lo∧Up R (arrOf st') lo (m)) ?_ (fun _ _ z=> z) ⟨pd,rfl,S2,C2,u⟩) ?_)
    ·rintro y c st4 _ hy ⟨pd,rfl,S4,C4,u4⟩
     try dsimp only
     refine wpS_bind (wpS_get ?_)
     rw [S4.pend]
     by_cases hs:pd.size > 1
     ·rw [if_pos hs,Array.getElem?_eq_getElem (show pd.size - 2 < pd.size by omega)]
      generalize pd[pd.size - 2]=q
      obtain ⟨q1,q2,q3⟩:=q
      try dsimp only
      by_cases ho:q3≤pw
      ·rw [if_pos ho]
       exact wpS_pure ⟨pd,rfl,S4,C4,u4⟩
      ·rw [if_neg ho]
       refine wpS_bind (uY K O S4 C4 hlo (show pd.size - 2+1 < pd.size by omega) fun p' st5 S5 C5 _ k5=> ?_)
       simp only [Bool.not_true,Bool.false_eq_true,if_false]
       exact wpS_pure ⟨p',rfl,S5,C5,fun i j hij hj=> by rw [k5 _ (by omega),k5 _ (by omega)]; exact u4 i j hij hj⟩
     ·rw [if_neg hs]
      exact wpS_pure ⟨pd,rfl,S4,C4,u4⟩
    ·rintro c st4 ⟨pd,rfl,S4,C4,u4⟩
     try dsimp only
     have hp4:=S4.pend
     refine wpS_bind (wpS_modify ?_)
     refine wpS_bind (wpS_modify (wpS_pure ⟨lo+m,(pd.modify (pd.size - 1) fun r=> (r.1,r.2.1,pw)).push (lo,m,0),rfl,?_,?_,by omega,by omega⟩))
     ·refine ⟨S4.kind,S4.failed,S4.perm,?_⟩
      show ((pendingOf st4).modify ((pendingOf st4).size - 1) fun r=> (r.1,r.2.1,pw)).push _=_
      rw [hp4]
     ·rw [Array.toList_push]
      exact Ch.app.mpr ⟨lo,C4.mod pw _,rfl,(show 0 < m by omega),u4,rfl⟩
 case post=>
  rintro c st' ⟨pd,rfl,S',C⟩
  try dsimp only
  refine wpS_bind (wpS_mono (wpS_forRange (I:=fun x c st'=> ∃ pd,c=(none,())∧Stt κ l pd st'∧Ch R (arrOf st') pd.toList 0 l.length∧(pd.size≤1∨pd.size≤l.length - x)) (Q:=fun c st'=> ∃ pd,c=(none,())∧Stt κ l pd st'∧Ch R (arrOf st') pd.toList 0 l.length∧pd.size≤1) ?s2 ?f2 ⟨pd,rfl,S',C,.inr (by have:=C.len; rw [Array.length_toList] at this; omega)⟩) ?p2)
  case s2=>
   rintro y c st4 _ hy ⟨pd,rfl,S4,C4,hs⟩
   try dsimp only
   refine wpS_bind (wpS_get ?_)
   rw [S4.pend]
   by_cases h1:pd.size≤1
   ·rw [if_pos h1]
    exact wpS_pure ⟨pd,rfl,S4,C4,h1⟩
   ·rw [if_neg h1]
    refine wpS_bind (uY K O S4 C4 (Nat.le_refl _) (ilt (by omega) (by omega)) fun p' st5 S5 C5 e5 k5=> ?_)
    simp only [Bool.not_true,Bool.false_eq_true,if_false]
    exact wpS_pure ⟨p',rfl,S5,C5,by omega⟩
  case f2=>
   rintro c st4 ⟨pd,rfl,S4,C4,hs⟩
   exact ⟨pd,rfl,S4,C4,by omega⟩
  case p2=>
   rintro c st4 ⟨pd,rfl,S4,C4,h1⟩
   refine wpS_pure (h pd st4 S4 ?_)
   rw [← Array.length_toList] at h1
   generalize pd.toList=L at *
   cases L with
   | nil=> have:0=l.length:=C4
           intro i j hij hj; omega
   | cons r t=>
    cases t with
    | nil=>
     obtain ⟨_,_,u,e⟩:=C4
     have e':0+r.2.1=l.length:=e
     rw [Nat.zero_add] at e'
     rw [← e']; exact u
    | cons r2 t=> simp at h1
end
end TS
namespace ST
open PySem PySem.W PyProof.Rows
theorem wk {α β:Type} {f:α→β}:∀ {l1 l2:List β},l1.Perm l2→∀ l:List α,l2=l.map f→∃ l':List α,l'.Perm l∧l'.map f=l1:=by
 intro l1 l2 h
 induction h with
 | nil=> intro l e; exact ⟨l,.refl _,e.symm⟩
 | cons x _ ih=>
  intro l e
  cases l with
  | nil=> cases e
  | cons a t=>
   obtain ⟨e1,e2⟩:=List.cons.inj e
   obtain ⟨l',p,q⟩:=ih t e2
   exact ⟨a::l',p.cons a,by rw [List.map_cons,q,e1]⟩
 | swap x y r=>
  intro l e
  match l,e with
  | a::b::t,e=>
   obtain ⟨e1,e2⟩:=List.cons.inj e
   obtain ⟨e3,e4⟩:=List.cons.inj e2
   exact ⟨b::a::t,.swap a b t,by rw [List.map_cons,List.map_cons,e1,e3,e4]⟩
 | trans _ _ ih1 ih2=>
  intro l e
  obtain ⟨l',p,q⟩:=ih2 l e
  obtain ⟨l'',p2,q2⟩:=ih1 l' q.symm
  exact ⟨l'',p2.trans p,q2⟩
abbrev ky (p:(Int×Int)×Addr):Keyed:=(Value.ref p.2,Value.ref p.2)
open Classical in
noncomputable def RP (pb:PB) (x y:Keyed):Bool:=decide (∃ p∈pb,∃ q∈pb,x=ky p∧y=ky q∧ltP p.1 q.1=true)
section
variable {prog:Program} {w:World} {A:Around} {E:Value→Shared→Prop} {s:Shared}
end
end ST
namespace ST
open PySem PySem.W PyProof.Rows PySem.Calls
section
variable {prog:Program} {w:World} {A:Around} {E:Value→Shared→Prop} {s:Shared}
end
end ST
namespace L2
open PySem PySem.Spec PyProof.Rows
section
variable {X:Cx} {H0:Hp} {O0:List Addr} {ps:PSt} {e:Expr} {pts:List P2} {pos pos' p p':Pos}
end
end L2
namespace L2
open PySem PySem.Spec PyProof.Rows
section
variable {X:Cx} {tg:Expr}
variable {H0:Hp} {O0:List Addr} {ps:PSt} {a:Expr} {p pos:Pos}
end
end L2
namespace ST
open PySem PySem.W PySem.Calls PyProof.Rows
section
variable {prog:Program} {w:World} {A:Around} {E:Value→Shared→Prop} {s:Shared}
end
end ST
namespace L2
open PySem PySem.Spec PyProof.Rows
section
variable {X:Cx} {H0:Hp} {O0:List Addr} {ps:PSt} {e:Expr} {pts:List P2} {pos p:Pos}
end
end L2
namespace L2
open PySem PySem.Spec PyProof.Rows
section
variable {X:Cx} {H0:Hp} {O0:List Addr} {E:XK} {ps ps':PSt} {D:PD} {a b c e:Expr} {es:List Expr} {u:U} {xs ys us:List U}
 {n:Nat} {C:Addr} {fd:FuncData} {pn:List Str} {spec:List U→Out→Prop}
end
end L2
namespace L2
open PySem PySem.Spec PySem.W PyProof.Rows
section
variable {X:Cx} {H0:Hp} {O0:List Addr} {E:XK} {ps:PSt} {D:PD} {s:Stmt} {pos:Pos} {u:U} {xs:List U}
end
section
variable {P:Program} {w:World} {K:PySem.W.Frag} {mg:Str→Option Value} {base:Heap} {N pn:List Str} {qual nm:Str} {f:Addr}
end
section
variable {X:Cx} {H0:Hp} {O0:List Addr} {ps:PSt} {e:Expr} {xs:List U} {us:List U} {x nm:Str} {pc p' pos:Pos} {u:U}
end
end L2
namespace L2
open PySem PySem.Spec PySem.W PyProof.Rows
section
variable {X:Cx}
end
section
variable {X:Cx} {H0:Hp} {O0:List Addr} {E:XK} {ps:PSt} {D:PD} {e c:Expr} {es:List Expr} {us:List U} {n:Nat} {fd:FuncData} {pn:List Str} {spec:List U→Out→Prop} {AA rest:List Stmt} {nx:PSt→Prop} {ex:PSt→Addr→Prop}
end
end L2
namespace L2
open PySem PySem.Spec PySem.W PyProof.Rows
abbrev T' (l:List Nat):Str:=⟨l.toArray⟩
section
variable {X:Cx} {tg:Expr}
end
abbrev sg (c:Nat):U:=.str ⟨#[c]⟩
section
variable {X:Cx} {H0:Hp} {O0:List Addr} {ps:PSt} {a b e tg:Expr} {es:List Expr} {pos p p2:Pos} {x y:Str} {i:Int} {lo hi:Option Expr} {l h:Option Int}
variable {apos cpos:Pos}
end
inductive Cst:Expr→U→Prop
 | str (x:Str) (j) (p:Pos):Cst (.Constant (.str x) j p) (.str x)
 | int (i:Int) (j) (p:Pos):Cst (.Constant (.int i) j p) (.int i)
 | bl (b:Bool) (j) (p:Pos):Cst (.Constant (.bool b) j p) (.bl b)
 | non (j) (p:Pos):Cst (.Constant .none j p) .non
inductive uV:List Expr→List U→Prop
 | nil:uV [] []
 | cons {e:Expr} {u:U} {es:List Expr} {us:List U}:Cst e u→uV es us→uV (e::es) (u::us)
structure EvD (X:Cx) (H0:Hp) (O0:List Addr) (ps:PSt) (e:Expr) (u:U):Prop where
 ev:Ev X H0 O0 ps e u
end L2
namespace L2
open PySem PySem.Spec PySem.W PyProof.Rows
section
variable {X:Cx} {H0:Hp} {O0:List Addr} {ps:PSt} {a b e:Expr} {x y:Str}
variable {apos cpos:Pos}
end
section
variable {X:Cx} {H0:Hp} {O0:List Addr} {E:XK} {ps:PSt} {a b e:Expr} {es:List Expr} {y:Str} {l:List Nat} {c:Nat} {apos cpos pos:Pos} {u:U} {C:Addr}
end
end L2
namespace L2
open PySem PySem.Spec PySem.W PyProof.Rows
section
variable {M:Model} {A:Around} {E:Value→Shared→Prop} {s:Shared}
end
section
variable {P:Program} {w:World} {K:Frag} {mg:Str→Option Value} {base:Heap} {N:List Str} {qual:Str} {scope:Scope} {f:Addr} {cd:Value} {A:Around} {outer:List Env} {s:Shared} {H:Hp} {E:XK}
end
section
variable {X:Cx} {pins:List (Addr×Obj)} {σ:St} {H:Hp} {s:Shared} {E:XK}
end
section
variable {X:Cx} {H0:Hp} {O0:List Addr} {E:XK} {ps:PSt} {iter tg elt e:Expr} {es:List Expr} {pos p:Pos} {xs ys us:List U} {C0:Addr}
end
structure EvM (X:Cx) (H0:Hp) (O0:List Addr) (ps:PSt) (e:Expr) (us:List U):Prop where
 ev:EvN X H0 O0 ps e us
end L2
namespace L2
open PySem PySem.Spec PyProof.Rows
section
variable {X:Cx} {H0:Hp} {O0:List Addr} {E:XK} {ps:PSt} {D:PD} {e1 e2:Expr} {xs1 xs2:List U} {pos lpos:Pos} {body:List Stmt}
end
end L2
namespace L2
open PySem PySem.Spec PyProof.Rows
end L2
namespace L2
open PySem PySem.Spec PyProof.Rows
structure Dl (K:PySem.W.Frag) (ps:PSt) (j:Nat) (xss:Nat→List U) (H0:Hp) (O0:List Addr) (σ:St) (H:Hp) (O:List Addr) (d:Addr) (as:Nat→Addr):Prop where
 rs:Rs K H0 O0 ps σ H O
 vals:∀ (i:Nat) (s:Sl),ps[i]?=some (some s)→∃ u,s=.val u
 non:ps[j]?=some none
 at_:σ[j]?=some (some (.ref d))
 dO:d∈O
 dO0:d ∉ O0
 aO:∀ r,r < 3→as r∈O∧as r ∉ O0
 da:∀ r,r < 3→as r≠d
 inj:∀ r t,r < 3→t < 3→as r=as t→r=t
 dh:H d=some (.lst [.ref (as 0),.ref (as 1),.ref (as 2)])
 ah:∀ r,r < 3→∃ vs,H (as r)=some (.lst vs)∧Rps K (hid H O) vs (xss r)
section
variable {K:PySem.W.Frag} {H0 H H':Hp} {O0 O:List Addr} {ps:PSt} {σ:St} {j:Nat} {xss:Nat→List U} {d:Addr} {as:Nat→Addr}
theorem Rs.setn {o:Option V} (R:Rs K H0 O0 ps σ H O) (h:ps[j]?=some none):Rs K H0 O0 ps (σ.set j o) H O:=by
 have ne:∀ {i:Nat} {s:Sl},ps[i]?=some (some s)→j≠i:=fun {i s} q z=> by rw [← z,h] at q; cases q
 refine ⟨R.same,R.old,R.new,R.dom,by simp [R.len],fun i s q=> ?_,fun i k xs ys a q1 q2 q3 q4=> ?_⟩
 ·obtain ⟨v,h1,h2⟩:=R.at_ i s q
  exact ⟨v,by rw [List.getElem?_set_ne (ne q)]; exact h1,h2⟩
 ·rw [List.getElem?_set_ne (ne q1)] at q3
  rw [List.getElem?_set_ne (ne q2)] at q4
  exact R.inj i k xs ys a q1 q2 q3 q4
end
section
variable {X:Cx} {H0:Hp} {O0:List Addr} {E:XK} {ps:PSt} {D:PD} {iter e1 e2:Expr} {items:List U} {ss:List Stmt}
end
end L2
namespace ST2
open PySem PySem.SetTable ST
section
variable {prog:Program} {w:World} {A:Around} {E:Value→Shared→Prop} {s:Shared}
abbrev K4:=(Int×Int)×(Int×Int)
abbrev l1 (k:K4):List Int:=[k.1.1,k.1.2]
abbrev l2 (k:K4):List Int:=[k.2.1,k.2.2]
def TQ (prog:Program) (w:World) (h:Heap) (k:K4) (b:Addr):Prop:=∃ o items n a1 a2,h.get? b=some o∧o.cls=.type "tuple"∧o.data=.seq items n∧items.toList=[.ref a1,.ref a2]∧TK prog w h (l1 k) a1∧TK prog w h (l2 k) a2
end
end ST2
namespace ST2
open PySem PySem.SetTable ST
section
variable {prog:Program} {w:World} {A:Around} {E:Value→Shared→Prop} {s:Shared} {hZ:K4→Int}
def ents (hZ:K4→Int) (kb:List (K4×Addr)):List (Int×Value):=kb.map fun p=> (hZ p.1,.ref p.2)
structure SP (prog:Program) (w:World) (hZ:K4→Int) (h:Heap) (S:Addr) (kb:List (K4×Addr)):Prop where
 ex:∃ o es ep t,h.get? S=some o∧o.ExactSet∧o.data=.set es ep t∧es.toList=ents hZ kb∧TOk t (kb.map fun p=> hZ p.1)∧t.led=(!w.params.followText "set-order")∧t.plain=true∧t.tooFull=false∧t.mask < 8 * kb.length+8
 keys:∀ p∈kb,TQ prog w h p.1 p.2
 nd:(kb.map (·.1)).Nodup
end
section
variable {prog:Program} {w:World} {A:Around}
structure Got (kx:Nat→K4×Addr) (i:Nat) (kb:List (K4×Addr)):Prop where
 src:∀ p∈kb,∃ j,j < i∧p=kx j
 all:∀ j,j < i→(kx j).1∈kb.map (·.1)
 len:kb.length≤i
variable {R:Result→Shared→Prop} {I:Addr} {fp wr:List Addr} {G:Array GenState→Array GenState→Prop} {n:Nat} {P:Nat→Value→Prop} {St:Nat→Shared→Prop}
end
section
variable {prog:Program} {w:World} {A:Around} {E:Value→Shared→Prop} {s:Shared}
end
end ST2
namespace ST
open PySem PySem.W PySem.Calls PyProof.Rows
section
variable {prog:Program} {w:World} {A:Around} {E:Value→Shared→Prop} {s:Shared}
end
end ST
namespace L2
open PySem PySem.Spec PyProof.Rows
section
variable {X:Cx} {H0:Hp} {O0:List Addr} {ps:PSt} {e:Expr} {p pos:Pos} {a b:P2}
end
section
variable {X:Cx} {H0:Hp} {O0:List Addr} {ps:PSt} {e:Expr} {pts:List P2} {prs dd:List (P2×P2)} {pos pos' p p':Pos}
end
end L2
namespace HT
open PySem PySem.W PySem.Spec PyProof.Rows L2
section
variable {prog:Program} {w:World} {A:Around} {E:Value→Shared→Prop} {s:Shared}
end
end HT
namespace L2
open PySem PySem.Spec PyProof.Rows
section
variable {X:Cx} {H0:Hp} {O0:List Addr} {E:XK} {ps:PSt} {D:PD} {e:Expr} {lo hi:Option Expr} {l h:Option Int} {pos p2:Pos} {xs ys:List U}
end
end L2
namespace L2
open PySem PySem.Spec PySem.W PyProof.Rows
open PySem.Builtin.Str in
def xQ (x y z:Str):Str:=if ((occurrences x y 0 x.length 1).isEmpty || (y.length==0 && z.length==0))=true then x else glued z (partsBetween x (occurrences x y 0 x.length 1) y.length)
section
variable {prog:Program} {w:World} {A:Around} {E:Value→Shared→Prop} {s:Shared} {x y z:Str} {t u v k:Tok} {Q:Value→Shared→Prop}
end
section
variable {X:Cx} {H0:Hp} {O0:List Addr} {E:XK} {ps:PSt} {D:PD}
end
end L2
namespace ST3
open PySem PySem.W PySem.Calls PyProof.Rows ST
abbrev TR:=(Int×Int)×(Int×Int)×(Int×Int)
def ltT (a b:TR):Bool:=if a.1=b.1 then (if a.2.1=b.2.1 then ltP a.2.2 b.2.2 else ltP a.2.1 b.2.1) else ltP a.1 b.1
section
variable {prog:Program} {w:World} {A:Around} {E:Value→Shared→Prop} {s:Shared}
abbrev lq (p:Int×Int):List Int:=[p.1,p.2]
def TT (prog:Program) (w:World) (h:Heap) (t:TR) (b:Addr):Prop:=∃ o items n a1 a2 a3,h.get? b=some o∧o.cls=.type "tuple"∧o.data=.seq items n∧items.toList=[.ref a1,.ref a2,.ref a3]∧TK prog w h (lq t.1) a1∧TK prog w h (lq t.2.1) a2∧TK prog w h (lq t.2.2) a3
abbrev PT3:=List (TR×Addr)
end
section
variable {prog:Program} {w:World} {A:Around} {E:Value→Shared→Prop} {s:Shared}
abbrev ky3 (p:TR×Addr):Keyed:=(Value.ref p.2,Value.ref p.2)
open Classical in
noncomputable def RP3 (pb:PT3) (x y:Keyed):Bool:=decide (∃ p∈pb,∃ q∈pb,x=ky3 p∧y=ky3 q∧ltT p.1 q.1=true)
end
section
variable {prog:Program} {w:World} {A:Around} {E:Value→Shared→Prop} {s:Shared}
end
end ST3
namespace L2
open PySem PySem.Spec PyProof.Rows
def t0:ST3.TR:=((0,0),(0,0),(0,0))
section
variable {X:Cx} {H0:Hp} {O0:List Addr} {ps:PSt} {e:Expr} {trs:List ST3.TR} {pos p:Pos}
theorem wZ {a b c:V} {us:List Value} (h:aK [a,b,c] us):∃ u v w,us=[u,v,w]∧aU a u∧aU b v∧aU c w:=by
 cases h with
 | cons h1 r=>
  cases r with
  | cons h2 r=>
   cases r with
   | cons h3 r=> cases r; exact ⟨_,_,_,rfl,h1,h2,h3⟩
end
end L2
namespace ST6
open PySem PySem.W PySem.Calls PyProof.Rows ST
def ltL:List Int→List Int→Bool
 | a::r,b::t=> if a=b then ltL r t else decide (a < b)
 | [],_::_=> true
 | _,[]=> false
theorem nS:∀ x:List Int,ltL x x=false
 | []=> rfl
 | a::r=> by rw [ltL,if_pos rfl]; exact nS r
theorem m8:∀ {a b:List Int},ltL a b=true→ltL b a=false
 | [],[],_=> rfl
 | [],_::_,_=> rfl
 | _::_,[],h=> by cases h
 | a::r,b::t,h=> by
  rw [ltL] at h ⊢
  by_cases e:a=b
  ·rw [if_pos e] at h
   rw [if_pos e.symm]; exact m8 h
  ·rw [if_neg e] at h
   rw [if_neg (Ne.symm e)]
   have:=of_decide_eq_true h
   exact decide_eq_false (by omega)
theorem ke:∀ {a b:List Int},a≠b→ltL a b=false→ltL b a=true
 | [],[],h,_=> absurd rfl h
 | [],_::_,_,h=> by cases h
 | _::_,[],_,_=> rfl
 | a::r,b::t,h,k=> by
  rw [ltL] at k ⊢
  by_cases e:a=b
  ·rw [if_pos e] at k
   rw [if_pos e.symm]
   exact ke (fun z=> h (by rw [e,z])) k
  ·rw [if_neg e] at k
   rw [if_neg (Ne.symm e)]
   have:=of_decide_eq_false k
   exact decide_eq_true (by omega)
theorem md:∀ {a b c:List Int},ltL a b=true→ltL b c=true→ltL a c=true
 | [],[],_,h,_=> by cases h
 | [],_::_,[],_,k=> by cases k
 | [],_::_,_::_,_,_=> rfl
 | _::_,[],_,h,_=> by cases h
 | _::_,_::_,[],_,k=> by cases k
 | a::r,b::t,c::u,h,k=> by
  rw [ltL] at h k ⊢
  by_cases e:a=b
  ·rw [if_pos e] at h
   by_cases f:b=c
   ·rw [if_pos f] at k
    rw [if_pos (e.trans f)]; exact md h k
   ·rw [if_neg f] at k
    rw [if_neg (by rw [e]; exact f),e]; exact k
  ·rw [if_neg e] at h
   have h1:=of_decide_eq_true h
   by_cases f:b=c
   ·rw [if_neg (by rw [← f]; exact e),← f]; exact h
   ·rw [if_neg f] at k
    have h2:=of_decide_eq_true k
    rw [if_neg (by omega)]
    exact decide_eq_true (by omega)
def fN (x:(List Int)):List (List Int)→List (List Int)
 | []=> [x]
 | y::r=> if x=y then y::r else if ltL x y=true then x::y::r else y::fN x r
def srtL (pts:List (List Int)):List (List Int):=pts.foldr fN []
theorem fU (x z:(List Int)):∀ l,z∈fN x l↔z=x∨z∈l
 | []=> by simp [fN]
 | y::r=> by
  unfold fN
  split
  ·rename_i h; subst h; simp
  ·split
   ·simp
   ·rw [List.mem_cons,fU x z r,List.mem_cons]
    constructor
    ·rintro (h | h | h)
     ·exact .inr (.inl h)
     ·exact .inl h
     ·exact .inr (.inr h)
    ·rintro (h | h | h)
     ·exact .inr (.inl h)
     ·exact .inl h
     ·exact .inr (.inr h)
abbrev qg (l:List (List Int)):Prop:=l.Pairwise (fun x y=> ltL x y=true)
theorem hW (x:(List Int)):∀ l,qg l→qg (fN x l)
 | [],_=> by simp [fN]
 | y::r,h=> by
  unfold fN
  split
  ·exact h
  ·rename_i hne
   obtain ⟨h1,h2⟩:=List.pairwise_cons.mp h
   split
   ·rename_i hlt
    refine List.pairwise_cons.mpr ⟨fun z hz=> ?_,h⟩
    rcases List.mem_cons.mp hz with e | e
    ·rw [e]; exact hlt
    ·exact md hlt (h1 z e)
   ·rename_i hlt
    refine List.pairwise_cons.mpr ⟨fun z hz=> ?_,hW x r h2⟩
    rcases (fU x z r).mp hz with e | e
    ·rw [e]; exact ke hne (by simpa using hlt)
    ·exact h1 z e
theorem srtL_mem (z:(List Int)):∀ l,z∈srtL l↔z∈l
 | []=> by simp [srtL]
 | y::r=> by
  show z∈fN y (srtL r)↔_
  rw [fU,srtL_mem z r,List.mem_cons]
theorem srtL_ascL:∀ l,qg (srtL l)
 | []=> List.Pairwise.nil
 | y::r=> hW y (srtL r) (srtL_ascL r)
theorem ascL_irr {x:(List Int)}:ltL x x=false:=nS x
theorem ascL_one:∀ {l m:List (List Int)},qg l→qg m→(∀ z,z∈l↔z∈m)→l=m
 | [],[],_,_,_=> rfl
 | [],y::r,_,_,h=> by have:=(h y).mpr List.mem_cons_self; simp at this
 | x::l,[],_,_,h=> by have:=(h x).mp List.mem_cons_self; simp at this
 | x::l,y::m,hl,hm,h=> by
  obtain ⟨a1,a2⟩:=List.pairwise_cons.mp hl
  obtain ⟨b1,b2⟩:=List.pairwise_cons.mp hm
  have e:x=y:=by
   rcases List.mem_cons.mp ((h x).mp List.mem_cons_self) with z | z
   ·exact z
   ·rcases List.mem_cons.mp ((h y).mpr List.mem_cons_self) with z' | z'
    ·exact z'.symm
    ·have:=m8 (b1 x z)
     rw [a1 y z'] at this; cases this
  subst e
  congr 1
  refine ascL_one a2 b2 fun z=> ⟨fun hz=> ?_,fun hz=> ?_⟩
  ·rcases List.mem_cons.mp ((h z).mp (List.mem_cons_of_mem _ hz)) with e | e
   ·have:=a1 z hz; rw [e,ascL_irr] at this; cases this
   ·exact e
  ·rcases List.mem_cons.mp ((h z).mpr (List.mem_cons_of_mem _ hz)) with e | e
   ·have:=b1 z hz; rw [e,ascL_irr] at this; cases this
   ·exact e
section
variable {prog:Program} {w:World} {A:Around} {E:Value→Shared→Prop} {s:Shared}
theorem TK6.grow {h h':Heap} {k:List Int} {b:Addr} (x:TK prog w h k b) (e:∀ b o,o.cls=.type "tuple"→h.get? b=some o→h'.get? b=some o):TK prog w h' k b:=by
 obtain ⟨o,it,n,g1,gc,g2⟩:=x
 exact ⟨o,it,n,e _ _ gc g1,gc,g2⟩
theorem TK6.det {h:Heap} {p q:List Int×Addr} (hp:TK prog w h p.1 p.2) (hq:TK prog w h q.1 q.2) (e:p.2=q.2):p=q:=by
 rw [e] at hp
 exact Prod.ext (hp.inj hq) e
theorem lc {Q:Bool→Shared→Prop}:∀ (ks ls:List Int) (xs ys:List Value) (i:Nat),ItemsAre (intKind prog w) ks xs→ItemsAre (intKind prog w) ls ys→ks.length=ls.length→Q (ltL ks ls) s→KatLex prog w A true false Q (xs.zip ys) i s
 | [],[],xs,ys,i,hx,hy,_,h=> by cases hx; cases hy; exact kat_nil h
 | a::ks,b::ls,xs,ys,i,hx,hy,hl,h=> by
  cases hx with
  | @cons _ v _ xs h1 hx=>
   cases hy with
   | @cons _ u _ ys h2 hy=>
    rw [List.zip_cons_cons]
    refine kat_cons ((intKind prog w).eqBool (a:=a) (b:=b) h1 h2 ?_)
    rw [ltL] at h
    by_cases e:a=b
    ·rw [decide_eq_true e]
     rw [if_pos e] at h
     exact kat_yes (lc ks ls xs ys (i+1) hx hy (by simpa using hl) h)
    ·rw [decide_eq_false e]
     rw [if_neg e] at h
     obtain ⟨t1,rfl⟩:=Value.isInt_shape h1
     obtain ⟨t2,rfl⟩:=Value.isInt_shape h2
     cases i with
     | zero=> exact kat_no (oneLt_int h)
     | succ i=> exact kat_no (kat_one _ _ (lt_int h))
 | [],_::_,_,_,_,_,_,hl,_=> by simp at hl
 | _::_,[],_,_,_,_,_,hl,_=> by simp at hl
theorem iS {k:List Int} {vs:List Value} (h:ItemsAre (intKind prog w) k vs):vs.length=k.length:=by
 induction h with
 | nil=> rfl
 | cons _ _ ih=> rw [List.length_cons,List.length_cons,ih]
theorem vL {x y:Addr} {a b:List Int} {Q:Bool→Shared→Prop} (la:a.length=6) (lb:b.length=6) (hx:TK prog w s.heap a x) (hy:TK prog w s.heap b y) (h:Q (ltL a b) s):wpAny (model prog w) A (keyLt' (tuples' true) (.ref x) (.ref y)) Q E s:=by
 obtain ⟨o,its,n,ho,_,hd,hi⟩:=hx
 obtain ⟨o',its',n',ho',_,hd',hi'⟩:=hy
 refine kat_lt ho hd ho' hd' ?_
 have z2:decide (its.size < its'.size)=false:=by
  have h1:=iS hi
  have h2:=iS hi'
  rw [← Array.length_toList,← Array.length_toList,h1,h2,la,lb]; rfl
 rw [z2]
 exact lc a b _ _ 0 hi hi' (by omega) h
abbrev PT6:=List (List Int×Addr)
abbrev refs6 (pb:PT6):List Value:=pb.map fun p=> Value.ref p.2
theorem qQ {pb:PT6} {Q:SortKind→Shared→Prop} (hlen:∀ p∈pb,p.1.length=6) (htk:∀ p∈pb,TK prog w s.heap p.1 p.2) (h0:0 < pb.length) (h:Q (tuples' true) s):wpAny (model prog w) A (keyKind' (refs6 pb).toArray) Q E s:=by
 obtain ⟨fs,hf,hl,hi⟩:∃ fs,KatTups s.heap (refs6 pb) fs∧fs.length=pb.length∧∀ v∈fs,∃ n t,v=Value.int n t:=by
  clear h h0
  induction pb with
  | nil=> exact ⟨[],.nil,rfl,fun v hv=> by simp at hv⟩
  | cons p r ih=>
   obtain ⟨fs,hf,hl,hi⟩:=ih (fun q hq=> hlen q (List.mem_cons_of_mem _ hq)) fun q hq=> htk q (List.mem_cons_of_mem _ hq)
   obtain ⟨o,its,n,ho,hc,hd,hit⟩:=htk p List.mem_cons_self
   have l6:=hlen p List.mem_cons_self
   cases hk:p.1 with
   | nil=> rw [hk] at l6; simp at l6
   | cons a ks=>
    rw [hk] at hit
    generalize hts:its.toList=ts at hit
    cases hit with
    | @cons _ v _ vs h1 hr=>
     obtain ⟨t,rfl⟩:=Value.isInt_shape h1
     refine ⟨.int a t::fs,.cons ho hc hd (by rw [← Array.getElem?_toList,hts]; rfl) hf,by simp [hl],fun v hv=> ?_⟩
     rcases List.mem_cons.mp hv with z | z
     ·exact ⟨_,_,z⟩
     ·exact hi v z
 refine kat_kind (T:=.type "int") hf (by omega) (fun v hv=> ?_) (by decide) h
 obtain ⟨n,t,rfl⟩:=hi v hv
 exact Looks.of_pure rfl
end
section
variable {prog:Program} {w:World} {A:Around} {E:Value→Shared→Prop} {s:Shared}
abbrev ky6 (p:List Int×Addr):Keyed:=(Value.ref p.2,Value.ref p.2)
open Classical in
noncomputable def RP6 (pb:PT6) (x y:Keyed):Bool:=decide (∃ p∈pb,∃ q∈pb,x=ky6 p∧y=ky6 q∧ltL p.1 q.1=true)
theorem fD {pb:PT6} {x y:Keyed}:RP6 pb x y=true↔∃ p∈pb,∃ q∈pb,x=ky6 p∧y=ky6 q∧ltL p.1 q.1=true:=by unfold RP6; exact decide_eq_true_iff
theorem sE {p q:List Int×Addr} (h:ky6 p=ky6 q):p.2=q.2:=by
 have:=(Prod.mk.inj h).1
 injection this
set_option maxHeartbeats 1000000 in
theorem qH {a:Addr} {pb:PT6} {n:Nat} {P:PySem.Fin→Shared→Prop} (ho:s.heap.get? a=some (seqObj "list" (refs6 pb).toArray n)) (htk:∀ p∈pb,TK prog w s.heap p.1 p.2) (hlen:∀ p∈pb,p.1.length=6) (hnd:(pb.map (·.1)).Nodup) (hsz:pb.length≤sizeLine)
  (h:∀ pb':PT6,pb'.Perm pb→(pb'.map (·.1)).Pairwise (fun x y=> ltL x y=true)→P (.done (.ret .none)) { s with heap:=sortedHeap s.heap a (refs6 pb) (refs6 pb').toArray }):
  wpAny (model prog w) A (Builtin.«list.sort» ⟨[.ref a],[]⟩) P E s:=by
 have hvl:(refs6 pb).length=pb.length:=by simp
 have hva:(refs6 pb).toArray.size=pb.length:=by simp
 rw [list_sort_plain]
 have ha:a < s.heap.objs.size:=Heap.lt_size ho
 refine wpAny_bind (listItems_at ho rfl (wpAny_bind (listUpdate_at ho rfl ?_ (by rw [hva]; exact hsz) (Nat.zero_le _))))
 obtain ⟨e1,ho1⟩:∃ e1,(s.heap.update a (Obj.mapSeq fun _=> (#[]:Array Value))).get? a=some (seqObj "list" #[] e1):=⟨_,get?_update_seq ho (fun _=> #[])⟩
 refine wpAny_bind (seqEpoch_at ho1 rfl (wpAny_bind (wpAny_newTuple ?_ (by show (refs6 pb).length≤_; rw [hvl]; exact hsz))))
 refine wpAny_bind (wpAny_newList ?_ (Nat.zero_le _))
 refine wpAny_holding ?_
 generalize hh6:((s.heap.update a (Obj.mapSeq fun _=> (#[]:Array Value))).push (seqObj "tuple" (refs6 pb).toArray 0)).push (seqObj "list" #[] 0)=h6
 have old6:∀ b o,b≠a→s.heap.get? b=some o→h6.get? b=some o:=fun b o hb e=> by
  rw [← hh6]
  exact Heap.get?_push_of_some _ (Heap.get?_push_of_some _ ((Heap.get?_update_other _ _ (Ne.symm hb)).trans e))
 have ho6:h6.get? a=some (seqObj "list" #[] e1):=by rw [← hh6]; exact Heap.get?_push_of_some _ (Heap.get?_push_of_some _ ho1)
 have tk6:∀ p∈pb,TK prog w h6 p.1 p.2:=fun p hp=> by
  refine TK6.grow (htk p hp) fun b o hc e=> old6 b o (fun z=> ?_) e
  rw [z,ho] at e
  cases e
  exact absurd hc (by show ¬ (Value.type "list"=Value.type "tuple"); decide)
 have fin:∀ pb':PT6,pb'.Perm pb→(pb'.map (·.1)).Pairwise (fun x y=> ltL x y=true)→P (.done (.ret .none)) { s with heap:=h6.update a (Obj.mapSeq fun _=> (refs6 pb').toArray) }:=fun pb' p1 p2=> by
  rw [← hh6]; exact h pb' p1 p2
 show wpAny (model prog w) A _ P E { s with heap:=h6 }
 dsimp only
 by_cases h2:(refs6 pb).toArray.size < 2
 ·rw [if_pos h2,if_pos h2]
  refine wpAny_bind (wpAny_pure ?_)
  rw [StateT.run_pure]
  refine wpAny_bind (wpAny_pure ?_)
  dsimp only
  have eout:(arrOf (SortSt.mk' general' ((refs6 pb).toArray.zip (refs6 pb).toArray) #[] 7 none)).map (·.2)=(refs6 pb).toArray:=by
   show (((refs6 pb).toArray.zip (refs6 pb).toArray)).map (·.2)=_
   apply Array.toList_inj.mp
   have zip2:∀ l:List Value,(l.zip l).map (·.2)=l:=fun l=> by
    induction l with
    | nil=> rfl
    | cons x r ih=> rw [List.zip_cons_cons,List.map_cons,ih]
   rw [Array.toList_map,Array.toList_zip]
   exact zip2 _
  rw [eout]
  refine wpAny_bind (seqEpoch_at ho6 rfl (wpAny_bind (listUpdate_at ho6 rfl ?_ (Nat.zero_le _) (by rw [hva]; exact Nat.le_succ_of_le hsz))))
  show wpAny _ _ (if (e1 !=e1)=true then _ else _) _ _ _
  rw [if_neg (by simp)]
  refine wpAny_pure (fin pb (List.Perm.refl _) ?_)
  match pb,hva,h2 with
  | [],_,_=> simp
  | [_],_,_=> simp
  | _::_::r,hva,h2=> rw [hva] at h2; exact absurd h2 (by simp)
 ·rw [if_neg h2,if_neg h2]
  rw [hva] at h2
  have h2':2≤(refs6 pb).length:=by rw [hvl]; omega
  refine wpAny_bind (qQ (s:={ s with heap:=h6 }) hlen tk6 (by omega) ?_)
  have one:∀ p∈pb,∀ q∈pb,ky6 p=ky6 q→p=q:=fun p hp q hq e=> TK6.det (tk6 p hp) (tk6 q hq) (sE e)
  have val:∀ p∈pb,∀ q∈pb,RP6 pb (ky6 p) (ky6 q)=ltL p.1 q.1:=fun p hp q hq=> by
   cases hl:ltL p.1 q.1 with
   | true=> exact fD.mpr ⟨p,hp,q,hq,rfl,rfl,hl⟩
   | false=>
    cases hr:RP6 pb (ky6 p) (ky6 q) with
    | false=> rfl
    | true=>
     obtain ⟨p',hp',q',hq',e1,e2,z⟩:=fD.mp hr
     rw [← one p hp p' hp' e1,← one q hq q' hq' e2,hl] at z
     cases z
  have asks:TS.Asks prog w A E { s with heap:=h6 } (tuples' true) (fun x=> ∃ p∈pb,x=ky6 p) (RP6 pb):=by
   rintro x y st Q ⟨p,hp,rfl⟩ ⟨q,hq,rfl⟩ hk hQ
   rw [lt'_eq]
   refine wpS_bind (wpS_get ?_)
   rw [hk]
   rw [val p hp q hq] at hQ
   refine wpS_bind (wpS_lift (wpAny_attempt (vL (hlen p hp) (hlen q hq) (tk6 p hp) (tk6 q hq) ⟨rfl,?_⟩)))
   exact wpS_pure hQ
  have ord:TS.Ord (fun x=> ∃ p∈pb,x=ky6 p) (RP6 pb) (pb.map ky6):=by
   refine ⟨fun x y z h1 h2=> ?_,fun x hx y hy hne hr=> ?_,?_,fun x hx=> ?_⟩
   ·obtain ⟨p,hp,q,hq,rfl,rfl,z1⟩:=fD.mp h1
    obtain ⟨q',hq',r,hr,e,rfl,z2⟩:=fD.mp h2
    rw [← one q hq q' hq' e] at z2
    exact fD.mpr ⟨p,hp,r,hr,rfl,rfl,md z1 z2⟩
   ·obtain ⟨p,hp,rfl⟩:=List.mem_map.mp hx
    obtain ⟨q,hq,rfl⟩:=List.mem_map.mp hy
    rw [val p hp q hq] at hr
    rw [val q hq p hp]
    refine ke (fun e=> hne ?_) hr
    obtain ⟨i,hi,rfl⟩:=List.getElem_of_mem hp
    obtain ⟨j,hj,rfl⟩:=List.getElem_of_mem hq
    have:i=j:=(List.getElem_inj (xs:=pb.map (·.1)) (h₀:=by simpa using hi) (h₁:=by simpa using hj) hnd).mp (by simpa using e)
    subst this; rfl
   ·have ndp:pb.Nodup:=(List.pairwise_map.mp hnd).imp fun h e=> h (congrArg _ e)
    refine List.pairwise_map.mpr (List.Pairwise.imp_of_mem (fun hp hq hne e=> hne (one _ hp _ hq e)) ndp)
   ·obtain ⟨p,hp,rfl⟩:=List.mem_map.mp hx
    exact ⟨p,hp,rfl⟩
  have stt:TS.Stt (tuples' true) (pb.map ky6) #[] (SortSt.mk' (tuples' true) ((refs6 pb).toArray.zip (refs6 pb).toArray) #[] 7 none):=by
   refine ⟨rfl,rfl,?_,rfl⟩
   have e:(arrOf (SortSt.mk' (tuples' true) ((refs6 pb).toArray.zip (refs6 pb).toArray) #[] 7 none)).toList=pb.map ky6:=by
    show ((refs6 pb).toArray.zip (refs6 pb).toArray).toList=_
    rw [Array.toList_zip]
    show (pb.map _).zip (pb.map _)=_
    rw [List.zip_map']
   rw [e]
  refine wpAny_bind (wpAny_mono (TS.sruns asks ord (Q:=fun _ st'=> failedOf st'=none∧∃ pb':PT6,pb'.Perm pb∧(pb'.map (·.1)).Pairwise (fun x y=> ltL x y=true)∧(arrOf st').map (·.2)=(refs6 pb').toArray) stt fun pd st' S' up=> ?_) ?_ fun _ _ e=> e)
  ·refine ⟨S'.failed,?_⟩
   obtain ⟨pb',p1,p2⟩:=wk S'.perm pb rfl
   refine ⟨pb',p1,?_,?_⟩
   ·refine List.pairwise_map.mpr (List.pairwise_iff_getElem.mpr fun i j hi hj hij=> ?_)
    have lp:=p1.length_eq
    have u:=up i j hij (by rw [List.length_map]; omega)
    rw [Nat.zero_add,Nat.zero_add,TS.gt_eq (by rw [← p2,List.length_map]; exact hi),TS.gt_eq (by rw [← p2,List.length_map]; exact hj)] at u
    simp only [← p2,List.getElem_map] at u
    rw [val _ (p1.mem_iff.mp (List.getElem_mem hi)) _ (p1.mem_iff.mp (List.getElem_mem hj))] at u
    exact u
   ·apply Array.toList_inj.mp
    rw [Array.toList_map,← p2,List.map_map]
    rfl
  ·rintro ⟨⟨⟩,st'⟩ s' ⟨rfl,hf,pb',p1,p2,hout⟩
   dsimp only at hf hout ⊢
   rw [hout]
   have hs2:(refs6 pb').toArray.size=pb.length:=by simp [p1.length_eq]
   refine wpAny_bind (seqEpoch_at ho6 rfl (wpAny_bind (listUpdate_at ho6 rfl ?_ (Nat.zero_le _) (by rw [hs2]; exact Nat.le_succ_of_le hsz))))
   rw [hf]
   show wpAny _ _ (if (e1 !=e1)=true then _ else _) _ _ _
   rw [if_neg (by simp)]
   exact wpAny_pure (fin _ p1 p2)
end
section
variable {prog:Program} {w:World} {A:Around} {E:Value→Shared→Prop} {s:Shared}
theorem call_sorted6 {l:Addr} {pb:PT6} {Q:Value→Shared→Prop} (hl:s.heap.IsList l (refs6 pb).toArray) (htk:∀ p∈pb,TK prog w s.heap p.1 p.2) (hlen:∀ p∈pb,p.1.length=6) (hnd:(pb.map (·.1)).Nodup) (h64:pb.length < 1000)
  (h:∀ (h1 h':Heap) (tk:Nat) (pb':PT6) (e:Nat),pb'.Perm pb→(pb'.map (·.1)).Pairwise (fun x y=> ltL x y=true)→(∀ c o,s.heap.get? c=some o→h1.get? c=some o)→(∀ c o,h1.get? c=some o→h'.get? c=some o)→h'.get? h1.objs.size=some (seqObj "list" (refs6 pb').toArray e)→Q (.ref h1.objs.size) { s with heap:=h',toks:=tk }):
  wpAny (model prog w) A (call (.builtin "sorted") [.ref l]) Q E s:=by
 have hrl:(refs6 pb).length=pb.length:=by simp
 refine Calls.call_function_entry kind_sorted plain_sorted entry_sorted (args_sorted1 _) ?_
 unfold Builtin.«sorted»
 refine wpAny_bind (m:=checkCount "sorted" 1 1 _) (wpAny_pure ?_)
 refine wpAny_bind (collect_list hl ?_ (by rw [hrl,sizeLine_eq]; omega))
 refine wpAny_bind (wpAny_newList ?_ (by rw [hrl,sizeLine_eq]; omega))
 generalize hg:(s.heap.push (seqObj "list" #[] 0)).update s.heap.objs.size (Obj.mapSeq (·++(refs6 pb).toArray))=h1
 have keep:∀ c o,s.heap.get? c=some o→h1.get? c=some o:=fun c o e=> by
  rw [← hg,Heap.get?_update_other _ _ (Nat.ne_of_gt (Heap.lt_size e))]
  exact Heap.get?_push_of_some _ e
 have hD:(h1.push { cls:=.type "list",data:=.seq (refs6 pb).toArray }).get? h1.objs.size=some (seqObj "list" (refs6 pb).toArray 0):=Heap.get?_push_size _ rfl
 have up:∀ p∈pb,TK prog w (h1.push { cls:=.type "list",data:=.seq (refs6 pb).toArray }) p.1 p.2:=fun p hp=> by
  exact TK6.grow (htk p hp) fun b o _ e=> Heap.get?_push_of_some _ (keep _ _ e)
 refine wpAny_bind (wpAny_holding (wpAny_call_entry slot_list_sort ⟨_,hD,rfl⟩ entry_list_sort ?_ (args_list_sort _)))
 refine qH (s:={ s with heap:=h1.push { cls:=.type "list",data:=.seq (refs6 pb).toArray } }) hD up hlen hnd (by rw [sizeLine_eq]; omega) fun pb' pp so=> ⟨_,rfl,wpAny_pure ⟨_,rfl,?_⟩⟩
 obtain ⟨e,eD⟩:=sortedHeap_at (out:=(refs6 pb').toArray) hD
 refine h h1 _ s.toks pb' e pp so keep (fun c o hb=> ?_) eD
 have hlt:=Heap.lt_size hb
 rw [sortedHeap_old (Nat.ne_of_lt hlt) (by rw [Heap.size_push]; exact Nat.lt_succ_of_lt hlt)]
 exact Heap.get?_push_of_some _ hb
end
end ST6
namespace L2
open PySem PySem.Spec PyProof.Rows
abbrev sxU (k:List Int):U:=.tup (k.map U.int)
section
variable {X:Cx} {H0:Hp} {O0:List Addr} {ps:PSt} {e:Expr} {trs:List (List Int)} {pos p:Pos}
set_option maxHeartbeats 1000000 in
theorem tM (hg:Gl X "sorted") (hm:X.mg "sorted"=none) (ha:Ev X H0 O0 ps e (.lst (trs.map sxU))) (hl:trs.length < 1000∧trs.Nodup∧∀ k∈trs,k.length=6)
  (he:starEach [e] X.env=(false,eval e X.env)::starEach [] X.env:=by rfl):EvN X H0 O0 ps (.Call (.Name "sorted" p) [e] [] pos) ((ST6.srtL trs).map sxU):=by
 obtain ⟨hl,hn,h6⟩:=hl
 rintro pins s σ H Q I ⟨O,R,q⟩
 refine wpAny_Call_Name_kw (cT I hg hm boot_sorted ?_)
 refine callWith_builtin1 (e:=e) (rest:=[]) (thn (cn ha d9 he pos pins s σ H (fun vs H1=> ∃ v,vs=[v]∧aD H H1∧Rp X.K (hid H1 O) v (.lst (trs.map sxU))) I ⟨O,R,fun v H1 s1 r1=> ⟨v,rfl,s1,r1⟩⟩) fun us s1 hx=> ?_) he rfl
 obtain ⟨vs,H1,I1,rv,v,rfl,sm,rp⟩:=hx
 obtain ⟨u,rfl,ru⟩:=gY rv
 cases rp with
 | @lst a ws _ hq hwl hwi=>
  cases ru
  obtain ⟨its,rw',pl,hz⟩:=I1.list (SqL.of (ax _ _ hq))
  have hlp:ws.length=trs.length:=by rw [hwl,List.length_map]
  have hil:its.length=trs.length:=by rw [← rw'.length,hlp]
  have item:∀ i,i < trs.length→∃ b,its[i]?=some (.ref b)∧Rp X.K (hid H1 O) (.ref b) (sxU (trs.getD i ([]:List Int)))∧ST.TK X.prog X.w s1.heap (trs.getD i ([]:List Int)) b:=fun i hi=> by
   have hw:ws[i]?=some ws[i]:=List.getElem?_eq_getElem (by omega)
   have hp:(trs.map sxU)[i]?=some (sxU (trs.getD i ([]:List Int))):=by rw [List.getElem?_map,List.getElem?_eq_getElem hi]; simp [hi]
   have r:=hwi i _ _ hw hp
   obtain ⟨u',e1,e2⟩:=rw'.get hw
   generalize ws[i]=z at *
   generalize trs.getD i ([]:List Int)=g at *
   cases r with
   | @tup b zs _ hs hsl hsi=>
    cases e2
    refine ⟨b,e1,Rp.tup hs hsl hsi,?_⟩
    obtain ⟨jts,rj,ht,_⟩:=I1.tuple (by exact ax.tup hs)
    obtain ⟨o,ho,hoc,n,hod⟩:=ht
    refine ⟨o,_,n,ho,hoc,hod,?_⟩
    have key:∀ (g:List Int) (zs:List V) (jts:List Value),zs.length=g.length→(∀ (i:Nat) (v:V) (x:U),zs[i]?=some v→(g.map U.int)[i]?=some x→Rp X.K (hid H1 O) v x)→aK zs jts→ItemsAre (intKind X.prog X.w) g jts:=fun g=> by
     induction g with
     | nil=> intro zs jts hl _ rj; cases zs with | nil=> cases rj; exact .nil | cons a r=> simp at hl
     | cons a g ih=>
      intro zs jts hl hi rj
      cases zs with
      | nil=> simp at hl
      | cons z zs=>
       cases rj with
       | cons r1 rj=>
        have q:=hi 0 z _ rfl rfl
        cases q
        obtain ⟨t,rfl⟩:=r1
        exact .cons (intKind_is _ _ _ _) (ih zs _ (by simpa using hl) (fun i v x e1 e2=> hi (i+1) v x e1 e2) rj)
    have hh:=key g zs jts (by simpa using hsl) hsi rj
    simpa using hh
  let ad:Nat→Addr:=fun i=> match its[i]? with | some (.ref b)=> b | _=> 0
  have adE:∀ i,i < trs.length→its[i]?=some (.ref (ad i))∧Rp X.K (hid H1 O) (.ref (ad i)) (sxU (trs.getD i ([]:List Int)))∧ST.TK X.prog X.w s1.heap (trs.getD i ([]:List Int)) (ad i):=fun i hi=> by
   obtain ⟨b,e1,e2,e3⟩:=item i hi
   have:ad i=b:=by show (match its[i]? with | some (.ref b)=> b | _=> 0)=b; rw [e1]
   rw [this]; exact ⟨e1,e2,e3⟩
  generalize ad=ad' at adE
  clear ad
  generalize hpb:((List.range trs.length).map fun i=> ((trs.getD i ([]:List Int),ad' i):List Int×Addr))=pb
  have hits:its=ST6.refs6 pb:=by
   apply List.ext_getElem?
   intro i
   rw [← hpb]
   unfold ST6.refs6
   rcases Nat.lt_or_ge i trs.length with z | z
   ·rw [(adE i z).1]; simp [z]
   ·rw [List.getElem?_eq_none (by omega),List.getElem?_eq_none (by simpa using z)]
  have h1p:pb.map (·.1)=trs:=by
   rw [← hpb,List.map_map]
   apply List.ext_getElem?
   intro i
   rcases Nat.lt_or_ge i trs.length with z | z
   ·simp [z]
   ·rw [List.getElem?_eq_none (by simpa using z),List.getElem?_eq_none z]
  have srcb:∀ z∈pb,∃ j,j < trs.length∧z=(trs.getD j ([]:List Int),ad' j):=fun z hz=> by
   rw [← hpb] at hz
   obtain ⟨j,hj,rfl⟩:=List.mem_map.mp hz
   exact ⟨j,List.mem_range.mp hj,rfl⟩
  have hbl:pb.length=trs.length:=by rw [← h1p,List.length_map]
  rw [hits] at pl
  refine ST6.call_sorted6 (pb:=pb) pl.isList (fun z hz=> ?_) (fun z hz=> ?_) (by rw [h1p]; exact hn) (by omega) fun h3 h4 tk2 pb' ep pm so k1 k2 hD=> ?_
  ·obtain ⟨j,hj,rfl⟩:=srcb z hz
   exact (adE j hj).2.2
  ·obtain ⟨j,hj,rfl⟩:=srcb z hz
   refine h6 _ ?_
   show trs.getD j ([]:List Int)∈trs
   rw [List.getD_eq_getElem?_getD,List.getElem?_eq_getElem hj]
   exact List.getElem_mem hj
  ·have I3:Inv X pins σ H1 { s1 with heap:=h3,toks:=tk2 }:=I1.kept (t':=tk2) k1
   have src:∀ z∈pb',∃ j,j < trs.length∧z=(trs.getD j ([]:List Int),ad' j):=fun z hz=> srcb z (pm.mem_iff.mp hz)
   have etrs:pb'.map (·.1)=ST6.srtL trs:=by
    refine ST6.ascL_one so (ST6.srtL_ascL trs) fun z=> ?_
    rw [ST6.srtL_mem,(pm.map (·.1)).mem_iff,h1p]
   have fr:H1 h3.objs.size=none:=I3.hok.fresh (Nat.le_refl _)
   refine ⟨.ref h3.objs.size,upd H1 h3.objs.size (.lst (pb'.map fun z=> V.ref z.2)),?_,rfl,?_⟩
   ·refine I3.laid (t':=tk2) k2 (Nat.le_refl _) ⟨?_,(ST6.refs6 pb'),ep,?_,hD⟩
    ·rw [List.length_map,pm.length_eq,hbl,sizeLine_eq]
     omega
    ·have all:∀ l:ST6.PT6,aK (l.map fun z=> V.ref z.2) (ST6.refs6 l):=fun l=> by
      induction l with
      | nil=> exact .nil
      | cons z r ih=> exact .cons rfl ih
     exact all pb'
   ·refine q _ _ _ (sm.trans (aV fr _)) (sm.free fr) aT ⟨?_,fun i z x e1 e2=> ?_⟩
    ·rw [List.length_map,← etrs,List.length_map,List.length_map]
    ·rw [← etrs,List.map_map,List.getElem?_map] at e2
     rw [List.getElem?_map] at e1
     cases hpi:pb'[i]? with
     | none=> rw [hpi] at e1; cases e1
     | some y=>
      rw [hpi] at e1 e2
      cases e1
      cases e2
      obtain ⟨j,hj,rfl⟩:=src y (List.mem_of_getElem? hpi)
      exact (adE j hj).2.1.same (bO (aV fr _) fr)
end
end L2
namespace ST
open PySem
theorem pU (a b c:Value):checkTypeCall "zip" ⟨[a,b,c],[]⟩=pure ():=by kernel_rfl
theorem qo (a b c:Value):checkBuiltinCall "zip.__new__" ⟨[.type "zip",a,b,c],[]⟩=pure ():=by kernel_rfl
theorem rF (a b c d:Value):argsOk "object.__init__" ⟨[a,b,c,d],[]⟩:=by
 unfold argsOk
 rw [signature?_of (n:=['_','_','t','i','n','i','_','_']) (o:=['t','c','e','j','b','o']) (id:="object.__init__") (by kernel_rfl) PySem.F.owner_object]
 kernel_rfl
abbrev IsTri (h:Heap) (T:Addr) (a b c:Value):Prop:=h.get? T=some { cls:=.type "tuple",data:=.seq #[a,b,c] }
structure Z3A (z TI TO i1 i2 i3 l1 l2 l3:Addr):Prop where
 TIz:TI≠z
 TOz:TO≠z
 i1z:i1≠z
 i2z:i2≠z
 i3z:i3≠z
 TITO:TI≠TO
 TIi1:TI≠i1
 TIi2:TI≠i2
 TIi3:TI≠i3
 TOi1:TO≠i1
 TOi2:TO≠i2
 TOi3:TO≠i3
 i12:i1≠i2
 i13:i1≠i3
 i23:i2≠i3
 l1z:l1≠z
 l1TO:l1≠TO
 l1i1:l1≠i1
 l1i2:l1≠i2
 l1i3:l1≠i3
 l2z:l2≠z
 l2TO:l2≠TO
 l2i1:l2≠i1
 l2i2:l2≠i2
 l2i3:l2≠i3
 l3z:l3≠z
 l3TO:l3≠TO
 l3i1:l3≠i1
 l3i2:l3≠i2
 l3i3:l3≠i3
section
variable {prog:Program} {w:World} {A:Around} {E:Value→Shared→Prop} {s:Shared}
theorem jQ {T:Addr} {a b c x:Value} {k:Nat} {Q:Unit→Shared→Prop} (hT:IsTri s.heap T a b c)
  (h:∀ h',h'.get? T=some { cls:=.type "tuple",data:=.seq ((#[a,b,c]:Array Value).setIfInBounds k x) }→Heap.SameBut T s.heap h'→Q () { s with heap:=h' }):
  wpAny (model prog w) A (updateSeq T (·.setIfInBounds k x)) Q E s:=by
 refine wpAny_updateSeq hT rfl (h _ ?_ (Heap.SameBut.update ..))
 rw [Heap.get?_update_self _ hT rfl]; simp [Obj.mapSeq]
set_option maxHeartbeats 1000000 in
theorem sQ {z TI TO i1 i2 i3 l1 l2 l3:Addr} {k1 k2 k3:Nat} {xs ys zs:Array Value} {x y v a b c:Value} {Q:Value→Shared→Prop} (D:Z3A z TI TO i1 i2 i3 l1 l2 l3)
  (gz:IsZip s.heap z TI TO .none) (gI:IsTri s.heap TI (.ref i1) (.ref i2) (.ref i3)) (gO:IsTri s.heap TO a b c)
  (h1:s.heap.IsListIter i1 l1 k1) (h2:s.heap.IsListIter i2 l2 k2) (h3:s.heap.IsListIter i3 l3 k3) (hl1:s.heap.IsList l1 xs) (hl2:s.heap.IsList l2 ys) (hl3:s.heap.IsList l3 zs)
  (hx:xs[k1]?=some x) (hy:ys[k2]?=some y) (hv:zs[k3]?=some v)
  (hQ:∀ h',IsZip h' z TI TO (rawInt s.heap.objs.size)→IsTri h' TO x y v→h'.IsListIter i1 l1 (k1+1)→h'.IsListIter i2 l2 (k2+1)→h'.IsListIter i3 l3 (k3+1)→IsTri h' s.heap.objs.size x y v→h'.objs.size=s.heap.objs.size+1→
   (∀ d o,d≠z→d≠TO→d≠i1→d≠i2→d≠i3→s.heap.get? d=some o→h'.get? d=some o)→Q (.ref s.heap.objs.size) { s with heap:=h' }):
  wpAny (model prog w) A (Builtin.«zip.__next__» ⟨[.ref z],[]⟩) (fun fin s'=> ∃ v,fin=.done (.ret v)∧Q v s') E s:=by
 show wpAny _ _ (field (.ref z) 2 >>=_) _ _ _
 refine wpAny_bind (wpAny_field gz rfl (x:=.bool false) rfl ?_); show wpAny _ _ (field (.ref z) 3 >>=_) _ _ _
 refine wpAny_bind (wpAny_field gz rfl (x:=.ref TI) rfl ?_); refine wpAny_bind (wpAny_seqItems gI rfl ?_)
 show wpAny _ _ (Builtin.SmallTypes.ownedTupleIsFree (.ref z) >>=_) _ _ _
 refine wpAny_bind ?_; unfold Builtin.SmallTypes.ownedTupleIsFree
 refine wpAny_bind (wpAny_field gz rfl (x:=.none) rfl (wpAny_pure ?_)); simp only [if_true]
 refine wpAny_bind (wpAny_rule ?_); refine wpAny_bind (wpAny_field gz rfl (x:=.ref TO) rfl ?_)
 refine wpAny_bind (wpAny_setField_rec gz (by simp) fun hp1 gz1 hs1=> ?_); replace gz1:IsZip hp1 z TI TO .ellipsis:=gz1
 refine wpAny_bind ?_
 simp only [List.zipIdx_cons,List.zipIdx_nil,List.forIn_cons,List.forIn_nil]
 refine wpAny_bind (wpAny_bind (wpAny_onRaise ?_)); show wpAny _ _ (Builtin.SmallTypes.nextOf (.ref i1) >>=_) _ _ _
 refine wpAny_bind (wpAny_nextOf_list_item (h1.extBut hs1.extBut D.i1z) (hl1.extBut hs1.extBut D.l1z) hx fun hp2 h12 hs2=> wpAny_pure ?_)
 have gO2:IsTri hp2 TO a b c:=hs2.extBut _ _ D.TOi1 (hs1.extBut _ _ D.TOz gO)
 refine wpAny_bind (wpAny_seqItems gO2 rfl ?_); refine wpAny_bind (jQ gO2 fun hp3 gO3 hs3=> ?_)
 replace gO3:IsTri hp3 TO x b c:=gO3
 refine wpAny_bind (wpAny_letGo (wpAny_pure ?_))
 refine wpAny_bind (wpAny_bind (wpAny_onRaise ?_)); show wpAny _ _ (Builtin.SmallTypes.nextOf (.ref i2) >>=_) _ _ _
 refine wpAny_bind (wpAny_nextOf_list_item (((h2.extBut hs1.extBut D.i2z).extBut hs2.extBut D.i12.symm).extBut hs3.extBut D.TOi2.symm)
  (((hl2.extBut hs1.extBut D.l2z).extBut hs2.extBut D.l2i1).extBut hs3.extBut D.l2TO) hy fun hp4 h24 hs4=> wpAny_pure ?_)
 have gO4:IsTri hp4 TO x b c:=hs4.extBut _ _ D.TOi2 gO3
 refine wpAny_bind (wpAny_seqItems gO4 rfl ?_); refine wpAny_bind (jQ gO4 fun hp5 gO5 hs5=> ?_)
 replace gO5:IsTri hp5 TO x y c:=gO5
 refine wpAny_bind (wpAny_letGo (wpAny_pure ?_))
 refine wpAny_bind (wpAny_bind (wpAny_onRaise ?_)); show wpAny _ _ (Builtin.SmallTypes.nextOf (.ref i3) >>=_) _ _ _
 refine wpAny_bind (wpAny_nextOf_list_item (((((h3.extBut hs1.extBut D.i3z).extBut hs2.extBut D.i13.symm).extBut hs3.extBut D.TOi3.symm).extBut hs4.extBut D.i23.symm).extBut hs5.extBut D.TOi3.symm)
  (((((hl3.extBut hs1.extBut D.l3z).extBut hs2.extBut D.l3i1).extBut hs3.extBut D.l3TO).extBut hs4.extBut D.l3i2).extBut hs5.extBut D.l3TO) hv fun hp6 h36 hs6=> wpAny_pure ?_)
 have gO6:IsTri hp6 TO x y c:=hs6.extBut _ _ D.TOi3 gO5
 refine wpAny_bind (wpAny_seqItems gO6 rfl ?_); refine wpAny_bind (jQ gO6 fun hp7 gO7 hs7=> ?_)
 replace gO7:IsTri hp7 TO x y v:=gO7
 refine wpAny_bind (wpAny_letGo (wpAny_pure (wpAny_pure ?_)))
 refine wpAny_bind (wpAny_seqItems gO7 rfl ?_); refine wpAny_bind (wpAny_newTuple ?_)
 have hsz:hp7.objs.size=s.heap.objs.size:=by rw [hs7.1,hs6.1,hs5.1,hs4.1,hs3.1,hs2.1,hs1.1]
 have all:∀ d o,d≠z→d≠TO→d≠i1→d≠i2→d≠i3→s.heap.get? d=some o→hp7.get? d=some o:=fun d o c1 c2 c3 c4 c5 e=>
  hs7.extBut _ _ c2 (hs6.extBut _ _ c5 (hs5.extBut _ _ c2 (hs4.extBut _ _ c4 (hs3.extBut _ _ c2 (hs2.extBut _ _ c3 (hs1.extBut _ _ c1 e))))))
 have gz7:IsZip hp7 z TI TO .ellipsis:=hs7.extBut _ _ D.TOz.symm (hs6.extBut _ _ D.i3z.symm (hs5.extBut _ _ D.TOz.symm (hs4.extBut _ _ D.i2z.symm (hs3.extBut _ _ D.TOz.symm (hs2.extBut _ _ D.i1z.symm gz1)))))
 have h17:hp7.IsListIter i1 l1 (k1+1):=((((h12.extBut hs3.extBut D.TOi1.symm).extBut hs4.extBut D.i12).extBut hs5.extBut D.TOi1.symm).extBut hs6.extBut D.i13).extBut hs7.extBut D.TOi1.symm
 have h27:hp7.IsListIter i2 l2 (k2+1):=((h24.extBut hs5.extBut D.TOi2.symm).extBut hs6.extBut D.i23).extBut hs7.extBut D.TOi2.symm
 have h37:hp7.IsListIter i3 l3 (k3+1):=h36.extBut hs7.extBut D.TOi3.symm
 have zlt:z < hp7.objs.size:=Heap.lt_size gz7
 show wpAny _ _ (Builtin.SmallTypes.ownedTupleHandOut (.ref z) (.ref hp7.objs.size) >>=_) _ _ _
 refine wpAny_bind ?_; unfold Builtin.SmallTypes.ownedTupleHandOut
 have gz8:IsZip (hp7.push { cls:=.type "tuple",data:=.seq #[x,y,v] }) z TI TO .ellipsis:=Heap.get?_push_of_some _ gz7
 refine wpAny_bind (wpAny_setField_rec gz8 (by simp) fun hp9 gz9 hs9=> ?_); replace gz9:IsZip hp9 z TI TO (rawInt hp7.objs.size):=gz9
 refine wpAny_setField_rec gz9 (by simp) fun hpA gzA hsA=> ?_
 replace gzA:IsZip hpA z TI TO (rawInt hp7.objs.size):=gzA
 have up:∀ d o,d≠z→hp7.get? d=some o→hpA.get? d=some o:=fun d o c1 e=> hsA.extBut _ _ c1 (hs9.extBut _ _ c1 (Heap.get?_push_of_some _ e))
 have gT:IsTri hpA hp7.objs.size x y v:=hsA.extBut _ _ (Nat.ne_of_gt zlt) (hs9.extBut _ _ (Nat.ne_of_gt zlt) (Heap.get?_push_size _ rfl))
 have szA:hpA.objs.size=hp7.objs.size+1:=by rw [hsA.1,hs9.1,Heap.size_push]
 rw [hsz] at gzA gT szA
 refine wpAny_pure ⟨_,rfl,?_⟩; show Q (.ref hp7.objs.size) _; rw [hsz]
 exact hQ hpA gzA (up _ _ D.TOz gO7) (h17.at fun o e=> up _ o D.i1z e) (h27.at fun o e=> up _ o D.i2z e) (h37.at fun o e=> up _ o D.i3z e) gT szA fun d o c1 c2 c3 c4 c5 e=> up d o c1 (all d o c1 c2 c3 c4 c5 e)
set_option maxHeartbeats 1000000 in
theorem u0 {z TI TO i1 i2 i3 l1:Addr} {k1:Nat} {xs:Array Value} {Q:PySem.Fin→Shared→Prop} (hh:A.handled=none) (ne1:i1≠z) (ne2:l1≠z)
  (gz:IsZip s.heap z TI TO .none) (gI:IsTri s.heap TI (.ref i1) (.ref i2) (.ref i3)) (h1:s.heap.IsListIter i1 l1 k1) (hl1:s.heap.IsList l1 xs) (hx:xs[k1]?=none)
  (hE:∀ h' e,(∀ d o,d≠z→d≠i1→s.heap.get? d=some o→h'.get? d=some o)→(∃ o,h'.get? e=some o∧o.cls=.type "StopIteration")→E (.ref e) { s with heap:=h' }):
  wpAny (model prog w) A (Builtin.«zip.__next__» ⟨[.ref z],[]⟩) Q E s:=by
 show wpAny _ _ (field (.ref z) 2 >>=_) _ _ _
 refine wpAny_bind (wpAny_field gz rfl (x:=.bool false) rfl ?_); show wpAny _ _ (field (.ref z) 3 >>=_) _ _ _
 refine wpAny_bind (wpAny_field gz rfl (x:=.ref TI) rfl ?_); refine wpAny_bind (wpAny_seqItems gI rfl ?_)
 show wpAny _ _ (Builtin.SmallTypes.ownedTupleIsFree (.ref z) >>=_) _ _ _
 refine wpAny_bind ?_; unfold Builtin.SmallTypes.ownedTupleIsFree
 refine wpAny_bind (wpAny_field gz rfl (x:=.none) rfl (wpAny_pure ?_)); simp only [if_true]
 refine wpAny_bind (wpAny_rule ?_); refine wpAny_bind (wpAny_field gz rfl (x:=.ref TO) rfl ?_)
 refine wpAny_bind (wpAny_setField_rec gz (by simp) fun hp1 gz1 hs1=> ?_); replace gz1:IsZip hp1 z TI TO .ellipsis:=gz1
 refine wpAny_bind ?_
 simp only [List.zipIdx_cons,List.zipIdx_nil,List.forIn_cons,List.forIn_nil]
 refine wpAny_bind (wpAny_bind (wpAny_onRaise ?_)); show wpAny _ _ (Builtin.SmallTypes.nextOf (.ref i1) >>=_) _ _ _
 refine wpAny_bind (wpAny_nextOf_list_end hh (h1.extBut hs1.extBut ne1) (hl1.extBut hs1.extBut ne2) hx fun hp2 e hs2 he=> ?_)
 obtain ⟨oe,hoe,hce⟩:=he
 have gz2:IsZip hp2 z TI TO .ellipsis:=hs2 _ _ ne1.symm gz1
 have ez:e≠z:=fun q=> by subst q; rw [gz2] at hoe; cases hoe; simp at hce
 refine wpAny_setField_rec gz2 (by simp) fun hp3 _ hs3=> hE hp3 e (fun d o c1 c3 q=> hs3.extBut _ _ c1 (hs2 _ _ c3 (hs1.extBut _ _ c1 q))) ⟨oe,hs3.extBut _ _ ez hoe,hce⟩
theorem next_z3_item {z TI TO i1 i2 i3 l1 l2 l3:Addr} {k1 k2 k3:Nat} {xs ys zs:Array Value} {x y v a b c:Value} {Q:Option Value→Shared→Prop} (D:Z3A z TI TO i1 i2 i3 l1 l2 l3)
  (gz:IsZip s.heap z TI TO .none) (gI:IsTri s.heap TI (.ref i1) (.ref i2) (.ref i3)) (gO:IsTri s.heap TO a b c)
  (h1:s.heap.IsListIter i1 l1 k1) (h2:s.heap.IsListIter i2 l2 k2) (h3:s.heap.IsListIter i3 l3 k3) (hl1:s.heap.IsList l1 xs) (hl2:s.heap.IsList l2 ys) (hl3:s.heap.IsList l3 zs)
  (hx:xs[k1]?=some x) (hy:ys[k2]?=some y) (hv:zs[k3]?=some v)
  (hQ:∀ h',IsZip h' z TI TO (rawInt s.heap.objs.size)→IsTri h' TO x y v→h'.IsListIter i1 l1 (k1+1)→h'.IsListIter i2 l2 (k2+1)→h'.IsListIter i3 l3 (k3+1)→IsTri h' s.heap.objs.size x y v→h'.objs.size=s.heap.objs.size+1→
   (∀ d o,d≠z→d≠TO→d≠i1→d≠i2→d≠i3→s.heap.get? d=some o→h'.get? d=some o)→Q (some (.ref s.heap.objs.size)) { s with heap:=h' }):
  wpAny (model prog w) A (pyNext (.ref z)) Q E s:=by
 have hT:s.TypeIs (.ref z) "zip":=⟨_,gz,rfl⟩
 unfold pyNext
 exact wpAny_bind (wpAny_attempt (wpAny_callSpecial?_slot (name:=Str.ofString "__next__") hT PySem.F.slot_zip_next (wpAny_call_entry PySem.F.slot_zip_next hT PySem.F.entry_zip_next
   (sQ D gz gI gO h1 h2 h3 hl1 hl2 hl3 hx hy hv fun h' a1 a2 a3 a4 a5 a6 a7 a8=> wpAny_pure (hQ h' a1 a2 a3 a4 a5 a6 a7 a8)) (PySem.F.args_zip_next_1 _))))
theorem next_z3_end {z TI TO i1 i2 i3 l1:Addr} {k1:Nat} {xs:Array Value} {Q:Option Value→Shared→Prop} (hh:A.handled=none) (ne1:i1≠z) (ne2:l1≠z)
  (gz:IsZip s.heap z TI TO .none) (gI:IsTri s.heap TI (.ref i1) (.ref i2) (.ref i3)) (h1:s.heap.IsListIter i1 l1 k1) (hl1:s.heap.IsList l1 xs) (hx:xs[k1]?=none)
  (hQ:∀ h',(∀ d o,d≠z→d≠i1→s.heap.get? d=some o→h'.get? d=some o)→Q none { s with heap:=h' }):wpAny (model prog w) A (pyNext (.ref z)) Q E s:=by
 have hT:s.TypeIs (.ref z) "zip":=⟨_,gz,rfl⟩
 unfold pyNext
 refine wpAny_bind (wpAny_attempt (wpAny_callSpecial?_slot (name:=Str.ofString "__next__") hT PySem.F.slot_zip_next (wpAny_call_entry PySem.F.slot_zip_next hT PySem.F.entry_zip_next
  (u0 hh ne1 ne2 gz gI h1 hl1 hx fun h' e hk he=> ?_) (PySem.F.args_zip_next_1 _))))
 obtain ⟨o,ho,hc⟩:=he
 refine wpAny_bind (wpAny_isInstance (b:=true) (T:="StopIteration") ⟨o,ho,hc⟩ isSubtype_stop ?_); exact wpAny_pure (hQ _ hk)
end
abbrev oD (h:Heap) (l1:Addr):Heap:=h.push { cls:=.type "list_iterator",data:=.fields #[.ref l1,.int 0 0] }
abbrev t8 (h:Heap) (l1 l2:Addr):Heap:=oD (oD h l1) l2
abbrev pR (h:Heap) (l1 l2 l3:Addr):Heap:=oD (t8 h l1 l2) l3
abbrev sO (h:Heap) (l1 l2 l3:Addr):Heap:=(pR h l1 l2 l3).push { cls:=.type "tuple",data:=.seq #[.ref h.objs.size,.ref (oD h l1).objs.size,.ref (t8 h l1 l2).objs.size] }
abbrev ua (h:Heap) (l1 l2 l3:Addr):Heap:=(sO h l1 l2 l3).push { cls:=.type "tuple",data:=.seq #[.none,.none,.none] }
abbrev jT (h:Heap) (l1 l2 l3:Addr):Heap:=(ua h l1 l2 l3).push { cls:=.type "zip",data:=.fields #[.none,.bool false,.bool false,.ref (pR h l1 l2 l3).objs.size,.ref (sO h l1 l2 l3).objs.size] }
theorem qe (l1 l2 l3:Addr) (xs ys zs:Array Value):
  Meets (Builtin.«zip.__new__» ⟨[.type "zip",.ref l1,.ref l2,.ref l3],[]⟩) (fun _ R s=> s.heap.IsList l1 xs∧s.heap.IsList l2 ys∧s.heap.IsList l3 zs∧
   R (.ok (.ret (.ref (ua s.heap l1 l2 l3).objs.size))) { s with heap:=jT s.heap l1 l2 l3 }):=
 .of_wp fun prog w A R s h=> by
  obtain ⟨hp,g,d,tk,os⟩:=s; obtain ⟨hl1,hl2,hl3,h⟩:=h
  have hsub:=sub_zip
  have hL1:Heap.IsList (Shared.heap ⟨hp,g,d,tk,os⟩) l1 xs:=hl1
  have hL2:Heap.IsList (Shared.heap ⟨hp.push { cls:=.type "list_iterator",data:=.fields #[.ref l1,.int 0 0] },g,d,tk,os⟩) l2 ys:=Heap.IsList.push hl2 _
  have hL3:Heap.IsList (Shared.heap ⟨(hp.push { cls:=.type "list_iterator",data:=.fields #[.ref l1,.int 0 0] }).push { cls:=.type "list_iterator",data:=.fields #[.ref l2,.int 0 0] },g,d,tk,os⟩) l3 zs:=Heap.IsList.push (Heap.IsList.push hl3 _) _
  wp_walk using wpAny_pyIter_list hL1,wpAny_pyIter_list hL2,wpAny_pyIter_list hL3
  exact ⟨_,rfl,h⟩
section
variable {prog:Program} {w:World} {A:Around} {E:Value→Shared→Prop} {s:Shared}
theorem call_z3 {l1 l2 l3:Addr} {xs ys zs:Array Value} {Q:Value→Shared→Prop} (hl1:s.heap.IsList l1 xs) (hl2:s.heap.IsList l2 ys) (hl3:s.heap.IsList l3 zs)
  (h:∀ h',IsZip h' (s.heap.objs.size+5) (s.heap.objs.size+3) (s.heap.objs.size+4) .none→IsTri h' (s.heap.objs.size+3) (.ref s.heap.objs.size) (.ref (s.heap.objs.size+1)) (.ref (s.heap.objs.size+2))→
   IsTri h' (s.heap.objs.size+4) .none .none .none→h'.IsListIter s.heap.objs.size l1 0→h'.IsListIter (s.heap.objs.size+1) l2 0→h'.IsListIter (s.heap.objs.size+2) l3 0→h'.objs.size=s.heap.objs.size+6→
   (∀ c o,s.heap.get? c=some o→h'.get? c=some o)→Q (.ref (s.heap.objs.size+5)) { s with heap:=h' }):
  wpAny (model prog w) A (call (.type "zip") [.ref l1,.ref l2,.ref l3]) Q E s:=by
 refine callType_new PySem.F.called_zip (by decide) (pU _ _ _) (qo _ _ _) (fun obj=> rF obj _ _ _) PySem.F.entry_zip_new (qe l1 l2 l3 xs ys zs) ⟨hl1,hl2,hl3,?_⟩
 have z1:(oD s.heap l1).objs.size=s.heap.objs.size+1:=Heap.size_push ..
 have z2:(t8 s.heap l1 l2).objs.size=s.heap.objs.size+2:=by rw [Heap.size_push,z1]
 have z3:(pR s.heap l1 l2 l3).objs.size=s.heap.objs.size+3:=by rw [Heap.size_push,z2]
 have z4:(sO s.heap l1 l2 l3).objs.size=s.heap.objs.size+4:=by rw [Heap.size_push,z3]
 have z5:(ua s.heap l1 l2 l3).objs.size=s.heap.objs.size+5:=by rw [Heap.size_push,z4]
 have z6:(jT s.heap l1 l2 l3).objs.size=s.heap.objs.size+6:=by rw [Heap.size_push,z5]
 have up4:∀ {c o},(pR s.heap l1 l2 l3).get? c=some o→(jT s.heap l1 l2 l3).get? c=some o:=fun e=> Heap.get?_push_of_some _ (Heap.get?_push_of_some _ (Heap.get?_push_of_some _ e))
 have g6:(jT s.heap l1 l2 l3).get? (ua s.heap l1 l2 l3).objs.size=some _:=Heap.get?_push_size _ rfl
 have g5:(jT s.heap l1 l2 l3).get? (sO s.heap l1 l2 l3).objs.size=some _:=Heap.get?_push_of_some _ (Heap.get?_push_size _ rfl)
 have g4:(jT s.heap l1 l2 l3).get? (pR s.heap l1 l2 l3).objs.size=some _:=Heap.get?_push_of_some _ (Heap.get?_push_of_some _ (Heap.get?_push_size _ rfl))
 have g3:(jT s.heap l1 l2 l3).get? (t8 s.heap l1 l2).objs.size=some _:=up4 (Heap.get?_push_size _ rfl)
 have g2:(jT s.heap l1 l2 l3).get? (oD s.heap l1).objs.size=some _:=up4 (Heap.get?_push_of_some _ (Heap.get?_push_size _ rfl))
 have g1:(jT s.heap l1 l2 l3).get? s.heap.objs.size=some _:=up4 (Heap.get?_push_of_some _ (Heap.get?_push_of_some _ (Heap.get?_push_size _ rfl)))
 show _∧_
 rw [z3,z4,z5] at g6; rw [z1,z2,z3] at g4; rw [z4] at g5; rw [z2] at g3; rw [z1] at g2; rw [z5]
 exact ⟨⟨_,g6,rfl⟩,h _ g6 g4 g5 ⟨_,g1,rfl,rfl⟩ ⟨_,g2,rfl,rfl⟩ ⟨_,g3,rfl,rfl⟩ z6 fun c o e=> up4 (Heap.get?_push_of_some _ (Heap.get?_push_of_some _ (Heap.get?_push_of_some _ e)))⟩
end
end ST
namespace L2
open PySem PySem.Spec PyProof.Rows
theorem tF {X:Cx} {pins:List (Addr×Obj)} {σ:List (Option V)} {H:Hp} {s:Shared} {h':Heap} {t':Nat} {fp:List Addr} {p:Addr} {xs:List V} (I:Inv X pins σ H s) (hf:∀ b∈fp,iC X pins H b)
  (k:∀ b o,b ∉ fp→s.heap.get? b=some o→h'.get? b=some o) (hp:s.heap.objs.size≤p) (new:bR X.prog X.w (upd H p (.tup xs)) h' p (.tup xs)):
  Inv X pins σ (upd H p (.tup xs)) { s with heap:=h',toks:=t' }:=by
 have fresh:H p=none:=I.hok.fresh hp
 have np:∀ b o,s.heap.get? b=some o→b≠p:=fun b o e z=> absurd (Nat.lt_of_lt_of_le (Heap.lt_size e) hp) (by rw [z]; exact Nat.lt_irrefl _)
 have nh:∀ b u,H b=some u→b≠p:=fun b u e z=> by rw [z,fresh] at e; cases e
 have nf:∀ b u,H b=some u→b ∉ fp:=fun b u e z=> by rw [(hf b z).1] at e; cases e
 refine I.step (g':=s.gens) (d':=s.drawn) (ch:=fp) (fun b hb=> ?_) (fun b o _ _ hc e _=> k b o hc e) (fun b o _ _ hc e _=> ⟨o.slots,k b o hc e⟩) (fun b o _ e n=> by rw [aL (np b o e)]; exact n)
  (fun b o hc e=> ⟨o,k b o hc e⟩) (fun b xs e=> by rw [aL (nh b _ e)]; exact e) (fun b o u e=> by rw [aL (nh b _ e)]; exact e) (fun b ps e=> ⟨#[],by rw [aL (nh b _ e),e]; simp⟩) (fun m hm=> ?_) (fun b u e=> ?_) I.bare
 ·obtain ⟨f0,f1,f2,f3,f4,f5⟩:=hf b hb
  exact ⟨f3,f1,f4,f5⟩
 ·obtain ⟨o,es,ep,ho,r⟩:=hm
  exact ⟨o,es,ep,k _ o (fun z=> (hf _ z).2.1 rfl) ho,r⟩
 ·by_cases hb:b=p
  ·subst hb; rw [aT] at e; cases e; exact new
  ·rw [aL hb] at e
   refine (I.hok b u e).stay (fun c v hc q=> k c v ?_ q) (fun c q=> by rw [aL (nh c _ q)]; exact q) fun c xs q=> by rw [aL (nh c _ q)]; exact q
   rcases hc with z | z
   ·rw [z]; exact nf b u e
   ·exact nf c _ z
theorem tI {X:Cx} {pins:List (Addr×Obj)} {σ:List (Option V)} {H:Hp} {s:Shared} {h':Heap} {t':Nat} {fp:List Addr} (I:Inv X pins σ H s) (hf:∀ b∈fp,iC X pins H b)
  (k:∀ b o,b ∉ fp→s.heap.get? b=some o→h'.get? b=some o):Inv X pins σ H { s with heap:=h',toks:=t' }:=by
 have nf:∀ b u,H b=some u→b ∉ fp:=fun b u e z=> by rw [(hf b z).1] at e; cases e
 refine I.step (g':=s.gens) (d':=s.drawn) (ch:=fp) (fun b hb=> ?_) (fun b o _ _ hc e _=> k b o hc e) (fun b o _ _ hc e _=> ⟨o.slots,k b o hc e⟩) (fun _ _ _ _ n=> n)
  (fun b o hc e=> ⟨o,k b o hc e⟩) (fun _ _ e=> e) (fun _ _ _ e=> e) (fun b ps e=> ⟨#[],by rw [e]; simp⟩) (fun m hm=> ?_) (fun b u e=> ?_) I.bare
 ·obtain ⟨f0,f1,f2,f3,f4,f5⟩:=hf b hb
  exact ⟨f3,f1,f4,f5⟩
 ·obtain ⟨o,es,ep,ho,r⟩:=hm
  exact ⟨o,es,ep,k _ o (fun z=> (hf _ z).2.1 rfl) ho,r⟩
 ·refine (I.hok b u e).stay (fun c v hc q=> k c v ?_ q) (fun _ q=> q) fun _ _ q=> q
  rcases hc with z | z
  ·rw [z]; exact nf b u e
  ·exact nf c _ z
def Itz (K:PySem.W.Frag) (l1 l2 l3:Addr):It:=
 ⟨fun i H=> ∃ xs ys zs x y v,SqL K H l1 xs∧SqL K H l2 ys∧SqL K H l3 zs∧xs[i]?=some x∧ys[i]?=some y∧zs[i]?=some v,
  fun i H u H'=> ∃ p x y v,u=.ref p∧H p=none∧H'=upd H p (.tup [x,y,v])∧(∀ xs,SqL K H l1 xs→xs[i]?=some x)∧(∀ ys,SqL K H l2 ys→ys[i]?=some y)∧(∀ zs,SqL K H l3 zs→zs[i]?=some v),
  fun i H=> ∃ xs,SqL K H l1 xs∧xs.length≤i⟩
set_option maxHeartbeats 1000000 in
theorem tW {P:Program} {w:World} {K:PySem.W.Frag} {es:List Expr} {ctx pos} (z TI TO i1 i2 i3 l1 l2 l3:Addr) (D:ST.Z3A z TI TO i1 i2 i3 l1 l2 l3):
  oY P w K (.Tuple es ctx pos) (Itz K l1 l2 l3) [z,TI,TO,i1,i2,i3] z (fun i h=> IsZip h z TI TO .none∧ST.IsTri h TI (.ref i1) (.ref i2) (.ref i3)∧(∃ a b c,ST.IsTri h TO a b c)∧h.IsListIter i1 l1 i∧h.IsListIter i2 l2 i∧h.IsListIter i3 l3 i) where
 mem:=by simp
 obj:=fun i h st b hb=> by
  obtain ⟨gz,gI,⟨a,c,d,gO⟩,h1,h2,h3⟩:=st
  have li:∀ {it l k},h.IsListIter it l k→∃ o,h.get? it=some o∧∀ v,o.data≠.cell v:=fun q=> by
   obtain ⟨o,e,_,d⟩:=q
   exact ⟨o,e,fun v z=> by rw [d] at z; cases z⟩
  simp only [List.mem_cons,List.not_mem_nil,or_false] at hb
  rcases hb with e | e | e | e | e | e <;> subst e
  ·exact ⟨_,gz,fun v z=> by cases z⟩
  ·exact ⟨_,gI,fun v z=> by cases z⟩
  ·exact ⟨_,gO,fun v z=> by cases z⟩
  ·exact li h1
  ·exact li h2
  ·exact li h3
 keep:=fun i h h' st k=> by
  obtain ⟨gz,gI,⟨a,c,d,gO⟩,h1,h2,h3⟩:=st
  exact ⟨k z (by simp) _ gz,k TI (by simp) _ gI,⟨a,c,d,k TO (by simp) _ gO⟩,h1.at fun o e=> k i1 (by simp) o e,h2.at fun o e=> k i2 (by simp) o e,h3.at fun o e=> k i3 (by simp) o e⟩
 item:=by
  intro X hP hw hK hc i pins s σ H E I hf st hg
  subst hP hw hK
  obtain ⟨gz,gI,⟨a,b,c,gO⟩,h1,h2,h3⟩:=st
  obtain ⟨xs,ys,zs,x,y,v,q1,q2,q3,e1,e2,e3⟩:=hg
  obtain ⟨n1,r1,p1,_⟩:=I.list q1
  obtain ⟨n2,r2,p2,_⟩:=I.list q2
  obtain ⟨n3,r3,p3,_⟩:=I.list q3
  obtain ⟨u1,k1,t1⟩:=r1.get e1
  obtain ⟨u2,k2,t2⟩:=r2.get e2
  obtain ⟨u3,k3,t3⟩:=r3.get e3
  refine ST.next_z3_item D gz gI gO h1 h2 h3 p1.isList p2.isList p3.isList (x:=u1) (y:=u2) (v:=u3) (by simpa using k1) (by simpa using k2) (by simpa using k3) fun h' a1 a2 a3 a4 a5 a6 a7 kp=> ?_
  refine ⟨_,rfl,?_⟩
  refine wpAny_letOwnedTupleGo_zip (s:={ s with heap:=h' }) a1 fun hN b1 sb=> ?_
  have nz:s.heap.objs.size≠z:=Nat.ne_of_gt (Heap.lt_size gz)
  have tri:ST.IsTri hN s.heap.objs.size u1 u2 u3:=(sb.2 _ nz).trans a6
  have fresh:H s.heap.objs.size=none:=I.hok.fresh (Nat.le_refl _)
  have nf:s.heap.objs.size ∉ [z,TI,TO,i1,i2,i3]:=fun hb=> by
   have key:∀ {d o},s.heap.get? d=some o→s.heap.objs.size≠d:=fun e=> Nat.ne_of_gt (Heap.lt_size e)
   have li:∀ {it l k},s.heap.IsListIter it l k→s.heap.objs.size≠it:=fun q=> by obtain ⟨o,e,_⟩:=q; exact key e
   simp only [List.mem_cons,List.not_mem_nil,or_false] at hb
   rcases hb with e | e | e | e | e | e
   ·exact key gz e
   ·exact key gI e
   ·exact key gO e
   ·exact li h1 e
   ·exact li h2 e
   ·exact li h3 e
  refine ⟨.ref s.heap.objs.size,upd H s.heap.objs.size (.tup [x,y,v]),tF (s:=s) (h':=hN) (t':=s.toks) I hf (fun d o hd e=> ?_) (Nat.le_refl _) ⟨by show 3≤sizeLine; decide,[u1,u2,u3],.cons t1 (.cons t2 (.cons t3 .nil)),⟨_,tri,rfl,_,rfl⟩⟩,rfl,
   ⟨_,x,y,v,rfl,fresh,rfl,fun zs q=> by rw [I.list_inj q q1]; exact e1,fun zs q=> by rw [I.list_inj q q2]; exact e2,fun zs q=> by rw [I.list_inj q q3]; exact e3⟩,?_,fun d hd=> ?_⟩
  ·simp only [List.mem_cons,List.not_mem_nil,or_false,not_or] at hd
   obtain ⟨d1,d2,d3,d4,d5,d6⟩:=hd
   exact (sb.2 d d1).trans (kp d o d1 d3 d4 d5 d6 e)
  ·have up:∀ d o,d≠z→h'.get? d=some o→hN.get? d=some o:=fun d o n e=> (sb.2 d n).trans e
   exact ⟨b1,up _ _ D.TIz (kp _ _ D.TIz D.TITO D.TIi1 D.TIi2 D.TIi3 gI),⟨_,_,_,up _ _ D.TOz a2⟩,a3.at fun o e=> up _ o D.i1z e,a4.at fun o e=> up _ o D.i2z e,a5.at fun o e=> up _ o D.i3z e⟩
  ·rw [aL fun e=> nf (by rw [← e]; exact hd)]
   exact (hf d hd).1
 done:=by
  intro X hP hw hK hc i pins s σ H E I hf st hg
  subst hP hw hK
  obtain ⟨gz,gI,_,h1,_⟩:=st
  obtain ⟨xs,q1,hl⟩:=hg
  obtain ⟨n1,r1,p1,_⟩:=I.list q1
  have e1:=r1.length
  refine ST.next_z3_end (I.ok.hd hc) D.i1z D.l1z gz gI h1 p1.isList (by simp; omega) fun h' kp=> ⟨rfl,tI (t':=s.toks) I hf fun d o hd e=> ?_⟩
  simp only [List.mem_cons,List.not_mem_nil,or_false,not_or] at hd
  exact kp d o hd.1 hd.2.2.2.1 e
 self:=fun _ _ _ _ _ st h=> wpAny_pyIter_zip st.1 h
def Yz (K:PySem.W.Frag) (J:It) (G:Hp) (xs:List U):Prop:=
 ∀ H2,aD G H2→(∀ i,i < xs.length→J.go i H2∧∀ x H3,J.yld i H2 x H3→aD H2 H3∧∃ u,xs[i]?=some u∧∀ O2,(∀ a∈O2,H2 a≠none)→aD G (hid H2 O2)→Rp K (hid H3 O2) x u)∧J.stop xs.length H2
def EvZ (X:Cx) (H0:Hp) (O0:List Addr) (ps:PSt) (tg iter:Expr) (xs:List U):Prop:=
 PI X tg iter fun σ H R=> ∃ O,Rs X.K H0 O0 ps σ H O∧∀ J H',aD H H'→Yz X.K J (hid H' O) xs→R J H'
section
variable {X:Cx} {H0:Hp} {O0:List Addr} {E:XK} {ps:PSt} {D:PD} {body:List Stmt} {e f g tg iter:Expr} {es:List Expr} {p pos:Pos} {x y z:U} {xs ys zs us:List U}
def gr:List U→List U→List U→List U
 | x::xs,y::ys,z::zs=> .tup [x,y,z]::gr xs ys zs
 | _,_,_=> []
theorem eT:∀ {xs ys zs:List U},xs.length=ys.length→xs.length=zs.length→(gr xs ys zs).length=xs.length
 | [],_,_,_,_=> by simp [gr]
 | _::xs,_::ys,_::zs,h1,h2=> by simp only [gr,List.length_cons] at *; rw [eT (by omega) (by omega)]
theorem iG:∀ {xs ys zs:List U} {i:Nat} {a b c:U},xs[i]?=some a→ys[i]?=some b→zs[i]?=some c→(gr xs ys zs)[i]?=some (.tup [a,b,c])
 | _::xs,_::ys,_::zs,0,a,b,c,h1,h2,h3=> by simp at h1 h2 h3; simp [gr,h1,h2,h3]
 | _::xs,_::ys,_::zs,i+1,a,b,c,h1,h2,h3=> by rw [List.getElem?_cons_succ] at h1 h2 h3; rw [gr,List.getElem?_cons_succ]; exact iG h1 h2 h3
set_option maxHeartbeats 1000000 in
theorem vO {ctx tpos} (hg:Gl X "zip") (hm:X.mg "zip"=none) (ha:Ev X H0 O0 ps e x) (hx:x=.lst xs∨x=.scr xs) (hb:Ev X H0 O0 ps f y) (hy:y=.lst ys∨y=.scr ys) (hc:Ev X H0 O0 ps g z) (hz:z=.lst zs∨z=.scr zs)
  (l12:xs.length=ys.length) (l13:xs.length=zs.length) (he:starEach [e,f,g] X.env=(false,eval e X.env)::starEach [f,g] X.env) (hf:starEach [f,g] X.env=(false,eval f X.env)::starEach [g] X.env) (hgs:starEach [g] X.env=(false,eval g X.env)::starEach [] X.env):
  EvZ X H0 O0 ps (.Tuple es ctx tpos) (.Call (.Name "zip" p) [e,f,g] [] pos) (gr xs ys zs):=by
 rintro pins s σ H Q I ⟨O,R,q⟩
 refine wpAny_Call_Name_kw (cT I hg hm qu ?_)
 refine callWith_type1 (thn (cn ha (cn hb (cn hc d9 hgs) hf) he pos pins s σ H (fun vs H1=> ∃ v u t,vs=[v,u,t]∧aD H H1∧Rp X.K (hid H1 O) v x∧Rp X.K (hid H1 O) u y∧Rp X.K (hid H1 O) t z) I
  ⟨O,R,fun v H1 s1 r1=> ⟨O,R.go s1,fun u H2 s2 r2=> ⟨O,(R.go s1).go s2,fun t H3 s3 r3=> ⟨v,u,t,rfl,(s1.trans s2).trans s3,(r1.same (bb s2)).same (bb s3),r2.same (bb s3),r3⟩⟩⟩⟩) fun us s1 hx'=> ?_) he (by rw [hf,hgs]; rfl)
 obtain ⟨vs,H1,I1,rv,v,u,t,rfl,sm,rp1,rp2,rp3⟩:=hx'
 obtain ⟨w1,w2,w3,rfl,ru1,ru2,ru3⟩:=wZ rv
 obtain ⟨a,va,rfl,hq1,rs1⟩:=sS rp1 hx
 obtain ⟨b,vb,rfl,hq2,rs2⟩:=sS rp2 hy
 obtain ⟨c,vc,rfl,hq3,rs3⟩:=sS rp3 hz
 cases ru1
 cases ru2
 cases ru3
 obtain ⟨ia,ra,pl1,hz1⟩:=I1.list (ax.seq hq1)
 obtain ⟨ib,rb,pl2,hz2⟩:=I1.list (ax.seq hq2)
 obtain ⟨ic,rc,pl3,hz3⟩:=I1.list (ax.seq hq3)
 have l1:=rs1.len
 have l2:=rs2.len
 have l3:=rs3.len
 have al:@LT.lt Nat instLTNat a s1.heap.objs.size:=by obtain ⟨o,ho,_⟩:=pl1.isList; exact Heap.lt_size ho
 have bl:@LT.lt Nat instLTNat b s1.heap.objs.size:=by obtain ⟨o,ho,_⟩:=pl2.isList; exact Heap.lt_size ho
 have cl:@LT.lt Nat instLTNat c s1.heap.objs.size:=by obtain ⟨o,ho,_⟩:=pl3.isList; exact Heap.lt_size ho
 refine ST.call_z3 pl1.isList pl2.isList pl3.isList fun h' g1 g2 g3 g4 g5 g6 g7 g8=> ?_
 have D:ST.Z3A (s1.heap.objs.size+5) (s1.heap.objs.size+3) (s1.heap.objs.size+4) s1.heap.objs.size (s1.heap.objs.size+1) (s1.heap.objs.size+2) a b c:=by constructor <;> exact xl (by omega)
 refine wpAny_pyIter_zip (s:={ s1 with heap:=h' }) g1 ?_
 have I2:Inv X pins σ H1 { s1 with heap:=h' }:=I1.kept (t':=s1.toks) g8
 refine ⟨s1.heap.objs.size+5,_,_,_,H1,rfl,I2,tW _ _ _ _ _ _ a b c D,⟨g1,g2,⟨_,_,_,g3⟩,g4,g5,g6⟩,fun d hd=> ?_,q _ H1 sm fun H2 s2=> ?_⟩
 ·have ge:s1.heap.objs.size≤d:=by
   simp only [List.mem_cons,List.not_mem_nil,or_false] at hd
   rcases hd with e | e | e | e | e | e <;> rw [e]
   ·exact Nat.le_add_right _ _
   ·exact Nat.le_add_right _ _
   ·exact Nat.le_add_right _ _
   ·exact Nat.le_refl _
   ·exact Nat.le_add_right _ _
   ·exact Nat.le_add_right _ _
  exact I1.fpOk ge (I1.hok.fresh ge)
 ·rw [eT l12 l13]
  refine ⟨fun i hi=> ?_,⟨va,s2.seq hq1,by omega⟩⟩
  have h1:i < va.length:=by omega
  have h2:i < vb.length:=by omega
  have h3:i < vc.length:=by omega
  refine ⟨⟨va,vb,vc,va[i],vb[i],vc[i],s2.seq hq1,s2.seq hq2,s2.seq hq3,List.getElem?_eq_getElem h1,List.getElem?_eq_getElem h2,List.getElem?_eq_getElem h3⟩,?_⟩
  rintro _ H3 ⟨pp,x1,y1,v1,rfl,nn,rfl,e1,e2,e3⟩
  have sm2:aD H2 (upd H2 pp (.tup [x1,y1,v1])):=aV nn _
  have m1:xs[i]?=some (xs[i]'(by omega)):=List.getElem?_eq_getElem (by omega)
  have m2:ys[i]?=some (ys[i]'(by omega)):=List.getElem?_eq_getElem (by omega)
  have m3:zs[i]?=some (zs[i]'(by omega)):=List.getElem?_eq_getElem (by omega)
  refine ⟨sm2,_,iG m1 m2 m3,fun O2 hO sG=> ?_⟩
  have all:Rps X.K (hid (upd H2 pp (.tup [x1,y1,v1])) O2) [x1,y1,v1] [_,_,_]:=
   .cons ((rs1.at_ i _ _ (e1 _ (s2.seq hq1)) m1).same (sG.trans (bb sm2))) (.cons ((rs2.at_ i _ _ (e2 _ (s2.seq hq2)) m2).same (sG.trans (bb sm2))) (.cons ((rs3.at_ i _ _ (e3 _ (s2.seq hq3)) m3).same (sG.trans (bb sm2))) .nil))
  exact .tup (SqT.of (cU aT fun hp=> hO pp hp nn)) all.len all.at_
theorem uT (hc:X.calm=true) (hp:PassesOwn (model X.prog X.w) X.A X.env X.xe) (hi:EvZ X H0 O0 ps tg iter xs) (Iv:Nat→PSt→Prop) (h0:Iv 0 ps)
  (hs:∀ (H0:Hp) (i:Nat) (x:U) (ps:PSt),xs[i]?=some x→Iv i ps→∃ ps',TgS X H0 O0 tg ps x ps'∧Ws X H0 O0 E body { D with nx:=Iv (i+1),ct:=Iv (i+1),bk:=D.nx } ps') (hd:∀ ps,Iv xs.length ps→D.nx ps)
  (hf:∀ x,foldedSetIterable iter X.env x=pure x:=by intro _; rfl):W1 X H0 O0 E (.For tg iter body [] pos) D ps:=by
 have hg:PG X tg fun v σ H Q=> ∃ H1 ps u ps',TgS X H1 O0 tg ps u ps'∧∃ O,Rs X.K H1 O0 ps σ H O∧Rp X.K (hid H O) v u∧∀ σ' H',aD H H'→Rs X.K H1 O0 ps' σ' H' O→Q σ' H':=
  fun pins s σ H v u Q I r ⟨H1,ps,w,ps',t,z⟩=> t pins s σ H v u Q I r z
 have hb:PSs X body fun D' σ H=> ∃ H1 D1 ps',Ws X H1 O0 E body D1 ps'∧Lf X.K H1 O0 E D1 D'∧∃ O,Rs X.K H1 O0 ps' σ H O:=fun pins s σ H D' I ⟨H1,D1,ps',w,z⟩=> w pins s σ H D' I z
 refine PS.mono (lC hp hc hi hg hb hf) fun D' σ H ⟨L,O,R⟩=> ⟨O,R,fun J H1 s1 Y=> ?_⟩
 have R1:=R.go s1
 have base:=R1.base
 refine ⟨fun i m σ H=> m=xs.length - i∧i≤xs.length∧∃ ps O',Iv i ps∧Rs X.K (hid H1 (O.filter fun a=> decide (a ∉ O0))) O0 ps σ H O',⟨_,rfl,Nat.zero_le _,ps,O,h0,R1.rebase⟩,?_⟩
 rintro i m σ2 H2 ⟨rfl,hi2,ps2,O2,iv,R2⟩
 have seen:=R1.seen R2
 obtain ⟨y1,y2⟩:=Y H2 (seen.trans ax)
 by_cases hlt:i < xs.length
 ·obtain ⟨g1,g2⟩:=y1 i hlt
  refine .inr ⟨g1,fun σ' H'=> ∃ ps O',Iv (i+1) ps∧Rs X.K (hid H1 (O.filter fun a=> decide (a ∉ O0))) O0 ps σ' H' O',fun σ' H' z=> ⟨xs.length - (i+1),by omega,rfl,hlt,z⟩,fun x H3 y=> ?_⟩
  obtain ⟨s3,u,hu,r⟩:=g2 x H3 y
  obtain ⟨ps',t,w⟩:=hs (hid H1 (O.filter fun a=> decide (a ∉ O0))) i u ps2 hu iv
  refine ⟨_,ps2,u,ps',t,O2,R2.go s3,r O2 R2.dom seen,fun σ' H' s' R'=> ⟨_,_,ps',w,?_,O2,R'⟩⟩
  exact ⟨fun p σ H O R q=> ⟨p,O,q,R⟩,fun p σ H O R q=> L.nx _ _ _ _ (R.unbase base) q,fun p σ H O R q=> ⟨p,O,q,R⟩,fun o q=> (L.rt o q).later base⟩
 ·have e:i=xs.length:=by omega
  subst e
  exact .inl ⟨y2,L.nx _ _ _ _ (R2.unbase base) (hd ps2 iv)⟩
theorem sN {α:Type} (st:α→PSt) (Q:Nat→α→Prop) (hc:X.calm=true) (hp:PassesOwn (model X.prog X.w) X.A X.env X.xe) (hi:EvZ X H0 O0 ps tg iter xs) (h0:∃ a,Q 0 a∧SubP (st a) ps)
  (hs:∀ (H0:Hp) (i:Nat) (x:U) (a:α),xs[i]?=some x→Q i a→∃ ps',TgS X H0 O0 tg (st a) x ps'∧Ws X H0 O0 E body { D with nx:=fun p=> ∃ b,Q (i+1) b∧SubP (st b) p,ct:=fun p=> ∃ b,Q (i+1) b∧SubP (st b) p,bk:=D.nx } ps')
  (hd:∀ a ps,Q xs.length a→SubP (st a) ps→D.nx ps) (hf:∀ x,foldedSetIterable iter X.env x=pure x:=by intro _; rfl):W1 X H0 O0 E (.For tg iter body [] pos) D ps:=
 uT hc hp hi (fun i ps=> ∃ a,Q i a∧SubP (st a) ps) h0 (fun H0 i x ps hx ⟨a,q,sb⟩=> by
  obtain ⟨ps',t,w⟩:=hs H0 i x a hx q
  exact ⟨ps',t.sub sb,w⟩) (fun ps ⟨a,q,sb⟩=> hd a ps q sb) hf
end
end L2
namespace L2
open PySem PySem.Spec PyProof.Rows
abbrev Ent:=List Int×Addr×Value
def Sd (P:Program) (w:World) (d:Addr) (xs:List Ent) (h:Heap):Prop:=
 (d==sysModules)=false∧xs.length≤sizeLine∧∃ o es ep,h.get? d=some o∧o.ExactDict∧o.data=.dict es ep∧es.toList=xs.map (entryOfKey (tupleKind (intKind P w)))∧(xs.map (·.1)).Nodup
theorem rX {P:Program} {w:World} {d:Addr} {xs:List Ent} (h1 h2:Heap) (x:Sd P w d xs h1) (k:∀ o,h1.get? d=some o→h2.get? d=some o):Sd P w d xs h2:=by
 obtain ⟨a,b,o,es,ep,e,r⟩:=x
 exact ⟨a,b,o,es,ep,k o e,r⟩
theorem uf {P:Program} {w:World} {d:Addr} {xs:List Ent} {H:Hp} {h:Heap} (x:Sd P w d xs h):bR P w H h d (.ext (Sd P w d xs)):=
 ⟨x,let ⟨_,_,o,_,_,e,_⟩:=x; ⟨o,e⟩,rX⟩
theorem mS {P:Program} {w:World}:∀ {ks:List Int} {us:List Value},aK (ks.map V.int) us→ItemsAre (intKind P w) ks us
 | [],_,r=> by rw [List.map_nil] at r; cases r; exact .nil
 | k::ks,_,r=> by
  rw [List.map_cons] at r
  cases r with
  | cons h t=>
   obtain ⟨t',e⟩:=(show ∃ t,_=Value.int k t from h)
   subst e
   exact .cons (by simp [intKind,Value.isInt]) (mS t)
section
variable {X:Cx} {pins:List (Addr×Obj)} {σ:St} {H:Hp} {s:Shared} {a b:Addr} {k:List Int} {xs:List Ent} {A:Around} {E:Value→Shared→Prop}
theorem jA (I:Inv X pins σ H s) (h:SqT X.K H b (k.map V.int)):(tupleKind (intKind X.prog X.w)).is s.heap k b:=by
 obtain ⟨its,rv,⟨o,e,c,n,d⟩,_⟩:=I.tuple h
 exact ⟨o,its.toArray,n,e,c,d,by simpa using mS rv⟩
theorem nD (I:Inv X pins σ H s) (e:H a=some (.ext (Sd X.prog X.w a xs))) (ky:∀ x∈xs,SqT X.K H x.2.1 (x.1.map V.int)):(a==sysModules)=false∧xs.length≤sizeLine∧s.heap.DictOfH (tupleKind (intKind X.prog X.w)) a xs:=by
 obtain ⟨⟨h1,h2,o,es,ep,g1,g2,g3,g4,g5⟩,_⟩:=(show bR X.prog X.w H s.heap a (.ext (Sd X.prog X.w a xs)) from I.hok a _ e)
 exact ⟨h1,h2,o,es,ep,g1,g2,g3,g4,fun x hx=> jA I (ky x hx),g5⟩
end
section
variable {X:Cx} {o i e value:Expr} {pos pos' tpos:Pos} {td ty tv:TE}
theorem vC {pins:List (Addr×Obj)} {σ:St} {H:Hp} {s:Shared} (I:Inv X pins σ H s):sysModules < s.heap.objs.size:=Nat.lt_trans (by decide) (I.mod.glob.keeps I.bk).lt
theorem pV:PE X (.Dict [] [] pos) (fun _ H Q=> ∀ p,H p=none→Q (.ref p) (upd H p (.ext (Sd X.prog X.w p [])))):=fun pins s σ H Q I h=>
 wpAny_Dict_empty ⟨.ref s.heap.objs.size,_,I.laid (a:=s.heap.objs.size) (o:=.ext (Sd X.prog X.w s.heap.objs.size [])) (t':=s.toks) (fun _ _ q=> Heap.get?_push_of_some _ q) (Nat.le_refl _)
  (uf ⟨beq_eq_false_iff_ne.mpr (Ne.symm (Nat.ne_of_lt (vC I))),Nat.zero_le _,_,#[],0,Heap.get?_push_size _ rfl,⟨rfl,rfl,rfl⟩,rfl,rfl,List.nodup_nil⟩),rfl,h _ (I.hok.fresh (Nat.le_refl _))⟩
theorem ub (hu:X.A.units+1 < cLine) (hi:PE X i ty) (ho:PE X o td):PC X .In i o (fun σ H Q=> ty σ H fun y H1=> td σ H1 fun x H2=> ∃ a xs b k,x=.ref a∧H2 a=some (.ext (Sd X.prog X.w a xs))∧
  y=.ref b∧SqT X.K H2 b (k.map V.int)∧(∀ x∈xs,SqT X.K H2 x.2.1 (x.1.map V.int))∧Q (.bl (atKey xs k).isSome) H2):=by
 intro pins s σ H Q I h
 refine thn (hi pins s σ H _ I h) fun iv s1 ⟨y,H1,I1,ry,q1⟩=> thn (ho pins s1 σ H1 _ I1 q1) fun u s2 ⟨x,H2,I2,rx,a,xs,b,k,ex,ea,ey,eb,ky,q2⟩=> ?_
 subst ex ey
 obtain rfl:u=Value.ref a:=rx
 obtain rfl:iv=Value.ref b:=ry
 obtain ⟨hd,hz,dd⟩:=nD I2 ea ky
 exact wpAny_in_heap (tupleKind_room_in1 hu) (jA I2 eb) hd dd ⟨.bl (atKey xs k).isSome,H2,I2.tok _,rfl,q2⟩
theorem pK (hu:X.A.units+1 < cLine) (ho:PE X o td) (hi:PE X i ty) (hv:PE X value tv) (hs:swapsWith value (some (.Subscript o i pos')) pos.line X.env=pure false):
  PS X (.Assign [.Subscript o i pos'] value pos) (fun D σ H=> tv σ H fun v H1=> td σ H1 fun x H2=> ty σ H2 fun y H3=> ∃ a xs b k t,v=.bl t∧x=.ref a∧H3 a=some (.ext (Sd X.prog X.w a xs))∧
   y=.ref b∧SqT X.K H3 b (k.map V.int)∧(∀ x∈xs,SqT X.K H3 x.2.1 (x.1.map V.int))∧atKey xs k=none∧xs.length < sizeLine∧D.nx σ (upd H3 a (.ext (Sd X.prog X.w a (xs++[(k,b,.bool t)]))))):=by
 intro pins s σ H D I h
 refine wpAny_Assign_Subscript (thn (hv pins s σ H _ I h) fun r s1 ⟨v,H1,I1,rv,q1⟩=> thn (ho pins s1 σ H1 _ I1 q1) fun u s2 ⟨x,H2,I2,rx,q2⟩=> thn (hi pins s2 σ H2 _ I2 q2) fun iv s3 ⟨y,H3,I3,ry,a,xs,b,k,t,ev,ex,ea,ey,eb,ky,nk,hl,q3⟩=> ?_) hs
 subst ev ex ey
 obtain rfl:u=Value.ref a:=rx
 obtain rfl:iv=Value.ref b:=ry
 obtain rfl:r=Value.bool t:=rv
 obtain ⟨hd,hz,dd⟩:=nD I3 ea ky
 refine wpAny_setItem_heap (hsz:=hz) (tupleKind_room_in1 hu) (jA I3 eb) dd fun h' dd' hs=> ⟨σ,_,?_,q3⟩
 obtain ⟨q,es,ep,hq,h2,h3,h4,_,h5⟩:=dd'
 rw [storedH_new nk] at h4 h5
 exact I3.write (x:=a) (e:=a) (by rw [ea]; exact True.intro) (.inl rfl) (fun b q hb z=> (hs.2 b hb).trans z) ⟨q,hq⟩ (uf ⟨hd,by simp; omega,q,es,ep,hq,h2,h3,h4,h5⟩)
end
structure Sn (P:Program) (w:World) (K:PySem.W.Frag) (ps:PSt) (j:Nat) (xs:List Ent) (H0:Hp) (O0:List Addr) (σ:St) (H:Hp) (O:List Addr) (d:Addr):Prop where
 rs:Rs K H0 O0 ps σ H O
 vals:∀ (i:Nat) (s:Sl),ps[i]?=some (some s)→∃ u,s=.val u
 non:ps[j]?=some none
 at_:σ[j]?=some (some (.ref d))
 dO:d∈O
 dO0:d ∉ O0
 dh:H d=some (.ext (Sd P w d xs))
 ky:∀ x∈xs,SqT K (hid H O) x.2.1 (x.1.map V.int)
section
variable {P:Program} {w:World} {K:PySem.W.Frag} {H0 H H':Hp} {O0 O:List Addr} {ps:PSt} {σ:St} {j:Nat} {xs:List Ent} {d:Addr}
theorem Sn.go (D:Sn P w K ps j xs H0 O0 σ H O d) (e:aD H H'):Sn P w K ps j xs H0 O0 σ H' O d:=
 ⟨D.rs.go e,D.vals,D.non,D.at_,D.dO,D.dO0,e _ _ D.dh,fun x hx=> (bb e).tup (D.ky x hx)⟩
theorem Sn.set {i:Nat} {v:V} {u:U} (D:Sn P w K ps j xs H0 O0 σ H O d) (r:Rp K (hid H O) v u) (n:i≠j):Sn P w K (ps.set i (some (.val u))) j xs H0 O0 (σ.set i (some v)) H O d:=
 ⟨D.rs.set r,fun k s h=> by
  rcases cy h with ⟨_,e⟩ | ⟨_,e⟩
  ·cases e; exact ⟨_,rfl⟩
  ·exact D.vals k s e,by rw [List.getElem?_set_ne n]; exact D.non,by rw [List.getElem?_set_ne n]; exact D.at_,D.dO,D.dO0,D.dh,D.ky⟩
theorem Sn.less {i:Nat} {s:Sl} (D:Sn P w K (ps.set i (some s)) j xs H0 O0 σ H O d) (n:i≠j) (hi:ps[i]?=some none):Sn P w K ps j xs H0 O0 σ H O d:=by
 have key:∀ {k:Nat} {t:Sl},ps[k]?=some (some t)→(ps.set i (some s))[k]?=some (some t):=fun {k t} h=> by
  have:i≠k:=fun z=> by rw [← z,hi] at h; cases h
  rw [List.getElem?_set_ne this]; exact h
 have R:=D.rs
 refine ⟨⟨R.same,R.old,R.new,R.dom,by have:=R.len; rwa [List.length_set] at this,fun k t h=> R.at_ k t (key h),fun a b xs ys c h1 h2=> R.inj a b xs ys c (key h1) (key h2)⟩,fun k t h=> D.vals k t (key h),?_,D.at_,D.dO,D.dO0,D.dh,D.ky⟩
 have:=D.non
 rwa [List.getElem?_set_ne n] at this
theorem Sn.put {e:Ent} (D:Sn P w K ps j xs H0 O0 σ H O d) (h:SqT K (hid H O) e.2.1 (e.1.map V.int)):Sn P w K ps j (xs++[e]) H0 O0 σ (upd H d (.ext (Sd P w d (xs++[e])))) O d:=by
 have R:=D.rs
 have h0:H0 d=none:=(R.new _ D.dO).resolve_left D.dO0
 have eh:∀ o,hid (upd H d o) O=hid H O:=fun o=> jP D.dO
 refine ⟨⟨R.same.put h0 _,R.old,R.new,fun b hb z=> ?_,R.len,fun i s q=> ?_,fun i k xs ys a q1=> ?_⟩,D.vals,D.non,D.at_,D.dO,D.dO0,aT,fun x hx=> ?_⟩
 ·by_cases e:b=d
  ·rw [e,aT] at z; cases z
  ·rw [aL e] at z; exact R.dom b hb z
 ·obtain ⟨w,k1,k2⟩:=R.at_ i s q
  obtain ⟨u',rfl⟩:=D.vals i s q
  refine ⟨w,k1,?_⟩
  show Rp K (hid (upd H d _) O) w u'
  rw [eh]; exact k2
 ·obtain ⟨u',z⟩:=D.vals _ _ q1
  cases z
 ·rw [eh]
  rcases List.mem_append.mp hx with q | q
  ·exact D.ky x q
  ·rw [List.mem_singleton.mp q]; exact h
end
theorem tL {K:PySem.W.Frag} {H:Hp} {v:V} {a b:Int} (r:Rp K H v (.tup [.int a,.int b])):∃ p,v=.ref p∧SqT K H p ([a,b].map V.int):=by
 cases r with
 | @tup p vs _ hq hl hh=>
  obtain ⟨x,y,rfl,h1,h2⟩:=fO (⟨hl,hh⟩:Rps K H vs [.int a,.int b])
  cases h1
  cases h2
  exact ⟨p,rfl,hq⟩
section
variable {X:Cx} {H0:Hp} {O0:List Addr} {E:XK} {ps:PSt} {D:PD} {iter e t1:Expr} {items:List U} {ss b1 b2:List Stmt}
theorem lO {xs:List Ent} {k:List Int} (h:∀ x∈xs,x.1≠k):atKey xs k=none:=by
 unfold atKey
 rw [List.find?_eq_none.mpr fun x hx=> by simpa using h x hx]; rfl
set_option maxHeartbeats 1000000 in
theorem v7 {j kk zz cj tj:Nat} {x y z:Str} {xp1 xp2 xp3 yp zp zp2 zp3 zp4 lp ap p1 p2 ep cp cp2 cp3 bp sp tp sap fp:Pos} (f g:Nat→Int)
  (hc:X.calm=true) (hu:X.A.units+1 < cLine) (hp:PassesOwn (model X.prog X.w) X.A X.env X.xe) (hN:X.N.Nodup) (hj:X.N[j]?=some x) (hk:X.N[kk]?=some y) (hz:X.N[zz]?=some z) (lx:Loc X.env.scope x) (ly:Loc X.env.scope y) (lz:Loc X.env.scope z)
  (hjk:kk≠j) (hjz:zz≠j) (hkz:zz≠kk) (pj:ps[j]?=some none) (pk:ps[kk]?=some none) (pz:ps[zz]?=some none) (hv:∀ (i:Nat) (s:Sl),ps[i]?=some (some s)→∃ u,s=.val u)
  (hi:EvI X H0 O0 ps (.Name y yp) iter items)
  (ht:∀ (H0:Hp) (i:Nat) (x:U),items[i]?=some x→Tt X H0 O0 (ps.set kk (some (.val x))) t1 false)
  (he:∀ (H0:Hp) (i:Nat) (x:U),items[i]?=some x→Ev X H0 O0 (ps.set kk (some (.val x))) e (.tup [.int (f i),.int (g i)]))
  (hd:∀ i j,i < items.length→j < i→¬ (f i=f j∧g i=g j)) (hl:items.length < sizeLine)
  (h:Ws X H0 O0 E ss D ps)
  (hx:Vis X.env.scope x:=by first | exact Or.inl rfl | exact Or.inr (Or.inl rfl) | exact Or.inr (Or.inr rfl)) (hdx:(x==("__debug__":Str))=false:=by decide) (hcx:(x==("__classdict__":Str))=false:=by decide)
  (hzv:Vis X.env.scope z:=by first | exact Or.inl rfl | exact Or.inr (Or.inl rfl) | exact Or.inr (Or.inr rfl)) (hdz:(z==("__debug__":Str))=false:=by decide) (hcz:(z==("__classdict__":Str))=false:=by decide)
  (hsa:swapsWith (.Dict [] [] lp) (some (.Name x xp1)) ap.line X.env=pure false:=by rfl)
  (hse:swapsWith e (some (.Name z zp)) ep.line X.env=pure false:=by rfl)
  (hss:swapsWith (.Constant (.bool true) tj tp) (some (.Subscript (.Name x xp3) (.Name z zp4) sp)) sap.line X.env=pure false:=by rfl)
  (hfx:X.fn x=true∨X.env.scope.names.lookup x=some .local:=by first | exact .inl rfl | exact .inr rfl | assumption)
  (hfy:X.fn y=true∨X.env.scope.names.lookup y=some .local:=by first | exact .inl rfl | exact .inr rfl | assumption)
  (hfz:X.fn z=true∨X.env.scope.names.lookup z=some .local:=by first | exact .inl rfl | exact .inr rfl | assumption)
  (hf:∀ z,foldedSetIterable iter X.env z=pure z:=by intro _; rfl):
  Ws X H0 O0 E (.Assign [.Name x xp1] (.Dict [] [] lp) ap::.For (.Name y yp) iter [.If t1 b1 [] p1,.Assign [.Name z zp] e ep,
   .If (.BoolOp .Or [.Compare (.Name z zp2) [.Is] [.Constant .none cj cp] cp2,.Compare (.Name z zp3) [.In] [.Name x xp2] cp3] bp) b2 [] p2,
   .Assign [.Subscript (.Name x xp3) (.Name z zp4) sp] (.Constant (.bool true) tj tp) sap] [] fp::ss) D ps:=by
 have q1:PT X t1 fun σ H Q=> ∃ B i z,items[i]?=some z∧∃ O,Rs X.K B O0 (ps.set kk (some (.val z))) σ H O∧∀ H',aD H H'→Q false H':=fun pins s σ H Q I ⟨B,i,z,hz,w⟩=> ht B i z hz pins s σ H Q I w
 have q2:PE X e fun σ H Q=> ∃ B i z,items[i]?=some z∧∃ O,Rs X.K B O0 (ps.set kk (some (.val z))) σ H O∧∀ v H',aD H H'→Rp X.K (hid H' O) v (.tup [.int (f i),.int (g i)])→Q v H':=fun pins s σ H Q I ⟨B,i,z,hz,w⟩=> he B i z hz pins s σ H Q I w
 have vz:∀ {pos},PE X (.Name z pos) (uL zz):=fg hz hzv hdz hcz
 have vx:∀ {pos},PE X (.Name x pos) (uL j):=fg hj hx hdx hcx
 have hbody:=cS (mO (pos:=p1) (b:=[]) q1 (ja (sts:=b1)) gU) (cS (jM (pos:=ep) (pos':=zp) hN hz lz q2 hse hfz)
  (cS (mO (pos:=p2) (b:=[]) (qI (pos:=bp) (p_ (pos:=cp2) (vF (j:=cj) (pos':=cp) (vz (pos:=zp2)))) (qM (p_ (pos:=cp3) (ub hu (vz (pos:=zp3)) (vx (pos:=xp2))) rfl))).pt (ja (sts:=b2)) gU)
  (cS (pK (pos:=sap) (pos':=sp) hu (vx (pos:=xp3)) (vz (pos:=zp4)) (uo (j:=tj) (pos:=tp)) hss) (gU (X:=X)))))
 refine PSs.mono (cS (jM hN hj lx (pV (pos:=lp)) hsa hfx) (cS (lC hp hc hi (bK hN hk ly hfy) hbody hf) h)) fun D' σ H ⟨L,O,R⟩=> ?_
 intro d nd
 have s0:aD H (upd H d (.ext (Sd X.prog X.w d []))):=aV nd _
 have bd:(upd H d (.ext (Sd X.prog X.w d []))) d=some (.ext (Sd X.prog X.w d [])):=aT
 generalize upd H d (.ext (Sd X.prog X.w d []))=G3 at *
 have R3:=R.hide s0 nd (by rw [bd]; intro z; cases z)
 have D3:Sn X.prog X.w X.K ps j [] H0 O0 (σ.set j (some (.ref d))) G3 (d::O) d:=
  ⟨R3.setn pj,hv,pj,dk (by rw [R.len]; exact aM pj),List.mem_cons_self,fun z=> R.dom d (R.old d z) nd,bd,fun x hx=> by cases hx⟩
 generalize (d::O)=O1 at D3
 refine ⟨O1,D3.rs,fun J G4 s4 Y=> ?_⟩
 have D4:=D3.go s4
 have base:=D4.rs.base
 have D5:Sn X.prog X.w X.K ps j [] (hid G4 (O1.filter fun a=> decide (a ∉ O0))) O0 (σ.set j (some (.ref d))) G4 O1 d:=⟨D4.rs.rebase,D4.vals,D4.non,D4.at_,D4.dO,D4.dO0,D4.dh,D4.ky⟩
 generalize hB:hid G4 (O1.filter fun a=> decide (a ∉ O0))=B at *
 refine ⟨fun i m σ H=> m=items.length - i∧i≤items.length∧∃ O' xs,xs.length=i∧(∀ x∈xs,∃ t,t < i∧x.1=[f t,g t])∧Sn X.prog X.w X.K ps j xs B O0 σ H O' d,⟨_,rfl,Nat.zero_le _,O1,[],rfl,(fun x hx=> by cases hx),D5⟩,?_⟩
 rintro i m σ2 H2 ⟨rfl,hi2,O2,xs,hxl,hxs,D6⟩
 have seen:aD (hid G4 O1) (hid H2 O2):=D4.rs.seen (by rw [hB]; exact D6.rs)
 obtain ⟨y1,y2⟩:=Y H2 (seen.trans ax)
 by_cases hlt:i < items.length
 ·obtain ⟨g1,g2⟩:=y1 i hlt
  refine .inr ⟨g1,fun σ' H'=> ∃ O' xs,xs.length=i+1∧(∀ x∈xs,∃ t,t < i+1∧x.1=[f t,g t])∧Sn X.prog X.w X.K ps j xs B O0 σ' H' O' d,fun σ' H' z=> ⟨items.length - (i+1),by omega,rfl,hlt,z⟩,fun z H3 yl=> ?_⟩
  obtain ⟨rfl,u,hu,r⟩:=g2 z H3 yl
  have D7:=D6.set (r.same seen) hjk
  refine ⟨B,i,u,hu,O2,D7.rs,fun H4 s4=> km ?_⟩
  have D8:=D7.go s4
  refine ⟨B,i,u,hu,O2,D8.rs,fun v H5 s5 r5=> ?_⟩
  have D9:=(D8.go s5).set r5 hjz
  obtain ⟨pp,rfl,sq⟩:=tL r5
  have zat:=dk (xs:=σ2.set kk (some z)) (i:=zz) (y:=some (V.ref pp)) (by rw [List.length_set,D6.rs.len]; exact aM pz)
  have nk:atKey xs [f i,g i]=none:=lO fun x hx e=> by
   obtain ⟨t,ht,e'⟩:=hxs x hx
   rw [e'] at e
   simp at e
   exact hd i t hlt ht ⟨e.1.symm,e.2.symm⟩
  have ky:∀ x∈xs,SqT X.K H5 x.2.1 (x.1.map V.int):=fun x hx=> ax.tup (D9.ky x hx)
  refine ⟨_,zat,_,rfl,km ⟨_,zat,_,D9.at_,d,xs,pp,[f i,g i],rfl,D9.dh,rfl,ax.tup sq,ky,_,rfl,?_⟩⟩
  rw [nk]
  refine km ⟨_,D9.at_,_,zat,d,xs,pp,[f i,g i],true,rfl,rfl,D9.dh,rfl,ax.tup sq,ky,nk,by omega,?_⟩
  refine ⟨O2,xs++[([f i,g i],pp,.bool true)],by simp [hxl],fun x hx=> ?_,((D9.put (e:=([f i,g i],pp,.bool true)) sq).less hjz ?_).less hjk pk⟩
  ·rcases List.mem_append.mp hx with q | q
   ·obtain ⟨t,h1,h2⟩:=hxs x q
    exact ⟨t,by omega,h2⟩
   ·rw [List.mem_singleton.mp q]
    exact ⟨i,Nat.lt_succ_self i,rfl⟩
  ·rw [List.getElem?_set_ne hkz.symm]; exact pz
 ·have e:i=items.length:=by omega
  subst e
  exact .inl ⟨y2,L,O2,D6.rs.unbase base⟩
end
end L2
namespace ST6
open PySem PyProof.Rows ST
section
variable {prog:Program} {w:World} {A:Around} {E:Value→Shared→Prop} {s:Shared}
theorem iY {a b c d e f:Int} {vs:List Value} (h:ItemsAre (intKind prog w) [a,b,c,d,e,f] vs):∃ t1 t2 t3 t4 t5 t6,vs=[.int a t1,.int b t2,.int c t3,.int d t4,.int e t5,.int f t6]:=by
 cases h with
 | cons h1 h=> cases h with
  | cons h2 h=> cases h with
   | cons h3 h=> cases h with
    | cons h4 h=> cases h with
     | cons h5 h=> cases h with
      | cons h6 h=>
       cases h
       obtain ⟨t1,rfl⟩:=Value.isInt_shape h1
       obtain ⟨t2,rfl⟩:=Value.isInt_shape h2
       obtain ⟨t3,rfl⟩:=Value.isInt_shape h3
       obtain ⟨t4,rfl⟩:=Value.isInt_shape h4
       obtain ⟨t5,rfl⟩:=Value.isInt_shape h5
       obtain ⟨t6,rfl⟩:=Value.isInt_shape h6
       exact ⟨t1,t2,t3,t4,t5,t6,rfl⟩
theorem fZ {a b:Int} {r t:List Int} (e:a=b):ltL (a::r) (b::t)=ltL r t:=by rw [ltL,if_pos e]
theorem fW {a b:Int} {r t:List Int} (e:¬ a=b):ltL (a::r) (b::t)=decide (a < b):=by rw [ltL,if_neg e]
set_option maxHeartbeats 1000000 in
theorem oa {x y:Addr} {a1 a2 a3 a4 a5 a6 b1 b2 b3 b4 b5 b6:Int} {P:PySem.Fin→Shared→Prop} (hx:TK prog w s.heap [a1,a2,a3,a4,a5,a6] x) (hy:TK prog w s.heap [b1,b2,b3,b4,b5,b6] y)
  (h:P (.done (.ret (.bool (ltL [a1,a2,a3,a4,a5,a6] [b1,b2,b3,b4,b5,b6])))) s):
  wpAny (model prog w) A (Builtin.«tuple.__lt__» ⟨[.ref x,.ref y],[]⟩) P E s:=by
 have hTb:=hy.typeIs
 obtain ⟨o,its,n,ho,_,hd,hi⟩:=hx
 obtain ⟨o',its',n',ho',_,hd',hi'⟩:=hy
 obtain ⟨t1,t2,t3,t4,t5,t6,hi⟩:=iY hi
 obtain ⟨u1,u2,u3,u4,u5,u6,hi'⟩:=iY hi'
 show wpAny _ _ (isInstance (.ref y) (.type "tuple") >>=_) _ _ s
 refine wpAny_bind (wpAny_isInstance hTb isSubtype_tuple_tuple ?_)
 simp only [Bool.not_true,Bool.false_eq_true,if_false]
 refine wpAny_bind (wpAny_tupleItemsOf ho hd ?_)
 refine wpAny_bind (wpAny_tupleItemsOf ho' hd' ?_)
 have sz:its.size=its'.size:=by rw [← Array.length_toList,← Array.length_toList,hi,hi']; rfl
 rw [hi,hi']
 refine wpAny_bind ?_
 simp only [List.zip_cons_cons,List.zip_nil_left,List.forIn_cons,List.forIn_nil]
 refine wpAny_bind (wpAny_bind ((intKind prog w).eqBool (a:=a1) (b:=b1) (intKind_is _ _ _ _) (intKind_is _ _ _ _) ?_))
 by_cases e1:a1=b1
 rotate_left
 ·rw [fW e1] at h
  rw [decide_eq_false e1]
  simp only [Bool.not_false,if_true]
  exact wpAny_bind (wpAny_rule (wpAny_bind (d_ (wpAny_bind (wpAny_pure (wpAny_pure (wpAny_pure (wpAny_pure h))))))))
 rw [fZ e1] at h
 rw [decide_eq_true e1]
 simp only [Bool.not_true,Bool.false_eq_true,if_false]
 refine wpAny_pure ?_
 refine wpAny_bind (wpAny_bind ((intKind prog w).eqBool (a:=a2) (b:=b2) (intKind_is _ _ _ _) (intKind_is _ _ _ _) ?_))
 by_cases e2:a2=b2
 rotate_left
 ·rw [fW e2] at h
  rw [decide_eq_false e2]
  simp only [Bool.not_false,if_true]
  exact wpAny_bind (wpAny_rule (wpAny_bind (d_ (wpAny_bind (wpAny_pure (wpAny_pure (wpAny_pure (wpAny_pure h))))))))
 rw [fZ e2] at h
 rw [decide_eq_true e2]
 simp only [Bool.not_true,Bool.false_eq_true,if_false]
 refine wpAny_pure ?_
 refine wpAny_bind (wpAny_bind ((intKind prog w).eqBool (a:=a3) (b:=b3) (intKind_is _ _ _ _) (intKind_is _ _ _ _) ?_))
 by_cases e3:a3=b3
 rotate_left
 ·rw [fW e3] at h
  rw [decide_eq_false e3]
  simp only [Bool.not_false,if_true]
  exact wpAny_bind (wpAny_rule (wpAny_bind (d_ (wpAny_bind (wpAny_pure (wpAny_pure (wpAny_pure (wpAny_pure h))))))))
 rw [fZ e3] at h
 rw [decide_eq_true e3]
 simp only [Bool.not_true,Bool.false_eq_true,if_false]
 refine wpAny_pure ?_
 refine wpAny_bind (wpAny_bind ((intKind prog w).eqBool (a:=a4) (b:=b4) (intKind_is _ _ _ _) (intKind_is _ _ _ _) ?_))
 by_cases e4:a4=b4
 rotate_left
 ·rw [fW e4] at h
  rw [decide_eq_false e4]
  simp only [Bool.not_false,if_true]
  exact wpAny_bind (wpAny_rule (wpAny_bind (d_ (wpAny_bind (wpAny_pure (wpAny_pure (wpAny_pure (wpAny_pure h))))))))
 rw [fZ e4] at h
 rw [decide_eq_true e4]
 simp only [Bool.not_true,Bool.false_eq_true,if_false]
 refine wpAny_pure ?_
 refine wpAny_bind (wpAny_bind ((intKind prog w).eqBool (a:=a5) (b:=b5) (intKind_is _ _ _ _) (intKind_is _ _ _ _) ?_))
 by_cases e5:a5=b5
 rotate_left
 ·rw [fW e5] at h
  rw [decide_eq_false e5]
  simp only [Bool.not_false,if_true]
  exact wpAny_bind (wpAny_rule (wpAny_bind (d_ (wpAny_bind (wpAny_pure (wpAny_pure (wpAny_pure (wpAny_pure h))))))))
 rw [fZ e5] at h
 rw [decide_eq_true e5]
 simp only [Bool.not_true,Bool.false_eq_true,if_false]
 refine wpAny_pure ?_
 refine wpAny_bind (wpAny_bind ((intKind prog w).eqBool (a:=a6) (b:=b6) (intKind_is _ _ _ _) (intKind_is _ _ _ _) ?_))
 by_cases e6:a6=b6
 rotate_left
 ·rw [fW e6] at h
  rw [decide_eq_false e6]
  simp only [Bool.not_false,if_true]
  exact wpAny_bind (wpAny_rule (wpAny_bind (d_ (wpAny_bind (wpAny_pure (wpAny_pure (wpAny_pure (wpAny_pure h))))))))
 rw [fZ e6] at h
 rw [decide_eq_true e6]
 simp only [Bool.not_true,Bool.false_eq_true,if_false]
 refine wpAny_pure (wpAny_pure ?_)
 refine wpAny_pure ?_
 show P (.done (.ret (.bool (decide (its.size < its'.size))))) s
 rw [sz,decide_eq_false (Nat.lt_irrefl _)]
 exact h
theorem lt_sixR {x y:Addr} {a b:List Int} {Q:Value→Shared→Prop} (la:a.length=6) (lb:b.length=6) (hu:A.units < cLine) (hx:TK prog w s.heap a x) (hy:TK prog w s.heap b y) (h:Q (.bool (ltL a b)) s):
  wpAny (model prog w) A (compareOp .Lt (.ref x) (.ref y)) Q E s:=by
 match a,la,b,lb,hx,hy,h with
 | [a1,a2,a3,a4,a5,a6],_,[b1,b2,b3,b4,b5,b6],_,hx,hy,h=>
  exact wpAny_richCompare_same_room (op:=.Lt) hx.typeIs hy.typeIs PySem.F.slot_tuple_lt
   (wpAny_call_entry PySem.F.slot_tuple_lt hx.typeIs PySem.F.entry_tuple_lt (oa hx hy ⟨_,rfl,(fun e=> nomatch e),h⟩) (PySem.F.args_tuple_lt_2 _ _)) hu
end
end ST6
namespace L2
open PySem PySem.Spec PyProof.Rows
theorem ki {K:PySem.W.Frag} {H:Hp}:∀ {k:List Int} {vs:List V},Rps K H vs (k.map U.int)→vs=k.map V.int
 | [],vs,r=> by rw [List.map_nil] at r; exact r.nil_inv
 | a::k,vs,r=> by
  rw [List.map_cons] at r
  obtain ⟨v,ws,rfl,h1,h2⟩:=r.cons_inv
  cases h1
  rw [ki h2]; rfl
theorem qb {X:Cx} {pins:List (Addr×Obj)} {σ:List (Option V)} {H:Hp} {s:Shared} {k:List Int} (I:Inv X pins σ H s) {v:V} {u:Value} (r:Rp X.K H v (sxU k)) (e:aU v u):∃ b,u=.ref b∧ST.TK X.prog X.w s.heap k b:=by
 cases r with
 | @tup b zs _ hs hsl hsi=>
  cases e
  have e1:=ki (⟨hsl,hsi⟩:Rps X.K H zs (k.map U.int))
  subst e1
  exact ⟨b,rfl,jA I hs⟩
theorem wW {X:Cx} {a b:List Int} (hu:X.A.units+10 < cLine) (la:a.length=6) (lb:b.length=6):OpS X (compareOp .Lt) (sxU a) (sxU b) (.bl (ST6.ltL a b)):=by
 intro pins s σ H v w e f Q I r1 r2 h
 obtain ⟨k1,k2,k3⟩:=h
 obtain ⟨b1,rfl,t1⟩:=qb I k1 r1
 obtain ⟨b2,rfl,t2⟩:=qb I k2 r2
 exact ST6.lt_sixR la lb (by omega) t1 t2 (aR I k3 rfl)
end L2
local macro_rules | `(tactic| walk_at "sz")=> `(tactic| first | with_reducible assumption | ((with_reducible apply L2.Sz.sub') <;> walk_at "sz") | ((with_reducible apply L2.Sz.add') <;> walk_at "sz") | ((with_reducible apply L2.Sz.mul) <;> walk_at "sz") | ((with_reducible apply L2.Sz.neg) <;> walk_at "sz") | ((with_reducible apply L2.Sz.ediv) <;> walk_at "sz") | ((with_reducible apply L2.Sz.abs) <;> walk_at "sz") | exact L2.Sz.lit (m:=8) (by decide) | exact L2.Sz.emod (m:=250) (by decide) (by decide) | exact L2.Sz.lit (m:=250) (by decide))
local macro_rules | `(tactic| walk_at "mul")=> `(tactic| exact L2.Sz.ok (by walk_at "sz") (by walk_at "sz") (by decide))
local macro_rules | `(tactic| walk_at "div")=> `(tactic| first | exact ⟨by decide,L2.Sz.mono (m:=250) (by decide) (by decide)⟩ | exact ⟨by omega,L2.Sz.mono (by walk_at "sz") (by decide)⟩)
local macro_rules | `(tactic| walk_at "mod")=> `(tactic| first | decide | omega)
local macro_rules | `(tactic| walk_at "szb")=> `(tactic| exact L2.Sz.mono (by walk_at "sz") (by decide))
local macro_rules | `(tactic| walk_at "kit")=> `(tactic| first | exact L2.kit_int_int _ | exact L2.kit_int_bool _ | exact L2.kit_tuple_tuple _ | exact L2.kit_list_list _ | exact L2.kit_bool_int _ | exact L2.kit_list_tuple _ | rfl)
local macro_rules | `(tactic| walk_at "ok")=> `(tactic| first | rfl | decide)
local macro_rules | `(tactic| walk_at "sub")=> `(tactic| first | exact trivial | (refine ⟨rfl,?_⟩; walk_at "sub") | (with_reducible apply L2.SubP.skip; walk_at "sub"))
local macro_rules | `(tactic| walk_at "len")=> `(tactic| first | decide | (simp only [List.length_append,List.length_cons,List.length_nil,List.length_map]; decide))
namespace My
open PySem PySem.Spec PyProof.Rows L2
def top (i:Nat):Stmt:=PySem.Challenge.pw_stakefield_k51_stands.main.body.getD i (.Pass ⟨0,0,0,0⟩)
abbrev cA:Stmt:=top 5
abbrev gd:Stmt:=top 6
abbrev du:Stmt:=top 7
abbrev fY:Stmt:=top 9
abbrev cw:Stmt:=top 10
abbrev b_:Stmt:=top 11
abbrev dl:Stmt:=top 12
abbrev eM:Stmt:=top 13
abbrev dy:Stmt:=top 14
abbrev eB:Stmt:=top 15
abbrev eO:Stmt:=top 16
abbrev eu:Stmt:=top 18
abbrev dz:Stmt:=top 19
abbrev bE:Stmt:=top 21
abbrev bU:Stmt:=top 22
abbrev bS:Stmt:=top 23
abbrev bF:Stmt:=top 24
abbrev ci:Stmt:=top 25
abbrev cx:Stmt:=top 26
abbrev bI:Stmt:=top 27
abbrev cg:Stmt:=top 28
abbrev bG:Stmt:=top 29
abbrev cP:Stmt:=top 30
abbrev bP:Stmt:=top 31
abbrev iZ:Stmt:=top 32
theorem kH:aH ["thing"] ["thing"] (aj cA):=⟨rfl,rfl,rfl,by decide+kernel,rfl,by decide+kernel,by decide+kernel⟩
theorem t7:aH ["number"] ["number"] (aj gd):=⟨rfl,rfl,rfl,by decide+kernel,rfl,by decide+kernel,by decide+kernel⟩
theorem bj:aH ["a","b","high","high_times","low","low_times","fits","rest","rest_times","s"] ["a","b"] (aj du):=⟨rfl,rfl,rfl,by decide+kernel,rfl,by decide+kernel,by decide+kernel⟩
theorem r6:aH ["move"] ["move"] (aj fY):=⟨rfl,rfl,rfl,by decide+kernel,rfl,by decide+kernel,by decide+kernel⟩
theorem ig:aH ["thing","number"] ["thing"] (aj cw):=⟨rfl,rfl,rfl,by decide+kernel,rfl,by decide+kernel,by decide+kernel⟩
theorem jS:aH ["thing"] ["thing"] (aj b_):=⟨rfl,rfl,rfl,by decide+kernel,rfl,by decide+kernel,by decide+kernel⟩
theorem oE:aH ["P","move"] ["P","move"] (aj dl):=⟨rfl,rfl,rfl,by decide+kernel,rfl,by decide+kernel,by decide+kernel⟩
theorem kh:aH ["P","move","place"] ["P","move"] (aj eM):=⟨rfl,rfl,rfl,by decide+kernel,rfl,by decide+kernel,by decide+kernel⟩
theorem eo:aH ["first","second","right","up","origin"] ["first","second"] (aj dy):=⟨rfl,rfl,rfl,by decide+kernel,rfl,by decide+kernel,by decide+kernel⟩
theorem rJ:aH ["P","Q"] ["P","Q"] (aj eB):=⟨rfl,rfl,rfl,by decide+kernel,rfl,by decide+kernel,by decide+kernel⟩
theorem cH:aH ["P","Q","far","u","v","parts","s","t"] ["P","Q"] (aj eO):=⟨rfl,rfl,rfl,by decide+kernel,rfl,by decide+kernel,by decide+kernel⟩
theorem dR:aH ["corner","along","aside","move","place"] ["corner","along","aside"] (aj eu):=⟨rfl,rfl,rfl,by decide+kernel,rfl,by decide+kernel,by decide+kernel⟩
theorem di:aH ["land","found","before","corner","after"] ["land"] (aj dz):=⟨rfl,rfl,rfl,by decide+kernel,rfl,by decide+kernel,by decide+kernel⟩
theorem gD:aH ["script","k"] ["script","k"] (aj bE):=⟨rfl,rfl,rfl,by decide+kernel,rfl,by decide+kernel,by decide+kernel⟩
theorem iQ:aH ["found"] ["found"] (aj bU):=⟨rfl,rfl,rfl,by decide+kernel,rfl,by decide+kernel,by decide+kernel⟩
theorem eY:aH ["one","two","three","made"] ["one","two","three"] (aj bS):=⟨rfl,rfl,rfl,by decide+kernel,rfl,by decide+kernel,by decide+kernel⟩
theorem bg:aH ["points","row","found","way","half","spot"] ["points"] (aj bF):=⟨rfl,rfl,rfl,by decide+kernel,rfl,by decide+kernel,by decide+kernel⟩
theorem ka:aH ["cell","small"] ["cell","small"] (aj ci):=⟨rfl,rfl,rfl,by decide+kernel,rfl,by decide+kernel,by decide+kernel⟩
theorem bA:aH ["spot","script","x","y","shape","right","above"] ["spot","script"] (aj cx):=⟨rfl,rfl,rfl,by decide+kernel,rfl,by decide+kernel,by decide+kernel⟩
theorem aW:aH ["script","shape","wide","high","cells","some","k","cell"] ["script"] (aj bI):=⟨rfl,rfl,rfl,by decide+kernel,rfl,by decide+kernel,by decide+kernel⟩
theorem cO:aH ["ends","kinds","e"] ["ends"] (aj cg):=⟨rfl,rfl,rfl,by decide+kernel,rfl,by decide+kernel,by decide+kernel⟩
theorem dM:aH ["move","number"] ["move"] (aj bG):=⟨rfl,rfl,rfl,by decide+kernel,rfl,by decide+kernel,by decide+kernel⟩
theorem ir:aH ["move","spot","x"] ["move","spot"] (aj cP):=⟨rfl,rfl,rfl,by decide+kernel,rfl,by decide+kernel,by decide+kernel⟩
theorem bv:aH ["move","ends","some","spot","k","near","far"] ["move","ends"] (aj bP):=⟨rfl,rfl,rfl,by decide+kernel,rfl,by decide+kernel,by decide+kernel⟩
theorem fR:aH ["script","ends","handed","found","seen","move","pair","k"] ["script"] (aj iZ):=⟨rfl,rfl,rfl,by decide+kernel,rfl,by decide+kernel,by decide+kernel⟩
set_option genInjectivity false in
set_option genSizeOf false in
set_option genSizeOfSpec false in
structure Txt (K:PySem.W.Frag) (mg:Str→Option Value) where
 a_is_whole:Addr
 d_is_whole:FuncData
 F_is_whole:Fun K "is_whole" "is_whole" cA a_is_whole d_is_whole
 b_is_whole:a_ K d_is_whole ["thing"] []
 m_is_whole:mg "is_whole"=some (.ref a_is_whole)
 a_sign:Addr
 d_sign:FuncData
 F_sign:Fun K "sign" "sign" gd a_sign d_sign
 b_sign:a_ K d_sign ["number"] []
 m_sign:mg "sign"=some (.ref a_sign)
 a_shares:Addr
 d_shares:FuncData
 F_shares:Fun K "shares" "shares" du a_shares d_shares
 b_shares:a_ K d_shares ["a","b"] []
 m_shares:mg "shares"=some (.ref a_shares)
 a_hand:Addr
 d_hand:FuncData
 F_hand:Fun K "hand" "hand" fY a_hand d_hand
 b_hand:a_ K d_hand ["move"] []
 m_hand:mg "hand"=some (.ref a_hand)
 a_is_move:Addr
 d_is_move:FuncData
 F_is_move:Fun K "is_move" "is_move" cw a_is_move d_is_move
 b_is_move:a_ K d_is_move ["thing"] []
 m_is_move:mg "is_move"=some (.ref a_is_move)
 a_need_move:Addr
 d_need_move:FuncData
 F_need_move:Fun K "need_move" "need_move" b_ a_need_move d_need_move
 b_need_move:a_ K d_need_move ["thing"] []
 m_need_move:mg "need_move"=some (.ref a_need_move)
 a_turned:Addr
 d_turned:FuncData
 F_turned:Fun K "turned" "turned" dl a_turned d_turned
 b_turned:a_ K d_turned ["P","move"] []
 m_turned:mg "turned"=some (.ref a_turned)
 a_moved:Addr
 d_moved:FuncData
 F_moved:Fun K "moved" "moved" eM a_moved d_moved
 b_moved:a_ K d_moved ["P","move"] []
 m_moved:mg "moved"=some (.ref a_moved)
 a_behind:Addr
 d_behind:FuncData
 F_behind:Fun K "behind" "behind" dy a_behind d_behind
 b_behind:a_ K d_behind ["first","second"] []
 m_behind:mg "behind"=some (.ref a_behind)
 a_steps:Addr
 d_steps:FuncData
 F_steps:Fun K "steps" "steps" eB a_steps d_steps
 b_steps:a_ K d_steps ["P","Q"] []
 m_steps:mg "steps"=some (.ref a_steps)
 a_level:Addr
 d_level:FuncData
 F_level:Fun K "level" "level" eO a_level d_level
 b_level:a_ K d_level ["P","Q"] []
 m_level:mg "level"=some (.ref a_level)
 a_stand:Addr
 d_stand:FuncData
 F_stand:Fun K "stand" "stand" eu a_stand d_stand
 b_stand:a_ K d_stand ["corner","along","aside"] []
 m_stand:mg "stand"=some (.ref a_stand)
 a_stands:Addr
 d_stands:FuncData
 F_stands:Fun K "stands" "stands" dz a_stands d_stands
 b_stands:a_ K d_stands ["land"] []
 m_stands:mg "stands"=some (.ref a_stands)
 a__law_cell_at:Addr
 d__law_cell_at:FuncData
 F__law_cell_at:Fun K "_law_cell_at" "_law_cell_at" bE a__law_cell_at d__law_cell_at
 b__law_cell_at:a_ K d__law_cell_at ["script","k"] []
 m__law_cell_at:mg "_law_cell_at"=some (.ref a__law_cell_at)
 a__law_whole:Addr
 d__law_whole:FuncData
 F__law_whole:Fun K "_law_whole" "_law_whole" bU a__law_whole d__law_whole
 b__law_whole:a_ K d__law_whole ["found"] []
 m__law_whole:mg "_law_whole"=some (.ref a__law_whole)
 a__law_cross:Addr
 d__law_cross:FuncData
 F__law_cross:Fun K "_law_cross" "_law_cross" bS a__law_cross d__law_cross
 b__law_cross:a_ K d__law_cross ["one","two","three"] []
 m__law_cross:mg "_law_cross"=some (.ref a__law_cross)
 a__law_corners:Addr
 d__law_corners:FuncData
 F__law_corners:Fun K "_law_corners" "_law_corners" bF a__law_corners d__law_corners
 b__law_corners:a_ K d__law_corners ["points"] []
 m__law_corners:mg "_law_corners"=some (.ref a__law_corners)
 a__law_lean:Addr
 d__law_lean:FuncData
 F__law_lean:Fun K "_law_lean" "_law_lean" ci a__law_lean d__law_lean
 b__law_lean:a_ K d__law_lean ["cell","small"] []
 m__law_lean:mg "_law_lean"=some (.ref a__law_lean)
 a__law_put:Addr
 d__law_put:FuncData
 F__law_put:Fun K "_law_put" "_law_put" cx a__law_put d__law_put
 b__law_put:a_ K d__law_put ["spot","script"] []
 m__law_put:mg "_law_put"=some (.ref a__law_put)
 a__law_ends:Addr
 d__law_ends:FuncData
 F__law_ends:Fun K "_law_ends" "_law_ends" bI a__law_ends d__law_ends
 b__law_ends:a_ K d__law_ends ["script"] []
 m__law_ends:mg "_law_ends"=some (.ref a__law_ends)
 a__law_flat:Addr
 d__law_flat:FuncData
 F__law_flat:Fun K "_law_flat" "_law_flat" cg a__law_flat d__law_flat
 b__law_flat:a_ K d__law_flat ["ends"] []
 m__law_flat:mg "_law_flat"=some (.ref a__law_flat)
 a__law_is_move:Addr
 d__law_is_move:FuncData
 F__law_is_move:Fun K "_law_is_move" "_law_is_move" bG a__law_is_move d__law_is_move
 b__law_is_move:a_ K d__law_is_move ["move"] []
 m__law_is_move:mg "_law_is_move"=some (.ref a__law_is_move)
 a__law_by:Addr
 d__law_by:FuncData
 F__law_by:Fun K "_law_by" "_law_by" cP a__law_by d__law_by
 b__law_by:a_ K d__law_by ["move","spot"] []
 m__law_by:mg "_law_by"=some (.ref a__law_by)
 a__law_pair:Addr
 d__law_pair:FuncData
 F__law_pair:Fun K "_law_pair" "_law_pair" bP a__law_pair d__law_pair
 b__law_pair:a_ K d__law_pair ["move","ends"] []
 m__law_pair:mg "_law_pair"=some (.ref a__law_pair)
 a_law:Addr
 d_law:FuncData
 F_law:Fun K "law" "law" iZ a_law d_law
 b_law:a_ K d_law ["script"] []
 m_law:mg "law"=some (.ref a_law)
 c_Flat:Addr
 x_Flat:PySem.W.excIn K c_Flat [.type "ValueError",.type "Exception",.type "BaseException",.type "object"] "ValueError.__new__"=true
 mx_Flat:mg "Flat"=some (.ref c_Flat)
 c_NoMove:Addr
 x_NoMove:PySem.W.excIn K c_NoMove [.type "ValueError",.type "Exception",.type "BaseException",.type "object"] "ValueError.__new__"=true
 mx_NoMove:mg "NoMove"=some (.ref c_NoMove)
 c_StakeError:Addr
 mx_StakeError:mg "StakeError"=some (.ref c_StakeError)
 z_ValueError:mg "ValueError"=none
 z_abs:mg "abs"=none
 z_all:mg "all"=none
 z_bool:mg "bool"=none
 z_int:mg "int"=none
 z_isinstance:mg "isinstance"=none
 z_len:mg "len"=none
 z_list:mg "list"=none
 z_range:mg "range"=none
 z_reversed:mg "reversed"=none
 z_set:mg "set"=none
 z_sorted:mg "sorted"=none
 z_tuple:mg "tuple"=none
 z_zip:mg "zip"=none
 bx_Flat:PySem.W.mroIn K c_Flat (.type "BaseException")=some true
 kit_Flat_NoMove:PySem.W.kitOne K (.ref c_Flat) (.ref c_NoMove)=some false
 kit_Flat_StakeError:PySem.W.kitOne K (.ref c_Flat) (.ref c_StakeError)=some true
 kit_Flat_ValueError:PySem.W.kitOne K (.ref c_Flat) (.type "ValueError")=some true
 sub_Flat_Flat:PySem.W.mroIn K c_Flat (.ref c_Flat)=some true
 ty_Flat:PySem.W.typeIn K (.ref c_Flat)=some (.type "type")
 xc_Flat:PySem.W.XcOk K c_Flat
section
variable {P:Program} {w:World} {K:PySem.W.Frag} {mg:Str→Option Value} {base:Heap}
def sgn (n:Int):Int:=if 0 < n then 1 else if n < 0 then -1 else 0
def bL (b:Int):Int:=if b < 0 then -b else b
theorem cD (b:Int):bL b=(b.natAbs:Int):=by unfold bL; split <;> omega
theorem fI {b:Int} (h:b≠0):0 < bL b:=by unfold bL; split <;> omega
theorem cC (d b:Int):d ∣ bL b↔d ∣ b:=by
 unfold bL; split
 ·exact Int.dvd_neg
 ·exact Iff.rfl
theorem pJ (d b:Int):bL b ∣ d↔b ∣ d:=by
 unfold bL; split
 ·exact Int.neg_dvd
 ·exact Iff.rfl
structure gw (a b high ht low lt:Int):Prop where
 hp:0 < high
 lo0:0≤low
 lolt:low < high
 dv:∀ d,(d ∣ high∧d ∣ low)↔(d ∣ a∧d ∣ b)
 ch:b ∣ ht * a - high
 cl:b ∣ lt * a - low
 bd:ht.natAbs * low.natAbs+lt.natAbs * high.natAbs≤b.natAbs
 hi:high.natAbs≤b.natAbs
theorem lh {a b:Int} (hb:b≠0):gw a b (bL b) 0 (a % bL b) 1:=by
 have h0:=fI hb
 refine ⟨h0,Int.emod_nonneg _ (by omega),Int.emod_lt_of_pos _ h0,fun d=> ?_,?_,?_,?_,by rw [cD]; simp⟩
 ·rw [cC]
  constructor
  ·rintro ⟨h1,h2⟩
   refine ⟨?_,h1⟩
   have e:=Int.emod_add_mul_ediv a (bL b)
   rw [← e]
   exact Int.dvd_add h2 (Int.dvd_trans ((cC d b).mpr h1) (Int.dvd_mul_right _ _))
  ·rintro ⟨h1,h2⟩
   refine ⟨h2,?_⟩
   have e:a % bL b=a - bL b * (a / bL b):=by have:=Int.emod_add_mul_ediv a (bL b); omega
   rw [e]
   exact Int.dvd_sub h1 (Int.dvd_trans ((cC d b).mpr h2) (Int.dvd_mul_right _ _))
 ·rw [Int.zero_mul,Int.zero_sub,Int.dvd_neg]
  exact (cC b b).mpr (Int.dvd_refl b)
 ·have e:1 * a - a % bL b=bL b * (a / bL b):=by have:=Int.emod_add_mul_ediv a (bL b); omega
  rw [e]
  exact Int.dvd_trans ((cC b b).mpr (Int.dvd_refl b)) (Int.dvd_mul_right _ _)
 ·rw [cD]; simp
theorem nJ {a b high ht low lt:Int} (I:gw a b high ht low lt) (h:low≠0):gw a b low lt (high - high / low * low) (ht - high / low * lt)∧high - high / low * low < low:=by
 obtain ⟨hp,lo0,lolt,dv,ch,cl,bd,hi⟩:=I
 have hl:0 < low:=by omega
 have e:=Int.emod_add_mul_ediv high low
 have r0:=Int.emod_nonneg high h
 have r1:=Int.emod_lt_of_pos high hl
 have hf:0≤high / low:=Int.ediv_nonneg (by omega) (by omega)
 have er:high - high / low * low=high % low:=by rw [Int.mul_comm]; omega
 rw [er]
 refine ⟨⟨hl,r0,r1,fun d=> ?_,cl,?_,?_,by omega⟩,r1⟩
 ·rw [← dv d]
  constructor
  ·rintro ⟨h1,h2⟩
   refine ⟨?_,h1⟩
   rw [← e]
   exact Int.dvd_add h2 (Int.dvd_trans h1 (Int.dvd_mul_right _ _))
  ·rintro ⟨h1,h2⟩
   refine ⟨h2,?_⟩
   rw [show high % low=high - low * (high / low) by omega]
   exact Int.dvd_sub h1 (Int.dvd_trans h2 (Int.dvd_mul_right _ _))
 ·have e2:(ht - high / low * lt) * a - high % low=(ht * a - high) - (high / low) * (lt * a - low):=by grind
  rw [e2]
  exact Int.dvd_sub ch (Int.dvd_trans cl (Int.dvd_mul_left _ _))
 ·have n1:(ht - high / low * lt).natAbs≤ht.natAbs+(high / low).natAbs * lt.natAbs:=by
   have:=Int.natAbs_sub_le ht (high / low * lt)
   rw [Int.natAbs_mul] at this
   exact this
  have n2:high.natAbs=(high % low).natAbs+low.natAbs * (high / low).natAbs:=by
   have:(high.natAbs:Int)=((high % low).natAbs+low.natAbs * (high / low).natAbs:Nat):=by
    push_cast
    rw [Int.natAbs_of_nonneg r0,Int.natAbs_of_nonneg hf,Int.natAbs_of_nonneg (by omega:0≤high),Int.natAbs_of_nonneg lo0]
    omega
   omega
  have n3:(ht - high / low * lt).natAbs * low.natAbs≤(ht.natAbs+(high / low).natAbs * lt.natAbs) * low.natAbs:=Nat.mul_le_mul_right _ n1
  rw [n2] at bd
  refine Nat.le_trans ?_ bd
  generalize (ht - high / low * lt).natAbs=A at *
  generalize ht.natAbs=B at *
  generalize lt.natAbs=C at *
  generalize low.natAbs=D at *
  generalize (high / low).natAbs=E at *
  generalize (high % low).natAbs=F at *
  grind
structure dN (a b g s t:Int):Prop where
 g0:0≤g
 eq:s * a+t * b=g
 da:g ∣ a
 db:g ∣ b
 z:b=0→t=0∧s=sgn a∧g=bL a
 nz:b≠0→0 < g∧0≤s∧s < bL b / g
theorem jb (a:Int):dN a 0 (bL a) (sgn a) 0:=by
 refine ⟨by unfold bL; split <;> omega,?_,(pJ a a).mpr (Int.dvd_refl a),Int.dvd_zero _,fun _=> ⟨rfl,rfl,rfl⟩,fun h=> absurd rfl h⟩
 unfold sgn bL
 split
 ·split <;> omega
 ·split
  ·omega
  ·omega
theorem qi {a b high ht lt:Int} (hb:b≠0) (I:gw a b high ht 0 lt):dN a b high (ht % (bL b / high)) ((high - ht % (bL b / high) * a).fdiv b):=by
 obtain ⟨hp,lo0,lolt,dv,ch,cl,bd,hi⟩:=I
 obtain ⟨ga,gb⟩:=(dv high).mp ⟨Int.dvd_refl _,Int.dvd_zero _⟩
 obtain ⟨a',rfl⟩:=ga
 have gb2:high ∣ bL b:=(cC _ _).mpr gb
 obtain ⟨b',hb'⟩:=gb2
 have hb0:=fI hb
 have hq:bL b / high=b':=by rw [hb',Int.mul_ediv_cancel_left _ (by omega)]
 have hb1:0 < b':=by
  have:0 < high * b':=by omega
  exact Int.pos_of_mul_pos_right this (by omega)
 rw [hq]
 have es:=Int.emod_add_mul_ediv ht b'
 have key:b ∣ high - ht % b' * (high * a'):=by
  have e:high - ht % b' * (high * a')=-(ht * (high * a') - high)+bL b * (a' * (ht / b')):=by
   rw [hb',show ht % b'=ht - b' * (ht / b') by omega]; grind
  rw [e]
  refine Int.dvd_add (Int.dvd_neg.mpr ch) (Int.dvd_trans ((cC b b).mpr (Int.dvd_refl b)) (Int.dvd_mul_right _ _))
 refine ⟨by omega,?_,Int.dvd_mul_right _ _,gb,fun h=> absurd h hb,fun _=> ⟨hp,Int.emod_nonneg _ (by omega),?_⟩⟩
 ·obtain ⟨c,hc⟩:=key
  rw [hc,Int.mul_fdiv_cancel_left _ hb,Int.mul_comm c b]; omega
 ·rw [hq]; exact Int.emod_lt_of_pos _ hb1
theorem wI {a b high ht low lt:Int} (I:gw a b high ht low lt):lt.natAbs≤b.natAbs:=by
 have h1:1≤high.natAbs:=by have:=I.hp; omega
 have h2:lt.natAbs * 1≤lt.natAbs * high.natAbs:=Nat.mul_le_mul_left _ h1
 have:=I.bd
 omega
theorem pN {a b g s t g' s' t':Int} (h:dN a b g s t) (h':dN a b g' s' t'):g=g'∧s=s'∧t=t':=by
 have d1:g ∣ g':=by rw [← h'.eq]; exact Int.dvd_add (Int.dvd_trans h.da (Int.dvd_mul_left _ _)) (Int.dvd_trans h.db (Int.dvd_mul_left _ _))
 have d2:g' ∣ g:=by rw [← h.eq]; exact Int.dvd_add (Int.dvd_trans h'.da (Int.dvd_mul_left _ _)) (Int.dvd_trans h'.db (Int.dvd_mul_left _ _))
 have eg:g=g':=Int.dvd_antisymm h.g0 h'.g0 d1 d2
 subst eg
 by_cases hb:b=0
 ·obtain ⟨h1,h2,_⟩:=h.z hb
  obtain ⟨k1,k2,_⟩:=h'.z hb
  exact ⟨rfl,by omega,by omega⟩
 ·obtain ⟨p,s0,s1⟩:=h.nz hb
  obtain ⟨_,s0',s1'⟩:=h'.nz hb
  obtain ⟨a',ha⟩:=h.da
  obtain ⟨b',hb'⟩:=(cC g b).mpr h.db
  obtain ⟨b'',hb''⟩:=h.db
  have hq:bL b / g=b':=by rw [hb',Int.mul_ediv_cancel_left _ (by omega)]
  rw [hq] at s1 s1'
  have e1:=h.eq
  have e2:=h'.eq
  have bz:b''≠0:=by intro z; rw [z,Int.mul_zero] at hb''; exact hb hb''
  have k1:s * a'+t * b''=1:=by
   have:g * (s * a'+t * b'')=g * 1:=by rw [ha,hb''] at e1; grind
   exact Int.eq_of_mul_eq_mul_left (by omega) this
  have k2:s' * a'+t' * b''=1:=by
   have:g * (s' * a'+t' * b'')=g * 1:=by rw [ha,hb''] at e2; grind
   exact Int.eq_of_mul_eq_mul_left (by omega) this
  have k3:b'' ∣ s - s':=by
   refine ⟨s * (t' - t)+t * (s - s'),?_⟩
   grind
  have k4:b' ∣ s - s':=by
   have:b'.natAbs=b''.natAbs:=by
    have q1:(bL b).natAbs=b.natAbs:=by rw [cD]; simp
    rw [hb',hb''] at q1
    rw [Int.natAbs_mul,Int.natAbs_mul] at q1
    exact Nat.eq_of_mul_eq_mul_left (by omega) q1
   exact Int.natAbs_dvd_natAbs.mp (by rw [this]; exact Int.natAbs_dvd_natAbs.mpr k3)
  have k5:s=s':=by
   have:s - s'=0:=Int.eq_zero_of_dvd_of_natAbs_lt_natAbs k4 (by omega)
   omega
  subst k5
  refine ⟨rfl,rfl,?_⟩
  have:b * t=b * t':=by grind
  exact Int.eq_of_mul_eq_mul_left hb this
theorem uy {a b:Int} (hb:b≠0):∀ (n:Nat) (high ht low lt:Int),low.toNat≤n→gw a b high ht low lt→∃ high' ht' lt',gw a b high' ht' 0 lt'
 | 0,high,ht,low,lt,hn,I=> by
  have:low=0:=by have:=I.lo0; omega
  subst this
  exact ⟨_,_,_,I⟩
 | n+1,high,ht,low,lt,hn,I=> by
  by_cases h:low=0
  ·subst h; exact ⟨_,_,_,I⟩
  ·obtain ⟨I2,less⟩:=nJ I h
   have:=I2.lo0
   exact uy hb n _ _ _ _ (by have:=I.lo0; omega) I2
theorem nt (a b:Int):∃ g s t,dN a b g s t:=by
 by_cases hb:b=0
 ·subst hb; exact ⟨_,_,_,jb a⟩
 ·obtain ⟨h,ht,lt,I⟩:=uy hb _ _ _ _ _ (Nat.le_refl _) (lh (a:=a) hb)
  exact ⟨_,_,_,qi hb I⟩
theorem jG {m:Nat} {a b g s t:Int} (G:dN a b g s t) (sa:Sz m a) (sb:Sz m b):Sz (m+8) g∧Sz (m+8) s∧Sz (2 * m+8) t:=by
 by_cases hb:b=0
 ·subst hb
  obtain ⟨h1,h2,h3⟩:=G.z rfl
  rw [h1,h2,h3]
  have s1:Sz 8 (sgn a):=by unfold Sz sgn; split; decide; split <;> decide
  exact ⟨(Sz.abs sa).mono (by omega),s1.mono (by omega),Sz.mono (m:=8) (by decide) (by omega)⟩
 ·obtain ⟨g0,s0,s1⟩:=G.nz hb
  have h1:bL b / g≤bL b:=Int.ediv_le_self _ (by have:=fI hb; omega)
  have h2:=cD b
  have sg:Sz m g:=by
   refine sb.natle ?_
   exact Nat.le_of_dvd (by omega) (Int.natAbs_dvd_natAbs.mpr G.db)
  have ss:Sz m s:=sb.natle (by omega)
  refine ⟨sg.mono (by omega),ss.mono (by omega),?_⟩
  have e:t * b=g - s * a:=by have:=G.eq; omega
  have q:Sz (2 * m+1) (t * b):=by
   rw [e]
   have:Sz (m+m) (s * a):=ss.mul sa
   have h3:=(sg.mono (show m≤m+m by omega)).sub this
   exact h3.mono (by omega)
  refine (Sz.mono (m:=2 * m+1) ?_ (by omega))
  unfold Sz at *
  rw [Int.natAbs_mul] at q
  have:1≤b.natAbs:=by omega
  exact Nat.lt_of_le_of_lt (Nat.le_mul_of_pos_right _ this) q
def oH:List U→Out→Prop:=fun us o=> ∃ n:Int,us=[.int n]∧o=.val (.int (sgn n))
set_option maxHeartbeats 8000000 in
theorem sY (T:Txt K mg):bB P w K mg base (CXF P w) 1 T.a_sign T.d_sign ["number"] (spU K (oH)):=by
 refine bM T.F_sign t7 (fun us o h=> ?_) (fun cdv A outer s H E O us o hr h=> ?_)
 ·obtain ⟨n,rfl,rfl⟩:=h
  rfl
 obtain ⟨n,rfl,rfl⟩:=h
 refine Ws.nox ?_
 refine af (gJ (aS n_ (aa 0 rfl) ag) (fun hT=> ?_) (fun hF=> (aY ?_)))
 ·refine af (aE ag ?_)
  exact vIO (by unfold sgn; rw [if_pos (dTb hT)])
 ·refine af (gJ (aS gF (aa 0 rfl) ag) (fun hT=> ?_) (fun hF=> (aY ?_)))
  ·refine af (aE (dL ag) ?_)
   exact vIO (by unfold sgn; rw [if_neg (dFb hF),if_pos (dTb hT)])
  ·rename_i hF2
   refine af (aE ag ?_)
   exact vIO (by unfold sgn; rw [if_neg (dFb hF),if_neg (dFb hF2)])
def kE:List U→Out→Prop:=fun us o=> ∃ a b g s t:Int,us=[.int a,.int b]∧Sz 4000 a∧Sz 4000 b∧dN a b g s t∧o=.val (.tup [.int g,.int s,.int t])
theorem kY {a b g s t g' s' t':Int} (G:dN a b g s t) (G':dN a b g' s' t'):Out.val (.tup [.int g,.int s,.int t])=Out.val (.tup [.int g',.int s',.int t']):=by
 obtain ⟨rfl,rfl,rfl⟩:=pN G G'
 rfl
set_option maxHeartbeats 8000000 in
theorem jj (T:Txt K mg):bB P w K mg base (CXF P w) 2 T.a_shares T.d_shares ["a","b"] (spU K (kE)):=by
 refine bM T.F_shares bj (fun us o h=> ?_) (fun cdv A outer s H E O us o hr h=> ?_)
 ·obtain ⟨a,b,g,s,t,rfl,sa,sb,G,rfl⟩:=h
  rfl
 obtain ⟨a,b,g,s,t,rfl,sa,sb,G,rfl⟩:=h
 refine Ws.nox ?_
 refine af (gJ (aS cL (aa 1 rfl) ag) (fun hT=> ?_) (fun hF=> (aY ?_)))
 ·have hb:b=0:=dTb hT
  subst hb
  refine af (aE (bn (aq (au nL rfl T.z_abs PyProof.Rows.boot_abs (ae (aa 0 rfl) ao ai)) (aq (av ((sY T).mono (by decide)) hr rfl T.m_sign T.F_sign.kp T.b_sign aB (ae (aa 0 rfl) ao ai) ⟨_,rfl,rfl⟩) (aq ag be aI) cB) cB)) ?_)
  exact kY (jb a) G
 ·have hb:b≠0:=dFb hF
  have hp0:=fI hb
  have sab:Sz 4000 (bL b):=Sz.abs sb
  refine af (aJ (i:=2) bj.nd rfl (Or.inl rfl) (au nL rfl T.z_abs PyProof.Rows.boot_abs (ae (aa 1 rfl) ao ai)) ?_)
  refine af (aJ (i:=3) bj.nd rfl (Or.inl rfl) ag ?_)
  refine af (aJ (i:=4) bj.nd rfl (Or.inl rfl) (bH (aa 0 rfl) (aa 2 rfl) hp0) ?_)
  refine af (aJ (i:=5) bj.nd rfl (Or.inl rfl) ag ?_)
  refine af (kU (fun m:Int×Int×Int×Int=> [some (.val (.int a)),some (.val (.int b)),some (.val (.int m.1)),some (.val (.int m.2.1)),some (.val (.int m.2.2.1)),some (.val (.int m.2.2.2)),none,none,none,none]) (fun n m=> n=m.2.2.1.toNat∧gw a b m.1 m.2.1 m.2.2.1 m.2.2.2) PassesOwn.never ?h0 ?hs)
  case h0=> exact ⟨_,(_,_,_,_),⟨rfl,lh hb⟩,rfl,rfl,rfl,rfl,rfl,rfl,trivial⟩
  case hs=>
   rintro m ⟨high,ht,low,lt⟩ ⟨rfl,I⟩
   dsimp only at I ⊢
   have hl0:=I.lo0
   have hl1:=I.lolt
   have sh:Sz 4000 high:=sb.natle I.hi
   have sl:Sz 4000 low:=sh.natle (by omega)
   have slt:Sz 4000 lt:=sb.natle (wI I)
   refine ⟨_,(aS nT (aa 4 rfl) ag),fun h=> ?_,fun h ps hps=> ?_⟩
   ·have hl:low≠0:=nTb h
    obtain ⟨I2,less⟩:=nJ I hl
    have hlt:(high - high / low * low).toNat < low.toNat:=by clear h; omega
    refine af (aJ (i:=6) bj.nd rfl (Or.inl rfl) (cW (aa 2 rfl) (aa 4 rfl) (by walk_at "div")) ?_)
    have sf:Sz 4000 (high / low):=sh.ediv
    refine af (aJ (i:=7) bj.nd rfl (Or.inl rfl) (bN (aa 2 rfl) (bD (aa 6 rfl) (aa 4 rfl) (by walk_at "mul"))) ?_)
    refine af (aJ (i:=8) bj.nd rfl (Or.inl rfl) (bN (aa 3 rfl) (bD (aa 6 rfl) (aa 5 rfl) (by walk_at "mul"))) ?_)
    refine af (aJ (i:=2) bj.nd rfl (Or.inl rfl) (aa 4 rfl) ?_)
    refine af (aJ (i:=3) bj.nd rfl (Or.inl rfl) (aa 5 rfl) ?_)
    refine af (aJ (i:=4) bj.nd rfl (Or.inl rfl) (aa 7 rfl) ?_)
    refine af (aJ (i:=5) bj.nd rfl (Or.inl rfl) (aa 8 rfl) (aY ?_))
    exact ⟨_,(_,_,_,_),hlt,⟨rfl,I2⟩,rfl,rfl,rfl,rfl,rfl,rfl,trivial⟩
   ·have hl:low=0:=nFb h
    subst hl
    refine dU ?_ hps
    have G2:=qi hb I
    obtain ⟨g0,s0,s1⟩:=G2.nz hb
    have hm:0 < bL b / high:=by omega
    have hg:0 < high:=I.hp
    have ss:Sz 4000 (ht % (bL b / high)):=by
     refine sb.natle ?_
     have h1:bL b / high≤bL b:=Int.ediv_le_self _ (by omega)
     have h2:=cD b
     omega
    refine af (aJ (i:=9) bj.nd rfl (Or.inl rfl) (bH (aa 3 rfl) (cW (au nL rfl T.z_abs PyProof.Rows.boot_abs (ae (aa 1 rfl) ao ai)) (aa 2 rfl) ⟨hg,sh.mono (by decide)⟩) hm) ?_)
    refine af (aE (bn (aq (aa 2 rfl) (aq (aa 9 rfl) (aq (vo (bN (aa 2 rfl) (bD (aa 9 rfl) (aa 0 rfl) (Sz.ok ss sa (by decide)))) (aa 1 rfl) ⟨hb,sb.mono (by decide)⟩) be aZ) ai) ai)) ?_)
    exact kY G2 G
def isInt:U→Bool
 | .int _=> true
 | _=> false
abbrev mv (a b c d e f:Int):U:=.tup [.int a,.int b,.int c,.int d,.int e,.int f]
def itI:U→Int
 | .int n=> n
 | _=> 0
def dtI (xs:List U):Int:=itI (xs.getD 0 .non) * itI (xs.getD 3 .non) - itI (xs.getD 1 .non) * itI (xs.getD 2 .non)
def mvL (xs:List U):Bool:=decide (xs.length=6) && (xs.all isInt && (decide (dtI xs=1) || decide (dtI xs=-1)))
def gE:U→Bool
 | .tup xs=> mvL xs
 | _=> false
structure iN (u:U):Prop where
 ty:∀ m,u≠.ty m
 ity:∀ xs,u=.tup xs→∀ x∈xs,∀ m,x≠.ty m
 len:∀ xs,u=.tup xs→xs.length≤100
 sz:∀ a b c d e f,u=mv a b c d e f→Sz 30000 a∧Sz 30000 b∧Sz 30000 c∧Sz 30000 d
theorem iN.of {a b c d e f:Int} (ha:Sz 30000 a) (hb:Sz 30000 b) (hc:Sz 30000 c) (hd:Sz 30000 d):iN (mv a b c d e f):=by
 refine ⟨fun m h=> (nomatch h),fun xs h x hx m e=> ?_,fun xs h=> ?_,fun a' b' c' d' e' f' h=> ?_⟩
 ·cases h; subst e; simp at hx
 ·cases h; simp
 ·cases h; exact ⟨ha,hb,hc,hd⟩
theorem tQ {a b c d e f:Int} (h:a * d - b * c=1∨a * d - b * c=-1):gE (mv a b c d e f)=true:=by
 show (decide (a * d - b * c=1) || decide (a * d - b * c=-1))=true
 simpa using h
theorem qD {xs:List U} (h:xs.length≠6):gE (.tup xs)=false:=by
 show (decide (xs.length=6) && _)=false
 rw [decide_eq_false h]; rfl
theorem wa {xs:List U} (h:xs.length=6) (hi:xs.all isInt=true):∃ a b c d e f,xs=[.int a,.int b,.int c,.int d,.int e,.int f]:=by
 match xs,h with
 | [x1,x2,x3,x4,x5,x6],_=>
  simp only [List.all_cons,List.all_nil,Bool.and_true,Bool.and_eq_true] at hi
  obtain ⟨h1,h2,h3,h4,h5,h6⟩:=hi
  have key:∀ {x:U},isInt x=true→∃ n,x=.int n:=fun {x} h=> by cases x <;> simp [isInt] at h; exact ⟨_,rfl⟩
  obtain ⟨a,rfl⟩:=key h1
  obtain ⟨b,rfl⟩:=key h2
  obtain ⟨c,rfl⟩:=key h3
  obtain ⟨d,rfl⟩:=key h4
  obtain ⟨e,rfl⟩:=key h5
  obtain ⟨f,rfl⟩:=key h6
  exact ⟨a,b,c,d,e,f,rfl⟩
theorem qx {xs:List U} (h:xs.all isInt=false):gE (.tup xs)=false:=by
 show (decide (xs.length=6) && (xs.all isInt && _))=false
 rw [h]
 cases decide (xs.length=6) <;> rfl
def lU:List U→Out→Prop:=fun us o=> ∃ u,us=[u]∧(∀ m,u≠.ty m)∧o=.val (.bl (isInt u))
set_option maxHeartbeats 8000000 in
theorem kI (T:Txt K mg):bB P w K mg base (CXF P w) 1 T.a_is_whole T.d_is_whole ["thing"] (spU K (lU)):=by
 refine bM T.F_is_whole kH (fun us o h=> ?_) (fun cdv A outer s H E O us o hr h=> ?_)
 ·obtain ⟨u,rfl,hu,rfl⟩:=h
  rfl
 obtain ⟨u,rfl,hu,rfl⟩:=h
 refine Ws.nox ?_
 cases u with
 | ty m=> exact absurd rfl (hu m)
 | int n=> refine af (aE (e8 (au (ay (by intro _ h; cases h) (by walk_at "kit")) rfl T.z_isinstance boot_isinstance (ae (aa 0 rfl) (ae (cm rfl T.z_int boot_int) ao ai) ai)) (fun hz=> (e9 (fK (au (ay (by intro _ h; cases h) (by walk_at "kit")) rfl T.z_isinstance boot_isinstance (ae (aa 0 rfl) (ae (cm rfl T.z_bool boot_bool) ao ai) ai)))))) ?_); exact rfl
 | bl n=> refine af (aE (e8 (au (ay (by intro _ h; cases h) (by walk_at "kit")) rfl T.z_isinstance boot_isinstance (ae (aa 0 rfl) (ae (cm rfl T.z_int boot_int) ao ai) ai)) (fun hz=> (e9 (fK (au (ay (by intro _ h; cases h) (by walk_at "kit")) rfl T.z_isinstance boot_isinstance (ae (aa 0 rfl) (ae (cm rfl T.z_bool boot_bool) ao ai) ai)))))) ?_); exact rfl
 | non=> refine af (aE (e8 (au (ay (by intro _ h; cases h) (by walk_at "kit")) rfl T.z_isinstance boot_isinstance (ae (aa 0 rfl) (ae (cm rfl T.z_int boot_int) ao ai) ai)) (fun hz=> (e9 (fK (au (ay (by intro _ h; cases h) (by walk_at "kit")) rfl T.z_isinstance boot_isinstance (ae (aa 0 rfl) (ae (cm rfl T.z_bool boot_bool) ao ai) ai)))))) ?_); exact rfl
 | str n=> refine af (aE (e8 (au (ay (by intro _ h; cases h) (by walk_at "kit")) rfl T.z_isinstance boot_isinstance (ae (aa 0 rfl) (ae (cm rfl T.z_int boot_int) ao ai) ai)) (fun hz=> (e9 (fK (au (ay (by intro _ h; cases h) (by walk_at "kit")) rfl T.z_isinstance boot_isinstance (ae (aa 0 rfl) (ae (cm rfl T.z_bool boot_bool) ao ai) ai)))))) ?_); exact rfl
 | dic=> refine af (aE (e8 (au (ay (by intro _ h; cases h) (by walk_at "kit")) rfl T.z_isinstance boot_isinstance (ae (aa 0 rfl) (ae (cm rfl T.z_int boot_int) ao ai) ai)) (fun hz=> (e9 (fK (au (ay (by intro _ h; cases h) (by walk_at "kit")) rfl T.z_isinstance boot_isinstance (ae (aa 0 rfl) (ae (cm rfl T.z_bool boot_bool) ao ai) ai)))))) ?_); exact rfl
 | scr n=> refine af (aE (e8 (au (ay (by intro _ h; cases h) (by walk_at "kit")) rfl T.z_isinstance boot_isinstance (ae (aa 0 rfl) (ae (cm rfl T.z_int boot_int) ao ai) ai)) (fun hz=> (e9 (fK (au (ay (by intro _ h; cases h) (by walk_at "kit")) rfl T.z_isinstance boot_isinstance (ae (aa 0 rfl) (ae (cm rfl T.z_bool boot_bool) ao ai) ai)))))) ?_); exact rfl
 | lst n=> refine af (aE (e8 (au (ay (by intro _ h; cases h) (by walk_at "kit")) rfl T.z_isinstance boot_isinstance (ae (aa 0 rfl) (ae (cm rfl T.z_int boot_int) ao ai) ai)) (fun hz=> (e9 (fK (au (ay (by intro _ h; cases h) (by walk_at "kit")) rfl T.z_isinstance boot_isinstance (ae (aa 0 rfl) (ae (cm rfl T.z_bool boot_bool) ao ai) ai)))))) ?_); exact rfl
 | tup n=> refine af (aE (e8 (au (ay (by intro _ h; cases h) (by walk_at "kit")) rfl T.z_isinstance boot_isinstance (ae (aa 0 rfl) (ae (cm rfl T.z_int boot_int) ao ai) ai)) (fun hz=> (e9 (fK (au (ay (by intro _ h; cases h) (by walk_at "kit")) rfl T.z_isinstance boot_isinstance (ae (aa 0 rfl) (ae (cm rfl T.z_bool boot_bool) ao ai) ai)))))) ?_); exact rfl
def ou:List U→Out→Prop:=fun us o=> ∃ a b c d e f,us=[mv a b c d e f]∧Sz 30000 a∧Sz 30000 b∧Sz 30000 c∧Sz 30000 d∧o=.val (.int (a * d - b * c))
set_option maxHeartbeats 8000000 in
theorem tV (T:Txt K mg):bB P w K mg base (CXF P w) 1 T.a_hand T.d_hand ["move"] (spU K (ou)):=by
 refine bM T.F_hand r6 (fun us o h=> ?_) (fun cdv A outer s H E O us o hr h=> ?_)
 ·obtain ⟨a,b,c,d,e,f,rfl,sa,sb,sc,sd,rfl⟩:=h
  rfl
 obtain ⟨a,b,c,d,e,f,rfl,sa,sb,sc,sd,rfl⟩:=h
 refine Ws.nox ?_
 refine af (aE (bN (bD (aw (aa 0 rfl) ag rfl rfl) (aw (aa 0 rfl) ag rfl rfl) (by walk_at "mul")) (bD (aw (aa 0 rfl) ag rfl rfl) (aw (aa 0 rfl) ag rfl rfl) (by walk_at "mul"))) ?_); exact rfl
def jD:List U→Out→Prop:=fun us o=> ∃ u,us=[u]∧iN u∧o=.val (.bl (gE u))
set_option maxHeartbeats 8000000 in
theorem lV (T:Txt K mg):bB P w K mg base (CXF P w) 2 T.a_is_move T.d_is_move ["thing"] (spU K (jD)):=by
 refine bM T.F_is_move ig (fun us o h=> ?_) (fun cdv A outer s H E O us o hr h=> ?_)
 ·obtain ⟨u,rfl,hu,rfl⟩:=h
  rfl
 obtain ⟨u,rfl,hu,rfl⟩:=h
 refine Ws.nox ?_
 cases u with
 | ty m=> exact absurd rfl (hu.ty m)
 | int n=> refine af (cF (Tw.t (h_ (cX (cM (au (ay (by intro _ h; cases h) (by walk_at "kit")) rfl T.z_isinstance boot_isinstance (ae (aa 0 rfl) (ae (cm rfl T.z_tuple boot_tuple) ao ai) ai)))) rfl)) rfl ?_); refine af (aE fu ?_); exact rfl
 | bl n=> refine af (cF (Tw.t (h_ (cX (cM (au (ay (by intro _ h; cases h) (by walk_at "kit")) rfl T.z_isinstance boot_isinstance (ae (aa 0 rfl) (ae (cm rfl T.z_tuple boot_tuple) ao ai) ai)))) rfl)) rfl ?_); refine af (aE fu ?_); exact rfl
 | non=> refine af (cF (Tw.t (h_ (cX (cM (au (ay (by intro _ h; cases h) (by walk_at "kit")) rfl T.z_isinstance boot_isinstance (ae (aa 0 rfl) (ae (cm rfl T.z_tuple boot_tuple) ao ai) ai)))) rfl)) rfl ?_); refine af (aE fu ?_); exact rfl
 | str n=> refine af (cF (Tw.t (h_ (cX (cM (au (ay (by intro _ h; cases h) (by walk_at "kit")) rfl T.z_isinstance boot_isinstance (ae (aa 0 rfl) (ae (cm rfl T.z_tuple boot_tuple) ao ai) ai)))) rfl)) rfl ?_); refine af (aE fu ?_); exact rfl
 | dic=> refine af (cF (Tw.t (h_ (cX (cM (au (ay (by intro _ h; cases h) (by walk_at "kit")) rfl T.z_isinstance boot_isinstance (ae (aa 0 rfl) (ae (cm rfl T.z_tuple boot_tuple) ao ai) ai)))) rfl)) rfl ?_); refine af (aE fu ?_); exact rfl
 | scr n=> refine af (cF (Tw.t (h_ (cX (cM (au (ay (by intro _ h; cases h) (by walk_at "kit")) rfl T.z_isinstance boot_isinstance (ae (aa 0 rfl) (ae (cm rfl T.z_tuple boot_tuple) ao ai) ai)))) rfl)) rfl ?_); refine af (aE fu ?_); exact rfl
 | lst n=> refine af (cF (Tw.t (h_ (cX (cM (au (ay (by intro _ h; cases h) (by walk_at "kit")) rfl T.z_isinstance boot_isinstance (ae (aa 0 rfl) (ae (cm rfl T.z_tuple boot_tuple) ao ai) ai)))) rfl)) rfl ?_); refine af (aE fu ?_); exact rfl
 | tup xs=>
  refine af (gJ (Tw.t (qZ (cX (cM (au (ay (by intro _ h; cases h) (by walk_at "kit")) rfl T.z_isinstance boot_isinstance (ae (aa 0 rfl) (ae (cm rfl T.z_tuple boot_tuple) ao ai) ai)))) (fun hz=> (qw (aS nT (au (cu rfl) rfl T.z_len PySem.boot_len (ae (aa 0 rfl) ao ai)) ag))))) (fun hT=> ?_) (fun hF=> (aY ?_)))
  ·have:xs.length≠6:=fun e=> by rw [e] at hT; revert hT; decide
   refine af (aE fu ?_)
   exact vB (qD this).symm
  ·have hl:xs.length=6:=by
    have:=nFb (show (!decide ((xs.length:Int)=6))=false from hF)
    omega
   refine af (gJ (cX (cM (au (wu rfl (bs:=xs.map isInt)) rfl T.z_all boot_all (ae (EvN.ev (mD  rfl (blk (aj cw) ["thing","number"] [1] rfl rfl rfl rfl (by decide+kernel)) (uF (aa 0 rfl)) (fun _ _ _ _=> bK (i:=1) ig.nd rfl (Or.inl rfl)) (fC (by decide)) ?clen ?csz (fun _ _=> trivial) ?celt)) ao ju)))) (fun hT=> ?_) (fun hF=> (aY ?_)))
   case clen=> simp
   case csz=> exact Nat.le_trans (hu.len xs rfl) (by decide)
   case celt=>
    intro C s' H' fp i x y hx hy
    rw [List.getElem?_map,List.getElem?_map,hx] at hy
    cases hy
    exact (av ((kI T).mono (by decide)) hr rfl T.m_is_whole T.F_is_whole.kp T.b_is_whole aB (ae (aa 1 rfl) ao ai) ⟨x,rfl,hu.ity xs rfl x (List.mem_of_getElem? hx),rfl⟩)
   ·have hall:xs.all isInt=false:=by simpa using hT
    refine af (aE fu ?_)
    exact vB (qx hall).symm
   ·have hall:xs.all isInt=true:=by simpa using hF
    obtain ⟨a,b,c,d,e,f,rfl⟩:=wa hl hall
    obtain ⟨sa,sb,sc,sd⟩:=hu.sz a b c d e f rfl
    refine af (aE (jf (xh rfl rfl rfl) (av ((tV T).mono (by decide)) hr rfl T.m_hand T.F_hand.kp T.b_hand aB (ae (aa 0 rfl) ao ai) ⟨a,b,c,d,e,f,rfl,sa,sb,sc,sd,rfl⟩) (bn (aq ag (aq (dL ag) be ij) aI))) ?_)
    refine vB ?_
    show inV (fl (.int (a * d - b * c))) ([U.int 1,.int (-1)].map fl)=_
    rw [show gE (.tup [.int a,.int b,.int c,.int d,.int e,.int f])=(decide (a * d - b * c=1) || decide (a * d - b * c=-1)) from rfl]
    generalize a * d - b * c=h
    rw [Bool.eq_iff_iff]
    simp [inV,fl,eqV]
    omega
def gf (C:Addr):List U→Out→Prop:=fun us o=> ∃ u,us=[u]∧iN u∧o=if gE u=true then .val .non else .exc C
set_option maxHeartbeats 8000000 in
theorem bJ (T:Txt K mg):bB P w K mg base (CXF P w) 3 T.a_need_move T.d_need_move ["thing"] (spU K (gf T.c_NoMove)):=by
 refine bM T.F_need_move jS (fun us o h=> ?_) (fun cdv A outer s H E O us o hr h=> ?_)
 ·obtain ⟨u,rfl,hu,rfl⟩:=h
  rfl
 obtain ⟨u,rfl,hu,rfl⟩:=h
 refine af (gJ (cX (cM (av ((lV T).mono (by decide)) hr rfl T.m_is_move T.F_is_move.kp T.b_is_move aB (ae (aa 0 rfl) ao ai) ⟨u,rfl,hu,rfl⟩))) (fun hT=> ?_) (fun hF=> (aY (aY ?_))))
 ·have h:gE u=false:=by simpa using hT
  refine af (jL T.x_NoMove rfl T.mx_NoMove pT ?_)
  show Out.exc _=_
  rw [if_neg (by rw [h]; decide)]
 ·have h:gE u=true:=by simpa using hF
  show _=_
  rw [if_pos h]
structure Mv (a b c d e f:Int):Prop where
 u:a * d - b * c=1∨a * d - b * c=-1
 a:Sz 30000 a
 b:Sz 30000 b
 c:Sz 30000 c
 d:Sz 30000 d
 e:Sz 30000 e
 f:Sz 30000 f
theorem Mv.ok {a b c d e f:Int} (M:Mv a b c d e f):iN (mv a b c d e f):=iN.of M.a M.b M.c M.d
theorem Mv.need {C:Addr} {a b c d e f:Int} (M:Mv a b c d e f):gf C [mv a b c d e f] (.val .non):=⟨_,rfl,M.ok,by rw [if_pos (tQ M.u)]⟩
theorem jw {C:Addr} {u:U} (h:iN u) (n:gE u=false):gf C [u] (.exc C):=⟨_,rfl,h,by rw [if_neg (by rw [n]; decide)]⟩
def k_:List U→Out→Prop:=fun us o=> ∃ x y a b c d e f,us=[pt x y,mv a b c d e f]∧(Sz 30000 x∧Sz 30000 y∧Sz 30000 a∧Sz 30000 b∧Sz 30000 c∧Sz 30000 d)∧o=.val (pt (a * x+b * y) (c * x+d * y))
set_option maxHeartbeats 8000000 in
theorem fV (T:Txt K mg):bB P w K mg base (CXF P w) 1 T.a_turned T.d_turned ["P","move"] (spU K (k_)):=by
 refine bM T.F_turned oE (fun us o h=> ?_) (fun cdv A outer s H E O us o hr h=> ?_)
 ·obtain ⟨x,y,a,b,c,d,e,f,rfl,⟨sx,sy,sa,sb,sc,sd⟩,rfl⟩:=h
  rfl
 obtain ⟨x,y,a,b,c,d,e,f,rfl,⟨sx,sy,sa,sb,sc,sd⟩,rfl⟩:=h
 refine Ws.nox ?_
 refine af (aE (bn (aq (bY (bD (aw (aa 1 rfl) ag rfl rfl) (aw (aa 0 rfl) ag rfl rfl) (by walk_at "mul")) (bD (aw (aa 1 rfl) ag rfl rfl) (aw (aa 0 rfl) ag rfl rfl) (by walk_at "mul"))) (aq (bY (bD (aw (aa 1 rfl) ag rfl rfl) (aw (aa 0 rfl) ag rfl rfl) (by walk_at "mul")) (bD (aw (aa 1 rfl) ag rfl rfl) (aw (aa 0 rfl) ag rfl rfl) (by walk_at "mul"))) be aZ) aZ)) ?_); exact rfl
def mq (C:Addr):List U→Out→Prop:=fun us o=> (∃ x y a b c d e f,us=[pt x y,mv a b c d e f]∧Mv a b c d e f∧Sz 30000 x∧Sz 30000 y∧o=.val (pt (a * x+b * y+e) (c * x+d * y+f)))∨(∃ v u,us=[v,u]∧iN u∧gE u=false∧o=.exc C)
set_option maxHeartbeats 8000000 in
theorem dZ (T:Txt K mg):bB P w K mg base (CXF P w) 4 T.a_moved T.d_moved ["P","move"] (spU K (mq T.c_NoMove)):=by
 refine bM T.F_moved kh (by rintro us o (⟨x,y,a,b,c,d,e,f,rfl,_⟩ | ⟨v,u,rfl,_⟩) <;> rfl) (fun cdv A outer s H E O us o hr h=> ?_)
 rcases h with ⟨x,y,a,b,c,d,e,f,rfl,M,sx,sy,rfl⟩ | ⟨v,u,rfl,hu,hn,rfl⟩
 ·refine af (jJ (av ((bJ T).mono (by decide)) hr rfl T.m_need_move T.F_need_move.kp T.b_need_move aB (ae (aa 1 rfl) ao ai) M.need) ?_)
  refine af (aJ (i:=2) kh.nd rfl (Or.inl rfl) (av ((fV T).mono (by decide)) hr rfl T.m_turned T.F_turned.kp T.b_turned aB (ae (aa 0 rfl) (ae (aa 1 rfl) ao ai) ai) ⟨x,y,a,b,c,d,e,f,rfl,⟨sx,sy,M.a,M.b,M.c,M.d⟩,rfl⟩) ?_)
  refine af (aE (bn (aq (bY (aw (aa 2 rfl) ag rfl rfl) (aw (aa 1 rfl) ag rfl rfl)) (aq (bY (aw (aa 2 rfl) ag rfl rfl) (aw (aa 1 rfl) ag rfl rfl)) be aZ) aZ)) ?_)
  exact rfl
 ·refine af (j4 (lv ((bJ T).mono (by decide)) hr rfl T.m_need_move T.F_need_move.kp T.b_need_move j_ (ae (aa 1 rfl) ao ai) (jw hu hn)) ?_)
  exact rfl
end
section
variable {P:Program} {w:World} {K:PySem.W.Frag} {mg:Str→Option Value} {base:Heap}
def beh (a b c d e f a' b' c' d' e' f':Int):U:=mv (a' * a+b' * c) (a' * b+b' * d) (c' * a+d' * c) (c' * b+d' * d) (a' * e+b' * f+e') (c' * e+d' * f+f')
def kP (C:Addr):List U→Out→Prop:=fun us o=> (∃ a b c d e f a' b' c' d' e' f',us=[mv a b c d e f,mv a' b' c' d' e' f']∧Mv a b c d e f∧Mv a' b' c' d' e' f'∧o=.val (beh a b c d e f a' b' c' d' e' f'))∨
 (∃ u v,us=[u,v]∧iN u∧gE u=false∧o=.exc C)∨(∃ a b c d e f v,us=[mv a b c d e f,v]∧Mv a b c d e f∧iN v∧gE v=false∧o=.exc C)
set_option maxHeartbeats 8000000 in
theorem gh (T:Txt K mg):bB P w K mg base (CXF P w) 5 T.a_behind T.d_behind ["first","second"] (spU K (kP T.c_NoMove)):=by
 refine bM T.F_behind eo (by rintro us o (⟨a,b,c,d,e,f,a',b',c',d',e',f',rfl,_⟩ | ⟨v,u,rfl,_⟩ | ⟨a,b,c,d,e,f,v,rfl,_⟩) <;> rfl) (fun cdv A outer s H E O us o hr h=> ?_)
 rcases h with ⟨a,b,c,d,e,f,a',b',c',d',e',f',rfl,M,M',rfl⟩ | ⟨u,v,rfl,hu,hn,rfl⟩ | ⟨a,b,c,d,e,f,v,rfl,M,hv,hn,rfl⟩
 ·refine af (jJ (av ((bJ T).mono (by decide)) hr rfl T.m_need_move T.F_need_move.kp T.b_need_move aB (ae (aa 0 rfl) ao ai) M.need) ?_)
  refine af (jJ (av ((bJ T).mono (by decide)) hr rfl T.m_need_move T.F_need_move.kp T.b_need_move aB (ae (aa 1 rfl) ao ai) M'.need) ?_)
  refine af (aJ (i:=2) eo.nd rfl (Or.inl rfl) (av ((fV T).mono (by decide)) hr rfl T.m_turned T.F_turned.kp T.b_turned aB (ae (bn (aq (aw (aa 0 rfl) ag rfl rfl) (aq (aw (aa 0 rfl) ag rfl rfl) be bW) bW)) (ae (aa 1 rfl) ao ai) df) ⟨_,_,_,_,_,_,_,_,rfl,⟨M.a,M.c,M'.a,M'.b,M'.c,M'.d⟩,rfl⟩) ?_)
  refine af (aJ (i:=3) eo.nd rfl (Or.inl rfl) (av ((fV T).mono (by decide)) hr rfl T.m_turned T.F_turned.kp T.b_turned aB (ae (bn (aq (aw (aa 0 rfl) ag rfl rfl) (aq (aw (aa 0 rfl) ag rfl rfl) be bW) bW)) (ae (aa 1 rfl) ao ai) df) ⟨_,_,_,_,_,_,_,_,rfl,⟨M.b,M.d,M'.a,M'.b,M'.c,M'.d⟩,rfl⟩) ?_)
  refine af (aJ (i:=4) eo.nd rfl (Or.inl rfl) (av ((dZ T).mono (by decide)) hr rfl T.m_moved T.F_moved.kp T.b_moved aB (ae (bn (aq (aw (aa 0 rfl) ag rfl rfl) (aq (aw (aa 0 rfl) ag rfl rfl) be bW) bW)) (ae (aa 1 rfl) ao ai) df) (.inl ⟨_,_,_,_,_,_,_,_,rfl,M',M.e,M.f,rfl⟩)) ?_)
  refine af (aE (bn (aq (aw (aa 2 rfl) ag rfl rfl) (aq (aw (aa 3 rfl) ag rfl rfl) (aq (aw (aa 2 rfl) ag rfl rfl) (aq (aw (aa 3 rfl) ag rfl rfl) (aq (aw (aa 4 rfl) ag rfl rfl) (aq (aw (aa 4 rfl) ag rfl rfl) be bW) bW) bW) bW) bW) bW)) ?_)
  exact rfl
 ·refine af (j4 (lv ((bJ T).mono (by decide)) hr rfl T.m_need_move T.F_need_move.kp T.b_need_move j_ (ae (aa 0 rfl) ao ai) (jw hu hn)) ?_)
  exact rfl
 ·refine af (jJ (av ((bJ T).mono (by decide)) hr rfl T.m_need_move T.F_need_move.kp T.b_need_move aB (ae (aa 0 rfl) ao ai) M.need) ?_)
  refine af (j4 (lv ((bJ T).mono (by decide)) hr rfl T.m_need_move T.F_need_move.kp T.b_need_move j_ (ae (aa 1 rfl) ao ai) (jw hv hn)) ?_)
  exact rfl
theorem oA {a b g s t g' s' t':Int} (G:dN a b g s t) (gp:0 < g) (G':dN (a / g) (b / g) g' s' t'):g'=1:=by
 obtain ⟨a',ha⟩:=G.da
 obtain ⟨b',hb⟩:=G.db
 have ea:a / g=a':=by rw [ha,Int.mul_ediv_cancel_left _ (by omega)]
 have eb:b / g=b':=by rw [hb,Int.mul_ediv_cancel_left _ (by omega)]
 rw [ea,eb] at G'
 have e:=G.eq
 have k1:s * a'+t * b'=1:=by
  have:g * (s * a'+t * b')=g * 1:=by rw [ha,hb] at e; grind
  exact Int.eq_of_mul_eq_mul_left (by omega) this
 have d:g' ∣ 1:=by rw [← k1]; exact Int.dvd_add (Int.dvd_trans G'.da (Int.dvd_mul_left _ _)) (Int.dvd_trans G'.db (Int.dvd_mul_left _ _))
 have:=Int.le_of_dvd (by decide) d
 have h0:=G'.g0
 rcases Int.lt_or_eq_of_le h0 with h | h
 ·omega
 ·rw [← h] at d; exact absurd (Int.zero_dvd.mp d) (by decide)
theorem o7 {x0 y0 x1 y1 g s t:Int} (G:dN (x1 - x0) (y1 - y0) g s t) (h:g=0):x0=x1∧y0=y1:=by
 subst h
 have h1:=Int.zero_dvd.mp G.da
 have h2:=Int.zero_dvd.mp G.db
 omega
structure pO (x0 y0 x1 y1:Int):Prop where
 s0:Sz 3000 x0
 t0:Sz 3000 y0
 s1:Sz 3000 x1
 t1:Sz 3000 y1
def mG:List U→Out→Prop:=fun us o=> ∃ x0 y0 x1 y1 g s t:Int,us=[pt x0 y0,pt x1 y1]∧pO x0 y0 x1 y1∧dN (x1 - x0) (y1 - y0) g s t∧o=.val (.int g)
set_option maxHeartbeats 8000000 in
theorem kD (T:Txt K mg):bB P w K mg base (CXF P w) 3 T.a_steps T.d_steps ["P","Q"] (spU K (mG)):=by
 refine bM T.F_steps rJ (fun us o h=> ?_) (fun cdv A outer s H E O us o hr h=> ?_)
 ·obtain ⟨x0,y0,x1,y1,g,s,t,rfl,⟨s0,t0,s1,t1⟩,G,rfl⟩:=h
  rfl
 obtain ⟨x0,y0,x1,y1,g,s,t,rfl,⟨s0,t0,s1,t1⟩,G,rfl⟩:=h
 refine Ws.nox ?_
 refine af (aE (aw (av ((jj T).mono (by decide)) hr rfl T.m_shares T.F_shares.kp T.b_shares aB (ae (bN (aw (aa 1 rfl) ag rfl rfl) (aw (aa 0 rfl) ag rfl rfl)) (ae (bN (aw (aa 1 rfl) ag rfl rfl) (aw (aa 0 rfl) ag rfl rfl)) ao aZ) aZ) ⟨_,_,g,s,t,rfl,by walk_at "szb",by walk_at "szb",G,rfl⟩) ag rfl rfl) ?_)
 exact rfl
def lN (C:Addr):List U→Out→Prop:=fun us o=> (∃ x0 y0 x1 y1 g a b s t:Int,us=[pt x0 y0,pt x1 y1]∧pO x0 y0 x1 y1∧dN (x1 - x0) (y1 - y0) g a b∧g≠0∧dN ((x1 - x0) / g) ((y1 - y0) / g) 1 s t∧
  o=.val (mv s t (-((y1 - y0) / g)) ((x1 - x0) / g) (-s * x0 - t * y0) ((y1 - y0) / g * x0 - (x1 - x0) / g * y0)))∨(∃ x0 y0:Int,us=[pt x0 y0,pt x0 y0]∧pO x0 y0 x0 y0∧o=.exc C)
theorem oO (x y:Int):dN (x - x) (y - y) 0 0 0:=by
 rw [Int.sub_self,Int.sub_self]
 exact ⟨by decide,by decide,⟨0,by simp⟩,⟨0,by simp⟩,fun _=> ⟨rfl,rfl,rfl⟩,fun h=> absurd rfl h⟩
set_option maxHeartbeats 8000000 in
theorem qC (T:Txt K mg):bB P w K mg base (CXF P w) 4 T.a_level T.d_level ["P","Q"] (spU K (lN T.c_NoMove)):=by
 refine bM T.F_level cH (by rintro us o (⟨x0,y0,x1,y1,g,a,b,s,t,rfl,_⟩ | ⟨x0,y0,rfl,_⟩) <;> rfl) (fun cdv A outer s H E O us o hr h=> ?_)
 rcases h with ⟨x0,y0,x1,y1,g,a,b,s,t,rfl,two,G,gn,G1,rfl⟩ | ⟨x0,y0,rfl,two,rfl⟩
 ·have gp:0 < g:=by have:=G.g0; omega
  obtain ⟨s0,t0,s1,t1⟩:=two
  have two:pO x0 y0 x1 y1:=⟨s0,t0,s1,t1⟩
  have sx:Sz 3001 (x1 - x0):=by walk_at "szb"
  have sy:Sz 3001 (y1 - y0):=by walk_at "szb"
  obtain ⟨sg,_,_⟩:=jG G sx sy
  have su:Sz 3001 ((x1 - x0) / g):=sx.ediv
  have sv:Sz 3001 ((y1 - y0) / g):=sy.ediv
  obtain ⟨_,ss,st⟩:=jG G1 su sv
  refine af (aJ (i:=2) cH.nd rfl (Or.inl rfl) (av ((kD T).mono (by decide)) hr rfl T.m_steps T.F_steps.kp T.b_steps aB (ae (aa 0 rfl) (ae (aa 1 rfl) ao ai) ai) ⟨x0,y0,x1,y1,g,a,b,rfl,two,G,rfl⟩) ?_)
  refine af (dw (aS cL (aa 2 rfl) ag) (decide_eq_false gn) (aY ?_))
  refine af (aJ (i:=3) cH.nd rfl (Or.inl rfl) (cW (bN (aw (aa 1 rfl) ag rfl rfl) (aw (aa 0 rfl) ag rfl rfl)) (aa 2 rfl) ⟨gp,sg.mono (by decide)⟩) ?_)
  refine af (aJ (i:=4) cH.nd rfl (Or.inl rfl) (cW (bN (aw (aa 1 rfl) ag rfl rfl) (aw (aa 0 rfl) ag rfl rfl)) (aa 2 rfl) ⟨gp,sg.mono (by decide)⟩) ?_)
  refine af (aJ (i:=5) cH.nd rfl (Or.inl rfl) (av ((jj T).mono (by decide)) hr rfl T.m_shares T.F_shares.kp T.b_shares aB (ae (aa 3 rfl) (ae (aa 4 rfl) ao ai) ai) ⟨_,_,1,s,t,rfl,su.mono (by decide),sv.mono (by decide),G1,rfl⟩) ?_)
  refine af (aJ (i:=6) cH.nd rfl (Or.inl rfl) (aw (aa 5 rfl) ag rfl rfl) ?_)
  refine af (aJ (i:=7) cH.nd rfl (Or.inl rfl) (aw (aa 5 rfl) ag rfl rfl) ?_)
  refine af (aE (bn (aq (aa 6 rfl) (aq (aa 7 rfl) (aq (dL (aa 4 rfl)) (aq (aa 3 rfl) (aq (bN (bD (dL (aa 6 rfl)) (aw (aa 0 rfl) ag rfl rfl) (by walk_at "mul")) (bD (aa 7 rfl) (aw (aa 0 rfl) ag rfl rfl) (by walk_at "mul"))) (aq (bN (bD (aa 4 rfl) (aw (aa 0 rfl) ag rfl rfl) (by walk_at "mul")) (bD (aa 3 rfl) (aw (aa 0 rfl) ag rfl rfl) (by walk_at "mul"))) be aZ) aZ) ai) ij) ai) ai)) ?_)
  exact rfl
 ·refine af (aJ (i:=2) cH.nd rfl (Or.inl rfl) (av ((kD T).mono (by decide)) hr rfl T.m_steps T.F_steps.kp T.b_steps aB (ae (aa 0 rfl) (ae (aa 1 rfl) ao ai) ai) ⟨x0,y0,x0,y0,0,0,0,rfl,two,oO x0 y0,rfl⟩) ?_)
  refine af (cF (aS cL (aa 2 rfl) ag) rfl ?_)
  refine af (jL T.x_NoMove rfl T.mx_NoMove pT ?_)
  exact rfl
structure LvG (a b:P2) (g u v s t s1 t1:Int):Prop where
 G:dN (b.1 - a.1) (b.2 - a.2) g s1 t1
 gn:g≠0
 hu:u=(b.1 - a.1) / g
 hv:v=(b.2 - a.2) / g
 G1:dN u v 1 s t
theorem ve {a b:P2} (h:a≠b):∃ g u v s t s1 t1,LvG a b g u v s t s1 t1:=by
 obtain ⟨g,s1,t1,G⟩:=nt (b.1 - a.1) (b.2 - a.2)
 have gn:g≠0:=fun e=> h (by
  obtain ⟨h1,h2⟩:=o7 G e
  exact Prod.ext h1 h2)
 have gp:0 < g:=by have:=G.g0; omega
 obtain ⟨g',s,t,G'⟩:=nt ((b.1 - a.1) / g) ((b.2 - a.2) / g)
 have:=oA G gp G'
 subst this
 exact ⟨g,_,_,s,t,s1,t1,G,gn,rfl,rfl,G'⟩
end
section
variable {P:Program} {w:World} {K:PySem.W.Frag} {mg:Str→Option Value} {base:Heap}
abbrev Pt:=Int×Int
def plt (p q:Pt):Prop:=p.1 < q.1∨(p.1=q.1∧p.2 < q.2)
def aP (a b p:Pt):Int:=(b.1 - a.1) * (p.2 - a.2) - (b.2 - a.2) * (p.1 - a.1)
theorem ce {a b c:Pt} (h1:plt a b) (h2:plt b c):plt a c:=by unfold plt at *; omega
theorem bo (a:Pt):¬ plt a a:=by unfold plt; omega
theorem m7 (a b:Pt):plt a b∨a=b∨plt b a:=by
 unfold plt
 by_cases h1:a.1=b.1
 ·by_cases h2:a.2=b.2
  ·exact .inr (.inl (Prod.ext h1 h2))
  ·omega
 ·omega
def lpos (x y:Int):Prop:=0 < x∨(x=0∧0 < y)
theorem ba {a b:Pt} (h:plt a b):lpos (b.1 - a.1) (b.2 - a.2):=by unfold plt lpos at *; omega
theorem dX {u1 u2 v1 v2 w1 w2:Int} (hu:lpos u1 u2) (hv:lpos v1 v2) (hw:lpos w1 w2) (h1:0≤u1 * v2 - u2 * v1) (h2:0≤v1 * w2 - v2 * w1):0≤u1 * w2 - u2 * w1:=by
 unfold lpos at *
 by_cases hv1:v1=0
 ·subst hv1
  have hv2:0 < v2:=by omega
  have hw1:w1=0:=by
   have:v2 * w1≤0:=by rw [Int.zero_mul] at h2; omega
   by_cases hz:0 < w1
   ·have:=Int.mul_pos hv2 hz; omega
   ·omega
  subst hw1
  have hw2:0 < w2:=by omega
  have:=Int.mul_nonneg (show 0≤u1 by omega) (show 0≤w2 by omega)
  simp; omega
 ·have hv':0 < v1:=by omega
  have e:v1 * (u1 * w2 - u2 * w1)=u1 * (v1 * w2 - v2 * w1)+w1 * (u1 * v2 - u2 * v1):=by grind
  have p1:=Int.mul_nonneg (show 0≤u1 by omega) h2
  have p2:=Int.mul_nonneg (show 0≤w1 by omega) h1
  have:0≤v1 * (u1 * w2 - u2 * w1):=by omega
  exact Int.nonneg_of_mul_nonneg_right this hv'
theorem hJ {u1 u2 v1 v2 w1 w2:Int} (hu:lpos u1 u2) (hv:lpos v1 v2) (hw:lpos w1 w2) (h1:0 < u1 * v2 - u2 * v1) (h2:0≤v1 * w2 - v2 * w1):0 < u1 * w2 - u2 * w1:=by
 unfold lpos at *
 by_cases hv1:v1=0
 ·subst hv1
  have hv2:0 < v2:=by omega
  have hw1:w1=0:=by
   have:v2 * w1≤0:=by rw [Int.zero_mul] at h2; omega
   by_cases hz:0 < w1
   ·have:=Int.mul_pos hv2 hz; omega
   ·omega
  subst hw1
  have hw2:0 < w2:=by omega
  have hu1:0 < u1:=by
   rcases hu with h | ⟨h,_⟩
   ·exact h
   ·subst h; simp at h1
  have:=Int.mul_pos hu1 hw2
  simp; omega
 ·have hv':0 < v1:=by omega
  have e:v1 * (u1 * w2 - u2 * w1)=u1 * (v1 * w2 - v2 * w1)+w1 * (u1 * v2 - u2 * v1):=by grind
  have p1:=Int.mul_nonneg (show 0≤u1 by omega) h2
  by_cases hw1:w1=0
  ·subst hw1
   have hw2:0 < w2:=by omega
   have hu1:0 < u1:=by
    rcases hu with h | ⟨h,h'⟩
    ·exact h
    ·subst h
     have:=Int.mul_pos h' hv'
     simp at h1; omega
   have:=Int.mul_pos hu1 hw2
   simp; omega
  ·have p2:=Int.mul_pos (show 0 < w1 by omega) h1
   have:0 < v1 * (u1 * w2 - u2 * w1):=by omega
   exact Int.pos_of_mul_pos_right this (by omega)
def kM:List Pt→Prop
 | b::a::r=> plt a b∧kM (a::r)
 | _=> True
def gv:List Pt→Prop
 | c::b::a::r=> 0 < aP a b c∧gv (b::a::r)
 | _=> True
def fB (done:List Pt):List Pt→Prop
 | b::a::r=> (∀ q∈done,0≤aP a b q)∧fB done (a::r)
 | _=> True
theorem gv.tail:∀ {b:Pt} {st:List Pt},gv (b::st)→gv st
 | _,[],_=> trivial
 | _,[_],_=> trivial
 | _,_::_::_,h=> h.2
theorem kM.tail:∀ {b:Pt} {st:List Pt},kM (b::st)→kM st
 | _,[],_=> trivial
 | _,_::_,h=> h.2
theorem fB.tail {done:List Pt}:∀ {b:Pt} {st:List Pt},fB done (b::st)→fB done st
 | _,[],_=> trivial
 | _,_::_,h=> h.2
def bu (P:Pt):List Pt→List Pt
 | b::a::r=> if aP a b P≤0 then bu P (a::r) else b::a::r
 | st=> st
def am (row:List Pt):List Pt:=row.foldl (fun st P=> P::bu P st) []
structure Kept (done st:List Pt):Prop where
 ne:st≠[]
 desc:kM st
 turns:gv st
 cover:fB done st
 sub:∀ p∈st,p∈done
structure oy (done st:List Pt) (P:Pt):Prop extends Kept done st where
 pend:∀ h r,st=h::r→∀ q∈done,plt h q→0≤aP h P q
theorem n5 {done:List Pt} {P b a:Pt} {r:List Pt} (hP:∀ q∈done,plt q P) (D:oy done (b::a::r) P) (h:aP a b P≤0):oy done (a::r) P:=by
 refine ⟨⟨by simp,D.desc.tail,D.turns.tail,D.cover.tail,fun p hp=> D.sub p (List.mem_cons_of_mem _ hp)⟩,?_⟩
 intro h' r' e q hq hlt
 cases e
 have hab:=D.desc.1
 have hq':=D.cover.1 q hq
 have hbP:=hP b (D.sub b List.mem_cons_self)
 have hqP:=hP q hq
 rcases m7 q b with z | z | z
 ·have l1:=ba hlt
  have l2:=ba hab
  have l3:=ba (ce hab hbP)
  have:=dX (u1:=P.1 - a.1) (u2:=P.2 - a.2) (v1:=b.1 - a.1) (v2:=b.2 - a.2) (w1:=q.1 - a.1) (w2:=q.2 - a.2) l3 l2 l1 (by unfold aP at h; grind) (by unfold aP at hq'; grind)
  unfold aP; grind
 ·subst z; unfold aP at *; grind
 ·have p:=D.pend b _ rfl q hq z
  unfold aP at *
  grind
theorem kj {done:List Pt} {P:Pt} (hP:∀ q∈done,plt q P):∀ st:List Pt,oy done st P→oy done (bu P st) P∧(∀ b a r,bu P st=b::a::r→0 < aP a b P)∧(st.getLast?=(bu P st).getLast?)
 | [],D=> absurd rfl D.ne
 | [b],D=> ⟨D,fun _ _ _ e=> by simp [bu] at e,rfl⟩
 | b::a::r,D=> by
  by_cases h:aP a b P≤0
  ·rw [bu,if_pos h]
   obtain ⟨h1,h2,h3⟩:=kj hP (a::r) (n5 hP D h)
   exact ⟨h1,h2,by rw [← h3]; simp⟩
  ·rw [bu,if_neg h]
   refine ⟨D,fun b' a' r' e=> ?_,rfl⟩
   cases e; omega
theorem n4 {done st:List Pt} {P:Pt} (hP:∀ q∈done,plt q P) (D:oy done st P) (ht:∀ b a r,st=b::a::r→0 < aP a b P) (hmin:∀ x,st=[x]→∀ q∈done,q=x∨plt x q):Kept (done++[P]) (P::st):=by
 have up:∀ (b:Pt) (r:List Pt),kM (b::r)→gv (b::r)→fB done (b::r)→plt b P→(∀ a r',r=a::r'→0≤aP a b P)→fB (done++[P]) (b::r):=by
  intro b r
  induction r generalizing b with
  | nil=> intro _ _ _ _ _; trivial
  | cons a r ih=>
   intro hd htn hc hbP hl
   refine ⟨fun q hq=> ?_,?_⟩
   ·rcases List.mem_append.mp hq with z | z
    ·exact hc.1 q z
    ·rw [List.mem_singleton.mp z]; exact hl a r rfl
   ·refine ih a hd.tail htn.tail hc.tail (ce hd.1 hbP) (fun c r' e=> ?_)
    subst e
    have t:=htn.1
    have g:=hl a _ rfl
    have l1:=ba hd.2.1
    have l2:=ba hd.1
    have l3:=ba (ce hd.1 hbP)
    have:=dX (u1:=a.1 - c.1) (u2:=a.2 - c.2) (v1:=b.1 - a.1) (v2:=b.2 - a.2) (w1:=P.1 - a.1) (w2:=P.2 - a.2) l1 l2 l3 (by unfold aP at t; grind) (by unfold aP at g; grind)
    unfold aP; grind
 obtain ⟨h,r,e⟩:∃ h r,st=h::r:=by
  cases hst:st with
  | nil=> exact absurd hst D.ne
  | cons h r=> exact ⟨h,r,rfl⟩
 subst e
 have hhP:=hP h (D.sub h List.mem_cons_self)
 refine ⟨by simp,⟨hhP,D.desc⟩,?_,⟨fun q hq=> ?_,?_⟩,fun p hp=> ?_⟩
 ·cases r with
  | nil=> trivial
  | cons a r'=> exact ⟨ht h a r' rfl,D.turns⟩
 ·rcases List.mem_append.mp hq with z | z
  ·rcases m7 q h with y | y | y
   ·cases r with
    | nil=>
     rcases hmin h rfl q z with w | w
     ·subst w; exact absurd y (bo _)
     ·exact absurd (ce y w) (bo _)
    | cons a r'=>
     have t:=ht h a r' rfl
     have c:=D.cover.1 q z
     have l1:=ba D.desc.1
     have l2:=ba y
     have l3:=ba hhP
     have:=dX (u1:=h.1 - q.1) (u2:=h.2 - q.2) (v1:=h.1 - a.1) (v2:=h.2 - a.2) (w1:=P.1 - h.1) (w2:=P.2 - h.2) l2 l1 l3 (by unfold aP at c; grind) (by unfold aP at t; grind)
     unfold aP; grind
   ·subst y; unfold aP; grind
   ·exact D.pend h r rfl q z y
  ·rw [List.mem_singleton.mp z]; unfold aP; grind
 ·exact up h r D.desc D.turns D.cover hhP (fun a r' e=> Int.le_of_lt (ht h a r' (by rw [e])))
 ·rcases List.mem_cons.mp hp with z | z
  ·subst z; exact List.mem_append_right _ List.mem_cons_self
  ·exact List.mem_append_left _ (D.sub p z)
theorem h7 (row:List Pt) (P:Pt):am (row++[P])=P::bu P (am row):=by
 unfold am; rw [List.foldl_append]; rfl
theorem iB {row:List Pt} (hs:row.Pairwise plt):∀ n,0 < n→n≤row.length→Kept (row.take n) (am (row.take n))∧(am (row.take n)).getLast?=row.head?∧(am (row.take n)).head?=row[n - 1]?
 | 0,h,_=> absurd h (by decide)
 | 1,_,h=> by
  cases row with
  | nil=> simp at h
  | cons a r=>
   simp only [List.take_succ_cons,List.take_zero]
   exact ⟨⟨by simp [am],trivial,trivial,trivial,fun p hp=> by simpa [am,bu] using hp⟩,rfl,rfl⟩
 | n+2,_,h=> by
  obtain ⟨K,hl,hh⟩:=iB hs (n+1) (by omega) (by omega)
  have hn:n+1 < row.length:=by omega
  have et:row.take (n+2)=row.take (n+1)++[row[n+1]]:=by rw [List.take_succ_eq_append_getElem hn]
  have hP:∀ q∈row.take (n+1),plt q row[n+1]:=fun q hq=> by
   obtain ⟨i,hi,e⟩:=List.mem_take_iff_getElem.mp hq
   subst e
   exact List.pairwise_iff_getElem.mp hs i (n+1) (by omega) hn (by omega)
  have D:oy (row.take (n+1)) (am (row.take (n+1))) row[n+1]:=⟨K,fun h' r e q hq hlt=> by
   exfalso
   rw [e] at hh
   simp only [List.head?_cons,Nat.add_sub_cancel] at hh
   have hn':n < row.length:=by omega
   rw [List.getElem?_eq_getElem hn'] at hh
   have hh':=Option.some.inj hh
   obtain ⟨i,hi,e2⟩:=List.mem_take_iff_getElem.mp hq
   subst e2
   rw [hh'] at hlt
   rcases Nat.lt_or_ge i n with z | z
   ·exact bo _ (ce hlt (List.pairwise_iff_getElem.mp hs i n (by omega) hn' z))
   ·have:i=n:=by omega
    subst this
    exact bo _ hlt⟩
  obtain ⟨D2,ht,hlast⟩:=kj hP _ D
  rw [et,h7]
  refine ⟨n4 hP D2 ht (fun x e q hq=> ?_),?_,?_⟩
  ·rw [e,hl] at hlast
   simp at hlast
   obtain ⟨i,hi,e2⟩:=List.mem_take_iff_getElem.mp hq
   have h0:0 < row.length:=by omega
   have e3:row[0]=x:=by
    rw [List.head?_eq_getElem?,List.getElem?_eq_getElem h0] at hlast
    exact Option.some.inj hlast
   subst e2
   rcases Nat.eq_zero_or_pos i with z | z
   ·subst z; exact .inl e3
   ·right; rw [← e3]; exact List.pairwise_iff_getElem.mp hs 0 i h0 (by omega) z
  ·rw [List.getLast?_cons,← hlast,hl]
   cases row with
   | nil=> simp at hn
   | cons a r=> rfl
  ·simp only [List.head?_cons,Nat.add_sub_cancel]
   rw [show n+2 - 1=n+1 by omega,List.getElem?_eq_getElem hn]
theorem cf {row:List Pt} (hs:row.Pairwise plt) (h:row≠[]):Kept row (am row)∧(am row).getLast?=row.head?∧(am row).head?=row.getLast?:=by
 have h0:0 < row.length:=List.length_pos_iff.mpr h
 obtain ⟨h1,h2,h3⟩:=iB hs row.length h0 (Nat.le_refl _)
 rw [List.take_length] at h1 h2 h3
 exact ⟨h1,h2,by rw [h3,List.getLast?_eq_getElem?]⟩
theorem gH {u1 u2 v1 v2 w1 w2:Int} (hu:lpos u1 u2) (hv:lpos v1 v2) (hw:lpos w1 w2) (h1:0≤u1 * v2 - u2 * v1) (h2:0 < v1 * w2 - v2 * w1):0 < u1 * w2 - u2 * w1:=by
 unfold lpos at *
 by_cases hv1:v1=0
 ·subst hv1
  have hv2:0 < v2:=by omega
  have:=Int.mul_nonneg (show 0≤v2 by omega) (show 0≤w1 by omega)
  simp at h2; omega
 ·have hv':0 < v1:=by omega
  have hu1:0 < u1:=by
   rcases hu with h | ⟨h,h'⟩
   ·exact h
   ·subst h
    have:=Int.mul_pos h' hv'
    simp at h1; omega
  have e:v1 * (u1 * w2 - u2 * w1)=u1 * (v1 * w2 - v2 * w1)+w1 * (u1 * v2 - u2 * v1):=by grind
  have p1:=Int.mul_pos hu1 h2
  have p2:=Int.mul_nonneg (show 0≤w1 by omega) h1
  have q:0 < v1 * (u1 * w2 - u2 * w1):=by omega
  exact Int.pos_of_mul_pos_right q hv'
def low (row:List Pt) (p:Pt):Prop:=∀ a∈row,∀ b∈row,plt a p→plt p b→0 < aP a p b
theorem uB {row:List Pt} {p:Pt}:∀ (st:List Pt) (n:Pt),kM (n::st)→gv (n::st)→fB row (n::st)→p∈st→(∀ l,(n::st).getLast?=some l→plt l p)→
  ∃ n' q,0 < aP q p n'∧plt q p∧plt p n'∧(∀ x∈row,0≤aP p n' x)∧(∀ x∈row,0≤aP q p x)
 | [],n,_,_,_,hp,_=> by simp at hp
 | h::r,n,D,T,C,hp,hl=> by
  by_cases e:h=p
  ·subst e
   cases r with
   | nil=> exact absurd (hl h (by simp)) (bo h)
   | cons q r'=> exact ⟨n,q,T.1,D.2.1,D.1,C.1,C.2.1⟩
  ·have hp':p∈r:=by
    rcases List.mem_cons.mp hp with z | z
    ·exact absurd z.symm e
    ·exact z
   exact uB r h D.tail T.tail C.tail hp' (fun l hl'=> hl l (by rw [List.getLast?_cons_cons]; exact hl'))
theorem rn {row:List Pt} (hs:row.Pairwise plt) {p:Pt} (hp:p∈am row):low row p:=by
 intro a ha b hb hap hpb
 have hne:row≠[]:=fun z=> by rw [z] at ha; simp at ha
 obtain ⟨K,hlast,hhead⟩:=cf hs hne
 have mn:∀ x∈row,∀ m,row.head?=some m→x=m∨plt m x:=fun x hx m hm=> by
  cases row with
  | nil=> simp at hx
  | cons y r=>
   cases hm
   rcases List.mem_cons.mp hx with z | z
   ·exact .inl z
   ·exact .inr ((List.pairwise_cons.mp hs).1 x z)
 have mx:∀ x∈row,∀ m,row.getLast?=some m→x=m∨plt x m:=fun x hx m hm=> by
  obtain ⟨i,hi⟩:=List.mem_iff_getElem?.mp hx
  have hil:=(List.getElem?_eq_some_iff.mp hi).1
  rw [List.getLast?_eq_getElem?] at hm
  have hml:=(List.getElem?_eq_some_iff.mp hm).1
  rcases Nat.lt_or_eq_of_le (show i≤row.length - 1 by omega) with z | z
  ·right
   have h1:=List.pairwise_iff_getElem.mp hs i (row.length - 1) hil hml z
   rw [(List.getElem?_eq_some_iff.mp hi).2,(List.getElem?_eq_some_iff.mp hm).2] at h1
   exact h1
  ·left; rw [z,hm] at hi; exact (Option.some.inj hi).symm
 cases hst:am row with
 | nil=> exact absurd hst K.ne
 | cons n st=>
  rw [hst] at K hlast hhead hp
  have hn:row.getLast?=some n:=by rw [← hhead]; rfl
  have hpn:p∈st:=by
   rcases List.mem_cons.mp hp with z | z
   ·rcases mx b hb n hn with y | y
    ·rw [y,← z] at hpb; exact absurd hpb (bo p)
    ·rw [z] at hpb; exact absurd (ce hpb y) (bo n)
   ·exact z
  obtain ⟨n',q,t,qp,pn,c1,c2⟩:=uB st n K.desc K.turns K.cover hpn (fun l hl=> by
   rw [hlast] at hl
   rcases mn a ha l hl with y | y
   ·rw [← y]; exact hap
   ·exact ce y hap)
  have g1:=c2 a ha
  have g2:=c1 b hb
  unfold aP at *
  have k1:0≤(p.1 - a.1) * (p.2 - q.2) - (p.2 - a.2) * (p.1 - q.1):=by grind
  have k2:0 < (p.1 - q.1) * (n'.2 - p.2) - (p.2 - q.2) * (n'.1 - p.1):=by grind
  have k3:0≤(n'.1 - p.1) * (b.2 - p.2) - (n'.2 - p.2) * (b.1 - p.1):=by grind
  have k4:=hJ (ba qp) (ba pn) (ba hpb) k2 k3
  have k5:=gH (ba hap) (ba qp) (ba hpb) k1 k4
  grind
abbrev Szp (m:Nat) (p:P2):Prop:=Sz m p.1∧Sz m p.2
theorem wx (b:P2) (r:List P2):atI ((b::r).reverse.map pu) (-1)=some (pu b):=by
 have h:ixN ((b::r).reverse.map pu).length (-1)=some r.length:=by
  unfold ixN
  simp
  omega
 unfold atI
 rw [h]
 simp
theorem wO (b a:P2) (r:List P2):atI ((b::a::r).reverse.map pu) (-2)=some (pu a):=by
 have h:ixN ((b::a::r).reverse.map pu).length (-2)=some r.length:=by
  unfold ixN
  simp
  omega
 unfold atI
 rw [h]
 simp
theorem jC (P:P2):∀ st:List P2,(bu P st).length≤st.length
 | []=> Nat.le_refl _
 | [_]=> Nat.le_refl _
 | b::a::r=> by
  unfold bu
  split
  ·have:=jC P (a::r); simp only [List.length_cons] at *; omega
  ·exact Nat.le_refl _
theorem m_ (P:P2):∀ (st:List P2) (q:P2),q∈bu P st→q∈st
 | [],_,h=> h
 | [_],_,h=> h
 | b::a::r,q,h=> by
  unfold bu at h
  split at h
  ·exact List.mem_cons_of_mem _ (m_ P (a::r) q h)
  ·exact h
theorem fq {row:List P2} {i:Nat} {P:P2} (h:row[i]?=some P):am (row.take (i+1))=P::bu P (am (row.take i)):=by
 rw [List.take_succ,h]; exact h7 _ _
theorem gl (row:List P2):∀ i,(am (row.take i)).length≤i
 | 0=> by simp [am]
 | i+1=> by
  have ih:=gl row i
  cases h:row[i]? with
  | none=> rw [List.take_succ,h]; simp; omega
  | some P=>
   rw [fq h]
   have:=jC P (am (row.take i))
   simp only [List.length_cons]; omega
theorem eJ (row:List P2):∀ i q,q∈am (row.take i)→q∈row
 | 0,q,h=> by simp [am] at h
 | i+1,q,h=> by
  cases hi:row[i]? with
  | none=> rw [List.take_succ,hi] at h; exact eJ row i q (by simpa using h)
  | some P=>
   rw [fq hi] at h
   rcases List.mem_cons.mp h with e | e
   ·rw [e]; exact List.mem_of_getElem? hi
   ·exact eJ row i q (m_ P _ q e)
theorem lW (l:List P2):dI (l.map pu) none (some (-1))=l.dropLast.map pu:=by
 unfold dI HT.sIx
 rw [List.map_dropLast,List.dropLast_eq_take]
 simp
 try omega
def aG (pts:List P2):List P2:=if (ST.srt pts).length=1 then ST.srt pts else (am (ST.srt pts)).reverse.dropLast++(am (ST.srt pts).reverse).reverse.dropLast
theorem jK (a b:Pt):plt a b↔ST.ltP a b=true:=by unfold plt ST.ltP; simp
theorem gS {l:List Pt}:ST.Asc l↔l.Pairwise plt:=⟨fun h=> h.imp fun {a b} k=> (jK a b).mpr k,fun h=> h.imp fun {a b} k=> (jK a b).mp k⟩
theorem i6:∀ {st:List Pt},kM st→st.Pairwise (fun x y=> plt y x)
 | [],_=> List.Pairwise.nil
 | [_],_=> by simp
 | b::a::r,h=> by
  have ih:=i6 h.2
  refine List.pairwise_cons.mpr ⟨fun x hx=> ?_,ih⟩
  rcases List.mem_cons.mp hx with z | z
  ·rw [z]; exact h.1
  ·exact ce ((List.pairwise_cons.mp ih).1 x z) h.1
theorem bZ (row:List Pt) (q:Pt) (h:q∈am row):q∈row:=by
 have:=eJ row row.length q
 rw [List.take_length] at this
 exact this h
theorem eI {row:List Pt} (hs:row.Pairwise plt):ST.Asc (am row).reverse:=by
 by_cases hne:row=[]
 ·subst hne; exact List.Pairwise.nil
 ·exact gS.mpr (List.pairwise_reverse.mpr (i6 (cf hs hne).1.desc))
def ng (p:Pt):Pt:=(-p.1,-p.2)
theorem fc (p:Pt):ng (ng p)=p:=by unfold ng; simp
theorem uH (l:List Pt):(l.map ng).map ng=l:=by
 rw [List.map_map,show ng ∘ ng=id from funext fc,List.map_id]
theorem iu (a b c:Pt):aP (ng a) (ng b) (ng c)=aP a b c:=by unfold aP ng; grind
theorem iF {a b:Pt} (h:plt a b):plt (ng b) (ng a):=by unfold plt ng at *; simp; omega
theorem rE (P:Pt):∀ st:List Pt,bu (ng P) (st.map ng)=(bu P st).map ng
 | []=> rfl
 | [_]=> rfl
 | b::a::r=> by
  show bu (ng P) (ng b::ng a::r.map ng)=_
  unfold bu
  rw [iu]
  split
  ·exact rE P (a::r)
  ·rfl
theorem fL:∀ row:List Pt,am (row.map ng)=(am row).map ng:=fun row=> by
 have key:∀ (l:List Pt) (st:List Pt),(l.map ng).foldl (fun st P=> P::bu P st) (st.map ng)=(l.foldl (fun st P=> P::bu P st) st).map ng:=by
  intro l
  induction l with
  | nil=> intro st; rfl
  | cons p r ih=>
   intro st
   rw [List.map_cons,List.foldl_cons,List.foldl_cons,rE]
   exact ih (p::bu p st)
 exact key row []
theorem de {row:List Pt} (hs:row.Pairwise plt):(row.reverse.map ng).Pairwise plt:=by
 rw [List.pairwise_map,List.pairwise_reverse]
 exact hs.imp fun {a b} h=> iF h
theorem ck (row:List Pt):am row.reverse=(am (row.reverse.map ng)).map ng:=by rw [fL,uH]
theorem ends {row:List Pt} (hs:row.Pairwise plt) (h2:2≤row.length):∃ mn mx t1 t2,am row=mx::t1∧am row.reverse=mn::t2∧mn∈t1∧mx∈t2∧(∀ p∈row,p=mn∨plt mn p)∧(∀ p∈row,p=mx∨plt p mx)∧mn∈row∧mx∈row:=by
 have hne:row≠[]:=fun z=> by rw [z] at h2; simp at h2
 obtain ⟨K,hl,hh⟩:=cf hs hne
 have hneR:row.reverse.map ng≠[]:=by simpa using hne
 obtain ⟨KR,hlR,hhR⟩:=cf (de hs) hneR
 have e1:row.head?=some row[0]:=by rw [List.head?_eq_getElem?]; exact List.getElem?_eq_getElem (by omega)
 have e2:row.getLast?=some row[row.length - 1]:=by rw [List.getLast?_eq_getElem?]; exact List.getElem?_eq_getElem (by omega)
 have l01:plt row[0] row[row.length - 1]:=List.pairwise_iff_getElem.mp hs 0 (row.length - 1) (by omega) (by omega) (by omega)
 have mnA:∀ p∈row,p=row[0]∨plt row[0] p:=fun p hp=> by
  obtain ⟨i,hi,rfl⟩:=List.mem_iff_getElem.mp hp
  rcases Nat.eq_zero_or_pos i with z | z
  ·left; subst z; rfl
  ·right; exact List.pairwise_iff_getElem.mp hs 0 i (by omega) hi z
 have mxA:∀ p∈row,p=row[row.length - 1]∨plt p row[row.length - 1]:=fun p hp=> by
  obtain ⟨i,hi,rfl⟩:=List.mem_iff_getElem.mp hp
  rcases Nat.lt_or_eq_of_le (show i≤row.length - 1 by omega) with z | z
  ·right; exact List.pairwise_iff_getElem.mp hs i (row.length - 1) hi (by omega) z
  ·left; subst z; rfl
 have ne:row[0]≠row[row.length - 1]:=fun z=> by rw [z] at l01; exact bo _ l01
 generalize row[0]=mn at *
 generalize row[row.length - 1]=mx at *
 have mmn:mn∈row:=List.mem_of_head? e1
 have mmx:mx∈row:=List.mem_of_getLast? e2
 rw [e1] at hl
 rw [e2] at hh
 have hlR':(am row.reverse).getLast?=some mx:=by
  rw [ck,List.getLast?_map,hlR,List.head?_map,List.head?_reverse,e2]; simp [fc]
 have hhR':(am row.reverse).head?=some mn:=by
  rw [ck,List.head?_map,hhR,List.getLast?_map,List.getLast?_reverse,e1]; simp [fc]
 cases hb:am row with
 | nil=> rw [hb] at hh; cases hh
 | cons x t1=>
  rw [hb] at hh hl
  cases hh
  cases hbR:am row.reverse with
  | nil=> rw [hbR] at hhR'; cases hhR'
  | cons y t2=>
   rw [hbR] at hhR' hlR'
   cases hhR'
   refine ⟨_,_,t1,t2,rfl,rfl,?_,?_,mnA,mxA,mmn,mmx⟩
   ·cases t1 with
    | nil=> simp at hl; exact absurd hl.symm ne
    | cons z r=> rw [List.getLast?_cons_cons] at hl; exact List.mem_of_getLast? hl
   ·cases t2 with
    | nil=> simp at hlR'; exact absurd hlR' ne
    | cons z r=> rw [List.getLast?_cons_cons] at hlR'; exact List.mem_of_getLast? hlR'
theorem qz (st:List Pt):st.reverse.dropLast=st.tail.reverse:=by
 cases st with
 | nil=> rfl
 | cons h t=> simp
theorem eA {l:List Pt}:l.reverse.Nodup↔l.Nodup:=by
 unfold List.Nodup
 rw [List.pairwise_reverse]
 exact ⟨fun h=> h.imp fun k=> Ne.symm k,fun h=> h.imp fun k=> Ne.symm k⟩
theorem i0:∀ {l m:List Pt},l.Nodup→(∀ x∈l,x∈m)→l.length≤m.length
 | [],_,_,_=> Nat.zero_le _
 | x::l,m,h,hs=> by
  obtain ⟨h1,h2⟩:=List.nodup_cons.mp h
  have hx:x∈m:=hs x List.mem_cons_self
  have ih:=i0 (m:=m.erase x) h2 fun y hy=> (List.mem_erase_of_ne (fun e=> h1 (by rw [← e]; exact hy))).mpr (hs y (List.mem_cons_of_mem _ hy))
  rw [List.length_erase_of_mem hx] at ih
  have:=List.length_pos_of_mem hx
  simp only [List.length_cons]; omega
theorem j8 (pts:List Pt):(ST.srt pts).Pairwise plt:=gS.mp (ST.srt_asc pts)
theorem ro {pts:List Pt} (h:2≤(ST.srt pts).length):aG pts=(am (ST.srt pts)).tail.reverse++(am (ST.srt pts).reverse).tail.reverse:=by
 unfold aG; rw [if_neg (by omega),qz,qz]
theorem iy (pts:List Pt):(aG pts).Nodup:=by
 have nd:∀ {l:List Pt},l.Pairwise plt→l.Nodup:=fun h=> h.imp fun {a b} k e=> by rw [e] at k; exact bo b k
 by_cases h2:2≤(ST.srt pts).length
 ·have hs:=j8 pts
  obtain ⟨mn,mx,t1,t2,e1,e2,m1,m2,hmn,hmx,i1,i2⟩:=ends hs h2
  have n1:(mx::t1).Nodup:=by rw [← e1]; exact eA.mp (nd (gS.mp (eI hs)))
  have n2:(mn::t2).Nodup:=by
   rw [← e2,ck]
   have:=eA.mp (nd (gS.mp (eI (de hs))))
   refine List.pairwise_map.mpr (this.imp fun {a b} hab e=> hab ?_)
   rw [← fc a,e,fc]
  obtain ⟨x1,y1⟩:=List.nodup_cons.mp n1
  obtain ⟨x2,y2⟩:=List.nodup_cons.mp n2
  rw [ro h2,e1,e2,List.tail_cons,List.tail_cons,List.nodup_append]
  refine ⟨eA.mpr y1,eA.mpr y2,fun p hp q hq=> ?_⟩
  rintro rfl
  have p1:p∈t1:=List.mem_reverse.mp hp
  have p2:p∈t2:=List.mem_reverse.mp hq
  have b1:p∈am (ST.srt pts):=by rw [e1]; exact List.mem_cons_of_mem _ p1
  have b2:p∈am (ST.srt pts).reverse:=by rw [e2]; exact List.mem_cons_of_mem _ p2
  have pr:=bZ _ _ b1
  have l1:plt mn p:=(hmn p pr).resolve_left fun e=> x2 (by rw [← e]; exact p2)
  have l2:plt p mx:=(hmx p pr).resolve_left fun e=> x1 (by rw [← e]; exact p1)
  have d1:=rn hs b1 mn i1 mx i2 l1 l2
  have b3:ng p∈am ((ST.srt pts).reverse.map ng):=by rw [fL]; exact List.mem_map.mpr ⟨p,b2,rfl⟩
  have d2:=rn (de hs) b3 (ng mx) (List.mem_map.mpr ⟨mx,List.mem_reverse.mpr i2,rfl⟩) (ng mn) (List.mem_map.mpr ⟨mn,List.mem_reverse.mpr i1,rfl⟩) (iF l2) (iF l1)
  rw [iu] at d2
  unfold aP at d1 d2
  grind
 ·unfold aG
  split
  ·exact nd (j8 pts)
  ·have e:ST.srt pts=[]:=List.length_eq_zero_iff.mp (by omega)
   rw [e]; exact List.nodup_nil
theorem kG (pts:List Pt):∀ p∈aG pts,p∈pts:=fun p hp=> by
 unfold aG at hp
 split at hp
 ·exact (ST.srt_mem p pts).mp hp
 ·rcases List.mem_append.mp hp with h | h
  ·exact (ST.srt_mem p pts).mp (bZ _ _ (List.mem_reverse.mp (List.dropLast_subset _ h)))
  ·exact (ST.srt_mem p pts).mp (List.mem_reverse.mp (bZ _ _ (List.mem_reverse.mp (List.dropLast_subset _ h))))
theorem nO (pts:List Pt):(aG pts).length≤pts.length:=i0 (iy pts) (kG pts)
end
section
variable {P:Program} {w:World} {K:PySem.W.Frag} {mg:Str→Option Value} {base:Heap}
theorem ik {pts:List Pt} (h:¬ 2≤(ST.srt pts).length):aG pts=ST.srt pts:=by
 unfold aG
 split
 ·rfl
 ·have e:ST.srt pts=[]:=List.length_eq_zero_iff.mp (by omega)
  rw [e]; rfl
section
variable {f:Pt→Pt}
end
theorem lm {done:List Pt}:∀ {st:List Pt},fB done st→∀ (k:Nat) {a b:Pt},st[k]?=some b→st[k+1]?=some a→∀ q∈done,0≤aP a b q
 | [],_,k,_,_,h,_=> by simp at h
 | [_],_,k,_,_,_,h=> by simp at h
 | x::y::r,C,0,a,b,h1,h2=> by
  simp at h1 h2
  subst h1; subst h2
  exact C.1
 | x::y::r,C,k+1,a,b,h1,h2=> lm C.2 k (by simpa using h1) (by simpa using h2)
theorem kw:∀ {st:List Pt},gv st→∀ (k:Nat) {a b c:Pt},st[k]?=some c→st[k+1]?=some b→st[k+2]?=some a→0 < aP a b c
 | [],_,k,_,_,_,h,_,_=> by simp at h
 | [_],_,k,_,_,_,_,h,_=> by simp at h
 | [_,_],_,k,_,_,_,_,_,h=> by simp at h
 | x::y::z::r,C,0,a,b,c,h1,h2,h3=> by
  simp at h1 h2 h3
  subst h1; subst h2; subst h3
  exact C.1
 | x::y::z::r,C,k+1,a,b,c,h1,h2,h3=> kw C.2 k (by simpa using h1) (by simpa using h2) (by simpa using h3)
theorem qv {st:List Pt} {i:Nat} {a b:Pt} (h1:st.reverse[i]?=some a) (h2:st.reverse[i+1]?=some b):∃ k,st[k]?=some b∧st[k+1]?=some a:=by
 have l2:i+1 < st.length:=by have:=(List.getElem?_eq_some_iff.mp h2).1; simpa using this
 rw [List.getElem?_reverse (by omega)] at h1
 rw [List.getElem?_reverse l2] at h2
 exact ⟨st.length - 1 - (i+1),h2,by rw [← h1]; congr 1; omega⟩
theorem oN {st:List Pt} {i:Nat} {a b c:Pt} (h1:st.reverse[i]?=some a) (h2:st.reverse[i+1]?=some b) (h3:st.reverse[i+2]?=some c):∃ k,st[k]?=some c∧st[k+1]?=some b∧st[k+2]?=some a:=by
 have l3:i+2 < st.length:=by have:=(List.getElem?_eq_some_iff.mp h3).1; simpa using this
 rw [List.getElem?_reverse (by omega)] at h1
 rw [List.getElem?_reverse (by omega)] at h2
 rw [List.getElem?_reverse l3] at h3
 exact ⟨st.length - 1 - (i+2),h3,by rw [← h2]; congr 1; omega,by rw [← h1]; congr 1; omega⟩
theorem dS {row:List Pt} (hs:row.Pairwise plt) (h:row≠[]) {i:Nat} {a b:Pt} (h1:(am row).reverse[i]?=some a) (h2:(am row).reverse[i+1]?=some b):∀ q∈row,0≤aP a b q:=by
 obtain ⟨k,e1,e2⟩:=qv h1 h2
 exact lm (cf hs h).1.cover k e1 e2
theorem fj {row:List Pt} (hs:row.Pairwise plt) (h:row≠[]) {i:Nat} {a b c:Pt} (h1:(am row).reverse[i]?=some a) (h2:(am row).reverse[i+1]?=some b) (h3:(am row).reverse[i+2]?=some c):0 < aP a b c:=by
 obtain ⟨k,e1,e2,e3⟩:=oN h1 h2 h3
 exact kw (cf hs h).1.turns k e1 e2 e3
theorem dD {row:List Pt} {i:Nat} {a:Pt} (h1:(am row.reverse).reverse[i]?=some a):(am (row.reverse.map ng)).reverse[i]?=some (ng a):=by
 rw [ck,← List.map_reverse,List.getElem?_map] at h1
 cases e:(am (row.reverse.map ng)).reverse[i]? with
 | none=> rw [e] at h1; cases h1
 | some z=> rw [e] at h1; cases h1; rw [fc]
theorem hV {row:List Pt} (hs:row.Pairwise plt) (h:row≠[]) {i:Nat} {a b:Pt} (h1:(am row.reverse).reverse[i]?=some a) (h2:(am row.reverse).reverse[i+1]?=some b):∀ q∈row,0≤aP a b q:=fun q hq=> by
 have:=dS (de hs) (by simpa using h) (dD h1) (dD h2) (ng q) (List.mem_map_of_mem (List.mem_reverse.mpr hq))
 rwa [iu] at this
theorem ji {row:List Pt} (hs:row.Pairwise plt) (h:row≠[]) {i:Nat} {a b c:Pt} (h1:(am row.reverse).reverse[i]?=some a) (h2:(am row.reverse).reverse[i+1]?=some b) (h3:(am row.reverse).reverse[i+2]?=some c):0 < aP a b c:=by
 have:=fj (de hs) (by simpa using h) (dD h1) (dD h2) (dD h3)
 rwa [iu] at this
theorem pZ {u1 u2 v1 v2 w1 w2:Int} (hu:lpos u1 u2) (hv:lpos v1 v2) (h0:u1 * v2 - u2 * v1=0) (h1:u1 * w2 - u2 * w1≤0) (h2:0≤v1 * w2 - v2 * w1):u1 * w2 - u2 * w1=0∧v1 * w2 - v2 * w1=0:=by
 have e1:v1 * (u1 * w2 - u2 * w1)=u1 * (v1 * w2 - v2 * w1):=by grind
 have e2:v2 * (u1 * w2 - u2 * w1)=u2 * (v1 * w2 - v2 * w1):=by grind
 have fin:∀ {s t A B:Int},0 < s→0 < t→s * A=t * B→A≤0→0≤B→A=0∧B=0:=fun {s t A B} hs ht e ha hb=> by
  have k1:s * A≤0:=Int.mul_nonpos_of_nonneg_of_nonpos (by omega) ha
  have k2:0≤t * B:=Int.mul_nonneg (by omega) hb
  have z1:s * A=0:=by omega
  have z2:t * B=0:=by omega
  refine ⟨(Int.mul_eq_zero.mp z1).resolve_left (by omega),(Int.mul_eq_zero.mp z2).resolve_left (by omega)⟩
 rcases hu with hu | ⟨hu,hu2⟩
 ·rcases hv with hv | ⟨hv,hv2⟩
  ·exact fin hv hu e1 h1 h2
  ·rw [hv] at h0
   have:=Int.mul_pos hu hv2
   omega
 ·rcases hv with hv | ⟨hv,hv2⟩
  ·rw [hu] at h0
   have:=Int.mul_pos hu2 hv
   omega
  ·exact fin hv2 hu2 e2 h1 h2
theorem ov {a m c:Pt} (ha:plt a m) (hc:plt c m) (h:aP a m c=0) {q:Pt} (h1:0≤aP a m q) (h2:0≤aP m c q):aP a m q=0∧aP m c q=0:=by
 have k:=pZ (w1:=m.1 - q.1) (w2:=m.2 - q.2) (ba ha) (ba hc) (by unfold aP at h; grind) (by unfold aP at h1; grind) (by unfold aP at h2; grind)
 unfold aP
 exact ⟨by grind,by grind⟩
theorem tw (a b c:Pt):aP a b c=aP b c a:=by unfold aP; grind
theorem wm {row:List Pt} (hs:row.Pairwise plt) (hne:row≠[]) {i:Nat} {a m c:Pt} (h1:(am row).reverse[i]?=some a) (h2:(am row).reverse[i+1]?=some m) (hl:(am row).length=i+2)
  (h3:(am row.reverse).reverse[0]?=some m) (h4:(am row.reverse).reverse[1]?=some c) (ha:plt a m) (hc:plt c m) (big:2 < (am row).length∨2 < (am row.reverse).length):0 < aP a m c:=by
 have mem:∀ {j:Nat} {p:Pt},(am row).reverse[j]?=some p→p∈row:=fun h=> bZ row _ (List.mem_reverse.mp (List.mem_of_getElem? h))
 have memR:∀ {j:Nat} {p:Pt},(am row.reverse).reverse[j]?=some p→p∈row:=fun h=> List.mem_reverse.mp (bZ _ _ (List.mem_reverse.mp (List.mem_of_getElem? h)))
 have cv:=dS hs hne h1 h2
 have cb:=hV hs hne h3 h4
 have h0:=cv c (memR h4)
 rcases Int.lt_or_eq_of_le h0 with z | z
 ·exact z
 ·exfalso
  have flat:∀ q∈row,aP a m q=0∧aP m c q=0:=fun q hq=> ov ha hc z.symm (cv q hq) (cb q hq)
  rcases big with b | b
  ·have hi:0 < i:=by omega
   have hx:i - 1 < (am row).reverse.length:=by simp; omega
   have e:=List.getElem?_eq_getElem hx
   have t:=fj hs hne e (by rw [Nat.sub_add_cancel hi]; exact h1) (by rw [show i - 1+2=i+1 by omega]; exact h2)
   rw [tw,(flat _ (mem e)).1] at t
   omega
  ·have hx:2 < (am row.reverse).reverse.length:=by simpa using b
   have e:=List.getElem?_eq_getElem hx
   have t:=ji hs hne h3 h4 e
   rw [(flat _ (memR e)).2] at t
   omega
structure uP (row T B:List Pt) (mn mx:Pt):Prop where
 t0:T[0]?=some mn
 t1:T[T.length - 1]?=some mx
 b0:B[0]?=some mx
 b1:B[B.length - 1]?=some mn
 lt:2≤T.length
 lb:2≤B.length
 least:∀ p∈row,p=mn∨plt mn p
 most:∀ p∈row,p=mx∨plt p mx
theorem um {l:List Pt}:l.reverse[0]?=l.getLast?:=by rw [List.getLast?_eq_head?_reverse,List.head?_eq_getElem?]
theorem uz {l:List Pt}:l.reverse[l.reverse.length - 1]?=l.head?:=by rw [← List.getLast?_eq_getElem?,List.getLast?_reverse]
theorem xm {row:List Pt} (hs:row.Pairwise plt) (h2:2≤row.length):∃ mn mx,uP row (am row).reverse (am row.reverse).reverse mn mx:=by
 have hne:row≠[]:=fun z=> by rw [z] at h2; simp at h2
 obtain ⟨mn,mx,t1,t2,e1,e2,m1,m2,least,most,_,_⟩:=ends hs h2
 obtain ⟨K,hl,hh⟩:=cf hs hne
 obtain ⟨KR,hlR,hhR⟩:=cf (de hs) (by simpa using hne)
 have l1:2≤(am row).length:=by rw [e1]; have:=List.length_pos_of_mem m1; simp; omega
 have l2:2≤(am row.reverse).length:=by rw [e2]; have:=List.length_pos_of_mem m2; simp; omega
 have hd:row.head?=some row[0]:=by rw [List.head?_eq_getElem?]; exact List.getElem?_eq_getElem (by omega)
 have ld:row.getLast?=some row[row.length - 1]:=by rw [List.getLast?_eq_getElem?]; exact List.getElem?_eq_getElem (by omega)
 have q1:row[0]=mn:=by
  have hb:=hhR
  rw [List.getLast?_map,List.getLast?_reverse,hd] at hb
  have:(am row.reverse).head?=some row[0]:=by rw [ck,List.head?_map,hb]; simp [fc]
  rw [e2] at this
  exact (Option.some.inj this).symm
 have q2:row[row.length - 1]=mx:=by
  rw [ld,e1] at hh
  exact (Option.some.inj hh).symm
 refine ⟨mn,mx,?_,?_,?_,?_,by simpa using l1,by simpa using l2,least,most⟩
 ·rw [um,hl,hd,q1]
 ·rw [uz,hh,ld,q2]
 ·rw [um,ck,List.getLast?_map,hlR,List.head?_map,List.head?_reverse,ld,q2]; simp [fc]
 ·rw [uz,e2]; rfl
section
variable {row T B:List Pt} {mn mx:Pt}
theorem dW (W:uP row T B mn mx) {k:Nat} (hk:k≤T.length - 1):(T.dropLast++B.dropLast)[k % (T.dropLast++B.dropLast).length]?=T[k]?:=by
 have h1:=W.lt
 have h2:=W.lb
 have hn:(T.dropLast++B.dropLast).length=T.length - 1+(B.length - 1):=by simp
 rw [hn,Nat.mod_eq_of_lt (by omega)]
 by_cases h:k < T.length - 1
 ·rw [List.getElem?_append_left (by simpa using h),List.getElem?_dropLast,if_pos h]
 ·obtain rfl:k=T.length - 1:=by omega
  rw [List.getElem?_append_right (by simp),List.length_dropLast,Nat.sub_self,List.getElem?_dropLast,if_pos (by omega),W.b0,W.t1]
theorem gW (W:uP row T B mn mx) {k:Nat} (h0:T.length - 1≤k) (hk:k≤T.length - 1+(B.length - 1)):(T.dropLast++B.dropLast)[k % (T.dropLast++B.dropLast).length]?=B[k - (T.length - 1)]?:=by
 have h1:=W.lt
 have h2:=W.lb
 have hn:(T.dropLast++B.dropLast).length=T.length - 1+(B.length - 1):=by simp
 by_cases h:k < T.length - 1+(B.length - 1)
 ·rw [hn,Nat.mod_eq_of_lt h,List.getElem?_append_right (by simpa using h0),List.length_dropLast,List.getElem?_dropLast,if_pos (by omega)]
 ·obtain rfl:k=T.length - 1+(B.length - 1):=by omega
  have:=dW W (k:=0) (by omega)
  rw [Nat.zero_mod] at this
  rw [hn,Nat.mod_self,this,W.t0,show T.length - 1+(B.length - 1) - (T.length - 1)=B.length - 1 by omega,W.b1]
end
theorem cZ {l:List Pt} {i:Nat} (h:i < l.length):∃ a,l[i]?=some a:=⟨_,List.getElem?_eq_getElem h⟩
theorem mh {pts:List Pt} (h2:2≤(ST.srt pts).length) {i:Nat} (hi:i < (aG pts).length):∃ a b,(aG pts)[i]?=some a∧(aG pts)[(i+1) % (aG pts).length]?=some b∧(∀ p∈pts,0≤aP a b p)∧(2 < (aG pts).length→∃ c,(aG pts)[(i+2) % (aG pts).length]?=some c∧0 < aP a b c):=by
 have hs:=j8 pts
 have hne:ST.srt pts≠[]:=fun z=> by rw [z] at h2; simp at h2
 obtain ⟨mn,mx,W⟩:=xm hs h2
 have hmem:∀ p∈pts,p∈ST.srt pts:=fun p hp=> (ST.srt_mem p pts).mpr hp
 have hc:aG pts=(am (ST.srt pts)).reverse.dropLast++(am (ST.srt pts).reverse).reverse.dropLast:=by
  unfold aG; rw [if_neg (by omega)]
 have tc:∀ {j:Nat} {a b:Pt},(am (ST.srt pts)).reverse[j]?=some a→(am (ST.srt pts)).reverse[j+1]?=some b→∀ q∈ST.srt pts,0≤aP a b q:=fun h h'=> dS hs hne h h'
 have tt:∀ {j:Nat} {a b c:Pt},(am (ST.srt pts)).reverse[j]?=some a→(am (ST.srt pts)).reverse[j+1]?=some b→(am (ST.srt pts)).reverse[j+2]?=some c→0 < aP a b c:=fun h h' h''=> fj hs hne h h' h''
 have bc:∀ {j:Nat} {a b:Pt},(am (ST.srt pts).reverse).reverse[j]?=some a→(am (ST.srt pts).reverse).reverse[j+1]?=some b→∀ q∈ST.srt pts,0≤aP a b q:=fun h h'=> hV hs hne h h'
 have bt:∀ {j:Nat} {a b c:Pt},(am (ST.srt pts).reverse).reverse[j]?=some a→(am (ST.srt pts).reverse).reverse[j+1]?=some b→(am (ST.srt pts).reverse).reverse[j+2]?=some c→0 < aP a b c:=fun h h' h''=> ji hs hne h h' h''
 have memT:∀ {j:Nat} {p:Pt},(am (ST.srt pts)).reverse[j]?=some p→p∈ST.srt pts:=fun h=> bZ _ _ (List.mem_reverse.mp (List.mem_of_getElem? h))
 have memB:∀ {j:Nat} {p:Pt},(am (ST.srt pts).reverse).reverse[j]?=some p→p∈ST.srt pts:=fun h=> List.mem_reverse.mp (bZ _ _ (List.mem_reverse.mp (List.mem_of_getElem? h)))
 have ndT:(am (ST.srt pts)).reverse.Nodup:=(eI hs).imp fun {a b} h e=> by subst e; exact bo _ ((jK _ _).mpr h)
 have ndB:(am (ST.srt pts).reverse).reverse.Nodup:=by
  rw [ck,← List.map_reverse]
  have ndR:(am ((ST.srt pts).reverse.map ng)).reverse.Nodup:=(eI (de hs)).imp fun {a b} h e=> by subst e; exact bo _ ((jK _ _).mpr h)
  exact List.Pairwise.map _ (fun a b (h:a≠b) e=> h (by have:=congrArg ng e; rwa [fc,fc] at this)) ndR
 have m1:∀ {j:Nat} {a m c:Pt},(am (ST.srt pts)).reverse[j]?=some a→(am (ST.srt pts)).reverse[j+1]?=some m→(am (ST.srt pts)).length=j+2→(am (ST.srt pts).reverse).reverse[0]?=some m→(am (ST.srt pts).reverse).reverse[1]?=some c→plt a m→plt c m→2 < (am (ST.srt pts)).length∨2 < (am (ST.srt pts).reverse).length→0 < aP a m c:=fun a1 a2 a3 a4 a5 a6 a7 a8=> wm hs hne a1 a2 a3 a4 a5 a6 a7 a8
 have m2:∀ {j:Nat} {a m c:Pt},(am (ST.srt pts).reverse).reverse[j]?=some a→(am (ST.srt pts).reverse).reverse[j+1]?=some m→(am (ST.srt pts).reverse).length=j+2→(am (ST.srt pts)).reverse[0]?=some m→(am (ST.srt pts)).reverse[1]?=some c→plt m a→plt m c→2 < (am (ST.srt pts)).length∨2 < (am (ST.srt pts).reverse).length→0 < aP a m c:=fun {j a m c} a1 a2 a3 a4 a5 a6 a7 a8=> by
  have er:((ST.srt pts).reverse.map ng).reverse=(ST.srt pts).map ng:=by rw [← List.map_reverse,List.reverse_reverse]
  have fw:∀ {k:Nat} {p:Pt},(am (ST.srt pts)).reverse[k]?=some p→(am ((ST.srt pts).reverse.map ng).reverse).reverse[k]?=some (ng p):=fun {k p} h=> by
   rw [er,fL,← List.map_reverse,List.getElem?_map,h]; rfl
  have lb:(am ((ST.srt pts).reverse.map ng)).length=(am (ST.srt pts).reverse).length:=by rw [ck,List.length_map]
  have lt:(am ((ST.srt pts).reverse.map ng).reverse).length=(am (ST.srt pts)).length:=by rw [er,fL,List.length_map]
  have:=wm (de hs) (by simpa using hne) (dD a1) (dD a2) (by rw [lb]; exact a3) (fw a4) (fw a5) (iF a6) (iF a7) (by rw [lb,lt]; exact a8.symm)
  rwa [iu] at this
 rw [hc] at hi ⊢
 have lT:(am (ST.srt pts)).reverse.length=(am (ST.srt pts)).length:=List.length_reverse
 have lB:(am (ST.srt pts).reverse).reverse.length=(am (ST.srt pts).reverse).length:=List.length_reverse
 generalize (am (ST.srt pts)).reverse=T at *
 generalize (am (ST.srt pts).reverse).reverse=B at *
 have h1:=W.lt
 have h3:=W.lb
 have hn:(T.dropLast++B.dropLast).length=T.length - 1+(B.length - 1):=by simp
 have own:∀ k,k < (T.dropLast++B.dropLast).length→(T.dropLast++B.dropLast)[k]?=(T.dropLast++B.dropLast)[k % (T.dropLast++B.dropLast).length]?:=fun k hk=> by rw [Nat.mod_eq_of_lt hk]
 have tne:∀ {j k:Nat} {p q:Pt},T[j]?=some p→T[k]?=some q→j≠k→p≠q:=fun {j k p q} a1 a2 a3 e=> a3 ((List.getElem?_inj (aM a1) ndT).mp (by rw [a1,a2,e]))
 have bne:∀ {j k:Nat} {p q:Pt},B[j]?=some p→B[k]?=some q→j≠k→p≠q:=fun {j k p q} a1 a2 a3 e=> a3 ((List.getElem?_inj (aM a1) ndB).mp (by rw [a1,a2,e]))
 by_cases c1:i < T.length - 1
 ·obtain ⟨a,ea⟩:=cZ (l:=T) (i:=i) (by omega)
  obtain ⟨b,eb⟩:=cZ (l:=T) (i:=i+1) (by omega)
  refine ⟨a,b,by rw [own i hi,dW W (by omega)]; exact ea,by rw [dW W (by omega)]; exact eb,fun p hp=> tc ea eb p (hmem p hp),fun big=> ?_⟩
  by_cases c2:i+2≤T.length - 1
  ·obtain ⟨c,ec⟩:=cZ (l:=T) (i:=i+2) (by omega)
   exact ⟨c,by rw [dW W c2]; exact ec,tt ea eb ec⟩
  ·have e:i+1=T.length - 1:=by omega
   obtain ⟨c,ec⟩:=cZ (l:=B) (i:=1) (by omega)
   have emx:b=mx:=by have:=W.t1; rw [← e,eb] at this; exact Option.some.inj this
   subst emx
   refine ⟨c,by rw [gW W (by omega) (by omega),show i+2 - (T.length - 1)=1 by omega]; exact ec,m1 ea eb (by omega) W.b0 ec ?_ ?_ (by omega)⟩
   ·exact (W.most a (memT ea)).resolve_left (tne ea eb (by omega))
   ·exact (W.most c (memB ec)).resolve_left (bne ec W.b0 (by omega))
 ·obtain ⟨a,ea⟩:=cZ (l:=B) (i:=i - (T.length - 1)) (by omega)
  obtain ⟨b,eb⟩:=cZ (l:=B) (i:=i - (T.length - 1)+1) (by omega)
  refine ⟨a,b,by rw [own i hi,gW W (by omega) (by omega)]; exact ea,by rw [gW W (by omega) (by omega),show i+1 - (T.length - 1)=i - (T.length - 1)+1 by omega]; exact eb,fun p hp=> bc ea eb p (hmem p hp),fun big=> ?_⟩
  by_cases c2:i+2≤T.length - 1+(B.length - 1)
  ·obtain ⟨c,ec⟩:=cZ (l:=B) (i:=i - (T.length - 1)+2) (by omega)
   exact ⟨c,by rw [gW W (by omega) c2,show i+2 - (T.length - 1)=i - (T.length - 1)+2 by omega]; exact ec,bt ea eb ec⟩
  ·have e:i - (T.length - 1)+1=B.length - 1:=by omega
   obtain ⟨c,ec⟩:=cZ (l:=T) (i:=1) (by omega)
   have emn:b=mn:=by have:=W.b1; rw [← e,eb] at this; exact Option.some.inj this
   subst emn
   refine ⟨c,?_,m2 ea eb (by omega) W.t0 ec ?_ ?_ (by omega)⟩
   ·have:=dW W (k:=1) (by omega)
    rw [show (i+2) % (T.dropLast++B.dropLast).length=1 % (T.dropLast++B.dropLast).length by rw [hn,show i+2=1+(T.length - 1+(B.length - 1)) by omega,Nat.add_mod_right],this]
    exact ec
   ·exact (W.least a (memB ea)).resolve_left (bne ea eb (by omega))
   ·exact (W.least c (memT ec)).resolve_left (tne ec W.t0 (by omega))
abbrev gp (l:List P2) (i:Nat):P2:=l.getD i (0,0)
theorem gq {l:List P2} {i:Nat} (h:i < l.length):l[i]?=some (gp l i):=by simp [gp,h]
theorem gm {l:List P2} {i:Nat} (h:i < l.length):gp l i∈l:=List.mem_of_getElem? (gq h)
theorem wv (l:List U):dI l (some 1) none=l.drop 1:=by
 unfold dI HT.sIx
 cases l with
 | nil=> simp
 | cons a l=> simp
theorem wY (l:List U):dI l none (some 1)=l.take 1:=by
 unfold dI HT.sIx
 cases l with
 | nil=> simp
 | cons a l=> simp
def ap (a b c d e f:Int) (p:P2):P2:=(a * p.1+b * p.2+e,c * p.1+d * p.2+f)
structure Stn (C A B:P2) (a b c d e f:Int):Prop where
 dt:a * d - b * c=1∨a * d - b * c=-1
 at0:ap a b c d e f C=(0,0)
 nx:0 < (ap a b c d e f A).1
 ny:(ap a b c d e f A).2=0
 f0:0≤(ap a b c d e f B).1
 f1:(ap a b c d e f B).1 < (ap a b c d e f B).2
theorem vq {C A B:P2} {g u v s t k q x y:Int} (g0:0 < g) (e1:A.1 - C.1=g * u) (e2:A.2 - C.2=g * v) (h:s * u+t * v=1)
  (hx:x=s * B.1+t * B.2+(-s * C.1 - t * C.2)) (hy:y=-v * B.1+u * B.2+(v * C.1 - u * C.2)) (hk:k=1∨k=-1) (ky:0 < k * y) (hq:q=x / (k * y)):
  Stn C A B (s - q * (k * -v)) (t - q * (k * u)) (k * -v) (k * u) ((-s * C.1 - t * C.2) - q * (k * (v * C.1 - u * C.2))) (k * (v * C.1 - u * C.2)):=by
 have a1:A.1=C.1+g * u:=by omega
 have a2:A.2=C.2+g * v:=by omega
 have dv:=Int.mul_ediv_add_emod x (k * y)
 have m0:=Int.emod_nonneg x (show k * y≠0 by omega)
 have m1:=Int.emod_lt_of_pos x ky
 rw [← hq] at dv
 have bx:(ap (s - q * (k * -v)) (t - q * (k * u)) (k * -v) (k * u) ((-s * C.1 - t * C.2) - q * (k * (v * C.1 - u * C.2))) (k * (v * C.1 - u * C.2)) B).1=x - q * (k * y):=by
  unfold ap; dsimp only; rw [hx,hy]; grind
 have b2:(ap (s - q * (k * -v)) (t - q * (k * u)) (k * -v) (k * u) ((-s * C.1 - t * C.2) - q * (k * (v * C.1 - u * C.2))) (k * (v * C.1 - u * C.2)) B).2=k * y:=by
  unfold ap; dsimp only; rw [hy]; grind
 have c1:k * y * q=q * (k * y):=Int.mul_comm _ _
 refine ⟨?_,?_,?_,?_,by rw [bx]; omega,by rw [bx,b2]; omega⟩
 ·have:(s - q * (k * -v)) * (k * u) - (t - q * (k * u)) * (k * -v)=k * (s * u+t * v):=by grind
  rw [this,h,Int.mul_one]; exact hk
 ·unfold ap; exact Prod.ext (by dsimp only; grind) (by dsimp only; grind)
 ·have:(ap (s - q * (k * -v)) (t - q * (k * u)) (k * -v) (k * u) ((-s * C.1 - t * C.2) - q * (k * (v * C.1 - u * C.2))) (k * (v * C.1 - u * C.2)) A).1=g * (s * u+t * v):=by
   unfold ap; dsimp only; rw [a1,a2]; grind
  rw [this,h]; omega
 ·unfold ap; dsimp only; rw [a1,a2]; grind
theorem wb {a b c d e f:Int} (h:a * d - b * c=1∨a * d - b * c=-1) {p q:P2} (k:ap a b c d e f p=ap a b c d e f q):p=q:=by
 unfold ap at k
 have k1:=congrArg Prod.fst k
 have k2:=congrArg Prod.snd k
 dsimp only at k1 k2
 have e1:(a * d - b * c) * (p.1 - q.1)=0:=by grind
 have e2:(a * d - b * c) * (p.2 - q.2)=0:=by grind
 rcases h with h | h <;> rw [h] at e1 e2 <;> exact Prod.ext (by omega) (by omega)
def pI (n k:Nat):Nat:=(k+n - 1) % n
def nI (n k:Nat):Nat:=(k+1) % n
theorem je {n k:Nat} (h:k < n):pI n k=if k=0 then n - 1 else k - 1:=by
 unfold pI
 split
 ·rename_i z; rw [z,Nat.zero_add]; exact Nat.mod_eq_of_lt (by omega)
 ·rw [show k+n - 1=(k - 1)+n by omega,Nat.add_mod_right]; exact Nat.mod_eq_of_lt (by omega)
theorem qF {n k:Nat} (h:k < n):nI n k=if k+1=n then 0 else k+1:=by
 unfold nI
 split
 ·rename_i z; rw [z,Nat.mod_self]
 ·exact Nat.mod_eq_of_lt (by omega)
theorem nP {n k:Nat} (h:k < n):pI n k < n:=Nat.mod_lt _ (by omega)
theorem mM {n k:Nat} (h:k < n):nI n k < n:=Nat.mod_lt _ (by omega)
theorem wd {n k:Nat} (h3:3≤n) (h:k < n):pI n k≠nI n k:=by
 rw [je h,qF h]
 split <;> split <;> omega
structure Pr (l:List P2) (a b c d e f:Int) (i j:Nat):Prop where
 hi:i < l.length
 nd:l.Nodup
 n3:3≤l.length
 st:(j=pI l.length i∧Stn (gp l i) (gp l (pI l.length i)) (gp l (nI l.length i)) a b c d e f)∨(j=nI l.length i∧Stn (gp l i) (gp l (nI l.length i)) (gp l (pI l.length i)) a b c d e f)
section
variable {l:List P2} {a b c d e f:Int} {i j i' j':Nat}
theorem Pr.dt (P:Pr l a b c d e f i j):a * d - b * c=1∨a * d - b * c=-1:=by
 rcases P.st with ⟨_,S⟩ | ⟨_,S⟩ <;> exact S.dt
theorem Pr.at0 (P:Pr l a b c d e f i j):ap a b c d e f (gp l i)=(0,0):=by
 rcases P.st with ⟨_,S⟩ | ⟨_,S⟩ <;> exact S.at0
theorem w9 (nd:l.Nodup) (hi:i < l.length) (hj:j < l.length) (h:gp l i=gp l j):i=j:=by
 have e1:gp l i=l[i]:=by simp [gp,hi]
 have e2:gp l j=l[j]:=by simp [gp,hj]
 rw [e1,e2] at h
 rcases Nat.lt_trichotomy i j with z | z | z
 ·exact absurd h (List.pairwise_iff_getElem.mp nd i j hi hj z)
 ·exact z
 ·exact absurd h.symm (List.pairwise_iff_getElem.mp nd j i hj hi z)
theorem Pr.only (P:Pr l a b c d e f i j) {k:Nat} (hk:k < l.length) (h:ap a b c d e f (gp l k)=(0,0)):k=i:=w9 P.nd hk P.hi (wb P.dt (h.trans P.at0.symm))
theorem Pr.one (P:Pr l a b c d e f i j) (P':Pr l a b c d e f i' j'):i=i'∧j=j':=by
 have e:=P'.only P.hi P.at0
 subst e
 refine ⟨rfl,?_⟩
 rcases P.st with ⟨h1,S⟩ | ⟨h1,S⟩ <;> rcases P'.st with ⟨h2,S'⟩ | ⟨h2,S'⟩
 ·rw [h1,h2]
 ·have:=S.ny; have:=S'.f0; have:=S'.f1; omega
 ·have:=S.ny; have:=S'.f0; have:=S'.f1; omega
 ·rw [h1,h2]
end
def PrL (l:List P2) (m:List Int) (p:Nat×Nat):Prop:=∃ a b c d e f,m=[a,b,c,d,e,f]∧Pr l a b c d e f p.1 p.2
theorem PrL.one {l:List P2} {m:List Int} {p p':Nat×Nat} (h:PrL l m p) (h':PrL l m p'):p=p':=by
 obtain ⟨a,b,c,d,e,f,rfl,P⟩:=h
 obtain ⟨a',b',c',d',e',f',q,P'⟩:=h'
 cases q
 obtain ⟨h1,h2⟩:=P.one P'
 exact Prod.ext h1 h2
def prs (n x:Nat):Nat×Nat:=(x / 2,if x % 2=0 then pI n (x / 2) else nI n (x / 2))
theorem sX {n x y:Nat} (h3:3≤n) (hx:x < 2 * n) (hy:y < 2 * n) (h:prs n x=prs n y):x=y:=by
 unfold prs at h
 have h1:x / 2=y / 2:=congrArg Prod.fst h
 have h2:=congrArg Prod.snd h
 dsimp only at h2
 have ne:=wd h3 (show x / 2 < n by omega)
 rw [← h1] at h2
 split at h2 <;> split at h2
 ·omega
 ·exact absurd h2 ne
 ·exact absurd h2.symm ne
 ·omega
structure All (l:List P2) (ms:List (List Int)):Prop where
 n3:3≤l.length
 len:ms.length=2 * l.length
 at_:∀ x,(h:x < ms.length)→PrL l ms[x] (prs l.length x)
theorem All.six {l:List P2} {ms:List (List Int)} (A:All l ms):∀ m∈ms,m.length=6:=fun m hm=> by
 obtain ⟨x,hx,rfl⟩:=List.mem_iff_getElem.mp hm
 obtain ⟨a,b,c,d,e,f,h,_⟩:=A.at_ x hx
 rw [h]; rfl
theorem All.inj {l:List P2} {ms:List (List Int)} (A:All l ms) {x y:Nat} (hx:x < ms.length) (hy:y < ms.length) (h:prs l.length x=prs l.length y):x=y:=sX A.n3 (by rw [← A.len]; exact hx) (by rw [← A.len]; exact hy) h
theorem All.nodup {l:List P2} {ms:List (List Int)} (A:All l ms):ms.Nodup:=by
 refine List.pairwise_iff_getElem.mpr fun x y hx hy hlt e=> ?_
 have h1:=A.at_ x hx
 rw [e] at h1
 have:=A.inj hx hy (h1.one (A.at_ y hy))
 omega
open Classical in
noncomputable def pf (l:List P2) (m:List Int):Nat×Nat:=if h:∃ p,PrL l m p then h.choose else (0,0)
theorem pQ {l:List P2} {m:List Int} {p:Nat×Nat} (h:PrL l m p):pf l m=p:=by
 have h':∃ p,PrL l m p:=⟨p,h⟩
 unfold pf
 rw [dif_pos h']
 exact h'.choose_spec.one h
theorem All.mem {l:List P2} {ms:List (List Int)} (A:All l ms) {m:List Int} (hm:m∈ms):PrL l m (pf l m):=by
 obtain ⟨x,hx,rfl⟩:=List.mem_iff_getElem.mp hm
 have:=A.at_ x hx
 rw [pQ this]; exact this
theorem All.ne {l:List P2} {ms:List (List Int)} (A:All l ms) {m m':List Int} (hm:m∈ms) (hm':m'∈ms) (h:pf l m=pf l m'):m=m':=by
 obtain ⟨x,hx,rfl⟩:=List.mem_iff_getElem.mp hm
 obtain ⟨y,hy,rfl⟩:=List.mem_iff_getElem.mp hm'
 rw [pQ (A.at_ x hx),pQ (A.at_ y hy)] at h
 have:=A.inj hx hy h
 subst this; rfl
theorem vm {l:List P2} (nd:l.Nodup) (h3:3≤l.length) (F G:Nat→List Int)
  (hF:∀ i,i < l.length→∃ a b c d e f,F i=[a,b,c,d,e,f]∧Stn (gp l i) (gp l (pI l.length i)) (gp l (nI l.length i)) a b c d e f)
  (hG:∀ i,i < l.length→∃ a b c d e f,G i=[a,b,c,d,e,f]∧Stn (gp l i) (gp l (nI l.length i)) (gp l (pI l.length i)) a b c d e f):
  All l ((List.range (2 * l.length)).map fun x=> if x % 2=0 then F (x / 2) else G (x / 2)):=by
 refine ⟨h3,by simp,fun x hx=> ?_⟩
 have hx':x < 2 * l.length:=by simpa using hx
 have hi:x / 2 < l.length:=by omega
 rw [List.getElem_map,List.getElem_range]
 unfold prs
 split
 ·obtain ⟨a,b,c,d,e,f,h,S⟩:=hF _ hi
  exact ⟨a,b,c,d,e,f,h,hi,nd,h3,.inl ⟨rfl,S⟩⟩
 ·obtain ⟨a,b,c,d,e,f,h,S⟩:=hG _ hi
  exact ⟨a,b,c,d,e,f,h,hi,nd,h3,.inr ⟨rfl,S⟩⟩
theorem nY {pts:List P2} (h3:3≤(aG pts).length) (h2:2≤(ST.srt pts).length) {i:Nat} (hi:i < (aG pts).length):0 < aP (gp (aG pts) (pI (aG pts).length i)) (gp (aG pts) i) (gp (aG pts) (nI (aG pts).length i)):=by
 obtain ⟨a,b,e1,e2,_,h⟩:=mh h2 (nP hi)
 obtain ⟨c,e3,h⟩:=h (by omega)
 have k1:(pI (aG pts).length i+1) % (aG pts).length=i:=by
  rw [je hi]
  split
  ·rename_i z; rw [show (aG pts).length - 1+1=(aG pts).length by omega,Nat.mod_self,z]
  ·rw [show i - 1+1=i by omega]; exact Nat.mod_eq_of_lt hi
 have k2:(pI (aG pts).length i+2) % (aG pts).length=nI (aG pts).length i:=by
  rw [je hi,qF hi]
  split
  ·rename_i z; rw [show (aG pts).length - 1+2=1+(aG pts).length by omega,Nat.add_mod_right,z,Nat.mod_eq_of_lt (by omega),if_neg (by omega)]
  ·rw [show i - 1+2=i+1 by omega]
   split
   ·rename_i z; rw [z,Nat.mod_self]
   ·exact Nat.mod_eq_of_lt (by omega)
 rw [k1] at e2
 rw [k2] at e3
 have g:∀ {j:Nat} {p:P2},(aG pts)[j]?=some p→gp (aG pts) j=p:=fun h=> by simp [gp,h]
 rw [g e1,g e2,g e3]; exact h
end
section
variable {P:Program} {w:World} {K:PySem.W.Frag} {mg:Str→Option Value} {base:Heap}
structure SM (C A B:P2) (a b c d e f:Int) (g u v s t s1 t1 k q x y:Int):Prop where
 L:LvG C A g u v s t s1 t1
 hx:x=s * B.1+t * B.2+(-s * C.1 - t * C.2)
 hy:y=-v * B.1+u * B.2+(v * C.1 - u * C.2)
 hk:(k=1∧0 < y)∨(k=-1∧y < 0)
 hq:q=x / (k * y)
 ea:a=s - q * (k * -v)
 eb:b=t - q * (k * u)
 ec:c=k * -v
 ed:d=k * u
 ee:e=(-s * C.1 - t * C.2) - q * (k * (v * C.1 - u * C.2))
 ef:f=k * (v * C.1 - u * C.2)
def SMx (C A B:P2) (a b c d e f:Int):Prop:=∃ g u v s t s1 t1 k q x y,SM C A B a b c d e f g u v s t s1 t1 k q x y
theorem uA {C A B:P2} (h:C≠A) (hd:aP C A B≠0):∃ a b c d e f,SMx C A B a b c d e f:=by
 obtain ⟨g,u,v,s,t,s1,t1,L⟩:=ve h
 have gp:0 < g:=by have:=L.G.g0; have:=L.gn; omega
 have e1:A.1 - C.1=g * u:=by rw [L.hu]; exact (Int.mul_ediv_cancel' L.G.da).symm
 have e2:A.2 - C.2=g * v:=by rw [L.hv]; exact (Int.mul_ediv_cancel' L.G.db).symm
 have yn:-v * B.1+u * B.2+(v * C.1 - u * C.2)≠0:=fun z=> hd (by
  unfold aP
  rw [e1,e2]
  have:g * u * (B.2 - C.2) - g * v * (B.1 - C.1)=g * (-v * B.1+u * B.2+(v * C.1 - u * C.2)):=by grind
  rw [this,z,Int.mul_zero])
 by_cases yp:0 < -v * B.1+u * B.2+(v * C.1 - u * C.2)
 ·exact ⟨_,_,_,_,_,_,g,u,v,s,t,s1,t1,1,_,_,_,L,rfl,rfl,.inl ⟨rfl,yp⟩,rfl,rfl,rfl,rfl,rfl,rfl,rfl⟩
 ·exact ⟨_,_,_,_,_,_,g,u,v,s,t,s1,t1,-1,_,_,_,L,rfl,rfl,.inr ⟨rfl,by omega⟩,rfl,rfl,rfl,rfl,rfl,rfl,rfl⟩
section
variable {C A B:P2} {a b c d e f g u v s t s1 t1 k q x y:Int}
theorem SM.stn (h:SM C A B a b c d e f g u v s t s1 t1 k q x y):Stn C A B a b c d e f:=by
 have gp:0 < g:=by have:=h.L.G.g0; have:=h.L.gn; omega
 have e1:A.1 - C.1=g * u:=by rw [h.L.hu]; exact (Int.mul_ediv_cancel' h.L.G.da).symm
 have e2:A.2 - C.2=g * v:=by rw [h.L.hv]; exact (Int.mul_ediv_cancel' h.L.G.db).symm
 rw [h.ea,h.eb,h.ec,h.ed,h.ee,h.ef]
 refine vq gp e1 e2 h.L.G1.eq h.hx h.hy ?_ ?_ h.hq
 ·rcases h.hk with ⟨z,_⟩ | ⟨z,_⟩
  ·exact .inl z
  ·exact .inr z
 ·rcases h.hk with ⟨z,w⟩ | ⟨z,w⟩ <;> rw [z] <;> omega
structure SMz (u v s t x y e0 f0 q:Int):Prop where
 u:Sz 151 u
 v:Sz 151 v
 s:Sz 159 s
 t:Sz 310 t
 e0:Sz 462 e0
 f0:Sz 303 f0
 x:Sz 465 x
 y:Sz 305 y
 q:Sz 465 q
theorem SM.sz (h:SM C A B a b c d e f g u v s t s1 t1 k q x y) (zC:Szp 150 C) (zA:Szp 150 A) (zB:Szp 150 B):SMz u v s t x y (-s * C.1 - t * C.2) (v * C.1 - u * C.2) q:=by
 have zu:Sz 151 u:=by rw [h.L.hu]; exact ((L2.Sz.sub' zA.1 zC.1).mono (by decide):Sz 151 _).ediv
 have zv:Sz 151 v:=by rw [h.L.hv]; exact ((L2.Sz.sub' zA.2 zC.2).mono (by decide):Sz 151 _).ediv
 obtain ⟨_,zs,zt⟩:=jG h.L.G1 zu zv
 have ze:Sz 462 (-s * C.1 - t * C.2):=(L2.Sz.sub' (L2.Sz.mul (L2.Sz.neg zs) zC.1) (L2.Sz.mul zt zC.2)).mono (by decide)
 have zf:Sz 303 (v * C.1 - u * C.2):=(L2.Sz.sub' (L2.Sz.mul zv zC.1) (L2.Sz.mul zu zC.2)).mono (by decide)
 have zx:Sz 465 x:=by rw [h.hx]; exact (L2.Sz.add' (L2.Sz.add' (L2.Sz.mul zs zB.1) (L2.Sz.mul zt zB.2)) ze).mono (by decide)
 have zy:Sz 305 y:=by rw [h.hy]; exact (L2.Sz.add' (L2.Sz.add' (L2.Sz.mul (L2.Sz.neg zv) zB.1) (L2.Sz.mul zu zB.2)) zf).mono (by decide)
 exact ⟨zu,zv,zs.mono (by decide),zt.mono (by decide),ze,zf,zx,zy,by rw [h.hq]; exact zx.ediv⟩
theorem SM.k1 (h:SM C A B a b c d e f g u v s t s1 t1 k q x y):Sz 1 k:=by
 rcases h.hk with ⟨z,_⟩ | ⟨z,_⟩ <;> rw [z] <;> decide
theorem SM.mv (h:SM C A B a b c d e f g u v s t s1 t1 k q x y) (zC:Szp 150 C) (zA:Szp 150 A) (zB:Szp 150 B):Mv a b c d e f:=by
 have Z:=h.sz zC zA zB
 have zk:=h.k1
 refine ⟨h.stn.dt,?_,?_,?_,?_,?_,?_⟩
 ·rw [h.ea]; exact (L2.Sz.sub' Z.s (L2.Sz.mul Z.q (L2.Sz.mul zk (L2.Sz.neg Z.v)))).mono (by decide)
 ·rw [h.eb]; exact (L2.Sz.sub' Z.t (L2.Sz.mul Z.q (L2.Sz.mul zk Z.u))).mono (by decide)
 ·rw [h.ec]; exact (L2.Sz.mul zk (L2.Sz.neg Z.v)).mono (by decide)
 ·rw [h.ed]; exact (L2.Sz.mul zk Z.u).mono (by decide)
 ·rw [h.ee]; exact (L2.Sz.sub' Z.e0 (L2.Sz.mul Z.q (L2.Sz.mul zk Z.f0))).mono (by decide)
 ·rw [h.ef]; exact (L2.Sz.mul zk Z.f0).mono (by decide)
end
theorem v6 (a b c d e f:Int):beh a b c d e f 1 0 0 (-1) 0 0=mv a b (-c) (-d) e (-f):=by
 unfold beh
 rw [show (1 * a+0 * c:Int)=a by omega,show (1 * b+0 * d:Int)=b by omega,show (0 * a+-1 * c:Int)=-c by omega,show (0 * b+-1 * d:Int)=-d by omega,show (1 * e+0 * f+0:Int)=e by omega,show (0 * e+-1 * f+0:Int)=-f by omega]
theorem qq (a b c d e f q:Int):beh a b c d e f 1 (-q) 0 1 0 0=mv (a - q * c) (b - q * d) c d (e - q * f) f:=by
 unfold beh
 rw [show (1 * a+-q * c:Int)=a - q * c by grind,show (1 * b+-q * d:Int)=b - q * d by grind,show (0 * a+1 * c:Int)=c by omega,show (0 * b+1 * d:Int)=d by omega,show (1 * e+-q * f+0:Int)=e - q * f by grind,show (0 * e+1 * f+0:Int)=f by omega]
theorem vP:Mv 1 0 0 (-1) 0 0:=by
 have k:∀ {x:Int},Sz 8 x→Sz 30000 x:=fun h=> h.mono (by decide)
 exact ⟨.inr (by decide),k (by decide),k (by decide),k (by decide),k (by decide),k (by decide),k (by decide)⟩
theorem p8 {q:Int} (z:Sz 465 q):Mv 1 (-q) 0 1 0 0:=by
 have k:∀ {x:Int},Sz 8 x→Sz 30000 x:=fun h=> h.mono (by decide)
 exact ⟨.inl (by omega),k (by decide),(L2.Sz.neg z).mono (by decide),k (by decide),k (by decide),k (by decide),k (by decide)⟩
def mw:List U→Out→Prop:=fun us o=> ∃ (C A B:P2) (a b c d e f:Int),us=[pu C,pu A,pu B]∧Szp 150 C∧Szp 150 A∧Szp 150 B∧SMx C A B a b c d e f∧o=.val (mv a b c d e f)
set_option maxHeartbeats 8000000 in
theorem kZ (T:Txt K mg):bB P w K mg base (CXF P w) 6 T.a_stand T.d_stand ["corner","along","aside"] (spU K (mw)):=by
 refine bM T.F_stand dR (fun us o h=> ?_) (fun cdv A outer s H E O us o hr h=> ?_)
 ·obtain ⟨C,A,B,a,b,c,d,e,f,rfl,zC,zA,zB,⟨g,u,v,s',t,s1,t1,k,q,x,y,S⟩,rfl⟩:=h
  rfl
 obtain ⟨C,A,B,a,b,c,d,e,f,rfl,zC,zA,zB,⟨g,u,v,s',t,s1,t1,k,q,x,y,S⟩,rfl⟩:=h
 have Z:=S.sz zC zA zB
 have L:=S.L
 have e1:=L.G1
 rw [L.hu,L.hv] at e1
 have two:pO C.1 C.2 A.1 A.2:=⟨zC.1.mono (by decide),zC.2.mono (by decide),zA.1.mono (by decide),zA.2.mono (by decide)⟩
 have M0:Mv s' t (-v) u (-s' * C.1 - t * C.2) (v * C.1 - u * C.2):=⟨.inl (by have:=L.G1.eq; grind),Z.s.mono (by decide),Z.t.mono (by decide),(L2.Sz.neg Z.v).mono (by decide),Z.u.mono (by decide),Z.e0.mono (by decide),Z.f0.mono (by decide)⟩
 have b1:Sz 30000 B.1:=zB.1.mono (by decide)
 have b2:Sz 30000 B.2:=zB.2.mono (by decide)
 have hx:=S.hx
 have hy:=S.hy
 have hq:=S.hq
 have zy:=Z.y
 have zq:=Z.q
 have key:=S
 refine af (aJ (i:=3) dR.nd rfl (Or.inl rfl) (av ((qC T).mono (by decide)) hr rfl T.m_level T.F_level.kp T.b_level aB (ae (aa 0 rfl) (ae (aa 1 rfl) ao ai) ai) (.inl ⟨C.1,C.2,A.1,A.2,g,s1,t1,s',t,rfl,two,L.G,L.gn,e1,rfl⟩)) ?_)
 rw [← L.hu,← L.hv]
 rcases S.hk with ⟨hk,yp⟩ | ⟨hk,yn⟩
 ·subst hk
  refine af (dw (aS gF (aw (av ((dZ T).mono (by decide)) hr rfl T.m_moved T.F_moved.kp T.b_moved aB (ae (aa 2 rfl) (ae (aa 3 rfl) ao ai) ai) (.inl ⟨B.1,B.2,s',t,-v,u,_,_,rfl,M0,b1,b2,rfl⟩)) ag rfl rfl) ag) (decide_eq_false (show ¬ (-v * B.1+u * B.2+(v * C.1 - u * C.2) < 0) by rw [← hy]; omega)) (aY ?_))
  refine af (aJ (i:=4) dR.nd rfl (Or.inl rfl) (av ((dZ T).mono (by decide)) hr rfl T.m_moved T.F_moved.kp T.b_moved aB (ae (aa 2 rfl) (ae (aa 3 rfl) ao ai) ai) (.inl ⟨B.1,B.2,s',t,-v,u,_,_,rfl,M0,b1,b2,rfl⟩)) ?_)
  rw [← hx,← hy]
  rw [Int.one_mul] at hq
  refine af (aE (av ((gh T).mono (by decide)) hr rfl T.m_behind T.F_behind.kp T.b_behind aB (ae (aa 3 rfl) (ae (bn (aq ag (aq (dL (cW (aw (aa 4 rfl) ag rfl rfl) (aw (aa 4 rfl) ag rfl rfl) ⟨yp,zy.mono (by decide)⟩)) (aq ag (aq ag (aq ag (aq ag be aI) aI) aI) aI) ij) aI)) ao df) ai) (.inl ⟨s',t,-v,u,_,_,1,-(x / y),0,1,0,0,rfl,M0,p8 (by rw [← hq]; exact zq),rfl⟩)) ?_)
  rw [← hq]
  refine congrArg Out.val ((qq _ _ _ _ _ _ _).trans ?_)
  rw [S.ea,S.eb,S.ec,S.ed,S.ee,S.ef,Int.one_mul,Int.one_mul,Int.one_mul]
 ·subst hk
  have yy:-1 * y=-y:=by omega
  rw [yy] at hq
  have M1:Mv s' t (- -v) (-u) (-s' * C.1 - t * C.2) (-(v * C.1 - u * C.2)):=⟨.inr (by have:=L.G1.eq; grind),M0.a,M0.b,L2.Sz.neg M0.c,L2.Sz.neg M0.d,M0.e,L2.Sz.neg M0.f⟩
  refine af (cF (aS gF (aw (av ((dZ T).mono (by decide)) hr rfl T.m_moved T.F_moved.kp T.b_moved aB (ae (aa 2 rfl) (ae (aa 3 rfl) ao ai) ai) (.inl ⟨B.1,B.2,s',t,-v,u,_,_,rfl,M0,b1,b2,rfl⟩)) ag rfl rfl) ag) (decide_eq_true (show -v * B.1+u * B.2+(v * C.1 - u * C.2) < 0 by rw [← hy]; exact yn)) ?_)
  refine af (aJ (i:=3) dR.nd rfl (Or.inl rfl) (av ((gh T).mono (by decide)) hr rfl T.m_behind T.F_behind.kp T.b_behind aB (ae (aa 3 rfl) (ae (bn (aq ag (aq ag (aq ag (aq (dL ag) (aq ag (aq ag be aI) aI) ij) aI) aI) aI)) ao df) ai) (.inl ⟨s',t,-v,u,_,_,1,0,0,-1,0,0,rfl,M0,vP,(congrArg Out.val (v6 _ _ _ _ _ _)).symm⟩)) (aY ?_))
  have hy2:- -v * B.1+-u * B.2+-(v * C.1 - u * C.2)=-y:=by rw [hy]; grind
  refine af (aJ (i:=4) dR.nd rfl (Or.inl rfl) (av ((dZ T).mono (by decide)) hr rfl T.m_moved T.F_moved.kp T.b_moved aB (ae (aa 2 rfl) (ae (aa 3 rfl) ao ai) ai) (.inl ⟨B.1,B.2,s',t,- -v,-u,_,_,rfl,M1,b1,b2,rfl⟩)) ?_)
  rw [← hx,hy2]
  refine af (aE (av ((gh T).mono (by decide)) hr rfl T.m_behind T.F_behind.kp T.b_behind aB (ae (aa 3 rfl) (ae (bn (aq ag (aq (dL (cW (aw (aa 4 rfl) ag rfl rfl) (aw (aa 4 rfl) ag rfl rfl) ⟨(by omega),(L2.Sz.neg zy).mono (by decide)⟩)) (aq ag (aq ag (aq ag (aq ag be aI) aI) aI) aI) ij) aI)) ao df) ai) (.inl ⟨s',t,- -v,-u,_,_,1,-(x / -y),0,1,0,0,rfl,M1,p8 (by rw [← hq]; exact zq),rfl⟩)) ?_)
  rw [← hq]
  refine congrArg Out.val ((qq _ _ _ _ _ _ _).trans ?_)
  rw [S.ea,S.eb,S.ec,S.ed,S.ee,S.ef,show -1 * -v=- -v by omega,show -1 * u=-u by omega,show -1 * (v * C.1 - u * C.2)=-(v * C.1 - u * C.2) by omega]
end
section
variable {P:Program} {w:World} {K:PySem.W.Frag} {mg:Str→Option Value} {base:Heap}
theorem pq {l:List P2} (h:0 < l.length):dI (l.map pu) (some (-1)) none++dI (l.map pu) none (some (-1))=((List.range l.length).map fun i=> gp l (pI l.length i)).map pu:=by
 rw [lW]
 have e:dI (l.map pu) (some (-1)) none=[pu (gp l (l.length - 1))]:=by
  unfold dI HT.sIx
  have e2:l=l.dropLast++[gp l (l.length - 1)]:=by
   have hne:l≠[]:=fun z=> by rw [z] at h; simp at h
   have:=(List.dropLast_concat_getLast hne).symm
   rw [List.getLast_eq_getElem] at this
   have g:gp l (l.length - 1)=l[l.length - 1]:=by
    show l.getD (l.length - 1) (0,0)=_
    rw [List.getD_eq_getElem?_getD,List.getElem?_eq_getElem (by omega)]; rfl
   rw [g]; exact this
  have e3:((-1:Int)+((l.map pu).length:Int)).toNat=l.length - 1:=by rw [List.length_map]; omega
  simp only [show ((-1:Int) < 0)=True by simp,if_true,e3]
  rw [List.length_map,← List.map_drop]
  have e4:l.drop (l.length - 1)=[gp l (l.length - 1)]:=by
   have:=congrArg (List.drop (l.length - 1)) e2
   rw [this,List.drop_append_of_le_length (by simp),List.drop_eq_nil_of_le (by simp)]; rfl
  rw [e4]
  show List.take (l.length - (l.length - 1)) [pu (gp l (l.length - 1))]=_
  rw [show l.length - (l.length - 1)=1 by omega]; rfl
 rw [e]
 apply List.ext_getElem?
 intro i
 by_cases hi:i < l.length
 ·rw [List.map_map,List.getElem?_map,List.getElem?_range hi]
  show _=some (pu (gp l (pI l.length i)))
  rw [je hi]
  match i,hi with
  | 0,hi=> rfl
  | i+1,hi=>
   rw [if_neg (by omega)]
   show (List.map pu l.dropLast)[i]?=_
   rw [List.getElem?_map,List.getElem?_dropLast,if_pos (by omega)]
   rw [show i+1 - 1=i by omega,gq (show i < l.length by omega)]; rfl
 ·rw [List.getElem?_eq_none (by simp; omega),List.getElem?_eq_none (by simp; omega)]
theorem rG {l:List P2} (h:0 < l.length):dI (l.map pu) (some 1) none++dI (l.map pu) none (some 1)=((List.range l.length).map fun i=> gp l (nI l.length i)).map pu:=by
 rw [wv,wY]
 apply List.ext_getElem?
 intro i
 by_cases hi:i < l.length
 ·rw [List.map_map,List.getElem?_map,List.getElem?_range hi]
  show _=some (pu (gp l (nI l.length i)))
  rw [qF hi]
  by_cases k:i+1=l.length
  ·rw [if_pos k,List.getElem?_append_right (by simp; omega),List.length_drop,List.length_map,show i - (l.length - 1)=0 by omega,List.getElem?_take,if_pos (by decide),List.getElem?_map,gq h]; rfl
  ·rw [if_neg k,List.getElem?_append_left (by simp; omega),List.getElem?_drop,List.getElem?_map,show 1+i=i+1 by omega,gq (show i+1 < l.length by omega)]; rfl
 ·rw [List.getElem?_eq_none (by simp; omega),List.getElem?_eq_none (by simp; omega)]
structure Gen (l:List P2) (F G:Nat→List Int):Prop where
 n3:3≤l.length
 n64:l.length≤64
 nd:l.Nodup
 sz:∀ p∈l,Szp 150 p
 F:∀ i,i < l.length→∃ a b c d e f,F i=[a,b,c,d,e,f]∧SMx (gp l i) (gp l (pI l.length i)) (gp l (nI l.length i)) a b c d e f
 G:∀ i,i < l.length→∃ a b c d e f,G i=[a,b,c,d,e,f]∧SMx (gp l i) (gp l (nI l.length i)) (gp l (pI l.length i)) a b c d e f
def msU (n:Nat) (F G:Nat→List Int):List (List Int):=(List.range (2 * n)).map fun x=> if x % 2=0 then F (x / 2) else G (x / 2)
theorem Gen.all {l:List P2} {F G:Nat→List Int} (h:Gen l F G):All l (msU l.length F G):=by
 refine vm h.nd h.n3 F G (fun i hi=> ?_) (fun i hi=> ?_)
 ·obtain ⟨a,b,c,d,e,f,e1,g,u,v,s,t,s1,t1,k,q,x,y,S⟩:=h.F i hi
  exact ⟨a,b,c,d,e,f,e1,S.stn⟩
 ·obtain ⟨a,b,c,d,e,f,e1,g,u,v,s,t,s1,t1,k,q,x,y,S⟩:=h.G i hi
  exact ⟨a,b,c,d,e,f,e1,S.stn⟩
theorem pe (n:Nat) (F G:Nat→List Int):msU (n+1) F G=msU n F G++[F n]++[G n]:=by
 unfold msU
 rw [show 2 * (n+1)=2 * n+1+1 by omega,List.range_succ,List.range_succ,List.map_append,List.map_append]
 congr 1
 ·congr 1
  show [if 2 * n % 2=0 then F (2 * n / 2) else G (2 * n / 2)]=_
  rw [if_pos (by omega),show 2 * n / 2=n by omega]
 ·show [if (2 * n+1) % 2=0 then F ((2 * n+1) / 2) else G ((2 * n+1) / 2)]=_
  rw [if_neg (by omega),show (2 * n+1) / 2=n by omega]
theorem gQ (n:Nat) (F G:Nat→List Int):(msU n F G).length=2 * n:=by unfold msU; simp
def kz (C:Addr):List U→Out→Prop:=fun us o=> (∃ l:List P2,us=[lp l]∧l.length < 3∧o=.exc C)∨(∃ (l:List P2) (F G:Nat→List Int),us=[lp l]∧Gen l F G∧o=.new ((ST6.srtL (msU l.length F G)).map sxU))
set_option maxHeartbeats 8000000 in
theorem jm (T:Txt K mg):bB P w K mg base (CXF P w) 7 T.a_stands T.d_stands ["land"] (spU K (kz T.c_Flat)):=by
 refine bM T.F_stands di (by rintro us o (⟨l,rfl,_⟩ | ⟨l,F,G,rfl,_⟩) <;> rfl) (fun cdv A outer s H E O us o hr h=> ?_)
 rcases h with ⟨l,rfl,hl,rfl⟩ | ⟨l,F,G,rfl,W,rfl⟩
 ·refine af (cF (aS gF (au (cu rfl) rfl T.z_len PySem.boot_len (ae (aa 0 rfl) ao ai)) ag) (by rw [List.length_map]; exact decide_eq_true (by omega)) ?_)
  refine af (jL T.x_Flat rfl T.mx_Flat pT ?_)
  exact rfl
 ·have n3:=W.n3
  have n64:=W.n64
  have n0:0 < l.length:=by omega
  have q1:=pq n0
  have q2:=rG n0
  refine af (dw (aS gF (au (cu rfl) rfl T.z_len PySem.boot_len (ae (aa 0 rfl) ao ai)) ag) (by rw [List.length_map]; exact decide_eq_false (by omega)) (aY ?_))
  refine af (qE (i:=1) di.nd rfl (Or.inl rfl) (cJ be) ?_)
  refine af (sN (fun i:Nat=> [some (.val (lp l)),some (.own ((msU i F G).map sxU)),none,none,none]) (fun i j=> i=j) rfl PassesOwn.leaving (vO rfl T.z_zip (EvN.ev (nH (EvN.ev (dF (aa 0 rfl) (d7 (dL ag)) fQ (.inl rfl))) (EvN.ev (dF (aa 0 rfl) fQ (d7 (dL ag)) (.inl rfl))) (by rw [← List.length_append,q1]; simp; exact Nat.le_of_lt (br (by omega))))) (.inl rfl) (aa 0 rfl) (.inl rfl) (EvN.ev (nH (EvN.ev (dF (aa 0 rfl) (d7 ag) fQ (.inl rfl))) (EvN.ev (dF (aa 0 rfl) fQ (d7 ag) (.inl rfl))) (by rw [← List.length_append,q2]; simp; exact Nat.le_of_lt (br (by omega))))) (.inl rfl) (by rw [q1]; simp) (by rw [q1,q2]; simp) aZ ai aZ) ?h0 ?hs ?hd)
  case h0=> exact ⟨0,rfl,rfl,rfl,trivial⟩
  case hs=>
   rintro H0 i x _ hx rfl
   rw [q1,q2] at hx
   have hi:i < l.length:=by
    have:=aM hx
    rwa [eT (by simp) (by simp),List.length_map,List.length_map,List.length_range] at this
   have at1:∀ (f:Nat→P2),(((List.range l.length).map f).map pu)[i]?=some (pu (f i)):=fun f=> by rw [List.map_map,List.getElem?_map,List.getElem?_range hi]; rfl
   have at2:(l.map pu)[i]?=some (pu (gp l i)):=by rw [List.getElem?_map,gq hi]; rfl
   rw [iG (at1 _) at2 (at1 _)] at hx
   cases hx
   have zc:=W.sz _ (gm hi)
   have zp:=W.sz _ (gm (nP hi))
   have zn:=W.sz _ (gm (mM hi))
   obtain ⟨a,b,c,d,e,f,eF,SF⟩:=W.F i hi
   obtain ⟨a',b',c',d',e',f',eG,SG⟩:=W.G i hi
   refine ⟨_,(nN [2,3,4] rfl (cr (bK (i:=2) di.nd rfl (Or.inl rfl)) (cr (bK (i:=3) di.nd rfl (Or.inl rfl)) (cr (bK (i:=4) di.nd rfl (Or.inl rfl)) gX))) rfl),?_⟩
   refine af (fF 1 rfl (av ((kZ T).mono (by decide)) hr rfl T.m_stand T.F_stand.kp T.b_stand aB (ae (aa 3 rfl) (ae (aa 2 rfl) (ae (aa 4 rfl) ao ai) ai) ai) ⟨_,_,_,a,b,c,d,e,f,rfl,zc,zp,zn,SF,rfl⟩) (by rw [List.length_map,gQ]; exact br (by omega)) ?_)
   refine af (fF 1 rfl (av ((kZ T).mono (by decide)) hr rfl T.m_stand T.F_stand.kp T.b_stand aB (ae (aa 3 rfl) (ae (aa 4 rfl) (ae (aa 2 rfl) ao ai) ai) ai) ⟨_,_,_,a',b',c',d',e',f',rfl,zc,zn,zp,SG,rfl⟩) (by rw [List.length_append,List.length_map,gQ]; exact br (by simp; omega)) (aY ?_))
   refine ⟨i+1,rfl,rfl,?_,trivial⟩
   refine congrArg (fun z=> some (Sl.own z)) ?_
   rw [pe,List.map_append,List.map_append,eF,eG]; rfl
  case hd=>
   rintro q ps hq hps
   refine dU ?_ hps
   have:q=l.length:=by rw [← hq,q1,q2,eT (by simp) (by simp)]; simp
   subst this
   have A:=W.all
   refine my 1 rfl ?_
   refine af (vi (tM rfl T.z_sorted (aa 1 rfl) ⟨by rw [gQ]; omega,A.nodup,A.six⟩ ai) ?_)
   exact rfl
end
section
variable {P:Program} {w:World} {K:PySem.W.Frag} {mg:Str→Option Value} {base:Heap}
def cel (ns:List Int) (k:Int):Int:=if k < (ns.length:Int) then ns.getD k.toNat 0 else 0
theorem lQ {ns:List Int} (h:∀ m∈ns,Sz 1048576 m) (k:Int):Sz 1048576 (cel ns k):=by
 unfold cel
 split
 ·exact jW h _
 ·exact Sz.mono (m:=8) (by decide) (by decide)
def oz:List U→Out→Prop:=fun us o=> ∃ (ns:List Int) (k:Int),us=[.scr (ns.map U.int),.int k]∧0≤k∧o=.val (.int (cel ns k))
set_option maxHeartbeats 8000000 in
theorem aX (T:Txt K mg):bB P w K mg base (CXF P w) 1 T.a__law_cell_at T.d__law_cell_at ["script","k"] (spU K (oz)):=by
 refine bM T.F__law_cell_at gD (fun us o h=> ?_) (fun cdv A outer s H E O us o hr h=> ?_)
 ·obtain ⟨ns,k,rfl,h0,rfl⟩:=h
  rfl
 obtain ⟨ns,k,rfl,h0,rfl⟩:=h
 refine Ws.nox ?_
 have hm:((ns.map U.int).length:Int)=(ns.length:Int):=by rw [List.length_map]
 refine af (gJ (aS gF (aa 1 rfl) (au (cu rfl) rfl T.z_len PySem.boot_len (ae (aa 0 rfl) ao ai))) (fun hT=> ?_) (fun hF=> (aY ?_)))
 ·rw [hm] at hT
  have hk:=dTb hT
  refine af (aE (aw (aa 0 rfl) (aa 1 rfl) rfl (rR h0 hk)) ?_)
  exact vIO (by unfold cel; rw [if_pos hk])
 ·rw [hm] at hF
  have hk:=dFb hF
  refine af (aE ag ?_)
  exact vIO (by unfold cel; rw [if_neg hk])
def tu:List U→Out→Prop:=fun us o=> ∃ n:Int,us=[.int n]∧o=.val (.bl true)
set_option maxHeartbeats 8000000 in
theorem iP (T:Txt K mg):bB P w K mg base (CXF P w) 1 T.a__law_whole T.d__law_whole ["found"] (spU K (tu)):=by
 refine bM T.F__law_whole iQ (fun us o h=> ?_) (fun cdv A outer s H E O us o hr h=> ?_)
 ·obtain ⟨n,rfl,rfl⟩:=h
  rfl
 obtain ⟨n,rfl,rfl⟩:=h
 refine Ws.nox ?_
 refine af (aE (e8 (au (ay (by intro _ h; cases h) (by walk_at "kit")) rfl T.z_isinstance boot_isinstance (ae (aa 0 rfl) (ae (cm rfl T.z_int boot_int) ao ai) ai)) (fun hz=> (e9 (fK (au (ay (by intro _ h; cases h) (by walk_at "kit")) rfl T.z_isinstance boot_isinstance (ae (aa 0 rfl) (ae (cm rfl T.z_bool boot_bool) ao ai) ai)))))) ?_)
 exact rfl
def lM:List U→Out→Prop:=fun us o=> ∃ P Q R:P2,us=[pu P,pu Q,pu R]∧Szp 5000 P∧Szp 5000 Q∧Szp 5000 R∧o=.val (.int (aP P Q R))
set_option maxHeartbeats 8000000 in
theorem iK (T:Txt K mg):bB P w K mg base (CXF P w) 1 T.a__law_cross T.d__law_cross ["one","two","three"] (spU K (lM)):=by
 refine bM T.F__law_cross eY (fun us o h=> ?_) (fun cdv A outer s H E O us o hr h=> ?_)
 ·obtain ⟨P,Q,R,rfl,⟨p1,p2⟩,⟨q1,q2⟩,⟨r1,r2⟩,rfl⟩:=h
  rfl
 obtain ⟨P,Q,R,rfl,⟨p1,p2⟩,⟨q1,q2⟩,⟨r1,r2⟩,rfl⟩:=h
 refine Ws.nox ?_
 refine af (aJ (i:=3) eY.nd rfl (Or.inl rfl) (bD (bN (aw (aa 1 rfl) ag rfl rfl) (aw (aa 0 rfl) ag rfl rfl)) (bN (aw (aa 2 rfl) ag rfl rfl) (aw (aa 0 rfl) ag rfl rfl)) (by walk_at "mul")) ?_)
 refine af (aE (bN (aa 3 rfl) (bD (bN (aw (aa 1 rfl) ag rfl rfl) (aw (aa 0 rfl) ag rfl rfl)) (bN (aw (aa 2 rfl) ag rfl rfl) (aw (aa 0 rfl) ag rfl rfl)) (by walk_at "mul"))) ?_)
 exact rfl
theorem uN {m:Nat} {pts:List P2} (h:∀ p∈pts,Szp m p):∀ p∈ST.srt pts,Szp m p:=fun p hp=> h p ((ST.srt_mem p pts).mp hp)
theorem io (row:List P2):(am row).length≤row.length:=by
 have:=gl row row.length
 rwa [List.take_length] at this
theorem qr {pts:List P2} (h:(ST.srt pts).length=2):aG pts=ST.srt pts:=by
 match e:ST.srt pts,h with
 | [a,b],_=>
  unfold aG
  rw [e]
  simp [am,bu]
def fG (row:List P2) (j:Nat):List P2:=if j=0 then [] else if j=1 then (am row).reverse.dropLast else (am row).reverse.dropLast++(am row.reverse).reverse.dropLast
def e7:List U→Out→Prop:=fun us o=> ∃ pts:List P2,us=[lp pts]∧(∀ p∈pts,Szp 5000 p)∧pts.length < 64∧o=.val (lp (aG pts))
set_option maxHeartbeats 8000000 in
theorem cI (T:Txt K mg):bB P w K mg base (CXF P w) 2 T.a__law_corners T.d__law_corners ["points"] (spU K (e7)):=by
 refine bM T.F__law_corners bg (fun us o h=> ?_) (fun cdv A outer s H E O us o hr h=> ?_)
 ·obtain ⟨pts,rfl,sz,hl,rfl⟩:=h
  rfl
 obtain ⟨pts,rfl,sz,hl,rfl⟩:=h
 refine Ws.nox ?_
 have sl:=ST.srt_len pts
 have hms:(((ST.srt pts).map pu).length:Int)=((ST.srt pts).length:Int):=by rw [List.length_map]
 have szs:=uN sz
 have b1:=io (ST.srt pts)
 have b2:=io (ST.srt pts).reverse
 rw [List.length_reverse] at b2
 refine af (aJ (i:=1) bg.nd rfl (Or.inl rfl) (EvN.ev (oo rfl (kW hr) rfl T.z_sorted rfl T.z_set (aa 0 rfl) hl ai)) ?_)
 by_cases h1:(ST.srt pts).length < 3
 ·have ec:aG pts=ST.srt pts:=by
   by_cases h2:(ST.srt pts).length=2
   ·exact qr h2
   ·exact ik (by omega)
  refine af (cF (aS gF (au (cu rfl) rfl T.z_len PySem.boot_len (ae (aa 1 rfl) ao ai)) ag) (by rw [hms]; exact decide_eq_true (by omega)) ?_)
  refine af (aE (aa 1 rfl) ?_)
  rw [ec]
 ·have ec:aG pts=fG (ST.srt pts) 2:=by unfold aG fG; rw [if_neg (by omega)]; rfl
  rw [ec]
  refine af (dw (aS gF (au (cu rfl) rfl T.z_len PySem.boot_len (ae (aa 1 rfl) ao ai)) ag) (by rw [hms]; exact decide_eq_false (by omega)) (aY ?_))
  generalize ST.srt pts=row at *
  refine af (aJ (i:=2) bg.nd rfl (Or.inl rfl) (EvN.ev (cJ be)) ?_)
  refine af (fk (fun j:Nat=> [some (.val (lp pts)),some (.val (lp row)),some (.val (lp (fG row j))),none,none,none]) (fun i j=> i=j) rfl PassesOwn.never (fh (EvN.ev (cJ (aq (aa 1 rfl) (aq (EvN.ev (nV rfl rfl T.z_list rfl T.z_reversed (aa 1 rfl) ai)) be cB) ai))) (.inl rfl)) ?h0 ?hs ?hd)
  case h0=> exact ⟨0,rfl,rfl,rfl,rfl,trivial⟩
  case hs=>
   rintro H0 j x _ hx rfl
   have hz:∃ w:List P2,x=lp w∧(∀ p∈w,Szp 5000 p)∧w.length≤63∧fG row (j+1)=fG row j++(am w).reverse.dropLast∧(fG row j).length≤63:=by
    match j,hx with
    | 0,hx=>
     cases hx
     exact ⟨row,rfl,szs,by omega,by simp [fG],by simp [fG]⟩
    | 1,hx=>
     have e:x=U.lst ((row.map pu).reverse):=by cases hx; rfl
     subst e
     exact ⟨row.reverse,by rw [lp,List.map_reverse],fun p hp=> szs p (List.mem_reverse.mp hp),by rw [List.length_reverse]; omega,by simp [fG],by simp [fG]; omega⟩
    | j+2,hx=> simp at hx
   obtain ⟨w,rfl,wz,wl,hacc,hal⟩:=hz
   refine ⟨_,(fS (i:=3) bg.nd rfl (Or.inl rfl)),?_⟩
   have bw:=io w
   refine af (qE (i:=4) bg.nd rfl (Or.inl rfl) (cJ be) ?_)
   refine jV (fun ps=> SubP [some (.val (lp pts)),some (.val (lp row)),some (.val (lp (fG row j))),some (.val (lp w)),some (.own ((am w).reverse.map pu)),none] ps) (fk (fun st:List P2=> [some (.val (lp pts)),some (.val (lp row)),some (.val (lp (fG row j))),some (.val (lp w)),some (.own (st.reverse.map pu)),none]) (fun i st=> st=am (w.take i)) rfl PassesOwn.never (fh (aa 3 rfl) (.inl rfl)) ?h02 ?hs2 ?hd2) ?hj
   case h02=> exact ⟨[],rfl,rfl,rfl,rfl,rfl,rfl,trivial⟩
   case hs2=>
    rintro H0 i x _ hx rfl
    obtain ⟨P,hP,mP,rfl⟩:=wn hx
    have hi:i < w.length:=aM hP
    have sP:=wz P mP
    refine ⟨_,(fS (i:=5) bg.nd rfl (Or.inl rfl)),?_⟩
    have len0:=gl w i
    refine jV (fun ps=> SubP [some (.val (lp pts)),some (.val (lp row)),some (.val (lp (fG row j))),some (.val (lp w)),some (.own ((bu P (am (w.take i))).reverse.map pu)),some (.val (pu P))] ps) (kU (fun s2:List P2=> [some (.val (lp pts)),some (.val (lp row)),some (.val (lp (fG row j))),some (.val (lp w)),some (.own (s2.reverse.map pu)),some (.val (pu P))]) (fun m s2=> m=s2.length∧bu P s2=bu P (am (w.take i))∧(∀ p∈s2,p∈w)∧s2.length≤i) PassesOwn.never ?h03 ?hs3) ?hj3
    case h03=> exact ⟨_,_,⟨rfl,rfl,fun q hq=> eJ w i q hq,len0⟩,rfl,rfl,rfl,rfl,rfl,rfl,trivial⟩
    case hs3=>
     rintro m s2 ⟨rfl,e2,sub,len2⟩
     match s2,e2,sub,len2 with
     | [],e2,sub,len2=>
      refine ⟨false,?_,fun h=> (nomatch h),fun h ps hps=> e2 ▸ hps⟩
      exact (Tw.t (lF (aS n_ (lP 4 rfl rfl T.z_len) ag) rfl))
     | [b],e2,sub,len2=>
      refine ⟨false,?_,fun h=> (nomatch h),fun h ps hps=> e2 ▸ hps⟩
      exact (Tw.t (lF (aS n_ (lP 4 rfl rfl T.z_len) ag) rfl))
     | b::a::r,e2,sub,len2=>
      have sa:=wz a (sub a (by simp))
      have sb:=wz b (sub b (by simp))
      have e1:decide ((1:Int) < ((((b::a::r).reverse.map pu).length:Nat):Int))=true:=decide_eq_true (by simp; omega)
      refine ⟨decide ((1:Int) < ((((b::a::r).reverse.map pu).length:Nat):Int)) && decide (aP a b P≤0),?_,fun h=> ?_,fun h ps hps=> ?_⟩
      ·exact (Tw.t (e_ (aS n_ (lP 4 rfl rfl T.z_len) ag) (fun hz=> (iD (aS v3 (av ((iK T).mono (by decide)) hr rfl T.m__law_cross T.F__law_cross.kp T.b__law_cross aB (ae (uj 4 rfl (dL ag) (wO b a r)) (ae (uj 4 rfl (dL ag) (wx b (a::r))) (ae (aa 5 rfl) ao ai) bW) bW) ⟨a,b,P,rfl,sa,sb,sP,rfl⟩) ag)))))
      ·rw [e1,Bool.true_and] at h
       have hd:=dTb h
       refine af (wc 4 rfl (by simp) (aY ?_))
       refine ⟨_,a::r,?_,⟨rfl,?_,fun q hq=> sub q (List.mem_cons_of_mem _ hq),?_⟩,rfl,rfl,rfl,rfl,?_,rfl,trivial⟩
       ·simp
       ·rw [← e2]; conv=> rhs; unfold bu
        rw [if_pos hd]
       ·simp only [List.length_cons] at *; omega
       ·exact congrArg (fun l=> some (Sl.own l)) (by simp)
      ·rw [e1,Bool.true_and] at h
       have hd:=dFb h
       have e3:bu P (b::a::r)=b::a::r:=by conv=> lhs; unfold bu
                                          rw [if_neg hd]
       rw [← e2,e3]
       exact hps
    case hj3=>
     intro ps hps
     refine dU ?_ hps
     have e4:=fq hP
     have len3:=jC P (am (w.take i))
     refine af (fF 4 rfl (aa 5 rfl) (by rw [List.length_map,List.length_reverse]; exact br (by omega)) (aY ?_))
     refine ⟨_,rfl,rfl,rfl,rfl,rfl,?_,trivial⟩
     exact congrArg (fun l=> some (Sl.own l)) (by rw [e4]; simp)
   case hd2=>
    rintro st ps hst hps
    rw [hst] at hps
    rw [List.length_map,List.take_length] at hps
    exact hps
   case hj=>
    intro ps hps
    refine dU ?_ hps
    refine my 4 rfl ?_
    refine af (aJ (i:=2) bg.nd rfl (Or.inl rfl) (EvN.ev (nH (aa 2 rfl) (EvN.ev (dF (aa 4 rfl) fQ (d7 (dL ag)) (.inl rfl))) (by rw [lW,List.length_map,List.length_map,List.length_dropLast,List.length_reverse]; exact Nat.le_of_lt (br (by omega))))) (aY ?_))
    rw [lW,← List.map_append,← hacc]
    exact ⟨j+1,rfl,rfl,rfl,rfl,trivial⟩
  case hd=>
   rintro q ps hq hps
   refine dU ?_ hps
   have:q=2:=by rw [← hq]; rfl
   subst this
   refine af (aE (aa 2 rfl) ?_)
   exact rfl
end
section
variable {P:Program} {w:World} {K:PySem.W.Frag} {mg:Str→Option Value} {base:Heap}
theorem Szp.mono {m n:Nat} {p:P2} (h:Szp m p) (le:m≤n):Szp n p:=⟨h.1.mono le,h.2.mono le⟩
theorem pD {l:List P2} {k:Int} {i:Nat} (e:k=(i:Int)) (h:i < l.length):atI (l.map pu) k=some (pu (gp l i)):=jF e (by rw [List.getElem?_map,gq h]; rfl)
theorem s_ {l:List P2} (h:0 < l.length):atI (l.map pu) (-1)=some (pu (gp l (l.length - 1))):=by
 have e:ixN (l.map pu).length (-1)=some (l.length - 1):=by
  unfold ixN
  rw [List.length_map]
  simp
  omega
 unfold atI
 rw [e]
 show (l.map pu)[l.length - 1]?=_
 rw [List.getElem?_map,gq (by omega)]; rfl
theorem v_ {l:List P2} {j:Nat} (h:j < l.length):atI (l.map pu) ((0+(j:Int)) - 1)=some (pu (gp l (pI l.length j))):=by
 rw [je h]
 by_cases h0:j=0
 ·subst h0
  rw [if_pos rfl]
  exact s_ h
 ·rw [if_neg h0]
  exact pD (by omega) (by omega)
def lnF (c:Int) (b:Bool):Int:=if b=true then c % 9 - 4 else c % (2 * 10 ^ (20:Int).toNat+1) - 10 ^ (20:Int).toNat
theorem fT (c:Int) (b:Bool):Sz 67 (lnF c b):=by
 unfold lnF
 split
 ·exact Sz.mono (m:=8) (by unfold Sz; omega) (by decide)
 ·have h1:=Int.emod_nonneg c (show (2 * 10 ^ (20:Int).toNat+1:Int)≠0 by decide+kernel)
  have h2:=Int.emod_lt_of_pos c (show (0:Int) < 2 * 10 ^ (20:Int).toNat+1 by decide+kernel)
  have z:Sz 67 ((10:Int) ^ (20:Int).toNat):=by decide+kernel
  exact z.natle (by omega)
def oG:List U→Out→Prop:=fun us o=> ∃ (c:Int) (b:Bool),us=[.int c,.bl b]∧Sz 1048576 c∧o=.val (.int (lnF c b))
set_option maxHeartbeats 8000000 in
theorem cN (T:Txt K mg):bB P w K mg base (CXF P w) 1 T.a__law_lean T.d__law_lean ["cell","small"] (spU K (oG)):=by
 refine bM T.F__law_lean ka (fun us o h=> ?_) (fun cdv A outer s H E O us o hr h=> ?_)
 ·obtain ⟨c,b,rfl,sc,rfl⟩:=h
  rfl
 obtain ⟨c,b,rfl,sc,rfl⟩:=h
 refine Ws.nox ?_
 unfold lnF
 cases b with
 | true=>
  refine af (cF (cM (aa 1 rfl)) rfl ?_)
  refine af (aE (bN (bH (aa 0 rfl) ag (by walk_at "mod")) ag) ?_)
  exact rfl
 | false=>
  refine af (dw (cM (aa 1 rfl)) rfl (aY ?_))
  refine af (aE (bN (bH (aa 0 rfl) (bY (bD ag (jn ag ag ⟨by decide,by decide,by decide⟩) (by walk_at "mul")) ag) (by decide+kernel)) (jn ag ag ⟨by decide,by decide,by decide⟩)) ?_)
  exact rfl
def shp (ns:List Int):Int:=cel ns 0 / 147
def lA (ns:List Int):Int:=lnF (cel ns 1) (decide (shp ns / 2 % 2=1))
def lB (ns:List Int):Int:=lnF (cel ns 2) (decide (shp ns / 4 % 2=1))
def sR (ns:List Int):Int:=cel ns 3 % (2 * 10 ^ (40:Int).toNat+1) - 10 ^ (40:Int).toNat
def sU (ns:List Int):Int:=cel ns 4 % (2 * 10 ^ (40:Int).toNat+1) - 10 ^ (40:Int).toNat
def swF (ns:List Int) (p:P2):P2:=if shp ns % 2=1 then (p.2,p.1) else p
def yF (ns:List Int) (p:P2):Int:=(swF ns p).2+lA ns * (swF ns p).1
def putF (ns:List Int) (p:P2):P2:=((swF ns p).1+lB ns * yF ns p+sR ns,yF ns p+sU ns)
theorem s40 (c:Int):Sz 134 (c % (2 * 10 ^ (40:Int).toNat+1) - 10 ^ (40:Int).toNat):=by
 have h1:=Int.emod_nonneg c (show (2 * 10 ^ (40:Int).toNat+1:Int)≠0 by decide+kernel)
 have h2:=Int.emod_lt_of_pos c (show (0:Int) < 2 * 10 ^ (40:Int).toNat+1 by decide+kernel)
 have z:Sz 134 ((10:Int) ^ (40:Int).toNat):=by decide+kernel
 exact z.natle (by omega)
theorem nw {ns:List Int} {p:P2} (h:Szp 10 p):Szp 10 (swF ns p):=by
 unfold swF
 split
 ·exact ⟨h.2,h.1⟩
 ·exact h
theorem p7 {ns:List Int} {p:P2} (h:Szp 10 p):Sz 78 (yF ns p):=(L2.Sz.add' ((nw (ns:=ns) h).2.mono (n:=77) (by decide)) (L2.Sz.mul (fT _ _) (nw (ns:=ns) h).1)).mono (by decide)
theorem qT {ns:List Int} {p:P2} (h:Szp 10 p):Szp 150 (putF ns p):=
 ⟨(L2.Sz.add' (L2.Sz.add' ((nw (ns:=ns) h).1.mono (n:=145) (by decide)) (L2.Sz.mul (fT _ _) (p7 h))) ((s40 _).mono (n:=146) (by decide))).mono (by decide),(L2.Sz.add' ((p7 h).mono (n:=134) (by decide)) (s40 _)).mono (by decide)⟩
def rg:List U→Out→Prop:=fun us o=> ∃ (p:P2) (ns:List Int),us=[pu p,.scr (ns.map U.int)]∧(∀ m∈ns,Sz 1048576 m)∧Szp 10 p∧o=.val (pu (putF ns p))
set_option maxHeartbeats 8000000 in
theorem gs (T:Txt K mg):bB P w K mg base (CXF P w) 2 T.a__law_put T.d__law_put ["spot","script"] (spU K (rg)):=by
 refine bM T.F__law_put bA (fun us o h=> ?_) (fun cdv A outer s H E O us o hr h=> ?_)
 ·obtain ⟨p,ns,rfl,hB,sp,rfl⟩:=h
  rfl
 obtain ⟨p,ns,rfl,hB,sp,rfl⟩:=h
 refine Ws.nox ?_
 have c1:=lQ hB 1
 have c2:=lQ hB 2
 have w:=nw (ns:=ns) sp
 have w1:=w.1
 have w2:=w.2
 have yz:=p7 (ns:=ns) sp
 have az:Sz 67 (lA ns):=fT _ _
 have bz:Sz 67 (lB ns):=fT _ _
 refine af (wU (aa 0 rfl) (nN [2,3] rfl (cr (bK (i:=2) bA.nd rfl (Or.inl rfl)) (cr (bK (i:=3) bA.nd rfl (Or.inl rfl)) gX)) rfl) ?_)
 refine af (aJ (i:=4) bA.nd rfl (Or.inl rfl) (cW (av ((aX T).mono (by decide)) hr rfl T.m__law_cell_at T.F__law_cell_at.kp T.b__law_cell_at aB (ae (aa 1 rfl) (ae ag ao aI) ai) ⟨ns,_,rfl,by decide,rfl⟩) ag (by walk_at "div")) ?_)
 rw [show cel ns 0 / 147=shp ns from rfl]
 refine jV (fun ps=> SubP [some (.val (pu p)),some (.val (.scr (ns.map U.int))),some (.val (.int (swF ns p).1)),some (.val (.int (swF ns p).2)),some (.val (.int (shp ns))),none,none] ps) (gJ (aS cL (bH (aa 4 rfl) ag (by walk_at "mod")) ag) (fun hT=> ?_) (fun hF=> (aY ?_))) ?hj
 ·have e:swF ns p=(p.2,p.1):=by unfold swF; rw [if_pos (dTb hT)]
  refine af (wV (i:=2) (j:=3) rfl bA.nd rfl rfl (by decide) rfl rfl (ae (aa 3 rfl) (ae (aa 2 rfl) ao ai) ai) rfl (aY ?_))
  rw [e]
  exact ⟨rfl,rfl,rfl,rfl,rfl,trivial⟩
 ·have e:swF ns p=p:=by unfold swF; rw [if_neg (dFb hF)]
  rw [e]
  exact ⟨rfl,rfl,rfl,rfl,rfl,trivial⟩
 case hj=>
  intro ps hps
  refine dU ?_ hps
  refine af (aJ (i:=3) bA.nd rfl (Or.inl rfl) (bY (aa 3 rfl) (bD (av ((cN T).mono (by decide)) hr rfl T.m__law_lean T.F__law_lean.kp T.b__law_lean aB (ae (av ((aX T).mono (by decide)) hr rfl T.m__law_cell_at T.F__law_cell_at.kp T.b__law_cell_at aB (ae (aa 1 rfl) (ae ag ao aI) ai) ⟨ns,_,rfl,by decide,rfl⟩) (ae (jf cL (bH (cW (aa 4 rfl) ag (by walk_at "div")) ag (by walk_at "mod")) ag) ao pL) cB) ⟨_,_,rfl,c1,rfl⟩) (aa 2 rfl) (L2.Sz.ok az w1 (by decide)))) ?_)
  refine af (aJ (i:=2) bA.nd rfl (Or.inl rfl) (bY (aa 2 rfl) (bD (av ((cN T).mono (by decide)) hr rfl T.m__law_lean T.F__law_lean.kp T.b__law_lean aB (ae (av ((aX T).mono (by decide)) hr rfl T.m__law_cell_at T.F__law_cell_at.kp T.b__law_cell_at aB (ae (aa 1 rfl) (ae ag ao aI) ai) ⟨ns,_,rfl,by decide,rfl⟩) (ae (jf cL (bH (cW (aa 4 rfl) ag (by walk_at "div")) ag (by walk_at "mod")) ag) ao pL) cB) ⟨_,_,rfl,c2,rfl⟩) (aa 3 rfl) (L2.Sz.ok bz yz (by decide)))) ?_)
  refine af (aJ (i:=5) bA.nd rfl (Or.inl rfl) (bN (bH (av ((aX T).mono (by decide)) hr rfl T.m__law_cell_at T.F__law_cell_at.kp T.b__law_cell_at aB (ae (aa 1 rfl) (ae ag ao aI) ai) ⟨ns,_,rfl,by decide,rfl⟩) (bY (bD ag (jn ag ag ⟨by decide,by decide,by decide⟩) (by walk_at "mul")) ag) (by decide+kernel)) (jn ag ag ⟨by decide,by decide,by decide⟩)) ?_)
  refine af (aJ (i:=6) bA.nd rfl (Or.inl rfl) (bN (bH (av ((aX T).mono (by decide)) hr rfl T.m__law_cell_at T.F__law_cell_at.kp T.b__law_cell_at aB (ae (aa 1 rfl) (ae ag ao aI) ai) ⟨ns,_,rfl,by decide,rfl⟩) (bY (bD ag (jn ag ag ⟨by decide,by decide,by decide⟩) (by walk_at "mul")) ag) (by decide+kernel)) (jn ag ag ⟨by decide,by decide,by decide⟩)) ?_)
  refine af (aE (bn (aq (bY (aa 2 rfl) (aa 5 rfl)) (aq (bY (aa 3 rfl) (aa 6 rfl)) be aZ) aZ)) ?_)
  exact rfl
end
section
variable {P:Program} {w:World} {K:PySem.W.Frag} {mg:Str→Option Value} {base:Heap}
theorem vT (l:List U):dI l (some 5) (some 60)=(l.drop 5).take 55:=by
 unfold dI
 rw [show HT.sIx l.length 0 (some 5)=min 5 l.length from rfl,show HT.sIx l.length l.length (some 60)=min 60 l.length from rfl]
 by_cases h5:5≤l.length
 ·rw [Nat.min_eq_left h5]
  by_cases h60:60≤l.length
  ·rw [Nat.min_eq_left h60]
  ·rw [Nat.min_eq_right (by omega),List.take_of_length_le (by simp),List.take_of_length_le (by simp; omega)]
 ·rw [List.drop_eq_nil_of_le (by omega),List.drop_eq_nil_of_le (by omega)]; simp
theorem qs (l:List U):dI l none (some 14)=l.take 14:=by
 unfold dI
 rw [show HT.sIx l.length l.length (some 14)=min 14 l.length from rfl,HT.sIx_none,List.drop_zero,Nat.sub_zero]
 by_cases h:14≤l.length
 ·rw [Nat.min_eq_left h]
 ·rw [Nat.min_eq_right (by omega),List.take_of_length_le (Nat.le_refl _),List.take_of_length_le (by omega)]
theorem mT (l:List Int):eqW (.lst (l.map U.int)) (.lst [])=decide (l=[]):=by
 cases l with
 | nil=> rfl
 | cons a l=> simp [eqW,eqWs]
def eC (ns:List Int):List Int:=if (ns.drop 5).take 55=[] then [0] else (ns.drop 5).take 55
def eW (ns:List Int):Int:=1+cel ns 0 % 7
def eH (ns:List Int):Int:=1+cel ns 0 / 7 % 7
def eK (ns:List Int):List Int:=(eC ns).take 14++[0]
def e1P (ns:List Int) (i:Nat):P2:=(lnF ((eK ns).getD (2 * i) 0) false,lnF ((eK ns).getD (2 * i+1) 0) false)
def e1L (ns:List Int) (n:Nat):List P2:=(List.range n).map (e1P ns)
def e2P (ns:List Int):List P2:=(eC ns).map fun c=> putF ns (c % 31,c % 31 * (c % 31))
def e3P (ns:List Int):List P2:=(eC ns).map fun c=> putF ns (c % eW ns,c / eW ns % eH ns)
def eN (ns:List Int):Nat:=dP 0 (((eK ns).length:Int) - 1) 2
def eP (ns:List Int):List P2:=if cel ns 0 / 49 % 3=1 then e1L ns (eN ns) else if cel ns 0 / 49 % 3=2∧cel ns 3 % 3=1 then e2P ns else e3P ns
theorem q0 {ns:List Int} (hB:∀ m∈ns,Sz 1048576 m):(eC ns).length≤55∧eC ns≠[]∧∀ c∈eC ns,Sz 1048576 c:=by
 unfold eC
 split
 ·exact ⟨by simp,by simp,fun c hc=> by simp at hc; rw [hc]; exact Sz.mono (m:=8) (by decide) (by decide)⟩
 ·rename_i h
  exact ⟨by simp; omega,h,fun c hc=> hB c (List.mem_of_mem_drop (List.mem_of_mem_take hc))⟩
theorem uq {ns:List Int} (hB:∀ m∈ns,Sz 1048576 m):(eK ns).length≤15∧1≤(eK ns).length∧∀ c∈eK ns,Sz 1048576 c:=by
 obtain ⟨_,_,h⟩:=q0 hB
 unfold eK
 refine ⟨by simp; omega,by simp,fun c hc=> ?_⟩
 rcases List.mem_append.mp hc with z | z
 ·exact h c (List.mem_of_mem_take z)
 ·rw [List.mem_singleton.mp z]; exact Sz.mono (m:=8) (by decide) (by decide)
theorem ui {ns:List Int} (hB:∀ m∈ns,Sz 1048576 m):eN ns≤7∧∀ i,i < eN ns→2 * i+1 < (eK ns).length:=by
 obtain ⟨h1,h2,_⟩:=uq hB
 unfold eN dP
 split
 ·exact ⟨by omega,fun i hi=> by omega⟩
 ·exact ⟨by omega,fun i hi=> by omega⟩
theorem nB (c:Int):Szp 10 (c % 31,c % 31 * (c % 31)):=by
 have h1:=Int.emod_nonneg c (show (31:Int)≠0 by decide)
 have h2:=Int.emod_lt_of_pos c (show (0:Int) < 31 by decide)
 have h3:0≤c % 31 * (c % 31):=Int.mul_nonneg h1 h1
 have h4:c % 31 * (c % 31)≤30 * 30:=Int.mul_le_mul (by omega) (by omega) h1 (by decide)
 constructor <;> unfold Sz <;> dsimp only <;> omega
theorem rL (ns:List Int) (c:Int):Szp 10 (c % eW ns,c / eW ns % eH ns):=by
 have w0:0 < eW ns∧eW ns≤7:=by unfold eW; omega
 have h0:0 < eH ns∧eH ns≤7:=by unfold eH; omega
 have a1:=Int.emod_nonneg c (show eW ns≠0 by omega)
 have a2:=Int.emod_lt_of_pos c w0.1
 have b1:=Int.emod_nonneg (c / eW ns) (show eH ns≠0 by omega)
 have b2:=Int.emod_lt_of_pos (c / eW ns) h0.1
 constructor <;> unfold Sz <;> dsimp only <;> omega
theorem ug {ns:List Int} (hB:∀ m∈ns,Sz 1048576 m):(eP ns).length≤55∧∀ p∈eP ns,Szp 150 p:=by
 obtain ⟨k1,_,_⟩:=q0 hB
 unfold eP
 split
 ·have:=(ui hB).1
  refine ⟨by unfold e1L; simp; omega,fun p hp=> ?_⟩
  obtain ⟨i,_,rfl⟩:=List.mem_map.mp hp
  dsimp only [e1P,Szp]
  exact ⟨(fT _ _).mono (n:=150) (by decide),(fT _ _).mono (n:=150) (by decide)⟩
 ·split
  ·refine ⟨by unfold e2P; simp; omega,fun p hp=> ?_⟩
   obtain ⟨c,_,rfl⟩:=List.mem_map.mp hp
   exact qT (nB c)
  ·refine ⟨by unfold e3P; simp; omega,fun p hp=> ?_⟩
   obtain ⟨c,_,rfl⟩:=List.mem_map.mp hp
   exact qT (rL ns c)
def o5:List U→Out→Prop:=fun us o=> ∃ ns:List Int,us=[.scr (ns.map U.int)]∧(∀ m∈ns,Sz 1048576 m)∧o=.val (lp (aG (eP ns)))
set_option maxHeartbeats 8000000 in
theorem jy (T:Txt K mg):bB P w K mg base (CXF P w) 3 T.a__law_ends T.d__law_ends ["script"] (spU K (o5)):=by
 refine bM T.F__law_ends aW (fun us o h=> ?_) (fun cdv A outer s H E O us o hr h=> ?_)
 ·obtain ⟨ns,rfl,hB,rfl⟩:=h
  rfl
 obtain ⟨ns,rfl,hB,rfl⟩:=h
 refine Ws.nox ?_
 have w0:0 < eW ns∧eW ns≤7:=by unfold eW; omega
 have h0:0 < eH ns∧eH ns≤7:=by unfold eH; omega
 have wz:Sz 9000 (eW ns):=Sz.mono (m:=8) (by unfold Sz; omega) (by decide)
 obtain ⟨k1,k2,k3⟩:=q0 hB
 obtain ⟨j1,j2,j3⟩:=uq hB
 obtain ⟨n1,n2⟩:=ui hB
 obtain ⟨p1,p2⟩:=ug hB
 have cz3:=lQ hB 3
 have cor:e7 [lp (eP ns)] (.val (lp (aG (eP ns)))):=⟨eP ns,rfl,fun p hp=> Szp.mono (p2 p hp) (by decide),by omega,rfl⟩
 refine af (aJ (i:=1) aW.nd rfl (Or.inl rfl) (av ((aX T).mono (by decide)) hr rfl T.m__law_cell_at T.F__law_cell_at.kp T.b__law_cell_at aB (ae (aa 0 rfl) (ae ag ao aI) ai) ⟨ns,_,rfl,by decide,rfl⟩) ?_)
 refine af (aJ (i:=2) aW.nd rfl (Or.inr rfl) (bY ag (bH (aa 1 rfl) ag (by walk_at "mod"))) ?_)
 refine af (aJ (i:=3) aW.nd rfl (Or.inr rfl) (bY ag (bH (cW (aa 1 rfl) ag (by walk_at "div")) ag (by walk_at "mod"))) ?_)
 rw [show 1+cel ns 0 % 7=eW ns from rfl,show 1+cel ns 0 / 7 % 7=eH ns from rfl]
 refine af (aJ (i:=4) aW.nd rfl (Or.inl rfl) (EvN.ev (dF (aa 0 rfl) (d7 ag) (d7 ag) (.inr rfl))) ?_)
 rw [vT,← List.map_drop,← List.map_take]
 refine jV (fun ps=> SubP [some (.val (.scr (ns.map U.int))),some (.val (.int (cel ns 0))),some (.val (.int (eW ns))),some (.val (.int (eH ns))),some (.val (.lst ((eC ns).map U.int))),none,none,none] ps) (gJ (aS (sj (kW hr) (kN fun _=> rfl) rfl) (aa 4 rfl) (EvN.ev (cJ be))) (fun hT=> ?_) (fun hF=> (aY ?_))) ?hj
 ·rw [mT] at hT
  have e:eC ns=[0]:=by unfold eC; rw [if_pos (dTb hT)]
  refine af (aJ (i:=4) aW.nd rfl (Or.inl rfl) (EvN.ev (cJ (aq ag be aI))) (aY ?_))
  rw [e]
  exact ⟨rfl,rfl,rfl,rfl,rfl,trivial⟩
 ·rw [mT] at hF
  have e:eC ns=(ns.drop 5).take 55:=by unfold eC; rw [if_neg (dFb hF)]
  rw [e]
  exact ⟨rfl,rfl,rfl,rfl,rfl,trivial⟩
 case hj=>
  intro ps hps
  refine dU ?_ hps
  by_cases c1:cel ns 0 / 49 % 3=1
  ·have eE:eP ns=e1L ns (eN ns):=by unfold eP; rw [if_pos c1]
   rw [eE] at cor ⊢
   refine af (cF (aS cL (bH (cW (aa 1 rfl) ag (by walk_at "div")) ag (by walk_at "mod")) ag) (decide_eq_true c1) ?_)
   refine af (aJ (i:=4) aW.nd rfl (Or.inl rfl) (EvN.ev (nH (EvN.ev (dF (aa 4 rfl) fQ (d7 ag) (.inl rfl))) (EvN.ev (cJ (aq ag be aI))) (by rw [qs]; simp; exact Nat.le_of_lt (br (by omega))))) ?_)
   rw [qs,← List.map_take,show (((eC ns).take 14).map U.int++[U.int 0])=(eK ns).map U.int from by unfold eK; rw [List.map_append]; rfl]
   have hk:(((eK ns).map U.int).length:Int)=((eK ns).length:Int):=by rw [List.length_map]
   refine af (qE (i:=5) aW.nd rfl (Or.inl rfl) (cJ be) ?_)
   refine af (fk (fun i:Nat=> [some (.val (.scr (ns.map U.int))),some (.val (.int (cel ns 0))),some (.val (.int (eW ns))),some (.val (.int (eH ns))),some (.val (.lst ((eK ns).map U.int))),some (.own ((e1L ns i).map pu)),none,none]) (fun i j=> i=j) rfl PassesOwn.never (pG rfl T.z_range (ae ag (ae (bN (au (cu rfl) rfl T.z_len PySem.boot_len (ae (aa 4 rfl) ao ai)) ag) (ae ag ao aI) aZ) aI) (by rw [hk]; omega)) ?h0 ?hs ?hd)
   case h0=> exact ⟨0,rfl,rfl,rfl,rfl,rfl,rfl,rfl,trivial⟩
   case hs=>
    rintro H0 i x _ hx rfl
    obtain ⟨hi,rfl⟩:=kq hx
    rw [hk] at hi
    have hi':=n2 i hi
    refine ⟨_,(fS (i:=6) aW.nd rfl (Or.inl rfl)),?_⟩
    have a1:atI ((eK ns).map U.int) (0+(i:Int) * 2)=some (.int ((eK ns).getD (2 * i) 0)):=jF (i:=2 * i) (by omega) (by rw [List.getElem?_map,List.getElem?_eq_getElem (by omega),List.getD_eq_getElem?_getD,List.getElem?_eq_getElem (by omega)]; rfl)
    have a2:atI ((eK ns).map U.int) (0+(i:Int) * 2+1)=some (.int ((eK ns).getD (2 * i+1) 0)):=jF (i:=2 * i+1) (by omega) (by rw [List.getElem?_map,List.getElem?_eq_getElem (by omega),List.getD_eq_getElem?_getD,List.getElem?_eq_getElem (by omega)]; rfl)
    have z1:Sz 1048576 ((eK ns).getD (2 * i) 0):=jW j3 _
    have z2:Sz 1048576 ((eK ns).getD (2 * i+1) 0):=jW j3 _
    refine af (fF 5 rfl (bn (aq (av ((cN T).mono (by decide)) hr rfl T.m__law_lean T.F__law_lean.kp T.b__law_lean aB (ae (aw (aa 4 rfl) (aa 6 rfl) rfl a1) (ae fu ao aI) bW) ⟨_,false,rfl,z1,rfl⟩) (aq (av ((cN T).mono (by decide)) hr rfl T.m__law_lean T.F__law_lean.kp T.b__law_lean aB (ae (aw (aa 4 rfl) (bY (aa 6 rfl) ag) rfl a2) (ae fu ao aI) bW) ⟨_,false,rfl,z2,rfl⟩) be cB) cB)) (by unfold e1L; simp; exact br (by omega)) (aY ?_))
    refine ⟨i+1,rfl,rfl,rfl,rfl,rfl,rfl,?_,trivial⟩
    refine congrArg (fun z=> some (Sl.own z)) ?_
    unfold e1L
    rw [List.range_succ,List.map_append,List.map_append]; rfl
   case hd=>
    rintro q ps hq hps
    refine dU ?_ hps
    have:q=eN ns:=by rw [← hq,d0,hk]; rfl
    subst this
    refine my 5 rfl ?_
    refine af (aE (av ((cI T).mono (by decide)) hr rfl T.m__law_corners T.F__law_corners.kp T.b__law_corners aB (ae (aa 5 rfl) ao ai) cor) ?_)
    exact rfl
  ·refine af (dw (aS cL (bH (cW (aa 1 rfl) ag (by walk_at "div")) ag (by walk_at "mod")) ag) (decide_eq_false c1) (aY ?_))
   by_cases c2:cel ns 0 / 49 % 3=2∧cel ns 3 % 3=1
   ·have eE:eP ns=e2P ns:=by unfold eP; rw [if_neg c1,if_pos c2]
    rw [eE] at cor ⊢
    refine af (cF (Tw.t (e_ (aS cL (bH (cW (aa 1 rfl) ag (by walk_at "div")) ag (by walk_at "mod")) ag) (fun hz=> (iD (aS cL (bH (av ((aX T).mono (by decide)) hr rfl T.m__law_cell_at T.F__law_cell_at.kp T.b__law_cell_at aB (ae (aa 0 rfl) (ae ag ao aI) ai) ⟨ns,_,rfl,by decide,rfl⟩) ag (by walk_at "mod")) ag))))) (by rw [decide_eq_true c2.1,decide_eq_true c2.2]; rfl) ?_)
    refine af (aE (av ((cI T).mono (by decide)) hr rfl T.m__law_corners T.F__law_corners.kp T.b__law_corners aB (ae (EvN.ev (mD (ys:=((e2P ns).map pu)) rfl (blk (aj bI) ["script","shape","wide","high","cells","some","k","cell"] [7] rfl rfl rfl rfl (by decide+kernel)) (fh (aa 4 rfl) (.inl rfl)) (fun _ _ _ _=> bK (i:=7) aW.nd rfl (Or.inl rfl)) (fC (by decide)) ?clen ?csz (fun _ _=> trivial) ?celt)) ao ju) cor) ?_)
    case clen=> unfold e2P; simp
    case csz=> rw [List.length_map]; exact Nat.le_of_lt (br (by omega))
    case celt=>
     intro C s' H' fp j x y hx hy
     unfold e2P at hy
     rw [List.map_map] at hy
     obtain ⟨c,_,mc,rfl,rfl⟩:=j9 hx hy
     have cz:=k3 c mc
     have sz:=nB c
     exact (av ((gs T).mono (by decide)) hr rfl T.m__law_put T.F__law_put.kp T.b__law_put aB (ae (bn (aq (bH (aa 7 rfl) ag (by walk_at "mod")) (aq (bD (bH (aa 7 rfl) ag (by walk_at "mod")) (bH (aa 7 rfl) ag (by walk_at "mod")) (L2.Sz.ok sz.1 sz.1 (by decide))) be aZ) aZ)) (ae (aa 0 rfl) ao ai) df) ⟨_,ns,rfl,hB,sz,rfl⟩)
    exact rfl
   ·have eE:eP ns=e3P ns:=by unfold eP; rw [if_neg c1,if_neg c2]
    rw [eE] at cor ⊢
    refine af (dw (Tw.t (e_ (aS cL (bH (cW (aa 1 rfl) ag (by walk_at "div")) ag (by walk_at "mod")) ag) (fun hz=> (iD (aS cL (bH (av ((aX T).mono (by decide)) hr rfl T.m__law_cell_at T.F__law_cell_at.kp T.b__law_cell_at aB (ae (aa 0 rfl) (ae ag ao aI) ai) ⟨ns,_,rfl,by decide,rfl⟩) ag (by walk_at "mod")) ag))))) (by rw [← Bool.decide_and]; exact decide_eq_false c2) (aY ?_))
    refine af (aE (av ((cI T).mono (by decide)) hr rfl T.m__law_corners T.F__law_corners.kp T.b__law_corners aB (ae (EvN.ev (mD (ys:=((e3P ns).map pu)) rfl (blk (aj bI) ["script","shape","wide","high","cells","some","k","cell"] [7] rfl rfl rfl rfl (by decide+kernel)) (fh (aa 4 rfl) (.inl rfl)) (fun _ _ _ _=> bK (i:=7) aW.nd rfl (Or.inl rfl)) (fC (by decide)) ?clen ?csz (fun _ _=> trivial) ?celt)) ao ju) cor) ?_)
    case clen=> unfold e3P; simp
    case csz=> rw [List.length_map]; exact Nat.le_of_lt (br (by omega))
    case celt=>
     intro C s' H' fp j x y hx hy
     unfold e3P at hy
     rw [List.map_map] at hy
     obtain ⟨c,_,mc,rfl,rfl⟩:=j9 hx hy
     have cz:=k3 c mc
     have sz:=rL ns c
     exact (av ((gs T).mono (by decide)) hr rfl T.m__law_put T.F__law_put.kp T.b__law_put aB (ae (bn (aq (bH (aa 7 rfl) (aa 2 rfl) w0.1) (aq (bH (cW (aa 7 rfl) (aa 2 rfl) ⟨w0.1,wz⟩) (aa 3 rfl) h0.1) be aZ) aZ)) (ae (aa 0 rfl) ao ai) df) ⟨_,ns,rfl,hB,sz,rfl⟩)
    exact rfl
end
section
variable {P:Program} {w:World} {K:PySem.W.Frag} {mg:Str→Option Value} {base:Heap}
theorem gA:bootBuiltins "ValueError"=some (.type "ValueError"):=by decide+kernel
def oj:List U→Out→Prop:=fun us o=> ∃ l:List P2,us=[lp l]∧l.length < 3∧o=.val (.bl true)
set_option maxHeartbeats 8000000 in
theorem jY (T:Txt K mg):bB P w K mg base (CXF P w) 8 T.a__law_flat T.d__law_flat ["ends"] (spU K (oj)):=by
 refine bM T.F__law_flat cO (fun us o h=> ?_) (fun cdv A outer s H E O us o hr h=> ?_)
 ·obtain ⟨l,rfl,hl,rfl⟩:=h
  rfl
 obtain ⟨l,rfl,hl,rfl⟩:=h
 refine Ws.nox ?_
 refine af (aJ (i:=1) cO.nd rfl (Or.inl rfl) (EvN.ev (cJ be)) ?_)
 refine af (o6 rfl rfl ((jm T).mono (by decide)) hr rfl T.m_stands T.F_stands.kp T.b_stands (ae (aa 0 rfl) ao ai) rfl T.mx_Flat T.ty_Flat T.bx_Flat cO.nd (i:=2) rfl rfl (.inl ⟨l,rfl,hl,rfl⟩) T.sub_Flat_Flat (T.xc_Flat) (fun ea=> ?_))
 refine af (aJ (i:=1) cO.nd rfl (Or.inl rfl) (EvN.ev (cJ (aq (uu T.kit_Flat_StakeError rfl T.z_isinstance boot_isinstance (aa 2 rfl) rfl T.mx_StakeError) (aq (au (o0 T.kit_Flat_ValueError) rfl T.z_isinstance boot_isinstance (ae (aa 2 rfl) (ae (cm rfl T.z_ValueError gA) ao ai) ai)) (aq (uu T.kit_Flat_NoMove rfl T.z_isinstance boot_isinstance (aa 2 rfl) rfl T.mx_NoMove) be cB) cB) cB))) (aY ?_))
 refine af (aE (jf (sj (kW hr) (by walk_at "ok") (by walk_at "ok")) (aa 1 rfl) (EvN.ev (cJ (aq fu (aq fu (aq fu be aI) aI) aI)))) ?_)
 exact rfl
theorem u9 {a b c d e f:Int} {i:Nat} {x:U} (h:[U.int a,.int b,.int c,.int d,.int e,.int f][i]?=some x):∃ n,x=.int n:=by
 match i,h with
 | 0,h=> exact ⟨a,by simpa using h.symm⟩
 | 1,h=> exact ⟨b,by simpa using h.symm⟩
 | 2,h=> exact ⟨c,by simpa using h.symm⟩
 | 3,h=> exact ⟨d,by simpa using h.symm⟩
 | 4,h=> exact ⟨e,by simpa using h.symm⟩
 | 5,h=> exact ⟨f,by simpa using h.symm⟩
def qV:List U→Out→Prop:=fun us o=> ∃ a b c d e f:Int,us=[mv a b c d e f]∧Mv a b c d e f∧o=.val (.bl true)
set_option maxHeartbeats 8000000 in
theorem gG (T:Txt K mg):bB P w K mg base (CXF P w) 2 T.a__law_is_move T.d__law_is_move ["move"] (spU K (qV)):=by
 refine bM T.F__law_is_move dM (fun us o h=> ?_) (fun cdv A outer s H E O us o hr h=> ?_)
 ·obtain ⟨a,b,c,d,e,f,rfl,M,rfl⟩:=h
  rfl
 obtain ⟨a,b,c,d,e,f,rfl,M,rfl⟩:=h
 refine Ws.nox ?_
 obtain ⟨hd,sa,sb,sc,sd,se,sf⟩:=M
 refine af (dw (Tw.t (qZ (cX (cM (au (ay (by intro _ h; cases h) rfl) rfl T.z_isinstance boot_isinstance (ae (aa 0 rfl) (ae (cm rfl T.z_tuple boot_tuple) ao ai) ai)))) (fun hz=> (qw (aS nT (au (cu rfl) rfl T.z_len PySem.boot_len (ae (aa 0 rfl) ao ai)) ag))))) rfl (aY ?_))
 refine af (fk (fun _:Unit=> [some (.val (mv a b c d e f)),none]) (fun _ _=> True) rfl PassesOwn.never (uF (aa 0 rfl)) ?h0 ?hs ?hd)
 case h0=> exact ⟨(),trivial,rfl,trivial⟩
 case hs=>
  rintro H0 i x _ hx _
  obtain ⟨n,rfl⟩:=u9 hx
  refine ⟨_,(fS (i:=1) dM.nd rfl (Or.inl rfl)),?_⟩
  refine af (dw (cX (cM (av ((iP T).mono (by decide)) hr rfl T.m__law_whole T.F__law_whole.kp T.b__law_whole aB (ae (aa 1 rfl) ao ai) ⟨n,rfl,rfl⟩))) rfl (aY (aY ?_)))
  exact ⟨(),trivial,rfl,trivial⟩
 case hd=>
  rintro _ ps _ hps
  refine dU ?_ hps
  refine af (aE (jf cL (au nL rfl T.z_abs PyProof.Rows.boot_abs (ae (bN (bD (aw (aa 0 rfl) ag rfl rfl) (aw (aa 0 rfl) ag rfl rfl) (by walk_at "mul")) (bD (aw (aa 0 rfl) ag rfl rfl) (aw (aa 0 rfl) ag rfl rfl) (by walk_at "mul"))) ao aZ)) ag) ?_)
  refine vB ?_
  rcases hd with h | h <;> rw [h] <;> rfl
def sZ:List U→Out→Prop:=fun us o=> ∃ (a b c d e f:Int) (p:P2),us=[mv a b c d e f,pu p]∧Mv a b c d e f∧Szp 30000 p∧o=.val (pu (ap a b c d e f p))
set_option maxHeartbeats 8000000 in
theorem me (T:Txt K mg):bB P w K mg base (CXF P w) 1 T.a__law_by T.d__law_by ["move","spot"] (spU K (sZ)):=by
 refine bM T.F__law_by ir (fun us o h=> ?_) (fun cdv A outer s H E O us o hr h=> ?_)
 ·obtain ⟨a,b,c,d,e,f,p,rfl,M,⟨s1,s2⟩,rfl⟩:=h
  rfl
 obtain ⟨a,b,c,d,e,f,p,rfl,M,⟨s1,s2⟩,rfl⟩:=h
 refine Ws.nox ?_
 obtain ⟨hd,sa,sb,sc,sd,se,sf⟩:=M
 refine af (aJ (i:=2) ir.nd rfl (Or.inl rfl) (bY (bY (bD (aw (aa 0 rfl) ag rfl rfl) (aw (aa 1 rfl) ag rfl rfl) (by walk_at "mul")) (bD (aw (aa 0 rfl) ag rfl rfl) (aw (aa 1 rfl) ag rfl rfl) (by walk_at "mul"))) (aw (aa 0 rfl) ag rfl rfl)) ?_)
 refine af (aE (bn (aq (aa 2 rfl) (aq (bY (bY (bD (aw (aa 0 rfl) ag rfl rfl) (aw (aa 1 rfl) ag rfl rfl) (by walk_at "mul")) (bD (aw (aa 0 rfl) ag rfl rfl) (aw (aa 1 rfl) ag rfl rfl) (by walk_at "mul"))) (aw (aa 0 rfl) ag rfl rfl)) be aZ) ai)) ?_)
 exact rfl
end
section
variable {P:Program} {w:World} {K:PySem.W.Frag} {mg:Str→Option Value} {base:Heap}
theorem lK (f:P2→P2) (l:List P2) {i:Nat} (h:i < l.length):gp (l.map f) i=f (gp l i):=by
 have e:(l.map f)[i]?=some (f (gp l i)):=by rw [List.getElem?_map,gq h]; rfl
 simp only [gp] at *
 rw [List.getD_eq_getElem?_getD,e]; rfl
theorem vj {n k:Nat} (h:k < n):(0+(k:Int) - 1) % (n:Int)=((pI n k:Nat):Int):=by
 rw [je h]
 by_cases h0:k=0
 ·rw [if_pos h0,h0]
  rw [show (0+((0:Nat):Int) - 1)=-1 by omega,show ((n - 1:Nat):Int)=(n:Int) - 1 by omega]
  rw [show (-1:Int)=((n:Int) - 1)+(n:Int) * (-1) by omega,Int.add_mul_emod_self_left]
  exact Int.emod_eq_of_lt (by omega) (by omega)
 ·rw [if_neg h0,show ((k - 1:Nat):Int)=0+(k:Int) - 1 by omega]
  exact Int.emod_eq_of_lt (by omega) (by omega)
theorem uW {n k:Nat}:(0+(k:Int)+1) % (n:Int)=((nI n k:Nat):Int):=by
 unfold nI
 rw [Int.natCast_emod]
 congr 1
 omega
theorem tm {n k:Nat} (h:k < n):((nI n k:Nat):Int) % (n:Int)=((nI n k:Nat):Int):=Int.emod_eq_of_lt (by omega) (by have:=mM h; omega)
theorem wQ {p q r s:Prop} [Decidable p] [Decidable q] [Decidable r] [Decidable s] (h1:p) (h2:q) (h3:r) (h4:s):(decide p && (decide q && (decide r && decide s)))=true:=by
 rw [decide_eq_true h1,decide_eq_true h2,decide_eq_true h3,decide_eq_true h4]; rfl
def nZ:List U→Out→Prop:=fun us o=> ∃ (l:List P2) (a b c d e f:Int) (i j:Nat),us=[mv a b c d e f,lp l]∧Mv a b c d e f∧(∀ p∈l,Szp 150 p)∧l.length≤60∧Pr l a b c d e f i j∧o=.val (.tup [.int (i:Int),.int (j:Int)])
set_option maxHeartbeats 8000000 in
theorem jE (T:Txt K mg):bB P w K mg base (CXF P w) 2 T.a__law_pair T.d__law_pair ["move","ends"] (spU K (nZ)):=by
 refine bM T.F__law_pair bv (fun us o h=> ?_) (fun cdv A outer s H E O us o hr h=> ?_)
 ·obtain ⟨l,a,b,c,d,e,f,i,j,rfl,M,lz,hl,P,rfl⟩:=h
  rfl
 obtain ⟨l,a,b,c,d,e,f,i,j,rfl,M,lz,hl,P,rfl⟩:=h
 refine Ws.nox ?_
 have hm:(((l.map (ap a b c d e f)).map pu).length:Int)=(l.length:Int):=by rw [List.length_map,List.length_map]
 have hq:(l.map (ap a b c d e f)).length=l.length:=List.length_map ..
 refine af (oW (ys:=((l.map (ap a b c d e f)).map pu)) (j:=2) false rfl bv.nd rfl (Or.inl rfl) (blk (aj bP) ["move","ends","some","spot","k","near","far"] [3] rfl rfl rfl rfl (by decide+kernel)) (fh (aa 1 rfl) (.inl rfl)) (fun _ _ _ _=> bK (i:=3) bv.nd rfl (Or.inl rfl)) (fC (by decide)) ?clen ?csz (fun _ _=> trivial) ?celt ?_)
 case clen=> simp
 case csz=> rw [List.length_map]; exact Nat.le_of_lt (br (by omega))
 case celt=>
  intro C s' H' fp j x y hx hy
  rw [List.map_map] at hy
  obtain ⟨p,hp,mp,rfl,rfl⟩:=j9 hx hy
  exact (av ((me T).mono (by decide)) hr rfl T.m__law_by T.F__law_by.kp T.b__law_by aB (ae (aa 0 rfl) (ae (aa 3 rfl) ao ai) ai) ⟨a,b,c,d,e,f,p,rfl,M,Szp.mono (lz p mp) (by decide),rfl⟩)
 refine af (fk (fun _:Unit=> [some (.val (mv a b c d e f)),some (.val (lp l)),some (.val (lp (l.map (ap a b c d e f)))),none,none,none,none]) (fun t _=> t≤i) rfl PassesOwn.never (kT rfl T.z_range (ae (au (cu rfl) rfl T.z_len PySem.boot_len (ae (aa 2 rfl) ao ai)) ao cB) (by rw [hm]; omega) (by rw [hm]; omega)) ?h0 ?hs ?hd)
 case h0=> exact ⟨(),Nat.zero_le _,rfl,rfl,rfl,trivial⟩
 case hs=>
  rintro H0 k x _ hx I
  obtain ⟨hk,rfl⟩:=iA hx
  have hk':k < l.length:=by rw [hm] at hk; omega
  refine ⟨_,(fS (i:=4) bv.nd rfl (Or.inl rfl)),?_⟩
  have ak:atI ((l.map (ap a b c d e f)).map pu) (0+(k:Int))=some (pu (ap a b c d e f (gp l k))):=by rw [pD (i:=k) (by omega) (by omega),lK _ _ hk']
  have hp:=nP hk'
  have hn:=mM hk'
  have ap1:atI ((l.map (ap a b c d e f)).map pu) (0+(k:Int) - 1)=some (pu (ap a b c d e f (gp l (pI l.length k)))):=by rw [v_ (by omega),hq,lK _ _ hp]
  have ap2:atI ((l.map (ap a b c d e f)).map pu) ((nI l.length k:Nat):Int)=some (pu (ap a b c d e f (gp l (nI l.length k)))):=by rw [pD rfl (by omega),lK _ _ hn]
  refine af (gJ (aS (sj (kW hr) (wg _) rfl) (aw (aa 2 rfl) (aa 4 rfl) rfl ak) (bn (aq ag (aq ag be aI) aI))) (fun hT=> ?_) (fun hF=> (aY (aY ?_))))
  ·have h0:ap a b c d e f (gp l k)=(0,0):=dTb ((lG _ (0,0)).symm.trans hT)
   have e0:=P.only hk' h0
   subst e0
   refine af (fk (fun _:Unit=> [some (.val (mv a b c d e f)),some (.val (lp l)),some (.val (lp (l.map (ap a b c d e f)))),none,some (.val (.int (0+(k:Int)))),none,none]) (fun t _=> t=0∨(t=1∧j=nI l.length k∧Stn (gp l k) (gp l (nI l.length k)) (gp l (pI l.length k)) a b c d e f)) rfl PassesOwn.never (fh (EvN.ev (cJ (aq (bn (aq (bN (aa 4 rfl) ag) (aq (bH (bY (aa 4 rfl) ag) (au (cu rfl) rfl T.z_len PySem.boot_len (ae (aa 2 rfl) ao ai)) (by rw [hm]; omega)) be aZ) aZ)) (aq (bn (aq (bH (bY (aa 4 rfl) ag) (au (cu rfl) rfl T.z_len PySem.boot_len (ae (aa 2 rfl) ao ai)) (by rw [hm]; omega)) (aq (bN (aa 4 rfl) ag) be aZ) aZ)) be df) df))) (.inl rfl)) ?h02 ?hs2 ?hd2)
   case h02=> exact ⟨(),.inl rfl,rfl,rfl,rfl,rfl,trivial⟩
   case hs2=>
    rintro H1 t x _ hx I2
    rw [hm,uW] at hx
    rcases I2 with rfl | ⟨rfl,ej,S⟩
    ·have ex:x=U.tup [.int (0+(k:Int) - 1),.int ((nI l.length k:Nat):Int)]:=by simpa using hx.symm
     subst ex
     refine ⟨_,(nN [5,6] rfl (cr (bK (i:=5) bv.nd rfl (Or.inl rfl)) (cr (bK (i:=6) bv.nd rfl (Or.inl rfl)) gX)) rfl),?_⟩
     rcases P.st with ⟨ej,S⟩ | ⟨ej,S⟩
     ·refine af (cF (Tw.t (e_ (aS cL (aw (aw (aa 2 rfl) (aa 5 rfl) rfl ap1) ag rfl rfl) ag) (fun hz=> (e_ (aS n_ (aw (aw (aa 2 rfl) (aa 5 rfl) rfl ap1) ag rfl rfl) ag) (fun hz=> (e_ (aS v3 ag (aw (aw (aa 2 rfl) (aa 6 rfl) rfl ap2) ag rfl rfl)) (fun hz=> (iD (aS gF (aw (aw (aa 2 rfl) (aa 6 rfl) rfl ap2) ag rfl rfl) (aw (aw (aa 2 rfl) (aa 6 rfl) rfl ap2) ag rfl rfl)))))))))) (wQ S.ny S.nx S.f0 S.f1) ?_)
      refine af (aE (bn (aq (aa 4 rfl) (aq (bH (aa 5 rfl) (au (cu rfl) rfl T.z_len PySem.boot_len (ae (aa 2 rfl) ao ai)) (by rw [hm]; omega)) be aZ) ai)) ?_)
      rw [hm,vj hk',ej,show (0+(k:Int))=(k:Int) by omega]
     ·refine af (dw (Tw.t (lF (aS cL (aw (aw (aa 2 rfl) (aa 5 rfl) rfl ap1) ag rfl rfl) ag) (decide_eq_false (by have h3:=S.f0; have h4:=S.f1; omega)))) rfl (aY (aY ?_)))
      exact ⟨(),.inr ⟨rfl,ej,S⟩,rfl,rfl,rfl,rfl,trivial⟩
    ·have ex:x=U.tup [.int ((nI l.length k:Nat):Int),.int (0+(k:Int) - 1)]:=by simpa using hx.symm
     subst ex
     refine ⟨_,(nN [5,6] rfl (cr (bK (i:=5) bv.nd rfl (Or.inl rfl)) (cr (bK (i:=6) bv.nd rfl (Or.inl rfl)) gX)) rfl),?_⟩
     refine af (cF (Tw.t (e_ (aS cL (aw (aw (aa 2 rfl) (aa 5 rfl) rfl ap2) ag rfl rfl) ag) (fun hz=> (e_ (aS n_ (aw (aw (aa 2 rfl) (aa 5 rfl) rfl ap2) ag rfl rfl) ag) (fun hz=> (e_ (aS v3 ag (aw (aw (aa 2 rfl) (aa 6 rfl) rfl ap1) ag rfl rfl)) (fun hz=> (iD (aS gF (aw (aw (aa 2 rfl) (aa 6 rfl) rfl ap1) ag rfl rfl) (aw (aw (aa 2 rfl) (aa 6 rfl) rfl ap1) ag rfl rfl)))))))))) (wQ S.ny S.nx S.f0 S.f1) ?_)
     refine af (aE (bn (aq (aa 4 rfl) (aq (bH (aa 5 rfl) (au (cu rfl) rfl T.z_len PySem.boot_len (ae (aa 2 rfl) ao ai)) (by rw [hm]; omega)) be aZ) ai)) ?_)
     rw [hm,tm hk',ej,show (0+(k:Int))=(k:Int) by omega]
   case hd2=>
    rintro _ ps I2 hps
    exact absurd I2 (by simp)
  ·have h0:¬ ap a b c d e f (gp l k)=(0,0):=dFb ((lG _ (0,0)).symm.trans hF)
   refine ⟨(),?_,rfl,rfl,rfl,trivial⟩
   have:k≠i:=fun z=> h0 (by rw [z]; exact P.at0)
   omega
 case hd=>
  rintro _ ps I hps
  rw [fv,hm] at I
  have:=P.hi
  exact absurd I (by omega)
end
section
variable {P:Program} {w:World} {K:PySem.W.Frag} {mg:Str→Option Value} {base:Heap}
theorem uv {ms:List (List Int)} {k:Int} {i:Nat} (e:k=(i:Int)) (h:i < ms.length):atI (ms.map sxU) k=some (sxU (ms.getD i [])):=jF e (by rw [List.getElem?_map,List.getElem?_eq_getElem h,List.getD_eq_getElem?_getD,List.getElem?_eq_getElem h]; rfl)
theorem mE {α:Type} [DecidableEq α]:∀ {l m:List α},l.Nodup→(∀ x∈l,x∈m)→l.length≤m.length
 | [],m,_,_=> Nat.zero_le _
 | a::l,m,h,s=> by
  obtain ⟨h1,h2⟩:=List.nodup_cons.mp h
  have hm:=s a (by simp)
  have e:=mE (l:=l) (m:=m.erase a) h2 fun x hx=> (List.mem_erase_of_ne (a:=x) (b:=a) (fun z=> h1 (by rw [← z]; exact hx))).mpr (s x (List.mem_cons_of_mem _ hx))
  rw [List.length_erase_of_mem hm] at e
  have:=List.length_pos_of_mem hm
  rw [List.length_cons]; omega
theorem rS {ms:List (List Int)} (nd:ms.Nodup):(ST6.srtL ms).length=ms.length:=by
 have n2:(ST6.srtL ms).Nodup:=(ST6.srtL_ascL ms).imp fun {a b} h e=> by subst e; rw [ST6.ascL_irr] at h; cases h
 exact Nat.le_antisymm (mE n2 fun x hx=> (ST6.srtL_mem x ms).mp hx) (mE nd fun x hx=> (ST6.srtL_mem x ms).mpr hx)
theorem vv {pts:List P2} (h3:3≤(aG pts).length) (hl:pts.length≤55) (hz:∀ p∈pts,Szp 150 p):∃ F G,Gen (aG pts) F G:=by
 have h2:2≤(ST.srt pts).length:=Nat.le_of_not_lt fun z=> by
  rw [ik (by omega)] at h3; omega
 have cl:=nO pts
 have nd:=iy pts
 have key:∀ i,i < (aG pts).length→∃ m m',(∃ a b c d e f,m=[a,b,c,d,e,f]∧SMx (gp (aG pts) i) (gp (aG pts) (pI (aG pts).length i)) (gp (aG pts) (nI (aG pts).length i)) a b c d e f)∧
   ∃ a b c d e f,m'=[a,b,c,d,e,f]∧SMx (gp (aG pts) i) (gp (aG pts) (nI (aG pts).length i)) (gp (aG pts) (pI (aG pts).length i)) a b c d e f:=fun i hi=> by
  have bd:=nY h3 h2 hi
  have n1:gp (aG pts) i≠gp (aG pts) (pI (aG pts).length i):=fun z=> by
   rw [← z] at bd; unfold aP at bd; rw [Int.sub_self,Int.sub_self] at bd; simp at bd
  have n2:gp (aG pts) i≠gp (aG pts) (nI (aG pts).length i):=fun z=> by
   rw [← z] at bd; unfold aP at bd
   generalize gp (aG pts) i=p at *
   generalize gp (aG pts) (pI (aG pts).length i)=q at *
   have:(p.1 - q.1) * (p.2 - q.2) - (p.2 - q.2) * (p.1 - q.1)=0:=by grind
   omega
  obtain ⟨a,b,c,d,e,f,S⟩:=uA (B:=gp (aG pts) (nI (aG pts).length i)) n1 (fun z=> by
   unfold aP at bd z; grind)
  obtain ⟨a',b',c',d',e',f',S'⟩:=uA (B:=gp (aG pts) (pI (aG pts).length i)) n2 (fun z=> by
   unfold aP at bd z; grind)
  exact ⟨_,_,⟨a,b,c,d,e,f,rfl,S⟩,a',b',c',d',e',f',rfl,S'⟩
 refine ⟨fun i=> if h:i < (aG pts).length then (key i h).choose else [],fun i=> if h:i < (aG pts).length then (key i h).choose_spec.choose else [],h3,by omega,nd,fun p hp=> hz p (kG _ p hp),fun i hi=> ?_,fun i hi=> ?_⟩
 ·rw [dif_pos hi]; exact (key i hi).choose_spec.choose_spec.1
 ·rw [dif_pos hi]; exact (key i hi).choose_spec.choose_spec.2
theorem Gen.mv {l:List P2} {F G:Nat→List Int} (W:Gen l F G) {m:List Int} (h:m∈msU l.length F G):∃ a b c d e f,m=[a,b,c,d,e,f]∧Mv a b c d e f:=by
 unfold msU at h
 obtain ⟨x,hx,rfl⟩:=List.mem_map.mp h
 have hi:x / 2 < l.length:=by have:=List.mem_range.mp hx; omega
 have zc:=W.sz _ (gm hi)
 have zp:=W.sz _ (gm (nP hi))
 have zn:=W.sz _ (gm (mM hi))
 split
 ·obtain ⟨a,b,c,d,e,f,e1,g,u,v,s,t,s1,t1,k,q,x,y,S⟩:=W.F _ hi
  exact ⟨a,b,c,d,e,f,e1,S.mv zc zp zn⟩
 ·obtain ⟨a,b,c,d,e,f,e1,g,u,v,s,t,s1,t1,k,q,x,y,S⟩:=W.G _ hi
  exact ⟨a,b,c,d,e,f,e1,S.mv zc zn zp⟩
theorem vt {a b c d:U}:∀ (i:Nat) (s:Sl),([some (.val a),some (.val b),some (.val c),some (.val d),none,none,none,none]:PSt)[i]?=some (some s)→∃ u,s=.val u
 | 0,s,h=> by cases h; exact ⟨_,rfl⟩
 | 1,s,h=> by cases h; exact ⟨_,rfl⟩
 | 2,s,h=> by cases h; exact ⟨_,rfl⟩
 | 3,s,h=> by cases h; exact ⟨_,rfl⟩
 | 4,s,h=> by cases h
 | 5,s,h=> by cases h
 | 6,s,h=> by cases h
 | 7,s,h=> by cases h
set_option maxHeartbeats 8000000 in
theorem uU (T:Txt K mg):bB P w K mg base (CXF P w) 9 T.a_law T.d_law ["script"] (spU K (fJ)):=by
 refine bM T.F_law fR (fun us o h=> ?_) (fun cdv A outer s H E O us o hr h=> ?_)
 ·obtain ⟨ns,rfl,h63,hB,rfl⟩:=h
  rfl
 obtain ⟨ns,rfl,h63,hB,rfl⟩:=h
 refine Ws.nox ?_
 obtain ⟨pl,pz⟩:=ug hB
 have cl:(aG (eP ns)).length≤55:=Nat.le_trans (nO _) pl
 have gen:=fun h=> vv (pts:=eP ns) h pl pz
 refine af (aJ (i:=1) fR.nd rfl (Or.inl rfl) (av ((jy T).mono (by decide)) hr rfl T.m__law_ends T.F__law_ends.kp T.b__law_ends aB (ae (aa 0 rfl) ao ai) ⟨ns,rfl,hB,rfl⟩) ?_)
 generalize aG (eP ns)=l at *
 have hm:((l.map pu).length:Int)=(l.length:Int):=by rw [List.length_map]
 have same:eqW (lp l) (lp l)=true:=by rw [v4]; simp
 refine af (aJ (i:=2) fR.nd rfl (Or.inl rfl) (EvN.ev (sH (uS rfl) rfl T.z_list boot_list (ae (aa 1 rfl) ao ai))) ?_)
 by_cases h3:l.length < 3
 ·refine af (cF (aS gF (au (cu rfl) rfl T.z_len PySem.boot_len (ae (aa 1 rfl) ao ai)) ag) (by rw [hm]; exact decide_eq_true (by omega)) ?_)
  refine af (aE (e8 (av ((jY T).mono (by decide)) hr rfl T.m__law_flat T.F__law_flat.kp T.b__law_flat aB (ae (aa 2 rfl) ao ai) ⟨l,rfl,h3,rfl⟩) (fun hz=> (e9 (jf (sj (kW hr) (nG _) (nG _)) (aa 2 rfl) (aa 1 rfl))))) ?_)
  refine vB ?_
  rw [same]; rfl
 ·obtain ⟨F,G,W⟩:=gen (by omega)
  have AA:=W.all
  have lz:Sz 8 ((l.map pu).length:Int):=by rw [hm]; unfold Sz; omega
  have hlen:=rS AA.nodup
  rw [gQ] at hlen
  have asc:=ST6.srtL_ascL (msU l.length F G)
  have mem:∀ m∈ST6.srtL (msU l.length F G),m∈msU l.length F G:=fun m hm=> (ST6.srtL_mem m _).mp hm
  refine af (dw (aS gF (au (cu rfl) rfl T.z_len PySem.boot_len (ae (aa 1 rfl) ao ai)) ag) (by rw [hm]; exact decide_eq_false (by omega)) (aY ?_))
  refine af (aJ (i:=3) fR.nd rfl (Or.inl rfl) (EvN.ev (v8 ((jm T).mono (by decide)) hr rfl T.m_stands T.F_stands.kp T.b_stands aB (ae (aa 2 rfl) ao ai) (.inr ⟨l,F,G,rfl,W,rfl⟩))) ?_)
  generalize hsrt:ST6.srtL (msU l.length F G)=srt at *
  have hfl:((srt.map sxU).length:Int)=2 * (l.length:Int):=by rw [List.length_map,hlen]; omega
  refine af (dw (Tw.t (qZ (cX (cM (au (ay (by intro _ h; cases h) rfl) rfl T.z_isinstance boot_isinstance (ae (aa 3 rfl) (ae (cm rfl T.z_list boot_list) ao ai) ai)))) (fun hz=> (qZ (aS nT (au (cu rfl) rfl T.z_len PySem.boot_len (ae (aa 3 rfl) ao ai)) (bD ag (au (cu rfl) rfl T.z_len PySem.boot_len (ae (aa 1 rfl) ao ai)) (L2.Sz.ok (show Sz 8 (2:Int) by decide) lz (by decide)))) (fun hz=> (qw (aS (xG (kW hr) (nG _) (nG _)) (aa 2 rfl) (aa 1 rfl)))))))) (by rw [same,hfl,hm]; simp) (aY ?_))
  show Ws _ _ _ _ _ _ [some (.val (.scr (ns.map U.int))),some (.val (lp l)),some (.val (lp l)),some (.val (.lst (srt.map sxU))),none,none,none,none]
  refine v7 (j:=4) (kk:=5) (zz:=6) (fun i=> ((pf l (srt.getD i [])).1:Int)) (fun i=> ((pf l (srt.getD i [])).2:Int)) rfl (Nat.lt_of_le_of_lt (Nat.add_le_add_left (by decide) _) (kW hr)) PassesOwn.never fR.nd rfl rfl rfl (Or.inl rfl) (Or.inl rfl) (Or.inl rfl) (by decide) (by decide) (by decide) rfl rfl rfl vt
   (fh (aa 3 rfl) (.inl rfl)) (fun H0 i x hx=> ?ht) (fun H0 i x hx=> ?he) (fun i j hi hj=> ?hd) ?hl ?_
  case ht=>
   rw [List.getElem?_map] at hx
   obtain ⟨m,hm',rfl⟩:=Option.map_eq_some_iff.mp hx
   obtain ⟨a,b,c,d,e,f,rfl,M⟩:=W.mv (mem m (List.mem_of_getElem? hm'))
   show Tt _ _ _ _ _ (!true)
   exact (cX (cM (av ((gG T).mono (by decide)) hr rfl T.m__law_is_move T.F__law_is_move.kp T.b__law_is_move aB (ae (aa 5 rfl) ao ai) ⟨a,b,c,d,e,f,rfl,M,rfl⟩)))
  case he=>
   rw [List.getElem?_map] at hx
   obtain ⟨m,hm',rfl⟩:=Option.map_eq_some_iff.mp hx
   have hmm:=mem m (List.mem_of_getElem? hm')
   have eg:srt.getD i []=m:=by rw [List.getD_eq_getElem?_getD,hm']; rfl
   rw [eg]
   have P:=AA.mem hmm
   obtain ⟨a,b,c,d,e,f,em,M⟩:=W.mv hmm
   obtain ⟨a',b',c',d',e',f',em',P⟩:=P
   rw [em] at em'
   cases em'
   rw [em] at P ⊢
   exact (av ((jE T).mono (by decide)) hr rfl T.m__law_pair T.F__law_pair.kp T.b__law_pair aB (ae (aa 5 rfl) (ae (aa 1 rfl) ao ai) ai) ⟨l,a,b,c,d,e,f,_,_,rfl,M,W.sz,by omega,P,rfl⟩)
  case hd=>
   rw [List.length_map] at hi
   rintro ⟨q1,q2⟩
   have gi:srt.getD i []=srt[i]:=by rw [List.getD_eq_getElem?_getD,List.getElem?_eq_getElem hi]; rfl
   have gj:srt.getD j []=srt[j]'(by omega):=by rw [List.getD_eq_getElem?_getD,List.getElem?_eq_getElem (by omega)]; rfl
   have e:=AA.ne (mem _ (List.getElem_mem (show i < srt.length from hi))) (mem _ (List.getElem_mem (show j < srt.length by omega))) (by rw [← gi,← gj]; exact Prod.ext (by omega) (by omega))
   have lt:=List.pairwise_iff_getElem.mp asc j i (by omega) hi hj
   rw [e,ST6.ascL_irr] at lt
   cases lt
  case hl=> rw [List.length_map]; exact br (by omega)
  refine af (fk (fun _:Unit=> [some (.val (.scr (ns.map U.int))),some (.val (lp l)),some (.val (lp l)),some (.val (.lst (srt.map sxU))),none,none,none,none]) (fun _ _=> True) rfl PassesOwn.never (kT rfl T.z_range (ae (bN (au (cu rfl) rfl T.z_len PySem.boot_len (ae (aa 3 rfl) ao ai)) ag) ao aZ) (by rw [hfl]; omega) (by rw [hfl]; omega)) ?h0 ?hs ?hd)
  case h0=> exact ⟨(),trivial,rfl,rfl,rfl,rfl,trivial⟩
  case hs=>
   rintro H0 k x _ hx _
   obtain ⟨hk,rfl⟩:=iA hx
   rw [hfl] at hk
   have k1:k < srt.length:=by omega
   have k2:k+1 < srt.length:=by omega
   have g1:srt.getD k []=srt[k]:=by rw [List.getD_eq_getElem?_getD,List.getElem?_eq_getElem k1]; rfl
   have g2:srt.getD (k+1) []=srt[k+1]:=by rw [List.getD_eq_getElem?_getD,List.getElem?_eq_getElem k2]; rfl
   have lt:=List.pairwise_iff_getElem.mp asc k (k+1) k1 k2 (by omega)
   have l1:=AA.six _ (mem _ (List.getElem_mem k1))
   have l2:=AA.six _ (mem _ (List.getElem_mem k2))
   rw [← g1] at lt l1
   rw [← g2] at lt l2
   refine ⟨_,(fS (i:=7) fR.nd rfl (Or.inl rfl)),?_⟩
   refine af (dw (cX (aS (wW (kW hr) l1 l2) (aw (aa 3 rfl) (aa 7 rfl) rfl (uv (i:=k) (by omega) k1)) (aw (aa 3 rfl) (bY (aa 7 rfl) ag) rfl (uv (i:=k+1) (by omega) k2)))) (by rw [lt]; rfl) (aY (aY ?_)))
   exact ⟨(),trivial,rfl,rfl,rfl,rfl,trivial⟩
  case hd=>
   rintro _ ps _ hps
   refine dU ?_ hps
   refine af (aE fu ?_)
   exact rfl
end
theorem ar1 {p:List Value→Prop} {us:List Value} (h:us.length=1) (q:∀ a0,p [a0]):p us:=match us,h with | [a0],_=> q a0
theorem ar2 {p:List Value→Prop} {us:List Value} (h:us.length=2) (q:∀ a0 a1,p [a0,a1]):p us:=match us,h with | [a0,a1],_=> q a0 a1
theorem ar3 {p:List Value→Prop} {us:List Value} (h:us.length=3) (q:∀ a0 a1 a2,p [a0,a1,a2]):p us:=match us,h with | [a0,a1,a2],_=> q a0 a1 a2
set_option maxHeartbeats 8000000 in
theorem txt_mk {K:PySem.W.Frag} {h:Heap} {mg:Str→Option Value} {fa f0 f1 f2 f3 f4 f5 f6 f7 f8 f9 f10 f11 f12 f13 f14 f15 f16 f17 f18 f19 f20 f21 f22 f23 f24 c_Flat c_NoMove c_StakeError:Addr} (X:K.In h) (G:h.Ns mainGlobals mg) (hfa:mg "law"=some (.ref fa))
  {od0 an0 od1 an1 od2 an2 od3 an3 od4 an4 od5 an5 od6 an6 od7 an7 od8 an8 od9 an9 od10 an10 od11 an11 od12 an12 od13 an13 od14 an14 od15 an15 od16 an16 od17 an17 od18 an18 od19 an19 od20 an20 od21 an21 od22 an22 od23 an23 od24 an24:Option Addr} {sl0 sl1 sl2 sl3 sl4 sl5 sl6 sl7 sl8 sl9 sl10 sl11 sl12 sl13 sl14 sl15 sl16 sl17 sl18 sl19 sl20 sl21 sl22 sl23 sl24:Array (Option Value)} {oc0 kV0 dc0 pm0 cd0 ct0 oc1 kV1 dc1 pm1 cd1 ct1 oc2 kV2 dc2 pm2 cd2 ct2 oc3 kV3 dc3 pm3 cd3 ct3 oc4 kV4 dc4 pm4 cd4 ct4 oc5 kV5 dc5 pm5 cd5 ct5 oc6 kV6 dc6 pm6 cd6 ct6 oc7 kV7 dc7 pm7 cd7 ct7 oc8 kV8 dc8 pm8 cd8 ct8 oc9 kV9 dc9 pm9 cd9 ct9 oc10 kV10 dc10 pm10 cd10 ct10 oc11 kV11 dc11 pm11 cd11 ct11 oc12 kV12 dc12 pm12 cd12 ct12 oc13 kV13 dc13 pm13 cd13 ct13 oc14 kV14 dc14 pm14 cd14 ct14 oc15 kV15 dc15 pm15 cd15 ct15 oc16 kV16 dc16 pm16 cd16 ct16 oc17 kV17 dc17 pm17 cd17 ct17 oc18 kV18 dc18 pm18 cd18 ct18 oc19 kV19 dc19 pm19 cd19 ct19 oc20 kV20 dc20 pm20 cd20 ct20 oc21 kV21 dc21 pm21 cd21 ct21 oc22 kV22 dc22 pm22 cd22 ct22 oc23 kV23 dc23 pm23 cd23 ct23 oc24 kV24 dc24 pm24 cd24 ct24:Value}
  (a0:PySem.W.nsIn K mainGlobals "is_whole"=some (some (.ref f0))) (l0:K.lookup f0=some ⟨oc0,od0,.func (PySem.W.fnOf "is_whole" "is_whole" (aC cA) (aA cA) (aj cA) .none kV0 dc0 pm0 an0 cd0 ct0),sl0⟩) (c0:PySem.W.codeIn K cd0 "is_whole"=true) (k0:PySem.W.keepIn K (.ref f0)=true)
  (a1:PySem.W.nsIn K mainGlobals "sign"=some (some (.ref f1))) (l1:K.lookup f1=some ⟨oc1,od1,.func (PySem.W.fnOf "sign" "sign" (aC gd) (aA gd) (aj gd) .none kV1 dc1 pm1 an1 cd1 ct1),sl1⟩) (c1:PySem.W.codeIn K cd1 "sign"=true) (k1:PySem.W.keepIn K (.ref f1)=true)
  (a2:PySem.W.nsIn K mainGlobals "shares"=some (some (.ref f2))) (l2:K.lookup f2=some ⟨oc2,od2,.func (PySem.W.fnOf "shares" "shares" (aC du) (aA du) (aj du) .none kV2 dc2 pm2 an2 cd2 ct2),sl2⟩) (c2:PySem.W.codeIn K cd2 "shares"=true) (k2:PySem.W.keepIn K (.ref f2)=true)
  (a3:PySem.W.nsIn K mainGlobals "hand"=some (some (.ref f3))) (l3:K.lookup f3=some ⟨oc3,od3,.func (PySem.W.fnOf "hand" "hand" (aC fY) (aA fY) (aj fY) .none kV3 dc3 pm3 an3 cd3 ct3),sl3⟩) (c3:PySem.W.codeIn K cd3 "hand"=true) (k3:PySem.W.keepIn K (.ref f3)=true)
  (a4:PySem.W.nsIn K mainGlobals "is_move"=some (some (.ref f4))) (l4:K.lookup f4=some ⟨oc4,od4,.func (PySem.W.fnOf "is_move" "is_move" (aC cw) (aA cw) (aj cw) .none kV4 dc4 pm4 an4 cd4 ct4),sl4⟩) (c4:PySem.W.codeIn K cd4 "is_move"=true) (k4:PySem.W.keepIn K (.ref f4)=true)
  (a5:PySem.W.nsIn K mainGlobals "need_move"=some (some (.ref f5))) (l5:K.lookup f5=some ⟨oc5,od5,.func (PySem.W.fnOf "need_move" "need_move" (aC b_) (aA b_) (aj b_) .none kV5 dc5 pm5 an5 cd5 ct5),sl5⟩) (c5:PySem.W.codeIn K cd5 "need_move"=true) (k5:PySem.W.keepIn K (.ref f5)=true)
  (a6:PySem.W.nsIn K mainGlobals "turned"=some (some (.ref f6))) (l6:K.lookup f6=some ⟨oc6,od6,.func (PySem.W.fnOf "turned" "turned" (aC dl) (aA dl) (aj dl) .none kV6 dc6 pm6 an6 cd6 ct6),sl6⟩) (c6:PySem.W.codeIn K cd6 "turned"=true) (k6:PySem.W.keepIn K (.ref f6)=true)
  (a7:PySem.W.nsIn K mainGlobals "moved"=some (some (.ref f7))) (l7:K.lookup f7=some ⟨oc7,od7,.func (PySem.W.fnOf "moved" "moved" (aC eM) (aA eM) (aj eM) .none kV7 dc7 pm7 an7 cd7 ct7),sl7⟩) (c7:PySem.W.codeIn K cd7 "moved"=true) (k7:PySem.W.keepIn K (.ref f7)=true)
  (a8:PySem.W.nsIn K mainGlobals "behind"=some (some (.ref f8))) (l8:K.lookup f8=some ⟨oc8,od8,.func (PySem.W.fnOf "behind" "behind" (aC dy) (aA dy) (aj dy) .none kV8 dc8 pm8 an8 cd8 ct8),sl8⟩) (c8:PySem.W.codeIn K cd8 "behind"=true) (k8:PySem.W.keepIn K (.ref f8)=true)
  (a9:PySem.W.nsIn K mainGlobals "steps"=some (some (.ref f9))) (l9:K.lookup f9=some ⟨oc9,od9,.func (PySem.W.fnOf "steps" "steps" (aC eB) (aA eB) (aj eB) .none kV9 dc9 pm9 an9 cd9 ct9),sl9⟩) (c9:PySem.W.codeIn K cd9 "steps"=true) (k9:PySem.W.keepIn K (.ref f9)=true)
  (a10:PySem.W.nsIn K mainGlobals "level"=some (some (.ref f10))) (l10:K.lookup f10=some ⟨oc10,od10,.func (PySem.W.fnOf "level" "level" (aC eO) (aA eO) (aj eO) .none kV10 dc10 pm10 an10 cd10 ct10),sl10⟩) (c10:PySem.W.codeIn K cd10 "level"=true) (k10:PySem.W.keepIn K (.ref f10)=true)
  (a11:PySem.W.nsIn K mainGlobals "stand"=some (some (.ref f11))) (l11:K.lookup f11=some ⟨oc11,od11,.func (PySem.W.fnOf "stand" "stand" (aC eu) (aA eu) (aj eu) .none kV11 dc11 pm11 an11 cd11 ct11),sl11⟩) (c11:PySem.W.codeIn K cd11 "stand"=true) (k11:PySem.W.keepIn K (.ref f11)=true)
  (a12:PySem.W.nsIn K mainGlobals "stands"=some (some (.ref f12))) (l12:K.lookup f12=some ⟨oc12,od12,.func (PySem.W.fnOf "stands" "stands" (aC dz) (aA dz) (aj dz) .none kV12 dc12 pm12 an12 cd12 ct12),sl12⟩) (c12:PySem.W.codeIn K cd12 "stands"=true) (k12:PySem.W.keepIn K (.ref f12)=true)
  (a13:PySem.W.nsIn K mainGlobals "_law_cell_at"=some (some (.ref f13))) (l13:K.lookup f13=some ⟨oc13,od13,.func (PySem.W.fnOf "_law_cell_at" "_law_cell_at" (aC bE) (aA bE) (aj bE) .none kV13 dc13 pm13 an13 cd13 ct13),sl13⟩) (c13:PySem.W.codeIn K cd13 "_law_cell_at"=true) (k13:PySem.W.keepIn K (.ref f13)=true)
  (a14:PySem.W.nsIn K mainGlobals "_law_whole"=some (some (.ref f14))) (l14:K.lookup f14=some ⟨oc14,od14,.func (PySem.W.fnOf "_law_whole" "_law_whole" (aC bU) (aA bU) (aj bU) .none kV14 dc14 pm14 an14 cd14 ct14),sl14⟩) (c14:PySem.W.codeIn K cd14 "_law_whole"=true) (k14:PySem.W.keepIn K (.ref f14)=true)
  (a15:PySem.W.nsIn K mainGlobals "_law_cross"=some (some (.ref f15))) (l15:K.lookup f15=some ⟨oc15,od15,.func (PySem.W.fnOf "_law_cross" "_law_cross" (aC bS) (aA bS) (aj bS) .none kV15 dc15 pm15 an15 cd15 ct15),sl15⟩) (c15:PySem.W.codeIn K cd15 "_law_cross"=true) (k15:PySem.W.keepIn K (.ref f15)=true)
  (a16:PySem.W.nsIn K mainGlobals "_law_corners"=some (some (.ref f16))) (l16:K.lookup f16=some ⟨oc16,od16,.func (PySem.W.fnOf "_law_corners" "_law_corners" (aC bF) (aA bF) (aj bF) .none kV16 dc16 pm16 an16 cd16 ct16),sl16⟩) (c16:PySem.W.codeIn K cd16 "_law_corners"=true) (k16:PySem.W.keepIn K (.ref f16)=true)
  (a17:PySem.W.nsIn K mainGlobals "_law_lean"=some (some (.ref f17))) (l17:K.lookup f17=some ⟨oc17,od17,.func (PySem.W.fnOf "_law_lean" "_law_lean" (aC ci) (aA ci) (aj ci) .none kV17 dc17 pm17 an17 cd17 ct17),sl17⟩) (c17:PySem.W.codeIn K cd17 "_law_lean"=true) (k17:PySem.W.keepIn K (.ref f17)=true)
  (a18:PySem.W.nsIn K mainGlobals "_law_put"=some (some (.ref f18))) (l18:K.lookup f18=some ⟨oc18,od18,.func (PySem.W.fnOf "_law_put" "_law_put" (aC cx) (aA cx) (aj cx) .none kV18 dc18 pm18 an18 cd18 ct18),sl18⟩) (c18:PySem.W.codeIn K cd18 "_law_put"=true) (k18:PySem.W.keepIn K (.ref f18)=true)
  (a19:PySem.W.nsIn K mainGlobals "_law_ends"=some (some (.ref f19))) (l19:K.lookup f19=some ⟨oc19,od19,.func (PySem.W.fnOf "_law_ends" "_law_ends" (aC bI) (aA bI) (aj bI) .none kV19 dc19 pm19 an19 cd19 ct19),sl19⟩) (c19:PySem.W.codeIn K cd19 "_law_ends"=true) (k19:PySem.W.keepIn K (.ref f19)=true)
  (a20:PySem.W.nsIn K mainGlobals "_law_flat"=some (some (.ref f20))) (l20:K.lookup f20=some ⟨oc20,od20,.func (PySem.W.fnOf "_law_flat" "_law_flat" (aC cg) (aA cg) (aj cg) .none kV20 dc20 pm20 an20 cd20 ct20),sl20⟩) (c20:PySem.W.codeIn K cd20 "_law_flat"=true) (k20:PySem.W.keepIn K (.ref f20)=true)
  (a21:PySem.W.nsIn K mainGlobals "_law_is_move"=some (some (.ref f21))) (l21:K.lookup f21=some ⟨oc21,od21,.func (PySem.W.fnOf "_law_is_move" "_law_is_move" (aC bG) (aA bG) (aj bG) .none kV21 dc21 pm21 an21 cd21 ct21),sl21⟩) (c21:PySem.W.codeIn K cd21 "_law_is_move"=true) (k21:PySem.W.keepIn K (.ref f21)=true)
  (a22:PySem.W.nsIn K mainGlobals "_law_by"=some (some (.ref f22))) (l22:K.lookup f22=some ⟨oc22,od22,.func (PySem.W.fnOf "_law_by" "_law_by" (aC cP) (aA cP) (aj cP) .none kV22 dc22 pm22 an22 cd22 ct22),sl22⟩) (c22:PySem.W.codeIn K cd22 "_law_by"=true) (k22:PySem.W.keepIn K (.ref f22)=true)
  (a23:PySem.W.nsIn K mainGlobals "_law_pair"=some (some (.ref f23))) (l23:K.lookup f23=some ⟨oc23,od23,.func (PySem.W.fnOf "_law_pair" "_law_pair" (aC bP) (aA bP) (aj bP) .none kV23 dc23 pm23 an23 cd23 ct23),sl23⟩) (c23:PySem.W.codeIn K cd23 "_law_pair"=true) (k23:PySem.W.keepIn K (.ref f23)=true)
  (a24:PySem.W.nsIn K mainGlobals "law"=some (some (.ref f24))) (l24:K.lookup f24=some ⟨oc24,od24,.func (PySem.W.fnOf "law" "law" (aC iZ) (aA iZ) (aj iZ) .none kV24 dc24 pm24 an24 cd24 ct24),sl24⟩) (c24:PySem.W.codeIn K cd24 "law"=true) (k24:PySem.W.keepIn K (.ref f24)=true)
  (e_Flat:PySem.W.nsIn K mainGlobals "Flat"=some (some (.ref c_Flat))) (x_Flat:PySem.W.excIn K c_Flat [.type "ValueError",.type "Exception",.type "BaseException",.type "object"] "ValueError.__new__"=true)
  (e_NoMove:PySem.W.nsIn K mainGlobals "NoMove"=some (some (.ref c_NoMove))) (x_NoMove:PySem.W.excIn K c_NoMove [.type "ValueError",.type "Exception",.type "BaseException",.type "object"] "ValueError.__new__"=true)
  (e_StakeError:PySem.W.nsIn K mainGlobals "StakeError"=some (some (.ref c_StakeError)))
  (z_ValueError:PySem.W.nsIn K mainGlobals "ValueError"=some none)
  (z_abs:PySem.W.nsIn K mainGlobals "abs"=some none)
  (z_all:PySem.W.nsIn K mainGlobals "all"=some none)
  (z_bool:PySem.W.nsIn K mainGlobals "bool"=some none)
  (z_int:PySem.W.nsIn K mainGlobals "int"=some none)
  (z_isinstance:PySem.W.nsIn K mainGlobals "isinstance"=some none)
  (z_len:PySem.W.nsIn K mainGlobals "len"=some none)
  (z_list:PySem.W.nsIn K mainGlobals "list"=some none)
  (z_range:PySem.W.nsIn K mainGlobals "range"=some none)
  (z_reversed:PySem.W.nsIn K mainGlobals "reversed"=some none)
  (z_set:PySem.W.nsIn K mainGlobals "set"=some none)
  (z_sorted:PySem.W.nsIn K mainGlobals "sorted"=some none)
  (z_tuple:PySem.W.nsIn K mainGlobals "tuple"=some none)
  (z_zip:PySem.W.nsIn K mainGlobals "zip"=some none)
  (bx_Flat:PySem.W.mroIn K c_Flat (.type "BaseException")=some true)
  (kit_Flat_NoMove:PySem.W.kitOne K (.ref c_Flat) (.ref c_NoMove)=some false)
  (kit_Flat_StakeError:PySem.W.kitOne K (.ref c_Flat) (.ref c_StakeError)=some true)
  (kit_Flat_ValueError:PySem.W.kitOne K (.ref c_Flat) (.type "ValueError")=some true)
  (sub_Flat_Flat:PySem.W.mroIn K c_Flat (.ref c_Flat)=some true)
  (ty_Flat:PySem.W.typeIn K (.ref c_Flat)=some (.type "type"))
  (xc_Flat:PySem.W.XcOk K c_Flat)
  :∃ T:Txt K mg,T.a_law=fa∧(∀ (s:Shared) (v:Value),BindsTo s T.d_law ⟨[v],[]⟩ [("script",v)]):=by
 have e:=hfa.symm.trans (PySem.W.mg_of X G a24)
 cases e
 have F0:=bh (st:=cA) l0 c0 k0
 have b0:=F0.binds (ps:=["thing"]) fun _ _ _ _ _ _ us hl=> ar1 (p:=fun us=> bindArgs _ ⟨us,[]⟩=pure (List.zip _ us)) hl fun _=> rfl
 have F1:=bh (st:=gd) l1 c1 k1
 have b1:=F1.binds (ps:=["number"]) fun _ _ _ _ _ _ us hl=> ar1 (p:=fun us=> bindArgs _ ⟨us,[]⟩=pure (List.zip _ us)) hl fun _=> rfl
 have F2:=bh (st:=du) l2 c2 k2
 have b2:=F2.binds (ps:=["a","b"]) fun _ _ _ _ _ _ us hl=> ar2 (p:=fun us=> bindArgs _ ⟨us,[]⟩=pure (List.zip _ us)) hl fun _ _=> rfl
 have F3:=bh (st:=fY) l3 c3 k3
 have b3:=F3.binds (ps:=["move"]) fun _ _ _ _ _ _ us hl=> ar1 (p:=fun us=> bindArgs _ ⟨us,[]⟩=pure (List.zip _ us)) hl fun _=> rfl
 have F4:=bh (st:=cw) l4 c4 k4
 have b4:=F4.binds (ps:=["thing"]) fun _ _ _ _ _ _ us hl=> ar1 (p:=fun us=> bindArgs _ ⟨us,[]⟩=pure (List.zip _ us)) hl fun _=> rfl
 have F5:=bh (st:=b_) l5 c5 k5
 have b5:=F5.binds (ps:=["thing"]) fun _ _ _ _ _ _ us hl=> ar1 (p:=fun us=> bindArgs _ ⟨us,[]⟩=pure (List.zip _ us)) hl fun _=> rfl
 have F6:=bh (st:=dl) l6 c6 k6
 have b6:=F6.binds (ps:=["P","move"]) fun _ _ _ _ _ _ us hl=> ar2 (p:=fun us=> bindArgs _ ⟨us,[]⟩=pure (List.zip _ us)) hl fun _ _=> rfl
 have F7:=bh (st:=eM) l7 c7 k7
 have b7:=F7.binds (ps:=["P","move"]) fun _ _ _ _ _ _ us hl=> ar2 (p:=fun us=> bindArgs _ ⟨us,[]⟩=pure (List.zip _ us)) hl fun _ _=> rfl
 have F8:=bh (st:=dy) l8 c8 k8
 have b8:=F8.binds (ps:=["first","second"]) fun _ _ _ _ _ _ us hl=> ar2 (p:=fun us=> bindArgs _ ⟨us,[]⟩=pure (List.zip _ us)) hl fun _ _=> rfl
 have F9:=bh (st:=eB) l9 c9 k9
 have b9:=F9.binds (ps:=["P","Q"]) fun _ _ _ _ _ _ us hl=> ar2 (p:=fun us=> bindArgs _ ⟨us,[]⟩=pure (List.zip _ us)) hl fun _ _=> rfl
 have F10:=bh (st:=eO) l10 c10 k10
 have b10:=F10.binds (ps:=["P","Q"]) fun _ _ _ _ _ _ us hl=> ar2 (p:=fun us=> bindArgs _ ⟨us,[]⟩=pure (List.zip _ us)) hl fun _ _=> rfl
 have F11:=bh (st:=eu) l11 c11 k11
 have b11:=F11.binds (ps:=["corner","along","aside"]) fun _ _ _ _ _ _ us hl=> ar3 (p:=fun us=> bindArgs _ ⟨us,[]⟩=pure (List.zip _ us)) hl fun _ _ _=> rfl
 have F12:=bh (st:=dz) l12 c12 k12
 have b12:=F12.binds (ps:=["land"]) fun _ _ _ _ _ _ us hl=> ar1 (p:=fun us=> bindArgs _ ⟨us,[]⟩=pure (List.zip _ us)) hl fun _=> rfl
 have F13:=bh (st:=bE) l13 c13 k13
 have b13:=F13.binds (ps:=["script","k"]) fun _ _ _ _ _ _ us hl=> ar2 (p:=fun us=> bindArgs _ ⟨us,[]⟩=pure (List.zip _ us)) hl fun _ _=> rfl
 have F14:=bh (st:=bU) l14 c14 k14
 have b14:=F14.binds (ps:=["found"]) fun _ _ _ _ _ _ us hl=> ar1 (p:=fun us=> bindArgs _ ⟨us,[]⟩=pure (List.zip _ us)) hl fun _=> rfl
 have F15:=bh (st:=bS) l15 c15 k15
 have b15:=F15.binds (ps:=["one","two","three"]) fun _ _ _ _ _ _ us hl=> ar3 (p:=fun us=> bindArgs _ ⟨us,[]⟩=pure (List.zip _ us)) hl fun _ _ _=> rfl
 have F16:=bh (st:=bF) l16 c16 k16
 have b16:=F16.binds (ps:=["points"]) fun _ _ _ _ _ _ us hl=> ar1 (p:=fun us=> bindArgs _ ⟨us,[]⟩=pure (List.zip _ us)) hl fun _=> rfl
 have F17:=bh (st:=ci) l17 c17 k17
 have b17:=F17.binds (ps:=["cell","small"]) fun _ _ _ _ _ _ us hl=> ar2 (p:=fun us=> bindArgs _ ⟨us,[]⟩=pure (List.zip _ us)) hl fun _ _=> rfl
 have F18:=bh (st:=cx) l18 c18 k18
 have b18:=F18.binds (ps:=["spot","script"]) fun _ _ _ _ _ _ us hl=> ar2 (p:=fun us=> bindArgs _ ⟨us,[]⟩=pure (List.zip _ us)) hl fun _ _=> rfl
 have F19:=bh (st:=bI) l19 c19 k19
 have b19:=F19.binds (ps:=["script"]) fun _ _ _ _ _ _ us hl=> ar1 (p:=fun us=> bindArgs _ ⟨us,[]⟩=pure (List.zip _ us)) hl fun _=> rfl
 have F20:=bh (st:=cg) l20 c20 k20
 have b20:=F20.binds (ps:=["ends"]) fun _ _ _ _ _ _ us hl=> ar1 (p:=fun us=> bindArgs _ ⟨us,[]⟩=pure (List.zip _ us)) hl fun _=> rfl
 have F21:=bh (st:=bG) l21 c21 k21
 have b21:=F21.binds (ps:=["move"]) fun _ _ _ _ _ _ us hl=> ar1 (p:=fun us=> bindArgs _ ⟨us,[]⟩=pure (List.zip _ us)) hl fun _=> rfl
 have F22:=bh (st:=cP) l22 c22 k22
 have b22:=F22.binds (ps:=["move","spot"]) fun _ _ _ _ _ _ us hl=> ar2 (p:=fun us=> bindArgs _ ⟨us,[]⟩=pure (List.zip _ us)) hl fun _ _=> rfl
 have F23:=bh (st:=bP) l23 c23 k23
 have b23:=F23.binds (ps:=["move","ends"]) fun _ _ _ _ _ _ us hl=> ar2 (p:=fun us=> bindArgs _ ⟨us,[]⟩=pure (List.zip _ us)) hl fun _ _=> rfl
 have F24:=bh (st:=iZ) l24 c24 k24
 have b24:=F24.binds (ps:=["script"]) fun _ _ _ _ _ _ us hl=> ar1 (p:=fun us=> bindArgs _ ⟨us,[]⟩=pure (List.zip _ us)) hl fun _=> rfl
 exact ⟨⟨_,_,F0,b0,PySem.W.mg_of X G a0,_,_,F1,b1,PySem.W.mg_of X G a1,_,_,F2,b2,PySem.W.mg_of X G a2,_,_,F3,b3,PySem.W.mg_of X G a3,_,_,F4,b4,PySem.W.mg_of X G a4,_,_,F5,b5,PySem.W.mg_of X G a5,_,_,F6,b6,PySem.W.mg_of X G a6,_,_,F7,b7,PySem.W.mg_of X G a7,_,_,F8,b8,PySem.W.mg_of X G a8,_,_,F9,b9,PySem.W.mg_of X G a9,_,_,F10,b10,PySem.W.mg_of X G a10,_,_,F11,b11,PySem.W.mg_of X G a11,_,_,F12,b12,PySem.W.mg_of X G a12,_,_,F13,b13,PySem.W.mg_of X G a13,_,_,F14,b14,PySem.W.mg_of X G a14,_,_,F15,b15,PySem.W.mg_of X G a15,_,_,F16,b16,PySem.W.mg_of X G a16,_,_,F17,b17,PySem.W.mg_of X G a17,_,_,F18,b18,PySem.W.mg_of X G a18,_,_,F19,b19,PySem.W.mg_of X G a19,_,_,F20,b20,PySem.W.mg_of X G a20,_,_,F21,b21,PySem.W.mg_of X G a21,_,_,F22,b22,PySem.W.mg_of X G a22,_,_,F23,b23,PySem.W.mg_of X G a23,_,_,F24,b24,PySem.W.mg_of X G a24,_,x_Flat,PySem.W.mg_of X G e_Flat,_,x_NoMove,PySem.W.mg_of X G e_NoMove,_,PySem.W.mg_of X G e_StakeError,PySem.W.mg_none_of X G z_ValueError,PySem.W.mg_none_of X G z_abs,PySem.W.mg_none_of X G z_all,PySem.W.mg_none_of X G z_bool,PySem.W.mg_none_of X G z_int,PySem.W.mg_none_of X G z_isinstance,PySem.W.mg_none_of X G z_len,PySem.W.mg_none_of X G z_list,PySem.W.mg_none_of X G z_range,PySem.W.mg_none_of X G z_reversed,PySem.W.mg_none_of X G z_set,PySem.W.mg_none_of X G z_sorted,PySem.W.mg_none_of X G z_tuple,PySem.W.mg_none_of X G z_zip,bx_Flat,kit_Flat_NoMove,kit_Flat_StakeError,kit_Flat_ValueError,sub_Flat_Flat,ty_Flat,xc_Flat⟩,rfl,fun s v=> .of_eq rfl⟩
abbrev spLaw (K:PySem.W.Frag):Sp:=spU K fJ
theorem law_start (K:PySem.W.Frag) (H:Hp) (a:Addr) (ns:List Int) (h1:ns.length≤63) (h2:∀ m∈ns,Sz 1048576 m) (_:sw H) (h3:SqL K H a (ns.map V.int)):spLaw K [.ref a] H (fun v _=> v=.bl true) fun _ _ _=> False:=oM h1 h2 h3
theorem law_ok {P:Program} {w:World} {K:PySem.W.Frag} {mg:Str→Option Value} {fa:Addr} (h:∃ T:Txt K mg,T.a_law=fa∧(∀ (s:Shared) (v:Value),BindsTo s T.d_law ⟨[v],[]⟩ [("script",v)])):
  ∃ fd:FuncData,(∀ (s:Shared) (u:Value),BindsTo s fd ⟨[u],[]⟩ [("script",u)])∧∀ base:Heap,K.In base→base.Ns mainGlobals mg→bB P w K mg base CX0 9 fa fd ["script"] (spLaw K):=by
 obtain ⟨T,rfl,hb⟩:=h
 exact ⟨T.d_law,hb,fun base _ _=> (uU T).calm rQ⟩
end My
def PySem.W.Fast.tw16722591862027701113:Unit:=()
def PySem.W.Fast.tw7054505509670961084:Unit:=()
def PySem.W.Fast.tw3707505466638447886:Unit:=()
def PySem.W.Fast.tw3667791597518463085:Unit:=()
def PySem.W.Fast.tw11440697414536006806:Unit:=()
def PySem.W.Fast.tw2374740543789665547:Unit:=()
def PySem.W.Fast.tw12883970702564489316:Unit:=()
def PySem.W.Fast.tw17865984321828023309:Unit:=()
def PySem.W.Fast.tw16874761370465778641:Unit:=()
def PySem.W.Fast.tw7172944743729723716:Unit:=()
def PySem.W.Fast.tw8873708049264109861:Unit:=()
def PySem.W.Fast.tw15544598350144918108:Unit:=()
def PySem.W.Fast.tw11421840707050333037:Unit:=()
def PySem.W.Fast.tw18124566016336138105:Unit:=()
def PySem.W.Fast.tw15639987987482740678:Unit:=()
def PySem.W.Fast.tw7739850523433123088:Unit:=()
open PySem PySem.W PyProof.Rows L2
set_option maxRecDepth 100000 in
set_option maxHeartbeats 0 in
theorem PySem.Challenge.cw_stakefield_k51_stands_holds : PySem.Challenge.rw_stakefield_k51_stands.Holds := by
 w_on; o_law; k_head; (case hw=> w_witness2)
 k_fill
 refine L2.walk_ofB (l:=PySem.Challenge.rw_stakefield_k51_stands) (n:=63) (k:=9) (x:="script") (CX:=CX0) (sp:=My.spLaw) rfl (by decide) rfl ⟨rfl,by decide,by decide⟩ (fun w h Y=> by first | exact PySem.W.kIn_of Y | exact PySem.W.km_in_of Y) ?F My.law_start (fun _ _ _ _ z=> z)
 case F=>
  intro w mg fa h KX G hmg
  refine My.law_ok ?T
  refine' My.txt_mk KX G hmg ?a0 ?l0 ?c0 ?k0 ?a1 ?l1 ?c1 ?k1 ?a2 ?l2 ?c2 ?k2 ?a3 ?l3 ?c3 ?k3 ?a4 ?l4 ?c4 ?k4 ?a5 ?l5 ?c5 ?k5 ?a6 ?l6 ?c6 ?k6 ?a7 ?l7 ?c7 ?k7 ?a8 ?l8 ?c8 ?k8 ?a9 ?l9 ?c9 ?k9 ?a10 ?l10 ?c10 ?k10 ?a11 ?l11 ?c11 ?k11 ?a12 ?l12 ?c12 ?k12 ?a13 ?l13 ?c13 ?k13 ?a14 ?l14 ?c14 ?k14 ?a15 ?l15 ?c15 ?k15 ?a16 ?l16 ?c16 ?k16 ?a17 ?l17 ?c17 ?k17 ?a18 ?l18 ?c18 ?k18 ?a19 ?l19 ?c19 ?k19 ?a20 ?l20 ?c20 ?k20 ?a21 ?l21 ?c21 ?k21 ?a22 ?l22 ?c22 ?k22 ?a23 ?l23 ?c23 ?k23 ?a24 ?l24 ?c24 ?k24 ?e_Flat ?x_Flat ?e_NoMove ?x_NoMove ?e_StakeError ?z_ValueError ?z_abs ?z_all ?z_bool ?z_int ?z_isinstance ?z_len ?z_list ?z_range ?z_reversed ?z_set ?z_sorted ?z_tuple ?z_zip ?bx_Flat ?kit_Flat_NoMove ?kit_Flat_StakeError ?kit_Flat_ValueError ?sub_Flat_Flat ?ty_Flat ?xc_Flat 
  (case a0=> k_is); (case l0=> k_is); (case c0=> k_is); (case k0=> k_is)
  (case a1=> k_is); (case l1=> k_is); (case c1=> k_is); (case k1=> k_is)
  (case a2=> k_is); (case l2=> k_is); (case c2=> k_is); (case k2=> k_is)
  (case a3=> k_is); (case l3=> k_is); (case c3=> k_is); (case k3=> k_is)
  (case a4=> k_is); (case l4=> k_is); (case c4=> k_is); (case k4=> k_is)
  (case a5=> k_is); (case l5=> k_is); (case c5=> k_is); (case k5=> k_is)
  (case a6=> k_is); (case l6=> k_is); (case c6=> k_is); (case k6=> k_is)
  (case a7=> k_is); (case l7=> k_is); (case c7=> k_is); (case k7=> k_is)
  (case a8=> k_is); (case l8=> k_is); (case c8=> k_is); (case k8=> k_is)
  (case a9=> k_is); (case l9=> k_is); (case c9=> k_is); (case k9=> k_is)
  (case a10=> k_is); (case l10=> k_is); (case c10=> k_is); (case k10=> k_is)
  (case a11=> k_is); (case l11=> k_is); (case c11=> k_is); (case k11=> k_is)
  (case a12=> k_is); (case l12=> k_is); (case c12=> k_is); (case k12=> k_is)
  (case a13=> k_is); (case l13=> k_is); (case c13=> k_is); (case k13=> k_is)
  (case a14=> k_is); (case l14=> k_is); (case c14=> k_is); (case k14=> k_is)
  (case a15=> k_is); (case l15=> k_is); (case c15=> k_is); (case k15=> k_is)
  (case a16=> k_is); (case l16=> k_is); (case c16=> k_is); (case k16=> k_is)
  (case a17=> k_is); (case l17=> k_is); (case c17=> k_is); (case k17=> k_is)
  (case a18=> k_is); (case l18=> k_is); (case c18=> k_is); (case k18=> k_is)
  (case a19=> k_is); (case l19=> k_is); (case c19=> k_is); (case k19=> k_is)
  (case a20=> k_is); (case l20=> k_is); (case c20=> k_is); (case k20=> k_is)
  (case a21=> k_is); (case l21=> k_is); (case c21=> k_is); (case k21=> k_is)
  (case a22=> k_is); (case l22=> k_is); (case c22=> k_is); (case k22=> k_is)
  (case a23=> k_is); (case l23=> k_is); (case c23=> k_is); (case k23=> k_is)
  (case a24=> k_is); (case l24=> k_is); (case c24=> k_is); (case k24=> k_is)
  (case e_Flat=> k_is); (case x_Flat=> k_exc)
  (case e_NoMove=> k_is); (case x_NoMove=> k_exc)
  (case e_StakeError=> k_is)
  (case z_ValueError=> k_is)
  (case z_abs=> k_is)
  (case z_all=> k_is)
  (case z_bool=> k_is)
  (case z_int=> k_is)
  (case z_isinstance=> k_is)
  (case z_len=> k_is)
  (case z_list=> k_is)
  (case z_range=> k_is)
  (case z_reversed=> k_is)
  (case z_set=> k_is)
  (case z_sorted=> k_is)
  (case z_tuple=> k_is)
  (case z_zip=> k_is)
  (case bx_Flat=> k_is)
  (case kit_Flat_NoMove=> kit_is)
  (case kit_Flat_StakeError=> kit_is)
  (case kit_Flat_ValueError=> kit_is)
  (case sub_Flat_Flat=> k_is)
  (case ty_Flat=> k_is)
  (case xc_Flat=> exact ⟨by k_is,by k_is,by k_is,by k_is,by k_is,by k_is,by k_is⟩)
