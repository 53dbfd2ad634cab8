import PyProof.Rows.All
import Wide.All
import OpenK.AllK
import Wide.FinOn
import Lean
import PyProof.EqAt
import PyProof.EqKinds
import PyProof.NeKinds
import PyProof.TupleCall
import KE.KDictSum
import KE.KSortTup
import KE.KRevIter
import KE.KRevSl
import PySem.Challenge.RW_stakefield_k48_refused_wedges
set_option Elab.async false
set_option linter.all false
set_option maxRecDepth 100000
namespace L2
open PySem PySem.Spec PyProof.Rows
abbrev Key:=Sum Int Str
def mU:Key→Value→Bool
 | .inl k,v=> Value.isInt k v
 | .inr x,v=> Value.isStrOf x v
def p8 (w:World):Key→Int
 | .inl k=> hashInt k
 | .inr x=> hashStr w x
theorem bc:∀ {k:Key} {v:Value},mU k v=true→(∃ i t,k=Sum.inl i∧v=Value.int i t)∨(∃ x t,k=Sum.inr x∧v=Value.str x t)
 | .inl i,v,h=> by
  obtain ⟨t,e⟩:=Value.isInt_shape (k:=i) (v:=v) h
  exact .inl ⟨i,t,rfl,e⟩
 | .inr x,v,h=> by
  obtain ⟨t,e⟩:=Value.isStrOf_shape (x:=x) (v:=v) h
  exact .inr ⟨x,t,rfl,e⟩
theorem oE (a b:Int):decide ((Sum.inl a:Key)=Sum.inl b)=(a==b):=by
 by_cases e:a=b
 ·subst e; simp
 ·have h:¬ (Sum.inl a:Key)=Sum.inl b:=fun q=> e (Sum.inl.inj q)
  rw [decide_eq_false h]
  exact (beq_eq_false_iff_ne.mpr e).symm
theorem oD (a b:Str):decide ((Sum.inr a:Key)=Sum.inr b)=decide (a=b):=by
 by_cases e:a=b
 ·subst e; simp
 ·have h:¬ (Sum.inr a:Key)=Sum.inr b:=fun q=> e (Sum.inr.inj q)
  rw [decide_eq_false h,decide_eq_false e]
theorem oj (a:Int) (b:Str):decide ((Sum.inl a:Key)=Sum.inr b)=false:=decide_eq_false (fun q=> nomatch q)
theorem ny (a:Str) (b:Int):decide ((Sum.inr a:Key)=Sum.inl b)=false:=decide_eq_false (fun q=> nomatch q)
def ju (prog:Program) (w:World):PySem.KeyKind prog w Key where
 is:=mU
 hash:=p8 w
 inj:=fun v a b ha hb=> by
  rcases bc ha with ⟨i,t,rfl,rfl⟩ | ⟨x,t,rfl,rfl⟩
  ·rcases bc hb with ⟨j,u,rfl,e⟩ | ⟨y,u,rfl,e⟩
   ·injection e with e1 _; rw [e1]
   ·exact nomatch e
  ·rcases bc hb with ⟨j,u,rfl,e⟩ | ⟨y,u,rfl,e⟩
   ·exact nomatch e
   ·injection e with e1 _; rw [e1]
 byValue:=fun k v h=> by
  rcases bc h with ⟨i,t,rfl,rfl⟩ | ⟨x,t,rfl,rfl⟩ <;> rfl
 pyHash:=fun hv h=> by
  rcases bc hv with ⟨i,t,rfl,rfl⟩ | ⟨x,t,rfl,rfl⟩
  ·exact wpAny_pyHash_int h
  ·exact wpAny_pyHash_str h
 eqBool:=fun hu hv h=> by
  rcases bc hu with ⟨i,t,rfl,rfl⟩ | ⟨x,t,rfl,rfl⟩
  ·rcases bc hv with ⟨j,u,rfl,rfl⟩ | ⟨y,u,rfl,rfl⟩
   ·rw [oE] at h; exact wpAny_eqBool_int h
   ·rw [oj] at h; exact SeqAt.EqAt.int_str i t y u _ _ _ _ h
  ·rcases bc hv with ⟨j,u,rfl,rfl⟩ | ⟨y,u,rfl,rfl⟩
   ·rw [ny] at h; exact SeqAt.EqAt.str_int x t j u _ _ _ _ h
   ·rw [oD] at h; exact wpAny_eqBool_str h
 «strs»:=fun k x t v h=> by
  rcases bc h with ⟨i,u,rfl,e⟩ | ⟨y,u,rfl,e⟩
  ·exact nomatch e
  ·injection e with e1 _
   subst e1
   cases v <;> rfl
end L2
namespace L2
open PySem PySem.Spec PyProof.Rows
inductive V where
 | non | bl (b:Bool) | int (i:Int) | str (x:Str) | byt (b:Array UInt8) | flt (b:UInt64) | ref (a:Addr) | ty (n:String)
 deriving DecidableEq
def aP:V→Value→Prop
 | .non,u=> u=Value.none
 | .bl b,u=> u=Value.bool b
 | .int i,u=> ∃ t,u=Value.int i t
 | .str x,u=> ∃ t,u=Value.str x t
 | .byt b,u=> ∃ t,u=Value.bytes b t
 | .flt b,u=> ∃ t,u=Value.float b t
 | .ref a,u=> u=Value.ref a
 | .ty n,u=> u=Value.type n
abbrev aQ:List V→List Value→Prop:=Paired aP
theorem aQ.length {xs:List V} {us:List Value} (r:aQ xs us):xs.length=us.length:=Paired.length r
theorem aQ.get:∀ {xs:List V} {us:List Value} {i:Nat} {x:V},aQ xs us→xs[i]?=some x→∃ u,us[i]?=some u∧aP x u
 | _,_,_,_,.nil,e=> by simp at e
 | _,_,0,_,.cons r _,e=> by simp at e; subst e; exact ⟨_,rfl,r⟩
 | _,_,i+1,x,.cons _ t,e=> by
  obtain ⟨u,h1,h2⟩:=aQ.get (i:=i) (x:=x) t (by simpa using e)
  exact ⟨u,by simpa using h1,h2⟩
theorem aQ.append:∀ {xs ys:List V} {us ws:List Value},aQ xs us→aQ ys ws→aQ (xs++ys) (us++ws)
 | _,_,_,_,.nil,s=> s
 | _,_,_,_,.cons r t,s=> .cons r (aQ.append t s)
theorem aQ.take:∀ {xs:List V} {us:List Value} (n:Nat),aQ xs us→aQ (xs.take n) (us.take n)
 | _,_,0,_=> .nil
 | _,_,_+1,.nil=> .nil
 | _,_,n+1,.cons r t=> .cons r (aQ.take n t)
theorem aQ.drop:∀ {xs:List V} {us:List Value} (n:Nat),aQ xs us→aQ (xs.drop n) (us.drop n)
 | _,_,0,r=> r
 | _,_,_+1,.nil=> .nil
 | _,_,n+1,.cons _ t=> aQ.drop n t
def nU:Option V→Option Value→Prop
 | some v,some u=> aP v u
 | none,none=> True
 | _,_=> False
def KV {κ:Type}:List (κ×V)→List (κ×Value)→Prop:=Paired fun (p:κ×V) (q:κ×Value)=> p.1=q.1∧aP p.2 q.2
def kV:Key→V
 | .inl i=> .int i
 | .inr x=> .str x
inductive HO where
 /-- a list -/
 | lst (xs:List V)
 /-- a tuple (never changes) -/
 | tup (xs:List V)
 /-- a dict whose keys are ints and texts; one whose keys are tuples of ints and texts (the empty one is both) -/
 | dK (kvs:List (Key×V)) | dT (kvs:List (List Key×V))
 /-- a set of ints:its members,its size -/
 | set (S:Int→Bool) (n:Nat)
 /-- an instance of the class at C,its dict at dx,its attributes -/
 | ins (C dx:Addr) (fs:List (Str×V))
 /-- the dict of the instance at x -/
 | own (x:Addr)
 /-- the dict of an exception -/
 | xd (fs:List (Str×V))
 /-- a bound method,f of x -/
 | met (f x:Addr)
 /-- a range object lo,lo+1,.. below hi -/
 | rng (lo hi:Int)
 /-- a thing that is known to the object (the script; a dict while a loop walks it):read,never written while it is so -/
 | frz (o:Obj) (u:HO)
 /-- a code object's table -/
 | tbl (ps:Array Value)
 /-- any other thing,by what is true of its one object (a def of one's own:SetO a S n:=HO.ext fun h=> ..) -/
 | ext (φ:Heap→Prop)
abbrev Hp:=Addr→Option HO
def upd (H:Hp) (a:Addr) (o:HO):Hp:=fun b=> if b=a then some o else H b
theorem bf {H:Hp} {a:Addr} {o:HO}:upd H a o a=some o:=by unfold upd; rw [if_pos rfl]
theorem aR {H:Hp} {a b:Addr} {o:HO} (h:b≠a):upd H a o b=H b:=by unfold upd; rw [if_neg h]
theorem ba {H:Hp} {a b:Addr} {o:HO} (h:H a=some o) (h':H b=none):a≠b:=by
 intro e; subst e; rw [h] at h'; cases h'
section
variable (P:Program) (w:World)
def bR (H:Hp) (h:Heap) (a:Addr):HO→Prop
 | .lst xs=> xs.length≤sizeLine∧∃ (its:List Value) (n:Nat),aQ xs its∧h.get? a=some { cls:=.type "list",data:=.seq its.toArray n }
 | .tup xs=> xs.length≤sizeLine∧∃ its:List Value,aQ xs its∧IsTup h a its.toArray
 | .dK kvs=> kvs.length≤sizeLine∧(a==sysModules)=false∧∃ vs,KV kvs vs∧h.DictOf (ju P w) a vs
 | .dT kvs=> kvs.length≤sizeLine∧(a==sysModules)=false∧∃ xs:List (List Key×Addr×Value),
   Paired (fun (p:List Key×V) (q:List Key×Addr×Value)=> p.1=q.1∧H q.2.1=some (.tup (p.1.map kV))∧aP p.2 q.2.2) kvs xs∧
   ∃ o es ep,h.get? a=some o∧o.ExactDict∧o.data=.dict es ep∧es.toList=xs.map (entryOfKey (tupleKind (ju P w)))∧(xs.map (·.1)).Nodup
 | .set S n=> h.SetOf (intKind P w) a S n
 | .ins C dx fs=> H dx=some (.own a)∧fs.length≤1000∧dx≠a∧h.get? a=some (PySem.W.instObj C dx)∧
   ∃ mA,h.Ns1 dx mA∧(∀ f,nU (fs.lookup f) (mA f))∧PySem.Within mA (fs.map (·.1))
 | .own _=> ∃ o,h.get? a=some o
 | .xd fs=> ∃ mA,h.Ns1 a mA∧∀ f,nU (fs.lookup f) (mA f)
 | .rng lo hi=> ∃ t u v,h.get? a=some { cls:=.type "range",data:=.fields #[.int lo t,.int hi u,.int 1 v] }
 | .frz o u=> h.get? a=some o∧bR H h a u
 | .tbl ps=> h.get? a=some { cls:=.none,data:=.fields ps }
 | .met f x=> h.get? a=some (PySem.W.methodObj (.ref f) (.ref x))
 | .ext φ=> φ h∧(∃ o,h.get? a=some o)∧∀ h1 h2:Heap,φ h1→(∀ o,h1.get? a=some o→h2.get? a=some o)→φ h2
def HOk (H:Hp) (h:Heap):Prop:=∀ a o,H a=some o→bR P w H h a o
end
section
variable {P:Program} {w:World} {H H':Hp} {h h':Heap} {a:Addr} {o:HO}
theorem bR.lt (x:bR P w H h a o):a < h.objs.size:=by
 cases o with
 | lst xs=> obtain ⟨_,_,_,_,e⟩:=x; exact Heap.lt_size e
 | tup xs=> obtain ⟨_,_,_,p⟩:=x; exact p.lt
 | dK kvs=> obtain ⟨_,_,_,_,o,_,_,e,_⟩:=x; exact Heap.lt_size e
 | dT kvs=> obtain ⟨_,_,_,_,o,_,_,e,_⟩:=x; exact Heap.lt_size e
 | set S n=> obtain ⟨o,_,_,_,e,_⟩:=x; exact Heap.lt_size e
 | ins C dx fs=> obtain ⟨_,_,_,e,_⟩:=x; exact Heap.lt_size e
 | own y=> obtain ⟨_,e⟩:=x; exact Heap.lt_size e
 | xd fs=> obtain ⟨_,⟨_,_,_,e,_⟩,_⟩:=x; exact Heap.lt_size e
 | rng lo hi=> obtain ⟨_,_,_,e⟩:=x; exact Heap.lt_size e
 | frz ob u=> obtain ⟨e,_⟩:=x; exact Heap.lt_size e
 | tbl ps=> exact Heap.lt_size (show h.get? a=some _ from x)
 | met f y=> exact Heap.lt_size (show h.get? a=some _ from x)
 | ext φ=> obtain ⟨_,⟨_,e⟩,_⟩:=x; exact Heap.lt_size e
theorem Paired.mapP {α β:Type} {F G:α→β→Prop}:∀ {l₁:List α} {l₂:List β},Paired F l₁ l₂→(∀ a b,F a b→G a b)→Paired G l₁ l₂
 | _,_,.nil,_=> .nil
 | _,_,.cons r t,f=> .cons (f _ _ r) (Paired.mapP t f)
theorem bR.stay (x:bR P w H h a o) (k:∀ b u,(b=a∨H b=some (.own a))→h.get? b=some u→h'.get? b=some u)
  (ho:∀ b,H b=some (.own a)→H' b=some (.own a)) (ht:∀ b xs,H b=some (.tup xs)→H' b=some (.tup xs)):bR P w H' h' a o:=by
 induction o with
 | lst xs=> obtain ⟨z,its,n,r,e⟩:=x; exact ⟨z,its,n,r,k _ _ (.inl rfl) e⟩
 | tup xs=> obtain ⟨z,its,r,ob,e,c⟩:=x; exact ⟨z,its,r,ob,k _ _ (.inl rfl) e,c⟩
 | dK kvs=> obtain ⟨z,y,vs,r,ob,es,ep,e,c⟩:=x; exact ⟨z,y,vs,r,ob,es,ep,k _ _ (.inl rfl) e,c⟩
 | dT kvs=>
  obtain ⟨z,y,xs,r,ob,es,ep,e,c⟩:=x
  exact ⟨z,y,xs,Paired.mapP r fun p q z=> ⟨z.1,ht _ _ z.2.1,z.2.2⟩,ob,es,ep,k _ _ (.inl rfl) e,c⟩
 | set S n=> obtain ⟨ob,es,ep,t,e,c⟩:=x; exact ⟨ob,es,ep,t,k _ _ (.inl rfl) e,c⟩
 | ins C dx fs=>
  obtain ⟨d,z,ne,e,mA,⟨od,es,ep,e2,c⟩,r⟩:=x
  exact ⟨ho _ d,z,ne,k _ _ (.inl rfl) e,mA,⟨od,es,ep,k _ _ (.inr d) e2,c⟩,r⟩
 | own y=> obtain ⟨ob,e⟩:=x; exact ⟨ob,k _ _ (.inl rfl) e⟩
 | xd fs=> obtain ⟨mA,⟨od,es,ep,e,c⟩,r⟩:=x; exact ⟨mA,⟨od,es,ep,k _ _ (.inl rfl) e,c⟩,r⟩
 | rng lo hi=> obtain ⟨t,u,v,e⟩:=x; exact ⟨t,u,v,k _ _ (.inl rfl) e⟩
 | frz ob u ih=> obtain ⟨e,q⟩:=x; exact ⟨k _ _ (.inl rfl) e,ih q⟩
 | tbl ps=>
  have e:h.get? a=some { cls:=.none,data:=.fields ps }:=x
  show h'.get? a=some { cls:=.none,data:=.fields ps }
  exact k a _ (.inl rfl) e
 | met f y=>
  have e:h.get? a=some (PySem.W.methodObj (.ref f) (.ref y)):=x
  show h'.get? a=some (PySem.W.methodObj (.ref f) (.ref y))
  exact k a _ (.inl rfl) e
 | ext φ=> obtain ⟨p,⟨o,e⟩,st⟩:=x; exact ⟨st _ _ p fun o q=> k _ _ (.inl rfl) q,⟨o,k _ _ (.inl rfl) e⟩,st⟩
theorem HOk.lt (x:HOk P w H h) (e:H a=some o):a < h.objs.size:=(x a o e).lt
theorem HOk.fresh (x:HOk P w H h) (e:h.objs.size≤a):H a=none:=by
 cases q:H a with
 | none=> rfl
 | some u=> exact absurd (Nat.lt_of_lt_of_le (x.lt q) e) (Nat.lt_irrefl _)
theorem HOk.kept (x:HOk P w H h) (k:∀ b u,h.get? b=some u→h'.get? b=some u):HOk P w H h':=fun a o e=>
 (x a o e).stay (fun b u _ q=> k b u q) (fun _ q=> q) fun _ _ q=> q
theorem HOk.laid (x:HOk P w H h) (k:∀ b u,h.get? b=some u→h'.get? b=some u) (hp:h.objs.size≤a) (new:bR P w (upd H a o) h' a o):HOk P w (upd H a o) h':=fun b u e=> by
 have hn:=x.fresh hp
 by_cases hb:b=a
 ·subst hb; rw [bf] at e; cases e; exact new
 ·rw [aR hb] at e
  exact (x b u e).stay (fun c v _ q=> k c v q) (fun c q=> by rw [aR (ba q hn)]; exact q) fun c xs q=> by rw [aR (ba q hn)]; exact q
end
def Rd (H:Hp) (a:Addr) (u:HO):Prop:=H a=some u∨∃ o,H a=some (.frz o u)
theorem Rd.ok {P:Program} {w:World} {H:Hp} {h:Heap} {a:Addr} {u:HO} (r:Rd H a u) (x:HOk P w H h):bR P w H h a u:=by
 rcases r with r | ⟨o,r⟩
 ·exact x a u r
 ·obtain ⟨_,q⟩:=x a _ r
  exact q
def Mut:Option HO→Prop
 | some (.lst _)=> True
 | some (.dK _)=> True
 | some (.dT _)=> True
 | some (.set _ _)=> True
 | some (.ins _ _ _)=> True
 | some (.ext _)=> True
 | _=> False
section
variable {P:Program} {w:World} {H:Hp} {h h':Heap} {x e:Addr} {o':HO}
theorem HOk.write (ok:HOk P w H h) (mu:Mut (H x)) (he:e=x∨H e=some (.own x)) (k:∀ b u,b≠e→h.get? b=some u→h'.get? b=some u) (heo:∃ u,h'.get? e=some u)
  (new:bR P w (upd H x o') h' x o'):HOk P w (upd H x o') h':=fun b u q=> by
 have nown:∀ c y,H c=some (.own y)→c≠x:=fun c y r z=> by subst z; rw [r] at mu; exact mu
 have ntup:∀ c xs,H c=some (.tup xs)→c≠x:=fun c xs r z=> by subst z; rw [r] at mu; exact mu
 by_cases hb:b=x
 ·subst hb; rw [bf] at q; cases q; exact new
 ·rw [aR hb] at q
  by_cases hbe:b=e
  ·have q':H b=some (.own x):=by
    rcases he with z | z
    ·exact absurd (hbe.trans z) hb
    ·rw [hbe]; exact z
   rw [q] at q'; cases q'
   obtain ⟨v,hv⟩:=heo
   exact ⟨v,by rw [hbe]; exact hv⟩
  ·refine (ok b u q).stay (fun c v hc r=> k c v ?_ r) (fun c r=> by rw [aR (nown c b r)]; exact r) fun c xs r=> by rw [aR (ntup c xs r)]; exact r
   rcases hc with rfl | hc
   ·exact hbe
   ·rintro rfl
    rcases he with z | z
    ·exact nown c b hc z
    ·rw [hc] at z; cases z; exact hb rfl
end
structure Un (fs ex:List Addr) (H H':Hp) (h h':Heap):Prop where
 keep:∀ b o,h.get? b=some o→H b=none→b ∉ fs→b ∉ ex→h'.get? b=some o
 slot:∀ b o,h.get? b=some o→H b=none→b∈fs→b ∉ ex→∃ sl,h'.get? b=some { o with slots:=sl }
 free:∀ b o,h.get? b=some o→H b=none→b ∉ ex→H' b=none
 there:∀ b o,h.get? b=some o→b ∉ ex→∃ o',h'.get? b=some o'
 tups:∀ b xs,H b=some (.tup xs)→H' b=some (.tup xs)
 frzs:∀ b o u,H b=some (.frz o u)→H' b=some (.frz o u)
 tbls:∀ b ps,H b=some (.tbl ps)→∃ more,H' b=some (.tbl (ps++more))
section
variable {fs fs' ex ex':List Addr} {H H1 H2:Hp} {h h1 h2 h':Heap} {a x e:Addr} {o:HO}
theorem Un.any (u:Un fs ex H H1 h h1) {b:Addr} {ob:Obj} (q:h.get? b=some ob) (n:H b=none) (hx:b ∉ ex):∃ sl,h1.get? b=some { ob with slots:=sl }:=by
 by_cases hb:b∈fs
 ·exact u.slot b ob q n hb hx
 ·exact ⟨ob.slots,u.keep b ob q n hb hx⟩
theorem Un.kept (k:∀ b u,h.get? b=some u→h'.get? b=some u):Un fs ex H H h h':=
 ⟨fun b ob q _ _ _=> k b ob q,fun b ob q _ _ _=> ⟨ob.slots,k b ob q⟩,fun _ _ _ n _=> n,fun b ob q _=> ⟨ob,k b ob q⟩,fun _ _ q=> q,fun _ _ _ q=> q,fun _ ps q=> ⟨#[],by rw [q]; simp⟩⟩
theorem Un.refl:Un fs ex H H h h:=Un.kept fun _ _ q=> q
theorem Un.laid (k:∀ b u,h.get? b=some u→h'.get? b=some u) (hp:h.objs.size≤a) (hn:H a=none):Un fs ex H (upd H a o) h h' where
 keep:=fun b u q _ _ _=> k b u q
 slot:=fun b u q _ _ _=> ⟨u.slots,k b u q⟩
 free:=fun b u q n _=> by rw [aR (Nat.ne_of_lt (Nat.lt_of_lt_of_le (Heap.lt_size q) hp))]; exact n
 there:=fun b u q _=> ⟨u,k b u q⟩
 tups:=fun b xs q=> by rw [aR (ba q hn)]; exact q
 frzs:=fun b u xs q=> by rw [aR (ba q hn)]; exact q
 tbls:=fun b ps q=> ⟨#[],by rw [aR (ba q hn),q]; simp⟩
theorem Un.write (mu:Mut (H x)) (he:e=x∨H e=some (.own x)) (k:∀ b u,b≠e→h.get? b=some u→h'.get? b=some u) (heo:∃ u,h'.get? e=some u):Un fs ex H (upd H x o) h h':=by
 have hx:∀ b,H b=none→b≠x:=fun b n z=> by subst z; rw [n] at mu; exact mu
 have hb:∀ b,H b=none→b≠e:=fun b n z=> by
  subst z
  rcases he with r | r
  ·exact hx b n r
  ·rw [n] at r; cases r
 have hm:∀ b u,H b=some u→¬ Mut (some u)→b≠x:=fun b u q nm z=> by subst z; rw [q] at mu; exact nm mu
 refine ⟨fun b u q n _ _=> k b u (hb b n) q,fun b u q n _ _=> ⟨u.slots,k b u (hb b n) q⟩,fun b u q n _=> by rw [aR (hx b n)]; exact n,fun b u q _=> ?_,
  fun b xs q=> by rw [aR (hm b _ q fun z=> z)]; exact q,fun b u xs q=> by rw [aR (hm b _ q fun z=> z)]; exact q,fun b ps q=> ⟨#[],by rw [aR (hm b _ q fun z=> z),q]; simp⟩⟩
 by_cases hbe:b=e
 ·subst hbe; exact heo
 ·exact ⟨u,k b u hbe q⟩
end
def trk (h:Heap) (H:Hp):List Addr:=(List.range h.objs.size).filter fun a=> (H a).isSome
def gY (h:Heap) (H:Hp):Heap:=PySem.W.hideAll h (trk h H)
theorem jH (h:Heap) (H:Hp):(gY h H).objs.size=h.objs.size:=PySem.W.hideAll_size _ _
theorem kN {h:Heap} {H:Hp} {b:Addr} {o:Obj} (e:h.get? b=some o) (n:H b=none):(gY h H).get? b=some o:=
 PySem.W.hideAll_get _ e fun hm=> by
  have q:(H b).isSome=true:=(List.mem_filter.mp hm).2
  rw [n] at q; simp at q
theorem lK {h:Heap} {H:Hp} {b:Addr} {o:Obj} (e:(gY h H).get? b=some o):h.get? b=some o∧H b=none:=by
 have e':h.get? b=some o:=PySem.W.of_hideAll (trk h H) e
 refine ⟨e',?_⟩
 cases q:H b with
 | none=> rfl
 | some x=>
  have hm:b∈trk h H:=List.mem_filter.mpr ⟨List.mem_range.mpr (Heap.lt_size e'),by simp [q]⟩
  have z:(gY h H).get? b=none:=PySem.W.hideAll_none (trk h H) hm
  rw [z] at e; cases e
def lP (g h:Heap) (L:Addr):List (Addr×Obj):=(List.range h.objs.size).filterMap fun a=> if a=L∨(g.get? a).isSome=true then none else (h.get? a).map fun o=> (a,o)
def bq (g h:Heap) (L d:Addr):List (Addr×Obj):=(lP g h L).filter fun p=> decide (p.1≠d)
end L2
namespace L2
open PySem PySem.Spec PyProof.Rows
structure Mod (K:PySem.W.Frag) (mg:Str→Option Value) (base:Heap):Prop where
 kin:K.In base
 glob:base.Ns mainGlobals mg
 blt:∃ mb,base.Ns builtinsNs mb∧∀ x:Str,x≠"__name__"→mb x=bootBuiltins x
 nolimit:base.NoLimit
structure Cx where
 prog:Program
 w:World
 K:PySem.W.Frag
 mg:Str→Option Value
 base:Heap
 A:Around
 N:List Str
 s₀:Shared
 H₀:Hp
 env:Env
 outer:List Env
 stack:List Env
 ex:List Addr
 fn:Str→Bool
 calm:Bool
 pn:List (Addr×Obj)
 xe:Value→Shared→Prop
def frs (l:List Env):List Addr:=l.filterMap (·.frame)
abbrev Cx.fs (X:Cx):List Addr:=frs X.outer
def Vis (sc:Scope) (x:Str):Prop:=sc.names.lookup x=some .local∨sc.names.lookup x=some .cell∨sc.names.lookup x=some .free
def Loc (sc:Scope) (x:Str):Prop:=sc.names.lookup x=some .local∨sc.names.lookup x=some .cell
def pZ (env:Env) (h:Heap) (m:Str→Option Value) (x:Str) (u:Value):Prop:=
 (env.kindOf x=some .local∧m x=some u)∨((env.kindOf x=some .cell∨env.kindOf x=some .free)∧∃ c,env.cells.lookup x=some c∧h.IsCell c (some u))
structure Cx.Ok (X:Cx):Prop where
 mod:Mod X.K X.mg X.base
 kind:X.env.scope.kind=.function
 glob:X.env.globals=mainGlobals
 blt:X.env.builtins=builtinsNs
 above:X.s₀.heap.objs.size≤X.env.locals
 inj:∀ x y c,X.env.cells.lookup x=some c→X.env.cells.lookup y=some c→x=y
 has:∀ x,(X.env.kindOf x=some .cell∨X.env.kindOf x=some .free)→∃ c,X.env.cells.lookup x=some c
 cab:∀ x c,X.fn x=true→X.env.cells.lookup x=some c→X.s₀.heap.objs.size≤c
 hd:X.calm=true→X.A.handled=none
 frames:X.A.frames=some X.stack
 stk:X.stack=X.outer∨(X.stack=X.env::X.outer∧X.env.frame=some X.env.locals)
 exf:∀ b∈X.ex,b≠X.env.locals∧∀ x c,X.env.cells.lookup x=some c→c≠b
 bs:∀ b o,X.base.get? b=some o→X.s₀.heap.get? b=some o∧X.H₀ b=none
 bsz:X.base.objs.size≤X.s₀.heap.objs.size
 noex:∀ b o,X.base.get? b=some o→b ∉ X.ex
 exfs:∀ b∈X.ex,b ∉ X.fs
 funs:X.s₀.heap.FunFrames X.base X.outer
 frf:∀ b∈X.fs,X.H₀ b=none
structure Inv (X:Cx) (pins:List (Addr×Obj)) (σ:List (Option V)) (H:Hp) (s:Shared):Prop where
 ok:X.Ok
 os:s.os=X.s₀.os
 bare:AllBare s.gens
 base:Un X.fs X.ex X.H₀ H X.s₀.heap s.heap
 loc:∃ m,s.heap.Ns X.env.locals m∧∀ (i:Nat) (x:Str) (v:V),X.N[i]?=some x→σ[i]?=some (some v)→Vis X.env.scope x→∃ u,aP v u∧pZ X.env s.heap m x u
 cell:∀ x c,X.env.cells.lookup x=some c→∃ v,s.heap.IsCell c v
 free:H X.env.locals=none
 freeC:∀ x c,X.env.cells.lookup x=some c→H c=none
 pin:∀ p∈X.pn++pins,s.heap.get? p.1=some p.2∧H p.1=none∧p.1≠X.env.locals∧p.1 ∉ X.fs∧∀ v,p.2.data≠.cell v
 hok:HOk X.prog X.w H s.heap
 len:σ.length=X.N.length
section
variable {X:Cx} {pins:List (Addr×Obj)} {σ:List (Option V)} {H H':Hp} {s:Shared} {h':Heap}
theorem Cx.Ok.nofr (ok:X.Ok) {b:Addr} {o:Obj} (e:X.base.get? b=some o):b ∉ X.fs:=fun hb=> by
 have:=(ok.funs.mem hb).1
 rw [e] at this; cases this
theorem Inv.bs (I:Inv X pins σ H s):∀ b o,X.base.get? b=some o→s.heap.get? b=some o∧H b=none:=fun b o e=>
 ⟨I.base.keep b o (I.ok.bs b o e).1 (I.ok.bs b o e).2 (I.ok.nofr e) (I.ok.noex b o e),I.base.free b o (I.ok.bs b o e).1 (I.ok.bs b o e).2 (I.ok.noex b o e)⟩
theorem Inv.bk (I:Inv X pins σ H s):∀ b o,X.base.get? b=some o→s.heap.get? b=some o:=fun b o e=> (I.bs b o e).1
theorem Inv.mod (I:Inv X pins σ H s):Mod X.K X.mg X.base:=I.ok.mod
theorem Inv.kIn (I:Inv X pins σ H s):X.K.In s.heap:=I.ok.mod.kin.keeps I.bk
theorem Inv.lt (I:Inv X pins σ H s):X.env.locals < s.heap.objs.size:=let ⟨_,hn,_⟩:=I.loc; hn.lt
theorem Inv.sz (I:Inv X pins σ H s):X.s₀.heap.objs.size≤s.heap.objs.size:=Nat.le_trans I.ok.above (Nat.le_of_lt I.lt)
theorem Inv.nofs (I:Inv X pins σ H s) {a:Addr} (h:s.heap.objs.size≤a):a ∉ X.fs:=fun hb=> by
 obtain ⟨_,o,ho,_⟩:=I.ok.funs.mem hb
 exact absurd (Nat.lt_of_lt_of_le (Heap.lt_size ho) (Nat.le_trans I.sz h)) (Nat.lt_irrefl _)
theorem Inv.cne (I:Inv X pins σ H s):∀ x c,X.env.cells.lookup x=some c→c≠X.env.locals:=fun x c e z=> by
 obtain ⟨v,o,ho,hd⟩:=I.cell x c e
 obtain ⟨m,⟨o',es,ep,ho',hd',_⟩,_⟩:=I.loc
 rw [z,ho'] at ho; cases ho; rw [hd'] at hd; cases hd
theorem Inv.funs (I:Inv X pins σ H s):s.heap.FunFrames X.base X.outer:=by
 have all:∀ (l:List Env),(∀ b∈frs l,b∈X.fs)→X.s₀.heap.FunFrames X.base l→s.heap.FunFrames X.base l:=by
  intro l
  induction l with
  | nil=> intro _ _; trivial
  | cons env r ih=>
   intro hs hl
   obtain ⟨hk,⟨L,o,hf,hn,ho,hd⟩,hr⟩:=hl
   have hL:L∈X.fs:=hs L (by unfold frs; rw [List.filterMap_cons,hf]; exact List.mem_cons_self)
   obtain ⟨sl,e⟩:=I.base.slot L o ho (I.ok.frf L hL) hL fun z=> I.ok.exfs L z hL
   exact ⟨hk,⟨L,_,hf,hn,e,hd⟩,ih (fun b hb=> hs b (by unfold frs; rw [List.filterMap_cons,hf]; exact List.mem_cons_of_mem _ hb)) hr⟩
 exact all X.outer (fun _ hb=> hb) I.ok.funs
theorem Inv.stack (I:Inv X pins σ H s):s.heap.FunFrames X.base X.stack:=by
 rcases I.ok.stk with e | ⟨e,hf⟩
 ·rw [e]; exact I.funs
 ·rw [e]
  obtain ⟨m,hn,_⟩:=I.loc
  refine .cons (by rw [I.ok.kind]; decide) hf hn ?_ I.funs
  exact Heap.get?_none_of_le (Nat.le_trans I.ok.bsz I.ok.above)
theorem Inv.stkSub (I:Inv X pins σ H s):∀ b∈frs X.stack,b∈X.env.locals::X.fs:=fun b hb=> by
 rcases I.ok.stk with e | ⟨e,hf⟩
 ·rw [e] at hb; exact List.mem_cons_of_mem _ hb
 ·rw [e] at hb
  unfold frs at hb
  rw [List.filterMap_cons,hf] at hb
  exact hb
theorem Inv.stkFree (I:Inv X pins σ H s):∀ b∈frs X.stack,H b=none:=fun b hb=> by
 rcases List.mem_cons.mp (I.stkSub b hb) with e | hb
 ·rw [e]; exact I.free
 ·obtain ⟨_,o,ho,_⟩:=I.ok.funs.mem hb
  exact I.base.free b o ho (I.ok.frf b hb) fun z=> I.ok.exfs b z hb
theorem Inv.step {g':Array GenState} {t':Nat} {d':Drawn} {ch:List Addr} (I:Inv X pins σ H s)
  (hch:∀ b∈ch,(b∈X.ex∨X.s₀.heap.objs.size≤b)∧b≠X.env.locals∧(∀ x c,X.env.cells.lookup x=some c→c≠b)∧∀ p∈X.pn++pins,p.1≠b)
  (keep:∀ b o,b≠X.env.locals→b ∉ X.fs→b ∉ ch→s.heap.get? b=some o→H b=none→h'.get? b=some o)
  (slot:∀ b o,b≠X.env.locals→b∈X.fs→b ∉ ch→s.heap.get? b=some o→H b=none→∃ sl,h'.get? b=some { o with slots:=sl }) (free:∀ b o,b ∉ ch→s.heap.get? b=some o→H b=none→H' b=none)
  (there:∀ b o,b ∉ ch→s.heap.get? b=some o→∃ o',h'.get? b=some o')
  (tups:∀ b xs,H b=some (.tup xs)→H' b=some (.tup xs)) (frzs:∀ b o u,H b=some (.frz o u)→H' b=some (.frz o u)) (tbls:∀ b ps,H b=some (.tbl ps)→∃ more,H' b=some (.tbl (ps++more)))
  (ns:∀ m,s.heap.Ns X.env.locals m→h'.Ns X.env.locals m) (hok:HOk X.prog X.w H' h') (hg:AllBare g'):
  Inv X pins σ H' { s with heap:=h',gens:=g',drawn:=d',toks:=t' }:=by
 have neL:∀ b o,X.s₀.heap.get? b=some o→b≠X.env.locals:=fun b o e=> Nat.ne_of_lt (Nat.lt_of_lt_of_le (Heap.lt_size e) I.ok.above)
 have neC:∀ b o,X.s₀.heap.get? b=some o→b ∉ X.ex→b ∉ ch:=fun b o e hx hb=> by
  rcases (hch b hb).1 with z | z
  ·exact hx z
  ·exact absurd (Nat.lt_of_lt_of_le (Heap.lt_size e) z) (Nat.lt_irrefl _)
 have cellK:∀ x c,X.env.cells.lookup x=some c→∀ v,s.heap.IsCell c v→h'.IsCell c v:=fun x c e v ⟨o,ho,hd⟩=> by
  have nch:c ∉ ch:=fun z=> (hch c z).2.2.1 x c e rfl
  by_cases hc:c∈X.fs
  ·obtain ⟨sl,q⟩:=slot c o (I.cne x c e) hc nch ho (I.freeC x c e)
   exact ⟨_,q,hd⟩
  ·exact ⟨o,keep c o (I.cne x c e) hc nch ho (I.freeC x c e),hd⟩
 refine ⟨I.ok,I.os,hg,⟨fun b o e n hb hx=> ?_,fun b o e n hb hx=> ?_,fun b o e n hx=> ?_,fun b o e hx=> ?_,fun b xs e=> tups b xs (I.base.tups b xs e),fun b o xs e=> frzs b o xs (I.base.frzs b o xs e),fun b ps e=> ?_⟩,?_,fun x c e=> ?_,?_,fun x c e=> ?_,fun p hp=> ?_,hok,I.len⟩
 ·exact keep b o (neL b o e) hb (neC b o e hx) (I.base.keep b o e n hb hx) (I.base.free b o e n hx)
 ·obtain ⟨sl,e1⟩:=I.base.slot b o e n hb hx
  obtain ⟨sl',e2⟩:=slot b _ (neL b o e) hb (neC b o e hx) e1 (I.base.free b o e n hx)
  exact ⟨sl',e2⟩
 ·obtain ⟨o',e1⟩:=I.base.there b o e hx
  exact free b o' (neC b o e hx) e1 (I.base.free b o e n hx)
 ·obtain ⟨o',e1⟩:=I.base.there b o e hx
  exact there b o' (neC b o e hx) e1
 ·obtain ⟨m1,e1⟩:=I.base.tbls b ps e
  obtain ⟨m2,e2⟩:=tbls b _ e1
  exact ⟨m1++m2,by rw [e2,Array.append_assoc]⟩
 ·obtain ⟨m,hn,hl⟩:=I.loc
  refine ⟨m,ns m hn,fun i x v e1 e2 e3=> ?_⟩
  obtain ⟨u,r,l⟩:=hl i x v e1 e2 e3
  refine ⟨u,r,?_⟩
  rcases l with l | ⟨k,c,e,z⟩
  ·exact .inl l
  ·exact .inr ⟨k,c,e,cellK x c e _ z⟩
 ·obtain ⟨v,z⟩:=I.cell x c e
  exact ⟨v,cellK x c e v z⟩
 ·obtain ⟨m,⟨o,_,_,ho,_⟩,_⟩:=I.loc
  exact free _ o (fun z=> (hch _ z).2.1 rfl) ho I.free
 ·obtain ⟨v,o,ho,hd⟩:=I.cell x c e
  exact free c o (fun z=> (hch c z).2.2.1 x c e rfl) ho (I.freeC x c e)
 ·obtain ⟨e,n,ne,nf,d⟩:=I.pin p hp
  have nch:p.1 ∉ ch:=fun z=> (hch p.1 z).2.2.2 p hp rfl
  exact ⟨keep p.1 p.2 ne nf nch e n,free p.1 p.2 nch e n,ne,nf,d⟩
theorem Inv.un {t':Nat} (I:Inv X pins σ H s) (u:Un X.fs [] H H' s.heap h') (hok:HOk X.prog X.w H' h'):Inv X pins σ H' { s with heap:=h',toks:=t' }:=by
 obtain ⟨m,⟨o,es,ep,ho,r⟩,_⟩:=id I.loc
 obtain ⟨sl,hL⟩:=u.any ho I.free (by simp)
 exact I.step (g':=s.gens) (d':=s.drawn) (ch:=[]) (fun _ z=> nomatch z) (fun b o _ hb _ e n=> u.keep b o e n hb (by simp)) (fun b o _ hb _ e n=> u.slot b o e n hb (by simp)) (fun b o _ e n=> u.free b o e n (by simp)) (fun b o _ e=> u.there b o e (by simp)) u.tups u.frzs u.tbls (fun m' hm=> by
  obtain ⟨o',es',ep',ho',r'⟩:=hm
  rw [ho] at ho'; cases ho'
  exact ⟨_,es',ep',hL,r'⟩) hok I.bare
theorem Inv.call {g':Array GenState} {t':Nat} {d':Drawn} {ch:List Addr} (I:Inv X pins σ H s) (u:Un (frs X.stack) ch H H' s.heap h') (hok:HOk X.prog X.w H' h') (hg:AllBare g')
  (hch:∀ b∈ch,(b∈X.ex∨X.s₀.heap.objs.size≤b)∧b≠X.env.locals∧(∀ x c,X.env.cells.lookup x=some c→c≠b)∧∀ p∈X.pn++pins,p.1≠b):
  Inv X pins σ H' { s with heap:=h',gens:=g',drawn:=d',toks:=t' }:=by
 obtain ⟨m,⟨o,es,ep,ho,r⟩,_⟩:=id I.loc
 obtain ⟨sl,hL⟩:=u.any ho I.free fun z=> (hch _ z).2.1 rfl
 exact I.step (ch:=ch) hch (fun b o hL hb hc e n=> u.keep b o e n (fun z=> (List.mem_cons.mp (I.stkSub b z)).elim hL hb) hc) (fun b o _ _ hc e n=> u.any e n hc) (fun b o hc e n=> u.free b o e n hc) (fun b o hc e=> u.there b o e hc) u.tups u.frzs u.tbls (fun m' hm=> by
  obtain ⟨o',es',ep',ho',r'⟩:=hm
  rw [ho] at ho'; cases ho'
  exact ⟨_,es',ep',hL,r'⟩) hok hg
theorem Inv.turned {t':Nat} {it:Addr} (I:Inv X pins σ H s) (k:∀ b o,b≠it→s.heap.get? b=some o→h'.get? b=some o) (hn:H it=none) (hL:it≠X.env.locals)
  (h1:it∈X.ex∨X.s₀.heap.objs.size≤it) (h2:∀ x c,X.env.cells.lookup x=some c→c≠it) (h3:∀ p∈X.pn++pins,p.1≠it):Inv X pins σ H { s with heap:=h',toks:=t' }:=by
 have nit:∀ b u,H b=some u→b≠it:=fun b u e z=> by rw [z,hn] at e; cases e
 refine I.step (g':=s.gens) (d':=s.drawn) (ch:=[it]) (fun b hb=> ?_) (fun b o _ _ hc e _=> k b o (fun z=> hc (by simp [z])) e) (fun b o _ _ hc e _=> ⟨o.slots,k b o (fun z=> hc (by simp [z])) e⟩) (fun _ _ _ _ n=> n)
  (fun b o hc e=> ⟨o,k b o (fun z=> hc (by simp [z])) e⟩) (fun _ _ e=> e) (fun _ _ _ e=> e) (fun b ps e=> ⟨#[],by rw [e]; simp⟩) (fun m hm=> ?_) (fun b u e=> ?_) I.bare
 ·have e:b=it:=by simpa using hb
  subst e
  exact ⟨h1,hL,h2,h3⟩
 ·obtain ⟨o,es,ep,ho,r⟩:=hm
  exact ⟨o,es,ep,k _ o (Ne.symm hL) ho,r⟩
 ·refine (I.hok b u e).stay (fun c v hc q=> k c v ?_ q) (fun _ q=> q) fun _ _ q=> q
  rcases hc with z | z
  ·rw [z]; exact nit b u e
  ·exact nit c _ z
theorem Inv.tok (I:Inv X pins σ H s) (t:Nat):Inv X pins σ H { s with toks:=t }:=I.un (h':=s.heap) (t':=t) Un.refl I.hok
theorem Inv.kept {t':Nat} (I:Inv X pins σ H s) (k:∀ b u,s.heap.get? b=some u→h'.get? b=some u):Inv X pins σ H { s with heap:=h',toks:=t' }:=I.un (Un.kept k) (I.hok.kept k)
theorem Inv.laid {a:Addr} {o:HO} {t':Nat} (I:Inv X pins σ H s) (k:∀ b u,s.heap.get? b=some u→h'.get? b=some u) (hp:s.heap.objs.size≤a) (new:bR X.prog X.w (upd H a o) h' a o):
  Inv X pins σ (upd H a o) { s with heap:=h',toks:=t' }:=I.un (Un.laid k hp (I.hok.fresh hp)) (I.hok.laid k hp new)
theorem Inv.write {x e:Addr} {o:HO} {t':Nat} (I:Inv X pins σ H s) (mu:Mut (H x)) (he:e=x∨H e=some (.own x)) (k:∀ b u,b≠e→s.heap.get? b=some u→h'.get? b=some u) (heo:∃ u,h'.get? e=some u)
  (new:bR X.prog X.w (upd H x o) h' x o):Inv X pins σ (upd H x o) { s with heap:=h',toks:=t' }:=I.un (Un.write mu he k heo) (I.hok.write mu he k heo new)
theorem Inv.weak {σ':List (Option V)} (I:Inv X pins σ H s) (hl:σ'.length=σ.length) (w:∀ (i:Nat) v,σ'[i]?=some (some v)→σ[i]?=some (some v)):Inv X pins σ' H s:=
 ⟨I.ok,I.os,I.bare,I.base,let ⟨m,hn,hl'⟩:=I.loc; ⟨m,hn,fun i x v e1 e2 e3=> hl' i x v e1 (w i v e2) e3⟩,I.cell,I.free,I.freeC,I.pin,I.hok,hl.trans I.len⟩
theorem Inv.pins_of {pins':List (Addr×Obj)} (I:Inv X pins σ H s) (h:∀ p∈pins',s.heap.get? p.1=some p.2∧H p.1=none∧p.1≠X.env.locals∧p.1 ∉ X.fs∧∀ v,p.2.data≠.cell v):Inv X pins' σ H s:=
 ⟨I.ok,I.os,I.bare,I.base,I.loc,I.cell,I.free,I.freeC,fun p hp=> (List.mem_append.mp hp).elim (fun z=> I.pin p (List.mem_append_left _ z)) (h p),I.hok,I.len⟩
theorem fC {N:List Str} (hN:N.Nodup) {i j:Nat} {x:Str} (a:N[i]?=some x) (b:N[j]?=some x):i=j:=by
 obtain ⟨h1,e1⟩:=List.getElem?_eq_some_iff.mp a
 obtain ⟨h2,e2⟩:=List.getElem?_eq_some_iff.mp b
 exact (List.getElem_inj hN).mp (e1.trans e2.symm)
theorem eO {M:Model} {A:Around} {E:Value→Shared→Prop} {i:Nat} {x:Str} {v:V} {u:Value} {Q:Unit→Shared→Prop} (I:Inv X pins σ H s) (hN:X.N.Nodup) (hi:X.N[i]?=some x) (hx:Loc X.env.scope x) (r:aP v u)
  (h:∀ s',Inv X pins (σ.set i (some v)) H s'→(∃ a,Heap.SameBut a s.heap s'.heap∧(a=X.env.locals∨X.env.cells.lookup x=some a))→Q () s') (hf:X.fn x=true∨X.env.scope.names.lookup x=some .local:=by first | exact .inl rfl | exact .inr rfl | assumption):wpAny M A (storeName X.env x u) Q E s:=by
 obtain ⟨m,hn,hl⟩:=id I.loc
 have hcls:(X.env.scope.kind==.class || (X.env.scope.kind==.module && X.env.locals !=X.env.globals))=false:=by rw [I.ok.kind]; rfl
 have hiσ:i < σ.length:=by rw [I.len]; exact (List.getElem?_eq_some_iff.mp hi).1
 have cne:=I.cne
 have tracked:∀ {a:Addr} {h':Heap},(∃ o,s.heap.get? a=some o∧H a=none)→Heap.SameBut a s.heap h'→HOk X.prog X.w H h':=fun {a h'} ha hs b ob e=> by
  obtain ⟨_,_,hfree⟩:=ha
  refine (I.hok b ob e).stay (fun c w' hc q=> (hs.2 c ?_).trans q) (fun _ q=> q) fun _ _ q=> q
  rintro rfl
  rcases hc with rfl | hc
  ·rw [hfree] at e; cases e
  ·rw [hfree] at hc; cases hc
 rcases hx with hk | hk
 ·refine wpAny_storeName_local hk hn (fun h' hn' hs=> ?_) hcls
  obtain ⟨oL,_,_,hoL,_⟩:=id hn
  refine h _ ⟨I.ok,I.os,I.bare,⟨fun b o e n hb hx=> ?_,fun b o e n hb hx=> ?_,I.base.free,fun b o e hx=> ?_,I.base.tups,I.base.frzs,I.base.tbls⟩,⟨_,hn',fun j y v' e1 e2 e3=> ?_⟩,fun y c e=> ?_,I.free,I.freeC,fun p hp=> ?_,tracked ⟨oL,hoL,I.free⟩ hs,by simpa using I.len⟩ ⟨_,hs,.inl rfl⟩
  ·exact (hs.2 b (Nat.ne_of_lt (Nat.lt_of_lt_of_le (Heap.lt_size e) I.ok.above))).trans (I.base.keep b o e n hb hx)
  ·obtain ⟨sl,e1⟩:=I.base.slot b o e n hb hx
   exact ⟨sl,(hs.2 b (Nat.ne_of_lt (Nat.lt_of_lt_of_le (Heap.lt_size e) I.ok.above))).trans e1⟩
  ·obtain ⟨o',e1⟩:=I.base.there b o e hx
   exact ⟨o',(hs.2 b (Nat.ne_of_lt (Nat.lt_of_lt_of_le (Heap.lt_size e) I.ok.above))).trans e1⟩
  ·by_cases hj:j=i
   ·subst hj
    rw [hi] at e1; cases e1
    rw [List.getElem?_set_self hiσ] at e2
    cases e2
    exact ⟨u,r,.inl ⟨hk,by simp⟩⟩
   ·rw [List.getElem?_set_ne (Ne.symm hj)] at e2
    obtain ⟨u',r',q⟩:=hl j y v' e1 e2 e3
    refine ⟨u',r',?_⟩
    rcases q with ⟨k,e⟩ | ⟨k,c,e,z⟩
    ·refine .inl ⟨k,?_⟩
     have:y≠x:=fun e=> hj (fC hN e1 (e ▸ hi))
     simp [this,e]
    ·exact .inr ⟨k,c,e,z.sameBut hs (cne y c e)⟩
  ·obtain ⟨w',z⟩:=I.cell y c e
   exact ⟨w',z.sameBut hs (cne y c e)⟩
  ·obtain ⟨e,n,ne,nf,d⟩:=I.pin p hp
   exact ⟨(hs.2 p.1 ne).trans e,n,ne,nf,d⟩
 ·have hfn:X.fn x=true:=by
   rcases hf with z | z
   ·exact z
   ·rw [z] at hk; cases hk
  obtain ⟨c,hc⟩:=I.ok.has x (.inl hk)
  obtain ⟨w',z⟩:=I.cell x c hc
  refine wpAny_storeName_cell I.ok.kind hk hc z (fun h' hc' hs=> ?_)
  obtain ⟨oc,hoc,hocd⟩:=id z
  refine h { s with heap:=h' } ⟨I.ok,I.os,I.bare,⟨fun b o e n hb hx=> ?_,fun b o e n hb hx=> ?_,I.base.free,fun b o e hx=> ?_,I.base.tups,I.base.frzs,I.base.tbls⟩,⟨m,hn.sameBut hs (Ne.symm (cne x c hc)),fun j y v' e1 e2 e3=> ?_⟩,fun y c' e=> ?_,I.free,I.freeC,fun p hp=> ?_,tracked ⟨oc,hoc,I.freeC x c hc⟩ hs,by simpa using I.len⟩ ⟨c,hs,.inr hc⟩
  ·exact (hs.2 b (Nat.ne_of_lt (Nat.lt_of_lt_of_le (Heap.lt_size e) (I.ok.cab x c hfn hc)))).trans (I.base.keep b o e n hb hx)
  ·obtain ⟨sl,e1⟩:=I.base.slot b o e n hb hx
   exact ⟨sl,(hs.2 b (Nat.ne_of_lt (Nat.lt_of_lt_of_le (Heap.lt_size e) (I.ok.cab x c hfn hc)))).trans e1⟩
  ·obtain ⟨o',e1⟩:=I.base.there b o e hx
   exact ⟨o',(hs.2 b (Nat.ne_of_lt (Nat.lt_of_lt_of_le (Heap.lt_size e) (I.ok.cab x c hfn hc)))).trans e1⟩
  ·by_cases hj:j=i
   ·subst hj
    rw [hi] at e1; cases e1
    rw [List.getElem?_set_self hiσ] at e2
    cases e2
    exact ⟨u,r,.inr ⟨.inl hk,c,hc,hc'⟩⟩
   ·rw [List.getElem?_set_ne (Ne.symm hj)] at e2
    obtain ⟨u',r',q⟩:=hl j y v' e1 e2 e3
    refine ⟨u',r',?_⟩
    rcases q with q | ⟨k,c',e,z'⟩
    ·exact .inl q
    ·refine .inr ⟨k,c',e,z'.sameBut hs ?_⟩
     rintro rfl
     exact hj (fC hN e1 (I.ok.inj _ _ _ e hc ▸ hi))
  ·by_cases hcc:c'=c
   ·subst hcc; exact ⟨_,hc'⟩
   ·obtain ⟨w2,z2⟩:=I.cell y c' e
    exact ⟨w2,z2.sameBut hs hcc⟩
  ·obtain ⟨e,n,ne,nf,d⟩:=I.pin p hp
   refine ⟨(hs.2 p.1 ?_).trans e,n,ne,nf,d⟩
   intro q
   rw [q,hoc] at e
   have q':oc=p.2:=Option.some.inj e
   exact d w' (by rw [← q']; exact hocd)
theorem dw {M:Model} {A:Around} {E:Value→Shared→Prop} {i:Nat} {x:Str} {v:V} {u:Value} {Q:Unit→Shared→Prop} (I:Inv X pins σ H s) (hN:X.N.Nodup) (hi:X.N[i]?=some x) (hx:Loc X.env.scope x) (r:aP v u)
  (h:∀ s',Inv X pins (σ.set i (some v)) H s'→Q () s') (hf:X.fn x=true∨X.env.scope.names.lookup x=some .local:=by first | exact .inl rfl | exact .inr rfl | assumption):wpAny M A (storeName X.env x u) Q E s:=
 eO I hN hi hx r (fun s' I' _=> h s' I') hf
theorem Inv.call' {s':Shared} {ch:List Addr} (I:Inv X pins σ H s) (ho:s'.os=s.os) (u:Un (frs X.stack) ch H H' s.heap s'.heap) (hok:HOk X.prog X.w H' s'.heap) (hg:AllBare s'.gens)
  (hch:∀ b∈ch,(b∈X.ex∨X.s₀.heap.objs.size≤b)∧b≠X.env.locals∧(∀ x c,X.env.cells.lookup x=some c→c≠b)∧∀ p∈X.pn++pins,p.1≠b):Inv X pins σ H' s':=by
 obtain ⟨h',g',d',t',o'⟩:=s'
 have e:o'=s.os:=ho
 subst e
 exact I.call (g':=g') (t':=t') (d':=d') u hok hg hch
end
abbrev XK:=Value→Option Addr→Hp→Prop
abbrev St:=List (Option V)
abbrev VK:=V→Hp→Prop
abbrev TE:=St→Hp→VK→Prop
abbrev TT:=St→Hp→(Bool→Hp→Prop)→Prop
abbrev TA:=St→Hp→(List V→Hp→Prop)→Prop
structure fF where
 nx:St→Hp→Prop
 rt:VK
 bk:St→Hp→Prop:=fun _ _=> False
 ct:St→Hp→Prop:=fun _ _=> False
abbrev TS:=fF→St→Hp→Prop
def EP (X:Cx) (pins:List (Addr×Obj)) (σ:St) (Q:VK) (u:Value) (s':Shared):Prop:=∃ v H',Inv X pins σ H' s'∧aP v u∧Q v H'
def TP (X:Cx) (pins:List (Addr×Obj)) (σ:St) (Q:Bool→Hp→Prop) (b:Bool) (s':Shared):Prop:=∃ H',Inv X pins σ H' s'∧Q b H'
def AP (X:Cx) (pins:List (Addr×Obj)) (σ:St) (Q:List V→Hp→Prop) (us:List Value) (s':Shared):Prop:=∃ vs H',Inv X pins σ H' s'∧aQ vs us∧Q vs H'
def SP (X:Cx) (pins:List (Addr×Obj)) (D:fF) (f:Flow) (s':Shared):Prop:=
 match f with
 | .next=> ∃ σ' H',Inv X pins σ' H' s'∧D.nx σ' H'
 | .brk=> ∃ σ' H',Inv X pins σ' H' s'∧D.bk σ' H'
 | .cont=> ∃ σ' H',Inv X pins σ' H' s'∧D.ct σ' H'
 | .ret u=> ∃ v σ' H',Inv X pins σ' H' s'∧aP v u∧D.rt v H'
def PE (X:Cx) (e:Expr) (t:TE):Prop:=
 ∀ (pins:List (Addr×Obj)) (s:Shared) (σ:St) (H:Hp) (Q:VK),Inv X pins σ H s→t σ H Q→wpAny (model X.prog X.w) X.A (eval e X.env) (EP X pins σ Q) X.xe s
def PT (X:Cx) (e:Expr) (t:TT):Prop:=
 ∀ (pins:List (Addr×Obj)) (s:Shared) (σ:St) (H:Hp) (Q:Bool→Hp→Prop),Inv X pins σ H s→t σ H Q→wpAny (model X.prog X.w) X.A (isTrue e X.env (eval e X.env)) (TP X pins σ Q) X.xe s
def PW (X:Cx) (e:Expr) (t:TT):Prop:=
 ∀ (whole:Sem Value) (pins:List (Addr×Obj)) (s:Shared) (σ:St) (H:Hp) (Q:Bool→Hp→Prop),Inv X pins σ H s→t σ H Q→wpAny (model X.prog X.w) X.A (isTrue e X.env whole) (TP X pins σ Q) X.xe s
theorem PW.pt {X:Cx} {e:Expr} {t:TT} (h:PW X e t):PT X e t:=h _
def PA (X:Cx) (es:List Expr) (t:TA):Prop:=
 ∀ (pos:Pos) (pins:List (Addr×Obj)) (s:Shared) (σ:St) (H:Hp) (Q:List V→Hp→Prop),Inv X pins σ H s→t σ H Q→wpAny (model X.prog X.w) X.A (spliced (backTo pos (starEach es X.env))) (AP X pins σ Q) X.xe s
def PS (X:Cx) (st:Stmt) (t:TS):Prop:=
 ∀ (pins:List (Addr×Obj)) (s:Shared) (σ:St) (H:Hp) (D:fF),Inv X pins σ H s→t D σ H→wpAny (model X.prog X.w) X.A (exec st X.env) (SP X pins D) X.xe s
def PSs (X:Cx) (st:List Stmt) (t:TS):Prop:=
 ∀ (pins:List (Addr×Obj)) (s:Shared) (σ:St) (H:Hp) (D:fF),Inv X pins σ H s→t D σ H→wpAny (model X.prog X.w) X.A (execs st X.env) (SP X pins D) X.xe s
theorem thn {α:Type} {t:Sem α} {Q Q':α→Shared→Prop} {M:Model} {A:Around} {E:Value→Shared→Prop} {s:Shared} (h:wpAny M A t Q E s) (hQ:∀ a s,Q a s→Q' a s):wpAny M A t Q' E s:=wpAny_mono h hQ fun _ _ x=> x
end L2
namespace L2
open PySem PySem.Spec PyProof.Rows
section
variable {X:Cx}
def p0 (i:Nat):TE:=fun σ H Q=> ∃ v,σ[i]?=some (some v)∧Q v H
def tC (v:V):TE:=fun _ H Q=> Q v H
theorem fQ {i:Nat} {x:Str} {pos:Pos} (hN:X.N[i]?=some x) (hv:Vis X.env.scope x) (hd:(x==("__debug__":Str))=false:=by decide) (hcd:(x==("__classdict__":Str))=false:=by decide):PE X (.Name x pos) (p0 i):=by
 intro pins s σ H Q I h
 obtain ⟨v,e,h⟩:=h
 obtain ⟨m,hn,hl⟩:=I.loc
 obtain ⟨u,r,l⟩:=hl i x v hN e hv
 have fin:EP X pins σ Q u s:=⟨v,H,I,r,h⟩
 rcases l with ⟨hk,hm⟩ | ⟨hk,c,hc,hcell⟩
 ·exact wpAny_Name (wpAny_loadName_local I.ok.kind hk hn hm fin) hd
 ·rcases hk with hk | hk
  ·exact wpAny_Name (wpAny_loadName_cell I.ok.kind hk hc hcell fin) hd
  ·exact wpAny_Name (wpAny_loadName_free I.ok.kind hk hc hcell fin hcd) hd
theorem nG {i j pos}:PE X (.Constant (.int i) j pos) (tC (.int i)):=fun _ _ _ H _ I h=> wpAny_Constant_int ⟨.int i,H,I.tok _,⟨_,rfl⟩,h⟩
theorem pj {b j pos}:PE X (.Constant (.bool b) j pos) (tC (.bl b)):=fun _ _ _ H _ I h=> Constant_bool ⟨.bl b,H,I,rfl,h⟩
theorem oa {x j pos}:PE X (.Constant (.str x) j pos) (tC (.str x)):=fun _ _ _ H _ I h=> Calls.Constant_str ⟨.str x,H,I.tok _,⟨_,rfl⟩,h⟩
def Gl (X:Cx) (x:Str):Prop:=X.env.kindOf x=some .globalImplicit
theorem d8 {E:Value→Shared→Prop} {pins:List (Addr×Obj)} {s:Shared} {σ:St} {H:Hp} {x:Str} {u:Value} {pos:Pos} {Q:Value→Shared→Prop} (I:Inv X pins σ H s) (hg:Gl X x) (hm:X.mg x=some u) (h:Q u s)
  (hd:(x==("__debug__":Str))=false:=by decide):wpAny (model X.prog X.w) X.A (eval (.Name x pos) X.env) Q E s:=
 Calls.Name_function_global I.ok.kind hg (Calls.loadGlobal_global (by rw [I.ok.glob]; exact I.mod.glob.keeps I.bk) hm h) hd
theorem fO {E:Value→Shared→Prop} {pins:List (Addr×Obj)} {s:Shared} {σ:St} {H:Hp} {x:Str} {u:Value} {pos:Pos} {Q:Value→Shared→Prop} (I:Inv X pins σ H s) (hg:Gl X x) (hm:X.mg x=none) (hv:bootBuiltins x=some u) (h:Q u s)
  (hn:x≠"__name__":=by decide) (hd:(x==("__debug__":Str))=false:=by decide):wpAny (model X.prog X.w) X.A (eval (.Name x pos) X.env) Q E s:=by
 obtain ⟨mb,h1,h2⟩:=I.mod.blt
 exact Calls.Name_function_global I.ok.kind hg (Calls.loadGlobal_builtin (by rw [I.ok.glob]; exact I.mod.glob.keeps I.bk) hm (by rw [I.ok.blt]; exact h1.keeps I.bk) ((h2 x hn).trans hv) h) hd
theorem gP {x:Str} {v:V} {u:Value} {pos:Pos} (hg:Gl X x) (hm:X.mg x=some u) (r:aP v u) (hd:(x==("__debug__":Str))=false:=by decide):PE X (.Name x pos) (tC v):=
 fun _ _ _ H _ I h=> d8 I hg hm ⟨v,H,I,r,h⟩ hd
theorem mH {x:Str} {v:V} {u:Value} {pos:Pos} (hg:Gl X x) (hm:X.mg x=none) (hv:bootBuiltins x=some u) (r:aP v u) (hn:x≠"__name__":=by decide) (hd:(x==("__debug__":Str))=false:=by decide):PE X (.Name x pos) (tC v):=
 fun _ _ _ H _ I h=> fO I hg hm hv ⟨v,H,I,r,h⟩ hn hd
variable {a b:Expr} {ta tb:TE} {pos:Pos}
def tB (t:TE):TT:=fun σ H Q=> t σ H fun x H1=> ∃ c,x=.bl c∧Q c H1
theorem nt {e:Expr} {t:TE} (h:PE X e t) (he:∀ whole,isTrue e X.env whole=(do let v ← whole; standAt e.pos; holding [v] (truthy v)):=by intro _; rfl):PT X e (tB t):=by
 intro pins s σ H Q I hw
 refine isTrue_plain (thn (h pins s σ H _ I hw) fun v s1 ⟨x,H1,I1,r1,q1⟩=> ?_) (he _)
 obtain ⟨d,rfl,q⟩:=q1
 cases r1
 exact wpAny_truthy_bool ⟨H1,I1,q⟩
variable {tA tB':TT} {bq:List Expr}
def tOr (t u:TT):TT:=fun σ H Q=> t σ H fun c H1=> if c=true then Q true H1 else u σ H1 Q
def pT (t:TT):TT:=fun σ H Q=> t σ H fun c H1=> Q (!c) H1
theorem oo (ha:PT X a tA):PW X (.BoolOp .Or [a] pos) tA:=by
 intro wh pins s σ H Q I h
 refine isTrue_or (thn (ha pins s σ H Q I h) fun c s1 e=> ?_)
 cases c with
 | false=> exact isTrue_or_nil e
 | true=> exact e
theorem m5 (ha:PT X a tA) (hb:PW X (.BoolOp .Or (b::bq) pos) tB'):PW X (.BoolOp .Or (a::b::bq) pos) (tOr tA tB'):=by
 intro wh pins s σ H Q I h
 refine isTrue_or (thn (ha pins s σ H _ I h) fun c s1 ⟨H1,I1,q1⟩=> ?_)
 cases c with
 | true=> exact ⟨H1,I1,q1⟩
 | false=> exact hb wh pins s1 σ H1 Q I1 q1
theorem nR (ha:PT X a tA):PT X (.UnaryOp .Not a pos) (pT tA):=by
 intro pins s σ H Q I h
 exact isTrue_not (ha pins s σ H (fun c H1=> Q (!c) H1) I h)
def pM (ta tb:TE):TE:=fun σ H Q=> ta σ H fun x H1=> ∃ c,x=.bl c∧if c=true then tb σ H1 Q else Q (.bl false) H1
def qi (ta tb:TE):TE:=fun σ H Q=> ta σ H fun x H1=> ∃ c,x=.bl c∧if c=true then Q (.bl true) H1 else tb σ H1 Q
def oQ (ta:TE):TE:=fun σ H Q=> ta σ H fun x H1=> ∃ c,x=.bl c∧Q (.bl (!c)) H1
theorem om {op} {t:TE} (h:PE X a t):PE X (.BoolOp op [a] pos) t:=fun pins s σ H Q I hw=> BoolOp_one (h pins s σ H Q I hw)
theorem lr (ha:PE X a ta) (hb:PE X (.BoolOp .And (b::bq) pos) tb):PE X (.BoolOp .And (a::b::bq) pos) (pM ta tb):=by
 intro pins s σ H Q I h
 refine BoolOp_and (thn (ha pins s σ H _ I h) fun v s1 ⟨x,H1,I1,r1,q1⟩=> ?_)
 obtain ⟨c,rfl,q1⟩:=q1
 cases r1
 refine wpAny_truthy_bool ?_
 cases c with
 | true=> exact hb pins s1 σ H1 Q I1 q1
 | false=> exact ⟨.bl false,H1,I1,rfl,q1⟩
theorem mR (ha:PE X a ta) (hb:PE X (.BoolOp .Or (b::bq) pos) tb):PE X (.BoolOp .Or (a::b::bq) pos) (qi ta tb):=by
 intro pins s σ H Q I h
 refine BoolOp_or (thn (ha pins s σ H _ I h) fun v s1 ⟨x,H1,I1,r1,q1⟩=> ?_)
 obtain ⟨c,rfl,q1⟩:=q1
 cases r1
 refine wpAny_truthy_bool ?_
 cases c with
 | false=> exact hb pins s1 σ H1 Q I1 q1
 | true=> exact ⟨.bl true,H1,I1,rfl,q1⟩
theorem nB (ha:PE X a ta):PE X (.UnaryOp .Not a pos) (oQ ta):=by
 intro pins s σ H Q I h
 refine UnaryOp_ (thn (ha pins s σ H _ I h) fun v s1 ⟨x,H1,I1,r1,q1⟩=> ?_)
 obtain ⟨c,rfl,q1⟩:=q1
 cases r1
 exact not_of (wpAny_truthy_bool ⟨.bl (!c),H1,I1,rfl,q1⟩)
end
end L2
namespace L2
open PySem PySem.Spec PyProof.Rows
def SqL (K:PySem.W.Frag) (H:Hp) (a:Addr) (xs:List V):Prop:=
 Rd H a (.lst xs)∨
  ∃ (o:Obj) (its:Array Value) (n:Nat),K.lookup a=some o∧o.cls=.type "list"∧o.dict=none∧o.data=.seq its n∧its.size≤sizeLine∧aQ xs its.toList
def SqT (K:PySem.W.Frag) (H:Hp) (a:Addr) (xs:List V):Prop:=
 Rd H a (.tup xs)∨
  ∃ (o:Obj) (its:Array Value) (n:Nat),K.lookup a=some o∧o.cls=.type "tuple"∧o.data=.seq its n∧its.size≤sizeLine∧aQ xs its.toList
def qf:Value→Option V
 | .none=> some .non
 | .bool b=> some (.bl b)
 | .int i _=> some (.int i)
 | .str x _=> some (.str x)
 | .bytes b _=> some (.byt b)
 | .float b _=> some (.flt b)
 | .ref a=> some (.ref a)
 | .type n=> some (.ty n)
 | _=> none
theorem aP.abs {x:V} {u:Value} (r:aP x u):qf u=some x:=by
 cases x with
 | non=> cases r; rfl
 | bl _=> cases r; rfl
 | int _=> obtain ⟨t,rfl⟩:=r; rfl
 | str _=> obtain ⟨t,rfl⟩:=r; rfl
 | byt _=> obtain ⟨t,rfl⟩:=r; rfl
 | flt _=> obtain ⟨t,rfl⟩:=r; rfl
 | ref _=> cases r; rfl
 | ty _=> cases r; rfl
theorem aP.inj {x y:V} {u:Value} (r:aP x u) (q:aP y u):x=y:=Option.some.inj (r.abs.symm.trans q.abs)
theorem aQ.inj:∀ {xs ys:List V} {us:List Value},aQ xs us→aQ ys us→xs=ys
 | _,_,_,.nil,.nil=> rfl
 | _,_,_,.cons r t,.cons r' t'=> by rw [r.inj r',aQ.inj t t']
section
variable {X:Cx} {pins:List (Addr×Obj)} {σ:St} {H:Hp} {s:Shared} {a:Addr} {xs ys:List V}
theorem SqL.of {K:PySem.W.Frag} (h:H a=some (.lst xs)):SqL K H a xs:=.inl (.inl h)
theorem SqT.of {K:PySem.W.Frag} (h:H a=some (.tup xs)):SqT K H a xs:=.inl (.inl h)
theorem Inv.list (I:Inv X pins σ H s) (h:SqL X.K H a xs):∃ its:List Value,aQ xs its∧PlainL s.heap a its.toArray∧xs.length≤sizeLine:=by
 rcases h with h | ⟨o,its,n,hk,hc,hd,hs,hz,r⟩
 ·obtain ⟨z,its,n,r,e⟩:=h.ok I.hok
  exact ⟨its,r,⟨_,n,e,rfl,rfl,rfl⟩,z⟩
 ·refine ⟨its.toList,r,⟨o,n,I.kIn a o hk,hc,hd,by simpa using hs⟩,?_⟩
  have e:=r.length
  simp only [Array.length_toList] at e
  omega
theorem Inv.tuple (I:Inv X pins σ H s) (h:SqT X.K H a xs):∃ its:List Value,aQ xs its∧IsTup s.heap a its.toArray∧xs.length≤sizeLine:=by
 rcases h with h | ⟨o,its,n,hk,hc,hs,hz,r⟩
 ·obtain ⟨z,its,r,p⟩:=h.ok I.hok
  exact ⟨its,r,p,z⟩
 ·refine ⟨its.toList,r,⟨o,I.kIn a o hk,hc,n,by simpa using hs⟩,?_⟩
  have e:=r.length
  simp only [Array.length_toList] at e
  omega
theorem Inv.list_inj (I:Inv X pins σ H s) (h:SqL X.K H a xs) (h':SqL X.K H a ys):xs=ys:=by
 obtain ⟨its,r,⟨o,n,e,_,_,d⟩,_⟩:=I.list h
 obtain ⟨its',r',⟨o',n',e',_,_,d'⟩,_⟩:=I.list h'
 rw [e] at e'; cases e'
 rw [d] at d'
 injection d' with d1 _
 have:its=its':=by simpa using congrArg Array.toList d1
 subst this
 exact r.inj r'
theorem Inv.tuple_inj (I:Inv X pins σ H s) (h:SqT X.K H a xs) (h':SqT X.K H a ys):xs=ys:=by
 obtain ⟨its,r,⟨o,e,_,n,d⟩,_⟩:=I.tuple h
 obtain ⟨its',r',⟨o',e',_,n',d'⟩,_⟩:=I.tuple h'
 rw [e] at e'; cases e'
 rw [d] at d'
 injection d' with d1 _
 have:its=its':=by simpa using congrArg Array.toList d1
 subst this
 exact r.inj r'
end
abbrev Cx.wish (X:Cx) (E:Value→Shared→Prop):Cx:={ X with xe:=E }
abbrev Cx.nox (X:Cx):Cx:=X.wish fun _ _=> False
theorem Cx.Ok.wish {X:Cx} (ok:X.Ok) (E:Value→Shared→Prop):(X.wish E).Ok:=
 ⟨ok.mod,ok.kind,ok.glob,ok.blt,ok.above,ok.inj,ok.has,ok.cab,ok.hd,ok.frames,ok.stk,ok.exf,ok.bs,ok.bsz,ok.noex,ok.exfs,ok.funs,ok.frf⟩
theorem Cx.Ok.unwish {X:Cx} {E:Value→Shared→Prop} (ok:(X.wish E).Ok):X.Ok:=
 ⟨ok.mod,ok.kind,ok.glob,ok.blt,ok.above,ok.inj,ok.has,ok.cab,ok.hd,ok.frames,ok.stk,ok.exf,ok.bs,ok.bsz,ok.noex,ok.exfs,ok.funs,ok.frf⟩
section
variable {X:Cx} {pins:List (Addr×Obj)} {σ:St} {H:Hp} {s:Shared} {E:Value→Shared→Prop}
theorem Inv.wish (I:Inv X pins σ H s) (E:Value→Shared→Prop):Inv (X.wish E) pins σ H s:=⟨I.ok.wish E,I.os,I.bare,I.base,I.loc,I.cell,I.free,I.freeC,I.pin,I.hok,I.len⟩
theorem Inv.unwish (I:Inv (X.wish E) pins σ H s):Inv X pins σ H s:=⟨I.ok.unwish,I.os,I.bare,I.base,I.loc,I.cell,I.free,I.freeC,I.pin,I.hok,I.len⟩
theorem SP.unwish {D:fF} {f:Flow} {s':Shared} (h:SP (X.wish E) pins D f s'):SP X pins D f s':=by
 cases f with
 | next=> obtain ⟨σ',H',I,q⟩:=h; exact ⟨σ',H',I.unwish,q⟩
 | brk=> obtain ⟨σ',H',I,q⟩:=h; exact ⟨σ',H',I.unwish,q⟩
 | cont=> obtain ⟨σ',H',I,q⟩:=h; exact ⟨σ',H',I.unwish,q⟩
 | ret u=> obtain ⟨v,σ',H',I,r,q⟩:=h; exact ⟨v,σ',H',I.unwish,r,q⟩
theorem PSs.nox {st:List Stmt} {t:TS} (h:PSs X.nox st t):PSs X st t:=fun pins s σ H D I hw=>
 wpAny_mono (h pins s σ H D (I.wish _) hw) (fun _ _ q=> q.unwish) fun _ _ z=> False.elim z
end
section
variable {X:Cx} {st:Stmt} {bq:List Stmt} {t u:TS} {e:Expr} {te:TE} {pos:Pos}
def pP:TS:=fun D σ H=> D.nx σ H
def p7 (t u:TS):TS:=fun D σ H=> t { D with nx:=u D } σ H
theorem lS:PSs X [] pP:=fun _ _ σ H _ I h=> wpAny_execs_nil ⟨σ,H,I,h⟩
theorem kL (h1:PS X st t) (h2:PSs X bq u):PSs X (st::bq) (p7 t u):=by
 intro pins s σ H D I h
 refine wpAny_execs_cons (thn (h1 pins s σ H { D with nx:=u D } I h) fun f s1 q=> ?_)
 cases f with
 | next=>
  obtain ⟨σ',H',I',q⟩:=q
  exact h2 pins s1 σ' H' D I' q
 | ret v=> exact q
 | brk=> exact q
 | cont=> exact q
theorem Inv.quiet {pins:List (Addr×Obj)} {σ:St} {H:Hp} {s:Shared} (I:Inv X pins σ H s):interactive X.env=false:=by simp [interactive,I.ok.kind]
def oW (te:TE):TS:=fun D σ H=> te σ H fun _ H1=> D.nx σ H1
theorem gZ (he:PE X e te) (hs:swapsWith e none pos.line X.env=pure false:=by rfl):PS X (.Expr e pos) (oW te):=by
 intro pins s σ H D I h
 exact wpAny_Expr_any (thn (he pins s σ H _ I h) fun v s1 ⟨x,H1,I1,r1,q1⟩=> ⟨σ,H1,I1,q1⟩) I.quiet hs
def pV (te:TE):TS:=fun D σ H=> te σ H D.rt
theorem gH (he:PE X e te):PS X (.Return (some e) pos) (pV te):=by
 intro pins s σ H D I h
 exact wpAny_Return_some (thn (he pins s σ H _ I h) fun v s1 ⟨x,H1,I1,r1,q1⟩=> ⟨x,σ,H1,I1,r1,q1⟩)
def qk (c:TT) (t u:TS):TS:=fun D σ H=> c σ H fun b H1=> if b=true then t D σ H1 else u D σ H1
theorem nj {c:Expr} {a b:List Stmt} {tc:TT} (hc:PT X c tc) (ha:PSs X a t) (hb:PSs X b u):PS X (.If c a b pos) (qk tc t u):=by
 intro pins s σ H D I h
 refine wpAny_If (thn (hc pins s σ H _ I h) fun d s1 ⟨H1,I1,q1⟩=> ?_)
 cases d with
 | true=> exact ha pins s1 σ H1 D I1 q1
 | false=> exact hb pins s1 σ H1 D I1 q1
end
abbrev TG:=V→St→Hp→(St→Hp→Prop)→Prop
abbrev TGs:=List V→St→Hp→(St→Hp→Prop)→Prop
def PG (X:Cx) (target:Expr) (t:TG):Prop:=
 ∀ (pins:List (Addr×Obj)) (s:Shared) (σ:St) (H:Hp) (v:V) (u:Value) (Q:St→Hp→Prop),Inv X pins σ H s→aP v u→t v σ H Q→
  wpAny (model X.prog X.w) X.A (assign target X.env u) (fun _ s'=> ∃ σ' H',Inv X pins σ' H' s'∧Q σ' H') X.xe s
def PGs (X:Cx) (ts:List Expr) (t:TGs):Prop:=
 ∀ (pins:List (Addr×Obj)) (s:Shared) (σ:St) (H:Hp) (vs:List V) (us:List Value) (Q:St→Hp→Prop),Inv X pins σ H s→aQ vs us→t vs σ H Q→
  wpAny (model X.prog X.w) X.A (assignInOrder ((assignEach ts X.env).map (·.2)) us) (fun _ s'=> ∃ σ' H',Inv X pins σ' H' s'∧Q σ' H') X.xe s
abbrev TIp:=V→V→Hp→VK→Prop
def PIp (X:Cx) (op:Operator) (t:TIp):Prop:=
 ∀ (pins:List (Addr×Obj)) (s:Shared) (σ:St) (H:Hp) (x y:V) (v u:Value) (Q:VK),Inv X pins σ H s→aP x v→aP y u→t x y H Q→
  wpAny (model X.prog X.w) X.A (inplaceOp op v u) (EP X pins σ Q) X.xe s
section
variable {X:Cx} {pos:Pos}
def ig (i:Nat):TG:=fun v σ H Q=> Q (σ.set i (some v)) H
theorem bp {i:Nat} {x:Str} (hN:X.N.Nodup) (hi:X.N[i]?=some x) (hx:Loc X.env.scope x) (hf:X.fn x=true∨X.env.scope.names.lookup x=some .local:=by first | exact .inl rfl | exact .inr rfl | assumption):PG X (.Name x pos) (ig i):=by
 intro pins s σ H v u Q I r h
 exact wpAny_assign_Name (dw I hN hi hx r (fun s' I'=> ⟨_,H,I',h⟩) hf)
def o6:TGs:=fun vs σ H Q=> vs=[]∧Q σ H
def m4 (t:TG) (u:TGs):TGs:=fun vs σ H Q=> ∃ v r,vs=v::r∧t v σ H fun σ' H'=> u r σ' H' Q
theorem fg:PGs X [] o6:=by
 intro pins s σ H vs us Q I r h
 obtain ⟨e,h⟩:=h
 subst e
 cases r
 exact assignInOrder_nil ⟨σ,H,I,h⟩
theorem bT {e:Expr} {es:List Expr} {t:TG} {u:TGs} (h1:PG X e t) (h2:PGs X es u)
  (hs:(assignEach (e::es) X.env).map (·.2)=assign e X.env::(assignEach es X.env).map (·.2):=by rfl):PGs X (e::es) (m4 t u):=by
 intro pins s σ H vs us Q I r h
 obtain ⟨v,vr,e1,h⟩:=h
 subst e1
 cases r with
 | cons r rr=>
  rw [hs]
  refine assignInOrder_cons (thn (h1 pins s σ H _ _ _ I r h) fun _ s1 ⟨σ1,H1,I1,q1⟩=> ?_)
  exact h2 pins s1 σ1 H1 _ _ Q I1 rr q1
def pw (K:PySem.W.Frag) (n:Nat) (t:TGs):TG:=fun v σ H Q=> ∃ a xs,v=.ref a∧SqT K H a xs∧xs.length=n∧t xs σ H Q
theorem lG {es:List Expr} {k:Nat} {t:TGs} {n:Nat} (hc:X.calm=true) (h:PGs X es t)
  (hn:(assignEach es X.env).length=n:=by rfl) (hst:(assignEach es X.env).findIdx? (·.1)=none:=by rfl):PG X (.Tuple es k pos) (pw X.K n t):=by
 intro pins s σ H v u Q I r hw
 obtain ⟨a,xs,e1,hq,hl,hw⟩:=hw
 subst e1
 cases r
 obtain ⟨its,rv,ht,hz⟩:=I.tuple hq
 refine assign_Tuple_tuple (I.ok.hd hc) ht (by simp [hn,← hl,rv.length]) hst fun h' hx=> ?_
 have I1:Inv X pins σ H { s with heap:=h' }:=I.kept (t':=s.toks) fun b o e=> hx b o (Nat.ne_of_lt (Heap.lt_size e)) e
 exact h pins _ σ H xs _ Q I1 (by simpa using rv) hw
def nI (te:TE) (g:TG):TS:=fun D σ H=> te σ H fun x H1=> g x σ H1 D.nx
theorem nE {tg e:Expr} {te:TE} {g:TG} (he:PE X e te) (hg:PG X tg g) (hs:swapsWithSole [tg] e pos.line X.env=pure false:=by rfl) (hw:swappedStores [tg] e X.env=pure none:=by rfl)
  (h1:(assignEach [tg] X.env).map (·.2)=[assign tg X.env]:=by rfl):PS X (.Assign [tg] e pos) (nI te g):=by
 intro pins s σ H D I h
 refine wpAny_Assign_stores (thn (he pins s σ H _ I h) fun v s1 ⟨x,H1,I1,r1,q1⟩=> ?_) hs hw
 rw [h1]
 exact thn (hg pins s1 σ H1 x v _ I1 r1 q1) fun _ s2 q=> q
theorem i4 {i:Nat} {x:Str} {e:Expr} {te:TE} {pos':Pos} (hN:X.N.Nodup) (hi:X.N[i]?=some x) (hx:Loc X.env.scope x) (he:PE X e te) (hs:swapsWith e (some (.Name x pos')) pos.line X.env=pure false:=by rfl) (hf:X.fn x=true∨X.env.scope.names.lookup x=some .local:=by first | exact .inl rfl | exact .inr rfl | assumption):
  PS X (.Assign [.Name x pos'] e pos) (nI te (ig i)):=by
 intro pins s σ H D I h
 refine wpAny_Assign_Name (thn (he pins s σ H _ I h) fun v s1 ⟨y,H1,I1,r1,q1⟩=> ?_) hs
 exact dw I1 hN hi hx r1 (fun s2 I2=> ⟨_,H1,I2,q1⟩) hf
def qb (i j:Nat) (ta:TA):TS:=fun D σ H=> ta σ H fun vs H1=> ∃ v w,vs=[v,w]∧D.nx ((σ.set i (some v)).set j (some w)) H1
theorem nJ {i j:Nat} {x y:Str} {a b:Expr} {ta:TA} {px py pt:Pos} {kt k2 pt2} (hc:X.calm=true) (hN:X.N.Nodup) (hi:X.N[i]?=some x) (hj:X.N[j]?=some y) (hij:i≠j)
  (hx:X.env.scope.names.lookup x=some .local) (hy:X.env.scope.names.lookup y=some .local) (ha:PA X [a,b] ta)
  (hw:swappedStores [.Tuple [.Name x px,.Name y py] kt pt] (.Tuple [a,b] k2 pt2) X.env=pure (some [x,y]))
  (hs:swapsWithSole [.Tuple [.Name x px,.Name y py] kt pt] (.Tuple [a,b] k2 pt2) pos.line X.env=pure false:=by rfl):
  PS X (.Assign [.Tuple [.Name x px,.Name y py] kt pt] (.Tuple [a,b] k2 pt2) pos) (qb i j ta):=by
 intro pins s σ H D I h
 rw [exec_Assign_arm]
 refine wpAny_bind (wpAny_standAt ?_)
 rw [hs]
 refine wpAny_bind (wpAny_pure ?_)
 rw [if_neg (by decide)]
 refine wpAny_bind (Tuple_ (thn (ha _ pins s σ H _ I h) fun us s1 ⟨vs,H1,I1,r1,q1⟩=> ?_))
 obtain ⟨v,w,e1,q1⟩:=q1
 subst e1
 obtain ⟨u1,u2,rfl,rv,rw'⟩:∃ u1 u2,us=[u1,u2]∧aP v u1∧aP w u2:=by
  cases r1 with
  | cons p q=>
   cases q with
   | cons p' q'=>
    cases q'
    exact ⟨_,_,rfl,p,p'⟩
 refine wpAny_newObj_type ?_ (by show 2≤sizeLine; decide)
 have I2:Inv X pins σ H1 { s1 with heap:=s1.heap.push { cls:=.type "tuple",data:=.seq [u1,u2].toArray } }:=I1.kept (t':=s1.toks) fun b o e=> Heap.get?_push_of_some _ e
 rw [hw]
 refine wpAny_bind (wpAny_pure ?_)
 show wpAny (model X.prog X.w) X.A (do rule "assign.swapped-stores"; let items ← unpackItems (.ref s1.heap.objs.size) 2 none; assignInOrder [fun v=> bindName X.env y v,fun v=> bindName X.env x v] items.reverse; pure Flow.next) _ _ _
 refine wpAny_bind (wpAny_rule (wpAny_bind (unpackItems_tuple (items:=#[u1,u2]) (I.ok.hd hc) (IsTup.new s1.heap _) fun h' hx'=> ?_)))
 have I3:=I2.kept (h':=h') (t':=s1.toks) fun b o e=> hx' b o (Nat.ne_of_lt (Heap.lt_size e)) e
 show wpAny _ _ (assignInOrder [fun v=> bindName X.env y v,fun v=> bindName X.env x v] [u2,u1] >>=fun _=> pure Flow.next) _ _ _
 refine wpAny_bind (assignInOrder_cons (wpAny_bindName (dw I3 hN hj (.inl hy) rw' (fun s2 I4=> ?_) (.inr hy))))
 refine assignInOrder_cons (wpAny_bindName (dw I4 hN hi (.inl hx) rv (fun s3 I5=> assignInOrder_nil (wpAny_pure ?_)) (.inr hx)))
 rw [List.set_comm _ _ (Ne.symm hij)] at I5
 exact ⟨_,H1,I5,q1⟩
def qj (i:Nat) (te:TE) (ti:TIp):TS:=fun D σ H=> ∃ x,σ[i]?=some (some x)∧te σ H fun y H1=> ti x y H1 fun z H2=> D.nx (σ.set i (some z)) H2
theorem oh {i:Nat} {x:Str} {e:Expr} {te:TE} {op:Operator} {ti:TIp} {pos':Pos} (hN:X.N.Nodup) (hi:X.N[i]?=some x) (hx:Loc X.env.scope x) (he:PE X e te) (ho:PIp X op ti) (hf:X.fn x=true∨X.env.scope.names.lookup x=some .local:=by first | exact .inl rfl | exact .inr rfl | assumption):
  PS X (.AugAssign (.Name x pos') op e pos) (qj i te ti):=by
 intro pins s σ H D I h
 obtain ⟨v,e1,h⟩:=h
 obtain ⟨m,hn,hl⟩:=I.loc
 have vis:Vis X.env.scope x:=by rcases hx with k | k; exact .inl k; exact .inr (.inl k)
 obtain ⟨u,r,l⟩:=hl i x v hi e1 vis
 refine wpAny_AugAssign_Name ?_
 have go:wpAny (model X.prog X.w) X.A (eval e X.env) (fun w s₂=> wpAny (model X.prog X.w) X.A (inplaceOp op u w) (fun r s₃=> wpAny (model X.prog X.w) X.A (storeName X.env x r) (fun _=> SP X pins D .next) X.xe s₃) X.xe s₂) X.xe s:=by
  refine thn (he pins s σ H _ I h) fun w s1 ⟨y,H1,I1,r1,q1⟩=> ?_
  refine thn (ho pins s1 σ H1 v y u w _ I1 r r1 q1) fun z s2 ⟨zv,H2,I2,r2,q2⟩=> ?_
  exact dw I2 hN hi hx r2 (fun s3 I3=> ⟨_,H2,I3,q2⟩) hf
 rcases l with ⟨hk,hm⟩ | ⟨hk,c,hc,hcell⟩
 ·exact wpAny_loadName_local I.ok.kind hk hn hm go
 ·rcases hk with hk | hk
  ·exact wpAny_loadName_cell I.ok.kind hk hc hcell go
  ·rcases hx with k | k
   ·have:X.env.scope.names.lookup x=some .free:=hk
    rw [k] at this; cases this
   ·have:X.env.scope.names.lookup x=some .free:=hk
    rw [k] at this; cases this
def ipI (f:Int→Int→Int):TIp:=fun x y H Q=> ∃ i j,x=.int i∧y=.int j∧Q (.int (f i j)) H
theorem nH:PIp X .Add (ipI fun i j=> i+j):=by
 intro pins s σ H x y v u Q I r1 r2 h
 obtain ⟨i,j,e1,e2,q⟩:=h
 subst e1; subst e2
 obtain ⟨t,rfl⟩:=r1
 obtain ⟨t',rfl⟩:=r2
 exact iadd_int ⟨.int _,H,I.tok _,⟨_,rfl⟩,q⟩
end
section
variable {X:Cx} {pos:Pos}
def nK (c:TT) (tb:TS):TS:=fun D σ H=> ∃ W:Nat→St→Hp→Prop,(∃ m,W m σ H)∧∀ m σ H,W m σ H→
 c σ H fun b H1=> if b=true then ∃ N:St→Hp→Prop,(∀ σ' H',N σ' H'→∃ m',m' < m∧W m' σ' H')∧tb { D with nx:=N,ct:=N,bk:=D.nx } σ H1 else D.nx σ H1
theorem lx {c:Expr} {body:List Stmt} {tc:TT} {tb:TS} (hp:PassesOwn (model X.prog X.w) X.A X.env X.xe) (hc:PT X c tc) (hb:PSs X body tb):PS X (.While c body [] pos) (nK tc tb):=by
 intro pins s σ H D I h
 obtain ⟨W,⟨m0,w0⟩,turn⟩:=h
 refine wpAny_While (codeAny_whileLoop (fun n s'=> ∃ σ' H',Inv X pins σ' H' s'∧W n σ' H') ?_ m0 ⟨σ,H,I,w0⟩)
 rintro n s1 ⟨σ1,H1,I1,w1⟩
 refine wpAny_passesOwn hp (thn (hc pins s1 σ1 H1 _ I1 (turn n σ1 H1 w1)) fun b s2 ⟨H2,I2,q2⟩=> ?_)
 cases b with
 | true=>
  obtain ⟨N,hN,q2⟩:=q2
  rw [if_pos rfl]
  refine wpAny_passesOwn hp (thn (hb pins s2 σ1 H2 _ I2 q2) fun f s3 q3=> ?_)
  cases f with
  | next=>
   obtain ⟨σ3,H3,I3,n3⟩:=q3
   obtain ⟨m',hm,w3⟩:=hN σ3 H3 n3
   exact ⟨m',hm,σ3,H3,I3,w3⟩
  | cont=>
   obtain ⟨σ3,H3,I3,n3⟩:=q3
   obtain ⟨m',hm,w3⟩:=hN σ3 H3 n3
   exact ⟨m',hm,σ3,H3,I3,w3⟩
  | brk=> exact q3
  | ret v=> exact q3
 | false=>
  rw [if_neg Bool.false_ne_true]
  exact wpAny_execs_nil ⟨σ1,H2,I2,q2⟩
end
structure It where
 go:Nat→Hp→Prop
 yld:Nat→Hp→V→Hp→Prop
 stop:Nat→Hp→Prop
def fN (X:Cx) (pins:List (Addr×Obj)) (H:Hp) (b:Addr):Prop:=
 H b=none∧b≠X.env.locals∧b ∉ X.fs∧(b∈X.ex∨X.s₀.heap.objs.size≤b)∧(∀ x c,X.env.cells.lookup x=some c→c≠b)∧∀ p∈X.pn++pins,p.1≠b
theorem Inv.fpOk {X:Cx} {pins:List (Addr×Obj)} {σ:St} {H H':Hp} {s:Shared} {b:Addr} (I:Inv X pins σ H s) (hb:s.heap.objs.size≤b) (hn:H' b=none):fN X pins H' b:=by
 refine ⟨hn,Nat.ne_of_gt (Nat.lt_of_lt_of_le I.lt hb),I.nofs hb,.inr (Nat.le_trans I.sz hb),fun x c e z=> ?_,fun p hp z=> ?_⟩
 ·obtain ⟨v,q⟩:=I.cell x c e
  exact absurd (Nat.lt_of_lt_of_le q.lt (by rw [z]; exact hb)) (Nat.lt_irrefl _)
 ·exact absurd (Nat.lt_of_lt_of_le (Heap.lt_size (I.pin p hp).1) (by rw [z]; exact hb)) (Nat.lt_irrefl _)
structure la (P:Program) (w:World) (K:PySem.W.Frag) (tg:Expr) (J:It) (fp:List Addr) (it:Addr) (tn:Nat→Heap→Prop):Prop where
 mem:it∈fp
 obj:∀ i h,tn i h→∀ b∈fp,∃ o,h.get? b=some o∧∀ v,o.data≠.cell v
 keep:∀ i h h',tn i h→(∀ b∈fp,∀ o,h.get? b=some o→h'.get? b=some o)→tn i h'
 item:∀ (X:Cx),X.prog=P→X.w=w→X.K=K→X.calm=true→∀ (i:Nat) (pins:List (Addr×Obj)) (s:Shared) (σ:St) (H:Hp) (E:Value→Shared→Prop),Inv X pins σ H s→(∀ b∈fp,fN X pins H b)→tn i s.heap→J.go i H→
  wpAny (model P w) X.A (pyNext (.ref it)) (fun r s1=> ∃ u,r=some u∧
   wpAny (model P w) X.A (letOwnedTupleGo tg (.ref it) u) (fun _ s2=> ∃ x H',Inv X pins σ H' s2∧aP x u∧J.yld i H x H'∧tn (i+1) s2.heap∧∀ b∈fp,H' b=none) E s1) E s
 done:∀ (X:Cx),X.prog=P→X.w=w→X.K=K→X.calm=true→∀ (i:Nat) (pins:List (Addr×Obj)) (s:Shared) (σ:St) (H:Hp) (E:Value→Shared→Prop),Inv X pins σ H s→(∀ b∈fp,fN X pins H b)→tn i s.heap→J.stop i H→
  wpAny (model P w) X.A (pyNext (.ref it)) (fun r s1=> r=none∧Inv X pins σ H s1) E s
 self:∀ (A:Around) (i:Nat) (s:Shared) (Q:Value→Shared→Prop) (E:Value→Shared→Prop),tn i s.heap→Q (.ref it) s→wpAny (model P w) A (pyIter (.ref it)) Q E s
abbrev TI:=St→Hp→(It→Hp→Prop)→Prop
def PIE (X:Cx) (pins:List (Addr×Obj)) (σ:St) (tg:Expr) (R:It→Hp→Prop) (itv:Value) (s2:Shared):Prop:=
 ∃ (it:Addr) (fp:List Addr) (tn:Nat→Heap→Prop) (J:It) (H':Hp),itv=.ref it∧Inv X pins σ H' s2∧la X.prog X.w X.K tg J fp it tn∧tn 0 s2.heap∧(∀ b∈fp,fN X pins H' b)∧R J H'
def PI (X:Cx) (tg iter:Expr) (wi:TI):Prop:=
 ∀ (pins:List (Addr×Obj)) (s:Shared) (σ:St) (H:Hp) (R:It→Hp→Prop),Inv X pins σ H s→wi σ H R→
  wpAny (model X.prog X.w) X.A (eval iter X.env) (fun v s1=> wpAny (model X.prog X.w) X.A (pyIter v) (PIE X pins σ tg R) X.xe s1) X.xe s
theorem jn {M:Model} {A:Around} {E:Value→Shared→Prop} {s:Shared} {tg:Expr} {it:Addr} {u:Value} {o:Obj} {n:String} {vs:Array Value} {Q:Unit→Shared→Prop} (ho:s.heap.get? it=some o) (hc:o.cls=.type n) (hd:o.data=.fields vs)
  (hn:["enumerate","zip","dict_itemiterator","dict_reverseitemiterator","odict_iterator","itertools.zip_longest","itertools.pairwise"].contains n=false) (hQ:Q () s):wpAny M A (letOwnedTupleGo tg (.ref it) u) Q E s:=by
 unfold letOwnedTupleGo
 cases tg <;> first
  | exact wpAny_pure hQ
  | (cases u <;> first
    | exact wpAny_pure hQ
    | (refine wpAny_bind (wpAny_load ho ?_)
       rw [hc,hd]
       show wpAny M A (if (["enumerate","zip","dict_itemiterator","dict_reverseitemiterator","odict_iterator","itertools.zip_longest","itertools.pairwise"].contains n && vs[0]?==some (rawInt _))=true then _ else _) Q E s
       rw [if_neg (by intro h; rw [hn,Bool.false_and] at h; cases h)]
       exact wpAny_pure hQ))
def Itl (K:PySem.W.Frag) (a:Addr):It:=
 ⟨fun i H=> ∃ xs x,SqL K H a xs∧xs[i]?=some x,fun i H x H'=> H'=H∧∀ xs,SqL K H a xs→xs[i]?=some x,fun i H=> ∃ xs,SqL K H a xs∧xs.length≤i⟩
def Itt (K:PySem.W.Frag) (a:Addr):It:=
 ⟨fun i H=> ∃ xs x,SqT K H a xs∧xs[i]?=some x,fun i H x H'=> H'=H∧∀ xs,SqT K H a xs→xs[i]?=some x,fun i H=> ∃ xs,SqT K H a xs∧xs.length≤i⟩
def Itr (lo:Int) (n:Nat):It:=⟨fun i _=> i < n,fun i H x H'=> H'=H∧x=.int (lo+i),fun i _=> n≤i⟩
theorem jV {P:Program} {w:World} {K:PySem.W.Frag} {tg:Expr} (a it:Addr):la P w K tg (Itl K a) [it] it (fun i h=> h.IsListIter it a i) where
 mem:=by simp
 obj:=fun i h st b hb=> by
  have e:b=it:=by simpa using hb
  subst e
  obtain ⟨o,e,c,d⟩:=st
  exact ⟨o,e,fun v z=> by rw [d] at z; cases z⟩
 keep:=fun i h h' st k=> st.at fun o e=> k it (by simp) o e
 item:=by
  intro X hP hw hK hc i pins s σ H E I hf st hg
  subst hP hw hK
  obtain ⟨xs,x,hq,hx⟩:=hg
  obtain ⟨its,rv,p,hz⟩:=I.list hq
  obtain ⟨u,hu,ru⟩:=rv.get hx
  obtain ⟨f0,f1,f2,f3,f4,f5⟩:=hf it (by simp)
  refine wpAny_pyNext_list_item st p.isList (x:=u) (by simpa using hu) fun h' st' sb=> ?_
  have I1:Inv X pins σ H { s with heap:=h' }:=I.turned (t':=s.toks) (fun b o hb e=> (sb.2 b hb).trans e) f0 f1 f3 f4 f5
  obtain ⟨o,e,c,d⟩:=id st'
  exact ⟨u,rfl,jn (s:={ s with heap:=h' }) e c d (by decide) ⟨x,H,I1,ru,⟨rfl,fun ys hy=> by rw [I.list_inj hy hq]; exact hx⟩,st',fun b hb=> (hf b hb).1⟩⟩
 done:=by
  intro X hP hw hK hc i pins s σ H E I hf st hg
  subst hP hw hK
  obtain ⟨xs,hq,hx⟩:=hg
  obtain ⟨its,rv,p,hz⟩:=I.list hq
  obtain ⟨f0,f1,f2,f3,f4,f5⟩:=hf it (by simp)
  have hl:=rv.length
  exact wpAny_pyNext_list_end (I.ok.hd hc) st p.isList (by simp; omega) fun h' eb=> ⟨rfl,I.turned (t':=s.toks) (fun b o hb e=> eb b o hb e) f0 f1 f3 f4 f5⟩
 self:=fun _ _ _ _ _ st h=> wpAny_pyIter_listiter st h
theorem iT {P:Program} {w:World} {K:PySem.W.Frag} {tg:Expr} (a it:Addr):la P w K tg (Itt K a) [it] it (fun i h=> h.IsTupleIter it a i) where
 mem:=by simp
 obj:=fun i h st b hb=> by
  have e:b=it:=by simpa using hb
  subst e
  obtain ⟨o,e,c,d⟩:=st
  exact ⟨o,e,fun v z=> by rw [d] at z; cases z⟩
 keep:=fun i h h' st k=> st.at fun o e=> k it (by simp) o e
 item:=by
  intro X hP hw hK hc i pins s σ H E I hf st hg
  subst hP hw hK
  obtain ⟨xs,x,hq,hx⟩:=hg
  obtain ⟨its,rv,p,hz⟩:=I.tuple hq
  obtain ⟨u,hu,ru⟩:=rv.get hx
  obtain ⟨f0,f1,f2,f3,f4,f5⟩:=hf it (by simp)
  refine wpAny_pyNext_tuple_item st (show s.heap.IsTuple a its.toArray from p) (x:=u) (by simpa using hu) fun h' st' sb=> ?_
  have I1:Inv X pins σ H { s with heap:=h' }:=I.turned (t':=s.toks) (fun b o hb e=> (sb.2 b hb).trans e) f0 f1 f3 f4 f5
  obtain ⟨o,e,c,d⟩:=id st'
  exact ⟨u,rfl,jn (s:={ s with heap:=h' }) e c d (by decide) ⟨x,H,I1,ru,⟨rfl,fun ys hy=> by rw [I.tuple_inj hy hq]; exact hx⟩,st',fun b hb=> (hf b hb).1⟩⟩
 done:=by
  intro X hP hw hK hc i pins s σ H E I hf st hg
  subst hP hw hK
  obtain ⟨xs,hq,hx⟩:=hg
  obtain ⟨its,rv,p,hz⟩:=I.tuple hq
  obtain ⟨f0,f1,f2,f3,f4,f5⟩:=hf it (by simp)
  have hl:=rv.length
  exact wpAny_pyNext_tuple_end (I.ok.hd hc) st (show s.heap.IsTuple a its.toArray from p) (by simp; omega) fun h' eb=> ⟨rfl,I.turned (t':=s.toks) (fun b o hb e=> eb b o hb e) f0 f1 f3 f4 f5⟩
 self:=fun _ _ _ _ _ st h=> wpAny_pyIter_tupleiter st h
theorem iM {P:Program} {w:World} {K:PySem.W.Frag} {tg:Expr} (it:Addr) (lo:Int) (n:Nat):la P w K tg (Itr lo n) [it] it (fun i h=> IsRangeIter h it (lo+(i:Nat) * 1) ((n:Int) - (i:Nat)) 1) where
 mem:=by simp
 obj:=fun i h st b hb=> by
  have e:b=it:=by simpa using hb
  subst e
  exact ⟨_,st,fun v z=> by
   have z':Data.fields _=Data.cell v:=z
   cases z'⟩
 keep:=fun i h h' st k=> k it (by simp) _ st
 item:=by
  intro X hP hw hK hc i pins s σ H E I hf st hg
  subst hP hw hK
  obtain ⟨f0,f1,f2,f3,f4,f5⟩:=hf it (by simp)
  have W:=Walks.range (prog:=X.prog) (w:=X.w) (I.ok.hd hc) it lo 1 n
  refine W.item i s _ _ hg st fun v h' tk hv st' kk=> ?_
  obtain ⟨t,rfl⟩:=hv
  have I1:Inv X pins σ H { s with heap:=h',toks:=tk }:=I.turned (fun b o hb e=> kk b o (by simpa using hb) e) f0 f1 f3 f4 f5
  refine ⟨_,rfl,jn (s:={ s with heap:=h',toks:=tk }) (n:="range_iterator") st' rfl rfl (by decide) ⟨.int (lo+i),H,I1,⟨t,?_⟩,⟨rfl,rfl⟩,st',fun b hb=> (hf b hb).1⟩⟩
  rw [Int.mul_one]
 done:=by
  intro X hP hw hK hc i pins s σ H E I hf st hg
  subst hP hw hK
  obtain ⟨f0,f1,f2,f3,f4,f5⟩:=hf it (by simp)
  exact wpAny_pyNext_range_end (I.ok.hd hc) st (by have:n≤i:=hg; omega) fun h' eb=> ⟨rfl,I.turned (t':=s.toks) (fun b o hb e=> eb b o hb e) f0 f1 f3 f4 f5⟩
 self:=fun _ _ _ _ _ st h=> wpAny_pyIter_rangeiter st h
end L2
namespace L2
open PySem PySem.Spec PyProof.Rows
section
variable {X:Cx} {tg:Expr}
def oV (K:PySem.W.Frag) (tl:TE):TI:=fun σ H R=> tl σ H fun x H1=> ∃ a,x=.ref a∧(∃ xs,SqL K H1 a xs)∧R (Itl K a) H1
def pY (K:PySem.W.Frag) (tl:TE):TI:=fun σ H R=> tl σ H fun x H1=> ∃ a,x=.ref a∧(∃ xs,SqT K H1 a xs)∧R (Itt K a) H1
theorem mM {l:Expr} {tl:TE} (hl:PE X l tl):PI X tg l (oV X.K tl):=by
 intro pins s σ H R I h
 refine thn (hl pins s σ H _ I h) fun v s1 ⟨x,H1,I1,r1,q1⟩=> ?_
 obtain ⟨a,e,⟨xs,hq⟩,q⟩:=q1
 subst e
 cases r1
 obtain ⟨its,rv,p,hz⟩:=I1.list hq
 refine wpAny_pyIter_list p.isList ?_
 refine ⟨s1.heap.objs.size,[s1.heap.objs.size],_,_,H1,rfl,I1.kept (t':=s1.toks) fun b o e=> Heap.get?_push_of_some _ e,jV a _,⟨_,Heap.get?_push_size _ rfl,rfl,rfl⟩,fun b hb=> ?_,q⟩
 have e:b=s1.heap.objs.size:=by simpa using hb
 subst e
 exact I1.fpOk (Nat.le_refl _) (I1.hok.fresh (Nat.le_refl _))
theorem nA {l:Expr} {tl:TE} (hl:PE X l tl):PI X tg l (pY X.K tl):=by
 intro pins s σ H R I h
 refine thn (hl pins s σ H _ I h) fun v s1 ⟨x,H1,I1,r1,q1⟩=> ?_
 obtain ⟨a,e,⟨xs,hq⟩,q⟩:=q1
 subst e
 cases r1
 obtain ⟨its,rv,p,hz⟩:=I1.tuple hq
 refine wpAny_pyIter_tuple (show s1.heap.IsTuple a its.toArray from p) ?_
 refine ⟨s1.heap.objs.size,[s1.heap.objs.size],_,_,H1,rfl,I1.kept (t':=s1.toks) fun b o e=> Heap.get?_push_of_some _ e,iT a _,⟨_,Heap.get?_push_size _ rfl,rfl,rfl⟩,fun b hb=> ?_,q⟩
 have e:b=s1.heap.objs.size:=by simpa using hb
 subst e
 exact I1.fpOk (Nat.le_refl _) (I1.hok.fresh (Nat.le_refl _))
theorem kA {pins:List (Addr×Obj)} {σ:St} {H:Hp} {s:Shared} {R:It→Hp→Prop} {E:Value→Shared→Prop} {lo hi:Int} {t u v:Tok} {tk:Nat} (I:Inv X pins σ H s) (h1:-(2 ^ 62)≤lo) (h2:lo < 2 ^ 62) (h3:-(2 ^ 62)≤hi) (h4:hi < 2 ^ 62)
  (q:R (Itr lo (hi - lo).toNat) H):wpAny (model X.prog X.w) X.A (pyIter (.ref s.heap.objs.size)) (PIE X pins σ tg R) E { s with heap:=s.heap.push { cls:=.type "range",data:=.fields #[.int lo t,.int hi u,.int 1 v] },toks:=tk }:=by
 refine wpAny_pyIter_range (IsRange.new ..) (small_one h1 h2 h3 h4) ?_
 have I1:Inv X pins σ H { s with heap:=s.heap.push { cls:=.type "range",data:=.fields #[.int lo t,.int hi u,.int 1 v] },toks:=tk }:=I.kept fun b o e=> Heap.get?_push_of_some _ e
 refine ⟨(s.heap.push { cls:=.type "range",data:=.fields #[.int lo t,.int hi u,.int 1 v] }).objs.size,[(s.heap.push { cls:=.type "range",data:=.fields #[.int lo t,.int hi u,.int 1 v] }).objs.size],_,_,H,rfl,
  I1.kept (t':=tk) fun b o e=> Heap.get?_push_of_some _ e,iM _ lo (hi - lo).toNat,?_,fun b hb=> ?_,q⟩
 ·have e1:lo+((0:Nat):Int) * 1=lo:=by simp
  have e2:(((hi - lo).toNat:Nat):Int) - ((0:Nat):Int)=Builtin.Range.rangeSize lo hi 1:=by rw [rangeSize_one]; split <;> omega
  show IsRangeIter _ _ (lo+((0:Nat):Int) * 1) ((((hi - lo).toNat:Nat):Int) - ((0:Nat):Int)) 1
  rw [e1,e2]
  exact Heap.get?_push_size _ rfl
 ·have e:b=(s.heap.push { cls:=.type "range",data:=.fields #[.int lo t,.int hi u,.int 1 v] }).objs.size:=by simpa using hb
  subst e
  exact I1.fpOk (Nat.le_refl _) (I1.hok.fresh (Nat.le_refl _))
def pv (ta:TA):TI:=fun σ H R=> ta σ H fun vs H1=> ∃ j:Int,vs=[.int j]∧-(2 ^ 62)≤j∧j < 2 ^ 62∧R (Itr 0 j.toNat) H1
theorem jP {a:Expr} {ta:TA} {p pos:Pos} (hg:Gl X "range") (hm:X.mg "range"=none) (ha:PA X [a] ta) (hs:starEach [a] X.env=[(false,eval a X.env)]:=by rfl):PI X tg (.Call (.Name "range" p) [a] [] pos) (pv ta):=by
 intro pins s σ H R I h
 refine Call_ (fO I hg hm boot_range (PyProof.Rows.callWith_type1 (thn (ha pos pins s σ H _ I h) fun us s1 ⟨vs,H1,I1,r1,q1⟩=> ?_) hs rfl))
 obtain ⟨j,e,q1,q2,q⟩:=q1
 subst e
 cases r1 with
 | cons r rr=>
  cases rr
  obtain ⟨t,rfl⟩:=r
  exact call_range_1 (kA I1 (by omega) (by omega) q1 q2 (by simpa using q))
def qe (wi:TI) (g:TG) (tb:TS):TS:=fun D σ H=> wi σ H fun J H1=> ∃ W:Nat→Nat→St→Hp→Prop,(∃ m,W 0 m σ H1)∧∀ i m σ H,W i m σ H→
 (J.stop i H∧D.nx σ H)∨(J.go i H∧∃ N:St→Hp→Prop,(∀ σ' H',N σ' H'→∃ m',m' < m∧W (i+1) m' σ' H')∧∀ x H',J.yld i H x H'→g x σ H' fun σ2 H2=> tb { D with nx:=N,ct:=N,bk:=D.nx } σ2 H2)
def fm (fp:List Addr) (h:Heap):List (Addr×Obj):=fp.filterMap fun b=> (h.get? b).map fun o=> (b,o)
theorem cg {fp:List Addr} {h:Heap} {b:Addr} {o:Obj} (hb:b∈fp) (e:h.get? b=some o):(b,o)∈fm fp h:=List.mem_filterMap.mpr ⟨b,hb,by rw [e]; rfl⟩
theorem jR {fp:List Addr} {h:Heap} {p:Addr×Obj} (hp:p∈fm fp h):p.1∈fp∧h.get? p.1=some p.2:=by
 obtain ⟨b,hb,e⟩:=List.mem_filterMap.mp hp
 cases q:h.get? b with
 | none=> rw [q] at e; cases e
 | some o=>
  rw [q] at e
  have e':(b,o)=p:=Option.some.inj e
  subst e'
  exact ⟨hb,q⟩
theorem Inv.pinned {pins:List (Addr×Obj)} {σ:St} {H:Hp} {s:Shared} {fp:List Addr} (I:Inv X pins σ H s) (hf:∀ b∈fp,fN X pins H b) (ho:∀ b∈fp,∃ o,s.heap.get? b=some o∧∀ v,o.data≠.cell v):Inv X (pins++fm fp s.heap) σ H s:=
 I.pins_of fun p hp=> (List.mem_append.mp hp).elim (fun z=> I.pin p (List.mem_append_right _ z)) fun z=> by
  obtain ⟨hb,e⟩:=jR z
  obtain ⟨f0,f1,f2,_⟩:=hf p.1 hb
  obtain ⟨o,e',d⟩:=ho p.1 hb
  rw [e] at e'; cases e'
  exact ⟨e,f0,f1,f2,d⟩
theorem Inv.unpinned {pins pl:List (Addr×Obj)} {σ:St} {H:Hp} {s:Shared} (I:Inv X (pins++pl) σ H s):Inv X pins σ H s:=I.pins_of fun p hp=> I.pin p (List.mem_append_right _ (List.mem_append_left _ hp))
theorem nW {iter:Expr} {body:List Stmt} {wi:TI} {g:TG} {tb:TS} {pos:Pos} (hp:PassesOwn (model X.prog X.w) X.A X.env X.xe) (hc:X.calm=true) (hi:PI X tg iter wi) (hg:PG X tg g) (hb:PSs X body tb)
  (hs:∀ x,foldedSetIterable iter X.env x=pure x:=by intro _; rfl):PS X (.For tg iter body [] pos) (qe wi g tb):=by
 intro pins s σ H D I h
 refine wpAny_For (thn (hi pins s σ H _ I h) fun v s1 h1=> thn h1 fun itv s2 h2=> ?_) hs
 obtain ⟨it,fp,tn,J,H2,e,I2,T,st2,f2,W,⟨m0,w0⟩,turn⟩:=h2
 subst e
 have stat:∀ {H':Hp},(∀ b∈fp,H' b=none)→∀ b∈fp,fN X pins H' b:=fun hn b hb=> ⟨hn b hb,(f2 b hb).2⟩
 refine codeAny_forLoop_any (fun n s'=> ∃ i σ' H',Inv X pins σ' H' s'∧tn i s'.heap∧(∀ b∈fp,H' b=none)∧W i n σ' H') ?_ m0 ⟨0,σ,H2,I2,st2,fun b hb=> (f2 b hb).1,w0⟩
 rintro n s3 ⟨i,σ3,H3,I3,st3,fr3,w3⟩
 rcases turn i n σ3 H3 w3 with ⟨stop,qn⟩ | ⟨go,N,hN,step⟩
 ·refine wpAny_passesOwn hp (thn (T.done X rfl rfl rfl hc i pins s3 σ3 H3 X.xe I3 (stat fr3) st3 stop) fun r s4 ⟨hr,I4⟩=> ?_)
  subst hr
  exact wpAny_execs_nil ⟨σ3,H3,I4,qn⟩
 ·refine wpAny_passesOwn hp (thn (T.item X rfl rfl rfl hc i pins s3 σ3 H3 X.xe I3 (stat fr3) st3 go) fun r s4 ⟨u,hr,h4⟩=> ?_)
  subst hr
  refine wpAny_passesOwn hp (thn h4 fun _ s5 ⟨x,H5,I5,r5,y5,st5,fr5⟩=> ?_)
  have I5':=I5.pinned (stat fr5) (T.obj _ _ st5)
  refine wpAny_passesOwn hp (thn (hg _ s5 σ3 H5 x u _ I5' r5 (step x H5 y5)) fun _ s6 ⟨σ6,H6,I6,q6⟩=> ?_)
  refine wpAny_passesOwn hp (thn (hb _ s6 σ6 H6 _ I6 q6) fun f s7 q7=> ?_)
  have again:∀ {σ7:St} {H7:Hp},Inv X (pins++fm fp s5.heap) σ7 H7 s7→N σ7 H7→∃ m,m < n∧∃ i σ' H',Inv X pins σ' H' s7∧tn i s7.heap∧(∀ b∈fp,H' b=none)∧W i m σ' H':=fun {σ7 H7} I7 n7=> by
   obtain ⟨m',hm,w7⟩:=hN σ7 H7 n7
   refine ⟨m',hm,i+1,σ7,H7,I7.unpinned,T.keep _ _ _ st5 fun b hb o e=> (I7.pin (b,o) (List.mem_append_right _ (List.mem_append_right _ (cg hb e)))).1,fun b hb=> ?_,w7⟩
   obtain ⟨o,e,d⟩:=T.obj _ _ st5 b hb
   exact (I7.pin (b,o) (List.mem_append_right _ (List.mem_append_right _ (cg hb e)))).2.1
  cases f with
  | next=> obtain ⟨σ7,H7,I7,n7⟩:=q7; exact again I7 n7
  | cont=> obtain ⟨σ7,H7,I7,n7⟩:=q7; exact again I7 n7
  | brk=> obtain ⟨σ7,H7,I7,q7⟩:=q7; exact ⟨σ7,H7,I7.unpinned,q7⟩
  | ret v=> obtain ⟨x7,σ7,H7,I7,r7,q7⟩:=q7; exact ⟨x7,σ7,H7,I7.unpinned,r7,q7⟩
end
end L2
namespace L2
open PySem PySem.Spec PyProof.Rows
abbrev R2:=V→V→Hp→VK→Prop
def OpR (X:Cx) (f:Value→Value→Sem Value) (r:R2):Prop:=
 ∀ (pins:List (Addr×Obj)) (s:Shared) (σ:St) (H:Hp) (x y:V) (v u:Value) (Q:VK),Inv X pins σ H s→aP x v→aP y u→r x y H Q→
  wpAny (model X.prog X.w) X.A (f v u) (EP X pins σ Q) X.xe s
def UnR (X:Cx) (f:Value→Sem Value) (r:V→Hp→VK→Prop):Prop:=
 ∀ (pins:List (Addr×Obj)) (s:Shared) (σ:St) (H:Hp) (x:V) (v:Value) (Q:VK),Inv X pins σ H s→aP x v→r x H Q→
  wpAny (model X.prog X.w) X.A (f v) (EP X pins σ Q) X.xe s
def cM (X:Cx) (f:Value) (r:List V→Hp→VK→Prop):Prop:=
 ∀ (pins:List (Addr×Obj)) (s:Shared) (σ:St) (H:Hp) (xs:List V) (us:List Value) (Q:VK),Inv X pins σ H s→aQ xs us→r xs H Q→
  wpAny (model X.prog X.w) X.A (call f us) (EP X pins σ Q) X.xe s
def tOp (r:R2) (ta tb:TE):TE:=fun σ H Q=> ta σ H fun x H1=> tb σ H1 fun y H2=> r x y H2 Q
def tUn (r:V→Hp→VK→Prop) (ta:TE):TE:=fun σ H Q=> ta σ H fun x H1=> r x H1 Q
def rI (C:Int→Int→Prop) (g:Int→Int→V):R2:=fun x y H Q=> ∃ i j,x=.int i∧y=.int j∧C i j∧Q (g i j) H
def rI0 (g:Int→Int→V):R2:=fun x y H Q=> ∃ i j,x=.int i∧y=.int j∧Q (g i j) H
def rU (g:Int→V):V→Hp→VK→Prop:=fun x H Q=> ∃ i,x=.int i∧Q (g i) H
section
variable {X:Cx} {a b c:Expr} {ta tb tc:TE} {pos:Pos}
theorem nw (ha:PE X a ta) (hb:PE X b tb) {pins:List (Addr×Obj)} {s:Shared} {σ:St} {H:Hp} {R:V→V→Hp→Prop} (I:Inv X pins σ H s)
  (h:ta σ H fun x H1=> tb σ H1 fun y H2=> R x y H2) {Q:Value→Shared→Prop} {f:Value→Value→Sem Value}
  (hf:∀ v u s2 x y H2,Inv X pins σ H2 s2→aP x v→aP y u→R x y H2→wpAny (model X.prog X.w) X.A (f v u) Q X.xe s2):
  wpAny (model X.prog X.w) X.A (eval a X.env) (fun v s₁=> wpAny (model X.prog X.w) X.A (eval b X.env) (fun u s₂=> wpAny (model X.prog X.w) X.A (f v u) Q X.xe s₂) X.xe s₁) X.xe s:=by
 refine thn (ha pins s σ H _ I h) fun v s1 ⟨x,H1,I1,r1,q1⟩=> ?_
 refine thn (hb pins s1 σ H1 _ I1 q1) fun u s2 ⟨y,H2,I2,r2,q2⟩=> ?_
 exact hf v u s2 x y H2 I2 r1 r2 q2
theorem kF {op:Operator} {r:R2} (ho:OpR X (binaryOp op) r) (ha:PE X a ta) (hb:PE X b tb):PE X (.BinOp a op b pos) (tOp r ta tb):=by
 intro pins s σ H Q I h
 exact wpAny_BinOp (nw ha hb I h fun v u s2 x y H2 I2 rx ry q=> ho pins s2 σ H2 x y v u Q I2 rx ry q)
theorem o4 {op:UnaryOp} {r:V→Hp→VK→Prop} (ho:UnR X (unaryOp op) r) (ha:PE X a ta):PE X (.UnaryOp op a pos) (tUn r ta):=by
 intro pins s σ H Q I h
 exact UnaryOp_ (thn (ha pins s σ H _ I h) fun v s1 ⟨x,H1,I1,r1,q1⟩=> ho pins s1 σ H1 x v Q I1 r1 q1)
theorem opI {f:Value→Value→Sem Value} {C:Int→Int→Prop} {g:Int→Int→Int}
  (rule:∀ (i j:Int) (t u:Tok) (s:Shared) (Q:Value→Shared→Prop) (E:Value→Shared→Prop),C i j→Q (.int (g i j) s.toks) { s with toks:=s.toks+1 }→wpAny (model X.prog X.w) X.A (f (.int i t) (.int j u)) Q E s):
  OpR X f (rI C fun i j=> .int (g i j)):=by
 intro pins s σ H x y v u Q I rx ry h
 obtain ⟨i,j,rfl,rfl,hc,q⟩:=h
 obtain ⟨t,rfl⟩:=rx
 obtain ⟨t',rfl⟩:=ry
 exact rule i j t t' s _ _ hc ⟨.int (g i j),H,I.tok _,⟨_,rfl⟩,q⟩
theorem oS {f:Value→Value→Sem Value} {g:Int→Int→Int}
  (rule:∀ (i j:Int) (t u:Tok) (s:Shared) (Q:Value→Shared→Prop) (E:Value→Shared→Prop),Q (.int (g i j) s.toks) { s with toks:=s.toks+1 }→wpAny (model X.prog X.w) X.A (f (.int i t) (.int j u)) Q E s):
  OpR X f (rI0 fun i j=> .int (g i j)):=by
 intro pins s σ H x y v u Q I rx ry h
 obtain ⟨i,j,rfl,rfl,q⟩:=h
 obtain ⟨t,rfl⟩:=rx
 obtain ⟨t',rfl⟩:=ry
 exact rule i j t t' s _ _ ⟨.int (g i j),H,I.tok _,⟨_,rfl⟩,q⟩
theorem n4 {f:Value→Value→Sem Value} {g:Int→Int→Bool}
  (rule:∀ (i j:Int) (t u:Tok) (s:Shared) (Q:Value→Shared→Prop) (E:Value→Shared→Prop),Q (.bool (g i j)) s→wpAny (model X.prog X.w) X.A (f (.int i t) (.int j u)) Q E s):
  OpR X f (rI0 fun i j=> .bl (g i j)):=by
 intro pins s σ H x y v u Q I rx ry h
 obtain ⟨i,j,rfl,rfl,q⟩:=h
 obtain ⟨t,rfl⟩:=rx
 obtain ⟨t',rfl⟩:=ry
 exact rule i j t t' s _ _ ⟨.bl (g i j),H,I,rfl,q⟩
def oK (i j:Int):Prop:=0≤j∧j≤1000000∧i.natAbs < 2 ^ 64
theorem ow:OpR X (binaryOp .Add) (rI0 fun i j=> .int (i+j)):=oS fun _ _ _ _ _ _ _ q=> add_int q
theorem nQ:OpR X (binaryOp .Sub) (rI0 fun i j=> .int (i - j)):=oS fun _ _ _ _ _ _ _ q=> sub_int q
theorem nr:OpR X (binaryOp .Mod) (rI (fun _ j=> 0 < j) fun i j=> .int (i % j)):=opI fun i j _ _ _ _ _ hc q=> by
 have h1:(0:Int) < j:=hc
 exact mod_int' (by omega) (by rw [Int.fmod_eq_emod_of_nonneg i (by omega)]; exact q)
theorem ou:OpR X (binaryOp .Pow) (rI oK fun i j=> .int (i ^ j.toNat)):=opI fun _ _ _ _ _ _ _ hc q=> pow_int_small hc.1 hc.2.1 hc.2.2 q
theorem unI {f:Value→Sem Value} {g:Int→Int}
  (rule:∀ (i:Int) (t:Tok) (s:Shared) (Q:Value→Shared→Prop) (E:Value→Shared→Prop),Q (.int (g i) s.toks) { s with toks:=s.toks+1 }→wpAny (model X.prog X.w) X.A (f (.int i t)) Q E s):
  UnR X f (rU fun i=> .int (g i)):=by
 intro pins s σ H x v Q I rx h
 obtain ⟨i,rfl,q⟩:=h
 obtain ⟨t,rfl⟩:=rx
 exact rule i t s _ _ ⟨.int (g i),H,I.tok _,⟨_,rfl⟩,q⟩
theorem oA:UnR X (unaryOp .USub) (rU fun i=> .int (-i)):=unI fun _ _ _ _ _ q=> neg_int q
end
def pF:V→V→Bool
 | .non,.non=> true | .non,.int _=> true | .int _,.non=> true | .non,.bl _=> true | .bl _,.non=> true | .non,.str _=> true | .str _,.non=> true
 | .int _,.int _=> true | .bl _,.bl _=> true | .str _,.str _=> true | .byt _,.byt _=> true
 | .int _,.str _=> true | .str _,.int _=> true | .bl _,.str _=> true | .str _,.bl _=> true
 | _,_=> false
def rEq:R2:=fun x y H Q=> pF x y=true∧Q (.bl (decide (x=y))) H
def rNe:R2:=fun x y H Q=> pF x y=true∧Q (.bl (!decide (x=y))) H
theorem fi {i j:Int}:decide (V.int i=V.int j)=(i==j):=by
 rw [Bool.eq_iff_iff]
 simp
theorem kf {i j:Bool}:decide (V.bl i=V.bl j)=(i==j):=by
 rw [Bool.eq_iff_iff]
 simp
theorem jp {i j:Str}:decide (V.str i=V.str j)=(i==j):=by
 rw [Bool.eq_iff_iff]
 simp
theorem jr {i j:Array UInt8}:decide (V.byt i=V.byt j)=(i.toList==j.toList):=by
 rw [Bool.eq_iff_iff]
 cases i
 cases j
 simp
section
variable {X:Cx} {a b c:Expr} {ta tb tc:TE} {pos:Pos}
theorem aL {pins:List (Addr×Obj)} {σ:St} {H:Hp} {s:Shared} {Q:VK} {k k':Bool} (I:Inv X pins σ H s) (q:Q (.bl k) H) (e:k=k'):EP X pins σ Q (.bool k') s:=by
 subst e
 exact ⟨.bl k,H,I,rfl,q⟩
theorem pG:OpR X (compareOp .Eq) rEq:=by
 intro pins s σ H x y v u Q I rx ry h
 obtain ⟨hs,q⟩:=h
 cases x with
 | non=>
  cases rx
  cases y with
  | non=> cases ry; exact PySem.EqNone.eq_none_none (aL I q (by simp))
  | bl j=> cases ry; exact PySem.EqNone.eq_none_bool (aL I q (by simp))
  | int j=> obtain ⟨t',rfl⟩:=ry; exact PySem.EqNone.eq_none_int (aL I q (by simp))
  | str j=> obtain ⟨t',rfl⟩:=ry; exact PySem.EqNone.eq_none_str (aL I q (by simp))
  | _=> exact absurd (show false=true from hs) Bool.false_ne_true
 | bl i=>
  cases rx
  cases y with
  | non=> cases ry; exact PySem.EqNone.eq_bool_none (aL I q (by simp))
  | bl j=> cases ry; exact eq_bool (aL I q kf)
  | str j=> obtain ⟨t',rfl⟩:=ry; exact PySem.EqMixed.eq_bool_str (aL I q (by simp))
  | _=> exact absurd (show false=true from hs) Bool.false_ne_true
 | int i=>
  obtain ⟨t,rfl⟩:=rx
  cases y with
  | non=> cases ry; exact PySem.EqNone.eq_int_none (aL I q (by simp))
  | int j=> obtain ⟨t',rfl⟩:=ry; exact eq_int (aL I q fi)
  | str j=> obtain ⟨t',rfl⟩:=ry; exact PySem.EqMixed.eq_int_str (aL I q (by simp))
  | _=> exact absurd (show false=true from hs) Bool.false_ne_true
 | str i=>
  obtain ⟨t,rfl⟩:=rx
  cases y with
  | non=> cases ry; exact PySem.EqNone.eq_str_none (aL I q (by simp))
  | bl j=> cases ry; exact PySem.EqMixed.eq_str_bool (aL I q (by simp))
  | int j=> obtain ⟨t',rfl⟩:=ry; exact PySem.EqMixed.eq_str_int (aL I q (by simp))
  | str j=> obtain ⟨t',rfl⟩:=ry; exact eq_str (aL I q jp)
  | _=> exact absurd (show false=true from hs) Bool.false_ne_true
 | byt i=>
  obtain ⟨t,rfl⟩:=rx
  cases y with
  | byt j=> obtain ⟨t',rfl⟩:=ry; exact PySem.W.eq_bytes (aL I q jr)
  | _=> exact absurd (show false=true from hs) Bool.false_ne_true
 | _=> cases y <;> exact absurd (show false=true from hs) Bool.false_ne_true
theorem o_:OpR X (compareOp .NotEq) rNe:=by
 intro pins s σ H x y v u Q I rx ry h
 obtain ⟨hs,q⟩:=h
 cases x with
 | non=>
  cases rx
  cases y with
  | non=> cases ry; exact PySem.EqNone.ne_none_none (aL I q (by simp))
  | bl j=> cases ry; exact PySem.EqNone.ne_none_bool (aL I q (by simp))
  | int j=> obtain ⟨t',rfl⟩:=ry; exact PySem.EqNone.ne_none_int (aL I q (by simp))
  | str j=> obtain ⟨t',rfl⟩:=ry; exact PySem.EqNone.ne_none_str (aL I q (by simp))
  | _=> exact absurd (show false=true from hs) Bool.false_ne_true
 | bl i=>
  cases rx
  cases y with
  | non=> cases ry; exact PySem.EqNone.ne_bool_none (aL I q (by simp))
  | bl j=> cases ry; exact ne_bool (aL I q (congrArg not kf))
  | str j=> obtain ⟨t',rfl⟩:=ry; exact PySem.EqMixed.ne_bool_str (aL I q (by simp))
  | _=> exact absurd (show false=true from hs) Bool.false_ne_true
 | int i=>
  obtain ⟨t,rfl⟩:=rx
  cases y with
  | non=> cases ry; exact PySem.EqNone.ne_int_none (aL I q (by simp))
  | int j=> obtain ⟨t',rfl⟩:=ry; exact ne_int (aL I q (congrArg not fi))
  | str j=> obtain ⟨t',rfl⟩:=ry; exact PySem.EqMixed.ne_int_str (aL I q (by simp))
  | _=> exact absurd (show false=true from hs) Bool.false_ne_true
 | str i=>
  obtain ⟨t,rfl⟩:=rx
  cases y with
  | non=> cases ry; exact PySem.EqNone.ne_str_none (aL I q (by simp))
  | bl j=> cases ry; exact PySem.EqMixed.ne_str_bool (aL I q (by simp))
  | int j=> obtain ⟨t',rfl⟩:=ry; exact PySem.EqMixed.ne_str_int (aL I q (by simp))
  | str j=> obtain ⟨t',rfl⟩:=ry; exact ne_str (aL I q (congrArg not jp))
  | _=> exact absurd (show false=true from hs) Bool.false_ne_true
 | byt i=>
  obtain ⟨t,rfl⟩:=rx
  cases y with
  | byt j=> obtain ⟨t',rfl⟩:=ry; exact PySem.W.ne_bytes (aL I q (congrArg not jr))
  | _=> exact absurd (show false=true from hs) Bool.false_ne_true
 | _=> cases y <;> exact absurd (show false=true from hs) Bool.false_ne_true
theorem pR:OpR X (compareOp .Lt) (rI0 fun i j=> .bl (decide (i < j))):=n4 fun _ _ _ _ _ _ _ q=> lt_int q
theorem pK:OpR X (compareOp .LtE) (rI0 fun i j=> .bl (decide (i≤j))):=n4 fun _ _ _ _ _ _ _ q=> le_int q
theorem pA:OpR X (compareOp .Gt) (rI0 fun i j=> .bl (decide (j < i))):=n4 fun _ _ _ _ _ _ _ q=> gt_int q
theorem j9 (b:Expr) {op:CmpOp} (h:op≠.In:=by decide) (h2:op≠.NotIn:=by decide):behindInMarks op b=false:=by
 have e1:(op==CmpOp.In)=false:=by cases op <;> first | rfl | exact absurd rfl h
 have e2:(op==CmpOp.NotIn)=false:=by cases op <;> first | rfl | exact absurd rfl h2
 cases b <;> simp [behindInMarks,e1,e2]
theorem mC {op:CmpOp} {r:R2} (ho:OpR X (compareOp op) r) (ha:PE X a ta) (hb:PE X b tb) (hm:behindInMarks op b=false):PE X (.Compare a [op] [b] pos) (tOp r ta tb):=by
 intro pins s σ H Q I h
 exact wpAny_Compare1 (nw ha hb I h fun v u s2 x y H2 I2 rx ry q=> ho pins s2 σ H2 x y v u Q I2 rx ry q) hm
def pD (t:TE):TT:=fun σ H Q=> t σ H fun x H'=> ∃ k,x=.bl k∧Q k H'
theorem mt {op:CmpOp} {r:R2} (ho:OpR X (compareOp op) r) (ha:PE X a ta) (hb:PE X b tb) (hm:behindInMarks op b=false):PT X (.Compare a [op] [b] pos) (pD (tOp r ta tb)):=by
 intro pins s σ H Q I h
 refine wpAny_isTrue_Compare1 (thn (ha pins s σ H _ I h) fun v s1 ⟨x,H1,I1,r1,q1⟩=> thn (hb pins s1 σ H1 _ I1 q1) fun u s2 ⟨y,H2,I2,r2,q2⟩=>
  thn (ho pins s2 σ H2 x y v u _ I2 r1 r2 q2) fun c s3 ⟨z,H3,I3,r3,k,e,q3⟩=> ?_) hm
 subst e
 cases r3
 exact wpAny_truthy_bool ⟨H3,I3,q3⟩
def oq (r r':R2) (ta tb tc:TE):TE:=fun σ H Q=> ta σ H fun x H1=> tb σ H1 fun y H2=> r x y H2 fun z H3=> ∃ k,z=.bl k∧
 (if k=true then tc σ H3 fun w' H4=> r' y w' H4 Q else Q (.bl false) H3)
theorem lg {op op':CmpOp} {r r':R2} (ho:OpR X (compareOp op) r) (ho':OpR X (compareOp op') r') (ha:PE X a ta) (hb:PE X b tb) (hc:PE X c tc)
  (hm:lastMarks [op,op'] [b,c]=false:=by with_unfolding_all rfl):PE X (.Compare a [op,op'] [b,c] pos) (oq r r' ta tb tc):=by
 intro pins s σ H Q I h
 refine Compare_chain (thn (ha pins s σ H _ I h) fun v s1 ⟨x,H1,I1,r1,q1⟩=> chain_link (thn (hb pins s1 σ H1 _ I1 q1) fun u s2 ⟨y,H2,I2,r2,q2⟩=>
  thn (ho pins s2 σ H2 x y v u _ I2 r1 r2 q2) fun d s3 ⟨z,H3,I3,r3,k,e,q3⟩=> ?_)) hm
 subst e
 cases r3
 refine wpAny_truthy_bool ?_
 cases k with
 | false=> exact ite_ff ⟨.bl false,H3,I3,rfl,q3⟩
 | true=> exact ite_tt (chain_last (thn (hc pins s3 σ H3 _ I3 q3) fun w' s4 ⟨z',H4,I4,r4,q4⟩=> ho' pins s4 σ H4 y z' u w' Q I4 r2 r4 q4))
theorem i0:(sizeLine:Nat) < 2 ^ 63:=by rw [sizeLine_eq]; decide
theorem f_ {x:V} {us:List Value} (r:aQ [x] us):∃ u,us=[u]∧aP x u:=by
 cases r with
 | cons r1 r2=> cases r2; exact ⟨_,rfl,r1⟩
theorem kQ {x y:V} {us:List Value} (r:aQ [x,y] us):∃ u w',us=[u,w']∧aP x u∧aP y w':=by
 cases r with
 | cons r1 r2=>
  cases r2 with
  | cons r3 r4=> cases r4; exact ⟨_,_,rfl,r1,r3⟩
theorem kB:cM X (.builtin "abs") (fun xs H Q=> ∃ i,xs=[.int i]∧Q (.int (if i < 0 then -i else i)) H):=by
 intro pins s σ H xs us Q I r h
 obtain ⟨i,rfl,q⟩:=h
 obtain ⟨u,rfl,t,rfl⟩:=f_ r
 exact call_abs_int fun u tk=> ⟨.int (if i < 0 then -i else i),H,I.tok _,⟨_,rfl⟩,q⟩
theorem jI:cM X (.type "int") (fun xs H Q=> (∃ i,xs=[.int i]∧Q (.int i) H)∨∃ k,xs=[.bl k]∧Q (.int (if k then 1 else 0)) H):=by
 intro pins s σ H xs us Q I r h
 rcases h with ⟨i,rfl,q⟩ | ⟨k,rfl,q⟩
 ·obtain ⟨u,rfl,t,rfl⟩:=f_ r
  exact call_int_int ⟨.int i,H,I,⟨_,rfl⟩,q⟩
 ·obtain ⟨u,rfl,r1⟩:=f_ r
  cases r1
  exact call_int_bool ⟨.int (if k then 1 else 0),H,I.tok _,⟨_,rfl⟩,q⟩
end
end L2
namespace L2
open PySem PySem.Spec PyProof.Rows
structure oC (h:Heap) (x dx C:Addr) (mA:Str→Option Value):Prop where
 obj:h.get? x=some (PySem.W.instObj C dx)
 ns:h.Ns1 dx mA
 ne:dx≠x
theorem jN {h:Heap} {dx:Addr} {mA:Str→Option Value} (n:h.Ns1 dx mA):∃ od,h.get? dx=some od∧∀ name,PySem.W.lookIn name od=some (mA name):=by
 obtain ⟨o,es,ep,ho,hd,hk,_,hm⟩:=n
 refine ⟨o,ho,fun name=> ?_⟩
 have e:=hm name
 unfold nsFind findBy at e
 rw [← Array.find?_toList] at e
 unfold PySem.W.lookIn
 rw [hd]
 dsimp only
 split
 ·rename_i y q
  rw [q] at e
  exact congrArg some e
 ·rename_i q
  rw [q] at e
  have a:es.toList.any (·.refKey)=false:=by
   rw [List.any_eq_false]
   intro y hy
   obtain ⟨z,t,hkey⟩:=hk y (Array.mem_toList_iff.mp hy)
   simp [DictEntry.refKey,hkey]
  have a':¬ es.toList.any (·.refKey)=true:=by rw [a]; exact Bool.false_ne_true
  rw [if_neg a']
  exact congrArg some e
theorem oC.look {h:Heap} {x dx C:Addr} {mA:Str→Option Value} (I:oC h x dx C mA):∃ od,PySem.W.InstAt h x (PySem.W.instObj C dx) C (some od)∧∀ name,PySem.W.lookIn name od=some (mA name):=
 let ⟨od,ho,hl⟩:=jN I.ns
 ⟨od,⟨I.obj,rfl,rfl,ho⟩,hl⟩
section
variable {prog:Program} {w:World} {A:Around} {E:Value→Shared→Prop} {s:Shared} {K:PySem.W.Frag} {x dx C f:Addr} {mA:Str→Option Value} {name:Str} {v:Value}
end
section
variable {P:Program} {w:World} {H H':Hp} {h h':Heap} {a C dx:Addr} {fs fs':List (Str×V)}
theorem mk (hok:HOk P w H h) (e:H a=some (.ins C dx fs)):∃ mA,oC h a dx C mA∧(∀ f,nU (fs.lookup f) (mA f))∧PySem.Within mA (fs.map (·.1))∧fs.length≤1000∧H dx=some (.own a):=by
 obtain ⟨d,z,ne,ob,mA,n,r,q⟩:=(show bR P w H h a (.ins C dx fs) from hok a _ e)
 exact ⟨mA,⟨ob,n,ne⟩,r,q,z,d⟩
end
structure Cls (K:PySem.W.Frag) (C:Addr):Prop where
 pg:PySem.W.plainGet K C Str.empty=true
 hd:PySem.W.hasDictIn K C=true
 po:PySem.W.plainOver K C=true
 sa:PySem.W.findIn K (.ref C) "__setattr__"=some (some (.builtin "object.__setattr__"))
theorem Cls.get {K:PySem.W.Frag} {C:Addr} (c:Cls K C) (f:Str):PySem.W.plainGet K C f=true:=c.pg
structure Con (K:PySem.W.Frag) (C:Addr) (f:Str) (v:V) (u:Value):Prop where
 at_:PySem.W.findIn K (.ref C) f=some (some u)
 rel:aP v u
 get:PySem.W.specialIn K u "__get__"=some none
 cp:PySem.W.copiedNames.contains f=false
structure qm (K:PySem.W.Frag) (C:Addr) (m:Str) (f:Addr):Prop where
 at_:PySem.W.findIn K (.ref C) m=some (some (.ref f))
 fn:PySem.W.isFn K (.ref f)=true
 kp:PySem.W.keepIn K (.ref f)=true
section
variable {X:Cx} {pins:List (Addr×Obj)} {σ:St} {H:Hp} {s:Shared} {a C dx:Addr} {fs:List (Str×V)} {f:Str} {v:V} {A:Around} {E:Value→Shared→Prop}
end
section
variable {X:Cx} {o e value:Expr} {f:Str} {pos pos' tpos:Pos} {ta tv:TE}
end
section
variable {X:Cx} {pins:List (Addr×Obj)} {σ:St} {H:Hp} {s:Shared} {A:Around} {E:Value→Shared→Prop} {Q:Value→Shared→Prop} {c:Value} {b:Bool}
inductive e6 (K:PySem.W.Frag) (H:Hp):V→Value→Prop where
 | non:e6 K H .non (.type "NoneType")
 | bl (x:Bool):e6 K H (.bl x) (.type "bool")
 | int (i:Int):e6 K H (.int i) (.type "int")
 | str (x:Str):e6 K H (.str x) (.type "str")
 | flt (x:UInt64):e6 K H (.flt x) (.type "float")
 | lst {a:Addr} {xs:List V} (e:H a=some (.lst xs)):e6 K H (.ref a) (.type "list")
 | frz {a:Addr} {o:Obj} {xs:List V} (e:H a=some (.frz o (.lst xs))):e6 K H (.ref a) (.type "list")
 | tup {a:Addr} {xs:List V} (e:H a=some (.tup xs)):e6 K H (.ref a) (.type "tuple")
 | dK {a:Addr} {kvs:List (Key×V)} (e:H a=some (.dK kvs)):e6 K H (.ref a) (.type "dict")
 | dT {a:Addr} {kvs:List (List Key×V)} (e:H a=some (.dT kvs)):e6 K H (.ref a) (.type "dict")
 | ins {a C dx:Addr} {fs:List (Str×V)} (e:H a=some (.ins C dx fs)) (cl:Cls K C) (ha:PySem.W.findIn K (.ref C) "__class__"=some (some (.builtin "object.__class__")))
   (hn:PySem.W.specialIn K (.builtin "object.__class__") "__get__"=some (some (.builtin "getset_descriptor.__get__"))) (htk:PySem.W.takesIn K (.builtin "object.__class__")=some true)
   (hm:PySem.W.mroIn K C (.type "object")=some true):e6 K H (.ref a) (.ref C)
theorem cD {x:V} {u t:Value} (I:Inv X pins σ H s) (rx:aP x u) (ty:e6 X.K H x t) (e:PySem.W.kitOne X.K t c=some b) (h:∀ tk,Q (.bool b) { s with toks:=tk }):
  wpAny (model X.prog X.w) A (call (.builtin "isinstance") [u,c]) Q E s:=by
 cases ty with
 | non=> cases (show u=Value.none from rx); exact PySem.W.kia_one PySem.W.kitx_none I.kIn True.intro e (fun z=> nomatch z) h
 | bl y=> cases (show u=Value.bool y from rx); exact PySem.W.kia_one PySem.W.kitx_bool I.kIn True.intro e (fun z=> nomatch z) h
 | int i=> obtain ⟨t,q⟩:=(show ∃ t,u=Value.int i t from rx); cases q; exact PySem.W.kia_one PySem.W.kitx_int I.kIn True.intro e (fun z=> nomatch z) h
 | str y=> obtain ⟨t,q⟩:=(show ∃ t,u=Value.str y t from rx); cases q; exact PySem.W.kia_one PySem.W.kitx_str I.kIn True.intro e (fun z=> nomatch z) h
 | flt y=> obtain ⟨t,q⟩:=(show ∃ t,u=Value.float y t from rx); cases q; exact PySem.W.kia_one PySem.W.kitx_float I.kIn True.intro e (fun z=> nomatch z) h
 | @lst a xs ea=>
  cases (show u=Value.ref a from rx)
  obtain ⟨_,_,n,_,h1⟩:=(show bR X.prog X.w H s.heap a (.lst xs) from I.hok a _ ea)
  exact PySem.W.kia_one PySem.W.kitx_list I.kIn ⟨_,h1,rfl⟩ e (fun z=> nomatch z) h
 | @frz a ob xs ea=>
  cases (show u=Value.ref a from rx)
  obtain ⟨_,_,_,n,_,h1⟩:=(show bR X.prog X.w H s.heap a (.frz ob (.lst xs)) from I.hok a _ ea)
  exact PySem.W.kia_one PySem.W.kitx_list I.kIn ⟨_,h1,rfl⟩ e (fun z=> nomatch z) h
 | @tup a xs ea=>
  cases (show u=Value.ref a from rx)
  obtain ⟨_,_,_,p⟩:=(show bR X.prog X.w H s.heap a (.tup xs) from I.hok a _ ea)
  obtain ⟨o,h1,h2,_⟩:=p
  exact PySem.W.kia_one PySem.W.kitx_tuple I.kIn ⟨o,h1,h2⟩ e (fun z=> nomatch z) h
 | @dK a kvs ea=>
  cases (show u=Value.ref a from rx)
  obtain ⟨_,_,vs,_,p⟩:=(show bR X.prog X.w H s.heap a (.dK kvs) from I.hok a _ ea)
  obtain ⟨o,es,ep,h1,h2,_⟩:=p
  exact PySem.W.kia_one PySem.W.kitx_dict I.kIn ⟨o,h1,h2.1⟩ e (fun z=> nomatch z) h
 | @dT a kvs ea=>
  cases (show u=Value.ref a from rx)
  obtain ⟨_,_,xs,_,o,es,ep,h1,h2,_⟩:=(show bR X.prog X.w H s.heap a (.dT kvs) from I.hok a _ ea)
  exact PySem.W.kia_one PySem.W.kitx_dict I.kIn ⟨o,h1,h2.1⟩ e (fun z=> nomatch z) h
 | @ins a C dx fs ea cl ha hn htk hm=>
  cases (show u=Value.ref a from rx)
  obtain ⟨mA,O,_⟩:=mk I.hok ea
  obtain ⟨od,J,_⟩:=O.look
  exact PySem.W.kia_one (PySem.W.kitx_own (cl.get _) cl.hd ha hn htk hm) I.kIn J e (fun z=> nomatch z) h
end
end L2
namespace L2
open PySem PySem.Spec PyProof.Rows
structure cG (k:Nat) (A:Around):Prop where
 hd:A.handled=none
 dp:A.depth+3 * k+5 < recursionLimit
 un:A.units+16 * k+200 < cLine
theorem cG.mono {j k:Nat} {A:Around} (r:cG k A) (h:j≤k):cG j A:=⟨r.hd,by have:=r.dp; omega,by have:=r.un; omega⟩
theorem cG.deeper {k:Nat} {A:Around} (r:cG (k+1) A) (env:Env):cG k (A.deeper env):=
 ⟨r.hd,by have:=r.dp; show A.depth+1+3 * k+5 < _; omega,by have:=r.un; show A.units+3+16 * k+200 < _; omega⟩
theorem cG.depth {k:Nat} {A:Around} (r:cG k A):A.depth < recursionLimit:=by have:=r.dp; omega
def p9:TA:=fun _ H Q=> Q [] H
def oJ (ta:TE) (tr:TA):TA:=fun σ H Q=> ta σ H fun x H1=> tr σ H1 fun xs H2=> Q (x::xs) H2
section
variable {X:Cx} {e:Expr} {es:List Expr} {te:TE} {t:TA} {pos:Pos}
theorem gL:PA X [] p9:=fun _ _ _ _ H Q I h=> Calls.spliced_nil ⟨[],H,I,.nil,h⟩
theorem ei (ha:PE X e te) (hr:PA X es t) (hs:starEach (e::es) X.env=(false,eval e X.env)::starEach es X.env:=by rfl):PA X (e::es) (oJ te t):=by
 intro pos pins s σ H Q I h
 rw [hs]
 show wpAny _ _ (spliced ((false,eval e X.env)::backTo pos (starEach es X.env))) _ _ s
 refine Calls.spliced_cons (thn (ha pins s σ H _ I h) fun u s1 ⟨x,H1,I1,r1,q1⟩=> ?_)
 exact thn (hr pos pins s1 σ H1 _ I1 q1) fun us s2 ⟨xs,H2,I2,r2,q2⟩=> ⟨x::xs,H2,I2,.cons r1 r2,q2⟩
def pX (t:TA):TE:=fun σ H Q=> t σ H fun xs H1=> xs.length≤sizeLine∧∀ p,H1 p=none→Q (.ref p) (upd H1 p (.tup xs))
def p6 (t:TA):TE:=fun σ H Q=> t σ H fun xs H1=> xs.length≤sizeLine∧∀ p,H1 p=none→Q (.ref p) (upd H1 p (.lst xs))
theorem n9 {x1} (h:PA X es t):PE X (.Tuple es x1 pos) (pX t):=by
 intro pins s σ H Q I hq
 refine wpAny_Tuple_spliced (thn (h pos pins s σ H _ I hq) fun us s1 ⟨xs,H1,I1,r,z,q⟩=> ⟨by rw [← r.length]; exact z,?_⟩)
 have hf:H1 s1.heap.objs.size=none:=I1.hok.fresh (Nat.le_refl _)
 refine ⟨.ref s1.heap.objs.size,upd H1 s1.heap.objs.size (.tup xs),I1.laid (t':=s1.toks) (fun b u e=> Heap.get?_push_of_some _ e) (Nat.le_refl _) ?_,rfl,q _ hf⟩
 exact ⟨z,us,r,⟨_,Heap.get?_push_size _ rfl,rfl,_,rfl⟩⟩
theorem n8 (h:PA X es t):PE X (.List es pos) (p6 t):=by
 intro pins s σ H Q I hq
 refine wpAny_List_spliced (thn (h pos pins s σ H _ I hq) fun us s1 ⟨xs,H1,I1,r,z,q⟩=> ⟨by rw [← r.length]; exact z,?_⟩)
 have hf:H1 s1.heap.objs.size=none:=I1.hok.fresh (Nat.le_refl _)
 refine ⟨.ref s1.heap.objs.size,upd H1 s1.heap.objs.size (.lst xs),I1.laid (t':=s1.toks) (fun b u e=> Heap.get?_push_of_some _ e) (Nat.le_refl _) ?_,rfl,q _ hf⟩
 exact ⟨z,us,0,r,Heap.get?_push_size _ rfl⟩
end
abbrev Sp:=List V→Hp→VK→XK→Prop
abbrev CXT:=List Env→Hp→Shared→XK→Value→Shared→Prop
structure my (P:Program) (w:World) (K:PySem.W.Frag) (mg:Str→Option Value) (base:Heap) (A:Around) (outer:List Env) (s:Shared) (H:Hp):Prop where
 frames:A.frames=some outer
 mod:Mod K mg base
 bs:∀ b o,base.get? b=some o→s.heap.get? b=some o∧H b=none
 bsz:base.objs.size≤s.heap.objs.size
 funs:s.heap.FunFrames base outer
 frf:∀ b∈frs outer,H b=none
 hok:HOk P w H s.heap
 bare:AllBare s.gens
def CE (outer:List Env) (P:Program) (w:World) (H:Hp) (s:Shared) (Q:VK) (u:Value) (s':Shared):Prop:=
 ∃ v H',s'.os=s.os∧AllBare s'.gens∧Un (frs outer) [] H H' s.heap s'.heap∧HOk P w H' s'.heap∧aP v u∧Q v H'
def CR (CX:CXT) (outer:List Env) (P:Program) (w:World) (H:Hp) (s:Shared) (Q:VK) (E:XK) (r:Result) (s':Shared):Prop:=
 match r with
 | .ok (.ret u)=> CE outer P w H s Q u s'
 | .ok _=> False
 | .error e=> CX outer H s E e s'
structure aS (P:Program) (w:World) (K:PySem.W.Frag) (mg:Str→Option Value) (base:Heap) (CX:CXT) (k:Nat) (f:Addr) (fd:FuncData) (ps:List Str) (sp:Sp):Prop where
 len:∀ vs H Q E,sp vs H Q E→vs.length=ps.length
 run:∀ (A:Around) (outer:List Env) (s:Shared) (H:Hp) (args:Args) (us:List Value) (vs:List V) (Q:VK) (E:XK),cG k A→my P w K mg base A outer s H→BindsTo s fd args (ps.zip us)→aQ vs us→sp vs H Q E→
  codeAny (model P w) A (.call (.ref f) args) (CR CX outer P w H s Q E) s
theorem aS.mono {P:Program} {w:World} {K:PySem.W.Frag} {mg:Str→Option Value} {base:Heap} {CX:CXT} {j k:Nat} {f:Addr} {fd:FuncData} {ps:List Str} {sp:Sp} (F:aS P w K mg base CX j f fd ps sp) (h:j≤k):
  aS P w K mg base CX k f fd ps sp:=⟨F.len,fun A outer s H args us vs Q E hr=> F.run A outer s H args us vs Q E (hr.mono h)⟩
section
variable {X:Cx} {pins:List (Addr×Obj)} {σ:St} {H:Hp} {s s':Shared}
theorem Inv.env0 (I:Inv X pins σ H s):my X.prog X.w X.K X.mg X.base X.A X.stack s H:=
 ⟨I.ok.frames,I.ok.mod,I.bs,Nat.le_trans I.ok.bsz I.sz,I.stack,I.stkFree,I.hok,I.bare⟩
theorem Inv.after {Q:VK} {u:Value} (I:Inv X pins σ H s) (h:CE X.stack X.prog X.w H s Q u s'):EP X pins σ Q u s':=by
 obtain ⟨v,H',os,bare,un,hok,r,q⟩:=h
 obtain ⟨hh,g,d,t,os'⟩:=s'
 obtain rfl:os'=s.os:=os
 exact ⟨v,H',I.call (h':=hh) (g':=g) (d':=d) (t':=t) (ch:=[]) un hok bare (fun b z=> absurd z (by simp)),r,q⟩
end
def oO (sp:Sp) (dvs:List V) (E:XK) (t:TA):TE:=fun σ H Q=> t σ H fun vs H1=> sp (vs++dvs) H1 Q E
def aH (K:PySem.W.Frag) (fd:FuncData) (ps:List Str) (ds:List Value):Prop:=
 ∀ (s:Shared) (us:List Value),K.In s.heap→(us++ds).length=ps.length→BindsTo s fd ⟨us,[]⟩ (ps.zip (us++ds))
theorem aH.all {K:PySem.W.Frag} {fd:FuncData} {ps:List Str} (h:∀ us:List Value,us.length=ps.length→bindArgs fd ⟨us,[]⟩=pure (ps.zip us)):aH K fd ps []:=fun s us _ hl=> by
 rw [List.append_nil] at hl ⊢
 exact .of_eq (h us hl)
def dZ (CX:CXT) (X:Cx) (E:XK):Prop:=∀ (pins:List (Addr×Obj)) (σ:St) (H:Hp) (s:Shared) (e:Value) (s':Shared),Inv X pins σ H s→CX X.stack H s E e s'→X.xe e s'
section
variable {X:Cx} {CX:CXT} {k:Nat} {f C:Addr} {fd:FuncData} {ps:List Str} {sp:Sp} {dvs:List V} {ds:List Value} {E:XK} {x m:Str} {p pos apos:Pos} {e o:Expr} {es:List Expr} {ta:TE} {t:TA}
theorem nV {pins:List (Addr×Obj)} {σ:St} {H:Hp} {s:Shared} {Q:VK} {us:List Value} {vs:List V} (F:aS X.prog X.w X.K X.mg X.base CX k f fd ps sp) (hr:cG k X.A) (hb:aH X.K fd ps ds) (hd:aQ dvs ds) (hx:dZ CX X E)
  (I:Inv X pins σ H s) (r:aQ vs us) (h:sp (vs++dvs) H Q E):wpAny (model X.prog X.w) X.A (call (.ref f) us) (EP X pins σ Q) X.xe s:=by
 have r2:aQ (vs++dvs) (us++ds):=r.append hd
 have hl:(us++ds).length=ps.length:=by rw [← r2.length]; exact F.len _ _ _ _ h
 refine wpAny_call (codeAny_mono (F.run X.A X.stack s H ⟨us,[]⟩ (us++ds) (vs++dvs) Q E hr I.env0 (hb s us I.kIn hl) r2 h) fun r s' hq=> ?_)
 cases r with
 | error e=> exact hx pins σ H s e s' I hq
 | ok fl=>
  cases fl with
  | ret u=> exact I.after hq
  | next=> exact False.elim hq
  | brk=> exact False.elim hq
  | cont=> exact False.elim hq
theorem gx (F:aS X.prog X.w X.K X.mg X.base CX k f fd ps sp) (hr:cG k X.A) (hg:Gl X x) (hm:X.mg x=some (.ref f)) (hk:PySem.W.keepIn X.K (.ref f)=true) (hb:aH X.K fd ps ds) (hd:aQ dvs ds) (hx:dZ CX X E)
  (ha:PA X (e::es) t) (hdb:(x==("__debug__":Str))=false:=by decide) (he:starEach (e::es) X.env=(false,eval e X.env)::starEach es X.env:=by rfl) (hpl:(backTo pos (starEach es X.env)).any (·.1)=false:=by rfl):
  PE X (.Call (.Name x p) (e::es) [] pos) (oO sp dvs E t):=by
 intro pins s σ H Q I h
 refine wpAny_Call_Name_kw (d8 I hg hm ?_ hdb)
 refine PySem.W.callWith_K (h₀:=X.base) I.ok.mod.kin hk (thn (ha pos pins s σ H _ I h) fun us s1 ⟨vs,H1,I1,r,q⟩=> ⟨I1.kIn,?_⟩) he hpl
 exact nV F hr hb hd hx I1 r q
structure Mk (K:PySem.W.Frag) (C f:Addr):Prop where
 makes:PySem.W.makesIn K C=true
 init:PySem.W.findIn K (.ref C) "__init__"=some (some (.ref f))
 fn:PySem.W.isFn K (.ref f)=true
 kp:PySem.W.keepIn K (.ref C)=true
end
section
variable {X:Cx} {CX:CXT} {k:Nat} {f C:Addr} {fd:FuncData} {ps ks:List Str} {sp:Sp} {E:XK} {x m:Str} {p pos apos kpos:Pos} {e o:Expr} {es:List Expr} {kws:List Keyword} {te ta:TE} {t tk:TA} {nm:Option Str}
structure qc (K:PySem.W.Frag) (fd:FuncData) (ps ks:List Str) (g:List Value→List Value→List Value) (gV:List V→List V→List V):Prop where
 to:∀ (s:Shared) (us ws:List Value),K.In s.heap→(g us ws).length=ps.length→BindsTo s fd ⟨us,ks.zip ws⟩ (ps.zip (g us ws))
 rel:∀ {vs:List V} {us:List Value} {zs:List V} {ws:List Value},aQ vs us→aQ zs ws→aQ (gV vs zs) (g us ws)
variable {g:List Value→List Value→List Value} {gV:List V→List V→List V}
end
structure av (N P:List Str) (sc:Scope):Prop where
 kind:sc.kind=.function
 co:sc.isCoroutine=false
 gen:sc.isGenerator=false
 nd:N.Nodup
 pre:N.take P.length=P
 par:∀ x∈P,sc.names.lookup x=some .local∨sc.names.lookup x=some .cell
 nofree:∀ y∈sc.names,y.2≠.free
theorem ge {kindOf:Str→Option NameKind} {x:Str}:∀ {binds:List (Str×Value)} {m:Str→Option Value},(∀ v,(x,v) ∉ binds)→bindL kindOf binds m x=m x
 | [],_,_=> rfl
 | (n,v)::r,m,h=> by
  unfold bindL
  rw [ge fun w hw=> h w (List.mem_cons_of_mem _ hw)]
  split
  ·have:x≠n:=by rintro rfl; exact h v List.mem_cons_self
   simp [this]
  ·rfl
theorem gd {kindOf:Str→Option NameKind} {x:Str}:∀ {binds:List (Str×Value)} {m:Str→Option Value},(∀ v,(x,v) ∉ binds)→bindC kindOf binds m x=m x
 | [],_,_=> rfl
 | (n,v)::r,m,h=> by
  unfold bindC
  rw [gd fun w hw=> h w (List.mem_cons_of_mem _ hw)]
  split
  ·rfl
  ·have:x≠n:=by rintro rfl; exact h v List.mem_cons_self
   simp [this]
theorem gu {kindOf:Str→Option NameKind} {x:Str} {v:Value}:∀ {P:List Str} {vs:List Value} {i:Nat} {m:Str→Option Value},P.Nodup→P[i]?=some x→vs[i]?=some v→kindOf x=some .local→
  bindL kindOf (P.zip vs) m x=some v
 | [],_,_,_,_,h,_,_=> by simp at h
 | _::_,[],_,_,_,_,h,_=> by simp at h
 | p::P,w::vs,0,m,nd,h1,h2,hk=> by
  simp at h1 h2; subst h1; subst h2
  show bindL kindOf ((p,w)::P.zip vs) m p=_
  unfold bindL
  rw [ge fun v hv=> (List.nodup_cons.mp nd).1 (List.of_mem_zip hv).1,if_pos hk]
  simp
 | p::P,w::vs,i+1,m,nd,h1,h2,hk=> by
  show bindL kindOf ((p,w)::P.zip vs) m x=_
  unfold bindL
  exact gu (i:=i) (List.nodup_cons.mp nd).2 (by simpa using h1) (by simpa using h2) hk
theorem gq {kindOf:Str→Option NameKind} {x:Str} {v:Value}:∀ {P:List Str} {vs:List Value} {i:Nat} {m:Str→Option Value},P.Nodup→P[i]?=some x→vs[i]?=some v→kindOf x≠some .local→
  bindC kindOf (P.zip vs) m x=some v
 | [],_,_,_,_,h,_,_=> by simp at h
 | _::_,[],_,_,_,_,h,_=> by simp at h
 | p::P,w::vs,0,m,nd,h1,h2,hk=> by
  simp at h1 h2; subst h1; subst h2
  show bindC kindOf ((p,w)::P.zip vs) m p=_
  unfold bindC
  rw [gd fun v hv=> (List.nodup_cons.mp nd).1 (List.of_mem_zip hv).1,if_neg hk]
  simp
 | p::P,w::vs,i+1,m,nd,h1,h2,hk=> by
  show bindC kindOf ((p,w)::P.zip vs) m x=_
  unfold bindC
  exact gq (i:=i) (List.nodup_cons.mp nd).2 (by simpa using h1) (by simpa using h2) hk
def start (N:List Str) (vs:List V):St:=vs.map some++List.replicate (N.length - vs.length) none
def cU (CX:CXT) (P:Program) (w:World) (K:PySem.W.Frag) (mg:Str→Option Value) (base:Heap) (N:List Str) (qual:Str) (scope:Scope) (f:Addr) (cd:Value) (A:Around) (outer:List Env) (s:Shared) (H:Hp) (E:XK):Cx where
 prog:=P
 w:=w
 K:=K
 mg:=mg
 base:=base
 A:=A.deeper (envOfC qual scope s.heap.objs.size f cd)
 N:=N
 s₀:=s
 H₀:=H
 env:=envOfC qual scope s.heap.objs.size f cd
 outer:=outer
 stack:=envOfC qual scope s.heap.objs.size f cd::outer
 ex:=[]
 calm:=true
 fn:=fun _=> true
 pn:=[]
 xe:=fun e s'=> wpAny (model P w) (A.deeper (envOfC qual scope s.heap.objs.size f cd)) (leaving (envOfC qual scope s.heap.objs.size f cd) e) (fun _ s''=> CX outer H s E e s'') (fun e' s''=> CX outer H s E e' s'') s'
theorem hJ {sc:Scope} {n:Nat} {x:Str} (h:sc.names.lookup x=some .cell):∃ c,(cellsFrom n sc.names []).lookup x=some c:=by
 have q:=PySem.W.cellsFrom_some sc.names n [] (.inl h)
 exact Option.isSome_iff_exists.mp q
theorem j4 {CX:CXT} {P:Program} {w:World} {K:PySem.W.Frag} {mg:Str→Option Value} {base:Heap} {N ps:List Str} {qual:Str} {scope:Scope} {f:Addr} {cd:Value} {A:Around} {outer:List Env} {s s1:Shared} {H:Hp} {E:XK} {us:List Value} {vs:List V}
  (S:av N ps scope) (hd:A.handled=none) (e0:my P w K mg base A outer s H) (hl:vs.length=ps.length) (r:aQ vs us)
  (x:InCallC s s.heap.objs.size (bindL (envOfC qual scope s.heap.objs.size f cd).kindOf (ps.zip us) fun _=> none) (cellsFrom (s.heap.objs.size+1) scope.names []) (bindC (envOfC qual scope s.heap.objs.size f cd).kindOf (ps.zip us) fun _=> none) s1):
  Inv (cU CX P w K mg base N qual scope f cd A outer s H E) [] (start N vs) H s1:=by
 have hpl:ps.length≤N.length:=by have:=congrArg List.length S.pre; rw [List.length_take] at this; omega
 obtain ⟨h1,tk,rfl,hk⟩:=x.done
 have noA:∀ b:Addr,b ∉ (cU CX P w K mg base N qual scope f cd A outer s H E).ex:=fun b z=> absurd (show b∈([]:List Addr) from z) (by simp)
 refine ⟨⟨e0.mod,S.kind,rfl,rfl,Nat.le_refl _,fun y z c h1 h2=> ?_,fun y hy=> ?_,fun y c _ h=> ?_,fun _=> hd,Around.frames_deeper e0.frames,.inr ⟨rfl,rfl⟩,fun b z=> absurd z (noA b),e0.bs,e0.bsz,fun b _ _=> noA b,fun b z=> absurd z (noA b),e0.funs,e0.frf⟩,
  rfl,e0.bare,Un.kept hk,⟨_,x.toInCall.ns,fun i y v h1 h2 h3=> ?_⟩,fun y c h=> ⟨_,x.cell y c h⟩,e0.hok.fresh (Nat.le_refl _),fun y c h=> ?_,fun p hp=> absurd (show p∈([]:List (Addr×Obj)) from hp) (by simp),e0.hok.kept hk,?_⟩
 ·exact name_of_addr x.apart (PySem.mem_of_lookup h1) (PySem.mem_of_lookup h2)
 ·have hy:scope.names.lookup y=some .cell∨scope.names.lookup y=some .free:=hy
  rcases hy with hy | hy
  ·exact hJ hy
  ·exact absurd rfl (S.nofree _ (PySem.mem_of_lookup hy))
 ·exact Nat.le_of_lt (x.above y c (PySem.mem_of_lookup h))
 ·have hi:i < vs.length:=by
   unfold start at h2
   by_cases hi:i < vs.length
   ·exact hi
   ·rw [List.getElem?_append_right (by simpa using hi)] at h2
    rw [List.getElem?_replicate] at h2
    split at h2 <;> cases h2
  have ha:vs[i]?=some v:=by
   unfold start at h2
   rw [List.getElem?_append_left (by simpa using hi),List.getElem?_map] at h2
   cases e:vs[i]? with
   | none=> rw [e] at h2; cases h2
   | some a=> rw [e] at h2; cases h2; rfl
  obtain ⟨u,hu,rv⟩:=r.get ha
  have hp:ps[i]?=some y:=by
   rw [← S.pre,List.getElem?_take_of_lt (by omega)]; exact h1
  have ndP:ps.Nodup:=by rw [← S.pre]; exact S.nd.sublist (List.take_sublist _ _)
  refine ⟨u,rv,?_⟩
  rcases S.par y (List.mem_of_getElem? hp) with k | k
  ·exact .inl ⟨k,gu ndP hp hu k⟩
  ·obtain ⟨c,e⟩:=hJ (n:=s.heap.objs.size+1) k
   refine .inr ⟨.inl k,c,e,?_⟩
   have q:=x.cell y c e
   rw [gq ndP hp hu (by show scope.names.lookup y≠_; rw [k]; decide)] at q
   exact q
 ·exact e0.hok.fresh (Nat.le_of_lt (x.above y c (PySem.mem_of_lookup h)))
 ·unfold start
  show _=N.length
  rw [List.length_append,List.length_map,List.length_replicate]
  omega
theorem pE {CX:CXT} {P:Program} {w:World} {K:PySem.W.Frag} {mg:Str→Option Value} {base:Heap} {k:Nat} {f:Addr} {name qual:Str} {params:Arguments} {body:List Stmt} {scope:Scope} {dV kV doc pm cdv ct oc:Value} {an od:Option Addr}
  {osl:Array (Option Value)} {N ps:List Str} {sp:Sp} (lk:K.lookup f=some ⟨oc,od,.func (PySem.W.fnOf name qual params body scope dV kV doc pm an cdv ct),osl⟩) (hcd:PySem.W.codeIn K cdv qual=true) (S:av N ps scope)
  (len:∀ vs H Q E,sp vs H Q E→vs.length=ps.length)
  (hbody:∀ (A:Around) (outer:List Env) (s:Shared) (H:Hp) (vs:List V) (Q:VK) (E:XK),cG k (A.deeper (envOfC qual scope s.heap.objs.size f cdv))→sp vs H Q E→
   ∃ t,PSs (cU CX P w K mg base N qual scope f cdv A outer s H E) body t∧t { nx:=fun _ H'=> Q .non H',rt:=Q } (start N vs) H):
  aS P w K mg base CX (k+1) f (PySem.W.fnOf name qual params body scope dV kV doc pm an cdv ct) ps sp:=by
 refine ⟨len,fun A outer s H args us vs Q E hr e0 hb r hsp=> ?_⟩
 have hl:=len _ _ _ _ hsp
 have KX:K.In s.heap:=e0.mod.kin.keeps fun b o e=> (e0.bs b o e).1
 have lim:s.heap.NoLimit:=e0.mod.nolimit.keeps fun b o e=> (e0.bs b o e).1
 have hkind:∀ y∈ps.zip us,scope.names.lookup y.1=some .local∨(scope.names.lookup y.1=some .cell∧((cellsFrom (s.heap.objs.size+1) scope.names []).lookup y.1).isSome=true):=fun ⟨n,v⟩ hy=> by
  rcases S.par n (List.of_mem_zip hy).1 with q | q
  ·exact .inl q
  ·exact .inr ⟨q,PySem.W.cellsFrom_some _ _ _ (.inl q)⟩
 refine codeAny_call_function hr.depth (KX _ _ lk) rfl S.co S.gen rfl (PySem.W.codeRec_of KX hcd) (hb _ _ _ _ ?_)
 refine wpAny_newFunctionEnv_cells S.kind hkind fun env he s1 x=> ?_
 subst he
 refine ⟨lim.keeps x.toInCall.keep,codeAny_func ?_⟩
 obtain ⟨t,ht,hq⟩:=hbody A outer s H vs Q E (hr.deeper _) hsp
 have I:Inv (cU CX P w K mg base N qual scope f cdv A outer s H E) [] (start N vs) H s1:=j4 S hr.hd e0 hl r x
 refine wpAny_mono (ht [] s1 (start N vs) H _ I hq) (fun fl s' hs=> ?_) fun e s' hs=> hs
 have fin:∀ {σ':St} {H':Hp} {v:V} {u:Value},Inv (cU CX P w K mg base N qual scope f cdv A outer s H E) [] σ' H' s'→aP v u→Q v H'→CE outer P w H s Q u s':=
  fun {σ' H' v u} J rv q=> ⟨v,H',J.os,J.bare,J.base,J.hok,rv,q⟩
 cases fl with
 | ret u=>
  obtain ⟨v,σ',H',J,rv,q⟩:=hs
  exact fin J rv q
 | next=>
  obtain ⟨σ',H',J,q⟩:=hs
  exact fin (v:=V.non) (u:=Value.none) J rfl q
 | brk=>
  obtain ⟨_,_,_,q⟩:=hs
  exact False.elim q
 | cont=>
  obtain ⟨_,_,_,q⟩:=hs
  exact False.elim q
end L2
namespace L2
open PySem PySem.Spec PyProof.Rows
section
variable {X:Cx} {x:Str} {p pos:Pos} {e:Expr} {es:List Expr} {t:TA} {id T:String} {r:List V→Hp→VK→Prop}
def tCB (r:List V→Hp→VK→Prop) (t:TA):TE:=fun σ H Q=> t σ H fun vs H1=> r vs H1 Q
theorem fK (hc:cM X (.builtin id) r) (hg:Gl X x) (hm:X.mg x=none) (hv:bootBuiltins x=some (.builtin id)) (ha:PA X (e::es) t) (hn:x≠"__name__":=by decide) (hdb:(x==("__debug__":Str))=false:=by decide)
  (he:starEach (e::es) X.env=(false,eval e X.env)::starEach es X.env:=by rfl) (hpl:(backTo pos (starEach es X.env)).any (·.1)=false:=by rfl):PE X (.Call (.Name x p) (e::es) [] pos) (tCB r t):=by
 intro pins s σ H Q I h
 refine wpAny_Call_Name_kw (fO I hg hm hv ?_ hn hdb)
 exact PyProof.Rows.callWith_builtin1 (thn (ha pos pins s σ H _ I h) fun us s1 ⟨vs,H1,I1,r1,q1⟩=> hc pins s1 σ H1 vs us Q I1 r1 q1) he hpl
theorem jL (hc:cM X (.type T) r) (hg:Gl X x) (hm:X.mg x=none) (hv:bootBuiltins x=some (.type T)) (ha:PA X (e::es) t) (hn:x≠"__name__":=by decide) (hdb:(x==("__debug__":Str))=false:=by decide)
  (he:starEach (e::es) X.env=(false,eval e X.env)::starEach es X.env:=by rfl) (hpl:(backTo pos (starEach es X.env)).any (·.1)=false:=by rfl):PE X (.Call (.Name x p) (e::es) [] pos) (tCB r t):=by
 intro pins s σ H Q I h
 refine wpAny_Call_Name_kw (fO I hg hm hv ?_ hn hdb)
 exact PyProof.Rows.callWith_type1 (thn (ha pos pins s σ H _ I h) fun us s1 ⟨vs,H1,I1,r1,q1⟩=> hc pins s1 σ H1 vs us Q I1 r1 q1) he hpl
end
end L2
namespace HT
open PySem PyProof.Rows
section
open PySem.SeqAt
open PySem.AutoSeq1 (wpAny_loadPart')
open PySem.MeetsSeq PySem.MeetsSeq2 PySem.MeetsSeq3
end
section
variable {prog:Program} {w:World} {A:Around} {E:Value→Shared→Prop} {s:Shared}
def sIx (n d:Nat):Option Int→Nat
 | none=> d
 | some v=> if v < 0 then (v+(n:Int)).toNat else min v.toNat n
end
end HT
namespace L2
open PySem PySem.Spec PyProof.Rows
abbrev TO:=St→Hp→(Option Int→Hp→Prop)→Prop
def PO (X:Cx) (e:Option Expr) (t:TO):Prop:=
 ∀ (pins:List (Addr×Obj)) (s:Shared) (σ:St) (H:Hp) (Q:Option Int→Hp→Prop),Inv X pins σ H s→t σ H Q→
  wpAny (model X.prog X.w) X.A (evalPart e X.env) (fun u s'=> ∃ o H',Inv X pins σ H' s'∧IsPart u o∧Q o H') X.xe s
def mm:TO:=fun _ H Q=> Q none H
def pr (t:TE):TO:=fun σ H Q=> t σ H fun x H1=> ∃ i,x=.int i∧Q (some i) H1
section
variable {X:Cx} {e:Expr} {te:TE} {lo hi:Option Expr} {tl th:TO} {pos p2:Pos}
theorem lU:PO X none mm:=by
 intro pins s σ H Q I h
 rw [evalPart_none]
 exact wpAny_pure ⟨none,H,I,.none,h⟩
theorem lW (h:PE X e te):PO X (some e) (pr te):=by
 intro pins s σ H Q I hw
 rw [evalPart_some]
 refine thn (h pins s σ H _ I hw) fun u s1 ⟨x,H1,I1,r1,q1⟩=> ?_
 obtain ⟨i,rfl,q⟩:=q1
 obtain ⟨t,rfl⟩:=r1
 exact ⟨some i,H1,I1,.int i t,q⟩
def SlR (X:Cx) (r:V→Option Int→Option Int→Hp→VK→Prop):Prop:=
 ∀ (pins:List (Addr×Obj)) (s:Shared) (σ:St) (H:Hp) (x:V) (v vl vu:Value) (lo hi:Option Int) (sl:Addr) (Q:VK),Inv X pins σ H s→aP x v→s.heap.IsSliceOf sl vl vu .none→IsPart vl lo→IsPart vu hi→r x lo hi H Q→
  ∃ T id,typeLookup (.type T) "__getitem__"=pure (some (.builtin id))∧s.TypeIs v T∧wpAny (model X.prog X.w) X.A (getItem v (.ref sl)) (EP X pins σ Q) X.xe s
def tSl (r:V→Option Int→Option Int→Hp→VK→Prop) (te:TE) (tl th:TO):TE:=fun σ H Q=> te σ H fun x H1=> tl σ H1 fun l H2=> th σ H2 fun u H3=> r x l u H3 Q
theorem lH {r:V→Option Int→Option Int→Hp→VK→Prop} (hr:SlR X r) (he:PE X e te) (hl:PO X lo tl) (hu:PO X hi th):PE X (.Subscript e (.Slice lo hi none p2) pos) (tSl r te tl th):=by
 intro pins s σ H Q I h
 refine Subscript_ (thn (he pins s σ H _ I h) fun v s1 ⟨x,H1,I1,r1,q1⟩=> ?_)
 refine wpAny_Slice (thn (hl pins s1 σ H1 _ I1 q1) fun vl s2 ⟨l,H2,I2,pl,q2⟩=> thn (hu pins s2 σ H2 _ I2 q2) fun vu s3 ⟨u,H3,I3,pu,q3⟩=> ?_)
 rw [evalPart_none]
 refine wpAny_pure ?_
 have I4:Inv X pins σ H3 { s3 with heap:=s3.heap.push { cls:=.type "slice",data:=.fields #[vl,vu,.none] } }:=I3.kept (t':=s3.toks) fun b ob q=> Heap.get?_push_of_some _ q
 obtain ⟨T,id,hT,ht,hg⟩:=hr pins { s3 with heap:=s3.heap.push { cls:=.type "slice",data:=.fields #[vl,vu,.none] } } σ H3 x v vl vu l u s3.heap.objs.size Q I4 r1 (Heap.IsSliceOf.new ..) pl pu q3
 show wpAny (model X.prog X.w) X.A (subscriptTail e (.Slice lo hi none p2) v (.ref s3.heap.objs.size)) (EP X pins σ Q) X.xe { s3 with heap:=s3.heap.push { cls:=.type "slice",data:=.fields #[vl,vu,.none] } }
 exact tail_any (ops:=[.ref s3.heap.objs.size,v]) ht hT hg (by with_unfolding_all rfl)
def jM (xs:List V) (lo hi:Option Int):List V:=(xs.drop (HT.sIx xs.length 0 lo)).take (HT.sIx xs.length xs.length hi - HT.sIx xs.length 0 lo)
theorem iE (xs:List V) (lo hi:Option Int):(jM xs lo hi).length≤xs.length:=by
 unfold jM
 rw [List.length_take,List.length_drop]
 omega
end
end L2
namespace L2
open PySem PySem.Spec PyProof.Rows
def ixN (n:Nat) (i:Int):Option Nat:=if 0≤i then (if i < n then some i.toNat else none) else if -(n:Int)≤i then some (i+n).toNat else none
def atI {α:Type} (xs:List α) (i:Int):Option α:=(ixN xs.length i).bind fun j=> xs[j]?
theorem lZ {n:Nat} {i:Int} {j:Nat} (h:ixN n i=some j):seqIndex? i n=some j∧j < n∧-(n:Int)≤i∧i < n:=by
 unfold ixN at h
 by_cases h0:0≤i
 ·rw [if_pos h0] at h
  by_cases h1:i < n
  ·rw [if_pos h1] at h
   have e:i.toNat=j:=Option.some.inj h
   exact ⟨by rw [seqIndex_of h0 h1,e],by omega,by omega,h1⟩
  ·rw [if_neg h1] at h; cases h
 ·rw [if_neg h0] at h
  by_cases h1:-(n:Int)≤i
  ·rw [if_pos h1] at h
   have e:(i+n).toNat=j:=Option.some.inj h
   exact ⟨by rw [seqIndex_neg (by omega) h1,e],by omega,h1,by omega⟩
  ·rw [if_neg h1] at h; cases h
theorem jl {α:Type} {xs:List α} {i:Int} {v:α} (h:atI xs i=some v):∃ j,seqIndex? i xs.length=some j∧xs[j]?=some v∧j < xs.length∧-(xs.length:Int)≤i∧i < xs.length:=by
 unfold atI at h
 cases e:ixN xs.length i with
 | none=> rw [e] at h; cases h
 | some j=>
  rw [e] at h
  obtain ⟨h1,h2,h3,h4⟩:=lZ e
  exact ⟨j,h1,h,h2,h3,h4⟩
theorem jd {α:Type} {xs:List α} {j:Nat} {v:α} (h:xs[j]?=some v):atI xs (j:Int)=some v:=by
 have hj:j < xs.length:=(List.getElem?_eq_some_iff.mp h).1
 have e:ixN xs.length (j:Int)=some j:=by
  unfold ixN
  rw [if_pos (by omega),if_pos (by omega)]; simp
 unfold atI; rw [e]; exact h
def gC (b:Expr):Prop:=∀ o i,subscripted b false o i=operate [o,i] (getItem o i)
def IxR (X:Cx) (r:R2):Prop:=
 ∀ (value slice:Expr) (pins:List (Addr×Obj)) (s:Shared) (σ:St) (H:Hp) (x y:V) (v u:Value) (Q:VK),Inv X pins σ H s→aP x v→aP y u→r x y H Q→
  subscripted slice false v u=operate [v,u] (getItem v u)→wpAny (model X.prog X.w) X.A (subscriptTail value slice v u) (EP X pins σ Q) X.xe s
def MtR (X:Cx) (id:String) (r:V→List V→Hp→VK→Prop):Prop:=
 ∀ (pins:List (Addr×Obj)) (s:Shared) (σ:St) (H:Hp) (x:V) (xs:List V) (v:Value) (us:List Value) (Q:VK),Inv X pins σ H s→aP x v→aQ xs us→r x xs H Q→
  wpAny (model X.prog X.w) X.A (call (.builtin id) (v::us)) (EP X pins σ Q) X.xe s
section
variable {X:Cx} {a b:Expr} {ta tb:TE} {pos:Pos}
theorem IxR.or {r r':R2} (h:IxR X r) (h':IxR X r'):IxR X (fun x y H Q=> r x y H Q∨r' x y H Q):=by
 intro value slice pins s σ H x y v u Q I rx ry q hs
 rcases q with q | q
 ·exact h value slice pins s σ H x y v u Q I rx ry q hs
 ·exact h' value slice pins s σ H x y v u Q I rx ry q hs
theorem m7 {r:R2} (hr:IxR X r) (ha:PE X a ta) (hb:PE X b tb) (hs:gC b):PE X (.Subscript a b pos) (tOp r ta tb):=by
 intro pins s σ H Q I h
 exact Subscript_ (nw ha hb I h fun v u s2 x y H2 I2 rx ry q=> hr a b pins s2 σ H2 x y v u Q I2 rx ry q (hs _ _))
def pU (K:PySem.W.Frag):R2:=fun x y H Q=> ∃ p xs i v,x=.ref p∧y=.int i∧SqL K H p xs∧atI xs i=some v∧Q v H
def qg (K:PySem.W.Frag):R2:=fun x y H Q=> ∃ p xs i v,x=.ref p∧y=.int i∧SqT K H p xs∧atI xs i=some v∧Q v H
theorem jg:IxR X (pU X.K):=by
 intro value slice pins s σ H x y v u Q I rx ry h hs
 obtain ⟨p,xs,i,z,rfl,rfl,hq,he,q⟩:=h
 cases rx
 obtain ⟨t,rfl⟩:=ry
 obtain ⟨its,r,pl,hz⟩:=I.list hq
 obtain ⟨j,h1,h2,h3,h4,h5⟩:=jl he
 obtain ⟨w,ew,rw'⟩:=r.get h2
 have hl:=r.length
 have hn:=i0
 have fin:EP X pins σ Q w s:=⟨z,H,I,rw',q⟩
 by_cases h0:0≤i
 ·have hj:i.toNat=j:=by
   rw [seqIndex_of h0 h5] at h1
   exact Option.some.inj h1
  exact item_listR pl.isList h0 (by omega) (by rw [hj]; simpa using ew) fin hs
 ·have hj:(i+(its.toArray.size:Int)).toNat=j:=by
   rw [seqIndex_neg (by omega) h4] at h1
   rw [List.size_toArray,← hl]
   exact Option.some.inj h1
  exact subscriptTail_builtinR (x:=w) pl.isList.typeIs slot_list_getitem.lookup
   (wpAny_getItem_list_neg (Q:=fun r s'=> r=w∧EP X pins σ Q r s') pl.isList (by omega) (by rw [List.size_toArray] <;> omega) (by omega) (by rw [hj]; simpa using ew) ⟨rfl,fin⟩) hs
theorem ol:IxR X (qg X.K):=by
 intro value slice pins s σ H x y v u Q I rx ry h hs
 obtain ⟨p,xs,i,z,rfl,rfl,hq,he,q⟩:=h
 cases rx
 obtain ⟨t,rfl⟩:=ry
 obtain ⟨its,r,pl,hz⟩:=I.tuple hq
 obtain ⟨j,h1,h2,h3,h4,h5⟩:=jl he
 obtain ⟨w,ew,rw'⟩:=r.get h2
 have hl:=r.length
 have hn:=i0
 have fin:EP X pins σ Q w s:=⟨z,H,I,rw',q⟩
 exact subscriptTail_builtinR (x:=w) pl.typeIs slot_tuple_getitem.lookup
  (getItem_tuple (j:=j) (Q:=fun r s'=> r=w∧EP X pins σ Q r s') pl (by omega) (by omega) (by rw [List.size_toArray,← hl]; exact h1) (by simpa using ew) ⟨rfl,fin⟩) hs
theorem gR (lo hi:Option Int) (n:Nat):(sliceBounds lo hi none n).1=((HT.sIx n 0 lo:Nat):Int)∧(sliceBounds lo hi none n).2.1=((HT.sIx n n hi:Nat):Int)∧(sliceBounds lo hi none n).2.2=1:=by
 refine ⟨?_,?_,rfl⟩
 ·cases lo with
  | none=> simp [sliceBounds,HT.sIx]
  | some i=>
   simp only [sliceBounds,HT.sIx,Option.getD_none,show (1:Int) > 0 by decide,if_true]
   by_cases h:i < 0
   ·simp only [h,if_true] <;> omega
   ·simp only [h,if_false] <;> omega
 ·cases hi with
  | none=> simp [sliceBounds,HT.sIx]
  | some i=>
   simp only [sliceBounds,HT.sIx,Option.getD_none,show (1:Int) > 0 by decide,if_true]
   by_cases h:i < 0
   ·simp only [h,if_true] <;> omega
   ·simp only [h,if_false] <;> omega
theorem fV (its:List Value) (lo hi:Option Int):slicePick its.toArray lo hi none=((its.drop (HT.sIx its.length 0 lo)).take (HT.sIx its.length its.length hi - HT.sIx its.length 0 lo)).toArray:=by
 obtain ⟨h1,h2,h3⟩:=gR lo hi its.toArray.size
 unfold slicePick
 rw [h1,h2,h3]
 simp only [sliceRange_one,pick_run,List.size_toArray] <;> rfl
def qd (K:PySem.W.Frag):V→Option Int→Option Int→Hp→VK→Prop:=fun x lo hi H Q=> ∃ a xs,x=.ref a∧SqL K H a xs∧∀ p,H p=none→Q (.ref p) (upd H p (.lst (jM xs lo hi)))
theorem mf:SlR X (qd X.K):=by
 intro pins s σ H x v vl vu lo hi sl Q I rx hs pl pu h
 obtain ⟨a,xs,rfl,hx,q⟩:=h
 cases rx
 obtain ⟨its,r,ht,hz⟩:=I.list hx
 have hlen:=r.length
 refine ⟨"list",_,slot_list_getitem.lookup,ht.isList.typeIs,?_⟩
 refine wpAny_getItem_list_slice ht.isList hs pl pu .none (by simp) ?_ (by rw [List.size_toArray] <;> omega)
 rw [fV,← hlen]
 refine ⟨.ref s.heap.objs.size,_,I.laid (t':=s.toks) (o:=.lst (jM xs lo hi)) (fun b ob q=> Heap.get?_push_of_some _ q) (Nat.le_refl _) ?_,rfl,q _ (I.hok.fresh (Nat.le_refl _))⟩
 exact ⟨Nat.le_trans (iE xs lo hi) hz,_,0,(r.drop (HT.sIx xs.length 0 lo)).take (HT.sIx xs.length xs.length hi - HT.sIx xs.length 0 lo),Heap.get?_push_size _ rfl⟩
def dR:V→Bool
 | .non=> true
 | .bl _=> true
 | .int _=> true
 | .str _=> true
 | _=> false
def eqV:V→V→Bool
 | .non,.non=> true
 | .bl a,.bl b=> a==b
 | .bl a,.int b=> (if a then 1 else 0)==b
 | .int a,.bl b=> a==(if b then 1 else 0)
 | .int a,.int b=> a==b
 | .str a,.str b=> a==b
 | _,_=> false
theorem nZ {A:Around} {s:Shared} {y x:V} {u v:Value} (ry:aP y u) (rx:aP x v) (fy:dR y=true) (fx:dR x=true):SeqAt.EqAt A s u v (eqV y x):=by
 cases y with
 | non=>
  cases ry
  cases x with
  | non=> cases rx; exact SeqAt.EqAt.same _
  | bl b=> cases rx; exact SeqAt.EqAt.none_bool b
  | int b=> obtain ⟨t,rfl⟩:=rx; exact SeqAt.EqAt.none_int b t
  | str b=> obtain ⟨t,rfl⟩:=rx; exact SeqAt.EqAt.none_str b t
  | _=> exact absurd (show false=true from fx) Bool.false_ne_true
 | bl a=>
  cases ry
  cases x with
  | non=> cases rx; exact SeqAt.EqAt.bool_none a
  | bl b=> cases rx; exact SeqAt.EqAt.bool_bool a b
  | int b=> obtain ⟨t,rfl⟩:=rx; exact SeqAt.EqAt.bool_int a b t
  | str b=> obtain ⟨t,rfl⟩:=rx; exact SeqAt.EqAt.bool_str a b t
  | _=> exact absurd (show false=true from fx) Bool.false_ne_true
 | int a=>
  obtain ⟨t',rfl⟩:=ry
  cases x with
  | non=> cases rx; exact SeqAt.EqAt.int_none a t'
  | bl b=> cases rx; exact SeqAt.EqAt.int_bool a t' b
  | int b=> obtain ⟨t,rfl⟩:=rx; exact SeqAt.EqAt.int_int a t' b t
  | str b=> obtain ⟨t,rfl⟩:=rx; exact SeqAt.EqAt.int_str a t' b t
  | _=> exact absurd (show false=true from fx) Bool.false_ne_true
 | str a=>
  obtain ⟨t',rfl⟩:=ry
  cases x with
  | non=> cases rx; exact SeqAt.EqAt.str_none a t'
  | bl b=> cases rx; exact SeqAt.EqAt.str_bool a t' b
  | int b=> obtain ⟨t,rfl⟩:=rx; exact SeqAt.EqAt.str_int a t' b t
  | str b=> obtain ⟨t,rfl⟩:=rx; exact SeqAt.EqAt.str_str a t' b t
  | _=> exact absurd (show false=true from fx) Bool.false_ne_true
 | _=> exact absurd (show false=true from fy) Bool.false_ne_true
def eqU (x:V) (u:Value):Bool:=match u with
 | .none=> eqV .non x
 | .bool b=> eqV (.bl b) x
 | .int i _=> eqV (.int i) x
 | .str z _=> eqV (.str z) x
 | _=> false
theorem kZ {x y:V} {u:Value} (r:aP y u) (f:dR y=true):eqU x u=eqV y x:=by
 cases y with
 | non=> cases r; rfl
 | bl b=> cases r; rfl
 | int i=> obtain ⟨t,rfl⟩:=r; rfl
 | str z=> obtain ⟨t,rfl⟩:=r; rfl
 | _=> exact absurd (show false=true from f) Bool.false_ne_true
theorem g6 {x:V}:∀ {xs:List V} {us:List Value},aQ xs us→xs.all dR=true→us.any (eqU x)=xs.any fun y=> eqV y x
 | _,_,.nil,_=> rfl
 | y::xs,u::us,.cons r t,f=> by
  rw [List.all_cons,Bool.and_eq_true] at f
  rw [List.any_cons,List.any_cons,kZ r f.1,g6 t f.2]
theorem fq {A:Around} {s:Shared} {x:V} {v:Value} (rx:aP x v) (fx:dR x=true):∀ {xs:List V} {us:List Value},aQ xs us→xs.all dR=true→∀ u∈us,SeqAt.EqAt A s u v (eqU x u)
 | _,_,.nil,_=> fun u hu=> by cases hu
 | y::xs,u::us,.cons r t,f=> fun u' hu=> by
  rw [List.all_cons,Bool.and_eq_true] at f
  rcases List.mem_cons.mp hu with rfl | hu
  ·rw [kZ r f.1]; exact nZ r rx f.1 fx
  ·exact fq rx fx t f.2 u' hu
def inV (x:V) (xs:List V):Bool:=xs.any fun y=> eqV y x
def rIn (K:PySem.W.Frag) (neg:Bool):R2:=fun x y H Q=> ∃ p xs,y=.ref p∧(SqL K H p xs∨SqT K H p xs)∧dR x=true∧xs.all dR=true∧Q (.bl (if neg then !inV x xs else inV x xs)) H
theorem jw:OpR X (compareOp .In) (rIn X.K false):=by
 intro pins s σ H x y v u Q I rx ry h
 obtain ⟨p,xs,rfl,hq,fx,fs,q⟩:=h
 cases ry
 rcases hq with hq | hq
 ·obtain ⟨its,r,pl,hz⟩:=I.list hq
  refine SeqAt.in_listAt (eqU x) pl.isList (fun w hw=> fq rx fx r fs w (by simpa using hw)) ⟨.bl _,H,I,rfl,?_⟩
  rw [show its.toArray.any (eqU x)=its.any (eqU x) by simp,g6 r fs]
  exact q
 ·obtain ⟨its,r,pl,hz⟩:=I.tuple hq
  refine SeqAt.in_tupleAt (eqU x) pl (fun w hw=> fq rx fx r fs w (by simpa using hw)) ⟨.bl _,H,I,rfl,?_⟩
  rw [show its.toArray.any (eqU x)=its.any (eqU x) by simp,g6 r fs]
  exact q
theorem d4:cM X (.builtin "len") (fun xs H Q=> ∃ p ys,xs=[.ref p]∧(SqL X.K H p ys∨SqT X.K H p ys)∧Q (.int ys.length) H):=by
 intro pins s σ H xs us Q I r h
 obtain ⟨p,ys,rfl,hq,q⟩:=h
 obtain ⟨u,rfl,rx⟩:=f_ r
 cases rx
 have hn:=i0
 rcases hq with hq | hq
 ·obtain ⟨its,r',pl,hz⟩:=I.list hq
  have hlen:=r'.length
  exact Calls.call_len_list pl.isList (by simp only [List.size_toArray] <;> omega) ⟨.int ys.length,H,I.tok _,⟨s.toks+1,by rw [List.size_toArray,hlen]⟩,q⟩
 ·obtain ⟨its,r',pl,hz⟩:=I.tuple hq
  have hlen:=r'.length
  exact len_tuple pl (by simp only [List.size_toArray] <;> omega) ⟨.int ys.length,H,I.tok _,⟨s.toks+1,by rw [List.size_toArray,hlen]⟩,q⟩
def tyV (K:PySem.W.Frag) (T:String) (x:V) (H:Hp):Prop:=match x with
 | .str _=> T="str"
 | .int _=> T="int"
 | .ref p=> (T="list"∧∃ xs,SqL K H p xs)∨(T="tuple"∧∃ o,K.lookup p=some o∧o.cls=.type "tuple"∧o.dict=none)∨
   (T="dict"∧((∃ kvs,H p=some (.dK kvs))∨∃ kvs,H p=some (.dT kvs)))∨(T="set"∧∃ S n,H p=some (.set S n))
 | _=> False
theorem nS {pins:List (Addr×Obj)} {σ:St} {H:Hp} {s:Shared} {T:String} {x:V} {v:Value} (I:Inv X pins σ H s) (r:aP x v) (ty:tyV X.K T x H):
  s.TypeIs v T∧∀ a,v=.ref a→∃ ob,s.heap.get? a=some ob∧ob.dict=none:=by
 cases x with
 | str z=>
  obtain ⟨t,rfl⟩:=r
  cases (show T="str" from ty)
  exact ⟨typeIs_str s z t,fun _ e=> nomatch e⟩
 | int i=>
  obtain ⟨t,rfl⟩:=r
  cases (show T="int" from ty)
  exact ⟨typeIs_int s i t,fun _ e=> nomatch e⟩
 | ref p=>
  cases r
  rcases ty with ⟨rfl,xs,hq⟩ | ⟨rfl,o,hk,hc,hd⟩ | ⟨rfl,hk⟩ | ⟨rfl,S,n,hk⟩
  ·obtain ⟨its,_,pl,_⟩:=I.list hq
   refine ⟨pl.isList.typeIs,fun a e=> ?_⟩
   cases e
   obtain ⟨o,n,e,c,hd,_⟩:=pl
   exact ⟨o,e,hd⟩
  ·refine ⟨⟨o,I.kIn p o hk,hc⟩,fun a e=> ?_⟩
   cases e
   exact ⟨o,I.kIn _ o hk,hd⟩
  ·have z:∃ o,s.heap.get? p=some o∧o.ExactDict:=by
    rcases hk with ⟨kvs,hk⟩ | ⟨kvs,hk⟩
    ·obtain ⟨_,_,_,_,o,_,_,e,ex,_⟩:=I.hok p _ hk
     exact ⟨o,e,ex⟩
    ·obtain ⟨_,_,_,_,o,_,_,e,ex,_⟩:=I.hok p _ hk
     exact ⟨o,e,ex⟩
   obtain ⟨o,e,ex⟩:=z
   refine ⟨⟨o,e,ex.1⟩,fun a e2=> ?_⟩
   cases e2
   exact ⟨o,e,ex.2.1⟩
  ·obtain ⟨o,_,_,_,e,ex,_⟩:=I.hok p _ hk
   refine ⟨⟨o,e,ex.1⟩,fun a e2=> ?_⟩
   cases e2
   exact ⟨o,e,ex.2.1⟩
 | _=> exact False.elim ty
def tBM (K:PySem.W.Frag) (T:String) (r:V→List V→Hp→VK→Prop) (to:TE) (t:TA):TE:=fun σ H Q=> to σ H fun x H1=> tyV K T x H1∧t σ H1 fun xs H2=> r x xs H2 Q
variable {o e:Expr} {es:List Expr} {to:TE} {t:TA} {name:Str} {apos cpos:Pos} {T id:String} {r:V→List V→Hp→VK→Prop}
theorem oH (pa:PlainAttrs T) (slot:Slot T name id) (hty:typeOf (.builtin id)=pure (.type "method_descriptor")) (hm:MtR X id r) (ho:PE X o to) (ha:PA X (e::es) t)
  (hbase:attributeBase o name X.env (eval o X.env)=eval o X.env:=by rfl)
  (hfew:((backTo cpos (starEach (e::es) X.env)).all (fun x=> !x.1) && (backToKw cpos (keywordEach [] X.env)).all (fun x=> x.1.isSome)
   && decide ((e::es).length+([]:List Keyword).length+(if ([]:List Keyword).isEmpty then 0 else 1) < 30))=true:=by rfl)
  (hline:(apos.endLine==cpos.line)=true:=by rfl) (hs:starEach (e::es) X.env=(false,eval e X.env)::starEach es X.env:=by rfl) (hplain:(backTo cpos (starEach es X.env)).any (·.1)=false:=by rfl):
  PE X (.Call (.Attribute o name apos) (e::es) [] cpos) (tBM X.K T r to t):=by
 intro pins s σ H Q I h
 refine wpAny_Call_method_late hbase hfew hline rfl (thn (ho pins s σ H _ I h) fun v s1 ⟨x,H1,I1,r1,ty,q1⟩=> ?_)
 obtain ⟨h1,h2⟩:=nS I1 r1 ty
 refine ⟨T,id,pa,slot,hty,h1,h2,?_⟩
 have hA:=ha cpos pins s1 σ H1 _ I1 q1
 rw [hs] at hA ⊢
 refine Calls.callWith_builtin (by show (false || (backTo cpos (starEach es X.env)).any (·.1))=false; rw [hplain] <;> rfl) (Calls.evalArgs_plain ?_)
 exact thn hA fun us s2 ⟨vs,H2,I2,r2,q2⟩=> hm pins s2 σ H2 x vs v us Q I2 r1 r2 q2
/- xs.append(e),list.index on a module's tuple .. are MtR facts of 06m -/
end
end L2
namespace L2
open PySem PySem.Spec PyProof.Rows
def MtM (X:Cx) (id:String) (r:V→List V→Hp→VK→Prop):Prop:=
 ∀ (pins:List (Addr×Obj)) (s:Shared) (σ:St) (H:Hp) (x:V) (xs:List V) (v:Value) (us:List Value) (Q:VK),Inv X pins σ H s→aP x v→aQ xs us→r x xs H Q→
  wpAny (model X.prog X.w) X.A (call (.builtin id) (v::us)) (EP X pins σ Q) X.xe s
theorem aQ.one:∀ {x:V} {us:List Value},aQ [x] us→∃ u,us=[u]∧aP x u
 | _,_,.cons r .nil=> ⟨_,rfl,r⟩
section
variable {X:Cx} {pins:List (Addr×Obj)} {σ:St} {H:Hp} {s:Shared} {l b:Addr} {xs ys zs:List V}
theorem Inv.lset {its its':List Value} {n:Nat} {f:Array Value→Array Value} {t':Nat} (I:Inv X pins σ H s) (hH:H l=some (.lst xs))
  (e:s.heap.get? l=some { cls:=.type "list",data:=.seq its.toArray n }) (hf:f its.toArray=its'.toArray) (hv:aQ ys its') (hz:ys.length≤sizeLine):
  Inv X pins σ (upd H l (.lst ys)) { s with heap:=s.heap.update l (Obj.mapSeq f),toks:=t' }:=by
 have q:=PySem.IsL.update e f
 rw [hf] at q
 refine I.write (x:=l) (e:=l) (by rw [hH]; exact trivial) (.inl rfl) (fun b' u hb hu=> (Heap.get?_update_other s.heap (Obj.mapSeq f) (Ne.symm hb)).trans hu) ⟨_,q⟩ ?_
 exact ⟨hz,its',_,hv,q⟩
theorem Inv.lnew {its:List Value} {t':Nat} (I:Inv X pins σ H s) (hv:aQ ys its) (hz:ys.length≤sizeLine):
  Inv X pins σ (upd H s.heap.objs.size (.lst ys)) { s with heap:=s.heap.push { cls:=.type "list",data:=.seq its.toArray },toks:=t' }:=
 I.laid (fun _ _ q=> Heap.get?_push_of_some _ q) (Nat.le_refl _) ⟨hz,its,0,hv,Heap.get?_push_size _ rfl⟩
theorem Inv.fresh (I:Inv X pins σ H s):H s.heap.objs.size=none:=I.hok.fresh (Nat.le_refl _)
theorem Inv.lstM (I:Inv X pins σ H s) (hH:H l=some (.lst xs)):xs.length≤sizeLine∧∃ (its:List Value) (n:Nat),aQ xs its∧xs.length=its.length∧s.heap.get? l=some { cls:=.type "list",data:=.seq its.toArray n }:=by
 obtain ⟨z,its,n,r,e⟩:=I.hok l _ hH
 exact ⟨z,its,n,r,r.length,e⟩
theorem oU {n:Nat} (h:n≤sizeLine):Builtin.List.listTooLong n=false:=by
 unfold Builtin.List.listTooLong
 exact decide_eq_false (by omega)
end
section
variable {X:Cx}
def mi:V→List V→Hp→VK→Prop:=fun x vs H Q=> ∃ l xs y,x=.ref l∧vs=[y]∧H l=some (.lst xs)∧xs.length < sizeLine∧Q .non (upd H l (.lst (xs++[y])))
theorem eK:MtM X "list.append" mi:=by
 intro pins s σ H x vs v us Q I rx rv h
 obtain ⟨l,xs,y,rfl,rfl,hH,hz,q⟩:=h
 cases rx
 obtain ⟨u,rfl,ru⟩:=rv.one
 obtain ⟨z,its,n,r,hl,e⟩:=I.lstM hH
 refine call_meets F.slot_list_append ⟨_,e,rfl⟩ F.entry_list_append (F.args_list_append_2 _ _) (PySem.list_append l its.toArray n u (by rw [List.size_toArray]; omega)) ⟨e,?_⟩
 refine ⟨.non,_,I.lset (its':=its++[u]) hH e (by simp) (r.append (.cons ru .nil)) ?_,rfl,q⟩
 rw [List.length_append,List.length_singleton]
 omega
def p_:R2:=fun x y H Q=> ∃ l b xs zs,x=.ref l∧y=.ref b∧H l=some (.lst xs)∧H b=some (.lst zs)∧xs.length+zs.length≤sizeLine∧∀ p,H p=none→Q (.ref p) (upd H p (.lst (xs++zs)))
theorem nT:OpR X (binaryOp .Add) p_:=by
 intro pins s σ H x y v u Q I rx ry h
 obtain ⟨l,b,xs,zs,rfl,rfl,hH,hB,hz,q⟩:=h
 cases rx
 cases ry
 obtain ⟨z,its,n,r,hl,e⟩:=I.lstM hH
 obtain ⟨z2,its2,n2,r2,hl2,e2⟩:=I.lstM hB
 refine PySem.P.add_list e e2 ?_ (by rw [List.size_toArray,List.size_toArray]; omega)
 have ea:its.toArray++its2.toArray=(its++its2).toArray:=by simp
 rw [ea]
 exact ⟨.ref _,_,I.lnew (t':=s.toks) (r.append r2) (by rw [List.length_append]; omega),rfl,q _ I.fresh⟩
end
section
variable {prog:Program} {w:World} {A:Around} {E:Value→Shared→Prop} {s:Shared}
end
section
variable {X:Cx}
end
end L2
namespace Att
open PySem PySem.W PySem.Calls PyProof.Rows
theorem eZ {P:Params} {h:Heap}:∀ (ns:List Int) (vs:List Value),WellAll P h vs (ns.map WData.int)→IntsAre vs ns:=by
 intro ns
 induction ns with
 | nil=>
  intro vs w
  rw [List.map_nil] at w
  cases w
  exact .nil
 | cons n ns ih=>
  intro vs w
  rw [List.map_cons] at w
  cases w with
  | cons a b=>
   cases a
   exact .cons _ _ (ih _ b)
theorem script_of {l:OpenLaw} {n:Nat} (hn:l.most=some n) {P:Params} {h:Heap} {args:List WData} {vals:List Value}
  (hpre:l.row.toRowW.claim.pre args=true) (hwl:WellAll P h vals args):
  ∃ a vs ns,vals=[Value.ref a]∧args=[WData.list (ns.map WData.int)]∧h.get? a=some { cls:=.type "list",data:=.seq vs.toArray }∧IntsAre vs ns∧ns.length≤n:=by
 have hsh:WShape.hasAll [] args [.list .int]=true:=(pre_splitW hpre).1
 have hc:l.pre.holds [] { args:=args }=true:=(pre_splitW hpre).2
 obtain ⟨d,r,rfl,h1,h2⟩:=hasAllW_cons hsh
 obtain rfl:=hasAllW_nil h2
 obtain ⟨xs,rfl,h3⟩:=hasW_list h1
 obtain ⟨ns,rfl⟩:=items_int h3
 have hlen:ns.length≤n:=by
  unfold OpenLaw.pre at hc
  have h4:(WTm.not (.lt (.lit (.int (n:Int))) (.len (.arg 0)))).holds [] { args:=[.list (ns.map .int)] }=true:=by
   have h4:=(holds_andW hc).1
   rw [hn] at h4
   exact h4
  have h5:=condW_of h4 (w_not (w_lt w_lit (w_len_list (w_arg rfl))))
  rw [List.length_map] at h5
  refine Nat.le_of_not_lt fun q=> ?_
  have q':(n:Int) < ((ns.length:Nat):Int):=by omega
  first
   | (rw [decide_eq_true q'] at h5; exact absurd h5 (by decide))
   | (simp at h5; omega)
 cases hwl with
 | cons w1 w2=>
  cases w2
  cases w1 with
  | list ho hall=> exact ⟨_,_,ns,rfl,rfl,ho,eZ ns _ hall,hlen⟩
theorem post_true (l:OpenLaw) (args:List WData):l.row.toRowW.claim.post args (.bool true) args=true:=
 postW_of (r:=l.row.toRowW) (X:=(true==true))
  (show WShape.has [] (.bool true) .bool=true by first | rfl | decide | simp [WShape.has,WShape.arms,WShape.armsAll])
  (show (WTm.eq .res (.lit (.bool true))).value [] { args:=args,res:=some (.bool true),after:=args }=some (.bool (true==true)) from w_eq_bool (w_res rfl) w_lit) rfl
section
variable {prog:Program} {w:World} {A:Around} {E:Value→Shared→Prop} {s:Shared} {K:Frag}
end
end Att
namespace L2
open PySem PySem.Spec PyProof.Rows
theorem gi:∀ {vs:List Value} {ns:List Int},IntsAre vs ns→aQ (ns.map V.int) vs
 | _,_,.nil=> .nil
 | _,_,.cons n t h=> .cons ⟨t,rfl⟩ (gi h)
def mq (H:Hp):Prop:=∀ b,H b=none∨∃ o xs,H b=some (.frz o (.lst xs))
theorem kn {P:Program} {w:World} {K:PySem.W.Frag} {mg mb:Str→Option Value} {CX:CXT} {k:Nat} {fa a:Addr} {fd:FuncData} {x:Str} {sp:Sp} {s₁:Shared} {vs:List Value} {ns:List Int}
  (KX:K.In s₁.heap) (hns:s₁.heap.Ns mainGlobals mg) (hb:s₁.heap.Ns builtinsNs mb) (hbb:∀ x:Str,x≠"__name__"→mb x=bootBuiltins x) (hlim:s₁.heap.NoLimit) (hg:s₁.gens=#[])
  (ha:s₁.heap.get? a=some { cls:=.type "list",data:=.seq vs.toArray }) (hi:IntsAre vs ns) (hl:ns.length≤sizeLine) (hr:cG k callerA)
  (F:∀ base:Heap,K.In base→base.Ns mainGlobals mg→aS P w K mg base CX k fa fd [x] sp) (hbind:∀ (s:Shared) (u:Value),BindsTo s fd ⟨[u],[]⟩ [(x,u)])
  (hsp:∀ H:Hp,mq H→SqL K H a (ns.map V.int)→sp [.ref a] H (fun v _=> v=.bl true) fun _ _ _=> False)
  (hCX:∀ H e s',CX [] H s₁ (fun _ _ _=> False) e s'→False):
  codeAny (model P w) callerA (.call (.ref fa) ⟨[.ref a],[]⟩) (fun r s'=> r=.ok (.ret (.bool true))∧OldK s₁.heap s'.heap∧s'.os=s₁.os∧AllBare s'.gens) s₁:=by
 have rv:=gi hi
 have lenV:=hi.length
 have core:∀ H:Hp,mq H→SqL K H a (ns.map V.int)→HOk P w H s₁.heap→(∀ b,H b≠none→b=a)→(H a≠none→K.lookup a=none)→
   codeAny (model P w) callerA (.call (.ref fa) ⟨[.ref a],[]⟩) (fun r s'=> r=.ok (.ret (.bool true))∧OldK s₁.heap s'.heap∧s'.os=s₁.os∧AllBare s'.gens) s₁:=by
  intro H hO hS hok hA hK
  have base_of:∀ {b:Addr} {o:Obj},s₁.heap.get? b=some o→H b=none→(gY s₁.heap H).get? b=some o:=fun e n=> kN e n
  have noA:∀ {b:Addr} {o:Obj} {es:Array DictEntry} {ep:Nat},s₁.heap.get? b=some o→o.data=.dict es ep→H b=none:=fun {b o es ep} e d=> by
   cases q:H b with
   | none=> rfl
   | some u=>
    have e':b=a:=hA b (by rw [q]; simp)
    subst e'
    rw [ha] at e; cases e
    have d':Data.seq vs.toArray _=Data.dict es ep:=d
    cases d'
  have nsK:∀ {b:Addr} {m:Str→Option Value},s₁.heap.Ns b m→(gY s₁.heap H).Ns b m:=fun {b m} ⟨o,es,ep,e,d,r⟩=> ⟨o,es,ep,base_of e (noA e d),d,r⟩
  have hKb:K.In (gY s₁.heap H):=fun b o e=> base_of (KX b o e) (by
   cases q:H b with
   | none=> rfl
   | some u=>
    have e':b=a:=hA b (by rw [q]; simp)
    subst e'
    rw [hK (by rw [q]; simp)] at e; cases e)
  have hM:Mod K mg (gY s₁.heap H):=⟨hKb,nsK hns,⟨mb,nsK hb,hbb⟩,let ⟨mc,h1,h2⟩:=hlim; ⟨mc,nsK h1,h2⟩⟩
  have e0:my P w K mg (gY s₁.heap H) callerA [] s₁ H:=⟨rfl,hM,fun b o e=> lK e,Nat.le_of_eq (jH _ _),trivial,fun b hb=> absurd (show b∈([]:List Addr) from hb) (by simp),hok,.of_eq hg⟩
  refine codeAny_mono ((F _ hKb (nsK hns)).run callerA [] s₁ H ⟨[.ref a],[]⟩ [.ref a] [.ref a] _ _ hr e0 (hbind s₁ (.ref a)) (.cons rfl .nil) (hsp H hO hS)) fun r s' h=> ?_
  cases r with
  | error e=> exact (hCX H e s' h).elim
  | ok fl=>
   cases fl with
   | next=> exact False.elim h
   | brk=> exact False.elim h
   | cont=> exact False.elim h
   | ret u=>
    obtain ⟨v,H',os,bare,un,hok',r',q⟩:=h
    have q':v=.bl true:=q
    subst q'
    obtain rfl:u=Value.bool true:=r'
    refine ⟨rfl,OldK.of_keep fun b o e=> ?_,os,bare⟩
    cases q:H b with
    | none=> exact un.keep b o e q (by intro z; exact absurd (show b∈([]:List Addr) from z) (by simp)) (by simp)
    | some u=>
     rcases hO b with z | ⟨ob,xs,z⟩
     ·rw [q] at z; cases z
     ·have z2:=un.frzs b ob _ z
      obtain ⟨e1,_⟩:=hok b _ z
      obtain ⟨e2,_⟩:=hok' b _ z2
      rw [e] at e1; cases e1
      exact e2
 cases hk:K.lookup a with
 | some o=>
  have e:=KX a o hk
  rw [ha] at e
  cases e
  refine core (fun _=> none) (fun _=> .inl rfl) (.inr ⟨_,vs.toArray,_,hk,rfl,rfl,rfl,by rw [List.size_toArray,lenV]; exact hl,by simpa using rv⟩) (fun b u z=> by have z':(none:Option HO)=some u:=z; cases z') (fun b z=> absurd rfl z) fun z=> absurd rfl z
 | none=>
  refine core (fun b=> if b=a then some (.frz { cls:=.type "list",data:=.seq vs.toArray } (.lst (ns.map V.int))) else none) (fun b=> ?_) (.inl (.inr ⟨{ cls:=.type "list",data:=.seq vs.toArray },if_pos rfl⟩)) (fun b u z=> ?_) (fun b z=> ?_) fun _=> hk
  ·by_cases hb:b=a
   ·exact .inr ⟨_,_,if_pos hb⟩
   ·exact .inl (if_neg hb)
  ·by_cases hb:b=a
   ·have z':=(if_pos hb).symm.trans z
    cases z'
    subst hb
    exact ⟨ha,by rw [List.length_map]; exact hl,vs,_,rv,ha⟩
   ·have z':=(if_neg hb).symm.trans z
    cases z'
  ·by_cases hb:b=a
   ·exact hb
   ·exact absurd (if_neg hb) z
end L2
namespace L2
open PySem PySem.Spec PyProof.Rows
abbrev KOf {K:PySem.W.Frag} {h:Heap} (_:K.In h):PySem.W.Frag:=K
end L2
/- THE LAST THEOREM (shape; LID,My.* are yours):
   My.Adr:a structure of the addresses that your layer names (classes,functions); My.Txt K t:a structure (Prop) of the equations over K;
   My.txt_mk:{K} {implicit addresses ..} (e1:nsIn K mainGlobals "law"=some (some (.ref f))) (e2:K.lookup f=some ⟨oc,od,.func (fnOf "law" "law" params body scope dV kV doc pm an cdv ct),sl⟩) (e3:codeIn K cdv "law"=true) ..:∃ t,My.Txt K t
set_option maxRecDepth 100000 in
set_option maxHeartbeats 0 in
theorem PySem.Challenge.cw_LID_holds : PySem.Challenge.rw_LID.Holds := by
 w_on; o_law; k_head; (case hw=> w_witness2)
 k_fill
 refine L2.walk_of (l:=PySem.Challenge.rw_LID) (n:=63) (k:=40) (x:="script") (CX:=fun w=> ..) (sp:=fun _=> My.sp_law) rfl (by decide) rfl ⟨rfl,by decide,by decide⟩ (fun w h Y=> PySem.W.kIn_of Y) ?F ?S ?C
 case F=>
  intro w mg fa h KX G hmg
  have T:∃ t,My.Txt (L2.KOf KX) t:=by
   dsimp only [L2.KOf]                          -- K must stand as «<heap const> w.params» for k_is
   refine' My.txt_mk ?e1 ?e2 ?e3 ..
   (case e1=> PySem.W.k_is)                    -- in the order:a name -> its address -> its object -> its parts
   (case e2=> PySem.W.k_is)
   ..
  obtain ⟨t,T⟩:=T
  have e0:=hmg.symm.trans (PySem.W.mg_of KX G T.law)
  cases e0                                       -- fa is the law's own address
  exact ⟨_,fun s u=> .of_eq rfl,fun base kb nb=> My.law_fn T kb nb⟩     -- if «.of_eq rfl» comes too early:refine' ⟨_,?b,fun base kb nb=> My.law_fn T kb nb⟩; exact fun s u=> .of_eq rfl
 case S=> exact fun w H a ns hl hO hS=> ..
 case C=> exact ..
(the tactic k_is has no namespace:write k_is) -/
namespace L2
open PySem PySem.Spec PyProof.Rows
def au (s:Stmt):Arguments:=match s with
 | .FunctionDef _ a _ _ _ _ _ _ _ _=> a
 | _=> { posonlyargs:=[],args:=[],vararg:=none,kwonlyargs:=[],kw_defaults:=[],kwarg:=none,defaults:=[] }
def aq (s:Stmt):List Stmt:=match s with
 | .FunctionDef _ _ b _ _ _ _ _ _ _=> b
 | _=> []
def ah (s:Stmt):Scope:=match s with
 | .FunctionDef _ _ _ _ _ _ sc _ _ _=> sc
 | _=> { kind:=.function,names:=[],isGenerator:=false,isCoroutine:=false }
abbrev CX0:CXT:=fun _ _ _ _ _ _=> False
abbrev E0:XK:=fun _ _ _=> False
structure Fun (K:PySem.W.Frag) (x qual:Str) (st:Stmt) (f:Addr) (fd:FuncData):Prop where
 ex:∃ (oc:Value) (od:Option Addr) (kV doc pm:Value) (an:Option Addr) (cdv ct:Value) (osl:Array (Option Value)),
  fd=PySem.W.fnOf x qual (au st) (aq st) (ah st) .none kV doc pm an cdv ct∧K.lookup f=some ⟨oc,od,.func fd,osl⟩∧PySem.W.codeIn K cdv qual=true
 kp:PySem.W.keepIn K (.ref f)=true
section
variable {P:Program} {w:World} {K:PySem.W.Frag} {mg:Str→Option Value} {base:Heap}
theorem Fun.binds {x qual:Str} {st:Stmt} {f:Addr} {fd:FuncData} {ps:List Str} (F:Fun K x qual st f fd)
  (h:∀ (kV doc pm:Value) (an:Option Addr) (cdv ct:Value) (us:List Value),us.length=ps.length→bindArgs (PySem.W.fnOf x qual (au st) (aq st) (ah st) .none kV doc pm an cdv ct) ⟨us,[]⟩=pure (ps.zip us)):aH K fd ps []:=by
 obtain ⟨oc,od,kV,doc,pm,an,cdv,ct,osl,rfl,lk,hcd⟩:=F.ex
 exact .all (h kV doc pm an cdv ct)
theorem aF {x qual:Str} {st:Stmt} {f:Addr} {oc:Value} {od an:Option Addr} {osl:Array (Option Value)} {kV doc pm cdv ct:Value} (l:K.lookup f=some ⟨oc,od,.func (PySem.W.fnOf x qual (au st) (aq st) (ah st) .none kV doc pm an cdv ct),osl⟩)
  (c:PySem.W.codeIn K cdv qual=true) (k:PySem.W.keepIn K (.ref f)=true):Fun K x qual st f (PySem.W.fnOf x qual (au st) (aq st) (ah st) .none kV doc pm an cdv ct):=⟨⟨oc,od,kV,doc,pm,an,cdv,ct,osl,rfl,l,c⟩,k⟩
end
theorem cB {n:Nat} (h:n≤1000):n < sizeLine:=Nat.lt_of_le_of_lt h (by decide)
section
variable {X:Cx}
end
theorem i8 {A B:Prop} (h:B):if false=true then A else B:=by
 rw [if_neg Bool.false_ne_true]
 exact h
theorem iU {A B:Prop} (h:A):if true=true then A else B:=by
 rw [if_pos rfl]
 exact h
def aK (H H':Hp):Prop:=∀ b o,H b=some o→H' b=some o
theorem aK.refl (H:Hp):aK H H:=fun _ _ h=> h
theorem aK.trans {H H1 H2:Hp} (a:aK H H1) (b:aK H1 H2):aK H H2:=fun c o h=> b c o (a c o h)
theorem aK.free {H H':Hp} (e:aK H H') {l:Addr} (h:H' l=Option.none):H l=Option.none:=by
 cases q:H l with
 | none=> rfl
 | some o=>
  rw [e l o q] at h
  cases h
theorem aK.seq {K:PySem.W.Frag} {H H':Hp} {a:Addr} {xs:List V} (e:aK H H') (h:SqL K H a xs):SqL K H' a xs:=by
 rcases h with (h | ⟨o,h⟩) | h
 ·exact .inl (.inl (e _ _ h))
 ·exact .inl (.inr ⟨o,e _ _ h⟩)
 ·exact .inr h
end L2
namespace L2
open PySem PySem.Spec PyProof.Rows
def Sz (m:Nat) (x:Int):Prop:=x.natAbs < 2 ^ m
theorem Sz.mono {m n:Nat} {x:Int} (h:Sz m x) (hmn:m≤n):Sz n x:=Nat.lt_of_lt_of_le h (Nat.pow_le_pow_right (by decide) hmn)
theorem Sz.neg {m:Nat} {x:Int} (h:Sz m x):Sz m (-x):=by unfold Sz at *; rw [Int.natAbs_neg]; exact h
theorem Sz.add {m:Nat} {x y:Int} (hx:Sz m x) (hy:Sz m y):Sz (m+1) (x+y):=by
 unfold Sz at *
 have:=Int.natAbs_add_le x y
 rw [Nat.pow_succ]; omega
theorem Sz.sub {m:Nat} {x y:Int} (hx:Sz m x) (hy:Sz m y):Sz (m+1) (x - y):=by
 rw [Int.sub_eq_add_neg]; exact hx.add hy.neg
theorem Sz.mul {m n:Nat} {x y:Int} (hx:Sz m x) (hy:Sz n y):Sz (m+n) (x * y):=by
 unfold Sz at *
 rw [Int.natAbs_mul,Nat.pow_add]
 exact Nat.mul_lt_mul'' hx hy
theorem Sz.le {m:Nat} {x y:Int} (h:x.natAbs≤y.natAbs) (hy:Sz m y):Sz m x:=Nat.lt_of_le_of_lt h hy
theorem Sz.ediv {m:Nat} {x y:Int} (hx:Sz m x):Sz m (x / y):=Sz.le (Int.natAbs_ediv_le_natAbs x y) hx
theorem Sz.abs {m:Nat} {x:Int} (hx:Sz m x):Sz m (if x < 0 then -x else x):=by split; exact hx.neg; exact hx
instance (m:Nat) (x:Int):Decidable (Sz m x):=inferInstanceAs (Decidable (x.natAbs < 2 ^ m))
theorem Sz.add' {m n:Nat} {x y:Int} (hx:Sz m x) (hy:Sz n y):Sz (max m n+1) (x+y):=(hx.mono (Nat.le_max_left m n)).add (hy.mono (Nat.le_max_right m n))
theorem Sz.sub' {m n:Nat} {x y:Int} (hx:Sz m x) (hy:Sz n y):Sz (max m n+1) (x - y):=(hx.mono (Nat.le_max_left m n)).sub (hy.mono (Nat.le_max_right m n))
theorem Sz.lit {m:Nat} {x:Int} (h:Sz m x):Sz m x:=h
theorem Sz.ok {m n:Nat} {x y:Int} (hx:Sz m x) (hy:Sz n y) (h:m+n≤134217728):IntMulOk x y:=
 PyProof.Rows.mulOk_of_bits (intBits_le_iff.mpr hx) (intBits_le_iff.mpr hy) h
theorem Sz.log {m:Nat} {x:Int} (h:Sz m x) (hm:m≤9000) (h0:x≠0):x.natAbs.log2 < 9000:=by
 have q:=(Nat.log2_lt (by omega)).mpr (show x.natAbs < 2 ^ m from h)
 omega
def nh (_ j:Int):Prop:=0 < j∧Sz 9000 j
def m3 (_ j:Int):Prop:=j≠0∧Sz 9000 j
section
variable {X:Cx} {a b c:Expr} {ta tb tc:TE} {pos:Pos}
theorem ms:OpR X (binaryOp .Mult) (rI IntMulOk fun i j=> .int (i * j)):=opI fun _ _ _ _ _ _ _ hc q=> mul_int q hc
theorem kj:OpR X (binaryOp .FloorDiv) (rI nh fun i j=> .int (i / j)):=opI fun i j _ _ _ _ _ hc q=> by
 have h1:(0:Int) < j:=hc.1
 exact floordiv_int (by omega) (by rw [Int.fdiv_eq_ediv_of_nonneg i (by omega)]; exact q) (.inl (PyProof.noPylong_of_log2 (hc.2.log (by decide) (by omega))))
theorem kK:OpR X (binaryOp .FloorDiv) (rI m3 fun i j=> .int (i.fdiv j)):=opI fun i j _ _ _ _ _ hc q=>
 floordiv_int hc.1 q (.inl (PyProof.noPylong_of_log2 (hc.2.log (by decide) hc.1)))
theorem oP {x:Str} {n:String} {pos:Pos} (hg:Gl X x) (hm:X.mg x=none) (hv:bootBuiltins x=some (.type n)) (hn:x≠"__name__":=by decide) (hd:(x==("__debug__":Str))=false:=by decide):PE X (.Name x pos) (tC (.ty n)):=
 mH hg hm hv rfl hn hd
end
section
variable {X:Cx}
theorem iR:cM X (.type "int") (fun xs H Q=> ∃ k,xs=[.bl k]∧Q (.int (if k then 1 else 0)) H):=by
 intro pins s σ H xs us Q I r h
 obtain ⟨k,rfl,q⟩:=h
 exact jI pins s σ H _ us Q I r (.inr ⟨k,rfl,q⟩)
end
theorem kit_int_int (K:PySem.W.Frag):PySem.W.kitOne K (.type "int") (.type "int")=some true:=rfl
theorem kit_int_bool (K:PySem.W.Frag):PySem.W.kitOne K (.type "int") (.type "bool")=some false:=rfl
theorem kit_bool_int (K:PySem.W.Frag):PySem.W.kitOne K (.type "bool") (.type "int")=some true:=rfl
theorem kit_tuple_tuple (K:PySem.W.Frag):PySem.W.kitOne K (.type "tuple") (.type "tuple")=some true:=rfl
theorem kit_list_list (K:PySem.W.Frag):PySem.W.kitOne K (.type "list") (.type "list")=some true:=rfl
theorem kit_list_tuple (K:PySem.W.Frag):PySem.W.kitOne K (.type "list") (.type "tuple")=some false:=rfl
def Its (lo c:Int) (n:Nat):It:=⟨fun i _=> i < n,fun i H x H'=> H'=H∧x=.int (lo+(i:Nat) * c),fun i _=> n≤i⟩
theorem ij {P:Program} {w:World} {K:PySem.W.Frag} {tg:Expr} (it:Addr) (lo c:Int) (n:Nat):la P w K tg (Its lo c n) [it] it (fun i h=> IsRangeIter h it (lo+(i:Nat) * c) ((n:Int) - (i:Nat)) c) where
 mem:=by simp
 obj:=fun i h st b hb=> by
  have e:b=it:=by simpa using hb
  subst e
  exact ⟨_,st,fun v z=> by
   have z':Data.fields _=Data.cell v:=z
   cases z'⟩
 keep:=fun i h h' st k=> k it (by simp) _ st
 item:=by
  intro X hP hw hK hc i pins s σ H E I hf st hg
  subst hP hw hK
  obtain ⟨f0,f1,f2,f3,f4,f5⟩:=hf it (by simp)
  have W:=Walks.range (prog:=X.prog) (w:=X.w) (I.ok.hd hc) it lo c n
  refine W.item i s _ _ hg st fun v h' tk hv st' kk=> ?_
  obtain ⟨t,rfl⟩:=hv
  have I1:Inv X pins σ H { s with heap:=h',toks:=tk }:=I.turned (fun b o hb e=> kk b o (by simpa using hb) e) f0 f1 f3 f4 f5
  exact ⟨_,rfl,jn (s:={ s with heap:=h',toks:=tk }) (n:="range_iterator") st' rfl rfl (by decide) ⟨.int (lo+(i:Nat) * c),H,I1,⟨t,rfl⟩,⟨rfl,rfl⟩,st',fun b hb=> (hf b hb).1⟩⟩
 done:=by
  intro X hP hw hK hc i pins s σ H E I hf st hg
  subst hP hw hK
  obtain ⟨f0,f1,f2,f3,f4,f5⟩:=hf it (by simp)
  exact wpAny_pyNext_range_end (I.ok.hd hc) st (by have:n≤i:=hg; omega) fun h' eb=> ⟨rfl,I.turned (t':=s.toks) (fun b o hb e=> eb b o hb e) f0 f1 f3 f4 f5⟩
 self:=fun _ _ _ _ _ st h=> wpAny_pyIter_rangeiter st h
def dy (i j c:Int):Nat:=if i < j then ((j - i - 1) / c+1).toNat else 0
theorem iY {a b c:Int} (ha:-(2 ^ 60)≤a) (ha':a < 2 ^ 60) (hb:-(2 ^ 60)≤b) (hb':b < 2 ^ 60) (hc:0 < c) (hc':c < 2 ^ 60):Builtin.Range.small a b c=true:=by
 have q1:a < b→(b - a - 1) / c≤b - a - 1:=fun h=> Int.ediv_le_self _ (by omega)
 have q2:a < b→0≤(b - a - 1) / c:=fun h=> Int.ediv_nonneg (by omega) (by omega)
 unfold Builtin.Range.small Builtin.Range.rangeSize
 simp only [Builtin.Range.rangeFitsLong,Bool.and_eq_true,Bool.or_eq_true,decide_eq_true_eq,beq_iff_eq,show c > 0 from hc,if_true]
 split
 ·have:=q1 (by assumption); have:=q2 (by assumption); omega
 ·omega
section
variable {X:Cx} {tg:Expr}
def oY (ta:TA):TI:=fun σ H R=> ta σ H fun vs H1=> ∃ i j c:Int,vs=[.int i,.int j,.int c]∧(-(2 ^ 60)≤i∧i < 2 ^ 60∧-(2 ^ 60)≤j∧j < 2 ^ 60∧0 < c∧c < 2 ^ 30)∧R (Its i c (dy i j c)) H1
theorem jF {a b c:Expr} {ta:TA} {p pos:Pos} (hg:Gl X "range") (hm:X.mg "range"=none) (ha:PA X [a,b,c] ta) (hs:starEach [a,b,c] X.env=[(false,eval a X.env),(false,eval b X.env),(false,eval c X.env)]:=by rfl)
  (hs2:starEach [b,c] X.env=[(false,eval b X.env),(false,eval c X.env)]:=by rfl):
  PI X tg (.Call (.Name "range" p) [a,b,c] [] pos) (oY ta):=by
 intro pins s σ H R I h
 refine Call_ (fO I hg hm boot_range (PyProof.Rows.callWith_type1 (thn (ha pos pins s σ H _ I h) fun us s1 ⟨vs,H1,I1,r1,q1⟩=> ?_) (by rw [hs,hs2]) (by rw [hs2]; rfl)))
 obtain ⟨i,j,k,e,⟨q1,q2,q3,q4,q5,q6⟩,q⟩:=q1
 subst e
 cases r1 with
 | cons r rr=>
  cases rr with
  | cons r' rr=>
   cases rr with
   | cons r'' rr=>
    cases rr
    obtain ⟨t,rfl⟩:=r
    obtain ⟨t',rfl⟩:=r'
    obtain ⟨t'',rfl⟩:=r''
    refine call_range_3 (by omega) ?_ (.inl (PyProof.noPylong_small (by omega)))
    refine wpAny_pyIter_range (IsRange.new ..) (iY q1 q2 q3 q4 q5 (by omega)) ?_
    have I2:Inv X pins σ H1 { s1 with heap:=s1.heap.push { cls:=.type "range",data:=.fields #[.int i t,.int j t',.int k t''] },toks:=s1.toks }:=I1.kept fun b o e=> Heap.get?_push_of_some _ e
    refine ⟨(s1.heap.push { cls:=.type "range",data:=.fields #[.int i t,.int j t',.int k t''] }).objs.size,[(s1.heap.push { cls:=.type "range",data:=.fields #[.int i t,.int j t',.int k t''] }).objs.size],_,_,H1,rfl,
     I2.kept (t':=s1.toks) fun b o e=> Heap.get?_push_of_some _ e,ij _ i k (dy i j k),?_,fun b hb=> ?_,q⟩
    ·have e1:i+((0:Nat):Int) * k=i:=by simp
     have e2:((dy i j k:Nat):Int) - ((0:Nat):Int)=Builtin.Range.rangeSize i j k:=by
      unfold dy Builtin.Range.rangeSize
      rw [if_pos (show k > 0 from q5)]
      by_cases hij:i < j
      ·rw [if_pos hij,if_pos hij]
       have:0≤(j - i - 1) / k:=Int.ediv_nonneg (by omega) (by omega)
       omega
      ·rw [if_neg hij,if_neg hij] <;> omega
     show IsRangeIter _ _ (i+((0:Nat):Int) * k) (((dy i j k:Nat):Int) - ((0:Nat):Int)) k
     rw [e1,e2]
     exact Heap.get?_push_size _ rfl
    ·have e:b=(s1.heap.push { cls:=.type "range",data:=.fields #[.int i t,.int j t',.int k t''] }).objs.size:=by simpa using hb
     subst e
     exact I2.fpOk (Nat.le_refl _) (I2.hok.fresh (Nat.le_refl _))
end
theorem bB {H:Hp} {p:Addr} (h:H p=none) (o:HO):aK H (upd H p o):=fun b u q=> by rw [aR (ba q h)]; exact q
theorem aK.put {H H':Hp} {l:Addr} (e:aK H H') (h:H l=none) (o:HO):aK H (upd H' l o):=fun b u q=> by rw [aR (ba q h)]; exact e b u q
theorem aK.tup {K:PySem.W.Frag} {H H':Hp} {a:Addr} {xs:List V} (e:aK H H') (h:SqT K H a xs):SqT K H' a xs:=by
 rcases h with (h | ⟨o,h⟩) | h
 ·exact .inl (.inl (e _ _ h))
 ·exact .inl (.inr ⟨o,e _ _ h⟩)
 ·exact .inr h
end L2
namespace L2
open PySem PySem.W PySem.Calls PySem.Spec PyProof.Rows
theorem ir {ns:List Int} (h:WData.layableAll [WData.list (ns.map WData.int)]=true):∀ n∈ns,Sz 1048576 n:=by
 intro n hn
 have h1:=(PySem.W.layableW_arg h) _ (List.mem_singleton.mpr rfl)
 have h2:=PySem.W.layableW_item h1 (WData.int n) (List.mem_map.mpr ⟨n,hn,rfl⟩)
 have h3:=(PySem.W.layableW_iff.mp h2).2.2
 have h4:Builtin.Int.intBits n≤1048576:=by simpa only [WData.weight,Builtin.Int.intBits] using h3
 exact intBits_le_iff.mp h4
theorem gO {l:PySem.W.OpenLaw} {n:Nat} {q:Program} {loose:List Str} {XP:(Str→Option Value)→Heap→Prop} {YP:World→Heap→Prop} {d:DefRec}
  (hn:l.most=some n) (hdf:d.params.defaults=[])
  (call:∀ (w:World) (s₀ s₁:Shared) (mg mb:Str→Option Value) (fa:Addr) (o:Obj) (pm cd doc:Value) (a:Addr) (vs:List Value) (ns:List Int),
   PySem.W.Ground q loose [] XP w s₀ mg mb s₁.heap→YP w s₁.heap→
   s₁.heap.get? fa=some o→o.data=.func (docDef d.name d.params d.body d.scope pm cd doc)→s₁.heap.CodeRec cd d.name→mg d.name=some (.ref fa)→
   s₁.heap.get? a=some { cls:=.type "list",data:=.seq vs.toArray }→IntsAre vs ns→ns.length≤n→(∀ m∈ns,Sz 1048576 m)→s₁.gens=#[]→
   codeAny (model l.prog w) callerA (.call (.ref fa) ⟨[.ref a],[]⟩) (fun r s'=> r=.ok (.ret (.bool true))∧OldK s₁.heap s'.heap∧s'.os=s₁.os∧AllBare s'.gens) s₁):
  PySem.W.WalkO q loose XP YP l.row.toRowW d [] (fun f vs=> PySem.call f vs):=by
 intro w s₀ s₁ mg mb G Y fa o pm cd doc dV kV ho hd hcd hD hmg hg args vals as hpre hlay hrd hwl hlo
 obtain rfl:dV=.none:=PySem.W.Dflts.none hD hdf
 obtain rfl:kV=.none:=PySem.W.Dflts.noKw hD
 obtain ⟨a,vs,ns,rfl,rfl,hobj,hints,hlen⟩:=Att.script_of hn hpre hwl
 refine PySem.W.enter_call (codeAny_mono (call w s₀ s₁ mg mb fa o pm cd doc a vs ns G Y ho (PySem.W.fd_plain hd) hcd hmg hobj hints hlen (ir hlay) hg) fun r s' hq=> ?_)
 obtain ⟨rfl,h2,h3,h4⟩:=hq
 exact ⟨.inl ⟨.bool true,.bool true,[],rfl,fun _=> rfl,.bool true,Att.post_true l _,fun _=> ⟨List.Pairwise.nil,fun _ hm=> (nomatch hm)⟩⟩,h2,h3,h4⟩
theorem walk_ofB {l:PySem.W.OpenLaw} {n k:Nat} {q:Program} {loose:List Str} {XP:(Str→Option Value)→Heap→Prop} {YP:World→Heap→Prop} {d:DefRec} {K:Params→PySem.W.Frag} {CX:CXT} {sp:PySem.W.Frag→Sp} {x:Str}
  (hn:l.most=some n) (hn2:n≤sizeLine) (hdf:d.params.defaults=[]) (hr:cG k callerA)
  (hY:∀ (w:World) (h:Heap),YP w h→(K w.params).In h)
  (F:∀ (w:World) (mg:Str→Option Value) (fa:Addr) (h:Heap),(K w.params).In h→h.Ns mainGlobals mg→mg d.name=some (.ref fa)→
   ∃ fd:FuncData,(∀ (s:Shared) (u:Value),BindsTo s fd ⟨[u],[]⟩ [(x,u)])∧
    ∀ base:Heap,(K w.params).In base→base.Ns mainGlobals mg→aS l.prog w (K w.params) mg base CX k fa fd [x] (sp (K w.params)))
  (hsp:∀ (K:PySem.W.Frag) (H:Hp) (a:Addr) (ns:List Int),ns.length≤n→(∀ m∈ns,Sz 1048576 m)→mq H→SqL K H a (ns.map V.int)→sp K [.ref a] H (fun v _=> v=.bl true) fun _ _ _=> False)
  (hCX:∀ (H:Hp) (s:Shared) (e:Value) (s':Shared),CX [] H s (fun _ _ _=> False) e s'→False):
  PySem.W.WalkO q loose XP YP l.row.toRowW d [] (fun f vs=> PySem.call f vs):=by
 refine gO hn hdf fun w s₀ s₁ mg mb fa o pm cd doc a vs ns G Y ho hd hcd hmg hobj hints hlen hbits hg=> ?_
 have KX:=hY w _ Y
 obtain ⟨fd,hb,hF⟩:=F w mg fa _ KX G.T.g hmg
 exact kn KX G.T.g G.T.b G.T.builtins G.T.nolimit hg hobj hints (Nat.le_trans hlen hn2) hr hF hb (fun H hO hS=> hsp _ H a ns hlen hbits hO hS) fun H e s'=> hCX H s₁ e s'
end L2
namespace L2
theorem g9 {α:Type} {xs:List α} {k:Int} {i:Nat} {v:α} (e:k=(i:Int)) (h:xs[i]?=some v):atI xs k=some v:=by subst e; exact jd h
end L2
namespace L2
theorem Sz.natle {m:Nat} {x y:Int} (hy:Sz m y) (h:x.natAbs≤y.natAbs):Sz m x:=Sz.le h hy
end L2
namespace L2
open PySem PySem.Spec PyProof.Rows
abbrev ay (X:Cx) (scope:Scope) (cl:List (Str×Addr)) (C:Addr) (s:Shared) (H:Hp) (fp:List Addr):Cx:=
 { X with s₀:=s,H₀:=H,env:=compEnvC scope cl C X.env,outer:=X.stack,ex:=fp,fn:=fun _=> false,pn:=[],xe:=fun _ _=> False }
def mask:List Nat→St→St
 | [],σ=> σ
 | i::is,σ=> mask is (σ.set i none)
theorem cV:∀ (is:List Nat) (σ:St),(mask is σ).length=σ.length
 | [],_=> rfl
 | i::is,σ=> by rw [mask,cV is]; simp
theorem ek:∀ (is:List Nat) (σ:St) (j:Nat) (v:V),(mask is σ)[j]?=some (some v)→σ[j]?=some (some v)∧j ∉ is
 | [],σ,j,v,h=> ⟨h,by simp⟩
 | i::is,σ,j,v,h=> by
  obtain ⟨h1,h2⟩:=ek is _ j v h
  by_cases e:i=j
  ·subst e
   rw [List.getElem?_set] at h1
   simp at h1
  ·rw [List.getElem?_set_ne e] at h1
   exact ⟨h1,by simp [Ne.symm e,h2]⟩
structure ci (X:Cx) (scope:Scope) (cl:List (Str×Addr)) (is:List Nat):Prop where
 clos:closureFor scope X.env=pure cl
 cell:∀ y∈scope.names,y.2≠.cell
 kind:scope.kind=.function
 names:∀ y∈scope.names,y.2=.local→scope.names.lookup y.1=some .local
 cls:∀ x c,cl.lookup x=some c→X.env.cells.lookup x=some c
 free:∀ x,((relabel scope X.env).names.lookup x=some .cell∨(relabel scope X.env).names.lookup x=some .free)→Vis X.env.scope x∧X.env.scope.names.lookup x≠some .local∧∃ c,cl.lookup x=some c
 own:∀ i x,X.N[i]?=some x→(relabel scope X.env).names.lookup x=some .local→i∈is
def kX (J:It) (is:List Nat) (g:TG) (te:TE) (σ:St) (H1:Hp) (l:Addr) (Q:VK):Prop:=
 ∃ W:Nat→Nat→Hp→Prop,(∃ m,W 0 m (upd H1 l (.lst [])))∧∀ i m H2,W i m H2→
  (J.stop i H2∧Q (.ref l) H2)∨(J.go i H2∧∀ x H3,J.yld i H2 x H3→g x (mask is σ) H3 fun σ4 H4=> te σ4 H4 fun y H5=>
   (∀ (j:Nat) (v:V),(mask is σ)[j]?=some (some v)→σ4[j]?=some (some v))∧∃ vs,H5 l=some (.lst vs)∧vs.length < sizeLine∧∃ m',m' < m∧W (i+1) m' (upd H5 l (.lst (vs++[y]))))
def mT (is:List Nat) (g:TG) (te:TE) (σ:St) (Q:VK) (J:It) (H1:Hp):Prop:=∀ l,H1 l=none→kX J is g te σ H1 l Q
def lE (is:List Nat) (wi:TI) (g:TG) (te:TE):TE:=fun σ H Q=> wi σ H (mT is g te σ Q)
section
variable {X:Cx} {pins:List (Addr×Obj)} {σ:St} {H:Hp} {s:Shared}
theorem eU {scope:Scope} {cl:List (Str×Addr)} {is:List Nat} {fp:List Addr} {h₁:Heap} {m:Str→Option Value} {t':Nat} (I:Inv X pins σ H s) (B:ci X scope cl is) (hf:∀ b∈fp,fN X pins H b) (hfl:∀ b∈fp,b < s.heap.objs.size)
  (hn:h₁.Ns s.heap.objs.size m) (hk:∀ b o,s.heap.get? b=some o→h₁.get? b=some o):
  Inv (ay X scope cl s.heap.objs.size s H fp) [] (mask is σ) H { s with heap:=h₁,toks:=t' }:=by
 refine ⟨⟨I.ok.mod,B.kind,I.ok.glob,I.ok.blt,Nat.le_refl _,fun x y c h1 h2=> I.ok.inj x y c (B.cls x c h1) (B.cls y c h2),fun x hx=> (B.free x hx).2.2,fun x c h=> (by cases h),I.ok.hd,I.ok.frames,.inl rfl,fun b hb=> ⟨Nat.ne_of_lt (hfl b hb),fun x c e=> (hf b hb).2.2.2.2.1 x c (B.cls x c e)⟩,
  I.bs,Nat.le_trans I.ok.bsz I.sz,fun b o e hb=> ?_,fun b hb z=> ?_,I.stack,I.stkFree⟩,rfl,I.bare,Un.kept hk,⟨m,hn,fun i x v h1 h2 h3=> ?_⟩,fun x c e=> ?_,I.hok.fresh (Nat.le_refl _),fun x c e=> I.freeC x c (B.cls x c e),fun p hp=> absurd (show p∈([]:List (Addr×Obj)) from hp) (by simp),I.hok.kept hk,?_⟩
 ·rcases (hf b hb).2.2.2.1 with z | z
  ·exact I.ok.noex b o e z
  ·exact absurd (Nat.lt_of_lt_of_le (Heap.lt_size e) (Nat.le_trans I.ok.bsz z)) (Nat.lt_irrefl _)
 ·rcases List.mem_cons.mp (I.stkSub b z) with e | e
  ·exact (hf b hb).2.1 e
  ·exact (hf b hb).2.2.1 e
 ·obtain ⟨e2,ni⟩:=ek is σ i v h2
  have h3':(relabel scope X.env).names.lookup x=some .local∨(relabel scope X.env).names.lookup x=some .cell∨(relabel scope X.env).names.lookup x=some .free:=h3
  rcases h3' with z | z
  ·exact absurd (B.own i x h1 z) ni
  ·obtain ⟨hv,hnl,c,hc⟩:=B.free x z
   obtain ⟨m0,_,hl⟩:=I.loc
   obtain ⟨u,r,l⟩:=hl i x v h1 e2 hv
   refine ⟨u,r,.inr ⟨z,c,hc,?_⟩⟩
   rcases l with ⟨k,_⟩ | ⟨_,c',hc',o,ho,hd⟩
   ·exact absurd k hnl
   ·have ec:=B.cls x c hc
    rw [hc'] at ec
    cases ec
    exact ⟨o,hk _ _ ho,hd⟩
 ·obtain ⟨v,o,ho,hd⟩:=I.cell x c (B.cls x c e)
  exact ⟨v,o,hk _ _ ho,hd⟩
 ·show (mask is σ).length=X.N.length
  rw [cV]; exact I.len
theorem hZ {elt iter tg:Expr} {scope:Scope} {cl:List (Str×Addr)} {pos pos0:Pos} {is:List Nat} {wi:TI} {g:TG} {te:TE} {use:Option (Value→Sem Unit)} {Q0:VK} {Q:Value→Shared→Prop} (hc:X.calm=true) (B:ci X scope cl is)
  (hi:PI X tg iter wi) (hg:∀ C s H fp,PG (ay X scope cl C s H fp) tg g) (he:∀ C s H fp,PE (ay X scope cl C s H fp) elt te) (hs:∀ x,foldedSetIterable iter X.env x=pure x)
  (I:Inv X pins σ H s) (h:lE is wi g te σ H Q0)
  (fin:∀ (l C:Addr) (H':Hp) (s':Shared) (m:Str→Option Value),Inv X pins σ H' s'→s'.heap.Ns C m→H' C=none→C≠X.env.locals→C ∉ X.fs→X.s₀.heap.objs.size≤C→(∀ x c,X.env.cells.lookup x=some c→c≠C)→(∀ p∈X.pn++pins,p.1≠C)→Q0 (.ref l) H'→
   compPost (model X.prog X.w) X.A X.xe use Q (.ref l) C (.ok .next) s'):
  wpAny (model X.prog X.w) X.A (comprehension (.ListComp elt [⟨tg,iter,[],0⟩] scope pos) scope X.env pos0 (newList []) false (eval iter X.env) use) Q X.xe s:=by
 refine wpAny_comprehension_free rfl hs B.clos B.kind B.names (thn (hi pins s σ H _ I h) fun xv s1 h1=> thn h1 fun itv s2 h2=> ?_)
 obtain ⟨it,fp,tn,J,H2,e,I2,T,st2,f2,R⟩:=h2
 subst e
 refine wpAny_newObj_type (wpAny_newFunctionEnv B.cell (by intro y hy; simp at hy) (fun h₁ hns hsb=> ?_) B.kind)
 have hl:H2 s2.heap.objs.size=none:=I2.hok.fresh (Nat.le_refl _)
 obtain ⟨W,⟨m0,w0⟩,turn⟩:=R s2.heap.objs.size hl
 have I3:Inv X pins σ (upd H2 s2.heap.objs.size (.lst [])) { s2 with heap:=s2.heap.push { cls:=.type "list",dict:=none,data:=.seq ([]:List Value).toArray } }:=
  I2.laid (t':=s2.toks) (o:=.lst []) (fun b u e=> Heap.get?_push_of_some _ e) (Nat.le_refl _) ⟨Nat.zero_le _,[],0,.nil,Heap.get?_push_size _ rfl⟩
 have hfl:∀ b∈fp,b < s2.heap.objs.size:=fun b hb=> let ⟨o,e,_⟩:=T.obj 0 _ st2 b hb; Heap.lt_size e
 have f3:∀ b∈fp,fN X pins (upd H2 s2.heap.objs.size (.lst [])) b:=fun b hb=> ⟨by rw [aR (Nat.ne_of_lt (hfl b hb))]; exact (f2 b hb).1,(f2 b hb).2⟩
 have kp:∀ b o,(s2.heap.push { cls:=.type "list",dict:=none,data:=.seq ([]:List Value).toArray }).get? b=some o→h₁.get? b=some o:=fun b o e=>
  hsb.extBut b o (Nat.ne_of_lt (Heap.lt_size e)) (Heap.get?_push_of_some _ e)
 have st4:tn 0 h₁:=T.keep 0 _ _ st2 fun b _ o e=> kp b o (Heap.get?_push_of_some _ e)
 have hfl3:∀ b∈fp,b < (s2.heap.push { cls:=.type "list",dict:=none,data:=.seq ([]:List Value).toArray }).objs.size:=fun b hb=> by
  rw [Heap.size_push]; exact Nat.lt_succ_of_lt (hfl b hb)
 have I4:=eU (t':=s2.toks+([]:List (Str×Value)).length) I3 B f3 hfl3 hns kp
 have loop:codeAny (model X.prog X.w) X.A (.compLoop (.ListComp elt [⟨tg,iter,[],0⟩] scope pos) 0 (.ref it) (.ref s2.heap.objs.size) (compEnvC scope cl (s2.heap.push { cls:=.type "list",dict:=none,data:=.seq ([]:List Value).toArray }).objs.size X.env))
   (compPost (model X.prog X.w) X.A X.xe use Q (.ref s2.heap.objs.size) (s2.heap.push { cls:=.type "list",dict:=none,data:=.seq ([]:List Value).toArray }).objs.size)
   { s2 with heap:=h₁,toks:=s2.toks+([]:List (Str×Value)).length }:=by
  generalize hs3:({ s2 with heap:=s2.heap.push { cls:=.type "list",dict:=none,data:=.seq ([]:List Value).toArray } }:Shared)=s3 at *
  have hC:(s2.heap.push { cls:=.type "list",dict:=none,data:=.seq ([]:List Value).toArray }).objs.size=s3.heap.objs.size:=by rw [← hs3]
  rw [hC]
  have hstat:∀ {H':Hp},(∀ b∈fp,H' b=none)→∀ b∈fp,fN (ay X scope cl s3.heap.objs.size s3 (upd H2 s2.heap.objs.size (.lst [])) fp) [] H' b:=fun hn b hb=>
   ⟨hn b hb,(I4.ok.exf b hb).1,I4.ok.exfs b hb,.inl hb,fun x c e=> (I4.ok.exf b hb).2 x c e,fun p hp=> absurd (show p∈([]:List (Addr×Obj)) from hp) (by simp)⟩
  have back:∀ {σ':St} {H':Hp} {pp:List (Addr×Obj)} {s':Shared},Inv (ay X scope cl s3.heap.objs.size s3 (upd H2 s2.heap.objs.size (.lst [])) fp) pp σ' H' s'→Inv X pins σ H' s':=fun I'=>
   I3.call' (ch:=fp) I'.os I'.base I'.hok I'.bare fun b hb=> ⟨(f3 b hb).2.2.2.1,(f3 b hb).2.1,(f3 b hb).2.2.2.2.1,(f3 b hb).2.2.2.2.2⟩
  refine codeAny_loop rfl (fun n s'=> ∃ i H',Inv (ay X scope cl s3.heap.objs.size s3 (upd H2 s2.heap.objs.size (.lst [])) fp) [] (mask is σ) H' s'∧tn i s'.heap∧(∀ b∈fp,H' b=none)∧W i n H') ?_ m0 ⟨0,_,(by subst hs3; exact I4),st4,fun b hb=> (f3 b hb).1,w0⟩
  rintro n s5 ⟨i,H5,I5,st5,fr5,w5⟩
  show wpAny _ _ ((compTurn (.ListComp elt [⟨tg,iter,[],0⟩] scope pos) 0 (.ref it) (.ref s2.heap.objs.size) (compEnvC scope cl s3.heap.objs.size X.env)).onRaise (fun x=> do noteFrame x (compEnvC scope cl s3.heap.objs.size X.env); theTreesLotGoes x)) _ _ s5
  refine wpAny_noted ?_
  rw [compTurn_list1]
  refine wpAny_bind (wpAny_standAt (wpAny_bind ?_))
  rcases turn i n H5 w5 with ⟨stop,q⟩ | ⟨go,step⟩
  ·refine thn (T.done (ay X scope cl s3.heap.objs.size s3 (upd H2 s2.heap.objs.size (.lst [])) fp) rfl rfl rfl hc i [] s5 _ H5 _ I5 (hstat fr5) st5 stop) fun r s6 ⟨hr,I6⟩=> ?_
   subst hr
   refine wpAny_pure ?_
   obtain ⟨m6,hn6,_⟩:=I6.loc
   have hCn:∀ b,b < s3.heap.objs.size→b≠s3.heap.objs.size:=fun b hb=> Nat.ne_of_lt hb
   refine fin _ s3.heap.objs.size H5 s6 m6 (back I6) hn6 I6.free (Nat.ne_of_gt I3.lt) (I3.nofs (Nat.le_refl _)) I3.sz (fun x c e=> ?_) (fun p hp=> ?_) q
   ·obtain ⟨v,z⟩:=I3.cell x c e
    exact Nat.ne_of_lt z.lt
   ·exact Nat.ne_of_lt (Heap.lt_size (I3.pin p hp).1)
  ·refine thn (T.item (ay X scope cl s3.heap.objs.size s3 (upd H2 s2.heap.objs.size (.lst [])) fp) rfl rfl rfl hc i [] s5 _ H5 _ I5 (hstat fr5) st5 go) fun r s6 ⟨u,hr,h6⟩=> ?_
   subst hr
   refine wpAny_bind (thn h6 fun _ s7 ⟨x,H7,I7,r7,y7,st7,fr7⟩=> ?_)
   have I7':=I7.pinned (hstat fr7) (T.obj _ _ st7)
   refine wpAny_bind (wpAny_mono (hg _ _ _ _ _ s7 (mask is σ) H7 x u _ I7' r7 (step x H7 y7)) (fun _ s8 ⟨σ8,H8,I8,q8⟩=> ?_) fun _ _ z=> z.elim)
   refine wpAny_bind (wpAny_bind (wpAny_mono (he _ _ _ _ _ s8 σ8 H8 _ I8 q8) (fun v s9 ⟨y,H9,I9,r9,sub,vs,hl9,hz,m',hm,w'⟩=> ?_) fun _ _ z=> z.elim))
   refine wpAny_bind (wpAny_mono (eK (X:=ay X scope cl s3.heap.objs.size s3 (upd H2 s2.heap.objs.size (.lst [])) fp) _ s9 σ8 H9 (.ref s2.heap.objs.size) [y] (.ref s2.heap.objs.size) [v] (fun _ H'=> H'=upd H9 s2.heap.objs.size (.lst (vs++[y]))) I9 rfl (.cons r9 .nil) ⟨_,vs,y,rfl,rfl,hl9,hz,rfl⟩) (fun z s10 ⟨zv,H10,I10,_,e10⟩=> ?_) fun _ _ z=> z.elim)
   subst e10
   refine wpAny_pure (wpAny_pure ⟨rfl,m',hm,i+1,_,(I10.unpinned (pins:=[])).weak (by rw [I10.len,cV,I.len]) sub,T.keep _ _ _ st7 fun b hb o e=> (I10.pin (b,o) (List.mem_append_right _ (List.mem_append_right _ (cg hb e)))).1,fun b hb=> ?_,w'⟩)
   obtain ⟨o,e,d⟩:=T.obj _ _ st7 b hb
   exact (I10.pin (b,o) (List.mem_append_right _ (List.mem_append_right _ (cg hb e)))).2.1
 exact codeAny_compStart_list loop (T.self X.A 0 _ _ _ st4 loop)
theorem mF {elt iter tg:Expr} {scope:Scope} {cl:List (Str×Addr)} {pos:Pos} {is:List Nat} {wi:TI} {g:TG} {te:TE} (hc:X.calm=true) (B:ci X scope cl is)
  (hi:PI X tg iter wi) (hg:∀ C s H fp,PG (ay X scope cl C s H fp) tg g) (he:∀ C s H fp,PE (ay X scope cl C s H fp) elt te) (hs:∀ x,foldedSetIterable iter X.env x=pure x:=by intro _; rfl):
  PE X (.ListComp elt [⟨tg,iter,[],0⟩] scope pos) (lE is wi g te):=by
 intro pins s σ H Q I h
 rw [eval_ListComp]
 refine hZ (use:=none) hc B hi hg he hs I h fun l C H' s' m I' hn h1 h2 h3 h4 h5 h6 q=> ⟨m,hn,fun h' hsb=> ?_⟩
 exact ⟨.ref l,H',I'.turned (t':=s'.toks) (fun b o hb e=> hsb.extBut b o hb e) h1 (Ne.symm h2.symm) (.inr h4) h5 h6,rfl,q⟩
end
end L2
namespace L2
open PySem PySem.Spec PyProof.Rows
section
variable {X:Cx}
theorem i_ {elt iter tg:Expr} {scope:Scope} {cl:List (Str×Addr)} {pos spos py:Pos} {y:Str} {j:Nat} {is:List Nat} {wi:TI} {g:TG} {te:TE} (hc:X.calm=true) (hN:X.N.Nodup) (hj:X.N[j]?=some y) (hy:Loc X.env.scope y) (B:ci X scope cl is)
  (hi:PI X tg iter wi) (hg:∀ C s H fp,PG (ay X scope cl C s H fp) tg g) (he:∀ C s H fp,PE (ay X scope cl C s H fp) elt te) (hs:∀ x,foldedSetIterable iter X.env x=pure x:=by intro _; rfl)
  (hsw:swapsWith (.ListComp elt [⟨tg,iter,[],0⟩] scope pos) (some (.Name y py)) spos.line X.env=pure true:=by rfl) (hf:X.fn y=true∨X.env.scope.names.lookup y=some .local:=by first | exact .inl rfl | exact .inr rfl | assumption):
  PS X (.Assign [.Name y py] (.ListComp elt [⟨tg,iter,[],0⟩] scope pos) spos) (nI (lE is wi g te) (ig j)):=by
 intro pins s σ H D I h
 rw [exec_Assign_Name_used _ _ _ _ hsw]
 refine wpAny_bind (wpAny_standAt (wpAny_bind ?_))
 show wpAny _ X.A (do let _ ← comprehension (.ListComp elt [⟨tg,iter,[],0⟩] scope pos) scope X.env _ (newList []) false (eval iter X.env) (some (assign (.Name y py) X.env))) _ _ s
 refine wpAny_bind (wpAny_mono (hZ (Q0:=fun v H'=> D.nx (σ.set j (some v)) H') (use:=some (assign (.Name y py) X.env)) (Q:=fun _ s'=> SP X pins D .next s') hc B hi hg he hs I h fun l C H' s' m I' hn h1 h2 h3 h4 h5 h6 q=> ?_) (fun _ s' hq=> wpAny_pure (wpAny_pure hq)) fun _ _ e=> e)
 show wpAny _ X.A (assign (.Name y py) X.env (.ref l)) _ _ _
 refine wpAny_assign_Name (eO I' hN hj hy (v:=.ref l) rfl (fun s2 I2 ⟨a,hsb,ha⟩=> ?_) hf)
 have hCa:C≠a:=by
  rcases ha with e | e
  ·rw [e]; exact h2
  ·exact Ne.symm (h5 _ _ e)
 refine ⟨m,hn.sameBut hsb hCa,fun h' hsb'=> ⟨_,H',I2.turned (t':=s2.toks) (fun b o hb e=> hsb'.extBut b o hb e) h1 h2 (.inr h4) h5 h6,q⟩⟩
end
section
variable {prog:Program} {w:World} {A:Around} {E:Value→Shared→Prop}
theorem gs {it t:Addr} {items:Array Value} (hne:t≠it):∀ (n i:Nat) (s:Shared) (Q:List Value→Shared→Prop),s.heap.IsListIter it t i→s.heap.IsList t items→i+n≤items.size→
  (∀ h',h'.IsListIter it t (i+n)→Heap.SameBut it s.heap h'→Q ((items.toList.drop i).take n) { s with heap:=h' })→wpAny (model prog w) A (draw (.ref it) n) Q E s
 | 0,i,s,Q,hit,_,_,hQ=> by
  show wpAny _ _ (pure []) Q E s
  exact wpAny_pure (by simpa using hQ s.heap hit (Heap.SameBut.refl ..))
 | n+1,i,s,Q,hit,ht,hle,hQ=> by
  have hlt:i < items.size:=by omega
  show wpAny _ _ (pyNext (.ref it) >>=_) Q E s
  refine wpAny_bind (wpAny_pyNext_list_item hit ht (x:=items[i]) (by simp [hlt]) fun h₁ hit₁ hs₁=> ?_)
  refine wpAny_bind (wpAny_holding (gs hne n (i+1) _ _ hit₁ (ht.extBut hs₁.extBut hne) (by omega) fun h₂ hit₂ hs₂=> wpAny_pure ?_))
  have hd:items.toList.drop i=items[i]::items.toList.drop (i+1):=by simp [List.drop_eq_getElem_cons,hlt]
  have:=hQ h₂ (by rw [show i+(n+1)=i+1+n by omega]; exact hit₂) (hs₁.trans hs₂)
  rw [hd,List.take_succ_cons] at this
  exact this
theorem eQ {s:Shared} {t:Addr} {items:Array Value} {Q:List Value→Shared→Prop} (hh:A.handled=none) (ht:s.heap.IsList t items)
  (hQ:∀ h',Heap.ExtBut s.heap.objs.size s.heap h'→Q items.toList { s with heap:=h' }):wpAny (model prog w) A (unpackItems (.ref t) items.size none) Q E s:=by
 have hlt:t≠s.heap.objs.size:=by obtain ⟨o,ho,_⟩:=ht; exact Nat.ne_of_lt (Heap.lt_size ho)
 unfold unpackItems
 refine wpAny_bind ?_
 ·unfold notIterableAtAll
  refine wpAny_bind (wpAny_specialOf ht.typeIs PySem.slot_list_iter.lookup ?_)
  refine wpAny_pure ?_
  simp only [Bool.false_eq_true,if_false]
  refine wpAny_bind (wpAny_holding (wpAny_pyIter_list ht ?_))
  refine wpAny_bind (wpAny_holding (gs hlt items.size 0 _ _ ⟨_,Heap.get?_push_size _ rfl,rfl,rfl⟩ (ht.push _) (by omega) fun h₁ hit₁ hs₁=> ?_))
  have hall:List.take items.size (List.drop 0 items.toList)=items.toList:=by
   rw [List.drop_zero]; exact List.take_of_length_le (by simp)
  rw [hall]
  rw [if_neg (by simp)]
  have ht₁:h₁.IsList t items:=(ht.push _).extBut hs₁.extBut hlt
  refine wpAny_bind (wpAny_holding (wpAny_pyNext_list_end hh hit₁ ht₁ (by simp) fun h₂ he₂=> ?_))
  simp only [Option.isSome_none,Bool.false_eq_true,if_false]
  refine wpAny_pure (hQ h₂ fun b o hb e=> he₂ b o hb (hs₁.extBut b o hb (Heap.get?_push_of_some _ e)))
end
section
variable {X:Cx} {pos:Pos}
def pW (K:PySem.W.Frag) (n:Nat) (t:TGs):TG:=fun v σ H Q=> ∃ a xs,v=.ref a∧SqL K H a xs∧xs.length=n∧t xs σ H Q
theorem nM {es:List Expr} {k:Nat} {t:TGs} {n:Nat} (hc:X.calm=true) (h:PGs X es t)
  (hn:(assignEach es X.env).length=n:=by rfl) (hst:(assignEach es X.env).findIdx? (·.1)=none:=by rfl):PG X (.Tuple es k pos) (pW X.K n t):=by
 intro pins s σ H v u Q I r hw
 obtain ⟨a,xs,e1,hq,hl,hw⟩:=hw
 subst e1
 cases r
 obtain ⟨its,rv,ht,hz⟩:=I.list hq
 rw [assign_Tuple]
 refine wpAny_bind (wpAny_standAt ?_)
 unfold unpack
 rw [hst,hn,← hl,rv.length,← List.size_toArray]
 refine wpAny_bind (wpAny_holding (eQ (I.ok.hd hc) ht.isList fun h' hx=> ?_))
 have I1:Inv X pins σ H { s with heap:=h' }:=I.kept (t':=s.toks) fun b o e=> hx b o (Nat.ne_of_lt (Heap.lt_size e)) e
 exact h pins _ σ H xs _ Q I1 (by simpa using rv) hw
end
end L2
namespace L2
open PySem PySem.Spec PyProof.Rows
def goC (cells:List (Str×Addr)):List (Str×NameKind)→List (Str×Addr)→List (Str×Addr)
 | [],acc=> acc
 | (n,k)::r,acc=> goC cells r (if (k==.free)=true then (n,(cells.lookup n).getD 0)::acc else acc)
theorem iN {env:Env} {scope:Scope} (h:∀ y∈scope.names,y.2=.free→(env.cells.lookup y.1).isSome=true):closureFor scope env=pure (goC env.cells scope.names []):=by
 have all:∀ (names:List (Str×NameKind)) (acc:List (Str×Addr)),(∀ y∈names,y.2=.free→(env.cells.lookup y.1).isSome=true)→
   (forIn names acc (fun x cs=> match x with | (name,kind)=> if (kind==.free)=true then (do let c ← cellOf env name; pure (ForInStep.yield ((name,c)::cs))) else pure (ForInStep.yield cs)):Sem (List (Str×Addr)))=pure (goC env.cells names acc):=by
  intro names
  induction names with
  | nil=> intro acc _; rfl
  | cons y r ih=>
   intro acc hy
   obtain ⟨n,k⟩:=y
   rw [List.forIn_cons]
   by_cases hk:k=.free
   ·subst hk
    have:=hy (n,.free) List.mem_cons_self rfl
    obtain ⟨c,hc⟩:=Option.isSome_iff_exists.mp this
    have e:cellOf env n=pure c:=by unfold cellOf; rw [hc]
    simp only [beq_self_eq_true,if_true,e,pure_bind]
    rw [ih _ fun y hy'=> hy y (List.mem_cons_of_mem _ hy')]
    simp only [goC,beq_self_eq_true,if_true,hc,Option.getD_some]
   ·have hb:(k==NameKind.free)=false:=by simpa using hk
    simp only [hb,Bool.false_eq_true,if_false,pure_bind]
    rw [ih _ fun y hy'=> hy y (List.mem_cons_of_mem _ hy')]
    simp only [goC,hb,Bool.false_eq_true,if_false]
 simp only [closureFor]
 have:=all scope.names [] h
 simpa using this
theorem jc {cells:List (Str×Addr)}:∀ (names:List (Str×NameKind)) (acc:List (Str×Addr)),(∀ y∈names,y.2=.free→(cells.lookup y.1).isSome=true)→(∀ x c,acc.lookup x=some c→cells.lookup x=some c)→
  ∀ x c,(goC cells names acc).lookup x=some c→cells.lookup x=some c
 | [],_,_,ha,x,c,h=> ha x c h
 | (n,k)::r,acc,hy,ha,x,c,h=> by
  rw [goC] at h
  refine jc r _ (fun y hy'=> hy y (List.mem_cons_of_mem _ hy')) (fun x' c' e=> ?_) x c h
  by_cases hk:k=.free
  ·subst hk
   simp only [beq_self_eq_true,if_true] at e
   rw [List.lookup_cons] at e
   by_cases hx:(x'==n)=true
   ·rw [hx] at e
    have hx':x'=n:=by simpa using hx
    obtain ⟨c2,hc2⟩:=Option.isSome_iff_exists.mp (hy (n,.free) List.mem_cons_self rfl)
    simp only [hc2,Option.getD_some] at e
    rw [hx',hc2]; exact e
   ·have:(x'==n)=false:=by simpa using hx
    rw [this] at e
    exact ha x' c' e
  ·have hb:(k==NameKind.free)=false:=by simpa using hk
   rw [hb] at e
   exact ha x' c' e
theorem jj {cells:List (Str×Addr)} {x:Str}:∀ (names:List (Str×NameKind)) (acc:List (Str×Addr)),((x,NameKind.free)∈names∨∃ c,acc.lookup x=some c)→∃ c,(goC cells names acc).lookup x=some c
 | [],_,h=> by
  rcases h with h | h
  ·cases h
  ·exact h
 | (n,k)::r,acc,h=> by
  rw [goC]
  refine jj r _ ?_
  rcases h with h | ⟨c,h⟩
  ·rcases List.mem_cons.mp h with e | h
   ·cases e
    right
    simp
   ·exact .inl h
  ·right
   by_cases hk:k=.free
   ·subst hk
    simp only [beq_self_eq_true,if_true]
    rw [List.lookup_cons]
    cases hx:x==n with
    | true=> exact ⟨_,rfl⟩
    | false=> exact ⟨c,h⟩
   ·have hb:(k==NameKind.free)=false:=by simpa using hk
    rw [hb]; exact ⟨c,h⟩
theorem bU {env:Env} {x:Str} {kd:NameKind}:∀ {names:List (Str×NameKind)},
  (names.map fun (n,k)=> if (k==NameKind.free && env.scope.kind==.function && env.kindOf n==some .cell) then (n,NameKind.cell) else (n,k)).lookup x=some kd→names.lookup x=some kd∨(kd=.cell∧names.lookup x=some .free)
 | [],h=> by simp at h
 | (n,k)::r,h=> by
  have ih:=@bU env x kd r
  change List.lookup x ((if (k==NameKind.free && env.scope.kind==.function && env.kindOf n==some .cell)=true then (n,NameKind.cell) else (n,k))::_)=_ at h
  by_cases hc:(k==NameKind.free && env.scope.kind==.function && env.kindOf n==some .cell)=true
  ·rw [if_pos hc] at h
   rw [List.lookup_cons] at h ⊢
   cases hx:x==n with
   | true=>
    rw [hx] at h
    have hk:k=.free:=by
     have:=(Bool.and_eq_true_iff.mp (Bool.and_eq_true_iff.mp hc).1).1
     simpa using this
    subst hk
    have h':some NameKind.cell=some kd:=h
    cases h'
    exact .inr ⟨rfl,rfl⟩
   | false=> rw [hx] at h; exact ih h
  ·rw [if_neg hc] at h
   rw [List.lookup_cons] at h ⊢
   cases hx:x==n with
   | true=> rw [hx] at h; exact .inl h
   | false=> rw [hx] at h; exact ih h
def k_ (scope fscope:Scope) (N:List Str) (is:List Nat):Bool:=
 scope.names.all (fun y=> y.2 !=.cell) && scope.names.all (fun y=> y.2 !=.local || scope.names.lookup y.1==some .local) && scope.names.all (fun y=> y.2 !=.free || fscope.names.lookup y.1==some .cell) &&
  (List.range N.length).all fun i=> match N[i]? with | some x=> scope.names.lookup x !=some .local || is.contains i | none=> true
theorem blk {X:Cx} {scope:Scope} (fscope:Scope) (N:List Str) (is:List Nat) (hNN:X.N=N) (hs:X.env.scope=fscope) (hcs:X.env.cells=cellsFrom (X.env.locals+1) fscope.names []) (hk:scope.kind=.function) (h:k_ scope fscope N is=true):ci X scope (goC X.env.cells scope.names []) is:=by
 subst hNN
 unfold k_ at h
 simp only [Bool.and_eq_true,List.all_eq_true] at h
 obtain ⟨⟨⟨h1,h2⟩,h3⟩,h4⟩:=h
 have f1:∀ y∈scope.names,y.2=.free→fscope.names.lookup y.1=some .cell:=fun y hy e=> by
  have:=h3 y hy
  simp only [Bool.or_eq_true,bne_iff_ne,ne_eq,beq_iff_eq] at this
  exact this.resolve_left fun z=> z e
 have f2:∀ y∈scope.names,y.2=.free→(X.env.cells.lookup y.1).isSome=true:=fun y hy e=> by
  rw [hcs]; exact PySem.W.cellsFrom_some _ _ _ (.inl (f1 y hy e))
 have nc:∀ y∈scope.names,y.2≠.cell:=fun y hy=> by have:=h1 y hy; simpa using this
 refine ⟨iN f2,nc,hk,fun y hy e=> ?_,jc _ _ f2 (fun x c e=> by simp at e),fun x hx=> ?_,fun i x hi hl=> ?_⟩
 ·have:=h2 y hy
  simp only [Bool.or_eq_true,bne_iff_ne,ne_eq,beq_iff_eq] at this
  exact this.resolve_left fun z=> z e
 ·have hf:(x,NameKind.free)∈scope.names:=by
   rcases hx with hx | hx
   ·rcases bU hx with z | ⟨_,z⟩
    ·exact absurd rfl (nc _ (PySem.mem_of_lookup z))
    ·exact PySem.mem_of_lookup z
   ·rcases bU hx with z | ⟨z,_⟩
    ·exact PySem.mem_of_lookup z
    ·cases z
  have hc:=f1 _ hf rfl
  refine ⟨.inr (.inl (by rw [hs]; exact hc)),(by rw [hs,show fscope.names.lookup x=some .cell from hc]; intro z; cases z),jj _ _ (.inl hf)⟩
 ·have hi':i < X.N.length:=(List.getElem?_eq_some_iff.mp hi).1
  have:=h4 i (List.mem_range.mpr hi')
  rw [hi] at this
  have hl':scope.names.lookup x=some .local:=by
   rcases bU hl with z | ⟨z,_⟩
   ·exact z
   ·cases z
  simp only [hl',bne_self_eq_false,Bool.false_or,List.contains_iff_mem] at this
  exact this
end L2
namespace L2
end L2
namespace L2
open PySem PySem.Spec PySem.W PyProof.Rows
theorem ml {K:Frag} {h:Heap} {mg:Str→Option Value} {x:Str} {C:Addr} {bmB:List Value} {newId:String} (X:K.In h) (hb:mg x=some (.ref C)) (q:excIn K C bmB newId=true):OwnCls x C bmB newId mg h:=by
 refine ⟨hb,?_⟩
 unfold excIn at q
 split at q
 ·rename_i dd cd sl ho
  split at q
  ·rename_i C' bm k0 k1 k2 k3 n k5 hm hs
   simp only [Bool.and_eq_true,beq_iff_eq,Bool.not_eq_true'] at q
   obtain ⟨⟨⟨⟨⟨e1,e2⟩,hdel⟩,ht⟩,hok⟩,hni⟩:=q
   subst e1 e2
   obtain ⟨nm,bs,mro,ns,qn,hd,sn,sub,ab,col,del⟩:=cd
   dsimp only at hm hdel hok hni
   subst hm hdel
   have hsl:sl=#[k0,k1,k2,k3,some (.builtin n),k5]:=by cases sl; simp only at hs; rw [hs]
   subst hsl
   exact ⟨bm,ns,nm,qn,bs,hd,sn,sub,ab,col,dd,k0,k1,k2,k3,k5,_,X _ _ ho,.of_isNs (isNs_of_in X hok),nsMap_none_of_in X hok hni,tail_of_in X ht⟩
  ·cases q
 ·cases q
def CXF (P:Program) (w:World):CXT:=fun outer H s E e s'=> ∃ (ea:Addr) (cls a0:Value) (B:Heap) (H':Hp),e=.ref ea∧s'.os=s.os∧AllBare s'.gens∧Un (frs outer) [] H H' s.heap s'.heap∧HOk P w H' s'.heap∧H' ea=none∧
 (∀ b o,s.heap.get? b=some o→b ∉ frs outer→H b=none→B.get? b=some o)∧(∀ b u,H' b=some u→∃ o,B.get? b=some o)∧(∀ b o,s.heap.get? b=some o→b ∉ frs outer→∃ o',B.get? b=some o')∧
 Heap.FlyingW B outer ea cls a0 s'.heap∧E cls none H'
theorem ap {P:Program} {w:World} {X:Cx}:dZ (CXF P w) X E0:=fun _ _ _ _ _ _ _ h=> by
 obtain ⟨_,_,_,_,_,_,_,_,_,_,_,_,_,_,_,hE⟩:=h
 exact hE.elim
theorem gt {P:Program} {w:World} {H:Hp} {h:Heap} {a:Addr} {o:HO} (x:bR P w H h a o):∃ ob,h.get? a=some ob:=by
 cases o with
 | lst xs=> obtain ⟨_,_,_,_,e⟩:=x; exact ⟨_,e⟩
 | tup xs=> obtain ⟨_,_,_,ob,e,_⟩:=x; exact ⟨_,e⟩
 | dK kvs=> obtain ⟨_,_,_,_,o,_,_,e,_⟩:=x; exact ⟨_,e⟩
 | dT kvs=> obtain ⟨_,_,_,_,o,_,_,e,_⟩:=x; exact ⟨_,e⟩
 | set S n=> obtain ⟨o,_,_,_,e,_⟩:=x; exact ⟨_,e⟩
 | ins C dx fs=> obtain ⟨_,_,_,e,_⟩:=x; exact ⟨_,e⟩
 | own y=> obtain ⟨_,e⟩:=x; exact ⟨_,e⟩
 | xd fs=> obtain ⟨_,⟨_,_,_,e,_⟩,_⟩:=x; exact ⟨_,e⟩
 | rng lo hi=> obtain ⟨_,_,_,e⟩:=x; exact ⟨_,e⟩
 | frz ob u=> obtain ⟨e,_⟩:=x; exact ⟨_,e⟩
 | tbl ps=> exact ⟨_,(show h.get? a=some _ from x)⟩
 | met f y=> exact ⟨_,(show h.get? a=some _ from x)⟩
 | ext φ=> obtain ⟨_,⟨_,e⟩,_⟩:=x; exact ⟨_,e⟩
theorem e9 {P:Program} {w:World} {H':Hp} {h h' B:Heap} (ok:HOk P w H' h) (hB:∀ b u,H' b=some u→∃ o,B.get? b=some o) (s1:B.StaysIn h) (s2:B.StaysIn h'):HOk P w H' h':=fun a o e=> by
 refine (ok a o e).stay (fun b u hb q=> ?_) (fun _ q=> q) fun _ _ q=> q
 have:∃ v,H' b=some v:=by
  rcases hb with z | z
  ·subst z; exact ⟨_,e⟩
  ·exact ⟨_,z⟩
 obtain ⟨v,hv⟩:=this
 obtain ⟨ob,hob⟩:=hB b v hv
 have:=s1 b ob hob
 rw [q] at this
 cases this
 exact s2 b _ hob
theorem j7 {fs:List Addr} {H0 H':Hp} {h0 h1 h2 B:Heap} (u:Un fs [] H0 H' h0 h1) (k1:∀ b o,h0.get? b=some o→b ∉ fs→H0 b=none→B.get? b=some o) (k3:∀ b o,h0.get? b=some o→b ∉ fs→∃ o',B.get? b=some o')
  (st:B.StaysIn h2) (up:h1.UpToSlots h2) (fr:∀ b∈fs,∀ o,h0.get? b=some o→∀ vs,o.data≠.fields vs) (frf:∀ b∈fs,H0 b=none):Un fs [] H0 H' h0 h2 where
 keep:=fun b o e n hb _=> st b o (k1 b o e hb n)
 slot:=fun b o e n hb hx=> by
  obtain ⟨sl,e1⟩:=u.slot b o e n hb hx
  obtain ⟨sl2,e2⟩:=up b _ e1 (fr b hb o e)
  exact ⟨sl2,e2⟩
 free:=u.free
 there:=fun b o e hx=> by
  by_cases hb:b∈fs
  ·obtain ⟨sl,e1⟩:=u.slot b o e (frf b hb) hb hx
   obtain ⟨sl2,e2⟩:=up b _ e1 (fr b hb o e)
   exact ⟨_,e2⟩
  ·obtain ⟨o',e'⟩:=k3 b o e hb
   exact ⟨o',st b o' e'⟩
 tups:=u.tups
 frzs:=u.frzs
 tbls:=u.tbls
theorem gD {h base:Heap}:∀ {l:List Env},h.FunFrames base l→∀ b∈frs l,∀ o,h.get? b=some o→∀ vs,o.data≠.fields vs
 | [],_,b,hb,_,_=> absurd (show b∈([]:List Addr) from hb) (by simp)
 | env::r,⟨_,⟨L,o',hf,_,ho,hd⟩,hr⟩,b,hb,o,e=> by
  unfold frs at hb
  rw [List.filterMap_cons,hf] at hb
  rcases List.mem_cons.mp hb with z | z
  ·subst z; rw [ho] at e; cases e; exact hd
  ·exact gD hr b z o e
section
variable {P:Program} {w:World} {K:Frag} {mg:Str→Option Value} {base:Heap} {N:List Str} {qual:Str} {scope:Scope} {f:Addr} {cd:Value} {A:Around} {outer:List Env} {s:Shared} {H:Hp} {E:XK}
theorem lj {env:Env} {L:Addr} {l:List Env} (h:env.frame=some L):frs (env::l)=L::frs l:=by unfold frs; rw [List.filterMap_cons,h]
theorem hR {pins:List (Addr×Obj)} {σ:St} {H1 H':Hp} {s1:Shared} {B h1 h2:Heap} (I:Inv (cU (CXF P w) P w K mg base N qual scope f cd A outer s H E) pins σ H1 s1)
  (un:Un (frs (envOfC qual scope s.heap.objs.size f cd::outer)) [] H1 H' s1.heap h1)
  (k1:∀ b o,s1.heap.get? b=some o→b ∉ frs (envOfC qual scope s.heap.objs.size f cd::outer)→H1 b=none→B.get? b=some o) (k3:∀ b o,s1.heap.get? b=some o→b ∉ frs (envOfC qual scope s.heap.objs.size f cd::outer)→∃ o',B.get? b=some o')
  (st:B.StaysIn h2) (up:h1.UpToSlots h2):
  Un (frs outer) [] H H' s.heap h2∧(∀ b o,s.heap.get? b=some o→b ∉ frs outer→H b=none→B.get? b=some o)∧(∀ b o,s.heap.get? b=some o→b ∉ frs outer→∃ o',B.get? b=some o'):=by
 have ef:frs (envOfC qual scope s.heap.objs.size f cd::outer)=s.heap.objs.size::frs outer:=lj rfl
 rw [ef] at un k1 k3
 have ne:∀ b o,s.heap.get? b=some o→b ∉ frs outer→b ∉ s.heap.objs.size::frs outer:=fun b o e hb z=> by
  rcases List.mem_cons.mp z with y | y
  ·exact absurd (Heap.lt_size e) (by rw [y]; exact Nat.lt_irrefl _)
  ·exact hb y
 have ib:Un (frs outer) [] H H1 s.heap s1.heap:=I.base
 have K1:∀ b o,s.heap.get? b=some o→b ∉ frs outer→H b=none→B.get? b=some o:=fun b o e hb n=>
  k1 b o (ib.keep b o e n hb (by simp)) (ne b o e hb) (ib.free b o e n (by simp))
 have K3:∀ b o,s.heap.get? b=some o→b ∉ frs outer→∃ o',B.get? b=some o':=fun b o e hb=> by
  obtain ⟨o',e'⟩:=ib.there b o e (by simp)
  exact k3 b o' e' (ne b o e hb)
 have ffr:∀ b∈frs outer,∀ o,s.heap.get? b=some o→∀ vs,o.data≠.fields vs:=gD I.ok.funs
 have frf:∀ b∈frs outer,H b=none:=I.ok.frf
 refine ⟨⟨fun b o e n hb _=> st b o (K1 b o e hb n),fun b o e n hb hx=> ?_,fun b o e n hx=> ?_,fun b o e hx=> ?_,fun b xs e=> un.tups b xs (ib.tups b xs e),fun b o u e=> un.frzs b o u (ib.frzs b o u e),fun b ps e=> ?_⟩,K1,K3⟩
 ·obtain ⟨sl,e1⟩:=ib.slot b o e n hb hx
  obtain ⟨sl2,e2⟩:=un.slot b _ e1 (ib.free b o e n hx) (List.mem_cons_of_mem _ hb) hx
  obtain ⟨sl3,e3⟩:=up b _ e2 (ffr b hb o e)
  exact ⟨sl3,e3⟩
 ·obtain ⟨o',e1⟩:=ib.there b o e hx
  exact un.free b o' e1 (ib.free b o e n hx) hx
 ·by_cases hb:b∈frs outer
  ·obtain ⟨sl,e1⟩:=ib.slot b o e (frf b hb) hb hx
   obtain ⟨sl2,e2⟩:=un.slot b _ e1 (ib.free b o e (frf b hb) hx) (List.mem_cons_of_mem _ hb) hx
   obtain ⟨sl3,e3⟩:=up b _ e2 (ffr b hb o e)
   exact ⟨_,e3⟩
  ·obtain ⟨o',e'⟩:=K3 b o e hb
   exact ⟨o',st b o' e'⟩
 ·obtain ⟨m1,e1⟩:=ib.tbls b ps e
  obtain ⟨m2,e2⟩:=un.tbls b _ e1
  exact ⟨m1++m2,by rw [e2,Array.append_assoc]⟩
theorem cx:dZ (CXF P w) (cU (CXF P w) P w K mg base N qual scope f cd A outer s H E) E:=by
 intro pins σ H1 s1 e s' I hcx
 obtain ⟨ea,cls,a0,B,H',rfl,os,bare,un,hok,hea,k1,k2,k3,fl,hE⟩:=hcx
 show wpAny _ _ (leaving (envOfC qual scope s.heap.objs.size f cd) (.ref ea)) _ _ s'
 refine wpAny_leaves_onW (L:=s.heap.objs.size) I.ok.frames rfl fl fun h2 fl2 up=> ?_
 obtain ⟨u,K1,K3⟩:=hR I un k1 k3 fl2.1 up
 exact ⟨ea,cls,a0,B,H',rfl,os.trans I.os,bare,u,e9 hok k2 fl.1 fl2.1,hea,K1,k2,K3,fl2,hE⟩
def oi (E:XK) (C:Addr) (te:TE):TS:=fun _ σ H=> te σ H fun _ H1=> E (.ref C) none H1
theorem kr {x:Str} {C:Addr} {e0:Expr} {te:TE} {np cpos pos:Pos} (hex:excIn K C [.type "ValueError",.type "Exception",.type "BaseException",.type "object"] "ValueError.__new__"=true)
  (hg:Gl (cU (CXF P w) P w K mg base N qual scope f cd A outer s H E) x) (hm:mg x=some (.ref C)) (he:PE (cU (CXF P w) P w K mg base N qual scope f cd A outer s H E) e0 te)
  (hst:starEach [e0] (cU (CXF P w) P w K mg base N qual scope f cd A outer s H E).env=[(false,eval e0 (cU (CXF P w) P w K mg base N qual scope f cd A outer s H E).env)]:=by rfl) (hd:(x==("__debug__":Str))=false:=by decide):
  PS (cU (CXF P w) P w K mg base N qual scope f cd A outer s H E) (.Raise (some (.Call (.Name x np) [e0] [] cpos)) none pos) (oi E C te):=by
 intro pins s1 σ H1 D I h
 have O:=ml I.ok.mod.kin hm hex
 obtain ⟨tl,NN,nm,q,bs,hdct,sn,sub,ab,col,dd,k0,k1,k2,k3,k5,mN,hC,hN,hni,T⟩:=O.obj
 have hpl:(backTo cpos (starEach [e0] (cU (CXF P w) P w K mg base N qual scope f cd A outer s H E).env)).any (·.1)=false:=by rw [hst]; rfl
 refine wpAny_Raise_call_subT (C:=C) (nm:=nm) (q:=q) (N:=NN) (bs:=bs) (bm:=tl) (hdct:=hdct) (sn:=sn) (sub:=sub) (ab:=ab) (col:=col) (dd:=dd) (k0:=k0) (k1:=k1) (k2:=k2) (k3:=k3) (k5:=k5)
  PySem.F.excBase_ValueError (mN:=mN) (T.hasType PySem.F.excBase_ValueError.hasBase) (I.ok.hd rfl) hpl hni (d8 I hg hm ⟨rfl,?_⟩ hd)
 rw [hst]
 refine Calls.evalArgs_plain ?_
 show wpAny _ _ (spliced ((false,eval e0 _)::backTo cpos [])) _ _ s1
 refine Calls.spliced_cons (thn (he pins s1 σ H1 _ I h) fun v s2 ⟨y,H2,I2,r2,hE⟩=> Calls.spliced_nil ⟨rfl,by show 1≤sizeLine; decide,I2.bk _ _ hC,hN.keeps I2.bk,T.keeps I2.bk,fun h' e hx=> ?_⟩)
 show wpAny _ _ (leaving (envOfC qual scope s.heap.objs.size f cd) (.ref e)) _ _ { s2 with heap:=h' }
 have stk:s2.heap.FunFrames base (envOfC qual scope s.heap.objs.size f cd::outer):=I2.stack
 refine wpAny_leaves_madeW (base:=hideAll s2.heap (frs (envOfC qual scope s.heap.objs.size f cd::outer))) (h:=s2.heap) (L:=s.heap.objs.size) I2.ok.frames rfl (fun b o q=> of_hideAll _ q)
  (funFrames_hide stk fun env he b hb=> List.mem_filterMap.mpr ⟨env,he,hb⟩) hx fun h2 t fl _ _ up=> ?_
 have k2':∀ b u,H2 b=some u→∃ o,(hideAll s2.heap (frs (envOfC qual scope s.heap.objs.size f cd::outer))).get? b=some o:=fun b u e=> by
  obtain ⟨ob,hob⟩:=gt (I2.hok b u e)
  exact ⟨ob,hideAll_get _ hob fun z=> by have:=I2.stkFree b z; rw [e] at this; cases this⟩
 obtain ⟨u,K1,K3⟩:=hR (h1:=h') I2 (Un.kept hx.keeps) (fun b o e hb _=> hideAll_get _ e hb) (fun b o e hb=> ⟨o,hideAll_get _ e hb⟩) fl.1 up
 refine ⟨e,.ref C,.ref t,_,H2,rfl,I2.os,I2.bare,u,e9 (h:=s2.heap) I2.hok k2' (fun b o q=> of_hideAll _ q) fl.1,?_,K1,k2',K3,fl,hE⟩
 cases z:H2 e with
 | none=> rfl
 | some u=>
  obtain ⟨ob,hob⟩:=gt (I2.hok e u z)
  rw [hx.new] at hob; cases hob
end
theorem Fun.okF {P:Program} {w:World} {K:Frag} {mg:Str→Option Value} {base:Heap} {x qual:Str} {st:Stmt} {f:Addr} {fd:FuncData} {N ps:List Str} {k:Nat} {sp:Sp} (F:Fun K x qual st f fd) (S:av N ps (ah st)) (len:∀ vs H Q E,sp vs H Q E→vs.length=ps.length)
  (hbody:∀ (cdv:Value) (A:Around) (outer:List Env) (s:Shared) (H:Hp) (vs:List V) (Q:VK) (E:XK),cG k (A.deeper (envOfC qual (ah st) s.heap.objs.size f cdv))→sp vs H Q E→
   ∃ t,PSs (cU (CXF P w) P w K mg base N qual (ah st) f cdv A outer s H E) (aq st) t∧t { nx:=fun _ H'=> Q .non H',rt:=Q } (start N vs) H):aS P w K mg base (CXF P w) (k+1) f fd ps sp:=by
 obtain ⟨oc,od,kV,doc,pm,an,cdv,ct,osl,rfl,lk,hcd⟩:=F.ex
 exact pE lk hcd S len fun A outer s H vs Q E hr hsp=> hbody cdv A outer s H vs Q E hr hsp
end L2
namespace L2
open PySem PySem.Spec PySem.W PyProof.Rows
abbrev dn (X:Cx) (ea:Addr):Cx:={ X with A:=X.A.mark (some (.ref ea)),calm:=false,xe:=fun _ _=> False }
section
variable {X:Cx} {pins:List (Addr×Obj)} {σ:St} {H:Hp} {s:Shared}
theorem Inv.hand (I:Inv X pins σ H s) (ea:Addr):Inv (dn X ea) pins σ H s:=
 ⟨⟨I.ok.mod,I.ok.kind,I.ok.glob,I.ok.blt,I.ok.above,I.ok.inj,I.ok.has,I.ok.cab,fun h=> (by cases h),I.ok.frames,I.ok.stk,I.ok.exf,I.ok.bs,I.ok.bsz,I.ok.noex,I.ok.exfs,I.ok.funs,I.ok.frf⟩,
  I.os,I.bare,I.base,I.loc,I.cell,I.free,I.freeC,I.pin,I.hok,I.len⟩
theorem Inv.unhand {ea:Addr} (hd:X.calm=true→X.A.handled=none) (I:Inv (dn X ea) pins σ H s):Inv X pins σ H s:=
 ⟨⟨I.ok.mod,I.ok.kind,I.ok.glob,I.ok.blt,I.ok.above,I.ok.inj,I.ok.has,I.ok.cab,hd,I.ok.frames,I.ok.stk,I.ok.exf,I.ok.bs,I.ok.bsz,I.ok.noex,I.ok.exfs,I.ok.funs,I.ok.frf⟩,
  I.os,I.bare,I.base,I.loc,I.cell,I.free,I.freeC,I.pin,I.hok,I.len⟩
theorem SP.unhand {ea:Addr} {D:fF} {f:Flow} {s':Shared} (hd:X.calm=true→X.A.handled=none) (h:SP (dn X ea) pins D f s'):SP X pins D f s':=by
 cases f with
 | next=> obtain ⟨σ',H',I,q⟩:=h; exact ⟨σ',H',I.unhand hd,q⟩
 | brk=> obtain ⟨σ',H',I,q⟩:=h; exact ⟨σ',H',I.unhand hd,q⟩
 | cont=> obtain ⟨σ',H',I,q⟩:=h; exact ⟨σ',H',I.unhand hd,q⟩
 | ret u=> obtain ⟨v,σ',H',I,r,q⟩:=h; exact ⟨v,σ',H',I.unhand hd,r,q⟩
end
section
variable {X:Cx}
end
end L2
namespace L2
open PySem PySem.Spec PyProof.Rows
theorem gc {n:Nat} {e:Nat→Bool}:(List.range n).all e=true↔∀ j,j < n→e j=true:=by
 rw [List.all_eq_true]
 exact ⟨fun h j hj=> h j (List.mem_range.mpr hj),fun h j hj=> h j (List.mem_range.mp hj)⟩
section
variable {X:Cx}
end
end L2
namespace PySem.W
open PySem PySem.Spec PySem.Calls PyProof.Rows PySem.Builtin PySem.Builtin.ObjectAttr PySem.Builtin.Getset_descriptor
section
variable {prog:Program} {w:World} {A:Around} {E:Value→Shared→Prop} {s:Shared} {K:Frag} {x C:Addr}
def OfCls (x C:Addr) (h:Heap):Prop:=∃ o,h.get? x=some o∧o.cls=.ref C
theorem OfCls.type {M:Model} {h:Heap} (I:OfCls x C h):Looks M h (typeOf (.ref x)) (.ref C):=by
 obtain ⟨o,h1,h2⟩:=I
 exact h2 ▸ (Looks.ld h1).andThen .now
theorem n5 {tp:Value} {R:Result→Shared→Prop} (X:K.In s.heap) (I:OfCls x C s.heap) (hm:mroIn K C (.type "object")=some true)
  (h:R (.ok (.ret (.ref C))) s):codeAny (model prog w) A (.call (.builtin "getset_descriptor.__get__") ⟨[.builtin "object.__class__",.ref x,tp],[]⟩) R s:=by
 obtain ⟨hh,g,dr,t,os⟩:=s
 have L0:=I.type (M:=model prog w)
 have L1:=looks_mroIn (M:=model prog w) X hm
 refine codeAny_call_builtin KF.slot_gs.plain KF.entry_gs (KF.slot_gs.check _ _ _ _ _ _ _ _ KF.type_class (KF.args_gs _ _ _) ?_)
 unfold Builtin.«getset_descriptor.__get__» descrGet
 rw [dga_obj]
 refine wpAny_bind (wpAny_pure ?_)
 unfold descrGetter descrCheckInstance descrNameAndClass isInstance
 simp only [KF.owner_class]
 repeat lk
 refine ⟨Code.quiet_builtin _ (by decide+kernel),codeAny_builtin KF.entry_class ?_⟩
 unfold Builtin.«object.__class__» shownTypeOf
 repeat lk
 exact h
theorem lY {M:Model} {h:Heap} {name:Str} {a g:Value} (X:K.In h) (ha:findIn K (.ref C) name=some (some a)) (hg:specialIn K a "__get__"=some (some g)) (ht:takesIn K a=some true):
  Looks M h (find (.ref x) (.ref C) name) (.bind g a):=by
 have L1:=looks_findIn (M:=M) X ha
 have L2:Looks M h (getOf (some a)) (some g):=looks_specialIn X hg
 have L3:=looks_takesIn (M:=M) X ht
 exact L1.andThen (L2.andThen ((show Looks M h (dataDescriptor? (some a) (some g)) (some (g,a)) from L3.andThen .now).andThen (Looks.tag .now)))
variable (hga:findIn K (.ref C) "__getattribute__"=some (some (.builtin "BaseException.__getattribute__"))) (hgn:findIn K (.ref C) "__getattr__"=some none) (ha:findIn K (.ref C) "__class__"=some (some (.builtin "object.__class__")))
 (hn:specialIn K (.builtin "object.__class__") "__get__"=some (some (.builtin "getset_descriptor.__get__"))) (htk:takesIn K (.builtin "object.__class__")=some true) (hm:mroIn K C (.type "object")=some true) (hmB:mroIn K C (.type "BaseException")=some true)
include ha hn htk hm in
theorem kc {tk:Tok} {Q:Fin→Shared→Prop} (X:K.In s.heap) (I:OfCls x C s.heap) (hq:Q (.done (.ret (.ref C))) s):
  wpAny (model prog w) A (Builtin.«object.__getattribute__» ⟨[.ref x,.str "__class__" tk],[]⟩) Q E s:=by
 have L0:=I.type (M:=model prog w)
 have L1:=lY (M:=model prog w) (x:=x) X ha hn htk
 obtain ⟨hh,g,dr,t,os⟩:=s
 unfold Builtin.«object.__getattribute__»
 refine wpAny_bind (wpAny_pure ?_)
 refine wpAny_bind (wpAny_pure (wpAny_bind (L0.at (wpAny_bind (L1.at ?_)))))
 show wpAny _ _ (bindTo _ _ _ _) _ _ _
 unfold bindTo
 show wpAny _ _ (holding [_] (call _ [_,_,_]) >>=ret) _ _ _
 refine wpAny_bind (wpAny_holding (wpAny_call (n5 X I hm ?_)))
 exact wpAny_pure hq
include hmB in
theorem j8 {nameV:Value} {M:Model} {Q:Unit→Shared→Prop} (X:K.In s.heap) (I:OfCls x C s.heap) (hq:Q () s):wpAny M A (checkBuiltinCall "BaseException.__getattribute__" ⟨[.ref x,nameV],[]⟩) Q E s:=by
 have hk:builtinKind "BaseException.__getattribute__"=some .slot:=by decide+kernel
 have hsplit:splitId "BaseException.__getattribute__"=some ("BaseException","__getattribute__"):=by decide+kernel
 have ha':=F.args_bexc_ga (.ref x) nameV
 have L:Looks M s.heap (isInstance (.ref x) (.type "BaseException")) true:=I.type.andThen (looks_mroIn X hmB)
 obtain ⟨hh,g,dr,t,os⟩:=s
 simp only [checkBuiltinCall,hk,hsplit]
 refine wpAny_bind (L.at ?_)
 repeat (first | assumption | wp_step)
include hga hgn ha hn htk hm hmB
theorem mO {tk:Tok} {R:Result→Shared→Prop} (X:K.In s.heap) (I:OfCls x C s.heap) (hq:R (.ok (.ret (.ref C))) s):
  codeAny (model prog w) A (.call (.builtin "BaseException.__getattribute__") ⟨[.ref x,.str "__class__" tk],[]⟩) R s:=by
 exact codeAny_call_builtin F.excAttr_ValueError.ga.plain F.entry_bexc_ga (j8 hmB X I (kc ha hn htk hm X I hq))
theorem kD {Q:Option Value→Shared→Prop} (X:K.In s.heap) (I:OfCls x C s.heap) (h:Q (some (.ref C)) { s with toks:=s.toks+1 }):wpAny (model prog w) A (getAttr? (.ref x) "__class__") Q E s:=by
 obtain ⟨hh,g,d,t,os⟩:=s
 have L0:=I.type (M:=model prog w)
 have L1:=looks_findIn (M:=model prog w) X hga
 have L2:=looks_findIn (M:=model prog w) X hgn
 have f3:=F.excAttr_ValueError.ga.bind (.ref x)
 unfold getAttr? getAttrBy? getAttrBy
 refine wpAny_bind (wpAny_mkText (wpAny_bind (wpAny_attempt (wpAny_holding (wpAny_bind (L0.at (wpAny_bind (L1.at ?_))))))))
 show wpAny _ _ (getAttrByItsOwn _ _ _ _ _ _) _ _ _
 unfold getAttrByItsOwn
 refine wpAny_bind (L2.at ?_)
 refine wpAny_bind (wpAny_attempt (wpAny_holding ?_))
 show wpAny _ _ (boundAndCalled _ _ _) _ _ _
 unfold boundAndCalled
 rw [f3]
 refine wpAny_bind (wpAny_pure (wpAny_call ?_))
 exact mO hga hgn ha hn htk hm hmB X I (wpAny_pure (wpAny_pure h))
theorem lV (hc:(clsIn K C).isSome=true):KitX K (.ref x) (.ref C) (OfCls x C) where
 ty:=fun _ _ _ I=> I.type
 it:=fun _ _ X _=> by
  obtain ⟨cdD,hcD⟩:=Option.isSome_iff_exists.mp hc
  unfold clsIn at hcD
  split at hcD
  ·rename_i c' d' cd' sl' ho
   intro A' Q' E' s' k q
   unfold isType loadHead
   exact wpAny_bind (wpAny_loadPart (k _ _ (X _ _ ho)) (wpAny_pure q))
  ·cases hcD
 ne:=fun h tp dd its n sl X htp=> by
  obtain ⟨cdD,hcD⟩:=Option.isSome_iff_exists.mp hc
  refine Bool.eq_false_iff.mpr fun q=> ?_
  have e:C=tp:=Value.ref.inj (beq_iff_eq.mp q)
  subst e
  unfold clsIn at hcD
  split at hcD
  ·rename_i c' d' cd' sl' ho
   have z:=(X _ _ ho).symm.trans htp
   cases z
  ·cases hcD
 ca:=fun X I k=> kD hga hgn ha hn htk hm hmB X I k
end
theorem fw {K:Frag} {C:Addr} {v:Value} {b:Bool} (h:mroIn K C v=some b):(clsIn K C).isSome=true:=by
 obtain ⟨cd,e,_⟩:=Option.bind_eq_some_iff.mp h
 rw [e]; rfl
structure XcOk (K:Frag) (C:Addr):Prop where
 ga:findIn K (.ref C) "__getattribute__"=some (some (.builtin "BaseException.__getattribute__"))
 gn:findIn K (.ref C) "__getattr__"=some none
 at_:findIn K (.ref C) "__class__"=some (some (.builtin "object.__class__"))
 sp:specialIn K (.builtin "object.__class__") "__get__"=some (some (.builtin "getset_descriptor.__get__"))
 tk:takesIn K (.builtin "object.__class__")=some true
 mo:mroIn K C (.type "object")=some true
 mb:mroIn K C (.type "BaseException")=some true
theorem XcOk.kit {K:Frag} {x C:Addr} (h:XcOk K C):KitX K (.ref x) (.ref C) (OfCls x C):=lV h.ga h.gn h.at_ h.sp h.tk h.mo h.mb (fw h.mo)
theorem XcOk.off {x C:Addr} {h:Heap} {o:Obj} {T:String} (I:OfCls x C h) (e:h.get? x=some o) (c:o.cls=.type T):False:=by
 obtain ⟨o',e',c'⟩:=I
 rw [e] at e'; cases e'
 rw [c] at c'; cases c'
end PySem.W
namespace L2
open PySem PySem.Spec PyProof.Rows
inductive TyX where
 | nm (n:String) | xc (C:Addr)
inductive U where
 | non | bl (b:Bool) | int (i:Int) | str (x:Str) | ty (n:TyX) | dic | scr (xs:List U) | tup (xs:List U) | lst (xs:List U)
def U.items:U→Option (List U)
 | .scr xs=> some xs
 | .tup xs=> some xs
 | .lst xs=> some xs
 | _=> none
def hid (H:Hp) (O:List Addr):Hp:=fun b=> if b∈O then none else H b
theorem dU {H:Hp} {O:List Addr} {b:Addr} {o:HO} (h:hid H O b=some o):H b=some o∧b ∉ O:=by
 unfold hid at h
 split at h
 ·cases h
 ·exact ⟨h,by assumption⟩
theorem de {H:Hp} {O:List Addr} {b:Addr} {o:HO} (h:H b=some o) (n:b ∉ O):hid H O b=some o:=by
 unfold hid; rw [if_neg n]; exact h
theorem aJ {H:Hp} {O:List Addr}:aK (hid H O) H:=fun _ _ h=> (dU h).1
theorem a_ {H H':Hp} {O:List Addr} (e:aK H H'):aK (hid H O) (hid H' O):=fun _ _ h=> de (e _ _ (dU h).1) (dU h).2
theorem dq {H:Hp} {O O':List Addr} (e:∀ a∈O',a∈O):aK (hid H O) (hid H O'):=fun _ _ h=> de (dU h).1 fun z=> (dU h).2 (e _ z)
theorem bY {H H':Hp} {O:List Addr} {a:Addr} (e:aK H H') (n:H a=none):aK (hid H O) (hid H' (a::O)):=fun b o h=> by
 obtain ⟨h1,h2⟩:=dU h
 refine de (e _ _ h1) fun z=> ?_
 rcases List.mem_cons.mp z with y | y
 ·subst y; rw [n] at h1; cases h1
 ·exact h2 y
theorem gW {H:Hp} {O:List Addr} {a:Addr} {o:HO} (h:a∈O):hid (upd H a o) O=hid H O:=by
 funext b
 unfold hid
 split
 ·rfl
 ·rename_i n
  rw [aR fun e=> n (by rw [e]; exact h)]
inductive Rp (K:PySem.W.Frag) (H:Hp):V→U→Prop where
 | non:Rp K H .non .non
 | bl (b:Bool):Rp K H (.bl b) (.bl b)
 | int (i:Int):Rp K H (.int i) (.int i)
 | str (x:Str):Rp K H (.str x) (.str x)
 | ty (n:String):Rp K H (.ty n) (.ty (.nm n))
 | dic {a:Addr} {kvs:List (Key×V)} (h:H a=some (.dK kvs)):Rp K H (.ref a) .dic
 | xc {a C:Addr} (h:H a=some (.ext (PySem.W.OfCls a C))) (k:PySem.W.XcOk K C):Rp K H (.ref a) (.ty (.xc C))
 | scr {a:Addr} {vs:List V} {xs:List U} (h:SqL K H a vs) (hl:vs.length=xs.length) (hi:∀ (i:Nat) (v:V) (x:U),vs[i]?=some v→xs[i]?=some x→Rp K H v x):Rp K H (.ref a) (.scr xs)
 | tup {a:Addr} {vs:List V} {xs:List U} (h:SqT K H a vs) (hl:vs.length=xs.length) (hi:∀ (i:Nat) (v:V) (x:U),vs[i]?=some v→xs[i]?=some x→Rp K H v x):Rp K H (.ref a) (.tup xs)
 | lst {a:Addr} {vs:List V} {xs:List U} (h:H a=some (.lst vs)) (hl:vs.length=xs.length) (hi:∀ (i:Nat) (v:V) (x:U),vs[i]?=some v→xs[i]?=some x→Rp K H v x):Rp K H (.ref a) (.lst xs)
theorem Rp.same {K:PySem.W.Frag} {H H':Hp} {v:V} {u:U} (e:aK H H') (h:Rp K H v u):Rp K H' v u:=by
 induction h with
 | non=> exact .non
 | bl b=> exact .bl b
 | int i=> exact .int i
 | str x=> exact .str x
 | ty n=> exact .ty n
 | dic h=> exact .dic (e _ _ h)
 | xc h k=> exact .xc (e _ _ h) k
 | scr h hl hi ih=> exact .scr (e.seq h) hl ih
 | tup h hl hi ih=> exact .tup (e.tup h) hl ih
 | lst h hl hi ih=> exact .lst (e _ _ h) hl ih
structure Rps (K:PySem.W.Frag) (H:Hp) (vs:List V) (xs:List U):Prop where
 len:vs.length=xs.length
 at_:∀ (i:Nat) (v:V) (x:U),vs[i]?=some v→xs[i]?=some x→Rp K H v x
theorem Rps.same {K:PySem.W.Frag} {H H':Hp} {vs:List V} {xs:List U} (e:aK H H') (h:Rps K H vs xs):Rps K H' vs xs:=⟨h.len,fun i v x a b=> (h.at_ i v x a b).same e⟩
theorem Rps.nil {K:PySem.W.Frag} {H:Hp}:Rps K H [] []:=⟨rfl,fun i v x h=> by simp at h⟩
theorem Rps.cons {K:PySem.W.Frag} {H:Hp} {v:V} {x:U} {vs:List V} {xs:List U} (h:Rp K H v x) (t:Rps K H vs xs):Rps K H (v::vs) (x::xs):=by
 refine ⟨by simp [t.len],fun i a b h1 h2=> ?_⟩
 cases i with
 | zero=> simp at h1 h2; subst h1; subst h2; exact h
 | succ i=> exact t.at_ i a b (by simpa using h1) (by simpa using h2)
theorem Rps.snoc {K:PySem.W.Frag} {H:Hp} {vs ws:List V} {xs ys:List U} (h:Rps K H vs xs) (t:Rps K H ws ys):Rps K H (vs++ws) (xs++ys):=by
 refine ⟨by simp [h.len,t.len],fun i a b h1 h2=> ?_⟩
 by_cases hi:i < vs.length
 ·rw [List.getElem?_append_left hi] at h1
  rw [List.getElem?_append_left (by rw [← h.len]; exact hi)] at h2
  exact h.at_ i a b h1 h2
 ·have hle:vs.length≤i:=Nat.le_of_not_lt hi
  rw [List.getElem?_append_right hle] at h1
  rw [List.getElem?_append_right (by rw [← h.len]; exact hle),← h.len] at h2
  exact t.at_ _ a b h1 h2
theorem Rps.get {K:PySem.W.Frag} {H:Hp} {vs:List V} {xs:List U} {i:Nat} {x:U} (h:Rps K H vs xs) (e:xs[i]?=some x):∃ v,vs[i]?=some v∧Rp K H v x:=by
 have hi:i < vs.length:=by rw [h.len]; exact (List.getElem?_eq_some_iff.mp e).1
 exact ⟨vs[i],List.getElem?_eq_getElem hi,h.at_ i _ x (List.getElem?_eq_getElem hi) e⟩
theorem Rps.atI {K:PySem.W.Frag} {H:Hp} {vs:List V} {xs:List U} {i:Int} {x:U} (h:Rps K H vs xs) (e:L2.atI xs i=some x):∃ v,L2.atI vs i=some v∧Rp K H v x:=by
 unfold L2.atI at e ⊢
 rw [h.len]
 cases q:ixN xs.length i with
 | none=> rw [q] at e; cases e
 | some j=>
  rw [q] at e
  obtain ⟨v,h1,h2⟩:=h.get (show xs[j]?=some x from e)
  exact ⟨v,h1,h2⟩
theorem Rps.cons_inv {K:PySem.W.Frag} {H:Hp} {vs:List V} {x:U} {xs:List U} (h:Rps K H vs (x::xs)):∃ v ws,vs=v::ws∧Rp K H v x∧Rps K H ws xs:=by
 cases vs with
 | nil=> have:=h.len; simp at this
 | cons v ws=>
  refine ⟨v,ws,rfl,h.at_ 0 v x rfl rfl,by have:=h.len; simpa using this,fun i a b h1 h2=> h.at_ (i+1) a b (by simpa using h1) (by simpa using h2)⟩
theorem Rps.nil_inv {K:PySem.W.Frag} {H:Hp} {vs:List V} (h:Rps K H vs []):vs=[]:=List.length_eq_zero_iff.mp (by rw [h.len]; rfl)
inductive Sl where
 | val (u:U) | own (xs:List U) | pin (w:V) (u:U)
abbrev PSt:=List (Option Sl)
def lX (K:PySem.W.Frag) (H:Hp) (O O0:List Addr) (v:V):Sl→Prop
 | .val u=> Rp K (hid H O) v u
 | .own xs=> ∃ a vs,v=.ref a∧a∈O∧a ∉ O0∧H a=some (.lst vs)∧Rps K (hid H O) vs xs
 | .pin w u=> v=w∧Rp K (hid H O) v u
structure Rs (K:PySem.W.Frag) (H0:Hp) (O0:List Addr) (ps:PSt) (σ:St) (H:Hp) (O:List Addr):Prop where
 same:aK H0 H
 old:∀ a∈O0,a∈O
 new:∀ a∈O,a∈O0∨H0 a=none
 dom:∀ a∈O,H a≠none
 len:σ.length=ps.length
 at_:∀ (i:Nat) (s:Sl),ps[i]?=some (some s)→∃ v,σ[i]?=some (some v)∧lX K H O O0 v s
 inj:∀ (i j:Nat) (xs ys:List U) (a:Addr),ps[i]?=some (some (.own xs))→ps[j]?=some (some (.own ys))→σ[i]?=some (some (.ref a))→σ[j]?=some (some (.ref a))→i=j
section
variable {K:PySem.W.Frag} {H0 H H':Hp} {O0 O:List Addr} {ps:PSt} {σ:St}
theorem lX.same {v:V} {s:Sl} (e:aK H H') (h:lX K H O O0 v s):lX K H' O O0 v s:=by
 cases s with
 | val u=> exact Rp.same (a_ e) h
 | own xs=> obtain ⟨a,vs,h1,h2,h3,h4,h5⟩:=h; exact ⟨a,vs,h1,h2,h3,e _ _ h4,h5.same (a_ e)⟩
 | pin w u=> exact ⟨h.1,Rp.same (a_ e) h.2⟩
theorem Rs.go (R:Rs K H0 O0 ps σ H O) (e:aK H H'):Rs K H0 O0 ps σ H' O:=
 ⟨R.same.trans e,R.old,R.new,fun a ha z=> R.dom a ha (e.free z),R.len,fun i s h=> let ⟨v,h1,h2⟩:=R.at_ i s h; ⟨v,h1,h2.same e⟩,R.inj⟩
theorem di {α:Type} {xs:List α} {i j:Nat} {y x:α} (h:(xs.set i y)[j]?=some x):(i=j∧x=y)∨(i≠j∧xs[j]?=some x):=by
 by_cases e:i=j
 ·subst e
  rw [List.getElem?_set] at h
  simp at h
  exact .inl ⟨rfl,h.2.symm⟩
 ·rw [List.getElem?_set_ne e] at h
  exact .inr ⟨e,h⟩
theorem ej {α:Type} {xs:List α} {i:Nat} {y:α} (h:i < xs.length):(xs.set i y)[i]?=some y:=by rw [List.getElem?_set]; simp [h]
theorem bi {α:Type} {xs:List α} {i:Nat} {y:α} (h:xs[i]?=some y):i < xs.length:=(List.getElem?_eq_some_iff.mp h).1
theorem fS {i:Nat} {u:U} {j:Nat} {xs:List U} (h:(ps.set i (some (.val u)))[j]?=some (some (.own xs))):i≠j∧ps[j]?=some (some (.own xs)):=by
 rcases di h with ⟨_,e⟩ | h
 ·cases e
 ·exact h
theorem Rs.set {i:Nat} {v:V} {u:U} (R:Rs K H0 O0 ps σ H O) (r:Rp K (hid H O) v u):Rs K H0 O0 (ps.set i (some (.val u))) (σ.set i (some v)) H O:=by
 refine ⟨R.same,R.old,R.new,R.dom,by simp [R.len],fun j s h=> ?_,fun j k xs ys a h1 h2 h3 h4=> ?_⟩
 ·rcases di h with ⟨e,q⟩ | ⟨n,q⟩
  ·subst e
   cases q
   have hi:=bi h
   rw [List.length_set] at hi
   exact ⟨v,ej (by rw [R.len]; exact hi),r⟩
  ·obtain ⟨w,h1,h2⟩:=R.at_ j s q
   exact ⟨w,by rw [List.getElem?_set_ne n]; exact h1,h2⟩
 ·obtain ⟨n1,q1⟩:=fS h1
  obtain ⟨n2,q2⟩:=fS h2
  rw [List.getElem?_set_ne n1] at h3
  rw [List.getElem?_set_ne n2] at h4
  exact R.inj j k xs ys a q1 q2 h3 h4
theorem Rs.drop {i:Nat} {o:Option V} (R:Rs K H0 O0 ps σ H O):Rs K H0 O0 (ps.set i none) (σ.set i o) H O:=by
 have key:∀ {j:Nat} {s:Sl},(ps.set i none)[j]?=some (some s)→i≠j∧ps[j]?=some (some s):=fun {j s} h=> by
  rcases di h with ⟨_,e⟩ | h
  ·cases e
  ·exact h
 refine ⟨R.same,R.old,R.new,R.dom,by simp [R.len],fun j s h=> ?_,fun j k xs ys a h1 h2 h3 h4=> ?_⟩
 ·obtain ⟨n,q⟩:=key h
  obtain ⟨w,h1,h2⟩:=R.at_ j s q
  exact ⟨w,by rw [List.getElem?_set_ne n]; exact h1,h2⟩
 ·obtain ⟨n1,q1⟩:=key h1
  obtain ⟨n2,q2⟩:=key h2
  rw [List.getElem?_set_ne n1] at h3
  rw [List.getElem?_set_ne n2] at h4
  exact R.inj j k xs ys a q1 q2 h3 h4
theorem Rs.own {i:Nat} {a:Addr} {vs:List V} {xs:List U} (R:Rs K H0 O0 ps σ H O) (e:aK H H') (n:H a=none) (h:H' a=some (.lst vs)) (r:Rps K (hid H' (a::O)) vs xs):
  Rs K H0 O0 (ps.set i (some (.own xs))) (σ.set i (some (.ref a))) H' (a::O):=by
 have na:a ∉ O:=fun z=> R.dom a z n
 have na0:a ∉ O0:=fun z=> na (R.old a z)
 have n0:H0 a=none:=R.same.free n
 have noref:∀ (j:Nat) (ys:List U),ps[j]?=some (some (.own ys))→σ[j]?≠some (some (.ref a)):=fun j ys h1 h2=> by
  obtain ⟨v,h3,b,ws,h4,h5,_⟩:=R.at_ j _ h1
  rw [h2] at h3
  cases h3
  cases h4
  exact na h5
 refine ⟨R.same.trans e,fun b hb=> List.mem_cons_of_mem _ (R.old b hb),fun b hb=> ?_,fun b hb z=> ?_,by simp [R.len],fun j s q=> ?_,fun j k ys zs b h1 h2 h3 h4=> ?_⟩
 ·rcases List.mem_cons.mp hb with y | y
  ·subst y; exact .inr n0
  ·exact R.new b y
 ·rcases List.mem_cons.mp hb with y | y
  ·subst y; rw [h] at z; cases z
  ·exact R.dom b y (e.free z)
 ·rcases di q with ⟨e',q'⟩ | ⟨ne,q'⟩
  ·subst e'
   cases q'
   have hi:=bi q
   rw [List.length_set] at hi
   exact ⟨.ref a,ej (by rw [R.len]; exact hi),a,vs,rfl,List.mem_cons_self,na0,h,r⟩
  ·obtain ⟨w,h1,h2⟩:=R.at_ j s q'
   refine ⟨w,by rw [List.getElem?_set_ne ne]; exact h1,?_⟩
   cases s with
   | val u=> exact Rp.same (bY e n) h2
   | own ys=>
    obtain ⟨b,ws,k1,k2,k3,k4,k5⟩:=h2
    exact ⟨b,ws,k1,List.mem_cons_of_mem _ k2,k3,e _ _ k4,k5.same (bY e n)⟩
   | pin z u=> exact ⟨h2.1,Rp.same (bY e n) h2.2⟩
 ·rcases di h1 with ⟨e1,q1⟩ | ⟨n1,q1⟩ <;> rcases di h2 with ⟨e2,q2⟩ | ⟨n2,q2⟩
  ·rw [← e1,← e2]
  ·subst e1
   have hi:=bi h3
   rw [List.length_set] at hi
   rw [ej hi] at h3
   cases h3
   rw [List.getElem?_set_ne n2] at h4
   exact absurd h4 (noref k zs q2)
  ·subst e2
   have hi:=bi h4
   rw [List.length_set] at hi
   rw [ej hi] at h4
   cases h4
   rw [List.getElem?_set_ne n1] at h3
   exact absurd h3 (noref j ys q1)
  ·rw [List.getElem?_set_ne n1] at h3
   rw [List.getElem?_set_ne n2] at h4
   exact R.inj j k ys zs b q1 q2 h3 h4
theorem Rs.write {i:Nat} {a:Addr} {vs:List V} {xs ys:List U} (R:Rs K H0 O0 ps σ H O) (hp:ps[i]?=some (some (.own xs))) (hs:σ[i]?=some (some (.ref a))) (r:Rps K (hid H O) vs ys):
  Rs K H0 O0 (ps.set i (some (.own ys))) σ (upd H a (.lst vs)) O:=by
 obtain ⟨v,h1,b,ws,h2,h3,h4,h5,h6⟩:=R.at_ i _ hp
 rw [hs] at h1
 cases h1
 cases h2
 have h0:H0 a=none:=(R.new a h3).resolve_left h4
 have eh:hid (upd H a (.lst vs)) O=hid H O:=gW h3
 refine ⟨R.same.put h0 _,R.old,R.new,fun b hb z=> ?_,by simp [R.len],fun j s q=> ?_,fun j k zs us b q1 q2 q3 q4=> ?_⟩
 ·by_cases e:b=a
  ·subst e; rw [bf] at z; cases z
  ·rw [aR e] at z; exact R.dom b hb z
 ·rcases di q with ⟨e',q'⟩ | ⟨ne,q'⟩
  ·subst e'
   cases q'
   exact ⟨.ref a,hs,a,vs,rfl,h3,h4,bf,by rw [eh]; exact r⟩
  ·obtain ⟨w,k1,k2⟩:=R.at_ j s q'
   refine ⟨w,k1,?_⟩
   cases s with
   | val u=> exact (show Rp K (hid (upd H a (.lst vs)) O) w u by rw [eh]; exact k2)
   | own zs=>
    obtain ⟨b,us,e1,e2,e3,e4,e5⟩:=k2
    subst e1
    have:b≠a:=fun z=> by subst z; exact ne (R.inj i j xs zs b hp q' hs k1)
    exact ⟨b,us,rfl,e2,e3,by rw [aR this]; exact e4,by rw [eh]; exact e5⟩
   | pin z u=> exact ⟨k2.1,by rw [eh]; exact k2.2⟩
 ·have c1:∃ zs',ps[j]?=some (some (.own zs')):=by
   rcases di q1 with ⟨e,_⟩ | ⟨_,z⟩
   ·subst e; exact ⟨_,hp⟩
   ·exact ⟨_,z⟩
  have c2:∃ zs',ps[k]?=some (some (.own zs')):=by
   rcases di q2 with ⟨e,_⟩ | ⟨_,z⟩
   ·subst e; exact ⟨_,hp⟩
   ·exact ⟨_,z⟩
  obtain ⟨_,c1⟩:=c1
  obtain ⟨_,c2⟩:=c2
  exact R.inj j k _ _ b c1 c2 q3 q4
def SubP:PSt→PSt→Prop
 | [],[]=> True
 | none::p,_::q=> SubP p q
 | some s::p,t::q=> t=some s∧SubP p q
 | _,_=> False
theorem SubP.at_:∀ {p q:PSt},SubP p q→p.length=q.length∧∀ (i:Nat) (s:Sl),p[i]?=some (some s)→q[i]?=some (some s)
 | [],[],_=> ⟨rfl,fun i s h=> by simp at h⟩
 | none::p,t::q,h=> by
  obtain ⟨h1,h2⟩:=SubP.at_ (p:=p) (q:=q) h
  refine ⟨by simp [h1],fun i s e=> ?_⟩
  cases i with
  | zero=> simp at e
  | succ i=> exact h2 i s (by simpa using e)
 | some s0::p,t::q,h=> by
  obtain ⟨h0,h⟩:=h
  obtain ⟨h1,h2⟩:=SubP.at_ (p:=p) (q:=q) h
  refine ⟨by simp [h1],fun i s e=> ?_⟩
  cases i with
  | zero=> simp at e; subst e; rw [h0]; rfl
  | succ i=> exact h2 i s (by simpa using e)
 | [],_::_,h=> h.elim
 | none::_,[],h=> h.elim
 | some _::_,[],h=> h.elim
theorem Rs.sub {ps':PSt} (R:Rs K H0 O0 ps σ H O) (h:SubP ps' ps):Rs K H0 O0 ps' σ H O:=by
 obtain ⟨h1,h2⟩:=h.at_
 exact ⟨R.same,R.old,R.new,R.dom,R.len.trans h1.symm,fun i s e=> R.at_ i s (h2 i s e),fun i j xs ys a e1 e2=> R.inj i j xs ys a (h2 _ _ e1) (h2 _ _ e2)⟩
end
def Ev (X:Cx) (H0:Hp) (O0:List Addr) (ps:PSt) (e:Expr) (u:U):Prop:=
 PE X e fun σ H Q=> ∃ O,Rs X.K H0 O0 ps σ H O∧∀ v H',aK H H'→Rp X.K (hid H' O) v u→Q v H'
def EvN (X:Cx) (H0:Hp) (O0:List Addr) (ps:PSt) (e:Expr) (xs:List U):Prop:=
 PE X e fun σ H Q=> ∃ O,Rs X.K H0 O0 ps σ H O∧∀ a vs H',aK H H'→H a=none→H' a=some (.lst vs)→Rps X.K (hid H' (a::O)) vs xs→Q (.ref a) H'
def Tt (X:Cx) (H0:Hp) (O0:List Addr) (ps:PSt) (e:Expr) (b:Bool):Prop:=
 PT X e fun σ H Q=> ∃ O,Rs X.K H0 O0 ps σ H O∧∀ H',aK H H'→Q b H'
def Tw (X:Cx) (H0:Hp) (O0:List Addr) (ps:PSt) (e:Expr) (b:Bool):Prop:=
 PW X e fun σ H Q=> ∃ O,Rs X.K H0 O0 ps σ H O∧∀ H',aK H H'→Q b H'
def EvA (X:Cx) (H0:Hp) (O0:List Addr) (ps:PSt) (es:List Expr) (us:List U):Prop:=
 PA X es fun σ H Q=> ∃ O,Rs X.K H0 O0 ps σ H O∧∀ vs H',aK H H'→Rps X.K (hid H' O) vs us→Q vs H'
theorem PE.mono {X:Cx} {e:Expr} {t t':TE} (h:PE X e t) (m:∀ σ H Q,t' σ H Q→t σ H Q):PE X e t':=fun pins s σ H Q I q=> h pins s σ H Q I (m σ H Q q)
theorem PT.mono {X:Cx} {e:Expr} {t t':TT} (h:PT X e t) (m:∀ σ H Q,t' σ H Q→t σ H Q):PT X e t':=fun pins s σ H Q I q=> h pins s σ H Q I (m σ H Q q)
theorem PW.mono {X:Cx} {e:Expr} {t t':TT} (h:PW X e t) (m:∀ σ H Q,t' σ H Q→t σ H Q):PW X e t':=fun wh pins s σ H Q I q=> h wh pins s σ H Q I (m σ H Q q)
theorem PA.mono {X:Cx} {e:List Expr} {t t':TA} (h:PA X e t) (m:∀ σ H Q,t' σ H Q→t σ H Q):PA X e t':=fun pos pins s σ H Q I q=> h pos pins s σ H Q I (m σ H Q q)
theorem PS.mono {X:Cx} {e:Stmt} {t t':TS} (h:PS X e t) (m:∀ D σ H,t' D σ H→t D σ H):PS X e t':=fun pins s σ H D I q=> h pins s σ H D I (m D σ H q)
theorem PSs.mono {X:Cx} {e:List Stmt} {t t':TS} (h:PSs X e t) (m:∀ D σ H,t' D σ H→t D σ H):PSs X e t':=fun pins s σ H D I q=> h pins s σ H D I (m D σ H q)
section
variable {X:Cx} {H0:Hp} {O0:List Addr} {ps:PSt} {a b c e:Expr} {es:List Expr} {pos p:Pos} {u x y:U} {xs ys us:List U} {i j:Int}
theorem EvN.ev (h:EvN X H0 O0 ps e xs):Ev X H0 O0 ps e (.lst xs):=PE.mono h fun σ H Q ⟨O,R,k⟩=> ⟨O,R,fun a vs H' s n h r=> by
 have na:a ∉ O:=fun z=> R.dom a z n
 have less:aK (hid H' (a::O)) (hid H' O):=dq fun b hb=> List.mem_cons_of_mem _ hb
 exact k _ H' s (.lst (de h na) (r.same less).len (r.same less).at_)⟩
theorem aa (i:Nat) {x:Str} {u:U} (h:ps[i]?=some (some (.val u))) (hN:X.N[i]?=some x:=by rfl) (hv:Vis X.env.scope x:=by first | exact Or.inl rfl | exact Or.inr (Or.inl rfl) | exact Or.inr (Or.inr rfl)) (hd:(x==("__debug__":Str))=false:=by decide)
  (hcd:(x==("__classdict__":Str))=false:=by decide):Ev X H0 O0 ps (.Name x pos) u:=PE.mono (fQ hN hv hd hcd) fun σ H Q ⟨O,R,k⟩=> by
 obtain ⟨v,h1,h2⟩:=R.at_ i _ h
 exact ⟨v,h1,k v H (.refl H) h2⟩
theorem ag {i j pos}:Ev X H0 O0 ps (.Constant (.int i) j pos) (.int i):=PE.mono nG fun _ H _ ⟨_,_,k⟩=> k _ H (.refl H) (.int i)
theorem fY {i j pos}:Ev X H0 O0 ps (.Constant (.bool i) j pos) (.bl i):=PE.mono pj fun _ H _ ⟨_,_,k⟩=> k _ H (.refl H) (.bl i)
theorem gg {i j pos}:Ev X H0 O0 ps (.Constant (.str i) j pos) (.str i):=PE.mono oa fun _ H _ ⟨_,_,k⟩=> k _ H (.refl H) (.str i)
theorem bZ {x:Str} {n:String} {pos:Pos} (hg:Gl X x) (hm:X.mg x=none) (hv:bootBuiltins x=some (.type n)) (hn:x≠"__name__":=by decide) (hd:(x==("__debug__":Str))=false:=by decide):Ev X H0 O0 ps (.Name x pos) (.ty (.nm n)):=
 PE.mono (oP hg hm hv hn hd) fun _ H _ ⟨_,_,k⟩=> k _ H (.refl H) (.ty n)
theorem two {ta tb:TE} {σ:St} {H:Hp} {Q:VK} {O:List Addr} {r:R2} (R:Rs X.K H0 O0 ps σ H O)
  (ha:∀ σ H Q,(∃ O,Rs X.K H0 O0 ps σ H O∧∀ v H',aK H H'→Rp X.K (hid H' O) v x→Q v H')→ta σ H Q) (hb:∀ σ H Q,(∃ O,Rs X.K H0 O0 ps σ H O∧∀ v H',aK H H'→Rp X.K (hid H' O) v y→Q v H')→tb σ H Q)
  (h:∀ v w H',aK H H'→Rs X.K H0 O0 ps σ H' O→Rp X.K (hid H' O) v x→Rp X.K (hid H' O) w y→r v w H' Q):tOp r ta tb σ H Q:=
 ha σ H _ ⟨O,R,fun v H1 s1 r1=> hb σ H1 _ ⟨O,R.go s1,fun w H2 s2 r2=> h v w H2 (s1.trans s2) (R.go (s1.trans s2)) (r1.same (a_ s2)) r2⟩⟩
theorem mS {op:Operator} {g:Int→Int→Int} (ho:OpR X (binaryOp op) (rI0 fun i j=> .int (g i j))) (ha:Ev X H0 O0 ps a (.int i)) (hb:Ev X H0 O0 ps b (.int j)):Ev X H0 O0 ps (.BinOp a op b pos) (.int (g i j)):=
 PE.mono (kF ho ha hb) fun σ H Q ⟨O,R,k⟩=> two (x:=.int i) (y:=.int j) R (fun _ _ _ z=> z) (fun _ _ _ z=> z) fun v w H' s _ r1 r2=> by
  cases r1; cases r2; exact ⟨i,j,rfl,rfl,k _ H' s (.int _)⟩
theorem ip {op:Operator} {C:Int→Int→Prop} {g:Int→Int→Int} (ho:OpR X (binaryOp op) (rI C fun i j=> .int (g i j))) (ha:Ev X H0 O0 ps a (.int i)) (hb:Ev X H0 O0 ps b (.int j)) (hc:C i j):Ev X H0 O0 ps (.BinOp a op b pos) (.int (g i j)):=
 PE.mono (kF ho ha hb) fun σ H Q ⟨O,R,k⟩=> two (x:=.int i) (y:=.int j) R (fun _ _ _ z=> z) (fun _ _ _ z=> z) fun v w H' s _ r1 r2=> by
  cases r1; cases r2; exact ⟨i,j,rfl,rfl,hc,k _ H' s (.int _)⟩
theorem aV (ha:Ev X H0 O0 ps a (.int i)) (hb:Ev X H0 O0 ps b (.int j)):Ev X H0 O0 ps (.BinOp a .Add b pos) (.int (i+j)):=mS ow ha hb
theorem aY (ha:Ev X H0 O0 ps a (.int i)) (hb:Ev X H0 O0 ps b (.int j)):Ev X H0 O0 ps (.BinOp a .Sub b pos) (.int (i - j)):=mS nQ ha hb
theorem ar (ha:Ev X H0 O0 ps a (.int i)) (hb:Ev X H0 O0 ps b (.int j)) (hc:IntMulOk i j):Ev X H0 O0 ps (.BinOp a .Mult b pos) (.int (i * j)):=ip ms ha hb hc
theorem cF (ha:Ev X H0 O0 ps a (.int i)) (hb:Ev X H0 O0 ps b (.int j)) (hc:nh i j):Ev X H0 O0 ps (.BinOp a .FloorDiv b pos) (.int (i / j)):=ip kj ha hb hc
theorem nO (ha:Ev X H0 O0 ps a (.int i)) (hb:Ev X H0 O0 ps b (.int j)) (hc:m3 i j):Ev X H0 O0 ps (.BinOp a .FloorDiv b pos) (.int (i.fdiv j)):=ip kK ha hb hc
theorem bh (ha:Ev X H0 O0 ps a (.int i)) (hb:Ev X H0 O0 ps b (.int j)) (hc:0 < j):Ev X H0 O0 ps (.BinOp a .Mod b pos) (.int (i % j)):=ip nr ha hb hc
theorem cL (ha:Ev X H0 O0 ps a (.int i)) (hb:Ev X H0 O0 ps b (.int j)) (hc:oK i j):Ev X H0 O0 ps (.BinOp a .Pow b pos) (.int (i ^ j.toNat)):=ip ou ha hb hc
theorem bA (ha:Ev X H0 O0 ps a (.int i)):Ev X H0 O0 ps (.UnaryOp .USub a pos) (.int (-i)):=
 PE.mono (o4 oA ha) fun σ H Q ⟨O,R,k⟩=> ⟨O,R,fun v H' s r=> by cases r; exact ⟨i,rfl,k _ H' s (.int _)⟩⟩
end
end L2
namespace L2
open PySem PySem.Spec PyProof.Rows
mutual
def eqW:U→U→Bool
 | .non,.non=> true
 | .bl a,.bl b=> a==b
 | .bl a,.int j=> (if a then 1 else 0)==j
 | .int i,.bl b=> i==(if b then 1 else 0)
 | .int i,.int j=> i==j
 | .str a,.str b=> a==b
 | .tup xs,.tup ys=> eqWs xs ys
 | .lst xs,.lst ys=> eqWs xs ys
 | .lst xs,.scr ys=> eqWs xs ys
 | .scr xs,.lst ys=> eqWs xs ys
 | .scr xs,.scr ys=> eqWs xs ys
 | _,_=> false
def eqWs:List U→List U→Bool
 | [],[]=> true
 | x::xs,y::ys=> eqW x y && eqWs xs ys
 | _,_=> false
end
mutual
def okU:Nat→U→Bool
 | _,.ty _=> false
 | _,.dic=> false
 | 0,.tup _=> false
 | 0,.lst _=> false
 | 0,.scr _=> false
 | n+1,.tup xs=> okUs n xs
 | n+1,.lst xs=> okUs n xs
 | n+1,.scr xs=> okUs n xs
 | _,_=> true
def okUs:Nat→List U→Bool
 | _,[]=> true
 | n,x::xs=> okU n x && okUs n xs
end
theorem fj:∀ {n:Nat} {xs:List U} {i:Nat} {x:U},okUs n xs=true→xs[i]?=some x→okU n x=true
 | n,[],i,x,_,h=> by simp at h
 | n,y::xs,0,x,h,e=> by simp at e; subst e; simp [okUs] at h; exact h.1
 | n,y::xs,i+1,x,h,e=> by simp [okUs] at h; exact fj (i:=i) h.2 (by simpa using e)
theorem cm:∀ (xs ys:List U),((List.range (min xs.length ys.length)).all (fun j=> eqW (xs.getD j .non) (ys.getD j .non)) && xs.length==ys.length)=eqWs xs ys
 | [],[]=> rfl
 | [],y::ys=> by simp [eqWs]
 | x::xs,[]=> by simp [eqWs]
 | x::xs,y::ys=> by
  have ih:=cm xs ys
  rw [eqWs,← ih]
  simp only [List.length_cons,Nat.succ_min_succ]
  rw [List.range_succ_eq_map,List.all_cons,List.all_map]
  have e:((xs.length+1==ys.length+1))=(xs.length==ys.length):=by simp
  rw [e,Bool.and_assoc]
  rfl
theorem Rp.one {X:Cx} {pins:List (Addr×Obj)} {σ:St} {H:Hp} {s:Shared} (I:Inv X pins σ H s) {v:V} {x:U} (h:Rp X.K H v x):∀ {n:Nat} {y:U},Rp X.K H v y→okU n x=true→eqW x y=true:=by
 have key:∀ {vs ws:List V} {xs ys:List U},vs=ws→vs.length=xs.length→ws.length=ys.length→(∀ (i:Nat) (x y:U),xs[i]?=some x→ys[i]?=some y→eqW x y=true)→eqWs xs ys=true:=fun {vs ws xs ys} e h1 h2 hh=> by
  subst e
  rw [← cm,Bool.and_eq_true,gc]
  refine ⟨fun j hj=> ?_,by simp [← h1,← h2]⟩
  have j1:j < xs.length:=by omega
  have j2:j < ys.length:=by omega
  rw [List.getD_eq_getElem?_getD,List.getElem?_eq_getElem j1,List.getD_eq_getElem?_getD,List.getElem?_eq_getElem j2]
  exact hh j _ _ (List.getElem?_eq_getElem j1) (List.getElem?_eq_getElem j2)
 have key2:∀ {vs:List V} {xs ys:List U} {n:Nat},vs.length=xs.length→(∀ (i:Nat) (v:V) (x:U),vs[i]?=some v→xs[i]?=some x→∀ {n:Nat} {y:U},Rp X.K H v y→okU n x=true→eqW x y=true)→(∀ (i:Nat) (v:V) (y:U),vs[i]?=some v→ys[i]?=some y→Rp X.K H v y)→okUs n xs=true→
   ∀ (i:Nat) (x y:U),xs[i]?=some x→ys[i]?=some y→eqW x y=true:=fun {vs xs ys n} h1 ih hi ok i x y e1 e2=> by
  have hlt:i < vs.length:=by rw [h1]; exact bi e1
  exact ih i _ x (List.getElem?_eq_getElem hlt) e1 (hi i _ y (List.getElem?_eq_getElem hlt) e2) (fj ok e1)
 induction h with
 | non=> intro n y q _; cases q; rfl
 | bl b=> intro n y q _; cases q; simp [eqW]
 | int i=> intro n y q _; cases q; simp [eqW]
 | str i=> intro n y q _; cases q; simp [eqW]
 | ty=> intro n y q ok; simp [okU] at ok
 | dic=> intro n y q ok; simp [okU] at ok
 | xc=> intro n y q ok; simp [okU] at ok
 | @scr a vs xs hq hl hi ih=>
  intro n y q ok
  cases n with
  | zero=> simp [okU] at ok
  | succ n=>
   rw [okU] at ok
   cases q with
   | scr hq' hl' hi'=> rw [eqW]; have e:=I.list_inj hq hq'; subst e; exact key rfl hl hl' (key2 hl (fun i v x a b=> ih i v x a b) hi' ok)
   | lst hq' hl' hi'=> rw [eqW]; have e:=I.list_inj hq (SqL.of hq'); subst e; exact key rfl hl hl' (key2 hl (fun i v x a b=> ih i v x a b) hi' ok)
   | xc hq' kk=>
    exfalso
    obtain ⟨_,_,pl,_⟩:=I.list hq
    obtain ⟨o,n,e,c,_⟩:=pl
    exact PySem.W.XcOk.off (I.hok _ _ hq').1 e c
   | dic hq'=>
    exfalso
    obtain ⟨_,_,pl,_⟩:=I.list hq
    obtain ⟨o,n,e,c,_⟩:=pl
    obtain ⟨_,_,_,_,o',_,_,e',ex,_⟩:=I.hok _ _ hq'
    rw [e] at e'; cases e'
    rw [ex.1] at c; exact absurd (Value.type.inj c) (by decide)
   | tup hq' hl' hi'=>
    exfalso
    obtain ⟨_,_,pl,_⟩:=I.list hq
    obtain ⟨_,_,pt,_⟩:=I.tuple hq'
    exact SeqAt.ne_of_list_tuple pl.isList pt rfl
 | @tup a vs xs hq hl hi ih=>
  intro n y q ok
  cases n with
  | zero=> simp [okU] at ok
  | succ n=>
   rw [okU] at ok
   cases q with
   | tup hq' hl' hi'=> rw [eqW]; have e:=I.tuple_inj hq hq'; subst e; exact key rfl hl hl' (key2 hl (fun i v x a b=> ih i v x a b) hi' ok)
   | scr hq' hl' hi'=>
    exfalso
    obtain ⟨_,_,pl,_⟩:=I.list hq'
    obtain ⟨_,_,pt,_⟩:=I.tuple hq
    exact SeqAt.ne_of_list_tuple pl.isList pt rfl
   | lst hq' hl' hi'=>
    exfalso
    obtain ⟨_,_,pl,_⟩:=I.list (SqL.of hq')
    obtain ⟨_,_,pt,_⟩:=I.tuple hq
    exact SeqAt.ne_of_list_tuple pl.isList pt rfl
   | xc hq' kk=>
    exfalso
    obtain ⟨_,_,pt,_⟩:=I.tuple hq
    obtain ⟨o,e,c,_⟩:=pt
    exact PySem.W.XcOk.off (I.hok _ _ hq').1 e c
   | dic hq'=>
    exfalso
    obtain ⟨_,_,pt,_⟩:=I.tuple hq
    obtain ⟨o,e,c,_⟩:=pt
    obtain ⟨_,_,_,_,o',_,_,e',ex,_⟩:=I.hok _ _ hq'
    rw [e] at e'; cases e'
    rw [ex.1] at c; exact absurd (Value.type.inj c) (by decide)
 | @lst a vs xs hq hl hi ih=>
  intro n y q ok
  cases n with
  | zero=> simp [okU] at ok
  | succ n=>
   rw [okU] at ok
   cases q with
   | lst hq' hl' hi'=> rw [eqW]; have e:=I.list_inj (SqL.of hq) (SqL.of hq'); subst e; exact key rfl hl hl' (key2 hl (fun i v x a b=> ih i v x a b) hi' ok)
   | scr hq' hl' hi'=> rw [eqW]; have e:=I.list_inj (SqL.of hq) hq'; subst e; exact key rfl hl hl' (key2 hl (fun i v x a b=> ih i v x a b) hi' ok)
   | tup hq' hl' hi'=>
    exfalso
    obtain ⟨_,_,pl,_⟩:=I.list (SqL.of hq)
    obtain ⟨_,_,pt,_⟩:=I.tuple hq'
    exact SeqAt.ne_of_list_tuple pl.isList pt rfl
   | xc hq' kk=>
    exfalso
    rw [hq] at hq'; cases hq'
   | dic hq'=>
    exfalso
    rw [hq] at hq'; cases hq'
theorem IsU.list {X:Cx} {pins:List (Addr×Obj)} {σ:St} {H:Hp} {s:Shared} (I:Inv X pins σ H s) {a:Addr} {xs:List U} {vs:List V} (h:SqL X.K H a vs) (hl:vs.length=xs.length):∃ its:List Value,aQ vs its∧s.heap.IsList a its.toArray∧its.length=xs.length:=by
 obtain ⟨its,r,pl,_⟩:=I.list h
 exact ⟨its,r,pl.isList,by rw [← r.length,hl]⟩
theorem IsU.tup {X:Cx} {pins:List (Addr×Obj)} {σ:St} {H:Hp} {s:Shared} (I:Inv X pins σ H s) {a:Addr} {xs:List U} {vs:List V} (h:SqT X.K H a vs) (hl:vs.length=xs.length):∃ its:List Value,aQ vs its∧IsTup s.heap a its.toArray∧its.length=xs.length:=by
 obtain ⟨its,r,pl,_⟩:=I.tuple h
 exact ⟨its,r,pl,by rw [← r.length,hl]⟩
section
variable {X:Cx} {pins:List (Addr×Obj)} {σ:St} {H:Hp} {s:Shared}
theorem bE (I:Inv X pins σ H s) {n:Nat} {vs ws:List V} {xs ys:List U} {its its2:List Value} (r1:aQ vs its) (r2:aQ ws its2) (hl1:vs.length=xs.length) (hl2:ws.length=ys.length)
  (h1:∀ (i:Nat) (v:V) (x:U),vs[i]?=some v→xs[i]?=some x→Rp X.K H v x) (h2:∀ (i:Nat) (v:V) (x:U),ws[i]?=some v→ys[i]?=some x→Rp X.K H v x) (ok1:okUs n xs=true) (ok2:okUs n ys=true) {A:Around}
  (rc0:∀ (x y:U) (v w:V) (p q:Value),Rp X.K H v x→Rp X.K H w y→aP v p→aP w q→okU n x=true→okU n y=true→SeqAt.RcAt A.in1 s p q (eqW x y)) (hu:A.units+n+1 < cLine)
  (j:Nat) (j1:j < its.length) (j2:j < its2.length):SeqAt.EqAt A.in1 s its[j] its2[j] (eqW (xs.getD j .non) (ys.getD j .non)):=by
 have a1:j < vs.length:=by rw [r1.length]; exact j1
 have a2:j < ws.length:=by rw [r2.length]; exact j2
 have b1:j < xs.length:=by omega
 have b2:j < ys.length:=by omega
 rw [List.getD_eq_getElem?_getD,List.getElem?_eq_getElem b1,List.getD_eq_getElem?_getD,List.getElem?_eq_getElem b2,Option.getD_some,Option.getD_some]
 have R1:=h1 j vs[j] xs[j] (List.getElem?_eq_getElem a1) (List.getElem?_eq_getElem b1)
 have R2:=h2 j ws[j] ys[j] (List.getElem?_eq_getElem a2) (List.getElem?_eq_getElem b2)
 obtain ⟨u1,e1,q1⟩:=r1.get (List.getElem?_eq_getElem a1)
 obtain ⟨u2,e2,q2⟩:=r2.get (List.getElem?_eq_getElem a2)
 rw [List.getElem?_eq_getElem j1] at e1
 rw [List.getElem?_eq_getElem j2] at e2
 cases e1; cases e2
 have o1:=fj ok1 (List.getElem?_eq_getElem b1)
 have o2:=fj ok2 (List.getElem?_eq_getElem b2)
 generalize vs[j]=v at *
 generalize ws[j]=w at *
 generalize its[j]=p at *
 generalize its2[j]=q at *
 generalize xs[j]=x at *
 generalize ys[j]=y at *
 have main:=rc0 x y v w p q R1 R2 q1 q2 o1 o2
 have ref_ref:∀ (a b:Addr),p=.ref a→q=.ref b→SeqAt.EqAt A.in1 s p q (eqW x y):=fun a b ea eb=> by
  subst ea eb
  by_cases e:a=b
  ·subst e
   have e2:v=w:=q1.inj q2
   subst e2
   rw [R1.one I R2 o1]
   exact SeqAt.EqAt.same _
  ·exact SeqAt.EqAt.of_refs e main
 have hu1:A.in1.units < cLine:=by show A.units+1 < _; omega
 cases R1 with
 | non=>
  cases (show p=Value.none from q1)
  cases R2 with
  | non=> cases (show q=Value.none from q2); exact SeqAt.EqAt.same _
  | bl b=> cases (show q=Value.bool b from q2); exact SeqAt.EqAt.none_bool b
  | int i=> obtain ⟨t,rfl⟩:=(show ∃ t,q=Value.int i t from q2); exact SeqAt.EqAt.none_int i t
  | str i=> obtain ⟨t,rfl⟩:=(show ∃ t,q=Value.str i t from q2); exact SeqAt.EqAt.none_str i t
  | ty=> simp [okU] at o2
  | dic=> simp [okU] at o2
  | xc=> simp [okU] at o2
  | scr hq hl hi=> cases q2; obtain ⟨_,_,pl,_⟩:=IsU.list I hq hl; exact SeqAt.EqAt.none_list pl hu1
  | tup hq hl hi=> cases q2; obtain ⟨_,_,pl,_⟩:=IsU.tup I hq hl; exact SeqAt.EqAt.none_tuple pl hu1
  | lst hq hl hi=> cases q2; obtain ⟨_,_,pl,_⟩:=IsU.list I (SqL.of hq) hl; exact SeqAt.EqAt.none_list pl hu1
 | bl c=>
  cases (show p=Value.bool c from q1)
  cases R2 with
  | non=> cases (show q=Value.none from q2); exact SeqAt.EqAt.bool_none c
  | bl b=> cases (show q=Value.bool b from q2); exact SeqAt.EqAt.bool_bool c b
  | int i=> obtain ⟨t,rfl⟩:=(show ∃ t,q=Value.int i t from q2); exact SeqAt.EqAt.bool_int c i t
  | str i=> obtain ⟨t,rfl⟩:=(show ∃ t,q=Value.str i t from q2); exact SeqAt.EqAt.bool_str c i t
  | ty=> simp [okU] at o2
  | dic=> simp [okU] at o2
  | xc=> simp [okU] at o2
  | scr hq hl hi=> cases q2; obtain ⟨_,_,pl,_⟩:=IsU.list I hq hl; exact SeqAt.EqAt.bool_list c pl hu1
  | tup hq hl hi=> cases q2; obtain ⟨_,_,pl,_⟩:=IsU.tup I hq hl; exact SeqAt.EqAt.bool_tuple c pl hu1
  | lst hq hl hi=> cases q2; obtain ⟨_,_,pl,_⟩:=IsU.list I (SqL.of hq) hl; exact SeqAt.EqAt.bool_list c pl hu1
 | int c=>
  obtain ⟨t0,rfl⟩:=(show ∃ t,p=Value.int c t from q1)
  cases R2 with
  | non=> cases (show q=Value.none from q2); exact SeqAt.EqAt.int_none c t0
  | bl b=> cases (show q=Value.bool b from q2); exact SeqAt.EqAt.int_bool c t0 b
  | int i=> obtain ⟨t,rfl⟩:=(show ∃ t,q=Value.int i t from q2); exact SeqAt.EqAt.int_int c t0 i t
  | str i=> obtain ⟨t,rfl⟩:=(show ∃ t,q=Value.str i t from q2); exact SeqAt.EqAt.int_str c t0 i t
  | ty=> simp [okU] at o2
  | dic=> simp [okU] at o2
  | xc=> simp [okU] at o2
  | scr hq hl hi=> cases q2; obtain ⟨_,_,pl,_⟩:=IsU.list I hq hl; exact SeqAt.EqAt.int_list c t0 pl hu1
  | tup hq hl hi=> cases q2; obtain ⟨_,_,pl,_⟩:=IsU.tup I hq hl; exact SeqAt.EqAt.int_tuple c t0 pl hu1
  | lst hq hl hi=> cases q2; obtain ⟨_,_,pl,_⟩:=IsU.list I (SqL.of hq) hl; exact SeqAt.EqAt.int_list c t0 pl hu1
 | str c=>
  obtain ⟨t0,rfl⟩:=(show ∃ t,p=Value.str c t from q1)
  cases R2 with
  | non=> cases (show q=Value.none from q2); exact SeqAt.EqAt.str_none c t0
  | bl b=> cases (show q=Value.bool b from q2); exact SeqAt.EqAt.str_bool c t0 b
  | int i=> obtain ⟨t,rfl⟩:=(show ∃ t,q=Value.int i t from q2); exact SeqAt.EqAt.str_int c t0 i t
  | str i=> obtain ⟨t,rfl⟩:=(show ∃ t,q=Value.str i t from q2); exact SeqAt.EqAt.str_str c t0 i t
  | ty=> simp [okU] at o2
  | dic=> simp [okU] at o2
  | xc=> simp [okU] at o2
  | scr hq hl hi=> cases q2; obtain ⟨_,_,pl,_⟩:=IsU.list I hq hl; exact SeqAt.EqAt.str_list c t0 pl hu1
  | tup hq hl hi=> cases q2; obtain ⟨_,_,pl,_⟩:=IsU.tup I hq hl; exact SeqAt.EqAt.str_tuple c t0 pl hu1
  | lst hq hl hi=> cases q2; obtain ⟨_,_,pl,_⟩:=IsU.list I (SqL.of hq) hl; exact SeqAt.EqAt.str_list c t0 pl hu1
 | ty=> simp [okU] at o1
 | dic=> simp [okU] at o1
 | xc=> simp [okU] at o1
 | @scr a vs xs hq hl hi=>
  cases q1
  obtain ⟨_,_,pl,_⟩:=IsU.list I hq hl
  cases R2 with
  | non=> cases (show q=Value.none from q2); exact SeqAt.EqAt.list_none pl hu1
  | bl b=> cases (show q=Value.bool b from q2); exact SeqAt.EqAt.list_bool b pl hu1
  | int i=> obtain ⟨t,rfl⟩:=(show ∃ t,q=Value.int i t from q2); exact SeqAt.EqAt.list_int i t pl hu1
  | str i=> obtain ⟨t,rfl⟩:=(show ∃ t,q=Value.str i t from q2); exact SeqAt.EqAt.list_str i t pl hu1
  | ty=> simp [okU] at o2
  | dic=> simp [okU] at o2
  | xc=> simp [okU] at o2
  | scr=> exact ref_ref _ _ rfl q2
  | tup=> exact ref_ref _ _ rfl q2
  | lst=> exact ref_ref _ _ rfl q2
 | @lst a vs xs hq hl hi=>
  cases q1
  obtain ⟨_,_,pl,_⟩:=IsU.list I (SqL.of hq) hl
  cases R2 with
  | non=> cases (show q=Value.none from q2); exact SeqAt.EqAt.list_none pl hu1
  | bl b=> cases (show q=Value.bool b from q2); exact SeqAt.EqAt.list_bool b pl hu1
  | int i=> obtain ⟨t,rfl⟩:=(show ∃ t,q=Value.int i t from q2); exact SeqAt.EqAt.list_int i t pl hu1
  | str i=> obtain ⟨t,rfl⟩:=(show ∃ t,q=Value.str i t from q2); exact SeqAt.EqAt.list_str i t pl hu1
  | ty=> simp [okU] at o2
  | dic=> simp [okU] at o2
  | xc=> simp [okU] at o2
  | scr=> exact ref_ref _ _ rfl q2
  | tup=> exact ref_ref _ _ rfl q2
  | lst=> exact ref_ref _ _ rfl q2
 | @tup a vs xs hq hl hi=>
  cases q1
  obtain ⟨_,_,pl,_⟩:=IsU.tup I hq hl
  cases R2 with
  | non=> cases (show q=Value.none from q2); exact SeqAt.EqAt.tuple_none pl hu1
  | bl b=> cases (show q=Value.bool b from q2); exact SeqAt.EqAt.tuple_bool b pl hu1
  | int i=> obtain ⟨t,rfl⟩:=(show ∃ t,q=Value.int i t from q2); exact SeqAt.EqAt.tuple_int i t pl hu1
  | str i=> obtain ⟨t,rfl⟩:=(show ∃ t,q=Value.str i t from q2); exact SeqAt.EqAt.tuple_str i t pl hu1
  | ty=> simp [okU] at o2
  | dic=> simp [okU] at o2
  | xc=> simp [okU] at o2
  | scr=> exact ref_ref _ _ rfl q2
  | tup=> exact ref_ref _ _ rfl q2
  | lst=> exact ref_ref _ _ rfl q2
theorem en {A:Around} {n:Nat} {a b:Addr} {xs ys:List U} {its its2:List Value} (p1:s.heap.IsList a its.toArray) (p2:s.heap.IsList b its2.toArray) (l1:its.length=xs.length) (l2:its2.length=ys.length) (hu:A.units+n < cLine)
  (he:∀ (j:Nat) (j1:j < its.length) (j2:j < its2.length),SeqAt.EqAt A.in1 s its[j] its2[j] (eqW (xs.getD j .non) (ys.getD j .non))):SeqAt.RcAt A s (.ref a) (.ref b) (eqWs xs ys):=by
 by_cases hl:its.length=its2.length
 ·have:=SeqAt.RcAt.lists (A:=A) (s:=s) (e:=fun j=> eqW (xs.getD j .non) (ys.getD j .non)) p1 p2 (by simpa using hl) (by omega) (fun j h1 h2=> by simpa using he j (by simpa using h1) (by simpa using h2))
  rw [← cm,← l1,← l2,hl,Nat.min_self,beq_self_eq_true,Bool.and_true]
  rwa [List.size_toArray,hl] at this
 ·have:=SeqAt.RcAt.lists_lengths (A:=A) (s:=s) p1 p2 (by simpa using hl) (by omega)
  rw [← cm,← l1,← l2,show (its.length==its2.length)=false by simpa using hl,Bool.and_false]
  exact this
theorem mx {A:Around} {n:Nat} {a b:Addr} {xs ys:List U} {its its2:List Value} (p1:IsTup s.heap a its.toArray) (p2:IsTup s.heap b its2.toArray) (l1:its.length=xs.length) (l2:its2.length=ys.length) (hu:A.units+n < cLine)
  (he:∀ (j:Nat) (j1:j < its.length) (j2:j < its2.length),SeqAt.EqAt A.in1 s its[j] its2[j] (eqW (xs.getD j .non) (ys.getD j .non))):SeqAt.RcAt A s (.ref a) (.ref b) (eqWs xs ys):=by
 have:=SeqAt.RcAt.tuples (A:=A) (s:=s) (e:=fun j=> eqW (xs.getD j .non) (ys.getD j .non)) p1 p2 (by omega) (fun j h1 h2=> by simpa using he j (by simpa using h1) (by simpa using h2))
 rw [List.size_toArray,List.size_toArray,l1,l2,cm] at this
 exact this
theorem oM (I:Inv X pins σ H s):∀ (n:Nat) (A:Around) (x y:U) (v w:V) (p q:Value),Rp X.K H v x→Rp X.K H w y→aP v p→aP w q→okU n x=true→okU n y=true→A.units+n < cLine→SeqAt.RcAt A s p q (eqW x y):=by
 intro n
 induction n with
 | zero=>
  intro A x y v w p q R1 R2 q1 q2 o1 o2 hu
  cases R1 with
  | non=>
   cases (show p=Value.none from q1)
   cases R2 with
   | non=> cases (show q=Value.none from q2); exact SeqAt.RcAt.none_none
   | bl b=> cases (show q=Value.bool b from q2); exact SeqAt.RcAt.none_bool b
   | int i=> obtain ⟨t,rfl⟩:=(show ∃ t,q=Value.int i t from q2); exact SeqAt.RcAt.none_int i t
   | str i=> obtain ⟨t,rfl⟩:=(show ∃ t,q=Value.str i t from q2); exact SeqAt.RcAt.none_str i t
   | _=> simp [okU] at o2
  | bl c=>
   cases (show p=Value.bool c from q1)
   cases R2 with
   | non=> cases (show q=Value.none from q2); exact SeqAt.RcAt.bool_none c
   | bl b=> cases (show q=Value.bool b from q2); exact SeqAt.RcAt.bool_bool c b
   | int i=> obtain ⟨t,rfl⟩:=(show ∃ t,q=Value.int i t from q2); exact SeqAt.RcAt.bool_int c i t
   | str i=> obtain ⟨t,rfl⟩:=(show ∃ t,q=Value.str i t from q2); exact SeqAt.RcAt.bool_str c i t
   | _=> simp [okU] at o2
  | int c=>
   obtain ⟨t0,rfl⟩:=(show ∃ t,p=Value.int c t from q1)
   cases R2 with
   | non=> cases (show q=Value.none from q2); exact SeqAt.RcAt.int_none c t0
   | bl b=> cases (show q=Value.bool b from q2); exact SeqAt.RcAt.int_bool c t0 b
   | int i=> obtain ⟨t,rfl⟩:=(show ∃ t,q=Value.int i t from q2); exact SeqAt.RcAt.int_int c t0 i t
   | str i=> obtain ⟨t,rfl⟩:=(show ∃ t,q=Value.str i t from q2); exact SeqAt.RcAt.int_str c t0 i t
   | _=> simp [okU] at o2
  | str c=>
   obtain ⟨t0,rfl⟩:=(show ∃ t,p=Value.str c t from q1)
   cases R2 with
   | non=> cases (show q=Value.none from q2); exact SeqAt.RcAt.str_none c t0
   | bl b=> cases (show q=Value.bool b from q2); exact SeqAt.RcAt.str_bool c t0 b
   | int i=> obtain ⟨t,rfl⟩:=(show ∃ t,q=Value.int i t from q2); exact SeqAt.RcAt.str_int c t0 i t
   | str i=> obtain ⟨t,rfl⟩:=(show ∃ t,q=Value.str i t from q2); exact SeqAt.RcAt.str_str c t0 i t
   | _=> simp [okU] at o2
  | _=> simp [okU] at o1
 | succ n ih=>
  intro A x y v w p q R1 R2 q1 q2 o1 o2 hu
  have hu1:A.units < cLine:=by omega
  have rc0:∀ (x y:U) (v w:V) (p q:Value),Rp X.K H v x→Rp X.K H w y→aP v p→aP w q→okU n x=true→okU n y=true→SeqAt.RcAt A.in1 s p q (eqW x y):=fun x y v w p q r1 r2 k1 k2 z1 z2=> ih A.in1 x y v w p q r1 r2 k1 k2 z1 z2 (by show A.units+1+n < _; omega)
  cases R1 with
  | non=>
   cases (show p=Value.none from q1)
   cases R2 with
   | non=> cases (show q=Value.none from q2); exact SeqAt.RcAt.none_none
   | bl b=> cases (show q=Value.bool b from q2); exact SeqAt.RcAt.none_bool b
   | int i=> obtain ⟨t,rfl⟩:=(show ∃ t,q=Value.int i t from q2); exact SeqAt.RcAt.none_int i t
   | str i=> obtain ⟨t,rfl⟩:=(show ∃ t,q=Value.str i t from q2); exact SeqAt.RcAt.none_str i t
   | ty=> simp [okU] at o2
   | dic=> simp [okU] at o2
   | xc=> simp [okU] at o2
   | scr hq hl hi=> cases q2; obtain ⟨_,_,pl,_⟩:=IsU.list I hq hl; exact SeqAt.RcAt.none_list pl hu1
   | tup hq hl hi=> cases q2; obtain ⟨_,_,pl,_⟩:=IsU.tup I hq hl; exact SeqAt.RcAt.none_tuple pl hu1
   | lst hq hl hi=> cases q2; obtain ⟨_,_,pl,_⟩:=IsU.list I (SqL.of hq) hl; exact SeqAt.RcAt.none_list pl hu1
  | bl c=>
   cases (show p=Value.bool c from q1)
   cases R2 with
   | non=> cases (show q=Value.none from q2); exact SeqAt.RcAt.bool_none c
   | bl b=> cases (show q=Value.bool b from q2); exact SeqAt.RcAt.bool_bool c b
   | int i=> obtain ⟨t,rfl⟩:=(show ∃ t,q=Value.int i t from q2); exact SeqAt.RcAt.bool_int c i t
   | str i=> obtain ⟨t,rfl⟩:=(show ∃ t,q=Value.str i t from q2); exact SeqAt.RcAt.bool_str c i t
   | ty=> simp [okU] at o2
   | dic=> simp [okU] at o2
   | xc=> simp [okU] at o2
   | scr hq hl hi=> cases q2; obtain ⟨_,_,pl,_⟩:=IsU.list I hq hl; exact SeqAt.RcAt.bool_list c pl hu1
   | tup hq hl hi=> cases q2; obtain ⟨_,_,pl,_⟩:=IsU.tup I hq hl; exact SeqAt.RcAt.bool_tuple c pl hu1
   | lst hq hl hi=> cases q2; obtain ⟨_,_,pl,_⟩:=IsU.list I (SqL.of hq) hl; exact SeqAt.RcAt.bool_list c pl hu1
  | int c=>
   obtain ⟨t0,rfl⟩:=(show ∃ t,p=Value.int c t from q1)
   cases R2 with
   | non=> cases (show q=Value.none from q2); exact SeqAt.RcAt.int_none c t0
   | bl b=> cases (show q=Value.bool b from q2); exact SeqAt.RcAt.int_bool c t0 b
   | int i=> obtain ⟨t,rfl⟩:=(show ∃ t,q=Value.int i t from q2); exact SeqAt.RcAt.int_int c t0 i t
   | str i=> obtain ⟨t,rfl⟩:=(show ∃ t,q=Value.str i t from q2); exact SeqAt.RcAt.int_str c t0 i t
   | ty=> simp [okU] at o2
   | dic=> simp [okU] at o2
   | xc=> simp [okU] at o2
   | scr hq hl hi=> cases q2; obtain ⟨_,_,pl,_⟩:=IsU.list I hq hl; exact SeqAt.RcAt.int_list c t0 pl hu1
   | tup hq hl hi=> cases q2; obtain ⟨_,_,pl,_⟩:=IsU.tup I hq hl; exact SeqAt.RcAt.int_tuple c t0 pl hu1
   | lst hq hl hi=> cases q2; obtain ⟨_,_,pl,_⟩:=IsU.list I (SqL.of hq) hl; exact SeqAt.RcAt.int_list c t0 pl hu1
  | str c=>
   obtain ⟨t0,rfl⟩:=(show ∃ t,p=Value.str c t from q1)
   cases R2 with
   | non=> cases (show q=Value.none from q2); exact SeqAt.RcAt.str_none c t0
   | bl b=> cases (show q=Value.bool b from q2); exact SeqAt.RcAt.str_bool c t0 b
   | int i=> obtain ⟨t,rfl⟩:=(show ∃ t,q=Value.int i t from q2); exact SeqAt.RcAt.str_int c t0 i t
   | str i=> obtain ⟨t,rfl⟩:=(show ∃ t,q=Value.str i t from q2); exact SeqAt.RcAt.str_str c t0 i t
   | ty=> simp [okU] at o2
   | dic=> simp [okU] at o2
   | xc=> simp [okU] at o2
   | scr hq hl hi=> cases q2; obtain ⟨_,_,pl,_⟩:=IsU.list I hq hl; exact SeqAt.RcAt.str_list c t0 pl hu1
   | tup hq hl hi=> cases q2; obtain ⟨_,_,pl,_⟩:=IsU.tup I hq hl; exact SeqAt.RcAt.str_tuple c t0 pl hu1
   | lst hq hl hi=> cases q2; obtain ⟨_,_,pl,_⟩:=IsU.list I (SqL.of hq) hl; exact SeqAt.RcAt.str_list c t0 pl hu1
  | ty=> simp [okU] at o1
  | dic=> simp [okU] at o1
  | xc=> simp [okU] at o1
  | @scr a vs xs hq hl hi=>
   cases q1
   obtain ⟨its,r1,pl,l1⟩:=IsU.list I hq hl
   rw [okU] at o1
   cases R2 with
   | non=> cases (show q=Value.none from q2); exact SeqAt.RcAt.list_none pl hu1
   | bl b=> cases (show q=Value.bool b from q2); exact SeqAt.RcAt.list_bool b pl hu1
   | int i=> obtain ⟨t,rfl⟩:=(show ∃ t,q=Value.int i t from q2); exact SeqAt.RcAt.list_int i t pl hu1
   | str i=> obtain ⟨t,rfl⟩:=(show ∃ t,q=Value.str i t from q2); exact SeqAt.RcAt.list_str i t pl hu1
   | ty=> simp [okU] at o2
   | dic=> simp [okU] at o2
   | xc=> simp [okU] at o2
   | scr hq' hl' hi'=> cases q2; rw [okU] at o2; obtain ⟨its2,r2,pl2,l2⟩:=IsU.list I hq' hl'; rw [eqW]; exact en pl pl2 l1 l2 hu (bE I r1 r2 hl hl' hi hi' o1 o2 rc0 (by omega))
   | lst hq' hl' hi'=> cases q2; rw [okU] at o2; obtain ⟨its2,r2,pl2,l2⟩:=IsU.list I (SqL.of hq') hl'; rw [eqW]; exact en pl pl2 l1 l2 hu (bE I r1 r2 hl hl' hi hi' o1 o2 rc0 (by omega))
   | tup hq' hl' hi'=> cases q2; obtain ⟨its2,r2,pl2,l2⟩:=IsU.tup I hq' hl'; exact SeqAt.RcAt.list_tuple pl pl2 hu1
  | @lst a vs xs hq hl hi=>
   cases q1
   obtain ⟨its,r1,pl,l1⟩:=IsU.list I (SqL.of hq) hl
   rw [okU] at o1
   cases R2 with
   | non=> cases (show q=Value.none from q2); exact SeqAt.RcAt.list_none pl hu1
   | bl b=> cases (show q=Value.bool b from q2); exact SeqAt.RcAt.list_bool b pl hu1
   | int i=> obtain ⟨t,rfl⟩:=(show ∃ t,q=Value.int i t from q2); exact SeqAt.RcAt.list_int i t pl hu1
   | str i=> obtain ⟨t,rfl⟩:=(show ∃ t,q=Value.str i t from q2); exact SeqAt.RcAt.list_str i t pl hu1
   | ty=> simp [okU] at o2
   | dic=> simp [okU] at o2
   | xc=> simp [okU] at o2
   | scr hq' hl' hi'=> cases q2; rw [okU] at o2; obtain ⟨its2,r2,pl2,l2⟩:=IsU.list I hq' hl'; rw [eqW]; exact en pl pl2 l1 l2 hu (bE I r1 r2 hl hl' hi hi' o1 o2 rc0 (by omega))
   | lst hq' hl' hi'=> cases q2; rw [okU] at o2; obtain ⟨its2,r2,pl2,l2⟩:=IsU.list I (SqL.of hq') hl'; rw [eqW]; exact en pl pl2 l1 l2 hu (bE I r1 r2 hl hl' hi hi' o1 o2 rc0 (by omega))
   | tup hq' hl' hi'=> cases q2; obtain ⟨its2,r2,pl2,l2⟩:=IsU.tup I hq' hl'; exact SeqAt.RcAt.list_tuple pl pl2 hu1
  | @tup a vs xs hq hl hi=>
   cases q1
   obtain ⟨its,r1,pl,l1⟩:=IsU.tup I hq hl
   rw [okU] at o1
   cases R2 with
   | non=> cases (show q=Value.none from q2); exact SeqAt.RcAt.tuple_none pl hu1
   | bl b=> cases (show q=Value.bool b from q2); exact SeqAt.RcAt.tuple_bool b pl hu1
   | int i=> obtain ⟨t,rfl⟩:=(show ∃ t,q=Value.int i t from q2); exact SeqAt.RcAt.tuple_int i t pl hu1
   | str i=> obtain ⟨t,rfl⟩:=(show ∃ t,q=Value.str i t from q2); exact SeqAt.RcAt.tuple_str i t pl hu1
   | ty=> simp [okU] at o2
   | dic=> simp [okU] at o2
   | xc=> simp [okU] at o2
   | scr hq' hl' hi'=> cases q2; obtain ⟨its2,r2,pl2,l2⟩:=IsU.list I hq' hl'; exact SeqAt.RcAt.tuple_list pl pl2 hu1
   | lst hq' hl' hi'=> cases q2; obtain ⟨its2,r2,pl2,l2⟩:=IsU.list I (SqL.of hq') hl'; exact SeqAt.RcAt.tuple_list pl pl2 hu1
   | tup hq' hl' hi'=> cases q2; rw [okU] at o2; obtain ⟨its2,r2,pl2,l2⟩:=IsU.tup I hq' hl'; rw [eqW]; exact mx pl pl2 l1 l2 hu (bE I r1 r2 hl hl' hi hi' o1 o2 rc0 (by omega))
end
end L2
namespace L2
open PySem PySem.Spec PyProof.Rows
section
variable {X:Cx} {pins:List (Addr×Obj)} {σ:St} {H:Hp} {s:Shared}
theorem dc {A:Around} {n:Nat} {a b:Addr} {xs ys:List U} {its its2:List Value} (p1:s.heap.IsList a its.toArray) (p2:s.heap.IsList b its2.toArray) (l1:its.length=xs.length) (l2:its2.length=ys.length) (hu:A.units+n < cLine)
  (he:∀ (j:Nat) (j1:j < its.length) (j2:j < its2.length),SeqAt.EqAt A.in1 s its[j] its2[j] (eqW (xs.getD j .non) (ys.getD j .non))):SeqAt.RcNeAt A s (.ref a) (.ref b) (!eqWs xs ys):=by
 by_cases hl:its.length=its2.length
 ·have:=SeqAt.RcNeAt.lists (A:=A) (s:=s) (e:=fun j=> eqW (xs.getD j .non) (ys.getD j .non)) p1 p2 (by simpa using hl) (by omega) (fun j h1 h2=> by simpa using he j (by simpa using h1) (by simpa using h2))
  rw [← cm,← l1,← l2,hl,Nat.min_self,beq_self_eq_true,Bool.and_true]
  rwa [List.size_toArray,hl] at this
 ·have:=SeqAt.RcNeAt.lists_lengths (A:=A) (s:=s) p1 p2 (by simpa using hl) (by omega)
  rw [← cm,← l1,← l2,show (its.length==its2.length)=false by simpa using hl,Bool.and_false]
  exact this
theorem jS {A:Around} {n:Nat} {a b:Addr} {xs ys:List U} {its its2:List Value} (p1:IsTup s.heap a its.toArray) (p2:IsTup s.heap b its2.toArray) (l1:its.length=xs.length) (l2:its2.length=ys.length) (hu:A.units+n < cLine)
  (he:∀ (j:Nat) (j1:j < its.length) (j2:j < its2.length),SeqAt.EqAt A.in1 s its[j] its2[j] (eqW (xs.getD j .non) (ys.getD j .non))):SeqAt.RcNeAt A s (.ref a) (.ref b) (!eqWs xs ys):=by
 have:=SeqAt.RcNeAt.tuples (A:=A) (s:=s) (e:=fun j=> eqW (xs.getD j .non) (ys.getD j .non)) p1 p2 (by omega) (fun j h1 h2=> by simpa using he j (by simpa using h1) (by simpa using h2))
 rw [List.size_toArray,List.size_toArray,l1,l2,cm] at this
 exact this
theorem nq (I:Inv X pins σ H s) (n:Nat) (A:Around) (x y:U) (v w:V) (p q:Value) (R1:Rp X.K H v x) (R2:Rp X.K H w y) (q1:aP v p) (q2:aP w q) (o1:okU (n+1) x=true) (o2:okU (n+1) y=true) (hu:A.units+(n+1) < cLine):SeqAt.RcNeAt A s p q (!eqW x y):=by
 have hu1:A.units < cLine:=by omega
 have rc0:∀ (x y:U) (v w:V) (p q:Value),Rp X.K H v x→Rp X.K H w y→aP v p→aP w q→okU n x=true→okU n y=true→SeqAt.RcAt A.in1 s p q (eqW x y):=fun x y v w p q r1 r2 k1 k2 z1 z2=> oM I n A.in1 x y v w p q r1 r2 k1 k2 z1 z2 (by show A.units+1+n < _; omega)
 cases R1 with
 | ty=> simp [okU] at o1
 | dic=> simp [okU] at o1
 | xc=> simp [okU] at o1
 | non=>
  cases (show p=Value.none from q1)
  cases R2 with
  | ty=> simp [okU] at o2
  | dic=> simp [okU] at o2
  | xc=> simp [okU] at o2
  | non=> cases (show q=Value.none from q2); exact SeqAt.RcNeAt.none_none
  | bl c2=> cases (show q=Value.bool c2 from q2); exact SeqAt.RcNeAt.none_bool c2
  | int c2=> obtain ⟨t2,rfl⟩:=(show ∃ t,q=Value.int c2 t from q2); exact SeqAt.RcNeAt.none_int c2 t2
  | str c2=> obtain ⟨t2,rfl⟩:=(show ∃ t,q=Value.str c2 t from q2); exact SeqAt.RcNeAt.none_str c2 t2
  | scr hq2 hl2 hi2=> cases q2; obtain ⟨its2,r2,pl2,l2⟩:=IsU.list I hq2 hl2; exact SeqAt.RcNeAt.none_list pl2 hu1
  | tup hq2 hl2 hi2=> cases q2; obtain ⟨its2,r2,pl2,l2⟩:=IsU.tup I hq2 hl2; exact SeqAt.RcNeAt.none_tuple pl2 hu1
  | lst hq2 hl2 hi2=> cases q2; obtain ⟨its2,r2,pl2,l2⟩:=IsU.list I (SqL.of hq2) hl2; exact SeqAt.RcNeAt.none_list pl2 hu1
 | bl c1=>
  cases (show p=Value.bool c1 from q1)
  cases R2 with
  | ty=> simp [okU] at o2
  | dic=> simp [okU] at o2
  | xc=> simp [okU] at o2
  | non=> cases (show q=Value.none from q2); exact SeqAt.RcNeAt.bool_none c1
  | bl c2=> cases (show q=Value.bool c2 from q2); exact SeqAt.RcNeAt.bool_bool c1 c2
  | int c2=> obtain ⟨t2,rfl⟩:=(show ∃ t,q=Value.int c2 t from q2); exact SeqAt.RcNeAt.bool_int c1 c2 t2
  | str c2=> obtain ⟨t2,rfl⟩:=(show ∃ t,q=Value.str c2 t from q2); exact SeqAt.RcNeAt.bool_str c1 c2 t2
  | scr hq2 hl2 hi2=> cases q2; obtain ⟨its2,r2,pl2,l2⟩:=IsU.list I hq2 hl2; exact SeqAt.RcNeAt.bool_list c1 pl2 hu1
  | tup hq2 hl2 hi2=> cases q2; obtain ⟨its2,r2,pl2,l2⟩:=IsU.tup I hq2 hl2; exact SeqAt.RcNeAt.bool_tuple c1 pl2 hu1
  | lst hq2 hl2 hi2=> cases q2; obtain ⟨its2,r2,pl2,l2⟩:=IsU.list I (SqL.of hq2) hl2; exact SeqAt.RcNeAt.bool_list c1 pl2 hu1
 | int c1=>
  obtain ⟨t1,rfl⟩:=(show ∃ t,p=Value.int c1 t from q1)
  cases R2 with
  | ty=> simp [okU] at o2
  | dic=> simp [okU] at o2
  | xc=> simp [okU] at o2
  | non=> cases (show q=Value.none from q2); exact SeqAt.RcNeAt.int_none c1 t1
  | bl c2=> cases (show q=Value.bool c2 from q2); exact SeqAt.RcNeAt.int_bool c1 t1 c2
  | int c2=> obtain ⟨t2,rfl⟩:=(show ∃ t,q=Value.int c2 t from q2); exact SeqAt.RcNeAt.int_int c1 t1 c2 t2
  | str c2=> obtain ⟨t2,rfl⟩:=(show ∃ t,q=Value.str c2 t from q2); exact SeqAt.RcNeAt.int_str c1 t1 c2 t2
  | scr hq2 hl2 hi2=> cases q2; obtain ⟨its2,r2,pl2,l2⟩:=IsU.list I hq2 hl2; exact SeqAt.RcNeAt.int_list c1 t1 pl2 hu1
  | tup hq2 hl2 hi2=> cases q2; obtain ⟨its2,r2,pl2,l2⟩:=IsU.tup I hq2 hl2; exact SeqAt.RcNeAt.int_tuple c1 t1 pl2 hu1
  | lst hq2 hl2 hi2=> cases q2; obtain ⟨its2,r2,pl2,l2⟩:=IsU.list I (SqL.of hq2) hl2; exact SeqAt.RcNeAt.int_list c1 t1 pl2 hu1
 | str c1=>
  obtain ⟨t1,rfl⟩:=(show ∃ t,p=Value.str c1 t from q1)
  cases R2 with
  | ty=> simp [okU] at o2
  | dic=> simp [okU] at o2
  | xc=> simp [okU] at o2
  | non=> cases (show q=Value.none from q2); exact SeqAt.RcNeAt.str_none c1 t1
  | bl c2=> cases (show q=Value.bool c2 from q2); exact SeqAt.RcNeAt.str_bool c1 t1 c2
  | int c2=> obtain ⟨t2,rfl⟩:=(show ∃ t,q=Value.int c2 t from q2); exact SeqAt.RcNeAt.str_int c1 t1 c2 t2
  | str c2=> obtain ⟨t2,rfl⟩:=(show ∃ t,q=Value.str c2 t from q2); exact SeqAt.RcNeAt.str_str c1 t1 c2 t2
  | scr hq2 hl2 hi2=> cases q2; obtain ⟨its2,r2,pl2,l2⟩:=IsU.list I hq2 hl2; exact SeqAt.RcNeAt.str_list c1 t1 pl2 hu1
  | tup hq2 hl2 hi2=> cases q2; obtain ⟨its2,r2,pl2,l2⟩:=IsU.tup I hq2 hl2; exact SeqAt.RcNeAt.str_tuple c1 t1 pl2 hu1
  | lst hq2 hl2 hi2=> cases q2; obtain ⟨its2,r2,pl2,l2⟩:=IsU.list I (SqL.of hq2) hl2; exact SeqAt.RcNeAt.str_list c1 t1 pl2 hu1
 | scr hq1 hl1 hi1=>
  cases q1; obtain ⟨its1,r1,pl1,l1⟩:=IsU.list I hq1 hl1
  cases R2 with
  | ty=> simp [okU] at o2
  | dic=> simp [okU] at o2
  | xc=> simp [okU] at o2
  | non=> cases (show q=Value.none from q2); exact SeqAt.RcNeAt.list_none pl1 hu1
  | bl c2=> cases (show q=Value.bool c2 from q2); exact SeqAt.RcNeAt.list_bool c2 pl1 hu1
  | int c2=> obtain ⟨t2,rfl⟩:=(show ∃ t,q=Value.int c2 t from q2); exact SeqAt.RcNeAt.list_int c2 t2 pl1 hu1
  | str c2=> obtain ⟨t2,rfl⟩:=(show ∃ t,q=Value.str c2 t from q2); exact SeqAt.RcNeAt.list_str c2 t2 pl1 hu1
  | scr hq2 hl2 hi2=> cases q2; obtain ⟨its2,r2,pl2,l2⟩:=IsU.list I hq2 hl2; rw [okU] at o1; rw [okU] at o2; rw [eqW]; exact dc pl1 pl2 l1 l2 hu (bE I r1 r2 hl1 hl2 hi1 hi2 o1 o2 rc0 (by omega))
  | tup hq2 hl2 hi2=> cases q2; obtain ⟨its2,r2,pl2,l2⟩:=IsU.tup I hq2 hl2; exact SeqAt.RcNeAt.list_tuple pl1 pl2 hu1
  | lst hq2 hl2 hi2=> cases q2; obtain ⟨its2,r2,pl2,l2⟩:=IsU.list I (SqL.of hq2) hl2; rw [okU] at o1; rw [okU] at o2; rw [eqW]; exact dc pl1 pl2 l1 l2 hu (bE I r1 r2 hl1 hl2 hi1 hi2 o1 o2 rc0 (by omega))
 | tup hq1 hl1 hi1=>
  cases q1; obtain ⟨its1,r1,pl1,l1⟩:=IsU.tup I hq1 hl1
  cases R2 with
  | ty=> simp [okU] at o2
  | dic=> simp [okU] at o2
  | xc=> simp [okU] at o2
  | non=> cases (show q=Value.none from q2); exact SeqAt.RcNeAt.tuple_none pl1 hu1
  | bl c2=> cases (show q=Value.bool c2 from q2); exact SeqAt.RcNeAt.tuple_bool c2 pl1 hu1
  | int c2=> obtain ⟨t2,rfl⟩:=(show ∃ t,q=Value.int c2 t from q2); exact SeqAt.RcNeAt.tuple_int c2 t2 pl1 hu1
  | str c2=> obtain ⟨t2,rfl⟩:=(show ∃ t,q=Value.str c2 t from q2); exact SeqAt.RcNeAt.tuple_str c2 t2 pl1 hu1
  | scr hq2 hl2 hi2=> cases q2; obtain ⟨its2,r2,pl2,l2⟩:=IsU.list I hq2 hl2; exact SeqAt.RcNeAt.tuple_list pl1 pl2 hu1
  | tup hq2 hl2 hi2=> cases q2; obtain ⟨its2,r2,pl2,l2⟩:=IsU.tup I hq2 hl2; rw [okU] at o1; rw [okU] at o2; rw [eqW]; exact jS pl1 pl2 l1 l2 hu (bE I r1 r2 hl1 hl2 hi1 hi2 o1 o2 rc0 (by omega))
  | lst hq2 hl2 hi2=> cases q2; obtain ⟨its2,r2,pl2,l2⟩:=IsU.list I (SqL.of hq2) hl2; exact SeqAt.RcNeAt.tuple_list pl1 pl2 hu1
 | lst hq1 hl1 hi1=>
  cases q1; obtain ⟨its1,r1,pl1,l1⟩:=IsU.list I (SqL.of hq1) hl1
  cases R2 with
  | ty=> simp [okU] at o2
  | dic=> simp [okU] at o2
  | xc=> simp [okU] at o2
  | non=> cases (show q=Value.none from q2); exact SeqAt.RcNeAt.list_none pl1 hu1
  | bl c2=> cases (show q=Value.bool c2 from q2); exact SeqAt.RcNeAt.list_bool c2 pl1 hu1
  | int c2=> obtain ⟨t2,rfl⟩:=(show ∃ t,q=Value.int c2 t from q2); exact SeqAt.RcNeAt.list_int c2 t2 pl1 hu1
  | str c2=> obtain ⟨t2,rfl⟩:=(show ∃ t,q=Value.str c2 t from q2); exact SeqAt.RcNeAt.list_str c2 t2 pl1 hu1
  | scr hq2 hl2 hi2=> cases q2; obtain ⟨its2,r2,pl2,l2⟩:=IsU.list I hq2 hl2; rw [okU] at o1; rw [okU] at o2; rw [eqW]; exact dc pl1 pl2 l1 l2 hu (bE I r1 r2 hl1 hl2 hi1 hi2 o1 o2 rc0 (by omega))
  | tup hq2 hl2 hi2=> cases q2; obtain ⟨its2,r2,pl2,l2⟩:=IsU.tup I hq2 hl2; exact SeqAt.RcNeAt.list_tuple pl1 pl2 hu1
  | lst hq2 hl2 hi2=> cases q2; obtain ⟨its2,r2,pl2,l2⟩:=IsU.list I (SqL.of hq2) hl2; rw [okU] at o1; rw [okU] at o2; rw [eqW]; exact dc pl1 pl2 l1 l2 hu (bE I r1 r2 hl1 hl2 hi1 hi2 o1 o2 rc0 (by omega))
end
end L2
namespace L2
open PySem PySem.Spec PyProof.Rows
def OpS (X:Cx) (f:Value→Value→Sem Value) (x y:U) (z:V):Prop:=OpR X f fun v w H Q=> Rp X.K H v x∧Rp X.K H w y∧Q z H
section
variable {X:Cx} {H0:Hp} {O0:List Addr} {ps:PSt} {a b c e:Expr} {es bq:List Expr} {pos p:Pos} {u x y:U} {xs ys us:List U} {i j:Int} {k m:Bool}
theorem Rp.out {K:PySem.W.Frag} {H:Hp} {O:List Addr} {v:V} {u:U} (h:Rp K (hid H O) v u):Rp K H v u:=h.same aJ
theorem cH {op:CmpOp} (ho:OpS X (compareOp op) x y (.bl k)) (ha:Ev X H0 O0 ps a x) (hb:Ev X H0 O0 ps b y) (hm:behindInMarks op b=false:=by first | exact j9 _ | with_unfolding_all rfl):Ev X H0 O0 ps (.Compare a [op] [b] pos) (.bl k):=
 PE.mono (mC ho ha hb hm) fun σ H Q ⟨O,R,q⟩=> two R (fun _ _ _ z=> z) (fun _ _ _ z=> z) fun v w H' s _ r1 r2=> ⟨r1.out,r2.out,q _ H' s (.bl _)⟩
theorem az {op:CmpOp} (ho:OpS X (compareOp op) x y (.bl k)) (ha:Ev X H0 O0 ps a x) (hb:Ev X H0 O0 ps b y) (hm:behindInMarks op b=false:=by first | exact j9 _ | with_unfolding_all rfl):Tt X H0 O0 ps (.Compare a [op] [b] pos) k:=
 PT.mono (mt ho ha hb hm) fun σ H Q ⟨O,R,q⟩=> two R (fun _ _ _ z=> z) (fun _ _ _ z=> z) fun v w H' s _ r1 r2=> ⟨r1.out,r2.out,_,rfl,q H' s⟩
theorem ka {op:CmpOp} {g:Int→Int→Bool} (ho:OpR X (compareOp op) (rI0 fun i j=> .bl (g i j))):OpS X (compareOp op) (.int i) (.int j) (.bl (g i j)):=by
 intro pins s σ H v w p q Q I r1 r2 h
 obtain ⟨h1,h2,h3⟩:=h
 cases h1; cases h2
 exact ho pins s σ H _ _ _ _ Q I r1 r2 ⟨i,j,rfl,rfl,h3⟩
theorem gI:OpS X (compareOp .Lt) (.int i) (.int j) (.bl (decide (i < j))):=ka pR
theorem p4:OpS X (compareOp .LtE) (.int i) (.int j) (.bl (decide (i≤j))):=ka pK
theorem ft:OpS X (compareOp .Gt) (.int i) (.int j) (.bl (decide (j < i))):=ka pA
theorem lM (hu:X.A.units+10 < cLine) (h1:okU 9 x=true) (h2:okU 9 y=true):OpS X (compareOp .Eq) x y (.bl (eqW x y)):=by
 intro pins s σ H v w p q Q I r1 r2 h
 obtain ⟨k1,k2,k3⟩:=h
 exact oM I 9 X.A x y v w p q k1 k2 r1 r2 h1 h2 (by omega) X.prog X.w _ _ (aL I k3 rfl)
theorem og (hu:X.A.units+10 < cLine) (h1:okU 9 x=true) (h2:okU 9 y=true):OpS X (compareOp .NotEq) x y (.bl (!eqW x y)):=by
 intro pins s σ H v w p q Q I r1 r2 h
 obtain ⟨k1,k2,k3⟩:=h
 exact nq I 8 X.A x y v w p q k1 k2 r1 r2 h1 h2 (by omega) X.prog X.w _ _ (aL I k3 rfl)
theorem aG:OpS X (compareOp .Eq) (.int i) (.int j) (.bl (decide (i=j))):=by
 intro pins s σ H v w p q Q I r1 r2 h
 obtain ⟨h1,h2,h3⟩:=h
 cases h1; cases h2
 exact pG pins s σ H _ _ _ _ Q I r1 r2 ⟨rfl,by rw [fi,← Bool.beq_eq_decide_eq] at *; simpa [Bool.beq_eq_decide_eq] using h3⟩
theorem m_:OpS X (compareOp .NotEq) (.int i) (.int j) (.bl (!decide (i=j))):=by
 intro pins s σ H v w p q Q I r1 r2 h
 obtain ⟨h1,h2,h3⟩:=h
 cases h1; cases h2
 exact o_ pins s σ H _ _ _ _ Q I r1 r2 ⟨rfl,by rw [fi]; simpa [Bool.beq_eq_decide_eq] using h3⟩
theorem bD (h:Ev X H0 O0 ps e (.bl k)) (he:∀ whole,isTrue e X.env whole=(do let v ← whole; standAt e.pos; holding [v] (truthy v)):=by intro _; rfl):Tt X H0 O0 ps e k:=
 PT.mono (nt h he) fun σ H Q ⟨O,R,q⟩=> ⟨O,R,fun v H' s r=> by cases r; exact ⟨_,rfl,q H' s⟩⟩
theorem bC (h:Tt X H0 O0 ps a k):Tt X H0 O0 ps (.UnaryOp .Not a pos) (!k):=PT.mono (nR h) fun σ H Q ⟨O,R,q⟩=> ⟨O,R,q⟩
theorem Tw.t (h:Tw X H0 O0 ps e k):Tt X H0 O0 ps e k:=h.pt
theorem kU (h:Tt X H0 O0 ps a k):Tw X H0 O0 ps (.BoolOp .Or [a] pos) k:=oo h
theorem mn (ha:Tt X H0 O0 ps a k) (hb:k=false→Tw X H0 O0 ps (.BoolOp .Or (b::bq) pos) m):Tw X H0 O0 ps (.BoolOp .Or (a::b::bq) pos) (k || m):=by
 cases k with
 | false=> exact PW.mono (m5 ha (hb rfl)) fun σ H Q ⟨O,R,q⟩=> ⟨O,R,fun H' s=> by exact i8 (⟨O,R.go s,fun H2 s2=> q H2 (s.trans s2)⟩)⟩
 | true=> exact PW.mono (m5 ha (fun _ _ _ _ _ _ _ h=> h.elim) (tB':=fun _ _ _=> False)) fun σ H Q ⟨O,R,q⟩=> ⟨O,R,fun H' s=> by exact iU (q H' s)⟩
theorem cN {op} (h:Ev X H0 O0 ps a u):Ev X H0 O0 ps (.BoolOp op [a] pos) u:=om h
theorem cw (ha:Ev X H0 O0 ps a (.bl k)) (hb:k=true→Ev X H0 O0 ps (.BoolOp .And (b::bq) pos) (.bl m)):Ev X H0 O0 ps (.BoolOp .And (a::b::bq) pos) (.bl (k && m)):=by
 cases k with
 | true=> exact PE.mono (lr ha (hb rfl)) fun σ H Q ⟨O,R,q⟩=> ⟨O,R,fun v H' s r=> by cases r; exact ⟨_,rfl,by exact iU (⟨O,R.go s,fun v H2 s2 r2=> q v H2 (s.trans s2) r2⟩)⟩⟩
 | false=> exact PE.mono (lr ha (fun _ _ _ _ _ _ h=> h.elim) (tb:=fun _ _ _=> False)) fun σ H Q ⟨O,R,q⟩=> ⟨O,R,fun v H' s r=> by cases r; exact ⟨_,rfl,by exact i8 (q _ H' s (.bl _))⟩⟩
theorem qh (ha:Ev X H0 O0 ps a (.bl k)) (hb:k=false→Ev X H0 O0 ps (.BoolOp .Or (b::bq) pos) (.bl m)):Ev X H0 O0 ps (.BoolOp .Or (a::b::bq) pos) (.bl (k || m)):=by
 cases k with
 | false=> exact PE.mono (mR ha (hb rfl)) fun σ H Q ⟨O,R,q⟩=> ⟨O,R,fun v H' s r=> by cases r; exact ⟨_,rfl,by exact i8 (⟨O,R.go s,fun v H2 s2 r2=> q v H2 (s.trans s2) r2⟩)⟩⟩
 | true=> exact PE.mono (mR ha (fun _ _ _ _ _ _ h=> h.elim) (tb:=fun _ _ _=> False)) fun σ H Q ⟨O,R,q⟩=> ⟨O,R,fun v H' s r=> by cases r; exact ⟨_,rfl,by exact iU (q _ H' s (.bl _))⟩⟩
theorem eW (ha:Ev X H0 O0 ps a (.bl k)):Ev X H0 O0 ps (.UnaryOp .Not a pos) (.bl (!k)):=PE.mono (nB ha) fun σ H Q ⟨O,R,q⟩=> ⟨O,R,fun v H' s r=> by cases r; exact ⟨_,rfl,q _ H' s (.bl _)⟩⟩
theorem aj:EvA X H0 O0 ps [] []:=PA.mono gL fun σ H Q ⟨O,R,q⟩=> q [] H (.refl H) .nil
theorem ac (ha:Ev X H0 O0 ps e u) (hr:EvA X H0 O0 ps es us) (hs:starEach (e::es) X.env=(false,eval e X.env)::starEach es X.env:=by rfl):EvA X H0 O0 ps (e::es) (u::us):=
 PA.mono (ei ha hr hs) fun σ H Q ⟨O,R,q⟩=> ⟨O,R,fun v H1 s1 r1=> ⟨O,R.go s1,fun vs H2 s2 r2=> q _ H2 (s1.trans s2) (.cons (r1.same (a_ s2)) r2)⟩⟩
theorem Rs.hidnew {K:PySem.W.Frag} {σ:St} {H:Hp} {O:List Addr} (R:Rs K H0 O0 ps σ H O) {p:Addr} {o:HO} (n:H p=none):hid (upd H p o) O p=some o:=de bf fun z=> R.dom p z n
theorem o3 {x1} (h:EvA X H0 O0 ps es us) (hz:us.length≤sizeLine:=by first | decide | (simp only [List.length_cons,List.length_nil]; decide)):Ev X H0 O0 ps (.Tuple es x1 pos) (.tup us):=
 PE.mono (n9 h) fun σ H Q ⟨O,R,q⟩=> ⟨O,R,fun vs H1 s1 r1=> ⟨by rw [r1.len]; exact hz,fun p hp=> by
  have s2:=bB hp (.tup vs)
  have r2:=r1.same (a_ (O:=O) s2)
  exact q _ _ (s1.trans s2) (.tup (SqT.of ((R.go s1).hidnew hp)) r2.len r2.at_)⟩⟩
theorem pL (h:EvA X H0 O0 ps es us) (hz:us.length≤sizeLine:=by first | decide | (simp only [List.length_cons,List.length_nil]; decide)):EvN X H0 O0 ps (.List es pos) us:=
 PE.mono (n8 h) fun σ H Q ⟨O,R,q⟩=> ⟨O,R,fun vs H1 s1 r1=> ⟨by rw [r1.len]; exact hz,fun p hp=> by
  exact q p vs _ (s1.trans (bB hp _)) (s1.free hp) bf (r1.same (bY (bB hp _) hp))⟩⟩
theorem am (ha:Ev X H0 O0 ps a x) (hb:Ev X H0 O0 ps b (.int i)) (hx:x.items=some xs) (hi:atI xs i=some u) (hs:gC b:=by intro _ _; rfl):Ev X H0 O0 ps (.Subscript a b pos) u:=
 PE.mono (m7 (jg.or ol) ha hb hs) fun σ H Q ⟨O,R,q⟩=> two (y:=.int i) R (fun _ _ _ z=> z) (fun _ _ _ z=> z) fun v w H' s _ r1 r2=> by
  cases r2
  cases r1 with
  | scr h hl hh=> cases hx; obtain ⟨z,h1,h2⟩:=Rps.atI ⟨hl,hh⟩ hi; exact .inl ⟨_,_,i,z,rfl,rfl,aJ.seq h,h1,q z H' s h2⟩
  | lst h hl hh=> cases hx; obtain ⟨z,h1,h2⟩:=Rps.atI ⟨hl,hh⟩ hi; exact .inl ⟨_,_,i,z,rfl,rfl,aJ.seq (SqL.of h),h1,q z H' s h2⟩
  | tup h hl hh=> cases hx; obtain ⟨z,h1,h2⟩:=Rps.atI ⟨hl,hh⟩ hi; exact .inr ⟨_,_,i,z,rfl,rfl,aJ.tup h,h1,q z H' s h2⟩
  | _=> cases hx
theorem jm (n:Nat) {x:Str} (h:ps[n]?=some (some (.own xs))) (hb:Ev X H0 O0 ps b (.int i)) (hi:atI xs i=some u) (hN:X.N[n]?=some x:=by rfl) (hv:Vis X.env.scope x:=by first | exact Or.inl rfl | exact Or.inr (Or.inl rfl) | exact Or.inr (Or.inr rfl)) (hd:(x==("__debug__":Str))=false:=by decide)
  (hcd:(x==("__classdict__":Str))=false:=by decide) (hs:gC b:=by intro _ _; rfl):Ev X H0 O0 ps (.Subscript (.Name x p) b pos) u:=
 PE.mono (m7 jg (fQ hN hv hd hcd) hb hs) fun σ H Q ⟨O,R,q⟩=> by
  obtain ⟨v,h1,a,vs,rfl,h3,h4,h5,h6⟩:=R.at_ n _ h
  refine ⟨_,h1,O,R,fun w H' s r=> ?_⟩
  cases r
  obtain ⟨z,k1,k2⟩:=h6.atI hi
  exact ⟨a,vs,i,z,rfl,rfl,SqL.of (s _ _ h5),k1,q z H' s (k2.same (a_ s))⟩
def ed (X:Cx) (f:Value) (us:List U) (u:U):Prop:=cM X f fun vs H Q=> ∃ O,(∀ a∈O,H a≠none)∧Rps X.K (hid H O) vs us∧∀ v H',aK H H'→Rp X.K (hid H' O) v u→Q v H'
theorem aw {id:String} {f:Str} (hc:ed X (.builtin id) us u) (hg:Gl X f) (hm:X.mg f=none) (hv:bootBuiltins f=some (.builtin id)) (ha:EvA X H0 O0 ps (e::es) us) (hn:f≠"__name__":=by decide) (hdb:(f==("__debug__":Str))=false:=by decide)
  (he:starEach (e::es) X.env=(false,eval e X.env)::starEach es X.env:=by rfl) (hpl:(backTo pos (starEach es X.env)).any (·.1)=false:=by rfl):Ev X H0 O0 ps (.Call (.Name f p) (e::es) [] pos) u:=
 PE.mono (fK hc hg hm hv ha hn hdb he hpl) fun σ H Q ⟨O,R,q⟩=> ⟨O,R,fun vs H1 s1 r1=> ⟨O,(R.go s1).dom,r1,fun v H2 s2 r2=> q v H2 (s1.trans s2) r2⟩⟩
theorem md {id:String} {f:Str} (hc:ed X (.type id) us u) (hg:Gl X f) (hm:X.mg f=none) (hv:bootBuiltins f=some (.type id)) (ha:EvA X H0 O0 ps (e::es) us) (hn:f≠"__name__":=by decide) (hdb:(f==("__debug__":Str))=false:=by decide)
  (he:starEach (e::es) X.env=(false,eval e X.env)::starEach es X.env:=by rfl) (hpl:(backTo pos (starEach es X.env)).any (·.1)=false:=by rfl):Ev X H0 O0 ps (.Call (.Name f p) (e::es) [] pos) u:=
 PE.mono (jL hc hg hm hv ha hn hdb he hpl) fun σ H Q ⟨O,R,q⟩=> ⟨O,R,fun vs H1 s1 r1=> ⟨O,(R.go s1).dom,r1,fun v H2 s2 r2=> q v H2 (s1.trans s2) r2⟩⟩
theorem df {K:PySem.W.Frag} {H:Hp} {vs:List V} (h:Rps K H vs [x]):∃ v,vs=[v]∧Rp K H v x:=by
 obtain ⟨v,ws,rfl,h1,h2⟩:=h.cons_inv
 rw [h2.nil_inv]
 exact ⟨v,rfl,h1⟩
theorem fh {K:PySem.W.Frag} {H:Hp} {vs:List V} (h:Rps K H vs [x,y]):∃ v w,vs=[v,w]∧Rp K H v x∧Rp K H w y:=by
 obtain ⟨v,ws,rfl,h1,h2⟩:=h.cons_inv
 obtain ⟨w,rfl,h3⟩:=df h2
 exact ⟨v,w,rfl,h1,h3⟩
theorem cM.mono {f:Value} {r r':List V→Hp→VK→Prop} (h:cM X f r) (m:∀ vs H Q,r' vs H Q→r vs H Q):cM X f r':=fun pins s σ H vs us Q I v q=> h pins s σ H vs us Q I v (m vs H Q q)
theorem ji {K:PySem.W.Frag} {H:Hp} {v:V} (h:Rp K H v x) (hx:x.items=some xs):∃ a vs,v=.ref a∧(SqL K H a vs∨SqT K H a vs)∧Rps K H vs xs:=by
 cases h with
 | scr h hl hh=> cases hx; exact ⟨_,_,rfl,.inl h,hl,hh⟩
 | lst h hl hh=> cases hx; exact ⟨_,_,rfl,.inl (SqL.of h),hl,hh⟩
 | tup h hl hh=> cases hx; exact ⟨_,_,rfl,.inr h,hl,hh⟩
 | _=> cases hx
theorem mK {K:PySem.W.Frag} {H:Hp} {O:List Addr} {a:Addr} {vs:List V} (h:SqL K (hid H O) a vs∨SqT K (hid H O) a vs):SqL K H a vs∨SqT K H a vs:=h.imp (fun z=> aJ.seq z) fun z=> aJ.tup z
theorem hU (hx:x.items=some xs):ed X (.builtin "len") [x] (.int xs.length):=cM.mono d4 fun vs H Q ⟨O,d,r,q⟩=> by
 obtain ⟨v,rfl,h⟩:=df r
 obtain ⟨a,ws,rfl,h1,h2⟩:=ji h hx
 exact ⟨a,ws,rfl,mK h1,by rw [h2.len]; exact q _ H (.refl H) (.int _)⟩
theorem nu (n:Nat) {x:Str} (h:ps[n]?=some (some (.own xs))) (hg:Gl X "len") (hm:X.mg "len"=none) (hN:X.N[n]?=some x:=by rfl) (hv:Vis X.env.scope x:=by first | exact Or.inl rfl | exact Or.inr (Or.inl rfl) | exact Or.inr (Or.inr rfl)) (hd:(x==("__debug__":Str))=false:=by decide)
  (hcd:(x==("__classdict__":Str))=false:=by decide) {pc p':Pos} (hs:starEach [.Name x p'] X.env=(false,eval (.Name x p') X.env)::starEach [] X.env:=by rfl) (hpl:(backTo pos (starEach [] X.env)).any (·.1)=false:=by rfl):Ev X H0 O0 ps (.Call (.Name "len" pc) [.Name x p'] [] pos) (.int xs.length):=
 PE.mono (fK d4 hg hm PySem.boot_len (ei (fQ hN hv hd hcd) gL hs) (by decide) (by decide) hs hpl) fun σ H Q ⟨O,R,q⟩=> by
  obtain ⟨v,h1,a,vs,rfl,h3,h4,h5,h6⟩:=R.at_ n _ h
  exact ⟨_,h1,a,vs,rfl,.inl (SqL.of h5),by rw [h6.len]; exact q _ H (.refl H) (.int _)⟩
theorem ki:ed X (.builtin "abs") [.int i] (.int (if i < 0 then -i else i)):=cM.mono kB fun vs H Q ⟨O,d,r,q⟩=> by
 obtain ⟨v,rfl,h⟩:=df r
 cases h
 exact ⟨i,rfl,q _ H (.refl H) (.int _)⟩
theorem nv:ed X (.type "int") [.bl k] (.int (if k then 1 else 0)):=cM.mono iR fun vs H Q ⟨O,d,r,q⟩=> by
 obtain ⟨v,rfl,h⟩:=df r
 cases h
 exact ⟨k,rfl,q _ H (.refl H) (.int _)⟩
def tyU:U→Value
 | .non=> .type "NoneType" | .bl _=> .type "bool" | .int _=> .type "int" | .str _=> .type "str" | .ty _=> .type "type" | .dic=> .type "dict" | .scr _=> .type "list" | .tup _=> .type "tuple" | .lst _=> .type "list"
theorem aC {n:String} (hn:∀ m,x≠.ty m) (h:PySem.W.kitOne X.K (tyU x) (.type n)=some k):ed X (.builtin "isinstance") [x,.ty (.nm n)] (.bl k):=by
 intro pins s σ H vs us Q I r hq
 obtain ⟨O,d,rs,q⟩:=hq
 obtain ⟨v,w,rfl,h1,h2⟩:=fh rs
 cases h2
 obtain ⟨p1,p2,rfl,r1,r2⟩:=kQ r
 cases (show p2=Value.type n from r2)
 have fin:∀ tk,EP X pins σ Q (.bool k) { s with toks:=tk }:=fun tk=> ⟨.bl k,H,I.tok _,rfl,q _ H (.refl H) (.bl _)⟩
 cases h1 with
 | non=> exact cD I r1 .non h fin
 | bl b=> exact cD I r1 (.bl b) h fin
 | int b=> exact cD I r1 (.int b) h fin
 | str b=> exact cD I r1 (.str b) h fin
 | ty m=> exact absurd rfl (hn _)
 | dic e=> exact cD I r1 (.dK (aJ _ _ e)) h fin
 | xc e kk=> exact absurd rfl (hn _)
 | scr e hl hh=>
  cases r1
  obtain ⟨its,_,pl,_⟩:=I.list (aJ.seq e)
  obtain ⟨o,nn,e1,e2,_⟩:=pl
  exact PySem.W.kia_one PySem.W.kitx_list I.kIn ⟨o,e1,e2⟩ h (fun z=> nomatch z) fin
 | lst e hl hh=> exact cD I r1 (.lst (aJ _ _ e)) h fin
 | tup e hl hh=>
  cases r1
  obtain ⟨its,_,pl,_⟩:=I.tuple (aJ.tup e)
  obtain ⟨o,e1,e2,_⟩:=pl
  exact PySem.W.kia_one PySem.W.kitx_tuple I.kIn ⟨o,e1,e2⟩ h (fun z=> nomatch z) fin
end
end L2
namespace L2
open PySem PySem.Spec PyProof.Rows
inductive Out where
 | val (u:U) | new (xs:List U) | exc (C:Addr)
def h7 (K:PySem.W.Frag) (H0:Hp) (O0:List Addr) (Q:VK) (E:XK):Out→Prop
 | .val u=> ∀ v H',aK H0 H'→Rp K (hid H' O0) v u→Q v H'
 | .new xs=> ∀ a vs H',aK H0 H'→H0 a=none→H' a=some (.lst vs)→Rps K (hid H' (a::O0)) vs xs→Q (.ref a) H'
 | .exc C=> ∀ H',aK H0 H'→E (.ref C) none H'
theorem h7.later {K:PySem.W.Frag} {H0 H1:Hp} {O0:List Addr} {Q:VK} {E:XK} {o:Out} (e:aK H0 H1) (h:h7 K H0 O0 Q E o):h7 K H1 O0 Q E o:=by
 cases o with
 | val u=> exact fun v H' s r=> h v H' (e.trans s) r
 | new xs=> exact fun a vs H' s n q r=> h a vs H' (e.trans s) (e.free n) q r
 | exc C=> exact fun H' s=> h H' (e.trans s)
structure PD where
 nx:PSt→Prop
 rt:Out→Prop
 bk:PSt→Prop:=fun _=> False
 ct:PSt→Prop:=fun _=> False
structure Lf (K:PySem.W.Frag) (H0:Hp) (O0:List Addr) (E:XK) (D:PD) (D':fF):Prop where
 nx:∀ ps σ H O,Rs K H0 O0 ps σ H O→D.nx ps→D'.nx σ H
 bk:∀ ps σ H O,Rs K H0 O0 ps σ H O→D.bk ps→D'.bk σ H
 ct:∀ ps σ H O,Rs K H0 O0 ps σ H O→D.ct ps→D'.ct σ H
 rt:∀ o,D.rt o→h7 K H0 O0 D'.rt E o
def Ws (X:Cx) (H0:Hp) (O0:List Addr) (E:XK) (ss:List Stmt) (D:PD) (ps:PSt):Prop:=PSs X ss fun D' σ H=> Lf X.K H0 O0 E D D'∧∃ O,Rs X.K H0 O0 ps σ H O
def W1 (X:Cx) (H0:Hp) (O0:List Addr) (E:XK) (s:Stmt) (D:PD) (ps:PSt):Prop:=PS X s fun D' σ H=> Lf X.K H0 O0 E D D'∧∃ O,Rs X.K H0 O0 ps σ H O
section
variable {X:Cx} {H0:Hp} {O0:List Addr} {E:XK} {ps ps':PSt} {D:PD} {s:Stmt} {ss body:List Stmt} {a b c e:Expr} {es:List Expr} {pos p:Pos} {u x y:U} {xs ys us:List U} {k:Bool}
theorem aI (h:D.nx ps):Ws X H0 O0 E [] D ps:=PSs.mono lS fun D' σ H ⟨L,O,R⟩=> L.nx ps σ H O R h
theorem af (h:W1 X H0 O0 E s { D with nx:=fun p=> Ws X H0 O0 E ss D p } ps):Ws X H0 O0 E (s::ss) D ps:=by
 have h2:PSs X ss fun D' σ H=> ∃ p,Ws X H0 O0 E ss D p∧Lf X.K H0 O0 E D D'∧∃ O,Rs X.K H0 O0 p σ H O:=fun pins s σ H D' I ⟨p,w,l,r⟩=> w pins s σ H D' I ⟨l,r⟩
 exact PSs.mono (kL h h2) fun D' σ H ⟨L,O,R⟩=> ⟨⟨fun p σ H O R q=> ⟨p,q,L,O,R⟩,L.bk,L.ct,L.rt⟩,O,R⟩
theorem dO (h:Ws X H0 O0 E ss D ps') (hs:SubP ps' ps):Ws X H0 O0 E ss D ps:=PSs.mono h fun D' σ H ⟨L,O,R⟩=> ⟨L,O,R.sub hs⟩
theorem ao {i:Nat} {x:Str} {pos':Pos} (hN:X.N.Nodup) (hi:X.N[i]?=some x) (hx:Loc X.env.scope x) (he:Ev X H0 O0 ps e u) (h:D.nx (ps.set i (some (.val u)))) (hs:swapsWith e (some (.Name x pos')) pos.line X.env=pure false:=by rfl) (hf:X.fn x=true∨X.env.scope.names.lookup x=some .local:=by first | exact .inl rfl | exact .inr rfl | assumption):
  W1 X H0 O0 E (.Assign [.Name x pos'] e pos) D ps:=PS.mono (i4 hN hi hx he hs hf) fun D' σ H ⟨L,O,R⟩=> ⟨O,R,fun v H' s r=> L.nx _ _ _ O ((R.go s).set r) h⟩
theorem mY {i:Nat} {x:Str} {pos':Pos} (hN:X.N.Nodup) (hi:X.N[i]?=some x) (hx:Loc X.env.scope x) (he:EvN X H0 O0 ps e xs) (h:D.nx (ps.set i (some (.own xs)))) (hs:swapsWith e (some (.Name x pos')) pos.line X.env=pure false:=by rfl) (hf:X.fn x=true∨X.env.scope.names.lookup x=some .local:=by first | exact .inl rfl | exact .inr rfl | assumption):
  W1 X H0 O0 E (.Assign [.Name x pos'] e pos) D ps:=PS.mono (i4 hN hi hx he hs hf) fun D' σ H ⟨L,O,R⟩=> ⟨O,R,fun a vs H' s n q r=> L.nx _ _ _ _ (R.own s n q r) h⟩
theorem fD {tb fb:List Stmt} (hc:Tt X H0 O0 ps c k) (h1:k=true→Ws X H0 O0 E tb D ps) (h2:k=false→Ws X H0 O0 E fb D ps):W1 X H0 O0 E (.If c tb fb pos) D ps:=by
 cases k with
 | true=> exact PS.mono (nj hc (h1 rfl) (fun _ _ _ _ _ _ h=> h.elim) (u:=fun _ _ _=> False)) fun D' σ H ⟨L,O,R⟩=> ⟨O,R,fun H' s=> iU ⟨L,O,R.go s⟩⟩
 | false=> exact PS.mono (nj hc (fun _ _ _ _ _ _ h=> h.elim) (h2 rfl) (t:=fun _ _ _=> False)) fun D' σ H ⟨L,O,R⟩=> ⟨O,R,fun H' s=> i8 ⟨L,O,R.go s⟩⟩
theorem Rs.ret {K:PySem.W.Frag} {σ:St} {H:Hp} {O:List Addr} {v:V} (R:Rs K H0 O0 ps σ H O) (r:Rp K (hid H O) v u):Rp K (hid H O0) v u:=r.same (dq R.old)
theorem aA (he:Ev X H0 O0 ps e u) (h:D.rt (.val u)):W1 X H0 O0 E (.Return (some e) pos) D ps:=
 PS.mono (gH he) fun D' σ H ⟨L,O,R⟩=> ⟨O,R,fun v H' s r=> L.rt _ h v H' (R.same.trans s) ((R.go s).ret r)⟩
theorem eH (he:EvN X H0 O0 ps e xs) (h:D.rt (.new xs)):W1 X H0 O0 E (.Return (some e) pos) D ps:=
 PS.mono (gH he) fun D' σ H ⟨L,O,R⟩=> ⟨O,R,fun a vs H' s n q r=> L.rt _ h a vs H' (R.same.trans s) (R.same.free n) q (r.same (dq fun b hb=> by
  rcases List.mem_cons.mp hb with y | y
  ·subst y; exact List.mem_cons_self
  ·exact List.mem_cons_of_mem _ (R.old b y)))⟩
theorem kY (i:Nat) {x:Str} (hp:ps[i]?=some (some (.own xs))) (h:D.rt (.new xs)) (hN:X.N[i]?=some x:=by rfl) (hv:Vis X.env.scope x:=by first | exact Or.inl rfl | exact Or.inr (Or.inl rfl) | exact Or.inr (Or.inr rfl)) (hd:(x==("__debug__":Str))=false:=by decide)
  (hcd:(x==("__classdict__":Str))=false:=by decide):W1 X H0 O0 E (.Return (some (.Name x p)) pos) D ps:=
 PS.mono (gH (fQ hN hv hd hcd)) fun D' σ H ⟨L,O,R⟩=> by
  obtain ⟨v,h1,a,vs,rfl,h3,h4,h5,h6⟩:=R.at_ i _ hp
  refine ⟨_,h1,L.rt _ h a vs H R.same ((R.new a h3).resolve_left h4) h5 (h6.same (dq fun b hb=> ?_))⟩
  rcases List.mem_cons.mp hb with y | y
  ·subst y; exact h3
  ·exact R.old b y
theorem eG (he:Ev X H0 O0 ps e u) (h:D.nx ps) (hs:swapsWith e none pos.line X.env=pure false:=by rfl):W1 X H0 O0 E (.Expr e pos) D ps:=
 PS.mono (gZ he hs) fun D' σ H ⟨L,O,R⟩=> ⟨O,R,fun v H' s r=> L.nx _ _ _ O (R.go s) h⟩
theorem o9 {i:Nat} {x:Str} {op:Operator} {pos':Pos} {n m:Int} {g:Int→Int→Int} (ho:PIp X op (ipI g)) (hN:X.N.Nodup) (hi:X.N[i]?=some x) (hx:Loc X.env.scope x) (hp:ps[i]?=some (some (.val (.int n)))) (he:Ev X H0 O0 ps e (.int m)) (h:D.nx (ps.set i (some (.val (.int (g n m))))))
  (hf:X.fn x=true∨X.env.scope.names.lookup x=some .local:=by first | exact .inl rfl | exact .inr rfl | assumption):W1 X H0 O0 E (.AugAssign (.Name x pos') op e pos) D ps:=
 PS.mono (oh hN hi hx he ho hf) fun D' σ H ⟨L,O,R⟩=> by
  obtain ⟨v,h1,h2⟩:=R.at_ i _ hp
  cases h2
  refine ⟨_,h1,O,R,fun v H' s r=> ?_⟩
  cases r
  exact ⟨n,m,rfl,rfl,L.nx _ _ _ O ((R.go s).set (.int _)) h⟩
theorem il (i:Nat) {x:Str} {apos cpos xp:Pos} (hp:ps[i]?=some (some (.own xs))) (ha:Ev X H0 O0 ps e u) (hz:xs.length < sizeLine) (h:D.nx (ps.set i (some (.own (xs++[u])))))
  (hN:X.N[i]?=some x:=by rfl) (hv:Vis X.env.scope x:=by first | exact Or.inl rfl | exact Or.inr (Or.inl rfl) | exact Or.inr (Or.inr rfl)) (hd:(x==("__debug__":Str))=false:=by decide) (hcd:(x==("__classdict__":Str))=false:=by decide)
  (hbase:attributeBase (.Name x xp) "append" X.env (eval (.Name x xp) X.env)=eval (.Name x xp) X.env:=by rfl)
  (hfew:((backTo cpos (starEach [e] X.env)).all (fun x=> !x.1) && (backToKw cpos (keywordEach [] X.env)).all (fun x=> x.1.isSome) && decide ([e].length+([]:List Keyword).length+(if ([]:List Keyword).isEmpty then 0 else 1) < 30))=true:=by rfl)
  (hline:(apos.endLine==cpos.line)=true:=by rfl) (hse:starEach [e] X.env=(false,eval e X.env)::starEach [] X.env:=by rfl) (hplain:(backTo cpos (starEach [] X.env)).any (·.1)=false:=by rfl)
  (hs:swapsWith (.Call (.Attribute (.Name x xp) "append" apos) [e] [] cpos) none pos.line X.env=pure false:=by rfl):W1 X H0 O0 E (.Expr (.Call (.Attribute (.Name x xp) "append" apos) [e] [] cpos) pos) D ps:=
 PS.mono (gZ (oH PySem.F.plainAttrs_list PySem.F.slot_list_append PySem.F.type_list_append eK (fQ hN hv hd hcd) (ei ha gL hse) hbase hfew hline hse hplain) hs) fun D' σ H ⟨L,O,R⟩=> by
  obtain ⟨v,h1,a,vs,rfl,h3,h4,h5,h6⟩:=R.at_ i _ hp
  refine ⟨_,h1,.inl ⟨rfl,_,SqL.of h5⟩,O,R,fun w H' s r=> ⟨a,vs,w,rfl,rfl,s _ _ h5,by rw [h6.len]; exact hz,?_⟩⟩
  exact L.nx _ _ _ O ((R.go s).write hp h1 ((h6.same (a_ s)).snoc (.cons r .nil))) h
end
end L2
namespace L2
open PySem PySem.Spec PyProof.Rows
def gU:List Nat→TGs
 | []=> o6
 | j::js=> m4 (ig j) (gU js)
def setAll:PSt→List Nat→List U→PSt
 | ps,j::js,u::us=> setAll (ps.set j (some (.val u))) js us
 | ps,_,_=> ps
def fc:St→List Nat→List V→St
 | σ,j::js,u::us=> fc (σ.set j (some u)) js us
 | σ,_,_=> σ
theorem Rs.setAll {K:PySem.W.Frag} {H0:Hp} {O0:List Addr} {H:Hp} {O:List Addr}:∀ {js:List Nat} {ps:PSt} {σ:St} {vs:List V} {us:List U},Rs K H0 O0 ps σ H O→Rps K (hid H O) vs us→Rs K H0 O0 (L2.setAll ps js us) (fc σ js vs) H O
 | [],ps,σ,vs,us,R,r=> by cases us <;> cases vs <;> exact R
 | j::js,ps,σ,vs,[],R,r=> by rw [r.nil_inv]; exact R
 | j::js,ps,σ,vs,u::us,R,r=> by
  obtain ⟨v,ws,rfl,h1,h2⟩:=r.cons_inv
  exact Rs.setAll (js:=js) (R.set h1) h2
theorem dG {Q:St→Hp→Prop} {H:Hp}:∀ {js:List Nat} {σ:St} {vs:List V},vs.length=js.length→Q (fc σ js vs) H→gU js vs σ H Q
 | [],σ,[],_,q=> ⟨rfl,q⟩
 | j::js,σ,v::vs,e,q=> ⟨v,vs,rfl,dG (js:=js) (by simpa using e) q⟩
 | [],_,_::_,e,_=> by simp at e
 | _::_,_,[],e,_=> by simp at e
def TgS (X:Cx) (H0:Hp) (O0:List Addr) (tg:Expr) (ps:PSt) (u:U) (ps':PSt):Prop:=
 PG X tg fun v σ H Q=> ∃ O,Rs X.K H0 O0 ps σ H O∧Rp X.K (hid H O) v u∧∀ σ' H',aK H H'→Rs X.K H0 O0 ps' σ' H' O→Q σ' H'
theorem PG.mono {X:Cx} {e:Expr} {t t':TG} (h:PG X e t) (m:∀ v σ H Q,t' v σ H Q→t v σ H Q):PG X e t':=fun pins s σ H v u Q I r q=> h pins s σ H v u Q I r (m v σ H Q q)
theorem PI.mono {X:Cx} {tg e:Expr} {t t':TI} (h:PI X tg e t) (m:∀ σ H Q,t' σ H Q→t σ H Q):PI X tg e t':=fun pins s σ H Q I q=> h pins s σ H Q I (m σ H Q q)
def Yl (K:PySem.W.Frag) (J:It) (G:Hp) (xs:List U):Prop:=
 ∀ H2,aK G H2→(∀ i,i < xs.length→J.go i H2∧∀ x H3,J.yld i H2 x H3→H3=H2∧∃ u,xs[i]?=some u∧Rp K G x u)∧J.stop xs.length H2
def EvI (X:Cx) (H0:Hp) (O0:List Addr) (ps:PSt) (tg iter:Expr) (xs:List U):Prop:=
 PI X tg iter fun σ H R=> ∃ O,Rs X.K H0 O0 ps σ H O∧∀ J H',aK H H'→Yl X.K J (hid H' O) xs→R J H'
section
variable {X:Cx} {H0:Hp} {O0:List Addr} {E:XK} {ps ps':PSt} {D:PD} {s:Stmt} {ss body:List Stmt} {a b c e tg iter:Expr} {es:List Expr} {pos p:Pos} {u x y:U} {xs ys us:List U} {k:Bool}
theorem g8 {i:Nat} {x:Str} (hN:X.N.Nodup) (hi:X.N[i]?=some x) (hx:Loc X.env.scope x) (hf:X.fn x=true∨X.env.scope.names.lookup x=some .local:=by first | exact .inl rfl | exact .inr rfl | assumption):TgS X H0 O0 (.Name x pos) ps u (ps.set i (some (.val u))):=
 PG.mono (bp hN hi hx hf) fun v σ H Q ⟨O,R,r,q⟩=> q _ H (.refl H) (R.set r)
theorem m8 {k:Nat} (js:List Nat) (hc:X.calm=true) (h:PGs X es (gU js)) (hx:x=.lst us∨x=.scr us) (hl:us.length=js.length) (hn:(assignEach es X.env).length=js.length:=by rfl) (hst:(assignEach es X.env).findIdx? (·.1)=none:=by rfl):TgS X H0 O0 (.Tuple es k pos) ps x (setAll ps js us):=
 PG.mono (nM hc h hn hst) fun v σ H Q ⟨O,R,r,q⟩=> by
  rcases hx with rfl | rfl
  ·cases r with
   | lst hq hl' hh=> exact ⟨_,_,rfl,aJ.seq (SqL.of hq),hl'.trans hl,dG (hl'.trans hl) (q _ H (.refl H) (R.setAll ⟨hl',hh⟩))⟩
  ·cases r with
   | scr hq hl' hh=> exact ⟨_,_,rfl,aJ.seq hq,hl'.trans hl,dG (hl'.trans hl) (q _ H (.refl H) (R.setAll ⟨hl',hh⟩))⟩
theorem m9 (he:Ev X H0 O0 ps e u) (hg:TgS X H0 O0 tg ps u ps') (h:D.nx ps') (hs:swapsWithSole [tg] e pos.line X.env=pure false:=by rfl) (hw:swappedStores [tg] e X.env=pure none:=by rfl)
  (h1:(assignEach [tg] X.env).map (·.2)=[assign tg X.env]:=by rfl):W1 X H0 O0 E (.Assign [tg] e pos) D ps:=
 PS.mono (nE he hg hs hw h1) fun D' σ H ⟨L,O,R⟩=> ⟨O,R,fun v H1 s1 r1=> ⟨O,R.go s1,r1,fun σ' H2 s2 R2=> L.nx _ _ _ O R2 h⟩⟩
theorem oI {i j:Nat} {x y:Str} {px py pt:Pos} {kt k2 pt2} {u w:U} (hc:X.calm=true) (hN:X.N.Nodup) (hi:X.N[i]?=some x) (hj:X.N[j]?=some y) (hij:i≠j)
  (hx:X.env.scope.names.lookup x=some .local) (hy:X.env.scope.names.lookup y=some .local) (ha:EvA X H0 O0 ps [a,b] [u,w])
  (hw:swappedStores [.Tuple [.Name x px,.Name y py] kt pt] (.Tuple [a,b] k2 pt2) X.env=pure (some [x,y])) (h:D.nx ((ps.set i (some (.val u))).set j (some (.val w))))
  (hs:swapsWithSole [.Tuple [.Name x px,.Name y py] kt pt] (.Tuple [a,b] k2 pt2) pos.line X.env=pure false:=by rfl):
  W1 X H0 O0 E (.Assign [.Tuple [.Name x px,.Name y py] kt pt] (.Tuple [a,b] k2 pt2) pos) D ps:=
 PS.mono (nJ hc hN hi hj hij hx hy ha hw hs) fun D' σ H ⟨L,O,R⟩=> ⟨O,R,fun vs H1 s1 r1=> by
  obtain ⟨v,z,rfl,h1,h2⟩:=fh r1
  exact ⟨v,z,rfl,L.nx _ _ _ O (((R.go s1).set h1).set h2) h⟩⟩
theorem gM (he:Ev X H0 O0 ps iter x) (hx:x=.lst xs∨x=.scr xs):EvI X H0 O0 ps tg iter xs:=
 PI.mono (mM he) fun σ H Q ⟨O,R,q⟩=> ⟨O,R,fun v H' s r=> by
  have key:∃ a vs,v=.ref a∧SqL X.K (hid H' O) a vs∧Rps X.K (hid H' O) vs xs:=by
   rcases hx with rfl | rfl
   ·cases r with
    | lst hq hl hh=> exact ⟨_,_,rfl,SqL.of hq,hl,hh⟩
   ·cases r with
    | scr hq hl hh=> exact ⟨_,_,rfl,hq,hl,hh⟩
  obtain ⟨a,vs,rfl,hq,rs⟩:=key
  refine ⟨a,rfl,⟨vs,aJ.seq hq⟩,q _ H' s fun H2 s2=> ⟨fun i hi=> ?_,⟨vs,s2.seq hq,by rw [rs.len]; exact Nat.le_refl _⟩⟩⟩
  have hi':i < vs.length:=by rw [rs.len]; exact hi
  refine ⟨⟨vs,vs[i],s2.seq hq,List.getElem?_eq_getElem hi'⟩,fun z H3 y=> ⟨y.1,xs[i],List.getElem?_eq_getElem hi,rs.at_ i z _ (y.2 vs (s2.seq hq)) (List.getElem?_eq_getElem hi)⟩⟩⟩
theorem pi (he:Ev X H0 O0 ps iter (.tup xs)):EvI X H0 O0 ps tg iter xs:=
 PI.mono (nA he) fun σ H Q ⟨O,R,q⟩=> ⟨O,R,fun v H' s r=> by
  cases r with
  | @tup a vs _ hq hl hh=>
   have rs:Rps X.K (hid H' O) vs xs:=⟨hl,hh⟩
   refine ⟨a,rfl,⟨vs,aJ.tup hq⟩,q _ H' s fun H2 s2=> ⟨fun i hi=> ?_,⟨vs,s2.tup hq,by rw [rs.len]; exact Nat.le_refl _⟩⟩⟩
   have hi':i < vs.length:=by rw [rs.len]; exact hi
   refine ⟨⟨vs,vs[i],s2.tup hq,List.getElem?_eq_getElem hi'⟩,fun z H3 y=> ⟨y.1,xs[i],List.getElem?_eq_getElem hi,rs.at_ i z _ (y.2 vs (s2.tup hq)) (List.getElem?_eq_getElem hi)⟩⟩⟩
def dW (lo:Int) (n:Nat):List U:=(List.range n).map fun (i:Nat)=> U.int (lo+(i:Int))
theorem bG {lo:Int} {n:Nat}:(dW lo n).length=n:=by simp [dW]
theorem gr {lo:Int} {n i:Nat} (h:i < n):(dW lo n)[i]?=some (.int (lo+(i:Int))):=by
 unfold dW
 rw [List.getElem?_map,List.getElem?_range h]; rfl
theorem dg {lo:Int} {n i:Nat} {x:U} (h:(dW lo n)[i]?=some x):i < n∧x=.int (lo+(i:Int)):=by
 have hi:=bi h
 rw [bG] at hi
 rw [gr hi] at h
 exact ⟨hi,(Option.some.inj h).symm⟩
theorem ku {K:PySem.W.Frag} {G:Hp} {lo:Int} {n:Nat}:Yl K (Itr lo n) G (dW lo n):=fun H2 s2=> by
 rw [bG]
 refine ⟨fun i hi=> ⟨hi,fun z H3 y=> ⟨y.1,_,gr hi,?_⟩⟩,Nat.le_refl _⟩
 rw [y.2]; exact .int _
theorem d_ {j:Int} (hg:Gl X "range") (hm:X.mg "range"=none) (ha:EvA X H0 O0 ps [a] [.int j]) (h1:-(2 ^ 62)≤j) (h2:j < 2 ^ 62) (hs:starEach [a] X.env=[(false,eval a X.env)]:=by rfl):EvI X H0 O0 ps tg (.Call (.Name "range" p) [a] [] pos) (dW 0 j.toNat):=
 PI.mono (jP hg hm ha hs) fun σ H Q ⟨O,R,q⟩=> ⟨O,R,fun vs H' s r=> by
  obtain ⟨v,rfl,h⟩:=df r
  cases h
  exact ⟨j,rfl,h1,h2,q _ H' s ku⟩⟩
def dD (lo c:Int) (n:Nat):List U:=(List.range n).map fun (i:Nat)=> U.int (lo+(i:Int) * c)
theorem eX {lo c:Int} {n:Nat}:(dD lo c n).length=n:=by simp [dD]
theorem fI {lo c:Int} {n i:Nat} (h:i < n):(dD lo c n)[i]?=some (.int (lo+(i:Int) * c)):=by
 unfold dD
 rw [List.getElem?_map,List.getElem?_range h]; rfl
theorem ii {lo c:Int} {n i:Nat} {x:U} (h:(dD lo c n)[i]?=some x):i < n∧x=.int (lo+(i:Int) * c):=by
 have hi:=bi h
 rw [eX] at hi
 rw [fI hi] at h
 exact ⟨hi,(Option.some.inj h).symm⟩
theorem ls {i j m:Int} (hg:Gl X "range") (hm:X.mg "range"=none) (ha:EvA X H0 O0 ps [a,b,c] [.int i,.int j,.int m]) (h:-(2 ^ 60)≤i∧i < 2 ^ 60∧-(2 ^ 60)≤j∧j < 2 ^ 60∧0 < m∧m < 2 ^ 30) (hs:starEach [a,b,c] X.env=[(false,eval a X.env),(false,eval b X.env),(false,eval c X.env)]:=by rfl)
  (hs2:starEach [b,c] X.env=[(false,eval b X.env),(false,eval c X.env)]:=by rfl):
  EvI X H0 O0 ps tg (.Call (.Name "range" p) [a,b,c] [] pos) (dD i m (dy i j m)):=
 PI.mono (jF hg hm ha hs hs2) fun σ H Q ⟨O,R,q⟩=> ⟨O,R,fun vs H' s r=> by
  obtain ⟨v,ws,rfl,k1,k2⟩:=r.cons_inv
  obtain ⟨w,z,rfl,k2,k3⟩:=fh k2
  cases k1; cases k2; cases k3
  refine ⟨i,j,m,rfl,h,q _ H' s fun H2 s2=> ?_⟩
  rw [eX]
  refine ⟨fun i hi=> ⟨hi,fun z H3 y=> ⟨y.1,_,fI hi,?_⟩⟩,Nat.le_refl _⟩
  rw [y.2]; exact .int _⟩
theorem Rs.rebase {K:PySem.W.Frag} {σ:St} {H:Hp} {O:List Addr} (R:Rs K H0 O0 ps σ H O):Rs K (hid H (O.filter fun a=> decide (a ∉ O0))) O0 ps σ H O:=
 ⟨aJ,R.old,fun a ha=> by
  by_cases h:a∈O0
  ·exact .inl h
  ·right; unfold hid; rw [if_pos (List.mem_filter.mpr ⟨ha,by simpa using h⟩)],R.dom,R.len,R.at_,R.inj⟩
theorem Rs.base {K:PySem.W.Frag} {σ:St} {H:Hp} {O:List Addr} (R:Rs K H0 O0 ps σ H O):aK H0 (hid H (O.filter fun a=> decide (a ∉ O0))):=fun b o h=> by
 refine de (R.same b o h) fun z=> ?_
 obtain ⟨z1,z2⟩:=List.mem_filter.mp z
 rcases R.new b z1 with y | y
 ·simp [y] at z2
 ·rw [h] at y; cases y
theorem Rs.unbase {K:PySem.W.Frag} {H1:Hp} {σ:St} {H:Hp} {O:List Addr} (e:aK H0 H1) (R:Rs K H1 O0 ps σ H O):Rs K H0 O0 ps σ H O:=
 ⟨e.trans R.same,R.old,fun a ha=> (R.new a ha).imp id fun z=> e.free z,R.dom,R.len,R.at_,R.inj⟩
theorem Rs.seen {K:PySem.W.Frag} {ps2:PSt} {σ σ2:St} {H H2:Hp} {O O2:List Addr} (R:Rs K H0 O0 ps σ H O) (R2:Rs K (hid H (O.filter fun a=> decide (a ∉ O0))) O0 ps2 σ2 H2 O2):aK (hid H O) (hid H2 O2):=fun b o h=> by
 obtain ⟨h1,h2⟩:=dU h
 have h3:hid H (O.filter fun a=> decide (a ∉ O0)) b=some o:=de h1 fun z=> h2 (List.mem_filter.mp z).1
 refine de (R2.same b o h3) fun z=> ?_
 rcases R2.new b z with y | y
 ·exact h2 (R.old b y)
 ·rw [h3] at y; cases y
theorem oR (hc:X.calm=true) (hp:PassesOwn (model X.prog X.w) X.A X.env X.xe) (hi:EvI X H0 O0 ps tg iter xs) (Iv:Nat→PSt→Prop) (h0:Iv 0 ps)
  (hs:∀ (H0:Hp) (i:Nat) (x:U) (ps:PSt),xs[i]?=some x→Iv i ps→∃ ps',TgS X H0 O0 tg ps x ps'∧Ws X H0 O0 E body { D with nx:=Iv (i+1),ct:=Iv (i+1),bk:=D.nx } ps') (hd:∀ ps,Iv xs.length ps→D.nx ps)
  (hf:∀ x,foldedSetIterable iter X.env x=pure x:=by intro _; rfl):W1 X H0 O0 E (.For tg iter body [] pos) D ps:=by
 have hg:PG X tg fun v σ H Q=> ∃ H1 ps u ps',TgS X H1 O0 tg ps u ps'∧∃ O,Rs X.K H1 O0 ps σ H O∧Rp X.K (hid H O) v u∧∀ σ' H',aK H H'→Rs X.K H1 O0 ps' σ' H' O→Q σ' H':=
  fun pins s σ H v u Q I r ⟨H1,ps,w,ps',t,z⟩=> t pins s σ H v u Q I r z
 have hb:PSs X body fun D' σ H=> ∃ H1 D1 ps',Ws X H1 O0 E body D1 ps'∧Lf X.K H1 O0 E D1 D'∧∃ O,Rs X.K H1 O0 ps' σ H O:=fun pins s σ H D' I ⟨H1,D1,ps',w,z⟩=> w pins s σ H D' I z
 refine PS.mono (nW hp hc hi hg hb hf) fun D' σ H ⟨L,O,R⟩=> ⟨O,R,fun J H1 s1 Y=> ?_⟩
 have R1:=R.go s1
 have base:=R1.base
 refine ⟨fun i m σ H=> m=xs.length - i∧i≤xs.length∧∃ ps O',Iv i ps∧Rs X.K (hid H1 (O.filter fun a=> decide (a ∉ O0))) O0 ps σ H O',⟨_,rfl,Nat.zero_le _,ps,O,h0,R1.rebase⟩,?_⟩
 rintro i m σ2 H2 ⟨rfl,hi2,ps2,O2,iv,R2⟩
 have seen:=R1.seen R2
 obtain ⟨y1,y2⟩:=Y H2 (seen.trans aJ)
 by_cases hlt:i < xs.length
 ·obtain ⟨g1,g2⟩:=y1 i hlt
  refine .inr ⟨g1,fun σ' H'=> ∃ ps O',Iv (i+1) ps∧Rs X.K (hid H1 (O.filter fun a=> decide (a ∉ O0))) O0 ps σ' H' O',fun σ' H' z=> ⟨xs.length - (i+1),by omega,rfl,hlt,z⟩,fun x H3 y=> ?_⟩
  obtain ⟨rfl,u,hu,r⟩:=g2 x H3 y
  obtain ⟨ps',t,w⟩:=hs (hid H1 (O.filter fun a=> decide (a ∉ O0))) i u ps2 hu iv
  refine ⟨_,ps2,u,ps',t,O2,R2,r.same seen,fun σ' H' s' R'=> ⟨_,_,ps',w,?_,O2,R'⟩⟩
  exact ⟨fun p σ H O R q=> ⟨p,O,q,R⟩,fun p σ H O R q=> L.nx _ _ _ _ (R.unbase base) q,fun p σ H O R q=> ⟨p,O,q,R⟩,fun o q=> (L.rt o q).later base⟩
 ·have e:i=xs.length:=by omega
  subst e
  exact .inl ⟨y2,L.nx _ _ _ _ (R2.unbase base) (hd ps2 iv)⟩
theorem mI (hp:PassesOwn (model X.prog X.w) X.A X.env X.xe) (Iv:Nat→PSt→Prop) (m:Nat) (h0:Iv m ps)
  (hs:∀ m ps,Iv m ps→∃ b,Tt X H0 O0 ps c b∧(b=true→Ws X H0 O0 E body { D with nx:=fun p=> ∃ m',m' < m∧Iv m' p,ct:=fun p=> ∃ m',m' < m∧Iv m' p,bk:=D.nx } ps)∧(b=false→D.nx ps)):W1 X H0 O0 E (.While c body [] pos) D ps:=by
 have ht:PT X c fun σ H Q=> ∃ ps b,Tt X H0 O0 ps c b∧∃ O,Rs X.K H0 O0 ps σ H O∧∀ H',aK H H'→Q b H':=fun pins s σ H Q I ⟨ps,b,t,z⟩=> t pins s σ H Q I z
 have hb:PSs X body fun D' σ H=> ∃ D1 ps',Ws X H0 O0 E body D1 ps'∧Lf X.K H0 O0 E D1 D'∧∃ O,Rs X.K H0 O0 ps' σ H O:=fun pins s σ H D' I ⟨D1,ps',w,z⟩=> w pins s σ H D' I z
 refine PS.mono (lx hp ht hb) fun D' σ H ⟨L,O,R⟩=> ⟨fun m σ H=> ∃ ps O,Iv m ps∧Rs X.K H0 O0 ps σ H O,⟨m,ps,O,h0,R⟩,?_⟩
 rintro m σ2 H2 ⟨ps2,O2,iv,R2⟩
 obtain ⟨b,t,h1,h2⟩:=hs m ps2 iv
 refine ⟨ps2,b,t,O2,R2,fun H3 s3=> ?_⟩
 cases b with
 | true=>
  refine iU ⟨fun σ H=> ∃ m',m' < m∧∃ ps O,Iv m' ps∧Rs X.K H0 O0 ps σ H O,fun σ' H' z=> z,_,ps2,h1 rfl,?_,O2,R2.go s3⟩
  exact ⟨fun p σ H O R ⟨m',l,q⟩=> ⟨m',l,p,O,q,R⟩,fun p σ H O R q=> L.nx _ _ _ _ R q,fun p σ H O R ⟨m',l,q⟩=> ⟨m',l,p,O,q,R⟩,L.rt⟩
 | false=> exact i8 (L.nx _ _ _ _ (R2.go s3) (h2 rfl))
def cY:List Nat→PSt→PSt
 | [],ps=> ps
 | i::is,ps=> cY is (ps.set i none)
theorem Rs.mask {K:PySem.W.Frag} {H:Hp} {O:List Addr}:∀ {is:List Nat} {ps:PSt} {σ:St},Rs K H0 O0 ps σ H O→Rs K H0 O0 (cY is ps) (L2.mask is σ) H O
 | [],ps,σ,R=> R
 | i::is,ps,σ,R=> Rs.mask (is:=is) (R.drop (i:=i) (o:=none))
theorem Rs.hide {K:PySem.W.Frag} {σ:St} {H H':Hp} {O:List Addr} {l:Addr} (R:Rs K H0 O0 ps σ H O) (e:aK H H') (n:H l=none) (d:H' l≠none):Rs K H0 O0 ps σ H' (l::O):=by
 refine ⟨R.same.trans e,fun a ha=> List.mem_cons_of_mem _ (R.old a ha),fun a ha=> ?_,fun a ha z=> ?_,R.len,fun i s h=> ?_,R.inj⟩
 ·rcases List.mem_cons.mp ha with y | y
  ·subst y; exact .inr (R.same.free n)
  ·exact R.new a y
 ·rcases List.mem_cons.mp ha with y | y
  ·subst y; exact d z
  ·exact R.dom a y (e.free z)
 ·obtain ⟨w,h1,h2⟩:=R.at_ i s h
  refine ⟨w,h1,?_⟩
  cases s with
  | val u=> exact Rp.same (bY e n) h2
  | own ys=>
   obtain ⟨b,ws,k1,k2,k3,k4,k5⟩:=h2
   exact ⟨b,ws,k1,List.mem_cons_of_mem _ k2,k3,e _ _ k4,k5.same (bY e n)⟩
  | pin z u=> exact ⟨h2.1,Rp.same (bY e n) h2.2⟩
theorem iB {js is:List Nat}:∀ {σ:St} {vs:List V},(∀ j∈js,j∈is)→∀ (n:Nat) (v:V),n ∉ is→σ[n]?=some (some v)→(fc σ js vs)[n]?=some (some v):=by
 induction js with
 | nil=> intro σ vs _ n v _ h; cases vs <;> exact h
 | cons j js ih=>
  intro σ vs hj n v hn h
  cases vs with
  | nil=> exact h
  | cons w ws=> exact ih (fun z hz=> hj z (List.mem_cons_of_mem _ hz)) n v hn (by rw [List.getElem?_set_ne (fun z=> hn (by rw [← z]; exact hj j List.mem_cons_self))]; exact h)
def GOk (g:TG) (K:PySem.W.Frag) (is:List Nat) (f:PSt→U→PSt) (dom:U→Prop):Prop:=
 ∀ (H0:Hp) (O0:List Addr) (ps:PSt) (σ:St) (H:Hp) (O:List Addr) (v:V) (u:U) (Q:St→Hp→Prop),dom u→Rs K H0 O0 ps σ H O→Rp K (hid H O) v u→
  (∀ σ',Rs K H0 O0 (f ps u) σ' H O→(∀ (n:Nat) (w:V),n ∉ is→σ[n]?=some (some w)→σ'[n]?=some (some w))→Q σ' H)→g v σ H Q
theorem eA {K:PySem.W.Frag} {is:List Nat} {i:Nat} (h:i∈is):GOk (ig i) K is (fun ps u=> ps.set i (some (.val u))) fun _=> True:=fun H0 O0 ps σ H O v u Q _ R r q=>
 q _ (R.set r) fun n w hn e=> by rw [List.getElem?_set_ne (fun z=> hn (by rw [← z]; exact h))]; exact e
theorem jf {K:PySem.W.Frag} {is js:List Nat} (h:∀ j∈js,j∈is):GOk (pw K js.length (gU js)) K is (fun ps u=> match u with | .tup us=> setAll ps js us | _=> ps) fun u=> ∃ us,u=.tup us∧us.length=js.length:=fun H0 O0 ps σ H O v u Q d R r q=> by
 obtain ⟨us,rfl,hl⟩:=d
 cases r with
 | tup hq hl' hh=> exact ⟨_,_,rfl,aJ.tup hq,hl'.trans hl,dG (hl'.trans hl) (q _ (R.setAll ⟨hl',hh⟩) fun n w hn e=> iB h n w hn e)⟩
theorem gj {is:List Nat} {g:TG} {f:PSt→U→PSt} {dom:U→Prop} {σ:St} {H1:Hp} {O:List Addr} {Q:VK} {J:It} {te:TE} (hg:GOk g X.K is f dom) (R1:Rs X.K H0 O0 ps σ H1 O) (Y:Yl X.K J (hid H1 O) xs) (hlen:ys.length=xs.length) (hz:xs.length≤sizeLine) (hdom:∀ x∈xs,dom x)
  (hte:∀ (i:Nat) (x y:U) (σ:St) (H:Hp) (O':List Addr) (Q:VK),xs[i]?=some x→ys[i]?=some y→Rs X.K H0 O0 (f (cY is ps) x) σ H O'→(∀ v H',aK H H'→Rp X.K (hid H' O') v y→Q v H')→te σ H Q)
  (fin:∀ a vs H',aK H1 H'→H1 a=none→H' a=some (.lst vs)→Rps X.K (hid H' (a::O)) vs ys→Q (.ref a) H'):mT is g te σ Q J H1:=by
 intro l hl
 refine ⟨fun i m H2=> m=xs.length - i∧i≤xs.length∧aK H1 H2∧∃ vs,H2 l=some (.lst vs)∧vs.length=i∧Rps X.K (hid H2 (l::O)) vs (ys.take i),⟨_,rfl,Nat.zero_le _,bB hl _,[],bf,rfl,by rw [List.take_zero]; exact .nil⟩,?_⟩
 rintro i m H2 ⟨rfl,hi,s2,vs,h2,hv,rs⟩
 have seen:aK (hid H1 O) (hid H2 (l::O)):=bY s2 hl
 obtain ⟨y1,y2⟩:=Y H2 (seen.trans aJ)
 by_cases hlt:i < xs.length
 ·obtain ⟨g1,g2⟩:=y1 i hlt
  refine .inr ⟨g1,fun x H3 y=> ?_⟩
  obtain ⟨rfl,u,hu,r⟩:=g2 x H3 y
  have R2:=(R1.mask (is:=is)).hide s2 hl (by rw [h2]; intro z; cases z)
  refine hg H0 O0 _ _ H3 (l::O) x u _ (hdom u (List.mem_of_getElem? hu)) R2 (r.same seen) fun σ4 R4 keep=> ?_
  have hy:ys[i]?=some (ys[i]'(by omega)):=List.getElem?_eq_getElem _
  refine hte i u _ σ4 H3 (l::O) _ hu hy R4 fun v H5 s5 r5=> ⟨fun j w e=> keep j w (ek is σ j w e).2 e,vs,s5 _ _ h2,?_,xs.length - (i+1),by omega,rfl,hlt,(s2.trans s5).put hl _,vs++[v],bf,by simp [hv],?_⟩
  ·rw [hv]; omega
  ·rw [gW List.mem_cons_self,List.take_succ,hy]
   exact (rs.same (a_ s5)).snoc (.cons r5 .nil)
 ·have e:i=xs.length:=by omega
  subst e
  rw [← hlen,List.take_length] at rs
  exact .inl ⟨y2,fin l vs H2 s2 hl h2 rs⟩
theorem g5 {elt:Expr} {scope:Scope} {cl:List (Str×Addr)} {is:List Nat} {g:TG} {f:PSt→U→PSt} {dom:U→Prop} (hc:X.calm=true) (B:ci X scope cl is) (hi:EvI X H0 O0 ps tg iter xs) (hg:∀ C s H fp,PG (ay X scope cl C s H fp) tg g) (gk:GOk g X.K is f dom)
  (hlen:ys.length=xs.length) (hz:xs.length≤sizeLine) (hdom:∀ x∈xs,dom x) (he:∀ C s H fp (i:Nat) (x y:U),xs[i]?=some x→ys[i]?=some y→Ev (ay X scope cl C s H fp) H0 O0 (f (cY is ps) x) elt y)
  (hs:∀ x,foldedSetIterable iter X.env x=pure x:=by intro _; rfl):EvN X H0 O0 ps (.ListComp elt [⟨tg,iter,[],0⟩] scope pos) ys:=by
 have hte:∀ C s H fp,PE (ay X scope cl C s H fp) elt fun σ H Q=> ∃ i x y,xs[i]?=some x∧ys[i]?=some y∧∃ O',Rs X.K H0 O0 (f (cY is ps) x) σ H O'∧∀ v H',aK H H'→Rp X.K (hid H' O') v y→Q v H':=
  fun C s H fp pins s' σ H' Q I ⟨i,x,y,h1,h2,z⟩=> he C s H fp i x y h1 h2 pins s' σ H' Q I z
 refine PE.mono (mF hc B hi hg hte hs) fun σ H Q ⟨O,R,q⟩=> ⟨O,R,fun J H1 s1 Y=> ?_⟩
 exact gj gk (R.go s1) Y hlen hz hdom (fun i x y σ H O' Q h1 h2 R' z=> ⟨i,x,y,h1,h2,O',R',z⟩) fun a vs H' s n h r=> q a vs H' (s1.trans s) (s1.free n) h r
theorem jU {elt:Expr} {scope:Scope} {cl:List (Str×Addr)} {spos py:Pos} {y:Str} {j:Nat} {is:List Nat} {g:TG} {f:PSt→U→PSt} {dom:U→Prop} (own:Bool) (hc:X.calm=true) (hN:X.N.Nodup) (hj:X.N[j]?=some y) (hy:Loc X.env.scope y) (B:ci X scope cl is)
  (hi:EvI X H0 O0 ps tg iter xs) (hg:∀ C s H fp,PG (ay X scope cl C s H fp) tg g) (gk:GOk g X.K is f dom) (hlen:ys.length=xs.length) (hz:xs.length≤sizeLine) (hdom:∀ x∈xs,dom x)
  (he:∀ C s H fp (i:Nat) (x y:U),xs[i]?=some x→ys[i]?=some y→Ev (ay X scope cl C s H fp) H0 O0 (f (cY is ps) x) elt y) (h:D.nx (ps.set j (some (if own then .own ys else .val (.lst ys)))))
  (hs:∀ x,foldedSetIterable iter X.env x=pure x:=by intro _; rfl)
  (hsw:swapsWith (.ListComp elt [⟨tg,iter,[],0⟩] scope pos) (some (.Name y py)) spos.line X.env=pure true:=by rfl) (hf:X.fn y=true∨X.env.scope.names.lookup y=some .local:=by first | exact .inl rfl | exact .inr rfl | assumption):
  W1 X H0 O0 E (.Assign [.Name y py] (.ListComp elt [⟨tg,iter,[],0⟩] scope pos) spos) D ps:=by
 have hte:∀ C s H fp,PE (ay X scope cl C s H fp) elt fun σ H Q=> ∃ i x y,xs[i]?=some x∧ys[i]?=some y∧∃ O',Rs X.K H0 O0 (f (cY is ps) x) σ H O'∧∀ v H',aK H H'→Rp X.K (hid H' O') v y→Q v H':=
  fun C s H fp pins s' σ H' Q I ⟨i,x,y,h1,h2,z⟩=> he C s H fp i x y h1 h2 pins s' σ H' Q I z
 refine PS.mono (i_ hc hN hj hy B hi hg hte hs hsw hf) fun D' σ H ⟨L,O,R⟩=> ⟨O,R,fun J H1 s1 Y=> ?_⟩
 refine gj gk (R.go s1) Y hlen hz hdom (fun i x y σ H O' Q h1 h2 R' z=> ⟨i,x,y,h1,h2,O',R',z⟩) fun a vs H' s n h' r=> ?_
 cases own with
 | true=> exact L.nx _ _ _ _ ((R.go s1).own s n h' r) h
 | false=>
  have na:a ∉ O:=fun z=> (R.go s1).dom a z n
  have r':=r.same (dq fun b hb=> List.mem_cons_of_mem a hb)
  exact L.nx _ _ _ _ (((R.go s1).go s).set (.lst (de h' na) r'.len r'.at_)) h
end
end L2
namespace L2
open PySem PySem.Spec PyProof.Rows
def spU (K:PySem.W.Frag) (spec:List U→Out→Prop):Sp:=fun vs H Q E=> ∃ us O o,(∀ a∈O,H a≠none)∧Rps K (hid H O) vs us∧spec us o∧h7 K H O Q E o
section
variable {X:Cx} {H0:Hp} {O0:List Addr} {E:XK} {ps ps':PSt} {D:PD} {s:Stmt} {ss body:List Stmt} {a b c e:Expr} {es:List Expr} {pos p:Pos} {u x y:U} {xs ys us:List U} {k:Bool}
 {CX:CXT} {n:Nat} {f C:Addr} {fd:FuncData} {pn:List Str} {spec:List U→Out→Prop} {nm:Str}
theorem al (F:aS X.prog X.w X.K X.mg X.base CX n f fd pn (spU X.K spec)) (hr:cG n X.A) (hg:Gl X nm) (hm:X.mg nm=some (.ref f)) (hk:PySem.W.keepIn X.K (.ref f)=true) (hb:aH X.K fd pn []) (hx:dZ CX X E0)
  (ha:EvA X H0 O0 ps (e::es) us) (h:spec us (.val u)) (hdb:(nm==("__debug__":Str))=false:=by decide) (he:starEach (e::es) X.env=(false,eval e X.env)::starEach es X.env:=by rfl) (hpl:(backTo pos (starEach es X.env)).any (·.1)=false:=by rfl):
  Ev X H0 O0 ps (.Call (.Name nm p) (e::es) [] pos) u:=
 PE.mono (gx F hr hg hm hk hb .nil hx ha hdb he hpl) fun σ H Q ⟨O,R,q⟩=> ⟨O,R,fun vs H1 s1 r1=> by
  show spU X.K spec (vs++[]) H1 Q _
  rw [List.append_nil]
  exact ⟨us,O,.val u,(R.go s1).dom,r1,h,fun v H2 s2 r2=> q v H2 (s1.trans s2) r2⟩⟩
theorem cv (F:aS X.prog X.w X.K X.mg X.base CX n f fd pn (spU X.K spec)) (hr:cG n X.A) (hg:Gl X nm) (hm:X.mg nm=some (.ref f)) (hk:PySem.W.keepIn X.K (.ref f)=true) (hb:aH X.K fd pn []) (hx:dZ CX X E0)
  (ha:EvA X H0 O0 ps (e::es) us) (h:spec us (.new xs)) (hdb:(nm==("__debug__":Str))=false:=by decide) (he:starEach (e::es) X.env=(false,eval e X.env)::starEach es X.env:=by rfl) (hpl:(backTo pos (starEach es X.env)).any (·.1)=false:=by rfl):
  EvN X H0 O0 ps (.Call (.Name nm p) (e::es) [] pos) xs:=
 PE.mono (gx F hr hg hm hk hb .nil hx ha hdb he hpl) fun σ H Q ⟨O,R,q⟩=> ⟨O,R,fun vs H1 s1 r1=> by
  show spU X.K spec (vs++[]) H1 Q _
  rw [List.append_nil]
  exact ⟨us,O,.new xs,(R.go s1).dom,r1,h,fun a vs H2 s2 n2 h2 r2=> q a vs H2 (s1.trans s2) (s1.free n2) h2 r2⟩⟩
def Xv (X:Cx) (H0:Hp) (O0:List Addr) (E:XK) (ps:PSt) (e:Expr) (C:Addr):Prop:=PE X e fun σ H _=> ∃ O,Rs X.K H0 O0 ps σ H O∧∀ H',aK H H'→E (.ref C) none H'
theorem dh (F:aS X.prog X.w X.K X.mg X.base CX n f fd pn (spU X.K spec)) (hr:cG n X.A) (hg:Gl X nm) (hm:X.mg nm=some (.ref f)) (hk:PySem.W.keepIn X.K (.ref f)=true) (hb:aH X.K fd pn []) (hx:dZ CX X E)
  (ha:EvA X H0 O0 ps (e::es) us) (h:spec us (.exc C)) (hdb:(nm==("__debug__":Str))=false:=by decide) (he:starEach (e::es) X.env=(false,eval e X.env)::starEach es X.env:=by rfl) (hpl:(backTo pos (starEach es X.env)).any (·.1)=false:=by rfl):
  Xv X H0 O0 E ps (.Call (.Name nm p) (e::es) [] pos) C:=
 PE.mono (gx F hr hg hm hk hb .nil hx ha hdb he hpl) fun σ H Q ⟨O,R,q⟩=> ⟨O,R,fun vs H1 s1 r1=> by
  show spU X.K spec (vs++[]) H1 Q _
  rw [List.append_nil]
  exact ⟨us,O,.exc C,(R.go s1).dom,r1,h,fun H2 s2=> q H2 (s1.trans s2)⟩⟩
theorem e_ (he:Xv X H0 O0 E ps e C) (h:D.rt (.exc C)) (hs:swapsWith e none pos.line X.env=pure false:=by rfl):W1 X H0 O0 E (.Expr e pos) D ps:=
 PS.mono (gZ he hs) fun D' σ H ⟨L,O,R⟩=> ⟨O,R,fun H' s=> L.rt _ h H' (R.same.trans s)⟩
theorem iS {i:Nat} {x:Str} {pos':Pos} (hN:X.N.Nodup) (hi:X.N[i]?=some x) (hx:Loc X.env.scope x) (he:Xv X H0 O0 E ps e C) (h:D.rt (.exc C)) (hs:swapsWith e (some (.Name x pos')) pos.line X.env=pure false:=by rfl) (hf:X.fn x=true∨X.env.scope.names.lookup x=some .local:=by first | exact .inl rfl | exact .inr rfl | assumption):
  W1 X H0 O0 E (.Assign [.Name x pos'] e pos) D ps:=PS.mono (i4 hN hi hx he hs hf) fun D' σ H ⟨L,O,R⟩=> ⟨O,R,fun H' s=> L.rt _ h H' (R.same.trans s)⟩
theorem lD (he:Xv X H0 O0 E ps e C) (h:D.rt (.exc C)):W1 X H0 O0 E (.Return (some e) pos) D ps:=
 PS.mono (gH he) fun D' σ H ⟨L,O,R⟩=> ⟨O,R,fun H' s=> L.rt _ h H' (R.same.trans s)⟩
end
section
variable {P:Program} {w:World} {K:PySem.W.Frag} {mg:Str→Option Value} {base:Heap} {N pn:List Str} {qual nm:Str} {scope:Scope} {f:Addr} {cd:Value} {A:Around} {outer:List Env} {s:Shared} {H H0:Hp} {O0:List Addr} {E:XK} {D:PD} {ps:PSt} {u:U}
theorem dC {x:Str} {C:Addr} {e0:Expr} {np cpos pos:Pos} (hex:PySem.W.excIn K C [.type "ValueError",.type "Exception",.type "BaseException",.type "object"] "ValueError.__new__"=true)
  (hg:Gl (cU (CXF P w) P w K mg base N qual scope f cd A outer s H E) x) (hm:mg x=some (.ref C)) (he:Ev (cU (CXF P w) P w K mg base N qual scope f cd A outer s H E) H0 O0 ps e0 u) (h:D.rt (.exc C))
  (hst:starEach [e0] (cU (CXF P w) P w K mg base N qual scope f cd A outer s H E).env=[(false,eval e0 (cU (CXF P w) P w K mg base N qual scope f cd A outer s H E).env)]:=by rfl) (hd:(x==("__debug__":Str))=false:=by decide):
  W1 (cU (CXF P w) P w K mg base N qual scope f cd A outer s H E) H0 O0 E (.Raise (some (.Call (.Name x np) [e0] [] cpos)) none pos) D ps:=
 PS.mono (kr hex hg hm he hst hd) fun D' σ H ⟨L,O,R⟩=> ⟨O,R,fun v H' s r=> L.rt _ h H' (R.same.trans s)⟩
def hI (N:List Str) (us:List U):PSt:=us.map (fun u=> some (.val u))++List.replicate (N.length - us.length) none
theorem aU {st:Stmt} {fd:FuncData} {k:Nat} {spec:List U→Out→Prop} (F:Fun K nm qual st f fd) (S:av N pn (ah st)) (len:∀ us o,spec us o→us.length=pn.length)
  (hbody:∀ (cdv:Value) (A:Around) (outer:List Env) (s:Shared) (H:Hp) (E:XK) (O:List Addr) (us:List U) (o:Out),cG k (A.deeper (envOfC qual (ah st) s.heap.objs.size f cdv))→spec us o→
   Ws (cU (CXF P w) P w K mg base N qual (ah st) f cdv A outer s H E) H O E (aq st) ⟨fun _=> o=.val .non,fun o'=> o'=o,fun _=> False,fun _=> False⟩ (hI N us)):aS P w K mg base (CXF P w) (k+1) f fd pn (spU K spec):=by
 refine F.okF S (fun vs H Q E h=> ?_) fun cdv A outer s H vs Q E hr h=> ?_
 ·obtain ⟨us,O,o,_,r,hsp,_⟩:=h
  rw [r.len]; exact len us o hsp
 ·obtain ⟨us,O,o,d,r,hsp,q⟩:=h
  refine ⟨_,hbody cdv A outer s H E O us o hr hsp,⟨fun ps σ H' O' R e=> ?_,fun _ _ _ _ _ e=> e.elim,fun _ _ _ _ _ e=> e.elim,fun o' e=> by subst e; exact q⟩,O,?_⟩
  ·subst e; exact q .non H' R.same .non
  ·refine ⟨.refl H,fun a h=> h,fun a h=> .inl h,d,?_,fun i sl e=> ?_,fun i j xs ys a e1 e2 _ _=> ?_⟩
   ·unfold start hI
    rw [List.length_append,List.length_append,List.length_map,List.length_map,List.length_replicate,List.length_replicate,r.len]
   ·unfold hI at e
    by_cases hi:i < us.length
    ·rw [List.getElem?_append_left (by simpa using hi),List.getElem?_map,List.getElem?_eq_getElem hi] at e
     cases e
     obtain ⟨v,h1,h2⟩:=r.get (List.getElem?_eq_getElem hi)
     refine ⟨v,?_,h2⟩
     unfold start
     rw [List.getElem?_append_left (by simpa [r.len] using hi),List.getElem?_map,h1]; rfl
    ·rw [List.getElem?_append_right (by simpa using hi),List.getElem?_replicate] at e
     split at e <;> cases e
   ·exfalso
    unfold hI at e1
    by_cases hi:i < us.length
    ·rw [List.getElem?_append_left (by simpa using hi),List.getElem?_map,List.getElem?_eq_getElem hi] at e1
     cases e1
    ·rw [List.getElem?_append_right (by simpa using hi),List.getElem?_replicate] at e1
     split at e1 <;> cases e1
end
section
variable {X:Cx} {H0:Hp} {O0:List Addr} {ps:PSt} {a b c e:Expr} {es bq:List Expr} {pos p p2:Pos} {u x y:U} {xs ys us:List U} {i j:Int} {k m:Bool} {lo hi:Option Expr} {l h:Option Int}
def EvO (X:Cx) (H0:Hp) (O0:List Addr) (ps:PSt) (e:Option Expr) (n:Option Int):Prop:=PO X e fun σ H Q=> ∃ O,Rs X.K H0 O0 ps σ H O∧∀ H',aK H H'→Q n H'
theorem nl:EvO X H0 O0 ps none none:=fun pins s σ H Q I ⟨O,R,q⟩=> lU pins s σ H Q I (q H (.refl H))
theorem n_ (he:Ev X H0 O0 ps e (.int i)):EvO X H0 O0 ps (some e) (some i):=fun pins s σ H Q I ⟨O,R,q⟩=> lW he pins s σ H Q I ⟨O,R,fun v H' s r=> by cases r; exact ⟨i,rfl,q H' s⟩⟩
def kE (xs:List U) (lo hi:Option Int):List U:=(xs.drop (HT.sIx xs.length 0 lo)).take (HT.sIx xs.length xs.length hi - HT.sIx xs.length 0 lo)
theorem Rps.drop {K:PySem.W.Frag} {H:Hp} {vs:List V} {xs:List U} (r:Rps K H vs xs) (n:Nat):Rps K H (vs.drop n) (xs.drop n):=⟨by simp [r.len],fun i v x h1 h2=> r.at_ _ v x (by rwa [List.getElem?_drop] at h1) (by rwa [List.getElem?_drop] at h2)⟩
theorem Rps.take {K:PySem.W.Frag} {H:Hp} {vs:List V} {xs:List U} (r:Rps K H vs xs) (n:Nat):Rps K H (vs.take n) (xs.take n):=⟨by simp [r.len],fun i v x h1 h2=> by
 by_cases hn:i < n
 ·rw [List.getElem?_take_of_lt hn] at h1 h2
  exact r.at_ i v x h1 h2
 ·rw [List.getElem?_take_eq_none (by omega)] at h1
  cases h1⟩
theorem Rps.cut {K:PySem.W.Frag} {H:Hp} {vs:List V} {xs:List U} (r:Rps K H vs xs):Rps K H (jM vs l h) (kE xs l h):=by
 unfold jM kE
 rw [r.len]
 exact (r.drop _).take _
theorem lT (he:Ev X H0 O0 ps e x) (hl:EvO X H0 O0 ps lo l) (hh:EvO X H0 O0 ps hi h) (hx:x=.lst xs∨x=.scr xs):EvN X H0 O0 ps (.Subscript e (.Slice lo hi none p2) pos) (kE xs l h):=
 PE.mono (lH mf he hl hh) fun σ H Q ⟨O,R,q⟩=> ⟨O,R,fun v H1 s1 r1=> ⟨O,R.go s1,fun H2 s2=> ⟨O,R.go (s1.trans s2),fun H3 s3=> by
  have key:∃ a vs,v=.ref a∧SqL X.K (hid H1 O) a vs∧Rps X.K (hid H1 O) vs xs:=by
   rcases hx with rfl | rfl
   ·cases r1 with
    | lst hq hl hh=> exact ⟨_,_,rfl,SqL.of hq,hl,hh⟩
   ·cases r1 with
    | scr hq hl hh=> exact ⟨_,_,rfl,hq,hl,hh⟩
  obtain ⟨a,vs,rfl,hq,rs⟩:=key
  have s13:=s2.trans s3
  refine ⟨a,vs,rfl,s13.seq (aJ.seq hq),fun p hp=> q p _ _ ((s1.trans s13).trans (bB hp _)) ((s1.trans s13).free hp) bf ?_⟩
  exact (rs.cut.same (a_ s13)).same (bY (bB hp _) hp)⟩⟩⟩
theorem dP (ha:Ev X H0 O0 ps a (.lst xs)) (hb:Ev X H0 O0 ps b (.lst ys)) (hz:xs.length+ys.length≤sizeLine):EvN X H0 O0 ps (.BinOp a .Add b pos) (xs++ys):=
 PE.mono (kF nT ha hb) fun σ H Q ⟨O,R,q⟩=> two R (fun _ _ _ z=> z) (fun _ _ _ z=> z) fun v w H' s _ r1 r2=> by
  cases r1 with
  | lst hq hl hh=>
   cases r2 with
   | lst hq' hl' hh'=>
    refine ⟨_,_,_,_,rfl,rfl,aJ _ _ hq,aJ _ _ hq',by rw [hl,hl']; exact hz,fun p hp=> q p _ _ (s.trans (bB hp _)) (s.free hp) bf ?_⟩
    exact (Rps.snoc ⟨hl,hh⟩ ⟨hl',hh'⟩).same (bY (bB hp _) hp)
def fl:U→V
 | .bl b=> .bl b | .int i=> .int i | .str x=> .str x | _=> .non
def kH:U→Bool
 | .bl _=> true | .int _=> true | .str _=> true | .non=> true | _=> false
theorem mX {K:PySem.W.Frag} {H:Hp} {v:V} {u:U} (h:Rp K H v u) (f:kH u=true):v=fl u∧dR v=true:=by
 cases h <;> first | exact ⟨rfl,rfl⟩ | simp [kH] at f
theorem lz {K:PySem.W.Frag} {H:Hp}:∀ {vs:List V} {xs:List U},Rps K H vs xs→xs.all kH=true→vs=xs.map fl∧vs.all dR=true
 | vs,[],r,_=> by rw [r.nil_inv]; exact ⟨rfl,rfl⟩
 | vs,x::xs,r,f=> by
  obtain ⟨v,ws,rfl,h1,h2⟩:=r.cons_inv
  simp only [List.all_cons,Bool.and_eq_true] at f
  obtain ⟨e1,e2⟩:=mX h1 f.1
  obtain ⟨e3,e4⟩:=lz h2 f.2
  refine ⟨by rw [List.map_cons,← e1,← e3],?_⟩
  simp only [List.all_cons,Bool.and_eq_true]
  exact ⟨e2,e4⟩
theorem p5 (hx:kH x=true) (hy:y.items=some ys) (hf:ys.all kH=true):OpS X (compareOp .In) x y (.bl (inV (fl x) (ys.map fl))):=by
 intro pins s σ H v w p q Q I r1 r2 h
 obtain ⟨k1,k2,k3⟩:=h
 obtain ⟨a,vs,rfl,h1,h2⟩:=ji k2 hy
 obtain ⟨e1,e2⟩:=mX k1 hx
 obtain ⟨e3,e4⟩:=lz h2 hf
 exact jw pins s σ H v _ p q Q I r1 r2 ⟨a,vs,rfl,h1,e2,e4,by rw [e1,e3]; exact k3⟩
theorem pI {bs:List Bool} (hc:X.calm=true):ed X (.builtin "all") [.lst (bs.map U.bl)] (.bl (bs.all id)):=by
 intro pins s σ H vs us Q I r hq
 obtain ⟨O,d,rs,q⟩:=hq
 obtain ⟨v,rfl,h1⟩:=df rs
 obtain ⟨p1,rfl,r1⟩:=f_ r
 cases h1 with
 | @lst a ws _ hq hl hh=>
  cases r1
  obtain ⟨its,rv,pl,_⟩:=I.list (SqL.of (aJ _ _ hq))
  have hlen:its.length=bs.length:=by rw [← rv.length,hl,List.length_map]
  have hat:∀ (i:Nat) (z:Value),its.toArray[i]?=some z→z=.bool (bs.getD i false):=fun i z e=> by
   have hi:i < its.length:=by have:=bi (show its[i]?=some z by simpa using e); exact this
   have hb:i < bs.length:=by omega
   have hw:i < ws.length:=by rw [rv.length]; exact hi
   obtain ⟨u,e1,e2⟩:=rv.get (List.getElem?_eq_getElem hw)
   have e3:=hh i ws[i] (.bl bs[i]) (List.getElem?_eq_getElem hw) (by rw [List.getElem?_map,List.getElem?_eq_getElem hb]; rfl)
   have e4:its[i]?=some z:=by simpa using e
   rw [e4] at e1
   cases e1
   generalize ws[i]=wi at *
   cases e3
   rw [List.getD_eq_getElem?_getD,List.getElem?_eq_getElem hb]
   exact e2
  refine call_all_walk (wpAny_pyIter_list pl.isList ?_)
  have hne:a≠s.heap.objs.size:=by obtain ⟨o,e,_⟩:=pl.isList; exact Nat.ne_of_lt (Heap.lt_size e)
  refine ⟨s.heap.objs.size,_,_,_,_,_,fun i=> bs.getD i false,rfl,Walks.list (A:=X.A.in1) (I.ok.hd hc) s.heap.objs.size a hne its.toArray,⟨⟨_,Heap.get?_push_size _ rfl,rfl,rfl⟩,pl.isList.push _⟩,fun i z s' Q' E' hP hQ=> ?_,fun h' tk hk=> ?_⟩
  ·rw [hat i z hP]; exact wpAny_truthy_bool hQ
  ·have e:(List.range its.toArray.size).all (fun i=> bs.getD i false)=bs.all id:=by
    rw [List.size_toArray,hlen,Bool.eq_iff_iff,gc,List.all_eq_true]
    constructor
    ·intro h x hx
     obtain ⟨i,hi,rfl⟩:=List.getElem_of_mem hx
     have:=h i hi
     rwa [List.getD_eq_getElem?_getD,List.getElem?_eq_getElem hi] at this
    ·intro h j hj
     rw [List.getD_eq_getElem?_getD,List.getElem?_eq_getElem hj]
     exact h _ (List.getElem_mem hj)
   rw [e]
   refine ⟨.bl _,H,I.kept (t':=tk) fun b o e=> hk b o ?_ (Heap.get?_push_of_some _ e),rfl,q _ H (.refl H) (.bl _)⟩
   intro z
   have:b=s.heap.objs.size:=by simpa using z
   exact absurd (Heap.lt_size e) (by rw [this]; exact Nat.lt_irrefl _)
end
end L2
namespace L2
open PySem PySem.Spec PyProof.Rows
def j3 (J:It) (is:List Nat) (g:TG) (tt:TT) (te:TE) (σ:St) (H1:Hp) (l:Addr) (Q:VK):Prop:=
 ∃ W:Nat→Nat→Hp→Prop,(∃ m,W 0 m (upd H1 l (.lst [])))∧∀ i m H2,W i m H2→
  (J.stop i H2∧Q (.ref l) H2)∨(J.go i H2∧∀ x H3,J.yld i H2 x H3→g x (mask is σ) H3 fun σ4 H4=> tt σ4 H4 fun b H5=>
   (∀ (j:Nat) (v:V),(mask is σ)[j]?=some (some v)→σ4[j]?=some (some v))∧
   if b=true then te σ4 H5 fun y H6=> ∃ vs,H6 l=some (.lst vs)∧vs.length < sizeLine∧∃ m',m' < m∧W (i+1) m' (upd H6 l (.lst (vs++[y]))) else ∃ m',m' < m∧W (i+1) m' H5)
def kG (is:List Nat) (g:TG) (tt:TT) (te:TE) (σ:St) (Q:VK) (J:It) (H1:Hp):Prop:=∀ l,H1 l=none→j3 J is g tt te σ H1 l Q
def j_ (is:List Nat) (wi:TI) (g:TG) (tt:TT) (te:TE):TE:=fun σ H Q=> wi σ H (kG is g tt te σ Q)
section
variable {X:Cx} {pins:List (Addr×Obj)} {σ:St} {H:Hp} {s:Shared}
theorem jY {elt iter tg:Expr} {scope:Scope} {cl:List (Str×Addr)} {pos pos0:Pos} {is:List Nat} {wi:TI} {g:TG} {tt:TT} {te:TE} {cond:Expr} {use:Option (Value→Sem Unit)} {Q0:VK} {Q:Value→Shared→Prop} (hc:X.calm=true) (B:ci X scope cl is)
  (hi:PI X tg iter wi) (hg:∀ C s H fp,PG (ay X scope cl C s H fp) tg g) (ht:∀ C s H fp,PT (ay X scope cl C s H fp) cond tt) (he:∀ C s H fp,PE (ay X scope cl C s H fp) elt te) (hs:∀ x,foldedSetIterable iter X.env x=pure x)
  (I:Inv X pins σ H s) (h:j_ is wi g tt te σ H Q0)
  (fin:∀ (l C:Addr) (H':Hp) (s':Shared) (m:Str→Option Value),Inv X pins σ H' s'→s'.heap.Ns C m→H' C=none→C≠X.env.locals→C ∉ X.fs→X.s₀.heap.objs.size≤C→(∀ x c,X.env.cells.lookup x=some c→c≠C)→(∀ p∈X.pn++pins,p.1≠C)→Q0 (.ref l) H'→
   compPost (model X.prog X.w) X.A X.xe use Q (.ref l) C (.ok .next) s'):
  wpAny (model X.prog X.w) X.A (comprehension (.ListComp elt [⟨tg,iter,[cond],0⟩] scope pos) scope X.env pos0 (newList []) false (eval iter X.env) use) Q X.xe s:=by
 refine wpAny_comprehension_free rfl hs B.clos B.kind B.names (thn (hi pins s σ H _ I h) fun xv s1 h1=> thn h1 fun itv s2 h2=> ?_)
 obtain ⟨it,fp,tn,J,H2,e,I2,T,st2,f2,R⟩:=h2
 subst e
 refine wpAny_newObj_type (wpAny_newFunctionEnv B.cell (by intro y hy; simp at hy) (fun h₁ hns hsb=> ?_) B.kind)
 have hl:H2 s2.heap.objs.size=none:=I2.hok.fresh (Nat.le_refl _)
 obtain ⟨W,⟨m0,w0⟩,turn⟩:=R s2.heap.objs.size hl
 have I3:Inv X pins σ (upd H2 s2.heap.objs.size (.lst [])) { s2 with heap:=s2.heap.push { cls:=.type "list",dict:=none,data:=.seq ([]:List Value).toArray } }:=
  I2.laid (t':=s2.toks) (o:=.lst []) (fun b u e=> Heap.get?_push_of_some _ e) (Nat.le_refl _) ⟨Nat.zero_le _,[],0,.nil,Heap.get?_push_size _ rfl⟩
 have hfl:∀ b∈fp,b < s2.heap.objs.size:=fun b hb=> let ⟨o,e,_⟩:=T.obj 0 _ st2 b hb; Heap.lt_size e
 have f3:∀ b∈fp,fN X pins (upd H2 s2.heap.objs.size (.lst [])) b:=fun b hb=> ⟨by rw [aR (Nat.ne_of_lt (hfl b hb))]; exact (f2 b hb).1,(f2 b hb).2⟩
 have kp:∀ b o,(s2.heap.push { cls:=.type "list",dict:=none,data:=.seq ([]:List Value).toArray }).get? b=some o→h₁.get? b=some o:=fun b o e=>
  hsb.extBut b o (Nat.ne_of_lt (Heap.lt_size e)) (Heap.get?_push_of_some _ e)
 have st4:tn 0 h₁:=T.keep 0 _ _ st2 fun b _ o e=> kp b o (Heap.get?_push_of_some _ e)
 have hfl3:∀ b∈fp,b < (s2.heap.push { cls:=.type "list",dict:=none,data:=.seq ([]:List Value).toArray }).objs.size:=fun b hb=> by
  rw [Heap.size_push]; exact Nat.lt_succ_of_lt (hfl b hb)
 have I4:=eU (t':=s2.toks+([]:List (Str×Value)).length) I3 B f3 hfl3 hns kp
 have loop:codeAny (model X.prog X.w) X.A (.compLoop (.ListComp elt [⟨tg,iter,[cond],0⟩] scope pos) 0 (.ref it) (.ref s2.heap.objs.size) (compEnvC scope cl (s2.heap.push { cls:=.type "list",dict:=none,data:=.seq ([]:List Value).toArray }).objs.size X.env))
   (compPost (model X.prog X.w) X.A X.xe use Q (.ref s2.heap.objs.size) (s2.heap.push { cls:=.type "list",dict:=none,data:=.seq ([]:List Value).toArray }).objs.size)
   { s2 with heap:=h₁,toks:=s2.toks+([]:List (Str×Value)).length }:=by
  generalize hs3:({ s2 with heap:=s2.heap.push { cls:=.type "list",dict:=none,data:=.seq ([]:List Value).toArray } }:Shared)=s3 at *
  have hC:(s2.heap.push { cls:=.type "list",dict:=none,data:=.seq ([]:List Value).toArray }).objs.size=s3.heap.objs.size:=by rw [← hs3]
  rw [hC]
  have hstat:∀ {H':Hp},(∀ b∈fp,H' b=none)→∀ b∈fp,fN (ay X scope cl s3.heap.objs.size s3 (upd H2 s2.heap.objs.size (.lst [])) fp) [] H' b:=fun hn b hb=>
   ⟨hn b hb,(I4.ok.exf b hb).1,I4.ok.exfs b hb,.inl hb,fun x c e=> (I4.ok.exf b hb).2 x c e,fun p hp=> absurd (show p∈([]:List (Addr×Obj)) from hp) (by simp)⟩
  have back:∀ {σ':St} {H':Hp} {pp:List (Addr×Obj)} {s':Shared},Inv (ay X scope cl s3.heap.objs.size s3 (upd H2 s2.heap.objs.size (.lst [])) fp) pp σ' H' s'→Inv X pins σ H' s':=fun I'=>
   I3.call' (ch:=fp) I'.os I'.base I'.hok I'.bare fun b hb=> ⟨(f3 b hb).2.2.2.1,(f3 b hb).2.1,(f3 b hb).2.2.2.2.1,(f3 b hb).2.2.2.2.2⟩
  refine codeAny_loop rfl (fun n s'=> ∃ i H',Inv (ay X scope cl s3.heap.objs.size s3 (upd H2 s2.heap.objs.size (.lst [])) fp) [] (mask is σ) H' s'∧tn i s'.heap∧(∀ b∈fp,H' b=none)∧W i n H') ?_ m0 ⟨0,_,(by subst hs3; exact I4),st4,fun b hb=> (f3 b hb).1,w0⟩
  rintro n s5 ⟨i,H5,I5,st5,fr5,w5⟩
  show wpAny _ _ ((compTurn (.ListComp elt [⟨tg,iter,[cond],0⟩] scope pos) 0 (.ref it) (.ref s2.heap.objs.size) (compEnvC scope cl s3.heap.objs.size X.env)).onRaise (fun x=> do noteFrame x (compEnvC scope cl s3.heap.objs.size X.env); theTreesLotGoes x)) _ _ s5
  refine wpAny_noted ?_
  rw [compTurn_list]
  refine wpAny_bind (wpAny_standAt (wpAny_bind ?_))
  rcases turn i n H5 w5 with ⟨stop,q⟩ | ⟨go,step⟩
  ·refine thn (T.done (ay X scope cl s3.heap.objs.size s3 (upd H2 s2.heap.objs.size (.lst [])) fp) rfl rfl rfl hc i [] s5 _ H5 _ I5 (hstat fr5) st5 stop) fun r s6 ⟨hr,I6⟩=> ?_
   subst hr
   refine wpAny_pure ?_
   obtain ⟨m6,hn6,_⟩:=I6.loc
   have hCn:∀ b,b < s3.heap.objs.size→b≠s3.heap.objs.size:=fun b hb=> Nat.ne_of_lt hb
   refine fin _ s3.heap.objs.size H5 s6 m6 (back I6) hn6 I6.free (Nat.ne_of_gt I3.lt) (I3.nofs (Nat.le_refl _)) I3.sz (fun x c e=> ?_) (fun p hp=> ?_) q
   ·obtain ⟨v,z⟩:=I3.cell x c e
    exact Nat.ne_of_lt z.lt
   ·exact Nat.ne_of_lt (Heap.lt_size (I3.pin p hp).1)
  ·refine thn (T.item (ay X scope cl s3.heap.objs.size s3 (upd H2 s2.heap.objs.size (.lst [])) fp) rfl rfl rfl hc i [] s5 _ H5 _ I5 (hstat fr5) st5 go) fun r s6 ⟨u,hr,h6⟩=> ?_
   subst hr
   refine wpAny_bind (thn h6 fun _ s7 ⟨x,H7,I7,r7,y7,st7,fr7⟩=> ?_)
   have I7':=I7.pinned (hstat fr7) (T.obj _ _ st7)
   refine wpAny_bind (wpAny_mono (hg _ _ _ _ _ s7 (mask is σ) H7 x u _ I7' r7 (step x H7 y7)) (fun _ s8 ⟨σ8,H8,I8,q8⟩=> ?_) fun _ _ z=> z.elim)
   refine wpAny_bind (wpAny_tests_one (wpAny_mono (ht _ _ _ _ _ s8 σ8 H8 _ I8 q8) (fun bb s9 ⟨H9,I9,sub,q9⟩=> ?_) fun _ _ z=> z.elim))
   have fpn:∀ {H':Hp} {s':Shared} {σ':St},Inv (ay X scope cl s3.heap.objs.size s3 (upd H2 s2.heap.objs.size (.lst [])) fp) ([]++fm fp s7.heap) σ' H' s'→tn (i+1) s'.heap∧∀ b∈fp,H' b=none:=fun {H' s' σ'} J=> ⟨T.keep _ _ _ st7 fun b hb o e=> (J.pin (b,o) (List.mem_append_right _ (List.mem_append_right _ (cg hb e)))).1,fun b hb=> by
    obtain ⟨o,e,d⟩:=T.obj _ _ st7 b hb
    exact (J.pin (b,o) (List.mem_append_right _ (List.mem_append_right _ (cg hb e)))).2.1⟩
   cases bb with
   | true=>
    rw [if_pos rfl] at q9
    simp only [if_true]
    refine wpAny_bind (wpAny_bind (wpAny_mono (he _ _ _ _ _ s9 σ8 H9 _ I9 q9) (fun v s10 ⟨y,H10,I10,r10,vs,hl10,hz,m',hm,w'⟩=> ?_) fun _ _ z=> z.elim))
    refine wpAny_bind (wpAny_mono (eK (X:=ay X scope cl s3.heap.objs.size s3 (upd H2 s2.heap.objs.size (.lst [])) fp) _ s10 σ8 H10 (.ref s2.heap.objs.size) [y] (.ref s2.heap.objs.size) [v] (fun _ H'=> H'=upd H10 s2.heap.objs.size (.lst (vs++[y]))) I10 rfl (.cons r10 .nil) ⟨_,vs,y,rfl,rfl,hl10,hz,rfl⟩) (fun z s11 ⟨zv,H11,I11,_,e11⟩=> ?_) fun _ _ z=> z.elim)
    subst e11
    obtain ⟨k1,k2⟩:=fpn I11
    exact wpAny_pure (wpAny_pure ⟨rfl,m',hm,i+1,_,(I11.unpinned (pins:=[])).weak (by rw [I11.len,cV,I.len]) sub,k1,k2,w'⟩)
   | false=>
    rw [if_neg (by decide)] at q9
    simp only [Bool.false_eq_true,if_false]
    obtain ⟨m',hm,w'⟩:=q9
    obtain ⟨k1,k2⟩:=fpn I9
    first
     | exact wpAny_pure ⟨rfl,m',hm,i+1,_,(I9.unpinned (pins:=[])).weak (by rw [I9.len,cV,I.len]) sub,k1,k2,w'⟩
     | exact wpAny_bind (wpAny_pure (wpAny_pure ⟨rfl,m',hm,i+1,_,(I9.unpinned (pins:=[])).weak (by rw [I9.len,cV,I.len]) sub,k1,k2,w'⟩))
 exact codeAny_compStart_list loop (T.self X.A 0 _ _ _ st4 loop)
theorem ke {elt iter tg:Expr} {scope:Scope} {cl:List (Str×Addr)} {pos:Pos} {is:List Nat} {wi:TI} {g:TG} {tt:TT} {te:TE} {cond:Expr} (hc:X.calm=true) (B:ci X scope cl is)
  (hi:PI X tg iter wi) (hg:∀ C s H fp,PG (ay X scope cl C s H fp) tg g) (ht:∀ C s H fp,PT (ay X scope cl C s H fp) cond tt) (he:∀ C s H fp,PE (ay X scope cl C s H fp) elt te) (hs:∀ x,foldedSetIterable iter X.env x=pure x:=by intro _; rfl):
  PE X (.ListComp elt [⟨tg,iter,[cond],0⟩] scope pos) (j_ is wi g tt te):=by
 intro pins s σ H Q I h
 rw [eval_ListComp]
 refine jY (use:=none) hc B hi hg ht he hs I h fun l C H' s' m I' hn h1 h2 h3 h4 h5 h6 q=> ⟨m,hn,fun h' hsb=> ?_⟩
 exact ⟨.ref l,H',I'.turned (t':=s'.toks) (fun b o hb e=> hsb.extBut b o hb e) h1 (Ne.symm h2.symm) (.inr h4) h5 h6,rfl,q⟩
end
section
variable {X:Cx} {H0:Hp} {O0:List Addr} {E:XK} {ps ps':PSt} {D:PD} {tg iter cond:Expr} {pos p:Pos} {xs:List U} {fs:List (Option U)}
theorem iV {is:List Nat} {g:TG} {f:PSt→U→PSt} {dom:U→Prop} {σ:St} {H1:Hp} {O:List Addr} {Q:VK} {J:It} {tt:TT} {te:TE} (hg:GOk g X.K is f dom) (R1:Rs X.K H0 O0 ps σ H1 O) (Y:Yl X.K J (hid H1 O) xs) (hlen:fs.length=xs.length) (hz:xs.length≤sizeLine) (hdom:∀ x∈xs,dom x)
  (htt:∀ (i:Nat) (x:U) (o:Option U) (σ:St) (H:Hp) (O':List Addr) (Q:Bool→Hp→Prop),xs[i]?=some x→fs[i]?=some o→Rs X.K H0 O0 (f (cY is ps) x) σ H O'→(∀ H',aK H H'→Q o.isSome H')→tt σ H Q)
  (hte:∀ (i:Nat) (x y:U) (σ:St) (H:Hp) (O':List Addr) (Q:VK),xs[i]?=some x→fs[i]?=some (some y)→Rs X.K H0 O0 (f (cY is ps) x) σ H O'→(∀ v H',aK H H'→Rp X.K (hid H' O') v y→Q v H')→te σ H Q)
  (fin:∀ a vs H',aK H1 H'→H1 a=none→H' a=some (.lst vs)→Rps X.K (hid H' (a::O)) vs (fs.filterMap id)→Q (.ref a) H'):kG is g tt te σ Q J H1:=by
 intro l hl
 refine ⟨fun i m H2=> m=xs.length - i∧i≤xs.length∧aK H1 H2∧∃ vs,H2 l=some (.lst vs)∧vs.length≤i∧Rps X.K (hid H2 (l::O)) vs ((fs.take i).filterMap id),⟨_,rfl,Nat.zero_le _,bB hl _,[],bf,Nat.le_refl _,by rw [List.take_zero]; exact .nil⟩,?_⟩
 rintro i m H2 ⟨rfl,hi,s2,vs,h2,hv,rs⟩
 have seen:aK (hid H1 O) (hid H2 (l::O)):=bY s2 hl
 obtain ⟨y1,y2⟩:=Y H2 (seen.trans aJ)
 by_cases hlt:i < xs.length
 ·obtain ⟨g1,g2⟩:=y1 i hlt
  refine .inr ⟨g1,fun x H3 y=> ?_⟩
  obtain ⟨rfl,u,hu,r⟩:=g2 x H3 y
  have R2:=(R1.mask (is:=is)).hide s2 hl (by rw [h2]; intro z; cases z)
  refine hg H0 O0 _ _ H3 (l::O) x u _ (hdom u (List.mem_of_getElem? hu)) R2 (r.same seen) fun σ4 R4 keep=> ?_
  obtain ⟨o,ho⟩:∃ o,fs[i]?=some o:=⟨_,List.getElem?_eq_getElem (by omega)⟩
  refine htt i u o σ4 H3 (l::O) _ hu ho R4 fun H5 s5=> ⟨fun j w e=> keep j w (ek is σ j w e).2 e,?_⟩
  cases o with
  | none=>
   refine i8 ⟨xs.length - (i+1),by omega,rfl,hlt,s2.trans s5,vs,s5 _ _ h2,by omega,?_⟩
   rw [List.take_succ,ho,Option.toList_some,List.filterMap_append]
   simpa using rs.same (a_ s5)
  | some yv=>
   refine iU (hte i u yv σ4 H5 (l::O) _ hu ho (R4.go s5) fun v H6 s6 r6=> ⟨vs,s6 _ _ (s5 _ _ h2),?_,xs.length - (i+1),by omega,rfl,hlt,((s2.trans s5).trans s6).put hl _,vs++[v],bf,by simp; omega,?_⟩)
   ·omega
   ·rw [gW List.mem_cons_self,List.take_succ,ho,Option.toList_some,List.filterMap_append]
    exact ((rs.same (a_ s5)).same (a_ s6)).snoc (.cons r6 .nil)
 ·have e:i=xs.length:=by omega
  subst e
  rw [← hlen,List.take_length] at rs
  exact .inl ⟨y2,fin l vs H2 s2 hl h2 rs⟩
theorem lL {elt:Expr} {scope:Scope} {cl:List (Str×Addr)} {is:List Nat} {g:TG} {f:PSt→U→PSt} {dom:U→Prop} (fs:List (Option U)) (hc:X.calm=true) (B:ci X scope cl is) (hi:EvI X H0 O0 ps tg iter xs) (hg:∀ C s H fp,PG (ay X scope cl C s H fp) tg g) (gk:GOk g X.K is f dom)
  (hlen:fs.length=xs.length) (hz:xs.length≤sizeLine) (hdom:∀ x∈xs,dom x) (ht:∀ C s H fp (i:Nat) (x:U) (o:Option U),xs[i]?=some x→fs[i]?=some o→Tt (ay X scope cl C s H fp) H0 O0 (f (cY is ps) x) cond o.isSome)
  (he:∀ C s H fp (i:Nat) (x y:U),xs[i]?=some x→fs[i]?=some (some y)→Ev (ay X scope cl C s H fp) H0 O0 (f (cY is ps) x) elt y)
  (hs:∀ x,foldedSetIterable iter X.env x=pure x:=by intro _; rfl):EvN X H0 O0 ps (.ListComp elt [⟨tg,iter,[cond],0⟩] scope pos) (fs.filterMap id):=by
 have hte:∀ C s H fp,PE (ay X scope cl C s H fp) elt fun σ H Q=> ∃ i x y,xs[i]?=some x∧fs[i]?=some (some y)∧∃ O',Rs X.K H0 O0 (f (cY is ps) x) σ H O'∧∀ v H',aK H H'→Rp X.K (hid H' O') v y→Q v H':=
  fun C s H fp pins s' σ H' Q I ⟨i,x,y,h1,h2,z⟩=> he C s H fp i x y h1 h2 pins s' σ H' Q I z
 have htt:∀ C s H fp,PT (ay X scope cl C s H fp) cond fun σ H Q=> ∃ (i:Nat) (x:U) (o:Option U),xs[i]?=some x∧fs[i]?=some o∧∃ O',Rs X.K H0 O0 (f (cY is ps) x) σ H O'∧∀ H',aK H H'→Q o.isSome H':=
  fun C s H fp pins s' σ H' Q I ⟨i,x,o,h1,h2,z⟩=> ht C s H fp i x o h1 h2 pins s' σ H' Q I z
 refine PE.mono (ke hc B hi hg htt hte hs) fun σ H Q ⟨O,R,q⟩=> ⟨O,R,fun J H1 s1 Y=> ?_⟩
 exact iV gk (R.go s1) Y hlen hz hdom (fun i x o σ H O' Q h1 h2 R' z=> ⟨i,x,o,h1,h2,O',R',z⟩) (fun i x y σ H O' Q h1 h2 R' z=> ⟨i,x,y,h1,h2,O',R',z⟩) fun a vs H' s n h r=> q a vs H' (s1.trans s) (s1.free n) h r
end
end L2
namespace L2
open PySem PySem.Spec PyProof.Rows
inductive ot:List (Option Expr)→List Expr→Prop where
 | nil:ot [] []
 | cons {k v:Int} {a b:Nat} {p q:Pos} {ks:List (Option Expr)} {vs:List Expr} (h:ot ks vs):ot (some (.Constant (.int k) a p)::ks) (.Constant (.int v) b q::vs)
section
variable {X:Cx} {H0:Hp} {O0:List Addr} {ps:PSt} {pos:Pos} {keys:List (Option Expr)} {values:List Expr} {k m:Bool}
end
end L2
namespace L2
open PySem PySem.Spec PyProof.Rows
theorem Ws.nox {X:Cx} {H0:Hp} {O0:List Addr} {E:XK} {ss:List Stmt} {D:PD} {ps:PSt} (h:Ws X.nox H0 O0 E ss D ps):Ws X H0 O0 E ss D ps:=PSs.nox h
theorem aS.calm {P:Program} {w:World} {K:PySem.W.Frag} {mg:Str→Option Value} {base:Heap} {k:Nat} {f:Addr} {fd:FuncData} {ps:List Str} {sp:Sp} (F:aS P w K mg base (CXF P w) k f fd ps sp) (h:∀ vs H Q E,sp vs H Q E→sp vs H Q E0):aS P w K mg base CX0 k f fd ps sp:=by
 refine ⟨F.len,fun A outer s H args us vs Q E hr he hb hv hs=> codeAny_mono (F.run A outer s H args us vs Q E0 hr he hb hv (h _ _ _ _ hs)) fun r s' q=> ?_⟩
 cases r with
 | ok fl=>
  cases fl with
  | ret u=> exact q
  | next=> exact q
  | brk=> exact q
  | cont=> exact q
 | error e=>
  obtain ⟨_,_,_,_,_,_,_,_,_,_,_,_,_,_,_,hE⟩:=q
  exact hE.elim
def d5:List U→Out→Prop:=fun us o=> ∃ ns:List Int,us=[.scr (ns.map U.int)]∧ns.length≤63∧(∀ m∈ns,Sz 1048576 m)∧o=.val (.bl true)
theorem lw {K:PySem.W.Frag} (vs:List V) (H:Hp) (Q:VK) (E:XK) (h:spU K d5 vs H Q E):spU K d5 vs H Q E0:=by
 obtain ⟨us,O,o,d,r,⟨ns,h1,h2,h3,rfl⟩,q⟩:=h
 exact ⟨us,O,_,d,r,⟨ns,h1,h2,h3,rfl⟩,q⟩
theorem jG {K:PySem.W.Frag} {H:Hp} {a:Addr} {ns:List Int} {E:XK} (h1:ns.length≤63) (h2:∀ m∈ns,Sz 1048576 m) (h3:SqL K H a (ns.map V.int)):spU K d5 [.ref a] H (fun v _=> v=.bl true) E:=by
 refine ⟨[.scr (ns.map U.int)],[],.val (.bl true),fun a ha=> (nomatch ha),.cons ?_ .nil,⟨ns,rfl,h1,h2,rfl⟩,fun v H' s r=> by cases r; rfl⟩
 have e:hid H []=H:=by funext b; unfold hid; rw [if_neg (by simp)]
 rw [e]
 refine .scr h3 (by simp) fun i v x e1 e2=> ?_
 rw [List.getElem?_map] at e1 e2
 cases q:ns[i]? with
 | none=> rw [q] at e1; cases e1
 | some n=> rw [q] at e1 e2; cases e1; cases e2; exact .int n
theorem i6 {k:Nat} {A:Around} (hr:cG k A):A.units+10 < cLine:=by have:=hr.un; omega
theorem iq {ns:List Int} {k:Int} (h0:0≤k) (h:k < (ns.length:Int)):atI (ns.map U.int) k=some (.int (ns.getD k.toNat 0)):=by
 have hk:k.toNat < ns.length:=by omega
 have q:atI (ns.map U.int) ((k.toNat:Nat):Int)=some (.int (ns.getD k.toNat 0)):=jd (by rw [List.getElem?_map,List.getD_eq_getElem?_getD,List.getElem?_eq_getElem hk] <;> rfl)
 rwa [show ((k.toNat:Nat):Int)=k by omega] at q
theorem mw {ns:List Int} (h:∀ m∈ns,Sz 1048576 m) (i:Nat):Sz 1048576 (ns.getD i 0):=by
 by_cases hk:i < ns.length
 ·rw [List.getD_eq_getElem?_getD,List.getElem?_eq_getElem hk,Option.getD_some]; exact h _ (List.getElem_mem hk)
 ·rw [List.getD_eq_getElem?_getD,List.getElem?_eq_none (by omega),Option.getD_none]; exact Sz.mono (m:=8) (by decide) (by decide)
abbrev pt (x y:Int):U:=.tup [.int x,.int y]
theorem dTb {p:Prop} [Decidable p] (h:decide p=true):p:=of_decide_eq_true h
theorem dFb {p:Prop} [Decidable p] (h:decide p=false):¬ p:=of_decide_eq_false h
theorem nTb {p:Prop} [Decidable p] (h:(!decide p)=true):¬ p:=by simpa using h
theorem nFb {p:Prop} [Decidable p] (h:(!decide p)=false):p:=by simpa using h
theorem vB {a b:Bool} (h:a=b):Out.val (.bl a)=Out.val (.bl b):=by rw [h]
theorem vIO {a b:Int} (h:a=b):Out.val (.int a)=Out.val (.int b):=by rw [h]
mutual
theorem dk:∀ (n:Nat) (u:U),okU n u=true→eqW u u=true
 | _,.non,_=> rfl
 | _,.bl b,_=> by simp [eqW]
 | _,.int b,_=> by simp [eqW]
 | _,.str b,_=> by simp [eqW]
 | _,.ty _,h=> by simp [okU] at h
 | _,.dic,h=> by simp [okU] at h
 | 0,.tup _,h=> by simp [okU] at h
 | 0,.lst _,h=> by simp [okU] at h
 | 0,.scr _,h=> by simp [okU] at h
 | n+1,.tup xs,h=> by rw [eqW]; rw [okU] at h; exact eqWs_refl n xs h
 | n+1,.lst xs,h=> by rw [eqW]; rw [okU] at h; exact eqWs_refl n xs h
 | n+1,.scr xs,h=> by rw [eqW]; rw [okU] at h; exact eqWs_refl n xs h
theorem eqWs_refl:∀ (n:Nat) (xs:List U),okUs n xs=true→eqWs xs xs=true
 | _,[],_=> rfl
 | n,x::xs,h=> by
  simp only [okUs,Bool.and_eq_true] at h
  simp only [eqWs,Bool.and_eq_true]
  exact ⟨dk n x h.1,eqWs_refl n xs h.2⟩
end
theorem lI {α:Type} {n:Nat} {f:α→U} {l:List α} (h:∀ a∈l,okU n (f a)=true):okUs n (l.map f)=true:=by
 induction l with
 | nil=> rfl
 | cons a l ih=>
  rw [List.map_cons,okUs,Bool.and_eq_true]
  exact ⟨h a List.mem_cons_self,ih fun b hb=> h b (List.mem_cons_of_mem _ hb)⟩
theorem ln {α:Type} {n:Nat} {f:α→U} {l:List α} (h:∀ a,okU n (f a)=true):okU (n+1) (.lst (l.map f))=true:=by rw [okU]; exact lI fun a _=> h a
end L2
namespace L2
open PySem PySem.Spec PyProof.Rows
section
variable {X:Cx} {H0:Hp} {O0:List Addr} {E:XK} {ps:PSt} {D:PD} {a b c e:Expr} {bq:List Expr} {pos:Pos} {k:Bool}
theorem bW {tb fb:List Stmt} (hc:Tt X H0 O0 ps c k) (hk:k=true) (h:Ws X H0 O0 E tb D ps):W1 X H0 O0 E (.If c tb fb pos) D ps:=fD hc (fun _=> h) (fun e=> by rw [hk] at e; cases e)
theorem bP {tb fb:List Stmt} (hc:Tt X H0 O0 ps c k) (hk:k=false) (h:Ws X H0 O0 E fb D ps):W1 X H0 O0 E (.If c tb fb pos) D ps:=fD hc (fun e=> by rw [hk] at e; cases e) (fun _=> h)
theorem fH (ha:Tt X H0 O0 ps a k) (hk:k=true):Tw X H0 O0 ps (.BoolOp .Or (a::b::bq) pos) true:=by
 subst hk
 exact mn (m:=true) ha fun h=> by cases h
end
end L2
namespace L2
open PySem PySem.Spec PyProof.Rows
section
variable {X:Cx} {H0:Hp} {O0:List Addr} {E:XK} {ps:PSt} {D:PD} {body:List Stmt} {tg iter c:Expr} {pos:Pos} {xs:List U} {α:Type}
theorem TgS.sub {p p':PSt} {u:U} {ps':PSt} (h:TgS X H0 O0 tg p u ps') (hs:SubP p p'):TgS X H0 O0 tg p' u ps':=PG.mono h fun v σ H Q ⟨O,R,r,q⟩=> ⟨O,R.sub hs,r,q⟩
theorem Tt.sub {p p':PSt} {e:Expr} {k:Bool} (h:Tt X H0 O0 p e k) (hs:SubP p p'):Tt X H0 O0 p' e k:=PT.mono h fun σ H Q ⟨O,R,q⟩=> ⟨O,R.sub hs,q⟩
theorem gN (st:α→PSt) (Q:Nat→α→Prop) (hc:X.calm=true) (hp:PassesOwn (model X.prog X.w) X.A X.env X.xe) (hi:EvI X H0 O0 ps tg iter xs) (h0:∃ a,Q 0 a∧SubP (st a) ps)
  (hs:∀ (H0:Hp) (i:Nat) (x:U) (a:α),xs[i]?=some x→Q i a→∃ ps',TgS X H0 O0 tg (st a) x ps'∧Ws X H0 O0 E body { D with nx:=fun p=> ∃ b,Q (i+1) b∧SubP (st b) p,ct:=fun p=> ∃ b,Q (i+1) b∧SubP (st b) p,bk:=D.nx } ps')
  (hd:∀ a ps,Q xs.length a→SubP (st a) ps→D.nx ps) (hf:∀ x,foldedSetIterable iter X.env x=pure x:=by intro _; rfl):W1 X H0 O0 E (.For tg iter body [] pos) D ps:=
 oR hc hp hi (fun i ps=> ∃ a,Q i a∧SubP (st a) ps) h0 (fun H0 i x ps hx ⟨a,q,sb⟩=> by
  obtain ⟨ps',t,w⟩:=hs H0 i x a hx q
  exact ⟨ps',t.sub sb,w⟩) (fun ps ⟨a,q,sb⟩=> hd a ps q sb) hf
theorem fJ (st:α→PSt) (Q:Nat→α→Prop) (hp:PassesOwn (model X.prog X.w) X.A X.env X.xe) (h0:∃ m a,Q m a∧SubP (st a) ps)
  (hs:∀ m a,Q m a→∃ b,Tt X H0 O0 (st a) c b∧(b=true→Ws X H0 O0 E body { D with nx:=fun p=> ∃ m' a',m' < m∧Q m' a'∧SubP (st a') p,ct:=fun p=> ∃ m' a',m' < m∧Q m' a'∧SubP (st a') p,bk:=D.nx } (st a))∧(b=false→∀ ps,SubP (st a) ps→D.nx ps)):W1 X H0 O0 E (.While c body [] pos) D ps:=by
 obtain ⟨m,a,q,sb⟩:=h0
 refine mI hp (fun m ps=> ∃ a,Q m a∧SubP (st a) ps) m ⟨a,q,sb⟩ fun m ps ⟨a,q,sb⟩=> ?_
 obtain ⟨b,t,h1,h2⟩:=hs m a q
 refine ⟨b,t.sub sb,fun e=> ?_,fun e=> h2 e ps sb⟩
 refine dO (PSs.mono (h1 e) fun D' σ H ⟨L,O,R⟩=> ⟨⟨fun p σ H O R ⟨m',a',l,q',sb'⟩=> L.nx p σ H O R ⟨m',l,a',q',sb'⟩,L.bk,fun p σ H O R ⟨m',a',l,q',sb'⟩=> L.ct p σ H O R ⟨m',l,a',q',sb'⟩,L.rt⟩,O,R⟩) sb
end
abbrev P2:=Int×Int
abbrev pu (p:P2):U:=.tup [.int p.1,.int p.2]
abbrev lp (l:List P2):U:=.lst (l.map pu)
theorem oy (p q:P2):eqW (pu p) (pu q)=decide (p=q):=by
 obtain ⟨a,b⟩:=p
 obtain ⟨c,d⟩:=q
 simp only [pu,eqW,eqWs,Bool.and_true]
 rw [Bool.eq_iff_iff]; simp
theorem jo {α:Type} {l:List α} {f:α→U} {g:α→U} {i:Nat} {x y:U} (hx:(l.map f)[i]?=some x) (hy:(l.map g)[i]?=some y):∃ a,l[i]?=some a∧a∈l∧x=f a∧y=g a:=by
 rw [List.getElem?_map] at hx hy
 cases q:l[i]? with
 | none=> rw [q] at hx; cases hx
 | some p=> rw [q] at hx hy; cases hx; cases hy; exact ⟨p,rfl,List.mem_of_getElem? q,rfl,rfl⟩
end L2
namespace L2
open PySem PySem.Spec PyProof.Rows
theorem W1.mono {X:Cx} {H0:Hp} {O0:List Addr} {E:XK} {s:Stmt} {D:PD} {J:PSt→Prop} {ps:PSt} (h:W1 X H0 O0 E s { D with nx:=J } ps) (m:∀ ps,J ps→D.nx ps):W1 X H0 O0 E s D ps:=
 PS.mono h fun D' σ H ⟨L,O,R⟩=> ⟨⟨fun p σ H O R q=> L.nx p σ H O R (m p q),L.bk,L.ct,L.rt⟩,O,R⟩
theorem iI {X:Cx} {H0:Hp} {O0:List Addr} {E:XK} {s:Stmt} {ss:List Stmt} {D:PD} {ps:PSt} (J:PSt→Prop) (h1:W1 X H0 O0 E s { D with nx:=J } ps) (h2:∀ ps,J ps→Ws X H0 O0 E ss D ps):Ws X H0 O0 E (s::ss) D ps:=
 af (W1.mono (J:=J) (D:={ D with nx:=fun p=> Ws X H0 O0 E ss D p }) h1 h2)
end L2
namespace PySem.W
open PySem PySem.Spec PySem.Calls PyProof.Rows
theorem iL {M:Model} {A:Around} {E:Value→Shared→Prop} {K:Frag} {s:Shared} {x C B:Addr} {Q:Bool→Shared→Prop} (X:K.In s.heap) (I:OfCls x C s.heap) (hT:typeIn K (.ref B)=some (.type "type")) (hc:(clsIn K B).isSome=true)
  (hB:mroIn K B (.type "BaseException")=some true) (hC:mroIn K C (.ref B)=some true) (h:Q true s):wpAny M A (excMatches (.ref x) (.ref B)) Q E s:=by
 have L1:Looks M s.heap (typeOf (.ref x)) (.ref C):=I.type
 have L2:Looks M s.heap (typeOf (.ref B)) (.type "type"):=looks_typeIn X hT
 have L3:Looks M s.heap (isInstance (.ref B) (.type "tuple")) false:=L2.andThen (Looks.of_pure tc_notTuple)
 have L4:Looks M s.heap (isSubtype (.ref B) (.type "BaseException")) true:=looks_mroIn X hB
 have L5:Looks M s.heap (isSubtype (.ref C) (.ref B)) true:=looks_mroIn X hC
 have L6:Looks M s.heap (isType (.ref B)) true:=by
  obtain ⟨cdD,hcD⟩:=Option.isSome_iff_exists.mp hc
  unfold clsIn at hcD
  split at hcD
  ·rename_i c' d' cd' sl' ho
   intro A' Q' E' s' k q
   unfold isType loadHead
   exact wpAny_bind (wpAny_loadPart (k _ _ (X _ _ ho)) (wpAny_pure q))
  ·cases hcD
 obtain ⟨hh,g,dr,t,os⟩:=s
 unfold excMatches isExcClass
 repeat (first | lk | wp_step)
 exact h
end PySem.W
namespace L2
open PySem PySem.Spec PySem.W PyProof.Rows
section
variable {X:Cx} {pins:List (Addr×Obj)} {σ:St} {H:Hp} {s:Shared}
theorem ff {M:Model} {A:Around} {E:Value→Shared→Prop} {i:Nat} {x:Str} {pos:Pos} {Q:Unit→Shared→Prop} (I:Inv X pins σ H s) (hN:X.N.Nodup) (hi:X.N[i]?=some x) (hk:X.env.kindOf x=some .local)
  (h:∀ s',Inv X pins (σ.set i none) H s'→Q () s'):wpAny M A (do bindName X.env x .none; unbindBehindTheSuite X.env x pos) Q E s:=by
 obtain ⟨m,hn,hl⟩:=id I.loc
 have hcls:(X.env.scope.kind==.class || (X.env.scope.kind==.module && X.env.locals !=X.env.globals))=false:=by rw [I.ok.kind]; rfl
 have hiσ:i < σ.length:=by rw [I.len]; exact (List.getElem?_eq_some_iff.mp hi).1
 have cne:=I.cne
 refine wpAny_nameGoes_keeps hk hn hcls fun h' v hn' hs=> ?_
 have tracked:HOk X.prog X.w H h':=fun b ob e=> by
  refine (I.hok b ob e).stay (fun c w' hc q=> (hs.2 c ?_).trans q) (fun _ q=> q) fun _ _ q=> q
  rintro rfl
  rcases hc with z | hc
  ·rw [← z,I.free] at e; cases e
  ·rw [I.free] at hc; cases hc
 refine h _ ⟨I.ok,I.os,I.bare,⟨fun b o e n hb hx=> ?_,fun b o e n hb hx=> ?_,I.base.free,fun b o e hx=> ?_,I.base.tups,I.base.frzs,I.base.tbls⟩,⟨_,hn',fun j y v' e1 e2 e3=> ?_⟩,fun y c e=> ?_,I.free,I.freeC,fun p hp=> ?_,tracked,by simpa using I.len⟩
 ·exact (hs.2 b (Nat.ne_of_lt (Nat.lt_of_lt_of_le (Heap.lt_size e) I.ok.above))).trans (I.base.keep b o e n hb hx)
 ·obtain ⟨sl,e1⟩:=I.base.slot b o e n hb hx
  exact ⟨sl,(hs.2 b (Nat.ne_of_lt (Nat.lt_of_lt_of_le (Heap.lt_size e) I.ok.above))).trans e1⟩
 ·obtain ⟨o',e1⟩:=I.base.there b o e hx
  exact ⟨o',(hs.2 b (Nat.ne_of_lt (Nat.lt_of_lt_of_le (Heap.lt_size e) I.ok.above))).trans e1⟩
 ·by_cases hj:j=i
  ·subst hj
   rw [List.getElem?_set_self hiσ] at e2
   cases e2
  ·rw [List.getElem?_set_ne (Ne.symm hj)] at e2
   obtain ⟨u',r',q⟩:=hl j y v' e1 e2 e3
   refine ⟨u',r',?_⟩
   rcases q with ⟨k,e⟩ | ⟨k,c,e,z⟩
   ·refine .inl ⟨k,?_⟩
    have:y≠x:=fun e=> hj (fC hN e1 (e ▸ hi))
    simp [this,e]
   ·exact .inr ⟨k,c,e,z.sameBut hs (cne y c e)⟩
 ·obtain ⟨w',z⟩:=I.cell y c e
  exact ⟨w',z.sameBut hs (cne y c e)⟩
 ·obtain ⟨e,n,ne,nf,d⟩:=I.pin p hp
  exact ⟨(hs.2 p.1 ne).trans e,n,ne,nf,d⟩
theorem kP {fs:List Addr} {H0 H':Hp} {h0 h1:Heap} {ea:Addr} {o:HO} (u:Un fs [] H0 H' h0 h1) (n0:h0.get? ea=none) (n1:H' ea=none):Un fs [] H0 (upd H' ea o) h0 h1 where
 keep:=u.keep
 slot:=u.slot
 free:=fun b ob e n hx=> by
  rw [aR fun z=> by subst z; rw [n0] at e; cases e]; exact u.free b ob e n hx
 there:=u.there
 tups:=fun b xs e=> by have q:=u.tups b xs e; rw [aR (ba q n1)]; exact q
 frzs:=fun b ob xs e=> by have q:=u.frzs b ob xs e; rw [aR (ba q n1)]; exact q
 tbls:=fun b ps e=> by obtain ⟨m,q⟩:=u.tbls b ps e; exact ⟨m,by rw [aR (ba q n1)]; exact q⟩
theorem jx {P:Program} {w:World} {H':Hp} {h:Heap} {ea C:Addr} (ok:HOk P w H' h) (n1:H' ea=none) (I:OfCls ea C h):HOk P w (upd H' ea (.ext (OfCls ea C))) h:=fun a o e=> by
 by_cases z:a=ea
 ·subst z
  rw [bf] at e; cases e
  obtain ⟨ob,e1,e2⟩:=id I
  exact ⟨I,⟨ob,e1⟩,fun h1 h2 ⟨o1,q1,q2⟩ q3=> ⟨o1,q3 _ q1,q2⟩⟩
 ·rw [aR z] at e
  refine (ok a o e).stay (fun _ _ _ q=> q) (fun _ q=> ?_) fun _ _ q=> ?_
  all_goals (first | (rw [aR (ba q n1)]; exact q) | trace_state)
end
section
variable {X:Cx}
def fF.drop (D:fF) (i:Nat):fF:=⟨fun σ H=> D.nx (σ.set i none) H,D.rt,fun σ H=> D.bk (σ.set i none) H,fun σ H=> D.ct (σ.set i none) H⟩
end
section
variable {X:Cx} {H0:Hp} {O0:List Addr} {E:XK} {ps:PSt} {D:PD} {a e:Expr} {es:List Expr} {us:List U} {k:Bool} {n:Nat} {fd:FuncData} {pn:List Str} {spec:List U→Out→Prop}
theorem lv:cM X (.builtin "isinstance") (fun xs H Q=> ∃ a C D k,xs=[.ref a,.ref D]∧H a=some (.ext (OfCls a C))∧XcOk X.K C∧kitOne X.K (.ref C) (.ref D)=some k∧Q (.bl k) H):=by
 intro pins s σ H xs us Q I r h
 obtain ⟨a,C,D,k,rfl,ha,hk,e,q⟩:=h
 obtain ⟨u,w',rfl,r1,r2⟩:=kQ r
 cases r1; cases r2
 exact PySem.W.kia_one hk.kit I.kIn (I.hok _ _ ha).1 e (fun z=> nomatch z) fun tk=> ⟨.bl k,H,I.tok _,rfl,q⟩
theorem aT {C D':Addr} {nm:Str} {p p2 pos:Pos} (h:kitOne X.K (.ref C) (.ref D')=some k) (hg:Gl X "isinstance") (hm:X.mg "isinstance"=none) (hv:bootBuiltins "isinstance"=some (.builtin "isinstance")) (ha:Ev X H0 O0 ps a (.ty (.xc C))) (hgD:Gl X nm) (hmD:X.mg nm=some (.ref D'))
  (hd:(nm==("__debug__":Str))=false:=by decide)
  (he:starEach [a,.Name nm p2] X.env=(false,eval a X.env)::starEach [.Name nm p2] X.env:=by rfl) (he2:starEach [.Name nm p2] X.env=(false,eval (.Name nm p2) X.env)::starEach [] X.env:=by rfl) (hpl:(backTo pos (starEach [.Name nm p2] X.env)).any (·.1)=false:=by rfl):
  Ev X H0 O0 ps (.Call (.Name "isinstance" p) [a,.Name nm p2] [] pos) (.bl k):=
 PE.mono (fK lv hg hm hv (ei ha (ei (gP (v:=.ref D') hgD hmD rfl hd) gL he2) he) (by decide) (by decide) he hpl) fun σ H Q ⟨O,R,q⟩=> ⟨O,R,fun v H1 s1 r1=> by
  cases r1 with
  | xc h1 h2=> exact ⟨_,_,_,k,rfl,aJ _ _ h1,h2,h,q _ H1 s1 (.bl k)⟩⟩
theorem eJ {C:Addr} {n:String} (h:PySem.W.kitOne X.K (.ref C) (.type n)=some k):ed X (.builtin "isinstance") [.ty (.xc C),.ty (.nm n)] (.bl k):=by
 intro pins s σ H vs us Q I r hq
 obtain ⟨O,d,rs,q⟩:=hq
 obtain ⟨v,w,rfl,h1,h2⟩:=fh rs
 cases h2
 obtain ⟨p1,p2,rfl,r1,r2⟩:=kQ r
 cases (show p2=Value.type n from r2)
 have fin:∀ tk,EP X pins σ Q (.bool k) { s with toks:=tk }:=fun tk=> ⟨.bl k,H,I.tok _,rfl,q _ H (.refl H) (.bl _)⟩
 cases h1 with
 | xc e kk=>
  cases r1
  exact PySem.W.kia_one kk.kit I.kIn (I.hok _ _ (aJ _ _ e)).1 h (fun z=> nomatch z) fin
def PD.drop (D:PD) (i:Nat):PD:=⟨fun p=> D.nx (p.set i none),D.rt,fun p=> D.bk (p.set i none),fun p=> D.ct (p.set i none)⟩
theorem Lf.drop {K:Frag} {D':fF} (L:Lf K H0 O0 E D D') (i:Nat):Lf K H0 O0 E (D.drop i) (D'.drop i):=
 ⟨fun ps σ H O R h=> L.nx _ _ H O R.drop h,fun ps σ H O R h=> L.bk _ _ H O R.drop h,fun ps σ H O R h=> L.ct _ _ H O R.drop h,L.rt⟩
end
section
variable {X:Cx} {H0:Hp} {O0:List Addr} {ps:PSt} {pos:Pos}
end
end L2
namespace L2
open PySem
theorem aX {c:Const} {j:Nat} {pos:Pos} {es:List Expr} {env:Env}:starEach (.Constant c j pos::es) env=(false,eval (.Constant c j pos) env)::starEach es env:=by rw [starEach]; intro e p h; cases h
theorem cJ {l:List Expr} {j:Nat} {pos:Pos} {es:List Expr} {env:Env}:starEach (.Tuple l j pos::es) env=(false,eval (.Tuple l j pos) env)::starEach es env:=by rw [starEach]; intro e p h; cases h
theorem d0 {l:List Expr} {pos:Pos} {es:List Expr} {env:Env}:starEach (.List l pos::es) env=(false,eval (.List l pos) env)::starEach es env:=by rw [starEach]; intro e p h; cases h
theorem dS {o:UnaryOp} {a:Expr} {pos:Pos} {es:List Expr} {env:Env}:starEach (.UnaryOp o a pos::es) env=(false,eval (.UnaryOp o a pos) env)::starEach es env:=by rw [starEach]; intro e p h; cases h
theorem aM {a b:Expr} {o:Operator} {pos:Pos} {es:List Expr} {env:Env}:starEach (.BinOp a o b pos::es) env=(false,eval (.BinOp a o b pos) env)::starEach es env:=by rw [starEach]; intro e p h; cases h
theorem ae {x:Str} {pos:Pos} {es:List Expr} {env:Env}:starEach (.Name x pos::es) env=(false,eval (.Name x pos) env)::starEach es env:=by rw [starEach]; intro e p h; cases h
theorem cr {a b:Expr} {pos:Pos} {es:List Expr} {env:Env}:starEach (.Subscript a b pos::es) env=(false,eval (.Subscript a b pos) env)::starEach es env:=by rw [starEach]; intro e p h; cases h
theorem ax {f:Expr} {a:List Expr} {k:List Keyword} {pos:Pos} {es:List Expr} {env:Env}:starEach (.Call f a k pos::es) env=(false,eval (.Call f a k pos) env)::starEach es env:=by rw [starEach]; intro e p h; cases h
theorem nF {o:BoolOp} {v:List Expr} {pos:Pos} {es:List Expr} {env:Env}:starEach (.BoolOp o v pos::es) env=(false,eval (.BoolOp o v pos) env)::starEach es env:=by rw [starEach]; intro e p h; cases h
theorem gw {e:Expr} {g:List Comprehension} {sc:Scope} {pos:Pos} {es:List Expr} {env:Env}:starEach (.ListComp e g sc pos::es) env=(false,eval (.ListComp e g sc pos) env)::starEach es env:=by rw [starEach]; intro e p h; cases h
structure EvS (X:Cx) (H0:Hp) (O0:List Addr) (ps:PSt) (es:List Expr) (us:List U):Prop where
 a:EvA X H0 O0 ps es us
section
variable {X:Cx} {H0:Hp} {O0:List Addr} {ps:PSt} {e:Expr} {es:List Expr} {u:U} {us:List U} {pos:Pos}
theorem aB:EvS X H0 O0 ps [] []:=⟨aj⟩
theorem ai (ha:Ev X H0 O0 ps e u) (hr:EvS X H0 O0 ps es us) (hs:starEach (e::es) X.env=(false,eval e X.env)::starEach es X.env):EvS X H0 O0 ps (e::es) (u::us):=⟨ac ha hr.a hs⟩
theorem aZ {x1} (h:EvS X H0 O0 ps es us) (hz:us.length≤sizeLine:=by first | decide | (simp only [List.length_cons,List.length_nil]; decide)):Ev X H0 O0 ps (.Tuple es x1 pos) (.tup us):=o3 h.a hz
theorem aO (h:EvS X H0 O0 ps es us) (hz:us.length≤sizeLine:=by first | decide | (simp only [List.length_cons,List.length_nil]; decide)):EvN X H0 O0 ps (.List es pos) us:=pL h.a hz
end
end L2
namespace ST
open PySem PySem.SetTable
def Ris (xs:Array Nat):Prop:=∀ (i j x y:Nat),i < j→xs[i]?=some x→xs[j]?=some y→x < y
def adv (mask:Nat) (p:Probe):Probe:=
 if p.more > 0 then { p with j:=p.j+1,more:=p.more - 1 } else
 { p with j:=(leap mask p.i p.perturb).1,more:=runEnd mask (leap mask p.i p.perturb).1 - (leap mask p.i p.perturb).1,i:=(leap mask p.i p.perturb).1,perturb:=(leap mask p.i p.perturb).2 }
def start (mask:Nat) (h:Int):Probe:={ j:=bits h % (mask+1),more:=runEnd mask (bits h % (mask+1)) - bits h % (mask+1),i:=bits h % (mask+1),perturb:=bits h,dummy:=none }
def pth (mask:Nat) (h:Int):Nat→Probe
 | 0=> start mask h
 | n+1=> adv mask (pth mask h n)
end ST
namespace ST
open PySem PySem.SetTable
def Liv (t:SetTable) (j:Nat):Prop:=∃ i:Nat,t.place[i]?=some j
structure TOk (t:SetTable) (hs:List Int):Prop where
 R:Ris t.place
 d:t.dummies=#[]
 k:∃ k,3≤k∧t.mask+1=2 ^ k
 n:t.place.size=hs.length
 f:t.place.size≤t.mask
 le:∀ (i x:Nat),t.place[i]?=some x→x≤t.mask
 reach:∀ (i j:Nat) (h:Int),t.place[i]?=some j→hs[i]?=some h→∃ m,(pth t.mask h m).j=j∧∀ m',m' < m→Liv t (pth t.mask h m').j
end ST
namespace ST
open PySem PySem.SetTable
def OL (owner:Array (Option Nat)) (j:Nat):Prop:=∃ k:Nat,owner[j]?=some (some k)
structure OI (mask:Nat) (owner:Array (Option Nat)) (hs:List Int):Prop where
 sz:owner.size=mask+1
 lt:∀ (j k:Nat),owner[j]?=some (some k)→k < hs.length
 inj:∀ (i j k:Nat),owner[i]?=some (some k)→owner[j]?=some (some k)→i=j
 all:∀ k:Nat,k < hs.length→∃ j:Nat,owner[j]?=some (some k)
 reach:∀ (j k:Nat) (h:Int),owner[j]?=some (some k)→hs[k]?=some h→∃ m,(pth mask h m).j=j∧∀ m',m' < m→OL owner (pth mask h m').j
end ST
namespace ST
open PySem PySem.SetTable
end ST
namespace ST
open PySem PySem.SetTable
section
variable {prog:Program} {w:World} {A:Around} {E:Value→Shared→Prop} {s:Shared}
abbrev TK (prog:Program) (w:World) (h:Heap) (k:List Int) (b:Addr):Prop:=IsTupleKey (intKind prog w) h k b
abbrev hsh (prog:Program) (w:World) (k:List Int):Int:=tupleKeyHash (intKind prog w) k
def qa (prog:Program) (w:World) (kb:List (List Int×Addr)):List (Int×Value):=kb.map fun p=> (hsh prog w p.1,.ref p.2)
end
end ST
namespace ST
open PySem PySem.SetTable
section
variable {prog:Program} {w:World} {A:Around} {E:Value→Shared→Prop} {s:Shared}
structure SP (prog:Program) (w:World) (h:Heap) (S:Addr) (kb:List (List Int×Addr)):Prop where
 ex:∃ o es ep t,h.get? S=some o∧o.ExactSet∧o.data=.set es ep t∧es.toList=qa prog w kb∧TOk t (kb.map fun p=> hsh prog w p.1)∧t.led=(!w.params.followText "set-order")∧t.plain=true∧t.tooFull=false∧t.mask < 8 * kb.length+8
 keys:∀ p∈kb,TK prog w h p.1 p.2
 nd:(kb.map (·.1)).Nodup
end
end ST
namespace ST
open PySem PySem.SetTable
section
variable {prog:Program} {w:World} {A:Around} {E:Value→Shared→Prop} {s:Shared}
end
end ST
namespace ST
open PySem PySem.SetTable
section
variable {prog:Program} {w:World} {A:Around}
structure Got (kx:Nat→List Int×Addr) (i:Nat) (kb:List (List Int×Addr)):Prop where
 src:∀ p∈kb,∃ j,j < i∧p=kx j
 all:∀ j,j < i→(kx j).1∈kb.map (·.1)
 len:kb.length≤i
variable {R:Result→Shared→Prop} {I:Addr} {fp wr:List Addr} {G:Array GenState→Array GenState→Prop} {n:Nat} {P:Nat→Value→Prop} {St:Nat→Shared→Prop}
end
section
variable {prog:Program} {w:World} {A:Around} {E:Value→Shared→Prop} {s:Shared}
end
end ST
namespace ST
open PySem PySem.SetTable
section
variable {prog:Program} {w:World} {A:Around} {E:Value→Shared→Prop} {s:Shared}
end
end ST
namespace ST
open PySem PySem.SetTable
section
variable {prog:Program} {w:World} {A:Around} {E:Value→Shared→Prop} {s:Shared}
structure SO (prog:Program) (w:World) (o:Obj) (es:Array (Int×Value)) (ep:Nat) (t:SetTable) (hs:List Int):Prop where
 ex:o.ExactSet
 d:o.data=.set es ep t
 T:TOk t hs
 n:hs.length=es.size
 led:t.led=(!w.params.followText "set-order")
 plain:t.plain=true
end
end ST
namespace ST
open PySem PySem.SetTable PySem.W
section
variable {prog:Program} {w:World} {A:Around} {E:Value→Shared→Prop} {s:Shared}
end
end ST
namespace ST
open PySem PySem.W PyProof.Rows
inductive nY (lt:Nat→Nat→Bool) (n:Nat) {α:Type}:KasT α→α→Prop
 | ret (a:α):nY lt n (.ret a) a
 | ask {i j:Nat} {k:Bool→KasT α} {a:α}:i < n→j < n→nY lt n (k (lt i j)) a→nY lt n (.ask i j k) a
variable {lt:Nat→Nat→Bool} {n:Nat}
structure LtO (n:Nat) (lt:Nat→Nat→Bool):Prop where
 tr:∀ i j k,lt i j=true→lt j k=true→lt i k=true
 tot:∀ i j,i < n→j < n→i≠j→lt i j=false→lt j i=true
 asy:∀ i j,lt i j=true→lt j i=false
abbrev g (p:Array Nat) (k:Nat):Nat:=p.getD k 0
structure PP (n:Nat) (p:Array Nat):Prop where
 perm:p.toList.Perm (List.range n)
end ST
namespace ST
open PySem PySem.W PyProof.Rows
def ltP (a b:Int×Int):Bool:=decide (a.1 < b.1∨(a.1=b.1∧a.2 < b.2))
section
variable {prog:Program} {w:World} {A:Around} {E:Value→Shared→Prop} {s:Shared}
abbrev PB:=List ((Int×Int)×Addr)
end
end ST
namespace ST
open PySem PySem.W PyProof.Rows PySem.Calls
section
variable {prog:Program} {w:World} {A:Around} {E:Value→Shared→Prop} {s:Shared}
end
end ST
namespace ST
open PySem
def ins (x:Int×Int):List (Int×Int)→List (Int×Int)
 | []=> [x]
 | y::r=> if x=y then y::r else if ltP x y=true then x::y::r else y::ins x r
def srt (pts:List (Int×Int)):List (Int×Int):=pts.foldr ins []
end ST
namespace L2
open PySem PySem.Spec PyProof.Rows
theorem qo {p:Nat→Addr→Prop} {n:Nat} (h:∀ i,i < n→∃ b,p i b):∃ f:Nat→Addr,∀ i,i < n→p i (f i):=by
 refine ⟨fun i=> if k:i < n then Classical.choose (h i k) else 0,fun i hi=> ?_⟩
 dsimp only
 rw [dif_pos hi]
 exact Classical.choose_spec (h i hi)
section
variable {X:Cx} {H0:Hp} {O0:List Addr} {ps:PSt} {e:Expr} {pts:List P2} {pos pos' p p':Pos}
end
end L2
namespace ST
open PySem
section
variable {prog:Program} {w:World} {A:Around} {s:Shared} {R:Result→Shared→Prop} {I:Addr} {fp wr:List Addr} {G:Array GenState→Array GenState→Prop} {n:Nat} {P:Nat→Value→Prop} {St:Nat→Shared→Prop} {T:String}
end
section
variable {prog:Program} {w:World} {A:Around} {E:Value→Shared→Prop} {s:Shared} {I:Addr} {fp wr:List Addr} {G:Array GenState→Array GenState→Prop} {n:Nat} {P:Nat→Value→Prop} {St:Nat→Shared→Prop} {T:String}
end
end ST
namespace L2
open PySem PySem.Spec PyProof.Rows
section
variable {X:Cx} {H0:Hp} {O0:List Addr} {ps:PSt} {e k:Expr} {x:U} {xs:List U} {pos pos' p p' p2:Pos}
end
end L2
namespace L2
open PySem PySem.Spec PyProof.Rows
theorem SubP.trans:∀ {p q r:PSt},SubP p q→SubP q r→SubP p r
 | [],[],[],_,_=> trivial
 | none::p,none::q,_::r,h1,h2=> SubP.trans (p:=p) (q:=q) h1 h2
 | none::p,some _::q,_::r,h1,h2=> SubP.trans (p:=p) (q:=q) h1 h2.2
 | some _::p,some _::q,_::r,h1,h2=> ⟨h2.1.trans h1.1,SubP.trans (p:=p) (q:=q) h1.2 h2.2⟩
 | some _::p,none::q,_::r,h1,h2=> by cases h1.1
 | [],_::_,_,h1,_=> h1.elim
 | none::_,[],_,h1,_=> h1.elim
 | some _::_,[],_,h1,_=> h1.elim
 | [],[],_::_,_,h2=> h2.elim
 | _::_,none::_,[],_,h2=> h2.elim
 | _::_,some _::_,[],_,h2=> h2.elim
section
variable {X:Cx} {H0:Hp} {O0:List Addr} {ps:PSt} {xs:List U} {us:List U} {es:List Expr} {x:Str} {pc p' pos:Pos}
theorem lu (n:Nat) (h:ps[n]?=some (some (.own xs))) (hg:Gl X "len") (hm:X.mg "len"=none) (hN:X.N[n]?=some x:=by rfl) (hv:Vis X.env.scope x:=by first | exact Or.inl rfl | exact Or.inr (Or.inl rfl) | exact Or.inr (Or.inr rfl)) (hd:(x==("__debug__":Str))=false:=by decide)
  (hcd:(x==("__classdict__":Str))=false:=by decide) (hpl:(backTo pos (starEach [] X.env)).any (·.1)=false:=by rfl):Ev X H0 O0 ps (.Call (.Name "len" pc) [.Name x p'] [] pos) (.int xs.length):=nu n h hg hm hN hv hd hcd ae hpl
end
end L2
namespace ST
open PySem
abbrev ql (h:Heap) (z TI TO T:Addr) (b:Bool):Prop:=h.get? z=some { cls:=.type "zip",dict:=none,data:=.fields #[rawInt T,.bool b,.bool false,.ref TI,.ref TO],slots:=#[] }
section
variable {prog:Program} {w:World} {A:Around} {E:Value→Shared→Prop} {s:Shared}
end
structure ZL (xs ys:Array Value) (z TI TO i1 i2 l1 l2 S:Addr) (h:Heap) (i:Nat) (ad:List Addr) (c:Nat):Prop where
 ti:IsPair h TI (.ref i1) (.ref i2)
 a1:h.IsListIter i1 l1 i
 a2:h.IsListIter i2 l2 i
 b1:h.IsList l1 xs
 b2:h.IsList l2 ys
 acc:h.get? S=some { cls:=.type "list",dict:=none,data:=.seq (ad.map Value.ref).toArray c,slots:=#[] }
 len:ad.length=i
 tup:∀ (j:Nat) (a:Addr),ad[j]?=some a→∃ x y,xs[j]?=some x∧ys[j]?=some y∧IsPair h a x y
 far:∀ a∈ad,a≠z∧a≠TO∧a≠i1∧a≠i2∧a≠S
 to:∃ o,h.get? TO=some o
 nd:ad.Nodup
 zz:(i=0∧IsZip h z TI TO .none∧∃ a b,IsPair h TO a b)∨(∃ b T,ad[0]?=some T∧ql h z TI TO T b)
section
variable {prog:Program} {w:World} {A:Around} {R:Result→Shared→Prop}
end
end ST
namespace ST
open PySem
section
variable {prog:Program} {w:World} {A:Around} {R:Result→Shared→Prop}
structure ZF (xs ys:Array Value) (S:Addr) (h:Heap) (ad:List Addr) (c:Nat):Prop where
 acc:h.get? S=some { cls:=.type "list",dict:=none,data:=.seq (ad.map Value.ref).toArray c,slots:=#[] }
 len:ad.length=ys.size
 tup:∀ (j:Nat) (a:Addr),ad[j]?=some a→∃ x y,xs[j]?=some x∧ys[j]?=some y∧IsPair h a x y
 ne:∀ a∈ad,a≠S
 nd:ad.Nodup
end
end ST
namespace ST
open PySem
section
variable {prog:Program} {w:World} {A:Around} {E:Value→Shared→Prop} {s:Shared}
end
section
variable {prog:Program} {w:World} {A:Around} {R:Result→Shared→Prop} {s:Shared}
end
section
variable {prog:Program} {w:World} {A:Around} {E:Value→Shared→Prop} {s:Shared}
end
end ST
namespace L2
open PySem PySem.Spec PyProof.Rows
section
variable {P:Program} {w:World} {H:Hp} {h:Heap} {a:Addr} {o:HO}
end
section
variable {X:Cx} {H0:Hp} {O0:List Addr} {ps:PSt} {e f:Expr} {x y:U} {xs ys:List U} {pos pos' p p':Pos}
end
end L2
namespace L2
open PySem PySem.Spec PyProof.Rows
theorem eS (ns:List Int):∀ j,preSum (fun i=> ns.getD i 0) j=(ns.take j).sum
 | 0=> by simp [preSum]
 | j+1=> by rw [preSum,eS ns j,PySem.sum_take_succ]
section
variable {X:Cx} {ns:List Int} {M:Int}
theorem lh {K:PySem.W.Frag} {H:Hp} {ws:List V} {its:List Value} (rv:aQ ws its) (rs:Rps K H ws (ns.map U.int)) (i:Nat) (z:Value) (e:its.toArray[i]?=some z):∃ t,z=.int (ns.getD i 0) t:=by
 have hl:=rs.len
 rw [List.length_map] at hl
 have e4:its[i]?=some z:=by simpa using e
 have hi:i < its.length:=bi e4
 have hw:i < ws.length:=by rw [rv.length]; exact hi
 have hb:i < ns.length:=by omega
 obtain ⟨u,e1,e2⟩:=rv.get (List.getElem?_eq_getElem hw)
 have e3:=rs.at_ i ws[i] (.int ns[i]) (List.getElem?_eq_getElem hw) (by rw [List.getElem?_map,List.getElem?_eq_getElem hb]; rfl)
 rw [e4] at e1
 cases e1
 generalize ws[i]=wi at *
 cases e3
 rw [List.getD_eq_getElem?_getD,List.getElem?_eq_getElem hb]
 obtain ⟨t,rfl⟩:=e2
 exact ⟨t,rfl⟩
theorem km (hc:X.calm=true):ed X (.builtin "sum") [.lst (ns.map U.int)] (.int ns.sum):=by
 intro pins s σ H vs us Q I r hq
 obtain ⟨O,d,rs,q⟩:=hq
 obtain ⟨v,rfl,h1⟩:=df rs
 obtain ⟨p1,rfl,r1⟩:=f_ r
 cases h1 with
 | @lst a ws _ hq hl hh=>
  cases r1
  obtain ⟨its,rv,pl,_⟩:=I.list (SqL.of (aJ _ _ hq))
  have hlen:its.length=ns.length:=by rw [← rv.length,hl,List.length_map]
  have hat:=lh (ns:=ns) rv ⟨hl,hh⟩
  refine call_sum_walkG (wpAny_pyIter_list pl.isList ?_)
  have hal:a < s.heap.objs.size:=by obtain ⟨o,e,_⟩:=pl.isList; exact Heap.lt_size e
  refine ⟨s.heap.objs.size,_,_,_,_,_,fun i=> ns.getD i 0,rfl,Walks.list (A:=X.A.in1) (I.ok.hd hc) s.heap.objs.size a (Nat.ne_of_lt hal) its.toArray,⟨⟨_,Heap.get?_push_size _ rfl,rfl,rfl⟩,pl.isList.push _⟩,fun b hb=> ?_,hat,fun h' tk t' hk=> ?_⟩
  ·show b < (s.heap.push _).objs.size
   rw [Heap.size_push]
   rcases List.mem_cons.mp hb with z | z
   ·rw [z]; exact Nat.lt_succ_self _
   ·rw [List.mem_singleton.mp z]; exact Nat.lt_succ_of_lt hal
  ·rw [eS,List.size_toArray,hlen,List.take_length]
   refine ⟨.int ns.sum,H,I.kept (t':=tk) fun b o e=> hk b o ?_ (Heap.get?_push_of_some _ e),⟨t',rfl⟩,q _ H (.refl H) (.int _)⟩
   intro z
   have:b=s.heap.objs.size:=by simpa using z
   exact absurd (Heap.lt_size e) (by rw [this]; exact Nat.lt_irrefl _)
end
end L2
namespace ST
open PySem PyProof.Rows
section
variable {prog:Program} {w:World} {A:Around} {E:Value→Shared→Prop} {s:Shared}
end
end ST
namespace L2
open PySem PySem.Spec PyProof.Rows
section
variable {X:Cx} {H0:Hp} {O0:List Addr} {ps:PSt} {a b c:Expr} {pos:Pos} {x y z:U} {p q:P2} {k m:Bool}
theorem lQ {op op':CmpOp} (ho:OpS X (compareOp op) x y (.bl k)) (ho':OpS X (compareOp op') y z (.bl m)) (ha:Ev X H0 O0 ps a x) (hb:Ev X H0 O0 ps b y) (hc:Ev X H0 O0 ps c z)
  (hm:lastMarks [op,op'] [b,c]=false:=by with_unfolding_all rfl):Ev X H0 O0 ps (.Compare a [op,op'] [b,c] pos) (.bl (k && m)):=
 PE.mono (lg ho ho' ha hb hc hm) fun σ H Q ⟨O,R,q⟩=> ⟨O,R,fun v1 H1 s1 r1=> ⟨O,R.go s1,fun v2 H2 s2 r2=> ⟨(r1.same (a_ s2)).out,r2.out,k,rfl,by
  cases k with
  | false=> exact i8 (q _ H2 (s1.trans s2) (.bl _))
  | true=> exact iU ⟨O,(R.go s1).go s2,fun v3 H3 s3 r3=> ⟨(r2.same (a_ s3)).out,r3.out,q _ H3 ((s1.trans s2).trans s3) (.bl _)⟩⟩⟩⟩⟩
end
end L2
namespace L2
open PySem PySem.Spec PyProof.Rows
section
variable {X:Cx} {p q:P2} {l:List P2}
end
end L2
namespace L2
open PySem PySem.Spec PyProof.Rows
section
variable {X:Cx} {H0:Hp} {O0:List Addr} {ps:PSt} {e:Expr} {pts:List P2} {pos pos' p p':Pos}
end
end L2
namespace ST
open PySem
section
variable {prog:Program} {w:World} {A:Around} {R:Result→Shared→Prop} {I S:Addr} {fp wr:List Addr} {n:Nat} {P:Nat→Value→Prop} {St:Nat→Heap→Prop} {G:Heap→Prop} {bt:Nat→Nat→Bool}
end
section
variable {prog:Program} {w:World} {A:Around} {E:Value→Shared→Prop} {s:Shared}
end
section
variable {prog:Program} {w:World} {A:Around} {R:Result→Shared→Prop} {I S:Addr} {fp wr:List Addr} {n:Nat} {P:Nat→Value→Prop} {St:Nat→Heap→Prop} {G:Heap→Prop} {bt:Nat→Nat→Bool}
end
section
variable {prog:Program} {w:World} {A:Around} {E:Value→Shared→Prop} {s:Shared}
end
end ST
namespace ST
open PySem PyProof.Rows
section
variable {prog:Program} {w:World} {A:Around} {E:Value→Shared→Prop} {s:Shared}
end
end ST
namespace L2
open PySem PySem.Spec PyProof.Rows
section
variable {X:Cx} {pts:List P2} {M:P2}
end
end L2
namespace L2
open PySem PySem.Spec PyProof.Rows
section
variable {X:Cx} {H0:Hp} {O0:List Addr} {ps:PSt} {xs:List U} {x:Str} {pos pc p':Pos}
end
end L2
namespace L2
open PySem PySem.Spec PyProof.Rows
def kO (K:PySem.W.Frag) (a:Addr) (p:P2):Prop:=∃ od n sl t0 t1,K.lookup a=some ⟨.type "tuple",od,.seq #[.int p.1 t0,.int p.2 t1] n,sl⟩
section
variable {X:Cx} {H0:Hp} {O0:List Addr} {ps:PSt} {x:Str} {pos:Pos} {a b:Expr} {i j:Int}
theorem mZ (hg:Gl X x) (h:∃ t,X.mg x=some (.int i t)) (hd:(x==("__debug__":Str))=false:=by decide):Ev X H0 O0 ps (.Name x pos) (.int i):=by
 obtain ⟨t,hm⟩:=h
 exact PE.mono (gP (v:=.int i) hg hm ⟨t,rfl⟩ hd) fun _ H _ ⟨_,_,k⟩=> k _ H (.refl H) (.int i)
theorem eV {p:P2} (hg:Gl X x) (h:∃ c,X.mg x=some (.ref c)∧kO X.K c p) (hd:(x==("__debug__":Str))=false:=by decide):Ev X H0 O0 ps (.Name x pos) (pu p):=by
 obtain ⟨c,hm,od,n,sl,t0,t1,hk⟩:=h
 refine PE.mono (gP (v:=.ref c) hg hm rfl hd) fun _ H _ ⟨O,_,k⟩=> k _ H (.refl H) ?_
 have r:Rps X.K (hid H O) [.int p.1,.int p.2] [.int p.1,.int p.2]:=.cons (.int _) (.cons (.int _) .nil)
 have k:SqT X.K (hid H O) c [.int p.1,.int p.2]:=.inr ⟨_,_,n,hk,rfl,rfl,(show 2≤sizeLine by decide),.cons (show aP (.int p.1) (.int p.1 t0) from ⟨t0,rfl⟩) (.cons (show aP (.int p.2) (.int p.2 t1) from ⟨t1,rfl⟩) .nil)⟩
 exact .tup k r.len r.at_
end
end L2
namespace L2
open PySem PySem.Spec PyProof.Rows
section
variable {X:Cx} {H0:Hp} {O0:List Addr} {ps:PSt} {e tg:Expr} {p pos:Pos} {xs:List U} {x:U}
end
end L2
namespace L2
open PySem PySem.Spec PyProof.Rows
section
variable {X:Cx} {H0:Hp} {O0:List Addr} {ps:PSt} {a b:Expr} {pos:Pos} {xs:List U} {u:U} {k:Int}
end
end L2
namespace L2
open PySem PySem.Spec PySem.W PyProof.Rows
section
variable {X:Cx}
end
end L2
namespace L2
open PySem PySem.Spec PyProof.Rows
section
variable {X:Cx} {H0:Hp} {O0:List Addr} {E:XK} {ps ps':PSt} {D:PD} {s:Stmt} {ss body:List Stmt} {a b c e:Expr} {es:List Expr} {pos p:Pos} {u x y:U} {xs ys us:List U} {k:Bool}
 {CX:CXT} {n:Nat} {f C:Addr} {fd:FuncData} {pn:List Str} {spec:List U→Out→Prop} {nm:Str}
end
end L2
namespace L2
open PySem PySem.Spec PyProof.Rows
section
variable {X:Cx} {H0:Hp} {O0:List Addr} {E:XK} {ps:PSt} {D:PD} {ss:List Stmt} {e:Expr} {xs:List U} {b:Bool}
end
end L2
namespace L2
open PySem PySem.Spec PyProof.Rows
section
variable {X:Cx} {ns:List Int} {M:Int}
end
end L2
namespace L2
open PySem PySem.Spec PyProof.Rows
section
variable {X:Cx} {H0:Hp} {O0:List Addr} {E:XK} {ps:PSt} {D:PD} {e:Expr} {pos:Pos} {xs ys:List U}
end
end L2
namespace L2
open PySem PySem.Spec PySem.W PyProof.Rows
section
variable {X:Cx}
end
section
variable {X:Cx} {H0:Hp} {O0:List Addr} {E:XK} {ps:PSt} {D:PD} {a e:Expr} {es:List Expr} {us:List U} {k:Bool} {n:Nat} {fd:FuncData} {pn:List Str} {spec:List U→Out→Prop}
end
end L2
namespace L2
open PySem PySem.Spec PyProof.Rows
section
variable {X:Cx} {H0:Hp} {O0:List Addr} {ps:PSt} {a b:Expr} {p:P2} {l:List P2}
end
end L2
namespace ST
open PySem PySem.W PySem.Calls PyProof.Rows
section
variable {prog:Program} {w:World} {A:Around} {E:Value→Shared→Prop} {s:Shared}
end
end ST
namespace L2
open PySem PySem.Spec PyProof.Rows
section
variable {X:Cx} {H0:Hp} {O0:List Addr} {ps:PSt} {e:Expr} {p pos:Pos} {a b:P2}
end
end L2
namespace ST
open PySem PySem.W PySem.Calls PyProof.Rows
section
variable {prog:Program} {w:World} {A:Around} {E:Value→Shared→Prop} {s:Shared}
end
end ST
namespace L2
open PySem PySem.Spec PyProof.Rows
section
variable {X:Cx} {H0:Hp} {O0:List Addr} {ps:PSt} {e:Expr} {pts:List P2} {pos p:Pos}
end
end L2
namespace L2
open PySem PySem.Spec PySem.W PyProof.Rows
section
variable {X:Cx}
end
section
variable {X:Cx} {H0:Hp} {O0:List Addr} {E:XK} {ps:PSt} {D:PD} {a e:Expr} {es:List Expr} {us:List U} {k:Bool} {n:Nat} {fd:FuncData} {pn:List Str} {spec:List U→Out→Prop}
end
end L2
namespace L2
open PySem PySem.Spec PySem.W PyProof.Rows
structure qp (K:PySem.W.Frag) (x qual:Str) (st:Stmt) (f:Addr) (fd:FuncData) (D:Addr):Prop where
 ex:∃ (oc:Value) (od:Option Addr) (kV doc pm:Value) (an:Option Addr) (cdv ct:Value) (osl:Array (Option Value)),
  fd=PySem.W.fnOf x qual (au st) (aq st) (ah st) (.ref D) kV doc pm an cdv ct∧K.lookup f=some ⟨oc,od,.func fd,osl⟩∧PySem.W.codeIn K cdv qual=true
 kp:PySem.W.keepIn K (.ref f)=true
section
variable {P:Program} {w:World} {K:PySem.W.Frag} {mg:Str→Option Value} {base:Heap} {N pn:List Str} {qual nm:Str} {f D:Addr}
end
section
variable {X:Cx} {H0:Hp} {O0:List Addr} {ps:PSt} {e:Expr} {es:List Expr} {pos p:Pos} {u:U} {us:List U} {xs:List U} {CX:CXT} {n:Nat} {f:Addr} {fd:FuncData} {pn:List Str} {spec:List U→Out→Prop} {nm:Str} {j:Int}
end
end L2
namespace L2
open PySem PySem.Spec PyProof.Rows
section
variable {X:Cx} {H0:Hp} {O0:List Addr} {ps:PSt} {a b:Expr} {k:Int} {ns:List Int}
end
end L2
namespace L2
open PySem PySem.Spec PyProof.Rows
section
variable {X:Cx} {tg:Expr}
variable {H0:Hp} {O0:List Addr} {ps:PSt} {a b:Expr} {p pos:Pos}
end
section
variable {X:Cx} {H0:Hp} {O0:List Addr} {E:XK} {ps ps':PSt} {D:PD} {tg iter cond:Expr} {pos p:Pos} {xs:List U}
end
end L2
namespace L2
open PySem PySem.Spec PyProof.Rows
section
variable {X:Cx} {H0:Hp} {O0:List Addr} {ps:PSt} {e:Expr} {ns:List Int} {pos p:Pos}
end
end L2
namespace L2
open PySem PySem.Spec PyProof.Rows
section
variable {X:Cx} {H0:Hp} {O0:List Addr} {E:XK} {ps:PSt} {D:PD} {c:Expr} {pos:Pos} {xs:List U}
end
end L2
namespace L2
open PySem PySem.Spec PyProof.Rows
end L2
namespace TS
open PySem PyProof.Rows
section
variable {prog:Program} {w:World} {A:Around} {E:Value→Shared→Prop} {s:Shared}
end
section
variable {prog:Program} {w:World} {A:Around} {E:Value→Shared→Prop} {s:Shared}
end
section
variable {α:Type} {R:α→α→Bool} {A B out:List α} {ia ib:Nat}
structure MI (R:α→α→Bool) (A B out:List α) (ia ib:Nat):Prop where
 perm:out.Perm (A.take ia++B.take ib)
 srt:out.Pairwise fun x y=> R x y=true
 lA:∀ x∈out,∀ y∈A.drop ia,R x y=true
 lB:∀ x∈out,∀ y∈B.drop ib,R x y=true
structure MO (R:α→α→Bool) (A B:List α):Prop where
 tr:∀ x y z,R x y=true→R y z=true→R x z=true
 sA:A.Pairwise fun x y=> R x y=true
 sB:B.Pairwise fun x y=> R x y=true
 tot:∀ x∈A,∀ y∈B,R y x=false→R x y=true
end
section
variable {M:Model} {A:Around} {E:Value→Shared→Prop} {s:Shared} {σ:Type}
end
section
variable {prog:Program} {w:World} {A:Around} {E:Value→Shared→Prop} {s:Shared}
def iG (prog:Program) (w:World) (A:Around) (E:Value→Shared→Prop) (s:Shared) (κ:SortKind) (P:Keyed→Prop) (R:Keyed→Keyed→Bool):Prop:=
 ∀ x y st (Q:Option Bool→SortSt→Prop),P x→P y→kindOf st=κ→Q (some (R x y)) st→wpS (model prog w) A E s (lt' x y) Q st
variable {κ:SortKind} {P:Keyed→Prop} {R:Keyed→Keyed→Bool} (K:iG prog w A E s κ P R)
include K
end
section
variable {α:Type} {R:α→α→Bool} {A B:List α}
end
section
variable {prog:Program} {w:World} {A:Around} {E:Value→Shared→Prop} {s:Shared} {κ:SortKind} {P:Keyed→Prop} {R:Keyed→Keyed→Bool} (K:iG prog w A E s κ P R)
include K
end
end TS
namespace TS
open PySem PyProof.Rows
section
end
section
variable {prog:Program} {w:World} {A:Around} {E:Value→Shared→Prop} {s:Shared} {κ:SortKind} {P:Keyed→Prop} {R:Keyed→Keyed→Bool} (K:iG prog w A E s κ P R)
include K
end
end TS
namespace TS
open PySem PyProof.Rows
section
variable {prog:Program} {w:World} {A:Around} {E:Value→Shared→Prop} {s:Shared} {κ:SortKind} {P:Keyed→Prop} {R:Keyed→Keyed→Bool}
structure Ord (P:Keyed→Prop) (R:Keyed→Keyed→Bool) (l:List Keyed):Prop where
 tr:∀ x y z,R x y=true→R y z=true→R x z=true
 tot:∀ x∈l,∀ y∈l,x≠y→R x y=false→R y x=true
 nd:l.Nodup
 hp:∀ x∈l,P x
structure Stt (κ:SortKind) (l:List Keyed) (pd:Array (Nat×Nat×Nat)) (st:SortSt):Prop where
 kind:kindOf st=κ
 failed:failedOf st=none
 perm:(arrOf st).toList.Perm l
 pend:pendingOf st=pd
variable {l:List Keyed} {pd:Array (Nat×Nat×Nat)}
variable (K:iG prog w A E s κ P R)
include K
end
end TS
namespace TS
open PySem PyProof.Rows
section
variable {prog:Program} {w:World} {A:Around} {E:Value→Shared→Prop} {s:Shared} {κ:SortKind} {P:Keyed→Prop} {R:Keyed→Keyed→Bool} {l:List Keyed} {pd:Array (Nat×Nat×Nat)}
variable (K:iG prog w A E s κ P R)
include K
end
end TS
namespace TS
open PySem PyProof.Rows
section
variable {prog:Program} {w:World} {A:Around} {E:Value→Shared→Prop} {s:Shared} {κ:SortKind} {P:Keyed→Prop} {R:Keyed→Keyed→Bool} {l:List Keyed}
variable (K:iG prog w A E s κ P R)
include K
end
end TS
namespace TS
open PySem PyProof.Rows
section
variable {prog:Program} {w:World} {A:Around} {E:Value→Shared→Prop} {s:Shared} {κ:SortKind} {P:Keyed→Prop} {R:Keyed→Keyed→Bool} {l:List Keyed}
variable (K:iG prog w A E s κ P R)
include K
end
end TS
namespace ST
open PySem PySem.W PyProof.Rows
abbrev ky (p:(Int×Int)×Addr):Keyed:=(Value.ref p.2,Value.ref p.2)
open Classical in
noncomputable def RP (pb:PB) (x y:Keyed):Bool:=decide (∃ p∈pb,∃ q∈pb,x=ky p∧y=ky q∧ltP p.1 q.1=true)
section
variable {prog:Program} {w:World} {A:Around} {E:Value→Shared→Prop} {s:Shared}
end
end ST
namespace ST
open PySem PySem.W PyProof.Rows PySem.Calls
section
variable {prog:Program} {w:World} {A:Around} {E:Value→Shared→Prop} {s:Shared}
end
end ST
namespace L2
open PySem PySem.Spec PyProof.Rows
section
variable {X:Cx} {H0:Hp} {O0:List Addr} {ps:PSt} {e:Expr} {pts:List P2} {pos pos' p p':Pos}
end
end L2
namespace L2
open PySem PySem.Spec PyProof.Rows
section
variable {X:Cx} {tg:Expr}
variable {H0:Hp} {O0:List Addr} {ps:PSt} {a:Expr} {p pos:Pos}
end
end L2
namespace ST
open PySem PySem.W PySem.Calls PyProof.Rows
section
variable {prog:Program} {w:World} {A:Around} {E:Value→Shared→Prop} {s:Shared}
end
end ST
namespace L2
open PySem PySem.Spec PyProof.Rows
section
variable {X:Cx} {H0:Hp} {O0:List Addr} {ps:PSt} {e:Expr} {pts:List P2} {pos p:Pos}
end
end L2
namespace L2
open PySem PySem.Spec PyProof.Rows
section
variable {X:Cx} {H0:Hp} {O0:List Addr} {E:XK} {ps ps':PSt} {D:PD} {a b c e:Expr} {es:List Expr} {u:U} {xs ys us:List U}
 {n:Nat} {C:Addr} {fd:FuncData} {pn:List Str} {spec:List U→Out→Prop}
end
end L2
namespace L2
open PySem PySem.Spec PySem.W PyProof.Rows
section
variable {X:Cx} {H0:Hp} {O0:List Addr} {E:XK} {ps:PSt} {D:PD} {s:Stmt} {pos:Pos} {u:U} {xs:List U}
end
section
variable {P:Program} {w:World} {K:PySem.W.Frag} {mg:Str→Option Value} {base:Heap} {N pn:List Str} {qual nm:Str} {f:Addr}
end
section
variable {X:Cx} {H0:Hp} {O0:List Addr} {ps:PSt} {e:Expr} {xs:List U} {us:List U} {x nm:Str} {pc p' pos:Pos} {u:U}
end
end L2
namespace L2
open PySem PySem.Spec PySem.W PyProof.Rows
section
variable {X:Cx}
def TB (X:Cx) (body:List Stmt) (t:(St→Hp→Prop)→(St→XK)→St→Hp→Prop):Prop:=
 ∀ (pins:List (Addr×Obj)) (s:Shared) (σ:St) (H:Hp) (N:St→Hp→Prop) (EX:St→XK) (Q:Flow→Shared→Prop) (E':Value→Shared→Prop),Inv X pins σ H s→t N EX σ H→(∀ σ' H' s',Inv X pins σ' H' s'→N σ' H'→Q .next s')→
  (∀ σ1 s1 H1 ev s',Inv X pins σ1 H1 s1→CXF X.prog X.w X.stack H1 s1 (EX σ1) ev s'→E' ev s')→wpAny (model X.prog X.w) X.A (execs body X.env) Q E' s
theorem nC:TB X [] (fun N _ σ H=> N σ H):=fun _ s σ H _ _ _ _ I h q _=> wpAny_execs_nil (q σ H s I h)
theorem ng {c:Expr} {AA bq:List Stmt} {ipos:Pos} {tc:TT} {t1 t2} (hc:PT X.nox c tc) (h1:TB X AA t1) (h2:TB X bq t2):
  TB X (.If c AA [] ipos::bq) (fun N EX σ H=> tc σ H fun d H1=> (d=true∧t1 (fun σ' H'=> t2 N EX σ' H') EX σ H1)∨(d=false∧t2 N EX σ H1)):=by
 intro pins s σ H N EX Q E' I h q x
 refine wpAny_execs_cons (wpAny_If (wpAny_mono (hc pins s σ H _ (I.wish _) h) (fun d s0 ⟨Hc,Ic,hn⟩=> ?_) fun _ _ z=> z.elim))
 have I0:Inv X pins σ Hc s0:=Ic.unwish
 rcases hn with ⟨rfl,hn⟩ | ⟨rfl,hn⟩
 ·rw [if_pos rfl]
  exact h1 pins s0 σ Hc _ EX _ E' I0 hn (fun σ' H' s' I' n'=> h2 pins s' σ' H' N EX Q E' I' n' q x) x
 ·rw [if_neg (by decide)]
  exact wpAny_execs_nil (h2 pins s0 σ Hc N EX Q E' I0 hn q x)
theorem jq {k:Nat} {fA:Addr} {fd:FuncData} {ps:List Str} {sp:Sp} {f:Str} {e:Expr} {es:List Expr} {ta:TA} {t2} {bq:List Stmt} {p cpos epos:Pos}
  (F:aS X.prog X.w X.K X.mg X.base (CXF X.prog X.w) k fA fd ps sp) (hr:cG k X.A) (hg:Gl X f) (hm:X.mg f=some (.ref fA)) (hk:keepIn X.K (.ref fA)=true) (hb:aH X.K fd ps []) (ha:PA X.nox (e::es) ta) (h2:TB X bq t2)
  (hdb:(f==("__debug__":Str))=false:=by decide) (he:starEach (e::es) X.env=(false,eval e X.env)::starEach es X.env:=by rfl) (hpl:(backTo cpos (starEach es X.env)).any (·.1)=false:=by rfl)
  (hsw:swapsWith (.Call (.Name f p) (e::es) [] cpos) none epos.line X.env=pure false:=by rfl):
  TB X (.Expr (.Call (.Name f p) (e::es) [] cpos) epos::bq) (fun N EX σ H=> ta σ H fun vs H1=> sp vs H1 (fun _ H2=> t2 N EX σ H2) (EX σ)):=by
 intro pins s σ H N EX Q E' I h q x
 refine wpAny_execs_cons (wpAny_Expr_any ?_ I.quiet hsw)
 refine wpAny_Call_Name_kw (d8 I hg hm ?_ hdb)
 refine PySem.W.callWith_K (h₀:=X.base) I.ok.mod.kin hk (wpAny_mono (ha cpos pins s σ H _ (I.wish _) h) (fun us s1 ⟨vs,H1,I1,r,q1⟩=> ⟨I1.kIn,?_⟩) fun _ _ z=> z.elim) he hpl
 have J1:Inv X pins σ H1 s1:=I1.unwish
 have hlen:us.length=ps.length:=by rw [← r.length]; exact F.len _ _ _ _ q1
 have hbd:=hb s1 us J1.kIn (by rw [List.append_nil]; exact hlen)
 rw [List.append_nil] at hbd
 refine wpAny_call (codeAny_mono (F.run X.A X.stack s1 H1 ⟨us,[]⟩ us vs _ _ hr J1.env0 hbd r q1) fun res s' hq=> ?_)
 cases res with
 | ok fl=>
  cases fl with
  | ret u=>
   obtain ⟨v,H2,I2,_,q2⟩:=J1.after hq
   exact h2 pins s' σ H2 N EX Q E' I2 q2 q x
  | next=> exact False.elim hq
  | brk=> exact False.elim hq
  | cont=> exact False.elim hq
 | error ev=> exact x σ s1 H1 ev s' J1 hq
theorem mj {B:Addr} {x n:Str} {i:Nat} {tb} {th:TS} {body:List Stmt} {b₀:Stmt} {suite:List Stmt} {np hpos pos:Pos} (hbd:TB X body tb) (hstk:X.stack=X.env::X.outer) (hfr:X.env.frame=some X.env.locals)
  (hgx:Gl X x) (hmx:X.mg x=some (.ref B)) (hT:typeIn X.K (.ref B)=some (.type "type")) (hB:mroIn X.K B (.type "BaseException")=some true)
  (hN:X.N.Nodup) (hi:X.N[i]?=some n) (hl:X.env.kindOf n=some .local) (hth:∀ ea,PSs (dn X ea) (b₀::suite) th) (hdx:(x==("__debug__":Str))=false:=by decide):
  PS X (.Try body [.ExceptHandler (some (.Name x np)) (some n) (b₀::suite) hpos] [] [] pos)
   (fun D σ H=> tb D.nx (fun σ1 cls _ H2=> ∃ C,cls=.ref C∧mroIn X.K C (.ref B)=some true∧∀ ea,H2 ea=none→th (D.drop i) (σ1.set i (some (.ref ea))) (upd H2 ea (.ext (OfCls ea C)))) σ H):=by
 intro pins s σ H D I h
 refine wpAny_Try_except (hbd pins s σ H _ _ _ _ I h (fun σ' H' s' I' n'=> wpAny_execs_nil ⟨σ',H',I',n'⟩) fun σ1 s1 H1 ev s' J1 hq=> ?_)
 obtain ⟨ea,cls,a0,B0,H',rfl,os,bare,un,hok,hea,k1,k2,k3,fl,C,rfl,hmC,hT'⟩:=hq
 have hfrs:=J1.ok.frames
 have fl0:=fl
 rw [hstk] at hfrs fl
 refine wpAny_looks_onW hfrs hfr fl fun h4 held4 up4=> ?_
 refine wpAny_landsW held4 fun h5 fl5 up5=> ?_
 have ffr:∀ b∈frs X.stack,∀ o,s1.heap.get? b=some o→∀ vs,o.data≠.fields vs:=gD J1.stack
 have inv:∀ h6,B0.StaysIn h6→s'.heap.UpToSlots h6→Inv X pins σ1 H' { s' with heap:=h6 }:=fun h6 st up=>
  J1.call' (s':={ s' with heap:=h6 }) (ch:=[]) os (j7 un k1 k3 st up ffr J1.stkFree) (e9 hok k2 fl.1 st) bare (fun b z=> absurd z (by simp))
 have n0:s1.heap.get? ea=none:=by
  cases z:s1.heap.get? ea with
  | none=> rfl
  | some o=>
   exfalso
   by_cases hb':ea∈frs X.stack
   ·obtain ⟨sl,e1⟩:=un.slot ea o z (J1.stkFree ea hb') hb' (by simp)
    obtain ⟨_,_,_,oe,vs',T',oT,ts,g1,g2,g3,_⟩:=fl0
    rw [e1] at g1; cases g1
    exact ffr ea hb' o z _ g3
   ·obtain ⟨o',e'⟩:=k3 ea o z hb'
    have:=fl0.2.1
    rw [e'] at this; cases this
 have inv2:∀ h6,B0.StaysIn h6→s'.heap.UpToSlots h6→OfCls ea C h6→Inv X pins σ1 (upd H' ea (.ext (OfCls ea C))) { s' with heap:=h6 }:=fun h6 st up oc=>
  J1.call' (s':={ s' with heap:=h6 }) (ch:=[]) os (kP (j7 un k1 k3 st up ffr J1.stkFree) n0 hea) (jx (e9 hok k2 fl.1 st) hea oc) bare (fun b z=> absurd z (by simp))
 have I5:=inv h5 fl5.1 (up4.trans up5)
 refine wpAny_handleBy_cons (codeAny_handlers_test (d8 (X:=dn X ea) (I5.hand ea) hgx hmx ?_ hdx)) (by intro z; cases z)
 refine iL I5.kIn fl5.there hT (fw hB) hB hmC ?_
 refine codeAny_handlers_suite_as (lands_againW fl5 fun h6 fl6 up6=> ?_)
 have I6:=inv2 h6 fl6.1 ((up4.trans up5).trans up6) fl6.there
 refine eO (X:=dn X ea) (v:=.ref ea) (I6.hand ea) hN hi (.inl hl) rfl (fun s7 I7 _=> ?_) (.inr hl)
 refine wpAny_mono (hth ea pins s7 _ _ (D.drop i) I7 (hT' ea hea)) (fun f s2 z=> ?_) fun _ _ z=> z.elim
 have z1:SP X pins (D.drop i) f s2:=z.unhand I.ok.hd
 cases f with
 | next=> obtain ⟨σ',H8,I8,q8⟩:=z1; exact ff I8 hN hi hl fun s9 I9=> ⟨_,_,I9,q8⟩
 | brk=> obtain ⟨σ',H8,I8,q8⟩:=z1; exact ff I8 hN hi hl fun s9 I9=> ⟨_,_,I9,q8⟩
 | cont=> obtain ⟨σ',H8,I8,q8⟩:=z1; exact ff I8 hN hi hl fun s9 I9=> ⟨_,_,I9,q8⟩
 | ret u=> obtain ⟨v,σ',H8,I8,r8,q8⟩:=z1; exact ff I8 hN hi hl fun s9 I9=> ⟨v,_,_,I9,r8,q8⟩
end
section
variable {X:Cx} {H0:Hp} {O0:List Addr} {E:XK} {ps:PSt} {D:PD} {e c:Expr} {es:List Expr} {us:List U} {n:Nat} {fd:FuncData} {pn:List Str} {spec:List U→Out→Prop} {AA bq:List Stmt} {nx:PSt→Prop} {ex:PSt→Addr→Prop}
def Tb (X:Cx) (H0:Hp) (O0:List Addr) (body:List Stmt) (nx:PSt→Prop) (ex:PSt→Addr→Prop) (ps:PSt):Prop:=
 TB X body fun N EX σ H=> (∀ p σ' H' O,Rs X.K H0 O0 p σ' H' O→nx p→N σ' H')∧(∀ p σ' H' O C,Rs X.K H0 O0 p σ' H' O→ex p C→EX σ' (.ref C) none H')∧∃ O,Rs X.K H0 O0 ps σ H O
theorem TB.mono {body:List Stmt} {t t'} (h:TB X body t) (m:∀ N EX σ H,t' N EX σ H→t N EX σ H):TB X body t':=fun pins s σ H N EX Q E' I q=> h pins s σ H N EX Q E' I (m N EX σ H q)
theorem gf (h:nx ps):Tb X H0 O0 [] nx ex ps:=TB.mono nC fun N EX σ H ⟨a,_,O,R⟩=> a ps σ H O R h
theorem cK {ipos:Pos} (hc:Tt X.nox H0 O0 ps c false) (h:Tb X H0 O0 bq nx ex ps):Tb X H0 O0 (.If c AA [] ipos::bq) nx ex ps:=
 TB.mono (ng (t1:=fun _ _ _ _=> False) hc (fun _ _ _ _ _ _ _ _ _ h=> h.elim) h) fun N EX σ H ⟨a,b,O,R⟩=> ⟨O,R,fun H' s=> .inr ⟨rfl,a,b,O,R.go s⟩⟩
theorem dj {ipos:Pos} (hc:Tt X.nox H0 O0 ps c true) (h:Tb X H0 O0 AA (fun p=> Tb X H0 O0 bq nx ex p) ex ps):Tb X H0 O0 (.If c AA [] ipos::bq) nx ex ps:=
 TB.mono (ng (t2:=fun N EX σ H=> ∃ p,Tb X H0 O0 bq nx ex p∧(∀ p σ' H' O,Rs X.K H0 O0 p σ' H' O→nx p→N σ' H')∧(∀ p σ' H' O C,Rs X.K H0 O0 p σ' H' O→ex p C→EX σ' (.ref C) none H')∧∃ O,Rs X.K H0 O0 p σ H O) hc h (fun pins s σ H N EX Q E' I ⟨p,w,z⟩=> w pins s σ H N EX Q E' I z)) fun N EX σ H ⟨a,b,O,R⟩=>
  ⟨O,R,fun H' s=> .inl ⟨rfl,fun p σ' H' O R k=> ⟨p,k,a,b,O,R⟩,b,O,R.go s⟩⟩
theorem nX {fA:Addr} {f:Str} {p cpos epos:Pos} (F:aS X.prog X.w X.K X.mg X.base (CXF X.prog X.w) n fA fd pn (spU X.K spec)) (hr:cG n X.A) (hg:Gl X f) (hm:X.mg f=some (.ref fA)) (hk:PySem.W.keepIn X.K (.ref fA)=true) (hb:aH X.K fd pn []) (ha:EvA X.nox H0 O0 ps (e::es) us) {o:Out} (hsp:spec us o) (ho:∀ C',o≠.exc C') (h:Tb X H0 O0 bq nx ex ps)
  (hdb:(f==("__debug__":Str))=false:=by decide) (he:starEach (e::es) X.env=(false,eval e X.env)::starEach es X.env:=by rfl) (hpl:(backTo cpos (starEach es X.env)).any (·.1)=false:=by rfl)
  (hsw:swapsWith (.Call (.Name f p) (e::es) [] cpos) none epos.line X.env=pure false:=by rfl):
  Tb X H0 O0 (.Expr (.Call (.Name f p) (e::es) [] cpos) epos::bq) nx ex ps:=
 TB.mono (jq F hr hg hm hk hb ha h hdb he hpl hsw) fun N EX σ H ⟨a,b,O,R⟩=> ⟨O,R,fun vs H1 s1 r1=> ⟨us,O,o,(R.go s1).dom,r1,hsp,by
  cases o with
  | val u=> exact fun v H2 s2 r2=> ⟨a,b,O,R.go (s1.trans s2)⟩
  | new xs=> exact fun a' vs H2 s2 _ _ _=> ⟨a,b,O,R.go (s1.trans s2)⟩
  | exc C'=> exact absurd rfl (ho C')⟩⟩
theorem gS {fA C:Addr} {f:Str} {p cpos epos:Pos} (F:aS X.prog X.w X.K X.mg X.base (CXF X.prog X.w) n fA fd pn (spU X.K spec)) (hr:cG n X.A) (hg:Gl X f) (hm:X.mg f=some (.ref fA)) (hk:PySem.W.keepIn X.K (.ref fA)=true) (hb:aH X.K fd pn []) (ha:EvA X.nox H0 O0 ps (e::es) us) (hsp:spec us (.exc C)) (h:ex ps C)
  (hdb:(f==("__debug__":Str))=false:=by decide) (he:starEach (e::es) X.env=(false,eval e X.env)::starEach es X.env:=by rfl) (hpl:(backTo cpos (starEach es X.env)).any (·.1)=false:=by rfl)
  (hsw:swapsWith (.Call (.Name f p) (e::es) [] cpos) none epos.line X.env=pure false:=by rfl):
  Tb X H0 O0 (.Expr (.Call (.Name f p) (e::es) [] cpos) epos::bq) nx ex ps:=
 TB.mono (jq (t2:=fun _ _ _ _=> False) F hr hg hm hk hb ha (fun _ _ _ _ _ _ _ _ _ h=> h.elim) hdb he hpl hsw) fun N EX σ H ⟨a,b,O,R⟩=> ⟨O,R,fun vs H1 s1 r1=> ⟨us,O,.exc C,(R.go s1).dom,r1,hsp,fun H2 s2=> b _ _ _ O C (R.go (s1.trans s2)) h⟩⟩
theorem lf {C:Addr} {body:List Stmt} (h:ex ps C) (k:ex ps C→Tb X H0 O0 body nx ex ps):Tb X H0 O0 body nx ex ps:=k h
theorem eI {B:Addr} {x m:Str} {i:Nat} {body:List Stmt} {b₀:Stmt} {suite:List Stmt} {np hpos pos:Pos} (hstk:X.stack=X.env::X.outer) (hfr:X.env.frame=some X.env.locals)
  (hgx:Gl X x) (hmx:X.mg x=some (.ref B)) (hT:typeIn X.K (.ref B)=some (.type "type")) (hB:mroIn X.K B (.type "BaseException")=some true)
  (hN:X.N.Nodup) (hi:X.N[i]?=some m) (hl:X.env.kindOf m=some .local)
  (hb:Tb X H0 O0 body D.nx (fun p C=> mroIn X.K C (.ref B)=some true∧XcOk X.K C∧∀ ea,Ws (dn X ea) H0 O0 E (b₀::suite) (D.drop i) (p.set i (some (.val (.ty (.xc C)))))) ps) (hdx:(x==("__debug__":Str))=false:=by decide):
  W1 X H0 O0 E (.Try body [.ExceptHandler (some (.Name x np)) (some m) (b₀::suite) hpos] [] [] pos) D ps:=
 PS.mono (mj (th:=fun D' σ H=> ∃ p,(∀ ea,Ws (dn X ea) H0 O0 E (b₀::suite) (D.drop i) p)∧Lf X.K H0 O0 E (D.drop i) D'∧∃ O,Rs X.K H0 O0 p σ H O) hb hstk hfr hgx hmx hT hB hN hi hl (fun ea pins s σ H D' I ⟨p,w,z⟩=> w ea pins s σ H D' I z) hdx) fun D' σ H ⟨L,O,R⟩=>
  ⟨fun p σ' H' O R k=> L.nx p σ' H' O R k,fun p σ' H' O C R ⟨k1,k2,k3⟩=> ⟨C,rfl,k1,fun ea hn=> ⟨_,k3,L.drop i,O,(R.go (bB hn _)).set (.xc (R.hidnew hn) k2)⟩⟩,O,R⟩
end
end L2
local macro_rules | `(tactic| walk_at "sz")=> `(tactic| first | with_reducible assumption | ((with_reducible apply L2.Sz.sub') <;> walk_at "sz") | ((with_reducible apply L2.Sz.add') <;> walk_at "sz") | ((with_reducible apply L2.Sz.mul) <;> walk_at "sz") | ((with_reducible apply L2.Sz.neg) <;> walk_at "sz") | ((with_reducible apply L2.Sz.ediv) <;> walk_at "sz") | ((with_reducible apply L2.Sz.abs) <;> walk_at "sz") | exact L2.Sz.lit (m:=8) (by decide) | exact L2.Sz.emod (m:=250) (by decide) (by decide) | exact L2.Sz.lit (m:=250) (by decide))
local macro_rules | `(tactic| walk_at "mul")=> `(tactic| exact L2.Sz.ok (by walk_at "sz") (by walk_at "sz") (by decide))
local macro_rules | `(tactic| walk_at "div")=> `(tactic| first | exact ⟨by decide,L2.Sz.mono (m:=250) (by decide) (by decide)⟩ | exact ⟨by omega,L2.Sz.mono (by walk_at "sz") (by decide)⟩)
local macro_rules | `(tactic| walk_at "mod")=> `(tactic| first | decide | omega)
local macro_rules | `(tactic| walk_at "szb")=> `(tactic| exact L2.Sz.mono (by walk_at "sz") (by decide))
local macro_rules | `(tactic| walk_at "kit")=> `(tactic| first | exact L2.kit_int_int _ | exact L2.kit_int_bool _ | exact L2.kit_tuple_tuple _ | exact L2.kit_list_list _ | exact L2.kit_bool_int _ | exact L2.kit_list_tuple _ | rfl)
local macro_rules | `(tactic| walk_at "ok")=> `(tactic| first | rfl | decide)
local macro_rules | `(tactic| walk_at "sub")=> `(tactic| first | exact trivial | (refine ⟨rfl,?_⟩; walk_at "sub") | (with_reducible apply L2.SubP.skip; walk_at "sub"))
local macro_rules | `(tactic| walk_at "len")=> `(tactic| first | decide | (simp only [List.length_append,List.length_cons,List.length_nil,List.length_map]; decide))
namespace My
open PySem PySem.Spec PyProof.Rows L2
def top (i:Nat):Stmt:=PySem.Challenge.pw_stakefield_k48_refused_wedges.main.body.getD i (.Pass ⟨0,0,0,0⟩)
abbrev b_:Stmt:=top 15
abbrev eR:Stmt:=top 16
abbrev cW:Stmt:=top 17
abbrev dB:Stmt:=top 20
abbrev bv:Stmt:=top 21
abbrev dJ:Stmt:=top 22
abbrev eD:Stmt:=top 24
abbrev cb:Stmt:=top 25
abbrev bN:Stmt:=top 26
abbrev cQ:Stmt:=top 27
abbrev dz:Stmt:=top 28
abbrev cc:Stmt:=top 29
abbrev dI:Stmt:=top 30
abbrev dA:Stmt:=top 31
abbrev eF:Stmt:=top 33
abbrev ce:Stmt:=top 36
abbrev bw:Stmt:=top 37
abbrev cE:Stmt:=top 38
abbrev dH:Stmt:=top 39
abbrev cZ:Stmt:=top 40
abbrev dE:Stmt:=top 41
abbrev cC:Stmt:=top 42
abbrev cI:Stmt:=top 43
abbrev bx:Stmt:=top 45
abbrev bL:Stmt:=top 46
abbrev bM:Stmt:=top 47
abbrev bJ:Stmt:=top 48
abbrev bg:Stmt:=top 49
abbrev br:Stmt:=top 50
abbrev bH:Stmt:=top 51
abbrev bu:Stmt:=top 52
abbrev bO:Stmt:=top 53
abbrev aE:Stmt:=top 54
abbrev bI:Stmt:=top 55
abbrev fP:Stmt:=top 56
theorem ik:av ["thing"] ["thing"] (ah b_):=⟨rfl,rfl,rfl,by decide+kernel,rfl,by decide+kernel,by decide+kernel⟩
theorem me:av ["number"] ["number"] (ah eR):=⟨rfl,rfl,rfl,by decide+kernel,rfl,by decide+kernel,by decide+kernel⟩
theorem aW:av ["a","b","high","high_times","low","low_times","fits","rest","rest_times","s"] ["a","b"] (ah cW):=⟨rfl,rfl,rfl,by decide+kernel,rfl,by decide+kernel,by decide+kernel⟩
theorem cT:av ["n","q","found","b","rest"] ["n","q"] (ah dB):=⟨rfl,rfl,rfl,by decide+kernel,rfl,by decide+kernel,by decide+kernel⟩
theorem fU:av ["n","q"] ["n","q"] (ah bv):=⟨rfl,rfl,rfl,by decide+kernel,rfl,by decide+kernel,by decide+kernel⟩
theorem kw:av ["n","q"] ["n","q"] (ah dJ):=⟨rfl,rfl,rfl,by decide+kernel,rfl,by decide+kernel,by decide+kernel⟩
theorem mG:av ["move"] ["move"] (ah eD):=⟨rfl,rfl,rfl,by decide+kernel,rfl,by decide+kernel,by decide+kernel⟩
theorem fB:av ["thing","number"] ["thing"] (ah cb):=⟨rfl,rfl,rfl,by decide+kernel,rfl,by decide+kernel,by decide+kernel⟩
theorem gJ:av ["thing"] ["thing"] (ah bN):=⟨rfl,rfl,rfl,by decide+kernel,rfl,by decide+kernel,by decide+kernel⟩
theorem jE:av ["P","move"] ["P","move"] (ah cQ):=⟨rfl,rfl,rfl,by decide+kernel,rfl,by decide+kernel,by decide+kernel⟩
theorem h_:av ["P","move","place"] ["P","move"] (ah dz):=⟨rfl,rfl,rfl,by decide+kernel,rfl,by decide+kernel,by decide+kernel⟩
theorem bK:av ["move","side","a","b","c","d"] ["move"] (ah cc):=⟨rfl,rfl,rfl,by decide+kernel,rfl,by decide+kernel,by decide+kernel⟩
theorem kM:av ["P","Q"] ["P","Q"] (ah dI):=⟨rfl,rfl,rfl,by decide+kernel,rfl,by decide+kernel,by decide+kernel⟩
theorem cn:av ["P","Q","far","u","v","parts","s","t"] ["P","Q"] (ah dA):=⟨rfl,rfl,rfl,by decide+kernel,rfl,by decide+kernel,by decide+kernel⟩
theorem mD:av ["P","Q","R"] ["P","Q","R"] (ah eF):=⟨rfl,rfl,rfl,by decide+kernel,rfl,by decide+kernel,by decide+kernel⟩
theorem hW:av ["u","v"] ["u","v"] (ah ce):=⟨rfl,rfl,rfl,by decide+kernel,rfl,by decide+kernel,by decide+kernel⟩
theorem fW:av ["u","v"] ["u","v"] (ah bw):=⟨rfl,rfl,rfl,by decide+kernel,rfl,by decide+kernel,by decide+kernel⟩
theorem iZ:av ["u","v","P"] ["u","v","P"] (ah cE):=⟨rfl,rfl,rfl,by decide+kernel,rfl,by decide+kernel,by decide+kernel⟩
theorem iz:av ["u","v","place"] ["u","v"] (ah dH):=⟨rfl,rfl,rfl,by decide+kernel,rfl,by decide+kernel,by decide+kernel⟩
theorem eL:av ["u","v","move","place"] ["u","v"] (ah cZ):=⟨rfl,rfl,rfl,by decide+kernel,rfl,by decide+kernel,by decide+kernel⟩
theorem cS:av ["u","v","bends","row","b"] ["u","v"] (ah dE):=⟨rfl,rfl,rfl,by decide+kernel,rfl,by decide+kernel,by decide+kernel⟩
theorem iF:av ["P","Q"] ["P","Q"] (ah cC):=⟨rfl,rfl,rfl,by decide+kernel,rfl,by decide+kernel,by decide+kernel⟩
theorem cf:av ["u","v","P","row","k","pairs","pair"] ["u","v","P"] (ah cI):=⟨rfl,rfl,rfl,by decide+kernel,rfl,by decide+kernel,by decide+kernel⟩
theorem fX:av ["cell"] ["cell"] (ah bx):=⟨rfl,rfl,rfl,by decide+kernel,rfl,by decide+kernel,by decide+kernel⟩
theorem aN:av ["some","size","right","up","more","u","w","before","last","k","b"] ["some","size"] (ah bL):=⟨rfl,rfl,rfl,by decide+kernel,rfl,by decide+kernel,by decide+kernel⟩
theorem gy:av ["cell"] ["cell"] (ah bM):=⟨rfl,rfl,rfl,by decide+kernel,rfl,by decide+kernel,by decide+kernel⟩
theorem gX:av ["u","v"] ["u","v"] (ah bJ):=⟨rfl,rfl,rfl,by decide+kernel,rfl,by decide+kernel,by decide+kernel⟩
theorem ak:av ["way","u","v","P","kinds","e"] ["way","u","v","P"] (ah bg):=⟨rfl,rfl,rfl,by decide+kernel,rfl,by decide+kernel,by decide+kernel⟩
theorem em:av ["place","k"] ["place"] (ah br):=⟨rfl,rfl,rfl,by decide+kernel,rfl,by decide+kernel,by decide+kernel⟩
theorem cy:av ["u","v","cell","times","some"] ["u","v","cell"] (ah bH):=⟨rfl,rfl,rfl,by decide+kernel,rfl,by decide+kernel,by decide+kernel⟩
theorem fT:av ["cell"] ["cell"] (ah bu):=⟨rfl,rfl,rfl,by decide+kernel,rfl,by decide+kernel,by decide+kernel⟩
theorem bX:av ["u","w","v","cell","one","other","more","x"] ["u","w","v","cell"] (ah bO):=⟨rfl,rfl,rfl,by decide+kernel,rfl,by decide+kernel,by decide+kernel⟩
theorem aD:av ["u","v","P","found","x","spot","times","y"] ["u","v","P"] (ah aE):=⟨rfl,rfl,rfl,by decide+kernel,rfl,by decide+kernel,by decide+kernel⟩
theorem d9:av ["u","v","size","P","away"] ["u","v","size","P"] (ah bI):=⟨rfl,rfl,rfl,by decide+kernel,rfl,by decide+kernel,by decide+kernel⟩
theorem bQ:av ["script","cells","k","some","size","P","way","u","w","v","one","other","j"] ["script"] (ah fP):=⟨rfl,rfl,rfl,by decide+kernel,rfl,by decide+kernel,by decide+kernel⟩
set_option genInjectivity false in
set_option genSizeOf false in
set_option genSizeOfSpec false in
structure Txt (K:PySem.W.Frag) (mg:Str→Option Value) where
 a_is_whole:Addr
 d_is_whole:FuncData
 F_is_whole:Fun K "is_whole" "is_whole" b_ a_is_whole d_is_whole
 b_is_whole:aH K d_is_whole ["thing"] []
 m_is_whole:mg "is_whole"=some (.ref a_is_whole)
 a_sign:Addr
 d_sign:FuncData
 F_sign:Fun K "sign" "sign" eR a_sign d_sign
 b_sign:aH K d_sign ["number"] []
 m_sign:mg "sign"=some (.ref a_sign)
 a_shares:Addr
 d_shares:FuncData
 F_shares:Fun K "shares" "shares" cW a_shares d_shares
 b_shares:aH K d_shares ["a","b"] []
 m_shares:mg "shares"=some (.ref a_shares)
 a_links:Addr
 d_links:FuncData
 F_links:Fun K "links" "links" dB a_links d_links
 b_links:aH K d_links ["n","q"] []
 m_links:mg "links"=some (.ref a_links)
 a_is_chained:Addr
 d_is_chained:FuncData
 F_is_chained:Fun K "is_chained" "is_chained" bv a_is_chained d_is_chained
 b_is_chained:aH K d_is_chained ["n","q"] []
 m_is_chained:mg "is_chained"=some (.ref a_is_chained)
 a_chain:Addr
 d_chain:FuncData
 F_chain:Fun K "chain" "chain" dJ a_chain d_chain
 b_chain:aH K d_chain ["n","q"] []
 m_chain:mg "chain"=some (.ref a_chain)
 a_hand:Addr
 d_hand:FuncData
 F_hand:Fun K "hand" "hand" eD a_hand d_hand
 b_hand:aH K d_hand ["move"] []
 m_hand:mg "hand"=some (.ref a_hand)
 a_is_move:Addr
 d_is_move:FuncData
 F_is_move:Fun K "is_move" "is_move" cb a_is_move d_is_move
 b_is_move:aH K d_is_move ["thing"] []
 m_is_move:mg "is_move"=some (.ref a_is_move)
 a_need_move:Addr
 d_need_move:FuncData
 F_need_move:Fun K "need_move" "need_move" bN a_need_move d_need_move
 b_need_move:aH K d_need_move ["thing"] []
 m_need_move:mg "need_move"=some (.ref a_need_move)
 a_turned:Addr
 d_turned:FuncData
 F_turned:Fun K "turned" "turned" cQ a_turned d_turned
 b_turned:aH K d_turned ["P","move"] []
 m_turned:mg "turned"=some (.ref a_turned)
 a_moved:Addr
 d_moved:FuncData
 F_moved:Fun K "moved" "moved" dz a_moved d_moved
 b_moved:aH K d_moved ["P","move"] []
 m_moved:mg "moved"=some (.ref a_moved)
 a_way_back:Addr
 d_way_back:FuncData
 F_way_back:Fun K "way_back" "way_back" cc a_way_back d_way_back
 b_way_back:aH K d_way_back ["move"] []
 m_way_back:mg "way_back"=some (.ref a_way_back)
 a_steps:Addr
 d_steps:FuncData
 F_steps:Fun K "steps" "steps" dI a_steps d_steps
 b_steps:aH K d_steps ["P","Q"] []
 m_steps:mg "steps"=some (.ref a_steps)
 a_level:Addr
 d_level:FuncData
 F_level:Fun K "level" "level" dA a_level d_level
 b_level:aH K d_level ["P","Q"] []
 m_level:mg "level"=some (.ref a_level)
 a_turn:Addr
 d_turn:FuncData
 F_turn:Fun K "turn" "turn" eF a_turn d_turn
 b_turn:aH K d_turn ["P","Q","R"] []
 m_turn:mg "turn"=some (.ref a_turn)
 a_is_wedge:Addr
 d_is_wedge:FuncData
 F_is_wedge:Fun K "is_wedge" "is_wedge" ce a_is_wedge d_is_wedge
 b_is_wedge:aH K d_is_wedge ["u","v"] []
 m_is_wedge:mg "is_wedge"=some (.ref a_is_wedge)
 a_need_wedge:Addr
 d_need_wedge:FuncData
 F_need_wedge:Fun K "need_wedge" "need_wedge" bw a_need_wedge d_need_wedge
 b_need_wedge:aH K d_need_wedge ["u","v"] []
 m_need_wedge:mg "need_wedge"=some (.ref a_need_wedge)
 a_lies_in:Addr
 d_lies_in:FuncData
 F_lies_in:Fun K "lies_in" "lies_in" cE a_lies_in d_lies_in
 b_lies_in:aH K d_lies_in ["u","v","P"] []
 m_lies_in:mg "lies_in"=some (.ref a_lies_in)
 a_turns:Addr
 d_turns:FuncData
 F_turns:Fun K "turns" "turns" dH a_turns d_turns
 b_turns:aH K d_turns ["u","v"] []
 m_turns:mg "turns"=some (.ref a_turns)
 a_beside:Addr
 d_beside:FuncData
 F_beside:Fun K "beside" "beside" cZ a_beside d_beside
 b_beside:aH K d_beside ["u","v"] []
 m_beside:mg "beside"=some (.ref a_beside)
 a_least:Addr
 d_least:FuncData
 F_least:Fun K "least" "least" dE a_least d_least
 b_least:aH K d_least ["u","v"] []
 m_least:mg "least"=some (.ref a_least)
 a_crossed:Addr
 d_crossed:FuncData
 F_crossed:Fun K "crossed" "crossed" cC a_crossed d_crossed
 b_crossed:aH K d_crossed ["P","Q"] []
 m_crossed:mg "crossed"=some (.ref a_crossed)
 a_spread:Addr
 d_spread:FuncData
 F_spread:Fun K "spread" "spread" cI a_spread d_spread
 b_spread:aH K d_spread ["u","v","P"] []
 m_spread:mg "spread"=some (.ref a_spread)
 a__law_slope:Addr
 d__law_slope:FuncData
 F__law_slope:Fun K "_law_slope" "_law_slope" bx a__law_slope d__law_slope
 b__law_slope:aH K d__law_slope ["cell"] []
 m__law_slope:mg "_law_slope"=some (.ref a__law_slope)
 a__law_ends:Addr
 d__law_ends:FuncData
 F__law_ends:Fun K "_law_ends" "_law_ends" bL a__law_ends d__law_ends
 b__law_ends:aH K d__law_ends ["some","size"] []
 m__law_ends:mg "_law_ends"=some (.ref a__law_ends)
 a__law_size:Addr
 d__law_size:FuncData
 F__law_size:Fun K "_law_size" "_law_size" bM a__law_size d__law_size
 b__law_size:aH K d__law_size ["cell"] []
 m__law_size:mg "_law_size"=some (.ref a__law_size)
 a__law_hand:Addr
 d__law_hand:FuncData
 F__law_hand:Fun K "_law_hand" "_law_hand" bJ a__law_hand d__law_hand
 b__law_hand:aH K d__law_hand ["u","v"] []
 m__law_hand:mg "_law_hand"=some (.ref a__law_hand)
 a__law_refused:Addr
 d__law_refused:FuncData
 F__law_refused:Fun K "_law_refused" "_law_refused" bg a__law_refused d__law_refused
 b__law_refused:aH K d__law_refused ["way","u","v","P"] []
 m__law_refused:mg "_law_refused"=some (.ref a__law_refused)
 a__law_only:Addr
 d__law_only:FuncData
 F__law_only:Fun K "_law_only" "_law_only" br a__law_only d__law_only
 b__law_only:aH K d__law_only ["place"] []
 m__law_only:mg "_law_only"=some (.ref a__law_only)
 a__law_bare:Addr
 d__law_bare:FuncData
 F__law_bare:Fun K "_law_bare" "_law_bare" bH a__law_bare d__law_bare
 b__law_bare:aH K d__law_bare ["u","v","cell"] []
 m__law_bare:mg "_law_bare"=some (.ref a__law_bare)
 a__law_times:Addr
 d__law_times:FuncData
 F__law_times:Fun K "_law_times" "_law_times" bu a__law_times d__law_times
 b__law_times:aH K d__law_times ["cell"] []
 m__law_times:mg "_law_times"=some (.ref a__law_times)
 a__law_spot:Addr
 d__law_spot:FuncData
 F__law_spot:Fun K "_law_spot" "_law_spot" bO a__law_spot d__law_spot
 b__law_spot:aH K d__law_spot ["u","w","v","cell"] []
 m__law_spot:mg "_law_spot"=some (.ref a__law_spot)
 a__law_spread_good:Addr
 d__law_spread_good:FuncData
 F__law_spread_good:Fun K "_law_spread_good" "_law_spread_good" aE a__law_spread_good d__law_spread_good
 b__law_spread_good:aH K d__law_spread_good ["u","v","P"] []
 m__law_spread_good:mg "_law_spread_good"=some (.ref a__law_spread_good)
 a__law_good:Addr
 d__law_good:FuncData
 F__law_good:Fun K "_law_good" "_law_good" bI a__law_good d__law_good
 b__law_good:aH K d__law_good ["u","v","size","P"] []
 m__law_good:mg "_law_good"=some (.ref a__law_good)
 a_law:Addr
 d_law:FuncData
 F_law:Fun K "law" "law" fP a_law d_law
 b_law:aH K d_law ["script"] []
 m_law:mg "law"=some (.ref a_law)
 c_Flat:Addr
 mx_Flat:mg "Flat"=some (.ref c_Flat)
 c_NoField:Addr
 mx_NoField:mg "NoField"=some (.ref c_NoField)
 c_NoHeart:Addr
 mx_NoHeart:mg "NoHeart"=some (.ref c_NoHeart)
 c_NoMove:Addr
 x_NoMove:PySem.W.excIn K c_NoMove [.type "ValueError",.type "Exception",.type "BaseException",.type "object"] "ValueError.__new__"=true
 mx_NoMove:mg "NoMove"=some (.ref c_NoMove)
 c_NoName:Addr
 mx_NoName:mg "NoName"=some (.ref c_NoName)
 c_NoNumber:Addr
 x_NoNumber:PySem.W.excIn K c_NoNumber [.type "ValueError",.type "Exception",.type "BaseException",.type "object"] "ValueError.__new__"=true
 mx_NoNumber:mg "NoNumber"=some (.ref c_NoNumber)
 c_NoRow:Addr
 mx_NoRow:mg "NoRow"=some (.ref c_NoRow)
 c_NoText:Addr
 mx_NoText:mg "NoText"=some (.ref c_NoText)
 c_NoWedge:Addr
 x_NoWedge:PySem.W.excIn K c_NoWedge [.type "ValueError",.type "Exception",.type "BaseException",.type "object"] "ValueError.__new__"=true
 mx_NoWedge:mg "NoWedge"=some (.ref c_NoWedge)
 c_NotThere:Addr
 x_NotThere:PySem.W.excIn K c_NotThere [.type "ValueError",.type "Exception",.type "BaseException",.type "object"] "ValueError.__new__"=true
 mx_NotThere:mg "NotThere"=some (.ref c_NotThere)
 c_StakeError:Addr
 mx_StakeError:mg "StakeError"=some (.ref c_StakeError)
 c_TooGreat:Addr
 mx_TooGreat:mg "TooGreat"=some (.ref c_TooGreat)
 c_TooMany:Addr
 x_TooMany:PySem.W.excIn K c_TooMany [.type "ValueError",.type "Exception",.type "BaseException",.type "object"] "ValueError.__new__"=true
 mx_TooMany:mg "TooMany"=some (.ref c_TooMany)
 z_ValueError:mg "ValueError"=none
 z_abs:mg "abs"=none
 z_all:mg "all"=none
 z_bool:mg "bool"=none
 z_int:mg "int"=none
 z_isinstance:mg "isinstance"=none
 z_len:mg "len"=none
 z_list:mg "list"=none
 z_range:mg "range"=none
 z_sum:mg "sum"=none
 z_tuple:mg "tuple"=none
 bx_StakeError:PySem.W.mroIn K c_StakeError (.type "BaseException")=some true
 kit_NoWedge_Flat:PySem.W.kitOne K (.ref c_NoWedge) (.ref c_Flat)=some false
 kit_NoWedge_NoField:PySem.W.kitOne K (.ref c_NoWedge) (.ref c_NoField)=some false
 kit_NoWedge_NoHeart:PySem.W.kitOne K (.ref c_NoWedge) (.ref c_NoHeart)=some false
 kit_NoWedge_NoMove:PySem.W.kitOne K (.ref c_NoWedge) (.ref c_NoMove)=some false
 kit_NoWedge_NoName:PySem.W.kitOne K (.ref c_NoWedge) (.ref c_NoName)=some false
 kit_NoWedge_NoNumber:PySem.W.kitOne K (.ref c_NoWedge) (.ref c_NoNumber)=some false
 kit_NoWedge_NoRow:PySem.W.kitOne K (.ref c_NoWedge) (.ref c_NoRow)=some false
 kit_NoWedge_NoText:PySem.W.kitOne K (.ref c_NoWedge) (.ref c_NoText)=some false
 kit_NoWedge_NoWedge:PySem.W.kitOne K (.ref c_NoWedge) (.ref c_NoWedge)=some true
 kit_NoWedge_NotThere:PySem.W.kitOne K (.ref c_NoWedge) (.ref c_NotThere)=some false
 kit_NoWedge_TooGreat:PySem.W.kitOne K (.ref c_NoWedge) (.ref c_TooGreat)=some false
 kit_NoWedge_TooMany:PySem.W.kitOne K (.ref c_NoWedge) (.ref c_TooMany)=some false
 kit_NoWedge_ValueError:PySem.W.kitOne K (.ref c_NoWedge) (.type "ValueError")=some true
 kit_NotThere_Flat:PySem.W.kitOne K (.ref c_NotThere) (.ref c_Flat)=some false
 kit_NotThere_NoField:PySem.W.kitOne K (.ref c_NotThere) (.ref c_NoField)=some false
 kit_NotThere_NoHeart:PySem.W.kitOne K (.ref c_NotThere) (.ref c_NoHeart)=some false
 kit_NotThere_NoMove:PySem.W.kitOne K (.ref c_NotThere) (.ref c_NoMove)=some false
 kit_NotThere_NoName:PySem.W.kitOne K (.ref c_NotThere) (.ref c_NoName)=some false
 kit_NotThere_NoNumber:PySem.W.kitOne K (.ref c_NotThere) (.ref c_NoNumber)=some false
 kit_NotThere_NoRow:PySem.W.kitOne K (.ref c_NotThere) (.ref c_NoRow)=some false
 kit_NotThere_NoText:PySem.W.kitOne K (.ref c_NotThere) (.ref c_NoText)=some false
 kit_NotThere_NoWedge:PySem.W.kitOne K (.ref c_NotThere) (.ref c_NoWedge)=some false
 kit_NotThere_NotThere:PySem.W.kitOne K (.ref c_NotThere) (.ref c_NotThere)=some true
 kit_NotThere_TooGreat:PySem.W.kitOne K (.ref c_NotThere) (.ref c_TooGreat)=some false
 kit_NotThere_TooMany:PySem.W.kitOne K (.ref c_NotThere) (.ref c_TooMany)=some false
 kit_NotThere_ValueError:PySem.W.kitOne K (.ref c_NotThere) (.type "ValueError")=some true
 kit_TooMany_Flat:PySem.W.kitOne K (.ref c_TooMany) (.ref c_Flat)=some false
 kit_TooMany_NoField:PySem.W.kitOne K (.ref c_TooMany) (.ref c_NoField)=some false
 kit_TooMany_NoHeart:PySem.W.kitOne K (.ref c_TooMany) (.ref c_NoHeart)=some false
 kit_TooMany_NoMove:PySem.W.kitOne K (.ref c_TooMany) (.ref c_NoMove)=some false
 kit_TooMany_NoName:PySem.W.kitOne K (.ref c_TooMany) (.ref c_NoName)=some false
 kit_TooMany_NoNumber:PySem.W.kitOne K (.ref c_TooMany) (.ref c_NoNumber)=some false
 kit_TooMany_NoRow:PySem.W.kitOne K (.ref c_TooMany) (.ref c_NoRow)=some false
 kit_TooMany_NoText:PySem.W.kitOne K (.ref c_TooMany) (.ref c_NoText)=some false
 kit_TooMany_NoWedge:PySem.W.kitOne K (.ref c_TooMany) (.ref c_NoWedge)=some false
 kit_TooMany_NotThere:PySem.W.kitOne K (.ref c_TooMany) (.ref c_NotThere)=some false
 kit_TooMany_TooGreat:PySem.W.kitOne K (.ref c_TooMany) (.ref c_TooGreat)=some false
 kit_TooMany_TooMany:PySem.W.kitOne K (.ref c_TooMany) (.ref c_TooMany)=some true
 kit_TooMany_ValueError:PySem.W.kitOne K (.ref c_TooMany) (.type "ValueError")=some true
 sub_NoWedge_StakeError:PySem.W.mroIn K c_NoWedge (.ref c_StakeError)=some true
 sub_NotThere_StakeError:PySem.W.mroIn K c_NotThere (.ref c_StakeError)=some true
 sub_TooMany_StakeError:PySem.W.mroIn K c_TooMany (.ref c_StakeError)=some true
 ty_StakeError:PySem.W.typeIn K (.ref c_StakeError)=some (.type "type")
 xc_NoWedge:PySem.W.XcOk K c_NoWedge
 xc_NotThere:PySem.W.XcOk K c_NotThere
 xc_TooMany:PySem.W.XcOk K c_TooMany
 g_MOST_NUMBERS:∃ t,mg "MOST_NUMBERS"=some (.int 100 t)
 g_TIP:∃ c,mg "TIP"=some (.ref c)∧kO K c (0,0)
section
variable {P:Program} {w:World} {K:PySem.W.Frag} {mg:Str→Option Value} {base:Heap}
def sgn (n:Int):Int:=if 0 < n then 1 else if n < 0 then -1 else 0
def bj (b:Int):Int:=if b < 0 then -b else b
theorem cj (b:Int):bj b=(b.natAbs:Int):=by unfold bj; split <;> omega
theorem ee {b:Int} (h:b≠0):0 < bj b:=by unfold bj; split <;> omega
theorem cq (d b:Int):d ∣ bj b↔d ∣ b:=by
 unfold bj; split
 ·exact Int.dvd_neg
 ·exact Iff.rfl
theorem kl (d b:Int):bj b ∣ d↔b ∣ d:=by
 unfold bj; split
 ·exact Int.neg_dvd
 ·exact Iff.rfl
structure eT (a b high ht low lt:Int):Prop where
 hp:0 < high
 lo0:0≤low
 lolt:low < high
 dv:∀ d,(d ∣ high∧d ∣ low)↔(d ∣ a∧d ∣ b)
 ch:b ∣ ht * a - high
 cl:b ∣ lt * a - low
 bd:ht.natAbs * low.natAbs+lt.natAbs * high.natAbs≤b.natAbs
 hi:high.natAbs≤b.natAbs
theorem hX {a b:Int} (hb:b≠0):eT a b (bj b) 0 (a % bj b) 1:=by
 have h0:=ee hb
 refine ⟨h0,Int.emod_nonneg _ (by omega),Int.emod_lt_of_pos _ h0,fun d=> ?_,?_,?_,?_,by rw [cj]; simp⟩
 ·rw [cq]
  constructor
  ·rintro ⟨h1,h2⟩
   refine ⟨?_,h1⟩
   have e:=Int.emod_add_mul_ediv a (bj b)
   rw [← e]
   exact Int.dvd_add h2 (Int.dvd_trans ((cq d b).mpr h1) (Int.dvd_mul_right _ _))
  ·rintro ⟨h1,h2⟩
   refine ⟨h2,?_⟩
   have e:a % bj b=a - bj b * (a / bj b):=by have:=Int.emod_add_mul_ediv a (bj b); omega
   rw [e]
   exact Int.dvd_sub h1 (Int.dvd_trans ((cq d b).mpr h2) (Int.dvd_mul_right _ _))
 ·rw [Int.zero_mul,Int.zero_sub,Int.dvd_neg]
  exact (cq b b).mpr (Int.dvd_refl b)
 ·have e:1 * a - a % bj b=bj b * (a / bj b):=by have:=Int.emod_add_mul_ediv a (bj b); omega
  rw [e]
  exact Int.dvd_trans ((cq b b).mpr (Int.dvd_refl b)) (Int.dvd_mul_right _ _)
 ·rw [cj]; simp
theorem je {a b high ht low lt:Int} (I:eT a b high ht low lt) (h:low≠0):eT a b low lt (high - high / low * low) (ht - high / low * lt)∧high - high / low * low < low:=by
 obtain ⟨hp,lo0,lolt,dv,ch,cl,bd,hi⟩:=I
 have hl:0 < low:=by omega
 have e:=Int.emod_add_mul_ediv high low
 have r0:=Int.emod_nonneg high h
 have r1:=Int.emod_lt_of_pos high hl
 have hf:0≤high / low:=Int.ediv_nonneg (by omega) (by omega)
 have er:high - high / low * low=high % low:=by rw [Int.mul_comm]; omega
 rw [er]
 refine ⟨⟨hl,r0,r1,fun d=> ?_,cl,?_,?_,by omega⟩,r1⟩
 ·rw [← dv d]
  constructor
  ·rintro ⟨h1,h2⟩
   refine ⟨?_,h1⟩
   rw [← e]
   exact Int.dvd_add h2 (Int.dvd_trans h1 (Int.dvd_mul_right _ _))
  ·rintro ⟨h1,h2⟩
   refine ⟨h2,?_⟩
   rw [show high % low=high - low * (high / low) by omega]
   exact Int.dvd_sub h1 (Int.dvd_trans h2 (Int.dvd_mul_right _ _))
 ·have e2:(ht - high / low * lt) * a - high % low=(ht * a - high) - (high / low) * (lt * a - low):=by grind
  rw [e2]
  exact Int.dvd_sub ch (Int.dvd_trans cl (Int.dvd_mul_left _ _))
 ·have n1:(ht - high / low * lt).natAbs≤ht.natAbs+(high / low).natAbs * lt.natAbs:=by
   have:=Int.natAbs_sub_le ht (high / low * lt)
   rw [Int.natAbs_mul] at this
   exact this
  have n2:high.natAbs=(high % low).natAbs+low.natAbs * (high / low).natAbs:=by
   have:(high.natAbs:Int)=((high % low).natAbs+low.natAbs * (high / low).natAbs:Nat):=by
    push_cast
    rw [Int.natAbs_of_nonneg r0,Int.natAbs_of_nonneg hf,Int.natAbs_of_nonneg (by omega:0≤high),Int.natAbs_of_nonneg lo0]
    omega
   omega
  have n3:(ht - high / low * lt).natAbs * low.natAbs≤(ht.natAbs+(high / low).natAbs * lt.natAbs) * low.natAbs:=Nat.mul_le_mul_right _ n1
  rw [n2] at bd
  refine Nat.le_trans ?_ bd
  generalize (ht - high / low * lt).natAbs=A at *
  generalize ht.natAbs=B at *
  generalize lt.natAbs=C at *
  generalize low.natAbs=D at *
  generalize (high / low).natAbs=E at *
  generalize (high % low).natAbs=F at *
  grind
structure dM (a b g s t:Int):Prop where
 g0:0≤g
 eq:s * a+t * b=g
 da:g ∣ a
 db:g ∣ b
 z:b=0→t=0∧s=sgn a∧g=bj a
 nz:b≠0→0 < g∧0≤s∧s < bj b / g
theorem gm (a:Int):dM a 0 (bj a) (sgn a) 0:=by
 refine ⟨by unfold bj; split <;> omega,?_,(kl a a).mpr (Int.dvd_refl a),Int.dvd_zero _,fun _=> ⟨rfl,rfl,rfl⟩,fun h=> absurd rfl h⟩
 unfold sgn bj
 split
 ·split <;> omega
 ·split
  ·omega
  ·omega
theorem ly {a b high ht lt:Int} (hb:b≠0) (I:eT a b high ht 0 lt):dM a b high (ht % (bj b / high)) ((high - ht % (bj b / high) * a).fdiv b):=by
 obtain ⟨hp,lo0,lolt,dv,ch,cl,bd,hi⟩:=I
 obtain ⟨ga,gb⟩:=(dv high).mp ⟨Int.dvd_refl _,Int.dvd_zero _⟩
 obtain ⟨a',rfl⟩:=ga
 have gb2:high ∣ bj b:=(cq _ _).mpr gb
 obtain ⟨b',hb'⟩:=gb2
 have hb0:=ee hb
 have hq:bj b / high=b':=by rw [hb',Int.mul_ediv_cancel_left _ (by omega)]
 have hb1:0 < b':=by
  have:0 < high * b':=by omega
  exact Int.pos_of_mul_pos_right this (by omega)
 rw [hq]
 have es:=Int.emod_add_mul_ediv ht b'
 have key:b ∣ high - ht % b' * (high * a'):=by
  have e:high - ht % b' * (high * a')=-(ht * (high * a') - high)+bj b * (a' * (ht / b')):=by
   rw [hb',show ht % b'=ht - b' * (ht / b') by omega]; grind
  rw [e]
  refine Int.dvd_add (Int.dvd_neg.mpr ch) (Int.dvd_trans ((cq b b).mpr (Int.dvd_refl b)) (Int.dvd_mul_right _ _))
 refine ⟨by omega,?_,Int.dvd_mul_right _ _,gb,fun h=> absurd h hb,fun _=> ⟨hp,Int.emod_nonneg _ (by omega),?_⟩⟩
 ·obtain ⟨c,hc⟩:=key
  rw [hc,Int.mul_fdiv_cancel_left _ hb,Int.mul_comm c b]; omega
 ·rw [hq]; exact Int.emod_lt_of_pos _ hb1
theorem oN {a b high ht low lt:Int} (I:eT a b high ht low lt):lt.natAbs≤b.natAbs:=by
 have h1:1≤high.natAbs:=by have:=I.hp; omega
 have h2:lt.natAbs * 1≤lt.natAbs * high.natAbs:=Nat.mul_le_mul_left _ h1
 have:=I.bd
 omega
theorem kW {a b g s t g' s' t':Int} (h:dM a b g s t) (h':dM a b g' s' t'):g=g'∧s=s'∧t=t':=by
 have d1:g ∣ g':=by rw [← h'.eq]; exact Int.dvd_add (Int.dvd_trans h.da (Int.dvd_mul_left _ _)) (Int.dvd_trans h.db (Int.dvd_mul_left _ _))
 have d2:g' ∣ g:=by rw [← h.eq]; exact Int.dvd_add (Int.dvd_trans h'.da (Int.dvd_mul_left _ _)) (Int.dvd_trans h'.db (Int.dvd_mul_left _ _))
 have eg:g=g':=Int.dvd_antisymm h.g0 h'.g0 d1 d2
 subst eg
 by_cases hb:b=0
 ·obtain ⟨h1,h2,_⟩:=h.z hb
  obtain ⟨k1,k2,_⟩:=h'.z hb
  exact ⟨rfl,by omega,by omega⟩
 ·obtain ⟨p,s0,s1⟩:=h.nz hb
  obtain ⟨_,s0',s1'⟩:=h'.nz hb
  obtain ⟨a',ha⟩:=h.da
  obtain ⟨b',hb'⟩:=(cq g b).mpr h.db
  obtain ⟨b'',hb''⟩:=h.db
  have hq:bj b / g=b':=by rw [hb',Int.mul_ediv_cancel_left _ (by omega)]
  rw [hq] at s1 s1'
  have e1:=h.eq
  have e2:=h'.eq
  have bz:b''≠0:=by intro z; rw [z,Int.mul_zero] at hb''; exact hb hb''
  have k1:s * a'+t * b''=1:=by
   have:g * (s * a'+t * b'')=g * 1:=by rw [ha,hb''] at e1; grind
   exact Int.eq_of_mul_eq_mul_left (by omega) this
  have k2:s' * a'+t' * b''=1:=by
   have:g * (s' * a'+t' * b'')=g * 1:=by rw [ha,hb''] at e2; grind
   exact Int.eq_of_mul_eq_mul_left (by omega) this
  have k3:b'' ∣ s - s':=by
   refine ⟨s * (t' - t)+t * (s - s'),?_⟩
   grind
  have k4:b' ∣ s - s':=by
   have:b'.natAbs=b''.natAbs:=by
    have q1:(bj b).natAbs=b.natAbs:=by rw [cj]; simp
    rw [hb',hb''] at q1
    rw [Int.natAbs_mul,Int.natAbs_mul] at q1
    exact Nat.eq_of_mul_eq_mul_left (by omega) q1
   exact Int.natAbs_dvd_natAbs.mp (by rw [this]; exact Int.natAbs_dvd_natAbs.mpr k3)
  have k5:s=s':=by
   have:s - s'=0:=Int.eq_zero_of_dvd_of_natAbs_lt_natAbs k4 (by omega)
   omega
  subst k5
  refine ⟨rfl,rfl,?_⟩
  have:b * t=b * t':=by grind
  exact Int.eq_of_mul_eq_mul_left hb this
theorem mV {a b:Int} (hb:b≠0):∀ (n:Nat) (high ht low lt:Int),low.toNat≤n→eT a b high ht low lt→∃ high' ht' lt',eT a b high' ht' 0 lt'
 | 0,high,ht,low,lt,hn,I=> by
  have:low=0:=by have:=I.lo0; omega
  subst this
  exact ⟨_,_,_,I⟩
 | n+1,high,ht,low,lt,hn,I=> by
  by_cases h:low=0
  ·subst h; exact ⟨_,_,_,I⟩
  ·obtain ⟨I2,less⟩:=je I h
   have:=I2.lo0
   exact mV hb n _ _ _ _ (by have:=I.lo0; omega) I2
theorem mB (a b:Int):∃ g s t,dM a b g s t:=by
 by_cases hb:b=0
 ·subst hb; exact ⟨_,_,_,gm a⟩
 ·obtain ⟨h,ht,lt,I⟩:=mV hb _ _ _ _ _ (Nat.le_refl _) (hX (a:=a) hb)
  exact ⟨_,_,_,ly hb I⟩
theorem gv {m:Nat} {a b g s t:Int} (G:dM a b g s t) (sa:Sz m a) (sb:Sz m b):Sz (m+8) g∧Sz (m+8) s∧Sz (2 * m+8) t:=by
 by_cases hb:b=0
 ·subst hb
  obtain ⟨h1,h2,h3⟩:=G.z rfl
  rw [h1,h2,h3]
  have s1:Sz 8 (sgn a):=by unfold Sz sgn; split; decide; split <;> decide
  exact ⟨(Sz.abs sa).mono (by omega),s1.mono (by omega),Sz.mono (m:=8) (by decide) (by omega)⟩
 ·obtain ⟨g0,s0,s1⟩:=G.nz hb
  have h1:bj b / g≤bj b:=Int.ediv_le_self _ (by have:=ee hb; omega)
  have h2:=cj b
  have sg:Sz m g:=by
   refine sb.natle ?_
   exact Nat.le_of_dvd (by omega) (Int.natAbs_dvd_natAbs.mpr G.db)
  have ss:Sz m s:=sb.natle (by omega)
  refine ⟨sg.mono (by omega),ss.mono (by omega),?_⟩
  have e:t * b=g - s * a:=by have:=G.eq; omega
  have q:Sz (2 * m+1) (t * b):=by
   rw [e]
   have:Sz (m+m) (s * a):=ss.mul sa
   have h3:=(sg.mono (show m≤m+m by omega)).sub this
   exact h3.mono (by omega)
  refine (Sz.mono (m:=2 * m+1) ?_ (by omega))
  unfold Sz at *
  rw [Int.natAbs_mul] at q
  have:1≤b.natAbs:=by omega
  exact Nat.lt_of_le_of_lt (Nat.le_mul_of_pos_right _ this) q
def jK:List U→Out→Prop:=fun us o=> ∃ n:Int,us=[.int n]∧o=.val (.int (sgn n))
set_option maxHeartbeats 8000000 in
theorem jh (T:Txt K mg):aS P w K mg base (CXF P w) 1 T.a_sign T.d_sign ["number"] (spU K (jK)):=by
 refine aU T.F_sign me (fun us o h=> ?_) (fun cdv A outer s H E O us o hr h=> ?_)
 ·obtain ⟨n,rfl,rfl⟩:=h
  rfl
 obtain ⟨n,rfl,rfl⟩:=h
 refine Ws.nox ?_
 refine af (fD (az ft (aa 0 rfl) ag) (fun hT=> ?_) (fun hF=> (aI ?_)))
 ·refine af (aA ag ?_)
  exact vIO (by unfold sgn; rw [if_pos (dTb hT)])
 ·refine af (fD (az gI (aa 0 rfl) ag) (fun hT=> ?_) (fun hF=> (aI ?_)))
  ·refine af (aA (bA ag) ?_)
   exact vIO (by unfold sgn; rw [if_neg (dFb hF),if_pos (dTb hT)])
  ·rename_i hF2
   refine af (aA ag ?_)
   exact vIO (by unfold sgn; rw [if_neg (dFb hF),if_neg (dFb hF2)])
def iw:List U→Out→Prop:=fun us o=> ∃ a b g s t:Int,us=[.int a,.int b]∧Sz 4000 a∧Sz 4000 b∧dM a b g s t∧o=.val (.tup [.int g,.int s,.int t])
theorem iy {a b g s t g' s' t':Int} (G:dM a b g s t) (G':dM a b g' s' t'):Out.val (.tup [.int g,.int s,.int t])=Out.val (.tup [.int g',.int s',.int t']):=by
 obtain ⟨rfl,rfl,rfl⟩:=kW G G'
 rfl
set_option maxHeartbeats 8000000 in
theorem eM (T:Txt K mg):aS P w K mg base (CXF P w) 2 T.a_shares T.d_shares ["a","b"] (spU K (iw)):=by
 refine aU T.F_shares aW (fun us o h=> ?_) (fun cdv A outer s H E O us o hr h=> ?_)
 ·obtain ⟨a,b,g,s,t,rfl,sa,sb,G,rfl⟩:=h
  rfl
 obtain ⟨a,b,g,s,t,rfl,sa,sb,G,rfl⟩:=h
 refine Ws.nox ?_
 refine af (fD (az aG (aa 1 rfl) ag) (fun hT=> ?_) (fun hF=> (aI ?_)))
 ·have hb:b=0:=dTb hT
  subst hb
  refine af (aA (aZ (ai (aw ki rfl T.z_abs PyProof.Rows.boot_abs (ac (aa 0 rfl) aj ae)) (ai (al ((jh T).mono (by decide)) hr rfl T.m_sign T.F_sign.kp T.b_sign ap (ac (aa 0 rfl) aj ae) ⟨_,rfl,rfl⟩) (ai ag aB aX) ax) ax)) ?_)
  exact iy (gm a) G
 ·have hb:b≠0:=dFb hF
  have hp0:=ee hb
  have sab:Sz 4000 (bj b):=Sz.abs sb
  refine af (ao (i:=2) aW.nd rfl (Or.inl rfl) (aw ki rfl T.z_abs PyProof.Rows.boot_abs (ac (aa 1 rfl) aj ae)) ?_)
  refine af (ao (i:=3) aW.nd rfl (Or.inl rfl) ag ?_)
  refine af (ao (i:=4) aW.nd rfl (Or.inl rfl) (bh (aa 0 rfl) (aa 2 rfl) hp0) ?_)
  refine af (ao (i:=5) aW.nd rfl (Or.inl rfl) ag ?_)
  refine af (fJ (fun m:Int×Int×Int×Int=> [some (.val (.int a)),some (.val (.int b)),some (.val (.int m.1)),some (.val (.int m.2.1)),some (.val (.int m.2.2.1)),some (.val (.int m.2.2.2)),none,none,none,none]) (fun n m=> n=m.2.2.1.toNat∧eT a b m.1 m.2.1 m.2.2.1 m.2.2.2) PassesOwn.never ?h0 ?hs)
  case h0=> exact ⟨_,(_,_,_,_),⟨rfl,hX hb⟩,rfl,rfl,rfl,rfl,rfl,rfl,trivial⟩
  case hs=>
   rintro m ⟨high,ht,low,lt⟩ ⟨rfl,I⟩
   dsimp only at I ⊢
   have hl0:=I.lo0
   have hl1:=I.lolt
   have sh:Sz 4000 high:=sb.natle I.hi
   have sl:Sz 4000 low:=sh.natle (by omega)
   have slt:Sz 4000 lt:=sb.natle (oN I)
   refine ⟨_,(az m_ (aa 4 rfl) ag),fun h=> ?_,fun h ps hps=> ?_⟩
   ·have hl:low≠0:=nTb h
    obtain ⟨I2,less⟩:=je I hl
    have hlt:(high - high / low * low).toNat < low.toNat:=by clear h; omega
    refine af (ao (i:=6) aW.nd rfl (Or.inl rfl) (cF (aa 2 rfl) (aa 4 rfl) (by walk_at "div")) ?_)
    have sf:Sz 4000 (high / low):=sh.ediv
    refine af (ao (i:=7) aW.nd rfl (Or.inl rfl) (aY (aa 2 rfl) (ar (aa 6 rfl) (aa 4 rfl) (by walk_at "mul"))) ?_)
    refine af (ao (i:=8) aW.nd rfl (Or.inl rfl) (aY (aa 3 rfl) (ar (aa 6 rfl) (aa 5 rfl) (by walk_at "mul"))) ?_)
    refine af (ao (i:=2) aW.nd rfl (Or.inl rfl) (aa 4 rfl) ?_)
    refine af (ao (i:=3) aW.nd rfl (Or.inl rfl) (aa 5 rfl) ?_)
    refine af (ao (i:=4) aW.nd rfl (Or.inl rfl) (aa 7 rfl) ?_)
    refine af (ao (i:=5) aW.nd rfl (Or.inl rfl) (aa 8 rfl) (aI ?_))
    exact ⟨_,(_,_,_,_),hlt,⟨rfl,I2⟩,rfl,rfl,rfl,rfl,rfl,rfl,trivial⟩
   ·have hl:low=0:=nFb h
    subst hl
    refine dO ?_ hps
    have G2:=ly hb I
    obtain ⟨g0,s0,s1⟩:=G2.nz hb
    have hm:0 < bj b / high:=by omega
    have hg:0 < high:=I.hp
    have ss:Sz 4000 (ht % (bj b / high)):=by
     refine sb.natle ?_
     have h1:bj b / high≤bj b:=Int.ediv_le_self _ (by omega)
     have h2:=cj b
     omega
    refine af (ao (i:=9) aW.nd rfl (Or.inl rfl) (bh (aa 3 rfl) (cF (aw ki rfl T.z_abs PyProof.Rows.boot_abs (ac (aa 1 rfl) aj ae)) (aa 2 rfl) ⟨hg,sh.mono (by decide)⟩) hm) ?_)
    refine af (aA (aZ (ai (aa 2 rfl) (ai (aa 9 rfl) (ai (nO (aY (aa 2 rfl) (ar (aa 9 rfl) (aa 0 rfl) (Sz.ok ss sa (by decide)))) (aa 1 rfl) ⟨hb,sb.mono (by decide)⟩) aB aM) ae) ae)) ?_)
    exact iy G2 G
theorem j5 {a b g s t:Int} (G:dM a b g s t):g=((Int.gcd a b:Nat):Int):=by
 have h1:g ∣ ((Int.gcd a b:Nat):Int):=Int.dvd_coe_gcd G.da G.db
 have h2:((Int.gcd a b:Nat):Int) ∣ g:=by
  rw [← G.eq]
  exact Int.dvd_add (Int.dvd_trans (Int.gcd_dvd_left ..) (Int.dvd_mul_left _ _)) (Int.dvd_trans (Int.gcd_dvd_right ..) (Int.dvd_mul_left _ _))
 exact Int.dvd_antisymm G.g0 (Int.natCast_nonneg _) h1 h2
theorem eo (a b:Int):∃ s t,dM a b ((Int.gcd a b:Nat):Int) s t:=by
 obtain ⟨g,s,t,G⟩:=mB a b
 have e:=j5 G
 subst e
 exact ⟨s,t,G⟩
def cd (n q:Int):Int:=-(-n / q)
theorem ko {n q:Int} (h:0 < q):n≤cd n q * q:=by
 unfold cd
 have h1:=Int.emod_nonneg (-n) (show q≠0 by omega)
 have h2:=Int.mul_ediv_add_emod (-n) q
 have h3:-(-n / q) * q=-(q * (-n / q)):=by grind
 omega
theorem lq {n q:Int} (h:0 < q):cd n q * q - n < q:=by
 unfold cd
 have h1:=Int.emod_lt_of_pos (-n) h
 have h2:=Int.mul_ediv_add_emod (-n) q
 have h3:-(-n / q) * q=-(q * (-n / q)):=by grind
 omega
theorem lR {n q b:Int} (h:0 < q) (h1:n≤b * q) (h2:b * q - n < q):cd n q=b:=by
 have l:=ko (n:=n) h
 have u:=lq (n:=n) h
 generalize cd n q=c at *
 have e1:(c - b) * q < 1 * q:=by grind
 have e2:(b - c) * q < 1 * q:=by grind
 have:=Int.lt_of_mul_lt_mul_right e1 (by omega)
 have:=Int.lt_of_mul_lt_mul_right e2 (by omega)
 omega
theorem nN {n q:Int} (hn:0 < n) (h:0 < q):0 < cd n q:=by
 have l:=ko (n:=n) h
 refine Int.not_le.mp fun z=> ?_
 have:=Int.mul_nonneg (show 0≤-cd n q by omega) (show 0≤q by omega)
 grind
theorem pJ {n q:Int} (hn:0 < n) (h:0 < q):cd n q≤n:=by
 have u:=lq (n:=n) h
 refine Int.not_lt.mp fun z=> ?_
 have:=Int.mul_nonneg (show 0≤cd n q - n - 1 by omega) (show 0≤q by omega)
 have:=Int.mul_nonneg (show 0≤n - 0 by omega) (show 0≤q - 1 by omega)
 grind
def lks:Nat→Int→Int→Option (List Int)
 | 0,_,q=> if q≤0 then some [] else none
 | k+1,n,q=> if q≤0 then some [] else (lks k q (cd n q * q - n)).map (cd n q::·)
theorem h8 (k:Nat) (n:Int) {q:Int} (h:q≤0):lks k n q=some []:=by
 cases k <;> · unfold lks; rw [if_pos h]
theorem iu (n:Int) {q:Int} (h:0 < q):lks 0 n q=none:=by unfold lks; rw [if_neg (by omega)]
theorem h9 (k:Nat) (n:Int) {q:Int} (h:0 < q):lks (k+1) n q=(lks k q (cd n q * q - n)).map (cd n q::·):=by
 rw [lks,if_neg (by omega)]
theorem kR (n q b:Int):Int.gcd q (b * q - n)=Int.gcd n q:=by
 refine Nat.dvd_antisymm ?_ ?_
 ·have h1:((Int.gcd q (b * q - n):Nat):Int) ∣ q:=Int.gcd_dvd_left ..
  have h2:((Int.gcd q (b * q - n):Nat):Int) ∣ b * q - n:=Int.gcd_dvd_right ..
  have h3:((Int.gcd q (b * q - n):Nat):Int) ∣ n:=by
   have:=Int.dvd_sub (Int.dvd_trans h1 (Int.dvd_mul_left b q)) h2
   rwa [show b * q - (b * q - n)=n by omega] at this
  exact Int.ofNat_dvd.mp (Int.dvd_coe_gcd h3 h1)
 ·have h1:((Int.gcd n q:Nat):Int) ∣ n:=Int.gcd_dvd_left ..
  have h2:((Int.gcd n q:Nat):Int) ∣ q:=Int.gcd_dvd_right ..
  exact Int.ofNat_dvd.mp (Int.dvd_coe_gcd h2 (Int.dvd_sub (Int.dvd_trans h2 (Int.dvd_mul_left _ _)) h1))
structure Chd (n q:Int):Prop where
 q0:0≤q
 qn:q < n
 g:Int.gcd n q=1
theorem Chd.back {n q b:Int} (h:Chd n q) (hb:2≤b):Chd (b * n - q) n:=by
 have h1:=h.q0
 have h2:=h.qn
 have h3:2 * n≤b * n:=Int.mul_le_mul_of_nonneg_right hb (by omega)
 refine ⟨by omega,by omega,?_⟩
 have:=kR (b * n - q) n b
 rw [← this,show b * n - (b * n - q)=q by omega]
 exact h.g
theorem mE {n q b:Int} (h:Chd n q):cd (b * n - q) n=b:=by
 have h1:=h.q0
 have h2:=h.qn
 exact lR (by omega) (by omega) (by omega)
def unc:List Int→Int×Int
 | []=> (1,0)
 | b::l=> (b * (unc l).1 - (unc l).2,(unc l).1)
theorem jb:∀ {l:List Int},(∀ b∈l,2≤b)→Chd (unc l).1 (unc l).2
 | [],_=> ⟨by decide,by decide,by decide⟩
 | b::l,h=> (jb fun c hc=> h c (List.mem_cons_of_mem _ hc)).back (h b (List.mem_cons_self ..))
theorem jv:∀ {l:List Int} (k:Nat),(∀ b∈l,2≤b)→lks k (unc l).1 (unc l).2=if l.length≤k then some l else none
 | [],k,_=> by rw [if_pos (show ([]:List Int).length≤k from Nat.zero_le _)]; exact h8 k _ (by decide)
 | b::l,k,h=> by
  have hl:=fun c hc=> h c (List.mem_cons_of_mem _ hc)
  have ok:=jb hl
  have p:0 < (unc l).1:=by have:=ok.q0; have:=ok.qn; omega
  show lks k (b * (unc l).1 - (unc l).2) (unc l).1=_
  cases k with
  | zero=> rw [iu _ p,if_neg (by simp)]
  | succ k=>
   rw [h9 _ _ p,mE ok,show b * (unc l).1 - (b * (unc l).1 - (unc l).2)=(unc l).2 by omega,jv k hl]
   simp only [List.length_cons,Nat.add_le_add_iff_right]
   split <;> rfl
theorem gB:∀ {k:Nat} {n q:Int} {l:List Int},lks k n q=some l→l.length≤k
 | 0,n,q,l,h=> by
  unfold lks at h
  split at h
  ·cases h; exact Nat.le_refl _
  ·cases h
 | k+1,n,q,l,h=> by
  unfold lks at h
  split at h
  ·cases h; exact Nat.zero_le _
  ·cases e:lks k q (cd n q * q - n) with
   | none=> rw [e] at h; cases h
   | some t=> rw [e] at h; cases h; simp; exact gB e
abbrev dd (u v:P2):Int:=u.1 * v.2 - u.2 * v.1
def nx (b:Int) (a c:P2):P2:=(b * c.1 - a.1,b * c.2 - a.2)
def pts:P2→P2→List Int→List P2
 | u,w,[]=> [u,w]
 | u,w,b::l=> u::pts w (nx b u w) l
theorem ez:∀ (u w:P2) (l:List Int),(pts u w l).length=l.length+2
 | _,_,[]=> rfl
 | u,w,b::l=> by rw [pts,List.length_cons,ez,List.length_cons]
theorem dF:∀ (l:List Int) (u w:P2),dd u w=1→∃ r,pts u w l=u::w::r
 | [],u,w,_=> ⟨[],rfl⟩
 | b::l,u,w,h=> by
  obtain ⟨r,e⟩:=dF l w (nx b u w) (by unfold dd nx at *; grind)
  exact ⟨nx b u w::r,by rw [pts,e]⟩
def dL:P2→P2→List Int→P2
 | _,w,[]=> w
 | u,w,b::l=> dL w (nx b u w) l
theorem d6:∀ (l:List Int) (u w:P2),(pts u w l)[l.length+1]?=some (dL u w l)
 | [],_,_=> rfl
 | b::l,u,w=> by rw [pts,List.length_cons,List.getElem?_cons_succ]; exact d6 l w (nx b u w)
theorem i5:∀ (l:List Int) (u w:P2),dL u w l=((unc l).1 * w.1 - (unc l).2 * u.1,(unc l).1 * w.2 - (unc l).2 * u.2)
 | [],u,w=> by show w=_; simp [unc]
 | b::l,u,w=> by
  rw [dL,i5 l,unc,nx]
  refine Prod.ext ?_ ?_ <;> · dsimp only; grind
theorem ic:∀ (j:Nat) (l:List Int) (u w:P2),dd u w=1→j≤l.length→∃ a c,dd a c=1∧(pts u w l).drop j=pts a c (l.drop j)∧dL u w l=dL a c (l.drop j)
 | 0,l,u,w,h,_=> ⟨u,w,h,rfl,rfl⟩
 | j+1,[],_,_,_,h=> by simp at h
 | j+1,b::l,u,w,h,hj=> by
  obtain ⟨a,c,h1,h2,h3⟩:=ic j l w (nx b u w) (by unfold dd nx at *; grind) (by simpa using hj)
  exact ⟨a,c,h1,by rw [pts,List.drop_succ_cons,List.drop_succ_cons]; exact h2,by rw [dL,List.drop_succ_cons]; exact h3⟩
theorem mL {x y s t:Int} (h:s * x+t * y=1):Int.gcd x y=1:=by
 have h1:((Int.gcd x y:Nat):Int) ∣ 1:=by
  rw [← h]
  exact Int.dvd_add (Int.dvd_trans (Int.gcd_dvd_left ..) (Int.dvd_mul_left _ _)) (Int.dvd_trans (Int.gcd_dvd_right ..) (Int.dvd_mul_left _ _))
 have:=Int.le_of_dvd (by decide) h1
 rcases Nat.eq_zero_or_pos (Int.gcd x y) with e | e
 ·rw [e] at h1; exact absurd (Int.zero_dvd.mp h1) (by decide)
 ·omega
theorem io {u w:P2} (h:dd u w=1):Int.gcd u.1 u.2=1:=mL (s:=w.2) (t:=-w.1) (by unfold dd at h; grind)
theorem mr {u w:P2} {n q:Int} (h:dd u w=1) (hc:Int.gcd n q=1):Int.gcd (n * w.1 - q * u.1) (n * w.2 - q * u.2)=1:=by
 have hn:((Int.gcd (n * w.1 - q * u.1) (n * w.2 - q * u.2):Nat):Int) ∣ n:=by
  have e:n=u.1 * (n * w.2 - q * u.2) - u.2 * (n * w.1 - q * u.1):=by unfold dd at h; grind
  have:=Int.dvd_sub (Int.dvd_trans (Int.gcd_dvd_right (a:=n * w.1 - q * u.1) (b:=n * w.2 - q * u.2)) (Int.dvd_mul_left u.1 _)) (Int.dvd_trans (Int.gcd_dvd_left (a:=n * w.1 - q * u.1) (b:=n * w.2 - q * u.2)) (Int.dvd_mul_left u.2 _))
  rwa [← e] at this
 have hq:((Int.gcd (n * w.1 - q * u.1) (n * w.2 - q * u.2):Nat):Int) ∣ q:=by
  have e:q=w.1 * (n * w.2 - q * u.2) - w.2 * (n * w.1 - q * u.1):=by unfold dd at h; grind
  have:=Int.dvd_sub (Int.dvd_trans (Int.gcd_dvd_right (a:=n * w.1 - q * u.1) (b:=n * w.2 - q * u.2)) (Int.dvd_mul_left w.1 _)) (Int.dvd_trans (Int.gcd_dvd_left (a:=n * w.1 - q * u.1) (b:=n * w.2 - q * u.2)) (Int.dvd_mul_left w.2 _))
  rwa [← e] at this
 have h1:=Int.dvd_coe_gcd hn hq
 rw [hc] at h1
 have:=Int.le_of_dvd (by decide) h1
 rcases Nat.eq_zero_or_pos (Int.gcd (n * w.1 - q * u.1) (n * w.2 - q * u.2)) with e | e
 ·rw [e] at h1; exact absurd (Int.zero_dvd.mp h1) (by decide)
 ·omega
theorem pH {n q x:Int} (h0:0≤q) (h1:q < n):-(n * x - q) % n=q:=by
 rw [show -(n * x - q)=q+n * (-x) by grind,Int.add_mul_emod_self_left]
 exact Int.emod_eq_of_lt h0 h1
theorem pQ {n q x:Int} (h0:0≤q) (h1:q < n):-(-(n * x - q) / n)=x:=by
 rw [show -(n * x - q)=q+n * (-x) by grind,Int.add_mul_ediv_left _ _ (by omega),Int.ediv_eq_zero_of_lt h0 h1]
 omega
abbrev PN:=P2×Int
def i9 (P a c:P2):List PN:=[(a,dd P c),(c,dd a P)].filter fun z=> decide (0 < z.2)
def spr (P:P2):List P2→List PN
 | a::c::r=> if 0≤dd P c∨r=[] then i9 P a c else spr P (c::r)
 | _=> []
theorem fv {P a c:P2} {r:List P2} (h:0≤dd P c):spr P (a::c::r)=i9 P a c:=by rw [spr,if_pos (.inl h)]
theorem kv {P a c d:P2} {r:List P2} (h:¬ 0≤dd P c):spr P (a::c::d::r)=spr P (c::d::r):=by
 rw [spr,if_neg (fun z=> by rcases z with z | z; exact h z; cases z)]
theorem mP (a b:P2):dd b a=-dd a b:=by unfold dd; grind
theorem l_ (a:P2):dd a a=0:=by unfold dd; grind
theorem ix {l:List Int} {u w z a:P2} {p' r:List P2} (h:dd u w=1) (e:pts u w l=p'++z::a::r):dd z a=1:=by
 have hl:=congrArg List.length e
 rw [ez] at hl
 simp at hl
 obtain ⟨a0,c0,h1,h2,_⟩:=ic p'.length l u w h (by omega)
 obtain ⟨t,et⟩:=dF (l.drop p'.length) a0 c0 h1
 rw [e,List.drop_left,et] at h2
 injection h2 with e1 e2
 injection e2 with e3 _
 rw [e1,e3]; exact h1
theorem kh {P:P2}:∀ {row:List P2} {u v:P2},2≤row.length→row.head?=some u→row.getLast?=some v→(∀ pre z a r,row=pre++z::a::r→dd z a=1)→0≤dd u P→0≤dd P v→
  ∃ pre a c r,row=pre++a::c::r∧spr P row=i9 P a c∧0≤dd a P∧0≤dd P c
 | [],_,_,h,_,_,_,_,_=> by simp at h
 | [_],_,_,h,_,_,_,_,_=> by simp at h
 | [a,c],u,v,_,hu,hv,_,h1,h2=> by
  cases hu; cases hv
  exact ⟨[],a,c,[],rfl,fv h2,h1,h2⟩
 | a::c::d::r,u,v,_,hu,hv,hn,h1,h2=> by
  cases hu
  by_cases hc:0≤dd P c
  ·exact ⟨[],a,c,d::r,rfl,fv hc,h1,hc⟩
  ·obtain ⟨pre,a',c',r',e,k1,k2,k3⟩:=kh (row:=c::d::r) (u:=c) (v:=v) (by simp) rfl (by have k:=hv; rw [List.getLast?_cons_cons] at k; exact k) (fun pre z x y e=> hn (a::pre) z x y (by rw [e]; rfl)) (by rw [mP]; omega) h2
   exact ⟨a::pre,a',c',r',by rw [e]; rfl,by rw [kv hc]; exact k1,k2,k3⟩
theorem lF {P a c:P2} (h:dd a c=1):(a.1 * dd P c+c.1 * dd a P,a.2 * dd P c+c.2 * dd a P)=P:=by
 unfold dd at *
 refine Prod.ext ?_ ?_ <;> · dsimp only; grind
end
section
variable {P:Program} {w:World} {K:PySem.W.Frag} {mg:Str→Option Value} {base:Heap}
def isInt:U→Bool
 | .int _=> true
 | _=> false
abbrev mv (a b c d e f:Int):U:=.tup [.int a,.int b,.int c,.int d,.int e,.int f]
def eN:U→Bool
 | .tup [.int a,.int b,.int c,.int d,.int _,.int _]=> decide (a * d - b * c=1) || decide (a * d - b * c=-1)
 | _=> false
structure gK (u:U):Prop where
 ty:∀ m,u≠.ty m
 ity:∀ xs,u=.tup xs→∀ x∈xs,∀ m,x≠.ty m
 len:∀ xs,u=.tup xs→xs.length≤100
 sz:∀ a b c d e f,u=mv a b c d e f→Sz 30000 a∧Sz 30000 b∧Sz 30000 c∧Sz 30000 d
theorem gK.of {a b c d e f:Int} (ha:Sz 30000 a) (hb:Sz 30000 b) (hc:Sz 30000 c) (hd:Sz 30000 d):gK (mv a b c d e f):=by
 refine ⟨fun m h=> (nomatch h),fun xs h x hx m e=> ?_,fun xs h=> ?_,fun a' b' c' d' e' f' h=> ?_⟩
 ·cases h; subst e; simp at hx
 ·cases h; simp
 ·cases h; exact ⟨ha,hb,hc,hd⟩
theorem mh {a b c d e f:Int} (h:a * d - b * c=1∨a * d - b * c=-1):eN (mv a b c d e f)=true:=by
 show (decide (a * d - b * c=1) || decide (a * d - b * c=-1))=true
 simpa using h
theorem lC {xs:List U} (h:xs.length≠6):eN (.tup xs)=false:=by
 unfold eN
 split
 ·rename_i e; cases e; simp at h
 ·rfl
theorem ov {xs:List U} (h:xs.length=6) (hi:xs.all isInt=true):∃ a b c d e f,xs=[.int a,.int b,.int c,.int d,.int e,.int f]:=by
 match xs,h with
 | [x1,x2,x3,x4,x5,x6],_=>
  simp only [List.all_cons,List.all_nil,Bool.and_true,Bool.and_eq_true] at hi
  obtain ⟨h1,h2,h3,h4,h5,h6⟩:=hi
  have key:∀ {x:U},isInt x=true→∃ n,x=.int n:=fun {x} h=> by cases x <;> simp [isInt] at h; exact ⟨_,rfl⟩
  obtain ⟨a,rfl⟩:=key h1
  obtain ⟨b,rfl⟩:=key h2
  obtain ⟨c,rfl⟩:=key h3
  obtain ⟨d,rfl⟩:=key h4
  obtain ⟨e,rfl⟩:=key h5
  obtain ⟨f,rfl⟩:=key h6
  exact ⟨a,b,c,d,e,f,rfl⟩
theorem kI {xs:List U} (h:xs.all isInt=false):eN (.tup xs)=false:=by
 unfold eN
 split
 ·rename_i e; cases e; simp [isInt] at h
 ·rfl
def iH:List U→Out→Prop:=fun us o=> ∃ u,us=[u]∧(∀ m,u≠.ty m)∧o=.val (.bl (isInt u))
set_option maxHeartbeats 8000000 in
theorem dl (T:Txt K mg):aS P w K mg base (CXF P w) 1 T.a_is_whole T.d_is_whole ["thing"] (spU K (iH)):=by
 refine aU T.F_is_whole ik (fun us o h=> ?_) (fun cdv A outer s H E O us o hr h=> ?_)
 ·obtain ⟨u,rfl,hu,rfl⟩:=h
  rfl
 obtain ⟨u,rfl,hu,rfl⟩:=h
 refine Ws.nox ?_
 cases u with
 | ty m=> exact absurd rfl (hu m)
 | int n=> refine af (aA (cw (aw (aC (by intro _ h; cases h) (by walk_at "kit")) rfl T.z_isinstance boot_isinstance (ac (aa 0 rfl) (ac (bZ rfl T.z_int boot_int) aj ae) ae)) (fun hz=> (cN (eW (aw (aC (by intro _ h; cases h) (by walk_at "kit")) rfl T.z_isinstance boot_isinstance (ac (aa 0 rfl) (ac (bZ rfl T.z_bool boot_bool) aj ae) ae)))))) ?_); exact rfl
 | bl n=> refine af (aA (cw (aw (aC (by intro _ h; cases h) (by walk_at "kit")) rfl T.z_isinstance boot_isinstance (ac (aa 0 rfl) (ac (bZ rfl T.z_int boot_int) aj ae) ae)) (fun hz=> (cN (eW (aw (aC (by intro _ h; cases h) (by walk_at "kit")) rfl T.z_isinstance boot_isinstance (ac (aa 0 rfl) (ac (bZ rfl T.z_bool boot_bool) aj ae) ae)))))) ?_); exact rfl
 | non=> refine af (aA (cw (aw (aC (by intro _ h; cases h) (by walk_at "kit")) rfl T.z_isinstance boot_isinstance (ac (aa 0 rfl) (ac (bZ rfl T.z_int boot_int) aj ae) ae)) (fun hz=> (cN (eW (aw (aC (by intro _ h; cases h) (by walk_at "kit")) rfl T.z_isinstance boot_isinstance (ac (aa 0 rfl) (ac (bZ rfl T.z_bool boot_bool) aj ae) ae)))))) ?_); exact rfl
 | str n=> refine af (aA (cw (aw (aC (by intro _ h; cases h) (by walk_at "kit")) rfl T.z_isinstance boot_isinstance (ac (aa 0 rfl) (ac (bZ rfl T.z_int boot_int) aj ae) ae)) (fun hz=> (cN (eW (aw (aC (by intro _ h; cases h) (by walk_at "kit")) rfl T.z_isinstance boot_isinstance (ac (aa 0 rfl) (ac (bZ rfl T.z_bool boot_bool) aj ae) ae)))))) ?_); exact rfl
 | dic=> refine af (aA (cw (aw (aC (by intro _ h; cases h) (by walk_at "kit")) rfl T.z_isinstance boot_isinstance (ac (aa 0 rfl) (ac (bZ rfl T.z_int boot_int) aj ae) ae)) (fun hz=> (cN (eW (aw (aC (by intro _ h; cases h) (by walk_at "kit")) rfl T.z_isinstance boot_isinstance (ac (aa 0 rfl) (ac (bZ rfl T.z_bool boot_bool) aj ae) ae)))))) ?_); exact rfl
 | scr n=> refine af (aA (cw (aw (aC (by intro _ h; cases h) (by walk_at "kit")) rfl T.z_isinstance boot_isinstance (ac (aa 0 rfl) (ac (bZ rfl T.z_int boot_int) aj ae) ae)) (fun hz=> (cN (eW (aw (aC (by intro _ h; cases h) (by walk_at "kit")) rfl T.z_isinstance boot_isinstance (ac (aa 0 rfl) (ac (bZ rfl T.z_bool boot_bool) aj ae) ae)))))) ?_); exact rfl
 | lst n=> refine af (aA (cw (aw (aC (by intro _ h; cases h) (by walk_at "kit")) rfl T.z_isinstance boot_isinstance (ac (aa 0 rfl) (ac (bZ rfl T.z_int boot_int) aj ae) ae)) (fun hz=> (cN (eW (aw (aC (by intro _ h; cases h) (by walk_at "kit")) rfl T.z_isinstance boot_isinstance (ac (aa 0 rfl) (ac (bZ rfl T.z_bool boot_bool) aj ae) ae)))))) ?_); exact rfl
 | tup n=> refine af (aA (cw (aw (aC (by intro _ h; cases h) (by walk_at "kit")) rfl T.z_isinstance boot_isinstance (ac (aa 0 rfl) (ac (bZ rfl T.z_int boot_int) aj ae) ae)) (fun hz=> (cN (eW (aw (aC (by intro _ h; cases h) (by walk_at "kit")) rfl T.z_isinstance boot_isinstance (ac (aa 0 rfl) (ac (bZ rfl T.z_bool boot_bool) aj ae) ae)))))) ?_); exact rfl
def jA:List U→Out→Prop:=fun us o=> ∃ a b c d e f,us=[mv a b c d e f]∧Sz 30000 a∧Sz 30000 b∧Sz 30000 c∧Sz 30000 d∧o=.val (.int (a * d - b * c))
set_option maxHeartbeats 8000000 in
theorem jk (T:Txt K mg):aS P w K mg base (CXF P w) 1 T.a_hand T.d_hand ["move"] (spU K (jA)):=by
 refine aU T.F_hand mG (fun us o h=> ?_) (fun cdv A outer s H E O us o hr h=> ?_)
 ·obtain ⟨a,b,c,d,e,f,rfl,sa,sb,sc,sd,rfl⟩:=h
  rfl
 obtain ⟨a,b,c,d,e,f,rfl,sa,sb,sc,sd,rfl⟩:=h
 refine Ws.nox ?_
 refine af (aA (aY (ar (am (aa 0 rfl) ag rfl rfl) (am (aa 0 rfl) ag rfl rfl) (by walk_at "mul")) (ar (am (aa 0 rfl) ag rfl rfl) (am (aa 0 rfl) ag rfl rfl) (by walk_at "mul"))) ?_); exact rfl
def g_:List U→Out→Prop:=fun us o=> ∃ u,us=[u]∧gK u∧o=.val (.bl (eN u))
set_option maxHeartbeats 8000000 in
theorem ja (T:Txt K mg):aS P w K mg base (CXF P w) 2 T.a_is_move T.d_is_move ["thing"] (spU K (g_)):=by
 refine aU T.F_is_move fB (fun us o h=> ?_) (fun cdv A outer s H E O us o hr h=> ?_)
 ·obtain ⟨u,rfl,hu,rfl⟩:=h
  rfl
 obtain ⟨u,rfl,hu,rfl⟩:=h
 refine Ws.nox ?_
 cases u with
 | ty m=> exact absurd rfl (hu.ty m)
 | int n=> refine af (bW (Tw.t (fH (bC (bD (aw (aC (by intro _ h; cases h) (by walk_at "kit")) rfl T.z_isinstance boot_isinstance (ac (aa 0 rfl) (ac (bZ rfl T.z_tuple boot_tuple) aj ae) ae)))) rfl)) rfl ?_); refine af (aA fY ?_); exact rfl
 | bl n=> refine af (bW (Tw.t (fH (bC (bD (aw (aC (by intro _ h; cases h) (by walk_at "kit")) rfl T.z_isinstance boot_isinstance (ac (aa 0 rfl) (ac (bZ rfl T.z_tuple boot_tuple) aj ae) ae)))) rfl)) rfl ?_); refine af (aA fY ?_); exact rfl
 | non=> refine af (bW (Tw.t (fH (bC (bD (aw (aC (by intro _ h; cases h) (by walk_at "kit")) rfl T.z_isinstance boot_isinstance (ac (aa 0 rfl) (ac (bZ rfl T.z_tuple boot_tuple) aj ae) ae)))) rfl)) rfl ?_); refine af (aA fY ?_); exact rfl
 | str n=> refine af (bW (Tw.t (fH (bC (bD (aw (aC (by intro _ h; cases h) (by walk_at "kit")) rfl T.z_isinstance boot_isinstance (ac (aa 0 rfl) (ac (bZ rfl T.z_tuple boot_tuple) aj ae) ae)))) rfl)) rfl ?_); refine af (aA fY ?_); exact rfl
 | dic=> refine af (bW (Tw.t (fH (bC (bD (aw (aC (by intro _ h; cases h) (by walk_at "kit")) rfl T.z_isinstance boot_isinstance (ac (aa 0 rfl) (ac (bZ rfl T.z_tuple boot_tuple) aj ae) ae)))) rfl)) rfl ?_); refine af (aA fY ?_); exact rfl
 | scr n=> refine af (bW (Tw.t (fH (bC (bD (aw (aC (by intro _ h; cases h) (by walk_at "kit")) rfl T.z_isinstance boot_isinstance (ac (aa 0 rfl) (ac (bZ rfl T.z_tuple boot_tuple) aj ae) ae)))) rfl)) rfl ?_); refine af (aA fY ?_); exact rfl
 | lst n=> refine af (bW (Tw.t (fH (bC (bD (aw (aC (by intro _ h; cases h) (by walk_at "kit")) rfl T.z_isinstance boot_isinstance (ac (aa 0 rfl) (ac (bZ rfl T.z_tuple boot_tuple) aj ae) ae)))) rfl)) rfl ?_); refine af (aA fY ?_); exact rfl
 | tup xs=>
  refine af (fD (Tw.t (mn (bC (bD (aw (aC (by intro _ h; cases h) (by walk_at "kit")) rfl T.z_isinstance boot_isinstance (ac (aa 0 rfl) (ac (bZ rfl T.z_tuple boot_tuple) aj ae) ae)))) (fun hz=> (kU (az m_ (aw (hU rfl) rfl T.z_len PySem.boot_len (ac (aa 0 rfl) aj ae)) ag))))) (fun hT=> ?_) (fun hF=> (aI ?_)))
  ·have:xs.length≠6:=fun e=> by rw [e] at hT; revert hT; decide
   refine af (aA fY ?_)
   exact vB (lC this).symm
  ·have hl:xs.length=6:=by
    have:=nFb (show (!decide ((xs.length:Int)=6))=false from hF)
    omega
   refine af (fD (bC (bD (aw (pI rfl (bs:=xs.map isInt)) rfl T.z_all boot_all (ac (EvN.ev (g5  rfl (blk (ah cb) ["thing","number"] [1] rfl rfl rfl rfl (by decide+kernel)) (pi (aa 0 rfl)) (fun _ _ _ _=> bp (i:=1) fB.nd rfl (Or.inl rfl)) (eA (by decide)) ?clen ?csz (fun _ _=> trivial) ?celt)) aj gw)))) (fun hT=> ?_) (fun hF=> (aI ?_)))
   case clen=> simp
   case csz=> exact Nat.le_trans (hu.len xs rfl) (by decide)
   case celt=>
    intro C s' H' fp i x y hx hy
    rw [List.getElem?_map,List.getElem?_map,hx] at hy
    cases hy
    exact (al ((dl T).mono (by decide)) hr rfl T.m_is_whole T.F_is_whole.kp T.b_is_whole ap (ac (aa 1 rfl) aj ae) ⟨x,rfl,hu.ity xs rfl x (List.mem_of_getElem? hx),rfl⟩)
   ·have hall:xs.all isInt=false:=by simpa using hT
    refine af (aA fY ?_)
    exact vB (kI hall).symm
   ·have hall:xs.all isInt=true:=by simpa using hF
    obtain ⟨a,b,c,d,e,f,rfl⟩:=ov hl hall
    obtain ⟨sa,sb,sc,sd⟩:=hu.sz a b c d e f rfl
    refine af (aA (cH (p5 rfl rfl rfl) (al ((jk T).mono (by decide)) hr rfl T.m_hand T.F_hand.kp T.b_hand ap (ac (aa 0 rfl) aj ae) ⟨a,b,c,d,e,f,rfl,sa,sb,sc,sd,rfl⟩) (aZ (ai ag (ai (bA ag) aB dS) aX))) ?_)
    refine vB ?_
    show inV (fl (.int (a * d - b * c))) ([U.int 1,.int (-1)].map fl)=_
    rw [show eN (.tup [.int a,.int b,.int c,.int d,.int e,.int f])=(decide (a * d - b * c=1) || decide (a * d - b * c=-1)) from rfl]
    generalize a * d - b * c=h
    rw [Bool.eq_iff_iff]
    simp [inV,fl,eqV]
    omega
def eC (C:Addr):List U→Out→Prop:=fun us o=> ∃ u,us=[u]∧gK u∧o=if eN u=true then .val .non else .exc C
set_option maxHeartbeats 8000000 in
theorem cA (T:Txt K mg):aS P w K mg base (CXF P w) 3 T.a_need_move T.d_need_move ["thing"] (spU K (eC T.c_NoMove)):=by
 refine aU T.F_need_move gJ (fun us o h=> ?_) (fun cdv A outer s H E O us o hr h=> ?_)
 ·obtain ⟨u,rfl,hu,rfl⟩:=h
  rfl
 obtain ⟨u,rfl,hu,rfl⟩:=h
 refine af (fD (bC (bD (al ((ja T).mono (by decide)) hr rfl T.m_is_move T.F_is_move.kp T.b_is_move ap (ac (aa 0 rfl) aj ae) ⟨u,rfl,hu,rfl⟩))) (fun hT=> ?_) (fun hF=> (aI (aI ?_))))
 ·have h:eN u=false:=by simpa using hT
  refine af (dC T.x_NoMove rfl T.mx_NoMove gg ?_)
  show Out.exc _=_
  rw [if_neg (by rw [h]; decide)]
 ·have h:eN u=true:=by simpa using hF
  show _=_
  rw [if_pos h]
structure Mv (a b c d e f:Int):Prop where
 u:a * d - b * c=1∨a * d - b * c=-1
 a:Sz 30000 a
 b:Sz 30000 b
 c:Sz 30000 c
 d:Sz 30000 d
 e:Sz 30000 e
 f:Sz 30000 f
theorem Mv.ok {a b c d e f:Int} (M:Mv a b c d e f):gK (mv a b c d e f):=gK.of M.a M.b M.c M.d
theorem Mv.need {C:Addr} {a b c d e f:Int} (M:Mv a b c d e f):eC C [mv a b c d e f] (.val .non):=⟨_,rfl,M.ok,by rw [if_pos (mh M.u)]⟩
theorem jt {C:Addr} {u:U} (h:gK u) (n:eN u=false):eC C [u] (.exc C):=⟨_,rfl,h,by rw [if_neg (by rw [n]; decide)]⟩
def im:List U→Out→Prop:=fun us o=> ∃ x y a b c d e f,us=[pt x y,mv a b c d e f]∧(Sz 30000 x∧Sz 30000 y∧Sz 30000 a∧Sz 30000 b∧Sz 30000 c∧Sz 30000 d)∧o=.val (pt (a * x+b * y) (c * x+d * y))
set_option maxHeartbeats 8000000 in
theorem jX (T:Txt K mg):aS P w K mg base (CXF P w) 1 T.a_turned T.d_turned ["P","move"] (spU K (im)):=by
 refine aU T.F_turned jE (fun us o h=> ?_) (fun cdv A outer s H E O us o hr h=> ?_)
 ·obtain ⟨x,y,a,b,c,d,e,f,rfl,⟨sx,sy,sa,sb,sc,sd⟩,rfl⟩:=h
  rfl
 obtain ⟨x,y,a,b,c,d,e,f,rfl,⟨sx,sy,sa,sb,sc,sd⟩,rfl⟩:=h
 refine Ws.nox ?_
 refine af (aA (aZ (ai (aV (ar (am (aa 1 rfl) ag rfl rfl) (am (aa 0 rfl) ag rfl rfl) (by walk_at "mul")) (ar (am (aa 1 rfl) ag rfl rfl) (am (aa 0 rfl) ag rfl rfl) (by walk_at "mul"))) (ai (aV (ar (am (aa 1 rfl) ag rfl rfl) (am (aa 0 rfl) ag rfl rfl) (by walk_at "mul")) (ar (am (aa 1 rfl) ag rfl rfl) (am (aa 0 rfl) ag rfl rfl) (by walk_at "mul"))) aB aM) aM)) ?_); exact rfl
def c_ (C:Addr):List U→Out→Prop:=fun us o=> (∃ x y a b c d e f,us=[pt x y,mv a b c d e f]∧Mv a b c d e f∧Sz 30000 x∧Sz 30000 y∧o=.val (pt (a * x+b * y+e) (c * x+d * y+f)))∨(∃ v u,us=[v,u]∧gK u∧eN u=false∧o=.exc C)
set_option maxHeartbeats 8000000 in
theorem fG (T:Txt K mg):aS P w K mg base (CXF P w) 4 T.a_moved T.d_moved ["P","move"] (spU K (c_ T.c_NoMove)):=by
 refine aU T.F_moved h_ (by rintro us o (⟨x,y,a,b,c,d,e,f,rfl,_⟩ | ⟨v,u,rfl,_⟩) <;> rfl) (fun cdv A outer s H E O us o hr h=> ?_)
 rcases h with ⟨x,y,a,b,c,d,e,f,rfl,M,sx,sy,rfl⟩ | ⟨v,u,rfl,hu,hn,rfl⟩
 ·refine af (eG (al ((cA T).mono (by decide)) hr rfl T.m_need_move T.F_need_move.kp T.b_need_move ap (ac (aa 1 rfl) aj ae) M.need) ?_)
  refine af (ao (i:=2) h_.nd rfl (Or.inl rfl) (al ((jX T).mono (by decide)) hr rfl T.m_turned T.F_turned.kp T.b_turned ap (ac (aa 0 rfl) (ac (aa 1 rfl) aj ae) ae) ⟨x,y,a,b,c,d,e,f,rfl,⟨sx,sy,M.a,M.b,M.c,M.d⟩,rfl⟩) ?_)
  refine af (aA (aZ (ai (aV (am (aa 2 rfl) ag rfl rfl) (am (aa 1 rfl) ag rfl rfl)) (ai (aV (am (aa 2 rfl) ag rfl rfl) (am (aa 1 rfl) ag rfl rfl)) aB aM) aM)) ?_)
  exact rfl
 ·refine af (e_ (dh ((cA T).mono (by decide)) hr rfl T.m_need_move T.F_need_move.kp T.b_need_move cx (ac (aa 1 rfl) aj ae) (jt hu hn)) ?_)
  exact rfl
def o8 (a b c d e f:Int):U:=
 mv ((a * d - b * c) * d) (-(a * d - b * c) * b) (-(a * d - b * c) * c) ((a * d - b * c) * a) (-((a * d - b * c) * d * e+-(a * d - b * c) * b * f)) (-(-(a * d - b * c) * c * e+(a * d - b * c) * a * f))
def gl (C:Addr):List U→Out→Prop:=fun us o=> (∃ a b c d e f,us=[mv a b c d e f]∧Mv a b c d e f∧o=.val (o8 a b c d e f))∨(∃ u,us=[u]∧gK u∧eN u=false∧o=.exc C)
set_option maxHeartbeats 8000000 in
theorem iC (T:Txt K mg):aS P w K mg base (CXF P w) 4 T.a_way_back T.d_way_back ["move"] (spU K (gl T.c_NoMove)):=by
 refine aU T.F_way_back bK (by rintro us o (⟨a,b,c,d,e,f,rfl,_⟩ | ⟨u,rfl,_⟩) <;> rfl) (fun cdv A outer s H E O us o hr h=> ?_)
 rcases h with ⟨a,b,c,d,e,f,rfl,M,rfl⟩ | ⟨u,rfl,hu,hn,rfl⟩
 ·obtain ⟨hd,sa,sb,sc,sd,se,sf⟩:=M
  have M:Mv a b c d e f:=⟨hd,sa,sb,sc,sd,se,sf⟩
  have sh:Sz 8 (a * d - b * c):=by rcases hd with h | h <;> rw [h] <;> decide
  refine af (eG (al ((cA T).mono (by decide)) hr rfl T.m_need_move T.F_need_move.kp T.b_need_move ap (ac (aa 0 rfl) aj ae) M.need) ?_)
  refine af (ao (i:=1) bK.nd rfl (Or.inl rfl) (al ((jk T).mono (by decide)) hr rfl T.m_hand T.F_hand.kp T.b_hand ap (ac (aa 0 rfl) aj ae) ⟨a,b,c,d,e,f,rfl,sa,sb,sc,sd,rfl⟩) ?_)
  refine af (ao (i:=2) bK.nd rfl (Or.inl rfl) (ar (aa 1 rfl) (am (aa 0 rfl) ag rfl rfl) (by walk_at "mul")) ?_)
  refine af (ao (i:=3) bK.nd rfl (Or.inl rfl) (ar (bA (aa 1 rfl)) (am (aa 0 rfl) ag rfl rfl) (by walk_at "mul")) ?_)
  refine af (ao (i:=4) bK.nd rfl (Or.inl rfl) (ar (bA (aa 1 rfl)) (am (aa 0 rfl) ag rfl rfl) (by walk_at "mul")) ?_)
  refine af (ao (i:=5) bK.nd rfl (Or.inl rfl) (ar (aa 1 rfl) (am (aa 0 rfl) ag rfl rfl) (by walk_at "mul")) ?_)
  refine af (aA (aZ (ai (aa 2 rfl) (ai (aa 3 rfl) (ai (aa 4 rfl) (ai (aa 5 rfl) (ai (bA (aV (ar (aa 2 rfl) (am (aa 0 rfl) ag rfl rfl) (by walk_at "mul")) (ar (aa 3 rfl) (am (aa 0 rfl) ag rfl rfl) (by walk_at "mul")))) (ai (bA (aV (ar (aa 4 rfl) (am (aa 0 rfl) ag rfl rfl) (by walk_at "mul")) (ar (aa 5 rfl) (am (aa 0 rfl) ag rfl rfl) (by walk_at "mul")))) aB dS) dS) ae) ae) ae) ae)) ?_)
  exact rfl
 ·refine af (e_ (dh ((cA T).mono (by decide)) hr rfl T.m_need_move T.F_need_move.kp T.b_need_move cx (ac (aa 0 rfl) aj ae) (jt hu hn)) ?_)
  exact rfl
structure lO (x0 y0 x1 y1:Int):Prop where
 s0:Sz 3000 x0
 t0:Sz 3000 y0
 s1:Sz 3000 x1
 t1:Sz 3000 y1
def iO:List U→Out→Prop:=fun us o=> ∃ x0 y0 x1 y1 g s t:Int,us=[pt x0 y0,pt x1 y1]∧lO x0 y0 x1 y1∧dM (x1 - x0) (y1 - y0) g s t∧o=.val (.int g)
set_option maxHeartbeats 8000000 in
theorem d7 (T:Txt K mg):aS P w K mg base (CXF P w) 3 T.a_steps T.d_steps ["P","Q"] (spU K (iO)):=by
 refine aU T.F_steps kM (fun us o h=> ?_) (fun cdv A outer s H E O us o hr h=> ?_)
 ·obtain ⟨x0,y0,x1,y1,g,s,t,rfl,⟨s0,t0,s1,t1⟩,G,rfl⟩:=h
  rfl
 obtain ⟨x0,y0,x1,y1,g,s,t,rfl,⟨s0,t0,s1,t1⟩,G,rfl⟩:=h
 refine Ws.nox ?_
 refine af (aA (am (al ((eM T).mono (by decide)) hr rfl T.m_shares T.F_shares.kp T.b_shares ap (ac (aY (am (aa 1 rfl) ag rfl rfl) (am (aa 0 rfl) ag rfl rfl)) (ac (aY (am (aa 1 rfl) ag rfl rfl) (am (aa 0 rfl) ag rfl rfl)) aj aM) aM) ⟨_,_,g,s,t,rfl,by walk_at "szb",by walk_at "szb",G,rfl⟩) ag rfl rfl) ?_)
 exact rfl
def fu (C:Addr):List U→Out→Prop:=fun us o=> (∃ x0 y0 x1 y1 g a b s t:Int,us=[pt x0 y0,pt x1 y1]∧lO x0 y0 x1 y1∧dM (x1 - x0) (y1 - y0) g a b∧g≠0∧dM ((x1 - x0) / g) ((y1 - y0) / g) 1 s t∧
  o=.val (mv s t (-((y1 - y0) / g)) ((x1 - x0) / g) (-s * x0 - t * y0) ((y1 - y0) / g * x0 - (x1 - x0) / g * y0)))∨(∃ x0 y0:Int,us=[pt x0 y0,pt x0 y0]∧lO x0 y0 x0 y0∧o=.exc C)
theorem jJ (x y:Int):dM (x - x) (y - y) 0 0 0:=by
 rw [Int.sub_self,Int.sub_self]
 exact ⟨by decide,by decide,⟨0,by simp⟩,⟨0,by simp⟩,fun _=> ⟨rfl,rfl,rfl⟩,fun h=> absurd rfl h⟩
set_option maxHeartbeats 8000000 in
theorem iD (T:Txt K mg):aS P w K mg base (CXF P w) 4 T.a_level T.d_level ["P","Q"] (spU K (fu T.c_NoMove)):=by
 refine aU T.F_level cn (by rintro us o (⟨x0,y0,x1,y1,g,a,b,s,t,rfl,_⟩ | ⟨x0,y0,rfl,_⟩) <;> rfl) (fun cdv A outer s H E O us o hr h=> ?_)
 rcases h with ⟨x0,y0,x1,y1,g,a,b,s,t,rfl,two,G,gn,G1,rfl⟩ | ⟨x0,y0,rfl,two,rfl⟩
 ·have gp:0 < g:=by have:=G.g0; omega
  obtain ⟨s0,t0,s1,t1⟩:=two
  have two:lO x0 y0 x1 y1:=⟨s0,t0,s1,t1⟩
  have sx:Sz 3001 (x1 - x0):=by walk_at "szb"
  have sy:Sz 3001 (y1 - y0):=by walk_at "szb"
  obtain ⟨sg,_,_⟩:=gv G sx sy
  have su:Sz 3001 ((x1 - x0) / g):=sx.ediv
  have sv:Sz 3001 ((y1 - y0) / g):=sy.ediv
  obtain ⟨_,ss,st⟩:=gv G1 su sv
  refine af (ao (i:=2) cn.nd rfl (Or.inl rfl) (al ((d7 T).mono (by decide)) hr rfl T.m_steps T.F_steps.kp T.b_steps ap (ac (aa 0 rfl) (ac (aa 1 rfl) aj ae) ae) ⟨x0,y0,x1,y1,g,a,b,rfl,two,G,rfl⟩) ?_)
  refine af (bP (az aG (aa 2 rfl) ag) (decide_eq_false gn) (aI ?_))
  refine af (ao (i:=3) cn.nd rfl (Or.inl rfl) (cF (aY (am (aa 1 rfl) ag rfl rfl) (am (aa 0 rfl) ag rfl rfl)) (aa 2 rfl) ⟨gp,sg.mono (by decide)⟩) ?_)
  refine af (ao (i:=4) cn.nd rfl (Or.inl rfl) (cF (aY (am (aa 1 rfl) ag rfl rfl) (am (aa 0 rfl) ag rfl rfl)) (aa 2 rfl) ⟨gp,sg.mono (by decide)⟩) ?_)
  refine af (ao (i:=5) cn.nd rfl (Or.inl rfl) (al ((eM T).mono (by decide)) hr rfl T.m_shares T.F_shares.kp T.b_shares ap (ac (aa 3 rfl) (ac (aa 4 rfl) aj ae) ae) ⟨_,_,1,s,t,rfl,su.mono (by decide),sv.mono (by decide),G1,rfl⟩) ?_)
  refine af (ao (i:=6) cn.nd rfl (Or.inl rfl) (am (aa 5 rfl) ag rfl rfl) ?_)
  refine af (ao (i:=7) cn.nd rfl (Or.inl rfl) (am (aa 5 rfl) ag rfl rfl) ?_)
  refine af (aA (aZ (ai (aa 6 rfl) (ai (aa 7 rfl) (ai (bA (aa 4 rfl)) (ai (aa 3 rfl) (ai (aY (ar (bA (aa 6 rfl)) (am (aa 0 rfl) ag rfl rfl) (by walk_at "mul")) (ar (aa 7 rfl) (am (aa 0 rfl) ag rfl rfl) (by walk_at "mul"))) (ai (aY (ar (aa 4 rfl) (am (aa 0 rfl) ag rfl rfl) (by walk_at "mul")) (ar (aa 3 rfl) (am (aa 0 rfl) ag rfl rfl) (by walk_at "mul"))) aB aM) aM) ae) dS) ae) ae)) ?_)
  exact rfl
 ·refine af (ao (i:=2) cn.nd rfl (Or.inl rfl) (al ((d7 T).mono (by decide)) hr rfl T.m_steps T.F_steps.kp T.b_steps ap (ac (aa 0 rfl) (ac (aa 1 rfl) aj ae) ae) ⟨x0,y0,x0,y0,0,0,0,rfl,two,jJ x0 y0,rfl⟩) ?_)
  refine af (bW (az aG (aa 2 rfl) ag) rfl ?_)
  refine af (dC T.x_NoMove rfl T.mx_NoMove gg ?_)
  exact rfl
abbrev Szp (m:Nat) (p:P2):Prop:=Sz m p.1∧Sz m p.2
def dt (p q r:P2):Int:=(q.1 - p.1) * (r.2 - p.2) - (q.2 - p.2) * (r.1 - p.1)
def jy:List U→Out→Prop:=fun us o=> ∃ p q r:P2,us=[pu p,pu q,pu r]∧Szp 3000 p∧Szp 3000 q∧Szp 3000 r∧o=.val (.int (sgn (dt p q r)))
set_option maxHeartbeats 8000000 in
theorem e8 (T:Txt K mg):aS P w K mg base (CXF P w) 2 T.a_turn T.d_turn ["P","Q","R"] (spU K (jy)):=by
 refine aU T.F_turn mD (fun us o h=> ?_) (fun cdv A outer s H E O us o hr h=> ?_)
 ·obtain ⟨p,q,r,rfl,⟨p1,p2⟩,⟨q1,q2⟩,⟨r1,r2⟩,rfl⟩:=h
  rfl
 obtain ⟨p,q,r,rfl,⟨p1,p2⟩,⟨q1,q2⟩,⟨r1,r2⟩,rfl⟩:=h
 refine Ws.nox ?_
 refine af (aA (al ((jh T).mono (by decide)) hr rfl T.m_sign T.F_sign.kp T.b_sign ap (ac (aY (ar (aY (am (aa 1 rfl) ag rfl rfl) (am (aa 0 rfl) ag rfl rfl)) (aY (am (aa 2 rfl) ag rfl rfl) (am (aa 0 rfl) ag rfl rfl)) (by walk_at "mul")) (ar (aY (am (aa 1 rfl) ag rfl rfl) (am (aa 0 rfl) ag rfl rfl)) (aY (am (aa 2 rfl) ag rfl rfl) (am (aa 0 rfl) ag rfl rfl)) (by walk_at "mul"))) aj aM) ⟨_,rfl,rfl⟩) ?_)
 exact rfl
end
section
variable {P:Program} {w:World} {K:PySem.W.Frag} {mg:Str→Option Value} {base:Heap}
theorem Chd.sz {m:Nat} {n q:Int} (h:Chd n q) (s:Sz m n):Sz m q:=s.natle (by have:=h.q0; have:=h.qn; omega)
theorem pN {m:Nat} {n q:Int} (hn:0 < n) (hq:0 < q) (s:Sz m n):Sz m (cd n q):=s.natle (by have:=nN hn hq; have:=pJ hn hq; omega)
def lkO (C:Addr) (r:Option (List Int)):Out:=match r with | some l=> .new (l.map U.int) | none=> .exc C
def iW (C:Addr):List U→Out→Prop:=fun us o=> ∃ n q:Int,us=[.int n,.int q]∧Sz 2000 n∧0≤q∧q < n∧o=lkO C (lks 100 n q)
set_option maxHeartbeats 8000000 in
theorem ie (T:Txt K mg):aS P w K mg base (CXF P w) 1 T.a_links T.d_links ["n","q"] (spU K (iW T.c_TooMany)):=by
 refine aU T.F_links cT (fun us o h=> ?_) (fun cdv A outer s H E O us o hr h=> ?_)
 ·obtain ⟨n,q,rfl,sn,q0,qn,rfl⟩:=h
  rfl
 obtain ⟨n,q,rfl,sn,q0,qn,rfl⟩:=h
 refine af (mY (i:=2) cT.nd rfl (Or.inl rfl) (aO aB) ?_)
 refine af (fJ (fun z:List Int×Int×Int=> [some (.val (.int z.2.1)),some (.val (.int z.2.2)),some (.own (z.1.map U.int)),none,none]) (fun m z=> m=z.2.2.toNat∧(z.1.length≤100∧Sz 2000 z.2.1∧0≤z.2.2∧z.2.2 < z.2.1)∧lks 100 n q=(lks (100 - z.1.length) z.2.1 z.2.2).map (z.1++·)) PassesOwn.leaving ?h0 ?hs)
 case h0=> exact ⟨_,([],n,q),⟨rfl,⟨Nat.zero_le _,sn,q0,qn⟩,by simp⟩,rfl,rfl,rfl,trivial⟩
 case hs=>
  rintro m ⟨pre,x,y⟩ ⟨hm,⟨pl,sx,y0,yx⟩,I⟩
  dsimp only at hm pl sx y0 yx I ⊢
  refine ⟨decide ((0:Int) < y),(az ft (aa 1 rfl) ag),fun h=> ?_,fun h ps hps=> ?_⟩
  ·have hy:=dTb h
   have hlen:((pre.map U.int).length:Int)=(pre.length:Int):=by rw [List.length_map]
   by_cases hf:pre.length=100
   ·refine af (bW (az aG (lu 2 rfl rfl T.z_len) (mZ rfl T.g_MOST_NUMBERS)) (by rw [hlen]; exact decide_eq_true (by omega)) ?_)
    refine af (dC T.x_TooMany rfl T.mx_TooMany gg ?_)
    rw [hf,iu _ hy] at I
    rw [I]
    exact rfl
   ·refine af (bP (az aG (lu 2 rfl rfl T.z_len) (mZ rfl T.g_MOST_NUMBERS)) (by rw [hlen]; exact decide_eq_false (by omega)) (aI ?_))
    have sy:Sz 2000 y:=sx.natle (by omega)
    have sc:=pN (q:=y) (by omega) hy sx
    have lo:=ko (n:=x) hy
    have hi:=lq (n:=x) hy
    refine af (ao (i:=3) cT.nd rfl (Or.inl rfl) (bA (cF (bA (aa 0 rfl)) (aa 1 rfl) (by walk_at "div"))) ?_)
    rw [show -(-x / y)=cd x y from rfl]
    refine af (il 2 rfl (aa 3 rfl) (by simp; exact cB (by omega)) ?_)
    refine af (ao (i:=4) cT.nd rfl (Or.inl rfl) (aY (ar (aa 3 rfl) (aa 1 rfl) (by walk_at "mul")) (aa 0 rfl)) ?_)
    refine af (ao (i:=0) cT.nd rfl (Or.inl rfl) (aa 1 rfl) ?_)
    refine af (ao (i:=1) cT.nd rfl (Or.inl rfl) (aa 4 rfl) (aI ?_))
    refine ⟨(cd x y * y - x).toNat,(pre++[cd x y],y,cd x y * y - x),by omega,⟨rfl,⟨?_,sy,by dsimp only; omega,by dsimp only; omega⟩,?_⟩,rfl,rfl,?_,trivial⟩
    ·simp; omega
    ·dsimp only
     rw [I,show 100 - pre.length=(100 - (pre++[cd x y]).length)+1 by simp; omega,h9 _ _ hy,Option.map_map]
     congr 1
     funext l
     simp
    ·exact congrArg (fun l=> some (Sl.own l)) (by rw [List.map_append]; rfl)
  ·have hy:y≤0:=by have:=dFb h; omega
   refine dO ?_ hps
   refine af (kY 2 rfl ?_)
   rw [I,h8 _ _ hy]
   simp [lkO]
def chk (n q:Int):Bool:=decide (0≤q) && decide (q < n) && decide (((Int.gcd n q:Nat):Int)=1)
theorem gz (n q:Int):chk n q=true↔Chd n q:=by
 unfold chk
 simp only [Bool.and_eq_true,decide_eq_true_eq]
 exact ⟨fun ⟨⟨a,b⟩,c⟩=> ⟨a,b,by omega⟩,fun h=> ⟨⟨h.q0,h.qn⟩,by have:=h.g; omega⟩⟩
def gE:List U→Out→Prop:=fun us o=> ∃ n q:Int,us=[.int n,.int q]∧Sz 2000 n∧Sz 2000 q∧o=.val (.bl (chk n q))
set_option maxHeartbeats 8000000 in
theorem dQ (T:Txt K mg):aS P w K mg base (CXF P w) 3 T.a_is_chained T.d_is_chained ["n","q"] (spU K (gE)):=by
 refine aU T.F_is_chained fU (fun us o h=> ?_) (fun cdv A outer s H E O us o hr h=> ?_)
 ·obtain ⟨n,q,rfl,sn,sq,rfl⟩:=h
  rfl
 obtain ⟨n,q,rfl,sn,sq,rfl⟩:=h
 refine Ws.nox ?_
 obtain ⟨s,t,G⟩:=eo n q
 refine af (aA (cw (al ((dl T).mono (by decide)) hr rfl T.m_is_whole T.F_is_whole.kp T.b_is_whole ap (ac (aa 0 rfl) aj ae) ⟨_,rfl,(by intro m h; cases h),rfl⟩) (fun hz=> (cw (al ((dl T).mono (by decide)) hr rfl T.m_is_whole T.F_is_whole.kp T.b_is_whole ap (ac (aa 1 rfl) aj ae) ⟨_,rfl,(by intro m h; cases h),rfl⟩) (fun hz=> (cw (lQ p4 gI ag (aa 1 rfl) (aa 0 rfl)) (fun hz=> (cN (cH aG (am (al ((eM T).mono (by decide)) hr rfl T.m_shares T.F_shares.kp T.b_shares ap (ac (aa 0 rfl) (ac (aa 1 rfl) aj ae) ae) ⟨n,q,_,s,t,rfl,sn.mono (by decide),sq.mono (by decide),G,rfl⟩) ag rfl rfl) ag)))))))) ?_)
 refine vB ?_
 unfold chk
 simp [Bool.and_assoc,isInt]
def chO (N C:Addr) (n q:Int):Out:=if chk n q=true then lkO C (lks 100 n q) else .exc N
def iQ (N C:Addr):List U→Out→Prop:=fun us o=> ∃ n q:Int,us=[.int n,.int q]∧Sz 2000 n∧Sz 2000 q∧o=chO N C n q
set_option maxHeartbeats 8000000 in
theorem hV (T:Txt K mg):aS P w K mg base (CXF P w) 4 T.a_chain T.d_chain ["n","q"] (spU K (iQ T.c_NoNumber T.c_TooMany)):=by
 refine aU T.F_chain kw (fun us o h=> ?_) (fun cdv A outer s H E O us o hr h=> ?_)
 ·obtain ⟨n,q,rfl,sn,sq,rfl⟩:=h
  rfl
 obtain ⟨n,q,rfl,sn,sq,rfl⟩:=h
 unfold chO
 by_cases h:chk n q=true
 ·rw [if_pos h]
  have hc:=(gz n q).mp h
  refine af (bP (bC (bD (al ((dQ T).mono (by decide)) hr rfl T.m_is_chained T.F_is_chained.kp T.b_is_chained ap (ac (aa 0 rfl) (ac (aa 1 rfl) aj ae) ae) ⟨n,q,rfl,sn,sq,rfl⟩))) (by rw [h]; rfl) (aI ?_))
  cases e:lks 100 n q with
  | none=>
   refine af (lD (dh ((ie T).mono (by decide)) hr rfl T.m_links T.F_links.kp T.b_links cx (ac (aa 0 rfl) (ac (aa 1 rfl) aj ae) ae) ⟨n,q,rfl,sn,hc.q0,hc.qn,by rw [e]; rfl⟩) ?_)
   exact rfl
  | some l=>
   refine af (eH (cv ((ie T).mono (by decide)) hr rfl T.m_links T.F_links.kp T.b_links ap (ac (aa 0 rfl) (ac (aa 1 rfl) aj ae) ae) ⟨n,q,rfl,sn,hc.q0,hc.qn,by rw [e]; rfl⟩) ?_)
   exact rfl
 ·rw [if_neg h]
  refine af (bW (bC (bD (al ((dQ T).mono (by decide)) hr rfl T.m_is_chained T.F_is_chained.kp T.b_is_chained ap (ac (aa 0 rfl) (ac (aa 1 rfl) aj ae) ae) ⟨n,q,rfl,sn,sq,rfl⟩))) (by rw [Bool.eq_false_iff.mpr h]; rfl) ?_)
  refine af (dC T.x_NoNumber rfl T.mx_NoNumber gg ?_)
  exact rfl
def wdg (u v:P2):Bool:=decide (((Int.gcd u.1 u.2:Nat):Int)=1) && (decide (((Int.gcd v.1 v.2:Nat):Int)=1) && decide (0 < u.1 * v.2 - u.2 * v.1))
theorem mJ (x:Int):sgn x=1↔0 < x:=by
 unfold sgn
 split
 ·simp_all
 ·split <;> simp_all
theorem lm (u v:P2):dt (0,0) u v=u.1 * v.2 - u.2 * v.1:=by unfold dt; simp
def iJ:List U→Out→Prop:=fun us o=> ∃ u v:P2,us=[pu u,pu v]∧Szp 3000 u∧Szp 3000 v∧o=.val (.bl (wdg u v))
theorem nD (u v:P2):(decide (((Int.gcd (u.1 - 0) (u.2 - 0):Nat):Int)=1) && (decide (((Int.gcd (v.1 - 0) (v.2 - 0):Nat):Int)=1) && decide (sgn (dt (0,0) u v)=1)))=wdg u v:=by
 unfold wdg
 rw [lm,Int.sub_zero,Int.sub_zero,Int.sub_zero,Int.sub_zero,decide_eq_decide.mpr (mJ _)]
set_option maxHeartbeats 8000000 in
theorem eY (T:Txt K mg):aS P w K mg base (CXF P w) 4 T.a_is_wedge T.d_is_wedge ["u","v"] (spU K (iJ)):=by
 refine aU T.F_is_wedge hW (fun us o h=> ?_) (fun cdv A outer s H E O us o hr h=> ?_)
 ·obtain ⟨u,v,rfl,su,sv,rfl⟩:=h
  rfl
 obtain ⟨u,v,rfl,su,sv,rfl⟩:=h
 refine Ws.nox ?_
 have z8:Sz 3000 0:=Sz.mono (m:=8) (by decide) (by decide)
 obtain ⟨a,b,G1⟩:=eo (u.1 - 0) (u.2 - 0)
 obtain ⟨c,d,G2⟩:=eo (v.1 - 0) (v.2 - 0)
 refine af (aA (cw (cH aG (al ((d7 T).mono (by decide)) hr rfl T.m_steps T.F_steps.kp T.b_steps ap (ac (eV rfl T.g_TIP) (ac (aa 0 rfl) aj ae) ae) ⟨0,0,u.1,u.2,_,a,b,rfl,⟨z8,z8,su.1,su.2⟩,G1,rfl⟩) ag) (fun hz=> (cw (cH aG (al ((d7 T).mono (by decide)) hr rfl T.m_steps T.F_steps.kp T.b_steps ap (ac (eV rfl T.g_TIP) (ac (aa 1 rfl) aj ae) ae) ⟨0,0,v.1,v.2,_,c,d,rfl,⟨z8,z8,sv.1,sv.2⟩,G2,rfl⟩) ag) (fun hz=> (cN (cH aG (al ((e8 T).mono (by decide)) hr rfl T.m_turn T.F_turn.kp T.b_turn ap (ac (eV rfl T.g_TIP) (ac (aa 0 rfl) (ac (aa 1 rfl) aj ae) ae) ae) ⟨(0,0),u,v,rfl,⟨z8,z8⟩,su,sv,rfl⟩) ag)))))) ?_)
 exact vB (nD u v)
end
section
variable {P:Program} {w:World} {K:PySem.W.Frag} {mg:Str→Option Value} {base:Heap}
structure Wd (u w v:P2) (n q:Int):Prop where
 uw:dd u w=1
 v1:v.1=n * w.1 - q * u.1
 v2:v.2=n * w.2 - q * u.2
 c:Chd n q
 su:Szp 2200 u
 sw:Szp 2200 w
 sv:Szp 2200 v
 sn:Sz 2000 n
theorem Wd.uv {u w v:P2} {n q:Int} (h:Wd u w v n q):u.1 * v.2 - u.2 * v.1=n:=by
 have:=h.uw
 unfold dd at this
 rw [h.v1,h.v2]
 grind
theorem Wd.npos {u w v:P2} {n q:Int} (h:Wd u w v n q):0 < n:=by have:=h.c.q0; have:=h.c.qn; omega
theorem Wd.wdg {u w v:P2} {n q:Int} (h:Wd u w v n q):wdg u v=true:=by
 unfold My.wdg
 rw [h.uv,io h.uw,h.v1,h.v2,mr h.uw h.c.g]
 simp [h.npos]
def iK (C:Addr):List U→Out→Prop:=fun us o=> ∃ u v:P2,us=[pu u,pu v]∧Szp 3000 u∧Szp 3000 v∧o=if wdg u v=true then .val .non else .exc C
set_option maxHeartbeats 8000000 in
theorem bo (T:Txt K mg):aS P w K mg base (CXF P w) 5 T.a_need_wedge T.d_need_wedge ["u","v"] (spU K (iK T.c_NoWedge)):=by
 refine aU T.F_need_wedge fW (fun us o h=> ?_) (fun cdv A outer s H E O us o hr h=> ?_)
 ·obtain ⟨u,v,rfl,su,sv,rfl⟩:=h
  rfl
 obtain ⟨u,v,rfl,su,sv,rfl⟩:=h
 by_cases h:wdg u v=true
 ·rw [if_pos h]
  refine af (bP (bC (bD (al ((eY T).mono (by decide)) hr rfl T.m_is_wedge T.F_is_wedge.kp T.b_is_wedge ap (ac (aa 0 rfl) (ac (aa 1 rfl) aj ae) ae) ⟨u,v,rfl,su,sv,rfl⟩))) (by rw [h]; rfl) (aI (aI ?_)))
  exact rfl
 ·rw [if_neg h]
  refine af (bW (bC (bD (al ((eY T).mono (by decide)) hr rfl T.m_is_wedge T.F_is_wedge.kp T.b_is_wedge ap (ac (aa 0 rfl) (ac (aa 1 rfl) aj ae) ae) ⟨u,v,rfl,su,sv,rfl⟩))) (by rw [Bool.eq_false_iff.mpr h]; rfl) ?_)
  refine af (dC T.x_NoWedge rfl T.mx_NoWedge gg ?_)
  exact rfl
theorem Szp.mono {m n:Nat} {p:P2} (h:Szp m p) (le:m≤n):Szp n p:=⟨h.1.mono le,h.2.mono le⟩
structure Lv (u w v:P2) (n q s t:Int):Prop where
 W:Wd u w v n q
 G:dM u.1 u.2 1 s t
 ss:Sz 4500 s
 st:Sz 4500 t
theorem nk {u w v:P2} {n q:Int} (W:Wd u w v n q):∃ s t,Lv u w v n q s t:=by
 obtain ⟨s,t,G⟩:=eo u.1 u.2
 rw [io W.uw] at G
 obtain ⟨_,h2,h3⟩:=gv G W.su.1 W.su.2
 exact ⟨s,t,W,G,h2.mono (by decide),h3.mono (by decide)⟩
theorem oG (s t x y:Int):mv s t (-((y - 0) / 1)) ((x - 0) / 1) (-s * 0 - t * 0) ((y - 0) / 1 * 0 - (x - 0) / 1 * 0)=mv s t (-y) x 0 0:=by simp
theorem z3:Sz 3000 0:=Sz.mono (m:=8) (by decide) (by decide)
theorem Lv.lev {C:Addr} {u w v:P2} {n q s t:Int} (L:Lv u w v n q s t):fu C [pu (0,0),pu u] (.val (mv s t (-u.2) u.1 0 0)):=
 .inl ⟨0,0,u.1,u.2,1,s,t,s,t,rfl,⟨z3,z3,L.W.su.1.mono (by decide),L.W.su.2.mono (by decide)⟩,by rw [Int.sub_zero,Int.sub_zero]; exact L.G,by decide,by rw [Int.sub_zero,Int.sub_zero,Int.ediv_one,Int.ediv_one]; exact L.G,(congrArg Out.val (oG s t u.1 u.2)).symm⟩
theorem Lv.mvOk {u w v:P2} {n q s t:Int} (L:Lv u w v n q s t):Mv s t (-u.2) u.1 0 0:=
 ⟨.inl (by have:=L.G.eq; grind),L.ss.mono (by decide),L.st.mono (by decide),(L2.Sz.neg L.W.su.2).mono (by decide),L.W.su.1.mono (by decide),Sz.mono (m:=8) (by decide) (by decide),Sz.mono (m:=8) (by decide) (by decide)⟩
theorem Lv.place {C:Addr} {u w v:P2} {n q s t:Int} (L:Lv u w v n q s t):c_ C [pu v,.tup [.int s,.int t,.int (-u.2),.int u.1,.int 0,.int 0]] (.val (pu (n * (s * w.1+t * w.2) - q,n))):=by
 refine .inl ⟨v.1,v.2,s,t,-u.2,u.1,0,0,rfl,L.mvOk,L.W.sv.1.mono (by decide),L.W.sv.2.mono (by decide),congrArg Out.val ?_⟩
 have h1:=L.G.eq
 have h2:=L.W.uw
 have e1:n * (s * w.1+t * w.2) - q=s * v.1+t * v.2+0:=by rw [L.W.v1,L.W.v2]; grind
 have e2:n=-u.2 * v.1+u.1 * v.2+0:=by rw [L.W.v1,L.W.v2]; unfold dd at h2; grind
 show U.tup [.int (n * (s * w.1+t * w.2) - q),.int n]=U.tup [.int _,.int _]
 rw [← e1,← e2]
theorem Lv.xsz {u w v:P2} {n q s t:Int} (L:Lv u w v n q s t):Sz 7000 (s * w.1+t * w.2):=(L2.Sz.add' (L2.Sz.mul L.ss L.W.sw.1) (L2.Sz.mul L.st L.W.sw.2)).mono (by decide)
theorem Lv.back {C:Addr} {u w v:P2} {n q s t:Int} (L:Lv u w v n q s t):gl C [.tup [.int s,.int t,.int (-u.2),.int u.1,.int 0,.int 0]] (.val (mv u.1 (-t) u.2 s 0 0)):=by
 refine .inl ⟨s,t,-u.2,u.1,0,0,rfl,L.mvOk,congrArg Out.val ?_⟩
 have h1:=L.G.eq
 have e:s * u.1 - t * -u.2=1:=by grind
 unfold o8
 rw [e]
 simp
theorem Lv.bmv {u w v:P2} {n q s t:Int} (L:Lv u w v n q s t):Mv u.1 (-t) u.2 s 0 0:=
 ⟨.inl (by have:=L.G.eq; grind),L.W.su.1.mono (by decide),(L2.Sz.neg L.st).mono (by decide),L.W.su.2.mono (by decide),L.ss.mono (by decide),Sz.mono (m:=8) (by decide) (by decide),Sz.mono (m:=8) (by decide) (by decide)⟩
theorem Lv.home {C:Addr} {u w v:P2} {n q s t:Int} (L:Lv u w v n q s t):c_ C [pu (s * w.1+t * w.2,1),.tup [.int u.1,.int (-t),.int u.2,.int s,.int 0,.int 0]] (.val (pu w)):=by
 refine .inl ⟨s * w.1+t * w.2,1,u.1,-t,u.2,s,0,0,rfl,L.bmv,L.xsz.mono (by decide),Sz.mono (m:=8) (by decide) (by decide),congrArg Out.val ?_⟩
 have h1:=L.G.eq
 have h2:=L.W.uw
 unfold dd at h2
 have e1:w.1=u.1 * (s * w.1+t * w.2)+-t * 1+0:=by grind
 have e2:w.2=u.2 * (s * w.1+t * w.2)+s * 1+0:=by grind
 show U.tup [.int w.1,.int w.2]=U.tup [.int _,.int _]
 rw [← e1,← e2]
def fR (N C:Addr):List U→Out→Prop:=fun us o=> (∃ (u w v:P2) (n q:Int),us=[pu u,pu v]∧Wd u w v n q∧o=lkO C (lks 100 n q))∨(∃ u v:P2,us=[pu u,pu v]∧Szp 3000 u∧Szp 3000 v∧wdg u v=false∧o=.exc N)
set_option maxHeartbeats 8000000 in
theorem ck (T:Txt K mg):aS P w K mg base (CXF P w) 6 T.a_turns T.d_turns ["u","v"] (spU K (fR T.c_NoWedge T.c_TooMany)):=by
 refine aU T.F_turns iz (by rintro us o (⟨u,w,v,n,q,rfl,_⟩ | ⟨u,v,rfl,_⟩) <;> rfl) (fun cdv A outer s H E O us o hr h=> ?_)
 rcases h with ⟨u,w,v,n,q,rfl,W,rfl⟩ | ⟨u,v,rfl,su,sv,hw,rfl⟩
 ·obtain ⟨s,t,L⟩:=nk W
  have np:=W.npos
  have sn:=W.sn
  have sx:Sz 9100 (n * (s * w.1+t * w.2) - q):=(L2.Sz.sub' (L2.Sz.mul sn L.xsz) (W.c.sz sn)).mono (by decide)
  refine af (eG (al ((bo T).mono (by decide)) hr rfl T.m_need_wedge T.F_need_wedge.kp T.b_need_wedge ap (ac (aa 0 rfl) (ac (aa 1 rfl) aj ae) ae) ⟨u,v,rfl,W.su.mono (by decide),W.sv.mono (by decide),by rw [if_pos W.wdg]⟩) ?_)
  refine af (ao (i:=2) iz.nd rfl (Or.inl rfl) (al ((fG T).mono (by decide)) hr rfl T.m_moved T.F_moved.kp T.b_moved ap (ac (aa 1 rfl) (ac (al ((iD T).mono (by decide)) hr rfl T.m_level T.F_level.kp T.b_level ap (ac (eV rfl T.g_TIP) (ac (aa 0 rfl) aj ae) ae) L.lev) aj ax) ae) L.place) ?_)
  have e:-(n * (s * w.1+t * w.2) - q) % n=q:=pH W.c.q0 W.c.qn
  cases el:lks 100 n q with
  | none=>
   refine af (lD (dh ((hV T).mono (by decide)) hr rfl T.m_chain T.F_chain.kp T.b_chain cx (ac (am (aa 2 rfl) ag rfl rfl) (ac (bh (bA (am (aa 2 rfl) ag rfl rfl)) (am (aa 2 rfl) ag rfl rfl) np) aj aM) cr) ⟨n,_,rfl,sn,by rw [e]; exact W.c.sz sn,by rw [e]; unfold chO; rw [if_pos ((gz _ _).mpr W.c),el]; rfl⟩) ?_)
   exact rfl
  | some l=>
   refine af (eH (cv ((hV T).mono (by decide)) hr rfl T.m_chain T.F_chain.kp T.b_chain ap (ac (am (aa 2 rfl) ag rfl rfl) (ac (bh (bA (am (aa 2 rfl) ag rfl rfl)) (am (aa 2 rfl) ag rfl rfl) np) aj aM) cr) ⟨n,_,rfl,sn,by rw [e]; exact W.c.sz sn,by rw [e]; unfold chO; rw [if_pos ((gz _ _).mpr W.c),el]; rfl⟩) ?_)
   exact rfl
 ·refine af (e_ (dh ((bo T).mono (by decide)) hr rfl T.m_need_wedge T.F_need_wedge.kp T.b_need_wedge cx (ac (aa 0 rfl) (ac (aa 1 rfl) aj ae) ae) ⟨u,v,rfl,su,sv,by rw [hw]; rfl⟩) ?_)
  exact rfl
def iA:List U→Out→Prop:=fun us o=> ∃ (u w v:P2) (n q:Int),us=[pu u,pu v]∧Wd u w v n q∧o=.val (pu w)
set_option maxHeartbeats 8000000 in
theorem jT (T:Txt K mg):aS P w K mg base (CXF P w) 5 T.a_beside T.d_beside ["u","v"] (spU K (iA)):=by
 refine aU T.F_beside eL (fun us o h=> ?_) (fun cdv A outer s H E O us o hr h=> ?_)
 ·obtain ⟨u,w,v,n,q,rfl,W,rfl⟩:=h
  rfl
 obtain ⟨u,w,v,n,q,rfl,W,rfl⟩:=h
 refine Ws.nox ?_
 obtain ⟨s,t,L⟩:=nk W
 have np:=W.npos
 have sn:=W.sn
 have sx:Sz 9100 (n * (s * w.1+t * w.2) - q):=(L2.Sz.sub' (L2.Sz.mul sn L.xsz) (W.c.sz sn)).mono (by decide)
 refine af (ao (i:=2) eL.nd rfl (Or.inl rfl) (al ((iD T).mono (by decide)) hr rfl T.m_level T.F_level.kp T.b_level ap (ac (eV rfl T.g_TIP) (ac (aa 0 rfl) aj ae) ae) L.lev) ?_)
 refine af (ao (i:=3) eL.nd rfl (Or.inl rfl) (al ((fG T).mono (by decide)) hr rfl T.m_moved T.F_moved.kp T.b_moved ap (ac (aa 1 rfl) (ac (aa 2 rfl) aj ae) ae) L.place) ?_)
 refine af (aA (al ((fG T).mono (by decide)) hr rfl T.m_moved T.F_moved.kp T.b_moved ap (ac (aZ (ai (bA (cF (bA (am (aa 3 rfl) ag rfl rfl)) (am (aa 3 rfl) ag rfl rfl) ⟨np,sn.mono (by decide)⟩)) (ai ag aB aX) dS)) (ac (al ((iC T).mono (by decide)) hr rfl T.m_way_back T.F_way_back.kp T.b_way_back ap (ac (aa 2 rfl) aj ae) L.back) aj ax) cJ) (show c_ _ [pu (-(-(n * (s * w.1+t * w.2) - q) / n),1),_] _ by rw [pQ W.c.q0 W.c.qn]; exact L.home)) ?_)
 exact rfl
theorem kC (pre:List P2) (a c:P2):atI ((pre++[a,c]).map pu) (-1)=some (pu c):=by
 have h:ixN ((pre++[a,c]).map pu).length (-1)=some (pre.length+1):=by
  unfold ixN
  simp
  omega
 unfold atI
 rw [h]
 simp
theorem kq (pre:List P2) (a c:P2):atI ((pre++[a,c]).map pu) (-2)=some (pu a):=by
 have h:ixN ((pre++[a,c]).map pu).length (-2)=some pre.length:=by
  unfold ixN
  simp
  omega
 unfold atI
 rw [h]
 simp
theorem fE:∀ (l:List Int) (a c:P2),a∈pts a c l∧c∈pts a c l
 | [],a,c=> ⟨by simp [pts],by simp [pts]⟩
 | b::l,a,c=> ⟨by simp [pts],by rw [pts]; exact List.mem_cons_of_mem _ (fE l c _).1⟩
def fk (N C:Addr):List U→Out→Prop:=fun us o=> (∃ (u w v:P2) (n q:Int) (l:List Int),us=[pu u,pu v]∧Wd u w v n q∧lks 100 n q=some l∧(∀ b∈l,Sz 64 b)∧(∀ p∈pts u w l,Szp 2200 p)∧o=.new ((pts u w l).map pu))∨(∃ u v:P2,us=[pu u,pu v]∧Szp 3000 u∧Szp 3000 v∧wdg u v=false∧o=.exc N)∨(∃ (u w v:P2) (n q:Int),us=[pu u,pu v]∧Wd u w v n q∧lks 100 n q=none∧o=.exc C)
set_option maxHeartbeats 8000000 in
theorem cR (T:Txt K mg):aS P w K mg base (CXF P w) 7 T.a_least T.d_least ["u","v"] (spU K (fk T.c_NoWedge T.c_TooMany)):=by
 refine aU T.F_least cS (by rintro us o (⟨u,w,v,n,q,l,rfl,_⟩ | ⟨u,v,rfl,_⟩ | ⟨u,w,v,n,q,rfl,_⟩) <;> rfl) (fun cdv A outer s H E O us o hr h=> ?_)
 rcases h with ⟨u,w,v,n,q,l,rfl,W,hl,sb,sp,rfl⟩ | ⟨u,v,rfl,su,sv,hw,rfl⟩ | ⟨u,w,v,n,q,rfl,W,hl,rfl⟩
 ·have ll:=gB hl
  refine af (ao (i:=2) cS.nd rfl (Or.inl rfl) (EvN.ev (cv ((ck T).mono (by decide)) hr rfl T.m_turns T.F_turns.kp T.b_turns ap (ac (aa 0 rfl) (ac (aa 1 rfl) aj ae) ae) (.inl ⟨u,w,v,n,q,rfl,W,by rw [hl]; rfl⟩))) ?_)
  refine af (mY (i:=3) cS.nd rfl (Or.inl rfl) (aO (ai (aa 0 rfl) (ai (al ((jT T).mono (by decide)) hr rfl T.m_beside T.F_beside.kp T.b_beside ap (ac (aa 0 rfl) (ac (aa 1 rfl) aj ae) ae) ⟨u,w,v,n,q,rfl,W,rfl⟩) aB ax) ae)) ?_)
  refine af (gN (fun z:List P2×P2×P2=> [some (.val (pu u)),some (.val (pu v)),some (.val (.lst (l.map U.int))),some (.own ((z.1++[z.2.1,z.2.2]).map pu)),none]) (fun i z=> z.1.length=i∧pts u w l=z.1++pts z.2.1 z.2.2 (l.drop i)) rfl PassesOwn.leaving (gM (aa 2 rfl) (.inl rfl)) ?h0 ?hs ?hd)
  case h0=> exact ⟨([],u,w),⟨rfl,rfl⟩,rfl,rfl,rfl,rfl,trivial⟩
  case hs=>
   rintro H0 i x ⟨pre,a,c⟩ hx ⟨hp,I⟩
   dsimp only at hp I ⊢
   rw [List.getElem?_map] at hx
   obtain ⟨b,hb,rfl⟩:=Option.map_eq_some_iff.mp hx
   obtain ⟨hi,hb'⟩:=List.getElem?_eq_some_iff.mp hb
   refine ⟨_,(g8 (i:=4) cS.nd rfl (Or.inl rfl)),?_⟩
   rw [List.drop_eq_getElem_cons hi,hb'] at I
   have zb:=sb b (List.mem_of_getElem? hb)
   have z1:=sp a (by rw [I]; exact List.mem_append_right _ (fE _ _ _).1)
   have z2:=sp c (by rw [I]; exact List.mem_append_right _ (fE _ _ _).2)
   obtain ⟨z3,z4⟩:=z2
   refine af (il 3 rfl (aZ (ai (aY (ar (aa 4 rfl) (am (jm 3 rfl (bA ag) (kC pre a c)) ag rfl rfl) (by walk_at "mul")) (am (jm 3 rfl (bA ag) (kq pre a c)) ag rfl rfl)) (ai (aY (ar (aa 4 rfl) (am (jm 3 rfl (bA ag) (kC pre a c)) ag rfl rfl) (by walk_at "mul")) (am (jm 3 rfl (bA ag) (kq pre a c)) ag rfl rfl)) aB aM) aM)) (by simp; exact cB (by omega)) (aI ?_))
   refine ⟨(pre++[a],c,nx b a c),⟨by simp [hp],by rw [I,pts]; simp⟩,rfl,rfl,rfl,?_,trivial⟩
   exact congrArg (fun l=> some (Sl.own l)) (by simp [nx])
  case hd=>
   rintro ⟨pre,a,c⟩ ps ⟨hp,I⟩ hps
   refine dO ?_ hps
   dsimp only at hp I ⊢
   rw [List.length_map,List.drop_length] at I
   refine af (kY 3 rfl ?_)
   rw [I]
   exact rfl
 ·refine af (iS (i:=2) cS.nd rfl (Or.inl rfl) (dh ((ck T).mono (by decide)) hr rfl T.m_turns T.F_turns.kp T.b_turns cx (ac (aa 0 rfl) (ac (aa 1 rfl) aj ae) ae) (.inr ⟨u,v,rfl,su,sv,hw,rfl⟩)) ?_)
  exact rfl
 ·refine af (iS (i:=2) cS.nd rfl (Or.inl rfl) (dh ((ck T).mono (by decide)) hr rfl T.m_turns T.F_turns.kp T.b_turns cx (ac (aa 0 rfl) (ac (aa 1 rfl) aj ae) ae) (.inl ⟨u,w,v,n,q,rfl,W,by rw [hl]; rfl⟩)) ?_)
  exact rfl
end
section
variable {P:Program} {w:World} {K:PySem.W.Frag} {mg:Str→Option Value} {base:Heap}
def pq (a:P2×Int):U:=.tup [pu a.1,.int a.2]
theorem lJ (x:Int):decide (sgn x < 0)=decide (x < 0):=decide_eq_decide.mpr (by unfold sgn; split; omega; split <;> omega)
theorem lb (u v:P2):dt (0,0) u v=dd u v:=lm u v
theorem zt:Szp 3000 (0,0):=⟨z3,z3⟩
theorem lN {a b:Int} (h:a < 0∨b < 0):(!(decide (0≤a) && decide (0≤b)))=true:=by
 have:¬ (0≤a∧0≤b):=by omega
 rw [← Bool.decide_and,decide_eq_false this]
 rfl
theorem lc (x:Int):decide (-1 < sgn x)=decide (0≤x):=decide_eq_decide.mpr (by unfold sgn; split; omega; split <;> omega)
def jB:List U→Out→Prop:=fun us o=> ∃ u v p:P2,us=[pu u,pu v,pu p]∧Szp 3000 u∧Szp 3000 v∧Szp 3000 p∧o=.val (.bl (decide (0≤dd u p) && decide (0≤dd p v)))
set_option maxHeartbeats 8000000 in
theorem dY (T:Txt K mg):aS P w K mg base (CXF P w) 3 T.a_lies_in T.d_lies_in ["u","v","P"] (spU K (jB)):=by
 refine aU T.F_lies_in iZ (fun us o h=> ?_) (fun cdv A outer s H E O us o hr h=> ?_)
 ·obtain ⟨u,v,p,rfl,su,sv,sp,rfl⟩:=h
  rfl
 obtain ⟨u,v,p,rfl,su,sv,sp,rfl⟩:=h
 refine Ws.nox ?_
 refine af (aA (cw (cH ft (al ((e8 T).mono (by decide)) hr rfl T.m_turn T.F_turn.kp T.b_turn ap (ac (eV rfl T.g_TIP) (ac (aa 0 rfl) (ac (aa 2 rfl) aj ae) ae) ae) ⟨(0,0),u,p,rfl,zt,su,sp,rfl⟩) (bA ag)) (fun hz=> (cN (cH ft (al ((e8 T).mono (by decide)) hr rfl T.m_turn T.F_turn.kp T.b_turn ap (ac (eV rfl T.g_TIP) (ac (aa 2 rfl) (ac (aa 1 rfl) aj ae) ae) ae) ⟨(0,0),p,v,rfl,zt,sp,sv,rfl⟩) (bA ag))))) ?_)
 refine vB ?_
 rw [lb,lb,← lc,← lc]
def gT:List U→Out→Prop:=fun us o=> ∃ u v:P2,us=[pu u,pu v]∧Szp 3000 u∧Szp 3000 v∧o=.val (.int (dd u v))
set_option maxHeartbeats 8000000 in
theorem fL (T:Txt K mg):aS P w K mg base (CXF P w) 1 T.a_crossed T.d_crossed ["P","Q"] (spU K (gT)):=by
 refine aU T.F_crossed iF (fun us o h=> ?_) (fun cdv A outer s H E O us o hr h=> ?_)
 ·obtain ⟨u,v,rfl,⟨u1,u2⟩,⟨v1,v2⟩,rfl⟩:=h
  rfl
 obtain ⟨u,v,rfl,⟨u1,u2⟩,⟨v1,v2⟩,rfl⟩:=h
 refine Ws.nox ?_
 refine af (aA (aY (ar (am (aa 0 rfl) ag rfl rfl) (am (aa 1 rfl) ag rfl rfl) (by walk_at "mul")) (ar (am (aa 0 rfl) ag rfl rfl) (am (aa 1 rfl) ag rfl rfl) (by walk_at "mul"))) ?_)
 exact rfl
def du (N Q C:Addr):List U→Out→Prop:=fun us o=> (∃ (u w v:P2) (n q:Int) (l:List Int) (p:P2),us=[pu u,pu v,pu p]∧Wd u w v n q∧lks 100 n q=some l∧(∀ b∈l,Sz 64 b)∧(∀ x∈pts u w l,Szp 2200 x)∧dL u w l=v∧Szp 3000 p∧0≤dd u p∧0≤dd p v∧o=.new ((spr p (pts u w l)).map pq))∨
 (∃ u v p:P2,us=[pu u,pu v,pu p]∧Szp 3000 u∧Szp 3000 v∧Szp 3000 p∧wdg u v=false∧o=.exc N)∨(∃ u v p:P2,us=[pu u,pu v,pu p]∧Szp 3000 u∧Szp 3000 v∧Szp 3000 p∧wdg u v=true∧(dd u p < 0∨dd p v < 0)∧o=.exc Q)∨
 (∃ (u w v:P2) (n q:Int) (p:P2),us=[pu u,pu v,pu p]∧Wd u w v n q∧lks 100 n q=none∧Szp 3000 p∧0≤dd u p∧0≤dd p v∧o=.exc C)
theorem oB {l pre r:List P2} {a c:P2} (e:l=pre++a::c::r) {k:Int} (hk:k=(pre.length:Int)+1):atI (l.map pu) k=some (pu c)∧atI (l.map pu) (k - 1)=some (pu a):=by
 subst e
 constructor
 ·exact g9 (i:=pre.length+1) (by omega) (by rw [List.getElem?_map,List.getElem?_append_right (by omega)]; simp)
 ·exact g9 (i:=pre.length) (by omega) (by rw [List.getElem?_map,List.getElem?_append_right (by omega)]; simp)
def fo (z:P2×Int):Option U:=if 0 < z.2 then some (pq z) else none
theorem ox (l:List (P2×Int)):(l.map fo).filterMap id=(l.filter fun z=> decide (0 < z.2)).map pq:=by
 induction l with
 | nil=> rfl
 | cons a t ih=>
  unfold fo at *
  by_cases h:0 < a.2
  ·simp [h,ih]
  ·simp [h,ih]
set_option maxHeartbeats 8000000 in
theorem cX (T:Txt K mg):aS P w K mg base (CXF P w) 8 T.a_spread T.d_spread ["u","v","P"] (spU K (du T.c_NoWedge T.c_NotThere T.c_TooMany)):=by
 refine aU T.F_spread cf (by rintro us o (⟨u,w,v,n,q,l,p,rfl,_⟩ | ⟨u,v,p,rfl,_⟩ | ⟨u,v,p,rfl,_⟩ | ⟨u,w,v,n,q,p,rfl,_⟩) <;> rfl) (fun cdv A outer s H E O us o hr h=> ?_)
 rcases h with ⟨u,w,v,n,q,l,p,rfl,W,hl,sb,sz,hv,sp,h1,h2,rfl⟩ | ⟨u,v,p,rfl,su3,sv3,sp,hw,rfl⟩ | ⟨u,v,p,rfl,su3,sv3,sp,hw,hd,rfl⟩ | ⟨u,w,v,n,q,p,rfl,W,hl,sp,h1,h2,rfl⟩
 ·have su3:=W.su.mono (show 2200≤3000 by decide)
  have sv3:=W.sv.mono (show 2200≤3000 by decide)
  have ll:=gB hl
  obtain ⟨t0,et0⟩:=dF l u w W.uw
  refine af (eG (al ((bo T).mono (by decide)) hr rfl T.m_need_wedge T.F_need_wedge.kp T.b_need_wedge ap (ac (aa 0 rfl) (ac (aa 1 rfl) aj ae) ae) ⟨u,v,rfl,su3,sv3,by rw [if_pos W.wdg]⟩) ?_)
  refine af (bP (bC (bD (al ((dY T).mono (by decide)) hr rfl T.m_lies_in T.F_lies_in.kp T.b_lies_in ap (ac (aa 0 rfl) (ac (aa 1 rfl) (ac (aa 2 rfl) aj ae) ae) ae) ⟨u,v,p,rfl,su3,sv3,sp,rfl⟩))) (by rw [decide_eq_true h1,decide_eq_true h2]; rfl) (aI ?_))
  refine af (ao (i:=3) cf.nd rfl (Or.inl rfl) (EvN.ev (cv ((cR T).mono (by decide)) hr rfl T.m_least T.F_least.kp T.b_least ap (ac (aa 0 rfl) (ac (aa 1 rfl) aj ae) ae) (.inl ⟨u,w,v,n,q,l,rfl,W,hl,sb,sz,rfl⟩))) ?_)
  refine af (ao (i:=4) cf.nd rfl (Or.inl rfl) ag ?_)
  refine af (fJ (fun z:List P2×P2×P2×List P2=> [some (.val (pu u)),some (.val (pu v)),some (.val (pu p)),some (.val (lp (pts u w l))),some (.val (.int ((z.1.length:Int)+1))),none,none]) (fun m z=> m=z.2.2.2.length∧pts u w l=z.1++z.2.1::z.2.2.1::z.2.2.2∧spr p (pts u w l)=spr p (z.2.1::z.2.2.1::z.2.2.2)) PassesOwn.leaving ?h0 ?hs)
  case h0=> exact ⟨_,([],u,w,t0),⟨rfl,et0,by rw [et0]⟩,rfl,rfl,rfl,rfl,rfl,trivial⟩
  case hs=>
   rintro m ⟨pre,a,c,r⟩ ⟨hm,I,J⟩
   dsimp only at hm I J ⊢
   obtain ⟨at1,at2⟩:=oB I rfl
   have sc:=(sz c (by rw [I]; simp)).mono (show 2200≤3000 by decide)
   have sa:=(sz a (by rw [I]; simp)).mono (show 2200≤3000 by decide)
   refine ⟨decide (dd p c < 0),by rw [← lJ,← lb]; exact (az gI (al ((e8 T).mono (by decide)) hr rfl T.m_turn T.F_turn.kp T.b_turn ap (ac (eV rfl T.g_TIP) (ac (aa 2 rfl) (ac (am (aa 3 rfl) (aa 4 rfl) rfl at1) aj cr) ae) ae) ⟨(0,0),p,c,rfl,zt,sp,sc,rfl⟩) ag),fun h=> ?_,fun h ps hps=> ?_⟩
   ·have hc:=dTb h
    have hr2:r≠[]:=fun z=> by
     have e1:=d6 l u w
     subst z
     have hlen:=congrArg List.length I
     rw [ez] at hlen
     simp at hlen
     rw [I,List.getElem?_append_right (by omega),show l.length+1 - pre.length=1 by omega,hv] at e1
     have e2:c=v:=by simpa using e1
     rw [e2] at hc
     omega
    obtain ⟨d,r',rfl⟩:=List.exists_cons_of_ne_nil hr2
    refine af (o9 (i:=4) nH cf.nd rfl (Or.inl rfl) rfl ag (aI ?_))
    refine ⟨r'.length,(pre++[a],c,d,r'),by rw [hm]; simp,⟨rfl,by rw [I]; simp,by rw [J,kv (by omega)]⟩,rfl,rfl,rfl,rfl,?_,trivial⟩
    exact congrArg (fun z=> some (Sl.val (.int z))) (by simp)
   ·have hc:=dFb h
    refine dO ?_ hps
    refine af (ao (i:=5) cf.nd rfl (Or.inl rfl) (EvN.ev (aO (ai (aZ (ai (am (aa 3 rfl) (aY (aa 4 rfl) ag) rfl at2) (ai (al ((fL T).mono (by decide)) hr rfl T.m_crossed T.F_crossed.kp T.b_crossed ap (ac (aa 2 rfl) (ac (am (aa 3 rfl) (aa 4 rfl) rfl at1) aj cr) ae) ⟨p,c,rfl,sp,sc,rfl⟩) aB ax) cr)) (ai (aZ (ai (am (aa 3 rfl) (aa 4 rfl) rfl at1) (ai (al ((fL T).mono (by decide)) hr rfl T.m_crossed T.F_crossed.kp T.b_crossed ap (ac (am (aa 3 rfl) (aY (aa 4 rfl) ag) rfl at2) (ac (aa 2 rfl) aj ae) cr) ⟨a,p,rfl,sa,sp,rfl⟩) aB ax) cr)) aB cJ) cJ))) ?_)
    rw [J,fv (by omega)]
    refine af (eH (lL ([(a,dd p c),(c,dd a p)].map fo) rfl (blk (ah cI) ["u","v","P","row","k","pairs","pair"] [6] rfl rfl rfl rfl (by decide+kernel)) (gM (aa 5 rfl) (.inl rfl)) (fun _ _ _ _=> bp (i:=6) cf.nd rfl (Or.inl rfl)) (eA (by decide)) ?clen ?csz (fun _ _=> trivial) ?ctest ?celt) ?_)
    case clen=> rfl
    case csz=> exact (show 2≤sizeLine by decide)
    case ctest=>
     intro C s' H' fp j x o hx ho
     obtain ⟨z,hz,mz,e1,e2⟩:∃ z,[(a,dd p c),(c,dd a p)][j]?=some z∧z∈[(a,dd p c),(c,dd a p)]∧x=pq z∧o=fo z:=by
      match j,hx,ho with
      | 0,hx,ho=> cases hx; cases ho; exact ⟨_,rfl,by simp,rfl,rfl⟩
      | 1,hx,ho=> cases hx; cases ho; exact ⟨_,rfl,by simp,rfl,rfl⟩
     subst e1 e2
     rw [show (fo z).isSome=decide (z.2 > 0) by unfold fo; by_cases k:0 < z.2 <;> simp [k]]
     exact (az ft (am (aa 6 rfl) ag rfl rfl) ag)
    case celt=>
     intro C s' H' fp j x y hx hy
     have e1:y=x:=by
      match j,hx,hy with
      | 0,hx,hy=>
       cases hx
       have hy':fo (a,dd p c)=some y:=Option.some.inj hy
       unfold fo at hy'
       split at hy'
       ·exact (Option.some.inj hy').symm
       ·cases hy'
      | 1,hx,hy=>
       cases hx
       have hy':fo (c,dd a p)=some y:=Option.some.inj hy
       unfold fo at hy'
       split at hy'
       ·exact (Option.some.inj hy').symm
       ·cases hy'
     rw [e1]
     exact (aa 6 rfl)
    rw [ox]
    exact rfl
 ·refine af (e_ (dh ((bo T).mono (by decide)) hr rfl T.m_need_wedge T.F_need_wedge.kp T.b_need_wedge cx (ac (aa 0 rfl) (ac (aa 1 rfl) aj ae) ae) ⟨u,v,rfl,su3,sv3,by rw [hw]; rfl⟩) ?_)
  exact rfl
 ·refine af (eG (al ((bo T).mono (by decide)) hr rfl T.m_need_wedge T.F_need_wedge.kp T.b_need_wedge ap (ac (aa 0 rfl) (ac (aa 1 rfl) aj ae) ae) ⟨u,v,rfl,su3,sv3,by rw [if_pos hw]⟩) ?_)
  refine af (bW (bC (bD (al ((dY T).mono (by decide)) hr rfl T.m_lies_in T.F_lies_in.kp T.b_lies_in ap (ac (aa 0 rfl) (ac (aa 1 rfl) (ac (aa 2 rfl) aj ae) ae) ae) ⟨u,v,p,rfl,su3,sv3,sp,rfl⟩))) (lN hd) ?_)
  refine af (dC T.x_NotThere rfl T.mx_NotThere gg ?_)
  exact rfl
 ·refine af (eG (al ((bo T).mono (by decide)) hr rfl T.m_need_wedge T.F_need_wedge.kp T.b_need_wedge ap (ac (aa 0 rfl) (ac (aa 1 rfl) aj ae) ae) ⟨u,v,rfl,W.su.mono (by decide),W.sv.mono (by decide),by rw [if_pos W.wdg]⟩) ?_)
  refine af (bP (bC (bD (al ((dY T).mono (by decide)) hr rfl T.m_lies_in T.F_lies_in.kp T.b_lies_in ap (ac (aa 0 rfl) (ac (aa 1 rfl) (ac (aa 2 rfl) aj ae) ae) ae) ⟨u,v,p,rfl,W.su.mono (by decide),W.sv.mono (by decide),sp,rfl⟩))) (by rw [decide_eq_true h1,decide_eq_true h2]; rfl) (aI ?_))
  refine af (iS (i:=3) cf.nd rfl (Or.inl rfl) (dh ((cR T).mono (by decide)) hr rfl T.m_least T.F_least.kp T.b_least cx (ac (aa 0 rfl) (ac (aa 1 rfl) aj ae) ae) (.inr (.inr ⟨u,w,v,n,q,rfl,W,hl,rfl⟩))) ?_)
  exact rfl
end
section
variable {P:Program} {w:World} {K:PySem.W.Frag} {mg:Str→Option Value} {base:Heap}
abbrev li (l:List Int):U:=.lst (l.map U.int)
def at5 (cs:List Int) (i:Nat):Int:=cs.getD i 0
theorem j6 {cs:List Int} {k:Int} {i:Nat} (e:k=(i:Int)) (h:i < cs.length):atI (cs.map U.int) k=some (.int (at5 cs i)):=by
 subst e
 rw [iq (by omega) (by omega)]
 rfl
theorem fM {cs:List Int} {m:Nat} {i:Nat} (h:∀ c∈cs,Sz m c) (hi:i < cs.length):Sz m (at5 cs i):=by
 unfold at5
 rw [List.getD_eq_getElem?_getD,List.getElem?_eq_getElem hi]
 exact h _ (List.getElem_mem hi)
theorem pf {m:Nat} {x y:Int} (h:0≤y) (sy:Sz m y):Sz m (x % (2 * y+1) - y):=by
 have h1:=Int.emod_nonneg x (show 2 * y+1≠0 by omega)
 have h2:=Int.emod_lt_of_pos x (show 0 < 2 * y+1 by omega)
 generalize x % (2 * y+1)=z at *
 refine Sz.le ?_ sy
 omega
def slp (c:Int):Int:=if c % 2=0 then c * (7 * 10 ^ (14:Int).toNat+48271 * 10 ^ (8:Int).toNat+65537) % (2 * 10 ^ (15:Int).toNat+1) - 10 ^ (15:Int).toNat else c / 2 % 13 - 6
theorem eP (c:Int):Sz 60 (slp c):=by
 unfold slp
 split
 ·exact pf (by decide+kernel) (by decide+kernel)
 ·refine Sz.mono (m:=12) ?_ (by decide)
  unfold Sz; omega
def i7:List U→Out→Prop:=fun us o=> ∃ c:Int,us=[.int c]∧Sz 1100000 c∧o=.val (.int (slp c))
set_option maxHeartbeats 8000000 in
theorem cO (T:Txt K mg):aS P w K mg base (CXF P w) 1 T.a__law_slope T.d__law_slope ["cell"] (spU K (i7)):=by
 refine aU T.F__law_slope fX (fun us o h=> ?_) (fun cdv A outer s H E O us o hr h=> ?_)
 ·obtain ⟨c,rfl,cz,rfl⟩:=h
  rfl
 obtain ⟨c,rfl,cz,rfl⟩:=h
 refine Ws.nox ?_
 by_cases h:c % 2=0
 ·refine af (bW (az aG (bh (aa 0 rfl) ag (by walk_at "mod")) ag) (decide_eq_true h) ?_)
  refine af (aA (aY (bh (ar (aa 0 rfl) (aV (aV (ar ag (cL ag ag ⟨by decide,by decide,by decide⟩) (by walk_at "mul")) (ar ag (cL ag ag ⟨by decide,by decide,by decide⟩) (by walk_at "mul"))) ag) (by walk_at "mul")) (aV (ar ag (cL ag ag ⟨by decide,by decide,by decide⟩) (by walk_at "mul")) ag) (by decide+kernel)) (cL ag ag ⟨by decide,by decide,by decide⟩)) ?_)
  exact vIO (by unfold slp; rw [if_pos h])
 ·refine af (bP (az aG (bh (aa 0 rfl) ag (by walk_at "mod")) ag) (decide_eq_false h) (aI ?_))
  refine af (aA (aY (bh (cF (aa 0 rfl) ag (by walk_at "div")) ag (by walk_at "mod")) ag) ?_)
  exact vIO (by unfold slp; rw [if_neg h])
def szF (c:Int):Int:=if c % 6 < 3 then 98+c / 6 % 6 else if c % 6 < 5 then c / 6 % 61 else 104+c * (7 * 10 ^ (39:Int).toNat+48271 * 10 ^ (20:Int).toNat+982451653) % 10 ^ (40:Int).toNat
theorem n6 (c:Int):0≤szF c∧Sz 140 (szF c):=by
 unfold szF
 split
 ·exact ⟨by omega,Sz.mono (m:=12) (by unfold Sz; omega) (by decide)⟩
 ·split
  ·exact ⟨by omega,Sz.mono (m:=12) (by unfold Sz; omega) (by decide)⟩
  ·have h1:=Int.emod_nonneg (c * (7 * 10 ^ (39:Int).toNat+48271 * 10 ^ (20:Int).toNat+982451653)) (show (10:Int) ^ (40:Int).toNat≠0 by decide+kernel)
   have h2:=Int.emod_lt_of_pos (c * (7 * 10 ^ (39:Int).toNat+48271 * 10 ^ (20:Int).toNat+982451653)) (show (0:Int) < 10 ^ (40:Int).toNat by decide+kernel)
   have z:Sz 139 ((10:Int) ^ (40:Int).toNat):=by decide+kernel
   have s1:Sz 139 (104:Int):=Sz.mono (m:=8) (by decide) (by decide)
   exact ⟨by omega,L2.Sz.add' s1 (z.natle (by omega))⟩
def jO:List U→Out→Prop:=fun us o=> ∃ c:Int,us=[.int c]∧Sz 1100000 c∧o=.val (.int (szF c))
set_option maxHeartbeats 8000000 in
theorem hG (T:Txt K mg):aS P w K mg base (CXF P w) 1 T.a__law_size T.d__law_size ["cell"] (spU K (jO)):=by
 refine aU T.F__law_size gy (fun us o h=> ?_) (fun cdv A outer s H E O us o hr h=> ?_)
 ·obtain ⟨c,rfl,cz,rfl⟩:=h
  rfl
 obtain ⟨c,rfl,cz,rfl⟩:=h
 refine Ws.nox ?_
 by_cases h:c % 6 < 3
 ·refine af (bW (az gI (bh (aa 0 rfl) ag (by walk_at "mod")) ag) (decide_eq_true h) ?_)
  refine af (aA (aV ag (bh (cF (aa 0 rfl) ag (by walk_at "div")) ag (by walk_at "mod"))) ?_)
  exact vIO (by unfold szF; rw [if_pos h])
 ·refine af (bP (az gI (bh (aa 0 rfl) ag (by walk_at "mod")) ag) (decide_eq_false h) (aI ?_))
  by_cases h5:c % 6 < 5
  ·refine af (bW (az gI (bh (aa 0 rfl) ag (by walk_at "mod")) ag) (decide_eq_true h5) ?_)
   refine af (aA (bh (cF (aa 0 rfl) ag (by walk_at "div")) ag (by walk_at "mod")) ?_)
   exact vIO (by unfold szF; rw [if_neg h,if_pos h5])
  ·refine af (bP (az gI (bh (aa 0 rfl) ag (by walk_at "mod")) ag) (decide_eq_false h5) (aI ?_))
   refine af (aA (aV ag (bh (ar (aa 0 rfl) (aV (aV (ar ag (cL ag ag ⟨by decide,by decide,by decide⟩) (by walk_at "mul")) (ar ag (cL ag ag ⟨by decide,by decide,by decide⟩) (by walk_at "mul"))) ag) (by walk_at "mul")) (cL ag ag ⟨by decide,by decide,by decide⟩) (by decide+kernel))) ?_)
   exact vIO (by unfold szF; rw [if_neg h,if_neg h5])
def iX:List U→Out→Prop:=fun us o=> ∃ u v:P2,us=[pu u,pu v]∧Szp 3000 u∧Szp 3000 v∧o=.val (.int (dd u v))
set_option maxHeartbeats 8000000 in
theorem d3 (T:Txt K mg):aS P w K mg base (CXF P w) 1 T.a__law_hand T.d__law_hand ["u","v"] (spU K (iX)):=by
 refine aU T.F__law_hand gX (fun us o h=> ?_) (fun cdv A outer s H E O us o hr h=> ?_)
 ·obtain ⟨u,v,rfl,⟨u1,u2⟩,⟨v1,v2⟩,rfl⟩:=h
  rfl
 obtain ⟨u,v,rfl,⟨u1,u2⟩,⟨v1,v2⟩,rfl⟩:=h
 refine Ws.nox ?_
 refine af (aA (aY (ar (am (aa 0 rfl) ag rfl rfl) (am (aa 1 rfl) ag rfl rfl) (by walk_at "mul")) (ar (am (aa 0 rfl) ag rfl rfl) (am (aa 1 rfl) ag rfl rfl) (by walk_at "mul"))) ?_)
 exact rfl
end
section
variable {P:Program} {w:World} {K:PySem.W.Frag} {mg:Str→Option Value} {base:Heap}
def bsF (n:Nat) (odd:Bool):List Int:=if n≤103 then (List.range n).map fun (k:Nat)=> 2+(if (decide (0+(k:Int)=(n:Int) - 1) && odd)=true then 1 else 0) else List.replicate n 2
theorem eu (n:Nat) (odd:Bool):(bsF n odd).length=n:=by unfold bsF; split <;> simp
theorem dX (n:Nat) (odd:Bool):∀ b∈bsF n odd,2≤b∧Sz 2 b:=by
 intro b hb
 unfold bsF at hb
 split at hb
 ·obtain ⟨k,_,rfl⟩:=List.mem_map.mp hb
  split
  ·exact ⟨by decide,by decide⟩
  ·exact ⟨by decide,by decide⟩
 ·rw [List.eq_of_mem_replicate hb]; exact ⟨by decide,by decide⟩
theorem gQ:∀ (n:Nat) (u w:P2),dL u w (List.replicate n 2)=(w.1+(n:Int) * (w.1 - u.1),w.2+(n:Int) * (w.2 - u.2))
 | 0,u,w=> by simp [dL]
 | n+1,u,w=> by
  rw [List.replicate_succ,dL,gQ n]
  unfold nx
  refine Prod.ext ?_ ?_ <;> dsimp only <;> rw [Int.natCast_succ] <;> grind
theorem mQ {m:Nat} {b:Int} {a c:P2} (sb:Sz 2 b) (sa:Szp m a) (sc:Szp m c):Szp (m+4) (nx b a c):=by
 unfold nx
 exact ⟨(L2.Sz.sub' (L2.Sz.mul sb sc.1) sa.1).mono (by omega),(L2.Sz.sub' (L2.Sz.mul sb sc.2) sa.2).mono (by omega)⟩
theorem gF:∀ (l:List Int) (m:Nat) (u w:P2),(∀ b∈l,Sz 2 b)→Szp m u→Szp m w→∀ p∈pts u w l,Szp (m+4 * l.length) p
 | [],m,u,w,_,su,sw,p,hp=> by
  simp [pts] at hp
  rcases hp with rfl | rfl
  ·exact su
  ·exact sw
 | b::l,m,u,w,hb,su,sw,p,hp=> by
  rw [pts] at hp
  rcases List.mem_cons.mp hp with rfl | hp
  ·exact ⟨su.1.mono (by omega),su.2.mono (by omega)⟩
  ·have:=gF l (m+4) w (nx b u w) (fun c hc=> hb c (List.mem_cons_of_mem _ hc)) ⟨sw.1.mono (by omega),sw.2.mono (by omega)⟩ (mQ (hb b List.mem_cons_self) su sw) p hp
   rw [List.length_cons]
   exact ⟨this.1.mono (by omega),this.2.mono (by omega)⟩
def uF (r p:Int):P2:=(1+r * p,p)
def wF (r p m:Int):P2:=(m+r * (m * p+1),m * p+1)
theorem pk (r p m:Int):dd (uF r p) (wF r p m)=1:=by unfold dd uF wF; dsimp only; grind
theorem mW {r p:Int} (m:Int) (sr:Sz 60 r) (sp:Sz 60 p) (sm:Sz 60 m):Szp 190 (uF r p)∧Szp 190 (wF r p m):=by
 have o1:Sz 60 (1:Int):=Sz.mono (m:=8) (by decide) (by decide)
 unfold uF wF
 refine ⟨⟨(L2.Sz.add' o1 (L2.Sz.mul sr sp)).mono (by decide),sp.mono (by decide)⟩,⟨?_,(L2.Sz.add' (L2.Sz.mul sm sp) o1).mono (by decide)⟩⟩
 exact (L2.Sz.add' sm (L2.Sz.mul sr (L2.Sz.add' (L2.Sz.mul sm sp) o1))).mono (by decide)
def vF (u w:P2) (n:Nat) (odd:Bool):P2:=dL u w (bsF n odd)
theorem ph {u w:P2} {n:Nat} (odd:Bool) (su:Szp 190 u) (sw:Szp 190 w) (sn:Sz 140 (n:Int)):Szp 700 (vF u w n odd):=by
 unfold vF
 by_cases h:n≤103
 ·have hb:=gF (bsF n odd) 190 u w (fun b hb=> (dX n odd b hb).2) su sw _ (List.mem_of_getElem? (d6 (bsF n odd) u w))
  rw [eu] at hb
  exact ⟨hb.1.mono (by omega),hb.2.mono (by omega)⟩
 ·have e:bsF n odd=List.replicate n 2:=if_neg h
  rw [e,gQ]
  exact ⟨(L2.Sz.add' sw.1 (L2.Sz.mul sn (L2.Sz.sub' sw.1 su.1))).mono (by decide),(L2.Sz.add' sw.2 (L2.Sz.mul sn (L2.Sz.sub' sw.2 su.2))).mono (by decide)⟩
theorem uvn {u w:P2} (h:dd u w=1) (l:List Int):dd u (dL u w l)=(unc l).1:=by
 rw [i5]
 unfold dd at *
 dsimp only
 grind
structure Wg (u w v:P2) (n:Nat) (odd:Bool):Prop where
 uw:dd u w=1
 su:Szp 190 u
 sw:Szp 190 w
 ev:v=vF u w n odd
 sn:Sz 140 (n:Int)
theorem Wg.sv {u w v:P2} {n:Nat} {odd:Bool} (h:Wg u w v n odd):Szp 700 v:=by rw [h.ev]; exact ph odd h.su h.sw h.sn
theorem Wg.wd {u w v:P2} {n:Nat} {odd:Bool} (h:Wg u w v n odd):Wd u w v (unc (bsF n odd)).1 (unc (bsF n odd)).2:=by
 have sv:=h.sv
 have e:=uvn h.uw (bsF n odd)
 have le:=i5 (bsF n odd) u w
 refine ⟨h.uw,by rw [h.ev,vF,le],by rw [h.ev,vF,le],jb fun b hb=> (dX n odd b hb).1,h.su.mono (by decide),h.sw.mono (by decide),sv.mono (by decide),?_⟩
 rw [← e,show dL u w (bsF n odd)=v from h.ev.symm]
 unfold dd
 exact (L2.Sz.sub' (L2.Sz.mul h.su.1 sv.2) (L2.Sz.mul h.su.2 sv.1)).mono (by decide)
theorem Wg.lk {u w v:P2} {n:Nat} {odd:Bool} (_:Wg u w v n odd):lks 100 (unc (bsF n odd)).1 (unc (bsF n odd)).2=if n≤100 then some (bsF n odd) else none:=by
 rw [jv 100 fun b hb=> (dX n odd b hb).1,eu]
theorem Wg.pz {u w v:P2} {n:Nat} {odd:Bool} (h:Wg u w v n odd) (hn:n≤100):∀ p∈pts u w (bsF n odd),Szp 2200 p:=fun p hp=> by
 have hb:=gF (bsF n odd) 190 u w (fun b hb=> (dX n odd b hb).2) h.su h.sw p hp
 rw [eu] at hb
 exact ⟨hb.1.mono (by omega),hb.2.mono (by omega)⟩
def enR (cs:List Int):Int:=slp (at5 cs 0)
def enP (cs:List Int):Int:=slp (at5 cs 1)
def enM (cs:List Int):Int:=slp (at5 cs 2 / 2)
def jQ:List U→Out→Prop:=fun us o=> ∃ (cs:List Int) (n:Nat),us=[li cs,.int n]∧cs.length=5∧(∀ c∈cs,Sz 1099990 c)∧Sz 140 (n:Int)∧o=.new [pu (uF (enR cs) (enP cs)),pu (wF (enR cs) (enP cs) (enM cs)),pu (vF (uF (enR cs) (enP cs)) (wF (enR cs) (enP cs) (enM cs)) n (decide (at5 cs 2 % 2=1)))]
set_option maxHeartbeats 8000000 in
theorem g7 (T:Txt K mg):aS P w K mg base (CXF P w) 2 T.a__law_ends T.d__law_ends ["some","size"] (spU K (jQ)):=by
 refine aU T.F__law_ends aN (fun us o h=> ?_) (fun cdv A outer s H E O us o hr h=> ?_)
 ·obtain ⟨cs,n,rfl,hl,hB,sn,rfl⟩:=h
  rfl
 obtain ⟨cs,n,rfl,hl,hB,sn,rfl⟩:=h
 refine Ws.nox ?_
 have c0:=(fM hB (i:=0) (by omega)).mono (n:=1100000) (by decide)
 have c1:=(fM hB (i:=1) (by omega)).mono (n:=1100000) (by decide)
 have c2:=(fM hB (i:=2) (by omega)).mono (n:=1100000) (by decide)
 have e2:atI (cs.map U.int) 2=some (.int (at5 cs 2)):=j6 (i:=2) (by decide) (by omega)
 refine af (ao (i:=2) aN.nd rfl (Or.inl rfl) (al ((cO T).mono (by decide)) hr rfl T.m__law_slope T.F__law_slope.kp T.b__law_slope ap (ac (am (aa 0 rfl) ag rfl (j6 (i:=0) (by decide) (by omega))) aj cr) ⟨_,rfl,c0,rfl⟩) ?_)
 refine af (ao (i:=3) aN.nd rfl (Or.inl rfl) (al ((cO T).mono (by decide)) hr rfl T.m__law_slope T.F__law_slope.kp T.b__law_slope ap (ac (am (aa 0 rfl) ag rfl (j6 (i:=1) (by decide) (by omega))) aj cr) ⟨_,rfl,c1,rfl⟩) ?_)
 refine af (ao (i:=4) aN.nd rfl (Or.inl rfl) (al ((cO T).mono (by decide)) hr rfl T.m__law_slope T.F__law_slope.kp T.b__law_slope ap (ac (cF (am (aa 0 rfl) ag rfl e2) ag (by walk_at "div")) aj aM) ⟨_,rfl,c2.ediv,rfl⟩) ?_)
 have s1:Sz 60 (enR cs):=eP _
 have s2:Sz 60 (enP cs):=eP _
 have s3:Sz 60 (enM cs):=eP _
 rw [show slp (at5 cs 0)=enR cs from rfl,show slp (at5 cs 1)=enP cs from rfl,show slp (at5 cs 2 / 2)=enM cs from rfl]
 generalize enR cs=r at *
 generalize enP cs=p at *
 generalize enM cs=m at *
 obtain ⟨su,sw⟩:=mW m s1 s2 s3
 have o1:Sz 60 (1:Int):=Sz.mono (m:=8) (by decide) (by decide)
 have smp:Sz 130 (m * p+1):=(L2.Sz.add' (L2.Sz.mul s3 s2) o1).mono (by decide)
 refine af (ao (i:=5) aN.nd rfl (Or.inl rfl) (aZ (ai (aV ag (ar (aa 2 rfl) (aa 3 rfl) (by walk_at "mul"))) (ai (aa 3 rfl) aB ae) aM)) ?_)
 refine af (ao (i:=6) aN.nd rfl (Or.inl rfl) (aZ (ai (aV (aa 4 rfl) (ar (aa 2 rfl) (aV (ar (aa 4 rfl) (aa 3 rfl) (by walk_at "mul")) ag) (by walk_at "mul"))) (ai (aV (ar (aa 4 rfl) (aa 3 rfl) (by walk_at "mul")) ag) aB aM) aM)) ?_)
 show Ws _ _ _ _ _ _ [some (.val (li cs)),some (.val (.int n)),some (.val (.int r)),some (.val (.int p)),some (.val (.int m)),some (.val (pu (uF r p))),some (.val (pu (wF r p m))),none,none,none,none]
 generalize uF r p=u at *
 generalize wF r p m=w at *
 refine af (ao (i:=7) aN.nd rfl (Or.inl rfl) (aa 5 rfl) ?_)
 refine af (ao (i:=8) aN.nd rfl (Or.inl rfl) (aa 6 rfl) ?_)
 have u1:=su.1
 have u2:=su.2
 have w1:=sw.1
 have w2:=sw.2
 by_cases h:n≤103
 ·refine af (bP (az ft (aa 1 rfl) ag) (decide_eq_false (by omega)) (aI ?_))
  show Ws _ _ _ _ _ _ [some (.val (li cs)),some (.val (.int n)),some (.val (.int r)),some (.val (.int p)),some (.val (.int m)),some (.val (pu u)),some (.val (pu w)),some (.val (pu u)),some (.val (pu w)),none,none]
  have be:bsF n (decide (at5 cs 2 % 2=1))=(List.range n).map fun (k:Nat)=> 2+(if (decide (0+(k:Int)=(n:Int) - 1) && decide (at5 cs 2 % 2=1))=true then 1 else 0):=if_pos h
  have bl:=eu n (decide (at5 cs 2 % 2=1))
  have bk:=dX n (decide (at5 cs 2 % 2=1))
  refine af (gN (fun z:P2×P2=> [some (.val (li cs)),some (.val (.int n)),none,none,none,some (.val (pu u)),some (.val (pu w)),some (.val (pu z.1)),some (.val (pu z.2)),none,none]) (fun i z=> vF u w n (decide (at5 cs 2 % 2=1))=dL z.1 z.2 ((bsF n (decide (at5 cs 2 % 2=1))).drop i)∧Szp (190+4 * i) z.1∧Szp (190+4 * i) z.2) rfl PassesOwn.never (d_ rfl T.z_range (ac (aa 1 rfl) aj ae) (by omega) (by omega)) ?h0 ?hs ?hd)
  case h0=> exact ⟨(u,w),⟨rfl,su,sw⟩,rfl,rfl,rfl,rfl,rfl,rfl,trivial⟩
  case hs=>
   rintro H0 i x ⟨a,c⟩ hx ⟨I,sa,sc⟩
   dsimp only at I sa sc ⊢
   obtain ⟨hi,rfl⟩:=dg hx
   have hi':i < n:=by omega
   have hil:i < (bsF n (decide (at5 cs 2 % 2=1))).length:=by omega
   refine ⟨_,(g8 (i:=9) aN.nd rfl (Or.inl rfl)),?_⟩
   have eb:(bsF n (decide (at5 cs 2 % 2=1)))[i]=2+(if (decide (0+(i:Int)=(n:Int) - 1) && decide (at5 cs 2 % 2=1))=true then 1 else 0):=by
    have:(bsF n (decide (at5 cs 2 % 2=1)))[i]?=some (2+(if (decide (0+(i:Int)=(n:Int) - 1) && decide (at5 cs 2 % 2=1))=true then 1 else 0)):=by rw [be,List.getElem?_map,List.getElem?_range hi']; rfl
    rw [List.getElem?_eq_getElem hil] at this
    exact Option.some.inj this
   rw [List.drop_eq_getElem_cons hil,eb] at I
   have zb:Sz 2 (2+(if (decide (0+(i:Int)=(n:Int) - 1) && decide (at5 cs 2 % 2=1))=true then 1 else 0)):=by rw [← eb]; exact (bk _ (List.getElem_mem hil)).2
   refine af (ao (i:=10) aN.nd rfl (Or.inl rfl) (aV ag (md nv rfl T.z_int boot_int (ac (cw (cH aG (aa 9 rfl) (aY (aa 1 rfl) ag)) (fun hz=> (cN (cH aG (bh (am (aa 0 rfl) ag rfl e2) ag (by walk_at "mod")) ag)))) aj nF))) ?_)
   generalize (2+(if (decide (0+(i:Int)=(n:Int) - 1) && decide (at5 cs 2 % 2=1))=true then (1:Int) else 0))=b at *
   have a1:=sa.1.mono (n:=700) (by omega)
   have a2:=sa.2.mono (n:=700) (by omega)
   have c1:=sc.1.mono (n:=700) (by omega)
   have c2:=sc.2.mono (n:=700) (by omega)
   refine af (oI (i:=7) (j:=8) rfl aN.nd rfl rfl (by decide) rfl rfl (ac (aa 8 rfl) (ac (aZ (ai (aY (ar (aa 10 rfl) (am (aa 8 rfl) ag rfl rfl) (by walk_at "mul")) (am (aa 7 rfl) ag rfl rfl)) (ai (aY (ar (aa 10 rfl) (am (aa 8 rfl) ag rfl rfl) (by walk_at "mul")) (am (aa 7 rfl) ag rfl rfl)) aB aM) aM)) aj cJ) ae) rfl (aI ?_))
   refine ⟨(c,nx b a c),⟨by dsimp only; rw [I]; rfl,?_,?_⟩,rfl,rfl,rfl,rfl,rfl,rfl,trivial⟩
   ·exact ⟨sc.1.mono (by omega),sc.2.mono (by omega)⟩
   ·have:=mQ zb sa sc
    exact ⟨this.1.mono (by omega),this.2.mono (by omega)⟩
  case hd=>
   rintro ⟨a,c⟩ ps ⟨I,sa,sc⟩ hps
   dsimp only at I ⊢
   refine dO ?_ hps
   rw [bG,List.drop_eq_nil_of_le (by rw [bl]; omega)] at I
   refine af (eH (aO (ai (aa 5 rfl) (ai (aa 6 rfl) (ai (aa 8 rfl) aB ae) ae) ae)) ?_)
   rw [I]
   rfl
 ·refine af (bW (az ft (aa 1 rfl) ag) (decide_eq_true (by omega)) ?_)
  have sd1:Sz 200 (w.1 - u.1):=(L2.Sz.sub' w1 u1).mono (by decide)
  have sd2:Sz 200 (w.2 - u.2):=(L2.Sz.sub' w2 u2).mono (by decide)
  refine af (eH (aO (ai (aa 5 rfl) (ai (aa 6 rfl) (ai (aZ (ai (aV (am (aa 6 rfl) ag rfl rfl) (ar (aa 1 rfl) (aY (am (aa 6 rfl) ag rfl rfl) (am (aa 5 rfl) ag rfl rfl)) (by walk_at "mul"))) (ai (aV (am (aa 6 rfl) ag rfl rfl) (ar (aa 1 rfl) (aY (am (aa 6 rfl) ag rfl rfl) (am (aa 5 rfl) ag rfl rfl)) (by walk_at "mul"))) aB aM) aM)) aB cJ) ae) ae)) ?_)
  have e:vF u w n (decide (at5 cs 2 % 2=1))=(w.1+(n:Int) * (w.1 - u.1),w.2+(n:Int) * (w.2 - u.2)):=by
   unfold vF
   rw [show bsF n (decide (at5 cs 2 % 2=1))=List.replicate n 2 from if_neg h,gQ]
  rw [e]
end
section
variable {P:Program} {w:World} {K:PySem.W.Frag} {mg:Str→Option Value} {base:Heap}
def knd:Option Nat→List U
 | none=> []
 | some j=> (List.range 13).map fun (k:Nat)=> .bl (decide (0+(k:Int)=(j:Int)) || decide (0+(k:Int)=3))
def jC:List U→Out→Prop:=fun us o=> ∃ j:Nat,us=[.int j]∧o=.new (knd (some j))
set_option maxHeartbeats 8000000 in
theorem bV (T:Txt K mg):aS P w K mg base (CXF P w) 1 T.a__law_only T.d__law_only ["place"] (spU K (jC)):=by
 refine aU T.F__law_only em (fun us o h=> ?_) (fun cdv A outer s H E O us o hr h=> ?_)
 ·obtain ⟨j,rfl,rfl⟩:=h
  rfl
 obtain ⟨j,rfl,rfl⟩:=h
 refine Ws.nox ?_
 refine af (eH (g5 (ys:=(knd (some j))) rfl (blk (ah br) ["place","k"] [1] rfl rfl rfl rfl (by decide+kernel)) (d_ rfl T.z_range (ac ag aj aX) (by decide) (by decide)) (fun _ _ _ _=> bp (i:=1) em.nd rfl (Or.inl rfl)) (eA (by decide)) ?clen ?csz (fun _ _=> trivial) ?celt) ?_)
 case clen=> rw [bG]; unfold knd; simp
 case csz=> rw [bG]; exact Nat.le_of_lt (cB (by decide))
 case celt=>
  intro C s' H' fp i x y hx hy
  obtain ⟨hi,rfl⟩:=dg hx
  have ey:y=.bl (decide (0+(i:Int)=(j:Int)) || decide (0+(i:Int)=3)):=by
   have hi13:i < 13:=hi
   unfold knd at hy
   rw [List.getElem?_map,List.getElem?_range hi13] at hy
   cases hy; rfl
  rw [ey]
  exact (qh (cH (lM (i6 hr) (by walk_at "ok") (by walk_at "ok")) (aa 1 rfl) (aa 0 rfl)) (fun hz=> (cN (cH aG (aa 1 rfl) ag))))
 exact rfl
theorem cu:bootBuiltins "ValueError"=some (.type "ValueError"):=by decide+kernel
def clN (N Q C:Addr):Nat→Addr
 | 0=> N
 | 1=> Q
 | _=> C
def ans (N Q C:Addr) (o:Out):Option Nat→Prop
 | none=> ∀ c,o≠.exc c
 | some j=> j < 3∧o=.exc (clN N Q C j)
def dm (N Q C:Addr):List U→Out→Prop:=fun us o=> ∃ (way:Nat) (u v p:P2) (r:Option Nat) (o':Out),us=[.int way,pu u,pu v,pu p]∧((way=0∧fk N C [pu u,pu v] o')∨(way=1∧fR N C [pu u,pu v] o')∨(way=2∧du N Q C [pu u,pu v,pu p] o'))∧ans N Q C o' r∧o=.val (.lst (knd r))
set_option maxHeartbeats 8000000 in
theorem bF (T:Txt K mg):aS P w K mg base (CXF P w) 9 T.a__law_refused T.d__law_refused ["way","u","v","P"] (spU K (dm T.c_NoWedge T.c_NotThere T.c_TooMany)):=by
 refine aU T.F__law_refused ak (by rintro us o ⟨_,_,_,_,_,_,rfl,_⟩; rfl) (fun cdv A outer s H E O us o hr h=> ?_)
 refine Ws.nox ?_
 obtain ⟨way,u,v,p,r,o',rfl,hw,ha,rfl⟩:=h
 refine af (ao (i:=4) ak.nd rfl (Or.inl rfl) (EvN.ev (aO aB)) ?_)
 match r,ha with
 | none,ha=>
  rcases hw with ⟨rfl,hs⟩ | ⟨rfl,hs⟩ | ⟨rfl,hs⟩
  ·refine af (eI rfl rfl rfl T.mx_StakeError T.ty_StakeError T.bx_StakeError ak.nd (i:=5) rfl rfl (dj (by rw [← (show decide ((((0:Nat):Int))=0)=true from rfl)]; exact (az aG (aa 0 rfl) ag)) (nX ((cR T).mono (by decide)) hr rfl T.m_least T.F_least.kp T.b_least (ac (aa 1 rfl) (ac (aa 2 rfl) aj ae) ae) (o:=o') hs ha (gf (cK (by rw [← (show decide ((((0:Nat):Int))=1)=false from rfl)]; exact (az aG (aa 0 rfl) ag)) (cK (by rw [← (show decide ((((0:Nat):Int))=2)=false from rfl)]; exact (az aG (aa 0 rfl) ag)) (gf ?_)))))))
   refine af (aA (aa 4 rfl) ?_)
   exact rfl
  ·refine af (eI rfl rfl rfl T.mx_StakeError T.ty_StakeError T.bx_StakeError ak.nd (i:=5) rfl rfl (cK (by rw [← (show decide ((((1:Nat):Int))=0)=false from rfl)]; exact (az aG (aa 0 rfl) ag)) (dj (by rw [← (show decide ((((1:Nat):Int))=1)=true from rfl)]; exact (az aG (aa 0 rfl) ag)) (nX ((ck T).mono (by decide)) hr rfl T.m_turns T.F_turns.kp T.b_turns (ac (aa 1 rfl) (ac (aa 2 rfl) aj ae) ae) (o:=o') hs ha (gf (cK (by rw [← (show decide ((((1:Nat):Int))=2)=false from rfl)]; exact (az aG (aa 0 rfl) ag)) (gf ?_)))))))
   refine af (aA (aa 4 rfl) ?_)
   exact rfl
  ·refine af (eI rfl rfl rfl T.mx_StakeError T.ty_StakeError T.bx_StakeError ak.nd (i:=5) rfl rfl (cK (by rw [← (show decide ((((2:Nat):Int))=0)=false from rfl)]; exact (az aG (aa 0 rfl) ag)) (cK (by rw [← (show decide ((((2:Nat):Int))=1)=false from rfl)]; exact (az aG (aa 0 rfl) ag)) (dj (by rw [← (show decide ((((2:Nat):Int))=2)=true from rfl)]; exact (az aG (aa 0 rfl) ag)) (nX ((cX T).mono (by decide)) hr rfl T.m_spread T.F_spread.kp T.b_spread (ac (aa 1 rfl) (ac (aa 2 rfl) (ac (aa 3 rfl) aj ae) ae) ae) (o:=o') hs ha (gf (gf ?_)))))))
   refine af (aA (aa 4 rfl) ?_)
   exact rfl
 | some 0,ha=>
  obtain ⟨_,rfl⟩:=ha
  refine af (eI rfl rfl rfl T.mx_StakeError T.ty_StakeError T.bx_StakeError ak.nd (i:=5) rfl rfl (lf (C:=T.c_NoWedge) ⟨T.sub_NoWedge_StakeError,T.xc_NoWedge,fun ea=> ?hh⟩ (fun hx=> ?bb)))
  case bb=>
   rcases hw with ⟨rfl,hs⟩ | ⟨rfl,hs⟩ | ⟨rfl,hs⟩
   ·exact (dj (by rw [← (show decide ((((0:Nat):Int))=0)=true from rfl)]; exact (az aG (aa 0 rfl) ag)) (gS ((cR T).mono (by decide)) hr rfl T.m_least T.F_least.kp T.b_least (ac (aa 1 rfl) (ac (aa 2 rfl) aj ae) ae) hs hx))
   ·exact (cK (by rw [← (show decide ((((1:Nat):Int))=0)=false from rfl)]; exact (az aG (aa 0 rfl) ag)) (dj (by rw [← (show decide ((((1:Nat):Int))=1)=true from rfl)]; exact (az aG (aa 0 rfl) ag)) (gS ((ck T).mono (by decide)) hr rfl T.m_turns T.F_turns.kp T.b_turns (ac (aa 1 rfl) (ac (aa 2 rfl) aj ae) ae) hs hx)))
   ·exact (cK (by rw [← (show decide ((((2:Nat):Int))=0)=false from rfl)]; exact (az aG (aa 0 rfl) ag)) (cK (by rw [← (show decide ((((2:Nat):Int))=1)=false from rfl)]; exact (az aG (aa 0 rfl) ag)) (dj (by rw [← (show decide ((((2:Nat):Int))=2)=true from rfl)]; exact (az aG (aa 0 rfl) ag)) (gS ((cX T).mono (by decide)) hr rfl T.m_spread T.F_spread.kp T.b_spread (ac (aa 1 rfl) (ac (aa 2 rfl) (ac (aa 3 rfl) aj ae) ae) ae) hs hx))))
  case hh=>
   refine af (ao (i:=4) ak.nd rfl (Or.inl rfl) (EvN.ev (aO (ai (aT T.kit_NoWedge_NoWedge rfl T.z_isinstance boot_isinstance (aa 5 rfl) rfl T.mx_NoWedge) (ai (aT T.kit_NoWedge_NotThere rfl T.z_isinstance boot_isinstance (aa 5 rfl) rfl T.mx_NotThere) (ai (aT T.kit_NoWedge_TooMany rfl T.z_isinstance boot_isinstance (aa 5 rfl) rfl T.mx_TooMany) (ai (aw (eJ T.kit_NoWedge_ValueError) rfl T.z_isinstance boot_isinstance (ac (aa 5 rfl) (ac (bZ rfl T.z_ValueError cu) aj ae) ae)) aB ax) ax) ax) ax))) ?_)
   refine af (ao (i:=4) ak.nd rfl (Or.inl rfl) (EvN.ev (dP (aa 4 rfl) (EvN.ev (aO (ai (aT T.kit_NoWedge_NoNumber rfl T.z_isinstance boot_isinstance (aa 5 rfl) rfl T.mx_NoNumber) (ai (aT T.kit_NoWedge_NoMove rfl T.z_isinstance boot_isinstance (aa 5 rfl) rfl T.mx_NoMove) (ai (aT T.kit_NoWedge_NoField rfl T.z_isinstance boot_isinstance (aa 5 rfl) rfl T.mx_NoField) (ai (aT T.kit_NoWedge_Flat rfl T.z_isinstance boot_isinstance (aa 5 rfl) rfl T.mx_Flat) aB ax) ax) ax) ax))) (by walk_at "len"))) ?_)
   refine af (ao (i:=4) ak.nd rfl (Or.inl rfl) (EvN.ev (dP (aa 4 rfl) (EvN.ev (aO (ai (aT T.kit_NoWedge_NoHeart rfl T.z_isinstance boot_isinstance (aa 5 rfl) rfl T.mx_NoHeart) (ai (aT T.kit_NoWedge_NoText rfl T.z_isinstance boot_isinstance (aa 5 rfl) rfl T.mx_NoText) (ai (aT T.kit_NoWedge_NoName rfl T.z_isinstance boot_isinstance (aa 5 rfl) rfl T.mx_NoName) aB ax) ax) ax))) (by walk_at "len"))) ?_)
   refine af (ao (i:=4) ak.nd rfl (Or.inl rfl) (EvN.ev (dP (aa 4 rfl) (EvN.ev (aO (ai (aT T.kit_NoWedge_NoRow rfl T.z_isinstance boot_isinstance (aa 5 rfl) rfl T.mx_NoRow) (ai (aT T.kit_NoWedge_TooGreat rfl T.z_isinstance boot_isinstance (aa 5 rfl) rfl T.mx_TooGreat) aB ax) ax))) (by walk_at "len"))) (aI ?_))
   show Ws _ _ _ _ _ _ [some (.val (.int way)),some (.val (pu u)),some (.val (pu v)),some (.val (pu p)),some (.val (.lst (knd (some 0)))),none]
   refine af (aA (aa 4 rfl) ?_)
   exact rfl
 | some 1,ha=>
  obtain ⟨_,rfl⟩:=ha
  refine af (eI rfl rfl rfl T.mx_StakeError T.ty_StakeError T.bx_StakeError ak.nd (i:=5) rfl rfl (lf (C:=T.c_NotThere) ⟨T.sub_NotThere_StakeError,T.xc_NotThere,fun ea=> ?hh⟩ (fun hx=> ?bb)))
  case bb=>
   rcases hw with ⟨rfl,hs⟩ | ⟨rfl,hs⟩ | ⟨rfl,hs⟩
   ·exact (dj (by rw [← (show decide ((((0:Nat):Int))=0)=true from rfl)]; exact (az aG (aa 0 rfl) ag)) (gS ((cR T).mono (by decide)) hr rfl T.m_least T.F_least.kp T.b_least (ac (aa 1 rfl) (ac (aa 2 rfl) aj ae) ae) hs hx))
   ·exact (cK (by rw [← (show decide ((((1:Nat):Int))=0)=false from rfl)]; exact (az aG (aa 0 rfl) ag)) (dj (by rw [← (show decide ((((1:Nat):Int))=1)=true from rfl)]; exact (az aG (aa 0 rfl) ag)) (gS ((ck T).mono (by decide)) hr rfl T.m_turns T.F_turns.kp T.b_turns (ac (aa 1 rfl) (ac (aa 2 rfl) aj ae) ae) hs hx)))
   ·exact (cK (by rw [← (show decide ((((2:Nat):Int))=0)=false from rfl)]; exact (az aG (aa 0 rfl) ag)) (cK (by rw [← (show decide ((((2:Nat):Int))=1)=false from rfl)]; exact (az aG (aa 0 rfl) ag)) (dj (by rw [← (show decide ((((2:Nat):Int))=2)=true from rfl)]; exact (az aG (aa 0 rfl) ag)) (gS ((cX T).mono (by decide)) hr rfl T.m_spread T.F_spread.kp T.b_spread (ac (aa 1 rfl) (ac (aa 2 rfl) (ac (aa 3 rfl) aj ae) ae) ae) hs hx))))
  case hh=>
   refine af (ao (i:=4) ak.nd rfl (Or.inl rfl) (EvN.ev (aO (ai (aT T.kit_NotThere_NoWedge rfl T.z_isinstance boot_isinstance (aa 5 rfl) rfl T.mx_NoWedge) (ai (aT T.kit_NotThere_NotThere rfl T.z_isinstance boot_isinstance (aa 5 rfl) rfl T.mx_NotThere) (ai (aT T.kit_NotThere_TooMany rfl T.z_isinstance boot_isinstance (aa 5 rfl) rfl T.mx_TooMany) (ai (aw (eJ T.kit_NotThere_ValueError) rfl T.z_isinstance boot_isinstance (ac (aa 5 rfl) (ac (bZ rfl T.z_ValueError cu) aj ae) ae)) aB ax) ax) ax) ax))) ?_)
   refine af (ao (i:=4) ak.nd rfl (Or.inl rfl) (EvN.ev (dP (aa 4 rfl) (EvN.ev (aO (ai (aT T.kit_NotThere_NoNumber rfl T.z_isinstance boot_isinstance (aa 5 rfl) rfl T.mx_NoNumber) (ai (aT T.kit_NotThere_NoMove rfl T.z_isinstance boot_isinstance (aa 5 rfl) rfl T.mx_NoMove) (ai (aT T.kit_NotThere_NoField rfl T.z_isinstance boot_isinstance (aa 5 rfl) rfl T.mx_NoField) (ai (aT T.kit_NotThere_Flat rfl T.z_isinstance boot_isinstance (aa 5 rfl) rfl T.mx_Flat) aB ax) ax) ax) ax))) (by walk_at "len"))) ?_)
   refine af (ao (i:=4) ak.nd rfl (Or.inl rfl) (EvN.ev (dP (aa 4 rfl) (EvN.ev (aO (ai (aT T.kit_NotThere_NoHeart rfl T.z_isinstance boot_isinstance (aa 5 rfl) rfl T.mx_NoHeart) (ai (aT T.kit_NotThere_NoText rfl T.z_isinstance boot_isinstance (aa 5 rfl) rfl T.mx_NoText) (ai (aT T.kit_NotThere_NoName rfl T.z_isinstance boot_isinstance (aa 5 rfl) rfl T.mx_NoName) aB ax) ax) ax))) (by walk_at "len"))) ?_)
   refine af (ao (i:=4) ak.nd rfl (Or.inl rfl) (EvN.ev (dP (aa 4 rfl) (EvN.ev (aO (ai (aT T.kit_NotThere_NoRow rfl T.z_isinstance boot_isinstance (aa 5 rfl) rfl T.mx_NoRow) (ai (aT T.kit_NotThere_TooGreat rfl T.z_isinstance boot_isinstance (aa 5 rfl) rfl T.mx_TooGreat) aB ax) ax))) (by walk_at "len"))) (aI ?_))
   show Ws _ _ _ _ _ _ [some (.val (.int way)),some (.val (pu u)),some (.val (pu v)),some (.val (pu p)),some (.val (.lst (knd (some 1)))),none]
   refine af (aA (aa 4 rfl) ?_)
   exact rfl
 | some 2,ha=>
  obtain ⟨_,rfl⟩:=ha
  refine af (eI rfl rfl rfl T.mx_StakeError T.ty_StakeError T.bx_StakeError ak.nd (i:=5) rfl rfl (lf (C:=T.c_TooMany) ⟨T.sub_TooMany_StakeError,T.xc_TooMany,fun ea=> ?hh⟩ (fun hx=> ?bb)))
  case bb=>
   rcases hw with ⟨rfl,hs⟩ | ⟨rfl,hs⟩ | ⟨rfl,hs⟩
   ·exact (dj (by rw [← (show decide ((((0:Nat):Int))=0)=true from rfl)]; exact (az aG (aa 0 rfl) ag)) (gS ((cR T).mono (by decide)) hr rfl T.m_least T.F_least.kp T.b_least (ac (aa 1 rfl) (ac (aa 2 rfl) aj ae) ae) hs hx))
   ·exact (cK (by rw [← (show decide ((((1:Nat):Int))=0)=false from rfl)]; exact (az aG (aa 0 rfl) ag)) (dj (by rw [← (show decide ((((1:Nat):Int))=1)=true from rfl)]; exact (az aG (aa 0 rfl) ag)) (gS ((ck T).mono (by decide)) hr rfl T.m_turns T.F_turns.kp T.b_turns (ac (aa 1 rfl) (ac (aa 2 rfl) aj ae) ae) hs hx)))
   ·exact (cK (by rw [← (show decide ((((2:Nat):Int))=0)=false from rfl)]; exact (az aG (aa 0 rfl) ag)) (cK (by rw [← (show decide ((((2:Nat):Int))=1)=false from rfl)]; exact (az aG (aa 0 rfl) ag)) (dj (by rw [← (show decide ((((2:Nat):Int))=2)=true from rfl)]; exact (az aG (aa 0 rfl) ag)) (gS ((cX T).mono (by decide)) hr rfl T.m_spread T.F_spread.kp T.b_spread (ac (aa 1 rfl) (ac (aa 2 rfl) (ac (aa 3 rfl) aj ae) ae) ae) hs hx))))
  case hh=>
   refine af (ao (i:=4) ak.nd rfl (Or.inl rfl) (EvN.ev (aO (ai (aT T.kit_TooMany_NoWedge rfl T.z_isinstance boot_isinstance (aa 5 rfl) rfl T.mx_NoWedge) (ai (aT T.kit_TooMany_NotThere rfl T.z_isinstance boot_isinstance (aa 5 rfl) rfl T.mx_NotThere) (ai (aT T.kit_TooMany_TooMany rfl T.z_isinstance boot_isinstance (aa 5 rfl) rfl T.mx_TooMany) (ai (aw (eJ T.kit_TooMany_ValueError) rfl T.z_isinstance boot_isinstance (ac (aa 5 rfl) (ac (bZ rfl T.z_ValueError cu) aj ae) ae)) aB ax) ax) ax) ax))) ?_)
   refine af (ao (i:=4) ak.nd rfl (Or.inl rfl) (EvN.ev (dP (aa 4 rfl) (EvN.ev (aO (ai (aT T.kit_TooMany_NoNumber rfl T.z_isinstance boot_isinstance (aa 5 rfl) rfl T.mx_NoNumber) (ai (aT T.kit_TooMany_NoMove rfl T.z_isinstance boot_isinstance (aa 5 rfl) rfl T.mx_NoMove) (ai (aT T.kit_TooMany_NoField rfl T.z_isinstance boot_isinstance (aa 5 rfl) rfl T.mx_NoField) (ai (aT T.kit_TooMany_Flat rfl T.z_isinstance boot_isinstance (aa 5 rfl) rfl T.mx_Flat) aB ax) ax) ax) ax))) (by walk_at "len"))) ?_)
   refine af (ao (i:=4) ak.nd rfl (Or.inl rfl) (EvN.ev (dP (aa 4 rfl) (EvN.ev (aO (ai (aT T.kit_TooMany_NoHeart rfl T.z_isinstance boot_isinstance (aa 5 rfl) rfl T.mx_NoHeart) (ai (aT T.kit_TooMany_NoText rfl T.z_isinstance boot_isinstance (aa 5 rfl) rfl T.mx_NoText) (ai (aT T.kit_TooMany_NoName rfl T.z_isinstance boot_isinstance (aa 5 rfl) rfl T.mx_NoName) aB ax) ax) ax))) (by walk_at "len"))) ?_)
   refine af (ao (i:=4) ak.nd rfl (Or.inl rfl) (EvN.ev (dP (aa 4 rfl) (EvN.ev (aO (ai (aT T.kit_TooMany_NoRow rfl T.z_isinstance boot_isinstance (aa 5 rfl) rfl T.mx_NoRow) (ai (aT T.kit_TooMany_TooGreat rfl T.z_isinstance boot_isinstance (aa 5 rfl) rfl T.mx_TooGreat) aB ax) ax))) (by walk_at "len"))) (aI ?_))
   show Ws _ _ _ _ _ _ [some (.val (.int way)),some (.val (pu u)),some (.val (pu v)),some (.val (pu p)),some (.val (.lst (knd (some 2)))),none]
   refine af (aA (aa 4 rfl) ?_)
   exact rfl
 | some (j+3),ha=> exact absurd ha.1 (by omega)
end
section
variable {P:Program} {w:World} {K:PySem.W.Frag} {mg:Str→Option Value} {base:Heap}
def tF (c:Int):Int:=if c / 35 % 2=1 then 2+c * (7 * 10 ^ (19:Int).toNat+48271 * 10 ^ (10:Int).toNat+982451653) % 10 ^ (20:Int).toNat else 2+c / 7 % 5
theorem kT (c:Int):2≤tF c∧Sz 70 (tF c):=by
 unfold tF
 split
 ·have h1:=Int.emod_nonneg (c * (7 * 10 ^ (19:Int).toNat+48271 * 10 ^ (10:Int).toNat+982451653)) (show (10:Int) ^ (20:Int).toNat≠0 by decide+kernel)
  have h2:=Int.emod_lt_of_pos (c * (7 * 10 ^ (19:Int).toNat+48271 * 10 ^ (10:Int).toNat+982451653)) (show (0:Int) < 10 ^ (20:Int).toNat by decide+kernel)
  have z:Sz 69 ((10:Int) ^ (20:Int).toNat):=by decide+kernel
  have s1:Sz 69 (2:Int):=Sz.mono (m:=8) (by decide) (by decide)
  exact ⟨by omega,L2.Sz.add' s1 (z.natle (by omega))⟩
 ·exact ⟨by omega,Sz.mono (m:=12) (by unfold Sz; omega) (by decide)⟩
def brL (u v:P2) (t:Int):List (P2×P2):=[(v,u),((t * u.1,t * u.2),v),(u,(t * v.1,t * v.2)),(u,(0,0)),((0,0),v),(u,(-u.1,-u.2)),(u,u)]
def brF (u v:P2) (c:Int):P2×P2:=(brL u v (tF c)).getD (c % 7).toNat ((0,0),(0,0))
theorem gG (u v:P2) (c:Int):brF u v c∈brL u v (tF c)∧(brL u v (tF c))[(c % 7).toNat]?=some (brF u v c):=by
 have hi:(c % 7).toNat < (brL u v (tF c)).length:=by show _ < 7; omega
 unfold brF
 rw [List.getD_eq_getElem?_getD,List.getElem?_eq_getElem hi]
 exact ⟨List.getElem_mem hi,rfl⟩
theorem j0 {u v:P2} (h:¬ (Int.gcd u.1 u.2=1∧Int.gcd v.1 v.2=1∧0 < dd u v)):wdg u v=false:=by
 cases e:wdg u v with
 | false=> rfl
 | true=>
  unfold wdg at e
  simp only [Bool.and_eq_true,decide_eq_true_eq] at e
  exact absurd ⟨by omega,by omega,e.2.2⟩ h
theorem kS {u v:P2} (h:wdg u v=true):Int.gcd u.1 u.2=1∧Int.gcd v.1 v.2=1∧0 < dd u v:=by
 unfold wdg at h
 simp only [Bool.and_eq_true,decide_eq_true_eq] at h
 exact ⟨by omega,by omega,h.2.2⟩
theorem kJ {t a b:Int} (ht:2≤t):Int.gcd (t * a) (t * b)≠1:=fun e=> by
 rw [Int.gcd_mul_left] at e
 have:=Nat.eq_one_of_mul_eq_one_right e
 omega
theorem pS {u v:P2} (h:wdg u v=true) (c:Int):wdg (brF u v c).1 (brF u v c).2=false:=by
 obtain ⟨t2,_⟩:=kT c
 obtain ⟨hu,hv,hd⟩:=kS h
 have m:=(gG u v c).1
 generalize brF u v c=z at *
 generalize tF c=t at *
 unfold brL at m
 simp only [List.mem_cons,List.not_mem_nil,or_false] at m
 refine j0 fun ⟨k1,k2,k3⟩=> ?_
 rcases m with e | e | e | e | e | e | e <;> subst e <;> dsimp only at k1 k2 k3
 ·rw [mP] at k3; omega
 ·exact kJ t2 k1
 ·exact kJ t2 k2
 ·simp at k2
 ·simp at k1
 ·unfold dd at k3; dsimp only at k3; grind
 ·rw [l_] at k3; omega
theorem pe {u v:P2} (su:Szp 190 u) (sv:Szp 700 v) (c:Int):Szp 800 (brF u v c).1∧Szp 800 (brF u v c).2:=by
 obtain ⟨_,st⟩:=kT c
 have m:=(gG u v c).1
 generalize brF u v c=z at *
 generalize tF c=t at *
 have o0:Sz 800 (0:Int):=Sz.mono (m:=8) (by decide) (by decide)
 have u8:Szp 800 u:=su.mono (by decide)
 have v8:Szp 800 v:=sv.mono (by decide)
 unfold brL at m
 simp only [List.mem_cons,List.not_mem_nil,or_false] at m
 rcases m with e | e | e | e | e | e | e <;> subst e
 ·exact ⟨v8,u8⟩
 ·exact ⟨⟨(L2.Sz.mul st su.1).mono (by decide),(L2.Sz.mul st su.2).mono (by decide)⟩,v8⟩
 ·exact ⟨u8,⟨(L2.Sz.mul st sv.1).mono (by decide),(L2.Sz.mul st sv.2).mono (by decide)⟩⟩
 ·exact ⟨u8,⟨o0,o0⟩⟩
 ·exact ⟨⟨o0,o0⟩,v8⟩
 ·exact ⟨u8,⟨(L2.Sz.neg su.1).mono (by decide),(L2.Sz.neg su.2).mono (by decide)⟩⟩
 ·exact ⟨u8,u8⟩
abbrev pl2 (z:P2×P2):U:=.lst [pu z.1,pu z.2]
def gh:List U→Out→Prop:=fun us o=> ∃ (u v:P2) (c:Int),us=[pu u,pu v,.int c]∧Szp 190 u∧Szp 700 v∧Sz 100 c∧o=.val (pl2 (brF u v c))
set_option maxHeartbeats 8000000 in
theorem gA (T:Txt K mg):aS P w K mg base (CXF P w) 1 T.a__law_bare T.d__law_bare ["u","v","cell"] (spU K (gh)):=by
 refine aU T.F__law_bare cy (fun us o h=> ?_) (fun cdv A outer s H E O us o hr h=> ?_)
 ·obtain ⟨u,v,c,rfl,⟨u1,u2⟩,⟨v1,v2⟩,cz,rfl⟩:=h
  rfl
 obtain ⟨u,v,c,rfl,⟨u1,u2⟩,⟨v1,v2⟩,cz,rfl⟩:=h
 refine Ws.nox ?_
 obtain ⟨_,mg'⟩:=gG u v c
 have st:=(kT c).2
 have fin:∀ ps,SubP [some (.val (pu u)),some (.val (pu v)),some (.val (.int c)),some (.val (.int (tF c))),none] ps→SubP [some (.val (pu u)),some (.val (pu v)),some (.val (.int c)),some (.val (.int (tF c))),none] ps:=fun ps h=> h
 refine af (ao (i:=3) cy.nd rfl (Or.inl rfl) (aV ag (bh (cF (aa 2 rfl) ag (by walk_at "div")) ag (by walk_at "mod"))) ?_)
 refine iI (fun ps=> SubP [some (.val (pu u)),some (.val (pu v)),some (.val (.int c)),some (.val (.int (tF c))),none] ps) (fD (az aG (bh (cF (aa 2 rfl) ag (by walk_at "div")) ag (by walk_at "mod")) ag) (fun hT=> ?_) (fun hF=> (aI ?_))) ?hj
 ·have e:tF c=2+c * (7 * 10 ^ (19:Int).toNat+48271 * 10 ^ (10:Int).toNat+982451653) % 10 ^ (20:Int).toNat:=by unfold tF; rw [if_pos (dTb hT)]
  refine af (ao (i:=3) cy.nd rfl (Or.inl rfl) (aV ag (bh (ar (aa 2 rfl) (aV (aV (ar ag (cL ag ag ⟨by decide,by decide,by decide⟩) (by walk_at "mul")) (ar ag (cL ag ag ⟨by decide,by decide,by decide⟩) (by walk_at "mul"))) ag) (by walk_at "mul")) (cL ag ag ⟨by decide,by decide,by decide⟩) (by decide+kernel))) (aI ?_))
  rw [e]
  exact ⟨rfl,rfl,rfl,rfl,trivial⟩
 ·have e:tF c=2+c / 7 % 5:=by unfold tF; rw [if_neg (dFb hF)]
  rw [e]
  exact ⟨rfl,rfl,rfl,rfl,trivial⟩
 case hj=>
  intro ps hps
  refine dO ?_ hps
  refine af (ao (i:=4) cy.nd rfl (Or.inl rfl) (EvN.ev (aO (ai (EvN.ev (aO (ai (aa 1 rfl) (ai (aa 0 rfl) aB ae) ae))) (ai (EvN.ev (aO (ai (aZ (ai (ar (aa 3 rfl) (am (aa 0 rfl) ag rfl rfl) (by walk_at "mul")) (ai (ar (aa 3 rfl) (am (aa 0 rfl) ag rfl rfl) (by walk_at "mul")) aB aM) aM)) (ai (aa 1 rfl) aB ae) cJ))) (ai (EvN.ev (aO (ai (aa 0 rfl) (ai (aZ (ai (ar (aa 3 rfl) (am (aa 1 rfl) ag rfl rfl) (by walk_at "mul")) (ai (ar (aa 3 rfl) (am (aa 1 rfl) ag rfl rfl) (by walk_at "mul")) aB aM) aM)) aB cJ) ae))) (ai (EvN.ev (aO (ai (aa 0 rfl) (ai (aZ (ai ag (ai ag aB aX) aX)) aB cJ) ae))) (ai (EvN.ev (aO (ai (aZ (ai ag (ai ag aB aX) aX)) (ai (aa 1 rfl) aB ae) cJ))) aB d0) d0) d0) d0) d0))) ?_)
  have e7:atI ([pl2 (v,u),pl2 ((tF c * u.1,tF c * u.2),v),pl2 (u,(tF c * v.1,tF c * v.2)),pl2 (u,(0,0)),pl2 ((0,0),v)]++[pl2 (u,(-u.1,-u.2)),pl2 (u,u)]) (c % 7)=some (pl2 (brF u v c)):=g9 (i:=(c % 7).toNat) (by omega) (by
   show ((brL u v (tF c)).map pl2)[(c % 7).toNat]?=_
   rw [List.getElem?_map,mg']; rfl)
  show Ws _ _ _ _ _ _ [some (.val (pu u)),some (.val (pu v)),some (.val (.int c)),some (.val (.int (tF c))),some (.val (.lst [pl2 (v,u),pl2 ((tF c * u.1,tF c * u.2),v),pl2 (u,(tF c * v.1,tF c * v.2)),pl2 (u,(0,0)),pl2 ((0,0),v)]))]
  refine af (aA (am (EvN.ev (dP (aa 4 rfl) (EvN.ev (aO (ai (EvN.ev (aO (ai (aa 0 rfl) (ai (aZ (ai (bA (am (aa 0 rfl) ag rfl rfl)) (ai (bA (am (aa 0 rfl) ag rfl rfl)) aB dS) dS)) aB cJ) ae))) (ai (EvN.ev (aO (ai (aa 0 rfl) (ai (aa 0 rfl) aB ae) ae))) aB d0) d0))) (show 5+2≤sizeLine by decide))) (bh (aa 2 rfl) ag (by walk_at "mod")) rfl e7) ?_)
  exact rfl
def tmF (c:Int):Int:=if c % 5=0 then c * (7 * 10 ^ (19:Int).toNat+48271 * 10 ^ (10:Int).toNat+982451653) % (2 * 10 ^ (20:Int).toNat+1) - 10 ^ (20:Int).toNat else c / 5 % 7 - 3
theorem eE (c:Int):Sz 70 (tmF c):=by
 unfold tmF
 split
 ·exact pf (by decide+kernel) (by decide+kernel)
 ·exact Sz.mono (m:=12) (by unfold Sz; omega) (by decide)
def iP:List U→Out→Prop:=fun us o=> ∃ c:Int,us=[.int c]∧Sz 1100000 c∧o=.val (.int (tmF c))
set_option maxHeartbeats 8000000 in
theorem cP (T:Txt K mg):aS P w K mg base (CXF P w) 1 T.a__law_times T.d__law_times ["cell"] (spU K (iP)):=by
 refine aU T.F__law_times fT (fun us o h=> ?_) (fun cdv A outer s H E O us o hr h=> ?_)
 ·obtain ⟨c,rfl,cz,rfl⟩:=h
  rfl
 obtain ⟨c,rfl,cz,rfl⟩:=h
 refine Ws.nox ?_
 by_cases h:c % 5=0
 ·refine af (bW (az aG (bh (aa 0 rfl) ag (by walk_at "mod")) ag) (decide_eq_true h) ?_)
  refine af (aA (aY (bh (ar (aa 0 rfl) (aV (aV (ar ag (cL ag ag ⟨by decide,by decide,by decide⟩) (by walk_at "mul")) (ar ag (cL ag ag ⟨by decide,by decide,by decide⟩) (by walk_at "mul"))) ag) (by walk_at "mul")) (aV (ar ag (cL ag ag ⟨by decide,by decide,by decide⟩) (by walk_at "mul")) ag) (by decide+kernel)) (cL ag ag ⟨by decide,by decide,by decide⟩)) ?_)
  exact vIO (by unfold tmF; rw [if_pos h])
 ·refine af (bP (az aG (bh (aa 0 rfl) ag (by walk_at "mod")) ag) (decide_eq_false h) (aI ?_))
  refine af (aA (aY (bh (cF (aa 0 rfl) ag (by walk_at "div")) ag (by walk_at "mod")) ag) ?_)
  exact vIO (by unfold tmF; rw [if_neg h])
def spF (u w v:P2) (c:Int):P2:=(tmF c * u.1+tmF (c / 35) * v.1+tmF (c / 1225) * w.1,tmF c * u.2+tmF (c / 35) * v.2+tmF (c / 1225) * w.2)
theorem nP {u w v:P2} (c:Int) (su:Szp 190 u) (sw:Szp 190 w) (sv:Szp 700 v):Szp 800 (spF u w v c):=by
 have t1:=eE c
 have t2:=eE (c / 35)
 have t3:=eE (c / 1225)
 unfold spF
 exact ⟨(L2.Sz.add' (L2.Sz.add' (L2.Sz.mul t1 su.1) (L2.Sz.mul t2 sv.1)) (L2.Sz.mul t3 sw.1)).mono (by decide),(L2.Sz.add' (L2.Sz.add' (L2.Sz.mul t1 su.2) (L2.Sz.mul t2 sv.2)) (L2.Sz.mul t3 sw.2)).mono (by decide)⟩
def jW:List U→Out→Prop:=fun us o=> ∃ (u w v:P2) (c:Int),us=[pu u,pu w,pu v,.int c]∧Szp 190 u∧Szp 190 w∧Szp 700 v∧Sz 1100000 c∧o=.val (pu (spF u w v c))
set_option maxHeartbeats 8000000 in
theorem g4 (T:Txt K mg):aS P w K mg base (CXF P w) 2 T.a__law_spot T.d__law_spot ["u","w","v","cell"] (spU K (jW)):=by
 refine aU T.F__law_spot bX (fun us o h=> ?_) (fun cdv A outer s H E O us o hr h=> ?_)
 ·obtain ⟨u,w,v,c,rfl,⟨u1,u2⟩,⟨w1,w2⟩,⟨v1,v2⟩,cz,rfl⟩:=h
  rfl
 obtain ⟨u,w,v,c,rfl,⟨u1,u2⟩,⟨w1,w2⟩,⟨v1,v2⟩,cz,rfl⟩:=h
 refine Ws.nox ?_
 refine af (ao (i:=4) bX.nd rfl (Or.inl rfl) (al ((cP T).mono (by decide)) hr rfl T.m__law_times T.F__law_times.kp T.b__law_times ap (ac (aa 3 rfl) aj ae) ⟨_,rfl,cz,rfl⟩) ?_)
 refine af (ao (i:=5) bX.nd rfl (Or.inl rfl) (al ((cP T).mono (by decide)) hr rfl T.m__law_times T.F__law_times.kp T.b__law_times ap (ac (cF (aa 3 rfl) ag (by walk_at "div")) aj aM) ⟨_,rfl,cz.ediv,rfl⟩) ?_)
 refine af (ao (i:=6) bX.nd rfl (Or.inl rfl) (al ((cP T).mono (by decide)) hr rfl T.m__law_times T.F__law_times.kp T.b__law_times ap (ac (cF (aa 3 rfl) ag (by walk_at "div")) aj aM) ⟨_,rfl,cz.ediv,rfl⟩) ?_)
 have t1:=eE c
 have t2:=eE (c / 35)
 have t3:=eE (c / 1225)
 refine af (ao (i:=7) bX.nd rfl (Or.inl rfl) (aV (aV (ar (aa 4 rfl) (am (aa 0 rfl) ag rfl rfl) (by walk_at "mul")) (ar (aa 5 rfl) (am (aa 2 rfl) ag rfl rfl) (by walk_at "mul"))) (ar (aa 6 rfl) (am (aa 1 rfl) ag rfl rfl) (by walk_at "mul"))) ?_)
 refine af (aA (aZ (ai (aa 7 rfl) (ai (aV (aV (ar (aa 4 rfl) (am (aa 0 rfl) ag rfl rfl) (by walk_at "mul")) (ar (aa 5 rfl) (am (aa 2 rfl) ag rfl rfl) (by walk_at "mul"))) (ar (aa 6 rfl) (am (aa 1 rfl) ag rfl rfl) (by walk_at "mul"))) aB aM) ae)) ?_)
 exact rfl
end
section
variable {P:Program} {w:World} {K:PySem.W.Frag} {mg:Str→Option Value} {base:Heap}
abbrev sxs (l:List (P2×Int)):Int:=(l.map fun a=> a.1.1 * a.2).sum
abbrev sys (l:List (P2×Int)):Int:=(l.map fun a=> a.1.2 * a.2).sum
theorem kg {l:List (P2×Int)}:∀ x∈l.map pq,∃ us,x=.tup us∧us.length=[1,2].length:=fun x hx=> by
 obtain ⟨a,_,rfl⟩:=List.mem_map.mp hx
 exact ⟨_,rfl,rfl⟩
theorem jD {P a c:P2} (h:dd a c=1) (h1:0≤dd a P) (h2:0≤dd P c):(sxs (i9 P a c),sys (i9 P a c))=P:=by
 have e:=lF (P:=P) h
 unfold i9
 generalize dd P c=α at *
 generalize dd a P=β at *
 by_cases a1:0 < α
 ·by_cases b1:0 < β
  ·simp [a1,b1,sxs,sys]; exact e
  ·have z:β=0:=by omega
   subst z
   simp [a1,sxs,sys]; simpa using e
 ·have z:α=0:=by omega
  subst z
  by_cases b1:0 < β
  ·simp [b1,sxs,sys]; simpa using e
  ·have z:β=0:=by omega
   subst z
   simp [sxs,sys]; simpa using e
theorem fZ (N Q C:Addr) {u w v p:P2} {n:Nat} {odd:Bool} (W:Wg u w v n odd) (hn:n≤100) (sp:Szp 800 p) (h1:0≤dd u p) (h2:0≤dd p v):∃ F:List (P2×Int),du N Q C [pu u,pu v,pu p] (.new (F.map pq))∧F.length≤2∧(∀ z∈F,Szp 6000 z.1∧Sz 6000 z.2)∧(sxs F,sys F)=p:=by
 have hv:dL u w (bsF n odd)=v:=W.ev.symm
 have h2b:∀ b∈bsF n odd,2≤b:=fun b hb=> (dX n odd b hb).1
 obtain ⟨pre,a,c,r,e,k1,k2,k3⟩:=kh (P:=p) (row:=pts u w (bsF n odd)) (u:=u) (v:=v) (by rw [ez]; omega) (by obtain ⟨t,et⟩:=dF (bsF n odd) u w W.uw; rw [et]; rfl) (by rw [List.getLast?_eq_getElem?,ez,← hv]; exact d6 (bsF n odd) u w) (fun p z x y e=> ix W.uw e) h1 h2
 have hac:=ix W.uw e
 have ma:a∈pts u w (bsF n odd):=by rw [e]; simp
 have mc:c∈pts u w (bsF n odd):=by rw [e]; simp
 refine ⟨i9 p a c,.inl ⟨u,w,v,_,_,bsF n odd,p,rfl,W.wd,by rw [W.lk,if_pos hn],fun b hb=> (dX n odd b hb).2.mono (by decide),W.pz hn,hv,sp.mono (by decide),h1,h2,by rw [k1]⟩,Nat.le_trans (List.length_filter_le _ _) (by simp),fun z hz=> ?_,jD hac k2 k3⟩
 have hz2:=(List.mem_filter.mp hz).1
 have sa:=W.pz hn a ma
 have sc:=W.pz hn c mc
 simp at hz2
 rcases hz2 with rfl | rfl
 ·exact ⟨Szp.mono sa (by decide),(L2.Sz.sub' (L2.Sz.mul sp.1 sc.2) (L2.Sz.mul sp.2 sc.1)).mono (by decide)⟩
 ·exact ⟨Szp.mono sc (by decide),(L2.Sz.sub' (L2.Sz.mul sa.1 sp.2) (L2.Sz.mul sa.2 sp.1)).mono (by decide)⟩
def i3:List U→Out→Prop:=fun us o=> ∃ (u w v p:P2) (n:Nat) (odd:Bool),us=[pu u,pu v,pu p]∧Wg u w v n odd∧n≤100∧Szp 800 p∧0≤dd u p∧0≤dd p v∧o=.val (.bl true)
set_option maxHeartbeats 8000000 in
theorem dN (T:Txt K mg):aS P w K mg base (CXF P w) 9 T.a__law_spread_good T.d__law_spread_good ["u","v","P"] (spU K (i3)):=by
 refine aU T.F__law_spread_good aD (fun us o h=> ?_) (fun cdv A outer s H E O us o hr h=> ?_)
 ·obtain ⟨u,w,v,p,n,odd,rfl,W,hn,sp,h1,h2,rfl⟩:=h
  rfl
 obtain ⟨u,w,v,p,n,odd,rfl,W,hn,sp,h1,h2,rfl⟩:=h
 refine Ws.nox ?_
 obtain ⟨F,hs,fl,fz,fe⟩:=fZ T.c_NoWedge T.c_NotThere T.c_TooMany W hn sp h1 h2
 refine af (ao (i:=3) aD.nd rfl (Or.inl rfl) (EvN.ev (cv ((cX T).mono (by decide)) hr rfl T.m_spread T.F_spread.kp T.b_spread ap (ac (aa 0 rfl) (ac (aa 1 rfl) (ac (aa 2 rfl) aj ae) ae) ae) hs)) ?_)
 refine af (bP (bC (bD (aw (aC (by intro _ h; cases h) (by walk_at "kit")) rfl T.z_isinstance boot_isinstance (ac (aa 3 rfl) (ac (bZ rfl T.z_list boot_list) aj ae) ae)))) rfl (aI ?_))
 refine af (ao (i:=4) aD.nd rfl (Or.inl rfl) (aw (km rfl ) rfl T.z_sum boot_sum (ac (EvN.ev (g5 (ys:=((F.map fun a=> a.1.1 * a.2).map U.int)) rfl (blk (ah aE) ["u","v","P","found","x","spot","times","y"] [5,6] rfl rfl rfl rfl (by decide+kernel)) (gM (aa 3 rfl) (.inl rfl)) (fun _ _ _ _=> lG rfl (bT (bp (i:=5) aD.nd rfl (Or.inl rfl)) (bT (bp (i:=6) aD.nd rfl (Or.inl rfl)) fg))) (jf (js:=[5,6]) (by decide)) ?clen ?csz ?dom ?celt)) aj gw)) ?_)
 case clen=> simp
 case csz=> rw [List.length_map]; exact Nat.le_of_lt (cB (by omega))
 case dom=> exact kg
 case celt=>
  intro C s' H' fp j x y hx hy
  rw [List.map_map] at hy
  obtain ⟨a,ha,ma,rfl,rfl⟩:=jo hx hy
  have s1:=(fz a ma).1.1
  have s2:=(fz a ma).2
  exact (ar (am (aa 5 rfl) ag rfl rfl) (aa 6 rfl) (by walk_at "mul"))
 refine af (ao (i:=7) aD.nd rfl (Or.inl rfl) (aw (km rfl ) rfl T.z_sum boot_sum (ac (EvN.ev (g5 (ys:=((F.map fun a=> a.1.2 * a.2).map U.int)) rfl (blk (ah aE) ["u","v","P","found","x","spot","times","y"] [5,6] rfl rfl rfl rfl (by decide+kernel)) (gM (aa 3 rfl) (.inl rfl)) (fun _ _ _ _=> lG rfl (bT (bp (i:=5) aD.nd rfl (Or.inl rfl)) (bT (bp (i:=6) aD.nd rfl (Or.inl rfl)) fg))) (jf (js:=[5,6]) (by decide)) ?clen ?csz ?dom ?celt)) aj gw)) ?_)
 case clen=> simp
 case csz=> rw [List.length_map]; exact Nat.le_of_lt (cB (by omega))
 case dom=> exact kg
 case celt=>
  intro C s' H' fp j x y hx hy
  rw [List.map_map] at hy
  obtain ⟨a,ha,ma,rfl,rfl⟩:=jo hx hy
  have s1:=(fz a ma).1.2
  have s2:=(fz a ma).2
  exact (ar (am (aa 5 rfl) ag rfl rfl) (aa 6 rfl) (by walk_at "mul"))
 refine af (aA (cH (lM (i6 hr) (by walk_at "ok") (by walk_at "ok")) (aZ (ai (aa 4 rfl) (ai (aa 7 rfl) aB ae) ae)) (aa 2 rfl)) ?_)
 refine vB ?_
 show eqW (pu (sxs F,sys F)) (pu p)=true
 rw [fe,oy]
 simp
end
section
variable {P:Program} {w:World} {K:PySem.W.Frag} {mg:Str→Option Value} {base:Heap}
theorem bS (r:Option Nat):okU 9 (.lst (knd r))=true:=by
 cases r with
 | none=> rfl
 | some j=> exact ln fun _=> rfl
def rOf (u v p:P2) (n:Nat):Option Nat:=if dd u p < 0∨dd p v < 0 then some 1 else if 100 < n then some 2 else none
theorem oZ (N Q C:Addr) {u w v p:P2} {n:Nat} {odd:Bool} (W:Wg u w v n odd) (sp:Szp 800 p):dm N Q C [.int ((2:Nat):Int),pu u,pu v,pu p] (.val (.lst (knd (rOf u v p n)))):=by
 have su3:Szp 3000 u:=W.su.mono (by decide)
 have sv3:Szp 3000 v:=W.sv.mono (by decide)
 have sp3:Szp 3000 p:=sp.mono (by decide)
 unfold rOf
 by_cases h:dd u p < 0∨dd p v < 0
 ·rw [if_pos h]
  exact ⟨2,u,v,p,some 1,_,rfl,.inr (.inr ⟨rfl,.inr (.inr (.inl ⟨u,v,p,rfl,su3,sv3,sp3,W.wd.wdg,h,rfl⟩))⟩),⟨by decide,rfl⟩,rfl⟩
 ·rw [if_neg h]
  by_cases hn:100 < n
  ·rw [if_pos hn]
   exact ⟨2,u,v,p,some 2,_,rfl,.inr (.inr ⟨rfl,.inr (.inr (.inr ⟨u,w,v,_,_,p,rfl,W.wd,by rw [W.lk,if_neg (by omega)],sp3,by omega,by omega,rfl⟩))⟩),⟨by decide,rfl⟩,rfl⟩
  ·rw [if_neg hn]
   obtain ⟨F,hs,_⟩:=fZ N Q C W (by omega) sp (by omega) (by omega)
   exact ⟨2,u,v,p,none,_,rfl,.inr (.inr ⟨rfl,hs⟩),(fun c h=> by cases h),rfl⟩
theorem pO (N Q C:Addr) {u w v:P2} (p:P2) {n:Nat} {odd:Bool} (W:Wg u w v n odd) (hn:100 < n):dm N Q C [.int ((0:Nat):Int),pu u,pu v,pu p] (.val (.lst (knd (some 2)))):=
 ⟨0,u,v,p,some 2,_,rfl,.inl ⟨rfl,.inr (.inr ⟨u,w,v,_,_,rfl,W.wd,by rw [W.lk,if_neg (by omega)],rfl⟩)⟩,⟨by decide,rfl⟩,rfl⟩
theorem o7 (N Q C:Addr) {u w v:P2} (p:P2) {n:Nat} {odd:Bool} (W:Wg u w v n odd) (hn:100 < n):dm N Q C [.int ((1:Nat):Int),pu u,pu v,pu p] (.val (.lst (knd (some 2)))):=
 ⟨1,u,v,p,some 2,_,rfl,.inr (.inl ⟨rfl,.inl ⟨u,w,v,_,_,rfl,W.wd,by rw [W.lk,if_neg (by omega)]; rfl⟩⟩),⟨by decide,rfl⟩,rfl⟩
def jZ:List U→Out→Prop:=fun us o=> ∃ (u w v p:P2) (n:Nat) (odd:Bool),us=[pu u,pu v,.int n,pu p]∧Wg u w v n odd∧Szp 800 p∧o=.val (.bl true)
set_option maxHeartbeats 8000000 in
theorem eB (T:Txt K mg):aS P w K mg base (CXF P w) 10 T.a__law_good T.d__law_good ["u","v","size","P"] (spU K (jZ)):=by
 refine aU T.F__law_good d9 (fun us o h=> ?_) (fun cdv A outer s H E O us o hr h=> ?_)
 ·obtain ⟨u,w,v,p,n,odd,rfl,W,sp,rfl⟩:=h
  rfl
 obtain ⟨u,w,v,p,n,odd,rfl,W,sp,rfl⟩:=h
 refine Ws.nox ?_
 have su3:Szp 3000 u:=W.su.mono (by decide)
 have sv3:Szp 3000 v:=W.sv.mono (by decide)
 have sp3:Szp 3000 p:=sp.mono (by decide)
 have r2:=oZ T.c_NoWedge T.c_NotThere T.c_TooMany W sp
 refine af (ao (i:=4) d9.nd rfl (Or.inl rfl) (al ((bF T).mono (by decide)) hr rfl T.m__law_refused T.F__law_refused.kp T.b__law_refused ap (ac ag (ac (aa 0 rfl) (ac (aa 1 rfl) (ac (aa 3 rfl) aj ae) ae) ae) aX) r2) ?_)
 refine iI (fun ps=> SubP [some (.val (pu u)),some (.val (pu v)),some (.val (.int n)),some (.val (pu p)),none] ps) (fD (Tw.t (mn (az gI (al ((d3 T).mono (by decide)) hr rfl T.m__law_hand T.F__law_hand.kp T.b__law_hand ap (ac (aa 0 rfl) (ac (aa 3 rfl) aj ae) ae) ⟨u,p,rfl,su3,sp3,rfl⟩) ag) (fun hz=> (kU (az gI (al ((d3 T).mono (by decide)) hr rfl T.m__law_hand T.F__law_hand.kp T.b__law_hand ap (ac (aa 3 rfl) (ac (aa 1 rfl) aj ae) ae) ⟨p,v,rfl,sp3,sv3,rfl⟩) ag))))) (fun hT=> ?_) (fun hF=> ?_)) ?hj
 ·have hd:dd u p < 0∨dd p v < 0:=by simpa using hT
  have e:rOf u v p n=some 1:=if_pos hd
  rw [e]
  refine af (bP (az (og (i6 hr) (bS (some 1)) (bS (some 1))) (aa 4 rfl) (EvN.ev (cv ((bV T).mono (by decide)) hr rfl T.m__law_only T.F__law_only.kp T.b__law_only ap (ac ag aj aX) ⟨1,rfl,rfl⟩))) (show (!eqW (.lst (knd (some 1))) (.lst (knd (some 1))))=false by rw [dk 9 _ (bS _)]; rfl) (aI (aI ?_)))
  exact ⟨rfl,rfl,rfl,rfl,trivial⟩
 ·have hd:¬ (dd u p < 0∨dd p v < 0):=fun z=> by
   have:(decide (dd u p < 0) || decide (dd p v < 0))=true:=by simpa using z
   rw [this] at hF; cases hF
  by_cases hn:100 < n
  ·have e:rOf u v p n=some 2:=by unfold rOf; rw [if_neg hd,if_pos hn]
   rw [e]
   refine af (bW (az ft (aa 2 rfl) ag) (decide_eq_true (by omega)) ?_)
   refine af (bP (az (og (i6 hr) (bS (some 2)) (bS (some 2))) (aa 4 rfl) (EvN.ev (cv ((bV T).mono (by decide)) hr rfl T.m__law_only T.F__law_only.kp T.b__law_only ap (ac ag aj aX) ⟨2,rfl,rfl⟩))) (show (!eqW (.lst (knd (some 2))) (.lst (knd (some 2))))=false by rw [dk 9 _ (bS _)]; rfl) (aI (aI (aI ?_))))
   exact ⟨rfl,rfl,rfl,rfl,trivial⟩
  ·refine af (bP (az ft (aa 2 rfl) ag) (decide_eq_false (by omega)) ?_)
   refine af (bP (bC (bD (al ((dN T).mono (by decide)) hr rfl T.m__law_spread_good T.F__law_spread_good.kp T.b__law_spread_good ap (ac (aa 0 rfl) (ac (aa 1 rfl) (ac (aa 3 rfl) aj ae) ae) ae) ⟨u,w,v,p,n,odd,rfl,W,by omega,sp,by omega,by omega,rfl⟩))) rfl (aI (aI (aI ?_))))
   exact ⟨rfl,rfl,rfl,rfl,trivial⟩
 case hj=>
  intro ps hps
  refine dO ?_ hps
  by_cases hn:100 < n
  ·refine af (bW (az ft (aa 2 rfl) ag) (decide_eq_true (by omega)) ?_)
   have q0:=pO T.c_NoWedge T.c_NotThere T.c_TooMany p W hn
   have q1:=o7 T.c_NoWedge T.c_NotThere T.c_TooMany p W hn
   refine af (aA (cw (cH (lM (i6 hr) (bS (some 2)) (bS (some 2))) (al ((bF T).mono (by decide)) hr rfl T.m__law_refused T.F__law_refused.kp T.b__law_refused ap (ac ag (ac (aa 0 rfl) (ac (aa 1 rfl) (ac (aa 3 rfl) aj ae) ae) ae) aX) q0) (EvN.ev (cv ((bV T).mono (by decide)) hr rfl T.m__law_only T.F__law_only.kp T.b__law_only ap (ac ag aj aX) ⟨2,rfl,rfl⟩))) (fun hz=> (cN (cH (lM (i6 hr) (bS (some 2)) (bS (some 2))) (al ((bF T).mono (by decide)) hr rfl T.m__law_refused T.F__law_refused.kp T.b__law_refused ap (ac ag (ac (aa 0 rfl) (ac (aa 1 rfl) (ac (aa 3 rfl) aj ae) ae) ae) aX) q1) (EvN.ev (cv ((bV T).mono (by decide)) hr rfl T.m__law_only T.F__law_only.kp T.b__law_only ap (ac ag aj aX) ⟨2,rfl,rfl⟩)))))) ?_)
   refine vB ?_
   rw [dk 9 _ (bS _)]
   rfl
  ·refine af (bP (az ft (aa 2 rfl) ag) (decide_eq_false (by omega)) (aI ?_))
   refine af (aA (cH aG (aw (hU rfl) rfl T.z_len PySem.boot_len (ac (EvN.ev (cv ((ck T).mono (by decide)) hr rfl T.m_turns T.F_turns.kp T.b_turns ap (ac (aa 0 rfl) (ac (aa 1 rfl) aj ae) ae) (.inl ⟨u,w,v,_,_,rfl,W.wd,by rw [W.lk,if_pos (by omega)]; rfl⟩))) aj ax)) (aa 2 rfl)) ?_)
   exact vB (by rw [List.length_map,eu]; simp)
end
section
variable {P:Program} {w:World} {K:PySem.W.Frag} {mg:Str→Option Value} {base:Heap}
def csF (ns:List Int):List Int:=if ns.length=0 then [0] else ns.take 30
theorem pC (l:List U):kE l none (some 30)=l.take 30:=by
 unfold kE
 rw [show HT.sIx l.length 0 none=0 from rfl,show HT.sIx l.length l.length (some 30)=min 30 l.length from rfl,List.drop_zero]
 by_cases h:30≤l.length
 ·rw [Nat.min_eq_left h,Nat.sub_zero]
 ·rw [Nat.min_eq_right (by omega),List.take_of_length_le (by omega),List.take_of_length_le (by omega)]
theorem oz {ns:List Int} (hB:∀ m∈ns,Sz 1048576 m):0 < (csF ns).length∧(csF ns).length≤30∧∀ c∈csF ns,Sz 1048576 c:=by
 unfold csF
 split
 ·exact ⟨by simp,by simp,fun c hc=> by simp at hc; rw [hc]; exact Sz.mono (m:=8) (by decide) (by decide)⟩
 ·exact ⟨by simp; omega,by simp; omega,fun c hc=> hB c (List.mem_of_mem_take hc)⟩
def smF (cs:List Int) (k:Int):List Int:=(List.range 5).map fun (j:Nat)=> cs.getD ((k+(0+(j:Int))) % (cs.length:Int)).toNat 0+(0+(j:Int)) * k
theorem nL {cs:List Int} (h0:0 < cs.length) (hB:∀ c∈cs,Sz 1048576 c) {k:Int} (k0:0≤k) (k1:k < 100):(smF cs k).length=5∧∀ c∈smF cs k,Sz 1099990 c:=by
 unfold smF
 refine ⟨by simp,fun c hc=> ?_⟩
 obtain ⟨j,hj,rfl⟩:=List.mem_map.mp hc
 have hj5:=List.mem_range.mp hj
 have z1:Sz 1048576 (cs.getD ((k+(0+(j:Int))) % (cs.length:Int)).toNat 0):=mw hB _
 have hm:(0+(j:Int)) * k≤5 * 100:=Int.mul_le_mul (by omega) (by omega) k0 (by decide)
 have hm0:0≤(0+(j:Int)) * k:=Int.mul_nonneg (by omega) k0
 have z2:Sz 1048576 ((0+(j:Int)) * k):=Sz.mono (m:=12) (by unfold Sz; omega) (by decide)
 exact (L2.Sz.add' z1 z2).mono (by decide)
def p3F (u v:P2) (c:Int):P2:=[(0,0),u,v].getD (c % 3).toNat (0,0)
theorem oX (u v:P2) (c:Int):atI [pu (0,0),pu u,pu v] (c % 3)=some (pu (p3F u v c)):=by
 have hi:(c % 3).toNat < 3:=by omega
 refine g9 (i:=(c % 3).toNat) (by omega) ?_
 show ([(0,0),u,v].map pu)[(c % 3).toNat]?=_
 unfold p3F
 rw [List.getElem?_map,List.getElem?_eq_getElem (show (c % 3).toNat < [((0,0):P2),u,v].length from hi),List.getD_eq_getElem?_getD,List.getElem?_eq_getElem (show (c % 3).toNat < [((0,0):P2),u,v].length from hi)]
 rfl
theorem o5 {u v:P2} (c:Int) (su:Szp 800 u) (sv:Szp 800 v):Szp 800 (p3F u v c):=by
 have o0:Sz 800 (0:Int):=Sz.mono (m:=8) (by decide) (by decide)
 have hi:(c % 3).toNat < [((0,0):P2),u,v].length:=by show _ < 3; omega
 unfold p3F
 rw [List.getD_eq_getElem?_getD,List.getElem?_eq_getElem hi]
 have m:=List.getElem_mem hi
 simp only [List.mem_cons,List.not_mem_nil,or_false] at m
 show Szp 800 ([((0,0):P2),u,v][(c % 3).toNat])
 rcases m with e | e | e <;> rw [e]
 ·exact ⟨o0,o0⟩
 ·exact su
 ·exact sv
theorem pB (N Q C:Addr) {x y p:P2} (h:wdg x y=false) (sx:Szp 800 x) (sy:Szp 800 y) (sp:Szp 800 p) (i:Nat) (hi:i < 3):dm N Q C [.int (0+(i:Int)),pu x,pu y,pu p] (.val (.lst (knd (some 0)))):=by
 have x3:Szp 3000 x:=sx.mono (by decide)
 have y3:Szp 3000 y:=sy.mono (by decide)
 have p3:Szp 3000 p:=sp.mono (by decide)
 rw [Int.zero_add]
 match i,hi with
 | 0,_=> exact ⟨0,x,y,p,some 0,_,rfl,.inl ⟨rfl,.inr (.inl ⟨x,y,rfl,x3,y3,h,rfl⟩)⟩,⟨by decide,rfl⟩,rfl⟩
 | 1,_=> exact ⟨1,x,y,p,some 0,_,rfl,.inr (.inl ⟨rfl,.inr ⟨x,y,rfl,x3,y3,h,rfl⟩⟩),⟨by decide,rfl⟩,rfl⟩
 | 2,_=> exact ⟨2,x,y,p,some 0,_,rfl,.inr (.inr ⟨rfl,.inr (.inl ⟨x,y,p,rfl,x3,y3,p3,h,rfl⟩)⟩),⟨by decide,rfl⟩,rfl⟩
set_option maxHeartbeats 8000000 in
theorem oF (T:Txt K mg):aS P w K mg base (CXF P w) 11 T.a_law T.d_law ["script"] (spU K (d5)):=by
 refine aU T.F_law bQ (fun us o h=> ?_) (fun cdv A outer s H E O us o hr h=> ?_)
 ·obtain ⟨ns,rfl,h63,hB,rfl⟩:=h
  rfl
 obtain ⟨ns,rfl,h63,hB,rfl⟩:=h
 refine Ws.nox ?_
 obtain ⟨c0,c30,cz⟩:=oz hB
 have hm:(((ns.take 30).map U.int).length:Int)=((ns.take 30).length:Int):=by rw [List.length_map]
 refine af (ao (i:=1) bQ.nd rfl (Or.inr rfl) (EvN.ev (lT (aa 0 rfl) nl (n_ ag) (.inr rfl))) ?_)
 rw [pC,← List.map_take]
 refine iI (fun ps=> SubP [some (.val (.scr (ns.map U.int))),some (.val (li (csF ns))),none,none,none,none,none,none,none,none,none,none,none] ps) (fD (az aG (aw (hU rfl) rfl T.z_len PySem.boot_len (ac (aa 1 rfl) aj ae)) ag) (fun hT=> ?_) (fun hF=> (aI ?_))) ?hj
 ·have e0:ns.length=0:=by
   have:=dTb hT
   rw [hm,List.length_take] at this
   omega
  have e:csF ns=[0]:=if_pos e0
  refine af (ao (i:=1) bQ.nd rfl (Or.inr rfl) (EvN.ev (aO (ai ag aB aX))) (aI ?_))
  rw [e]
  exact ⟨rfl,rfl,trivial⟩
 ·have e0:¬ ns.length=0:=by
   have:=dFb hF
   rw [hm,List.length_take] at this
   omega
  have e:csF ns=ns.take 30:=if_neg e0
  rw [e]
  exact ⟨rfl,rfl,trivial⟩
 case hj=>
  intro ps hps
  refine dO ?_ hps
  generalize csF ns=cs at *
  have hc:((cs.map U.int).length:Int)=(cs.length:Int):=by rw [List.length_map]
  have hmm:dy 0 (cs.length:Int) 5≤6:=by
   unfold dy
   split <;> omega
  refine af (gN (fun _:Unit=> [some (.val (.scr (ns.map U.int))),some (.val (li cs)),none,none,none,none,none,none,none,none,none,none,none]) (fun _ _=> True) rfl PassesOwn.never (ls rfl T.z_range (ac ag (ac (aw (hU rfl) rfl T.z_len PySem.boot_len (ac (aa 1 rfl) aj ae)) (ac ag aj aX) ax) aX) (by rw [hc]; omega)) ?h0 ?hs ?hd)
  case h0=> exact ⟨(),trivial,rfl,rfl,trivial⟩
  case hs=>
   intro H0 i x _ hx _
   rw [hc] at hx
   obtain ⟨hi,rfl⟩:=ii hx
   refine ⟨_,(g8 (i:=2) bQ.nd rfl (Or.inr rfl)),?_⟩
   generalize hk:(0+(i:Int) * 5)=k at *
   have k0:0≤k:=by omega
   have k1:k < 100:=by omega
   have kz:Sz 12 k:=by unfold Sz; omega
   obtain ⟨l5,sz5⟩:=nL c0 cz k0 k1
   have s5:∀ c∈smF cs k,Sz 1100000 c:=fun c hc=> (sz5 c hc).mono (by decide)
   refine af (jU (ys:=((smF cs k).map U.int)) (j:=3) false rfl bQ.nd rfl (Or.inl rfl) (blk (ah fP) ["script","cells","k","some","size","P","way","u","w","v","one","other","j"] [12] rfl rfl rfl rfl (by decide+kernel)) (d_ rfl T.z_range (ac ag aj aX) (by decide) (by decide)) (fun _ _ _ _=> bp (i:=12) bQ.nd rfl (Or.inl rfl)) (eA (by decide)) ?clen ?csz (fun _ _=> trivial) ?celt ?_)
   case clen=> rw [bG,List.length_map,l5]; rfl
   case csz=> rw [bG]; exact Nat.le_of_lt (cB (by decide))
   case celt=>
    intro C s' H' fp j x y hx hy
    obtain ⟨hj,rfl⟩:=dg hx
    have hj5:j < 5:=hj
    have ey:y=.int (cs.getD ((k+(0+(j:Int))) % (cs.length:Int)).toNat 0+(0+(j:Int)) * k):=by
     unfold smF at hy
     rw [List.map_map,List.getElem?_map,List.getElem?_range hj5] at hy
     cases hy; rfl
    have h1:=Int.emod_nonneg (k+(0+(j:Int))) (show (cs.length:Int)≠0 by omega)
    have h2:=Int.emod_lt_of_pos (k+(0+(j:Int))) (show 0 < (cs.length:Int) by omega)
    have jz:Sz 12 (0+(j:Int)):=by unfold Sz; omega
    rw [ey]
    exact (aV (am (aa 1 rfl) (bh (aV (aa 2 rfl) (aa 12 rfl)) (aw (hU rfl) rfl T.z_len PySem.boot_len (ac (aa 1 rfl) aj ae)) (by rw [hc]; omega)) rfl (by rw [hc]; exact iq h1 h2)) (ar (aa 12 rfl) (aa 2 rfl) (by walk_at "mul")))
   have a3:=fM s5 (i:=3) (by omega)
   have a4:=fM s5 (i:=4) (by omega)
   have t4:atI ((smF cs k).map U.int) 4=some (.int (at5 (smF cs k) 4)):=j6 (i:=4) (by decide) (by omega)
   obtain ⟨n0,nz⟩:=n6 (at5 (smF cs k) 3)
   refine af (ao (i:=4) bQ.nd rfl (Or.inl rfl) (al ((hG T).mono (by decide)) hr rfl T.m__law_size T.F__law_size.kp T.b__law_size ap (ac (am (aa 3 rfl) ag rfl (j6 (i:=3) (by decide) (by omega))) aj cr) ⟨_,rfl,a3,rfl⟩) ?_)
   generalize szF (at5 (smF cs k) 3)=N at *
   obtain ⟨n,rfl⟩:∃ n:Nat,N=(n:Int):=⟨N.toNat,by omega⟩
   obtain ⟨su,sw⟩:Szp 190 (uF (enR (smF cs k)) (enP (smF cs k)))∧Szp 190 (wF (enR (smF cs k)) (enP (smF cs k)) (enM (smF cs k))):=mW (enM (smF cs k)) (eP (at5 (smF cs k) 0)) (eP (at5 (smF cs k) 1)) (eP _)
   have W:Wg (uF (enR (smF cs k)) (enP (smF cs k))) (wF (enR (smF cs k)) (enP (smF cs k)) (enM (smF cs k))) (vF (uF (enR (smF cs k)) (enP (smF cs k))) (wF (enR (smF cs k)) (enP (smF cs k)) (enM (smF cs k))) n (decide (at5 (smF cs k) 2 % 2=1))) n (decide (at5 (smF cs k) 2 % 2=1)):=⟨pk _ _ _,su,sw,rfl,nz⟩
   refine af (m9 (EvN.ev (cv ((g7 T).mono (by decide)) hr rfl T.m__law_ends T.F__law_ends.kp T.b__law_ends ap (ac (aa 3 rfl) (ac (aa 4 rfl) aj ae) ae) ⟨smF cs k,n,rfl,l5,sz5,nz,rfl⟩)) (m8 [7,8,9] rfl (bT (bp (i:=7) bQ.nd rfl (Or.inl rfl)) (bT (bp (i:=8) bQ.nd rfl (Or.inl rfl)) (bT (bp (i:=9) bQ.nd rfl (Or.inl rfl)) fg))) (.inl rfl) rfl) ?_)
   generalize vF (uF (enR (smF cs k)) (enP (smF cs k))) (wF (enR (smF cs k)) (enP (smF cs k)) (enM (smF cs k))) n (decide (at5 (smF cs k) 2 % 2=1))=v at *
   generalize uF (enR (smF cs k)) (enP (smF cs k))=u at *
   generalize wF (enR (smF cs k)) (enP (smF cs k)) (enM (smF cs k))=w at *
   generalize decide (at5 (smF cs k) 2 % 2=1)=odd at *
   have sv:=W.sv
   show Ws _ _ _ _ _ _ [some (.val (.scr (ns.map U.int))),some (.val (li cs)),some (.val (.int k)),some (.val (li (smF cs k))),some (.val (.int n)),none,none,some (.val (pu u)),some (.val (pu w)),some (.val (pu v)),none,none,none]
   refine af (ao (i:=5) bQ.nd rfl (Or.inl rfl) (al ((g4 T).mono (by decide)) hr rfl T.m__law_spot T.F__law_spot.kp T.b__law_spot ap (ac (aa 7 rfl) (ac (aa 8 rfl) (ac (aa 9 rfl) (ac (am (aa 3 rfl) ag rfl t4) aj cr) ae) ae) ae) ⟨u,w,v,_,rfl,su,sw,sv,a4,rfl⟩) ?_)
   have sP:=nP (at5 (smF cs k) 4) su sw sv
   generalize spF u w v (at5 (smF cs k) 4)=P at *
   have s3:=o5 (at5 (smF cs k) 4) (su.mono (n:=800) (by decide)) (sv.mono (n:=800) (by decide))
   refine af (bP (Tw.t (mn (bC (bD (al ((eB T).mono (by decide)) hr rfl T.m__law_good T.F__law_good.kp T.b__law_good ap (ac (aa 7 rfl) (ac (aa 9 rfl) (ac (aa 4 rfl) (ac (aa 5 rfl) aj ae) ae) ae) ae) ⟨u,w,v,P,n,odd,rfl,W,sP,rfl⟩))) (fun hz=> (kU (bC (bD (al ((eB T).mono (by decide)) hr rfl T.m__law_good T.F__law_good.kp T.b__law_good ap (ac (aa 7 rfl) (ac (aa 9 rfl) (ac (aa 4 rfl) (ac (am (EvN.ev (aO (ai (aZ (ai ag (ai ag aB aX) aX)) (ai (aa 7 rfl) (ai (aa 9 rfl) aB ae) ae) cJ))) (bh (am (aa 3 rfl) ag rfl t4) ag (by walk_at "mod")) rfl (oX u v (at5 (smF cs k) 4))) aj cr) ae) ae) ae) ⟨u,w,v,_,n,odd,rfl,W,s3,rfl⟩))))))) rfl (aI ?_))
   have bz:Sz 100 ((at5 (smF cs k) 4 * 48271+7919 * k * k) % 2147483647):=Sz.mono (m:=40) (by unfold Sz; omega) (by decide)
   obtain ⟨b1,b2⟩:=pe su sv ((at5 (smF cs k) 4 * 48271+7919 * k * k) % 2147483647)
   have bn:=pS W.wd.wdg ((at5 (smF cs k) 4 * 48271+7919 * k * k) % 2147483647)
   have hb2:gh [pu u,pu v,.int ((at5 (smF cs k) 4 * 48271+7919 * k * k) % 2147483647)] (.val (.lst [pu (brF u v ((at5 (smF cs k) 4 * 48271+7919 * k * k) % 2147483647)).1,pu (brF u v ((at5 (smF cs k) 4 * 48271+7919 * k * k) % 2147483647)).2])):=⟨u,v,_,rfl,su,sv,bz,rfl⟩
   refine af (m9 (al ((gA T).mono (by decide)) hr rfl T.m__law_bare T.F__law_bare.kp T.b__law_bare ap (ac (aa 7 rfl) (ac (aa 9 rfl) (ac (bh (aV (ar (am (aa 3 rfl) ag rfl t4) ag (by walk_at "mul")) (ar (ar ag (aa 2 rfl) (by walk_at "mul")) (aa 2 rfl) (by walk_at "mul"))) ag (by walk_at "mod")) aj aM) ae) ae) hb2) (m8 [10,11] rfl (bT (bp (i:=10) bQ.nd rfl (Or.inl rfl)) (bT (bp (i:=11) bQ.nd rfl (Or.inl rfl)) fg)) (.inl rfl) rfl) ?_)
   generalize brF u v ((at5 (smF cs k) 4 * 48271+7919 * k * k) % 2147483647)=z at *
   show Ws _ _ _ _ _ _ [some (.val (.scr (ns.map U.int))),some (.val (li cs)),some (.val (.int k)),some (.val (li (smF cs k))),some (.val (.int n)),some (.val (pu P)),none,some (.val (pu u)),some (.val (pu w)),some (.val (pu v)),some (.val (pu z.1)),some (.val (pu z.2)),none]
   refine af (gN (fun _:Unit=> [some (.val (.scr (ns.map U.int))),some (.val (li cs)),none,none,none,some (.val (pu P)),none,none,none,none,some (.val (pu z.1)),some (.val (pu z.2)),none]) (fun _ _=> True) rfl PassesOwn.never (d_ rfl T.z_range (ac ag aj aX) (by decide) (by decide)) ?h02 ?hs2 ?hd2)
   case h02=> exact ⟨(),trivial,rfl,rfl,rfl,rfl,rfl,trivial⟩
   case hs2=>
    intro H1 j y _ hy _
    obtain ⟨hj,rfl⟩:=dg hy
    refine ⟨_,(g8 (i:=6) bQ.nd rfl (Or.inl rfl)),?_⟩
    have rb:=pB T.c_NoWedge T.c_NotThere T.c_TooMany bn b1 b2 sP j hj
    refine af (bP (az (og (i6 hr) (bS (some 0)) (bS (some 0))) (al ((bF T).mono (by decide)) hr rfl T.m__law_refused T.F__law_refused.kp T.b__law_refused ap (ac (aa 6 rfl) (ac (aa 10 rfl) (ac (aa 11 rfl) (ac (aa 5 rfl) aj ae) ae) ae) ae) rb) (EvN.ev (cv ((bV T).mono (by decide)) hr rfl T.m__law_only T.F__law_only.kp T.b__law_only ap (ac ag aj aX) ⟨0,rfl,rfl⟩))) (show (!eqW (.lst (knd (some 0))) (.lst (knd (some 0))))=false by rw [dk 9 _ (bS _)]; rfl) (aI (aI ?_)))
    exact ⟨(),trivial,rfl,rfl,rfl,rfl,rfl,trivial⟩
   case hd2=>
    intro _ ps _ hps
    refine aI ?_
    refine ⟨(),trivial,SubP.trans ?_ hps⟩
    exact ⟨rfl,rfl,trivial⟩
  case hd=>
   intro _ ps _ hps
   refine dO ?_ hps
   refine af (aA fY ?_)
   exact vB rfl
end
theorem ar1 {p:List Value→Prop} {us:List Value} (h:us.length=1) (q:∀ a0,p [a0]):p us:=match us,h with | [a0],_=> q a0
theorem ar2 {p:List Value→Prop} {us:List Value} (h:us.length=2) (q:∀ a0 a1,p [a0,a1]):p us:=match us,h with | [a0,a1],_=> q a0 a1
theorem ar3 {p:List Value→Prop} {us:List Value} (h:us.length=3) (q:∀ a0 a1 a2,p [a0,a1,a2]):p us:=match us,h with | [a0,a1,a2],_=> q a0 a1 a2
theorem ar4 {p:List Value→Prop} {us:List Value} (h:us.length=4) (q:∀ a0 a1 a2 a3,p [a0,a1,a2,a3]):p us:=match us,h with | [a0,a1,a2,a3],_=> q a0 a1 a2 a3
set_option maxHeartbeats 8000000 in
theorem txt_mk {K:PySem.W.Frag} {h:Heap} {mg:Str→Option Value} {fa f0 f1 f2 f3 f4 f5 f6 f7 f8 f9 f10 f11 f12 f13 f14 f15 f16 f17 f18 f19 f20 f21 f22 f23 f24 f25 f26 f27 f28 f29 f30 f31 f32 f33 f34 c_Flat c_NoField c_NoHeart c_NoMove c_NoName c_NoNumber c_NoRow c_NoText c_NoWedge c_NotThere c_StakeError c_TooGreat c_TooMany:Addr} (X:K.In h) (G:h.Ns mainGlobals mg) (hfa:mg "law"=some (.ref fa))
  {od0 an0 od1 an1 od2 an2 od3 an3 od4 an4 od5 an5 od6 an6 od7 an7 od8 an8 od9 an9 od10 an10 od11 an11 od12 an12 od13 an13 od14 an14 od15 an15 od16 an16 od17 an17 od18 an18 od19 an19 od20 an20 od21 an21 od22 an22 od23 an23 od24 an24 od25 an25 od26 an26 od27 an27 od28 an28 od29 an29 od30 an30 od31 an31 od32 an32 od33 an33 od34 an34:Option Addr} {sl0 sl1 sl2 sl3 sl4 sl5 sl6 sl7 sl8 sl9 sl10 sl11 sl12 sl13 sl14 sl15 sl16 sl17 sl18 sl19 sl20 sl21 sl22 sl23 sl24 sl25 sl26 sl27 sl28 sl29 sl30 sl31 sl32 sl33 sl34:Array (Option Value)} {oc0 kV0 dc0 pm0 cd0 ct0 oc1 kV1 dc1 pm1 cd1 ct1 oc2 kV2 dc2 pm2 cd2 ct2 oc3 kV3 dc3 pm3 cd3 ct3 oc4 kV4 dc4 pm4 cd4 ct4 oc5 kV5 dc5 pm5 cd5 ct5 oc6 kV6 dc6 pm6 cd6 ct6 oc7 kV7 dc7 pm7 cd7 ct7 oc8 kV8 dc8 pm8 cd8 ct8 oc9 kV9 dc9 pm9 cd9 ct9 oc10 kV10 dc10 pm10 cd10 ct10 oc11 kV11 dc11 pm11 cd11 ct11 oc12 kV12 dc12 pm12 cd12 ct12 oc13 kV13 dc13 pm13 cd13 ct13 oc14 kV14 dc14 pm14 cd14 ct14 oc15 kV15 dc15 pm15 cd15 ct15 oc16 kV16 dc16 pm16 cd16 ct16 oc17 kV17 dc17 pm17 cd17 ct17 oc18 kV18 dc18 pm18 cd18 ct18 oc19 kV19 dc19 pm19 cd19 ct19 oc20 kV20 dc20 pm20 cd20 ct20 oc21 kV21 dc21 pm21 cd21 ct21 oc22 kV22 dc22 pm22 cd22 ct22 oc23 kV23 dc23 pm23 cd23 ct23 oc24 kV24 dc24 pm24 cd24 ct24 oc25 kV25 dc25 pm25 cd25 ct25 oc26 kV26 dc26 pm26 cd26 ct26 oc27 kV27 dc27 pm27 cd27 ct27 oc28 kV28 dc28 pm28 cd28 ct28 oc29 kV29 dc29 pm29 cd29 ct29 oc30 kV30 dc30 pm30 cd30 ct30 oc31 kV31 dc31 pm31 cd31 ct31 oc32 kV32 dc32 pm32 cd32 ct32 oc33 kV33 dc33 pm33 cd33 ct33 oc34 kV34 dc34 pm34 cd34 ct34:Value}
  (a0:PySem.W.nsIn K mainGlobals "is_whole"=some (some (.ref f0))) (l0:K.lookup f0=some ⟨oc0,od0,.func (PySem.W.fnOf "is_whole" "is_whole" (au b_) (aq b_) (ah b_) .none kV0 dc0 pm0 an0 cd0 ct0),sl0⟩) (c0:PySem.W.codeIn K cd0 "is_whole"=true) (k0:PySem.W.keepIn K (.ref f0)=true)
  (a1:PySem.W.nsIn K mainGlobals "sign"=some (some (.ref f1))) (l1:K.lookup f1=some ⟨oc1,od1,.func (PySem.W.fnOf "sign" "sign" (au eR) (aq eR) (ah eR) .none kV1 dc1 pm1 an1 cd1 ct1),sl1⟩) (c1:PySem.W.codeIn K cd1 "sign"=true) (k1:PySem.W.keepIn K (.ref f1)=true)
  (a2:PySem.W.nsIn K mainGlobals "shares"=some (some (.ref f2))) (l2:K.lookup f2=some ⟨oc2,od2,.func (PySem.W.fnOf "shares" "shares" (au cW) (aq cW) (ah cW) .none kV2 dc2 pm2 an2 cd2 ct2),sl2⟩) (c2:PySem.W.codeIn K cd2 "shares"=true) (k2:PySem.W.keepIn K (.ref f2)=true)
  (a3:PySem.W.nsIn K mainGlobals "links"=some (some (.ref f3))) (l3:K.lookup f3=some ⟨oc3,od3,.func (PySem.W.fnOf "links" "links" (au dB) (aq dB) (ah dB) .none kV3 dc3 pm3 an3 cd3 ct3),sl3⟩) (c3:PySem.W.codeIn K cd3 "links"=true) (k3:PySem.W.keepIn K (.ref f3)=true)
  (a4:PySem.W.nsIn K mainGlobals "is_chained"=some (some (.ref f4))) (l4:K.lookup f4=some ⟨oc4,od4,.func (PySem.W.fnOf "is_chained" "is_chained" (au bv) (aq bv) (ah bv) .none kV4 dc4 pm4 an4 cd4 ct4),sl4⟩) (c4:PySem.W.codeIn K cd4 "is_chained"=true) (k4:PySem.W.keepIn K (.ref f4)=true)
  (a5:PySem.W.nsIn K mainGlobals "chain"=some (some (.ref f5))) (l5:K.lookup f5=some ⟨oc5,od5,.func (PySem.W.fnOf "chain" "chain" (au dJ) (aq dJ) (ah dJ) .none kV5 dc5 pm5 an5 cd5 ct5),sl5⟩) (c5:PySem.W.codeIn K cd5 "chain"=true) (k5:PySem.W.keepIn K (.ref f5)=true)
  (a6:PySem.W.nsIn K mainGlobals "hand"=some (some (.ref f6))) (l6:K.lookup f6=some ⟨oc6,od6,.func (PySem.W.fnOf "hand" "hand" (au eD) (aq eD) (ah eD) .none kV6 dc6 pm6 an6 cd6 ct6),sl6⟩) (c6:PySem.W.codeIn K cd6 "hand"=true) (k6:PySem.W.keepIn K (.ref f6)=true)
  (a7:PySem.W.nsIn K mainGlobals "is_move"=some (some (.ref f7))) (l7:K.lookup f7=some ⟨oc7,od7,.func (PySem.W.fnOf "is_move" "is_move" (au cb) (aq cb) (ah cb) .none kV7 dc7 pm7 an7 cd7 ct7),sl7⟩) (c7:PySem.W.codeIn K cd7 "is_move"=true) (k7:PySem.W.keepIn K (.ref f7)=true)
  (a8:PySem.W.nsIn K mainGlobals "need_move"=some (some (.ref f8))) (l8:K.lookup f8=some ⟨oc8,od8,.func (PySem.W.fnOf "need_move" "need_move" (au bN) (aq bN) (ah bN) .none kV8 dc8 pm8 an8 cd8 ct8),sl8⟩) (c8:PySem.W.codeIn K cd8 "need_move"=true) (k8:PySem.W.keepIn K (.ref f8)=true)
  (a9:PySem.W.nsIn K mainGlobals "turned"=some (some (.ref f9))) (l9:K.lookup f9=some ⟨oc9,od9,.func (PySem.W.fnOf "turned" "turned" (au cQ) (aq cQ) (ah cQ) .none kV9 dc9 pm9 an9 cd9 ct9),sl9⟩) (c9:PySem.W.codeIn K cd9 "turned"=true) (k9:PySem.W.keepIn K (.ref f9)=true)
  (a10:PySem.W.nsIn K mainGlobals "moved"=some (some (.ref f10))) (l10:K.lookup f10=some ⟨oc10,od10,.func (PySem.W.fnOf "moved" "moved" (au dz) (aq dz) (ah dz) .none kV10 dc10 pm10 an10 cd10 ct10),sl10⟩) (c10:PySem.W.codeIn K cd10 "moved"=true) (k10:PySem.W.keepIn K (.ref f10)=true)
  (a11:PySem.W.nsIn K mainGlobals "way_back"=some (some (.ref f11))) (l11:K.lookup f11=some ⟨oc11,od11,.func (PySem.W.fnOf "way_back" "way_back" (au cc) (aq cc) (ah cc) .none kV11 dc11 pm11 an11 cd11 ct11),sl11⟩) (c11:PySem.W.codeIn K cd11 "way_back"=true) (k11:PySem.W.keepIn K (.ref f11)=true)
  (a12:PySem.W.nsIn K mainGlobals "steps"=some (some (.ref f12))) (l12:K.lookup f12=some ⟨oc12,od12,.func (PySem.W.fnOf "steps" "steps" (au dI) (aq dI) (ah dI) .none kV12 dc12 pm12 an12 cd12 ct12),sl12⟩) (c12:PySem.W.codeIn K cd12 "steps"=true) (k12:PySem.W.keepIn K (.ref f12)=true)
  (a13:PySem.W.nsIn K mainGlobals "level"=some (some (.ref f13))) (l13:K.lookup f13=some ⟨oc13,od13,.func (PySem.W.fnOf "level" "level" (au dA) (aq dA) (ah dA) .none kV13 dc13 pm13 an13 cd13 ct13),sl13⟩) (c13:PySem.W.codeIn K cd13 "level"=true) (k13:PySem.W.keepIn K (.ref f13)=true)
  (a14:PySem.W.nsIn K mainGlobals "turn"=some (some (.ref f14))) (l14:K.lookup f14=some ⟨oc14,od14,.func (PySem.W.fnOf "turn" "turn" (au eF) (aq eF) (ah eF) .none kV14 dc14 pm14 an14 cd14 ct14),sl14⟩) (c14:PySem.W.codeIn K cd14 "turn"=true) (k14:PySem.W.keepIn K (.ref f14)=true)
  (a15:PySem.W.nsIn K mainGlobals "is_wedge"=some (some (.ref f15))) (l15:K.lookup f15=some ⟨oc15,od15,.func (PySem.W.fnOf "is_wedge" "is_wedge" (au ce) (aq ce) (ah ce) .none kV15 dc15 pm15 an15 cd15 ct15),sl15⟩) (c15:PySem.W.codeIn K cd15 "is_wedge"=true) (k15:PySem.W.keepIn K (.ref f15)=true)
  (a16:PySem.W.nsIn K mainGlobals "need_wedge"=some (some (.ref f16))) (l16:K.lookup f16=some ⟨oc16,od16,.func (PySem.W.fnOf "need_wedge" "need_wedge" (au bw) (aq bw) (ah bw) .none kV16 dc16 pm16 an16 cd16 ct16),sl16⟩) (c16:PySem.W.codeIn K cd16 "need_wedge"=true) (k16:PySem.W.keepIn K (.ref f16)=true)
  (a17:PySem.W.nsIn K mainGlobals "lies_in"=some (some (.ref f17))) (l17:K.lookup f17=some ⟨oc17,od17,.func (PySem.W.fnOf "lies_in" "lies_in" (au cE) (aq cE) (ah cE) .none kV17 dc17 pm17 an17 cd17 ct17),sl17⟩) (c17:PySem.W.codeIn K cd17 "lies_in"=true) (k17:PySem.W.keepIn K (.ref f17)=true)
  (a18:PySem.W.nsIn K mainGlobals "turns"=some (some (.ref f18))) (l18:K.lookup f18=some ⟨oc18,od18,.func (PySem.W.fnOf "turns" "turns" (au dH) (aq dH) (ah dH) .none kV18 dc18 pm18 an18 cd18 ct18),sl18⟩) (c18:PySem.W.codeIn K cd18 "turns"=true) (k18:PySem.W.keepIn K (.ref f18)=true)
  (a19:PySem.W.nsIn K mainGlobals "beside"=some (some (.ref f19))) (l19:K.lookup f19=some ⟨oc19,od19,.func (PySem.W.fnOf "beside" "beside" (au cZ) (aq cZ) (ah cZ) .none kV19 dc19 pm19 an19 cd19 ct19),sl19⟩) (c19:PySem.W.codeIn K cd19 "beside"=true) (k19:PySem.W.keepIn K (.ref f19)=true)
  (a20:PySem.W.nsIn K mainGlobals "least"=some (some (.ref f20))) (l20:K.lookup f20=some ⟨oc20,od20,.func (PySem.W.fnOf "least" "least" (au dE) (aq dE) (ah dE) .none kV20 dc20 pm20 an20 cd20 ct20),sl20⟩) (c20:PySem.W.codeIn K cd20 "least"=true) (k20:PySem.W.keepIn K (.ref f20)=true)
  (a21:PySem.W.nsIn K mainGlobals "crossed"=some (some (.ref f21))) (l21:K.lookup f21=some ⟨oc21,od21,.func (PySem.W.fnOf "crossed" "crossed" (au cC) (aq cC) (ah cC) .none kV21 dc21 pm21 an21 cd21 ct21),sl21⟩) (c21:PySem.W.codeIn K cd21 "crossed"=true) (k21:PySem.W.keepIn K (.ref f21)=true)
  (a22:PySem.W.nsIn K mainGlobals "spread"=some (some (.ref f22))) (l22:K.lookup f22=some ⟨oc22,od22,.func (PySem.W.fnOf "spread" "spread" (au cI) (aq cI) (ah cI) .none kV22 dc22 pm22 an22 cd22 ct22),sl22⟩) (c22:PySem.W.codeIn K cd22 "spread"=true) (k22:PySem.W.keepIn K (.ref f22)=true)
  (a23:PySem.W.nsIn K mainGlobals "_law_slope"=some (some (.ref f23))) (l23:K.lookup f23=some ⟨oc23,od23,.func (PySem.W.fnOf "_law_slope" "_law_slope" (au bx) (aq bx) (ah bx) .none kV23 dc23 pm23 an23 cd23 ct23),sl23⟩) (c23:PySem.W.codeIn K cd23 "_law_slope"=true) (k23:PySem.W.keepIn K (.ref f23)=true)
  (a24:PySem.W.nsIn K mainGlobals "_law_ends"=some (some (.ref f24))) (l24:K.lookup f24=some ⟨oc24,od24,.func (PySem.W.fnOf "_law_ends" "_law_ends" (au bL) (aq bL) (ah bL) .none kV24 dc24 pm24 an24 cd24 ct24),sl24⟩) (c24:PySem.W.codeIn K cd24 "_law_ends"=true) (k24:PySem.W.keepIn K (.ref f24)=true)
  (a25:PySem.W.nsIn K mainGlobals "_law_size"=some (some (.ref f25))) (l25:K.lookup f25=some ⟨oc25,od25,.func (PySem.W.fnOf "_law_size" "_law_size" (au bM) (aq bM) (ah bM) .none kV25 dc25 pm25 an25 cd25 ct25),sl25⟩) (c25:PySem.W.codeIn K cd25 "_law_size"=true) (k25:PySem.W.keepIn K (.ref f25)=true)
  (a26:PySem.W.nsIn K mainGlobals "_law_hand"=some (some (.ref f26))) (l26:K.lookup f26=some ⟨oc26,od26,.func (PySem.W.fnOf "_law_hand" "_law_hand" (au bJ) (aq bJ) (ah bJ) .none kV26 dc26 pm26 an26 cd26 ct26),sl26⟩) (c26:PySem.W.codeIn K cd26 "_law_hand"=true) (k26:PySem.W.keepIn K (.ref f26)=true)
  (a27:PySem.W.nsIn K mainGlobals "_law_refused"=some (some (.ref f27))) (l27:K.lookup f27=some ⟨oc27,od27,.func (PySem.W.fnOf "_law_refused" "_law_refused" (au bg) (aq bg) (ah bg) .none kV27 dc27 pm27 an27 cd27 ct27),sl27⟩) (c27:PySem.W.codeIn K cd27 "_law_refused"=true) (k27:PySem.W.keepIn K (.ref f27)=true)
  (a28:PySem.W.nsIn K mainGlobals "_law_only"=some (some (.ref f28))) (l28:K.lookup f28=some ⟨oc28,od28,.func (PySem.W.fnOf "_law_only" "_law_only" (au br) (aq br) (ah br) .none kV28 dc28 pm28 an28 cd28 ct28),sl28⟩) (c28:PySem.W.codeIn K cd28 "_law_only"=true) (k28:PySem.W.keepIn K (.ref f28)=true)
  (a29:PySem.W.nsIn K mainGlobals "_law_bare"=some (some (.ref f29))) (l29:K.lookup f29=some ⟨oc29,od29,.func (PySem.W.fnOf "_law_bare" "_law_bare" (au bH) (aq bH) (ah bH) .none kV29 dc29 pm29 an29 cd29 ct29),sl29⟩) (c29:PySem.W.codeIn K cd29 "_law_bare"=true) (k29:PySem.W.keepIn K (.ref f29)=true)
  (a30:PySem.W.nsIn K mainGlobals "_law_times"=some (some (.ref f30))) (l30:K.lookup f30=some ⟨oc30,od30,.func (PySem.W.fnOf "_law_times" "_law_times" (au bu) (aq bu) (ah bu) .none kV30 dc30 pm30 an30 cd30 ct30),sl30⟩) (c30:PySem.W.codeIn K cd30 "_law_times"=true) (k30:PySem.W.keepIn K (.ref f30)=true)
  (a31:PySem.W.nsIn K mainGlobals "_law_spot"=some (some (.ref f31))) (l31:K.lookup f31=some ⟨oc31,od31,.func (PySem.W.fnOf "_law_spot" "_law_spot" (au bO) (aq bO) (ah bO) .none kV31 dc31 pm31 an31 cd31 ct31),sl31⟩) (c31:PySem.W.codeIn K cd31 "_law_spot"=true) (k31:PySem.W.keepIn K (.ref f31)=true)
  (a32:PySem.W.nsIn K mainGlobals "_law_spread_good"=some (some (.ref f32))) (l32:K.lookup f32=some ⟨oc32,od32,.func (PySem.W.fnOf "_law_spread_good" "_law_spread_good" (au aE) (aq aE) (ah aE) .none kV32 dc32 pm32 an32 cd32 ct32),sl32⟩) (c32:PySem.W.codeIn K cd32 "_law_spread_good"=true) (k32:PySem.W.keepIn K (.ref f32)=true)
  (a33:PySem.W.nsIn K mainGlobals "_law_good"=some (some (.ref f33))) (l33:K.lookup f33=some ⟨oc33,od33,.func (PySem.W.fnOf "_law_good" "_law_good" (au bI) (aq bI) (ah bI) .none kV33 dc33 pm33 an33 cd33 ct33),sl33⟩) (c33:PySem.W.codeIn K cd33 "_law_good"=true) (k33:PySem.W.keepIn K (.ref f33)=true)
  (a34:PySem.W.nsIn K mainGlobals "law"=some (some (.ref f34))) (l34:K.lookup f34=some ⟨oc34,od34,.func (PySem.W.fnOf "law" "law" (au fP) (aq fP) (ah fP) .none kV34 dc34 pm34 an34 cd34 ct34),sl34⟩) (c34:PySem.W.codeIn K cd34 "law"=true) (k34:PySem.W.keepIn K (.ref f34)=true)
  (e_Flat:PySem.W.nsIn K mainGlobals "Flat"=some (some (.ref c_Flat)))
  (e_NoField:PySem.W.nsIn K mainGlobals "NoField"=some (some (.ref c_NoField)))
  (e_NoHeart:PySem.W.nsIn K mainGlobals "NoHeart"=some (some (.ref c_NoHeart)))
  (e_NoMove:PySem.W.nsIn K mainGlobals "NoMove"=some (some (.ref c_NoMove))) (x_NoMove:PySem.W.excIn K c_NoMove [.type "ValueError",.type "Exception",.type "BaseException",.type "object"] "ValueError.__new__"=true)
  (e_NoName:PySem.W.nsIn K mainGlobals "NoName"=some (some (.ref c_NoName)))
  (e_NoNumber:PySem.W.nsIn K mainGlobals "NoNumber"=some (some (.ref c_NoNumber))) (x_NoNumber:PySem.W.excIn K c_NoNumber [.type "ValueError",.type "Exception",.type "BaseException",.type "object"] "ValueError.__new__"=true)
  (e_NoRow:PySem.W.nsIn K mainGlobals "NoRow"=some (some (.ref c_NoRow)))
  (e_NoText:PySem.W.nsIn K mainGlobals "NoText"=some (some (.ref c_NoText)))
  (e_NoWedge:PySem.W.nsIn K mainGlobals "NoWedge"=some (some (.ref c_NoWedge))) (x_NoWedge:PySem.W.excIn K c_NoWedge [.type "ValueError",.type "Exception",.type "BaseException",.type "object"] "ValueError.__new__"=true)
  (e_NotThere:PySem.W.nsIn K mainGlobals "NotThere"=some (some (.ref c_NotThere))) (x_NotThere:PySem.W.excIn K c_NotThere [.type "ValueError",.type "Exception",.type "BaseException",.type "object"] "ValueError.__new__"=true)
  (e_StakeError:PySem.W.nsIn K mainGlobals "StakeError"=some (some (.ref c_StakeError)))
  (e_TooGreat:PySem.W.nsIn K mainGlobals "TooGreat"=some (some (.ref c_TooGreat)))
  (e_TooMany:PySem.W.nsIn K mainGlobals "TooMany"=some (some (.ref c_TooMany))) (x_TooMany:PySem.W.excIn K c_TooMany [.type "ValueError",.type "Exception",.type "BaseException",.type "object"] "ValueError.__new__"=true)
  (z_ValueError:PySem.W.nsIn K mainGlobals "ValueError"=some none)
  (z_abs:PySem.W.nsIn K mainGlobals "abs"=some none)
  (z_all:PySem.W.nsIn K mainGlobals "all"=some none)
  (z_bool:PySem.W.nsIn K mainGlobals "bool"=some none)
  (z_int:PySem.W.nsIn K mainGlobals "int"=some none)
  (z_isinstance:PySem.W.nsIn K mainGlobals "isinstance"=some none)
  (z_len:PySem.W.nsIn K mainGlobals "len"=some none)
  (z_list:PySem.W.nsIn K mainGlobals "list"=some none)
  (z_range:PySem.W.nsIn K mainGlobals "range"=some none)
  (z_sum:PySem.W.nsIn K mainGlobals "sum"=some none)
  (z_tuple:PySem.W.nsIn K mainGlobals "tuple"=some none)
  (bx_StakeError:PySem.W.mroIn K c_StakeError (.type "BaseException")=some true)
  (kit_NoWedge_Flat:PySem.W.kitOne K (.ref c_NoWedge) (.ref c_Flat)=some false)
  (kit_NoWedge_NoField:PySem.W.kitOne K (.ref c_NoWedge) (.ref c_NoField)=some false)
  (kit_NoWedge_NoHeart:PySem.W.kitOne K (.ref c_NoWedge) (.ref c_NoHeart)=some false)
  (kit_NoWedge_NoMove:PySem.W.kitOne K (.ref c_NoWedge) (.ref c_NoMove)=some false)
  (kit_NoWedge_NoName:PySem.W.kitOne K (.ref c_NoWedge) (.ref c_NoName)=some false)
  (kit_NoWedge_NoNumber:PySem.W.kitOne K (.ref c_NoWedge) (.ref c_NoNumber)=some false)
  (kit_NoWedge_NoRow:PySem.W.kitOne K (.ref c_NoWedge) (.ref c_NoRow)=some false)
  (kit_NoWedge_NoText:PySem.W.kitOne K (.ref c_NoWedge) (.ref c_NoText)=some false)
  (kit_NoWedge_NoWedge:PySem.W.kitOne K (.ref c_NoWedge) (.ref c_NoWedge)=some true)
  (kit_NoWedge_NotThere:PySem.W.kitOne K (.ref c_NoWedge) (.ref c_NotThere)=some false)
  (kit_NoWedge_TooGreat:PySem.W.kitOne K (.ref c_NoWedge) (.ref c_TooGreat)=some false)
  (kit_NoWedge_TooMany:PySem.W.kitOne K (.ref c_NoWedge) (.ref c_TooMany)=some false)
  (kit_NoWedge_ValueError:PySem.W.kitOne K (.ref c_NoWedge) (.type "ValueError")=some true)
  (kit_NotThere_Flat:PySem.W.kitOne K (.ref c_NotThere) (.ref c_Flat)=some false)
  (kit_NotThere_NoField:PySem.W.kitOne K (.ref c_NotThere) (.ref c_NoField)=some false)
  (kit_NotThere_NoHeart:PySem.W.kitOne K (.ref c_NotThere) (.ref c_NoHeart)=some false)
  (kit_NotThere_NoMove:PySem.W.kitOne K (.ref c_NotThere) (.ref c_NoMove)=some false)
  (kit_NotThere_NoName:PySem.W.kitOne K (.ref c_NotThere) (.ref c_NoName)=some false)
  (kit_NotThere_NoNumber:PySem.W.kitOne K (.ref c_NotThere) (.ref c_NoNumber)=some false)
  (kit_NotThere_NoRow:PySem.W.kitOne K (.ref c_NotThere) (.ref c_NoRow)=some false)
  (kit_NotThere_NoText:PySem.W.kitOne K (.ref c_NotThere) (.ref c_NoText)=some false)
  (kit_NotThere_NoWedge:PySem.W.kitOne K (.ref c_NotThere) (.ref c_NoWedge)=some false)
  (kit_NotThere_NotThere:PySem.W.kitOne K (.ref c_NotThere) (.ref c_NotThere)=some true)
  (kit_NotThere_TooGreat:PySem.W.kitOne K (.ref c_NotThere) (.ref c_TooGreat)=some false)
  (kit_NotThere_TooMany:PySem.W.kitOne K (.ref c_NotThere) (.ref c_TooMany)=some false)
  (kit_NotThere_ValueError:PySem.W.kitOne K (.ref c_NotThere) (.type "ValueError")=some true)
  (kit_TooMany_Flat:PySem.W.kitOne K (.ref c_TooMany) (.ref c_Flat)=some false)
  (kit_TooMany_NoField:PySem.W.kitOne K (.ref c_TooMany) (.ref c_NoField)=some false)
  (kit_TooMany_NoHeart:PySem.W.kitOne K (.ref c_TooMany) (.ref c_NoHeart)=some false)
  (kit_TooMany_NoMove:PySem.W.kitOne K (.ref c_TooMany) (.ref c_NoMove)=some false)
  (kit_TooMany_NoName:PySem.W.kitOne K (.ref c_TooMany) (.ref c_NoName)=some false)
  (kit_TooMany_NoNumber:PySem.W.kitOne K (.ref c_TooMany) (.ref c_NoNumber)=some false)
  (kit_TooMany_NoRow:PySem.W.kitOne K (.ref c_TooMany) (.ref c_NoRow)=some false)
  (kit_TooMany_NoText:PySem.W.kitOne K (.ref c_TooMany) (.ref c_NoText)=some false)
  (kit_TooMany_NoWedge:PySem.W.kitOne K (.ref c_TooMany) (.ref c_NoWedge)=some false)
  (kit_TooMany_NotThere:PySem.W.kitOne K (.ref c_TooMany) (.ref c_NotThere)=some false)
  (kit_TooMany_TooGreat:PySem.W.kitOne K (.ref c_TooMany) (.ref c_TooGreat)=some false)
  (kit_TooMany_TooMany:PySem.W.kitOne K (.ref c_TooMany) (.ref c_TooMany)=some true)
  (kit_TooMany_ValueError:PySem.W.kitOne K (.ref c_TooMany) (.type "ValueError")=some true)
  (sub_NoWedge_StakeError:PySem.W.mroIn K c_NoWedge (.ref c_StakeError)=some true)
  (sub_NotThere_StakeError:PySem.W.mroIn K c_NotThere (.ref c_StakeError)=some true)
  (sub_TooMany_StakeError:PySem.W.mroIn K c_TooMany (.ref c_StakeError)=some true)
  (ty_StakeError:PySem.W.typeIn K (.ref c_StakeError)=some (.type "type"))
  (xc_NoWedge:PySem.W.XcOk K c_NoWedge)
  (xc_NotThere:PySem.W.XcOk K c_NotThere)
  (xc_TooMany:PySem.W.XcOk K c_TooMany)
  {t_MOST_NUMBERS:_} (g_MOST_NUMBERS:PySem.W.nsIn K mainGlobals "MOST_NUMBERS"=some (some (.int 100 t_MOST_NUMBERS)))
  {a_TIP:Addr} {o_TIP n_TIP sl_TIP t0_TIP t1_TIP:_} (g_TIP:PySem.W.nsIn K mainGlobals "TIP"=some (some (.ref a_TIP))) (h_TIP:K.lookup a_TIP=some ⟨.type "tuple",o_TIP,.seq #[.int 0 t0_TIP,.int 0 t1_TIP] n_TIP,sl_TIP⟩)
  :∃ T:Txt K mg,T.a_law=fa∧(∀ (s:Shared) (v:Value),BindsTo s T.d_law ⟨[v],[]⟩ [("script",v)]):=by
 have e:=hfa.symm.trans (PySem.W.mg_of X G a34)
 cases e
 have F0:=aF (st:=b_) l0 c0 k0
 have b0:=F0.binds (ps:=["thing"]) fun _ _ _ _ _ _ us hl=> ar1 (p:=fun us=> bindArgs _ ⟨us,[]⟩=pure (List.zip _ us)) hl fun _=> rfl
 have F1:=aF (st:=eR) l1 c1 k1
 have b1:=F1.binds (ps:=["number"]) fun _ _ _ _ _ _ us hl=> ar1 (p:=fun us=> bindArgs _ ⟨us,[]⟩=pure (List.zip _ us)) hl fun _=> rfl
 have F2:=aF (st:=cW) l2 c2 k2
 have b2:=F2.binds (ps:=["a","b"]) fun _ _ _ _ _ _ us hl=> ar2 (p:=fun us=> bindArgs _ ⟨us,[]⟩=pure (List.zip _ us)) hl fun _ _=> rfl
 have F3:=aF (st:=dB) l3 c3 k3
 have b3:=F3.binds (ps:=["n","q"]) fun _ _ _ _ _ _ us hl=> ar2 (p:=fun us=> bindArgs _ ⟨us,[]⟩=pure (List.zip _ us)) hl fun _ _=> rfl
 have F4:=aF (st:=bv) l4 c4 k4
 have b4:=F4.binds (ps:=["n","q"]) fun _ _ _ _ _ _ us hl=> ar2 (p:=fun us=> bindArgs _ ⟨us,[]⟩=pure (List.zip _ us)) hl fun _ _=> rfl
 have F5:=aF (st:=dJ) l5 c5 k5
 have b5:=F5.binds (ps:=["n","q"]) fun _ _ _ _ _ _ us hl=> ar2 (p:=fun us=> bindArgs _ ⟨us,[]⟩=pure (List.zip _ us)) hl fun _ _=> rfl
 have F6:=aF (st:=eD) l6 c6 k6
 have b6:=F6.binds (ps:=["move"]) fun _ _ _ _ _ _ us hl=> ar1 (p:=fun us=> bindArgs _ ⟨us,[]⟩=pure (List.zip _ us)) hl fun _=> rfl
 have F7:=aF (st:=cb) l7 c7 k7
 have b7:=F7.binds (ps:=["thing"]) fun _ _ _ _ _ _ us hl=> ar1 (p:=fun us=> bindArgs _ ⟨us,[]⟩=pure (List.zip _ us)) hl fun _=> rfl
 have F8:=aF (st:=bN) l8 c8 k8
 have b8:=F8.binds (ps:=["thing"]) fun _ _ _ _ _ _ us hl=> ar1 (p:=fun us=> bindArgs _ ⟨us,[]⟩=pure (List.zip _ us)) hl fun _=> rfl
 have F9:=aF (st:=cQ) l9 c9 k9
 have b9:=F9.binds (ps:=["P","move"]) fun _ _ _ _ _ _ us hl=> ar2 (p:=fun us=> bindArgs _ ⟨us,[]⟩=pure (List.zip _ us)) hl fun _ _=> rfl
 have F10:=aF (st:=dz) l10 c10 k10
 have b10:=F10.binds (ps:=["P","move"]) fun _ _ _ _ _ _ us hl=> ar2 (p:=fun us=> bindArgs _ ⟨us,[]⟩=pure (List.zip _ us)) hl fun _ _=> rfl
 have F11:=aF (st:=cc) l11 c11 k11
 have b11:=F11.binds (ps:=["move"]) fun _ _ _ _ _ _ us hl=> ar1 (p:=fun us=> bindArgs _ ⟨us,[]⟩=pure (List.zip _ us)) hl fun _=> rfl
 have F12:=aF (st:=dI) l12 c12 k12
 have b12:=F12.binds (ps:=["P","Q"]) fun _ _ _ _ _ _ us hl=> ar2 (p:=fun us=> bindArgs _ ⟨us,[]⟩=pure (List.zip _ us)) hl fun _ _=> rfl
 have F13:=aF (st:=dA) l13 c13 k13
 have b13:=F13.binds (ps:=["P","Q"]) fun _ _ _ _ _ _ us hl=> ar2 (p:=fun us=> bindArgs _ ⟨us,[]⟩=pure (List.zip _ us)) hl fun _ _=> rfl
 have F14:=aF (st:=eF) l14 c14 k14
 have b14:=F14.binds (ps:=["P","Q","R"]) fun _ _ _ _ _ _ us hl=> ar3 (p:=fun us=> bindArgs _ ⟨us,[]⟩=pure (List.zip _ us)) hl fun _ _ _=> rfl
 have F15:=aF (st:=ce) l15 c15 k15
 have b15:=F15.binds (ps:=["u","v"]) fun _ _ _ _ _ _ us hl=> ar2 (p:=fun us=> bindArgs _ ⟨us,[]⟩=pure (List.zip _ us)) hl fun _ _=> rfl
 have F16:=aF (st:=bw) l16 c16 k16
 have b16:=F16.binds (ps:=["u","v"]) fun _ _ _ _ _ _ us hl=> ar2 (p:=fun us=> bindArgs _ ⟨us,[]⟩=pure (List.zip _ us)) hl fun _ _=> rfl
 have F17:=aF (st:=cE) l17 c17 k17
 have b17:=F17.binds (ps:=["u","v","P"]) fun _ _ _ _ _ _ us hl=> ar3 (p:=fun us=> bindArgs _ ⟨us,[]⟩=pure (List.zip _ us)) hl fun _ _ _=> rfl
 have F18:=aF (st:=dH) l18 c18 k18
 have b18:=F18.binds (ps:=["u","v"]) fun _ _ _ _ _ _ us hl=> ar2 (p:=fun us=> bindArgs _ ⟨us,[]⟩=pure (List.zip _ us)) hl fun _ _=> rfl
 have F19:=aF (st:=cZ) l19 c19 k19
 have b19:=F19.binds (ps:=["u","v"]) fun _ _ _ _ _ _ us hl=> ar2 (p:=fun us=> bindArgs _ ⟨us,[]⟩=pure (List.zip _ us)) hl fun _ _=> rfl
 have F20:=aF (st:=dE) l20 c20 k20
 have b20:=F20.binds (ps:=["u","v"]) fun _ _ _ _ _ _ us hl=> ar2 (p:=fun us=> bindArgs _ ⟨us,[]⟩=pure (List.zip _ us)) hl fun _ _=> rfl
 have F21:=aF (st:=cC) l21 c21 k21
 have b21:=F21.binds (ps:=["P","Q"]) fun _ _ _ _ _ _ us hl=> ar2 (p:=fun us=> bindArgs _ ⟨us,[]⟩=pure (List.zip _ us)) hl fun _ _=> rfl
 have F22:=aF (st:=cI) l22 c22 k22
 have b22:=F22.binds (ps:=["u","v","P"]) fun _ _ _ _ _ _ us hl=> ar3 (p:=fun us=> bindArgs _ ⟨us,[]⟩=pure (List.zip _ us)) hl fun _ _ _=> rfl
 have F23:=aF (st:=bx) l23 c23 k23
 have b23:=F23.binds (ps:=["cell"]) fun _ _ _ _ _ _ us hl=> ar1 (p:=fun us=> bindArgs _ ⟨us,[]⟩=pure (List.zip _ us)) hl fun _=> rfl
 have F24:=aF (st:=bL) l24 c24 k24
 have b24:=F24.binds (ps:=["some","size"]) fun _ _ _ _ _ _ us hl=> ar2 (p:=fun us=> bindArgs _ ⟨us,[]⟩=pure (List.zip _ us)) hl fun _ _=> rfl
 have F25:=aF (st:=bM) l25 c25 k25
 have b25:=F25.binds (ps:=["cell"]) fun _ _ _ _ _ _ us hl=> ar1 (p:=fun us=> bindArgs _ ⟨us,[]⟩=pure (List.zip _ us)) hl fun _=> rfl
 have F26:=aF (st:=bJ) l26 c26 k26
 have b26:=F26.binds (ps:=["u","v"]) fun _ _ _ _ _ _ us hl=> ar2 (p:=fun us=> bindArgs _ ⟨us,[]⟩=pure (List.zip _ us)) hl fun _ _=> rfl
 have F27:=aF (st:=bg) l27 c27 k27
 have b27:=F27.binds (ps:=["way","u","v","P"]) fun _ _ _ _ _ _ us hl=> ar4 (p:=fun us=> bindArgs _ ⟨us,[]⟩=pure (List.zip _ us)) hl fun _ _ _ _=> rfl
 have F28:=aF (st:=br) l28 c28 k28
 have b28:=F28.binds (ps:=["place"]) fun _ _ _ _ _ _ us hl=> ar1 (p:=fun us=> bindArgs _ ⟨us,[]⟩=pure (List.zip _ us)) hl fun _=> rfl
 have F29:=aF (st:=bH) l29 c29 k29
 have b29:=F29.binds (ps:=["u","v","cell"]) fun _ _ _ _ _ _ us hl=> ar3 (p:=fun us=> bindArgs _ ⟨us,[]⟩=pure (List.zip _ us)) hl fun _ _ _=> rfl
 have F30:=aF (st:=bu) l30 c30 k30
 have b30:=F30.binds (ps:=["cell"]) fun _ _ _ _ _ _ us hl=> ar1 (p:=fun us=> bindArgs _ ⟨us,[]⟩=pure (List.zip _ us)) hl fun _=> rfl
 have F31:=aF (st:=bO) l31 c31 k31
 have b31:=F31.binds (ps:=["u","w","v","cell"]) fun _ _ _ _ _ _ us hl=> ar4 (p:=fun us=> bindArgs _ ⟨us,[]⟩=pure (List.zip _ us)) hl fun _ _ _ _=> rfl
 have F32:=aF (st:=aE) l32 c32 k32
 have b32:=F32.binds (ps:=["u","v","P"]) fun _ _ _ _ _ _ us hl=> ar3 (p:=fun us=> bindArgs _ ⟨us,[]⟩=pure (List.zip _ us)) hl fun _ _ _=> rfl
 have F33:=aF (st:=bI) l33 c33 k33
 have b33:=F33.binds (ps:=["u","v","size","P"]) fun _ _ _ _ _ _ us hl=> ar4 (p:=fun us=> bindArgs _ ⟨us,[]⟩=pure (List.zip _ us)) hl fun _ _ _ _=> rfl
 have F34:=aF (st:=fP) l34 c34 k34
 have b34:=F34.binds (ps:=["script"]) fun _ _ _ _ _ _ us hl=> ar1 (p:=fun us=> bindArgs _ ⟨us,[]⟩=pure (List.zip _ us)) hl fun _=> rfl
 exact ⟨⟨_,_,F0,b0,PySem.W.mg_of X G a0,_,_,F1,b1,PySem.W.mg_of X G a1,_,_,F2,b2,PySem.W.mg_of X G a2,_,_,F3,b3,PySem.W.mg_of X G a3,_,_,F4,b4,PySem.W.mg_of X G a4,_,_,F5,b5,PySem.W.mg_of X G a5,_,_,F6,b6,PySem.W.mg_of X G a6,_,_,F7,b7,PySem.W.mg_of X G a7,_,_,F8,b8,PySem.W.mg_of X G a8,_,_,F9,b9,PySem.W.mg_of X G a9,_,_,F10,b10,PySem.W.mg_of X G a10,_,_,F11,b11,PySem.W.mg_of X G a11,_,_,F12,b12,PySem.W.mg_of X G a12,_,_,F13,b13,PySem.W.mg_of X G a13,_,_,F14,b14,PySem.W.mg_of X G a14,_,_,F15,b15,PySem.W.mg_of X G a15,_,_,F16,b16,PySem.W.mg_of X G a16,_,_,F17,b17,PySem.W.mg_of X G a17,_,_,F18,b18,PySem.W.mg_of X G a18,_,_,F19,b19,PySem.W.mg_of X G a19,_,_,F20,b20,PySem.W.mg_of X G a20,_,_,F21,b21,PySem.W.mg_of X G a21,_,_,F22,b22,PySem.W.mg_of X G a22,_,_,F23,b23,PySem.W.mg_of X G a23,_,_,F24,b24,PySem.W.mg_of X G a24,_,_,F25,b25,PySem.W.mg_of X G a25,_,_,F26,b26,PySem.W.mg_of X G a26,_,_,F27,b27,PySem.W.mg_of X G a27,_,_,F28,b28,PySem.W.mg_of X G a28,_,_,F29,b29,PySem.W.mg_of X G a29,_,_,F30,b30,PySem.W.mg_of X G a30,_,_,F31,b31,PySem.W.mg_of X G a31,_,_,F32,b32,PySem.W.mg_of X G a32,_,_,F33,b33,PySem.W.mg_of X G a33,_,_,F34,b34,PySem.W.mg_of X G a34,_,PySem.W.mg_of X G e_Flat,_,PySem.W.mg_of X G e_NoField,_,PySem.W.mg_of X G e_NoHeart,_,x_NoMove,PySem.W.mg_of X G e_NoMove,_,PySem.W.mg_of X G e_NoName,_,x_NoNumber,PySem.W.mg_of X G e_NoNumber,_,PySem.W.mg_of X G e_NoRow,_,PySem.W.mg_of X G e_NoText,_,x_NoWedge,PySem.W.mg_of X G e_NoWedge,_,x_NotThere,PySem.W.mg_of X G e_NotThere,_,PySem.W.mg_of X G e_StakeError,_,PySem.W.mg_of X G e_TooGreat,_,x_TooMany,PySem.W.mg_of X G e_TooMany,PySem.W.mg_none_of X G z_ValueError,PySem.W.mg_none_of X G z_abs,PySem.W.mg_none_of X G z_all,PySem.W.mg_none_of X G z_bool,PySem.W.mg_none_of X G z_int,PySem.W.mg_none_of X G z_isinstance,PySem.W.mg_none_of X G z_len,PySem.W.mg_none_of X G z_list,PySem.W.mg_none_of X G z_range,PySem.W.mg_none_of X G z_sum,PySem.W.mg_none_of X G z_tuple,bx_StakeError,kit_NoWedge_Flat,kit_NoWedge_NoField,kit_NoWedge_NoHeart,kit_NoWedge_NoMove,kit_NoWedge_NoName,kit_NoWedge_NoNumber,kit_NoWedge_NoRow,kit_NoWedge_NoText,kit_NoWedge_NoWedge,kit_NoWedge_NotThere,kit_NoWedge_TooGreat,kit_NoWedge_TooMany,kit_NoWedge_ValueError,kit_NotThere_Flat,kit_NotThere_NoField,kit_NotThere_NoHeart,kit_NotThere_NoMove,kit_NotThere_NoName,kit_NotThere_NoNumber,kit_NotThere_NoRow,kit_NotThere_NoText,kit_NotThere_NoWedge,kit_NotThere_NotThere,kit_NotThere_TooGreat,kit_NotThere_TooMany,kit_NotThere_ValueError,kit_TooMany_Flat,kit_TooMany_NoField,kit_TooMany_NoHeart,kit_TooMany_NoMove,kit_TooMany_NoName,kit_TooMany_NoNumber,kit_TooMany_NoRow,kit_TooMany_NoText,kit_TooMany_NoWedge,kit_TooMany_NotThere,kit_TooMany_TooGreat,kit_TooMany_TooMany,kit_TooMany_ValueError,sub_NoWedge_StakeError,sub_NotThere_StakeError,sub_TooMany_StakeError,ty_StakeError,xc_NoWedge,xc_NotThere,xc_TooMany,⟨_,PySem.W.mg_of X G g_MOST_NUMBERS⟩,⟨_,PySem.W.mg_of X G g_TIP,_,_,_,_,_,h_TIP⟩⟩,rfl,fun s v=> .of_eq rfl⟩
abbrev spLaw (K:PySem.W.Frag):Sp:=spU K d5
theorem law_start (K:PySem.W.Frag) (H:Hp) (a:Addr) (ns:List Int) (h1:ns.length≤63) (h2:∀ m∈ns,Sz 1048576 m) (_:mq H) (h3:SqL K H a (ns.map V.int)):spLaw K [.ref a] H (fun v _=> v=.bl true) fun _ _ _=> False:=jG h1 h2 h3
theorem law_ok {P:Program} {w:World} {K:PySem.W.Frag} {mg:Str→Option Value} {fa:Addr} (h:∃ T:Txt K mg,T.a_law=fa∧(∀ (s:Shared) (v:Value),BindsTo s T.d_law ⟨[v],[]⟩ [("script",v)])):
  ∃ fd:FuncData,(∀ (s:Shared) (u:Value),BindsTo s fd ⟨[u],[]⟩ [("script",u)])∧∀ base:Heap,K.In base→base.Ns mainGlobals mg→aS P w K mg base CX0 11 fa fd ["script"] (spLaw K):=by
 obtain ⟨T,rfl,hb⟩:=h
 exact ⟨T.d_law,hb,fun base _ _=> (oF T).calm lw⟩
end My
def PySem.W.Fast.tw12729207928383884757:Unit:=()
def PySem.W.Fast.tw13631964223738441617:Unit:=()
def PySem.W.Fast.tw7058474974494016419:Unit:=()
def PySem.W.Fast.tw17932632273890025030:Unit:=()
def PySem.W.Fast.tw4162755046399369803:Unit:=()
def PySem.W.Fast.tw12946815727048957726:Unit:=()
def PySem.W.Fast.tw10666052575410668661:Unit:=()
def PySem.W.Fast.tw7046247666504286553:Unit:=()
def PySem.W.Fast.tw5254511252142441697:Unit:=()
def PySem.W.Fast.tw12392376478430846535:Unit:=()
def PySem.W.Fast.tw4857067999664269690:Unit:=()
def PySem.W.Fast.tw196533272592603358:Unit:=()
def PySem.W.Fast.tw17799553926578544375:Unit:=()
def PySem.W.Fast.tw5684546957337924172:Unit:=()
def PySem.W.Fast.tw4642932619967570348:Unit:=()
def PySem.W.Fast.tw14532709235236375906:Unit:=()
def PySem.W.Fast.tw9807813797904853201:Unit:=()
def PySem.W.Fast.tw8933502289955128606:Unit:=()
def PySem.W.Fast.tw14569278517329202019:Unit:=()
def PySem.W.Fast.tw4237728399979371737:Unit:=()
def PySem.W.Fast.tw4730876479117780754:Unit:=()
def PySem.W.Fast.tw14936914232349283573:Unit:=()
def PySem.W.Fast.tw8323621263626978671:Unit:=()
def PySem.W.Fast.tw4329377041381254528:Unit:=()
def PySem.W.Fast.tw5531786296210366160:Unit:=()
def PySem.W.Fast.tw10610485504230730140:Unit:=()
def PySem.W.Fast.tw14596247444833174890:Unit:=()
def PySem.W.Fast.tw9735361124830920982:Unit:=()
def PySem.W.Fast.tw13034405439596834879:Unit:=()
def PySem.W.Fast.tw4127289079009862755:Unit:=()
def PySem.W.Fast.tw11138810442193147104:Unit:=()
def PySem.W.Fast.tw2467923100879603244:Unit:=()
def PySem.W.Fast.tw15520436103372233412:Unit:=()
open PySem PySem.W PyProof.Rows L2
set_option maxRecDepth 100000 in
set_option maxHeartbeats 0 in
theorem PySem.Challenge.cw_stakefield_k48_refused_wedges_holds : PySem.Challenge.rw_stakefield_k48_refused_wedges.Holds := by
 w_on; o_law; k_head; (case hw=> w_witness2)
 k_fill
 refine L2.walk_ofB (l:=PySem.Challenge.rw_stakefield_k48_refused_wedges) (n:=63) (k:=11) (x:="script") (CX:=CX0) (sp:=My.spLaw) rfl (by decide) rfl ⟨rfl,by decide,by decide⟩ (fun w h Y=> by first | exact PySem.W.kIn_of Y | exact PySem.W.km_in_of Y) ?F My.law_start (fun _ _ _ _ z=> z)
 case F=>
  intro w mg fa h KX G hmg
  refine My.law_ok ?T
  refine' My.txt_mk KX G hmg ?a0 ?l0 ?c0 ?k0 ?a1 ?l1 ?c1 ?k1 ?a2 ?l2 ?c2 ?k2 ?a3 ?l3 ?c3 ?k3 ?a4 ?l4 ?c4 ?k4 ?a5 ?l5 ?c5 ?k5 ?a6 ?l6 ?c6 ?k6 ?a7 ?l7 ?c7 ?k7 ?a8 ?l8 ?c8 ?k8 ?a9 ?l9 ?c9 ?k9 ?a10 ?l10 ?c10 ?k10 ?a11 ?l11 ?c11 ?k11 ?a12 ?l12 ?c12 ?k12 ?a13 ?l13 ?c13 ?k13 ?a14 ?l14 ?c14 ?k14 ?a15 ?l15 ?c15 ?k15 ?a16 ?l16 ?c16 ?k16 ?a17 ?l17 ?c17 ?k17 ?a18 ?l18 ?c18 ?k18 ?a19 ?l19 ?c19 ?k19 ?a20 ?l20 ?c20 ?k20 ?a21 ?l21 ?c21 ?k21 ?a22 ?l22 ?c22 ?k22 ?a23 ?l23 ?c23 ?k23 ?a24 ?l24 ?c24 ?k24 ?a25 ?l25 ?c25 ?k25 ?a26 ?l26 ?c26 ?k26 ?a27 ?l27 ?c27 ?k27 ?a28 ?l28 ?c28 ?k28 ?a29 ?l29 ?c29 ?k29 ?a30 ?l30 ?c30 ?k30 ?a31 ?l31 ?c31 ?k31 ?a32 ?l32 ?c32 ?k32 ?a33 ?l33 ?c33 ?k33 ?a34 ?l34 ?c34 ?k34 ?e_Flat ?e_NoField ?e_NoHeart ?e_NoMove ?x_NoMove ?e_NoName ?e_NoNumber ?x_NoNumber ?e_NoRow ?e_NoText ?e_NoWedge ?x_NoWedge ?e_NotThere ?x_NotThere ?e_StakeError ?e_TooGreat ?e_TooMany ?x_TooMany ?z_ValueError ?z_abs ?z_all ?z_bool ?z_int ?z_isinstance ?z_len ?z_list ?z_range ?z_sum ?z_tuple ?bx_StakeError ?kit_NoWedge_Flat ?kit_NoWedge_NoField ?kit_NoWedge_NoHeart ?kit_NoWedge_NoMove ?kit_NoWedge_NoName ?kit_NoWedge_NoNumber ?kit_NoWedge_NoRow ?kit_NoWedge_NoText ?kit_NoWedge_NoWedge ?kit_NoWedge_NotThere ?kit_NoWedge_TooGreat ?kit_NoWedge_TooMany ?kit_NoWedge_ValueError ?kit_NotThere_Flat ?kit_NotThere_NoField ?kit_NotThere_NoHeart ?kit_NotThere_NoMove ?kit_NotThere_NoName ?kit_NotThere_NoNumber ?kit_NotThere_NoRow ?kit_NotThere_NoText ?kit_NotThere_NoWedge ?kit_NotThere_NotThere ?kit_NotThere_TooGreat ?kit_NotThere_TooMany ?kit_NotThere_ValueError ?kit_TooMany_Flat ?kit_TooMany_NoField ?kit_TooMany_NoHeart ?kit_TooMany_NoMove ?kit_TooMany_NoName ?kit_TooMany_NoNumber ?kit_TooMany_NoRow ?kit_TooMany_NoText ?kit_TooMany_NoWedge ?kit_TooMany_NotThere ?kit_TooMany_TooGreat ?kit_TooMany_TooMany ?kit_TooMany_ValueError ?sub_NoWedge_StakeError ?sub_NotThere_StakeError ?sub_TooMany_StakeError ?ty_StakeError ?xc_NoWedge ?xc_NotThere ?xc_TooMany ?g_MOST_NUMBERS ?g_TIP ?h_TIP
  (case a0=> k_is); (case l0=> k_is); (case c0=> k_is); (case k0=> k_is)
  (case a1=> k_is); (case l1=> k_is); (case c1=> k_is); (case k1=> k_is)
  (case a2=> k_is); (case l2=> k_is); (case c2=> k_is); (case k2=> k_is)
  (case a3=> k_is); (case l3=> k_is); (case c3=> k_is); (case k3=> k_is)
  (case a4=> k_is); (case l4=> k_is); (case c4=> k_is); (case k4=> k_is)
  (case a5=> k_is); (case l5=> k_is); (case c5=> k_is); (case k5=> k_is)
  (case a6=> k_is); (case l6=> k_is); (case c6=> k_is); (case k6=> k_is)
  (case a7=> k_is); (case l7=> k_is); (case c7=> k_is); (case k7=> k_is)
  (case a8=> k_is); (case l8=> k_is); (case c8=> k_is); (case k8=> k_is)
  (case a9=> k_is); (case l9=> k_is); (case c9=> k_is); (case k9=> k_is)
  (case a10=> k_is); (case l10=> k_is); (case c10=> k_is); (case k10=> k_is)
  (case a11=> k_is); (case l11=> k_is); (case c11=> k_is); (case k11=> k_is)
  (case a12=> k_is); (case l12=> k_is); (case c12=> k_is); (case k12=> k_is)
  (case a13=> k_is); (case l13=> k_is); (case c13=> k_is); (case k13=> k_is)
  (case a14=> k_is); (case l14=> k_is); (case c14=> k_is); (case k14=> k_is)
  (case a15=> k_is); (case l15=> k_is); (case c15=> k_is); (case k15=> k_is)
  (case a16=> k_is); (case l16=> k_is); (case c16=> k_is); (case k16=> k_is)
  (case a17=> k_is); (case l17=> k_is); (case c17=> k_is); (case k17=> k_is)
  (case a18=> k_is); (case l18=> k_is); (case c18=> k_is); (case k18=> k_is)
  (case a19=> k_is); (case l19=> k_is); (case c19=> k_is); (case k19=> k_is)
  (case a20=> k_is); (case l20=> k_is); (case c20=> k_is); (case k20=> k_is)
  (case a21=> k_is); (case l21=> k_is); (case c21=> k_is); (case k21=> k_is)
  (case a22=> k_is); (case l22=> k_is); (case c22=> k_is); (case k22=> k_is)
  (case a23=> k_is); (case l23=> k_is); (case c23=> k_is); (case k23=> k_is)
  (case a24=> k_is); (case l24=> k_is); (case c24=> k_is); (case k24=> k_is)
  (case a25=> k_is); (case l25=> k_is); (case c25=> k_is); (case k25=> k_is)
  (case a26=> k_is); (case l26=> k_is); (case c26=> k_is); (case k26=> k_is)
  (case a27=> k_is); (case l27=> k_is); (case c27=> k_is); (case k27=> k_is)
  (case a28=> k_is); (case l28=> k_is); (case c28=> k_is); (case k28=> k_is)
  (case a29=> k_is); (case l29=> k_is); (case c29=> k_is); (case k29=> k_is)
  (case a30=> k_is); (case l30=> k_is); (case c30=> k_is); (case k30=> k_is)
  (case a31=> k_is); (case l31=> k_is); (case c31=> k_is); (case k31=> k_is)
  (case a32=> k_is); (case l32=> k_is); (case c32=> k_is); (case k32=> k_is)
  (case a33=> k_is); (case l33=> k_is); (case c33=> k_is); (case k33=> k_is)
  (case a34=> k_is); (case l34=> k_is); (case c34=> k_is); (case k34=> k_is)
  (case e_Flat=> k_is)
  (case e_NoField=> k_is)
  (case e_NoHeart=> k_is)
  (case e_NoMove=> k_is); (case x_NoMove=> k_exc)
  (case e_NoName=> k_is)
  (case e_NoNumber=> k_is); (case x_NoNumber=> k_exc)
  (case e_NoRow=> k_is)
  (case e_NoText=> k_is)
  (case e_NoWedge=> k_is); (case x_NoWedge=> k_exc)
  (case e_NotThere=> k_is); (case x_NotThere=> k_exc)
  (case e_StakeError=> k_is)
  (case e_TooGreat=> k_is)
  (case e_TooMany=> k_is); (case x_TooMany=> k_exc)
  (case z_ValueError=> k_is)
  (case z_abs=> k_is)
  (case z_all=> k_is)
  (case z_bool=> k_is)
  (case z_int=> k_is)
  (case z_isinstance=> k_is)
  (case z_len=> k_is)
  (case z_list=> k_is)
  (case z_range=> k_is)
  (case z_sum=> k_is)
  (case z_tuple=> k_is)
  (case bx_StakeError=> k_is)
  (case kit_NoWedge_Flat=> kit_is)
  (case kit_NoWedge_NoField=> kit_is)
  (case kit_NoWedge_NoHeart=> kit_is)
  (case kit_NoWedge_NoMove=> kit_is)
  (case kit_NoWedge_NoName=> kit_is)
  (case kit_NoWedge_NoNumber=> kit_is)
  (case kit_NoWedge_NoRow=> kit_is)
  (case kit_NoWedge_NoText=> kit_is)
  (case kit_NoWedge_NoWedge=> kit_is)
  (case kit_NoWedge_NotThere=> kit_is)
  (case kit_NoWedge_TooGreat=> kit_is)
  (case kit_NoWedge_TooMany=> kit_is)
  (case kit_NoWedge_ValueError=> kit_is)
  (case kit_NotThere_Flat=> kit_is)
  (case kit_NotThere_NoField=> kit_is)
  (case kit_NotThere_NoHeart=> kit_is)
  (case kit_NotThere_NoMove=> kit_is)
  (case kit_NotThere_NoName=> kit_is)
  (case kit_NotThere_NoNumber=> kit_is)
  (case kit_NotThere_NoRow=> kit_is)
  (case kit_NotThere_NoText=> kit_is)
  (case kit_NotThere_NoWedge=> kit_is)
  (case kit_NotThere_NotThere=> kit_is)
  (case kit_NotThere_TooGreat=> kit_is)
  (case kit_NotThere_TooMany=> kit_is)
  (case kit_NotThere_ValueError=> kit_is)
  (case kit_TooMany_Flat=> kit_is)
  (case kit_TooMany_NoField=> kit_is)
  (case kit_TooMany_NoHeart=> kit_is)
  (case kit_TooMany_NoMove=> kit_is)
  (case kit_TooMany_NoName=> kit_is)
  (case kit_TooMany_NoNumber=> kit_is)
  (case kit_TooMany_NoRow=> kit_is)
  (case kit_TooMany_NoText=> kit_is)
  (case kit_TooMany_NoWedge=> kit_is)
  (case kit_TooMany_NotThere=> kit_is)
  (case kit_TooMany_TooGreat=> kit_is)
  (case kit_TooMany_TooMany=> kit_is)
  (case kit_TooMany_ValueError=> kit_is)
  (case sub_NoWedge_StakeError=> k_is)
  (case sub_NotThere_StakeError=> k_is)
  (case sub_TooMany_StakeError=> k_is)
  (case ty_StakeError=> k_is)
  (case xc_NoWedge=> exact ⟨by k_is,by k_is,by k_is,by k_is,by k_is,by k_is,by k_is⟩)
  (case xc_NotThere=> exact ⟨by k_is,by k_is,by k_is,by k_is,by k_is,by k_is,by k_is⟩)
  (case xc_TooMany=> exact ⟨by k_is,by k_is,by k_is,by k_is,by k_is,by k_is,by k_is⟩)
  (case g_MOST_NUMBERS=> k_is)
  (case g_TIP=> k_is); (case h_TIP=> k_is)
