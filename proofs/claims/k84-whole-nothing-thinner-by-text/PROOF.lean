import PyProof.Rows.All
import Wide.All
import OpenK.AllK
import Wide.FinOn
import Lean
import PyProof.EqAt
import PyProof.EqKinds
import PyProof.NeKinds
import PyProof.TupleCall
import KE.KDictSum
import KE.KSortTup
import KE.KRevIter
import KE.KRevSl
import PySem.Challenge.RW_stakefield_k84_whole_nothing_thinner_by
set_option Elab.async false
set_option linter.all false
set_option maxRecDepth 100000
namespace L2
open PySem PySem.Spec PyProof.Rows
abbrev Key:=Sum Int Str
def kR:Key→Value→Bool
 | .inl k,v=> Value.isInt k v
 | .inr x,v=> Value.isStrOf x v
def Bo (w:World):Key→Int
 | .inl k=> hashInt k
 | .inr x=> hashStr w x
theorem bE:∀ {k:Key} {v:Value},kR k v=true→(∃ i t,k=Sum.inl i∧v=Value.int i t)∨(∃ x t,k=Sum.inr x∧v=Value.str x t)
 | .inl i,v,h=> by
  obtain ⟨t,e⟩:=Value.isInt_shape (k:=i) (v:=v) h
  exact .inl ⟨i,t,rfl,e⟩
 | .inr x,v,h=> by
  obtain ⟨t,e⟩:=Value.isStrOf_shape (x:=x) (v:=v) h
  exact .inr ⟨x,t,rfl,e⟩
theorem rO (i:Int) (t:Tok):kR (.inl i) (.int i t)=true:=by simp [kR,Value.isInt]
theorem rF (x:Str) (t:Tok):kR (.inr x) (.str x t)=true:=by simp [kR,Value.isStrOf]
theorem yL (a b:Int):decide ((Sum.inl a:Key)=Sum.inl b)=(a==b):=by
 by_cases e:a=b
 ·subst e; simp
 ·have h:¬ (Sum.inl a:Key)=Sum.inl b:=fun q=> e (Sum.inl.inj q)
  rw [decide_eq_false h]
  exact (beq_eq_false_iff_ne.mpr e).symm
theorem y8 (a b:Str):decide ((Sum.inr a:Key)=Sum.inr b)=decide (a=b):=by
 by_cases e:a=b
 ·subst e; simp
 ·have h:¬ (Sum.inr a:Key)=Sum.inr b:=fun q=> e (Sum.inr.inj q)
  rw [decide_eq_false h,decide_eq_false e]
theorem zF (a:Int) (b:Str):decide ((Sum.inl a:Key)=Sum.inr b)=false:=decide_eq_false (fun q=> nomatch q)
theorem yQ (a:Str) (b:Int):decide ((Sum.inr a:Key)=Sum.inl b)=false:=decide_eq_false (fun q=> nomatch q)
def ck (prog:Program) (w:World):PySem.KeyKind prog w Key where
 is:=kR
 hash:=Bo w
 inj:=fun v a b ha hb=> by
  rcases bE ha with ⟨i,t,rfl,rfl⟩ | ⟨x,t,rfl,rfl⟩
  ·rcases bE hb with ⟨j,u,rfl,e⟩ | ⟨y,u,rfl,e⟩
   ·injection e with e1 _; rw [e1]
   ·exact nomatch e
  ·rcases bE hb with ⟨j,u,rfl,e⟩ | ⟨y,u,rfl,e⟩
   ·exact nomatch e
   ·injection e with e1 _; rw [e1]
 byValue:=fun k v h=> by
  rcases bE h with ⟨i,t,rfl,rfl⟩ | ⟨x,t,rfl,rfl⟩ <;> rfl
 pyHash:=fun hv h=> by
  rcases bE hv with ⟨i,t,rfl,rfl⟩ | ⟨x,t,rfl,rfl⟩
  ·exact wpAny_pyHash_int h
  ·exact wpAny_pyHash_str h
 eqBool:=fun hu hv h=> by
  rcases bE hu with ⟨i,t,rfl,rfl⟩ | ⟨x,t,rfl,rfl⟩
  ·rcases bE hv with ⟨j,u,rfl,rfl⟩ | ⟨y,u,rfl,rfl⟩
   ·rw [yL] at h; exact wpAny_eqBool_int h
   ·rw [zF] at h; exact SeqAt.EqAt.int_str i t y u _ _ _ _ h
  ·rcases bE hv with ⟨j,u,rfl,rfl⟩ | ⟨y,u,rfl,rfl⟩
   ·rw [yQ] at h; exact SeqAt.EqAt.str_int x t j u _ _ _ _ h
   ·rw [y8] at h; exact wpAny_eqBool_str h
 «strs»:=fun k x t v h=> by
  rcases bE h with ⟨i,u,rfl,e⟩ | ⟨y,u,rfl,e⟩
  ·exact nomatch e
  ·injection e with e1 _
   subst e1
   cases v <;> rfl
theorem mR (prog:Program) (w:World) (i:Int) (t:Tok):(ck prog w).is (.inl i) (.int i t)=true:=rO i t
theorem mG (prog:Program) (w:World) (x:Str) (t:Tok):(ck prog w).is (.inr x) (.str x t)=true:=rF x t
end L2
namespace L2
open PySem PySem.Spec PyProof.Rows
inductive V where
 | non | bl (b:Bool) | int (i:Int) | str (x:Str) | byt (b:Array UInt8) | flt (b:UInt64) | ref (a:Addr) | ty (n:String)
 deriving DecidableEq
def aT:V→Value→Prop
 | .non,u=> u=Value.none
 | .bl b,u=> u=Value.bool b
 | .int i,u=> ∃ t,u=Value.int i t
 | .str x,u=> ∃ t,u=Value.str x t
 | .byt b,u=> ∃ t,u=Value.bytes b t
 | .flt b,u=> ∃ t,u=Value.float b t
 | .ref a,u=> u=Value.ref a
 | .ty n,u=> u=Value.type n
abbrev aI:List V→List Value→Prop:=Paired aT
theorem aI.length {xs:List V} {us:List Value} (r:aI xs us):xs.length=us.length:=Paired.length r
theorem aI.get:∀ {xs:List V} {us:List Value} {i:Nat} {x:V},aI xs us→xs[i]?=some x→∃ u,us[i]?=some u∧aT x u
 | _,_,_,_,.nil,e=> by simp at e
 | _,_,0,_,.cons r _,e=> by simp at e; subst e; exact ⟨_,rfl,r⟩
 | _,_,i+1,x,.cons _ t,e=> by
  obtain ⟨u,h1,h2⟩:=aI.get (i:=i) (x:=x) t (by simpa using e)
  exact ⟨u,by simpa using h1,h2⟩
theorem aI.append:∀ {xs ys:List V} {us ws:List Value},aI xs us→aI ys ws→aI (xs++ys) (us++ws)
 | _,_,_,_,.nil,s=> s
 | _,_,_,_,.cons r t,s=> .cons r (aI.append t s)
theorem aI.take:∀ {xs:List V} {us:List Value} (n:Nat),aI xs us→aI (xs.take n) (us.take n)
 | _,_,0,_=> .nil
 | _,_,_+1,.nil=> .nil
 | _,_,n+1,.cons r t=> .cons r (aI.take n t)
theorem aI.drop:∀ {xs:List V} {us:List Value} (n:Nat),aI xs us→aI (xs.drop n) (us.drop n)
 | _,_,0,r=> r
 | _,_,_+1,.nil=> .nil
 | _,_,n+1,.cons _ t=> aI.drop n t
def fQ:Option V→Option Value→Prop
 | some v,some u=> aT v u
 | none,none=> True
 | _,_=> False
def KV {κ:Type}:List (κ×V)→List (κ×Value)→Prop:=Paired fun (p:κ×V) (q:κ×Value)=> p.1=q.1∧aT p.2 q.2
def kV:Key→V
 | .inl i=> .int i
 | .inr x=> .str x
inductive HO where
 /-- a list -/
 | lst (xs:List V)
 /-- a tuple (never changes) -/
 | tup (xs:List V)
 /-- a dict whose keys are ints and texts; one whose keys are tuples of ints and texts (the empty one is both) -/
 | dK (kvs:List (Key×V)) | dT (kvs:List (List Key×V))
 /-- a set of ints:its members,its size -/
 | set (S:Int→Bool) (n:Nat)
 /-- an instance of the class at C,its dict at dx,its attributes -/
 | ins (C dx:Addr) (fs:List (Str×V))
 /-- the dict of the instance at x -/
 | own (x:Addr)
 /-- the dict of an exception -/
 | xd (fs:List (Str×V))
 /-- a bound method,f of x -/
 | met (f x:Addr)
 /-- a range object lo,lo+1,.. below hi -/
 | rng (lo hi:Int)
 /-- a thing that is known to the object (the script; a dict while a loop walks it):read,never written while it is so -/
 | frz (o:Obj) (u:HO)
 /-- a code object's table -/
 | tbl (ps:Array Value)
 /-- any other thing,by what is true of its one object (a def of one's own:SetO a S n:=HO.ext fun h=> ..) -/
 | ext (φ:Heap→Prop)
abbrev Hp:=Addr→Option HO
def upd (H:Hp) (a:Addr) (o:HO):Hp:=fun b=> if b=a then some o else H b
theorem aD {H:Hp} {a:Addr} {o:HO}:upd H a o a=some o:=by unfold upd; rw [if_pos rfl]
theorem aF {H:Hp} {a b:Addr} {o:HO} (h:b≠a):upd H a o b=H b:=by unfold upd; rw [if_neg h]
theorem Aq {H:Hp} {a b:Addr} {o u:HO} (h:H a=some o) (h':H b=some u) (d:o≠u):a≠b:=by
 intro e; subst e; rw [h] at h'; exact d (Option.some.inj h')
theorem cO {H:Hp} {a b:Addr} {o:HO} (h:H a=some o) (h':H b=none):a≠b:=by
 intro e; subst e; rw [h] at h'; cases h'
section
variable (P:Program) (w:World)
def bG (H:Hp) (h:Heap) (a:Addr):HO→Prop
 | .lst xs=> xs.length≤sizeLine∧∃ (its:List Value) (n:Nat),aI xs its∧h.get? a=some { cls:=.type "list",data:=.seq its.toArray n }
 | .tup xs=> xs.length≤sizeLine∧∃ its:List Value,aI xs its∧IsTup h a its.toArray
 | .dK kvs=> kvs.length≤sizeLine∧(a==sysModules)=false∧∃ vs,KV kvs vs∧h.DictOf (ck P w) a vs
 | .dT kvs=> kvs.length≤sizeLine∧(a==sysModules)=false∧∃ xs:List (List Key×Addr×Value),
   Paired (fun (p:List Key×V) (q:List Key×Addr×Value)=> p.1=q.1∧H q.2.1=some (.tup (p.1.map kV))∧aT p.2 q.2.2) kvs xs∧
   ∃ o es ep,h.get? a=some o∧o.ExactDict∧o.data=.dict es ep∧es.toList=xs.map (entryOfKey (tupleKind (ck P w)))∧(xs.map (·.1)).Nodup
 | .set S n=> h.SetOf (intKind P w) a S n
 | .ins C dx fs=> H dx=some (.own a)∧fs.length≤1000∧dx≠a∧h.get? a=some (PySem.W.instObj C dx)∧
   ∃ mA,h.Ns1 dx mA∧(∀ f,fQ (fs.lookup f) (mA f))∧PySem.Within mA (fs.map (·.1))
 | .own _=> ∃ o,h.get? a=some o
 | .xd fs=> ∃ mA,h.Ns1 a mA∧∀ f,fQ (fs.lookup f) (mA f)
 | .rng lo hi=> ∃ t u v,h.get? a=some { cls:=.type "range",data:=.fields #[.int lo t,.int hi u,.int 1 v] }
 | .frz o u=> h.get? a=some o∧bG H h a u
 | .tbl ps=> h.get? a=some { cls:=.none,data:=.fields ps }
 | .met f x=> h.get? a=some (PySem.W.methodObj (.ref f) (.ref x))
 | .ext φ=> φ h∧(∃ o,h.get? a=some o)∧∀ h1 h2:Heap,φ h1→(∀ o,h1.get? a=some o→h2.get? a=some o)→φ h2
def HOk (H:Hp) (h:Heap):Prop:=∀ a o,H a=some o→bG P w H h a o
end
section
variable {P:Program} {w:World} {H H':Hp} {h h':Heap} {a:Addr} {o:HO}
theorem bG.lt (x:bG P w H h a o):a < h.objs.size:=by
 cases o with
 | lst xs=> obtain ⟨_,_,_,_,e⟩:=x; exact Heap.lt_size e
 | tup xs=> obtain ⟨_,_,_,p⟩:=x; exact p.lt
 | dK kvs=> obtain ⟨_,_,_,_,o,_,_,e,_⟩:=x; exact Heap.lt_size e
 | dT kvs=> obtain ⟨_,_,_,_,o,_,_,e,_⟩:=x; exact Heap.lt_size e
 | set S n=> obtain ⟨o,_,_,_,e,_⟩:=x; exact Heap.lt_size e
 | ins C dx fs=> obtain ⟨_,_,_,e,_⟩:=x; exact Heap.lt_size e
 | own y=> obtain ⟨_,e⟩:=x; exact Heap.lt_size e
 | xd fs=> obtain ⟨_,⟨_,_,_,e,_⟩,_⟩:=x; exact Heap.lt_size e
 | rng lo hi=> obtain ⟨_,_,_,e⟩:=x; exact Heap.lt_size e
 | frz ob u=> obtain ⟨e,_⟩:=x; exact Heap.lt_size e
 | tbl ps=> exact Heap.lt_size (show h.get? a=some _ from x)
 | met f y=> exact Heap.lt_size (show h.get? a=some _ from x)
 | ext φ=> obtain ⟨_,⟨_,e⟩,_⟩:=x; exact Heap.lt_size e
theorem Paired.mapP {α β:Type} {F G:α→β→Prop}:∀ {l₁:List α} {l₂:List β},Paired F l₁ l₂→(∀ a b,F a b→G a b)→Paired G l₁ l₂
 | _,_,.nil,_=> .nil
 | _,_,.cons r t,f=> .cons (f _ _ r) (Paired.mapP t f)
theorem bG.stay (x:bG P w H h a o) (k:∀ b u,(b=a∨H b=some (.own a))→h.get? b=some u→h'.get? b=some u)
  (ho:∀ b,H b=some (.own a)→H' b=some (.own a)) (ht:∀ b xs,H b=some (.tup xs)→H' b=some (.tup xs)):bG P w H' h' a o:=by
 induction o with
 | lst xs=> obtain ⟨z,its,n,r,e⟩:=x; exact ⟨z,its,n,r,k _ _ (.inl rfl) e⟩
 | tup xs=> obtain ⟨z,its,r,ob,e,c⟩:=x; exact ⟨z,its,r,ob,k _ _ (.inl rfl) e,c⟩
 | dK kvs=> obtain ⟨z,y,vs,r,ob,es,ep,e,c⟩:=x; exact ⟨z,y,vs,r,ob,es,ep,k _ _ (.inl rfl) e,c⟩
 | dT kvs=>
  obtain ⟨z,y,xs,r,ob,es,ep,e,c⟩:=x
  exact ⟨z,y,xs,Paired.mapP r fun p q z=> ⟨z.1,ht _ _ z.2.1,z.2.2⟩,ob,es,ep,k _ _ (.inl rfl) e,c⟩
 | set S n=> obtain ⟨ob,es,ep,t,e,c⟩:=x; exact ⟨ob,es,ep,t,k _ _ (.inl rfl) e,c⟩
 | ins C dx fs=>
  obtain ⟨d,z,ne,e,mA,⟨od,es,ep,e2,c⟩,r⟩:=x
  exact ⟨ho _ d,z,ne,k _ _ (.inl rfl) e,mA,⟨od,es,ep,k _ _ (.inr d) e2,c⟩,r⟩
 | own y=> obtain ⟨ob,e⟩:=x; exact ⟨ob,k _ _ (.inl rfl) e⟩
 | xd fs=> obtain ⟨mA,⟨od,es,ep,e,c⟩,r⟩:=x; exact ⟨mA,⟨od,es,ep,k _ _ (.inl rfl) e,c⟩,r⟩
 | rng lo hi=> obtain ⟨t,u,v,e⟩:=x; exact ⟨t,u,v,k _ _ (.inl rfl) e⟩
 | frz ob u ih=> obtain ⟨e,q⟩:=x; exact ⟨k _ _ (.inl rfl) e,ih q⟩
 | tbl ps=>
  have e:h.get? a=some { cls:=.none,data:=.fields ps }:=x
  show h'.get? a=some { cls:=.none,data:=.fields ps }
  exact k a _ (.inl rfl) e
 | met f y=>
  have e:h.get? a=some (PySem.W.methodObj (.ref f) (.ref y)):=x
  show h'.get? a=some (PySem.W.methodObj (.ref f) (.ref y))
  exact k a _ (.inl rfl) e
 | ext φ=> obtain ⟨p,⟨o,e⟩,st⟩:=x; exact ⟨st _ _ p fun o q=> k _ _ (.inl rfl) q,⟨o,k _ _ (.inl rfl) e⟩,st⟩
theorem HOk.lt (x:HOk P w H h) (e:H a=some o):a < h.objs.size:=(x a o e).lt
theorem HOk.fresh (x:HOk P w H h) (e:h.objs.size≤a):H a=none:=by
 cases q:H a with
 | none=> rfl
 | some u=> exact absurd (Nat.lt_of_lt_of_le (x.lt q) e) (Nat.lt_irrefl _)
theorem HOk.kept (x:HOk P w H h) (k:∀ b u,h.get? b=some u→h'.get? b=some u):HOk P w H h':=fun a o e=>
 (x a o e).stay (fun b u _ q=> k b u q) (fun _ q=> q) fun _ _ q=> q
theorem HOk.laid (x:HOk P w H h) (k:∀ b u,h.get? b=some u→h'.get? b=some u) (hp:h.objs.size≤a) (new:bG P w (upd H a o) h' a o):HOk P w (upd H a o) h':=fun b u e=> by
 have hn:=x.fresh hp
 by_cases hb:b=a
 ·subst hb; rw [aD] at e; cases e; exact new
 ·rw [aF hb] at e
  exact (x b u e).stay (fun c v _ q=> k c v q) (fun c q=> by rw [aF (cO q hn)]; exact q) fun c xs q=> by rw [aF (cO q hn)]; exact q
end
def Rd (H:Hp) (a:Addr) (u:HO):Prop:=H a=some u∨∃ o,H a=some (.frz o u)
theorem Rd.ok {P:Program} {w:World} {H:Hp} {h:Heap} {a:Addr} {u:HO} (r:Rd H a u) (x:HOk P w H h):bG P w H h a u:=by
 rcases r with r | ⟨o,r⟩
 ·exact x a u r
 ·obtain ⟨_,q⟩:=x a _ r
  exact q
def Mut:Option HO→Prop
 | some (.lst _)=> True
 | some (.dK _)=> True
 | some (.dT _)=> True
 | some (.set _ _)=> True
 | some (.ins _ _ _)=> True
 | some (.ext _)=> True
 | _=> False
section
variable {P:Program} {w:World} {H:Hp} {h h':Heap} {x e:Addr} {o':HO}
theorem HOk.write (ok:HOk P w H h) (mu:Mut (H x)) (he:e=x∨H e=some (.own x)) (k:∀ b u,b≠e→h.get? b=some u→h'.get? b=some u) (heo:∃ u,h'.get? e=some u)
  (new:bG P w (upd H x o') h' x o'):HOk P w (upd H x o') h':=fun b u q=> by
 have nown:∀ c y,H c=some (.own y)→c≠x:=fun c y r z=> by subst z; rw [r] at mu; exact mu
 have ntup:∀ c xs,H c=some (.tup xs)→c≠x:=fun c xs r z=> by subst z; rw [r] at mu; exact mu
 by_cases hb:b=x
 ·subst hb; rw [aD] at q; cases q; exact new
 ·rw [aF hb] at q
  by_cases hbe:b=e
  ·have q':H b=some (.own x):=by
    rcases he with z | z
    ·exact absurd (hbe.trans z) hb
    ·rw [hbe]; exact z
   rw [q] at q'; cases q'
   obtain ⟨v,hv⟩:=heo
   exact ⟨v,by rw [hbe]; exact hv⟩
  ·refine (ok b u q).stay (fun c v hc r=> k c v ?_ r) (fun c r=> by rw [aF (nown c b r)]; exact r) fun c xs r=> by rw [aF (ntup c xs r)]; exact r
   rcases hc with rfl | hc
   ·exact hbe
   ·rintro rfl
    rcases he with z | z
    ·exact nown c b hc z
    ·rw [hc] at z; cases z; exact hb rfl
end
structure Un (fs ex:List Addr) (H H':Hp) (h h':Heap):Prop where
 keep:∀ b o,h.get? b=some o→H b=none→b ∉ fs→b ∉ ex→h'.get? b=some o
 slot:∀ b o,h.get? b=some o→H b=none→b∈fs→b ∉ ex→∃ sl,h'.get? b=some { o with slots:=sl }
 free:∀ b o,h.get? b=some o→H b=none→b ∉ ex→H' b=none
 there:∀ b o,h.get? b=some o→b ∉ ex→∃ o',h'.get? b=some o'
 tups:∀ b xs,H b=some (.tup xs)→H' b=some (.tup xs)
 frzs:∀ b o u,H b=some (.frz o u)→H' b=some (.frz o u)
 tbls:∀ b ps,H b=some (.tbl ps)→∃ more,H' b=some (.tbl (ps++more))
section
variable {fs fs' ex ex':List Addr} {H H1 H2:Hp} {h h1 h2 h':Heap} {a x e:Addr} {o:HO}
theorem Un.any (u:Un fs ex H H1 h h1) {b:Addr} {ob:Obj} (q:h.get? b=some ob) (n:H b=none) (hx:b ∉ ex):∃ sl,h1.get? b=some { ob with slots:=sl }:=by
 by_cases hb:b∈fs
 ·exact u.slot b ob q n hb hx
 ·exact ⟨ob.slots,u.keep b ob q n hb hx⟩
theorem Un.kept (k:∀ b u,h.get? b=some u→h'.get? b=some u):Un fs ex H H h h':=
 ⟨fun b ob q _ _ _=> k b ob q,fun b ob q _ _ _=> ⟨ob.slots,k b ob q⟩,fun _ _ _ n _=> n,fun b ob q _=> ⟨ob,k b ob q⟩,fun _ _ q=> q,fun _ _ _ q=> q,fun _ ps q=> ⟨#[],by rw [q]; simp⟩⟩
theorem Un.refl:Un fs ex H H h h:=Un.kept fun _ _ q=> q
theorem Un.laid (k:∀ b u,h.get? b=some u→h'.get? b=some u) (hp:h.objs.size≤a) (hn:H a=none):Un fs ex H (upd H a o) h h' where
 keep:=fun b u q _ _ _=> k b u q
 slot:=fun b u q _ _ _=> ⟨u.slots,k b u q⟩
 free:=fun b u q n _=> by rw [aF (Nat.ne_of_lt (Nat.lt_of_lt_of_le (Heap.lt_size q) hp))]; exact n
 there:=fun b u q _=> ⟨u,k b u q⟩
 tups:=fun b xs q=> by rw [aF (cO q hn)]; exact q
 frzs:=fun b u xs q=> by rw [aF (cO q hn)]; exact q
 tbls:=fun b ps q=> ⟨#[],by rw [aF (cO q hn),q]; simp⟩
theorem Un.write (mu:Mut (H x)) (he:e=x∨H e=some (.own x)) (k:∀ b u,b≠e→h.get? b=some u→h'.get? b=some u) (heo:∃ u,h'.get? e=some u):Un fs ex H (upd H x o) h h':=by
 have hx:∀ b,H b=none→b≠x:=fun b n z=> by subst z; rw [n] at mu; exact mu
 have hb:∀ b,H b=none→b≠e:=fun b n z=> by
  subst z
  rcases he with r | r
  ·exact hx b n r
  ·rw [n] at r; cases r
 have hm:∀ b u,H b=some u→¬ Mut (some u)→b≠x:=fun b u q nm z=> by subst z; rw [q] at mu; exact nm mu
 refine ⟨fun b u q n _ _=> k b u (hb b n) q,fun b u q n _ _=> ⟨u.slots,k b u (hb b n) q⟩,fun b u q n _=> by rw [aF (hx b n)]; exact n,fun b u q _=> ?_,
  fun b xs q=> by rw [aF (hm b _ q fun z=> z)]; exact q,fun b u xs q=> by rw [aF (hm b _ q fun z=> z)]; exact q,fun b ps q=> ⟨#[],by rw [aF (hm b _ q fun z=> z),q]; simp⟩⟩
 by_cases hbe:b=e
 ·subst hbe; exact heo
 ·exact ⟨u,k b u hbe q⟩
end
def trk (h:Heap) (H:Hp):List Addr:=(List.range h.objs.size).filter fun a=> (H a).isSome
def lf (h:Heap) (H:Hp):Heap:=PySem.W.hideAll h (trk h H)
theorem sH (h:Heap) (H:Hp):(lf h H).objs.size=h.objs.size:=PySem.W.hideAll_size _ _
theorem uf {h:Heap} {H:Hp} {b:Addr} {o:Obj} (e:h.get? b=some o) (n:H b=none):(lf h H).get? b=some o:=
 PySem.W.hideAll_get _ e fun hm=> by
  have q:(H b).isSome=true:=(List.mem_filter.mp hm).2
  rw [n] at q; simp at q
theorem v4 {h:Heap} {H:Hp} {b:Addr} {o:Obj} (e:(lf h H).get? b=some o):h.get? b=some o∧H b=none:=by
 have e':h.get? b=some o:=PySem.W.of_hideAll (trk h H) e
 refine ⟨e',?_⟩
 cases q:H b with
 | none=> rfl
 | some x=>
  have hm:b∈trk h H:=List.mem_filter.mpr ⟨List.mem_range.mpr (Heap.lt_size e'),by simp [q]⟩
  have z:(lf h H).get? b=none:=PySem.W.hideAll_none (trk h H) hm
  rw [z] at e; cases e
def wo (g h:Heap) (L:Addr):List (Addr×Obj):=(List.range h.objs.size).filterMap fun a=> if a=L∨(g.get? a).isSome=true then none else (h.get? a).map fun o=> (a,o)
def rest (g h:Heap) (L d:Addr):List (Addr×Obj):=(wo g h L).filter fun p=> decide (p.1≠d)
end L2
namespace L2
open PySem PySem.Spec PyProof.Rows
structure Mod (K:PySem.W.Frag) (mg:Str→Option Value) (base:Heap):Prop where
 kin:K.In base
 glob:base.Ns mainGlobals mg
 blt:∃ mb,base.Ns builtinsNs mb∧∀ x:Str,x≠"__name__"→mb x=bootBuiltins x
 nolimit:base.NoLimit
structure Cx where
 prog:Program
 w:World
 K:PySem.W.Frag
 mg:Str→Option Value
 base:Heap
 A:Around
 N:List Str
 s₀:Shared
 H₀:Hp
 env:Env
 outer:List Env
 stack:List Env
 ex:List Addr
 fn:Str→Bool
 calm:Bool
 pn:List (Addr×Obj)
 xe:Value→Shared→Prop
def frs (l:List Env):List Addr:=l.filterMap (·.frame)
abbrev Cx.fs (X:Cx):List Addr:=frs X.outer
def Vis (sc:Scope) (x:Str):Prop:=sc.names.lookup x=some .local∨sc.names.lookup x=some .cell∨sc.names.lookup x=some .free
def Loc (sc:Scope) (x:Str):Prop:=sc.names.lookup x=some .local∨sc.names.lookup x=some .cell
def Bu (env:Env) (h:Heap) (m:Str→Option Value) (x:Str) (u:Value):Prop:=
 (env.kindOf x=some .local∧m x=some u)∨((env.kindOf x=some .cell∨env.kindOf x=some .free)∧∃ c,env.cells.lookup x=some c∧h.IsCell c (some u))
structure Cx.Ok (X:Cx):Prop where
 mod:Mod X.K X.mg X.base
 kind:X.env.scope.kind=.function
 glob:X.env.globals=mainGlobals
 blt:X.env.builtins=builtinsNs
 above:X.s₀.heap.objs.size≤X.env.locals
 inj:∀ x y c,X.env.cells.lookup x=some c→X.env.cells.lookup y=some c→x=y
 has:∀ x,(X.env.kindOf x=some .cell∨X.env.kindOf x=some .free)→∃ c,X.env.cells.lookup x=some c
 cab:∀ x c,X.fn x=true→X.env.cells.lookup x=some c→X.s₀.heap.objs.size≤c
 hd:X.calm=true→X.A.handled=none
 frames:X.A.frames=some X.stack
 stk:X.stack=X.outer∨(X.stack=X.env::X.outer∧X.env.frame=some X.env.locals)
 exf:∀ b∈X.ex,b≠X.env.locals∧∀ x c,X.env.cells.lookup x=some c→c≠b
 bs:∀ b o,X.base.get? b=some o→X.s₀.heap.get? b=some o∧X.H₀ b=none
 bsz:X.base.objs.size≤X.s₀.heap.objs.size
 noex:∀ b o,X.base.get? b=some o→b ∉ X.ex
 exfs:∀ b∈X.ex,b ∉ X.fs
 funs:X.s₀.heap.FunFrames X.base X.outer
 frf:∀ b∈X.fs,X.H₀ b=none
structure Inv (X:Cx) (pins:List (Addr×Obj)) (σ:List (Option V)) (H:Hp) (s:Shared):Prop where
 ok:X.Ok
 os:s.os=X.s₀.os
 bare:AllBare s.gens
 base:Un X.fs X.ex X.H₀ H X.s₀.heap s.heap
 loc:∃ m,s.heap.Ns X.env.locals m∧∀ (i:Nat) (x:Str) (v:V),X.N[i]?=some x→σ[i]?=some (some v)→Vis X.env.scope x→∃ u,aT v u∧Bu X.env s.heap m x u
 cell:∀ x c,X.env.cells.lookup x=some c→∃ v,s.heap.IsCell c v
 free:H X.env.locals=none
 freeC:∀ x c,X.env.cells.lookup x=some c→H c=none
 pin:∀ p∈X.pn++pins,s.heap.get? p.1=some p.2∧H p.1=none∧p.1≠X.env.locals∧p.1 ∉ X.fs∧∀ v,p.2.data≠.cell v
 hok:HOk X.prog X.w H s.heap
 len:σ.length=X.N.length
section
variable {X:Cx} {pins:List (Addr×Obj)} {σ:List (Option V)} {H H':Hp} {s:Shared} {h':Heap}
theorem Cx.Ok.nofr (ok:X.Ok) {b:Addr} {o:Obj} (e:X.base.get? b=some o):b ∉ X.fs:=fun hb=> by
 have:=(ok.funs.mem hb).1
 rw [e] at this; cases this
theorem Inv.bs (I:Inv X pins σ H s):∀ b o,X.base.get? b=some o→s.heap.get? b=some o∧H b=none:=fun b o e=>
 ⟨I.base.keep b o (I.ok.bs b o e).1 (I.ok.bs b o e).2 (I.ok.nofr e) (I.ok.noex b o e),I.base.free b o (I.ok.bs b o e).1 (I.ok.bs b o e).2 (I.ok.noex b o e)⟩
theorem Inv.bk (I:Inv X pins σ H s):∀ b o,X.base.get? b=some o→s.heap.get? b=some o:=fun b o e=> (I.bs b o e).1
theorem Inv.mod (I:Inv X pins σ H s):Mod X.K X.mg X.base:=I.ok.mod
theorem Inv.kIn (I:Inv X pins σ H s):X.K.In s.heap:=I.ok.mod.kin.keeps I.bk
theorem Inv.lt (I:Inv X pins σ H s):X.env.locals < s.heap.objs.size:=let ⟨_,hn,_⟩:=I.loc; hn.lt
theorem Inv.sz (I:Inv X pins σ H s):X.s₀.heap.objs.size≤s.heap.objs.size:=Nat.le_trans I.ok.above (Nat.le_of_lt I.lt)
theorem Inv.nofs (I:Inv X pins σ H s) {a:Addr} (h:s.heap.objs.size≤a):a ∉ X.fs:=fun hb=> by
 obtain ⟨_,o,ho,_⟩:=I.ok.funs.mem hb
 exact absurd (Nat.lt_of_lt_of_le (Heap.lt_size ho) (Nat.le_trans I.sz h)) (Nat.lt_irrefl _)
theorem Inv.cne (I:Inv X pins σ H s):∀ x c,X.env.cells.lookup x=some c→c≠X.env.locals:=fun x c e z=> by
 obtain ⟨v,o,ho,hd⟩:=I.cell x c e
 obtain ⟨m,⟨o',es,ep,ho',hd',_⟩,_⟩:=I.loc
 rw [z,ho'] at ho; cases ho; rw [hd'] at hd; cases hd
theorem Inv.funs (I:Inv X pins σ H s):s.heap.FunFrames X.base X.outer:=by
 have all:∀ (l:List Env),(∀ b∈frs l,b∈X.fs)→X.s₀.heap.FunFrames X.base l→s.heap.FunFrames X.base l:=by
  intro l
  induction l with
  | nil=> intro _ _; trivial
  | cons env r ih=>
   intro hs hl
   obtain ⟨hk,⟨L,o,hf,hn,ho,hd⟩,hr⟩:=hl
   have hL:L∈X.fs:=hs L (by unfold frs; rw [List.filterMap_cons,hf]; exact List.mem_cons_self)
   obtain ⟨sl,e⟩:=I.base.slot L o ho (I.ok.frf L hL) hL fun z=> I.ok.exfs L z hL
   exact ⟨hk,⟨L,_,hf,hn,e,hd⟩,ih (fun b hb=> hs b (by unfold frs; rw [List.filterMap_cons,hf]; exact List.mem_cons_of_mem _ hb)) hr⟩
 exact all X.outer (fun _ hb=> hb) I.ok.funs
theorem Inv.stack (I:Inv X pins σ H s):s.heap.FunFrames X.base X.stack:=by
 rcases I.ok.stk with e | ⟨e,hf⟩
 ·rw [e]; exact I.funs
 ·rw [e]
  obtain ⟨m,hn,_⟩:=I.loc
  refine .cons (by rw [I.ok.kind]; decide) hf hn ?_ I.funs
  exact Heap.get?_none_of_le (Nat.le_trans I.ok.bsz I.ok.above)
theorem Inv.stkSub (I:Inv X pins σ H s):∀ b∈frs X.stack,b∈X.env.locals::X.fs:=fun b hb=> by
 rcases I.ok.stk with e | ⟨e,hf⟩
 ·rw [e] at hb; exact List.mem_cons_of_mem _ hb
 ·rw [e] at hb
  unfold frs at hb
  rw [List.filterMap_cons,hf] at hb
  exact hb
theorem Inv.stkFree (I:Inv X pins σ H s):∀ b∈frs X.stack,H b=none:=fun b hb=> by
 rcases List.mem_cons.mp (I.stkSub b hb) with e | hb
 ·rw [e]; exact I.free
 ·obtain ⟨_,o,ho,_⟩:=I.ok.funs.mem hb
  exact I.base.free b o ho (I.ok.frf b hb) fun z=> I.ok.exfs b z hb
theorem Inv.step {g':Array GenState} {t':Nat} {d':Drawn} {ch:List Addr} (I:Inv X pins σ H s)
  (hch:∀ b∈ch,(b∈X.ex∨X.s₀.heap.objs.size≤b)∧b≠X.env.locals∧(∀ x c,X.env.cells.lookup x=some c→c≠b)∧∀ p∈X.pn++pins,p.1≠b)
  (keep:∀ b o,b≠X.env.locals→b ∉ X.fs→b ∉ ch→s.heap.get? b=some o→H b=none→h'.get? b=some o)
  (slot:∀ b o,b≠X.env.locals→b∈X.fs→b ∉ ch→s.heap.get? b=some o→H b=none→∃ sl,h'.get? b=some { o with slots:=sl }) (free:∀ b o,b ∉ ch→s.heap.get? b=some o→H b=none→H' b=none)
  (there:∀ b o,b ∉ ch→s.heap.get? b=some o→∃ o',h'.get? b=some o')
  (tups:∀ b xs,H b=some (.tup xs)→H' b=some (.tup xs)) (frzs:∀ b o u,H b=some (.frz o u)→H' b=some (.frz o u)) (tbls:∀ b ps,H b=some (.tbl ps)→∃ more,H' b=some (.tbl (ps++more)))
  (ns:∀ m,s.heap.Ns X.env.locals m→h'.Ns X.env.locals m) (hok:HOk X.prog X.w H' h') (hg:AllBare g'):
  Inv X pins σ H' { s with heap:=h',gens:=g',drawn:=d',toks:=t' }:=by
 have neL:∀ b o,X.s₀.heap.get? b=some o→b≠X.env.locals:=fun b o e=> Nat.ne_of_lt (Nat.lt_of_lt_of_le (Heap.lt_size e) I.ok.above)
 have neC:∀ b o,X.s₀.heap.get? b=some o→b ∉ X.ex→b ∉ ch:=fun b o e hx hb=> by
  rcases (hch b hb).1 with z | z
  ·exact hx z
  ·exact absurd (Nat.lt_of_lt_of_le (Heap.lt_size e) z) (Nat.lt_irrefl _)
 have cellK:∀ x c,X.env.cells.lookup x=some c→∀ v,s.heap.IsCell c v→h'.IsCell c v:=fun x c e v ⟨o,ho,hd⟩=> by
  have nch:c ∉ ch:=fun z=> (hch c z).2.2.1 x c e rfl
  by_cases hc:c∈X.fs
  ·obtain ⟨sl,q⟩:=slot c o (I.cne x c e) hc nch ho (I.freeC x c e)
   exact ⟨_,q,hd⟩
  ·exact ⟨o,keep c o (I.cne x c e) hc nch ho (I.freeC x c e),hd⟩
 refine ⟨I.ok,I.os,hg,⟨fun b o e n hb hx=> ?_,fun b o e n hb hx=> ?_,fun b o e n hx=> ?_,fun b o e hx=> ?_,fun b xs e=> tups b xs (I.base.tups b xs e),fun b o xs e=> frzs b o xs (I.base.frzs b o xs e),fun b ps e=> ?_⟩,?_,fun x c e=> ?_,?_,fun x c e=> ?_,fun p hp=> ?_,hok,I.len⟩
 ·exact keep b o (neL b o e) hb (neC b o e hx) (I.base.keep b o e n hb hx) (I.base.free b o e n hx)
 ·obtain ⟨sl,e1⟩:=I.base.slot b o e n hb hx
  obtain ⟨sl',e2⟩:=slot b _ (neL b o e) hb (neC b o e hx) e1 (I.base.free b o e n hx)
  exact ⟨sl',e2⟩
 ·obtain ⟨o',e1⟩:=I.base.there b o e hx
  exact free b o' (neC b o e hx) e1 (I.base.free b o e n hx)
 ·obtain ⟨o',e1⟩:=I.base.there b o e hx
  exact there b o' (neC b o e hx) e1
 ·obtain ⟨m1,e1⟩:=I.base.tbls b ps e
  obtain ⟨m2,e2⟩:=tbls b _ e1
  exact ⟨m1++m2,by rw [e2,Array.append_assoc]⟩
 ·obtain ⟨m,hn,hl⟩:=I.loc
  refine ⟨m,ns m hn,fun i x v e1 e2 e3=> ?_⟩
  obtain ⟨u,r,l⟩:=hl i x v e1 e2 e3
  refine ⟨u,r,?_⟩
  rcases l with l | ⟨k,c,e,z⟩
  ·exact .inl l
  ·exact .inr ⟨k,c,e,cellK x c e _ z⟩
 ·obtain ⟨v,z⟩:=I.cell x c e
  exact ⟨v,cellK x c e v z⟩
 ·obtain ⟨m,⟨o,_,_,ho,_⟩,_⟩:=I.loc
  exact free _ o (fun z=> (hch _ z).2.1 rfl) ho I.free
 ·obtain ⟨v,o,ho,hd⟩:=I.cell x c e
  exact free c o (fun z=> (hch c z).2.2.1 x c e rfl) ho (I.freeC x c e)
 ·obtain ⟨e,n,ne,nf,d⟩:=I.pin p hp
  have nch:p.1 ∉ ch:=fun z=> (hch p.1 z).2.2.2 p hp rfl
  exact ⟨keep p.1 p.2 ne nf nch e n,free p.1 p.2 nch e n,ne,nf,d⟩
theorem Inv.un {t':Nat} (I:Inv X pins σ H s) (u:Un X.fs [] H H' s.heap h') (hok:HOk X.prog X.w H' h'):Inv X pins σ H' { s with heap:=h',toks:=t' }:=by
 obtain ⟨m,⟨o,es,ep,ho,r⟩,_⟩:=id I.loc
 obtain ⟨sl,hL⟩:=u.any ho I.free (by simp)
 exact I.step (g':=s.gens) (d':=s.drawn) (ch:=[]) (fun _ z=> nomatch z) (fun b o _ hb _ e n=> u.keep b o e n hb (by simp)) (fun b o _ hb _ e n=> u.slot b o e n hb (by simp)) (fun b o _ e n=> u.free b o e n (by simp)) (fun b o _ e=> u.there b o e (by simp)) u.tups u.frzs u.tbls (fun m' hm=> by
  obtain ⟨o',es',ep',ho',r'⟩:=hm
  rw [ho] at ho'; cases ho'
  exact ⟨_,es',ep',hL,r'⟩) hok I.bare
theorem Inv.call {g':Array GenState} {t':Nat} {d':Drawn} {ch:List Addr} (I:Inv X pins σ H s) (u:Un (frs X.stack) ch H H' s.heap h') (hok:HOk X.prog X.w H' h') (hg:AllBare g')
  (hch:∀ b∈ch,(b∈X.ex∨X.s₀.heap.objs.size≤b)∧b≠X.env.locals∧(∀ x c,X.env.cells.lookup x=some c→c≠b)∧∀ p∈X.pn++pins,p.1≠b):
  Inv X pins σ H' { s with heap:=h',gens:=g',drawn:=d',toks:=t' }:=by
 obtain ⟨m,⟨o,es,ep,ho,r⟩,_⟩:=id I.loc
 obtain ⟨sl,hL⟩:=u.any ho I.free fun z=> (hch _ z).2.1 rfl
 exact I.step (ch:=ch) hch (fun b o hL hb hc e n=> u.keep b o e n (fun z=> (List.mem_cons.mp (I.stkSub b z)).elim hL hb) hc) (fun b o _ _ hc e n=> u.any e n hc) (fun b o hc e n=> u.free b o e n hc) (fun b o hc e=> u.there b o e hc) u.tups u.frzs u.tbls (fun m' hm=> by
  obtain ⟨o',es',ep',ho',r'⟩:=hm
  rw [ho] at ho'; cases ho'
  exact ⟨_,es',ep',hL,r'⟩) hok hg
theorem Inv.turned {t':Nat} {it:Addr} (I:Inv X pins σ H s) (k:∀ b o,b≠it→s.heap.get? b=some o→h'.get? b=some o) (hn:H it=none) (hL:it≠X.env.locals)
  (h1:it∈X.ex∨X.s₀.heap.objs.size≤it) (h2:∀ x c,X.env.cells.lookup x=some c→c≠it) (h3:∀ p∈X.pn++pins,p.1≠it):Inv X pins σ H { s with heap:=h',toks:=t' }:=by
 have nit:∀ b u,H b=some u→b≠it:=fun b u e z=> by rw [z,hn] at e; cases e
 refine I.step (g':=s.gens) (d':=s.drawn) (ch:=[it]) (fun b hb=> ?_) (fun b o _ _ hc e _=> k b o (fun z=> hc (by simp [z])) e) (fun b o _ _ hc e _=> ⟨o.slots,k b o (fun z=> hc (by simp [z])) e⟩) (fun _ _ _ _ n=> n)
  (fun b o hc e=> ⟨o,k b o (fun z=> hc (by simp [z])) e⟩) (fun _ _ e=> e) (fun _ _ _ e=> e) (fun b ps e=> ⟨#[],by rw [e]; simp⟩) (fun m hm=> ?_) (fun b u e=> ?_) I.bare
 ·have e:b=it:=by simpa using hb
  subst e
  exact ⟨h1,hL,h2,h3⟩
 ·obtain ⟨o,es,ep,ho,r⟩:=hm
  exact ⟨o,es,ep,k _ o (Ne.symm hL) ho,r⟩
 ·refine (I.hok b u e).stay (fun c v hc q=> k c v ?_ q) (fun _ q=> q) fun _ _ q=> q
  rcases hc with z | z
  ·rw [z]; exact nit b u e
  ·exact nit c _ z
theorem Inv.tok (I:Inv X pins σ H s) (t:Nat):Inv X pins σ H { s with toks:=t }:=I.un (h':=s.heap) (t':=t) Un.refl I.hok
theorem Inv.kept {t':Nat} (I:Inv X pins σ H s) (k:∀ b u,s.heap.get? b=some u→h'.get? b=some u):Inv X pins σ H { s with heap:=h',toks:=t' }:=I.un (Un.kept k) (I.hok.kept k)
theorem Inv.laid {a:Addr} {o:HO} {t':Nat} (I:Inv X pins σ H s) (k:∀ b u,s.heap.get? b=some u→h'.get? b=some u) (hp:s.heap.objs.size≤a) (new:bG X.prog X.w (upd H a o) h' a o):
  Inv X pins σ (upd H a o) { s with heap:=h',toks:=t' }:=I.un (Un.laid k hp (I.hok.fresh hp)) (I.hok.laid k hp new)
theorem Inv.write {x e:Addr} {o:HO} {t':Nat} (I:Inv X pins σ H s) (mu:Mut (H x)) (he:e=x∨H e=some (.own x)) (k:∀ b u,b≠e→s.heap.get? b=some u→h'.get? b=some u) (heo:∃ u,h'.get? e=some u)
  (new:bG X.prog X.w (upd H x o) h' x o):Inv X pins σ (upd H x o) { s with heap:=h',toks:=t' }:=I.un (Un.write mu he k heo) (I.hok.write mu he k heo new)
theorem Inv.weak {σ':List (Option V)} (I:Inv X pins σ H s) (hl:σ'.length=σ.length) (w:∀ (i:Nat) v,σ'[i]?=some (some v)→σ[i]?=some (some v)):Inv X pins σ' H s:=
 ⟨I.ok,I.os,I.bare,I.base,let ⟨m,hn,hl'⟩:=I.loc; ⟨m,hn,fun i x v e1 e2 e3=> hl' i x v e1 (w i v e2) e3⟩,I.cell,I.free,I.freeC,I.pin,I.hok,hl.trans I.len⟩
theorem Inv.pins_of {pins':List (Addr×Obj)} (I:Inv X pins σ H s) (h:∀ p∈pins',s.heap.get? p.1=some p.2∧H p.1=none∧p.1≠X.env.locals∧p.1 ∉ X.fs∧∀ v,p.2.data≠.cell v):Inv X pins' σ H s:=
 ⟨I.ok,I.os,I.bare,I.base,I.loc,I.cell,I.free,I.freeC,fun p hp=> (List.mem_append.mp hp).elim (fun z=> I.pin p (List.mem_append_left _ z)) (h p),I.hok,I.len⟩
theorem mJ {N:List Str} (hN:N.Nodup) {i j:Nat} {x:Str} (a:N[i]?=some x) (b:N[j]?=some x):i=j:=by
 obtain ⟨h1,e1⟩:=List.getElem?_eq_some_iff.mp a
 obtain ⟨h2,e2⟩:=List.getElem?_eq_some_iff.mp b
 exact (List.getElem_inj hN).mp (e1.trans e2.symm)
theorem iw {M:Model} {A:Around} {E:Value→Shared→Prop} {i:Nat} {x:Str} {v:V} {u:Value} {Q:Unit→Shared→Prop} (I:Inv X pins σ H s) (hN:X.N.Nodup) (hi:X.N[i]?=some x) (hx:Loc X.env.scope x) (r:aT v u)
  (h:∀ s',Inv X pins (σ.set i (some v)) H s'→(∃ a,Heap.SameBut a s.heap s'.heap∧(a=X.env.locals∨X.env.cells.lookup x=some a))→Q () s') (hf:X.fn x=true∨X.env.scope.names.lookup x=some .local:=by first | exact .inl rfl | exact .inr rfl | assumption):wpAny M A (storeName X.env x u) Q E s:=by
 obtain ⟨m,hn,hl⟩:=id I.loc
 have hcls:(X.env.scope.kind==.class || (X.env.scope.kind==.module && X.env.locals !=X.env.globals))=false:=by rw [I.ok.kind]; rfl
 have hiσ:i < σ.length:=by rw [I.len]; exact (List.getElem?_eq_some_iff.mp hi).1
 have cne:=I.cne
 have tracked:∀ {a:Addr} {h':Heap},(∃ o,s.heap.get? a=some o∧H a=none)→Heap.SameBut a s.heap h'→HOk X.prog X.w H h':=fun {a h'} ha hs b ob e=> by
  obtain ⟨_,_,hfree⟩:=ha
  refine (I.hok b ob e).stay (fun c w' hc q=> (hs.2 c ?_).trans q) (fun _ q=> q) fun _ _ q=> q
  rintro rfl
  rcases hc with rfl | hc
  ·rw [hfree] at e; cases e
  ·rw [hfree] at hc; cases hc
 rcases hx with hk | hk
 ·refine wpAny_storeName_local hk hn (fun h' hn' hs=> ?_) hcls
  obtain ⟨oL,_,_,hoL,_⟩:=id hn
  refine h _ ⟨I.ok,I.os,I.bare,⟨fun b o e n hb hx=> ?_,fun b o e n hb hx=> ?_,I.base.free,fun b o e hx=> ?_,I.base.tups,I.base.frzs,I.base.tbls⟩,⟨_,hn',fun j y v' e1 e2 e3=> ?_⟩,fun y c e=> ?_,I.free,I.freeC,fun p hp=> ?_,tracked ⟨oL,hoL,I.free⟩ hs,by simpa using I.len⟩ ⟨_,hs,.inl rfl⟩
  ·exact (hs.2 b (Nat.ne_of_lt (Nat.lt_of_lt_of_le (Heap.lt_size e) I.ok.above))).trans (I.base.keep b o e n hb hx)
  ·obtain ⟨sl,e1⟩:=I.base.slot b o e n hb hx
   exact ⟨sl,(hs.2 b (Nat.ne_of_lt (Nat.lt_of_lt_of_le (Heap.lt_size e) I.ok.above))).trans e1⟩
  ·obtain ⟨o',e1⟩:=I.base.there b o e hx
   exact ⟨o',(hs.2 b (Nat.ne_of_lt (Nat.lt_of_lt_of_le (Heap.lt_size e) I.ok.above))).trans e1⟩
  ·by_cases hj:j=i
   ·subst hj
    rw [hi] at e1; cases e1
    rw [List.getElem?_set_self hiσ] at e2
    cases e2
    exact ⟨u,r,.inl ⟨hk,by simp⟩⟩
   ·rw [List.getElem?_set_ne (Ne.symm hj)] at e2
    obtain ⟨u',r',q⟩:=hl j y v' e1 e2 e3
    refine ⟨u',r',?_⟩
    rcases q with ⟨k,e⟩ | ⟨k,c,e,z⟩
    ·refine .inl ⟨k,?_⟩
     have:y≠x:=fun e=> hj (mJ hN e1 (e ▸ hi))
     simp [this,e]
    ·exact .inr ⟨k,c,e,z.sameBut hs (cne y c e)⟩
  ·obtain ⟨w',z⟩:=I.cell y c e
   exact ⟨w',z.sameBut hs (cne y c e)⟩
  ·obtain ⟨e,n,ne,nf,d⟩:=I.pin p hp
   exact ⟨(hs.2 p.1 ne).trans e,n,ne,nf,d⟩
 ·have hfn:X.fn x=true:=by
   rcases hf with z | z
   ·exact z
   ·rw [z] at hk; cases hk
  obtain ⟨c,hc⟩:=I.ok.has x (.inl hk)
  obtain ⟨w',z⟩:=I.cell x c hc
  refine wpAny_storeName_cell I.ok.kind hk hc z (fun h' hc' hs=> ?_)
  obtain ⟨oc,hoc,hocd⟩:=id z
  refine h { s with heap:=h' } ⟨I.ok,I.os,I.bare,⟨fun b o e n hb hx=> ?_,fun b o e n hb hx=> ?_,I.base.free,fun b o e hx=> ?_,I.base.tups,I.base.frzs,I.base.tbls⟩,⟨m,hn.sameBut hs (Ne.symm (cne x c hc)),fun j y v' e1 e2 e3=> ?_⟩,fun y c' e=> ?_,I.free,I.freeC,fun p hp=> ?_,tracked ⟨oc,hoc,I.freeC x c hc⟩ hs,by simpa using I.len⟩ ⟨c,hs,.inr hc⟩
  ·exact (hs.2 b (Nat.ne_of_lt (Nat.lt_of_lt_of_le (Heap.lt_size e) (I.ok.cab x c hfn hc)))).trans (I.base.keep b o e n hb hx)
  ·obtain ⟨sl,e1⟩:=I.base.slot b o e n hb hx
   exact ⟨sl,(hs.2 b (Nat.ne_of_lt (Nat.lt_of_lt_of_le (Heap.lt_size e) (I.ok.cab x c hfn hc)))).trans e1⟩
  ·obtain ⟨o',e1⟩:=I.base.there b o e hx
   exact ⟨o',(hs.2 b (Nat.ne_of_lt (Nat.lt_of_lt_of_le (Heap.lt_size e) (I.ok.cab x c hfn hc)))).trans e1⟩
  ·by_cases hj:j=i
   ·subst hj
    rw [hi] at e1; cases e1
    rw [List.getElem?_set_self hiσ] at e2
    cases e2
    exact ⟨u,r,.inr ⟨.inl hk,c,hc,hc'⟩⟩
   ·rw [List.getElem?_set_ne (Ne.symm hj)] at e2
    obtain ⟨u',r',q⟩:=hl j y v' e1 e2 e3
    refine ⟨u',r',?_⟩
    rcases q with q | ⟨k,c',e,z'⟩
    ·exact .inl q
    ·refine .inr ⟨k,c',e,z'.sameBut hs ?_⟩
     rintro rfl
     exact hj (mJ hN e1 (I.ok.inj _ _ _ e hc ▸ hi))
  ·by_cases hcc:c'=c
   ·subst hcc; exact ⟨_,hc'⟩
   ·obtain ⟨w2,z2⟩:=I.cell y c' e
    exact ⟨w2,z2.sameBut hs hcc⟩
  ·obtain ⟨e,n,ne,nf,d⟩:=I.pin p hp
   refine ⟨(hs.2 p.1 ?_).trans e,n,ne,nf,d⟩
   intro q
   rw [q,hoc] at e
   have q':oc=p.2:=Option.some.inj e
   exact d w' (by rw [← q']; exact hocd)
theorem gZ {M:Model} {A:Around} {E:Value→Shared→Prop} {i:Nat} {x:Str} {v:V} {u:Value} {Q:Unit→Shared→Prop} (I:Inv X pins σ H s) (hN:X.N.Nodup) (hi:X.N[i]?=some x) (hx:Loc X.env.scope x) (r:aT v u)
  (h:∀ s',Inv X pins (σ.set i (some v)) H s'→Q () s') (hf:X.fn x=true∨X.env.scope.names.lookup x=some .local:=by first | exact .inl rfl | exact .inr rfl | assumption):wpAny M A (storeName X.env x u) Q E s:=
 iw I hN hi hx r (fun s' I' _=> h s' I') hf
theorem Inv.call' {s':Shared} {ch:List Addr} (I:Inv X pins σ H s) (ho:s'.os=s.os) (u:Un (frs X.stack) ch H H' s.heap s'.heap) (hok:HOk X.prog X.w H' s'.heap) (hg:AllBare s'.gens)
  (hch:∀ b∈ch,(b∈X.ex∨X.s₀.heap.objs.size≤b)∧b≠X.env.locals∧(∀ x c,X.env.cells.lookup x=some c→c≠b)∧∀ p∈X.pn++pins,p.1≠b):Inv X pins σ H' s':=by
 obtain ⟨h',g',d',t',o'⟩:=s'
 have e:o'=s.os:=ho
 subst e
 exact I.call (g':=g') (t':=t') (d':=d') u hok hg hch
end
abbrev XK:=Value→Option Addr→Hp→Prop
abbrev St:=List (Option V)
abbrev VK:=V→Hp→Prop
abbrev TE:=St→Hp→VK→Prop
abbrev TT:=St→Hp→(Bool→Hp→Prop)→Prop
abbrev TA:=St→Hp→(List V→Hp→Prop)→Prop
structure jC where
 nx:St→Hp→Prop
 rt:VK
 bk:St→Hp→Prop:=fun _ _=> False
 ct:St→Hp→Prop:=fun _ _=> False
abbrev TS:=jC→St→Hp→Prop
def EP (X:Cx) (pins:List (Addr×Obj)) (σ:St) (Q:VK) (u:Value) (s':Shared):Prop:=∃ v H',Inv X pins σ H' s'∧aT v u∧Q v H'
def TP (X:Cx) (pins:List (Addr×Obj)) (σ:St) (Q:Bool→Hp→Prop) (b:Bool) (s':Shared):Prop:=∃ H',Inv X pins σ H' s'∧Q b H'
def AP (X:Cx) (pins:List (Addr×Obj)) (σ:St) (Q:List V→Hp→Prop) (us:List Value) (s':Shared):Prop:=∃ vs H',Inv X pins σ H' s'∧aI vs us∧Q vs H'
def SP (X:Cx) (pins:List (Addr×Obj)) (D:jC) (f:Flow) (s':Shared):Prop:=
 match f with
 | .next=> ∃ σ' H',Inv X pins σ' H' s'∧D.nx σ' H'
 | .brk=> ∃ σ' H',Inv X pins σ' H' s'∧D.bk σ' H'
 | .cont=> ∃ σ' H',Inv X pins σ' H' s'∧D.ct σ' H'
 | .ret u=> ∃ v σ' H',Inv X pins σ' H' s'∧aT v u∧D.rt v H'
def PE (X:Cx) (e:Expr) (t:TE):Prop:=
 ∀ (pins:List (Addr×Obj)) (s:Shared) (σ:St) (H:Hp) (Q:VK),Inv X pins σ H s→t σ H Q→wpAny (model X.prog X.w) X.A (eval e X.env) (EP X pins σ Q) X.xe s
def PT (X:Cx) (e:Expr) (t:TT):Prop:=
 ∀ (pins:List (Addr×Obj)) (s:Shared) (σ:St) (H:Hp) (Q:Bool→Hp→Prop),Inv X pins σ H s→t σ H Q→wpAny (model X.prog X.w) X.A (isTrue e X.env (eval e X.env)) (TP X pins σ Q) X.xe s
def PW (X:Cx) (e:Expr) (t:TT):Prop:=
 ∀ (whole:Sem Value) (pins:List (Addr×Obj)) (s:Shared) (σ:St) (H:Hp) (Q:Bool→Hp→Prop),Inv X pins σ H s→t σ H Q→wpAny (model X.prog X.w) X.A (isTrue e X.env whole) (TP X pins σ Q) X.xe s
theorem PW.pt {X:Cx} {e:Expr} {t:TT} (h:PW X e t):PT X e t:=h _
def PA (X:Cx) (es:List Expr) (t:TA):Prop:=
 ∀ (pos:Pos) (pins:List (Addr×Obj)) (s:Shared) (σ:St) (H:Hp) (Q:List V→Hp→Prop),Inv X pins σ H s→t σ H Q→wpAny (model X.prog X.w) X.A (spliced (backTo pos (starEach es X.env))) (AP X pins σ Q) X.xe s
def PS (X:Cx) (st:Stmt) (t:TS):Prop:=
 ∀ (pins:List (Addr×Obj)) (s:Shared) (σ:St) (H:Hp) (D:jC),Inv X pins σ H s→t D σ H→wpAny (model X.prog X.w) X.A (exec st X.env) (SP X pins D) X.xe s
def PSs (X:Cx) (st:List Stmt) (t:TS):Prop:=
 ∀ (pins:List (Addr×Obj)) (s:Shared) (σ:St) (H:Hp) (D:jC),Inv X pins σ H s→t D σ H→wpAny (model X.prog X.w) X.A (execs st X.env) (SP X pins D) X.xe s
theorem thn {α:Type} {t:Sem α} {Q Q':α→Shared→Prop} {M:Model} {A:Around} {E:Value→Shared→Prop} {s:Shared} (h:wpAny M A t Q E s) (hQ:∀ a s,Q a s→Q' a s):wpAny M A t Q' E s:=wpAny_mono h hQ fun _ _ x=> x
end L2
namespace L2
open PySem PySem.Spec PyProof.Rows
section
variable {X:Cx}
def Bq (i:Nat):TE:=fun σ H Q=> ∃ v,σ[i]?=some (some v)∧Q v H
def tC (v:V):TE:=fun _ H Q=> Q v H
theorem dH {i:Nat} {x:Str} {pos:Pos} (hN:X.N[i]?=some x) (hv:Vis X.env.scope x) (hd:(x==("__debug__":Str))=false:=by decide) (hcd:(x==("__classdict__":Str))=false:=by decide):PE X (.Name x pos) (Bq i):=by
 intro pins s σ H Q I h
 obtain ⟨v,e,h⟩:=h
 obtain ⟨m,hn,hl⟩:=I.loc
 obtain ⟨u,r,l⟩:=hl i x v hN e hv
 have fin:EP X pins σ Q u s:=⟨v,H,I,r,h⟩
 rcases l with ⟨hk,hm⟩ | ⟨hk,c,hc,hcell⟩
 ·exact wpAny_Name (wpAny_loadName_local I.ok.kind hk hn hm fin) hd
 ·rcases hk with hk | hk
  ·exact wpAny_Name (wpAny_loadName_cell I.ok.kind hk hc hcell fin) hd
  ·exact wpAny_Name (wpAny_loadName_free I.ok.kind hk hc hcell fin hcd) hd
theorem yu {i j pos}:PE X (.Constant (.int i) j pos) (tC (.int i)):=fun _ _ _ H _ I h=> wpAny_Constant_int ⟨.int i,H,I.tok _,⟨_,rfl⟩,h⟩
theorem AB {b j pos}:PE X (.Constant (.bool b) j pos) (tC (.bl b)):=fun _ _ _ H _ I h=> Constant_bool ⟨.bl b,H,I,rfl,h⟩
theorem yq {j pos}:PE X (.Constant .none j pos) (tC .non):=fun _ _ _ H _ I h=> Constant_none ⟨.non,H,I,rfl,h⟩
theorem yE {x j pos}:PE X (.Constant (.str x) j pos) (tC (.str x)):=fun _ _ _ H _ I h=> Calls.Constant_str ⟨.str x,H,I.tok _,⟨_,rfl⟩,h⟩
def Gl (X:Cx) (x:Str):Prop:=X.env.kindOf x=some .globalImplicit
theorem eQ {E:Value→Shared→Prop} {pins:List (Addr×Obj)} {s:Shared} {σ:St} {H:Hp} {x:Str} {u:Value} {pos:Pos} {Q:Value→Shared→Prop} (I:Inv X pins σ H s) (hg:Gl X x) (hm:X.mg x=some u) (h:Q u s)
  (hd:(x==("__debug__":Str))=false:=by decide):wpAny (model X.prog X.w) X.A (eval (.Name x pos) X.env) Q E s:=
 Calls.Name_function_global I.ok.kind hg (Calls.loadGlobal_global (by rw [I.ok.glob]; exact I.mod.glob.keeps I.bk) hm h) hd
theorem gs {E:Value→Shared→Prop} {pins:List (Addr×Obj)} {s:Shared} {σ:St} {H:Hp} {x:Str} {u:Value} {pos:Pos} {Q:Value→Shared→Prop} (I:Inv X pins σ H s) (hg:Gl X x) (hm:X.mg x=none) (hv:bootBuiltins x=some u) (h:Q u s)
  (hn:x≠"__name__":=by decide) (hd:(x==("__debug__":Str))=false:=by decide):wpAny (model X.prog X.w) X.A (eval (.Name x pos) X.env) Q E s:=by
 obtain ⟨mb,h1,h2⟩:=I.mod.blt
 exact Calls.Name_function_global I.ok.kind hg (Calls.loadGlobal_builtin (by rw [I.ok.glob]; exact I.mod.glob.keeps I.bk) hm (by rw [I.ok.blt]; exact h1.keeps I.bk) ((h2 x hn).trans hv) h) hd
theorem qC {x:Str} {v:V} {u:Value} {pos:Pos} (hg:Gl X x) (hm:X.mg x=some u) (r:aT v u) (hd:(x==("__debug__":Str))=false:=by decide):PE X (.Name x pos) (tC v):=
 fun _ _ _ H _ I h=> eQ I hg hm ⟨v,H,I,r,h⟩ hd
theorem wa {x:Str} {v:V} {u:Value} {pos:Pos} (hg:Gl X x) (hm:X.mg x=none) (hv:bootBuiltins x=some u) (r:aT v u) (hn:x≠"__name__":=by decide) (hd:(x==("__debug__":Str))=false:=by decide):PE X (.Name x pos) (tC v):=
 fun _ _ _ H _ I h=> gs I hg hm hv ⟨v,H,I,r,h⟩ hn hd
variable {a b:Expr} {ta tb:TE} {pos:Pos}
def PC (X:Cx) (op:CmpOp) (a b:Expr) (t:TE):Prop:=
 ∀ (pins:List (Addr×Obj)) (s:Shared) (σ:St) (H:Hp) (Q:VK),Inv X pins σ H s→t σ H Q→
  wpAny (model X.prog X.w) X.A (eval a X.env) (fun v s₁=> wpAny (model X.prog X.w) X.A (eval b X.env) (fun u s₂=> wpAny (model X.prog X.w) X.A (compareOp op v u) (EP X pins σ Q) X.xe s₂) X.xe s₁) X.xe s
theorem uW (b:Expr) {op:CmpOp} (h:op≠.In) (h2:op≠.NotIn):behindInMarks op b=false:=by
 have e1:(op==CmpOp.In)=false:=by cases op <;> first | rfl | exact absurd rfl h
 have e2:(op==CmpOp.NotIn)=false:=by cases op <;> first | rfl | exact absurd rfl h2
 cases b <;> simp [behindInMarks,e1,e2]
def BG (ta:TE):TE:=fun σ H Q=> ta σ H fun x H1=> Q (.bl (decide (x=.non))) H1
theorem aT.none_iff {x:V} {v:Value} (r:aT x v):(v==Value.none)=decide (x=.non):=by
 cases x with
 | non=> cases r; rfl
 | bl _=> cases r; rfl
 | int _=> obtain ⟨t,rfl⟩:=r; rfl
 | str _=> obtain ⟨t,rfl⟩:=r; rfl
 | byt _=> obtain ⟨t,rfl⟩:=r; rfl
 | flt _=> obtain ⟨t,rfl⟩:=r; rfl
 | ref _=> cases r; rfl
 | ty _=> cases r; rfl
theorem zP {j pos'} (ha:PE X a ta):PC X .Is a (.Constant .none j pos') (BG ta):=by
 intro pins s σ H Q I h
 refine thn (ha pins s σ H _ I h) fun v s1 ⟨x,H1,I1,r1,q1⟩=> ?_
 exact Constant_none (is_none_gen ⟨.bl _,H1,I1,by rw [r1.none_iff]; rfl,q1⟩)
def tB (t:TE):TT:=fun σ H Q=> t σ H fun x H1=> ∃ c,x=.bl c∧Q c H1
theorem o6 {op:CmpOp} {t:TE} (h:PC X op a b t) (h1:behindInMarks op b=false:=by first | exact uW _ (by decide) (by decide) | rfl):PT X (.Compare a [op] [b] pos) (tB t):=by
 intro pins s σ H Q I hw
 refine wpAny_isTrue_Compare1 (thn (h pins s σ H _ I hw) fun v s1 h1=> thn h1 fun u s2 h2=> thn h2 fun c s3 ⟨x,H1,I1,r1,q1⟩=> ?_) h1
 obtain ⟨d,rfl,q⟩:=q1
 cases r1
 exact wpAny_truthy_bool ⟨H1,I1,q⟩
theorem zg {e:Expr} {t:TE} (h:PE X e t) (he:∀ whole,isTrue e X.env whole=(do let v ← whole; standAt e.pos; holding [v] (truthy v)):=by intro _; rfl):PT X e (tB t):=by
 intro pins s σ H Q I hw
 refine isTrue_plain (thn (h pins s σ H _ I hw) fun v s1 ⟨x,H1,I1,r1,q1⟩=> ?_) (he _)
 obtain ⟨d,rfl,q⟩:=q1
 cases r1
 exact wpAny_truthy_bool ⟨H1,I1,q⟩
variable {tA tB':TT} {rest:List Expr}
def A_ (t u:TT):TT:=fun σ H Q=> t σ H fun c H1=> if c=true then u σ H1 Q else Q false H1
def tOr (t u:TT):TT:=fun σ H Q=> t σ H fun c H1=> if c=true then Q true H1 else u σ H1 Q
def BB (t:TT):TT:=fun σ H Q=> t σ H fun c H1=> Q (!c) H1
theorem xl (ha:PT X a tA):PW X (.BoolOp .And [a] pos) tA:=by
 intro wh pins s σ H Q I h
 refine isTrue_and (thn (ha pins s σ H Q I h) fun c s1 e=> ?_)
 cases c with
 | true=> exact isTrue_and_nil e
 | false=> exact e
theorem yY (ha:PT X a tA):PW X (.BoolOp .Or [a] pos) tA:=by
 intro wh pins s σ H Q I h
 refine isTrue_or (thn (ha pins s σ H Q I h) fun c s1 e=> ?_)
 cases c with
 | false=> exact isTrue_or_nil e
 | true=> exact e
theorem u6 (ha:PT X a tA) (hb:PW X (.BoolOp .And (b::rest) pos) tB'):PW X (.BoolOp .And (a::b::rest) pos) (A_ tA tB'):=by
 intro wh pins s σ H Q I h
 refine isTrue_and (thn (ha pins s σ H _ I h) fun c s1 ⟨H1,I1,q1⟩=> ?_)
 cases c with
 | true=> exact hb wh pins s1 σ H1 Q I1 q1
 | false=> exact ⟨H1,I1,q1⟩
theorem ya (ha:PT X a tA) (hb:PW X (.BoolOp .Or (b::rest) pos) tB'):PW X (.BoolOp .Or (a::b::rest) pos) (tOr tA tB'):=by
 intro wh pins s σ H Q I h
 refine isTrue_or (thn (ha pins s σ H _ I h) fun c s1 ⟨H1,I1,q1⟩=> ?_)
 cases c with
 | true=> exact ⟨H1,I1,q1⟩
 | false=> exact hb wh pins s1 σ H1 Q I1 q1
theorem yz (ha:PT X a tA):PT X (.UnaryOp .Not a pos) (BB tA):=by
 intro pins s σ H Q I h
 exact isTrue_not (ha pins s σ H (fun c H1=> Q (!c) H1) I h)
def BE (ta tb:TE):TE:=fun σ H Q=> ta σ H fun x H1=> ∃ c,x=.bl c∧if c=true then Q (.bl true) H1 else tb σ H1 Q
theorem yn {op} {t:TE} (h:PE X a t):PE X (.BoolOp op [a] pos) t:=fun pins s σ H Q I hw=> BoolOp_one (h pins s σ H Q I hw)
theorem xJ (ha:PE X a ta) (hb:PE X (.BoolOp .Or (b::rest) pos) tb):PE X (.BoolOp .Or (a::b::rest) pos) (BE ta tb):=by
 intro pins s σ H Q I h
 refine BoolOp_or (thn (ha pins s σ H _ I h) fun v s1 ⟨x,H1,I1,r1,q1⟩=> ?_)
 obtain ⟨c,rfl,q1⟩:=q1
 cases r1
 refine wpAny_truthy_bool ?_
 cases c with
 | false=> exact hb pins s1 σ H1 Q I1 q1
 | true=> exact ⟨.bl true,H1,I1,rfl,q1⟩
def tIf (t:TT) (ta tb:TE):TE:=fun σ H Q=> t σ H fun c H1=> if c=true then ta σ H1 Q else tb σ H1 Q
theorem m8 {c:Expr} (hc:PT X c tA) (ha:PE X a ta) (hb:PE X b tb):PE X (.IfExp c a b pos) (tIf tA ta tb):=by
 intro pins s σ H Q I h
 refine wpAny_IfExp (thn (hc pins s σ H _ I h) fun d s1 ⟨H1,I1,q1⟩=> ?_)
 cases d with
 | true=> exact ha pins s1 σ H1 Q I1 q1
 | false=> exact hb pins s1 σ H1 Q I1 q1
end
end L2
namespace L2
open PySem PySem.Spec PyProof.Rows
def SqL (K:PySem.W.Frag) (H:Hp) (a:Addr) (xs:List V):Prop:=
 Rd H a (.lst xs)∨
  ∃ (o:Obj) (its:Array Value) (n:Nat),K.lookup a=some o∧o.cls=.type "list"∧o.dict=none∧o.data=.seq its n∧its.size≤sizeLine∧aI xs its.toList
def SqT (K:PySem.W.Frag) (H:Hp) (a:Addr) (xs:List V):Prop:=
 Rd H a (.tup xs)∨
  ∃ (o:Obj) (its:Array Value) (n:Nat),K.lookup a=some o∧o.cls=.type "tuple"∧o.data=.seq its n∧its.size≤sizeLine∧aI xs its.toList
def Bp:Value→Option V
 | .none=> some .non
 | .bool b=> some (.bl b)
 | .int i _=> some (.int i)
 | .str x _=> some (.str x)
 | .bytes b _=> some (.byt b)
 | .float b _=> some (.flt b)
 | .ref a=> some (.ref a)
 | .type n=> some (.ty n)
 | _=> none
theorem aT.abs {x:V} {u:Value} (r:aT x u):Bp u=some x:=by
 cases x with
 | non=> cases r; rfl
 | bl _=> cases r; rfl
 | int _=> obtain ⟨t,rfl⟩:=r; rfl
 | str _=> obtain ⟨t,rfl⟩:=r; rfl
 | byt _=> obtain ⟨t,rfl⟩:=r; rfl
 | flt _=> obtain ⟨t,rfl⟩:=r; rfl
 | ref _=> cases r; rfl
 | ty _=> cases r; rfl
theorem aT.inj {x y:V} {u:Value} (r:aT x u) (q:aT y u):x=y:=Option.some.inj (r.abs.symm.trans q.abs)
theorem aI.inj:∀ {xs ys:List V} {us:List Value},aI xs us→aI ys us→xs=ys
 | _,_,_,.nil,.nil=> rfl
 | _,_,_,.cons r t,.cons r' t'=> by rw [r.inj r',aI.inj t t']
section
variable {X:Cx} {pins:List (Addr×Obj)} {σ:St} {H:Hp} {s:Shared} {a:Addr} {xs ys:List V}
theorem SqL.of {K:PySem.W.Frag} (h:H a=some (.lst xs)):SqL K H a xs:=.inl (.inl h)
theorem SqT.of {K:PySem.W.Frag} (h:H a=some (.tup xs)):SqT K H a xs:=.inl (.inl h)
theorem Inv.list (I:Inv X pins σ H s) (h:SqL X.K H a xs):∃ its:List Value,aI xs its∧PlainL s.heap a its.toArray∧xs.length≤sizeLine:=by
 rcases h with h | ⟨o,its,n,hk,hc,hd,hs,hz,r⟩
 ·obtain ⟨z,its,n,r,e⟩:=h.ok I.hok
  exact ⟨its,r,⟨_,n,e,rfl,rfl,rfl⟩,z⟩
 ·refine ⟨its.toList,r,⟨o,n,I.kIn a o hk,hc,hd,by simpa using hs⟩,?_⟩
  have e:=r.length
  simp only [Array.length_toList] at e
  omega
theorem Inv.tuple (I:Inv X pins σ H s) (h:SqT X.K H a xs):∃ its:List Value,aI xs its∧IsTup s.heap a its.toArray∧xs.length≤sizeLine:=by
 rcases h with h | ⟨o,its,n,hk,hc,hs,hz,r⟩
 ·obtain ⟨z,its,r,p⟩:=h.ok I.hok
  exact ⟨its,r,p,z⟩
 ·refine ⟨its.toList,r,⟨o,I.kIn a o hk,hc,n,by simpa using hs⟩,?_⟩
  have e:=r.length
  simp only [Array.length_toList] at e
  omega
theorem Inv.list_inj (I:Inv X pins σ H s) (h:SqL X.K H a xs) (h':SqL X.K H a ys):xs=ys:=by
 obtain ⟨its,r,⟨o,n,e,_,_,d⟩,_⟩:=I.list h
 obtain ⟨its',r',⟨o',n',e',_,_,d'⟩,_⟩:=I.list h'
 rw [e] at e'; cases e'
 rw [d] at d'
 injection d' with d1 _
 have:its=its':=by simpa using congrArg Array.toList d1
 subst this
 exact r.inj r'
theorem Inv.tuple_inj (I:Inv X pins σ H s) (h:SqT X.K H a xs) (h':SqT X.K H a ys):xs=ys:=by
 obtain ⟨its,r,⟨o,e,_,n,d⟩,_⟩:=I.tuple h
 obtain ⟨its',r',⟨o',e',_,n',d'⟩,_⟩:=I.tuple h'
 rw [e] at e'; cases e'
 rw [d] at d'
 injection d' with d1 _
 have:its=its':=by simpa using congrArg Array.toList d1
 subst this
 exact r.inj r'
end
abbrev Cx.wish (X:Cx) (E:Value→Shared→Prop):Cx:={ X with xe:=E }
abbrev Cx.nox (X:Cx):Cx:=X.wish fun _ _=> False
theorem Cx.Ok.wish {X:Cx} (ok:X.Ok) (E:Value→Shared→Prop):(X.wish E).Ok:=
 ⟨ok.mod,ok.kind,ok.glob,ok.blt,ok.above,ok.inj,ok.has,ok.cab,ok.hd,ok.frames,ok.stk,ok.exf,ok.bs,ok.bsz,ok.noex,ok.exfs,ok.funs,ok.frf⟩
theorem Cx.Ok.unwish {X:Cx} {E:Value→Shared→Prop} (ok:(X.wish E).Ok):X.Ok:=
 ⟨ok.mod,ok.kind,ok.glob,ok.blt,ok.above,ok.inj,ok.has,ok.cab,ok.hd,ok.frames,ok.stk,ok.exf,ok.bs,ok.bsz,ok.noex,ok.exfs,ok.funs,ok.frf⟩
section
variable {X:Cx} {pins:List (Addr×Obj)} {σ:St} {H:Hp} {s:Shared} {E:Value→Shared→Prop}
theorem Inv.wish (I:Inv X pins σ H s) (E:Value→Shared→Prop):Inv (X.wish E) pins σ H s:=⟨I.ok.wish E,I.os,I.bare,I.base,I.loc,I.cell,I.free,I.freeC,I.pin,I.hok,I.len⟩
theorem Inv.unwish (I:Inv (X.wish E) pins σ H s):Inv X pins σ H s:=⟨I.ok.unwish,I.os,I.bare,I.base,I.loc,I.cell,I.free,I.freeC,I.pin,I.hok,I.len⟩
theorem SP.unwish {D:jC} {f:Flow} {s':Shared} (h:SP (X.wish E) pins D f s'):SP X pins D f s':=by
 cases f with
 | next=> obtain ⟨σ',H',I,q⟩:=h; exact ⟨σ',H',I.unwish,q⟩
 | brk=> obtain ⟨σ',H',I,q⟩:=h; exact ⟨σ',H',I.unwish,q⟩
 | cont=> obtain ⟨σ',H',I,q⟩:=h; exact ⟨σ',H',I.unwish,q⟩
 | ret u=> obtain ⟨v,σ',H',I,r,q⟩:=h; exact ⟨v,σ',H',I.unwish,r,q⟩
theorem PSs.nox {st:List Stmt} {t:TS} (h:PSs X.nox st t):PSs X st t:=fun pins s σ H D I hw=>
 wpAny_mono (h pins s σ H D (I.wish _) hw) (fun _ _ q=> q.unwish) fun _ _ z=> False.elim z
end
section
variable {X:Cx} {st:Stmt} {rest:List Stmt} {t u:TS} {e:Expr} {te:TE} {pos:Pos}
def AU:TS:=fun D σ H=> D.nx σ H
def zK (t u:TS):TS:=fun D σ H=> t { D with nx:=u D } σ H
theorem xk:PSs X [] AU:=fun _ _ σ H _ I h=> wpAny_execs_nil ⟨σ,H,I,h⟩
theorem vi (h1:PS X st t) (h2:PSs X rest u):PSs X (st::rest) (zK t u):=by
 intro pins s σ H D I h
 refine wpAny_execs_cons (thn (h1 pins s σ H { D with nx:=u D } I h) fun f s1 q=> ?_)
 cases f with
 | next=>
  obtain ⟨σ',H',I',q⟩:=q
  exact h2 pins s1 σ' H' D I' q
 | ret v=> exact q
 | brk=> exact q
 | cont=> exact q
theorem vR (h1:PS X st t):PSs X [st] t:=by
 intro pins s σ H D I h
 refine wpAny_execs_cons (thn (h1 pins s σ H D I h) fun f s1 q=> ?_)
 cases f with
 | next=> exact wpAny_execs_nil q
 | ret v=> exact q
 | brk=> exact q
 | cont=> exact q
theorem Inv.quiet {pins:List (Addr×Obj)} {σ:St} {H:Hp} {s:Shared} (I:Inv X pins σ H s):interactive X.env=false:=by simp [interactive,I.ok.kind]
def AJ (te:TE):TS:=fun D σ H=> te σ H fun _ H1=> D.nx σ H1
theorem mm (he:PE X e te) (hs:swapsWith e none pos.line X.env=pure false:=by rfl):PS X (.Expr e pos) (AJ te):=by
 intro pins s σ H D I h
 exact wpAny_Expr_any (thn (he pins s σ H _ I h) fun v s1 ⟨x,H1,I1,r1,q1⟩=> ⟨σ,H1,I1,q1⟩) I.quiet hs
def AQ (te:TE):TS:=fun D σ H=> te σ H D.rt
theorem jQ (he:PE X e te):PS X (.Return (some e) pos) (AQ te):=by
 intro pins s σ H D I h
 exact wpAny_Return_some (thn (he pins s σ H _ I h) fun v s1 ⟨x,H1,I1,r1,q1⟩=> ⟨x,σ,H1,I1,r1,q1⟩)
def Bb (c:TT) (t u:TS):TS:=fun D σ H=> c σ H fun b H1=> if b=true then t D σ H1 else u D σ H1
theorem vz {c:Expr} {a b:List Stmt} {tc:TT} (hc:PT X c tc) (ha:PSs X a t) (hb:PSs X b u):PS X (.If c a b pos) (Bb tc t u):=by
 intro pins s σ H D I h
 refine wpAny_If (thn (hc pins s σ H _ I h) fun d s1 ⟨H1,I1,q1⟩=> ?_)
 cases d with
 | true=> exact ha pins s1 σ H1 D I1 q1
 | false=> exact hb pins s1 σ H1 D I1 q1
end
abbrev TG:=V→St→Hp→(St→Hp→Prop)→Prop
abbrev TGs:=List V→St→Hp→(St→Hp→Prop)→Prop
def PG (X:Cx) (target:Expr) (t:TG):Prop:=
 ∀ (pins:List (Addr×Obj)) (s:Shared) (σ:St) (H:Hp) (v:V) (u:Value) (Q:St→Hp→Prop),Inv X pins σ H s→aT v u→t v σ H Q→
  wpAny (model X.prog X.w) X.A (assign target X.env u) (fun _ s'=> ∃ σ' H',Inv X pins σ' H' s'∧Q σ' H') X.xe s
def PGs (X:Cx) (ts:List Expr) (t:TGs):Prop:=
 ∀ (pins:List (Addr×Obj)) (s:Shared) (σ:St) (H:Hp) (vs:List V) (us:List Value) (Q:St→Hp→Prop),Inv X pins σ H s→aI vs us→t vs σ H Q→
  wpAny (model X.prog X.w) X.A (assignInOrder ((assignEach ts X.env).map (·.2)) us) (fun _ s'=> ∃ σ' H',Inv X pins σ' H' s'∧Q σ' H') X.xe s
abbrev TIp:=V→V→Hp→VK→Prop
def PIp (X:Cx) (op:Operator) (t:TIp):Prop:=
 ∀ (pins:List (Addr×Obj)) (s:Shared) (σ:St) (H:Hp) (x y:V) (v u:Value) (Q:VK),Inv X pins σ H s→aT x v→aT y u→t x y H Q→
  wpAny (model X.prog X.w) X.A (inplaceOp op v u) (EP X pins σ Q) X.xe s
section
variable {X:Cx} {pos:Pos}
def jD (i:Nat):TG:=fun v σ H Q=> Q (σ.set i (some v)) H
theorem aJ {i:Nat} {x:Str} (hN:X.N.Nodup) (hi:X.N[i]?=some x) (hx:Loc X.env.scope x) (hf:X.fn x=true∨X.env.scope.names.lookup x=some .local:=by first | exact .inl rfl | exact .inr rfl | assumption):PG X (.Name x pos) (jD i):=by
 intro pins s σ H v u Q I r h
 exact wpAny_assign_Name (gZ I hN hi hx r (fun s' I'=> ⟨_,H,I',h⟩) hf)
def Ak:TGs:=fun vs σ H Q=> vs=[]∧Q σ H
def x4 (t:TG) (u:TGs):TGs:=fun vs σ H Q=> ∃ v r,vs=v::r∧t v σ H fun σ' H'=> u r σ' H' Q
theorem dk:PGs X [] Ak:=by
 intro pins s σ H vs us Q I r h
 obtain ⟨e,h⟩:=h
 subst e
 cases r
 exact assignInOrder_nil ⟨σ,H,I,h⟩
theorem aS {e:Expr} {es:List Expr} {t:TG} {u:TGs} (h1:PG X e t) (h2:PGs X es u)
  (hs:(assignEach (e::es) X.env).map (·.2)=assign e X.env::(assignEach es X.env).map (·.2):=by rfl):PGs X (e::es) (x4 t u):=by
 intro pins s σ H vs us Q I r h
 obtain ⟨v,vr,e1,h⟩:=h
 subst e1
 cases r with
 | cons r rr=>
  rw [hs]
  refine assignInOrder_cons (thn (h1 pins s σ H _ _ _ I r h) fun _ s1 ⟨σ1,H1,I1,q1⟩=> ?_)
  exact h2 pins s1 σ1 H1 _ _ Q I1 rr q1
def A4 (K:PySem.W.Frag) (n:Nat) (t:TGs):TG:=fun v σ H Q=> ∃ a xs,v=.ref a∧SqT K H a xs∧xs.length=n∧t xs σ H Q
theorem fE {es:List Expr} {k:Nat} {t:TGs} {n:Nat} (hc:X.calm=true) (h:PGs X es t)
  (hn:(assignEach es X.env).length=n:=by rfl) (hst:(assignEach es X.env).findIdx? (·.1)=none:=by rfl):PG X (.Tuple es k pos) (A4 X.K n t):=by
 intro pins s σ H v u Q I r hw
 obtain ⟨a,xs,e1,hq,hl,hw⟩:=hw
 subst e1
 cases r
 obtain ⟨its,rv,ht,hz⟩:=I.tuple hq
 refine assign_Tuple_tuple (I.ok.hd hc) ht (by simp [hn,← hl,rv.length]) hst fun h' hx=> ?_
 have I1:Inv X pins σ H { s with heap:=h' }:=I.kept (t':=s.toks) fun b o e=> hx b o (Nat.ne_of_lt (Heap.lt_size e)) e
 exact h pins _ σ H xs _ Q I1 (by simpa using rv) hw
def vv (te:TE) (g:TG):TS:=fun D σ H=> te σ H fun x H1=> g x σ H1 D.nx
theorem yp {tg e:Expr} {te:TE} {g:TG} (he:PE X e te) (hg:PG X tg g) (hs:swapsWithSole [tg] e pos.line X.env=pure false:=by rfl) (hw:swappedStores [tg] e X.env=pure none:=by rfl)
  (h1:(assignEach [tg] X.env).map (·.2)=[assign tg X.env]:=by rfl):PS X (.Assign [tg] e pos) (vv te g):=by
 intro pins s σ H D I h
 refine wpAny_Assign_stores (thn (he pins s σ H _ I h) fun v s1 ⟨x,H1,I1,r1,q1⟩=> ?_) hs hw
 rw [h1]
 exact thn (hg pins s1 σ H1 x v _ I1 r1 q1) fun _ s2 q=> q
theorem oU {i:Nat} {x:Str} {e:Expr} {te:TE} {pos':Pos} (hN:X.N.Nodup) (hi:X.N[i]?=some x) (hx:Loc X.env.scope x) (he:PE X e te) (hs:swapsWith e (some (.Name x pos')) pos.line X.env=pure false:=by rfl) (hf:X.fn x=true∨X.env.scope.names.lookup x=some .local:=by first | exact .inl rfl | exact .inr rfl | assumption):
  PS X (.Assign [.Name x pos'] e pos) (vv te (jD i)):=by
 intro pins s σ H D I h
 refine wpAny_Assign_Name (thn (he pins s σ H _ I h) fun v s1 ⟨y,H1,I1,r1,q1⟩=> ?_) hs
 exact gZ I1 hN hi hx r1 (fun s2 I2=> ⟨_,H1,I2,q1⟩) hf
def A9 (i:Nat) (te:TE) (ti:TIp):TS:=fun D σ H=> ∃ x,σ[i]?=some (some x)∧te σ H fun y H1=> ti x y H1 fun z H2=> D.nx (σ.set i (some z)) H2
theorem y6 {i:Nat} {x:Str} {e:Expr} {te:TE} {op:Operator} {ti:TIp} {pos':Pos} (hN:X.N.Nodup) (hi:X.N[i]?=some x) (hx:Loc X.env.scope x) (he:PE X e te) (ho:PIp X op ti) (hf:X.fn x=true∨X.env.scope.names.lookup x=some .local:=by first | exact .inl rfl | exact .inr rfl | assumption):
  PS X (.AugAssign (.Name x pos') op e pos) (A9 i te ti):=by
 intro pins s σ H D I h
 obtain ⟨v,e1,h⟩:=h
 obtain ⟨m,hn,hl⟩:=I.loc
 have vis:Vis X.env.scope x:=by rcases hx with k | k; exact .inl k; exact .inr (.inl k)
 obtain ⟨u,r,l⟩:=hl i x v hi e1 vis
 refine wpAny_AugAssign_Name ?_
 have go:wpAny (model X.prog X.w) X.A (eval e X.env) (fun w s₂=> wpAny (model X.prog X.w) X.A (inplaceOp op u w) (fun r s₃=> wpAny (model X.prog X.w) X.A (storeName X.env x r) (fun _=> SP X pins D .next) X.xe s₃) X.xe s₂) X.xe s:=by
  refine thn (he pins s σ H _ I h) fun w s1 ⟨y,H1,I1,r1,q1⟩=> ?_
  refine thn (ho pins s1 σ H1 v y u w _ I1 r r1 q1) fun z s2 ⟨zv,H2,I2,r2,q2⟩=> ?_
  exact gZ I2 hN hi hx r2 (fun s3 I3=> ⟨_,H2,I3,q2⟩) hf
 rcases l with ⟨hk,hm⟩ | ⟨hk,c,hc,hcell⟩
 ·exact wpAny_loadName_local I.ok.kind hk hn hm go
 ·rcases hk with hk | hk
  ·exact wpAny_loadName_cell I.ok.kind hk hc hcell go
  ·rcases hx with k | k
   ·have:X.env.scope.names.lookup x=some .free:=hk
    rw [k] at this; cases this
   ·have:X.env.scope.names.lookup x=some .free:=hk
    rw [k] at this; cases this
def ipI (f:Int→Int→Int):TIp:=fun x y H Q=> ∃ i j,x=.int i∧y=.int j∧Q (.int (f i j)) H
theorem yx:PIp X .Add (ipI fun i j=> i+j):=by
 intro pins s σ H x y v u Q I r1 r2 h
 obtain ⟨i,j,e1,e2,q⟩:=h
 subst e1; subst e2
 obtain ⟨t,rfl⟩:=r1
 obtain ⟨t',rfl⟩:=r2
 exact iadd_int ⟨.int _,H,I.tok _,⟨_,rfl⟩,q⟩
end
section
variable {X:Cx} {pos:Pos}
def yr (c:TT) (tb:TS):TS:=fun D σ H=> ∃ W:Nat→St→Hp→Prop,(∃ m,W m σ H)∧∀ m σ H,W m σ H→
 c σ H fun b H1=> if b=true then ∃ N:St→Hp→Prop,(∀ σ' H',N σ' H'→∃ m',m' < m∧W m' σ' H')∧tb { D with nx:=N,ct:=N,bk:=D.nx } σ H1 else D.nx σ H1
theorem uQ {c:Expr} {body:List Stmt} {tc:TT} {tb:TS} (hp:PassesOwn (model X.prog X.w) X.A X.env X.xe) (hc:PT X c tc) (hb:PSs X body tb):PS X (.While c body [] pos) (yr tc tb):=by
 intro pins s σ H D I h
 obtain ⟨W,⟨m0,w0⟩,turn⟩:=h
 refine wpAny_While (codeAny_whileLoop (fun n s'=> ∃ σ' H',Inv X pins σ' H' s'∧W n σ' H') ?_ m0 ⟨σ,H,I,w0⟩)
 rintro n s1 ⟨σ1,H1,I1,w1⟩
 refine wpAny_passesOwn hp (thn (hc pins s1 σ1 H1 _ I1 (turn n σ1 H1 w1)) fun b s2 ⟨H2,I2,q2⟩=> ?_)
 cases b with
 | true=>
  obtain ⟨N,hN,q2⟩:=q2
  rw [if_pos rfl]
  refine wpAny_passesOwn hp (thn (hb pins s2 σ1 H2 _ I2 q2) fun f s3 q3=> ?_)
  cases f with
  | next=>
   obtain ⟨σ3,H3,I3,n3⟩:=q3
   obtain ⟨m',hm,w3⟩:=hN σ3 H3 n3
   exact ⟨m',hm,σ3,H3,I3,w3⟩
  | cont=>
   obtain ⟨σ3,H3,I3,n3⟩:=q3
   obtain ⟨m',hm,w3⟩:=hN σ3 H3 n3
   exact ⟨m',hm,σ3,H3,I3,w3⟩
  | brk=> exact q3
  | ret v=> exact q3
 | false=>
  rw [if_neg Bool.false_ne_true]
  exact wpAny_execs_nil ⟨σ1,H2,I2,q2⟩
end
structure It where
 go:Nat→Hp→Prop
 yld:Nat→Hp→V→Hp→Prop
 stop:Nat→Hp→Prop
def ii (X:Cx) (pins:List (Addr×Obj)) (H:Hp) (b:Addr):Prop:=
 H b=none∧b≠X.env.locals∧b ∉ X.fs∧(b∈X.ex∨X.s₀.heap.objs.size≤b)∧(∀ x c,X.env.cells.lookup x=some c→c≠b)∧∀ p∈X.pn++pins,p.1≠b
theorem Inv.fpOk {X:Cx} {pins:List (Addr×Obj)} {σ:St} {H H':Hp} {s:Shared} {b:Addr} (I:Inv X pins σ H s) (hb:s.heap.objs.size≤b) (hn:H' b=none):ii X pins H' b:=by
 refine ⟨hn,Nat.ne_of_gt (Nat.lt_of_lt_of_le I.lt hb),I.nofs hb,.inr (Nat.le_trans I.sz hb),fun x c e z=> ?_,fun p hp z=> ?_⟩
 ·obtain ⟨v,q⟩:=I.cell x c e
  exact absurd (Nat.lt_of_lt_of_le q.lt (by rw [z]; exact hb)) (Nat.lt_irrefl _)
 ·exact absurd (Nat.lt_of_lt_of_le (Heap.lt_size (I.pin p hp).1) (by rw [z]; exact hb)) (Nat.lt_irrefl _)
structure vE (P:Program) (w:World) (K:PySem.W.Frag) (tg:Expr) (J:It) (fp:List Addr) (it:Addr) (tn:Nat→Heap→Prop):Prop where
 mem:it∈fp
 obj:∀ i h,tn i h→∀ b∈fp,∃ o,h.get? b=some o∧∀ v,o.data≠.cell v
 keep:∀ i h h',tn i h→(∀ b∈fp,∀ o,h.get? b=some o→h'.get? b=some o)→tn i h'
 item:∀ (X:Cx),X.prog=P→X.w=w→X.K=K→X.calm=true→∀ (i:Nat) (pins:List (Addr×Obj)) (s:Shared) (σ:St) (H:Hp) (E:Value→Shared→Prop),Inv X pins σ H s→(∀ b∈fp,ii X pins H b)→tn i s.heap→J.go i H→
  wpAny (model P w) X.A (pyNext (.ref it)) (fun r s1=> ∃ u,r=some u∧
   wpAny (model P w) X.A (letOwnedTupleGo tg (.ref it) u) (fun _ s2=> ∃ x H',Inv X pins σ H' s2∧aT x u∧J.yld i H x H'∧tn (i+1) s2.heap∧∀ b∈fp,H' b=none) E s1) E s
 done:∀ (X:Cx),X.prog=P→X.w=w→X.K=K→X.calm=true→∀ (i:Nat) (pins:List (Addr×Obj)) (s:Shared) (σ:St) (H:Hp) (E:Value→Shared→Prop),Inv X pins σ H s→(∀ b∈fp,ii X pins H b)→tn i s.heap→J.stop i H→
  wpAny (model P w) X.A (pyNext (.ref it)) (fun r s1=> r=none∧Inv X pins σ H s1) E s
 self:∀ (A:Around) (i:Nat) (s:Shared) (Q:Value→Shared→Prop) (E:Value→Shared→Prop),tn i s.heap→Q (.ref it) s→wpAny (model P w) A (pyIter (.ref it)) Q E s
abbrev TI:=St→Hp→(It→Hp→Prop)→Prop
def PIE (X:Cx) (pins:List (Addr×Obj)) (σ:St) (tg:Expr) (R:It→Hp→Prop) (itv:Value) (s2:Shared):Prop:=
 ∃ (it:Addr) (fp:List Addr) (tn:Nat→Heap→Prop) (J:It) (H':Hp),itv=.ref it∧Inv X pins σ H' s2∧vE X.prog X.w X.K tg J fp it tn∧tn 0 s2.heap∧(∀ b∈fp,ii X pins H' b)∧R J H'
def PI (X:Cx) (tg iter:Expr) (wi:TI):Prop:=
 ∀ (pins:List (Addr×Obj)) (s:Shared) (σ:St) (H:Hp) (R:It→Hp→Prop),Inv X pins σ H s→wi σ H R→
  wpAny (model X.prog X.w) X.A (eval iter X.env) (fun v s1=> wpAny (model X.prog X.w) X.A (pyIter v) (PIE X pins σ tg R) X.xe s1) X.xe s
theorem uT {M:Model} {A:Around} {E:Value→Shared→Prop} {s:Shared} {tg:Expr} {it:Addr} {u:Value} {o:Obj} {n:String} {vs:Array Value} {Q:Unit→Shared→Prop} (ho:s.heap.get? it=some o) (hc:o.cls=.type n) (hd:o.data=.fields vs)
  (hn:["enumerate","zip","dict_itemiterator","dict_reverseitemiterator","odict_iterator","itertools.zip_longest","itertools.pairwise"].contains n=false) (hQ:Q () s):wpAny M A (letOwnedTupleGo tg (.ref it) u) Q E s:=by
 unfold letOwnedTupleGo
 cases tg <;> first
  | exact wpAny_pure hQ
  | (cases u <;> first
    | exact wpAny_pure hQ
    | (refine wpAny_bind (wpAny_load ho ?_)
       rw [hc,hd]
       show wpAny M A (if (["enumerate","zip","dict_itemiterator","dict_reverseitemiterator","odict_iterator","itertools.zip_longest","itertools.pairwise"].contains n && vs[0]?==some (rawInt _))=true then _ else _) Q E s
       rw [if_neg (by intro h; rw [hn,Bool.false_and] at h; cases h)]
       exact wpAny_pure hQ))
def Itl (K:PySem.W.Frag) (a:Addr):It:=
 ⟨fun i H=> ∃ xs x,SqL K H a xs∧xs[i]?=some x,fun i H x H'=> H'=H∧∀ xs,SqL K H a xs→xs[i]?=some x,fun i H=> ∃ xs,SqL K H a xs∧xs.length≤i⟩
theorem kc {P:Program} {w:World} {K:PySem.W.Frag} {tg:Expr} (a it:Addr):vE P w K tg (Itl K a) [it] it (fun i h=> h.IsListIter it a i) where
 mem:=by simp
 obj:=fun i h st b hb=> by
  have e:b=it:=by simpa using hb
  subst e
  obtain ⟨o,e,c,d⟩:=st
  exact ⟨o,e,fun v z=> by rw [d] at z; cases z⟩
 keep:=fun i h h' st k=> st.at fun o e=> k it (by simp) o e
 item:=by
  intro X hP hw hK hc i pins s σ H E I hf st hg
  subst hP hw hK
  obtain ⟨xs,x,hq,hx⟩:=hg
  obtain ⟨its,rv,p,hz⟩:=I.list hq
  obtain ⟨u,hu,ru⟩:=rv.get hx
  obtain ⟨f0,f1,f2,f3,f4,f5⟩:=hf it (by simp)
  refine wpAny_pyNext_list_item st p.isList (x:=u) (by simpa using hu) fun h' st' sb=> ?_
  have I1:Inv X pins σ H { s with heap:=h' }:=I.turned (t':=s.toks) (fun b o hb e=> (sb.2 b hb).trans e) f0 f1 f3 f4 f5
  obtain ⟨o,e,c,d⟩:=id st'
  exact ⟨u,rfl,uT (s:={ s with heap:=h' }) e c d (by decide) ⟨x,H,I1,ru,⟨rfl,fun ys hy=> by rw [I.list_inj hy hq]; exact hx⟩,st',fun b hb=> (hf b hb).1⟩⟩
 done:=by
  intro X hP hw hK hc i pins s σ H E I hf st hg
  subst hP hw hK
  obtain ⟨xs,hq,hx⟩:=hg
  obtain ⟨its,rv,p,hz⟩:=I.list hq
  obtain ⟨f0,f1,f2,f3,f4,f5⟩:=hf it (by simp)
  have hl:=rv.length
  exact wpAny_pyNext_list_end (I.ok.hd hc) st p.isList (by simp; omega) fun h' eb=> ⟨rfl,I.turned (t':=s.toks) (fun b o hb e=> eb b o hb e) f0 f1 f3 f4 f5⟩
 self:=fun _ _ _ _ _ st h=> wpAny_pyIter_listiter st h
end L2
namespace L2
open PySem PySem.Spec PyProof.Rows
section
variable {X:Cx} {tg:Expr}
def xP (K:PySem.W.Frag) (tl:TE):TI:=fun σ H R=> tl σ H fun x H1=> ∃ a,x=.ref a∧(∃ xs,SqL K H1 a xs)∧R (Itl K a) H1
theorem wq {l:Expr} {tl:TE} (hl:PE X l tl):PI X tg l (xP X.K tl):=by
 intro pins s σ H R I h
 refine thn (hl pins s σ H _ I h) fun v s1 ⟨x,H1,I1,r1,q1⟩=> ?_
 obtain ⟨a,e,⟨xs,hq⟩,q⟩:=q1
 subst e
 cases r1
 obtain ⟨its,rv,p,hz⟩:=I1.list hq
 refine wpAny_pyIter_list p.isList ?_
 refine ⟨s1.heap.objs.size,[s1.heap.objs.size],_,_,H1,rfl,I1.kept (t':=s1.toks) fun b o e=> Heap.get?_push_of_some _ e,kc a _,⟨_,Heap.get?_push_size _ rfl,rfl,rfl⟩,fun b hb=> ?_,q⟩
 have e:b=s1.heap.objs.size:=by simpa using hb
 subst e
 exact I1.fpOk (Nat.le_refl _) (I1.hok.fresh (Nat.le_refl _))
def Bt (wi:TI) (g:TG) (tb:TS):TS:=fun D σ H=> wi σ H fun J H1=> ∃ W:Nat→Nat→St→Hp→Prop,(∃ m,W 0 m σ H1)∧∀ i m σ H,W i m σ H→
 (J.stop i H∧D.nx σ H)∨(J.go i H∧∃ N:St→Hp→Prop,(∀ σ' H',N σ' H'→∃ m',m' < m∧W (i+1) m' σ' H')∧∀ x H',J.yld i H x H'→g x σ H' fun σ2 H2=> tb { D with nx:=N,ct:=N,bk:=D.nx } σ2 H2)
def jf (fp:List Addr) (h:Heap):List (Addr×Obj):=fp.filterMap fun b=> (h.get? b).map fun o=> (b,o)
theorem dj {fp:List Addr} {h:Heap} {b:Addr} {o:Obj} (hb:b∈fp) (e:h.get? b=some o):(b,o)∈jf fp h:=List.mem_filterMap.mpr ⟨b,hb,by rw [e]; rfl⟩
theorem rD {fp:List Addr} {h:Heap} {p:Addr×Obj} (hp:p∈jf fp h):p.1∈fp∧h.get? p.1=some p.2:=by
 obtain ⟨b,hb,e⟩:=List.mem_filterMap.mp hp
 cases q:h.get? b with
 | none=> rw [q] at e; cases e
 | some o=>
  rw [q] at e
  have e':(b,o)=p:=Option.some.inj e
  subst e'
  exact ⟨hb,q⟩
theorem Inv.pinned {pins:List (Addr×Obj)} {σ:St} {H:Hp} {s:Shared} {fp:List Addr} (I:Inv X pins σ H s) (hf:∀ b∈fp,ii X pins H b) (ho:∀ b∈fp,∃ o,s.heap.get? b=some o∧∀ v,o.data≠.cell v):Inv X (pins++jf fp s.heap) σ H s:=
 I.pins_of fun p hp=> (List.mem_append.mp hp).elim (fun z=> I.pin p (List.mem_append_right _ z)) fun z=> by
  obtain ⟨hb,e⟩:=rD z
  obtain ⟨f0,f1,f2,_⟩:=hf p.1 hb
  obtain ⟨o,e',d⟩:=ho p.1 hb
  rw [e] at e'; cases e'
  exact ⟨e,f0,f1,f2,d⟩
theorem Inv.unpinned {pins pl:List (Addr×Obj)} {σ:St} {H:Hp} {s:Shared} (I:Inv X (pins++pl) σ H s):Inv X pins σ H s:=I.pins_of fun p hp=> I.pin p (List.mem_append_right _ (List.mem_append_left _ hp))
theorem ze {iter:Expr} {body:List Stmt} {wi:TI} {g:TG} {tb:TS} {pos:Pos} (hp:PassesOwn (model X.prog X.w) X.A X.env X.xe) (hc:X.calm=true) (hi:PI X tg iter wi) (hg:PG X tg g) (hb:PSs X body tb)
  (hs:∀ x,foldedSetIterable iter X.env x=pure x:=by intro _; rfl):PS X (.For tg iter body [] pos) (Bt wi g tb):=by
 intro pins s σ H D I h
 refine wpAny_For (thn (hi pins s σ H _ I h) fun v s1 h1=> thn h1 fun itv s2 h2=> ?_) hs
 obtain ⟨it,fp,tn,J,H2,e,I2,T,st2,f2,W,⟨m0,w0⟩,turn⟩:=h2
 subst e
 have stat:∀ {H':Hp},(∀ b∈fp,H' b=none)→∀ b∈fp,ii X pins H' b:=fun hn b hb=> ⟨hn b hb,(f2 b hb).2⟩
 refine codeAny_forLoop_any (fun n s'=> ∃ i σ' H',Inv X pins σ' H' s'∧tn i s'.heap∧(∀ b∈fp,H' b=none)∧W i n σ' H') ?_ m0 ⟨0,σ,H2,I2,st2,fun b hb=> (f2 b hb).1,w0⟩
 rintro n s3 ⟨i,σ3,H3,I3,st3,fr3,w3⟩
 rcases turn i n σ3 H3 w3 with ⟨stop,qn⟩ | ⟨go,N,hN,step⟩
 ·refine wpAny_passesOwn hp (thn (T.done X rfl rfl rfl hc i pins s3 σ3 H3 X.xe I3 (stat fr3) st3 stop) fun r s4 ⟨hr,I4⟩=> ?_)
  subst hr
  exact wpAny_execs_nil ⟨σ3,H3,I4,qn⟩
 ·refine wpAny_passesOwn hp (thn (T.item X rfl rfl rfl hc i pins s3 σ3 H3 X.xe I3 (stat fr3) st3 go) fun r s4 ⟨u,hr,h4⟩=> ?_)
  subst hr
  refine wpAny_passesOwn hp (thn h4 fun _ s5 ⟨x,H5,I5,r5,y5,st5,fr5⟩=> ?_)
  have I5':=I5.pinned (stat fr5) (T.obj _ _ st5)
  refine wpAny_passesOwn hp (thn (hg _ s5 σ3 H5 x u _ I5' r5 (step x H5 y5)) fun _ s6 ⟨σ6,H6,I6,q6⟩=> ?_)
  refine wpAny_passesOwn hp (thn (hb _ s6 σ6 H6 _ I6 q6) fun f s7 q7=> ?_)
  have again:∀ {σ7:St} {H7:Hp},Inv X (pins++jf fp s5.heap) σ7 H7 s7→N σ7 H7→∃ m,m < n∧∃ i σ' H',Inv X pins σ' H' s7∧tn i s7.heap∧(∀ b∈fp,H' b=none)∧W i m σ' H':=fun {σ7 H7} I7 n7=> by
   obtain ⟨m',hm,w7⟩:=hN σ7 H7 n7
   refine ⟨m',hm,i+1,σ7,H7,I7.unpinned,T.keep _ _ _ st5 fun b hb o e=> (I7.pin (b,o) (List.mem_append_right _ (List.mem_append_right _ (dj hb e)))).1,fun b hb=> ?_,w7⟩
   obtain ⟨o,e,d⟩:=T.obj _ _ st5 b hb
   exact (I7.pin (b,o) (List.mem_append_right _ (List.mem_append_right _ (dj hb e)))).2.1
  cases f with
  | next=> obtain ⟨σ7,H7,I7,n7⟩:=q7; exact again I7 n7
  | cont=> obtain ⟨σ7,H7,I7,n7⟩:=q7; exact again I7 n7
  | brk=> obtain ⟨σ7,H7,I7,q7⟩:=q7; exact ⟨σ7,H7,I7.unpinned,q7⟩
  | ret v=> obtain ⟨x7,σ7,H7,I7,r7,q7⟩:=q7; exact ⟨x7,σ7,H7,I7.unpinned,r7,q7⟩
end
end L2
namespace L2
open PySem PySem.Spec PyProof.Rows
abbrev R2:=V→V→Hp→VK→Prop
def OpR (X:Cx) (f:Value→Value→Sem Value) (r:R2):Prop:=
 ∀ (pins:List (Addr×Obj)) (s:Shared) (σ:St) (H:Hp) (x y:V) (v u:Value) (Q:VK),Inv X pins σ H s→aT x v→aT y u→r x y H Q→
  wpAny (model X.prog X.w) X.A (f v u) (EP X pins σ Q) X.xe s
def UnR (X:Cx) (f:Value→Sem Value) (r:V→Hp→VK→Prop):Prop:=
 ∀ (pins:List (Addr×Obj)) (s:Shared) (σ:St) (H:Hp) (x:V) (v:Value) (Q:VK),Inv X pins σ H s→aT x v→r x H Q→
  wpAny (model X.prog X.w) X.A (f v) (EP X pins σ Q) X.xe s
def cJ (X:Cx) (f:Value) (r:List V→Hp→VK→Prop):Prop:=
 ∀ (pins:List (Addr×Obj)) (s:Shared) (σ:St) (H:Hp) (xs:List V) (us:List Value) (Q:VK),Inv X pins σ H s→aI xs us→r xs H Q→
  wpAny (model X.prog X.w) X.A (call f us) (EP X pins σ Q) X.xe s
def tOp (r:R2) (ta tb:TE):TE:=fun σ H Q=> ta σ H fun x H1=> tb σ H1 fun y H2=> r x y H2 Q
def tUn (r:V→Hp→VK→Prop) (ta:TE):TE:=fun σ H Q=> ta σ H fun x H1=> r x H1 Q
def rI (C:Int→Int→Prop) (g:Int→Int→V):R2:=fun x y H Q=> ∃ i j,x=.int i∧y=.int j∧C i j∧Q (g i j) H
def rI0 (g:Int→Int→V):R2:=fun x y H Q=> ∃ i j,x=.int i∧y=.int j∧Q (g i j) H
def rU (g:Int→V):V→Hp→VK→Prop:=fun x H Q=> ∃ i,x=.int i∧Q (g i) H
section
variable {X:Cx} {a b c:Expr} {ta tb tc:TE} {pos:Pos}
theorem zy (ha:PE X a ta) (hb:PE X b tb) {pins:List (Addr×Obj)} {s:Shared} {σ:St} {H:Hp} {R:V→V→Hp→Prop} (I:Inv X pins σ H s)
  (h:ta σ H fun x H1=> tb σ H1 fun y H2=> R x y H2) {Q:Value→Shared→Prop} {f:Value→Value→Sem Value}
  (hf:∀ v u s2 x y H2,Inv X pins σ H2 s2→aT x v→aT y u→R x y H2→wpAny (model X.prog X.w) X.A (f v u) Q X.xe s2):
  wpAny (model X.prog X.w) X.A (eval a X.env) (fun v s₁=> wpAny (model X.prog X.w) X.A (eval b X.env) (fun u s₂=> wpAny (model X.prog X.w) X.A (f v u) Q X.xe s₂) X.xe s₁) X.xe s:=by
 refine thn (ha pins s σ H _ I h) fun v s1 ⟨x,H1,I1,r1,q1⟩=> ?_
 refine thn (hb pins s1 σ H1 _ I1 q1) fun u s2 ⟨y,H2,I2,r2,q2⟩=> ?_
 exact hf v u s2 x y H2 I2 r1 r2 q2
theorem n4 {op:Operator} {r:R2} (ho:OpR X (binaryOp op) r) (ha:PE X a ta) (hb:PE X b tb):PE X (.BinOp a op b pos) (tOp r ta tb):=by
 intro pins s σ H Q I h
 exact wpAny_BinOp (zy ha hb I h fun v u s2 x y H2 I2 rx ry q=> ho pins s2 σ H2 x y v u Q I2 rx ry q)
theorem Aw {op:UnaryOp} {r:V→Hp→VK→Prop} (ho:UnR X (unaryOp op) r) (ha:PE X a ta):PE X (.UnaryOp op a pos) (tUn r ta):=by
 intro pins s σ H Q I h
 exact UnaryOp_ (thn (ha pins s σ H _ I h) fun v s1 ⟨x,H1,I1,r1,q1⟩=> ho pins s1 σ H1 x v Q I1 r1 q1)
theorem opI {f:Value→Value→Sem Value} {C:Int→Int→Prop} {g:Int→Int→Int}
  (rule:∀ (i j:Int) (t u:Tok) (s:Shared) (Q:Value→Shared→Prop) (E:Value→Shared→Prop),C i j→Q (.int (g i j) s.toks) { s with toks:=s.toks+1 }→wpAny (model X.prog X.w) X.A (f (.int i t) (.int j u)) Q E s):
  OpR X f (rI C fun i j=> .int (g i j)):=by
 intro pins s σ H x y v u Q I rx ry h
 obtain ⟨i,j,rfl,rfl,hc,q⟩:=h
 obtain ⟨t,rfl⟩:=rx
 obtain ⟨t',rfl⟩:=ry
 exact rule i j t t' s _ _ hc ⟨.int (g i j),H,I.tok _,⟨_,rfl⟩,q⟩
theorem Ax {f:Value→Value→Sem Value} {g:Int→Int→Int}
  (rule:∀ (i j:Int) (t u:Tok) (s:Shared) (Q:Value→Shared→Prop) (E:Value→Shared→Prop),Q (.int (g i j) s.toks) { s with toks:=s.toks+1 }→wpAny (model X.prog X.w) X.A (f (.int i t) (.int j u)) Q E s):
  OpR X f (rI0 fun i j=> .int (g i j)):=by
 intro pins s σ H x y v u Q I rx ry h
 obtain ⟨i,j,rfl,rfl,q⟩:=h
 obtain ⟨t,rfl⟩:=rx
 obtain ⟨t',rfl⟩:=ry
 exact rule i j t t' s _ _ ⟨.int (g i j),H,I.tok _,⟨_,rfl⟩,q⟩
theorem zA {f:Value→Value→Sem Value} {g:Int→Int→Bool}
  (rule:∀ (i j:Int) (t u:Tok) (s:Shared) (Q:Value→Shared→Prop) (E:Value→Shared→Prop),Q (.bool (g i j)) s→wpAny (model X.prog X.w) X.A (f (.int i t) (.int j u)) Q E s):
  OpR X f (rI0 fun i j=> .bl (g i j)):=by
 intro pins s σ H x y v u Q I rx ry h
 obtain ⟨i,j,rfl,rfl,q⟩:=h
 obtain ⟨t,rfl⟩:=rx
 obtain ⟨t',rfl⟩:=ry
 exact rule i j t t' s _ _ ⟨.bl (g i j),H,I,rfl,q⟩
def AO (i j:Int):Prop:=0≤j∧j≤1000000∧i.natAbs < 2 ^ 64
theorem yK:OpR X (binaryOp .Add) (rI0 fun i j=> .int (i+j)):=Ax fun _ _ _ _ _ _ _ q=> add_int q
theorem yk:OpR X (binaryOp .Sub) (rI0 fun i j=> .int (i - j)):=Ax fun _ _ _ _ _ _ _ q=> sub_int q
theorem yJ:OpR X (binaryOp .Mod) (rI (fun _ j=> 0 < j) fun i j=> .int (i % j)):=opI fun i j _ _ _ _ _ hc q=> by
 have h1:(0:Int) < j:=hc
 exact mod_int' (by omega) (by rw [Int.fmod_eq_emod_of_nonneg i (by omega)]; exact q)
theorem zx:OpR X (binaryOp .Pow) (rI AO fun i j=> .int (i ^ j.toNat)):=opI fun _ _ _ _ _ _ _ hc q=> pow_int_small hc.1 hc.2.1 hc.2.2 q
theorem unI {f:Value→Sem Value} {g:Int→Int}
  (rule:∀ (i:Int) (t:Tok) (s:Shared) (Q:Value→Shared→Prop) (E:Value→Shared→Prop),Q (.int (g i) s.toks) { s with toks:=s.toks+1 }→wpAny (model X.prog X.w) X.A (f (.int i t)) Q E s):
  UnR X f (rU fun i=> .int (g i)):=by
 intro pins s σ H x v Q I rx h
 obtain ⟨i,rfl,q⟩:=h
 obtain ⟨t,rfl⟩:=rx
 exact rule i t s _ _ ⟨.int (g i),H,I.tok _,⟨_,rfl⟩,q⟩
theorem zl:UnR X (unaryOp .USub) (rU fun i=> .int (-i)):=unI fun _ _ _ _ _ q=> neg_int q
end
def AW:V→V→Bool
 | .non,.non=> true | .non,.int _=> true | .int _,.non=> true | .non,.bl _=> true | .bl _,.non=> true | .non,.str _=> true | .str _,.non=> true
 | .int _,.int _=> true | .bl _,.bl _=> true | .str _,.str _=> true | .byt _,.byt _=> true
 | .int _,.str _=> true | .str _,.int _=> true | .bl _,.str _=> true | .str _,.bl _=> true
 | _,_=> false
def rEq:R2:=fun x y H Q=> AW x y=true∧Q (.bl (decide (x=y))) H
def rNe:R2:=fun x y H Q=> AW x y=true∧Q (.bl (!decide (x=y))) H
theorem iT {i j:Int}:decide (V.int i=V.int j)=(i==j):=by
 rw [Bool.eq_iff_iff]
 simp
theorem uC {i j:Bool}:decide (V.bl i=V.bl j)=(i==j):=by
 rw [Bool.eq_iff_iff]
 simp
theorem p_ {i j:Str}:decide (V.str i=V.str j)=(i==j):=by
 rw [Bool.eq_iff_iff]
 simp
theorem pX {i j:Array UInt8}:decide (V.byt i=V.byt j)=(i.toList==j.toList):=by
 rw [Bool.eq_iff_iff]
 cases i
 cases j
 simp
section
variable {X:Cx} {a b c:Expr} {ta tb tc:TE} {pos:Pos}
theorem a_ {pins:List (Addr×Obj)} {σ:St} {H:Hp} {s:Shared} {Q:VK} {k k':Bool} (I:Inv X pins σ H s) (q:Q (.bl k) H) (e:k=k'):EP X pins σ Q (.bool k') s:=by
 subst e
 exact ⟨.bl k,H,I,rfl,q⟩
theorem A2:OpR X (compareOp .Eq) rEq:=by
 intro pins s σ H x y v u Q I rx ry h
 obtain ⟨hs,q⟩:=h
 cases x with
 | non=>
  cases rx
  cases y with
  | non=> cases ry; exact PySem.EqNone.eq_none_none (a_ I q (by simp))
  | bl j=> cases ry; exact PySem.EqNone.eq_none_bool (a_ I q (by simp))
  | int j=> obtain ⟨t',rfl⟩:=ry; exact PySem.EqNone.eq_none_int (a_ I q (by simp))
  | str j=> obtain ⟨t',rfl⟩:=ry; exact PySem.EqNone.eq_none_str (a_ I q (by simp))
  | _=> exact absurd (show false=true from hs) Bool.false_ne_true
 | bl i=>
  cases rx
  cases y with
  | non=> cases ry; exact PySem.EqNone.eq_bool_none (a_ I q (by simp))
  | bl j=> cases ry; exact eq_bool (a_ I q uC)
  | str j=> obtain ⟨t',rfl⟩:=ry; exact PySem.EqMixed.eq_bool_str (a_ I q (by simp))
  | _=> exact absurd (show false=true from hs) Bool.false_ne_true
 | int i=>
  obtain ⟨t,rfl⟩:=rx
  cases y with
  | non=> cases ry; exact PySem.EqNone.eq_int_none (a_ I q (by simp))
  | int j=> obtain ⟨t',rfl⟩:=ry; exact eq_int (a_ I q iT)
  | str j=> obtain ⟨t',rfl⟩:=ry; exact PySem.EqMixed.eq_int_str (a_ I q (by simp))
  | _=> exact absurd (show false=true from hs) Bool.false_ne_true
 | str i=>
  obtain ⟨t,rfl⟩:=rx
  cases y with
  | non=> cases ry; exact PySem.EqNone.eq_str_none (a_ I q (by simp))
  | bl j=> cases ry; exact PySem.EqMixed.eq_str_bool (a_ I q (by simp))
  | int j=> obtain ⟨t',rfl⟩:=ry; exact PySem.EqMixed.eq_str_int (a_ I q (by simp))
  | str j=> obtain ⟨t',rfl⟩:=ry; exact eq_str (a_ I q p_)
  | _=> exact absurd (show false=true from hs) Bool.false_ne_true
 | byt i=>
  obtain ⟨t,rfl⟩:=rx
  cases y with
  | byt j=> obtain ⟨t',rfl⟩:=ry; exact PySem.W.eq_bytes (a_ I q pX)
  | _=> exact absurd (show false=true from hs) Bool.false_ne_true
 | _=> cases y <;> exact absurd (show false=true from hs) Bool.false_ne_true
theorem AK:OpR X (compareOp .NotEq) rNe:=by
 intro pins s σ H x y v u Q I rx ry h
 obtain ⟨hs,q⟩:=h
 cases x with
 | non=>
  cases rx
  cases y with
  | non=> cases ry; exact PySem.EqNone.ne_none_none (a_ I q (by simp))
  | bl j=> cases ry; exact PySem.EqNone.ne_none_bool (a_ I q (by simp))
  | int j=> obtain ⟨t',rfl⟩:=ry; exact PySem.EqNone.ne_none_int (a_ I q (by simp))
  | str j=> obtain ⟨t',rfl⟩:=ry; exact PySem.EqNone.ne_none_str (a_ I q (by simp))
  | _=> exact absurd (show false=true from hs) Bool.false_ne_true
 | bl i=>
  cases rx
  cases y with
  | non=> cases ry; exact PySem.EqNone.ne_bool_none (a_ I q (by simp))
  | bl j=> cases ry; exact ne_bool (a_ I q (congrArg not uC))
  | str j=> obtain ⟨t',rfl⟩:=ry; exact PySem.EqMixed.ne_bool_str (a_ I q (by simp))
  | _=> exact absurd (show false=true from hs) Bool.false_ne_true
 | int i=>
  obtain ⟨t,rfl⟩:=rx
  cases y with
  | non=> cases ry; exact PySem.EqNone.ne_int_none (a_ I q (by simp))
  | int j=> obtain ⟨t',rfl⟩:=ry; exact ne_int (a_ I q (congrArg not iT))
  | str j=> obtain ⟨t',rfl⟩:=ry; exact PySem.EqMixed.ne_int_str (a_ I q (by simp))
  | _=> exact absurd (show false=true from hs) Bool.false_ne_true
 | str i=>
  obtain ⟨t,rfl⟩:=rx
  cases y with
  | non=> cases ry; exact PySem.EqNone.ne_str_none (a_ I q (by simp))
  | bl j=> cases ry; exact PySem.EqMixed.ne_str_bool (a_ I q (by simp))
  | int j=> obtain ⟨t',rfl⟩:=ry; exact PySem.EqMixed.ne_str_int (a_ I q (by simp))
  | str j=> obtain ⟨t',rfl⟩:=ry; exact ne_str (a_ I q (congrArg not p_))
  | _=> exact absurd (show false=true from hs) Bool.false_ne_true
 | byt i=>
  obtain ⟨t,rfl⟩:=rx
  cases y with
  | byt j=> obtain ⟨t',rfl⟩:=ry; exact PySem.W.ne_bytes (a_ I q (congrArg not pX))
  | _=> exact absurd (show false=true from hs) Bool.false_ne_true
 | _=> cases y <;> exact absurd (show false=true from hs) Bool.false_ne_true
theorem A1:OpR X (compareOp .Lt) (rI0 fun i j=> .bl (decide (i < j))):=zA fun _ _ _ _ _ _ _ q=> lt_int q
theorem Am:OpR X (compareOp .Gt) (rI0 fun i j=> .bl (decide (j < i))):=zA fun _ _ _ _ _ _ _ q=> gt_int q
theorem A3:OpR X (compareOp .GtE) (rI0 fun i j=> .bl (decide (j≤i))):=zA fun _ _ _ _ _ _ _ q=> ge_int q
theorem rN:OpR X (compareOp .In) (fun x y H Q=> ∃ i j,x=.str i∧y=.str j∧Q (.bl (!(Builtin.Str.occurrences j i 0 j.length 1).isEmpty)) H):=by
 intro pins s σ H x y v u Q I rx ry h
 obtain ⟨i,j,rfl,rfl,q⟩:=h
 obtain ⟨t,rfl⟩:=rx
 obtain ⟨t',rfl⟩:=ry
 exact in_str (a_ I q rfl)
theorem ie (b:Expr) {op:CmpOp} (h:op≠.In:=by decide) (h2:op≠.NotIn:=by decide):behindInMarks op b=false:=by
 have e1:(op==CmpOp.In)=false:=by cases op <;> first | rfl | exact absurd rfl h
 have e2:(op==CmpOp.NotIn)=false:=by cases op <;> first | rfl | exact absurd rfl h2
 cases b <;> simp [behindInMarks,e1,e2]
theorem wk {op:CmpOp} {r:R2} (ho:OpR X (compareOp op) r) (ha:PE X a ta) (hb:PE X b tb) (hm:behindInMarks op b=false):PE X (.Compare a [op] [b] pos) (tOp r ta tb):=by
 intro pins s σ H Q I h
 exact wpAny_Compare1 (zy ha hb I h fun v u s2 x y H2 I2 rx ry q=> ho pins s2 σ H2 x y v u Q I2 rx ry q) hm
def xH (t:TE):TT:=fun σ H Q=> t σ H fun x H'=> ∃ k,x=.bl k∧Q k H'
theorem qx {op:CmpOp} {r:R2} (ho:OpR X (compareOp op) r) (ha:PE X a ta) (hb:PE X b tb) (hm:behindInMarks op b=false):PT X (.Compare a [op] [b] pos) (xH (tOp r ta tb)):=by
 intro pins s σ H Q I h
 refine wpAny_isTrue_Compare1 (thn (ha pins s σ H _ I h) fun v s1 ⟨x,H1,I1,r1,q1⟩=> thn (hb pins s1 σ H1 _ I1 q1) fun u s2 ⟨y,H2,I2,r2,q2⟩=>
  thn (ho pins s2 σ H2 x y v u _ I2 r1 r2 q2) fun c s3 ⟨z,H3,I3,r3,k,e,q3⟩=> ?_) hm
 subst e
 cases r3
 exact wpAny_truthy_bool ⟨H3,I3,q3⟩
def yN (r r':R2) (ta tb tc:TE):TE:=fun σ H Q=> ta σ H fun x H1=> tb σ H1 fun y H2=> r x y H2 fun z H3=> ∃ k,z=.bl k∧
 (if k=true then tc σ H3 fun w' H4=> r' y w' H4 Q else Q (.bl false) H3)
theorem tm {op op':CmpOp} {r r':R2} (ho:OpR X (compareOp op) r) (ho':OpR X (compareOp op') r') (ha:PE X a ta) (hb:PE X b tb) (hc:PE X c tc)
  (hm:lastMarks [op,op'] [b,c]=false:=by with_unfolding_all rfl):PT X (.Compare a [op,op'] [b,c] pos) (xH (yN r r' ta tb tc)):=by
 intro pins s σ H Q I h
 refine isTrue_chain (thn (ha pins s σ H _ I h) fun v s1 ⟨x,H1,I1,r1,q1⟩=> test_link (thn (hb pins s1 σ H1 _ I1 q1) fun u s2 ⟨y,H2,I2,r2,q2⟩=>
  thn (ho pins s2 σ H2 x y v u _ I2 r1 r2 q2) fun d s3 ⟨z,H3,I3,r3,k,e,q3⟩=> ?_)) hm
 subst e
 cases r3
 refine wpAny_truthy_bool ?_
 cases k with
 | false=>
  obtain ⟨k',e',q'⟩:=q3
  cases e'
  exact ite_ff ⟨H3,I3,q'⟩
 | true=>
  refine ite_tt (test_last (thn (hc pins s3 σ H3 _ I3 q3) fun w' s4 ⟨z',H4,I4,r4,q4⟩=> thn (ho' pins s4 σ H4 y z' u w' _ I4 r2 r4 q4) fun d' s5 ⟨z2,H5,I5,r5,k2,e2,q5⟩=> ?_))
  subst e2
  cases r5
  exact wpAny_truthy_bool ⟨H5,I5,q5⟩
theorem ju:(sizeLine:Nat) < 2 ^ 63:=by rw [sizeLine_eq]; decide
theorem ou:OpR X (binaryOp .Add) (fun x y H Q=> ∃ i j,x=.str i∧y=.str j∧i.length+j.length≤sizeLine∧Q (.str (i++j)) H):=by
 intro pins s σ H x y v u Q I rx ry h
 obtain ⟨i,j,rfl,rfl,hz,q⟩:=h
 obtain ⟨t,rfl⟩:=rx
 obtain ⟨t',rfl⟩:=ry
 exact add_str (fun t' tk=> ⟨.str (i++j),H,I.tok _,⟨_,rfl⟩,q⟩) hz
theorem dG {x:V} {us:List Value} (r:aI [x] us):∃ u,us=[u]∧aT x u:=by
 cases r with
 | cons r1 r2=> cases r2; exact ⟨_,rfl,r1⟩
theorem mw {x y:V} {us:List Value} (r:aI [x,y] us):∃ u w',us=[u,w']∧aT x u∧aT y w':=by
 cases r with
 | cons r1 r2=>
  cases r2 with
  | cons r3 r4=> cases r4; exact ⟨_,_,rfl,r1,r3⟩
theorem tE:cJ X (.builtin "abs") (fun xs H Q=> ∃ i,xs=[.int i]∧Q (.int (if i < 0 then -i else i)) H):=by
 intro pins s σ H xs us Q I r h
 obtain ⟨i,rfl,q⟩:=h
 obtain ⟨u,rfl,t,rfl⟩:=dG r
 exact call_abs_int fun u tk=> ⟨.int (if i < 0 then -i else i),H,I.tok _,⟨_,rfl⟩,q⟩
theorem rG (hc:X.calm=true):cJ X (.builtin "max") (fun xs H Q=> ∃ i j,xs=[.int i,.int j]∧Q (.int (if j > i then j else i)) H):=by
 intro pins s σ H xs us Q I r h
 obtain ⟨i,j,rfl,q⟩:=h
 obtain ⟨u,w',rfl,⟨t,rfl⟩,⟨t',rfl⟩⟩:=mw r
 refine max_two_ints (I.ok.hd hc) fun h' tk k=> ⟨_,H,I.kept k,?_,q⟩
 by_cases hj:j > i
 ·rw [if_pos hj,if_pos hj]; exact ⟨_,rfl⟩
 ·rw [if_neg hj,if_neg hj]; exact ⟨_,rfl⟩
theorem rB (hc:X.calm=true):cJ X (.builtin "min") (fun xs H Q=> ∃ i j,xs=[.int i,.int j]∧Q (.int (if j < i then j else i)) H):=by
 intro pins s σ H xs us Q I r h
 obtain ⟨i,j,rfl,q⟩:=h
 obtain ⟨u,w',rfl,⟨t,rfl⟩,⟨t',rfl⟩⟩:=mw r
 refine min_two_ints (I.ok.hd hc) fun h' tk k=> ⟨_,H,I.kept k,?_,q⟩
 by_cases hj:j < i
 ·rw [if_pos hj,if_pos hj]; exact ⟨_,rfl⟩
 ·rw [if_neg hj,if_neg hj]; exact ⟨_,rfl⟩
theorem rV:cJ X (.type "int") (fun xs H Q=> (∃ i,xs=[.int i]∧Q (.int i) H)∨∃ k,xs=[.bl k]∧Q (.int (if k then 1 else 0)) H):=by
 intro pins s σ H xs us Q I r h
 rcases h with ⟨i,rfl,q⟩ | ⟨k,rfl,q⟩
 ·obtain ⟨u,rfl,t,rfl⟩:=dG r
  exact call_int_int ⟨.int i,H,I,⟨_,rfl⟩,q⟩
 ·obtain ⟨u,rfl,r1⟩:=dG r
  cases r1
  exact call_int_bool ⟨.int (if k then 1 else 0),H,I.tok _,⟨_,rfl⟩,q⟩
theorem kT:cJ X (.type "str") (fun xs H Q=> ∃ i,xs=[.int i]∧i.natAbs.log2 < 1920∧Q (.str (toString i)) H):=by
 intro pins s σ H xs us Q I r h
 obtain ⟨i,rfl,hz,q⟩:=h
 obtain ⟨u,rfl,t,rfl⟩:=dG r
 exact PySem.P.str_of_int hz ⟨.str _,H,I.tok _,⟨_,rfl⟩,q⟩
end
end L2
namespace L2
open PySem PySem.Spec PyProof.Rows
structure og (h:Heap) (x dx C:Addr) (mA:Str→Option Value):Prop where
 obj:h.get? x=some (PySem.W.instObj C dx)
 ns:h.Ns1 dx mA
 ne:dx≠x
theorem rJ {h:Heap} {dx:Addr} {mA:Str→Option Value} (n:h.Ns1 dx mA):∃ od,h.get? dx=some od∧∀ name,PySem.W.lookIn name od=some (mA name):=by
 obtain ⟨o,es,ep,ho,hd,hk,_,hm⟩:=n
 refine ⟨o,ho,fun name=> ?_⟩
 have e:=hm name
 unfold nsFind findBy at e
 rw [← Array.find?_toList] at e
 unfold PySem.W.lookIn
 rw [hd]
 dsimp only
 split
 ·rename_i y q
  rw [q] at e
  exact congrArg some e
 ·rename_i q
  rw [q] at e
  have a:es.toList.any (·.refKey)=false:=by
   rw [List.any_eq_false]
   intro y hy
   obtain ⟨z,t,hkey⟩:=hk y (Array.mem_toList_iff.mp hy)
   simp [DictEntry.refKey,hkey]
  have a':¬ es.toList.any (·.refKey)=true:=by rw [a]; exact Bool.false_ne_true
  rw [if_neg a']
  exact congrArg some e
theorem og.look {h:Heap} {x dx C:Addr} {mA:Str→Option Value} (I:og h x dx C mA):∃ od,PySem.W.InstAt h x (PySem.W.instObj C dx) C (some od)∧∀ name,PySem.W.lookIn name od=some (mA name):=
 let ⟨od,ho,hl⟩:=rJ I.ns
 ⟨od,⟨I.obj,rfl,rfl,ho⟩,hl⟩
section
variable {prog:Program} {w:World} {A:Around} {E:Value→Shared→Prop} {s:Shared} {K:PySem.W.Frag} {x dx C f:Addr} {mA:Str→Option Value} {name:Str} {v:Value}
theorem vZ {expr:Bool} {Q:Value→Shared→Prop} (X:K.In s.heap) (I:og s.heap x dx C mA) (hg:PySem.W.plainGet K C name=true) (hh:PySem.W.hasDictIn K C=true)
  (ha:PySem.W.findIn K (.ref C) name=some none) (hv:mA name=some v) (hv':PySem.W.handedIn v=true) (h:Q v { s with toks:=s.toks+1 }):
  wpAny (model prog w) A (getAttr (.ref x) name expr) Q E s:=by
 obtain ⟨od,J,hl⟩:=I.look
 exact PySem.W.get_value X J (PySem.W.plainGet_of hg).1 (PySem.W.findObj_own hh ha rfl (by rw [hl,hv])) hv' h
theorem tY {pl:Sem Bool} {Q:Value×List Value→Shared→Prop} (X:K.In s.heap) (I:og s.heap x dx C mA) (hg:PySem.W.plainGet K C name=true)
  (hf:PySem.W.findIn K (.ref C) name=some (some (.ref f))) (ht:PySem.W.isFn K (.ref f)=true) (hv:mA name=none) (h:Q (.ref f,[.ref x]) s):
  wpAny (model prog w) A (getMethod (.ref x) name pl) Q E s:=by
 obtain ⟨od,J,hl⟩:=I.look
 exact PySem.W.method_fn X J (PySem.W.plainGet_of hg).1 (PySem.W.plainGet_of hg).2 hf (beq_iff_eq.mp ht) (by show (PySem.W.lookIn name od).map (·.isSome)=some false; rw [hl,hv]; rfl) h
theorem wH {ns:List Str} {Q:Unit→Shared→Prop} (X:K.In s.heap) (I:og s.heap x dx C mA)
  (hs:PySem.W.findIn K (.ref C) "__setattr__"=some (some (.builtin "object.__setattr__"))) (hp:PySem.W.plainOver K C=true) (ht:PySem.W.takerIn K C name=some none) (hh:PySem.W.hasDictIn K C=true)
  (hw:PySem.Within mA ns) (hsz:ns.length≤sizeLine)
  (h:∀ h',og h' x dx C (fun y=> if y=name then some v else mA y)→Heap.SameBut dx s.heap h'→Q () { s with heap:=h',toks:=s.toks+2 }):
  wpAny (model prog w) A (setAttr (.ref x) name v) Q E s:=by
 obtain ⟨od,J,hl⟩:=I.look
 refine PySem.W.set_plain X J hs (PySem.W.osa_open (s:={ s with toks:=s.toks+1 }) (r:=none) X J hp ht fun b=> ?_)
 obtain ⟨cd,hc,hd'⟩:=PySem.W.any_some hh
 have hx:s.heap.get? x=some ⟨.ref C,some dx,.plain,#[]⟩:=I.obj
 refine wpAny_bind (wpAny_pure (wpAny_bind (wpAny_bind (wpAny_loadPart hx (wpAny_bind (PySem.W.Looks.here (s:={ s with toks:=s.toks+1 }) (PySem.W.looks_clsIn X hc) ?_))))))
 rw [hd']
 refine wpAny_pure (a:=some dx) (wpAny_bind (wpAny_pure (wpAny_bind ?_)))
 refine wpAny_nsSet1 (s:={ s with toks:=s.toks+1 }) I.ns fun h' hn2 hs2=> ?_
 obtain ⟨oD,esD,epD,hoD,hdD,hcD⟩:=hn2.count (PySem.Within.cons name v hw)
 refine wpAny_bind (wpAny_lookBehind hoD (by rw [hdD]; exact pastItsLine_dict (Nat.le_trans hcD (by rw [List.length_cons]; omega))) ?_)
 exact wpAny_pure (h _ ⟨(hs2.2 _ (Ne.symm I.ne)).trans I.obj,hn2,I.ne⟩ hs2)
theorem uw {R:Result→Shared→Prop} {vs:List Value} {kw:List (Str×Value)} (X:K.In s.heap) (hm:PySem.W.makesIn K C=true)
  (hi:PySem.W.findIn K (.ref C) "__init__"=some (some (.ref f))) (hf:PySem.W.typeIn K (.ref f)=some (.type "function"))
  (h:codeAny (model prog w) (A.under (.builtin "type.__call__" ⟨.ref C::vs,kw⟩)) (.call (.ref f) ⟨.ref (s.heap.objs.size+1)::vs,kw⟩) (PySem.W.InitBack (s.heap.objs.size+1) R)
   { s with heap:=(s.heap.push PySem.W.emptyDict).push (PySem.W.instObj C s.heap.objs.size) }):
  codeAny (model prog w) A (.call (.ref C) ⟨vs,kw⟩) R s:=by
 obtain ⟨hh,g,d,t,os⟩:=s
 exact PySem.W.make_core (PySem.W.makes_of X hm) (PySem.W.looks_findIn X hi) (fun self=> PySem.W.bind_fn X self hf) (.inl rfl) h
end
def fT (f:Str) (v:V):List (Str×V)→List (Str×V)
 | []=> [(f,v)]
 | (g,x)::r=> if g=f then (g,v)::r else (g,x)::fT f v r
theorem iD (f g:Str) (v:V):∀ fs:List (Str×V),(fT f v fs).lookup g=if g=f then some v else fs.lookup g
 | []=> by
  show List.lookup g [(f,v)]=_
  by_cases h:g=f
  ·have hb:(g==f)=true:=beq_iff_eq.mpr h
   simp only [List.lookup,hb,if_pos h]
  ·have hb:(g==f)=false:=beq_eq_false_iff_ne.mpr h
   simp only [List.lookup,hb,if_neg h]
 | (k,x)::r=> by
  have ih:=iD f g v r
  rw [show fT f v ((k,x)::r)=(if k=f then (k,v)::r else (k,x)::fT f v r) from rfl]
  by_cases hk:k=f
  ·rw [if_pos hk]
   by_cases h:g=k
   ·have hb:(g==k)=true:=beq_iff_eq.mpr h
    simp only [List.lookup,hb,if_pos (h.trans hk)]
   ·have hb:(g==k)=false:=beq_eq_false_iff_ne.mpr h
    simp only [List.lookup,hb,if_neg (fun e:g=f=> h (e.trans hk.symm))]
  ·rw [if_neg hk]
   by_cases h:g=k
   ·have hb:(g==k)=true:=beq_iff_eq.mpr h
    simp only [List.lookup,hb,if_neg (fun e:g=f=> hk (h.symm.trans e))]
   ·have hb:(g==k)=false:=beq_eq_false_iff_ne.mpr h
    simp only [List.lookup,hb]
    exact ih
theorem ik (f:Str) (v:V):∀ fs:List (Str×V),f∈(fT f v fs).map (·.1)∧∀ g,g∈fs.map (·.1)→g∈(fT f v fs).map (·.1)
 | []=> ⟨by simp [fT],fun g h=> by simp at h⟩
 | (k,x)::r=> by
  obtain ⟨i1,i2⟩:=ik f v r
  rw [show fT f v ((k,x)::r)=(if k=f then (k,v)::r else (k,x)::fT f v r) from rfl]
  by_cases hk:k=f
  ·rw [if_pos hk]
   subst hk
   exact ⟨by simp,fun g h=> by simpa using h⟩
  ·rw [if_neg hk]
   refine ⟨?_,fun g h=> ?_⟩
   ·rw [List.map_cons]
    exact List.mem_cons_of_mem _ i1
   ·rw [List.map_cons] at h ⊢
    rcases List.mem_cons.mp h with e | e
    ·exact List.mem_cons.mpr (.inl e)
    ·exact List.mem_cons_of_mem _ (i2 g e)
theorem iK (f:Str) (v:V):∀ fs:List (Str×V),(fT f v fs).length≤fs.length+1
 | []=> by simp [fT]
 | (k,x)::r=> by
  have ih:=iK f v r
  rw [show fT f v ((k,x)::r)=(if k=f then (k,v)::r else (k,x)::fT f v r) from rfl]
  by_cases hk:k=f
  ·rw [if_pos hk,List.length_cons,List.length_cons]; omega
  ·rw [if_neg hk,List.length_cons,List.length_cons]; omega
theorem fQ.some_of {v:V} {o:Option Value} (r:fQ (some v) o):∃ u,o=some u∧aT v u:=by
 cases o with
 | none=> exact (show False from r).elim
 | some u=> exact ⟨u,rfl,r⟩
theorem fQ.none_of {o:Option Value} (r:fQ none o):o=none:=by
 cases o with
 | none=> rfl
 | some u=> exact (show False from r).elim
theorem qZ {v:V} {u:Value} (r:aT v u):PySem.W.handedIn u=true:=by
 cases v with
 | non=> cases (show u=Value.none from r); rfl
 | bl b=> cases (show u=Value.bool b from r); rfl
 | int i=> obtain ⟨t,e⟩:=(show ∃ t,u=Value.int i t from r); cases e; rfl
 | str x=> obtain ⟨t,e⟩:=(show ∃ t,u=Value.str x t from r); cases e; rfl
 | byt b=> obtain ⟨t,e⟩:=(show ∃ t,u=Value.bytes b t from r); cases e; rfl
 | flt b=> obtain ⟨t,e⟩:=(show ∃ t,u=Value.float b t from r); cases e; rfl
 | ref a=> cases (show u=Value.ref a from r); rfl
 | ty n=> cases (show u=Value.type n from r); rfl
section
variable {P:Program} {w:World} {H H':Hp} {h h':Heap} {a C dx:Addr} {fs fs':List (Str×V)}
theorem i7 (hok:HOk P w H h) (e:H a=some (.ins C dx fs)):∃ mA,og h a dx C mA∧(∀ f,fQ (fs.lookup f) (mA f))∧PySem.Within mA (fs.map (·.1))∧fs.length≤1000∧H dx=some (.own a):=by
 obtain ⟨d,z,ne,ob,mA,n,r,q⟩:=(show bG P w H h a (.ins C dx fs) from hok a _ e)
 exact ⟨mA,⟨ob,n,ne⟩,r,q,z,d⟩
end
structure Cls (K:PySem.W.Frag) (C:Addr):Prop where
 pg:PySem.W.plainGet K C Str.empty=true
 hd:PySem.W.hasDictIn K C=true
 po:PySem.W.plainOver K C=true
 sa:PySem.W.findIn K (.ref C) "__setattr__"=some (some (.builtin "object.__setattr__"))
theorem Cls.get {K:PySem.W.Frag} {C:Addr} (c:Cls K C) (f:Str):PySem.W.plainGet K C f=true:=c.pg
def eU (K:PySem.W.Frag) (C:Addr) (f:Str):Prop:=PySem.W.findIn K (.ref C) f=some none
theorem eU.taker {K:PySem.W.Frag} {C:Addr} {f:Str} (n:eU K C f):PySem.W.takerIn K C f=some none:=by
 unfold PySem.W.takerIn
 rw [show PySem.W.findIn K (.ref C) f=some none from n]
 rfl
structure Con (K:PySem.W.Frag) (C:Addr) (f:Str) (v:V) (u:Value):Prop where
 at_:PySem.W.findIn K (.ref C) f=some (some u)
 rel:aT v u
 get:PySem.W.specialIn K u "__get__"=some none
 cp:PySem.W.copiedNames.contains f=false
structure me (K:PySem.W.Frag) (C:Addr) (m:Str) (f:Addr):Prop where
 at_:PySem.W.findIn K (.ref C) m=some (some (.ref f))
 fn:PySem.W.isFn K (.ref f)=true
 kp:PySem.W.keepIn K (.ref f)=true
section
variable {X:Cx} {pins:List (Addr×Obj)} {σ:St} {H:Hp} {s:Shared} {a C dx:Addr} {fs:List (Str×V)} {f:Str} {v:V} {A:Around} {E:Value→Shared→Prop}
theorem o3 {b:Bool} {Q:Value→Shared→Prop} (I:Inv X pins σ H s) (e:H a=some (.ins C dx fs)) (c:Cls X.K C) (n:eU X.K C f) (l:fs.lookup f=some v)
  (h:∀ u s',Inv X pins σ H s'→aT v u→Q u s'):wpAny (model X.prog X.w) A (getAttr (.ref a) f b) Q E s:=by
 obtain ⟨mA,O,r,_,_,_⟩:=i7 I.hok e
 obtain ⟨u,hu,ru⟩:=fQ.some_of (v:=v) (o:=mA f) (by rw [← l]; exact r f)
 exact vZ I.kIn O (c.get f) c.hd n hu (qZ ru) (h u _ (I.tok _) ru)
theorem jz {m:Str} {g:Addr} {pl:Sem Bool} {Q:Value×List Value→Shared→Prop} (I:Inv X pins σ H s) (e:H a=some (.ins C dx fs)) (c:Cls X.K C) (k:me X.K C m g) (l:fs.lookup m=none)
  (h:Q (.ref g,[.ref a]) s):wpAny (model X.prog X.w) A (getMethod (.ref a) m pl) Q E s:=by
 obtain ⟨mA,O,r,_,_,_⟩:=i7 I.hok e
 have hn:mA m=none:=fQ.none_of (by rw [← l]; exact r m)
 exact tY I.kIn O (c.get m) k.at_ k.fn hn h
theorem oP {y:V} {u:Value} {Q:Unit→Shared→Prop} (I:Inv X pins σ H s) (e:H a=some (.ins C dx fs)) (c:Cls X.K C) (n:eU X.K C f) (hl:fs.length < 1000) (ry:aT y u)
  (h:∀ s',Inv X pins σ (upd H a (.ins C dx (fT f y fs))) s'→Q () s'):wpAny (model X.prog X.w) A (setAttr (.ref a) f u) Q E s:=by
 obtain ⟨mA,O,r,wi,_,ho⟩:=i7 I.hok e
 have hz:(fs.map (·.1)).length≤sizeLine:=by rw [List.length_map,sizeLine_eq]; omega
 refine wH I.kIn O c.sa c.po n.taker c.hd wi hz fun h' O' sb=> h _ ?_
 have hd:∃ o,h'.get? dx=some o:=let ⟨o,_,_,e',_⟩:=O'.ns; ⟨o,e'⟩
 refine I.write (x:=a) (e:=dx) (by rw [e]; exact True.intro) (.inr ho) (fun b q hb z=> (sb.2 b hb).trans z) hd ?_
 refine ⟨by rw [aF O.ne]; exact ho,?_,O.ne,O'.obj,_,O'.ns,fun g=> ?_,fun g hg=> ?_⟩
 ·have:=iK f y fs; omega
 ·show fQ ((fT f y fs).lookup g) (if g=f then some u else mA g)
  rw [iD]
  by_cases q:g=f
  ·rw [if_pos q,if_pos q]; exact ry
  ·rw [if_neg q,if_neg q]; exact r g
 ·by_cases q:g=f
  ·rw [q]; exact (ik f y fs).1
  ·refine (ik f y fs).2 g (wi g fun z=> hg ?_)
   show (if g=f then some u else mA g)=none
   rw [if_neg q]; exact z
theorem Inv.made (I:Inv X pins σ H s):Inv X pins σ (upd (upd H s.heap.objs.size (.own (s.heap.objs.size+1))) (s.heap.objs.size+1) (.ins C s.heap.objs.size []))
  { s with heap:=(s.heap.push PySem.W.emptyDict).push (PySem.W.instObj C s.heap.objs.size) }:=by
 have e1:(s.heap.push PySem.W.emptyDict).get? s.heap.objs.size=some PySem.W.emptyDict:=Heap.get?_push_size s.heap rfl
 have e2:((s.heap.push PySem.W.emptyDict).push (PySem.W.instObj C s.heap.objs.size)).get? (s.heap.objs.size+1)=some (PySem.W.instObj C s.heap.objs.size):=by
  have:=Heap.get?_push_size (s.heap.push PySem.W.emptyDict) (o:=PySem.W.instObj C s.heap.objs.size) rfl
  rwa [Heap.size_push] at this
 have e3:(s.heap.push PySem.W.emptyDict).Ns s.heap.objs.size (fun _=> none):=⟨PySem.W.emptyDict,#[],_,e1,rfl,(fun e he=> absurd he (by simp)),fun _=> rfl⟩
 have I1:=I.laid (a:=s.heap.objs.size) (o:=.own (s.heap.objs.size+1)) (h':=s.heap.push PySem.W.emptyDict) (t':=s.toks) (fun b u q=> Heap.get?_push_of_some _ q) (Nat.le_refl _) ⟨_,e1⟩
 refine I1.laid (a:=s.heap.objs.size+1) (o:=.ins C s.heap.objs.size []) (t':=s.toks) (fun b u q=> Heap.get?_push_of_some _ q) (Nat.le_of_eq (Heap.size_push _ _)) ?_
 have ne:s.heap.objs.size≠s.heap.objs.size+1:=Nat.ne_of_lt (Nat.lt_succ_self _)
 refine ⟨by rw [aF ne,aD],Nat.zero_le _,ne,e2,fun _=> none,(Heap.Ns1.of_empty e3).at fun o q=> Heap.get?_push_of_some _ q,fun _=> True.intro,fun y hy=> absurd rfl hy⟩
theorem vY {prog:Program} {w:World} {env:Env} {e:Expr} {f:Str} {pos:Pos} {s:Shared} {Q:Value→Shared→Prop} (hb:attributeBase e f env (eval e env)=eval e env)
  (h:wpAny (model prog w) A (eval e env) (fun o s₁=> wpAny (model prog w) A (getAttr o f true) Q E s₁) E s):wpAny (model prog w) A (eval (.Attribute e f pos) env) Q E s:=
 Attribute_any_ h (by rw [arm_eval_Attribute,hb])
end
def Bv (K:PySem.W.Frag) (ta:TE) (f:Str):TE:=fun σ H Q=> ta σ H fun x H1=> ∃ a C dx fs v,x=.ref a∧H1 a=some (.ins C dx fs)∧Cls K C∧eU K C f∧fs.lookup f=some v∧Q v H1
def BD (K:PySem.W.Frag) (ta tv:TE) (f:Str):TS:=fun D σ H=> tv σ H fun y H1=> ta σ H1 fun x H2=> ∃ a C dx fs,x=.ref a∧H2 a=some (.ins C dx fs)∧Cls K C∧eU K C f∧fs.length < 1000∧
 D.nx σ (upd H2 a (.ins C dx (fT f y fs)))
section
variable {X:Cx} {o e value:Expr} {f:Str} {pos pos' tpos:Pos} {ta tv:TE}
theorem ym (he:PE X e ta) (hb:attributeBase e f X.env (eval e X.env)=eval e X.env):PE X (.Attribute e f pos) (Bv X.K ta f):=by
 intro pins s σ H Q I h
 refine vY hb (thn (he pins s σ H _ I h) fun u s1 ⟨x,H1,I1,rx,a,C,dx,fs,v,ex,ea,c,n,l,q⟩=> ?_)
 subst ex
 obtain rfl:u=Value.ref a:=rx
 exact o3 I1 ea c n l fun u' s2 I2 ru=> ⟨v,H1,I2,ru,q⟩
theorem zO (ha:PE X o ta) (hv:PE X value tv) (hs:swapsWith value (some (.Attribute o f pos')) pos.line X.env=pure false):PS X (.Assign [.Attribute o f pos'] value pos) (BD X.K ta tv f):=by
 intro pins s σ H D I h
 refine plainObj_wpAny_Assign_Attribute (thn (hv pins s σ H _ I h) fun u s1 ⟨y,H1,I1,ry,q⟩=> thn (ha pins s1 σ H1 _ I1 q) fun ov s2 ⟨x,H2,I2,rx,a,C,dx,fs,ex,ea,c,n,l,q2⟩=> ?_) hs
 subst ex
 obtain rfl:ov=Value.ref a:=rx
 exact oP I2 ea c n l ry fun s3 I3=> ⟨σ,_,I3,q2⟩
end
section
variable {X:Cx} {pins:List (Addr×Obj)} {σ:St} {H:Hp} {s:Shared} {A:Around} {E:Value→Shared→Prop} {Q:Value→Shared→Prop} {c:Value} {b:Bool}
inductive iP (K:PySem.W.Frag) (H:Hp):V→Value→Prop where
 | non:iP K H .non (.type "NoneType")
 | bl (x:Bool):iP K H (.bl x) (.type "bool")
 | int (i:Int):iP K H (.int i) (.type "int")
 | str (x:Str):iP K H (.str x) (.type "str")
 | flt (x:UInt64):iP K H (.flt x) (.type "float")
 | lst {a:Addr} {xs:List V} (e:H a=some (.lst xs)):iP K H (.ref a) (.type "list")
 | frz {a:Addr} {o:Obj} {xs:List V} (e:H a=some (.frz o (.lst xs))):iP K H (.ref a) (.type "list")
 | tup {a:Addr} {xs:List V} (e:H a=some (.tup xs)):iP K H (.ref a) (.type "tuple")
 | dK {a:Addr} {kvs:List (Key×V)} (e:H a=some (.dK kvs)):iP K H (.ref a) (.type "dict")
 | dT {a:Addr} {kvs:List (List Key×V)} (e:H a=some (.dT kvs)):iP K H (.ref a) (.type "dict")
 | ins {a C dx:Addr} {fs:List (Str×V)} (e:H a=some (.ins C dx fs)) (cl:Cls K C) (ha:PySem.W.findIn K (.ref C) "__class__"=some (some (.builtin "object.__class__")))
   (hn:PySem.W.specialIn K (.builtin "object.__class__") "__get__"=some (some (.builtin "getset_descriptor.__get__"))) (htk:PySem.W.takesIn K (.builtin "object.__class__")=some true)
   (hm:PySem.W.mroIn K C (.type "object")=some true):iP K H (.ref a) (.ref C)
theorem dC {x:V} {u t:Value} (I:Inv X pins σ H s) (rx:aT x u) (ty:iP X.K H x t) (e:PySem.W.kitOne X.K t c=some b) (h:∀ tk,Q (.bool b) { s with toks:=tk }):
  wpAny (model X.prog X.w) A (call (.builtin "isinstance") [u,c]) Q E s:=by
 cases ty with
 | non=> cases (show u=Value.none from rx); exact PySem.W.kia_one PySem.W.kitx_none I.kIn True.intro e (fun z=> nomatch z) h
 | bl y=> cases (show u=Value.bool y from rx); exact PySem.W.kia_one PySem.W.kitx_bool I.kIn True.intro e (fun z=> nomatch z) h
 | int i=> obtain ⟨t,q⟩:=(show ∃ t,u=Value.int i t from rx); cases q; exact PySem.W.kia_one PySem.W.kitx_int I.kIn True.intro e (fun z=> nomatch z) h
 | str y=> obtain ⟨t,q⟩:=(show ∃ t,u=Value.str y t from rx); cases q; exact PySem.W.kia_one PySem.W.kitx_str I.kIn True.intro e (fun z=> nomatch z) h
 | flt y=> obtain ⟨t,q⟩:=(show ∃ t,u=Value.float y t from rx); cases q; exact PySem.W.kia_one PySem.W.kitx_float I.kIn True.intro e (fun z=> nomatch z) h
 | @lst a xs ea=>
  cases (show u=Value.ref a from rx)
  obtain ⟨_,_,n,_,h1⟩:=(show bG X.prog X.w H s.heap a (.lst xs) from I.hok a _ ea)
  exact PySem.W.kia_one PySem.W.kitx_list I.kIn ⟨_,h1,rfl⟩ e (fun z=> nomatch z) h
 | @frz a ob xs ea=>
  cases (show u=Value.ref a from rx)
  obtain ⟨_,_,_,n,_,h1⟩:=(show bG X.prog X.w H s.heap a (.frz ob (.lst xs)) from I.hok a _ ea)
  exact PySem.W.kia_one PySem.W.kitx_list I.kIn ⟨_,h1,rfl⟩ e (fun z=> nomatch z) h
 | @tup a xs ea=>
  cases (show u=Value.ref a from rx)
  obtain ⟨_,_,_,p⟩:=(show bG X.prog X.w H s.heap a (.tup xs) from I.hok a _ ea)
  obtain ⟨o,h1,h2,_⟩:=p
  exact PySem.W.kia_one PySem.W.kitx_tuple I.kIn ⟨o,h1,h2⟩ e (fun z=> nomatch z) h
 | @dK a kvs ea=>
  cases (show u=Value.ref a from rx)
  obtain ⟨_,_,vs,_,p⟩:=(show bG X.prog X.w H s.heap a (.dK kvs) from I.hok a _ ea)
  obtain ⟨o,es,ep,h1,h2,_⟩:=p
  exact PySem.W.kia_one PySem.W.kitx_dict I.kIn ⟨o,h1,h2.1⟩ e (fun z=> nomatch z) h
 | @dT a kvs ea=>
  cases (show u=Value.ref a from rx)
  obtain ⟨_,_,xs,_,o,es,ep,h1,h2,_⟩:=(show bG X.prog X.w H s.heap a (.dT kvs) from I.hok a _ ea)
  exact PySem.W.kia_one PySem.W.kitx_dict I.kIn ⟨o,h1,h2.1⟩ e (fun z=> nomatch z) h
 | @ins a C dx fs ea cl ha hn htk hm=>
  cases (show u=Value.ref a from rx)
  obtain ⟨mA,O,_⟩:=i7 I.hok ea
  obtain ⟨od,J,_⟩:=O.look
  exact PySem.W.kia_one (PySem.W.kitx_own (cl.get _) cl.hd ha hn htk hm) I.kIn J e (fun z=> nomatch z) h
end
end L2
namespace L2
open PySem PySem.Spec PyProof.Rows
structure bJ (k:Nat) (A:Around):Prop where
 hd:A.handled=none
 dp:A.depth+3 * k+5 < recursionLimit
 un:A.units+16 * k+200 < cLine
theorem bJ.mono {j k:Nat} {A:Around} (r:bJ k A) (h:j≤k):bJ j A:=⟨r.hd,by have:=r.dp; omega,by have:=r.un; omega⟩
theorem bJ.deeper {k:Nat} {A:Around} (r:bJ (k+1) A) (env:Env):bJ k (A.deeper env):=
 ⟨r.hd,by have:=r.dp; show A.depth+1+3 * k+5 < _; omega,by have:=r.un; show A.units+3+16 * k+200 < _; omega⟩
theorem px {A:Around} {C:Addr} {us:List Value} {kw:List (Str×Value)}:(A.under (.builtin "type.__call__" ⟨.ref C::us,kw⟩)).depth=A.depth+1:=by
 first | rfl | simp [Around.under,Code.weight,Code.isCreation,Code.isGuard,Code.isCaller,Code.frames,Code.isFrame,guardIds]
theorem oo {A:Around} {C:Addr} {us:List Value} {kw:List (Str×Value)}:(A.under (.builtin "type.__call__" ⟨.ref C::us,kw⟩)).units=A.units+1:=by
 first | rfl | simp [Around.under,Code.cUnits,Code.frames,Code.isFrame]
theorem bJ.make {k:Nat} {A:Around} (r:bJ (k+1) A) (C:Addr) (us:List Value) (kw:List (Str×Value)):bJ k (A.under (.builtin "type.__call__" ⟨.ref C::us,kw⟩)):=
 ⟨r.hd,by have:=r.dp; rw [px]; omega,by have:=r.un; rw [oo]; omega⟩
theorem bJ.depth {k:Nat} {A:Around} (r:bJ k A):A.depth < recursionLimit:=by have:=r.dp; omega
def Ai:TA:=fun _ H Q=> Q [] H
def xS (ta:TE) (tr:TA):TA:=fun σ H Q=> ta σ H fun x H1=> tr σ H1 fun xs H2=> Q (x::xs) H2
section
variable {X:Cx} {e:Expr} {es:List Expr} {te:TE} {t:TA} {pos:Pos}
theorem eg:PA X [] Ai:=fun _ _ _ _ H Q I h=> Calls.spliced_nil ⟨[],H,I,.nil,h⟩
theorem c_ (ha:PE X e te) (hr:PA X es t) (hs:starEach (e::es) X.env=(false,eval e X.env)::starEach es X.env:=by rfl):PA X (e::es) (xS te t):=by
 intro pos pins s σ H Q I h
 rw [hs]
 show wpAny _ _ (spliced ((false,eval e X.env)::backTo pos (starEach es X.env))) _ _ s
 refine Calls.spliced_cons (thn (ha pins s σ H _ I h) fun u s1 ⟨x,H1,I1,r1,q1⟩=> ?_)
 exact thn (hr pos pins s1 σ H1 _ I1 q1) fun us s2 ⟨xs,H2,I2,r2,q2⟩=> ⟨x::xs,H2,I2,.cons r1 r2,q2⟩
def Be (t:TA):TE:=fun σ H Q=> t σ H fun xs H1=> xs.length≤sizeLine∧∀ p,H1 p=none→Q (.ref p) (upd H1 p (.tup xs))
def BF (t:TA):TE:=fun σ H Q=> t σ H fun xs H1=> xs.length≤sizeLine∧∀ p,H1 p=none→Q (.ref p) (upd H1 p (.lst xs))
theorem yO {x1} (h:PA X es t):PE X (.Tuple es x1 pos) (Be t):=by
 intro pins s σ H Q I hq
 refine wpAny_Tuple_spliced (thn (h pos pins s σ H _ I hq) fun us s1 ⟨xs,H1,I1,r,z,q⟩=> ⟨by rw [← r.length]; exact z,?_⟩)
 have hf:H1 s1.heap.objs.size=none:=I1.hok.fresh (Nat.le_refl _)
 refine ⟨.ref s1.heap.objs.size,upd H1 s1.heap.objs.size (.tup xs),I1.laid (t':=s1.toks) (fun b u e=> Heap.get?_push_of_some _ e) (Nat.le_refl _) ?_,rfl,q _ hf⟩
 exact ⟨z,us,r,⟨_,Heap.get?_push_size _ rfl,rfl,_,rfl⟩⟩
theorem zB (h:PA X es t):PE X (.List es pos) (BF t):=by
 intro pins s σ H Q I hq
 refine wpAny_List_spliced (thn (h pos pins s σ H _ I hq) fun us s1 ⟨xs,H1,I1,r,z,q⟩=> ⟨by rw [← r.length]; exact z,?_⟩)
 have hf:H1 s1.heap.objs.size=none:=I1.hok.fresh (Nat.le_refl _)
 refine ⟨.ref s1.heap.objs.size,upd H1 s1.heap.objs.size (.lst xs),I1.laid (t':=s1.toks) (fun b u e=> Heap.get?_push_of_some _ e) (Nat.le_refl _) ?_,rfl,q _ hf⟩
 exact ⟨z,us,0,r,Heap.get?_push_size _ rfl⟩
end
abbrev Sp:=List V→Hp→VK→XK→Prop
abbrev CXT:=List Env→Hp→Shared→XK→Value→Shared→Prop
structure nD (P:Program) (w:World) (K:PySem.W.Frag) (mg:Str→Option Value) (base:Heap) (A:Around) (outer:List Env) (s:Shared) (H:Hp):Prop where
 frames:A.frames=some outer
 mod:Mod K mg base
 bs:∀ b o,base.get? b=some o→s.heap.get? b=some o∧H b=none
 bsz:base.objs.size≤s.heap.objs.size
 funs:s.heap.FunFrames base outer
 frf:∀ b∈frs outer,H b=none
 hok:HOk P w H s.heap
 bare:AllBare s.gens
def CE (outer:List Env) (P:Program) (w:World) (H:Hp) (s:Shared) (Q:VK) (u:Value) (s':Shared):Prop:=
 ∃ v H',s'.os=s.os∧AllBare s'.gens∧Un (frs outer) [] H H' s.heap s'.heap∧HOk P w H' s'.heap∧aT v u∧Q v H'
def CR (CX:CXT) (outer:List Env) (P:Program) (w:World) (H:Hp) (s:Shared) (Q:VK) (E:XK) (r:Result) (s':Shared):Prop:=
 match r with
 | .ok (.ret u)=> CE outer P w H s Q u s'
 | .ok _=> False
 | .error e=> CX outer H s E e s'
structure ba (P:Program) (w:World) (K:PySem.W.Frag) (mg:Str→Option Value) (base:Heap) (CX:CXT) (k:Nat) (f:Addr) (fd:FuncData) (ps:List Str) (sp:Sp):Prop where
 len:∀ vs H Q E,sp vs H Q E→vs.length=ps.length
 run:∀ (A:Around) (outer:List Env) (s:Shared) (H:Hp) (args:Args) (us:List Value) (vs:List V) (Q:VK) (E:XK),bJ k A→nD P w K mg base A outer s H→BindsTo s fd args (ps.zip us)→aI vs us→sp vs H Q E→
  codeAny (model P w) A (.call (.ref f) args) (CR CX outer P w H s Q E) s
theorem ba.mono {P:Program} {w:World} {K:PySem.W.Frag} {mg:Str→Option Value} {base:Heap} {CX:CXT} {j k:Nat} {f:Addr} {fd:FuncData} {ps:List Str} {sp:Sp} (F:ba P w K mg base CX j f fd ps sp) (h:j≤k):
  ba P w K mg base CX k f fd ps sp:=⟨F.len,fun A outer s H args us vs Q E hr=> F.run A outer s H args us vs Q E (hr.mono h)⟩
theorem nD.make {P:Program} {w:World} {K:PySem.W.Frag} {mg:Str→Option Value} {base:Heap} {A:Around} {outer:List Env} {s:Shared} {H:Hp} (e:nD P w K mg base A outer s H) (C:Addr) (us:List Value) (kw:List (Str×Value)):
  nD P w K mg base (A.under (.builtin "type.__call__" ⟨.ref C::us,kw⟩)) outer s H:=⟨by first | exact e.frames | (simpa [Around.under,Code.envs,Code.isFrame,pushEnvs] using e.frames),e.mod,e.bs,e.bsz,e.funs,e.frf,e.hok,e.bare⟩
section
variable {X:Cx} {pins:List (Addr×Obj)} {σ:St} {H:Hp} {s s':Shared}
theorem Inv.env0 (I:Inv X pins σ H s):nD X.prog X.w X.K X.mg X.base X.A X.stack s H:=
 ⟨I.ok.frames,I.ok.mod,I.bs,Nat.le_trans I.ok.bsz I.sz,I.stack,I.stkFree,I.hok,I.bare⟩
theorem Inv.after {Q:VK} {u:Value} (I:Inv X pins σ H s) (h:CE X.stack X.prog X.w H s Q u s'):EP X pins σ Q u s':=by
 obtain ⟨v,H',os,bare,un,hok,r,q⟩:=h
 obtain ⟨hh,g,d,t,os'⟩:=s'
 obtain rfl:os'=s.os:=os
 exact ⟨v,H',I.call (h':=hh) (g':=g) (d':=d) (t':=t) (ch:=[]) un hok bare (fun b z=> absurd z (by simp)),r,q⟩
end
def vf (sp:Sp) (dvs:List V) (E:XK) (t:TA):TE:=fun σ H Q=> t σ H fun vs H1=> sp (vs++dvs) H1 Q E
def xV (C:Addr) (m:Str) (sp:Sp) (dvs:List V) (E:XK) (ta:TE) (t:TA):TE:=fun σ H Q=> ta σ H fun x H1=> ∃ a dx fs,x=.ref a∧H1 a=some (.ins C dx fs)∧fs.lookup m=none∧
 t σ H1 fun vs H2=> sp (x::(vs++dvs)) H2 Q E
def AN (C:Addr) (sp:Sp) (dvs:List V) (E:XK) (t:TA):TE:=fun σ H Q=> t σ H fun vs H1=> ∀ x dx,H1 x=none→H1 dx=none→dx≠x→
 sp (.ref x::(vs++dvs)) (upd (upd H1 dx (.own x)) x (.ins C dx [])) (fun v H2=> v=.non∧Q (.ref x) H2) E
def aH (K:PySem.W.Frag) (fd:FuncData) (ps:List Str) (ds:List Value):Prop:=
 ∀ (s:Shared) (us:List Value),K.In s.heap→(us++ds).length=ps.length→BindsTo s fd ⟨us,[]⟩ (ps.zip (us++ds))
theorem aH.all {K:PySem.W.Frag} {fd:FuncData} {ps:List Str} (h:∀ us:List Value,us.length=ps.length→bindArgs fd ⟨us,[]⟩=pure (ps.zip us)):aH K fd ps []:=fun s us _ hl=> by
 rw [List.append_nil] at hl ⊢
 exact .of_eq (h us hl)
def bU (CX:CXT) (X:Cx) (E:XK):Prop:=∀ (pins:List (Addr×Obj)) (σ:St) (H:Hp) (s:Shared) (e:Value) (s':Shared),Inv X pins σ H s→CX X.stack H s E e s'→X.xe e s'
section
variable {X:Cx} {CX:CXT} {k:Nat} {f C:Addr} {fd:FuncData} {ps:List Str} {sp:Sp} {dvs:List V} {ds:List Value} {E:XK} {x m:Str} {p pos apos:Pos} {e o:Expr} {es:List Expr} {ta:TE} {t:TA}
theorem oS {pins:List (Addr×Obj)} {σ:St} {H:Hp} {s:Shared} {Q:VK} {us:List Value} {vs:List V} (F:ba X.prog X.w X.K X.mg X.base CX k f fd ps sp) (hr:bJ k X.A) (hb:aH X.K fd ps ds) (hd:aI dvs ds) (hx:bU CX X E)
  (I:Inv X pins σ H s) (r:aI vs us) (h:sp (vs++dvs) H Q E):wpAny (model X.prog X.w) X.A (call (.ref f) us) (EP X pins σ Q) X.xe s:=by
 have r2:aI (vs++dvs) (us++ds):=r.append hd
 have hl:(us++ds).length=ps.length:=by rw [← r2.length]; exact F.len _ _ _ _ h
 refine wpAny_call (codeAny_mono (F.run X.A X.stack s H ⟨us,[]⟩ (us++ds) (vs++dvs) Q E hr I.env0 (hb s us I.kIn hl) r2 h) fun r s' hq=> ?_)
 cases r with
 | error e=> exact hx pins σ H s e s' I hq
 | ok fl=>
  cases fl with
  | ret u=> exact I.after hq
  | next=> exact False.elim hq
  | brk=> exact False.elim hq
  | cont=> exact False.elim hq
theorem qL (F:ba X.prog X.w X.K X.mg X.base CX k f fd ps sp) (hr:bJ k X.A) (hg:Gl X x) (hm:X.mg x=some (.ref f)) (hk:PySem.W.keepIn X.K (.ref f)=true) (hb:aH X.K fd ps ds) (hd:aI dvs ds) (hx:bU CX X E)
  (ha:PA X (e::es) t) (hdb:(x==("__debug__":Str))=false:=by decide) (he:starEach (e::es) X.env=(false,eval e X.env)::starEach es X.env:=by rfl) (hpl:(backTo pos (starEach es X.env)).any (·.1)=false:=by rfl):
  PE X (.Call (.Name x p) (e::es) [] pos) (vf sp dvs E t):=by
 intro pins s σ H Q I h
 refine wpAny_Call_Name_kw (eQ I hg hm ?_ hdb)
 refine PySem.W.callWith_K (h₀:=X.base) I.ok.mod.kin hk (thn (ha pos pins s σ H _ I h) fun us s1 ⟨vs,H1,I1,r,q⟩=> ⟨I1.kIn,?_⟩) he hpl
 exact oS F hr hb hd hx I1 r q
theorem pS {pl:Sem Bool} (he:PE X o ta) (c:Cls X.K C) (hm:me X.K C m f) (F:ba X.prog X.w X.K X.mg X.base CX k f fd ps sp) (hr:bJ k X.A) (hb:aH X.K fd ps ds) (hd:aI dvs ds) (hx:bU CX X E) (ha:PA X (e::es) t)
  (hst:starEach (e::es) X.env=(false,eval e X.env)::starEach es X.env:=by rfl) (hpl:(backTo pos (starEach es X.env)).any (·.1)=false:=by rfl)
  (ht:eval (.Call (.Attribute o m apos) (e::es) [] pos) X.env=(do
   let ov ← eval o X.env
   standAt apos.atName
   let (f,first) ← holding [ov] (getMethod ov m pl)
   callWith pos f first (backTo pos (starEach (e::es) X.env)) (backToKw pos (keywordEach [] X.env))):=by rfl):
  PE X (.Call (.Attribute o m apos) (e::es) [] pos) (xV C m sp dvs E ta t):=by
 intro pins s σ H Q I h
 refine PySem.W.methodCall_KW (pl:=pl) (thn (he pins s σ H _ I h) fun u s1 ⟨x,H1,I1,rx,a,dx,fs,ex,ea,l,q⟩=> ?_) ht
 subst ex
 obtain rfl:u=Value.ref a:=rx
 refine jz I1 ea c hm l ?_
 refine PySem.W.callWith_K (first:=[.ref a]) (h₀:=X.base) I.ok.mod.kin hm.kp (thn (ha pos pins s1 σ H1 _ I1 q) fun us s2 ⟨vs,H2,I2,r,q2⟩=> ⟨I2.kIn,?_⟩) hst hpl
 exact oS (us:=.ref a::us) (vs:=.ref a::vs) F hr hb hd hx I2 (.cons rfl r) q2
structure Mk (K:PySem.W.Frag) (C f:Addr):Prop where
 makes:PySem.W.makesIn K C=true
 init:PySem.W.findIn K (.ref C) "__init__"=some (some (.ref f))
 fn:PySem.W.isFn K (.ref f)=true
 kp:PySem.W.keepIn K (.ref C)=true
theorem uz {pins:List (Addr×Obj)} {σ:St} {H:Hp} {s:Shared} {Q:VK} {us:List Value} {vs:List V} (M:Mk X.K C f) (F:ba X.prog X.w X.K X.mg X.base CX k f fd ps sp) (hr:bJ (k+1) X.A) (hb:aH X.K fd ps ds) (hd:aI dvs ds)
  (hx:bU CX X E) (I:Inv X pins σ H s) (r:aI vs us)
  (h:∀ x dx,H x=none→H dx=none→dx≠x→sp (.ref x::(vs++dvs)) (upd (upd H dx (.own x)) x (.ins C dx [])) (fun v H2=> v=.non∧Q (.ref x) H2) E):
  wpAny (model X.prog X.w) X.A (call (.ref C) us) (EP X pins σ Q) X.xe s:=by
 have hq:=h (s.heap.objs.size+1) s.heap.objs.size (I.hok.fresh (Nat.le_succ _)) (I.hok.fresh (Nat.le_refl _)) (Nat.ne_of_lt (Nat.lt_succ_self _))
 have I2:=Inv.made (C:=C) I
 have r2:aI (V.ref (s.heap.objs.size+1)::(vs++dvs)) (Value.ref (s.heap.objs.size+1)::(us++ds)):=.cons rfl (r.append hd)
 have hl:(Value.ref (s.heap.objs.size+1)::us++ds).length=ps.length:=by
  have e:=r2.length
  rw [F.len _ _ _ _ hq] at e
  exact e.symm
 refine wpAny_call (uw (f:=f) I.kIn M.makes M.init (beq_iff_eq.mp M.fn) (codeAny_mono (F.run _ X.stack _ _ ⟨Value.ref (s.heap.objs.size+1)::us,[]⟩ (Value.ref (s.heap.objs.size+1)::(us++ds)) _ _ E (hr.make C us [])
  (I2.env0.make C us []) (hb _ (Value.ref (s.heap.objs.size+1)::us) I2.kIn hl) r2 hq) fun r s' hq'=> ?_))
 cases r with
 | error e=> exact hx pins σ _ _ e s' I2 hq'
 | ok fl=>
  cases fl with
  | ret u=>
   obtain ⟨v,H',I3,rv,ev,q3⟩:=I2.after hq'
   subst ev
   exact ⟨rv,⟨V.ref (s.heap.objs.size+1),H',I3,rfl,q3⟩⟩
  | next=> exact False.elim hq'
  | brk=> exact False.elim hq'
  | cont=> exact False.elim hq'
theorem ua (M:Mk X.K C f) (F:ba X.prog X.w X.K X.mg X.base CX k f fd ps sp) (hr:bJ (k+1) X.A) (hg:Gl X x) (hm:X.mg x=some (.ref C)) (hb:aH X.K fd ps ds) (hd:aI dvs ds) (hx:bU CX X E)
  (hdb:(x==("__debug__":Str))=false:=by decide):PE X (.Call (.Name x p) [] [] pos) (AN C sp dvs E Ai):=by
 intro pins s σ H Q I h
 refine wpAny_Call_Name_kw (eQ I hg hm ?_ hdb)
 exact PySem.W.callWith_K0 I.kIn M.kp (uz (us:=[]) M F hr hb hd hx I .nil h)
end
section
variable {X:Cx} {CX:CXT} {k:Nat} {f C:Addr} {fd:FuncData} {ps ks:List Str} {sp:Sp} {E:XK} {x m:Str} {p pos apos kpos:Pos} {e o:Expr} {es:List Expr} {kws:List Keyword} {te ta:TE} {t tk:TA} {nm:Option Str}
structure A7 (K:PySem.W.Frag) (fd:FuncData) (ps ks:List Str) (g:List Value→List Value→List Value) (gV:List V→List V→List V):Prop where
 to:∀ (s:Shared) (us ws:List Value),K.In s.heap→(g us ws).length=ps.length→BindsTo s fd ⟨us,ks.zip ws⟩ (ps.zip (g us ws))
 rel:∀ {vs:List V} {us:List Value} {zs:List V} {ws:List Value},aI vs us→aI zs ws→aI (gV vs zs) (g us ws)
variable {g:List Value→List Value→List Value} {gV:List V→List V→List V}
end
structure aq (N P:List Str) (sc:Scope):Prop where
 kind:sc.kind=.function
 co:sc.isCoroutine=false
 gen:sc.isGenerator=false
 nd:N.Nodup
 pre:N.take P.length=P
 par:∀ x∈P,sc.names.lookup x=some .local∨sc.names.lookup x=some .cell
 nofree:∀ y∈sc.names,y.2≠.free
theorem kS {kindOf:Str→Option NameKind} {x:Str}:∀ {binds:List (Str×Value)} {m:Str→Option Value},(∀ v,(x,v) ∉ binds)→bindL kindOf binds m x=m x
 | [],_,_=> rfl
 | (n,v)::r,m,h=> by
  unfold bindL
  rw [kS fun w hw=> h w (List.mem_cons_of_mem _ hw)]
  split
  ·have:x≠n:=by rintro rfl; exact h v List.mem_cons_self
   simp [this]
  ·rfl
theorem kz {kindOf:Str→Option NameKind} {x:Str}:∀ {binds:List (Str×Value)} {m:Str→Option Value},(∀ v,(x,v) ∉ binds)→bindC kindOf binds m x=m x
 | [],_,_=> rfl
 | (n,v)::r,m,h=> by
  unfold bindC
  rw [kz fun w hw=> h w (List.mem_cons_of_mem _ hw)]
  split
  ·rfl
  ·have:x≠n:=by rintro rfl; exact h v List.mem_cons_self
   simp [this]
theorem kH {kindOf:Str→Option NameKind} {x:Str} {v:Value}:∀ {P:List Str} {vs:List Value} {i:Nat} {m:Str→Option Value},P.Nodup→P[i]?=some x→vs[i]?=some v→kindOf x=some .local→
  bindL kindOf (P.zip vs) m x=some v
 | [],_,_,_,_,h,_,_=> by simp at h
 | _::_,[],_,_,_,_,h,_=> by simp at h
 | p::P,w::vs,0,m,nd,h1,h2,hk=> by
  simp at h1 h2; subst h1; subst h2
  show bindL kindOf ((p,w)::P.zip vs) m p=_
  unfold bindL
  rw [kS fun v hv=> (List.nodup_cons.mp nd).1 (List.of_mem_zip hv).1,if_pos hk]
  simp
 | p::P,w::vs,i+1,m,nd,h1,h2,hk=> by
  show bindL kindOf ((p,w)::P.zip vs) m x=_
  unfold bindL
  exact kH (i:=i) (List.nodup_cons.mp nd).2 (by simpa using h1) (by simpa using h2) hk
theorem kj {kindOf:Str→Option NameKind} {x:Str} {v:Value}:∀ {P:List Str} {vs:List Value} {i:Nat} {m:Str→Option Value},P.Nodup→P[i]?=some x→vs[i]?=some v→kindOf x≠some .local→
  bindC kindOf (P.zip vs) m x=some v
 | [],_,_,_,_,h,_,_=> by simp at h
 | _::_,[],_,_,_,_,h,_=> by simp at h
 | p::P,w::vs,0,m,nd,h1,h2,hk=> by
  simp at h1 h2; subst h1; subst h2
  show bindC kindOf ((p,w)::P.zip vs) m p=_
  unfold bindC
  rw [kz fun v hv=> (List.nodup_cons.mp nd).1 (List.of_mem_zip hv).1,if_neg hk]
  simp
 | p::P,w::vs,i+1,m,nd,h1,h2,hk=> by
  show bindC kindOf ((p,w)::P.zip vs) m x=_
  unfold bindC
  exact kj (i:=i) (List.nodup_cons.mp nd).2 (by simpa using h1) (by simpa using h2) hk
def start (N:List Str) (vs:List V):St:=vs.map some++List.replicate (N.length - vs.length) none
def ic (CX:CXT) (P:Program) (w:World) (K:PySem.W.Frag) (mg:Str→Option Value) (base:Heap) (N:List Str) (qual:Str) (scope:Scope) (f:Addr) (cd:Value) (A:Around) (outer:List Env) (s:Shared) (H:Hp) (E:XK):Cx where
 prog:=P
 w:=w
 K:=K
 mg:=mg
 base:=base
 A:=A.deeper (envOfC qual scope s.heap.objs.size f cd)
 N:=N
 s₀:=s
 H₀:=H
 env:=envOfC qual scope s.heap.objs.size f cd
 outer:=outer
 stack:=envOfC qual scope s.heap.objs.size f cd::outer
 ex:=[]
 calm:=true
 fn:=fun _=> true
 pn:=[]
 xe:=fun e s'=> wpAny (model P w) (A.deeper (envOfC qual scope s.heap.objs.size f cd)) (leaving (envOfC qual scope s.heap.objs.size f cd) e) (fun _ s''=> CX outer H s E e s'') (fun e' s''=> CX outer H s E e' s'') s'
theorem mM {sc:Scope} {n:Nat} {x:Str} (h:sc.names.lookup x=some .cell):∃ c,(cellsFrom n sc.names []).lookup x=some c:=by
 have q:=PySem.W.cellsFrom_some sc.names n [] (.inl h)
 exact Option.isSome_iff_exists.mp q
theorem kG {CX:CXT} {P:Program} {w:World} {K:PySem.W.Frag} {mg:Str→Option Value} {base:Heap} {N ps:List Str} {qual:Str} {scope:Scope} {f:Addr} {cd:Value} {A:Around} {outer:List Env} {s s1:Shared} {H:Hp} {E:XK} {us:List Value} {vs:List V}
  (S:aq N ps scope) (hd:A.handled=none) (e0:nD P w K mg base A outer s H) (hl:vs.length=ps.length) (r:aI vs us)
  (x:InCallC s s.heap.objs.size (bindL (envOfC qual scope s.heap.objs.size f cd).kindOf (ps.zip us) fun _=> none) (cellsFrom (s.heap.objs.size+1) scope.names []) (bindC (envOfC qual scope s.heap.objs.size f cd).kindOf (ps.zip us) fun _=> none) s1):
  Inv (ic CX P w K mg base N qual scope f cd A outer s H E) [] (start N vs) H s1:=by
 have hpl:ps.length≤N.length:=by have:=congrArg List.length S.pre; rw [List.length_take] at this; omega
 obtain ⟨h1,tk,rfl,hk⟩:=x.done
 have noA:∀ b:Addr,b ∉ (ic CX P w K mg base N qual scope f cd A outer s H E).ex:=fun b z=> absurd (show b∈([]:List Addr) from z) (by simp)
 refine ⟨⟨e0.mod,S.kind,rfl,rfl,Nat.le_refl _,fun y z c h1 h2=> ?_,fun y hy=> ?_,fun y c _ h=> ?_,fun _=> hd,Around.frames_deeper e0.frames,.inr ⟨rfl,rfl⟩,fun b z=> absurd z (noA b),e0.bs,e0.bsz,fun b _ _=> noA b,fun b z=> absurd z (noA b),e0.funs,e0.frf⟩,
  rfl,e0.bare,Un.kept hk,⟨_,x.toInCall.ns,fun i y v h1 h2 h3=> ?_⟩,fun y c h=> ⟨_,x.cell y c h⟩,e0.hok.fresh (Nat.le_refl _),fun y c h=> ?_,fun p hp=> absurd (show p∈([]:List (Addr×Obj)) from hp) (by simp),e0.hok.kept hk,?_⟩
 ·exact name_of_addr x.apart (PySem.mem_of_lookup h1) (PySem.mem_of_lookup h2)
 ·have hy:scope.names.lookup y=some .cell∨scope.names.lookup y=some .free:=hy
  rcases hy with hy | hy
  ·exact mM hy
  ·exact absurd rfl (S.nofree _ (PySem.mem_of_lookup hy))
 ·exact Nat.le_of_lt (x.above y c (PySem.mem_of_lookup h))
 ·have hi:i < vs.length:=by
   unfold start at h2
   by_cases hi:i < vs.length
   ·exact hi
   ·rw [List.getElem?_append_right (by simpa using hi)] at h2
    rw [List.getElem?_replicate] at h2
    split at h2 <;> cases h2
  have ha:vs[i]?=some v:=by
   unfold start at h2
   rw [List.getElem?_append_left (by simpa using hi),List.getElem?_map] at h2
   cases e:vs[i]? with
   | none=> rw [e] at h2; cases h2
   | some a=> rw [e] at h2; cases h2; rfl
  obtain ⟨u,hu,rv⟩:=r.get ha
  have hp:ps[i]?=some y:=by
   rw [← S.pre,List.getElem?_take_of_lt (by omega)]; exact h1
  have ndP:ps.Nodup:=by rw [← S.pre]; exact S.nd.sublist (List.take_sublist _ _)
  refine ⟨u,rv,?_⟩
  rcases S.par y (List.mem_of_getElem? hp) with k | k
  ·exact .inl ⟨k,kH ndP hp hu k⟩
  ·obtain ⟨c,e⟩:=mM (n:=s.heap.objs.size+1) k
   refine .inr ⟨.inl k,c,e,?_⟩
   have q:=x.cell y c e
   rw [kj ndP hp hu (by show scope.names.lookup y≠_; rw [k]; decide)] at q
   exact q
 ·exact e0.hok.fresh (Nat.le_of_lt (x.above y c (PySem.mem_of_lookup h)))
 ·unfold start
  show _=N.length
  rw [List.length_append,List.length_map,List.length_replicate]
  omega
theorem Ar {CX:CXT} {P:Program} {w:World} {K:PySem.W.Frag} {mg:Str→Option Value} {base:Heap} {k:Nat} {f:Addr} {name qual:Str} {params:Arguments} {body:List Stmt} {scope:Scope} {dV kV doc pm cdv ct oc:Value} {an od:Option Addr}
  {osl:Array (Option Value)} {N ps:List Str} {sp:Sp} (lk:K.lookup f=some ⟨oc,od,.func (PySem.W.fnOf name qual params body scope dV kV doc pm an cdv ct),osl⟩) (hcd:PySem.W.codeIn K cdv qual=true) (S:aq N ps scope)
  (len:∀ vs H Q E,sp vs H Q E→vs.length=ps.length)
  (hbody:∀ (A:Around) (outer:List Env) (s:Shared) (H:Hp) (vs:List V) (Q:VK) (E:XK),bJ k (A.deeper (envOfC qual scope s.heap.objs.size f cdv))→sp vs H Q E→
   ∃ t,PSs (ic CX P w K mg base N qual scope f cdv A outer s H E) body t∧t { nx:=fun _ H'=> Q .non H',rt:=Q } (start N vs) H):
  ba P w K mg base CX (k+1) f (PySem.W.fnOf name qual params body scope dV kV doc pm an cdv ct) ps sp:=by
 refine ⟨len,fun A outer s H args us vs Q E hr e0 hb r hsp=> ?_⟩
 have hl:=len _ _ _ _ hsp
 have KX:K.In s.heap:=e0.mod.kin.keeps fun b o e=> (e0.bs b o e).1
 have lim:s.heap.NoLimit:=e0.mod.nolimit.keeps fun b o e=> (e0.bs b o e).1
 have hkind:∀ y∈ps.zip us,scope.names.lookup y.1=some .local∨(scope.names.lookup y.1=some .cell∧((cellsFrom (s.heap.objs.size+1) scope.names []).lookup y.1).isSome=true):=fun ⟨n,v⟩ hy=> by
  rcases S.par n (List.of_mem_zip hy).1 with q | q
  ·exact .inl q
  ·exact .inr ⟨q,PySem.W.cellsFrom_some _ _ _ (.inl q)⟩
 refine codeAny_call_function hr.depth (KX _ _ lk) rfl S.co S.gen rfl (PySem.W.codeRec_of KX hcd) (hb _ _ _ _ ?_)
 refine wpAny_newFunctionEnv_cells S.kind hkind fun env he s1 x=> ?_
 subst he
 refine ⟨lim.keeps x.toInCall.keep,codeAny_func ?_⟩
 obtain ⟨t,ht,hq⟩:=hbody A outer s H vs Q E (hr.deeper _) hsp
 have I:Inv (ic CX P w K mg base N qual scope f cdv A outer s H E) [] (start N vs) H s1:=kG S hr.hd e0 hl r x
 refine wpAny_mono (ht [] s1 (start N vs) H _ I hq) (fun fl s' hs=> ?_) fun e s' hs=> hs
 have fin:∀ {σ':St} {H':Hp} {v:V} {u:Value},Inv (ic CX P w K mg base N qual scope f cdv A outer s H E) [] σ' H' s'→aT v u→Q v H'→CE outer P w H s Q u s':=
  fun {σ' H' v u} J rv q=> ⟨v,H',J.os,J.bare,J.base,J.hok,rv,q⟩
 cases fl with
 | ret u=>
  obtain ⟨v,σ',H',J,rv,q⟩:=hs
  exact fin J rv q
 | next=>
  obtain ⟨σ',H',J,q⟩:=hs
  exact fin (v:=V.non) (u:=Value.none) J rfl q
 | brk=>
  obtain ⟨_,_,_,q⟩:=hs
  exact False.elim q
 | cont=>
  obtain ⟨_,_,_,q⟩:=hs
  exact False.elim q
end L2
namespace L2
open PySem PySem.Spec PyProof.Rows
section
variable {X:Cx} {x:Str} {p pos:Pos} {e:Expr} {es:List Expr} {t:TA} {id T:String} {r:List V→Hp→VK→Prop}
def tCB (r:List V→Hp→VK→Prop) (t:TA):TE:=fun σ H Q=> t σ H fun vs H1=> r vs H1 Q
theorem mH (hc:cJ X (.builtin id) r) (hg:Gl X x) (hm:X.mg x=none) (hv:bootBuiltins x=some (.builtin id)) (ha:PA X (e::es) t) (hn:x≠"__name__":=by decide) (hdb:(x==("__debug__":Str))=false:=by decide)
  (he:starEach (e::es) X.env=(false,eval e X.env)::starEach es X.env:=by rfl) (hpl:(backTo pos (starEach es X.env)).any (·.1)=false:=by rfl):PE X (.Call (.Name x p) (e::es) [] pos) (tCB r t):=by
 intro pins s σ H Q I h
 refine wpAny_Call_Name_kw (gs I hg hm hv ?_ hn hdb)
 exact PyProof.Rows.callWith_builtin1 (thn (ha pos pins s σ H _ I h) fun us s1 ⟨vs,H1,I1,r1,q1⟩=> hc pins s1 σ H1 vs us Q I1 r1 q1) he hpl
theorem qS (hc:cJ X (.type T) r) (hg:Gl X x) (hm:X.mg x=none) (hv:bootBuiltins x=some (.type T)) (ha:PA X (e::es) t) (hn:x≠"__name__":=by decide) (hdb:(x==("__debug__":Str))=false:=by decide)
  (he:starEach (e::es) X.env=(false,eval e X.env)::starEach es X.env:=by rfl) (hpl:(backTo pos (starEach es X.env)).any (·.1)=false:=by rfl):PE X (.Call (.Name x p) (e::es) [] pos) (tCB r t):=by
 intro pins s σ H Q I h
 refine wpAny_Call_Name_kw (gs I hg hm hv ?_ hn hdb)
 exact PyProof.Rows.callWith_type1 (thn (ha pos pins s σ H _ I h) fun us s1 ⟨vs,H1,I1,r1,q1⟩=> hc pins s1 σ H1 vs us Q I1 r1 q1) he hpl
end
end L2
namespace HT
open PySem PyProof.Rows
section
open PySem.SeqAt
open PySem.AutoSeq1 (wpAny_loadPart')
open PySem.MeetsSeq PySem.MeetsSeq2 PySem.MeetsSeq3
end
section
variable {prog:Program} {w:World} {A:Around} {E:Value→Shared→Prop} {s:Shared}
def sIx (n d:Nat):Option Int→Nat
 | none=> d
 | some v=> if v < 0 then (v+(n:Int)).toNat else min v.toNat n
theorem sIx_none (n d:Nat):sIx n d none=d:=rfl
end
end HT
namespace L2
open PySem PySem.Spec PyProof.Rows
abbrev TO:=St→Hp→(Option Int→Hp→Prop)→Prop
def PO (X:Cx) (e:Option Expr) (t:TO):Prop:=
 ∀ (pins:List (Addr×Obj)) (s:Shared) (σ:St) (H:Hp) (Q:Option Int→Hp→Prop),Inv X pins σ H s→t σ H Q→
  wpAny (model X.prog X.w) X.A (evalPart e X.env) (fun u s'=> ∃ o H',Inv X pins σ H' s'∧IsPart u o∧Q o H') X.xe s
def wF:TO:=fun _ H Q=> Q none H
def AS (t:TE):TO:=fun σ H Q=> t σ H fun x H1=> ∃ i,x=.int i∧Q (some i) H1
section
variable {X:Cx} {e:Expr} {te:TE} {lo hi:Option Expr} {tl th:TO} {pos p2:Pos}
theorem w9:PO X none wF:=by
 intro pins s σ H Q I h
 rw [evalPart_none]
 exact wpAny_pure ⟨none,H,I,.none,h⟩
theorem wV (h:PE X e te):PO X (some e) (AS te):=by
 intro pins s σ H Q I hw
 rw [evalPart_some]
 refine thn (h pins s σ H _ I hw) fun u s1 ⟨x,H1,I1,r1,q1⟩=> ?_
 obtain ⟨i,rfl,q⟩:=q1
 obtain ⟨t,rfl⟩:=r1
 exact ⟨some i,H1,I1,.int i t,q⟩
def SlR (X:Cx) (r:V→Option Int→Option Int→Hp→VK→Prop):Prop:=
 ∀ (pins:List (Addr×Obj)) (s:Shared) (σ:St) (H:Hp) (x:V) (v vl vu:Value) (lo hi:Option Int) (sl:Addr) (Q:VK),Inv X pins σ H s→aT x v→s.heap.IsSliceOf sl vl vu .none→IsPart vl lo→IsPart vu hi→r x lo hi H Q→
  ∃ T id,typeLookup (.type T) "__getitem__"=pure (some (.builtin id))∧s.TypeIs v T∧wpAny (model X.prog X.w) X.A (getItem v (.ref sl)) (EP X pins σ Q) X.xe s
def tSl (r:V→Option Int→Option Int→Hp→VK→Prop) (te:TE) (tl th:TO):TE:=fun σ H Q=> te σ H fun x H1=> tl σ H1 fun l H2=> th σ H2 fun u H3=> r x l u H3 Q
theorem nX {r:V→Option Int→Option Int→Hp→VK→Prop} (hr:SlR X r) (he:PE X e te) (hl:PO X lo tl) (hu:PO X hi th):PE X (.Subscript e (.Slice lo hi none p2) pos) (tSl r te tl th):=by
 intro pins s σ H Q I h
 refine Subscript_ (thn (he pins s σ H _ I h) fun v s1 ⟨x,H1,I1,r1,q1⟩=> ?_)
 refine wpAny_Slice (thn (hl pins s1 σ H1 _ I1 q1) fun vl s2 ⟨l,H2,I2,pl,q2⟩=> thn (hu pins s2 σ H2 _ I2 q2) fun vu s3 ⟨u,H3,I3,pu,q3⟩=> ?_)
 rw [evalPart_none]
 refine wpAny_pure ?_
 have I4:Inv X pins σ H3 { s3 with heap:=s3.heap.push { cls:=.type "slice",data:=.fields #[vl,vu,.none] } }:=I3.kept (t':=s3.toks) fun b ob q=> Heap.get?_push_of_some _ q
 obtain ⟨T,id,hT,ht,hg⟩:=hr pins { s3 with heap:=s3.heap.push { cls:=.type "slice",data:=.fields #[vl,vu,.none] } } σ H3 x v vl vu l u s3.heap.objs.size Q I4 r1 (Heap.IsSliceOf.new ..) pl pu q3
 show wpAny (model X.prog X.w) X.A (subscriptTail e (.Slice lo hi none p2) v (.ref s3.heap.objs.size)) (EP X pins σ Q) X.xe { s3 with heap:=s3.heap.push { cls:=.type "slice",data:=.fields #[vl,vu,.none] } }
 exact tail_any (ops:=[.ref s3.heap.objs.size,v]) ht hT hg (by with_unfolding_all rfl)
def sF (xs:List V) (lo hi:Option Int):List V:=(xs.drop (HT.sIx xs.length 0 lo)).take (HT.sIx xs.length xs.length hi - HT.sIx xs.length 0 lo)
theorem mN (xs:List V) (lo hi:Option Int):(sF xs lo hi).length≤xs.length:=by
 unfold sF
 rw [List.length_take,List.length_drop]
 omega
end
end L2
namespace L2
open PySem PySem.Spec PyProof.Rows
def ixN (n:Nat) (i:Int):Option Nat:=if 0≤i then (if i < n then some i.toNat else none) else if -(n:Int)≤i then some (i+n).toNat else none
def atI {α:Type} (xs:List α) (i:Int):Option α:=(ixN xs.length i).bind fun j=> xs[j]?
theorem vT {n:Nat} {i:Int} {j:Nat} (h:ixN n i=some j):seqIndex? i n=some j∧j < n∧-(n:Int)≤i∧i < n:=by
 unfold ixN at h
 by_cases h0:0≤i
 ·rw [if_pos h0] at h
  by_cases h1:i < n
  ·rw [if_pos h1] at h
   have e:i.toNat=j:=Option.some.inj h
   exact ⟨by rw [seqIndex_of h0 h1,e],by omega,by omega,h1⟩
  ·rw [if_neg h1] at h; cases h
 ·rw [if_neg h0] at h
  by_cases h1:-(n:Int)≤i
  ·rw [if_pos h1] at h
   have e:(i+n).toNat=j:=Option.some.inj h
   exact ⟨by rw [seqIndex_neg (by omega) h1,e],by omega,h1,by omega⟩
  ·rw [if_neg h1] at h; cases h
theorem ms {α:Type} {xs:List α} {i:Int} {v:α} (h:atI xs i=some v):∃ j,seqIndex? i xs.length=some j∧xs[j]?=some v∧j < xs.length∧-(xs.length:Int)≤i∧i < xs.length:=by
 unfold atI at h
 cases e:ixN xs.length i with
 | none=> rw [e] at h; cases h
 | some j=>
  rw [e] at h
  obtain ⟨h1,h2,h3,h4⟩:=vT e
  exact ⟨j,h1,h,h2,h3,h4⟩
theorem pZ {α:Type} {xs:List α} {j:Nat} {v:α} (h:xs[j]?=some v):atI xs (j:Int)=some v:=by
 have hj:j < xs.length:=(List.getElem?_eq_some_iff.mp h).1
 have e:ixN xs.length (j:Int)=some j:=by
  unfold ixN
  rw [if_pos (by omega),if_pos (by omega)]; simp
 unfold atI; rw [e]; exact h
def i0 (b:Expr):Prop:=∀ o i,subscripted b false o i=operate [o,i] (getItem o i)
def IxR (X:Cx) (r:R2):Prop:=
 ∀ (value slice:Expr) (pins:List (Addr×Obj)) (s:Shared) (σ:St) (H:Hp) (x y:V) (v u:Value) (Q:VK),Inv X pins σ H s→aT x v→aT y u→r x y H Q→
  subscripted slice false v u=operate [v,u] (getItem v u)→wpAny (model X.prog X.w) X.A (subscriptTail value slice v u) (EP X pins σ Q) X.xe s
def MtR (X:Cx) (id:String) (r:V→List V→Hp→VK→Prop):Prop:=
 ∀ (pins:List (Addr×Obj)) (s:Shared) (σ:St) (H:Hp) (x:V) (xs:List V) (v:Value) (us:List Value) (Q:VK),Inv X pins σ H s→aT x v→aI xs us→r x xs H Q→
  wpAny (model X.prog X.w) X.A (call (.builtin id) (v::us)) (EP X pins σ Q) X.xe s
section
variable {X:Cx} {a b:Expr} {ta tb:TE} {pos:Pos}
theorem IxR.or {r r':R2} (h:IxR X r) (h':IxR X r'):IxR X (fun x y H Q=> r x y H Q∨r' x y H Q):=by
 intro value slice pins s σ H x y v u Q I rx ry q hs
 rcases q with q | q
 ·exact h value slice pins s σ H x y v u Q I rx ry q hs
 ·exact h' value slice pins s σ H x y v u Q I rx ry q hs
theorem uG {r:R2} (hr:IxR X r) (ha:PE X a ta) (hb:PE X b tb) (hs:i0 b):PE X (.Subscript a b pos) (tOp r ta tb):=by
 intro pins s σ H Q I h
 exact Subscript_ (zy ha hb I h fun v u s2 x y H2 I2 rx ry q=> hr a b pins s2 σ H2 x y v u Q I2 rx ry q (hs _ _))
def Bs (K:PySem.W.Frag):R2:=fun x y H Q=> ∃ p xs i v,x=.ref p∧y=.int i∧SqL K H p xs∧atI xs i=some v∧Q v H
def Bn (K:PySem.W.Frag):R2:=fun x y H Q=> ∃ p xs i v,x=.ref p∧y=.int i∧SqT K H p xs∧atI xs i=some v∧Q v H
def Bg:R2:=fun x y H Q=> ∃ z i c,x=.str z∧y=.int i∧z.length≤sizeLine∧atI z.cps.toList i=some c∧Q (.str ⟨#[c]⟩) H
theorem qo:IxR X (Bs X.K):=by
 intro value slice pins s σ H x y v u Q I rx ry h hs
 obtain ⟨p,xs,i,z,rfl,rfl,hq,he,q⟩:=h
 cases rx
 obtain ⟨t,rfl⟩:=ry
 obtain ⟨its,r,pl,hz⟩:=I.list hq
 obtain ⟨j,h1,h2,h3,h4,h5⟩:=ms he
 obtain ⟨w,ew,rw'⟩:=r.get h2
 have hl:=r.length
 have hn:=ju
 have fin:EP X pins σ Q w s:=⟨z,H,I,rw',q⟩
 by_cases h0:0≤i
 ·have hj:i.toNat=j:=by
   rw [seqIndex_of h0 h5] at h1
   exact Option.some.inj h1
  exact item_listR pl.isList h0 (by omega) (by rw [hj]; simpa using ew) fin hs
 ·have hj:(i+(its.toArray.size:Int)).toNat=j:=by
   rw [seqIndex_neg (by omega) h4] at h1
   rw [List.size_toArray,← hl]
   exact Option.some.inj h1
  exact subscriptTail_builtinR (x:=w) pl.isList.typeIs slot_list_getitem.lookup
   (wpAny_getItem_list_neg (Q:=fun r s'=> r=w∧EP X pins σ Q r s') pl.isList (by omega) (by rw [List.size_toArray] <;> omega) (by omega) (by rw [hj]; simpa using ew) ⟨rfl,fin⟩) hs
theorem zS:IxR X (Bn X.K):=by
 intro value slice pins s σ H x y v u Q I rx ry h hs
 obtain ⟨p,xs,i,z,rfl,rfl,hq,he,q⟩:=h
 cases rx
 obtain ⟨t,rfl⟩:=ry
 obtain ⟨its,r,pl,hz⟩:=I.tuple hq
 obtain ⟨j,h1,h2,h3,h4,h5⟩:=ms he
 obtain ⟨w,ew,rw'⟩:=r.get h2
 have hl:=r.length
 have hn:=ju
 have fin:EP X pins σ Q w s:=⟨z,H,I,rw',q⟩
 exact subscriptTail_builtinR (x:=w) pl.typeIs slot_tuple_getitem.lookup
  (getItem_tuple (j:=j) (Q:=fun r s'=> r=w∧EP X pins σ Q r s') pl (by omega) (by omega) (by rw [List.size_toArray,← hl]; exact h1) (by simpa using ew) ⟨rfl,fin⟩) hs
theorem zG:IxR X Bg:=by
 intro value slice pins s σ H x y v u Q I rx ry h hs
 obtain ⟨z,i,c,rfl,rfl,hz,he,q⟩:=h
 obtain ⟨t,rfl⟩:=rx
 obtain ⟨t',rfl⟩:=ry
 obtain ⟨j,h1,h2,h3,h4,h5⟩:=ms he
 have hl:z.cps.toList.length=z.length:=by simp [Str.length]
 rw [hl] at h1 h4 h5
 have hn:=ju
 exact tail_any (typeIs_str s z t) slot_str_getitem.lookup (getItem_str (c:=c) (by
  have e1:decide (i < -(2 ^ 63:Int))=false:=decide_eq_false (by omega)
  have e2:decide (i ≥ 2 ^ 63)=false:=decide_eq_false (by omega)
  rw [e1,e2,Bool.or_false]) (by rw [h1]; simpa using h2) ⟨.str ⟨#[c]⟩,H,I.tok _,⟨_,rfl⟩,q⟩) hs
theorem lK (lo hi:Option Int) (n:Nat):(sliceBounds lo hi none n).1=((HT.sIx n 0 lo:Nat):Int)∧(sliceBounds lo hi none n).2.1=((HT.sIx n n hi:Nat):Int)∧(sliceBounds lo hi none n).2.2=1:=by
 refine ⟨?_,?_,rfl⟩
 ·cases lo with
  | none=> simp [sliceBounds,HT.sIx]
  | some i=>
   simp only [sliceBounds,HT.sIx,Option.getD_none,show (1:Int) > 0 by decide,if_true]
   by_cases h:i < 0
   ·simp only [h,if_true] <;> omega
   ·simp only [h,if_false] <;> omega
 ·cases hi with
  | none=> simp [sliceBounds,HT.sIx]
  | some i=>
   simp only [sliceBounds,HT.sIx,Option.getD_none,show (1:Int) > 0 by decide,if_true]
   by_cases h:i < 0
   ·simp only [h,if_true] <;> omega
   ·simp only [h,if_false] <;> omega
theorem j4 (its:List Value) (lo hi:Option Int):slicePick its.toArray lo hi none=((its.drop (HT.sIx its.length 0 lo)).take (HT.sIx its.length its.length hi - HT.sIx its.length 0 lo)).toArray:=by
 obtain ⟨h1,h2,h3⟩:=lK lo hi its.toArray.size
 unfold slicePick
 rw [h1,h2,h3]
 simp only [sliceRange_one,pick_run,List.size_toArray] <;> rfl
def A8 (K:PySem.W.Frag):V→Option Int→Option Int→Hp→VK→Prop:=fun x lo hi H Q=> ∃ a xs,x=.ref a∧SqL K H a xs∧∀ p,H p=none→Q (.ref p) (upd H p (.lst (sF xs lo hi)))
theorem wx:SlR X (A8 X.K):=by
 intro pins s σ H x v vl vu lo hi sl Q I rx hs pl pu h
 obtain ⟨a,xs,rfl,hx,q⟩:=h
 cases rx
 obtain ⟨its,r,ht,hz⟩:=I.list hx
 have hlen:=r.length
 refine ⟨"list",_,slot_list_getitem.lookup,ht.isList.typeIs,?_⟩
 refine wpAny_getItem_list_slice ht.isList hs pl pu .none (by simp) ?_ (by rw [List.size_toArray] <;> omega)
 rw [j4,← hlen]
 refine ⟨.ref s.heap.objs.size,_,I.laid (t':=s.toks) (o:=.lst (sF xs lo hi)) (fun b ob q=> Heap.get?_push_of_some _ q) (Nat.le_refl _) ?_,rfl,q _ (I.hok.fresh (Nat.le_refl _))⟩
 exact ⟨Nat.le_trans (mN xs lo hi) hz,_,0,(r.drop (HT.sIx xs.length 0 lo)).take (HT.sIx xs.length xs.length hi - HT.sIx xs.length 0 lo),Heap.get?_push_size _ rfl⟩
def fV:V→Bool
 | .non=> true
 | .bl _=> true
 | .int _=> true
 | .str _=> true
 | _=> false
def eqV:V→V→Bool
 | .non,.non=> true
 | .bl a,.bl b=> a==b
 | .bl a,.int b=> (if a then 1 else 0)==b
 | .int a,.bl b=> a==(if b then 1 else 0)
 | .int a,.int b=> a==b
 | .str a,.str b=> a==b
 | _,_=> false
theorem yB {A:Around} {s:Shared} {y x:V} {u v:Value} (ry:aT y u) (rx:aT x v) (fy:fV y=true) (fx:fV x=true):SeqAt.EqAt A s u v (eqV y x):=by
 cases y with
 | non=>
  cases ry
  cases x with
  | non=> cases rx; exact SeqAt.EqAt.same _
  | bl b=> cases rx; exact SeqAt.EqAt.none_bool b
  | int b=> obtain ⟨t,rfl⟩:=rx; exact SeqAt.EqAt.none_int b t
  | str b=> obtain ⟨t,rfl⟩:=rx; exact SeqAt.EqAt.none_str b t
  | _=> exact absurd (show false=true from fx) Bool.false_ne_true
 | bl a=>
  cases ry
  cases x with
  | non=> cases rx; exact SeqAt.EqAt.bool_none a
  | bl b=> cases rx; exact SeqAt.EqAt.bool_bool a b
  | int b=> obtain ⟨t,rfl⟩:=rx; exact SeqAt.EqAt.bool_int a b t
  | str b=> obtain ⟨t,rfl⟩:=rx; exact SeqAt.EqAt.bool_str a b t
  | _=> exact absurd (show false=true from fx) Bool.false_ne_true
 | int a=>
  obtain ⟨t',rfl⟩:=ry
  cases x with
  | non=> cases rx; exact SeqAt.EqAt.int_none a t'
  | bl b=> cases rx; exact SeqAt.EqAt.int_bool a t' b
  | int b=> obtain ⟨t,rfl⟩:=rx; exact SeqAt.EqAt.int_int a t' b t
  | str b=> obtain ⟨t,rfl⟩:=rx; exact SeqAt.EqAt.int_str a t' b t
  | _=> exact absurd (show false=true from fx) Bool.false_ne_true
 | str a=>
  obtain ⟨t',rfl⟩:=ry
  cases x with
  | non=> cases rx; exact SeqAt.EqAt.str_none a t'
  | bl b=> cases rx; exact SeqAt.EqAt.str_bool a t' b
  | int b=> obtain ⟨t,rfl⟩:=rx; exact SeqAt.EqAt.str_int a t' b t
  | str b=> obtain ⟨t,rfl⟩:=rx; exact SeqAt.EqAt.str_str a t' b t
  | _=> exact absurd (show false=true from fx) Bool.false_ne_true
 | _=> exact absurd (show false=true from fy) Bool.false_ne_true
def eqU (x:V) (u:Value):Bool:=match u with
 | .none=> eqV .non x
 | .bool b=> eqV (.bl b) x
 | .int i _=> eqV (.int i) x
 | .str z _=> eqV (.str z) x
 | _=> false
theorem uO {x y:V} {u:Value} (r:aT y u) (f:fV y=true):eqU x u=eqV y x:=by
 cases y with
 | non=> cases r; rfl
 | bl b=> cases r; rfl
 | int i=> obtain ⟨t,rfl⟩:=r; rfl
 | str z=> obtain ⟨t,rfl⟩:=r; rfl
 | _=> exact absurd (show false=true from f) Bool.false_ne_true
theorem lr {x:V}:∀ {xs:List V} {us:List Value},aI xs us→xs.all fV=true→us.any (eqU x)=xs.any fun y=> eqV y x
 | _,_,.nil,_=> rfl
 | y::xs,u::us,.cons r t,f=> by
  rw [List.all_cons,Bool.and_eq_true] at f
  rw [List.any_cons,List.any_cons,uO r f.1,lr t f.2]
theorem jt {A:Around} {s:Shared} {x:V} {v:Value} (rx:aT x v) (fx:fV x=true):∀ {xs:List V} {us:List Value},aI xs us→xs.all fV=true→∀ u∈us,SeqAt.EqAt A s u v (eqU x u)
 | _,_,.nil,_=> fun u hu=> by cases hu
 | y::xs,u::us,.cons r t,f=> fun u' hu=> by
  rw [List.all_cons,Bool.and_eq_true] at f
  rcases List.mem_cons.mp hu with rfl | hu
  ·rw [uO r f.1]; exact yB r rx f.1 fx
  ·exact jt rx fx t f.2 u' hu
def inV (x:V) (xs:List V):Bool:=xs.any fun y=> eqV y x
def rIn (K:PySem.W.Frag) (neg:Bool):R2:=fun x y H Q=> ∃ p xs,y=.ref p∧(SqL K H p xs∨SqT K H p xs)∧fV x=true∧xs.all fV=true∧Q (.bl (if neg then !inV x xs else inV x xs)) H
theorem rQ:OpR X (compareOp .In) (rIn X.K false):=by
 intro pins s σ H x y v u Q I rx ry h
 obtain ⟨p,xs,rfl,hq,fx,fs,q⟩:=h
 cases ry
 rcases hq with hq | hq
 ·obtain ⟨its,r,pl,hz⟩:=I.list hq
  refine SeqAt.in_listAt (eqU x) pl.isList (fun w hw=> jt rx fx r fs w (by simpa using hw)) ⟨.bl _,H,I,rfl,?_⟩
  rw [show its.toArray.any (eqU x)=its.any (eqU x) by simp,lr r fs]
  exact q
 ·obtain ⟨its,r,pl,hz⟩:=I.tuple hq
  refine SeqAt.in_tupleAt (eqU x) pl (fun w hw=> jt rx fx r fs w (by simpa using hw)) ⟨.bl _,H,I,rfl,?_⟩
  rw [show its.toArray.any (eqU x)=its.any (eqU x) by simp,lr r fs]
  exact q
theorem gN:cJ X (.builtin "len") (fun xs H Q=> ∃ p ys,xs=[.ref p]∧(SqL X.K H p ys∨SqT X.K H p ys)∧Q (.int ys.length) H):=by
 intro pins s σ H xs us Q I r h
 obtain ⟨p,ys,rfl,hq,q⟩:=h
 obtain ⟨u,rfl,rx⟩:=dG r
 cases rx
 have hn:=ju
 rcases hq with hq | hq
 ·obtain ⟨its,r',pl,hz⟩:=I.list hq
  have hlen:=r'.length
  exact Calls.call_len_list pl.isList (by simp only [List.size_toArray] <;> omega) ⟨.int ys.length,H,I.tok _,⟨s.toks+1,by rw [List.size_toArray,hlen]⟩,q⟩
 ·obtain ⟨its,r',pl,hz⟩:=I.tuple hq
  have hlen:=r'.length
  exact len_tuple pl (by simp only [List.size_toArray] <;> omega) ⟨.int ys.length,H,I.tok _,⟨s.toks+1,by rw [List.size_toArray,hlen]⟩,q⟩
theorem lC:cJ X (.builtin "len") (fun xs H Q=> ∃ z,xs=[.str z]∧z.length≤sizeLine∧Q (.int z.length) H):=by
 intro pins s σ H xs us Q I r h
 obtain ⟨z,rfl,hz,q⟩:=h
 obtain ⟨u,rfl,t,rfl⟩:=dG r
 have hn:=ju
 exact len_str (by omega) ⟨.int z.length,H,I.tok _,⟨_,rfl⟩,q⟩
def tyV (K:PySem.W.Frag) (T:String) (x:V) (H:Hp):Prop:=match x with
 | .str _=> T="str"
 | .int _=> T="int"
 | .ref p=> (T="list"∧∃ xs,SqL K H p xs)∨(T="tuple"∧∃ o,K.lookup p=some o∧o.cls=.type "tuple"∧o.dict=none)∨
   (T="dict"∧((∃ kvs,H p=some (.dK kvs))∨∃ kvs,H p=some (.dT kvs)))∨(T="set"∧∃ S n,H p=some (.set S n))
 | _=> False
theorem oy {pins:List (Addr×Obj)} {σ:St} {H:Hp} {s:Shared} {T:String} {x:V} {v:Value} (I:Inv X pins σ H s) (r:aT x v) (ty:tyV X.K T x H):
  s.TypeIs v T∧∀ a,v=.ref a→∃ ob,s.heap.get? a=some ob∧ob.dict=none:=by
 cases x with
 | str z=>
  obtain ⟨t,rfl⟩:=r
  cases (show T="str" from ty)
  exact ⟨typeIs_str s z t,fun _ e=> nomatch e⟩
 | int i=>
  obtain ⟨t,rfl⟩:=r
  cases (show T="int" from ty)
  exact ⟨typeIs_int s i t,fun _ e=> nomatch e⟩
 | ref p=>
  cases r
  rcases ty with ⟨rfl,xs,hq⟩ | ⟨rfl,o,hk,hc,hd⟩ | ⟨rfl,hk⟩ | ⟨rfl,S,n,hk⟩
  ·obtain ⟨its,_,pl,_⟩:=I.list hq
   refine ⟨pl.isList.typeIs,fun a e=> ?_⟩
   cases e
   obtain ⟨o,n,e,c,hd,_⟩:=pl
   exact ⟨o,e,hd⟩
  ·refine ⟨⟨o,I.kIn p o hk,hc⟩,fun a e=> ?_⟩
   cases e
   exact ⟨o,I.kIn _ o hk,hd⟩
  ·have z:∃ o,s.heap.get? p=some o∧o.ExactDict:=by
    rcases hk with ⟨kvs,hk⟩ | ⟨kvs,hk⟩
    ·obtain ⟨_,_,_,_,o,_,_,e,ex,_⟩:=I.hok p _ hk
     exact ⟨o,e,ex⟩
    ·obtain ⟨_,_,_,_,o,_,_,e,ex,_⟩:=I.hok p _ hk
     exact ⟨o,e,ex⟩
   obtain ⟨o,e,ex⟩:=z
   refine ⟨⟨o,e,ex.1⟩,fun a e2=> ?_⟩
   cases e2
   exact ⟨o,e,ex.2.1⟩
  ·obtain ⟨o,_,_,_,e,ex,_⟩:=I.hok p _ hk
   refine ⟨⟨o,e,ex.1⟩,fun a e2=> ?_⟩
   cases e2
   exact ⟨o,e,ex.2.1⟩
 | _=> exact False.elim ty
def Bz (K:PySem.W.Frag) (T:String) (r:V→List V→Hp→VK→Prop) (to:TE):TE:=fun σ H Q=> to σ H fun x H1=> tyV K T x H1∧r x [] H1 Q
def tBM (K:PySem.W.Frag) (T:String) (r:V→List V→Hp→VK→Prop) (to:TE) (t:TA):TE:=fun σ H Q=> to σ H fun x H1=> tyV K T x H1∧t σ H1 fun xs H2=> r x xs H2 Q
variable {o e:Expr} {es:List Expr} {to:TE} {t:TA} {name:Str} {apos cpos:Pos} {T id:String} {r:V→List V→Hp→VK→Prop}
theorem sS (pa:PlainAttrs T) (slot:Slot T name id) (hty:typeOf (.builtin id)=pure (.type "method_descriptor")) (hm:MtR X id r) (ho:PE X o to)
  (hbase:attributeBase o name X.env (eval o X.env)=eval o X.env:=by rfl) (hline:(apos.endLine==cpos.line)=true:=by rfl):PE X (.Call (.Attribute o name apos) [] [] cpos) (Bz X.K T r to):=by
 intro pins s σ H Q I h
 refine wpAny_Call_method0_late hbase hline (thn (ho pins s σ H _ I h) fun v s1 ⟨x,H1,I1,r1,ty,q1⟩=> ?_)
 obtain ⟨h1,h2⟩:=oy I1 r1 ty
 exact ⟨T,id,pa,slot,hty,h1,h2,Calls.callWith_builtin rfl (PySem.evalArgs_none (hm pins s1 σ H1 x [] v [] Q I1 r1 .nil q1))⟩
theorem nL (pa:PlainAttrs T) (slot:Slot T name id) (hty:typeOf (.builtin id)=pure (.type "method_descriptor")) (hm:MtR X id r) (ho:PE X o to) (ha:PA X (e::es) t)
  (hbase:attributeBase o name X.env (eval o X.env)=eval o X.env:=by rfl)
  (hfew:((backTo cpos (starEach (e::es) X.env)).all (fun x=> !x.1) && (backToKw cpos (keywordEach [] X.env)).all (fun x=> x.1.isSome)
   && decide ((e::es).length+([]:List Keyword).length+(if ([]:List Keyword).isEmpty then 0 else 1) < 30))=true:=by rfl)
  (hline:(apos.endLine==cpos.line)=true:=by rfl) (hs:starEach (e::es) X.env=(false,eval e X.env)::starEach es X.env:=by rfl) (hplain:(backTo cpos (starEach es X.env)).any (·.1)=false:=by rfl):
  PE X (.Call (.Attribute o name apos) (e::es) [] cpos) (tBM X.K T r to t):=by
 intro pins s σ H Q I h
 refine wpAny_Call_method_late hbase hfew hline rfl (thn (ho pins s σ H _ I h) fun v s1 ⟨x,H1,I1,r1,ty,q1⟩=> ?_)
 obtain ⟨h1,h2⟩:=oy I1 r1 ty
 refine ⟨T,id,pa,slot,hty,h1,h2,?_⟩
 have hA:=ha cpos pins s1 σ H1 _ I1 q1
 rw [hs] at hA ⊢
 refine Calls.callWith_builtin (by show (false || (backTo cpos (starEach es X.env)).any (·.1))=false; rw [hplain] <;> rfl) (Calls.evalArgs_plain ?_)
 exact thn hA fun us s2 ⟨vs,H2,I2,r2,q2⟩=> hm pins s2 σ H2 x vs v us Q I2 r1 r2 q2
/- xs.append(e),list.index on a module's tuple .. are MtR facts of 06m -/
end
end L2
namespace L2
open PySem PySem.Spec PyProof.Rows
def MtM (X:Cx) (id:String) (r:V→List V→Hp→VK→Prop):Prop:=
 ∀ (pins:List (Addr×Obj)) (s:Shared) (σ:St) (H:Hp) (x:V) (xs:List V) (v:Value) (us:List Value) (Q:VK),Inv X pins σ H s→aT x v→aI xs us→r x xs H Q→
  wpAny (model X.prog X.w) X.A (call (.builtin id) (v::us)) (EP X pins σ Q) X.xe s
theorem aI.one:∀ {x:V} {us:List Value},aI [x] us→∃ u,us=[u]∧aT x u
 | _,_,.cons r .nil=> ⟨_,rfl,r⟩
theorem aI.zero:∀ {us:List Value},aI [] us→us=[]
 | _,.nil=> rfl
theorem aI.dropLast {xs:List V} {us:List Value} (h:aI xs us):aI xs.dropLast us.dropLast:=by
 induction h with
 | nil=> exact .nil
 | cons r t ih=>
  cases t with
  | nil=> exact .nil
  | cons q t'=> exact .cons r ih
theorem aI.rep {xs:List V} {us:List Value} (h:aI xs us):∀ k:Nat,aI (List.replicate k xs).flatten (List.replicate k us).flatten
 | 0=> .nil
 | k+1=> by
  rw [List.replicate_succ,List.replicate_succ,List.flatten_cons,List.flatten_cons]
  exact aI.append h (aI.rep h k)
theorem oF {α:Type} (l:List α):l.eraseIdx (l.length - 1)=l.dropLast:=by
 induction l with
 | nil=> rfl
 | cons a r ih=>
  cases r with
  | nil=> rfl
  | cons b r=>
   have e:(a::b::r).length - 1=((b::r).length - 1)+1:=by
    have h1:(a::b::r).length=r.length+2:=rfl
    have h2:(b::r).length=r.length+1:=rfl
    omega
   rw [e,List.eraseIdx_cons_succ,ih]
   all_goals rfl
theorem kM (its:List Value):∀ (k:Nat) (acc:List Value),
  List.foldl (fun x1 x2=> x1++x2) acc.toArray (List.replicate k its.toArray)=(acc++(List.replicate k its).flatten).toArray
 | 0,acc=> by simp
 | k+1,acc=> by
  have e:acc.toArray++its.toArray=(acc++its).toArray:=by simp
  have e2:(acc++its)++(List.replicate k its).flatten=acc++(List.replicate (k+1) its).flatten:=by
   rw [List.replicate_succ,List.flatten_cons,List.append_assoc]
  rw [← e2,← kM its k (acc++its),← e,List.replicate_succ,List.foldl_cons]
section
variable {X:Cx} {pins:List (Addr×Obj)} {σ:St} {H:Hp} {s:Shared} {l b:Addr} {xs ys zs:List V}
theorem Inv.lset {its its':List Value} {n:Nat} {f:Array Value→Array Value} {t':Nat} (I:Inv X pins σ H s) (hH:H l=some (.lst xs))
  (e:s.heap.get? l=some { cls:=.type "list",data:=.seq its.toArray n }) (hf:f its.toArray=its'.toArray) (hv:aI ys its') (hz:ys.length≤sizeLine):
  Inv X pins σ (upd H l (.lst ys)) { s with heap:=s.heap.update l (Obj.mapSeq f),toks:=t' }:=by
 have q:=PySem.IsL.update e f
 rw [hf] at q
 refine I.write (x:=l) (e:=l) (by rw [hH]; exact trivial) (.inl rfl) (fun b' u hb hu=> (Heap.get?_update_other s.heap (Obj.mapSeq f) (Ne.symm hb)).trans hu) ⟨_,q⟩ ?_
 exact ⟨hz,its',_,hv,q⟩
theorem Inv.lnew {its:List Value} {t':Nat} (I:Inv X pins σ H s) (hv:aI ys its) (hz:ys.length≤sizeLine):
  Inv X pins σ (upd H s.heap.objs.size (.lst ys)) { s with heap:=s.heap.push { cls:=.type "list",data:=.seq its.toArray },toks:=t' }:=
 I.laid (fun _ _ q=> Heap.get?_push_of_some _ q) (Nat.le_refl _) ⟨hz,its,0,hv,Heap.get?_push_size _ rfl⟩
theorem Inv.fresh (I:Inv X pins σ H s):H s.heap.objs.size=none:=I.hok.fresh (Nat.le_refl _)
theorem Inv.lstM (I:Inv X pins σ H s) (hH:H l=some (.lst xs)):xs.length≤sizeLine∧∃ (its:List Value) (n:Nat),aI xs its∧xs.length=its.length∧s.heap.get? l=some { cls:=.type "list",data:=.seq its.toArray n }:=by
 obtain ⟨z,its,n,r,e⟩:=I.hok l _ hH
 exact ⟨z,its,n,r,r.length,e⟩
theorem vc {n:Nat} (h:n≤sizeLine):Builtin.List.listTooLong n=false:=by
 unfold Builtin.List.listTooLong
 exact decide_eq_false (by omega)
end
section
variable {X:Cx}
def wP:V→List V→Hp→VK→Prop:=fun x vs H Q=> ∃ l xs y,x=.ref l∧vs=[y]∧H l=some (.lst xs)∧xs.length < sizeLine∧Q .non (upd H l (.lst (xs++[y])))
theorem iC:MtM X "list.append" wP:=by
 intro pins s σ H x vs v us Q I rx rv h
 obtain ⟨l,xs,y,rfl,rfl,hH,hz,q⟩:=h
 cases rx
 obtain ⟨u,rfl,ru⟩:=rv.one
 obtain ⟨z,its,n,r,hl,e⟩:=I.lstM hH
 refine call_meets F.slot_list_append ⟨_,e,rfl⟩ F.entry_list_append (F.args_list_append_2 _ _) (PySem.list_append l its.toArray n u (by rw [List.size_toArray]; omega)) ⟨e,?_⟩
 refine ⟨.non,_,I.lset (its':=its++[u]) hH e (by simp) (r.append (.cons ru .nil)) ?_,rfl,q⟩
 rw [List.length_append,List.length_singleton]
 omega
def Bw:V→List V→Hp→VK→Prop:=fun x vs H Q=> ∃ l xs y,x=.ref l∧vs=[]∧H l=some (.lst xs)∧xs[xs.length - 1]?=some y∧Q y (upd H l (.lst xs.dropLast))
theorem y4:MtM X "list.pop" Bw:=by
 intro pins s σ H x vs v us Q I rx rv h
 obtain ⟨l,xs,y,rfl,rfl,hH,hy,q⟩:=h
 cases rx
 have hus:=rv.zero
 subst hus
 obtain ⟨z,its,n,r,hl,e⟩:=I.lstM hH
 obtain ⟨u,hu,ru⟩:=r.get hy
 have hy':its.toArray[its.toArray.size - 1]?=some u:=by
  show its.toArray[its.length - 1]?=some u
  rw [← Array.getElem?_toList,← hl]
  exact hu
 refine call_meets F.slot_list_pop ⟨_,e,rfl⟩ F.entry_list_pop (F.args_list_pop_1 _) (MeetsSeq.list_pop_last l its.toArray n u hy' (by rw [List.size_toArray]; omega)) ⟨e,?_⟩
 refine ⟨y,_,I.lset (its':=its.dropLast) hH e ?_ r.dropLast ?_,ru,q⟩
 ·show its.toArray.eraseIdxIfInBounds (its.toArray.size - 1)=its.dropLast.toArray
  rw [List.size_toArray,List.eraseIdxIfInBounds_toArray,oF]
 ·rw [List.length_dropLast]
  omega
def Bh:R2:=fun x y H Q=> ∃ l b xs zs,x=.ref l∧y=.ref b∧H l=some (.lst xs)∧H b=some (.lst zs)∧xs.length+zs.length≤sizeLine∧∀ p,H p=none→Q (.ref p) (upd H p (.lst (xs++zs)))
theorem yA:OpR X (binaryOp .Add) Bh:=by
 intro pins s σ H x y v u Q I rx ry h
 obtain ⟨l,b,xs,zs,rfl,rfl,hH,hB,hz,q⟩:=h
 cases rx
 cases ry
 obtain ⟨z,its,n,r,hl,e⟩:=I.lstM hH
 obtain ⟨z2,its2,n2,r2,hl2,e2⟩:=I.lstM hB
 refine PySem.P.add_list e e2 ?_ (by rw [List.size_toArray,List.size_toArray]; omega)
 have ea:its.toArray++its2.toArray=(its++its2).toArray:=by simp
 rw [ea]
 exact ⟨.ref _,_,I.lnew (t':=s.toks) (r.append r2) (by rw [List.length_append]; omega),rfl,q _ I.fresh⟩
def A6:R2:=fun x y H Q=> ∃ l k xs,x=.ref l∧y=.int k∧H l=some (.lst xs)∧-(2 ^ 63)≤k∧k < 2 ^ 63∧xs.length * k.toNat≤sizeLine∧
 ∀ p,H p=none→Q (.ref p) (upd H p (.lst (List.replicate k.toNat xs).flatten))
theorem wd {α:Type} (xs:List α) (k:Nat):(List.replicate k xs).flatten.length=k * xs.length:=by
 induction k with
 | zero=> simp
 | succ k ih=> rw [List.replicate_succ,List.flatten_cons,List.length_append,ih,Nat.succ_mul,Nat.add_comm]
theorem zR:OpR X (binaryOp .Mult) A6:=by
 intro pins s σ H x y v u Q I rx ry h
 obtain ⟨l,k,xs,rfl,rfl,hH,h1,h2,hz,q⟩:=h
 cases rx
 obtain ⟨t,rfl⟩:=ry
 obtain ⟨z,its,n,r,hl,e⟩:=I.lstM hH
 have hlen:its.toArray.size * k.toNat≤sizeLine:=by rw [List.size_toArray,← hl]; exact hz
 have hcap:¬ its.toArray.size * k.toNat > (2 ^ 63 - 1) / 8:=by
  have:(sizeLine:Nat)≤(2 ^ 63 - 1) / 8:=by decide
  omega
 have hfit:¬ (!Builtin.List.listFitsIndex k)=true:=by
  rw [fitsIndex_both h1 h2]
  exact Bool.false_ne_true
 have hlong:¬ Builtin.List.listTooLong (its.toArray.size * k.toNat)=true:=by
  rw [vc hlen]
  exact Bool.false_ne_true
 have hnew:List.foldl (fun x1 x2=> x1++x2) #[] (List.replicate (if its.toArray.isEmpty=true then 0 else k.toNat) its.toArray)=(List.replicate k.toNat its).flatten.toArray:=by
  have f0:∀ m:Nat,List.foldl (fun x1 x2=> x1++x2) #[] (List.replicate m its.toArray)=(List.replicate m its).flatten.toArray:=fun m=> by
   have:=kM its m []
   rw [List.nil_append] at this
   exact this
  rw [f0]
  cases its with
  | nil=> simp
  | cons a r'=> rw [if_neg (by simp)]
 refine wpAny_binaryOp_repeat_ref (T:="list") (U:="int") (by decide) ⟨_,e,rfl⟩ (fun s'=> typeIs_int s' k t) noFill_list_mul F.fills_int_mul F.slot_int_rmul repeat_list F.slot_int_index.lookup
  (call_meets F.slot_int_rmul (typeIs_int s k t) F.entry_int_rmul (F.args_int_rmul_2 _ _) (int___rmul___int_list k t l its.toArray n)
   ⟨e,rfl,⟨_,e,rfl⟩,call_meets F.slot_list_mul ⟨_,e,rfl⟩ F.entry_list_mul (F.args_list_mul_2 _ _) (AutoListH.list___mul___list_int_3 l its.toArray n k t hfit hcap hlong) ⟨e,?_⟩⟩)
 rw [hnew]
 exact ⟨.ref _,_,I.lnew (t':=s.toks) (r.rep k.toNat) (by rw [wd,Nat.mul_comm]; exact hz),rfl,q _ I.fresh⟩
end
section
variable {prog:Program} {w:World} {A:Around} {E:Value→Shared→Prop} {s:Shared}
end
section
variable {X:Cx}
end
end L2
namespace Att
open PySem PySem.W PySem.Calls PyProof.Rows
theorem iR {P:Params} {h:Heap}:∀ (ns:List Int) (vs:List Value),WellAll P h vs (ns.map WData.int)→IntsAre vs ns:=by
 intro ns
 induction ns with
 | nil=>
  intro vs w
  rw [List.map_nil] at w
  cases w
  exact .nil
 | cons n ns ih=>
  intro vs w
  rw [List.map_cons] at w
  cases w with
  | cons a b=>
   cases a
   exact .cons _ _ (ih _ b)
theorem script_of {l:OpenLaw} {n:Nat} (hn:l.most=some n) {P:Params} {h:Heap} {args:List WData} {vals:List Value}
  (hpre:l.row.toRowW.claim.pre args=true) (hwl:WellAll P h vals args):
  ∃ a vs ns,vals=[Value.ref a]∧args=[WData.list (ns.map WData.int)]∧h.get? a=some { cls:=.type "list",data:=.seq vs.toArray }∧IntsAre vs ns∧ns.length≤n:=by
 have hsh:WShape.hasAll [] args [.list .int]=true:=(pre_splitW hpre).1
 have hc:l.pre.holds [] { args:=args }=true:=(pre_splitW hpre).2
 obtain ⟨d,r,rfl,h1,h2⟩:=hasAllW_cons hsh
 obtain rfl:=hasAllW_nil h2
 obtain ⟨xs,rfl,h3⟩:=hasW_list h1
 obtain ⟨ns,rfl⟩:=items_int h3
 have hlen:ns.length≤n:=by
  unfold OpenLaw.pre at hc
  have h4:(WTm.not (.lt (.lit (.int (n:Int))) (.len (.arg 0)))).holds [] { args:=[.list (ns.map .int)] }=true:=by
   have h4:=(holds_andW hc).1
   rw [hn] at h4
   exact h4
  have h5:=condW_of h4 (w_not (w_lt w_lit (w_len_list (w_arg rfl))))
  rw [List.length_map] at h5
  refine Nat.le_of_not_lt fun q=> ?_
  have q':(n:Int) < ((ns.length:Nat):Int):=by omega
  first
   | (rw [decide_eq_true q'] at h5; exact absurd h5 (by decide))
   | (simp at h5; omega)
 cases hwl with
 | cons w1 w2=>
  cases w2
  cases w1 with
  | list ho hall=> exact ⟨_,_,ns,rfl,rfl,ho,iR ns _ hall,hlen⟩
theorem post_true (l:OpenLaw) (args:List WData):l.row.toRowW.claim.post args (.bool true) args=true:=
 postW_of (r:=l.row.toRowW) (X:=(true==true))
  (show WShape.has [] (.bool true) .bool=true by first | rfl | decide | simp [WShape.has,WShape.arms,WShape.armsAll])
  (show (WTm.eq .res (.lit (.bool true))).value [] { args:=args,res:=some (.bool true),after:=args }=some (.bool (true==true)) from w_eq_bool (w_res rfl) w_lit) rfl
section
variable {prog:Program} {w:World} {A:Around} {E:Value→Shared→Prop} {s:Shared} {K:Frag}
end
end Att
namespace L2
open PySem PySem.Spec PyProof.Rows
theorem km:∀ {vs:List Value} {ns:List Int},IntsAre vs ns→aI (ns.map V.int) vs
 | _,_,.nil=> .nil
 | _,_,.cons n t h=> .cons ⟨t,rfl⟩ (km h)
def wR (H:Hp):Prop:=∀ b,H b=none∨∃ o xs,H b=some (.frz o (.lst xs))
theorem ur {P:Program} {w:World} {K:PySem.W.Frag} {mg mb:Str→Option Value} {CX:CXT} {k:Nat} {fa a:Addr} {fd:FuncData} {x:Str} {sp:Sp} {s₁:Shared} {vs:List Value} {ns:List Int}
  (KX:K.In s₁.heap) (hns:s₁.heap.Ns mainGlobals mg) (hb:s₁.heap.Ns builtinsNs mb) (hbb:∀ x:Str,x≠"__name__"→mb x=bootBuiltins x) (hlim:s₁.heap.NoLimit) (hg:s₁.gens=#[])
  (ha:s₁.heap.get? a=some { cls:=.type "list",data:=.seq vs.toArray }) (hi:IntsAre vs ns) (hl:ns.length≤sizeLine) (hr:bJ k callerA)
  (F:∀ base:Heap,K.In base→base.Ns mainGlobals mg→ba P w K mg base CX k fa fd [x] sp) (hbind:∀ (s:Shared) (u:Value),BindsTo s fd ⟨[u],[]⟩ [(x,u)])
  (hsp:∀ H:Hp,wR H→SqL K H a (ns.map V.int)→sp [.ref a] H (fun v _=> v=.bl true) fun _ _ _=> False)
  (hCX:∀ H e s',CX [] H s₁ (fun _ _ _=> False) e s'→False):
  codeAny (model P w) callerA (.call (.ref fa) ⟨[.ref a],[]⟩) (fun r s'=> r=.ok (.ret (.bool true))∧OldK s₁.heap s'.heap∧s'.os=s₁.os∧AllBare s'.gens) s₁:=by
 have rv:=km hi
 have lenV:=hi.length
 have core:∀ H:Hp,wR H→SqL K H a (ns.map V.int)→HOk P w H s₁.heap→(∀ b,H b≠none→b=a)→(H a≠none→K.lookup a=none)→
   codeAny (model P w) callerA (.call (.ref fa) ⟨[.ref a],[]⟩) (fun r s'=> r=.ok (.ret (.bool true))∧OldK s₁.heap s'.heap∧s'.os=s₁.os∧AllBare s'.gens) s₁:=by
  intro H hO hS hok hA hK
  have base_of:∀ {b:Addr} {o:Obj},s₁.heap.get? b=some o→H b=none→(lf s₁.heap H).get? b=some o:=fun e n=> uf e n
  have noA:∀ {b:Addr} {o:Obj} {es:Array DictEntry} {ep:Nat},s₁.heap.get? b=some o→o.data=.dict es ep→H b=none:=fun {b o es ep} e d=> by
   cases q:H b with
   | none=> rfl
   | some u=>
    have e':b=a:=hA b (by rw [q]; simp)
    subst e'
    rw [ha] at e; cases e
    have d':Data.seq vs.toArray _=Data.dict es ep:=d
    cases d'
  have nsK:∀ {b:Addr} {m:Str→Option Value},s₁.heap.Ns b m→(lf s₁.heap H).Ns b m:=fun {b m} ⟨o,es,ep,e,d,r⟩=> ⟨o,es,ep,base_of e (noA e d),d,r⟩
  have hKb:K.In (lf s₁.heap H):=fun b o e=> base_of (KX b o e) (by
   cases q:H b with
   | none=> rfl
   | some u=>
    have e':b=a:=hA b (by rw [q]; simp)
    subst e'
    rw [hK (by rw [q]; simp)] at e; cases e)
  have hM:Mod K mg (lf s₁.heap H):=⟨hKb,nsK hns,⟨mb,nsK hb,hbb⟩,let ⟨mc,h1,h2⟩:=hlim; ⟨mc,nsK h1,h2⟩⟩
  have e0:nD P w K mg (lf s₁.heap H) callerA [] s₁ H:=⟨rfl,hM,fun b o e=> v4 e,Nat.le_of_eq (sH _ _),trivial,fun b hb=> absurd (show b∈([]:List Addr) from hb) (by simp),hok,.of_eq hg⟩
  refine codeAny_mono ((F _ hKb (nsK hns)).run callerA [] s₁ H ⟨[.ref a],[]⟩ [.ref a] [.ref a] _ _ hr e0 (hbind s₁ (.ref a)) (.cons rfl .nil) (hsp H hO hS)) fun r s' h=> ?_
  cases r with
  | error e=> exact (hCX H e s' h).elim
  | ok fl=>
   cases fl with
   | next=> exact False.elim h
   | brk=> exact False.elim h
   | cont=> exact False.elim h
   | ret u=>
    obtain ⟨v,H',os,bare,un,hok',r',q⟩:=h
    have q':v=.bl true:=q
    subst q'
    obtain rfl:u=Value.bool true:=r'
    refine ⟨rfl,OldK.of_keep fun b o e=> ?_,os,bare⟩
    cases q:H b with
    | none=> exact un.keep b o e q (by intro z; exact absurd (show b∈([]:List Addr) from z) (by simp)) (by simp)
    | some u=>
     rcases hO b with z | ⟨ob,xs,z⟩
     ·rw [q] at z; cases z
     ·have z2:=un.frzs b ob _ z
      obtain ⟨e1,_⟩:=hok b _ z
      obtain ⟨e2,_⟩:=hok' b _ z2
      rw [e] at e1; cases e1
      exact e2
 cases hk:K.lookup a with
 | some o=>
  have e:=KX a o hk
  rw [ha] at e
  cases e
  refine core (fun _=> none) (fun _=> .inl rfl) (.inr ⟨_,vs.toArray,_,hk,rfl,rfl,rfl,by rw [List.size_toArray,lenV]; exact hl,by simpa using rv⟩) (fun b u z=> by have z':(none:Option HO)=some u:=z; cases z') (fun b z=> absurd rfl z) fun z=> absurd rfl z
 | none=>
  refine core (fun b=> if b=a then some (.frz { cls:=.type "list",data:=.seq vs.toArray } (.lst (ns.map V.int))) else none) (fun b=> ?_) (.inl (.inr ⟨{ cls:=.type "list",data:=.seq vs.toArray },if_pos rfl⟩)) (fun b u z=> ?_) (fun b z=> ?_) fun _=> hk
  ·by_cases hb:b=a
   ·exact .inr ⟨_,_,if_pos hb⟩
   ·exact .inl (if_neg hb)
  ·by_cases hb:b=a
   ·have z':=(if_pos hb).symm.trans z
    cases z'
    subst hb
    exact ⟨ha,by rw [List.length_map]; exact hl,vs,_,rv,ha⟩
   ·have z':=(if_neg hb).symm.trans z
    cases z'
  ·by_cases hb:b=a
   ·exact hb
   ·exact absurd (if_neg hb) z
end L2
namespace L2
open PySem PySem.Spec PyProof.Rows
abbrev KOf {K:PySem.W.Frag} {h:Heap} (_:K.In h):PySem.W.Frag:=K
end L2
/- THE LAST THEOREM (shape; LID,My.* are yours):
   My.Adr:a structure of the addresses that your layer names (classes,functions); My.Txt K t:a structure (Prop) of the equations over K;
   My.txt_mk:{K} {implicit addresses ..} (e1:nsIn K mainGlobals "law"=some (some (.ref f))) (e2:K.lookup f=some ⟨oc,od,.func (fnOf "law" "law" params body scope dV kV doc pm an cdv ct),sl⟩) (e3:codeIn K cdv "law"=true) ..:∃ t,My.Txt K t
set_option maxRecDepth 100000 in
set_option maxHeartbeats 0 in
theorem PySem.Challenge.cw_LID_holds : PySem.Challenge.rw_LID.Holds := by
 w_on; o_law; k_head; (case hw=> w_witness2)
 k_fill
 refine L2.walk_of (l:=PySem.Challenge.rw_LID) (n:=63) (k:=40) (x:="script") (CX:=fun w=> ..) (sp:=fun _=> My.sp_law) rfl (by decide) rfl ⟨rfl,by decide,by decide⟩ (fun w h Y=> PySem.W.kIn_of Y) ?F ?S ?C
 case F=>
  intro w mg fa h KX G hmg
  have T:∃ t,My.Txt (L2.KOf KX) t:=by
   dsimp only [L2.KOf]                          -- K must stand as «<heap const> w.params» for k_is
   refine' My.txt_mk ?e1 ?e2 ?e3 ..
   (case e1=> PySem.W.k_is)                    -- in the order:a name -> its address -> its object -> its parts
   (case e2=> PySem.W.k_is)
   ..
  obtain ⟨t,T⟩:=T
  have e0:=hmg.symm.trans (PySem.W.mg_of KX G T.law)
  cases e0                                       -- fa is the law's own address
  exact ⟨_,fun s u=> .of_eq rfl,fun base kb nb=> My.law_fn T kb nb⟩     -- if «.of_eq rfl» comes too early:refine' ⟨_,?b,fun base kb nb=> My.law_fn T kb nb⟩; exact fun s u=> .of_eq rfl
 case S=> exact fun w H a ns hl hO hS=> ..
 case C=> exact ..
(the tactic k_is has no namespace:write k_is) -/
namespace L2
open PySem PySem.Spec PyProof.Rows
def au (s:Stmt):Arguments:=match s with
 | .FunctionDef _ a _ _ _ _ _ _ _ _=> a
 | _=> { posonlyargs:=[],args:=[],vararg:=none,kwonlyargs:=[],kw_defaults:=[],kwarg:=none,defaults:=[] }
def ao (s:Stmt):List Stmt:=match s with
 | .FunctionDef _ _ b _ _ _ _ _ _ _=> b
 | _=> []
def af (s:Stmt):Scope:=match s with
 | .FunctionDef _ _ _ _ _ _ sc _ _ _=> sc
 | _=> { kind:=.function,names:=[],isGenerator:=false,isCoroutine:=false }
abbrev CX0:CXT:=fun _ _ _ _ _ _=> False
abbrev E0:XK:=fun _ _ _=> False
structure Fun (K:PySem.W.Frag) (x qual:Str) (st:Stmt) (f:Addr) (fd:FuncData):Prop where
 ex:∃ (oc:Value) (od:Option Addr) (kV doc pm:Value) (an:Option Addr) (cdv ct:Value) (osl:Array (Option Value)),
  fd=PySem.W.fnOf x qual (au st) (ao st) (af st) .none kV doc pm an cdv ct∧K.lookup f=some ⟨oc,od,.func fd,osl⟩∧PySem.W.codeIn K cdv qual=true
 kp:PySem.W.keepIn K (.ref f)=true
section
variable {P:Program} {w:World} {K:PySem.W.Frag} {mg:Str→Option Value} {base:Heap}
theorem Fun.binds {x qual:Str} {st:Stmt} {f:Addr} {fd:FuncData} {ps:List Str} (F:Fun K x qual st f fd)
  (h:∀ (kV doc pm:Value) (an:Option Addr) (cdv ct:Value) (us:List Value),us.length=ps.length→bindArgs (PySem.W.fnOf x qual (au st) (ao st) (af st) .none kV doc pm an cdv ct) ⟨us,[]⟩=pure (ps.zip us)):aH K fd ps []:=by
 obtain ⟨oc,od,kV,doc,pm,an,cdv,ct,osl,rfl,lk,hcd⟩:=F.ex
 exact .all (h kV doc pm an cdv ct)
theorem aP {x qual:Str} {st:Stmt} {f:Addr} {oc:Value} {od an:Option Addr} {osl:Array (Option Value)} {kV doc pm cdv ct:Value} (l:K.lookup f=some ⟨oc,od,.func (PySem.W.fnOf x qual (au st) (ao st) (af st) .none kV doc pm an cdv ct),osl⟩)
  (c:PySem.W.codeIn K cdv qual=true) (k:PySem.W.keepIn K (.ref f)=true):Fun K x qual st f (PySem.W.fnOf x qual (au st) (ao st) (af st) .none kV doc pm an cdv ct):=⟨⟨oc,od,kV,doc,pm,an,cdv,ct,osl,rfl,l,c⟩,k⟩
end
theorem ap {n:Nat} (h:n≤1000):n < sizeLine:=Nat.lt_of_le_of_lt h (by decide)
section
variable {X:Cx}
end
theorem ln {A B:Prop} (h:B):if false=true then A else B:=by
 rw [if_neg Bool.false_ne_true]
 exact h
theorem nT {A B:Prop} (h:A):if true=true then A else B:=by
 rw [if_pos rfl]
 exact h
def aC (H H':Hp):Prop:=∀ b o,H b=some o→H' b=some o
theorem aC.refl (H:Hp):aC H H:=fun _ _ h=> h
theorem aC.trans {H H1 H2:Hp} (a:aC H H1) (b:aC H1 H2):aC H H2:=fun c o h=> b c o (a c o h)
theorem aC.free {H H':Hp} (e:aC H H') {l:Addr} (h:H' l=Option.none):H l=Option.none:=by
 cases q:H l with
 | none=> rfl
 | some o=>
  rw [e l o q] at h
  cases h
theorem aC.seq {K:PySem.W.Frag} {H H':Hp} {a:Addr} {xs:List V} (e:aC H H') (h:SqL K H a xs):SqL K H' a xs:=by
 rcases h with (h | ⟨o,h⟩) | h
 ·exact .inl (.inl (e _ _ h))
 ·exact .inl (.inr ⟨o,e _ _ h⟩)
 ·exact .inr h
end L2
namespace L2
open PySem PySem.Spec PyProof.Rows
def Sz (m:Nat) (x:Int):Prop:=x.natAbs < 2 ^ m
theorem Sz.mono {m n:Nat} {x:Int} (h:Sz m x) (hmn:m≤n):Sz n x:=Nat.lt_of_lt_of_le h (Nat.pow_le_pow_right (by decide) hmn)
theorem Sz.neg {m:Nat} {x:Int} (h:Sz m x):Sz m (-x):=by unfold Sz at *; rw [Int.natAbs_neg]; exact h
theorem Sz.add {m:Nat} {x y:Int} (hx:Sz m x) (hy:Sz m y):Sz (m+1) (x+y):=by
 unfold Sz at *
 have:=Int.natAbs_add_le x y
 rw [Nat.pow_succ]; omega
theorem Sz.sub {m:Nat} {x y:Int} (hx:Sz m x) (hy:Sz m y):Sz (m+1) (x - y):=by
 rw [Int.sub_eq_add_neg]; exact hx.add hy.neg
theorem Sz.mul {m n:Nat} {x y:Int} (hx:Sz m x) (hy:Sz n y):Sz (m+n) (x * y):=by
 unfold Sz at *
 rw [Int.natAbs_mul,Nat.pow_add]
 exact Nat.mul_lt_mul'' hx hy
theorem Sz.le {m:Nat} {x y:Int} (h:x.natAbs≤y.natAbs) (hy:Sz m y):Sz m x:=Nat.lt_of_le_of_lt h hy
theorem Sz.emod {m:Nat} {x y:Int} (h0:0 < y) (hy:Sz m y):Sz m (x % y):=by
 have h1:=Int.emod_nonneg x (show y≠0 by omega)
 have h2:=Int.emod_lt_of_pos x h0
 exact Sz.le (by omega) hy
instance (m:Nat) (x:Int):Decidable (Sz m x):=inferInstanceAs (Decidable (x.natAbs < 2 ^ m))
theorem Sz.add' {m n:Nat} {x y:Int} (hx:Sz m x) (hy:Sz n y):Sz (max m n+1) (x+y):=(hx.mono (Nat.le_max_left m n)).add (hy.mono (Nat.le_max_right m n))
theorem Sz.sub' {m n:Nat} {x y:Int} (hx:Sz m x) (hy:Sz n y):Sz (max m n+1) (x - y):=(hx.mono (Nat.le_max_left m n)).sub (hy.mono (Nat.le_max_right m n))
theorem Sz.lit {m:Nat} {x:Int} (h:Sz m x):Sz m x:=h
theorem Sz.ok {m n:Nat} {x y:Int} (hx:Sz m x) (hy:Sz n y) (h:m+n≤134217728):IntMulOk x y:=
 PyProof.Rows.mulOk_of_bits (intBits_le_iff.mpr hx) (intBits_le_iff.mpr hy) h
theorem Sz.log {m:Nat} {x:Int} (h:Sz m x) (hm:m≤9000) (h0:x≠0):x.natAbs.log2 < 9000:=by
 have q:=(Nat.log2_lt (by omega)).mpr (show x.natAbs < 2 ^ m from h)
 omega
def xY (_ j:Int):Prop:=0 < j∧Sz 9000 j
section
variable {X:Cx} {a b c:Expr} {ta tb tc:TE} {pos:Pos}
theorem wW:OpR X (binaryOp .Mult) (rI IntMulOk fun i j=> .int (i * j)):=opI fun _ _ _ _ _ _ _ hc q=> mul_int q hc
theorem sQ:OpR X (binaryOp .FloorDiv) (rI xY fun i j=> .int (i / j)):=opI fun i j _ _ _ _ _ hc q=> by
 have h1:(0:Int) < j:=hc.1
 exact floordiv_int (by omega) (by rw [Int.fdiv_eq_ediv_of_nonneg i (by omega)]; exact q) (.inl (PyProof.noPylong_of_log2 (hc.2.log (by decide) (by omega))))
theorem A0 {x:Str} {n:String} {pos:Pos} (hg:Gl X x) (hm:X.mg x=none) (hv:bootBuiltins x=some (.type n)) (hn:x≠"__name__":=by decide) (hd:(x==("__debug__":Str))=false:=by decide):PE X (.Name x pos) (tC (.ty n)):=
 wa hg hm hv rfl hn hd
end
section
variable {X:Cx}
theorem om:cJ X (.type "int") (fun xs H Q=> ∃ k,xs=[.bl k]∧Q (.int (if k then 1 else 0)) H):=by
 intro pins s σ H xs us Q I r h
 obtain ⟨k,rfl,q⟩:=h
 exact rV pins s σ H _ us Q I r (.inr ⟨k,rfl,q⟩)
end
def Its (lo c:Int) (n:Nat):It:=⟨fun i _=> i < n,fun i H x H'=> H'=H∧x=.int (lo+(i:Nat) * c),fun i _=> n≤i⟩
theorem mW {P:Program} {w:World} {K:PySem.W.Frag} {tg:Expr} (it:Addr) (lo c:Int) (n:Nat):vE P w K tg (Its lo c n) [it] it (fun i h=> IsRangeIter h it (lo+(i:Nat) * c) ((n:Int) - (i:Nat)) c) where
 mem:=by simp
 obj:=fun i h st b hb=> by
  have e:b=it:=by simpa using hb
  subst e
  exact ⟨_,st,fun v z=> by
   have z':Data.fields _=Data.cell v:=z
   cases z'⟩
 keep:=fun i h h' st k=> k it (by simp) _ st
 item:=by
  intro X hP hw hK hc i pins s σ H E I hf st hg
  subst hP hw hK
  obtain ⟨f0,f1,f2,f3,f4,f5⟩:=hf it (by simp)
  have W:=Walks.range (prog:=X.prog) (w:=X.w) (I.ok.hd hc) it lo c n
  refine W.item i s _ _ hg st fun v h' tk hv st' kk=> ?_
  obtain ⟨t,rfl⟩:=hv
  have I1:Inv X pins σ H { s with heap:=h',toks:=tk }:=I.turned (fun b o hb e=> kk b o (by simpa using hb) e) f0 f1 f3 f4 f5
  exact ⟨_,rfl,uT (s:={ s with heap:=h',toks:=tk }) (n:="range_iterator") st' rfl rfl (by decide) ⟨.int (lo+(i:Nat) * c),H,I1,⟨t,rfl⟩,⟨rfl,rfl⟩,st',fun b hb=> (hf b hb).1⟩⟩
 done:=by
  intro X hP hw hK hc i pins s σ H E I hf st hg
  subst hP hw hK
  obtain ⟨f0,f1,f2,f3,f4,f5⟩:=hf it (by simp)
  exact wpAny_pyNext_range_end (I.ok.hd hc) st (by have:n≤i:=hg; omega) fun h' eb=> ⟨rfl,I.turned (t':=s.toks) (fun b o hb e=> eb b o hb e) f0 f1 f3 f4 f5⟩
 self:=fun _ _ _ _ _ st h=> wpAny_pyIter_rangeiter st h
def dZ (i j c:Int):Nat:=if i < j then ((j - i - 1) / c+1).toNat else 0
theorem oV {a b c:Int} (ha:-(2 ^ 60)≤a) (ha':a < 2 ^ 60) (hb:-(2 ^ 60)≤b) (hb':b < 2 ^ 60) (hc:0 < c) (hc':c < 2 ^ 60):Builtin.Range.small a b c=true:=by
 have q1:a < b→(b - a - 1) / c≤b - a - 1:=fun h=> Int.ediv_le_self _ (by omega)
 have q2:a < b→0≤(b - a - 1) / c:=fun h=> Int.ediv_nonneg (by omega) (by omega)
 unfold Builtin.Range.small Builtin.Range.rangeSize
 simp only [Builtin.Range.rangeFitsLong,Bool.and_eq_true,Bool.or_eq_true,decide_eq_true_eq,beq_iff_eq,show c > 0 from hc,if_true]
 split
 ·have:=q1 (by assumption); have:=q2 (by assumption); omega
 ·omega
section
variable {X:Cx} {tg:Expr}
def Ay (ta:TA):TI:=fun σ H R=> ta σ H fun vs H1=> ∃ i j c:Int,vs=[.int i,.int j,.int c]∧(-(2 ^ 60)≤i∧i < 2 ^ 60∧-(2 ^ 60)≤j∧j < 2 ^ 60∧0 < c∧c < 2 ^ 30)∧R (Its i c (dZ i j c)) H1
theorem qP {a b c:Expr} {ta:TA} {p pos:Pos} (hg:Gl X "range") (hm:X.mg "range"=none) (ha:PA X [a,b,c] ta) (hs:starEach [a,b,c] X.env=[(false,eval a X.env),(false,eval b X.env),(false,eval c X.env)]:=by rfl)
  (hs2:starEach [b,c] X.env=[(false,eval b X.env),(false,eval c X.env)]:=by rfl):
  PI X tg (.Call (.Name "range" p) [a,b,c] [] pos) (Ay ta):=by
 intro pins s σ H R I h
 refine Call_ (gs I hg hm boot_range (PyProof.Rows.callWith_type1 (thn (ha pos pins s σ H _ I h) fun us s1 ⟨vs,H1,I1,r1,q1⟩=> ?_) (by rw [hs,hs2]) (by rw [hs2]; rfl)))
 obtain ⟨i,j,k,e,⟨q1,q2,q3,q4,q5,q6⟩,q⟩:=q1
 subst e
 cases r1 with
 | cons r rr=>
  cases rr with
  | cons r' rr=>
   cases rr with
   | cons r'' rr=>
    cases rr
    obtain ⟨t,rfl⟩:=r
    obtain ⟨t',rfl⟩:=r'
    obtain ⟨t'',rfl⟩:=r''
    refine call_range_3 (by omega) ?_ (.inl (PyProof.noPylong_small (by omega)))
    refine wpAny_pyIter_range (IsRange.new ..) (oV q1 q2 q3 q4 q5 (by omega)) ?_
    have I2:Inv X pins σ H1 { s1 with heap:=s1.heap.push { cls:=.type "range",data:=.fields #[.int i t,.int j t',.int k t''] },toks:=s1.toks }:=I1.kept fun b o e=> Heap.get?_push_of_some _ e
    refine ⟨(s1.heap.push { cls:=.type "range",data:=.fields #[.int i t,.int j t',.int k t''] }).objs.size,[(s1.heap.push { cls:=.type "range",data:=.fields #[.int i t,.int j t',.int k t''] }).objs.size],_,_,H1,rfl,
     I2.kept (t':=s1.toks) fun b o e=> Heap.get?_push_of_some _ e,mW _ i k (dZ i j k),?_,fun b hb=> ?_,q⟩
    ·have e1:i+((0:Nat):Int) * k=i:=by simp
     have e2:((dZ i j k:Nat):Int) - ((0:Nat):Int)=Builtin.Range.rangeSize i j k:=by
      unfold dZ Builtin.Range.rangeSize
      rw [if_pos (show k > 0 from q5)]
      by_cases hij:i < j
      ·rw [if_pos hij,if_pos hij]
       have:0≤(j - i - 1) / k:=Int.ediv_nonneg (by omega) (by omega)
       omega
      ·rw [if_neg hij,if_neg hij] <;> omega
     show IsRangeIter _ _ (i+((0:Nat):Int) * k) (((dZ i j k:Nat):Int) - ((0:Nat):Int)) k
     rw [e1,e2]
     exact Heap.get?_push_size _ rfl
    ·have e:b=(s1.heap.push { cls:=.type "range",data:=.fields #[.int i t,.int j t',.int k t''] }).objs.size:=by simpa using hb
     subst e
     exact I2.fpOk (Nat.le_refl _) (I2.hok.fresh (Nat.le_refl _))
end
theorem bg {H:Hp} {p:Addr} (h:H p=none) (o:HO):aC H (upd H p o):=fun b u q=> by rw [aF (cO q h)]; exact q
theorem aC.put {H H':Hp} {l:Addr} (e:aC H H') (h:H l=none) (o:HO):aC H (upd H' l o):=fun b u q=> by rw [aF (cO q h)]; exact e b u q
theorem aC.tup {K:PySem.W.Frag} {H H':Hp} {a:Addr} {xs:List V} (e:aC H H') (h:SqT K H a xs):SqT K H' a xs:=by
 rcases h with (h | ⟨o,h⟩) | h
 ·exact .inl (.inl (e _ _ h))
 ·exact .inl (.inr ⟨o,e _ _ h⟩)
 ·exact .inr h
end L2
namespace L2
open PySem PySem.W PySem.Calls PySem.Spec PyProof.Rows
theorem mB {ns:List Int} (h:WData.layableAll [WData.list (ns.map WData.int)]=true):∀ n∈ns,Sz 1048576 n:=by
 intro n hn
 have h1:=(PySem.W.layableW_arg h) _ (List.mem_singleton.mpr rfl)
 have h2:=PySem.W.layableW_item h1 (WData.int n) (List.mem_map.mpr ⟨n,hn,rfl⟩)
 have h3:=(PySem.W.layableW_iff.mp h2).2.2
 have h4:Builtin.Int.intBits n≤1048576:=by simpa only [WData.weight,Builtin.Int.intBits] using h3
 exact intBits_le_iff.mp h4
theorem lV {l:PySem.W.OpenLaw} {n:Nat} {q:Program} {loose:List Str} {XP:(Str→Option Value)→Heap→Prop} {YP:World→Heap→Prop} {d:DefRec}
  (hn:l.most=some n) (hdf:d.params.defaults=[])
  (call:∀ (w:World) (s₀ s₁:Shared) (mg mb:Str→Option Value) (fa:Addr) (o:Obj) (pm cd doc:Value) (a:Addr) (vs:List Value) (ns:List Int),
   PySem.W.Ground q loose [] XP w s₀ mg mb s₁.heap→YP w s₁.heap→
   s₁.heap.get? fa=some o→o.data=.func (docDef d.name d.params d.body d.scope pm cd doc)→s₁.heap.CodeRec cd d.name→mg d.name=some (.ref fa)→
   s₁.heap.get? a=some { cls:=.type "list",data:=.seq vs.toArray }→IntsAre vs ns→ns.length≤n→(∀ m∈ns,Sz 1048576 m)→s₁.gens=#[]→
   codeAny (model l.prog w) callerA (.call (.ref fa) ⟨[.ref a],[]⟩) (fun r s'=> r=.ok (.ret (.bool true))∧OldK s₁.heap s'.heap∧s'.os=s₁.os∧AllBare s'.gens) s₁):
  PySem.W.WalkO q loose XP YP l.row.toRowW d [] (fun f vs=> PySem.call f vs):=by
 intro w s₀ s₁ mg mb G Y fa o pm cd doc dV kV ho hd hcd hD hmg hg args vals as hpre hlay hrd hwl hlo
 obtain rfl:dV=.none:=PySem.W.Dflts.none hD hdf
 obtain rfl:kV=.none:=PySem.W.Dflts.noKw hD
 obtain ⟨a,vs,ns,rfl,rfl,hobj,hints,hlen⟩:=Att.script_of hn hpre hwl
 refine PySem.W.enter_call (codeAny_mono (call w s₀ s₁ mg mb fa o pm cd doc a vs ns G Y ho (PySem.W.fd_plain hd) hcd hmg hobj hints hlen (mB hlay) hg) fun r s' hq=> ?_)
 obtain ⟨rfl,h2,h3,h4⟩:=hq
 exact ⟨.inl ⟨.bool true,.bool true,[],rfl,fun _=> rfl,.bool true,Att.post_true l _,fun _=> ⟨List.Pairwise.nil,fun _ hm=> (nomatch hm)⟩⟩,h2,h3,h4⟩
theorem walk_ofB {l:PySem.W.OpenLaw} {n k:Nat} {q:Program} {loose:List Str} {XP:(Str→Option Value)→Heap→Prop} {YP:World→Heap→Prop} {d:DefRec} {K:Params→PySem.W.Frag} {CX:CXT} {sp:PySem.W.Frag→Sp} {x:Str}
  (hn:l.most=some n) (hn2:n≤sizeLine) (hdf:d.params.defaults=[]) (hr:bJ k callerA)
  (hY:∀ (w:World) (h:Heap),YP w h→(K w.params).In h)
  (F:∀ (w:World) (mg:Str→Option Value) (fa:Addr) (h:Heap),(K w.params).In h→h.Ns mainGlobals mg→mg d.name=some (.ref fa)→
   ∃ fd:FuncData,(∀ (s:Shared) (u:Value),BindsTo s fd ⟨[u],[]⟩ [(x,u)])∧
    ∀ base:Heap,(K w.params).In base→base.Ns mainGlobals mg→ba l.prog w (K w.params) mg base CX k fa fd [x] (sp (K w.params)))
  (hsp:∀ (K:PySem.W.Frag) (H:Hp) (a:Addr) (ns:List Int),ns.length≤n→(∀ m∈ns,Sz 1048576 m)→wR H→SqL K H a (ns.map V.int)→sp K [.ref a] H (fun v _=> v=.bl true) fun _ _ _=> False)
  (hCX:∀ (H:Hp) (s:Shared) (e:Value) (s':Shared),CX [] H s (fun _ _ _=> False) e s'→False):
  PySem.W.WalkO q loose XP YP l.row.toRowW d [] (fun f vs=> PySem.call f vs):=by
 refine lV hn hdf fun w s₀ s₁ mg mb fa o pm cd doc a vs ns G Y ho hd hcd hmg hobj hints hlen hbits hg=> ?_
 have KX:=hY w _ Y
 obtain ⟨fd,hb,hF⟩:=F w mg fa _ KX G.T.g hmg
 exact ur KX G.T.g G.T.b G.T.builtins G.T.nolimit hg hobj hints (Nat.le_trans hlen hn2) hr hF hb (fun H hO hS=> hsp _ H a ns hlen hbits hO hS) fun H e s'=> hCX H s₁ e s'
end L2
namespace L2
theorem dM {α:Type} {xs:List α} {k:Int} {i:Nat} {v:α} (e:k=(i:Int)) (h:xs[i]?=some v):atI xs k=some v:=by subst e; exact pZ h
end L2
namespace L2
theorem Sz.natle {m:Nat} {x y:Int} (hy:Sz m y) (h:x.natAbs≤y.natAbs):Sz m x:=Sz.le h hy
end L2
namespace L2
open PySem PySem.Spec PyProof.Rows
abbrev am (X:Cx) (scope:Scope) (cl:List (Str×Addr)) (C:Addr) (s:Shared) (H:Hp) (fp:List Addr):Cx:=
 { X with s₀:=s,H₀:=H,env:=compEnvC scope cl C X.env,outer:=X.stack,ex:=fp,fn:=fun _=> false,pn:=[],xe:=fun _ _=> False }
def mask:List Nat→St→St
 | [],σ=> σ
 | i::is,σ=> mask is (σ.set i none)
theorem eI:∀ (is:List Nat) (σ:St),(mask is σ).length=σ.length
 | [],_=> rfl
 | i::is,σ=> by rw [mask,eI is]; simp
theorem fH:∀ (is:List Nat) (σ:St) (j:Nat) (v:V),(mask is σ)[j]?=some (some v)→σ[j]?=some (some v)∧j ∉ is
 | [],σ,j,v,h=> ⟨h,by simp⟩
 | i::is,σ,j,v,h=> by
  obtain ⟨h1,h2⟩:=fH is _ j v h
  by_cases e:i=j
  ·subst e
   rw [List.getElem?_set] at h1
   simp at h1
  ·rw [List.getElem?_set_ne e] at h1
   exact ⟨h1,by simp [Ne.symm e,h2]⟩
structure bO (X:Cx) (scope:Scope) (cl:List (Str×Addr)) (is:List Nat):Prop where
 clos:closureFor scope X.env=pure cl
 cell:∀ y∈scope.names,y.2≠.cell
 kind:scope.kind=.function
 names:∀ y∈scope.names,y.2=.local→scope.names.lookup y.1=some .local
 cls:∀ x c,cl.lookup x=some c→X.env.cells.lookup x=some c
 free:∀ x,((relabel scope X.env).names.lookup x=some .cell∨(relabel scope X.env).names.lookup x=some .free)→Vis X.env.scope x∧X.env.scope.names.lookup x≠some .local∧∃ c,cl.lookup x=some c
 own:∀ i x,X.N[i]?=some x→(relabel scope X.env).names.lookup x=some .local→i∈is
def vD (J:It) (is:List Nat) (g:TG) (te:TE) (σ:St) (H1:Hp) (l:Addr) (Q:VK):Prop:=
 ∃ W:Nat→Nat→Hp→Prop,(∃ m,W 0 m (upd H1 l (.lst [])))∧∀ i m H2,W i m H2→
  (J.stop i H2∧Q (.ref l) H2)∨(J.go i H2∧∀ x H3,J.yld i H2 x H3→g x (mask is σ) H3 fun σ4 H4=> te σ4 H4 fun y H5=>
   (∀ (j:Nat) (v:V),(mask is σ)[j]?=some (some v)→σ4[j]?=some (some v))∧∃ vs,H5 l=some (.lst vs)∧vs.length < sizeLine∧∃ m',m' < m∧W (i+1) m' (upd H5 l (.lst (vs++[y]))))
def qy (is:List Nat) (g:TG) (te:TE) (σ:St) (Q:VK) (J:It) (H1:Hp):Prop:=∀ l,H1 l=none→vD J is g te σ H1 l Q
def uJ (is:List Nat) (wi:TI) (g:TG) (te:TE):TE:=fun σ H Q=> wi σ H (qy is g te σ Q)
section
variable {X:Cx} {pins:List (Addr×Obj)} {σ:St} {H:Hp} {s:Shared}
theorem iJ {scope:Scope} {cl:List (Str×Addr)} {is:List Nat} {fp:List Addr} {h₁:Heap} {m:Str→Option Value} {t':Nat} (I:Inv X pins σ H s) (B:bO X scope cl is) (hf:∀ b∈fp,ii X pins H b) (hfl:∀ b∈fp,b < s.heap.objs.size)
  (hn:h₁.Ns s.heap.objs.size m) (hk:∀ b o,s.heap.get? b=some o→h₁.get? b=some o):
  Inv (am X scope cl s.heap.objs.size s H fp) [] (mask is σ) H { s with heap:=h₁,toks:=t' }:=by
 refine ⟨⟨I.ok.mod,B.kind,I.ok.glob,I.ok.blt,Nat.le_refl _,fun x y c h1 h2=> I.ok.inj x y c (B.cls x c h1) (B.cls y c h2),fun x hx=> (B.free x hx).2.2,fun x c h=> (by cases h),I.ok.hd,I.ok.frames,.inl rfl,fun b hb=> ⟨Nat.ne_of_lt (hfl b hb),fun x c e=> (hf b hb).2.2.2.2.1 x c (B.cls x c e)⟩,
  I.bs,Nat.le_trans I.ok.bsz I.sz,fun b o e hb=> ?_,fun b hb z=> ?_,I.stack,I.stkFree⟩,rfl,I.bare,Un.kept hk,⟨m,hn,fun i x v h1 h2 h3=> ?_⟩,fun x c e=> ?_,I.hok.fresh (Nat.le_refl _),fun x c e=> I.freeC x c (B.cls x c e),fun p hp=> absurd (show p∈([]:List (Addr×Obj)) from hp) (by simp),I.hok.kept hk,?_⟩
 ·rcases (hf b hb).2.2.2.1 with z | z
  ·exact I.ok.noex b o e z
  ·exact absurd (Nat.lt_of_lt_of_le (Heap.lt_size e) (Nat.le_trans I.ok.bsz z)) (Nat.lt_irrefl _)
 ·rcases List.mem_cons.mp (I.stkSub b z) with e | e
  ·exact (hf b hb).2.1 e
  ·exact (hf b hb).2.2.1 e
 ·obtain ⟨e2,ni⟩:=fH is σ i v h2
  have h3':(relabel scope X.env).names.lookup x=some .local∨(relabel scope X.env).names.lookup x=some .cell∨(relabel scope X.env).names.lookup x=some .free:=h3
  rcases h3' with z | z
  ·exact absurd (B.own i x h1 z) ni
  ·obtain ⟨hv,hnl,c,hc⟩:=B.free x z
   obtain ⟨m0,_,hl⟩:=I.loc
   obtain ⟨u,r,l⟩:=hl i x v h1 e2 hv
   refine ⟨u,r,.inr ⟨z,c,hc,?_⟩⟩
   rcases l with ⟨k,_⟩ | ⟨_,c',hc',o,ho,hd⟩
   ·exact absurd k hnl
   ·have ec:=B.cls x c hc
    rw [hc'] at ec
    cases ec
    exact ⟨o,hk _ _ ho,hd⟩
 ·obtain ⟨v,o,ho,hd⟩:=I.cell x c (B.cls x c e)
  exact ⟨v,o,hk _ _ ho,hd⟩
 ·show (mask is σ).length=X.N.length
  rw [eI]; exact I.len
theorem jU {elt iter tg:Expr} {scope:Scope} {cl:List (Str×Addr)} {pos pos0:Pos} {is:List Nat} {g:TG} {te:TE} {use:Option (Value→Sem Unit)} {Q0:VK} {Q:Value→Shared→Prop} (hc:X.calm=true) (B:bO X scope cl is)
  (hg:∀ C s H fp,PG (am X scope cl C s H fp) tg g) (he:∀ C s H fp,PE (am X scope cl C s H fp) elt te) (hs:∀ x,foldedSetIterable iter X.env x=pure x)
  (I:Inv X pins σ H s) (hi:wpAny (model X.prog X.w) X.A (eval iter X.env) (fun v s1=> wpAny (model X.prog X.w) X.A (pyIter v) (PIE X pins σ tg (qy is g te σ Q0)) X.xe s1) X.xe s)
  (fin:∀ (l C:Addr) (H':Hp) (s':Shared) (m:Str→Option Value),Inv X pins σ H' s'→s'.heap.Ns C m→H' C=none→C≠X.env.locals→C ∉ X.fs→X.s₀.heap.objs.size≤C→(∀ x c,X.env.cells.lookup x=some c→c≠C)→(∀ p∈X.pn++pins,p.1≠C)→Q0 (.ref l) H'→
   compPost (model X.prog X.w) X.A X.xe use Q (.ref l) C (.ok .next) s'):
  wpAny (model X.prog X.w) X.A (comprehension (.ListComp elt [⟨tg,iter,[],0⟩] scope pos) scope X.env pos0 (newList []) false (eval iter X.env) use) Q X.xe s:=by
 refine wpAny_comprehension_free rfl hs B.clos B.kind B.names (thn hi fun xv s1 h1=> thn h1 fun itv s2 h2=> ?_)
 obtain ⟨it,fp,tn,J,H2,e,I2,T,st2,f2,R⟩:=h2
 subst e
 refine wpAny_newObj_type (wpAny_newFunctionEnv B.cell (by intro y hy; simp at hy) (fun h₁ hns hsb=> ?_) B.kind)
 have hl:H2 s2.heap.objs.size=none:=I2.hok.fresh (Nat.le_refl _)
 obtain ⟨W,⟨m0,w0⟩,turn⟩:=R s2.heap.objs.size hl
 have I3:Inv X pins σ (upd H2 s2.heap.objs.size (.lst [])) { s2 with heap:=s2.heap.push { cls:=.type "list",dict:=none,data:=.seq ([]:List Value).toArray } }:=
  I2.laid (t':=s2.toks) (o:=.lst []) (fun b u e=> Heap.get?_push_of_some _ e) (Nat.le_refl _) ⟨Nat.zero_le _,[],0,.nil,Heap.get?_push_size _ rfl⟩
 have hfl:∀ b∈fp,b < s2.heap.objs.size:=fun b hb=> let ⟨o,e,_⟩:=T.obj 0 _ st2 b hb; Heap.lt_size e
 have f3:∀ b∈fp,ii X pins (upd H2 s2.heap.objs.size (.lst [])) b:=fun b hb=> ⟨by rw [aF (Nat.ne_of_lt (hfl b hb))]; exact (f2 b hb).1,(f2 b hb).2⟩
 have kp:∀ b o,(s2.heap.push { cls:=.type "list",dict:=none,data:=.seq ([]:List Value).toArray }).get? b=some o→h₁.get? b=some o:=fun b o e=>
  hsb.extBut b o (Nat.ne_of_lt (Heap.lt_size e)) (Heap.get?_push_of_some _ e)
 have st4:tn 0 h₁:=T.keep 0 _ _ st2 fun b _ o e=> kp b o (Heap.get?_push_of_some _ e)
 have hfl3:∀ b∈fp,b < (s2.heap.push { cls:=.type "list",dict:=none,data:=.seq ([]:List Value).toArray }).objs.size:=fun b hb=> by
  rw [Heap.size_push]; exact Nat.lt_succ_of_lt (hfl b hb)
 have I4:=iJ (t':=s2.toks+([]:List (Str×Value)).length) I3 B f3 hfl3 hns kp
 have loop:codeAny (model X.prog X.w) X.A (.compLoop (.ListComp elt [⟨tg,iter,[],0⟩] scope pos) 0 (.ref it) (.ref s2.heap.objs.size) (compEnvC scope cl (s2.heap.push { cls:=.type "list",dict:=none,data:=.seq ([]:List Value).toArray }).objs.size X.env))
   (compPost (model X.prog X.w) X.A X.xe use Q (.ref s2.heap.objs.size) (s2.heap.push { cls:=.type "list",dict:=none,data:=.seq ([]:List Value).toArray }).objs.size)
   { s2 with heap:=h₁,toks:=s2.toks+([]:List (Str×Value)).length }:=by
  generalize hs3:({ s2 with heap:=s2.heap.push { cls:=.type "list",dict:=none,data:=.seq ([]:List Value).toArray } }:Shared)=s3 at *
  have hC:(s2.heap.push { cls:=.type "list",dict:=none,data:=.seq ([]:List Value).toArray }).objs.size=s3.heap.objs.size:=by rw [← hs3]
  rw [hC]
  have hstat:∀ {H':Hp},(∀ b∈fp,H' b=none)→∀ b∈fp,ii (am X scope cl s3.heap.objs.size s3 (upd H2 s2.heap.objs.size (.lst [])) fp) [] H' b:=fun hn b hb=>
   ⟨hn b hb,(I4.ok.exf b hb).1,I4.ok.exfs b hb,.inl hb,fun x c e=> (I4.ok.exf b hb).2 x c e,fun p hp=> absurd (show p∈([]:List (Addr×Obj)) from hp) (by simp)⟩
  have back:∀ {σ':St} {H':Hp} {pp:List (Addr×Obj)} {s':Shared},Inv (am X scope cl s3.heap.objs.size s3 (upd H2 s2.heap.objs.size (.lst [])) fp) pp σ' H' s'→Inv X pins σ H' s':=fun I'=>
   I3.call' (ch:=fp) I'.os I'.base I'.hok I'.bare fun b hb=> ⟨(f3 b hb).2.2.2.1,(f3 b hb).2.1,(f3 b hb).2.2.2.2.1,(f3 b hb).2.2.2.2.2⟩
  refine codeAny_loop rfl (fun n s'=> ∃ i H',Inv (am X scope cl s3.heap.objs.size s3 (upd H2 s2.heap.objs.size (.lst [])) fp) [] (mask is σ) H' s'∧tn i s'.heap∧(∀ b∈fp,H' b=none)∧W i n H') ?_ m0 ⟨0,_,(by subst hs3; exact I4),st4,fun b hb=> (f3 b hb).1,w0⟩
  rintro n s5 ⟨i,H5,I5,st5,fr5,w5⟩
  show wpAny _ _ ((compTurn (.ListComp elt [⟨tg,iter,[],0⟩] scope pos) 0 (.ref it) (.ref s2.heap.objs.size) (compEnvC scope cl s3.heap.objs.size X.env)).onRaise (fun x=> do noteFrame x (compEnvC scope cl s3.heap.objs.size X.env); theTreesLotGoes x)) _ _ s5
  refine wpAny_noted ?_
  rw [compTurn_list1]
  refine wpAny_bind (wpAny_standAt (wpAny_bind ?_))
  rcases turn i n H5 w5 with ⟨stop,q⟩ | ⟨go,step⟩
  ·refine thn (T.done (am X scope cl s3.heap.objs.size s3 (upd H2 s2.heap.objs.size (.lst [])) fp) rfl rfl rfl hc i [] s5 _ H5 _ I5 (hstat fr5) st5 stop) fun r s6 ⟨hr,I6⟩=> ?_
   subst hr
   refine wpAny_pure ?_
   obtain ⟨m6,hn6,_⟩:=I6.loc
   have hCn:∀ b,b < s3.heap.objs.size→b≠s3.heap.objs.size:=fun b hb=> Nat.ne_of_lt hb
   refine fin _ s3.heap.objs.size H5 s6 m6 (back I6) hn6 I6.free (Nat.ne_of_gt I3.lt) (I3.nofs (Nat.le_refl _)) I3.sz (fun x c e=> ?_) (fun p hp=> ?_) q
   ·obtain ⟨v,z⟩:=I3.cell x c e
    exact Nat.ne_of_lt z.lt
   ·exact Nat.ne_of_lt (Heap.lt_size (I3.pin p hp).1)
  ·refine thn (T.item (am X scope cl s3.heap.objs.size s3 (upd H2 s2.heap.objs.size (.lst [])) fp) rfl rfl rfl hc i [] s5 _ H5 _ I5 (hstat fr5) st5 go) fun r s6 ⟨u,hr,h6⟩=> ?_
   subst hr
   refine wpAny_bind (thn h6 fun _ s7 ⟨x,H7,I7,r7,y7,st7,fr7⟩=> ?_)
   have I7':=I7.pinned (hstat fr7) (T.obj _ _ st7)
   refine wpAny_bind (wpAny_mono (hg _ _ _ _ _ s7 (mask is σ) H7 x u _ I7' r7 (step x H7 y7)) (fun _ s8 ⟨σ8,H8,I8,q8⟩=> ?_) fun _ _ z=> z.elim)
   refine wpAny_bind (wpAny_bind (wpAny_mono (he _ _ _ _ _ s8 σ8 H8 _ I8 q8) (fun v s9 ⟨y,H9,I9,r9,sub,vs,hl9,hz,m',hm,w'⟩=> ?_) fun _ _ z=> z.elim))
   refine wpAny_bind (wpAny_mono (iC (X:=am X scope cl s3.heap.objs.size s3 (upd H2 s2.heap.objs.size (.lst [])) fp) _ s9 σ8 H9 (.ref s2.heap.objs.size) [y] (.ref s2.heap.objs.size) [v] (fun _ H'=> H'=upd H9 s2.heap.objs.size (.lst (vs++[y]))) I9 rfl (.cons r9 .nil) ⟨_,vs,y,rfl,rfl,hl9,hz,rfl⟩) (fun z s10 ⟨zv,H10,I10,_,e10⟩=> ?_) fun _ _ z=> z.elim)
   subst e10
   refine wpAny_pure (wpAny_pure ⟨rfl,m',hm,i+1,_,(I10.unpinned (pins:=[])).weak (by rw [I10.len,eI,I.len]) sub,T.keep _ _ _ st7 fun b hb o e=> (I10.pin (b,o) (List.mem_append_right _ (List.mem_append_right _ (dj hb e)))).1,fun b hb=> ?_,w'⟩)
   obtain ⟨o,e,d⟩:=T.obj _ _ st7 b hb
   exact (I10.pin (b,o) (List.mem_append_right _ (List.mem_append_right _ (dj hb e)))).2.1
 exact codeAny_compStart_list loop (T.self X.A 0 _ _ _ st4 loop)
theorem xu {elt iter tg:Expr} {scope:Scope} {cl:List (Str×Addr)} {pos:Pos} {is:List Nat} {wi:TI} {g:TG} {te:TE} (hc:X.calm=true) (B:bO X scope cl is)
  (hi:PI X tg iter wi) (hg:∀ C s H fp,PG (am X scope cl C s H fp) tg g) (he:∀ C s H fp,PE (am X scope cl C s H fp) elt te) (hs:∀ x,foldedSetIterable iter X.env x=pure x:=by intro _; rfl):
  PE X (.ListComp elt [⟨tg,iter,[],0⟩] scope pos) (uJ is wi g te):=by
 intro pins s σ H Q I h
 rw [eval_ListComp]
 refine jU (use:=none) hc B hg he hs I (hi pins s σ H _ I h) fun l C H' s' m I' hn h1 h2 h3 h4 h5 h6 q=> ⟨m,hn,fun h' hsb=> ?_⟩
 exact ⟨.ref l,H',I'.turned (t':=s'.toks) (fun b o hb e=> hsb.extBut b o hb e) h1 (Ne.symm h2.symm) (.inr h4) h5 h6,rfl,q⟩
end
end L2
namespace L2
open PySem PySem.Spec PyProof.Rows
section
variable {X:Cx}
theorem jp {elt iter tg:Expr} {scope:Scope} {cl:List (Str×Addr)} {pos spos py:Pos} {y:Str} {j:Nat} {is:List Nat} {wi:TI} {g:TG} {te:TE} (hc:X.calm=true) (hN:X.N.Nodup) (hj:X.N[j]?=some y) (hy:Loc X.env.scope y) (B:bO X scope cl is)
  (hi:PI X tg iter wi) (hg:∀ C s H fp,PG (am X scope cl C s H fp) tg g) (he:∀ C s H fp,PE (am X scope cl C s H fp) elt te) (hs:∀ x,foldedSetIterable iter X.env x=pure x:=by intro _; rfl)
  (hsw:swapsWith (.ListComp elt [⟨tg,iter,[],0⟩] scope pos) (some (.Name y py)) spos.line X.env=pure true:=by rfl) (hf:X.fn y=true∨X.env.scope.names.lookup y=some .local:=by first | exact .inl rfl | exact .inr rfl | assumption):
  PS X (.Assign [.Name y py] (.ListComp elt [⟨tg,iter,[],0⟩] scope pos) spos) (vv (uJ is wi g te) (jD j)):=by
 intro pins s σ H D I h
 rw [exec_Assign_Name_used _ _ _ _ hsw]
 refine wpAny_bind (wpAny_standAt (wpAny_bind ?_))
 show wpAny _ X.A (do let _ ← comprehension (.ListComp elt [⟨tg,iter,[],0⟩] scope pos) scope X.env _ (newList []) false (eval iter X.env) (some (assign (.Name y py) X.env))) _ _ s
 refine wpAny_bind (wpAny_mono (jU (Q0:=fun v H'=> D.nx (σ.set j (some v)) H') (use:=some (assign (.Name y py) X.env)) (Q:=fun _ s'=> SP X pins D .next s') hc B hg he hs I (hi pins s σ H _ I h) fun l C H' s' m I' hn h1 h2 h3 h4 h5 h6 q=> ?_) (fun _ s' hq=> wpAny_pure (wpAny_pure hq)) fun _ _ e=> e)
 show wpAny _ X.A (assign (.Name y py) X.env (.ref l)) _ _ _
 refine wpAny_assign_Name (iw I' hN hj hy (v:=.ref l) rfl (fun s2 I2 ⟨a,hsb,ha⟩=> ?_) hf)
 have hCa:C≠a:=by
  rcases ha with e | e
  ·rw [e]; exact h2
  ·exact Ne.symm (h5 _ _ e)
 refine ⟨m,hn.sameBut hsb hCa,fun h' hsb'=> ⟨_,H',I2.turned (t':=s2.toks) (fun b o hb e=> hsb'.extBut b o hb e) h1 h2 (.inr h4) h5 h6,q⟩⟩
end
section
variable {prog:Program} {w:World} {A:Around} {E:Value→Shared→Prop}
theorem kr {it t:Addr} {items:Array Value} (hne:t≠it):∀ (n i:Nat) (s:Shared) (Q:List Value→Shared→Prop),s.heap.IsListIter it t i→s.heap.IsList t items→i+n≤items.size→
  (∀ h',h'.IsListIter it t (i+n)→Heap.SameBut it s.heap h'→Q ((items.toList.drop i).take n) { s with heap:=h' })→wpAny (model prog w) A (draw (.ref it) n) Q E s
 | 0,i,s,Q,hit,_,_,hQ=> by
  show wpAny _ _ (pure []) Q E s
  exact wpAny_pure (by simpa using hQ s.heap hit (Heap.SameBut.refl ..))
 | n+1,i,s,Q,hit,ht,hle,hQ=> by
  have hlt:i < items.size:=by omega
  show wpAny _ _ (pyNext (.ref it) >>=_) Q E s
  refine wpAny_bind (wpAny_pyNext_list_item hit ht (x:=items[i]) (by simp [hlt]) fun h₁ hit₁ hs₁=> ?_)
  refine wpAny_bind (wpAny_holding (kr hne n (i+1) _ _ hit₁ (ht.extBut hs₁.extBut hne) (by omega) fun h₂ hit₂ hs₂=> wpAny_pure ?_))
  have hd:items.toList.drop i=items[i]::items.toList.drop (i+1):=by simp [List.drop_eq_getElem_cons,hlt]
  have:=hQ h₂ (by rw [show i+(n+1)=i+1+n by omega]; exact hit₂) (hs₁.trans hs₂)
  rw [hd,List.take_succ_cons] at this
  exact this
theorem iq {s:Shared} {t:Addr} {items:Array Value} {Q:List Value→Shared→Prop} (hh:A.handled=none) (ht:s.heap.IsList t items)
  (hQ:∀ h',Heap.ExtBut s.heap.objs.size s.heap h'→Q items.toList { s with heap:=h' }):wpAny (model prog w) A (unpackItems (.ref t) items.size none) Q E s:=by
 have hlt:t≠s.heap.objs.size:=by obtain ⟨o,ho,_⟩:=ht; exact Nat.ne_of_lt (Heap.lt_size ho)
 unfold unpackItems
 refine wpAny_bind ?_
 ·unfold notIterableAtAll
  refine wpAny_bind (wpAny_specialOf ht.typeIs PySem.slot_list_iter.lookup ?_)
  refine wpAny_pure ?_
  simp only [Bool.false_eq_true,if_false]
  refine wpAny_bind (wpAny_holding (wpAny_pyIter_list ht ?_))
  refine wpAny_bind (wpAny_holding (kr hlt items.size 0 _ _ ⟨_,Heap.get?_push_size _ rfl,rfl,rfl⟩ (ht.push _) (by omega) fun h₁ hit₁ hs₁=> ?_))
  have hall:List.take items.size (List.drop 0 items.toList)=items.toList:=by
   rw [List.drop_zero]; exact List.take_of_length_le (by simp)
  rw [hall]
  rw [if_neg (by simp)]
  have ht₁:h₁.IsList t items:=(ht.push _).extBut hs₁.extBut hlt
  refine wpAny_bind (wpAny_holding (wpAny_pyNext_list_end hh hit₁ ht₁ (by simp) fun h₂ he₂=> ?_))
  simp only [Option.isSome_none,Bool.false_eq_true,if_false]
  refine wpAny_pure (hQ h₂ fun b o hb e=> he₂ b o hb (hs₁.extBut b o hb (Heap.get?_push_of_some _ e)))
end
section
variable {X:Cx} {pos:Pos}
def Bl (K:PySem.W.Frag) (n:Nat) (t:TGs):TG:=fun v σ H Q=> ∃ a xs,v=.ref a∧SqL K H a xs∧xs.length=n∧t xs σ H Q
theorem yy {es:List Expr} {k:Nat} {t:TGs} {n:Nat} (hc:X.calm=true) (h:PGs X es t)
  (hn:(assignEach es X.env).length=n:=by rfl) (hst:(assignEach es X.env).findIdx? (·.1)=none:=by rfl):PG X (.Tuple es k pos) (Bl X.K n t):=by
 intro pins s σ H v u Q I r hw
 obtain ⟨a,xs,e1,hq,hl,hw⟩:=hw
 subst e1
 cases r
 obtain ⟨its,rv,ht,hz⟩:=I.list hq
 rw [assign_Tuple]
 refine wpAny_bind (wpAny_standAt ?_)
 unfold unpack
 rw [hst,hn,← hl,rv.length,← List.size_toArray]
 refine wpAny_bind (wpAny_holding (iq (I.ok.hd hc) ht.isList fun h' hx=> ?_))
 have I1:Inv X pins σ H { s with heap:=h' }:=I.kept (t':=s.toks) fun b o e=> hx b o (Nat.ne_of_lt (Heap.lt_size e)) e
 exact h pins _ σ H xs _ Q I1 (by simpa using rv) hw
end
end L2
namespace L2
open PySem PySem.Spec PyProof.Rows
def goC (cells:List (Str×Addr)):List (Str×NameKind)→List (Str×Addr)→List (Str×Addr)
 | [],acc=> acc
 | (n,k)::r,acc=> goC cells r (if (k==.free)=true then (n,(cells.lookup n).getD 0)::acc else acc)
theorem pe {env:Env} {scope:Scope} (h:∀ y∈scope.names,y.2=.free→(env.cells.lookup y.1).isSome=true):closureFor scope env=pure (goC env.cells scope.names []):=by
 have all:∀ (names:List (Str×NameKind)) (acc:List (Str×Addr)),(∀ y∈names,y.2=.free→(env.cells.lookup y.1).isSome=true)→
   (forIn names acc (fun x cs=> match x with | (name,kind)=> if (kind==.free)=true then (do let c ← cellOf env name; pure (ForInStep.yield ((name,c)::cs))) else pure (ForInStep.yield cs)):Sem (List (Str×Addr)))=pure (goC env.cells names acc):=by
  intro names
  induction names with
  | nil=> intro acc _; rfl
  | cons y r ih=>
   intro acc hy
   obtain ⟨n,k⟩:=y
   rw [List.forIn_cons]
   by_cases hk:k=.free
   ·subst hk
    have:=hy (n,.free) List.mem_cons_self rfl
    obtain ⟨c,hc⟩:=Option.isSome_iff_exists.mp this
    have e:cellOf env n=pure c:=by unfold cellOf; rw [hc]
    simp only [beq_self_eq_true,if_true,e,pure_bind]
    rw [ih _ fun y hy'=> hy y (List.mem_cons_of_mem _ hy')]
    simp only [goC,beq_self_eq_true,if_true,hc,Option.getD_some]
   ·have hb:(k==NameKind.free)=false:=by simpa using hk
    simp only [hb,Bool.false_eq_true,if_false,pure_bind]
    rw [ih _ fun y hy'=> hy y (List.mem_cons_of_mem _ hy')]
    simp only [goC,hb,Bool.false_eq_true,if_false]
 simp only [closureFor]
 have:=all scope.names [] h
 simpa using this
theorem pT {cells:List (Str×Addr)}:∀ (names:List (Str×NameKind)) (acc:List (Str×Addr)),(∀ y∈names,y.2=.free→(cells.lookup y.1).isSome=true)→(∀ x c,acc.lookup x=some c→cells.lookup x=some c)→
  ∀ x c,(goC cells names acc).lookup x=some c→cells.lookup x=some c
 | [],_,_,ha,x,c,h=> ha x c h
 | (n,k)::r,acc,hy,ha,x,c,h=> by
  rw [goC] at h
  refine pT r _ (fun y hy'=> hy y (List.mem_cons_of_mem _ hy')) (fun x' c' e=> ?_) x c h
  by_cases hk:k=.free
  ·subst hk
   simp only [beq_self_eq_true,if_true] at e
   rw [List.lookup_cons] at e
   by_cases hx:(x'==n)=true
   ·rw [hx] at e
    have hx':x'=n:=by simpa using hx
    obtain ⟨c2,hc2⟩:=Option.isSome_iff_exists.mp (hy (n,.free) List.mem_cons_self rfl)
    simp only [hc2,Option.getD_some] at e
    rw [hx',hc2]; exact e
   ·have:(x'==n)=false:=by simpa using hx
    rw [this] at e
    exact ha x' c' e
  ·have hb:(k==NameKind.free)=false:=by simpa using hk
   rw [hb] at e
   exact ha x' c' e
theorem qb {cells:List (Str×Addr)} {x:Str}:∀ (names:List (Str×NameKind)) (acc:List (Str×Addr)),((x,NameKind.free)∈names∨∃ c,acc.lookup x=some c)→∃ c,(goC cells names acc).lookup x=some c
 | [],_,h=> by
  rcases h with h | h
  ·cases h
  ·exact h
 | (n,k)::r,acc,h=> by
  rw [goC]
  refine qb r _ ?_
  rcases h with h | ⟨c,h⟩
  ·rcases List.mem_cons.mp h with e | h
   ·cases e
    right
    simp
   ·exact .inl h
  ·right
   by_cases hk:k=.free
   ·subst hk
    simp only [beq_self_eq_true,if_true]
    rw [List.lookup_cons]
    cases hx:x==n with
    | true=> exact ⟨_,rfl⟩
    | false=> exact ⟨c,h⟩
   ·have hb:(k==NameKind.free)=false:=by simpa using hk
    rw [hb]; exact ⟨c,h⟩
theorem cZ {env:Env} {x:Str} {kd:NameKind}:∀ {names:List (Str×NameKind)},
  (names.map fun (n,k)=> if (k==NameKind.free && env.scope.kind==.function && env.kindOf n==some .cell) then (n,NameKind.cell) else (n,k)).lookup x=some kd→names.lookup x=some kd∨(kd=.cell∧names.lookup x=some .free)
 | [],h=> by simp at h
 | (n,k)::r,h=> by
  have ih:=@cZ env x kd r
  change List.lookup x ((if (k==NameKind.free && env.scope.kind==.function && env.kindOf n==some .cell)=true then (n,NameKind.cell) else (n,k))::_)=_ at h
  by_cases hc:(k==NameKind.free && env.scope.kind==.function && env.kindOf n==some .cell)=true
  ·rw [if_pos hc] at h
   rw [List.lookup_cons] at h ⊢
   cases hx:x==n with
   | true=>
    rw [hx] at h
    have hk:k=.free:=by
     have:=(Bool.and_eq_true_iff.mp (Bool.and_eq_true_iff.mp hc).1).1
     simpa using this
    subst hk
    have h':some NameKind.cell=some kd:=h
    cases h'
    exact .inr ⟨rfl,rfl⟩
   | false=> rw [hx] at h; exact ih h
  ·rw [if_neg hc] at h
   rw [List.lookup_cons] at h ⊢
   cases hx:x==n with
   | true=> rw [hx] at h; exact .inl h
   | false=> rw [hx] at h; exact ih h
def vC (scope fscope:Scope) (N:List Str) (is:List Nat):Bool:=
 scope.names.all (fun y=> y.2 !=.cell) && scope.names.all (fun y=> y.2 !=.local || scope.names.lookup y.1==some .local) && scope.names.all (fun y=> y.2 !=.free || fscope.names.lookup y.1==some .cell) &&
  (List.range N.length).all fun i=> match N[i]? with | some x=> scope.names.lookup x !=some .local || is.contains i | none=> true
theorem blk {X:Cx} {scope:Scope} (fscope:Scope) (N:List Str) (is:List Nat) (hNN:X.N=N) (hs:X.env.scope=fscope) (hcs:X.env.cells=cellsFrom (X.env.locals+1) fscope.names []) (hk:scope.kind=.function) (h:vC scope fscope N is=true):bO X scope (goC X.env.cells scope.names []) is:=by
 subst hNN
 unfold vC at h
 simp only [Bool.and_eq_true,List.all_eq_true] at h
 obtain ⟨⟨⟨h1,h2⟩,h3⟩,h4⟩:=h
 have f1:∀ y∈scope.names,y.2=.free→fscope.names.lookup y.1=some .cell:=fun y hy e=> by
  have:=h3 y hy
  simp only [Bool.or_eq_true,bne_iff_ne,ne_eq,beq_iff_eq] at this
  exact this.resolve_left fun z=> z e
 have f2:∀ y∈scope.names,y.2=.free→(X.env.cells.lookup y.1).isSome=true:=fun y hy e=> by
  rw [hcs]; exact PySem.W.cellsFrom_some _ _ _ (.inl (f1 y hy e))
 have nc:∀ y∈scope.names,y.2≠.cell:=fun y hy=> by have:=h1 y hy; simpa using this
 refine ⟨pe f2,nc,hk,fun y hy e=> ?_,pT _ _ f2 (fun x c e=> by simp at e),fun x hx=> ?_,fun i x hi hl=> ?_⟩
 ·have:=h2 y hy
  simp only [Bool.or_eq_true,bne_iff_ne,ne_eq,beq_iff_eq] at this
  exact this.resolve_left fun z=> z e
 ·have hf:(x,NameKind.free)∈scope.names:=by
   rcases hx with hx | hx
   ·rcases cZ hx with z | ⟨_,z⟩
    ·exact absurd rfl (nc _ (PySem.mem_of_lookup z))
    ·exact PySem.mem_of_lookup z
   ·rcases cZ hx with z | ⟨z,_⟩
    ·exact PySem.mem_of_lookup z
    ·cases z
  have hc:=f1 _ hf rfl
  refine ⟨.inr (.inl (by rw [hs]; exact hc)),(by rw [hs,show fscope.names.lookup x=some .cell from hc]; intro z; cases z),qb _ _ (.inl hf)⟩
 ·have hi':i < X.N.length:=(List.getElem?_eq_some_iff.mp hi).1
  have:=h4 i (List.mem_range.mpr hi')
  rw [hi] at this
  have hl':scope.names.lookup x=some .local:=by
   rcases cZ hl with z | ⟨z,_⟩
   ·exact z
   ·cases z
  simp only [hl',bne_self_eq_false,Bool.false_or,List.contains_iff_mem] at this
  exact this
end L2
namespace L2
end L2
namespace L2
open PySem PySem.Spec PySem.W PyProof.Rows
def CXF (P:Program) (w:World):CXT:=fun outer H s E e s'=> ∃ (ea:Addr) (cls a0:Value) (B:Heap) (H':Hp),e=.ref ea∧s'.os=s.os∧AllBare s'.gens∧Un (frs outer) [] H H' s.heap s'.heap∧HOk P w H' s'.heap∧H' ea=none∧
 (∀ b o,s.heap.get? b=some o→b ∉ frs outer→H b=none→B.get? b=some o)∧(∀ b u,H' b=some u→∃ o,B.get? b=some o)∧(∀ b o,s.heap.get? b=some o→b ∉ frs outer→∃ o',B.get? b=some o')∧
 Heap.FlyingW B outer ea cls a0 s'.heap∧E cls none H'
theorem ar {P:Program} {w:World} {X:Cx}:bU (CXF P w) X E0:=fun _ _ _ _ _ _ _ h=> by
 obtain ⟨_,_,_,_,_,_,_,_,_,_,_,_,_,_,_,hE⟩:=h
 exact hE.elim
section
variable {P:Program} {w:World} {K:Frag} {mg:Str→Option Value} {base:Heap} {N:List Str} {qual:Str} {scope:Scope} {f:Addr} {cd:Value} {A:Around} {outer:List Env} {s:Shared} {H:Hp} {E:XK}
end
theorem Fun.okF {P:Program} {w:World} {K:Frag} {mg:Str→Option Value} {base:Heap} {x qual:Str} {st:Stmt} {f:Addr} {fd:FuncData} {N ps:List Str} {k:Nat} {sp:Sp} (F:Fun K x qual st f fd) (S:aq N ps (af st)) (len:∀ vs H Q E,sp vs H Q E→vs.length=ps.length)
  (hbody:∀ (cdv:Value) (A:Around) (outer:List Env) (s:Shared) (H:Hp) (vs:List V) (Q:VK) (E:XK),bJ k (A.deeper (envOfC qual (af st) s.heap.objs.size f cdv))→sp vs H Q E→
   ∃ t,PSs (ic (CXF P w) P w K mg base N qual (af st) f cdv A outer s H E) (ao st) t∧t { nx:=fun _ H'=> Q .non H',rt:=Q } (start N vs) H):ba P w K mg base (CXF P w) (k+1) f fd ps sp:=by
 obtain ⟨oc,od,kV,doc,pm,an,cdv,ct,osl,rfl,lk,hcd⟩:=F.ex
 exact Ar lk hcd S len fun A outer s H vs Q E hr hsp=> hbody cdv A outer s H vs Q E hr hsp
end L2
namespace L2
open PySem PySem.Spec PySem.W PyProof.Rows
section
variable {X:Cx} {pins:List (Addr×Obj)} {σ:St} {H:Hp} {s:Shared}
end
section
variable {X:Cx}
end
end L2
namespace L2
open PySem PySem.Spec PyProof.Rows
theorem kl {n:Nat} {e:Nat→Bool}:(List.range n).all e=true↔∀ j,j < n→e j=true:=by
 rw [List.all_eq_true]
 exact ⟨fun h j hj=> h j (List.mem_range.mpr hj),fun h j hj=> h j (List.mem_range.mp hj)⟩
section
variable {X:Cx}
end
end L2
namespace PySem.W
open PySem PySem.Spec PySem.Calls PyProof.Rows PySem.Builtin PySem.Builtin.ObjectAttr PySem.Builtin.Getset_descriptor
section
variable {prog:Program} {w:World} {A:Around} {E:Value→Shared→Prop} {s:Shared} {K:Frag} {x C:Addr}
def OfCls (x C:Addr) (h:Heap):Prop:=∃ o,h.get? x=some o∧o.cls=.ref C
variable (hga:findIn K (.ref C) "__getattribute__"=some (some (.builtin "BaseException.__getattribute__"))) (hgn:findIn K (.ref C) "__getattr__"=some none) (ha:findIn K (.ref C) "__class__"=some (some (.builtin "object.__class__")))
 (hn:specialIn K (.builtin "object.__class__") "__get__"=some (some (.builtin "getset_descriptor.__get__"))) (htk:takesIn K (.builtin "object.__class__")=some true) (hm:mroIn K C (.type "object")=some true) (hmB:mroIn K C (.type "BaseException")=some true)
include ha hn htk hm in
end
structure XcOk (K:Frag) (C:Addr):Prop where
 ga:findIn K (.ref C) "__getattribute__"=some (some (.builtin "BaseException.__getattribute__"))
 gn:findIn K (.ref C) "__getattr__"=some none
 at_:findIn K (.ref C) "__class__"=some (some (.builtin "object.__class__"))
 sp:specialIn K (.builtin "object.__class__") "__get__"=some (some (.builtin "getset_descriptor.__get__"))
 tk:takesIn K (.builtin "object.__class__")=some true
 mo:mroIn K C (.type "object")=some true
 mb:mroIn K C (.type "BaseException")=some true
theorem XcOk.off {x C:Addr} {h:Heap} {o:Obj} {T:String} (I:OfCls x C h) (e:h.get? x=some o) (c:o.cls=.type T):False:=by
 obtain ⟨o',e',c'⟩:=I
 rw [e] at e'; cases e'
 rw [c] at c'; cases c'
end PySem.W
namespace L2
open PySem PySem.Spec PyProof.Rows
inductive TyX where
 | nm (n:String) | xc (C:Addr)
inductive U where
 | non | bl (b:Bool) | int (i:Int) | str (x:Str) | ty (n:TyX) | dic | scr (xs:List U) | tup (xs:List U) | lst (xs:List U)
def U.items:U→Option (List U)
 | .scr xs=> some xs
 | .tup xs=> some xs
 | .lst xs=> some xs
 | _=> none
def hid (H:Hp) (O:List Addr):Hp:=fun b=> if b∈O then none else H b
theorem fk {H:Hp} {O:List Addr} {b:Addr} {o:HO} (h:hid H O b=some o):H b=some o∧b ∉ O:=by
 unfold hid at h
 split at h
 ·cases h
 ·exact ⟨h,by assumption⟩
theorem cE {H:Hp} {O:List Addr} {b:Addr} {o:HO} (h:H b=some o) (n:b ∉ O):hid H O b=some o:=by
 unfold hid; rw [if_neg n]; exact h
theorem aE {H:Hp} {O:List Addr}:aC (hid H O) H:=fun _ _ h=> (fk h).1
theorem aK {H H':Hp} {O:List Addr} (e:aC H H'):aC (hid H O) (hid H' O):=fun _ _ h=> cE (e _ _ (fk h).1) (fk h).2
theorem aR {H:Hp} {O O':List Addr} (e:∀ a∈O',a∈O):aC (hid H O) (hid H O'):=fun _ _ h=> cE (fk h).1 fun z=> (fk h).2 (e _ z)
theorem bn {H H':Hp} {O:List Addr} {a:Addr} (e:aC H H') (n:H a=none):aC (hid H O) (hid H' (a::O)):=fun b o h=> by
 obtain ⟨h1,h2⟩:=fk h
 refine cE (e _ _ h1) fun z=> ?_
 rcases List.mem_cons.mp z with y | y
 ·subst y; rw [n] at h1; cases h1
 ·exact h2 y
theorem gT {H:Hp} {O:List Addr} {a:Addr} {o:HO} (h:a∈O):hid (upd H a o) O=hid H O:=by
 funext b
 unfold hid
 split
 ·rfl
 ·rename_i n
  rw [aF fun e=> n (by rw [e]; exact h)]
inductive Rp (K:PySem.W.Frag) (H:Hp):V→U→Prop where
 | non:Rp K H .non .non
 | bl (b:Bool):Rp K H (.bl b) (.bl b)
 | int (i:Int):Rp K H (.int i) (.int i)
 | str (x:Str):Rp K H (.str x) (.str x)
 | ty (n:String):Rp K H (.ty n) (.ty (.nm n))
 | dic {a:Addr} {kvs:List (Key×V)} (h:H a=some (.dK kvs)):Rp K H (.ref a) .dic
 | xc {a C:Addr} (h:H a=some (.ext (PySem.W.OfCls a C))) (k:PySem.W.XcOk K C):Rp K H (.ref a) (.ty (.xc C))
 | scr {a:Addr} {vs:List V} {xs:List U} (h:SqL K H a vs) (hl:vs.length=xs.length) (hi:∀ (i:Nat) (v:V) (x:U),vs[i]?=some v→xs[i]?=some x→Rp K H v x):Rp K H (.ref a) (.scr xs)
 | tup {a:Addr} {vs:List V} {xs:List U} (h:SqT K H a vs) (hl:vs.length=xs.length) (hi:∀ (i:Nat) (v:V) (x:U),vs[i]?=some v→xs[i]?=some x→Rp K H v x):Rp K H (.ref a) (.tup xs)
 | lst {a:Addr} {vs:List V} {xs:List U} (h:H a=some (.lst vs)) (hl:vs.length=xs.length) (hi:∀ (i:Nat) (v:V) (x:U),vs[i]?=some v→xs[i]?=some x→Rp K H v x):Rp K H (.ref a) (.lst xs)
theorem Rp.same {K:PySem.W.Frag} {H H':Hp} {v:V} {u:U} (e:aC H H') (h:Rp K H v u):Rp K H' v u:=by
 induction h with
 | non=> exact .non
 | bl b=> exact .bl b
 | int i=> exact .int i
 | str x=> exact .str x
 | ty n=> exact .ty n
 | dic h=> exact .dic (e _ _ h)
 | xc h k=> exact .xc (e _ _ h) k
 | scr h hl hi ih=> exact .scr (e.seq h) hl ih
 | tup h hl hi ih=> exact .tup (e.tup h) hl ih
 | lst h hl hi ih=> exact .lst (e _ _ h) hl ih
structure Rps (K:PySem.W.Frag) (H:Hp) (vs:List V) (xs:List U):Prop where
 len:vs.length=xs.length
 at_:∀ (i:Nat) (v:V) (x:U),vs[i]?=some v→xs[i]?=some x→Rp K H v x
theorem Rps.same {K:PySem.W.Frag} {H H':Hp} {vs:List V} {xs:List U} (e:aC H H') (h:Rps K H vs xs):Rps K H' vs xs:=⟨h.len,fun i v x a b=> (h.at_ i v x a b).same e⟩
theorem Rps.nil {K:PySem.W.Frag} {H:Hp}:Rps K H [] []:=⟨rfl,fun i v x h=> by simp at h⟩
theorem Rps.cons {K:PySem.W.Frag} {H:Hp} {v:V} {x:U} {vs:List V} {xs:List U} (h:Rp K H v x) (t:Rps K H vs xs):Rps K H (v::vs) (x::xs):=by
 refine ⟨by simp [t.len],fun i a b h1 h2=> ?_⟩
 cases i with
 | zero=> simp at h1 h2; subst h1; subst h2; exact h
 | succ i=> exact t.at_ i a b (by simpa using h1) (by simpa using h2)
theorem Rps.snoc {K:PySem.W.Frag} {H:Hp} {vs ws:List V} {xs ys:List U} (h:Rps K H vs xs) (t:Rps K H ws ys):Rps K H (vs++ws) (xs++ys):=by
 refine ⟨by simp [h.len,t.len],fun i a b h1 h2=> ?_⟩
 by_cases hi:i < vs.length
 ·rw [List.getElem?_append_left hi] at h1
  rw [List.getElem?_append_left (by rw [← h.len]; exact hi)] at h2
  exact h.at_ i a b h1 h2
 ·have hle:vs.length≤i:=Nat.le_of_not_lt hi
  rw [List.getElem?_append_right hle] at h1
  rw [List.getElem?_append_right (by rw [← h.len]; exact hle),← h.len] at h2
  exact t.at_ _ a b h1 h2
theorem Rps.get {K:PySem.W.Frag} {H:Hp} {vs:List V} {xs:List U} {i:Nat} {x:U} (h:Rps K H vs xs) (e:xs[i]?=some x):∃ v,vs[i]?=some v∧Rp K H v x:=by
 have hi:i < vs.length:=by rw [h.len]; exact (List.getElem?_eq_some_iff.mp e).1
 exact ⟨vs[i],List.getElem?_eq_getElem hi,h.at_ i _ x (List.getElem?_eq_getElem hi) e⟩
theorem Rps.atI {K:PySem.W.Frag} {H:Hp} {vs:List V} {xs:List U} {i:Int} {x:U} (h:Rps K H vs xs) (e:L2.atI xs i=some x):∃ v,L2.atI vs i=some v∧Rp K H v x:=by
 unfold L2.atI at e ⊢
 rw [h.len]
 cases q:ixN xs.length i with
 | none=> rw [q] at e; cases e
 | some j=>
  rw [q] at e
  obtain ⟨v,h1,h2⟩:=h.get (show xs[j]?=some x from e)
  exact ⟨v,h1,h2⟩
theorem Rps.cons_inv {K:PySem.W.Frag} {H:Hp} {vs:List V} {x:U} {xs:List U} (h:Rps K H vs (x::xs)):∃ v ws,vs=v::ws∧Rp K H v x∧Rps K H ws xs:=by
 cases vs with
 | nil=> have:=h.len; simp at this
 | cons v ws=>
  refine ⟨v,ws,rfl,h.at_ 0 v x rfl rfl,by have:=h.len; simpa using this,fun i a b h1 h2=> h.at_ (i+1) a b (by simpa using h1) (by simpa using h2)⟩
theorem Rps.nil_inv {K:PySem.W.Frag} {H:Hp} {vs:List V} (h:Rps K H vs []):vs=[]:=List.length_eq_zero_iff.mp (by rw [h.len]; rfl)
structure DkR (K:PySem.W.Frag) (H:Hp) (kv:List (Key×V)) (kvs:List (Str×U)):Prop where
 len:kv.length=kvs.length
 at_:∀ (i:Nat) (k:Key) (v:V) (x:Str) (u:U),kv[i]?=some (k,v)→kvs[i]?=some (x,u)→k=.inr x∧Rp K H v u
theorem DkR.same {K:PySem.W.Frag} {H H':Hp} {kv:List (Key×V)} {kvs:List (Str×U)} (e:aC H H') (h:DkR K H kv kvs):DkR K H' kv kvs:=⟨h.len,fun i k v x u a b=> ⟨(h.at_ i k v x u a b).1,(h.at_ i k v x u a b).2.same e⟩⟩
inductive Sl where
 | val (u:U) | own (xs:List U) | pin (w:V) (u:U) | dsk (w:Bool) (C a d:Addr) (kvs:List (Str×U))
abbrev PSt:=List (Option Sl)
def vQ (K:PySem.W.Frag) (H:Hp) (O O0:List Addr) (v:V):Sl→Prop
 | .val u=> Rp K (hid H O) v u
 | .own xs=> ∃ a vs,v=.ref a∧a∈O∧a ∉ O0∧H a=some (.lst vs)∧Rps K (hid H O) vs xs
 | .pin w u=> v=w∧Rp K (hid H O) v u
 | .dsk w C a d kvs=> ∃ dx kv,v=.ref a∧d∈O∧(w=true→d ∉ O0)∧H a=some (.ins C dx [("lands",.ref d)])∧H d=some (.dK kv)∧DkR K (hid H O) kv kvs
structure Rs (K:PySem.W.Frag) (H0:Hp) (O0:List Addr) (ps:PSt) (σ:St) (H:Hp) (O:List Addr):Prop where
 same:aC H0 H
 old:∀ a∈O0,a∈O
 new:∀ a∈O,a∈O0∨H0 a=none
 dom:∀ a∈O,H a≠none
 len:σ.length=ps.length
 at_:∀ (i:Nat) (s:Sl),ps[i]?=some (some s)→∃ v,σ[i]?=some (some v)∧vQ K H O O0 v s
 inj:∀ (i j:Nat) (xs ys:List U) (a:Addr),ps[i]?=some (some (.own xs))→ps[j]?=some (some (.own ys))→σ[i]?=some (some (.ref a))→σ[j]?=some (some (.ref a))→i=j
section
variable {K:PySem.W.Frag} {H0 H H':Hp} {O0 O:List Addr} {ps:PSt} {σ:St}
theorem vQ.same {v:V} {s:Sl} (e:aC H H') (h:vQ K H O O0 v s):vQ K H' O O0 v s:=by
 cases s with
 | val u=> exact Rp.same (aK e) h
 | own xs=> obtain ⟨a,vs,h1,h2,h3,h4,h5⟩:=h; exact ⟨a,vs,h1,h2,h3,e _ _ h4,h5.same (aK e)⟩
 | pin w u=> exact ⟨h.1,Rp.same (aK e) h.2⟩
 | dsk w C a d kvs=> obtain ⟨dx,kv,h1,h2,h3,h4,h5,h6⟩:=h; exact ⟨dx,kv,h1,h2,h3,e _ _ h4,e _ _ h5,h6.same (aK e)⟩
theorem Rs.go (R:Rs K H0 O0 ps σ H O) (e:aC H H'):Rs K H0 O0 ps σ H' O:=
 ⟨R.same.trans e,R.old,R.new,fun a ha z=> R.dom a ha (e.free z),R.len,fun i s h=> let ⟨v,h1,h2⟩:=R.at_ i s h; ⟨v,h1,h2.same e⟩,R.inj⟩
theorem bF {α:Type} {xs:List α} {i j:Nat} {y x:α} (h:(xs.set i y)[j]?=some x):(i=j∧x=y)∨(i≠j∧xs[j]?=some x):=by
 by_cases e:i=j
 ·subst e
  rw [List.getElem?_set] at h
  simp at h
  exact .inl ⟨rfl,h.2.symm⟩
 ·rw [List.getElem?_set_ne e] at h
  exact .inr ⟨e,h⟩
theorem fA {α:Type} {xs:List α} {i:Nat} {y:α} (h:i < xs.length):(xs.set i y)[i]?=some y:=by rw [List.getElem?_set]; simp [h]
theorem be {α:Type} {xs:List α} {i:Nat} {y:α} (h:xs[i]?=some y):i < xs.length:=(List.getElem?_eq_some_iff.mp h).1
theorem jS {i:Nat} {u:U} {j:Nat} {xs:List U} (h:(ps.set i (some (.val u)))[j]?=some (some (.own xs))):i≠j∧ps[j]?=some (some (.own xs)):=by
 rcases bF h with ⟨_,e⟩ | h
 ·cases e
 ·exact h
theorem Rs.set {i:Nat} {v:V} {u:U} (R:Rs K H0 O0 ps σ H O) (r:Rp K (hid H O) v u):Rs K H0 O0 (ps.set i (some (.val u))) (σ.set i (some v)) H O:=by
 refine ⟨R.same,R.old,R.new,R.dom,by simp [R.len],fun j s h=> ?_,fun j k xs ys a h1 h2 h3 h4=> ?_⟩
 ·rcases bF h with ⟨e,q⟩ | ⟨n,q⟩
  ·subst e
   cases q
   have hi:=be h
   rw [List.length_set] at hi
   exact ⟨v,fA (by rw [R.len]; exact hi),r⟩
  ·obtain ⟨w,h1,h2⟩:=R.at_ j s q
   exact ⟨w,by rw [List.getElem?_set_ne n]; exact h1,h2⟩
 ·obtain ⟨n1,q1⟩:=jS h1
  obtain ⟨n2,q2⟩:=jS h2
  rw [List.getElem?_set_ne n1] at h3
  rw [List.getElem?_set_ne n2] at h4
  exact R.inj j k xs ys a q1 q2 h3 h4
theorem Rs.drop {i:Nat} {o:Option V} (R:Rs K H0 O0 ps σ H O):Rs K H0 O0 (ps.set i none) (σ.set i o) H O:=by
 have key:∀ {j:Nat} {s:Sl},(ps.set i none)[j]?=some (some s)→i≠j∧ps[j]?=some (some s):=fun {j s} h=> by
  rcases bF h with ⟨_,e⟩ | h
  ·cases e
  ·exact h
 refine ⟨R.same,R.old,R.new,R.dom,by simp [R.len],fun j s h=> ?_,fun j k xs ys a h1 h2 h3 h4=> ?_⟩
 ·obtain ⟨n,q⟩:=key h
  obtain ⟨w,h1,h2⟩:=R.at_ j s q
  exact ⟨w,by rw [List.getElem?_set_ne n]; exact h1,h2⟩
 ·obtain ⟨n1,q1⟩:=key h1
  obtain ⟨n2,q2⟩:=key h2
  rw [List.getElem?_set_ne n1] at h3
  rw [List.getElem?_set_ne n2] at h4
  exact R.inj j k xs ys a q1 q2 h3 h4
theorem Rs.own {i:Nat} {a:Addr} {vs:List V} {xs:List U} (R:Rs K H0 O0 ps σ H O) (e:aC H H') (n:H a=none) (h:H' a=some (.lst vs)) (r:Rps K (hid H' (a::O)) vs xs):
  Rs K H0 O0 (ps.set i (some (.own xs))) (σ.set i (some (.ref a))) H' (a::O):=by
 have na:a ∉ O:=fun z=> R.dom a z n
 have na0:a ∉ O0:=fun z=> na (R.old a z)
 have n0:H0 a=none:=R.same.free n
 have noref:∀ (j:Nat) (ys:List U),ps[j]?=some (some (.own ys))→σ[j]?≠some (some (.ref a)):=fun j ys h1 h2=> by
  obtain ⟨v,h3,b,ws,h4,h5,_⟩:=R.at_ j _ h1
  rw [h2] at h3
  cases h3
  cases h4
  exact na h5
 refine ⟨R.same.trans e,fun b hb=> List.mem_cons_of_mem _ (R.old b hb),fun b hb=> ?_,fun b hb z=> ?_,by simp [R.len],fun j s q=> ?_,fun j k ys zs b h1 h2 h3 h4=> ?_⟩
 ·rcases List.mem_cons.mp hb with y | y
  ·subst y; exact .inr n0
  ·exact R.new b y
 ·rcases List.mem_cons.mp hb with y | y
  ·subst y; rw [h] at z; cases z
  ·exact R.dom b y (e.free z)
 ·rcases bF q with ⟨e',q'⟩ | ⟨ne,q'⟩
  ·subst e'
   cases q'
   have hi:=be q
   rw [List.length_set] at hi
   exact ⟨.ref a,fA (by rw [R.len]; exact hi),a,vs,rfl,List.mem_cons_self,na0,h,r⟩
  ·obtain ⟨w,h1,h2⟩:=R.at_ j s q'
   refine ⟨w,by rw [List.getElem?_set_ne ne]; exact h1,?_⟩
   cases s with
   | val u=> exact Rp.same (bn e n) h2
   | own ys=>
    obtain ⟨b,ws,k1,k2,k3,k4,k5⟩:=h2
    exact ⟨b,ws,k1,List.mem_cons_of_mem _ k2,k3,e _ _ k4,k5.same (bn e n)⟩
   | pin z u=> exact ⟨h2.1,Rp.same (bn e n) h2.2⟩
   | dsk w C b d kvs=> obtain ⟨dx,kv,k1,k2,k3,k4,k5,k6⟩:=h2; exact ⟨dx,kv,k1,List.mem_cons_of_mem _ k2,k3,e _ _ k4,e _ _ k5,k6.same (bn e n)⟩
 ·rcases bF h1 with ⟨e1,q1⟩ | ⟨n1,q1⟩ <;> rcases bF h2 with ⟨e2,q2⟩ | ⟨n2,q2⟩
  ·rw [← e1,← e2]
  ·subst e1
   have hi:=be h3
   rw [List.length_set] at hi
   rw [fA hi] at h3
   cases h3
   rw [List.getElem?_set_ne n2] at h4
   exact absurd h4 (noref k zs q2)
  ·subst e2
   have hi:=be h4
   rw [List.length_set] at hi
   rw [fA hi] at h4
   cases h4
   rw [List.getElem?_set_ne n1] at h3
   exact absurd h3 (noref j ys q1)
  ·rw [List.getElem?_set_ne n1] at h3
   rw [List.getElem?_set_ne n2] at h4
   exact R.inj j k ys zs b q1 q2 h3 h4
theorem Rs.write {i:Nat} {a:Addr} {vs:List V} {xs ys:List U} (R:Rs K H0 O0 ps σ H O) (hp:ps[i]?=some (some (.own xs))) (hs:σ[i]?=some (some (.ref a))) (r:Rps K (hid H O) vs ys):
  Rs K H0 O0 (ps.set i (some (.own ys))) σ (upd H a (.lst vs)) O:=by
 obtain ⟨v,h1,b,ws,h2,h3,h4,h5,h6⟩:=R.at_ i _ hp
 rw [hs] at h1
 cases h1
 cases h2
 have h0:H0 a=none:=(R.new a h3).resolve_left h4
 have eh:hid (upd H a (.lst vs)) O=hid H O:=gT h3
 refine ⟨R.same.put h0 _,R.old,R.new,fun b hb z=> ?_,by simp [R.len],fun j s q=> ?_,fun j k zs us b q1 q2 q3 q4=> ?_⟩
 ·by_cases e:b=a
  ·subst e; rw [aD] at z; cases z
  ·rw [aF e] at z; exact R.dom b hb z
 ·rcases bF q with ⟨e',q'⟩ | ⟨ne,q'⟩
  ·subst e'
   cases q'
   exact ⟨.ref a,hs,a,vs,rfl,h3,h4,aD,by rw [eh]; exact r⟩
  ·obtain ⟨w,k1,k2⟩:=R.at_ j s q'
   refine ⟨w,k1,?_⟩
   cases s with
   | val u=> exact (show Rp K (hid (upd H a (.lst vs)) O) w u by rw [eh]; exact k2)
   | own zs=>
    obtain ⟨b,us,e1,e2,e3,e4,e5⟩:=k2
    subst e1
    have:b≠a:=fun z=> by subst z; exact ne (R.inj i j xs zs b hp q' hs k1)
    exact ⟨b,us,rfl,e2,e3,by rw [aF this]; exact e4,by rw [eh]; exact e5⟩
   | pin z u=> exact ⟨k2.1,by rw [eh]; exact k2.2⟩
   | dsk w C b d kvs=>
    obtain ⟨dx,kv,e1,e2,e3,e4,e5,e6⟩:=k2
    exact ⟨dx,kv,e1,e2,e3,by rw [aF fun z=> by rw [z,h5] at e4; cases e4]; exact e4,by rw [aF fun z=> by rw [z,h5] at e5; cases e5]; exact e5,by rw [eh]; exact e6⟩
 ·have c1:∃ zs',ps[j]?=some (some (.own zs')):=by
   rcases bF q1 with ⟨e,_⟩ | ⟨_,z⟩
   ·subst e; exact ⟨_,hp⟩
   ·exact ⟨_,z⟩
  have c2:∃ zs',ps[k]?=some (some (.own zs')):=by
   rcases bF q2 with ⟨e,_⟩ | ⟨_,z⟩
   ·subst e; exact ⟨_,hp⟩
   ·exact ⟨_,z⟩
  obtain ⟨_,c1⟩:=c1
  obtain ⟨_,c2⟩:=c2
  exact R.inj j k _ _ b c1 c2 q3 q4
def SubP:PSt→PSt→Prop
 | [],[]=> True
 | none::p,_::q=> SubP p q
 | some s::p,t::q=> t=some s∧SubP p q
 | _,_=> False
theorem SubP.at_:∀ {p q:PSt},SubP p q→p.length=q.length∧∀ (i:Nat) (s:Sl),p[i]?=some (some s)→q[i]?=some (some s)
 | [],[],_=> ⟨rfl,fun i s h=> by simp at h⟩
 | none::p,t::q,h=> by
  obtain ⟨h1,h2⟩:=SubP.at_ (p:=p) (q:=q) h
  refine ⟨by simp [h1],fun i s e=> ?_⟩
  cases i with
  | zero=> simp at e
  | succ i=> exact h2 i s (by simpa using e)
 | some s0::p,t::q,h=> by
  obtain ⟨h0,h⟩:=h
  obtain ⟨h1,h2⟩:=SubP.at_ (p:=p) (q:=q) h
  refine ⟨by simp [h1],fun i s e=> ?_⟩
  cases i with
  | zero=> simp at e; subst e; rw [h0]; rfl
  | succ i=> exact h2 i s (by simpa using e)
 | [],_::_,h=> h.elim
 | none::_,[],h=> h.elim
 | some _::_,[],h=> h.elim
theorem Rs.sub {ps':PSt} (R:Rs K H0 O0 ps σ H O) (h:SubP ps' ps):Rs K H0 O0 ps' σ H O:=by
 obtain ⟨h1,h2⟩:=h.at_
 exact ⟨R.same,R.old,R.new,R.dom,R.len.trans h1.symm,fun i s e=> R.at_ i s (h2 i s e),fun i j xs ys a e1 e2=> R.inj i j xs ys a (h2 _ _ e1) (h2 _ _ e2)⟩
end
def Ev (X:Cx) (H0:Hp) (O0:List Addr) (ps:PSt) (e:Expr) (u:U):Prop:=
 PE X e fun σ H Q=> ∃ O,Rs X.K H0 O0 ps σ H O∧∀ v H',aC H H'→Rp X.K (hid H' O) v u→Q v H'
def EvN (X:Cx) (H0:Hp) (O0:List Addr) (ps:PSt) (e:Expr) (xs:List U):Prop:=
 PE X e fun σ H Q=> ∃ O,Rs X.K H0 O0 ps σ H O∧∀ a vs H',aC H H'→H a=none→H' a=some (.lst vs)→Rps X.K (hid H' (a::O)) vs xs→Q (.ref a) H'
def Tt (X:Cx) (H0:Hp) (O0:List Addr) (ps:PSt) (e:Expr) (b:Bool):Prop:=
 PT X e fun σ H Q=> ∃ O,Rs X.K H0 O0 ps σ H O∧∀ H',aC H H'→Q b H'
def Tw (X:Cx) (H0:Hp) (O0:List Addr) (ps:PSt) (e:Expr) (b:Bool):Prop:=
 PW X e fun σ H Q=> ∃ O,Rs X.K H0 O0 ps σ H O∧∀ H',aC H H'→Q b H'
def EvA (X:Cx) (H0:Hp) (O0:List Addr) (ps:PSt) (es:List Expr) (us:List U):Prop:=
 PA X es fun σ H Q=> ∃ O,Rs X.K H0 O0 ps σ H O∧∀ vs H',aC H H'→Rps X.K (hid H' O) vs us→Q vs H'
theorem PE.mono {X:Cx} {e:Expr} {t t':TE} (h:PE X e t) (m:∀ σ H Q,t' σ H Q→t σ H Q):PE X e t':=fun pins s σ H Q I q=> h pins s σ H Q I (m σ H Q q)
theorem PT.mono {X:Cx} {e:Expr} {t t':TT} (h:PT X e t) (m:∀ σ H Q,t' σ H Q→t σ H Q):PT X e t':=fun pins s σ H Q I q=> h pins s σ H Q I (m σ H Q q)
theorem PW.mono {X:Cx} {e:Expr} {t t':TT} (h:PW X e t) (m:∀ σ H Q,t' σ H Q→t σ H Q):PW X e t':=fun wh pins s σ H Q I q=> h wh pins s σ H Q I (m σ H Q q)
theorem PA.mono {X:Cx} {e:List Expr} {t t':TA} (h:PA X e t) (m:∀ σ H Q,t' σ H Q→t σ H Q):PA X e t':=fun pos pins s σ H Q I q=> h pos pins s σ H Q I (m σ H Q q)
theorem PS.mono {X:Cx} {e:Stmt} {t t':TS} (h:PS X e t) (m:∀ D σ H,t' D σ H→t D σ H):PS X e t':=fun pins s σ H D I q=> h pins s σ H D I (m D σ H q)
theorem PSs.mono {X:Cx} {e:List Stmt} {t t':TS} (h:PSs X e t) (m:∀ D σ H,t' D σ H→t D σ H):PSs X e t':=fun pins s σ H D I q=> h pins s σ H D I (m D σ H q)
section
variable {X:Cx} {H0:Hp} {O0:List Addr} {ps:PSt} {a b c e:Expr} {es:List Expr} {pos p:Pos} {u x y:U} {xs ys us:List U} {i j:Int}
theorem EvN.ev (h:EvN X H0 O0 ps e xs):Ev X H0 O0 ps e (.lst xs):=PE.mono h fun σ H Q ⟨O,R,k⟩=> ⟨O,R,fun a vs H' s n h r=> by
 have na:a ∉ O:=fun z=> R.dom a z n
 have less:aC (hid H' (a::O)) (hid H' O):=aR fun b hb=> List.mem_cons_of_mem _ hb
 exact k _ H' s (.lst (cE h na) (r.same less).len (r.same less).at_)⟩
theorem aa (i:Nat) {x:Str} {u:U} (h:ps[i]?=some (some (.val u))) (hN:X.N[i]?=some x:=by rfl) (hv:Vis X.env.scope x:=by first | exact Or.inl rfl | exact Or.inr (Or.inl rfl) | exact Or.inr (Or.inr rfl)) (hd:(x==("__debug__":Str))=false:=by decide)
  (hcd:(x==("__classdict__":Str))=false:=by decide):Ev X H0 O0 ps (.Name x pos) u:=PE.mono (dH hN hv hd hcd) fun σ H Q ⟨O,R,k⟩=> by
 obtain ⟨v,h1,h2⟩:=R.at_ i _ h
 exact ⟨v,h1,k v H (.refl H) h2⟩
theorem ai {i j pos}:Ev X H0 O0 ps (.Constant (.int i) j pos) (.int i):=PE.mono yu fun _ H _ ⟨_,_,k⟩=> k _ H (.refl H) (.int i)
theorem AI {i j pos}:Ev X H0 O0 ps (.Constant (.bool i) j pos) (.bl i):=PE.mono AB fun _ H _ ⟨_,_,k⟩=> k _ H (.refl H) (.bl i)
theorem AZ {j pos}:Ev X H0 O0 ps (.Constant .none j pos) .non:=PE.mono yq fun _ H _ ⟨_,_,k⟩=> k _ H (.refl H) .non
theorem aL {i j pos}:Ev X H0 O0 ps (.Constant (.str i) j pos) (.str i):=PE.mono yE fun _ H _ ⟨_,_,k⟩=> k _ H (.refl H) (.str i)
theorem zj {x:Str} {n:String} {pos:Pos} (hg:Gl X x) (hm:X.mg x=none) (hv:bootBuiltins x=some (.type n)) (hn:x≠"__name__":=by decide) (hd:(x==("__debug__":Str))=false:=by decide):Ev X H0 O0 ps (.Name x pos) (.ty (.nm n)):=
 PE.mono (A0 hg hm hv hn hd) fun _ H _ ⟨_,_,k⟩=> k _ H (.refl H) (.ty n)
theorem two {ta tb:TE} {σ:St} {H:Hp} {Q:VK} {O:List Addr} {r:R2} (R:Rs X.K H0 O0 ps σ H O)
  (ha:∀ σ H Q,(∃ O,Rs X.K H0 O0 ps σ H O∧∀ v H',aC H H'→Rp X.K (hid H' O) v x→Q v H')→ta σ H Q) (hb:∀ σ H Q,(∃ O,Rs X.K H0 O0 ps σ H O∧∀ v H',aC H H'→Rp X.K (hid H' O) v y→Q v H')→tb σ H Q)
  (h:∀ v w H',aC H H'→Rs X.K H0 O0 ps σ H' O→Rp X.K (hid H' O) v x→Rp X.K (hid H' O) w y→r v w H' Q):tOp r ta tb σ H Q:=
 ha σ H _ ⟨O,R,fun v H1 s1 r1=> hb σ H1 _ ⟨O,R.go s1,fun w H2 s2 r2=> h v w H2 (s1.trans s2) (R.go (s1.trans s2)) (r1.same (aK s2)) r2⟩⟩
theorem xN {op:Operator} {g:Int→Int→Int} (ho:OpR X (binaryOp op) (rI0 fun i j=> .int (g i j))) (ha:Ev X H0 O0 ps a (.int i)) (hb:Ev X H0 O0 ps b (.int j)):Ev X H0 O0 ps (.BinOp a op b pos) (.int (g i j)):=
 PE.mono (n4 ho ha hb) fun σ H Q ⟨O,R,k⟩=> two (x:=.int i) (y:=.int j) R (fun _ _ _ z=> z) (fun _ _ _ z=> z) fun v w H' s _ r1 r2=> by
  cases r1; cases r2; exact ⟨i,j,rfl,rfl,k _ H' s (.int _)⟩
theorem pH {op:Operator} {C:Int→Int→Prop} {g:Int→Int→Int} (ho:OpR X (binaryOp op) (rI C fun i j=> .int (g i j))) (ha:Ev X H0 O0 ps a (.int i)) (hb:Ev X H0 O0 ps b (.int j)) (hc:C i j):Ev X H0 O0 ps (.BinOp a op b pos) (.int (g i j)):=
 PE.mono (n4 ho ha hb) fun σ H Q ⟨O,R,k⟩=> two (x:=.int i) (y:=.int j) R (fun _ _ _ z=> z) (fun _ _ _ z=> z) fun v w H' s _ r1 r2=> by
  cases r1; cases r2; exact ⟨i,j,rfl,rfl,hc,k _ H' s (.int _)⟩
theorem dg (ha:Ev X H0 O0 ps a (.int i)) (hb:Ev X H0 O0 ps b (.int j)):Ev X H0 O0 ps (.BinOp a .Add b pos) (.int (i+j)):=xN yK ha hb
theorem cH (ha:Ev X H0 O0 ps a (.int i)) (hb:Ev X H0 O0 ps b (.int j)):Ev X H0 O0 ps (.BinOp a .Sub b pos) (.int (i - j)):=xN yk ha hb
theorem bj (ha:Ev X H0 O0 ps a (.int i)) (hb:Ev X H0 O0 ps b (.int j)) (hc:IntMulOk i j):Ev X H0 O0 ps (.BinOp a .Mult b pos) (.int (i * j)):=pH wW ha hb hc
theorem nM (ha:Ev X H0 O0 ps a (.int i)) (hb:Ev X H0 O0 ps b (.int j)) (hc:xY i j):Ev X H0 O0 ps (.BinOp a .FloorDiv b pos) (.int (i / j)):=pH sQ ha hb hc
theorem eC (ha:Ev X H0 O0 ps a (.int i)) (hb:Ev X H0 O0 ps b (.int j)) (hc:0 < j):Ev X H0 O0 ps (.BinOp a .Mod b pos) (.int (i % j)):=pH yJ ha hb hc
theorem gK (ha:Ev X H0 O0 ps a (.int i)) (hb:Ev X H0 O0 ps b (.int j)) (hc:AO i j):Ev X H0 O0 ps (.BinOp a .Pow b pos) (.int (i ^ j.toNat)):=pH zx ha hb hc
theorem gd (ha:Ev X H0 O0 ps a (.int i)):Ev X H0 O0 ps (.UnaryOp .USub a pos) (.int (-i)):=
 PE.mono (Aw zl ha) fun σ H Q ⟨O,R,k⟩=> ⟨O,R,fun v H' s r=> by cases r; exact ⟨i,rfl,k _ H' s (.int _)⟩⟩
end
end L2
namespace L2
open PySem PySem.Spec PyProof.Rows
mutual
def eqW:U→U→Bool
 | .non,.non=> true
 | .bl a,.bl b=> a==b
 | .bl a,.int j=> (if a then 1 else 0)==j
 | .int i,.bl b=> i==(if b then 1 else 0)
 | .int i,.int j=> i==j
 | .str a,.str b=> a==b
 | .tup xs,.tup ys=> eqWs xs ys
 | .lst xs,.lst ys=> eqWs xs ys
 | .lst xs,.scr ys=> eqWs xs ys
 | .scr xs,.lst ys=> eqWs xs ys
 | .scr xs,.scr ys=> eqWs xs ys
 | _,_=> false
def eqWs:List U→List U→Bool
 | [],[]=> true
 | x::xs,y::ys=> eqW x y && eqWs xs ys
 | _,_=> false
end
mutual
def okU:Nat→U→Bool
 | _,.ty _=> false
 | _,.dic=> false
 | 0,.tup _=> false
 | 0,.lst _=> false
 | 0,.scr _=> false
 | n+1,.tup xs=> okUs n xs
 | n+1,.lst xs=> okUs n xs
 | n+1,.scr xs=> okUs n xs
 | _,_=> true
def okUs:Nat→List U→Bool
 | _,[]=> true
 | n,x::xs=> okU n x && okUs n xs
end
theorem ja:∀ {n:Nat} {xs:List U} {i:Nat} {x:U},okUs n xs=true→xs[i]?=some x→okU n x=true
 | n,[],i,x,_,h=> by simp at h
 | n,y::xs,0,x,h,e=> by simp at e; subst e; simp [okUs] at h; exact h.1
 | n,y::xs,i+1,x,h,e=> by simp [okUs] at h; exact ja (i:=i) h.2 (by simpa using e)
theorem dr:∀ (xs ys:List U),((List.range (min xs.length ys.length)).all (fun j=> eqW (xs.getD j .non) (ys.getD j .non)) && xs.length==ys.length)=eqWs xs ys
 | [],[]=> rfl
 | [],y::ys=> by simp [eqWs]
 | x::xs,[]=> by simp [eqWs]
 | x::xs,y::ys=> by
  have ih:=dr xs ys
  rw [eqWs,← ih]
  simp only [List.length_cons,Nat.succ_min_succ]
  rw [List.range_succ_eq_map,List.all_cons,List.all_map]
  have e:((xs.length+1==ys.length+1))=(xs.length==ys.length):=by simp
  rw [e,Bool.and_assoc]
  rfl
theorem Rp.one {X:Cx} {pins:List (Addr×Obj)} {σ:St} {H:Hp} {s:Shared} (I:Inv X pins σ H s) {v:V} {x:U} (h:Rp X.K H v x):∀ {n:Nat} {y:U},Rp X.K H v y→okU n x=true→eqW x y=true:=by
 have key:∀ {vs ws:List V} {xs ys:List U},vs=ws→vs.length=xs.length→ws.length=ys.length→(∀ (i:Nat) (x y:U),xs[i]?=some x→ys[i]?=some y→eqW x y=true)→eqWs xs ys=true:=fun {vs ws xs ys} e h1 h2 hh=> by
  subst e
  rw [← dr,Bool.and_eq_true,kl]
  refine ⟨fun j hj=> ?_,by simp [← h1,← h2]⟩
  have j1:j < xs.length:=by omega
  have j2:j < ys.length:=by omega
  rw [List.getD_eq_getElem?_getD,List.getElem?_eq_getElem j1,List.getD_eq_getElem?_getD,List.getElem?_eq_getElem j2]
  exact hh j _ _ (List.getElem?_eq_getElem j1) (List.getElem?_eq_getElem j2)
 have key2:∀ {vs:List V} {xs ys:List U} {n:Nat},vs.length=xs.length→(∀ (i:Nat) (v:V) (x:U),vs[i]?=some v→xs[i]?=some x→∀ {n:Nat} {y:U},Rp X.K H v y→okU n x=true→eqW x y=true)→(∀ (i:Nat) (v:V) (y:U),vs[i]?=some v→ys[i]?=some y→Rp X.K H v y)→okUs n xs=true→
   ∀ (i:Nat) (x y:U),xs[i]?=some x→ys[i]?=some y→eqW x y=true:=fun {vs xs ys n} h1 ih hi ok i x y e1 e2=> by
  have hlt:i < vs.length:=by rw [h1]; exact be e1
  exact ih i _ x (List.getElem?_eq_getElem hlt) e1 (hi i _ y (List.getElem?_eq_getElem hlt) e2) (ja ok e1)
 induction h with
 | non=> intro n y q _; cases q; rfl
 | bl b=> intro n y q _; cases q; simp [eqW]
 | int i=> intro n y q _; cases q; simp [eqW]
 | str i=> intro n y q _; cases q; simp [eqW]
 | ty=> intro n y q ok; simp [okU] at ok
 | dic=> intro n y q ok; simp [okU] at ok
 | xc=> intro n y q ok; simp [okU] at ok
 | @scr a vs xs hq hl hi ih=>
  intro n y q ok
  cases n with
  | zero=> simp [okU] at ok
  | succ n=>
   rw [okU] at ok
   cases q with
   | scr hq' hl' hi'=> rw [eqW]; have e:=I.list_inj hq hq'; subst e; exact key rfl hl hl' (key2 hl (fun i v x a b=> ih i v x a b) hi' ok)
   | lst hq' hl' hi'=> rw [eqW]; have e:=I.list_inj hq (SqL.of hq'); subst e; exact key rfl hl hl' (key2 hl (fun i v x a b=> ih i v x a b) hi' ok)
   | xc hq' kk=>
    exfalso
    obtain ⟨_,_,pl,_⟩:=I.list hq
    obtain ⟨o,n,e,c,_⟩:=pl
    exact PySem.W.XcOk.off (I.hok _ _ hq').1 e c
   | dic hq'=>
    exfalso
    obtain ⟨_,_,pl,_⟩:=I.list hq
    obtain ⟨o,n,e,c,_⟩:=pl
    obtain ⟨_,_,_,_,o',_,_,e',ex,_⟩:=I.hok _ _ hq'
    rw [e] at e'; cases e'
    rw [ex.1] at c; exact absurd (Value.type.inj c) (by decide)
   | tup hq' hl' hi'=>
    exfalso
    obtain ⟨_,_,pl,_⟩:=I.list hq
    obtain ⟨_,_,pt,_⟩:=I.tuple hq'
    exact SeqAt.ne_of_list_tuple pl.isList pt rfl
 | @tup a vs xs hq hl hi ih=>
  intro n y q ok
  cases n with
  | zero=> simp [okU] at ok
  | succ n=>
   rw [okU] at ok
   cases q with
   | tup hq' hl' hi'=> rw [eqW]; have e:=I.tuple_inj hq hq'; subst e; exact key rfl hl hl' (key2 hl (fun i v x a b=> ih i v x a b) hi' ok)
   | scr hq' hl' hi'=>
    exfalso
    obtain ⟨_,_,pl,_⟩:=I.list hq'
    obtain ⟨_,_,pt,_⟩:=I.tuple hq
    exact SeqAt.ne_of_list_tuple pl.isList pt rfl
   | lst hq' hl' hi'=>
    exfalso
    obtain ⟨_,_,pl,_⟩:=I.list (SqL.of hq')
    obtain ⟨_,_,pt,_⟩:=I.tuple hq
    exact SeqAt.ne_of_list_tuple pl.isList pt rfl
   | xc hq' kk=>
    exfalso
    obtain ⟨_,_,pt,_⟩:=I.tuple hq
    obtain ⟨o,e,c,_⟩:=pt
    exact PySem.W.XcOk.off (I.hok _ _ hq').1 e c
   | dic hq'=>
    exfalso
    obtain ⟨_,_,pt,_⟩:=I.tuple hq
    obtain ⟨o,e,c,_⟩:=pt
    obtain ⟨_,_,_,_,o',_,_,e',ex,_⟩:=I.hok _ _ hq'
    rw [e] at e'; cases e'
    rw [ex.1] at c; exact absurd (Value.type.inj c) (by decide)
 | @lst a vs xs hq hl hi ih=>
  intro n y q ok
  cases n with
  | zero=> simp [okU] at ok
  | succ n=>
   rw [okU] at ok
   cases q with
   | lst hq' hl' hi'=> rw [eqW]; have e:=I.list_inj (SqL.of hq) (SqL.of hq'); subst e; exact key rfl hl hl' (key2 hl (fun i v x a b=> ih i v x a b) hi' ok)
   | scr hq' hl' hi'=> rw [eqW]; have e:=I.list_inj (SqL.of hq) hq'; subst e; exact key rfl hl hl' (key2 hl (fun i v x a b=> ih i v x a b) hi' ok)
   | tup hq' hl' hi'=>
    exfalso
    obtain ⟨_,_,pl,_⟩:=I.list (SqL.of hq)
    obtain ⟨_,_,pt,_⟩:=I.tuple hq'
    exact SeqAt.ne_of_list_tuple pl.isList pt rfl
   | xc hq' kk=>
    exfalso
    rw [hq] at hq'; cases hq'
   | dic hq'=>
    exfalso
    rw [hq] at hq'; cases hq'
theorem IsU.list {X:Cx} {pins:List (Addr×Obj)} {σ:St} {H:Hp} {s:Shared} (I:Inv X pins σ H s) {a:Addr} {xs:List U} {vs:List V} (h:SqL X.K H a vs) (hl:vs.length=xs.length):∃ its:List Value,aI vs its∧s.heap.IsList a its.toArray∧its.length=xs.length:=by
 obtain ⟨its,r,pl,_⟩:=I.list h
 exact ⟨its,r,pl.isList,by rw [← r.length,hl]⟩
theorem IsU.tup {X:Cx} {pins:List (Addr×Obj)} {σ:St} {H:Hp} {s:Shared} (I:Inv X pins σ H s) {a:Addr} {xs:List U} {vs:List V} (h:SqT X.K H a vs) (hl:vs.length=xs.length):∃ its:List Value,aI vs its∧IsTup s.heap a its.toArray∧its.length=xs.length:=by
 obtain ⟨its,r,pl,_⟩:=I.tuple h
 exact ⟨its,r,pl,by rw [← r.length,hl]⟩
section
variable {X:Cx} {pins:List (Addr×Obj)} {σ:St} {H:Hp} {s:Shared}
theorem cG (I:Inv X pins σ H s) {n:Nat} {vs ws:List V} {xs ys:List U} {its its2:List Value} (r1:aI vs its) (r2:aI ws its2) (hl1:vs.length=xs.length) (hl2:ws.length=ys.length)
  (h1:∀ (i:Nat) (v:V) (x:U),vs[i]?=some v→xs[i]?=some x→Rp X.K H v x) (h2:∀ (i:Nat) (v:V) (x:U),ws[i]?=some v→ys[i]?=some x→Rp X.K H v x) (ok1:okUs n xs=true) (ok2:okUs n ys=true) {A:Around}
  (rc0:∀ (x y:U) (v w:V) (p q:Value),Rp X.K H v x→Rp X.K H w y→aT v p→aT w q→okU n x=true→okU n y=true→SeqAt.RcAt A.in1 s p q (eqW x y)) (hu:A.units+n+1 < cLine)
  (j:Nat) (j1:j < its.length) (j2:j < its2.length):SeqAt.EqAt A.in1 s its[j] its2[j] (eqW (xs.getD j .non) (ys.getD j .non)):=by
 have a1:j < vs.length:=by rw [r1.length]; exact j1
 have a2:j < ws.length:=by rw [r2.length]; exact j2
 have b1:j < xs.length:=by omega
 have b2:j < ys.length:=by omega
 rw [List.getD_eq_getElem?_getD,List.getElem?_eq_getElem b1,List.getD_eq_getElem?_getD,List.getElem?_eq_getElem b2,Option.getD_some,Option.getD_some]
 have R1:=h1 j vs[j] xs[j] (List.getElem?_eq_getElem a1) (List.getElem?_eq_getElem b1)
 have R2:=h2 j ws[j] ys[j] (List.getElem?_eq_getElem a2) (List.getElem?_eq_getElem b2)
 obtain ⟨u1,e1,q1⟩:=r1.get (List.getElem?_eq_getElem a1)
 obtain ⟨u2,e2,q2⟩:=r2.get (List.getElem?_eq_getElem a2)
 rw [List.getElem?_eq_getElem j1] at e1
 rw [List.getElem?_eq_getElem j2] at e2
 cases e1; cases e2
 have o1:=ja ok1 (List.getElem?_eq_getElem b1)
 have o2:=ja ok2 (List.getElem?_eq_getElem b2)
 generalize vs[j]=v at *
 generalize ws[j]=w at *
 generalize its[j]=p at *
 generalize its2[j]=q at *
 generalize xs[j]=x at *
 generalize ys[j]=y at *
 have main:=rc0 x y v w p q R1 R2 q1 q2 o1 o2
 have ref_ref:∀ (a b:Addr),p=.ref a→q=.ref b→SeqAt.EqAt A.in1 s p q (eqW x y):=fun a b ea eb=> by
  subst ea eb
  by_cases e:a=b
  ·subst e
   have e2:v=w:=q1.inj q2
   subst e2
   rw [R1.one I R2 o1]
   exact SeqAt.EqAt.same _
  ·exact SeqAt.EqAt.of_refs e main
 have hu1:A.in1.units < cLine:=by show A.units+1 < _; omega
 cases R1 with
 | non=>
  cases (show p=Value.none from q1)
  cases R2 with
  | non=> cases (show q=Value.none from q2); exact SeqAt.EqAt.same _
  | bl b=> cases (show q=Value.bool b from q2); exact SeqAt.EqAt.none_bool b
  | int i=> obtain ⟨t,rfl⟩:=(show ∃ t,q=Value.int i t from q2); exact SeqAt.EqAt.none_int i t
  | str i=> obtain ⟨t,rfl⟩:=(show ∃ t,q=Value.str i t from q2); exact SeqAt.EqAt.none_str i t
  | ty=> simp [okU] at o2
  | dic=> simp [okU] at o2
  | xc=> simp [okU] at o2
  | scr hq hl hi=> cases q2; obtain ⟨_,_,pl,_⟩:=IsU.list I hq hl; exact SeqAt.EqAt.none_list pl hu1
  | tup hq hl hi=> cases q2; obtain ⟨_,_,pl,_⟩:=IsU.tup I hq hl; exact SeqAt.EqAt.none_tuple pl hu1
  | lst hq hl hi=> cases q2; obtain ⟨_,_,pl,_⟩:=IsU.list I (SqL.of hq) hl; exact SeqAt.EqAt.none_list pl hu1
 | bl c=>
  cases (show p=Value.bool c from q1)
  cases R2 with
  | non=> cases (show q=Value.none from q2); exact SeqAt.EqAt.bool_none c
  | bl b=> cases (show q=Value.bool b from q2); exact SeqAt.EqAt.bool_bool c b
  | int i=> obtain ⟨t,rfl⟩:=(show ∃ t,q=Value.int i t from q2); exact SeqAt.EqAt.bool_int c i t
  | str i=> obtain ⟨t,rfl⟩:=(show ∃ t,q=Value.str i t from q2); exact SeqAt.EqAt.bool_str c i t
  | ty=> simp [okU] at o2
  | dic=> simp [okU] at o2
  | xc=> simp [okU] at o2
  | scr hq hl hi=> cases q2; obtain ⟨_,_,pl,_⟩:=IsU.list I hq hl; exact SeqAt.EqAt.bool_list c pl hu1
  | tup hq hl hi=> cases q2; obtain ⟨_,_,pl,_⟩:=IsU.tup I hq hl; exact SeqAt.EqAt.bool_tuple c pl hu1
  | lst hq hl hi=> cases q2; obtain ⟨_,_,pl,_⟩:=IsU.list I (SqL.of hq) hl; exact SeqAt.EqAt.bool_list c pl hu1
 | int c=>
  obtain ⟨t0,rfl⟩:=(show ∃ t,p=Value.int c t from q1)
  cases R2 with
  | non=> cases (show q=Value.none from q2); exact SeqAt.EqAt.int_none c t0
  | bl b=> cases (show q=Value.bool b from q2); exact SeqAt.EqAt.int_bool c t0 b
  | int i=> obtain ⟨t,rfl⟩:=(show ∃ t,q=Value.int i t from q2); exact SeqAt.EqAt.int_int c t0 i t
  | str i=> obtain ⟨t,rfl⟩:=(show ∃ t,q=Value.str i t from q2); exact SeqAt.EqAt.int_str c t0 i t
  | ty=> simp [okU] at o2
  | dic=> simp [okU] at o2
  | xc=> simp [okU] at o2
  | scr hq hl hi=> cases q2; obtain ⟨_,_,pl,_⟩:=IsU.list I hq hl; exact SeqAt.EqAt.int_list c t0 pl hu1
  | tup hq hl hi=> cases q2; obtain ⟨_,_,pl,_⟩:=IsU.tup I hq hl; exact SeqAt.EqAt.int_tuple c t0 pl hu1
  | lst hq hl hi=> cases q2; obtain ⟨_,_,pl,_⟩:=IsU.list I (SqL.of hq) hl; exact SeqAt.EqAt.int_list c t0 pl hu1
 | str c=>
  obtain ⟨t0,rfl⟩:=(show ∃ t,p=Value.str c t from q1)
  cases R2 with
  | non=> cases (show q=Value.none from q2); exact SeqAt.EqAt.str_none c t0
  | bl b=> cases (show q=Value.bool b from q2); exact SeqAt.EqAt.str_bool c t0 b
  | int i=> obtain ⟨t,rfl⟩:=(show ∃ t,q=Value.int i t from q2); exact SeqAt.EqAt.str_int c t0 i t
  | str i=> obtain ⟨t,rfl⟩:=(show ∃ t,q=Value.str i t from q2); exact SeqAt.EqAt.str_str c t0 i t
  | ty=> simp [okU] at o2
  | dic=> simp [okU] at o2
  | xc=> simp [okU] at o2
  | scr hq hl hi=> cases q2; obtain ⟨_,_,pl,_⟩:=IsU.list I hq hl; exact SeqAt.EqAt.str_list c t0 pl hu1
  | tup hq hl hi=> cases q2; obtain ⟨_,_,pl,_⟩:=IsU.tup I hq hl; exact SeqAt.EqAt.str_tuple c t0 pl hu1
  | lst hq hl hi=> cases q2; obtain ⟨_,_,pl,_⟩:=IsU.list I (SqL.of hq) hl; exact SeqAt.EqAt.str_list c t0 pl hu1
 | ty=> simp [okU] at o1
 | dic=> simp [okU] at o1
 | xc=> simp [okU] at o1
 | @scr a vs xs hq hl hi=>
  cases q1
  obtain ⟨_,_,pl,_⟩:=IsU.list I hq hl
  cases R2 with
  | non=> cases (show q=Value.none from q2); exact SeqAt.EqAt.list_none pl hu1
  | bl b=> cases (show q=Value.bool b from q2); exact SeqAt.EqAt.list_bool b pl hu1
  | int i=> obtain ⟨t,rfl⟩:=(show ∃ t,q=Value.int i t from q2); exact SeqAt.EqAt.list_int i t pl hu1
  | str i=> obtain ⟨t,rfl⟩:=(show ∃ t,q=Value.str i t from q2); exact SeqAt.EqAt.list_str i t pl hu1
  | ty=> simp [okU] at o2
  | dic=> simp [okU] at o2
  | xc=> simp [okU] at o2
  | scr=> exact ref_ref _ _ rfl q2
  | tup=> exact ref_ref _ _ rfl q2
  | lst=> exact ref_ref _ _ rfl q2
 | @lst a vs xs hq hl hi=>
  cases q1
  obtain ⟨_,_,pl,_⟩:=IsU.list I (SqL.of hq) hl
  cases R2 with
  | non=> cases (show q=Value.none from q2); exact SeqAt.EqAt.list_none pl hu1
  | bl b=> cases (show q=Value.bool b from q2); exact SeqAt.EqAt.list_bool b pl hu1
  | int i=> obtain ⟨t,rfl⟩:=(show ∃ t,q=Value.int i t from q2); exact SeqAt.EqAt.list_int i t pl hu1
  | str i=> obtain ⟨t,rfl⟩:=(show ∃ t,q=Value.str i t from q2); exact SeqAt.EqAt.list_str i t pl hu1
  | ty=> simp [okU] at o2
  | dic=> simp [okU] at o2
  | xc=> simp [okU] at o2
  | scr=> exact ref_ref _ _ rfl q2
  | tup=> exact ref_ref _ _ rfl q2
  | lst=> exact ref_ref _ _ rfl q2
 | @tup a vs xs hq hl hi=>
  cases q1
  obtain ⟨_,_,pl,_⟩:=IsU.tup I hq hl
  cases R2 with
  | non=> cases (show q=Value.none from q2); exact SeqAt.EqAt.tuple_none pl hu1
  | bl b=> cases (show q=Value.bool b from q2); exact SeqAt.EqAt.tuple_bool b pl hu1
  | int i=> obtain ⟨t,rfl⟩:=(show ∃ t,q=Value.int i t from q2); exact SeqAt.EqAt.tuple_int i t pl hu1
  | str i=> obtain ⟨t,rfl⟩:=(show ∃ t,q=Value.str i t from q2); exact SeqAt.EqAt.tuple_str i t pl hu1
  | ty=> simp [okU] at o2
  | dic=> simp [okU] at o2
  | xc=> simp [okU] at o2
  | scr=> exact ref_ref _ _ rfl q2
  | tup=> exact ref_ref _ _ rfl q2
  | lst=> exact ref_ref _ _ rfl q2
theorem gG {A:Around} {n:Nat} {a b:Addr} {xs ys:List U} {its its2:List Value} (p1:s.heap.IsList a its.toArray) (p2:s.heap.IsList b its2.toArray) (l1:its.length=xs.length) (l2:its2.length=ys.length) (hu:A.units+n < cLine)
  (he:∀ (j:Nat) (j1:j < its.length) (j2:j < its2.length),SeqAt.EqAt A.in1 s its[j] its2[j] (eqW (xs.getD j .non) (ys.getD j .non))):SeqAt.RcAt A s (.ref a) (.ref b) (eqWs xs ys):=by
 by_cases hl:its.length=its2.length
 ·have:=SeqAt.RcAt.lists (A:=A) (s:=s) (e:=fun j=> eqW (xs.getD j .non) (ys.getD j .non)) p1 p2 (by simpa using hl) (by omega) (fun j h1 h2=> by simpa using he j (by simpa using h1) (by simpa using h2))
  rw [← dr,← l1,← l2,hl,Nat.min_self,beq_self_eq_true,Bool.and_true]
  rwa [List.size_toArray,hl] at this
 ·have:=SeqAt.RcAt.lists_lengths (A:=A) (s:=s) p1 p2 (by simpa using hl) (by omega)
  rw [← dr,← l1,← l2,show (its.length==its2.length)=false by simpa using hl,Bool.and_false]
  exact this
theorem xr {A:Around} {n:Nat} {a b:Addr} {xs ys:List U} {its its2:List Value} (p1:IsTup s.heap a its.toArray) (p2:IsTup s.heap b its2.toArray) (l1:its.length=xs.length) (l2:its2.length=ys.length) (hu:A.units+n < cLine)
  (he:∀ (j:Nat) (j1:j < its.length) (j2:j < its2.length),SeqAt.EqAt A.in1 s its[j] its2[j] (eqW (xs.getD j .non) (ys.getD j .non))):SeqAt.RcAt A s (.ref a) (.ref b) (eqWs xs ys):=by
 have:=SeqAt.RcAt.tuples (A:=A) (s:=s) (e:=fun j=> eqW (xs.getD j .non) (ys.getD j .non)) p1 p2 (by omega) (fun j h1 h2=> by simpa using he j (by simpa using h1) (by simpa using h2))
 rw [List.size_toArray,List.size_toArray,l1,l2,dr] at this
 exact this
theorem AD (I:Inv X pins σ H s):∀ (n:Nat) (A:Around) (x y:U) (v w:V) (p q:Value),Rp X.K H v x→Rp X.K H w y→aT v p→aT w q→okU n x=true→okU n y=true→A.units+n < cLine→SeqAt.RcAt A s p q (eqW x y):=by
 intro n
 induction n with
 | zero=>
  intro A x y v w p q R1 R2 q1 q2 o1 o2 hu
  cases R1 with
  | non=>
   cases (show p=Value.none from q1)
   cases R2 with
   | non=> cases (show q=Value.none from q2); exact SeqAt.RcAt.none_none
   | bl b=> cases (show q=Value.bool b from q2); exact SeqAt.RcAt.none_bool b
   | int i=> obtain ⟨t,rfl⟩:=(show ∃ t,q=Value.int i t from q2); exact SeqAt.RcAt.none_int i t
   | str i=> obtain ⟨t,rfl⟩:=(show ∃ t,q=Value.str i t from q2); exact SeqAt.RcAt.none_str i t
   | _=> simp [okU] at o2
  | bl c=>
   cases (show p=Value.bool c from q1)
   cases R2 with
   | non=> cases (show q=Value.none from q2); exact SeqAt.RcAt.bool_none c
   | bl b=> cases (show q=Value.bool b from q2); exact SeqAt.RcAt.bool_bool c b
   | int i=> obtain ⟨t,rfl⟩:=(show ∃ t,q=Value.int i t from q2); exact SeqAt.RcAt.bool_int c i t
   | str i=> obtain ⟨t,rfl⟩:=(show ∃ t,q=Value.str i t from q2); exact SeqAt.RcAt.bool_str c i t
   | _=> simp [okU] at o2
  | int c=>
   obtain ⟨t0,rfl⟩:=(show ∃ t,p=Value.int c t from q1)
   cases R2 with
   | non=> cases (show q=Value.none from q2); exact SeqAt.RcAt.int_none c t0
   | bl b=> cases (show q=Value.bool b from q2); exact SeqAt.RcAt.int_bool c t0 b
   | int i=> obtain ⟨t,rfl⟩:=(show ∃ t,q=Value.int i t from q2); exact SeqAt.RcAt.int_int c t0 i t
   | str i=> obtain ⟨t,rfl⟩:=(show ∃ t,q=Value.str i t from q2); exact SeqAt.RcAt.int_str c t0 i t
   | _=> simp [okU] at o2
  | str c=>
   obtain ⟨t0,rfl⟩:=(show ∃ t,p=Value.str c t from q1)
   cases R2 with
   | non=> cases (show q=Value.none from q2); exact SeqAt.RcAt.str_none c t0
   | bl b=> cases (show q=Value.bool b from q2); exact SeqAt.RcAt.str_bool c t0 b
   | int i=> obtain ⟨t,rfl⟩:=(show ∃ t,q=Value.int i t from q2); exact SeqAt.RcAt.str_int c t0 i t
   | str i=> obtain ⟨t,rfl⟩:=(show ∃ t,q=Value.str i t from q2); exact SeqAt.RcAt.str_str c t0 i t
   | _=> simp [okU] at o2
  | _=> simp [okU] at o1
 | succ n ih=>
  intro A x y v w p q R1 R2 q1 q2 o1 o2 hu
  have hu1:A.units < cLine:=by omega
  have rc0:∀ (x y:U) (v w:V) (p q:Value),Rp X.K H v x→Rp X.K H w y→aT v p→aT w q→okU n x=true→okU n y=true→SeqAt.RcAt A.in1 s p q (eqW x y):=fun x y v w p q r1 r2 k1 k2 z1 z2=> ih A.in1 x y v w p q r1 r2 k1 k2 z1 z2 (by show A.units+1+n < _; omega)
  cases R1 with
  | non=>
   cases (show p=Value.none from q1)
   cases R2 with
   | non=> cases (show q=Value.none from q2); exact SeqAt.RcAt.none_none
   | bl b=> cases (show q=Value.bool b from q2); exact SeqAt.RcAt.none_bool b
   | int i=> obtain ⟨t,rfl⟩:=(show ∃ t,q=Value.int i t from q2); exact SeqAt.RcAt.none_int i t
   | str i=> obtain ⟨t,rfl⟩:=(show ∃ t,q=Value.str i t from q2); exact SeqAt.RcAt.none_str i t
   | ty=> simp [okU] at o2
   | dic=> simp [okU] at o2
   | xc=> simp [okU] at o2
   | scr hq hl hi=> cases q2; obtain ⟨_,_,pl,_⟩:=IsU.list I hq hl; exact SeqAt.RcAt.none_list pl hu1
   | tup hq hl hi=> cases q2; obtain ⟨_,_,pl,_⟩:=IsU.tup I hq hl; exact SeqAt.RcAt.none_tuple pl hu1
   | lst hq hl hi=> cases q2; obtain ⟨_,_,pl,_⟩:=IsU.list I (SqL.of hq) hl; exact SeqAt.RcAt.none_list pl hu1
  | bl c=>
   cases (show p=Value.bool c from q1)
   cases R2 with
   | non=> cases (show q=Value.none from q2); exact SeqAt.RcAt.bool_none c
   | bl b=> cases (show q=Value.bool b from q2); exact SeqAt.RcAt.bool_bool c b
   | int i=> obtain ⟨t,rfl⟩:=(show ∃ t,q=Value.int i t from q2); exact SeqAt.RcAt.bool_int c i t
   | str i=> obtain ⟨t,rfl⟩:=(show ∃ t,q=Value.str i t from q2); exact SeqAt.RcAt.bool_str c i t
   | ty=> simp [okU] at o2
   | dic=> simp [okU] at o2
   | xc=> simp [okU] at o2
   | scr hq hl hi=> cases q2; obtain ⟨_,_,pl,_⟩:=IsU.list I hq hl; exact SeqAt.RcAt.bool_list c pl hu1
   | tup hq hl hi=> cases q2; obtain ⟨_,_,pl,_⟩:=IsU.tup I hq hl; exact SeqAt.RcAt.bool_tuple c pl hu1
   | lst hq hl hi=> cases q2; obtain ⟨_,_,pl,_⟩:=IsU.list I (SqL.of hq) hl; exact SeqAt.RcAt.bool_list c pl hu1
  | int c=>
   obtain ⟨t0,rfl⟩:=(show ∃ t,p=Value.int c t from q1)
   cases R2 with
   | non=> cases (show q=Value.none from q2); exact SeqAt.RcAt.int_none c t0
   | bl b=> cases (show q=Value.bool b from q2); exact SeqAt.RcAt.int_bool c t0 b
   | int i=> obtain ⟨t,rfl⟩:=(show ∃ t,q=Value.int i t from q2); exact SeqAt.RcAt.int_int c t0 i t
   | str i=> obtain ⟨t,rfl⟩:=(show ∃ t,q=Value.str i t from q2); exact SeqAt.RcAt.int_str c t0 i t
   | ty=> simp [okU] at o2
   | dic=> simp [okU] at o2
   | xc=> simp [okU] at o2
   | scr hq hl hi=> cases q2; obtain ⟨_,_,pl,_⟩:=IsU.list I hq hl; exact SeqAt.RcAt.int_list c t0 pl hu1
   | tup hq hl hi=> cases q2; obtain ⟨_,_,pl,_⟩:=IsU.tup I hq hl; exact SeqAt.RcAt.int_tuple c t0 pl hu1
   | lst hq hl hi=> cases q2; obtain ⟨_,_,pl,_⟩:=IsU.list I (SqL.of hq) hl; exact SeqAt.RcAt.int_list c t0 pl hu1
  | str c=>
   obtain ⟨t0,rfl⟩:=(show ∃ t,p=Value.str c t from q1)
   cases R2 with
   | non=> cases (show q=Value.none from q2); exact SeqAt.RcAt.str_none c t0
   | bl b=> cases (show q=Value.bool b from q2); exact SeqAt.RcAt.str_bool c t0 b
   | int i=> obtain ⟨t,rfl⟩:=(show ∃ t,q=Value.int i t from q2); exact SeqAt.RcAt.str_int c t0 i t
   | str i=> obtain ⟨t,rfl⟩:=(show ∃ t,q=Value.str i t from q2); exact SeqAt.RcAt.str_str c t0 i t
   | ty=> simp [okU] at o2
   | dic=> simp [okU] at o2
   | xc=> simp [okU] at o2
   | scr hq hl hi=> cases q2; obtain ⟨_,_,pl,_⟩:=IsU.list I hq hl; exact SeqAt.RcAt.str_list c t0 pl hu1
   | tup hq hl hi=> cases q2; obtain ⟨_,_,pl,_⟩:=IsU.tup I hq hl; exact SeqAt.RcAt.str_tuple c t0 pl hu1
   | lst hq hl hi=> cases q2; obtain ⟨_,_,pl,_⟩:=IsU.list I (SqL.of hq) hl; exact SeqAt.RcAt.str_list c t0 pl hu1
  | ty=> simp [okU] at o1
  | dic=> simp [okU] at o1
  | xc=> simp [okU] at o1
  | @scr a vs xs hq hl hi=>
   cases q1
   obtain ⟨its,r1,pl,l1⟩:=IsU.list I hq hl
   rw [okU] at o1
   cases R2 with
   | non=> cases (show q=Value.none from q2); exact SeqAt.RcAt.list_none pl hu1
   | bl b=> cases (show q=Value.bool b from q2); exact SeqAt.RcAt.list_bool b pl hu1
   | int i=> obtain ⟨t,rfl⟩:=(show ∃ t,q=Value.int i t from q2); exact SeqAt.RcAt.list_int i t pl hu1
   | str i=> obtain ⟨t,rfl⟩:=(show ∃ t,q=Value.str i t from q2); exact SeqAt.RcAt.list_str i t pl hu1
   | ty=> simp [okU] at o2
   | dic=> simp [okU] at o2
   | xc=> simp [okU] at o2
   | scr hq' hl' hi'=> cases q2; rw [okU] at o2; obtain ⟨its2,r2,pl2,l2⟩:=IsU.list I hq' hl'; rw [eqW]; exact gG pl pl2 l1 l2 hu (cG I r1 r2 hl hl' hi hi' o1 o2 rc0 (by omega))
   | lst hq' hl' hi'=> cases q2; rw [okU] at o2; obtain ⟨its2,r2,pl2,l2⟩:=IsU.list I (SqL.of hq') hl'; rw [eqW]; exact gG pl pl2 l1 l2 hu (cG I r1 r2 hl hl' hi hi' o1 o2 rc0 (by omega))
   | tup hq' hl' hi'=> cases q2; obtain ⟨its2,r2,pl2,l2⟩:=IsU.tup I hq' hl'; exact SeqAt.RcAt.list_tuple pl pl2 hu1
  | @lst a vs xs hq hl hi=>
   cases q1
   obtain ⟨its,r1,pl,l1⟩:=IsU.list I (SqL.of hq) hl
   rw [okU] at o1
   cases R2 with
   | non=> cases (show q=Value.none from q2); exact SeqAt.RcAt.list_none pl hu1
   | bl b=> cases (show q=Value.bool b from q2); exact SeqAt.RcAt.list_bool b pl hu1
   | int i=> obtain ⟨t,rfl⟩:=(show ∃ t,q=Value.int i t from q2); exact SeqAt.RcAt.list_int i t pl hu1
   | str i=> obtain ⟨t,rfl⟩:=(show ∃ t,q=Value.str i t from q2); exact SeqAt.RcAt.list_str i t pl hu1
   | ty=> simp [okU] at o2
   | dic=> simp [okU] at o2
   | xc=> simp [okU] at o2
   | scr hq' hl' hi'=> cases q2; rw [okU] at o2; obtain ⟨its2,r2,pl2,l2⟩:=IsU.list I hq' hl'; rw [eqW]; exact gG pl pl2 l1 l2 hu (cG I r1 r2 hl hl' hi hi' o1 o2 rc0 (by omega))
   | lst hq' hl' hi'=> cases q2; rw [okU] at o2; obtain ⟨its2,r2,pl2,l2⟩:=IsU.list I (SqL.of hq') hl'; rw [eqW]; exact gG pl pl2 l1 l2 hu (cG I r1 r2 hl hl' hi hi' o1 o2 rc0 (by omega))
   | tup hq' hl' hi'=> cases q2; obtain ⟨its2,r2,pl2,l2⟩:=IsU.tup I hq' hl'; exact SeqAt.RcAt.list_tuple pl pl2 hu1
  | @tup a vs xs hq hl hi=>
   cases q1
   obtain ⟨its,r1,pl,l1⟩:=IsU.tup I hq hl
   rw [okU] at o1
   cases R2 with
   | non=> cases (show q=Value.none from q2); exact SeqAt.RcAt.tuple_none pl hu1
   | bl b=> cases (show q=Value.bool b from q2); exact SeqAt.RcAt.tuple_bool b pl hu1
   | int i=> obtain ⟨t,rfl⟩:=(show ∃ t,q=Value.int i t from q2); exact SeqAt.RcAt.tuple_int i t pl hu1
   | str i=> obtain ⟨t,rfl⟩:=(show ∃ t,q=Value.str i t from q2); exact SeqAt.RcAt.tuple_str i t pl hu1
   | ty=> simp [okU] at o2
   | dic=> simp [okU] at o2
   | xc=> simp [okU] at o2
   | scr hq' hl' hi'=> cases q2; obtain ⟨its2,r2,pl2,l2⟩:=IsU.list I hq' hl'; exact SeqAt.RcAt.tuple_list pl pl2 hu1
   | lst hq' hl' hi'=> cases q2; obtain ⟨its2,r2,pl2,l2⟩:=IsU.list I (SqL.of hq') hl'; exact SeqAt.RcAt.tuple_list pl pl2 hu1
   | tup hq' hl' hi'=> cases q2; rw [okU] at o2; obtain ⟨its2,r2,pl2,l2⟩:=IsU.tup I hq' hl'; rw [eqW]; exact xr pl pl2 l1 l2 hu (cG I r1 r2 hl hl' hi hi' o1 o2 rc0 (by omega))
end
end L2
namespace L2
open PySem PySem.Spec PyProof.Rows
section
variable {X:Cx} {pins:List (Addr×Obj)} {σ:St} {H:Hp} {s:Shared}
theorem e7 {A:Around} {n:Nat} {a b:Addr} {xs ys:List U} {its its2:List Value} (p1:s.heap.IsList a its.toArray) (p2:s.heap.IsList b its2.toArray) (l1:its.length=xs.length) (l2:its2.length=ys.length) (hu:A.units+n < cLine)
  (he:∀ (j:Nat) (j1:j < its.length) (j2:j < its2.length),SeqAt.EqAt A.in1 s its[j] its2[j] (eqW (xs.getD j .non) (ys.getD j .non))):SeqAt.RcNeAt A s (.ref a) (.ref b) (!eqWs xs ys):=by
 by_cases hl:its.length=its2.length
 ·have:=SeqAt.RcNeAt.lists (A:=A) (s:=s) (e:=fun j=> eqW (xs.getD j .non) (ys.getD j .non)) p1 p2 (by simpa using hl) (by omega) (fun j h1 h2=> by simpa using he j (by simpa using h1) (by simpa using h2))
  rw [← dr,← l1,← l2,hl,Nat.min_self,beq_self_eq_true,Bool.and_true]
  rwa [List.size_toArray,hl] at this
 ·have:=SeqAt.RcNeAt.lists_lengths (A:=A) (s:=s) p1 p2 (by simpa using hl) (by omega)
  rw [← dr,← l1,← l2,show (its.length==its2.length)=false by simpa using hl,Bool.and_false]
  exact this
theorem sI {A:Around} {n:Nat} {a b:Addr} {xs ys:List U} {its its2:List Value} (p1:IsTup s.heap a its.toArray) (p2:IsTup s.heap b its2.toArray) (l1:its.length=xs.length) (l2:its2.length=ys.length) (hu:A.units+n < cLine)
  (he:∀ (j:Nat) (j1:j < its.length) (j2:j < its2.length),SeqAt.EqAt A.in1 s its[j] its2[j] (eqW (xs.getD j .non) (ys.getD j .non))):SeqAt.RcNeAt A s (.ref a) (.ref b) (!eqWs xs ys):=by
 have:=SeqAt.RcNeAt.tuples (A:=A) (s:=s) (e:=fun j=> eqW (xs.getD j .non) (ys.getD j .non)) p1 p2 (by omega) (fun j h1 h2=> by simpa using he j (by simpa using h1) (by simpa using h2))
 rw [List.size_toArray,List.size_toArray,l1,l2,dr] at this
 exact this
theorem zi (I:Inv X pins σ H s) (n:Nat) (A:Around) (x y:U) (v w:V) (p q:Value) (R1:Rp X.K H v x) (R2:Rp X.K H w y) (q1:aT v p) (q2:aT w q) (o1:okU (n+1) x=true) (o2:okU (n+1) y=true) (hu:A.units+(n+1) < cLine):SeqAt.RcNeAt A s p q (!eqW x y):=by
 have hu1:A.units < cLine:=by omega
 have rc0:∀ (x y:U) (v w:V) (p q:Value),Rp X.K H v x→Rp X.K H w y→aT v p→aT w q→okU n x=true→okU n y=true→SeqAt.RcAt A.in1 s p q (eqW x y):=fun x y v w p q r1 r2 k1 k2 z1 z2=> AD I n A.in1 x y v w p q r1 r2 k1 k2 z1 z2 (by show A.units+1+n < _; omega)
 cases R1 with
 | ty=> simp [okU] at o1
 | dic=> simp [okU] at o1
 | xc=> simp [okU] at o1
 | non=>
  cases (show p=Value.none from q1)
  cases R2 with
  | ty=> simp [okU] at o2
  | dic=> simp [okU] at o2
  | xc=> simp [okU] at o2
  | non=> cases (show q=Value.none from q2); exact SeqAt.RcNeAt.none_none
  | bl c2=> cases (show q=Value.bool c2 from q2); exact SeqAt.RcNeAt.none_bool c2
  | int c2=> obtain ⟨t2,rfl⟩:=(show ∃ t,q=Value.int c2 t from q2); exact SeqAt.RcNeAt.none_int c2 t2
  | str c2=> obtain ⟨t2,rfl⟩:=(show ∃ t,q=Value.str c2 t from q2); exact SeqAt.RcNeAt.none_str c2 t2
  | scr hq2 hl2 hi2=> cases q2; obtain ⟨its2,r2,pl2,l2⟩:=IsU.list I hq2 hl2; exact SeqAt.RcNeAt.none_list pl2 hu1
  | tup hq2 hl2 hi2=> cases q2; obtain ⟨its2,r2,pl2,l2⟩:=IsU.tup I hq2 hl2; exact SeqAt.RcNeAt.none_tuple pl2 hu1
  | lst hq2 hl2 hi2=> cases q2; obtain ⟨its2,r2,pl2,l2⟩:=IsU.list I (SqL.of hq2) hl2; exact SeqAt.RcNeAt.none_list pl2 hu1
 | bl c1=>
  cases (show p=Value.bool c1 from q1)
  cases R2 with
  | ty=> simp [okU] at o2
  | dic=> simp [okU] at o2
  | xc=> simp [okU] at o2
  | non=> cases (show q=Value.none from q2); exact SeqAt.RcNeAt.bool_none c1
  | bl c2=> cases (show q=Value.bool c2 from q2); exact SeqAt.RcNeAt.bool_bool c1 c2
  | int c2=> obtain ⟨t2,rfl⟩:=(show ∃ t,q=Value.int c2 t from q2); exact SeqAt.RcNeAt.bool_int c1 c2 t2
  | str c2=> obtain ⟨t2,rfl⟩:=(show ∃ t,q=Value.str c2 t from q2); exact SeqAt.RcNeAt.bool_str c1 c2 t2
  | scr hq2 hl2 hi2=> cases q2; obtain ⟨its2,r2,pl2,l2⟩:=IsU.list I hq2 hl2; exact SeqAt.RcNeAt.bool_list c1 pl2 hu1
  | tup hq2 hl2 hi2=> cases q2; obtain ⟨its2,r2,pl2,l2⟩:=IsU.tup I hq2 hl2; exact SeqAt.RcNeAt.bool_tuple c1 pl2 hu1
  | lst hq2 hl2 hi2=> cases q2; obtain ⟨its2,r2,pl2,l2⟩:=IsU.list I (SqL.of hq2) hl2; exact SeqAt.RcNeAt.bool_list c1 pl2 hu1
 | int c1=>
  obtain ⟨t1,rfl⟩:=(show ∃ t,p=Value.int c1 t from q1)
  cases R2 with
  | ty=> simp [okU] at o2
  | dic=> simp [okU] at o2
  | xc=> simp [okU] at o2
  | non=> cases (show q=Value.none from q2); exact SeqAt.RcNeAt.int_none c1 t1
  | bl c2=> cases (show q=Value.bool c2 from q2); exact SeqAt.RcNeAt.int_bool c1 t1 c2
  | int c2=> obtain ⟨t2,rfl⟩:=(show ∃ t,q=Value.int c2 t from q2); exact SeqAt.RcNeAt.int_int c1 t1 c2 t2
  | str c2=> obtain ⟨t2,rfl⟩:=(show ∃ t,q=Value.str c2 t from q2); exact SeqAt.RcNeAt.int_str c1 t1 c2 t2
  | scr hq2 hl2 hi2=> cases q2; obtain ⟨its2,r2,pl2,l2⟩:=IsU.list I hq2 hl2; exact SeqAt.RcNeAt.int_list c1 t1 pl2 hu1
  | tup hq2 hl2 hi2=> cases q2; obtain ⟨its2,r2,pl2,l2⟩:=IsU.tup I hq2 hl2; exact SeqAt.RcNeAt.int_tuple c1 t1 pl2 hu1
  | lst hq2 hl2 hi2=> cases q2; obtain ⟨its2,r2,pl2,l2⟩:=IsU.list I (SqL.of hq2) hl2; exact SeqAt.RcNeAt.int_list c1 t1 pl2 hu1
 | str c1=>
  obtain ⟨t1,rfl⟩:=(show ∃ t,p=Value.str c1 t from q1)
  cases R2 with
  | ty=> simp [okU] at o2
  | dic=> simp [okU] at o2
  | xc=> simp [okU] at o2
  | non=> cases (show q=Value.none from q2); exact SeqAt.RcNeAt.str_none c1 t1
  | bl c2=> cases (show q=Value.bool c2 from q2); exact SeqAt.RcNeAt.str_bool c1 t1 c2
  | int c2=> obtain ⟨t2,rfl⟩:=(show ∃ t,q=Value.int c2 t from q2); exact SeqAt.RcNeAt.str_int c1 t1 c2 t2
  | str c2=> obtain ⟨t2,rfl⟩:=(show ∃ t,q=Value.str c2 t from q2); exact SeqAt.RcNeAt.str_str c1 t1 c2 t2
  | scr hq2 hl2 hi2=> cases q2; obtain ⟨its2,r2,pl2,l2⟩:=IsU.list I hq2 hl2; exact SeqAt.RcNeAt.str_list c1 t1 pl2 hu1
  | tup hq2 hl2 hi2=> cases q2; obtain ⟨its2,r2,pl2,l2⟩:=IsU.tup I hq2 hl2; exact SeqAt.RcNeAt.str_tuple c1 t1 pl2 hu1
  | lst hq2 hl2 hi2=> cases q2; obtain ⟨its2,r2,pl2,l2⟩:=IsU.list I (SqL.of hq2) hl2; exact SeqAt.RcNeAt.str_list c1 t1 pl2 hu1
 | scr hq1 hl1 hi1=>
  cases q1; obtain ⟨its1,r1,pl1,l1⟩:=IsU.list I hq1 hl1
  cases R2 with
  | ty=> simp [okU] at o2
  | dic=> simp [okU] at o2
  | xc=> simp [okU] at o2
  | non=> cases (show q=Value.none from q2); exact SeqAt.RcNeAt.list_none pl1 hu1
  | bl c2=> cases (show q=Value.bool c2 from q2); exact SeqAt.RcNeAt.list_bool c2 pl1 hu1
  | int c2=> obtain ⟨t2,rfl⟩:=(show ∃ t,q=Value.int c2 t from q2); exact SeqAt.RcNeAt.list_int c2 t2 pl1 hu1
  | str c2=> obtain ⟨t2,rfl⟩:=(show ∃ t,q=Value.str c2 t from q2); exact SeqAt.RcNeAt.list_str c2 t2 pl1 hu1
  | scr hq2 hl2 hi2=> cases q2; obtain ⟨its2,r2,pl2,l2⟩:=IsU.list I hq2 hl2; rw [okU] at o1; rw [okU] at o2; rw [eqW]; exact e7 pl1 pl2 l1 l2 hu (cG I r1 r2 hl1 hl2 hi1 hi2 o1 o2 rc0 (by omega))
  | tup hq2 hl2 hi2=> cases q2; obtain ⟨its2,r2,pl2,l2⟩:=IsU.tup I hq2 hl2; exact SeqAt.RcNeAt.list_tuple pl1 pl2 hu1
  | lst hq2 hl2 hi2=> cases q2; obtain ⟨its2,r2,pl2,l2⟩:=IsU.list I (SqL.of hq2) hl2; rw [okU] at o1; rw [okU] at o2; rw [eqW]; exact e7 pl1 pl2 l1 l2 hu (cG I r1 r2 hl1 hl2 hi1 hi2 o1 o2 rc0 (by omega))
 | tup hq1 hl1 hi1=>
  cases q1; obtain ⟨its1,r1,pl1,l1⟩:=IsU.tup I hq1 hl1
  cases R2 with
  | ty=> simp [okU] at o2
  | dic=> simp [okU] at o2
  | xc=> simp [okU] at o2
  | non=> cases (show q=Value.none from q2); exact SeqAt.RcNeAt.tuple_none pl1 hu1
  | bl c2=> cases (show q=Value.bool c2 from q2); exact SeqAt.RcNeAt.tuple_bool c2 pl1 hu1
  | int c2=> obtain ⟨t2,rfl⟩:=(show ∃ t,q=Value.int c2 t from q2); exact SeqAt.RcNeAt.tuple_int c2 t2 pl1 hu1
  | str c2=> obtain ⟨t2,rfl⟩:=(show ∃ t,q=Value.str c2 t from q2); exact SeqAt.RcNeAt.tuple_str c2 t2 pl1 hu1
  | scr hq2 hl2 hi2=> cases q2; obtain ⟨its2,r2,pl2,l2⟩:=IsU.list I hq2 hl2; exact SeqAt.RcNeAt.tuple_list pl1 pl2 hu1
  | tup hq2 hl2 hi2=> cases q2; obtain ⟨its2,r2,pl2,l2⟩:=IsU.tup I hq2 hl2; rw [okU] at o1; rw [okU] at o2; rw [eqW]; exact sI pl1 pl2 l1 l2 hu (cG I r1 r2 hl1 hl2 hi1 hi2 o1 o2 rc0 (by omega))
  | lst hq2 hl2 hi2=> cases q2; obtain ⟨its2,r2,pl2,l2⟩:=IsU.list I (SqL.of hq2) hl2; exact SeqAt.RcNeAt.tuple_list pl1 pl2 hu1
 | lst hq1 hl1 hi1=>
  cases q1; obtain ⟨its1,r1,pl1,l1⟩:=IsU.list I (SqL.of hq1) hl1
  cases R2 with
  | ty=> simp [okU] at o2
  | dic=> simp [okU] at o2
  | xc=> simp [okU] at o2
  | non=> cases (show q=Value.none from q2); exact SeqAt.RcNeAt.list_none pl1 hu1
  | bl c2=> cases (show q=Value.bool c2 from q2); exact SeqAt.RcNeAt.list_bool c2 pl1 hu1
  | int c2=> obtain ⟨t2,rfl⟩:=(show ∃ t,q=Value.int c2 t from q2); exact SeqAt.RcNeAt.list_int c2 t2 pl1 hu1
  | str c2=> obtain ⟨t2,rfl⟩:=(show ∃ t,q=Value.str c2 t from q2); exact SeqAt.RcNeAt.list_str c2 t2 pl1 hu1
  | scr hq2 hl2 hi2=> cases q2; obtain ⟨its2,r2,pl2,l2⟩:=IsU.list I hq2 hl2; rw [okU] at o1; rw [okU] at o2; rw [eqW]; exact e7 pl1 pl2 l1 l2 hu (cG I r1 r2 hl1 hl2 hi1 hi2 o1 o2 rc0 (by omega))
  | tup hq2 hl2 hi2=> cases q2; obtain ⟨its2,r2,pl2,l2⟩:=IsU.tup I hq2 hl2; exact SeqAt.RcNeAt.list_tuple pl1 pl2 hu1
  | lst hq2 hl2 hi2=> cases q2; obtain ⟨its2,r2,pl2,l2⟩:=IsU.list I (SqL.of hq2) hl2; rw [okU] at o1; rw [okU] at o2; rw [eqW]; exact e7 pl1 pl2 l1 l2 hu (cG I r1 r2 hl1 hl2 hi1 hi2 o1 o2 rc0 (by omega))
end
end L2
namespace L2
open PySem PySem.Spec PyProof.Rows
def OpS (X:Cx) (f:Value→Value→Sem Value) (x y:U) (z:V):Prop:=OpR X f fun v w H Q=> Rp X.K H v x∧Rp X.K H w y∧Q z H
section
variable {X:Cx} {H0:Hp} {O0:List Addr} {ps:PSt} {a b c e:Expr} {es rest:List Expr} {pos p:Pos} {u x y:U} {xs ys us:List U} {i j:Int} {k m:Bool}
theorem Rp.out {K:PySem.W.Frag} {H:Hp} {O:List Addr} {v:V} {u:U} (h:Rp K (hid H O) v u):Rp K H v u:=h.same aE
theorem kD {op:CmpOp} (ho:OpS X (compareOp op) x y (.bl k)) (ha:Ev X H0 O0 ps a x) (hb:Ev X H0 O0 ps b y) (hm:behindInMarks op b=false:=by first | exact ie _ | with_unfolding_all rfl):Ev X H0 O0 ps (.Compare a [op] [b] pos) (.bl k):=
 PE.mono (wk ho ha hb hm) fun σ H Q ⟨O,R,q⟩=> two R (fun _ _ _ z=> z) (fun _ _ _ z=> z) fun v w H' s _ r1 r2=> ⟨r1.out,r2.out,q _ H' s (.bl _)⟩
theorem ay {op:CmpOp} (ho:OpS X (compareOp op) x y (.bl k)) (ha:Ev X H0 O0 ps a x) (hb:Ev X H0 O0 ps b y) (hm:behindInMarks op b=false:=by first | exact ie _ | with_unfolding_all rfl):Tt X H0 O0 ps (.Compare a [op] [b] pos) k:=
 PT.mono (qx ho ha hb hm) fun σ H Q ⟨O,R,q⟩=> two R (fun _ _ _ z=> z) (fun _ _ _ z=> z) fun v w H' s _ r1 r2=> ⟨r1.out,r2.out,_,rfl,q H' s⟩
theorem vF {op:CmpOp} {g:Int→Int→Bool} (ho:OpR X (compareOp op) (rI0 fun i j=> .bl (g i j))):OpS X (compareOp op) (.int i) (.int j) (.bl (g i j)):=by
 intro pins s σ H v w p q Q I r1 r2 h
 obtain ⟨h1,h2,h3⟩:=h
 cases h1; cases h2
 exact ho pins s σ H _ _ _ _ Q I r1 r2 ⟨i,j,rfl,rfl,h3⟩
theorem iO:OpS X (compareOp .Lt) (.int i) (.int j) (.bl (decide (i < j))):=vF A1
theorem lI:OpS X (compareOp .Gt) (.int i) (.int j) (.bl (decide (j < i))):=vF Am
theorem BC:OpS X (compareOp .GtE) (.int i) (.int j) (.bl (decide (j≤i))):=vF A3
theorem dc (hu:X.A.units+10 < cLine) (h1:okU 9 x=true) (h2:okU 9 y=true):OpS X (compareOp .Eq) x y (.bl (eqW x y)):=by
 intro pins s σ H v w p q Q I r1 r2 h
 obtain ⟨k1,k2,k3⟩:=h
 exact AD I 9 X.A x y v w p q k1 k2 r1 r2 h1 h2 (by omega) X.prog X.w _ _ (a_ I k3 rfl)
theorem vt (hu:X.A.units+10 < cLine) (h1:okU 9 x=true) (h2:okU 9 y=true):OpS X (compareOp .NotEq) x y (.bl (!eqW x y)):=by
 intro pins s σ H v w p q Q I r1 r2 h
 obtain ⟨k1,k2,k3⟩:=h
 exact zi I 8 X.A x y v w p q k1 k2 r1 r2 h1 h2 (by omega) X.prog X.w _ _ (a_ I k3 rfl)
theorem gP:OpS X (compareOp .Eq) (.int i) (.int j) (.bl (decide (i=j))):=by
 intro pins s σ H v w p q Q I r1 r2 h
 obtain ⟨h1,h2,h3⟩:=h
 cases h1; cases h2
 exact A2 pins s σ H _ _ _ _ Q I r1 r2 ⟨rfl,by rw [iT,← Bool.beq_eq_decide_eq] at *; simpa [Bool.beq_eq_decide_eq] using h3⟩
theorem nw:OpS X (compareOp .NotEq) (.int i) (.int j) (.bl (!decide (i=j))):=by
 intro pins s σ H v w p q Q I r1 r2 h
 obtain ⟨h1,h2,h3⟩:=h
 cases h1; cases h2
 exact AK pins s σ H _ _ _ _ Q I r1 r2 ⟨rfl,by rw [iT]; simpa [Bool.beq_eq_decide_eq] using h3⟩
theorem z7 {j pos'} (ha:Ev X H0 O0 ps a x) (h:∀ (K:PySem.W.Frag) (H:Hp) (v:V),Rp K H v x→decide (v=V.non)=k):Tt X H0 O0 ps (.Compare a [.Is] [.Constant .none j pos'] pos) k:=
 PT.mono (o6 (zP ha)) fun σ H Q ⟨O,R,q⟩=> ⟨O,R,fun v H' s r=> ⟨_,rfl,by rw [h _ _ v r]; exact q H' s⟩⟩
def xW:U→Bool | .non=> true | _=> false
theorem yd (x:U):∀ (K:PySem.W.Frag) (H:Hp) (v:V),Rp K H v x→decide (v=V.non)=xW x:=fun K H v r=> by
 cases r <;> simp [xW]
theorem iF (h:Ev X H0 O0 ps e (.bl k)) (he:∀ whole,isTrue e X.env whole=(do let v ← whole; standAt e.pos; holding [v] (truthy v)):=by intro _; rfl):Tt X H0 O0 ps e k:=
 PT.mono (zg h he) fun σ H Q ⟨O,R,q⟩=> ⟨O,R,fun v H' s r=> by cases r; exact ⟨_,rfl,q H' s⟩⟩
theorem nS (h:Tt X H0 O0 ps a k):Tt X H0 O0 ps (.UnaryOp .Not a pos) (!k):=PT.mono (yz h) fun σ H Q ⟨O,R,q⟩=> ⟨O,R,q⟩
theorem Tw.t (h:Tw X H0 O0 ps e k):Tt X H0 O0 ps e k:=h.pt
theorem uF (h:Tt X H0 O0 ps a k):Tw X H0 O0 ps (.BoolOp .And [a] pos) k:=xl h
theorem jj (h:Tt X H0 O0 ps a k):Tw X H0 O0 ps (.BoolOp .Or [a] pos) k:=yY h
theorem tT (ha:Tt X H0 O0 ps a k) (hb:k=true→Tw X H0 O0 ps (.BoolOp .And (b::rest) pos) m):Tw X H0 O0 ps (.BoolOp .And (a::b::rest) pos) (k && m):=by
 cases k with
 | true=> exact PW.mono (u6 ha (hb rfl)) fun σ H Q ⟨O,R,q⟩=> ⟨O,R,fun H' s=> by exact nT (⟨O,R.go s,fun H2 s2=> q H2 (s.trans s2)⟩)⟩
 | false=> exact PW.mono (u6 ha (fun _ _ _ _ _ _ _ h=> h.elim) (tB':=fun _ _ _=> False)) fun σ H Q ⟨O,R,q⟩=> ⟨O,R,fun H' s=> by exact ln (q H' s)⟩
theorem jZ (ha:Tt X H0 O0 ps a k) (hb:k=false→Tw X H0 O0 ps (.BoolOp .Or (b::rest) pos) m):Tw X H0 O0 ps (.BoolOp .Or (a::b::rest) pos) (k || m):=by
 cases k with
 | false=> exact PW.mono (ya ha (hb rfl)) fun σ H Q ⟨O,R,q⟩=> ⟨O,R,fun H' s=> by exact ln (⟨O,R.go s,fun H2 s2=> q H2 (s.trans s2)⟩)⟩
 | true=> exact PW.mono (ya ha (fun _ _ _ _ _ _ _ h=> h.elim) (tB':=fun _ _ _=> False)) fun σ H Q ⟨O,R,q⟩=> ⟨O,R,fun H' s=> by exact nT (q H' s)⟩
theorem Ad {op} (h:Ev X H0 O0 ps a u):Ev X H0 O0 ps (.BoolOp op [a] pos) u:=yn h
theorem By (ha:Ev X H0 O0 ps a (.bl k)) (hb:k=false→Ev X H0 O0 ps (.BoolOp .Or (b::rest) pos) (.bl m)):Ev X H0 O0 ps (.BoolOp .Or (a::b::rest) pos) (.bl (k || m)):=by
 cases k with
 | false=> exact PE.mono (xJ ha (hb rfl)) fun σ H Q ⟨O,R,q⟩=> ⟨O,R,fun v H' s r=> by cases r; exact ⟨_,rfl,by exact ln (⟨O,R.go s,fun v H2 s2 r2=> q v H2 (s.trans s2) r2⟩)⟩⟩
 | true=> exact PE.mono (xJ ha (fun _ _ _ _ _ _ h=> h.elim) (tb:=fun _ _ _=> False)) fun σ H Q ⟨O,R,q⟩=> ⟨O,R,fun v H' s r=> by cases r; exact ⟨_,rfl,by exact nT (q _ H' s (.bl _))⟩⟩
theorem zY {c:Expr} (hc:Tt X H0 O0 ps c k) (ha:k=true→Ev X H0 O0 ps a u) (hb:k=false→Ev X H0 O0 ps b u):Ev X H0 O0 ps (.IfExp c a b pos) u:=by
 cases k with
 | true=> exact PE.mono (m8 hc (ha rfl) (fun _ _ _ _ _ _ h=> h.elim) (tb:=fun _ _ _=> False)) fun σ H Q ⟨O,R,q⟩=> ⟨O,R,fun H' s=> by exact nT (⟨O,R.go s,fun v H2 s2 r2=> q v H2 (s.trans s2) r2⟩)⟩
 | false=> exact PE.mono (m8 hc (fun _ _ _ _ _ _ h=> h.elim) (hb rfl) (ta:=fun _ _ _=> False)) fun σ H Q ⟨O,R,q⟩=> ⟨O,R,fun H' s=> by exact ln (⟨O,R.go s,fun v H2 s2 r2=> q v H2 (s.trans s2) r2⟩)⟩
theorem ak:EvA X H0 O0 ps [] []:=PA.mono eg fun σ H Q ⟨O,R,q⟩=> q [] H (.refl H) .nil
theorem ac (ha:Ev X H0 O0 ps e u) (hr:EvA X H0 O0 ps es us) (hs:starEach (e::es) X.env=(false,eval e X.env)::starEach es X.env:=by rfl):EvA X H0 O0 ps (e::es) (u::us):=
 PA.mono (c_ ha hr hs) fun σ H Q ⟨O,R,q⟩=> ⟨O,R,fun v H1 s1 r1=> ⟨O,R.go s1,fun vs H2 s2 r2=> q _ H2 (s1.trans s2) (.cons (r1.same (aK s2)) r2)⟩⟩
theorem Rs.hidnew {K:PySem.W.Frag} {σ:St} {H:Hp} {O:List Addr} (R:Rs K H0 O0 ps σ H O) {p:Addr} {o:HO} (n:H p=none):hid (upd H p o) O p=some o:=cE aD fun z=> R.dom p z n
theorem AT {x1} (h:EvA X H0 O0 ps es us) (hz:us.length≤sizeLine:=by first | decide | (simp only [List.length_cons,List.length_nil]; decide)):Ev X H0 O0 ps (.Tuple es x1 pos) (.tup us):=
 PE.mono (yO h) fun σ H Q ⟨O,R,q⟩=> ⟨O,R,fun vs H1 s1 r1=> ⟨by rw [r1.len]; exact hz,fun p hp=> by
  have s2:=bg hp (.tup vs)
  have r2:=r1.same (aK (O:=O) s2)
  exact q _ _ (s1.trans s2) (.tup (SqT.of ((R.go s1).hidnew hp)) r2.len r2.at_)⟩⟩
theorem Ac (h:EvA X H0 O0 ps es us) (hz:us.length≤sizeLine:=by first | decide | (simp only [List.length_cons,List.length_nil]; decide)):EvN X H0 O0 ps (.List es pos) us:=
 PE.mono (zB h) fun σ H Q ⟨O,R,q⟩=> ⟨O,R,fun vs H1 s1 r1=> ⟨by rw [r1.len]; exact hz,fun p hp=> by
  exact q p vs _ (s1.trans (bg hp _)) (s1.free hp) aD (r1.same (bn (bg hp _) hp))⟩⟩
theorem bm (ha:Ev X H0 O0 ps a x) (hb:Ev X H0 O0 ps b (.int i)) (hx:x.items=some xs) (hi:atI xs i=some u) (hs:i0 b:=by intro _ _; rfl):Ev X H0 O0 ps (.Subscript a b pos) u:=
 PE.mono (uG (qo.or zS) ha hb hs) fun σ H Q ⟨O,R,q⟩=> two (y:=.int i) R (fun _ _ _ z=> z) (fun _ _ _ z=> z) fun v w H' s _ r1 r2=> by
  cases r2
  cases r1 with
  | scr h hl hh=> cases hx; obtain ⟨z,h1,h2⟩:=Rps.atI ⟨hl,hh⟩ hi; exact .inl ⟨_,_,i,z,rfl,rfl,aE.seq h,h1,q z H' s h2⟩
  | lst h hl hh=> cases hx; obtain ⟨z,h1,h2⟩:=Rps.atI ⟨hl,hh⟩ hi; exact .inl ⟨_,_,i,z,rfl,rfl,aE.seq (SqL.of h),h1,q z H' s h2⟩
  | tup h hl hh=> cases hx; obtain ⟨z,h1,h2⟩:=Rps.atI ⟨hl,hh⟩ hi; exact .inr ⟨_,_,i,z,rfl,rfl,aE.tup h,h1,q z H' s h2⟩
  | _=> cases hx
theorem xR (n:Nat) {x:Str} (h:ps[n]?=some (some (.own xs))) (hb:Ev X H0 O0 ps b (.int i)) (hi:atI xs i=some u) (hN:X.N[n]?=some x:=by rfl) (hv:Vis X.env.scope x:=by first | exact Or.inl rfl | exact Or.inr (Or.inl rfl) | exact Or.inr (Or.inr rfl)) (hd:(x==("__debug__":Str))=false:=by decide)
  (hcd:(x==("__classdict__":Str))=false:=by decide) (hs:i0 b:=by intro _ _; rfl):Ev X H0 O0 ps (.Subscript (.Name x p) b pos) u:=
 PE.mono (uG qo (dH hN hv hd hcd) hb hs) fun σ H Q ⟨O,R,q⟩=> by
  obtain ⟨v,h1,a,vs,rfl,h3,h4,h5,h6⟩:=R.at_ n _ h
  refine ⟨_,h1,O,R,fun w H' s r=> ?_⟩
  cases r
  obtain ⟨z,k1,k2⟩:=h6.atI hi
  exact ⟨a,vs,i,z,rfl,rfl,SqL.of (s _ _ h5),k1,q z H' s (k2.same (aK s))⟩
def dW (X:Cx) (f:Value) (us:List U) (u:U):Prop:=cJ X f fun vs H Q=> ∃ O,(∀ a∈O,H a≠none)∧Rps X.K (hid H O) vs us∧∀ v H',aC H H'→Rp X.K (hid H' O) v u→Q v H'
theorem aB {id:String} {f:Str} (hc:dW X (.builtin id) us u) (hg:Gl X f) (hm:X.mg f=none) (hv:bootBuiltins f=some (.builtin id)) (ha:EvA X H0 O0 ps (e::es) us) (hn:f≠"__name__":=by decide) (hdb:(f==("__debug__":Str))=false:=by decide)
  (he:starEach (e::es) X.env=(false,eval e X.env)::starEach es X.env:=by rfl) (hpl:(backTo pos (starEach es X.env)).any (·.1)=false:=by rfl):Ev X H0 O0 ps (.Call (.Name f p) (e::es) [] pos) u:=
 PE.mono (mH hc hg hm hv ha hn hdb he hpl) fun σ H Q ⟨O,R,q⟩=> ⟨O,R,fun vs H1 s1 r1=> ⟨O,(R.go s1).dom,r1,fun v H2 s2 r2=> q v H2 (s1.trans s2) r2⟩⟩
theorem dQ {id:String} {f:Str} (hc:dW X (.type id) us u) (hg:Gl X f) (hm:X.mg f=none) (hv:bootBuiltins f=some (.type id)) (ha:EvA X H0 O0 ps (e::es) us) (hn:f≠"__name__":=by decide) (hdb:(f==("__debug__":Str))=false:=by decide)
  (he:starEach (e::es) X.env=(false,eval e X.env)::starEach es X.env:=by rfl) (hpl:(backTo pos (starEach es X.env)).any (·.1)=false:=by rfl):Ev X H0 O0 ps (.Call (.Name f p) (e::es) [] pos) u:=
 PE.mono (qS hc hg hm hv ha hn hdb he hpl) fun σ H Q ⟨O,R,q⟩=> ⟨O,R,fun vs H1 s1 r1=> ⟨O,(R.go s1).dom,r1,fun v H2 s2 r2=> q v H2 (s1.trans s2) r2⟩⟩
theorem dq {K:PySem.W.Frag} {H:Hp} {vs:List V} (h:Rps K H vs [x]):∃ v,vs=[v]∧Rp K H v x:=by
 obtain ⟨v,ws,rfl,h1,h2⟩:=h.cons_inv
 rw [h2.nil_inv]
 exact ⟨v,rfl,h1⟩
theorem i_ {K:PySem.W.Frag} {H:Hp} {vs:List V} (h:Rps K H vs [x,y]):∃ v w,vs=[v,w]∧Rp K H v x∧Rp K H w y:=by
 obtain ⟨v,ws,rfl,h1,h2⟩:=h.cons_inv
 obtain ⟨w,rfl,h3⟩:=dq h2
 exact ⟨v,w,rfl,h1,h3⟩
theorem cJ.mono {f:Value} {r r':List V→Hp→VK→Prop} (h:cJ X f r) (m:∀ vs H Q,r' vs H Q→r vs H Q):cJ X f r':=fun pins s σ H vs us Q I v q=> h pins s σ H vs us Q I v (m vs H Q q)
theorem pQ {K:PySem.W.Frag} {H:Hp} {v:V} (h:Rp K H v x) (hx:x.items=some xs):∃ a vs,v=.ref a∧(SqL K H a vs∨SqT K H a vs)∧Rps K H vs xs:=by
 cases h with
 | scr h hl hh=> cases hx; exact ⟨_,_,rfl,.inl h,hl,hh⟩
 | lst h hl hh=> cases hx; exact ⟨_,_,rfl,.inl (SqL.of h),hl,hh⟩
 | tup h hl hh=> cases hx; exact ⟨_,_,rfl,.inr h,hl,hh⟩
 | _=> cases hx
theorem w6 {K:PySem.W.Frag} {H:Hp} {O:List Addr} {a:Addr} {vs:List V} (h:SqL K (hid H O) a vs∨SqT K (hid H O) a vs):SqL K H a vs∨SqT K H a vs:=h.imp (fun z=> aE.seq z) fun z=> aE.tup z
theorem dS (hx:x.items=some xs):dW X (.builtin "len") [x] (.int xs.length):=cJ.mono gN fun vs H Q ⟨O,d,r,q⟩=> by
 obtain ⟨v,rfl,h⟩:=dq r
 obtain ⟨a,ws,rfl,h1,h2⟩:=pQ h hx
 exact ⟨a,ws,rfl,w6 h1,by rw [h2.len]; exact q _ H (.refl H) (.int _)⟩
theorem yw (n:Nat) {x:Str} (h:ps[n]?=some (some (.own xs))) (hg:Gl X "len") (hm:X.mg "len"=none) (hN:X.N[n]?=some x:=by rfl) (hv:Vis X.env.scope x:=by first | exact Or.inl rfl | exact Or.inr (Or.inl rfl) | exact Or.inr (Or.inr rfl)) (hd:(x==("__debug__":Str))=false:=by decide)
  (hcd:(x==("__classdict__":Str))=false:=by decide) {pc p':Pos} (hs:starEach [.Name x p'] X.env=(false,eval (.Name x p') X.env)::starEach [] X.env:=by rfl) (hpl:(backTo pos (starEach [] X.env)).any (·.1)=false:=by rfl):Ev X H0 O0 ps (.Call (.Name "len" pc) [.Name x p'] [] pos) (.int xs.length):=
 PE.mono (mH gN hg hm PySem.boot_len (c_ (dH hN hv hd hcd) eg hs) (by decide) (by decide) hs hpl) fun σ H Q ⟨O,R,q⟩=> by
  obtain ⟨v,h1,a,vs,rfl,h3,h4,h5,h6⟩:=R.at_ n _ h
  exact ⟨_,h1,a,vs,rfl,.inl (SqL.of h5),by rw [h6.len]; exact q _ H (.refl H) (.int _)⟩
theorem AX:dW X (.builtin "abs") [.int i] (.int (if i < 0 then -i else i)):=cJ.mono tE fun vs H Q ⟨O,d,r,q⟩=> by
 obtain ⟨v,rfl,h⟩:=dq r
 cases h
 exact ⟨i,rfl,q _ H (.refl H) (.int _)⟩
theorem xQ (hc:X.calm=true):dW X (.builtin "max") [.int i,.int j] (.int (if j > i then j else i)):=cJ.mono (rG hc) fun vs H Q ⟨O,d,r,q⟩=> by
 obtain ⟨v,w,rfl,h,h2⟩:=i_ r
 cases h; cases h2
 exact ⟨i,j,rfl,q _ H (.refl H) (.int _)⟩
theorem tp (hc:X.calm=true):dW X (.builtin "min") [.int i,.int j] (.int (if j < i then j else i)):=cJ.mono (rB hc) fun vs H Q ⟨O,d,r,q⟩=> by
 obtain ⟨v,w,rfl,h,h2⟩:=i_ r
 cases h; cases h2
 exact ⟨i,j,rfl,q _ H (.refl H) (.int _)⟩
theorem yZ:dW X (.type "int") [.bl k] (.int (if k then 1 else 0)):=cJ.mono om fun vs H Q ⟨O,d,r,q⟩=> by
 obtain ⟨v,rfl,h⟩:=dq r
 cases h
 exact ⟨k,rfl,q _ H (.refl H) (.int _)⟩
def tyU:U→Value
 | .non=> .type "NoneType" | .bl _=> .type "bool" | .int _=> .type "int" | .str _=> .type "str" | .ty _=> .type "type" | .dic=> .type "dict" | .scr _=> .type "list" | .tup _=> .type "tuple" | .lst _=> .type "list"
theorem jV {n:String} (hn:∀ m,x≠.ty m) (h:PySem.W.kitOne X.K (tyU x) (.type n)=some k):dW X (.builtin "isinstance") [x,.ty (.nm n)] (.bl k):=by
 intro pins s σ H vs us Q I r hq
 obtain ⟨O,d,rs,q⟩:=hq
 obtain ⟨v,w,rfl,h1,h2⟩:=i_ rs
 cases h2
 obtain ⟨p1,p2,rfl,r1,r2⟩:=mw r
 cases (show p2=Value.type n from r2)
 have fin:∀ tk,EP X pins σ Q (.bool k) { s with toks:=tk }:=fun tk=> ⟨.bl k,H,I.tok _,rfl,q _ H (.refl H) (.bl _)⟩
 cases h1 with
 | non=> exact dC I r1 .non h fin
 | bl b=> exact dC I r1 (.bl b) h fin
 | int b=> exact dC I r1 (.int b) h fin
 | str b=> exact dC I r1 (.str b) h fin
 | ty m=> exact absurd rfl (hn _)
 | dic e=> exact dC I r1 (.dK (aE _ _ e)) h fin
 | xc e kk=> exact absurd rfl (hn _)
 | scr e hl hh=>
  cases r1
  obtain ⟨its,_,pl,_⟩:=I.list (aE.seq e)
  obtain ⟨o,nn,e1,e2,_⟩:=pl
  exact PySem.W.kia_one PySem.W.kitx_list I.kIn ⟨o,e1,e2⟩ h (fun z=> nomatch z) fin
 | lst e hl hh=> exact dC I r1 (.lst (aE _ _ e)) h fin
 | tup e hl hh=>
  cases r1
  obtain ⟨its,_,pl,_⟩:=I.tuple (aE.tup e)
  obtain ⟨o,e1,e2,_⟩:=pl
  exact PySem.W.kia_one PySem.W.kitx_tuple I.kIn ⟨o,e1,e2⟩ h (fun z=> nomatch z) fin
end
end L2
namespace L2
open PySem PySem.Spec PyProof.Rows
inductive Out where
 | val (u:U) | new (xs:List U) | exc (C:Addr) | dsk (d:Addr) (u:U) (kvs:List (Str×U))
def ke (K:PySem.W.Frag) (H0:Hp) (O0:List Addr) (Q:VK) (E:XK):Out→Prop
 | .val u=> ∀ v H',aC H0 H'→Rp K (hid H' O0) v u→Q v H'
 | .new xs=> ∀ a vs H',aC H0 H'→H0 a=none→H' a=some (.lst vs)→Rps K (hid H' (a::O0)) vs xs→Q (.ref a) H'
 | .exc C=> ∀ H',aC H0 H'→E (.ref C) none H'
 | .dsk d u kvs=> ∀ v kv H',aC H0 H'→H' d=some (.dK kv)→DkR K (hid H' (d::O0)) kv kvs→Rp K (hid H' (d::O0)) v u→Q v H'
theorem ke.later {K:PySem.W.Frag} {H0 H1:Hp} {O0:List Addr} {Q:VK} {E:XK} {o:Out} (e:aC H0 H1) (h:ke K H0 O0 Q E o):ke K H1 O0 Q E o:=by
 cases o with
 | val u=> exact fun v H' s r=> h v H' (e.trans s) r
 | new xs=> exact fun a vs H' s n q r=> h a vs H' (e.trans s) (e.free n) q r
 | exc C=> exact fun H' s=> h H' (e.trans s)
 | dsk d u kvs=> exact fun v kv H' s q r p=> h v kv H' (e.trans s) q r p
structure PD where
 nx:PSt→Prop
 rt:Out→Prop
 bk:PSt→Prop:=fun _=> False
 ct:PSt→Prop:=fun _=> False
structure Lf (K:PySem.W.Frag) (H0:Hp) (O0:List Addr) (E:XK) (D:PD) (D':jC):Prop where
 nx:∀ ps σ H O,Rs K H0 O0 ps σ H O→D.nx ps→D'.nx σ H
 bk:∀ ps σ H O,Rs K H0 O0 ps σ H O→D.bk ps→D'.bk σ H
 ct:∀ ps σ H O,Rs K H0 O0 ps σ H O→D.ct ps→D'.ct σ H
 rt:∀ o,D.rt o→ke K H0 O0 D'.rt E o
def Ws (X:Cx) (H0:Hp) (O0:List Addr) (E:XK) (ss:List Stmt) (D:PD) (ps:PSt):Prop:=PSs X ss fun D' σ H=> Lf X.K H0 O0 E D D'∧∃ O,Rs X.K H0 O0 ps σ H O
def W1 (X:Cx) (H0:Hp) (O0:List Addr) (E:XK) (s:Stmt) (D:PD) (ps:PSt):Prop:=PS X s fun D' σ H=> Lf X.K H0 O0 E D D'∧∃ O,Rs X.K H0 O0 ps σ H O
section
variable {X:Cx} {H0:Hp} {O0:List Addr} {E:XK} {ps ps':PSt} {D:PD} {s:Stmt} {ss body:List Stmt} {a b c e:Expr} {es:List Expr} {pos p:Pos} {u x y:U} {xs ys us:List U} {k:Bool}
theorem ax (h:D.nx ps):Ws X H0 O0 E [] D ps:=PSs.mono xk fun D' σ H ⟨L,O,R⟩=> L.nx ps σ H O R h
theorem ae (h:W1 X H0 O0 E s { D with nx:=fun p=> Ws X H0 O0 E ss D p } ps):Ws X H0 O0 E (s::ss) D ps:=by
 have h2:PSs X ss fun D' σ H=> ∃ p,Ws X H0 O0 E ss D p∧Lf X.K H0 O0 E D D'∧∃ O,Rs X.K H0 O0 p σ H O:=fun pins s σ H D' I ⟨p,w,l,r⟩=> w pins s σ H D' I ⟨l,r⟩
 exact PSs.mono (vi h h2) fun D' σ H ⟨L,O,R⟩=> ⟨⟨fun p σ H O R q=> ⟨p,q,L,O,R⟩,L.bk,L.ct,L.rt⟩,O,R⟩
theorem eJ (h:Ws X H0 O0 E ss D ps') (hs:SubP ps' ps):Ws X H0 O0 E ss D ps:=PSs.mono h fun D' σ H ⟨L,O,R⟩=> ⟨L,O,R.sub hs⟩
theorem aU {i:Nat} {x:Str} {pos':Pos} (hN:X.N.Nodup) (hi:X.N[i]?=some x) (hx:Loc X.env.scope x) (he:Ev X H0 O0 ps e u) (h:D.nx (ps.set i (some (.val u)))) (hs:swapsWith e (some (.Name x pos')) pos.line X.env=pure false:=by rfl) (hf:X.fn x=true∨X.env.scope.names.lookup x=some .local:=by first | exact .inl rfl | exact .inr rfl | assumption):
  W1 X H0 O0 E (.Assign [.Name x pos'] e pos) D ps:=PS.mono (oU hN hi hx he hs hf) fun D' σ H ⟨L,O,R⟩=> ⟨O,R,fun v H' s r=> L.nx _ _ _ O ((R.go s).set r) h⟩
theorem pJ {i:Nat} {x:Str} {pos':Pos} (hN:X.N.Nodup) (hi:X.N[i]?=some x) (hx:Loc X.env.scope x) (he:EvN X H0 O0 ps e xs) (h:D.nx (ps.set i (some (.own xs)))) (hs:swapsWith e (some (.Name x pos')) pos.line X.env=pure false:=by rfl) (hf:X.fn x=true∨X.env.scope.names.lookup x=some .local:=by first | exact .inl rfl | exact .inr rfl | assumption):
  W1 X H0 O0 E (.Assign [.Name x pos'] e pos) D ps:=PS.mono (oU hN hi hx he hs hf) fun D' σ H ⟨L,O,R⟩=> ⟨O,R,fun a vs H' s n q r=> L.nx _ _ _ _ (R.own s n q r) h⟩
theorem jo {tb fb:List Stmt} (hc:Tt X H0 O0 ps c k) (h1:k=true→Ws X H0 O0 E tb D ps) (h2:k=false→Ws X H0 O0 E fb D ps):W1 X H0 O0 E (.If c tb fb pos) D ps:=by
 cases k with
 | true=> exact PS.mono (vz hc (h1 rfl) (fun _ _ _ _ _ _ h=> h.elim) (u:=fun _ _ _=> False)) fun D' σ H ⟨L,O,R⟩=> ⟨O,R,fun H' s=> nT ⟨L,O,R.go s⟩⟩
 | false=> exact PS.mono (vz hc (fun _ _ _ _ _ _ h=> h.elim) (h2 rfl) (t:=fun _ _ _=> False)) fun D' σ H ⟨L,O,R⟩=> ⟨O,R,fun H' s=> ln ⟨L,O,R.go s⟩⟩
theorem Rs.ret {K:PySem.W.Frag} {σ:St} {H:Hp} {O:List Addr} {v:V} (R:Rs K H0 O0 ps σ H O) (r:Rp K (hid H O) v u):Rp K (hid H O0) v u:=r.same (aR R.old)
theorem bo (he:Ev X H0 O0 ps e u) (h:D.rt (.val u)):W1 X H0 O0 E (.Return (some e) pos) D ps:=
 PS.mono (jQ he) fun D' σ H ⟨L,O,R⟩=> ⟨O,R,fun v H' s r=> L.rt _ h v H' (R.same.trans s) ((R.go s).ret r)⟩
theorem gr (he:EvN X H0 O0 ps e xs) (h:D.rt (.new xs)):W1 X H0 O0 E (.Return (some e) pos) D ps:=
 PS.mono (jQ he) fun D' σ H ⟨L,O,R⟩=> ⟨O,R,fun a vs H' s n q r=> L.rt _ h a vs H' (R.same.trans s) (R.same.free n) q (r.same (aR fun b hb=> by
  rcases List.mem_cons.mp hb with y | y
  ·subst y; exact List.mem_cons_self
  ·exact List.mem_cons_of_mem _ (R.old b y)))⟩
theorem oz (i:Nat) {x:Str} (hp:ps[i]?=some (some (.own xs))) (h:D.rt (.new xs)) (hN:X.N[i]?=some x:=by rfl) (hv:Vis X.env.scope x:=by first | exact Or.inl rfl | exact Or.inr (Or.inl rfl) | exact Or.inr (Or.inr rfl)) (hd:(x==("__debug__":Str))=false:=by decide)
  (hcd:(x==("__classdict__":Str))=false:=by decide):W1 X H0 O0 E (.Return (some (.Name x p)) pos) D ps:=
 PS.mono (jQ (dH hN hv hd hcd)) fun D' σ H ⟨L,O,R⟩=> by
  obtain ⟨v,h1,a,vs,rfl,h3,h4,h5,h6⟩:=R.at_ i _ hp
  refine ⟨_,h1,L.rt _ h a vs H R.same ((R.new a h3).resolve_left h4) h5 (h6.same (aR fun b hb=> ?_))⟩
  rcases List.mem_cons.mp hb with y | y
  ·subst y; exact h3
  ·exact R.old b y
theorem k_ (he:Ev X H0 O0 ps e u) (h:D.nx ps) (hs:swapsWith e none pos.line X.env=pure false:=by rfl):W1 X H0 O0 E (.Expr e pos) D ps:=
 PS.mono (mm he hs) fun D' σ H ⟨L,O,R⟩=> ⟨O,R,fun v H' s r=> L.nx _ _ _ O (R.go s) h⟩
theorem z8 {i:Nat} {x:Str} {op:Operator} {pos':Pos} {n m:Int} {g:Int→Int→Int} (ho:PIp X op (ipI g)) (hN:X.N.Nodup) (hi:X.N[i]?=some x) (hx:Loc X.env.scope x) (hp:ps[i]?=some (some (.val (.int n)))) (he:Ev X H0 O0 ps e (.int m)) (h:D.nx (ps.set i (some (.val (.int (g n m))))))
  (hf:X.fn x=true∨X.env.scope.names.lookup x=some .local:=by first | exact .inl rfl | exact .inr rfl | assumption):W1 X H0 O0 E (.AugAssign (.Name x pos') op e pos) D ps:=
 PS.mono (y6 hN hi hx he ho hf) fun D' σ H ⟨L,O,R⟩=> by
  obtain ⟨v,h1,h2⟩:=R.at_ i _ hp
  cases h2
  refine ⟨_,h1,O,R,fun v H' s r=> ?_⟩
  cases r
  exact ⟨n,m,rfl,rfl,L.nx _ _ _ O ((R.go s).set (.int _)) h⟩
theorem g_ (i:Nat) {x:Str} {apos cpos xp:Pos} (hp:ps[i]?=some (some (.own xs))) (ha:Ev X H0 O0 ps e u) (hz:xs.length < sizeLine) (h:D.nx (ps.set i (some (.own (xs++[u])))))
  (hN:X.N[i]?=some x:=by rfl) (hv:Vis X.env.scope x:=by first | exact Or.inl rfl | exact Or.inr (Or.inl rfl) | exact Or.inr (Or.inr rfl)) (hd:(x==("__debug__":Str))=false:=by decide) (hcd:(x==("__classdict__":Str))=false:=by decide)
  (hbase:attributeBase (.Name x xp) "append" X.env (eval (.Name x xp) X.env)=eval (.Name x xp) X.env:=by rfl)
  (hfew:((backTo cpos (starEach [e] X.env)).all (fun x=> !x.1) && (backToKw cpos (keywordEach [] X.env)).all (fun x=> x.1.isSome) && decide ([e].length+([]:List Keyword).length+(if ([]:List Keyword).isEmpty then 0 else 1) < 30))=true:=by rfl)
  (hline:(apos.endLine==cpos.line)=true:=by rfl) (hse:starEach [e] X.env=(false,eval e X.env)::starEach [] X.env:=by rfl) (hplain:(backTo cpos (starEach [] X.env)).any (·.1)=false:=by rfl)
  (hs:swapsWith (.Call (.Attribute (.Name x xp) "append" apos) [e] [] cpos) none pos.line X.env=pure false:=by rfl):W1 X H0 O0 E (.Expr (.Call (.Attribute (.Name x xp) "append" apos) [e] [] cpos) pos) D ps:=
 PS.mono (mm (nL PySem.F.plainAttrs_list PySem.F.slot_list_append PySem.F.type_list_append iC (dH hN hv hd hcd) (c_ ha eg hse) hbase hfew hline hse hplain) hs) fun D' σ H ⟨L,O,R⟩=> by
  obtain ⟨v,h1,a,vs,rfl,h3,h4,h5,h6⟩:=R.at_ i _ hp
  refine ⟨_,h1,.inl ⟨rfl,_,SqL.of h5⟩,O,R,fun w H' s r=> ⟨a,vs,w,rfl,rfl,s _ _ h5,by rw [h6.len]; exact hz,?_⟩⟩
  exact L.nx _ _ _ O ((R.go s).write hp h1 ((h6.same (aK s)).snoc (.cons r .nil))) h
theorem AM (i:Nat) {x:Str} {apos cpos xp:Pos} (hp:ps[i]?=some (some (.own xs))) (hne:xs≠[]) (h:D.nx (ps.set i (some (.own xs.dropLast))))
  (hN:X.N[i]?=some x:=by rfl) (hv:Vis X.env.scope x:=by first | exact Or.inl rfl | exact Or.inr (Or.inl rfl) | exact Or.inr (Or.inr rfl)) (hd:(x==("__debug__":Str))=false:=by decide) (hcd:(x==("__classdict__":Str))=false:=by decide)
  (hbase:attributeBase (.Name x xp) "pop" X.env (eval (.Name x xp) X.env)=eval (.Name x xp) X.env:=by rfl)
  (hline:(apos.endLine==cpos.line)=true:=by rfl)
  (hs:swapsWith (.Call (.Attribute (.Name x xp) "pop" apos) [] [] cpos) none pos.line X.env=pure false:=by rfl):W1 X H0 O0 E (.Expr (.Call (.Attribute (.Name x xp) "pop" apos) [] [] cpos) pos) D ps:=
 PS.mono (mm (sS PySem.F.plainAttrs_list PySem.F.slot_list_pop PySem.F.type_list_pop y4 (dH hN hv hd hcd) hbase hline) hs) fun D' σ H ⟨L,O,R⟩=> by
  obtain ⟨v,h1,a,vs,rfl,h3,h4,h5,h6⟩:=R.at_ i _ hp
  have hpos:0 < vs.length:=by rw [h6.len]; exact List.length_pos_iff.mpr hne
  have hlt:vs.length - 1 < vs.length:=by omega
  refine ⟨_,h1,.inl ⟨rfl,_,SqL.of h5⟩,a,vs,vs[vs.length - 1],rfl,rfl,h5,List.getElem?_eq_getElem hlt,?_⟩
  refine L.nx _ _ _ O (R.write hp h1 ⟨by simp [h6.len],fun j v x e1 e2=> ?_⟩) h
  rw [List.getElem?_dropLast] at e1 e2
  split at e1
  ·split at e2
   ·exact h6.at_ j v x e1 e2
   ·cases e2
  ·cases e1
end
end L2
namespace L2
open PySem PySem.Spec PyProof.Rows
def jr:List Nat→TGs
 | []=> Ak
 | j::js=> x4 (jD j) (jr js)
def setAll:PSt→List Nat→List U→PSt
 | ps,j::js,u::us=> setAll (ps.set j (some (.val u))) js us
 | ps,_,_=> ps
def i6:St→List Nat→List V→St
 | σ,j::js,u::us=> i6 (σ.set j (some u)) js us
 | σ,_,_=> σ
theorem Rs.setAll {K:PySem.W.Frag} {H0:Hp} {O0:List Addr} {H:Hp} {O:List Addr}:∀ {js:List Nat} {ps:PSt} {σ:St} {vs:List V} {us:List U},Rs K H0 O0 ps σ H O→Rps K (hid H O) vs us→Rs K H0 O0 (L2.setAll ps js us) (i6 σ js vs) H O
 | [],ps,σ,vs,us,R,r=> by cases us <;> cases vs <;> exact R
 | j::js,ps,σ,vs,[],R,r=> by rw [r.nil_inv]; exact R
 | j::js,ps,σ,vs,u::us,R,r=> by
  obtain ⟨v,ws,rfl,h1,h2⟩:=r.cons_inv
  exact Rs.setAll (js:=js) (R.set h1) h2
theorem eP {Q:St→Hp→Prop} {H:Hp}:∀ {js:List Nat} {σ:St} {vs:List V},vs.length=js.length→Q (i6 σ js vs) H→jr js vs σ H Q
 | [],σ,[],_,q=> ⟨rfl,q⟩
 | j::js,σ,v::vs,e,q=> ⟨v,vs,rfl,eP (js:=js) (by simpa using e) q⟩
 | [],_,_::_,e,_=> by simp at e
 | _::_,_,[],e,_=> by simp at e
def TgS (X:Cx) (H0:Hp) (O0:List Addr) (tg:Expr) (ps:PSt) (u:U) (ps':PSt):Prop:=
 PG X tg fun v σ H Q=> ∃ O,Rs X.K H0 O0 ps σ H O∧Rp X.K (hid H O) v u∧∀ σ' H',aC H H'→Rs X.K H0 O0 ps' σ' H' O→Q σ' H'
theorem PG.mono {X:Cx} {e:Expr} {t t':TG} (h:PG X e t) (m:∀ v σ H Q,t' v σ H Q→t v σ H Q):PG X e t':=fun pins s σ H v u Q I r q=> h pins s σ H v u Q I r (m v σ H Q q)
theorem PI.mono {X:Cx} {tg e:Expr} {t t':TI} (h:PI X tg e t) (m:∀ σ H Q,t' σ H Q→t σ H Q):PI X tg e t':=fun pins s σ H Q I q=> h pins s σ H Q I (m σ H Q q)
def Yl (K:PySem.W.Frag) (J:It) (G:Hp) (xs:List U):Prop:=
 ∀ H2,aC G H2→(∀ i,i < xs.length→J.go i H2∧∀ x H3,J.yld i H2 x H3→H3=H2∧∃ u,xs[i]?=some u∧Rp K G x u)∧J.stop xs.length H2
def EvI (X:Cx) (H0:Hp) (O0:List Addr) (ps:PSt) (tg iter:Expr) (xs:List U):Prop:=
 PI X tg iter fun σ H R=> ∃ O,Rs X.K H0 O0 ps σ H O∧∀ J H',aC H H'→Yl X.K J (hid H' O) xs→R J H'
section
variable {X:Cx} {H0:Hp} {O0:List Addr} {E:XK} {ps ps':PSt} {D:PD} {s:Stmt} {ss body:List Stmt} {a b c e tg iter:Expr} {es:List Expr} {pos p:Pos} {u x y:U} {xs ys us:List U} {k:Bool}
theorem ma {i:Nat} {x:Str} (hN:X.N.Nodup) (hi:X.N[i]?=some x) (hx:Loc X.env.scope x) (hf:X.fn x=true∨X.env.scope.names.lookup x=some .local:=by first | exact .inl rfl | exact .inr rfl | assumption):TgS X H0 O0 (.Name x pos) ps u (ps.set i (some (.val u))):=
 PG.mono (aJ hN hi hx hf) fun v σ H Q ⟨O,R,r,q⟩=> q _ H (.refl H) (R.set r)
theorem Aj {k:Nat} (js:List Nat) (hc:X.calm=true) (h:PGs X es (jr js)) (hl:us.length=js.length) (hn:(assignEach es X.env).length=js.length:=by rfl) (hst:(assignEach es X.env).findIdx? (·.1)=none:=by rfl):TgS X H0 O0 (.Tuple es k pos) ps (.tup us) (setAll ps js us):=
 PG.mono (fE hc h hn hst) fun v σ H Q ⟨O,R,r,q⟩=> by
  cases r with
  | tup hq hl' hh=> exact ⟨_,_,rfl,aE.tup hq,hl'.trans hl,eP (hl'.trans hl) (q _ H (.refl H) (R.setAll ⟨hl',hh⟩))⟩
theorem xG {k:Nat} (js:List Nat) (hc:X.calm=true) (h:PGs X es (jr js)) (hx:x=.lst us∨x=.scr us) (hl:us.length=js.length) (hn:(assignEach es X.env).length=js.length:=by rfl) (hst:(assignEach es X.env).findIdx? (·.1)=none:=by rfl):TgS X H0 O0 (.Tuple es k pos) ps x (setAll ps js us):=
 PG.mono (yy hc h hn hst) fun v σ H Q ⟨O,R,r,q⟩=> by
  rcases hx with rfl | rfl
  ·cases r with
   | lst hq hl' hh=> exact ⟨_,_,rfl,aE.seq (SqL.of hq),hl'.trans hl,eP (hl'.trans hl) (q _ H (.refl H) (R.setAll ⟨hl',hh⟩))⟩
  ·cases r with
   | scr hq hl' hh=> exact ⟨_,_,rfl,aE.seq hq,hl'.trans hl,eP (hl'.trans hl) (q _ H (.refl H) (R.setAll ⟨hl',hh⟩))⟩
theorem x0 (he:Ev X H0 O0 ps e u) (hg:TgS X H0 O0 tg ps u ps') (h:D.nx ps') (hs:swapsWithSole [tg] e pos.line X.env=pure false:=by rfl) (hw:swappedStores [tg] e X.env=pure none:=by rfl)
  (h1:(assignEach [tg] X.env).map (·.2)=[assign tg X.env]:=by rfl):W1 X H0 O0 E (.Assign [tg] e pos) D ps:=
 PS.mono (yp he hg hs hw h1) fun D' σ H ⟨L,O,R⟩=> ⟨O,R,fun v H1 s1 r1=> ⟨O,R.go s1,r1,fun σ' H2 s2 R2=> L.nx _ _ _ O R2 h⟩⟩
theorem dw (he:Ev X H0 O0 ps iter x) (hx:x=.lst xs∨x=.scr xs):EvI X H0 O0 ps tg iter xs:=
 PI.mono (wq he) fun σ H Q ⟨O,R,q⟩=> ⟨O,R,fun v H' s r=> by
  have key:∃ a vs,v=.ref a∧SqL X.K (hid H' O) a vs∧Rps X.K (hid H' O) vs xs:=by
   rcases hx with rfl | rfl
   ·cases r with
    | lst hq hl hh=> exact ⟨_,_,rfl,SqL.of hq,hl,hh⟩
   ·cases r with
    | scr hq hl hh=> exact ⟨_,_,rfl,hq,hl,hh⟩
  obtain ⟨a,vs,rfl,hq,rs⟩:=key
  refine ⟨a,rfl,⟨vs,aE.seq hq⟩,q _ H' s fun H2 s2=> ⟨fun i hi=> ?_,⟨vs,s2.seq hq,by rw [rs.len]; exact Nat.le_refl _⟩⟩⟩
  have hi':i < vs.length:=by rw [rs.len]; exact hi
  refine ⟨⟨vs,vs[i],s2.seq hq,List.getElem?_eq_getElem hi'⟩,fun z H3 y=> ⟨y.1,xs[i],List.getElem?_eq_getElem hi,rs.at_ i z _ (y.2 vs (s2.seq hq)) (List.getElem?_eq_getElem hi)⟩⟩⟩
def fO (lo c:Int) (n:Nat):List U:=(List.range n).map fun (i:Nat)=> U.int (lo+(i:Int) * c)
theorem dU {lo c:Int} {n:Nat}:(fO lo c n).length=n:=by simp [fO]
theorem jq {lo c:Int} {n i:Nat} (h:i < n):(fO lo c n)[i]?=some (.int (lo+(i:Int) * c)):=by
 unfold fO
 rw [List.getElem?_map,List.getElem?_range h]; rfl
theorem iL {lo c:Int} {n i:Nat} {x:U} (h:(fO lo c n)[i]?=some x):i < n∧x=.int (lo+(i:Int) * c):=by
 have hi:=be h
 rw [dU] at hi
 rw [jq hi] at h
 exact ⟨hi,(Option.some.inj h).symm⟩
theorem m9 {i j m:Int} (hg:Gl X "range") (hm:X.mg "range"=none) (ha:EvA X H0 O0 ps [a,b,c] [.int i,.int j,.int m]) (h:-(2 ^ 60)≤i∧i < 2 ^ 60∧-(2 ^ 60)≤j∧j < 2 ^ 60∧0 < m∧m < 2 ^ 30) (hs:starEach [a,b,c] X.env=[(false,eval a X.env),(false,eval b X.env),(false,eval c X.env)]:=by rfl)
  (hs2:starEach [b,c] X.env=[(false,eval b X.env),(false,eval c X.env)]:=by rfl):
  EvI X H0 O0 ps tg (.Call (.Name "range" p) [a,b,c] [] pos) (fO i m (dZ i j m)):=
 PI.mono (qP hg hm ha hs hs2) fun σ H Q ⟨O,R,q⟩=> ⟨O,R,fun vs H' s r=> by
  obtain ⟨v,ws,rfl,k1,k2⟩:=r.cons_inv
  obtain ⟨w,z,rfl,k2,k3⟩:=i_ k2
  cases k1; cases k2; cases k3
  refine ⟨i,j,m,rfl,h,q _ H' s fun H2 s2=> ?_⟩
  rw [dU]
  refine ⟨fun i hi=> ⟨hi,fun z H3 y=> ⟨y.1,_,jq hi,?_⟩⟩,Nat.le_refl _⟩
  rw [y.2]; exact .int _⟩
theorem Rs.rebase {K:PySem.W.Frag} {σ:St} {H:Hp} {O:List Addr} (R:Rs K H0 O0 ps σ H O):Rs K (hid H (O.filter fun a=> decide (a ∉ O0))) O0 ps σ H O:=
 ⟨aE,R.old,fun a ha=> by
  by_cases h:a∈O0
  ·exact .inl h
  ·right; unfold hid; rw [if_pos (List.mem_filter.mpr ⟨ha,by simpa using h⟩)],R.dom,R.len,R.at_,R.inj⟩
theorem Rs.base {K:PySem.W.Frag} {σ:St} {H:Hp} {O:List Addr} (R:Rs K H0 O0 ps σ H O):aC H0 (hid H (O.filter fun a=> decide (a ∉ O0))):=fun b o h=> by
 refine cE (R.same b o h) fun z=> ?_
 obtain ⟨z1,z2⟩:=List.mem_filter.mp z
 rcases R.new b z1 with y | y
 ·simp [y] at z2
 ·rw [h] at y; cases y
theorem Rs.unbase {K:PySem.W.Frag} {H1:Hp} {σ:St} {H:Hp} {O:List Addr} (e:aC H0 H1) (R:Rs K H1 O0 ps σ H O):Rs K H0 O0 ps σ H O:=
 ⟨e.trans R.same,R.old,fun a ha=> (R.new a ha).imp id fun z=> e.free z,R.dom,R.len,R.at_,R.inj⟩
theorem Rs.seen {K:PySem.W.Frag} {ps2:PSt} {σ σ2:St} {H H2:Hp} {O O2:List Addr} (R:Rs K H0 O0 ps σ H O) (R2:Rs K (hid H (O.filter fun a=> decide (a ∉ O0))) O0 ps2 σ2 H2 O2):aC (hid H O) (hid H2 O2):=fun b o h=> by
 obtain ⟨h1,h2⟩:=fk h
 have h3:hid H (O.filter fun a=> decide (a ∉ O0)) b=some o:=cE h1 fun z=> h2 (List.mem_filter.mp z).1
 refine cE (R2.same b o h3) fun z=> ?_
 rcases R2.new b z with y | y
 ·exact h2 (R.old b y)
 ·rw [h3] at y; cases y
theorem AG (hc:X.calm=true) (hp:PassesOwn (model X.prog X.w) X.A X.env X.xe) (hi:EvI X H0 O0 ps tg iter xs) (Iv:Nat→PSt→Prop) (h0:Iv 0 ps)
  (hs:∀ (H0:Hp) (i:Nat) (x:U) (ps:PSt),xs[i]?=some x→Iv i ps→∃ ps',TgS X H0 O0 tg ps x ps'∧Ws X H0 O0 E body { D with nx:=Iv (i+1),ct:=Iv (i+1),bk:=D.nx } ps') (hd:∀ ps,Iv xs.length ps→D.nx ps)
  (hf:∀ x,foldedSetIterable iter X.env x=pure x:=by intro _; rfl):W1 X H0 O0 E (.For tg iter body [] pos) D ps:=by
 have hg:PG X tg fun v σ H Q=> ∃ H1 ps u ps',TgS X H1 O0 tg ps u ps'∧∃ O,Rs X.K H1 O0 ps σ H O∧Rp X.K (hid H O) v u∧∀ σ' H',aC H H'→Rs X.K H1 O0 ps' σ' H' O→Q σ' H':=
  fun pins s σ H v u Q I r ⟨H1,ps,w,ps',t,z⟩=> t pins s σ H v u Q I r z
 have hb:PSs X body fun D' σ H=> ∃ H1 D1 ps',Ws X H1 O0 E body D1 ps'∧Lf X.K H1 O0 E D1 D'∧∃ O,Rs X.K H1 O0 ps' σ H O:=fun pins s σ H D' I ⟨H1,D1,ps',w,z⟩=> w pins s σ H D' I z
 refine PS.mono (ze hp hc hi hg hb hf) fun D' σ H ⟨L,O,R⟩=> ⟨O,R,fun J H1 s1 Y=> ?_⟩
 have R1:=R.go s1
 have base:=R1.base
 refine ⟨fun i m σ H=> m=xs.length - i∧i≤xs.length∧∃ ps O',Iv i ps∧Rs X.K (hid H1 (O.filter fun a=> decide (a ∉ O0))) O0 ps σ H O',⟨_,rfl,Nat.zero_le _,ps,O,h0,R1.rebase⟩,?_⟩
 rintro i m σ2 H2 ⟨rfl,hi2,ps2,O2,iv,R2⟩
 have seen:=R1.seen R2
 obtain ⟨y1,y2⟩:=Y H2 (seen.trans aE)
 by_cases hlt:i < xs.length
 ·obtain ⟨g1,g2⟩:=y1 i hlt
  refine .inr ⟨g1,fun σ' H'=> ∃ ps O',Iv (i+1) ps∧Rs X.K (hid H1 (O.filter fun a=> decide (a ∉ O0))) O0 ps σ' H' O',fun σ' H' z=> ⟨xs.length - (i+1),by omega,rfl,hlt,z⟩,fun x H3 y=> ?_⟩
  obtain ⟨rfl,u,hu,r⟩:=g2 x H3 y
  obtain ⟨ps',t,w⟩:=hs (hid H1 (O.filter fun a=> decide (a ∉ O0))) i u ps2 hu iv
  refine ⟨_,ps2,u,ps',t,O2,R2,r.same seen,fun σ' H' s' R'=> ⟨_,_,ps',w,?_,O2,R'⟩⟩
  exact ⟨fun p σ H O R q=> ⟨p,O,q,R⟩,fun p σ H O R q=> L.nx _ _ _ _ (R.unbase base) q,fun p σ H O R q=> ⟨p,O,q,R⟩,fun o q=> (L.rt o q).later base⟩
 ·have e:i=xs.length:=by omega
  subst e
  exact .inl ⟨y2,L.nx _ _ _ _ (R2.unbase base) (hd ps2 iv)⟩
theorem wv (hp:PassesOwn (model X.prog X.w) X.A X.env X.xe) (Iv:Nat→PSt→Prop) (m:Nat) (h0:Iv m ps)
  (hs:∀ m ps,Iv m ps→∃ b,Tt X H0 O0 ps c b∧(b=true→Ws X H0 O0 E body { D with nx:=fun p=> ∃ m',m' < m∧Iv m' p,ct:=fun p=> ∃ m',m' < m∧Iv m' p,bk:=D.nx } ps)∧(b=false→D.nx ps)):W1 X H0 O0 E (.While c body [] pos) D ps:=by
 have ht:PT X c fun σ H Q=> ∃ ps b,Tt X H0 O0 ps c b∧∃ O,Rs X.K H0 O0 ps σ H O∧∀ H',aC H H'→Q b H':=fun pins s σ H Q I ⟨ps,b,t,z⟩=> t pins s σ H Q I z
 have hb:PSs X body fun D' σ H=> ∃ D1 ps',Ws X H0 O0 E body D1 ps'∧Lf X.K H0 O0 E D1 D'∧∃ O,Rs X.K H0 O0 ps' σ H O:=fun pins s σ H D' I ⟨D1,ps',w,z⟩=> w pins s σ H D' I z
 refine PS.mono (uQ hp ht hb) fun D' σ H ⟨L,O,R⟩=> ⟨fun m σ H=> ∃ ps O,Iv m ps∧Rs X.K H0 O0 ps σ H O,⟨m,ps,O,h0,R⟩,?_⟩
 rintro m σ2 H2 ⟨ps2,O2,iv,R2⟩
 obtain ⟨b,t,h1,h2⟩:=hs m ps2 iv
 refine ⟨ps2,b,t,O2,R2,fun H3 s3=> ?_⟩
 cases b with
 | true=>
  refine nT ⟨fun σ H=> ∃ m',m' < m∧∃ ps O,Iv m' ps∧Rs X.K H0 O0 ps σ H O,fun σ' H' z=> z,_,ps2,h1 rfl,?_,O2,R2.go s3⟩
  exact ⟨fun p σ H O R ⟨m',l,q⟩=> ⟨m',l,p,O,q,R⟩,fun p σ H O R q=> L.nx _ _ _ _ R q,fun p σ H O R ⟨m',l,q⟩=> ⟨m',l,p,O,q,R⟩,L.rt⟩
 | false=> exact ln (L.nx _ _ _ _ (R2.go s3) (h2 rfl))
def cA:List Nat→PSt→PSt
 | [],ps=> ps
 | i::is,ps=> cA is (ps.set i none)
theorem Rs.mask {K:PySem.W.Frag} {H:Hp} {O:List Addr}:∀ {is:List Nat} {ps:PSt} {σ:St},Rs K H0 O0 ps σ H O→Rs K H0 O0 (cA is ps) (L2.mask is σ) H O
 | [],ps,σ,R=> R
 | i::is,ps,σ,R=> Rs.mask (is:=is) (R.drop (i:=i) (o:=none))
theorem Rs.hide {K:PySem.W.Frag} {σ:St} {H H':Hp} {O:List Addr} {l:Addr} (R:Rs K H0 O0 ps σ H O) (e:aC H H') (n:H l=none) (d:H' l≠none):Rs K H0 O0 ps σ H' (l::O):=by
 refine ⟨R.same.trans e,fun a ha=> List.mem_cons_of_mem _ (R.old a ha),fun a ha=> ?_,fun a ha z=> ?_,R.len,fun i s h=> ?_,R.inj⟩
 ·rcases List.mem_cons.mp ha with y | y
  ·subst y; exact .inr (R.same.free n)
  ·exact R.new a y
 ·rcases List.mem_cons.mp ha with y | y
  ·subst y; exact d z
  ·exact R.dom a y (e.free z)
 ·obtain ⟨w,h1,h2⟩:=R.at_ i s h
  refine ⟨w,h1,?_⟩
  cases s with
  | val u=> exact Rp.same (bn e n) h2
  | own ys=>
   obtain ⟨b,ws,k1,k2,k3,k4,k5⟩:=h2
   exact ⟨b,ws,k1,List.mem_cons_of_mem _ k2,k3,e _ _ k4,k5.same (bn e n)⟩
  | pin z u=> exact ⟨h2.1,Rp.same (bn e n) h2.2⟩
  | dsk w C b d kvs=> obtain ⟨dx,kv,k1,k2,k3,k4,k5,k6⟩:=h2; exact ⟨dx,kv,k1,List.mem_cons_of_mem _ k2,k3,e _ _ k4,e _ _ k5,k6.same (bn e n)⟩
theorem nB {js is:List Nat}:∀ {σ:St} {vs:List V},(∀ j∈js,j∈is)→∀ (n:Nat) (v:V),n ∉ is→σ[n]?=some (some v)→(i6 σ js vs)[n]?=some (some v):=by
 induction js with
 | nil=> intro σ vs _ n v _ h; cases vs <;> exact h
 | cons j js ih=>
  intro σ vs hj n v hn h
  cases vs with
  | nil=> exact h
  | cons w ws=> exact ih (fun z hz=> hj z (List.mem_cons_of_mem _ hz)) n v hn (by rw [List.getElem?_set_ne (fun z=> hn (by rw [← z]; exact hj j List.mem_cons_self))]; exact h)
def GOk (g:TG) (K:PySem.W.Frag) (is:List Nat) (f:PSt→U→PSt) (dom:U→Prop):Prop:=
 ∀ (H0:Hp) (O0:List Addr) (ps:PSt) (σ:St) (H:Hp) (O:List Addr) (v:V) (u:U) (Q:St→Hp→Prop),dom u→Rs K H0 O0 ps σ H O→Rp K (hid H O) v u→
  (∀ σ',Rs K H0 O0 (f ps u) σ' H O→(∀ (n:Nat) (w:V),n ∉ is→σ[n]?=some (some w)→σ'[n]?=some (some w))→Q σ' H)→g v σ H Q
theorem db {K:PySem.W.Frag} {is:List Nat} {i:Nat} (h:i∈is):GOk (jD i) K is (fun ps u=> ps.set i (some (.val u))) fun _=> True:=fun H0 O0 ps σ H O v u Q _ R r q=>
 q _ (R.set r) fun n w hn e=> by rw [List.getElem?_set_ne (fun z=> hn (by rw [← z]; exact h))]; exact e
theorem eR {K:PySem.W.Frag} {is js:List Nat} (h:∀ j∈js,j∈is):GOk (A4 K js.length (jr js)) K is (fun ps u=> match u with | .tup us=> setAll ps js us | _=> ps) fun u=> ∃ us,u=.tup us∧us.length=js.length:=fun H0 O0 ps σ H O v u Q d R r q=> by
 obtain ⟨us,rfl,hl⟩:=d
 cases r with
 | tup hq hl' hh=> exact ⟨_,_,rfl,aE.tup hq,hl'.trans hl,eP (hl'.trans hl) (q _ (R.setAll ⟨hl',hh⟩) fun n w hn e=> nB h n w hn e)⟩
theorem iA {is:List Nat} {g:TG} {f:PSt→U→PSt} {dom:U→Prop} {σ:St} {H1:Hp} {O:List Addr} {Q:VK} {J:It} {te:TE} (hg:GOk g X.K is f dom) (R1:Rs X.K H0 O0 ps σ H1 O) (Y:Yl X.K J (hid H1 O) xs) (hlen:ys.length=xs.length) (hz:xs.length≤sizeLine) (hdom:∀ x∈xs,dom x)
  (hte:∀ (i:Nat) (x y:U) (σ:St) (H:Hp) (O':List Addr) (Q:VK),xs[i]?=some x→ys[i]?=some y→Rs X.K H0 O0 (f (cA is ps) x) σ H O'→(∀ v H',aC H H'→Rp X.K (hid H' O') v y→Q v H')→te σ H Q)
  (fin:∀ a vs H',aC H1 H'→H1 a=none→H' a=some (.lst vs)→Rps X.K (hid H' (a::O)) vs ys→Q (.ref a) H'):qy is g te σ Q J H1:=by
 intro l hl
 refine ⟨fun i m H2=> m=xs.length - i∧i≤xs.length∧aC H1 H2∧∃ vs,H2 l=some (.lst vs)∧vs.length=i∧Rps X.K (hid H2 (l::O)) vs (ys.take i),⟨_,rfl,Nat.zero_le _,bg hl _,[],aD,rfl,by rw [List.take_zero]; exact .nil⟩,?_⟩
 rintro i m H2 ⟨rfl,hi,s2,vs,h2,hv,rs⟩
 have seen:aC (hid H1 O) (hid H2 (l::O)):=bn s2 hl
 obtain ⟨y1,y2⟩:=Y H2 (seen.trans aE)
 by_cases hlt:i < xs.length
 ·obtain ⟨g1,g2⟩:=y1 i hlt
  refine .inr ⟨g1,fun x H3 y=> ?_⟩
  obtain ⟨rfl,u,hu,r⟩:=g2 x H3 y
  have R2:=(R1.mask (is:=is)).hide s2 hl (by rw [h2]; intro z; cases z)
  refine hg H0 O0 _ _ H3 (l::O) x u _ (hdom u (List.mem_of_getElem? hu)) R2 (r.same seen) fun σ4 R4 keep=> ?_
  have hy:ys[i]?=some (ys[i]'(by omega)):=List.getElem?_eq_getElem _
  refine hte i u _ σ4 H3 (l::O) _ hu hy R4 fun v H5 s5 r5=> ⟨fun j w e=> keep j w (fH is σ j w e).2 e,vs,s5 _ _ h2,?_,xs.length - (i+1),by omega,rfl,hlt,(s2.trans s5).put hl _,vs++[v],aD,by simp [hv],?_⟩
  ·rw [hv]; omega
  ·rw [gT List.mem_cons_self,List.take_succ,hy]
   exact (rs.same (aK s5)).snoc (.cons r5 .nil)
 ·have e:i=xs.length:=by omega
  subst e
  rw [← hlen,List.take_length] at rs
  exact .inl ⟨y2,fin l vs H2 s2 hl h2 rs⟩
theorem gx {elt:Expr} {scope:Scope} {cl:List (Str×Addr)} {is:List Nat} {g:TG} {f:PSt→U→PSt} {dom:U→Prop} (hc:X.calm=true) (B:bO X scope cl is) (hi:EvI X H0 O0 ps tg iter xs) (hg:∀ C s H fp,PG (am X scope cl C s H fp) tg g) (gk:GOk g X.K is f dom)
  (hlen:ys.length=xs.length) (hz:xs.length≤sizeLine) (hdom:∀ x∈xs,dom x) (he:∀ C s H fp (i:Nat) (x y:U),xs[i]?=some x→ys[i]?=some y→Ev (am X scope cl C s H fp) H0 O0 (f (cA is ps) x) elt y)
  (hs:∀ x,foldedSetIterable iter X.env x=pure x:=by intro _; rfl):EvN X H0 O0 ps (.ListComp elt [⟨tg,iter,[],0⟩] scope pos) ys:=by
 have hte:∀ C s H fp,PE (am X scope cl C s H fp) elt fun σ H Q=> ∃ i x y,xs[i]?=some x∧ys[i]?=some y∧∃ O',Rs X.K H0 O0 (f (cA is ps) x) σ H O'∧∀ v H',aC H H'→Rp X.K (hid H' O') v y→Q v H':=
  fun C s H fp pins s' σ H' Q I ⟨i,x,y,h1,h2,z⟩=> he C s H fp i x y h1 h2 pins s' σ H' Q I z
 refine PE.mono (xu hc B hi hg hte hs) fun σ H Q ⟨O,R,q⟩=> ⟨O,R,fun J H1 s1 Y=> ?_⟩
 exact iA gk (R.go s1) Y hlen hz hdom (fun i x y σ H O' Q h1 h2 R' z=> ⟨i,x,y,h1,h2,O',R',z⟩) fun a vs H' s n h r=> q a vs H' (s1.trans s) (s1.free n) h r
theorem ij {elt:Expr} {scope:Scope} {cl:List (Str×Addr)} {spos py:Pos} {y:Str} {j:Nat} {is:List Nat} {g:TG} {f:PSt→U→PSt} {dom:U→Prop} (own:Bool) (hc:X.calm=true) (hN:X.N.Nodup) (hj:X.N[j]?=some y) (hy:Loc X.env.scope y) (B:bO X scope cl is)
  (hi:EvI X H0 O0 ps tg iter xs) (hg:∀ C s H fp,PG (am X scope cl C s H fp) tg g) (gk:GOk g X.K is f dom) (hlen:ys.length=xs.length) (hz:xs.length≤sizeLine) (hdom:∀ x∈xs,dom x)
  (he:∀ C s H fp (i:Nat) (x y:U),xs[i]?=some x→ys[i]?=some y→Ev (am X scope cl C s H fp) H0 O0 (f (cA is ps) x) elt y) (h:D.nx (ps.set j (some (if own then .own ys else .val (.lst ys)))))
  (hs:∀ x,foldedSetIterable iter X.env x=pure x:=by intro _; rfl)
  (hsw:swapsWith (.ListComp elt [⟨tg,iter,[],0⟩] scope pos) (some (.Name y py)) spos.line X.env=pure true:=by rfl) (hf:X.fn y=true∨X.env.scope.names.lookup y=some .local:=by first | exact .inl rfl | exact .inr rfl | assumption):
  W1 X H0 O0 E (.Assign [.Name y py] (.ListComp elt [⟨tg,iter,[],0⟩] scope pos) spos) D ps:=by
 have hte:∀ C s H fp,PE (am X scope cl C s H fp) elt fun σ H Q=> ∃ i x y,xs[i]?=some x∧ys[i]?=some y∧∃ O',Rs X.K H0 O0 (f (cA is ps) x) σ H O'∧∀ v H',aC H H'→Rp X.K (hid H' O') v y→Q v H':=
  fun C s H fp pins s' σ H' Q I ⟨i,x,y,h1,h2,z⟩=> he C s H fp i x y h1 h2 pins s' σ H' Q I z
 refine PS.mono (jp hc hN hj hy B hi hg hte hs hsw hf) fun D' σ H ⟨L,O,R⟩=> ⟨O,R,fun J H1 s1 Y=> ?_⟩
 refine iA gk (R.go s1) Y hlen hz hdom (fun i x y σ H O' Q h1 h2 R' z=> ⟨i,x,y,h1,h2,O',R',z⟩) fun a vs H' s n h' r=> ?_
 cases own with
 | true=> exact L.nx _ _ _ _ ((R.go s1).own s n h' r) h
 | false=>
  have na:a ∉ O:=fun z=> (R.go s1).dom a z n
  have r':=r.same (aR fun b hb=> List.mem_cons_of_mem a hb)
  exact L.nx _ _ _ _ (((R.go s1).go s).set (.lst (cE h' na) r'.len r'.at_)) h
end
end L2
namespace L2
open PySem PySem.Spec PyProof.Rows
def spU (K:PySem.W.Frag) (spec:List U→Out→Prop):Sp:=fun vs H Q E=> ∃ us O o,(∀ a∈O,H a≠none)∧Rps K (hid H O) vs us∧spec us o∧ke K H O Q E o
section
variable {X:Cx} {H0:Hp} {O0:List Addr} {E:XK} {ps ps':PSt} {D:PD} {s:Stmt} {ss body:List Stmt} {a b c e:Expr} {es:List Expr} {pos p:Pos} {u x y:U} {xs ys us:List U} {k:Bool}
 {CX:CXT} {n:Nat} {f C:Addr} {fd:FuncData} {pn:List Str} {spec:List U→Out→Prop} {nm:Str}
theorem av (F:ba X.prog X.w X.K X.mg X.base CX n f fd pn (spU X.K spec)) (hr:bJ n X.A) (hg:Gl X nm) (hm:X.mg nm=some (.ref f)) (hk:PySem.W.keepIn X.K (.ref f)=true) (hb:aH X.K fd pn []) (hx:bU CX X E0)
  (ha:EvA X H0 O0 ps (e::es) us) (h:spec us (.val u)) (hdb:(nm==("__debug__":Str))=false:=by decide) (he:starEach (e::es) X.env=(false,eval e X.env)::starEach es X.env:=by rfl) (hpl:(backTo pos (starEach es X.env)).any (·.1)=false:=by rfl):
  Ev X H0 O0 ps (.Call (.Name nm p) (e::es) [] pos) u:=
 PE.mono (qL F hr hg hm hk hb .nil hx ha hdb he hpl) fun σ H Q ⟨O,R,q⟩=> ⟨O,R,fun vs H1 s1 r1=> by
  show spU X.K spec (vs++[]) H1 Q _
  rw [List.append_nil]
  exact ⟨us,O,.val u,(R.go s1).dom,r1,h,fun v H2 s2 r2=> q v H2 (s1.trans s2) r2⟩⟩
theorem dF (F:ba X.prog X.w X.K X.mg X.base CX n f fd pn (spU X.K spec)) (hr:bJ n X.A) (hg:Gl X nm) (hm:X.mg nm=some (.ref f)) (hk:PySem.W.keepIn X.K (.ref f)=true) (hb:aH X.K fd pn []) (hx:bU CX X E0)
  (ha:EvA X H0 O0 ps (e::es) us) (h:spec us (.new xs)) (hdb:(nm==("__debug__":Str))=false:=by decide) (he:starEach (e::es) X.env=(false,eval e X.env)::starEach es X.env:=by rfl) (hpl:(backTo pos (starEach es X.env)).any (·.1)=false:=by rfl):
  EvN X H0 O0 ps (.Call (.Name nm p) (e::es) [] pos) xs:=
 PE.mono (qL F hr hg hm hk hb .nil hx ha hdb he hpl) fun σ H Q ⟨O,R,q⟩=> ⟨O,R,fun vs H1 s1 r1=> by
  show spU X.K spec (vs++[]) H1 Q _
  rw [List.append_nil]
  exact ⟨us,O,.new xs,(R.go s1).dom,r1,h,fun a vs H2 s2 n2 h2 r2=> q a vs H2 (s1.trans s2) (s1.free n2) h2 r2⟩⟩
end
section
variable {P:Program} {w:World} {K:PySem.W.Frag} {mg:Str→Option Value} {base:Heap} {N pn:List Str} {qual nm:Str} {scope:Scope} {f:Addr} {cd:Value} {A:Around} {outer:List Env} {s:Shared} {H H0:Hp} {O0:List Addr} {E:XK} {D:PD} {ps:PSt} {u:U}
def fv (N:List Str) (us:List U):PSt:=us.map (fun u=> some (.val u))++List.replicate (N.length - us.length) none
theorem bx {st:Stmt} {fd:FuncData} {k:Nat} {spec:List U→Out→Prop} (F:Fun K nm qual st f fd) (S:aq N pn (af st)) (len:∀ us o,spec us o→us.length=pn.length)
  (hbody:∀ (cdv:Value) (A:Around) (outer:List Env) (s:Shared) (H:Hp) (E:XK) (O:List Addr) (us:List U) (o:Out),bJ k (A.deeper (envOfC qual (af st) s.heap.objs.size f cdv))→spec us o→
   Ws (ic (CXF P w) P w K mg base N qual (af st) f cdv A outer s H E) H O E (ao st) ⟨fun _=> o=.val .non,fun o'=> o'=o,fun _=> False,fun _=> False⟩ (fv N us)):ba P w K mg base (CXF P w) (k+1) f fd pn (spU K spec):=by
 refine F.okF S (fun vs H Q E h=> ?_) fun cdv A outer s H vs Q E hr h=> ?_
 ·obtain ⟨us,O,o,_,r,hsp,_⟩:=h
  rw [r.len]; exact len us o hsp
 ·obtain ⟨us,O,o,d,r,hsp,q⟩:=h
  refine ⟨_,hbody cdv A outer s H E O us o hr hsp,⟨fun ps σ H' O' R e=> ?_,fun _ _ _ _ _ e=> e.elim,fun _ _ _ _ _ e=> e.elim,fun o' e=> by subst e; exact q⟩,O,?_⟩
  ·subst e; exact q .non H' R.same .non
  ·refine ⟨.refl H,fun a h=> h,fun a h=> .inl h,d,?_,fun i sl e=> ?_,fun i j xs ys a e1 e2 _ _=> ?_⟩
   ·unfold start fv
    rw [List.length_append,List.length_append,List.length_map,List.length_map,List.length_replicate,List.length_replicate,r.len]
   ·unfold fv at e
    by_cases hi:i < us.length
    ·rw [List.getElem?_append_left (by simpa using hi),List.getElem?_map,List.getElem?_eq_getElem hi] at e
     cases e
     obtain ⟨v,h1,h2⟩:=r.get (List.getElem?_eq_getElem hi)
     refine ⟨v,?_,h2⟩
     unfold start
     rw [List.getElem?_append_left (by simpa [r.len] using hi),List.getElem?_map,h1]; rfl
    ·rw [List.getElem?_append_right (by simpa using hi),List.getElem?_replicate] at e
     split at e <;> cases e
   ·exfalso
    unfold fv at e1
    by_cases hi:i < us.length
    ·rw [List.getElem?_append_left (by simpa using hi),List.getElem?_map,List.getElem?_eq_getElem hi] at e1
     cases e1
    ·rw [List.getElem?_append_right (by simpa using hi),List.getElem?_replicate] at e1
     split at e1 <;> cases e1
end
section
variable {X:Cx} {H0:Hp} {O0:List Addr} {ps:PSt} {a b c e:Expr} {es rest:List Expr} {pos p p2:Pos} {u x y:U} {xs ys us:List U} {i j:Int} {k m:Bool} {lo hi:Option Expr} {l h:Option Int}
def EvO (X:Cx) (H0:Hp) (O0:List Addr) (ps:PSt) (e:Option Expr) (n:Option Int):Prop:=PO X e fun σ H Q=> ∃ O,Rs X.K H0 O0 ps σ H O∧∀ H',aC H H'→Q n H'
theorem dX:EvO X H0 O0 ps none none:=fun pins s σ H Q I ⟨O,R,q⟩=> w9 pins s σ H Q I (q H (.refl H))
theorem d6 (he:Ev X H0 O0 ps e (.int i)):EvO X H0 O0 ps (some e) (some i):=fun pins s σ H Q I ⟨O,R,q⟩=> wV he pins s σ H Q I ⟨O,R,fun v H' s r=> by cases r; exact ⟨i,rfl,q H' s⟩⟩
def oE (xs:List U) (lo hi:Option Int):List U:=(xs.drop (HT.sIx xs.length 0 lo)).take (HT.sIx xs.length xs.length hi - HT.sIx xs.length 0 lo)
theorem Rps.drop {K:PySem.W.Frag} {H:Hp} {vs:List V} {xs:List U} (r:Rps K H vs xs) (n:Nat):Rps K H (vs.drop n) (xs.drop n):=⟨by simp [r.len],fun i v x h1 h2=> r.at_ _ v x (by rwa [List.getElem?_drop] at h1) (by rwa [List.getElem?_drop] at h2)⟩
theorem Rps.take {K:PySem.W.Frag} {H:Hp} {vs:List V} {xs:List U} (r:Rps K H vs xs) (n:Nat):Rps K H (vs.take n) (xs.take n):=⟨by simp [r.len],fun i v x h1 h2=> by
 by_cases hn:i < n
 ·rw [List.getElem?_take_of_lt hn] at h1 h2
  exact r.at_ i v x h1 h2
 ·rw [List.getElem?_take_eq_none (by omega)] at h1
  cases h1⟩
theorem Rps.cut {K:PySem.W.Frag} {H:Hp} {vs:List V} {xs:List U} (r:Rps K H vs xs):Rps K H (sF vs l h) (oE xs l h):=by
 unfold sF oE
 rw [r.len]
 exact (r.drop _).take _
theorem eY (he:Ev X H0 O0 ps e x) (hl:EvO X H0 O0 ps lo l) (hh:EvO X H0 O0 ps hi h) (hx:x=.lst xs∨x=.scr xs):EvN X H0 O0 ps (.Subscript e (.Slice lo hi none p2) pos) (oE xs l h):=
 PE.mono (nX wx he hl hh) fun σ H Q ⟨O,R,q⟩=> ⟨O,R,fun v H1 s1 r1=> ⟨O,R.go s1,fun H2 s2=> ⟨O,R.go (s1.trans s2),fun H3 s3=> by
  have key:∃ a vs,v=.ref a∧SqL X.K (hid H1 O) a vs∧Rps X.K (hid H1 O) vs xs:=by
   rcases hx with rfl | rfl
   ·cases r1 with
    | lst hq hl hh=> exact ⟨_,_,rfl,SqL.of hq,hl,hh⟩
   ·cases r1 with
    | scr hq hl hh=> exact ⟨_,_,rfl,hq,hl,hh⟩
  obtain ⟨a,vs,rfl,hq,rs⟩:=key
  have s13:=s2.trans s3
  refine ⟨a,vs,rfl,s13.seq (aE.seq hq),fun p hp=> q p _ _ ((s1.trans s13).trans (bg hp _)) ((s1.trans s13).free hp) aD ?_⟩
  exact (rs.cut.same (aK s13)).same (bn (bg hp _) hp)⟩⟩⟩
theorem sV (ha:Ev X H0 O0 ps a (.lst xs)) (hb:Ev X H0 O0 ps b (.lst ys)) (hz:xs.length+ys.length≤sizeLine):EvN X H0 O0 ps (.BinOp a .Add b pos) (xs++ys):=
 PE.mono (n4 yA ha hb) fun σ H Q ⟨O,R,q⟩=> two R (fun _ _ _ z=> z) (fun _ _ _ z=> z) fun v w H' s _ r1 r2=> by
  cases r1 with
  | lst hq hl hh=>
   cases r2 with
   | lst hq' hl' hh'=>
    refine ⟨_,_,_,_,rfl,rfl,aE _ _ hq,aE _ _ hq',by rw [hl,hl']; exact hz,fun p hp=> q p _ _ (s.trans (bg hp _)) (s.free hp) aD ?_⟩
    exact (Rps.snoc ⟨hl,hh⟩ ⟨hl',hh'⟩).same (bn (bg hp _) hp)
def fl:U→V
 | .bl b=> .bl b | .int i=> .int i | .str x=> .str x | _=> .non
def tq:U→Bool
 | .bl _=> true | .int _=> true | .str _=> true | .non=> true | _=> false
theorem xU {K:PySem.W.Frag} {H:Hp} {v:V} {u:U} (h:Rp K H v u) (f:tq u=true):v=fl u∧fV v=true:=by
 cases h <;> first | exact ⟨rfl,rfl⟩ | simp [tq] at f
theorem ux {K:PySem.W.Frag} {H:Hp}:∀ {vs:List V} {xs:List U},Rps K H vs xs→xs.all tq=true→vs=xs.map fl∧vs.all fV=true
 | vs,[],r,_=> by rw [r.nil_inv]; exact ⟨rfl,rfl⟩
 | vs,x::xs,r,f=> by
  obtain ⟨v,ws,rfl,h1,h2⟩:=r.cons_inv
  simp only [List.all_cons,Bool.and_eq_true] at f
  obtain ⟨e1,e2⟩:=xU h1 f.1
  obtain ⟨e3,e4⟩:=ux h2 f.2
  refine ⟨by rw [List.map_cons,← e1,← e3],?_⟩
  simp only [List.all_cons,Bool.and_eq_true]
  exact ⟨e2,e4⟩
theorem wY (hx:tq x=true) (hy:y.items=some ys) (hf:ys.all tq=true):OpS X (compareOp .In) x y (.bl (inV (fl x) (ys.map fl))):=by
 intro pins s σ H v w p q Q I r1 r2 h
 obtain ⟨k1,k2,k3⟩:=h
 obtain ⟨a,vs,rfl,h1,h2⟩:=pQ k2 hy
 obtain ⟨e1,e2⟩:=xU k1 hx
 obtain ⟨e3,e4⟩:=ux h2 hf
 exact rQ pins s σ H v _ p q Q I r1 r2 ⟨a,vs,rfl,h1,e2,e4,by rw [e1,e3]; exact k3⟩
theorem Ab {bs:List Bool} (hc:X.calm=true):dW X (.builtin "all") [.lst (bs.map U.bl)] (.bl (bs.all id)):=by
 intro pins s σ H vs us Q I r hq
 obtain ⟨O,d,rs,q⟩:=hq
 obtain ⟨v,rfl,h1⟩:=dq rs
 obtain ⟨p1,rfl,r1⟩:=dG r
 cases h1 with
 | @lst a ws _ hq hl hh=>
  cases r1
  obtain ⟨its,rv,pl,_⟩:=I.list (SqL.of (aE _ _ hq))
  have hlen:its.length=bs.length:=by rw [← rv.length,hl,List.length_map]
  have hat:∀ (i:Nat) (z:Value),its.toArray[i]?=some z→z=.bool (bs.getD i false):=fun i z e=> by
   have hi:i < its.length:=by have:=be (show its[i]?=some z by simpa using e); exact this
   have hb:i < bs.length:=by omega
   have hw:i < ws.length:=by rw [rv.length]; exact hi
   obtain ⟨u,e1,e2⟩:=rv.get (List.getElem?_eq_getElem hw)
   have e3:=hh i ws[i] (.bl bs[i]) (List.getElem?_eq_getElem hw) (by rw [List.getElem?_map,List.getElem?_eq_getElem hb]; rfl)
   have e4:its[i]?=some z:=by simpa using e
   rw [e4] at e1
   cases e1
   generalize ws[i]=wi at *
   cases e3
   rw [List.getD_eq_getElem?_getD,List.getElem?_eq_getElem hb]
   exact e2
  refine call_all_walk (wpAny_pyIter_list pl.isList ?_)
  have hne:a≠s.heap.objs.size:=by obtain ⟨o,e,_⟩:=pl.isList; exact Nat.ne_of_lt (Heap.lt_size e)
  refine ⟨s.heap.objs.size,_,_,_,_,_,fun i=> bs.getD i false,rfl,Walks.list (A:=X.A.in1) (I.ok.hd hc) s.heap.objs.size a hne its.toArray,⟨⟨_,Heap.get?_push_size _ rfl,rfl,rfl⟩,pl.isList.push _⟩,fun i z s' Q' E' hP hQ=> ?_,fun h' tk hk=> ?_⟩
  ·rw [hat i z hP]; exact wpAny_truthy_bool hQ
  ·have e:(List.range its.toArray.size).all (fun i=> bs.getD i false)=bs.all id:=by
    rw [List.size_toArray,hlen,Bool.eq_iff_iff,kl,List.all_eq_true]
    constructor
    ·intro h x hx
     obtain ⟨i,hi,rfl⟩:=List.getElem_of_mem hx
     have:=h i hi
     rwa [List.getD_eq_getElem?_getD,List.getElem?_eq_getElem hi] at this
    ·intro h j hj
     rw [List.getD_eq_getElem?_getD,List.getElem?_eq_getElem hj]
     exact h _ (List.getElem_mem hj)
   rw [e]
   refine ⟨.bl _,H,I.kept (t':=tk) fun b o e=> hk b o ?_ (Heap.get?_push_of_some _ e),rfl,q _ H (.refl H) (.bl _)⟩
   intro z
   have:b=s.heap.objs.size:=by simpa using z
   exact absurd (Heap.lt_size e) (by rw [this]; exact Nat.lt_irrefl _)
end
end L2
namespace L2
open PySem PySem.Spec PyProof.Rows
def sN (J:It) (is:List Nat) (g:TG) (tt:TT) (te:TE) (σ:St) (H1:Hp) (l:Addr) (Q:VK):Prop:=
 ∃ W:Nat→Nat→Hp→Prop,(∃ m,W 0 m (upd H1 l (.lst [])))∧∀ i m H2,W i m H2→
  (J.stop i H2∧Q (.ref l) H2)∨(J.go i H2∧∀ x H3,J.yld i H2 x H3→g x (mask is σ) H3 fun σ4 H4=> tt σ4 H4 fun b H5=>
   (∀ (j:Nat) (v:V),(mask is σ)[j]?=some (some v)→σ4[j]?=some (some v))∧
   if b=true then te σ4 H5 fun y H6=> ∃ vs,H6 l=some (.lst vs)∧vs.length < sizeLine∧∃ m',m' < m∧W (i+1) m' (upd H6 l (.lst (vs++[y]))) else ∃ m',m' < m∧W (i+1) m' H5)
def uR (is:List Nat) (g:TG) (tt:TT) (te:TE) (σ:St) (Q:VK) (J:It) (H1:Hp):Prop:=∀ l,H1 l=none→sN J is g tt te σ H1 l Q
def o8 (is:List Nat) (wi:TI) (g:TG) (tt:TT) (te:TE):TE:=fun σ H Q=> wi σ H (uR is g tt te σ Q)
section
variable {X:Cx} {pins:List (Addr×Obj)} {σ:St} {H:Hp} {s:Shared}
theorem kQ {elt iter tg:Expr} {scope:Scope} {cl:List (Str×Addr)} {pos pos0:Pos} {is:List Nat} {wi:TI} {g:TG} {tt:TT} {te:TE} {cond:Expr} {use:Option (Value→Sem Unit)} {Q0:VK} {Q:Value→Shared→Prop} (hc:X.calm=true) (B:bO X scope cl is)
  (hi:PI X tg iter wi) (hg:∀ C s H fp,PG (am X scope cl C s H fp) tg g) (ht:∀ C s H fp,PT (am X scope cl C s H fp) cond tt) (he:∀ C s H fp,PE (am X scope cl C s H fp) elt te) (hs:∀ x,foldedSetIterable iter X.env x=pure x)
  (I:Inv X pins σ H s) (h:o8 is wi g tt te σ H Q0)
  (fin:∀ (l C:Addr) (H':Hp) (s':Shared) (m:Str→Option Value),Inv X pins σ H' s'→s'.heap.Ns C m→H' C=none→C≠X.env.locals→C ∉ X.fs→X.s₀.heap.objs.size≤C→(∀ x c,X.env.cells.lookup x=some c→c≠C)→(∀ p∈X.pn++pins,p.1≠C)→Q0 (.ref l) H'→
   compPost (model X.prog X.w) X.A X.xe use Q (.ref l) C (.ok .next) s'):
  wpAny (model X.prog X.w) X.A (comprehension (.ListComp elt [⟨tg,iter,[cond],0⟩] scope pos) scope X.env pos0 (newList []) false (eval iter X.env) use) Q X.xe s:=by
 refine wpAny_comprehension_free rfl hs B.clos B.kind B.names (thn (hi pins s σ H _ I h) fun xv s1 h1=> thn h1 fun itv s2 h2=> ?_)
 obtain ⟨it,fp,tn,J,H2,e,I2,T,st2,f2,R⟩:=h2
 subst e
 refine wpAny_newObj_type (wpAny_newFunctionEnv B.cell (by intro y hy; simp at hy) (fun h₁ hns hsb=> ?_) B.kind)
 have hl:H2 s2.heap.objs.size=none:=I2.hok.fresh (Nat.le_refl _)
 obtain ⟨W,⟨m0,w0⟩,turn⟩:=R s2.heap.objs.size hl
 have I3:Inv X pins σ (upd H2 s2.heap.objs.size (.lst [])) { s2 with heap:=s2.heap.push { cls:=.type "list",dict:=none,data:=.seq ([]:List Value).toArray } }:=
  I2.laid (t':=s2.toks) (o:=.lst []) (fun b u e=> Heap.get?_push_of_some _ e) (Nat.le_refl _) ⟨Nat.zero_le _,[],0,.nil,Heap.get?_push_size _ rfl⟩
 have hfl:∀ b∈fp,b < s2.heap.objs.size:=fun b hb=> let ⟨o,e,_⟩:=T.obj 0 _ st2 b hb; Heap.lt_size e
 have f3:∀ b∈fp,ii X pins (upd H2 s2.heap.objs.size (.lst [])) b:=fun b hb=> ⟨by rw [aF (Nat.ne_of_lt (hfl b hb))]; exact (f2 b hb).1,(f2 b hb).2⟩
 have kp:∀ b o,(s2.heap.push { cls:=.type "list",dict:=none,data:=.seq ([]:List Value).toArray }).get? b=some o→h₁.get? b=some o:=fun b o e=>
  hsb.extBut b o (Nat.ne_of_lt (Heap.lt_size e)) (Heap.get?_push_of_some _ e)
 have st4:tn 0 h₁:=T.keep 0 _ _ st2 fun b _ o e=> kp b o (Heap.get?_push_of_some _ e)
 have hfl3:∀ b∈fp,b < (s2.heap.push { cls:=.type "list",dict:=none,data:=.seq ([]:List Value).toArray }).objs.size:=fun b hb=> by
  rw [Heap.size_push]; exact Nat.lt_succ_of_lt (hfl b hb)
 have I4:=iJ (t':=s2.toks+([]:List (Str×Value)).length) I3 B f3 hfl3 hns kp
 have loop:codeAny (model X.prog X.w) X.A (.compLoop (.ListComp elt [⟨tg,iter,[cond],0⟩] scope pos) 0 (.ref it) (.ref s2.heap.objs.size) (compEnvC scope cl (s2.heap.push { cls:=.type "list",dict:=none,data:=.seq ([]:List Value).toArray }).objs.size X.env))
   (compPost (model X.prog X.w) X.A X.xe use Q (.ref s2.heap.objs.size) (s2.heap.push { cls:=.type "list",dict:=none,data:=.seq ([]:List Value).toArray }).objs.size)
   { s2 with heap:=h₁,toks:=s2.toks+([]:List (Str×Value)).length }:=by
  generalize hs3:({ s2 with heap:=s2.heap.push { cls:=.type "list",dict:=none,data:=.seq ([]:List Value).toArray } }:Shared)=s3 at *
  have hC:(s2.heap.push { cls:=.type "list",dict:=none,data:=.seq ([]:List Value).toArray }).objs.size=s3.heap.objs.size:=by rw [← hs3]
  rw [hC]
  have hstat:∀ {H':Hp},(∀ b∈fp,H' b=none)→∀ b∈fp,ii (am X scope cl s3.heap.objs.size s3 (upd H2 s2.heap.objs.size (.lst [])) fp) [] H' b:=fun hn b hb=>
   ⟨hn b hb,(I4.ok.exf b hb).1,I4.ok.exfs b hb,.inl hb,fun x c e=> (I4.ok.exf b hb).2 x c e,fun p hp=> absurd (show p∈([]:List (Addr×Obj)) from hp) (by simp)⟩
  have back:∀ {σ':St} {H':Hp} {pp:List (Addr×Obj)} {s':Shared},Inv (am X scope cl s3.heap.objs.size s3 (upd H2 s2.heap.objs.size (.lst [])) fp) pp σ' H' s'→Inv X pins σ H' s':=fun I'=>
   I3.call' (ch:=fp) I'.os I'.base I'.hok I'.bare fun b hb=> ⟨(f3 b hb).2.2.2.1,(f3 b hb).2.1,(f3 b hb).2.2.2.2.1,(f3 b hb).2.2.2.2.2⟩
  refine codeAny_loop rfl (fun n s'=> ∃ i H',Inv (am X scope cl s3.heap.objs.size s3 (upd H2 s2.heap.objs.size (.lst [])) fp) [] (mask is σ) H' s'∧tn i s'.heap∧(∀ b∈fp,H' b=none)∧W i n H') ?_ m0 ⟨0,_,(by subst hs3; exact I4),st4,fun b hb=> (f3 b hb).1,w0⟩
  rintro n s5 ⟨i,H5,I5,st5,fr5,w5⟩
  show wpAny _ _ ((compTurn (.ListComp elt [⟨tg,iter,[cond],0⟩] scope pos) 0 (.ref it) (.ref s2.heap.objs.size) (compEnvC scope cl s3.heap.objs.size X.env)).onRaise (fun x=> do noteFrame x (compEnvC scope cl s3.heap.objs.size X.env); theTreesLotGoes x)) _ _ s5
  refine wpAny_noted ?_
  rw [compTurn_list]
  refine wpAny_bind (wpAny_standAt (wpAny_bind ?_))
  rcases turn i n H5 w5 with ⟨stop,q⟩ | ⟨go,step⟩
  ·refine thn (T.done (am X scope cl s3.heap.objs.size s3 (upd H2 s2.heap.objs.size (.lst [])) fp) rfl rfl rfl hc i [] s5 _ H5 _ I5 (hstat fr5) st5 stop) fun r s6 ⟨hr,I6⟩=> ?_
   subst hr
   refine wpAny_pure ?_
   obtain ⟨m6,hn6,_⟩:=I6.loc
   have hCn:∀ b,b < s3.heap.objs.size→b≠s3.heap.objs.size:=fun b hb=> Nat.ne_of_lt hb
   refine fin _ s3.heap.objs.size H5 s6 m6 (back I6) hn6 I6.free (Nat.ne_of_gt I3.lt) (I3.nofs (Nat.le_refl _)) I3.sz (fun x c e=> ?_) (fun p hp=> ?_) q
   ·obtain ⟨v,z⟩:=I3.cell x c e
    exact Nat.ne_of_lt z.lt
   ·exact Nat.ne_of_lt (Heap.lt_size (I3.pin p hp).1)
  ·refine thn (T.item (am X scope cl s3.heap.objs.size s3 (upd H2 s2.heap.objs.size (.lst [])) fp) rfl rfl rfl hc i [] s5 _ H5 _ I5 (hstat fr5) st5 go) fun r s6 ⟨u,hr,h6⟩=> ?_
   subst hr
   refine wpAny_bind (thn h6 fun _ s7 ⟨x,H7,I7,r7,y7,st7,fr7⟩=> ?_)
   have I7':=I7.pinned (hstat fr7) (T.obj _ _ st7)
   refine wpAny_bind (wpAny_mono (hg _ _ _ _ _ s7 (mask is σ) H7 x u _ I7' r7 (step x H7 y7)) (fun _ s8 ⟨σ8,H8,I8,q8⟩=> ?_) fun _ _ z=> z.elim)
   refine wpAny_bind (wpAny_tests_one (wpAny_mono (ht _ _ _ _ _ s8 σ8 H8 _ I8 q8) (fun bb s9 ⟨H9,I9,sub,q9⟩=> ?_) fun _ _ z=> z.elim))
   have fpn:∀ {H':Hp} {s':Shared} {σ':St},Inv (am X scope cl s3.heap.objs.size s3 (upd H2 s2.heap.objs.size (.lst [])) fp) ([]++jf fp s7.heap) σ' H' s'→tn (i+1) s'.heap∧∀ b∈fp,H' b=none:=fun {H' s' σ'} J=> ⟨T.keep _ _ _ st7 fun b hb o e=> (J.pin (b,o) (List.mem_append_right _ (List.mem_append_right _ (dj hb e)))).1,fun b hb=> by
    obtain ⟨o,e,d⟩:=T.obj _ _ st7 b hb
    exact (J.pin (b,o) (List.mem_append_right _ (List.mem_append_right _ (dj hb e)))).2.1⟩
   cases bb with
   | true=>
    rw [if_pos rfl] at q9
    simp only [if_true]
    refine wpAny_bind (wpAny_bind (wpAny_mono (he _ _ _ _ _ s9 σ8 H9 _ I9 q9) (fun v s10 ⟨y,H10,I10,r10,vs,hl10,hz,m',hm,w'⟩=> ?_) fun _ _ z=> z.elim))
    refine wpAny_bind (wpAny_mono (iC (X:=am X scope cl s3.heap.objs.size s3 (upd H2 s2.heap.objs.size (.lst [])) fp) _ s10 σ8 H10 (.ref s2.heap.objs.size) [y] (.ref s2.heap.objs.size) [v] (fun _ H'=> H'=upd H10 s2.heap.objs.size (.lst (vs++[y]))) I10 rfl (.cons r10 .nil) ⟨_,vs,y,rfl,rfl,hl10,hz,rfl⟩) (fun z s11 ⟨zv,H11,I11,_,e11⟩=> ?_) fun _ _ z=> z.elim)
    subst e11
    obtain ⟨k1,k2⟩:=fpn I11
    exact wpAny_pure (wpAny_pure ⟨rfl,m',hm,i+1,_,(I11.unpinned (pins:=[])).weak (by rw [I11.len,eI,I.len]) sub,k1,k2,w'⟩)
   | false=>
    rw [if_neg (by decide)] at q9
    simp only [Bool.false_eq_true,if_false]
    obtain ⟨m',hm,w'⟩:=q9
    obtain ⟨k1,k2⟩:=fpn I9
    first
     | exact wpAny_pure ⟨rfl,m',hm,i+1,_,(I9.unpinned (pins:=[])).weak (by rw [I9.len,eI,I.len]) sub,k1,k2,w'⟩
     | exact wpAny_bind (wpAny_pure (wpAny_pure ⟨rfl,m',hm,i+1,_,(I9.unpinned (pins:=[])).weak (by rw [I9.len,eI,I.len]) sub,k1,k2,w'⟩))
 exact codeAny_compStart_list loop (T.self X.A 0 _ _ _ st4 loop)
theorem vm {elt iter tg:Expr} {scope:Scope} {cl:List (Str×Addr)} {pos:Pos} {is:List Nat} {wi:TI} {g:TG} {tt:TT} {te:TE} {cond:Expr} (hc:X.calm=true) (B:bO X scope cl is)
  (hi:PI X tg iter wi) (hg:∀ C s H fp,PG (am X scope cl C s H fp) tg g) (ht:∀ C s H fp,PT (am X scope cl C s H fp) cond tt) (he:∀ C s H fp,PE (am X scope cl C s H fp) elt te) (hs:∀ x,foldedSetIterable iter X.env x=pure x:=by intro _; rfl):
  PE X (.ListComp elt [⟨tg,iter,[cond],0⟩] scope pos) (o8 is wi g tt te):=by
 intro pins s σ H Q I h
 rw [eval_ListComp]
 refine kQ (use:=none) hc B hi hg ht he hs I h fun l C H' s' m I' hn h1 h2 h3 h4 h5 h6 q=> ⟨m,hn,fun h' hsb=> ?_⟩
 exact ⟨.ref l,H',I'.turned (t':=s'.toks) (fun b o hb e=> hsb.extBut b o hb e) h1 (Ne.symm h2.symm) (.inr h4) h5 h6,rfl,q⟩
theorem nV {elt iter tg:Expr} {scope:Scope} {cl:List (Str×Addr)} {pos spos py:Pos} {y:Str} {j:Nat} {is:List Nat} {wi:TI} {g:TG} {tt:TT} {te:TE} {cond:Expr} (hc:X.calm=true) (hN:X.N.Nodup) (hj:X.N[j]?=some y) (hy:Loc X.env.scope y) (B:bO X scope cl is)
  (hi:PI X tg iter wi) (hg:∀ C s H fp,PG (am X scope cl C s H fp) tg g) (ht:∀ C s H fp,PT (am X scope cl C s H fp) cond tt) (he:∀ C s H fp,PE (am X scope cl C s H fp) elt te) (hs:∀ x,foldedSetIterable iter X.env x=pure x:=by intro _; rfl)
  (hsw:swapsWith (.ListComp elt [⟨tg,iter,[cond],0⟩] scope pos) (some (.Name y py)) spos.line X.env=pure true:=by rfl) (hf:X.fn y=true∨X.env.scope.names.lookup y=some .local:=by first | exact .inl rfl | exact .inr rfl | assumption):
  PS X (.Assign [.Name y py] (.ListComp elt [⟨tg,iter,[cond],0⟩] scope pos) spos) (vv (o8 is wi g tt te) (jD j)):=by
 intro pins s σ H D I h
 rw [exec_Assign_Name_used _ _ _ _ hsw]
 refine wpAny_bind (wpAny_standAt (wpAny_bind ?_))
 show wpAny _ X.A (do let _ ← comprehension (.ListComp elt [⟨tg,iter,[cond],0⟩] scope pos) scope X.env _ (newList []) false (eval iter X.env) (some (assign (.Name y py) X.env))) _ _ s
 refine wpAny_bind (wpAny_mono (kQ (Q0:=fun v H'=> D.nx (σ.set j (some v)) H') (use:=some (assign (.Name y py) X.env)) (Q:=fun _ s'=> SP X pins D .next s') hc B hi hg ht he hs I h fun l C H' s' m I' hn h1 h2 h3 h4 h5 h6 q=> ?_) (fun _ s' hq=> wpAny_pure (wpAny_pure hq)) fun _ _ e=> e)
 show wpAny _ X.A (assign (.Name y py) X.env (.ref l)) _ _ _
 refine wpAny_assign_Name (iw I' hN hj hy (v:=.ref l) rfl (fun s2 I2 ⟨a,hsb,ha⟩=> ?_) hf)
 have hCa:C≠a:=by
  rcases ha with e | e
  ·rw [e]; exact h2
  ·exact Ne.symm (h5 _ _ e)
 refine ⟨m,hn.sameBut hsb hCa,fun h' hsb'=> ⟨_,H',I2.turned (t':=s2.toks) (fun b o hb e=> hsb'.extBut b o hb e) h1 h2 (.inr h4) h5 h6,q⟩⟩
end
section
variable {X:Cx} {H0:Hp} {O0:List Addr} {E:XK} {ps ps':PSt} {D:PD} {tg iter cond:Expr} {pos p:Pos} {xs:List U} {fs:List (Option U)}
theorem jK {is:List Nat} {g:TG} {f:PSt→U→PSt} {dom:U→Prop} {σ:St} {H1:Hp} {O:List Addr} {Q:VK} {J:It} {tt:TT} {te:TE} (hg:GOk g X.K is f dom) (R1:Rs X.K H0 O0 ps σ H1 O) (Y:Yl X.K J (hid H1 O) xs) (hlen:fs.length=xs.length) (hz:xs.length≤sizeLine) (hdom:∀ x∈xs,dom x)
  (htt:∀ (i:Nat) (x:U) (o:Option U) (σ:St) (H:Hp) (O':List Addr) (Q:Bool→Hp→Prop),xs[i]?=some x→fs[i]?=some o→Rs X.K H0 O0 (f (cA is ps) x) σ H O'→(∀ H',aC H H'→Q o.isSome H')→tt σ H Q)
  (hte:∀ (i:Nat) (x y:U) (σ:St) (H:Hp) (O':List Addr) (Q:VK),xs[i]?=some x→fs[i]?=some (some y)→Rs X.K H0 O0 (f (cA is ps) x) σ H O'→(∀ v H',aC H H'→Rp X.K (hid H' O') v y→Q v H')→te σ H Q)
  (fin:∀ a vs H',aC H1 H'→H1 a=none→H' a=some (.lst vs)→Rps X.K (hid H' (a::O)) vs (fs.filterMap id)→Q (.ref a) H'):uR is g tt te σ Q J H1:=by
 intro l hl
 refine ⟨fun i m H2=> m=xs.length - i∧i≤xs.length∧aC H1 H2∧∃ vs,H2 l=some (.lst vs)∧vs.length≤i∧Rps X.K (hid H2 (l::O)) vs ((fs.take i).filterMap id),⟨_,rfl,Nat.zero_le _,bg hl _,[],aD,Nat.le_refl _,by rw [List.take_zero]; exact .nil⟩,?_⟩
 rintro i m H2 ⟨rfl,hi,s2,vs,h2,hv,rs⟩
 have seen:aC (hid H1 O) (hid H2 (l::O)):=bn s2 hl
 obtain ⟨y1,y2⟩:=Y H2 (seen.trans aE)
 by_cases hlt:i < xs.length
 ·obtain ⟨g1,g2⟩:=y1 i hlt
  refine .inr ⟨g1,fun x H3 y=> ?_⟩
  obtain ⟨rfl,u,hu,r⟩:=g2 x H3 y
  have R2:=(R1.mask (is:=is)).hide s2 hl (by rw [h2]; intro z; cases z)
  refine hg H0 O0 _ _ H3 (l::O) x u _ (hdom u (List.mem_of_getElem? hu)) R2 (r.same seen) fun σ4 R4 keep=> ?_
  obtain ⟨o,ho⟩:∃ o,fs[i]?=some o:=⟨_,List.getElem?_eq_getElem (by omega)⟩
  refine htt i u o σ4 H3 (l::O) _ hu ho R4 fun H5 s5=> ⟨fun j w e=> keep j w (fH is σ j w e).2 e,?_⟩
  cases o with
  | none=>
   refine ln ⟨xs.length - (i+1),by omega,rfl,hlt,s2.trans s5,vs,s5 _ _ h2,by omega,?_⟩
   rw [List.take_succ,ho,Option.toList_some,List.filterMap_append]
   simpa using rs.same (aK s5)
  | some yv=>
   refine nT (hte i u yv σ4 H5 (l::O) _ hu ho (R4.go s5) fun v H6 s6 r6=> ⟨vs,s6 _ _ (s5 _ _ h2),?_,xs.length - (i+1),by omega,rfl,hlt,((s2.trans s5).trans s6).put hl _,vs++[v],aD,by simp; omega,?_⟩)
   ·omega
   ·rw [gT List.mem_cons_self,List.take_succ,ho,Option.toList_some,List.filterMap_append]
    exact ((rs.same (aK s5)).same (aK s6)).snoc (.cons r6 .nil)
 ·have e:i=xs.length:=by omega
  subst e
  rw [← hlen,List.take_length] at rs
  exact .inl ⟨y2,fin l vs H2 s2 hl h2 rs⟩
theorem wn {elt:Expr} {scope:Scope} {cl:List (Str×Addr)} {is:List Nat} {g:TG} {f:PSt→U→PSt} {dom:U→Prop} (fs:List (Option U)) (hc:X.calm=true) (B:bO X scope cl is) (hi:EvI X H0 O0 ps tg iter xs) (hg:∀ C s H fp,PG (am X scope cl C s H fp) tg g) (gk:GOk g X.K is f dom)
  (hlen:fs.length=xs.length) (hz:xs.length≤sizeLine) (hdom:∀ x∈xs,dom x) (ht:∀ C s H fp (i:Nat) (x:U) (o:Option U),xs[i]?=some x→fs[i]?=some o→Tt (am X scope cl C s H fp) H0 O0 (f (cA is ps) x) cond o.isSome)
  (he:∀ C s H fp (i:Nat) (x y:U),xs[i]?=some x→fs[i]?=some (some y)→Ev (am X scope cl C s H fp) H0 O0 (f (cA is ps) x) elt y)
  (hs:∀ x,foldedSetIterable iter X.env x=pure x:=by intro _; rfl):EvN X H0 O0 ps (.ListComp elt [⟨tg,iter,[cond],0⟩] scope pos) (fs.filterMap id):=by
 have hte:∀ C s H fp,PE (am X scope cl C s H fp) elt fun σ H Q=> ∃ i x y,xs[i]?=some x∧fs[i]?=some (some y)∧∃ O',Rs X.K H0 O0 (f (cA is ps) x) σ H O'∧∀ v H',aC H H'→Rp X.K (hid H' O') v y→Q v H':=
  fun C s H fp pins s' σ H' Q I ⟨i,x,y,h1,h2,z⟩=> he C s H fp i x y h1 h2 pins s' σ H' Q I z
 have htt:∀ C s H fp,PT (am X scope cl C s H fp) cond fun σ H Q=> ∃ (i:Nat) (x:U) (o:Option U),xs[i]?=some x∧fs[i]?=some o∧∃ O',Rs X.K H0 O0 (f (cA is ps) x) σ H O'∧∀ H',aC H H'→Q o.isSome H':=
  fun C s H fp pins s' σ H' Q I ⟨i,x,o,h1,h2,z⟩=> ht C s H fp i x o h1 h2 pins s' σ H' Q I z
 refine PE.mono (vm hc B hi hg htt hte hs) fun σ H Q ⟨O,R,q⟩=> ⟨O,R,fun J H1 s1 Y=> ?_⟩
 exact jK gk (R.go s1) Y hlen hz hdom (fun i x o σ H O' Q h1 h2 R' z=> ⟨i,x,o,h1,h2,O',R',z⟩) (fun i x y σ H O' Q h1 h2 R' z=> ⟨i,x,y,h1,h2,O',R',z⟩) fun a vs H' s n h r=> q a vs H' (s1.trans s) (s1.free n) h r
end
end L2
namespace L2
open PySem PySem.Spec PyProof.Rows
inductive yi:List (Option Expr)→List Expr→Prop where
 | nil:yi [] []
 | cons {k v:Int} {a b:Nat} {p q:Pos} {ks:List (Option Expr)} {vs:List Expr} (h:yi ks vs):yi (some (.Constant (.int k) a p)::ks) (.Constant (.int v) b q::vs)
section
variable {X:Cx} {H0:Hp} {O0:List Addr} {ps:PSt} {pos:Pos} {keys:List (Option Expr)} {values:List Expr} {k m:Bool}
end
end L2
namespace L2
open PySem PySem.Spec PyProof.Rows
theorem Ws.nox {X:Cx} {H0:Hp} {O0:List Addr} {E:XK} {ss:List Stmt} {D:PD} {ps:PSt} (h:Ws X.nox H0 O0 E ss D ps):Ws X H0 O0 E ss D ps:=PSs.nox h
theorem ba.calm {P:Program} {w:World} {K:PySem.W.Frag} {mg:Str→Option Value} {base:Heap} {k:Nat} {f:Addr} {fd:FuncData} {ps:List Str} {sp:Sp} (F:ba P w K mg base (CXF P w) k f fd ps sp) (h:∀ vs H Q E,sp vs H Q E→sp vs H Q E0):ba P w K mg base CX0 k f fd ps sp:=by
 refine ⟨F.len,fun A outer s H args us vs Q E hr he hb hv hs=> codeAny_mono (F.run A outer s H args us vs Q E0 hr he hb hv (h _ _ _ _ hs)) fun r s' q=> ?_⟩
 cases r with
 | ok fl=>
  cases fl with
  | ret u=> exact q
  | next=> exact q
  | brk=> exact q
  | cont=> exact q
 | error e=>
  obtain ⟨_,_,_,_,_,_,_,_,_,_,_,_,_,_,_,hE⟩:=q
  exact hE.elim
def gU:List U→Out→Prop:=fun us o=> ∃ ns:List Int,us=[.scr (ns.map U.int)]∧ns.length≤63∧(∀ m∈ns,Sz 1048576 m)∧o=.val (.bl true)
theorem uy {K:PySem.W.Frag} (vs:List V) (H:Hp) (Q:VK) (E:XK) (h:spU K gU vs H Q E):spU K gU vs H Q E0:=by
 obtain ⟨us,O,o,d,r,⟨ns,h1,h2,h3,rfl⟩,q⟩:=h
 exact ⟨us,O,_,d,r,⟨ns,h1,h2,h3,rfl⟩,q⟩
theorem r_ {K:PySem.W.Frag} {H:Hp} {a:Addr} {ns:List Int} {E:XK} (h1:ns.length≤63) (h2:∀ m∈ns,Sz 1048576 m) (h3:SqL K H a (ns.map V.int)):spU K gU [.ref a] H (fun v _=> v=.bl true) E:=by
 refine ⟨[.scr (ns.map U.int)],[],.val (.bl true),fun a ha=> (nomatch ha),.cons ?_ .nil,⟨ns,rfl,h1,h2,rfl⟩,fun v H' s r=> by cases r; rfl⟩
 have e:hid H []=H:=by funext b; unfold hid; rw [if_neg (by simp)]
 rw [e]
 refine .scr h3 (by simp) fun i v x e1 e2=> ?_
 rw [List.getElem?_map] at e1 e2
 cases q:ns[i]? with
 | none=> rw [q] at e1; cases e1
 | some n=> rw [q] at e1 e2; cases e1; cases e2; exact .int n
theorem bK {k:Nat} {A:Around} (hr:bJ k A):A.units+10 < cLine:=by have:=hr.un; omega
theorem vJ {ns:List Int} {k:Int} (h0:0≤k) (h:k < (ns.length:Int)):atI (ns.map U.int) k=some (.int (ns.getD k.toNat 0)):=by
 have hk:k.toNat < ns.length:=by omega
 have q:atI (ns.map U.int) ((k.toNat:Nat):Int)=some (.int (ns.getD k.toNat 0)):=pZ (by rw [List.getElem?_map,List.getD_eq_getElem?_getD,List.getElem?_eq_getElem hk] <;> rfl)
 rwa [show ((k.toNat:Nat):Int)=k by omega] at q
theorem xm {ns:List Int} (h:∀ m∈ns,Sz 1048576 m) (i:Nat):Sz 1048576 (ns.getD i 0):=by
 by_cases hk:i < ns.length
 ·rw [List.getD_eq_getElem?_getD,List.getElem?_eq_getElem hk,Option.getD_some]; exact h _ (List.getElem_mem hk)
 ·rw [List.getD_eq_getElem?_getD,List.getElem?_eq_none (by omega),Option.getD_none]; exact Sz.mono (m:=8) (by decide) (by decide)
abbrev pt (x y:Int):U:=.tup [.int x,.int y]
theorem dTb {p:Prop} [Decidable p] (h:decide p=true):p:=of_decide_eq_true h
theorem dFb {p:Prop} [Decidable p] (h:decide p=false):¬ p:=of_decide_eq_false h
theorem vB {a b:Bool} (h:a=b):Out.val (.bl a)=Out.val (.bl b):=by rw [h]
theorem vIO {a b:Int} (h:a=b):Out.val (.int a)=Out.val (.int b):=by rw [h]
mutual
theorem uB:∀ (n:Nat) (u:U),okU n u=true→eqW u u=true
 | _,.non,_=> rfl
 | _,.bl b,_=> by simp [eqW]
 | _,.int b,_=> by simp [eqW]
 | _,.str b,_=> by simp [eqW]
 | _,.ty _,h=> by simp [okU] at h
 | _,.dic,h=> by simp [okU] at h
 | 0,.tup _,h=> by simp [okU] at h
 | 0,.lst _,h=> by simp [okU] at h
 | 0,.scr _,h=> by simp [okU] at h
 | n+1,.tup xs,h=> by rw [eqW]; rw [okU] at h; exact eqWs_refl n xs h
 | n+1,.lst xs,h=> by rw [eqW]; rw [okU] at h; exact eqWs_refl n xs h
 | n+1,.scr xs,h=> by rw [eqW]; rw [okU] at h; exact eqWs_refl n xs h
theorem eqWs_refl:∀ (n:Nat) (xs:List U),okUs n xs=true→eqWs xs xs=true
 | _,[],_=> rfl
 | n,x::xs,h=> by
  simp only [okUs,Bool.and_eq_true] at h
  simp only [eqWs,Bool.and_eq_true]
  exact ⟨uB n x h.1,eqWs_refl n xs h.2⟩
end
end L2
namespace L2
open PySem PySem.Spec PyProof.Rows
section
variable {X:Cx} {H0:Hp} {O0:List Addr} {E:XK} {ps:PSt} {D:PD} {a b c e:Expr} {rest:List Expr} {pos:Pos} {k:Bool}
theorem fZ {tb fb:List Stmt} (hc:Tt X H0 O0 ps c k) (hk:k=true) (h:Ws X H0 O0 E tb D ps):W1 X H0 O0 E (.If c tb fb pos) D ps:=jo hc (fun _=> h) (fun e=> by rw [hk] at e; cases e)
theorem bh {tb fb:List Stmt} (hc:Tt X H0 O0 ps c k) (hk:k=false) (h:Ws X H0 O0 E fb D ps):W1 X H0 O0 E (.If c tb fb pos) D ps:=jo hc (fun e=> by rw [hk] at e; cases e) (fun _=> h)
theorem uh (ha:Tt X H0 O0 ps a k) (hk:k=false):Tw X H0 O0 ps (.BoolOp .And (a::b::rest) pos) false:=by
 subst hk
 exact tT (m:=true) ha fun h=> by cases h
end
end L2
namespace L2
open PySem PySem.Spec PyProof.Rows
section
variable {X:Cx} {H0:Hp} {O0:List Addr} {E:XK} {ps:PSt} {D:PD} {body:List Stmt} {tg iter c:Expr} {pos:Pos} {xs:List U} {α:Type}
theorem TgS.sub {p p':PSt} {u:U} {ps':PSt} (h:TgS X H0 O0 tg p u ps') (hs:SubP p p'):TgS X H0 O0 tg p' u ps':=PG.mono h fun v σ H Q ⟨O,R,r,q⟩=> ⟨O,R.sub hs,r,q⟩
theorem Tt.sub {p p':PSt} {e:Expr} {k:Bool} (h:Tt X H0 O0 p e k) (hs:SubP p p'):Tt X H0 O0 p' e k:=PT.mono h fun σ H Q ⟨O,R,q⟩=> ⟨O,R.sub hs,q⟩
theorem jL (st:α→PSt) (Q:Nat→α→Prop) (hc:X.calm=true) (hp:PassesOwn (model X.prog X.w) X.A X.env X.xe) (hi:EvI X H0 O0 ps tg iter xs) (h0:∃ a,Q 0 a∧SubP (st a) ps)
  (hs:∀ (H0:Hp) (i:Nat) (x:U) (a:α),xs[i]?=some x→Q i a→∃ ps',TgS X H0 O0 tg (st a) x ps'∧Ws X H0 O0 E body { D with nx:=fun p=> ∃ b,Q (i+1) b∧SubP (st b) p,ct:=fun p=> ∃ b,Q (i+1) b∧SubP (st b) p,bk:=D.nx } ps')
  (hd:∀ a ps,Q xs.length a→SubP (st a) ps→D.nx ps) (hf:∀ x,foldedSetIterable iter X.env x=pure x:=by intro _; rfl):W1 X H0 O0 E (.For tg iter body [] pos) D ps:=
 AG hc hp hi (fun i ps=> ∃ a,Q i a∧SubP (st a) ps) h0 (fun H0 i x ps hx ⟨a,q,sb⟩=> by
  obtain ⟨ps',t,w⟩:=hs H0 i x a hx q
  exact ⟨ps',t.sub sb,w⟩) (fun ps ⟨a,q,sb⟩=> hd a ps q sb) hf
theorem gS (st:α→PSt) (Q:Nat→α→Prop) (hp:PassesOwn (model X.prog X.w) X.A X.env X.xe) (h0:∃ m a,Q m a∧SubP (st a) ps)
  (hs:∀ m a,Q m a→∃ b,Tt X H0 O0 (st a) c b∧(b=true→Ws X H0 O0 E body { D with nx:=fun p=> ∃ m' a',m' < m∧Q m' a'∧SubP (st a') p,ct:=fun p=> ∃ m' a',m' < m∧Q m' a'∧SubP (st a') p,bk:=D.nx } (st a))∧(b=false→∀ ps,SubP (st a) ps→D.nx ps)):W1 X H0 O0 E (.While c body [] pos) D ps:=by
 obtain ⟨m,a,q,sb⟩:=h0
 refine wv hp (fun m ps=> ∃ a,Q m a∧SubP (st a) ps) m ⟨a,q,sb⟩ fun m ps ⟨a,q,sb⟩=> ?_
 obtain ⟨b,t,h1,h2⟩:=hs m a q
 refine ⟨b,t.sub sb,fun e=> ?_,fun e=> h2 e ps sb⟩
 refine eJ (PSs.mono (h1 e) fun D' σ H ⟨L,O,R⟩=> ⟨⟨fun p σ H O R ⟨m',a',l,q',sb'⟩=> L.nx p σ H O R ⟨m',l,a',q',sb'⟩,L.bk,fun p σ H O R ⟨m',a',l,q',sb'⟩=> L.ct p σ H O R ⟨m',l,a',q',sb'⟩,L.rt⟩,O,R⟩) sb
end
abbrev P2:=Int×Int
abbrev pu (p:P2):U:=.tup [.int p.1,.int p.2]
abbrev lp (l:List P2):U:=.lst (l.map pu)
theorem yD (p q:P2):eqW (pu p) (pu q)=decide (p=q):=by
 obtain ⟨a,b⟩:=p
 obtain ⟨c,d⟩:=q
 simp only [pu,eqW,eqWs,Bool.and_true]
 rw [Bool.eq_iff_iff]; simp
theorem iE {l:List P2} {i:Nat} {x:U} (h:(l.map pu)[i]?=some x):∃ p,l[i]?=some p∧p∈l∧x=pu p:=by
 rw [List.getElem?_map] at h
 cases q:l[i]? with
 | none=> rw [q] at h; cases h
 | some p=> rw [q] at h; cases h; exact ⟨p,rfl,List.mem_of_getElem? q,rfl⟩
theorem cM {α:Type} {l:List α} {f:α→U} {g:α→U} {i:Nat} {x y:U} (hx:(l.map f)[i]?=some x) (hy:(l.map g)[i]?=some y):∃ a,l[i]?=some a∧a∈l∧x=f a∧y=g a:=by
 rw [List.getElem?_map] at hx hy
 cases q:l[i]? with
 | none=> rw [q] at hx; cases hx
 | some p=> rw [q] at hx hy; cases hx; cases hy; exact ⟨p,rfl,List.mem_of_getElem? q,rfl,rfl⟩
end L2
namespace L2
open PySem PySem.Spec PyProof.Rows
theorem W1.mono {X:Cx} {H0:Hp} {O0:List Addr} {E:XK} {s:Stmt} {D:PD} {J:PSt→Prop} {ps:PSt} (h:W1 X H0 O0 E s { D with nx:=J } ps) (m:∀ ps,J ps→D.nx ps):W1 X H0 O0 E s D ps:=
 PS.mono h fun D' σ H ⟨L,O,R⟩=> ⟨⟨fun p σ H O R q=> L.nx p σ H O R (m p q),L.bk,L.ct,L.rt⟩,O,R⟩
theorem jM {X:Cx} {H0:Hp} {O0:List Addr} {E:XK} {s:Stmt} {ss:List Stmt} {D:PD} {ps:PSt} (J:PSt→Prop) (h1:W1 X H0 O0 E s { D with nx:=J } ps) (h2:∀ ps,J ps→Ws X H0 O0 E ss D ps):Ws X H0 O0 E (s::ss) D ps:=
 ae (W1.mono (J:=J) (D:={ D with nx:=fun p=> Ws X H0 O0 E ss D p }) h1 h2)
end L2
namespace PySem.W
open PySem PySem.Spec PySem.Calls PyProof.Rows
end PySem.W
namespace L2
open PySem PySem.Spec PySem.W PyProof.Rows
section
variable {X:Cx} {pins:List (Addr×Obj)} {σ:St} {H:Hp} {s:Shared}
end
section
variable {X:Cx}
def jC.drop (D:jC) (i:Nat):jC:=⟨fun σ H=> D.nx (σ.set i none) H,D.rt,fun σ H=> D.bk (σ.set i none) H,fun σ H=> D.ct (σ.set i none) H⟩
end
section
variable {X:Cx} {H0:Hp} {O0:List Addr} {E:XK} {ps:PSt} {D:PD} {a e:Expr} {es:List Expr} {us:List U} {k:Bool} {n:Nat} {fd:FuncData} {pn:List Str} {spec:List U→Out→Prop}
def PD.drop (D:PD) (i:Nat):PD:=⟨fun p=> D.nx (p.set i none),D.rt,fun p=> D.bk (p.set i none),fun p=> D.ct (p.set i none)⟩
end
section
variable {X:Cx} {H0:Hp} {O0:List Addr} {ps:PSt} {pos:Pos}
end
end L2
namespace L2
open PySem
theorem aM {c:Const} {j:Nat} {pos:Pos} {es:List Expr} {env:Env}:starEach (.Constant c j pos::es) env=(false,eval (.Constant c j pos) env)::starEach es env:=by rw [starEach]; intro e p h; cases h
theorem zE {l:List Expr} {j:Nat} {pos:Pos} {es:List Expr} {env:Env}:starEach (.Tuple l j pos::es) env=(false,eval (.Tuple l j pos) env)::starEach es env:=by rw [starEach]; intro e p h; cases h
theorem t6 {o:UnaryOp} {a:Expr} {pos:Pos} {es:List Expr} {env:Env}:starEach (.UnaryOp o a pos::es) env=(false,eval (.UnaryOp o a pos) env)::starEach es env:=by rw [starEach]; intro e p h; cases h
theorem b_ {a b:Expr} {o:Operator} {pos:Pos} {es:List Expr} {env:Env}:starEach (.BinOp a o b pos::es) env=(false,eval (.BinOp a o b pos) env)::starEach es env:=by rw [starEach]; intro e p h; cases h
theorem ag {x:Str} {pos:Pos} {es:List Expr} {env:Env}:starEach (.Name x pos::es) env=(false,eval (.Name x pos) env)::starEach es env:=by rw [starEach]; intro e p h; cases h
theorem bA {a b:Expr} {pos:Pos} {es:List Expr} {env:Env}:starEach (.Subscript a b pos::es) env=(false,eval (.Subscript a b pos) env)::starEach es env:=by rw [starEach]; intro e p h; cases h
theorem bY {f:Expr} {a:List Expr} {k:List Keyword} {pos:Pos} {es:List Expr} {env:Env}:starEach (.Call f a k pos::es) env=(false,eval (.Call f a k pos) env)::starEach es env:=by rw [starEach]; intro e p h; cases h
theorem zk {a:Expr} {o:List CmpOp} {c:List Expr} {pos:Pos} {es:List Expr} {env:Env}:starEach (.Compare a o c pos::es) env=(false,eval (.Compare a o c pos) env)::starEach es env:=by rw [starEach]; intro e p h; cases h
theorem gM {e:Expr} {g:List Comprehension} {sc:Scope} {pos:Pos} {es:List Expr} {env:Env}:starEach (.ListComp e g sc pos::es) env=(false,eval (.ListComp e g sc pos) env)::starEach es env:=by rw [starEach]; intro e p h; cases h
structure EvS (X:Cx) (H0:Hp) (O0:List Addr) (ps:PSt) (es:List Expr) (us:List U):Prop where
 a:EvA X H0 O0 ps es us
section
variable {X:Cx} {H0:Hp} {O0:List Addr} {ps:PSt} {e:Expr} {es:List Expr} {u:U} {us:List U} {pos:Pos}
theorem ca:EvS X H0 O0 ps [] []:=⟨ak⟩
theorem aG (ha:Ev X H0 O0 ps e u) (hr:EvS X H0 O0 ps es us) (hs:starEach (e::es) X.env=(false,eval e X.env)::starEach es X.env):EvS X H0 O0 ps (e::es) (u::us):=⟨ac ha hr.a hs⟩
theorem cD {x1} (h:EvS X H0 O0 ps es us) (hz:us.length≤sizeLine:=by first | decide | (simp only [List.length_cons,List.length_nil]; decide)):Ev X H0 O0 ps (.Tuple es x1 pos) (.tup us):=AT h.a hz
theorem gm (h:EvS X H0 O0 ps es us) (hz:us.length≤sizeLine:=by first | decide | (simp only [List.length_cons,List.length_nil]; decide)):EvN X H0 O0 ps (.List es pos) us:=Ac h.a hz
end
end L2
namespace ST
open PySem PySem.SetTable
def Ris (xs:Array Nat):Prop:=∀ (i j x y:Nat),i < j→xs[i]?=some x→xs[j]?=some y→x < y
theorem Ris.inj {xs:Array Nat} (h:Ris xs) {i j x:Nat} (h1:xs[i]?=some x) (h2:xs[j]?=some x):i=j:=by
 rcases Nat.lt_trichotomy i j with z | z | z
 ·exact absurd (h i j x x z h1 h2) (Nat.lt_irrefl _)
 ·exact z
 ·exact absurd (h j i x x z h2 h1) (Nat.lt_irrefl _)
theorem dP {xs:Array Nat} {i:Nat} (h:i < xs.size):xs[i]?=some xs[i]:=by simp [h]
theorem qB {xs:Array Nat} {i x:Nat} (h:xs[i]?=some x):i < xs.size:=(Array.getElem?_eq_some_iff.mp h).1
theorem lz {xs:Array Nat} (R:Ris xs) (j:Nat):∀ (fuel lo hi:Nat),lo≤hi→hi≤xs.size→hi - lo≤fuel→(∀ (i x:Nat),i < lo→xs[i]?=some x→x < j)→(∀ (i x:Nat),hi≤i→xs[i]?=some x→j≤x)→
  (∀ (i x:Nat),i < below.go xs j fuel lo hi→xs[i]?=some x→x < j)∧(∀ (i x:Nat),below.go xs j fuel lo hi≤i→xs[i]?=some x→j≤x)∧below.go xs j fuel lo hi≤xs.size
 | 0,lo,hi,h1,h2,h3,h4,h5=> by
  have e:lo=hi:=by omega
  subst e
  rw [below.go]
  exact ⟨h4,h5,h2⟩
 | fuel+1,lo,hi,h1,h2,h3,h4,h5=> by
  rw [below.go]
  by_cases hlt:lo < hi
  ·rw [if_pos hlt]
   have hm:(lo+hi) / 2 < xs.size:=by omega
   have e:xs.getD ((lo+hi) / 2) j=xs[(lo+hi) / 2]:=by simp [Array.getD,hm]
   simp only [e]
   split
   ·rename_i hl
    refine lz R j fuel _ hi (by omega) h2 (by omega) (fun i x hi' hx=> ?_) h5
    rcases Nat.lt_or_eq_of_le (show i≤(lo+hi) / 2 by omega) with z | z
    ·exact Nat.lt_trans (R i _ x _ z hx (dP hm)) hl
    ·subst z; rw [dP hm] at hx; cases hx; exact hl
   ·rename_i hl
    refine lz R j fuel lo _ (by omega) (by omega) (by omega) h4 (fun i x hi' hx=> ?_)
    rcases Nat.lt_or_eq_of_le hi' with z | z
    ·exact Nat.le_trans (Nat.le_of_not_lt hl) (Nat.le_of_lt (R _ i _ x z (dP hm) hx))
    ·subst z; rw [dP hm] at hx; cases hx; exact Nat.le_of_not_lt hl
  ·rw [if_neg hlt]
   have e:lo=hi:=by omega
   subst e
   exact ⟨h4,h5,h2⟩
theorem eW {xs:Array Nat} (R:Ris xs) (j:Nat):(∀ (i x:Nat),i < below xs j→xs[i]?=some x→x < j)∧(∀ (i x:Nat),below xs j≤i→xs[i]?=some x→j≤x)∧below xs j≤xs.size:=
 lz R j xs.size 0 xs.size (Nat.zero_le _) (Nat.le_refl _) (by omega) (fun i x h=> absurd h (Nat.not_lt_zero _)) (fun i x h e=> absurd (qB e) (by omega))
theorem t9 {xs:Array Nat} (R:Ris xs) {i j:Nat} (h:xs[i]?=some j):below xs j=i:=by
 obtain ⟨h1,h2,h3⟩:=eW R j
 rcases Nat.lt_trichotomy (below xs j) i with z | z | z
 ·have hk:below xs j < xs.size:=Nat.lt_trans z (qB h)
  have:=h2 _ _ (Nat.le_refl _) (dP hk)
  have:=R _ _ _ _ z (dP hk) h
  omega
 ·exact z
 ·have:=h1 i j z h
  omega
theorem ku {t:SetTable} (R:Ris t.place) {i j:Nat} (h:t.place[i]?=some j):t.slot j=.live i:=by
 unfold SetTable.slot
 simp only [t9 R h,h,beq_self_eq_true,if_true]
theorem qT {t:SetTable} (hd:t.dummies=#[]) {j:Nat} (h:∀ i:Nat,t.place[i]?≠some j):t.slot j=.empty:=by
 unfold SetTable.slot
 have e:(t.place[below t.place j]?==some j)=false:=by simpa using h _
 simp only [e,hd]
 simp [SetTable.has]
theorem oX {t:SetTable} (R:Ris t.place) (hd:t.dummies=#[]) (j:Nat):(t.slot j=.empty∧∀ i:Nat,t.place[i]?≠some j)∨∃ i:Nat,t.slot j=.live i∧t.place[i]?=some j:=by
 by_cases h:∃ i:Nat,t.place[i]?=some j
 ·obtain ⟨i,hi⟩:=h
  exact .inr ⟨i,ku R hi,hi⟩
 ·exact .inl ⟨qT hd fun i e=> h ⟨i,e⟩,fun i e=> h ⟨i,e⟩⟩
theorem rh {xs:Array Nat} (R:Ris xs) {mask:Nat} (hn:xs.size≤mask):∃ s,s≤mask∧∀ i:Nat,xs[i]?≠some s:=by
 apply Classical.byContradiction
 intro hno
 have all:∀ s,s≤mask→∃ i:Nat,xs[i]?=some s:=fun s hs=> by
  apply Classical.byContradiction
  intro h
  exact hno ⟨s,hs,fun i e=> h ⟨i,e⟩⟩
 have key:∀ s,s≤mask→∃ i:Nat,xs[i]?=some s∧s≤i:=by
  intro s
  induction s with
  | zero=> intro h; obtain ⟨i,hi⟩:=all 0 h; exact ⟨i,hi,Nat.zero_le _⟩
  | succ s ih=>
   intro h
   obtain ⟨i,hi,hle⟩:=ih (by omega)
   obtain ⟨k,hk⟩:=all (s+1) h
   refine ⟨k,hk,?_⟩
   rcases Nat.lt_trichotomy i k with z | z | z
   ·omega
   ·subst z; rw [hi] at hk; cases hk
   ·have:=R k i _ _ z hk hi; omega
 obtain ⟨i,hi,hle⟩:=key mask (Nat.le_refl _)
 have:=qB hi
 omega
def adv (mask:Nat) (p:Probe):Probe:=
 if p.more > 0 then { p with j:=p.j+1,more:=p.more - 1 } else
 { p with j:=(leap mask p.i p.perturb).1,more:=runEnd mask (leap mask p.i p.perturb).1 - (leap mask p.i p.perturb).1,i:=(leap mask p.i p.perturb).1,perturb:=(leap mask p.i p.perturb).2 }
theorem jv (t:SetTable) (p:Probe):t.advance p=adv t.mask p:=by
 unfold SetTable.advance adv
 split
 ·rfl
 ·rfl
def start (mask:Nat) (h:Int):Probe:={ j:=bits h % (mask+1),more:=runEnd mask (bits h % (mask+1)) - bits h % (mask+1),i:=bits h % (mask+1),perturb:=bits h,dummy:=none }
def pth (mask:Nat) (h:Int):Nat→Probe
 | 0=> start mask h
 | n+1=> adv mask (pth mask h n)
def aV (mask:Nat) (h:Int):Nat→Nat×Nat
 | 0=> (bits h % (mask+1),bits h)
 | r+1=> leap mask (aV mask h r).1 (aV mask h r).2
theorem iZ {mask:Nat}:∀ (m:Nat) (p:Probe) (f:Nat→Probe),f 0=p→(∀ n,f (n+1)=adv mask (f n))→m≤p.more→f m={ p with j:=p.j+m,more:=p.more - m }
 | 0,p,f,h0,_,_=> by rw [h0]; rfl
 | m+1,p,f,h0,hs,hm=> by
  rw [hs m,iZ m p f h0 hs (by omega)]
  unfold adv
  rw [if_pos (by show p.more - m > 0; omega)]
  simp only [Probe.mk.injEq]
  exact ⟨by omega,by omega,trivial,trivial,trivial⟩
theorem jc (mask:Nat) (h:Int):∀ n,(pth mask h n).dummy=none
 | 0=> rfl
 | n+1=> by
  rw [pth]; unfold adv
  split
  ·exact jc mask h n
  ·exact jc mask h n
theorem q0 (mask i:Nat):runEnd mask i - i≤9:=by unfold runEnd; split <;> omega
theorem qk (mask:Nat) (h:Int):∀ r,∃ n,n≤10 * r∧pth mask h n={ j:=(aV mask h r).1,more:=runEnd mask (aV mask h r).1 - (aV mask h r).1,i:=(aV mask h r).1,perturb:=(aV mask h r).2,dummy:=none }
 | 0=> ⟨0,Nat.le_refl _,rfl⟩
 | r+1=> by
  obtain ⟨n,hn,e⟩:=qk mask h r
  have hL:=q0 mask (aV mask h r).1
  have step:=iZ (mask:=mask) (runEnd mask (aV mask h r).1 - (aV mask h r).1) (pth mask h n) (fun m=> pth mask h (n+m)) rfl (fun m=> rfl) (by rw [e]; exact Nat.le_refl _)
  refine ⟨n+(runEnd mask (aV mask h r).1 - (aV mask h r).1)+1,by omega,?_⟩
  rw [pth]
  have step':pth mask h (n+(runEnd mask (aV mask h r).1 - (aV mask h r).1))=_:=step
  rw [step',e]
  unfold adv
  rw [if_neg (by simp)]
  rfl
theorem wX (h:Int):bits h < 2 ^ 64:=by
 unfold bits
 have h1:=Int.emod_nonneg h (show (2 ^ 64:Int)≠0 by decide)
 have h2:=Int.emod_lt_of_pos h (show (0:Int) < 2 ^ 64 by decide)
 omega
theorem kh (mask:Nat) (h:Int):∀ r,(aV mask h r).2=bits h / 32 ^ r
 | 0=> by simp [aV]
 | r+1=> by
  rw [aV]
  show (aV mask h r).2 / 32=_
  rw [kh mask h r,Nat.div_div_eq_div_mul,Nat.pow_succ]
theorem sr (mask:Nat) (h:Int) (r:Nat) (hr:12≤r):(aV mask h r).2 / 32=0:=by
 rw [kh]
 have h1:=wX h
 rw [Nat.div_div_eq_div_mul]
 apply Nat.div_eq_of_lt
 have:32 ^ 12 * 32≤32 ^ r * 32:=Nat.mul_le_mul_right _ (Nat.pow_le_pow_right (by decide) hr)
 exact Nat.lt_of_lt_of_le (Nat.lt_of_lt_of_le h1 (by decide)) this
def cK:Nat→Nat
 | 0=> 1
 | k+1=> cK k * (4 * cK k+2)
theorem tU:∀ k,∃ m,cK k=2 ^ k * (2 * m+1)
 | 0=> ⟨0,by simp [cK]⟩
 | k+1=> by
  obtain ⟨m,e⟩:=tU k
  refine ⟨2 * (cK k) * m+m+cK k,?_⟩
  rw [cK,Nat.pow_succ]
  have:cK k * (4 * cK k+2)=2 ^ k * (2 * m+1) * (4 * cK k+2):=by rw [← e]
  rw [this]
  generalize cK k=c
  generalize 2 ^ k=p
  grind
def fU:Nat→Nat→Nat
 | 0,x=> x
 | n+1,x=> 5 * fU n x+1
theorem jY (m x:Nat):∀ n,fU (m+n) x=fU n (fU m x)
 | 0=> rfl
 | n+1=> by rw [← Nat.add_assoc,fU,jY m x n,fU]
theorem jA:∀ (k x:Nat),fU (2 ^ k) x=(1+4 * cK k) * x+cK k
 | 0,x=> by simp [fU,cK]
 | k+1,x=> by
  rw [Nat.pow_succ,Nat.mul_two,jY,jA k,jA k,cK]
  generalize cK k=c
  grind
theorem pi (k x:Nat):fU (2 ^ k) x % 2 ^ (k+1)=(x+2 ^ k) % 2 ^ (k+1):=by
 rw [jA]
 obtain ⟨m,e⟩:=tU k
 rw [e]
 have:(1+4 * (2 ^ k * (2 * m+1))) * x+2 ^ k * (2 * m+1)=(x+2 ^ k)+2 ^ (k+1) * (2 * (2 * m+1) * x+m):=by
  rw [Nat.pow_succ]
  generalize 2 ^ k=p
  grind
 rw [this,Nat.add_mul_mod_self_left]
theorem gg (x:Nat):∀ (k y:Nat),∃ n,n < 2 ^ k∧fU n x % 2 ^ k=y % 2 ^ k
 | 0,y=> ⟨0,by simp,by simp [Nat.mod_one]⟩
 | k+1,y=> by
  obtain ⟨n,hn,e⟩:=gg x k y
  have hp:2 ^ (k+1)=2 ^ k+2 ^ k:=by rw [Nat.pow_succ]; omega
  have h2:0 < 2 ^ k:=Nat.pow_pos (by decide)
  by_cases h:fU n x % 2 ^ (k+1)=y % 2 ^ (k+1)
  ·exact ⟨n,by omega,h⟩
  ·refine ⟨n+2 ^ k,by omega,?_⟩
   rw [jY,pi]
   generalize fU n x=z at *
   have d1:z % 2 ^ (k+1) % 2 ^ k=z % 2 ^ k:=Nat.mod_mod_of_dvd _ ⟨2,by rw [Nat.pow_succ]⟩
   have d2:y % 2 ^ (k+1) % 2 ^ k=y % 2 ^ k:=Nat.mod_mod_of_dvd _ ⟨2,by rw [Nat.pow_succ]⟩
   have l1:=Nat.mod_lt z (show 0 < 2 ^ (k+1) by omega)
   have l2:=Nat.mod_lt y (show 0 < 2 ^ (k+1) by omega)
   rw [← Nat.mod_add_mod]
   rw [← d1,← d2] at e
   generalize z % 2 ^ (k+1)=a at *
   generalize y % 2 ^ (k+1)=b at *
   rw [hp] at *
   generalize 2 ^ k=p at *
   have ea:a % p=if a < p then a else a - p:=by
    split
    ·exact Nat.mod_eq_of_lt (by assumption)
    ·rw [Nat.mod_eq_sub_mod (by omega),Nat.mod_eq_of_lt (by omega)]
   have eb:b % p=if b < p then b else b - p:=by
    split
    ·exact Nat.mod_eq_of_lt (by assumption)
    ·rw [Nat.mod_eq_sub_mod (by omega),Nat.mod_eq_of_lt (by omega)]
   rw [ea,eb] at e
   by_cases ha:a < p
   ·rw [if_pos ha] at e
    rw [Nat.mod_eq_of_lt (by omega)]
    split at e <;> omega
   ·rw [if_neg ha] at e
    rw [Nat.mod_eq_sub_mod (by omega),Nat.mod_eq_of_lt (by omega)]
    split at e <;> omega
theorem jy {mask k:Nat} (hk:mask+1=2 ^ k) (h:Int):∀ q,(aV mask h (12+q)).1=fU q (aV mask h 12).1 % 2 ^ k
 | 0=> by
  rw [fU]
  have:(aV mask h 12).1 < 2 ^ k:=by
   rw [← hk]
   show (leap mask (aV mask h 11).1 (aV mask h 11).2).1 < _
   exact Nat.mod_lt _ (by omega)
  exact (Nat.mod_eq_of_lt this).symm
 | q+1=> by
  show (leap mask (aV mask h (12+q)).1 (aV mask h (12+q)).2).1=_
  unfold leap
  simp only [sr mask h (12+q) (by omega)]
  rw [jy hk h q,hk,fU,Nat.add_zero,Nat.mul_comm 5 _]
  generalize fU q (aV mask h 12).1=z
  generalize 2 ^ k=m
  rw [Nat.add_mod,Nat.mod_mul_mod,← Nat.add_mod]
theorem cover {mask k:Nat} (hk:mask+1=2 ^ k) (h:Int) (s:Nat) (hs:s≤mask):∃ n,n < 10 * turns mask∧(pth mask h n).j=s:=by
 obtain ⟨q,hq,e⟩:=gg (aV mask h 12).1 k s
 obtain ⟨n,hn,en⟩:=qk mask h (12+q)
 refine ⟨n,?_,?_⟩
 ·unfold turns; omega
 ·rw [en]
  show (aV mask h (12+q)).1=s
  rw [jy hk h q,e]
  exact Nat.mod_eq_of_lt (by omega)
end ST
namespace ST
open PySem PySem.SetTable
def Liv (t:SetTable) (j:Nat):Prop:=∃ i:Nat,t.place[i]?=some j
structure TOk (t:SetTable) (hs:List Int):Prop where
 R:Ris t.place
 d:t.dummies=#[]
 k:∃ k,3≤k∧t.mask+1=2 ^ k
 n:t.place.size=hs.length
 f:t.place.size≤t.mask
 le:∀ (i x:Nat),t.place[i]?=some x→x≤t.mask
 reach:∀ (i j:Nat) (h:Int),t.place[i]?=some j→hs[i]?=some h→∃ m,(pth t.mask h m).j=j∧∀ m',m' < m→Liv t (pth t.mask h m').j
theorem least {P:Nat→Prop}:∀ n,P n→∃ m,m≤n∧P m∧∀ k,k < m→¬ P k:=by
 intro n
 induction n using Nat.strongRecOn with
 | _ n ih=>
  intro h
  by_cases hk:∃ k,k < n∧P k
  ·obtain ⟨k,hk,hp⟩:=hk
   obtain ⟨m,h1,h2,h3⟩:=ih k hk hp
   exact ⟨m,by omega,h2,h3⟩
  ·exact ⟨n,Nat.le_refl _,h,fun k hk' hp=> hk ⟨k,hk',hp⟩⟩
theorem oI {t:SetTable} {hs:List Int} (T:TOk t hs) (h:Int):∃ N,N < 10 * turns t.mask∧¬ Liv t (pth t.mask h N).j∧∀ m,m < N→Liv t (pth t.mask h m).j:=by
 obtain ⟨s,hs1,hs2⟩:=rh T.R T.f
 obtain ⟨k,_,hk⟩:=T.k
 obtain ⟨n,hn,e⟩:=cover hk h s hs1
 obtain ⟨m,h1,h2,h3⟩:=least (P:=fun n=> ¬ Liv t (pth t.mask h n).j) n (by show ¬ Liv t (pth t.mask h n).j; rw [e]; rintro ⟨i,hi⟩; exact hs2 i hi)
 exact ⟨m,by omega,h2,fun k hk'=> Classical.byContradiction fun z=> h3 k hk' z⟩
theorem nR {t:SetTable} {hs:List Int} (T:TOk t hs) (hashAt:Nat→Int) (h:Int) {N:Nat} (h0:¬ Liv t (pth t.mask h N).j) (h1:∀ m,m < N→Liv t (pth t.mask h m).j):∀ (fuel n:Nat),n≤N→N - n < fuel→
  (probe.go t hashAt h fuel (pth t.mask h n)=some (.empty (pth t.mask h N).j none)∧∀ (m i:Nat),n≤m→m < N→t.place[i]?=some (pth t.mask h m).j→hashAt i≠h)∨
  ∃ m i:Nat,n≤m∧m < N∧t.place[i]?=some (pth t.mask h m).j∧hashAt i=h∧probe.go t hashAt h fuel (pth t.mask h n)=some (.candidate (pth t.mask h m).j i (pth t.mask h (m+1)))∧
   ∀ (m' i':Nat),n≤m'→m' < m→t.place[i']?=some (pth t.mask h m').j→hashAt i'≠h
 | 0,n,_,hf=> by omega
 | fuel+1,n,hn,hf=> by
  rw [probe.go]
  rcases oX T.R T.d (pth t.mask h n).j with ⟨e,hno⟩ | ⟨i,e,hi⟩
  ·have hN:n=N:=by
    rcases Nat.lt_or_eq_of_le hn with z | z
    ·obtain ⟨i,hi⟩:=h1 n z; exact absurd hi (hno i)
    ·exact z
   subst hN
   refine .inl ⟨by simp only [e,jc],fun m i z1 z2=> by omega⟩
  ·have hN:n < N:=by
    rcases Nat.lt_or_eq_of_le hn with z | z
    ·exact z
    ·subst z; exact absurd ⟨i,hi⟩ h0
   simp only [e]
   by_cases hh:hashAt i=h
   ·refine .inr ⟨n,i,Nat.le_refl _,hN,hi,hh,?_,fun m' i' z1 z2=> by omega⟩
    simp only [hh,beq_self_eq_true,if_true,jv]
    rfl
   ·have hb:(hashAt i==h)=false:=by simpa using hh
    simp only [hb,Bool.false_eq_true,if_false,jv]
    have ih:=nR T hashAt h h0 h1 fuel (n+1) (by omega) (by omega)
    rcases ih with ⟨q1,q2⟩ | ⟨m,i2,q1,q2,q3,q4,q5,q6⟩
    ·refine .inl ⟨q1,fun m i' z1 z2 z3=> ?_⟩
     rcases Nat.lt_or_eq_of_le z1 with z | z
     ·exact q2 m i' z z2 z3
     ·subst z
      rw [T.R.inj z3 hi]; exact hh
    ·refine .inr ⟨m,i2,by omega,q2,q3,q4,q5,fun m' i' z1 z2 z3=> ?_⟩
     rcases Nat.lt_or_eq_of_le z1 with z | z
     ·exact q6 m' i' z z2 z3
     ·subst z
      rw [T.R.inj z3 hi]; exact hh
theorem tJ {t:SetTable} {hs:List Int} (T:TOk t hs) {h:Int} {N i:Nat} (h0:¬ Liv t (pth t.mask h N).j) (hi:hs[i]?=some h):∃ (m j:Nat),m < N∧t.place[i]?=some j∧(pth t.mask h m).j=j:=by
 have hlt:i < t.place.size:=by rw [T.n]; exact (List.getElem?_eq_some_iff.mp hi).1
 obtain ⟨m,e,hm⟩:=T.reach i _ h (dP hlt) hi
 refine ⟨m,_,?_,dP hlt,e⟩
 rcases Nat.lt_trichotomy m N with z | z | z
 ·exact z
 ·subst z; exact absurd ⟨i,by rw [e]; exact dP hlt⟩ h0
 ·exact absurd (hm N z) h0
theorem ef {α:Type} (xs:Array α) (p:Nat) (x:α):(insertAt xs p x).toList=xs.toList.take p++x::xs.toList.drop p:=by
 unfold insertAt
 simp [Array.toList_extract]
 exact List.take_of_length_le (by simp)
theorem cw {α:Type} {xs:Array α} {p:Nat} {x:α} (hp:p≤xs.size) (i:Nat):(insertAt xs p x)[i]?=if i < p then xs[i]? else if i=p then some x else xs[i - 1]?:=by
 rw [← Array.getElem?_toList,ef]
 have hl:(xs.toList.take p).length=p:=by simp; omega
 by_cases h1:i < p
 ·rw [if_pos h1,List.getElem?_append_left (by omega),List.getElem?_take_of_lt h1,Array.getElem?_toList]
 ·rw [if_neg h1,List.getElem?_append_right (by omega),hl]
  by_cases h2:i=p
  ·subst h2; simp
  ·rw [if_neg h2]
   obtain ⟨q,hq⟩:∃ q,i - p=q+1:=⟨i - p - 1,by omega⟩
   rw [hq,List.getElem?_cons_succ,List.getElem?_drop,Array.getElem?_toList]
   congr 1; omega
theorem gb {α:Type} (xs:Array α) (p:Nat) (x:α) (hp:p≤xs.size):(insertAt xs p x).size=xs.size+1:=by
 rw [← Array.length_toList,ef]; simp; omega
def fR {α:Type} (xs:List α) (p:Nat) (x:α):List α:=xs.take p++x::xs.drop p
theorem vI {α:Type} {xs:List α} {p:Nat} {x:α} (hp:p≤xs.length) (i:Nat):(fR xs p x)[i]?=if i < p then xs[i]? else if i=p then some x else xs[i - 1]?:=by
 unfold fR
 have hl:(xs.take p).length=p:=by simp; omega
 by_cases h1:i < p
 ·rw [if_pos h1,List.getElem?_append_left (by omega),List.getElem?_take_of_lt h1]
 ·rw [if_neg h1,List.getElem?_append_right (by omega),hl]
  by_cases h2:i=p
  ·subst h2; simp
  ·rw [if_neg h2]
   obtain ⟨q,hq⟩:∃ q,i - p=q+1:=⟨i - p - 1,by omega⟩
   rw [hq,List.getElem?_cons_succ,List.getElem?_drop]
   congr 1; omega
theorem w8 {xs:Array Nat} (R:Ris xs) {j:Nat} (hno:∀ i:Nat,xs[i]?≠some j):Ris (insertAt xs (below xs j) j):=by
 obtain ⟨h1,h2,h3⟩:=eW R j
 have gt:∀ (i x:Nat),below xs j≤i→xs[i]?=some x→j < x:=fun i x hi hx=> by
  rcases Nat.lt_or_eq_of_le (h2 i x hi hx) with z | z
  ·exact z
  ·subst z; exact absurd hx (hno i)
 intro a b x y hab hx hy
 rw [cw h3] at hx hy
 by_cases a1:a < below xs j
 ·rw [if_pos a1] at hx
  by_cases b1:b < below xs j
  ·rw [if_pos b1] at hy; exact R a b x y hab hx hy
  ·rw [if_neg b1] at hy
   by_cases b2:b=below xs j
   ·rw [if_pos b2] at hy; cases hy; exact h1 a x a1 hx
   ·rw [if_neg b2] at hy; exact R a (b - 1) x y (by omega) hx hy
 ·rw [if_neg a1] at hx
  have b1:¬ b < below xs j:=by omega
  rw [if_neg b1] at hy
  have b2:¬ b=below xs j:=by omega
  rw [if_neg b2] at hy
  by_cases a2:a=below xs j
  ·rw [if_pos a2] at hx; cases hx; exact gt (b - 1) y (by omega) hy
  ·rw [if_neg a2] at hx; exact R (a - 1) (b - 1) x y (by omega) hx hy
theorem qa {xs:Array Nat} {p j:Nat} (hp:p≤xs.size) (s:Nat):(∃ i:Nat,(insertAt xs p j)[i]?=some s)↔s=j∨∃ i:Nat,xs[i]?=some s:=by
 constructor
 ·rintro ⟨i,hi⟩
  rw [cw hp] at hi
  split at hi
  ·exact .inr ⟨i,hi⟩
  ·split at hi
   ·cases hi; exact .inl rfl
   ·exact .inr ⟨i - 1,hi⟩
 ·rintro (rfl | ⟨i,hi⟩)
  ·exact ⟨p,by rw [cw hp,if_neg (Nat.lt_irrefl _),if_pos rfl]⟩
  ·by_cases h:i < p
   ·exact ⟨i,by rw [cw hp,if_pos h]; exact hi⟩
   ·exact ⟨i+1,by rw [cw hp,if_neg (by omega),if_neg (by omega)]; simpa using hi⟩
theorem TOk.put {t:SetTable} {hs:List Int} (T:TOk t hs) {h:Int} {N:Nat} (h0:¬ Liv t (pth t.mask h N).j) (h1:∀ m,m < N→Liv t (pth t.mask h m).j) (hle:(pth t.mask h N).j≤t.mask) (hf:t.place.size+1≤t.mask):
  TOk (t.put (pth t.mask h N).j).1 (fR hs (t.put (pth t.mask h N).j).2 h):=by
 have hno:∀ i:Nat,t.place[i]?≠some (pth t.mask h N).j:=fun i e=> h0 ⟨i,e⟩
 obtain ⟨_,_,hb⟩:=eW T.R (pth t.mask h N).j
 have hbl:below t.place (pth t.mask h N).j≤hs.length:=by rw [← T.n]; exact hb
 have ed:(if SetTable.has t.dummies (pth t.mask h N).j then eraseAt t.dummies (below t.dummies (pth t.mask h N).j) else t.dummies)=#[]:=by
  rw [T.d]; simp [SetTable.has]
 unfold SetTable.put
 simp only [ed]
 refine ⟨w8 T.R hno,rfl,T.k,?_,?_,fun i x e=> ?_,fun i j hh e1 e2=> ?_⟩
 ·show (insertAt _ _ _).size=(fR hs _ h).length
  rw [gb _ _ _ hb,T.n]; unfold fR; simp; omega
 ·show (insertAt _ _ _).size≤t.mask
  rw [gb _ _ _ hb]; exact hf
 ·rcases (qa hb x).mp ⟨i,e⟩ with z | ⟨q,hq⟩
  ·rw [z]; exact hle
  ·exact T.le q x hq
 ·have liv:∀ s,Liv t s→Liv { t with place:=insertAt t.place (below t.place (pth t.mask h N).j) (pth t.mask h N).j,dummies:=#[] } s:=fun s z=> (qa hb s).mpr (.inr z)
  change (insertAt t.place _ _)[i]?=some j at e1
  rw [cw hb] at e1
  rw [vI hbl] at e2
  split at e1
  ·rename_i z
   rw [if_pos z] at e2
   obtain ⟨m,q1,q2⟩:=T.reach i j hh e1 e2
   exact ⟨m,q1,fun m' hm=> liv _ (q2 m' hm)⟩
  ·rename_i z
   rw [if_neg z] at e2
   split at e1
   ·rename_i z2
    rw [if_pos z2] at e2
    cases e1; cases e2
    exact ⟨N,rfl,fun m' hm=> liv _ (h1 m' hm)⟩
   ·rename_i z2
    rw [if_neg z2] at e2
    obtain ⟨m,q1,q2⟩:=T.reach (i - 1) j hh e1 e2
    exact ⟨m,q1,fun m' hm=> liv _ (q2 m' hm)⟩
theorem tO {mask:Nat} (h:Int):∀ n,(pth mask h n).j+(pth mask h n).more≤mask
 | 0=> by
  show bits h % (mask+1)+(runEnd mask (bits h % (mask+1)) - bits h % (mask+1))≤mask
  have:=Nat.mod_lt (bits h) (show 0 < mask+1 by omega)
  unfold runEnd; split <;> omega
 | n+1=> by
  have ih:=tO (mask:=mask) h n
  rw [pth]; unfold adv
  split
  ·simp only; omega
  ·show (leap mask _ _).1+(runEnd mask (leap mask _ _).1 - (leap mask _ _).1)≤mask
   have:(leap mask (pth mask h n).i (pth mask h n).perturb).1 < mask+1:=Nat.mod_lt _ (by omega)
   unfold runEnd; split <;> omega
end ST
namespace ST
open PySem PySem.SetTable
def OL (owner:Array (Option Nat)) (j:Nat):Prop:=∃ k:Nat,owner[j]?=some (some k)
def nr (mask:Nat) (h:Int):Nat→Nat
 | 0=> 0
 | r+1=> nr mask h r+(runEnd mask (aV mask h r).1 - (aV mask h r).1)+1
theorem xI (mask:Nat) (h:Int):∀ r,pth mask h (nr mask h r)={ j:=(aV mask h r).1,more:=runEnd mask (aV mask h r).1 - (aV mask h r).1,i:=(aV mask h r).1,perturb:=(aV mask h r).2,dummy:=none }
 | 0=> rfl
 | r+1=> by
  have e:=xI mask h r
  have step:=iZ (mask:=mask) (runEnd mask (aV mask h r).1 - (aV mask h r).1) (pth mask h (nr mask h r)) (fun m=> pth mask h (nr mask h r+m)) rfl (fun m=> rfl) (by rw [e]; exact Nat.le_refl _)
  have step':pth mask h (nr mask h r+(runEnd mask (aV mask h r).1 - (aV mask h r).1))=_:=step
  rw [nr,pth,step',e]
  unfold adv
  rw [if_neg (by simp)]
  rfl
theorem oa (mask:Nat) (h:Int) (r k:Nat) (hk:k≤runEnd mask (aV mask h r).1 - (aV mask h r).1):(pth mask h (nr mask h r+k)).j=(aV mask h r).1+k:=by
 have e:=xI mask h r
 have step:=iZ (mask:=mask) k (pth mask h (nr mask h r)) (fun m=> pth mask h (nr mask h r+m)) rfl (fun m=> rfl) (by rw [e]; exact hk)
 have step':pth mask h (nr mask h r+k)=_:=step
 rw [step',e]
theorem qW (mask i:Nat):i≤runEnd mask i:=by unfold runEnd; split <;> omega
theorem wD (mask:Nat) (h:Int):∀ r,(aV mask h r).1≤mask
 | 0=> Nat.le_of_lt_succ (Nat.mod_lt _ (by omega))
 | r+1=> Nat.le_of_lt_succ (Nat.mod_lt _ (by omega))
theorem ny {mask i:Nat} (h:i≤mask):runEnd mask i≤mask:=by unfold runEnd; split <;> omega
theorem qr {mask:Nat} {owner:Array (Option Nat)} (hsz:owner.size=mask+1) (h:Int):∀ (fuel r:Nat),(∃ r',r≤r'∧r' < r+fuel∧owner[(aV mask h r').1]?=some none)→(∀ m,m < nr mask h r→OL owner (pth mask h m).j)→
  ∃ N,layClean.free mask owner fuel (aV mask h r).1 (aV mask h r).2=some (pth mask h N).j∧owner[(pth mask h N).j]?=some none∧∀ m,m < N→OL owner (pth mask h m).j
 | 0,r,⟨r',h1,h2,_⟩,_=> by omega
 | fuel+1,r,hex,hl=> by
  rw [layClean.free]
  have hge:=qW mask (aV mask h r).1
  have hmk:=ny (wD mask h r)
  have hin:∀ k,k < runEnd mask (aV mask h r).1+1 - (aV mask h r).1→(aV mask h r).1+k < owner.size:=fun k hk=> by omega
  cases hf:(List.range (runEnd mask (aV mask h r).1+1 - (aV mask h r).1)).find? fun k=> (owner.getD ((aV mask h r).1+k) (some 0)).isNone with
  | some k=>
   obtain ⟨p1,p2,p3⟩:=List.find?_range_eq_some.mp hf
   have hk:=List.mem_range.mp p2
   have hlt:=hin k hk
   have e1:owner[(aV mask h r).1+k]?=some none:=by
    have:owner.getD ((aV mask h r).1+k) (some 0)=owner[(aV mask h r).1+k]:=by simp [Array.getD,hlt]
    rw [this] at p1
    have:owner[(aV mask h r).1+k]=none:=by simpa using p1
    simp [hlt,this]
   have ej:=oa mask h r k (by omega)
   refine ⟨nr mask h r+k,by simp only [ej],by rw [ej]; exact e1,fun m hm=> ?_⟩
   by_cases hm1:m < nr mask h r
   ·exact hl m hm1
   ·obtain ⟨q,rfl⟩:∃ q,m=nr mask h r+q:=⟨m - nr mask h r,by omega⟩
    have hq:=p3 q (by omega)
    have hlt2:=hin q (by omega)
    rw [oa mask h r q (by omega)]
    have:owner.getD ((aV mask h r).1+q) (some 0)=owner[(aV mask h r).1+q]:=by simp [Array.getD,hlt2]
    rw [this] at hq
    cases hv:owner[(aV mask h r).1+q] with
    | none=> rw [hv] at hq; simp at hq
    | some v=> exact ⟨v,by simp [hlt2,hv]⟩
  | none=>
   have hall:∀ q,q < runEnd mask (aV mask h r).1+1 - (aV mask h r).1→OL owner ((aV mask h r).1+q):=fun q hq=> by
    have:=List.find?_eq_none.mp hf q (List.mem_range.mpr hq)
    have hlt2:=hin q hq
    have e:owner.getD ((aV mask h r).1+q) (some 0)=owner[(aV mask h r).1+q]:=by simp [Array.getD,hlt2]
    rw [e] at this
    cases hv:owner[(aV mask h r).1+q] with
    | none=> rw [hv] at this; simp at this
    | some v=> exact ⟨v,by simp [hlt2,hv]⟩
   have next:=qr hsz h fuel (r+1) (by
    obtain ⟨r',h1,h2,h3⟩:=hex
    refine ⟨r',?_,by omega,h3⟩
    rcases Nat.lt_or_eq_of_le h1 with z | z
    ·exact z
    ·subst z
     obtain ⟨v,hv⟩:=hall 0 (by omega)
     rw [Nat.add_zero,h3] at hv
     cases hv) (fun m hm=> by
    by_cases hm1:m < nr mask h r
    ·exact hl m hm1
    ·obtain ⟨q,rfl⟩:∃ q,m=nr mask h r+q:=⟨m - nr mask h r,by omega⟩
     have hm2:nr mask h r+q < nr mask h r+(runEnd mask (aV mask h r).1 - (aV mask h r).1)+1:=hm
     rw [oa mask h r q (by omega)]
     exact hall q (by omega))
   exact next
structure OI (mask:Nat) (owner:Array (Option Nat)) (hs:List Int):Prop where
 sz:owner.size=mask+1
 lt:∀ (j k:Nat),owner[j]?=some (some k)→k < hs.length
 inj:∀ (i j k:Nat),owner[i]?=some (some k)→owner[j]?=some (some k)→i=j
 all:∀ k:Nat,k < hs.length→∃ j:Nat,owner[j]?=some (some k)
 reach:∀ (j k:Nat) (h:Int),owner[j]?=some (some k)→hs[k]?=some h→∃ m,(pth mask h m).j=j∧∀ m',m' < m→OL owner (pth mask h m').j
theorem OI.free {mask:Nat} {owner:Array (Option Nat)} {hs:List Int} (O:OI mask owner hs) (hn:hs.length≤mask):∃ s,s≤mask∧owner[s]?=some none:=by
 apply Classical.byContradiction
 intro hno
 have hlive:∀ s,s≤mask→OL owner s:=fun s hs'=> by
  have hlt:s < owner.size:=by rw [O.sz]; omega
  cases e:owner[s] with
  | none=> exact absurd ⟨s,hs',by simp [hlt,e]⟩ hno
  | some k=> exact ⟨k,by simp [hlt,e]⟩
 have nd:((List.range (mask+1)).map fun s=> (owner.getD s none).getD 0).Nodup:=by
  rw [List.nodup_iff_pairwise_ne,List.pairwise_map]
  refine List.Pairwise.imp_of_mem ?_ (List.pairwise_lt_range (n:=mask+1))
  intro a b ha hb hab e
  obtain ⟨k1,h1⟩:=hlive a (by have:=List.mem_range.mp ha; omega)
  obtain ⟨k2,h2⟩:=hlive b (by have:=List.mem_range.mp hb; omega)
  have e1:(owner.getD a none).getD 0=k1:=by simp [Array.getD_eq_getD_getElem?,h1]
  have e2:(owner.getD b none).getD 0=k2:=by simp [Array.getD_eq_getD_getElem?,h2]
  rw [e1,e2] at e
  subst e
  have:=O.inj a b k1 h1 h2
  omega
 have sub:((List.range (mask+1)).map fun s=> (owner.getD s none).getD 0) ⊆ List.range hs.length:=by
  intro x hx
  obtain ⟨s,hs1,rfl⟩:=List.mem_map.mp hx
  obtain ⟨k1,h1⟩:=hlive s (by have:=List.mem_range.mp hs1; omega)
  have e1:(owner.getD s none).getD 0=k1:=by simp [Array.getD_eq_getD_getElem?,h1]
  rw [e1]
  exact List.mem_range.mpr (O.lt s k1 h1)
 have:=List.Nodup.length_le_of_subset nd sub
 simp at this
 omega
theorem OI.step {mask k:Nat} (hk:mask+1=2 ^ k) {owner:Array (Option Nat)} {hs:List Int} (O:OI mask owner hs) (hn:hs.length≤mask) (h:Int):
  ∃ j,layClean.free mask owner (turns mask) (bits h % (mask+1)) (bits h)=some j∧OI mask (owner.setIfInBounds j (some hs.length)) (hs++[h]):=by
 obtain ⟨s,hs1,hs2⟩:=O.free hn
 obtain ⟨q,hq,e⟩:=gg (aV mask h 12).1 k s
 have er:(aV mask h (12+q)).1=s:=by rw [jy hk h q,e]; exact Nat.mod_eq_of_lt (by omega)
 obtain ⟨N,f1,f2,f3⟩:=qr O.sz h (turns mask) 0 ⟨12+q,Nat.zero_le _,by unfold turns; omega,by rw [er]; exact hs2⟩ (fun m hm=> absurd hm (Nat.not_lt_zero _))
 refine ⟨_,f1,?_⟩
 generalize hj:(pth mask h N).j=j at *
 have hjs:j < owner.size:=(Array.getElem?_eq_some_iff.mp f2).1
 have get:∀ i:Nat,(owner.setIfInBounds j (some hs.length))[i]?=if j=i then some (some hs.length) else owner[i]?:=fun i=> by
  rw [Array.getElem?_setIfInBounds]
  split
  ·rename_i z; subst z; simp [hjs]
  ·rfl
 have liv:∀ i,OL owner i→OL (owner.setIfInBounds j (some hs.length)) i:=fun i ⟨v,hv⟩=> by
  refine ⟨v,?_⟩
  rw [get,if_neg (fun z=> by subst z; rw [f2] at hv; cases hv)]
  exact hv
 refine ⟨by simp [O.sz],fun i v e=> ?_,fun a b v e1 e2=> ?_,fun v hv=> ?_,fun i v hh e1 e2=> ?_⟩
 ·rw [get] at e
  split at e
  ·cases e; simp
  ·have:=O.lt i v e; simp; omega
 ·rw [get] at e1 e2
  split at e1 <;> split at e2
  ·omega
  ·cases e1; exact absurd (O.lt b _ e2) (Nat.lt_irrefl _)
  ·cases e2; exact absurd (O.lt a _ e1) (Nat.lt_irrefl _)
  ·exact O.inj a b v e1 e2
 ·simp at hv
  rcases Nat.lt_or_eq_of_le (Nat.le_of_lt_succ hv) with z | z
  ·obtain ⟨i,hi⟩:=O.all v z
   refine ⟨i,?_⟩
   rw [get,if_neg (fun y=> by subst y; rw [f2] at hi; cases hi)]
   exact hi
  ·subst z; exact ⟨j,by rw [get,if_pos rfl]⟩
 ·rw [get] at e1
  split at e1
  ·rename_i z
   cases e1
   rw [List.getElem?_append_right (Nat.le_refl _)] at e2
   simp at e2
   subst e2
   exact ⟨N,by rw [hj]; exact z,fun m hm=> liv _ (f3 m hm)⟩
  ·have hv:=O.lt i v e1
   rw [List.getElem?_append_left hv] at e2
   obtain ⟨m,q1,q2⟩:=O.reach i v hh e1 e2
   exact ⟨m,q1,fun m' hm=> liv _ (q2 m' hm)⟩
theorem qE {mask k:Nat} (hk:mask+1=2 ^ k):∀ (more done:List Int) (owner:Array (Option Nat)),OI mask owner done→done.length+more.length≤mask+1→∃ owner',more.foldl (fun acc h=> do
  let (owner,k) ← acc
  let j ← layClean.free mask owner (turns mask) (bits h % (mask+1)) (bits h)
  pure (owner.setIfInBounds j (some k),k+1)) (some (owner,done.length))=some (owner',done.length+more.length)∧OI mask owner' (done++more)
 | [],done,owner,O,_=> ⟨owner,by simp,by simpa using O⟩
 | h::more,done,owner,O,hl=> by
  obtain ⟨j,e,O2⟩:=O.step hk (by simp at hl; omega) h
  obtain ⟨ow,e2,O3⟩:=qE hk more (done++[h]) _ O2 (by simp at hl ⊢; omega)
  refine ⟨ow,?_,by simpa using O3⟩
  rw [List.foldl_cons]
  have:(do
   let (owner,k) ← some (owner,done.length)
   let j ← layClean.free mask owner (turns mask) (bits h % (mask+1)) (bits h)
   pure (owner.setIfInBounds j (some k),k+1):Option (Array (Option Nat)×Nat))=some (owner.setIfInBounds j (some done.length),done.length+1):=by
   simp [e]
  rw [this]
  simp only [List.length_append,List.length_singleton] at e2
  rw [e2]
  simp; omega
theorem mL {mask k:Nat} (hk:mask+1=2 ^ k) {hs:Array Int} (hl:hs.size≤mask+1):∃ owner,layClean mask hs=some owner∧OI mask owner hs.toList:=by
 have O0:OI mask (Array.replicate (mask+1) none) []:=⟨by simp,fun j k e=> by simp [Array.getElem?_replicate] at e,fun i j k e=> by simp [Array.getElem?_replicate] at e,fun k h=> by simp at h,fun j k h e=> by simp [Array.getElem?_replicate] at e⟩
 obtain ⟨ow,e,O⟩:=qE hk hs.toList [] _ O0 (by simpa using hl)
 refine ⟨ow,?_,by simpa using O⟩
 unfold layClean
 rw [← Array.foldl_toList]
 simp only [List.length_nil] at e
 rw [e]
 rfl
end ST
namespace ST
open PySem PySem.SetTable
theorem nZ (n:Nat):∀ (fuel k:Nat),n < 2 ^ (k+fuel)→∃ k',k≤k'∧sizeAbove.go n fuel (2 ^ k)=2 ^ k'∧n < 2 ^ k'∧(2 ^ k'≤2 * n∨k'=k)
 | 0,k,h=> ⟨k,Nat.le_refl _,rfl,by simpa using h,.inr rfl⟩
 | fuel+1,k,h=> by
  rw [sizeAbove.go]
  by_cases hle:2 ^ k≤n
  ·rw [if_pos hle,← Nat.pow_succ]
   obtain ⟨k',h1,h2,h3,h4⟩:=nZ n fuel (k+1) (by rw [show k+1+fuel=k+(fuel+1) by omega]; exact h)
   refine ⟨k',by omega,h2,h3,.inl ?_⟩
   rcases h4 with z | z
   ·exact z
   ·subst z; rw [Nat.pow_succ]; omega
  ·rw [if_neg hle]
   exact ⟨k,Nat.le_refl _,rfl,by omega,.inr rfl⟩
theorem above (n:Nat) (h:n < 2 ^ 60):∃ k,3≤k∧sizeAbove n=2 ^ k∧n < 2 ^ k∧2 ^ k≤2 * n+8:=by
 obtain ⟨k,h1,h2,h3,h4⟩:=nZ n 64 3 (Nat.lt_of_lt_of_le h (Nat.pow_le_pow_right (by decide) (by decide)))
 refine ⟨k,h1,h2,h3,?_⟩
 rcases h4 with z | z
 ·omega
 ·subst z; omega
def dt (mask:Nat) (owner:Array (Option Nat)):List (Nat×Nat):=(List.range (mask+1)).filterMap fun j=> (owner.getD j none).map (j,·)
theorem my (owner:Array (Option Nat)):∀ l:List Nat,(l.filterMap fun j=> (owner.getD j none).map (j,·)).map (·.1)=l.filter fun j=> (owner.getD j none).isSome
 | []=> rfl
 | a::l=> by
  have ih:=my owner l
  rw [List.filterMap_cons,List.filter_cons]
  cases owner.getD a none with
  | none=> simpa using ih
  | some v=> simpa using ih
theorem dJ {mask:Nat} {owner:Array (Option Nat)} (hsz:owner.size=mask+1) (j k:Nat):(j,k)∈dt mask owner↔owner[j]?=some (some k):=by
 unfold dt
 rw [List.mem_filterMap]
 constructor
 ·rintro ⟨a,ha,e⟩
  have hlt:a < owner.size:=by rw [hsz]; exact List.mem_range.mp ha
  cases hv:owner.getD a none with
  | none=> rw [hv] at e; cases e
  | some v=>
   rw [hv] at e
   cases e
   have:owner.getD j none=owner[j]:=by simp [Array.getD,hlt]
   rw [this] at hv
   simp [hlt,hv]
 ·intro e
  have hlt:=(Array.getElem?_eq_some_iff.mp e).1
  refine ⟨j,List.mem_range.mpr (by omega),?_⟩
  rw [Array.getD_eq_getD_getElem?,e]; rfl
theorem rH (mask:Nat) (owner:Array (Option Nat)):(dt mask owner).Pairwise fun a b=> a.1 < b.1:=by
 have:=(List.pairwise_lt_range (n:=mask+1)).filter fun j=> (owner.getD j none).isSome
 rw [← my owner (List.range (mask+1)),List.pairwise_map] at this
 exact this
theorem y3 {l:List Nat} (h:l.Pairwise (· < ·)):Ris l.toArray:=by
 intro i j x y hij hx hy
 rw [List.getElem?_toArray] at hx hy
 obtain ⟨h1,e1⟩:=List.getElem?_eq_some_iff.mp hx
 obtain ⟨h2,e2⟩:=List.getElem?_eq_some_iff.mp hy
 have:=List.pairwise_iff_getElem.mp h i j h1 h2 hij
 rw [e1,e2] at this
 exact this
theorem wb {mask k:Nat} (h3:3≤k) (hk:mask+1=2 ^ k) {hs:Array Int} (hl:hs.size≤mask) (finger moves:Nat) (led plain:Bool):
  ∃ t order,laid mask finger moves led plain hs=some (t,order)∧TOk t (order.toList.map fun i=> hs.getD i 0)∧order.toList.Perm (List.range hs.size)∧t.mask=mask∧t.led=led∧t.plain=plain∧t.moves=moves:=by
 obtain ⟨owner,e,O⟩:=mL hk (hs:=hs) (by omega)
 have pr:=rH mask owner
 have nd:((dt mask owner).map (·.2)).Nodup:=by
  rw [List.nodup_iff_pairwise_ne,List.pairwise_map]
  refine List.Pairwise.imp_of_mem ?_ pr
  intro a b ha hb hab ee
  have h1:=(dJ O.sz a.1 a.2).mp ha
  have h2:=(dJ O.sz b.1 b.2).mp hb
  rw [ee] at h1
  have:=O.inj a.1 b.1 b.2 h1 h2
  omega
 have perm:((dt mask owner).map (·.2)).Perm (List.range hs.size):=by
  refine (List.perm_ext_iff_of_nodup nd List.nodup_range).mpr fun x=> ?_
  rw [List.mem_map,List.mem_range]
  constructor
  ·rintro ⟨⟨j,v⟩,hm,rfl⟩
   have:=O.lt j v ((dJ O.sz j v).mp hm)
   simpa using this
  ·intro hx
   obtain ⟨j,hj⟩:=O.all x (by simpa using hx)
   exact ⟨(j,x),(dJ O.sz j x).mpr hj,rfl⟩
 have len:(dt mask owner).length=hs.size:=by have:=perm.length_eq; simpa using this
 refine ⟨_,_,by unfold laid; rw [e]; rfl,⟨?_,rfl,⟨k,h3,hk⟩,?_,?_,fun i x ee=> ?_,fun i j h e1 e2=> ?_⟩,?_,rfl,rfl,rfl,rfl⟩
 ·show Ris ((dt mask owner).map (·.1)).toArray
  exact y3 (by rw [List.pairwise_map]; exact pr)
 ·show ((dt mask owner).map (·.1)).toArray.size=_
  simp [dt]
 ·show ((dt mask owner).map (·.1)).toArray.size≤mask
  simp [len,hl]
 ·change ((dt mask owner).map (·.1)).toArray[i]?=some x at ee
  rw [List.getElem?_toArray,List.getElem?_map] at ee
  cases q:(dt mask owner)[i]? with
  | none=> rw [q] at ee; cases ee
  | some p=>
   rw [q] at ee
   cases ee
   have:=(dJ O.sz p.1 p.2).mp (List.mem_of_getElem? q)
   have:=(Array.getElem?_eq_some_iff.mp this).1
   show p.1≤mask
   have hz:=O.sz
   omega
 ·change ((dt mask owner).map (·.1)).toArray[i]?=some j at e1
  change (((dt mask owner).map (·.2)).toArray.toList.map fun i=> hs.getD i 0)[i]?=some h at e2
  rw [List.getElem?_toArray,List.getElem?_map] at e1
  rw [List.getElem?_map,List.getElem?_map] at e2
  cases q:(dt mask owner)[i]? with
  | none=> rw [q] at e1; cases e1
  | some p=>
   rw [q] at e1 e2
   cases e1
   have hp:=(dJ O.sz p.1 p.2).mp (List.mem_of_getElem? q)
   have hlt:=O.lt _ _ hp
   have e3:hs.toList[p.2]?=some h:=by
    have e4:hs.getD p.2 0=h:=by simpa using e2
    have:p.2 < hs.size:=by simpa using hlt
    rw [← e4]
    simp [Array.getD,this]
   obtain ⟨m,q1,q2⟩:=O.reach _ _ h hp e3
   refine ⟨m,q1,fun m' hm=> ?_⟩
   obtain ⟨v,hv⟩:=q2 m' hm
   obtain ⟨n,hn⟩:=List.mem_iff_getElem?.mp ((dJ O.sz _ v).mpr hv)
   refine ⟨n,?_⟩
   show ((dt mask owner).map (·.1)).toArray[n]?=_
   rw [List.getElem?_toArray,List.getElem?_map,hn]; rfl
 ·show ((dt mask owner).map (·.2)).toArray.toList.Perm _
  simpa using perm
end ST
namespace ST
open PySem PySem.SetTable
section
variable {prog:Program} {w:World} {A:Around} {E:Value→Shared→Prop} {s:Shared}
abbrev TK (prog:Program) (w:World) (h:Heap) (k:List Int) (b:Addr):Prop:=IsTupleKey (intKind prog w) h k b
abbrev hsh (prog:Program) (w:World) (k:List Int):Int:=tupleKeyHash (intKind prog w) k
theorem TK.ints {h:Heap} {k:List Int} {vs:List Value} (x:ItemsAre (intKind prog w) k vs):∀ v∈vs,∃ n t,v=.int n t:=by
 induction x with
 | nil=> intro v hv; simp at hv
 | cons h1 _ ih=>
  intro v hv
  rcases List.mem_cons.mp hv with rfl | hv
  ·obtain ⟨t,rfl⟩:=Value.isInt_shape h1; exact ⟨_,t,rfl⟩
  ·exact ih v hv
theorem kF {k:List Int} {a:Addr} {Q:Bool→Shared→Prop} (hk:TK prog w s.heap k a) (h:Q false s):wpAny (model prog w) A (ofAClassStatement 8 (.ref a)) Q E s:=by
 have hT:=hk.typeIs
 obtain ⟨o,items,n,ho,_,hd,hi⟩:=hk
 unfold ofAClassStatement
 refine wpAny_bind (wpAny_typeOf hT ?_)
 dsimp only
 rw [if_pos (by decide)]
 refine wpAny_bind (wpAny_pure ?_)
 simp only [Bool.not_true,Bool.false_eq_true,if_false]
 refine wpAny_bind (wpAny_seqItems ho hd ?_)
 dsimp only
 refine wpAny_bind ?_
 rw [← Array.forIn_toList]
 refine wpAny_forIn_list _ (fun rest r s'=> r.1=none∧s'=s∧∀ v∈rest,∃ n t,v=Value.int n t) _ ?_ ?_ _ _ ⟨rfl,rfl,TK.ints (h:=s.heap) hi⟩
 ·rintro v rest r s' ⟨hr,rfl,hall⟩
  obtain ⟨n,t,rfl⟩:=hall v List.mem_cons_self
  have e:ofAClassStatement 7 (Value.int n t)=pure false:=by unfold ofAClassStatement; rfl
  rw [e]
  refine wpAny_bind (wpAny_pure ?_)
  simp only [Bool.false_eq_true,if_false]
  exact wpAny_pure ⟨rfl,rfl,fun u hu'=> hall u (List.mem_cons_of_mem _ hu')⟩
 ·rintro ⟨r1,r2⟩ s' ⟨hr,rfl,_⟩
  simp only at hr
  subst hr
  exact wpAny_pure h
theorem z4 {k:List Int} {a:Addr} {Q:Bool→Shared→Prop} (hk:TK prog w s.heap k a) (h:Q true s):wpAny (model prog w) A (hashByValue 8 (.ref a)) Q E s:=by
 have hT:=hk.typeIs
 obtain ⟨o,items,n,ho,_,hd,hi⟩:=hk
 unfold hashByValue
 refine wpAny_bind (wpAny_specialOf hT F.slot_tuple_hash.lookup ?_)
 show wpAny _ _ (seqItems? (.ref a) >>=_) _ _ s
 refine wpAny_bind (wpAny_seqItems ho hd ?_)
 refine wpAny_bind ?_
 show wpAny _ _ (forIn items _ _) _ _ s
 rw [← Array.forIn_toList]
 refine wpAny_forIn_list _ (fun rest r s'=> r.1=none∧s'=s∧∀ v∈rest,∃ n t,v=Value.int n t) _ ?_ ?_ _ _ ⟨rfl,rfl,TK.ints (h:=s.heap) hi⟩
 ·rintro v rest r s' ⟨hr,rfl,hall⟩
  obtain ⟨n,t,rfl⟩:=hall v List.mem_cons_self
  have e:hashByValue 7 (Value.int n t)=pure true:=by unfold hashByValue; rfl
  rw [e]
  refine wpAny_bind (wpAny_pure ?_)
  simp only [Bool.not_true,Bool.false_eq_true,if_false]
  exact wpAny_pure ⟨rfl,rfl,fun u hu'=> hall u (List.mem_cons_of_mem _ hu')⟩
 ·rintro ⟨r1,r2⟩ s' ⟨hr,rfl,_⟩
  simp only at hr
  subst hr
  exact wpAny_pure h
theorem oY {k:List Int} {a:Addr} {l:List Value} {Q:Bool→Shared→Prop} (hk:TK prog w s.heap k a) (hl:∀ v∈l,∃ k' b,v=.ref b∧TK prog w s.heap k' b) (h:Q false s):
  wpAny (model prog w) A (searchCouldBeSeen (.ref a) l) Q E s:=by
 unfold searchCouldBeSeen
 refine wpAny_bind ?_
 refine wpAny_forIn_list _ (fun rest r s'=> r.1=none∧s'=s∧∀ v∈rest,∃ k' b,v=.ref b∧TK prog w s.heap k' b) _ ?_ ?_ _ _ ⟨rfl,rfl,hl⟩
 ·rintro v rest r s' ⟨hr,rfl,hall⟩
  obtain ⟨k',b,rfl,hb⟩:=hall v List.mem_cons_self
  dsimp only
  split
  ·exact wpAny_pure ⟨rfl,rfl,fun u hu'=> hall u (List.mem_cons_of_mem _ hu')⟩
  ·refine wpAny_bind (wpAny_eqIsQuiet_tuple hk ?_)
   simp only [Bool.not_true,Bool.false_eq_true,if_false]
   refine wpAny_bind (wpAny_eqIsQuiet_tuple hb ?_)
   simp only [Bool.not_true,Bool.false_eq_true,if_false]
   refine wpAny_bind (kF hk ?_)
   simp only [Bool.false_eq_true,if_false]
   refine wpAny_bind (kF hb ?_)
   simp only [Bool.false_eq_true,if_false]
   exact wpAny_pure ⟨rfl,rfl,fun u hu'=> hall u (List.mem_cons_of_mem _ hu')⟩
 ·rintro ⟨r1,r2⟩ s' ⟨hr,rfl,_⟩
  simp only at hr
  subst hr
  exact wpAny_pure h
def ents (prog:Program) (w:World) (kb:List (List Int×Addr)):List (Int×Value):=kb.map fun p=> (hsh prog w p.1,.ref p.2)
theorem pM {kb:List (List Int×Addr)} {i:Nat}:(ents prog w kb)[i]?=(kb[i]?).map fun p=> (hsh prog w p.1,.ref p.2):=by unfold ents; rw [List.getElem?_map]
theorem wI (kb:List (List Int×Addr)):(ents prog w kb).map (·.1)=kb.map fun p=> hsh prog w p.1:=by unfold ents; rw [List.map_map]; rfl
theorem TOk.fits {t:SetTable} {hs:List Int} (T:TOk t hs) {n:Nat} (hn:hs.length=n):t.fits n=true:=by
 have h1:=T.n
 have h2:=T.f
 have h3:t.fill=t.place.size:=by unfold fill; rw [T.d]; rfl
 unfold SetTable.fits
 rw [h3]
 simp [h1,hn]
 omega
theorem TOk.gave {t:SetTable} {hs:List Int} (T:TOk t hs):t.gaveWay=false:=by
 obtain ⟨k,h3,hk⟩:=T.k
 unfold SetTable.gaveWay
 obtain ⟨j,rfl⟩:∃ j,k=j+1:=⟨k - 1,by omega⟩
 rw [Nat.pow_succ] at hk
 have:t.mask % 2=1:=by omega
 simp [this]
theorem nJ {S:Addr} {o:Obj} {es:Array (Int×Value)} {ep:Nat} {t:SetTable} {kb:List (List Int×Addr)} {k:List Int} {x:Addr} (hu:A.units < cLine)
  (ho:s.heap.get? S=some o) (hd:o.data=.set es ep t) (he:es.toList=ents prog w kb) (T:TOk t (kb.map fun p=> hsh prog w p.1)) (hkb:∀ p∈kb,TK prog w s.heap p.1 p.2) (hx:TK prog w s.heap k x)
  {N:Nat} (hN:N < 10 * turns t.mask) (h0:¬ Liv t (pth t.mask (hsh prog w k) N).j) (h1:∀ m,m < N→Liv t (pth t.mask (hsh prog w k) m).j) {Q:SetFound→Shared→Prop}
  (qf:(∀ p∈kb,p.1≠k)→Q (.free (pth t.mask (hsh prog w k) N).j false) s) (qt:(∃ p∈kb,p.1=k)→Q (.there none) s):
  ∀ (fuel n:Nat) (stand:Option Probe),n≤N→N - n < fuel→stand.getD (t.probeStart (hsh prog w k))=pth t.mask (hsh prog w k) n→
   (∀ (m i:Nat) (p:List Int×Addr),m < n→t.place[i]?=some (pth t.mask (hsh prog w k) m).j→kb[i]?=some p→p.1≠k)→
   wpAny (model prog w) A (setSearchFrom S (.ref x) (hsh prog w k) true fuel stand) Q E s:=by
 have hsz:es.size=kb.length:=by rw [← Array.length_toList,he]; simp [ents]
 have hfit:t.fits es.size=true:=T.fits (by rw [List.length_map,hsz])
 have eat:∀ i:Nat,es[i]?=(kb[i]?).map fun (p:List Int×Addr)=> (hsh prog w p.1,Value.ref p.2):=fun i=> by rw [← Array.getElem?_toList,he,pM]
 intro fuel
 induction fuel with
 | zero=> intro n stand _ h; omega
 | succ fuel ih=>
  intro n stand hn hf hst hpre
  unfold setSearchFrom
  refine wpAny_bind (wpAny_setState_of ho hd hfit ?_)
  dsimp only
  rw [T.gave]
  simp only [Bool.false_eq_true,if_false]
  rw [hst]
  have hash:∀ (i:Nat) (p:List Int×Addr),kb[i]?=some p→((es[i]?.map (fun (e:Int×Value)=> e.1)).getD 0:Int)=hsh prog w p.1:=fun i p hp=> by rw [eat,hp]; rfl
  have pg:=nR T (fun (i:Nat)=> (es[i]?.map (fun (e:Int×Value)=> e.1)).getD 0) (hsh prog w k) h0 h1 (10 * turns t.mask) n hn (by omega)
  split
  ·rename_i met hmet
   rcases pg with ⟨e,hne⟩ | ⟨m,i,hnm,hmN,hpl,hhi,e,hbef⟩
   ·have q:some met=some (.empty (pth t.mask (hsh prog w k) N).j none):=hmet.symm.trans e
    cases q
    dsimp only
    refine wpAny_pure (qf fun p hp hpk=> ?_)
    obtain ⟨i,hi⟩:=List.mem_iff_getElem?.mp hp
    obtain ⟨m,j,hm,hpl,hj⟩:=tJ T (h:=hsh prog w k) h0 (i:=i) (by rw [List.getElem?_map,hi,← hpk]; rfl)
    rcases Nat.lt_or_ge m n with hmn | hmn
    ·exact hpre m i p hmn (by rw [hj]; exact hpl) hi hpk
    ·exact hne m i hmn hm (by rw [hj]; exact hpl) (by rw [hash i p hi,hpk])
   ·have q:some met=some (.candidate (pth t.mask (hsh prog w k) m).j i (pth t.mask (hsh prog w k) (m+1))):=hmet.symm.trans e
    cases q
    dsimp only
    have hik:i < kb.length:=by rw [← hsz,← show t.place.size=es.size by rw [T.n,List.length_map,hsz]]; exact qB hpl
    obtain ⟨p,hp⟩:∃ p,kb[i]?=some p:=⟨_,List.getElem?_eq_getElem hik⟩
    have hpm:p∈kb:=List.mem_of_getElem? hp
    have hei:es[i]?=some (hsh prog w p.1,Value.ref p.2):=by rw [eat,hp]; rfl
    have rest:wpAny (model prog w) A (do
      let equal ← holding [Value.ref p.2] (eqBool (Value.ref p.2) (.ref x))
      let (es',_,t') ← setState S
      if true && equal then return .there none
      let some same:=t'.sameMemory t.moves t.mask | unsupported "set.changed-during-lookup:is-the-new-block-at-the-old-address"
      let still ← match (if same then t'.slot (pth t.mask (hsh prog w k) m).j else .empty) with
       | .live i'=> match es'[i']? with
        | some (_,y')=> do pure (if ← isSame y' (Value.ref p.2) then some i' else none)
        | none=> pure none
       | _=> pure none
      match still with
      | none=> rule "set.search.anew"; setSearchFrom S (.ref x) (hsh prog w k) true fuel none
      | some i'=> if equal then return .there (some i') else setSearchFrom S (.ref x) (hsh prog w k) true fuel (some (pth t.mask (hsh prog w k) (m+1)))) Q E s:=by
     refine wpAny_bind (wpAny_holding (wpAny_eqBool_tuple hu (hkb p hpm) hx ?_))
     refine wpAny_bind (wpAny_setState_of ho hd hfit ?_)
     dsimp only
     by_cases hpk:p.1=k
     ·rw [decide_eq_true hpk]
      simp only [Bool.and_self,if_true]
      exact wpAny_pure (qt ⟨p,hpm,hpk⟩)
     ·rw [decide_eq_false hpk]
      simp only [Bool.and_false,Bool.false_eq_true,if_false]
      have hsm:t.sameMemory t.moves t.mask=some true:=by unfold SetTable.sameMemory; simp
      rw [hsm]
      dsimp only
      rw [if_pos rfl,ku T.R hpl]
      dsimp only
      rw [hei]
      dsimp only
      refine wpAny_bind (wpAny_isSame_ref_self ?_)
      refine wpAny_bind (wpAny_pure ?_)
      simp only [if_true]
      refine ih (m+1) (some (pth t.mask (hsh prog w k) (m+1))) (by omega) (by omega) rfl fun m' i' p' hm' hpl' hp'=> ?_
      rcases Nat.lt_or_ge m' n with z | z
      ·exact hpre m' i' p' z hpl' hp'
      ·rcases Nat.lt_or_eq_of_le (Nat.le_of_lt_succ hm') with y | y
       ·have:=hbef m' i' z y hpl'
        intro e'
        exact this (by rw [hash i' p' hp',e'])
       ·subst y
        have ei:=T.R.inj hpl hpl'
        subst ei
        rw [hp] at hp'
        cases hp'
        exact hpk
    by_cases hled:t.led=true
    ·rw [hled]
     simp only [Bool.not_true,Bool.false_eq_true,if_false]
     rw [hei]
     exact rest
    ·rw [show t.led=false by simpa using hled]
     simp only [Bool.not_false,if_true]
     refine wpAny_bind (oY hx (fun v hv=> ?_) ?_)
     ·obtain ⟨e',he',rfl⟩:=List.mem_map.mp hv
      have hm':e'∈es.toList:=by
       have:=Array.mem_toList_iff.mp he'
       exact Array.mem_toList_iff.mpr (Array.mem_filter.mp this).1
      rw [he] at hm'
      obtain ⟨p',hp',rfl⟩:=List.mem_map.mp hm'
      exact ⟨p'.1,p'.2,rfl,hkb p' hp'⟩
     ·simp only [Bool.false_eq_true,if_false]
      rw [hei]
      exact rest
  ·rename_i hno
   rcases pg with ⟨e,hne⟩ | ⟨m,i,hnm,hmN,hpl,hhi,e,hbef⟩
   ·exact absurd e (hno _)
   ·exact absurd e (hno _)
end
end ST
namespace ST
open PySem PySem.SetTable
section
variable {prog:Program} {w:World} {A:Around} {E:Value→Shared→Prop} {s:Shared}
structure SP (prog:Program) (w:World) (h:Heap) (S:Addr) (kb:List (List Int×Addr)):Prop where
 ex:∃ o es ep t,h.get? S=some o∧o.ExactSet∧o.data=.set es ep t∧es.toList=ents prog w kb∧TOk t (kb.map fun p=> hsh prog w p.1)∧t.led=(!w.params.followText "set-order")∧t.plain=true∧t.tooFull=false∧t.mask < 8 * kb.length+8
 keys:∀ p∈kb,TK prog w h p.1 p.2
 nd:(kb.map (·.1)).Nodup
theorem TK.keep {h h':Heap} {k:List Int} {b S:Addr} {o:Obj} {es ep t} (x:TK prog w h k b) (ho:h.get? S=some o) (hd:o.data=.set es ep t) (hs:Heap.SameBut S h h'):TK prog w h' k b:=by
 obtain ⟨o',items,n,ho',hc,hd',hi⟩:=x
 have hne:b≠S:=by
  rintro rfl
  obtain rfl:o'=o:=Option.some.inj (ho'.symm.trans ho)
  rw [hd] at hd'; exact nomatch hd'
 exact ⟨o',items,n,(hs.2 b hne).trans ho',hc,hd',hi⟩
theorem oR (x:Addr) (es:Array (Int×Value)):byScan (.ref x) es=false:=by simp [byScan,Value.scannable]
theorem nu {α β:Type} (f:α→β) (xs:List α) (p:Nat) (x:α):(fR xs p x).map f=fR (xs.map f) p (f x):=by
 unfold fR; rw [List.map_append,List.map_cons,List.map_take,List.map_drop]
theorem eM {α:Type} (xs:List α) (p:Nat) (x:α):(fR xs p x).Perm (xs++[x]):=by
 unfold fR
 refine List.perm_middle.trans ?_
 rw [List.take_append_drop]
 exact (List.perm_append_singleton x xs).symm
theorem m7 {α β:Type} {kb:List α} (f:α→β) (d:β):∀ (o:List Nat),(∀ i∈o,i < kb.length)→o.map (fun i=> ((kb.map f).toArray).getD i d)=(o.filterMap fun i=> kb[i]?).map f
 | [],_=> rfl
 | i::o,h=> by
  have hi:=h i List.mem_cons_self
  rw [List.map_cons,List.filterMap_cons,List.getElem?_eq_getElem hi,m7 f d o fun j hj=> h j (List.mem_cons_of_mem _ hj)]
  simp [Array.getD,hi]
theorem rc {α:Type} {kb:List α} {o:List Nat} (h:o.Perm (List.range kb.length)):(o.filterMap fun i=> kb[i]?).Perm kb:=by
 refine (h.filterMap _).trans ?_
 suffices (List.range kb.length).filterMap (fun i=> kb[i]?)=kb by rw [this]
 have:∀ (l pre:List α),(List.range' pre.length l.length).filterMap (fun i=> (pre++l)[i]?)=l:=by
  intro l
  induction l with
  | nil=> intro pre; rfl
  | cons x l ih=>
   intro pre
   rw [List.length_cons,List.range'_succ,List.filterMap_cons]
   have e:(pre++x::l)[pre.length]?=some x:=by rw [List.getElem?_append_right (Nat.le_refl _)]; simp
   rw [e]
   have:=ih (pre++[x])
   rw [List.append_assoc,List.length_append] at this
   simpa using this
 have q:=this kb []
 simpa [List.range_eq_range'] using q
theorem v8 {t:SetTable} {hs:List Int} (T:TOk t hs) (h:t.tooFull=false):t.place.size+1≤t.mask:=by
 obtain ⟨k,h3,hk⟩:=T.k
 have hf:t.fill=t.place.size:=by unfold fill; rw [T.d]; rfl
 have h8:2 ^ 3≤2 ^ k:=Nat.pow_le_pow_right (by decide) h3
 unfold tooFull at h
 rw [hf] at h
 simp at h
 omega
set_option maxHeartbeats 1000000 in
theorem AC {S:Addr} {o:Obj} {es:Array (Int×Value)} {ep:Nat} {t:SetTable} {kb:List (List Int×Addr)} {Q:Unit→Shared→Prop} (ho:s.heap.get? S=some o) (hex:o.ExactSet) (hd:o.data=.set es ep t) (he:es.toList=ents prog w kb)
  (T:TOk t (kb.map fun p=> hsh prog w p.1)) (hl:t.led=(!w.params.followText "set-order")) (hp:t.plain=true) (hkb:∀ p∈kb,TK prog w s.heap p.1 p.2) (hnd:(kb.map (·.1)).Nodup) (h1:0 < kb.length) (hn:kb.length≤1000)
  (h:∀ h' kb',Heap.SameBut S s.heap h'→SP prog w h' S kb'→kb'.Perm kb→Q () { s with heap:=h' }):wpAny (model prog w) A (setRelay S (grown kb.length)) Q E s:=by
 have hsz:es.size=kb.length:=by rw [← Array.length_toList,he]; simp [ents]
 have hfit:t.fits es.size=true:=T.fits (by rw [List.length_map,hsz])
 have eat:∀ i:Nat,es[i]?=(kb[i]?).map fun (p:List Int×Addr)=> (hsh prog w p.1,Value.ref p.2):=fun i=> by rw [← Array.getElem?_toList,he,pM]
 have hg:grown kb.length=kb.length * 4:=by unfold grown; rw [if_neg (by omega)]
 rw [hg]
 obtain ⟨k,k3,ek,lk,uk⟩:=above (kb.length * 4) (by omega)
 have hmask:(sizeAbove (kb.length * 4) - 1)+1=2 ^ k:=by omega
 obtain ⟨t',order,e,T',hord,em,el,ep',_⟩:=wb k3 hmask (hs:=es.map (·.1)) (by rw [Array.size_map,hsz]; omega) t.finger (t.movedTo (sizeAbove (kb.length * 4) - 1)) t.led t.plain
 have hrel:t.relaid (es.map (·.1)) (kb.length * 4)=some (t',order):=e
 have hord':order.toList.Perm (List.range kb.length):=by rw [Array.size_map,hsz] at hord; exact hord
 have hlt:∀ i∈order.toList,i < kb.length:=fun i hi=> List.mem_range.mp (hord'.mem_iff.mp hi)
 have hpk:=rc hord'
 have hes:(order.filterMap (fun i=> es[i]?)).toList=ents prog w (order.toList.filterMap fun i=> kb[i]?):=by
  rw [Array.toList_filterMap]
  unfold ents
  rw [List.map_filterMap]
  congr 1
  funext i
  rw [eat]
 have hes2:(order.filterMap (fun i=> es[i]?)).size=es.size:=by
  rw [← Array.length_toList,hes,hsz]
  unfold ents
  rw [List.length_map,hpk.length_eq]
 unfold setRelay
 refine wpAny_bind (wpAny_setState_of ho hd hfit ?_)
 dsimp only
 rw [if_neg (by rw [ek,sizeLine_eq]; omega),hrel]
 have goal:wpAny (model prog w) A (do
   if (order.filterMap (fun i=> es[i]?)).size !=es.size then unsupported "internal:set-table-lost-an-element"
   pure (order.filterMap (fun i=> es[i]?),t'):Sem (Array (Int×Value)×SetTable)) (fun r s'=> wpAny (model prog w) A (storeSet S r.1 r.2) Q E s') E s:=by
  rw [hes2]
  simp only [bne_self_eq_false,Bool.false_eq_true,if_false]
  refine wpAny_pure ?_
  refine wpAny_storeSet_of ho hd ?_ (by rw [hes2,hsz,sizeLine_eq]; omega)
  have hg':(s.heap.update S (Obj.putSet (order.filterMap (fun i=> es[i]?)) t')).get? S=some { o with data:=.set (order.filterMap (fun i=> es[i]?)) (ep+1) t' }:=by
   have:=Heap.get?_update_self (Obj.putSet (order.filterMap (fun i=> es[i]?)) t') ho (by rw [putSet_of _ t' hd]; rfl)
   rw [putSet_of _ t' hd] at this; exact this
  have hsb:=Heap.SameBut.update s.heap S (Obj.putSet (order.filterMap (fun i=> es[i]?)) t')
  refine h _ (order.toList.filterMap fun i=> kb[i]?) hsb ⟨⟨_,_,_,t',hg',hex,rfl,hes,?_,by rw [el]; exact hl,by rw [ep']; exact hp,?_,?_⟩,fun p hp'=> ?_,?_⟩ hpk
  ·have:=m7 (kb:=kb) (fun p=> hsh prog w p.1) 0 order.toList hlt
   rw [← this]
   have e2:(es.map (·.1))=((kb.map fun p=> hsh prog w p.1)).toArray:=by
    apply Array.toList_inj.mp
    rw [Array.toList_map,he,wI]
   rw [e2] at T'
   exact T'
  ·have hf:t'.fill=t'.place.size:=by unfold fill; rw [T'.d]; rfl
   have hn':=T'.n
   rw [List.length_map,hord'.length_eq,List.length_range] at hn'
   unfold tooFull
   rw [hf,hn',em]
   simp
   omega
  ·rw [em,hpk.length_eq]; omega
  ·exact (hkb p (hpk.mem_iff.mp hp')).keep ho hd hsb
  ·exact ((hpk.map (·.1)).nodup_iff).mpr hnd
 exact wpAny_bind goal
end
end ST
namespace ST
open PySem PySem.SetTable
section
variable {prog:Program} {w:World} {A:Around} {E:Value→Shared→Prop} {s:Shared}
set_option maxHeartbeats 1000000 in
theorem n6 {S x:Addr} {kb:List (List Int×Addr)} {k:List Int} {Q:Bool→Shared→Prop} (hu:A.units < cLine) (P:SP prog w s.heap S kb) (hx:TK prog w s.heap k x) (hn:kb.length < 1000)
  (h:∀ b h' kb',Heap.SameBut S s.heap h'→SP prog w h' S kb'→(if k∈kb.map (·.1) then kb'=kb else kb'.Perm (kb++[(k,x)]))→Q b { s with heap:=h' }):
  wpAny (model prog w) A (setAddHashed S (.ref x) (hsh prog w k)) Q E s:=by
 obtain ⟨⟨o,es,ep,t,ho,hex,hd,he,T,hl,hp,hfull,hmask⟩,hkb,hnd⟩:=P
 have P0:SP prog w s.heap S kb:=⟨⟨o,es,ep,t,ho,hex,hd,he,T,hl,hp,hfull,hmask⟩,hkb,hnd⟩
 have hsz:es.size=kb.length:=by rw [← Array.length_toList,he]; simp [ents]
 have hfit:t.fits es.size=true:=T.fits (by rw [List.length_map,hsz])
 obtain ⟨N,hN,h0,h1⟩:=oI T (hsh prog w k)
 have hN':N < 100000:=by unfold turns at hN; omega
 unfold setAddHashed setAddHashedIn
 refine wpAny_holding (wpAny_bind (wpAny_setState_of ho hd hfit ?_))
 dsimp only
 rw [oR]
 simp only [Bool.false_eq_true,if_false]
 unfold setSearch
 refine wpAny_bind (nJ hu ho hd he T hkb hx hN h0 h1 (fun hno=> ?_) (fun hyes=> ?_) 100000 0 none (Nat.zero_le _) (by omega) rfl fun m i p hm=> by omega)
 ·dsimp only
  have hk:k ∉ kb.map (·.1):=fun z=> by obtain ⟨p,hp',e⟩:=List.mem_map.mp z; exact hno p hp' e
  refine wpAny_bind (wpAny_setState_of ho hd hfit ?_)
  dsimp only
  generalize hj:(pth t.mask (hsh prog w k) N).j=j at *
  have T1:=T.put (h:=hsh prog w k) (N:=N) (by rw [hj]; exact h0) h1 (by have:=tO (mask:=t.mask) (hsh prog w k) N; omega) (v8 T hfull)
  rw [hj] at T1
  have epl:(t.put j).1.plain=true:=hp
  have eled:(t.put j).1.led=(!w.params.followText "set-order"):=hl
  have emask:(t.put j).1.mask=t.mask:=rfl
  generalize (t.put j).1=t1 at *
  generalize (t.put j).2=q at *
  have hlen1:(fR kb q (k,x)).length=kb.length+1:=by rw [(eM kb q (k,x)).length_eq]; simp
  have he1:(insertAt es q (hsh prog w k,Value.ref x)).toList=ents prog w (fR kb q (k,x)):=by
   rw [ef,he]
   unfold ents
   rw [nu]
   rfl
  have hsz1:(insertAt es q (hsh prog w k,Value.ref x)).size=kb.length+1:=by
   rw [← Array.length_toList,he1]; unfold ents; rw [List.length_map,hlen1]
  have T2:TOk t1 ((fR kb q (k,x)).map fun p=> hsh prog w p.1):=by rw [nu]; exact T1
  rw [if_pos epl]
  refine wpAny_bind (z4 hx ?_)
  rw [if_pos rfl]
  have hg1:(s.heap.update S (Obj.putSet (insertAt es q (hsh prog w k,Value.ref x)) t1)).get? S=some { o with data:=.set (insertAt es q (hsh prog w k,Value.ref x)) (ep+1) t1 }:=by
   have:=Heap.get?_update_self (Obj.putSet (insertAt es q (hsh prog w k,Value.ref x)) t1) ho (by rw [putSet_of _ t1 hd]; rfl)
   rw [putSet_of _ t1 hd] at this; exact this
  have hsb:=Heap.SameBut.update s.heap S (Obj.putSet (insertAt es q (hsh prog w k,Value.ref x)) t1)
  have hkb1:∀ p∈fR kb q (k,x),TK prog w (s.heap.update S (Obj.putSet (insertAt es q (hsh prog w k,Value.ref x)) t1)) p.1 p.2:=fun p hp'=> by
   have:=(eM kb q (k,x)).mem_iff.mp hp'
   rcases List.mem_append.mp this with z | z
   ·exact (hkb p z).keep ho hd hsb
   ·rw [List.mem_singleton.mp z]; exact hx.keep ho hd hsb
  have hnd1:((fR kb q (k,x)).map (·.1)).Nodup:=by
   rw [((eM kb q (k,x)).map (·.1)).nodup_iff,List.map_append,List.nodup_append]
   refine ⟨hnd,by simp,fun a ha b hb=> ?_⟩
   simp at hb
   subst hb
   rintro rfl
   exact hk ha
  refine wpAny_bind (wpAny_storeSet_of ho hd ?_ (by rw [hsz1,sizeLine_eq]; omega))
  rw [Bool.not_false,Bool.true_and]
  by_cases hft:t1.tooFull=true
  ·rw [if_pos hft,hsz,← hlen1]
   refine wpAny_bind (AC (s:={ s with heap:=s.heap.update S (Obj.putSet (insertAt es q (hsh prog w k,Value.ref x)) t1) }) hg1 hex rfl he1 T2 eled epl hkb1 hnd1 (by omega) (by omega) fun h' kb' hsb' P' pm=> wpAny_pure ?_)
   exact h true h' kb' (hsb.trans hsb') P' (by rw [if_neg hk]; exact pm.trans (eM kb q (k,x)))
  ·rw [if_neg hft]
   refine wpAny_pure (h true _ (fR kb q (k,x)) hsb ⟨⟨_,_,_,t1,hg1,hex,rfl,he1,T2,eled,epl,by simpa using hft,by rw [emask,hlen1]; omega⟩,hkb1,hnd1⟩ (by rw [if_neg hk]; exact eM kb q (k,x)))
 ·dsimp only
  refine wpAny_pure ?_
  have hk:k∈kb.map (·.1):=by obtain ⟨p,hp',e⟩:=hyes; exact List.mem_map.mpr ⟨p,hp',e⟩
  exact h false s.heap kb (Heap.SameBut.refl S s.heap) P0 (by rw [if_pos hk])
end
end ST
namespace ST
open PySem PySem.SetTable
section
variable {prog:Program} {w:World} {A:Around}
theorem TK.moved {s s':Shared} {wr:List Addr} {G:Array GenState→Array GenState→Prop} {k:List Int} {b:Addr} (x:TK prog w s.heap k b) (hb:b ∉ wr) (m:Moved wr G s s'):TK prog w s'.heap k b:=by
 obtain ⟨o,its,n,ho,hc,hd,hi⟩:=x
 exact ⟨o,its,n,m.heap b o hb ho,hc,hd,hi⟩
theorem SP.moved {s s':Shared} {wr:List Addr} {G:Array GenState→Array GenState→Prop} {S:Addr} {kb:List (List Int×Addr)} (x:SP prog w s.heap S kb) (hS:S ∉ wr) (hb:∀ p∈kb,p.2 ∉ wr) (m:Moved wr G s s'):SP prog w s'.heap S kb:=by
 obtain ⟨⟨o,es,ep,t,ho,r⟩,hk,hn⟩:=x
 exact ⟨⟨o,es,ep,t,m.heap S o hS ho,r⟩,fun p hp=> (hk p hp).moved (hb p hp) m,hn⟩
structure Got (kx:Nat→List Int×Addr) (i:Nat) (kb:List (List Int×Addr)):Prop where
 src:∀ p∈kb,∃ j,j < i∧p=kx j
 all:∀ j,j < i→(kx j).1∈kb.map (·.1)
 len:kb.length≤i
variable {R:Result→Shared→Prop} {I:Addr} {fp wr:List Addr} {G:Array GenState→Array GenState→Prop} {n:Nat} {P:Nat→Value→Prop} {St:Nat→Shared→Prop}
set_option maxHeartbeats 1000000 in
theorem tN (W:WalksS prog w A.in1 I fp wr G n P St) (hu:A.in1.units < cLine) {S:Addr} (hSf:S ∉ fp) (kx:Nat→List Int×Addr) (hP:∀ i v,P i v→v=.ref (kx i).2) (hwr:∀ i,i < n→(kx i).2 ∉ wr) (hn:n≤1000):
  ∀ (k i:Nat) (s:Shared) (kb:List (List Int×Addr)),n - i=k→i≤n→St i s→SP prog w s.heap S kb→Got kx i kb→(∀ j,j < n→TK prog w s.heap (kx j).1 (kx j).2)→
   (∀ s' kb',Moved (S::wr) G s s'→SP prog w s'.heap S kb'→Got kx n kb'→R (.ok (.ret .none)) s')→
   codeAny (model prog w) A (.builtin "set.update.loop" ⟨[.ref S,.ref I],[]⟩) R s:=by
 have hSw:S ∉ wr:=fun h=> hSf (W.sub _ h)
 have more:∀ b∈wr,b∈S::wr:=fun b hb=> List.mem_cons_of_mem _ hb
 intro k
 induction k with
 | zero=>
  intro i s kb hk hi st hS g tk hR
  obtain rfl:i=n:=by omega
  refine codeAny_builtin PyProof.Rows.F.entry_set_update_loop ?_
  rw [Around.under_plainId PyProof.Rows.F.plain_set_update_loop _]
  show wpAny _ A.in1 (pyNext (.ref I) >>=_) _ _ s
  refine wpAny_bind (W.done s _ _ st fun s' m=> ?_)
  exact wpAny_pure (hR s' kb (m.mono more) (hS.moved hSw (fun p hp=> by obtain ⟨j,hj,rfl⟩:=g.src p hp; exact hwr j hj) m) g)
 | succ k ih=>
  intro i s kb hk hi st hS g tk hR
  have hlt:i < n:=by omega
  have hkb:∀ p∈kb,p.2 ∉ wr:=fun p hp=> by obtain ⟨j,hj,rfl⟩:=g.src p hp; exact hwr j (by omega)
  refine codeAny_builtin PyProof.Rows.F.entry_set_update_loop ?_
  rw [Around.under_plainId PyProof.Rows.F.plain_set_update_loop _]
  show wpAny _ A.in1 (pyNext (.ref I) >>=_) _ _ s
  refine wpAny_bind (W.item i s _ _ hlt st fun v s1 pv st1 m=> ?_)
  obtain rfl:=hP i v pv
  have hS1:=hS.moved hSw hkb m
  have tk1:∀ j,j < n→TK prog w s1.heap (kx j).1 (kx j).2:=fun j hj=> (tk j hj).moved (hwr j hj) m
  show wpAny _ A.in1 (holding [Value.ref (kx i).2] (setAdd S (.ref (kx i).2)) >>=_) _ _ s1
  refine wpAny_bind (wpAny_holding ?_)
  unfold setAdd
  refine wpAny_holding (wpAny_bind (wpAny_pyHash_tuple hu (tk1 i hlt) ?_))
  refine n6 (s:={ s1 with toks:=s1.toks+((kx i).1.length+1) }) hu hS1 (tk1 i hlt) (by have:=g.len; omega) fun b h' kb' sb hS2 hkk=> ?_
  obtain ⟨⟨o,es,ep,t,ho,hex,hd,hrest⟩,hks,hnd⟩:=hS1
  have same:∀ b o,b ∉ S::wr→s1.heap.get? b=some o→h'.get? b=some o:=fun b o hb e=> by rw [sb.2 b (fun z=> hb (by rw [z]; exact List.mem_cons_self))]; exact e
  refine wpAny_pure ⟨plainId_quiet PyProof.Rows.F.plain_set_update_loop _,ih (i+1) _ kb' (by omega) hlt (W.frame _ s1 _ _ st1 (by show s1.toks≤s1.toks+_; omega) fun b hb o e=> ?_) hS2 ?_ (fun j hj=> (tk1 j hj).keep ho hd sb) fun s2 kb2 m2 hS3 g2=> ?_⟩
  ·rw [sb.2 b (fun z=> hSf (by rw [← z]; exact hb))]; exact e
  ·by_cases hin:(kx i).1∈kb.map (·.1)
   ·rw [if_pos hin] at hkk
    subst hkk
    refine ⟨fun p hp=> ?_,fun j hj=> ?_,by have:=g.len; omega⟩
    ·obtain ⟨j,hj,e⟩:=g.src p hp; exact ⟨j,by omega,e⟩
    ·rcases Nat.lt_or_eq_of_le (Nat.le_of_lt_succ hj) with z | z
     ·exact g.all j z
     ·rw [z]; exact hin
   ·rw [if_neg hin] at hkk
    refine ⟨fun p hp=> ?_,fun j hj=> ?_,by rw [hkk.length_eq]; have:=g.len; simp; omega⟩
    ·rcases List.mem_append.mp (hkk.mem_iff.mp hp) with z | z
     ·obtain ⟨j,hj,e⟩:=g.src p z; exact ⟨j,by omega,e⟩
     ·exact ⟨i,Nat.lt_succ_self i,by rw [List.mem_singleton.mp z]⟩
    ·rw [(hkk.map (·.1)).mem_iff,List.map_append]
     rcases Nat.lt_or_eq_of_le (Nat.le_of_lt_succ hj) with z | z
     ·exact List.mem_append_left _ (g.all j z)
     ·rw [z]; exact List.mem_append_right _ (by simp)
  ·exact hR s2 kb2 (Moved.trans W.gtrans ((m.mono more).then_heap (by show s1.toks≤s1.toks+_; omega) same) m2) hS3 g2
end
section
variable {prog:Program} {w:World} {A:Around} {E:Value→Shared→Prop} {s:Shared}
abbrev bZ (w:World):Obj:={ cls:=.type "set",dict:=none,data:=.set #[] 0 (.fresh 0 0 (!w.params.followText "set-order")) }
theorem vd:TOk (.fresh 0 0 (!w.params.followText "set-order")) [] where
 R:=by intro i j x y _ h; simp [SetTable.fresh] at h
 d:=rfl
 k:=⟨3,by decide,rfl⟩
 n:=rfl
 f:=by show 0≤7; decide
 le:=by intro i x h; simp [SetTable.fresh] at h
 reach:=by intro i x h hi; simp [SetTable.fresh] at hi
theorem sY {h:Heap} {S:Addr} (e:h.get? S=some (bZ w)):SP prog w h S []:=by
 refine ⟨⟨_,_,_,_,e,⟨rfl,rfl,rfl⟩,rfl,rfl,vd,rfl,rfl,by simp [SetTable.tooFull,SetTable.fresh,SetTable.fill],by show 7 < 8; decide⟩,fun p hp=> by simp at hp,by simp⟩
theorem vN (a:Value) {Q:Value→Shared→Prop} (h:Q (.ref s.heap.objs.size) { s with heap:=s.heap.push (bZ w) }):
  codeAny (model prog w) A (.call (.builtin "set.__new__") ⟨[.type "set",a],[]⟩) (wants Q E) s:=by
 refine codeAny_of_tree ?_
 show wpAny _ A.in1 (do checkBuiltinCall "set.__new__" ⟨[.type "set",a],[]⟩; again (.builtin "set.__new__" ⟨[.type "set",a],[]⟩)) _ _ s
 refine wpAny_bind (wpAny_of_eq (PySem.F.newCall_set_1 a) (wpAny_pure ⟨plainId_quiet PySem.F.plain_set_new _,codeAny_builtin PySem.F.entry_set_new ?_⟩))
 rw [Around.under_plainId PySem.F.plain_set_new _]
 unfold Builtin.«set.__new__» Builtin.Frozenset.newClass
 have hsub:=sub_set_self
 obtain ⟨hp,g,d,tk,os⟩:=s
 dsimp only
 wp_walk
 refine wpAny_askSetting (wpAny_pure ?_)
 dsimp only
 simp only [newObj]
 exact wpAny_bind (wpAny_alloc (wpAny_pure (wpAny_pure h)))
end
end ST
namespace ST
open PySem PySem.SetTable
section
variable {prog:Program} {w:World} {A:Around} {E:Value→Shared→Prop} {s:Shared}
set_option maxRecDepth 100000 in
set_option maxHeartbeats 3200000 in
theorem call_set_pts {l:Addr} {items:Array Value} {Q:Value→Shared→Prop} (kx:Nat→List Int×Addr) (hh:A.handled=none) (hu:A.in1.in1.in1.units < cLine) (hl:s.heap.IsList l items)
  (hit:∀ (i:Nat) (v:Value),items[i]?=some v→v=.ref (kx i).2) (htk:∀ i,i < items.size→TK prog w s.heap (kx i).1 (kx i).2) (hn:items.size≤1000)
  (h:∀ (h':Heap) (tk:Nat) (kb:List (List Int×Addr)),SP prog w h' s.heap.objs.size kb→Got kx items.size kb→(∀ b o,s.heap.get? b=some o→h'.get? b=some o)→Q (.ref s.heap.objs.size) { s with heap:=h',toks:=tk }):
  wpAny (model prog w) A (call (.type "set") [.ref l]) Q E s:=by
 obtain ⟨cc,tl,hmro⟩:=PySem.F.called_set.mro
 have hmade:=PySem.F.called_set.made
 have hsub:=PySem.F.called_set.sub
 refine wpAny_call (codeAny_of_tree ?_)
 show wpAny _ _ (callAny (.type "set") _) _ _ _
 refine wpAny_pure ⟨Code.quiet_builtin _ (by decide+kernel),codeAny_builtin PySem.F.entry_type_call ?_⟩
 rw [Around.under_plain (weight_type_call_type "set" [.ref l] []) rfl]
 have g1:=PySem.F.called_set.notType
 have g2:=PySem.F.called_set.canCreate
 have g3:=PySem.F.typeCall_set_1 (.ref l)
 repeat (any_goals (first | assumption | wp_step))
 refine codeAny_mono (vN (w:=w) (.ref l) (E:=E) (Q:=fun obj s₁=> obj=.ref s.heap.objs.size∧s₁={ s with heap:=s.heap.push (bZ w) }) ⟨rfl,rfl⟩) fun r s₁ hr=> ?_
 cases r with
 | error e=> exact hr
 | ok fl=>
  cases fl with
  | ret obj=>
   obtain ⟨rfl,rfl⟩:=hr
   have hS:(s.heap.push (bZ w)).get? s.heap.objs.size=some (bZ w):=Heap.get?_push_size _ rfl
   have hT:Shared.TypeIs { s with heap:=s.heap.push (bZ w) } (.ref s.heap.objs.size) "set":=⟨_,hS,rfl⟩
   have hli:=PySem.F.called_set.init.lookup
   have hbi:=PySem.F.called_set.init.bind (.ref s.heap.objs.size)
   repeat (any_goals (first | assumption | wp_step))
   refine codeAny_mono (codeAny_call_builtin (R:=wants (fun r s₂=> r=.none∧∃ h' tk kb,s₂={ s with heap:=h',toks:=tk }∧
     SP prog w h' s.heap.objs.size kb∧Got kx items.size kb∧(∀ b o,s.heap.get? b=some o→h'.get? b=some o)) E) PySem.F.called_set.init.plain PySem.F.entry_set_init (check_set_init_1 hT ?_)) fun r₂ s₂ hr₂=> ?_
   ·obtain ⟨ol,hol,hcl,nl,hdl⟩:=hl
    obtain ⟨ocls,odict,odata,oslots⟩:=ol
    simp only at hcl hdl
    subst hcl; subst hdl
    have hol':(s.heap.push (bZ w)).get? l=some { cls:=.type "list",dict:=odict,data:=.seq items nl,slots:=oslots }:=Heap.get?_push_of_some _ hol
    have k1:=PySem.F.sub_list_set
    have k2:=PySem.F.sub_list_frozenset
    have k3:(Value.type "list"==Value.type "dict")=false:=by decide
    have hl1:(s.heap.push (bZ w)).IsList l items:=⟨_,hol',rfl,nl,rfl⟩
    unfold Builtin.«set.__init__» noKeywords Builtin.Frozenset.updateFrom
    generalize hPI:pyIter=PI
    wp_walk
    subst hPI
    refine wpAny_pyIter_list hl1 (wpAny_bind (wpAny_runValue ?_))
    have hlS:l < s.heap.objs.size:=Heap.lt_size hol
    have h3:A.in1.in1.in1.handled=none:=by simp [hh]
    have szI:(s.heap.push (bZ w)).objs.size=s.heap.objs.size+1:=Heap.size_push ..
    have hneI:l≠(s.heap.push (bZ w)).objs.size:=by rw [szI]; exact Nat.ne_of_lt (Nat.lt_succ_of_lt hlS)
    have hSf:s.heap.objs.size ∉ [(s.heap.push (bZ w)).objs.size,l]:=by
     rw [szI]
     intro z
     rcases List.mem_cons.mp z with z | z
     ·exact absurd z (Nat.ne_of_lt (Nat.lt_succ_self _))
     ·exact absurd (List.mem_singleton.mp z) (Nat.ne_of_gt hlS)
    refine tN ((Walks.list h3 _ l hneI items).toS) hu hSf kx hit (fun i hi=> ?_) hn (items.size - 0) 0 _ [] (by omega) (Nat.zero_le _)
     ⟨⟨_,Heap.get?_push_size _ rfl,rfl,rfl⟩,(hl1.push _)⟩ ?_ ⟨fun p hp=> by simp at hp,fun j hj=> by omega,by simp⟩ (fun j hj=> ?_) fun s' kb m hS' g=> ?_
    ·intro z
     have z':=List.mem_singleton.mp z
     obtain ⟨o,_,_,ho,_⟩:=htk i hi
     have:=Heap.lt_size ho
     rw [z',szI] at this
     exact Nat.lt_irrefl _ (Nat.lt_trans (Nat.lt_succ_self _) this)
    ·exact sY (Heap.get?_push_of_some _ hS)
    ·obtain ⟨o,its,k,ho,r⟩:=htk j hj
     exact ⟨o,its,k,Heap.get?_push_of_some _ (Heap.get?_push_of_some _ ho),r⟩
    ·obtain ⟨h',g',d',tk',os'⟩:=s'
     obtain rfl:g'=s.gens:=m.gens
     obtain rfl:d'=s.drawn:=m.drawn
     obtain rfl:os'=s.os:=m.os
     refine wpAny_pure ?_
     show wpAny _ _ (ret Value.none) _ _ _
     refine wpAny_pure ⟨rfl,h',tk',kb,rfl,hS',g,fun b o e=> ?_⟩
     have hb:=Heap.lt_size e
     refine m.heap b o (fun z=> ?_) (Heap.get?_push_of_some _ (Heap.get?_push_of_some _ e))
     rcases List.mem_cons.mp z with z | z
     ·exact absurd z (Nat.ne_of_lt hb)
     ·have z':=List.mem_singleton.mp z
      rw [z',szI] at hb
      exact Nat.lt_irrefl _ (Nat.lt_trans (Nat.lt_succ_self _) hb)
   ·cases r₂ with
    | error e=> exact hr₂
    | ok fl₂=>
     cases fl₂ with
     | ret r=>
      obtain ⟨rfl,h',tk,kb,rfl,hS',g,hk'⟩:=hr₂
      repeat (any_goals (first | assumption | wp_step))
      exact h _ _ kb hS' g hk'
     | _=> exact hr₂.elim
  | _=> exact hr.elim
end
end ST
namespace ST
open PySem PySem.SetTable
theorem dD:Slot "set_iterator" "__next__" "set_iterator.__next__":=
 .of (owner:="set_iterator") (n:="__next__") (by rw [typeLookup_type,builtinLookup_eq_fast]; kernel_rfl) (by decide+kernel) (by decide+kernel) (by decide+kernel) (by first | exact .inl (by decide+kernel) | exact .inr (by decide+kernel)) (by rw [isSubtype_type]; kernel_rfl)
theorem jN:entryFor table "set_iterator.__next__"=some Builtin.«set_iterator.__next__»:=entryFor_of_tree (by kernel_rfl)
theorem kE (a:Value):argsOk "set_iterator.__next__" ⟨[a],[]⟩:=by unfold argsOk; kernel_rfl
theorem oh:entryFor table "set.__iter__"=some Builtin.«frozenset.__iter__»:=entryFor_alias (id':="frozenset.__iter__") (by kernel_rfl) rfl (by decide+kernel) (by kernel_rfl)
theorem n9 {α:Type} {l:List α} {i:Nat} (h:i < l.length):(l[i]::l.eraseIdx i).Perm l:=by
 rw [List.eraseIdx_eq_take_drop_succ]
 refine List.perm_middle.symm.trans ?_
 rw [← List.drop_eq_getElem_cons h,List.take_append_drop]
theorem qm {α:Type} (next:Nat→Nat):∀ (fuel k:Nat) (left:List α) (out:Array α),left.length=fuel→(pickOrder.go next fuel k left out).toList.Perm (out.toList++left)
 | 0,k,left,out,h=> by
  obtain rfl:left=[]:=List.length_eq_zero_iff.mp h
  rw [pickOrder.go,List.append_nil]
 | fuel+1,k,left,out,h=> by
  have hi:next k % left.length < left.length:=Nat.mod_lt _ (by omega)
  rw [pickOrder.go,List.getElem?_eq_getElem hi]
  refine (qm next fuel (k+1) _ _ (by rw [List.length_eraseIdx_of_lt hi]; omega)).trans ?_
  rw [Array.toList_push,List.append_assoc]
  refine List.Perm.append_left _ ?_
  rw [List.singleton_append]
  exact n9 hi
theorem vn {α:Type} (next:Nat→Nat) (xs:Array α):(pickOrder next xs).toList.Perm xs.toList:=by
 unfold pickOrder
 have:=qm next xs.size 0 xs.toList #[] (by simp)
 simpa using this
section
variable {prog:Program} {w:World} {A:Around} {E:Value→Shared→Prop} {s:Shared}
def cr (w:World) (S:Addr) (es:Array (Int×Value)) (ep:Nat):List Value:=(if w.params.followText "set-order"=true then pickOrder (w.params.setOrder S ep) es else es).toList.map (·.2)
theorem eo (w:World) (S:Addr) (es:Array (Int×Value)) (ep:Nat):(cr w S es ep).Perm (es.toList.map (·.2)):=by
 unfold cr
 refine List.Perm.map _ ?_
 split
 ·exact vn _ es
 ·exact List.Perm.refl _
def fG (t:SetTable):Nat→Nat
 | 0=> 0
 | j+1=> t.place.getD j 0+1
def aX (w:World) (t:SetTable) (i:Nat):Nat:=if w.params.followText "set-order"=true then 0 else fG t i
def pw (w:World) (h:Heap) (it S:Addr) (t:SetTable) (i n ep:Nat):Prop:=∃ o,h.get? it=some o∧o.cls=.type "set_iterator"∧o.data=.fields #[rawInt (aX w t i),rawInt i,.ref S,rawInt n,rawInt ep]
theorem pw.ty {it S:Addr} {t:SetTable} {i n ep:Nat} (x:pw w s.heap it S t i n ep):s.TypeIs (.ref it) "set_iterator":=let ⟨o,ho,hc,_⟩:=x; ⟨o,ho,hc⟩
structure SO (prog:Program) (w:World) (o:Obj) (es:Array (Int×Value)) (ep:Nat) (t:SetTable) (hs:List Int):Prop where
 ex:o.ExactSet
 d:o.data=.set es ep t
 T:TOk t hs
 n:hs.length=es.size
 led:t.led=(!w.params.followText "set-order")
 plain:t.plain=true
theorem tZ {S:Addr} {o:Obj} {es ep t hs} {Q:Bool→Shared→Prop} (O:SO prog w o es ep t hs) (ho:s.heap.get? S=some o) (h:Q false s):wpAny (model prog w) A (setDrawn S) Q E s:=by
 unfold setDrawn setsByText
 refine wpAny_bind (wpAny_setState_of ho O.d (O.T.fits O.n) (wpAny_bind (wpAny_bind (wpAny_askSetting (wpAny_pure (wpAny_pure ?_))))))
 have q:Q (!w.params.followText "set-order" && (!t.plain && decide (es.size > 1))) s:=by rw [O.plain]; simpa using h
 exact q
theorem tP {S:Addr} {o:Obj} {es ep t hs} {Q:Value→Shared→Prop} (O:SO prog w o es ep t hs) (ho:s.heap.get? S=some o)
  (hQ:Q (.ref s.heap.objs.size) { s with heap:=s.heap.push { cls:=.type "set_iterator",data:=.fields #[rawInt 0,rawInt 0,.ref S,rawInt es.size,rawInt ep] } }):wpAny (model prog w) A (pyIter (.ref S)) Q E s:=by
 have hT:s.TypeIs (.ref S) "set":=⟨o,ho,O.ex.1⟩
 refine wpAny_pyIter_slot hT PySem.F.slot_set_iter (wpAny_call_entry PySem.F.slot_set_iter hT oh ?_ (PySem.F.args_set_iter_1 _))
 unfold Builtin.«frozenset.__iter__»
 show wpAny _ _ (Builtin.Frozenset.sizeOf S >>=_) _ _ s
 unfold Builtin.Frozenset.sizeOf
 refine wpAny_bind (wpAny_bind (wpAny_setEntries_of ho O.d (O.T.fits O.n) (wpAny_pure ?_)))
 refine wpAny_bind (tZ O ho ?_)
 simp only [Bool.false_eq_true,if_false]
 refine wpAny_bind (wpAny_pure ?_)
 refine wpAny_bind (wpAny_setEpoch_of ho O.d (O.T.fits O.n) ?_)
 refine wpAny_bind (wpAny_newObj_type (wpAny_pure ⟨_,rfl,"set_iterator",_,⟨_,Heap.get?_push_size _ rfl,rfl⟩,dD.lookup,?_⟩))
 exact hQ
theorem oC {t:SetTable} {hs:List Int} (T:TOk t hs) {i:Nat} (hi:i≤t.place.size):below t.place (fG t i)=i:=by
 obtain ⟨h1,h2,h3⟩:=eW T.R (fG t i)
 cases i with
 | zero=>
  dsimp only [fG] at *
  rcases Nat.eq_zero_or_pos (below t.place 0) with z | z
  ·exact z
  ·have:=h1 0 _ z (dP (by omega)); omega
 | succ j=>
  dsimp only [fG] at *
  have hj:j < t.place.size:=by omega
  have ej:t.place.getD j 0=t.place[j]:=by simp [Array.getD,hj]
  rw [ej] at h1 h2 h3 ⊢
  generalize hb:below t.place (t.place[j]+1)=b at *
  rcases Nat.lt_trichotomy b (j+1) with z | z | z
  ·have:=h2 j t.place[j] (by omega) (dP hj); omega
  ·exact z
  ·have q:=h1 (j+1) _ z (dP (by omega))
   have:=T.R j (j+1) _ _ (by omega) (dP hj) (dP (show j+1 < t.place.size by omega))
   omega
theorem je {S:Addr} {o:Obj} {es ep t hs} {i:Nat} {Q:Option (Value×Nat)→Shared→Prop} (O:SO prog w o es ep t hs) (ho:s.heap.get? S=some o) (hi:i≤es.size)
  (h:Q (((cr w S es ep)[i]?).map fun v=> (v,aX w t (i+1))) s):wpAny (model prog w) A (setNext S (aX w t i) i ep) Q E s:=by
 have hfit:=O.T.fits O.n
 have hpl:t.place.size=es.size:=by rw [O.T.n,O.n]
 unfold setNext setsByText
 refine wpAny_bind (wpAny_setState_of ho O.d hfit (wpAny_bind (wpAny_bind (wpAny_askSetting (wpAny_pure ?_)))))
 by_cases bt:w.params.followText "set-order"=true
 ·dsimp only
  rw [show (model prog w).w.params.followText "set-order"=true from bt,if_pos rfl,if_neg (by simp)]
  unfold setWalk setsByText
  refine wpAny_bind (wpAny_bind (wpAny_setState_of ho O.d hfit (wpAny_bind (wpAny_bind (wpAny_askSetting (wpAny_pure ?_))))))
  dsimp only
  rw [show (model prog w).w.params.followText "set-order"=true from bt,if_pos rfl]
  refine wpAny_bind (wpAny_askSetting (wpAny_pure (wpAny_pure ?_)))
  have e:Option.map (fun (e:Int×Value)=> (e.2,aX w t i)) (pickOrder (w.params.setOrder S ep) es)[i]?=((cr w S es ep)[i]?).map fun v=> (v,aX w t (i+1)):=by
   unfold cr aX
   rw [if_pos bt,if_pos bt,if_pos bt,List.getElem?_map,Array.getElem?_toList,Option.map_map]
   rfl
  have q:Q (Option.map (fun (e:Int×Value)=> (e.2,aX w t i)) (pickOrder (w.params.setOrder S ep) es)[i]?) s:=by rw [e]; exact h
  exact q
 ·have bf:w.params.followText "set-order"=false:=by simpa using bt
  dsimp only
  rw [show (model prog w).w.params.followText "set-order"=false from bf,if_neg (by simp)]
  have e1:aX w t i=fG t i:=by unfold aX; rw [if_neg bt]
  have e2:below t.place (aX w t i)=i:=by rw [e1]; exact oC O.T (by omega)
  have e3:(match es[below t.place (aX w t i)]?,t.place[below t.place (aX w t i)]? with
    | some (_,x),some j=> some (x,j+1)
    | _,_=> none)=((cr w S es ep)[i]?).map fun v=> (v,aX w t (i+1)):=by
   rw [e2]
   unfold cr aX
   rw [if_neg bt,if_neg bt,List.getElem?_map,Array.getElem?_toList]
   rcases Nat.lt_or_ge i es.size with z | z
   ·have z':i < t.place.size:=by omega
    simp [z,z',Array.getD,fG]
   ·have z':t.place.size≤i:=by omega
    simp [z,z']
  split
  ·rename_i hc
   exact absurd (show (!t.plain && decide (es.size > 1))=true from hc) (by rw [O.plain]; simp)
  ·refine wpAny_bind ?_
   show wpAny _ _ (if (!t.led && !es.isEmpty)=true then unsupported "set:maker-not-led" else pure ()) _ _ _
   rw [O.led,bf,if_neg (by simp)]
   refine wpAny_pure (wpAny_pure ?_)
   have q:Q (match es[below t.place (aX w t i)]?,t.place[below t.place (aX w t i)]? with
    | some (_,x),some j=> some (x,j+1)
    | _,_=> none) s:=by rw [e3]; exact h
   exact q
set_option maxHeartbeats 1000000 in
theorem rX {S it:Addr} {o:Obj} {es ep t hs} {i:Nat} {v:Value} {Q:Option Value→Shared→Prop} (O:SO prog w o es ep t hs) (ho:s.heap.get? S=some o) (hit:pw w s.heap it S t i es.size ep) (hv:(cr w S es ep)[i]?=some v)
  (hQ:∀ h',pw w h' it S t (i+1) es.size ep→Heap.SameBut it s.heap h'→Q (some v) { s with heap:=h' }):wpAny (model prog w) A (pyNext (.ref it)) Q E s:=by
 obtain ⟨oi,hoi,hc,hd⟩:=id hit
 have hfit:=O.T.fits O.n
 unfold pyNext
 refine wpAny_bind (wpAny_attempt (wpAny_callSpecial?_slot (name:=Str.ofString "__next__") hit.ty dD (wpAny_call_entry dD hit.ty jN ?_ (kE _))))
 unfold Builtin.«set_iterator.__next__»
 refine wpAny_bind (m:=slotArgs "__next__" 0 _) (wpAny_pure ?_)
 dsimp only
 refine wpAny_bind (wpAny_fieldsOf hoi hd ?_)
 dsimp only [rawInt]
 refine wpAny_bind (wpAny_setEntries_of ho O.d hfit ?_)
 rw [if_neg (by simp)]
 have hlt:i < es.size:=by
  have q:=(List.getElem?_eq_some_iff.mp hv).1
  rw [(eo w S es ep).length_eq,List.length_map,Array.length_toList] at q
  exact q
 rw [show ((aX w t i:Nat):Int).toNat=aX w t i from Int.toNat_natCast _,show ((i:Nat):Int).toNat=i from Int.toNat_natCast _,show ((ep:Nat):Int).toNat=ep from Int.toNat_natCast _]
 refine wpAny_bind (je O ho (Nat.le_of_lt hlt) ?_)
 rw [hv]
 dsimp only [Option.map]
 refine wpAny_bind (wpAny_setField hoi hd (by simp) ?_)
 have g1:=Heap.get?_update_self (Obj.mapFields (·.setIfInBounds 0 (Value.int ((aX w t (i+1):Nat):Int) 0))) hoi (Obj.isFreed_of_fields (Obj.data_mapFields hd _))
 refine wpAny_bind (wpAny_setField g1 (Obj.data_mapFields hd _) (by simp) ?_)
 refine wpAny_pure ⟨_,rfl,wpAny_pure (hQ _ ?_ ((Heap.SameBut.update ..).trans (Heap.SameBut.update ..)))⟩
 refine ⟨_,Heap.get?_update_self _ g1 (Obj.isFreed_of_fields (Obj.data_mapFields (Obj.data_mapFields hd _) _)),(Obj.cls_mapFields ..).trans ((Obj.cls_mapFields ..).trans hc),?_⟩
 rw [Obj.data_mapFields (Obj.data_mapFields hd _)]
 simp [rawInt]
set_option maxHeartbeats 1000000 in
theorem uP {S it:Addr} {o:Obj} {es ep t hs} {Q:Option Value→Shared→Prop} (hh:A.handled=none) (O:SO prog w o es ep t hs) (ho:s.heap.get? S=some o) (hit:pw w s.heap it S t es.size es.size ep)
  (hQ:∀ h',Heap.ExtBut it s.heap h'→Q none { s with heap:=h' }):wpAny (model prog w) A (pyNext (.ref it)) Q E s:=by
 obtain ⟨oi,hoi,hc,hd⟩:=id hit
 have hfit:=O.T.fits O.n
 unfold pyNext
 refine wpAny_bind (wpAny_attempt (wpAny_callSpecial?_slot (name:=Str.ofString "__next__") hit.ty dD (wpAny_call_entry dD hit.ty jN ?_ (kE _))))
 unfold Builtin.«set_iterator.__next__»
 refine wpAny_bind (m:=slotArgs "__next__" 0 _) (wpAny_pure ?_)
 dsimp only
 refine wpAny_bind (wpAny_fieldsOf hoi hd ?_)
 dsimp only [rawInt]
 refine wpAny_bind (wpAny_setEntries_of ho O.d hfit ?_)
 rw [if_neg (by simp)]
 rw [show ((aX w t es.size:Nat):Int).toNat=aX w t es.size from Int.toNat_natCast _,show ((es.size:Nat):Int).toNat=es.size from Int.toNat_natCast _,show ((ep:Nat):Int).toNat=ep from Int.toNat_natCast _]
 refine wpAny_bind (je O ho (Nat.le_refl _) ?_)
 rw [show (cr w S es ep)[es.size]?=none from List.getElem?_eq_none (by rw [(eo w S es ep).length_eq,List.length_map,Array.length_toList]; exact Nat.le_refl _)]
 dsimp only [Option.map]
 refine wpAny_bind (wpAny_setField hoi hd (by simp) ?_)
 refine wpAny_bind ?_
 simp only [newExc,newTuple]
 refine wpAny_bind (wpAny_newObj_type ?_ (by size_fits))
 refine wpAny_bind (m:=firstArgMember _ _) (wpAny_of_eq (a:=Value.none) (by first | rfl | (simp only [firstArgMember]; rfl)) ?_)
 refine wpAny_newObj_type ?_ (by size_fits)
 simp only [raiseNew]
 refine wpAny_bind (wpAny_handled ?_)
 rw [show A.in1.handled=none from hh]
 refine wpAny_bind (wpAny_pure (wpAny_throw ?_))
 refine wpAny_bind (wpAny_isInstance (T:="StopIteration") (b:=true) ⟨_,Heap.get?_push_size _ rfl,rfl⟩ isSubtype_stop ?_)
 exact wpAny_pure (hQ _ (((Heap.SameBut.update ..).extBut.push _).push _))
end
end ST
namespace ST
open PySem PySem.SetTable PySem.W
theorem ko:Slot "set_iterator" "__iter__" "set_iterator.__iter__":=
 .of (owner:="set_iterator") (n:="__iter__") (by rw [typeLookup_type,builtinLookup_eq_fast]; kernel_rfl) (by decide+kernel) (by decide+kernel) (by decide+kernel) (by first | exact .inl (by decide+kernel) | exact .inr (by decide+kernel)) (by rw [isSubtype_type]; kernel_rfl)
theorem n8:entryFor table "set_iterator.__iter__"=some Builtin.«dict_keyiterator.__iter__»:=entryFor_alias (id':="dict_keyiterator.__iter__") (by kernel_rfl) rfl (by decide+kernel) (by kernel_rfl)
theorem rY (a:Value):argsOk "set_iterator.__iter__" ⟨[a],[]⟩:=by unfold argsOk; kernel_rfl
section
variable {prog:Program} {w:World} {A:Around} {E:Value→Shared→Prop} {s:Shared}
theorem wy {it S:Addr} {t:SetTable} {i n ep:Nat} {Q:Value→Shared→Prop} (hit:pw w s.heap it S t i n ep) (h:Q (.ref it) s):wpAny (model prog w) A (pyIter (.ref it)) Q E s:=by
 refine wpAny_pyIter_slot hit.ty ko (wpAny_call_entry ko hit.ty n8 ?_ (rY _))
 exact wpAny_pure ⟨_,rfl,"set_iterator",_,hit.ty,dD.lookup,h⟩
theorem rP (hh:A.handled=none) {it S:Addr} (hne:S≠it) {o:Obj} {es ep t hs} (O:SO prog w o es ep t hs):
  Walks prog w A it [it,S] [it] es.size (fun i v=> (cr w S es ep)[i]?=some v) (fun i h=> pw w h it S t i es.size ep∧h.get? S=some o) where
 sub:=fun b hb=> by simp at hb; simp [hb]
 frame:=fun _ _ _ st hk=> ⟨let ⟨x,hx,r⟩:=st.1; ⟨x,hk it (by simp) x hx,r⟩,hk S (by simp) o st.2⟩
 item:=fun i s Q E hi st hQ=> by
  obtain ⟨v,hv⟩:∃ v,(cr w S es ep)[i]?=some v:=⟨_,List.getElem?_eq_getElem (by rw [(eo w S es ep).length_eq,List.length_map,Array.length_toList]; exact hi)⟩
  refine rX O st.2 st.1 hv fun h' hit' sb=> ?_
  exact hQ v h' s.toks hv ⟨hit',(sb.2 S hne).trans st.2⟩ fun b x hb e=> sb.extBut b x (fun z=> hb (by simp [z])) e
 done:=fun s Q E st hQ=> uP hh O st.2 st.1 fun h' xb=> hQ h' s.toks fun b x hb e=> xb b x (fun z=> hb (by simp [z])) e
 self:=fun _ _ _ _ st hQ=> wy st.1 hQ
theorem uD {r:Addr} {Q:Bool→Shared→Prop} (hT:s.TypeIs (.ref r) "set") (h:Q false s):wpAny (model prog w) A (Builtin.List.listLengthHint (.ref r)) Q E s:=by
 unfold Builtin.List.listLengthHint
 refine wpAny_bind (wpAny_specialOf hT PySem.F.slot_set_len.lookup ?_)
 generalize hid:("set.__len__":String)=id0
 wp_delta
 rw [show splitId id0=some ("set","__len__") from by subst hid; decide+kernel]
 subst hid
 refine wpAny_bind (wpAny_isInstance (T:="set") (b:=true) hT (by rw [isSubtype_type]; kernel_rfl) ?_)
 refine wpAny_ite_split (fun z=> absurd z (by decide)) (fun _=> ?_)
 refine wpAny_ite_split (fun _=> ?_) (fun z=> absurd (by decide+kernel) z)
 exact wpAny_bind (wpAny_typeOf hT (wpAny_pure h))
theorem xi {S:Addr} {o:Obj} {es ep t hs} (O:SO prog w o es ep t hs):KdlSrc prog w "set" S S es.size (fun i v=> (cr w S es ep)[i]?=some v) (fun h=> h.get? S=some o) where
 type:=fun _ hm=> ⟨o,hm,O.ex.1⟩
 there:=fun _ hm=> ⟨Heap.lt_size hm,Heap.lt_size hm⟩
 keep:=fun _ _ hm hk=> hk S (.inl rfl) o hm
 notList:=by decide
 notTuple:=by decide
 hint:=fun _ _ _ _ hm hq=> uD ⟨o,hm,O.ex.1⟩ hq
 iter:=fun _ s hh hm=> ⟨_,_,(fun _ _ hq=> tP O hm hq),rP hh (Nat.ne_of_lt (Heap.lt_size hm)) O,⟨⟨_,Heap.get?_push_size _ rfl,rfl,by simp [aX,fG]⟩,Heap.get?_push_of_some _ hm⟩⟩
end
end ST
namespace ST
open PySem PySem.W PyProof.Rows
inductive Runs (lt:Nat→Nat→Bool) (n:Nat) {α:Type}:KasT α→α→Prop
 | ret (a:α):Runs lt n (.ret a) a
 | ask {i j:Nat} {k:Bool→KasT α} {a:α}:i < n→j < n→Runs lt n (k (lt i j)) a→Runs lt n (.ask i j k) a
variable {lt:Nat→Nat→Bool} {n:Nat}
theorem Runs.bind {α β:Type} {t:KasT α} {a:α} {f:α→KasT β} {b:β} (h:Runs lt n t a) (h':Runs lt n (f a) b):Runs lt n (t.bind f) b:=by
 induction h with
 | ret a=> exact h'
 | ask hi hj _ ih=> exact Runs.ask hi hj (ih h')
theorem Runs.wp {α:Type} {t:KasT α} {a:α} (h:Runs lt n t a) {cmp:Nat→Nat→(Bool→Shared→Prop)→Shared→Prop} {s:Shared} (hc:∀ i j C,i < n→j < n→C (lt i j) s→cmp i j C s) {Q:α→Shared→Prop} (q:Q a s):t.kasWp cmp Q s:=by
 induction h with
 | ret a=> exact q
 | ask hi hj _ ih=> exact hc _ _ _ hi hj (ih q)
structure LtO (n:Nat) (lt:Nat→Nat→Bool):Prop where
 tr:∀ i j k,lt i j=true→lt j k=true→lt i k=true
 tot:∀ i j,i < n→j < n→i≠j→lt i j=false→lt j i=true
 asy:∀ i j,lt i j=true→lt j i=false
abbrev g (p:Array Nat) (k:Nat):Nat:=p.getD k 0
theorem vP {p q:Array Nat} {k l:Nat} (h:p[k]?=q[l]?):g p k=g q l:=by
 unfold g
 rw [Array.getD_eq_getD_getElem?,Array.getD_eq_getD_getElem?,h]
structure PP (n:Nat) (p:Array Nat):Prop where
 perm:p.toList.Perm (List.range n)
theorem PP.size {p:Array Nat} (h:PP n p):p.size=n:=by rw [← Array.length_toList,h.perm.length_eq,List.length_range]
theorem PP.mem {p:Array Nat} (h:PP n p) {k:Nat} (hk:k < n):g p k < n:=by
 have hk':k < p.size:=by rw [h.size]; exact hk
 have e:g p k=p[k]:=by simp [g,Array.getD,hk']
 rw [e]
 exact List.mem_range.mp (h.perm.mem_iff.mp (by simp))
theorem PP.inj {p:Array Nat} (h:PP n p) {k l:Nat} (hk:k < n) (hl:l < n) (e:g p k=g p l):k=l:=by
 have hk':k < p.toList.length:=by rw [Array.length_toList,h.size]; exact hk
 have hl':l < p.toList.length:=by rw [Array.length_toList,h.size]; exact hl
 have nd:p.toList.Nodup:=h.perm.nodup_iff.mpr List.nodup_range
 have e1:g p k=p.toList[k]:=by simp [g,Array.getD,h.size,hk]
 have e2:g p l=p.toList[l]:=by simp [g,Array.getD,h.size,hl]
 exact (List.getElem_inj nd).mp (by rw [← e1,← e2,e])
theorem PP.of {p q:Array Nat} (h:PP n p) (hq:q.Perm p):PP n q:=⟨(Array.perm_iff_toList_perm.mp hq).trans h.perm⟩
def Srt (lt:Nat→Nat→Bool) (p:Array Nat) (m:Nat):Prop:=∀ i j,i < j→j < m→lt (g p i) (g p j)=true
def Dsc (lt:Nat→Nat→Bool) (p:Array Nat) (m:Nat):Prop:=∀ i j,i < j→j < m→lt (g p j) (g p i)=true
theorem Srt.one (p:Array Nat):Srt lt p 1:=fun i j h1 h2=> by omega
theorem Srt.more (O:LtO n lt) {p:Array Nat} {m:Nat} (S:Srt lt p m) (h1:1≤m) (h:lt (g p (m - 1)) (g p m)=true):Srt lt p (m+1):=fun i j hij hj=> by
 rcases Nat.lt_or_eq_of_le (Nat.le_of_lt_succ hj) with z | z
 ·exact S i j hij z
 ·subst z
  rcases Nat.lt_or_eq_of_le (show i≤j - 1 by omega) with y | y
  ·exact O.tr _ _ _ (S i (j - 1) y (by omega)) h
  ·subst y; exact h
theorem Dsc.more (O:LtO n lt) {p:Array Nat} {m:Nat} (S:Dsc lt p m) (h1:1≤m) (h:lt (g p m) (g p (m - 1))=true):Dsc lt p (m+1):=fun i j hij hj=> by
 rcases Nat.lt_or_eq_of_le (Nat.le_of_lt_succ hj) with z | z
 ·exact S i j hij z
 ·subst z
  rcases Nat.lt_or_eq_of_le (show i≤j - 1 by omega) with y | y
  ·exact O.tr _ _ _ h (S i (j - 1) y (by omega))
  ·subst y; exact h
theorem lx (O:LtO n lt) {p:Array Nat} (P:PP n p):∀ (f m:Nat),1≤m→m+f=n→Srt lt p m→∃ m',Runs lt n (kas_asc p f m) m'∧m≤m'∧m'≤n∧Srt lt p m'∧(m' < n→lt (g p m') (g p (m' - 1))=true)
 | 0,m,h1,hf,S=> ⟨m,.ret m,Nat.le_refl _,by omega,S,fun h=> by omega⟩
 | f+1,m,h1,hf,S=> by
  by_cases hc:lt (g p m) (g p (m - 1))=true
  ·refine ⟨m,.ask (P.mem (by omega)) (P.mem (by omega)) ?_,Nat.le_refl _,by omega,S,fun _=> hc⟩
   rw [if_pos hc]; exact .ret m
  ·have hc':lt (g p m) (g p (m - 1))=false:=by simpa using hc
   have ht:=O.tot _ _ (P.mem (show m < n by omega)) (P.mem (show m - 1 < n by omega)) (fun e=> by have:=P.inj (by omega) (by omega) e; omega) hc'
   obtain ⟨m',r,a1,a2,a3,a4⟩:=lx O P f (m+1) (by omega) (by omega) (S.more O h1 ht)
   refine ⟨m',.ask (P.mem (by omega)) (P.mem (by omega)) ?_,by omega,a2,a3,a4⟩
   rw [if_neg hc]; exact r
theorem nA (O:LtO n lt) {p:Array Nat} (P:PP n p):∀ (f m:Nat),1≤m→m+f=n→Dsc lt p m→∃ m',Runs lt n (kas_desc f p m 0) (p,m',0)∧m≤m'∧m'≤n∧Dsc lt p m'
 | 0,m,h1,hf,S=> ⟨m,.ret _,Nat.le_refl _,by omega,S⟩
 | f+1,m,h1,hf,S=> by
  by_cases hc:lt (g p m) (g p (m - 1))=true
  ·obtain ⟨m',r,a1,a2,a3⟩:=nA O P f (m+1) (by omega) (by omega) (S.more O h1 hc)
   refine ⟨m',.ask (P.mem (by omega)) (P.mem (by omega)) ?_,by omega,a2,a3⟩
   rw [if_pos hc,if_neg (by omega)]; exact r
  ·have hc':lt (g p m) (g p (m - 1))=false:=by simpa using hc
   have ht:=O.tot _ _ (P.mem (show m < n by omega)) (P.mem (show m - 1 < n by omega)) (fun e=> by have:=P.inj (by omega) (by omega) e; omega) hc'
   refine ⟨m,.ask (P.mem (by omega)) (P.mem (by omega)) ?_,Nat.le_refl _,by omega,S⟩
   rw [if_neg hc]
   refine .ask (P.mem (by omega)) (P.mem (by omega)) ?_
   rw [if_pos ht]; exact .ret _
theorem s_ {p:Array Nat} (P:PP n p) {m k:Nat} (hm:m≤n) (hk:k < m):g (kas_rev p 0 m) k=g p (m - 1 - k):=by
 refine vP ?_
 unfold kas_rev
 rw [getElem?_mirror (by rw [P.size]; exact hm) _ (by omega)]
 split
 ·congr 1; omega
 ·congr 1; omega
theorem uU {p:Array Nat} (P:PP n p) (i j:Nat):PP n (kas_rev p i j):=P.of (mirror_perm _ _ _ _)
theorem wm {p:Array Nat} (P:PP n p) {m:Nat} (hm:m≤n) (D:Dsc lt p m):Srt lt (kas_rev p 0 m) m:=fun i j hij hj=> by
 rw [s_ P hm (by omega),s_ P hm hj]
 exact D _ _ (by omega) (by omega)
theorem rz (O:LtO n lt) {p:Array Nat} (P:PP n p) (h2:2≤n):∃ m p',Runs lt n (kas_count n p) (m,p')∧PP n p'∧1≤m∧m≤n∧Srt lt p' m:=by
 obtain ⟨m,r,a1,a2,a3,a4⟩:=lx O P (n - 1) 1 (Nat.le_refl _) (by omega) (Srt.one p)
 by_cases hm:m=n
 ·exact ⟨m,p,r.bind (by rw [if_pos (by simp [hm])]; exact .ret _),P,a1,a2,a3⟩
 ·have hne:¬ ((m==n)=true):=by simpa using hm
  by_cases h1:m > 1
  ·refine ⟨m,p,r.bind ?_,P,a1,a2,a3⟩
   rw [if_neg hne,if_pos h1]
   refine .ask (P.mem (by omega)) (P.mem (by omega)) ?_
   rw [if_pos (a3 0 (m - 1) (by omega) (by omega))]
   exact .ret _
  ·obtain rfl:m=1:=by omega
   have D2:Dsc lt p 2:=Dsc.more O (fun i j x y=> by omega) (Nat.le_refl _) (a4 (by omega))
   obtain ⟨d,rd,b1,b2,b3⟩:=nA O P (n - 2) 2 (by omega) (by omega) D2
   obtain ⟨e,re,c1,c2,c3,c4⟩:=lx O (uU P 0 d) (n - d) d (by omega) (by omega) (wm P b2 b3)
   refine ⟨e,kas_rev p 0 d,r.bind ?_,uU P 0 d,by omega,c2,c3⟩
   rw [if_neg hne,if_neg h1]
   unfold kas_descPart
   refine Runs.bind (a:=(p,d,0)) rd ?_
   rw [if_neg (by simp)]
   unfold kas_tail3
   exact re.bind (.ret _)
theorem io (O:LtO n lt) {p:Array Nat} (P:PP n p) {k:Nat} (hk:k < n) (S:Srt lt p k):∀ (f l r:Nat),l≤r→r≤k→r - l≤f→(∀ i,i < l→lt (g p i) (g p k)=true)→(∀ i,r≤i→i < k→lt (g p k) (g p i)=true)→
  ∃ l',Runs lt n (kas_place p k f l r) l'∧l'≤k∧(∀ i,i < l'→lt (g p i) (g p k)=true)∧(∀ i,l'≤i→i < k→lt (g p k) (g p i)=true)
 | 0,l,r,h1,h2,h3,a,b=> ⟨l,.ret l,by omega,a,fun i x y=> b i (by omega) y⟩
 | f+1,l,r,h1,h2,h3,a,b=> by
  unfold kas_place
  by_cases hlr:l ≥ r
  ·rw [if_pos hlr]
   exact ⟨l,.ret l,by omega,a,fun i x y=> b i (by omega) y⟩
  ·rw [if_neg hlr]
   have hm:(l+r) / 2 < k:=by omega
   by_cases hc:lt (g p k) (g p ((l+r) / 2))=true
   ·obtain ⟨l',r',x1,x2,x3⟩:=io O P hk S f l ((l+r) / 2) (by omega) (by omega) (by omega) a fun i hi hik=> by
     rcases Nat.lt_or_eq_of_le hi with z | z
     ·exact O.tr _ _ _ hc (S _ _ z hik)
     ·rw [← z]; exact hc
    refine ⟨l',.ask (P.mem hk) (P.mem (by omega)) ?_,x1,x2,x3⟩
    rw [if_pos hc]; exact r'
   ·have hc':lt (g p k) (g p ((l+r) / 2))=false:=by simpa using hc
    have ht:=O.tot _ _ (P.mem hk) (P.mem (show (l+r) / 2 < n by omega)) (fun e=> by have:=P.inj hk (by omega) e; omega) hc'
    obtain ⟨l',r',x1,x2,x3⟩:=io O P hk S f ((l+r) / 2+1) r (by omega) h2 (by omega) (fun i hi=> by
     rcases Nat.lt_or_eq_of_le (Nat.le_of_lt_succ hi) with z | z
     ·exact O.tr _ _ _ (S _ _ z hm) ht
     ·rw [z]; exact ht) b
    refine ⟨l',.ask (P.mem hk) (P.mem (by omega)) ?_,x1,x2,x3⟩
    rw [if_neg hc]; exact r'
theorem qh (O:LtO n lt):∀ (f k:Nat) (p:Array Nat),k+f=n→PP n p→Srt lt p k→∃ p',Runs lt n (kas_bin f p k) p'∧PP n p'∧Srt lt p' n
 | 0,k,p,hf,P,S=> ⟨p,.ret p,P,by rw [← hf]; exact S⟩
 | f+1,k,p,hf,P,S=> by
  obtain ⟨l,rl,x1,x2,x3⟩:=io O P (show k < n by omega) S k 0 k (Nat.zero_le _) (Nat.le_refl _) (by omega) (fun i h=> by omega) (fun i h h'=> by omega)
  have at_:∀ j,g (bubble p k (k - l)) j=if j=l then g p k else if l < j∧j≤k then g p (j - 1) else g p j:=fun j=> by
   have e:=getElem?_bubble (xs:=p) (src:=k) (by rw [P.size]; omega) (k - l) (by omega) j
   rw [show k - (k - l)=l by omega] at e
   split
   ·rename_i z; rw [if_pos z] at e; exact vP e
   ·rename_i z
    rw [if_neg z] at e
    split
    ·rename_i y; rw [if_pos y] at e; exact vP e
    ·rename_i y; rw [if_neg y] at e; exact vP e
  have e1:g (bubble p k (k - l)) l=g p k:=by rw [at_,if_pos rfl]
  have e2:∀ j,l < j→j≤k→g (bubble p k (k - l)) j=g p (j - 1):=fun j y z=> by rw [at_,if_neg (by omega),if_pos ⟨y,z⟩]
  have e3:∀ j,j < l→g (bubble p k (k - l)) j=g p j:=fun j y=> by rw [at_,if_neg (by omega),if_neg (by omega)]
  have S':Srt lt (bubble p k (k - l)) (k+1):=fun i j hij hj=> by
   rcases Nat.lt_trichotomy j l with y | y | y
   ·rw [e3 i (by omega),e3 j y]; exact S _ _ hij (by omega)
   ·rw [y,e1,e3 i (by omega)]; exact x2 i (by omega)
   ·rw [e2 j y (by omega)]
    rcases Nat.lt_trichotomy i l with z | z | z
    ·rw [e3 i z]; exact S _ _ (by omega) (by omega)
    ·rw [z,e1]; exact x3 (j - 1) (by omega) (by omega)
    ·rw [e2 i z (by omega)]; exact S _ _ (by omega) (by omega)
  obtain ⟨p',r',P',S''⟩:=qh O f (k+1) (bubble p k (k - l)) (by omega) (P.of (bubble_perm _ _ _)) S'
  exact ⟨p',rl.bind r',P',S''⟩
theorem vo (O:LtO n lt) (h2:2≤n):∃ p,Runs lt n (kas_sort n) p∧PP n p∧Srt lt p n:=by
 obtain ⟨m,p,r,P,a1,a2,S⟩:=rz O (p:=List.toArray (List.range n)) ⟨by simp⟩ h2
 by_cases hm:m < n
 ·obtain ⟨p',r',P',S'⟩:=qh O (n - max m 1) (max m 1) p (by omega) P (by rw [show max m 1=m by omega]; exact S)
  exact ⟨p',r.bind (by rw [if_pos hm]; exact r'),P',S'⟩
 ·obtain rfl:m=n:=by omega
  exact ⟨p,r.bind (by rw [if_neg hm]; exact .ret _),P,S⟩
end ST
namespace ST
open PySem PySem.W PyProof.Rows
def ltP (a b:Int×Int):Bool:=decide (a.1 < b.1∨(a.1=b.1∧a.2 < b.2))
theorem vG {a b c:Int×Int} (h1:ltP a b=true) (h2:ltP b c=true):ltP a c=true:=by
 unfold ltP at *; simp at *; omega
theorem pW {a b:Int×Int} (h1:ltP a b=true):ltP b a=false:=by
 unfold ltP at *; simp at *; omega
theorem pR {a b:Int×Int} (h:a≠b) (h1:ltP a b=false):ltP b a=true:=by
 unfold ltP at *
 have:¬ (a.1=b.1∧a.2=b.2):=fun z=> h (Prod.ext z.1 z.2)
 simp at *; omega
section
variable {prog:Program} {w:World} {A:Around} {E:Value→Shared→Prop} {s:Shared}
theorem TK.two {h:Heap} {x y:Int} {b:Addr} (k:TK prog w h [x,y] b):∃ o its n t u,h.get? b=some o∧o.cls=.type "tuple"∧o.data=.seq its n∧its.toList=[.int x t,.int y u]:=by
 obtain ⟨o,its,n,ho,hc,hd,hi⟩:=k
 cases hi':its.toList with
 | nil=> rw [hi'] at hi; cases hi
 | cons v1 r=>
  rw [hi'] at hi
  cases hi with
  | cons h1 hr=>
   cases hr with
   | cons h2 hr2=>
    cases hr2
    obtain ⟨t,rfl⟩:=Value.isInt_shape h1
    obtain ⟨u,rfl⟩:=Value.isInt_shape h2
    exact ⟨o,its,n,t,u,ho,hc,hd,hi'⟩
theorem yh {x y:Addr} {a b:Int×Int} {Q:Bool→Shared→Prop} (hx:TK prog w s.heap [a.1,a.2] x) (hy:TK prog w s.heap [b.1,b.2] y) (h:Q (ltP a b) s):wpAny (model prog w) A (keyLt' (tuples' true) (.ref x) (.ref y)) Q E s:=by
 obtain ⟨o,its,n,t,u,ho,_,hd,hi⟩:=hx.two
 obtain ⟨o',its',n',t',u',ho',_,hd',hi'⟩:=hy.two
 refine kat_lt ho hd ho' hd' ?_
 rw [hi,hi']
 refine kat_cons ((intKind prog w).eqBool (a:=a.1) (b:=b.1) (intKind_is _ _ _ _) (intKind_is _ _ _ _) ?_)
 by_cases e1:a.1=b.1
 ·rw [decide_eq_true e1]
  refine kat_yes (kat_cons ((intKind prog w).eqBool (a:=a.2) (b:=b.2) (intKind_is _ _ _ _) (intKind_is _ _ _ _) ?_))
  by_cases e2:a.2=b.2
  ·rw [decide_eq_true e2]
   refine kat_yes (kat_nil ?_)
   have z:ltP a b=false:=by unfold ltP; simp; omega
   rw [z] at h
   have z2:decide (its.size < its'.size)=false:=by
    rw [← Array.length_toList,← Array.length_toList,hi,hi']; simp
   rw [z2]; exact h
  ·rw [decide_eq_false e2]
   refine kat_no (kat_one _ _ (lt_int ?_))
   have z:ltP a b=decide (a.2 < b.2):=by unfold ltP; rw [e1]; simp
   rw [z] at h
   exact h
 ·rw [decide_eq_false e1]
  refine kat_no (oneLt_int ?_)
  have z:ltP a b=decide (a.1 < b.1):=by unfold ltP; simp [e1]
  rw [z] at h
  exact h
abbrev PB:=List ((Int×Int)×Addr)
abbrev refs (pb:PB):List Value:=pb.map fun p=> Value.ref p.2
def dfl:(Int×Int)×Addr:=((0,0),0)
theorem pq (pb:PB):(List.range pb.length).map (fun i=> pb.getD i dfl)=pb:=by
 apply List.ext_getElem
 ·simp
 ·intro i h1 h2
  simp at h1
  simp [h1]
theorem tX {pb:PB} {Q:SortKind→Shared→Prop} (htk:∀ p∈pb,TK prog w s.heap [p.1.1,p.1.2] p.2) (h0:0 < pb.length) (h:Q (tuples' true) s):wpAny (model prog w) A (keyKind' (refs pb).toArray) Q E s:=by
 obtain ⟨fs,hf,hl,hi⟩:∃ fs,KatTups s.heap (refs pb) fs∧fs.length=pb.length∧∀ v∈fs,∃ n t,v=Value.int n t:=by
  clear h h0
  induction pb with
  | nil=> exact ⟨[],.nil,rfl,fun v hv=> by simp at hv⟩
  | cons p r ih=>
   obtain ⟨fs,hf,hl,hi⟩:=ih fun q hq=> htk q (List.mem_cons_of_mem _ hq)
   obtain ⟨o,its,n,t,u,ho,hc,hd,hit⟩:=(htk p List.mem_cons_self).two
   refine ⟨.int p.1.1 t::fs,.cons ho hc hd (by rw [← Array.getElem?_toList,hit]; rfl) hf,by simp [hl],fun v hv=> ?_⟩
   rcases List.mem_cons.mp hv with z | z
   ·exact ⟨_,_,z⟩
   ·exact hi v z
 refine kat_kind (T:=.type "int") hf (by omega) (fun v hv=> ?_) (by decide) h
 obtain ⟨n,t,rfl⟩:=hi v hv
 exact Looks.of_pure rfl
set_option maxHeartbeats 1000000 in
theorem vg {a:Addr} {pb:PB} {n:Nat} {P:PySem.Fin→Shared→Prop} (ho:s.heap.get? a=some (seqObj "list" (refs pb).toArray n)) (htk:∀ p∈pb,TK prog w s.heap [p.1.1,p.1.2] p.2) (hnd:(pb.map (·.1)).Nodup) (h64:pb.length < 64)
  (h:∀ pb':PB,pb'.Perm pb→(pb'.map (·.1)).Pairwise (fun x y=> ltP x y=true)→P (.done (.ret .none)) { s with heap:=sortedHeap s.heap a (refs pb) (refs pb').toArray }):
  wpAny (model prog w) A (Builtin.«list.sort» ⟨[.ref a],[]⟩) P E s:=by
 have hvl:(refs pb).length=pb.length:=by simp
 have hva:(refs pb).toArray.size=pb.length:=by simp
 rw [list_sort_plain]
 have ha:a < s.heap.objs.size:=Heap.lt_size ho
 refine wpAny_bind (listItems_at ho rfl (wpAny_bind (listUpdate_at ho rfl ?_ (by rw [hva,sizeLine_eq]; omega) (Nat.zero_le _))))
 obtain ⟨e1,ho1⟩:∃ e1,(s.heap.update a (Obj.mapSeq fun _=> (#[]:Array Value))).get? a=some (seqObj "list" #[] e1):=⟨_,get?_update_seq ho (fun _=> #[])⟩
 refine wpAny_bind (seqEpoch_at ho1 rfl (wpAny_bind (wpAny_newTuple ?_ (by show (refs pb).length≤_; rw [hvl,sizeLine_eq]; omega))))
 refine wpAny_bind (wpAny_newList ?_ (Nat.zero_le _))
 refine wpAny_holding ?_
 generalize hh6:((s.heap.update a (Obj.mapSeq fun _=> (#[]:Array Value))).push (seqObj "tuple" (refs pb).toArray 0)).push (seqObj "list" #[] 0)=h6
 have old6:∀ b o,b≠a→s.heap.get? b=some o→h6.get? b=some o:=fun b o hb e=> by
  rw [← hh6]
  exact Heap.get?_push_of_some _ (Heap.get?_push_of_some _ ((Heap.get?_update_other _ _ (Ne.symm hb)).trans e))
 have ho6:h6.get? a=some (seqObj "list" #[] e1):=by rw [← hh6]; exact Heap.get?_push_of_some _ (Heap.get?_push_of_some _ ho1)
 have tk6:∀ p∈pb,TK prog w h6 [p.1.1,p.1.2] p.2:=fun p hp=> by
  obtain ⟨o,its,k,hop,hc,r⟩:=htk p hp
  refine ⟨o,its,k,old6 p.2 o (fun z=> ?_) hop,hc,r⟩
  rw [z,ho] at hop
  cases hop
  exact absurd hc (by show ¬ (Value.type "list"=Value.type "tuple"); decide)
 have fin:∀ pb':PB,pb'.Perm pb→(pb'.map (·.1)).Pairwise (fun x y=> ltP x y=true)→P (.done (.ret .none)) { s with heap:=h6.update a (Obj.mapSeq fun _=> (refs pb').toArray) }:=fun pb' p1 p2=> by
  rw [← hh6]; exact h pb' p1 p2
 show wpAny (model prog w) A _ P E { s with heap:=h6 }
 dsimp only
 by_cases h2:(refs pb).toArray.size < 2
 ·rw [if_pos h2,if_pos h2]
  refine wpAny_bind (wpAny_pure ?_)
  rw [StateT.run_pure]
  refine wpAny_bind (wpAny_pure ?_)
  dsimp only
  have eout:(arrOf (SortSt.mk' general' ((refs pb).toArray.zip (refs pb).toArray) #[] 7 none)).map (·.2)=(refs pb).toArray:=by
   show (((refs pb).toArray.zip (refs pb).toArray)).map (·.2)=_
   apply Array.toList_inj.mp
   have zip2:∀ l:List Value,(l.zip l).map (·.2)=l:=fun l=> by
    induction l with
    | nil=> rfl
    | cons x r ih=> rw [List.zip_cons_cons,List.map_cons,ih]
   rw [Array.toList_map,Array.toList_zip]
   exact zip2 _
  rw [eout]
  refine wpAny_bind (seqEpoch_at ho6 rfl (wpAny_bind (listUpdate_at ho6 rfl ?_ (Nat.zero_le _) (by rw [hva,sizeLine_eq]; omega))))
  show wpAny _ _ (if (e1 !=e1)=true then _ else _) _ _ _
  rw [if_neg (by simp)]
  refine wpAny_pure (fin pb (List.Perm.refl _) ?_)
  match pb,hva,h2 with
  | [],_,_=> simp
  | [_],_,_=> simp
  | _::_::r,hva,h2=> rw [hva] at h2; exact absurd h2 (by simp)
 ·rw [if_neg h2,if_neg h2]
  rw [hva] at h2
  have h2':2≤(refs pb).length:=by rw [hvl]; omega
  refine wpAny_bind (tX (s:={ s with heap:=h6 }) tk6 (by omega) ?_)
  have inj:∀ i j,i < pb.length→j < pb.length→i≠j→(pb.getD i dfl).1≠(pb.getD j dfl).1:=fun i j hi hj hij e=> by
   refine hij ((List.getElem_inj (xs:=pb.map (·.1)) (h₀:=by simpa using hi) (h₁:=by simpa using hj) hnd).mp ?_)
   simpa [hi,hj] using e
  have O:LtO pb.length (fun i j=> ltP (pb.getD i dfl).1 (pb.getD j dfl).1):=⟨fun i j k=> vG,fun i j hi hj hij=> pR (inj i j hi hj hij),fun i j=> pW⟩
  obtain ⟨p,R,PP',S⟩:=vo O (by omega)
  have hcmp:∀ i j C,i < pb.length→j < pb.length→C (ltP (pb.getD i dfl).1 (pb.getD j dfl).1) { s with heap:=h6 }→kas_ask prog w A (tuples' true) (refs pb) i j C { s with heap:=h6 }:=fun i j C hi hj c=> by
   unfold kas_ask
   have ei:(refs pb).getD i Value.none=.ref (pb.getD i dfl).2:=by simp [hi]
   have ej:(refs pb).getD j Value.none=.ref (pb.getD j dfl).2:=by simp [hj]
   rw [ei,ej]
   have mi:pb.getD i dfl∈pb:=by simp [hi]
   have mj:pb.getD j dfl∈pb:=by simp [hj]
   exact yh (s:={ s with heap:=h6 }) (tk6 _ mi) (tk6 _ mj) c
  have tree:(kas_sort (refs pb).length).kasWp (kas_ask prog w A (tuples' true) (refs pb)) (fun p' s'=> p'=p∧s'={ s with heap:=h6 }) { s with heap:=h6 }:=by
   rw [hvl]
   exact R.wp hcmp ⟨rfl,rfl⟩
  refine wpAny_bind (wpAny_mono (kat_run (Q:=fun st' s'=> s'={ s with heap:=h6 }∧failedOf st'=none∧(arrOf st').map (·.2)=List.toArray (p.toList.map fun i=> (refs pb).getD i Value.none)) rfl h2' (by rw [hvl]; exact h64) (fun p' st' s' _ a2 a3 a4=> ?_) tree) ?_ fun _ _ e=> e)
  ·obtain ⟨rfl,rfl⟩:=a4
   exact ⟨rfl,a3,kat_snds rfl a2⟩
  ·rintro ⟨⟨⟩,st'⟩ s' ⟨rfl,hf,hout⟩
   dsimp only
   rw [hout]
   have hlt:∀ i∈p.toList,i < pb.length:=fun i hi=> List.mem_range.mp (PP'.perm.mem_iff.mp hi)
   have er:(p.toList.map fun i=> (refs pb).getD i Value.none)=refs (p.toList.map fun i=> pb.getD i dfl):=by
    unfold refs
    rw [List.map_map]
    refine List.map_congr_left fun i hi=> ?_
    have:=hlt i hi
    simp [this]
   rw [er]
   have hperm:(p.toList.map fun i=> pb.getD i dfl).Perm pb:=by
    refine (PP'.perm.map _).trans ?_
    rw [pq]
   have hs2:(refs (p.toList.map fun i=> pb.getD i dfl)).toArray.size=pb.length:=by simp [PP'.size]
   refine wpAny_bind (seqEpoch_at ho6 rfl (wpAny_bind (listUpdate_at ho6 rfl ?_ (Nat.zero_le _) (by rw [hs2,sizeLine_eq]; omega))))
   rw [hf]
   show wpAny _ _ (if (e1 !=e1)=true then _ else _) _ _ _
   rw [if_neg (by simp)]
   refine wpAny_pure (fin _ hperm ?_)
   rw [List.map_map,List.pairwise_map,List.pairwise_iff_getElem]
   intro i j hi hj hij
   have hj':j < pb.length:=by rw [Array.length_toList,PP'.size] at hj; exact hj
   have q:=S i j hij hj'
   have ei:g p i=p.toList[i]:=by simp [g,Array.getD,PP'.size,show i < pb.length by omega]
   have ej:g p j=p.toList[j]:=by simp [g,Array.getD,PP'.size,hj']
   rw [ei,ej] at q
   exact q
end
end ST
namespace ST
open PySem PySem.W PyProof.Rows PySem.Calls
theorem ve {α β:Type} (f:α→β) {l m:List β} (h:l.Perm m):∀ kb:List α,m=kb.map f→∃ kb':List α,List.Perm kb' kb∧l=List.map f kb':=by
 induction h with
 | nil=> intro kb e; exact ⟨kb,.refl _,e⟩
 | @cons x l m _ ih=>
  intro kb e
  match kb,e with
  | [],e=> simp at e
  | k::kb,e=>
   rw [List.map_cons,List.cons.injEq] at e
   obtain ⟨kb',p,e'⟩:=ih kb e.2
   exact ⟨k::kb',p.cons k,by rw [List.map_cons,← e',e.1]⟩
 | swap x y l=>
  intro kb e
  match kb,e with
  | [],e=> simp at e
  | [_],e=> simp at e
  | k::k'::kb,e=>
   simp only [List.map_cons,List.cons.injEq] at e
   exact ⟨k'::k::kb,.swap k k' kb,by rw [List.map_cons,List.map_cons,← e.2.2,e.1,e.2.1]⟩
 | trans _ _ ih1 ih2=>
  intro kb e
  obtain ⟨kb2,p2,e2⟩:=ih2 kb e
  obtain ⟨kb1,p1,e1⟩:=ih1 kb2 e2
  exact ⟨kb1,p1.trans p2,e1⟩
def ptsOf (kb:List (List Int×Addr)):PB:=kb.map fun p=> ((p.1.getD 0 0,p.1.getD 1 0),p.2)
section
variable {prog:Program} {w:World} {A:Around} {E:Value→Shared→Prop} {s:Shared}
set_option maxHeartbeats 1000000 in
theorem call_sorted_set {S:Addr} {kb:List (List Int×Addr)} {Q:Value→Shared→Prop} (hh:A.handled=none) (P:SP prog w s.heap S kb) (h64:kb.length < 64) (h2:∀ p∈kb,p.1.length=2)
  (h:∀ (h1 h':Heap) (tk:Nat) (pb:PB) (e:Nat),List.Perm pb (ptsOf kb)→(pb.map (·.1)).Pairwise (fun x y=> ltP x y=true)→(∀ b o,s.heap.get? b=some o→h1.get? b=some o)→(∀ b o,h1.get? b=some o→h'.get? b=some o)→h'.get? h1.objs.size=some (seqObj "list" (refs pb).toArray e)→Q (.ref h1.objs.size) { s with heap:=h',toks:=tk }):
  wpAny (model prog w) A (call (.builtin "sorted") [.ref S]) Q E s:=by
 obtain ⟨⟨o,es,ep,t,ho,hex,hd,he,T,hl,hp,_,_⟩,hk,hnd⟩:=P
 have hsz:es.size=kb.length:=by rw [← Array.length_toList,he]; simp [ents]
 have O:SO prog w o es ep t (kb.map fun p=> hsh prog w p.1):=⟨hex,hd,T,by rw [List.length_map,hsz],hl,hp⟩
 have two:∀ p∈kb,p.1=[p.1.getD 0 0,p.1.getD 1 0]:=fun p hp'=> by
  have:=h2 p hp'
  match hq:p.1,this with
  | [x,y],_=> rfl
 refine call_function_entry kind_sorted plain_sorted entry_sorted (args_sorted1 _) ?_
 unfold Builtin.«sorted»
 refine wpAny_bind (m:=checkCount "sorted" 1 1 _) (wpAny_pure ?_)
 refine wpAny_bind (kdu_collect (A:=A.in1) (xi O) hh ho (by rw [hsz,sizeLine_eq]; omega) fun h' tk acc keep hacc=> ?_)
 have hal:acc.toList=cr w S es ep:=by
  apply List.ext_getElem?
  intro i
  rcases Nat.lt_or_ge i acc.size with z | z
  ·rw [Array.getElem?_toList,Array.getElem?_eq_getElem z]
   exact (hacc.2 i _ (Array.getElem?_eq_getElem z)).symm
  ·rw [List.getElem?_eq_none (by simpa using z),List.getElem?_eq_none]
   rw [(eo w S es ep).length_eq,List.length_map,Array.length_toList,← hacc.1]; exact z
 obtain ⟨kb1,pk,ek⟩:=ve (fun (p:List Int×Addr)=> Value.ref p.2) (eo w S es ep) kb (by rw [he]; unfold ents; rw [List.map_map]; rfl)
 have hl1:acc.toList=refs (ptsOf kb1):=by
  rw [hal,ek]; unfold refs ptsOf; rw [List.map_map]; rfl
 have hlen1:(ptsOf kb1).length=kb.length:=by unfold ptsOf; rw [List.length_map,pk.length_eq]
 have hlenA:acc.toList.length=kb.length:=by rw [hl1]; simp [hlen1]
 refine wpAny_bind (wpAny_newList ?_ (by rw [hlenA,sizeLine_eq]; omega))
 have hD:(h'.push { cls:=.type "list",data:=.seq acc.toList.toArray }).get? h'.objs.size=some (seqObj "list" (refs (ptsOf kb1)).toArray 0):=by
  rw [← hl1]; exact Heap.get?_push_size _ rfl
 have tk1:∀ p∈ptsOf kb1,TK prog w (h'.push { cls:=.type "list",data:=.seq acc.toList.toArray }) [p.1.1,p.1.2] p.2:=fun p hp'=> by
  obtain ⟨q,hq,rfl⟩:=List.mem_map.mp hp'
  have hq':=pk.mem_iff.mp hq
  obtain ⟨oq,its,k,hoq,r⟩:=hk q hq'
  have e2:=two q hq'
  refine ⟨oq,its,k,Heap.get?_push_of_some _ (keep _ _ hoq),?_⟩
  rw [← e2]; exact r
 have nd1:((ptsOf kb1).map (·.1)).Nodup:=by
  have n1:(kb1.map (·.1)).Nodup:=((pk.map (·.1)).nodup_iff).mpr hnd
  unfold ptsOf
  rw [List.map_map]
  refine List.pairwise_map.mpr ((List.pairwise_map.mp n1).imp_of_mem fun {a b} ha hb hab=> ?_)
  intro z
  have ea:=two a (pk.mem_iff.mp ha)
  have eb:=two b (pk.mem_iff.mp hb)
  have z':(a.1.getD 0 0,a.1.getD 1 0)=(b.1.getD 0 0,b.1.getD 1 0):=z
  rw [Prod.mk.injEq] at z'
  rw [z'.1,z'.2] at ea
  exact hab (ea.trans eb.symm)
 refine wpAny_bind (wpAny_holding (wpAny_call_entry slot_list_sort ⟨_,hD,rfl⟩ entry_list_sort ?_ (args_list_sort _)))
 refine vg (s:={ s with heap:=h'.push { cls:=.type "list",data:=.seq acc.toList.toArray },toks:=tk }) hD tk1 nd1 (by omega) fun pb' pp so=> ⟨_,rfl,wpAny_pure ⟨_,rfl,?_⟩⟩
 obtain ⟨e,eD⟩:=sortedHeap_at (out:=(refs pb').toArray) hD
 refine h h' _ tk pb' e (pp.trans ?_) so keep (fun b x hb'=> ?_) eD
 ·unfold ptsOf; exact pk.map _
 ·have hlt:=Heap.lt_size hb'
  rw [sortedHeap_old (Nat.ne_of_lt hlt) (by rw [Heap.size_push]; exact Nat.lt_succ_of_lt hlt)]
  exact Heap.get?_push_of_some _ hb'
end
end ST
namespace ST
open PySem
def ins (x:Int×Int):List (Int×Int)→List (Int×Int)
 | []=> [x]
 | y::r=> if x=y then y::r else if ltP x y=true then x::y::r else y::ins x r
def srt (pts:List (Int×Int)):List (Int×Int):=pts.foldr ins []
theorem kZ (x z:Int×Int):∀ l,z∈ins x l↔z=x∨z∈l
 | []=> by simp [ins]
 | y::r=> by
  unfold ins
  split
  ·rename_i h; subst h; simp
  ·split
   ·simp
   ·rw [List.mem_cons,kZ x z r,List.mem_cons]
    constructor
    ·rintro (h | h | h)
     ·exact .inr (.inl h)
     ·exact .inl h
     ·exact .inr (.inr h)
    ·rintro (h | h | h)
     ·exact .inr (.inl h)
     ·exact .inl h
     ·exact .inr (.inr h)
abbrev Asc (l:List (Int×Int)):Prop:=l.Pairwise (fun x y=> ltP x y=true)
theorem qw (x:Int×Int):∀ l,Asc l→Asc (ins x l)
 | [],_=> by simp [ins]
 | y::r,h=> by
  unfold ins
  split
  ·exact h
  ·rename_i hne
   obtain ⟨h1,h2⟩:=List.pairwise_cons.mp h
   split
   ·rename_i hlt
    refine List.pairwise_cons.mpr ⟨fun z hz=> ?_,h⟩
    rcases List.mem_cons.mp hz with e | e
    ·rw [e]; exact hlt
    ·exact vG hlt (h1 z e)
   ·rename_i hlt
    refine List.pairwise_cons.mpr ⟨fun z hz=> ?_,qw x r h2⟩
    rcases (kZ x z r).mp hz with e | e
    ·rw [e]; exact pR hne (by simpa using hlt)
    ·exact h1 z e
theorem srt_mem (z:Int×Int):∀ l,z∈srt l↔z∈l
 | []=> by simp [srt]
 | y::r=> by
  show z∈ins y (srt r)↔_
  rw [kZ,srt_mem z r,List.mem_cons]
theorem srt_asc:∀ l,Asc (srt l)
 | []=> List.Pairwise.nil
 | y::r=> qw y (srt r) (srt_asc r)
theorem pV {x:Int×Int}:ltP x x=false:=by unfold ltP; simp
theorem asc_one:∀ {l m:List (Int×Int)},Asc l→Asc m→(∀ z,z∈l↔z∈m)→l=m
 | [],[],_,_,_=> rfl
 | [],y::r,_,_,h=> by have:=(h y).mpr List.mem_cons_self; simp at this
 | x::l,[],_,_,h=> by have:=(h x).mp List.mem_cons_self; simp at this
 | x::l,y::m,hl,hm,h=> by
  obtain ⟨a1,a2⟩:=List.pairwise_cons.mp hl
  obtain ⟨b1,b2⟩:=List.pairwise_cons.mp hm
  have e:x=y:=by
   rcases List.mem_cons.mp ((h x).mp List.mem_cons_self) with z | z
   ·exact z
   ·rcases List.mem_cons.mp ((h y).mpr List.mem_cons_self) with z' | z'
    ·exact z'.symm
    ·have:=pW (b1 x z)
     rw [a1 y z'] at this; cases this
  subst e
  congr 1
  refine asc_one a2 b2 fun z=> ⟨fun hz=> ?_,fun hz=> ?_⟩
  ·rcases List.mem_cons.mp ((h z).mp (List.mem_cons_of_mem _ hz)) with e | e
   ·have:=a1 z hz; rw [e,pV] at this; cases this
   ·exact e
  ·rcases List.mem_cons.mp ((h z).mpr (List.mem_cons_of_mem _ hz)) with e | e
   ·have:=b1 z hz; rw [e,pV] at this; cases this
   ·exact e
theorem asc_srt {l:List (Int×Int)} (h:Asc l):srt l=l:=asc_one (srt_asc l) h fun z=> srt_mem z l
theorem qc (x:Int×Int):∀ l,(ins x l).length≤l.length+1
 | []=> by simp [ins]
 | y::r=> by
  have:=qc x r
  unfold ins
  split
  ·simp
  ·split
   ·simp
   ·simp only [List.length_cons]; omega
theorem srt_len:∀ l,(srt l).length≤l.length
 | []=> Nat.le_refl _
 | y::r=> by
  have h1:=qc y (srt r)
  have h2:=srt_len r
  show (ins y (srt r)).length≤_
  simp only [List.length_cons]; omega
end ST
namespace L2
open PySem PySem.Spec PyProof.Rows
theorem Bi {p:Nat→Addr→Prop} {n:Nat} (h:∀ i,i < n→∃ b,p i b):∃ f:Nat→Addr,∀ i,i < n→p i (f i):=by
 refine ⟨fun i=> if k:i < n then Classical.choose (h i k) else 0,fun i hi=> ?_⟩
 dsimp only
 rw [dif_pos hi]
 exact Classical.choose_spec (h i hi)
theorem u9:bootBuiltins "set"=some (.type "set"):=by decide+kernel
section
variable {X:Cx} {H0:Hp} {O0:List Addr} {ps:PSt} {e:Expr} {pts:List P2} {pos pos' p p':Pos}
set_option maxHeartbeats 2000000 in
theorem kn (hc:X.calm=true) (hu:X.A.units+10 < cLine) (hg:Gl X "sorted") (hm:X.mg "sorted"=none) (hgs:Gl X "set") (hms:X.mg "set"=none) (ha:Ev X H0 O0 ps e (lp pts)) (hl:pts.length < 64)
  (he:starEach [e] X.env=(false,eval e X.env)::starEach [] X.env:=by rfl):EvN X H0 O0 ps (.Call (.Name "sorted" p) [.Call (.Name "set" p') [e] [] pos'] [] pos) ((ST.srt pts).map pu):=by
 rintro pins s σ H Q I ⟨O,R,q⟩
 have hh:X.A.handled=none:=I.ok.hd hc
 refine wpAny_Call_Name_kw (gs I hg hm boot_sorted ?_)
 refine callWith_builtin1 (e:=.Call (.Name "set" p') [e] [] pos') (rest:=[]) ?_ rfl rfl
 show wpAny _ _ (spliced ((false,eval (.Call (.Name "set" p') [e] [] pos') X.env)::backTo pos (starEach [] X.env))) _ _ s
 refine Calls.spliced_cons ?_
 refine wpAny_Call_Name_kw (gs I hgs hms u9 ?_)
 refine callWith_type1 (thn (c_ ha eg he pos' pins s σ H (fun vs H1=> ∃ v,vs=[v]∧aC H H1∧Rp X.K (hid H1 O) v (lp pts)) I ⟨O,R,fun v H1 s1 r1=> ⟨v,rfl,s1,r1⟩⟩) fun us s1 hx=> ?_) he rfl
 obtain ⟨vs,H1,I1,rv,v,rfl,sm,rp⟩:=hx
 obtain ⟨u,rfl,ru⟩:=dG rv
 cases rp with
 | @lst a ws _ hq hwl hwi=>
  cases ru
  obtain ⟨its,rw',pl,hz⟩:=I1.list (SqL.of (aE _ _ hq))
  have hlp:ws.length=pts.length:=by rw [hwl,List.length_map]
  have hil:its.length=pts.length:=by rw [← rw'.length,hlp]
  have item:∀ i,i < pts.length→∃ b,its[i]?=some (.ref b)∧Rp X.K (hid H1 O) (.ref b) (pu (pts.getD i (0,0)))∧ST.TK X.prog X.w s1.heap [(pts.getD i (0,0)).1,(pts.getD i (0,0)).2] b:=fun i hi=> by
   have hw:ws[i]?=some ws[i]:=List.getElem?_eq_getElem (by omega)
   have hp:(pts.map pu)[i]?=some (pu (pts.getD i (0,0))):=by rw [List.getElem?_map,List.getElem?_eq_getElem hi]; simp [hi]
   have r:=hwi i _ _ hw hp
   obtain ⟨u',e1,e2⟩:=rw'.get hw
   generalize ws[i]=z at *
   cases r with
   | @tup b zs _ hs hsl hsi=>
    cases e2
    refine ⟨b,e1,Rp.tup hs hsl hsi,?_⟩
    obtain ⟨jts,rj,ht,_⟩:=I1.tuple (by exact aE.tup hs)
    have z0:zs.length=2:=hsl
    match zs,z0,hsi,rj with
    | [z1,z2],_,hsi,rj=>
     have q1:=hsi 0 z1 _ rfl rfl
     have q2:=hsi 1 z2 _ rfl rfl
     cases q1
     cases q2
     obtain ⟨u1,u2,rfl,r1,r2⟩:=mw rj
     obtain ⟨t1,rfl⟩:=r1
     obtain ⟨t2,rfl⟩:=r2
     obtain ⟨o,ho,hoc,n,hod⟩:=ht
     exact ⟨o,_,n,ho,hoc,hod,.cons (intKind_is _ _ _ _) (.cons (intKind_is _ _ _ _) .nil)⟩
  obtain ⟨ad',adE⟩:=Bi item
  have hsz:its.toArray.size=pts.length:=by simp [hil]
  refine ST.call_set_pts (fun i=> ([(pts.getD i (0,0)).1,(pts.getD i (0,0)).2],ad' i)) hh (by show X.A.units+1+1+1 < cLine; omega) pl.isList (fun i z ez=> ?_) (fun i hi=> ?_) (by rw [hsz]; omega) fun h2 tk kb sp got keep=> ?_
  ·have hi:i < pts.length:=by have:=be (show its[i]?=some z by simpa using ez); omega
   have:=(adE i hi).1
   rw [show its.toArray[i]?=its[i]? by simp,this] at ez
   cases ez; rfl
  ·exact (adE i (by rw [hsz] at hi; exact hi)).2.2
  ·rw [hsz] at got
   have I2:Inv X pins σ H1 { s1 with heap:=h2,toks:=tk }:=I1.kept (t':=tk) keep
   refine Calls.spliced_nil ?_
   have hkl:kb.length < 64:=by have:=got.len; omega
   refine ST.call_sorted_set (s:={ s1 with heap:=h2,toks:=tk }) hh sp hkl (fun z hz=> by obtain ⟨j,_,rfl⟩:=got.src z hz; rfl) fun h3 h4 tk2 pb ep pm so k1 k2 hD=> ?_
   have I3:Inv X pins σ H1 { s1 with heap:=h3,toks:=tk2 }:=I2.kept (t':=tk2) k1
   have src:∀ z∈pb,∃ j,j < pts.length∧z=(pts.getD j (0,0),ad' j):=fun z hz=> by
    obtain ⟨y,hy,rfl⟩:=List.mem_map.mp (pm.mem_iff.mp hz)
    obtain ⟨j,hj,rfl⟩:=got.src y hy
    exact ⟨j,hj,rfl⟩
   have epts:pb.map (·.1)=ST.srt pts:=by
    refine ST.asc_one so (ST.srt_asc pts) fun z=> ?_
    rw [ST.srt_mem]
    constructor
    ·intro hz
     obtain ⟨y,hy,rfl⟩:=List.mem_map.mp hz
     obtain ⟨j,hj,rfl⟩:=src y hy
     simp [hj]
    ·intro hz
     obtain ⟨j,hj⟩:=List.mem_iff_getElem?.mp hz
     have hjl:=be hj
     have hk:=got.all j hjl
     obtain ⟨y,hy,ey⟩:=List.mem_map.mp hk
     have hin:((y.1.getD 0 0,y.1.getD 1 0),y.2)∈ST.ptsOf kb:=List.mem_map.mpr ⟨y,hy,rfl⟩
     have hin':=pm.mem_iff.mpr hin
     refine List.mem_map.mpr ⟨_,hin',?_⟩
     rw [ey]
     have:pts.getD j (0,0)=z:=by rw [List.getD_eq_getElem?_getD,hj]; rfl
     show ((pts.getD j (0,0)).1,(pts.getD j (0,0)).2)=z
     rw [this]
   have fr:H1 h3.objs.size=none:=I3.hok.fresh (Nat.le_refl _)
   refine ⟨.ref h3.objs.size,upd H1 h3.objs.size (.lst (pb.map fun z=> V.ref z.2)),?_,rfl,?_⟩
   ·refine I3.laid (t':=tk2) k2 (Nat.le_refl _) ⟨?_,(ST.refs pb),ep,?_,hD⟩
    ·rw [List.length_map,← List.length_map (f:=(·.1)),epts,sizeLine_eq]
     have:=ST.srt_len pts
     omega
    ·have all:∀ l:ST.PB,aI (l.map fun z=> V.ref z.2) (ST.refs l):=fun l=> by
      induction l with
      | nil=> exact .nil
      | cons z r ih=> exact .cons rfl ih
     exact all pb
   ·refine q _ _ _ (sm.trans (bg fr _)) (sm.free fr) aD ⟨?_,fun i z x e1 e2=> ?_⟩
    ·rw [List.length_map,← epts,List.length_map,List.length_map]
    ·rw [← epts,List.map_map,List.getElem?_map] at e2
     rw [List.getElem?_map] at e1
     cases hpi:pb[i]? with
     | none=> rw [hpi] at e1; cases e1
     | some y=>
      rw [hpi] at e1 e2
      cases e1
      cases e2
      obtain ⟨j,hj,rfl⟩:=src y (List.mem_of_getElem? hpi)
      exact (adE j hj).2.1.same (bn (bg fr _) fr)
end
end L2
namespace ST
open PySem
section
variable {prog:Program} {w:World} {A:Around} {s:Shared} {R:Result→Shared→Prop} {I:Addr} {fp wr:List Addr} {G:Array GenState→Array GenState→Prop} {n:Nat} {P:Nat→Value→Prop} {St:Nat→Shared→Prop} {T:String}
end
section
variable {prog:Program} {w:World} {A:Around} {E:Value→Shared→Prop} {s:Shared} {I:Addr} {fp wr:List Addr} {G:Array GenState→Array GenState→Prop} {n:Nat} {P:Nat→Value→Prop} {St:Nat→Shared→Prop} {T:String}
end
end ST
namespace L2
open PySem PySem.Spec PyProof.Rows
theorem aI.rev:∀ {xs:List V} {us:List Value},aI xs us→aI xs.reverse us.reverse:=fun {xs us} r=> by
 induction r with
 | nil=> exact .nil
 | @cons x u xs us r1 r2 ih=>
  rw [List.reverse_cons,List.reverse_cons]
  have app:∀ {a:List V} {b:List Value},aI a b→aI (a++[x]) (b++[u]):=fun {a b} q=> by
   induction q with
   | nil=> exact .cons r1 .nil
   | cons q1 _ ih'=> exact .cons q1 ih'
  exact app ih
theorem Rps.rev {K:PySem.W.Frag} {H:Hp} {vs:List V} {xs:List U} (r:Rps K H vs xs):Rps K H vs.reverse xs.reverse:=⟨by simp [r.len],fun i v x h1 h2=> by
 have hi:i < vs.length:=by have:=be h1; simpa using this
 have hx:i < xs.length:=by rw [← r.len]; exact hi
 rw [List.getElem?_reverse hi] at h1
 rw [List.getElem?_reverse hx,← r.len] at h2
 exact r.at_ _ v x h1 h2⟩
section
variable {X:Cx} {H0:Hp} {O0:List Addr} {ps:PSt} {e k:Expr} {x:U} {xs:List U} {pos pos' p p' p2:Pos}
theorem yW {K:PySem.W.Frag} {H:Hp} {v:V} (rp:Rp K H v x) (hx:x=.lst xs∨x=.scr xs):∃ a vs,v=.ref a∧SqL K H a vs∧Rps K H vs xs:=by
 rcases hx with rfl | rfl
 ·cases rp with
  | lst hq hl hh=> exact ⟨_,_,rfl,SqL.of hq,hl,hh⟩
 ·cases rp with
  | scr hq hl hh=> exact ⟨_,_,rfl,hq,hl,hh⟩
theorem Au (he:Ev X H0 O0 ps e x) (hk:Ev X H0 O0 ps k (.int (-1))) (hx:x=.lst xs∨x=.scr xs):EvN X H0 O0 ps (.Subscript e (.Slice none none (some k) p2) pos) xs.reverse:=by
 rintro pins s σ H Q I ⟨O,R,q⟩
 refine Subscript_ (thn (he pins s σ H (fun v H1=> aC H H1∧Rp X.K (hid H1 O) v x) I ⟨O,R,fun v H1 s1 r1=> ⟨s1,r1⟩⟩) fun u s1 ⟨v,H1,I1,r1,sm,rp⟩=> ?_)
 obtain ⟨a,vs,rfl,hq,rs⟩:=yW rp hx
 cases r1
 refine wpAny_Slice ?_
 rw [evalPart_none]
 refine wpAny_pure (wpAny_pure ?_)
 rw [evalPart_some]
 refine thn (hk pins s1 σ H1 (fun v H2=> aC H1 H2∧v=.int (-1)) I1 ⟨O,R.go sm,fun v H2 s2 r2=> ⟨s2,by cases r2; rfl⟩⟩) fun uk s2 hy=> ?_
 obtain ⟨vk,H2,I2,rk,s12,rfl⟩:=hy
 obtain ⟨t,rfl⟩:=rk
 have I3:Inv X pins σ H2 { s2 with heap:=s2.heap.push { cls:=.type "slice",data:=.fields #[.none,.none,.int (-1) t] } }:=I2.kept (t':=s2.toks) fun b ob z=> Heap.get?_push_of_some _ z
 obtain ⟨its,rv,pl,hz⟩:=I3.list (s12.seq (aE.seq hq))
 have hlen:=rv.length
 show wpAny (model X.prog X.w) X.A (subscriptTail e (.Slice none none (some k) p2) (.ref a) (.ref s2.heap.objs.size)) (EP X pins σ Q) X.xe { s2 with heap:=s2.heap.push { cls:=.type "slice",data:=.fields #[.none,.none,.int (-1) t] } }
 refine tail_any (ops:=[.ref a,.ref s2.heap.objs.size]) pl.isList.typeIs slot_list_getitem.lookup ?_ (by with_unfolding_all rfl)
 refine wpAny_getItem_list_slice pl.isList (Heap.IsSliceOf.new ..) .none .none (IsPart.int _ _) (by simp) ?_ (by rw [List.size_toArray]; omega)
 rw [PySem.W.krv_pick]
 generalize hn:(s2.heap.push { cls:=.type "slice",data:=.fields #[.none,.none,.int (-1) t] }).objs.size=D
 have fr:H2 D=none:=I3.hok.fresh (by rw [← hn]; exact Nat.le_refl _)
 refine ⟨.ref D,upd H2 D (.lst vs.reverse),I3.laid (t':=s2.toks) (o:=.lst vs.reverse) (fun b ob z=> Heap.get?_push_of_some _ z) (by rw [← hn]; exact Nat.le_refl _) ⟨by rw [List.length_reverse]; exact hz,its.reverse,0,rv.rev,?_⟩,rfl,?_⟩
 ·rw [← hn]; exact Heap.get?_push_size _ rfl
 ·refine q D _ _ ((sm.trans s12).trans (bg fr _)) ((sm.trans s12).free fr) aD ?_
  exact (rs.rev.same (aK s12)).same (bn (bg fr _) fr)
end
end L2
namespace L2
open PySem PySem.Spec PyProof.Rows
section
variable {X:Cx} {H0:Hp} {O0:List Addr} {ps:PSt} {xs:List U} {us:List U} {es:List Expr} {x:Str} {pc p' pos:Pos}
theorem la (n:Nat) (h:ps[n]?=some (some (.own xs))) (hg:Gl X "len") (hm:X.mg "len"=none) (hN:X.N[n]?=some x:=by rfl) (hv:Vis X.env.scope x:=by first | exact Or.inl rfl | exact Or.inr (Or.inl rfl) | exact Or.inr (Or.inr rfl)) (hd:(x==("__debug__":Str))=false:=by decide)
  (hcd:(x==("__classdict__":Str))=false:=by decide) (hpl:(backTo pos (starEach [] X.env)).any (·.1)=false:=by rfl):Ev X H0 O0 ps (.Call (.Name "len" pc) [.Name x p'] [] pos) (.int xs.length):=yw n h hg hm hN hv hd hcd ag hpl
end
end L2
namespace ST
open PySem
abbrev Bf (h:Heap) (z TI TO T:Addr) (b:Bool):Prop:=h.get? z=some { cls:=.type "zip",dict:=none,data:=.fields #[rawInt T,.bool b,.bool false,.ref TI,.ref TO],slots:=#[] }
section
variable {prog:Program} {w:World} {A:Around} {E:Value→Shared→Prop} {s:Shared}
end
structure ZL (xs ys:Array Value) (z TI TO i1 i2 l1 l2 S:Addr) (h:Heap) (i:Nat) (ad:List Addr) (c:Nat):Prop where
 ti:IsPair h TI (.ref i1) (.ref i2)
 a1:h.IsListIter i1 l1 i
 a2:h.IsListIter i2 l2 i
 b1:h.IsList l1 xs
 b2:h.IsList l2 ys
 acc:h.get? S=some { cls:=.type "list",dict:=none,data:=.seq (ad.map Value.ref).toArray c,slots:=#[] }
 len:ad.length=i
 tup:∀ (j:Nat) (a:Addr),ad[j]?=some a→∃ x y,xs[j]?=some x∧ys[j]?=some y∧IsPair h a x y
 far:∀ a∈ad,a≠z∧a≠TO∧a≠i1∧a≠i2∧a≠S
 to:∃ o,h.get? TO=some o
 nd:ad.Nodup
 zz:(i=0∧IsZip h z TI TO .none∧∃ a b,IsPair h TO a b)∨(∃ b T,ad[0]?=some T∧Bf h z TI TO T b)
section
variable {prog:Program} {w:World} {A:Around} {R:Result→Shared→Prop}
end
end ST
namespace ST
open PySem
section
variable {prog:Program} {w:World} {A:Around} {R:Result→Shared→Prop}
structure ZF (xs ys:Array Value) (S:Addr) (h:Heap) (ad:List Addr) (c:Nat):Prop where
 acc:h.get? S=some { cls:=.type "list",dict:=none,data:=.seq (ad.map Value.ref).toArray c,slots:=#[] }
 len:ad.length=ys.size
 tup:∀ (j:Nat) (a:Addr),ad[j]?=some a→∃ x y,xs[j]?=some x∧ys[j]?=some y∧IsPair h a x y
 ne:∀ a∈ad,a≠S
 nd:ad.Nodup
end
end ST
namespace ST
open PySem
section
variable {prog:Program} {w:World} {A:Around} {E:Value→Shared→Prop} {s:Shared}
end
section
variable {prog:Program} {w:World} {A:Around} {R:Result→Shared→Prop} {s:Shared}
end
section
variable {prog:Program} {w:World} {A:Around} {E:Value→Shared→Prop} {s:Shared}
end
end ST
namespace L2
open PySem PySem.Spec PyProof.Rows
theorem Bk {a b:Nat} (h:a < b∨b < a):@Ne Addr a b:=fun e=> by
 have e':a=b:=e
 omega
theorem tD:bootBuiltins "zip"=some (.type "zip"):=by decide+kernel
section
variable {P:Program} {w:World} {H:Hp} {h:Heap} {a:Addr} {o:HO}
end
section
variable {X:Cx} {H0:Hp} {O0:List Addr} {ps:PSt} {e f:Expr} {x y:U} {xs ys:List U} {pos pos' p p':Pos}
end
end L2
namespace L2
open PySem PySem.Spec PyProof.Rows
section
variable {X:Cx} {ns:List Int} {M:Int}
theorem nv {K:PySem.W.Frag} {H:Hp} {ws:List V} {its:List Value} (rv:aI ws its) (rs:Rps K H ws (ns.map U.int)) (i:Nat) (z:Value) (e:its.toArray[i]?=some z):∃ t,z=.int (ns.getD i 0) t:=by
 have hl:=rs.len
 rw [List.length_map] at hl
 have e4:its[i]?=some z:=by simpa using e
 have hi:i < its.length:=be e4
 have hw:i < ws.length:=by rw [rv.length]; exact hi
 have hb:i < ns.length:=by omega
 obtain ⟨u,e1,e2⟩:=rv.get (List.getElem?_eq_getElem hw)
 have e3:=rs.at_ i ws[i] (.int ns[i]) (List.getElem?_eq_getElem hw) (by rw [List.getElem?_map,List.getElem?_eq_getElem hb]; rfl)
 rw [e4] at e1
 cases e1
 generalize ws[i]=wi at *
 cases e3
 rw [List.getD_eq_getElem?_getD,List.getElem?_eq_getElem hb]
 obtain ⟨t,rfl⟩:=e2
 exact ⟨t,rfl⟩
theorem t8 (hc:X.calm=true) (hM:M∈ns∧∀ a∈ns,M≤a):dW X (.builtin "min") [.lst (ns.map U.int)] (.int M):=by
 intro pins s σ H vs us Q I r hq
 obtain ⟨O,d,rs,q⟩:=hq
 obtain ⟨v,rfl,h1⟩:=dq rs
 obtain ⟨p1,rfl,r1⟩:=dG r
 cases h1 with
 | @lst a ws _ hq hl hh=>
  cases r1
  obtain ⟨its,rv,pl,_⟩:=I.list (SqL.of (aE _ _ hq))
  have hlen:its.length=ns.length:=by rw [← rv.length,hl,List.length_map]
  have hat:=nv (ns:=ns) rv ⟨hl,hh⟩
  have hn:0 < ns.length:=List.length_pos_of_mem hM.1
  refine call_min_walk (wpAny_pyIter_list pl.isList ?_)
  have hal:a < s.heap.objs.size:=by obtain ⟨o,e,_⟩:=pl.isList; exact Heap.lt_size e
  refine ⟨s.heap.objs.size,_,_,_,_,_,_,rfl,Walks.list (A:=X.A.in1) (I.ok.hd hc) s.heap.objs.size a (Nat.ne_of_lt hal) its.toArray,⟨⟨_,Heap.get?_push_size _ rfl,rfl,rfl⟩,pl.isList.push _⟩,fun b hb=> ?_,by rw [List.size_toArray,hlen]; exact hn,CmpOf.ints_lt (fun i=> ns.getD i 0) hat,fun v h' tk hP hk=> ?_⟩
  ·show b < (s.heap.push _).objs.size
   rw [Heap.size_push]
   rcases List.mem_cons.mp hb with z | z
   ·rw [z]; exact Nat.lt_succ_self _
   ·rw [List.mem_singleton.mp z]; exact Nat.lt_succ_of_lt hal
  ·obtain ⟨t,rfl⟩:=hat _ _ hP
   obtain ⟨b1,b2⟩:=argBest_lt (fun i=> ns.getD i 0) (its.toArray.size - 1)
   have e:ns.getD (argBest (fun i j=> decide (ns.getD i 0 < ns.getD j 0)) (its.toArray.size - 1)) 0=M:=by
    rw [List.size_toArray,hlen] at b1 b2 ⊢
    generalize argBest (fun i j=> decide (ns.getD i 0 < ns.getD j 0)) (ns.length - 1)=g at *
    have hg:g < ns.length:=by omega
    obtain ⟨j,hj,ej⟩:=List.getElem_of_mem hM.1
    have k1:=b2 j (by omega)
    have k2:=hM.2 ns[g] (List.getElem_mem hg)
    simp only [List.getD_eq_getElem?_getD,List.getElem?_eq_getElem hg,List.getElem?_eq_getElem hj,Option.getD_some] at k1 ⊢
    omega
   rw [e]
   refine ⟨.int M,H,I.kept (t':=tk) fun b o e=> hk b o ?_ (Heap.get?_push_of_some _ e),⟨t,rfl⟩,q _ H (.refl H) (.int _)⟩
   intro z
   have:b=s.heap.objs.size:=by simpa using z
   exact absurd (Heap.lt_size e) (by rw [this]; exact Nat.lt_irrefl _)
end
end L2
namespace ST
open PySem PyProof.Rows
section
variable {prog:Program} {w:World} {A:Around} {E:Value→Shared→Prop} {s:Shared}
end
end ST
namespace L2
open PySem PySem.Spec PyProof.Rows
section
variable {X:Cx} {H0:Hp} {O0:List Addr} {ps:PSt} {a b c:Expr} {pos:Pos} {x y z:U} {p q:P2} {k m:Bool}
end
end L2
namespace L2
open PySem PySem.Spec PyProof.Rows
section
variable {X:Cx} {p q:P2} {l:List P2}
end
end L2
namespace L2
open PySem PySem.Spec PyProof.Rows
section
variable {X:Cx} {H0:Hp} {O0:List Addr} {ps:PSt} {e:Expr} {pts:List P2} {pos pos' p p':Pos}
end
end L2
namespace ST
open PySem
section
variable {prog:Program} {w:World} {A:Around} {R:Result→Shared→Prop} {I S:Addr} {fp wr:List Addr} {n:Nat} {P:Nat→Value→Prop} {St:Nat→Heap→Prop} {G:Heap→Prop} {bt:Nat→Nat→Bool}
end
section
variable {prog:Program} {w:World} {A:Around} {E:Value→Shared→Prop} {s:Shared}
end
section
variable {prog:Program} {w:World} {A:Around} {R:Result→Shared→Prop} {I S:Addr} {fp wr:List Addr} {n:Nat} {P:Nat→Value→Prop} {St:Nat→Heap→Prop} {G:Heap→Prop} {bt:Nat→Nat→Bool}
end
section
variable {prog:Program} {w:World} {A:Around} {E:Value→Shared→Prop} {s:Shared}
end
end ST
namespace ST
open PySem PyProof.Rows
section
variable {prog:Program} {w:World} {A:Around} {E:Value→Shared→Prop} {s:Shared}
end
end ST
namespace L2
open PySem PySem.Spec PyProof.Rows
section
variable {X:Cx} {pts:List P2} {M:P2}
end
end L2
namespace L2
open PySem PySem.Spec PyProof.Rows
section
variable {X:Cx} {H0:Hp} {O0:List Addr} {ps:PSt} {xs:List U} {x:Str} {pos pc p':Pos}
end
end L2
namespace L2
open PySem PySem.Spec PyProof.Rows
section
variable {X:Cx} {H0:Hp} {O0:List Addr} {ps:PSt} {x:Str} {pos:Pos} {a b:Expr} {i j:Int}
theorem mU (hg:Gl X x) (h:∃ t,X.mg x=some (.int i t)) (hd:(x==("__debug__":Str))=false:=by decide):Ev X H0 O0 ps (.Name x pos) (.int i):=by
 obtain ⟨t,hm⟩:=h
 exact PE.mono (qC (v:=.int i) hg hm ⟨t,rfl⟩ hd) fun _ H _ ⟨_,_,k⟩=> k _ H (.refl H) (.int i)
end
end L2
namespace L2
open PySem PySem.Spec PyProof.Rows
section
variable {X:Cx} {H0:Hp} {O0:List Addr} {ps:PSt} {e tg:Expr} {p pos:Pos} {xs:List U} {x:U}
end
end L2
namespace L2
open PySem PySem.Spec PyProof.Rows
theorem Rps.rep {K:PySem.W.Frag} {H:Hp} {vs:List V} {xs:List U} (r:Rps K H vs xs):∀ k,Rps K H (List.replicate k vs).flatten (List.replicate k xs).flatten
 | 0=> .nil
 | k+1=> by
  rw [List.replicate_succ,List.replicate_succ,List.flatten_cons,List.flatten_cons]
  exact r.snoc (r.rep k)
section
variable {X:Cx} {H0:Hp} {O0:List Addr} {ps:PSt} {a b:Expr} {pos:Pos} {xs:List U} {u:U} {k:Int}
theorem Ae (ha:Ev X H0 O0 ps a (.lst xs)) (hb:Ev X H0 O0 ps b (.int k)) (h1:-(2 ^ 63)≤k) (h2:k < 2 ^ 63) (hz:xs.length * k.toNat≤sizeLine):EvN X H0 O0 ps (.BinOp a .Mult b pos) (List.replicate k.toNat xs).flatten:=
 PE.mono (n4 zR ha hb) fun σ H Q ⟨O,R,q⟩=> two R (fun _ _ _ z=> z) (fun _ _ _ z=> z) fun v w H' s _ r1 r2=> by
  cases r2
  cases r1 with
  | lst hq hl hh=>
   refine ⟨_,_,_,rfl,rfl,aE _ _ hq,h1,h2,by rw [hl]; exact hz,fun p hp=> q p _ _ (s.trans (bg hp _)) (s.free hp) aD ?_⟩
   exact (Rps.rep ⟨hl,hh⟩ _).same (bn (bg hp _) hp)
theorem mQ {α:Type} (u:α):∀ k,(List.replicate k [u]).flatten=List.replicate k u
 | 0=> rfl
 | k+1=> by rw [List.replicate_succ,List.flatten_cons,mQ u k]; rfl
theorem y9 (ha:Ev X H0 O0 ps a (.lst [u])) (hb:Ev X H0 O0 ps b (.int k)) (h1:-(2 ^ 63)≤k) (h2:k < 2 ^ 63) (hz:k.toNat≤sizeLine):EvN X H0 O0 ps (.BinOp a .Mult b pos) (List.replicate k.toNat u):=by
 rw [← mQ]
 exact Ae ha hb h1 h2 (by simpa using hz)
end
end L2
namespace L2
open PySem PySem.Spec PySem.W PyProof.Rows
section
variable {X:Cx}
end
end L2
namespace L2
open PySem PySem.Spec PyProof.Rows
section
variable {X:Cx} {H0:Hp} {O0:List Addr} {E:XK} {ps ps':PSt} {D:PD} {s:Stmt} {ss body:List Stmt} {a b c e:Expr} {es:List Expr} {pos p:Pos} {u x y:U} {xs ys us:List U} {k:Bool}
 {CX:CXT} {n:Nat} {f C:Addr} {fd:FuncData} {pn:List Str} {spec:List U→Out→Prop} {nm:Str}
end
end L2
namespace L2
open PySem PySem.Spec PyProof.Rows
theorem Rs.free {K:PySem.W.Frag} {H0 H:Hp} {O0 O:List Addr} {ps:PSt} {σ:St} {xs:List U} (n:Nat) (h:ps[n]?=some (some (.own xs))) (R:Rs K H0 O0 ps σ H O):∃ O',(∀ b∈O',b∈O)∧Rs K H0 O0 (ps.set n (some (.val (.lst xs)))) σ H O':=by
 obtain ⟨v,hv,a,vs,rfl,ha,ha0,hH,rs⟩:=R.at_ n _ h
 have less:∀ b∈O.filter (fun b=> decide (b≠a)),b∈O:=fun b hb=> (List.mem_filter.mp hb).1
 have keep:∀ b∈O,b≠a→b∈O.filter (fun b=> decide (b≠a)):=fun b hb ne=> List.mem_filter.mpr ⟨hb,by simpa using ne⟩
 have sm:aC (hid H O) (hid H (O.filter (fun b=> decide (b≠a)))):=aR less
 have na:a ∉ O.filter (fun b=> decide (b≠a)):=fun z=> by have:=(List.mem_filter.mp z).2; simp at this
 refine ⟨O.filter (fun b=> decide (b≠a)),less,R.same,fun b hb=> keep b (R.old b hb) fun e=> ha0 (e ▸ hb),fun b hb=> R.new b (less b hb),fun b hb=> R.dom b (less b hb),by rw [R.len,List.length_set],fun i s hs=> ?_,fun i j ys zs b h1 h2 h3 h4=> ?_⟩
 ·rcases bF hs with ⟨rfl,e⟩ | ⟨ne,hs⟩
  ·cases e
   exact ⟨.ref a,hv,.lst (cE hH na) (rs.same sm).len (rs.same sm).at_⟩
  ·obtain ⟨w,hw,ok⟩:=R.at_ i s hs
   refine ⟨w,hw,?_⟩
   cases s with
   | val u=> exact Rp.same sm ok
   | own ys=>
    obtain ⟨b,ws,rfl,hb,hb0,hHb,rsb⟩:=ok
    refine ⟨b,ws,rfl,keep b hb fun e=> ?_,hb0,hHb,rsb.same sm⟩
    subst e
    exact ne (R.inj n i _ _ b h hs hv hw)
   | pin z u=> exact ⟨ok.1,Rp.same sm ok.2⟩
   | dsk w C b d kvs=>
    obtain ⟨dx,kv,e1,e2,e3,e4,e5,e6⟩:=ok
    exact ⟨dx,kv,e1,keep d e2 (fun e=> by rw [e,hH] at e5; cases e5),e3,e4,e5,e6.same sm⟩
 ·rcases bF h1 with ⟨_,e⟩ | ⟨_,h1⟩
  ·cases e
  ·rcases bF h2 with ⟨_,e⟩ | ⟨_,h2⟩
   ·cases e
   ·exact R.inj i j _ _ b h1 h2 h3 h4
section
variable {X:Cx} {H0:Hp} {O0:List Addr} {E:XK} {ps:PSt} {D:PD} {ss:List Stmt} {e:Expr} {xs:List U} {b:Bool}
theorem zc (n:Nat) (h:ps[n]?=some (some (.own xs))) (w:Ws X H0 O0 E ss D (ps.set n (some (.val (.lst xs))))):Ws X H0 O0 E ss D ps:=
 PSs.mono w fun D' σ H ⟨L,O,R⟩=> by
  obtain ⟨O',_,R'⟩:=R.free n h
  exact ⟨L,O',R'⟩
end
end L2
namespace L2
open PySem PySem.Spec PyProof.Rows
section
variable {X:Cx} {ns:List Int} {M:Int}
theorem oN (hc:X.calm=true) (hM:M∈ns∧∀ a∈ns,a≤M):dW X (.builtin "max") [.lst (ns.map U.int)] (.int M):=by
 intro pins s σ H vs us Q I r hq
 obtain ⟨O,d,rs,q⟩:=hq
 obtain ⟨v,rfl,h1⟩:=dq rs
 obtain ⟨p1,rfl,r1⟩:=dG r
 cases h1 with
 | @lst a ws _ hq hl hh=>
  cases r1
  obtain ⟨its,rv,pl,_⟩:=I.list (SqL.of (aE _ _ hq))
  have hlen:its.length=ns.length:=by rw [← rv.length,hl,List.length_map]
  have hat:=nv (ns:=ns) rv ⟨hl,hh⟩
  have hn:0 < ns.length:=List.length_pos_of_mem hM.1
  refine call_max_walk (wpAny_pyIter_list pl.isList ?_)
  have hal:a < s.heap.objs.size:=by obtain ⟨o,e,_⟩:=pl.isList; exact Heap.lt_size e
  refine ⟨s.heap.objs.size,_,_,_,_,_,_,rfl,Walks.list (A:=X.A.in1) (I.ok.hd hc) s.heap.objs.size a (Nat.ne_of_lt hal) its.toArray,⟨⟨_,Heap.get?_push_size _ rfl,rfl,rfl⟩,pl.isList.push _⟩,fun b hb=> ?_,by rw [List.size_toArray,hlen]; exact hn,CmpOf.ints_gt (fun i=> ns.getD i 0) hat,fun v h' tk hP hk=> ?_⟩
  ·show b < (s.heap.push _).objs.size
   rw [Heap.size_push]
   rcases List.mem_cons.mp hb with z | z
   ·rw [z]; exact Nat.lt_succ_self _
   ·rw [List.mem_singleton.mp z]; exact Nat.lt_succ_of_lt hal
  ·obtain ⟨t,rfl⟩:=hat _ _ hP
   obtain ⟨b1,b2⟩:=argBest_gt (fun i=> ns.getD i 0) (its.toArray.size - 1)
   have e:ns.getD (argBest (fun i j=> decide (ns.getD i 0 > ns.getD j 0)) (its.toArray.size - 1)) 0=M:=by
    rw [List.size_toArray,hlen] at b1 b2 ⊢
    generalize argBest (fun i j=> decide (ns.getD i 0 > ns.getD j 0)) (ns.length - 1)=g at *
    have hg:g < ns.length:=by omega
    obtain ⟨j,hj,ej⟩:=List.getElem_of_mem hM.1
    have k1:=b2 j (by omega)
    have k2:=hM.2 ns[g] (List.getElem_mem hg)
    simp only [List.getD_eq_getElem?_getD,List.getElem?_eq_getElem hg,List.getElem?_eq_getElem hj,Option.getD_some] at k1 ⊢
    omega
   rw [e]
   refine ⟨.int M,H,I.kept (t':=tk) fun b o e=> hk b o ?_ (Heap.get?_push_of_some _ e),⟨t,rfl⟩,q _ H (.refl H) (.int _)⟩
   intro z
   have:b=s.heap.objs.size:=by simpa using z
   exact absurd (Heap.lt_size e) (by rw [this]; exact Nat.lt_irrefl _)
end
end L2
namespace L2
open PySem PySem.Spec PyProof.Rows
section
variable {X:Cx} {H0:Hp} {O0:List Addr} {E:XK} {ps:PSt} {D:PD} {e:Expr} {pos:Pos} {xs ys:List U}
end
end L2
namespace L2
open PySem PySem.Spec PySem.W PyProof.Rows
section
variable {X:Cx}
end
section
variable {X:Cx} {H0:Hp} {O0:List Addr} {E:XK} {ps:PSt} {D:PD} {a e:Expr} {es:List Expr} {us:List U} {k:Bool} {n:Nat} {fd:FuncData} {pn:List Str} {spec:List U→Out→Prop}
end
end L2
namespace L2
open PySem PySem.Spec PyProof.Rows
section
variable {X:Cx} {H0:Hp} {O0:List Addr} {ps:PSt} {a b:Expr} {p:P2} {l:List P2}
end
end L2
namespace ST
open PySem PySem.W PySem.Calls PyProof.Rows
section
variable {prog:Program} {w:World} {A:Around} {E:Value→Shared→Prop} {s:Shared}
end
end ST
namespace L2
open PySem PySem.Spec PyProof.Rows
section
variable {X:Cx} {H0:Hp} {O0:List Addr} {ps:PSt} {e:Expr} {p pos:Pos} {a b:P2}
end
end L2
namespace ST
open PySem PySem.W PySem.Calls PyProof.Rows
section
variable {prog:Program} {w:World} {A:Around} {E:Value→Shared→Prop} {s:Shared}
end
end ST
namespace L2
open PySem PySem.Spec PyProof.Rows
section
variable {X:Cx} {H0:Hp} {O0:List Addr} {ps:PSt} {e:Expr} {pts:List P2} {pos p:Pos}
end
end L2
namespace L2
open PySem PySem.Spec PySem.W PyProof.Rows
section
variable {X:Cx}
end
section
variable {X:Cx} {H0:Hp} {O0:List Addr} {E:XK} {ps:PSt} {D:PD} {a e:Expr} {es:List Expr} {us:List U} {k:Bool} {n:Nat} {fd:FuncData} {pn:List Str} {spec:List U→Out→Prop}
end
end L2
namespace L2
open PySem PySem.Spec PySem.W PyProof.Rows
structure BI (K:PySem.W.Frag) (x qual:Str) (st:Stmt) (f:Addr) (fd:FuncData) (D:Addr):Prop where
 ex:∃ (oc:Value) (od:Option Addr) (kV doc pm:Value) (an:Option Addr) (cdv ct:Value) (osl:Array (Option Value)),
  fd=PySem.W.fnOf x qual (au st) (ao st) (af st) (.ref D) kV doc pm an cdv ct∧K.lookup f=some ⟨oc,od,.func fd,osl⟩∧PySem.W.codeIn K cdv qual=true
 kp:PySem.W.keepIn K (.ref f)=true
section
variable {P:Program} {w:World} {K:PySem.W.Frag} {mg:Str→Option Value} {base:Heap} {N pn:List Str} {qual nm:Str} {f D:Addr}
end
section
variable {X:Cx} {H0:Hp} {O0:List Addr} {ps:PSt} {e:Expr} {es:List Expr} {pos p:Pos} {u:U} {us:List U} {xs:List U} {CX:CXT} {n:Nat} {f:Addr} {fd:FuncData} {pn:List Str} {spec:List U→Out→Prop} {nm:Str} {j:Int}
end
end L2
namespace L2
open PySem PySem.Spec PyProof.Rows
section
variable {X:Cx} {H0:Hp} {O0:List Addr} {ps:PSt} {a b:Expr} {k:Int} {ns:List Int}
end
end L2
namespace L2
open PySem PySem.Spec PyProof.Rows
section
variable {X:Cx} {tg:Expr}
variable {H0:Hp} {O0:List Addr} {ps:PSt} {a b:Expr} {p pos:Pos}
end
section
variable {X:Cx} {H0:Hp} {O0:List Addr} {E:XK} {ps ps':PSt} {D:PD} {tg iter cond:Expr} {pos p:Pos} {xs:List U}
theorem oQ {elt:Expr} {scope:Scope} {cl:List (Str×Addr)} {spos py:Pos} {y:Str} {j:Nat} {is:List Nat} {g:TG} {f:PSt→U→PSt} {dom:U→Prop} (fs:List (Option U)) (own:Bool) (hc:X.calm=true) (hN:X.N.Nodup) (hj:X.N[j]?=some y) (hy:Loc X.env.scope y) (B:bO X scope cl is)
  (hi:EvI X H0 O0 ps tg iter xs) (hg:∀ C s H fp,PG (am X scope cl C s H fp) tg g) (gk:GOk g X.K is f dom) (hlen:fs.length=xs.length) (hz:xs.length≤sizeLine) (hdom:∀ x∈xs,dom x)
  (ht:∀ C s H fp (i:Nat) (x:U) (o:Option U),xs[i]?=some x→fs[i]?=some o→Tt (am X scope cl C s H fp) H0 O0 (f (cA is ps) x) cond o.isSome)
  (he:∀ C s H fp (i:Nat) (x y:U),xs[i]?=some x→fs[i]?=some (some y)→Ev (am X scope cl C s H fp) H0 O0 (f (cA is ps) x) elt y) (h:D.nx (ps.set j (some (if own then .own (fs.filterMap id) else .val (.lst (fs.filterMap id))))))
  (hs:∀ x,foldedSetIterable iter X.env x=pure x:=by intro _; rfl)
  (hsw:swapsWith (.ListComp elt [⟨tg,iter,[cond],0⟩] scope pos) (some (.Name y py)) spos.line X.env=pure true:=by rfl) (hf:X.fn y=true∨X.env.scope.names.lookup y=some .local:=by first | exact .inl rfl | exact .inr rfl | assumption):
  W1 X H0 O0 E (.Assign [.Name y py] (.ListComp elt [⟨tg,iter,[cond],0⟩] scope pos) spos) D ps:=by
 have hte:∀ C s H fp,PE (am X scope cl C s H fp) elt fun σ H Q=> ∃ i x y,xs[i]?=some x∧fs[i]?=some (some y)∧∃ O',Rs X.K H0 O0 (f (cA is ps) x) σ H O'∧∀ v H',aC H H'→Rp X.K (hid H' O') v y→Q v H':=
  fun C s H fp pins s' σ H' Q I ⟨i,x,y,h1,h2,z⟩=> he C s H fp i x y h1 h2 pins s' σ H' Q I z
 have htt:∀ C s H fp,PT (am X scope cl C s H fp) cond fun σ H Q=> ∃ (i:Nat) (x:U) (o:Option U),xs[i]?=some x∧fs[i]?=some o∧∃ O',Rs X.K H0 O0 (f (cA is ps) x) σ H O'∧∀ H',aC H H'→Q o.isSome H':=
  fun C s H fp pins s' σ H' Q I ⟨i,x,o,h1,h2,z⟩=> ht C s H fp i x o h1 h2 pins s' σ H' Q I z
 refine PS.mono (nV hc hN hj hy B hi hg htt hte hs hsw hf) fun D' σ H ⟨L,O,R⟩=> ⟨O,R,fun J H1 s1 Y=> ?_⟩
 refine jK gk (R.go s1) Y hlen hz hdom (fun i x o σ H O' Q h1 h2 R' z=> ⟨i,x,o,h1,h2,O',R',z⟩) (fun i x y σ H O' Q h1 h2 R' z=> ⟨i,x,y,h1,h2,O',R',z⟩) fun a vs H' s n h' r=> ?_
 cases own with
 | true=> exact L.nx _ _ _ _ ((R.go s1).own s n h' r) h
 | false=>
  have na:a ∉ O:=fun z=> (R.go s1).dom a z n
  have r':=r.same (aR fun b hb=> List.mem_cons_of_mem a hb)
  exact L.nx _ _ _ _ (((R.go s1).go s).set (.lst (cE h' na) r'.len r'.at_)) h
end
end L2
namespace L2
open PySem PySem.Spec PyProof.Rows
section
variable {X:Cx} {H0:Hp} {O0:List Addr} {ps:PSt} {e:Expr} {ns:List Int} {pos p:Pos}
end
end L2
namespace L2
open PySem PySem.Spec PyProof.Rows
section
variable {X:Cx} {H0:Hp} {O0:List Addr} {E:XK} {ps:PSt} {D:PD} {c:Expr} {pos:Pos} {xs:List U}
end
end L2
namespace L2
open PySem PySem.Spec PyProof.Rows
end L2
namespace TS
open PySem PyProof.Rows
section
variable {prog:Program} {w:World} {A:Around} {E:Value→Shared→Prop} {s:Shared}
def gt (a:Array Keyed) (i:Nat):Keyed:=a.getD i (Value.none,Value.none)
end
section
variable {prog:Program} {w:World} {A:Around} {E:Value→Shared→Prop} {s:Shared}
end
section
variable {α:Type} {R:α→α→Bool} {A B out:List α} {ia ib:Nat}
structure MI (R:α→α→Bool) (A B out:List α) (ia ib:Nat):Prop where
 perm:out.Perm (A.take ia++B.take ib)
 srt:out.Pairwise fun x y=> R x y=true
 lA:∀ x∈out,∀ y∈A.drop ia,R x y=true
 lB:∀ x∈out,∀ y∈B.drop ib,R x y=true
structure MO (R:α→α→Bool) (A B:List α):Prop where
 tr:∀ x y z,R x y=true→R y z=true→R x z=true
 sA:A.Pairwise fun x y=> R x y=true
 sB:B.Pairwise fun x y=> R x y=true
 tot:∀ x∈A,∀ y∈B,R y x=false→R x y=true
end
section
variable {M:Model} {A:Around} {E:Value→Shared→Prop} {s:Shared} {σ:Type}
end
section
variable {prog:Program} {w:World} {A:Around} {E:Value→Shared→Prop} {s:Shared}
def oM (prog:Program) (w:World) (A:Around) (E:Value→Shared→Prop) (s:Shared) (κ:SortKind) (P:Keyed→Prop) (R:Keyed→Keyed→Bool):Prop:=
 ∀ x y st (Q:Option Bool→SortSt→Prop),P x→P y→kindOf st=κ→Q (some (R x y)) st→wpS (model prog w) A E s (lt' x y) Q st
variable {κ:SortKind} {P:Keyed→Prop} {R:Keyed→Keyed→Bool} (K:oM prog w A E s κ P R)
include K
end
section
variable {α:Type} {R:α→α→Bool} {A B:List α}
end
section
variable {prog:Program} {w:World} {A:Around} {E:Value→Shared→Prop} {s:Shared} {κ:SortKind} {P:Keyed→Prop} {R:Keyed→Keyed→Bool} (K:oM prog w A E s κ P R)
include K
end
end TS
namespace TS
open PySem PyProof.Rows
section
end
section
variable {prog:Program} {w:World} {A:Around} {E:Value→Shared→Prop} {s:Shared} {κ:SortKind} {P:Keyed→Prop} {R:Keyed→Keyed→Bool} (K:oM prog w A E s κ P R)
include K
end
end TS
namespace TS
open PySem PyProof.Rows
section
variable {prog:Program} {w:World} {A:Around} {E:Value→Shared→Prop} {s:Shared} {κ:SortKind} {P:Keyed→Prop} {R:Keyed→Keyed→Bool}
structure Ord (P:Keyed→Prop) (R:Keyed→Keyed→Bool) (l:List Keyed):Prop where
 tr:∀ x y z,R x y=true→R y z=true→R x z=true
 tot:∀ x∈l,∀ y∈l,x≠y→R x y=false→R y x=true
 nd:l.Nodup
 hp:∀ x∈l,P x
structure Stt (κ:SortKind) (l:List Keyed) (pd:Array (Nat×Nat×Nat)) (st:SortSt):Prop where
 kind:kindOf st=κ
 failed:failedOf st=none
 perm:(arrOf st).toList.Perm l
 pend:pendingOf st=pd
variable {l:List Keyed} {pd:Array (Nat×Nat×Nat)}
def Kept (a b:Array Keyed) (lo:Nat):Prop:=∀ j,j < lo→gt b j=gt a j
variable (K:oM prog w A E s κ P R)
include K
end
end TS
namespace TS
open PySem PyProof.Rows
section
variable {prog:Program} {w:World} {A:Around} {E:Value→Shared→Prop} {s:Shared} {κ:SortKind} {P:Keyed→Prop} {R:Keyed→Keyed→Bool} {l:List Keyed} {pd:Array (Nat×Nat×Nat)}
variable (K:oM prog w A E s κ P R)
include K
end
end TS
namespace TS
open PySem PyProof.Rows
section
variable {prog:Program} {w:World} {A:Around} {E:Value→Shared→Prop} {s:Shared} {κ:SortKind} {P:Keyed→Prop} {R:Keyed→Keyed→Bool} {l:List Keyed}
variable (K:oM prog w A E s κ P R)
include K
end
end TS
namespace TS
open PySem PyProof.Rows
section
variable {prog:Program} {w:World} {A:Around} {E:Value→Shared→Prop} {s:Shared} {κ:SortKind} {P:Keyed→Prop} {R:Keyed→Keyed→Bool} {l:List Keyed}
variable (K:oM prog w A E s κ P R)
include K
end
end TS
namespace ST
open PySem PySem.W PyProof.Rows
abbrev ky (p:(Int×Int)×Addr):Keyed:=(Value.ref p.2,Value.ref p.2)
open Classical in
noncomputable def RP (pb:PB) (x y:Keyed):Bool:=decide (∃ p∈pb,∃ q∈pb,x=ky p∧y=ky q∧ltP p.1 q.1=true)
section
variable {prog:Program} {w:World} {A:Around} {E:Value→Shared→Prop} {s:Shared}
end
end ST
namespace ST
open PySem PySem.W PyProof.Rows PySem.Calls
section
variable {prog:Program} {w:World} {A:Around} {E:Value→Shared→Prop} {s:Shared}
end
end ST
namespace L2
open PySem PySem.Spec PyProof.Rows
section
variable {X:Cx} {H0:Hp} {O0:List Addr} {ps:PSt} {e:Expr} {pts:List P2} {pos pos' p p':Pos}
end
end L2
namespace L2
open PySem PySem.Spec PyProof.Rows
section
variable {X:Cx} {tg:Expr}
variable {H0:Hp} {O0:List Addr} {ps:PSt} {a:Expr} {p pos:Pos}
end
end L2
namespace ST
open PySem PySem.W PySem.Calls PyProof.Rows
section
variable {prog:Program} {w:World} {A:Around} {E:Value→Shared→Prop} {s:Shared}
end
end ST
namespace L2
open PySem PySem.Spec PyProof.Rows
section
variable {X:Cx} {H0:Hp} {O0:List Addr} {ps:PSt} {e:Expr} {pts:List P2} {pos p:Pos}
end
end L2
namespace L2
open PySem PySem.Spec PyProof.Rows
section
variable {X:Cx} {H0:Hp} {O0:List Addr} {E:XK} {ps ps':PSt} {D:PD} {a b c e:Expr} {es:List Expr} {u:U} {xs ys us:List U}
 {n:Nat} {C:Addr} {fd:FuncData} {pn:List Str} {spec:List U→Out→Prop}
end
end L2
namespace L2
open PySem PySem.Spec PySem.W PyProof.Rows
section
variable {X:Cx} {H0:Hp} {O0:List Addr} {E:XK} {ps:PSt} {D:PD} {s:Stmt} {pos:Pos} {u:U} {xs:List U}
end
section
variable {P:Program} {w:World} {K:PySem.W.Frag} {mg:Str→Option Value} {base:Heap} {N pn:List Str} {qual nm:Str} {f:Addr}
end
section
variable {X:Cx} {H0:Hp} {O0:List Addr} {ps:PSt} {e:Expr} {xs:List U} {us:List U} {x nm:Str} {pc p' pos:Pos} {u:U}
end
end L2
namespace L2
open PySem PySem.Spec PySem.W PyProof.Rows
section
variable {X:Cx}
end
section
variable {X:Cx} {H0:Hp} {O0:List Addr} {E:XK} {ps:PSt} {D:PD} {e c:Expr} {es:List Expr} {us:List U} {n:Nat} {fd:FuncData} {pn:List Str} {spec:List U→Out→Prop} {AA rest:List Stmt} {nx:PSt→Prop} {ex:PSt→Addr→Prop}
end
end L2
namespace L2
open PySem PySem.Spec PySem.W PyProof.Rows
abbrev T' (l:List Nat):Str:=⟨l.toArray⟩
theorem sO (x:Str):x=T' x.cps.toList:=by cases x; simp [T']
theorem bi (l:List Nat):(T' l).length=l.length:=by simp [Str.length]
theorem gh (l m:List Nat):T' l++T' m=T' (l++m):=by
 show Str.mk _=Str.mk _
 simp
def Itx (x:Str):It:=⟨fun i _=> i < x.cps.size,fun i H v H'=> H'=H∧∃ c,x.cps[i]?=some c∧v=.str ⟨#[c]⟩,fun i _=> x.cps.size≤i⟩
theorem kN {P:Program} {w:World} {A:Around} (h:A.handled=none) (it:Addr) (x:Str) (t:Tok):Walks P w A it [it] [it] x.cps.size (SignAt x) (fun i hp=> hp.IsStrIter it (strIterType x) x t i):=by
 unfold strIterType
 split
 ·exact Walks.strAscii h it x t
 ·exact Walks.strWide h it x t
theorem t7 {P:Program} {w:World} {K:PySem.W.Frag} {tg:Expr} (it:Addr) (x:Str) (t:Tok):vE P w K tg (Itx x) [it] it (fun i h=> i≤x.cps.size∧h.IsStrIter it (strIterType x) x t i) where
 mem:=by simp
 obj:=fun i h st b hb=> by
  have e:b=it:=by simpa using hb
  subst e
  obtain ⟨_,o,e,c,d⟩:=st
  exact ⟨o,e,fun v z=> by rw [d] at z; cases z⟩
 keep:=fun i h h' st k=> ⟨st.1,by obtain ⟨o,e,c,d⟩:=st.2; exact ⟨o,k it (by simp) o e,c,d⟩⟩
 item:=by
  intro X hP hw hK hc i pins s σ H E I hf st hg
  subst hP hw hK
  obtain ⟨f0,f1,f2,f3,f4,f5⟩:=hf it (by simp)
  have W:=kN (P:=X.prog) (w:=X.w) (I.ok.hd hc) it x t
  refine W.item i s _ _ hg st.2 fun v h' tk hv st' kk=> ?_
  obtain ⟨c,u,hcc,rfl⟩:=hv
  have I1:Inv X pins σ H { s with heap:=h',toks:=tk }:=I.turned (fun b o hb e=> kk b o (by simpa using hb) e) f0 f1 f3 f4 f5
  obtain ⟨o,e,c',d⟩:=id st'
  exact ⟨_,rfl,uT (s:={ s with heap:=h',toks:=tk }) (n:=strIterType x) e c' d (by unfold strIterType; split <;> decide) ⟨.str ⟨#[c]⟩,H,I1,⟨u,rfl⟩,⟨rfl,c,hcc,rfl⟩,⟨hg,st'⟩,fun b hb=> (hf b hb).1⟩⟩
 done:=by
  intro X hP hw hK hc i pins s σ H E I hf st hg
  subst hP hw hK
  obtain ⟨f0,f1,f2,f3,f4,f5⟩:=hf it (by simp)
  have W:=kN (P:=X.prog) (w:=X.w) (I.ok.hd hc) it x t
  have hn:x.cps.size≤i:=hg
  have e:i=x.cps.size:=Nat.le_antisymm st.1 hn
  subst e
  exact W.done s _ _ st.2 fun h' tk kk=> ⟨rfl,I.turned (fun b o hb e=> kk b o (by simpa using hb) e) f0 f1 f3 f4 f5⟩
 self:=fun A i s Q E st h=> by
  obtain ⟨_,st⟩:=st
  unfold strIterType at st
  split at st
  ·exact wpAny_pyIter_striter_ascii st h
  ·exact wpAny_pyIter_striter_wide st h
section
variable {X:Cx} {tg:Expr}
theorem yt {l:Expr} {tl:TE} (hl:PE X l tl):PI X tg l (fun σ H R=> tl σ H fun x H1=> ∃ z,x=.str z∧R (Itx z) H1):=by
 intro pins s σ H R I h
 refine thn (hl pins s σ H _ I h) fun v s1 ⟨x,H1,I1,r1,q1⟩=> ?_
 obtain ⟨z,e,q⟩:=q1
 subst e
 obtain ⟨t,rfl⟩:=r1
 refine wpAny_pyIter_strU ?_
 refine ⟨s1.heap.objs.size,[s1.heap.objs.size],_,_,H1,rfl,I1.kept (t':=s1.toks) fun b o e=> Heap.get?_push_of_some _ e,t7 _ z t,⟨Nat.zero_le _,_,Heap.get?_push_size _ rfl,rfl,rfl⟩,fun b hb=> ?_,q⟩
 have e:b=s1.heap.objs.size:=by simpa using hb
 subst e
 exact I1.fpOk (Nat.le_refl _) (I1.hok.fresh (Nat.le_refl _))
end
abbrev sg (c:Nat):U:=.str ⟨#[c]⟩
section
variable {X:Cx} {H0:Hp} {O0:List Addr} {ps:PSt} {a b e tg:Expr} {es:List Expr} {pos p p2:Pos} {x y:Str} {i:Int} {lo hi:Option Expr} {l h:Option Int}
theorem ui (he:Ev X H0 O0 ps e (.str x)):EvI X H0 O0 ps tg e (x.cps.toList.map sg):=
 PI.mono (yt he) fun σ H Q ⟨O,R,q⟩=> ⟨O,R,fun v H' s r=> by
  cases r
  refine ⟨x,rfl,q _ H' s fun H2 s2=> ⟨fun i hi=> ?_,?_⟩⟩
  ·have hi':i < x.cps.size:=by simpa using hi
   refine ⟨hi',fun z H3 y=> ⟨y.1,sg x.cps[i],by simp [hi'],?_⟩⟩
   obtain ⟨_,c,hc,rfl⟩:=y
   rw [Array.getElem?_eq_getElem hi'] at hc
   cases hc
   exact .str _
  ·show x.cps.size≤_
   simp⟩
theorem gl (ha:Ev X H0 O0 ps a (.str x)) (hb:Ev X H0 O0 ps b (.str y)) (hz:x.length+y.length≤sizeLine):Ev X H0 O0 ps (.BinOp a .Add b pos) (.str (x++y)):=
 PE.mono (n4 ou ha hb) fun σ H Q ⟨O,R,k⟩=> two (x:=.str x) (y:=.str y) R (fun _ _ _ z=> z) (fun _ _ _ z=> z) fun v w H' s _ r1 r2=> by
  cases r1; cases r2; exact ⟨x,y,rfl,rfl,hz,k _ H' s (.str _)⟩
theorem Ah {c:Nat} (ha:Ev X H0 O0 ps a (.str x)) (hb:Ev X H0 O0 ps b (.int i)) (hz:x.length≤sizeLine) (hi:atI x.cps.toList i=some c) (hs:i0 b:=by intro _ _; rfl):Ev X H0 O0 ps (.Subscript a b pos) (sg c):=
 PE.mono (uG zG ha hb hs) fun σ H Q ⟨O,R,q⟩=> two (x:=.str x) (y:=.int i) R (fun _ _ _ z=> z) (fun _ _ _ z=> z) fun v w H' s _ r1 r2=> by
  cases r1; cases r2
  exact ⟨x,i,c,rfl,rfl,hz,hi,q _ H' s (.str _)⟩
theorem fF (hz:x.length≤sizeLine):dW X (.builtin "len") [.str x] (.int x.length):=cJ.mono lC fun vs H Q ⟨O,d,r,q⟩=> by
 obtain ⟨v,rfl,h⟩:=dq r
 cases h
 exact ⟨x,rfl,hz,q _ H (.refl H) (.int _)⟩
theorem yl:SlR X (fun x lo hi H Q=> ∃ z,x=.str z∧z.length≤sizeLine∧Q (.str (StrLaws.sliceText z lo hi)) H):=by
 intro pins s σ H x v vl vu lo hi sl Q I rx hs pl pu h
 obtain ⟨z,rfl,hz,q⟩:=h
 have hle:=Txt.slice_le z lo hi
 obtain ⟨t,rfl⟩:=rx
 refine ⟨"str",_,slot_str_getitem.lookup,rfl,?_⟩
 have fin:∀ (l u:Option (Int×Tok)),l.map (·.1)=lo→u.map (·.1)=hi→s.heap.IsSlice sl l u none→wpAny (model X.prog X.w) X.A (getItem (.str z t) (.ref sl)) (EP X pins σ Q) X.xe s:=fun l u e1 e2 hsl=> by
  refine wpAny_getItem_str_slice hsl (by decide) ?_
  unfold sliceMade slicePicked
  rw [e1,e2]
  unfold StrLaws.sliceText at q
  split at q
  ·rename_i hc
   rw [if_pos (by exact hc)]
   exact ⟨.str z,H,I,⟨t,rfl⟩,q⟩
  ·rename_i hc
   rw [if_neg (by exact hc)]
   unfold Txt.slice at hle
   rw [if_neg (by exact hc)] at hle
   exact ⟨Nat.le_trans hle hz,.str _,H,I.tok _,⟨_,rfl⟩,q⟩
 cases pl with
 | none=>
  cases pu with
  | none=> exact fin none none rfl rfl hs
  | int j tj=> exact fin none (some (j,tj)) rfl rfl hs
 | int i ti=>
  cases pu with
  | none=> exact fin (some (i,ti)) none rfl rfl hs
  | int j tj=> exact fin (some (i,ti)) (some (j,tj)) rfl rfl hs
theorem jX (he:Ev X H0 O0 ps e (.str x)) (hl:EvO X H0 O0 ps lo l) (hh:EvO X H0 O0 ps hi h) (hz:x.length≤sizeLine):Ev X H0 O0 ps (.Subscript e (.Slice lo hi none p2) pos) (.str (StrLaws.sliceText x l h)):=
 PE.mono (nX yl he hl hh) fun σ H Q ⟨O,R,q⟩=> ⟨O,R,fun v H1 s1 r1=> ⟨O,R.go s1,fun H2 s2=> ⟨O,R.go (s1.trans s2),fun H3 s3=> by
  cases r1
  exact ⟨x,rfl,hz,q _ H3 ((s1.trans s2).trans s3) (.str _)⟩⟩⟩⟩
theorem vU:MtR X "str.find" (fun v vs H Q=> ∃ x y,v=.str x∧vs=[.str y]∧Q (.int (Txt.find x y)) H):=by
 intro pins s σ H v vs u us Q I r1 r2 h
 obtain ⟨x,y,rfl,rfl,q⟩:=h
 obtain ⟨t,rfl⟩:=r1
 obtain ⟨w1,rfl,k⟩:=dG r2
 obtain ⟨t2,rfl⟩:=k
 exact SC.find ⟨.int _,H,I.tok _,⟨_,rfl⟩,q⟩
theorem sJ:MtR X "str.startswith" (fun v vs H Q=> ∃ x y,v=.str x∧vs=[.str y]∧Q (.bl (Txt.startswith x y)) H):=by
 intro pins s σ H v vs u us Q I r1 r2 h
 obtain ⟨x,y,rfl,rfl,q⟩:=h
 obtain ⟨t,rfl⟩:=r1
 obtain ⟨w1,rfl,k⟩:=dG r2
 obtain ⟨t2,rfl⟩:=k
 exact SC.startswith ⟨.bl _,H,I,rfl,q⟩
variable {apos cpos:Pos}
theorem sZ (ha:Ev X H0 O0 ps a (.str x)) (hb:Ev X H0 O0 ps e (.str y)) (hse:starEach [e] X.env=(false,eval e X.env)::starEach [] X.env)
  (hbase:attributeBase a "find" X.env (eval a X.env)=eval a X.env:=by rfl)
  (hfew:((backTo cpos (starEach [e] X.env)).all (fun x=> !x.1) && (backToKw cpos (keywordEach [] X.env)).all (fun x=> x.1.isSome) && decide ([e].length+([]:List Keyword).length+(if ([]:List Keyword).isEmpty then 0 else 1) < 30))=true:=by rfl)
  (hline:(apos.endLine==cpos.line)=true:=by rfl) (hplain:(backTo cpos (starEach [] X.env)).any (·.1)=false:=by rfl):
  Ev X H0 O0 ps (.Call (.Attribute a "find" apos) [e] [] cpos) (.int (Txt.find x y)):=
 PE.mono (nL PySem.F.plainAttrs_str PySem.F.slot_str_find PySem.F.type_str_find vU ha (c_ hb eg hse) hbase hfew hline hse hplain) fun σ H Q ⟨O,R,q⟩=> ⟨O,R,fun v H1 s1 r1=> by
  cases r1
  exact ⟨rfl,O,R.go s1,fun w H2 s2 r2=> by cases r2; exact ⟨x,y,rfl,rfl,q _ H2 (s1.trans s2) (.int _)⟩⟩⟩
theorem ue (ha:Ev X H0 O0 ps a (.str x)) (hb:Ev X H0 O0 ps e (.str y)) (hse:starEach [e] X.env=(false,eval e X.env)::starEach [] X.env)
  (hbase:attributeBase a "startswith" X.env (eval a X.env)=eval a X.env:=by rfl)
  (hfew:((backTo cpos (starEach [e] X.env)).all (fun x=> !x.1) && (backToKw cpos (keywordEach [] X.env)).all (fun x=> x.1.isSome) && decide ([e].length+([]:List Keyword).length+(if ([]:List Keyword).isEmpty then 0 else 1) < 30))=true:=by rfl)
  (hline:(apos.endLine==cpos.line)=true:=by rfl) (hplain:(backTo cpos (starEach [] X.env)).any (·.1)=false:=by rfl):
  Ev X H0 O0 ps (.Call (.Attribute a "startswith" apos) [e] [] cpos) (.bl (Txt.startswith x y)):=
 PE.mono (nL PySem.F.plainAttrs_str PySem.F.slot_str_startswith PySem.F.type_str_startswith sJ ha (c_ hb eg hse) hbase hfew hline hse hplain) fun σ H Q ⟨O,R,q⟩=> ⟨O,R,fun v H1 s1 r1=> by
  cases r1
  exact ⟨rfl,O,R.go s1,fun w H2 s2 r2=> by cases r2; exact ⟨x,y,rfl,rfl,q _ H2 (s1.trans s2) (.bl _)⟩⟩⟩
theorem oW {n:Int} (h:PySem.intText? x=some n) (hz:x.length≤640):dW X (.type "int") [.str x] (.int n):=by
 intro pins s σ H vs us Q I r hq
 obtain ⟨O,d,rs,q⟩:=hq
 obtain ⟨v,rfl,h1⟩:=dq rs
 cases h1
 obtain ⟨u,rfl,⟨t,rfl⟩⟩:=dG r
 exact KIN.call_text h hz ⟨.int n,H,I.tok _,⟨_,rfl⟩,q _ H (.refl H) (.int _)⟩
theorem lG (h:i.natAbs.log2 < 1920):dW X (.type "str") [.int i] (.str (Str.ofString (toString i))):=cJ.mono kT fun vs H Q ⟨O,d,r,q⟩=> by
 obtain ⟨v,rfl,k⟩:=dq r
 cases k
 exact ⟨i,rfl,h,q _ H (.refl H) (.str _)⟩
theorem AF:OpS X (compareOp .In) (.str x) (.str y) (.bl (!(Builtin.Str.occurrences y x 0 y.length 1).isEmpty)):=by
 intro pins s σ H v w p q Q I r1 r2 h
 obtain ⟨k1,k2,k3⟩:=h
 cases k1; cases k2
 exact rN pins s σ H _ _ p q Q I r1 r2 ⟨x,y,rfl,rfl,k3⟩
theorem Ao {z v:Str} (hg:Gl X z) (h:∃ t,X.mg z=some (.str v t)) (hd:(z==("__debug__":Str))=false:=by decide):Ev X H0 O0 ps (.Name z pos) (.str v):=by
 obtain ⟨t,hm⟩:=h
 exact PE.mono (qC (v:=.str v) hg hm ⟨t,rfl⟩ hd) fun _ H _ ⟨_,_,k⟩=> k _ H (.refl H) (.str v)
end
theorem we (j n:Nat):Builtin.Str.strSliceIndices none (some (j:Int)) 1 n=Builtin.Str.strSliceIndices (some ((0:Nat):Int)) (some ((min j n:Nat):Int)) 1 n:=by
 have e1:¬ (j:Int) < 0:=by omega
 have e2:¬ ((min j n:Nat):Int) < 0:=by omega
 have e3:max 0 (min (j:Int) n)=max 0 (min ((min j n:Nat):Int) n):=by omega
 unfold Builtin.Str.strSliceIndices
 simp [e1,e2]
 rw [e3,show max 0 (min 0 (n:Int))=0 by omega]
theorem rS (i n:Nat):Builtin.Str.strSliceIndices (some (i:Int)) none 1 n=Builtin.Str.strSliceIndices (some ((min i n:Nat):Int)) (some (n:Int)) 1 n:=by
 have e1:¬ (i:Int) < 0:=by omega
 have e2:¬ ((min i n:Nat):Int) < 0:=by omega
 unfold Builtin.Str.strSliceIndices
 simp [e1,e2]
 congr 1 <;> omega
theorem u8 {x:Str} {l h:Option Int} {a b:Nat} (e:Builtin.Str.strSliceIndices l h 1 x.length=Builtin.Str.strSliceIndices (some (a:Int)) (some (b:Int)) 1 x.length) (h1:a≤b) (h2:b≤x.length):StrLaws.sliceText x l h=T' ((x.cps.toList.drop a).take (b - a)):=by
 have:=StrLaws.sliceText_nat x h1 h2
 unfold StrLaws.sliceText at this ⊢
 rw [e]
 exact this
theorem zh (l:List Nat) (j:Nat):StrLaws.sliceText (T' l) none (some (j:Int))=T' (l.take j):=by
 rw [u8 (a:=0) (b:=min j (T' l).length) (we j _) (Nat.zero_le _) (Nat.min_le_right _ _)]
 refine congrArg T' ?_
 rw [bi]
 show (l.drop 0).take _=_
 rw [List.drop_zero,Nat.sub_zero]
 by_cases h:j≤l.length
 ·rw [Nat.min_eq_left h]
 ·rw [Nat.min_eq_right (by omega),List.take_of_length_le (Nat.le_refl _),List.take_of_length_le (by omega)]
theorem jg (l:List Nat) (i:Nat):StrLaws.sliceText (T' l) (some (i:Int)) none=T' (l.drop i):=by
 rw [u8 (a:=min i (T' l).length) (b:=(T' l).length) (rS i _) (Nat.min_le_right _ _) (Nat.le_refl _)]
 refine congrArg T' ?_
 rw [bi]
 show (l.drop _).take _=_
 by_cases h:i≤l.length
 ·rw [Nat.min_eq_left h,List.take_of_length_le (by simp)]
 ·rw [Nat.min_eq_right (by omega),List.drop_eq_nil_of_le (Nat.le_refl _),List.drop_eq_nil_of_le (by omega)]
  simp
theorem zU (l:List Nat) (c i:Nat):Builtin.Str.subAt (T' l) ⟨#[c]⟩ i=decide (l[i]?=some c):=by
 unfold Builtin.Str.subAt
 rw [Bool.eq_iff_iff,beq_iff_eq,decide_eq_true_iff]
 show (l.toArray.extract i (i+1))=#[c]↔_
 constructor
 ·intro h
  have h2:=congrArg Array.toList h
  simp at h2
  cases e:l[i]? with
  | none=>
   have:l.length≤i:=List.getElem?_eq_none_iff.mp e
   rw [List.drop_eq_nil_of_le this] at h2
   simp at h2
  | some d=>
   obtain ⟨hi,hd⟩:=List.getElem?_eq_some_iff.mp e
   have hd2:l.drop i=d::l.drop (i+1):=by rw [List.drop_eq_getElem_cons hi,hd]
   rw [hd2,List.take_succ_cons,List.take_zero] at h2
   injection h2 with h2 _
   rw [h2]
 ·intro h
  obtain ⟨hi,hd⟩:=List.getElem?_eq_some_iff.mp h
  apply Array.toList_inj.mp
  simp
  rw [List.drop_eq_getElem_cons hi]
  simp [hd]
theorem xB (l:List Nat) (c:Nat):Txt.startswith (T' l) ⟨#[c]⟩=decide (l.head?=some c):=by
 unfold Txt.startswith
 rw [zU]
 cases l with
 | nil=> simp [Str.length]
 | cons d r=> simp [Str.length]
theorem at1 (l:List Nat) (c i:Nat):StrLaws.At (T' l) ⟨#[c]⟩ (T' l).length i↔l[i]?=some c:=by
 unfold StrLaws.At
 rw [zU,decide_eq_true_iff,bi]
 show i+1≤_∧_↔_
 exact ⟨fun h=> h.2,fun h=> ⟨(List.getElem?_eq_some_iff.mp h).1,h⟩⟩
theorem in1 (l:List Nat) (c:Nat):(!(Builtin.Str.occurrences (T' l) ⟨#[c]⟩ 0 (T' l).length 1).isEmpty)=decide (c∈l):=by
 rcases StrLaws.occ_head (T' l) ⟨#[c]⟩ 1 (Nat.le_refl _) with ⟨h1,h2⟩ | ⟨i,r,h1,h2,_⟩
 ·rw [h1]
  symm
  refine decide_eq_false fun h=> ?_
  obtain ⟨i,hi⟩:=List.mem_iff_getElem?.mp h
  exact h2 i ((at1 l c i).mpr hi)
 ·rw [h1]
  symm
  exact decide_eq_true (List.mem_of_getElem? ((at1 l c i).mp h2))
theorem x6 (l:List Nat) (c:Nat):(c ∉ l∧Txt.find (T' l) ⟨#[c]⟩=-1)∨∃ i:Nat,l[i]?=some c∧(∀ k,k < i→l[k]?≠some c)∧Txt.find (T' l) ⟨#[c]⟩=(i:Int):=by
 unfold Txt.find
 rcases StrLaws.occ_head (T' l) ⟨#[c]⟩ 1 (Nat.le_refl _) with ⟨h1,h2⟩ | ⟨i,r,h1,h2,h3⟩
 ·left
  rw [h1]
  refine ⟨fun h=> ?_,rfl⟩
  obtain ⟨i,hi⟩:=List.mem_iff_getElem?.mp h
  exact h2 i ((at1 l c i).mpr hi)
 ·right
  rw [h1]
  exact ⟨i,(at1 l c i).mp h2,fun k hk e=> h3 k hk ((at1 l c k).mpr e),rfl⟩
inductive Cst:Expr→U→Prop
 | str (x:Str) (j) (p:Pos):Cst (.Constant (.str x) j p) (.str x)
 | int (i:Int) (j) (p:Pos):Cst (.Constant (.int i) j p) (.int i)
 | bl (b:Bool) (j) (p:Pos):Cst (.Constant (.bool b) j p) (.bl b)
 | non (j) (p:Pos):Cst (.Constant .none j p) .non
inductive yP:List Expr→List U→Prop
 | nil:yP [] []
 | cons {e:Expr} {u:U} {es:List Expr} {us:List U}:Cst e u→yP es us→yP (e::es) (u::us)
structure EvD (X:Cx) (H0:Hp) (O0:List Addr) (ps:PSt) (e:Expr) (u:U):Prop where
 ev:Ev X H0 O0 ps e u
end L2
namespace L2
open PySem PySem.Spec PySem.W PyProof.Rows
theorem ix:∀ l:List (Str×Tok),aI ((l.map (·.1)).map V.str) (strValues l)
 | []=> .nil
 | (_,t)::r=> .cons ⟨t,rfl⟩ (ix r)
theorem jJ {K:PySem.W.Frag} {H:Hp} (l:List Str):Rps K H (l.map V.str) (l.map U.str):=by
 refine ⟨by simp,fun i v x h1 h2=> ?_⟩
 rw [List.getElem?_map] at h1 h2
 cases e:l[i]? with
 | none=> rw [e] at h1; cases h1
 | some z=> rw [e] at h1 h2; cases h1; cases h2; exact .str _
theorem pN {K:PySem.W.Frag} {H:Hp}:∀ {l:List Str} {ws:List V} {its:List Value},aI ws its→Rps K H ws (l.map U.str)→∃ m:List (Str×Tok),its=strValues m∧m.map (·.1)=l
 | [],ws,its,rv,rs=> by
  have:=rs.nil_inv
  subst this
  cases rv
  exact ⟨[],rfl,rfl⟩
 | x::l,ws,its,rv,rs=> by
  obtain ⟨v,ws',rfl,h1,h2⟩:=rs.cons_inv
  cases rv with
  | cons r1 r2=>
   cases h1
   obtain ⟨t,rfl⟩:=r1
   obtain ⟨m,rfl,e⟩:=pN r2 h2
   exact ⟨(x,t)::m,rfl,by rw [List.map_cons,e]⟩
section
variable {X:Cx} {H0:Hp} {O0:List Addr} {ps:PSt} {a b e:Expr} {x y:Str}
theorem mI:MtR X "str.split" (fun v vs H Q=> ∃ x y,v=.str x∧vs=[.str y]∧(y.length==0)=false∧x.length+2≤sizeLine∧∀ p,H p=none→Q (.ref p) (upd H p (.lst ((Txt.split x y).map V.str)))):=by
 intro pins s σ H v vs u us Q I r1 r2 h
 obtain ⟨x,y,rfl,rfl,hy,hz,q⟩:=h
 obtain ⟨t,rfl⟩:=r1
 obtain ⟨w1,rfl,k⟩:=dG r2
 obtain ⟨t2,rfl⟩:=k
 have fr:=I.hok.fresh (Nat.le_refl s.heap.objs.size)
 have len:=split_le x y
 have fin:∀ (l:List (Str×Tok)) (tk:Nat),l.map (·.1)=Txt.split x y→EP X pins σ Q (.ref s.heap.objs.size) { s with heap:=s.heap.push { cls:=.type "list",data:=.seq (strValues l).toArray },toks:=tk }:=fun l tk e=>
  ⟨.ref s.heap.objs.size,_,I.laid (t':=tk) (fun b o z=> Heap.get?_push_of_some _ z) (Nat.le_refl _) (show bG X.prog X.w _ _ _ (.lst ((Txt.split x y).map V.str)) from ⟨by rw [List.length_map]; omega,strValues l,_,by rw [← e]; exact ix l,Heap.get?_push_size s.heap rfl⟩),rfl,q _ fr⟩
 by_cases h1:(decide (x.length < y.length) || decide (Builtin.Str.strKind x < Builtin.Str.strKind y))=true
 ·refine call_meets PySem.F.slot_str_split rfl PySem.F.entry_str_split (PySem.F.args_str_split_2 ..) (meets_str_split_cannot_occur x y t t2 h1) ?_
  exact fin [(x,t)] s.toks (if_pos h1).symm
 ·have h1':=Bool.eq_false_iff.mpr h1
  by_cases hf:(Builtin.Str.occurrences x y 0 x.length (x.length+1)).isEmpty=true
  ·refine call_meets PySem.F.slot_str_split rfl PySem.F.entry_str_split (PySem.F.args_str_split_2 ..) (meets_str_split_not_found x y t t2 h1' hy hf) ?_
   exact fin [(x,t)] s.toks ((if_neg h1).trans (if_pos hf)).symm
  ·have hf':=Bool.eq_false_iff.mpr hf
   have e:Txt.split x y=Builtin.Str.partsBetween x (Builtin.Str.occurrences x y 0 x.length (x.length+1)) y.length:=(if_neg h1).trans (if_neg hf)
   refine call_meets PySem.F.slot_str_split rfl PySem.F.entry_str_split (PySem.F.args_str_split_2 ..) (meets_str_split_sep x y t t2 h1' hy hf' (by omega) (by rw [← e]; omega)) ?_
   show wants _ _ _ _
   rw [← e,strsFrom_eq]
   exact fin (numbered s.toks (Txt.split x y)) _ (numbered_texts _ _)
variable {apos cpos:Pos}
theorem wM (ha:Ev X H0 O0 ps a (.str x)) (hb:Ev X H0 O0 ps e (.str y)) (hse:starEach [e] X.env=(false,eval e X.env)::starEach [] X.env) (hz:x.length+2≤sizeLine) (hy:(y.length==0)=false)
  (hbase:attributeBase a "split" X.env (eval a X.env)=eval a X.env:=by rfl)
  (hfew:((backTo cpos (starEach [e] X.env)).all (fun x=> !x.1) && (backToKw cpos (keywordEach [] X.env)).all (fun x=> x.1.isSome) && decide ([e].length+([]:List Keyword).length+(if ([]:List Keyword).isEmpty then 0 else 1) < 30))=true:=by rfl)
  (hline:(apos.endLine==cpos.line)=true:=by rfl) (hplain:(backTo cpos (starEach [] X.env)).any (·.1)=false:=by rfl):
  EvN X H0 O0 ps (.Call (.Attribute a "split" apos) [e] [] cpos) ((Txt.split x y).map U.str):=
 PE.mono (nL PySem.F.plainAttrs_str PySem.F.slot_str_split PySem.F.type_str_split mI ha (c_ hb eg hse) hbase hfew hline hse hplain) fun σ H Q ⟨O,R,q⟩=> ⟨O,R,fun v H1 s1 r1=> by
  cases r1
  exact ⟨rfl,O,R.go s1,fun w H2 s2 r2=> by
   cases r2
   exact ⟨x,y,rfl,rfl,hy,hz,fun p hp=> q p _ _ ((s1.trans s2).trans (bg hp _)) ((s1.trans s2).free hp) aD (jJ _)⟩⟩⟩
theorem wg:MtR X "str.join" (fun v vs H Q=> ∃ x c ws l,v=.str x∧vs=[.ref c]∧SqL X.K H c ws∧Rps X.K H ws (l.map U.str)∧JoinOk x l=true∧Q (.str (Txt.join x l)) H):=by
 intro pins s σ H v vs u us Q I r1 r2 h
 obtain ⟨x,c,ws,l,rfl,rfl,hq,rs,hj,q⟩:=h
 obtain ⟨t,rfl⟩:=r1
 obtain ⟨w1,rfl,k⟩:=dG r2
 cases k
 obtain ⟨its,ri,pl,hz⟩:=I.list hq
 obtain ⟨m,rfl,e⟩:=pN ri rs
 exact SC.join pl.isList e hj fun t' k=> ⟨.str _,H,I.tok _,⟨_,rfl⟩,q⟩
theorem zt {l:List Str} (ha:Ev X H0 O0 ps a (.str x)) (hb:Ev X H0 O0 ps e (.lst (l.map U.str))) (hse:starEach [e] X.env=(false,eval e X.env)::starEach [] X.env) (hj:JoinOk x l=true)
  (hbase:attributeBase a "join" X.env (eval a X.env)=eval a X.env:=by rfl)
  (hfew:((backTo cpos (starEach [e] X.env)).all (fun x=> !x.1) && (backToKw cpos (keywordEach [] X.env)).all (fun x=> x.1.isSome) && decide ([e].length+([]:List Keyword).length+(if ([]:List Keyword).isEmpty then 0 else 1) < 30))=true:=by rfl)
  (hline:(apos.endLine==cpos.line)=true:=by rfl) (hplain:(backTo cpos (starEach [] X.env)).any (·.1)=false:=by rfl):
  Ev X H0 O0 ps (.Call (.Attribute a "join" apos) [e] [] cpos) (.str (Txt.join x l)):=
 PE.mono (nL PySem.F.plainAttrs_str PySem.F.slot_str_join PySem.F.type_str_join wg ha (c_ hb eg hse) hbase hfew hline hse hplain) fun σ H Q ⟨O,R,q⟩=> ⟨O,R,fun v H1 s1 r1=> by
  cases r1
  exact ⟨rfl,O,R.go s1,fun w H2 s2 r2=> by
   cases r2 with
   | @lst c ws _ hq hl hh=> exact ⟨x,c,ws,l,rfl,rfl,SqL.of (aE _ _ hq),Rps.same aE ⟨hl,hh⟩,hj,q _ H2 (s1.trans s2) (.str _)⟩⟩⟩
end
def spl (c:Nat):List Nat→List (List Nat)
 | []=> [[]]
 | a::l=> if a=c then []::spl c l else (a::(spl c l).headD [])::(spl c l).drop 1
theorem yb (c:Nat) (l:List Nat):∃ p r,spl c l=p::r:=by
 cases l with
 | nil=> exact ⟨_,_,rfl⟩
 | cons a l=> unfold spl; split <;> exact ⟨_,_,rfl⟩
theorem gQ {c:Nat}:∀ {p:List Nat},c ∉ p→spl c p=[p]
 | [],_=> rfl
 | a::p,h=> by
  have h1:a≠c:=fun e=> h (by rw [e]; exact List.mem_cons_self)
  unfold spl
  rw [if_neg h1,gQ fun z=> h (List.mem_cons_of_mem _ z)]
  rfl
theorem i5 {c:Nat} (l:List Nat):∀ {p:List Nat},c ∉ p→spl c (p++c::l)=p::spl c l
 | [],_=> by show spl c (c::l)=_; rw [spl,if_pos rfl]
 | a::p,h=> by
  have h1:a≠c:=fun e=> h (by rw [e]; exact List.mem_cons_self)
  show spl c (a::(p++c::l))=_
  rw [spl,if_neg h1,i5 l fun z=> h (List.mem_cons_of_mem _ z)]
  rfl
theorem mV (c:Nat):∀ (ts:List Str) (l:List Nat),ts≠[]→(∀ t∈ts,c ∉ t.cps.toList)→Str.join ⟨#[c]⟩ ts=T' l→ts=(spl c l).map T'
 | [],l,h,_,_=> absurd rfl h
 | [t],l,_,hf,e=> by
  have e1:t=T' l:=e
  have e2:=hf t List.mem_cons_self
  rw [e1] at e2 ⊢
  rw [gQ (by simpa using e2)]
  rfl
 | t::t2::ts,l,_,hf,e=> by
  have e1:t++⟨#[c]⟩++Str.join ⟨#[c]⟩ (t2::ts)=T' l:=e
  generalize hm:Str.join ⟨#[c]⟩ (t2::ts)=m at e1
  have ih:=mV c (t2::ts) m.cps.toList (by simp) (fun z hz=> hf z (List.mem_cons_of_mem _ hz)) (hm.trans (sO m))
  have e2:l=t.cps.toList++c::m.cps.toList:=by
   have:=congrArg (fun x:Str=> x.cps.toList) e1
   have h3:(t++⟨#[c]⟩++m).cps.toList=t.cps.toList++[c]++m.cps.toList:=by
    show (t.cps++#[c]++m.cps).toList=_
    simp
   rw [h3] at this
   have h4:(T' l).cps.toList=l:=by simp
   rw [h4] at this
   rw [← this]; simp
  rw [e2,i5 _ (hf t List.mem_cons_self),List.map_cons,← ih,← sO]
theorem o5 (l:List Nat) (c:Nat):Txt.split (T' l) ⟨#[c]⟩=(spl c l).map T':=by
 refine mV c _ l ?_ (StrLaws.split_free (T' l) c) (StrLaws.join_split _ _)
 intro h
 have:=split_pos (T' l) ⟨#[c]⟩
 rw [h] at this
 simp at this
section
variable {X:Cx} {H0:Hp} {O0:List Addr} {E:XK} {ps:PSt} {a b e:Expr} {es:List Expr} {y:Str} {l:List Nat} {c:Nat} {apos cpos pos:Pos} {u:U} {C:Addr}
theorem nF (ha:Ev X H0 O0 ps a (.str (T' l))) (hb:Ev X H0 O0 ps e (.str y)) (hse:starEach [e] X.env=(false,eval e X.env)::starEach [] X.env) (hz:(T' l).length+2≤sizeLine) (hy:y=⟨#[c]⟩)
  (hbase:attributeBase a "split" X.env (eval a X.env)=eval a X.env:=by rfl)
  (hfew:((backTo cpos (starEach [e] X.env)).all (fun x=> !x.1) && (backToKw cpos (keywordEach [] X.env)).all (fun x=> x.1.isSome) && decide ([e].length+([]:List Keyword).length+(if ([]:List Keyword).isEmpty then 0 else 1) < 30))=true:=by rfl)
  (hline:(apos.endLine==cpos.line)=true:=by rfl) (hplain:(backTo cpos (starEach [] X.env)).any (·.1)=false:=by rfl):
  EvN X H0 O0 ps (.Call (.Attribute a "split" apos) [e] [] cpos) ((spl c l).map fun p=> U.str (T' p)):=by
 subst hy
 have:=wM ha hb hse hz rfl hbase hfew hline hplain
 rw [o5,List.map_map] at this
 exact this
end
end L2
namespace L2
open PySem PySem.Spec PySem.W PyProof.Rows
section
variable {M:Model} {A:Around} {E:Value→Shared→Prop} {s:Shared}
end
section
variable {P:Program} {w:World} {K:Frag} {mg:Str→Option Value} {base:Heap} {N:List Str} {qual:Str} {scope:Scope} {f:Addr} {cd:Value} {A:Around} {outer:List Env} {s:Shared} {H:Hp} {E:XK}
end
section
variable {X:Cx} {pins:List (Addr×Obj)} {σ:St} {H:Hp} {s:Shared} {E:XK}
end
section
variable {X:Cx} {H0:Hp} {O0:List Addr} {E:XK} {ps:PSt} {iter tg elt e:Expr} {es:List Expr} {pos p:Pos} {xs ys us:List U} {C0:Addr}
end
structure EvM (X:Cx) (H0:Hp) (O0:List Addr) (ps:PSt) (e:Expr) (us:List U):Prop where
 ev:EvN X H0 O0 ps e us
end L2
namespace L2
open PySem PySem.Spec PyProof.Rows
end L2
namespace L2
open PySem PySem.Spec PyProof.Rows
theorem lM {n:Nat} (h:n≤9000):n < sizeLine:=by rw [sizeLine_eq]; omega
end L2
namespace L2
open PySem PySem.Spec PyProof.Rows
structure Dl (K:PySem.W.Frag) (ps:PSt) (j:Nat) (xss:Nat→List U) (H0:Hp) (O0:List Addr) (σ:St) (H:Hp) (O:List Addr) (d:Addr) (as:Nat→Addr):Prop where
 rs:Rs K H0 O0 ps σ H O
 vals:∀ (i:Nat) (s:Sl),ps[i]?=some (some s)→∃ u,s=.val u
 non:ps[j]?=some none
 at_:σ[j]?=some (some (.ref d))
 dO:d∈O
 dO0:d ∉ O0
 aO:∀ r,r < 3→as r∈O∧as r ∉ O0
 da:∀ r,r < 3→as r≠d
 inj:∀ r t,r < 3→t < 3→as r=as t→r=t
 dh:H d=some (.lst [.ref (as 0),.ref (as 1),.ref (as 2)])
 ah:∀ r,r < 3→∃ vs,H (as r)=some (.lst vs)∧Rps K (hid H O) vs (xss r)
section
variable {K:PySem.W.Frag} {H0 H H':Hp} {O0 O:List Addr} {ps:PSt} {σ:St} {j:Nat} {xss:Nat→List U} {d:Addr} {as:Nat→Addr}
end
section
variable {X:Cx} {H0:Hp} {O0:List Addr} {E:XK} {ps:PSt} {D:PD} {iter e1 e2:Expr} {items:List U} {ss:List Stmt}
end
end L2
namespace ST2
open PySem PySem.SetTable ST
section
variable {prog:Program} {w:World} {A:Around} {E:Value→Shared→Prop} {s:Shared}
abbrev K4:=(Int×Int)×(Int×Int)
abbrev l1 (k:K4):List Int:=[k.1.1,k.1.2]
abbrev l2 (k:K4):List Int:=[k.2.1,k.2.2]
def TQ (prog:Program) (w:World) (h:Heap) (k:K4) (b:Addr):Prop:=∃ o items n a1 a2,h.get? b=some o∧o.cls=.type "tuple"∧o.data=.seq items n∧items.toList=[.ref a1,.ref a2]∧TK prog w h (l1 k) a1∧TK prog w h (l2 k) a2
end
end ST2
namespace ST2
open PySem PySem.SetTable ST
section
variable {prog:Program} {w:World} {A:Around} {E:Value→Shared→Prop} {s:Shared} {hZ:K4→Int}
def ents (hZ:K4→Int) (kb:List (K4×Addr)):List (Int×Value):=kb.map fun p=> (hZ p.1,.ref p.2)
structure SP (prog:Program) (w:World) (hZ:K4→Int) (h:Heap) (S:Addr) (kb:List (K4×Addr)):Prop where
 ex:∃ o es ep t,h.get? S=some o∧o.ExactSet∧o.data=.set es ep t∧es.toList=ents hZ kb∧TOk t (kb.map fun p=> hZ p.1)∧t.led=(!w.params.followText "set-order")∧t.plain=true∧t.tooFull=false∧t.mask < 8 * kb.length+8
 keys:∀ p∈kb,TQ prog w h p.1 p.2
 nd:(kb.map (·.1)).Nodup
end
section
variable {prog:Program} {w:World} {A:Around}
structure Got (kx:Nat→K4×Addr) (i:Nat) (kb:List (K4×Addr)):Prop where
 src:∀ p∈kb,∃ j,j < i∧p=kx j
 all:∀ j,j < i→(kx j).1∈kb.map (·.1)
 len:kb.length≤i
variable {R:Result→Shared→Prop} {I:Addr} {fp wr:List Addr} {G:Array GenState→Array GenState→Prop} {n:Nat} {P:Nat→Value→Prop} {St:Nat→Shared→Prop}
end
section
variable {prog:Program} {w:World} {A:Around} {E:Value→Shared→Prop} {s:Shared}
end
end ST2
namespace ST
open PySem PySem.W PySem.Calls PyProof.Rows
section
variable {prog:Program} {w:World} {A:Around} {E:Value→Shared→Prop} {s:Shared}
end
end ST
namespace L2
open PySem PySem.Spec PyProof.Rows
section
variable {X:Cx} {H0:Hp} {O0:List Addr} {ps:PSt} {e:Expr} {p pos:Pos} {a b:P2}
end
section
variable {X:Cx} {H0:Hp} {O0:List Addr} {ps:PSt} {e:Expr} {pts:List P2} {prs dd:List (P2×P2)} {pos pos' p p':Pos}
end
end L2
namespace HT
open PySem PySem.W PySem.Spec PyProof.Rows L2
section
variable {prog:Program} {w:World} {A:Around} {E:Value→Shared→Prop} {s:Shared}
end
end HT
namespace L2
open PySem PySem.Spec PyProof.Rows
section
variable {X:Cx} {H0:Hp} {O0:List Addr} {E:XK} {ps:PSt} {D:PD} {e:Expr} {lo hi:Option Expr} {l h:Option Int} {pos p2:Pos} {xs ys:List U}
end
end L2
namespace L2
open PySem PySem.Spec PySem.W PyProof.Rows
open PySem.Builtin.Str in
def BJ (x y z:Str):Str:=if ((occurrences x y 0 x.length 1).isEmpty || (y.length==0 && z.length==0))=true then x else glued z (partsBetween x (occurrences x y 0 x.length 1) y.length)
section
variable {prog:Program} {w:World} {A:Around} {E:Value→Shared→Prop} {s:Shared} {x y z:Str} {t u v k:Tok} {Q:Value→Shared→Prop}
end
section
variable {X:Cx} {H0:Hp} {O0:List Addr} {E:XK} {ps:PSt} {D:PD}
theorem rg {pins:List (Addr×Obj)} {s:Shared} {σ:St} {H:Hp} {i:Nat} {x:Str} {v:V} {pos:Pos} {Q:Value→Shared→Prop} {E':Value→Shared→Prop} (I:Inv X pins σ H s) (hN:X.N[i]?=some x) (hv:Vis X.env.scope x) (hd:(x==("__debug__":Str))=false) (hcd:(x==("__classdict__":Str))=false)
  (e:σ[i]?=some (some v)) (h:∀ u,aT v u→Q u s):wpAny (model X.prog X.w) X.A (eval (.Name x pos) X.env) Q E' s:=by
 obtain ⟨m,hn,hl⟩:=I.loc
 obtain ⟨u,r,l⟩:=hl i x v hN e hv
 have fin:=h u r
 rcases l with ⟨hk,hm⟩ | ⟨hk,c,hc,hcell⟩
 ·exact wpAny_Name (wpAny_loadName_local I.ok.kind hk hn hm fin) hd
 ·rcases hk with hk | hk
  ·exact wpAny_Name (wpAny_loadName_cell I.ok.kind hk hc hcell fin) hd
  ·exact wpAny_Name (wpAny_loadName_free I.ok.kind hk hc hcell fin hcd) hd
end
end L2
namespace ST3
open PySem PySem.W PySem.Calls PyProof.Rows ST
abbrev TR:=(Int×Int)×(Int×Int)×(Int×Int)
def ltT (a b:TR):Bool:=if a.1=b.1 then (if a.2.1=b.2.1 then ltP a.2.2 b.2.2 else ltP a.2.1 b.2.1) else ltP a.1 b.1
section
variable {prog:Program} {w:World} {A:Around} {E:Value→Shared→Prop} {s:Shared}
abbrev lq (p:Int×Int):List Int:=[p.1,p.2]
def TT (prog:Program) (w:World) (h:Heap) (t:TR) (b:Addr):Prop:=∃ o items n a1 a2 a3,h.get? b=some o∧o.cls=.type "tuple"∧o.data=.seq items n∧items.toList=[.ref a1,.ref a2,.ref a3]∧TK prog w h (lq t.1) a1∧TK prog w h (lq t.2.1) a2∧TK prog w h (lq t.2.2) a3
abbrev PT3:=List (TR×Addr)
end
section
variable {prog:Program} {w:World} {A:Around} {E:Value→Shared→Prop} {s:Shared}
abbrev ky3 (p:TR×Addr):Keyed:=(Value.ref p.2,Value.ref p.2)
open Classical in
noncomputable def RP3 (pb:PT3) (x y:Keyed):Bool:=decide (∃ p∈pb,∃ q∈pb,x=ky3 p∧y=ky3 q∧ltT p.1 q.1=true)
end
section
variable {prog:Program} {w:World} {A:Around} {E:Value→Shared→Prop} {s:Shared}
end
end ST3
namespace L2
open PySem PySem.Spec PyProof.Rows
def t0:ST3.TR:=((0,0),(0,0),(0,0))
section
variable {X:Cx} {H0:Hp} {O0:List Addr} {ps:PSt} {e:Expr} {trs:List ST3.TR} {pos p:Pos}
end
end L2
namespace ST6
open PySem PySem.W PySem.Calls PyProof.Rows ST
def ltL:List Int→List Int→Bool
 | a::r,b::t=> if a=b then ltL r t else decide (a < b)
 | [],_::_=> true
 | _,[]=> false
section
variable {prog:Program} {w:World} {A:Around} {E:Value→Shared→Prop} {s:Shared}
abbrev PT6:=List (List Int×Addr)
end
section
variable {prog:Program} {w:World} {A:Around} {E:Value→Shared→Prop} {s:Shared}
abbrev ky6 (p:List Int×Addr):Keyed:=(Value.ref p.2,Value.ref p.2)
open Classical in
noncomputable def RP6 (pb:PT6) (x y:Keyed):Bool:=decide (∃ p∈pb,∃ q∈pb,x=ky6 p∧y=ky6 q∧ltL p.1 q.1=true)
end
section
variable {prog:Program} {w:World} {A:Around} {E:Value→Shared→Prop} {s:Shared}
end
end ST6
namespace L2
open PySem PySem.Spec PyProof.Rows
section
variable {X:Cx} {H0:Hp} {O0:List Addr} {ps:PSt} {e:Expr} {trs:List (List Int)} {pos p:Pos}
end
end L2
namespace ST
open PySem
structure Z3A (z TI TO i1 i2 i3 l1 l2 l3:Addr):Prop where
 TIz:TI≠z
 TOz:TO≠z
 i1z:i1≠z
 i2z:i2≠z
 i3z:i3≠z
 TITO:TI≠TO
 TIi1:TI≠i1
 TIi2:TI≠i2
 TIi3:TI≠i3
 TOi1:TO≠i1
 TOi2:TO≠i2
 TOi3:TO≠i3
 i12:i1≠i2
 i13:i1≠i3
 i23:i2≠i3
 l1z:l1≠z
 l1TO:l1≠TO
 l1i1:l1≠i1
 l1i2:l1≠i2
 l1i3:l1≠i3
 l2z:l2≠z
 l2TO:l2≠TO
 l2i1:l2≠i1
 l2i2:l2≠i2
 l2i3:l2≠i3
 l3z:l3≠z
 l3TO:l3≠TO
 l3i1:l3≠i1
 l3i2:l3≠i2
 l3i3:l3≠i3
section
variable {prog:Program} {w:World} {A:Around} {E:Value→Shared→Prop} {s:Shared}
end
section
variable {prog:Program} {w:World} {A:Around} {E:Value→Shared→Prop} {s:Shared}
end
end ST
namespace L2
open PySem PySem.Spec PyProof.Rows
theorem wt {X:Cx} {pins:List (Addr×Obj)} {σ:List (Option V)} {H:Hp} {s:Shared} {h':Heap} {t':Nat} {fp:List Addr} {p:Addr} {xs:List V} (I:Inv X pins σ H s) (hf:∀ b∈fp,ii X pins H b)
  (k:∀ b o,b ∉ fp→s.heap.get? b=some o→h'.get? b=some o) (hp:s.heap.objs.size≤p) (new:bG X.prog X.w (upd H p (.tup xs)) h' p (.tup xs)):
  Inv X pins σ (upd H p (.tup xs)) { s with heap:=h',toks:=t' }:=by
 have fresh:H p=none:=I.hok.fresh hp
 have np:∀ b o,s.heap.get? b=some o→b≠p:=fun b o e z=> absurd (Nat.lt_of_lt_of_le (Heap.lt_size e) hp) (by rw [z]; exact Nat.lt_irrefl _)
 have nh:∀ b u,H b=some u→b≠p:=fun b u e z=> by rw [z,fresh] at e; cases e
 have nf:∀ b u,H b=some u→b ∉ fp:=fun b u e z=> by rw [(hf b z).1] at e; cases e
 refine I.step (g':=s.gens) (d':=s.drawn) (ch:=fp) (fun b hb=> ?_) (fun b o _ _ hc e _=> k b o hc e) (fun b o _ _ hc e _=> ⟨o.slots,k b o hc e⟩) (fun b o _ e n=> by rw [aF (np b o e)]; exact n)
  (fun b o hc e=> ⟨o,k b o hc e⟩) (fun b xs e=> by rw [aF (nh b _ e)]; exact e) (fun b o u e=> by rw [aF (nh b _ e)]; exact e) (fun b ps e=> ⟨#[],by rw [aF (nh b _ e),e]; simp⟩) (fun m hm=> ?_) (fun b u e=> ?_) I.bare
 ·obtain ⟨f0,f1,f2,f3,f4,f5⟩:=hf b hb
  exact ⟨f3,f1,f4,f5⟩
 ·obtain ⟨o,es,ep,ho,r⟩:=hm
  exact ⟨o,es,ep,k _ o (fun z=> (hf _ z).2.1 rfl) ho,r⟩
 ·by_cases hb:b=p
  ·subst hb; rw [aD] at e; cases e; exact new
  ·rw [aF hb] at e
   refine (I.hok b u e).stay (fun c v hc q=> k c v ?_ q) (fun c q=> by rw [aF (nh c _ q)]; exact q) fun c xs q=> by rw [aF (nh c _ q)]; exact q
   rcases hc with z | z
   ·rw [z]; exact nf b u e
   ·exact nf c _ z
theorem w4 {X:Cx} {pins:List (Addr×Obj)} {σ:List (Option V)} {H:Hp} {s:Shared} {h':Heap} {t':Nat} {fp:List Addr} (I:Inv X pins σ H s) (hf:∀ b∈fp,ii X pins H b)
  (k:∀ b o,b ∉ fp→s.heap.get? b=some o→h'.get? b=some o):Inv X pins σ H { s with heap:=h',toks:=t' }:=by
 have nf:∀ b u,H b=some u→b ∉ fp:=fun b u e z=> by rw [(hf b z).1] at e; cases e
 refine I.step (g':=s.gens) (d':=s.drawn) (ch:=fp) (fun b hb=> ?_) (fun b o _ _ hc e _=> k b o hc e) (fun b o _ _ hc e _=> ⟨o.slots,k b o hc e⟩) (fun _ _ _ _ n=> n)
  (fun b o hc e=> ⟨o,k b o hc e⟩) (fun _ _ e=> e) (fun _ _ _ e=> e) (fun b ps e=> ⟨#[],by rw [e]; simp⟩) (fun m hm=> ?_) (fun b u e=> ?_) I.bare
 ·obtain ⟨f0,f1,f2,f3,f4,f5⟩:=hf b hb
  exact ⟨f3,f1,f4,f5⟩
 ·obtain ⟨o,es,ep,ho,r⟩:=hm
  exact ⟨o,es,ep,k _ o (fun z=> (hf _ z).2.1 rfl) ho,r⟩
 ·refine (I.hok b u e).stay (fun c v hc q=> k c v ?_ q) (fun _ q=> q) fun _ _ q=> q
  rcases hc with z | z
  ·rw [z]; exact nf b u e
  ·exact nf c _ z
def Yz (K:PySem.W.Frag) (J:It) (G:Hp) (xs:List U):Prop:=
 ∀ H2,aC G H2→(∀ i,i < xs.length→J.go i H2∧∀ x H3,J.yld i H2 x H3→aC H2 H3∧∃ u,xs[i]?=some u∧∀ O2,(∀ a∈O2,H2 a≠none)→aC G (hid H2 O2)→Rp K (hid H3 O2) x u)∧J.stop xs.length H2
def EvZ (X:Cx) (H0:Hp) (O0:List Addr) (ps:PSt) (tg iter:Expr) (xs:List U):Prop:=
 PI X tg iter fun σ H R=> ∃ O,Rs X.K H0 O0 ps σ H O∧∀ J H',aC H H'→Yz X.K J (hid H' O) xs→R J H'
section
variable {X:Cx} {H0:Hp} {O0:List Addr} {E:XK} {ps:PSt} {D:PD} {body:List Stmt} {e f g tg iter:Expr} {es:List Expr} {p pos:Pos} {x y z:U} {xs ys zs us:List U}
end
end L2
namespace L2
open PySem PySem.Spec PyProof.Rows
abbrev Ent:=List Int×Addr×Value
def Sd (P:Program) (w:World) (d:Addr) (xs:List Ent) (h:Heap):Prop:=
 (d==sysModules)=false∧xs.length≤sizeLine∧∃ o es ep,h.get? d=some o∧o.ExactDict∧o.data=.dict es ep∧es.toList=xs.map (entryOfKey (tupleKind (intKind P w)))∧(xs.map (·.1)).Nodup
section
variable {X:Cx} {pins:List (Addr×Obj)} {σ:St} {H:Hp} {s:Shared} {a b:Addr} {k:List Int} {xs:List Ent} {A:Around} {E:Value→Shared→Prop}
end
section
variable {X:Cx} {o i e value:Expr} {pos pos' tpos:Pos} {td ty tv:TE}
end
structure Sn (P:Program) (w:World) (K:PySem.W.Frag) (ps:PSt) (j:Nat) (xs:List Ent) (H0:Hp) (O0:List Addr) (σ:St) (H:Hp) (O:List Addr) (d:Addr):Prop where
 rs:Rs K H0 O0 ps σ H O
 vals:∀ (i:Nat) (s:Sl),ps[i]?=some (some s)→∃ u,s=.val u
 non:ps[j]?=some none
 at_:σ[j]?=some (some (.ref d))
 dO:d∈O
 dO0:d ∉ O0
 dh:H d=some (.ext (Sd P w d xs))
 ky:∀ x∈xs,SqT K (hid H O) x.2.1 (x.1.map V.int)
section
variable {P:Program} {w:World} {K:PySem.W.Frag} {H0 H H':Hp} {O0 O:List Addr} {ps:PSt} {σ:St} {j:Nat} {xs:List Ent} {d:Addr}
end
section
variable {X:Cx} {H0:Hp} {O0:List Addr} {E:XK} {ps:PSt} {D:PD} {iter e t1:Expr} {items:List U} {ss b1 b2:List Stmt}
end
end L2
namespace ST6
open PySem PyProof.Rows ST
section
variable {prog:Program} {w:World} {A:Around} {E:Value→Shared→Prop} {s:Shared}
end
end ST6
namespace L2
open PySem PySem.Spec PyProof.Rows
end L2
namespace L2
open PySem PySem.Spec PyProof.Rows
section
variable {κ:Type} [DecidableEq κ]
def eL (kvs:List (κ×V)) (k:κ):Option V:=(kvs.find? fun kv=> decide (kv.1=k)).map (·.2)
def ig (kvs:List (κ×V)) (k:κ) (v:V):List (κ×V):=
 if (kvs.any fun kv=> decide (kv.1=k))=true then kvs.map (fun kv=> if kv.1=k then (kv.1,v) else kv) else kvs++[(k,v)]
theorem jP {p:κ×V} {r:List (κ×V)} {k:κ} (e:p.1=k):eL (p::r) k=some p.2:=by simp [eL,List.find?_cons,e]
theorem gC {p:κ×V} {r:List (κ×V)} {k:κ} (e:¬ p.1=k):eL (p::r) k=eL r k:=by simp [eL,List.find?_cons,e]
theorem mO (k:κ):∀ kvs:List (κ×V),(kvs.any fun kv=> decide (kv.1=k))=(eL kvs k).isSome
 | []=> rfl
 | p::r=> by
  rw [List.any_cons]
  by_cases e:p.1=k
  ·simp only [jP e,decide_eq_true e,Bool.true_or,Option.isSome_some]
  ·rw [gC e,decide_eq_false e,Bool.false_or]; exact mO k r
theorem iG (kvs:List (κ×V)) (k:κ) (v:V):(ig kvs k v).length≤kvs.length+1:=by
 unfold ig
 split
 ·rw [List.length_map]; omega
 ·rw [List.length_append,List.length_cons,List.length_nil]; omega
theorem fQ.isSome_eq {o:Option V} {u:Option Value} (r:fQ o u):o.isSome=u.isSome:=by
 cases o with
 | none=> cases u with
  | none=> rfl
  | some _=> exact (show False from r).elim
 | some _=> cases u with
  | none=> exact (show False from r).elim
  | some _=> rfl
theorem KV.val {kvs:List (κ×V)} {vs:List (κ×Value)} (r:KV kvs vs) (k:κ):fQ (eL kvs k) (valueAt vs k):=by
 unfold KV at r
 induction r with
 | nil=> exact True.intro
 | @cons p q ps qs h t ih=>
  obtain ⟨h1,h2⟩:=h
  by_cases e:p.1=k
  ·have e':q.1=k:=h1.symm.trans e
   have b:valueAt (q::qs) k=some q.2:=by simp [valueAt,List.find?_cons,e']
   rw [jP e,b]; exact h2
  ·have e':¬ q.1=k:=fun z=> e (h1.trans z)
   have b:valueAt (q::qs) k=valueAt qs k:=by simp [valueAt,List.find?_cons,e']
   rw [gC e,b]; exact ih
theorem KV.any {kvs:List (κ×V)} {vs:List (κ×Value)} (r:KV kvs vs) (k:κ):(kvs.any fun kv=> decide (kv.1=k))=vs.any fun kv=> decide (kv.1=k):=by
 unfold KV at r
 induction r with
 | nil=> rfl
 | cons h t ih=> rw [List.any_cons,List.any_cons,ih,h.1]
theorem KV.repl {kvs:List (κ×V)} {vs:List (κ×Value)} (r:KV kvs vs) (k:κ) {y:V} {u:Value} (ry:aT y u):
  KV (kvs.map fun kv=> if kv.1=k then (kv.1,y) else kv) (vs.map fun kv=> if kv.1=k then (kv.1,u) else kv):=by
 unfold KV at r ⊢
 induction r with
 | nil=> exact .nil
 | @cons p q ps qs h t ih=>
  rw [List.map_cons,List.map_cons]
  refine .cons ?_ ih
  obtain ⟨h1,h2⟩:=h
  by_cases e:p.1=k
  ·rw [if_pos e,if_pos (h1.symm.trans e)]; exact ⟨h1,ry⟩
  ·rw [if_neg e,if_neg (fun z=> e (h1.trans z))]; exact ⟨h1,h2⟩
theorem KV.put {kvs:List (κ×V)} {vs:List (κ×Value)} (r:KV kvs vs) (k:κ) {y:V} {u:Value} (ry:aT y u):KV (ig kvs k y) (stored vs k u):=by
 unfold ig stored
 rw [r.any k]
 by_cases e:(vs.any fun kv=> decide (kv.1=k))=true
 ·rw [if_pos e,if_pos e]; exact r.repl k ry
 ·rw [if_neg e,if_neg e]; exact Paired.snoc r ⟨rfl,ry⟩
theorem KV.length {kvs:List (κ×V)} {vs:List (κ×Value)} (r:KV kvs vs):kvs.length=vs.length:=Paired.length r
end
theorem qA {P:Program} {w:World} {k:Key} {u:Value} (r:aT (kV k) u):(ck P w).is k u=true:=by
 cases k with
 | inl i=> obtain ⟨t,e⟩:=(show ∃ t,u=Value.int i t from r); subst e; exact mR P w i t
 | inr x=> obtain ⟨t,e⟩:=(show ∃ t,u=Value.str x t from r); subst e; exact mG P w x t
theorem kf {P:Program} {w:World}:∀ {ks:List Key} {us:List Value},aI (ks.map kV) us→ItemsAre (ck P w) ks us
 | [],_,r=> by rw [List.map_nil] at r; cases r; exact .nil
 | k::ks,_,r=> by
  rw [List.map_cons] at r
  cases r with
  | cons h t=> exact .cons (qA h) (kf t)
abbrev KT (H:Hp):List (List Key×V)→List (List Key×Addr×Value)→Prop:=Paired fun p q=> p.1=q.1∧H q.2.1=some (.tup (p.1.map kV))∧aT p.2 q.2.2
theorem KT.val {H:Hp} {kvs:List (List Key×V)} {xs:List (List Key×Addr×Value)} (r:KT H kvs xs) (k:List Key):fQ (eL kvs k) ((atKey xs k).map (·.2)):=by
 induction r with
 | nil=> exact True.intro
 | @cons p q ps qs h t ih=>
  obtain ⟨h1,_,h2⟩:=h
  by_cases e:p.1=k
  ·have e':q.1=k:=h1.symm.trans e
   have b:atKey (q::qs) k=some q.2:=by simp [atKey,List.find?_cons,e']
   rw [jP e,b]; exact h2
  ·have e':¬ q.1=k:=fun z=> e (h1.trans z)
   have b:atKey (q::qs) k=atKey qs k:=by simp [atKey,List.find?_cons,e']
   rw [gC e,b]; exact ih
theorem KT.repl {H:Hp} {kvs:List (List Key×V)} {xs:List (List Key×Addr×Value)} (r:KT H kvs xs) (k:List Key) {y:V} {u:Value} (ry:aT y u):
  KT H (kvs.map fun kv=> if kv.1=k then (kv.1,y) else kv) (xs.map (putAt k u)):=by
 induction r with
 | nil=> exact .nil
 | @cons p q ps qs h t ih=>
  rw [List.map_cons,List.map_cons]
  refine .cons ?_ ih
  obtain ⟨h1,h2,h3⟩:=h
  unfold putAt
  by_cases e:p.1=k
  ·rw [if_pos e,if_pos (h1.symm.trans e)]; exact ⟨h1,h2,ry⟩
  ·rw [if_neg e,if_neg (fun z=> e (h1.trans z))]; exact ⟨h1,h2,h3⟩
theorem KT.put {H:Hp} {kvs:List (List Key×V)} {xs:List (List Key×Addr×Value)} (r:KT H kvs xs) (k:List Key) {b:Addr} {y:V} {u:Value} (hb:H b=some (.tup (k.map kV))) (ry:aT y u):
  KT H (ig kvs k y) (storedH xs k b u):=by
 have e:(kvs.any fun kv=> decide (kv.1=k))=(atKey xs k).isSome:=by
  rw [mO,(r.val k).isSome_eq,Option.isSome_map]
 unfold ig storedH
 rw [e]
 by_cases q:(atKey xs k).isSome=true
 ·rw [if_pos q,if_pos q]; exact r.repl k ry
 ·rw [if_neg q,if_neg q]; exact Paired.snoc r ⟨rfl,hb,ry⟩
theorem KT.keeps {H H':Hp} {kvs:List (List Key×V)} {xs:List (List Key×Addr×Value)} (r:KT H kvs xs) (ht:∀ b ys,H b=some (.tup ys)→H' b=some (.tup ys)):KT H' kvs xs:=
 Paired.mapP r fun _ _ z=> ⟨z.1,ht _ _ z.2.1,z.2.2⟩
section
variable {P:Program} {w:World} {H:Hp} {h:Heap} {a:Addr}
theorem xF {u:HO} (ok:HOk P w H h) (e:Rd H a u):bG P w H h a u:=e.ok ok
theorem pL {kvs:List (Key×V)} (ok:HOk P w H h) (e:Rd H a (.dK kvs)):kvs.length≤sizeLine∧(a==sysModules)=false∧∃ vs,KV kvs vs∧h.DictOf (ck P w) a vs:=
 show bG P w H h a (.dK kvs) from xF ok e
theorem z5 {kvs:List (Key×V)} (ok:HOk P w H h) (e:H a=some (.dK kvs)):kvs.length≤sizeLine∧(a==sysModules)=false∧∃ vs,KV kvs vs∧h.DictOf (ck P w) a vs:=pL ok (.inl e)
theorem lN {ks:List Key} (ok:HOk P w H h) (e:H a=some (.tup (ks.map kV))):(tupleKind (ck P w)).is h ks a:=by
 obtain ⟨_,its,r,o,h1,h2,n,h3⟩:=(show bG P w H h a (.tup (ks.map kV)) from ok a _ e)
 exact ⟨o,its.toArray,n,h1,h2,h3,by simpa using kf r⟩
theorem ql {kvs:List (List Key×V)} (ok:HOk P w H h) (e:Rd H a (.dT kvs)):kvs.length≤sizeLine∧(a==sysModules)=false∧
  ∃ xs,KT H kvs xs∧h.DictOfH (tupleKind (ck P w)) a xs:=by
 obtain ⟨z,y,xs,r,o,es,ep,h1,h2,h3,h4,h5⟩:=(show bG P w H h a (.dT kvs) from xF ok e)
 refine ⟨z,y,xs,r,o,es,ep,h1,h2,h3,h4,fun x hx=> ?_,h5⟩
 have all:∀ {l:List (List Key×V)} {m:List (List Key×Addr×Value)},KT H l m→∀ x∈m,(tupleKind (ck P w)).is h x.1 x.2.1:=by
  intro l m q
  induction q with
  | nil=> intro x hx; exact nomatch hx
  | @cons p q ps qs hq t ih=>
   intro x hx
   rcases List.mem_cons.mp hx with e | hx
   ·subst e
    exact lN ok (by rw [← hq.1]; exact hq.2.1)
   ·exact ih x hx
 exact all r x hx
theorem AE {kvs:List (List Key×V)} (ok:HOk P w H h) (e:H a=some (.dT kvs)):kvs.length≤sizeLine∧(a==sysModules)=false∧
  ∃ xs,KT H kvs xs∧h.DictOfH (tupleKind (ck P w)) a xs:=ql ok (.inl e)
end
def mf (H:Hp) (a:Addr) (y:V) (r:Option V):Prop:=
 (∃ kvs k,Rd H a (.dK kvs)∧y=kV k∧r=eL kvs k)∨∃ kvs k b,Rd H a (.dT kvs)∧y=.ref b∧H b=some (.tup (k.map kV))∧r=eL kvs k
def uj (H:Hp) (a:Addr) (y v:V) (H':Hp):Prop:=
 (∃ kvs k,H a=some (.dK kvs)∧y=kV k∧kvs.length < sizeLine∧H'=upd H a (.dK (ig kvs k v)))∨
 ∃ kvs k b,H a=some (.dT kvs)∧y=.ref b∧H b=some (.tup (k.map kV))∧kvs.length < sizeLine∧H'=upd H a (.dT (ig kvs k v))
theorem mf.k {H:Hp} {a:Addr} {kvs:List (Key×V)} {k:Key} (e:H a=some (.dK kvs)):mf H a (kV k) (eL kvs k):=.inl ⟨kvs,k,.inl e,rfl,rfl⟩
theorem uj.k {H:Hp} {a:Addr} {kvs:List (Key×V)} {k:Key} {v:V} (e:H a=some (.dK kvs)) (hl:kvs.length < sizeLine):uj H a (kV k) v (upd H a (.dK (ig kvs k v))):=.inl ⟨kvs,k,e,rfl,hl,rfl⟩
section
variable {X:Cx} {pins:List (Addr×Obj)} {σ:St} {H:Hp} {s:Shared} {a:Addr} {y v:V} {u r:Value} {o:Option V} {A:Around} {E:Value→Shared→Prop}
theorem Inv.big (I:Inv X pins σ H s):sysModules < s.heap.objs.size:=by
 have h:mainGlobals < s.heap.objs.size:=(I.mod.glob.keeps I.bk).lt
 exact Nat.lt_trans (by decide) h
theorem qU {Q:Value→Shared→Prop} (hu:A.units+1 < cLine) (I:Inv X pins σ H s) (g:mf H a y (some v)) (ry:aT y u) (h:∀ w' s',Inv X pins σ H s'→aT v w'→Q w' s'):
  wpAny (model X.prog X.w) A (getItem (.ref a) u) Q E s:=by
 rcases g with ⟨kvs,k,e,ey,l⟩ | ⟨kvs,k,b,e,ey,eb,l⟩
 ·subst ey
  obtain ⟨z,hd,vs,rel,dd⟩:=pL I.hok e
  obtain ⟨w',hw,rw'⟩:=fQ.some_of (v:=v) (o:=valueAt vs k) (by rw [l]; exact rel.val k)
  exact wpAny_getItem_of (qA ry) dd.mapOf hw (h w' _ (I.tok _) rw')
 ·subst ey
  cases (show u=Value.ref b from ry)
  obtain ⟨z,hd,xs,rel,dd⟩:=ql I.hok e
  obtain ⟨w',hw,rw'⟩:=fQ.some_of (v:=v) (o:=(atKey xs k).map (·.2)) (by rw [l]; exact rel.val k)
  obtain ⟨p,hp,hp2⟩:=Option.map_eq_some_iff.mp hw
  refine wpAny_getItem_heap (tupleKind_room_in1 hu) (lN I.hok eb) dd hp ?_
  rw [hp2]
  exact h w' _ (I.tok _) rw'
theorem wE {Q:Value→Shared→Prop} (hu:A.units+1 < cLine) (I:Inv X pins σ H s) (g:mf H a y o) (ry:aT y u) (h:∀ s',Inv X pins σ H s'→Q (.bool (!o.isSome)) s'):
  wpAny (model X.prog X.w) A (compareOp .NotIn u (.ref a)) Q E s:=by
 rcases g with ⟨kvs,k,e,ey,l⟩ | ⟨kvs,k,b,e,ey,eb,l⟩
 ·subst ey
  obtain ⟨z,hd,vs,rel,dd⟩:=pL I.hok e
  refine wpAny_notIn_of (qA ry) hd dd.mapOf ?_
  rw [← (rel.val k).isSome_eq,← l]
  exact h _ (I.tok _)
 ·subst ey
  cases (show u=Value.ref b from ry)
  obtain ⟨z,hd,xs,rel,dd⟩:=ql I.hok e
  refine wpAny_notIn_heap (tupleKind_room_in1 hu) (lN I.hok eb) hd dd ?_
  have q:=(rel.val k).isSome_eq
  rw [Option.isSome_map] at q
  rw [← q,← l]
  exact h _ (I.tok _)
theorem pD {h':Heap} {t':Nat} {ob:HO} (I:Inv X pins σ H s) (mu:Mut (H a)) (hs:Heap.SameBut a s.heap h') (he:∃ q,h'.get? a=some q) (new:bG X.prog X.w (upd H a ob) h' a ob):
  Inv X pins σ (upd H a ob) { s with heap:=h',toks:=t' }:=
 I.write (x:=a) (e:=a) mu (.inl rfl) (fun b q hb z=> (hs.2 b hb).trans z) he new
theorem y_ {P:Program} {w:World} {H':Hp} {h':Heap} {kvs:List (Key×V)} {vs:List (Key×Value)} (z:kvs.length≤sizeLine) (hd:(a==sysModules)=false) (rel:KV kvs vs) (dd:h'.DictOf (ck P w) a vs):
  bG P w H' h' a (.dK kvs):=⟨z,hd,vs,rel,dd⟩
theorem r0 {H':Hp} {Q:Unit→Shared→Prop} (hu:A.units+1 < cLine) (I:Inv X pins σ H s) (g:uj H a y v H') (ry:aT y u) (rv:aT v r) (h:∀ s',Inv X pins σ H' s'→Q () s'):
  wpAny (model X.prog X.w) A (setItem (.ref a) u r) Q E s:=by
 rcases g with ⟨kvs,k,e,ey,l,eH⟩ | ⟨kvs,k,b,e,ey,eb,l,eH⟩
 ·subst ey eH
  obtain ⟨z,hd,vs,rel,dd⟩:=z5 I.hok e
  have hz:vs.length≤sizeLine:=by rw [← rel.length]; exact z
  have hl:(ig kvs k v).length≤sizeLine:=by have:=iG kvs k v; omega
  refine wpAny_setItem_pairs (hsz:=hz) (qA ry) dd fun h' dd' hs=> h _ ?_
  have he:∃ q,h'.get? a=some q:=let ⟨q,_,_,hq,_⟩:=dd'; ⟨q,hq⟩
  exact pD I (by rw [e]; exact True.intro) hs he (y_ hl hd (rel.put k rv) dd')
 ·subst ey eH
  cases (show u=Value.ref b from ry)
  obtain ⟨z,hd,xs,rel,dd⟩:=AE I.hok e
  have hz:xs.length≤sizeLine:=by rw [← Paired.length rel]; exact z
  have hl:(ig kvs k v).length≤sizeLine:=by have:=iG kvs k v; omega
  refine wpAny_setItem_heap (hsz:=hz) (tupleKind_room_in1 hu) (lN I.hok eb) dd fun h' dd' hs=> h _ ?_
  obtain ⟨q,es,ep,hq,h2,h3,h4,_,h5⟩:=dd'
  refine pD I (by rw [e]; exact True.intro) hs ⟨q,hq⟩ ⟨hl,hd,_,(rel.put k eb rv).keeps fun c ys ec=> ?_,q,es,ep,hq,h2,h3,h4,h5⟩
  rw [aF (Aq ec e (fun z=> nomatch z))]
  exact ec
end
section
variable {X:Cx} {pins:List (Addr×Obj)} {σ:St} {H:Hp} {s:Shared} {a:Addr} {kvs:List (Key×V)} {k:Key} {u:Value} {A:Around} {E:Value→Shared→Prop}
end
def si (i:Expr):Prop:=∀ ov iv,subscripted i false ov iv=operate [ov,iv] (getItem ov iv)
theorem qJ {prog:Program} {w:World} {A:Around} {E:Value→Shared→Prop} {s:Shared} {env:Env} {value slice:Expr} {pos:Pos} {T id:String} {Q:Value→Shared→Prop}
  (hl:typeLookup (.type T) "__getitem__"=pure (some (.builtin id))) (hs:si slice)
  (h:wpAny (model prog w) A (eval value env) (fun o s₁=> wpAny (model prog w) A (eval slice env) (fun i s₂=> s₂.TypeIs o T∧wpAny (model prog w) A (getItem o i) Q E s₂) E s₁) E s):
  wpAny (model prog w) A (eval (.Subscript value slice pos) env) Q E s:=by
 refine Subscript_ (wpAny_mono h (fun o s₁ h₁=> wpAny_mono h₁ (fun i s₂ h₂=> ?_) fun _ _ x=> x) fun _ _ x=> x)
 obtain ⟨hT,h₂⟩:=h₂
 unfold subscriptTail
 refine wpAny_bind ?_
 rw [getitemInPython_of_ne hT.not_modules]
 refine wpAny_bind (wpAny_specialOf hT hl ?_)
 have fin:wpAny (model prog w) A (subscripted slice false o i) (fun r s₃=> wpAny (model prog w) A (letTemporaryGo value o r >>=fun _=> pure r) Q E s₃) E s₂:=by
  rw [hs o i]
  exact wpAny_operating (wpAny_mono h₂ (fun r s₃ h₃=> wpAny_bind (wpAny_letTemporaryGo (wpAny_pure h₃))) fun _ _ x=> x)
 first
  | exact wpAny_pure (wpAny_bind fin)
  | exact wpAny_bind (wpAny_pure (wpAny_bind fin))
  | exact wpAny_bind fin
theorem mX {X:Cx} {pins:List (Addr×Obj)} {σ:St} {H:Hp} {s:Shared} {a:Addr} {y:V} {o:Option V} (I:Inv X pins σ H s) (g:mf H a y o):s.TypeIs (.ref a) "dict":=by
 rcases g with ⟨kvs,k,e,_,_⟩ | ⟨kvs,k,b,e,_,_,_⟩
 ·obtain ⟨_,_,vs,_,dd⟩:=pL I.hok e
  exact dd.typeIs
 ·obtain ⟨_,_,xs,_,dd⟩:=ql I.hok e
  exact dd.typeIs
def z9 (td ty:TE):TE:=fun σ H Q=> td σ H fun x H1=> ty σ H1 fun y H2=> ∃ a v,x=.ref a∧mf H2 a y (some v)∧Q v H2
def xq (ty td:TE):TE:=fun σ H Q=> ty σ H fun y H1=> td σ H1 fun x H2=> ∃ a o,x=.ref a∧mf H2 a y o∧Q (.bl (!o.isSome)) H2
def Ap (td ty tv:TE):TS:=fun D σ H=> tv σ H fun v H1=> td σ H1 fun x H2=> ty σ H2 fun y H3=> ∃ a H4,x=.ref a∧uj H3 a y v H4∧D.nx σ H4
section
variable {X:Cx} {o i e value:Expr} {pos pos' tpos:Pos} {td ty tv:TE}
theorem xz (hu:X.A.units+1 < cLine) (ho:PE X o td) (hi:PE X i ty) (hs:si i):PE X (.Subscript o i pos) (z9 td ty):=by
 intro pins s σ H Q I h
 refine qJ PySem.F.slot_dict_getitem.lookup hs (thn (ho pins s σ H _ I h) fun u s1 ⟨x,H1,I1,rx,q1⟩=> thn (hi pins s1 σ H1 _ I1 q1) fun iv s2 ⟨y,H2,I2,ry,a,v,ex,g,q2⟩=> ?_)
 subst ex
 obtain rfl:u=Value.ref a:=rx
 exact ⟨mX I2 g,qU hu I2 g ry fun w' s3 I3 rw'=> ⟨v,H2,I3,rw',q2⟩⟩
theorem q_ (hu:X.A.units+1 < cLine) (hi:PE X i ty) (ho:PE X o td):PC X .NotIn i o (xq ty td):=by
 intro pins s σ H Q I h
 refine thn (hi pins s σ H _ I h) fun iv s1 ⟨y,H1,I1,ry,q1⟩=> thn (ho pins s1 σ H1 _ I1 q1) fun u s2 ⟨x,H2,I2,rx,a,ov,ex,g,q2⟩=> ?_
 subst ex
 obtain rfl:u=Value.ref a:=rx
 exact wE hu I2 g ry fun s3 I3=> ⟨.bl (!ov.isSome),H2,I3,rfl,q2⟩
theorem wG (hu:X.A.units+1 < cLine) (ho:PE X o td) (hi:PE X i ty) (hv:PE X value tv) (hs:swapsWith value (some (.Subscript o i pos')) pos.line X.env=pure false):
  PS X (.Assign [.Subscript o i pos'] value pos) (Ap td ty tv):=by
 intro pins s σ H D I h
 refine wpAny_Assign_Subscript (thn (hv pins s σ H _ I h) fun r s1 ⟨v,H1,I1,rv,q1⟩=> thn (ho pins s1 σ H1 _ I1 q1) fun u s2 ⟨x,H2,I2,rx,q2⟩=> thn (hi pins s2 σ H2 _ I2 q2) fun iv s3 ⟨y,H3,I3,ry,a,H4,ex,g,q3⟩=> ?_) hs
 subst ex
 obtain rfl:u=Value.ref a:=rx
 exact r0 hu I3 g ry rv fun s4 I4=> ⟨σ,H4,I4,q3⟩
end
theorem tR {P:Program} {w:World} {H:Hp} (h:Heap) (hb:sysModules < h.objs.size):bG P w H (h.push { cls:=.type "dict",data:=.dict #[] }) h.objs.size (.dK []):=
 ⟨Nat.zero_le _,beq_eq_false_iff_ne.mpr (Ne.symm (Nat.ne_of_lt hb)),[],.nil,Heap.DictOf.new h⟩
def yS:TE:=fun _ H Q=> ∀ p,H p=none→Q (.ref p) (upd H p (.dK []))
section
variable {X:Cx} {pos:Pos}
theorem t_:PE X (.Dict [] [] pos) yS:=fun pins s σ H Q I h=>
 wpAny_Dict_empty ⟨.ref s.heap.objs.size,_,I.laid (a:=s.heap.objs.size) (o:=.dK []) (t':=s.toks) (fun _ _ q=> Heap.get?_push_of_some _ q) (Nat.le_refl _) (tR s.heap I.big),rfl,h _ (I.hok.fresh (Nat.le_refl _))⟩
end
structure M1 (X:Cx) (o:Expr) (m:Str) (apos:Pos) (e:Expr) (cpos:Pos):Prop where
 base:attributeBase o m X.env (eval o X.env)=eval o X.env
 few:((backTo cpos (starEach [e] X.env)).all (fun x=> !x.1) && (backToKw cpos (keywordEach [] X.env)).all (fun x=> x.1.isSome)
  && decide (([e]:List Expr).length+([]:List Keyword).length+(if ([]:List Keyword).isEmpty then 0 else 1) < 30))=true
 line:(apos.endLine==cpos.line)=true
 trees:backTo cpos (starEach [e] X.env)=[(false,eval e X.env)]
structure M2 (X:Cx) (o:Expr) (m:Str) (apos:Pos) (e f:Expr) (cpos:Pos):Prop where
 base:attributeBase o m X.env (eval o X.env)=eval o X.env
 few:((backTo cpos (starEach [e,f] X.env)).all (fun x=> !x.1) && (backToKw cpos (keywordEach [] X.env)).all (fun x=> x.1.isSome)
  && decide (([e,f]:List Expr).length+([]:List Keyword).length+(if ([]:List Keyword).isEmpty then 0 else 1) < 30))=true
 line:(apos.endLine==cpos.line)=true
 trees:backTo cpos (starEach [e,f] X.env)=[(false,eval e X.env),(false,eval f X.env)]
section
variable {X:Cx} {pins:List (Addr×Obj)} {σ:St} {H:Hp} {s:Shared} {a:Addr} {y d:V} {u r:Value} {o:Option V} {A:Around} {E:Value→Shared→Prop}
end
section
variable {X:Cx} {o e f:Expr} {apos cpos:Pos} {td ty tx:TE}
end
section
variable {X:Cx} {pins:List (Addr×Obj)} {σ:St} {H:Hp} {s:Shared} {a:Addr} {kvs:List (Key×V)} {A:Around} {E:Value→Shared→Prop}
end
section
variable {X:Cx} {pins:List (Addr×Obj)} {σ:St} {H:Hp} {s:Shared} {a:Addr} {y:V} {u:Value} {A:Around} {E:Value→Shared→Prop}
end
end L2
namespace L2
open PySem PySem.Spec PyProof.Rows
def valU (kvs:List (Str×U)) (x:Str):Option U:=(kvs.find? fun kv=> decide (kv.1=x)).map (·.2)
def j7 (kvs:List (Str×U)) (x:Str) (u:U):List (Str×U):=
 if (kvs.any fun kv=> decide (kv.1=x))=true then kvs.map (fun kv=> if kv.1=x then (kv.1,u) else kv) else kvs++[(x,u)]
section
variable {K:PySem.W.Frag} {H H':Hp} {kv:List (Key×V)} {kvs:List (Str×U)} {k:Key} {v:V} {x:Str} {u:U}
theorem DkR.nil:DkR K H [] []:=⟨rfl,fun i k v x u h=> by simp at h⟩
theorem DkR.cons (e:k=.inr x) (r:Rp K H v u) (h:DkR K H kv kvs):DkR K H ((k,v)::kv) ((x,u)::kvs):=by
 refine ⟨by simp [h.len],fun i k' v' x' u' h1 h2=> ?_⟩
 cases i with
 | zero=> simp at h1 h2; obtain ⟨rfl,rfl⟩:=h1; obtain ⟨rfl,rfl⟩:=h2; exact ⟨e,r⟩
 | succ i=> exact h.at_ i k' v' x' u' (by simpa using h1) (by simpa using h2)
theorem DkR.uncons (h:DkR K H ((k,v)::kv) ((x,u)::kvs)):k=.inr x∧Rp K H v u∧DkR K H kv kvs:=
 ⟨(h.at_ 0 k v x u rfl rfl).1,(h.at_ 0 k v x u rfl rfl).2,by have:=h.len; simpa using this,fun i k' v' x' u' h1 h2=> h.at_ (i+1) k' v' x' u' (by simpa using h1) (by simpa using h2)⟩
theorem DkR.ind {p:List (Key×V)→List (Str×U)→Prop} (h0:p [] []) (h1:∀ v x u kv kvs,Rp K H v u→DkR K H kv kvs→p kv kvs→p ((.inr x,v)::kv) ((x,u)::kvs)):∀ {kv:List (Key×V)} {kvs:List (Str×U)},DkR K H kv kvs→p kv kvs
 | [],[],_=> h0
 | [],_::_,h=> by have:=h.len; simp at this
 | _::_,[],h=> by have:=h.len; simp at this
 | (k,v)::kv,(x,u)::kvs,h=> by
  obtain ⟨e,r,t⟩:=h.uncons
  subst e
  exact h1 v x u kv kvs r t (DkR.ind h0 h1 t)
theorem DkR.val (h:DkR K H kv kvs) (x:Str):(valU kvs x=none∧eL kv (.inr x)=none)∨∃ u v,valU kvs x=some u∧eL kv (.inr x)=some v∧Rp K H v u:=by
 refine DkR.ind (p:=fun kv kvs=> (valU kvs x=none∧eL kv (.inr x)=none)∨∃ u v,valU kvs x=some u∧eL kv (.inr x)=some v∧Rp K H v u) (.inl ⟨rfl,rfl⟩) (fun v y u kv kvs r _ ih=> ?_) h
 by_cases e:y=x
 ·subst e
  exact .inr ⟨u,v,by simp [valU],by simp [eL],r⟩
 ·have e':¬ (Sum.inr y:Key)=.inr x:=fun z=> e (by injection z)
  have a1:valU ((y,u)::kvs) x=valU kvs x:=by simp [valU,List.find?_cons,e]
  have a2:eL ((Sum.inr y,v)::kv) (Sum.inr x:Key)=eL kv (.inr x):=gC e'
  rw [a1,a2]; exact ih
theorem DkR.some (h:DkR K H kv kvs) {x:Str} {u:U} (e:valU kvs x=some u):∃ v,eL kv (.inr x)=some v∧Rp K H v u:=by
 rcases h.val x with ⟨z,_⟩ | ⟨u',v,h1,h2,h3⟩
 ·rw [z] at e; cases e
 ·rw [h1] at e; cases e; exact ⟨v,h2,h3⟩
theorem DkR.isSome (h:DkR K H kv kvs) (x:Str):(eL kv (.inr x)).isSome=(valU kvs x).isSome:=by
 rcases h.val x with ⟨z1,z2⟩ | ⟨u',v,h1,h2,h3⟩
 ·rw [z1,z2]; rfl
 ·rw [h1,h2]; rfl
theorem DkR.map (h:DkR K H kv kvs) (r:Rp K H v u):DkR K H (kv.map fun p=> if p.1=(.inr x:Key) then (p.1,v) else p) (kvs.map fun p=> if p.1=x then (p.1,u) else p):=by
 refine DkR.ind (p:=fun kv kvs=> DkR K H (kv.map fun p=> if p.1=(.inr x:Key) then (p.1,v) else p) (kvs.map fun p=> if p.1=x then (p.1,u) else p)) DkR.nil (fun w y z kv kvs rw' _ ih=> ?_) h
 rw [List.map_cons,List.map_cons]
 by_cases e:y=x
 ·subst e
  rw [if_pos rfl,if_pos rfl]
  exact .cons rfl r ih
 ·rw [if_neg fun z=> e (by injection z),if_neg e]
  exact .cons rfl rw' ih
theorem DkR.snoc (h:DkR K H kv kvs) (r:Rp K H v u):DkR K H (kv++[(.inr x,v)]) (kvs++[(x,u)]):=
 DkR.ind (p:=fun kv kvs=> DkR K H (kv++[(.inr x,v)]) (kvs++[(x,u)])) (DkR.cons rfl r DkR.nil) (fun w y z kv kvs rw' _ ih=> .cons rfl rw' ih) h
theorem DkR.any (h:DkR K H kv kvs) (x:Str):(kv.any fun p=> decide (p.1=(.inr x:Key)))=(kvs.any fun p=> decide (p.1=x)):=
 DkR.ind (p:=fun kv kvs=> (kv.any fun p=> decide (p.1=(.inr x:Key)))=(kvs.any fun p=> decide (p.1=x))) rfl (fun w y z kv kvs _ _ ih=> by
  rw [List.any_cons,List.any_cons,ih]
  congr 1
  by_cases e:y=x
  ·subst e; simp
  ·rw [decide_eq_false e,decide_eq_false fun z=> e (by injection z)]) h
theorem DkR.put (h:DkR K H kv kvs) (r:Rp K H v u) (x:Str):DkR K H (ig kv (.inr x) v) (j7 kvs x u):=by
 unfold ig j7
 rw [h.any x]
 split
 ·exact h.map r
 ·exact h.snoc r
end
section
variable {X:Cx} {H0:Hp} {O0:List Addr} {E:XK} {ps:PSt} {D:PD} {e:Expr} {pos p:Pos} {u:U} {x n:Str} {w:Bool} {C a d:Addr} {kvs:List (Str×U)} {i:Nat}
theorem hJ (hp:ps[i]?=some (some (.dsk w C a d kvs))) (hc:Cls X.K C) (hn:eU X.K C "lands") (hN:X.N[i]?=some x:=by rfl) (hv:Vis X.env.scope x:=by first | exact Or.inl rfl | exact Or.inr (Or.inl rfl) | exact Or.inr (Or.inr rfl))
  (hd:(x==("__debug__":Str))=false:=by decide) (hcd:(x==("__classdict__":Str))=false:=by decide) (hb:attributeBase (.Name x p) "lands" X.env (eval (.Name x p) X.env)=eval (.Name x p) X.env:=by rfl):
  PE X (.Attribute (.Name x p) "lands" pos) fun σ H Q=> ∃ O,Rs X.K H0 O0 ps σ H O∧Q (.ref d) H:=
 PE.mono (ym (dH hN hv hd hcd) hb) fun σ H Q ⟨O,R,q⟩=> by
  obtain ⟨v,h1,dx,kv,rfl,h3,h4,h5,h6,h7⟩:=R.at_ i _ hp
  exact ⟨_,h1,a,C,dx,_,_,rfl,h5,hc,hn,by simp,q⟩
abbrev lO (X:Cx) (H0:Hp) (O0:List Addr) (ps:PSt) (o:Expr) (d:Addr):Prop:=PE X o fun σ H Q=> ∃ O,Rs X.K H0 O0 ps σ H O∧Q (.ref d) H
theorem tW {σ:St} {H:Hp} {O:List Addr} (R:Rs X.K H0 O0 ps σ H O) (hp:ps[i]?=some (some (.dsk w C a d kvs))):∃ kv,H d=some (.dK kv)∧DkR X.K (hid H O) kv kvs:=by
 obtain ⟨v,h1,dx,kv,rfl,h3,h4,h5,h6,h7⟩:=R.at_ i _ hp
 exact ⟨kv,h6,h7⟩
theorem yU {o:Expr} (hp:ps[i]?=some (some (.dsk w C a d kvs))) (ho:lO X H0 O0 ps o d) (he:Ev X H0 O0 ps e (.str n)) (hu:X.A.units+10 < cLine) (h:valU kvs n=some u) (hs:si e:=by intro _ _; rfl):Ev X H0 O0 ps (.Subscript o e pos) u:=
 PE.mono (xz (by omega) ho he hs) fun σ H Q ⟨O,R,q⟩=> ⟨O,R,O,R,fun v H' s r=> by
  cases r
  obtain ⟨kv,h1,h2⟩:=tW (R.go s) hp
  obtain ⟨z,h3,h4⟩:=h2.some h
  exact ⟨d,z,rfl,by have:=mf.k (k:=.inr n) h1; rw [h3] at this; exact this,q z H' s h4⟩⟩
theorem yR {o:Expr} (hp:ps[i]?=some (some (.dsk w C a d kvs))) (ho:lO X H0 O0 ps o d) (he:Ev X H0 O0 ps e (.str n)) (hu:X.A.units+10 < cLine) (h1:behindInMarks .NotIn o=false:=by first | exact ie _ | with_unfolding_all rfl):Tt X H0 O0 ps (.Compare e [.NotIn] [o] pos) (!(valU kvs n).isSome):=
 PT.mono (o6 (q_ (by omega) he ho) h1) fun σ H Q ⟨O,R,q⟩=> ⟨O,R,fun v H' s r=> by
  cases r
  obtain ⟨kv,h1,h2⟩:=tW (R.go s) hp
  exact ⟨O,R.go s,d,_,rfl,mf.k (k:=.inr n) h1,_,rfl,by rw [h2.isSome]; exact q H' s⟩⟩
theorem Rs.wdsk {K:PySem.W.Frag} {σ:St} {H:Hp} {O:List Addr} {kv:List (Key×V)} {kvs':List (Str×U)} (R:Rs K H0 O0 ps σ H O) (hp:ps[i]?=some (some (.dsk true C a d kvs))) (h1:∀ j w C a d kvs,ps[j]?=some (some (.dsk w C a d kvs))→j=i) (r:DkR K (hid H O) kv kvs'):
  Rs K H0 O0 (ps.set i (some (.dsk true C a d kvs'))) σ (upd H d (.dK kv)) O:=by
 obtain ⟨v,g1,dx,kv0,rfl,g3,g4,g5,g6,g7⟩:=R.at_ i _ hp
 have h0:H0 d=none:=(R.new d g3).resolve_left (g4 rfl)
 have eh:hid (upd H d (.dK kv)) O=hid H O:=gT g3
 refine ⟨R.same.put h0 _,R.old,R.new,fun b hb z=> ?_,by simp [R.len],fun j s q=> ?_,fun j k zs us b q1 q2 q3 q4=> ?_⟩
 ·by_cases e:b=d
  ·subst e; rw [aD] at z; cases z
  ·rw [aF e] at z; exact R.dom b hb z
 ·rcases bF q with ⟨e',q'⟩ | ⟨ne,q'⟩
  ·subst e'
   cases q'
   exact ⟨.ref a,g1,dx,kv,rfl,g3,g4,by rw [aF fun z=> by rw [z,g6] at g5; cases g5]; exact g5,aD,by rw [eh]; exact r⟩
  ·obtain ⟨w',k1,k2⟩:=R.at_ j s q'
   refine ⟨w',k1,?_⟩
   cases s with
   | val u=> exact (show Rp K (hid (upd H d (.dK kv)) O) w' u by rw [eh]; exact k2)
   | own zs=>
    obtain ⟨b,us,e1,e2,e3,e4,e5⟩:=k2
    exact ⟨b,us,e1,e2,e3,by rw [aF fun z=> by rw [z,g6] at e4; cases e4]; exact e4,by rw [eh]; exact e5⟩
   | pin z u=> exact ⟨k2.1,by rw [eh]; exact k2.2⟩
   | dsk w2 C2 a2 d2 kvs2=> exact absurd (h1 _ _ _ _ _ _ q').symm ne
 ·have c1:ps[j]?=some (some (.own zs)):=by
   rcases bF q1 with ⟨_,e⟩ | ⟨_,z⟩
   ·cases e
   ·exact z
  have c2:ps[k]?=some (some (.own us)):=by
   rcases bF q2 with ⟨_,e⟩ | ⟨_,z⟩
   ·cases e
   ·exact z
  exact R.inj j k _ _ b c1 c2 q3 q4
def zJ (ps:PSt) (i:Nat):Bool:=(List.range ps.length).all fun j=> match ps[j]? with | some (some (.dsk _ _ _ _ _))=> j==i | _=> true
theorem pP {ps:PSt} {i:Nat} (h:zJ ps i=true):∀ j w C a d kvs,ps[j]?=some (some (.dsk w C a d kvs))→j=i:=fun j w C a d kvs e=> by
 have hj:j < ps.length:=(List.getElem?_eq_some_iff.mp e).1
 have:=List.all_eq_true.mp h j (List.mem_range.mpr hj)
 rw [e] at this
 exact beq_iff_eq.mp this
theorem yX {o value:Expr} {pos':Pos} (hp:ps[i]?=some (some (.dsk true C a d kvs))) (ho:lO X H0 O0 ps o d) (he:Ev X H0 O0 ps e (.str n)) (hv:Ev X H0 O0 ps value u) (hu:X.A.units+10 < cLine) (hl:kvs.length < sizeLine) (h:D.nx (ps.set i (some (.dsk true C a d (j7 kvs n u)))))
  (h1:zJ ps i=true:=by rfl) (hs:swapsWith value (some (.Subscript o e pos')) pos.line X.env=pure false:=by rfl):W1 X H0 O0 E (.Assign [.Subscript o e pos'] value pos) D ps:=
 PS.mono (wG (by omega) ho he hv hs) fun D' σ H ⟨L,O,R⟩=> ⟨O,R,fun v H1 s1 r1=> ⟨O,R.go s1,O,R.go s1,fun k H2 s2 r2=> by
  cases r2
  have R2:=R.go (s1.trans s2)
  obtain ⟨kv,g1,g2⟩:=tW R2 hp
  exact ⟨d,_,rfl,uj.k (k:=.inr n) g1 (by rw [g2.len]; exact hl),L.nx _ _ _ O (R2.wdsk hp (pP h1) (g2.put (r1.same (aK s2)) n)) h⟩⟩⟩
theorem zQ (hp:ps[i]?=some (some (.dsk w C a d kvs))) (he:Ev X H0 O0 ps e u) (h:D.rt (.dsk d u kvs)):W1 X H0 O0 E (.Return (some e) pos) D ps:=
 PS.mono (jQ he) fun D' σ H ⟨L,O,R⟩=> ⟨O,R,fun v H' s r=> by
  have R':=R.go s
  obtain ⟨z,g1,dx,kv,rfl,g3,g4,g5,g6,g7⟩:=R'.at_ i _ hp
  have less:∀ b∈d::O0,b∈O:=fun b hb=> by
   rcases List.mem_cons.mp hb with y | y
   ·subst y; exact g3
   ·exact R.old b y
  exact L.rt _ h v kv H' R'.same g6 (g7.same (aR less)) (r.same (aR less))⟩
end
def lF (N:List Str) (w:Bool) (C a d:Addr) (kvs:List (Str×U)) (us:List U):PSt:=some (.dsk w C a d kvs)::(us.map (fun u=> some (.val u))++List.replicate (N.length - (us.length+1)) none)
def spD (K:PySem.W.Frag) (w:Bool) (C:Addr) (spec:Addr→List (Str×U)→List U→Out→Prop):Sp:=fun vs H Q E=> ∃ a dx d kv kvs ws us O o,vs=.ref a::ws∧H a=some (.ins C dx [("lands",.ref d)])∧H d=some (.dK kv)∧(∀ b∈O,H b≠none)∧(w=true→d ∉ O)∧
 DkR K (hid H (d::O)) kv kvs∧Rps K (hid H (d::O)) ws us∧spec d kvs us o∧ke K (if w=true then hid H [d] else H) (if w=true then O else d::O) Q E o
section
variable {P:Program} {w:World} {K:PySem.W.Frag} {mg:Str→Option Value} {base:Heap} {N pn:List Str} {qual nm:Str} {f:Addr}
theorem hV {st:Stmt} {fd:FuncData} {k:Nat} {own:Bool} {C:Addr} {spec:Addr→List (Str×U)→List U→Out→Prop} (F:Fun K nm qual st f fd) (S:aq N pn (af st)) (len:∀ d kvs us o,spec d kvs us o→us.length+1=pn.length)
  (hbody:∀ (cdv:Value) (A:Around) (outer:List Env) (s:Shared) (H H1:Hp) (E:XK) (O:List Addr) (a d:Addr) (kvs:List (Str×U)) (us:List U) (o:Out),bJ k (A.deeper (envOfC qual (af st) s.heap.objs.size f cdv))→spec d kvs us o→
   Ws (ic (CXF P w) P w K mg base N qual (af st) f cdv A outer s H E) H1 O E (ao st) ⟨fun _=> o=.val .non,fun o'=> o'=o,fun _=> False,fun _=> False⟩ (lF N own C a d kvs us)):ba P w K mg base (CXF P w) (k+1) f fd pn (spD K own C spec):=by
 refine F.okF S (fun vs H Q E h=> ?_) fun cdv A outer s H vs Q E hr h=> ?_
 ·obtain ⟨a,dx,d,kv,kvs,ws,us,O,o,rfl,_,_,_,_,_,r,hsp,_⟩:=h
  rw [List.length_cons,r.len]; exact len d kvs us o hsp
 ·obtain ⟨a,dx,d,kv,kvs,ws,us,O,o,rfl,ha,hd,dm,na,rx,r,hsp,q⟩:=h
  refine ⟨_,hbody cdv A outer s H (if own=true then hid H [d] else H) E (if own=true then O else d::O) a d kvs us o hr hsp,⟨fun ps σ H' O' R e=> ?_,fun _ _ _ _ _ e=> e.elim,fun _ _ _ _ _ e=> e.elim,fun o' e=> by subst e; exact q⟩,d::O,?_⟩
  ·subst e; exact q .non H' R.same .non
  ·refine ⟨?_,fun b hb=> ?_,fun b hb=> ?_,fun b hb=> ?_,?_,fun i sl e=> ?_,fun i j ys zs b e1 e2 _ _=> ?_⟩
   ·cases own
    ·exact .refl H
    ·exact aE
   ·cases own
    ·exact hb
    ·exact List.mem_cons_of_mem _ hb
   ·cases own
    ·exact .inl hb
    ·rcases List.mem_cons.mp hb with z | z
     ·subst z; right; show hid H [b] b=none; unfold hid; simp
     ·exact .inl z
   ·rcases List.mem_cons.mp hb with z | z
    ·subst z; rw [hd]; simp
    ·exact dm b z
   ·unfold start lF
    simp only [List.length_cons,List.length_append,List.length_map,List.length_replicate,r.len]
    omega
   ·unfold lF at e
    cases i with
    | zero=>
     cases e
     refine ⟨.ref a,rfl,dx,kv,rfl,List.mem_cons_self,fun e=> ?_,ha,hd,rx⟩
     subst e
     exact na rfl
    | succ i=>
     rw [List.getElem?_cons_succ] at e
     by_cases hi:i < us.length
     ·rw [List.getElem?_append_left (by simpa using hi),List.getElem?_map,List.getElem?_eq_getElem hi] at e
      cases e
      obtain ⟨v,h1,h2⟩:=r.get (List.getElem?_eq_getElem hi)
      refine ⟨v,?_,h2⟩
      unfold start
      rw [List.getElem?_append_left (by simpa [r.len] using hi),List.getElem?_map,List.getElem?_cons_succ,h1]; rfl
     ·rw [List.getElem?_append_right (by simpa using hi),List.getElem?_replicate] at e
      split at e <;> cases e
   ·exfalso
    cases i with
    | zero=> cases e1
    | succ i=>
     unfold lF at e1
     rw [List.getElem?_cons_succ] at e1
     by_cases hi:i < us.length
     ·rw [List.getElem?_append_left (by simpa using hi),List.getElem?_map,List.getElem?_eq_getElem hi] at e1
      cases e1
     ·rw [List.getElem?_append_right (by simpa using hi),List.getElem?_replicate] at e1
      split at e1 <;> cases e1
end
end L2
namespace L2
open PySem PySem.Spec PyProof.Rows
section
variable {X:Cx} {H0:Hp} {O0:List Addr} {E:XK} {ps ps1 ps2:PSt} {D:PD} {e b:Expr} {es rest:List Expr} {pos p apos:Pos} {u z:U} {us:List U} {x n m:Str} {w:Bool} {C Cx' a d f:Addr} {kvs kvs':List (Str×U)} {i k:Nat} {c c':Bool} {fd:FuncData} {pn:List Str} {CX:CXT} {spec:Addr→List (Str×U)→List U→Out→Prop}
theorem Rs.dsk2 {K:PySem.W.Frag} {σ:St} {H H2:Hp} {O:List Addr} {kv:List (Key×V)} (R:Rs K H0 O0 ps σ H O) (hp:ps[i]?=some (some (.dsk true C a d kvs))) (h1:∀ j w C a d kvs,ps[j]?=some (some (.dsk w C a d kvs))→j=i) (s:aC (hid H [d]) H2) (g:H2 d=some (.dK kv)) (r:DkR K (hid H2 O) kv kvs'):
  Rs K H0 O0 (ps.set i (some (.dsk true C a d kvs'))) σ H2 O:=by
 obtain ⟨v,g1,dx,kv0,rfl,g3,g4,g5,g6,g7⟩:=R.at_ i _ hp
 have h0:H0 d=none:=(R.new d g3).resolve_left (g4 rfl)
 have go:∀ b o,b≠d→H b=some o→H2 b=some o:=fun b o nb e=> s b o (cE e (by simpa using nb))
 have sm:aC (hid H O) (hid H2 O):=fun b o e=> by
  obtain ⟨e1,e2⟩:=fk e
  exact cE (go b o (fun z=> e2 (z ▸ g3)) e1) e2
 refine ⟨fun b o e=> go b o (fun z=> by rw [z,h0] at e; cases e) (R.same b o e),R.old,R.new,fun b hb z=> ?_,by simp [R.len],fun j s q=> ?_,fun j k zs us b q1 q2 q3 q4=> ?_⟩
 ·by_cases e:b=d
  ·subst e; rw [g] at z; cases z
  ·cases hb':H b with
   | none=> exact R.dom b hb hb'
   | some o=> rw [go b o e hb'] at z; cases z
 ·rcases bF q with ⟨e',q'⟩ | ⟨ne,q'⟩
  ·subst e'
   cases q'
   exact ⟨.ref a,g1,dx,kv,rfl,g3,g4,go _ _ (fun z=> by rw [z,g6] at g5; cases g5) g5,g,r⟩
  ·obtain ⟨w',k1,k2⟩:=R.at_ j s q'
   refine ⟨w',k1,?_⟩
   cases s with
   | val u=> exact Rp.same sm k2
   | own zs=>
    obtain ⟨b,us,e1,e2,e3,e4,e5⟩:=k2
    exact ⟨b,us,e1,e2,e3,go _ _ (fun z=> by rw [z,g6] at e4; cases e4) e4,e5.same sm⟩
   | pin z u=> exact ⟨k2.1,Rp.same sm k2.2⟩
   | dsk w2 C2 a2 d2 kvs2=> exact absurd (h1 _ _ _ _ _ _ q').symm ne
 ·have c1:ps[j]?=some (some (.own zs)):=by
   rcases bF q1 with ⟨_,e⟩ | ⟨_,z⟩
   ·cases e
   ·exact z
  have c2:ps[k]?=some (some (.own us)):=by
   rcases bF q2 with ⟨_,e⟩ | ⟨_,z⟩
   ·cases e
   ·exact z
  exact R.inj j k _ _ b c1 c2 q3 q4
theorem il {pl:Sem Bool} (hp:ps[i]?=some (some (.dsk w C a d kvs))) (hc:Cls X.K C) (hm:me X.K C m f) (F:ba X.prog X.w X.K X.mg X.base CX k f fd pn (spD X.K false C spec)) (hr:bJ k X.A) (hb:aH X.K fd pn []) (hx:bU CX X E0) (ha:EvA X H0 O0 ps (e::es) us) (h:spec d kvs us (.val u))
  (hml:(m==("lands":Str))=false:=by decide) (hN:X.N[i]?=some x:=by rfl) (hv:Vis X.env.scope x:=by first | exact Or.inl rfl | exact Or.inr (Or.inl rfl) | exact Or.inr (Or.inr rfl)) (hd:(x==("__debug__":Str))=false:=by decide) (hcd:(x==("__classdict__":Str))=false:=by decide)
  (hst:starEach (e::es) X.env=(false,eval e X.env)::starEach es X.env:=by rfl) (hpl:(backTo pos (starEach es X.env)).any (·.1)=false:=by rfl)
  (ht:eval (.Call (.Attribute (.Name x p) m apos) (e::es) [] pos) X.env=(do
   let ov ← eval (.Name x p) X.env
   standAt apos.atName
   let (f,first) ← holding [ov] (getMethod ov m pl)
   callWith pos f first (backTo pos (starEach (e::es) X.env)) (backToKw pos (keywordEach [] X.env))):=by rfl):
  Ev X H0 O0 ps (.Call (.Attribute (.Name x p) m apos) (e::es) [] pos) u:=
 PE.mono (pS (pl:=pl) (dH hN hv hd hcd) hc hm F hr hb .nil hx ha hst hpl ht) fun σ H Q ⟨O,R,q⟩=> by
  obtain ⟨v,h1,dx,kv,rfl,h3,h4,h5,h6,h7⟩:=R.at_ i _ hp
  refine ⟨_,h1,a,dx,_,rfl,h5,by rw [List.lookup_cons,hml]; rfl,O,R,fun vs H' s r=> ?_⟩
  have sub:∀ b∈d::O,b∈O:=fun b hb=> by
   rcases List.mem_cons.mp hb with y | y
   ·subst y; exact h3
   ·exact y
  show spD X.K false C spec (V.ref a::(vs++[])) H' Q E0
  rw [List.append_nil]
  exact ⟨a,dx,d,kv,kvs,vs,us,O,.val u,rfl,s _ _ h5,s _ _ h6,(R.go s).dom,nofun,(h7.same (aK s)).same (aR sub),r.same (aR sub),h,fun v H2 s2 r2=> q v H2 (s.trans s2) (r2.same (aR fun b hb=> List.mem_cons_of_mem _ hb))⟩
def EvK (X:Cx) (H0:Hp) (O0:List Addr) (ps:PSt) (e:Expr) (u:U) (ps':PSt):Prop:=
 PE X e fun σ H Q=> ∃ O,Rs X.K H0 O0 ps σ H O∧∀ v H' O',Rs X.K H0 O0 ps' σ H' O'→Rp X.K (hid H' O') v u→Q v H'
def TtK (X:Cx) (H0:Hp) (O0:List Addr) (ps:PSt) (e:Expr) (b:Bool) (ps':PSt):Prop:=
 PT X e fun σ H Q=> ∃ O,Rs X.K H0 O0 ps σ H O∧∀ H' O',Rs X.K H0 O0 ps' σ H' O'→Q b H'
theorem lZ {pl:Sem Bool} (hp:ps[i]?=some (some (.dsk true C a d kvs))) (hc:Cls X.K C) (hm:me X.K C m f) (F:ba X.prog X.w X.K X.mg X.base CX k f fd pn (spD X.K true C spec)) (hr:bJ k X.A) (hb:aH X.K fd pn []) (hx:bU CX X E0) (ha:EvA X H0 O0 ps (e::es) us) (h:spec d kvs us (.dsk d u kvs'))
  (h1:zJ ps i=true:=by rfl) (hml:(m==("lands":Str))=false:=by decide) (hN:X.N[i]?=some x:=by rfl) (hv:Vis X.env.scope x:=by first | exact Or.inl rfl | exact Or.inr (Or.inl rfl) | exact Or.inr (Or.inr rfl)) (hd:(x==("__debug__":Str))=false:=by decide) (hcd:(x==("__classdict__":Str))=false:=by decide)
  (hst:starEach (e::es) X.env=(false,eval e X.env)::starEach es X.env:=by rfl) (hpl:(backTo pos (starEach es X.env)).any (·.1)=false:=by rfl)
  (ht:eval (.Call (.Attribute (.Name x p) m apos) (e::es) [] pos) X.env=(do
   let ov ← eval (.Name x p) X.env
   standAt apos.atName
   let (f,first) ← holding [ov] (getMethod ov m pl)
   callWith pos f first (backTo pos (starEach (e::es) X.env)) (backToKw pos (keywordEach [] X.env))):=by rfl):
  EvK X H0 O0 ps (.Call (.Attribute (.Name x p) m apos) (e::es) [] pos) u (ps.set i (some (.dsk true C a d kvs'))):=
 PE.mono (pS (pl:=pl) (dH hN hv hd hcd) hc hm F hr hb .nil hx ha hst hpl ht) fun σ H Q ⟨O,R,q⟩=> by
  obtain ⟨v,g1,dx,kv,rfl,g3,g4,g5,g6,g7⟩:=R.at_ i _ hp
  refine ⟨_,g1,a,dx,_,rfl,g5,by rw [List.lookup_cons,hml]; rfl,O,R,fun vs H' s r=> ?_⟩
  have nin:d ∉ O.filter (fun b=> decide (b≠d)):=fun z=> by have:=(List.mem_filter.mp z).2; simp at this
  have sub:∀ b∈d::O.filter (fun b=> decide (b≠d)),b∈O:=fun b hb=> by
   rcases List.mem_cons.mp hb with y | y
   ·subst y; exact g3
   ·exact (List.mem_filter.mp y).1
  have sup:∀ b∈O,b∈d::O.filter (fun b=> decide (b≠d)):=fun b hb=> by
   by_cases e:b=d
   ·subst e; exact List.mem_cons_self
   ·exact List.mem_cons_of_mem _ (List.mem_filter.mpr ⟨hb,decide_eq_true e⟩)
  show spD X.K true C spec (V.ref a::(vs++[])) H' Q E0
  rw [List.append_nil]
  refine ⟨a,dx,d,kv,kvs,vs,us,O.filter (fun b=> decide (b≠d)),.dsk d u kvs',rfl,s _ _ g5,s _ _ g6,fun b hb=> (R.go s).dom b (List.mem_filter.mp hb).1,fun _=> nin,(g7.same (aK s)).same (aR sub),r.same (aR sub),h,fun v kv' H2 s2 g r2 r3=> ?_⟩
  exact q v H2 O ((R.go s).dsk2 hp (pP h1) s2 g (r2.same (aR sup))) (r3.same (aR sup))
theorem sX {op:CmpOp} (ho:OpS X (compareOp op) u z (.bl c)) (ha:EvK X H0 O0 ps e u ps1) (hb:Ev X H0 O0 ps1 b z) (hm:behindInMarks op b=false:=by first | exact ie _ | with_unfolding_all rfl):TtK X H0 O0 ps (.Compare e [op] [b] pos) c ps1:=
 PT.mono (qx ho ha hb hm) fun σ H Q ⟨O,R,q⟩=> ⟨O,R,fun v H1 O1 R1 r1=> ⟨O1,R1,fun w H2 s2 r2=> ⟨(r1.same (aK s2)).out,r2.out,_,rfl,q H2 O1 (R1.go s2)⟩⟩⟩
theorem xX {tb fb:List Stmt} (hc:TtK X H0 O0 ps e false ps1) (h:Ws X H0 O0 E fb D ps1):W1 X H0 O0 E (.If e tb fb pos) D ps:=
 PS.mono (vz hc (fun _ _ _ _ _ _ h=> h.elim) h (t:=fun _ _ _=> False)) fun D' σ H ⟨L,O,R⟩=> ⟨O,R,fun H' O' R'=> ln ⟨L,O',R'⟩⟩
theorem qi (hp:ps1[i]?=some (some (.dsk w C a d kvs))) (he:EvK X H0 O0 ps e u ps1) (h:D.rt (.dsk d u kvs)):W1 X H0 O0 E (.Return (some e) pos) D ps:=
 PS.mono (jQ he) fun D' σ H ⟨L,O,R⟩=> ⟨O,R,fun v H' O' R' r=> by
  obtain ⟨z,g1,dx,kv,rfl,g3,g4,g5,g6,g7⟩:=R'.at_ i _ hp
  have less:∀ b∈d::O0,b∈O':=fun b hb=> by
   rcases List.mem_cons.mp hb with y | y
   ·subst y; exact g3
   ·exact R'.old b y
  exact L.rt _ h v kv H' R'.same g6 (g7.same (aR less)) (r.same (aR less))⟩
end
end L2
namespace L2
open PySem PySem.Spec PyProof.Rows
def spI (C:Addr):Sp:=fun vs H Q _=> ∃ a dx,vs=[.ref a]∧H a=some (.ins C dx [])∧∀ d,H d=none→Q .non (upd (upd H d (.dK [])) a (.ins C dx [("lands",.ref d)]))
section
variable {P:Program} {w:World} {K:PySem.W.Frag} {mg:Str→Option Value} {base:Heap} {N pn:List Str} {qual nm sf:Str} {f C:Addr} {p1 p2 p3 p4:Pos}
theorem xD {st:Stmt} {fd:FuncData} {k:Nat} (F:Fun K nm qual st f fd) (S:aq N pn (af st)) (hN:N[0]?=some sf) (hpn:pn.length=1) (hbd:ao st=[.Assign [.Attribute (.Name sf p1) "lands" p2] (.Dict [] [] p3) p4]) (hc:Cls K C) (hn:eU K C "lands")
  (hv:(af st).names.lookup sf=some .local) (hd:(sf==("__debug__":Str))=false:=by decide) (hcd:(sf==("__classdict__":Str))=false:=by decide):ba P w K mg base (CXF P w) (k+1) f fd pn (spI C):=by
 refine F.okF S (fun vs H Q E h=> ?_) fun cdv A outer s H vs Q E hr h=> ?_
 ·obtain ⟨a,dx,rfl,_⟩:=h
  rw [hpn]; rfl
 ·obtain ⟨a,dx,rfl,ha,q⟩:=h
  rw [hbd]
  refine ⟨_,vR (zO (dH (i:=0) hN (.inl hv) hd hcd) t_ rfl),?_⟩
  intro d hd'
  refine ⟨.ref a,rfl,a,C,dx,[],rfl,?_,hc,hn,by decide,q d hd'⟩
  rw [aF fun z=> by rw [z,hd'] at ha; cases ha]; exact ha
end
section
variable {X:Cx} {H0:Hp} {O0:List Addr} {E:XK} {ps:PSt} {D:PD} {pos p p' cpos:Pos} {x nm:Str} {C f:Addr} {i k:Nat} {fd:FuncData} {pn:List Str} {CX:CXT}
theorem Rs.newdsk {K:PySem.W.Frag} {σ:St} {H H':Hp} {O:List Addr} {a d dx:Addr} (R:Rs K H0 O0 ps σ H O) (e:aC H H') (n:H d=none) (ha:H' a=some (.ins C dx [("lands",.ref d)])) (h:H' d=some (.dK [])):
  Rs K H0 O0 (ps.set i (some (.dsk true C a d []))) (σ.set i (some (.ref a))) H' (d::O):=by
 have nd:d ∉ O:=fun z=> R.dom d z n
 have nd0:d ∉ O0:=fun z=> nd (R.old d z)
 have n0:H0 d=none:=R.same.free n
 refine ⟨R.same.trans e,fun b hb=> List.mem_cons_of_mem _ (R.old b hb),fun b hb=> ?_,fun b hb z=> ?_,by simp [R.len],fun j s q=> ?_,fun j k ys zs b h1 h2 h3 h4=> ?_⟩
 ·rcases List.mem_cons.mp hb with y | y
  ·subst y; exact .inr n0
  ·exact R.new b y
 ·rcases List.mem_cons.mp hb with y | y
  ·subst y; rw [h] at z; cases z
  ·exact R.dom b y (e.free z)
 ·rcases bF q with ⟨e',q'⟩ | ⟨ne,q'⟩
  ·subst e'
   cases q'
   have hi:=be q
   rw [List.length_set] at hi
   exact ⟨.ref a,fA (by rw [R.len]; exact hi),dx,[],rfl,List.mem_cons_self,fun _=> nd0,ha,h,DkR.nil⟩
  ·obtain ⟨w,h1,h2⟩:=R.at_ j s q'
   refine ⟨w,by rw [List.getElem?_set_ne ne]; exact h1,?_⟩
   cases s with
   | val u=> exact Rp.same (bn e n) h2
   | own ys=>
    obtain ⟨b,ws,k1,k2,k3,k4,k5⟩:=h2
    exact ⟨b,ws,k1,List.mem_cons_of_mem _ k2,k3,e _ _ k4,k5.same (bn e n)⟩
   | pin z u=> exact ⟨h2.1,Rp.same (bn e n) h2.2⟩
   | dsk w C b d kvs=> obtain ⟨dx,kv,k1,k2,k3,k4,k5,k6⟩:=h2; exact ⟨dx,kv,k1,List.mem_cons_of_mem _ k2,k3,e _ _ k4,e _ _ k5,k6.same (bn e n)⟩
 ·rcases bF h1 with ⟨_,q1⟩ | ⟨n1,q1⟩
  ·cases q1
  ·rcases bF h2 with ⟨_,q2⟩ | ⟨n2,q2⟩
   ·cases q2
   ·rw [List.getElem?_set_ne n1] at h3
    rw [List.getElem?_set_ne n2] at h4
    exact R.inj j k ys zs b q1 q2 h3 h4
theorem yo (M:Mk X.K C f) (F:ba X.prog X.w X.K X.mg X.base CX k f fd pn (spI C)) (hr:bJ (k+1) X.A) (hg:Gl X nm) (hm:X.mg nm=some (.ref C)) (hb:aH X.K fd pn []) (hps:bU CX X E0) (hN:X.N.Nodup) (hi:X.N[i]?=some x) (hx:Loc X.env.scope x)
  (h:∀ a d,D.nx (ps.set i (some (.dsk true C a d [])))) (hdb:(nm==("__debug__":Str))=false:=by decide) (hs:swapsWith (.Call (.Name nm p) [] [] cpos) (some (.Name x p')) pos.line X.env=pure false:=by rfl)
  (hf:X.fn x=true∨X.env.scope.names.lookup x=some .local:=by first | exact .inl rfl | exact .inr rfl | assumption):W1 X H0 O0 E (.Assign [.Name x p'] (.Call (.Name nm p) [] [] cpos) pos) D ps:=
 PS.mono (oU hN hi hx (ua M F hr hg hm hb .nil hps hdb) hs hf) fun D' σ H ⟨L,O,R⟩=> by
  intro a dx na ndx ne
  refine ⟨a,dx,rfl,aD,fun d nd=> ⟨rfl,?_⟩⟩
  have da:d≠a:=fun z=> by rw [z,aD] at nd; cases nd
  rw [aF da] at nd
  have ddx:d≠dx:=fun z=> by rw [z,aD] at nd; cases nd
  rw [aF ddx] at nd
  refine L.nx _ _ _ (d::O) (R.newdsk (fun b o e=> ?_) nd aD (by rw [aF da]; exact aD)) (h a d)
  have b1:b≠a:=fun z=> by rw [z,na] at e; cases e
  have b2:b≠d:=fun z=> by rw [z,nd] at e; cases e
  have b3:b≠dx:=fun z=> by rw [z,ndx] at e; cases e
  rw [aF b1,aF b2,aF b1,aF b3]
  exact e
end
end L2
namespace L2
open PySem PySem.Spec PyProof.Rows
section
variable {X:Cx} {H0:Hp} {O0:List Addr} {E:XK} {ps:PSt} {D:PD} {e:Expr} {es:List Expr} {pos p apos:Pos} {u:U} {us:List U} {xs:List U} {x m:Str} {w:Bool} {C C' a d f:Addr} {kvs:List (Str×U)} {i k:Nat} {fd:FuncData} {pn:List Str} {CX:CXT} {spec:Addr→List (Str×U)→List U→Out→Prop}
end
end L2
namespace L2
open PySem PySem.Spec PyProof.Rows
def nj (X:Cx) (d:Addr) (vs:List (Str×Value)):Prop:=(d==sysModules)=false∧∀ h:Heap,X.K.In h→h.DictOf (strKind X.prog X.w) d vs
section
variable {X:Cx} {H0:Hp} {O0:List Addr} {ps:PSt} {e i:Expr} {pos p:Pos} {u:U} {n nm t:Str} {d:Addr} {vs:List (Str×Value)} {tk:Tok} {ty:TE}
theorem x9 {x:Str} {t:Tok}:(strKind X.prog X.w).is x (.str x t)=true:=by show Value.isStrOf x (.str x t)=true; simp [Value.isStrOf]
theorem vV (hD:nj X d vs) (hg:Gl X nm) (hm:X.mg nm=some (.ref d)) (hi:PE X i ty) (hs:si i) (hdb:(nm==("__debug__":Str))=false:=by decide):PE X (.Subscript (.Name nm p) i pos) fun σ H Q=> ty σ H fun y H2=> ∃ n v v',y=.str n∧valueAt vs n=some v'∧aT v v'∧Q v H2:=by
 intro pins s σ H Q I h
 refine qJ PySem.F.slot_dict_getitem.lookup hs (eQ I hg hm (thn (hi pins s σ H _ I h) fun iv s2 ⟨y,H2,I2,ry,n,v,v',ey,l,rv,q2⟩=> ?_) hdb)
 subst ey
 obtain ⟨t,rfl⟩:=ry
 exact ⟨(hD.2 _ I2.kIn).typeIs,wpAny_getItem_of x9 (hD.2 _ I2.kIn).mapOf l ⟨v,H2,I2.tok _,rv,q2⟩⟩
theorem xA (hD:nj X d vs) (hg:Gl X nm) (hm:X.mg nm=some (.ref d)) (hi:PE X i ty) (hdb:(nm==("__debug__":Str))=false:=by decide):PC X .NotIn i (.Name nm p) fun σ H Q=> ty σ H fun y H2=> ∃ n,y=.str n∧Q (.bl (!(valueAt vs n).isSome)) H2:=by
 intro pins s σ H Q I h
 refine thn (hi pins s σ H _ I h) fun iv s2 ⟨y,H2,I2,ry,n,ey,q2⟩=> eQ I2 hg hm ?_ hdb
 subst ey
 obtain ⟨t,rfl⟩:=ry
 exact wpAny_notIn_of x9 hD.1 (hD.2 _ I2.kIn).mapOf ⟨.bl _,H2,I2.tok _,rfl,q2⟩
theorem za (hD:nj X d vs) (hg:Gl X nm) (hm:X.mg nm=some (.ref d)) (he:Ev X H0 O0 ps e (.str n)) (hv:valueAt vs n=some (.str t tk)) (hs:si e:=by intro _ _; rfl) (hdb:(nm==("__debug__":Str))=false:=by decide):Ev X H0 O0 ps (.Subscript (.Name nm p) e pos) (.str t):=
 PE.mono (vV hD hg hm he hs hdb) fun σ H Q ⟨O,R,q⟩=> ⟨O,R,fun v H' s r=> by
  cases r
  exact ⟨n,.str t,_,rfl,hv,⟨tk,rfl⟩,q _ H' s (.str t)⟩⟩
theorem zr (hD:nj X d vs) (hg:Gl X nm) (hm:X.mg nm=some (.ref d)) (he:Ev X H0 O0 ps e (.str n)) (hdb:(nm==("__debug__":Str))=false:=by decide) (h1:behindInMarks .NotIn (.Name nm p)=false:=by first | exact ie _ | with_unfolding_all rfl):Tt X H0 O0 ps (.Compare e [.NotIn] [.Name nm p] pos) (!(valueAt vs n).isSome):=
 PT.mono (o6 (xA hD hg hm he hdb) h1) fun σ H Q ⟨O,R,q⟩=> ⟨O,R,fun v H' s r=> by
  cases r
  exact ⟨n,rfl,_,rfl,q H' s⟩⟩
end
end L2
namespace L2
open PySem PySem.Spec PyProof.Rows
theorem xM {X:Cx} {x y:Str}:OpS X (compareOp .LtE) (.str x) (.str y) (.bl (!decide (y.cps.toList < x.cps.toList))):=by
 intro pins s σ H v w p q Q I r1 r2 h
 obtain ⟨h1,h2,h3⟩:=h
 cases h1; cases h2
 obtain ⟨t,rfl⟩:=r1
 obtain ⟨t',rfl⟩:=r2
 exact PySem.P.le_str ⟨.bl _,H,I,rfl,h3⟩
end L2
namespace L2
open PySem PySem.Spec PyProof.Rows
section
variable {X:Cx} {H0:Hp} {O0:List Addr} {ps:PSt} {a:Expr} {x:Str} {apos cpos:Pos}
theorem qQ:MtR X "str.split" (fun v vs H Q=> ∃ x,v=.str x∧vs=[]∧x.length≤sizeLine∧(Builtin.Str.spaceWords x (x.length+1)).length≤sizeLine∧∀ p,H p=none→Q (.ref p) (upd H p (.lst ((Txt.words x).map V.str)))):=by
 intro pins s σ H v vs u us Q I r1 r2 h
 obtain ⟨x,rfl,rfl,hz,hz2,q⟩:=h
 obtain ⟨t,rfl⟩:=r1
 cases r2
 have fr:=I.hok.fresh (Nat.le_refl s.heap.objs.size)
 have len:(Txt.words x).length≤sizeLine:=by
  unfold Txt.words
  split
  ·exact show 1≤sizeLine by decide
  ·unfold wordsOf; rw [List.length_map]; exact hz2
 have fin:∀ (l:List (Str×Tok)) (tk:Nat),l.map (·.1)=Txt.words x→EP X pins σ Q (.ref s.heap.objs.size) { s with heap:=s.heap.push { cls:=.type "list",data:=.seq (strValues l).toArray },toks:=tk }:=fun l tk e'=>
  ⟨.ref s.heap.objs.size,_,I.laid (t':=tk) (fun b o z=> Heap.get?_push_of_some _ z) (Nat.le_refl _) (show bG X.prog X.w _ _ _ (.lst ((Txt.words x).map V.str)) from ⟨by rw [List.length_map]; exact len,strValues l,_,by rw [← e']; exact ix l,Heap.get?_push_size s.heap rfl⟩),rfl,q _ fr⟩
 refine call_meets PySem.F.slot_str_split rfl PySem.F.entry_str_split (PySem.F.args_str_split_1 ..) (meets_str_split_space x t hz hz2) ?_
 by_cases hw:(Builtin.Str.spaceWords x (x.length+1)==[(0,x.length)])=true
 ·rw [if_pos hw]
  exact fin [(x,t)] s.toks (if_pos hw).symm
 ·rw [if_neg hw]
  have e:Txt.words x=wordsOf x:=if_neg hw
  show wants _ _ _ _
  rw [← e,strsFrom_eq]
  exact fin (numbered s.toks (Txt.words x)) _ (numbered_texts _ _)
theorem nO (ha:Ev X H0 O0 ps a (.str x)) (hz:x.length≤sizeLine) (hz2:(Builtin.Str.spaceWords x (x.length+1)).length≤sizeLine) (hbase:attributeBase a "split" X.env (eval a X.env)=eval a X.env:=by rfl) (hline:(apos.endLine==cpos.line)=true:=by rfl):
  EvN X H0 O0 ps (.Call (.Attribute a "split" apos) [] [] cpos) ((Txt.words x).map U.str):=
 PE.mono (sS PySem.F.plainAttrs_str PySem.F.slot_str_split PySem.F.type_str_split qQ ha hbase hline) fun σ H Q ⟨O,R,q⟩=> ⟨O,R,fun v H1 s1 r1=> by
  cases r1
  exact ⟨rfl,x,rfl,rfl,hz,hz2,fun p hp=> q p _ _ (s1.trans (bg hp _)) (s1.free hp) aD (jJ _)⟩⟩
end
end L2
namespace L2
open PySem PySem.Spec PyProof.Rows
def Bx (K:PySem.W.Frag) (l1 l2:Addr):It:=
 ⟨fun i H=> ∃ xs ys x y,SqL K H l1 xs∧SqL K H l2 ys∧xs[i]?=some x∧ys[i]?=some y,
  fun i H u H'=> ∃ p x y,u=.ref p∧H p=none∧H'=upd H p (.tup [x,y])∧(∀ xs,SqL K H l1 xs→xs[i]?=some x)∧(∀ ys,SqL K H l2 ys→ys[i]?=some y),
  fun i H=> ∃ xs ys,SqL K H l1 xs∧SqL K H l2 ys∧xs.length≤i⟩
set_option maxHeartbeats 1000000 in
theorem v6 {P:Program} {w:World} {K:PySem.W.Frag} {es:List Expr} {ctx pos} (z TI TO i1 i2 l1 l2:Addr) (D:ZipApart z TI TO i1 i2 l1 l2):
  vE P w K (.Tuple es ctx pos) (Bx K l1 l2) [z,TI,TO,i1,i2] z (fun i h=> IsZip h z TI TO .none∧IsPair h TI (.ref i1) (.ref i2)∧(∃ a b,IsPair h TO a b)∧h.IsListIter i1 l1 i∧h.IsListIter i2 l2 i) where
 mem:=by simp
 obj:=fun i h st b hb=> by
  obtain ⟨gz,gI,⟨a,c,gO⟩,h1,h2⟩:=st
  have li:∀ {it l k},h.IsListIter it l k→∃ o,h.get? it=some o∧∀ v,o.data≠.cell v:=fun q=> by
   obtain ⟨o,e,_,d⟩:=q
   exact ⟨o,e,fun v z=> by rw [d] at z; cases z⟩
  simp only [List.mem_cons,List.not_mem_nil,or_false] at hb
  rcases hb with e | e | e | e | e <;> subst e
  ·exact ⟨_,gz,fun v z=> by cases z⟩
  ·exact ⟨_,gI,fun v z=> by cases z⟩
  ·exact ⟨_,gO,fun v z=> by cases z⟩
  ·exact li h1
  ·exact li h2
 keep:=fun i h h' st k=> by
  obtain ⟨gz,gI,⟨a,c,gO⟩,h1,h2⟩:=st
  exact ⟨k z (by simp) _ gz,k TI (by simp) _ gI,⟨a,c,k TO (by simp) _ gO⟩,h1.at fun o e=> k i1 (by simp) o e,h2.at fun o e=> k i2 (by simp) o e⟩
 item:=by
  intro X hP hw hK hc i pins s σ H E I hf st hg
  subst hP hw hK
  obtain ⟨gz,gI,⟨a,b,gO⟩,h1,h2⟩:=st
  obtain ⟨xs,ys,x,y,q1,q2,e1,e2⟩:=hg
  obtain ⟨n1,r1,p1,_⟩:=I.list q1
  obtain ⟨n2,r2,p2,_⟩:=I.list q2
  obtain ⟨u1,k1,t1⟩:=r1.get e1
  obtain ⟨u2,k2,t2⟩:=r2.get e2
  refine wpAny_pyNext_zip_item D gz gI gO h1 h2 p1.isList p2.isList (x:=u1) (y:=u2) (by simpa using k1) (by simpa using k2) fun h' a1 a2 a3 a4 a5 a6 kp=> ?_
  refine ⟨_,rfl,?_⟩
  refine wpAny_letOwnedTupleGo_zip (s:={ s with heap:=h' }) a1 fun hN b1 sb=> ?_
  have nz:s.heap.objs.size≠z:=Nat.ne_of_gt (Heap.lt_size gz)
  have tri:IsPair hN s.heap.objs.size u1 u2:=(sb.2 _ nz).trans a5
  have fresh:H s.heap.objs.size=none:=I.hok.fresh (Nat.le_refl _)
  have nf:s.heap.objs.size ∉ [z,TI,TO,i1,i2]:=fun hb=> by
   have key:∀ {d o},s.heap.get? d=some o→s.heap.objs.size≠d:=fun e=> Nat.ne_of_gt (Heap.lt_size e)
   have li:∀ {it l k},s.heap.IsListIter it l k→s.heap.objs.size≠it:=fun q=> by obtain ⟨o,e,_⟩:=q; exact key e
   simp only [List.mem_cons,List.not_mem_nil,or_false] at hb
   rcases hb with e | e | e | e | e
   ·exact key gz e
   ·exact key gI e
   ·exact key gO e
   ·exact li h1 e
   ·exact li h2 e
  refine ⟨.ref s.heap.objs.size,upd H s.heap.objs.size (.tup [x,y]),wt (s:=s) (h':=hN) (t':=s.toks) I hf (fun d o hd e=> ?_) (Nat.le_refl _) ⟨by show 2≤sizeLine; decide,[u1,u2],.cons t1 (.cons t2 .nil),⟨_,tri,rfl,_,rfl⟩⟩,rfl,
   ⟨_,x,y,rfl,fresh,rfl,fun zs q=> by rw [I.list_inj q q1]; exact e1,fun zs q=> by rw [I.list_inj q q2]; exact e2⟩,?_,fun d hd=> ?_⟩
  ·simp only [List.mem_cons,List.not_mem_nil,or_false,not_or] at hd
   obtain ⟨d1,d2,d3,d4,d5⟩:=hd
   exact (sb.2 d d1).trans (kp d o d1 d3 d4 d5 e)
  ·have up:∀ d o,d≠z→h'.get? d=some o→hN.get? d=some o:=fun d o n e=> (sb.2 d n).trans e
   exact ⟨b1,up _ _ D.TIz (kp _ _ D.TIz D.TITO D.TIi1 D.TIi2 gI),⟨_,_,up _ _ D.TOz a2⟩,a3.at fun o e=> up _ o D.i1z e,a4.at fun o e=> up _ o D.i2z e⟩
  ·rw [aF fun e=> nf (by rw [← e]; exact hd)]
   exact (hf d hd).1
 done:=by
  intro X hP hw hK hc i pins s σ H E I hf st hg
  subst hP hw hK
  obtain ⟨gz,gI,⟨a,b,gO⟩,h1,h2⟩:=st
  obtain ⟨xs,ys,q1,q2,hl⟩:=hg
  obtain ⟨n1,r1,p1,_⟩:=I.list q1
  obtain ⟨n2,r2,p2,_⟩:=I.list q2
  have e1:=r1.length
  refine wpAny_pyNext_zip_end (I.ok.hd hc) D gz gI gO h1 h2 p1.isList p2.isList (.inl (by simp; omega)) fun h' kp=> ⟨rfl,w4 (t':=s.toks) I hf fun d o hd e=> ?_⟩
  simp only [List.mem_cons,List.not_mem_nil,or_false,not_or] at hd
  exact kp d o (by simp_all) (by simp_all) (by simp_all) (by simp_all) e
 self:=fun _ _ _ _ _ st h=> wpAny_pyIter_zip st.1 h
section
variable {X:Cx} {H0:Hp} {O0:List Addr} {E:XK} {ps:PSt} {D:PD} {body:List Stmt} {e f g tg iter:Expr} {es:List Expr} {p pos:Pos} {x y z:U} {xs ys zs us:List U}
def dz:List U→List U→List U
 | x::xs,y::ys=> .tup [x,y]::dz xs ys
 | _,_=> []
theorem kL:∀ {xs ys:List U},xs.length=ys.length→(dz xs ys).length=xs.length
 | [],_,_=> by simp [dz]
 | _::xs,_::ys,h1=> by simp only [dz,List.length_cons] at *; rw [kL (by omega)]
theorem nE:∀ {xs ys:List U} {i:Nat} {a b:U},xs[i]?=some a→ys[i]?=some b→(dz xs ys)[i]?=some (.tup [a,b])
 | _::xs,_::ys,0,a,b,h1,h2=> by simp at h1 h2; simp [dz,h1,h2]
 | _::xs,_::ys,i+1,a,b,h1,h2=> by rw [List.getElem?_cons_succ] at h1 h2; rw [dz,List.getElem?_cons_succ]; exact nE h1 h2
set_option maxHeartbeats 1000000 in
theorem oH {ctx tpos} (hg:Gl X "zip") (hm:X.mg "zip"=none) (ha:Ev X H0 O0 ps e x) (hx:x=.lst xs∨x=.scr xs) (hb:Ev X H0 O0 ps f y) (hy:y=.lst ys∨y=.scr ys)
  (l12:xs.length=ys.length) (he:starEach [e,f] X.env=(false,eval e X.env)::starEach [f] X.env) (hf:starEach [f] X.env=(false,eval f X.env)::starEach [] X.env):
  EvZ X H0 O0 ps (.Tuple es ctx tpos) (.Call (.Name "zip" p) [e,f] [] pos) (dz xs ys):=by
 rintro pins s σ H Q I ⟨O,R,q⟩
 refine wpAny_Call_Name_kw (gs I hg hm tD ?_)
 refine callWith_type1 (thn (c_ ha (c_ hb eg hf) he pos pins s σ H (fun vs H1=> ∃ v u,vs=[v,u]∧aC H H1∧Rp X.K (hid H1 O) v x∧Rp X.K (hid H1 O) u y) I
  ⟨O,R,fun v H1 s1 r1=> ⟨O,R.go s1,fun u H2 s2 r2=> ⟨v,u,rfl,s1.trans s2,r1.same (aK s2),r2⟩⟩⟩) fun us s1 hx'=> ?_) he (by rw [hf]; rfl)
 obtain ⟨vs,H1,I1,rv,v,u,rfl,sm,rp1,rp2⟩:=hx'
 obtain ⟨w1,w2,rfl,ru1,ru2⟩:=mw rv
 obtain ⟨a,va,rfl,hq1,rs1⟩:=yW rp1 hx
 obtain ⟨b,vb,rfl,hq2,rs2⟩:=yW rp2 hy
 cases ru1
 cases ru2
 obtain ⟨ia,ra,pl1,hz1⟩:=I1.list (aE.seq hq1)
 obtain ⟨ib,rb,pl2,hz2⟩:=I1.list (aE.seq hq2)
 have l1:=rs1.len
 have l2:=rs2.len
 have al:@LT.lt Nat instLTNat a s1.heap.objs.size:=by obtain ⟨o,ho,_⟩:=pl1.isList; exact Heap.lt_size ho
 have bl:@LT.lt Nat instLTNat b s1.heap.objs.size:=by obtain ⟨o,ho,_⟩:=pl2.isList; exact Heap.lt_size ho
 refine call_zip_2 pl1.isList pl2.isList fun h' g1 g2 g3 g4 g5 g7 g8=> ?_
 have D:ZipApart (s1.heap.objs.size+4) (s1.heap.objs.size+2) (s1.heap.objs.size+3) s1.heap.objs.size (s1.heap.objs.size+1) a b:=by constructor <;> exact Bk (by omega)
 refine wpAny_pyIter_zip (s:={ s1 with heap:=h' }) g1 ?_
 have I2:Inv X pins σ H1 { s1 with heap:=h' }:=I1.kept (t':=s1.toks) g8
 refine ⟨s1.heap.objs.size+4,_,_,_,H1,rfl,I2,v6 _ _ _ _ _ a b D,⟨g1,g2,⟨_,_,g3⟩,g4,g5⟩,fun d hd=> ?_,q _ H1 sm fun H2 s2=> ?_⟩
 ·have ge:s1.heap.objs.size≤d:=by
   simp only [List.mem_cons,List.not_mem_nil,or_false] at hd
   rcases hd with e | e | e | e | e <;> rw [e] <;> first | exact Nat.le_add_right _ _ | exact Nat.le_refl _
  exact I1.fpOk ge (I1.hok.fresh ge)
 ·rw [kL l12]
  refine ⟨fun i hi=> ?_,⟨va,vb,s2.seq hq1,s2.seq hq2,by omega⟩⟩
  have h1:i < va.length:=by omega
  have h2:i < vb.length:=by omega
  refine ⟨⟨va,vb,va[i],vb[i],s2.seq hq1,s2.seq hq2,List.getElem?_eq_getElem h1,List.getElem?_eq_getElem h2⟩,?_⟩
  rintro _ H3 ⟨pp,x1,y1,rfl,nn,rfl,e1,e2⟩
  have sm2:aC H2 (upd H2 pp (.tup [x1,y1])):=bg nn _
  have m1:xs[i]?=some (xs[i]'(by omega)):=List.getElem?_eq_getElem (by omega)
  have m2:ys[i]?=some (ys[i]'(by omega)):=List.getElem?_eq_getElem (by omega)
  refine ⟨sm2,_,nE m1 m2,fun O2 hO sG=> ?_⟩
  have all:Rps X.K (hid (upd H2 pp (.tup [x1,y1])) O2) [x1,y1] [_,_]:=
   .cons ((rs1.at_ i _ _ (e1 _ (s2.seq hq1)) m1).same (sG.trans (aK sm2))) (.cons ((rs2.at_ i _ _ (e2 _ (s2.seq hq2)) m2).same (sG.trans (aK sm2))) .nil)
  exact .tup (SqT.of (cE aD fun hp=> hO pp hp nn)) all.len all.at_
theorem oA {is:List Nat} {g:TG} {f:PSt→U→PSt} {dom:U→Prop} {σ:St} {H1:Hp} {O:List Addr} {Q:VK} {J:It} {te:TE} (hg:GOk g X.K is f dom) (R1:Rs X.K H0 O0 ps σ H1 O) (Y:Yz X.K J (hid H1 O) xs) (hlen:ys.length=xs.length) (hz:xs.length≤sizeLine) (hdom:∀ x∈xs,dom x)
  (hte:∀ (i:Nat) (x y:U) (σ:St) (H:Hp) (O':List Addr) (Q:VK),xs[i]?=some x→ys[i]?=some y→Rs X.K H0 O0 (f (cA is ps) x) σ H O'→(∀ v H',aC H H'→Rp X.K (hid H' O') v y→Q v H')→te σ H Q)
  (fin:∀ a vs H',aC H1 H'→H1 a=none→H' a=some (.lst vs)→Rps X.K (hid H' (a::O)) vs ys→Q (.ref a) H'):qy is g te σ Q J H1:=by
 intro l hl
 refine ⟨fun i m H2=> m=xs.length - i∧i≤xs.length∧aC H1 H2∧∃ vs,H2 l=some (.lst vs)∧vs.length=i∧Rps X.K (hid H2 (l::O)) vs (ys.take i),⟨_,rfl,Nat.zero_le _,bg hl _,[],aD,rfl,by rw [List.take_zero]; exact .nil⟩,?_⟩
 rintro i m H2 ⟨rfl,hi,s2,vs,h2,hv,rs⟩
 have seen:aC (hid H1 O) (hid H2 (l::O)):=bn s2 hl
 obtain ⟨y1,y2⟩:=Y H2 (seen.trans aE)
 by_cases hlt:i < xs.length
 ·obtain ⟨g1,g2⟩:=y1 i hlt
  refine .inr ⟨g1,fun x H3 y=> ?_⟩
  obtain ⟨s3,u,hu,r⟩:=g2 x H3 y
  have R2:=((R1.mask (is:=is)).hide s2 hl (by rw [h2]; intro z; cases z)).go s3
  have h3:=s3 _ _ h2
  refine hg H0 O0 _ _ H3 (l::O) x u _ (hdom u (List.mem_of_getElem? hu)) R2 (r (l::O) (fun b hb z=> by rcases List.mem_cons.mp hb with k | k; (rw [k,h2] at z; cases z); exact R1.dom b k (s2.free z)) seen) fun σ4 R4 keep=> ?_
  have hy:ys[i]?=some (ys[i]'(by omega)):=List.getElem?_eq_getElem _
  refine hte i u _ σ4 H3 (l::O) _ hu hy R4 fun v H5 s5 r5=> ⟨fun j w e=> keep j w (fH is σ j w e).2 e,vs,s5 _ _ h3,?_,xs.length - (i+1),by omega,rfl,hlt,((s2.trans s3).trans s5).put hl _,vs++[v],aD,by simp [hv],?_⟩
  ·rw [hv]; omega
  ·rw [gT List.mem_cons_self,List.take_succ,hy]
   exact ((rs.same (aK s3)).same (aK s5)).snoc (.cons r5 .nil)
 ·have e:i=xs.length:=by omega
  subst e
  rw [← hlen,List.take_length] at rs
  exact .inl ⟨y2,fin l vs H2 s2 hl h2 rs⟩
theorem gu {elt:Expr} {scope:Scope} {cl:List (Str×Addr)} {spos py:Pos} {y:Str} {j:Nat} {is:List Nat} {g:TG} {f:PSt→U→PSt} {dom:U→Prop} (own:Bool) (hc:X.calm=true) (hN:X.N.Nodup) (hj:X.N[j]?=some y) (hy:Loc X.env.scope y) (B:bO X scope cl is)
  (hi:EvZ X H0 O0 ps tg iter xs) (hg:∀ C s H fp,PG (am X scope cl C s H fp) tg g) (gk:GOk g X.K is f dom) (hlen:ys.length=xs.length) (hz:xs.length≤sizeLine) (hdom:∀ x∈xs,dom x)
  (he:∀ C s H fp (i:Nat) (x y:U),xs[i]?=some x→ys[i]?=some y→Ev (am X scope cl C s H fp) H0 O0 (f (cA is ps) x) elt y) (h:D.nx (ps.set j (some (if own then .own ys else .val (.lst ys)))))
  (hs:∀ x,foldedSetIterable iter X.env x=pure x:=by intro _; rfl)
  (hsw:swapsWith (.ListComp elt [⟨tg,iter,[],0⟩] scope pos) (some (.Name y py)) spos.line X.env=pure true:=by rfl) (hf:X.fn y=true∨X.env.scope.names.lookup y=some .local:=by first | exact .inl rfl | exact .inr rfl | assumption):
  W1 X H0 O0 E (.Assign [.Name y py] (.ListComp elt [⟨tg,iter,[],0⟩] scope pos) spos) D ps:=by
 have hte:∀ C s H fp,PE (am X scope cl C s H fp) elt fun σ H Q=> ∃ i x y,xs[i]?=some x∧ys[i]?=some y∧∃ O',Rs X.K H0 O0 (f (cA is ps) x) σ H O'∧∀ v H',aC H H'→Rp X.K (hid H' O') v y→Q v H':=
  fun C s H fp pins s' σ H' Q I ⟨i,x,y,h1,h2,z⟩=> he C s H fp i x y h1 h2 pins s' σ H' Q I z
 refine PS.mono (jp hc hN hj hy B hi hg hte hs hsw hf) fun D' σ H ⟨L,O,R⟩=> ⟨O,R,fun J H1 s1 Y=> ?_⟩
 refine oA gk (R.go s1) Y hlen hz hdom (fun i x y σ H O' Q h1 h2 R' z=> ⟨i,x,y,h1,h2,O',R',z⟩) fun a vs H' s n h' r=> ?_
 cases own with
 | true=> exact L.nx _ _ _ _ ((R.go s1).own s n h' r) h
 | false=>
  have na:a ∉ O:=fun z=> (R.go s1).dom a z n
  have r':=r.same (aR fun b hb=> List.mem_cons_of_mem a hb)
  exact L.nx _ _ _ _ (((R.go s1).go s).set (.lst (cE h' na) r'.len r'.at_)) h
end
end L2
namespace L2
open PySem PySem.Spec PyProof.Rows
def zp (pr:Params) (e:Str×Tok×Str×Tok):DictEntry:={ hash:=PyData.keyHash pr e.1,key:=.str e.1 e.2.1,val:=.str e.2.2.1 e.2.2.2 }
def uZ (w:World) (K:PySem.W.Frag) (d:Addr) (vs:List (Str×Str)):Prop:=
 (d==sysModules)=false∧∃ (es:List (Str×Tok×Str×Tok)) (n:Nat),vs=es.map (fun e=> (e.1,e.2.2.1))∧(vs.map (·.1)).Nodup∧K.lookup d=some ⟨.type "dict",none,.dict (es.map (zp w.params)).toArray n,#[]⟩
def gE (vs:List (Str×Str)) (x:Str):Option Str:=(vs.find? fun kv=> decide (kv.1=x)).map (·.2)
section
variable {X:Cx} {H0:Hp} {O0:List Addr} {ps:PSt} {e:Expr} {pos p:Pos} {n nm t:Str} {d:Addr} {vs:List (Str×Str)}
theorem jh {prog:Program} {w:World}:∀ es:List (Str×Tok×Str×Tok),Pairs (strKind prog w) (es.map (zp w.params)) (es.map fun e=> (e.1,Value.str e.2.2.1 e.2.2.2))
 | []=> Pairs.nil
 | e::r=> Pairs.cons (strKind_is prog w e.1 e.2.1) rfl (jh r)
theorem uZ.dict (h:uZ X.w X.K d vs):∃ ws,nj X d ws∧∀ x,(∀ t,gE vs x=some t→∃ tk,valueAt ws x=some (.str t tk))∧(valueAt ws x).isSome=(gE vs x).isSome:=by
 obtain ⟨h1,es,m,rfl,nd,hl⟩:=h
 refine ⟨es.map fun e=> (e.1,Value.str e.2.2.1 e.2.2.2),⟨h1,fun h kin=> ?_⟩,fun x=> ?_⟩
 ·refine Heap.dictOf_iff.mpr ⟨_,kin _ _ hl,(es.map (zp X.w.params)).toArray,m,⟨rfl,rfl,rfl⟩,rfl,fun e he=> ?_,jh es,by rw [List.map_map] at nd ⊢; exact nd⟩
  obtain ⟨q,_,rfl⟩:=List.mem_map.mp (List.mem_toArray.mp he)
  exact ⟨q.1,strKind_is _ _ q.1 q.2.1,rfl⟩
 ·clear nd hl
  induction es with
  | nil=> exact ⟨fun t h=> (by simp [gE] at h),rfl⟩
  | cons e r ih=>
   unfold valueAt gE at *
   rw [List.map_cons,List.map_cons,List.find?_cons,List.find?_cons]
   by_cases z:e.1=x
   ·simp only [z,decide_true]
    exact ⟨fun t h=> ⟨e.2.2.2,by simp at h; simp [h]⟩,rfl⟩
   ·simp only [z,decide_false]
    exact ih
theorem xZ (h:uZ X.w X.K d vs) (hg:Gl X nm) (hm:X.mg nm=some (.ref d)) (he:Ev X H0 O0 ps e (.str n)) (hv:gE vs n=some t) (hs:si e:=by intro _ _; rfl) (hdb:(nm==("__debug__":Str))=false:=by decide):Ev X H0 O0 ps (.Subscript (.Name nm p) e pos) (.str t):=by
 obtain ⟨ws,hD,q⟩:=h.dict
 obtain ⟨tk,e1⟩:=(q n).1 t hv
 exact za hD hg hm he e1 hs hdb
theorem t5 (h:uZ X.w X.K d vs) (hg:Gl X nm) (hm:X.mg nm=some (.ref d)) (he:Ev X H0 O0 ps e (.str n)) (hdb:(nm==("__debug__":Str))=false:=by decide) (h1:behindInMarks .NotIn (.Name nm p)=false:=by first | exact ie _ | with_unfolding_all rfl):Tt X H0 O0 ps (.Compare e [.NotIn] [.Name nm p] pos) (!(gE vs n).isSome):=by
 obtain ⟨ws,hD,q⟩:=h.dict
 rw [← (q n).2]
 exact zr hD hg hm he hdb h1
end
end L2
namespace L2
open PySem PySem.Spec PyProof.Rows
theorem hX {M:Model} {Γ:PySem.Ctx} {p:Pos} {t:Sem PySem.Fin} {fs:List Frame} {s:Shared} {e:End} {s':Shared} (h:PySem.Runs M Γ p t fs s e s'):s.toks≤s'.toks:=by
 have st:∀ (s:Shared) g x,(s.setGen g x).toks=s.toks:=fun _ _ _=> rfl
 induction h <;> (try simp only [st] at *) <;> first | omega | (dsimp only at *; omega)
theorem ot {M:Model} {Γ:PySem.Ctx} {p:Pos} {g:Nat} {r:Resume} {s:Shared} {res:GenResult} {s':Shared} (h:Wakes M Γ p g r s res s'):s.toks≤s'.toks:=by
 unfold Wakes at h
 split at h
 ·exact h.elim
 ·split at h
  ·obtain ⟨e,s1,h1,_,_,rfl⟩:=h
   have:=hX h1
   exact this
  ·rw [h.2]; exact Nat.le_refl _
  ·rw [h.2]; exact Nat.le_refl _
 ·obtain ⟨e,s1,h1,_,_,rfl⟩:=h
  have:=hX h1
  exact this
 ·rw [h.2]; exact Nat.le_refl _
 ·rw [h.2]; exact Nat.le_refl _
theorem xa {α:Type} {M:Model} {Γ:PySem.Ctx} (n:Nat) (t:Sem α):∀ (Q:α→Pos→Shared→Prop) (E:Value→Pos→Shared→Prop) (p:Pos) (s:Shared),n≤s.toks→Sem.wp M Γ t Q E p s→Sem.wp M Γ t (fun a p s'=> Q a p s'∧n≤s'.toks) (fun a p s'=> E a p s'∧n≤s'.toks) p s:=by
 induction t with
 | pure a=> intro Q E p s hn h; rw [Sem.wp] at *; exact ⟨h,hn⟩
 | raise a=> intro Q E p s hn h; rw [Sem.wp] at *; exact ⟨h,hn⟩
 | unsupported _=> intro Q E p s hn h; rw [Sem.wp] at h; exact h.elim
 | finish _=> intro Q E p s hn h; rw [Sem.wp] at h; exact h.elim
 | rule _ k ih=> intro Q E p s hn h; rw [Sem.wp] at *; exact ih _ _ _ _ _ hn h
 | «at» _ k ih=> intro Q E p s hn h; rw [Sem.wp] at *; exact ih _ _ _ _ _ hn h
 | load a _ k ih=> intro Q E p s hn h; rw [Sem.wp] at *; obtain ⟨o,e,h⟩:=h; exact ⟨o,e,ih _ _ _ _ _ hn h⟩
 | update a _ f k ih=> intro Q E p s hn h; rw [Sem.wp] at *; exact ⟨h.1,ih _ _ _ _ _ hn h.2⟩
 | alloc o k ih=> intro Q E p s hn h; rw [Sem.wp] at *; exact ih _ _ _ _ _ hn h
 | loadIfAlive a k ih=> intro Q E p s hn h; rw [Sem.wp] at *; exact ih _ _ _ _ _ hn h
 | point _ k ih=> intro Q E p s hn h; rw [Sem.wp] at *; exact ih _ _ _ _ _ hn h
 | register _ _=> intro Q E p s hn h; rw [Sem.wp] at h; exact h.elim
 | fresh k ih=> intro Q E p s hn h; rw [Sem.wp] at *; exact ih _ _ _ _ _ (Nat.le_succ_of_le hn) h
 | ask k ih=> intro Q E p s hn h; rw [Sem.wp] at *; exact ih _ _ _ _ _ hn h
 | choose src m k ih=> intro Q E p s hn h; rw [Sem.wp] at *; exact ⟨h.1,ih _ _ _ _ _ hn h.2⟩
 | os q l k ih=> intro Q E p s hn h; rw [Sem.wp] at *; exact ih _ _ _ _ _ hn h
 | call c hh g l k ih=> intro Q E p s hn h; rw [Sem.wp] at *; obtain ⟨r,s',hr,h⟩:=h; exact ⟨r,s',hr,ih _ _ _ _ _ (Nat.le_trans hn (hX hr)) h⟩
 | handled own k ih=> intro Q E p s hn h; rw [Sem.wp] at *; exact ih _ _ _ _ _ hn h
 | newGen c k ih=> intro Q E p s hn h; rw [Sem.wp] at *; exact ih _ _ _ _ _ hn h
 | genState g k ih=> intro Q E p s hn h; rw [Sem.wp] at *; obtain ⟨o,e,h⟩:=h; exact ⟨o,e,ih _ _ _ _ _ hn h⟩
 | resume g r l k ih=> intro Q E p s hn h; rw [Sem.wp] at *; obtain ⟨o,s',e,h⟩:=h; exact ⟨o,s',e,ih _ _ _ _ _ (Nat.le_trans hn (ot e)) h⟩
 | yield _ _ _ _=> intro Q E p s hn h; rw [Sem.wp] at h; exact h.elim
 | stack k ih=> intro Q E p s hn h; rw [Sem.wp] at *; exact ih _ _ _ _ _ hn h
 | fork _ _=> intro Q E p s hn h; rw [Sem.wp] at h; exact h.elim
 | thread k ih=> intro Q E p s hn h; rw [Sem.wp] at *; exact ih _ _ _ _ _ hn h
 | await _ _ _ _ _=> intro Q E p s hn h; rw [Sem.wp] at h; exact h.elim
theorem jO {α:Type} {M:Model} {A:Around} {t:Sem α} {Q:α→Shared→Prop} {E:Value→Shared→Prop} {s:Shared} {n:Nat} (hn:n≤s.toks) (h:wpAny M A t Q E s):wpAny M A t (fun a s'=> Q a s'∧n≤s'.toks) (fun e s'=> E e s'∧n≤s'.toks) s:=
 fun Γ p hg=> xa n t _ _ p s hn (h Γ p hg)
theorem xC {α:Type} {t:Sem α} {Q Q':α→Shared→Prop} {M:Model} {A:Around} {E:Value→Shared→Prop} {s:Shared} {n:Nat} (hn:n≤s.toks) (h:wpAny M A t Q E s) (hQ:∀ a s',n≤s'.toks→Q a s'→Q' a s'):wpAny M A t Q' E s:=wpAny_mono (jO hn h) (fun a s' z=> hQ a s' z.2 z.1) fun _ _ x=> x.1
end L2
namespace L2
open PySem PySem.Spec PyProof.Rows
def PEt (X:Cx) (e:Expr) (t:TE):Prop:=∀ (pins:List (Addr×Obj)) (s:Shared) (σ:St) (H:Hp) (Q:VK),1≤s.toks→Inv X pins σ H s→t σ H Q→wpAny (model X.prog X.w) X.A (eval e X.env) (EP X pins σ Q) X.xe s
def PE1 (X:Cx) (e:Expr) (t:TE):Prop:=∀ (pins:List (Addr×Obj)) (s:Shared) (σ:St) (H:Hp) (Q:VK),Inv X pins σ H s→t σ H Q→wpAny (model X.prog X.w) X.A (eval e X.env) (fun u s'=> EP X pins σ Q u s'∧1≤s'.toks) X.xe s
def PA1 (X:Cx) (es:List Expr) (t:TA):Prop:=∀ (pos:Pos) (pins:List (Addr×Obj)) (s:Shared) (σ:St) (H:Hp) (Q:List V→Hp→Prop),Inv X pins σ H s→t σ H Q→wpAny (model X.prog X.w) X.A (spliced (backTo pos (starEach es X.env))) (fun us s'=> AP X pins σ Q us s'∧1≤s'.toks) X.xe s
def lj (X:Cx) (st:Stmt) (t:TS):Prop:=∀ (pins:List (Addr×Obj)) (s:Shared) (σ:St) (H:Hp) (D:jC),1≤s.toks→Inv X pins σ H s→t D σ H→wpAny (model X.prog X.w) X.A (exec st X.env) (SP X pins D) X.xe s
def iQ (X:Cx) (st:List Stmt) (t:TS):Prop:=∀ (pins:List (Addr×Obj)) (s:Shared) (σ:St) (H:Hp) (D:jC),1≤s.toks→Inv X pins σ H s→t D σ H→wpAny (model X.prog X.w) X.A (execs st X.env) (SP X pins D) X.xe s
def PIt (X:Cx) (tg iter:Expr) (wi:TI):Prop:=∀ (pins:List (Addr×Obj)) (s:Shared) (σ:St) (H:Hp) (R:It→Hp→Prop),1≤s.toks→Inv X pins σ H s→wi σ H R→wpAny (model X.prog X.w) X.A (eval iter X.env) (fun v s1=> wpAny (model X.prog X.w) X.A (pyIter v) (PIE X pins σ tg R) X.xe s1) X.xe s
structure eF (P:Program) (w:World) (K:PySem.W.Frag) (mg:Str→Option Value) (base:Heap) (CX:CXT) (k:Nat) (f:Addr) (fd:FuncData) (ps:List Str) (sp:Sp):Prop where
 len:∀ vs H Q E,sp vs H Q E→vs.length=ps.length
 run:∀ (A:Around) (outer:List Env) (s:Shared) (H:Hp) (args:Args) (us:List Value) (vs:List V) (Q:VK) (E:XK),1≤s.toks→bJ k A→nD P w K mg base A outer s H→BindsTo s fd args (ps.zip us)→aI vs us→sp vs H Q E→
  codeAny (model P w) A (.call (.ref f) args) (CR CX outer P w H s Q E) s
theorem eF.mono {P:Program} {w:World} {K:PySem.W.Frag} {mg:Str→Option Value} {base:Heap} {CX:CXT} {j k:Nat} {f:Addr} {fd:FuncData} {ps:List Str} {sp:Sp} (F:eF P w K mg base CX j f fd ps sp) (h:j≤k):eF P w K mg base CX k f fd ps sp:=
 ⟨F.len,fun A outer s H args us vs Q E ht hr=> F.run A outer s H args us vs Q E ht (hr.mono h)⟩
theorem uo {α:Type} {M:Model} {A:Around} {t:Sem α} {Q:α→Shared→Prop} {E:Value→Shared→Prop} {s:Shared} {n:Nat} (hn:n≤s.toks) (h:wpAny M A t (fun a s'=> n≤s'.toks→Q a s') E s):wpAny M A t Q E s:=xC hn h fun _ _ k q=> q k
theorem PEt.mono {X:Cx} {e:Expr} {t t':TE} (h:PEt X e t) (m:∀ σ H Q,t' σ H Q→t σ H Q):PEt X e t':=fun pins s σ H Q k I q=> h pins s σ H Q k I (m σ H Q q)
theorem PE1.mono {X:Cx} {e:Expr} {t t':TE} (h:PE1 X e t) (m:∀ σ H Q,t' σ H Q→t σ H Q):PE1 X e t':=fun pins s σ H Q I q=> h pins s σ H Q I (m σ H Q q)
theorem PA1.mono {X:Cx} {e:List Expr} {t t':TA} (h:PA1 X e t) (m:∀ σ H Q,t' σ H Q→t σ H Q):PA1 X e t':=fun pos pins s σ H Q I q=> h pos pins s σ H Q I (m σ H Q q)
theorem lj.mono {X:Cx} {e:Stmt} {t t':TS} (h:lj X e t) (m:∀ D σ H,t' D σ H→t D σ H):lj X e t':=fun pins s σ H D k I q=> h pins s σ H D k I (m D σ H q)
theorem iQ.mono {X:Cx} {e:List Stmt} {t t':TS} (h:iQ X e t) (m:∀ D σ H,t' D σ H→t D σ H):iQ X e t':=fun pins s σ H D k I q=> h pins s σ H D k I (m D σ H q)
theorem PIt.mono {X:Cx} {tg e:Expr} {t t':TI} (h:PIt X tg e t) (m:∀ σ H Q,t' σ H Q→t σ H Q):PIt X tg e t':=fun pins s σ H Q k I q=> h pins s σ H Q k I (m σ H Q q)
section
variable {X:Cx} {CX:CXT} {k:Nat} {f C:Addr} {fd:FuncData} {ps:List Str} {sp:Sp} {dvs:List V} {ds:List Value} {E:XK} {x m:Str} {p pos apos:Pos} {e o:Expr} {es:List Expr} {ta te:TE} {t:TA} {st:Stmt} {rest:List Stmt} {tS u:TS}
theorem zI {x j pos}:PE1 X (.Constant (.str x) j pos) (tC (.str x)):=fun _ s _ H _ I h=> Calls.Constant_str ⟨⟨.str x,H,I.tok _,⟨_,rfl⟩,h⟩,Nat.le_add_left 1 s.toks⟩
theorem u7 (ha:PE1 X e te) (hr:PA X es t) (hs:starEach (e::es) X.env=(false,eval e X.env)::starEach es X.env:=by rfl):PA1 X (e::es) (xS te t):=by
 intro pos pins s σ H Q I h
 rw [hs]
 show wpAny _ _ (spliced ((false,eval e X.env)::backTo pos (starEach es X.env))) _ _ s
 refine Calls.spliced_cons (thn (ha pins s σ H _ I h) fun u s1 ⟨⟨x,H1,I1,r1,q1⟩,k1⟩=> ?_)
 exact xC k1 (hr pos pins s1 σ H1 _ I1 q1) fun us s2 k2 ⟨xs,H2,I2,r2,q2⟩=> ⟨⟨x::xs,H2,I2,.cons r1 r2,q2⟩,k2⟩
theorem pE {pins:List (Addr×Obj)} {σ:St} {H:Hp} {s:Shared} {Q:VK} {us:List Value} {vs:List V} (F:eF X.prog X.w X.K X.mg X.base CX k f fd ps sp) (hr:bJ k X.A) (hb:aH X.K fd ps ds) (hd:aI dvs ds) (hx:bU CX X E)
  (hk1:1≤s.toks) (I:Inv X pins σ H s) (r:aI vs us) (h:sp (vs++dvs) H Q E):wpAny (model X.prog X.w) X.A (call (.ref f) us) (EP X pins σ Q) X.xe s:=by
 have r2:aI (vs++dvs) (us++ds):=r.append hd
 have hl:(us++ds).length=ps.length:=by rw [← r2.length]; exact F.len _ _ _ _ h
 refine wpAny_call (codeAny_mono (F.run X.A X.stack s H ⟨us,[]⟩ (us++ds) (vs++dvs) Q E hk1 hr I.env0 (hb s us I.kIn hl) r2 h) fun r s' hq=> ?_)
 cases r with
 | error e=> exact hx pins σ H s e s' I hq
 | ok fl=>
  cases fl with
  | ret u=> exact I.after hq
  | next=> exact False.elim hq
  | brk=> exact False.elim hq
  | cont=> exact False.elim hq
theorem vp (F:eF X.prog X.w X.K X.mg X.base CX k f fd ps sp) (hr:bJ k X.A) (hg:Gl X x) (hm:X.mg x=some (.ref f)) (hk:PySem.W.keepIn X.K (.ref f)=true) (hb:aH X.K fd ps ds) (hd:aI dvs ds) (hx:bU CX X E)
  (ha:PA1 X (e::es) t) (hdb:(x==("__debug__":Str))=false:=by decide) (he:starEach (e::es) X.env=(false,eval e X.env)::starEach es X.env:=by rfl) (hpl:(backTo pos (starEach es X.env)).any (·.1)=false:=by rfl):
  PE X (.Call (.Name x p) (e::es) [] pos) (vf sp dvs E t):=by
 intro pins s σ H Q I h
 refine wpAny_Call_Name_kw (eQ I hg hm ?_ hdb)
 refine PySem.W.callWith_K (h₀:=X.base) I.ok.mod.kin hk (thn (ha pos pins s σ H _ I h) fun us s1 ⟨⟨vs,H1,I1,r,q⟩,k1⟩=> ⟨I1.kIn,?_⟩) he hpl
 exact pE F hr hb hd hx k1 I1 r q
theorem u3 (F:eF X.prog X.w X.K X.mg X.base CX k f fd ps sp) (hr:bJ k X.A) (hg:Gl X x) (hm:X.mg x=some (.ref f)) (hk:PySem.W.keepIn X.K (.ref f)=true) (hb:aH X.K fd ps ds) (hd:aI dvs ds) (hx:bU CX X E)
  (ha:PA X (e::es) t) (hdb:(x==("__debug__":Str))=false:=by decide) (he:starEach (e::es) X.env=(false,eval e X.env)::starEach es X.env:=by rfl) (hpl:(backTo pos (starEach es X.env)).any (·.1)=false:=by rfl):
  PEt X (.Call (.Name x p) (e::es) [] pos) (vf sp dvs E t):=by
 intro pins s σ H Q k0 I h
 refine wpAny_Call_Name_kw (eQ I hg hm ?_ hdb)
 refine PySem.W.callWith_K (h₀:=X.base) I.ok.mod.kin hk (xC k0 (ha pos pins s σ H _ I h) fun us s1 k1 ⟨vs,H1,I1,r,q⟩=> ⟨I1.kIn,?_⟩) he hpl
 exact pE F hr hb hd hx k1 I1 r q
theorem xn {pl:Sem Bool} (he:PE X o ta) (c:Cls X.K C) (hm:me X.K C m f) (F:ba X.prog X.w X.K X.mg X.base CX k f fd ps sp) (hr:bJ k X.A) (hb:aH X.K fd ps ds) (hd:aI dvs ds) (hx:bU CX X E) (ha:PA1 X (e::es) t)
  (hst:starEach (e::es) X.env=(false,eval e X.env)::starEach es X.env:=by rfl) (hpl:(backTo pos (starEach es X.env)).any (·.1)=false:=by rfl)
  (ht:eval (.Call (.Attribute o m apos) (e::es) [] pos) X.env=(do
   let ov ← eval o X.env
   standAt apos.atName
   let (f,first) ← holding [ov] (getMethod ov m pl)
   callWith pos f first (backTo pos (starEach (e::es) X.env)) (backToKw pos (keywordEach [] X.env))):=by rfl):
  PE1 X (.Call (.Attribute o m apos) (e::es) [] pos) (xV C m sp dvs E ta t):=by
 intro pins s σ H Q I h
 refine PySem.W.methodCall_KW (pl:=pl) (thn (he pins s σ H _ I h) fun u s1 ⟨x,H1,I1,rx,a,dx,fs,ex,ea,l,q⟩=> ?_) ht
 subst ex
 obtain rfl:u=Value.ref a:=rx
 refine jz I1 ea c hm l ?_
 refine PySem.W.callWith_K (first:=[.ref a]) (h₀:=X.base) I.ok.mod.kin hm.kp (thn (ha pos pins s1 σ H1 _ I1 q) fun us s2 ⟨⟨vs,H2,I2,r,q2⟩,k2⟩=> ⟨I2.kIn,?_⟩) hst hpl
 exact wpAny_mono (jO k2 (oS (us:=.ref a::us) (vs:=.ref a::vs) F hr hb hd hx I2 (.cons rfl r) q2)) (fun _ _ z=> z) fun _ _ z=> z.1
theorem wl (he:PEt X e te):lj X (.Return (some e) pos) (AQ te):=by
 intro pins s σ H D k0 I h
 exact wpAny_Return_some (thn (he pins s σ H _ k0 I h) fun v s1 ⟨x,H1,I1,r1,q1⟩=> ⟨x,σ,H1,I1,r1,q1⟩)
theorem wc {i:Nat} {x:Str} {e:Expr} {te:TE} {pos':Pos} (hN:X.N.Nodup) (hi:X.N[i]?=some x) (hx:Loc X.env.scope x) (he:PEt X e te) (hs:swapsWith e (some (.Name x pos')) pos.line X.env=pure false:=by rfl) (hf:X.fn x=true∨X.env.scope.names.lookup x=some .local:=by first | exact .inl rfl | exact .inr rfl | assumption):
  lj X (.Assign [.Name x pos'] e pos) (vv te (jD i)):=by
 intro pins s σ H D k0 I h
 refine wpAny_Assign_Name (thn (he pins s σ H _ k0 I h) fun v s1 ⟨y,H1,I1,r1,q1⟩=> ?_) hs
 exact gZ I1 hN hi hx r1 (fun s2 I2=> ⟨_,H1,I2,q1⟩) hf
theorem rf (h1:lj X st tS) (h2:PSs X rest u)   :iQ X (st::rest) (zK tS u):=by
 intro pins s σ H D k0 I h
 refine wpAny_execs_cons (thn (h1 pins s σ H { D with nx:=u D } k0 I h) fun f s1 q=> ?_)
 cases f with
 | next=>
  obtain ⟨σ',H',I',q⟩:=q
  exact h2 pins s1 σ' H' D I' q
 | ret v=> exact q
 | brk=> exact q
 | cont=> exact q
theorem sj (h1:PS X st tS) (h2:iQ X rest u)   :iQ X (st::rest) (zK tS u):=by
 intro pins s σ H D k0 I h
 refine wpAny_execs_cons (xC k0 (h1 pins s σ H { D with nx:=u D } I h) fun f s1 k1 q=> ?_)
 cases f with
 | next=>
  obtain ⟨σ',H',I',q⟩:=q
  exact h2 pins s1 σ' H' D k1 I' q
 | ret v=> exact q
 | brk=> exact q
 | cont=> exact q
end
theorem yG {CX:CXT} {P:Program} {w:World} {K:PySem.W.Frag} {mg:Str→Option Value} {base:Heap} {k:Nat} {f:Addr} {name qual:Str} {params:Arguments} {body:List Stmt} {scope:Scope} {dV kV doc pm cdv ct oc:Value} {an od:Option Addr}
  {osl:Array (Option Value)} {N ps:List Str} {sp:Sp} (lk:K.lookup f=some ⟨oc,od,.func (PySem.W.fnOf name qual params body scope dV kV doc pm an cdv ct),osl⟩) (hcd:PySem.W.codeIn K cdv qual=true) (S:aq N ps scope)
  (len:∀ vs H Q E,sp vs H Q E→vs.length=ps.length)
  (hbody:∀ (A:Around) (outer:List Env) (s:Shared) (H:Hp) (vs:List V) (Q:VK) (E:XK),bJ k (A.deeper (envOfC qual scope s.heap.objs.size f cdv))→sp vs H Q E→
   ∃ t,iQ (ic CX P w K mg base N qual scope f cdv A outer s H E) body t∧t { nx:=fun _ H'=> Q .non H',rt:=Q } (start N vs) H):
  eF P w K mg base CX (k+1) f (PySem.W.fnOf name qual params body scope dV kV doc pm an cdv ct) ps sp:=by
 refine ⟨len,fun A outer s H args us vs Q E k0 hr e0 hb r hsp=> ?_⟩
 have hl:=len _ _ _ _ hsp
 have KX:K.In s.heap:=e0.mod.kin.keeps fun b o e=> (e0.bs b o e).1
 have lim:s.heap.NoLimit:=e0.mod.nolimit.keeps fun b o e=> (e0.bs b o e).1
 have hkind:∀ y∈ps.zip us,scope.names.lookup y.1=some .local∨(scope.names.lookup y.1=some .cell∧((cellsFrom (s.heap.objs.size+1) scope.names []).lookup y.1).isSome=true):=fun ⟨n,v⟩ hy=> by
  rcases S.par n (List.of_mem_zip hy).1 with q | q
  ·exact .inl q
  ·exact .inr ⟨q,PySem.W.cellsFrom_some _ _ _ (.inl q)⟩
 refine codeAny_call_function hr.depth (KX _ _ lk) rfl S.co S.gen rfl (PySem.W.codeRec_of KX hcd) (hb _ _ _ _ ?_)
 refine uo k0 ?_
 refine wpAny_newFunctionEnv_cells S.kind hkind fun env he s1 x k1=> ?_
 subst he
 refine ⟨lim.keeps x.toInCall.keep,codeAny_func ?_⟩
 obtain ⟨t,ht,hq⟩:=hbody A outer s H vs Q E (hr.deeper _) hsp
 have I:Inv (ic CX P w K mg base N qual scope f cdv A outer s H E) [] (start N vs) H s1:=kG S hr.hd e0 hl r x
 refine wpAny_mono (ht [] s1 (start N vs) H _ k1 I hq) (fun fl s' hs=> ?_) fun e s' hs=> hs
 have fin:∀ {σ':St} {H':Hp} {v:V} {u:Value},Inv (ic CX P w K mg base N qual scope f cdv A outer s H E) [] σ' H' s'→aT v u→Q v H'→CE outer P w H s Q u s':=
  fun {σ' H' v u} J rv q=> ⟨v,H',J.os,J.bare,J.base,J.hok,rv,q⟩
 cases fl with
 | ret u=>
  obtain ⟨v,σ',H',J,rv,q⟩:=hs
  exact fin J rv q
 | next=>
  obtain ⟨σ',H',J,q⟩:=hs
  exact fin (v:=V.non) (u:=Value.none) J rfl q
 | brk=>
  obtain ⟨_,_,_,q⟩:=hs
  exact False.elim q
 | cont=>
  obtain ⟨_,_,_,q⟩:=hs
  exact False.elim q
open PySem.W in
theorem Fun.okFT {P:Program} {w:World} {K:Frag} {mg:Str→Option Value} {base:Heap} {x qual:Str} {st:Stmt} {f:Addr} {fd:FuncData} {N ps:List Str} {k:Nat} {sp:Sp} (F:Fun K x qual st f fd) (S:aq N ps (af st)) (len:∀ vs H Q E,sp vs H Q E→vs.length=ps.length)
  (hbody:∀ (cdv:Value) (A:Around) (outer:List Env) (s:Shared) (H:Hp) (vs:List V) (Q:VK) (E:XK),bJ k (A.deeper (envOfC qual (af st) s.heap.objs.size f cdv))→sp vs H Q E→
   ∃ t,iQ (ic (CXF P w) P w K mg base N qual (af st) f cdv A outer s H E) (ao st) t∧t { nx:=fun _ H'=> Q .non H',rt:=Q } (start N vs) H):eF P w K mg base (CXF P w) (k+1) f fd ps sp:=by
 obtain ⟨oc,od,kV,doc,pm,an,cdv,ct,osl,rfl,lk,hcd⟩:=F.ex
 exact yG lk hcd S len fun A outer s H vs Q E hr hsp=> hbody cdv A outer s H vs Q E hr hsp
section
variable {X:Cx} {tg:Expr}
theorem tQ {l:Expr} {tl:TE} (hl:PEt X l tl):PIt X tg l (xP X.K tl):=by
 intro pins s σ H R k0 I h
 refine thn (hl pins s σ H _ k0 I h) fun v s1 ⟨x,H1,I1,r1,q1⟩=> ?_
 obtain ⟨a,e,⟨xs,hq⟩,q⟩:=q1
 subst e
 cases r1
 obtain ⟨its,rv,p,hz⟩:=I1.list hq
 refine wpAny_pyIter_list p.isList ?_
 refine ⟨s1.heap.objs.size,[s1.heap.objs.size],_,_,H1,rfl,I1.kept (t':=s1.toks) fun b o e=> Heap.get?_push_of_some _ e,kc a _,⟨_,Heap.get?_push_size _ rfl,rfl,rfl⟩,fun b hb=> ?_,q⟩
 have e:b=s1.heap.objs.size:=by simpa using hb
 subst e
 exact I1.fpOk (Nat.le_refl _) (I1.hok.fresh (Nat.le_refl _))
end
section
variable {o e:Expr} {es:List Expr} {to:TE} {t:TA} {name:Str} {apos cpos:Pos} {T id:String} {r:V→List V→Hp→VK→Prop}
theorem zC (pa:PlainAttrs T) (slot:Slot T name id) (hty:typeOf (.builtin id)=pure (.type "method_descriptor")) (hm:MtR X id r) (ho:PEt X o to) (ha:PA X (e::es) t)
  (hbase:attributeBase o name X.env (eval o X.env)=eval o X.env:=by rfl)
  (hfew:((backTo cpos (starEach (e::es) X.env)).all (fun x=> !x.1) && (backToKw cpos (keywordEach [] X.env)).all (fun x=> x.1.isSome)
   && decide ((e::es).length+([]:List Keyword).length+(if ([]:List Keyword).isEmpty then 0 else 1) < 30))=true:=by rfl)
  (hline:(apos.endLine==cpos.line)=true:=by rfl) (hs:starEach (e::es) X.env=(false,eval e X.env)::starEach es X.env:=by rfl) (hplain:(backTo cpos (starEach es X.env)).any (·.1)=false:=by rfl):
  PEt X (.Call (.Attribute o name apos) (e::es) [] cpos) (tBM X.K T r to t):=by
 intro pins s σ H Q k0 I h
 refine wpAny_Call_method_late hbase hfew hline rfl (thn (ho pins s σ H _ k0 I h) fun v s1 ⟨x,H1,I1,r1,ty,q1⟩=> ?_)
 obtain ⟨h1,h2⟩:=oy I1 r1 ty
 refine ⟨T,id,pa,slot,hty,h1,h2,?_⟩
 have hA:=ha cpos pins s1 σ H1 _ I1 q1
 rw [hs] at hA ⊢
 refine Calls.callWith_builtin (by show (false || (backTo cpos (starEach es X.env)).any (·.1))=false; rw [hplain] <;> rfl) (Calls.evalArgs_plain ?_)
 exact thn hA fun us s2 ⟨vs,H2,I2,r2,q2⟩=> hm pins s2 σ H2 x vs v us Q I2 r1 r2 q2
/- xs.append(e),list.index on a module's tuple .. are MtR facts of 06m -/
end
section
variable {X:Cx} {pins:List (Addr×Obj)} {σ:St} {H:Hp} {s:Shared}
theorem tV {elt iter tg:Expr} {scope:Scope} {cl:List (Str×Addr)} {pos:Pos} {is:List Nat} {wi:TI} {g:TG} {te:TE} (hc:X.calm=true) (B:bO X scope cl is)
  (hi:PIt X tg iter wi) (hg:∀ C s H fp,PG (am X scope cl C s H fp) tg g) (he:∀ C s H fp,PE (am X scope cl C s H fp) elt te) (hs:∀ x,foldedSetIterable iter X.env x=pure x:=by intro _; rfl):
  PEt X (.ListComp elt [⟨tg,iter,[],0⟩] scope pos) (uJ is wi g te):=by
 intro pins s σ H Q k0 I h
 rw [eval_ListComp]
 refine jU (use:=none) hc B hg he hs I (hi pins s σ H _ k0 I h) fun l C H' s' m I' hn h1 h2 h3 h4 h5 h6 q=> ⟨m,hn,fun h' hsb=> ?_⟩
 exact ⟨.ref l,H',I'.turned (t':=s'.toks) (fun b o hb e=> hsb.extBut b o hb e) h1 (Ne.symm h2.symm) (.inr h4) h5 h6,rfl,q⟩
end
def WsT (X:Cx) (H0:Hp) (O0:List Addr) (E:XK) (ss:List Stmt) (D:PD) (ps:PSt):Prop:=iQ X ss fun D' σ H=> Lf X.K H0 O0 E D D'∧∃ O,Rs X.K H0 O0 ps σ H O
def W1t (X:Cx) (H0:Hp) (O0:List Addr) (E:XK) (s:Stmt) (D:PD) (ps:PSt):Prop:=lj X s fun D' σ H=> Lf X.K H0 O0 E D D'∧∃ O,Rs X.K H0 O0 ps σ H O
def Evt (X:Cx) (H0:Hp) (O0:List Addr) (ps:PSt) (e:Expr) (u:U):Prop:=PEt X e fun σ H Q=> ∃ O,Rs X.K H0 O0 ps σ H O∧∀ v H',aC H H'→Rp X.K (hid H' O) v u→Q v H'
def nk (X:Cx) (H0:Hp) (O0:List Addr) (ps:PSt) (e:Expr) (xs:List U):Prop:=PEt X e fun σ H Q=> ∃ O,Rs X.K H0 O0 ps σ H O∧∀ a vs H',aC H H'→H a=none→H' a=some (.lst vs)→Rps X.K (hid H' (a::O)) vs xs→Q (.ref a) H'
def Ev1 (X:Cx) (H0:Hp) (O0:List Addr) (ps:PSt) (e:Expr) (u:U):Prop:=PE1 X e fun σ H Q=> ∃ O,Rs X.K H0 O0 ps σ H O∧∀ v H',aC H H'→Rp X.K (hid H' O) v u→Q v H'
def zo (X:Cx) (H0:Hp) (O0:List Addr) (ps:PSt) (es:List Expr) (us:List U):Prop:=PA1 X es fun σ H Q=> ∃ O,Rs X.K H0 O0 ps σ H O∧∀ vs H',aC H H'→Rps X.K (hid H' O) vs us→Q vs H'
section
variable {X:Cx} {H0:Hp} {O0:List Addr} {E:XK} {ps ps':PSt} {D:PD} {s:Stmt} {ss body:List Stmt} {a b c e:Expr} {es:List Expr} {pos p apos cpos:Pos} {u x y:U} {xs ys us:List U} {n:Nat} {CX:CXT} {f C d':Addr} {fd:FuncData} {pn:List Str} {spec:List U→Out→Prop} {nm:Str}
theorem Bc (h:W1 X H0 O0 E s { D with nx:=fun p=> WsT X H0 O0 E ss D p } ps):WsT X H0 O0 E (s::ss) D ps:=by
 have h2:iQ X ss fun D' σ H=> ∃ p,WsT X H0 O0 E ss D p∧Lf X.K H0 O0 E D D'∧∃ O,Rs X.K H0 O0 p σ H O:=fun pins s σ H D' k I ⟨p,w,l,r⟩=> w pins s σ H D' k I ⟨l,r⟩
 exact iQ.mono (sj h h2) fun D' σ H ⟨L,O,R⟩=> ⟨⟨fun p σ H O R q=> ⟨p,q,L,O,R⟩,L.bk,L.ct,L.rt⟩,O,R⟩
theorem qz (h:W1t X H0 O0 E s { D with nx:=fun p=> Ws X H0 O0 E ss D p } ps):WsT X H0 O0 E (s::ss) D ps:=by
 have h2:PSs X ss fun D' σ H=> ∃ p,Ws X H0 O0 E ss D p∧Lf X.K H0 O0 E D D'∧∃ O,Rs X.K H0 O0 p σ H O:=fun pins s σ H D' I ⟨p,w,l,r⟩=> w pins s σ H D' I ⟨l,r⟩
 exact iQ.mono (rf h h2) fun D' σ H ⟨L,O,R⟩=> ⟨⟨fun p σ H O R q=> ⟨p,q,L,O,R⟩,L.bk,L.ct,L.rt⟩,O,R⟩
theorem nk.ev (h:nk X H0 O0 ps e xs):Evt X H0 O0 ps e (.lst xs):=PEt.mono h fun σ H Q ⟨O,R,q⟩=> ⟨O,R,fun a vs H' s n h' r=> by
 have na:a ∉ O:=fun z=> R.dom a z n
 have r':=r.same (aR fun b hb=> List.mem_cons_of_mem a hb)
 exact q _ H' s (.lst (cE h' na) r'.len r'.at_)⟩
theorem zd {i:Nat} {x:Str} {pos':Pos} (hN:X.N.Nodup) (hi:X.N[i]?=some x) (hx:Loc X.env.scope x) (he:Evt X H0 O0 ps e u) (h:D.nx (ps.set i (some (.val u)))) (hs:swapsWith e (some (.Name x pos')) pos.line X.env=pure false:=by rfl) (hf:X.fn x=true∨X.env.scope.names.lookup x=some .local:=by first | exact .inl rfl | exact .inr rfl | assumption):
  W1t X H0 O0 E (.Assign [.Name x pos'] e pos) D ps:=lj.mono (wc hN hi hx he hs hf) fun D' σ H ⟨L,O,R⟩=> ⟨O,R,fun v H' s r=> L.nx _ _ _ O ((R.go s).set r) h⟩
theorem wO (he:nk X H0 O0 ps e xs) (h:D.rt (.new xs)):W1t X H0 O0 E (.Return (some e) pos) D ps:=
 lj.mono (wl he) fun D' σ H ⟨L,O,R⟩=> ⟨O,R,fun a vs H' s n q r=> L.rt _ h a vs H' (R.same.trans s) (R.same.free n) q (r.same (aR fun b hb=> by
  rcases List.mem_cons.mp hb with y | y
  ·subst y; exact List.mem_cons_self
  ·exact List.mem_cons_of_mem _ (R.old b y)))⟩
theorem ww (F:eF X.prog X.w X.K X.mg X.base CX n f fd pn (spU X.K spec)) (hr:bJ n X.A) (hg:Gl X nm) (hm:X.mg nm=some (.ref f)) (hk:PySem.W.keepIn X.K (.ref f)=true) (hb:aH X.K fd pn []) (hx:bU CX X E0)
  (ha:EvA X H0 O0 ps (e::es) us) (h:spec us (.new xs)) (hdb:(nm==("__debug__":Str))=false:=by decide) (he:starEach (e::es) X.env=(false,eval e X.env)::starEach es X.env:=by rfl) (hpl:(backTo pos (starEach es X.env)).any (·.1)=false:=by rfl):
  nk X H0 O0 ps (.Call (.Name nm p) (e::es) [] pos) xs:=
 PEt.mono (u3 F hr hg hm hk hb .nil hx ha hdb he hpl) fun σ H Q ⟨O,R,q⟩=> ⟨O,R,fun vs H1 s1 r1=> by
  show spU X.K spec (vs++[]) H1 Q _
  rw [List.append_nil]
  exact ⟨us,O,.new xs,(R.go s1).dom,r1,h,fun a vs H2 s2 n2 h2 r2=> q a vs H2 (s1.trans s2) (s1.free n2) h2 r2⟩⟩
theorem nI (F:eF X.prog X.w X.K X.mg X.base CX n f fd pn (spU X.K spec)) (hr:bJ n X.A) (hg:Gl X nm) (hm:X.mg nm=some (.ref f)) (hk:PySem.W.keepIn X.K (.ref f)=true) (hb:aH X.K fd pn []) (hx:bU CX X E0)
  (ha:zo X H0 O0 ps (e::es) us) (h:spec us (.val u)) (hdb:(nm==("__debug__":Str))=false:=by decide) (he:starEach (e::es) X.env=(false,eval e X.env)::starEach es X.env:=by rfl) (hpl:(backTo pos (starEach es X.env)).any (·.1)=false:=by rfl):
  Ev X H0 O0 ps (.Call (.Name nm p) (e::es) [] pos) u:=
 PE.mono (vp F hr hg hm hk hb .nil hx ha hdb he hpl) fun σ H Q ⟨O,R,q⟩=> ⟨O,R,fun vs H1 s1 r1=> by
  show spU X.K spec (vs++[]) H1 Q _
  rw [List.append_nil]
  exact ⟨us,O,.val u,(R.go s1).dom,r1,h,fun v H2 s2 r2=> q v H2 (s1.trans s2) r2⟩⟩
theorem rW {l:List Nat} {z:Str} {c:Nat} (ha:Evt X H0 O0 ps a (.str (T' l))) (hb:Ev X H0 O0 ps e (.str z)) (hse:starEach [e] X.env=(false,eval e X.env)::starEach [] X.env) (hz:(T' l).length+2≤sizeLine) (hy:z=⟨#[c]⟩)
  (hbase:attributeBase a "split" X.env (eval a X.env)=eval a X.env:=by rfl)
  (hfew:((backTo cpos (starEach [e] X.env)).all (fun x=> !x.1) && (backToKw cpos (keywordEach [] X.env)).all (fun x=> x.1.isSome) && decide (([e]:List Expr).length+([]:List Keyword).length+(if ([]:List Keyword).isEmpty then 0 else 1) < 30))=true:=by rfl)
  (hline:(apos.endLine==cpos.line)=true:=by rfl) (hplain:(backTo cpos (starEach [] X.env)).any (·.1)=false:=by rfl):
  nk X H0 O0 ps (.Call (.Attribute a "split" apos) [e] [] cpos) ((spl c l).map fun p=> U.str (T' p)):=by
 subst hy
 refine PEt.mono (zC PySem.F.plainAttrs_str PySem.F.slot_str_split PySem.F.type_str_split mI ha (c_ hb eg hse) hbase hfew hline hse hplain) fun σ H Q ⟨O,R,q⟩=> ⟨O,R,fun v H1 s1 r1=> ?_⟩
 cases r1
 refine ⟨rfl,O,R.go s1,fun w H2 s2 r2=> ?_⟩
 cases r2
 have e1:(Txt.split (T' l) ⟨#[c]⟩).map U.str=(spl c l).map fun p=> U.str (T' p):=by rw [o5,List.map_map]; rfl
 refine ⟨_,_,rfl,rfl,rfl,hz,fun p hp=> q p _ _ ((s1.trans s2).trans (bg hp _)) ((s1.trans s2).free hp) aD ?_⟩
 rw [← e1]
 exact jJ _
theorem wS {tg iter elt:Expr} {scope:Scope} {cl:List (Str×Addr)} {is:List Nat} {g:TG} {f:PSt→U→PSt} {dom:U→Prop} (hc:X.calm=true) (B:bO X scope cl is) (hi:nk X H0 O0 ps iter xs) (hg:∀ C s H fp,PG (am X scope cl C s H fp) tg g) (gk:GOk g X.K is f dom)
  (hlen:ys.length=xs.length) (hz:xs.length≤sizeLine) (hdom:∀ x∈xs,dom x) (he:∀ C s H fp (i:Nat) (x y:U),xs[i]?=some x→ys[i]?=some y→Ev (am X scope cl C s H fp) H0 O0 (f (cA is ps) x) elt y)
  (hs:∀ x,foldedSetIterable iter X.env x=pure x:=by intro _; rfl):nk X H0 O0 ps (.ListComp elt [⟨tg,iter,[],0⟩] scope pos) ys:=by
 have hte:∀ C s H fp,PE (am X scope cl C s H fp) elt fun σ H Q=> ∃ i x y,xs[i]?=some x∧ys[i]?=some y∧∃ O',Rs X.K H0 O0 (f (cA is ps) x) σ H O'∧∀ v H',aC H H'→Rp X.K (hid H' O') v y→Q v H':=
  fun C s H fp pins s' σ H' Q I ⟨i,x,y,h1,h2,z⟩=> he C s H fp i x y h1 h2 pins s' σ H' Q I z
 have hi':PIt X tg iter fun σ H R=> ∃ O,Rs X.K H0 O0 ps σ H O∧∀ J H',aC H H'→Yl X.K J (hid H' O) xs→R J H':=PIt.mono (tQ hi.ev) fun σ H Q ⟨O,R,q⟩=> ⟨O,R,fun v H' s r=> ?_⟩
 ·refine PEt.mono (tV hc B hi' hg hte hs) fun σ H Q ⟨O,R,q⟩=> ⟨O,R,fun J H1 s1 Y=> ?_⟩
  exact iA gk (R.go s1) Y hlen hz hdom (fun i x y σ H O' Q h1 h2 R' z=> ⟨i,x,y,h1,h2,O',R',z⟩) fun a vs H' s n h r=> q a vs H' (s1.trans s) (s1.free n) h r
 ·obtain ⟨a,vs,rfl,hq,rs⟩:∃ a vs,v=.ref a∧SqL X.K (hid H' O) a vs∧Rps X.K (hid H' O) vs xs:=by
   cases r with
   | lst hq hl hh=> exact ⟨_,_,rfl,SqL.of hq,hl,hh⟩
  refine ⟨a,rfl,⟨vs,aE.seq hq⟩,q _ H' s fun H2 s2=> ⟨fun i hi=> ?_,⟨vs,s2.seq hq,by rw [rs.len]; exact Nat.le_refl _⟩⟩⟩
  have hi2:i < vs.length:=by rw [rs.len]; exact hi
  exact ⟨⟨vs,vs[i],s2.seq hq,List.getElem?_eq_getElem hi2⟩,fun z H3 y=> ⟨y.1,xs[i],List.getElem?_eq_getElem hi,rs.at_ i z _ (y.2 vs (s2.seq hq)) (List.getElem?_eq_getElem hi)⟩⟩
theorem pO {i:Nat} {w:Bool} {d C':Addr} {kvs:List (Str×U)} {m xx:Str} {k:Nat} {spec':Addr→List (Str×U)→List U→Out→Prop} {pl:Sem Bool} (hp:ps[i]?=some (some (.dsk w C' d' d kvs))) (hc:Cls X.K C') (hm:me X.K C' m f) (F:ba X.prog X.w X.K X.mg X.base CX k f fd pn (spD X.K false C' spec')) (hr:bJ k X.A) (hb:aH X.K fd pn []) (hx:bU CX X E0) (ha:zo X H0 O0 ps (e::es) us) (h:spec' d kvs us (.val u))
  (hml:(m==("lands":Str))=false:=by decide) (hN:X.N[i]?=some xx:=by rfl) (hv:Vis X.env.scope xx:=by first | exact Or.inl rfl | exact Or.inr (Or.inl rfl) | exact Or.inr (Or.inr rfl)) (hd:(xx==("__debug__":Str))=false:=by decide) (hcd:(xx==("__classdict__":Str))=false:=by decide)
  (hst:starEach (e::es) X.env=(false,eval e X.env)::starEach es X.env:=by rfl) (hpl:(backTo pos (starEach es X.env)).any (·.1)=false:=by rfl)
  (ht:eval (.Call (.Attribute (.Name xx p) m apos) (e::es) [] pos) X.env=(do
   let ov ← eval (.Name xx p) X.env
   standAt apos.atName
   let (f,first) ← holding [ov] (getMethod ov m pl)
   callWith pos f first (backTo pos (starEach (e::es) X.env)) (backToKw pos (keywordEach [] X.env))):=by rfl):
  Ev1 X H0 O0 ps (.Call (.Attribute (.Name xx p) m apos) (e::es) [] pos) u:=
 PE1.mono (xn (pl:=pl) (dH hN hv hd hcd) hc hm F hr hb .nil hx ha hst hpl ht) fun σ H Q ⟨O,R,q⟩=> by
  obtain ⟨v,h1,dx,kv,rfl,h3,h4,h5,h6,h7⟩:=R.at_ i _ hp
  refine ⟨_,h1,d',dx,_,rfl,h5,by rw [List.lookup_cons,hml]; rfl,O,R,fun vs H' s r=> ?_⟩
  have sub:∀ b∈d::O,b∈O:=fun b hb=> by
   rcases List.mem_cons.mp hb with y | y
   ·subst y; exact h3
   ·exact y
  show spD X.K false C' spec' (V.ref d'::(vs++[])) H' Q E0
  rw [List.append_nil]
  exact ⟨d',dx,d,kv,kvs,vs,us,O,.val u,rfl,s _ _ h5,s _ _ h6,(R.go s).dom,nofun,(h7.same (aK s)).same (aR sub),r.same (aR sub),h,fun v H2 s2 r2=> q v H2 (s.trans s2) (r2.same (aR fun b hb=> List.mem_cons_of_mem _ hb))⟩
theorem sW {z:Str} {j:Nat}:Ev1 X H0 O0 ps (.Constant (.str z) j pos) (.str z):=PE1.mono zI fun σ H Q ⟨O,R,q⟩=> q (.str z) H (.refl H) (.str z)
theorem iU (ha:Ev1 X H0 O0 ps e u) (hr:EvA X H0 O0 ps es us) (hs:starEach (e::es) X.env=(false,eval e X.env)::starEach es X.env:=by rfl):zo X H0 O0 ps (e::es) (u::us):=
 PA1.mono (u7 ha hr hs) fun σ H Q ⟨O,R,q⟩=> ⟨O,R,fun v H1 s1 r1=> ⟨O,R.go s1,fun vs H2 s2 r2=> q _ H2 (s1.trans s2) (.cons (r1.same (aK s2)) r2)⟩⟩
theorem yC {x:Str} {z a b:Str} {i j2 j3:Nat} {p4 p5 p6 p7 p9:Pos} (hx:ps[i]?=some (some (.val (.str z)))) (hab:(a==b)=false) (hz:z.length+(z.length+1) * b.length≤16777216)
  (hN:X.N[i]?=some x:=by rfl) (hv:Vis X.env.scope x:=by first | exact Or.inl rfl | exact Or.inr (Or.inl rfl) | exact Or.inr (Or.inr rfl)) (hd:(x==("__debug__":Str))=false:=by decide) (hcd:(x==("__classdict__":Str))=false:=by decide)
  (hbase:attributeBase (.Name x p4) "replace" X.env (eval (.Name x p4) X.env)=eval (.Name x p4) X.env:=by rfl)
  (hfew:((backTo p9 (starEach [.Constant (.str a) j2 p6,.Constant (.str b) j3 p7] X.env)).all (fun x=> !x.1) && (backToKw p9 (keywordEach [] X.env)).all (fun x=> x.1.isSome) && decide (([.Constant (.str a) j2 p6,.Constant (.str b) j3 p7]:List Expr).length+([]:List Keyword).length+(if ([]:List Keyword).isEmpty then 0 else 1) < 30))=true:=by rfl)
  (hline:(p5.endLine==p9.line)=true:=by rfl):
  Evt X H0 O0 ps (.Call (.Attribute (.Name x p4) "replace" p5) [.Constant (.str a) j2 p6,.Constant (.str b) j3 p7] [] p9) (.str (Txt.replace z a b)):=by
 intro pins s σ H Q k0 I ⟨O,R,q⟩
 obtain ⟨v2,g2,r2⟩:=R.at_ i _ hx
 cases r2
 refine wpAny_Call_method_late hbase hfew hline rfl (rg I hN hv hd hcd g2 fun w2 q2=> ?_)
 obtain ⟨t2,rfl⟩:=q2
 refine ⟨"str",_,PySem.F.plainAttrs_str,PySem.F.slot_str_replace,PySem.F.type_str_replace,typeIs_str _ _ _,fun a e=> (nomatch e),?_⟩
 rw [show starEach [.Constant (.str a) j2 p6,.Constant (.str b) j3 p7] X.env=(false,eval (.Constant (.str a) j2 p6) X.env)::starEach [.Constant (.str b) j3 p7] X.env from aM]
 rw [show starEach [.Constant (.str b) j3 p7] X.env=(false,eval (.Constant (.str b) j3 p7) X.env)::starEach [] X.env from aM]
 refine Calls.callWith_builtin rfl (Calls.evalArgs_plain ?_)
 refine Calls.spliced_cons ?_
 refine Calls.Constant_str (k:=j2) (pos:=p6) ?_
 refine Calls.spliced_cons ?_
 refine Calls.Constant_str (k:=j3) (pos:=p7) ?_
 refine Calls.spliced_nil ?_
 refine SC.replace (by show s.toks≠0; omega) (by show s.toks+1≠0; omega) (by show s.toks≠s.toks+1; omega) hab hz fun t' m=> ?_
 exact ⟨.str (Txt.replace z a b),H,I.tok m,⟨_,rfl⟩,q (.str _) H (.refl H) (.str _)⟩
end
section
variable {P:Program} {w:World} {K:PySem.W.Frag} {mg:Str→Option Value} {base:Heap} {N pn:List Str} {qual nm:Str} {scope:Scope} {f:Addr} {cd:Value} {A:Around} {outer:List Env} {s:Shared} {H H0:Hp} {O0:List Addr} {E:XK} {D:PD} {ps:PSt} {u:U}
theorem vL {st:Stmt} {fd:FuncData} {k:Nat} {spec:List U→Out→Prop} (F:Fun K nm qual st f fd) (S:aq N pn (af st)) (len:∀ us o,spec us o→us.length=pn.length)
  (hbody:∀ (cdv:Value) (A:Around) (outer:List Env) (s:Shared) (H:Hp) (E:XK) (O:List Addr) (us:List U) (o:Out),bJ k (A.deeper (envOfC qual (af st) s.heap.objs.size f cdv))→spec us o→
   WsT (ic (CXF P w) P w K mg base N qual (af st) f cdv A outer s H E) H O E (ao st) ⟨fun _=> o=.val .non,fun o'=> o'=o,fun _=> False,fun _=> False⟩ (fv N us)):eF P w K mg base (CXF P w) (k+1) f fd pn (spU K spec):=by
 refine F.okFT S (fun vs H Q E h=> ?_) fun cdv A outer s H vs Q E hr h=> ?_
 ·obtain ⟨us,O,o,_,r,hsp,_⟩:=h
  rw [r.len]; exact len us o hsp
 ·obtain ⟨us,O,o,d,r,hsp,q⟩:=h
  refine ⟨_,hbody cdv A outer s H E O us o hr hsp,⟨fun ps σ H' O' R e=> ?_,fun _ _ _ _ _ e=> e.elim,fun _ _ _ _ _ e=> e.elim,fun o' e=> by subst e; exact q⟩,O,?_⟩
  ·subst e; exact q .non H' R.same .non
  ·refine ⟨.refl H,fun a h=> h,fun a h=> .inl h,d,?_,fun i sl e=> ?_,fun i j xs ys a e1 e2 _ _=> ?_⟩
   ·unfold start fv
    rw [List.length_append,List.length_append,List.length_map,List.length_map,List.length_replicate,List.length_replicate,r.len]
   ·unfold fv at e
    by_cases hi:i < us.length
    ·rw [List.getElem?_append_left (by simpa using hi),List.getElem?_map,List.getElem?_eq_getElem hi] at e
     cases e
     obtain ⟨v,h1,h2⟩:=r.get (List.getElem?_eq_getElem hi)
     refine ⟨v,?_,h2⟩
     unfold start
     rw [List.getElem?_append_left (by simpa [r.len] using hi),List.getElem?_map,h1]; rfl
    ·rw [List.getElem?_append_right (by simpa using hi),List.getElem?_replicate] at e
     split at e <;> cases e
   ·exfalso
    unfold fv at e1
    by_cases hi:i < us.length
    ·rw [List.getElem?_append_left (by simpa using hi),List.getElem?_map,List.getElem?_eq_getElem hi] at e1
     cases e1
    ·rw [List.getElem?_append_right (by simpa using hi),List.getElem?_replicate] at e1
     split at e1 <;> cases e1
end
end L2
namespace L2
open PySem PySem.Spec PyProof.Rows
theorem xt {X:Cx} {H0:Hp} {O0:List Addr} {ps:PSt} {a b c:Expr} {x y z:U} {k m:Bool} {pos:Pos} {op op':CmpOp} (ho:OpS X (compareOp op) x y (.bl k)) (ho':OpS X (compareOp op') y z (.bl m)) (ha:Ev X H0 O0 ps a x) (hb:Ev X H0 O0 ps b y) (hc:Ev X H0 O0 ps c z)
  (hm:lastMarks [op,op'] [b,c]=false:=by with_unfolding_all rfl):Tt X H0 O0 ps (.Compare a [op,op'] [b,c] pos) (k && m):=
 PT.mono (tm ho ho' ha hb hc hm) fun σ H Q ⟨O,R,q⟩=> ⟨O,R,fun v1 H1 s1 r1=> ⟨O,R.go s1,fun v2 H2 s2 r2=> ⟨(r1.same (aK s2)).out,r2.out,k,rfl,by
  cases k with
  | false=> exact ln ⟨_,rfl,q H2 (s1.trans s2)⟩
  | true=> exact nT ⟨O,(R.go s1).go s2,fun v3 H3 s3 r3=> ⟨(r2.same (aK s3)).out,r3.out,_,rfl,q H3 ((s1.trans s2).trans s3)⟩⟩⟩⟩⟩
end L2
namespace L2
open PySem PySem.Spec PyProof.Rows
theorem zM {X:Cx} {x y:Str}:OpS X (compareOp .NotIn) (.str x) (.str y) (.bl (!(!(Builtin.Str.occurrences y x 0 y.length 1).isEmpty))):=by
 intro pins s σ H v w p q Q I r1 r2 h
 obtain ⟨k1,k2,k3⟩:=h
 cases k1; cases k2
 obtain ⟨t,rfl⟩:=r1
 obtain ⟨t',rfl⟩:=r2
 exact PyProof.Rows.notIn_str ⟨.bl _,H,I,rfl,k3⟩
theorem mK {X:Cx} {H0:Hp} {O0:List Addr} {ps ps1:PSt} {e:Expr} {c c':Bool} (h:c=c') (t:TtK X H0 O0 ps e c ps1):TtK X H0 O0 ps e c' ps1:=h ▸ t
theorem tf {X:Cx} {H0:Hp} {O0:List Addr} {ps:PSt} {e:Expr} {u u':U} (h:u=u') (t:Evt X H0 O0 ps e u):Evt X H0 O0 ps e u':=h ▸ t
end L2
local macro_rules | `(tactic| walk_at "sz")=> `(tactic| first | with_reducible assumption | ((with_reducible apply L2.Sz.sub') <;> walk_at "sz") | ((with_reducible apply L2.Sz.add') <;> walk_at "sz") | ((with_reducible apply L2.Sz.mul) <;> walk_at "sz") | ((with_reducible apply L2.Sz.neg) <;> walk_at "sz") | ((with_reducible apply L2.Sz.ediv) <;> walk_at "sz") | ((with_reducible apply L2.Sz.abs) <;> walk_at "sz") | exact L2.Sz.lit (m:=8) (by decide) | exact L2.Sz.emod (m:=250) (by decide) (by decide) | exact L2.Sz.lit (m:=250) (by decide))
local macro_rules | `(tactic| walk_at "mul")=> `(tactic| exact L2.Sz.ok (by walk_at "sz") (by walk_at "sz") (by decide))
local macro_rules | `(tactic| walk_at "div")=> `(tactic| first | exact ⟨by decide,L2.Sz.mono (m:=250) (by decide) (by decide)⟩ | exact ⟨by omega,L2.Sz.mono (by walk_at "sz") (by decide)⟩)
local macro_rules | `(tactic| walk_at "mod")=> `(tactic| first | decide | omega)
local macro_rules | `(tactic| walk_at "szb")=> `(tactic| exact L2.Sz.mono (by walk_at "sz") (by decide))
local macro_rules | `(tactic| walk_at "kit")=> `(tactic| first | exact L2.kit_int_int _ | exact L2.kit_int_bool _ | exact L2.kit_tuple_tuple _ | exact L2.kit_list_list _ | exact L2.kit_bool_int _ | exact L2.kit_list_tuple _ | rfl)
local macro_rules | `(tactic| walk_at "ok")=> `(tactic| first | rfl | decide)
local macro_rules | `(tactic| walk_at "sub")=> `(tactic| first | exact trivial | (refine ⟨rfl,?_⟩; walk_at "sub") | (with_reducible apply L2.SubP.skip; walk_at "sub"))
local macro_rules | `(tactic| walk_at "len")=> `(tactic| first | decide | (simp only [List.length_append,List.length_cons,List.length_nil,List.length_map]; decide))
namespace My
open PySem PySem.Spec PyProof.Rows L2
def top (i:Nat):Stmt:=PySem.Challenge.pw_stakefield_k84_whole_nothing_thinner_by.main.body.getD i (.Pass ⟨0,0,0,0⟩)
def vO:Stmt→List Stmt
 | .ClassDef _ _ _ b _ _ _ _ _ _ _=> b
 | _=> []
abbrev iB:Stmt:=top 15
abbrev ip:Stmt:=top 29
abbrev cu:Stmt:=top 30
abbrev fJ:Stmt:=top 31
abbrev gv:Stmt:=top 39
abbrev cT:Stmt:=top 81
abbrev aZ:Stmt:=top 82
abbrev bR:Stmt:=top 83
abbrev cy:Stmt:=top 84
abbrev bT:Stmt:=top 85
abbrev cx:Stmt:=top 86
abbrev gw:Stmt:=top 89
abbrev cq:Stmt:=top 90
abbrev fK:Stmt:=top 91
abbrev fL:Stmt:=top 92
abbrev eG:Stmt:=top 93
abbrev cS:Stmt:=top 94
abbrev h9:Stmt:=top 95
abbrev cX:Stmt:=top 101
abbrev eK:Stmt:=top 102
abbrev cf:Stmt:=top 103
abbrev bL:Stmt:=top 104
abbrev im:Stmt:=top 105
abbrev cQ:Stmt:=top 110
abbrev eO:Stmt:=top 111
abbrev cR:Stmt:=top 114
abbrev ci:Stmt:=top 115
abbrev bQ:Stmt:=top 116
abbrev bC:Stmt:=top 117
abbrev bN:Stmt:=top 118
abbrev bP:Stmt:=top 119
abbrev bX:Stmt:=top 120
abbrev cg:Stmt:=top 121
abbrev cV:Stmt:=top 122
abbrev iI:Stmt:=top 123
abbrev cY:Stmt:=(vO (top 112)).getD 0 (.Pass ⟨0,0,0,0⟩)
abbrev cW:Stmt:=(vO (top 112)).getD 1 (.Pass ⟨0,0,0,0⟩)
abbrev cP:Stmt:=(vO (top 112)).getD 2 (.Pass ⟨0,0,0,0⟩)
abbrev bM:Stmt:=(vO (top 112)).getD 4 (.Pass ⟨0,0,0,0⟩)
def dR:List (Str×Str):=[("field","NEW P"),("move","NEW ONE A B C D E F"),("fold","NEW ONE K"),("sum","NEW ONE OTHER"),("form","NEW ONE"),("facing","NEW ONE"),("drop","ONE"),("names",""),("show","ONE"),("area","ONE"),("rim","ONE"),("count","ONE K"),("inner","ONE K"),("mixed","ONE OTHER"),("share","ONE A B C"),("where","ONE P"),("tell","ONE K P"),("alike","ONE OTHER"),("thin","ONE")]
theorem xw:aq ["number"] ["number"] (af iB):=⟨rfl,rfl,rfl,by decide+kernel,rfl,by decide+kernel,by decide+kernel⟩
theorem wC:aq ["P","Q","R"] ["P","Q","R"] (af ip):=⟨rfl,rfl,rfl,by decide+kernel,rfl,by decide+kernel,by decide+kernel⟩
theorem d9:aq ["row","kept","P"] ["row"] (af cu):=⟨rfl,rfl,rfl,by decide+kernel,rfl,by decide+kernel,by decide+kernel⟩
theorem fc:aq ["points","row","there","back"] ["points"] (af fJ):=⟨rfl,rfl,rfl,by decide+kernel,rfl,by decide+kernel,by decide+kernel⟩
theorem pY:aq ["land","k","P"] ["land","k"] (af gv):=⟨rfl,rfl,rfl,by decide+kernel,rfl,by decide+kernel,by decide+kernel⟩
theorem md:aq ["thing"] ["thing"] (af cT):=⟨rfl,rfl,rfl,by decide+kernel,rfl,by decide+kernel,by decide+kernel⟩
theorem bW:aq ["text","figures","sign"] ["text"] (af aZ):=⟨rfl,rfl,rfl,by decide+kernel,rfl,by decide+kernel,by decide+kernel⟩
theorem jw:aq ["text"] ["text"] (af bR):=⟨rfl,rfl,rfl,by decide+kernel,rfl,by decide+kernel,by decide+kernel⟩
theorem fY:aq ["text","parts"] ["text"] (af cy):=⟨rfl,rfl,rfl,by decide+kernel,rfl,by decide+kernel,by decide+kernel⟩
theorem jH:aq ["number"] ["number"] (af bT):=⟨rfl,rfl,rfl,by decide+kernel,rfl,by decide+kernel,by decide+kernel⟩
theorem j9:aq ["P"] ["P"] (af cx):=⟨rfl,rfl,rfl,by decide+kernel,rfl,by decide+kernel,by decide+kernel⟩
theorem lL:aq ["land","a","b","worths","P"] ["land","a","b"] (af gw):=⟨rfl,rfl,rfl,by decide+kernel,rfl,by decide+kernel,by decide+kernel⟩
theorem j6:aq ["land","way"] ["land","way"] (af cq):=⟨rfl,rfl,rfl,by decide+kernel,rfl,by decide+kernel,by decide+kernel⟩
theorem tI:aq ["first","second","m"] ["first","second","m"] (af fK):=⟨rfl,rfl,rfl,by decide+kernel,rfl,by decide+kernel,by decide+kernel⟩
theorem uq:aq ["land","first","second","m"] ["land","first","second","m"] (af fL):=⟨rfl,rfl,rfl,by decide+kernel,rfl,by decide+kernel,by decide+kernel⟩
theorem cU:aq ["land","first","second","low","high","middle"] ["land","first","second"] (af eG):=⟨rfl,rfl,rfl,by decide+kernel,rfl,by decide+kernel,by decide+kernel⟩
theorem hG:aq ["land","first","second","back"] ["land","first","second"] (af cS):=⟨rfl,rfl,rfl,by decide+kernel,rfl,by decide+kernel,by decide+kernel⟩
theorem fP:aq ["land","first","second","rest"] ["land"] (af h9):=⟨rfl,rfl,rfl,by decide+kernel,rfl,by decide+kernel,by decide+kernel⟩
theorem gR:aq ["row","words"] ["row"] (af cX):=⟨rfl,rfl,rfl,by decide+kernel,rfl,by decide+kernel,by decide+kernel⟩
theorem di:aq ["words","kinds","many","more"] ["words"] (af eK):=⟨rfl,rfl,rfl,by decide+kernel,rfl,by decide+kernel,by decide+kernel⟩
theorem eZ:aq ["word","letters","sign"] ["word"] (af cf):=⟨rfl,rfl,rfl,by decide+kernel,rfl,by decide+kernel,by decide+kernel⟩
theorem dv:aq ["land","numbers","P","number"] ["land"] (af bL):=⟨rfl,rfl,rfl,by decide+kernel,rfl,by decide+kernel,by decide+kernel⟩
theorem w_:aq ["deed","given"] ["deed","given"] (af im):=⟨rfl,rfl,rfl,by decide+kernel,rfl,by decide+kernel,by decide+kernel⟩
theorem g9:aq ["land","way"] ["land"] (af cQ):=⟨rfl,rfl,rfl,by decide+kernel,rfl,by decide+kernel,by decide+kernel⟩
theorem rM:aq ["deed","given"] ["deed","given"] (af eO):=⟨rfl,rfl,rfl,by decide+kernel,rfl,by decide+kernel,by decide+kernel⟩
theorem l_:aq ["script","k"] ["script","k"] (af cR):=⟨rfl,rfl,rfl,by decide+kernel,rfl,by decide+kernel,by decide+kernel⟩
theorem dY:aq ["script","m","n"] ["script"] (af ci):=⟨rfl,rfl,rfl,by decide+kernel,rfl,by decide+kernel,by decide+kernel⟩
theorem dN:aq ["word","figures","sign_v"] ["word"] (af bQ):=⟨rfl,rfl,rfl,by decide+kernel,rfl,by decide+kernel,by decide+kernel⟩
theorem e9:aq ["answer_v","word"] ["answer_v"] (af bC):=⟨rfl,rfl,rfl,by decide+kernel,rfl,by decide+kernel,by decide+kernel⟩
theorem d_:aq ["points","x","y"] ["points"] (af bN):=⟨rfl,rfl,rfl,by decide+kernel,rfl,by decide+kernel,by decide+kernel⟩
theorem bD:aq ["script","lean","points","k","x","y"] ["script"] (af bP):=⟨rfl,rfl,rfl,by decide+kernel,rfl,by decide+kernel,by decide+kernel⟩
theorem aW:aq ["script","a","b","c","d","hand_v","ways_v","k","cell","u","v","way"] ["script"] (af bX):=⟨rfl,rfl,rfl,by decide+kernel,rfl,by decide+kernel,by decide+kernel⟩
theorem dA:aq ["points","a","b","worths","x","y"] ["points","a","b"] (af cg):=⟨rfl,rfl,rfl,by decide+kernel,rfl,by decide+kernel,by decide+kernel⟩
theorem gL:aq ["answer_v","points","three"] ["answer_v","points"] (af cV):=⟨rfl,rfl,rfl,by decide+kernel,rfl,by decide+kernel,by decide+kernel⟩
theorem cC:aq ["script","a","b","c","d","over","down","points","x","y","desk","lowest","u","v"] ["script"] (af iI):=⟨rfl,rfl,rfl,by decide+kernel,rfl,by decide+kernel,by decide+kernel⟩
theorem kU:aq ["self"] ["self"] (af cY):=⟨rfl,rfl,rfl,by decide+kernel,rfl,by decide+kernel,by decide+kernel⟩
theorem mq:aq ["self","kind","word"] ["self","kind","word"] (af cW):=⟨rfl,rfl,rfl,by decide+kernel,rfl,by decide+kernel,by decide+kernel⟩
theorem ly:aq ["self","name","land"] ["self","name","land"] (af cP):=⟨rfl,rfl,rfl,by decide+kernel,rfl,by decide+kernel,by decide+kernel⟩
theorem aN:aq ["self","row","words","kinds","given","kind","word"] ["self","row"] (af bM):=⟨rfl,rfl,rfl,by decide+kernel,rfl,by decide+kernel,by decide+kernel⟩
set_option genInjectivity false in
set_option genSizeOf false in
set_option genSizeOfSpec false in
structure Txt (w:World) (K:PySem.W.Frag) (mg:Str→Option Value) where
 c_Desk:Addr
 m_Desk:mg "Desk"=some (.ref c_Desk)
 cl_Desk:Cls K c_Desk
 na_Desk:eU K c_Desk "lands"
 r_ROWS:∃ a,mg "ROWS"=some (.ref a)∧uZ w K a dR
 a_sign:Addr
 d_sign:FuncData
 F_sign:Fun K "sign" "sign" iB a_sign d_sign
 b_sign:aH K d_sign ["number"] []
 m_sign:mg "sign"=some (.ref a_sign)
 a_turn:Addr
 d_turn:FuncData
 F_turn:Fun K "turn" "turn" ip a_turn d_turn
 b_turn:aH K d_turn ["P","Q","R"] []
 m_turn:mg "turn"=some (.ref a_turn)
 a_left_bends:Addr
 d_left_bends:FuncData
 F_left_bends:Fun K "left_bends" "left_bends" cu a_left_bends d_left_bends
 b_left_bends:aH K d_left_bends ["row"] []
 m_left_bends:mg "left_bends"=some (.ref a_left_bends)
 a_field:Addr
 d_field:FuncData
 F_field:Fun K "field" "field" fJ a_field d_field
 b_field:aH K d_field ["points"] []
 m_field:mg "field"=some (.ref a_field)
 a_fold:Addr
 d_fold:FuncData
 F_fold:Fun K "fold" "fold" gv a_fold d_fold
 b_fold:aH K d_fold ["land","k"] []
 m_fold:mg "fold"=some (.ref a_fold)
 a_need_text:Addr
 d_need_text:FuncData
 F_need_text:Fun K "need_text" "need_text" cT a_need_text d_need_text
 b_need_text:aH K d_need_text ["thing"] []
 m_need_text:mg "need_text"=some (.ref a_need_text)
 a_is_written_number:Addr
 d_is_written_number:FuncData
 F_is_written_number:Fun K "is_written_number" "is_written_number" aZ a_is_written_number d_is_written_number
 b_is_written_number:aH K d_is_written_number ["text"] []
 m_is_written_number:mg "is_written_number"=some (.ref a_is_written_number)
 a_read_number:Addr
 d_read_number:FuncData
 F_read_number:Fun K "read_number" "read_number" bR a_read_number d_read_number
 b_read_number:aH K d_read_number ["text"] []
 m_read_number:mg "read_number"=some (.ref a_read_number)
 a_read_point:Addr
 d_read_point:FuncData
 F_read_point:Fun K "read_point" "read_point" cy a_read_point d_read_point
 b_read_point:aH K d_read_point ["text"] []
 m_read_point:mg "read_point"=some (.ref a_read_point)
 a_show_number:Addr
 d_show_number:FuncData
 F_show_number:Fun K "show_number" "show_number" bT a_show_number d_show_number
 b_show_number:aH K d_show_number ["number"] []
 m_show_number:mg "show_number"=some (.ref a_show_number)
 a_show_point:Addr
 d_show_point:FuncData
 F_show_point:Fun K "show_point" "show_point" cx a_show_point d_show_point
 b_show_point:aH K d_show_point ["P"] []
 m_show_point:mg "show_point"=some (.ref a_show_point)
 a_span:Addr
 d_span:FuncData
 F_span:Fun K "span" "span" gw a_span d_span
 b_span:aH K d_span ["land","a","b"] []
 m_span:mg "span"=some (.ref a_span)
 a_span_along:Addr
 d_span_along:FuncData
 F_span_along:Fun K "span_along" "span_along" cq a_span_along d_span_along
 b_span_along:aH K d_span_along ["land","way"] []
 m_span_along:mg "span_along"=some (.ref a_span_along)
 a_aside:Addr
 d_aside:FuncData
 F_aside:Fun K "aside" "aside" fK a_aside d_aside
 b_aside:aH K d_aside ["first","second","m"] []
 m_aside:mg "aside"=some (.ref a_aside)
 a_falls:Addr
 d_falls:FuncData
 F_falls:Fun K "falls" "falls" fL a_falls d_falls
 b_falls:aH K d_falls ["land","first","second","m"] []
 m_falls:mg "falls"=some (.ref a_falls)
 a_fallen:Addr
 d_fallen:FuncData
 F_fallen:Fun K "fallen" "fallen" eG a_fallen d_fallen
 b_fallen:aH K d_fallen ["land","first","second"] []
 m_fallen:mg "fallen"=some (.ref a_fallen)
 a_shortened:Addr
 d_shortened:FuncData
 F_shortened:Fun K "shortened" "shortened" cS a_shortened d_shortened
 b_shortened:aH K d_shortened ["land","first","second"] []
 m_shortened:mg "shortened"=some (.ref a_shortened)
 a_thin:Addr
 d_thin:FuncData
 F_thin:Fun K "thin" "thin" h9 a_thin d_thin
 b_thin:aH K d_thin ["land"] []
 m_thin:mg "thin"=some (.ref a_thin)
 a_row_words:Addr
 d_row_words:FuncData
 F_row_words:Fun K "row_words" "row_words" cX a_row_words d_row_words
 b_row_words:aH K d_row_words ["row"] []
 m_row_words:mg "row_words"=some (.ref a_row_words)
 a_wanted:Addr
 d_wanted:FuncData
 F_wanted:Fun K "wanted" "wanted" eK a_wanted d_wanted
 b_wanted:aH K d_wanted ["words"] []
 m_wanted:mg "wanted"=some (.ref a_wanted)
 a_need_name:Addr
 d_need_name:FuncData
 F_need_name:Fun K "need_name" "need_name" cf a_need_name d_need_name
 b_need_name:aH K d_need_name ["word"] []
 m_need_name:mg "need_name"=some (.ref a_need_name)
 a_need_fit:Addr
 d_need_fit:FuncData
 F_need_fit:Fun K "need_fit" "need_fit" bL a_need_fit d_need_fit
 b_need_fit:aH K d_need_fit ["land"] []
 m_need_fit:mg "need_fit"=some (.ref a_need_fit)
 a_made:Addr
 d_made:FuncData
 F_made:Fun K "made" "made" im a_made d_made
 b_made:aH K d_made ["deed","given"] []
 m_made:mg "made"=some (.ref a_made)
 a_show_thin:Addr
 d_show_thin:FuncData
 F_show_thin:Fun K "show_thin" "show_thin" cQ a_show_thin d_show_thin
 b_show_thin:aH K d_show_thin ["land"] []
 m_show_thin:mg "show_thin"=some (.ref a_show_thin)
 a_answer:Addr
 d_answer:FuncData
 F_answer:Fun K "answer" "answer" eO a_answer d_answer
 b_answer:aH K d_answer ["deed","given"] []
 m_answer:mg "answer"=some (.ref a_answer)
 a__law_cell:Addr
 d__law_cell:FuncData
 F__law_cell:Fun K "_law_cell" "_law_cell" cR a__law_cell d__law_cell
 b__law_cell:aH K d__law_cell ["script","k"] []
 m__law_cell:mg "_law_cell"=some (.ref a__law_cell)
 a__law_table:Addr
 d__law_table:FuncData
 F__law_table:Fun K "_law_table" "_law_table" ci a__law_table d__law_table
 b__law_table:aH K d__law_table ["script"] []
 m__law_table:mg "_law_table"=some (.ref a__law_table)
 a__law_number:Addr
 d__law_number:FuncData
 F__law_number:Fun K "_law_number" "_law_number" bQ a__law_number d__law_number
 b__law_number:aH K d__law_number ["word"] []
 m__law_number:mg "_law_number"=some (.ref a__law_number)
 a__law_numbers:Addr
 d__law_numbers:FuncData
 F__law_numbers:Fun K "_law_numbers" "_law_numbers" bC a__law_numbers d__law_numbers
 b__law_numbers:aH K d__law_numbers ["answer_v"] []
 m__law_numbers:mg "_law_numbers"=some (.ref a__law_numbers)
 a__law_shown:Addr
 d__law_shown:FuncData
 F__law_shown:Fun K "_law_shown" "_law_shown" bN a__law_shown d__law_shown
 b__law_shown:aH K d__law_shown ["points"] []
 m__law_shown:mg "_law_shown"=some (.ref a__law_shown)
 a__law_points:Addr
 d__law_points:FuncData
 F__law_points:Fun K "_law_points" "_law_points" bP a__law_points d__law_points
 b__law_points:aH K d__law_points ["script"] []
 m__law_points:mg "_law_points"=some (.ref a__law_points)
 a__law_ways:Addr
 d__law_ways:FuncData
 F__law_ways:Fun K "_law_ways" "_law_ways" bX a__law_ways d__law_ways
 b__law_ways:aH K d__law_ways ["script"] []
 m__law_ways:mg "_law_ways"=some (.ref a__law_ways)
 a__law_span:Addr
 d__law_span:FuncData
 F__law_span:Fun K "_law_span" "_law_span" cg a__law_span d__law_span
 b__law_span:aH K d__law_span ["points","a","b"] []
 m__law_span:mg "_law_span"=some (.ref a__law_span)
 a__law_thin:Addr
 d__law_thin:FuncData
 F__law_thin:Fun K "_law_thin" "_law_thin" cV a__law_thin d__law_thin
 b__law_thin:aH K d__law_thin ["answer_v","points"] []
 m__law_thin:mg "_law_thin"=some (.ref a__law_thin)
 a_law:Addr
 d_law:FuncData
 F_law:Fun K "law" "law" iI a_law d_law
 b_law:aH K d_law ["script"] []
 m_law:mg "law"=some (.ref a_law)
 a_Desk_init:Addr
 d_Desk_init:FuncData
 F_Desk_init:Fun K "__init__" "Desk.__init__" cY a_Desk_init d_Desk_init
 b_Desk_init:aH K d_Desk_init ["self"] []
 m_Desk_init:Mk K c_Desk a_Desk_init
 a_Desk_read:Addr
 d_Desk_read:FuncData
 F_Desk_read:Fun K "read" "Desk.read" cW a_Desk_read d_Desk_read
 b_Desk_read:aH K d_Desk_read ["self","kind","word"] []
 m_Desk_read:me K c_Desk "read" a_Desk_read
 a_Desk_keep:Addr
 d_Desk_keep:FuncData
 F_Desk_keep:Fun K "keep" "Desk.keep" cP a_Desk_keep d_Desk_keep
 b_Desk_keep:aH K d_Desk_keep ["self","name","land"] []
 m_Desk_keep:me K c_Desk "keep" a_Desk_keep
 a_Desk_say:Addr
 d_Desk_say:FuncData
 F_Desk_say:Fun K "say" "Desk.say" bM a_Desk_say d_Desk_say
 b_Desk_say:aH K d_Desk_say ["self","row"] []
 m_Desk_say:me K c_Desk "say" a_Desk_say
 z_abs:mg "abs"=none
 z_all:mg "all"=none
 z_int:mg "int"=none
 z_isinstance:mg "isinstance"=none
 z_len:mg "len"=none
 z_max:mg "max"=none
 z_min:mg "min"=none
 z_range:mg "range"=none
 z_set:mg "set"=none
 z_sorted:mg "sorted"=none
 z_str:mg "str"=none
 z_zip:mg "zip"=none
 g_FIGURES:∃ t,mg "FIGURES"=some (.str "0123456789" t)
 g_MOST_CORNERS:∃ t,mg "MOST_CORNERS"=some (.int 60 t)
 g_MOST_FIGURES:∃ t,mg "MOST_FIGURES"=some (.int 60 t)
 g_MOST_LETTERS:∃ t,mg "MOST_LETTERS"=some (.int 8 t)
 g_MOST_POINTS:∃ t,mg "MOST_POINTS"=some (.int 60 t)
section
variable {P:Program} {w:World} {K:PySem.W.Frag} {mg:Str→Option Value} {base:Heap}
def sgn (n:Int):Int:=if 0 < n then 1 else if n < 0 then -1 else 0
def qY:List U→Out→Prop:=fun us o=> ∃ n:Int,us=[.int n]∧o=.val (.int (sgn n))
set_option maxHeartbeats 8000000 in
theorem wA (T:Txt w K mg):ba P w K mg base (CXF P w) 1 T.a_sign T.d_sign ["number"] (spU K (qY)):=by
 refine bx T.F_sign xw (fun us o h=> ?_) (fun cdv A outer s H E O us o hr h=> ?_)
 ·obtain ⟨n,rfl,rfl⟩:=h
  rfl
 obtain ⟨n,rfl,rfl⟩:=h
 refine Ws.nox ?_
 refine ae (jo (ay lI (aa 0 rfl) ai) (fun hT=> ?_) (fun hF=> (ax ?_)))
 ·refine ae (bo ai ?_)
  exact vIO (by unfold sgn; rw [if_pos (dTb hT)])
 ·refine ae (jo (ay iO (aa 0 rfl) ai) (fun hT=> ?_) (fun hF=> (ax ?_)))
  ·refine ae (bo (gd ai) ?_)
   exact vIO (by unfold sgn; rw [if_neg (dFb hF),if_pos (dTb hT)])
  ·rename_i hF2
   refine ae (bo ai ?_)
   exact vIO (by unfold sgn; rw [if_neg (dFb hF),if_neg (dFb hF2)])
end
section
variable {P:Program} {w:World} {K:PySem.W.Frag} {mg:Str→Option Value} {base:Heap}
abbrev Pt:=Int×Int
def plt (p q:Pt):Prop:=p.1 < q.1∨(p.1=q.1∧p.2 < q.2)
def aQ (a b p:Pt):Int:=(b.1 - a.1) * (p.2 - a.2) - (b.2 - a.2) * (p.1 - a.1)
theorem cm {a b c:Pt} (h1:plt a b) (h2:plt b c):plt a c:=by unfold plt at *; omega
theorem bw (a:Pt):¬ plt a a:=by unfold plt; omega
theorem lv (a b:Pt):plt a b∨a=b∨plt b a:=by
 unfold plt
 by_cases h1:a.1=b.1
 ·by_cases h2:a.2=b.2
  ·exact .inr (.inl (Prod.ext h1 h2))
  ·omega
 ·omega
def fS (x y:Int):Prop:=0 < x∨(x=0∧0 < y)
theorem bu {a b:Pt} (h:plt a b):fS (b.1 - a.1) (b.2 - a.2):=by unfold plt fS at *; omega
theorem fC {u1 u2 v1 v2 w1 w2:Int} (hu:fS u1 u2) (hv:fS v1 v2) (hw:fS w1 w2) (h1:0≤u1 * v2 - u2 * v1) (h2:0≤v1 * w2 - v2 * w1):0≤u1 * w2 - u2 * w1:=by
 unfold fS at *
 by_cases hv1:v1=0
 ·subst hv1
  have hv2:0 < v2:=by omega
  have hw1:w1=0:=by
   have:v2 * w1≤0:=by rw [Int.zero_mul] at h2; omega
   by_cases hz:0 < w1
   ·have:=Int.mul_pos hv2 hz; omega
   ·omega
  subst hw1
  have hw2:0 < w2:=by omega
  have:=Int.mul_nonneg (show 0≤u1 by omega) (show 0≤w2 by omega)
  simp; omega
 ·have hv':0 < v1:=by omega
  have e:v1 * (u1 * w2 - u2 * w1)=u1 * (v1 * w2 - v2 * w1)+w1 * (u1 * v2 - u2 * v1):=by grind
  have p1:=Int.mul_nonneg (show 0≤u1 by omega) h2
  have p2:=Int.mul_nonneg (show 0≤w1 by omega) h1
  have:0≤v1 * (u1 * w2 - u2 * w1):=by omega
  exact Int.nonneg_of_mul_nonneg_right this hv'
theorem jT {u1 u2 v1 v2 w1 w2:Int} (hu:fS u1 u2) (hv:fS v1 v2) (hw:fS w1 w2) (h1:0 < u1 * v2 - u2 * v1) (h2:0≤v1 * w2 - v2 * w1):0 < u1 * w2 - u2 * w1:=by
 unfold fS at *
 by_cases hv1:v1=0
 ·subst hv1
  have hv2:0 < v2:=by omega
  have hw1:w1=0:=by
   have:v2 * w1≤0:=by rw [Int.zero_mul] at h2; omega
   by_cases hz:0 < w1
   ·have:=Int.mul_pos hv2 hz; omega
   ·omega
  subst hw1
  have hw2:0 < w2:=by omega
  have hu1:0 < u1:=by
   rcases hu with h | ⟨h,_⟩
   ·exact h
   ·subst h; simp at h1
  have:=Int.mul_pos hu1 hw2
  simp; omega
 ·have hv':0 < v1:=by omega
  have e:v1 * (u1 * w2 - u2 * w1)=u1 * (v1 * w2 - v2 * w1)+w1 * (u1 * v2 - u2 * v1):=by grind
  have p1:=Int.mul_nonneg (show 0≤u1 by omega) h2
  by_cases hw1:w1=0
  ·subst hw1
   have hw2:0 < w2:=by omega
   have hu1:0 < u1:=by
    rcases hu with h | ⟨h,h'⟩
    ·exact h
    ·subst h
     have:=Int.mul_pos h' hv'
     simp at h1; omega
   have:=Int.mul_pos hu1 hw2
   simp; omega
  ·have p2:=Int.mul_pos (show 0 < w1 by omega) h1
   have:0 < v1 * (u1 * w2 - u2 * w1):=by omega
   exact Int.pos_of_mul_pos_right this (by omega)
def ml:List Pt→Prop
 | b::a::r=> plt a b∧ml (a::r)
 | _=> True
def iH:List Pt→Prop
 | c::b::a::r=> 0 < aQ a b c∧iH (b::a::r)
 | _=> True
def gc (done:List Pt):List Pt→Prop
 | b::a::r=> (∀ q∈done,0≤aQ a b q)∧gc done (a::r)
 | _=> True
theorem iH.tail:∀ {b:Pt} {st:List Pt},iH (b::st)→iH st
 | _,[],_=> trivial
 | _,[_],_=> trivial
 | _,_::_::_,h=> h.2
theorem ml.tail:∀ {b:Pt} {st:List Pt},ml (b::st)→ml st
 | _,[],_=> trivial
 | _,_::_,h=> h.2
theorem gc.tail {done:List Pt}:∀ {b:Pt} {st:List Pt},gc done (b::st)→gc done st
 | _,[],_=> trivial
 | _,_::_,h=> h.2
def bH (P:Pt):List Pt→List Pt
 | b::a::r=> if aQ a b P≤0 then bH P (a::r) else b::a::r
 | st=> st
def aj (row:List Pt):List Pt:=row.foldl (fun st P=> P::bH P st) []
structure Kept (done st:List Pt):Prop where
 ne:st≠[]
 desc:ml st
 turns:iH st
 cover:gc done st
 sub:∀ p∈st,p∈done
structure sq (done st:List Pt) (P:Pt):Prop extends Kept done st where
 pend:∀ h r,st=h::r→∀ q∈done,plt h q→0≤aQ h P q
theorem rK {done:List Pt} {P b a:Pt} {r:List Pt} (hP:∀ q∈done,plt q P) (D:sq done (b::a::r) P) (h:aQ a b P≤0):sq done (a::r) P:=by
 refine ⟨⟨by simp,D.desc.tail,D.turns.tail,D.cover.tail,fun p hp=> D.sub p (List.mem_cons_of_mem _ hp)⟩,?_⟩
 intro h' r' e q hq hlt
 cases e
 have hab:=D.desc.1
 have hq':=D.cover.1 q hq
 have hbP:=hP b (D.sub b List.mem_cons_self)
 have hqP:=hP q hq
 rcases lv q b with z | z | z
 ·have l1:=bu hlt
  have l2:=bu hab
  have l3:=bu (cm hab hbP)
  have:=fC (u1:=P.1 - a.1) (u2:=P.2 - a.2) (v1:=b.1 - a.1) (v2:=b.2 - a.2) (w1:=q.1 - a.1) (w2:=q.2 - a.2) l3 l2 l1 (by unfold aQ at h; grind) (by unfold aQ at hq'; grind)
  unfold aQ; grind
 ·subst z; unfold aQ at *; grind
 ·have p:=D.pend b _ rfl q hq z
  unfold aQ at *
  grind
theorem mF {done:List Pt} {P:Pt} (hP:∀ q∈done,plt q P):∀ st:List Pt,sq done st P→sq done (bH P st) P∧(∀ b a r,bH P st=b::a::r→0 < aQ a b P)∧(st.getLast?=(bH P st).getLast?)
 | [],D=> absurd rfl D.ne
 | [b],D=> ⟨D,fun _ _ _ e=> by simp [bH] at e,rfl⟩
 | b::a::r,D=> by
  by_cases h:aQ a b P≤0
  ·rw [bH,if_pos h]
   obtain ⟨h1,h2,h3⟩:=mF hP (a::r) (rK hP D h)
   exact ⟨h1,h2,by rw [← h3]; simp⟩
  ·rw [bH,if_neg h]
   refine ⟨D,fun b' a' r' e=> ?_,rfl⟩
   cases e; omega
theorem sM {done st:List Pt} {P:Pt} (hP:∀ q∈done,plt q P) (D:sq done st P) (ht:∀ b a r,st=b::a::r→0 < aQ a b P) (hmin:∀ x,st=[x]→∀ q∈done,q=x∨plt x q):Kept (done++[P]) (P::st):=by
 have up:∀ (b:Pt) (r:List Pt),ml (b::r)→iH (b::r)→gc done (b::r)→plt b P→(∀ a r',r=a::r'→0≤aQ a b P)→gc (done++[P]) (b::r):=by
  intro b r
  induction r generalizing b with
  | nil=> intro _ _ _ _ _; trivial
  | cons a r ih=>
   intro hd htn hc hbP hl
   refine ⟨fun q hq=> ?_,?_⟩
   ·rcases List.mem_append.mp hq with z | z
    ·exact hc.1 q z
    ·rw [List.mem_singleton.mp z]; exact hl a r rfl
   ·refine ih a hd.tail htn.tail hc.tail (cm hd.1 hbP) (fun c r' e=> ?_)
    subst e
    have t:=htn.1
    have g:=hl a _ rfl
    have l1:=bu hd.2.1
    have l2:=bu hd.1
    have l3:=bu (cm hd.1 hbP)
    have:=fC (u1:=a.1 - c.1) (u2:=a.2 - c.2) (v1:=b.1 - a.1) (v2:=b.2 - a.2) (w1:=P.1 - a.1) (w2:=P.2 - a.2) l1 l2 l3 (by unfold aQ at t; grind) (by unfold aQ at g; grind)
    unfold aQ; grind
 obtain ⟨h,r,e⟩:∃ h r,st=h::r:=by
  cases hst:st with
  | nil=> exact absurd hst D.ne
  | cons h r=> exact ⟨h,r,rfl⟩
 subst e
 have hhP:=hP h (D.sub h List.mem_cons_self)
 refine ⟨by simp,⟨hhP,D.desc⟩,?_,⟨fun q hq=> ?_,?_⟩,fun p hp=> ?_⟩
 ·cases r with
  | nil=> trivial
  | cons a r'=> exact ⟨ht h a r' rfl,D.turns⟩
 ·rcases List.mem_append.mp hq with z | z
  ·rcases lv q h with y | y | y
   ·cases r with
    | nil=>
     rcases hmin h rfl q z with w | w
     ·subst w; exact absurd y (bw _)
     ·exact absurd (cm y w) (bw _)
    | cons a r'=>
     have t:=ht h a r' rfl
     have c:=D.cover.1 q z
     have l1:=bu D.desc.1
     have l2:=bu y
     have l3:=bu hhP
     have:=fC (u1:=h.1 - q.1) (u2:=h.2 - q.2) (v1:=h.1 - a.1) (v2:=h.2 - a.2) (w1:=P.1 - h.1) (w2:=P.2 - h.2) l2 l1 l3 (by unfold aQ at c; grind) (by unfold aQ at t; grind)
     unfold aQ; grind
   ·subst y; unfold aQ; grind
   ·exact D.pend h r rfl q z y
  ·rw [List.mem_singleton.mp z]; unfold aQ; grind
 ·exact up h r D.desc D.turns D.cover hhP (fun a r' e=> Int.le_of_lt (ht h a r' (by rw [e])))
 ·rcases List.mem_cons.mp hp with z | z
  ·subst z; exact List.mem_append_right _ List.mem_cons_self
  ·exact List.mem_append_left _ (D.sub p z)
theorem jR (row:List Pt) (P:Pt):aj (row++[P])=P::bH P (aj row):=by
 unfold aj; rw [List.foldl_append]; rfl
theorem jE {row:List Pt} (hs:row.Pairwise plt):∀ n,0 < n→n≤row.length→Kept (row.take n) (aj (row.take n))∧(aj (row.take n)).getLast?=row.head?∧(aj (row.take n)).head?=row[n - 1]?
 | 0,h,_=> absurd h (by decide)
 | 1,_,h=> by
  cases row with
  | nil=> simp at h
  | cons a r=>
   simp only [List.take_succ_cons,List.take_zero]
   exact ⟨⟨by simp [aj],trivial,trivial,trivial,fun p hp=> by simpa [aj,bH] using hp⟩,rfl,rfl⟩
 | n+2,_,h=> by
  obtain ⟨K,hl,hh⟩:=jE hs (n+1) (by omega) (by omega)
  have hn:n+1 < row.length:=by omega
  have et:row.take (n+2)=row.take (n+1)++[row[n+1]]:=by rw [List.take_succ_eq_append_getElem hn]
  have hP:∀ q∈row.take (n+1),plt q row[n+1]:=fun q hq=> by
   obtain ⟨i,hi,e⟩:=List.mem_take_iff_getElem.mp hq
   subst e
   exact List.pairwise_iff_getElem.mp hs i (n+1) (by omega) hn (by omega)
  have D:sq (row.take (n+1)) (aj (row.take (n+1))) row[n+1]:=⟨K,fun h' r e q hq hlt=> by
   exfalso
   rw [e] at hh
   simp only [List.head?_cons,Nat.add_sub_cancel] at hh
   have hn':n < row.length:=by omega
   rw [List.getElem?_eq_getElem hn'] at hh
   have hh':=Option.some.inj hh
   obtain ⟨i,hi,e2⟩:=List.mem_take_iff_getElem.mp hq
   subst e2
   rw [hh'] at hlt
   rcases Nat.lt_or_ge i n with z | z
   ·exact bw _ (cm hlt (List.pairwise_iff_getElem.mp hs i n (by omega) hn' z))
   ·have:i=n:=by omega
    subst this
    exact bw _ hlt⟩
  obtain ⟨D2,ht,hlast⟩:=mF hP _ D
  rw [et,jR]
  refine ⟨sM hP D2 ht (fun x e q hq=> ?_),?_,?_⟩
  ·rw [e,hl] at hlast
   simp at hlast
   obtain ⟨i,hi,e2⟩:=List.mem_take_iff_getElem.mp hq
   have h0:0 < row.length:=by omega
   have e3:row[0]=x:=by
    rw [List.head?_eq_getElem?,List.getElem?_eq_getElem h0] at hlast
    exact Option.some.inj hlast
   subst e2
   rcases Nat.eq_zero_or_pos i with z | z
   ·subst z; exact .inl e3
   ·right; rw [← e3]; exact List.pairwise_iff_getElem.mp hs 0 i h0 (by omega) z
  ·rw [List.getLast?_cons,← hlast,hl]
   cases row with
   | nil=> simp at hn
   | cons a r=> rfl
  ·simp only [List.head?_cons,Nat.add_sub_cancel]
   rw [show n+2 - 1=n+1 by omega,List.getElem?_eq_getElem hn]
theorem cj {row:List Pt} (hs:row.Pairwise plt) (h:row≠[]):Kept row (aj row)∧(aj row).getLast?=row.head?∧(aj row).head?=row.getLast?:=by
 have h0:0 < row.length:=List.length_pos_iff.mpr h
 obtain ⟨h1,h2,h3⟩:=jE hs row.length h0 (Nat.le_refl _)
 rw [List.take_length] at h1 h2 h3
 exact ⟨h1,h2,by rw [h3,List.getLast?_eq_getElem?]⟩
theorem iM {u1 u2 v1 v2 w1 w2:Int} (hu:fS u1 u2) (hv:fS v1 v2) (hw:fS w1 w2) (h1:0≤u1 * v2 - u2 * v1) (h2:0 < v1 * w2 - v2 * w1):0 < u1 * w2 - u2 * w1:=by
 unfold fS at *
 by_cases hv1:v1=0
 ·subst hv1
  have hv2:0 < v2:=by omega
  have:=Int.mul_nonneg (show 0≤v2 by omega) (show 0≤w1 by omega)
  simp at h2; omega
 ·have hv':0 < v1:=by omega
  have hu1:0 < u1:=by
   rcases hu with h | ⟨h,h'⟩
   ·exact h
   ·subst h
    have:=Int.mul_pos h' hv'
    simp at h1; omega
  have e:v1 * (u1 * w2 - u2 * w1)=u1 * (v1 * w2 - v2 * w1)+w1 * (u1 * v2 - u2 * v1):=by grind
  have p1:=Int.mul_pos hu1 h2
  have p2:=Int.mul_nonneg (show 0≤w1 by omega) h1
  have q:0 < v1 * (u1 * w2 - u2 * w1):=by omega
  exact Int.pos_of_mul_pos_right q hv'
def low (row:List Pt) (p:Pt):Prop:=∀ a∈row,∀ b∈row,plt a p→plt p b→0 < aQ a p b
theorem x5 {row:List Pt} {p:Pt}:∀ (st:List Pt) (n:Pt),ml (n::st)→iH (n::st)→gc row (n::st)→p∈st→(∀ l,(n::st).getLast?=some l→plt l p)→
  ∃ n' q,0 < aQ q p n'∧plt q p∧plt p n'∧(∀ x∈row,0≤aQ p n' x)∧(∀ x∈row,0≤aQ q p x)
 | [],n,_,_,_,hp,_=> by simp at hp
 | h::r,n,D,T,C,hp,hl=> by
  by_cases e:h=p
  ·subst e
   cases r with
   | nil=> exact absurd (hl h (by simp)) (bw h)
   | cons q r'=> exact ⟨n,q,T.1,D.2.1,D.1,C.1,C.2.1⟩
  ·have hp':p∈r:=by
    rcases List.mem_cons.mp hp with z | z
    ·exact absurd z.symm e
    ·exact z
   exact x5 r h D.tail T.tail C.tail hp' (fun l hl'=> hl l (by rw [List.getLast?_cons_cons]; exact hl'))
theorem kX {row:List Pt} (hs:row.Pairwise plt) {p:Pt} (hp:p∈aj row):low row p:=by
 intro a ha b hb hap hpb
 have hne:row≠[]:=fun z=> by rw [z] at ha; simp at ha
 obtain ⟨K,hlast,hhead⟩:=cj hs hne
 have mn:∀ x∈row,∀ m,row.head?=some m→x=m∨plt m x:=fun x hx m hm=> by
  cases row with
  | nil=> simp at hx
  | cons y r=>
   cases hm
   rcases List.mem_cons.mp hx with z | z
   ·exact .inl z
   ·exact .inr ((List.pairwise_cons.mp hs).1 x z)
 have mx:∀ x∈row,∀ m,row.getLast?=some m→x=m∨plt x m:=fun x hx m hm=> by
  obtain ⟨i,hi⟩:=List.mem_iff_getElem?.mp hx
  have hil:=(List.getElem?_eq_some_iff.mp hi).1
  rw [List.getLast?_eq_getElem?] at hm
  have hml:=(List.getElem?_eq_some_iff.mp hm).1
  rcases Nat.lt_or_eq_of_le (show i≤row.length - 1 by omega) with z | z
  ·right
   have h1:=List.pairwise_iff_getElem.mp hs i (row.length - 1) hil hml z
   rw [(List.getElem?_eq_some_iff.mp hi).2,(List.getElem?_eq_some_iff.mp hm).2] at h1
   exact h1
  ·left; rw [z,hm] at hi; exact (Option.some.inj hi).symm
 cases hst:aj row with
 | nil=> exact absurd hst K.ne
 | cons n st=>
  rw [hst] at K hlast hhead hp
  have hn:row.getLast?=some n:=by rw [← hhead]; rfl
  have hpn:p∈st:=by
   rcases List.mem_cons.mp hp with z | z
   ·rcases mx b hb n hn with y | y
    ·rw [y,← z] at hpb; exact absurd hpb (bw p)
    ·rw [z] at hpb; exact absurd (cm hpb y) (bw n)
   ·exact z
  obtain ⟨n',q,t,qp,pn,c1,c2⟩:=x5 st n K.desc K.turns K.cover hpn (fun l hl=> by
   rw [hlast] at hl
   rcases mn a ha l hl with y | y
   ·rw [← y]; exact hap
   ·exact cm y hap)
  have g1:=c2 a ha
  have g2:=c1 b hb
  unfold aQ at *
  have k1:0≤(p.1 - a.1) * (p.2 - q.2) - (p.2 - a.2) * (p.1 - q.1):=by grind
  have k2:0 < (p.1 - q.1) * (n'.2 - p.2) - (p.2 - q.2) * (n'.1 - p.1):=by grind
  have k3:0≤(n'.1 - p.1) * (b.2 - p.2) - (n'.2 - p.2) * (b.1 - p.1):=by grind
  have k4:=jT (bu qp) (bu pn) (bu hpb) k2 k3
  have k5:=iM (bu hap) (bu qp) (bu hpb) k1 k4
  grind
theorem vh {row:List Pt} {p:Pt}:∀ (st:List Pt) (h:Pt),ml (h::st)→gc row (h::st)→p∈row→p ∉ h::st→plt p h→(∀ l,(h::st).getLast?=some l→plt l p)→∃ a∈h::st,∃ b∈h::st,plt a p∧plt p b∧0≤aQ a b p
 | [],h,_,_,_,_,hp,hl=> absurd (cm hp (hl h (by simp))) (bw p)
 | a::r,h,D,C,hr,hno,hp,hl=> by
  rcases lv p a with z | z | z
  ·obtain ⟨x,hx,y,hy,k⟩:=vh r a D.tail C.tail hr (fun w=> hno (List.mem_cons_of_mem _ w)) z (fun l hl'=> hl l (by rw [List.getLast?_cons_cons]; exact hl'))
   exact ⟨x,List.mem_cons_of_mem _ hx,y,List.mem_cons_of_mem _ hy,k⟩
  ·exact absurd (by rw [z]; simp) hno
  ·exact ⟨a,by simp,h,by simp,z,hp,C.1 p hr⟩
theorem gap {row:List Pt} (hs:row.Pairwise plt) {p:Pt} (hp:p∈row) (hno:p ∉ aj row):∃ a∈aj row,∃ b∈aj row,plt a p∧plt p b∧aQ a p b≤0:=by
 have hne:row≠[]:=fun z=> by rw [z] at hp; simp at hp
 obtain ⟨K,hlast,hhead⟩:=cj hs hne
 cases hst:aj row with
 | nil=> exact absurd hst K.ne
 | cons n st=>
  rw [hst] at K hlast hhead hno
  have hn:row.getLast?=some n:=by rw [← hhead]; rfl
  have pn:plt p n:=by
   obtain ⟨i,hi⟩:=List.mem_iff_getElem?.mp hp
   have hil:=(List.getElem?_eq_some_iff.mp hi).1
   rw [List.getLast?_eq_getElem?] at hn
   have hml:=(List.getElem?_eq_some_iff.mp hn).1
   rcases Nat.lt_or_eq_of_le (show i≤row.length - 1 by omega) with z | z
   ·have h1:=List.pairwise_iff_getElem.mp hs i (row.length - 1) hil hml z
    rw [(List.getElem?_eq_some_iff.mp hi).2,(List.getElem?_eq_some_iff.mp hn).2] at h1
    exact h1
   ·rw [z,hn] at hi; exact absurd (by rw [← Option.some.inj hi]; simp) hno
  obtain ⟨a,ha,b,hb,k1,k2,k3⟩:=vh st n K.desc K.cover hp hno pn (fun l hl=> by
   have hl':=hl
   rw [hlast] at hl
   cases row with
   | nil=> simp at hp
   | cons y r=>
    cases hl
    rcases List.mem_cons.mp hp with z | z
    ·exact absurd (by rw [z]; exact List.mem_of_getLast? hl') hno
    ·exact (List.pairwise_cons.mp hs).1 p z)
  refine ⟨a,ha,b,hb,k1,k2,?_⟩
  unfold aQ at *
  grind
theorem sL {row row':List Pt} (hs:row.Pairwise plt) (hs':row'.Pairwise plt) (h1:∀ p∈row',p∈row) (h2:∀ p∈aj row,p∈row') (sub:∀ (r:List Pt) (q:Pt),q∈aj r→q∈r) (p:Pt):p∈aj row'↔p∈aj row:=by
 constructor
 ·intro hp
  refine Classical.byContradiction fun hno=> ?_
  obtain ⟨a,ha,b,hb,k1,k2,k3⟩:=gap hs (h1 p (sub _ _ hp)) hno
  have:=kX hs' hp a (h2 a ha) b (h2 b hb) k1 k2
  omega
 ·intro hp
  refine Classical.byContradiction fun hno=> ?_
  obtain ⟨a,ha,b,hb,k1,k2,k3⟩:=gap hs' (h2 p hp) hno
  have:=kX hs hp a (h1 a (sub _ _ ha)) b (h1 b (sub _ _ hb)) k1 k2
  omega
abbrev Szp (m:Nat) (p:P2):Prop:=Sz m p.1∧Sz m p.2
theorem Af (b:P2) (r:List P2):atI ((b::r).reverse.map pu) (-1)=some (pu b):=by
 have h:ixN ((b::r).reverse.map pu).length (-1)=some r.length:=by
  unfold ixN
  simp
  omega
 unfold atI
 rw [h]
 simp
theorem Aa (b a:P2) (r:List P2):atI ((b::a::r).reverse.map pu) (-2)=some (pu a):=by
 have h:ixN ((b::a::r).reverse.map pu).length (-2)=some r.length:=by
  unfold ixN
  simp
  omega
 unfold atI
 rw [h]
 simp
theorem lh (P:P2):∀ st:List P2,(bH P st).length≤st.length
 | []=> Nat.le_refl _
 | [_]=> Nat.le_refl _
 | b::a::r=> by
  unfold bH
  split
  ·have:=lh P (a::r); simp only [List.length_cons] at *; omega
  ·exact Nat.le_refl _
theorem p8 (P:P2):∀ (st:List P2) (q:P2),q∈bH P st→q∈st
 | [],_,h=> h
 | [_],_,h=> h
 | b::a::r,q,h=> by
  unfold bH at h
  split at h
  ·exact List.mem_cons_of_mem _ (p8 P (a::r) q h)
  ·exact h
theorem gq {row:List P2} {i:Nat} {P:P2} (h:row[i]?=some P):aj (row.take (i+1))=P::bH P (aj (row.take i)):=by
 rw [List.take_succ,h]; exact jR _ _
theorem iy (row:List P2):∀ i,(aj (row.take i)).length≤i
 | 0=> by simp [aj]
 | i+1=> by
  have ih:=iy row i
  cases h:row[i]? with
  | none=> rw [List.take_succ,h]; simp; omega
  | some P=>
   rw [gq h]
   have:=lh P (aj (row.take i))
   simp only [List.length_cons]; omega
theorem fN (row:List P2):∀ i q,q∈aj (row.take i)→q∈row
 | 0,q,h=> by simp [aj] at h
 | i+1,q,h=> by
  cases hi:row[i]? with
  | none=> rw [List.take_succ,hi] at h; exact fN row i q (by simpa using h)
  | some P=>
   rw [gq hi] at h
   rcases List.mem_cons.mp h with e | e
   ·rw [e]; exact List.mem_of_getElem? hi
   ·exact fN row i q (p8 P _ q e)
theorem tL (n:Int):decide (sgn n < 1)=decide (n≤0):=by
 have h:sgn n < 1↔n≤0:=by
  unfold sgn
  split
  ·omega
  ·split <;> omega
 exact decide_eq_decide.mpr h
theorem kY (l:List P2):oE (l.map pu) none (some (-1))=l.dropLast.map pu:=by
 unfold oE HT.sIx
 rw [List.map_dropLast,List.dropLast_eq_take]
 simp
 try omega
def aA (pts:List P2):List P2:=if (ST.srt pts).length=1 then ST.srt pts else (aj (ST.srt pts)).reverse.dropLast++(aj (ST.srt pts).reverse).reverse.dropLast
theorem lU (a b:Pt):plt a b↔ST.ltP a b=true:=by unfold plt ST.ltP; simp
theorem iW {l:List Pt}:ST.Asc l↔l.Pairwise plt:=⟨fun h=> h.imp fun {a b} k=> (lU a b).mpr k,fun h=> h.imp fun {a b} k=> (lU a b).mp k⟩
theorem kq:∀ {st:List Pt},ml st→st.Pairwise (fun x y=> plt y x)
 | [],_=> List.Pairwise.nil
 | [_],_=> by simp
 | b::a::r,h=> by
  have ih:=kq h.2
  refine List.pairwise_cons.mpr ⟨fun x hx=> ?_,ih⟩
  rcases List.mem_cons.mp hx with z | z
  ·rw [z]; exact h.1
  ·exact cm ((List.pairwise_cons.mp ih).1 x z) h.1
theorem ce (row:List Pt) (q:Pt) (h:q∈aj row):q∈row:=by
 have:=fN row row.length q
 rw [List.take_length] at this
 exact this h
theorem dB {row:List Pt} (hs:row.Pairwise plt):ST.Asc (aj row).reverse:=by
 by_cases hne:row=[]
 ·subst hne; exact List.Pairwise.nil
 ·exact iW.mpr (List.pairwise_reverse.mpr (kq (cj hs hne).1.desc))
theorem mT {row row':List Pt} (hs:row.Pairwise plt) (hs':row'.Pairwise plt) (h1:∀ p∈row',p∈row) (h2:∀ p∈aj row,p∈row'):aj row'=aj row:=by
 have e:=ST.asc_one (dB hs') (dB hs) fun z=> by
  rw [List.mem_reverse,List.mem_reverse]
  exact sL hs hs' h1 h2 ce z
 exact List.reverse_inj.mp e
def ng (p:Pt):Pt:=(-p.1,-p.2)
theorem fW (p:Pt):ng (ng p)=p:=by unfold ng; simp
theorem zu (l:List Pt):(l.map ng).map ng=l:=by
 rw [List.map_map,show ng ∘ ng=id from funext fW,List.map_id]
theorem jd (a b c:Pt):aQ (ng a) (ng b) (ng c)=aQ a b c:=by unfold aQ ng; grind
theorem jI {a b:Pt} (h:plt a b):plt (ng b) (ng a):=by unfold plt ng at *; simp; omega
theorem u4 (P:Pt):∀ st:List Pt,bH (ng P) (st.map ng)=(bH P st).map ng
 | []=> rfl
 | [_]=> rfl
 | b::a::r=> by
  show bH (ng P) (ng b::ng a::r.map ng)=_
  unfold bH
  rw [jd]
  split
  ·exact u4 P (a::r)
  ·rfl
theorem fo:∀ row:List Pt,aj (row.map ng)=(aj row).map ng:=fun row=> by
 have key:∀ (l:List Pt) (st:List Pt),(l.map ng).foldl (fun st P=> P::bH P st) (st.map ng)=(l.foldl (fun st P=> P::bH P st) st).map ng:=by
  intro l
  induction l with
  | nil=> intro st; rfl
  | cons p r ih=>
   intro st
   rw [List.map_cons,List.foldl_cons,List.foldl_cons,u4]
   exact ih (p::bH p st)
 exact key row []
theorem de {row:List Pt} (hs:row.Pairwise plt):(row.reverse.map ng).Pairwise plt:=by
 rw [List.pairwise_map,List.pairwise_reverse]
 exact hs.imp fun {a b} h=> jI h
theorem bI (row:List Pt):aj row.reverse=(aj (row.reverse.map ng)).map ng:=by rw [fo,zu]
theorem lg {row row':List Pt} (hs:row.Pairwise plt) (hs':row'.Pairwise plt) (h1:∀ p∈row',p∈row) (h2:∀ p∈aj row.reverse,p∈row'):aj row'.reverse=aj row.reverse:=by
 rw [bI row,bI row']
 congr 1
 refine mT (de hs) (de hs') (fun p hp=> ?_) (fun p hp=> ?_)
 ·obtain ⟨q,hq,rfl⟩:=List.mem_map.mp hp
  exact List.mem_map.mpr ⟨q,List.mem_reverse.mpr (h1 q (List.mem_reverse.mp hq)),rfl⟩
 ·rw [fo] at hp
  obtain ⟨q,hq,rfl⟩:=List.mem_map.mp hp
  exact List.mem_map.mpr ⟨q,List.mem_reverse.mpr (h2 q hq),rfl⟩
theorem u_ {row:List Pt} (hs:row.Pairwise plt) (h2:2≤row.length):∃ mn mx t1 t2,aj row=mx::t1∧aj row.reverse=mn::t2∧mn∈t1∧mx∈t2∧(∀ p∈row,p=mn∨plt mn p)∧(∀ p∈row,p=mx∨plt p mx)∧mn∈row∧mx∈row:=by
 have hne:row≠[]:=fun z=> by rw [z] at h2; simp at h2
 obtain ⟨K,hl,hh⟩:=cj hs hne
 have hneR:row.reverse.map ng≠[]:=by simpa using hne
 obtain ⟨KR,hlR,hhR⟩:=cj (de hs) hneR
 have e1:row.head?=some row[0]:=by rw [List.head?_eq_getElem?]; exact List.getElem?_eq_getElem (by omega)
 have e2:row.getLast?=some row[row.length - 1]:=by rw [List.getLast?_eq_getElem?]; exact List.getElem?_eq_getElem (by omega)
 have l01:plt row[0] row[row.length - 1]:=List.pairwise_iff_getElem.mp hs 0 (row.length - 1) (by omega) (by omega) (by omega)
 have mnA:∀ p∈row,p=row[0]∨plt row[0] p:=fun p hp=> by
  obtain ⟨i,hi,rfl⟩:=List.mem_iff_getElem.mp hp
  rcases Nat.eq_zero_or_pos i with z | z
  ·left; subst z; rfl
  ·right; exact List.pairwise_iff_getElem.mp hs 0 i (by omega) hi z
 have mxA:∀ p∈row,p=row[row.length - 1]∨plt p row[row.length - 1]:=fun p hp=> by
  obtain ⟨i,hi,rfl⟩:=List.mem_iff_getElem.mp hp
  rcases Nat.lt_or_eq_of_le (show i≤row.length - 1 by omega) with z | z
  ·right; exact List.pairwise_iff_getElem.mp hs i (row.length - 1) hi (by omega) z
  ·left; subst z; rfl
 have ne:row[0]≠row[row.length - 1]:=fun z=> by rw [z] at l01; exact bw _ l01
 generalize row[0]=mn at *
 generalize row[row.length - 1]=mx at *
 have mmn:mn∈row:=List.mem_of_head? e1
 have mmx:mx∈row:=List.mem_of_getLast? e2
 rw [e1] at hl
 rw [e2] at hh
 have hlR':(aj row.reverse).getLast?=some mx:=by
  rw [bI,List.getLast?_map,hlR,List.head?_map,List.head?_reverse,e2]; simp [fW]
 have hhR':(aj row.reverse).head?=some mn:=by
  rw [bI,List.head?_map,hhR,List.getLast?_map,List.getLast?_reverse,e1]; simp [fW]
 cases hb:aj row with
 | nil=> rw [hb] at hh; cases hh
 | cons x t1=>
  rw [hb] at hh hl
  cases hh
  cases hbR:aj row.reverse with
  | nil=> rw [hbR] at hhR'; cases hhR'
  | cons y t2=>
   rw [hbR] at hhR' hlR'
   cases hhR'
   refine ⟨_,_,t1,t2,rfl,rfl,?_,?_,mnA,mxA,mmn,mmx⟩
   ·cases t1 with
    | nil=> simp at hl; exact absurd hl.symm ne
    | cons z r=> rw [List.getLast?_cons_cons] at hl; exact List.mem_of_getLast? hl
   ·cases t2 with
    | nil=> simp at hlR'; exact absurd hlR' ne
    | cons z r=> rw [List.getLast?_cons_cons] at hlR'; exact List.mem_of_getLast? hlR'
theorem tH (st:List Pt):st.reverse.dropLast=st.tail.reverse:=by
 cases st with
 | nil=> rfl
 | cons h t=> simp
theorem fM {l:List Pt}:l.reverse.Nodup↔l.Nodup:=by
 unfold List.Nodup
 rw [List.pairwise_reverse]
 exact ⟨fun h=> h.imp fun k=> Ne.symm k,fun h=> h.imp fun k=> Ne.symm k⟩
theorem h_:∀ {l m:List Pt},l.Nodup→(∀ x∈l,x∈m)→l.length≤m.length
 | [],_,_,_=> Nat.zero_le _
 | x::l,m,h,hs=> by
  obtain ⟨h1,h2⟩:=List.nodup_cons.mp h
  have hx:x∈m:=hs x List.mem_cons_self
  have ih:=h_ (m:=m.erase x) h2 fun y hy=> (List.mem_erase_of_ne (fun e=> h1 (by rw [← e]; exact hy))).mpr (hs y (List.mem_cons_of_mem _ hy))
  rw [List.length_erase_of_mem hx] at ih
  have:=List.length_pos_of_mem hx
  simp only [List.length_cons]; omega
theorem eX (pts:List Pt):(ST.srt pts).Pairwise plt:=iW.mp (ST.srt_asc pts)
theorem fq {pts:List Pt} (h:2≤(ST.srt pts).length):aA pts=(aj (ST.srt pts)).tail.reverse++(aj (ST.srt pts).reverse).tail.reverse:=by
 unfold aA; rw [if_neg (by omega),tH,tH]
theorem iV {pts:List Pt} (h:pts≠[]):aA pts≠[]:=by
 have hs:ST.srt pts≠[]:=fun z=> by
  obtain ⟨p,r,rfl⟩:=List.exists_cons_of_ne_nil h
  have:=(ST.srt_mem p (p::r)).mpr List.mem_cons_self
  rw [z] at this; simp at this
 by_cases h1:(ST.srt pts).length=1
 ·unfold aA; rw [if_pos h1]; exact hs
 ·have h2:2≤(ST.srt pts).length:=by have:=List.length_pos_iff.mpr hs; omega
  obtain ⟨mn,mx,t1,t2,e1,e2,m1,m2,_⟩:=u_ (eX pts) h2
  rw [fq h2,e1,e2]
  intro z
  have:t1.reverse=[]:=(List.append_eq_nil_iff.mp z).1
  rw [List.reverse_eq_nil_iff.mp this] at m1
  simp at m1
theorem jF (pts:List Pt):(aA pts).Nodup:=by
 have nd:∀ {l:List Pt},l.Pairwise plt→l.Nodup:=fun h=> h.imp fun {a b} k e=> by rw [e] at k; exact bw b k
 by_cases h2:2≤(ST.srt pts).length
 ·have hs:=eX pts
  obtain ⟨mn,mx,t1,t2,e1,e2,m1,m2,hmn,hmx,i1,i2⟩:=u_ hs h2
  have n1:(mx::t1).Nodup:=by rw [← e1]; exact fM.mp (nd (iW.mp (dB hs)))
  have n2:(mn::t2).Nodup:=by
   rw [← e2,bI]
   have:=fM.mp (nd (iW.mp (dB (de hs))))
   refine List.pairwise_map.mpr (this.imp fun {a b} hab e=> hab ?_)
   rw [← fW a,e,fW]
  obtain ⟨x1,y1⟩:=List.nodup_cons.mp n1
  obtain ⟨x2,y2⟩:=List.nodup_cons.mp n2
  rw [fq h2,e1,e2,List.tail_cons,List.tail_cons,List.nodup_append]
  refine ⟨fM.mpr y1,fM.mpr y2,fun p hp q hq=> ?_⟩
  rintro rfl
  have p1:p∈t1:=List.mem_reverse.mp hp
  have p2:p∈t2:=List.mem_reverse.mp hq
  have b1:p∈aj (ST.srt pts):=by rw [e1]; exact List.mem_cons_of_mem _ p1
  have b2:p∈aj (ST.srt pts).reverse:=by rw [e2]; exact List.mem_cons_of_mem _ p2
  have pr:=ce _ _ b1
  have l1:plt mn p:=(hmn p pr).resolve_left fun e=> x2 (by rw [← e]; exact p2)
  have l2:plt p mx:=(hmx p pr).resolve_left fun e=> x1 (by rw [← e]; exact p1)
  have d1:=kX hs b1 mn i1 mx i2 l1 l2
  have b3:ng p∈aj ((ST.srt pts).reverse.map ng):=by rw [fo]; exact List.mem_map.mpr ⟨p,b2,rfl⟩
  have d2:=kX (de hs) b3 (ng mx) (List.mem_map.mpr ⟨mx,List.mem_reverse.mpr i2,rfl⟩) (ng mn) (List.mem_map.mpr ⟨mn,List.mem_reverse.mpr i1,rfl⟩) (jI l2) (jI l1)
  rw [jd] at d2
  unfold aQ at d1 d2
  grind
 ·unfold aA
  split
  ·exact nd (eX pts)
  ·have e:ST.srt pts=[]:=List.length_eq_zero_iff.mp (by omega)
   rw [e]; exact List.nodup_nil
theorem cI (pts:List Pt):∀ p∈aA pts,p∈pts:=fun p hp=> by
 unfold aA at hp
 split at hp
 ·exact (ST.srt_mem p pts).mp hp
 ·rcases List.mem_append.mp hp with h | h
  ·exact (ST.srt_mem p pts).mp (ce _ _ (List.mem_reverse.mp (List.dropLast_subset _ h)))
  ·exact (ST.srt_mem p pts).mp (List.mem_reverse.mp (ce _ _ (List.mem_reverse.mp (List.dropLast_subset _ h))))
theorem iY (pts:List Pt):(aA pts).length≤pts.length:=h_ (jF pts) (cI pts)
theorem kJ (pts:List Pt):aA (aA pts)=aA pts:=by
 by_cases h2:2≤(ST.srt pts).length
 ·have hs:=eX pts
  obtain ⟨mn,mx,t1,t2,e1,e2,m1,m2,hmn,hmx,i1,i2⟩:=u_ hs h2
  have ec:=fq h2
  have mem1:∀ p∈aj (ST.srt pts),p∈aA pts:=fun p hp=> by
   rw [ec,e1,e2,List.tail_cons,List.tail_cons]
   rw [e1] at hp
   rcases List.mem_cons.mp hp with z | z
   ·rw [z]; exact List.mem_append_right _ (List.mem_reverse.mpr m2)
   ·exact List.mem_append_left _ (List.mem_reverse.mpr z)
  have mem2:∀ p∈aj (ST.srt pts).reverse,p∈aA pts:=fun p hp=> by
   rw [ec,e1,e2,List.tail_cons,List.tail_cons]
   rw [e2] at hp
   rcases List.mem_cons.mp hp with z | z
   ·rw [z]; exact List.mem_append_left _ (List.mem_reverse.mpr m1)
   ·exact List.mem_append_right _ (List.mem_reverse.mpr z)
  have hs':=eX (aA pts)
  have sub:∀ p∈ST.srt (aA pts),p∈ST.srt pts:=fun p hp=> (ST.srt_mem p pts).mpr (cI pts p ((ST.srt_mem p _).mp hp))
  have q1:=mT hs hs' sub fun p hp=> (ST.srt_mem p _).mpr (mem1 p hp)
  have q2:=lg hs hs' sub fun p hp=> (ST.srt_mem p _).mpr (mem2 p hp)
  have len:2≤(ST.srt (aA pts)).length:=by
   have a1:mn∈ST.srt (aA pts):=(ST.srt_mem _ _).mpr (mem1 mn (by rw [e1]; exact List.mem_cons_of_mem _ m1))
   have a2:mx∈ST.srt (aA pts):=(ST.srt_mem _ _).mpr (mem1 mx (by rw [e1]; exact List.mem_cons_self))
   have ne:mn≠mx:=fun z=> by
    have nd:=jF pts
    rw [ec,e1,e2,List.tail_cons,List.tail_cons,List.nodup_append] at nd
    exact nd.2.2 mn (List.mem_reverse.mpr m1) mx (List.mem_reverse.mpr m2) z
   have:=h_ (l:=[mn,mx]) (m:=ST.srt (aA pts)) (by simp [ne]) (fun x hx=> by
    rcases List.mem_cons.mp hx with z | z
    ·rw [z]; exact a1
    ·rw [List.mem_singleton.mp z]; exact a2)
   exact this
  rw [fq len,q1,q2,← ec]
 ·have e:aA pts=ST.srt pts:=by
   unfold aA
   split
   ·rfl
   ·have e:ST.srt pts=[]:=List.length_eq_zero_iff.mp (by omega)
    rw [e]; rfl
  rw [e]
  have e3:ST.srt (ST.srt pts)=ST.srt pts:=ST.asc_srt (ST.srt_asc pts)
  unfold aA
  rw [e3]
  split
  ·rfl
  ·have e:ST.srt pts=[]:=List.length_eq_zero_iff.mp (by omega)
   rw [e]; rfl
end
section
variable {P:Program} {w:World} {K:PySem.W.Frag} {mg:Str→Option Value} {base:Heap}
def sw:List U→Out→Prop:=fun us o=> ∃ P Q R:P2,us=[pu P,pu Q,pu R]∧Szp 5000 P∧Szp 5000 Q∧Szp 5000 R∧o=.val (.int (sgn (aQ P Q R)))
set_option maxHeartbeats 8000000 in
theorem wB (T:Txt w K mg):ba P w K mg base (CXF P w) 2 T.a_turn T.d_turn ["P","Q","R"] (spU K (sw)):=by
 refine bx T.F_turn wC (fun us o h=> ?_) (fun cdv A outer s H E O us o hr h=> ?_)
 ·obtain ⟨P,Q,R,rfl,⟨p1,p2⟩,⟨q1,q2⟩,⟨r1,r2⟩,rfl⟩:=h
  rfl
 obtain ⟨P,Q,R,rfl,⟨p1,p2⟩,⟨q1,q2⟩,⟨r1,r2⟩,rfl⟩:=h
 refine Ws.nox ?_
 refine ae (bo (av ((wA T).mono (by decide)) hr rfl T.m_sign T.F_sign.kp T.b_sign ar (ac (cH (bj (cH (bm (aa 1 rfl) ai rfl rfl) (bm (aa 0 rfl) ai rfl rfl)) (cH (bm (aa 2 rfl) ai rfl rfl) (bm (aa 0 rfl) ai rfl rfl)) (by walk_at "mul")) (bj (cH (bm (aa 1 rfl) ai rfl rfl) (bm (aa 0 rfl) ai rfl rfl)) (cH (bm (aa 2 rfl) ai rfl rfl) (bm (aa 0 rfl) ai rfl rfl)) (by walk_at "mul"))) ak b_) ⟨_,rfl,rfl⟩) ?_)
 exact rfl
def oG:List U→Out→Prop:=fun us o=> ∃ row:List P2,us=[lp row]∧(∀ p∈row,Szp 5000 p)∧row.length≤900∧o=.new ((aj row).reverse.map pu)
set_option maxHeartbeats 8000000 in
theorem f_ (T:Txt w K mg):ba P w K mg base (CXF P w) 3 T.a_left_bends T.d_left_bends ["row"] (spU K (oG)):=by
 refine bx T.F_left_bends d9 (fun us o h=> ?_) (fun cdv A outer s H E O us o hr h=> ?_)
 ·obtain ⟨row,rfl,sz,hl,rfl⟩:=h
  rfl
 obtain ⟨row,rfl,sz,hl,rfl⟩:=h
 refine Ws.nox ?_
 refine ae (pJ (i:=1) d9.nd rfl (Or.inl rfl) (gm ca) ?_)
 refine ae (jL (fun st:List P2=> [some (.val (lp row)),some (.own (st.reverse.map pu)),none]) (fun i st=> st=aj (row.take i)) rfl PassesOwn.never (dw (aa 0 rfl) (.inl rfl)) ?h0 ?hs ?hd)
 case h0=> exact ⟨[],rfl,rfl,rfl,trivial⟩
 case hs=>
  rintro H0 i x _ hx rfl
  obtain ⟨P,hP,mP,rfl⟩:=iE hx
  have hi:i < row.length:=be hP
  have sP:=sz P mP
  refine ⟨_,(ma (i:=2) d9.nd rfl (Or.inl rfl)),?_⟩
  have len0:=iy row i
  refine jM (fun ps=> SubP [some (.val (lp row)),some (.own ((bH P (aj (row.take i))).reverse.map pu)),some (.val (pu P))] ps) (gS (fun s2:List P2=> [some (.val (lp row)),some (.own (s2.reverse.map pu)),some (.val (pu P))]) (fun m s2=> m=s2.length∧bH P s2=bH P (aj (row.take i))∧(∀ p∈s2,p∈row)∧s2.length≤i) PassesOwn.never ?h0 ?hs) ?hj
  case h0=> exact ⟨_,_,⟨rfl,rfl,fun q hq=> fN row i q hq,len0⟩,rfl,rfl,rfl,trivial⟩
  case hs=>
   rintro m s2 ⟨rfl,e2,sub,len2⟩
   match s2,e2,sub,len2 with
   | [],e2,sub,len2=>
    refine ⟨false,?_,fun h=> (nomatch h),fun h ps hps=> e2 ▸ hps⟩
    exact (Tw.t (uh (ay lI (la 1 rfl rfl T.z_len) ai) rfl))
   | [b],e2,sub,len2=>
    refine ⟨false,?_,fun h=> (nomatch h),fun h ps hps=> e2 ▸ hps⟩
    exact (Tw.t (uh (ay lI (la 1 rfl rfl T.z_len) ai) rfl))
   | b::a::r,e2,sub,len2=>
    have sa:=sz a (sub a (by simp))
    have sb:=sz b (sub b (by simp))
    have e1:decide ((1:Int) < ((((b::a::r).reverse.map pu).length:Nat):Int))=true:=decide_eq_true (by simp; omega)
    refine ⟨decide ((1:Int) < ((((b::a::r).reverse.map pu).length:Nat):Int)) && decide (sgn (aQ a b P) < 1),?_,fun h=> ?_,fun h ps hps=> ?_⟩
    ·exact (Tw.t (tT (ay lI (la 1 rfl rfl T.z_len) ai) (fun hz=> (uF (ay iO (av ((wB T).mono (by decide)) hr rfl T.m_turn T.F_turn.kp T.b_turn ar (ac (xR 1 rfl (gd ai) (Aa b a r)) (ac (xR 1 rfl (gd ai) (Af b (a::r))) (ac (aa 2 rfl) ak ag) bA) bA) ⟨a,b,P,rfl,sa,sb,sP,rfl⟩) ai)))))
    ·rw [e1,Bool.true_and,tL] at h
     have hd:=dTb h
     refine ae (AM 1 rfl (by simp) (ax ?_))
     refine ⟨_,a::r,?_,⟨rfl,?_,fun q hq=> sub q (List.mem_cons_of_mem _ hq),?_⟩,rfl,?_,rfl,trivial⟩
     ·simp
     ·rw [← e2]; conv=> rhs; unfold bH
      rw [if_pos hd]
     ·simp only [List.length_cons] at *; omega
     ·exact congrArg (fun l=> some (Sl.own l)) (by simp)
    ·rw [e1,Bool.true_and,tL] at h
     have hd:=dFb h
     have e3:bH P (b::a::r)=b::a::r:=by conv=> lhs; unfold bH
                                        rw [if_neg hd]
     rw [← e2,e3]
     exact hps
  case hj=>
   intro ps hps
   refine eJ ?_ hps
   have e4:=gq hP
   have len3:=lh P (aj (row.take i))
   refine ae (g_ 1 rfl (aa 2 rfl) (by rw [List.length_map,List.length_reverse]; exact ap (by omega)) (ax ?_))
   refine ⟨_,rfl,rfl,?_,trivial⟩
   exact congrArg (fun l=> some (Sl.own l)) (by rw [e4]; simp)
 case hd=>
  rintro st ps hst hps
  refine eJ ?_ hps
  refine ae (oz 1 rfl ?_)
  rw [hst]
  simp
end
section
variable {P:Program} {w:World} {K:PySem.W.Frag} {mg:Str→Option Value} {base:Heap}
theorem yj {m:Nat} {pts:List P2} (h:∀ p∈pts,Szp m p):∀ p∈ST.srt pts,Szp m p:=fun p hp=> h p ((ST.srt_mem p pts).mp hp)
theorem m5 (row:List P2):(aj row).length≤row.length:=by
 have:=iy row row.length
 rwa [List.take_length] at this
def o_:List U→Out→Prop:=fun us o=> ∃ pts:List P2,us=[lp pts]∧(∀ p∈pts,Szp 5000 p)∧pts.length < 64∧pts≠[]∧o=.new ((aA pts).map pu)
set_option maxHeartbeats 8000000 in
theorem nt (T:Txt w K mg):ba P w K mg base (CXF P w) 4 T.a_field T.d_field ["points"] (spU K (o_)):=by
 refine bx T.F_field fc (fun us o h=> ?_) (fun cdv A outer s H E O us o hr h=> ?_)
 ·obtain ⟨pts,rfl,sz,hl,hne,rfl⟩:=h
  rfl
 obtain ⟨pts,rfl,sz,hl,hne,rfl⟩:=h
 refine Ws.nox ?_
 have hml:((pts.map pu).length:Int)=(pts.length:Int):=by rw [List.length_map]
 have hpos:0 < pts.length:=List.length_pos_iff.mpr hne
 refine ae (bh (ay gP (aB (dS rfl) rfl T.z_len PySem.boot_len (ac (aa 0 rfl) ak ag)) ai) (by rw [hml]; exact decide_eq_false (by omega)) (ax ?_))
 have sl:=ST.srt_len pts
 have hms:(((ST.srt pts).map pu).length:Int)=((ST.srt pts).length:Int):=by rw [List.length_map]
 have szs:=yj sz
 by_cases h1:(ST.srt pts).length=1
 ·refine ae (pJ (i:=1) fc.nd rfl (Or.inl rfl) (kn rfl (bK hr) rfl T.z_sorted rfl T.z_set (aa 0 rfl) hl ag) ?_)
  refine ae (fZ (ay gP (la 1 rfl rfl T.z_len) ai) (by rw [hms]; exact decide_eq_true (by omega)) ?_)
  refine ae (oz 1 rfl ?_)
  show Out.new _=Out.new _
  unfold aA
  rw [if_pos h1]
 ·refine ae (aU (i:=1) fc.nd rfl (Or.inl rfl) (EvN.ev (kn rfl (bK hr) rfl T.z_sorted rfl T.z_set (aa 0 rfl) hl ag)) ?_)
  refine ae (bh (ay gP (aB (dS rfl) rfl T.z_len PySem.boot_len (ac (aa 1 rfl) ak ag)) ai) (by rw [hms]; exact decide_eq_false (by omega)) (ax ?_))
  have b1:=m5 (ST.srt pts)
  have b2:=m5 (ST.srt pts).reverse
  rw [List.length_reverse] at b2
  refine ae (aU (i:=2) fc.nd rfl (Or.inl rfl) (EvN.ev (dF ((f_ T).mono (by decide)) hr rfl T.m_left_bends T.F_left_bends.kp T.b_left_bends ar (ac (aa 1 rfl) ak ag) ⟨ST.srt pts,rfl,szs,by omega,rfl⟩)) ?_)
  refine ae (aU (i:=3) fc.nd rfl (Or.inl rfl) (EvN.ev (dF ((f_ T).mono (by decide)) hr rfl T.m_left_bends T.F_left_bends.kp T.b_left_bends ar (ac (EvN.ev (Au (aa 1 rfl) (gd ai) (.inl rfl))) ak bA) ⟨(ST.srt pts).reverse,by rw [lp,List.map_reverse],fun p hp=> szs p (List.mem_reverse.mp hp),by rw [List.length_reverse]; omega,rfl⟩)) ?_)
  refine ae (gr (sV (EvN.ev (eY (aa 2 rfl) dX (d6 (gd ai)) (.inl rfl))) (EvN.ev (eY (aa 3 rfl) dX (d6 (gd ai)) (.inl rfl))) (by rw [kY,kY,List.length_map,List.length_map,List.length_dropLast,List.length_dropLast,List.length_reverse,List.length_reverse]; exact Nat.le_of_lt (ap (by omega)))) ?_)
  show Out.new _=Out.new _
  unfold aA
  rw [if_neg h1,kY,kY,← List.map_append]
theorem jG {pts:List Pt} (h:¬ 2≤(ST.srt pts).length):aA pts=ST.srt pts:=by
 unfold aA
 split
 ·rfl
 ·have e:ST.srt pts=[]:=List.length_eq_zero_iff.mp (by omega)
  rw [e]; rfl
section
variable {f:Pt→Pt}
end
def scl (k:Int) (p:Pt):Pt:=(k * p.1,k * p.2)
theorem oB {m n:Nat} {k:Int} {p:P2} (sk:Sz n k) (s:Szp m p):Szp (n+m) (scl k p):=⟨L2.Sz.mul sk s.1,L2.Sz.mul sk s.2⟩
def qO:List U→Out→Prop:=fun us o=> ∃ (pts:List P2) (k:Int),us=[lp pts,.int k]∧Sz 1000 k∧(∀ p∈pts,Szp 3000 p)∧pts≠[]∧pts.length < 64∧o=.new ((aA (pts.map (scl k))).map pu)
set_option maxHeartbeats 8000000 in
theorem wJ (T:Txt w K mg):ba P w K mg base (CXF P w) 5 T.a_fold T.d_fold ["land","k"] (spU K (qO)):=by
 refine bx T.F_fold pY (fun us o h=> ?_) (fun cdv A outer s H E O us o hr h=> ?_)
 ·obtain ⟨pts,k,rfl,sk,sz,hne,hl,rfl⟩:=h
  rfl
 obtain ⟨pts,k,rfl,sk,sz,hne,hl,rfl⟩:=h
 refine Ws.nox ?_
 refine ae (gr (dF ((nt T).mono (by decide)) hr rfl T.m_field T.F_field.kp T.b_field ar (ac (EvN.ev (gx (ys:=(pts.map fun p=> pu (scl k p))) rfl (blk (af gv) ["land","k","P"] [2] rfl rfl rfl rfl (by decide+kernel)) (dw (aa 0 rfl) (.inl rfl)) (fun _ _ _ _=> aJ (i:=2) pY.nd rfl (Or.inl rfl)) (db (by decide)) ?clen ?csz (fun _ _=> trivial) ?celt)) ak gM) ⟨pts.map (scl k),by rw [lp,List.map_map]; rfl,fun p hp=> by obtain ⟨q,hq,rfl⟩:=List.mem_map.mp hp; have z:=oB sk (sz q hq); exact ⟨z.1.mono (by decide),z.2.mono (by decide)⟩,by rw [List.length_map]; exact hl,by simpa using hne,rfl⟩) ?_)
 case clen=> simp
 case csz=> rw [List.length_map]; exact Nat.le_of_lt (ap (by omega))
 case celt=>
  intro C s' H' fp j x y hx hy
  obtain ⟨p,hp,mp,rfl,rfl⟩:=cM hx hy
  have s1:=(sz p mp).1
  have s2:=(sz p mp).2
  exact (cD (aG (bj (aa 1 rfl) (bm (aa 2 rfl) ai rfl rfl) (by walk_at "mul")) (aG (bj (aa 1 rfl) (bm (aa 2 rfl) ai rfl rfl) (by walk_at "mul")) ca b_) b_))
 exact rfl
end
section
variable {P:Program} {w:World} {K:PySem.W.Frag} {mg:Str→Option Value} {base:Heap}
def wth (a b:Int) (p:Pt):Int:=a * p.1+b * p.2
theorem ye {a b:Int} {u p v:Pt} (hb:b≤0) (h1:plt u p) (h2:plt p v) (h:aQ u p v≤0):wth a b p≤wth a b u∨wth a b p≤wth a b v:=by
 rcases Int.lt_or_le (wth a b u) (wth a b p) with c1 | c1
 ·rcases Int.lt_or_le (wth a b v) (wth a b p) with c2 | c2
  ·exfalso
   have e:(v.1 - p.1) * (wth a b p - wth a b u)+(p.1 - u.1) * (wth a b p - wth a b v)=-((-b) * (-(aQ u p v))):=by unfold wth aQ; grind
   have n1:0≤(-b) * (-(aQ u p v)):=Int.mul_nonneg (by omega) (by omega)
   have d1:0≤p.1 - u.1:=by unfold plt at h1; omega
   have d2:0≤v.1 - p.1:=by unfold plt at h2; omega
   have m1:0≤(v.1 - p.1) * (wth a b p - wth a b u):=Int.mul_nonneg d2 (by omega)
   have m2:0≤(p.1 - u.1) * (wth a b p - wth a b v):=Int.mul_nonneg d1 (by omega)
   rcases Int.lt_or_le 0 (p.1 - u.1) with d | d
   ·have:=Int.mul_pos d (show 0 < wth a b p - wth a b v by omega)
    omega
   ·have ex:u.1=p.1:=by omega
    have ey:u.2 < p.2:=by unfold plt at h1; omega
    have:0≤(-b) * (p.2 - u.2):=Int.mul_nonneg (by omega) (by omega)
    have e2:wth a b p - wth a b u=-((-b) * (p.2 - u.2)):=by unfold wth; rw [ex]; grind
    omega
  ·exact .inr c2
 ·exact .inl c1
theorem qM {row:List Pt} (hs:row.Pairwise plt) {a b:Int} (hb:b≤0) {p:Pt} (hp:p∈row):∃ c∈aj row,wth a b p≤wth a b c:=by
 by_cases h:p∈aj row
 ·exact ⟨p,h,Int.le_refl _⟩
 ·obtain ⟨u,hu,v,hv,k1,k2,k3⟩:=gap hs hp h
  rcases ye (a:=a) hb k1 k2 k3 with e | e
  ·exact ⟨u,hu,e⟩
  ·exact ⟨v,hv,e⟩
theorem yg (a b:Int) (p:Pt):wth (-a) (-b) (ng p)=wth a b p:=by unfold wth ng; grind
theorem wK (a b:Int) (p:Pt):wth a b (ng p)=wth (-a) (-b) p:=by unfold wth ng; grind
theorem vy {row:List Pt} (hs:row.Pairwise plt) {a b:Int} (hb:0≤b) {p:Pt} (hp:p∈row):∃ c∈aj row.reverse,wth a b p≤wth a b c:=by
 obtain ⟨c,hc,k⟩:=qM (de hs) (a:=-a) (b:=-b) (by omega) (p:=ng p) (List.mem_map.mpr ⟨p,List.mem_reverse.mpr hp,rfl⟩)
 refine ⟨ng c,by rw [bI]; exact List.mem_map.mpr ⟨c,hc,rfl⟩,?_⟩
 rw [yg] at k
 rw [wK]
 exact k
theorem tK {pts:List Pt} (a b:Int) {p:Pt} (hp:p∈pts):∃ c∈aA pts,wth a b p≤wth a b c:=by
 have hp':p∈ST.srt pts:=(ST.srt_mem p pts).mpr hp
 by_cases h2:2≤(ST.srt pts).length
 ·have hs:=eX pts
  obtain ⟨mn,mx,t1,t2,e1,e2,m1,m2,_⟩:=u_ hs h2
  have big:=fq h2
  rw [e1,e2] at big
  rcases Int.le_total b 0 with hb | hb
  ·obtain ⟨c,hc,k⟩:=qM hs (a:=a) hb hp'
   refine ⟨c,?_,k⟩
   rw [big]
   rw [e1] at hc
   rcases List.mem_cons.mp hc with rfl | hc
   ·exact List.mem_append_right _ (List.mem_reverse.mpr m2)
   ·exact List.mem_append_left _ (List.mem_reverse.mpr hc)
  ·obtain ⟨c,hc,k⟩:=vy hs (a:=a) hb hp'
   refine ⟨c,?_,k⟩
   rw [big]
   rw [e2] at hc
   rcases List.mem_cons.mp hc with rfl | hc
   ·exact List.mem_append_left _ (List.mem_reverse.mpr m1)
   ·exact List.mem_append_right _ (List.mem_reverse.mpr hc)
 ·exact ⟨p,by rw [jG h2]; exact hp',Int.le_refl _⟩
def hiL:List Int→Int
 | []=> 0
 | a::l=> l.foldl max a
theorem fX:∀ (l:List Int) (a:Int),l.foldl max a∈a::l
 | [],a=> by simp
 | b::l,a=> by
  have:=fX l (max a b)
  rw [List.foldl_cons]
  rcases List.mem_cons.mp this with e | e
  ·rw [e]; rcases Int.le_total a b with h | h
   ·rw [Int.max_eq_right h]; simp
   ·rw [Int.max_eq_left h]; simp
  ·exact List.mem_cons_of_mem _ (List.mem_cons_of_mem _ e)
theorem hI:∀ (l:List Int) (a:Int),∀ x∈a::l,x≤l.foldl max a
 | [],a,x,h=> by simp at h; rw [h]; exact Int.le_refl _
 | b::l,a,x,h=> by
  have ih:=hI l (max a b)
  rw [List.foldl_cons]
  have h0:=ih (max a b) List.mem_cons_self
  rcases List.mem_cons.mp h with rfl | h
  ·omega
  ·rcases List.mem_cons.mp h with rfl | h
   ·omega
   ·exact ih x (List.mem_cons_of_mem _ h)
def hiW (a b:Int) (l:List Pt):Int:=hiL (l.map (wth a b))
theorem dy {l:List Pt} (a b:Int) (h:l≠[]):(∃ p∈l,wth a b p=hiW a b l)∧∀ p∈l,wth a b p≤hiW a b l:=by
 cases l with
 | nil=> exact absurd rfl h
 | cons q l=>
  refine ⟨?_,fun p hp=> ?_⟩
  ·have:=fX (l.map (wth a b)) (wth a b q)
   rw [← List.map_cons] at this
   obtain ⟨p,hp,e⟩:=List.mem_map.mp this
   exact ⟨p,hp,e⟩
  ·exact hI (l.map (wth a b)) (wth a b q) _ (by rw [← List.map_cons]; exact List.mem_map_of_mem hp)
theorem gi {l:List Pt} {a b M:Int} (h1:∃ p∈l,wth a b p=M) (h2:∀ p∈l,wth a b p≤M):hiW a b l=M:=by
 obtain ⟨p,hp,rfl⟩:=h1
 obtain ⟨⟨q,hq,e⟩,k⟩:=dy a b (l:=l) (fun z=> by rw [z] at hp; simp at hp)
 have:=k p hp
 have:=h2 q hq
 omega
def spn (a b:Int) (l:List Pt):Int:=hiW a b l+hiW (-a) (-b) l
theorem mE {pts:List Pt} (a b:Int) (h:pts≠[]):hiW a b (aA pts)=hiW a b pts:=by
 obtain ⟨⟨q,hq,e⟩,k⟩:=dy a b h
 obtain ⟨c,hc,z⟩:=tK a b hq
 refine gi ⟨c,hc,?_⟩ fun p hp=> k p (cI _ p hp)
 have:=k c (cI _ c hc)
 omega
theorem m4 {pts:List Pt} (a b:Int) (h:pts≠[]):spn a b (aA pts)=spn a b pts:=by unfold spn; rw [mE a b h,mE (-a) (-b) h]
theorem gX (a b:Int) (l:List Pt):spn (-a) (-b) l=spn a b l:=by unfold spn; rw [Int.neg_neg,Int.neg_neg,Int.add_comm]
theorem qd {l:List Pt} (a b:Int) {m:Int} (hm:0≤m) (h:l≠[]):hiW (m * a) (m * b) l=m * hiW a b l:=by
 obtain ⟨⟨q,hq,e⟩,k⟩:=dy a b h
 have w:∀ p,wth (m * a) (m * b) p=m * wth a b p:=fun p=> by unfold wth; grind
 exact gi ⟨q,hq,by rw [w,e]⟩ fun p hp=> by rw [w]; exact Int.mul_le_mul_of_nonneg_left (k p hp) hm
theorem fB {l:List Pt} (a b:Int) {m:Int} (hm:0≤m) (h:l≠[]):spn (m * a) (m * b) l=m * spn a b l:=by
 unfold spn
 rw [← Int.mul_neg,← Int.mul_neg,qd a b hm h,qd (-a) (-b) hm h,Int.mul_add]
theorem qq {l:List Pt} (a b m:Int) (h:l≠[]):spn (m * a) (m * b) l=(if m < 0 then -m else m) * spn a b l:=by
 split
 ·rw [← fB a b (by omega) h,← gX,Int.neg_mul,Int.neg_mul]
 ·exact fB a b (by omega) h
theorem AY {l:List Pt} (h:l≠[]):spn 0 0 l=0:=by
 have:=fB 0 0 (m:=0) (Int.le_refl _) h
 simpa using this
theorem ul {l:List Pt} (a b:Int) (h:l≠[]):hiW a b l∈l.map (wth a b)∧∀ x∈l.map (wth a b),x≤hiW a b l:=by
 obtain ⟨⟨q,hq,e⟩,k⟩:=dy a b h
 refine ⟨by rw [← e]; exact List.mem_map_of_mem hq,fun x hx=> ?_⟩
 obtain ⟨p,hp,rfl⟩:=List.mem_map.mp hx
 exact k p hp
theorem sR {l:List Pt} (a b:Int) (h:l≠[]):-hiW (-a) (-b) l∈l.map (wth a b)∧∀ x∈l.map (wth a b),-hiW (-a) (-b) l≤x:=by
 obtain ⟨⟨q,hq,e⟩,k⟩:=dy (-a) (-b) h
 have w:∀ p,wth (-a) (-b) p=-wth a b p:=fun p=> by unfold wth; grind
 refine ⟨?_,fun x hx=> ?_⟩
 ·rw [← e,w,Int.neg_neg]; exact List.mem_map_of_mem hq
 ·obtain ⟨p,hp,rfl⟩:=List.mem_map.mp hx
  have:=k p hp
  rw [w] at this
  omega
theorem zw {m n:Nat} {a b:Int} {p:P2} (ha:Sz n a) (hb:Sz n b) (hp:Szp m p):Sz (n+m+1) (wth a b p):=(L2.Sz.mul ha hp.1).add (L2.Sz.mul hb hp.2)
theorem uN {m n:Nat} {a b:Int} {l:List P2} (hne:l≠[]) (ha:Sz n a) (hb:Sz n b) (hp:∀ p∈l,Szp m p):Sz (n+m+1) (hiW a b l):=by
 obtain ⟨⟨q,hq,e⟩,_⟩:=dy a b hne
 rw [← e]; exact zw ha hb (hp q hq)
theorem pA {m n:Nat} {a b:Int} {l:List P2} (hne:l≠[]) (ha:Sz n a) (hb:Sz n b) (hp:∀ p∈l,Szp m p):Sz (n+m+2) (spn a b l):=
 (uN hne ha hb hp).add (uN hne ha.neg hb.neg hp)
def rq:List U→Out→Prop:=fun us o=> ∃ (l:List P2) (a b:Int),us=[lp l,.int a,.int b]∧l≠[]∧l.length≤900∧Sz 6000 a∧Sz 6000 b∧(∀ p∈l,Szp 2000 p)∧o=.val (.int (spn a b l))
theorem nK (l:List P2) (a b:Int):l.map (fun p=> U.int (wth a b p))=(l.map (wth a b)).map U.int:=by rw [List.map_map]; rfl
set_option maxHeartbeats 8000000 in
theorem v_ (T:Txt w K mg):ba P w K mg base (CXF P w) 1 T.a_span T.d_span ["land","a","b"] (spU K (rq)):=by
 refine bx T.F_span lL (fun us o h=> ?_) (fun cdv A outer s H E O us o hr h=> ?_)
 ·obtain ⟨l,a,b,rfl,hne,hl,sa,sb,sz,rfl⟩:=h
  rfl
 obtain ⟨l,a,b,rfl,hne,hl,sa,sb,sz,rfl⟩:=h
 refine Ws.nox ?_
 refine ae (ij (ys:=(l.map fun p=> U.int (wth a b p))) (j:=3) false rfl lL.nd rfl (Or.inl rfl) (blk (af gw) ["land","a","b","worths","P"] [4] rfl rfl rfl rfl (by decide+kernel)) (dw (aa 0 rfl) (.inl rfl)) (fun _ _ _ _=> aJ (i:=4) lL.nd rfl (Or.inl rfl)) (db (by decide)) ?clen ?csz (fun _ _=> trivial) ?celt ?_)
 case clen=> simp
 case csz=> rw [List.length_map]; exact Nat.le_of_lt (ap (by omega))
 case celt=>
  intro C s' H' fp j x y hx hy
  obtain ⟨p,hp,mp,rfl,rfl⟩:=cM hx hy
  have s1:=(sz p mp).1
  have s2:=(sz p mp).2
  exact (dg (bj (aa 1 rfl) (bm (aa 4 rfl) ai rfl rfl) (by walk_at "mul")) (bj (aa 2 rfl) (bm (aa 4 rfl) ai rfl rfl) (by walk_at "mul")))
 rw [nK]
 refine ae (bo (cH (aB (oN rfl (ul a b hne)) rfl T.z_max boot_max (ac (aa 3 rfl) ak ag)) (aB (t8 rfl (sR a b hne)) rfl T.z_min boot_min (ac (aa 3 rfl) ak ag))) ?_)
 exact vIO (by unfold spn; omega)
end
section
variable {P:Program} {w:World} {K:PySem.W.Frag} {mg:Str→Option Value} {base:Heap}
abbrev gp (l:List P2) (i:Nat):P2:=l.getD i (0,0)
def nxt (l:List P2) (i:Nat):P2:=gp l ((i+1) % l.length)
def sdl (l:List P2):List (P2×P2):=(List.range l.length).map fun i=> (gp l i,nxt l i)
theorem z_ {l:List P2} {i:Nat} (h:i < l.length):l[i]?=some (gp l i):=by simp [gp,h]
theorem uA {l:List P2} {i:Nat} (h:i < l.length):gp l i∈l:=List.mem_of_getElem? (z_ h)
theorem qu {l:List P2} {s:P2×P2} (h:s∈sdl l):s.1∈l∧s.2∈l:=by
 obtain ⟨i,hi,rfl⟩:=List.mem_map.mp h
 have hi':=List.mem_range.mp hi
 exact ⟨uA hi',uA (Nat.mod_lt _ (by omega))⟩
theorem nN {done:List Pt}:∀ {st:List Pt},gc done st→∀ (k:Nat) {a b:Pt},st[k]?=some b→st[k+1]?=some a→∀ q∈done,0≤aQ a b q
 | [],_,k,_,_,h,_=> by simp at h
 | [_],_,k,_,_,_,h=> by simp at h
 | x::y::r,C,0,a,b,h1,h2=> by
  simp at h1 h2
  subst h1; subst h2
  exact C.1
 | x::y::r,C,k+1,a,b,h1,h2=> nN C.2 k (by simpa using h1) (by simpa using h2)
theorem m3:∀ {st:List Pt},iH st→∀ (k:Nat) {a b c:Pt},st[k]?=some c→st[k+1]?=some b→st[k+2]?=some a→0 < aQ a b c
 | [],_,k,_,_,_,h,_,_=> by simp at h
 | [_],_,k,_,_,_,_,h,_=> by simp at h
 | [_,_],_,k,_,_,_,_,_,h=> by simp at h
 | x::y::z::r,C,0,a,b,c,h1,h2,h3=> by
  simp at h1 h2 h3
  subst h1; subst h2; subst h3
  exact C.1
 | x::y::z::r,C,k+1,a,b,c,h1,h2,h3=> m3 C.2 k (by simpa using h1) (by simpa using h2) (by simpa using h3)
theorem uS {st:List Pt} {i:Nat} {a b:Pt} (h1:st.reverse[i]?=some a) (h2:st.reverse[i+1]?=some b):∃ k,st[k]?=some b∧st[k+1]?=some a:=by
 have l2:i+1 < st.length:=by have:=(List.getElem?_eq_some_iff.mp h2).1; simpa using this
 rw [List.getElem?_reverse (by omega)] at h1
 rw [List.getElem?_reverse l2] at h2
 exact ⟨st.length - 1 - (i+1),h2,by rw [← h1]; congr 1; omega⟩
theorem sC {st:List Pt} {i:Nat} {a b c:Pt} (h1:st.reverse[i]?=some a) (h2:st.reverse[i+1]?=some b) (h3:st.reverse[i+2]?=some c):∃ k,st[k]?=some c∧st[k+1]?=some b∧st[k+2]?=some a:=by
 have l3:i+2 < st.length:=by have:=(List.getElem?_eq_some_iff.mp h3).1; simpa using this
 rw [List.getElem?_reverse (by omega)] at h1
 rw [List.getElem?_reverse (by omega)] at h2
 rw [List.getElem?_reverse l3] at h3
 exact ⟨st.length - 1 - (i+2),h3,by rw [← h2]; congr 1; omega,by rw [← h1]; congr 1; omega⟩
theorem fj {row:List Pt} (hs:row.Pairwise plt) (h:row≠[]) {i:Nat} {a b:Pt} (h1:(aj row).reverse[i]?=some a) (h2:(aj row).reverse[i+1]?=some b):∀ q∈row,0≤aQ a b q:=by
 obtain ⟨k,e1,e2⟩:=uS h1 h2
 exact nN (cj hs h).1.cover k e1 e2
theorem gj {row:List Pt} (hs:row.Pairwise plt) (h:row≠[]) {i:Nat} {a b c:Pt} (h1:(aj row).reverse[i]?=some a) (h2:(aj row).reverse[i+1]?=some b) (h3:(aj row).reverse[i+2]?=some c):0 < aQ a b c:=by
 obtain ⟨k,e1,e2,e3⟩:=sC h1 h2 h3
 exact m3 (cj hs h).1.turns k e1 e2 e3
theorem eS {row:List Pt} {i:Nat} {a:Pt} (h1:(aj row.reverse).reverse[i]?=some a):(aj (row.reverse.map ng)).reverse[i]?=some (ng a):=by
 rw [bI,← List.map_reverse,List.getElem?_map] at h1
 cases e:(aj (row.reverse.map ng)).reverse[i]? with
 | none=> rw [e] at h1; cases h1
 | some z=> rw [e] at h1; cases h1; rw [fW]
theorem jm {row:List Pt} (hs:row.Pairwise plt) (h:row≠[]) {i:Nat} {a b:Pt} (h1:(aj row.reverse).reverse[i]?=some a) (h2:(aj row.reverse).reverse[i+1]?=some b):∀ q∈row,0≤aQ a b q:=fun q hq=> by
 have:=fj (de hs) (by simpa using h) (eS h1) (eS h2) (ng q) (List.mem_map_of_mem (List.mem_reverse.mpr hq))
 rwa [jd] at this
theorem kC {row:List Pt} (hs:row.Pairwise plt) (h:row≠[]) {i:Nat} {a b c:Pt} (h1:(aj row.reverse).reverse[i]?=some a) (h2:(aj row.reverse).reverse[i+1]?=some b) (h3:(aj row.reverse).reverse[i+2]?=some c):0 < aQ a b c:=by
 have:=gj (de hs) (by simpa using h) (eS h1) (eS h2) (eS h3)
 rwa [jd] at this
theorem uX {u1 u2 v1 v2 w1 w2:Int} (hu:fS u1 u2) (hv:fS v1 v2) (h0:u1 * v2 - u2 * v1=0) (h1:u1 * w2 - u2 * w1≤0) (h2:0≤v1 * w2 - v2 * w1):u1 * w2 - u2 * w1=0∧v1 * w2 - v2 * w1=0:=by
 have e1:v1 * (u1 * w2 - u2 * w1)=u1 * (v1 * w2 - v2 * w1):=by grind
 have e2:v2 * (u1 * w2 - u2 * w1)=u2 * (v1 * w2 - v2 * w1):=by grind
 have fin:∀ {s t A B:Int},0 < s→0 < t→s * A=t * B→A≤0→0≤B→A=0∧B=0:=fun {s t A B} hs ht e ha hb=> by
  have k1:s * A≤0:=Int.mul_nonpos_of_nonneg_of_nonpos (by omega) ha
  have k2:0≤t * B:=Int.mul_nonneg (by omega) hb
  have z1:s * A=0:=by omega
  have z2:t * B=0:=by omega
  refine ⟨(Int.mul_eq_zero.mp z1).resolve_left (by omega),(Int.mul_eq_zero.mp z2).resolve_left (by omega)⟩
 rcases hu with hu | ⟨hu,hu2⟩
 ·rcases hv with hv | ⟨hv,hv2⟩
  ·exact fin hv hu e1 h1 h2
  ·rw [hv] at h0
   have:=Int.mul_pos hu hv2
   omega
 ·rcases hv with hv | ⟨hv,hv2⟩
  ·rw [hu] at h0
   have:=Int.mul_pos hu2 hv
   omega
  ·exact fin hv2 hu2 e2 h1 h2
theorem rA {a m c:Pt} (ha:plt a m) (hc:plt c m) (h:aQ a m c=0) {q:Pt} (h1:0≤aQ a m q) (h2:0≤aQ m c q):aQ a m q=0∧aQ m c q=0:=by
 have k:=uX (w1:=m.1 - q.1) (w2:=m.2 - q.2) (bu ha) (bu hc) (by unfold aQ at h; grind) (by unfold aQ at h1; grind) (by unfold aQ at h2; grind)
 unfold aQ
 exact ⟨by grind,by grind⟩
theorem vX (a b c:Pt):aQ a b c=aQ b c a:=by unfold aQ; grind
theorem zW {row:List Pt} (hs:row.Pairwise plt) (hne:row≠[]) {i:Nat} {a m c:Pt} (h1:(aj row).reverse[i]?=some a) (h2:(aj row).reverse[i+1]?=some m) (hl:(aj row).length=i+2)
  (h3:(aj row.reverse).reverse[0]?=some m) (h4:(aj row.reverse).reverse[1]?=some c) (ha:plt a m) (hc:plt c m) (big:2 < (aj row).length∨2 < (aj row.reverse).length):0 < aQ a m c:=by
 have mem:∀ {j:Nat} {p:Pt},(aj row).reverse[j]?=some p→p∈row:=fun h=> ce row _ (List.mem_reverse.mp (List.mem_of_getElem? h))
 have memR:∀ {j:Nat} {p:Pt},(aj row.reverse).reverse[j]?=some p→p∈row:=fun h=> List.mem_reverse.mp (ce _ _ (List.mem_reverse.mp (List.mem_of_getElem? h)))
 have cv:=fj hs hne h1 h2
 have cb:=jm hs hne h3 h4
 have h0:=cv c (memR h4)
 rcases Int.lt_or_eq_of_le h0 with z | z
 ·exact z
 ·exfalso
  have flat:∀ q∈row,aQ a m q=0∧aQ m c q=0:=fun q hq=> rA ha hc z.symm (cv q hq) (cb q hq)
  rcases big with b | b
  ·have hi:0 < i:=by omega
   have hx:i - 1 < (aj row).reverse.length:=by simp; omega
   have e:=List.getElem?_eq_getElem hx
   have t:=gj hs hne e (by rw [Nat.sub_add_cancel hi]; exact h1) (by rw [show i - 1+2=i+1 by omega]; exact h2)
   rw [vX,(flat _ (mem e)).1] at t
   omega
  ·have hx:2 < (aj row.reverse).reverse.length:=by simpa using b
   have e:=List.getElem?_eq_getElem hx
   have t:=kC hs hne h3 h4 e
   rw [(flat _ (memR e)).2] at t
   omega
structure zq (row T B:List Pt) (mn mx:Pt):Prop where
 t0:T[0]?=some mn
 t1:T[T.length - 1]?=some mx
 b0:B[0]?=some mx
 b1:B[B.length - 1]?=some mn
 lt:2≤T.length
 lb:2≤B.length
 least:∀ p∈row,p=mn∨plt mn p
 most:∀ p∈row,p=mx∨plt p mx
theorem xL {l:List Pt}:l.reverse[0]?=l.getLast?:=by rw [List.getLast?_eq_head?_reverse,List.head?_eq_getElem?]
theorem x8 {l:List Pt}:l.reverse[l.reverse.length - 1]?=l.head?:=by rw [← List.getLast?_eq_getElem?,List.getLast?_reverse]
theorem Bm {row:List Pt} (hs:row.Pairwise plt) (h2:2≤row.length):∃ mn mx,zq row (aj row).reverse (aj row.reverse).reverse mn mx:=by
 have hne:row≠[]:=fun z=> by rw [z] at h2; simp at h2
 obtain ⟨mn,mx,t1,t2,e1,e2,m1,m2,least,most,_,_⟩:=u_ hs h2
 obtain ⟨K,hl,hh⟩:=cj hs hne
 obtain ⟨KR,hlR,hhR⟩:=cj (de hs) (by simpa using hne)
 have l1:2≤(aj row).length:=by rw [e1]; have:=List.length_pos_of_mem m1; simp; omega
 have l2:2≤(aj row.reverse).length:=by rw [e2]; have:=List.length_pos_of_mem m2; simp; omega
 have hd:row.head?=some row[0]:=by rw [List.head?_eq_getElem?]; exact List.getElem?_eq_getElem (by omega)
 have ld:row.getLast?=some row[row.length - 1]:=by rw [List.getLast?_eq_getElem?]; exact List.getElem?_eq_getElem (by omega)
 have q1:row[0]=mn:=by
  have hb:=hhR
  rw [List.getLast?_map,List.getLast?_reverse,hd] at hb
  have:(aj row.reverse).head?=some row[0]:=by rw [bI,List.head?_map,hb]; simp [fW]
  rw [e2] at this
  exact (Option.some.inj this).symm
 have q2:row[row.length - 1]=mx:=by
  rw [ld,e1] at hh
  exact (Option.some.inj hh).symm
 refine ⟨mn,mx,?_,?_,?_,?_,by simpa using l1,by simpa using l2,least,most⟩
 ·rw [xL,hl,hd,q1]
 ·rw [x8,hh,ld,q2]
 ·rw [xL,bI,List.getLast?_map,hlR,List.head?_map,List.head?_reverse,ld,q2]; simp [fW]
 ·rw [x8,e2]; rfl
section
variable {row T B:List Pt} {mn mx:Pt}
theorem fh (W:zq row T B mn mx) {k:Nat} (hk:k≤T.length - 1):(T.dropLast++B.dropLast)[k % (T.dropLast++B.dropLast).length]?=T[k]?:=by
 have h1:=W.lt
 have h2:=W.lb
 have hn:(T.dropLast++B.dropLast).length=T.length - 1+(B.length - 1):=by simp
 rw [hn,Nat.mod_eq_of_lt (by omega)]
 by_cases h:k < T.length - 1
 ·rw [List.getElem?_append_left (by simpa using h),List.getElem?_dropLast,if_pos h]
 ·obtain rfl:k=T.length - 1:=by omega
  rw [List.getElem?_append_right (by simp),List.length_dropLast,Nat.sub_self,List.getElem?_dropLast,if_pos (by omega),W.b0,W.t1]
theorem i9 (W:zq row T B mn mx) {k:Nat} (h0:T.length - 1≤k) (hk:k≤T.length - 1+(B.length - 1)):(T.dropLast++B.dropLast)[k % (T.dropLast++B.dropLast).length]?=B[k - (T.length - 1)]?:=by
 have h1:=W.lt
 have h2:=W.lb
 have hn:(T.dropLast++B.dropLast).length=T.length - 1+(B.length - 1):=by simp
 by_cases h:k < T.length - 1+(B.length - 1)
 ·rw [hn,Nat.mod_eq_of_lt h,List.getElem?_append_right (by simpa using h0),List.length_dropLast,List.getElem?_dropLast,if_pos (by omega)]
 ·obtain rfl:k=T.length - 1+(B.length - 1):=by omega
  have:=fh W (k:=0) (by omega)
  rw [Nat.zero_mod] at this
  rw [hn,Nat.mod_self,this,W.t0,show T.length - 1+(B.length - 1) - (T.length - 1)=B.length - 1 by omega,W.b1]
end
theorem some_of {l:List Pt} {i:Nat} (h:i < l.length):∃ a,l[i]?=some a:=⟨_,List.getElem?_eq_getElem h⟩
theorem o7 {pts:List Pt} (h2:2≤(ST.srt pts).length) {i:Nat} (hi:i < (aA pts).length):∃ a b,(aA pts)[i]?=some a∧(aA pts)[(i+1) % (aA pts).length]?=some b∧(∀ p∈pts,0≤aQ a b p)∧(2 < (aA pts).length→∃ c,(aA pts)[(i+2) % (aA pts).length]?=some c∧0 < aQ a b c):=by
 have hs:=eX pts
 have hne:ST.srt pts≠[]:=fun z=> by rw [z] at h2; simp at h2
 obtain ⟨mn,mx,W⟩:=Bm hs h2
 have hmem:∀ p∈pts,p∈ST.srt pts:=fun p hp=> (ST.srt_mem p pts).mpr hp
 have hc:aA pts=(aj (ST.srt pts)).reverse.dropLast++(aj (ST.srt pts).reverse).reverse.dropLast:=by
  unfold aA; rw [if_neg (by omega)]
 have tc:∀ {j:Nat} {a b:Pt},(aj (ST.srt pts)).reverse[j]?=some a→(aj (ST.srt pts)).reverse[j+1]?=some b→∀ q∈ST.srt pts,0≤aQ a b q:=fun h h'=> fj hs hne h h'
 have tt:∀ {j:Nat} {a b c:Pt},(aj (ST.srt pts)).reverse[j]?=some a→(aj (ST.srt pts)).reverse[j+1]?=some b→(aj (ST.srt pts)).reverse[j+2]?=some c→0 < aQ a b c:=fun h h' h''=> gj hs hne h h' h''
 have bc:∀ {j:Nat} {a b:Pt},(aj (ST.srt pts).reverse).reverse[j]?=some a→(aj (ST.srt pts).reverse).reverse[j+1]?=some b→∀ q∈ST.srt pts,0≤aQ a b q:=fun h h'=> jm hs hne h h'
 have bt:∀ {j:Nat} {a b c:Pt},(aj (ST.srt pts).reverse).reverse[j]?=some a→(aj (ST.srt pts).reverse).reverse[j+1]?=some b→(aj (ST.srt pts).reverse).reverse[j+2]?=some c→0 < aQ a b c:=fun h h' h''=> kC hs hne h h' h''
 have memT:∀ {j:Nat} {p:Pt},(aj (ST.srt pts)).reverse[j]?=some p→p∈ST.srt pts:=fun h=> ce _ _ (List.mem_reverse.mp (List.mem_of_getElem? h))
 have memB:∀ {j:Nat} {p:Pt},(aj (ST.srt pts).reverse).reverse[j]?=some p→p∈ST.srt pts:=fun h=> List.mem_reverse.mp (ce _ _ (List.mem_reverse.mp (List.mem_of_getElem? h)))
 have ndT:(aj (ST.srt pts)).reverse.Nodup:=(dB hs).imp fun {a b} h e=> by subst e; exact bw _ ((lU _ _).mpr h)
 have ndB:(aj (ST.srt pts).reverse).reverse.Nodup:=by
  rw [bI,← List.map_reverse]
  have ndR:(aj ((ST.srt pts).reverse.map ng)).reverse.Nodup:=(dB (de hs)).imp fun {a b} h e=> by subst e; exact bw _ ((lU _ _).mpr h)
  exact List.Pairwise.map _ (fun a b (h:a≠b) e=> h (by have:=congrArg ng e; rwa [fW,fW] at this)) ndR
 have m1:∀ {j:Nat} {a m c:Pt},(aj (ST.srt pts)).reverse[j]?=some a→(aj (ST.srt pts)).reverse[j+1]?=some m→(aj (ST.srt pts)).length=j+2→(aj (ST.srt pts).reverse).reverse[0]?=some m→(aj (ST.srt pts).reverse).reverse[1]?=some c→plt a m→plt c m→2 < (aj (ST.srt pts)).length∨2 < (aj (ST.srt pts).reverse).length→0 < aQ a m c:=fun a1 a2 a3 a4 a5 a6 a7 a8=> zW hs hne a1 a2 a3 a4 a5 a6 a7 a8
 have m2:∀ {j:Nat} {a m c:Pt},(aj (ST.srt pts).reverse).reverse[j]?=some a→(aj (ST.srt pts).reverse).reverse[j+1]?=some m→(aj (ST.srt pts).reverse).length=j+2→(aj (ST.srt pts)).reverse[0]?=some m→(aj (ST.srt pts)).reverse[1]?=some c→plt m a→plt m c→2 < (aj (ST.srt pts)).length∨2 < (aj (ST.srt pts).reverse).length→0 < aQ a m c:=fun {j a m c} a1 a2 a3 a4 a5 a6 a7 a8=> by
  have er:((ST.srt pts).reverse.map ng).reverse=(ST.srt pts).map ng:=by rw [← List.map_reverse,List.reverse_reverse]
  have fw:∀ {k:Nat} {p:Pt},(aj (ST.srt pts)).reverse[k]?=some p→(aj ((ST.srt pts).reverse.map ng).reverse).reverse[k]?=some (ng p):=fun {k p} h=> by
   rw [er,fo,← List.map_reverse,List.getElem?_map,h]; rfl
  have lb:(aj ((ST.srt pts).reverse.map ng)).length=(aj (ST.srt pts).reverse).length:=by rw [bI,List.length_map]
  have lt:(aj ((ST.srt pts).reverse.map ng).reverse).length=(aj (ST.srt pts)).length:=by rw [er,fo,List.length_map]
  have:=zW (de hs) (by simpa using hne) (eS a1) (eS a2) (by rw [lb]; exact a3) (fw a4) (fw a5) (jI a6) (jI a7) (by rw [lb,lt]; exact a8.symm)
  rwa [jd] at this
 rw [hc] at hi ⊢
 have lT:(aj (ST.srt pts)).reverse.length=(aj (ST.srt pts)).length:=List.length_reverse
 have lB:(aj (ST.srt pts).reverse).reverse.length=(aj (ST.srt pts).reverse).length:=List.length_reverse
 generalize (aj (ST.srt pts)).reverse=T at *
 generalize (aj (ST.srt pts).reverse).reverse=B at *
 have h1:=W.lt
 have h3:=W.lb
 have hn:(T.dropLast++B.dropLast).length=T.length - 1+(B.length - 1):=by simp
 have own:∀ k,k < (T.dropLast++B.dropLast).length→(T.dropLast++B.dropLast)[k]?=(T.dropLast++B.dropLast)[k % (T.dropLast++B.dropLast).length]?:=fun k hk=> by rw [Nat.mod_eq_of_lt hk]
 have tne:∀ {j k:Nat} {p q:Pt},T[j]?=some p→T[k]?=some q→j≠k→p≠q:=fun {j k p q} a1 a2 a3 e=> a3 ((List.getElem?_inj (be a1) ndT).mp (by rw [a1,a2,e]))
 have bne:∀ {j k:Nat} {p q:Pt},B[j]?=some p→B[k]?=some q→j≠k→p≠q:=fun {j k p q} a1 a2 a3 e=> a3 ((List.getElem?_inj (be a1) ndB).mp (by rw [a1,a2,e]))
 by_cases c1:i < T.length - 1
 ·obtain ⟨a,ea⟩:=some_of (l:=T) (i:=i) (by omega)
  obtain ⟨b,eb⟩:=some_of (l:=T) (i:=i+1) (by omega)
  refine ⟨a,b,by rw [own i hi,fh W (by omega)]; exact ea,by rw [fh W (by omega)]; exact eb,fun p hp=> tc ea eb p (hmem p hp),fun big=> ?_⟩
  by_cases c2:i+2≤T.length - 1
  ·obtain ⟨c,ec⟩:=some_of (l:=T) (i:=i+2) (by omega)
   exact ⟨c,by rw [fh W c2]; exact ec,tt ea eb ec⟩
  ·have e:i+1=T.length - 1:=by omega
   obtain ⟨c,ec⟩:=some_of (l:=B) (i:=1) (by omega)
   have emx:b=mx:=by have:=W.t1; rw [← e,eb] at this; exact Option.some.inj this
   subst emx
   refine ⟨c,by rw [i9 W (by omega) (by omega),show i+2 - (T.length - 1)=1 by omega]; exact ec,m1 ea eb (by omega) W.b0 ec ?_ ?_ (by omega)⟩
   ·exact (W.most a (memT ea)).resolve_left (tne ea eb (by omega))
   ·exact (W.most c (memB ec)).resolve_left (bne ec W.b0 (by omega))
 ·obtain ⟨a,ea⟩:=some_of (l:=B) (i:=i - (T.length - 1)) (by omega)
  obtain ⟨b,eb⟩:=some_of (l:=B) (i:=i - (T.length - 1)+1) (by omega)
  refine ⟨a,b,by rw [own i hi,i9 W (by omega) (by omega)]; exact ea,by rw [i9 W (by omega) (by omega),show i+1 - (T.length - 1)=i - (T.length - 1)+1 by omega]; exact eb,fun p hp=> bc ea eb p (hmem p hp),fun big=> ?_⟩
  by_cases c2:i+2≤T.length - 1+(B.length - 1)
  ·obtain ⟨c,ec⟩:=some_of (l:=B) (i:=i - (T.length - 1)+2) (by omega)
   exact ⟨c,by rw [i9 W (by omega) c2,show i+2 - (T.length - 1)=i - (T.length - 1)+2 by omega]; exact ec,bt ea eb ec⟩
  ·have e:i - (T.length - 1)+1=B.length - 1:=by omega
   obtain ⟨c,ec⟩:=some_of (l:=T) (i:=1) (by omega)
   have emn:b=mn:=by have:=W.b1; rw [← e,eb] at this; exact Option.some.inj this
   subst emn
   refine ⟨c,?_,m2 ea eb (by omega) W.t0 ec ?_ ?_ (by omega)⟩
   ·have:=fh W (k:=1) (by omega)
    rw [show (i+2) % (T.dropLast++B.dropLast).length=1 % (T.dropLast++B.dropLast).length by rw [hn,show i+2=1+(T.length - 1+(B.length - 1)) by omega,Nat.add_mod_right],this]
    exact ec
   ·exact (W.least a (memB ea)).resolve_left (bne ea eb (by omega))
   ·exact (W.least c (memT ec)).resolve_left (tne ec W.t0 (by omega))
theorem sE {l:List P2} (h3:3≤(aA l).length):2≤(ST.srt l).length:=by
 rcases Nat.lt_or_ge (ST.srt l).length 2 with h | h
 ·rw [jG (by omega)] at h3; omega
 ·exact h
theorem x_ {l:List P2} {i:Nat} (h:i < l.length):(gp l i,gp l ((i+1) % l.length))∈sdl l:=List.mem_map.mpr ⟨i,List.mem_range.mpr h,rfl⟩
theorem mD {l:List P2} {i:Nat} {a:P2} (h:l[i]?=some a):gp l i=a:=by simp [gp,h]
theorem tF {n i:Nat}:((i+1) % n+1) % n=(i+2) % n:=by rw [Nat.mod_add_mod]
theorem wQ {l:List P2} (h3:3≤(aA l).length) {A B:P2} (hs:(A,B)∈sdl (aA l)):∃ C,(B,C)∈sdl (aA l)∧0 < aQ A B C:=by
 obtain ⟨i,hi,e⟩:=List.mem_map.mp hs
 have hi':=List.mem_range.mp hi
 obtain ⟨a,b,e1,e2,_,tu⟩:=o7 (sE h3) hi'
 obtain ⟨c,e3,pos⟩:=tu (by omega)
 have ea:A=a:=by rw [← mD e1]; exact (congrArg Prod.fst e).symm
 have eb:B=b:=by rw [← mD e2]; exact (congrArg Prod.snd e).symm
 refine ⟨c,?_,by rw [ea,eb]; exact pos⟩
 have:=x_ (l:=aA l) (i:=(i+1) % (aA l).length) (Nat.mod_lt _ (by omega))
 rw [tF,mD e2,mD e3] at this
 rw [eb]; exact this
theorem AR {l:List P2} {A:P2} (h:A∈l):∃ Z,(Z,A)∈sdl l:=by
 obtain ⟨i,hi⟩:=List.mem_iff_getElem?.mp h
 have hi':=(List.getElem?_eq_some_iff.mp hi).1
 have hj:(i+l.length - 1) % l.length < l.length:=Nat.mod_lt _ (by omega)
 have:=x_ hj
 have e:((i+l.length - 1) % l.length+1) % l.length=i:=by
  rw [Nat.mod_add_mod,show i+l.length - 1+1=i+l.length by omega,Nat.add_mod_right,Nat.mod_eq_of_lt hi']
 rw [e,mD hi] at this
 exact ⟨_,this⟩
def nrm (l:List P2) (x:P2):Int:=spn x.1 x.2 l
def aw (f s:P2) (m:Int):P2:=(s.1+m * f.1,s.2+m * f.2)
def eE (f:P2):P2:=(-f.1,-f.2)
section
variable {l:List P2} (hne:l≠[])
include hne
theorem qg (a b c d:Int):hiW (a+c) (b+d) l≤hiW a b l+hiW c d l:=by
 obtain ⟨⟨p,hp,e⟩,_⟩:=dy (a+c) (b+d) hne
 have h1:=(dy a b hne).2 p hp
 have h2:=(dy c d hne).2 p hp
 have:wth (a+c) (b+d) p=wth a b p+wth c d p:=by unfold wth; grind
 omega
theorem iS (a b c d:Int):spn (a+c) (b+d) l≤spn a b l+spn c d l:=by
 have h1:=qg hne a b c d
 have h2:=qg hne (-a) (-b) (-c) (-d)
 unfold spn
 rw [show -(a+c)=-a+-c by omega,show -(b+d)=-b+-d by omega]
 omega
theorem o9 (a b:Int):0≤spn a b l:=by
 have:=iS hne a b (-a) (-b)
 rw [show a+-a=0 by omega,show b+-b=0 by omega,AY hne,gX] at this
 omega
theorem aY (x:P2):0≤nrm l x:=o9 hne _ _
theorem v5 (f s:P2) (m k:Int):nrm l (aw f s (m+k))≤nrm l (aw f s m)+nrm l (k * f.1,k * f.2):=by
 have:=iS hne (s.1+m * f.1) (s.2+m * f.2) (k * f.1) (k * f.2)
 unfold nrm aw
 dsimp only
 rw [show s.1+(m+k) * f.1=s.1+m * f.1+k * f.1 by grind,show s.2+(m+k) * f.2=s.2+m * f.2+k * f.2 by grind]
 exact this
theorem ut (f s:P2) (m:Int):2 * nrm l (aw f s m)≤nrm l (aw f s (m - 1))+nrm l (aw f s (m+1)):=by
 have:=iS hne (s.1+(m - 1) * f.1) (s.2+(m - 1) * f.2) (s.1+(m+1) * f.1) (s.2+(m+1) * f.2)
 have e:=fB (l:=l) (s.1+m * f.1) (s.2+m * f.2) (m:=2) (by decide) hne
 unfold nrm aw
 dsimp only
 rw [← e,show 2 * (s.1+m * f.1)=s.1+(m - 1) * f.1+(s.1+(m+1) * f.1) by grind,show 2 * (s.2+m * f.2)=s.2+(m - 1) * f.2+(s.2+(m+1) * f.2) by grind]
 exact this
theorem ls {f s:P2} {m:Int} (h:nrm l (aw f s m)≤nrm l (aw f s (m+1))):∀ k:Nat,nrm l (aw f s (m+k))≤nrm l (aw f s (m+k+1))
 | 0=> by simpa using h
 | k+1=> by
  have ih:=ls h k
  have c:=ut hne f s (m+(k:Int)+1)
  rw [show m+(k:Int)+1 - 1=m+k by omega] at c
  rw [show m+((k+1:Nat):Int)=m+(k:Int)+1 by omega]
  omega
end
structure j8 (l:List P2) (f s:P2) (m:Nat):Prop where
 stop:nrm l (aw f s m)≤nrm l (aw f s (m+1))
 go:∀ k:Nat,k < m→nrm l (aw f s (k+1)) < nrm l (aw f s k)
theorem bS (f s:P2) (m k:Int):aw f (aw f s m) k=aw f s (m+k):=by unfold aw; refine Prod.ext ?_ ?_ <;> grind
theorem ff (f s:P2):aw f s 0=s:=by unfold aw; simp
theorem lR {l:List P2} (hne:l≠[]) (f:P2):∀ (n:Nat) (s:P2),(nrm l s).toNat≤n→∃ m,j8 l f s m
 | n,s,hn=> by
  by_cases h:nrm l (aw f s 0)≤nrm l (aw f s 1)
  ·exact ⟨0,⟨by simpa using h,fun k hk=> by omega⟩⟩
  ·have n0:=aY hne (aw f s 1)
   rw [ff] at h
   match n,hn with
   | 0,hn=> omega
   | n+1,hn=>
    obtain ⟨m,F⟩:=lR hne f n (aw f s 1) (by omega)
    refine ⟨m+1,⟨?_,fun k hk=> ?_⟩⟩
    ·have:=F.stop
     rw [bS,bS] at this
     rw [show (((m+1:Nat):Int))=1+(m:Int) by omega,show 1+(m:Int)+1=1+((m:Int)+1) by omega]
     exact this
    ·match k,hk with
     | 0,_=>
      show nrm l (aw f s (0+1)) < nrm l (aw f s 0)
      rw [ff,Int.zero_add]; omega
     | k+1,hk=>
      have:=F.go k (by omega)
      rw [bS,bS] at this
      rw [show (((k+1:Nat):Int))=1+(k:Int) by omega,show 1+(k:Int)+1=1+((k:Int)+1) by omega]
      exact this
theorem uY {l:List P2} (hne:l≠[]) {f s:P2} {m:Nat} (F:j8 l f s m) (k:Nat):nrm l (aw f s ((k:Int)+1)) < nrm l (aw f s k)↔k < m:=by
 constructor
 ·intro h
  rcases Nat.lt_or_ge k m with z | z
  ·exact z
  ·have:=ls hne F.stop (k - m)
   rw [show (m:Int)+((k - m:Nat):Int)=(k:Int) by omega] at this
   omega
 ·exact F.go k
theorem qI {l:List P2} {f s:P2} {m:Nat} (F:j8 l f s m):∀ k:Nat,k≤m→nrm l (aw f s k)+k≤nrm l s
 | 0,_=> by
  show nrm l (aw f s 0)+0≤nrm l s
  rw [ff]; omega
 | k+1,h=> by
  have:=qI F k (by omega)
  have:=F.go k (by omega)
  rw [show (((k+1:Nat):Int))=(k:Int)+1 by omega]
  omega
theorem lP {l:List P2} (hne:l≠[]) {f s:P2} {m:Nat} (F:j8 l f s m):(m:Int)≤nrm l s∧nrm l (aw f s m)≤nrm l s:=by
 have h:=qI F m (Nat.le_refl _)
 have:=aY hne (aw f s m)
 omega
structure qF (l:List P2) (f s r:P2):Prop where
 ex:∃ k:Int,r=aw f s k∧-(nrm l s)≤k∧k≤nrm l s
 up:nrm l r≤nrm l (aw f r 1)
 dn:nrm l r≤nrm l (aw f r (-1))
 le:nrm l r≤nrm l s
 z:nrm l f=0→r=s
theorem kO {l:List P2} (hne:l≠[]) {f s:P2} {m:Nat} (F:j8 l f s m) (h:nrm l f=0):m=0:=by
 rcases Nat.eq_zero_or_pos m with z | z
 ·exact z
 ·have g:=F.go 0 z
  have t:=v5 hne f s 1 (-1)
  rw [show (-1 * f.1,-1 * f.2)=eE f by unfold eE; refine Prod.ext ?_ ?_ <;> simp] at t
  have e:nrm l (eE f)=nrm l f:=gX _ _ _
  rw [e,h] at t
  have g':nrm l (aw f s 1) < nrm l (aw f s 0):=by simpa using g
  have t':nrm l (aw f s 0)≤nrm l (aw f s 1)+0:=by simpa using t
  omega
theorem cN (f s:P2) (m:Int):aw (eE f) s m=aw f s (-m):=by unfold aw eE; refine Prod.ext ?_ ?_ <;> grind
theorem uI {l:List P2} (hne:l≠[]) {f s:P2} {m n:Nat} (F:j8 l f s m) (G:j8 l (eE f) (aw f s m) n):qF l f s (aw (eE f) (aw f s m) n):=by
 obtain ⟨a1,a2⟩:=lP hne F
 obtain ⟨b1,b2⟩:=lP hne G
 have zero:nrm l f=0→aw (eE f) (aw f s m) n=s:=fun h=> by
  have e1:=kO hne F h
  have e2:=kO hne G (by rw [show nrm l (eE f)=nrm l f from gX _ _ _]; exact h)
  rw [e1,e2]
  show aw (eE f) (aw f s 0) 0=s
  rw [ff,ff]
 rcases Nat.eq_zero_or_pos m with hm | hm
 ·subst hm
  have e0:aw f s ((0:Nat):Int)=s:=ff f s
  rw [e0] at G b1 b2 zero ⊢
  refine ⟨⟨-(n:Int),cN f s n,by omega,by omega⟩,?_,?_,by omega,zero⟩
  ·rw [cN,bS]
   rcases Nat.eq_zero_or_pos n with hn | hn
   ·subst hn
    have:=F.stop
    simpa using this
   ·have:=G.go (n - 1) (by omega)
    rw [cN,cN] at this
    rw [show ((n - 1:Nat):Int)+1=(n:Int) by omega,show -((n - 1:Nat):Int)=-(n:Int)+1 by omega] at this
    omega
  ·have:=G.stop
   rw [cN,cN] at this
   rw [cN,bS,show -(n:Int)+-1=-((n:Int)+1) by omega]
   exact this
 ·have g:=F.go (m - 1) (by omega)
  rw [show ((m - 1:Nat):Int)+1=(m:Int) by omega,show ((m - 1:Nat):Int)=(m:Int) - 1 by omega] at g
  have hn:n=0:=by
   rcases Nat.eq_zero_or_pos n with z | z
   ·exact z
   ·have:=G.go 0 z
    rw [cN,cN,bS,bS] at this
    have t':nrm l (aw f s ((m:Int) - 1)) < nrm l (aw f s m):=by
     have e1:(m:Int)+-(((0:Nat):Int)+1)=(m:Int) - 1:=by omega
     have e2:(m:Int)+-((0:Nat):Int)=(m:Int):=by omega
     rwa [e1,e2] at this
    omega
  subst hn
  have e0:aw (eE f) (aw f s m) ((0:Nat):Int)=aw f s m:=ff _ _
  rw [e0] at zero ⊢
  refine ⟨⟨m,rfl,by omega,by omega⟩,?_,?_,by omega,zero⟩
  ·rw [bS]; exact F.stop
  ·rw [bS,show (m:Int)+-1=(m:Int) - 1 by omega]; omega
def dt2 (f s:P2):Int:=f.1 * s.2 - f.2 * s.1
theorem xj {f s r:P2} {k:Int} (h:r=aw s f k):dt2 s r=-dt2 f s:=by rw [h]; unfold dt2 aw; grind
theorem uK {f s r:P2} {k:Int} (h:r=aw f s k):dt2 f r=dt2 f s:=by rw [h]; unfold dt2 aw; grind
def Bd (C:Int) (f:P2):Prop:=-C≤f.1∧f.1≤C∧-C≤f.2∧f.2≤C
theorem m_ {l:List P2} (hne:l≠[]) (x:P2) {p q:P2} (hp:p∈l) (hq:q∈l):-(nrm l x)≤wth x.1 x.2 q - wth x.1 x.2 p∧wth x.1 x.2 q - wth x.1 x.2 p≤nrm l x:=by
 have h1:=(dy x.1 x.2 hne).2
 have h2:=(dy (-x.1) (-x.2) hne).2
 have w:∀ r,wth (-x.1) (-x.2) r=-wth x.1 x.2 r:=fun r=> by unfold wth; grind
 have a1:=h1 p hp
 have a2:=h1 q hq
 have b1:=h2 p hp
 have b2:=h2 q hq
 rw [w] at b1 b2
 unfold nrm spn
 omega
theorem ir {x y A B:Int} (h1:-A≤x) (h2:x≤A) (h3:-B≤y) (h4:y≤B):-(A * B)≤x * y∧x * y≤A * B:=by
 have e1:=Int.mul_nonneg (show 0≤A - x by omega) (show 0≤B+y by omega)
 have e2:=Int.mul_nonneg (show 0≤A+x by omega) (show 0≤B - y by omega)
 have e3:=Int.mul_nonneg (show 0≤A - x by omega) (show 0≤B - y by omega)
 have e4:=Int.mul_nonneg (show 0≤A+x by omega) (show 0≤B+y by omega)
 have f1:(A - x) * (B+y)=A * B+A * y - x * B - x * y:=by grind
 have f2:(A+x) * (B - y)=A * B - A * y+x * B - x * y:=by grind
 have f3:(A - x) * (B - y)=A * B - A * y - x * B+x * y:=by grind
 have f4:(A+x) * (B+y)=A * B+A * y+x * B+x * y:=by grind
 omega
theorem ji {a D C:Int} (hD:D≠0) (h1:-C≤a * D) (h2:a * D≤C):-C≤a∧a≤C:=by
 rcases Int.lt_or_gt_of_ne hD with d | d
 ·rcases Int.le_total 0 a with s | s
  ·have:a * 1≤a * -D:=Int.mul_le_mul_of_nonneg_left (by omega) s
   have e:a * -D=-(a * D):=by grind
   omega
  ·have:-a * 1≤-a * -D:=Int.mul_le_mul_of_nonneg_left (by omega) (by omega)
   have e:-a * -D=a * D:=by grind
   omega
 ·rcases Int.le_total 0 a with s | s
  ·have:a * 1≤a * D:=Int.mul_le_mul_of_nonneg_left (by omega) s
   omega
  ·have:-a * 1≤-a * D:=Int.mul_le_mul_of_nonneg_left (by omega) (by omega)
   have e:-a * D=-(a * D):=by grind
   omega
theorem yV {l:List P2} (hne:l≠[]) {p q r:P2} (hp:p∈l) (hq:q∈l) (hr:r∈l) (hD:aQ p q r≠0) {M:Int} (bp:Bd M p) (bq:Bd M q) (br:Bd M r) (x:P2):Bd (nrm l x * (2 * M)+nrm l x * (2 * M)) x:=by
 have X:=m_ hne x hp hq
 have Y:=m_ hne x hp hr
 obtain ⟨p1,p2,p3,p4⟩:=bp
 obtain ⟨q1,q2,q3,q4⟩:=bq
 obtain ⟨r1,r2,r3,r4⟩:=br
 have e1:x.1 * aQ p q r=(wth x.1 x.2 q - wth x.1 x.2 p) * (r.2 - p.2) - (wth x.1 x.2 r - wth x.1 x.2 p) * (q.2 - p.2):=by unfold wth aQ; grind
 have e2:x.2 * aQ p q r=(wth x.1 x.2 r - wth x.1 x.2 p) * (q.1 - p.1) - (wth x.1 x.2 q - wth x.1 x.2 p) * (r.1 - p.1):=by unfold wth aQ; grind
 have b1:=ir X.1 X.2 (show -(2 * M)≤r.2 - p.2 by omega) (by omega)
 have b2:=ir Y.1 Y.2 (show -(2 * M)≤q.2 - p.2 by omega) (by omega)
 have b3:=ir Y.1 Y.2 (show -(2 * M)≤q.1 - p.1 by omega) (by omega)
 have b4:=ir X.1 X.2 (show -(2 * M)≤r.1 - p.1 by omega) (by omega)
 have c1:=ji hD (C:=nrm l x * (2 * M)+nrm l x * (2 * M)) (a:=x.1) (by omega) (by omega)
 have c2:=ji hD (C:=nrm l x * (2 * M)+nrm l x * (2 * M)) (a:=x.2) (by omega) (by omega)
 exact ⟨c1.1,c1.2,c2.1,c2.2⟩
theorem y0 (A x:P2):nrm [A] x=0:=by
 have h1:hiW x.1 x.2 [A]=wth x.1 x.2 A:=gi ⟨A,by simp,rfl⟩ fun p hp=> by rw [List.mem_singleton.mp hp]; exact Int.le_refl _
 have h2:hiW (-x.1) (-x.2) [A]=wth (-x.1) (-x.2) A:=gi ⟨A,by simp,rfl⟩ fun p hp=> by rw [List.mem_singleton.mp hp]; exact Int.le_refl _
 unfold nrm spn
 rw [h1,h2]; unfold wth; grind
def ab (z:Int):Int:=if z < 0 then -z else z
def els (A B x:P2):Int:=wth x.1 x.2 B - wth x.1 x.2 A
theorem zV (a b:Int) (A B:P2):hiW a b [A,B]=if wth a b A≤wth a b B then wth a b B else wth a b A:=by
 split
 ·exact gi ⟨B,by simp,rfl⟩ fun p hp=> by
   rcases List.mem_cons.mp hp with h | h
   ·rw [h]; assumption
   ·rw [List.mem_singleton.mp h]; exact Int.le_refl _
 ·exact gi ⟨A,by simp,rfl⟩ fun p hp=> by
   rcases List.mem_cons.mp hp with h | h
   ·rw [h]; exact Int.le_refl _
   ·rw [List.mem_singleton.mp h]; omega
theorem gW (A B x:P2):nrm [A,B] x=ab (els A B x):=by
 have w:∀ r,wth (-x.1) (-x.2) r=-wth x.1 x.2 r:=fun r=> by unfold wth; grind
 unfold nrm spn ab els
 rw [zV,zV,w,w]
 split <;> split <;> split <;> omega
theorem lJ (A B f s:P2) (m:Int):els A B (aw f s m)=els A B s+m * els A B f:=by unfold els aw wth; grind
theorem qN {x y:Int} (h1:ab x≤ab (x+1 * y)) (h2:ab x≤ab (x+-1 * y)):2 * ab x≤ab y∨y=0:=by
 unfold ab at *
 split at h1 <;> split at h1 <;> split at h2 <;> split at h2 <;> (try split) <;> omega
theorem ki (x:Int):0≤ab x:=by unfold ab; split <;> omega
theorem yF (x y:Int):ab (x * y)=ab x * ab y:=by
 unfold ab
 rcases Int.lt_or_le x 0 with a | a
 ·rcases Int.lt_or_le y 0 with b | b
  ·have:=Int.mul_pos (show 0 < -x by omega) (show 0 < -y by omega)
   rw [Int.neg_mul_neg] at this
   rw [if_neg (by omega),if_pos a,if_pos b,Int.neg_mul_neg]
  ·have:=Int.mul_nonneg (show 0≤-x by omega) b
   rw [if_pos a,if_neg (show ¬ y < 0 by omega)]
   have e:-x * y=-(x * y):=by grind
   split <;> omega
 ·rcases Int.lt_or_le y 0 with b | b
  ·have:=Int.mul_nonneg a (show 0≤-y by omega)
   rw [if_neg (show ¬ x < 0 by omega),if_pos b]
   have e:x * -y=-(x * y):=by grind
   split <;> omega
  ·have:=Int.mul_nonneg a b
   rw [if_neg (by omega),if_neg (by omega),if_neg (by omega)]
theorem Bj {C u w k K:Int} (hC:1≤C) (hu:0≤u) (hw:1≤w) (hk:0≤k) (h1:2 * w≤u) (h2:2 * (k * w)≤w+2 * u) (hK:C * (u * u * u)≤K):C * (1+k) * (w * w * w)≤K:=by
 have a1:4 * ((1+k) * w)≤7 * u:=by
  have:(1+k) * w=w+k * w:=by grind
  omega
 have a2:4 * (w * w)≤u * u:=by
  have:2 * w * (2 * w)≤u * u:=Int.mul_le_mul h1 h1 (by omega) (by omega)
  have e:2 * w * (2 * w)=4 * (w * w):=by grind
  omega
 have w0:0≤w * w:=Int.mul_nonneg (by omega) (by omega)
 have k0:0≤(1+k) * w:=Int.mul_nonneg (by omega) (by omega)
 have a3:4 * ((1+k) * w) * (4 * (w * w))≤7 * u * (u * u):=Int.mul_le_mul a1 a2 (by omega) (by omega)
 have u0:0≤u * u * u:=Int.mul_nonneg (Int.mul_nonneg hu hu) hu
 have a4:C * (4 * ((1+k) * w) * (4 * (w * w)))≤C * (7 * u * (u * u)):=Int.mul_le_mul_of_nonneg_left a3 (by omega)
 have e1:C * (4 * ((1+k) * w) * (4 * (w * w)))=16 * (C * (1+k) * (w * w * w)):=by grind
 have e2:C * (7 * u * (u * u))=7 * (C * (u * u * u)):=by grind
 have c0:0≤C * (u * u * u):=Int.mul_nonneg (by omega) u0
 omega
structure kt (l:List P2) (K:Int) (J:P2→P2→Prop):Prop where
 first:∀ s,qF l (1,0) (0,1) s→J (1,0) s
 step:∀ f s r,J f s→nrm l s < nrm l f→nrm l s≤nrm l (aw f s 1)→nrm l s≤nrm l (aw f s (-1))→qF l s f r→J s r
 bd:∀ f s,J f s→Bd K f∧Bd K s
theorem i8 {C K:Int} (h:C≤K) {f:P2} (b:Bd C f):Bd K f:=by unfold Bd at *; omega
theorem yc (A:P2):kt [A] 1 fun f s=> f=(1,0)∧s=(0,1):=by
 refine ⟨fun s h=> ⟨rfl,h.z (y0 A _)⟩,fun f s r _ h=> ?_,fun f s h=> ?_⟩
 ·rw [y0,y0] at h; omega
 ·rw [h.1,h.2]; unfold Bd; simp
theorem zL (A B:P2):∃ J,kt [A,B] ((1+nrm [A,B] (0,1))+(1+nrm [A,B] (0,1)) * (nrm [A,B] (1,0) * nrm [A,B] (1,0) * nrm [A,B] (1,0))) J:=by
 have hne:[A,B]≠[]:=by simp
 have u0:=aY hne (1,0)
 have v0:=aY hne (0,1)
 have c0:0≤nrm [A,B] (1,0) * nrm [A,B] (1,0) * nrm [A,B] (1,0):=Int.mul_nonneg (Int.mul_nonneg u0 u0) u0
 have d0:0≤(1+nrm [A,B] (0,1)) * (nrm [A,B] (1,0) * nrm [A,B] (1,0) * nrm [A,B] (1,0)):=Int.mul_nonneg (by omega) c0
 generalize hK:(1+nrm [A,B] (0,1))+(1+nrm [A,B] (0,1)) * (nrm [A,B] (1,0) * nrm [A,B] (1,0) * nrm [A,B] (1,0))=K
 refine ⟨fun f s=> ∃ C,1≤C∧Bd C f∧Bd C s∧C≤K∧C * (nrm [A,B] f * nrm [A,B] f * nrm [A,B] f)≤K,?_,?_,?_⟩
 ·intro s h
  obtain ⟨k,e,k1,k2⟩:=h.ex
  refine ⟨1+nrm [A,B] (0,1),by omega,by unfold Bd; dsimp only; omega,?_,by omega,by omega⟩
  rw [e]
  unfold Bd aw
  dsimp only
  omega
 ·rintro f s r ⟨C,C1,bf,bs,CK,CU⟩ hlt hu hd S
  have f0:=aY hne f
  have s0:=aY hne s
  rcases Int.lt_or_le 0 (nrm [A,B] s) with w1 | w1
  ·obtain ⟨k,e,_,_⟩:=S.ex
   have half1:2 * nrm [A,B] s≤nrm [A,B] f:=by
    rw [gW,gW,lJ] at hu hd
    rw [gW,gW]
    rw [gW,gW] at hlt
    rcases qN hu hd with z | z
    ·exact z
    ·rw [z] at hlt
     have:=ki (els A B s)
     have e0:ab 0=0:=rfl
     omega
   have half2:2 * nrm [A,B] r≤nrm [A,B] s:=by
    have h1:=S.up
    have h2:=S.dn
    rw [gW,gW,lJ] at h1 h2
    rw [gW,gW]
    rcases qN h1 h2 with z | z
    ·exact z
    ·rw [gW,z] at w1
     have e0:ab 0=0:=rfl
     omega
   have kw:ab k * nrm [A,B] s≤nrm [A,B] r+nrm [A,B] f:=by
    have er:els A B r=els A B f+k * els A B s:=by rw [e,lJ]
    rw [gW,gW,gW,← yF]
    generalize k * els A B s=z at *
    unfold ab
    split <;> split <;> split <;> omega
   have k0:=ki k
   have nr:=aY hne r
   have big:=Bj C1 f0 (show 1≤nrm [A,B] s by omega) k0 half1 (by omega) CU
   have kb:-(ab k)≤k∧k≤ab k:=by unfold ab; split <;> omega
   have CC:C≤C * (1+ab k):=by
    have:C * 1≤C * (1+ab k):=Int.mul_le_mul_of_nonneg_left (by omega) (by omega)
    omega
   have ckk:C * (1+ab k)=C+ab k * C:=by grind
   refine ⟨C * (1+ab k),by omega,i8 CC bs,?_,?_,big⟩
   ·obtain ⟨b1,b2,b3,b4⟩:=bf
    obtain ⟨g1,g2,g3,g4⟩:=bs
    have m1:=ir kb.1 kb.2 g1 g2
    have m2:=ir kb.1 kb.2 g3 g4
    rw [e]
    unfold Bd aw
    dsimp only
    omega
   ·have w3:1≤nrm [A,B] s * nrm [A,B] s * nrm [A,B] s:=by
     have a1:1 * 1≤nrm [A,B] s * nrm [A,B] s:=Int.mul_le_mul (by omega) (by omega) (by omega) (by omega)
     have a2:1 * 1≤nrm [A,B] s * nrm [A,B] s * nrm [A,B] s:=Int.mul_le_mul (by omega) (by omega) (by omega) (by omega)
     omega
    have:C * (1+ab k) * 1≤C * (1+ab k) * (nrm [A,B] s * nrm [A,B] s * nrm [A,B] s):=Int.mul_le_mul_of_nonneg_left w3 (by omega)
    omega
  ·have z:nrm [A,B] s=0:=by omega
   have er:=S.z z
   refine ⟨C,C1,bs,by rw [er]; exact bf,CK,?_⟩
   rw [z]; simp; omega
 ·rintro f s ⟨C,_,bf,bs,CK,_⟩
  exact ⟨i8 CK bf,i8 CK bs⟩
theorem zD {l:List P2} (hne:l≠[]) {p q r:P2} (hp:p∈l) (hq:q∈l) (hr:r∈l) (hD:aQ p q r≠0) {M:Int} (bp:Bd M p) (bq:Bd M q) (br:Bd M r):
  ∃ J,kt l ((nrm l (1,0)+nrm l (0,1)) * (2 * M)+(nrm l (1,0)+nrm l (0,1)) * (2 * M)) J:=by
 have u0:=aY hne (1,0)
 have v0:=aY hne (0,1)
 have M0:0≤M:=by unfold Bd at bp; omega
 refine ⟨fun f s=> nrm l f≤nrm l (1,0)+nrm l (0,1)∧nrm l s≤nrm l (1,0)+nrm l (0,1),?_,?_,?_⟩
 ·intro s h
  have:=h.le
  omega
 ·rintro f s r ⟨h1,h2⟩ _ _ _ S
  have:=S.le
  omega
 ·rintro f s ⟨h1,h2⟩
  have up:∀ x,nrm l x≤nrm l (1,0)+nrm l (0,1)→Bd ((nrm l (1,0)+nrm l (0,1)) * (2 * M)+(nrm l (1,0)+nrm l (0,1)) * (2 * M)) x:=fun x hx=> by
   refine i8 ?_ (yV hne hp hq hr hD bp bq br x)
   have:=Int.mul_le_mul_of_nonneg_right hx (show 0≤2 * M by omega)
   omega
  exact ⟨up f h1,up s h2⟩
structure iu (l:List P2) (f s:P2):Prop where
 det:dt2 f s=1∨dt2 f s=-1
 le:nrm l f≤nrm l s
 up:nrm l s≤nrm l (aw f s 1)
 dn:nrm l s≤nrm l (aw f s (-1))
def Shd (l:List P2) (f s r:P2):Prop:=∃ m n:Nat,j8 l f s m∧j8 l (eE f) (aw f s m) n∧r=aw (eE f) (aw f s m) n
theorem eu {l:List P2} (hne:l≠[]) {f s r:P2} (h:Shd l f s r):qF l f s r:=by
 obtain ⟨m,n,F,G,rfl⟩:=h
 exact uI hne F G
theorem uu {l:List P2} (hne:l≠[]) (f s:P2):∃ r,Shd l f s r:=by
 obtain ⟨m,F⟩:=lR hne f _ s (Nat.le_refl _)
 obtain ⟨n,G⟩:=lR hne (eE f) _ (aw f s m) (Nat.le_refl _)
 exact ⟨_,m,n,F,G,rfl⟩
inductive Run (l:List P2):P2→P2→P2→P2→Prop
 | stop {f s:P2}:nrm l f≤nrm l s→Run l f s f s
 | step {f s r f' s':P2}:nrm l s < nrm l f→Shd l s f r→Run l s r f' s'→Run l f s f' s'
theorem u5 {l:List P2} (hne:l≠[]):∀ (n:Nat) (f s:P2),(nrm l f).toNat≤n→∃ f' s',Run l f s f' s'
 | n,f,s,hn=> by
  by_cases h:nrm l f≤nrm l s
  ·exact ⟨f,s,.stop h⟩
  ·have s0:=aY hne s
   match n,hn with
   | 0,hn=> omega
   | n+1,hn=>
    obtain ⟨r,S⟩:=uu hne s f
    obtain ⟨f',s',R⟩:=u5 hne n s r (by omega)
    exact ⟨f',s',.step (by omega) S R⟩
theorem zH {l:List P2} (hne:l≠[]) {f s f' s':P2} (R:Run l f s f' s') (hd:dt2 f s=1∨dt2 f s=-1) (hu:nrm l s≤nrm l (aw f s 1)) (hn:nrm l s≤nrm l (aw f s (-1))):iu l f' s':=by
 induction R with
 | stop h=> exact ⟨hd,h,hu,hn⟩
 | step h S R ih=>
  have T:=eu hne S
  obtain ⟨k,e,_⟩:=T.ex
  have d:=xj e
  exact ih (by omega) T.up T.dn
theorem zm {l:List P2} (hne:l≠[]) {K:Int} {J:P2→P2→Prop} (Kp:kt l K J) {f s f' s':P2} (R:Run l f s f' s') (j:J f s) (hu:nrm l s≤nrm l (aw f s 1)) (hn:nrm l s≤nrm l (aw f s (-1))):J f' s':=by
 induction R with
 | stop h=> exact j
 | step h S R ih=>
  have T:=eu hne S
  exact ih (Kp.step _ _ _ j h hu hn T) T.up T.dn
def d8 (f s:P2) (i j:Int):P2:=(i * f.1+j * s.1,i * f.2+j * s.2)
theorem yT {f s:P2} (h:dt2 f s=1∨dt2 f s=-1) (x:P2):∃ i j,x=d8 f s i j:=by
 unfold dt2 at h
 rcases h with h | h
 ·refine ⟨x.1 * s.2 - x.2 * s.1,f.1 * x.2 - f.2 * x.1,?_⟩
  unfold d8
  refine Prod.ext ?_ ?_
  ·show x.1=_
   have:(x.1 * s.2 - x.2 * s.1) * f.1+(f.1 * x.2 - f.2 * x.1) * s.1=(f.1 * s.2 - f.2 * s.1) * x.1:=by grind
   rw [this,h,Int.one_mul]
  ·show x.2=_
   have:(x.1 * s.2 - x.2 * s.1) * f.2+(f.1 * x.2 - f.2 * x.1) * s.2=(f.1 * s.2 - f.2 * s.1) * x.2:=by grind
   rw [this,h,Int.one_mul]
 ·refine ⟨-(x.1 * s.2 - x.2 * s.1),-(f.1 * x.2 - f.2 * x.1),?_⟩
  unfold d8
  refine Prod.ext ?_ ?_
  ·show x.1=_
   have:-(x.1 * s.2 - x.2 * s.1) * f.1+-(f.1 * x.2 - f.2 * x.1) * s.1=-(f.1 * s.2 - f.2 * s.1) * x.1:=by grind
   rw [this,h]; simp
  ·show x.2=_
   have:-(x.1 * s.2 - x.2 * s.1) * f.2+-(f.1 * x.2 - f.2 * x.1) * s.2=-(f.1 * s.2 - f.2 * s.1) * x.2:=by grind
   rw [this,h]; simp
theorem qv {l:List P2} (hne:l≠[]) (m:Int) (x:P2):nrm l (m * x.1,m * x.2)=(if m < 0 then -m else m) * nrm l x:=qq _ _ _ hne
theorem wu (l:List P2) (x:P2):nrm l (eE x)=nrm l x:=gX _ _ _
theorem uL {l:List P2} (hne:l≠[]) {f s:P2} (hu:nrm l s≤nrm l (aw f s 1)) (hd:nrm l s≤nrm l (aw f s (-1))) (k:Int):nrm l s≤nrm l (aw f s k):=by
 have up:∀ n:Nat,nrm l s≤nrm l (aw f s n):=fun n=> by
  induction n with
  | zero=> show nrm l s≤nrm l (aw f s 0); rw [ff]; exact Int.le_refl _
  | succ n ih=>
   have:=ls hne (f:=f) (s:=s) (m:=0) (by rw [ff]; exact hu) n
   rw [Int.zero_add] at this
   rw [show ((n+1:Nat):Int)=(n:Int)+1 by omega]
   omega
 have dn:∀ n:Nat,nrm l s≤nrm l (aw f s (-(n:Int))):=fun n=> by
  induction n with
  | zero=> show nrm l s≤nrm l (aw f s (-0)); rw [Int.neg_zero,ff]; exact Int.le_refl _
  | succ n ih=>
   have:=ls hne (f:=eE f) (s:=s) (m:=0) (by rw [ff,cN,Int.zero_add]; exact hd) n
   rw [Int.zero_add,cN,cN] at this
   rw [show -((n+1:Nat):Int)=-((n:Int)+1) by omega]
   omega
 rcases Int.le_total 0 k with h | h
 ·have:=up k.toNat
  rwa [show ((k.toNat:Nat):Int)=k by omega] at this
 ·have:=dn (-k).toNat
  rwa [show -(((-k).toNat:Nat):Int)=k by omega] at this
theorem kI {l:List P2} (hne:l≠[]) {f s:P2} (T:iu l f s) {i j:Int} (hj:0 < j):nrm l s≤nrm l (d8 f s i j):=by
 rcases Int.lt_or_le j 2 with h | h
 ·have:j=1:=by omega
  subst this
  have e:d8 f s i 1=aw f s i:=by unfold d8 aw; refine Prod.ext ?_ ?_ <;> grind
  rw [e]; exact uL hne T.up T.dn i
 ·have hq:∃ q ρ:Int,i=q * j+ρ∧-j≤2 * ρ∧2 * ρ≤j:=by
   refine ⟨(2 * i+j) / (2 * j),i - (2 * i+j) / (2 * j) * j,by omega,?_,?_⟩
   ·have:=Int.emod_nonneg (2 * i+j) (show 2 * j≠0 by omega)
    have e:=Int.emod_add_mul_ediv (2 * i+j) (2 * j)
    have e2:2 * j * ((2 * i+j) / (2 * j))=2 * ((2 * i+j) / (2 * j) * j):=by grind
    omega
   ·have:=Int.emod_lt_of_pos (2 * i+j) (show 0 < 2 * j by omega)
    have e:=Int.emod_add_mul_ediv (2 * i+j) (2 * j)
    have e2:2 * j * ((2 * i+j) / (2 * j))=2 * ((2 * i+j) / (2 * j) * j):=by grind
    omega
  obtain ⟨q,ρ,hi,b1,b2⟩:=hq
  have a1:=iS hne (d8 f s i j).1 (d8 f s i j).2 (-ρ * f.1) (-ρ * f.2)
  have e1:(d8 f s i j).1+-ρ * f.1=j * (aw f s q).1:=by unfold d8 aw; rw [hi]; grind
  have e2:(d8 f s i j).2+-ρ * f.2=j * (aw f s q).2:=by unfold d8 aw; rw [hi]; grind
  rw [e1,e2] at a1
  have m1:spn (j * (aw f s q).1) (j * (aw f s q).2) l=j * nrm l (aw f s q):=fB _ _ (by omega) hne
  have m2:spn (-ρ * f.1) (-ρ * f.2) l=(if -ρ < 0 then - -ρ else -ρ) * nrm l f:=qq _ _ _ hne
  rw [m1,m2] at a1
  have r1:=uL hne T.up T.dn q
  have n0:=aY hne f
  have s0:=aY hne s
  have p1:j * nrm l s≤j * nrm l (aw f s q):=Int.mul_le_mul_of_nonneg_left r1 (by omega)
  have p2:2 * ((if -ρ < 0 then - -ρ else -ρ) * nrm l f)≤j * nrm l s:=by
   have c1:2 * (if -ρ < 0 then - -ρ else -ρ)≤j:=by split <;> omega
   have c2:2 * (if -ρ < 0 then - -ρ else -ρ) * nrm l f≤j * nrm l f:=Int.mul_le_mul_of_nonneg_right c1 n0
   have c3:j * nrm l f≤j * nrm l s:=Int.mul_le_mul_of_nonneg_left T.le (by omega)
   have c4:2 * (if -ρ < 0 then - -ρ else -ρ) * nrm l f=2 * ((if -ρ < 0 then - -ρ else -ρ) * nrm l f):=Int.mul_assoc ..
   omega
  have p3:2 * nrm l s≤j * nrm l s:=Int.mul_le_mul_of_nonneg_right h s0
  have e3:nrm l (d8 f s i j)=spn (d8 f s i j).1 (d8 f s i j).2 l:=rfl
  omega
theorem zX {l:List P2} (hne:l≠[]) {f s:P2} (T:iu l f s) {i j:Int} (hj:j≠0):nrm l s≤nrm l (d8 f s i j):=by
 rcases Int.lt_or_gt_of_ne hj with h | h
 ·have:=kI hne T (i:=-i) (j:=-j) (by omega)
  have e:d8 f s (-i) (-j)=eE (d8 f s i j):=by unfold d8 eE; refine Prod.ext ?_ ?_ <;> grind
  rwa [e,wu] at this
 ·exact kI hne T h
theorem pU {l:List P2} (hne:l≠[]) {f s:P2} (T:iu l f s) {x:P2} (hx:x≠(0,0)):nrm l f≤nrm l x:=by
 obtain ⟨i,j,rfl⟩:=yT T.det x
 by_cases hj:j=0
 ·subst hj
  have e:d8 f s i 0=(i * f.1,i * f.2):=by unfold d8; refine Prod.ext ?_ ?_ <;> simp
  rw [e] at hx ⊢
  rw [qv hne]
  have hi:i≠0:=fun z=> hx (by rw [z]; simp)
  have:1 * nrm l f≤(if i < 0 then -i else i) * nrm l f:=Int.mul_le_mul_of_nonneg_right (by split <;> omega) (aY hne f)
  omega
 ·have:=zX hne T (i:=i) hj
  have:=T.le
  omega
end
section
variable {P:Program} {w:World} {K:PySem.W.Frag} {mg:Str→Option Value} {base:Heap}
structure df (l:List P2):Prop where
 ne:l≠[]
 len:l.length≤900
 sz:∀ p∈l,Szp 300 p
theorem lX {m:Nat} {l:List P2} (h:df l) {x:P2} (hx:Szp m x):Sz (m+302) (nrm l x):=by
 have:=pA h.ne hx.1 hx.2 h.sz
 exact this.mono (by omega)
theorem pj {m n:Nat} {f s:P2} {k:Int} (hf:Szp m f) (hs:Szp m s) (hk:Sz n k):Szp (n+m+1) (aw f s k):=
 ⟨(hs.1.mono (by omega)).add (L2.Sz.mul hk hf.1),(hs.2.mono (by omega)).add (L2.Sz.mul hk hf.2)⟩
def oe:List U→Out→Prop:=fun us o=> ∃ (l:List P2) (x:P2),us=[lp l,pu x]∧df l∧Szp 6000 x∧o=.val (.int (nrm l x))
set_option maxHeartbeats 8000000 in
theorem cL (T:Txt w K mg):ba P w K mg base (CXF P w) 2 T.a_span_along T.d_span_along ["land","way"] (spU K (oe)):=by
 refine bx T.F_span_along j6 (fun us o h=> ?_) (fun cdv A outer s H E O us o hr h=> ?_)
 ·obtain ⟨l,x,rfl,h,sx,rfl⟩:=h
  rfl
 obtain ⟨l,x,rfl,h,sx,rfl⟩:=h
 refine Ws.nox ?_
 refine ae (bo (av ((v_ T).mono (by decide)) hr rfl T.m_span T.F_span.kp T.b_span ar (ac (aa 0 rfl) (ac (bm (aa 1 rfl) ai rfl rfl) (ac (bm (aa 1 rfl) ai rfl rfl) ak bA) bA) ag) ⟨l,x.1,x.2,rfl,h.ne,h.len,sx.1,sx.2,fun p hp=> ⟨(h.sz p hp).1.mono (by decide),(h.sz p hp).2.mono (by decide)⟩,rfl⟩) ?_)
 exact rfl
def oT:List U→Out→Prop:=fun us o=> ∃ (f s:P2) (m:Int),us=[pu f,pu s,.int m]∧Szp 2000 f∧Szp 2000 s∧Sz 2500 m∧o=.val (pu (aw f s m))
set_option maxHeartbeats 8000000 in
theorem jW (T:Txt w K mg):ba P w K mg base (CXF P w) 1 T.a_aside T.d_aside ["first","second","m"] (spU K (oT)):=by
 refine bx T.F_aside tI (fun us o h=> ?_) (fun cdv A outer s H E O us o hr h=> ?_)
 ·obtain ⟨f,s,m,rfl,⟨f1,f2⟩,⟨s1,s2⟩,sm,rfl⟩:=h
  rfl
 obtain ⟨f,s,m,rfl,⟨f1,f2⟩,⟨s1,s2⟩,sm,rfl⟩:=h
 refine Ws.nox ?_
 refine ae (bo (cD (aG (dg (bm (aa 1 rfl) ai rfl rfl) (bj (aa 2 rfl) (bm (aa 0 rfl) ai rfl rfl) (by walk_at "mul"))) (aG (dg (bm (aa 1 rfl) ai rfl rfl) (bj (aa 2 rfl) (bm (aa 0 rfl) ai rfl rfl) (by walk_at "mul"))) ca b_) b_)) ?_)
 exact rfl
def n_:List U→Out→Prop:=fun us o=> ∃ (l:List P2) (f s:P2) (m:Int),us=[lp l,pu f,pu s,.int m]∧df l∧Szp 2000 f∧Szp 2000 s∧Sz 2400 m∧o=.val (.bl (decide (nrm l (aw f s (m+1)) < nrm l (aw f s m))))
set_option maxHeartbeats 8000000 in
theorem nq (T:Txt w K mg):ba P w K mg base (CXF P w) 3 T.a_falls T.d_falls ["land","first","second","m"] (spU K (n_)):=by
 refine bx T.F_falls uq (fun us o h=> ?_) (fun cdv A outer s H E O us o hr h=> ?_)
 ·obtain ⟨l,f,s,m,rfl,h,sf,ss,sm,rfl⟩:=h
  rfl
 obtain ⟨l,f,s,m,rfl,h,sf,ss,sm,rfl⟩:=h
 refine Ws.nox ?_
 have sm1:Sz 2401 (m+1):=sm.add (Sz.mono (m:=8) (by decide) (by decide))
 have z1:=pj sf ss sm1
 have z0:=pj sf ss sm
 refine ae (bo (kD iO (av ((cL T).mono (by decide)) hr rfl T.m_span_along T.F_span_along.kp T.b_span_along ar (ac (aa 0 rfl) (ac (av ((jW T).mono (by decide)) hr rfl T.m_aside T.F_aside.kp T.b_aside ar (ac (aa 1 rfl) (ac (aa 2 rfl) (ac (dg (aa 3 rfl) ai) ak b_) ag) ag) ⟨f,s,_,rfl,sf,ss,sm1.mono (by decide),rfl⟩) ak bY) ag) ⟨l,_,rfl,h,⟨z1.1.mono (by decide),z1.2.mono (by decide)⟩,rfl⟩) (av ((cL T).mono (by decide)) hr rfl T.m_span_along T.F_span_along.kp T.b_span_along ar (ac (aa 0 rfl) (ac (av ((jW T).mono (by decide)) hr rfl T.m_aside T.F_aside.kp T.b_aside ar (ac (aa 1 rfl) (ac (aa 2 rfl) (ac (aa 3 rfl) ak ag) ag) ag) ⟨f,s,m,rfl,sf,ss,sm.mono (by decide),rfl⟩) ak bY) ag) ⟨l,_,rfl,h,⟨z0.1.mono (by decide),z0.2.mono (by decide)⟩,rfl⟩)) ?_)
 exact rfl
end
section
variable {P:Program} {w:World} {K:PySem.W.Frag} {mg:Str→Option Value} {base:Heap}
def nQ:List U→Out→Prop:=fun us o=> ∃ (l:List P2) (f s:P2) (m:Nat),us=[lp l,pu f,pu s]∧df l∧Szp 2000 f∧Szp 2000 s∧j8 l f s m∧o=.val (pu (aw f s m))
set_option maxHeartbeats 8000000 in
theorem kg (T:Txt w K mg):ba P w K mg base (CXF P w) 4 T.a_fallen T.d_fallen ["land","first","second"] (spU K (nQ)):=by
 refine bx T.F_fallen cU (fun us o h=> ?_) (fun cdv A outer s H E O us o hr h=> ?_)
 ·obtain ⟨l,f,s,m,rfl,h,sf,ss,F,rfl⟩:=h
  rfl
 obtain ⟨l,f,s,m,rfl,h,sf,ss,F,rfl⟩:=h
 refine Ws.nox ?_
 have fi:=uY h.ne F
 have mz:Sz 2302 (m:Int):=(lX h ss).natle (by have:=(lP h.ne F).1; omega)
 have z2:∀ k:Nat,k≤2 * m→Sz 2310 (k:Int):=fun k hk=> by
  have:Sz 2303 ((m:Int)+(m:Int)):=mz.add mz
  exact (this.natle (by omega)).mono (by decide)
 refine ae (aU (i:=3) cU.nd rfl (Or.inl rfl) ai ?_)
 refine ae (aU (i:=4) cU.nd rfl (Or.inl rfl) ai ?_)
 refine jM (fun ps=> ∃ a b:Nat,a≤m∧m≤b∧b≤2 * m∧SubP [some (.val (lp l)),some (.val (pu f)),some (.val (pu s)),some (.val (.int (a:Int))),some (.val (.int (b:Int))),none] ps) (gS (fun q:Nat×Nat=> [some (.val (lp l)),some (.val (pu f)),some (.val (pu s)),some (.val (.int (q.1:Int))),some (.val (.int (q.2:Int))),none]) (fun n q=> n=2 * m+1 - q.2∧q.1≤m∧q.1≤q.2∧q.2≤2 * m) PassesOwn.never ?h0 ?hs) ?hj
 case h0=> exact ⟨_,(0,0),⟨rfl,by omega,by omega,by omega⟩,rfl,rfl,rfl,rfl,rfl,trivial⟩
 case hs=>
  rintro n ⟨a,b⟩ ⟨hn,h1,h2,h3⟩
  dsimp only at hn h1 h2 h3 ⊢
  refine ⟨decide (nrm l (aw f s ((b:Int)+1)) < nrm l (aw f s b)),(iF (av ((nq T).mono (by decide)) hr rfl T.m_falls T.F_falls.kp T.b_falls ar (ac (aa 0 rfl) (ac (aa 1 rfl) (ac (aa 2 rfl) (ac (aa 4 rfl) ak ag) ag) ag) ag) ⟨l,f,s,b,rfl,h,sf,ss,(z2 b h3).mono (by decide),rfl⟩)),fun hT=> ?_,fun hF ps hps=> ?_⟩
  ·have hb:=(fi b).mp (dTb hT)
   refine ae (aU (i:=3) cU.nd rfl (Or.inl rfl) (dg (aa 4 rfl) ai) ?_)
   refine ae (z8 (i:=4) yx cU.nd rfl (Or.inl rfl) rfl (aa 3 rfl) (ax ?_))
   refine ⟨2 * m+1 - (b+(b+1)),(b+1,b+(b+1)),by omega,⟨rfl,by omega,by omega,by omega⟩,rfl,rfl,rfl,?_,?_,trivial⟩
   ·exact congrArg (fun z=> some (Sl.val (.int z))) (by dsimp only; omega)
   ·exact congrArg (fun z=> some (Sl.val (.int z))) (by dsimp only; omega)
  ·have hb:¬ b < m:=fun z=> dFb hF ((fi b).mpr z)
   exact ⟨a,b,h1,by omega,h3,hps⟩
 case hj=>
  rintro ps ⟨a0,b0,ha,hb,hb2,hps⟩
  refine eJ ?_ hps
  refine ae (gS (fun q:Nat×Nat=> [some (.val (lp l)),some (.val (pu f)),some (.val (pu s)),some (.val (.int (q.1:Int))),some (.val (.int (q.2:Int))),none]) (fun n q=> n=q.2 - q.1∧q.1≤m∧m≤q.2∧q.2≤2 * m) PassesOwn.never ?h02 ?hs2)
  case h02=> exact ⟨_,(a0,b0),⟨rfl,ha,hb,hb2⟩,rfl,rfl,rfl,rfl,rfl,trivial⟩
  case hs2=>
   rintro n ⟨a,b⟩ ⟨hn,h1,h2,h3⟩
   dsimp only at hn h1 h2 h3 ⊢
   refine ⟨decide ((a:Int) < (b:Int)),(ay iO (aa 3 rfl) (aa 4 rfl)),fun hT=> ?_,fun hF ps hps=> ?_⟩
   ·have hab:=dTb hT
    refine ae (aU (i:=5) cU.nd rfl (Or.inl rfl) (nM (dg (aa 3 rfl) (aa 4 rfl)) ai (by walk_at "div")) ?_)
    have em:((a:Int)+(b:Int)) / 2=(((a+b) / 2:Nat):Int):=by omega
    rw [em]
    have hc:(a+b) / 2≤2 * m:=by omega
    generalize hcd:(a+b) / 2=c at *
    refine ae (jo (iF (av ((nq T).mono (by decide)) hr rfl T.m_falls T.F_falls.kp T.b_falls ar (ac (aa 0 rfl) (ac (aa 1 rfl) (ac (aa 2 rfl) (ac (aa 5 rfl) ak ag) ag) ag) ag) ⟨l,f,s,c,rfl,h,sf,ss,(z2 c hc).mono (by decide),rfl⟩)) (fun hT=> ?_) (fun hF=> ?_))
    ·have hcm:=(fi c).mp (dTb hT)
     refine ae (aU (i:=3) cU.nd rfl (Or.inl rfl) (dg (aa 5 rfl) ai) (ax (ax ?_)))
     refine ⟨b - (c+1),(c+1,b),by omega,⟨rfl,by omega,by omega,h3⟩,rfl,rfl,rfl,?_,rfl,trivial⟩
     exact congrArg (fun z=> some (Sl.val (.int z))) (by dsimp only; omega)
    ·have hcm:¬ c < m:=fun z=> dFb hF ((fi c).mpr z)
     refine ae (aU (i:=4) cU.nd rfl (Or.inl rfl) (aa 5 rfl) (ax (ax ?_)))
     exact ⟨c - a,(a,c),by omega,⟨rfl,by omega,by omega,by omega⟩,rfl,rfl,rfl,rfl,rfl,trivial⟩
   ·have hab:=dFb hF
    refine eJ ?_ hps
    have:a=m:=by omega
    subst this
    refine ae (bo (av ((jW T).mono (by decide)) hr rfl T.m_aside T.F_aside.kp T.b_aside ar (ac (aa 1 rfl) (ac (aa 2 rfl) (ac (aa 3 rfl) ak ag) ag) ag) ⟨f,s,_,rfl,sf,ss,(z2 a (by omega)).mono (by decide),rfl⟩) ?_)
    exact rfl
end
section
variable {P:Program} {w:World} {K:PySem.W.Frag} {mg:Str→Option Value} {base:Heap}
def oj:List U→Out→Prop:=fun us o=> ∃ (l:List P2) (f s r:P2),us=[lp l,pu f,pu s]∧df l∧Szp 800 f∧Szp 800 s∧Shd l f s r∧o=.val (pu r)
set_option maxHeartbeats 8000000 in
theorem gY (T:Txt w K mg):ba P w K mg base (CXF P w) 5 T.a_shortened T.d_shortened ["land","first","second"] (spU K (oj)):=by
 refine bx T.F_shortened hG (fun us o h=> ?_) (fun cdv A outer s H E O us o hr h=> ?_)
 ·obtain ⟨l,f,s,r,rfl,h,sf,ss,⟨m,n,F,G,rfl⟩,rfl⟩:=h
  rfl
 obtain ⟨l,f,s,r,rfl,h,sf,ss,⟨m,n,F,G,rfl⟩,rfl⟩:=h
 refine Ws.nox ?_
 have f1:=sf.1
 have f2:=sf.2
 have mz:Sz 1102 (m:Int):=(lX h ss).natle (by have:=(lP h.ne F).1; omega)
 have az:=pj sf ss mz
 have nz:Szp 800 (eE f):=⟨f1.neg,f2.neg⟩
 refine ae (aU (i:=3) hG.nd rfl (Or.inl rfl) (cD (aG (gd (bm (aa 1 rfl) ai rfl rfl)) (aG (gd (bm (aa 1 rfl) ai rfl rfl)) ca t6) t6)) ?_)
 refine ae (bo (av ((kg T).mono (by decide)) hr rfl T.m_fallen T.F_fallen.kp T.b_fallen ar (ac (aa 0 rfl) (ac (aa 3 rfl) (ac (av ((kg T).mono (by decide)) hr rfl T.m_fallen T.F_fallen.kp T.b_fallen ar (ac (aa 0 rfl) (ac (aa 1 rfl) (ac (aa 2 rfl) ak ag) ag) ag) ⟨l,f,s,m,rfl,h,⟨sf.1.mono (by decide),sf.2.mono (by decide)⟩,⟨ss.1.mono (by decide),ss.2.mono (by decide)⟩,F,rfl⟩) ak bY) ag) ag) ⟨l,eE f,aw f s m,n,rfl,h,⟨nz.1.mono (by decide),nz.2.mono (by decide)⟩,⟨az.1.mono (by decide),az.2.mono (by decide)⟩,G,rfl⟩) ?_)
 exact rfl
structure lW (l:List P2) (f s:P2):Prop where
 ok:df l
 ex:∃ (K:Int) (J:P2→P2→Prop) (s0:P2),Sz 780 K∧kt l K J∧Shd l (1,0) (0,1) s0∧Run l (1,0) s0 f s
theorem pK {K:Int} (hK:Sz 780 K) {x:P2} (h:Bd K x):Szp 800 x:=by
 unfold Bd at h
 exact ⟨(hK.natle (by omega)).mono (by decide),(hK.natle (by omega)).mono (by decide)⟩
def sn:List U→Out→Prop:=fun us o=> ∃ (l:List P2) (f s:P2),us=[lp l]∧lW l f s∧o=.val (.tup [pu f,pu s])
set_option maxHeartbeats 8000000 in
theorem wf (T:Txt w K mg):ba P w K mg base (CXF P w) 6 T.a_thin T.d_thin ["land"] (spU K (sn)):=by
 refine bx T.F_thin fP (fun us o h=> ?_) (fun cdv A outer s H E O us o hr h=> ?_)
 ·obtain ⟨l,f',s',rfl,⟨h,K,J,s0,hK,Kp,S0,R0⟩,rfl⟩:=h
  rfl
 obtain ⟨l,f',s',rfl,⟨h,K,J,s0,hK,Kp,S0,R0⟩,rfl⟩:=h
 refine Ws.nox ?_
 have T0:=eu h.ne S0
 have up6:∀ {x:P2},Szp 800 x→Szp 6000 x:=fun z=> ⟨z.1.mono (by decide),z.2.mono (by decide)⟩
 refine ae (aU (i:=1) fP.nd rfl (Or.inl rfl) (cD (aG ai (aG ai ca aM) aM)) ?_)
 refine ae (aU (i:=2) fP.nd rfl (Or.inl rfl) (av ((gY T).mono (by decide)) hr rfl T.m_shortened T.F_shortened.kp T.b_shortened ar (ac (aa 0 rfl) (ac (aa 1 rfl) (ac (cD (aG ai (aG ai ca aM) aM)) ak zE) ag) ag) ⟨l,(1,0),(0,1),s0,rfl,h,⟨Sz.mono (m:=8) (by decide) (by decide),Sz.mono (m:=8) (by decide) (by decide)⟩,⟨Sz.mono (m:=8) (by decide) (by decide),Sz.mono (m:=8) (by decide) (by decide)⟩,S0,rfl⟩) ?_)
 refine ae (gS (fun q:P2×P2=> [some (.val (lp l)),some (.val (pu q.1)),some (.val (pu q.2)),none]) (fun n q=> n=(nrm l q.1).toNat∧J q.1 q.2∧nrm l q.2≤nrm l (aw q.1 q.2 1)∧nrm l q.2≤nrm l (aw q.1 q.2 (-1))∧Run l q.1 q.2 f' s') PassesOwn.never ?h0 ?hs)
 case h0=> exact ⟨_,((1,0),s0),⟨rfl,Kp.first _ T0,T0.up,T0.dn,R0⟩,rfl,rfl,rfl,trivial⟩
 case hs=>
  rintro n ⟨f,s⟩ ⟨hn,j,hu,hd,R⟩
  dsimp only at hn j hu hd R ⊢
  obtain ⟨bf,bs⟩:=Kp.bd f s j
  have zf:=pK hK bf
  have zs:=pK hK bs
  refine ⟨decide (nrm l s < nrm l f),(ay iO (av ((cL T).mono (by decide)) hr rfl T.m_span_along T.F_span_along.kp T.b_span_along ar (ac (aa 0 rfl) (ac (aa 2 rfl) ak ag) ag) ⟨l,s,rfl,h,up6 zs,rfl⟩) (av ((cL T).mono (by decide)) hr rfl T.m_span_along T.F_span_along.kp T.b_span_along ar (ac (aa 0 rfl) (ac (aa 1 rfl) ak ag) ag) ⟨l,f,rfl,h,up6 zf,rfl⟩)),fun hT=> ?_,fun hF ps hps=> ?_⟩
  ·have hlt:=dTb hT
   cases R with
   | stop h2=> omega
   | @step _ _ r _ _ h1 S R=>
    have T1:=eu h.ne S
    refine ae (aU (i:=3) fP.nd rfl (Or.inl rfl) (av ((gY T).mono (by decide)) hr rfl T.m_shortened T.F_shortened.kp T.b_shortened ar (ac (aa 0 rfl) (ac (aa 2 rfl) (ac (aa 1 rfl) ak ag) ag) ag) ⟨l,s,f,r,rfl,h,zs,zf,S,rfl⟩) ?_)
    refine ae (aU (i:=1) fP.nd rfl (Or.inl rfl) (aa 2 rfl) ?_)
    refine ae (aU (i:=2) fP.nd rfl (Or.inl rfl) (aa 3 rfl) (ax ?_))
    have s0':=aY h.ne s
    exact ⟨(nrm l s).toNat,(s,r),by omega,⟨rfl,Kp.step _ _ _ j hlt hu hd T1,T1.up,T1.dn,R⟩,rfl,rfl,rfl,trivial⟩
  ·have hge:=dFb hF
   refine eJ ?_ hps
   cases R with
   | stop h2=>
    refine ae (bo (cD (aG (aa 1 rfl) (aG (aa 2 rfl) ca ag) ag)) ?_)
    exact rfl
   | step h1 S R=> exact absurd h1 hge
end
section
variable {P:Program} {w:World} {K:PySem.W.Frag} {mg:Str→Option Value} {base:Heap}
def D10:List Nat:=[48,49,50,51,52,53,54,55,56,57]
theorem lS (c:Nat):c∈D10↔48≤c∧c≤57:=by unfold D10; simp; omega
def bv (l:List Nat):List Nat:=if l.head?=some 45 then l.drop 1 else l
theorem gJ {l:List Nat} (h:l.head?=some 45):l=45::bv l:=by
 unfold bv
 rw [if_pos h]
 cases l with
 | nil=> simp at h
 | cons a r=> simp at h; subst h; rfl
theorem fu {l:List Nat} (h:¬ l.head?=some 45):bv l=l:=if_neg h
theorem nG (l:List Nat):(bv l).length≤l.length:=by unfold bv; split <;> simp
def ox (l:List Nat):Bool:=l.all fun c=> decide (c∈D10)
theorem nY (l:List Nat):ox l=true↔NumText.AllDigits l:=by
 unfold ox NumText.AllDigits
 rw [List.all_eq_true]
 exact ⟨fun h c hc=> (lS c).mp (of_decide_eq_true (h c hc)),fun h c hc=> decide_eq_true ((lS c).mpr (h c hc))⟩
def okL (l:List Nat):Bool:=(decide (1≤(bv l).length) && decide ((bv l).length≤60)) && (ox (bv l) && !(decide ((bv l).head?=some 48) && (decide (1 < (bv l).length) || decide (l≠bv l))))
structure Num (l:List Nat):Prop where
 l1:1≤(bv l).length
 l2:(bv l).length≤60
 ad:NumText.AllDigits (bv l)
 h0:(bv l).head?=some 48→(bv l).length=1∧l=bv l
theorem i4 (l:List Nat):okL l=true↔Num l:=by
 unfold okL
 simp only [Bool.and_eq_true,decide_eq_true_eq,Bool.not_eq_true',nY]
 constructor
 ·rintro ⟨⟨a,b⟩,c,d⟩
  refine ⟨a,b,c,fun h=> ?_⟩
  rw [decide_eq_true h,Bool.true_and,Bool.or_eq_false_iff] at d
  have d1:=of_decide_eq_false d.1
  have d2:=of_decide_eq_false d.2
  exact ⟨by omega,Classical.not_not.mp d2⟩
 ·intro h
  refine ⟨⟨h.l1,h.l2⟩,h.ad,?_⟩
  by_cases z:(bv l).head?=some 48
  ·obtain ⟨e1,e2⟩:=h.h0 z
   rw [decide_eq_false (show ¬ 1 < (bv l).length by omega),decide_eq_false (show ¬ l≠bv l from fun k=> k e2)]
   simp
  ·rw [decide_eq_false z]; rfl
def vx (l:List Nat):Int:=if l.head?=some 45 then -((NumText.digitsVal (bv l):Nat):Int) else ((NumText.digitsVal (bv l):Nat):Int)
theorem pF:∀ (cs:List Nat) (a:Nat),NumText.AllDigits cs→cs.foldl (fun acc c=> acc * 10+(c - 48)) a < (a+1) * 10 ^ cs.length
 | [],a,_=> by simp
 | c::cs,a,h=> by
  have h1:=h c List.mem_cons_self
  have ih:=pF cs (a * 10+(c - 48)) fun d hd=> h d (List.mem_cons_of_mem _ hd)
  rw [List.foldl_cons,List.length_cons,Nat.pow_succ]
  refine Nat.lt_of_lt_of_le ih ?_
  rw [Nat.mul_comm (10 ^ cs.length) 10,← Nat.mul_assoc]
  exact Nat.mul_le_mul_right _ (by omega)
theorem vj {m:Nat} (h:m < 10 ^ 62):m.log2 < 1920:=by
 by_cases z:m=0
 ·subst z; decide
 ·rw [Nat.log2_lt z]
  exact Nat.lt_trans h (by decide+kernel)
theorem Num.text {l:List Nat} (h:Num l):PySem.intText? (T' l)=some (vx l):=by
 have hl:=nG l
 have ne:bv l≠[]:=fun e=> by have:=h.l1; rw [e] at this; simp at this
 unfold vx
 by_cases z:l.head?=some 45
 ·rw [if_pos z]
  have e:=gJ z
  refine intText_neg (x:=T' l) (cs:=bv l) (by simpa using e) h.ad ne ?_
  rw [bi]
  have:=congrArg List.length e
  rw [List.length_cons] at this
  have:=h.l2
  omega
 ·rw [if_neg z,fu z]
  have a:=h.ad
  have b:=h.l2
  rw [fu z] at a b ne
  have:=intText_digits (x:=T' l) (by simpa using a) (by simpa using ne) (by rw [bi]; omega)
  simpa using this
def ds (n:Int):List Nat:=(Str.ofString (toString n)).cps.toList
theorem oZ (n:Int):Str.ofString (toString n)=T' (ds n):=sO _
theorem eT (m:Nat):ds (m:Int)=(Nat.toDigits 10 m).map Char.toNat:=PySem.W.KIN.signs_num m
theorem n5 {m:Nat} (h:0 < m):ds (-(m:Int))=45::ds (m:Int):=by
 unfold ds
 rw [toString_neg (show (-(m:Int)) < 0 by omega),signs_ofString,signs_ofString,show (0:Int) - -(m:Int)=(m:Int) by omega,String.toList_append,List.map_append]
 rfl
theorem bV {n:Int} {k:Nat} (hk:1≤k) (h:n.natAbs < 10 ^ k):(ds n).length≤k+1:=by
 rcases Int.lt_or_le n 0 with z | z
 ·obtain ⟨m,rfl⟩:∃ m:Nat,n=-(m:Int):=⟨n.natAbs,by omega⟩
  rw [n5 (by omega),List.length_cons,eT,List.length_map]
  have:=digits10_le hk (n:=m) (by omega)
  omega
 ·obtain ⟨m,rfl⟩:∃ m:Nat,n=(m:Int):=⟨n.toNat,by omega⟩
  rw [eT,List.length_map]
  have:=digits10_le hk (n:=m) (by omega)
  omega
theorem yH:∀ d:Nat,d < 10→48≤(Nat.digitChar d).toNat∧(Nat.digitChar d).toNat≤57:=by decide
theorem fm (m:Nat):NumText.AllDigits (ds (m:Int)):=by
 induction m using Nat.strongRecOn with
 | _ m ih=>
  by_cases h:m < 10
  ·rw [eT,Nat.toDigits_of_lt_base h]
   intro c hc
   simp at hc
   rw [hc]
   exact yH m h
  ·have hm:m % 10 < 10:=Nat.mod_lt m (by decide)
   have t:Nat.toDigits 10 (m / 10)++Nat.toDigits 10 (m % 10)=Nat.toDigits 10 (10 * (m / 10)+m % 10):=Nat.toDigits_append_toDigits (by decide) (by omega) hm
   rw [Nat.div_add_mod] at t
   rw [eT,← t,List.map_append]
   intro c hc
   rcases List.mem_append.mp hc with k | k
   ·exact ih (m / 10) (by omega) c (by rw [eT]; exact k)
   ·exact ih (m % 10) (by omega) c (by rw [eT]; exact k)
theorem lY (m:Nat):NumText.digitsVal (ds (m:Int))=m:=by rw [eT]; exact PySem.W.KIN.val_back m
theorem nU (m:Nat):ds (m:Int)≠[]:=fun e=> by
 have h:=eT m
 rw [e] at h
 have:=Nat.toDigits_ne_nil (b:=10) (n:=m)
 exact this (by simpa using h.symm)
theorem lE {m k:Nat} (hk:1≤k) (h:m < 10 ^ k):(ds (m:Int)).length≤k:=by
 rw [eT,List.length_map]; exact digits10_le hk h
theorem v9 {m:Nat} (h:(ds (m:Int)).head?=some 48):m=0:=by
 cases e:ds (m:Int) with
 | nil=> rw [e] at h; simp at h
 | cons c r=>
  rw [e] at h
  simp at h
  subst h
  have d:=fm m
  have v:=lY m
  rw [e] at d v
  have v2:NumText.digitsVal r=m:=v
  cases r with
  | nil=> rw [← v2]; rfl
  | cons a r=>
   have:=pF (a::r) 0 (fun c hc=> d c (List.mem_cons_of_mem _ hc))
   rw [Nat.zero_add,Nat.one_mul] at this
   have l:=lE (m:=m) (k:=(a::r).length) (by simp) (by rw [← v2]; exact this)
   rw [e] at l
   simp at l
   omega
theorem iX (n:Int):bv (ds n)=ds (n.natAbs:Int)∧((ds n).head?=some 45↔n < 0):=by
 rcases Int.lt_or_le n 0 with z | z
 ·obtain ⟨m,rfl⟩:∃ m:Nat,n=-(m:Int):=⟨n.natAbs,by omega⟩
  have e:=n5 (m:=m) (by omega)
  rw [e]
  refine ⟨?_,by simp; omega⟩
  unfold bv
  rw [if_pos (show (45::ds (m:Int)).head?=some 45 from rfl)]
  simp
 ·obtain ⟨m,rfl⟩:∃ m:Nat,n=(m:Int):=⟨n.natAbs,by omega⟩
  have hh:(ds (m:Int)).head?≠some 45:=fun h=> by
   cases e:ds (m:Int) with
   | nil=> exact nU m e
   | cons c r=>
    rw [e] at h
    simp at h
    have:=fm m c (by rw [e]; exact List.mem_cons_self)
    omega
  refine ⟨?_,by simp [hh]⟩
  rw [fu hh]
  simp
theorem lH (n:Int):vx (ds n)=n:=by
 obtain ⟨e,h⟩:=iX n
 unfold vx
 rw [e,lY]
 by_cases z:n < 0
 ·rw [if_pos (h.mpr z)]; omega
 ·rw [if_neg fun k=> z (h.mp k)]; omega
theorem uV {n:Int} (h:n.natAbs < 10 ^ 60):okL (ds n)=true:=by
 refine (i4 _).mpr ?_
 obtain ⟨e,hh⟩:=iX n
 refine ⟨?_,?_,?_,fun k=> ?_⟩
 ·rw [e]; exact List.length_pos_iff.mpr (nU _)
 ·rw [e]; exact lE (by decide) h
 ·rw [e]; exact fm _
 ·rw [e] at k ⊢
  have z:=v9 k
  have n0:n=0:=by omega
  subst n0
  exact ⟨by decide+kernel,by rfl⟩
theorem qG {n:Int} (h:n.natAbs < 10 ^ 300):PySem.intText? (T' (ds n))=some n:=by
 obtain ⟨e,hh⟩:=iX n
 have l:=bV (n:=n) (k:=300) (by decide) h
 by_cases z:n < 0
 ·have e2:=gJ (hh.mpr z)
  rw [e] at e2
  have:=intText_neg (x:=T' (ds n)) (cs:=ds (n.natAbs:Int)) (by simpa using e2) (fm _) (nU _) (by rw [bi]; omega)
  rw [this,lY]
  congr 1; omega
 ·obtain ⟨m,rfl⟩:∃ m:Nat,n=(m:Int):=⟨n.natAbs,by omega⟩
  have:=intText_digits (x:=T' (ds (m:Int))) (by simpa using fm m) (by simpa using nU m) (by rw [bi]; omega)
  rw [this]
  simp [lY]
theorem dl (n:Int) {c:Nat} (hc:c < 45∨57 < c∨c=47∨c=46):c ∉ ds n:=fun h=> by
 rcases Int.lt_or_le n 0 with z | z
 ·obtain ⟨m,rfl⟩:∃ m:Nat,n=-(m:Int):=⟨n.natAbs,by omega⟩
  rw [n5 (by omega)] at h
  rcases List.mem_cons.mp h with k | k
  ·omega
  ·have:=fm m c k; omega
 ·obtain ⟨m,rfl⟩:∃ m:Nat,n=(m:Int):=⟨n.natAbs,by omega⟩
  have:=fm m c h; omega
def ptD (p:P2):List Nat:=ds p.1++44::ds p.2
def B60 (p:P2):Prop:=p.1.natAbs < 10 ^ 60∧p.2.natAbs < 10 ^ 60
theorem tG (p:P2):32 ∉ ptD p:=fun h=> by
 unfold ptD at h
 rcases List.mem_append.mp h with k | k
 ·exact dl p.1 (by omega) k
 ·rcases List.mem_cons.mp k with k | k
  ·omega
  ·exact dl p.2 (by omega) k
theorem jb {p:P2} (h:B60 p):(ptD p).length≤123:=by
 have h1:(ds p.1).length≤61:=bV (by decide) h.1
 have h2:(ds p.2).length≤61:=bV (by decide) h.2
 unfold ptD
 simp; omega
def jn:List (List Nat)→List Nat
 | []=> []
 | [w]=> w
 | w::r=> w++32::jn r
theorem e8 (w:List Nat) {r:List (List Nat)} (h:r≠[]):jn (w::r)=w++32::jn r:=by
 cases r with
 | nil=> exact absurd rfl h
 | cons a r=> rfl
theorem o0:∀ {ws:List (List Nat)},ws≠[]→(∀ w∈ws,32 ∉ w)→spl 32 (jn ws)=ws
 | [],h,_=> absurd rfl h
 | [w],_,h=> gQ (h w List.mem_cons_self)
 | w::a::r,_,h=> by
  rw [e8 w (by simp),i5 _ (h w List.mem_cons_self),o0 (by simp) fun x hx=> h x (List.mem_cons_of_mem _ hx)]
theorem Al:∀ ws:List (List Nat),Txt.join (T' [32]) (ws.map T')=T' (jn ws):=fun ws=> by
 show Builtin.Str.glued _ _=_
 rw [StrLaws.glued_eq_join]
 induction ws with
 | nil=> rfl
 | cons w r ih=>
  cases r with
  | nil=> rfl
  | cons a r=>
   rw [e8 w (by simp)]
   show T' w++T' [32]++Str.join (T' [32]) ((a::r).map T')=_
   rw [ih,gh,gh]
   refine congrArg T' ?_
   simp
theorem tw {c:Nat}:∀ ws:List (List Nat),(∀ w∈ws,w.length≤c)→(jn ws).length≤ws.length * (c+1)
 | [],_=> by simp [jn]
 | [w],h=> by have:=h w List.mem_cons_self; simp [jn]; omega
 | w::a::r,h=> by
  have ih:=tw (a::r) fun x hx=> h x (List.mem_cons_of_mem _ hx)
  have:=h w List.mem_cons_self
  rw [e8 w (by simp),List.length_append,List.length_cons,List.length_cons (a:=w),Nat.add_mul,Nat.one_mul]
  omega
def dE (l:List Nat):List Nat:=l.map fun c=> if c=44 then 32 else c
theorem ub:∀ l:List Nat,jn (spl 44 l)=dE l
 | []=> by simp [spl,jn,dE]
 | c::l=> by
  have ih:=ub l
  obtain ⟨p,r,e⟩:=yb 44 l
  unfold spl
  rw [e] at ih ⊢
  by_cases h:c=44
  ·subst h
   simp only [if_true,beq_self_eq_true]
   rw [e8 _ (by simp),ih]
   simp [dE]
  ·simp only [beq_iff_eq,h,if_false]
   cases r with
   | nil=> unfold jn at ih ⊢; rw [ih]; simp [dE,h]
   | cons a r=>
    rw [e8 _ (by simp)] at ih ⊢
    show c::(p++32::jn (a::r))=_
    rw [ih]; simp [dE,h]
theorem AL (l:List Nat):Txt.replace (T' l) (Str.ofString ",") (Str.ofString " ")=T' (dE l):=by
 rw [show (Str.ofString ",":Str)=⟨#[44]⟩ from rfl,StrLaws.replace_one,o5,← StrLaws.glued_eq_join]
 show Txt.join (T' [32]) _=_
 rw [Al,ub]
theorem jk {l:List Nat} (h:44 ∉ l):dE l=l:=by
 unfold dE
 induction l with
 | nil=> rfl
 | cons a r ih=>
  rw [List.map_cons,ih fun z=> h (List.mem_cons_of_mem _ z),if_neg fun z=> h (by rw [z]; exact List.mem_cons_self)]
end
section
variable {P:Program} {w:World} {K:PySem.W.Frag} {mg:Str→Option Value} {base:Heap}
theorem fe (K:PySem.W.Frag):PySem.W.kitOne K (.type "str") (.type "str")=some true:=rfl
def oO:List U→Out→Prop:=fun us o=> ∃ x,us=[.str x]∧o=.val .non
set_option maxHeartbeats 8000000 in
theorem gB (T:Txt w K mg):ba P w K mg base (CXF P w) 1 T.a_need_text T.d_need_text ["thing"] (spU K (oO)):=by
 refine bx T.F_need_text md (fun us o h=> ?_) (fun cdv A outer s H E O us o hr h=> ?_)
 ·obtain ⟨x,rfl,rfl⟩:=h
  rfl
 obtain ⟨x,rfl,rfl⟩:=h
 refine Ws.nox ?_
 refine ae (bh (nS (iF (aB (jV (by intro _ h; cases h) (fe _)) rfl T.z_isinstance boot_isinstance (ac (aa 0 rfl) (ac (zj rfl T.z_str boot_str) ak ag) ag)))) rfl (ax (ax ?_)))
 exact rfl
theorem sz1 {l:List Nat} (h:l.length≤8200):(T' l).length≤sizeLine:=by rw [bi]; exact Nat.le_of_lt (lM (by omega))
theorem hy:((Str.ofString "-"):Str)=⟨#[45]⟩:=rfl
theorem fg:((Str.ofString "0123456789"):Str)=T' D10:=rfl
theorem eqS (x y:Str):eqW (.str x) (.str y)=decide (x=y):=by
 show (x==y)=_
 by_cases h:x=y
 ·subst h; simp
 ·rw [decide_eq_false h]; simpa using h
theorem mh {l m:List Nat} (h:T' l=T' m):l=m:=by
 have:=congrArg (fun x:Str=> x.cps.toList) h
 simpa using this
def qR:List U→Out→Prop:=fun us o=> ∃ l:List Nat,us=[.str (T' l)]∧l.length≤8200∧o=.val (.bl (okL l))
set_option maxHeartbeats 8000000 in
theorem ft (T:Txt w K mg):ba P w K mg base (CXF P w) 1 T.a_is_written_number T.d_is_written_number ["text"] (spU K (qR)):=by
 refine bx T.F_is_written_number bW (fun us o h=> ?_) (fun cdv A outer s H E O us o hr h=> ?_)
 ·obtain ⟨l,rfl,hl,rfl⟩:=h
  rfl
 obtain ⟨l,rfl,hl,rfl⟩:=h
 refine Ws.nox ?_
 have fl:=nG l
 have st:=xB l 45
 have hfig:∀ {X:Cx} {H0:Hp} {O0:List Addr} {ps:PSt} {e:Expr} (x y:Str),x=y→Ev X H0 O0 ps e (.str x)→Ev X H0 O0 ps e (.str y):=fun x y h=> by subst h; exact id
 have k1:Txt.startswith (T' l) (Str.ofString "-")=true→StrLaws.sliceText (T' l) (some 1) none=T' (bv l):=fun h=> by
  rw [hy,st] at h
  rw [show (1:Int)=((1:Nat):Int) from rfl,jg]
  unfold bv
  rw [if_pos (of_decide_eq_true h)]
 have k2:Txt.startswith (T' l) (Str.ofString "-")=false→T' l=T' (bv l):=fun h=> by
  rw [hy,st] at h
  rw [fu (of_decide_eq_false h)]
 refine ae (aU (i:=1) bW.nd rfl (Or.inl rfl) (zY (iF (ue (aa 0 rfl) aL aM)) (fun hz=> (hfig _ _ (k1 hz) (jX (aa 0 rfl) (d6 ai) dX (sz1 hl)))) (fun hz=> (hfig _ _ (k2 hz) (aa 0 rfl)))) ?_)
 have hm:((T' (bv l)).length:Int)=((bv l).length:Int):=by rw [bi]
 by_cases h1:1≤(bv l).length∧(bv l).length≤60
 ·refine ae (bh (Tw.t (jZ (ay iO (aB (fF (sz1 (by omega))) rfl T.z_len PySem.boot_len (ac (aa 1 rfl) ak ag)) ai) (fun hz=> (jj (ay lI (aB (fF (sz1 (by omega))) rfl T.z_len PySem.boot_len (ac (aa 1 rfl) ak ag)) (mU rfl T.g_MOST_FIGURES)))))) (by rw [hm,decide_eq_false (show ¬ ((bv l).length:Int) < 1 by omega),decide_eq_false (show ¬ ((bv l).length:Int) > 60 by omega)]; rfl) (ax ?_))
  have hin:∀ c:Nat,(!(Builtin.Str.occurrences (Str.ofString "0123456789") ⟨#[c]⟩ 0 (Str.ofString "0123456789").length 1).isEmpty)=decide (c∈D10):=fun c=> by rw [fg]; exact in1 D10 c
  have eall:((bv l).map fun c=> decide (c∈D10)).all id=ox (bv l):=by unfold ox; rw [List.all_map]; rfl
  refine ae (jo (nS (iF (aB (Ab rfl (bs:=(bv l).map fun c=> decide (c∈D10))) rfl T.z_all boot_all (ac (EvN.ev (gx (ys:=(((bv l).map fun c=> decide (c∈D10)).map U.bl)) rfl (blk (af aZ) ["text","figures","sign"] [2] rfl rfl rfl rfl (by decide+kernel)) (ui (aa 1 rfl)) (fun _ _ _ _=> aJ (i:=2) bW.nd rfl (Or.inl rfl)) (db (by decide)) ?clen ?csz (fun _ _=> trivial) ?celt)) ak gM)))) (fun hT=> ?_) (fun hF=> (ax ?_)))
  case clen=> simp
  case csz=> simp; exact Nat.le_of_lt (lM (by omega))
  case celt=>
   intro C s' H' fp j x y hx hy'
   have e1:(T' (bv l)).cps.toList=bv l:=by simp
   rw [e1] at hx
   rw [List.map_map] at hy'
   obtain ⟨c,hc,mc,rfl,rfl⟩:=cM hx hy'
   show Ev _ _ _ _ _ (.bl (decide (c∈D10)))
   rw [← hin c]
   exact (kD AF (aa 2 rfl) (Ao rfl T.g_FIGURES))
  ·refine ae (bo AI ?_)
   refine vB ?_
   symm
   rw [eall] at hT
   unfold okL
   have:ox (bv l)=false:=by simpa using hT
   rw [this]; simp
  ·rw [eall] at hF
   have ha:ox (bv l)=true:=by simpa using hF
   obtain ⟨c,r,hcr⟩:∃ c r,bv l=c::r:=by
    cases e:bv l with
    | nil=> rw [e] at h1; simp at h1
    | cons c r=> exact ⟨c,r,rfl⟩
   have at0:atI (T' (bv l)).cps.toList 0=some c:=dM (i:=0) rfl (by simp [hcr])
   refine ae (bo (By (kD (dc (bK hr) (by walk_at "ok") (by walk_at "ok")) (aa 0 rfl) aL) (fun hz=> (Ad (kD (vt (bK hr) (by walk_at "ok") (by walk_at "ok")) (Ah (aa 1 rfl) ai (sz1 (by omega)) at0) aL)))) ?_)
   refine vB ?_
   have e1:eqW (.str (T' l)) (.str (Str.ofString "0"))=decide (l=[48]):=by
    rw [eqS]
    refine decide_eq_decide.mpr ⟨fun h=> mh (m:=[48]) h,fun h=> by rw [h]; rfl⟩
   have e2:eqW (sg c) (.str (Str.ofString "0"))=decide (c=48):=by
    rw [eqS]
    refine decide_eq_decide.mpr ⟨fun h=> ?_,fun h=> by rw [h]; rfl⟩
    have:=mh (l:=[c]) (m:=[48]) h
    simpa using this
   rw [e1,e2,Bool.eq_iff_iff,i4]
   have hd:(bv l).head?=some c:=by rw [hcr]; rfl
   constructor
   ·intro h
    refine ⟨h1.1,h1.2,(nY _).mp ha,fun k=> ?_⟩
    rw [hd] at k
    cases k
    have h2:l=[48]:=by simpa using h
    subst h2
    exact ⟨rfl,rfl⟩
   ·intro N
    by_cases z:c=48
    ·subst z
     obtain ⟨n1,n2⟩:=N.h0 hd
     have:l=[48]:=by
      rw [n2,hcr]
      rw [hcr] at n1
      simp at n1
      rw [n1]
     rw [decide_eq_true this]; rfl
    ·rw [decide_eq_false z]; simp
 ·have hT1:(decide (((bv l).length:Int) < 1) || decide (((bv l).length:Int) > 60))=true:=by
   by_cases z:((bv l).length:Int) < 1
   ·rw [decide_eq_true z]; rfl
   ·rw [decide_eq_true (show ((bv l).length:Int) > 60 by omega)]; simp
  refine ae (fZ (Tw.t (jZ (ay iO (aB (fF (sz1 (by omega))) rfl T.z_len PySem.boot_len (ac (aa 1 rfl) ak ag)) ai) (fun hz=> (jj (ay lI (aB (fF (sz1 (by omega))) rfl T.z_len PySem.boot_len (ac (aa 1 rfl) ak ag)) (mU rfl T.g_MOST_FIGURES)))))) (by rw [hm]; exact hT1) ?_)
  refine ae (bo AI ?_)
  refine vB ?_
  symm
  cases e:okL l with
  | false=> rfl
  | true=>
   have N:=(i4 l).mp e
   exact absurd ⟨N.l1,N.l2⟩ h1
theorem rC {l:List Nat} (N:Num l):l.length≤61:=by
 have h:=N.l2
 by_cases z:l.head?=some 45
 ·have e:=congrArg List.length (gJ z)
  rw [List.length_cons] at e
  omega
 ·rw [fu z] at h; omega
def rR:List U→Out→Prop:=fun us o=> ∃ l:List Nat,us=[.str (T' l)]∧l.length≤8200∧okL l=true∧o=.val (.int (vx l))
set_option maxHeartbeats 8000000 in
theorem dL (T:Txt w K mg):ba P w K mg base (CXF P w) 2 T.a_read_number T.d_read_number ["text"] (spU K (rR)):=by
 refine bx T.F_read_number jw (fun us o h=> ?_) (fun cdv A outer s H E O us o hr h=> ?_)
 ·obtain ⟨l,rfl,hl,ho,rfl⟩:=h
  rfl
 obtain ⟨l,rfl,hl,ho,rfl⟩:=h
 refine Ws.nox ?_
 have N:=(i4 l).mp ho
 refine ae (k_ (av ((gB T).mono (by decide)) hr rfl T.m_need_text T.F_need_text.kp T.b_need_text ar (ac (aa 0 rfl) ak ag) ⟨_,rfl,rfl⟩) ?_)
 refine ae (bh (nS (iF (av ((ft T).mono (by decide)) hr rfl T.m_is_written_number T.F_is_written_number.kp T.b_is_written_number ar (ac (aa 0 rfl) ak ag) ⟨l,rfl,hl,rfl⟩))) (by rw [ho]; rfl) (ax ?_))
 refine ae (bo (dQ (oW N.text (by rw [bi]; exact Nat.le_trans (rC N) (by decide))) rfl T.z_int boot_int (ac (aa 0 rfl) ak ag)) ?_)
 exact rfl
def oJ:List U→Out→Prop:=fun us o=> ∃ n:Int,us=[.int n]∧n.natAbs < 10 ^ 300∧o=.val (.str (T' (ds n)))
theorem Ag {m:Nat} (h:m < 10 ^ 300):m.log2 < 1920:=by
 by_cases z:m=0
 ·subst z; decide
 ·rw [Nat.log2_lt z]
  exact Nat.lt_trans h (by decide+kernel)
set_option maxHeartbeats 8000000 in
theorem dI (T:Txt w K mg):ba P w K mg base (CXF P w) 1 T.a_show_number T.d_show_number ["number"] (spU K (oJ)):=by
 refine bx T.F_show_number jH (fun us o h=> ?_) (fun cdv A outer s H E O us o hr h=> ?_)
 ·obtain ⟨n,rfl,hn,rfl⟩:=h
  rfl
 obtain ⟨n,rfl,hn,rfl⟩:=h
 refine Ws.nox ?_
 refine ae (bo (dQ (lG (Ag hn)) rfl T.z_str boot_str (ac (aa 0 rfl) ak ag)) ?_)
 rw [oZ]
theorem kW (x y:Str):(x++y).length=x.length+y.length:=by
 show (x.cps++y.cps).size=_
 rw [Array.size_append]; rfl
theorem mC (a b:List Nat):T' a++(Str.ofString ",":Str)++T' b=T' (a++44::b):=by
 rw [show (Str.ofString ",":Str)=T' [44] from rfl,gh,gh]
 refine congrArg T' ?_
 simp
theorem sz2 {l:List Nat} (h:l.length≤8200):(T' l).length+2≤sizeLine:=by rw [bi]; exact Nat.le_of_lt (lM (by omega))
def vM:List U→Out→Prop:=fun us o=> ∃ p:P2,us=[.str (T' (ptD p))]∧B60 p∧o=.val (pu p)
set_option maxHeartbeats 8000000 in
theorem j_ (T:Txt w K mg):ba P w K mg base (CXF P w) 3 T.a_read_point T.d_read_point ["text"] (spU K (vM)):=by
 refine bx T.F_read_point fY (fun us o h=> ?_) (fun cdv A outer s H E O us o hr h=> ?_)
 ·obtain ⟨p,rfl,hb,rfl⟩:=h
  rfl
 obtain ⟨p,rfl,hb,rfl⟩:=h
 refine Ws.nox ?_
 have hl:=jb hb
 have e:spl 44 (ptD p)=[ds p.1,ds p.2]:=by unfold ptD; rw [i5 _ (dl p.1 (by omega)),gQ (dl p.2 (by omega))]
 have l1:(ds p.1).length≤61:=bV (by decide) hb.1
 have l2:(ds p.2).length≤61:=bV (by decide) hb.2
 refine ae (k_ (av ((gB T).mono (by decide)) hr rfl T.m_need_text T.F_need_text.kp T.b_need_text ar (ac (aa 0 rfl) ak ag) ⟨_,rfl,rfl⟩) ?_)
 refine ae (aU (i:=1) fY.nd rfl (Or.inl rfl) (EvN.ev (nF (c:=44) (aa 0 rfl) aL aM (sz2 (by omega)) rfl)) ?_)
 rw [e]
 show Ws _ _ _ _ _ _ [some (.val (.str (T' (ptD p)))),some (.val (.lst [.str (T' (ds p.1)),.str (T' (ds p.2))]))]
 refine ae (bh (ay nw (aB (dS rfl) rfl T.z_len PySem.boot_len (ac (aa 1 rfl) ak ag)) ai) rfl (ax ?_))
 refine ae (bo (cD (aG (av ((dL T).mono (by decide)) hr rfl T.m_read_number T.F_read_number.kp T.b_read_number ar (ac (bm (aa 1 rfl) ai rfl rfl) ak bA) ⟨ds p.1,rfl,by omega,uV hb.1,rfl⟩) (aG (av ((dL T).mono (by decide)) hr rfl T.m_read_number T.F_read_number.kp T.b_read_number ar (ac (bm (aa 1 rfl) ai rfl rfl) ak bA) ⟨ds p.2,rfl,by omega,uV hb.2,rfl⟩) ca bY) bY)) ?_)
 rw [lH,lH]
def r8:List U→Out→Prop:=fun us o=> ∃ p:P2,us=[pu p]∧p.1.natAbs < 10 ^ 300∧p.2.natAbs < 10 ^ 300∧o=.val (.str (T' (ptD p)))
set_option maxHeartbeats 8000000 in
theorem j0 (T:Txt w K mg):ba P w K mg base (CXF P w) 2 T.a_show_point T.d_show_point ["P"] (spU K (r8)):=by
 refine bx T.F_show_point j9 (fun us o h=> ?_) (fun cdv A outer s H E O us o hr h=> ?_)
 ·obtain ⟨p,rfl,h1,h2,rfl⟩:=h
  rfl
 obtain ⟨p,rfl,h1,h2,rfl⟩:=h
 refine Ws.nox ?_
 have l1:(ds p.1).length≤301:=bV (by decide) h1
 have l2:(ds p.2).length≤301:=bV (by decide) h2
 have lc:(Str.ofString ",":Str).length=1:=rfl
 refine ae (bo (gl (gl (av ((dI T).mono (by decide)) hr rfl T.m_show_number T.F_show_number.kp T.b_show_number ar (ac (bm (aa 0 rfl) ai rfl rfl) ak bA) ⟨p.1,rfl,h1,rfl⟩) aL (by rw [lc,bi]; exact Nat.le_of_lt (ap (by omega)))) (av ((dI T).mono (by decide)) hr rfl T.m_show_number T.F_show_number.kp T.b_show_number ar (ac (bm (aa 0 rfl) ai rfl rfl) ak bA) ⟨p.2,rfl,h2,rfl⟩) (by rw [kW,lc,bi,bi]; exact Nat.le_of_lt (ap (by omega)))) ?_)
 rw [mC]; rfl
end
section
variable {P:Program} {w:World} {K:PySem.W.Frag} {mg:Str→Option Value} {base:Heap}
abbrev sT (x:List Nat):U:=.str (T' x)
def cF:List Nat:=[102,105,101,108,100]
def eN:List Nat:=[102,111,108,100]
def fD:List Nat:=[116,104,105,110]
def xf:List U→Out→Prop:=fun us o=> ∃ (w:List Nat) (ws:List (List Nat)),us=[sT (jn (w::ws))]∧(∀ x∈w::ws,32 ∉ x)∧(jn (w::ws)).length≤8200∧(gE dR (T' w)).isSome=true∧o=.val (.lst ((w::ws).map sT))
set_option maxHeartbeats 8000000 in
theorem eV (T:Txt w K mg):ba P w K mg base (CXF P w) 1 T.a_row_words T.d_row_words ["row"] (spU K (xf)):=by
 refine bx T.F_row_words gR (fun us o h=> ?_) (fun cdv A outer s H E O us o hr h=> ?_)
 ·obtain ⟨w,ws,rfl,hf,hl,ht,rfl⟩:=h
  rfl
 obtain ⟨w,ws,rfl,hf,hl,ht,rfl⟩:=h
 refine Ws.nox ?_
 obtain ⟨ra,rm,rt⟩:=T.r_ROWS
 refine ae (bh (nS (iF (aB (jV (by intro _ h; cases h) (fe _)) rfl T.z_isinstance boot_isinstance (ac (aa 0 rfl) (ac (zj rfl T.z_str boot_str) ak ag) ag)))) rfl (ax ?_))
 refine ae (aU (i:=1) gR.nd rfl (Or.inl rfl) (EvN.ev (nF (c:=32) (aa 0 rfl) aL aM (sz2 hl) rfl)) ?_)
 rw [o0 (by simp) hf]
 refine ae (bh (t5 rt rfl rm (bm (aa 1 rfl) ai rfl (dM (i:=0) rfl rfl))) (by rw [ht]; rfl) (ax ?_))
 refine ae (bo (aa 1 rfl) ?_)
 exact rfl
structure sU (w:List Nat) (ks:List Str):Prop where
 nf:eqW (sT w) (.str "field")=false
 ex:∃ x:Str,gE dR (T' w)=some x∧Txt.words x=ks∧x.length≤sizeLine∧(Builtin.Str.spaceWords x (x.length+1)).length≤sizeLine
def kP:Str:=Str.ofString "P"
def e_:Str:=Str.ofString "NEW"
def lQ:Str:=Str.ofString "ONE"
def kK:Str:=Str.ofString "K"
theorem zN:sU fD [lQ]:=⟨by decide+kernel,Str.ofString "ONE",by decide+kernel,by decide+kernel,by decide+kernel,by decide+kernel⟩
theorem zb:sU eN [e_,lQ,kK]:=⟨by decide+kernel,Str.ofString "NEW ONE K",by decide+kernel,by decide+kernel,by decide+kernel,by decide+kernel⟩
def xy:List U→Out→Prop:=fun us o=> (∃ (w:List Nat) (ws:List (List Nat)) (ks:List Str),us=[.lst ((w::ws).map sT)]∧sU w ks∧ks.length=ws.length∧o=.val (.lst (ks.map U.str)))∨∃ ws:List (List Nat),us=[.lst ((cF::ws).map sT)]∧2≤ws.length∧ws.length≤61∧o=.val (.lst (.str e_::List.replicate (ws.length - 1) (.str kP)))
set_option maxHeartbeats 8000000 in
theorem iz (T:Txt w K mg):ba P w K mg base (CXF P w) 1 T.a_wanted T.d_wanted ["words"] (spU K (xy)):=by
 refine bx T.F_wanted di (by rintro us o (⟨_,_,_,rfl,_⟩ | ⟨_,rfl,_⟩) <;> rfl) (fun cdv A outer s H E O us o hr h=> ?_)
 refine Ws.nox ?_
 obtain ⟨ra,rm,rt⟩:=T.r_ROWS
 rcases h with ⟨w,ws,ks,rfl,⟨nf,x,hx,hk,z1,z2⟩,hl,rfl⟩ | ⟨ws,rfl,h2,h61,rfl⟩
 ·refine ae (aU (i:=1) di.nd rfl (Or.inl rfl) (EvN.ev (nO (xZ rt rfl rm (bm (aa 0 rfl) ai rfl (dM (i:=0) rfl rfl)) hx) z1 z2)) ?_)
  rw [hk]
  have hm:(((w::ws).map sT).length:Int)=(ws.length:Int)+1:=by simp
  have hm2:((ks.map U.str).length:Int)=(ws.length:Int):=by rw [List.length_map,hl]
  refine ae (aU (i:=2) di.nd rfl (Or.inl rfl) (cH (aB (dS rfl) rfl T.z_len PySem.boot_len (ac (aa 0 rfl) ak ag)) ai) ?_)
  refine ae (bh (ay (dc (bK hr) (by walk_at "ok") (by walk_at "ok")) (bm (aa 0 rfl) ai rfl (dM (i:=0) rfl rfl)) aL) nf (ax ?_))
  refine ae (bh (ay nw (aB (dS rfl) rfl T.z_len PySem.boot_len (ac (aa 1 rfl) ak ag)) (aa 2 rfl)) (by rw [hm,hm2]; simp) (ax ?_))
  refine ae (bo (aa 1 rfl) ?_)
  exact rfl
 ·have hx:gE dR (T' cF)=some (Str.ofString "NEW P"):=by decide+kernel
  have hk:Txt.words (Str.ofString "NEW P")=[e_,kP]:=by decide+kernel
  refine ae (aU (i:=1) di.nd rfl (Or.inl rfl) (EvN.ev (nO (xZ rt rfl rm (bm (aa 0 rfl) ai rfl (dM (i:=0) rfl rfl)) hx) (by decide+kernel) (by decide+kernel))) ?_)
  rw [hk]
  have hm:(((cF::ws).map sT).length:Int)=(ws.length:Int)+1:=by simp
  have hm2:((([e_,kP]:List Str).map U.str).length:Int)=2:=rfl
  refine ae (aU (i:=2) di.nd rfl (Or.inl rfl) (cH (aB (dS rfl) rfl T.z_len PySem.boot_len (ac (aa 0 rfl) ak ag)) ai) ?_)
  rw [hm]
  have hmin:(if (60:Int) - 1 < (ws.length:Int)+1 - 1 - ((([e_,kP]:List Str).map U.str).length:Int) then (60:Int) - 1 else (ws.length:Int)+1 - 1 - ((([e_,kP]:List Str).map U.str).length:Int))=((ws.length - 2:Nat):Int):=by
   rw [hm2,if_neg (by omega)]; omega
  have hcat:([e_,kP]:List Str).map U.str++List.replicate (ws.length - 2) (.str kP)=.str e_::List.replicate (ws.length - 1) (.str kP):=by
   rw [show ws.length - 1=(ws.length - 2)+1 by omega,List.replicate_succ]; rfl
  refine jM (fun ps=> SubP [some (.val (.lst ((cF::ws).map sT))),some (.val (.lst (.str e_::List.replicate (ws.length - 1) (.str kP)))),some (.val (.int ((ws.length:Int)+1 - 1))),none] ps) (jo (ay (dc (bK hr) (by walk_at "ok") (by walk_at "ok")) (bm (aa 0 rfl) ai rfl (dM (i:=0) rfl rfl)) aL) (fun hT=> ?_) (fun hF=> (ax ?_))) ?hj
  ·refine ae (aU (i:=3) di.nd rfl (Or.inl rfl) (cH (aa 2 rfl) (aB (dS rfl) rfl T.z_len PySem.boot_len (ac (aa 1 rfl) ak ag))) ?_)
   refine ae (aU (i:=1) di.nd rfl (Or.inl rfl) (EvN.ev (sV (aa 1 rfl) (EvN.ev (y9 (EvN.ev (gm (aG aL ca aM))) (aB (tp rfl) rfl T.z_min boot_min (ac (aa 3 rfl) (ac (cH (mU rfl T.g_MOST_POINTS) ai) ak b_) ag)) (by rw [hmin]; omega) (by rw [hmin]; omega) (by rw [hmin]; exact Nat.le_of_lt (ap (by omega))))) (by rw [List.length_replicate,hmin]; exact Nat.le_of_lt (ap (by simp; omega))))) (ax ?_))
   refine ⟨rfl,?_,rfl,trivial⟩
   refine congrArg (fun z=> some (Sl.val (.lst z))) ?_
   rw [hmin,Int.toNat_natCast]
   exact hcat
  ·exact absurd hF (by decide+kernel)
  case hj=>
   intro ps hps
   refine eJ ?_ hps
   have hm3:((U.str e_::List.replicate (ws.length - 1) (U.str kP)).length:Int)=(ws.length:Int)+1 - 1:=by simp; omega
   refine ae (bh (ay nw (aB (dS rfl) rfl T.z_len PySem.boot_len (ac (aa 1 rfl) ak ag)) (aa 2 rfl)) (by rw [hm3]; simp) (ax ?_))
   refine ae (bo (aa 1 rfl) ?_)
   exact rfl
structure Nm (l:List Nat):Prop where
 h1:1≤l.length
 h8:l.length≤8
 az:∀ c∈l,97≤c∧c≤122
theorem Nm.free {l:List Nat} (h:Nm l):32 ∉ l:=fun z=> by have:=h.az 32 z; omega
theorem lt1 (c d:Nat):decide (([c]:List Nat) < [d])=decide (c < d):=by
 refine decide_eq_decide.mpr ⟨fun h=> ?_,fun h=> ?_⟩
 ·cases h with
  | rel h=> exact h
  | cons h=> cases h
 ·exact .rel h
theorem yI {α β:Type} {f:α→β} {l:List α} {j:Nat} {x:β} (h:(l.map f)[j]?=some x):∃ c,l[j]?=some c∧c∈l∧x=f c:=by
 rw [List.getElem?_map] at h
 obtain ⟨c,hc,rfl⟩:=Option.map_eq_some_iff.mp h
 exact ⟨c,hc,List.mem_of_getElem? hc,rfl⟩
def wT:List U→Out→Prop:=fun us o=> ∃ l:List Nat,us=[sT l]∧Nm l∧o=.val .non
set_option maxHeartbeats 8000000 in
theorem mt (T:Txt w K mg):ba P w K mg base (CXF P w) 1 T.a_need_name T.d_need_name ["word"] (spU K (wT)):=by
 refine bx T.F_need_name eZ (fun us o h=> ?_) (fun cdv A outer s H E O us o hr h=> ?_)
 ·obtain ⟨l,rfl,hN,rfl⟩:=h
  rfl
 obtain ⟨l,rfl,hN,rfl⟩:=h
 refine Ws.nox ?_
 have h1:=hN.h1
 have h8:=hN.h8
 have e1:(T' l).cps.toList=l:=by simp
 have hl:(T' l).length=l.length:=bi l
 refine ae (oQ ((T' l).cps.toList.map fun c=> some (sg c)) (j:=1) false rfl eZ.nd rfl (Or.inl rfl) (blk (af cf) ["word","letters","sign"] [2] rfl rfl rfl rfl (by decide+kernel)) (ui (aa 0 rfl)) (fun _ _ _ _=> aJ (i:=2) eZ.nd rfl (Or.inl rfl)) (db (by decide)) ?clen ?csz (fun _ _=> trivial) ?ctest ?celt ?_)
 case clen=> simp
 case csz=> simp [e1]; exact Nat.le_of_lt (ap (by omega))
 case ctest=>
  intro C s' H' fp j x o hx ho
  rw [e1] at hx ho
  obtain ⟨c,hc,mc,rfl⟩:=yI hx
  rw [List.getElem?_map,hc] at ho
  cases ho
  have z:=hN.az c mc
  have k1:(!decide ((⟨#[c]⟩:Str).cps.toList < (Str.ofString "a":Str).cps.toList))=true:=by
   show (!decide (([c]:List Nat) < [97]))=true
   rw [lt1,decide_eq_false (by omega)]; rfl
  have k2:(!decide ((Str.ofString "z":Str).cps.toList < (⟨#[c]⟩:Str).cps.toList))=true:=by
   show (!decide (([122]:List Nat) < [c]))=true
   rw [lt1,decide_eq_false (by omega)]; rfl
  rw [show (some (sg c)).isSome=((!decide ((⟨#[c]⟩:Str).cps.toList < (Str.ofString "a":Str).cps.toList)) && (!decide ((Str.ofString "z":Str).cps.toList < (⟨#[c]⟩:Str).cps.toList))) by rw [k1,k2]; rfl]
  exact (xt xM xM aL (aa 2 rfl) aL)
 case celt=>
  intro C s' H' fp j x y hx hy
  rw [e1] at hx hy
  obtain ⟨c,hc,mc,rfl⟩:=yI hx
  rw [List.getElem?_map,hc] at hy
  cases hy
  exact (aa 2 rfl)
 have hm:((((T' l).cps.toList.map fun c=> some (sg c)).filterMap id).length:Int)=(l.length:Int):=by rw [e1]; simp [List.filterMap_map]
 refine ae (bh (Tw.t (jZ (ay iO (aB (fF (by rw [hl]; exact Nat.le_of_lt (ap (by omega)))) rfl T.z_len PySem.boot_len (ac (aa 0 rfl) ak ag)) ai) (fun hz=> (jZ (ay lI (aB (fF (by rw [hl]; exact Nat.le_of_lt (ap (by omega)))) rfl T.z_len PySem.boot_len (ac (aa 0 rfl) ak ag)) (mU rfl T.g_MOST_LETTERS)) (fun hz=> (jj (ay iO (aB (dS rfl) rfl T.z_len PySem.boot_len (ac (aa 1 rfl) ak ag)) (aB (fF (by rw [hl]; exact Nat.le_of_lt (ap (by omega)))) rfl T.z_len PySem.boot_len (ac (aa 0 rfl) ak ag))))))))) (by rw [hm,hl,decide_eq_false (by omega),decide_eq_false (by omega),decide_eq_false (by omega)]; rfl) (ax (ax ?_)))
 exact rfl
end
section
variable {P:Program} {w:World} {K:PySem.W.Frag} {mg:Str→Option Value} {base:Heap}
theorem t3:∀ {l:List Int},l≠[]→∃ M,M∈l∧∀ a∈l,a≤M
 | [],h=> absurd rfl h
 | [a],_=> ⟨a,List.mem_cons_self,fun b hb=> by simp at hb; omega⟩
 | a::b::r,_=> by
  obtain ⟨M,h1,h2⟩:=t3 (l:=b::r) (by simp)
  by_cases h:a≤M
  ·exact ⟨M,List.mem_cons_of_mem _ h1,fun c hc=> by
    rcases List.mem_cons.mp hc with k | k
    ·rw [k]; exact h
    ·exact h2 c k⟩
  ·exact ⟨a,List.mem_cons_self,fun c hc=> by
    rcases List.mem_cons.mp hc with k | k
    ·rw [k]; exact Int.le_refl _
    ·have:=h2 c k; omega⟩
def xo:List U→Out→Prop:=fun us o=> ∃ l:List P2,us=[lp l]∧l≠[]∧l.length≤60∧(∀ p∈l,B60 p)∧o=.val .non
set_option maxHeartbeats 8000000 in
theorem nC (T:Txt w K mg):ba P w K mg base (CXF P w) 1 T.a_need_fit T.d_need_fit ["land"] (spU K (xo)):=by
 refine bx T.F_need_fit dv (fun us o h=> ?_) (fun cdv A outer s H E O us o hr h=> ?_)
 ·obtain ⟨l,rfl,hne,hl,hb,rfl⟩:=h
  rfl
 obtain ⟨l,rfl,hne,hl,hb,rfl⟩:=h
 refine Ws.nox ?_
 refine ae (aU (i:=1) dv.nd rfl (Or.inl rfl) (EvN.ev (sV (xs:=l.map fun p=> U.int p.1) (ys:=l.map fun p=> U.int p.2) ?eA ?eB (by rw [List.length_map,List.length_map]; exact Nat.le_of_lt (ap (by omega))))) ?_)
 case eA=>
  refine EvN.ev ?_
  refine (gx (ys:=(l.map fun (p:P2)=> U.int p.1)) rfl (blk (af bL) ["land","numbers","P","number"] [2] rfl rfl rfl rfl (by decide+kernel)) (dw (aa 0 rfl) (.inl rfl)) (fun _ _ _ _=> aJ (i:=2) dv.nd rfl (Or.inl rfl)) (db (by decide)) ?clen ?csz (fun _ _=> trivial) ?celt)
  case clen=> simp
  case csz=> rw [List.length_map]; exact Nat.le_of_lt (ap (by omega))
  case celt=>
   intro C s' H' fp j x y hx hy
   obtain ⟨p,hp,mp,rfl,rfl⟩:=cM hx hy
   exact (bm (aa 2 rfl) ai rfl rfl)
 case eB=>
  refine EvN.ev ?_
  refine (gx (ys:=(l.map fun (p:P2)=> U.int p.2)) rfl (blk (af bL) ["land","numbers","P","number"] [2] rfl rfl rfl rfl (by decide+kernel)) (dw (aa 0 rfl) (.inl rfl)) (fun _ _ _ _=> aJ (i:=2) dv.nd rfl (Or.inl rfl)) (db (by decide)) ?clen ?csz (fun _ _=> trivial) ?celt)
  case clen=> simp
  case csz=> rw [List.length_map]; exact Nat.le_of_lt (ap (by omega))
  case celt=>
   intro C s' H' fp j x y hx hy
   obtain ⟨p,hp,mp,rfl,rfl⟩:=cM hx hy
   exact (bm (aa 2 rfl) ai rfl rfl)
 have hcat:(l.map fun p=> U.int p.1)++(l.map fun p=> U.int p.2)=(l.map (·.1)++l.map (·.2)).map U.int:=by rw [List.map_append,List.map_map,List.map_map]; rfl
 rw [hcat]
 have hB:∀ n∈l.map (·.1)++l.map (·.2),n.natAbs < 10 ^ 60:=fun n hn=> by
  rcases List.mem_append.mp hn with k | k
  ·obtain ⟨p,hp,rfl⟩:=List.mem_map.mp k; exact (hb p hp).1
  ·obtain ⟨p,hp,rfl⟩:=List.mem_map.mp k; exact (hb p hp).2
 have hL:(l.map (·.1)++l.map (·.2)).length≤120:=by simp; omega
 have hn:l.map (·.1)++l.map (·.2)≠[]:=by simp [hne]
 generalize l.map (·.1)++l.map (·.2)=L at *
 obtain ⟨M,hM,hM2⟩:=t3 (l:=L.map fun n=> (n.natAbs:Int)) (by simp [hn])
 have hM3:M < 10 ^ 60:=by
  obtain ⟨n,hn,rfl⟩:=List.mem_map.mp hM
  have:=hB n hn
  exact_mod_cast this
 have hm:((l.map pu).length:Int)=(l.length:Int):=by rw [List.length_map]
 have e60:(10:Int) ^ (60:Int).toNat=10 ^ 60:=rfl
 refine ae (bh (Tw.t (jZ (ay lI (aB (dS rfl) rfl T.z_len PySem.boot_len (ac (aa 0 rfl) ak ag)) (mU rfl T.g_MOST_CORNERS)) (fun hz=> (jj (ay BC (aB (oN rfl (ns:=L.map fun n=> (n.natAbs:Int)) ⟨hM,hM2⟩) rfl T.z_max boot_max (ac (EvN.ev (gx (ys:=((L.map fun n=> (n.natAbs:Int)).map U.int)) rfl (blk (af bL) ["land","numbers","P","number"] [3] rfl rfl rfl rfl (by decide+kernel)) (dw (aa 1 rfl) (.inl rfl)) (fun _ _ _ _=> aJ (i:=3) dv.nd rfl (Or.inl rfl)) (db (by decide)) ?clen ?csz (fun _ _=> trivial) ?celt)) ak gM)) (gK ai ai ⟨by decide,by decide,by decide⟩)))))) (by rw [hm,decide_eq_false (show ¬ (l.length:Int) > 60 by omega),e60,decide_eq_false (show ¬ M ≥ 10 ^ 60 by omega)]; rfl) (ax (ax ?_)))
 case clen=> simp
 case csz=> rw [List.length_map]; exact Nat.le_of_lt (ap (by omega))
 case celt=>
  intro C s' H' fp j x y hx hy
  rw [List.map_map] at hy
  obtain ⟨n,hn,mn,rfl,rfl⟩:=cM hx hy
  show Ev _ _ _ _ _ (.int (n.natAbs:Int))
  rw [show (n.natAbs:Int)=(if n < 0 then -n else n) by split <;> omega]
  exact (aB AX rfl T.z_abs PyProof.Rows.boot_abs (ac (aa 3 rfl) ak ag))
 exact rfl
end
section
variable {P:Program} {w:World} {K:PySem.W.Frag} {mg:Str→Option Value} {base:Heap}
def qV:List U→Out→Prop:=fun us o=> (∃ pts:List P2,us=[sT cF,lp pts]∧(∀ p∈pts,Szp 5000 p)∧pts.length < 64∧pts≠[]∧o=.new ((aA pts).map pu))∨∃ (l:List P2) (k:Int),us=[sT eN,.lst [lp l,.int k]]∧Sz 1000 k∧(∀ p∈l,Szp 3000 p)∧l≠[]∧l.length < 64∧o=.new ((aA (l.map (scl k))).map pu)
set_option maxHeartbeats 8000000 in
theorem qe (T:Txt w K mg):ba P w K mg base (CXF P w) 6 T.a_made T.d_made ["deed","given"] (spU K (qV)):=by
 refine bx T.F_made w_ (by rintro us o (⟨_,rfl,_⟩ | ⟨_,_,rfl,_⟩) <;> rfl) (fun cdv A outer s H E O us o hr h=> ?_)
 refine Ws.nox ?_
 rcases h with ⟨pts,rfl,sz,hl,hne,rfl⟩ | ⟨l,k,rfl,sk,sz,hne,hl,rfl⟩
 ·refine ae (fZ (ay (dc (bK hr) (by walk_at "ok") (by walk_at "ok")) (aa 0 rfl) aL) (by decide+kernel) ?_)
  refine ae (gr (dF ((nt T).mono (by decide)) hr rfl T.m_field T.F_field.kp T.b_field ar (ac (aa 1 rfl) ak ag) ⟨pts,rfl,sz,hl,hne,rfl⟩) ?_)
  exact rfl
 ·refine ae (bh (ay (dc (bK hr) (by walk_at "ok") (by walk_at "ok")) (aa 0 rfl) aL) (by decide+kernel) (ax ?_))
  refine ae (bh (ay (dc (bK hr) (by walk_at "ok") (by walk_at "ok")) (aa 0 rfl) aL) (by decide+kernel) (ax ?_))
  refine ae (fZ (ay (dc (bK hr) (by walk_at "ok") (by walk_at "ok")) (aa 0 rfl) aL) (by decide+kernel) ?_)
  refine ae (gr (dF ((wJ T).mono (by decide)) hr rfl T.m_fold T.F_fold.kp T.b_fold ar (ac (bm (aa 1 rfl) ai rfl rfl) (ac (bm (aa 1 rfl) ai rfl rfl) ak bA) bA) ⟨l,k,rfl,sk,sz,hne,hl,rfl⟩) ?_)
  exact rfl
def d7 (l:List P2) (f:P2):List Nat:=ds (nrm l f)++32::ptD f
structure gH (l:List P2) (f:P2):Prop where
 run:∃ s,lW l f s
 sz:Szp 800 f
 w:(nrm l f).natAbs < 10 ^ 300
theorem mS {n:Int} (h:Sz 800 n):n.natAbs < 10 ^ 300:=Nat.lt_of_lt_of_le (show n.natAbs < 2 ^ 800 from (by unfold Sz at h; omega)) (by decide+kernel)
def pf:List U→Out→Prop:=fun us o=> ∃ (l:List P2) (f:P2),us=[lp l]∧gH l f∧o=.val (sT (d7 l f))
set_option maxHeartbeats 8000000 in
theorem mr (T:Txt w K mg):ba P w K mg base (CXF P w) 7 T.a_show_thin T.d_show_thin ["land"] (spU K (pf)):=by
 refine bx T.F_show_thin g9 (fun us o h=> ?_) (fun cdv A outer s H E O us o hr h=> ?_)
 ·obtain ⟨l,f,rfl,⟨⟨s,hrun⟩,sf,hw⟩,rfl⟩:=h
  rfl
 obtain ⟨l,f,rfl,⟨⟨s,hrun⟩,sf,hw⟩,rfl⟩:=h
 refine Ws.nox ?_
 have hp1:=mS sf.1
 have hp2:=mS sf.2
 have l0:(ds (nrm l f)).length≤301:=bV (by decide) hw
 have l1:(ds f.1).length≤301:=bV (by decide) hp1
 have l2:(ds f.2).length≤301:=bV (by decide) hp2
 have lc:(Str.ofString " ":Str).length=1:=rfl
 have l3:(ptD f).length≤603:=by unfold ptD; simp; omega
 refine ae (aU (i:=1) g9.nd rfl (Or.inl rfl) (bm (av ((wf T).mono (by decide)) hr rfl T.m_thin T.F_thin.kp T.b_thin ar (ac (aa 0 rfl) ak ag) ⟨l,f,s,rfl,hrun,rfl⟩) ai rfl rfl) ?_)
 refine ae (bo (gl (gl (av ((dI T).mono (by decide)) hr rfl T.m_show_number T.F_show_number.kp T.b_show_number ar (ac (av ((cL T).mono (by decide)) hr rfl T.m_span_along T.F_span_along.kp T.b_span_along ar (ac (aa 0 rfl) (ac (aa 1 rfl) ak ag) ag) ⟨l,f,rfl,hrun.ok,⟨sf.1.mono (by decide),sf.2.mono (by decide)⟩,rfl⟩) ak bY) ⟨nrm l f,rfl,hw,rfl⟩) aL (by rw [lc,bi]; exact Nat.le_of_lt (ap (by omega)))) (av ((j0 T).mono (by decide)) hr rfl T.m_show_point T.F_show_point.kp T.b_show_point ar (ac (aa 1 rfl) ak ag) ⟨f,rfl,hp1,hp2,rfl⟩) (by rw [kW,lc,bi,bi]; exact Nat.le_of_lt (ap (by omega)))) ?_)
 rw [show (Str.ofString " ":Str)=T' [32] from rfl,gh,gh]
 refine congrArg (fun z=> Out.val (.str (T' z))) ?_
 unfold d7
 simp
def ug:List U→Out→Prop:=fun us o=> ∃ (l:List P2) (f:P2),us=[sT fD,.lst [lp l]]∧gH l f∧o=.val (sT (d7 l f))
set_option maxHeartbeats 8000000 in
theorem ro (T:Txt w K mg):ba P w K mg base (CXF P w) 8 T.a_answer T.d_answer ["deed","given"] (spU K (ug)):=by
 refine bx T.F_answer rM (fun us o h=> ?_) (fun cdv A outer s H E O us o hr h=> ?_)
 ·obtain ⟨l,f,rfl,ha,rfl⟩:=h
  rfl
 obtain ⟨l,f,rfl,ha,rfl⟩:=h
 refine Ws.nox ?_
 refine ae (bh (ay (dc (bK hr) (by walk_at "ok") (by walk_at "ok")) (aa 0 rfl) aL) (by decide+kernel) (ax ?_))
 refine ae (bh (ay (dc (bK hr) (by walk_at "ok") (by walk_at "ok")) (aa 0 rfl) aL) (by decide+kernel) (ax ?_))
 refine ae (bh (ay (dc (bK hr) (by walk_at "ok") (by walk_at "ok")) (aa 0 rfl) aL) (by decide+kernel) (ax ?_))
 refine ae (bh (ay (dc (bK hr) (by walk_at "ok") (by walk_at "ok")) (aa 0 rfl) aL) (by decide+kernel) (ax ?_))
 refine ae (fZ (ay (dc (bK hr) (by walk_at "ok") (by walk_at "ok")) (aa 0 rfl) aL) (by decide+kernel) ?_)
 refine ae (bo (av ((mr T).mono (by decide)) hr rfl T.m_show_thin T.F_show_thin.kp T.b_show_thin ar (ac (bm (aa 1 rfl) ai rfl rfl) ak bA) ⟨l,f,rfl,ha,rfl⟩) ?_)
 exact rfl
end
section
variable {P:Program} {w:World} {K:PySem.W.Frag} {mg:Str→Option Value} {base:Heap}
inductive Rd (kvs:List (Str×U)):Str→Str→U→Prop
 | new (l:List Nat):Nm l→Rd kvs e_ (T' l) (sT l)
 | one (n:Str) (u:U):L2.valU kvs n=some u→Rd kvs lQ n u
 | pnt (p:P2):B60 p→Rd kvs kP (T' (ptD p)) (pu p)
 | num (k:Int):k.natAbs < 10 ^ 60→Rd kvs kK (T' (ds k)) (.int k)
def rZ:Addr→List (Str×U)→List U→Out→Prop:=fun _ kvs us o=> ∃ kind word u,us=[.str kind,.str word]∧Rd kvs kind word u∧o=.val u
set_option maxHeartbeats 8000000 in
theorem cn (T:Txt w K mg):ba P w K mg base (CXF P w) 4 T.a_Desk_read T.d_Desk_read ["self","kind","word"] (spD K false T.c_Desk (rZ)):=by
 refine hV T.F_Desk_read mq (fun d kvs us o h=> ?_) (fun cdv A outer s H H1 E O a d kvs us o hr h=> ?_)
 ·obtain ⟨kind,word,u,rfl,hR,rfl⟩:=h
  rfl
 obtain ⟨kind,word,u,rfl,hR,rfl⟩:=h
 refine Ws.nox ?_
 have ho:=fun (X:Cx)=> @hJ X
 cases hR with
 | new l hN=>
  refine ae (fZ (ay (dc (bK hr) (by walk_at "ok") (by walk_at "ok")) (aa 1 rfl) aL) (by decide+kernel) ?_)
  refine ae (k_ (av ((mt T).mono (by decide)) hr rfl T.m_need_name T.F_need_name.kp T.b_need_name ar (ac (aa 2 rfl) ak ag) ⟨l,rfl,hN,rfl⟩) ?_)
  refine ae (bo (aa 2 rfl) ?_)
  exact rfl
 | one n u hv=>
  refine ae (bh (ay (dc (bK hr) (by walk_at "ok") (by walk_at "ok")) (aa 1 rfl) aL) (by decide+kernel) (ax ?_))
  refine ae (fZ (ay (wY rfl rfl rfl) (aa 1 rfl) (cD (aG aL (aG aL ca aM) aM))) (by decide+kernel) ?_)
  refine ae (bh (yR (i:=0) rfl (hJ (i:=0) rfl T.cl_Desk T.na_Desk) (aa 2 rfl) (bK hr)) (by rw [hv]; rfl) (ax ?_))
  refine ae (bo (yU (i:=0) rfl (hJ (i:=0) rfl T.cl_Desk T.na_Desk) (aa 2 rfl) (bK hr) hv) ?_)
  exact rfl
 | pnt p hb=>
  refine ae (bh (ay (dc (bK hr) (by walk_at "ok") (by walk_at "ok")) (aa 1 rfl) aL) (by decide+kernel) (ax ?_))
  refine ae (bh (ay (wY rfl rfl rfl) (aa 1 rfl) (cD (aG aL (aG aL ca aM) aM))) (by decide+kernel) (ax ?_))
  refine ae (fZ (ay (dc (bK hr) (by walk_at "ok") (by walk_at "ok")) (aa 1 rfl) aL) (by decide+kernel) ?_)
  refine ae (bo (av ((j_ T).mono (by decide)) hr rfl T.m_read_point T.F_read_point.kp T.b_read_point ar (ac (aa 2 rfl) ak ag) ⟨p,rfl,hb,rfl⟩) ?_)
  exact rfl
 | num k hk=>
  have hl:(ds k).length≤61:=bV (by decide) hk
  refine ae (bh (ay (dc (bK hr) (by walk_at "ok") (by walk_at "ok")) (aa 1 rfl) aL) (by decide+kernel) (ax ?_))
  refine ae (bh (ay (wY rfl rfl rfl) (aa 1 rfl) (cD (aG aL (aG aL ca aM) aM))) (by decide+kernel) (ax ?_))
  refine ae (bh (ay (dc (bK hr) (by walk_at "ok") (by walk_at "ok")) (aa 1 rfl) aL) (by decide+kernel) (ax ?_))
  refine ae (bo (av ((dL T).mono (by decide)) hr rfl T.m_read_number T.F_read_number.kp T.b_read_number ar (ac (aa 2 rfl) ak ag) ⟨ds k,rfl,by omega,uV hk,rfl⟩) ?_)
  rw [lH]
def qX:Addr→List (Str×U)→List U→Out→Prop:=fun d kvs us o=> ∃ (n:Str) (l:List P2),us=[.str n,lp l]∧l≠[]∧l.length≤60∧(∀ p∈l,B60 p)∧kvs.length < 1000∧o=.dsk d (.str "ok") (j7 kvs n (lp l))
set_option maxHeartbeats 8000000 in
theorem gD (T:Txt w K mg):ba P w K mg base (CXF P w) 2 T.a_Desk_keep T.d_Desk_keep ["self","name","land"] (spD K true T.c_Desk (qX)):=by
 refine hV T.F_Desk_keep ly (fun d kvs us o h=> ?_) (fun cdv A outer s H H1 E O a d kvs us o hr h=> ?_)
 ·obtain ⟨n,l,rfl,hne,hl,hb,hk,rfl⟩:=h
  rfl
 obtain ⟨n,l,rfl,hne,hl,hb,hk,rfl⟩:=h
 refine Ws.nox ?_
 refine ae (k_ (av ((nC T).mono (by decide)) hr rfl T.m_need_fit T.F_need_fit.kp T.b_need_fit ar (ac (aa 2 rfl) ak ag) ⟨l,rfl,hne,hl,hb,rfl⟩) ?_)
 refine ae (yX (i:=0) rfl (hJ (i:=0) rfl T.cl_Desk T.na_Desk) (aa 1 rfl) (aa 2 rfl) (bK hr) (ap (by omega)) ?_)
 refine ae (zQ (i:=0) rfl aL ?_)
 exact rfl
end
section
variable {P:Program} {w:World} {K:PySem.W.Frag} {mg:Str→Option Value} {base:Heap}
theorem du (a:U) (r:List U):oE (a::r) (some 1) none=r:=by
 unfold oE
 rw [show HT.sIx (a::r).length 0 (some 1)=1 by unfold HT.sIx; simp,HT.sIx_none,List.drop_one,List.tail_cons,List.take_of_length_le (by simp)]
theorem qj {ws:List (List Nat)} (h:∀ w∈ws,w.length≤123) (hl:ws.length≤62):(jn ws).length≤8200:=by
 have:=tw ws h
 have:ws.length * (123+1)≤62 * 124:=Nat.mul_le_mul_right _ hl
 omega
def rT:Addr→List (Str×U)→List U→Out→Prop:=fun _ kvs us o=> ∃ (nm:List Nat) (l:List P2) (f:P2),us=[sT (jn [fD,nm])]∧Nm nm∧L2.valU kvs (T' nm)=some (lp l)∧gH l f∧o=.val (sT (d7 l f))
set_option maxHeartbeats 8000000 in
theorem qH (T:Txt w K mg):ba P w K mg base (CXF P w) 9 T.a_Desk_say T.d_Desk_say ["self","row"] (spD K false T.c_Desk (rT)):=by
 refine hV T.F_Desk_say aN (fun d kvs us o h=> ?_) (fun cdv A outer s H H1 E O a d kvs us o hr h=> ?_)
 ·obtain ⟨nm,l,f,rfl,hN,hv,ha,rfl⟩:=h
  rfl
 obtain ⟨nm,l,f,rfl,hN,hv,ha,rfl⟩:=h
 refine Ws.nox ?_
 have h8:=hN.h8
 have hfree:∀ x∈[fD,nm],32 ∉ x:=fun x hx=> by
  simp only [List.mem_cons,List.not_mem_nil,or_false] at hx
  rcases hx with rfl | rfl
  ·decide
  ·exact hN.free
 have hlen:∀ w∈[fD,nm],w.length≤123:=fun x hx=> by
  simp only [List.mem_cons,List.not_mem_nil,or_false] at hx
  rcases hx with rfl | rfl
  ·decide
  ·omega
 refine ae (aU (i:=2) aN.nd rfl (Or.inl rfl) (av ((eV T).mono (by decide)) hr rfl T.m_row_words T.F_row_words.kp T.b_row_words ar (ac (aa 1 rfl) ak ag) ⟨fD,[nm],rfl,hfree,qj hlen (by simp),by decide+kernel,rfl⟩) ?_)
 refine ae (aU (i:=3) aN.nd rfl (Or.inl rfl) (av ((iz T).mono (by decide)) hr rfl T.m_wanted T.F_wanted.kp T.b_wanted ar (ac (aa 2 rfl) ak ag) (.inl ⟨fD,[nm],[lQ],rfl,zN,rfl,rfl⟩)) ?_)
 show Ws _ _ _ _ _ _ [some (.dsk false T.c_Desk a d kvs),some (.val (sT (jn [fD,nm]))),some (.val (.lst [sT fD,sT nm])),some (.val (.lst [.str lQ])),none,none,none]
 refine ae (gu (ys:=[lp l]) (j:=4) false rfl aN.nd rfl (Or.inl rfl) (blk (af bM) ["self","row","words","kinds","given","kind","word"] [5,6] rfl rfl rfl rfl (by decide+kernel)) (oH rfl T.z_zip (aa 3 rfl) (.inl rfl) (EvN.ev (eY (aa 2 rfl) (d6 ai) dX (.inl rfl))) (.inl rfl) ?l12 ag bA) (fun _ _ _ _=> fE rfl (aS (aJ (i:=5) aN.nd rfl (Or.inl rfl)) (aS (aJ (i:=6) aN.nd rfl (Or.inl rfl)) dk))) (eR (js:=[5,6]) (by decide)) ?clen ?csz ?dom ?celt ?_)
 case l12=> rw [du]; rfl
 case clen=> rw [du]; rfl
 case csz=> rw [du]; exact Nat.le_of_lt (ap (by simp [dz]))
 case dom=>
  rw [du]
  intro x hx
  simp only [dz,List.mem_cons,List.not_mem_nil,or_false] at hx
  rw [hx]
  exact ⟨_,rfl,rfl⟩
 case celt=>
  rw [du]
  intro C s' H' fp j x y hx hy
  have hj:j=0:=by
   cases j with
   | zero=> rfl
   | succ j=> simp at hy
  subst hj
  cases hx
  cases hy
  exact il (i:=0) rfl T.cl_Desk T.m_Desk_read ((cn T).mono (by decide)) hr T.b_Desk_read ar (ac (aa 5 rfl) (ac (aa 6 rfl) ak ag) ag) ⟨lQ,T' nm,lp l,rfl,.one _ _ hv,rfl⟩
 refine ae (bh (ay (dc (bK hr) (by walk_at "ok") (by walk_at "ok")) (bm (aa 2 rfl) ai rfl rfl) aL) (by decide+kernel) (ax ?_))
 refine ae (bh (ay (dc (bK hr) (by walk_at "ok") (by walk_at "ok")) (bm (aa 2 rfl) ai rfl rfl) aL) (by decide+kernel) (ax ?_))
 refine ae (bh (ay (dc (bK hr) (by walk_at "ok") (by walk_at "ok")) (bm (aa 3 rfl) ai rfl rfl) aL) (by decide+kernel) (ax ?_))
 refine ae (bo (av ((ro T).mono (by decide)) hr rfl T.m_answer T.F_answer.kp T.b_answer ar (ac (bm (aa 2 rfl) ai rfl rfl) (ac (aa 4 rfl) ak ag) bA) ⟨l,f,rfl,ha,rfl⟩) ?_)
 exact rfl
end
section
variable {P:Program} {w:World} {K:PySem.W.Frag} {mg:Str→Option Value} {base:Heap}
def rn:Addr→List (Str×U)→List U→Out→Prop:=fun d kvs us o=> ∃ (x y:List Nat) (new:U),us=[sT x]∧kvs.length < 1000∧o=.dsk d (.str "ok") (j7 kvs (T' y) new)∧
 ((∃ pts:List P2,x=jn (cF::y::pts.map ptD)∧Nm y∧pts≠[]∧pts.length≤60∧(∀ p∈pts,B60 p)∧(∀ p∈pts,Szp 5000 p)∧new=lp (aA pts))∨
  ∃ (nm:List Nat) (l:List P2) (k:Int),x=jn [eN,y,nm,ds k]∧Nm y∧Nm nm∧L2.valU kvs (T' nm)=some (lp l)∧k.natAbs < 10 ^ 60∧Sz 1000 k∧(∀ p∈l,Szp 3000 p)∧l≠[]∧l.length≤60∧(∀ p∈aA (l.map (scl k)),B60 p)∧new=lp (aA (l.map (scl k))))
set_option maxHeartbeats 8000000 in
theorem pG (T:Txt w K mg):ba P w K mg base (CXF P w) 9 T.a_Desk_say T.d_Desk_say ["self","row"] (spD K true T.c_Desk rn):=by
 refine hV T.F_Desk_say aN (fun d kvs us o h=> ?_) (fun cdv A outer s H H1 E O a d kvs us o hr h=> ?_)
 ·obtain ⟨x,y,new,rfl,_⟩:=h
  rfl
 obtain ⟨x,y,new,rfl,hk,rfl,⟨pts,rfl,hN,hne,hl,hb,hz,rfl⟩ | ⟨nm,l,k,rfl,hN,hN2,hv,hk2,sk,hz,hne,hl,hb,rfl⟩⟩:=h
 ·
  refine Ws.nox ?_
  have h8:=hN.h8
  have hmem:∀ x∈cF::y::pts.map ptD,x=cF∨x=y∨∃ p∈pts,x=ptD p:=fun x hx=> by
   simp only [List.mem_cons,List.mem_map] at hx
   rcases hx with h | h | ⟨p,hp,rfl⟩
   ·exact .inl h
   ·exact .inr (.inl h)
   ·exact .inr (.inr ⟨p,hp,rfl⟩)
  have hfree:∀ x∈cF::y::pts.map ptD,32 ∉ x:=fun x hx=> by
   rcases hmem x hx with rfl | rfl | ⟨p,hp,rfl⟩
   ·decide
   ·exact hN.free
   ·exact tG p
  have hlen:∀ x∈cF::y::pts.map ptD,x.length≤123:=fun x hx=> by
   rcases hmem x hx with rfl | rfl | ⟨p,hp,rfl⟩
   ·decide
   ·omega
   ·exact jb (hb p hp)
  have hpos:0 < pts.length:=List.length_pos_iff.mpr hne
  have lw:(y::pts.map ptD).length=pts.length+1:=by simp
  refine ae (aU (i:=2) aN.nd rfl (Or.inl rfl) (av ((eV T).mono (by decide)) hr rfl T.m_row_words T.F_row_words.kp T.b_row_words ar (ac (aa 1 rfl) ak ag) ⟨cF,y::pts.map ptD,rfl,hfree,qj hlen (by simp; omega),by decide+kernel,rfl⟩) ?_)
  refine ae (aU (i:=3) aN.nd rfl (Or.inl rfl) (av ((iz T).mono (by decide)) hr rfl T.m_wanted T.F_wanted.kp T.b_wanted ar (ac (aa 2 rfl) ak ag) (.inr ⟨y::pts.map ptD,rfl,by omega,by omega,rfl⟩)) ?_)
  rw [show (y::pts.map ptD).length - 1=pts.length by omega]
  show Ws _ _ _ _ _ _ [some (.dsk true T.c_Desk a d kvs),some (.val (sT (jn (cF::y::pts.map ptD)))),some (.val (.lst (sT cF::(y::pts.map ptD).map sT))),some (.val (.lst (.str e_::List.replicate pts.length (.str kP)))),none,none,none]
  have hz2:(dz (.str e_::List.replicate pts.length (.str kP)) ((y::pts.map ptD).map sT))=.tup [.str e_,sT y]::pts.map fun p=> .tup [.str kP,sT (ptD p)]:=by
   have:∀ q:List P2,dz (List.replicate q.length (U.str kP)) ((q.map ptD).map sT)=q.map fun p=> .tup [.str kP,sT (ptD p)]:=fun q=> by
    induction q with
    | nil=> rfl
    | cons p q ih=> rw [List.length_cons,List.replicate_succ,List.map_cons,List.map_cons,dz,ih,List.map_cons]
   rw [List.map_cons,dz,this]
  refine ae (gu (ys:=sT y::pts.map pu) (j:=4) false rfl aN.nd rfl (Or.inl rfl) (blk (af bM) ["self","row","words","kinds","given","kind","word"] [5,6] rfl rfl rfl rfl (by decide+kernel)) (oH rfl T.z_zip (aa 3 rfl) (.inl rfl) (EvN.ev (eY (aa 2 rfl) (d6 ai) dX (.inl rfl))) (.inl rfl) ?l12 ag bA) (fun _ _ _ _=> fE rfl (aS (aJ (i:=5) aN.nd rfl (Or.inl rfl)) (aS (aJ (i:=6) aN.nd rfl (Or.inl rfl)) dk))) (eR (js:=[5,6]) (by decide)) ?clen ?csz ?dom ?celt ?_)
  case l12=> rw [du]; simp
  case clen=> rw [du,hz2]; simp
  case csz=> rw [du,hz2]; exact Nat.le_of_lt (ap (by simp; omega))
  case dom=>
   rw [du,hz2]
   intro x hx
   simp only [List.mem_cons,List.mem_map] at hx
   rcases hx with rfl | ⟨p,hp,rfl⟩
   ·exact ⟨_,rfl,rfl⟩
   ·exact ⟨_,rfl,rfl⟩
  case celt=>
   rw [du,hz2]
   intro C s' H' fp j x y' hx hy
   cases j with
   | zero=>
    cases hx
    cases hy
    exact il (i:=0) rfl T.cl_Desk T.m_Desk_read ((cn T).mono (by decide)) hr T.b_Desk_read ar (ac (aa 5 rfl) (ac (aa 6 rfl) ak ag) ag) ⟨e_,T' y,sT y,rfl,.new _ hN,rfl⟩
   | succ j=>
    rw [List.getElem?_cons_succ] at hx hy
    obtain ⟨p,hp,mp,rfl,rfl⟩:=cM hx hy
    exact il (i:=0) rfl T.cl_Desk T.m_Desk_read ((cn T).mono (by decide)) hr T.b_Desk_read ar (ac (aa 5 rfl) (ac (aa 6 rfl) ak ag) ag) ⟨kP,T' (ptD p),pu p,rfl,.pnt _ (hb p mp),rfl⟩
  refine ae (bh (ay (dc (bK hr) (by walk_at "ok") (by walk_at "ok")) (bm (aa 2 rfl) ai rfl (dM (i:=0) rfl rfl)) aL) (by decide+kernel) (ax ?_))
  refine ae (bh (ay (dc (bK hr) (by walk_at "ok") (by walk_at "ok")) (bm (aa 2 rfl) ai rfl (dM (i:=0) rfl rfl)) aL) (by decide+kernel) (ax ?_))
  refine ae (fZ (ay (dc (bK hr) (by walk_at "ok") (by walk_at "ok")) (bm (aa 3 rfl) ai rfl (dM (i:=0) rfl rfl)) aL) (by decide+kernel) ?_)
  have cl:=iY pts
  refine ae (qi (i:=0) rfl (lZ (i:=0) rfl T.cl_Desk T.m_Desk_keep ((gD T).mono (by decide)) hr T.b_Desk_keep ar (ac (bm (aa 2 rfl) ai rfl (dM (i:=1) rfl rfl)) (ac (EvN.ev (dF ((qe T).mono (by decide)) hr rfl T.m_made T.F_made.kp T.b_made ar (ac (bm (aa 2 rfl) ai rfl (dM (i:=0) rfl rfl)) (ac (EvN.ev (eY (aa 4 rfl) (d6 ai) dX (.inl rfl))) ak bA) bA) (.inl ⟨pts,by rw [du],hz,by omega,hne,rfl⟩))) ak bY) bA) ⟨T' y,aA pts,rfl,iV hne,by omega,fun p hp=> hb p (cI _ p hp),hk,rfl⟩) ?_)
  exact rfl
 ·refine Ws.nox ?_
  have h8:=hN.h8
  have h82:=hN2.h8
  have lk:(ds k).length≤61:=bV (by decide) hk2
  have hmem:∀ x∈[eN,y,nm,ds k],x=eN∨x=y∨x=nm∨x=ds k:=fun x hx=> by simpa using hx
  have hfree:∀ x∈[eN,y,nm,ds k],32 ∉ x:=fun x hx=> by
   rcases hmem x hx with rfl | rfl | rfl | rfl
   ·decide
   ·exact hN.free
   ·exact hN2.free
   ·exact dl k (by omega)
  have hlen:∀ x∈[eN,y,nm,ds k],x.length≤123:=fun x hx=> by
   rcases hmem x hx with rfl | rfl | rfl | rfl
   ·decide
   ·omega
   ·omega
   ·omega
  refine ae (aU (i:=2) aN.nd rfl (Or.inl rfl) (av ((eV T).mono (by decide)) hr rfl T.m_row_words T.F_row_words.kp T.b_row_words ar (ac (aa 1 rfl) ak ag) ⟨eN,[y,nm,ds k],rfl,hfree,qj hlen (by simp),by decide+kernel,rfl⟩) ?_)
  refine ae (aU (i:=3) aN.nd rfl (Or.inl rfl) (av ((iz T).mono (by decide)) hr rfl T.m_wanted T.F_wanted.kp T.b_wanted ar (ac (aa 2 rfl) ak ag) (.inl ⟨eN,[y,nm,ds k],[e_,lQ,kK],rfl,zb,rfl,rfl⟩)) ?_)
  show Ws _ _ _ _ _ _ [some (.dsk true T.c_Desk a d kvs),some (.val (sT (jn [eN,y,nm,ds k]))),some (.val (.lst [sT eN,sT y,sT nm,sT (ds k)])),some (.val (.lst [.str e_,.str lQ,.str kK])),none,none,none]
  refine ae (gu (ys:=[sT y,lp l,.int k]) (j:=4) false rfl aN.nd rfl (Or.inl rfl) (blk (af bM) ["self","row","words","kinds","given","kind","word"] [5,6] rfl rfl rfl rfl (by decide+kernel)) (oH rfl T.z_zip (aa 3 rfl) (.inl rfl) (EvN.ev (eY (aa 2 rfl) (d6 ai) dX (.inl rfl))) (.inl rfl) ?l12 ag bA) (fun _ _ _ _=> fE rfl (aS (aJ (i:=5) aN.nd rfl (Or.inl rfl)) (aS (aJ (i:=6) aN.nd rfl (Or.inl rfl)) dk))) (eR (js:=[5,6]) (by decide)) ?clen ?csz ?dom ?celt ?_)
  case l12=> rw [du]; rfl
  case clen=> rw [du]; rfl
  case csz=> rw [du]; exact Nat.le_of_lt (ap (by simp [dz]))
  case dom=>
   rw [du]
   intro x hx
   simp only [dz,List.mem_cons,List.not_mem_nil,or_false] at hx
   rcases hx with rfl | rfl | rfl <;> exact ⟨_,rfl,rfl⟩
  case celt=>
   rw [du]
   intro C s' H' fp j x y' hx hy
   match j,hx,hy with
   | 0,hx,hy=>
    cases hx
    cases hy
    exact il (i:=0) rfl T.cl_Desk T.m_Desk_read ((cn T).mono (by decide)) hr T.b_Desk_read ar (ac (aa 5 rfl) (ac (aa 6 rfl) ak ag) ag) ⟨e_,T' y,sT y,rfl,.new _ hN,rfl⟩
   | 1,hx,hy=>
    cases hx
    cases hy
    exact il (i:=0) rfl T.cl_Desk T.m_Desk_read ((cn T).mono (by decide)) hr T.b_Desk_read ar (ac (aa 5 rfl) (ac (aa 6 rfl) ak ag) ag) ⟨lQ,T' nm,lp l,rfl,.one _ _ hv,rfl⟩
   | 2,hx,hy=>
    cases hx
    cases hy
    exact il (i:=0) rfl T.cl_Desk T.m_Desk_read ((cn T).mono (by decide)) hr T.b_Desk_read ar (ac (aa 5 rfl) (ac (aa 6 rfl) ak ag) ag) ⟨kK,T' (ds k),.int k,rfl,.num _ hk2,rfl⟩
   | j+3,hx,hy=> simp at hy
  refine ae (bh (ay (dc (bK hr) (by walk_at "ok") (by walk_at "ok")) (bm (aa 2 rfl) ai rfl rfl) aL) (by decide+kernel) (ax ?_))
  refine ae (bh (ay (dc (bK hr) (by walk_at "ok") (by walk_at "ok")) (bm (aa 2 rfl) ai rfl rfl) aL) (by decide+kernel) (ax ?_))
  refine ae (fZ (ay (dc (bK hr) (by walk_at "ok") (by walk_at "ok")) (bm (aa 3 rfl) ai rfl rfl) aL) (by decide+kernel) ?_)
  have cl:=iY (l.map (scl k))
  rw [List.length_map] at cl
  refine ae (qi (i:=0) rfl (lZ (i:=0) rfl T.cl_Desk T.m_Desk_keep ((gD T).mono (by decide)) hr T.b_Desk_keep ar (ac (bm (aa 2 rfl) ai rfl rfl) (ac (EvN.ev (dF ((qe T).mono (by decide)) hr rfl T.m_made T.F_made.kp T.b_made ar (ac (bm (aa 2 rfl) ai rfl rfl) (ac (EvN.ev (eY (aa 4 rfl) (d6 ai) dX (.inl rfl))) ak bA) bA) (.inr ⟨l,k,by rw [du],sk,hz,hne,by omega,rfl⟩))) ak bY) bA) ⟨T' y,aA (l.map (scl k)),rfl,iV (by simpa using hne),by omega,hb,hk,rfl⟩) ?_)
  exact rfl
set_option maxHeartbeats 8000000 in
theorem xh (T:Txt w K mg):ba P w K mg base (CXF P w) 1 T.a_Desk_init T.d_Desk_init ["self"] (spI T.c_Desk):=
 xD T.F_Desk_init kU rfl rfl rfl T.cl_Desk T.na_Desk rfl
end
section
variable {P:Program} {w:World} {K:PySem.W.Frag} {mg:Str→Option Value} {base:Heap}
def cel (ns:List Int) (k:Int):Int:=if k < (ns.length:Int) then ns.getD k.toNat 0 else 7 * k * k+3 * k+1
theorem fI {ns:List Int} (h:∀ m∈ns,Sz 1048576 m) {k:Int} (h0:0≤k) (h1:k < 1000):Sz 1048576 (cel ns k):=by
 unfold cel
 split
 ·exact xm h _
 ·refine Sz.mono (m:=100) ?_ (by decide)
  have:7 * k * k≤7 * 1000 * 1000:=by
   have:k * k≤1000 * 1000:=Int.mul_le_mul (by omega) (by omega) h0 (by omega)
   rw [Int.mul_assoc]; omega
  have h2:0≤7 * k * k:=Int.mul_nonneg (by omega) h0
  unfold Sz; omega
def rL:List U→Out→Prop:=fun us o=> ∃ (ns:List Int) (k:Int),us=[.scr (ns.map U.int),.int k]∧ns.length≤63∧0≤k∧k < 1000∧o=.val (.int (cel ns k))
set_option maxHeartbeats 8000000 in
theorem bB (T:Txt w K mg):ba P w K mg base (CXF P w) 1 T.a__law_cell T.d__law_cell ["script","k"] (spU K (rL)):=by
 refine bx T.F__law_cell l_ (fun us o h=> ?_) (fun cdv A outer s H E O us o hr h=> ?_)
 ·obtain ⟨ns,k,rfl,hl,h0,h1,rfl⟩:=h
  rfl
 obtain ⟨ns,k,rfl,hl,h0,h1,rfl⟩:=h
 refine Ws.nox ?_
 have sk:Sz 64 k:=by unfold Sz; omega
 have hm:((ns.map U.int).length:Int)=(ns.length:Int):=by rw [List.length_map]
 refine ae (jo (ay iO (aa 1 rfl) (aB (dS rfl) rfl T.z_len PySem.boot_len (ac (aa 0 rfl) ak ag))) (fun hT=> ?_) (fun hF=> (ax ?_)))
 ·rw [hm] at hT
  have hk:=dTb hT
  refine ae (bo (bm (aa 0 rfl) (aa 1 rfl) rfl (vJ h0 hk)) ?_)
  exact vIO (by unfold cel; rw [if_pos hk])
 ·rw [hm] at hF
  have hk:=dFb hF
  refine ae (bo (dg (dg (bj (bj ai (aa 1 rfl) (by walk_at "mul")) (aa 1 rfl) (by walk_at "mul")) (bj ai (aa 1 rfl) (by walk_at "mul"))) ai) ?_)
  exact vIO (by unfold cel; rw [if_neg hk])
theorem Br {m:Nat} {x y:Int} (h:0≤y) (sy:Sz m y):Sz m (x % (2 * y+1) - y):=by
 have h1:=Int.emod_nonneg x (show 2 * y+1≠0 by omega)
 have h2:=Int.emod_lt_of_pos x (show 0 < 2 * y+1 by omega)
 generalize x % (2 * y+1)=z at *
 refine Sz.le ?_ sy
 omega
def tM (c f:Int):Int:=c * f % (2 * 10 ^ (6:Int).toNat+1) - 10 ^ (6:Int).toNat
theorem pC (c f:Int):Sz 21 (tM c f):=by
 have e:(10:Int) ^ (6:Int).toNat=1000000:=by decide+kernel
 unfold tM Sz
 rw [e]
 generalize c * f=z
 omega
def wj (m n q:Int):List U:=if q % 2=1 then [.int m,.int (1+m * n),.int 1,.int n] else [.int (1+m * n),.int m,.int n,.int 1]
def ud (ns:List Int):List U:=wj (tM (cel ns 1) 48271) (tM (cel ns 2) 16807) (cel ns 3)
structure Tb4 (a b c d:Int):Prop where
 sa:Sz 50 a
 sb:Sz 50 b
 sc:Sz 50 c
 sd:Sz 50 d
theorem yM (ns:List Int):∃ a b c d:Int,ud ns=[.int a,.int b,.int c,.int d]∧Tb4 a b c d:=by
 have m:=pC (cel ns 1) 48271
 have n:=pC (cel ns 2) 16807
 have o:Sz 8 1:=by decide
 have mn:Sz 50 (1+tM (cel ns 1) 48271 * tM (cel ns 2) 16807):=(L2.Sz.add' o (L2.Sz.mul m n)).mono (by decide)
 unfold ud wj
 split
 ·exact ⟨_,_,_,_,rfl,m.mono (by decide),mn,o.mono (by decide),n.mono (by decide)⟩
 ·exact ⟨_,_,_,_,rfl,mn,m.mono (by decide),n.mono (by decide),o.mono (by decide)⟩
def uE:List U→Out→Prop:=fun us o=> ∃ (ns:List Int) (a b c d:Int),us=[.scr (ns.map U.int)]∧ns.length≤63∧(∀ m∈ns,Sz 1048576 m)∧ud ns=[.int a,.int b,.int c,.int d]∧o=.new [.int a,.int b,.int c,.int d]
set_option maxHeartbeats 8000000 in
theorem gf (T:Txt w K mg):ba P w K mg base (CXF P w) 2 T.a__law_table T.d__law_table ["script"] (spU K (uE)):=by
 refine bx T.F__law_table dY (fun us o h=> ?_) (fun cdv A outer s H E O us o hr h=> ?_)
 ·obtain ⟨ns,a,b,c,d,rfl,hl,hB,he,rfl⟩:=h
  rfl
 obtain ⟨ns,a,b,c,d,rfl,hl,hB,he,rfl⟩:=h
 refine Ws.nox ?_
 have c1:=fI hB (k:=1) (by decide) (by decide)
 have c2:=fI hB (k:=2) (by decide) (by decide)
 have c3:=fI hB (k:=3) (by decide) (by decide)
 refine ae (aU (i:=1) dY.nd rfl (Or.inl rfl) (cH (eC (bj (av ((bB T).mono (by decide)) hr rfl T.m__law_cell T.F__law_cell.kp T.b__law_cell ar (ac (aa 0 rfl) (ac ai ak aM) ag) ⟨ns,_,rfl,hl,by decide,by decide,rfl⟩) ai (by walk_at "mul")) (dg (bj ai (gK ai ai ⟨by decide,by decide,by decide⟩) (by walk_at "mul")) ai) (by decide+kernel)) (gK ai ai ⟨by decide,by decide,by decide⟩)) ?_)
 refine ae (aU (i:=2) dY.nd rfl (Or.inl rfl) (cH (eC (bj (av ((bB T).mono (by decide)) hr rfl T.m__law_cell T.F__law_cell.kp T.b__law_cell ar (ac (aa 0 rfl) (ac ai ak aM) ag) ⟨ns,_,rfl,hl,by decide,by decide,rfl⟩) ai (by walk_at "mul")) (dg (bj ai (gK ai ai ⟨by decide,by decide,by decide⟩) (by walk_at "mul")) ai) (by decide+kernel)) (gK ai ai ⟨by decide,by decide,by decide⟩)) ?_)
 show Ws _ _ _ _ _ _ [some (.val (.scr (ns.map U.int))),some (.val (.int (tM (cel ns 1) 48271))),some (.val (.int (tM (cel ns 2) 16807)))]
 have m1:=pC (cel ns 1) 48271
 have n1:=pC (cel ns 2) 16807
 unfold ud at he
 generalize tM (cel ns 1) 48271=m at *
 generalize tM (cel ns 2) 16807=n at *
 rw [← he]
 refine ae (jo (ay gP (eC (av ((bB T).mono (by decide)) hr rfl T.m__law_cell T.F__law_cell.kp T.b__law_cell ar (ac (aa 0 rfl) (ac ai ak aM) ag) ⟨ns,_,rfl,hl,by decide,by decide,rfl⟩) ai (by walk_at "mod")) ai) (fun hT=> ?_) (fun hF=> (ax ?_)))
 ·refine ae (gr (gm (aG (aa 1 rfl) (aG (dg ai (bj (aa 1 rfl) (aa 2 rfl) (by walk_at "mul"))) (aG ai (aG (aa 2 rfl) ca ag) aM) b_) ag)) ?_)
  unfold wj
  rw [if_pos (dTb hT)]
 ·refine ae (gr (gm (aG (dg ai (bj (aa 1 rfl) (aa 2 rfl) (by walk_at "mul"))) (aG (aa 1 rfl) (aG (aa 2 rfl) (aG ai ca aM) ag) ag) b_)) ?_)
  unfold wj
  rw [if_neg (dFb hF)]
def pB (c l:Int):P2:=(c % 9,if l % 5=1 then (if l / 5 % 3=0 then 5 else if l / 5 % 3=1 then c % 9 else 8 - c % 9) else c / 9 % 9)
theorem AV (c l:Int):0≤(pB c l).1∧(pB c l).1≤8∧0≤(pB c l).2∧(pB c l).2≤8:=by
 unfold pB
 dsimp only
 refine ⟨by omega,by omega,?_,?_⟩ <;> (repeat' split) <;> omega
theorem BH (x l:Int):atI ([.int 5,.int x,.int (8 - x)]:List U) (l / 5 % 3)=some (.int (if l / 5 % 3=0 then 5 else if l / 5 % 3=1 then x else 8 - x)):=by
 have h:l / 5 % 3=0∨l / 5 % 3=1∨l / 5 % 3=2:=by omega
 rcases h with h | h | h <;> rw [h] <;> rfl
def nP (ns:List Int):Nat:=(max 10 (min ns.length 60) - 5) / 2
def pI (ns:List Int) (i:Nat):P2:=pB (cel ns (6+(i:Int) * 2)) (cel ns 0)
def ka (ns:List Int):List P2:=(List.range (nP ns)).map (pI ns)
theorem xT (ns:List Int):1≤nP ns∧nP ns≤27:=by unfold nP; omega
def vw:List U→Out→Prop:=fun us o=> ∃ ns:List Int,us=[.scr (ns.map U.int)]∧ns.length≤63∧(∀ m∈ns,Sz 1048576 m)∧o=.new ((ka ns).map pu)
theorem z6 (ns:List Int):(if (if (60:Int) < ((ns.map U.int).length:Int) then (60:Int) else ((ns.map U.int).length:Int)) > 10 then (if (60:Int) < ((ns.map U.int).length:Int) then (60:Int) else ((ns.map U.int).length:Int)) else 10)=((max 10 (min ns.length 60):Nat):Int):=by
 rw [List.length_map]
 split <;> split <;> omega
set_option maxHeartbeats 8000000 in
theorem jB (T:Txt w K mg):ba P w K mg base (CXF P w) 2 T.a__law_points T.d__law_points ["script"] (spU K (vw)):=by
 refine bx T.F__law_points bD (fun us o h=> ?_) (fun cdv A outer s H E O us o hr h=> ?_)
 ·obtain ⟨ns,rfl,hl,hB,rfl⟩:=h
  rfl
 obtain ⟨ns,rfl,hl,hB,rfl⟩:=h
 refine Ws.nox ?_
 have hb:=z6 ns
 have hN:=xT ns
 have hmm:dZ 6 ((max 10 (min ns.length 60):Nat):Int) 2=nP ns:=by
  unfold dZ nP
  rw [if_pos (by omega)]
  omega
 have c0:=fI hB (k:=0) (by decide) (by decide)
 refine ae (aU (i:=1) bD.nd rfl (Or.inl rfl) (av ((bB T).mono (by decide)) hr rfl T.m__law_cell T.F__law_cell.kp T.b__law_cell ar (ac (aa 0 rfl) (ac ai ak aM) ag) ⟨ns,_,rfl,hl,by decide,by decide,rfl⟩) ?_)
 refine ae (pJ (i:=2) bD.nd rfl (Or.inl rfl) (gm ca) ?_)
 refine ae (jL (fun i:Nat=> [some (.val (.scr (ns.map U.int))),some (.val (.int (cel ns 0))),some (.own (((List.range i).map (pI ns)).map pu)),none,none,none]) (fun i j=> i=j) rfl PassesOwn.never (m9 rfl T.z_range (ac ai (ac (aB (xQ rfl) rfl T.z_max boot_max (ac ai (ac (aB (tp rfl) rfl T.z_min boot_min (ac (aB (dS rfl) rfl T.z_len PySem.boot_len (ac (aa 0 rfl) ak ag)) (ac ai ak aM) bY)) ak bY) aM)) (ac ai ak aM) bY) aM) (by rw [hb]; omega)) ?h0 ?hs ?hd)
 case h0=> exact ⟨0,rfl,rfl,rfl,rfl,trivial⟩
 case hs=>
  rintro H0 i x _ hx rfl
  rw [hb,hmm] at hx
  obtain ⟨hi,rfl⟩:=iL hx
  have hi':i < 27:=by omega
  refine ⟨_,(ma (i:=3) bD.nd rfl (Or.inl rfl)),?_⟩
  have cz:=fI hB (k:=6+(i:Int) * 2) (by omega) (by omega)
  refine ae (aU (i:=4) bD.nd rfl (Or.inl rfl) (eC (av ((bB T).mono (by decide)) hr rfl T.m__law_cell T.F__law_cell.kp T.b__law_cell ar (ac (aa 0 rfl) (ac (aa 3 rfl) ak ag) ag) ⟨ns,_,rfl,hl,by omega,by omega,rfl⟩) ai (by walk_at "mod")) ?_)
  refine ae (aU (i:=5) bD.nd rfl (Or.inl rfl) (eC (nM (av ((bB T).mono (by decide)) hr rfl T.m__law_cell T.F__law_cell.kp T.b__law_cell ar (ac (aa 0 rfl) (ac (aa 3 rfl) ak ag) ag) ⟨ns,_,rfl,hl,by omega,by omega,rfl⟩) ai (by walk_at "div")) ai (by walk_at "mod")) ?_)
  have fin:((List.range i).map (pI ns)).map pu++[pu (pI ns i)]=((List.range (i+1)).map (pI ns)).map pu:=by
   rw [List.range_succ,List.map_append,List.map_append]; rfl
  have room:(((List.range i).map (pI ns)).map pu).length≤1000:=by simp; omega
  refine jM (fun ps=> SubP [some (.val (.scr (ns.map U.int))),some (.val (.int (cel ns 0))),some (.own (((List.range i).map (pI ns)).map pu)),some (.val (.int (6+(i:Int) * 2))),some (.val (.int (pI ns i).1)),some (.val (.int (pI ns i).2))] ps) (jo (ay gP (eC (aa 1 rfl) ai (by walk_at "mod")) ai) (fun hT=> ?_) (fun hF=> (ax ?_))) ?hj
  ·refine ae (aU (i:=5) bD.nd rfl (Or.inl rfl) (bm (EvN.ev (gm (aG ai (aG (aa 4 rfl) (aG (cH ai (aa 4 rfl)) ca b_) ag) aM))) (eC (nM (aa 1 rfl) ai (by walk_at "div")) ai (by walk_at "mod")) rfl (BH _ _)) (ax ?_))
   refine ⟨rfl,rfl,rfl,rfl,rfl,?_,trivial⟩
   exact congrArg (fun z=> some (Sl.val (.int z))) (show _=(pI ns i).2 by unfold pI pB; dsimp only; rw [if_pos (dTb hT)])
  ·refine ⟨rfl,rfl,rfl,rfl,rfl,?_,trivial⟩
   exact congrArg (fun z=> some (Sl.val (.int z))) (show _=(pI ns i).2 by unfold pI pB; dsimp only; rw [if_neg (dFb hF)])
  case hj=>
   intro ps hps
   refine eJ ?_ hps
   refine ae (g_ 2 rfl (cD (aG (aa 4 rfl) (aG (aa 5 rfl) ca ag) ag)) (ap room) (ax ?_))
   refine ⟨i+1,rfl,rfl,rfl,?_,trivial⟩
   exact congrArg (fun l=> some (Sl.own l)) fin
 case hd=>
  rintro q ps hq hps
  refine eJ ?_ hps
  rw [dU,hb,hmm] at hq
  subst hq
  refine ae (oz 2 rfl ?_)
  exact rfl
end
section
variable {P:Program} {w:World} {K:PySem.W.Frag} {mg:Str→Option Value} {base:Heap}
theorem m12:Sz 42 (10 ^ (12:Int).toNat)∧(0:Int)≤10 ^ (12:Int).toNat:=⟨by decide+kernel,by decide+kernel⟩
def wU (c:Int):Int:=if c / 81 % 5=1 then c * 48271 % (2 * 10 ^ (12:Int).toNat+1) - 10 ^ (12:Int).toNat else c % 9 - 4
theorem xO (c:Int):Sz 42 (wU c):=by
 unfold wU
 split
 ·exact Br m12.2 m12.1
 ·refine Sz.mono (m:=8) ?_ (by decide)
  unfold Sz; omega
def w2 (a b c d z:Int):List P2:=[(wU z,z / 9 % 9 - 4),((a * d - b * c) * (wU z * d - (z / 9 % 9 - 4) * c),(a * d - b * c) * ((z / 9 % 9 - 4) * a - wU z * b))]
def nW (ns:List Int):Nat:=(max 10 (min ns.length 60) - 6) / 2
def wL (ns:List Int) (a b c d:Int) (n:Nat):List P2:=((List.range n).map fun (i:Nat)=> w2 a b c d (cel ns (7+(i:Int) * 2))).flatten
theorem vH (ns:List Int) (a b c d:Int) (n:Nat):(wL ns a b c d n).length=2 * n:=by
 induction n with
 | zero=> rfl
 | succ n ih=>
  unfold wL at *
  rw [List.range_succ,List.map_append,List.flatten_append,List.length_append,ih]
  simp [w2]; omega
theorem vS (ns:List Int) (a b c d:Int) (n:Nat):wL ns a b c d (n+1)=wL ns a b c d n++w2 a b c d (cel ns (7+(n:Int) * 2)):=by
 unfold wL
 rw [List.range_succ,List.map_append,List.flatten_append]
 simp
theorem zZ (ns:List Int):nW ns≤27:=by unfold nW; omega
theorem As {a b c d:Int} (h:Tb4 a b c d) (z:Int):∀ p∈w2 a b c d z,Szp 250 p:=fun p hp=> by
 have u:=xO z
 have v:Sz 8 (z / 9 % 9 - 4):=by unfold Sz; omega
 have hd:Sz 101 (a * d - b * c):=L2.Sz.sub' (L2.Sz.mul h.sa h.sd) (L2.Sz.mul h.sb h.sc)
 unfold w2 at hp
 simp only [List.mem_cons,List.not_mem_nil,or_false] at hp
 rcases hp with rfl | rfl
 ·exact ⟨u.mono (by decide),v.mono (by decide)⟩
 ·exact ⟨(L2.Sz.mul hd (L2.Sz.sub' (L2.Sz.mul u h.sd) (L2.Sz.mul v h.sc))).mono (by decide),(L2.Sz.mul hd (L2.Sz.sub' (L2.Sz.mul v h.sa) (L2.Sz.mul u h.sb))).mono (by decide)⟩
theorem An (ns:List Int) {a b c d:Int} (h:Tb4 a b c d) (n:Nat):∀ p∈wL ns a b c d n,Szp 250 p:=fun p hp=> by
 unfold wL at hp
 obtain ⟨l,hl,hp⟩:=List.mem_flatten.mp hp
 obtain ⟨i,_,rfl⟩:=List.mem_map.mp hl
 exact As h _ p hp
def nz (l:List P2):List (Option U):=l.map fun p=> if p=(0,0) then none else some (pu p)
theorem AH (l:List P2):(nz l).filterMap id=(l.filter fun p=> decide (p≠(0,0))).map pu:=by
 induction l with
 | nil=> rfl
 | cons p l ih=>
  unfold nz at *
  rw [List.map_cons,List.filter_cons]
  by_cases h:p=(0,0)
  ·rw [if_pos h,if_neg (by simp [h])]; exact ih
  ·rw [if_neg h,if_pos (by simpa using h),List.map_cons,← ih]; rfl
def xE (ns:List Int) (a b c d:Int):List P2:=(wL ns a b c d (nW ns)).filter fun p=> decide (p≠(0,0))
theorem uc (ns:List Int) {a b c d:Int} (h:Tb4 a b c d):∀ p∈xE ns a b c d,p≠(0,0)∧Szp 250 p:=fun p hp=> by
 obtain ⟨h1,h2⟩:=List.mem_filter.mp hp
 exact ⟨of_decide_eq_true h2,An ns h _ p h1⟩
def rE:List U→Out→Prop:=fun us o=> ∃ (ns:List Int) (a b c d:Int),us=[.scr (ns.map U.int)]∧ns.length≤63∧(∀ m∈ns,Sz 1048576 m)∧ud ns=[.int a,.int b,.int c,.int d]∧Tb4 a b c d∧o=.new ((xE ns a b c d).map pu)
set_option maxHeartbeats 8000000 in
theorem lD (T:Txt w K mg):ba P w K mg base (CXF P w) 3 T.a__law_ways T.d__law_ways ["script"] (spU K (rE)):=by
 refine bx T.F__law_ways aW (fun us o h=> ?_) (fun cdv A outer s H E O us o hr h=> ?_)
 ·obtain ⟨ns,a,b,c,d,rfl,hl,hB,he,h4,rfl⟩:=h
  rfl
 obtain ⟨ns,a,b,c,d,rfl,hl,hB,he,h4,rfl⟩:=h
 refine Ws.nox ?_
 have hb:=z6 ns
 have hN:=zZ ns
 have hmm:dZ 7 ((max 10 (min ns.length 60):Nat):Int) 2=nW ns:=by
  unfold dZ nW
  rw [if_pos (by omega)]
  omega
 have sa:=h4.sa
 have sb:=h4.sb
 have sc:=h4.sc
 have sd:=h4.sd
 refine ae (x0 (EvN.ev (dF ((gf T).mono (by decide)) hr rfl T.m__law_table T.F__law_table.kp T.b__law_table ar (ac (aa 0 rfl) ak ag) ⟨ns,a,b,c,d,rfl,hl,hB,he,rfl⟩)) (xG [1,2,3,4] rfl (aS (aJ (i:=1) aW.nd rfl (Or.inl rfl)) (aS (aJ (i:=2) aW.nd rfl (Or.inl rfl)) (aS (aJ (i:=3) aW.nd rfl (Or.inl rfl)) (aS (aJ (i:=4) aW.nd rfl (Or.inl rfl)) dk)))) (.inl rfl) rfl) ?_)
 refine ae (aU (i:=5) aW.nd rfl (Or.inl rfl) (cH (bj (aa 1 rfl) (aa 4 rfl) (by walk_at "mul")) (bj (aa 2 rfl) (aa 3 rfl) (by walk_at "mul"))) ?_)
 refine ae (pJ (i:=6) aW.nd rfl (Or.inl rfl) (gm ca) ?_)
 refine ae (jL (fun i:Nat=> [some (.val (.scr (ns.map U.int))),some (.val (.int a)),some (.val (.int b)),some (.val (.int c)),some (.val (.int d)),some (.val (.int (a * d - b * c))),some (.own ((wL ns a b c d i).map pu)),none,none,none,none,none]) (fun i j=> i=j) rfl PassesOwn.never (m9 rfl T.z_range (ac ai (ac (aB (xQ rfl) rfl T.z_max boot_max (ac ai (ac (aB (tp rfl) rfl T.z_min boot_min (ac (aB (dS rfl) rfl T.z_len PySem.boot_len (ac (aa 0 rfl) ak ag)) (ac ai ak aM) bY)) ak bY) aM)) (ac ai ak aM) bY) aM) (by rw [hb]; omega)) ?h0 ?hs ?hd)
 case h0=> exact ⟨0,rfl,rfl,rfl,rfl,rfl,rfl,rfl,rfl,trivial⟩
 case hs=>
  rintro H0 i x _ hx rfl
  rw [hb,hmm] at hx
  obtain ⟨hi,rfl⟩:=iL hx
  have hi':i < 27:=by omega
  refine ⟨_,(ma (i:=7) aW.nd rfl (Or.inl rfl)),?_⟩
  have cz:=fI hB (k:=7+(i:Int) * 2) (by omega) (by omega)
  have suc:=vS ns a b c d i
  have len:=vH ns a b c d i
  generalize wL ns a b c d i=W at *
  refine ae (aU (i:=8) aW.nd rfl (Or.inl rfl) (av ((bB T).mono (by decide)) hr rfl T.m__law_cell T.F__law_cell.kp T.b__law_cell ar (ac (aa 0 rfl) (ac (aa 7 rfl) ak ag) ag) ⟨ns,_,rfl,hl,by omega,by omega,rfl⟩) ?_)
  generalize cel ns (7+(i:Int) * 2)=z at *
  refine ae (aU (i:=9) aW.nd rfl (Or.inl rfl) (cH (eC (aa 8 rfl) ai (by walk_at "mod")) ai) ?_)
  refine ae (aU (i:=10) aW.nd rfl (Or.inl rfl) (cH (eC (nM (aa 8 rfl) ai (by walk_at "div")) ai (by walk_at "mod")) ai) ?_)
  have su:=xO z
  have sv:Sz 8 (z / 9 % 9 - 4):=by unfold Sz; omega
  have sh:Sz 101 (a * d - b * c):=L2.Sz.sub' (L2.Sz.mul sa sd) (L2.Sz.mul sb sc)
  refine jM (fun ps=> SubP [some (.val (.scr (ns.map U.int))),some (.val (.int a)),some (.val (.int b)),some (.val (.int c)),some (.val (.int d)),some (.val (.int (a * d - b * c))),some (.own (W.map pu)),some (.val (.int (7+(i:Int) * 2))),some (.val (.int z)),some (.val (.int (wU z))),some (.val (.int (z / 9 % 9 - 4))),none] ps) (jo (ay gP (eC (nM (aa 8 rfl) ai (by walk_at "div")) ai (by walk_at "mod")) ai) (fun hT=> ?_) (fun hF=> (ax ?_))) ?hj
  ·refine ae (aU (i:=9) aW.nd rfl (Or.inl rfl) (cH (eC (bj (aa 8 rfl) ai (by walk_at "mul")) (dg (bj ai (gK ai ai ⟨by decide,by decide,by decide⟩) (by walk_at "mul")) ai) (by decide+kernel)) (gK ai ai ⟨by decide,by decide,by decide⟩)) (ax ?_))
   refine ⟨rfl,rfl,rfl,rfl,rfl,rfl,rfl,rfl,rfl,?_,rfl,trivial⟩
   exact congrArg (fun z=> some (Sl.val (.int z))) (show _=wU z by unfold wU; rw [if_pos (dTb hT)])
  ·refine ⟨rfl,rfl,rfl,rfl,rfl,rfl,rfl,rfl,rfl,?_,rfl,trivial⟩
   exact congrArg (fun z=> some (Sl.val (.int z))) (show _=wU z by unfold wU; rw [if_neg (dFb hF)])
  case hj=>
   intro ps hps
   refine eJ ?_ hps
   have hU:w2 a b c d z=[(wU z,z / 9 % 9 - 4),((a * d - b * c) * (wU z * d - (z / 9 % 9 - 4) * c),(a * d - b * c) * ((z / 9 % 9 - 4) * a - wU z * b))]:=rfl
   rw [hU] at suc
   clear hU
   generalize wU z=u at *
   generalize z / 9 % 9 - 4=v at *
   generalize a * d - b * c=e at *
   refine ae (g_ 6 rfl (cD (aG (aa 9 rfl) (aG (aa 10 rfl) ca ag) ag)) (by simp; exact ap (by omega)) ?_)
   refine ae (g_ 6 rfl (cD (aG (bj (aa 5 rfl) (cH (bj (aa 9 rfl) (aa 4 rfl) (by walk_at "mul")) (bj (aa 10 rfl) (aa 3 rfl) (by walk_at "mul"))) (by walk_at "mul")) (aG (bj (aa 5 rfl) (cH (bj (aa 10 rfl) (aa 1 rfl) (by walk_at "mul")) (bj (aa 9 rfl) (aa 2 rfl) (by walk_at "mul"))) (by walk_at "mul")) ca b_) b_)) (by simp; exact ap (by omega)) (ax ?_))
   refine ⟨i+1,rfl,rfl,rfl,rfl,rfl,rfl,rfl,?_,trivial⟩
   exact congrArg (fun l=> some (Sl.own l)) (by rw [suc]; simp)
 case hd=>
  rintro q ps hq hps
  refine eJ ?_ hps
  rw [dU,hb,hmm] at hq
  subst hq
  have len:=vH ns a b c d (nW ns)
  refine zc 6 rfl ?_
  refine ae (gr (wn (nz (wL ns a b c d (nW ns))) rfl (blk (af bX) ["script","a","b","c","d","hand_v","ways_v","k","cell","u","v","way"] [11] rfl rfl rfl rfl (by decide+kernel)) (dw (aa 6 rfl) (.inl rfl)) (fun _ _ _ _=> aJ (i:=11) aW.nd rfl (Or.inl rfl)) (db (by decide)) ?clen ?csz (fun _ _=> trivial) ?ctest ?celt) ?_)
  case clen=> unfold nz; simp
  case csz=> rw [List.length_map]; exact Nat.le_of_lt (ap (by omega))
  case ctest=>
   intro C s' H' fp j x o hx ho
   obtain ⟨p,hp,mp,rfl⟩:=iE hx
   unfold nz at ho
   rw [List.getElem?_map,hp] at ho
   cases ho
   have key:(if p=(0,0) then none else some (pu p)).isSome=!eqW (pu p) (pu (0,0)):=by
    rw [yD]
    by_cases h:p=(0,0)
    ·rw [if_pos h,decide_eq_true h]; rfl
    ·rw [if_neg h,decide_eq_false h]; rfl
   rw [key]
   exact (ay (vt (bK hr) (by walk_at "ok") (by walk_at "ok")) (aa 11 rfl) (cD (aG ai (aG ai ca aM) aM)))
  case celt=>
   intro C s' H' fp j x y hx hy
   obtain ⟨p,hp,mp,rfl⟩:=iE hx
   unfold nz at hy
   rw [List.getElem?_map,hp] at hy
   by_cases h:p=(0,0)
   ·rw [Option.map_some,if_pos h] at hy; cases hy
   ·rw [Option.map_some,if_neg h] at hy
    cases hy
    exact (aa 11 rfl)
  rw [AH]; rfl
end
section
variable {P:Program} {w:World} {K:PySem.W.Frag} {mg:Str→Option Value} {base:Heap}
def ph:List U→Out→Prop:=fun us o=> ∃ (l:List P2) (x:P2),us=[lp l,.int x.1,.int x.2]∧df l∧Szp 2000 x∧o=.val (.int (nrm l x))
set_option maxHeartbeats 8000000 in
theorem gy (T:Txt w K mg):ba P w K mg base (CXF P w) 1 T.a__law_span T.d__law_span ["points","a","b"] (spU K (ph)):=by
 refine bx T.F__law_span dA (fun us o h=> ?_) (fun cdv A outer s H E O us o hr h=> ?_)
 ·obtain ⟨l,x,rfl,h,⟨sa,sb⟩,rfl⟩:=h
  rfl
 obtain ⟨l,x,rfl,h,⟨sa,sb⟩,rfl⟩:=h
 refine Ws.nox ?_
 have hl:=h.len
 refine ae (ij (ys:=(l.map fun p=> U.int (wth x.1 x.2 p))) (j:=3) false rfl dA.nd rfl (Or.inl rfl) (blk (af cg) ["points","a","b","worths","x","y"] [4,5] rfl rfl rfl rfl (by decide+kernel)) (dw (aa 0 rfl) (.inl rfl)) (fun _ _ _ _=> fE rfl (aS (aJ (i:=4) dA.nd rfl (Or.inl rfl)) (aS (aJ (i:=5) dA.nd rfl (Or.inl rfl)) dk))) (eR (js:=[4,5]) (by decide)) ?clen ?csz ?dom ?celt ?_)
 case clen=> simp
 case csz=> rw [List.length_map]; exact Nat.le_of_lt (ap (by omega))
 case dom=>
  intro x hx
  obtain ⟨i,hi⟩:=List.mem_iff_getElem?.mp hx
  obtain ⟨p,hp,mp,rfl⟩:=iE hi
  exact ⟨_,rfl,rfl⟩
 case celt=>
  intro C s' H' fp j x y hx hy
  obtain ⟨p,hp,mp,rfl,rfl⟩:=cM hx hy
  have s1:=(h.sz p mp).1
  have s2:=(h.sz p mp).2
  exact (dg (bj (aa 1 rfl) (aa 4 rfl) (by walk_at "mul")) (bj (aa 2 rfl) (aa 5 rfl) (by walk_at "mul")))
 rw [nK]
 refine ae (bo (cH (aB (oN rfl (ul x.1 x.2 h.ne)) rfl T.z_max boot_max (ac (aa 3 rfl) ak ag)) (aB (t8 rfl (sR x.1 x.2 h.ne)) rfl T.z_min boot_min (ac (aa 3 rfl) ak ag))) ?_)
 exact vIO (by unfold nrm spn; omega)
end
section
variable {P:Program} {w:World} {K:PySem.W.Frag} {mg:Str→Option Value} {base:Heap}
def sD:List U→Out→Prop:=fun us o=> ∃ n:Int,us=[sT (ds n)]∧n.natAbs < 10 ^ 300∧o=.val (.int n)
theorem BA:(Str.ofString "0123456789":Str)=T' D10:=rfl
set_option maxHeartbeats 8000000 in
theorem jx (T:Txt w K mg):ba P w K mg base (CXF P w) 1 T.a__law_number T.d__law_number ["word"] (spU K (sD)):=by
 refine bx T.F__law_number dN (fun us o h=> ?_) (fun cdv A outer s H E O us o hr h=> ?_)
 ·obtain ⟨n,rfl,hn,rfl⟩:=h
  rfl
 obtain ⟨n,rfl,hn,rfl⟩:=h
 refine Ws.nox ?_
 have ll:(ds n).length≤301:=bV (by decide) hn
 have lm:(ds (n.natAbs:Int)).length≤300:=lE (by decide) hn
 obtain ⟨hf,hneg⟩:=iX n
 have hfig:StrLaws.sliceText (T' (ds n)) (some (if eqW (.str (StrLaws.sliceText (T' (ds n)) none (some 1))) (.str (Str.ofString "-"))=true then 1 else 0)) none=T' (ds (n.natAbs:Int)):=by
  have e1:StrLaws.sliceText (T' (ds n)) none (some 1)=T' ((ds n).take 1):=zh (ds n) 1
  have e2:eqW (.str (T' ((ds n).take 1))) (.str (Str.ofString "-"))=decide (n < 0):=by
   rw [eqS]
   refine decide_eq_decide.mpr ⟨fun h=> hneg.mp ?_,fun h=> ?_⟩
   ·have:=mh (m:=[45]) h
    cases e:ds n with
    | nil=> rw [e] at this; cases this
    | cons c r=> rw [e] at this; simp at this; rw [this]; rfl
   ·have:=hneg.mpr h
    cases e:ds n with
    | nil=> rw [e] at this; cases this
    | cons c r=> rw [e] at this; simp at this; rw [this]; rfl
  rw [e1,e2]
  by_cases z:n < 0
  ·rw [decide_eq_true z,if_pos rfl]
   have:=jg (ds n) 1
   rw [show ((1:Nat):Int)=1 from rfl] at this
   rw [this,← hf,gJ (hneg.mpr z)]
   simp [bv]
  ·rw [decide_eq_false z,if_neg (by simp)]
   have:=jg (ds n) 0
   rw [show ((0:Nat):Int)=0 from rfl] at this
   rw [this,List.drop_zero,show n=(n.natAbs:Int) by omega]
   simp
 have tz:(T' (ds n)).length≤sizeLine:=by rw [bi]; exact Nat.le_of_lt (ap (by omega))
 refine ae (aU (i:=1) dN.nd rfl (Or.inl rfl) (jX (aa 0 rfl) (d6 (dQ yZ rfl T.z_int boot_int (ac (kD (dc (bK hr) (by walk_at "ok") (by walk_at "ok")) (jX (aa 0 rfl) dX (d6 ai) tz) aL) ak zk))) dX tz) ?_)
 rw [hfig]
 have tz2:(T' (ds (n.natAbs:Int))).length≤sizeLine:=by rw [bi]; exact Nat.le_of_lt (ap (by omega))
 have e1:(T' (ds (n.natAbs:Int))).cps.toList=ds (n.natAbs:Int):=by simp
 refine ae (jL (fun _:Unit=> [some (.val (sT (ds n))),some (.val (sT (ds (n.natAbs:Int)))),none]) (fun _ _=> True) rfl PassesOwn.never (ui (aa 1 rfl)) ?h0 ?hs ?hd)
 case h0=> exact ⟨(),trivial,rfl,rfl,trivial⟩
 case hs=>
  intro H0 i x _ hx _
  rw [e1] at hx
  obtain ⟨c,hc,mc,rfl⟩:=yI hx
  refine ⟨_,(ma (i:=2) dN.nd rfl (Or.inl rfl)),?_⟩
  have hin:(!(!(Builtin.Str.occurrences (Str.ofString "0123456789") ⟨#[c]⟩ 0 (Str.ofString "0123456789").length 1).isEmpty))=false:=by
   rw [BA,in1 D10 c,decide_eq_true ((lS c).mpr (fm _ c mc))]; rfl
  refine ae (bh (ay zM (aa 2 rfl) aL) hin (ax (ax ?_)))
  exact ⟨(),trivial,rfl,rfl,trivial⟩
 case hd=>
  intro _ ps _ hps
  refine eJ ?_ hps
  have hne:eqW (sT (ds (n.natAbs:Int))) (.str (Str.ofString ""))=false:=by
   rw [eqS]
   exact decide_eq_false fun h=> nU n.natAbs (mh (m:=[]) h)
  have hm:((T' (ds (n.natAbs:Int))).length:Int)=((ds (n.natAbs:Int)).length:Int):=by rw [bi]
  have hstr:eqW (.str (Str.ofString (toString n))) (sT (ds n))=true:=by rw [oZ,eqS]; exact decide_eq_true rfl
  refine ae (bh (Tw.t (jZ (ay (dc (bK hr) (by walk_at "ok") (by walk_at "ok")) (aa 1 rfl) aL) (fun hz=> (jZ (ay lI (aB (fF tz2) rfl T.z_len PySem.boot_len (ac (aa 1 rfl) ak ag)) ai) (fun hz=> (jj (ay (vt (bK hr) (by walk_at "ok") (by walk_at "ok")) (dQ (lG (Ag hn)) rfl T.z_str boot_str (ac (dQ (oW (qG hn) (by rw [bi]; omega)) rfl T.z_int boot_int (ac (aa 0 rfl) ak ag)) ak bY)) (aa 0 rfl)))))))) (by rw [hne,hm,decide_eq_false (by omega),hstr]; rfl) (ax ?_))
  refine ae (bo (dQ (oW (qG hn) (by rw [bi]; omega)) rfl T.z_int boot_int (ac (aa 0 rfl) ak ag)) ?_)
  exact rfl
def t4:List U→Out→Prop:=fun us o=> ∃ l:List P2,us=[lp l]∧(∀ p∈l,B60 p)∧l.length≤61∧o=.val (sT (jn (l.map ptD)))
theorem qD (c:Nat):∀ (l:List Str) (a:Nat),(∀ x∈l,x.length≤c)→l.foldl (fun (n:Nat) (x:Str)=> n+x.length+(Str.ofString " ":Str).length) a≤a+l.length * (c+1)
 | [],a,_=> by simp
 | x::l,a,h=> by
  have h1:=h x List.mem_cons_self
  have ih:=qD c l (a+x.length+(Str.ofString " ":Str).length) fun y hy=> h y (List.mem_cons_of_mem _ hy)
  have s1:(Str.ofString " ":Str).length=1:=rfl
  rw [List.foldl_cons,List.length_cons,Nat.add_mul,Nat.one_mul]
  rw [s1] at ih ⊢
  generalize l.length * (c+1)=z at *
  exact Nat.le_trans ih (by omega)
theorem wZ {pts:List P2} (h:∀ p∈pts,B60 p) (hl:pts.length≤61):JoinOk (Str.ofString " ") (pts.map fun p=> T' (ptD p))=true:=by
 have hx:∀ x∈pts.map (fun p=> T' (ptD p)),x.length≤123:=fun x hx=> by
  obtain ⟨p,hp,rfl⟩:=List.mem_map.mp hx
  have:=jb (h p hp)
  rw [bi]; exact this
 have:=qD 123 (pts.map fun p=> T' (ptD p)) 0 hx
 unfold JoinOk
 rw [← Array.foldl_toList]
 have h2:(pts.map fun p=> T' (ptD p)).length * (123+1)≤61 * 124:=Nat.mul_le_mul (by rw [List.length_map]; exact hl) (Nat.le_refl _)
 have h3:Builtin.Str.tooLong ((pts.map fun p=> T' (ptD p)).foldl (fun (n:Nat) (x:Str)=> n+x.length+(Str.ofString " ":Str).length) 0)=false:=by
  unfold Builtin.Str.tooLong
  rw [sizeLine_eq]
  exact decide_eq_false (by omega)
 show (!Builtin.Str.tooLong _)=true
 rw [h3]; rfl
theorem Ba (pts:List P2):(pts.map fun p=> sT (ptD p))=(pts.map fun p=> T' (ptD p)).map U.str:=by rw [List.map_map]; rfl
set_option maxHeartbeats 8000000 in
theorem j5 (T:Txt w K mg):ba P w K mg base (CXF P w) 1 T.a__law_shown T.d__law_shown ["points"] (spU K (t4)):=by
 refine bx T.F__law_shown d_ (fun us o h=> ?_) (fun cdv A outer s H E O us o hr h=> ?_)
 ·obtain ⟨l,rfl,hb,hl,rfl⟩:=h
  rfl
 obtain ⟨l,rfl,hb,hl,rfl⟩:=h
 refine Ws.nox ?_
 refine ae (bo (zt (l:=l.map fun p=> T' (ptD p)) aL ?ej gM (wZ hb hl)) ?_)
 case ej=>
  rw [← Ba]
  refine EvN.ev ?_
  refine (gx (ys:=(l.map fun p=> sT (ptD p))) rfl (blk (af bN) ["points","x","y"] [1,2] rfl rfl rfl rfl (by decide+kernel)) (dw (aa 0 rfl) (.inl rfl)) (fun _ _ _ _=> fE rfl (aS (aJ (i:=1) d_.nd rfl (Or.inl rfl)) (aS (aJ (i:=2) d_.nd rfl (Or.inl rfl)) dk))) (eR (js:=[1,2]) (by decide)) ?clen ?csz ?dom ?celt)
  case clen=> simp
  case csz=> rw [List.length_map]; exact Nat.le_of_lt (ap (by omega))
  case dom=>
   intro x hx
   obtain ⟨i,hi⟩:=List.mem_iff_getElem?.mp hx
   obtain ⟨p,hp,mp,rfl⟩:=iE hi
   exact ⟨_,rfl,rfl⟩
  case celt=>
   intro C s' H' fp j x y hx hy
   obtain ⟨p,hp,mp,rfl,rfl⟩:=cM hx hy
   have hb:=hb p mp
   have b1:=vj (Nat.lt_trans hb.1 (show 10 ^ 60 < 10 ^ 62 by decide+kernel))
   have b2:=vj (Nat.lt_trans hb.2 (show 10 ^ 60 < 10 ^ 62 by decide+kernel))
   have l1:(ds p.1).length≤61:=bV (by decide) hb.1
   have l2:(ds p.2).length≤61:=bV (by decide) hb.2
   have lc:(Str.ofString ",":Str).length=1:=rfl
   show Ev _ _ _ _ _ (.str (T' (ptD p)))
   rw [show T' (ptD p)=Str.ofString (toString p.1)++(Str.ofString ",":Str)++Str.ofString (toString p.2) by rw [oZ,oZ,mC]; rfl]
   exact (gl (gl (dQ (lG b1) rfl T.z_str boot_str (ac (aa 1 rfl) ak ag)) aL (by rw [lc,oZ,bi]; exact Nat.le_of_lt (ap (by omega)))) (dQ (lG b2) rfl T.z_str boot_str (ac (aa 2 rfl) ak ag)) (by rw [kW,lc,oZ,oZ,bi,bi]; exact Nat.le_of_lt (ap (by omega))))
 rw [show (l.map fun p=> T' (ptD p))=(l.map ptD).map T' by rw [List.map_map]; rfl]
 refine congrArg (fun z=> Out.val (.str z)) ?_
 exact Al (l.map ptD)
end
section
variable {P:Program} {w:World} {K:PySem.W.Frag} {mg:Str→Option Value} {base:Heap}
def o4:List U→Out→Prop:=fun us o=> ∃ (x:List Nat) (ns:List Int),us=[sT x]∧spl 32 (dE x)=ns.map ds∧(∀ n∈ns,n.natAbs < 10 ^ 300)∧x.length≤8200∧ns.length≤900∧o=.new (ns.map U.int)
set_option maxHeartbeats 8000000 in
theorem iN (T:Txt w K mg):eF P w K mg base (CXF P w) 2 T.a__law_numbers T.d__law_numbers ["answer_v"] (spU K (o4)):=by
 refine vL T.F__law_numbers e9 (fun us o h=> ?_) (fun cdv A outer s H E O us o hr h=> ?_)
 ·obtain ⟨x,ns,rfl,hs,hb,hl,hn,rfl⟩:=h
  rfl
 obtain ⟨x,ns,rfl,hs,hb,hl,hn,rfl⟩:=h
 have lu:(dE x).length=x.length:=by unfold dE; simp
 refine Bc ?_
 refine (bh (nS (iF (aB (jV (by intro _ h; cases h) (fe _)) rfl T.z_isinstance boot_isinstance (ac (aa 0 rfl) (ac (zj rfl T.z_str boot_str) ak ag) ag)))) rfl (ax ?_))
 refine qz (wO (wS (ys:=ns.map U.int) rfl (blk (af bC) ["answer_v","word"] [1] rfl rfl rfl rfl (by decide+kernel)) (rW (c:=32) (l:=dE x) (tf (congrArg U.str (AL x)) (yC (i:=0) rfl (by decide+kernel) ?hz)) aL aM ?hy rfl) (fun _ _ _ _=> aJ (i:=1) e9.nd rfl (Or.inl rfl)) (db (by decide)) ?clen ?csz (fun _ _=> trivial) ?celt) ?_)
 case hz=> rw [bi,show (Str.ofString " ":Str).length=1 from rfl]; omega
 case hy=> exact sz2 (by omega)
 case clen=> rw [hs]; simp
 case csz=> rw [hs]; simp; exact Nat.le_of_lt (ap (by omega))
 case celt=>
  rw [hs,List.map_map]
  intro C s' H' fp j x y hx hy
  obtain ⟨n,hn,mn,rfl,rfl⟩:=cM hx hy
  exact (av ((jx T).mono (by decide)) hr rfl T.m__law_number T.F__law_number.kp T.b__law_number ar (ac (aa 1 rfl) ak ag) ⟨n,rfl,hb n mn,rfl⟩)
 exact rfl
theorem xg (l:List P2) (f:P2):spl 32 (dE (d7 l f))=[nrm l f,f.1,f.2].map ds:=by
 have e:dE (d7 l f)=jn [ds (nrm l f),ds f.1,ds f.2]:=by
  unfold d7 ptD
  have k1:=jk (dl (nrm l f) (c:=44) (by omega))
  have k2:=jk (dl f.1 (c:=44) (by omega))
  have k3:=jk (dl f.2 (c:=44) (by omega))
  unfold dE at *
  rw [List.map_append,List.map_cons,List.map_append,List.map_cons,k1,k2,k3]
  rfl
 rw [e]
 refine o0 (by simp) fun w hw=> ?_
 simp only [List.mem_cons,List.not_mem_nil,or_false] at hw
 rcases hw with rfl | rfl | rfl <;> exact dl _ (by omega)
theorem vA (l:List P2) (f:P2):¬ Txt.find (T' (d7 l f)) (Str.ofString ",") < Txt.find (T' (d7 l f)) (Str.ofString " "):=by
 intro h
 have f1:=dl (nrm l f) (c:=44) (by omega)
 have at32:(d7 l f)[(ds (nrm l f)).length]?=some 32:=by unfold d7; simp
 have mem44:44∈d7 l f:=by unfold d7 ptD; simp
 rcases x6 (d7 l f) 44 with ⟨z,_⟩ | ⟨i,hi,_,e1⟩
 ·exact z mem44
 rcases x6 (d7 l f) 32 with ⟨z,_⟩ | ⟨j,hj,hlt,e2⟩
 ·exact z (List.mem_of_getElem? at32)
 rw [show (Str.ofString ",":Str)=⟨#[44]⟩ from rfl,show (Str.ofString " ":Str)=⟨#[32]⟩ from rfl,e1,e2] at h
 have hij:i < j:=by omega
 have hjl:j≤(ds (nrm l f)).length:=by
  rcases Nat.lt_or_ge (ds (nrm l f)).length j with k | k
  ·exact absurd at32 (hlt _ k)
  ·exact k
 unfold d7 at hi
 rw [List.getElem?_append_left (by omega)] at hi
 exact f1 (List.mem_of_getElem? hi)
def oK:List U→Out→Prop:=fun us o=> ∃ (l pts:List P2) (f:P2),us=[sT (d7 l f),lp pts]∧gH l f∧f≠(0,0)∧df pts∧nrm pts f=nrm l f∧o=.val (.int (nrm l f))
set_option maxHeartbeats 8000000 in
theorem gF (T:Txt w K mg):eF P w K mg base (CXF P w) 3 T.a__law_thin T.d__law_thin ["answer_v","points"] (spU K (oK)):=by
 refine vL T.F__law_thin gL (fun us o h=> ?_) (fun cdv A outer s H E O us o hr h=> ?_)
 ·obtain ⟨l,pts,f,rfl,ha,hf0,hp,hs,rfl⟩:=h
  rfl
 obtain ⟨l,pts,f,rfl,ha,hf0,hp,hs,rfl⟩:=h
 have hp1:=mS ha.sz.1
 have hp2:=mS ha.sz.2
 have hw:=ha.w
 have ll:(d7 l f).length≤1000:=by
  have l0:(ds (nrm l f)).length≤301:=bV (by decide) hw
  have l1:(ds f.1).length≤301:=bV (by decide) hp1
  have l2:(ds f.2).length≤301:=bV (by decide) hp2
  unfold d7 ptD; simp; omega
 refine qz (zd (i:=2) gL.nd rfl (Or.inl rfl) (nk.ev (ww ((iN T).mono (by decide)) hr rfl T.m__law_numbers T.F__law_numbers.kp T.b__law_numbers ar (ac (aa 0 rfl) ak ag) ⟨d7 l f,[nrm l f,f.1,f.2],rfl,xg l f,fun n hn=> ?_,by omega,by simp,rfl⟩)) ?_)
 ·simp only [List.mem_cons,List.not_mem_nil,or_false] at hn
  rcases hn with rfl | rfl | rfl
  ·exact hw
  ·exact hp1
  ·exact hp2
 show Ws _ _ _ _ _ _ [some (.val (sT (d7 l f))),some (.val (lp pts)),some (.val (.lst [.int (nrm l f),.int f.1,.int f.2]))]
 refine Ws.nox ?_
 refine ae (bh (Tw.t (jZ (ay nw (aB (dS rfl) rfl T.z_len PySem.boot_len (ac (aa 2 rfl) ak ag)) ai) (fun hz=> (jZ (ay (wY rfl rfl rfl) AZ (aa 2 rfl)) (fun hz=> (jj (ay iO (sZ (aa 0 rfl) aL aM) (sZ (aa 0 rfl) aL aM)))))))) (by rw [decide_eq_false (vA l f)]; rfl) (ax ?_))
 refine ae (bh (Tw.t (jZ (Tw.t (tT (ay gP (bm (aa 2 rfl) ai rfl rfl) ai) (fun hz=> (uF (ay gP (bm (aa 2 rfl) ai rfl rfl) ai))))) (fun hz=> (jj (ay nw (bm (aa 2 rfl) ai rfl rfl) (av ((gy T).mono (by decide)) hr rfl T.m__law_span T.F__law_span.kp T.b__law_span ar (ac (aa 1 rfl) (ac (bm (aa 2 rfl) ai rfl rfl) (ac (bm (aa 2 rfl) ai rfl rfl) ak bA) bA) ag) ⟨pts,f,rfl,hp,⟨ha.sz.1.mono (by decide),ha.sz.2.mono (by decide)⟩,rfl⟩)))))) (by
   rw [hs]
   have:(decide (f.1=0) && decide (f.2=0))=false:=by
    cases e1:decide (f.1=0) with
    | false=> rfl
    | true=>
     cases e2:decide (f.2=0) with
     | false=> rfl
     | true=> exact absurd (Prod.ext (of_decide_eq_true e1) (of_decide_eq_true e2)) hf0
   rw [this]; simp) (ax ?_))
 refine ae (bo (bm (aa 2 rfl) ai rfl rfl) ?_)
 exact rfl
end
section
variable {P:Program} {w:World} {K:PySem.W.Frag} {mg:Str→Option Value} {base:Heap}
def mv (a b c d o e:Int) (p:P2):P2:=(a * p.1+b * p.2+o,c * p.1+d * p.2 - e)
theorem Az (x:Int):Sz 133 (x % 10 ^ (40:Int).toNat):=L2.Sz.emod (by decide+kernel) (by decide+kernel)
theorem Av {a b c d o e:Int} (h:Tb4 a b c d) (ho:Sz 133 o) (he:Sz 133 e) {p:P2} (hp:Szp 8 p):Szp 150 (mv a b c d o e p):=
 ⟨(L2.Sz.add' (L2.Sz.add' (L2.Sz.mul h.sa hp.1) (L2.Sz.mul h.sb hp.2)) ho).mono (by decide),(L2.Sz.sub' (L2.Sz.add' (L2.Sz.mul h.sc hp.1) (L2.Sz.mul h.sd hp.2)) he).mono (by decide)⟩
theorem um {m:Nat} {p:P2} (hm:m≤160) (h:Szp m p):B60 p:=by
 have k:∀ {n:Int},Sz m n→n.natAbs < 10 ^ 60:=fun {n} h=> Nat.lt_of_lt_of_le (show n.natAbs < 2 ^ 160 from by have:=h.mono hm; unfold Sz at this; omega) (by decide+kernel)
 exact ⟨k h.1,k h.2⟩
theorem qK {l:List P2} (k:Int) (h:l≠[]) (x:P2):nrm (l.map (scl k)) x=(if k < 0 then -k else k) * nrm l x:=by
 rw [← qv h k x]
 have w:∀ (a b:Int) (p:P2),wth a b (scl k p)=wth (k * a) (k * b) p:=fun a b p=> by unfold wth scl; grind
 have hi:∀ a b:Int,hiW a b (l.map (scl k))=hiW (k * a) (k * b) l:=fun a b=> by
  obtain ⟨⟨q,hq,e⟩,kk⟩:=dy (k * a) (k * b) h
  refine gi ⟨_,List.mem_map_of_mem hq,by rw [w,e]⟩ fun p hp=> ?_
  obtain ⟨r,hr,rfl⟩:=List.mem_map.mp hp
  rw [w]; exact kk r hr
 unfold nrm spn
 rw [hi,hi,Int.mul_neg,Int.mul_neg]
theorem vW {l:List P2} {f s:P2} (h:iu l f s):f≠(0,0):=fun e=> by
 have:=h.det
 rw [e] at this
 unfold dt2 at this
 simp at this
theorem uM {m:Nat} {p:P2} (h:Szp m p):Bd (2 ^ m) p:=by
 unfold Szp Sz at h
 unfold Bd
 have e:((2:Int) ^ m)=((2 ^ m:Nat):Int):=by norm_cast
 obtain ⟨h1,h2⟩:=h
 omega
theorem v7 {l:List P2} (h:df l) (hz:∀ p∈l,Szp 170 p) (hc:aA l=l):∃ f s,lW l f s∧iu l f s∧Szp 800 f∧Szp 800 s:=by
 have kp:∃ (K:Int) (J:P2→P2→Prop),Sz 780 K∧kt l K J:=by
  have s10:Szp 8 ((1,0):P2):=⟨Sz.mono (m:=8) (by decide) (by decide),Sz.mono (m:=8) (by decide) (by decide)⟩
  have s01:Szp 8 ((0,1):P2):=⟨Sz.mono (m:=8) (by decide) (by decide),Sz.mono (m:=8) (by decide) (by decide)⟩
  have u:Sz 180 (nrm l (1,0)):=(pA h.ne s10.1 s10.2 hz).mono (by decide)
  have v:Sz 180 (nrm l (0,1)):=(pA h.ne s01.1 s01.2 hz).mono (by decide)
  match l,h,hz,hc,u,v with
  | [A],h,hz,hc,u,v=> exact ⟨1,_,Sz.mono (m:=8) (by decide) (by decide),yc A⟩
  | [A,B],h,hz,hc,u,v=>
   obtain ⟨J,k⟩:=zL A B
   have o1:Sz 181 (1+nrm [A,B] (0,1)):=(L2.Sz.add' (L2.Sz.lit (m:=8) (x:=1) (by decide)) v).mono (by decide)
   exact ⟨_,J,(L2.Sz.add' o1 (L2.Sz.mul o1 (L2.Sz.mul (L2.Sz.mul u u) u))).mono (by decide),k⟩
  | A::B::C::r,h,hz,hc,u,v=>
   have h3:3≤(aA (A::B::C::r)).length:=by rw [hc]; simp
   have hA:A∈aA (A::B::C::r):=by rw [hc]; simp
   obtain ⟨Z,hZ⟩:=AR hA
   obtain ⟨Y,hY,pos⟩:=wQ h3 hZ
   have mZ:=cI _ _ (qu hZ).1
   have mY:=cI _ _ (qu hY).2
   have mA:=cI _ _ hA
   obtain ⟨J,k⟩:=zD h.ne mZ mA mY (by dsimp only at *; omega) (uM (hz _ mZ)) (uM (hz _ mA)) (uM (hz _ mY))
   have M:Sz 180 (2 * 2 ^ 170):=by decide+kernel
   have uv:=L2.Sz.add' u v
   exact ⟨_,J,(L2.Sz.add' (L2.Sz.mul uv M) (L2.Sz.mul uv M)).mono (by decide),k⟩
  | [],h,_,_,_,_=> exact absurd rfl h.ne
 obtain ⟨K,J,sK,Kp⟩:=kp
 obtain ⟨s0,S0⟩:=uu h.ne (1,0) (0,1)
 obtain ⟨f,s,R⟩:=u5 h.ne _ (1,0) s0 (Nat.le_refl _)
 have T0:=eu h.ne S0
 obtain ⟨k,e,_⟩:=T0.ex
 have ok:=zH h.ne R (by rw [uK e]; left; rfl) T0.up T0.dn
 have j:=zm h.ne Kp R (Kp.first _ T0) T0.up T0.dn
 obtain ⟨b1,b2⟩:=Kp.bd _ _ j
 exact ⟨f,s,⟨h,K,J,s0,sK,Kp,S0,R⟩,ok,pK sK b1,pK sK b2⟩
theorem nH {l:List P2} (h:df l) (hz:∀ p∈l,Szp 170 p) (hc:aA l=l):∃ f,gH l f∧f≠(0,0)∧∀ x:P2,x≠(0,0)→nrm l f≤nrm l x:=by
 obtain ⟨f,s,hrun,ok,sf,ss⟩:=v7 h hz hc
 refine ⟨f,⟨⟨s,hrun⟩,sf,?_⟩,vW ok,fun x hx=> pU h.ne ok hx⟩
 have t:=pU h.ne ok (x:=(1,0)) (by decide)
 have z:=lX h (m:=8) (x:=(1,0)) ⟨by decide,by decide⟩
 have n0:=aY h.ne f
 exact mS ((z.natle (by omega)).mono (by decide))
def kA (pts:List P2):List (Str×U):=j7 [] (T' [97]) (lp (aA pts))
def kB (pts:List P2):List (Str×U):=j7 (kA pts) (T' [98]) (lp (aA ((aA pts).map (scl (-3)))))
theorem xK (pts:List P2):L2.valU (kA pts) (T' [97])=some (lp (aA pts)):=by simp [kA,j7,L2.valU]
theorem zT (pts:List P2):L2.valU (kB pts) (T' [98])=some (lp (aA ((aA pts).map (scl (-3))))):=by
 have:¬ (T' [97]:Str)=T' [98]:=by decide+kernel
 simp [kB,kA,j7,L2.valU,this]
theorem yf:Nm [97]:=⟨by decide,by decide,by decide⟩
theorem A5:Nm [98]:=⟨by decide,by decide,by decide⟩
theorem vq (pts:List P2) (h:pts≠[]):(Str.ofString "field a ":Str)++T' (jn (pts.map ptD))=T' (jn (cF::[97]::pts.map ptD)):=by
 rw [e8 _ (by simp),e8 _ (by simpa using h),show (Str.ofString "field a ":Str)=T' (cF++32::([97]++[32])) from by decide+kernel,gh]
 refine congrArg T' ?_
 simp
theorem vK:(Str.ofString "thin a":Str)=T' (jn [fD,[97]]):=by decide+kernel
theorem uH:(Str.ofString "thin b":Str)=T' (jn [fD,[98]]):=by decide+kernel
theorem wN:(Str.ofString "fold b a -3":Str)=T' (jn [eN,[98],[97],ds (-3)]):=by decide+kernel
end
section
variable {P:Program} {w:World} {K:PySem.W.Frag} {mg:Str→Option Value} {base:Heap}
set_option maxHeartbeats 8000000 in
theorem zn (T:Txt w K mg):ba P w K mg base (CXF P w) 10 T.a_law T.d_law ["script"] (spU K (gU)):=by
 refine bx T.F_law cC (fun us o h=> ?_) (fun cdv A outer s H E O us o hr h=> ?_)
 ·obtain ⟨ns,rfl,h63,hB,rfl⟩:=h
  rfl
 obtain ⟨ns,rfl,h63,hB,rfl⟩:=h
 refine Ws.nox ?_
 obtain ⟨a,b,c,d,he,h4⟩:=yM ns
 have sa:=h4.sa
 have sb:=h4.sb
 have sc:=h4.sc
 have sd:=h4.sd
 have c4:=fI hB (k:=4) (by decide) (by decide)
 have c5:=fI hB (k:=5) (by decide) (by decide)
 have hN:=xT ns
 refine ae (x0 (EvN.ev (dF ((gf T).mono (by decide)) hr rfl T.m__law_table T.F__law_table.kp T.b__law_table ar (ac (aa 0 rfl) ak ag) ⟨ns,a,b,c,d,rfl,h63,hB,he,rfl⟩)) (xG [1,2,3,4] rfl (aS (aJ (i:=1) cC.nd rfl (Or.inr rfl)) (aS (aJ (i:=2) cC.nd rfl (Or.inr rfl)) (aS (aJ (i:=3) cC.nd rfl (Or.inr rfl)) (aS (aJ (i:=4) cC.nd rfl (Or.inr rfl)) dk)))) (.inl rfl) rfl) ?_)
 refine ae (aU (i:=5) cC.nd rfl (Or.inr rfl) (eC (bj (av ((bB T).mono (by decide)) hr rfl T.m__law_cell T.F__law_cell.kp T.b__law_cell ar (ac (aa 0 rfl) (ac ai ak aM) ag) ⟨ns,_,rfl,h63,by decide,by decide,rfl⟩) ai (by walk_at "mul")) (gK ai ai ⟨by decide,by decide,by decide⟩) (by decide+kernel)) ?_)
 refine ae (aU (i:=6) cC.nd rfl (Or.inr rfl) (eC (bj (av ((bB T).mono (by decide)) hr rfl T.m__law_cell T.F__law_cell.kp T.b__law_cell ar (ac (aa 0 rfl) (ac ai ak aM) ag) ⟨ns,_,rfl,h63,by decide,by decide,rfl⟩) ai (by walk_at "mul")) (gK ai ai ⟨by decide,by decide,by decide⟩) (by decide+kernel)) ?_)
 have so:=Az (cel ns 4 * 982451653)
 have se:=Az (cel ns 5 * 69621)
 show Ws _ _ _ _ _ _ [some (.val (.scr (ns.map U.int))),some (.val (.int a)),some (.val (.int b)),some (.val (.int c)),some (.val (.int d)),some (.val (.int (cel ns 4 * 982451653 % 10 ^ (40:Int).toNat))),some (.val (.int (cel ns 5 * 69621 % 10 ^ (40:Int).toNat))),none,none,none,none,none,none,none]
 generalize cel ns 4 * 982451653 % 10 ^ (40:Int).toNat=o at *
 generalize cel ns 5 * 69621 % 10 ^ (40:Int).toNat=e at *
 have bz:∀ p∈ka ns,Szp 8 p:=fun p hp=> by
  obtain ⟨i,_,rfl⟩:=List.mem_map.mp hp
  have:=AV (cel ns (6+(i:Int) * 2)) (cel ns 0)
  unfold pI Szp Sz
  omega
 have bl:(ka ns).length=nP ns:=by unfold ka; simp
 refine ae (ij (ys:=((ka ns).map fun p=> pu (mv a b c d o e p))) (j:=7) false rfl cC.nd rfl (Or.inl rfl) (blk (af iI) ["script","a","b","c","d","over","down","points","x","y","desk","lowest","u","v"] [8,9] rfl rfl rfl rfl (by decide+kernel)) (dw (EvN.ev (dF ((jB T).mono (by decide)) hr rfl T.m__law_points T.F__law_points.kp T.b__law_points ar (ac (aa 0 rfl) ak ag) ⟨ns,rfl,h63,hB,rfl⟩)) (.inl rfl)) (fun _ _ _ _=> fE rfl (aS (aJ (i:=8) cC.nd rfl (Or.inl rfl)) (aS (aJ (i:=9) cC.nd rfl (Or.inl rfl)) dk))) (eR (js:=[8,9]) (by decide)) ?clen ?csz ?dom ?celt ?_)
 case clen=> simp
 case csz=> rw [List.length_map]; exact Nat.le_of_lt (ap (by omega))
 case dom=>
  intro x hx
  obtain ⟨i,hi⟩:=List.mem_iff_getElem?.mp hx
  obtain ⟨p,hp,mp,rfl⟩:=iE hi
  exact ⟨_,rfl,rfl⟩
 case celt=>
  intro C s' H' fp j x y hx hy
  obtain ⟨p,hp,mp,rfl,rfl⟩:=cM hx hy
  have s1:=(bz p mp).1
  have s2:=(bz p mp).2
  exact (cD (aG (dg (dg (bj (aa 1 rfl) (aa 8 rfl) (by walk_at "mul")) (bj (aa 2 rfl) (aa 9 rfl) (by walk_at "mul"))) (aa 5 rfl)) (aG (cH (dg (bj (aa 3 rfl) (aa 8 rfl) (by walk_at "mul")) (bj (aa 4 rfl) (aa 9 rfl) (by walk_at "mul"))) (aa 6 rfl)) ca b_) b_))
 have pz:∀ p∈(ka ns).map (mv a b c d o e),Szp 150 p:=fun p hp=> by
  obtain ⟨q,hq,rfl⟩:=List.mem_map.mp hp
  exact Av h4 so se (bz q hq)
 have pl:((ka ns).map (mv a b c d o e)).length=nP ns:=by rw [List.length_map,bl]
 rw [show ((ka ns).map fun p=> pu (mv a b c d o e p))=((ka ns).map (mv a b c d o e)).map pu by rw [List.map_map]; rfl]
 generalize (ka ns).map (mv a b c d o e)=pts at *
 have pne:pts≠[]:=fun z=> by rw [z] at pl; simp at pl; omega
 have pb:∀ p∈pts,B60 p:=fun p hp=> um (by decide) (pz p hp)
 have cl:=iY pts
 have csz:∀ p∈aA pts,Szp 150 p:=fun p hp=> pz p (cI _ p hp)
 have cne:=iV pne
 have cc:=kJ pts
 have hLp:df pts:=⟨pne,by omega,fun p hp=> ⟨(pz p hp).1.mono (by decide),(pz p hp).2.mono (by decide)⟩⟩
 have hLc:df (aA pts):=⟨cne,by omega,fun p hp=> ⟨(csz p hp).1.mono (by decide),(csz p hp).2.mono (by decide)⟩⟩
 obtain ⟨f,hA,f0,hthin⟩:=nH hLc (fun p hp=> ⟨(csz p hp).1.mono (by decide),(csz p hp).2.mono (by decide)⟩) cc
 have ss:∀ x:P2,nrm (aA pts) x=nrm pts x:=fun x=> m4 _ _ pne
 have s3:Sz 8 (-3):=by decide
 have fz:∀ p∈(aA pts).map (scl (-3)),Szp 158 p:=fun p hp=> by
  obtain ⟨q,hq,rfl⟩:=List.mem_map.mp hp
  exact oB s3 (csz q hq)
 have fne:(aA pts).map (scl (-3))≠[]:=by simpa using cne
 have fl:=iY ((aA pts).map (scl (-3)))
 rw [List.length_map] at fl
 have gsz:∀ p∈aA ((aA pts).map (scl (-3))),Szp 158 p:=fun p hp=> fz p (cI _ p hp)
 have hLg:df (aA ((aA pts).map (scl (-3)))):=⟨iV fne,by omega,fun p hp=> ⟨(gsz p hp).1.mono (by decide),(gsz p hp).2.mono (by decide)⟩⟩
 obtain ⟨g,gA,g0,gthin⟩:=nH hLg (fun p hp=> ⟨(gsz p hp).1.mono (by decide),(gsz p hp).2.mono (by decide)⟩) (kJ _)
 have sg:∀ x:P2,nrm (aA ((aA pts).map (scl (-3)))) x=3 * nrm (aA pts) x:=fun x=> by
  rw [show nrm (aA ((aA pts).map (scl (-3)))) x=nrm ((aA pts).map (scl (-3))) x from m4 _ _ fne,qK (-3) cne x]; rfl
 have s3p:∀ x:P2,nrm (pts.map (scl (-3))) x=3 * nrm pts x:=fun x=> by rw [qK (-3) pne x]; rfl
 have hL3:df (pts.map (scl (-3))):=⟨by simpa using pne,by simp; omega,fun p hp=> by
  obtain ⟨q,hq,rfl⟩:=List.mem_map.mp hp
  have:=oB s3 (pz q hq)
  exact ⟨this.1.mono (by decide),this.2.mono (by decide)⟩⟩
 have hfin:nrm (aA ((aA pts).map (scl (-3)))) g=3 * nrm (aA pts) f:=by
  have k1:=gthin f f0
  have k2:=hthin g g0
  rw [sg] at k1 ⊢
  rw [sg] at k1
  omega
 have hW:Sz 310 (nrm (aA pts) f):=by
  have t:=hthin (1,0) (by decide)
  have z:=lX hLc (m:=8) (x:=(1,0)) ⟨by decide,by decide⟩
  have n0:=aY hLc.ne f
  exact z.natle (by omega)
 refine ae (yo (i:=10) T.m_Desk_init ((xh T).mono (by decide)) hr rfl T.m_Desk T.b_Desk_init ar cC.nd rfl (Or.inl rfl) (fun da dd=> ?_))
 show Ws _ _ _ _ _ _ [some (.val (.scr (ns.map U.int))),some (.val (.int a)),some (.val (.int b)),some (.val (.int c)),some (.val (.int d)),some (.val (.int o)),some (.val (.int e)),some (.val (lp pts)),none,none,some (.dsk true T.c_Desk da dd []),none,none,none]
 have jl:(jn (pts.map ptD)).length≤8200:=qj (fun w hw=> by obtain ⟨p,hp,rfl⟩:=List.mem_map.mp hw; exact jb (pb p hp)) (by simp; omega)
 have ok1:(!eqW (.str "ok") (.str "ok"))=false:=by decide+kernel
 refine ae (xX (mK ok1 (sX (vt (bK hr) (by walk_at "ok") (by walk_at "ok")) (lZ (i:=10) rfl T.cl_Desk T.m_Desk_say ((pG T).mono (by decide)) hr T.b_Desk_say ar (ac (gl aL (av ((j5 T).mono (by decide)) hr rfl T.m__law_shown T.F__law_shown.kp T.b__law_shown ar (ac (aa 7 rfl) ak ag) ⟨pts,rfl,pb,by omega,rfl⟩) (by rw [bi]; exact Nat.le_trans (Nat.add_le_add_left jl _) (by decide+kernel))) ak b_) ⟨jn (cF::[97]::pts.map ptD),[97],lp (aA pts),by rw [vq pts pne],by decide,rfl,.inl ⟨pts,rfl,yf,pne,by omega,pb,fun p hp=> ⟨(pz p hp).1.mono (by decide),(pz p hp).2.mono (by decide)⟩,rfl⟩⟩) aL)) ?_)
 refine ax ?_
 show Ws _ _ _ _ _ _ [some (.val (.scr (ns.map U.int))),some (.val (.int a)),some (.val (.int b)),some (.val (.int c)),some (.val (.int d)),some (.val (.int o)),some (.val (.int e)),some (.val (lp pts)),none,none,some (.dsk true T.c_Desk da dd (kA pts)),none,none,none]
 refine ae (aU (i:=11) (u:=.int (nrm (aA pts) f)) cC.nd rfl (Or.inl rfl) ?ev ?_)
 case ev=>
  refine nI ((gF T).mono (by decide)) hr rfl T.m__law_thin T.F__law_thin.kp T.b__law_thin ar (iU (pO (i:=10) rfl T.cl_Desk T.m_Desk_say ((qH T).mono (by decide)) hr T.b_Desk_say ar (iU sW ak aM) ⟨[97],aA pts,f,by rw [vK],yf,xK pts,hA,rfl⟩) (ac (aa 7 rfl) ak ag) bY) ⟨aA pts,pts,f,rfl,hA,f0,hLp,(ss f).symm,rfl⟩
 refine ae (bh (z7 (aa 11 rfl) (yd _)) rfl (ax ?_))
 have wz:=uc ns h4
 refine ae (jL (fun _:Unit=> [some (.val (.scr (ns.map U.int))),some (.val (.int a)),some (.val (.int b)),some (.val (.int c)),some (.val (.int d)),some (.val (.int o)),some (.val (.int e)),some (.val (lp pts)),none,none,some (.dsk true T.c_Desk da dd (kA pts)),some (.val (.int (nrm (aA pts) f))),none,none]) (fun _ _=> True) rfl PassesOwn.never (dw (EvN.ev (dF ((lD T).mono (by decide)) hr rfl T.m__law_ways T.F__law_ways.kp T.b__law_ways ar (ac (aa 0 rfl) ak ag) ⟨ns,a,b,c,d,rfl,h63,hB,he,h4,rfl⟩)) (.inl rfl)) ?h0 ?hs ?hd)
 case h0=> exact ⟨(),trivial,rfl,rfl,rfl,rfl,rfl,rfl,rfl,rfl,rfl,rfl,trivial⟩
 case hs=>
  intro H0 i x _ hx _
  obtain ⟨p,hp,mp,rfl⟩:=iE hx
  obtain ⟨p0,sp⟩:=wz p mp
  have p1:=sp.1
  have p2:=sp.2
  refine ⟨_,(Aj [12,13] rfl (aS (aJ (i:=12) cC.nd rfl (Or.inl rfl)) (aS (aJ (i:=13) cC.nd rfl (Or.inl rfl)) dk)) rfl),?_⟩
  refine ae (bh (ay iO (av ((gy T).mono (by decide)) hr rfl T.m__law_span T.F__law_span.kp T.b__law_span ar (ac (aa 7 rfl) (ac (aa 12 rfl) (ac (aa 13 rfl) ak ag) ag) ag) ⟨pts,p,rfl,hLp,⟨p1.mono (by decide),p2.mono (by decide)⟩,rfl⟩) (aa 11 rfl)) (decide_eq_false (show ¬ nrm pts p < nrm (aA pts) f by have:=hthin p p0; rw [ss p] at this; omega)) (ax (ax ?_)))
  exact ⟨(),trivial,rfl,rfl,rfl,rfl,rfl,rfl,rfl,rfl,rfl,rfl,trivial⟩
 case hd=>
  intro _ ps _ hps
  refine eJ ?_ hps
  refine ae (xX (mK ok1 (sX (vt (bK hr) (by walk_at "ok") (by walk_at "ok")) (lZ (i:=10) rfl T.cl_Desk T.m_Desk_say ((pG T).mono (by decide)) hr T.b_Desk_say ar (ac aL ak aM) ⟨jn [eN,[98],[97],ds (-3)],[98],lp (aA ((aA pts).map (scl (-3)))),by rw [wN],by simp [kA,j7],rfl,.inr ⟨[97],aA pts,-3,rfl,A5,yf,xK pts,by decide+kernel,s3.mono (by decide),fun p hp=> ⟨(csz p hp).1.mono (by decide),(csz p hp).2.mono (by decide)⟩,cne,by omega,fun p hp=> um (by decide) (gsz p hp),rfl⟩⟩) aL)) ?_)
  refine ax ?_
  show Ws _ _ _ _ _ _ [some (.val (.scr (ns.map U.int))),some (.val (.int a)),some (.val (.int b)),some (.val (.int c)),some (.val (.int d)),some (.val (.int o)),some (.val (.int e)),some (.val (lp pts)),none,none,some (.dsk true T.c_Desk da dd (kB pts)),some (.val (.int (nrm (aA pts) f))),none,none]
  refine ae (bo (kD gP (nI ((gF T).mono (by decide)) hr rfl T.m__law_thin T.F__law_thin.kp T.b__law_thin ar (iU (pO (i:=10) rfl T.cl_Desk T.m_Desk_say ((qH T).mono (by decide)) hr T.b_Desk_say ar (iU sW ak aM) ⟨[98],aA ((aA pts).map (scl (-3))),g,by rw [uH],A5,zT pts,gA,rfl⟩) (ac ?cB ak gM) bY) ⟨aA ((aA pts).map (scl (-3))),pts.map (scl (-3)),g,rfl,gA,g0,hL3,by rw [s3p,sg,ss],rfl⟩) (bj ai (aa 11 rfl) (by walk_at "mul"))) ?_)
  case cB=>
   rw [show lp (pts.map (scl (-3)))=.lst (pts.map fun p=> pu (scl (-3) p)) by rw [lp,List.map_map]; rfl]
   refine EvN.ev ?_
   refine (gx (ys:=(pts.map fun p=> pu (scl (-3) p))) rfl (blk (af iI) ["script","a","b","c","d","over","down","points","x","y","desk","lowest","u","v"] [8,9] rfl rfl rfl rfl (by decide+kernel)) (dw (aa 7 rfl) (.inl rfl)) (fun _ _ _ _=> fE rfl (aS (aJ (i:=8) cC.nd rfl (Or.inl rfl)) (aS (aJ (i:=9) cC.nd rfl (Or.inl rfl)) dk))) (eR (js:=[8,9]) (by decide)) ?clen ?csz ?dom ?celt)
   case clen=> simp
   case csz=> rw [List.length_map]; exact Nat.le_of_lt (ap (by omega))
   case dom=>
    intro x hx
    obtain ⟨i,hi⟩:=List.mem_iff_getElem?.mp hx
    obtain ⟨p,hp,mp,rfl⟩:=iE hi
    exact ⟨_,rfl,rfl⟩
   case celt=>
    intro C s' H' fp j x y hx hy
    obtain ⟨p,hp,mp,rfl,rfl⟩:=cM hx hy
    have s1:=(pz p mp).1
    have s2:=(pz p mp).2
    exact (cD (aG (bj (gd ai) (aa 8 rfl) (by walk_at "mul")) (aG (bj (gd ai) (aa 9 rfl) (by walk_at "mul")) ca b_) b_))
  exact vB (decide_eq_true hfin)
end
theorem ar1 {p:List Value→Prop} {us:List Value} (h:us.length=1) (q:∀ a0,p [a0]):p us:=match us,h with | [a0],_=> q a0
theorem ar2 {p:List Value→Prop} {us:List Value} (h:us.length=2) (q:∀ a0 a1,p [a0,a1]):p us:=match us,h with | [a0,a1],_=> q a0 a1
theorem ar3 {p:List Value→Prop} {us:List Value} (h:us.length=3) (q:∀ a0 a1 a2,p [a0,a1,a2]):p us:=match us,h with | [a0,a1,a2],_=> q a0 a1 a2
theorem ar4 {p:List Value→Prop} {us:List Value} (h:us.length=4) (q:∀ a0 a1 a2 a3,p [a0,a1,a2,a3]):p us:=match us,h with | [a0,a1,a2,a3],_=> q a0 a1 a2 a3
set_option maxHeartbeats 8000000 in
theorem txt_mk {K:PySem.W.Frag} {h:Heap} {mg:Str→Option Value} {fa f0 f1 f2 f3 f4 f5 f6 f7 f8 f9 f10 f11 f12 f13 f14 f15 f16 f17 f18 f19 f20 f21 f22 f23 f24 f25 f26 f27 f28 f29 f30 f31 f32 f33 f34 f35 f36 f37 f38:Addr} {w:World} (X:K.In h) (G:h.Ns mainGlobals mg) (hfa:mg "law"=some (.ref fa))
  {od0 an0 od1 an1 od2 an2 od3 an3 od4 an4 od5 an5 od6 an6 od7 an7 od8 an8 od9 an9 od10 an10 od11 an11 od12 an12 od13 an13 od14 an14 od15 an15 od16 an16 od17 an17 od18 an18 od19 an19 od20 an20 od21 an21 od22 an22 od23 an23 od24 an24 od25 an25 od26 an26 od27 an27 od28 an28 od29 an29 od30 an30 od31 an31 od32 an32 od33 an33 od34 an34 od35 an35 od36 an36 od37 an37 od38 an38:Option Addr} {sl0 sl1 sl2 sl3 sl4 sl5 sl6 sl7 sl8 sl9 sl10 sl11 sl12 sl13 sl14 sl15 sl16 sl17 sl18 sl19 sl20 sl21 sl22 sl23 sl24 sl25 sl26 sl27 sl28 sl29 sl30 sl31 sl32 sl33 sl34 sl35 sl36 sl37 sl38:Array (Option Value)} {oc0 kV0 dc0 pm0 cd0 ct0 oc1 kV1 dc1 pm1 cd1 ct1 oc2 kV2 dc2 pm2 cd2 ct2 oc3 kV3 dc3 pm3 cd3 ct3 oc4 kV4 dc4 pm4 cd4 ct4 oc5 kV5 dc5 pm5 cd5 ct5 oc6 kV6 dc6 pm6 cd6 ct6 oc7 kV7 dc7 pm7 cd7 ct7 oc8 kV8 dc8 pm8 cd8 ct8 oc9 kV9 dc9 pm9 cd9 ct9 oc10 kV10 dc10 pm10 cd10 ct10 oc11 kV11 dc11 pm11 cd11 ct11 oc12 kV12 dc12 pm12 cd12 ct12 oc13 kV13 dc13 pm13 cd13 ct13 oc14 kV14 dc14 pm14 cd14 ct14 oc15 kV15 dc15 pm15 cd15 ct15 oc16 kV16 dc16 pm16 cd16 ct16 oc17 kV17 dc17 pm17 cd17 ct17 oc18 kV18 dc18 pm18 cd18 ct18 oc19 kV19 dc19 pm19 cd19 ct19 oc20 kV20 dc20 pm20 cd20 ct20 oc21 kV21 dc21 pm21 cd21 ct21 oc22 kV22 dc22 pm22 cd22 ct22 oc23 kV23 dc23 pm23 cd23 ct23 oc24 kV24 dc24 pm24 cd24 ct24 oc25 kV25 dc25 pm25 cd25 ct25 oc26 kV26 dc26 pm26 cd26 ct26 oc27 kV27 dc27 pm27 cd27 ct27 oc28 kV28 dc28 pm28 cd28 ct28 oc29 kV29 dc29 pm29 cd29 ct29 oc30 kV30 dc30 pm30 cd30 ct30 oc31 kV31 dc31 pm31 cd31 ct31 oc32 kV32 dc32 pm32 cd32 ct32 oc33 kV33 dc33 pm33 cd33 ct33 oc34 kV34 dc34 pm34 cd34 ct34 oc35 kV35 dc35 pm35 cd35 ct35 oc36 kV36 dc36 pm36 cd36 ct36 oc37 kV37 dc37 pm37 cd37 ct37 oc38 kV38 dc38 pm38 cd38 ct38:Value}
  {C_Desk:Addr} (ca_Desk:PySem.W.nsIn K mainGlobals "Desk"=some (some (.ref C_Desk))) (cb_Desk:PySem.W.plainGet K C_Desk Str.empty=true) (cc_Desk:PySem.W.hasDictIn K C_Desk=true) (cd_Desk:PySem.W.plainOver K C_Desk=true) (ce_Desk:PySem.W.findIn K (.ref C_Desk) "__setattr__"=some (some (.builtin "object.__setattr__"))) (cf_Desk:PySem.W.findIn K (.ref C_Desk) "lands"=some none) (cg_Desk:PySem.W.makesIn K C_Desk=true) (ch_Desk:PySem.W.keepIn K (.ref C_Desk)=true)
  {A_ROWS:Addr} {n_ROWS:Nat} {ROWSt0 ROWSu0 ROWSt1 ROWSu1 ROWSt2 ROWSu2 ROWSt3 ROWSu3 ROWSt4 ROWSu4 ROWSt5 ROWSu5 ROWSt6 ROWSu6 ROWSt7 ROWSu7 ROWSt8 ROWSu8 ROWSt9 ROWSu9 ROWSt10 ROWSu10 ROWSt11 ROWSu11 ROWSt12 ROWSu12 ROWSt13 ROWSu13 ROWSt14 ROWSu14 ROWSt15 ROWSu15 ROWSt16 ROWSu16 ROWSt17 ROWSu17 ROWSt18 ROWSu18:Tok} (ta_ROWS:PySem.W.nsIn K mainGlobals "ROWS"=some (some (.ref A_ROWS))) (dR:K.lookup A_ROWS=some ⟨.type "dict",none,.dict #[⟨PyData.keyHash w.params "field",.str "field" ROWSt0,.str "NEW P" ROWSu0⟩,⟨PyData.keyHash w.params "move",.str "move" ROWSt1,.str "NEW ONE A B C D E F" ROWSu1⟩,⟨PyData.keyHash w.params "fold",.str "fold" ROWSt2,.str "NEW ONE K" ROWSu2⟩,⟨PyData.keyHash w.params "sum",.str "sum" ROWSt3,.str "NEW ONE OTHER" ROWSu3⟩,⟨PyData.keyHash w.params "form",.str "form" ROWSt4,.str "NEW ONE" ROWSu4⟩,⟨PyData.keyHash w.params "facing",.str "facing" ROWSt5,.str "NEW ONE" ROWSu5⟩,⟨PyData.keyHash w.params "drop",.str "drop" ROWSt6,.str "ONE" ROWSu6⟩,⟨PyData.keyHash w.params "names",.str "names" ROWSt7,.str "" ROWSu7⟩,⟨PyData.keyHash w.params "show",.str "show" ROWSt8,.str "ONE" ROWSu8⟩,⟨PyData.keyHash w.params "area",.str "area" ROWSt9,.str "ONE" ROWSu9⟩,⟨PyData.keyHash w.params "rim",.str "rim" ROWSt10,.str "ONE" ROWSu10⟩,⟨PyData.keyHash w.params "count",.str "count" ROWSt11,.str "ONE K" ROWSu11⟩,⟨PyData.keyHash w.params "inner",.str "inner" ROWSt12,.str "ONE K" ROWSu12⟩,⟨PyData.keyHash w.params "mixed",.str "mixed" ROWSt13,.str "ONE OTHER" ROWSu13⟩,⟨PyData.keyHash w.params "share",.str "share" ROWSt14,.str "ONE A B C" ROWSu14⟩,⟨PyData.keyHash w.params "where",.str "where" ROWSt15,.str "ONE P" ROWSu15⟩,⟨PyData.keyHash w.params "tell",.str "tell" ROWSt16,.str "ONE K P" ROWSu16⟩,⟨PyData.keyHash w.params "alike",.str "alike" ROWSt17,.str "ONE OTHER" ROWSu17⟩,⟨PyData.keyHash w.params "thin",.str "thin" ROWSt18,.str "ONE" ROWSu18⟩] n_ROWS,#[]⟩) (tc_ROWS:(A_ROWS==sysModules)=false)
  (a0:PySem.W.nsIn K mainGlobals "sign"=some (some (.ref f0))) (l0:K.lookup f0=some ⟨oc0,od0,.func (PySem.W.fnOf "sign" "sign" (au iB) (ao iB) (af iB) .none kV0 dc0 pm0 an0 cd0 ct0),sl0⟩) (c0:PySem.W.codeIn K cd0 "sign"=true) (k0:PySem.W.keepIn K (.ref f0)=true)
  (a1:PySem.W.nsIn K mainGlobals "turn"=some (some (.ref f1))) (l1:K.lookup f1=some ⟨oc1,od1,.func (PySem.W.fnOf "turn" "turn" (au ip) (ao ip) (af ip) .none kV1 dc1 pm1 an1 cd1 ct1),sl1⟩) (c1:PySem.W.codeIn K cd1 "turn"=true) (k1:PySem.W.keepIn K (.ref f1)=true)
  (a2:PySem.W.nsIn K mainGlobals "left_bends"=some (some (.ref f2))) (l2:K.lookup f2=some ⟨oc2,od2,.func (PySem.W.fnOf "left_bends" "left_bends" (au cu) (ao cu) (af cu) .none kV2 dc2 pm2 an2 cd2 ct2),sl2⟩) (c2:PySem.W.codeIn K cd2 "left_bends"=true) (k2:PySem.W.keepIn K (.ref f2)=true)
  (a3:PySem.W.nsIn K mainGlobals "field"=some (some (.ref f3))) (l3:K.lookup f3=some ⟨oc3,od3,.func (PySem.W.fnOf "field" "field" (au fJ) (ao fJ) (af fJ) .none kV3 dc3 pm3 an3 cd3 ct3),sl3⟩) (c3:PySem.W.codeIn K cd3 "field"=true) (k3:PySem.W.keepIn K (.ref f3)=true)
  (a4:PySem.W.nsIn K mainGlobals "fold"=some (some (.ref f4))) (l4:K.lookup f4=some ⟨oc4,od4,.func (PySem.W.fnOf "fold" "fold" (au gv) (ao gv) (af gv) .none kV4 dc4 pm4 an4 cd4 ct4),sl4⟩) (c4:PySem.W.codeIn K cd4 "fold"=true) (k4:PySem.W.keepIn K (.ref f4)=true)
  (a5:PySem.W.nsIn K mainGlobals "need_text"=some (some (.ref f5))) (l5:K.lookup f5=some ⟨oc5,od5,.func (PySem.W.fnOf "need_text" "need_text" (au cT) (ao cT) (af cT) .none kV5 dc5 pm5 an5 cd5 ct5),sl5⟩) (c5:PySem.W.codeIn K cd5 "need_text"=true) (k5:PySem.W.keepIn K (.ref f5)=true)
  (a6:PySem.W.nsIn K mainGlobals "is_written_number"=some (some (.ref f6))) (l6:K.lookup f6=some ⟨oc6,od6,.func (PySem.W.fnOf "is_written_number" "is_written_number" (au aZ) (ao aZ) (af aZ) .none kV6 dc6 pm6 an6 cd6 ct6),sl6⟩) (c6:PySem.W.codeIn K cd6 "is_written_number"=true) (k6:PySem.W.keepIn K (.ref f6)=true)
  (a7:PySem.W.nsIn K mainGlobals "read_number"=some (some (.ref f7))) (l7:K.lookup f7=some ⟨oc7,od7,.func (PySem.W.fnOf "read_number" "read_number" (au bR) (ao bR) (af bR) .none kV7 dc7 pm7 an7 cd7 ct7),sl7⟩) (c7:PySem.W.codeIn K cd7 "read_number"=true) (k7:PySem.W.keepIn K (.ref f7)=true)
  (a8:PySem.W.nsIn K mainGlobals "read_point"=some (some (.ref f8))) (l8:K.lookup f8=some ⟨oc8,od8,.func (PySem.W.fnOf "read_point" "read_point" (au cy) (ao cy) (af cy) .none kV8 dc8 pm8 an8 cd8 ct8),sl8⟩) (c8:PySem.W.codeIn K cd8 "read_point"=true) (k8:PySem.W.keepIn K (.ref f8)=true)
  (a9:PySem.W.nsIn K mainGlobals "show_number"=some (some (.ref f9))) (l9:K.lookup f9=some ⟨oc9,od9,.func (PySem.W.fnOf "show_number" "show_number" (au bT) (ao bT) (af bT) .none kV9 dc9 pm9 an9 cd9 ct9),sl9⟩) (c9:PySem.W.codeIn K cd9 "show_number"=true) (k9:PySem.W.keepIn K (.ref f9)=true)
  (a10:PySem.W.nsIn K mainGlobals "show_point"=some (some (.ref f10))) (l10:K.lookup f10=some ⟨oc10,od10,.func (PySem.W.fnOf "show_point" "show_point" (au cx) (ao cx) (af cx) .none kV10 dc10 pm10 an10 cd10 ct10),sl10⟩) (c10:PySem.W.codeIn K cd10 "show_point"=true) (k10:PySem.W.keepIn K (.ref f10)=true)
  (a11:PySem.W.nsIn K mainGlobals "span"=some (some (.ref f11))) (l11:K.lookup f11=some ⟨oc11,od11,.func (PySem.W.fnOf "span" "span" (au gw) (ao gw) (af gw) .none kV11 dc11 pm11 an11 cd11 ct11),sl11⟩) (c11:PySem.W.codeIn K cd11 "span"=true) (k11:PySem.W.keepIn K (.ref f11)=true)
  (a12:PySem.W.nsIn K mainGlobals "span_along"=some (some (.ref f12))) (l12:K.lookup f12=some ⟨oc12,od12,.func (PySem.W.fnOf "span_along" "span_along" (au cq) (ao cq) (af cq) .none kV12 dc12 pm12 an12 cd12 ct12),sl12⟩) (c12:PySem.W.codeIn K cd12 "span_along"=true) (k12:PySem.W.keepIn K (.ref f12)=true)
  (a13:PySem.W.nsIn K mainGlobals "aside"=some (some (.ref f13))) (l13:K.lookup f13=some ⟨oc13,od13,.func (PySem.W.fnOf "aside" "aside" (au fK) (ao fK) (af fK) .none kV13 dc13 pm13 an13 cd13 ct13),sl13⟩) (c13:PySem.W.codeIn K cd13 "aside"=true) (k13:PySem.W.keepIn K (.ref f13)=true)
  (a14:PySem.W.nsIn K mainGlobals "falls"=some (some (.ref f14))) (l14:K.lookup f14=some ⟨oc14,od14,.func (PySem.W.fnOf "falls" "falls" (au fL) (ao fL) (af fL) .none kV14 dc14 pm14 an14 cd14 ct14),sl14⟩) (c14:PySem.W.codeIn K cd14 "falls"=true) (k14:PySem.W.keepIn K (.ref f14)=true)
  (a15:PySem.W.nsIn K mainGlobals "fallen"=some (some (.ref f15))) (l15:K.lookup f15=some ⟨oc15,od15,.func (PySem.W.fnOf "fallen" "fallen" (au eG) (ao eG) (af eG) .none kV15 dc15 pm15 an15 cd15 ct15),sl15⟩) (c15:PySem.W.codeIn K cd15 "fallen"=true) (k15:PySem.W.keepIn K (.ref f15)=true)
  (a16:PySem.W.nsIn K mainGlobals "shortened"=some (some (.ref f16))) (l16:K.lookup f16=some ⟨oc16,od16,.func (PySem.W.fnOf "shortened" "shortened" (au cS) (ao cS) (af cS) .none kV16 dc16 pm16 an16 cd16 ct16),sl16⟩) (c16:PySem.W.codeIn K cd16 "shortened"=true) (k16:PySem.W.keepIn K (.ref f16)=true)
  (a17:PySem.W.nsIn K mainGlobals "thin"=some (some (.ref f17))) (l17:K.lookup f17=some ⟨oc17,od17,.func (PySem.W.fnOf "thin" "thin" (au h9) (ao h9) (af h9) .none kV17 dc17 pm17 an17 cd17 ct17),sl17⟩) (c17:PySem.W.codeIn K cd17 "thin"=true) (k17:PySem.W.keepIn K (.ref f17)=true)
  (a18:PySem.W.nsIn K mainGlobals "row_words"=some (some (.ref f18))) (l18:K.lookup f18=some ⟨oc18,od18,.func (PySem.W.fnOf "row_words" "row_words" (au cX) (ao cX) (af cX) .none kV18 dc18 pm18 an18 cd18 ct18),sl18⟩) (c18:PySem.W.codeIn K cd18 "row_words"=true) (k18:PySem.W.keepIn K (.ref f18)=true)
  (a19:PySem.W.nsIn K mainGlobals "wanted"=some (some (.ref f19))) (l19:K.lookup f19=some ⟨oc19,od19,.func (PySem.W.fnOf "wanted" "wanted" (au eK) (ao eK) (af eK) .none kV19 dc19 pm19 an19 cd19 ct19),sl19⟩) (c19:PySem.W.codeIn K cd19 "wanted"=true) (k19:PySem.W.keepIn K (.ref f19)=true)
  (a20:PySem.W.nsIn K mainGlobals "need_name"=some (some (.ref f20))) (l20:K.lookup f20=some ⟨oc20,od20,.func (PySem.W.fnOf "need_name" "need_name" (au cf) (ao cf) (af cf) .none kV20 dc20 pm20 an20 cd20 ct20),sl20⟩) (c20:PySem.W.codeIn K cd20 "need_name"=true) (k20:PySem.W.keepIn K (.ref f20)=true)
  (a21:PySem.W.nsIn K mainGlobals "need_fit"=some (some (.ref f21))) (l21:K.lookup f21=some ⟨oc21,od21,.func (PySem.W.fnOf "need_fit" "need_fit" (au bL) (ao bL) (af bL) .none kV21 dc21 pm21 an21 cd21 ct21),sl21⟩) (c21:PySem.W.codeIn K cd21 "need_fit"=true) (k21:PySem.W.keepIn K (.ref f21)=true)
  (a22:PySem.W.nsIn K mainGlobals "made"=some (some (.ref f22))) (l22:K.lookup f22=some ⟨oc22,od22,.func (PySem.W.fnOf "made" "made" (au im) (ao im) (af im) .none kV22 dc22 pm22 an22 cd22 ct22),sl22⟩) (c22:PySem.W.codeIn K cd22 "made"=true) (k22:PySem.W.keepIn K (.ref f22)=true)
  (a23:PySem.W.nsIn K mainGlobals "show_thin"=some (some (.ref f23))) (l23:K.lookup f23=some ⟨oc23,od23,.func (PySem.W.fnOf "show_thin" "show_thin" (au cQ) (ao cQ) (af cQ) .none kV23 dc23 pm23 an23 cd23 ct23),sl23⟩) (c23:PySem.W.codeIn K cd23 "show_thin"=true) (k23:PySem.W.keepIn K (.ref f23)=true)
  (a24:PySem.W.nsIn K mainGlobals "answer"=some (some (.ref f24))) (l24:K.lookup f24=some ⟨oc24,od24,.func (PySem.W.fnOf "answer" "answer" (au eO) (ao eO) (af eO) .none kV24 dc24 pm24 an24 cd24 ct24),sl24⟩) (c24:PySem.W.codeIn K cd24 "answer"=true) (k24:PySem.W.keepIn K (.ref f24)=true)
  (a25:PySem.W.nsIn K mainGlobals "_law_cell"=some (some (.ref f25))) (l25:K.lookup f25=some ⟨oc25,od25,.func (PySem.W.fnOf "_law_cell" "_law_cell" (au cR) (ao cR) (af cR) .none kV25 dc25 pm25 an25 cd25 ct25),sl25⟩) (c25:PySem.W.codeIn K cd25 "_law_cell"=true) (k25:PySem.W.keepIn K (.ref f25)=true)
  (a26:PySem.W.nsIn K mainGlobals "_law_table"=some (some (.ref f26))) (l26:K.lookup f26=some ⟨oc26,od26,.func (PySem.W.fnOf "_law_table" "_law_table" (au ci) (ao ci) (af ci) .none kV26 dc26 pm26 an26 cd26 ct26),sl26⟩) (c26:PySem.W.codeIn K cd26 "_law_table"=true) (k26:PySem.W.keepIn K (.ref f26)=true)
  (a27:PySem.W.nsIn K mainGlobals "_law_number"=some (some (.ref f27))) (l27:K.lookup f27=some ⟨oc27,od27,.func (PySem.W.fnOf "_law_number" "_law_number" (au bQ) (ao bQ) (af bQ) .none kV27 dc27 pm27 an27 cd27 ct27),sl27⟩) (c27:PySem.W.codeIn K cd27 "_law_number"=true) (k27:PySem.W.keepIn K (.ref f27)=true)
  (a28:PySem.W.nsIn K mainGlobals "_law_numbers"=some (some (.ref f28))) (l28:K.lookup f28=some ⟨oc28,od28,.func (PySem.W.fnOf "_law_numbers" "_law_numbers" (au bC) (ao bC) (af bC) .none kV28 dc28 pm28 an28 cd28 ct28),sl28⟩) (c28:PySem.W.codeIn K cd28 "_law_numbers"=true) (k28:PySem.W.keepIn K (.ref f28)=true)
  (a29:PySem.W.nsIn K mainGlobals "_law_shown"=some (some (.ref f29))) (l29:K.lookup f29=some ⟨oc29,od29,.func (PySem.W.fnOf "_law_shown" "_law_shown" (au bN) (ao bN) (af bN) .none kV29 dc29 pm29 an29 cd29 ct29),sl29⟩) (c29:PySem.W.codeIn K cd29 "_law_shown"=true) (k29:PySem.W.keepIn K (.ref f29)=true)
  (a30:PySem.W.nsIn K mainGlobals "_law_points"=some (some (.ref f30))) (l30:K.lookup f30=some ⟨oc30,od30,.func (PySem.W.fnOf "_law_points" "_law_points" (au bP) (ao bP) (af bP) .none kV30 dc30 pm30 an30 cd30 ct30),sl30⟩) (c30:PySem.W.codeIn K cd30 "_law_points"=true) (k30:PySem.W.keepIn K (.ref f30)=true)
  (a31:PySem.W.nsIn K mainGlobals "_law_ways"=some (some (.ref f31))) (l31:K.lookup f31=some ⟨oc31,od31,.func (PySem.W.fnOf "_law_ways" "_law_ways" (au bX) (ao bX) (af bX) .none kV31 dc31 pm31 an31 cd31 ct31),sl31⟩) (c31:PySem.W.codeIn K cd31 "_law_ways"=true) (k31:PySem.W.keepIn K (.ref f31)=true)
  (a32:PySem.W.nsIn K mainGlobals "_law_span"=some (some (.ref f32))) (l32:K.lookup f32=some ⟨oc32,od32,.func (PySem.W.fnOf "_law_span" "_law_span" (au cg) (ao cg) (af cg) .none kV32 dc32 pm32 an32 cd32 ct32),sl32⟩) (c32:PySem.W.codeIn K cd32 "_law_span"=true) (k32:PySem.W.keepIn K (.ref f32)=true)
  (a33:PySem.W.nsIn K mainGlobals "_law_thin"=some (some (.ref f33))) (l33:K.lookup f33=some ⟨oc33,od33,.func (PySem.W.fnOf "_law_thin" "_law_thin" (au cV) (ao cV) (af cV) .none kV33 dc33 pm33 an33 cd33 ct33),sl33⟩) (c33:PySem.W.codeIn K cd33 "_law_thin"=true) (k33:PySem.W.keepIn K (.ref f33)=true)
  (a34:PySem.W.nsIn K mainGlobals "law"=some (some (.ref f34))) (l34:K.lookup f34=some ⟨oc34,od34,.func (PySem.W.fnOf "law" "law" (au iI) (ao iI) (af iI) .none kV34 dc34 pm34 an34 cd34 ct34),sl34⟩) (c34:PySem.W.codeIn K cd34 "law"=true) (k34:PySem.W.keepIn K (.ref f34)=true)
  (a35:PySem.W.findIn K (.ref C_Desk) "__init__"=some (some (.ref f35))) (l35:K.lookup f35=some ⟨oc35,od35,.func (PySem.W.fnOf "__init__" "Desk.__init__" (au cY) (ao cY) (af cY) .none kV35 dc35 pm35 an35 cd35 ct35),sl35⟩) (c35:PySem.W.codeIn K cd35 "Desk.__init__"=true) (k35:PySem.W.keepIn K (.ref f35)=true) (n35:PySem.W.isFn K (.ref f35)=true)
  (a36:PySem.W.findIn K (.ref C_Desk) "read"=some (some (.ref f36))) (l36:K.lookup f36=some ⟨oc36,od36,.func (PySem.W.fnOf "read" "Desk.read" (au cW) (ao cW) (af cW) .none kV36 dc36 pm36 an36 cd36 ct36),sl36⟩) (c36:PySem.W.codeIn K cd36 "Desk.read"=true) (k36:PySem.W.keepIn K (.ref f36)=true) (n36:PySem.W.isFn K (.ref f36)=true)
  (a37:PySem.W.findIn K (.ref C_Desk) "keep"=some (some (.ref f37))) (l37:K.lookup f37=some ⟨oc37,od37,.func (PySem.W.fnOf "keep" "Desk.keep" (au cP) (ao cP) (af cP) .none kV37 dc37 pm37 an37 cd37 ct37),sl37⟩) (c37:PySem.W.codeIn K cd37 "Desk.keep"=true) (k37:PySem.W.keepIn K (.ref f37)=true) (n37:PySem.W.isFn K (.ref f37)=true)
  (a38:PySem.W.findIn K (.ref C_Desk) "say"=some (some (.ref f38))) (l38:K.lookup f38=some ⟨oc38,od38,.func (PySem.W.fnOf "say" "Desk.say" (au bM) (ao bM) (af bM) .none kV38 dc38 pm38 an38 cd38 ct38),sl38⟩) (c38:PySem.W.codeIn K cd38 "Desk.say"=true) (k38:PySem.W.keepIn K (.ref f38)=true) (n38:PySem.W.isFn K (.ref f38)=true)
  (z_abs:PySem.W.nsIn K mainGlobals "abs"=some none)
  (z_all:PySem.W.nsIn K mainGlobals "all"=some none)
  (z_int:PySem.W.nsIn K mainGlobals "int"=some none)
  (z_isinstance:PySem.W.nsIn K mainGlobals "isinstance"=some none)
  (z_len:PySem.W.nsIn K mainGlobals "len"=some none)
  (z_max:PySem.W.nsIn K mainGlobals "max"=some none)
  (z_min:PySem.W.nsIn K mainGlobals "min"=some none)
  (z_range:PySem.W.nsIn K mainGlobals "range"=some none)
  (z_set:PySem.W.nsIn K mainGlobals "set"=some none)
  (z_sorted:PySem.W.nsIn K mainGlobals "sorted"=some none)
  (z_str:PySem.W.nsIn K mainGlobals "str"=some none)
  (z_zip:PySem.W.nsIn K mainGlobals "zip"=some none)
  {t_FIGURES:_} (g_FIGURES:PySem.W.nsIn K mainGlobals "FIGURES"=some (some (.str "0123456789" t_FIGURES)))
  {t_MOST_CORNERS:_} (g_MOST_CORNERS:PySem.W.nsIn K mainGlobals "MOST_CORNERS"=some (some (.int 60 t_MOST_CORNERS)))
  {t_MOST_FIGURES:_} (g_MOST_FIGURES:PySem.W.nsIn K mainGlobals "MOST_FIGURES"=some (some (.int 60 t_MOST_FIGURES)))
  {t_MOST_LETTERS:_} (g_MOST_LETTERS:PySem.W.nsIn K mainGlobals "MOST_LETTERS"=some (some (.int 8 t_MOST_LETTERS)))
  {t_MOST_POINTS:_} (g_MOST_POINTS:PySem.W.nsIn K mainGlobals "MOST_POINTS"=some (some (.int 60 t_MOST_POINTS)))
  :∃ T:Txt w K mg,T.a_law=fa∧(∀ (s:Shared) (v:Value),BindsTo s T.d_law ⟨[v],[]⟩ [("script",v)]):=by
 have e:=hfa.symm.trans (PySem.W.mg_of X G a34)
 cases e
 have F0:=aP (st:=iB) l0 c0 k0
 have b0:=F0.binds (ps:=["number"]) fun _ _ _ _ _ _ us hl=> ar1 (p:=fun us=> bindArgs _ ⟨us,[]⟩=pure (List.zip _ us)) hl fun _=> rfl
 have F1:=aP (st:=ip) l1 c1 k1
 have b1:=F1.binds (ps:=["P","Q","R"]) fun _ _ _ _ _ _ us hl=> ar3 (p:=fun us=> bindArgs _ ⟨us,[]⟩=pure (List.zip _ us)) hl fun _ _ _=> rfl
 have F2:=aP (st:=cu) l2 c2 k2
 have b2:=F2.binds (ps:=["row"]) fun _ _ _ _ _ _ us hl=> ar1 (p:=fun us=> bindArgs _ ⟨us,[]⟩=pure (List.zip _ us)) hl fun _=> rfl
 have F3:=aP (st:=fJ) l3 c3 k3
 have b3:=F3.binds (ps:=["points"]) fun _ _ _ _ _ _ us hl=> ar1 (p:=fun us=> bindArgs _ ⟨us,[]⟩=pure (List.zip _ us)) hl fun _=> rfl
 have F4:=aP (st:=gv) l4 c4 k4
 have b4:=F4.binds (ps:=["land","k"]) fun _ _ _ _ _ _ us hl=> ar2 (p:=fun us=> bindArgs _ ⟨us,[]⟩=pure (List.zip _ us)) hl fun _ _=> rfl
 have F5:=aP (st:=cT) l5 c5 k5
 have b5:=F5.binds (ps:=["thing"]) fun _ _ _ _ _ _ us hl=> ar1 (p:=fun us=> bindArgs _ ⟨us,[]⟩=pure (List.zip _ us)) hl fun _=> rfl
 have F6:=aP (st:=aZ) l6 c6 k6
 have b6:=F6.binds (ps:=["text"]) fun _ _ _ _ _ _ us hl=> ar1 (p:=fun us=> bindArgs _ ⟨us,[]⟩=pure (List.zip _ us)) hl fun _=> rfl
 have F7:=aP (st:=bR) l7 c7 k7
 have b7:=F7.binds (ps:=["text"]) fun _ _ _ _ _ _ us hl=> ar1 (p:=fun us=> bindArgs _ ⟨us,[]⟩=pure (List.zip _ us)) hl fun _=> rfl
 have F8:=aP (st:=cy) l8 c8 k8
 have b8:=F8.binds (ps:=["text"]) fun _ _ _ _ _ _ us hl=> ar1 (p:=fun us=> bindArgs _ ⟨us,[]⟩=pure (List.zip _ us)) hl fun _=> rfl
 have F9:=aP (st:=bT) l9 c9 k9
 have b9:=F9.binds (ps:=["number"]) fun _ _ _ _ _ _ us hl=> ar1 (p:=fun us=> bindArgs _ ⟨us,[]⟩=pure (List.zip _ us)) hl fun _=> rfl
 have F10:=aP (st:=cx) l10 c10 k10
 have b10:=F10.binds (ps:=["P"]) fun _ _ _ _ _ _ us hl=> ar1 (p:=fun us=> bindArgs _ ⟨us,[]⟩=pure (List.zip _ us)) hl fun _=> rfl
 have F11:=aP (st:=gw) l11 c11 k11
 have b11:=F11.binds (ps:=["land","a","b"]) fun _ _ _ _ _ _ us hl=> ar3 (p:=fun us=> bindArgs _ ⟨us,[]⟩=pure (List.zip _ us)) hl fun _ _ _=> rfl
 have F12:=aP (st:=cq) l12 c12 k12
 have b12:=F12.binds (ps:=["land","way"]) fun _ _ _ _ _ _ us hl=> ar2 (p:=fun us=> bindArgs _ ⟨us,[]⟩=pure (List.zip _ us)) hl fun _ _=> rfl
 have F13:=aP (st:=fK) l13 c13 k13
 have b13:=F13.binds (ps:=["first","second","m"]) fun _ _ _ _ _ _ us hl=> ar3 (p:=fun us=> bindArgs _ ⟨us,[]⟩=pure (List.zip _ us)) hl fun _ _ _=> rfl
 have F14:=aP (st:=fL) l14 c14 k14
 have b14:=F14.binds (ps:=["land","first","second","m"]) fun _ _ _ _ _ _ us hl=> ar4 (p:=fun us=> bindArgs _ ⟨us,[]⟩=pure (List.zip _ us)) hl fun _ _ _ _=> rfl
 have F15:=aP (st:=eG) l15 c15 k15
 have b15:=F15.binds (ps:=["land","first","second"]) fun _ _ _ _ _ _ us hl=> ar3 (p:=fun us=> bindArgs _ ⟨us,[]⟩=pure (List.zip _ us)) hl fun _ _ _=> rfl
 have F16:=aP (st:=cS) l16 c16 k16
 have b16:=F16.binds (ps:=["land","first","second"]) fun _ _ _ _ _ _ us hl=> ar3 (p:=fun us=> bindArgs _ ⟨us,[]⟩=pure (List.zip _ us)) hl fun _ _ _=> rfl
 have F17:=aP (st:=h9) l17 c17 k17
 have b17:=F17.binds (ps:=["land"]) fun _ _ _ _ _ _ us hl=> ar1 (p:=fun us=> bindArgs _ ⟨us,[]⟩=pure (List.zip _ us)) hl fun _=> rfl
 have F18:=aP (st:=cX) l18 c18 k18
 have b18:=F18.binds (ps:=["row"]) fun _ _ _ _ _ _ us hl=> ar1 (p:=fun us=> bindArgs _ ⟨us,[]⟩=pure (List.zip _ us)) hl fun _=> rfl
 have F19:=aP (st:=eK) l19 c19 k19
 have b19:=F19.binds (ps:=["words"]) fun _ _ _ _ _ _ us hl=> ar1 (p:=fun us=> bindArgs _ ⟨us,[]⟩=pure (List.zip _ us)) hl fun _=> rfl
 have F20:=aP (st:=cf) l20 c20 k20
 have b20:=F20.binds (ps:=["word"]) fun _ _ _ _ _ _ us hl=> ar1 (p:=fun us=> bindArgs _ ⟨us,[]⟩=pure (List.zip _ us)) hl fun _=> rfl
 have F21:=aP (st:=bL) l21 c21 k21
 have b21:=F21.binds (ps:=["land"]) fun _ _ _ _ _ _ us hl=> ar1 (p:=fun us=> bindArgs _ ⟨us,[]⟩=pure (List.zip _ us)) hl fun _=> rfl
 have F22:=aP (st:=im) l22 c22 k22
 have b22:=F22.binds (ps:=["deed","given"]) fun _ _ _ _ _ _ us hl=> ar2 (p:=fun us=> bindArgs _ ⟨us,[]⟩=pure (List.zip _ us)) hl fun _ _=> rfl
 have F23:=aP (st:=cQ) l23 c23 k23
 have b23:=F23.binds (ps:=["land"]) fun _ _ _ _ _ _ us hl=> ar1 (p:=fun us=> bindArgs _ ⟨us,[]⟩=pure (List.zip _ us)) hl fun _=> rfl
 have F24:=aP (st:=eO) l24 c24 k24
 have b24:=F24.binds (ps:=["deed","given"]) fun _ _ _ _ _ _ us hl=> ar2 (p:=fun us=> bindArgs _ ⟨us,[]⟩=pure (List.zip _ us)) hl fun _ _=> rfl
 have F25:=aP (st:=cR) l25 c25 k25
 have b25:=F25.binds (ps:=["script","k"]) fun _ _ _ _ _ _ us hl=> ar2 (p:=fun us=> bindArgs _ ⟨us,[]⟩=pure (List.zip _ us)) hl fun _ _=> rfl
 have F26:=aP (st:=ci) l26 c26 k26
 have b26:=F26.binds (ps:=["script"]) fun _ _ _ _ _ _ us hl=> ar1 (p:=fun us=> bindArgs _ ⟨us,[]⟩=pure (List.zip _ us)) hl fun _=> rfl
 have F27:=aP (st:=bQ) l27 c27 k27
 have b27:=F27.binds (ps:=["word"]) fun _ _ _ _ _ _ us hl=> ar1 (p:=fun us=> bindArgs _ ⟨us,[]⟩=pure (List.zip _ us)) hl fun _=> rfl
 have F28:=aP (st:=bC) l28 c28 k28
 have b28:=F28.binds (ps:=["answer_v"]) fun _ _ _ _ _ _ us hl=> ar1 (p:=fun us=> bindArgs _ ⟨us,[]⟩=pure (List.zip _ us)) hl fun _=> rfl
 have F29:=aP (st:=bN) l29 c29 k29
 have b29:=F29.binds (ps:=["points"]) fun _ _ _ _ _ _ us hl=> ar1 (p:=fun us=> bindArgs _ ⟨us,[]⟩=pure (List.zip _ us)) hl fun _=> rfl
 have F30:=aP (st:=bP) l30 c30 k30
 have b30:=F30.binds (ps:=["script"]) fun _ _ _ _ _ _ us hl=> ar1 (p:=fun us=> bindArgs _ ⟨us,[]⟩=pure (List.zip _ us)) hl fun _=> rfl
 have F31:=aP (st:=bX) l31 c31 k31
 have b31:=F31.binds (ps:=["script"]) fun _ _ _ _ _ _ us hl=> ar1 (p:=fun us=> bindArgs _ ⟨us,[]⟩=pure (List.zip _ us)) hl fun _=> rfl
 have F32:=aP (st:=cg) l32 c32 k32
 have b32:=F32.binds (ps:=["points","a","b"]) fun _ _ _ _ _ _ us hl=> ar3 (p:=fun us=> bindArgs _ ⟨us,[]⟩=pure (List.zip _ us)) hl fun _ _ _=> rfl
 have F33:=aP (st:=cV) l33 c33 k33
 have b33:=F33.binds (ps:=["answer_v","points"]) fun _ _ _ _ _ _ us hl=> ar2 (p:=fun us=> bindArgs _ ⟨us,[]⟩=pure (List.zip _ us)) hl fun _ _=> rfl
 have F34:=aP (st:=iI) l34 c34 k34
 have b34:=F34.binds (ps:=["script"]) fun _ _ _ _ _ _ us hl=> ar1 (p:=fun us=> bindArgs _ ⟨us,[]⟩=pure (List.zip _ us)) hl fun _=> rfl
 have F35:=aP (st:=cY) l35 c35 k35
 have b35:=F35.binds (ps:=["self"]) fun _ _ _ _ _ _ us hl=> ar1 (p:=fun us=> bindArgs _ ⟨us,[]⟩=pure (List.zip _ us)) hl fun _=> rfl
 have F36:=aP (st:=cW) l36 c36 k36
 have b36:=F36.binds (ps:=["self","kind","word"]) fun _ _ _ _ _ _ us hl=> ar3 (p:=fun us=> bindArgs _ ⟨us,[]⟩=pure (List.zip _ us)) hl fun _ _ _=> rfl
 have F37:=aP (st:=cP) l37 c37 k37
 have b37:=F37.binds (ps:=["self","name","land"]) fun _ _ _ _ _ _ us hl=> ar3 (p:=fun us=> bindArgs _ ⟨us,[]⟩=pure (List.zip _ us)) hl fun _ _ _=> rfl
 have F38:=aP (st:=bM) l38 c38 k38
 have b38:=F38.binds (ps:=["self","row"]) fun _ _ _ _ _ _ us hl=> ar2 (p:=fun us=> bindArgs _ ⟨us,[]⟩=pure (List.zip _ us)) hl fun _ _=> rfl
 exact ⟨⟨_,PySem.W.mg_of X G ca_Desk,⟨cb_Desk,cc_Desk,cd_Desk,ce_Desk⟩,cf_Desk,⟨_,PySem.W.mg_of X G ta_ROWS,tc_ROWS,[("field",_,"NEW P",_),("move",_,"NEW ONE A B C D E F",_),("fold",_,"NEW ONE K",_),("sum",_,"NEW ONE OTHER",_),("form",_,"NEW ONE",_),("facing",_,"NEW ONE",_),("drop",_,"ONE",_),("names",_,"",_),("show",_,"ONE",_),("area",_,"ONE",_),("rim",_,"ONE",_),("count",_,"ONE K",_),("inner",_,"ONE K",_),("mixed",_,"ONE OTHER",_),("share",_,"ONE A B C",_),("where",_,"ONE P",_),("tell",_,"ONE K P",_),("alike",_,"ONE OTHER",_),("thin",_,"ONE",_)],_,rfl,by decide+kernel,dR⟩,_,_,F0,b0,PySem.W.mg_of X G a0,_,_,F1,b1,PySem.W.mg_of X G a1,_,_,F2,b2,PySem.W.mg_of X G a2,_,_,F3,b3,PySem.W.mg_of X G a3,_,_,F4,b4,PySem.W.mg_of X G a4,_,_,F5,b5,PySem.W.mg_of X G a5,_,_,F6,b6,PySem.W.mg_of X G a6,_,_,F7,b7,PySem.W.mg_of X G a7,_,_,F8,b8,PySem.W.mg_of X G a8,_,_,F9,b9,PySem.W.mg_of X G a9,_,_,F10,b10,PySem.W.mg_of X G a10,_,_,F11,b11,PySem.W.mg_of X G a11,_,_,F12,b12,PySem.W.mg_of X G a12,_,_,F13,b13,PySem.W.mg_of X G a13,_,_,F14,b14,PySem.W.mg_of X G a14,_,_,F15,b15,PySem.W.mg_of X G a15,_,_,F16,b16,PySem.W.mg_of X G a16,_,_,F17,b17,PySem.W.mg_of X G a17,_,_,F18,b18,PySem.W.mg_of X G a18,_,_,F19,b19,PySem.W.mg_of X G a19,_,_,F20,b20,PySem.W.mg_of X G a20,_,_,F21,b21,PySem.W.mg_of X G a21,_,_,F22,b22,PySem.W.mg_of X G a22,_,_,F23,b23,PySem.W.mg_of X G a23,_,_,F24,b24,PySem.W.mg_of X G a24,_,_,F25,b25,PySem.W.mg_of X G a25,_,_,F26,b26,PySem.W.mg_of X G a26,_,_,F27,b27,PySem.W.mg_of X G a27,_,_,F28,b28,PySem.W.mg_of X G a28,_,_,F29,b29,PySem.W.mg_of X G a29,_,_,F30,b30,PySem.W.mg_of X G a30,_,_,F31,b31,PySem.W.mg_of X G a31,_,_,F32,b32,PySem.W.mg_of X G a32,_,_,F33,b33,PySem.W.mg_of X G a33,_,_,F34,b34,PySem.W.mg_of X G a34,_,_,F35,b35,⟨cg_Desk,a35,n35,ch_Desk⟩,_,_,F36,b36,⟨a36,n36,k36⟩,_,_,F37,b37,⟨a37,n37,k37⟩,_,_,F38,b38,⟨a38,n38,k38⟩,PySem.W.mg_none_of X G z_abs,PySem.W.mg_none_of X G z_all,PySem.W.mg_none_of X G z_int,PySem.W.mg_none_of X G z_isinstance,PySem.W.mg_none_of X G z_len,PySem.W.mg_none_of X G z_max,PySem.W.mg_none_of X G z_min,PySem.W.mg_none_of X G z_range,PySem.W.mg_none_of X G z_set,PySem.W.mg_none_of X G z_sorted,PySem.W.mg_none_of X G z_str,PySem.W.mg_none_of X G z_zip,⟨_,PySem.W.mg_of X G g_FIGURES⟩,⟨_,PySem.W.mg_of X G g_MOST_CORNERS⟩,⟨_,PySem.W.mg_of X G g_MOST_FIGURES⟩,⟨_,PySem.W.mg_of X G g_MOST_LETTERS⟩,⟨_,PySem.W.mg_of X G g_MOST_POINTS⟩⟩,rfl,fun s v=> .of_eq rfl⟩
abbrev spLaw (K:PySem.W.Frag):Sp:=spU K gU
theorem law_start (K:PySem.W.Frag) (H:Hp) (a:Addr) (ns:List Int) (h1:ns.length≤63) (h2:∀ m∈ns,Sz 1048576 m) (_:wR H) (h3:SqL K H a (ns.map V.int)):spLaw K [.ref a] H (fun v _=> v=.bl true) fun _ _ _=> False:=r_ h1 h2 h3
theorem law_ok {P:Program} {w:World} {K:PySem.W.Frag} {mg:Str→Option Value} {fa:Addr} (h:∃ T:Txt w K mg,T.a_law=fa∧(∀ (s:Shared) (v:Value),BindsTo s T.d_law ⟨[v],[]⟩ [("script",v)])):
  ∃ fd:FuncData,(∀ (s:Shared) (u:Value),BindsTo s fd ⟨[u],[]⟩ [("script",u)])∧∀ base:Heap,K.In base→base.Ns mainGlobals mg→ba P w K mg base CX0 10 fa fd ["script"] (spLaw K):=by
 obtain ⟨T,rfl,hb⟩:=h
 exact ⟨T.d_law,hb,fun base _ _=> (zn T).calm uy⟩
end My
def PySem.W.Fast.tw3857134249475181942:Unit:=()
def PySem.W.Fast.tw15494177912569355494:Unit:=()
def PySem.W.Fast.tw15432985372477132383:Unit:=()
def PySem.W.Fast.tw6463897684589310894:Unit:=()
def PySem.W.Fast.tw9875149351928246127:Unit:=()
def PySem.W.Fast.tw10993929733096943652:Unit:=()
def PySem.W.Fast.tw16559148821078308391:Unit:=()
def PySem.W.Fast.tw10428695880313514343:Unit:=()
def PySem.W.Fast.tw12076532755886301188:Unit:=()
def PySem.W.Fast.tw2944591313100423822:Unit:=()
def PySem.W.Fast.tw9589579156183797953:Unit:=()
def PySem.W.Fast.tw14782629491099236038:Unit:=()
def PySem.W.Fast.tw467322462765087060:Unit:=()
def PySem.W.Fast.tw16270260420172626831:Unit:=()
def PySem.W.Fast.tw16471869514237483364:Unit:=()
def PySem.W.Fast.tw5087051868961992214:Unit:=()
def PySem.W.Fast.tw17612871584115571023:Unit:=()
def PySem.W.Fast.tw12982101867036836682:Unit:=()
def PySem.W.Fast.tw18396064942187578032:Unit:=()
def PySem.W.Fast.tw2330531454853879244:Unit:=()
def PySem.W.Fast.tw13917290218759295829:Unit:=()
def PySem.W.Fast.tw15931458965500433229:Unit:=()
def PySem.W.Fast.tw3153225091719091259:Unit:=()
def PySem.W.Fast.tw16246605573501515510:Unit:=()
def PySem.W.Fast.tw6394998375354425789:Unit:=()
def PySem.W.Fast.tw2377654454122535336:Unit:=()
def PySem.W.Fast.tw4090047077990410354:Unit:=()
def PySem.W.Fast.tw17257089548177450934:Unit:=()
def PySem.W.Fast.tw6736440034960424547:Unit:=()
def PySem.W.Fast.tw13081522882515152698:Unit:=()
def PySem.W.Fast.tw10619925474015585910:Unit:=()
def PySem.W.Fast.tw1037934654760446012:Unit:=()
def PySem.W.Fast.tw14597725726820578356:Unit:=()
def PySem.W.Fast.tw11953363270527873841:Unit:=()
def PySem.W.Fast.tw6291703636503858882:Unit:=()
def PySem.W.Fast.tw6381364843801522557:Unit:=()
def PySem.W.Fast.tw14150984881020366824:Unit:=()
def PySem.W.Fast.tw15990280505778495061:Unit:=()
def PySem.W.Fast.tw10114847498633627340:Unit:=()
def PySem.W.Fast.tw18396091082876644539:Unit:=()
def PySem.W.Fast.tw17989797136622573170:Unit:=()
def PySem.W.Fast.tw2309616238351394317:Unit:=()
def PySem.W.Fast.tw17780510245597392403:Unit:=()
def PySem.W.Fast.tw7418959693522670623:Unit:=()
def PySem.W.Fast.tw13307242837381198035:Unit:=()
def PySem.W.Fast.tw15043656971856122481:Unit:=()
def PySem.W.Fast.tw8765524838361359635:Unit:=()
def PySem.W.Fast.tw14694901669154464374:Unit:=()
def PySem.W.Fast.tw6212144914001169084:Unit:=()
def PySem.W.Fast.tw1745881877772962359:Unit:=()
def PySem.W.Fast.tw11181285639116857802:Unit:=()
open PySem PySem.W PyProof.Rows L2
set_option maxRecDepth 100000 in
set_option maxHeartbeats 0 in
theorem PySem.Challenge.cw_stakefield_k84_whole_nothing_thinner_by_holds : PySem.Challenge.rw_stakefield_k84_whole_nothing_thinner_by.Holds := by
 w_on; o_law; k_head; (case hw=> w_witness2)
 k_fill
 refine L2.walk_ofB (l:=PySem.Challenge.rw_stakefield_k84_whole_nothing_thinner_by) (n:=63) (k:=10) (x:="script") (CX:=CX0) (sp:=My.spLaw) rfl (by decide) rfl ⟨rfl,by decide,by decide⟩ (fun w h Y=> by first | exact PySem.W.kIn_of Y | exact PySem.W.km_in_of Y) ?F My.law_start (fun _ _ _ _ z=> z)
 case F=>
  intro w mg fa h KX G hmg
  refine My.law_ok ?T
  refine' My.txt_mk KX G hmg ?ca_Desk ?cb_Desk ?cc_Desk ?cd_Desk ?ce_Desk ?cf_Desk ?cg_Desk ?ch_Desk ?ta_ROWS ?dR ?tc_ROWS ?a0 ?l0 ?c0 ?k0 ?a1 ?l1 ?c1 ?k1 ?a2 ?l2 ?c2 ?k2 ?a3 ?l3 ?c3 ?k3 ?a4 ?l4 ?c4 ?k4 ?a5 ?l5 ?c5 ?k5 ?a6 ?l6 ?c6 ?k6 ?a7 ?l7 ?c7 ?k7 ?a8 ?l8 ?c8 ?k8 ?a9 ?l9 ?c9 ?k9 ?a10 ?l10 ?c10 ?k10 ?a11 ?l11 ?c11 ?k11 ?a12 ?l12 ?c12 ?k12 ?a13 ?l13 ?c13 ?k13 ?a14 ?l14 ?c14 ?k14 ?a15 ?l15 ?c15 ?k15 ?a16 ?l16 ?c16 ?k16 ?a17 ?l17 ?c17 ?k17 ?a18 ?l18 ?c18 ?k18 ?a19 ?l19 ?c19 ?k19 ?a20 ?l20 ?c20 ?k20 ?a21 ?l21 ?c21 ?k21 ?a22 ?l22 ?c22 ?k22 ?a23 ?l23 ?c23 ?k23 ?a24 ?l24 ?c24 ?k24 ?a25 ?l25 ?c25 ?k25 ?a26 ?l26 ?c26 ?k26 ?a27 ?l27 ?c27 ?k27 ?a28 ?l28 ?c28 ?k28 ?a29 ?l29 ?c29 ?k29 ?a30 ?l30 ?c30 ?k30 ?a31 ?l31 ?c31 ?k31 ?a32 ?l32 ?c32 ?k32 ?a33 ?l33 ?c33 ?k33 ?a34 ?l34 ?c34 ?k34 ?a35 ?l35 ?c35 ?k35 ?n35 ?a36 ?l36 ?c36 ?k36 ?n36 ?a37 ?l37 ?c37 ?k37 ?n37 ?a38 ?l38 ?c38 ?k38 ?n38  ?z_abs ?z_all ?z_int ?z_isinstance ?z_len ?z_max ?z_min ?z_range ?z_set ?z_sorted ?z_str ?z_zip  ?g_FIGURES ?g_MOST_CORNERS ?g_MOST_FIGURES ?g_MOST_LETTERS ?g_MOST_POINTS
  (case ca_Desk=> k_is); (case cb_Desk=> k_is); (case cc_Desk=> k_is); (case cd_Desk=> k_is); (case ce_Desk=> k_is); (case cf_Desk=> k_is); (case cg_Desk=> k_is); (case ch_Desk=> k_is)
  (case ta_ROWS=> k_is); (case dR=> k_is); (case tc_ROWS=> rfl)
  (case a0=> k_is); (case l0=> k_is); (case c0=> k_is); (case k0=> k_is)
  (case a1=> k_is); (case l1=> k_is); (case c1=> k_is); (case k1=> k_is)
  (case a2=> k_is); (case l2=> k_is); (case c2=> k_is); (case k2=> k_is)
  (case a3=> k_is); (case l3=> k_is); (case c3=> k_is); (case k3=> k_is)
  (case a4=> k_is); (case l4=> k_is); (case c4=> k_is); (case k4=> k_is)
  (case a5=> k_is); (case l5=> k_is); (case c5=> k_is); (case k5=> k_is)
  (case a6=> k_is); (case l6=> k_is); (case c6=> k_is); (case k6=> k_is)
  (case a7=> k_is); (case l7=> k_is); (case c7=> k_is); (case k7=> k_is)
  (case a8=> k_is); (case l8=> k_is); (case c8=> k_is); (case k8=> k_is)
  (case a9=> k_is); (case l9=> k_is); (case c9=> k_is); (case k9=> k_is)
  (case a10=> k_is); (case l10=> k_is); (case c10=> k_is); (case k10=> k_is)
  (case a11=> k_is); (case l11=> k_is); (case c11=> k_is); (case k11=> k_is)
  (case a12=> k_is); (case l12=> k_is); (case c12=> k_is); (case k12=> k_is)
  (case a13=> k_is); (case l13=> k_is); (case c13=> k_is); (case k13=> k_is)
  (case a14=> k_is); (case l14=> k_is); (case c14=> k_is); (case k14=> k_is)
  (case a15=> k_is); (case l15=> k_is); (case c15=> k_is); (case k15=> k_is)
  (case a16=> k_is); (case l16=> k_is); (case c16=> k_is); (case k16=> k_is)
  (case a17=> k_is); (case l17=> k_is); (case c17=> k_is); (case k17=> k_is)
  (case a18=> k_is); (case l18=> k_is); (case c18=> k_is); (case k18=> k_is)
  (case a19=> k_is); (case l19=> k_is); (case c19=> k_is); (case k19=> k_is)
  (case a20=> k_is); (case l20=> k_is); (case c20=> k_is); (case k20=> k_is)
  (case a21=> k_is); (case l21=> k_is); (case c21=> k_is); (case k21=> k_is)
  (case a22=> k_is); (case l22=> k_is); (case c22=> k_is); (case k22=> k_is)
  (case a23=> k_is); (case l23=> k_is); (case c23=> k_is); (case k23=> k_is)
  (case a24=> k_is); (case l24=> k_is); (case c24=> k_is); (case k24=> k_is)
  (case a25=> k_is); (case l25=> k_is); (case c25=> k_is); (case k25=> k_is)
  (case a26=> k_is); (case l26=> k_is); (case c26=> k_is); (case k26=> k_is)
  (case a27=> k_is); (case l27=> k_is); (case c27=> k_is); (case k27=> k_is)
  (case a28=> k_is); (case l28=> k_is); (case c28=> k_is); (case k28=> k_is)
  (case a29=> k_is); (case l29=> k_is); (case c29=> k_is); (case k29=> k_is)
  (case a30=> k_is); (case l30=> k_is); (case c30=> k_is); (case k30=> k_is)
  (case a31=> k_is); (case l31=> k_is); (case c31=> k_is); (case k31=> k_is)
  (case a32=> k_is); (case l32=> k_is); (case c32=> k_is); (case k32=> k_is)
  (case a33=> k_is); (case l33=> k_is); (case c33=> k_is); (case k33=> k_is)
  (case a34=> k_is); (case l34=> k_is); (case c34=> k_is); (case k34=> k_is)
  (case a35=> k_is); (case l35=> k_is); (case c35=> k_is); (case k35=> k_is); (case n35=> k_is)
  (case a36=> k_is); (case l36=> k_is); (case c36=> k_is); (case k36=> k_is); (case n36=> k_is)
  (case a37=> k_is); (case l37=> k_is); (case c37=> k_is); (case k37=> k_is); (case n37=> k_is)
  (case a38=> k_is); (case l38=> k_is); (case c38=> k_is); (case k38=> k_is); (case n38=> k_is)
  (case z_abs=> k_is)
  (case z_all=> k_is)
  (case z_int=> k_is)
  (case z_isinstance=> k_is)
  (case z_len=> k_is)
  (case z_max=> k_is)
  (case z_min=> k_is)
  (case z_range=> k_is)
  (case z_set=> k_is)
  (case z_sorted=> k_is)
  (case z_str=> k_is)
  (case z_zip=> k_is)
  (case g_FIGURES=> k_is)
  (case g_MOST_CORNERS=> k_is)
  (case g_MOST_FIGURES=> k_is)
  (case g_MOST_LETTERS=> k_is)
  (case g_MOST_POINTS=> k_is)
