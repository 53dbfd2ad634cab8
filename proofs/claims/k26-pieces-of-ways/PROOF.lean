import PyProof.Rows.All
import Wide.All
import OpenK.AllK
import Wide.FinOn
import Lean
import PyProof.EqAt
import PyProof.EqKinds
import PyProof.NeKinds
import PyProof.TupleCall
import KE.KDictSum
import KE.KSortTup
import KE.KRevIter
import KE.KRevSl
import PySem.Challenge.RW_stakefield_k26_pieces_of_ways
set_option Elab.async false
set_option linter.all false
set_option maxRecDepth 100000
namespace L2
open PySem PySem.Spec PyProof.Rows
abbrev Key:=Sum Int Str
def t_:Key→Value→Bool
 | .inl k,v=> Value.isInt k v
 | .inr x,v=> Value.isStrOf x v
def wI (w:World):Key→Int
 | .inl k=> hashInt k
 | .inr x=> hashStr w x
theorem bj:∀ {k:Key} {v:Value},t_ k v=true→(∃ i t,k=Sum.inl i∧v=Value.int i t)∨(∃ x t,k=Sum.inr x∧v=Value.str x t)
 | .inl i,v,h=> by
  obtain ⟨t,e⟩:=Value.isInt_shape (k:=i) (v:=v) h
  exact .inl ⟨i,t,rfl,e⟩
 | .inr x,v,h=> by
  obtain ⟨t,e⟩:=Value.isStrOf_shape (x:=x) (v:=v) h
  exact .inr ⟨x,t,rfl,e⟩
theorem ux (a b:Int):decide ((Sum.inl a:Key)=Sum.inl b)=(a==b):=by
 by_cases e:a=b
 ·subst e; simp
 ·have h:¬ (Sum.inl a:Key)=Sum.inl b:=fun q=> e (Sum.inl.inj q)
  rw [decide_eq_false h]
  exact (beq_eq_false_iff_ne.mpr e).symm
theorem uS (a b:Str):decide ((Sum.inr a:Key)=Sum.inr b)=decide (a=b):=by
 by_cases e:a=b
 ·subst e; simp
 ·have h:¬ (Sum.inr a:Key)=Sum.inr b:=fun q=> e (Sum.inr.inj q)
  rw [decide_eq_false h,decide_eq_false e]
theorem uJ (a:Int) (b:Str):decide ((Sum.inl a:Key)=Sum.inr b)=false:=decide_eq_false (fun q=> nomatch q)
theorem ve (a:Str) (b:Int):decide ((Sum.inr a:Key)=Sum.inl b)=false:=decide_eq_false (fun q=> nomatch q)
def nu (prog:Program) (w:World):PySem.KeyKind prog w Key where
 is:=t_
 hash:=wI w
 inj:=fun v a b ha hb=> by
  rcases bj ha with ⟨i,t,rfl,rfl⟩ | ⟨x,t,rfl,rfl⟩
  ·rcases bj hb with ⟨j,u,rfl,e⟩ | ⟨y,u,rfl,e⟩
   ·injection e with e1 _; rw [e1]
   ·exact nomatch e
  ·rcases bj hb with ⟨j,u,rfl,e⟩ | ⟨y,u,rfl,e⟩
   ·exact nomatch e
   ·injection e with e1 _; rw [e1]
 byValue:=fun k v h=> by
  rcases bj h with ⟨i,t,rfl,rfl⟩ | ⟨x,t,rfl,rfl⟩ <;> rfl
 pyHash:=fun hv h=> by
  rcases bj hv with ⟨i,t,rfl,rfl⟩ | ⟨x,t,rfl,rfl⟩
  ·exact wpAny_pyHash_int h
  ·exact wpAny_pyHash_str h
 eqBool:=fun hu hv h=> by
  rcases bj hu with ⟨i,t,rfl,rfl⟩ | ⟨x,t,rfl,rfl⟩
  ·rcases bj hv with ⟨j,u,rfl,rfl⟩ | ⟨y,u,rfl,rfl⟩
   ·rw [ux] at h; exact wpAny_eqBool_int h
   ·rw [uJ] at h; exact SeqAt.EqAt.int_str i t y u _ _ _ _ h
  ·rcases bj hv with ⟨j,u,rfl,rfl⟩ | ⟨y,u,rfl,rfl⟩
   ·rw [ve] at h; exact SeqAt.EqAt.str_int x t j u _ _ _ _ h
   ·rw [uS] at h; exact wpAny_eqBool_str h
 «strs»:=fun k x t v h=> by
  rcases bj h with ⟨i,u,rfl,e⟩ | ⟨y,u,rfl,e⟩
  ·exact nomatch e
  ·injection e with e1 _
   subst e1
   cases v <;> rfl
end L2
namespace L2
open PySem PySem.Spec PyProof.Rows
inductive V where
 | non | bl (b:Bool) | int (i:Int) | str (x:Str) | byt (b:Array UInt8) | flt (b:UInt64) | ref (a:Addr) | ty (n:String)
 deriving DecidableEq
def aV:V→Value→Prop
 | .non,u=> u=Value.none
 | .bl b,u=> u=Value.bool b
 | .int i,u=> ∃ t,u=Value.int i t
 | .str x,u=> ∃ t,u=Value.str x t
 | .byt b,u=> ∃ t,u=Value.bytes b t
 | .flt b,u=> ∃ t,u=Value.float b t
 | .ref a,u=> u=Value.ref a
 | .ty n,u=> u=Value.type n
abbrev aG:List V→List Value→Prop:=Paired aV
theorem aG.length {xs:List V} {us:List Value} (r:aG xs us):xs.length=us.length:=Paired.length r
theorem aG.get:∀ {xs:List V} {us:List Value} {i:Nat} {x:V},aG xs us→xs[i]?=some x→∃ u,us[i]?=some u∧aV x u
 | _,_,_,_,.nil,e=> by simp at e
 | _,_,0,_,.cons r _,e=> by simp at e; subst e; exact ⟨_,rfl,r⟩
 | _,_,i+1,x,.cons _ t,e=> by
  obtain ⟨u,h1,h2⟩:=aG.get (i:=i) (x:=x) t (by simpa using e)
  exact ⟨u,by simpa using h1,h2⟩
theorem aG.append:∀ {xs ys:List V} {us ws:List Value},aG xs us→aG ys ws→aG (xs++ys) (us++ws)
 | _,_,_,_,.nil,s=> s
 | _,_,_,_,.cons r t,s=> .cons r (aG.append t s)
theorem aG.take:∀ {xs:List V} {us:List Value} (n:Nat),aG xs us→aG (xs.take n) (us.take n)
 | _,_,0,_=> .nil
 | _,_,_+1,.nil=> .nil
 | _,_,n+1,.cons r t=> .cons r (aG.take n t)
theorem aG.drop:∀ {xs:List V} {us:List Value} (n:Nat),aG xs us→aG (xs.drop n) (us.drop n)
 | _,_,0,r=> r
 | _,_,_+1,.nil=> .nil
 | _,_,n+1,.cons _ t=> aG.drop n t
def uF:Option V→Option Value→Prop
 | some v,some u=> aV v u
 | none,none=> True
 | _,_=> False
def KV {κ:Type}:List (κ×V)→List (κ×Value)→Prop:=Paired fun (p:κ×V) (q:κ×Value)=> p.1=q.1∧aV p.2 q.2
def kV:Key→V
 | .inl i=> .int i
 | .inr x=> .str x
inductive HO where
 /-- a list -/
 | lst (xs:List V)
 /-- a tuple (never changes) -/
 | tup (xs:List V)
 /-- a dict whose keys are ints and texts; one whose keys are tuples of ints and texts (the empty one is both) -/
 | dK (kvs:List (Key×V)) | dT (kvs:List (List Key×V))
 /-- a set of ints:its members,its size -/
 | set (S:Int→Bool) (n:Nat)
 /-- an instance of the class at C,its dict at dx,its attributes -/
 | ins (C dx:Addr) (fs:List (Str×V))
 /-- the dict of the instance at x -/
 | own (x:Addr)
 /-- the dict of an exception -/
 | xd (fs:List (Str×V))
 /-- a bound method,f of x -/
 | met (f x:Addr)
 /-- a range object lo,lo+1,.. below hi -/
 | rng (lo hi:Int)
 /-- a thing that is known to the object (the script; a dict while a loop walks it):read,never written while it is so -/
 | frz (o:Obj) (u:HO)
 /-- a code object's table -/
 | tbl (ps:Array Value)
 /-- any other thing,by what is true of its one object (a def of one's own:SetO a S n:=HO.ext fun h=> ..) -/
 | ext (φ:Heap→Prop)
abbrev Hp:=Addr→Option HO
def upd (H:Hp) (a:Addr) (o:HO):Hp:=fun b=> if b=a then some o else H b
theorem aH {H:Hp} {a:Addr} {o:HO}:upd H a o a=some o:=by unfold upd; rw [if_pos rfl]
theorem aK {H:Hp} {a b:Addr} {o:HO} (h:b≠a):upd H a o b=H b:=by unfold upd; rw [if_neg h]
theorem bg {H:Hp} {a b:Addr} {o:HO} (h:H a=some o) (h':H b=none):a≠b:=by
 intro e; subst e; rw [h] at h'; cases h'
section
variable (P:Program) (w:World)
def bR (H:Hp) (h:Heap) (a:Addr):HO→Prop
 | .lst xs=> xs.length≤sizeLine∧∃ (its:List Value) (n:Nat),aG xs its∧h.get? a=some { cls:=.type "list",data:=.seq its.toArray n }
 | .tup xs=> xs.length≤sizeLine∧∃ its:List Value,aG xs its∧IsTup h a its.toArray
 | .dK kvs=> kvs.length≤sizeLine∧(a==sysModules)=false∧∃ vs,KV kvs vs∧h.DictOf (nu P w) a vs
 | .dT kvs=> kvs.length≤sizeLine∧(a==sysModules)=false∧∃ xs:List (List Key×Addr×Value),
   Paired (fun (p:List Key×V) (q:List Key×Addr×Value)=> p.1=q.1∧H q.2.1=some (.tup (p.1.map kV))∧aV p.2 q.2.2) kvs xs∧
   ∃ o es ep,h.get? a=some o∧o.ExactDict∧o.data=.dict es ep∧es.toList=xs.map (entryOfKey (tupleKind (nu P w)))∧(xs.map (·.1)).Nodup
 | .set S n=> h.SetOf (intKind P w) a S n
 | .ins C dx fs=> H dx=some (.own a)∧fs.length≤1000∧dx≠a∧h.get? a=some (PySem.W.instObj C dx)∧
   ∃ mA,h.Ns1 dx mA∧(∀ f,uF (fs.lookup f) (mA f))∧PySem.Within mA (fs.map (·.1))
 | .own _=> ∃ o,h.get? a=some o
 | .xd fs=> ∃ mA,h.Ns1 a mA∧∀ f,uF (fs.lookup f) (mA f)
 | .rng lo hi=> ∃ t u v,h.get? a=some { cls:=.type "range",data:=.fields #[.int lo t,.int hi u,.int 1 v] }
 | .frz o u=> h.get? a=some o∧bR H h a u
 | .tbl ps=> h.get? a=some { cls:=.none,data:=.fields ps }
 | .met f x=> h.get? a=some (PySem.W.methodObj (.ref f) (.ref x))
 | .ext φ=> φ h∧(∃ o,h.get? a=some o)∧∀ h1 h2:Heap,φ h1→(∀ o,h1.get? a=some o→h2.get? a=some o)→φ h2
def HOk (H:Hp) (h:Heap):Prop:=∀ a o,H a=some o→bR P w H h a o
end
section
variable {P:Program} {w:World} {H H':Hp} {h h':Heap} {a:Addr} {o:HO}
theorem bR.lt (x:bR P w H h a o):a < h.objs.size:=by
 cases o with
 | lst xs=> obtain ⟨_,_,_,_,e⟩:=x; exact Heap.lt_size e
 | tup xs=> obtain ⟨_,_,_,p⟩:=x; exact p.lt
 | dK kvs=> obtain ⟨_,_,_,_,o,_,_,e,_⟩:=x; exact Heap.lt_size e
 | dT kvs=> obtain ⟨_,_,_,_,o,_,_,e,_⟩:=x; exact Heap.lt_size e
 | set S n=> obtain ⟨o,_,_,_,e,_⟩:=x; exact Heap.lt_size e
 | ins C dx fs=> obtain ⟨_,_,_,e,_⟩:=x; exact Heap.lt_size e
 | own y=> obtain ⟨_,e⟩:=x; exact Heap.lt_size e
 | xd fs=> obtain ⟨_,⟨_,_,_,e,_⟩,_⟩:=x; exact Heap.lt_size e
 | rng lo hi=> obtain ⟨_,_,_,e⟩:=x; exact Heap.lt_size e
 | frz ob u=> obtain ⟨e,_⟩:=x; exact Heap.lt_size e
 | tbl ps=> exact Heap.lt_size (show h.get? a=some _ from x)
 | met f y=> exact Heap.lt_size (show h.get? a=some _ from x)
 | ext φ=> obtain ⟨_,⟨_,e⟩,_⟩:=x; exact Heap.lt_size e
theorem Paired.mapP {α β:Type} {F G:α→β→Prop}:∀ {l₁:List α} {l₂:List β},Paired F l₁ l₂→(∀ a b,F a b→G a b)→Paired G l₁ l₂
 | _,_,.nil,_=> .nil
 | _,_,.cons r t,f=> .cons (f _ _ r) (Paired.mapP t f)
theorem bR.stay (x:bR P w H h a o) (k:∀ b u,(b=a∨H b=some (.own a))→h.get? b=some u→h'.get? b=some u)
  (ho:∀ b,H b=some (.own a)→H' b=some (.own a)) (ht:∀ b xs,H b=some (.tup xs)→H' b=some (.tup xs)):bR P w H' h' a o:=by
 induction o with
 | lst xs=> obtain ⟨z,its,n,r,e⟩:=x; exact ⟨z,its,n,r,k _ _ (.inl rfl) e⟩
 | tup xs=> obtain ⟨z,its,r,ob,e,c⟩:=x; exact ⟨z,its,r,ob,k _ _ (.inl rfl) e,c⟩
 | dK kvs=> obtain ⟨z,y,vs,r,ob,es,ep,e,c⟩:=x; exact ⟨z,y,vs,r,ob,es,ep,k _ _ (.inl rfl) e,c⟩
 | dT kvs=>
  obtain ⟨z,y,xs,r,ob,es,ep,e,c⟩:=x
  exact ⟨z,y,xs,Paired.mapP r fun p q z=> ⟨z.1,ht _ _ z.2.1,z.2.2⟩,ob,es,ep,k _ _ (.inl rfl) e,c⟩
 | set S n=> obtain ⟨ob,es,ep,t,e,c⟩:=x; exact ⟨ob,es,ep,t,k _ _ (.inl rfl) e,c⟩
 | ins C dx fs=>
  obtain ⟨d,z,ne,e,mA,⟨od,es,ep,e2,c⟩,r⟩:=x
  exact ⟨ho _ d,z,ne,k _ _ (.inl rfl) e,mA,⟨od,es,ep,k _ _ (.inr d) e2,c⟩,r⟩
 | own y=> obtain ⟨ob,e⟩:=x; exact ⟨ob,k _ _ (.inl rfl) e⟩
 | xd fs=> obtain ⟨mA,⟨od,es,ep,e,c⟩,r⟩:=x; exact ⟨mA,⟨od,es,ep,k _ _ (.inl rfl) e,c⟩,r⟩
 | rng lo hi=> obtain ⟨t,u,v,e⟩:=x; exact ⟨t,u,v,k _ _ (.inl rfl) e⟩
 | frz ob u ih=> obtain ⟨e,q⟩:=x; exact ⟨k _ _ (.inl rfl) e,ih q⟩
 | tbl ps=>
  have e:h.get? a=some { cls:=.none,data:=.fields ps }:=x
  show h'.get? a=some { cls:=.none,data:=.fields ps }
  exact k a _ (.inl rfl) e
 | met f y=>
  have e:h.get? a=some (PySem.W.methodObj (.ref f) (.ref y)):=x
  show h'.get? a=some (PySem.W.methodObj (.ref f) (.ref y))
  exact k a _ (.inl rfl) e
 | ext φ=> obtain ⟨p,⟨o,e⟩,st⟩:=x; exact ⟨st _ _ p fun o q=> k _ _ (.inl rfl) q,⟨o,k _ _ (.inl rfl) e⟩,st⟩
theorem HOk.lt (x:HOk P w H h) (e:H a=some o):a < h.objs.size:=(x a o e).lt
theorem HOk.fresh (x:HOk P w H h) (e:h.objs.size≤a):H a=none:=by
 cases q:H a with
 | none=> rfl
 | some u=> exact absurd (Nat.lt_of_lt_of_le (x.lt q) e) (Nat.lt_irrefl _)
theorem HOk.kept (x:HOk P w H h) (k:∀ b u,h.get? b=some u→h'.get? b=some u):HOk P w H h':=fun a o e=>
 (x a o e).stay (fun b u _ q=> k b u q) (fun _ q=> q) fun _ _ q=> q
theorem HOk.laid (x:HOk P w H h) (k:∀ b u,h.get? b=some u→h'.get? b=some u) (hp:h.objs.size≤a) (new:bR P w (upd H a o) h' a o):HOk P w (upd H a o) h':=fun b u e=> by
 have hn:=x.fresh hp
 by_cases hb:b=a
 ·subst hb; rw [aH] at e; cases e; exact new
 ·rw [aK hb] at e
  exact (x b u e).stay (fun c v _ q=> k c v q) (fun c q=> by rw [aK (bg q hn)]; exact q) fun c xs q=> by rw [aK (bg q hn)]; exact q
end
def Rd (H:Hp) (a:Addr) (u:HO):Prop:=H a=some u∨∃ o,H a=some (.frz o u)
theorem Rd.ok {P:Program} {w:World} {H:Hp} {h:Heap} {a:Addr} {u:HO} (r:Rd H a u) (x:HOk P w H h):bR P w H h a u:=by
 rcases r with r | ⟨o,r⟩
 ·exact x a u r
 ·obtain ⟨_,q⟩:=x a _ r
  exact q
def Mut:Option HO→Prop
 | some (.lst _)=> True
 | some (.dK _)=> True
 | some (.dT _)=> True
 | some (.set _ _)=> True
 | some (.ins _ _ _)=> True
 | some (.ext _)=> True
 | _=> False
section
variable {P:Program} {w:World} {H:Hp} {h h':Heap} {x e:Addr} {o':HO}
theorem HOk.write (ok:HOk P w H h) (mu:Mut (H x)) (he:e=x∨H e=some (.own x)) (k:∀ b u,b≠e→h.get? b=some u→h'.get? b=some u) (heo:∃ u,h'.get? e=some u)
  (new:bR P w (upd H x o') h' x o'):HOk P w (upd H x o') h':=fun b u q=> by
 have nown:∀ c y,H c=some (.own y)→c≠x:=fun c y r z=> by subst z; rw [r] at mu; exact mu
 have ntup:∀ c xs,H c=some (.tup xs)→c≠x:=fun c xs r z=> by subst z; rw [r] at mu; exact mu
 by_cases hb:b=x
 ·subst hb; rw [aH] at q; cases q; exact new
 ·rw [aK hb] at q
  by_cases hbe:b=e
  ·have q':H b=some (.own x):=by
    rcases he with z | z
    ·exact absurd (hbe.trans z) hb
    ·rw [hbe]; exact z
   rw [q] at q'; cases q'
   obtain ⟨v,hv⟩:=heo
   exact ⟨v,by rw [hbe]; exact hv⟩
  ·refine (ok b u q).stay (fun c v hc r=> k c v ?_ r) (fun c r=> by rw [aK (nown c b r)]; exact r) fun c xs r=> by rw [aK (ntup c xs r)]; exact r
   rcases hc with rfl | hc
   ·exact hbe
   ·rintro rfl
    rcases he with z | z
    ·exact nown c b hc z
    ·rw [hc] at z; cases z; exact hb rfl
end
structure Un (fs ex:List Addr) (H H':Hp) (h h':Heap):Prop where
 keep:∀ b o,h.get? b=some o→H b=none→b ∉ fs→b ∉ ex→h'.get? b=some o
 slot:∀ b o,h.get? b=some o→H b=none→b∈fs→b ∉ ex→∃ sl,h'.get? b=some { o with slots:=sl }
 free:∀ b o,h.get? b=some o→H b=none→b ∉ ex→H' b=none
 there:∀ b o,h.get? b=some o→b ∉ ex→∃ o',h'.get? b=some o'
 tups:∀ b xs,H b=some (.tup xs)→H' b=some (.tup xs)
 frzs:∀ b o u,H b=some (.frz o u)→H' b=some (.frz o u)
 tbls:∀ b ps,H b=some (.tbl ps)→∃ more,H' b=some (.tbl (ps++more))
section
variable {fs fs' ex ex':List Addr} {H H1 H2:Hp} {h h1 h2 h':Heap} {a x e:Addr} {o:HO}
theorem Un.any (u:Un fs ex H H1 h h1) {b:Addr} {ob:Obj} (q:h.get? b=some ob) (n:H b=none) (hx:b ∉ ex):∃ sl,h1.get? b=some { ob with slots:=sl }:=by
 by_cases hb:b∈fs
 ·exact u.slot b ob q n hb hx
 ·exact ⟨ob.slots,u.keep b ob q n hb hx⟩
theorem Un.kept (k:∀ b u,h.get? b=some u→h'.get? b=some u):Un fs ex H H h h':=
 ⟨fun b ob q _ _ _=> k b ob q,fun b ob q _ _ _=> ⟨ob.slots,k b ob q⟩,fun _ _ _ n _=> n,fun b ob q _=> ⟨ob,k b ob q⟩,fun _ _ q=> q,fun _ _ _ q=> q,fun _ ps q=> ⟨#[],by rw [q]; simp⟩⟩
theorem Un.refl:Un fs ex H H h h:=Un.kept fun _ _ q=> q
theorem Un.laid (k:∀ b u,h.get? b=some u→h'.get? b=some u) (hp:h.objs.size≤a) (hn:H a=none):Un fs ex H (upd H a o) h h' where
 keep:=fun b u q _ _ _=> k b u q
 slot:=fun b u q _ _ _=> ⟨u.slots,k b u q⟩
 free:=fun b u q n _=> by rw [aK (Nat.ne_of_lt (Nat.lt_of_lt_of_le (Heap.lt_size q) hp))]; exact n
 there:=fun b u q _=> ⟨u,k b u q⟩
 tups:=fun b xs q=> by rw [aK (bg q hn)]; exact q
 frzs:=fun b u xs q=> by rw [aK (bg q hn)]; exact q
 tbls:=fun b ps q=> ⟨#[],by rw [aK (bg q hn),q]; simp⟩
theorem Un.write (mu:Mut (H x)) (he:e=x∨H e=some (.own x)) (k:∀ b u,b≠e→h.get? b=some u→h'.get? b=some u) (heo:∃ u,h'.get? e=some u):Un fs ex H (upd H x o) h h':=by
 have hx:∀ b,H b=none→b≠x:=fun b n z=> by subst z; rw [n] at mu; exact mu
 have hb:∀ b,H b=none→b≠e:=fun b n z=> by
  subst z
  rcases he with r | r
  ·exact hx b n r
  ·rw [n] at r; cases r
 have hm:∀ b u,H b=some u→¬ Mut (some u)→b≠x:=fun b u q nm z=> by subst z; rw [q] at mu; exact nm mu
 refine ⟨fun b u q n _ _=> k b u (hb b n) q,fun b u q n _ _=> ⟨u.slots,k b u (hb b n) q⟩,fun b u q n _=> by rw [aK (hx b n)]; exact n,fun b u q _=> ?_,
  fun b xs q=> by rw [aK (hm b _ q fun z=> z)]; exact q,fun b u xs q=> by rw [aK (hm b _ q fun z=> z)]; exact q,fun b ps q=> ⟨#[],by rw [aK (hm b _ q fun z=> z),q]; simp⟩⟩
 by_cases hbe:b=e
 ·subst hbe; exact heo
 ·exact ⟨u,k b u hbe q⟩
end
def trk (h:Heap) (H:Hp):List Addr:=(List.range h.objs.size).filter fun a=> (H a).isSome
def ji (h:Heap) (H:Hp):Heap:=PySem.W.hideAll h (trk h H)
theorem oB (h:Heap) (H:Hp):(ji h H).objs.size=h.objs.size:=PySem.W.hideAll_size _ _
theorem o3 {h:Heap} {H:Hp} {b:Addr} {o:Obj} (e:h.get? b=some o) (n:H b=none):(ji h H).get? b=some o:=
 PySem.W.hideAll_get _ e fun hm=> by
  have q:(H b).isSome=true:=(List.mem_filter.mp hm).2
  rw [n] at q; simp at q
theorem tx {h:Heap} {H:Hp} {b:Addr} {o:Obj} (e:(ji h H).get? b=some o):h.get? b=some o∧H b=none:=by
 have e':h.get? b=some o:=PySem.W.of_hideAll (trk h H) e
 refine ⟨e',?_⟩
 cases q:H b with
 | none=> rfl
 | some x=>
  have hm:b∈trk h H:=List.mem_filter.mpr ⟨List.mem_range.mpr (Heap.lt_size e'),by simp [q]⟩
  have z:(ji h H).get? b=none:=PySem.W.hideAll_none (trk h H) hm
  rw [z] at e; cases e
def sE (g h:Heap) (L:Addr):List (Addr×Obj):=(List.range h.objs.size).filterMap fun a=> if a=L∨(g.get? a).isSome=true then none else (h.get? a).map fun o=> (a,o)
def rest (g h:Heap) (L d:Addr):List (Addr×Obj):=(sE g h L).filter fun p=> decide (p.1≠d)
end L2
namespace L2
open PySem PySem.Spec PyProof.Rows
structure Mod (K:PySem.W.Frag) (mg:Str→Option Value) (base:Heap):Prop where
 kin:K.In base
 glob:base.Ns mainGlobals mg
 blt:∃ mb,base.Ns builtinsNs mb∧∀ x:Str,x≠"__name__"→mb x=bootBuiltins x
 nolimit:base.NoLimit
structure Cx where
 prog:Program
 w:World
 K:PySem.W.Frag
 mg:Str→Option Value
 base:Heap
 A:Around
 N:List Str
 s₀:Shared
 H₀:Hp
 env:Env
 outer:List Env
 stack:List Env
 ex:List Addr
 fn:Str→Bool
 calm:Bool
 pn:List (Addr×Obj)
 xe:Value→Shared→Prop
def frs (l:List Env):List Addr:=l.filterMap (·.frame)
abbrev Cx.fs (X:Cx):List Addr:=frs X.outer
def Vis (sc:Scope) (x:Str):Prop:=sc.names.lookup x=some .local∨sc.names.lookup x=some .cell∨sc.names.lookup x=some .free
def Loc (sc:Scope) (x:Str):Prop:=sc.names.lookup x=some .local∨sc.names.lookup x=some .cell
def wK (env:Env) (h:Heap) (m:Str→Option Value) (x:Str) (u:Value):Prop:=
 (env.kindOf x=some .local∧m x=some u)∨((env.kindOf x=some .cell∨env.kindOf x=some .free)∧∃ c,env.cells.lookup x=some c∧h.IsCell c (some u))
structure Cx.Ok (X:Cx):Prop where
 mod:Mod X.K X.mg X.base
 kind:X.env.scope.kind=.function
 glob:X.env.globals=mainGlobals
 blt:X.env.builtins=builtinsNs
 above:X.s₀.heap.objs.size≤X.env.locals
 inj:∀ x y c,X.env.cells.lookup x=some c→X.env.cells.lookup y=some c→x=y
 has:∀ x,(X.env.kindOf x=some .cell∨X.env.kindOf x=some .free)→∃ c,X.env.cells.lookup x=some c
 cab:∀ x c,X.fn x=true→X.env.cells.lookup x=some c→X.s₀.heap.objs.size≤c
 hd:X.calm=true→X.A.handled=none
 frames:X.A.frames=some X.stack
 stk:X.stack=X.outer∨(X.stack=X.env::X.outer∧X.env.frame=some X.env.locals)
 exf:∀ b∈X.ex,b≠X.env.locals∧∀ x c,X.env.cells.lookup x=some c→c≠b
 bs:∀ b o,X.base.get? b=some o→X.s₀.heap.get? b=some o∧X.H₀ b=none
 bsz:X.base.objs.size≤X.s₀.heap.objs.size
 noex:∀ b o,X.base.get? b=some o→b ∉ X.ex
 exfs:∀ b∈X.ex,b ∉ X.fs
 funs:X.s₀.heap.FunFrames X.base X.outer
 frf:∀ b∈X.fs,X.H₀ b=none
structure Inv (X:Cx) (pins:List (Addr×Obj)) (σ:List (Option V)) (H:Hp) (s:Shared):Prop where
 ok:X.Ok
 os:s.os=X.s₀.os
 bare:AllBare s.gens
 base:Un X.fs X.ex X.H₀ H X.s₀.heap s.heap
 loc:∃ m,s.heap.Ns X.env.locals m∧∀ (i:Nat) (x:Str) (v:V),X.N[i]?=some x→σ[i]?=some (some v)→Vis X.env.scope x→∃ u,aV v u∧wK X.env s.heap m x u
 cell:∀ x c,X.env.cells.lookup x=some c→∃ v,s.heap.IsCell c v
 free:H X.env.locals=none
 freeC:∀ x c,X.env.cells.lookup x=some c→H c=none
 pin:∀ p∈X.pn++pins,s.heap.get? p.1=some p.2∧H p.1=none∧p.1≠X.env.locals∧p.1 ∉ X.fs∧∀ v,p.2.data≠.cell v
 hok:HOk X.prog X.w H s.heap
 len:σ.length=X.N.length
section
variable {X:Cx} {pins:List (Addr×Obj)} {σ:List (Option V)} {H H':Hp} {s:Shared} {h':Heap}
theorem Cx.Ok.nofr (ok:X.Ok) {b:Addr} {o:Obj} (e:X.base.get? b=some o):b ∉ X.fs:=fun hb=> by
 have:=(ok.funs.mem hb).1
 rw [e] at this; cases this
theorem Inv.bs (I:Inv X pins σ H s):∀ b o,X.base.get? b=some o→s.heap.get? b=some o∧H b=none:=fun b o e=>
 ⟨I.base.keep b o (I.ok.bs b o e).1 (I.ok.bs b o e).2 (I.ok.nofr e) (I.ok.noex b o e),I.base.free b o (I.ok.bs b o e).1 (I.ok.bs b o e).2 (I.ok.noex b o e)⟩
theorem Inv.bk (I:Inv X pins σ H s):∀ b o,X.base.get? b=some o→s.heap.get? b=some o:=fun b o e=> (I.bs b o e).1
theorem Inv.mod (I:Inv X pins σ H s):Mod X.K X.mg X.base:=I.ok.mod
theorem Inv.kIn (I:Inv X pins σ H s):X.K.In s.heap:=I.ok.mod.kin.keeps I.bk
theorem Inv.lt (I:Inv X pins σ H s):X.env.locals < s.heap.objs.size:=let ⟨_,hn,_⟩:=I.loc; hn.lt
theorem Inv.sz (I:Inv X pins σ H s):X.s₀.heap.objs.size≤s.heap.objs.size:=Nat.le_trans I.ok.above (Nat.le_of_lt I.lt)
theorem Inv.nofs (I:Inv X pins σ H s) {a:Addr} (h:s.heap.objs.size≤a):a ∉ X.fs:=fun hb=> by
 obtain ⟨_,o,ho,_⟩:=I.ok.funs.mem hb
 exact absurd (Nat.lt_of_lt_of_le (Heap.lt_size ho) (Nat.le_trans I.sz h)) (Nat.lt_irrefl _)
theorem Inv.cne (I:Inv X pins σ H s):∀ x c,X.env.cells.lookup x=some c→c≠X.env.locals:=fun x c e z=> by
 obtain ⟨v,o,ho,hd⟩:=I.cell x c e
 obtain ⟨m,⟨o',es,ep,ho',hd',_⟩,_⟩:=I.loc
 rw [z,ho'] at ho; cases ho; rw [hd'] at hd; cases hd
theorem Inv.funs (I:Inv X pins σ H s):s.heap.FunFrames X.base X.outer:=by
 have all:∀ (l:List Env),(∀ b∈frs l,b∈X.fs)→X.s₀.heap.FunFrames X.base l→s.heap.FunFrames X.base l:=by
  intro l
  induction l with
  | nil=> intro _ _; trivial
  | cons env r ih=>
   intro hs hl
   obtain ⟨hk,⟨L,o,hf,hn,ho,hd⟩,hr⟩:=hl
   have hL:L∈X.fs:=hs L (by unfold frs; rw [List.filterMap_cons,hf]; exact List.mem_cons_self)
   obtain ⟨sl,e⟩:=I.base.slot L o ho (I.ok.frf L hL) hL fun z=> I.ok.exfs L z hL
   exact ⟨hk,⟨L,_,hf,hn,e,hd⟩,ih (fun b hb=> hs b (by unfold frs; rw [List.filterMap_cons,hf]; exact List.mem_cons_of_mem _ hb)) hr⟩
 exact all X.outer (fun _ hb=> hb) I.ok.funs
theorem Inv.stack (I:Inv X pins σ H s):s.heap.FunFrames X.base X.stack:=by
 rcases I.ok.stk with e | ⟨e,hf⟩
 ·rw [e]; exact I.funs
 ·rw [e]
  obtain ⟨m,hn,_⟩:=I.loc
  refine .cons (by rw [I.ok.kind]; decide) hf hn ?_ I.funs
  exact Heap.get?_none_of_le (Nat.le_trans I.ok.bsz I.ok.above)
theorem Inv.stkSub (I:Inv X pins σ H s):∀ b∈frs X.stack,b∈X.env.locals::X.fs:=fun b hb=> by
 rcases I.ok.stk with e | ⟨e,hf⟩
 ·rw [e] at hb; exact List.mem_cons_of_mem _ hb
 ·rw [e] at hb
  unfold frs at hb
  rw [List.filterMap_cons,hf] at hb
  exact hb
theorem Inv.stkFree (I:Inv X pins σ H s):∀ b∈frs X.stack,H b=none:=fun b hb=> by
 rcases List.mem_cons.mp (I.stkSub b hb) with e | hb
 ·rw [e]; exact I.free
 ·obtain ⟨_,o,ho,_⟩:=I.ok.funs.mem hb
  exact I.base.free b o ho (I.ok.frf b hb) fun z=> I.ok.exfs b z hb
theorem Inv.step {g':Array GenState} {t':Nat} {d':Drawn} {ch:List Addr} (I:Inv X pins σ H s)
  (hch:∀ b∈ch,(b∈X.ex∨X.s₀.heap.objs.size≤b)∧b≠X.env.locals∧(∀ x c,X.env.cells.lookup x=some c→c≠b)∧∀ p∈X.pn++pins,p.1≠b)
  (keep:∀ b o,b≠X.env.locals→b ∉ X.fs→b ∉ ch→s.heap.get? b=some o→H b=none→h'.get? b=some o)
  (slot:∀ b o,b≠X.env.locals→b∈X.fs→b ∉ ch→s.heap.get? b=some o→H b=none→∃ sl,h'.get? b=some { o with slots:=sl }) (free:∀ b o,b ∉ ch→s.heap.get? b=some o→H b=none→H' b=none)
  (there:∀ b o,b ∉ ch→s.heap.get? b=some o→∃ o',h'.get? b=some o')
  (tups:∀ b xs,H b=some (.tup xs)→H' b=some (.tup xs)) (frzs:∀ b o u,H b=some (.frz o u)→H' b=some (.frz o u)) (tbls:∀ b ps,H b=some (.tbl ps)→∃ more,H' b=some (.tbl (ps++more)))
  (ns:∀ m,s.heap.Ns X.env.locals m→h'.Ns X.env.locals m) (hok:HOk X.prog X.w H' h') (hg:AllBare g'):
  Inv X pins σ H' { s with heap:=h',gens:=g',drawn:=d',toks:=t' }:=by
 have neL:∀ b o,X.s₀.heap.get? b=some o→b≠X.env.locals:=fun b o e=> Nat.ne_of_lt (Nat.lt_of_lt_of_le (Heap.lt_size e) I.ok.above)
 have neC:∀ b o,X.s₀.heap.get? b=some o→b ∉ X.ex→b ∉ ch:=fun b o e hx hb=> by
  rcases (hch b hb).1 with z | z
  ·exact hx z
  ·exact absurd (Nat.lt_of_lt_of_le (Heap.lt_size e) z) (Nat.lt_irrefl _)
 have cellK:∀ x c,X.env.cells.lookup x=some c→∀ v,s.heap.IsCell c v→h'.IsCell c v:=fun x c e v ⟨o,ho,hd⟩=> by
  have nch:c ∉ ch:=fun z=> (hch c z).2.2.1 x c e rfl
  by_cases hc:c∈X.fs
  ·obtain ⟨sl,q⟩:=slot c o (I.cne x c e) hc nch ho (I.freeC x c e)
   exact ⟨_,q,hd⟩
  ·exact ⟨o,keep c o (I.cne x c e) hc nch ho (I.freeC x c e),hd⟩
 refine ⟨I.ok,I.os,hg,⟨fun b o e n hb hx=> ?_,fun b o e n hb hx=> ?_,fun b o e n hx=> ?_,fun b o e hx=> ?_,fun b xs e=> tups b xs (I.base.tups b xs e),fun b o xs e=> frzs b o xs (I.base.frzs b o xs e),fun b ps e=> ?_⟩,?_,fun x c e=> ?_,?_,fun x c e=> ?_,fun p hp=> ?_,hok,I.len⟩
 ·exact keep b o (neL b o e) hb (neC b o e hx) (I.base.keep b o e n hb hx) (I.base.free b o e n hx)
 ·obtain ⟨sl,e1⟩:=I.base.slot b o e n hb hx
  obtain ⟨sl',e2⟩:=slot b _ (neL b o e) hb (neC b o e hx) e1 (I.base.free b o e n hx)
  exact ⟨sl',e2⟩
 ·obtain ⟨o',e1⟩:=I.base.there b o e hx
  exact free b o' (neC b o e hx) e1 (I.base.free b o e n hx)
 ·obtain ⟨o',e1⟩:=I.base.there b o e hx
  exact there b o' (neC b o e hx) e1
 ·obtain ⟨m1,e1⟩:=I.base.tbls b ps e
  obtain ⟨m2,e2⟩:=tbls b _ e1
  exact ⟨m1++m2,by rw [e2,Array.append_assoc]⟩
 ·obtain ⟨m,hn,hl⟩:=I.loc
  refine ⟨m,ns m hn,fun i x v e1 e2 e3=> ?_⟩
  obtain ⟨u,r,l⟩:=hl i x v e1 e2 e3
  refine ⟨u,r,?_⟩
  rcases l with l | ⟨k,c,e,z⟩
  ·exact .inl l
  ·exact .inr ⟨k,c,e,cellK x c e _ z⟩
 ·obtain ⟨v,z⟩:=I.cell x c e
  exact ⟨v,cellK x c e v z⟩
 ·obtain ⟨m,⟨o,_,_,ho,_⟩,_⟩:=I.loc
  exact free _ o (fun z=> (hch _ z).2.1 rfl) ho I.free
 ·obtain ⟨v,o,ho,hd⟩:=I.cell x c e
  exact free c o (fun z=> (hch c z).2.2.1 x c e rfl) ho (I.freeC x c e)
 ·obtain ⟨e,n,ne,nf,d⟩:=I.pin p hp
  have nch:p.1 ∉ ch:=fun z=> (hch p.1 z).2.2.2 p hp rfl
  exact ⟨keep p.1 p.2 ne nf nch e n,free p.1 p.2 nch e n,ne,nf,d⟩
theorem Inv.un {t':Nat} (I:Inv X pins σ H s) (u:Un X.fs [] H H' s.heap h') (hok:HOk X.prog X.w H' h'):Inv X pins σ H' { s with heap:=h',toks:=t' }:=by
 obtain ⟨m,⟨o,es,ep,ho,r⟩,_⟩:=id I.loc
 obtain ⟨sl,hL⟩:=u.any ho I.free (by simp)
 exact I.step (g':=s.gens) (d':=s.drawn) (ch:=[]) (fun _ z=> nomatch z) (fun b o _ hb _ e n=> u.keep b o e n hb (by simp)) (fun b o _ hb _ e n=> u.slot b o e n hb (by simp)) (fun b o _ e n=> u.free b o e n (by simp)) (fun b o _ e=> u.there b o e (by simp)) u.tups u.frzs u.tbls (fun m' hm=> by
  obtain ⟨o',es',ep',ho',r'⟩:=hm
  rw [ho] at ho'; cases ho'
  exact ⟨_,es',ep',hL,r'⟩) hok I.bare
theorem Inv.call {g':Array GenState} {t':Nat} {d':Drawn} {ch:List Addr} (I:Inv X pins σ H s) (u:Un (frs X.stack) ch H H' s.heap h') (hok:HOk X.prog X.w H' h') (hg:AllBare g')
  (hch:∀ b∈ch,(b∈X.ex∨X.s₀.heap.objs.size≤b)∧b≠X.env.locals∧(∀ x c,X.env.cells.lookup x=some c→c≠b)∧∀ p∈X.pn++pins,p.1≠b):
  Inv X pins σ H' { s with heap:=h',gens:=g',drawn:=d',toks:=t' }:=by
 obtain ⟨m,⟨o,es,ep,ho,r⟩,_⟩:=id I.loc
 obtain ⟨sl,hL⟩:=u.any ho I.free fun z=> (hch _ z).2.1 rfl
 exact I.step (ch:=ch) hch (fun b o hL hb hc e n=> u.keep b o e n (fun z=> (List.mem_cons.mp (I.stkSub b z)).elim hL hb) hc) (fun b o _ _ hc e n=> u.any e n hc) (fun b o hc e n=> u.free b o e n hc) (fun b o hc e=> u.there b o e hc) u.tups u.frzs u.tbls (fun m' hm=> by
  obtain ⟨o',es',ep',ho',r'⟩:=hm
  rw [ho] at ho'; cases ho'
  exact ⟨_,es',ep',hL,r'⟩) hok hg
theorem Inv.turned {t':Nat} {it:Addr} (I:Inv X pins σ H s) (k:∀ b o,b≠it→s.heap.get? b=some o→h'.get? b=some o) (hn:H it=none) (hL:it≠X.env.locals)
  (h1:it∈X.ex∨X.s₀.heap.objs.size≤it) (h2:∀ x c,X.env.cells.lookup x=some c→c≠it) (h3:∀ p∈X.pn++pins,p.1≠it):Inv X pins σ H { s with heap:=h',toks:=t' }:=by
 have nit:∀ b u,H b=some u→b≠it:=fun b u e z=> by rw [z,hn] at e; cases e
 refine I.step (g':=s.gens) (d':=s.drawn) (ch:=[it]) (fun b hb=> ?_) (fun b o _ _ hc e _=> k b o (fun z=> hc (by simp [z])) e) (fun b o _ _ hc e _=> ⟨o.slots,k b o (fun z=> hc (by simp [z])) e⟩) (fun _ _ _ _ n=> n)
  (fun b o hc e=> ⟨o,k b o (fun z=> hc (by simp [z])) e⟩) (fun _ _ e=> e) (fun _ _ _ e=> e) (fun b ps e=> ⟨#[],by rw [e]; simp⟩) (fun m hm=> ?_) (fun b u e=> ?_) I.bare
 ·have e:b=it:=by simpa using hb
  subst e
  exact ⟨h1,hL,h2,h3⟩
 ·obtain ⟨o,es,ep,ho,r⟩:=hm
  exact ⟨o,es,ep,k _ o (Ne.symm hL) ho,r⟩
 ·refine (I.hok b u e).stay (fun c v hc q=> k c v ?_ q) (fun _ q=> q) fun _ _ q=> q
  rcases hc with z | z
  ·rw [z]; exact nit b u e
  ·exact nit c _ z
theorem Inv.tok (I:Inv X pins σ H s) (t:Nat):Inv X pins σ H { s with toks:=t }:=I.un (h':=s.heap) (t':=t) Un.refl I.hok
theorem Inv.kept {t':Nat} (I:Inv X pins σ H s) (k:∀ b u,s.heap.get? b=some u→h'.get? b=some u):Inv X pins σ H { s with heap:=h',toks:=t' }:=I.un (Un.kept k) (I.hok.kept k)
theorem Inv.laid {a:Addr} {o:HO} {t':Nat} (I:Inv X pins σ H s) (k:∀ b u,s.heap.get? b=some u→h'.get? b=some u) (hp:s.heap.objs.size≤a) (new:bR X.prog X.w (upd H a o) h' a o):
  Inv X pins σ (upd H a o) { s with heap:=h',toks:=t' }:=I.un (Un.laid k hp (I.hok.fresh hp)) (I.hok.laid k hp new)
theorem Inv.write {x e:Addr} {o:HO} {t':Nat} (I:Inv X pins σ H s) (mu:Mut (H x)) (he:e=x∨H e=some (.own x)) (k:∀ b u,b≠e→s.heap.get? b=some u→h'.get? b=some u) (heo:∃ u,h'.get? e=some u)
  (new:bR X.prog X.w (upd H x o) h' x o):Inv X pins σ (upd H x o) { s with heap:=h',toks:=t' }:=I.un (Un.write mu he k heo) (I.hok.write mu he k heo new)
theorem Inv.weak {σ':List (Option V)} (I:Inv X pins σ H s) (hl:σ'.length=σ.length) (w:∀ (i:Nat) v,σ'[i]?=some (some v)→σ[i]?=some (some v)):Inv X pins σ' H s:=
 ⟨I.ok,I.os,I.bare,I.base,let ⟨m,hn,hl'⟩:=I.loc; ⟨m,hn,fun i x v e1 e2 e3=> hl' i x v e1 (w i v e2) e3⟩,I.cell,I.free,I.freeC,I.pin,I.hok,hl.trans I.len⟩
theorem Inv.pins_of {pins':List (Addr×Obj)} (I:Inv X pins σ H s) (h:∀ p∈pins',s.heap.get? p.1=some p.2∧H p.1=none∧p.1≠X.env.locals∧p.1 ∉ X.fs∧∀ v,p.2.data≠.cell v):Inv X pins' σ H s:=
 ⟨I.ok,I.os,I.bare,I.base,I.loc,I.cell,I.free,I.freeC,fun p hp=> (List.mem_append.mp hp).elim (fun z=> I.pin p (List.mem_append_left _ z)) (h p),I.hok,I.len⟩
theorem gR {N:List Str} (hN:N.Nodup) {i j:Nat} {x:Str} (a:N[i]?=some x) (b:N[j]?=some x):i=j:=by
 obtain ⟨h1,e1⟩:=List.getElem?_eq_some_iff.mp a
 obtain ⟨h2,e2⟩:=List.getElem?_eq_some_iff.mp b
 exact (List.getElem_inj hN).mp (e1.trans e2.symm)
theorem fK {M:Model} {A:Around} {E:Value→Shared→Prop} {i:Nat} {x:Str} {v:V} {u:Value} {Q:Unit→Shared→Prop} (I:Inv X pins σ H s) (hN:X.N.Nodup) (hi:X.N[i]?=some x) (hx:Loc X.env.scope x) (r:aV v u)
  (h:∀ s',Inv X pins (σ.set i (some v)) H s'→(∃ a,Heap.SameBut a s.heap s'.heap∧(a=X.env.locals∨X.env.cells.lookup x=some a))→Q () s') (hf:X.fn x=true∨X.env.scope.names.lookup x=some .local:=by first | exact .inl rfl | exact .inr rfl | assumption):wpAny M A (storeName X.env x u) Q E s:=by
 obtain ⟨m,hn,hl⟩:=id I.loc
 have hcls:(X.env.scope.kind==.class || (X.env.scope.kind==.module && X.env.locals !=X.env.globals))=false:=by rw [I.ok.kind]; rfl
 have hiσ:i < σ.length:=by rw [I.len]; exact (List.getElem?_eq_some_iff.mp hi).1
 have cne:=I.cne
 have tracked:∀ {a:Addr} {h':Heap},(∃ o,s.heap.get? a=some o∧H a=none)→Heap.SameBut a s.heap h'→HOk X.prog X.w H h':=fun {a h'} ha hs b ob e=> by
  obtain ⟨_,_,hfree⟩:=ha
  refine (I.hok b ob e).stay (fun c w' hc q=> (hs.2 c ?_).trans q) (fun _ q=> q) fun _ _ q=> q
  rintro rfl
  rcases hc with rfl | hc
  ·rw [hfree] at e; cases e
  ·rw [hfree] at hc; cases hc
 rcases hx with hk | hk
 ·refine wpAny_storeName_local hk hn (fun h' hn' hs=> ?_) hcls
  obtain ⟨oL,_,_,hoL,_⟩:=id hn
  refine h _ ⟨I.ok,I.os,I.bare,⟨fun b o e n hb hx=> ?_,fun b o e n hb hx=> ?_,I.base.free,fun b o e hx=> ?_,I.base.tups,I.base.frzs,I.base.tbls⟩,⟨_,hn',fun j y v' e1 e2 e3=> ?_⟩,fun y c e=> ?_,I.free,I.freeC,fun p hp=> ?_,tracked ⟨oL,hoL,I.free⟩ hs,by simpa using I.len⟩ ⟨_,hs,.inl rfl⟩
  ·exact (hs.2 b (Nat.ne_of_lt (Nat.lt_of_lt_of_le (Heap.lt_size e) I.ok.above))).trans (I.base.keep b o e n hb hx)
  ·obtain ⟨sl,e1⟩:=I.base.slot b o e n hb hx
   exact ⟨sl,(hs.2 b (Nat.ne_of_lt (Nat.lt_of_lt_of_le (Heap.lt_size e) I.ok.above))).trans e1⟩
  ·obtain ⟨o',e1⟩:=I.base.there b o e hx
   exact ⟨o',(hs.2 b (Nat.ne_of_lt (Nat.lt_of_lt_of_le (Heap.lt_size e) I.ok.above))).trans e1⟩
  ·by_cases hj:j=i
   ·subst hj
    rw [hi] at e1; cases e1
    rw [List.getElem?_set_self hiσ] at e2
    cases e2
    exact ⟨u,r,.inl ⟨hk,by simp⟩⟩
   ·rw [List.getElem?_set_ne (Ne.symm hj)] at e2
    obtain ⟨u',r',q⟩:=hl j y v' e1 e2 e3
    refine ⟨u',r',?_⟩
    rcases q with ⟨k,e⟩ | ⟨k,c,e,z⟩
    ·refine .inl ⟨k,?_⟩
     have:y≠x:=fun e=> hj (gR hN e1 (e ▸ hi))
     simp [this,e]
    ·exact .inr ⟨k,c,e,z.sameBut hs (cne y c e)⟩
  ·obtain ⟨w',z⟩:=I.cell y c e
   exact ⟨w',z.sameBut hs (cne y c e)⟩
  ·obtain ⟨e,n,ne,nf,d⟩:=I.pin p hp
   exact ⟨(hs.2 p.1 ne).trans e,n,ne,nf,d⟩
 ·have hfn:X.fn x=true:=by
   rcases hf with z | z
   ·exact z
   ·rw [z] at hk; cases hk
  obtain ⟨c,hc⟩:=I.ok.has x (.inl hk)
  obtain ⟨w',z⟩:=I.cell x c hc
  refine wpAny_storeName_cell I.ok.kind hk hc z (fun h' hc' hs=> ?_)
  obtain ⟨oc,hoc,hocd⟩:=id z
  refine h { s with heap:=h' } ⟨I.ok,I.os,I.bare,⟨fun b o e n hb hx=> ?_,fun b o e n hb hx=> ?_,I.base.free,fun b o e hx=> ?_,I.base.tups,I.base.frzs,I.base.tbls⟩,⟨m,hn.sameBut hs (Ne.symm (cne x c hc)),fun j y v' e1 e2 e3=> ?_⟩,fun y c' e=> ?_,I.free,I.freeC,fun p hp=> ?_,tracked ⟨oc,hoc,I.freeC x c hc⟩ hs,by simpa using I.len⟩ ⟨c,hs,.inr hc⟩
  ·exact (hs.2 b (Nat.ne_of_lt (Nat.lt_of_lt_of_le (Heap.lt_size e) (I.ok.cab x c hfn hc)))).trans (I.base.keep b o e n hb hx)
  ·obtain ⟨sl,e1⟩:=I.base.slot b o e n hb hx
   exact ⟨sl,(hs.2 b (Nat.ne_of_lt (Nat.lt_of_lt_of_le (Heap.lt_size e) (I.ok.cab x c hfn hc)))).trans e1⟩
  ·obtain ⟨o',e1⟩:=I.base.there b o e hx
   exact ⟨o',(hs.2 b (Nat.ne_of_lt (Nat.lt_of_lt_of_le (Heap.lt_size e) (I.ok.cab x c hfn hc)))).trans e1⟩
  ·by_cases hj:j=i
   ·subst hj
    rw [hi] at e1; cases e1
    rw [List.getElem?_set_self hiσ] at e2
    cases e2
    exact ⟨u,r,.inr ⟨.inl hk,c,hc,hc'⟩⟩
   ·rw [List.getElem?_set_ne (Ne.symm hj)] at e2
    obtain ⟨u',r',q⟩:=hl j y v' e1 e2 e3
    refine ⟨u',r',?_⟩
    rcases q with q | ⟨k,c',e,z'⟩
    ·exact .inl q
    ·refine .inr ⟨k,c',e,z'.sameBut hs ?_⟩
     rintro rfl
     exact hj (gR hN e1 (I.ok.inj _ _ _ e hc ▸ hi))
  ·by_cases hcc:c'=c
   ·subst hcc; exact ⟨_,hc'⟩
   ·obtain ⟨w2,z2⟩:=I.cell y c' e
    exact ⟨w2,z2.sameBut hs hcc⟩
  ·obtain ⟨e,n,ne,nf,d⟩:=I.pin p hp
   refine ⟨(hs.2 p.1 ?_).trans e,n,ne,nf,d⟩
   intro q
   rw [q,hoc] at e
   have q':oc=p.2:=Option.some.inj e
   exact d w' (by rw [← q']; exact hocd)
theorem fe {M:Model} {A:Around} {E:Value→Shared→Prop} {i:Nat} {x:Str} {v:V} {u:Value} {Q:Unit→Shared→Prop} (I:Inv X pins σ H s) (hN:X.N.Nodup) (hi:X.N[i]?=some x) (hx:Loc X.env.scope x) (r:aV v u)
  (h:∀ s',Inv X pins (σ.set i (some v)) H s'→Q () s') (hf:X.fn x=true∨X.env.scope.names.lookup x=some .local:=by first | exact .inl rfl | exact .inr rfl | assumption):wpAny M A (storeName X.env x u) Q E s:=
 fK I hN hi hx r (fun s' I' _=> h s' I') hf
theorem Inv.call' {s':Shared} {ch:List Addr} (I:Inv X pins σ H s) (ho:s'.os=s.os) (u:Un (frs X.stack) ch H H' s.heap s'.heap) (hok:HOk X.prog X.w H' s'.heap) (hg:AllBare s'.gens)
  (hch:∀ b∈ch,(b∈X.ex∨X.s₀.heap.objs.size≤b)∧b≠X.env.locals∧(∀ x c,X.env.cells.lookup x=some c→c≠b)∧∀ p∈X.pn++pins,p.1≠b):Inv X pins σ H' s':=by
 obtain ⟨h',g',d',t',o'⟩:=s'
 have e:o'=s.os:=ho
 subst e
 exact I.call (g':=g') (t':=t') (d':=d') u hok hg hch
end
abbrev XK:=Value→Option Addr→Hp→Prop
abbrev St:=List (Option V)
abbrev VK:=V→Hp→Prop
abbrev TE:=St→Hp→VK→Prop
abbrev TT:=St→Hp→(Bool→Hp→Prop)→Prop
abbrev TA:=St→Hp→(List V→Hp→Prop)→Prop
structure gX where
 nx:St→Hp→Prop
 rt:VK
 bk:St→Hp→Prop:=fun _ _=> False
 ct:St→Hp→Prop:=fun _ _=> False
abbrev TS:=gX→St→Hp→Prop
def EP (X:Cx) (pins:List (Addr×Obj)) (σ:St) (Q:VK) (u:Value) (s':Shared):Prop:=∃ v H',Inv X pins σ H' s'∧aV v u∧Q v H'
def TP (X:Cx) (pins:List (Addr×Obj)) (σ:St) (Q:Bool→Hp→Prop) (b:Bool) (s':Shared):Prop:=∃ H',Inv X pins σ H' s'∧Q b H'
def AP (X:Cx) (pins:List (Addr×Obj)) (σ:St) (Q:List V→Hp→Prop) (us:List Value) (s':Shared):Prop:=∃ vs H',Inv X pins σ H' s'∧aG vs us∧Q vs H'
def SP (X:Cx) (pins:List (Addr×Obj)) (D:gX) (f:Flow) (s':Shared):Prop:=
 match f with
 | .next=> ∃ σ' H',Inv X pins σ' H' s'∧D.nx σ' H'
 | .brk=> ∃ σ' H',Inv X pins σ' H' s'∧D.bk σ' H'
 | .cont=> ∃ σ' H',Inv X pins σ' H' s'∧D.ct σ' H'
 | .ret u=> ∃ v σ' H',Inv X pins σ' H' s'∧aV v u∧D.rt v H'
def PE (X:Cx) (e:Expr) (t:TE):Prop:=
 ∀ (pins:List (Addr×Obj)) (s:Shared) (σ:St) (H:Hp) (Q:VK),Inv X pins σ H s→t σ H Q→wpAny (model X.prog X.w) X.A (eval e X.env) (EP X pins σ Q) X.xe s
def PT (X:Cx) (e:Expr) (t:TT):Prop:=
 ∀ (pins:List (Addr×Obj)) (s:Shared) (σ:St) (H:Hp) (Q:Bool→Hp→Prop),Inv X pins σ H s→t σ H Q→wpAny (model X.prog X.w) X.A (isTrue e X.env (eval e X.env)) (TP X pins σ Q) X.xe s
def PW (X:Cx) (e:Expr) (t:TT):Prop:=
 ∀ (whole:Sem Value) (pins:List (Addr×Obj)) (s:Shared) (σ:St) (H:Hp) (Q:Bool→Hp→Prop),Inv X pins σ H s→t σ H Q→wpAny (model X.prog X.w) X.A (isTrue e X.env whole) (TP X pins σ Q) X.xe s
theorem PW.pt {X:Cx} {e:Expr} {t:TT} (h:PW X e t):PT X e t:=h _
def PA (X:Cx) (es:List Expr) (t:TA):Prop:=
 ∀ (pos:Pos) (pins:List (Addr×Obj)) (s:Shared) (σ:St) (H:Hp) (Q:List V→Hp→Prop),Inv X pins σ H s→t σ H Q→wpAny (model X.prog X.w) X.A (spliced (backTo pos (starEach es X.env))) (AP X pins σ Q) X.xe s
def PS (X:Cx) (st:Stmt) (t:TS):Prop:=
 ∀ (pins:List (Addr×Obj)) (s:Shared) (σ:St) (H:Hp) (D:gX),Inv X pins σ H s→t D σ H→wpAny (model X.prog X.w) X.A (exec st X.env) (SP X pins D) X.xe s
def PSs (X:Cx) (st:List Stmt) (t:TS):Prop:=
 ∀ (pins:List (Addr×Obj)) (s:Shared) (σ:St) (H:Hp) (D:gX),Inv X pins σ H s→t D σ H→wpAny (model X.prog X.w) X.A (execs st X.env) (SP X pins D) X.xe s
theorem thn {α:Type} {t:Sem α} {Q Q':α→Shared→Prop} {M:Model} {A:Around} {E:Value→Shared→Prop} {s:Shared} (h:wpAny M A t Q E s) (hQ:∀ a s,Q a s→Q' a s):wpAny M A t Q' E s:=wpAny_mono h hQ fun _ _ x=> x
end L2
namespace L2
open PySem PySem.Spec PyProof.Rows
section
variable {X:Cx}
def wJ (i:Nat):TE:=fun σ H Q=> ∃ v,σ[i]?=some (some v)∧Q v H
def tC (v:V):TE:=fun _ H Q=> Q v H
theorem dl {i:Nat} {x:Str} {pos:Pos} (hN:X.N[i]?=some x) (hv:Vis X.env.scope x) (hd:(x==("__debug__":Str))=false:=by decide) (hcd:(x==("__classdict__":Str))=false:=by decide):PE X (.Name x pos) (wJ i):=by
 intro pins s σ H Q I h
 obtain ⟨v,e,h⟩:=h
 obtain ⟨m,hn,hl⟩:=I.loc
 obtain ⟨u,r,l⟩:=hl i x v hN e hv
 have fin:EP X pins σ Q u s:=⟨v,H,I,r,h⟩
 rcases l with ⟨hk,hm⟩ | ⟨hk,c,hc,hcell⟩
 ·exact wpAny_Name (wpAny_loadName_local I.ok.kind hk hn hm fin) hd
 ·rcases hk with hk | hk
  ·exact wpAny_Name (wpAny_loadName_cell I.ok.kind hk hc hcell fin) hd
  ·exact wpAny_Name (wpAny_loadName_free I.ok.kind hk hc hcell fin hcd) hd
theorem vo {i j pos}:PE X (.Constant (.int i) j pos) (tC (.int i)):=fun _ _ _ H _ I h=> wpAny_Constant_int ⟨.int i,H,I.tok _,⟨_,rfl⟩,h⟩
theorem wn {b j pos}:PE X (.Constant (.bool b) j pos) (tC (.bl b)):=fun _ _ _ H _ I h=> Constant_bool ⟨.bl b,H,I,rfl,h⟩
theorem vc {x j pos}:PE X (.Constant (.str x) j pos) (tC (.str x)):=fun _ _ _ H _ I h=> Calls.Constant_str ⟨.str x,H,I.tok _,⟨_,rfl⟩,h⟩
def Gl (X:Cx) (x:Str):Prop:=X.env.kindOf x=some .globalImplicit
theorem fm {E:Value→Shared→Prop} {pins:List (Addr×Obj)} {s:Shared} {σ:St} {H:Hp} {x:Str} {u:Value} {pos:Pos} {Q:Value→Shared→Prop} (I:Inv X pins σ H s) (hg:Gl X x) (hm:X.mg x=some u) (h:Q u s)
  (hd:(x==("__debug__":Str))=false:=by decide):wpAny (model X.prog X.w) X.A (eval (.Name x pos) X.env) Q E s:=
 Calls.Name_function_global I.ok.kind hg (Calls.loadGlobal_global (by rw [I.ok.glob]; exact I.mod.glob.keeps I.bk) hm h) hd
theorem cj {E:Value→Shared→Prop} {pins:List (Addr×Obj)} {s:Shared} {σ:St} {H:Hp} {x:Str} {u:Value} {pos:Pos} {Q:Value→Shared→Prop} (I:Inv X pins σ H s) (hg:Gl X x) (hm:X.mg x=none) (hv:bootBuiltins x=some u) (h:Q u s)
  (hn:x≠"__name__":=by decide) (hd:(x==("__debug__":Str))=false:=by decide):wpAny (model X.prog X.w) X.A (eval (.Name x pos) X.env) Q E s:=by
 obtain ⟨mb,h1,h2⟩:=I.mod.blt
 exact Calls.Name_function_global I.ok.kind hg (Calls.loadGlobal_builtin (by rw [I.ok.glob]; exact I.mod.glob.keeps I.bk) hm (by rw [I.ok.blt]; exact h1.keeps I.bk) ((h2 x hn).trans hv) h) hd
theorem gf {x:Str} {v:V} {u:Value} {pos:Pos} (hg:Gl X x) (hm:X.mg x=some u) (r:aV v u) (hd:(x==("__debug__":Str))=false:=by decide):PE X (.Name x pos) (tC v):=
 fun _ _ _ H _ I h=> fm I hg hm ⟨v,H,I,r,h⟩ hd
theorem rH {x:Str} {v:V} {u:Value} {pos:Pos} (hg:Gl X x) (hm:X.mg x=none) (hv:bootBuiltins x=some u) (r:aV v u) (hn:x≠"__name__":=by decide) (hd:(x==("__debug__":Str))=false:=by decide):PE X (.Name x pos) (tC v):=
 fun _ _ _ H _ I h=> cj I hg hm hv ⟨v,H,I,r,h⟩ hn hd
variable {a b:Expr} {ta tb:TE} {pos:Pos}
def tB (t:TE):TT:=fun σ H Q=> t σ H fun x H1=> ∃ c,x=.bl c∧Q c H1
theorem vA {e:Expr} {t:TE} (h:PE X e t) (he:∀ whole,isTrue e X.env whole=(do let v ← whole; standAt e.pos; holding [v] (truthy v)):=by intro _; rfl):PT X e (tB t):=by
 intro pins s σ H Q I hw
 refine isTrue_plain (thn (h pins s σ H _ I hw) fun v s1 ⟨x,H1,I1,r1,q1⟩=> ?_) (he _)
 obtain ⟨d,rfl,q⟩:=q1
 cases r1
 exact wpAny_truthy_bool ⟨H1,I1,q⟩
variable {tA tB':TT} {rest:List Expr}
def wF (t u:TT):TT:=fun σ H Q=> t σ H fun c H1=> if c=true then u σ H1 Q else Q false H1
def tOr (t u:TT):TT:=fun σ H Q=> t σ H fun c H1=> if c=true then Q true H1 else u σ H1 Q
def wQ (t:TT):TT:=fun σ H Q=> t σ H fun c H1=> Q (!c) H1
theorem rJ (ha:PT X a tA):PW X (.BoolOp .And [a] pos) tA:=by
 intro wh pins s σ H Q I h
 refine isTrue_and (thn (ha pins s σ H Q I h) fun c s1 e=> ?_)
 cases c with
 | true=> exact isTrue_and_nil e
 | false=> exact e
theorem u5 (ha:PT X a tA):PW X (.BoolOp .Or [a] pos) tA:=by
 intro wh pins s σ H Q I h
 refine isTrue_or (thn (ha pins s σ H Q I h) fun c s1 e=> ?_)
 cases c with
 | false=> exact isTrue_or_nil e
 | true=> exact e
theorem qE (ha:PT X a tA) (hb:PW X (.BoolOp .And (b::rest) pos) tB'):PW X (.BoolOp .And (a::b::rest) pos) (wF tA tB'):=by
 intro wh pins s σ H Q I h
 refine isTrue_and (thn (ha pins s σ H _ I h) fun c s1 ⟨H1,I1,q1⟩=> ?_)
 cases c with
 | true=> exact hb wh pins s1 σ H1 Q I1 q1
 | false=> exact ⟨H1,I1,q1⟩
theorem ue (ha:PT X a tA) (hb:PW X (.BoolOp .Or (b::rest) pos) tB'):PW X (.BoolOp .Or (a::b::rest) pos) (tOr tA tB'):=by
 intro wh pins s σ H Q I h
 refine isTrue_or (thn (ha pins s σ H _ I h) fun c s1 ⟨H1,I1,q1⟩=> ?_)
 cases c with
 | true=> exact ⟨H1,I1,q1⟩
 | false=> exact hb wh pins s1 σ H1 Q I1 q1
theorem uL (ha:PT X a tA):PT X (.UnaryOp .Not a pos) (wQ tA):=by
 intro pins s σ H Q I h
 exact isTrue_not (ha pins s σ H (fun c H1=> Q (!c) H1) I h)
def vL (ta tb:TE):TE:=fun σ H Q=> ta σ H fun x H1=> ∃ c,x=.bl c∧if c=true then tb σ H1 Q else Q (.bl false) H1
def vK (ta:TE):TE:=fun σ H Q=> ta σ H fun x H1=> ∃ c,x=.bl c∧Q (.bl (!c)) H1
theorem uO {op} {t:TE} (h:PE X a t):PE X (.BoolOp op [a] pos) t:=fun pins s σ H Q I hw=> BoolOp_one (h pins s σ H Q I hw)
theorem qc (ha:PE X a ta) (hb:PE X (.BoolOp .And (b::rest) pos) tb):PE X (.BoolOp .And (a::b::rest) pos) (vL ta tb):=by
 intro pins s σ H Q I h
 refine BoolOp_and (thn (ha pins s σ H _ I h) fun v s1 ⟨x,H1,I1,r1,q1⟩=> ?_)
 obtain ⟨c,rfl,q1⟩:=q1
 cases r1
 refine wpAny_truthy_bool ?_
 cases c with
 | true=> exact hb pins s1 σ H1 Q I1 q1
 | false=> exact ⟨.bl false,H1,I1,rfl,q1⟩
theorem uB (ha:PE X a ta):PE X (.UnaryOp .Not a pos) (vK ta):=by
 intro pins s σ H Q I h
 refine UnaryOp_ (thn (ha pins s σ H _ I h) fun v s1 ⟨x,H1,I1,r1,q1⟩=> ?_)
 obtain ⟨c,rfl,q1⟩:=q1
 cases r1
 exact not_of (wpAny_truthy_bool ⟨.bl (!c),H1,I1,rfl,q1⟩)
end
end L2
namespace L2
open PySem PySem.Spec PyProof.Rows
def SqL (K:PySem.W.Frag) (H:Hp) (a:Addr) (xs:List V):Prop:=
 Rd H a (.lst xs)∨
  ∃ (o:Obj) (its:Array Value) (n:Nat),K.lookup a=some o∧o.cls=.type "list"∧o.dict=none∧o.data=.seq its n∧its.size≤sizeLine∧aG xs its.toList
def SqT (K:PySem.W.Frag) (H:Hp) (a:Addr) (xs:List V):Prop:=
 Rd H a (.tup xs)∨
  ∃ (o:Obj) (its:Array Value) (n:Nat),K.lookup a=some o∧o.cls=.type "tuple"∧o.data=.seq its n∧its.size≤sizeLine∧aG xs its.toList
def wB:Value→Option V
 | .none=> some .non
 | .bool b=> some (.bl b)
 | .int i _=> some (.int i)
 | .str x _=> some (.str x)
 | .bytes b _=> some (.byt b)
 | .float b _=> some (.flt b)
 | .ref a=> some (.ref a)
 | .type n=> some (.ty n)
 | _=> none
theorem aV.abs {x:V} {u:Value} (r:aV x u):wB u=some x:=by
 cases x with
 | non=> cases r; rfl
 | bl _=> cases r; rfl
 | int _=> obtain ⟨t,rfl⟩:=r; rfl
 | str _=> obtain ⟨t,rfl⟩:=r; rfl
 | byt _=> obtain ⟨t,rfl⟩:=r; rfl
 | flt _=> obtain ⟨t,rfl⟩:=r; rfl
 | ref _=> cases r; rfl
 | ty _=> cases r; rfl
theorem aV.inj {x y:V} {u:Value} (r:aV x u) (q:aV y u):x=y:=Option.some.inj (r.abs.symm.trans q.abs)
theorem aG.inj:∀ {xs ys:List V} {us:List Value},aG xs us→aG ys us→xs=ys
 | _,_,_,.nil,.nil=> rfl
 | _,_,_,.cons r t,.cons r' t'=> by rw [r.inj r',aG.inj t t']
section
variable {X:Cx} {pins:List (Addr×Obj)} {σ:St} {H:Hp} {s:Shared} {a:Addr} {xs ys:List V}
theorem SqL.of {K:PySem.W.Frag} (h:H a=some (.lst xs)):SqL K H a xs:=.inl (.inl h)
theorem SqT.of {K:PySem.W.Frag} (h:H a=some (.tup xs)):SqT K H a xs:=.inl (.inl h)
theorem Inv.list (I:Inv X pins σ H s) (h:SqL X.K H a xs):∃ its:List Value,aG xs its∧PlainL s.heap a its.toArray∧xs.length≤sizeLine:=by
 rcases h with h | ⟨o,its,n,hk,hc,hd,hs,hz,r⟩
 ·obtain ⟨z,its,n,r,e⟩:=h.ok I.hok
  exact ⟨its,r,⟨_,n,e,rfl,rfl,rfl⟩,z⟩
 ·refine ⟨its.toList,r,⟨o,n,I.kIn a o hk,hc,hd,by simpa using hs⟩,?_⟩
  have e:=r.length
  simp only [Array.length_toList] at e
  omega
theorem Inv.tuple (I:Inv X pins σ H s) (h:SqT X.K H a xs):∃ its:List Value,aG xs its∧IsTup s.heap a its.toArray∧xs.length≤sizeLine:=by
 rcases h with h | ⟨o,its,n,hk,hc,hs,hz,r⟩
 ·obtain ⟨z,its,r,p⟩:=h.ok I.hok
  exact ⟨its,r,p,z⟩
 ·refine ⟨its.toList,r,⟨o,I.kIn a o hk,hc,n,by simpa using hs⟩,?_⟩
  have e:=r.length
  simp only [Array.length_toList] at e
  omega
theorem Inv.list_inj (I:Inv X pins σ H s) (h:SqL X.K H a xs) (h':SqL X.K H a ys):xs=ys:=by
 obtain ⟨its,r,⟨o,n,e,_,_,d⟩,_⟩:=I.list h
 obtain ⟨its',r',⟨o',n',e',_,_,d'⟩,_⟩:=I.list h'
 rw [e] at e'; cases e'
 rw [d] at d'
 injection d' with d1 _
 have:its=its':=by simpa using congrArg Array.toList d1
 subst this
 exact r.inj r'
theorem Inv.tuple_inj (I:Inv X pins σ H s) (h:SqT X.K H a xs) (h':SqT X.K H a ys):xs=ys:=by
 obtain ⟨its,r,⟨o,e,_,n,d⟩,_⟩:=I.tuple h
 obtain ⟨its',r',⟨o',e',_,n',d'⟩,_⟩:=I.tuple h'
 rw [e] at e'; cases e'
 rw [d] at d'
 injection d' with d1 _
 have:its=its':=by simpa using congrArg Array.toList d1
 subst this
 exact r.inj r'
end
abbrev Cx.wish (X:Cx) (E:Value→Shared→Prop):Cx:={ X with xe:=E }
abbrev Cx.nox (X:Cx):Cx:=X.wish fun _ _=> False
theorem Cx.Ok.wish {X:Cx} (ok:X.Ok) (E:Value→Shared→Prop):(X.wish E).Ok:=
 ⟨ok.mod,ok.kind,ok.glob,ok.blt,ok.above,ok.inj,ok.has,ok.cab,ok.hd,ok.frames,ok.stk,ok.exf,ok.bs,ok.bsz,ok.noex,ok.exfs,ok.funs,ok.frf⟩
theorem Cx.Ok.unwish {X:Cx} {E:Value→Shared→Prop} (ok:(X.wish E).Ok):X.Ok:=
 ⟨ok.mod,ok.kind,ok.glob,ok.blt,ok.above,ok.inj,ok.has,ok.cab,ok.hd,ok.frames,ok.stk,ok.exf,ok.bs,ok.bsz,ok.noex,ok.exfs,ok.funs,ok.frf⟩
section
variable {X:Cx} {pins:List (Addr×Obj)} {σ:St} {H:Hp} {s:Shared} {E:Value→Shared→Prop}
theorem Inv.wish (I:Inv X pins σ H s) (E:Value→Shared→Prop):Inv (X.wish E) pins σ H s:=⟨I.ok.wish E,I.os,I.bare,I.base,I.loc,I.cell,I.free,I.freeC,I.pin,I.hok,I.len⟩
theorem Inv.unwish (I:Inv (X.wish E) pins σ H s):Inv X pins σ H s:=⟨I.ok.unwish,I.os,I.bare,I.base,I.loc,I.cell,I.free,I.freeC,I.pin,I.hok,I.len⟩
theorem SP.unwish {D:gX} {f:Flow} {s':Shared} (h:SP (X.wish E) pins D f s'):SP X pins D f s':=by
 cases f with
 | next=> obtain ⟨σ',H',I,q⟩:=h; exact ⟨σ',H',I.unwish,q⟩
 | brk=> obtain ⟨σ',H',I,q⟩:=h; exact ⟨σ',H',I.unwish,q⟩
 | cont=> obtain ⟨σ',H',I,q⟩:=h; exact ⟨σ',H',I.unwish,q⟩
 | ret u=> obtain ⟨v,σ',H',I,r,q⟩:=h; exact ⟨v,σ',H',I.unwish,r,q⟩
theorem PSs.nox {st:List Stmt} {t:TS} (h:PSs X.nox st t):PSs X st t:=fun pins s σ H D I hw=>
 wpAny_mono (h pins s σ H D (I.wish _) hw) (fun _ _ q=> q.unwish) fun _ _ z=> False.elim z
end
section
variable {X:Cx} {st:Stmt} {rest:List Stmt} {t u:TS} {e:Expr} {te:TE} {pos:Pos}
def wv:TS:=fun D σ H=> D.nx σ H
def wN (t u:TS):TS:=fun D σ H=> t { D with nx:=u D } σ H
theorem tD:PSs X [] wv:=fun _ _ σ H _ I h=> wpAny_execs_nil ⟨σ,H,I,h⟩
theorem qT (h1:PS X st t) (h2:PSs X rest u):PSs X (st::rest) (wN t u):=by
 intro pins s σ H D I h
 refine wpAny_execs_cons (thn (h1 pins s σ H { D with nx:=u D } I h) fun f s1 q=> ?_)
 cases f with
 | next=>
  obtain ⟨σ',H',I',q⟩:=q
  exact h2 pins s1 σ' H' D I' q
 | ret v=> exact q
 | brk=> exact q
 | cont=> exact q
theorem Inv.quiet {pins:List (Addr×Obj)} {σ:St} {H:Hp} {s:Shared} (I:Inv X pins σ H s):interactive X.env=false:=by simp [interactive,I.ok.kind]
def vM (te:TE):TS:=fun D σ H=> te σ H fun _ H1=> D.nx σ H1
theorem eB (he:PE X e te) (hs:swapsWith e none pos.line X.env=pure false:=by rfl):PS X (.Expr e pos) (vM te):=by
 intro pins s σ H D I h
 exact wpAny_Expr_any (thn (he pins s σ H _ I h) fun v s1 ⟨x,H1,I1,r1,q1⟩=> ⟨σ,H1,I1,q1⟩) I.quiet hs
def wP (te:TE):TS:=fun D σ H=> te σ H D.rt
theorem lq (he:PE X e te):PS X (.Return (some e) pos) (wP te):=by
 intro pins s σ H D I h
 exact wpAny_Return_some (thn (he pins s σ H _ I h) fun v s1 ⟨x,H1,I1,r1,q1⟩=> ⟨x,σ,H1,I1,r1,q1⟩)
def wL (c:TT) (t u:TS):TS:=fun D σ H=> c σ H fun b H1=> if b=true then t D σ H1 else u D σ H1
theorem tQ {c:Expr} {a b:List Stmt} {tc:TT} (hc:PT X c tc) (ha:PSs X a t) (hb:PSs X b u):PS X (.If c a b pos) (wL tc t u):=by
 intro pins s σ H D I h
 refine wpAny_If (thn (hc pins s σ H _ I h) fun d s1 ⟨H1,I1,q1⟩=> ?_)
 cases d with
 | true=> exact ha pins s1 σ H1 D I1 q1
 | false=> exact hb pins s1 σ H1 D I1 q1
end
abbrev TG:=V→St→Hp→(St→Hp→Prop)→Prop
abbrev TGs:=List V→St→Hp→(St→Hp→Prop)→Prop
def PG (X:Cx) (target:Expr) (t:TG):Prop:=
 ∀ (pins:List (Addr×Obj)) (s:Shared) (σ:St) (H:Hp) (v:V) (u:Value) (Q:St→Hp→Prop),Inv X pins σ H s→aV v u→t v σ H Q→
  wpAny (model X.prog X.w) X.A (assign target X.env u) (fun _ s'=> ∃ σ' H',Inv X pins σ' H' s'∧Q σ' H') X.xe s
def PGs (X:Cx) (ts:List Expr) (t:TGs):Prop:=
 ∀ (pins:List (Addr×Obj)) (s:Shared) (σ:St) (H:Hp) (vs:List V) (us:List Value) (Q:St→Hp→Prop),Inv X pins σ H s→aG vs us→t vs σ H Q→
  wpAny (model X.prog X.w) X.A (assignInOrder ((assignEach ts X.env).map (·.2)) us) (fun _ s'=> ∃ σ' H',Inv X pins σ' H' s'∧Q σ' H') X.xe s
section
variable {X:Cx} {pos:Pos}
def kc (i:Nat):TG:=fun v σ H Q=> Q (σ.set i (some v)) H
theorem bW {i:Nat} {x:Str} (hN:X.N.Nodup) (hi:X.N[i]?=some x) (hx:Loc X.env.scope x) (hf:X.fn x=true∨X.env.scope.names.lookup x=some .local:=by first | exact .inl rfl | exact .inr rfl | assumption):PG X (.Name x pos) (kc i):=by
 intro pins s σ H v u Q I r h
 exact wpAny_assign_Name (fe I hN hi hx r (fun s' I'=> ⟨_,H,I',h⟩) hf)
def wc:TGs:=fun vs σ H Q=> vs=[]∧Q σ H
def tZ (t:TG) (u:TGs):TGs:=fun vs σ H Q=> ∃ v r,vs=v::r∧t v σ H fun σ' H'=> u r σ' H' Q
theorem sG:PGs X [] wc:=by
 intro pins s σ H vs us Q I r h
 obtain ⟨e,h⟩:=h
 subst e
 cases r
 exact assignInOrder_nil ⟨σ,H,I,h⟩
theorem j5 {e:Expr} {es:List Expr} {t:TG} {u:TGs} (h1:PG X e t) (h2:PGs X es u)
  (hs:(assignEach (e::es) X.env).map (·.2)=assign e X.env::(assignEach es X.env).map (·.2):=by rfl):PGs X (e::es) (tZ t u):=by
 intro pins s σ H vs us Q I r h
 obtain ⟨v,vr,e1,h⟩:=h
 subst e1
 cases r with
 | cons r rr=>
  rw [hs]
  refine assignInOrder_cons (thn (h1 pins s σ H _ _ _ I r h) fun _ s1 ⟨σ1,H1,I1,q1⟩=> ?_)
  exact h2 pins s1 σ1 H1 _ _ Q I1 rr q1
def wY (K:PySem.W.Frag) (n:Nat) (t:TGs):TG:=fun v σ H Q=> ∃ a xs,v=.ref a∧SqT K H a xs∧xs.length=n∧t xs σ H Q
theorem uY {es:List Expr} {k:Nat} {t:TGs} {n:Nat} (hc:X.calm=true) (h:PGs X es t)
  (hn:(assignEach es X.env).length=n:=by rfl) (hst:(assignEach es X.env).findIdx? (·.1)=none:=by rfl):PG X (.Tuple es k pos) (wY X.K n t):=by
 intro pins s σ H v u Q I r hw
 obtain ⟨a,xs,e1,hq,hl,hw⟩:=hw
 subst e1
 cases r
 obtain ⟨its,rv,ht,hz⟩:=I.tuple hq
 refine assign_Tuple_tuple (I.ok.hd hc) ht (by simp [hn,← hl,rv.length]) hst fun h' hx=> ?_
 have I1:Inv X pins σ H { s with heap:=h' }:=I.kept (t':=s.toks) fun b o e=> hx b o (Nat.ne_of_lt (Heap.lt_size e)) e
 exact h pins _ σ H xs _ Q I1 (by simpa using rv) hw
def vH (te:TE) (g:TG):TS:=fun D σ H=> te σ H fun x H1=> g x σ H1 D.nx
theorem lm {i:Nat} {x:Str} {e:Expr} {te:TE} {pos':Pos} (hN:X.N.Nodup) (hi:X.N[i]?=some x) (hx:Loc X.env.scope x) (he:PE X e te) (hs:swapsWith e (some (.Name x pos')) pos.line X.env=pure false:=by rfl) (hf:X.fn x=true∨X.env.scope.names.lookup x=some .local:=by first | exact .inl rfl | exact .inr rfl | assumption):
  PS X (.Assign [.Name x pos'] e pos) (vH te (kc i)):=by
 intro pins s σ H D I h
 refine wpAny_Assign_Name (thn (he pins s σ H _ I h) fun v s1 ⟨y,H1,I1,r1,q1⟩=> ?_) hs
 exact fe I1 hN hi hx r1 (fun s2 I2=> ⟨_,H1,I2,q1⟩) hf
def wz (i j:Nat) (ta:TA):TS:=fun D σ H=> ta σ H fun vs H1=> ∃ v w,vs=[v,w]∧D.nx ((σ.set i (some v)).set j (some w)) H1
theorem u7 {i j:Nat} {x y:Str} {a b:Expr} {ta:TA} {px py pt:Pos} {kt k2 pt2} (hc:X.calm=true) (hN:X.N.Nodup) (hi:X.N[i]?=some x) (hj:X.N[j]?=some y) (hij:i≠j)
  (hx:X.env.scope.names.lookup x=some .local) (hy:X.env.scope.names.lookup y=some .local) (ha:PA X [a,b] ta)
  (hw:swappedStores [.Tuple [.Name x px,.Name y py] kt pt] (.Tuple [a,b] k2 pt2) X.env=pure (some [x,y]))
  (hs:swapsWithSole [.Tuple [.Name x px,.Name y py] kt pt] (.Tuple [a,b] k2 pt2) pos.line X.env=pure false:=by rfl):
  PS X (.Assign [.Tuple [.Name x px,.Name y py] kt pt] (.Tuple [a,b] k2 pt2) pos) (wz i j ta):=by
 intro pins s σ H D I h
 rw [exec_Assign_arm]
 refine wpAny_bind (wpAny_standAt ?_)
 rw [hs]
 refine wpAny_bind (wpAny_pure ?_)
 rw [if_neg (by decide)]
 refine wpAny_bind (Tuple_ (thn (ha _ pins s σ H _ I h) fun us s1 ⟨vs,H1,I1,r1,q1⟩=> ?_))
 obtain ⟨v,w,e1,q1⟩:=q1
 subst e1
 obtain ⟨u1,u2,rfl,rv,rw'⟩:∃ u1 u2,us=[u1,u2]∧aV v u1∧aV w u2:=by
  cases r1 with
  | cons p q=>
   cases q with
   | cons p' q'=>
    cases q'
    exact ⟨_,_,rfl,p,p'⟩
 refine wpAny_newObj_type ?_ (by show 2≤sizeLine; decide)
 have I2:Inv X pins σ H1 { s1 with heap:=s1.heap.push { cls:=.type "tuple",data:=.seq [u1,u2].toArray } }:=I1.kept (t':=s1.toks) fun b o e=> Heap.get?_push_of_some _ e
 rw [hw]
 refine wpAny_bind (wpAny_pure ?_)
 show wpAny (model X.prog X.w) X.A (do rule "assign.swapped-stores"; let items ← unpackItems (.ref s1.heap.objs.size) 2 none; assignInOrder [fun v=> bindName X.env y v,fun v=> bindName X.env x v] items.reverse; pure Flow.next) _ _ _
 refine wpAny_bind (wpAny_rule (wpAny_bind (unpackItems_tuple (items:=#[u1,u2]) (I.ok.hd hc) (IsTup.new s1.heap _) fun h' hx'=> ?_)))
 have I3:=I2.kept (h':=h') (t':=s1.toks) fun b o e=> hx' b o (Nat.ne_of_lt (Heap.lt_size e)) e
 show wpAny _ _ (assignInOrder [fun v=> bindName X.env y v,fun v=> bindName X.env x v] [u2,u1] >>=fun _=> pure Flow.next) _ _ _
 refine wpAny_bind (assignInOrder_cons (wpAny_bindName (fe I3 hN hj (.inl hy) rw' (fun s2 I4=> ?_) (.inr hy))))
 refine assignInOrder_cons (wpAny_bindName (fe I4 hN hi (.inl hx) rv (fun s3 I5=> assignInOrder_nil (wpAny_pure ?_)) (.inr hx)))
 rw [List.set_comm _ _ (Ne.symm hij)] at I5
 exact ⟨_,H1,I5,q1⟩
end
section
variable {X:Cx} {pos:Pos}
def u8 (c:TT) (tb:TS):TS:=fun D σ H=> ∃ W:Nat→St→Hp→Prop,(∃ m,W m σ H)∧∀ m σ H,W m σ H→
 c σ H fun b H1=> if b=true then ∃ N:St→Hp→Prop,(∀ σ' H',N σ' H'→∃ m',m' < m∧W m' σ' H')∧tb { D with nx:=N,ct:=N,bk:=D.nx } σ H1 else D.nx σ H1
theorem qg {c:Expr} {body:List Stmt} {tc:TT} {tb:TS} (hp:PassesOwn (model X.prog X.w) X.A X.env X.xe) (hc:PT X c tc) (hb:PSs X body tb):PS X (.While c body [] pos) (u8 tc tb):=by
 intro pins s σ H D I h
 obtain ⟨W,⟨m0,w0⟩,turn⟩:=h
 refine wpAny_While (codeAny_whileLoop (fun n s'=> ∃ σ' H',Inv X pins σ' H' s'∧W n σ' H') ?_ m0 ⟨σ,H,I,w0⟩)
 rintro n s1 ⟨σ1,H1,I1,w1⟩
 refine wpAny_passesOwn hp (thn (hc pins s1 σ1 H1 _ I1 (turn n σ1 H1 w1)) fun b s2 ⟨H2,I2,q2⟩=> ?_)
 cases b with
 | true=>
  obtain ⟨N,hN,q2⟩:=q2
  rw [if_pos rfl]
  refine wpAny_passesOwn hp (thn (hb pins s2 σ1 H2 _ I2 q2) fun f s3 q3=> ?_)
  cases f with
  | next=>
   obtain ⟨σ3,H3,I3,n3⟩:=q3
   obtain ⟨m',hm,w3⟩:=hN σ3 H3 n3
   exact ⟨m',hm,σ3,H3,I3,w3⟩
  | cont=>
   obtain ⟨σ3,H3,I3,n3⟩:=q3
   obtain ⟨m',hm,w3⟩:=hN σ3 H3 n3
   exact ⟨m',hm,σ3,H3,I3,w3⟩
  | brk=> exact q3
  | ret v=> exact q3
 | false=>
  rw [if_neg Bool.false_ne_true]
  exact wpAny_execs_nil ⟨σ1,H2,I2,q2⟩
end
structure It where
 go:Nat→Hp→Prop
 yld:Nat→Hp→V→Hp→Prop
 stop:Nat→Hp→Prop
def gN (X:Cx) (pins:List (Addr×Obj)) (H:Hp) (b:Addr):Prop:=
 H b=none∧b≠X.env.locals∧b ∉ X.fs∧(b∈X.ex∨X.s₀.heap.objs.size≤b)∧(∀ x c,X.env.cells.lookup x=some c→c≠b)∧∀ p∈X.pn++pins,p.1≠b
theorem Inv.fpOk {X:Cx} {pins:List (Addr×Obj)} {σ:St} {H H':Hp} {s:Shared} {b:Addr} (I:Inv X pins σ H s) (hb:s.heap.objs.size≤b) (hn:H' b=none):gN X pins H' b:=by
 refine ⟨hn,Nat.ne_of_gt (Nat.lt_of_lt_of_le I.lt hb),I.nofs hb,.inr (Nat.le_trans I.sz hb),fun x c e z=> ?_,fun p hp z=> ?_⟩
 ·obtain ⟨v,q⟩:=I.cell x c e
  exact absurd (Nat.lt_of_lt_of_le q.lt (by rw [z]; exact hb)) (Nat.lt_irrefl _)
 ·exact absurd (Nat.lt_of_lt_of_le (Heap.lt_size (I.pin p hp).1) (by rw [z]; exact hb)) (Nat.lt_irrefl _)
structure oF (P:Program) (w:World) (K:PySem.W.Frag) (tg:Expr) (J:It) (fp:List Addr) (it:Addr) (tn:Nat→Heap→Prop):Prop where
 mem:it∈fp
 obj:∀ i h,tn i h→∀ b∈fp,∃ o,h.get? b=some o∧∀ v,o.data≠.cell v
 keep:∀ i h h',tn i h→(∀ b∈fp,∀ o,h.get? b=some o→h'.get? b=some o)→tn i h'
 item:∀ (X:Cx),X.prog=P→X.w=w→X.K=K→X.calm=true→∀ (i:Nat) (pins:List (Addr×Obj)) (s:Shared) (σ:St) (H:Hp) (E:Value→Shared→Prop),Inv X pins σ H s→(∀ b∈fp,gN X pins H b)→tn i s.heap→J.go i H→
  wpAny (model P w) X.A (pyNext (.ref it)) (fun r s1=> ∃ u,r=some u∧
   wpAny (model P w) X.A (letOwnedTupleGo tg (.ref it) u) (fun _ s2=> ∃ x H',Inv X pins σ H' s2∧aV x u∧J.yld i H x H'∧tn (i+1) s2.heap∧∀ b∈fp,H' b=none) E s1) E s
 done:∀ (X:Cx),X.prog=P→X.w=w→X.K=K→X.calm=true→∀ (i:Nat) (pins:List (Addr×Obj)) (s:Shared) (σ:St) (H:Hp) (E:Value→Shared→Prop),Inv X pins σ H s→(∀ b∈fp,gN X pins H b)→tn i s.heap→J.stop i H→
  wpAny (model P w) X.A (pyNext (.ref it)) (fun r s1=> r=none∧Inv X pins σ H s1) E s
 self:∀ (A:Around) (i:Nat) (s:Shared) (Q:Value→Shared→Prop) (E:Value→Shared→Prop),tn i s.heap→Q (.ref it) s→wpAny (model P w) A (pyIter (.ref it)) Q E s
abbrev TI:=St→Hp→(It→Hp→Prop)→Prop
def PIE (X:Cx) (pins:List (Addr×Obj)) (σ:St) (tg:Expr) (R:It→Hp→Prop) (itv:Value) (s2:Shared):Prop:=
 ∃ (it:Addr) (fp:List Addr) (tn:Nat→Heap→Prop) (J:It) (H':Hp),itv=.ref it∧Inv X pins σ H' s2∧oF X.prog X.w X.K tg J fp it tn∧tn 0 s2.heap∧(∀ b∈fp,gN X pins H' b)∧R J H'
def PI (X:Cx) (tg iter:Expr) (wi:TI):Prop:=
 ∀ (pins:List (Addr×Obj)) (s:Shared) (σ:St) (H:Hp) (R:It→Hp→Prop),Inv X pins σ H s→wi σ H R→
  wpAny (model X.prog X.w) X.A (eval iter X.env) (fun v s1=> wpAny (model X.prog X.w) X.A (pyIter v) (PIE X pins σ tg R) X.xe s1) X.xe s
theorem kC {M:Model} {A:Around} {E:Value→Shared→Prop} {s:Shared} {tg:Expr} {it:Addr} {u:Value} {o:Obj} {n:String} {vs:Array Value} {Q:Unit→Shared→Prop} (ho:s.heap.get? it=some o) (hc:o.cls=.type n) (hd:o.data=.fields vs)
  (hn:["enumerate","zip","dict_itemiterator","dict_reverseitemiterator","odict_iterator","itertools.zip_longest","itertools.pairwise"].contains n=false) (hQ:Q () s):wpAny M A (letOwnedTupleGo tg (.ref it) u) Q E s:=by
 unfold letOwnedTupleGo
 cases tg <;> first
  | exact wpAny_pure hQ
  | (cases u <;> first
    | exact wpAny_pure hQ
    | (refine wpAny_bind (wpAny_load ho ?_)
       rw [hc,hd]
       show wpAny M A (if (["enumerate","zip","dict_itemiterator","dict_reverseitemiterator","odict_iterator","itertools.zip_longest","itertools.pairwise"].contains n && vs[0]?==some (rawInt _))=true then _ else _) Q E s
       rw [if_neg (by intro h; rw [hn,Bool.false_and] at h; cases h)]
       exact wpAny_pure hQ))
def Itl (K:PySem.W.Frag) (a:Addr):It:=
 ⟨fun i H=> ∃ xs x,SqL K H a xs∧xs[i]?=some x,fun i H x H'=> H'=H∧∀ xs,SqL K H a xs→xs[i]?=some x,fun i H=> ∃ xs,SqL K H a xs∧xs.length≤i⟩
def Itt (K:PySem.W.Frag) (a:Addr):It:=
 ⟨fun i H=> ∃ xs x,SqT K H a xs∧xs[i]?=some x,fun i H x H'=> H'=H∧∀ xs,SqT K H a xs→xs[i]?=some x,fun i H=> ∃ xs,SqT K H a xs∧xs.length≤i⟩
def Itr (lo:Int) (n:Nat):It:=⟨fun i _=> i < n,fun i H x H'=> H'=H∧x=.int (lo+i),fun i _=> n≤i⟩
theorem nT {P:Program} {w:World} {K:PySem.W.Frag} {tg:Expr} (a it:Addr):oF P w K tg (Itl K a) [it] it (fun i h=> h.IsListIter it a i) where
 mem:=by simp
 obj:=fun i h st b hb=> by
  have e:b=it:=by simpa using hb
  subst e
  obtain ⟨o,e,c,d⟩:=st
  exact ⟨o,e,fun v z=> by rw [d] at z; cases z⟩
 keep:=fun i h h' st k=> st.at fun o e=> k it (by simp) o e
 item:=by
  intro X hP hw hK hc i pins s σ H E I hf st hg
  subst hP hw hK
  obtain ⟨xs,x,hq,hx⟩:=hg
  obtain ⟨its,rv,p,hz⟩:=I.list hq
  obtain ⟨u,hu,ru⟩:=rv.get hx
  obtain ⟨f0,f1,f2,f3,f4,f5⟩:=hf it (by simp)
  refine wpAny_pyNext_list_item st p.isList (x:=u) (by simpa using hu) fun h' st' sb=> ?_
  have I1:Inv X pins σ H { s with heap:=h' }:=I.turned (t':=s.toks) (fun b o hb e=> (sb.2 b hb).trans e) f0 f1 f3 f4 f5
  obtain ⟨o,e,c,d⟩:=id st'
  exact ⟨u,rfl,kC (s:={ s with heap:=h' }) e c d (by decide) ⟨x,H,I1,ru,⟨rfl,fun ys hy=> by rw [I.list_inj hy hq]; exact hx⟩,st',fun b hb=> (hf b hb).1⟩⟩
 done:=by
  intro X hP hw hK hc i pins s σ H E I hf st hg
  subst hP hw hK
  obtain ⟨xs,hq,hx⟩:=hg
  obtain ⟨its,rv,p,hz⟩:=I.list hq
  obtain ⟨f0,f1,f2,f3,f4,f5⟩:=hf it (by simp)
  have hl:=rv.length
  exact wpAny_pyNext_list_end (I.ok.hd hc) st p.isList (by simp; omega) fun h' eb=> ⟨rfl,I.turned (t':=s.toks) (fun b o hb e=> eb b o hb e) f0 f1 f3 f4 f5⟩
 self:=fun _ _ _ _ _ st h=> wpAny_pyIter_listiter st h
theorem kT {P:Program} {w:World} {K:PySem.W.Frag} {tg:Expr} (a it:Addr):oF P w K tg (Itt K a) [it] it (fun i h=> h.IsTupleIter it a i) where
 mem:=by simp
 obj:=fun i h st b hb=> by
  have e:b=it:=by simpa using hb
  subst e
  obtain ⟨o,e,c,d⟩:=st
  exact ⟨o,e,fun v z=> by rw [d] at z; cases z⟩
 keep:=fun i h h' st k=> st.at fun o e=> k it (by simp) o e
 item:=by
  intro X hP hw hK hc i pins s σ H E I hf st hg
  subst hP hw hK
  obtain ⟨xs,x,hq,hx⟩:=hg
  obtain ⟨its,rv,p,hz⟩:=I.tuple hq
  obtain ⟨u,hu,ru⟩:=rv.get hx
  obtain ⟨f0,f1,f2,f3,f4,f5⟩:=hf it (by simp)
  refine wpAny_pyNext_tuple_item st (show s.heap.IsTuple a its.toArray from p) (x:=u) (by simpa using hu) fun h' st' sb=> ?_
  have I1:Inv X pins σ H { s with heap:=h' }:=I.turned (t':=s.toks) (fun b o hb e=> (sb.2 b hb).trans e) f0 f1 f3 f4 f5
  obtain ⟨o,e,c,d⟩:=id st'
  exact ⟨u,rfl,kC (s:={ s with heap:=h' }) e c d (by decide) ⟨x,H,I1,ru,⟨rfl,fun ys hy=> by rw [I.tuple_inj hy hq]; exact hx⟩,st',fun b hb=> (hf b hb).1⟩⟩
 done:=by
  intro X hP hw hK hc i pins s σ H E I hf st hg
  subst hP hw hK
  obtain ⟨xs,hq,hx⟩:=hg
  obtain ⟨its,rv,p,hz⟩:=I.tuple hq
  obtain ⟨f0,f1,f2,f3,f4,f5⟩:=hf it (by simp)
  have hl:=rv.length
  exact wpAny_pyNext_tuple_end (I.ok.hd hc) st (show s.heap.IsTuple a its.toArray from p) (by simp; omega) fun h' eb=> ⟨rfl,I.turned (t':=s.toks) (fun b o hb e=> eb b o hb e) f0 f1 f3 f4 f5⟩
 self:=fun _ _ _ _ _ st h=> wpAny_pyIter_tupleiter st h
theorem g7 {P:Program} {w:World} {K:PySem.W.Frag} {tg:Expr} (it:Addr) (lo:Int) (n:Nat):oF P w K tg (Itr lo n) [it] it (fun i h=> IsRangeIter h it (lo+(i:Nat) * 1) ((n:Int) - (i:Nat)) 1) where
 mem:=by simp
 obj:=fun i h st b hb=> by
  have e:b=it:=by simpa using hb
  subst e
  exact ⟨_,st,fun v z=> by
   have z':Data.fields _=Data.cell v:=z
   cases z'⟩
 keep:=fun i h h' st k=> k it (by simp) _ st
 item:=by
  intro X hP hw hK hc i pins s σ H E I hf st hg
  subst hP hw hK
  obtain ⟨f0,f1,f2,f3,f4,f5⟩:=hf it (by simp)
  have W:=Walks.range (prog:=X.prog) (w:=X.w) (I.ok.hd hc) it lo 1 n
  refine W.item i s _ _ hg st fun v h' tk hv st' kk=> ?_
  obtain ⟨t,rfl⟩:=hv
  have I1:Inv X pins σ H { s with heap:=h',toks:=tk }:=I.turned (fun b o hb e=> kk b o (by simpa using hb) e) f0 f1 f3 f4 f5
  refine ⟨_,rfl,kC (s:={ s with heap:=h',toks:=tk }) (n:="range_iterator") st' rfl rfl (by decide) ⟨.int (lo+i),H,I1,⟨t,?_⟩,⟨rfl,rfl⟩,st',fun b hb=> (hf b hb).1⟩⟩
  rw [Int.mul_one]
 done:=by
  intro X hP hw hK hc i pins s σ H E I hf st hg
  subst hP hw hK
  obtain ⟨f0,f1,f2,f3,f4,f5⟩:=hf it (by simp)
  exact wpAny_pyNext_range_end (I.ok.hd hc) st (by have:n≤i:=hg; omega) fun h' eb=> ⟨rfl,I.turned (t':=s.toks) (fun b o hb e=> eb b o hb e) f0 f1 f3 f4 f5⟩
 self:=fun _ _ _ _ _ st h=> wpAny_pyIter_rangeiter st h
end L2
namespace L2
open PySem PySem.Spec PyProof.Rows
section
variable {X:Cx} {tg:Expr}
def wg (K:PySem.W.Frag) (tl:TE):TI:=fun σ H R=> tl σ H fun x H1=> ∃ a,x=.ref a∧(∃ xs,SqL K H1 a xs)∧R (Itl K a) H1
def wy (K:PySem.W.Frag) (tl:TE):TI:=fun σ H R=> tl σ H fun x H1=> ∃ a,x=.ref a∧(∃ xs,SqT K H1 a xs)∧R (Itt K a) H1
theorem sT {l:Expr} {tl:TE} (hl:PE X l tl):PI X tg l (wg X.K tl):=by
 intro pins s σ H R I h
 refine thn (hl pins s σ H _ I h) fun v s1 ⟨x,H1,I1,r1,q1⟩=> ?_
 obtain ⟨a,e,⟨xs,hq⟩,q⟩:=q1
 subst e
 cases r1
 obtain ⟨its,rv,p,hz⟩:=I1.list hq
 refine wpAny_pyIter_list p.isList ?_
 refine ⟨s1.heap.objs.size,[s1.heap.objs.size],_,_,H1,rfl,I1.kept (t':=s1.toks) fun b o e=> Heap.get?_push_of_some _ e,nT a _,⟨_,Heap.get?_push_size _ rfl,rfl,rfl⟩,fun b hb=> ?_,q⟩
 have e:b=s1.heap.objs.size:=by simpa using hb
 subst e
 exact I1.fpOk (Nat.le_refl _) (I1.hok.fresh (Nat.le_refl _))
theorem ug {l:Expr} {tl:TE} (hl:PE X l tl):PI X tg l (wy X.K tl):=by
 intro pins s σ H R I h
 refine thn (hl pins s σ H _ I h) fun v s1 ⟨x,H1,I1,r1,q1⟩=> ?_
 obtain ⟨a,e,⟨xs,hq⟩,q⟩:=q1
 subst e
 cases r1
 obtain ⟨its,rv,p,hz⟩:=I1.tuple hq
 refine wpAny_pyIter_tuple (show s1.heap.IsTuple a its.toArray from p) ?_
 refine ⟨s1.heap.objs.size,[s1.heap.objs.size],_,_,H1,rfl,I1.kept (t':=s1.toks) fun b o e=> Heap.get?_push_of_some _ e,kT a _,⟨_,Heap.get?_push_size _ rfl,rfl,rfl⟩,fun b hb=> ?_,q⟩
 have e:b=s1.heap.objs.size:=by simpa using hb
 subst e
 exact I1.fpOk (Nat.le_refl _) (I1.hok.fresh (Nat.le_refl _))
theorem q_ {pins:List (Addr×Obj)} {σ:St} {H:Hp} {s:Shared} {R:It→Hp→Prop} {E:Value→Shared→Prop} {lo hi:Int} {t u v:Tok} {tk:Nat} (I:Inv X pins σ H s) (h1:-(2 ^ 62)≤lo) (h2:lo < 2 ^ 62) (h3:-(2 ^ 62)≤hi) (h4:hi < 2 ^ 62)
  (q:R (Itr lo (hi - lo).toNat) H):wpAny (model X.prog X.w) X.A (pyIter (.ref s.heap.objs.size)) (PIE X pins σ tg R) E { s with heap:=s.heap.push { cls:=.type "range",data:=.fields #[.int lo t,.int hi u,.int 1 v] },toks:=tk }:=by
 refine wpAny_pyIter_range (IsRange.new ..) (small_one h1 h2 h3 h4) ?_
 have I1:Inv X pins σ H { s with heap:=s.heap.push { cls:=.type "range",data:=.fields #[.int lo t,.int hi u,.int 1 v] },toks:=tk }:=I.kept fun b o e=> Heap.get?_push_of_some _ e
 refine ⟨(s.heap.push { cls:=.type "range",data:=.fields #[.int lo t,.int hi u,.int 1 v] }).objs.size,[(s.heap.push { cls:=.type "range",data:=.fields #[.int lo t,.int hi u,.int 1 v] }).objs.size],_,_,H,rfl,
  I1.kept (t':=tk) fun b o e=> Heap.get?_push_of_some _ e,g7 _ lo (hi - lo).toNat,?_,fun b hb=> ?_,q⟩
 ·have e1:lo+((0:Nat):Int) * 1=lo:=by simp
  have e2:(((hi - lo).toNat:Nat):Int) - ((0:Nat):Int)=Builtin.Range.rangeSize lo hi 1:=by rw [rangeSize_one]; split <;> omega
  show IsRangeIter _ _ (lo+((0:Nat):Int) * 1) ((((hi - lo).toNat:Nat):Int) - ((0:Nat):Int)) 1
  rw [e1,e2]
  exact Heap.get?_push_size _ rfl
 ·have e:b=(s.heap.push { cls:=.type "range",data:=.fields #[.int lo t,.int hi u,.int 1 v] }).objs.size:=by simpa using hb
  subst e
  exact I1.fpOk (Nat.le_refl _) (I1.hok.fresh (Nat.le_refl _))
def v7 (ta:TA):TI:=fun σ H R=> ta σ H fun vs H1=> ∃ j:Int,vs=[.int j]∧-(2 ^ 62)≤j∧j < 2 ^ 62∧R (Itr 0 j.toNat) H1
theorem oz {a:Expr} {ta:TA} {p pos:Pos} (hg:Gl X "range") (hm:X.mg "range"=none) (ha:PA X [a] ta) (hs:starEach [a] X.env=[(false,eval a X.env)]:=by rfl):PI X tg (.Call (.Name "range" p) [a] [] pos) (v7 ta):=by
 intro pins s σ H R I h
 refine Call_ (cj I hg hm boot_range (PyProof.Rows.callWith_type1 (thn (ha pos pins s σ H _ I h) fun us s1 ⟨vs,H1,I1,r1,q1⟩=> ?_) hs rfl))
 obtain ⟨j,e,q1,q2,q⟩:=q1
 subst e
 cases r1 with
 | cons r rr=>
  cases rr
  obtain ⟨t,rfl⟩:=r
  exact call_range_1 (q_ I1 (by omega) (by omega) q1 q2 (by simpa using q))
def wS (wi:TI) (g:TG) (tb:TS):TS:=fun D σ H=> wi σ H fun J H1=> ∃ W:Nat→Nat→St→Hp→Prop,(∃ m,W 0 m σ H1)∧∀ i m σ H,W i m σ H→
 (J.stop i H∧D.nx σ H)∨(J.go i H∧∃ N:St→Hp→Prop,(∀ σ' H',N σ' H'→∃ m',m' < m∧W (i+1) m' σ' H')∧∀ x H',J.yld i H x H'→g x σ H' fun σ2 H2=> tb { D with nx:=N,ct:=N,bk:=D.nx } σ2 H2)
def gQ (fp:List Addr) (h:Heap):List (Addr×Obj):=fp.filterMap fun b=> (h.get? b).map fun o=> (b,o)
theorem cG {fp:List Addr} {h:Heap} {b:Addr} {o:Obj} (hb:b∈fp) (e:h.get? b=some o):(b,o)∈gQ fp h:=List.mem_filterMap.mpr ⟨b,hb,by rw [e]; rfl⟩
theorem oo {fp:List Addr} {h:Heap} {p:Addr×Obj} (hp:p∈gQ fp h):p.1∈fp∧h.get? p.1=some p.2:=by
 obtain ⟨b,hb,e⟩:=List.mem_filterMap.mp hp
 cases q:h.get? b with
 | none=> rw [q] at e; cases e
 | some o=>
  rw [q] at e
  have e':(b,o)=p:=Option.some.inj e
  subst e'
  exact ⟨hb,q⟩
theorem Inv.pinned {pins:List (Addr×Obj)} {σ:St} {H:Hp} {s:Shared} {fp:List Addr} (I:Inv X pins σ H s) (hf:∀ b∈fp,gN X pins H b) (ho:∀ b∈fp,∃ o,s.heap.get? b=some o∧∀ v,o.data≠.cell v):Inv X (pins++gQ fp s.heap) σ H s:=
 I.pins_of fun p hp=> (List.mem_append.mp hp).elim (fun z=> I.pin p (List.mem_append_right _ z)) fun z=> by
  obtain ⟨hb,e⟩:=oo z
  obtain ⟨f0,f1,f2,_⟩:=hf p.1 hb
  obtain ⟨o,e',d⟩:=ho p.1 hb
  rw [e] at e'; cases e'
  exact ⟨e,f0,f1,f2,d⟩
theorem Inv.unpinned {pins pl:List (Addr×Obj)} {σ:St} {H:Hp} {s:Shared} (I:Inv X (pins++pl) σ H s):Inv X pins σ H s:=I.pins_of fun p hp=> I.pin p (List.mem_append_right _ (List.mem_append_left _ hp))
theorem uT {iter:Expr} {body:List Stmt} {wi:TI} {g:TG} {tb:TS} {pos:Pos} (hp:PassesOwn (model X.prog X.w) X.A X.env X.xe) (hc:X.calm=true) (hi:PI X tg iter wi) (hg:PG X tg g) (hb:PSs X body tb)
  (hs:∀ x,foldedSetIterable iter X.env x=pure x:=by intro _; rfl):PS X (.For tg iter body [] pos) (wS wi g tb):=by
 intro pins s σ H D I h
 refine wpAny_For (thn (hi pins s σ H _ I h) fun v s1 h1=> thn h1 fun itv s2 h2=> ?_) hs
 obtain ⟨it,fp,tn,J,H2,e,I2,T,st2,f2,W,⟨m0,w0⟩,turn⟩:=h2
 subst e
 have stat:∀ {H':Hp},(∀ b∈fp,H' b=none)→∀ b∈fp,gN X pins H' b:=fun hn b hb=> ⟨hn b hb,(f2 b hb).2⟩
 refine codeAny_forLoop_any (fun n s'=> ∃ i σ' H',Inv X pins σ' H' s'∧tn i s'.heap∧(∀ b∈fp,H' b=none)∧W i n σ' H') ?_ m0 ⟨0,σ,H2,I2,st2,fun b hb=> (f2 b hb).1,w0⟩
 rintro n s3 ⟨i,σ3,H3,I3,st3,fr3,w3⟩
 rcases turn i n σ3 H3 w3 with ⟨stop,qn⟩ | ⟨go,N,hN,step⟩
 ·refine wpAny_passesOwn hp (thn (T.done X rfl rfl rfl hc i pins s3 σ3 H3 X.xe I3 (stat fr3) st3 stop) fun r s4 ⟨hr,I4⟩=> ?_)
  subst hr
  exact wpAny_execs_nil ⟨σ3,H3,I4,qn⟩
 ·refine wpAny_passesOwn hp (thn (T.item X rfl rfl rfl hc i pins s3 σ3 H3 X.xe I3 (stat fr3) st3 go) fun r s4 ⟨u,hr,h4⟩=> ?_)
  subst hr
  refine wpAny_passesOwn hp (thn h4 fun _ s5 ⟨x,H5,I5,r5,y5,st5,fr5⟩=> ?_)
  have I5':=I5.pinned (stat fr5) (T.obj _ _ st5)
  refine wpAny_passesOwn hp (thn (hg _ s5 σ3 H5 x u _ I5' r5 (step x H5 y5)) fun _ s6 ⟨σ6,H6,I6,q6⟩=> ?_)
  refine wpAny_passesOwn hp (thn (hb _ s6 σ6 H6 _ I6 q6) fun f s7 q7=> ?_)
  have again:∀ {σ7:St} {H7:Hp},Inv X (pins++gQ fp s5.heap) σ7 H7 s7→N σ7 H7→∃ m,m < n∧∃ i σ' H',Inv X pins σ' H' s7∧tn i s7.heap∧(∀ b∈fp,H' b=none)∧W i m σ' H':=fun {σ7 H7} I7 n7=> by
   obtain ⟨m',hm,w7⟩:=hN σ7 H7 n7
   refine ⟨m',hm,i+1,σ7,H7,I7.unpinned,T.keep _ _ _ st5 fun b hb o e=> (I7.pin (b,o) (List.mem_append_right _ (List.mem_append_right _ (cG hb e)))).1,fun b hb=> ?_,w7⟩
   obtain ⟨o,e,d⟩:=T.obj _ _ st5 b hb
   exact (I7.pin (b,o) (List.mem_append_right _ (List.mem_append_right _ (cG hb e)))).2.1
  cases f with
  | next=> obtain ⟨σ7,H7,I7,n7⟩:=q7; exact again I7 n7
  | cont=> obtain ⟨σ7,H7,I7,n7⟩:=q7; exact again I7 n7
  | brk=> obtain ⟨σ7,H7,I7,q7⟩:=q7; exact ⟨σ7,H7,I7.unpinned,q7⟩
  | ret v=> obtain ⟨x7,σ7,H7,I7,r7,q7⟩:=q7; exact ⟨x7,σ7,H7,I7.unpinned,r7,q7⟩
end
end L2
namespace L2
open PySem PySem.Spec PyProof.Rows
abbrev R2:=V→V→Hp→VK→Prop
def OpR (X:Cx) (f:Value→Value→Sem Value) (r:R2):Prop:=
 ∀ (pins:List (Addr×Obj)) (s:Shared) (σ:St) (H:Hp) (x y:V) (v u:Value) (Q:VK),Inv X pins σ H s→aV x v→aV y u→r x y H Q→
  wpAny (model X.prog X.w) X.A (f v u) (EP X pins σ Q) X.xe s
def UnR (X:Cx) (f:Value→Sem Value) (r:V→Hp→VK→Prop):Prop:=
 ∀ (pins:List (Addr×Obj)) (s:Shared) (σ:St) (H:Hp) (x:V) (v:Value) (Q:VK),Inv X pins σ H s→aV x v→r x H Q→
  wpAny (model X.prog X.w) X.A (f v) (EP X pins σ Q) X.xe s
def bQ (X:Cx) (f:Value) (r:List V→Hp→VK→Prop):Prop:=
 ∀ (pins:List (Addr×Obj)) (s:Shared) (σ:St) (H:Hp) (xs:List V) (us:List Value) (Q:VK),Inv X pins σ H s→aG xs us→r xs H Q→
  wpAny (model X.prog X.w) X.A (call f us) (EP X pins σ Q) X.xe s
def tOp (r:R2) (ta tb:TE):TE:=fun σ H Q=> ta σ H fun x H1=> tb σ H1 fun y H2=> r x y H2 Q
def tUn (r:V→Hp→VK→Prop) (ta:TE):TE:=fun σ H Q=> ta σ H fun x H1=> r x H1 Q
def rI (C:Int→Int→Prop) (g:Int→Int→V):R2:=fun x y H Q=> ∃ i j,x=.int i∧y=.int j∧C i j∧Q (g i j) H
def rI0 (g:Int→Int→V):R2:=fun x y H Q=> ∃ i j,x=.int i∧y=.int j∧Q (g i j) H
def rU (g:Int→V):V→Hp→VK→Prop:=fun x H Q=> ∃ i,x=.int i∧Q (g i) H
section
variable {X:Cx} {a b c:Expr} {ta tb tc:TE} {pos:Pos}
theorem uR (ha:PE X a ta) (hb:PE X b tb) {pins:List (Addr×Obj)} {s:Shared} {σ:St} {H:Hp} {R:V→V→Hp→Prop} (I:Inv X pins σ H s)
  (h:ta σ H fun x H1=> tb σ H1 fun y H2=> R x y H2) {Q:Value→Shared→Prop} {f:Value→Value→Sem Value}
  (hf:∀ v u s2 x y H2,Inv X pins σ H2 s2→aV x v→aV y u→R x y H2→wpAny (model X.prog X.w) X.A (f v u) Q X.xe s2):
  wpAny (model X.prog X.w) X.A (eval a X.env) (fun v s₁=> wpAny (model X.prog X.w) X.A (eval b X.env) (fun u s₂=> wpAny (model X.prog X.w) X.A (f v u) Q X.xe s₂) X.xe s₁) X.xe s:=by
 refine thn (ha pins s σ H _ I h) fun v s1 ⟨x,H1,I1,r1,q1⟩=> ?_
 refine thn (hb pins s1 σ H1 _ I1 q1) fun u s2 ⟨y,H2,I2,r2,q2⟩=> ?_
 exact hf v u s2 x y H2 I2 r1 r2 q2
theorem qK {op:Operator} {r:R2} (ho:OpR X (binaryOp op) r) (ha:PE X a ta) (hb:PE X b tb):PE X (.BinOp a op b pos) (tOp r ta tb):=by
 intro pins s σ H Q I h
 exact wpAny_BinOp (uR ha hb I h fun v u s2 x y H2 I2 rx ry q=> ho pins s2 σ H2 x y v u Q I2 rx ry q)
theorem vG {op:UnaryOp} {r:V→Hp→VK→Prop} (ho:UnR X (unaryOp op) r) (ha:PE X a ta):PE X (.UnaryOp op a pos) (tUn r ta):=by
 intro pins s σ H Q I h
 exact UnaryOp_ (thn (ha pins s σ H _ I h) fun v s1 ⟨x,H1,I1,r1,q1⟩=> ho pins s1 σ H1 x v Q I1 r1 q1)
theorem opI {f:Value→Value→Sem Value} {C:Int→Int→Prop} {g:Int→Int→Int}
  (rule:∀ (i j:Int) (t u:Tok) (s:Shared) (Q:Value→Shared→Prop) (E:Value→Shared→Prop),C i j→Q (.int (g i j) s.toks) { s with toks:=s.toks+1 }→wpAny (model X.prog X.w) X.A (f (.int i t) (.int j u)) Q E s):
  OpR X f (rI C fun i j=> .int (g i j)):=by
 intro pins s σ H x y v u Q I rx ry h
 obtain ⟨i,j,rfl,rfl,hc,q⟩:=h
 obtain ⟨t,rfl⟩:=rx
 obtain ⟨t',rfl⟩:=ry
 exact rule i j t t' s _ _ hc ⟨.int (g i j),H,I.tok _,⟨_,rfl⟩,q⟩
theorem vI {f:Value→Value→Sem Value} {g:Int→Int→Int}
  (rule:∀ (i j:Int) (t u:Tok) (s:Shared) (Q:Value→Shared→Prop) (E:Value→Shared→Prop),Q (.int (g i j) s.toks) { s with toks:=s.toks+1 }→wpAny (model X.prog X.w) X.A (f (.int i t) (.int j u)) Q E s):
  OpR X f (rI0 fun i j=> .int (g i j)):=by
 intro pins s σ H x y v u Q I rx ry h
 obtain ⟨i,j,rfl,rfl,q⟩:=h
 obtain ⟨t,rfl⟩:=rx
 obtain ⟨t',rfl⟩:=ry
 exact rule i j t t' s _ _ ⟨.int (g i j),H,I.tok _,⟨_,rfl⟩,q⟩
theorem wm {f:Value→Value→Sem Value} {g:Int→Int→Bool}
  (rule:∀ (i j:Int) (t u:Tok) (s:Shared) (Q:Value→Shared→Prop) (E:Value→Shared→Prop),Q (.bool (g i j)) s→wpAny (model X.prog X.w) X.A (f (.int i t) (.int j u)) Q E s):
  OpR X f (rI0 fun i j=> .bl (g i j)):=by
 intro pins s σ H x y v u Q I rx ry h
 obtain ⟨i,j,rfl,rfl,q⟩:=h
 obtain ⟨t,rfl⟩:=rx
 obtain ⟨t',rfl⟩:=ry
 exact rule i j t t' s _ _ ⟨.bl (g i j),H,I,rfl,q⟩
def wb (i j:Int):Prop:=0≤j∧j≤1000000∧i.natAbs < 2 ^ 64
theorem vx:OpR X (binaryOp .Add) (rI0 fun i j=> .int (i+j)):=vI fun _ _ _ _ _ _ _ q=> add_int q
theorem vy:OpR X (binaryOp .Sub) (rI0 fun i j=> .int (i - j)):=vI fun _ _ _ _ _ _ _ q=> sub_int q
theorem vh:OpR X (binaryOp .Mod) (rI (fun _ j=> 0 < j) fun i j=> .int (i % j)):=opI fun i j _ _ _ _ _ hc q=> by
 have h1:(0:Int) < j:=hc
 exact mod_int' (by omega) (by rw [Int.fmod_eq_emod_of_nonneg i (by omega)]; exact q)
theorem uu:OpR X (binaryOp .Pow) (rI wb fun i j=> .int (i ^ j.toNat)):=opI fun _ _ _ _ _ _ _ hc q=> pow_int_small hc.1 hc.2.1 hc.2.2 q
theorem unI {f:Value→Sem Value} {g:Int→Int}
  (rule:∀ (i:Int) (t:Tok) (s:Shared) (Q:Value→Shared→Prop) (E:Value→Shared→Prop),Q (.int (g i) s.toks) { s with toks:=s.toks+1 }→wpAny (model X.prog X.w) X.A (f (.int i t)) Q E s):
  UnR X f (rU fun i=> .int (g i)):=by
 intro pins s σ H x v Q I rx h
 obtain ⟨i,rfl,q⟩:=h
 obtain ⟨t,rfl⟩:=rx
 exact rule i t s _ _ ⟨.int (g i),H,I.tok _,⟨_,rfl⟩,q⟩
theorem uE:UnR X (unaryOp .USub) (rU fun i=> .int (-i)):=unI fun _ _ _ _ _ q=> neg_int q
end
def vW:V→V→Bool
 | .non,.non=> true | .non,.int _=> true | .int _,.non=> true | .non,.bl _=> true | .bl _,.non=> true | .non,.str _=> true | .str _,.non=> true
 | .int _,.int _=> true | .bl _,.bl _=> true | .str _,.str _=> true | .byt _,.byt _=> true
 | .int _,.str _=> true | .str _,.int _=> true | .bl _,.str _=> true | .str _,.bl _=> true
 | _,_=> false
def rEq:R2:=fun x y H Q=> vW x y=true∧Q (.bl (decide (x=y))) H
def rNe:R2:=fun x y H Q=> vW x y=true∧Q (.bl (!decide (x=y))) H
theorem gg {i j:Int}:decide (V.int i=V.int j)=(i==j):=by
 rw [Bool.eq_iff_iff]
 simp
theorem qG {i j:Bool}:decide (V.bl i=V.bl j)=(i==j):=by
 rw [Bool.eq_iff_iff]
 simp
theorem mw {i j:Str}:decide (V.str i=V.str j)=(i==j):=by
 rw [Bool.eq_iff_iff]
 simp
theorem mm {i j:Array UInt8}:decide (V.byt i=V.byt j)=(i.toList==j.toList):=by
 rw [Bool.eq_iff_iff]
 cases i
 cases j
 simp
section
variable {X:Cx} {a b c:Expr} {ta tb tc:TE} {pos:Pos}
theorem aO {pins:List (Addr×Obj)} {σ:St} {H:Hp} {s:Shared} {Q:VK} {k k':Bool} (I:Inv X pins σ H s) (q:Q (.bl k) H) (e:k=k'):EP X pins σ Q (.bool k') s:=by
 subst e
 exact ⟨.bl k,H,I,rfl,q⟩
theorem v5:OpR X (compareOp .Eq) rEq:=by
 intro pins s σ H x y v u Q I rx ry h
 obtain ⟨hs,q⟩:=h
 cases x with
 | non=>
  cases rx
  cases y with
  | non=> cases ry; exact PySem.EqNone.eq_none_none (aO I q (by simp))
  | bl j=> cases ry; exact PySem.EqNone.eq_none_bool (aO I q (by simp))
  | int j=> obtain ⟨t',rfl⟩:=ry; exact PySem.EqNone.eq_none_int (aO I q (by simp))
  | str j=> obtain ⟨t',rfl⟩:=ry; exact PySem.EqNone.eq_none_str (aO I q (by simp))
  | _=> exact absurd (show false=true from hs) Bool.false_ne_true
 | bl i=>
  cases rx
  cases y with
  | non=> cases ry; exact PySem.EqNone.eq_bool_none (aO I q (by simp))
  | bl j=> cases ry; exact eq_bool (aO I q qG)
  | str j=> obtain ⟨t',rfl⟩:=ry; exact PySem.EqMixed.eq_bool_str (aO I q (by simp))
  | _=> exact absurd (show false=true from hs) Bool.false_ne_true
 | int i=>
  obtain ⟨t,rfl⟩:=rx
  cases y with
  | non=> cases ry; exact PySem.EqNone.eq_int_none (aO I q (by simp))
  | int j=> obtain ⟨t',rfl⟩:=ry; exact eq_int (aO I q gg)
  | str j=> obtain ⟨t',rfl⟩:=ry; exact PySem.EqMixed.eq_int_str (aO I q (by simp))
  | _=> exact absurd (show false=true from hs) Bool.false_ne_true
 | str i=>
  obtain ⟨t,rfl⟩:=rx
  cases y with
  | non=> cases ry; exact PySem.EqNone.eq_str_none (aO I q (by simp))
  | bl j=> cases ry; exact PySem.EqMixed.eq_str_bool (aO I q (by simp))
  | int j=> obtain ⟨t',rfl⟩:=ry; exact PySem.EqMixed.eq_str_int (aO I q (by simp))
  | str j=> obtain ⟨t',rfl⟩:=ry; exact eq_str (aO I q mw)
  | _=> exact absurd (show false=true from hs) Bool.false_ne_true
 | byt i=>
  obtain ⟨t,rfl⟩:=rx
  cases y with
  | byt j=> obtain ⟨t',rfl⟩:=ry; exact PySem.W.eq_bytes (aO I q mm)
  | _=> exact absurd (show false=true from hs) Bool.false_ne_true
 | _=> cases y <;> exact absurd (show false=true from hs) Bool.false_ne_true
theorem vE:OpR X (compareOp .NotEq) rNe:=by
 intro pins s σ H x y v u Q I rx ry h
 obtain ⟨hs,q⟩:=h
 cases x with
 | non=>
  cases rx
  cases y with
  | non=> cases ry; exact PySem.EqNone.ne_none_none (aO I q (by simp))
  | bl j=> cases ry; exact PySem.EqNone.ne_none_bool (aO I q (by simp))
  | int j=> obtain ⟨t',rfl⟩:=ry; exact PySem.EqNone.ne_none_int (aO I q (by simp))
  | str j=> obtain ⟨t',rfl⟩:=ry; exact PySem.EqNone.ne_none_str (aO I q (by simp))
  | _=> exact absurd (show false=true from hs) Bool.false_ne_true
 | bl i=>
  cases rx
  cases y with
  | non=> cases ry; exact PySem.EqNone.ne_bool_none (aO I q (by simp))
  | bl j=> cases ry; exact ne_bool (aO I q (congrArg not qG))
  | str j=> obtain ⟨t',rfl⟩:=ry; exact PySem.EqMixed.ne_bool_str (aO I q (by simp))
  | _=> exact absurd (show false=true from hs) Bool.false_ne_true
 | int i=>
  obtain ⟨t,rfl⟩:=rx
  cases y with
  | non=> cases ry; exact PySem.EqNone.ne_int_none (aO I q (by simp))
  | int j=> obtain ⟨t',rfl⟩:=ry; exact ne_int (aO I q (congrArg not gg))
  | str j=> obtain ⟨t',rfl⟩:=ry; exact PySem.EqMixed.ne_int_str (aO I q (by simp))
  | _=> exact absurd (show false=true from hs) Bool.false_ne_true
 | str i=>
  obtain ⟨t,rfl⟩:=rx
  cases y with
  | non=> cases ry; exact PySem.EqNone.ne_str_none (aO I q (by simp))
  | bl j=> cases ry; exact PySem.EqMixed.ne_str_bool (aO I q (by simp))
  | int j=> obtain ⟨t',rfl⟩:=ry; exact PySem.EqMixed.ne_str_int (aO I q (by simp))
  | str j=> obtain ⟨t',rfl⟩:=ry; exact ne_str (aO I q (congrArg not mw))
  | _=> exact absurd (show false=true from hs) Bool.false_ne_true
 | byt i=>
  obtain ⟨t,rfl⟩:=rx
  cases y with
  | byt j=> obtain ⟨t',rfl⟩:=ry; exact PySem.W.ne_bytes (aO I q (congrArg not mm))
  | _=> exact absurd (show false=true from hs) Bool.false_ne_true
 | _=> cases y <;> exact absurd (show false=true from hs) Bool.false_ne_true
theorem wt:OpR X (compareOp .Lt) (rI0 fun i j=> .bl (decide (i < j))):=wm fun _ _ _ _ _ _ _ q=> lt_int q
theorem vO:OpR X (compareOp .Gt) (rI0 fun i j=> .bl (decide (j < i))):=wm fun _ _ _ _ _ _ _ q=> gt_int q
theorem qz (b:Expr) {op:CmpOp} (h:op≠.In:=by decide) (h2:op≠.NotIn:=by decide):behindInMarks op b=false:=by
 have e1:(op==CmpOp.In)=false:=by cases op <;> first | rfl | exact absurd rfl h
 have e2:(op==CmpOp.NotIn)=false:=by cases op <;> first | rfl | exact absurd rfl h2
 cases b <;> simp [behindInMarks,e1,e2]
theorem rL {op:CmpOp} {r:R2} (ho:OpR X (compareOp op) r) (ha:PE X a ta) (hb:PE X b tb) (hm:behindInMarks op b=false):PE X (.Compare a [op] [b] pos) (tOp r ta tb):=by
 intro pins s σ H Q I h
 exact wpAny_Compare1 (uR ha hb I h fun v u s2 x y H2 I2 rx ry q=> ho pins s2 σ H2 x y v u Q I2 rx ry q) hm
def v4 (t:TE):TT:=fun σ H Q=> t σ H fun x H'=> ∃ k,x=.bl k∧Q k H'
theorem tf {op:CmpOp} {r:R2} (ho:OpR X (compareOp op) r) (ha:PE X a ta) (hb:PE X b tb) (hm:behindInMarks op b=false):PT X (.Compare a [op] [b] pos) (v4 (tOp r ta tb)):=by
 intro pins s σ H Q I h
 refine wpAny_isTrue_Compare1 (thn (ha pins s σ H _ I h) fun v s1 ⟨x,H1,I1,r1,q1⟩=> thn (hb pins s1 σ H1 _ I1 q1) fun u s2 ⟨y,H2,I2,r2,q2⟩=>
  thn (ho pins s2 σ H2 x y v u _ I2 r1 r2 q2) fun c s3 ⟨z,H3,I3,r3,k,e,q3⟩=> ?_) hm
 subst e
 cases r3
 exact wpAny_truthy_bool ⟨H3,I3,q3⟩
theorem kN:(sizeLine:Nat) < 2 ^ 63:=by rw [sizeLine_eq]; decide
theorem dy {x:V} {us:List Value} (r:aG [x] us):∃ u,us=[u]∧aV x u:=by
 cases r with
 | cons r1 r2=> cases r2; exact ⟨_,rfl,r1⟩
theorem eS {x y:V} {us:List Value} (r:aG [x,y] us):∃ u w',us=[u,w']∧aV x u∧aV y w':=by
 cases r with
 | cons r1 r2=>
  cases r2 with
  | cons r3 r4=> cases r4; exact ⟨_,_,rfl,r1,r3⟩
theorem qL:bQ X (.builtin "abs") (fun xs H Q=> ∃ i,xs=[.int i]∧Q (.int (if i < 0 then -i else i)) H):=by
 intro pins s σ H xs us Q I r h
 obtain ⟨i,rfl,q⟩:=h
 obtain ⟨u,rfl,t,rfl⟩:=dy r
 exact call_abs_int fun u tk=> ⟨.int (if i < 0 then -i else i),H,I.tok _,⟨_,rfl⟩,q⟩
theorem nE (hc:X.calm=true):bQ X (.builtin "max") (fun xs H Q=> ∃ i j,xs=[.int i,.int j]∧Q (.int (if j > i then j else i)) H):=by
 intro pins s σ H xs us Q I r h
 obtain ⟨i,j,rfl,q⟩:=h
 obtain ⟨u,w',rfl,⟨t,rfl⟩,⟨t',rfl⟩⟩:=eS r
 refine max_two_ints (I.ok.hd hc) fun h' tk k=> ⟨_,H,I.kept k,?_,q⟩
 by_cases hj:j > i
 ·rw [if_pos hj,if_pos hj]; exact ⟨_,rfl⟩
 ·rw [if_neg hj,if_neg hj]; exact ⟨_,rfl⟩
theorem n6 (hc:X.calm=true):bQ X (.builtin "min") (fun xs H Q=> ∃ i j,xs=[.int i,.int j]∧Q (.int (if j < i then j else i)) H):=by
 intro pins s σ H xs us Q I r h
 obtain ⟨i,j,rfl,q⟩:=h
 obtain ⟨u,w',rfl,⟨t,rfl⟩,⟨t',rfl⟩⟩:=eS r
 refine min_two_ints (I.ok.hd hc) fun h' tk k=> ⟨_,H,I.kept k,?_,q⟩
 by_cases hj:j < i
 ·rw [if_pos hj,if_pos hj]; exact ⟨_,rfl⟩
 ·rw [if_neg hj,if_neg hj]; exact ⟨_,rfl⟩
theorem oa:bQ X (.type "int") (fun xs H Q=> (∃ i,xs=[.int i]∧Q (.int i) H)∨∃ k,xs=[.bl k]∧Q (.int (if k then 1 else 0)) H):=by
 intro pins s σ H xs us Q I r h
 rcases h with ⟨i,rfl,q⟩ | ⟨k,rfl,q⟩
 ·obtain ⟨u,rfl,t,rfl⟩:=dy r
  exact call_int_int ⟨.int i,H,I,⟨_,rfl⟩,q⟩
 ·obtain ⟨u,rfl,r1⟩:=dy r
  cases r1
  exact call_int_bool ⟨.int (if k then 1 else 0),H,I.tok _,⟨_,rfl⟩,q⟩
end
end L2
namespace L2
open PySem PySem.Spec PyProof.Rows
structure uX (h:Heap) (x dx C:Addr) (mA:Str→Option Value):Prop where
 obj:h.get? x=some (PySem.W.instObj C dx)
 ns:h.Ns1 dx mA
 ne:dx≠x
theorem oM {h:Heap} {dx:Addr} {mA:Str→Option Value} (n:h.Ns1 dx mA):∃ od,h.get? dx=some od∧∀ name,PySem.W.lookIn name od=some (mA name):=by
 obtain ⟨o,es,ep,ho,hd,hk,_,hm⟩:=n
 refine ⟨o,ho,fun name=> ?_⟩
 have e:=hm name
 unfold nsFind findBy at e
 rw [← Array.find?_toList] at e
 unfold PySem.W.lookIn
 rw [hd]
 dsimp only
 split
 ·rename_i y q
  rw [q] at e
  exact congrArg some e
 ·rename_i q
  rw [q] at e
  have a:es.toList.any (·.refKey)=false:=by
   rw [List.any_eq_false]
   intro y hy
   obtain ⟨z,t,hkey⟩:=hk y (Array.mem_toList_iff.mp hy)
   simp [DictEntry.refKey,hkey]
  have a':¬ es.toList.any (·.refKey)=true:=by rw [a]; exact Bool.false_ne_true
  rw [if_neg a']
  exact congrArg some e
theorem uX.look {h:Heap} {x dx C:Addr} {mA:Str→Option Value} (I:uX h x dx C mA):∃ od,PySem.W.InstAt h x (PySem.W.instObj C dx) C (some od)∧∀ name,PySem.W.lookIn name od=some (mA name):=
 let ⟨od,ho,hl⟩:=oM I.ns
 ⟨od,⟨I.obj,rfl,rfl,ho⟩,hl⟩
section
variable {prog:Program} {w:World} {A:Around} {E:Value→Shared→Prop} {s:Shared} {K:PySem.W.Frag} {x dx C f:Addr} {mA:Str→Option Value} {name:Str} {v:Value}
end
section
variable {P:Program} {w:World} {H H':Hp} {h h':Heap} {a C dx:Addr} {fs fs':List (Str×V)}
theorem rQ (hok:HOk P w H h) (e:H a=some (.ins C dx fs)):∃ mA,uX h a dx C mA∧(∀ f,uF (fs.lookup f) (mA f))∧PySem.Within mA (fs.map (·.1))∧fs.length≤1000∧H dx=some (.own a):=by
 obtain ⟨d,z,ne,ob,mA,n,r,q⟩:=(show bR P w H h a (.ins C dx fs) from hok a _ e)
 exact ⟨mA,⟨ob,n,ne⟩,r,q,z,d⟩
end
structure Cls (K:PySem.W.Frag) (C:Addr):Prop where
 pg:PySem.W.plainGet K C Str.empty=true
 hd:PySem.W.hasDictIn K C=true
 po:PySem.W.plainOver K C=true
 sa:PySem.W.findIn K (.ref C) "__setattr__"=some (some (.builtin "object.__setattr__"))
theorem Cls.get {K:PySem.W.Frag} {C:Addr} (c:Cls K C) (f:Str):PySem.W.plainGet K C f=true:=c.pg
structure Con (K:PySem.W.Frag) (C:Addr) (f:Str) (v:V) (u:Value):Prop where
 at_:PySem.W.findIn K (.ref C) f=some (some u)
 rel:aV v u
 get:PySem.W.specialIn K u "__get__"=some none
 cp:PySem.W.copiedNames.contains f=false
structure w8 (K:PySem.W.Frag) (C:Addr) (m:Str) (f:Addr):Prop where
 at_:PySem.W.findIn K (.ref C) m=some (some (.ref f))
 fn:PySem.W.isFn K (.ref f)=true
 kp:PySem.W.keepIn K (.ref f)=true
section
variable {X:Cx} {pins:List (Addr×Obj)} {σ:St} {H:Hp} {s:Shared} {a C dx:Addr} {fs:List (Str×V)} {f:Str} {v:V} {A:Around} {E:Value→Shared→Prop}
end
section
variable {X:Cx} {o e value:Expr} {f:Str} {pos pos' tpos:Pos} {ta tv:TE}
end
section
variable {X:Cx} {pins:List (Addr×Obj)} {σ:St} {H:Hp} {s:Shared} {A:Around} {E:Value→Shared→Prop} {Q:Value→Shared→Prop} {c:Value} {b:Bool}
inductive f_ (K:PySem.W.Frag) (H:Hp):V→Value→Prop where
 | non:f_ K H .non (.type "NoneType")
 | bl (x:Bool):f_ K H (.bl x) (.type "bool")
 | int (i:Int):f_ K H (.int i) (.type "int")
 | str (x:Str):f_ K H (.str x) (.type "str")
 | flt (x:UInt64):f_ K H (.flt x) (.type "float")
 | lst {a:Addr} {xs:List V} (e:H a=some (.lst xs)):f_ K H (.ref a) (.type "list")
 | frz {a:Addr} {o:Obj} {xs:List V} (e:H a=some (.frz o (.lst xs))):f_ K H (.ref a) (.type "list")
 | tup {a:Addr} {xs:List V} (e:H a=some (.tup xs)):f_ K H (.ref a) (.type "tuple")
 | dK {a:Addr} {kvs:List (Key×V)} (e:H a=some (.dK kvs)):f_ K H (.ref a) (.type "dict")
 | dT {a:Addr} {kvs:List (List Key×V)} (e:H a=some (.dT kvs)):f_ K H (.ref a) (.type "dict")
 | ins {a C dx:Addr} {fs:List (Str×V)} (e:H a=some (.ins C dx fs)) (cl:Cls K C) (ha:PySem.W.findIn K (.ref C) "__class__"=some (some (.builtin "object.__class__")))
   (hn:PySem.W.specialIn K (.builtin "object.__class__") "__get__"=some (some (.builtin "getset_descriptor.__get__"))) (htk:PySem.W.takesIn K (.builtin "object.__class__")=some true)
   (hm:PySem.W.mroIn K C (.type "object")=some true):f_ K H (.ref a) (.ref C)
theorem cX {x:V} {u t:Value} (I:Inv X pins σ H s) (rx:aV x u) (ty:f_ X.K H x t) (e:PySem.W.kitOne X.K t c=some b) (h:∀ tk,Q (.bool b) { s with toks:=tk }):
  wpAny (model X.prog X.w) A (call (.builtin "isinstance") [u,c]) Q E s:=by
 cases ty with
 | non=> cases (show u=Value.none from rx); exact PySem.W.kia_one PySem.W.kitx_none I.kIn True.intro e (fun z=> nomatch z) h
 | bl y=> cases (show u=Value.bool y from rx); exact PySem.W.kia_one PySem.W.kitx_bool I.kIn True.intro e (fun z=> nomatch z) h
 | int i=> obtain ⟨t,q⟩:=(show ∃ t,u=Value.int i t from rx); cases q; exact PySem.W.kia_one PySem.W.kitx_int I.kIn True.intro e (fun z=> nomatch z) h
 | str y=> obtain ⟨t,q⟩:=(show ∃ t,u=Value.str y t from rx); cases q; exact PySem.W.kia_one PySem.W.kitx_str I.kIn True.intro e (fun z=> nomatch z) h
 | flt y=> obtain ⟨t,q⟩:=(show ∃ t,u=Value.float y t from rx); cases q; exact PySem.W.kia_one PySem.W.kitx_float I.kIn True.intro e (fun z=> nomatch z) h
 | @lst a xs ea=>
  cases (show u=Value.ref a from rx)
  obtain ⟨_,_,n,_,h1⟩:=(show bR X.prog X.w H s.heap a (.lst xs) from I.hok a _ ea)
  exact PySem.W.kia_one PySem.W.kitx_list I.kIn ⟨_,h1,rfl⟩ e (fun z=> nomatch z) h
 | @frz a ob xs ea=>
  cases (show u=Value.ref a from rx)
  obtain ⟨_,_,_,n,_,h1⟩:=(show bR X.prog X.w H s.heap a (.frz ob (.lst xs)) from I.hok a _ ea)
  exact PySem.W.kia_one PySem.W.kitx_list I.kIn ⟨_,h1,rfl⟩ e (fun z=> nomatch z) h
 | @tup a xs ea=>
  cases (show u=Value.ref a from rx)
  obtain ⟨_,_,_,p⟩:=(show bR X.prog X.w H s.heap a (.tup xs) from I.hok a _ ea)
  obtain ⟨o,h1,h2,_⟩:=p
  exact PySem.W.kia_one PySem.W.kitx_tuple I.kIn ⟨o,h1,h2⟩ e (fun z=> nomatch z) h
 | @dK a kvs ea=>
  cases (show u=Value.ref a from rx)
  obtain ⟨_,_,vs,_,p⟩:=(show bR X.prog X.w H s.heap a (.dK kvs) from I.hok a _ ea)
  obtain ⟨o,es,ep,h1,h2,_⟩:=p
  exact PySem.W.kia_one PySem.W.kitx_dict I.kIn ⟨o,h1,h2.1⟩ e (fun z=> nomatch z) h
 | @dT a kvs ea=>
  cases (show u=Value.ref a from rx)
  obtain ⟨_,_,xs,_,o,es,ep,h1,h2,_⟩:=(show bR X.prog X.w H s.heap a (.dT kvs) from I.hok a _ ea)
  exact PySem.W.kia_one PySem.W.kitx_dict I.kIn ⟨o,h1,h2.1⟩ e (fun z=> nomatch z) h
 | @ins a C dx fs ea cl ha hn htk hm=>
  cases (show u=Value.ref a from rx)
  obtain ⟨mA,O,_⟩:=rQ I.hok ea
  obtain ⟨od,J,_⟩:=O.look
  exact PySem.W.kia_one (PySem.W.kitx_own (cl.get _) cl.hd ha hn htk hm) I.kIn J e (fun z=> nomatch z) h
end
end L2
namespace L2
open PySem PySem.Spec PyProof.Rows
structure cF (k:Nat) (A:Around):Prop where
 hd:A.handled=none
 dp:A.depth+3 * k+5 < recursionLimit
 un:A.units+16 * k+200 < cLine
theorem cF.mono {j k:Nat} {A:Around} (r:cF k A) (h:j≤k):cF j A:=⟨r.hd,by have:=r.dp; omega,by have:=r.un; omega⟩
theorem cF.deeper {k:Nat} {A:Around} (r:cF (k+1) A) (env:Env):cF k (A.deeper env):=
 ⟨r.hd,by have:=r.dp; show A.depth+1+3 * k+5 < _; omega,by have:=r.un; show A.units+3+16 * k+200 < _; omega⟩
theorem cF.depth {k:Nat} {A:Around} (r:cF k A):A.depth < recursionLimit:=by have:=r.dp; omega
def wG:TA:=fun _ H Q=> Q [] H
def vN (ta:TE) (tr:TA):TA:=fun σ H Q=> ta σ H fun x H1=> tr σ H1 fun xs H2=> Q (x::xs) H2
section
variable {X:Cx} {e:Expr} {es:List Expr} {te:TE} {t:TA} {pos:Pos}
theorem cR:PA X [] wG:=fun _ _ _ _ H Q I h=> Calls.spliced_nil ⟨[],H,I,.nil,h⟩
theorem bn (ha:PE X e te) (hr:PA X es t) (hs:starEach (e::es) X.env=(false,eval e X.env)::starEach es X.env:=by rfl):PA X (e::es) (vN te t):=by
 intro pos pins s σ H Q I h
 rw [hs]
 show wpAny _ _ (spliced ((false,eval e X.env)::backTo pos (starEach es X.env))) _ _ s
 refine Calls.spliced_cons (thn (ha pins s σ H _ I h) fun u s1 ⟨x,H1,I1,r1,q1⟩=> ?_)
 exact thn (hr pos pins s1 σ H1 _ I1 q1) fun us s2 ⟨xs,H2,I2,r2,q2⟩=> ⟨x::xs,H2,I2,.cons r1 r2,q2⟩
def wA (t:TA):TE:=fun σ H Q=> t σ H fun xs H1=> xs.length≤sizeLine∧∀ p,H1 p=none→Q (.ref p) (upd H1 p (.tup xs))
def wU (t:TA):TE:=fun σ H Q=> t σ H fun xs H1=> xs.length≤sizeLine∧∀ p,H1 p=none→Q (.ref p) (upd H1 p (.lst xs))
theorem qF {x1} (h:PA X es t):PE X (.Tuple es x1 pos) (wA t):=by
 intro pins s σ H Q I hq
 refine wpAny_Tuple_spliced (thn (h pos pins s σ H _ I hq) fun us s1 ⟨xs,H1,I1,r,z,q⟩=> ⟨by rw [← r.length]; exact z,?_⟩)
 have hf:H1 s1.heap.objs.size=none:=I1.hok.fresh (Nat.le_refl _)
 refine ⟨.ref s1.heap.objs.size,upd H1 s1.heap.objs.size (.tup xs),I1.laid (t':=s1.toks) (fun b u e=> Heap.get?_push_of_some _ e) (Nat.le_refl _) ?_,rfl,q _ hf⟩
 exact ⟨z,us,r,⟨_,Heap.get?_push_size _ rfl,rfl,_,rfl⟩⟩
theorem uw (h:PA X es t):PE X (.List es pos) (wU t):=by
 intro pins s σ H Q I hq
 refine wpAny_List_spliced (thn (h pos pins s σ H _ I hq) fun us s1 ⟨xs,H1,I1,r,z,q⟩=> ⟨by rw [← r.length]; exact z,?_⟩)
 have hf:H1 s1.heap.objs.size=none:=I1.hok.fresh (Nat.le_refl _)
 refine ⟨.ref s1.heap.objs.size,upd H1 s1.heap.objs.size (.lst xs),I1.laid (t':=s1.toks) (fun b u e=> Heap.get?_push_of_some _ e) (Nat.le_refl _) ?_,rfl,q _ hf⟩
 exact ⟨z,us,0,r,Heap.get?_push_size _ rfl⟩
end
abbrev Sp:=List V→Hp→VK→XK→Prop
abbrev CXT:=List Env→Hp→Shared→XK→Value→Shared→Prop
structure sX (P:Program) (w:World) (K:PySem.W.Frag) (mg:Str→Option Value) (base:Heap) (A:Around) (outer:List Env) (s:Shared) (H:Hp):Prop where
 frames:A.frames=some outer
 mod:Mod K mg base
 bs:∀ b o,base.get? b=some o→s.heap.get? b=some o∧H b=none
 bsz:base.objs.size≤s.heap.objs.size
 funs:s.heap.FunFrames base outer
 frf:∀ b∈frs outer,H b=none
 hok:HOk P w H s.heap
 bare:AllBare s.gens
def CE (outer:List Env) (P:Program) (w:World) (H:Hp) (s:Shared) (Q:VK) (u:Value) (s':Shared):Prop:=
 ∃ v H',s'.os=s.os∧AllBare s'.gens∧Un (frs outer) [] H H' s.heap s'.heap∧HOk P w H' s'.heap∧aV v u∧Q v H'
def CR (CX:CXT) (outer:List Env) (P:Program) (w:World) (H:Hp) (s:Shared) (Q:VK) (E:XK) (r:Result) (s':Shared):Prop:=
 match r with
 | .ok (.ret u)=> CE outer P w H s Q u s'
 | .ok _=> False
 | .error e=> CX outer H s E e s'
structure aR (P:Program) (w:World) (K:PySem.W.Frag) (mg:Str→Option Value) (base:Heap) (CX:CXT) (k:Nat) (f:Addr) (fd:FuncData) (ps:List Str) (sp:Sp):Prop where
 len:∀ vs H Q E,sp vs H Q E→vs.length=ps.length
 run:∀ (A:Around) (outer:List Env) (s:Shared) (H:Hp) (args:Args) (us:List Value) (vs:List V) (Q:VK) (E:XK),cF k A→sX P w K mg base A outer s H→BindsTo s fd args (ps.zip us)→aG vs us→sp vs H Q E→
  codeAny (model P w) A (.call (.ref f) args) (CR CX outer P w H s Q E) s
theorem aR.mono {P:Program} {w:World} {K:PySem.W.Frag} {mg:Str→Option Value} {base:Heap} {CX:CXT} {j k:Nat} {f:Addr} {fd:FuncData} {ps:List Str} {sp:Sp} (F:aR P w K mg base CX j f fd ps sp) (h:j≤k):
  aR P w K mg base CX k f fd ps sp:=⟨F.len,fun A outer s H args us vs Q E hr=> F.run A outer s H args us vs Q E (hr.mono h)⟩
section
variable {X:Cx} {pins:List (Addr×Obj)} {σ:St} {H:Hp} {s s':Shared}
theorem Inv.env0 (I:Inv X pins σ H s):sX X.prog X.w X.K X.mg X.base X.A X.stack s H:=
 ⟨I.ok.frames,I.ok.mod,I.bs,Nat.le_trans I.ok.bsz I.sz,I.stack,I.stkFree,I.hok,I.bare⟩
theorem Inv.after {Q:VK} {u:Value} (I:Inv X pins σ H s) (h:CE X.stack X.prog X.w H s Q u s'):EP X pins σ Q u s':=by
 obtain ⟨v,H',os,bare,un,hok,r,q⟩:=h
 obtain ⟨hh,g,d,t,os'⟩:=s'
 obtain rfl:os'=s.os:=os
 exact ⟨v,H',I.call (h':=hh) (g':=g) (d':=d) (t':=t) (ch:=[]) un hok bare (fun b z=> absurd z (by simp)),r,q⟩
end
def vD (sp:Sp) (dvs:List V) (E:XK) (t:TA):TE:=fun σ H Q=> t σ H fun vs H1=> sp (vs++dvs) H1 Q E
def aA (K:PySem.W.Frag) (fd:FuncData) (ps:List Str) (ds:List Value):Prop:=
 ∀ (s:Shared) (us:List Value),K.In s.heap→(us++ds).length=ps.length→BindsTo s fd ⟨us,[]⟩ (ps.zip (us++ds))
theorem aA.all {K:PySem.W.Frag} {fd:FuncData} {ps:List Str} (h:∀ us:List Value,us.length=ps.length→bindArgs fd ⟨us,[]⟩=pure (ps.zip us)):aA K fd ps []:=fun s us _ hl=> by
 rw [List.append_nil] at hl ⊢
 exact .of_eq (h us hl)
def dJ (CX:CXT) (X:Cx) (E:XK):Prop:=∀ (pins:List (Addr×Obj)) (σ:St) (H:Hp) (s:Shared) (e:Value) (s':Shared),Inv X pins σ H s→CX X.stack H s E e s'→X.xe e s'
section
variable {X:Cx} {CX:CXT} {k:Nat} {f C:Addr} {fd:FuncData} {ps:List Str} {sp:Sp} {dvs:List V} {ds:List Value} {E:XK} {x m:Str} {p pos apos:Pos} {e o:Expr} {es:List Expr} {ta:TE} {t:TA}
theorem vq {pins:List (Addr×Obj)} {σ:St} {H:Hp} {s:Shared} {Q:VK} {us:List Value} {vs:List V} (F:aR X.prog X.w X.K X.mg X.base CX k f fd ps sp) (hr:cF k X.A) (hb:aA X.K fd ps ds) (hd:aG dvs ds) (hx:dJ CX X E)
  (I:Inv X pins σ H s) (r:aG vs us) (h:sp (vs++dvs) H Q E):wpAny (model X.prog X.w) X.A (call (.ref f) us) (EP X pins σ Q) X.xe s:=by
 have r2:aG (vs++dvs) (us++ds):=r.append hd
 have hl:(us++ds).length=ps.length:=by rw [← r2.length]; exact F.len _ _ _ _ h
 refine wpAny_call (codeAny_mono (F.run X.A X.stack s H ⟨us,[]⟩ (us++ds) (vs++dvs) Q E hr I.env0 (hb s us I.kIn hl) r2 h) fun r s' hq=> ?_)
 cases r with
 | error e=> exact hx pins σ H s e s' I hq
 | ok fl=>
  cases fl with
  | ret u=> exact I.after hq
  | next=> exact False.elim hq
  | brk=> exact False.elim hq
  | cont=> exact False.elim hq
theorem e9 (F:aR X.prog X.w X.K X.mg X.base CX k f fd ps sp) (hr:cF k X.A) (hg:Gl X x) (hm:X.mg x=some (.ref f)) (hk:PySem.W.keepIn X.K (.ref f)=true) (hb:aA X.K fd ps ds) (hd:aG dvs ds) (hx:dJ CX X E)
  (ha:PA X (e::es) t) (hdb:(x==("__debug__":Str))=false:=by decide) (he:starEach (e::es) X.env=(false,eval e X.env)::starEach es X.env:=by rfl) (hpl:(backTo pos (starEach es X.env)).any (·.1)=false:=by rfl):
  PE X (.Call (.Name x p) (e::es) [] pos) (vD sp dvs E t):=by
 intro pins s σ H Q I h
 refine wpAny_Call_Name_kw (fm I hg hm ?_ hdb)
 refine PySem.W.callWith_K (h₀:=X.base) I.ok.mod.kin hk (thn (ha pos pins s σ H _ I h) fun us s1 ⟨vs,H1,I1,r,q⟩=> ⟨I1.kIn,?_⟩) he hpl
 exact vq F hr hb hd hx I1 r q
structure Mk (K:PySem.W.Frag) (C f:Addr):Prop where
 makes:PySem.W.makesIn K C=true
 init:PySem.W.findIn K (.ref C) "__init__"=some (some (.ref f))
 fn:PySem.W.isFn K (.ref f)=true
 kp:PySem.W.keepIn K (.ref C)=true
end
section
variable {X:Cx} {CX:CXT} {k:Nat} {f C:Addr} {fd:FuncData} {ps ks:List Str} {sp:Sp} {E:XK} {x m:Str} {p pos apos kpos:Pos} {e o:Expr} {es:List Expr} {kws:List Keyword} {te ta:TE} {t tk:TA} {nm:Option Str}
structure w4 (K:PySem.W.Frag) (fd:FuncData) (ps ks:List Str) (g:List Value→List Value→List Value) (gV:List V→List V→List V):Prop where
 to:∀ (s:Shared) (us ws:List Value),K.In s.heap→(g us ws).length=ps.length→BindsTo s fd ⟨us,ks.zip ws⟩ (ps.zip (g us ws))
 rel:∀ {vs:List V} {us:List Value} {zs:List V} {ws:List Value},aG vs us→aG zs ws→aG (gV vs zs) (g us ws)
variable {g:List Value→List Value→List Value} {gV:List V→List V→List V}
end
structure au (N P:List Str) (sc:Scope):Prop where
 kind:sc.kind=.function
 co:sc.isCoroutine=false
 gen:sc.isGenerator=false
 nd:N.Nodup
 pre:N.take P.length=P
 par:∀ x∈P,sc.names.lookup x=some .local∨sc.names.lookup x=some .cell
 nofree:∀ y∈sc.names,y.2≠.free
theorem iA {kindOf:Str→Option NameKind} {x:Str}:∀ {binds:List (Str×Value)} {m:Str→Option Value},(∀ v,(x,v) ∉ binds)→bindL kindOf binds m x=m x
 | [],_,_=> rfl
 | (n,v)::r,m,h=> by
  unfold bindL
  rw [iA fun w hw=> h w (List.mem_cons_of_mem _ hw)]
  split
  ·have:x≠n:=by rintro rfl; exact h v List.mem_cons_self
   simp [this]
  ·rfl
theorem iJ {kindOf:Str→Option NameKind} {x:Str}:∀ {binds:List (Str×Value)} {m:Str→Option Value},(∀ v,(x,v) ∉ binds)→bindC kindOf binds m x=m x
 | [],_,_=> rfl
 | (n,v)::r,m,h=> by
  unfold bindC
  rw [iJ fun w hw=> h w (List.mem_cons_of_mem _ hw)]
  split
  ·rfl
  ·have:x≠n:=by rintro rfl; exact h v List.mem_cons_self
   simp [this]
theorem iw {kindOf:Str→Option NameKind} {x:Str} {v:Value}:∀ {P:List Str} {vs:List Value} {i:Nat} {m:Str→Option Value},P.Nodup→P[i]?=some x→vs[i]?=some v→kindOf x=some .local→
  bindL kindOf (P.zip vs) m x=some v
 | [],_,_,_,_,h,_,_=> by simp at h
 | _::_,[],_,_,_,_,h,_=> by simp at h
 | p::P,w::vs,0,m,nd,h1,h2,hk=> by
  simp at h1 h2; subst h1; subst h2
  show bindL kindOf ((p,w)::P.zip vs) m p=_
  unfold bindL
  rw [iA fun v hv=> (List.nodup_cons.mp nd).1 (List.of_mem_zip hv).1,if_pos hk]
  simp
 | p::P,w::vs,i+1,m,nd,h1,h2,hk=> by
  show bindL kindOf ((p,w)::P.zip vs) m x=_
  unfold bindL
  exact iw (i:=i) (List.nodup_cons.mp nd).2 (by simpa using h1) (by simpa using h2) hk
theorem iC {kindOf:Str→Option NameKind} {x:Str} {v:Value}:∀ {P:List Str} {vs:List Value} {i:Nat} {m:Str→Option Value},P.Nodup→P[i]?=some x→vs[i]?=some v→kindOf x≠some .local→
  bindC kindOf (P.zip vs) m x=some v
 | [],_,_,_,_,h,_,_=> by simp at h
 | _::_,[],_,_,_,_,h,_=> by simp at h
 | p::P,w::vs,0,m,nd,h1,h2,hk=> by
  simp at h1 h2; subst h1; subst h2
  show bindC kindOf ((p,w)::P.zip vs) m p=_
  unfold bindC
  rw [iJ fun v hv=> (List.nodup_cons.mp nd).1 (List.of_mem_zip hv).1,if_neg hk]
  simp
 | p::P,w::vs,i+1,m,nd,h1,h2,hk=> by
  show bindC kindOf ((p,w)::P.zip vs) m x=_
  unfold bindC
  exact iC (i:=i) (List.nodup_cons.mp nd).2 (by simpa using h1) (by simpa using h2) hk
def start (N:List Str) (vs:List V):St:=vs.map some++List.replicate (N.length - vs.length) none
def de (CX:CXT) (P:Program) (w:World) (K:PySem.W.Frag) (mg:Str→Option Value) (base:Heap) (N:List Str) (qual:Str) (scope:Scope) (f:Addr) (cd:Value) (A:Around) (outer:List Env) (s:Shared) (H:Hp) (E:XK):Cx where
 prog:=P
 w:=w
 K:=K
 mg:=mg
 base:=base
 A:=A.deeper (envOfC qual scope s.heap.objs.size f cd)
 N:=N
 s₀:=s
 H₀:=H
 env:=envOfC qual scope s.heap.objs.size f cd
 outer:=outer
 stack:=envOfC qual scope s.heap.objs.size f cd::outer
 ex:=[]
 calm:=true
 fn:=fun _=> true
 pn:=[]
 xe:=fun e s'=> wpAny (model P w) (A.deeper (envOfC qual scope s.heap.objs.size f cd)) (leaving (envOfC qual scope s.heap.objs.size f cd) e) (fun _ s''=> CX outer H s E e s'') (fun e' s''=> CX outer H s E e' s'') s'
theorem kq {sc:Scope} {n:Nat} {x:Str} (h:sc.names.lookup x=some .cell):∃ c,(cellsFrom n sc.names []).lookup x=some c:=by
 have q:=PySem.W.cellsFrom_some sc.names n [] (.inl h)
 exact Option.isSome_iff_exists.mp q
theorem nR {CX:CXT} {P:Program} {w:World} {K:PySem.W.Frag} {mg:Str→Option Value} {base:Heap} {N ps:List Str} {qual:Str} {scope:Scope} {f:Addr} {cd:Value} {A:Around} {outer:List Env} {s s1:Shared} {H:Hp} {E:XK} {us:List Value} {vs:List V}
  (S:au N ps scope) (hd:A.handled=none) (e0:sX P w K mg base A outer s H) (hl:vs.length=ps.length) (r:aG vs us)
  (x:InCallC s s.heap.objs.size (bindL (envOfC qual scope s.heap.objs.size f cd).kindOf (ps.zip us) fun _=> none) (cellsFrom (s.heap.objs.size+1) scope.names []) (bindC (envOfC qual scope s.heap.objs.size f cd).kindOf (ps.zip us) fun _=> none) s1):
  Inv (de CX P w K mg base N qual scope f cd A outer s H E) [] (start N vs) H s1:=by
 have hpl:ps.length≤N.length:=by have:=congrArg List.length S.pre; rw [List.length_take] at this; omega
 obtain ⟨h1,tk,rfl,hk⟩:=x.done
 have noA:∀ b:Addr,b ∉ (de CX P w K mg base N qual scope f cd A outer s H E).ex:=fun b z=> absurd (show b∈([]:List Addr) from z) (by simp)
 refine ⟨⟨e0.mod,S.kind,rfl,rfl,Nat.le_refl _,fun y z c h1 h2=> ?_,fun y hy=> ?_,fun y c _ h=> ?_,fun _=> hd,Around.frames_deeper e0.frames,.inr ⟨rfl,rfl⟩,fun b z=> absurd z (noA b),e0.bs,e0.bsz,fun b _ _=> noA b,fun b z=> absurd z (noA b),e0.funs,e0.frf⟩,
  rfl,e0.bare,Un.kept hk,⟨_,x.toInCall.ns,fun i y v h1 h2 h3=> ?_⟩,fun y c h=> ⟨_,x.cell y c h⟩,e0.hok.fresh (Nat.le_refl _),fun y c h=> ?_,fun p hp=> absurd (show p∈([]:List (Addr×Obj)) from hp) (by simp),e0.hok.kept hk,?_⟩
 ·exact name_of_addr x.apart (PySem.mem_of_lookup h1) (PySem.mem_of_lookup h2)
 ·have hy:scope.names.lookup y=some .cell∨scope.names.lookup y=some .free:=hy
  rcases hy with hy | hy
  ·exact kq hy
  ·exact absurd rfl (S.nofree _ (PySem.mem_of_lookup hy))
 ·exact Nat.le_of_lt (x.above y c (PySem.mem_of_lookup h))
 ·have hi:i < vs.length:=by
   unfold start at h2
   by_cases hi:i < vs.length
   ·exact hi
   ·rw [List.getElem?_append_right (by simpa using hi)] at h2
    rw [List.getElem?_replicate] at h2
    split at h2 <;> cases h2
  have ha:vs[i]?=some v:=by
   unfold start at h2
   rw [List.getElem?_append_left (by simpa using hi),List.getElem?_map] at h2
   cases e:vs[i]? with
   | none=> rw [e] at h2; cases h2
   | some a=> rw [e] at h2; cases h2; rfl
  obtain ⟨u,hu,rv⟩:=r.get ha
  have hp:ps[i]?=some y:=by
   rw [← S.pre,List.getElem?_take_of_lt (by omega)]; exact h1
  have ndP:ps.Nodup:=by rw [← S.pre]; exact S.nd.sublist (List.take_sublist _ _)
  refine ⟨u,rv,?_⟩
  rcases S.par y (List.mem_of_getElem? hp) with k | k
  ·exact .inl ⟨k,iw ndP hp hu k⟩
  ·obtain ⟨c,e⟩:=kq (n:=s.heap.objs.size+1) k
   refine .inr ⟨.inl k,c,e,?_⟩
   have q:=x.cell y c e
   rw [iC ndP hp hu (by show scope.names.lookup y≠_; rw [k]; decide)] at q
   exact q
 ·exact e0.hok.fresh (Nat.le_of_lt (x.above y c (PySem.mem_of_lookup h)))
 ·unfold start
  show _=N.length
  rw [List.length_append,List.length_map,List.length_replicate]
  omega
theorem tP {CX:CXT} {P:Program} {w:World} {K:PySem.W.Frag} {mg:Str→Option Value} {base:Heap} {k:Nat} {f:Addr} {name qual:Str} {params:Arguments} {body:List Stmt} {scope:Scope} {dV kV doc pm cdv ct oc:Value} {an od:Option Addr}
  {osl:Array (Option Value)} {N ps:List Str} {sp:Sp} (lk:K.lookup f=some ⟨oc,od,.func (PySem.W.fnOf name qual params body scope dV kV doc pm an cdv ct),osl⟩) (hcd:PySem.W.codeIn K cdv qual=true) (S:au N ps scope)
  (len:∀ vs H Q E,sp vs H Q E→vs.length=ps.length)
  (hbody:∀ (A:Around) (outer:List Env) (s:Shared) (H:Hp) (vs:List V) (Q:VK) (E:XK),cF k (A.deeper (envOfC qual scope s.heap.objs.size f cdv))→sp vs H Q E→
   ∃ t,PSs (de CX P w K mg base N qual scope f cdv A outer s H E) body t∧t { nx:=fun _ H'=> Q .non H',rt:=Q } (start N vs) H):
  aR P w K mg base CX (k+1) f (PySem.W.fnOf name qual params body scope dV kV doc pm an cdv ct) ps sp:=by
 refine ⟨len,fun A outer s H args us vs Q E hr e0 hb r hsp=> ?_⟩
 have hl:=len _ _ _ _ hsp
 have KX:K.In s.heap:=e0.mod.kin.keeps fun b o e=> (e0.bs b o e).1
 have lim:s.heap.NoLimit:=e0.mod.nolimit.keeps fun b o e=> (e0.bs b o e).1
 have hkind:∀ y∈ps.zip us,scope.names.lookup y.1=some .local∨(scope.names.lookup y.1=some .cell∧((cellsFrom (s.heap.objs.size+1) scope.names []).lookup y.1).isSome=true):=fun ⟨n,v⟩ hy=> by
  rcases S.par n (List.of_mem_zip hy).1 with q | q
  ·exact .inl q
  ·exact .inr ⟨q,PySem.W.cellsFrom_some _ _ _ (.inl q)⟩
 refine codeAny_call_function hr.depth (KX _ _ lk) rfl S.co S.gen rfl (PySem.W.codeRec_of KX hcd) (hb _ _ _ _ ?_)
 refine wpAny_newFunctionEnv_cells S.kind hkind fun env he s1 x=> ?_
 subst he
 refine ⟨lim.keeps x.toInCall.keep,codeAny_func ?_⟩
 obtain ⟨t,ht,hq⟩:=hbody A outer s H vs Q E (hr.deeper _) hsp
 have I:Inv (de CX P w K mg base N qual scope f cdv A outer s H E) [] (start N vs) H s1:=nR S hr.hd e0 hl r x
 refine wpAny_mono (ht [] s1 (start N vs) H _ I hq) (fun fl s' hs=> ?_) fun e s' hs=> hs
 have fin:∀ {σ':St} {H':Hp} {v:V} {u:Value},Inv (de CX P w K mg base N qual scope f cdv A outer s H E) [] σ' H' s'→aV v u→Q v H'→CE outer P w H s Q u s':=
  fun {σ' H' v u} J rv q=> ⟨v,H',J.os,J.bare,J.base,J.hok,rv,q⟩
 cases fl with
 | ret u=>
  obtain ⟨v,σ',H',J,rv,q⟩:=hs
  exact fin J rv q
 | next=>
  obtain ⟨σ',H',J,q⟩:=hs
  exact fin (v:=V.non) (u:=Value.none) J rfl q
 | brk=>
  obtain ⟨_,_,_,q⟩:=hs
  exact False.elim q
 | cont=>
  obtain ⟨_,_,_,q⟩:=hs
  exact False.elim q
end L2
namespace L2
open PySem PySem.Spec PyProof.Rows
section
variable {X:Cx} {x:Str} {p pos:Pos} {e:Expr} {es:List Expr} {t:TA} {id T:String} {r:List V→Hp→VK→Prop}
def tCB (r:List V→Hp→VK→Prop) (t:TA):TE:=fun σ H Q=> t σ H fun vs H1=> r vs H1 Q
theorem ft (hc:bQ X (.builtin id) r) (hg:Gl X x) (hm:X.mg x=none) (hv:bootBuiltins x=some (.builtin id)) (ha:PA X (e::es) t) (hn:x≠"__name__":=by decide) (hdb:(x==("__debug__":Str))=false:=by decide)
  (he:starEach (e::es) X.env=(false,eval e X.env)::starEach es X.env:=by rfl) (hpl:(backTo pos (starEach es X.env)).any (·.1)=false:=by rfl):PE X (.Call (.Name x p) (e::es) [] pos) (tCB r t):=by
 intro pins s σ H Q I h
 refine wpAny_Call_Name_kw (cj I hg hm hv ?_ hn hdb)
 exact PyProof.Rows.callWith_builtin1 (thn (ha pos pins s σ H _ I h) fun us s1 ⟨vs,H1,I1,r1,q1⟩=> hc pins s1 σ H1 vs us Q I1 r1 q1) he hpl
theorem ip (hc:bQ X (.type T) r) (hg:Gl X x) (hm:X.mg x=none) (hv:bootBuiltins x=some (.type T)) (ha:PA X (e::es) t) (hn:x≠"__name__":=by decide) (hdb:(x==("__debug__":Str))=false:=by decide)
  (he:starEach (e::es) X.env=(false,eval e X.env)::starEach es X.env:=by rfl) (hpl:(backTo pos (starEach es X.env)).any (·.1)=false:=by rfl):PE X (.Call (.Name x p) (e::es) [] pos) (tCB r t):=by
 intro pins s σ H Q I h
 refine wpAny_Call_Name_kw (cj I hg hm hv ?_ hn hdb)
 exact PyProof.Rows.callWith_type1 (thn (ha pos pins s σ H _ I h) fun us s1 ⟨vs,H1,I1,r1,q1⟩=> hc pins s1 σ H1 vs us Q I1 r1 q1) he hpl
end
end L2
namespace HT
open PySem PyProof.Rows
section
open PySem.SeqAt
open PySem.AutoSeq1 (wpAny_loadPart')
open PySem.MeetsSeq PySem.MeetsSeq2 PySem.MeetsSeq3
end
section
variable {prog:Program} {w:World} {A:Around} {E:Value→Shared→Prop} {s:Shared}
def sIx (n d:Nat):Option Int→Nat
 | none=> d
 | some v=> if v < 0 then (v+(n:Int)).toNat else min v.toNat n
end
end HT
namespace L2
open PySem PySem.Spec PyProof.Rows
abbrev TO:=St→Hp→(Option Int→Hp→Prop)→Prop
def PO (X:Cx) (e:Option Expr) (t:TO):Prop:=
 ∀ (pins:List (Addr×Obj)) (s:Shared) (σ:St) (H:Hp) (Q:Option Int→Hp→Prop),Inv X pins σ H s→t σ H Q→
  wpAny (model X.prog X.w) X.A (evalPart e X.env) (fun u s'=> ∃ o H',Inv X pins σ H' s'∧IsPart u o∧Q o H') X.xe s
def rZ:TO:=fun _ H Q=> Q none H
def v3 (t:TE):TO:=fun σ H Q=> t σ H fun x H1=> ∃ i,x=.int i∧Q (some i) H1
section
variable {X:Cx} {e:Expr} {te:TE} {lo hi:Option Expr} {tl th:TO} {pos p2:Pos}
theorem tH:PO X none rZ:=by
 intro pins s σ H Q I h
 rw [evalPart_none]
 exact wpAny_pure ⟨none,H,I,.none,h⟩
theorem sZ (h:PE X e te):PO X (some e) (v3 te):=by
 intro pins s σ H Q I hw
 rw [evalPart_some]
 refine thn (h pins s σ H _ I hw) fun u s1 ⟨x,H1,I1,r1,q1⟩=> ?_
 obtain ⟨i,rfl,q⟩:=q1
 obtain ⟨t,rfl⟩:=r1
 exact ⟨some i,H1,I1,.int i t,q⟩
def SlR (X:Cx) (r:V→Option Int→Option Int→Hp→VK→Prop):Prop:=
 ∀ (pins:List (Addr×Obj)) (s:Shared) (σ:St) (H:Hp) (x:V) (v vl vu:Value) (lo hi:Option Int) (sl:Addr) (Q:VK),Inv X pins σ H s→aV x v→s.heap.IsSliceOf sl vl vu .none→IsPart vl lo→IsPart vu hi→r x lo hi H Q→
  ∃ T id,typeLookup (.type T) "__getitem__"=pure (some (.builtin id))∧s.TypeIs v T∧wpAny (model X.prog X.w) X.A (getItem v (.ref sl)) (EP X pins σ Q) X.xe s
def tSl (r:V→Option Int→Option Int→Hp→VK→Prop) (te:TE) (tl th:TO):TE:=fun σ H Q=> te σ H fun x H1=> tl σ H1 fun l H2=> th σ H2 fun u H3=> r x l u H3 Q
theorem qW {r:V→Option Int→Option Int→Hp→VK→Prop} (hr:SlR X r) (he:PE X e te) (hl:PO X lo tl) (hu:PO X hi th):PE X (.Subscript e (.Slice lo hi none p2) pos) (tSl r te tl th):=by
 intro pins s σ H Q I h
 refine Subscript_ (thn (he pins s σ H _ I h) fun v s1 ⟨x,H1,I1,r1,q1⟩=> ?_)
 refine wpAny_Slice (thn (hl pins s1 σ H1 _ I1 q1) fun vl s2 ⟨l,H2,I2,pl,q2⟩=> thn (hu pins s2 σ H2 _ I2 q2) fun vu s3 ⟨u,H3,I3,pu,q3⟩=> ?_)
 rw [evalPart_none]
 refine wpAny_pure ?_
 have I4:Inv X pins σ H3 { s3 with heap:=s3.heap.push { cls:=.type "slice",data:=.fields #[vl,vu,.none] } }:=I3.kept (t':=s3.toks) fun b ob q=> Heap.get?_push_of_some _ q
 obtain ⟨T,id,hT,ht,hg⟩:=hr pins { s3 with heap:=s3.heap.push { cls:=.type "slice",data:=.fields #[vl,vu,.none] } } σ H3 x v vl vu l u s3.heap.objs.size Q I4 r1 (Heap.IsSliceOf.new ..) pl pu q3
 show wpAny (model X.prog X.w) X.A (subscriptTail e (.Slice lo hi none p2) v (.ref s3.heap.objs.size)) (EP X pins σ Q) X.xe { s3 with heap:=s3.heap.push { cls:=.type "slice",data:=.fields #[vl,vu,.none] } }
 exact tail_any (ops:=[.ref s3.heap.objs.size,v]) ht hT hg (by with_unfolding_all rfl)
def nM (xs:List V) (lo hi:Option Int):List V:=(xs.drop (HT.sIx xs.length 0 lo)).take (HT.sIx xs.length xs.length hi - HT.sIx xs.length 0 lo)
theorem jy (xs:List V) (lo hi:Option Int):(nM xs lo hi).length≤xs.length:=by
 unfold nM
 rw [List.length_take,List.length_drop]
 omega
end
end L2
namespace L2
open PySem PySem.Spec PyProof.Rows
def ixN (n:Nat) (i:Int):Option Nat:=if 0≤i then (if i < n then some i.toNat else none) else if -(n:Int)≤i then some (i+n).toNat else none
def atI {α:Type} (xs:List α) (i:Int):Option α:=(ixN xs.length i).bind fun j=> xs[j]?
theorem sH {n:Nat} {i:Int} {j:Nat} (h:ixN n i=some j):seqIndex? i n=some j∧j < n∧-(n:Int)≤i∧i < n:=by
 unfold ixN at h
 by_cases h0:0≤i
 ·rw [if_pos h0] at h
  by_cases h1:i < n
  ·rw [if_pos h1] at h
   have e:i.toNat=j:=Option.some.inj h
   exact ⟨by rw [seqIndex_of h0 h1,e],by omega,by omega,h1⟩
  ·rw [if_neg h1] at h; cases h
 ·rw [if_neg h0] at h
  by_cases h1:-(n:Int)≤i
  ·rw [if_pos h1] at h
   have e:(i+n).toNat=j:=Option.some.inj h
   exact ⟨by rw [seqIndex_neg (by omega) h1,e],by omega,h1,by omega⟩
  ·rw [if_neg h1] at h; cases h
theorem m8 {α:Type} {xs:List α} {i:Int} {v:α} (h:atI xs i=some v):∃ j,seqIndex? i xs.length=some j∧xs[j]?=some v∧j < xs.length∧-(xs.length:Int)≤i∧i < xs.length:=by
 unfold atI at h
 cases e:ixN xs.length i with
 | none=> rw [e] at h; cases h
 | some j=>
  rw [e] at h
  obtain ⟨h1,h2,h3,h4⟩:=sH e
  exact ⟨j,h1,h,h2,h3,h4⟩
theorem mQ {α:Type} {xs:List α} {j:Nat} {v:α} (h:xs[j]?=some v):atI xs (j:Int)=some v:=by
 have hj:j < xs.length:=(List.getElem?_eq_some_iff.mp h).1
 have e:ixN xs.length (j:Int)=some j:=by
  unfold ixN
  rw [if_pos (by omega),if_pos (by omega)]; simp
 unfold atI; rw [e]; exact h
def jn (b:Expr):Prop:=∀ o i,subscripted b false o i=operate [o,i] (getItem o i)
def IxR (X:Cx) (r:R2):Prop:=
 ∀ (value slice:Expr) (pins:List (Addr×Obj)) (s:Shared) (σ:St) (H:Hp) (x y:V) (v u:Value) (Q:VK),Inv X pins σ H s→aV x v→aV y u→r x y H Q→
  subscripted slice false v u=operate [v,u] (getItem v u)→wpAny (model X.prog X.w) X.A (subscriptTail value slice v u) (EP X pins σ Q) X.xe s
def MtR (X:Cx) (id:String) (r:V→List V→Hp→VK→Prop):Prop:=
 ∀ (pins:List (Addr×Obj)) (s:Shared) (σ:St) (H:Hp) (x:V) (xs:List V) (v:Value) (us:List Value) (Q:VK),Inv X pins σ H s→aV x v→aG xs us→r x xs H Q→
  wpAny (model X.prog X.w) X.A (call (.builtin id) (v::us)) (EP X pins σ Q) X.xe s
section
variable {X:Cx} {a b:Expr} {ta tb:TE} {pos:Pos}
theorem IxR.or {r r':R2} (h:IxR X r) (h':IxR X r'):IxR X (fun x y H Q=> r x y H Q∨r' x y H Q):=by
 intro value slice pins s σ H x y v u Q I rx ry q hs
 rcases q with q | q
 ·exact h value slice pins s σ H x y v u Q I rx ry q hs
 ·exact h' value slice pins s σ H x y v u Q I rx ry q hs
theorem tW {r:R2} (hr:IxR X r) (ha:PE X a ta) (hb:PE X b tb) (hs:jn b):PE X (.Subscript a b pos) (tOp r ta tb):=by
 intro pins s σ H Q I h
 exact Subscript_ (uR ha hb I h fun v u s2 x y H2 I2 rx ry q=> hr a b pins s2 σ H2 x y v u Q I2 rx ry q (hs _ _))
def wD (K:PySem.W.Frag):R2:=fun x y H Q=> ∃ p xs i v,x=.ref p∧y=.int i∧SqL K H p xs∧atI xs i=some v∧Q v H
def wM (K:PySem.W.Frag):R2:=fun x y H Q=> ∃ p xs i v,x=.ref p∧y=.int i∧SqT K H p xs∧atI xs i=some v∧Q v H
theorem mM:IxR X (wD X.K):=by
 intro value slice pins s σ H x y v u Q I rx ry h hs
 obtain ⟨p,xs,i,z,rfl,rfl,hq,he,q⟩:=h
 cases rx
 obtain ⟨t,rfl⟩:=ry
 obtain ⟨its,r,pl,hz⟩:=I.list hq
 obtain ⟨j,h1,h2,h3,h4,h5⟩:=m8 he
 obtain ⟨w,ew,rw'⟩:=r.get h2
 have hl:=r.length
 have hn:=kN
 have fin:EP X pins σ Q w s:=⟨z,H,I,rw',q⟩
 by_cases h0:0≤i
 ·have hj:i.toNat=j:=by
   rw [seqIndex_of h0 h5] at h1
   exact Option.some.inj h1
  exact item_listR pl.isList h0 (by omega) (by rw [hj]; simpa using ew) fin hs
 ·have hj:(i+(its.toArray.size:Int)).toNat=j:=by
   rw [seqIndex_neg (by omega) h4] at h1
   rw [List.size_toArray,← hl]
   exact Option.some.inj h1
  exact subscriptTail_builtinR (x:=w) pl.isList.typeIs slot_list_getitem.lookup
   (wpAny_getItem_list_neg (Q:=fun r s'=> r=w∧EP X pins σ Q r s') pl.isList (by omega) (by rw [List.size_toArray] <;> omega) (by omega) (by rw [hj]; simpa using ew) ⟨rfl,fin⟩) hs
theorem um:IxR X (wM X.K):=by
 intro value slice pins s σ H x y v u Q I rx ry h hs
 obtain ⟨p,xs,i,z,rfl,rfl,hq,he,q⟩:=h
 cases rx
 obtain ⟨t,rfl⟩:=ry
 obtain ⟨its,r,pl,hz⟩:=I.tuple hq
 obtain ⟨j,h1,h2,h3,h4,h5⟩:=m8 he
 obtain ⟨w,ew,rw'⟩:=r.get h2
 have hl:=r.length
 have hn:=kN
 have fin:EP X pins σ Q w s:=⟨z,H,I,rw',q⟩
 exact subscriptTail_builtinR (x:=w) pl.typeIs slot_tuple_getitem.lookup
  (getItem_tuple (j:=j) (Q:=fun r s'=> r=w∧EP X pins σ Q r s') pl (by omega) (by omega) (by rw [List.size_toArray,← hl]; exact h1) (by simpa using ew) ⟨rfl,fin⟩) hs
theorem jc (lo hi:Option Int) (n:Nat):(sliceBounds lo hi none n).1=((HT.sIx n 0 lo:Nat):Int)∧(sliceBounds lo hi none n).2.1=((HT.sIx n n hi:Nat):Int)∧(sliceBounds lo hi none n).2.2=1:=by
 refine ⟨?_,?_,rfl⟩
 ·cases lo with
  | none=> simp [sliceBounds,HT.sIx]
  | some i=>
   simp only [sliceBounds,HT.sIx,Option.getD_none,show (1:Int) > 0 by decide,if_true]
   by_cases h:i < 0
   ·simp only [h,if_true] <;> omega
   ·simp only [h,if_false] <;> omega
 ·cases hi with
  | none=> simp [sliceBounds,HT.sIx]
  | some i=>
   simp only [sliceBounds,HT.sIx,Option.getD_none,show (1:Int) > 0 by decide,if_true]
   by_cases h:i < 0
   ·simp only [h,if_true] <;> omega
   ·simp only [h,if_false] <;> omega
theorem ig (its:List Value) (lo hi:Option Int):slicePick its.toArray lo hi none=((its.drop (HT.sIx its.length 0 lo)).take (HT.sIx its.length its.length hi - HT.sIx its.length 0 lo)).toArray:=by
 obtain ⟨h1,h2,h3⟩:=jc lo hi its.toArray.size
 unfold slicePick
 rw [h1,h2,h3]
 simp only [sliceRange_one,pick_run,List.size_toArray] <;> rfl
def wT (K:PySem.W.Frag):V→Option Int→Option Int→Hp→VK→Prop:=fun x lo hi H Q=> ∃ a xs,x=.ref a∧SqL K H a xs∧∀ p,H p=none→Q (.ref p) (upd H p (.lst (nM xs lo hi)))
theorem rE:SlR X (wT X.K):=by
 intro pins s σ H x v vl vu lo hi sl Q I rx hs pl pu h
 obtain ⟨a,xs,rfl,hx,q⟩:=h
 cases rx
 obtain ⟨its,r,ht,hz⟩:=I.list hx
 have hlen:=r.length
 refine ⟨"list",_,slot_list_getitem.lookup,ht.isList.typeIs,?_⟩
 refine wpAny_getItem_list_slice ht.isList hs pl pu .none (by simp) ?_ (by rw [List.size_toArray] <;> omega)
 rw [ig,← hlen]
 refine ⟨.ref s.heap.objs.size,_,I.laid (t':=s.toks) (o:=.lst (nM xs lo hi)) (fun b ob q=> Heap.get?_push_of_some _ q) (Nat.le_refl _) ?_,rfl,q _ (I.hok.fresh (Nat.le_refl _))⟩
 exact ⟨Nat.le_trans (jy xs lo hi) hz,_,0,(r.drop (HT.sIx xs.length 0 lo)).take (HT.sIx xs.length xs.length hi - HT.sIx xs.length 0 lo),Heap.get?_push_size _ rfl⟩
def eT:V→Bool
 | .non=> true
 | .bl _=> true
 | .int _=> true
 | .str _=> true
 | _=> false
def eqV:V→V→Bool
 | .non,.non=> true
 | .bl a,.bl b=> a==b
 | .bl a,.int b=> (if a then 1 else 0)==b
 | .int a,.bl b=> a==(if b then 1 else 0)
 | .int a,.int b=> a==b
 | .str a,.str b=> a==b
 | _,_=> false
theorem vn {A:Around} {s:Shared} {y x:V} {u v:Value} (ry:aV y u) (rx:aV x v) (fy:eT y=true) (fx:eT x=true):SeqAt.EqAt A s u v (eqV y x):=by
 cases y with
 | non=>
  cases ry
  cases x with
  | non=> cases rx; exact SeqAt.EqAt.same _
  | bl b=> cases rx; exact SeqAt.EqAt.none_bool b
  | int b=> obtain ⟨t,rfl⟩:=rx; exact SeqAt.EqAt.none_int b t
  | str b=> obtain ⟨t,rfl⟩:=rx; exact SeqAt.EqAt.none_str b t
  | _=> exact absurd (show false=true from fx) Bool.false_ne_true
 | bl a=>
  cases ry
  cases x with
  | non=> cases rx; exact SeqAt.EqAt.bool_none a
  | bl b=> cases rx; exact SeqAt.EqAt.bool_bool a b
  | int b=> obtain ⟨t,rfl⟩:=rx; exact SeqAt.EqAt.bool_int a b t
  | str b=> obtain ⟨t,rfl⟩:=rx; exact SeqAt.EqAt.bool_str a b t
  | _=> exact absurd (show false=true from fx) Bool.false_ne_true
 | int a=>
  obtain ⟨t',rfl⟩:=ry
  cases x with
  | non=> cases rx; exact SeqAt.EqAt.int_none a t'
  | bl b=> cases rx; exact SeqAt.EqAt.int_bool a t' b
  | int b=> obtain ⟨t,rfl⟩:=rx; exact SeqAt.EqAt.int_int a t' b t
  | str b=> obtain ⟨t,rfl⟩:=rx; exact SeqAt.EqAt.int_str a t' b t
  | _=> exact absurd (show false=true from fx) Bool.false_ne_true
 | str a=>
  obtain ⟨t',rfl⟩:=ry
  cases x with
  | non=> cases rx; exact SeqAt.EqAt.str_none a t'
  | bl b=> cases rx; exact SeqAt.EqAt.str_bool a t' b
  | int b=> obtain ⟨t,rfl⟩:=rx; exact SeqAt.EqAt.str_int a t' b t
  | str b=> obtain ⟨t,rfl⟩:=rx; exact SeqAt.EqAt.str_str a t' b t
  | _=> exact absurd (show false=true from fx) Bool.false_ne_true
 | _=> exact absurd (show false=true from fy) Bool.false_ne_true
def eqU (x:V) (u:Value):Bool:=match u with
 | .none=> eqV .non x
 | .bool b=> eqV (.bl b) x
 | .int i _=> eqV (.int i) x
 | .str z _=> eqV (.str z) x
 | _=> false
theorem qb {x y:V} {u:Value} (r:aV y u) (f:eT y=true):eqU x u=eqV y x:=by
 cases y with
 | non=> cases r; rfl
 | bl b=> cases r; rfl
 | int i=> obtain ⟨t,rfl⟩:=r; rfl
 | str z=> obtain ⟨t,rfl⟩:=r; rfl
 | _=> exact absurd (show false=true from f) Bool.false_ne_true
theorem iY {x:V}:∀ {xs:List V} {us:List Value},aG xs us→xs.all eT=true→us.any (eqU x)=xs.any fun y=> eqV y x
 | _,_,.nil,_=> rfl
 | y::xs,u::us,.cons r t,f=> by
  rw [List.all_cons,Bool.and_eq_true] at f
  rw [List.any_cons,List.any_cons,qb r f.1,iY t f.2]
theorem gu {A:Around} {s:Shared} {x:V} {v:Value} (rx:aV x v) (fx:eT x=true):∀ {xs:List V} {us:List Value},aG xs us→xs.all eT=true→∀ u∈us,SeqAt.EqAt A s u v (eqU x u)
 | _,_,.nil,_=> fun u hu=> by cases hu
 | y::xs,u::us,.cons r t,f=> fun u' hu=> by
  rw [List.all_cons,Bool.and_eq_true] at f
  rcases List.mem_cons.mp hu with rfl | hu
  ·rw [qb r f.1]; exact vn r rx f.1 fx
  ·exact gu rx fx t f.2 u' hu
def inV (x:V) (xs:List V):Bool:=xs.any fun y=> eqV y x
def rIn (K:PySem.W.Frag) (neg:Bool):R2:=fun x y H Q=> ∃ p xs,y=.ref p∧(SqL K H p xs∨SqT K H p xs)∧eT x=true∧xs.all eT=true∧Q (.bl (if neg then !inV x xs else inV x xs)) H
theorem nQ:OpR X (compareOp .In) (rIn X.K false):=by
 intro pins s σ H x y v u Q I rx ry h
 obtain ⟨p,xs,rfl,hq,fx,fs,q⟩:=h
 cases ry
 rcases hq with hq | hq
 ·obtain ⟨its,r,pl,hz⟩:=I.list hq
  refine SeqAt.in_listAt (eqU x) pl.isList (fun w hw=> gu rx fx r fs w (by simpa using hw)) ⟨.bl _,H,I,rfl,?_⟩
  rw [show its.toArray.any (eqU x)=its.any (eqU x) by simp,iY r fs]
  exact q
 ·obtain ⟨its,r,pl,hz⟩:=I.tuple hq
  refine SeqAt.in_tupleAt (eqU x) pl (fun w hw=> gu rx fx r fs w (by simpa using hw)) ⟨.bl _,H,I,rfl,?_⟩
  rw [show its.toArray.any (eqU x)=its.any (eqU x) by simp,iY r fs]
  exact q
theorem e8:bQ X (.builtin "len") (fun xs H Q=> ∃ p ys,xs=[.ref p]∧(SqL X.K H p ys∨SqT X.K H p ys)∧Q (.int ys.length) H):=by
 intro pins s σ H xs us Q I r h
 obtain ⟨p,ys,rfl,hq,q⟩:=h
 obtain ⟨u,rfl,rx⟩:=dy r
 cases rx
 have hn:=kN
 rcases hq with hq | hq
 ·obtain ⟨its,r',pl,hz⟩:=I.list hq
  have hlen:=r'.length
  exact Calls.call_len_list pl.isList (by simp only [List.size_toArray] <;> omega) ⟨.int ys.length,H,I.tok _,⟨s.toks+1,by rw [List.size_toArray,hlen]⟩,q⟩
 ·obtain ⟨its,r',pl,hz⟩:=I.tuple hq
  have hlen:=r'.length
  exact len_tuple pl (by simp only [List.size_toArray] <;> omega) ⟨.int ys.length,H,I.tok _,⟨s.toks+1,by rw [List.size_toArray,hlen]⟩,q⟩
theorem jb:bQ X (.type "list") (fun xs H Q=> ∃ p ys,xs=[.ref p]∧(SqL X.K H p ys∨SqT X.K H p ys)∧∀ l,H l=none→Q (.ref l) (upd H l (.lst ys))):=by
 intro pins s σ H xs us Q I r h
 obtain ⟨p,ys,rfl,hq,q⟩:=h
 obtain ⟨u,rfl,rx⟩:=dy r
 cases rx
 have fin:∀ (its:List Value),aG ys its→ys.length≤sizeLine→∀ (h':Heap) (c':Nat),(∀ b o',s.heap.get? b=some o'→h'.get? b=some o')→
   h'.get? s.heap.objs.size=some { cls:=.type "list",dict:=none,data:=.seq its.toArray c',slots:=#[] }→EP X pins σ Q (.ref s.heap.objs.size) { s with heap:=h' }:=fun its r' hz h' c' kp e=>
  ⟨.ref s.heap.objs.size,_,I.laid (t':=s.toks) kp (Nat.le_refl _) (show bR X.prog X.w _ h' _ (.lst ys) from ⟨hz,its,c',r',e⟩),rfl,q _ (I.hok.fresh (Nat.le_refl _))⟩
 rcases hq with hq | hq
 ·obtain ⟨its,r',pl,hz⟩:=I.list hq
  have hlen:=r'.length
  obtain ⟨o,ho,hc,n,hd⟩:=pl.isList
  exact call_list_seq p (.inl rfl) ho hc hd (fun h' c' kp e=> fin its r' hz h' c' kp e) (by simp only [List.size_toArray] <;> omega)
 ·obtain ⟨its,r',pl,hz⟩:=I.tuple hq
  have hlen:=r'.length
  obtain ⟨o,ho,hc,n,hd⟩:=pl
  exact call_list_seq p (.inr rfl) ho hc hd (fun h' c' kp e=> fin its r' hz h' c' kp e) (by simp only [List.size_toArray] <;> omega)
def tyV (K:PySem.W.Frag) (T:String) (x:V) (H:Hp):Prop:=match x with
 | .str _=> T="str"
 | .int _=> T="int"
 | .ref p=> (T="list"∧∃ xs,SqL K H p xs)∨(T="tuple"∧∃ o,K.lookup p=some o∧o.cls=.type "tuple"∧o.dict=none)∨
   (T="dict"∧((∃ kvs,H p=some (.dK kvs))∨∃ kvs,H p=some (.dT kvs)))∨(T="set"∧∃ S n,H p=some (.set S n))
 | _=> False
theorem qw {pins:List (Addr×Obj)} {σ:St} {H:Hp} {s:Shared} {T:String} {x:V} {v:Value} (I:Inv X pins σ H s) (r:aV x v) (ty:tyV X.K T x H):
  s.TypeIs v T∧∀ a,v=.ref a→∃ ob,s.heap.get? a=some ob∧ob.dict=none:=by
 cases x with
 | str z=>
  obtain ⟨t,rfl⟩:=r
  cases (show T="str" from ty)
  exact ⟨typeIs_str s z t,fun _ e=> nomatch e⟩
 | int i=>
  obtain ⟨t,rfl⟩:=r
  cases (show T="int" from ty)
  exact ⟨typeIs_int s i t,fun _ e=> nomatch e⟩
 | ref p=>
  cases r
  rcases ty with ⟨rfl,xs,hq⟩ | ⟨rfl,o,hk,hc,hd⟩ | ⟨rfl,hk⟩ | ⟨rfl,S,n,hk⟩
  ·obtain ⟨its,_,pl,_⟩:=I.list hq
   refine ⟨pl.isList.typeIs,fun a e=> ?_⟩
   cases e
   obtain ⟨o,n,e,c,hd,_⟩:=pl
   exact ⟨o,e,hd⟩
  ·refine ⟨⟨o,I.kIn p o hk,hc⟩,fun a e=> ?_⟩
   cases e
   exact ⟨o,I.kIn _ o hk,hd⟩
  ·have z:∃ o,s.heap.get? p=some o∧o.ExactDict:=by
    rcases hk with ⟨kvs,hk⟩ | ⟨kvs,hk⟩
    ·obtain ⟨_,_,_,_,o,_,_,e,ex,_⟩:=I.hok p _ hk
     exact ⟨o,e,ex⟩
    ·obtain ⟨_,_,_,_,o,_,_,e,ex,_⟩:=I.hok p _ hk
     exact ⟨o,e,ex⟩
   obtain ⟨o,e,ex⟩:=z
   refine ⟨⟨o,e,ex.1⟩,fun a e2=> ?_⟩
   cases e2
   exact ⟨o,e,ex.2.1⟩
  ·obtain ⟨o,_,_,_,e,ex,_⟩:=I.hok p _ hk
   refine ⟨⟨o,e,ex.1⟩,fun a e2=> ?_⟩
   cases e2
   exact ⟨o,e,ex.2.1⟩
 | _=> exact False.elim ty
def wC (K:PySem.W.Frag) (T:String) (r:V→List V→Hp→VK→Prop) (to:TE):TE:=fun σ H Q=> to σ H fun x H1=> tyV K T x H1∧r x [] H1 Q
def tBM (K:PySem.W.Frag) (T:String) (r:V→List V→Hp→VK→Prop) (to:TE) (t:TA):TE:=fun σ H Q=> to σ H fun x H1=> tyV K T x H1∧t σ H1 fun xs H2=> r x xs H2 Q
variable {o e:Expr} {es:List Expr} {to:TE} {t:TA} {name:Str} {apos cpos:Pos} {T id:String} {r:V→List V→Hp→VK→Prop}
theorem pD (pa:PlainAttrs T) (slot:Slot T name id) (hty:typeOf (.builtin id)=pure (.type "method_descriptor")) (hm:MtR X id r) (ho:PE X o to)
  (hbase:attributeBase o name X.env (eval o X.env)=eval o X.env:=by rfl) (hline:(apos.endLine==cpos.line)=true:=by rfl):PE X (.Call (.Attribute o name apos) [] [] cpos) (wC X.K T r to):=by
 intro pins s σ H Q I h
 refine wpAny_Call_method0_late hbase hline (thn (ho pins s σ H _ I h) fun v s1 ⟨x,H1,I1,r1,ty,q1⟩=> ?_)
 obtain ⟨h1,h2⟩:=qw I1 r1 ty
 exact ⟨T,id,pa,slot,hty,h1,h2,Calls.callWith_builtin rfl (PySem.evalArgs_none (hm pins s1 σ H1 x [] v [] Q I1 r1 .nil q1))⟩
theorem t9 (pa:PlainAttrs T) (slot:Slot T name id) (hty:typeOf (.builtin id)=pure (.type "method_descriptor")) (hm:MtR X id r) (ho:PE X o to) (ha:PA X (e::es) t)
  (hbase:attributeBase o name X.env (eval o X.env)=eval o X.env:=by rfl)
  (hfew:((backTo cpos (starEach (e::es) X.env)).all (fun x=> !x.1) && (backToKw cpos (keywordEach [] X.env)).all (fun x=> x.1.isSome)
   && decide ((e::es).length+([]:List Keyword).length+(if ([]:List Keyword).isEmpty then 0 else 1) < 30))=true:=by rfl)
  (hline:(apos.endLine==cpos.line)=true:=by rfl) (hs:starEach (e::es) X.env=(false,eval e X.env)::starEach es X.env:=by rfl) (hplain:(backTo cpos (starEach es X.env)).any (·.1)=false:=by rfl):
  PE X (.Call (.Attribute o name apos) (e::es) [] cpos) (tBM X.K T r to t):=by
 intro pins s σ H Q I h
 refine wpAny_Call_method_late hbase hfew hline rfl (thn (ho pins s σ H _ I h) fun v s1 ⟨x,H1,I1,r1,ty,q1⟩=> ?_)
 obtain ⟨h1,h2⟩:=qw I1 r1 ty
 refine ⟨T,id,pa,slot,hty,h1,h2,?_⟩
 have hA:=ha cpos pins s1 σ H1 _ I1 q1
 rw [hs] at hA ⊢
 refine Calls.callWith_builtin (by show (false || (backTo cpos (starEach es X.env)).any (·.1))=false; rw [hplain] <;> rfl) (Calls.evalArgs_plain ?_)
 exact thn hA fun us s2 ⟨vs,H2,I2,r2,q2⟩=> hm pins s2 σ H2 x vs v us Q I2 r1 r2 q2
/- xs.append(e),list.index on a module's tuple .. are MtR facts of 06m -/
end
end L2
namespace L2
open PySem PySem.Spec PyProof.Rows
def MtM (X:Cx) (id:String) (r:V→List V→Hp→VK→Prop):Prop:=
 ∀ (pins:List (Addr×Obj)) (s:Shared) (σ:St) (H:Hp) (x:V) (xs:List V) (v:Value) (us:List Value) (Q:VK),Inv X pins σ H s→aV x v→aG xs us→r x xs H Q→
  wpAny (model X.prog X.w) X.A (call (.builtin id) (v::us)) (EP X pins σ Q) X.xe s
theorem aG.one:∀ {x:V} {us:List Value},aG [x] us→∃ u,us=[u]∧aV x u
 | _,_,.cons r .nil=> ⟨_,rfl,r⟩
theorem aG.zero:∀ {us:List Value},aG [] us→us=[]
 | _,.nil=> rfl
theorem aG.dropLast {xs:List V} {us:List Value} (h:aG xs us):aG xs.dropLast us.dropLast:=by
 induction h with
 | nil=> exact .nil
 | cons r t ih=>
  cases t with
  | nil=> exact .nil
  | cons q t'=> exact .cons r ih
theorem kS {α:Type} (l:List α):l.eraseIdx (l.length - 1)=l.dropLast:=by
 induction l with
 | nil=> rfl
 | cons a r ih=>
  cases r with
  | nil=> rfl
  | cons b r=>
   have e:(a::b::r).length - 1=((b::r).length - 1)+1:=by
    have h1:(a::b::r).length=r.length+2:=rfl
    have h2:(b::r).length=r.length+1:=rfl
    omega
   rw [e,List.eraseIdx_cons_succ,ih]
   all_goals rfl
section
variable {X:Cx} {pins:List (Addr×Obj)} {σ:St} {H:Hp} {s:Shared} {l b:Addr} {xs ys zs:List V}
theorem Inv.lset {its its':List Value} {n:Nat} {f:Array Value→Array Value} {t':Nat} (I:Inv X pins σ H s) (hH:H l=some (.lst xs))
  (e:s.heap.get? l=some { cls:=.type "list",data:=.seq its.toArray n }) (hf:f its.toArray=its'.toArray) (hv:aG ys its') (hz:ys.length≤sizeLine):
  Inv X pins σ (upd H l (.lst ys)) { s with heap:=s.heap.update l (Obj.mapSeq f),toks:=t' }:=by
 have q:=PySem.IsL.update e f
 rw [hf] at q
 refine I.write (x:=l) (e:=l) (by rw [hH]; exact trivial) (.inl rfl) (fun b' u hb hu=> (Heap.get?_update_other s.heap (Obj.mapSeq f) (Ne.symm hb)).trans hu) ⟨_,q⟩ ?_
 exact ⟨hz,its',_,hv,q⟩
theorem Inv.lnew {its:List Value} {t':Nat} (I:Inv X pins σ H s) (hv:aG ys its) (hz:ys.length≤sizeLine):
  Inv X pins σ (upd H s.heap.objs.size (.lst ys)) { s with heap:=s.heap.push { cls:=.type "list",data:=.seq its.toArray },toks:=t' }:=
 I.laid (fun _ _ q=> Heap.get?_push_of_some _ q) (Nat.le_refl _) ⟨hz,its,0,hv,Heap.get?_push_size _ rfl⟩
theorem Inv.fresh (I:Inv X pins σ H s):H s.heap.objs.size=none:=I.hok.fresh (Nat.le_refl _)
theorem Inv.lstM (I:Inv X pins σ H s) (hH:H l=some (.lst xs)):xs.length≤sizeLine∧∃ (its:List Value) (n:Nat),aG xs its∧xs.length=its.length∧s.heap.get? l=some { cls:=.type "list",data:=.seq its.toArray n }:=by
 obtain ⟨z,its,n,r,e⟩:=I.hok l _ hH
 exact ⟨z,its,n,r,r.length,e⟩
theorem p7 {n:Nat} (h:n≤sizeLine):Builtin.List.listTooLong n=false:=by
 unfold Builtin.List.listTooLong
 exact decide_eq_false (by omega)
end
section
variable {X:Cx}
def si:V→List V→Hp→VK→Prop:=fun x vs H Q=> ∃ l xs y,x=.ref l∧vs=[y]∧H l=some (.lst xs)∧xs.length < sizeLine∧Q .non (upd H l (.lst (xs++[y])))
theorem fB:MtM X "list.append" si:=by
 intro pins s σ H x vs v us Q I rx rv h
 obtain ⟨l,xs,y,rfl,rfl,hH,hz,q⟩:=h
 cases rx
 obtain ⟨u,rfl,ru⟩:=rv.one
 obtain ⟨z,its,n,r,hl,e⟩:=I.lstM hH
 refine call_meets F.slot_list_append ⟨_,e,rfl⟩ F.entry_list_append (F.args_list_append_2 _ _) (PySem.list_append l its.toArray n u (by rw [List.size_toArray]; omega)) ⟨e,?_⟩
 refine ⟨.non,_,I.lset (its':=its++[u]) hH e (by simp) (r.append (.cons ru .nil)) ?_,rfl,q⟩
 rw [List.length_append,List.length_singleton]
 omega
def tq:V→List V→Hp→VK→Prop:=fun x vs H Q=> ∃ l b xs zs,x=.ref l∧vs=[.ref b]∧H l=some (.lst xs)∧H b=some (.lst zs)∧xs.length+zs.length≤sizeLine∧Q .non (upd H l (.lst (xs++zs)))
theorem nD:MtM X "list.extend" tq:=by
 intro pins s σ H x vs v us Q I rx rv h
 obtain ⟨l,b,xs,zs,rfl,rfl,hH,hB,hz,q⟩:=h
 cases rx
 obtain ⟨u,rfl,ru⟩:=rv.one
 cases ru
 obtain ⟨z,its,n,r,hl,e⟩:=I.lstM hH
 obtain ⟨z2,its2,n2,r2,hl2,e2⟩:=I.lstM hB
 have hsz:its.toArray.size+its2.toArray.size≤sizeLine:=by rw [List.size_toArray,List.size_toArray]; omega
 have hlong:¬ (!its.toArray.isEmpty && Builtin.List.listTooLong (its.toArray.size+its2.toArray.size))=true:=by
  rw [p7 hsz,Bool.and_false]
  exact Bool.false_ne_true
 refine call_meets F.slot_list_extend ⟨_,e,rfl⟩ F.entry_list_extend (F.args_list_extend_2 _ _)
  (AutoSeq1.list_extend_list_list_0 l its.toArray n b its2.toArray n2 hlong (by rw [List.size_toArray]; omega) (by omega)) ⟨e,e2,?_⟩
 refine ⟨.non,_,I.lset (its':=its++its2) hH e (by simp) (r.append r2) ?_,rfl,q⟩
 rw [List.length_append]
 omega
def wZ:V→List V→Hp→VK→Prop:=fun x vs H Q=> ∃ l xs y,x=.ref l∧vs=[]∧H l=some (.lst xs)∧xs[xs.length - 1]?=some y∧Q y (upd H l (.lst xs.dropLast))
theorem uZ:MtM X "list.pop" wZ:=by
 intro pins s σ H x vs v us Q I rx rv h
 obtain ⟨l,xs,y,rfl,rfl,hH,hy,q⟩:=h
 cases rx
 have hus:=rv.zero
 subst hus
 obtain ⟨z,its,n,r,hl,e⟩:=I.lstM hH
 obtain ⟨u,hu,ru⟩:=r.get hy
 have hy':its.toArray[its.toArray.size - 1]?=some u:=by
  show its.toArray[its.length - 1]?=some u
  rw [← Array.getElem?_toList,← hl]
  exact hu
 refine call_meets F.slot_list_pop ⟨_,e,rfl⟩ F.entry_list_pop (F.args_list_pop_1 _) (MeetsSeq.list_pop_last l its.toArray n u hy' (by rw [List.size_toArray]; omega)) ⟨e,?_⟩
 refine ⟨y,_,I.lset (its':=its.dropLast) hH e ?_ r.dropLast ?_,ru,q⟩
 ·show its.toArray.eraseIdxIfInBounds (its.toArray.size - 1)=its.dropLast.toArray
  rw [List.size_toArray,List.eraseIdxIfInBounds_toArray,kS]
 ·rw [List.length_dropLast]
  omega
def u6:V→List V→Hp→VK→Prop:=fun x vs H Q=> ∃ l xs,x=.ref l∧vs=[]∧H l=some (.lst xs)∧Q .non (upd H l (.lst []))
theorem pT:MtM X "list.clear" u6:=by
 intro pins s σ H x vs v us Q I rx rv h
 obtain ⟨l,xs,rfl,rfl,hH,q⟩:=h
 cases rx
 have hus:=rv.zero
 subst hus
 obtain ⟨z,its,n,r,hl,e⟩:=I.lstM hH
 refine call_meets F.slot_list_clear ⟨_,e,rfl⟩ F.entry_list_clear (F.args_list_clear_1 _) (AutoSeq1.list_clear_list_0 l its.toArray n (by rw [List.size_toArray]; omega)) ⟨e,?_⟩
 exact ⟨.non,_,I.lset (its':=[]) (ys:=[]) hH e rfl .nil (Nat.zero_le _),rfl,q⟩
def wH:R2:=fun x y H Q=> ∃ l b xs zs,x=.ref l∧y=.ref b∧H l=some (.lst xs)∧H b=some (.lst zs)∧xs.length+zs.length≤sizeLine∧∀ p,H p=none→Q (.ref p) (upd H p (.lst (xs++zs)))
theorem uj:OpR X (binaryOp .Add) wH:=by
 intro pins s σ H x y v u Q I rx ry h
 obtain ⟨l,b,xs,zs,rfl,rfl,hH,hB,hz,q⟩:=h
 cases rx
 cases ry
 obtain ⟨z,its,n,r,hl,e⟩:=I.lstM hH
 obtain ⟨z2,its2,n2,r2,hl2,e2⟩:=I.lstM hB
 refine PySem.P.add_list e e2 ?_ (by rw [List.size_toArray,List.size_toArray]; omega)
 have ea:its.toArray++its2.toArray=(its++its2).toArray:=by simp
 rw [ea]
 exact ⟨.ref _,_,I.lnew (t':=s.toks) (r.append r2) (by rw [List.length_append]; omega),rfl,q _ I.fresh⟩
end
section
variable {prog:Program} {w:World} {A:Around} {E:Value→Shared→Prop} {s:Shared}
end
section
variable {X:Cx}
end
end L2
namespace Att
open PySem PySem.W PySem.Calls PyProof.Rows
theorem fZ {P:Params} {h:Heap}:∀ (ns:List Int) (vs:List Value),WellAll P h vs (ns.map WData.int)→IntsAre vs ns:=by
 intro ns
 induction ns with
 | nil=>
  intro vs w
  rw [List.map_nil] at w
  cases w
  exact .nil
 | cons n ns ih=>
  intro vs w
  rw [List.map_cons] at w
  cases w with
  | cons a b=>
   cases a
   exact .cons _ _ (ih _ b)
theorem script_of {l:OpenLaw} {n:Nat} (hn:l.most=some n) {P:Params} {h:Heap} {args:List WData} {vals:List Value}
  (hpre:l.row.toRowW.claim.pre args=true) (hwl:WellAll P h vals args):
  ∃ a vs ns,vals=[Value.ref a]∧args=[WData.list (ns.map WData.int)]∧h.get? a=some { cls:=.type "list",data:=.seq vs.toArray }∧IntsAre vs ns∧ns.length≤n:=by
 have hsh:WShape.hasAll [] args [.list .int]=true:=(pre_splitW hpre).1
 have hc:l.pre.holds [] { args:=args }=true:=(pre_splitW hpre).2
 obtain ⟨d,r,rfl,h1,h2⟩:=hasAllW_cons hsh
 obtain rfl:=hasAllW_nil h2
 obtain ⟨xs,rfl,h3⟩:=hasW_list h1
 obtain ⟨ns,rfl⟩:=items_int h3
 have hlen:ns.length≤n:=by
  unfold OpenLaw.pre at hc
  have h4:(WTm.not (.lt (.lit (.int (n:Int))) (.len (.arg 0)))).holds [] { args:=[.list (ns.map .int)] }=true:=by
   have h4:=(holds_andW hc).1
   rw [hn] at h4
   exact h4
  have h5:=condW_of h4 (w_not (w_lt w_lit (w_len_list (w_arg rfl))))
  rw [List.length_map] at h5
  refine Nat.le_of_not_lt fun q=> ?_
  have q':(n:Int) < ((ns.length:Nat):Int):=by omega
  first
   | (rw [decide_eq_true q'] at h5; exact absurd h5 (by decide))
   | (simp at h5; omega)
 cases hwl with
 | cons w1 w2=>
  cases w2
  cases w1 with
  | list ho hall=> exact ⟨_,_,ns,rfl,rfl,ho,fZ ns _ hall,hlen⟩
theorem post_true (l:OpenLaw) (args:List WData):l.row.toRowW.claim.post args (.bool true) args=true:=
 postW_of (r:=l.row.toRowW) (X:=(true==true))
  (show WShape.has [] (.bool true) .bool=true by first | rfl | decide | simp [WShape.has,WShape.arms,WShape.armsAll])
  (show (WTm.eq .res (.lit (.bool true))).value [] { args:=args,res:=some (.bool true),after:=args }=some (.bool (true==true)) from w_eq_bool (w_res rfl) w_lit) rfl
section
variable {prog:Program} {w:World} {A:Around} {E:Value→Shared→Prop} {s:Shared} {K:Frag}
end
end Att
namespace L2
open PySem PySem.Spec PyProof.Rows
theorem iF:∀ {vs:List Value} {ns:List Int},IntsAre vs ns→aG (ns.map V.int) vs
 | _,_,.nil=> .nil
 | _,_,.cons n t h=> .cons ⟨t,rfl⟩ (iF h)
def rV (H:Hp):Prop:=∀ b,H b=none∨∃ o xs,H b=some (.frz o (.lst xs))
theorem qO {P:Program} {w:World} {K:PySem.W.Frag} {mg mb:Str→Option Value} {CX:CXT} {k:Nat} {fa a:Addr} {fd:FuncData} {x:Str} {sp:Sp} {s₁:Shared} {vs:List Value} {ns:List Int}
  (KX:K.In s₁.heap) (hns:s₁.heap.Ns mainGlobals mg) (hb:s₁.heap.Ns builtinsNs mb) (hbb:∀ x:Str,x≠"__name__"→mb x=bootBuiltins x) (hlim:s₁.heap.NoLimit) (hg:s₁.gens=#[])
  (ha:s₁.heap.get? a=some { cls:=.type "list",data:=.seq vs.toArray }) (hi:IntsAre vs ns) (hl:ns.length≤sizeLine) (hr:cF k callerA)
  (F:∀ base:Heap,K.In base→base.Ns mainGlobals mg→aR P w K mg base CX k fa fd [x] sp) (hbind:∀ (s:Shared) (u:Value),BindsTo s fd ⟨[u],[]⟩ [(x,u)])
  (hsp:∀ H:Hp,rV H→SqL K H a (ns.map V.int)→sp [.ref a] H (fun v _=> v=.bl true) fun _ _ _=> False)
  (hCX:∀ H e s',CX [] H s₁ (fun _ _ _=> False) e s'→False):
  codeAny (model P w) callerA (.call (.ref fa) ⟨[.ref a],[]⟩) (fun r s'=> r=.ok (.ret (.bool true))∧OldK s₁.heap s'.heap∧s'.os=s₁.os∧AllBare s'.gens) s₁:=by
 have rv:=iF hi
 have lenV:=hi.length
 have core:∀ H:Hp,rV H→SqL K H a (ns.map V.int)→HOk P w H s₁.heap→(∀ b,H b≠none→b=a)→(H a≠none→K.lookup a=none)→
   codeAny (model P w) callerA (.call (.ref fa) ⟨[.ref a],[]⟩) (fun r s'=> r=.ok (.ret (.bool true))∧OldK s₁.heap s'.heap∧s'.os=s₁.os∧AllBare s'.gens) s₁:=by
  intro H hO hS hok hA hK
  have base_of:∀ {b:Addr} {o:Obj},s₁.heap.get? b=some o→H b=none→(ji s₁.heap H).get? b=some o:=fun e n=> o3 e n
  have noA:∀ {b:Addr} {o:Obj} {es:Array DictEntry} {ep:Nat},s₁.heap.get? b=some o→o.data=.dict es ep→H b=none:=fun {b o es ep} e d=> by
   cases q:H b with
   | none=> rfl
   | some u=>
    have e':b=a:=hA b (by rw [q]; simp)
    subst e'
    rw [ha] at e; cases e
    have d':Data.seq vs.toArray _=Data.dict es ep:=d
    cases d'
  have nsK:∀ {b:Addr} {m:Str→Option Value},s₁.heap.Ns b m→(ji s₁.heap H).Ns b m:=fun {b m} ⟨o,es,ep,e,d,r⟩=> ⟨o,es,ep,base_of e (noA e d),d,r⟩
  have hKb:K.In (ji s₁.heap H):=fun b o e=> base_of (KX b o e) (by
   cases q:H b with
   | none=> rfl
   | some u=>
    have e':b=a:=hA b (by rw [q]; simp)
    subst e'
    rw [hK (by rw [q]; simp)] at e; cases e)
  have hM:Mod K mg (ji s₁.heap H):=⟨hKb,nsK hns,⟨mb,nsK hb,hbb⟩,let ⟨mc,h1,h2⟩:=hlim; ⟨mc,nsK h1,h2⟩⟩
  have e0:sX P w K mg (ji s₁.heap H) callerA [] s₁ H:=⟨rfl,hM,fun b o e=> tx e,Nat.le_of_eq (oB _ _),trivial,fun b hb=> absurd (show b∈([]:List Addr) from hb) (by simp),hok,.of_eq hg⟩
  refine codeAny_mono ((F _ hKb (nsK hns)).run callerA [] s₁ H ⟨[.ref a],[]⟩ [.ref a] [.ref a] _ _ hr e0 (hbind s₁ (.ref a)) (.cons rfl .nil) (hsp H hO hS)) fun r s' h=> ?_
  cases r with
  | error e=> exact (hCX H e s' h).elim
  | ok fl=>
   cases fl with
   | next=> exact False.elim h
   | brk=> exact False.elim h
   | cont=> exact False.elim h
   | ret u=>
    obtain ⟨v,H',os,bare,un,hok',r',q⟩:=h
    have q':v=.bl true:=q
    subst q'
    obtain rfl:u=Value.bool true:=r'
    refine ⟨rfl,OldK.of_keep fun b o e=> ?_,os,bare⟩
    cases q:H b with
    | none=> exact un.keep b o e q (by intro z; exact absurd (show b∈([]:List Addr) from z) (by simp)) (by simp)
    | some u=>
     rcases hO b with z | ⟨ob,xs,z⟩
     ·rw [q] at z; cases z
     ·have z2:=un.frzs b ob _ z
      obtain ⟨e1,_⟩:=hok b _ z
      obtain ⟨e2,_⟩:=hok' b _ z2
      rw [e] at e1; cases e1
      exact e2
 cases hk:K.lookup a with
 | some o=>
  have e:=KX a o hk
  rw [ha] at e
  cases e
  refine core (fun _=> none) (fun _=> .inl rfl) (.inr ⟨_,vs.toArray,_,hk,rfl,rfl,rfl,by rw [List.size_toArray,lenV]; exact hl,by simpa using rv⟩) (fun b u z=> by have z':(none:Option HO)=some u:=z; cases z') (fun b z=> absurd rfl z) fun z=> absurd rfl z
 | none=>
  refine core (fun b=> if b=a then some (.frz { cls:=.type "list",data:=.seq vs.toArray } (.lst (ns.map V.int))) else none) (fun b=> ?_) (.inl (.inr ⟨{ cls:=.type "list",data:=.seq vs.toArray },if_pos rfl⟩)) (fun b u z=> ?_) (fun b z=> ?_) fun _=> hk
  ·by_cases hb:b=a
   ·exact .inr ⟨_,_,if_pos hb⟩
   ·exact .inl (if_neg hb)
  ·by_cases hb:b=a
   ·have z':=(if_pos hb).symm.trans z
    cases z'
    subst hb
    exact ⟨ha,by rw [List.length_map]; exact hl,vs,_,rv,ha⟩
   ·have z':=(if_neg hb).symm.trans z
    cases z'
  ·by_cases hb:b=a
   ·exact hb
   ·exact absurd (if_neg hb) z
end L2
namespace L2
open PySem PySem.Spec PyProof.Rows
abbrev KOf {K:PySem.W.Frag} {h:Heap} (_:K.In h):PySem.W.Frag:=K
end L2
/- THE LAST THEOREM (shape; LID,My.* are yours):
   My.Adr:a structure of the addresses that your layer names (classes,functions); My.Txt K t:a structure (Prop) of the equations over K;
   My.txt_mk:{K} {implicit addresses ..} (e1:nsIn K mainGlobals "law"=some (some (.ref f))) (e2:K.lookup f=some ⟨oc,od,.func (fnOf "law" "law" params body scope dV kV doc pm an cdv ct),sl⟩) (e3:codeIn K cdv "law"=true) ..:∃ t,My.Txt K t
set_option maxRecDepth 100000 in
set_option maxHeartbeats 0 in
theorem PySem.Challenge.cw_LID_holds : PySem.Challenge.rw_LID.Holds := by
 w_on; o_law; k_head; (case hw=> w_witness2)
 k_fill
 refine L2.walk_of (l:=PySem.Challenge.rw_LID) (n:=63) (k:=40) (x:="script") (CX:=fun w=> ..) (sp:=fun _=> My.sp_law) rfl (by decide) rfl ⟨rfl,by decide,by decide⟩ (fun w h Y=> PySem.W.kIn_of Y) ?F ?S ?C
 case F=>
  intro w mg fa h KX G hmg
  have T:∃ t,My.Txt (L2.KOf KX) t:=by
   dsimp only [L2.KOf]                          -- K must stand as «<heap const> w.params» for k_is
   refine' My.txt_mk ?e1 ?e2 ?e3 ..
   (case e1=> PySem.W.k_is)                    -- in the order:a name -> its address -> its object -> its parts
   (case e2=> PySem.W.k_is)
   ..
  obtain ⟨t,T⟩:=T
  have e0:=hmg.symm.trans (PySem.W.mg_of KX G T.law)
  cases e0                                       -- fa is the law's own address
  exact ⟨_,fun s u=> .of_eq rfl,fun base kb nb=> My.law_fn T kb nb⟩     -- if «.of_eq rfl» comes too early:refine' ⟨_,?b,fun base kb nb=> My.law_fn T kb nb⟩; exact fun s u=> .of_eq rfl
 case S=> exact fun w H a ns hl hO hS=> ..
 case C=> exact ..
(the tactic k_is has no namespace:write k_is) -/
namespace L2
open PySem PySem.Spec PyProof.Rows
def aq (s:Stmt):Arguments:=match s with
 | .FunctionDef _ a _ _ _ _ _ _ _ _=> a
 | _=> { posonlyargs:=[],args:=[],vararg:=none,kwonlyargs:=[],kw_defaults:=[],kwarg:=none,defaults:=[] }
def am (s:Stmt):List Stmt:=match s with
 | .FunctionDef _ _ b _ _ _ _ _ _ _=> b
 | _=> []
def ah (s:Stmt):Scope:=match s with
 | .FunctionDef _ _ _ _ _ _ sc _ _ _=> sc
 | _=> { kind:=.function,names:=[],isGenerator:=false,isCoroutine:=false }
abbrev CX0:CXT:=fun _ _ _ _ _ _=> False
abbrev E0:XK:=fun _ _ _=> False
structure Fun (K:PySem.W.Frag) (x qual:Str) (st:Stmt) (f:Addr) (fd:FuncData):Prop where
 ex:∃ (oc:Value) (od:Option Addr) (kV doc pm:Value) (an:Option Addr) (cdv ct:Value) (osl:Array (Option Value)),
  fd=PySem.W.fnOf x qual (aq st) (am st) (ah st) .none kV doc pm an cdv ct∧K.lookup f=some ⟨oc,od,.func fd,osl⟩∧PySem.W.codeIn K cdv qual=true
 kp:PySem.W.keepIn K (.ref f)=true
section
variable {P:Program} {w:World} {K:PySem.W.Frag} {mg:Str→Option Value} {base:Heap}
theorem Fun.binds {x qual:Str} {st:Stmt} {f:Addr} {fd:FuncData} {ps:List Str} (F:Fun K x qual st f fd)
  (h:∀ (kV doc pm:Value) (an:Option Addr) (cdv ct:Value) (us:List Value),us.length=ps.length→bindArgs (PySem.W.fnOf x qual (aq st) (am st) (ah st) .none kV doc pm an cdv ct) ⟨us,[]⟩=pure (ps.zip us)):aA K fd ps []:=by
 obtain ⟨oc,od,kV,doc,pm,an,cdv,ct,osl,rfl,lk,hcd⟩:=F.ex
 exact .all (h kV doc pm an cdv ct)
theorem aD {x qual:Str} {st:Stmt} {f:Addr} {oc:Value} {od an:Option Addr} {osl:Array (Option Value)} {kV doc pm cdv ct:Value} (l:K.lookup f=some ⟨oc,od,.func (PySem.W.fnOf x qual (aq st) (am st) (ah st) .none kV doc pm an cdv ct),osl⟩)
  (c:PySem.W.codeIn K cdv qual=true) (k:PySem.W.keepIn K (.ref f)=true):Fun K x qual st f (PySem.W.fnOf x qual (aq st) (am st) (ah st) .none kV doc pm an cdv ct):=⟨⟨oc,od,kV,doc,pm,an,cdv,ct,osl,rfl,l,c⟩,k⟩
end
theorem ba {n:Nat} (h:n≤1000):n < sizeLine:=Nat.lt_of_le_of_lt h (by decide)
section
variable {X:Cx}
end
theorem nW {A B:Prop} (h:B):if false=true then A else B:=by
 rw [if_neg Bool.false_ne_true]
 exact h
theorem oE {A B:Prop} (h:A):if true=true then A else B:=by
 rw [if_pos rfl]
 exact h
def aB (H H':Hp):Prop:=∀ b o,H b=some o→H' b=some o
theorem aB.refl (H:Hp):aB H H:=fun _ _ h=> h
theorem aB.trans {H H1 H2:Hp} (a:aB H H1) (b:aB H1 H2):aB H H2:=fun c o h=> b c o (a c o h)
theorem aB.free {H H':Hp} (e:aB H H') {l:Addr} (h:H' l=Option.none):H l=Option.none:=by
 cases q:H l with
 | none=> rfl
 | some o=>
  rw [e l o q] at h
  cases h
theorem aB.seq {K:PySem.W.Frag} {H H':Hp} {a:Addr} {xs:List V} (e:aB H H') (h:SqL K H a xs):SqL K H' a xs:=by
 rcases h with (h | ⟨o,h⟩) | h
 ·exact .inl (.inl (e _ _ h))
 ·exact .inl (.inr ⟨o,e _ _ h⟩)
 ·exact .inr h
end L2
namespace L2
open PySem PySem.Spec PyProof.Rows
def Sz (m:Nat) (x:Int):Prop:=x.natAbs < 2 ^ m
theorem Sz.mono {m n:Nat} {x:Int} (h:Sz m x) (hmn:m≤n):Sz n x:=Nat.lt_of_lt_of_le h (Nat.pow_le_pow_right (by decide) hmn)
theorem Sz.neg {m:Nat} {x:Int} (h:Sz m x):Sz m (-x):=by unfold Sz at *; rw [Int.natAbs_neg]; exact h
theorem Sz.add {m:Nat} {x y:Int} (hx:Sz m x) (hy:Sz m y):Sz (m+1) (x+y):=by
 unfold Sz at *
 have:=Int.natAbs_add_le x y
 rw [Nat.pow_succ]; omega
theorem Sz.sub {m:Nat} {x y:Int} (hx:Sz m x) (hy:Sz m y):Sz (m+1) (x - y):=by
 rw [Int.sub_eq_add_neg]; exact hx.add hy.neg
theorem Sz.mul {m n:Nat} {x y:Int} (hx:Sz m x) (hy:Sz n y):Sz (m+n) (x * y):=by
 unfold Sz at *
 rw [Int.natAbs_mul,Nat.pow_add]
 exact Nat.mul_lt_mul'' hx hy
theorem Sz.le {m:Nat} {x y:Int} (h:x.natAbs≤y.natAbs) (hy:Sz m y):Sz m x:=Nat.lt_of_le_of_lt h hy
theorem Sz.ediv {m:Nat} {x y:Int} (hx:Sz m x):Sz m (x / y):=Sz.le (Int.natAbs_ediv_le_natAbs x y) hx
theorem Sz.abs {m:Nat} {x:Int} (hx:Sz m x):Sz m (if x < 0 then -x else x):=by split; exact hx.neg; exact hx
instance (m:Nat) (x:Int):Decidable (Sz m x):=inferInstanceAs (Decidable (x.natAbs < 2 ^ m))
theorem Sz.add' {m n:Nat} {x y:Int} (hx:Sz m x) (hy:Sz n y):Sz (max m n+1) (x+y):=(hx.mono (Nat.le_max_left m n)).add (hy.mono (Nat.le_max_right m n))
theorem Sz.sub' {m n:Nat} {x y:Int} (hx:Sz m x) (hy:Sz n y):Sz (max m n+1) (x - y):=(hx.mono (Nat.le_max_left m n)).sub (hy.mono (Nat.le_max_right m n))
theorem Sz.lit {m:Nat} {x:Int} (h:Sz m x):Sz m x:=h
theorem Sz.ok {m n:Nat} {x y:Int} (hx:Sz m x) (hy:Sz n y) (h:m+n≤134217728):IntMulOk x y:=
 PyProof.Rows.mulOk_of_bits (intBits_le_iff.mpr hx) (intBits_le_iff.mpr hy) h
theorem Sz.log {m:Nat} {x:Int} (h:Sz m x) (hm:m≤9000) (h0:x≠0):x.natAbs.log2 < 9000:=by
 have q:=(Nat.log2_lt (by omega)).mpr (show x.natAbs < 2 ^ m from h)
 omega
def tS (_ j:Int):Prop:=0 < j∧Sz 9000 j
def tV (_ j:Int):Prop:=j≠0∧Sz 9000 j
section
variable {X:Cx} {a b c:Expr} {ta tb tc:TE} {pos:Pos}
theorem tj:OpR X (binaryOp .Mult) (rI IntMulOk fun i j=> .int (i * j)):=opI fun _ _ _ _ _ _ _ hc q=> mul_int q hc
theorem qu:OpR X (binaryOp .FloorDiv) (rI tS fun i j=> .int (i / j)):=opI fun i j _ _ _ _ _ hc q=> by
 have h1:(0:Int) < j:=hc.1
 exact floordiv_int (by omega) (by rw [Int.fdiv_eq_ediv_of_nonneg i (by omega)]; exact q) (.inl (PyProof.noPylong_of_log2 (hc.2.log (by decide) (by omega))))
theorem qo:OpR X (binaryOp .FloorDiv) (rI tV fun i j=> .int (i.fdiv j)):=opI fun i j _ _ _ _ _ hc q=>
 floordiv_int hc.1 q (.inl (PyProof.noPylong_of_log2 (hc.2.log (by decide) hc.1)))
theorem we {x:Str} {n:String} {pos:Pos} (hg:Gl X x) (hm:X.mg x=none) (hv:bootBuiltins x=some (.type n)) (hn:x≠"__name__":=by decide) (hd:(x==("__debug__":Str))=false:=by decide):PE X (.Name x pos) (tC (.ty n)):=
 rH hg hm hv rfl hn hd
end
section
variable {X:Cx}
theorem kF:bQ X (.type "int") (fun xs H Q=> ∃ k,xs=[.bl k]∧Q (.int (if k then 1 else 0)) H):=by
 intro pins s σ H xs us Q I r h
 obtain ⟨k,rfl,q⟩:=h
 exact oa pins s σ H _ us Q I r (.inr ⟨k,rfl,q⟩)
end
theorem kit_int_int (K:PySem.W.Frag):PySem.W.kitOne K (.type "int") (.type "int")=some true:=rfl
theorem kit_int_bool (K:PySem.W.Frag):PySem.W.kitOne K (.type "int") (.type "bool")=some false:=rfl
theorem kit_bool_int (K:PySem.W.Frag):PySem.W.kitOne K (.type "bool") (.type "int")=some true:=rfl
theorem kit_tuple_tuple (K:PySem.W.Frag):PySem.W.kitOne K (.type "tuple") (.type "tuple")=some true:=rfl
theorem kit_list_list (K:PySem.W.Frag):PySem.W.kitOne K (.type "list") (.type "list")=some true:=rfl
theorem kit_list_tuple (K:PySem.W.Frag):PySem.W.kitOne K (.type "list") (.type "tuple")=some false:=rfl
def Its (lo c:Int) (n:Nat):It:=⟨fun i _=> i < n,fun i H x H'=> H'=H∧x=.int (lo+(i:Nat) * c),fun i _=> n≤i⟩
theorem jI {P:Program} {w:World} {K:PySem.W.Frag} {tg:Expr} (it:Addr) (lo c:Int) (n:Nat):oF P w K tg (Its lo c n) [it] it (fun i h=> IsRangeIter h it (lo+(i:Nat) * c) ((n:Int) - (i:Nat)) c) where
 mem:=by simp
 obj:=fun i h st b hb=> by
  have e:b=it:=by simpa using hb
  subst e
  exact ⟨_,st,fun v z=> by
   have z':Data.fields _=Data.cell v:=z
   cases z'⟩
 keep:=fun i h h' st k=> k it (by simp) _ st
 item:=by
  intro X hP hw hK hc i pins s σ H E I hf st hg
  subst hP hw hK
  obtain ⟨f0,f1,f2,f3,f4,f5⟩:=hf it (by simp)
  have W:=Walks.range (prog:=X.prog) (w:=X.w) (I.ok.hd hc) it lo c n
  refine W.item i s _ _ hg st fun v h' tk hv st' kk=> ?_
  obtain ⟨t,rfl⟩:=hv
  have I1:Inv X pins σ H { s with heap:=h',toks:=tk }:=I.turned (fun b o hb e=> kk b o (by simpa using hb) e) f0 f1 f3 f4 f5
  exact ⟨_,rfl,kC (s:={ s with heap:=h',toks:=tk }) (n:="range_iterator") st' rfl rfl (by decide) ⟨.int (lo+(i:Nat) * c),H,I1,⟨t,rfl⟩,⟨rfl,rfl⟩,st',fun b hb=> (hf b hb).1⟩⟩
 done:=by
  intro X hP hw hK hc i pins s σ H E I hf st hg
  subst hP hw hK
  obtain ⟨f0,f1,f2,f3,f4,f5⟩:=hf it (by simp)
  exact wpAny_pyNext_range_end (I.ok.hd hc) st (by have:n≤i:=hg; omega) fun h' eb=> ⟨rfl,I.turned (t':=s.toks) (fun b o hb e=> eb b o hb e) f0 f1 f3 f4 f5⟩
 self:=fun _ _ _ _ _ st h=> wpAny_pyIter_rangeiter st h
def dZ (i j c:Int):Nat:=if i < j then ((j - i - 1) / c+1).toNat else 0
theorem lW {a b c:Int} (ha:-(2 ^ 60)≤a) (ha':a < 2 ^ 60) (hb:-(2 ^ 60)≤b) (hb':b < 2 ^ 60) (hc:0 < c) (hc':c < 2 ^ 60):Builtin.Range.small a b c=true:=by
 have q1:a < b→(b - a - 1) / c≤b - a - 1:=fun h=> Int.ediv_le_self _ (by omega)
 have q2:a < b→0≤(b - a - 1) / c:=fun h=> Int.ediv_nonneg (by omega) (by omega)
 unfold Builtin.Range.small Builtin.Range.rangeSize
 simp only [Builtin.Range.rangeFitsLong,Bool.and_eq_true,Bool.or_eq_true,decide_eq_true_eq,beq_iff_eq,show c > 0 from hc,if_true]
 split
 ·have:=q1 (by assumption); have:=q2 (by assumption); omega
 ·omega
section
variable {X:Cx} {tg:Expr}
def v6 (ta:TA):TI:=fun σ H R=> ta σ H fun vs H1=> ∃ i j c:Int,vs=[.int i,.int j,.int c]∧(-(2 ^ 60)≤i∧i < 2 ^ 60∧-(2 ^ 60)≤j∧j < 2 ^ 60∧0 < c∧c < 2 ^ 30)∧R (Its i c (dZ i j c)) H1
theorem ot {a b c:Expr} {ta:TA} {p pos:Pos} (hg:Gl X "range") (hm:X.mg "range"=none) (ha:PA X [a,b,c] ta) (hs:starEach [a,b,c] X.env=[(false,eval a X.env),(false,eval b X.env),(false,eval c X.env)]:=by rfl)
  (hs2:starEach [b,c] X.env=[(false,eval b X.env),(false,eval c X.env)]:=by rfl):
  PI X tg (.Call (.Name "range" p) [a,b,c] [] pos) (v6 ta):=by
 intro pins s σ H R I h
 refine Call_ (cj I hg hm boot_range (PyProof.Rows.callWith_type1 (thn (ha pos pins s σ H _ I h) fun us s1 ⟨vs,H1,I1,r1,q1⟩=> ?_) (by rw [hs,hs2]) (by rw [hs2]; rfl)))
 obtain ⟨i,j,k,e,⟨q1,q2,q3,q4,q5,q6⟩,q⟩:=q1
 subst e
 cases r1 with
 | cons r rr=>
  cases rr with
  | cons r' rr=>
   cases rr with
   | cons r'' rr=>
    cases rr
    obtain ⟨t,rfl⟩:=r
    obtain ⟨t',rfl⟩:=r'
    obtain ⟨t'',rfl⟩:=r''
    refine call_range_3 (by omega) ?_ (.inl (PyProof.noPylong_small (by omega)))
    refine wpAny_pyIter_range (IsRange.new ..) (lW q1 q2 q3 q4 q5 (by omega)) ?_
    have I2:Inv X pins σ H1 { s1 with heap:=s1.heap.push { cls:=.type "range",data:=.fields #[.int i t,.int j t',.int k t''] },toks:=s1.toks }:=I1.kept fun b o e=> Heap.get?_push_of_some _ e
    refine ⟨(s1.heap.push { cls:=.type "range",data:=.fields #[.int i t,.int j t',.int k t''] }).objs.size,[(s1.heap.push { cls:=.type "range",data:=.fields #[.int i t,.int j t',.int k t''] }).objs.size],_,_,H1,rfl,
     I2.kept (t':=s1.toks) fun b o e=> Heap.get?_push_of_some _ e,jI _ i k (dZ i j k),?_,fun b hb=> ?_,q⟩
    ·have e1:i+((0:Nat):Int) * k=i:=by simp
     have e2:((dZ i j k:Nat):Int) - ((0:Nat):Int)=Builtin.Range.rangeSize i j k:=by
      unfold dZ Builtin.Range.rangeSize
      rw [if_pos (show k > 0 from q5)]
      by_cases hij:i < j
      ·rw [if_pos hij,if_pos hij]
       have:0≤(j - i - 1) / k:=Int.ediv_nonneg (by omega) (by omega)
       omega
      ·rw [if_neg hij,if_neg hij] <;> omega
     show IsRangeIter _ _ (i+((0:Nat):Int) * k) (((dZ i j k:Nat):Int) - ((0:Nat):Int)) k
     rw [e1,e2]
     exact Heap.get?_push_size _ rfl
    ·have e:b=(s1.heap.push { cls:=.type "range",data:=.fields #[.int i t,.int j t',.int k t''] }).objs.size:=by simpa using hb
     subst e
     exact I2.fpOk (Nat.le_refl _) (I2.hok.fresh (Nat.le_refl _))
end
theorem aQ {H:Hp} {p:Addr} (h:H p=none) (o:HO):aB H (upd H p o):=fun b u q=> by rw [aK (bg q h)]; exact q
theorem aB.put {H H':Hp} {l:Addr} (e:aB H H') (h:H l=none) (o:HO):aB H (upd H' l o):=fun b u q=> by rw [aK (bg q h)]; exact e b u q
theorem aB.tup {K:PySem.W.Frag} {H H':Hp} {a:Addr} {xs:List V} (e:aB H H') (h:SqT K H a xs):SqT K H' a xs:=by
 rcases h with (h | ⟨o,h⟩) | h
 ·exact .inl (.inl (e _ _ h))
 ·exact .inl (.inr ⟨o,e _ _ h⟩)
 ·exact .inr h
end L2
namespace L2
open PySem PySem.W PySem.Calls PySem.Spec PyProof.Rows
theorem kr {ns:List Int} (h:WData.layableAll [WData.list (ns.map WData.int)]=true):∀ n∈ns,Sz 1048576 n:=by
 intro n hn
 have h1:=(PySem.W.layableW_arg h) _ (List.mem_singleton.mpr rfl)
 have h2:=PySem.W.layableW_item h1 (WData.int n) (List.mem_map.mpr ⟨n,hn,rfl⟩)
 have h3:=(PySem.W.layableW_iff.mp h2).2.2
 have h4:Builtin.Int.intBits n≤1048576:=by simpa only [WData.weight,Builtin.Int.intBits] using h3
 exact intBits_le_iff.mp h4
theorem jx {l:PySem.W.OpenLaw} {n:Nat} {q:Program} {loose:List Str} {XP:(Str→Option Value)→Heap→Prop} {YP:World→Heap→Prop} {d:DefRec}
  (hn:l.most=some n) (hdf:d.params.defaults=[])
  (call:∀ (w:World) (s₀ s₁:Shared) (mg mb:Str→Option Value) (fa:Addr) (o:Obj) (pm cd doc:Value) (a:Addr) (vs:List Value) (ns:List Int),
   PySem.W.Ground q loose [] XP w s₀ mg mb s₁.heap→YP w s₁.heap→
   s₁.heap.get? fa=some o→o.data=.func (docDef d.name d.params d.body d.scope pm cd doc)→s₁.heap.CodeRec cd d.name→mg d.name=some (.ref fa)→
   s₁.heap.get? a=some { cls:=.type "list",data:=.seq vs.toArray }→IntsAre vs ns→ns.length≤n→(∀ m∈ns,Sz 1048576 m)→s₁.gens=#[]→
   codeAny (model l.prog w) callerA (.call (.ref fa) ⟨[.ref a],[]⟩) (fun r s'=> r=.ok (.ret (.bool true))∧OldK s₁.heap s'.heap∧s'.os=s₁.os∧AllBare s'.gens) s₁):
  PySem.W.WalkO q loose XP YP l.row.toRowW d [] (fun f vs=> PySem.call f vs):=by
 intro w s₀ s₁ mg mb G Y fa o pm cd doc dV kV ho hd hcd hD hmg hg args vals as hpre hlay hrd hwl hlo
 obtain rfl:dV=.none:=PySem.W.Dflts.none hD hdf
 obtain rfl:kV=.none:=PySem.W.Dflts.noKw hD
 obtain ⟨a,vs,ns,rfl,rfl,hobj,hints,hlen⟩:=Att.script_of hn hpre hwl
 refine PySem.W.enter_call (codeAny_mono (call w s₀ s₁ mg mb fa o pm cd doc a vs ns G Y ho (PySem.W.fd_plain hd) hcd hmg hobj hints hlen (kr hlay) hg) fun r s' hq=> ?_)
 obtain ⟨rfl,h2,h3,h4⟩:=hq
 exact ⟨.inl ⟨.bool true,.bool true,[],rfl,fun _=> rfl,.bool true,Att.post_true l _,fun _=> ⟨List.Pairwise.nil,fun _ hm=> (nomatch hm)⟩⟩,h2,h3,h4⟩
theorem walk_ofB {l:PySem.W.OpenLaw} {n k:Nat} {q:Program} {loose:List Str} {XP:(Str→Option Value)→Heap→Prop} {YP:World→Heap→Prop} {d:DefRec} {K:Params→PySem.W.Frag} {CX:CXT} {sp:PySem.W.Frag→Sp} {x:Str}
  (hn:l.most=some n) (hn2:n≤sizeLine) (hdf:d.params.defaults=[]) (hr:cF k callerA)
  (hY:∀ (w:World) (h:Heap),YP w h→(K w.params).In h)
  (F:∀ (w:World) (mg:Str→Option Value) (fa:Addr) (h:Heap),(K w.params).In h→h.Ns mainGlobals mg→mg d.name=some (.ref fa)→
   ∃ fd:FuncData,(∀ (s:Shared) (u:Value),BindsTo s fd ⟨[u],[]⟩ [(x,u)])∧
    ∀ base:Heap,(K w.params).In base→base.Ns mainGlobals mg→aR l.prog w (K w.params) mg base CX k fa fd [x] (sp (K w.params)))
  (hsp:∀ (K:PySem.W.Frag) (H:Hp) (a:Addr) (ns:List Int),ns.length≤n→(∀ m∈ns,Sz 1048576 m)→rV H→SqL K H a (ns.map V.int)→sp K [.ref a] H (fun v _=> v=.bl true) fun _ _ _=> False)
  (hCX:∀ (H:Hp) (s:Shared) (e:Value) (s':Shared),CX [] H s (fun _ _ _=> False) e s'→False):
  PySem.W.WalkO q loose XP YP l.row.toRowW d [] (fun f vs=> PySem.call f vs):=by
 refine jx hn hdf fun w s₀ s₁ mg mb fa o pm cd doc a vs ns G Y ho hd hcd hmg hobj hints hlen hbits hg=> ?_
 have KX:=hY w _ Y
 obtain ⟨fd,hb,hF⟩:=F w mg fa _ KX G.T.g hmg
 exact qO KX G.T.g G.T.b G.T.builtins G.T.nolimit hg hobj hints (Nat.le_trans hlen hn2) hr hF hb (fun H hO hS=> hsp _ H a ns hlen hbits hO hS) fun H e s'=> hCX H s₁ e s'
end L2
namespace L2
theorem hW {α:Type} {xs:List α} {k:Int} {i:Nat} {v:α} (e:k=(i:Int)) (h:xs[i]?=some v):atI xs k=some v:=by subst e; exact mQ h
end L2
namespace L2
theorem Sz.natle {m:Nat} {x y:Int} (hy:Sz m y) (h:x.natAbs≤y.natAbs):Sz m x:=Sz.le h hy
end L2
namespace L2
open PySem PySem.Spec PyProof.Rows
abbrev aw (X:Cx) (scope:Scope) (cl:List (Str×Addr)) (C:Addr) (s:Shared) (H:Hp) (fp:List Addr):Cx:=
 { X with s₀:=s,H₀:=H,env:=compEnvC scope cl C X.env,outer:=X.stack,ex:=fp,fn:=fun _=> false,pn:=[],xe:=fun _ _=> False }
def mask:List Nat→St→St
 | [],σ=> σ
 | i::is,σ=> mask is (σ.set i none)
theorem dq:∀ (is:List Nat) (σ:St),(mask is σ).length=σ.length
 | [],_=> rfl
 | i::is,σ=> by rw [mask,dq is]; simp
theorem fk:∀ (is:List Nat) (σ:St) (j:Nat) (v:V),(mask is σ)[j]?=some (some v)→σ[j]?=some (some v)∧j ∉ is
 | [],σ,j,v,h=> ⟨h,by simp⟩
 | i::is,σ,j,v,h=> by
  obtain ⟨h1,h2⟩:=fk is _ j v h
  by_cases e:i=j
  ·subst e
   rw [List.getElem?_set] at h1
   simp at h1
  ·rw [List.getElem?_set_ne e] at h1
   exact ⟨h1,by simp [Ne.symm e,h2]⟩
structure cH (X:Cx) (scope:Scope) (cl:List (Str×Addr)) (is:List Nat):Prop where
 clos:closureFor scope X.env=pure cl
 cell:∀ y∈scope.names,y.2≠.cell
 kind:scope.kind=.function
 names:∀ y∈scope.names,y.2=.local→scope.names.lookup y.1=some .local
 cls:∀ x c,cl.lookup x=some c→X.env.cells.lookup x=some c
 free:∀ x,((relabel scope X.env).names.lookup x=some .cell∨(relabel scope X.env).names.lookup x=some .free)→Vis X.env.scope x∧X.env.scope.names.lookup x≠some .local∧∃ c,cl.lookup x=some c
 own:∀ i x,X.N[i]?=some x→(relabel scope X.env).names.lookup x=some .local→i∈is
def pR (J:It) (is:List Nat) (g:TG) (te:TE) (σ:St) (H1:Hp) (l:Addr) (Q:VK):Prop:=
 ∃ W:Nat→Nat→Hp→Prop,(∃ m,W 0 m (upd H1 l (.lst [])))∧∀ i m H2,W i m H2→
  (J.stop i H2∧Q (.ref l) H2)∨(J.go i H2∧∀ x H3,J.yld i H2 x H3→g x (mask is σ) H3 fun σ4 H4=> te σ4 H4 fun y H5=>
   (∀ (j:Nat) (v:V),(mask is σ)[j]?=some (some v)→σ4[j]?=some (some v))∧∃ vs,H5 l=some (.lst vs)∧vs.length < sizeLine∧∃ m',m' < m∧W (i+1) m' (upd H5 l (.lst (vs++[y]))))
def tT (is:List Nat) (g:TG) (te:TE) (σ:St) (Q:VK) (J:It) (H1:Hp):Prop:=∀ l,H1 l=none→pR J is g te σ H1 l Q
def q0 (is:List Nat) (wi:TI) (g:TG) (te:TE):TE:=fun σ H Q=> wi σ H (tT is g te σ Q)
section
variable {X:Cx} {pins:List (Addr×Obj)} {σ:St} {H:Hp} {s:Shared}
theorem fV {scope:Scope} {cl:List (Str×Addr)} {is:List Nat} {fp:List Addr} {h₁:Heap} {m:Str→Option Value} {t':Nat} (I:Inv X pins σ H s) (B:cH X scope cl is) (hf:∀ b∈fp,gN X pins H b) (hfl:∀ b∈fp,b < s.heap.objs.size)
  (hn:h₁.Ns s.heap.objs.size m) (hk:∀ b o,s.heap.get? b=some o→h₁.get? b=some o):
  Inv (aw X scope cl s.heap.objs.size s H fp) [] (mask is σ) H { s with heap:=h₁,toks:=t' }:=by
 refine ⟨⟨I.ok.mod,B.kind,I.ok.glob,I.ok.blt,Nat.le_refl _,fun x y c h1 h2=> I.ok.inj x y c (B.cls x c h1) (B.cls y c h2),fun x hx=> (B.free x hx).2.2,fun x c h=> (by cases h),I.ok.hd,I.ok.frames,.inl rfl,fun b hb=> ⟨Nat.ne_of_lt (hfl b hb),fun x c e=> (hf b hb).2.2.2.2.1 x c (B.cls x c e)⟩,
  I.bs,Nat.le_trans I.ok.bsz I.sz,fun b o e hb=> ?_,fun b hb z=> ?_,I.stack,I.stkFree⟩,rfl,I.bare,Un.kept hk,⟨m,hn,fun i x v h1 h2 h3=> ?_⟩,fun x c e=> ?_,I.hok.fresh (Nat.le_refl _),fun x c e=> I.freeC x c (B.cls x c e),fun p hp=> absurd (show p∈([]:List (Addr×Obj)) from hp) (by simp),I.hok.kept hk,?_⟩
 ·rcases (hf b hb).2.2.2.1 with z | z
  ·exact I.ok.noex b o e z
  ·exact absurd (Nat.lt_of_lt_of_le (Heap.lt_size e) (Nat.le_trans I.ok.bsz z)) (Nat.lt_irrefl _)
 ·rcases List.mem_cons.mp (I.stkSub b z) with e | e
  ·exact (hf b hb).2.1 e
  ·exact (hf b hb).2.2.1 e
 ·obtain ⟨e2,ni⟩:=fk is σ i v h2
  have h3':(relabel scope X.env).names.lookup x=some .local∨(relabel scope X.env).names.lookup x=some .cell∨(relabel scope X.env).names.lookup x=some .free:=h3
  rcases h3' with z | z
  ·exact absurd (B.own i x h1 z) ni
  ·obtain ⟨hv,hnl,c,hc⟩:=B.free x z
   obtain ⟨m0,_,hl⟩:=I.loc
   obtain ⟨u,r,l⟩:=hl i x v h1 e2 hv
   refine ⟨u,r,.inr ⟨z,c,hc,?_⟩⟩
   rcases l with ⟨k,_⟩ | ⟨_,c',hc',o,ho,hd⟩
   ·exact absurd k hnl
   ·have ec:=B.cls x c hc
    rw [hc'] at ec
    cases ec
    exact ⟨o,hk _ _ ho,hd⟩
 ·obtain ⟨v,o,ho,hd⟩:=I.cell x c (B.cls x c e)
  exact ⟨v,o,hk _ _ ho,hd⟩
 ·show (mask is σ).length=X.N.length
  rw [dq]; exact I.len
theorem kh {elt iter tg:Expr} {scope:Scope} {cl:List (Str×Addr)} {pos pos0:Pos} {is:List Nat} {wi:TI} {g:TG} {te:TE} {use:Option (Value→Sem Unit)} {Q0:VK} {Q:Value→Shared→Prop} (hc:X.calm=true) (B:cH X scope cl is)
  (hi:PI X tg iter wi) (hg:∀ C s H fp,PG (aw X scope cl C s H fp) tg g) (he:∀ C s H fp,PE (aw X scope cl C s H fp) elt te) (hs:∀ x,foldedSetIterable iter X.env x=pure x)
  (I:Inv X pins σ H s) (h:q0 is wi g te σ H Q0)
  (fin:∀ (l C:Addr) (H':Hp) (s':Shared) (m:Str→Option Value),Inv X pins σ H' s'→s'.heap.Ns C m→H' C=none→C≠X.env.locals→C ∉ X.fs→X.s₀.heap.objs.size≤C→(∀ x c,X.env.cells.lookup x=some c→c≠C)→(∀ p∈X.pn++pins,p.1≠C)→Q0 (.ref l) H'→
   compPost (model X.prog X.w) X.A X.xe use Q (.ref l) C (.ok .next) s'):
  wpAny (model X.prog X.w) X.A (comprehension (.ListComp elt [⟨tg,iter,[],0⟩] scope pos) scope X.env pos0 (newList []) false (eval iter X.env) use) Q X.xe s:=by
 refine wpAny_comprehension_free rfl hs B.clos B.kind B.names (thn (hi pins s σ H _ I h) fun xv s1 h1=> thn h1 fun itv s2 h2=> ?_)
 obtain ⟨it,fp,tn,J,H2,e,I2,T,st2,f2,R⟩:=h2
 subst e
 refine wpAny_newObj_type (wpAny_newFunctionEnv B.cell (by intro y hy; simp at hy) (fun h₁ hns hsb=> ?_) B.kind)
 have hl:H2 s2.heap.objs.size=none:=I2.hok.fresh (Nat.le_refl _)
 obtain ⟨W,⟨m0,w0⟩,turn⟩:=R s2.heap.objs.size hl
 have I3:Inv X pins σ (upd H2 s2.heap.objs.size (.lst [])) { s2 with heap:=s2.heap.push { cls:=.type "list",dict:=none,data:=.seq ([]:List Value).toArray } }:=
  I2.laid (t':=s2.toks) (o:=.lst []) (fun b u e=> Heap.get?_push_of_some _ e) (Nat.le_refl _) ⟨Nat.zero_le _,[],0,.nil,Heap.get?_push_size _ rfl⟩
 have hfl:∀ b∈fp,b < s2.heap.objs.size:=fun b hb=> let ⟨o,e,_⟩:=T.obj 0 _ st2 b hb; Heap.lt_size e
 have f3:∀ b∈fp,gN X pins (upd H2 s2.heap.objs.size (.lst [])) b:=fun b hb=> ⟨by rw [aK (Nat.ne_of_lt (hfl b hb))]; exact (f2 b hb).1,(f2 b hb).2⟩
 have kp:∀ b o,(s2.heap.push { cls:=.type "list",dict:=none,data:=.seq ([]:List Value).toArray }).get? b=some o→h₁.get? b=some o:=fun b o e=>
  hsb.extBut b o (Nat.ne_of_lt (Heap.lt_size e)) (Heap.get?_push_of_some _ e)
 have st4:tn 0 h₁:=T.keep 0 _ _ st2 fun b _ o e=> kp b o (Heap.get?_push_of_some _ e)
 have hfl3:∀ b∈fp,b < (s2.heap.push { cls:=.type "list",dict:=none,data:=.seq ([]:List Value).toArray }).objs.size:=fun b hb=> by
  rw [Heap.size_push]; exact Nat.lt_succ_of_lt (hfl b hb)
 have I4:=fV (t':=s2.toks+([]:List (Str×Value)).length) I3 B f3 hfl3 hns kp
 have loop:codeAny (model X.prog X.w) X.A (.compLoop (.ListComp elt [⟨tg,iter,[],0⟩] scope pos) 0 (.ref it) (.ref s2.heap.objs.size) (compEnvC scope cl (s2.heap.push { cls:=.type "list",dict:=none,data:=.seq ([]:List Value).toArray }).objs.size X.env))
   (compPost (model X.prog X.w) X.A X.xe use Q (.ref s2.heap.objs.size) (s2.heap.push { cls:=.type "list",dict:=none,data:=.seq ([]:List Value).toArray }).objs.size)
   { s2 with heap:=h₁,toks:=s2.toks+([]:List (Str×Value)).length }:=by
  generalize hs3:({ s2 with heap:=s2.heap.push { cls:=.type "list",dict:=none,data:=.seq ([]:List Value).toArray } }:Shared)=s3 at *
  have hC:(s2.heap.push { cls:=.type "list",dict:=none,data:=.seq ([]:List Value).toArray }).objs.size=s3.heap.objs.size:=by rw [← hs3]
  rw [hC]
  have hstat:∀ {H':Hp},(∀ b∈fp,H' b=none)→∀ b∈fp,gN (aw X scope cl s3.heap.objs.size s3 (upd H2 s2.heap.objs.size (.lst [])) fp) [] H' b:=fun hn b hb=>
   ⟨hn b hb,(I4.ok.exf b hb).1,I4.ok.exfs b hb,.inl hb,fun x c e=> (I4.ok.exf b hb).2 x c e,fun p hp=> absurd (show p∈([]:List (Addr×Obj)) from hp) (by simp)⟩
  have back:∀ {σ':St} {H':Hp} {pp:List (Addr×Obj)} {s':Shared},Inv (aw X scope cl s3.heap.objs.size s3 (upd H2 s2.heap.objs.size (.lst [])) fp) pp σ' H' s'→Inv X pins σ H' s':=fun I'=>
   I3.call' (ch:=fp) I'.os I'.base I'.hok I'.bare fun b hb=> ⟨(f3 b hb).2.2.2.1,(f3 b hb).2.1,(f3 b hb).2.2.2.2.1,(f3 b hb).2.2.2.2.2⟩
  refine codeAny_loop rfl (fun n s'=> ∃ i H',Inv (aw X scope cl s3.heap.objs.size s3 (upd H2 s2.heap.objs.size (.lst [])) fp) [] (mask is σ) H' s'∧tn i s'.heap∧(∀ b∈fp,H' b=none)∧W i n H') ?_ m0 ⟨0,_,(by subst hs3; exact I4),st4,fun b hb=> (f3 b hb).1,w0⟩
  rintro n s5 ⟨i,H5,I5,st5,fr5,w5⟩
  show wpAny _ _ ((compTurn (.ListComp elt [⟨tg,iter,[],0⟩] scope pos) 0 (.ref it) (.ref s2.heap.objs.size) (compEnvC scope cl s3.heap.objs.size X.env)).onRaise (fun x=> do noteFrame x (compEnvC scope cl s3.heap.objs.size X.env); theTreesLotGoes x)) _ _ s5
  refine wpAny_noted ?_
  rw [compTurn_list1]
  refine wpAny_bind (wpAny_standAt (wpAny_bind ?_))
  rcases turn i n H5 w5 with ⟨stop,q⟩ | ⟨go,step⟩
  ·refine thn (T.done (aw X scope cl s3.heap.objs.size s3 (upd H2 s2.heap.objs.size (.lst [])) fp) rfl rfl rfl hc i [] s5 _ H5 _ I5 (hstat fr5) st5 stop) fun r s6 ⟨hr,I6⟩=> ?_
   subst hr
   refine wpAny_pure ?_
   obtain ⟨m6,hn6,_⟩:=I6.loc
   have hCn:∀ b,b < s3.heap.objs.size→b≠s3.heap.objs.size:=fun b hb=> Nat.ne_of_lt hb
   refine fin _ s3.heap.objs.size H5 s6 m6 (back I6) hn6 I6.free (Nat.ne_of_gt I3.lt) (I3.nofs (Nat.le_refl _)) I3.sz (fun x c e=> ?_) (fun p hp=> ?_) q
   ·obtain ⟨v,z⟩:=I3.cell x c e
    exact Nat.ne_of_lt z.lt
   ·exact Nat.ne_of_lt (Heap.lt_size (I3.pin p hp).1)
  ·refine thn (T.item (aw X scope cl s3.heap.objs.size s3 (upd H2 s2.heap.objs.size (.lst [])) fp) rfl rfl rfl hc i [] s5 _ H5 _ I5 (hstat fr5) st5 go) fun r s6 ⟨u,hr,h6⟩=> ?_
   subst hr
   refine wpAny_bind (thn h6 fun _ s7 ⟨x,H7,I7,r7,y7,st7,fr7⟩=> ?_)
   have I7':=I7.pinned (hstat fr7) (T.obj _ _ st7)
   refine wpAny_bind (wpAny_mono (hg _ _ _ _ _ s7 (mask is σ) H7 x u _ I7' r7 (step x H7 y7)) (fun _ s8 ⟨σ8,H8,I8,q8⟩=> ?_) fun _ _ z=> z.elim)
   refine wpAny_bind (wpAny_bind (wpAny_mono (he _ _ _ _ _ s8 σ8 H8 _ I8 q8) (fun v s9 ⟨y,H9,I9,r9,sub,vs,hl9,hz,m',hm,w'⟩=> ?_) fun _ _ z=> z.elim))
   refine wpAny_bind (wpAny_mono (fB (X:=aw X scope cl s3.heap.objs.size s3 (upd H2 s2.heap.objs.size (.lst [])) fp) _ s9 σ8 H9 (.ref s2.heap.objs.size) [y] (.ref s2.heap.objs.size) [v] (fun _ H'=> H'=upd H9 s2.heap.objs.size (.lst (vs++[y]))) I9 rfl (.cons r9 .nil) ⟨_,vs,y,rfl,rfl,hl9,hz,rfl⟩) (fun z s10 ⟨zv,H10,I10,_,e10⟩=> ?_) fun _ _ z=> z.elim)
   subst e10
   refine wpAny_pure (wpAny_pure ⟨rfl,m',hm,i+1,_,(I10.unpinned (pins:=[])).weak (by rw [I10.len,dq,I.len]) sub,T.keep _ _ _ st7 fun b hb o e=> (I10.pin (b,o) (List.mem_append_right _ (List.mem_append_right _ (cG hb e)))).1,fun b hb=> ?_,w'⟩)
   obtain ⟨o,e,d⟩:=T.obj _ _ st7 b hb
   exact (I10.pin (b,o) (List.mem_append_right _ (List.mem_append_right _ (cG hb e)))).2.1
 exact codeAny_compStart_list loop (T.self X.A 0 _ _ _ st4 loop)
theorem rT {elt iter tg:Expr} {scope:Scope} {cl:List (Str×Addr)} {pos:Pos} {is:List Nat} {wi:TI} {g:TG} {te:TE} (hc:X.calm=true) (B:cH X scope cl is)
  (hi:PI X tg iter wi) (hg:∀ C s H fp,PG (aw X scope cl C s H fp) tg g) (he:∀ C s H fp,PE (aw X scope cl C s H fp) elt te) (hs:∀ x,foldedSetIterable iter X.env x=pure x:=by intro _; rfl):
  PE X (.ListComp elt [⟨tg,iter,[],0⟩] scope pos) (q0 is wi g te):=by
 intro pins s σ H Q I h
 rw [eval_ListComp]
 refine kh (use:=none) hc B hi hg he hs I h fun l C H' s' m I' hn h1 h2 h3 h4 h5 h6 q=> ⟨m,hn,fun h' hsb=> ?_⟩
 exact ⟨.ref l,H',I'.turned (t':=s'.toks) (fun b o hb e=> hsb.extBut b o hb e) h1 (Ne.symm h2.symm) (.inr h4) h5 h6,rfl,q⟩
end
end L2
namespace L2
open PySem PySem.Spec PyProof.Rows
section
variable {X:Cx}
theorem kO {elt iter tg:Expr} {scope:Scope} {cl:List (Str×Addr)} {pos spos py:Pos} {y:Str} {j:Nat} {is:List Nat} {wi:TI} {g:TG} {te:TE} (hc:X.calm=true) (hN:X.N.Nodup) (hj:X.N[j]?=some y) (hy:Loc X.env.scope y) (B:cH X scope cl is)
  (hi:PI X tg iter wi) (hg:∀ C s H fp,PG (aw X scope cl C s H fp) tg g) (he:∀ C s H fp,PE (aw X scope cl C s H fp) elt te) (hs:∀ x,foldedSetIterable iter X.env x=pure x:=by intro _; rfl)
  (hsw:swapsWith (.ListComp elt [⟨tg,iter,[],0⟩] scope pos) (some (.Name y py)) spos.line X.env=pure true:=by rfl) (hf:X.fn y=true∨X.env.scope.names.lookup y=some .local:=by first | exact .inl rfl | exact .inr rfl | assumption):
  PS X (.Assign [.Name y py] (.ListComp elt [⟨tg,iter,[],0⟩] scope pos) spos) (vH (q0 is wi g te) (kc j)):=by
 intro pins s σ H D I h
 rw [exec_Assign_Name_used _ _ _ _ hsw]
 refine wpAny_bind (wpAny_standAt (wpAny_bind ?_))
 show wpAny _ X.A (do let _ ← comprehension (.ListComp elt [⟨tg,iter,[],0⟩] scope pos) scope X.env _ (newList []) false (eval iter X.env) (some (assign (.Name y py) X.env))) _ _ s
 refine wpAny_bind (wpAny_mono (kh (Q0:=fun v H'=> D.nx (σ.set j (some v)) H') (use:=some (assign (.Name y py) X.env)) (Q:=fun _ s'=> SP X pins D .next s') hc B hi hg he hs I h fun l C H' s' m I' hn h1 h2 h3 h4 h5 h6 q=> ?_) (fun _ s' hq=> wpAny_pure (wpAny_pure hq)) fun _ _ e=> e)
 show wpAny _ X.A (assign (.Name y py) X.env (.ref l)) _ _ _
 refine wpAny_assign_Name (fK I' hN hj hy (v:=.ref l) rfl (fun s2 I2 ⟨a,hsb,ha⟩=> ?_) hf)
 have hCa:C≠a:=by
  rcases ha with e | e
  ·rw [e]; exact h2
  ·exact Ne.symm (h5 _ _ e)
 refine ⟨m,hn.sameBut hsb hCa,fun h' hsb'=> ⟨_,H',I2.turned (t':=s2.toks) (fun b o hb e=> hsb'.extBut b o hb e) h1 h2 (.inr h4) h5 h6,q⟩⟩
end
section
variable {prog:Program} {w:World} {A:Around} {E:Value→Shared→Prop}
end
section
variable {X:Cx} {pos:Pos}
end
end L2
namespace L2
open PySem PySem.Spec PyProof.Rows
def goC (cells:List (Str×Addr)):List (Str×NameKind)→List (Str×Addr)→List (Str×Addr)
 | [],acc=> acc
 | (n,k)::r,acc=> goC cells r (if (k==.free)=true then (n,(cells.lookup n).getD 0)::acc else acc)
theorem lG {env:Env} {scope:Scope} (h:∀ y∈scope.names,y.2=.free→(env.cells.lookup y.1).isSome=true):closureFor scope env=pure (goC env.cells scope.names []):=by
 have all:∀ (names:List (Str×NameKind)) (acc:List (Str×Addr)),(∀ y∈names,y.2=.free→(env.cells.lookup y.1).isSome=true)→
   (forIn names acc (fun x cs=> match x with | (name,kind)=> if (kind==.free)=true then (do let c ← cellOf env name; pure (ForInStep.yield ((name,c)::cs))) else pure (ForInStep.yield cs)):Sem (List (Str×Addr)))=pure (goC env.cells names acc):=by
  intro names
  induction names with
  | nil=> intro acc _; rfl
  | cons y r ih=>
   intro acc hy
   obtain ⟨n,k⟩:=y
   rw [List.forIn_cons]
   by_cases hk:k=.free
   ·subst hk
    have:=hy (n,.free) List.mem_cons_self rfl
    obtain ⟨c,hc⟩:=Option.isSome_iff_exists.mp this
    have e:cellOf env n=pure c:=by unfold cellOf; rw [hc]
    simp only [beq_self_eq_true,if_true,e,pure_bind]
    rw [ih _ fun y hy'=> hy y (List.mem_cons_of_mem _ hy')]
    simp only [goC,beq_self_eq_true,if_true,hc,Option.getD_some]
   ·have hb:(k==NameKind.free)=false:=by simpa using hk
    simp only [hb,Bool.false_eq_true,if_false,pure_bind]
    rw [ih _ fun y hy'=> hy y (List.mem_cons_of_mem _ hy')]
    simp only [goC,hb,Bool.false_eq_true,if_false]
 simp only [closureFor]
 have:=all scope.names [] h
 simpa using this
theorem m_ {cells:List (Str×Addr)}:∀ (names:List (Str×NameKind)) (acc:List (Str×Addr)),(∀ y∈names,y.2=.free→(cells.lookup y.1).isSome=true)→(∀ x c,acc.lookup x=some c→cells.lookup x=some c)→
  ∀ x c,(goC cells names acc).lookup x=some c→cells.lookup x=some c
 | [],_,_,ha,x,c,h=> ha x c h
 | (n,k)::r,acc,hy,ha,x,c,h=> by
  rw [goC] at h
  refine m_ r _ (fun y hy'=> hy y (List.mem_cons_of_mem _ hy')) (fun x' c' e=> ?_) x c h
  by_cases hk:k=.free
  ·subst hk
   simp only [beq_self_eq_true,if_true] at e
   rw [List.lookup_cons] at e
   by_cases hx:(x'==n)=true
   ·rw [hx] at e
    have hx':x'=n:=by simpa using hx
    obtain ⟨c2,hc2⟩:=Option.isSome_iff_exists.mp (hy (n,.free) List.mem_cons_self rfl)
    simp only [hc2,Option.getD_some] at e
    rw [hx',hc2]; exact e
   ·have:(x'==n)=false:=by simpa using hx
    rw [this] at e
    exact ha x' c' e
  ·have hb:(k==NameKind.free)=false:=by simpa using hk
   rw [hb] at e
   exact ha x' c' e
theorem mW {cells:List (Str×Addr)} {x:Str}:∀ (names:List (Str×NameKind)) (acc:List (Str×Addr)),((x,NameKind.free)∈names∨∃ c,acc.lookup x=some c)→∃ c,(goC cells names acc).lookup x=some c
 | [],_,h=> by
  rcases h with h | h
  ·cases h
  ·exact h
 | (n,k)::r,acc,h=> by
  rw [goC]
  refine mW r _ ?_
  rcases h with h | ⟨c,h⟩
  ·rcases List.mem_cons.mp h with e | h
   ·cases e
    right
    simp
   ·exact .inl h
  ·right
   by_cases hk:k=.free
   ·subst hk
    simp only [beq_self_eq_true,if_true]
    rw [List.lookup_cons]
    cases hx:x==n with
    | true=> exact ⟨_,rfl⟩
    | false=> exact ⟨c,h⟩
   ·have hb:(k==NameKind.free)=false:=by simpa using hk
    rw [hb]; exact ⟨c,h⟩
theorem cn {env:Env} {x:Str} {kd:NameKind}:∀ {names:List (Str×NameKind)},
  (names.map fun (n,k)=> if (k==NameKind.free && env.scope.kind==.function && env.kindOf n==some .cell) then (n,NameKind.cell) else (n,k)).lookup x=some kd→names.lookup x=some kd∨(kd=.cell∧names.lookup x=some .free)
 | [],h=> by simp at h
 | (n,k)::r,h=> by
  have ih:=@cn env x kd r
  change List.lookup x ((if (k==NameKind.free && env.scope.kind==.function && env.kindOf n==some .cell)=true then (n,NameKind.cell) else (n,k))::_)=_ at h
  by_cases hc:(k==NameKind.free && env.scope.kind==.function && env.kindOf n==some .cell)=true
  ·rw [if_pos hc] at h
   rw [List.lookup_cons] at h ⊢
   cases hx:x==n with
   | true=>
    rw [hx] at h
    have hk:k=.free:=by
     have:=(Bool.and_eq_true_iff.mp (Bool.and_eq_true_iff.mp hc).1).1
     simpa using this
    subst hk
    have h':some NameKind.cell=some kd:=h
    cases h'
    exact .inr ⟨rfl,rfl⟩
   | false=> rw [hx] at h; exact ih h
  ·rw [if_neg hc] at h
   rw [List.lookup_cons] at h ⊢
   cases hx:x==n with
   | true=> rw [hx] at h; exact .inl h
   | false=> rw [hx] at h; exact ih h
def ph (scope fscope:Scope) (N:List Str) (is:List Nat):Bool:=
 scope.names.all (fun y=> y.2 !=.cell) && scope.names.all (fun y=> y.2 !=.local || scope.names.lookup y.1==some .local) && scope.names.all (fun y=> y.2 !=.free || fscope.names.lookup y.1==some .cell) &&
  (List.range N.length).all fun i=> match N[i]? with | some x=> scope.names.lookup x !=some .local || is.contains i | none=> true
theorem blk {X:Cx} {scope:Scope} (fscope:Scope) (N:List Str) (is:List Nat) (hNN:X.N=N) (hs:X.env.scope=fscope) (hcs:X.env.cells=cellsFrom (X.env.locals+1) fscope.names []) (hk:scope.kind=.function) (h:ph scope fscope N is=true):cH X scope (goC X.env.cells scope.names []) is:=by
 subst hNN
 unfold ph at h
 simp only [Bool.and_eq_true,List.all_eq_true] at h
 obtain ⟨⟨⟨h1,h2⟩,h3⟩,h4⟩:=h
 have f1:∀ y∈scope.names,y.2=.free→fscope.names.lookup y.1=some .cell:=fun y hy e=> by
  have:=h3 y hy
  simp only [Bool.or_eq_true,bne_iff_ne,ne_eq,beq_iff_eq] at this
  exact this.resolve_left fun z=> z e
 have f2:∀ y∈scope.names,y.2=.free→(X.env.cells.lookup y.1).isSome=true:=fun y hy e=> by
  rw [hcs]; exact PySem.W.cellsFrom_some _ _ _ (.inl (f1 y hy e))
 have nc:∀ y∈scope.names,y.2≠.cell:=fun y hy=> by have:=h1 y hy; simpa using this
 refine ⟨lG f2,nc,hk,fun y hy e=> ?_,m_ _ _ f2 (fun x c e=> by simp at e),fun x hx=> ?_,fun i x hi hl=> ?_⟩
 ·have:=h2 y hy
  simp only [Bool.or_eq_true,bne_iff_ne,ne_eq,beq_iff_eq] at this
  exact this.resolve_left fun z=> z e
 ·have hf:(x,NameKind.free)∈scope.names:=by
   rcases hx with hx | hx
   ·rcases cn hx with z | ⟨_,z⟩
    ·exact absurd rfl (nc _ (PySem.mem_of_lookup z))
    ·exact PySem.mem_of_lookup z
   ·rcases cn hx with z | ⟨z,_⟩
    ·exact PySem.mem_of_lookup z
    ·cases z
  have hc:=f1 _ hf rfl
  refine ⟨.inr (.inl (by rw [hs]; exact hc)),(by rw [hs,show fscope.names.lookup x=some .cell from hc]; intro z; cases z),mW _ _ (.inl hf)⟩
 ·have hi':i < X.N.length:=(List.getElem?_eq_some_iff.mp hi).1
  have:=h4 i (List.mem_range.mpr hi')
  rw [hi] at this
  have hl':scope.names.lookup x=some .local:=by
   rcases cn hl with z | ⟨z,_⟩
   ·exact z
   ·cases z
  simp only [hl',bne_self_eq_false,Bool.false_or,List.contains_iff_mem] at this
  exact this
end L2
namespace L2
end L2
namespace L2
open PySem PySem.Spec PySem.W PyProof.Rows
theorem td {K:Frag} {h:Heap} {mg:Str→Option Value} {x:Str} {C:Addr} {bmB:List Value} {newId:String} (X:K.In h) (hb:mg x=some (.ref C)) (q:excIn K C bmB newId=true):OwnCls x C bmB newId mg h:=by
 refine ⟨hb,?_⟩
 unfold excIn at q
 split at q
 ·rename_i dd cd sl ho
  split at q
  ·rename_i C' bm k0 k1 k2 k3 n k5 hm hs
   simp only [Bool.and_eq_true,beq_iff_eq,Bool.not_eq_true'] at q
   obtain ⟨⟨⟨⟨⟨e1,e2⟩,hdel⟩,ht⟩,hok⟩,hni⟩:=q
   subst e1 e2
   obtain ⟨nm,bs,mro,ns,qn,hd,sn,sub,ab,col,del⟩:=cd
   dsimp only at hm hdel hok hni
   subst hm hdel
   have hsl:sl=#[k0,k1,k2,k3,some (.builtin n),k5]:=by cases sl; simp only at hs; rw [hs]
   subst hsl
   exact ⟨bm,ns,nm,qn,bs,hd,sn,sub,ab,col,dd,k0,k1,k2,k3,k5,_,X _ _ ho,.of_isNs (isNs_of_in X hok),nsMap_none_of_in X hok hni,tail_of_in X ht⟩
  ·cases q
 ·cases q
def CXF (P:Program) (w:World):CXT:=fun outer H s E e s'=> ∃ (ea:Addr) (cls a0:Value) (B:Heap) (H':Hp),e=.ref ea∧s'.os=s.os∧AllBare s'.gens∧Un (frs outer) [] H H' s.heap s'.heap∧HOk P w H' s'.heap∧H' ea=none∧
 (∀ b o,s.heap.get? b=some o→b ∉ frs outer→H b=none→B.get? b=some o)∧(∀ b u,H' b=some u→∃ o,B.get? b=some o)∧(∀ b o,s.heap.get? b=some o→b ∉ frs outer→∃ o',B.get? b=some o')∧
 Heap.FlyingW B outer ea cls a0 s'.heap∧E cls none H'
theorem aC {P:Program} {w:World} {X:Cx}:dJ (CXF P w) X E0:=fun _ _ _ _ _ _ _ h=> by
 obtain ⟨_,_,_,_,_,_,_,_,_,_,_,_,_,_,_,hE⟩:=h
 exact hE.elim
theorem iH {P:Program} {w:World} {H:Hp} {h:Heap} {a:Addr} {o:HO} (x:bR P w H h a o):∃ ob,h.get? a=some ob:=by
 cases o with
 | lst xs=> obtain ⟨_,_,_,_,e⟩:=x; exact ⟨_,e⟩
 | tup xs=> obtain ⟨_,_,_,ob,e,_⟩:=x; exact ⟨_,e⟩
 | dK kvs=> obtain ⟨_,_,_,_,o,_,_,e,_⟩:=x; exact ⟨_,e⟩
 | dT kvs=> obtain ⟨_,_,_,_,o,_,_,e,_⟩:=x; exact ⟨_,e⟩
 | set S n=> obtain ⟨o,_,_,_,e,_⟩:=x; exact ⟨_,e⟩
 | ins C dx fs=> obtain ⟨_,_,_,e,_⟩:=x; exact ⟨_,e⟩
 | own y=> obtain ⟨_,e⟩:=x; exact ⟨_,e⟩
 | xd fs=> obtain ⟨_,⟨_,_,_,e,_⟩,_⟩:=x; exact ⟨_,e⟩
 | rng lo hi=> obtain ⟨_,_,_,e⟩:=x; exact ⟨_,e⟩
 | frz ob u=> obtain ⟨e,_⟩:=x; exact ⟨_,e⟩
 | tbl ps=> exact ⟨_,(show h.get? a=some _ from x)⟩
 | met f y=> exact ⟨_,(show h.get? a=some _ from x)⟩
 | ext φ=> obtain ⟨_,⟨_,e⟩,_⟩:=x; exact ⟨_,e⟩
theorem gl {P:Program} {w:World} {H':Hp} {h h' B:Heap} (ok:HOk P w H' h) (hB:∀ b u,H' b=some u→∃ o,B.get? b=some o) (s1:B.StaysIn h) (s2:B.StaysIn h'):HOk P w H' h':=fun a o e=> by
 refine (ok a o e).stay (fun b u hb q=> ?_) (fun _ q=> q) fun _ _ q=> q
 have:∃ v,H' b=some v:=by
  rcases hb with z | z
  ·subst z; exact ⟨_,e⟩
  ·exact ⟨_,z⟩
 obtain ⟨v,hv⟩:=this
 obtain ⟨ob,hob⟩:=hB b v hv
 have:=s1 b ob hob
 rw [q] at this
 cases this
 exact s2 b _ hob
theorem qQ {fs:List Addr} {H0 H':Hp} {h0 h1 h2 B:Heap} (u:Un fs [] H0 H' h0 h1) (k1:∀ b o,h0.get? b=some o→b ∉ fs→H0 b=none→B.get? b=some o) (k3:∀ b o,h0.get? b=some o→b ∉ fs→∃ o',B.get? b=some o')
  (st:B.StaysIn h2) (up:h1.UpToSlots h2) (fr:∀ b∈fs,∀ o,h0.get? b=some o→∀ vs,o.data≠.fields vs) (frf:∀ b∈fs,H0 b=none):Un fs [] H0 H' h0 h2 where
 keep:=fun b o e n hb _=> st b o (k1 b o e hb n)
 slot:=fun b o e n hb hx=> by
  obtain ⟨sl,e1⟩:=u.slot b o e n hb hx
  obtain ⟨sl2,e2⟩:=up b _ e1 (fr b hb o e)
  exact ⟨sl2,e2⟩
 free:=u.free
 there:=fun b o e hx=> by
  by_cases hb:b∈fs
  ·obtain ⟨sl,e1⟩:=u.slot b o e (frf b hb) hb hx
   obtain ⟨sl2,e2⟩:=up b _ e1 (fr b hb o e)
   exact ⟨_,e2⟩
  ·obtain ⟨o',e'⟩:=k3 b o e hb
   exact ⟨o',st b o' e'⟩
 tups:=u.tups
 frzs:=u.frzs
 tbls:=u.tbls
theorem jg {h base:Heap}:∀ {l:List Env},h.FunFrames base l→∀ b∈frs l,∀ o,h.get? b=some o→∀ vs,o.data≠.fields vs
 | [],_,b,hb,_,_=> absurd (show b∈([]:List Addr) from hb) (by simp)
 | env::r,⟨_,⟨L,o',hf,_,ho,hd⟩,hr⟩,b,hb,o,e=> by
  unfold frs at hb
  rw [List.filterMap_cons,hf] at hb
  rcases List.mem_cons.mp hb with z | z
  ·subst z; rw [ho] at e; cases e; exact hd
  ·exact jg hr b z o e
section
variable {P:Program} {w:World} {K:Frag} {mg:Str→Option Value} {base:Heap} {N:List Str} {qual:Str} {scope:Scope} {f:Addr} {cd:Value} {A:Around} {outer:List Env} {s:Shared} {H:Hp} {E:XK}
theorem rn {env:Env} {L:Addr} {l:List Env} (h:env.frame=some L):frs (env::l)=L::frs l:=by unfold frs; rw [List.filterMap_cons,h]
theorem kw {pins:List (Addr×Obj)} {σ:St} {H1 H':Hp} {s1:Shared} {B h1 h2:Heap} (I:Inv (de (CXF P w) P w K mg base N qual scope f cd A outer s H E) pins σ H1 s1)
  (un:Un (frs (envOfC qual scope s.heap.objs.size f cd::outer)) [] H1 H' s1.heap h1)
  (k1:∀ b o,s1.heap.get? b=some o→b ∉ frs (envOfC qual scope s.heap.objs.size f cd::outer)→H1 b=none→B.get? b=some o) (k3:∀ b o,s1.heap.get? b=some o→b ∉ frs (envOfC qual scope s.heap.objs.size f cd::outer)→∃ o',B.get? b=some o')
  (st:B.StaysIn h2) (up:h1.UpToSlots h2):
  Un (frs outer) [] H H' s.heap h2∧(∀ b o,s.heap.get? b=some o→b ∉ frs outer→H b=none→B.get? b=some o)∧(∀ b o,s.heap.get? b=some o→b ∉ frs outer→∃ o',B.get? b=some o'):=by
 have ef:frs (envOfC qual scope s.heap.objs.size f cd::outer)=s.heap.objs.size::frs outer:=rn rfl
 rw [ef] at un k1 k3
 have ne:∀ b o,s.heap.get? b=some o→b ∉ frs outer→b ∉ s.heap.objs.size::frs outer:=fun b o e hb z=> by
  rcases List.mem_cons.mp z with y | y
  ·exact absurd (Heap.lt_size e) (by rw [y]; exact Nat.lt_irrefl _)
  ·exact hb y
 have ib:Un (frs outer) [] H H1 s.heap s1.heap:=I.base
 have K1:∀ b o,s.heap.get? b=some o→b ∉ frs outer→H b=none→B.get? b=some o:=fun b o e hb n=>
  k1 b o (ib.keep b o e n hb (by simp)) (ne b o e hb) (ib.free b o e n (by simp))
 have K3:∀ b o,s.heap.get? b=some o→b ∉ frs outer→∃ o',B.get? b=some o':=fun b o e hb=> by
  obtain ⟨o',e'⟩:=ib.there b o e (by simp)
  exact k3 b o' e' (ne b o e hb)
 have ffr:∀ b∈frs outer,∀ o,s.heap.get? b=some o→∀ vs,o.data≠.fields vs:=jg I.ok.funs
 have frf:∀ b∈frs outer,H b=none:=I.ok.frf
 refine ⟨⟨fun b o e n hb _=> st b o (K1 b o e hb n),fun b o e n hb hx=> ?_,fun b o e n hx=> ?_,fun b o e hx=> ?_,fun b xs e=> un.tups b xs (ib.tups b xs e),fun b o u e=> un.frzs b o u (ib.frzs b o u e),fun b ps e=> ?_⟩,K1,K3⟩
 ·obtain ⟨sl,e1⟩:=ib.slot b o e n hb hx
  obtain ⟨sl2,e2⟩:=un.slot b _ e1 (ib.free b o e n hx) (List.mem_cons_of_mem _ hb) hx
  obtain ⟨sl3,e3⟩:=up b _ e2 (ffr b hb o e)
  exact ⟨sl3,e3⟩
 ·obtain ⟨o',e1⟩:=ib.there b o e hx
  exact un.free b o' e1 (ib.free b o e n hx) hx
 ·by_cases hb:b∈frs outer
  ·obtain ⟨sl,e1⟩:=ib.slot b o e (frf b hb) hb hx
   obtain ⟨sl2,e2⟩:=un.slot b _ e1 (ib.free b o e (frf b hb) hx) (List.mem_cons_of_mem _ hb) hx
   obtain ⟨sl3,e3⟩:=up b _ e2 (ffr b hb o e)
   exact ⟨_,e3⟩
  ·obtain ⟨o',e'⟩:=K3 b o e hb
   exact ⟨o',st b o' e'⟩
 ·obtain ⟨m1,e1⟩:=ib.tbls b ps e
  obtain ⟨m2,e2⟩:=un.tbls b _ e1
  exact ⟨m1++m2,by rw [e2,Array.append_assoc]⟩
theorem iX:dJ (CXF P w) (de (CXF P w) P w K mg base N qual scope f cd A outer s H E) E:=by
 intro pins σ H1 s1 e s' I hcx
 obtain ⟨ea,cls,a0,B,H',rfl,os,bare,un,hok,hea,k1,k2,k3,fl,hE⟩:=hcx
 show wpAny _ _ (leaving (envOfC qual scope s.heap.objs.size f cd) (.ref ea)) _ _ s'
 refine wpAny_leaves_onW (L:=s.heap.objs.size) I.ok.frames rfl fl fun h2 fl2 up=> ?_
 obtain ⟨u,K1,K3⟩:=kw I un k1 k3 fl2.1 up
 exact ⟨ea,cls,a0,B,H',rfl,os.trans I.os,bare,u,gl hok k2 fl.1 fl2.1,hea,K1,k2,K3,fl2,hE⟩
def uQ (E:XK) (C:Addr) (te:TE):TS:=fun _ σ H=> te σ H fun _ H1=> E (.ref C) none H1
theorem pX {x:Str} {C:Addr} {e0:Expr} {te:TE} {np cpos pos:Pos} (hex:excIn K C [.type "ValueError",.type "Exception",.type "BaseException",.type "object"] "ValueError.__new__"=true)
  (hg:Gl (de (CXF P w) P w K mg base N qual scope f cd A outer s H E) x) (hm:mg x=some (.ref C)) (he:PE (de (CXF P w) P w K mg base N qual scope f cd A outer s H E) e0 te)
  (hst:starEach [e0] (de (CXF P w) P w K mg base N qual scope f cd A outer s H E).env=[(false,eval e0 (de (CXF P w) P w K mg base N qual scope f cd A outer s H E).env)]:=by rfl) (hd:(x==("__debug__":Str))=false:=by decide):
  PS (de (CXF P w) P w K mg base N qual scope f cd A outer s H E) (.Raise (some (.Call (.Name x np) [e0] [] cpos)) none pos) (uQ E C te):=by
 intro pins s1 σ H1 D I h
 have O:=td I.ok.mod.kin hm hex
 obtain ⟨tl,NN,nm,q,bs,hdct,sn,sub,ab,col,dd,k0,k1,k2,k3,k5,mN,hC,hN,hni,T⟩:=O.obj
 have hpl:(backTo cpos (starEach [e0] (de (CXF P w) P w K mg base N qual scope f cd A outer s H E).env)).any (·.1)=false:=by rw [hst]; rfl
 refine wpAny_Raise_call_subT (C:=C) (nm:=nm) (q:=q) (N:=NN) (bs:=bs) (bm:=tl) (hdct:=hdct) (sn:=sn) (sub:=sub) (ab:=ab) (col:=col) (dd:=dd) (k0:=k0) (k1:=k1) (k2:=k2) (k3:=k3) (k5:=k5)
  PySem.F.excBase_ValueError (mN:=mN) (T.hasType PySem.F.excBase_ValueError.hasBase) (I.ok.hd rfl) hpl hni (fm I hg hm ⟨rfl,?_⟩ hd)
 rw [hst]
 refine Calls.evalArgs_plain ?_
 show wpAny _ _ (spliced ((false,eval e0 _)::backTo cpos [])) _ _ s1
 refine Calls.spliced_cons (thn (he pins s1 σ H1 _ I h) fun v s2 ⟨y,H2,I2,r2,hE⟩=> Calls.spliced_nil ⟨rfl,by show 1≤sizeLine; decide,I2.bk _ _ hC,hN.keeps I2.bk,T.keeps I2.bk,fun h' e hx=> ?_⟩)
 show wpAny _ _ (leaving (envOfC qual scope s.heap.objs.size f cd) (.ref e)) _ _ { s2 with heap:=h' }
 have stk:s2.heap.FunFrames base (envOfC qual scope s.heap.objs.size f cd::outer):=I2.stack
 refine wpAny_leaves_madeW (base:=hideAll s2.heap (frs (envOfC qual scope s.heap.objs.size f cd::outer))) (h:=s2.heap) (L:=s.heap.objs.size) I2.ok.frames rfl (fun b o q=> of_hideAll _ q)
  (funFrames_hide stk fun env he b hb=> List.mem_filterMap.mpr ⟨env,he,hb⟩) hx fun h2 t fl _ _ up=> ?_
 have k2':∀ b u,H2 b=some u→∃ o,(hideAll s2.heap (frs (envOfC qual scope s.heap.objs.size f cd::outer))).get? b=some o:=fun b u e=> by
  obtain ⟨ob,hob⟩:=iH (I2.hok b u e)
  exact ⟨ob,hideAll_get _ hob fun z=> by have:=I2.stkFree b z; rw [e] at this; cases this⟩
 obtain ⟨u,K1,K3⟩:=kw (h1:=h') I2 (Un.kept hx.keeps) (fun b o e hb _=> hideAll_get _ e hb) (fun b o e hb=> ⟨o,hideAll_get _ e hb⟩) fl.1 up
 refine ⟨e,.ref C,.ref t,_,H2,rfl,I2.os,I2.bare,u,gl (h:=s2.heap) I2.hok k2' (fun b o q=> of_hideAll _ q) fl.1,?_,K1,k2',K3,fl,hE⟩
 cases z:H2 e with
 | none=> rfl
 | some u=>
  obtain ⟨ob,hob⟩:=iH (I2.hok e u z)
  rw [hx.new] at hob; cases hob
end
theorem Fun.okF {P:Program} {w:World} {K:Frag} {mg:Str→Option Value} {base:Heap} {x qual:Str} {st:Stmt} {f:Addr} {fd:FuncData} {N ps:List Str} {k:Nat} {sp:Sp} (F:Fun K x qual st f fd) (S:au N ps (ah st)) (len:∀ vs H Q E,sp vs H Q E→vs.length=ps.length)
  (hbody:∀ (cdv:Value) (A:Around) (outer:List Env) (s:Shared) (H:Hp) (vs:List V) (Q:VK) (E:XK),cF k (A.deeper (envOfC qual (ah st) s.heap.objs.size f cdv))→sp vs H Q E→
   ∃ t,PSs (de (CXF P w) P w K mg base N qual (ah st) f cdv A outer s H E) (am st) t∧t { nx:=fun _ H'=> Q .non H',rt:=Q } (start N vs) H):aR P w K mg base (CXF P w) (k+1) f fd ps sp:=by
 obtain ⟨oc,od,kV,doc,pm,an,cdv,ct,osl,rfl,lk,hcd⟩:=F.ex
 exact tP lk hcd S len fun A outer s H vs Q E hr hsp=> hbody cdv A outer s H vs Q E hr hsp
end L2
namespace L2
open PySem PySem.Spec PySem.W PyProof.Rows
abbrev eY (X:Cx) (ea:Addr):Cx:={ X with A:=X.A.mark (some (.ref ea)),calm:=false,xe:=fun _ _=> False }
section
variable {X:Cx} {pins:List (Addr×Obj)} {σ:St} {H:Hp} {s:Shared}
theorem Inv.hand (I:Inv X pins σ H s) (ea:Addr):Inv (eY X ea) pins σ H s:=
 ⟨⟨I.ok.mod,I.ok.kind,I.ok.glob,I.ok.blt,I.ok.above,I.ok.inj,I.ok.has,I.ok.cab,fun h=> (by cases h),I.ok.frames,I.ok.stk,I.ok.exf,I.ok.bs,I.ok.bsz,I.ok.noex,I.ok.exfs,I.ok.funs,I.ok.frf⟩,
  I.os,I.bare,I.base,I.loc,I.cell,I.free,I.freeC,I.pin,I.hok,I.len⟩
theorem Inv.unhand {ea:Addr} (hd:X.calm=true→X.A.handled=none) (I:Inv (eY X ea) pins σ H s):Inv X pins σ H s:=
 ⟨⟨I.ok.mod,I.ok.kind,I.ok.glob,I.ok.blt,I.ok.above,I.ok.inj,I.ok.has,I.ok.cab,hd,I.ok.frames,I.ok.stk,I.ok.exf,I.ok.bs,I.ok.bsz,I.ok.noex,I.ok.exfs,I.ok.funs,I.ok.frf⟩,
  I.os,I.bare,I.base,I.loc,I.cell,I.free,I.freeC,I.pin,I.hok,I.len⟩
theorem SP.unhand {ea:Addr} {D:gX} {f:Flow} {s':Shared} (hd:X.calm=true→X.A.handled=none) (h:SP (eY X ea) pins D f s'):SP X pins D f s':=by
 cases f with
 | next=> obtain ⟨σ',H',I,q⟩:=h; exact ⟨σ',H',I.unhand hd,q⟩
 | brk=> obtain ⟨σ',H',I,q⟩:=h; exact ⟨σ',H',I.unhand hd,q⟩
 | cont=> obtain ⟨σ',H',I,q⟩:=h; exact ⟨σ',H',I.unhand hd,q⟩
 | ret u=> obtain ⟨v,σ',H',I,r,q⟩:=h; exact ⟨v,σ',H',I.unhand hd,r,q⟩
end
section
variable {X:Cx}
end
end L2
namespace L2
open PySem PySem.Spec PyProof.Rows
theorem iQ {n:Nat} {e:Nat→Bool}:(List.range n).all e=true↔∀ j,j < n→e j=true:=by
 rw [List.all_eq_true]
 exact ⟨fun h j hj=> h j (List.mem_range.mpr hj),fun h j hj=> h j (List.mem_range.mp hj)⟩
section
variable {X:Cx}
end
end L2
namespace PySem.W
open PySem PySem.Spec PySem.Calls PyProof.Rows PySem.Builtin PySem.Builtin.ObjectAttr PySem.Builtin.Getset_descriptor
section
variable {prog:Program} {w:World} {A:Around} {E:Value→Shared→Prop} {s:Shared} {K:Frag} {x C:Addr}
def OfCls (x C:Addr) (h:Heap):Prop:=∃ o,h.get? x=some o∧o.cls=.ref C
theorem OfCls.type {M:Model} {h:Heap} (I:OfCls x C h):Looks M h (typeOf (.ref x)) (.ref C):=by
 obtain ⟨o,h1,h2⟩:=I
 exact h2 ▸ (Looks.ld h1).andThen .now
theorem uG {tp:Value} {R:Result→Shared→Prop} (X:K.In s.heap) (I:OfCls x C s.heap) (hm:mroIn K C (.type "object")=some true)
  (h:R (.ok (.ret (.ref C))) s):codeAny (model prog w) A (.call (.builtin "getset_descriptor.__get__") ⟨[.builtin "object.__class__",.ref x,tp],[]⟩) R s:=by
 obtain ⟨hh,g,dr,t,os⟩:=s
 have L0:=I.type (M:=model prog w)
 have L1:=looks_mroIn (M:=model prog w) X hm
 refine codeAny_call_builtin KF.slot_gs.plain KF.entry_gs (KF.slot_gs.check _ _ _ _ _ _ _ _ KF.type_class (KF.args_gs _ _ _) ?_)
 unfold Builtin.«getset_descriptor.__get__» descrGet
 rw [dga_obj]
 refine wpAny_bind (wpAny_pure ?_)
 unfold descrGetter descrCheckInstance descrNameAndClass isInstance
 simp only [KF.owner_class]
 repeat lk
 refine ⟨Code.quiet_builtin _ (by decide+kernel),codeAny_builtin KF.entry_class ?_⟩
 unfold Builtin.«object.__class__» shownTypeOf
 repeat lk
 exact h
theorem sF {M:Model} {h:Heap} {name:Str} {a g:Value} (X:K.In h) (ha:findIn K (.ref C) name=some (some a)) (hg:specialIn K a "__get__"=some (some g)) (ht:takesIn K a=some true):
  Looks M h (find (.ref x) (.ref C) name) (.bind g a):=by
 have L1:=looks_findIn (M:=M) X ha
 have L2:Looks M h (getOf (some a)) (some g):=looks_specialIn X hg
 have L3:=looks_takesIn (M:=M) X ht
 exact L1.andThen (L2.andThen ((show Looks M h (dataDescriptor? (some a) (some g)) (some (g,a)) from L3.andThen .now).andThen (Looks.tag .now)))
variable (hga:findIn K (.ref C) "__getattribute__"=some (some (.builtin "BaseException.__getattribute__"))) (hgn:findIn K (.ref C) "__getattr__"=some none) (ha:findIn K (.ref C) "__class__"=some (some (.builtin "object.__class__")))
 (hn:specialIn K (.builtin "object.__class__") "__get__"=some (some (.builtin "getset_descriptor.__get__"))) (htk:takesIn K (.builtin "object.__class__")=some true) (hm:mroIn K C (.type "object")=some true) (hmB:mroIn K C (.type "BaseException")=some true)
include ha hn htk hm in
theorem p4 {tk:Tok} {Q:Fin→Shared→Prop} (X:K.In s.heap) (I:OfCls x C s.heap) (hq:Q (.done (.ret (.ref C))) s):
  wpAny (model prog w) A (Builtin.«object.__getattribute__» ⟨[.ref x,.str "__class__" tk],[]⟩) Q E s:=by
 have L0:=I.type (M:=model prog w)
 have L1:=sF (M:=model prog w) (x:=x) X ha hn htk
 obtain ⟨hh,g,dr,t,os⟩:=s
 unfold Builtin.«object.__getattribute__»
 refine wpAny_bind (wpAny_pure ?_)
 refine wpAny_bind (wpAny_pure (wpAny_bind (L0.at (wpAny_bind (L1.at ?_)))))
 show wpAny _ _ (bindTo _ _ _ _) _ _ _
 unfold bindTo
 show wpAny _ _ (holding [_] (call _ [_,_,_]) >>=ret) _ _ _
 refine wpAny_bind (wpAny_holding (wpAny_call (uG X I hm ?_)))
 exact wpAny_pure hq
include hmB in
theorem o8 {nameV:Value} {M:Model} {Q:Unit→Shared→Prop} (X:K.In s.heap) (I:OfCls x C s.heap) (hq:Q () s):wpAny M A (checkBuiltinCall "BaseException.__getattribute__" ⟨[.ref x,nameV],[]⟩) Q E s:=by
 have hk:builtinKind "BaseException.__getattribute__"=some .slot:=by decide+kernel
 have hsplit:splitId "BaseException.__getattribute__"=some ("BaseException","__getattribute__"):=by decide+kernel
 have ha':=F.args_bexc_ga (.ref x) nameV
 have L:Looks M s.heap (isInstance (.ref x) (.type "BaseException")) true:=I.type.andThen (looks_mroIn X hmB)
 obtain ⟨hh,g,dr,t,os⟩:=s
 simp only [checkBuiltinCall,hk,hsplit]
 refine wpAny_bind (L.at ?_)
 repeat (first | assumption | wp_step)
include hga hgn ha hn htk hm hmB
theorem rD {tk:Tok} {R:Result→Shared→Prop} (X:K.In s.heap) (I:OfCls x C s.heap) (hq:R (.ok (.ret (.ref C))) s):
  codeAny (model prog w) A (.call (.builtin "BaseException.__getattribute__") ⟨[.ref x,.str "__class__" tk],[]⟩) R s:=by
 exact codeAny_call_builtin F.excAttr_ValueError.ga.plain F.entry_bexc_ga (o8 hmB X I (p4 ha hn htk hm X I hq))
theorem pK {Q:Option Value→Shared→Prop} (X:K.In s.heap) (I:OfCls x C s.heap) (h:Q (some (.ref C)) { s with toks:=s.toks+1 }):wpAny (model prog w) A (getAttr? (.ref x) "__class__") Q E s:=by
 obtain ⟨hh,g,d,t,os⟩:=s
 have L0:=I.type (M:=model prog w)
 have L1:=looks_findIn (M:=model prog w) X hga
 have L2:=looks_findIn (M:=model prog w) X hgn
 have f3:=F.excAttr_ValueError.ga.bind (.ref x)
 unfold getAttr? getAttrBy? getAttrBy
 refine wpAny_bind (wpAny_mkText (wpAny_bind (wpAny_attempt (wpAny_holding (wpAny_bind (L0.at (wpAny_bind (L1.at ?_))))))))
 show wpAny _ _ (getAttrByItsOwn _ _ _ _ _ _) _ _ _
 unfold getAttrByItsOwn
 refine wpAny_bind (L2.at ?_)
 refine wpAny_bind (wpAny_attempt (wpAny_holding ?_))
 show wpAny _ _ (boundAndCalled _ _ _) _ _ _
 unfold boundAndCalled
 rw [f3]
 refine wpAny_bind (wpAny_pure (wpAny_call ?_))
 exact rD hga hgn ha hn htk hm hmB X I (wpAny_pure (wpAny_pure h))
theorem rX (hc:(clsIn K C).isSome=true):KitX K (.ref x) (.ref C) (OfCls x C) where
 ty:=fun _ _ _ I=> I.type
 it:=fun _ _ X _=> by
  obtain ⟨cdD,hcD⟩:=Option.isSome_iff_exists.mp hc
  unfold clsIn at hcD
  split at hcD
  ·rename_i c' d' cd' sl' ho
   intro A' Q' E' s' k q
   unfold isType loadHead
   exact wpAny_bind (wpAny_loadPart (k _ _ (X _ _ ho)) (wpAny_pure q))
  ·cases hcD
 ne:=fun h tp dd its n sl X htp=> by
  obtain ⟨cdD,hcD⟩:=Option.isSome_iff_exists.mp hc
  refine Bool.eq_false_iff.mpr fun q=> ?_
  have e:C=tp:=Value.ref.inj (beq_iff_eq.mp q)
  subst e
  unfold clsIn at hcD
  split at hcD
  ·rename_i c' d' cd' sl' ho
   have z:=(X _ _ ho).symm.trans htp
   cases z
  ·cases hcD
 ca:=fun X I k=> pK hga hgn ha hn htk hm hmB X I k
end
theorem gr {K:Frag} {C:Addr} {v:Value} {b:Bool} (h:mroIn K C v=some b):(clsIn K C).isSome=true:=by
 obtain ⟨cd,e,_⟩:=Option.bind_eq_some_iff.mp h
 rw [e]; rfl
structure XcOk (K:Frag) (C:Addr):Prop where
 ga:findIn K (.ref C) "__getattribute__"=some (some (.builtin "BaseException.__getattribute__"))
 gn:findIn K (.ref C) "__getattr__"=some none
 at_:findIn K (.ref C) "__class__"=some (some (.builtin "object.__class__"))
 sp:specialIn K (.builtin "object.__class__") "__get__"=some (some (.builtin "getset_descriptor.__get__"))
 tk:takesIn K (.builtin "object.__class__")=some true
 mo:mroIn K C (.type "object")=some true
 mb:mroIn K C (.type "BaseException")=some true
theorem XcOk.kit {K:Frag} {x C:Addr} (h:XcOk K C):KitX K (.ref x) (.ref C) (OfCls x C):=rX h.ga h.gn h.at_ h.sp h.tk h.mo h.mb (gr h.mo)
theorem XcOk.off {x C:Addr} {h:Heap} {o:Obj} {T:String} (I:OfCls x C h) (e:h.get? x=some o) (c:o.cls=.type T):False:=by
 obtain ⟨o',e',c'⟩:=I
 rw [e] at e'; cases e'
 rw [c] at c'; cases c'
end PySem.W
namespace L2
open PySem PySem.Spec PyProof.Rows
inductive TyX where
 | nm (n:String) | xc (C:Addr)
inductive U where
 | non | bl (b:Bool) | int (i:Int) | str (x:Str) | ty (n:TyX) | dic | scr (xs:List U) | tup (xs:List U) | lst (xs:List U)
def U.items:U→Option (List U)
 | .scr xs=> some xs
 | .tup xs=> some xs
 | .lst xs=> some xs
 | _=> none
def hid (H:Hp) (O:List Addr):Hp:=fun b=> if b∈O then none else H b
theorem d_ {H:Hp} {O:List Addr} {b:Addr} {o:HO} (h:hid H O b=some o):H b=some o∧b ∉ O:=by
 unfold hid at h
 split at h
 ·cases h
 ·exact ⟨h,by assumption⟩
theorem cr {H:Hp} {O:List Addr} {b:Addr} {o:HO} (h:H b=some o) (n:b ∉ O):hid H O b=some o:=by
 unfold hid; rw [if_neg n]; exact h
theorem av {H:Hp} {O:List Addr}:aB (hid H O) H:=fun _ _ h=> (d_ h).1
theorem aY {H H':Hp} {O:List Addr} (e:aB H H'):aB (hid H O) (hid H' O):=fun _ _ h=> cr (e _ _ (d_ h).1) (d_ h).2
theorem ck {H:Hp} {O O':List Addr} (e:∀ a∈O',a∈O):aB (hid H O) (hid H O'):=fun _ _ h=> cr (d_ h).1 fun z=> (d_ h).2 (e _ z)
theorem bi {H H':Hp} {O:List Addr} {a:Addr} (e:aB H H') (n:H a=none):aB (hid H O) (hid H' (a::O)):=fun b o h=> by
 obtain ⟨h1,h2⟩:=d_ h
 refine cr (e _ _ h1) fun z=> ?_
 rcases List.mem_cons.mp z with y | y
 ·subst y; rw [n] at h1; cases h1
 ·exact h2 y
theorem jf {H:Hp} {O:List Addr} {a:Addr} {o:HO} (h:a∈O):hid (upd H a o) O=hid H O:=by
 funext b
 unfold hid
 split
 ·rfl
 ·rename_i n
  rw [aK fun e=> n (by rw [e]; exact h)]
inductive Rp (K:PySem.W.Frag) (H:Hp):V→U→Prop where
 | non:Rp K H .non .non
 | bl (b:Bool):Rp K H (.bl b) (.bl b)
 | int (i:Int):Rp K H (.int i) (.int i)
 | str (x:Str):Rp K H (.str x) (.str x)
 | ty (n:String):Rp K H (.ty n) (.ty (.nm n))
 | dic {a:Addr} {kvs:List (Key×V)} (h:H a=some (.dK kvs)):Rp K H (.ref a) .dic
 | xc {a C:Addr} (h:H a=some (.ext (PySem.W.OfCls a C))) (k:PySem.W.XcOk K C):Rp K H (.ref a) (.ty (.xc C))
 | scr {a:Addr} {vs:List V} {xs:List U} (h:SqL K H a vs) (hl:vs.length=xs.length) (hi:∀ (i:Nat) (v:V) (x:U),vs[i]?=some v→xs[i]?=some x→Rp K H v x):Rp K H (.ref a) (.scr xs)
 | tup {a:Addr} {vs:List V} {xs:List U} (h:SqT K H a vs) (hl:vs.length=xs.length) (hi:∀ (i:Nat) (v:V) (x:U),vs[i]?=some v→xs[i]?=some x→Rp K H v x):Rp K H (.ref a) (.tup xs)
 | lst {a:Addr} {vs:List V} {xs:List U} (h:H a=some (.lst vs)) (hl:vs.length=xs.length) (hi:∀ (i:Nat) (v:V) (x:U),vs[i]?=some v→xs[i]?=some x→Rp K H v x):Rp K H (.ref a) (.lst xs)
theorem Rp.same {K:PySem.W.Frag} {H H':Hp} {v:V} {u:U} (e:aB H H') (h:Rp K H v u):Rp K H' v u:=by
 induction h with
 | non=> exact .non
 | bl b=> exact .bl b
 | int i=> exact .int i
 | str x=> exact .str x
 | ty n=> exact .ty n
 | dic h=> exact .dic (e _ _ h)
 | xc h k=> exact .xc (e _ _ h) k
 | scr h hl hi ih=> exact .scr (e.seq h) hl ih
 | tup h hl hi ih=> exact .tup (e.tup h) hl ih
 | lst h hl hi ih=> exact .lst (e _ _ h) hl ih
structure Rps (K:PySem.W.Frag) (H:Hp) (vs:List V) (xs:List U):Prop where
 len:vs.length=xs.length
 at_:∀ (i:Nat) (v:V) (x:U),vs[i]?=some v→xs[i]?=some x→Rp K H v x
theorem Rps.same {K:PySem.W.Frag} {H H':Hp} {vs:List V} {xs:List U} (e:aB H H') (h:Rps K H vs xs):Rps K H' vs xs:=⟨h.len,fun i v x a b=> (h.at_ i v x a b).same e⟩
theorem Rps.nil {K:PySem.W.Frag} {H:Hp}:Rps K H [] []:=⟨rfl,fun i v x h=> by simp at h⟩
theorem Rps.cons {K:PySem.W.Frag} {H:Hp} {v:V} {x:U} {vs:List V} {xs:List U} (h:Rp K H v x) (t:Rps K H vs xs):Rps K H (v::vs) (x::xs):=by
 refine ⟨by simp [t.len],fun i a b h1 h2=> ?_⟩
 cases i with
 | zero=> simp at h1 h2; subst h1; subst h2; exact h
 | succ i=> exact t.at_ i a b (by simpa using h1) (by simpa using h2)
theorem Rps.snoc {K:PySem.W.Frag} {H:Hp} {vs ws:List V} {xs ys:List U} (h:Rps K H vs xs) (t:Rps K H ws ys):Rps K H (vs++ws) (xs++ys):=by
 refine ⟨by simp [h.len,t.len],fun i a b h1 h2=> ?_⟩
 by_cases hi:i < vs.length
 ·rw [List.getElem?_append_left hi] at h1
  rw [List.getElem?_append_left (by rw [← h.len]; exact hi)] at h2
  exact h.at_ i a b h1 h2
 ·have hle:vs.length≤i:=Nat.le_of_not_lt hi
  rw [List.getElem?_append_right hle] at h1
  rw [List.getElem?_append_right (by rw [← h.len]; exact hle),← h.len] at h2
  exact t.at_ _ a b h1 h2
theorem Rps.get {K:PySem.W.Frag} {H:Hp} {vs:List V} {xs:List U} {i:Nat} {x:U} (h:Rps K H vs xs) (e:xs[i]?=some x):∃ v,vs[i]?=some v∧Rp K H v x:=by
 have hi:i < vs.length:=by rw [h.len]; exact (List.getElem?_eq_some_iff.mp e).1
 exact ⟨vs[i],List.getElem?_eq_getElem hi,h.at_ i _ x (List.getElem?_eq_getElem hi) e⟩
theorem Rps.atI {K:PySem.W.Frag} {H:Hp} {vs:List V} {xs:List U} {i:Int} {x:U} (h:Rps K H vs xs) (e:L2.atI xs i=some x):∃ v,L2.atI vs i=some v∧Rp K H v x:=by
 unfold L2.atI at e ⊢
 rw [h.len]
 cases q:ixN xs.length i with
 | none=> rw [q] at e; cases e
 | some j=>
  rw [q] at e
  obtain ⟨v,h1,h2⟩:=h.get (show xs[j]?=some x from e)
  exact ⟨v,h1,h2⟩
theorem Rps.cons_inv {K:PySem.W.Frag} {H:Hp} {vs:List V} {x:U} {xs:List U} (h:Rps K H vs (x::xs)):∃ v ws,vs=v::ws∧Rp K H v x∧Rps K H ws xs:=by
 cases vs with
 | nil=> have:=h.len; simp at this
 | cons v ws=>
  refine ⟨v,ws,rfl,h.at_ 0 v x rfl rfl,by have:=h.len; simpa using this,fun i a b h1 h2=> h.at_ (i+1) a b (by simpa using h1) (by simpa using h2)⟩
theorem Rps.nil_inv {K:PySem.W.Frag} {H:Hp} {vs:List V} (h:Rps K H vs []):vs=[]:=List.length_eq_zero_iff.mp (by rw [h.len]; rfl)
inductive Sl where
 | val (u:U) | own (xs:List U) | pin (w:V) (u:U)
abbrev PSt:=List (Option Sl)
def tw (K:PySem.W.Frag) (H:Hp) (O O0:List Addr) (v:V):Sl→Prop
 | .val u=> Rp K (hid H O) v u
 | .own xs=> ∃ a vs,v=.ref a∧a∈O∧a ∉ O0∧H a=some (.lst vs)∧Rps K (hid H O) vs xs
 | .pin w u=> v=w∧Rp K (hid H O) v u
structure Rs (K:PySem.W.Frag) (H0:Hp) (O0:List Addr) (ps:PSt) (σ:St) (H:Hp) (O:List Addr):Prop where
 same:aB H0 H
 old:∀ a∈O0,a∈O
 new:∀ a∈O,a∈O0∨H0 a=none
 dom:∀ a∈O,H a≠none
 len:σ.length=ps.length
 at_:∀ (i:Nat) (s:Sl),ps[i]?=some (some s)→∃ v,σ[i]?=some (some v)∧tw K H O O0 v s
 inj:∀ (i j:Nat) (xs ys:List U) (a:Addr),ps[i]?=some (some (.own xs))→ps[j]?=some (some (.own ys))→σ[i]?=some (some (.ref a))→σ[j]?=some (some (.ref a))→i=j
section
variable {K:PySem.W.Frag} {H0 H H':Hp} {O0 O:List Addr} {ps:PSt} {σ:St}
theorem tw.same {v:V} {s:Sl} (e:aB H H') (h:tw K H O O0 v s):tw K H' O O0 v s:=by
 cases s with
 | val u=> exact Rp.same (aY e) h
 | own xs=> obtain ⟨a,vs,h1,h2,h3,h4,h5⟩:=h; exact ⟨a,vs,h1,h2,h3,e _ _ h4,h5.same (aY e)⟩
 | pin w u=> exact ⟨h.1,Rp.same (aY e) h.2⟩
theorem Rs.go (R:Rs K H0 O0 ps σ H O) (e:aB H H'):Rs K H0 O0 ps σ H' O:=
 ⟨R.same.trans e,R.old,R.new,fun a ha z=> R.dom a ha (e.free z),R.len,fun i s h=> let ⟨v,h1,h2⟩:=R.at_ i s h; ⟨v,h1,h2.same e⟩,R.inj⟩
theorem cP {α:Type} {xs:List α} {i j:Nat} {y x:α} (h:(xs.set i y)[j]?=some x):(i=j∧x=y)∨(i≠j∧xs[j]?=some x):=by
 by_cases e:i=j
 ·subst e
  rw [List.getElem?_set] at h
  simp at h
  exact .inl ⟨rfl,h.2.symm⟩
 ·rw [List.getElem?_set_ne e] at h
  exact .inr ⟨e,h⟩
theorem fq {α:Type} {xs:List α} {i:Nat} {y:α} (h:i < xs.length):(xs.set i y)[i]?=some y:=by rw [List.getElem?_set]; simp [h]
theorem aJ {α:Type} {xs:List α} {i:Nat} {y:α} (h:xs[i]?=some y):i < xs.length:=(List.getElem?_eq_some_iff.mp h).1
theorem gJ {i:Nat} {u:U} {j:Nat} {xs:List U} (h:(ps.set i (some (.val u)))[j]?=some (some (.own xs))):i≠j∧ps[j]?=some (some (.own xs)):=by
 rcases cP h with ⟨_,e⟩ | h
 ·cases e
 ·exact h
theorem Rs.set {i:Nat} {v:V} {u:U} (R:Rs K H0 O0 ps σ H O) (r:Rp K (hid H O) v u):Rs K H0 O0 (ps.set i (some (.val u))) (σ.set i (some v)) H O:=by
 refine ⟨R.same,R.old,R.new,R.dom,by simp [R.len],fun j s h=> ?_,fun j k xs ys a h1 h2 h3 h4=> ?_⟩
 ·rcases cP h with ⟨e,q⟩ | ⟨n,q⟩
  ·subst e
   cases q
   have hi:=aJ h
   rw [List.length_set] at hi
   exact ⟨v,fq (by rw [R.len]; exact hi),r⟩
  ·obtain ⟨w,h1,h2⟩:=R.at_ j s q
   exact ⟨w,by rw [List.getElem?_set_ne n]; exact h1,h2⟩
 ·obtain ⟨n1,q1⟩:=gJ h1
  obtain ⟨n2,q2⟩:=gJ h2
  rw [List.getElem?_set_ne n1] at h3
  rw [List.getElem?_set_ne n2] at h4
  exact R.inj j k xs ys a q1 q2 h3 h4
theorem Rs.drop {i:Nat} {o:Option V} (R:Rs K H0 O0 ps σ H O):Rs K H0 O0 (ps.set i none) (σ.set i o) H O:=by
 have key:∀ {j:Nat} {s:Sl},(ps.set i none)[j]?=some (some s)→i≠j∧ps[j]?=some (some s):=fun {j s} h=> by
  rcases cP h with ⟨_,e⟩ | h
  ·cases e
  ·exact h
 refine ⟨R.same,R.old,R.new,R.dom,by simp [R.len],fun j s h=> ?_,fun j k xs ys a h1 h2 h3 h4=> ?_⟩
 ·obtain ⟨n,q⟩:=key h
  obtain ⟨w,h1,h2⟩:=R.at_ j s q
  exact ⟨w,by rw [List.getElem?_set_ne n]; exact h1,h2⟩
 ·obtain ⟨n1,q1⟩:=key h1
  obtain ⟨n2,q2⟩:=key h2
  rw [List.getElem?_set_ne n1] at h3
  rw [List.getElem?_set_ne n2] at h4
  exact R.inj j k xs ys a q1 q2 h3 h4
theorem Rs.own {i:Nat} {a:Addr} {vs:List V} {xs:List U} (R:Rs K H0 O0 ps σ H O) (e:aB H H') (n:H a=none) (h:H' a=some (.lst vs)) (r:Rps K (hid H' (a::O)) vs xs):
  Rs K H0 O0 (ps.set i (some (.own xs))) (σ.set i (some (.ref a))) H' (a::O):=by
 have na:a ∉ O:=fun z=> R.dom a z n
 have na0:a ∉ O0:=fun z=> na (R.old a z)
 have n0:H0 a=none:=R.same.free n
 have noref:∀ (j:Nat) (ys:List U),ps[j]?=some (some (.own ys))→σ[j]?≠some (some (.ref a)):=fun j ys h1 h2=> by
  obtain ⟨v,h3,b,ws,h4,h5,_⟩:=R.at_ j _ h1
  rw [h2] at h3
  cases h3
  cases h4
  exact na h5
 refine ⟨R.same.trans e,fun b hb=> List.mem_cons_of_mem _ (R.old b hb),fun b hb=> ?_,fun b hb z=> ?_,by simp [R.len],fun j s q=> ?_,fun j k ys zs b h1 h2 h3 h4=> ?_⟩
 ·rcases List.mem_cons.mp hb with y | y
  ·subst y; exact .inr n0
  ·exact R.new b y
 ·rcases List.mem_cons.mp hb with y | y
  ·subst y; rw [h] at z; cases z
  ·exact R.dom b y (e.free z)
 ·rcases cP q with ⟨e',q'⟩ | ⟨ne,q'⟩
  ·subst e'
   cases q'
   have hi:=aJ q
   rw [List.length_set] at hi
   exact ⟨.ref a,fq (by rw [R.len]; exact hi),a,vs,rfl,List.mem_cons_self,na0,h,r⟩
  ·obtain ⟨w,h1,h2⟩:=R.at_ j s q'
   refine ⟨w,by rw [List.getElem?_set_ne ne]; exact h1,?_⟩
   cases s with
   | val u=> exact Rp.same (bi e n) h2
   | own ys=>
    obtain ⟨b,ws,k1,k2,k3,k4,k5⟩:=h2
    exact ⟨b,ws,k1,List.mem_cons_of_mem _ k2,k3,e _ _ k4,k5.same (bi e n)⟩
   | pin z u=> exact ⟨h2.1,Rp.same (bi e n) h2.2⟩
 ·rcases cP h1 with ⟨e1,q1⟩ | ⟨n1,q1⟩ <;> rcases cP h2 with ⟨e2,q2⟩ | ⟨n2,q2⟩
  ·rw [← e1,← e2]
  ·subst e1
   have hi:=aJ h3
   rw [List.length_set] at hi
   rw [fq hi] at h3
   cases h3
   rw [List.getElem?_set_ne n2] at h4
   exact absurd h4 (noref k zs q2)
  ·subst e2
   have hi:=aJ h4
   rw [List.length_set] at hi
   rw [fq hi] at h4
   cases h4
   rw [List.getElem?_set_ne n1] at h3
   exact absurd h3 (noref j ys q1)
  ·rw [List.getElem?_set_ne n1] at h3
   rw [List.getElem?_set_ne n2] at h4
   exact R.inj j k ys zs b q1 q2 h3 h4
theorem Rs.write {i:Nat} {a:Addr} {vs:List V} {xs ys:List U} (R:Rs K H0 O0 ps σ H O) (hp:ps[i]?=some (some (.own xs))) (hs:σ[i]?=some (some (.ref a))) (r:Rps K (hid H O) vs ys):
  Rs K H0 O0 (ps.set i (some (.own ys))) σ (upd H a (.lst vs)) O:=by
 obtain ⟨v,h1,b,ws,h2,h3,h4,h5,h6⟩:=R.at_ i _ hp
 rw [hs] at h1
 cases h1
 cases h2
 have h0:H0 a=none:=(R.new a h3).resolve_left h4
 have eh:hid (upd H a (.lst vs)) O=hid H O:=jf h3
 refine ⟨R.same.put h0 _,R.old,R.new,fun b hb z=> ?_,by simp [R.len],fun j s q=> ?_,fun j k zs us b q1 q2 q3 q4=> ?_⟩
 ·by_cases e:b=a
  ·subst e; rw [aH] at z; cases z
  ·rw [aK e] at z; exact R.dom b hb z
 ·rcases cP q with ⟨e',q'⟩ | ⟨ne,q'⟩
  ·subst e'
   cases q'
   exact ⟨.ref a,hs,a,vs,rfl,h3,h4,aH,by rw [eh]; exact r⟩
  ·obtain ⟨w,k1,k2⟩:=R.at_ j s q'
   refine ⟨w,k1,?_⟩
   cases s with
   | val u=> exact (show Rp K (hid (upd H a (.lst vs)) O) w u by rw [eh]; exact k2)
   | own zs=>
    obtain ⟨b,us,e1,e2,e3,e4,e5⟩:=k2
    subst e1
    have:b≠a:=fun z=> by subst z; exact ne (R.inj i j xs zs b hp q' hs k1)
    exact ⟨b,us,rfl,e2,e3,by rw [aK this]; exact e4,by rw [eh]; exact e5⟩
   | pin z u=> exact ⟨k2.1,by rw [eh]; exact k2.2⟩
 ·have c1:∃ zs',ps[j]?=some (some (.own zs')):=by
   rcases cP q1 with ⟨e,_⟩ | ⟨_,z⟩
   ·subst e; exact ⟨_,hp⟩
   ·exact ⟨_,z⟩
  have c2:∃ zs',ps[k]?=some (some (.own zs')):=by
   rcases cP q2 with ⟨e,_⟩ | ⟨_,z⟩
   ·subst e; exact ⟨_,hp⟩
   ·exact ⟨_,z⟩
  obtain ⟨_,c1⟩:=c1
  obtain ⟨_,c2⟩:=c2
  exact R.inj j k _ _ b c1 c2 q3 q4
def SubP:PSt→PSt→Prop
 | [],[]=> True
 | none::p,_::q=> SubP p q
 | some s::p,t::q=> t=some s∧SubP p q
 | _,_=> False
theorem SubP.at_:∀ {p q:PSt},SubP p q→p.length=q.length∧∀ (i:Nat) (s:Sl),p[i]?=some (some s)→q[i]?=some (some s)
 | [],[],_=> ⟨rfl,fun i s h=> by simp at h⟩
 | none::p,t::q,h=> by
  obtain ⟨h1,h2⟩:=SubP.at_ (p:=p) (q:=q) h
  refine ⟨by simp [h1],fun i s e=> ?_⟩
  cases i with
  | zero=> simp at e
  | succ i=> exact h2 i s (by simpa using e)
 | some s0::p,t::q,h=> by
  obtain ⟨h0,h⟩:=h
  obtain ⟨h1,h2⟩:=SubP.at_ (p:=p) (q:=q) h
  refine ⟨by simp [h1],fun i s e=> ?_⟩
  cases i with
  | zero=> simp at e; subst e; rw [h0]; rfl
  | succ i=> exact h2 i s (by simpa using e)
 | [],_::_,h=> h.elim
 | none::_,[],h=> h.elim
 | some _::_,[],h=> h.elim
theorem Rs.sub {ps':PSt} (R:Rs K H0 O0 ps σ H O) (h:SubP ps' ps):Rs K H0 O0 ps' σ H O:=by
 obtain ⟨h1,h2⟩:=h.at_
 exact ⟨R.same,R.old,R.new,R.dom,R.len.trans h1.symm,fun i s e=> R.at_ i s (h2 i s e),fun i j xs ys a e1 e2=> R.inj i j xs ys a (h2 _ _ e1) (h2 _ _ e2)⟩
end
def Ev (X:Cx) (H0:Hp) (O0:List Addr) (ps:PSt) (e:Expr) (u:U):Prop:=
 PE X e fun σ H Q=> ∃ O,Rs X.K H0 O0 ps σ H O∧∀ v H',aB H H'→Rp X.K (hid H' O) v u→Q v H'
def EvN (X:Cx) (H0:Hp) (O0:List Addr) (ps:PSt) (e:Expr) (xs:List U):Prop:=
 PE X e fun σ H Q=> ∃ O,Rs X.K H0 O0 ps σ H O∧∀ a vs H',aB H H'→H a=none→H' a=some (.lst vs)→Rps X.K (hid H' (a::O)) vs xs→Q (.ref a) H'
def Tt (X:Cx) (H0:Hp) (O0:List Addr) (ps:PSt) (e:Expr) (b:Bool):Prop:=
 PT X e fun σ H Q=> ∃ O,Rs X.K H0 O0 ps σ H O∧∀ H',aB H H'→Q b H'
def Tw (X:Cx) (H0:Hp) (O0:List Addr) (ps:PSt) (e:Expr) (b:Bool):Prop:=
 PW X e fun σ H Q=> ∃ O,Rs X.K H0 O0 ps σ H O∧∀ H',aB H H'→Q b H'
def EvA (X:Cx) (H0:Hp) (O0:List Addr) (ps:PSt) (es:List Expr) (us:List U):Prop:=
 PA X es fun σ H Q=> ∃ O,Rs X.K H0 O0 ps σ H O∧∀ vs H',aB H H'→Rps X.K (hid H' O) vs us→Q vs H'
theorem PE.mono {X:Cx} {e:Expr} {t t':TE} (h:PE X e t) (m:∀ σ H Q,t' σ H Q→t σ H Q):PE X e t':=fun pins s σ H Q I q=> h pins s σ H Q I (m σ H Q q)
theorem PT.mono {X:Cx} {e:Expr} {t t':TT} (h:PT X e t) (m:∀ σ H Q,t' σ H Q→t σ H Q):PT X e t':=fun pins s σ H Q I q=> h pins s σ H Q I (m σ H Q q)
theorem PW.mono {X:Cx} {e:Expr} {t t':TT} (h:PW X e t) (m:∀ σ H Q,t' σ H Q→t σ H Q):PW X e t':=fun wh pins s σ H Q I q=> h wh pins s σ H Q I (m σ H Q q)
theorem PA.mono {X:Cx} {e:List Expr} {t t':TA} (h:PA X e t) (m:∀ σ H Q,t' σ H Q→t σ H Q):PA X e t':=fun pos pins s σ H Q I q=> h pos pins s σ H Q I (m σ H Q q)
theorem PS.mono {X:Cx} {e:Stmt} {t t':TS} (h:PS X e t) (m:∀ D σ H,t' D σ H→t D σ H):PS X e t':=fun pins s σ H D I q=> h pins s σ H D I (m D σ H q)
theorem PSs.mono {X:Cx} {e:List Stmt} {t t':TS} (h:PSs X e t) (m:∀ D σ H,t' D σ H→t D σ H):PSs X e t':=fun pins s σ H D I q=> h pins s σ H D I (m D σ H q)
section
variable {X:Cx} {H0:Hp} {O0:List Addr} {ps:PSt} {a b c e:Expr} {es:List Expr} {pos p:Pos} {u x y:U} {xs ys us:List U} {i j:Int}
theorem EvN.ev (h:EvN X H0 O0 ps e xs):Ev X H0 O0 ps e (.lst xs):=PE.mono h fun σ H Q ⟨O,R,k⟩=> ⟨O,R,fun a vs H' s n h r=> by
 have na:a ∉ O:=fun z=> R.dom a z n
 have less:aB (hid H' (a::O)) (hid H' O):=ck fun b hb=> List.mem_cons_of_mem _ hb
 exact k _ H' s (.lst (cr h na) (r.same less).len (r.same less).at_)⟩
theorem aa (i:Nat) {x:Str} {u:U} (h:ps[i]?=some (some (.val u))) (hN:X.N[i]?=some x:=by rfl) (hv:Vis X.env.scope x:=by first | exact Or.inl rfl | exact Or.inr (Or.inl rfl) | exact Or.inr (Or.inr rfl)) (hd:(x==("__debug__":Str))=false:=by decide)
  (hcd:(x==("__classdict__":Str))=false:=by decide):Ev X H0 O0 ps (.Name x pos) u:=PE.mono (dl hN hv hd hcd) fun σ H Q ⟨O,R,k⟩=> by
 obtain ⟨v,h1,h2⟩:=R.at_ i _ h
 exact ⟨v,h1,k v H (.refl H) h2⟩
theorem ai {i j pos}:Ev X H0 O0 ps (.Constant (.int i) j pos) (.int i):=PE.mono vo fun _ H _ ⟨_,_,k⟩=> k _ H (.refl H) (.int i)
theorem dY {i j pos}:Ev X H0 O0 ps (.Constant (.bool i) j pos) (.bl i):=PE.mono wn fun _ H _ ⟨_,_,k⟩=> k _ H (.refl H) (.bl i)
theorem mR {i j pos}:Ev X H0 O0 ps (.Constant (.str i) j pos) (.str i):=PE.mono vc fun _ H _ ⟨_,_,k⟩=> k _ H (.refl H) (.str i)
theorem bT {x:Str} {n:String} {pos:Pos} (hg:Gl X x) (hm:X.mg x=none) (hv:bootBuiltins x=some (.type n)) (hn:x≠"__name__":=by decide) (hd:(x==("__debug__":Str))=false:=by decide):Ev X H0 O0 ps (.Name x pos) (.ty (.nm n)):=
 PE.mono (we hg hm hv hn hd) fun _ H _ ⟨_,_,k⟩=> k _ H (.refl H) (.ty n)
theorem two {ta tb:TE} {σ:St} {H:Hp} {Q:VK} {O:List Addr} {r:R2} (R:Rs X.K H0 O0 ps σ H O)
  (ha:∀ σ H Q,(∃ O,Rs X.K H0 O0 ps σ H O∧∀ v H',aB H H'→Rp X.K (hid H' O) v x→Q v H')→ta σ H Q) (hb:∀ σ H Q,(∃ O,Rs X.K H0 O0 ps σ H O∧∀ v H',aB H H'→Rp X.K (hid H' O) v y→Q v H')→tb σ H Q)
  (h:∀ v w H',aB H H'→Rs X.K H0 O0 ps σ H' O→Rp X.K (hid H' O) v x→Rp X.K (hid H' O) w y→r v w H' Q):tOp r ta tb σ H Q:=
 ha σ H _ ⟨O,R,fun v H1 s1 r1=> hb σ H1 _ ⟨O,R.go s1,fun w H2 s2 r2=> h v w H2 (s1.trans s2) (R.go (s1.trans s2)) (r1.same (aY s2)) r2⟩⟩
theorem t3 {op:Operator} {g:Int→Int→Int} (ho:OpR X (binaryOp op) (rI0 fun i j=> .int (g i j))) (ha:Ev X H0 O0 ps a (.int i)) (hb:Ev X H0 O0 ps b (.int j)):Ev X H0 O0 ps (.BinOp a op b pos) (.int (g i j)):=
 PE.mono (qK ho ha hb) fun σ H Q ⟨O,R,k⟩=> two (x:=.int i) (y:=.int j) R (fun _ _ _ z=> z) (fun _ _ _ z=> z) fun v w H' s _ r1 r2=> by
  cases r1; cases r2; exact ⟨i,j,rfl,rfl,k _ H' s (.int _)⟩
theorem km {op:Operator} {C:Int→Int→Prop} {g:Int→Int→Int} (ho:OpR X (binaryOp op) (rI C fun i j=> .int (g i j))) (ha:Ev X H0 O0 ps a (.int i)) (hb:Ev X H0 O0 ps b (.int j)) (hc:C i j):Ev X H0 O0 ps (.BinOp a op b pos) (.int (g i j)):=
 PE.mono (qK ho ha hb) fun σ H Q ⟨O,R,k⟩=> two (x:=.int i) (y:=.int j) R (fun _ _ _ z=> z) (fun _ _ _ z=> z) fun v w H' s _ r1 r2=> by
  cases r1; cases r2; exact ⟨i,j,rfl,rfl,hc,k _ H' s (.int _)⟩
theorem bS (ha:Ev X H0 O0 ps a (.int i)) (hb:Ev X H0 O0 ps b (.int j)):Ev X H0 O0 ps (.BinOp a .Add b pos) (.int (i+j)):=t3 vx ha hb
theorem bC (ha:Ev X H0 O0 ps a (.int i)) (hb:Ev X H0 O0 ps b (.int j)):Ev X H0 O0 ps (.BinOp a .Sub b pos) (.int (i - j)):=t3 vy ha hb
theorem aZ (ha:Ev X H0 O0 ps a (.int i)) (hb:Ev X H0 O0 ps b (.int j)) (hc:IntMulOk i j):Ev X H0 O0 ps (.BinOp a .Mult b pos) (.int (i * j)):=km tj ha hb hc
theorem gH (ha:Ev X H0 O0 ps a (.int i)) (hb:Ev X H0 O0 ps b (.int j)) (hc:tS i j):Ev X H0 O0 ps (.BinOp a .FloorDiv b pos) (.int (i / j)):=km qu ha hb hc
theorem ur (ha:Ev X H0 O0 ps a (.int i)) (hb:Ev X H0 O0 ps b (.int j)) (hc:tV i j):Ev X H0 O0 ps (.BinOp a .FloorDiv b pos) (.int (i.fdiv j)):=km qo ha hb hc
theorem cT (ha:Ev X H0 O0 ps a (.int i)) (hb:Ev X H0 O0 ps b (.int j)) (hc:0 < j):Ev X H0 O0 ps (.BinOp a .Mod b pos) (.int (i % j)):=km vh ha hb hc
theorem fu (ha:Ev X H0 O0 ps a (.int i)) (hb:Ev X H0 O0 ps b (.int j)) (hc:wb i j):Ev X H0 O0 ps (.BinOp a .Pow b pos) (.int (i ^ j.toNat)):=km uu ha hb hc
theorem df (ha:Ev X H0 O0 ps a (.int i)):Ev X H0 O0 ps (.UnaryOp .USub a pos) (.int (-i)):=
 PE.mono (vG uE ha) fun σ H Q ⟨O,R,k⟩=> ⟨O,R,fun v H' s r=> by cases r; exact ⟨i,rfl,k _ H' s (.int _)⟩⟩
end
end L2
namespace L2
open PySem PySem.Spec PyProof.Rows
mutual
def eqW:U→U→Bool
 | .non,.non=> true
 | .bl a,.bl b=> a==b
 | .bl a,.int j=> (if a then 1 else 0)==j
 | .int i,.bl b=> i==(if b then 1 else 0)
 | .int i,.int j=> i==j
 | .str a,.str b=> a==b
 | .tup xs,.tup ys=> eqWs xs ys
 | .lst xs,.lst ys=> eqWs xs ys
 | .lst xs,.scr ys=> eqWs xs ys
 | .scr xs,.lst ys=> eqWs xs ys
 | .scr xs,.scr ys=> eqWs xs ys
 | _,_=> false
def eqWs:List U→List U→Bool
 | [],[]=> true
 | x::xs,y::ys=> eqW x y && eqWs xs ys
 | _,_=> false
end
mutual
def okU:Nat→U→Bool
 | _,.ty _=> false
 | _,.dic=> false
 | 0,.tup _=> false
 | 0,.lst _=> false
 | 0,.scr _=> false
 | n+1,.tup xs=> okUs n xs
 | n+1,.lst xs=> okUs n xs
 | n+1,.scr xs=> okUs n xs
 | _,_=> true
def okUs:Nat→List U→Bool
 | _,[]=> true
 | n,x::xs=> okU n x && okUs n xs
end
theorem ge:∀ {n:Nat} {xs:List U} {i:Nat} {x:U},okUs n xs=true→xs[i]?=some x→okU n x=true
 | n,[],i,x,_,h=> by simp at h
 | n,y::xs,0,x,h,e=> by simp at e; subst e; simp [okUs] at h; exact h.1
 | n,y::xs,i+1,x,h,e=> by simp [okUs] at h; exact ge (i:=i) h.2 (by simpa using e)
theorem cO:∀ (xs ys:List U),((List.range (min xs.length ys.length)).all (fun j=> eqW (xs.getD j .non) (ys.getD j .non)) && xs.length==ys.length)=eqWs xs ys
 | [],[]=> rfl
 | [],y::ys=> by simp [eqWs]
 | x::xs,[]=> by simp [eqWs]
 | x::xs,y::ys=> by
  have ih:=cO xs ys
  rw [eqWs,← ih]
  simp only [List.length_cons,Nat.succ_min_succ]
  rw [List.range_succ_eq_map,List.all_cons,List.all_map]
  have e:((xs.length+1==ys.length+1))=(xs.length==ys.length):=by simp
  rw [e,Bool.and_assoc]
  rfl
theorem Rp.one {X:Cx} {pins:List (Addr×Obj)} {σ:St} {H:Hp} {s:Shared} (I:Inv X pins σ H s) {v:V} {x:U} (h:Rp X.K H v x):∀ {n:Nat} {y:U},Rp X.K H v y→okU n x=true→eqW x y=true:=by
 have key:∀ {vs ws:List V} {xs ys:List U},vs=ws→vs.length=xs.length→ws.length=ys.length→(∀ (i:Nat) (x y:U),xs[i]?=some x→ys[i]?=some y→eqW x y=true)→eqWs xs ys=true:=fun {vs ws xs ys} e h1 h2 hh=> by
  subst e
  rw [← cO,Bool.and_eq_true,iQ]
  refine ⟨fun j hj=> ?_,by simp [← h1,← h2]⟩
  have j1:j < xs.length:=by omega
  have j2:j < ys.length:=by omega
  rw [List.getD_eq_getElem?_getD,List.getElem?_eq_getElem j1,List.getD_eq_getElem?_getD,List.getElem?_eq_getElem j2]
  exact hh j _ _ (List.getElem?_eq_getElem j1) (List.getElem?_eq_getElem j2)
 have key2:∀ {vs:List V} {xs ys:List U} {n:Nat},vs.length=xs.length→(∀ (i:Nat) (v:V) (x:U),vs[i]?=some v→xs[i]?=some x→∀ {n:Nat} {y:U},Rp X.K H v y→okU n x=true→eqW x y=true)→(∀ (i:Nat) (v:V) (y:U),vs[i]?=some v→ys[i]?=some y→Rp X.K H v y)→okUs n xs=true→
   ∀ (i:Nat) (x y:U),xs[i]?=some x→ys[i]?=some y→eqW x y=true:=fun {vs xs ys n} h1 ih hi ok i x y e1 e2=> by
  have hlt:i < vs.length:=by rw [h1]; exact aJ e1
  exact ih i _ x (List.getElem?_eq_getElem hlt) e1 (hi i _ y (List.getElem?_eq_getElem hlt) e2) (ge ok e1)
 induction h with
 | non=> intro n y q _; cases q; rfl
 | bl b=> intro n y q _; cases q; simp [eqW]
 | int i=> intro n y q _; cases q; simp [eqW]
 | str i=> intro n y q _; cases q; simp [eqW]
 | ty=> intro n y q ok; simp [okU] at ok
 | dic=> intro n y q ok; simp [okU] at ok
 | xc=> intro n y q ok; simp [okU] at ok
 | @scr a vs xs hq hl hi ih=>
  intro n y q ok
  cases n with
  | zero=> simp [okU] at ok
  | succ n=>
   rw [okU] at ok
   cases q with
   | scr hq' hl' hi'=> rw [eqW]; have e:=I.list_inj hq hq'; subst e; exact key rfl hl hl' (key2 hl (fun i v x a b=> ih i v x a b) hi' ok)
   | lst hq' hl' hi'=> rw [eqW]; have e:=I.list_inj hq (SqL.of hq'); subst e; exact key rfl hl hl' (key2 hl (fun i v x a b=> ih i v x a b) hi' ok)
   | xc hq' kk=>
    exfalso
    obtain ⟨_,_,pl,_⟩:=I.list hq
    obtain ⟨o,n,e,c,_⟩:=pl
    exact PySem.W.XcOk.off (I.hok _ _ hq').1 e c
   | dic hq'=>
    exfalso
    obtain ⟨_,_,pl,_⟩:=I.list hq
    obtain ⟨o,n,e,c,_⟩:=pl
    obtain ⟨_,_,_,_,o',_,_,e',ex,_⟩:=I.hok _ _ hq'
    rw [e] at e'; cases e'
    rw [ex.1] at c; exact absurd (Value.type.inj c) (by decide)
   | tup hq' hl' hi'=>
    exfalso
    obtain ⟨_,_,pl,_⟩:=I.list hq
    obtain ⟨_,_,pt,_⟩:=I.tuple hq'
    exact SeqAt.ne_of_list_tuple pl.isList pt rfl
 | @tup a vs xs hq hl hi ih=>
  intro n y q ok
  cases n with
  | zero=> simp [okU] at ok
  | succ n=>
   rw [okU] at ok
   cases q with
   | tup hq' hl' hi'=> rw [eqW]; have e:=I.tuple_inj hq hq'; subst e; exact key rfl hl hl' (key2 hl (fun i v x a b=> ih i v x a b) hi' ok)
   | scr hq' hl' hi'=>
    exfalso
    obtain ⟨_,_,pl,_⟩:=I.list hq'
    obtain ⟨_,_,pt,_⟩:=I.tuple hq
    exact SeqAt.ne_of_list_tuple pl.isList pt rfl
   | lst hq' hl' hi'=>
    exfalso
    obtain ⟨_,_,pl,_⟩:=I.list (SqL.of hq')
    obtain ⟨_,_,pt,_⟩:=I.tuple hq
    exact SeqAt.ne_of_list_tuple pl.isList pt rfl
   | xc hq' kk=>
    exfalso
    obtain ⟨_,_,pt,_⟩:=I.tuple hq
    obtain ⟨o,e,c,_⟩:=pt
    exact PySem.W.XcOk.off (I.hok _ _ hq').1 e c
   | dic hq'=>
    exfalso
    obtain ⟨_,_,pt,_⟩:=I.tuple hq
    obtain ⟨o,e,c,_⟩:=pt
    obtain ⟨_,_,_,_,o',_,_,e',ex,_⟩:=I.hok _ _ hq'
    rw [e] at e'; cases e'
    rw [ex.1] at c; exact absurd (Value.type.inj c) (by decide)
 | @lst a vs xs hq hl hi ih=>
  intro n y q ok
  cases n with
  | zero=> simp [okU] at ok
  | succ n=>
   rw [okU] at ok
   cases q with
   | lst hq' hl' hi'=> rw [eqW]; have e:=I.list_inj (SqL.of hq) (SqL.of hq'); subst e; exact key rfl hl hl' (key2 hl (fun i v x a b=> ih i v x a b) hi' ok)
   | scr hq' hl' hi'=> rw [eqW]; have e:=I.list_inj (SqL.of hq) hq'; subst e; exact key rfl hl hl' (key2 hl (fun i v x a b=> ih i v x a b) hi' ok)
   | tup hq' hl' hi'=>
    exfalso
    obtain ⟨_,_,pl,_⟩:=I.list (SqL.of hq)
    obtain ⟨_,_,pt,_⟩:=I.tuple hq'
    exact SeqAt.ne_of_list_tuple pl.isList pt rfl
   | xc hq' kk=>
    exfalso
    rw [hq] at hq'; cases hq'
   | dic hq'=>
    exfalso
    rw [hq] at hq'; cases hq'
theorem IsU.list {X:Cx} {pins:List (Addr×Obj)} {σ:St} {H:Hp} {s:Shared} (I:Inv X pins σ H s) {a:Addr} {xs:List U} {vs:List V} (h:SqL X.K H a vs) (hl:vs.length=xs.length):∃ its:List Value,aG vs its∧s.heap.IsList a its.toArray∧its.length=xs.length:=by
 obtain ⟨its,r,pl,_⟩:=I.list h
 exact ⟨its,r,pl.isList,by rw [← r.length,hl]⟩
theorem IsU.tup {X:Cx} {pins:List (Addr×Obj)} {σ:St} {H:Hp} {s:Shared} (I:Inv X pins σ H s) {a:Addr} {xs:List U} {vs:List V} (h:SqT X.K H a vs) (hl:vs.length=xs.length):∃ its:List Value,aG vs its∧IsTup s.heap a its.toArray∧its.length=xs.length:=by
 obtain ⟨its,r,pl,_⟩:=I.tuple h
 exact ⟨its,r,pl,by rw [← r.length,hl]⟩
section
variable {X:Cx} {pins:List (Addr×Obj)} {σ:St} {H:Hp} {s:Shared}
theorem bU (I:Inv X pins σ H s) {n:Nat} {vs ws:List V} {xs ys:List U} {its its2:List Value} (r1:aG vs its) (r2:aG ws its2) (hl1:vs.length=xs.length) (hl2:ws.length=ys.length)
  (h1:∀ (i:Nat) (v:V) (x:U),vs[i]?=some v→xs[i]?=some x→Rp X.K H v x) (h2:∀ (i:Nat) (v:V) (x:U),ws[i]?=some v→ys[i]?=some x→Rp X.K H v x) (ok1:okUs n xs=true) (ok2:okUs n ys=true) {A:Around}
  (rc0:∀ (x y:U) (v w:V) (p q:Value),Rp X.K H v x→Rp X.K H w y→aV v p→aV w q→okU n x=true→okU n y=true→SeqAt.RcAt A.in1 s p q (eqW x y)) (hu:A.units+n+1 < cLine)
  (j:Nat) (j1:j < its.length) (j2:j < its2.length):SeqAt.EqAt A.in1 s its[j] its2[j] (eqW (xs.getD j .non) (ys.getD j .non)):=by
 have a1:j < vs.length:=by rw [r1.length]; exact j1
 have a2:j < ws.length:=by rw [r2.length]; exact j2
 have b1:j < xs.length:=by omega
 have b2:j < ys.length:=by omega
 rw [List.getD_eq_getElem?_getD,List.getElem?_eq_getElem b1,List.getD_eq_getElem?_getD,List.getElem?_eq_getElem b2,Option.getD_some,Option.getD_some]
 have R1:=h1 j vs[j] xs[j] (List.getElem?_eq_getElem a1) (List.getElem?_eq_getElem b1)
 have R2:=h2 j ws[j] ys[j] (List.getElem?_eq_getElem a2) (List.getElem?_eq_getElem b2)
 obtain ⟨u1,e1,q1⟩:=r1.get (List.getElem?_eq_getElem a1)
 obtain ⟨u2,e2,q2⟩:=r2.get (List.getElem?_eq_getElem a2)
 rw [List.getElem?_eq_getElem j1] at e1
 rw [List.getElem?_eq_getElem j2] at e2
 cases e1; cases e2
 have o1:=ge ok1 (List.getElem?_eq_getElem b1)
 have o2:=ge ok2 (List.getElem?_eq_getElem b2)
 generalize vs[j]=v at *
 generalize ws[j]=w at *
 generalize its[j]=p at *
 generalize its2[j]=q at *
 generalize xs[j]=x at *
 generalize ys[j]=y at *
 have main:=rc0 x y v w p q R1 R2 q1 q2 o1 o2
 have ref_ref:∀ (a b:Addr),p=.ref a→q=.ref b→SeqAt.EqAt A.in1 s p q (eqW x y):=fun a b ea eb=> by
  subst ea eb
  by_cases e:a=b
  ·subst e
   have e2:v=w:=q1.inj q2
   subst e2
   rw [R1.one I R2 o1]
   exact SeqAt.EqAt.same _
  ·exact SeqAt.EqAt.of_refs e main
 have hu1:A.in1.units < cLine:=by show A.units+1 < _; omega
 cases R1 with
 | non=>
  cases (show p=Value.none from q1)
  cases R2 with
  | non=> cases (show q=Value.none from q2); exact SeqAt.EqAt.same _
  | bl b=> cases (show q=Value.bool b from q2); exact SeqAt.EqAt.none_bool b
  | int i=> obtain ⟨t,rfl⟩:=(show ∃ t,q=Value.int i t from q2); exact SeqAt.EqAt.none_int i t
  | str i=> obtain ⟨t,rfl⟩:=(show ∃ t,q=Value.str i t from q2); exact SeqAt.EqAt.none_str i t
  | ty=> simp [okU] at o2
  | dic=> simp [okU] at o2
  | xc=> simp [okU] at o2
  | scr hq hl hi=> cases q2; obtain ⟨_,_,pl,_⟩:=IsU.list I hq hl; exact SeqAt.EqAt.none_list pl hu1
  | tup hq hl hi=> cases q2; obtain ⟨_,_,pl,_⟩:=IsU.tup I hq hl; exact SeqAt.EqAt.none_tuple pl hu1
  | lst hq hl hi=> cases q2; obtain ⟨_,_,pl,_⟩:=IsU.list I (SqL.of hq) hl; exact SeqAt.EqAt.none_list pl hu1
 | bl c=>
  cases (show p=Value.bool c from q1)
  cases R2 with
  | non=> cases (show q=Value.none from q2); exact SeqAt.EqAt.bool_none c
  | bl b=> cases (show q=Value.bool b from q2); exact SeqAt.EqAt.bool_bool c b
  | int i=> obtain ⟨t,rfl⟩:=(show ∃ t,q=Value.int i t from q2); exact SeqAt.EqAt.bool_int c i t
  | str i=> obtain ⟨t,rfl⟩:=(show ∃ t,q=Value.str i t from q2); exact SeqAt.EqAt.bool_str c i t
  | ty=> simp [okU] at o2
  | dic=> simp [okU] at o2
  | xc=> simp [okU] at o2
  | scr hq hl hi=> cases q2; obtain ⟨_,_,pl,_⟩:=IsU.list I hq hl; exact SeqAt.EqAt.bool_list c pl hu1
  | tup hq hl hi=> cases q2; obtain ⟨_,_,pl,_⟩:=IsU.tup I hq hl; exact SeqAt.EqAt.bool_tuple c pl hu1
  | lst hq hl hi=> cases q2; obtain ⟨_,_,pl,_⟩:=IsU.list I (SqL.of hq) hl; exact SeqAt.EqAt.bool_list c pl hu1
 | int c=>
  obtain ⟨t0,rfl⟩:=(show ∃ t,p=Value.int c t from q1)
  cases R2 with
  | non=> cases (show q=Value.none from q2); exact SeqAt.EqAt.int_none c t0
  | bl b=> cases (show q=Value.bool b from q2); exact SeqAt.EqAt.int_bool c t0 b
  | int i=> obtain ⟨t,rfl⟩:=(show ∃ t,q=Value.int i t from q2); exact SeqAt.EqAt.int_int c t0 i t
  | str i=> obtain ⟨t,rfl⟩:=(show ∃ t,q=Value.str i t from q2); exact SeqAt.EqAt.int_str c t0 i t
  | ty=> simp [okU] at o2
  | dic=> simp [okU] at o2
  | xc=> simp [okU] at o2
  | scr hq hl hi=> cases q2; obtain ⟨_,_,pl,_⟩:=IsU.list I hq hl; exact SeqAt.EqAt.int_list c t0 pl hu1
  | tup hq hl hi=> cases q2; obtain ⟨_,_,pl,_⟩:=IsU.tup I hq hl; exact SeqAt.EqAt.int_tuple c t0 pl hu1
  | lst hq hl hi=> cases q2; obtain ⟨_,_,pl,_⟩:=IsU.list I (SqL.of hq) hl; exact SeqAt.EqAt.int_list c t0 pl hu1
 | str c=>
  obtain ⟨t0,rfl⟩:=(show ∃ t,p=Value.str c t from q1)
  cases R2 with
  | non=> cases (show q=Value.none from q2); exact SeqAt.EqAt.str_none c t0
  | bl b=> cases (show q=Value.bool b from q2); exact SeqAt.EqAt.str_bool c t0 b
  | int i=> obtain ⟨t,rfl⟩:=(show ∃ t,q=Value.int i t from q2); exact SeqAt.EqAt.str_int c t0 i t
  | str i=> obtain ⟨t,rfl⟩:=(show ∃ t,q=Value.str i t from q2); exact SeqAt.EqAt.str_str c t0 i t
  | ty=> simp [okU] at o2
  | dic=> simp [okU] at o2
  | xc=> simp [okU] at o2
  | scr hq hl hi=> cases q2; obtain ⟨_,_,pl,_⟩:=IsU.list I hq hl; exact SeqAt.EqAt.str_list c t0 pl hu1
  | tup hq hl hi=> cases q2; obtain ⟨_,_,pl,_⟩:=IsU.tup I hq hl; exact SeqAt.EqAt.str_tuple c t0 pl hu1
  | lst hq hl hi=> cases q2; obtain ⟨_,_,pl,_⟩:=IsU.list I (SqL.of hq) hl; exact SeqAt.EqAt.str_list c t0 pl hu1
 | ty=> simp [okU] at o1
 | dic=> simp [okU] at o1
 | xc=> simp [okU] at o1
 | @scr a vs xs hq hl hi=>
  cases q1
  obtain ⟨_,_,pl,_⟩:=IsU.list I hq hl
  cases R2 with
  | non=> cases (show q=Value.none from q2); exact SeqAt.EqAt.list_none pl hu1
  | bl b=> cases (show q=Value.bool b from q2); exact SeqAt.EqAt.list_bool b pl hu1
  | int i=> obtain ⟨t,rfl⟩:=(show ∃ t,q=Value.int i t from q2); exact SeqAt.EqAt.list_int i t pl hu1
  | str i=> obtain ⟨t,rfl⟩:=(show ∃ t,q=Value.str i t from q2); exact SeqAt.EqAt.list_str i t pl hu1
  | ty=> simp [okU] at o2
  | dic=> simp [okU] at o2
  | xc=> simp [okU] at o2
  | scr=> exact ref_ref _ _ rfl q2
  | tup=> exact ref_ref _ _ rfl q2
  | lst=> exact ref_ref _ _ rfl q2
 | @lst a vs xs hq hl hi=>
  cases q1
  obtain ⟨_,_,pl,_⟩:=IsU.list I (SqL.of hq) hl
  cases R2 with
  | non=> cases (show q=Value.none from q2); exact SeqAt.EqAt.list_none pl hu1
  | bl b=> cases (show q=Value.bool b from q2); exact SeqAt.EqAt.list_bool b pl hu1
  | int i=> obtain ⟨t,rfl⟩:=(show ∃ t,q=Value.int i t from q2); exact SeqAt.EqAt.list_int i t pl hu1
  | str i=> obtain ⟨t,rfl⟩:=(show ∃ t,q=Value.str i t from q2); exact SeqAt.EqAt.list_str i t pl hu1
  | ty=> simp [okU] at o2
  | dic=> simp [okU] at o2
  | xc=> simp [okU] at o2
  | scr=> exact ref_ref _ _ rfl q2
  | tup=> exact ref_ref _ _ rfl q2
  | lst=> exact ref_ref _ _ rfl q2
 | @tup a vs xs hq hl hi=>
  cases q1
  obtain ⟨_,_,pl,_⟩:=IsU.tup I hq hl
  cases R2 with
  | non=> cases (show q=Value.none from q2); exact SeqAt.EqAt.tuple_none pl hu1
  | bl b=> cases (show q=Value.bool b from q2); exact SeqAt.EqAt.tuple_bool b pl hu1
  | int i=> obtain ⟨t,rfl⟩:=(show ∃ t,q=Value.int i t from q2); exact SeqAt.EqAt.tuple_int i t pl hu1
  | str i=> obtain ⟨t,rfl⟩:=(show ∃ t,q=Value.str i t from q2); exact SeqAt.EqAt.tuple_str i t pl hu1
  | ty=> simp [okU] at o2
  | dic=> simp [okU] at o2
  | xc=> simp [okU] at o2
  | scr=> exact ref_ref _ _ rfl q2
  | tup=> exact ref_ref _ _ rfl q2
  | lst=> exact ref_ref _ _ rfl q2
theorem ff {A:Around} {n:Nat} {a b:Addr} {xs ys:List U} {its its2:List Value} (p1:s.heap.IsList a its.toArray) (p2:s.heap.IsList b its2.toArray) (l1:its.length=xs.length) (l2:its2.length=ys.length) (hu:A.units+n < cLine)
  (he:∀ (j:Nat) (j1:j < its.length) (j2:j < its2.length),SeqAt.EqAt A.in1 s its[j] its2[j] (eqW (xs.getD j .non) (ys.getD j .non))):SeqAt.RcAt A s (.ref a) (.ref b) (eqWs xs ys):=by
 by_cases hl:its.length=its2.length
 ·have:=SeqAt.RcAt.lists (A:=A) (s:=s) (e:=fun j=> eqW (xs.getD j .non) (ys.getD j .non)) p1 p2 (by simpa using hl) (by omega) (fun j h1 h2=> by simpa using he j (by simpa using h1) (by simpa using h2))
  rw [← cO,← l1,← l2,hl,Nat.min_self,beq_self_eq_true,Bool.and_true]
  rwa [List.size_toArray,hl] at this
 ·have:=SeqAt.RcAt.lists_lengths (A:=A) (s:=s) p1 p2 (by simpa using hl) (by omega)
  rw [← cO,← l1,← l2,show (its.length==its2.length)=false by simpa using hl,Bool.and_false]
  exact this
theorem sK {A:Around} {n:Nat} {a b:Addr} {xs ys:List U} {its its2:List Value} (p1:IsTup s.heap a its.toArray) (p2:IsTup s.heap b its2.toArray) (l1:its.length=xs.length) (l2:its2.length=ys.length) (hu:A.units+n < cLine)
  (he:∀ (j:Nat) (j1:j < its.length) (j2:j < its2.length),SeqAt.EqAt A.in1 s its[j] its2[j] (eqW (xs.getD j .non) (ys.getD j .non))):SeqAt.RcAt A s (.ref a) (.ref b) (eqWs xs ys):=by
 have:=SeqAt.RcAt.tuples (A:=A) (s:=s) (e:=fun j=> eqW (xs.getD j .non) (ys.getD j .non)) p1 p2 (by omega) (fun j h1 h2=> by simpa using he j (by simpa using h1) (by simpa using h2))
 rw [List.size_toArray,List.size_toArray,l1,l2,cO] at this
 exact this
theorem vU (I:Inv X pins σ H s):∀ (n:Nat) (A:Around) (x y:U) (v w:V) (p q:Value),Rp X.K H v x→Rp X.K H w y→aV v p→aV w q→okU n x=true→okU n y=true→A.units+n < cLine→SeqAt.RcAt A s p q (eqW x y):=by
 intro n
 induction n with
 | zero=>
  intro A x y v w p q R1 R2 q1 q2 o1 o2 hu
  cases R1 with
  | non=>
   cases (show p=Value.none from q1)
   cases R2 with
   | non=> cases (show q=Value.none from q2); exact SeqAt.RcAt.none_none
   | bl b=> cases (show q=Value.bool b from q2); exact SeqAt.RcAt.none_bool b
   | int i=> obtain ⟨t,rfl⟩:=(show ∃ t,q=Value.int i t from q2); exact SeqAt.RcAt.none_int i t
   | str i=> obtain ⟨t,rfl⟩:=(show ∃ t,q=Value.str i t from q2); exact SeqAt.RcAt.none_str i t
   | _=> simp [okU] at o2
  | bl c=>
   cases (show p=Value.bool c from q1)
   cases R2 with
   | non=> cases (show q=Value.none from q2); exact SeqAt.RcAt.bool_none c
   | bl b=> cases (show q=Value.bool b from q2); exact SeqAt.RcAt.bool_bool c b
   | int i=> obtain ⟨t,rfl⟩:=(show ∃ t,q=Value.int i t from q2); exact SeqAt.RcAt.bool_int c i t
   | str i=> obtain ⟨t,rfl⟩:=(show ∃ t,q=Value.str i t from q2); exact SeqAt.RcAt.bool_str c i t
   | _=> simp [okU] at o2
  | int c=>
   obtain ⟨t0,rfl⟩:=(show ∃ t,p=Value.int c t from q1)
   cases R2 with
   | non=> cases (show q=Value.none from q2); exact SeqAt.RcAt.int_none c t0
   | bl b=> cases (show q=Value.bool b from q2); exact SeqAt.RcAt.int_bool c t0 b
   | int i=> obtain ⟨t,rfl⟩:=(show ∃ t,q=Value.int i t from q2); exact SeqAt.RcAt.int_int c t0 i t
   | str i=> obtain ⟨t,rfl⟩:=(show ∃ t,q=Value.str i t from q2); exact SeqAt.RcAt.int_str c t0 i t
   | _=> simp [okU] at o2
  | str c=>
   obtain ⟨t0,rfl⟩:=(show ∃ t,p=Value.str c t from q1)
   cases R2 with
   | non=> cases (show q=Value.none from q2); exact SeqAt.RcAt.str_none c t0
   | bl b=> cases (show q=Value.bool b from q2); exact SeqAt.RcAt.str_bool c t0 b
   | int i=> obtain ⟨t,rfl⟩:=(show ∃ t,q=Value.int i t from q2); exact SeqAt.RcAt.str_int c t0 i t
   | str i=> obtain ⟨t,rfl⟩:=(show ∃ t,q=Value.str i t from q2); exact SeqAt.RcAt.str_str c t0 i t
   | _=> simp [okU] at o2
  | _=> simp [okU] at o1
 | succ n ih=>
  intro A x y v w p q R1 R2 q1 q2 o1 o2 hu
  have hu1:A.units < cLine:=by omega
  have rc0:∀ (x y:U) (v w:V) (p q:Value),Rp X.K H v x→Rp X.K H w y→aV v p→aV w q→okU n x=true→okU n y=true→SeqAt.RcAt A.in1 s p q (eqW x y):=fun x y v w p q r1 r2 k1 k2 z1 z2=> ih A.in1 x y v w p q r1 r2 k1 k2 z1 z2 (by show A.units+1+n < _; omega)
  cases R1 with
  | non=>
   cases (show p=Value.none from q1)
   cases R2 with
   | non=> cases (show q=Value.none from q2); exact SeqAt.RcAt.none_none
   | bl b=> cases (show q=Value.bool b from q2); exact SeqAt.RcAt.none_bool b
   | int i=> obtain ⟨t,rfl⟩:=(show ∃ t,q=Value.int i t from q2); exact SeqAt.RcAt.none_int i t
   | str i=> obtain ⟨t,rfl⟩:=(show ∃ t,q=Value.str i t from q2); exact SeqAt.RcAt.none_str i t
   | ty=> simp [okU] at o2
   | dic=> simp [okU] at o2
   | xc=> simp [okU] at o2
   | scr hq hl hi=> cases q2; obtain ⟨_,_,pl,_⟩:=IsU.list I hq hl; exact SeqAt.RcAt.none_list pl hu1
   | tup hq hl hi=> cases q2; obtain ⟨_,_,pl,_⟩:=IsU.tup I hq hl; exact SeqAt.RcAt.none_tuple pl hu1
   | lst hq hl hi=> cases q2; obtain ⟨_,_,pl,_⟩:=IsU.list I (SqL.of hq) hl; exact SeqAt.RcAt.none_list pl hu1
  | bl c=>
   cases (show p=Value.bool c from q1)
   cases R2 with
   | non=> cases (show q=Value.none from q2); exact SeqAt.RcAt.bool_none c
   | bl b=> cases (show q=Value.bool b from q2); exact SeqAt.RcAt.bool_bool c b
   | int i=> obtain ⟨t,rfl⟩:=(show ∃ t,q=Value.int i t from q2); exact SeqAt.RcAt.bool_int c i t
   | str i=> obtain ⟨t,rfl⟩:=(show ∃ t,q=Value.str i t from q2); exact SeqAt.RcAt.bool_str c i t
   | ty=> simp [okU] at o2
   | dic=> simp [okU] at o2
   | xc=> simp [okU] at o2
   | scr hq hl hi=> cases q2; obtain ⟨_,_,pl,_⟩:=IsU.list I hq hl; exact SeqAt.RcAt.bool_list c pl hu1
   | tup hq hl hi=> cases q2; obtain ⟨_,_,pl,_⟩:=IsU.tup I hq hl; exact SeqAt.RcAt.bool_tuple c pl hu1
   | lst hq hl hi=> cases q2; obtain ⟨_,_,pl,_⟩:=IsU.list I (SqL.of hq) hl; exact SeqAt.RcAt.bool_list c pl hu1
  | int c=>
   obtain ⟨t0,rfl⟩:=(show ∃ t,p=Value.int c t from q1)
   cases R2 with
   | non=> cases (show q=Value.none from q2); exact SeqAt.RcAt.int_none c t0
   | bl b=> cases (show q=Value.bool b from q2); exact SeqAt.RcAt.int_bool c t0 b
   | int i=> obtain ⟨t,rfl⟩:=(show ∃ t,q=Value.int i t from q2); exact SeqAt.RcAt.int_int c t0 i t
   | str i=> obtain ⟨t,rfl⟩:=(show ∃ t,q=Value.str i t from q2); exact SeqAt.RcAt.int_str c t0 i t
   | ty=> simp [okU] at o2
   | dic=> simp [okU] at o2
   | xc=> simp [okU] at o2
   | scr hq hl hi=> cases q2; obtain ⟨_,_,pl,_⟩:=IsU.list I hq hl; exact SeqAt.RcAt.int_list c t0 pl hu1
   | tup hq hl hi=> cases q2; obtain ⟨_,_,pl,_⟩:=IsU.tup I hq hl; exact SeqAt.RcAt.int_tuple c t0 pl hu1
   | lst hq hl hi=> cases q2; obtain ⟨_,_,pl,_⟩:=IsU.list I (SqL.of hq) hl; exact SeqAt.RcAt.int_list c t0 pl hu1
  | str c=>
   obtain ⟨t0,rfl⟩:=(show ∃ t,p=Value.str c t from q1)
   cases R2 with
   | non=> cases (show q=Value.none from q2); exact SeqAt.RcAt.str_none c t0
   | bl b=> cases (show q=Value.bool b from q2); exact SeqAt.RcAt.str_bool c t0 b
   | int i=> obtain ⟨t,rfl⟩:=(show ∃ t,q=Value.int i t from q2); exact SeqAt.RcAt.str_int c t0 i t
   | str i=> obtain ⟨t,rfl⟩:=(show ∃ t,q=Value.str i t from q2); exact SeqAt.RcAt.str_str c t0 i t
   | ty=> simp [okU] at o2
   | dic=> simp [okU] at o2
   | xc=> simp [okU] at o2
   | scr hq hl hi=> cases q2; obtain ⟨_,_,pl,_⟩:=IsU.list I hq hl; exact SeqAt.RcAt.str_list c t0 pl hu1
   | tup hq hl hi=> cases q2; obtain ⟨_,_,pl,_⟩:=IsU.tup I hq hl; exact SeqAt.RcAt.str_tuple c t0 pl hu1
   | lst hq hl hi=> cases q2; obtain ⟨_,_,pl,_⟩:=IsU.list I (SqL.of hq) hl; exact SeqAt.RcAt.str_list c t0 pl hu1
  | ty=> simp [okU] at o1
  | dic=> simp [okU] at o1
  | xc=> simp [okU] at o1
  | @scr a vs xs hq hl hi=>
   cases q1
   obtain ⟨its,r1,pl,l1⟩:=IsU.list I hq hl
   rw [okU] at o1
   cases R2 with
   | non=> cases (show q=Value.none from q2); exact SeqAt.RcAt.list_none pl hu1
   | bl b=> cases (show q=Value.bool b from q2); exact SeqAt.RcAt.list_bool b pl hu1
   | int i=> obtain ⟨t,rfl⟩:=(show ∃ t,q=Value.int i t from q2); exact SeqAt.RcAt.list_int i t pl hu1
   | str i=> obtain ⟨t,rfl⟩:=(show ∃ t,q=Value.str i t from q2); exact SeqAt.RcAt.list_str i t pl hu1
   | ty=> simp [okU] at o2
   | dic=> simp [okU] at o2
   | xc=> simp [okU] at o2
   | scr hq' hl' hi'=> cases q2; rw [okU] at o2; obtain ⟨its2,r2,pl2,l2⟩:=IsU.list I hq' hl'; rw [eqW]; exact ff pl pl2 l1 l2 hu (bU I r1 r2 hl hl' hi hi' o1 o2 rc0 (by omega))
   | lst hq' hl' hi'=> cases q2; rw [okU] at o2; obtain ⟨its2,r2,pl2,l2⟩:=IsU.list I (SqL.of hq') hl'; rw [eqW]; exact ff pl pl2 l1 l2 hu (bU I r1 r2 hl hl' hi hi' o1 o2 rc0 (by omega))
   | tup hq' hl' hi'=> cases q2; obtain ⟨its2,r2,pl2,l2⟩:=IsU.tup I hq' hl'; exact SeqAt.RcAt.list_tuple pl pl2 hu1
  | @lst a vs xs hq hl hi=>
   cases q1
   obtain ⟨its,r1,pl,l1⟩:=IsU.list I (SqL.of hq) hl
   rw [okU] at o1
   cases R2 with
   | non=> cases (show q=Value.none from q2); exact SeqAt.RcAt.list_none pl hu1
   | bl b=> cases (show q=Value.bool b from q2); exact SeqAt.RcAt.list_bool b pl hu1
   | int i=> obtain ⟨t,rfl⟩:=(show ∃ t,q=Value.int i t from q2); exact SeqAt.RcAt.list_int i t pl hu1
   | str i=> obtain ⟨t,rfl⟩:=(show ∃ t,q=Value.str i t from q2); exact SeqAt.RcAt.list_str i t pl hu1
   | ty=> simp [okU] at o2
   | dic=> simp [okU] at o2
   | xc=> simp [okU] at o2
   | scr hq' hl' hi'=> cases q2; rw [okU] at o2; obtain ⟨its2,r2,pl2,l2⟩:=IsU.list I hq' hl'; rw [eqW]; exact ff pl pl2 l1 l2 hu (bU I r1 r2 hl hl' hi hi' o1 o2 rc0 (by omega))
   | lst hq' hl' hi'=> cases q2; rw [okU] at o2; obtain ⟨its2,r2,pl2,l2⟩:=IsU.list I (SqL.of hq') hl'; rw [eqW]; exact ff pl pl2 l1 l2 hu (bU I r1 r2 hl hl' hi hi' o1 o2 rc0 (by omega))
   | tup hq' hl' hi'=> cases q2; obtain ⟨its2,r2,pl2,l2⟩:=IsU.tup I hq' hl'; exact SeqAt.RcAt.list_tuple pl pl2 hu1
  | @tup a vs xs hq hl hi=>
   cases q1
   obtain ⟨its,r1,pl,l1⟩:=IsU.tup I hq hl
   rw [okU] at o1
   cases R2 with
   | non=> cases (show q=Value.none from q2); exact SeqAt.RcAt.tuple_none pl hu1
   | bl b=> cases (show q=Value.bool b from q2); exact SeqAt.RcAt.tuple_bool b pl hu1
   | int i=> obtain ⟨t,rfl⟩:=(show ∃ t,q=Value.int i t from q2); exact SeqAt.RcAt.tuple_int i t pl hu1
   | str i=> obtain ⟨t,rfl⟩:=(show ∃ t,q=Value.str i t from q2); exact SeqAt.RcAt.tuple_str i t pl hu1
   | ty=> simp [okU] at o2
   | dic=> simp [okU] at o2
   | xc=> simp [okU] at o2
   | scr hq' hl' hi'=> cases q2; obtain ⟨its2,r2,pl2,l2⟩:=IsU.list I hq' hl'; exact SeqAt.RcAt.tuple_list pl pl2 hu1
   | lst hq' hl' hi'=> cases q2; obtain ⟨its2,r2,pl2,l2⟩:=IsU.list I (SqL.of hq') hl'; exact SeqAt.RcAt.tuple_list pl pl2 hu1
   | tup hq' hl' hi'=> cases q2; rw [okU] at o2; obtain ⟨its2,r2,pl2,l2⟩:=IsU.tup I hq' hl'; rw [eqW]; exact sK pl pl2 l1 l2 hu (bU I r1 r2 hl hl' hi hi' o1 o2 rc0 (by omega))
end
end L2
namespace L2
open PySem PySem.Spec PyProof.Rows
section
variable {X:Cx} {pins:List (Addr×Obj)} {σ:St} {H:Hp} {s:Shared}
theorem dQ {A:Around} {n:Nat} {a b:Addr} {xs ys:List U} {its its2:List Value} (p1:s.heap.IsList a its.toArray) (p2:s.heap.IsList b its2.toArray) (l1:its.length=xs.length) (l2:its2.length=ys.length) (hu:A.units+n < cLine)
  (he:∀ (j:Nat) (j1:j < its.length) (j2:j < its2.length),SeqAt.EqAt A.in1 s its[j] its2[j] (eqW (xs.getD j .non) (ys.getD j .non))):SeqAt.RcNeAt A s (.ref a) (.ref b) (!eqWs xs ys):=by
 by_cases hl:its.length=its2.length
 ·have:=SeqAt.RcNeAt.lists (A:=A) (s:=s) (e:=fun j=> eqW (xs.getD j .non) (ys.getD j .non)) p1 p2 (by simpa using hl) (by omega) (fun j h1 h2=> by simpa using he j (by simpa using h1) (by simpa using h2))
  rw [← cO,← l1,← l2,hl,Nat.min_self,beq_self_eq_true,Bool.and_true]
  rwa [List.size_toArray,hl] at this
 ·have:=SeqAt.RcNeAt.lists_lengths (A:=A) (s:=s) p1 p2 (by simpa using hl) (by omega)
  rw [← cO,← l1,← l2,show (its.length==its2.length)=false by simpa using hl,Bool.and_false]
  exact this
theorem nX {A:Around} {n:Nat} {a b:Addr} {xs ys:List U} {its its2:List Value} (p1:IsTup s.heap a its.toArray) (p2:IsTup s.heap b its2.toArray) (l1:its.length=xs.length) (l2:its2.length=ys.length) (hu:A.units+n < cLine)
  (he:∀ (j:Nat) (j1:j < its.length) (j2:j < its2.length),SeqAt.EqAt A.in1 s its[j] its2[j] (eqW (xs.getD j .non) (ys.getD j .non))):SeqAt.RcNeAt A s (.ref a) (.ref b) (!eqWs xs ys):=by
 have:=SeqAt.RcNeAt.tuples (A:=A) (s:=s) (e:=fun j=> eqW (xs.getD j .non) (ys.getD j .non)) p1 p2 (by omega) (fun j h1 h2=> by simpa using he j (by simpa using h1) (by simpa using h2))
 rw [List.size_toArray,List.size_toArray,l1,l2,cO] at this
 exact this
theorem uU (I:Inv X pins σ H s) (n:Nat) (A:Around) (x y:U) (v w:V) (p q:Value) (R1:Rp X.K H v x) (R2:Rp X.K H w y) (q1:aV v p) (q2:aV w q) (o1:okU (n+1) x=true) (o2:okU (n+1) y=true) (hu:A.units+(n+1) < cLine):SeqAt.RcNeAt A s p q (!eqW x y):=by
 have hu1:A.units < cLine:=by omega
 have rc0:∀ (x y:U) (v w:V) (p q:Value),Rp X.K H v x→Rp X.K H w y→aV v p→aV w q→okU n x=true→okU n y=true→SeqAt.RcAt A.in1 s p q (eqW x y):=fun x y v w p q r1 r2 k1 k2 z1 z2=> vU I n A.in1 x y v w p q r1 r2 k1 k2 z1 z2 (by show A.units+1+n < _; omega)
 cases R1 with
 | ty=> simp [okU] at o1
 | dic=> simp [okU] at o1
 | xc=> simp [okU] at o1
 | non=>
  cases (show p=Value.none from q1)
  cases R2 with
  | ty=> simp [okU] at o2
  | dic=> simp [okU] at o2
  | xc=> simp [okU] at o2
  | non=> cases (show q=Value.none from q2); exact SeqAt.RcNeAt.none_none
  | bl c2=> cases (show q=Value.bool c2 from q2); exact SeqAt.RcNeAt.none_bool c2
  | int c2=> obtain ⟨t2,rfl⟩:=(show ∃ t,q=Value.int c2 t from q2); exact SeqAt.RcNeAt.none_int c2 t2
  | str c2=> obtain ⟨t2,rfl⟩:=(show ∃ t,q=Value.str c2 t from q2); exact SeqAt.RcNeAt.none_str c2 t2
  | scr hq2 hl2 hi2=> cases q2; obtain ⟨its2,r2,pl2,l2⟩:=IsU.list I hq2 hl2; exact SeqAt.RcNeAt.none_list pl2 hu1
  | tup hq2 hl2 hi2=> cases q2; obtain ⟨its2,r2,pl2,l2⟩:=IsU.tup I hq2 hl2; exact SeqAt.RcNeAt.none_tuple pl2 hu1
  | lst hq2 hl2 hi2=> cases q2; obtain ⟨its2,r2,pl2,l2⟩:=IsU.list I (SqL.of hq2) hl2; exact SeqAt.RcNeAt.none_list pl2 hu1
 | bl c1=>
  cases (show p=Value.bool c1 from q1)
  cases R2 with
  | ty=> simp [okU] at o2
  | dic=> simp [okU] at o2
  | xc=> simp [okU] at o2
  | non=> cases (show q=Value.none from q2); exact SeqAt.RcNeAt.bool_none c1
  | bl c2=> cases (show q=Value.bool c2 from q2); exact SeqAt.RcNeAt.bool_bool c1 c2
  | int c2=> obtain ⟨t2,rfl⟩:=(show ∃ t,q=Value.int c2 t from q2); exact SeqAt.RcNeAt.bool_int c1 c2 t2
  | str c2=> obtain ⟨t2,rfl⟩:=(show ∃ t,q=Value.str c2 t from q2); exact SeqAt.RcNeAt.bool_str c1 c2 t2
  | scr hq2 hl2 hi2=> cases q2; obtain ⟨its2,r2,pl2,l2⟩:=IsU.list I hq2 hl2; exact SeqAt.RcNeAt.bool_list c1 pl2 hu1
  | tup hq2 hl2 hi2=> cases q2; obtain ⟨its2,r2,pl2,l2⟩:=IsU.tup I hq2 hl2; exact SeqAt.RcNeAt.bool_tuple c1 pl2 hu1
  | lst hq2 hl2 hi2=> cases q2; obtain ⟨its2,r2,pl2,l2⟩:=IsU.list I (SqL.of hq2) hl2; exact SeqAt.RcNeAt.bool_list c1 pl2 hu1
 | int c1=>
  obtain ⟨t1,rfl⟩:=(show ∃ t,p=Value.int c1 t from q1)
  cases R2 with
  | ty=> simp [okU] at o2
  | dic=> simp [okU] at o2
  | xc=> simp [okU] at o2
  | non=> cases (show q=Value.none from q2); exact SeqAt.RcNeAt.int_none c1 t1
  | bl c2=> cases (show q=Value.bool c2 from q2); exact SeqAt.RcNeAt.int_bool c1 t1 c2
  | int c2=> obtain ⟨t2,rfl⟩:=(show ∃ t,q=Value.int c2 t from q2); exact SeqAt.RcNeAt.int_int c1 t1 c2 t2
  | str c2=> obtain ⟨t2,rfl⟩:=(show ∃ t,q=Value.str c2 t from q2); exact SeqAt.RcNeAt.int_str c1 t1 c2 t2
  | scr hq2 hl2 hi2=> cases q2; obtain ⟨its2,r2,pl2,l2⟩:=IsU.list I hq2 hl2; exact SeqAt.RcNeAt.int_list c1 t1 pl2 hu1
  | tup hq2 hl2 hi2=> cases q2; obtain ⟨its2,r2,pl2,l2⟩:=IsU.tup I hq2 hl2; exact SeqAt.RcNeAt.int_tuple c1 t1 pl2 hu1
  | lst hq2 hl2 hi2=> cases q2; obtain ⟨its2,r2,pl2,l2⟩:=IsU.list I (SqL.of hq2) hl2; exact SeqAt.RcNeAt.int_list c1 t1 pl2 hu1
 | str c1=>
  obtain ⟨t1,rfl⟩:=(show ∃ t,p=Value.str c1 t from q1)
  cases R2 with
  | ty=> simp [okU] at o2
  | dic=> simp [okU] at o2
  | xc=> simp [okU] at o2
  | non=> cases (show q=Value.none from q2); exact SeqAt.RcNeAt.str_none c1 t1
  | bl c2=> cases (show q=Value.bool c2 from q2); exact SeqAt.RcNeAt.str_bool c1 t1 c2
  | int c2=> obtain ⟨t2,rfl⟩:=(show ∃ t,q=Value.int c2 t from q2); exact SeqAt.RcNeAt.str_int c1 t1 c2 t2
  | str c2=> obtain ⟨t2,rfl⟩:=(show ∃ t,q=Value.str c2 t from q2); exact SeqAt.RcNeAt.str_str c1 t1 c2 t2
  | scr hq2 hl2 hi2=> cases q2; obtain ⟨its2,r2,pl2,l2⟩:=IsU.list I hq2 hl2; exact SeqAt.RcNeAt.str_list c1 t1 pl2 hu1
  | tup hq2 hl2 hi2=> cases q2; obtain ⟨its2,r2,pl2,l2⟩:=IsU.tup I hq2 hl2; exact SeqAt.RcNeAt.str_tuple c1 t1 pl2 hu1
  | lst hq2 hl2 hi2=> cases q2; obtain ⟨its2,r2,pl2,l2⟩:=IsU.list I (SqL.of hq2) hl2; exact SeqAt.RcNeAt.str_list c1 t1 pl2 hu1
 | scr hq1 hl1 hi1=>
  cases q1; obtain ⟨its1,r1,pl1,l1⟩:=IsU.list I hq1 hl1
  cases R2 with
  | ty=> simp [okU] at o2
  | dic=> simp [okU] at o2
  | xc=> simp [okU] at o2
  | non=> cases (show q=Value.none from q2); exact SeqAt.RcNeAt.list_none pl1 hu1
  | bl c2=> cases (show q=Value.bool c2 from q2); exact SeqAt.RcNeAt.list_bool c2 pl1 hu1
  | int c2=> obtain ⟨t2,rfl⟩:=(show ∃ t,q=Value.int c2 t from q2); exact SeqAt.RcNeAt.list_int c2 t2 pl1 hu1
  | str c2=> obtain ⟨t2,rfl⟩:=(show ∃ t,q=Value.str c2 t from q2); exact SeqAt.RcNeAt.list_str c2 t2 pl1 hu1
  | scr hq2 hl2 hi2=> cases q2; obtain ⟨its2,r2,pl2,l2⟩:=IsU.list I hq2 hl2; rw [okU] at o1; rw [okU] at o2; rw [eqW]; exact dQ pl1 pl2 l1 l2 hu (bU I r1 r2 hl1 hl2 hi1 hi2 o1 o2 rc0 (by omega))
  | tup hq2 hl2 hi2=> cases q2; obtain ⟨its2,r2,pl2,l2⟩:=IsU.tup I hq2 hl2; exact SeqAt.RcNeAt.list_tuple pl1 pl2 hu1
  | lst hq2 hl2 hi2=> cases q2; obtain ⟨its2,r2,pl2,l2⟩:=IsU.list I (SqL.of hq2) hl2; rw [okU] at o1; rw [okU] at o2; rw [eqW]; exact dQ pl1 pl2 l1 l2 hu (bU I r1 r2 hl1 hl2 hi1 hi2 o1 o2 rc0 (by omega))
 | tup hq1 hl1 hi1=>
  cases q1; obtain ⟨its1,r1,pl1,l1⟩:=IsU.tup I hq1 hl1
  cases R2 with
  | ty=> simp [okU] at o2
  | dic=> simp [okU] at o2
  | xc=> simp [okU] at o2
  | non=> cases (show q=Value.none from q2); exact SeqAt.RcNeAt.tuple_none pl1 hu1
  | bl c2=> cases (show q=Value.bool c2 from q2); exact SeqAt.RcNeAt.tuple_bool c2 pl1 hu1
  | int c2=> obtain ⟨t2,rfl⟩:=(show ∃ t,q=Value.int c2 t from q2); exact SeqAt.RcNeAt.tuple_int c2 t2 pl1 hu1
  | str c2=> obtain ⟨t2,rfl⟩:=(show ∃ t,q=Value.str c2 t from q2); exact SeqAt.RcNeAt.tuple_str c2 t2 pl1 hu1
  | scr hq2 hl2 hi2=> cases q2; obtain ⟨its2,r2,pl2,l2⟩:=IsU.list I hq2 hl2; exact SeqAt.RcNeAt.tuple_list pl1 pl2 hu1
  | tup hq2 hl2 hi2=> cases q2; obtain ⟨its2,r2,pl2,l2⟩:=IsU.tup I hq2 hl2; rw [okU] at o1; rw [okU] at o2; rw [eqW]; exact nX pl1 pl2 l1 l2 hu (bU I r1 r2 hl1 hl2 hi1 hi2 o1 o2 rc0 (by omega))
  | lst hq2 hl2 hi2=> cases q2; obtain ⟨its2,r2,pl2,l2⟩:=IsU.list I (SqL.of hq2) hl2; exact SeqAt.RcNeAt.tuple_list pl1 pl2 hu1
 | lst hq1 hl1 hi1=>
  cases q1; obtain ⟨its1,r1,pl1,l1⟩:=IsU.list I (SqL.of hq1) hl1
  cases R2 with
  | ty=> simp [okU] at o2
  | dic=> simp [okU] at o2
  | xc=> simp [okU] at o2
  | non=> cases (show q=Value.none from q2); exact SeqAt.RcNeAt.list_none pl1 hu1
  | bl c2=> cases (show q=Value.bool c2 from q2); exact SeqAt.RcNeAt.list_bool c2 pl1 hu1
  | int c2=> obtain ⟨t2,rfl⟩:=(show ∃ t,q=Value.int c2 t from q2); exact SeqAt.RcNeAt.list_int c2 t2 pl1 hu1
  | str c2=> obtain ⟨t2,rfl⟩:=(show ∃ t,q=Value.str c2 t from q2); exact SeqAt.RcNeAt.list_str c2 t2 pl1 hu1
  | scr hq2 hl2 hi2=> cases q2; obtain ⟨its2,r2,pl2,l2⟩:=IsU.list I hq2 hl2; rw [okU] at o1; rw [okU] at o2; rw [eqW]; exact dQ pl1 pl2 l1 l2 hu (bU I r1 r2 hl1 hl2 hi1 hi2 o1 o2 rc0 (by omega))
  | tup hq2 hl2 hi2=> cases q2; obtain ⟨its2,r2,pl2,l2⟩:=IsU.tup I hq2 hl2; exact SeqAt.RcNeAt.list_tuple pl1 pl2 hu1
  | lst hq2 hl2 hi2=> cases q2; obtain ⟨its2,r2,pl2,l2⟩:=IsU.list I (SqL.of hq2) hl2; rw [okU] at o1; rw [okU] at o2; rw [eqW]; exact dQ pl1 pl2 l1 l2 hu (bU I r1 r2 hl1 hl2 hi1 hi2 o1 o2 rc0 (by omega))
end
end L2
namespace L2
open PySem PySem.Spec PyProof.Rows
def OpS (X:Cx) (f:Value→Value→Sem Value) (x y:U) (z:V):Prop:=OpR X f fun v w H Q=> Rp X.K H v x∧Rp X.K H w y∧Q z H
section
variable {X:Cx} {H0:Hp} {O0:List Addr} {ps:PSt} {a b c e:Expr} {es rest:List Expr} {pos p:Pos} {u x y:U} {xs ys us:List U} {i j:Int} {k m:Bool}
theorem Rp.out {K:PySem.W.Frag} {H:Hp} {O:List Addr} {v:V} {u:U} (h:Rp K (hid H O) v u):Rp K H v u:=h.same av
theorem g4 {op:CmpOp} (ho:OpS X (compareOp op) x y (.bl k)) (ha:Ev X H0 O0 ps a x) (hb:Ev X H0 O0 ps b y) (hm:behindInMarks op b=false:=by first | exact qz _ | with_unfolding_all rfl):Ev X H0 O0 ps (.Compare a [op] [b] pos) (.bl k):=
 PE.mono (rL ho ha hb hm) fun σ H Q ⟨O,R,q⟩=> two R (fun _ _ _ z=> z) (fun _ _ _ z=> z) fun v w H' s _ r1 r2=> ⟨r1.out,r2.out,q _ H' s (.bl _)⟩
theorem aT {op:CmpOp} (ho:OpS X (compareOp op) x y (.bl k)) (ha:Ev X H0 O0 ps a x) (hb:Ev X H0 O0 ps b y) (hm:behindInMarks op b=false:=by first | exact qz _ | with_unfolding_all rfl):Tt X H0 O0 ps (.Compare a [op] [b] pos) k:=
 PT.mono (tf ho ha hb hm) fun σ H Q ⟨O,R,q⟩=> two R (fun _ _ _ z=> z) (fun _ _ _ z=> z) fun v w H' s _ r1 r2=> ⟨r1.out,r2.out,_,rfl,q H' s⟩
theorem t7 {op:CmpOp} {g:Int→Int→Bool} (ho:OpR X (compareOp op) (rI0 fun i j=> .bl (g i j))):OpS X (compareOp op) (.int i) (.int j) (.bl (g i j)):=by
 intro pins s σ H v w p q Q I r1 r2 h
 obtain ⟨h1,h2,h3⟩:=h
 cases h1; cases h2
 exact ho pins s σ H _ _ _ _ Q I r1 r2 ⟨i,j,rfl,rfl,h3⟩
theorem lQ:OpS X (compareOp .Lt) (.int i) (.int j) (.bl (decide (i < j))):=t7 wt
theorem fY:OpS X (compareOp .Gt) (.int i) (.int j) (.bl (decide (j < i))):=t7 vO
theorem rG (hu:X.A.units+10 < cLine) (h1:okU 9 x=true) (h2:okU 9 y=true):OpS X (compareOp .Eq) x y (.bl (eqW x y)):=by
 intro pins s σ H v w p q Q I r1 r2 h
 obtain ⟨k1,k2,k3⟩:=h
 exact vU I 9 X.A x y v w p q k1 k2 r1 r2 h1 h2 (by omega) X.prog X.w _ _ (aO I k3 rfl)
theorem vF (hu:X.A.units+10 < cLine) (h1:okU 9 x=true) (h2:okU 9 y=true):OpS X (compareOp .NotEq) x y (.bl (!eqW x y)):=by
 intro pins s σ H v w p q Q I r1 r2 h
 obtain ⟨k1,k2,k3⟩:=h
 exact uU I 8 X.A x y v w p q k1 k2 r1 r2 h1 h2 (by omega) X.prog X.w _ _ (aO I k3 rfl)
theorem cJ:OpS X (compareOp .Eq) (.int i) (.int j) (.bl (decide (i=j))):=by
 intro pins s σ H v w p q Q I r1 r2 h
 obtain ⟨h1,h2,h3⟩:=h
 cases h1; cases h2
 exact v5 pins s σ H _ _ _ _ Q I r1 r2 ⟨rfl,by rw [gg,← Bool.beq_eq_decide_eq] at *; simpa [Bool.beq_eq_decide_eq] using h3⟩
theorem p9:OpS X (compareOp .NotEq) (.int i) (.int j) (.bl (!decide (i=j))):=by
 intro pins s σ H v w p q Q I r1 r2 h
 obtain ⟨h1,h2,h3⟩:=h
 cases h1; cases h2
 exact vE pins s σ H _ _ _ _ Q I r1 r2 ⟨rfl,by rw [gg]; simpa [Bool.beq_eq_decide_eq] using h3⟩
theorem cS (h:Ev X H0 O0 ps e (.bl k)) (he:∀ whole,isTrue e X.env whole=(do let v ← whole; standAt e.pos; holding [v] (truthy v)):=by intro _; rfl):Tt X H0 O0 ps e k:=
 PT.mono (vA h he) fun σ H Q ⟨O,R,q⟩=> ⟨O,R,fun v H' s r=> by cases r; exact ⟨_,rfl,q H' s⟩⟩
theorem dc (h:Tt X H0 O0 ps a k):Tt X H0 O0 ps (.UnaryOp .Not a pos) (!k):=PT.mono (uL h) fun σ H Q ⟨O,R,q⟩=> ⟨O,R,q⟩
theorem Tw.t (h:Tw X H0 O0 ps e k):Tt X H0 O0 ps e k:=h.pt
theorem vf (h:Tt X H0 O0 ps a k):Tw X H0 O0 ps (.BoolOp .And [a] pos) k:=rJ h
theorem qM (h:Tt X H0 O0 ps a k):Tw X H0 O0 ps (.BoolOp .Or [a] pos) k:=u5 h
theorem tK (ha:Tt X H0 O0 ps a k) (hb:k=true→Tw X H0 O0 ps (.BoolOp .And (b::rest) pos) m):Tw X H0 O0 ps (.BoolOp .And (a::b::rest) pos) (k && m):=by
 cases k with
 | true=> exact PW.mono (qE ha (hb rfl)) fun σ H Q ⟨O,R,q⟩=> ⟨O,R,fun H' s=> by exact oE (⟨O,R.go s,fun H2 s2=> q H2 (s.trans s2)⟩)⟩
 | false=> exact PW.mono (qE ha (fun _ _ _ _ _ _ _ h=> h.elim) (tB':=fun _ _ _=> False)) fun σ H Q ⟨O,R,q⟩=> ⟨O,R,fun H' s=> by exact nW (q H' s)⟩
theorem sC (ha:Tt X H0 O0 ps a k) (hb:k=false→Tw X H0 O0 ps (.BoolOp .Or (b::rest) pos) m):Tw X H0 O0 ps (.BoolOp .Or (a::b::rest) pos) (k || m):=by
 cases k with
 | false=> exact PW.mono (ue ha (hb rfl)) fun σ H Q ⟨O,R,q⟩=> ⟨O,R,fun H' s=> by exact nW (⟨O,R.go s,fun H2 s2=> q H2 (s.trans s2)⟩)⟩
 | true=> exact PW.mono (ue ha (fun _ _ _ _ _ _ _ h=> h.elim) (tB':=fun _ _ _=> False)) fun σ H Q ⟨O,R,q⟩=> ⟨O,R,fun H' s=> by exact oE (q H' s)⟩
theorem dH {op} (h:Ev X H0 O0 ps a u):Ev X H0 O0 ps (.BoolOp op [a] pos) u:=uO h
theorem cU (ha:Ev X H0 O0 ps a (.bl k)) (hb:k=true→Ev X H0 O0 ps (.BoolOp .And (b::rest) pos) (.bl m)):Ev X H0 O0 ps (.BoolOp .And (a::b::rest) pos) (.bl (k && m)):=by
 cases k with
 | true=> exact PE.mono (qc ha (hb rfl)) fun σ H Q ⟨O,R,q⟩=> ⟨O,R,fun v H' s r=> by cases r; exact ⟨_,rfl,by exact oE (⟨O,R.go s,fun v H2 s2 r2=> q v H2 (s.trans s2) r2⟩)⟩⟩
 | false=> exact PE.mono (qc ha (fun _ _ _ _ _ _ h=> h.elim) (tb:=fun _ _ _=> False)) fun σ H Q ⟨O,R,q⟩=> ⟨O,R,fun v H' s r=> by cases r; exact ⟨_,rfl,by exact nW (q _ H' s (.bl _))⟩⟩
theorem fg (ha:Ev X H0 O0 ps a (.bl k)):Ev X H0 O0 ps (.UnaryOp .Not a pos) (.bl (!k)):=PE.mono (uB ha) fun σ H Q ⟨O,R,q⟩=> ⟨O,R,fun v H' s r=> by cases r; exact ⟨_,rfl,q _ H' s (.bl _)⟩⟩
theorem aj:EvA X H0 O0 ps [] []:=PA.mono cR fun σ H Q ⟨O,R,q⟩=> q [] H (.refl H) .nil
theorem af (ha:Ev X H0 O0 ps e u) (hr:EvA X H0 O0 ps es us) (hs:starEach (e::es) X.env=(false,eval e X.env)::starEach es X.env:=by rfl):EvA X H0 O0 ps (e::es) (u::us):=
 PA.mono (bn ha hr hs) fun σ H Q ⟨O,R,q⟩=> ⟨O,R,fun v H1 s1 r1=> ⟨O,R.go s1,fun vs H2 s2 r2=> q _ H2 (s1.trans s2) (.cons (r1.same (aY s2)) r2)⟩⟩
theorem Rs.hidnew {K:PySem.W.Frag} {σ:St} {H:Hp} {O:List Addr} (R:Rs K H0 O0 ps σ H O) {p:Addr} {o:HO} (n:H p=none):hid (upd H p o) O p=some o:=cr aH fun z=> R.dom p z n
theorem vT {x1} (h:EvA X H0 O0 ps es us) (hz:us.length≤sizeLine:=by first | decide | (simp only [List.length_cons,List.length_nil]; decide)):Ev X H0 O0 ps (.Tuple es x1 pos) (.tup us):=
 PE.mono (qF h) fun σ H Q ⟨O,R,q⟩=> ⟨O,R,fun vs H1 s1 r1=> ⟨by rw [r1.len]; exact hz,fun p hp=> by
  have s2:=aQ hp (.tup vs)
  have r2:=r1.same (aY (O:=O) s2)
  exact q _ _ (s1.trans s2) (.tup (SqT.of ((R.go s1).hidnew hp)) r2.len r2.at_)⟩⟩
theorem vY (h:EvA X H0 O0 ps es us) (hz:us.length≤sizeLine:=by first | decide | (simp only [List.length_cons,List.length_nil]; decide)):EvN X H0 O0 ps (.List es pos) us:=
 PE.mono (uw h) fun σ H Q ⟨O,R,q⟩=> ⟨O,R,fun vs H1 s1 r1=> ⟨by rw [r1.len]; exact hz,fun p hp=> by
  exact q p vs _ (s1.trans (aQ hp _)) (s1.free hp) aH (r1.same (bi (aQ hp _) hp))⟩⟩
theorem ay (ha:Ev X H0 O0 ps a x) (hb:Ev X H0 O0 ps b (.int i)) (hx:x.items=some xs) (hi:atI xs i=some u) (hs:jn b:=by intro _ _; rfl):Ev X H0 O0 ps (.Subscript a b pos) u:=
 PE.mono (tW (mM.or um) ha hb hs) fun σ H Q ⟨O,R,q⟩=> two (y:=.int i) R (fun _ _ _ z=> z) (fun _ _ _ z=> z) fun v w H' s _ r1 r2=> by
  cases r2
  cases r1 with
  | scr h hl hh=> cases hx; obtain ⟨z,h1,h2⟩:=Rps.atI ⟨hl,hh⟩ hi; exact .inl ⟨_,_,i,z,rfl,rfl,av.seq h,h1,q z H' s h2⟩
  | lst h hl hh=> cases hx; obtain ⟨z,h1,h2⟩:=Rps.atI ⟨hl,hh⟩ hi; exact .inl ⟨_,_,i,z,rfl,rfl,av.seq (SqL.of h),h1,q z H' s h2⟩
  | tup h hl hh=> cases hx; obtain ⟨z,h1,h2⟩:=Rps.atI ⟨hl,hh⟩ hi; exact .inr ⟨_,_,i,z,rfl,rfl,av.tup h,h1,q z H' s h2⟩
  | _=> cases hx
theorem tX (n:Nat) {x:Str} (h:ps[n]?=some (some (.own xs))) (hb:Ev X H0 O0 ps b (.int i)) (hi:atI xs i=some u) (hN:X.N[n]?=some x:=by rfl) (hv:Vis X.env.scope x:=by first | exact Or.inl rfl | exact Or.inr (Or.inl rfl) | exact Or.inr (Or.inr rfl)) (hd:(x==("__debug__":Str))=false:=by decide)
  (hcd:(x==("__classdict__":Str))=false:=by decide) (hs:jn b:=by intro _ _; rfl):Ev X H0 O0 ps (.Subscript (.Name x p) b pos) u:=
 PE.mono (tW mM (dl hN hv hd hcd) hb hs) fun σ H Q ⟨O,R,q⟩=> by
  obtain ⟨v,h1,a,vs,rfl,h3,h4,h5,h6⟩:=R.at_ n _ h
  refine ⟨_,h1,O,R,fun w H' s r=> ?_⟩
  cases r
  obtain ⟨z,k1,k2⟩:=h6.atI hi
  exact ⟨a,vs,i,z,rfl,rfl,SqL.of (s _ _ h5),k1,q z H' s (k2.same (aY s))⟩
def dg (X:Cx) (f:Value) (us:List U) (u:U):Prop:=bQ X f fun vs H Q=> ∃ O,(∀ a∈O,H a≠none)∧Rps X.K (hid H O) vs us∧∀ v H',aB H H'→Rp X.K (hid H' O) v u→Q v H'
def tY (X:Cx) (f:Value) (us:List U) (xs:List U):Prop:=bQ X f fun vs H Q=> ∃ O,(∀ a∈O,H a≠none)∧Rps X.K (hid H O) vs us∧∀ a vs H',aB H H'→H a=none→H' a=some (.lst vs)→Rps X.K (hid H' (a::O)) vs xs→Q (.ref a) H'
theorem ak {id:String} {f:Str} (hc:dg X (.builtin id) us u) (hg:Gl X f) (hm:X.mg f=none) (hv:bootBuiltins f=some (.builtin id)) (ha:EvA X H0 O0 ps (e::es) us) (hn:f≠"__name__":=by decide) (hdb:(f==("__debug__":Str))=false:=by decide)
  (he:starEach (e::es) X.env=(false,eval e X.env)::starEach es X.env:=by rfl) (hpl:(backTo pos (starEach es X.env)).any (·.1)=false:=by rfl):Ev X H0 O0 ps (.Call (.Name f p) (e::es) [] pos) u:=
 PE.mono (ft hc hg hm hv ha hn hdb he hpl) fun σ H Q ⟨O,R,q⟩=> ⟨O,R,fun vs H1 s1 r1=> ⟨O,(R.go s1).dom,r1,fun v H2 s2 r2=> q v H2 (s1.trans s2) r2⟩⟩
theorem rC {id:String} {f:Str} (hc:dg X (.type id) us u) (hg:Gl X f) (hm:X.mg f=none) (hv:bootBuiltins f=some (.type id)) (ha:EvA X H0 O0 ps (e::es) us) (hn:f≠"__name__":=by decide) (hdb:(f==("__debug__":Str))=false:=by decide)
  (he:starEach (e::es) X.env=(false,eval e X.env)::starEach es X.env:=by rfl) (hpl:(backTo pos (starEach es X.env)).any (·.1)=false:=by rfl):Ev X H0 O0 ps (.Call (.Name f p) (e::es) [] pos) u:=
 PE.mono (ip hc hg hm hv ha hn hdb he hpl) fun σ H Q ⟨O,R,q⟩=> ⟨O,R,fun vs H1 s1 r1=> ⟨O,(R.go s1).dom,r1,fun v H2 s2 r2=> q v H2 (s1.trans s2) r2⟩⟩
theorem mK {id:String} {f:Str} (hc:tY X (.type id) us xs) (hg:Gl X f) (hm:X.mg f=none) (hv:bootBuiltins f=some (.type id)) (ha:EvA X H0 O0 ps (e::es) us) (hn:f≠"__name__":=by decide) (hdb:(f==("__debug__":Str))=false:=by decide)
  (he:starEach (e::es) X.env=(false,eval e X.env)::starEach es X.env:=by rfl) (hpl:(backTo pos (starEach es X.env)).any (·.1)=false:=by rfl):EvN X H0 O0 ps (.Call (.Name f p) (e::es) [] pos) xs:=
 PE.mono (ip hc hg hm hv ha hn hdb he hpl) fun σ H Q ⟨O,R,q⟩=> ⟨O,R,fun vs H1 s1 r1=> ⟨O,(R.go s1).dom,r1,fun a vs H2 s2 n h r2=> q a vs H2 (s1.trans s2) (s1.free n) h r2⟩⟩
theorem bY {K:PySem.W.Frag} {H:Hp} {vs:List V} (h:Rps K H vs [x]):∃ v,vs=[v]∧Rp K H v x:=by
 obtain ⟨v,ws,rfl,h1,h2⟩:=h.cons_inv
 rw [h2.nil_inv]
 exact ⟨v,rfl,h1⟩
theorem dN {K:PySem.W.Frag} {H:Hp} {vs:List V} (h:Rps K H vs [x,y]):∃ v w,vs=[v,w]∧Rp K H v x∧Rp K H w y:=by
 obtain ⟨v,ws,rfl,h1,h2⟩:=h.cons_inv
 obtain ⟨w,rfl,h3⟩:=bY h2
 exact ⟨v,w,rfl,h1,h3⟩
theorem bQ.mono {f:Value} {r r':List V→Hp→VK→Prop} (h:bQ X f r) (m:∀ vs H Q,r' vs H Q→r vs H Q):bQ X f r':=fun pins s σ H vs us Q I v q=> h pins s σ H vs us Q I v (m vs H Q q)
theorem jw {K:PySem.W.Frag} {H:Hp} {v:V} (h:Rp K H v x) (hx:x.items=some xs):∃ a vs,v=.ref a∧(SqL K H a vs∨SqT K H a vs)∧Rps K H vs xs:=by
 cases h with
 | scr h hl hh=> cases hx; exact ⟨_,_,rfl,.inl h,hl,hh⟩
 | lst h hl hh=> cases hx; exact ⟨_,_,rfl,.inl (SqL.of h),hl,hh⟩
 | tup h hl hh=> cases hx; exact ⟨_,_,rfl,.inr h,hl,hh⟩
 | _=> cases hx
theorem mx {K:PySem.W.Frag} {H:Hp} {O:List Addr} {a:Addr} {vs:List V} (h:SqL K (hid H O) a vs∨SqT K (hid H O) a vs):SqL K H a vs∨SqT K H a vs:=h.imp (fun z=> av.seq z) fun z=> av.tup z
theorem cx (hx:x.items=some xs):dg X (.builtin "len") [x] (.int xs.length):=bQ.mono e8 fun vs H Q ⟨O,d,r,q⟩=> by
 obtain ⟨v,rfl,h⟩:=bY r
 obtain ⟨a,ws,rfl,h1,h2⟩:=jw h hx
 exact ⟨a,ws,rfl,mx h1,by rw [h2.len]; exact q _ H (.refl H) (.int _)⟩
theorem u_ (n:Nat) {x:Str} (h:ps[n]?=some (some (.own xs))) (hg:Gl X "len") (hm:X.mg "len"=none) (hN:X.N[n]?=some x:=by rfl) (hv:Vis X.env.scope x:=by first | exact Or.inl rfl | exact Or.inr (Or.inl rfl) | exact Or.inr (Or.inr rfl)) (hd:(x==("__debug__":Str))=false:=by decide)
  (hcd:(x==("__classdict__":Str))=false:=by decide) {pc p':Pos} (hs:starEach [.Name x p'] X.env=(false,eval (.Name x p') X.env)::starEach [] X.env:=by rfl) (hpl:(backTo pos (starEach [] X.env)).any (·.1)=false:=by rfl):Ev X H0 O0 ps (.Call (.Name "len" pc) [.Name x p'] [] pos) (.int xs.length):=
 PE.mono (ft e8 hg hm PySem.boot_len (bn (dl hN hv hd hcd) cR hs) (by decide) (by decide) hs hpl) fun σ H Q ⟨O,R,q⟩=> by
  obtain ⟨v,h1,a,vs,rfl,h3,h4,h5,h6⟩:=R.at_ n _ h
  exact ⟨_,h1,a,vs,rfl,.inl (SqL.of h5),by rw [h6.len]; exact q _ H (.refl H) (.int _)⟩
theorem jR:dg X (.builtin "abs") [.int i] (.int (if i < 0 then -i else i)):=bQ.mono qL fun vs H Q ⟨O,d,r,q⟩=> by
 obtain ⟨v,rfl,h⟩:=bY r
 cases h
 exact ⟨i,rfl,q _ H (.refl H) (.int _)⟩
theorem v0 (hc:X.calm=true):dg X (.builtin "max") [.int i,.int j] (.int (if j > i then j else i)):=bQ.mono (nE hc) fun vs H Q ⟨O,d,r,q⟩=> by
 obtain ⟨v,w,rfl,h,h2⟩:=dN r
 cases h; cases h2
 exact ⟨i,j,rfl,q _ H (.refl H) (.int _)⟩
theorem vC (hc:X.calm=true):dg X (.builtin "min") [.int i,.int j] (.int (if j < i then j else i)):=bQ.mono (n6 hc) fun vs H Q ⟨O,d,r,q⟩=> by
 obtain ⟨v,w,rfl,h,h2⟩:=dN r
 cases h; cases h2
 exact ⟨i,j,rfl,q _ H (.refl H) (.int _)⟩
theorem uD:dg X (.type "int") [.bl k] (.int (if k then 1 else 0)):=bQ.mono kF fun vs H Q ⟨O,d,r,q⟩=> by
 obtain ⟨v,rfl,h⟩:=bY r
 cases h
 exact ⟨k,rfl,q _ H (.refl H) (.int _)⟩
theorem rc (hx:x.items=some xs):tY X (.type "list") [x] xs:=bQ.mono jb fun vs H Q ⟨O,d,r,q⟩=> by
 obtain ⟨v,rfl,h⟩:=bY r
 obtain ⟨a,ws,rfl,h1,h2⟩:=jw h hx
 exact ⟨a,ws,rfl,mx h1,fun l hl=> q l ws _ (aQ hl _) hl aH (h2.same (bi (aQ hl _) hl))⟩
def tyU:U→Value
 | .non=> .type "NoneType" | .bl _=> .type "bool" | .int _=> .type "int" | .str _=> .type "str" | .ty _=> .type "type" | .dic=> .type "dict" | .scr _=> .type "list" | .tup _=> .type "tuple" | .lst _=> .type "list"
theorem ax {n:String} (hn:∀ m,x≠.ty m) (h:PySem.W.kitOne X.K (tyU x) (.type n)=some k):dg X (.builtin "isinstance") [x,.ty (.nm n)] (.bl k):=by
 intro pins s σ H vs us Q I r hq
 obtain ⟨O,d,rs,q⟩:=hq
 obtain ⟨v,w,rfl,h1,h2⟩:=dN rs
 cases h2
 obtain ⟨p1,p2,rfl,r1,r2⟩:=eS r
 cases (show p2=Value.type n from r2)
 have fin:∀ tk,EP X pins σ Q (.bool k) { s with toks:=tk }:=fun tk=> ⟨.bl k,H,I.tok _,rfl,q _ H (.refl H) (.bl _)⟩
 cases h1 with
 | non=> exact cX I r1 .non h fin
 | bl b=> exact cX I r1 (.bl b) h fin
 | int b=> exact cX I r1 (.int b) h fin
 | str b=> exact cX I r1 (.str b) h fin
 | ty m=> exact absurd rfl (hn _)
 | dic e=> exact cX I r1 (.dK (av _ _ e)) h fin
 | xc e kk=> exact absurd rfl (hn _)
 | scr e hl hh=>
  cases r1
  obtain ⟨its,_,pl,_⟩:=I.list (av.seq e)
  obtain ⟨o,nn,e1,e2,_⟩:=pl
  exact PySem.W.kia_one PySem.W.kitx_list I.kIn ⟨o,e1,e2⟩ h (fun z=> nomatch z) fin
 | lst e hl hh=> exact cX I r1 (.lst (av _ _ e)) h fin
 | tup e hl hh=>
  cases r1
  obtain ⟨its,_,pl,_⟩:=I.tuple (av.tup e)
  obtain ⟨o,e1,e2,_⟩:=pl
  exact PySem.W.kia_one PySem.W.kitx_tuple I.kIn ⟨o,e1,e2⟩ h (fun z=> nomatch z) fin
end
end L2
namespace L2
open PySem PySem.Spec PyProof.Rows
inductive Out where
 | val (u:U) | new (xs:List U) | exc (C:Addr)
def iB (K:PySem.W.Frag) (H0:Hp) (O0:List Addr) (Q:VK) (E:XK):Out→Prop
 | .val u=> ∀ v H',aB H0 H'→Rp K (hid H' O0) v u→Q v H'
 | .new xs=> ∀ a vs H',aB H0 H'→H0 a=none→H' a=some (.lst vs)→Rps K (hid H' (a::O0)) vs xs→Q (.ref a) H'
 | .exc C=> ∀ H',aB H0 H'→E (.ref C) none H'
theorem iB.later {K:PySem.W.Frag} {H0 H1:Hp} {O0:List Addr} {Q:VK} {E:XK} {o:Out} (e:aB H0 H1) (h:iB K H0 O0 Q E o):iB K H1 O0 Q E o:=by
 cases o with
 | val u=> exact fun v H' s r=> h v H' (e.trans s) r
 | new xs=> exact fun a vs H' s n q r=> h a vs H' (e.trans s) (e.free n) q r
 | exc C=> exact fun H' s=> h H' (e.trans s)
structure PD where
 nx:PSt→Prop
 rt:Out→Prop
 bk:PSt→Prop:=fun _=> False
 ct:PSt→Prop:=fun _=> False
structure Lf (K:PySem.W.Frag) (H0:Hp) (O0:List Addr) (E:XK) (D:PD) (D':gX):Prop where
 nx:∀ ps σ H O,Rs K H0 O0 ps σ H O→D.nx ps→D'.nx σ H
 bk:∀ ps σ H O,Rs K H0 O0 ps σ H O→D.bk ps→D'.bk σ H
 ct:∀ ps σ H O,Rs K H0 O0 ps σ H O→D.ct ps→D'.ct σ H
 rt:∀ o,D.rt o→iB K H0 O0 D'.rt E o
def Ws (X:Cx) (H0:Hp) (O0:List Addr) (E:XK) (ss:List Stmt) (D:PD) (ps:PSt):Prop:=PSs X ss fun D' σ H=> Lf X.K H0 O0 E D D'∧∃ O,Rs X.K H0 O0 ps σ H O
def W1 (X:Cx) (H0:Hp) (O0:List Addr) (E:XK) (s:Stmt) (D:PD) (ps:PSt):Prop:=PS X s fun D' σ H=> Lf X.K H0 O0 E D D'∧∃ O,Rs X.K H0 O0 ps σ H O
section
variable {X:Cx} {H0:Hp} {O0:List Addr} {E:XK} {ps ps':PSt} {D:PD} {s:Stmt} {ss body:List Stmt} {a b c e:Expr} {es:List Expr} {pos p:Pos} {u x y:U} {xs ys us:List U} {k:Bool}
theorem aU (h:D.nx ps):Ws X H0 O0 E [] D ps:=PSs.mono tD fun D' σ H ⟨L,O,R⟩=> L.nx ps σ H O R h
theorem ae (h:W1 X H0 O0 E s { D with nx:=fun p=> Ws X H0 O0 E ss D p } ps):Ws X H0 O0 E (s::ss) D ps:=by
 have h2:PSs X ss fun D' σ H=> ∃ p,Ws X H0 O0 E ss D p∧Lf X.K H0 O0 E D D'∧∃ O,Rs X.K H0 O0 p σ H O:=fun pins s σ H D' I ⟨p,w,l,r⟩=> w pins s σ H D' I ⟨l,r⟩
 exact PSs.mono (qT h h2) fun D' σ H ⟨L,O,R⟩=> ⟨⟨fun p σ H O R q=> ⟨p,q,L,O,R⟩,L.bk,L.ct,L.rt⟩,O,R⟩
theorem e_ (h:Ws X H0 O0 E ss D ps') (hs:SubP ps' ps):Ws X H0 O0 E ss D ps:=PSs.mono h fun D' σ H ⟨L,O,R⟩=> ⟨L,O,R.sub hs⟩
theorem aE {i:Nat} {x:Str} {pos':Pos} (hN:X.N.Nodup) (hi:X.N[i]?=some x) (hx:Loc X.env.scope x) (he:Ev X H0 O0 ps e u) (h:D.nx (ps.set i (some (.val u)))) (hs:swapsWith e (some (.Name x pos')) pos.line X.env=pure false:=by rfl) (hf:X.fn x=true∨X.env.scope.names.lookup x=some .local:=by first | exact .inl rfl | exact .inr rfl | assumption):
  W1 X H0 O0 E (.Assign [.Name x pos'] e pos) D ps:=PS.mono (lm hN hi hx he hs hf) fun D' σ H ⟨L,O,R⟩=> ⟨O,R,fun v H' s r=> L.nx _ _ _ O ((R.go s).set r) h⟩
theorem j6 {i:Nat} {x:Str} {pos':Pos} (hN:X.N.Nodup) (hi:X.N[i]?=some x) (hx:Loc X.env.scope x) (he:EvN X H0 O0 ps e xs) (h:D.nx (ps.set i (some (.own xs)))) (hs:swapsWith e (some (.Name x pos')) pos.line X.env=pure false:=by rfl) (hf:X.fn x=true∨X.env.scope.names.lookup x=some .local:=by first | exact .inl rfl | exact .inr rfl | assumption):
  W1 X H0 O0 E (.Assign [.Name x pos'] e pos) D ps:=PS.mono (lm hN hi hx he hs hf) fun D' σ H ⟨L,O,R⟩=> ⟨O,R,fun a vs H' s n q r=> L.nx _ _ _ _ (R.own s n q r) h⟩
theorem ii {tb fb:List Stmt} (hc:Tt X H0 O0 ps c k) (h1:k=true→Ws X H0 O0 E tb D ps) (h2:k=false→Ws X H0 O0 E fb D ps):W1 X H0 O0 E (.If c tb fb pos) D ps:=by
 cases k with
 | true=> exact PS.mono (tQ hc (h1 rfl) (fun _ _ _ _ _ _ h=> h.elim) (u:=fun _ _ _=> False)) fun D' σ H ⟨L,O,R⟩=> ⟨O,R,fun H' s=> oE ⟨L,O,R.go s⟩⟩
 | false=> exact PS.mono (tQ hc (fun _ _ _ _ _ _ h=> h.elim) (h2 rfl) (t:=fun _ _ _=> False)) fun D' σ H ⟨L,O,R⟩=> ⟨O,R,fun H' s=> nW ⟨L,O,R.go s⟩⟩
theorem Rs.ret {K:PySem.W.Frag} {σ:St} {H:Hp} {O:List Addr} {v:V} (R:Rs K H0 O0 ps σ H O) (r:Rp K (hid H O) v u):Rp K (hid H O0) v u:=r.same (ck R.old)
theorem aI (he:Ev X H0 O0 ps e u) (h:D.rt (.val u)):W1 X H0 O0 E (.Return (some e) pos) D ps:=
 PS.mono (lq he) fun D' σ H ⟨L,O,R⟩=> ⟨O,R,fun v H' s r=> L.rt _ h v H' (R.same.trans s) ((R.go s).ret r)⟩
theorem c_ (he:EvN X H0 O0 ps e xs) (h:D.rt (.new xs)):W1 X H0 O0 E (.Return (some e) pos) D ps:=
 PS.mono (lq he) fun D' σ H ⟨L,O,R⟩=> ⟨O,R,fun a vs H' s n q r=> L.rt _ h a vs H' (R.same.trans s) (R.same.free n) q (r.same (ck fun b hb=> by
  rcases List.mem_cons.mp hb with y | y
  ·subst y; exact List.mem_cons_self
  ·exact List.mem_cons_of_mem _ (R.old b y)))⟩
theorem qq (i:Nat) {x:Str} (hp:ps[i]?=some (some (.own xs))) (h:D.rt (.new xs)) (hN:X.N[i]?=some x:=by rfl) (hv:Vis X.env.scope x:=by first | exact Or.inl rfl | exact Or.inr (Or.inl rfl) | exact Or.inr (Or.inr rfl)) (hd:(x==("__debug__":Str))=false:=by decide)
  (hcd:(x==("__classdict__":Str))=false:=by decide):W1 X H0 O0 E (.Return (some (.Name x p)) pos) D ps:=
 PS.mono (lq (dl hN hv hd hcd)) fun D' σ H ⟨L,O,R⟩=> by
  obtain ⟨v,h1,a,vs,rfl,h3,h4,h5,h6⟩:=R.at_ i _ hp
  refine ⟨_,h1,L.rt _ h a vs H R.same ((R.new a h3).resolve_left h4) h5 (h6.same (ck fun b hb=> ?_))⟩
  rcases List.mem_cons.mp hb with y | y
  ·subst y; exact h3
  ·exact R.old b y
theorem rq (he:Ev X H0 O0 ps e u) (h:D.nx ps) (hs:swapsWith e none pos.line X.env=pure false:=by rfl):W1 X H0 O0 E (.Expr e pos) D ps:=
 PS.mono (eB he hs) fun D' σ H ⟨L,O,R⟩=> ⟨O,R,fun v H' s r=> L.nx _ _ _ O (R.go s) h⟩
theorem jO (i:Nat) {x:Str} {apos cpos xp:Pos} (hp:ps[i]?=some (some (.own xs))) (ha:Ev X H0 O0 ps e u) (hz:xs.length < sizeLine) (h:D.nx (ps.set i (some (.own (xs++[u])))))
  (hN:X.N[i]?=some x:=by rfl) (hv:Vis X.env.scope x:=by first | exact Or.inl rfl | exact Or.inr (Or.inl rfl) | exact Or.inr (Or.inr rfl)) (hd:(x==("__debug__":Str))=false:=by decide) (hcd:(x==("__classdict__":Str))=false:=by decide)
  (hbase:attributeBase (.Name x xp) "append" X.env (eval (.Name x xp) X.env)=eval (.Name x xp) X.env:=by rfl)
  (hfew:((backTo cpos (starEach [e] X.env)).all (fun x=> !x.1) && (backToKw cpos (keywordEach [] X.env)).all (fun x=> x.1.isSome) && decide ([e].length+([]:List Keyword).length+(if ([]:List Keyword).isEmpty then 0 else 1) < 30))=true:=by rfl)
  (hline:(apos.endLine==cpos.line)=true:=by rfl) (hse:starEach [e] X.env=(false,eval e X.env)::starEach [] X.env:=by rfl) (hplain:(backTo cpos (starEach [] X.env)).any (·.1)=false:=by rfl)
  (hs:swapsWith (.Call (.Attribute (.Name x xp) "append" apos) [e] [] cpos) none pos.line X.env=pure false:=by rfl):W1 X H0 O0 E (.Expr (.Call (.Attribute (.Name x xp) "append" apos) [e] [] cpos) pos) D ps:=
 PS.mono (eB (t9 PySem.F.plainAttrs_list PySem.F.slot_list_append PySem.F.type_list_append fB (dl hN hv hd hcd) (bn ha cR hse) hbase hfew hline hse hplain) hs) fun D' σ H ⟨L,O,R⟩=> by
  obtain ⟨v,h1,a,vs,rfl,h3,h4,h5,h6⟩:=R.at_ i _ hp
  refine ⟨_,h1,.inl ⟨rfl,_,SqL.of h5⟩,O,R,fun w H' s r=> ⟨a,vs,w,rfl,rfl,s _ _ h5,by rw [h6.len]; exact hz,?_⟩⟩
  exact L.nx _ _ _ O ((R.go s).write hp h1 ((h6.same (aY s)).snoc (.cons r .nil))) h
theorem wx (i:Nat) {x:Str} {apos cpos xp:Pos} (hp:ps[i]?=some (some (.own xs))) (hne:xs≠[]) (h:D.nx (ps.set i (some (.own xs.dropLast))))
  (hN:X.N[i]?=some x:=by rfl) (hv:Vis X.env.scope x:=by first | exact Or.inl rfl | exact Or.inr (Or.inl rfl) | exact Or.inr (Or.inr rfl)) (hd:(x==("__debug__":Str))=false:=by decide) (hcd:(x==("__classdict__":Str))=false:=by decide)
  (hbase:attributeBase (.Name x xp) "pop" X.env (eval (.Name x xp) X.env)=eval (.Name x xp) X.env:=by rfl)
  (hline:(apos.endLine==cpos.line)=true:=by rfl)
  (hs:swapsWith (.Call (.Attribute (.Name x xp) "pop" apos) [] [] cpos) none pos.line X.env=pure false:=by rfl):W1 X H0 O0 E (.Expr (.Call (.Attribute (.Name x xp) "pop" apos) [] [] cpos) pos) D ps:=
 PS.mono (eB (pD PySem.F.plainAttrs_list PySem.F.slot_list_pop PySem.F.type_list_pop uZ (dl hN hv hd hcd) hbase hline) hs) fun D' σ H ⟨L,O,R⟩=> by
  obtain ⟨v,h1,a,vs,rfl,h3,h4,h5,h6⟩:=R.at_ i _ hp
  have hpos:0 < vs.length:=by rw [h6.len]; exact List.length_pos_iff.mpr hne
  have hlt:vs.length - 1 < vs.length:=by omega
  refine ⟨_,h1,.inl ⟨rfl,_,SqL.of h5⟩,a,vs,vs[vs.length - 1],rfl,rfl,h5,List.getElem?_eq_getElem hlt,?_⟩
  refine L.nx _ _ _ O (R.write hp h1 ⟨by simp [h6.len],fun j v x e1 e2=> ?_⟩) h
  rw [List.getElem?_dropLast] at e1 e2
  split at e1
  ·split at e2
   ·exact h6.at_ j v x e1 e2
   ·cases e2
  ·cases e1
end
end L2
namespace L2
open PySem PySem.Spec PyProof.Rows
def k_:List Nat→TGs
 | []=> wc
 | j::js=> tZ (kc j) (k_ js)
def setAll:PSt→List Nat→List U→PSt
 | ps,j::js,u::us=> setAll (ps.set j (some (.val u))) js us
 | ps,_,_=> ps
def jd:St→List Nat→List V→St
 | σ,j::js,u::us=> jd (σ.set j (some u)) js us
 | σ,_,_=> σ
theorem Rs.setAll {K:PySem.W.Frag} {H0:Hp} {O0:List Addr} {H:Hp} {O:List Addr}:∀ {js:List Nat} {ps:PSt} {σ:St} {vs:List V} {us:List U},Rs K H0 O0 ps σ H O→Rps K (hid H O) vs us→Rs K H0 O0 (L2.setAll ps js us) (jd σ js vs) H O
 | [],ps,σ,vs,us,R,r=> by cases us <;> cases vs <;> exact R
 | j::js,ps,σ,vs,[],R,r=> by rw [r.nil_inv]; exact R
 | j::js,ps,σ,vs,u::us,R,r=> by
  obtain ⟨v,ws,rfl,h1,h2⟩:=r.cons_inv
  exact Rs.setAll (js:=js) (R.set h1) h2
theorem iq {Q:St→Hp→Prop} {H:Hp}:∀ {js:List Nat} {σ:St} {vs:List V},vs.length=js.length→Q (jd σ js vs) H→k_ js vs σ H Q
 | [],σ,[],_,q=> ⟨rfl,q⟩
 | j::js,σ,v::vs,e,q=> ⟨v,vs,rfl,iq (js:=js) (by simpa using e) q⟩
 | [],_,_::_,e,_=> by simp at e
 | _::_,_,[],e,_=> by simp at e
def TgS (X:Cx) (H0:Hp) (O0:List Addr) (tg:Expr) (ps:PSt) (u:U) (ps':PSt):Prop:=
 PG X tg fun v σ H Q=> ∃ O,Rs X.K H0 O0 ps σ H O∧Rp X.K (hid H O) v u∧∀ σ' H',aB H H'→Rs X.K H0 O0 ps' σ' H' O→Q σ' H'
theorem PG.mono {X:Cx} {e:Expr} {t t':TG} (h:PG X e t) (m:∀ v σ H Q,t' v σ H Q→t v σ H Q):PG X e t':=fun pins s σ H v u Q I r q=> h pins s σ H v u Q I r (m v σ H Q q)
theorem PI.mono {X:Cx} {tg e:Expr} {t t':TI} (h:PI X tg e t) (m:∀ σ H Q,t' σ H Q→t σ H Q):PI X tg e t':=fun pins s σ H Q I q=> h pins s σ H Q I (m σ H Q q)
def Yl (K:PySem.W.Frag) (J:It) (G:Hp) (xs:List U):Prop:=
 ∀ H2,aB G H2→(∀ i,i < xs.length→J.go i H2∧∀ x H3,J.yld i H2 x H3→H3=H2∧∃ u,xs[i]?=some u∧Rp K G x u)∧J.stop xs.length H2
def EvI (X:Cx) (H0:Hp) (O0:List Addr) (ps:PSt) (tg iter:Expr) (xs:List U):Prop:=
 PI X tg iter fun σ H R=> ∃ O,Rs X.K H0 O0 ps σ H O∧∀ J H',aB H H'→Yl X.K J (hid H' O) xs→R J H'
section
variable {X:Cx} {H0:Hp} {O0:List Addr} {E:XK} {ps ps':PSt} {D:PD} {s:Stmt} {ss body:List Stmt} {a b c e tg iter:Expr} {es:List Expr} {pos p:Pos} {u x y:U} {xs ys us:List U} {k:Bool}
theorem gO {i:Nat} {x:Str} (hN:X.N.Nodup) (hi:X.N[i]?=some x) (hx:Loc X.env.scope x) (hf:X.fn x=true∨X.env.scope.names.lookup x=some .local:=by first | exact .inl rfl | exact .inr rfl | assumption):TgS X H0 O0 (.Name x pos) ps u (ps.set i (some (.val u))):=
 PG.mono (bW hN hi hx hf) fun v σ H Q ⟨O,R,r,q⟩=> q _ H (.refl H) (R.set r)
theorem vX {k:Nat} (js:List Nat) (hc:X.calm=true) (h:PGs X es (k_ js)) (hl:us.length=js.length) (hn:(assignEach es X.env).length=js.length:=by rfl) (hst:(assignEach es X.env).findIdx? (·.1)=none:=by rfl):TgS X H0 O0 (.Tuple es k pos) ps (.tup us) (setAll ps js us):=
 PG.mono (uY hc h hn hst) fun v σ H Q ⟨O,R,r,q⟩=> by
  cases r with
  | tup hq hl' hh=> exact ⟨_,_,rfl,av.tup hq,hl'.trans hl,iq (hl'.trans hl) (q _ H (.refl H) (R.setAll ⟨hl',hh⟩))⟩
theorem vV {i j:Nat} {x y:Str} {px py pt:Pos} {kt k2 pt2} {u w:U} (hc:X.calm=true) (hN:X.N.Nodup) (hi:X.N[i]?=some x) (hj:X.N[j]?=some y) (hij:i≠j)
  (hx:X.env.scope.names.lookup x=some .local) (hy:X.env.scope.names.lookup y=some .local) (ha:EvA X H0 O0 ps [a,b] [u,w])
  (hw:swappedStores [.Tuple [.Name x px,.Name y py] kt pt] (.Tuple [a,b] k2 pt2) X.env=pure (some [x,y])) (h:D.nx ((ps.set i (some (.val u))).set j (some (.val w))))
  (hs:swapsWithSole [.Tuple [.Name x px,.Name y py] kt pt] (.Tuple [a,b] k2 pt2) pos.line X.env=pure false:=by rfl):
  W1 X H0 O0 E (.Assign [.Tuple [.Name x px,.Name y py] kt pt] (.Tuple [a,b] k2 pt2) pos) D ps:=
 PS.mono (u7 hc hN hi hj hij hx hy ha hw hs) fun D' σ H ⟨L,O,R⟩=> ⟨O,R,fun vs H1 s1 r1=> by
  obtain ⟨v,z,rfl,h1,h2⟩:=dN r1
  exact ⟨v,z,rfl,L.nx _ _ _ O (((R.go s1).set h1).set h2) h⟩⟩
theorem eu (he:Ev X H0 O0 ps iter x) (hx:x=.lst xs∨x=.scr xs):EvI X H0 O0 ps tg iter xs:=
 PI.mono (sT he) fun σ H Q ⟨O,R,q⟩=> ⟨O,R,fun v H' s r=> by
  have key:∃ a vs,v=.ref a∧SqL X.K (hid H' O) a vs∧Rps X.K (hid H' O) vs xs:=by
   rcases hx with rfl | rfl
   ·cases r with
    | lst hq hl hh=> exact ⟨_,_,rfl,SqL.of hq,hl,hh⟩
   ·cases r with
    | scr hq hl hh=> exact ⟨_,_,rfl,hq,hl,hh⟩
  obtain ⟨a,vs,rfl,hq,rs⟩:=key
  refine ⟨a,rfl,⟨vs,av.seq hq⟩,q _ H' s fun H2 s2=> ⟨fun i hi=> ?_,⟨vs,s2.seq hq,by rw [rs.len]; exact Nat.le_refl _⟩⟩⟩
  have hi':i < vs.length:=by rw [rs.len]; exact hi
  refine ⟨⟨vs,vs[i],s2.seq hq,List.getElem?_eq_getElem hi'⟩,fun z H3 y=> ⟨y.1,xs[i],List.getElem?_eq_getElem hi,rs.at_ i z _ (y.2 vs (s2.seq hq)) (List.getElem?_eq_getElem hi)⟩⟩⟩
theorem ud (he:Ev X H0 O0 ps iter (.tup xs)):EvI X H0 O0 ps tg iter xs:=
 PI.mono (ug he) fun σ H Q ⟨O,R,q⟩=> ⟨O,R,fun v H' s r=> by
  cases r with
  | @tup a vs _ hq hl hh=>
   have rs:Rps X.K (hid H' O) vs xs:=⟨hl,hh⟩
   refine ⟨a,rfl,⟨vs,av.tup hq⟩,q _ H' s fun H2 s2=> ⟨fun i hi=> ?_,⟨vs,s2.tup hq,by rw [rs.len]; exact Nat.le_refl _⟩⟩⟩
   have hi':i < vs.length:=by rw [rs.len]; exact hi
   refine ⟨⟨vs,vs[i],s2.tup hq,List.getElem?_eq_getElem hi'⟩,fun z H3 y=> ⟨y.1,xs[i],List.getElem?_eq_getElem hi,rs.at_ i z _ (y.2 vs (s2.tup hq)) (List.getElem?_eq_getElem hi)⟩⟩⟩
def cQ (lo:Int) (n:Nat):List U:=(List.range n).map fun (i:Nat)=> U.int (lo+(i:Int))
theorem bq {lo:Int} {n:Nat}:(cQ lo n).length=n:=by simp [cQ]
theorem iK {lo:Int} {n i:Nat} (h:i < n):(cQ lo n)[i]?=some (.int (lo+(i:Int))):=by
 unfold cQ
 rw [List.getElem?_map,List.getElem?_range h]; rfl
theorem cZ {lo:Int} {n i:Nat} {x:U} (h:(cQ lo n)[i]?=some x):i < n∧x=.int (lo+(i:Int)):=by
 have hi:=aJ h
 rw [bq] at hi
 rw [iK hi] at h
 exact ⟨hi,(Option.some.inj h).symm⟩
theorem gU {K:PySem.W.Frag} {G:Hp} {lo:Int} {n:Nat}:Yl K (Itr lo n) G (cQ lo n):=fun H2 s2=> by
 rw [bq]
 refine ⟨fun i hi=> ⟨hi,fun z H3 y=> ⟨y.1,_,iK hi,?_⟩⟩,Nat.le_refl _⟩
 rw [y.2]; exact .int _
theorem j3 {j:Int} (hg:Gl X "range") (hm:X.mg "range"=none) (ha:EvA X H0 O0 ps [a] [.int j]) (h1:-(2 ^ 62)≤j) (h2:j < 2 ^ 62) (hs:starEach [a] X.env=[(false,eval a X.env)]:=by rfl):EvI X H0 O0 ps tg (.Call (.Name "range" p) [a] [] pos) (cQ 0 j.toNat):=
 PI.mono (oz hg hm ha hs) fun σ H Q ⟨O,R,q⟩=> ⟨O,R,fun vs H' s r=> by
  obtain ⟨v,rfl,h⟩:=bY r
  cases h
  exact ⟨j,rfl,h1,h2,q _ H' s gU⟩⟩
def eA (lo c:Int) (n:Nat):List U:=(List.range n).map fun (i:Nat)=> U.int (lo+(i:Int) * c)
theorem fS {lo c:Int} {n:Nat}:(eA lo c n).length=n:=by simp [eA]
theorem gZ {lo c:Int} {n i:Nat} (h:i < n):(eA lo c n)[i]?=some (.int (lo+(i:Int) * c)):=by
 unfold eA
 rw [List.getElem?_map,List.getElem?_range h]; rfl
theorem jJ {lo c:Int} {n i:Nat} {x:U} (h:(eA lo c n)[i]?=some x):i < n∧x=.int (lo+(i:Int) * c):=by
 have hi:=aJ h
 rw [fS] at hi
 rw [gZ hi] at h
 exact ⟨hi,(Option.some.inj h).symm⟩
theorem qV {i j m:Int} (hg:Gl X "range") (hm:X.mg "range"=none) (ha:EvA X H0 O0 ps [a,b,c] [.int i,.int j,.int m]) (h:-(2 ^ 60)≤i∧i < 2 ^ 60∧-(2 ^ 60)≤j∧j < 2 ^ 60∧0 < m∧m < 2 ^ 30) (hs:starEach [a,b,c] X.env=[(false,eval a X.env),(false,eval b X.env),(false,eval c X.env)]:=by rfl)
  (hs2:starEach [b,c] X.env=[(false,eval b X.env),(false,eval c X.env)]:=by rfl):
  EvI X H0 O0 ps tg (.Call (.Name "range" p) [a,b,c] [] pos) (eA i m (dZ i j m)):=
 PI.mono (ot hg hm ha hs hs2) fun σ H Q ⟨O,R,q⟩=> ⟨O,R,fun vs H' s r=> by
  obtain ⟨v,ws,rfl,k1,k2⟩:=r.cons_inv
  obtain ⟨w,z,rfl,k2,k3⟩:=dN k2
  cases k1; cases k2; cases k3
  refine ⟨i,j,m,rfl,h,q _ H' s fun H2 s2=> ?_⟩
  rw [fS]
  refine ⟨fun i hi=> ⟨hi,fun z H3 y=> ⟨y.1,_,gZ hi,?_⟩⟩,Nat.le_refl _⟩
  rw [y.2]; exact .int _⟩
theorem Rs.rebase {K:PySem.W.Frag} {σ:St} {H:Hp} {O:List Addr} (R:Rs K H0 O0 ps σ H O):Rs K (hid H (O.filter fun a=> decide (a ∉ O0))) O0 ps σ H O:=
 ⟨av,R.old,fun a ha=> by
  by_cases h:a∈O0
  ·exact .inl h
  ·right; unfold hid; rw [if_pos (List.mem_filter.mpr ⟨ha,by simpa using h⟩)],R.dom,R.len,R.at_,R.inj⟩
theorem Rs.base {K:PySem.W.Frag} {σ:St} {H:Hp} {O:List Addr} (R:Rs K H0 O0 ps σ H O):aB H0 (hid H (O.filter fun a=> decide (a ∉ O0))):=fun b o h=> by
 refine cr (R.same b o h) fun z=> ?_
 obtain ⟨z1,z2⟩:=List.mem_filter.mp z
 rcases R.new b z1 with y | y
 ·simp [y] at z2
 ·rw [h] at y; cases y
theorem Rs.unbase {K:PySem.W.Frag} {H1:Hp} {σ:St} {H:Hp} {O:List Addr} (e:aB H0 H1) (R:Rs K H1 O0 ps σ H O):Rs K H0 O0 ps σ H O:=
 ⟨e.trans R.same,R.old,fun a ha=> (R.new a ha).imp id fun z=> e.free z,R.dom,R.len,R.at_,R.inj⟩
theorem Rs.seen {K:PySem.W.Frag} {ps2:PSt} {σ σ2:St} {H H2:Hp} {O O2:List Addr} (R:Rs K H0 O0 ps σ H O) (R2:Rs K (hid H (O.filter fun a=> decide (a ∉ O0))) O0 ps2 σ2 H2 O2):aB (hid H O) (hid H2 O2):=fun b o h=> by
 obtain ⟨h1,h2⟩:=d_ h
 have h3:hid H (O.filter fun a=> decide (a ∉ O0)) b=some o:=cr h1 fun z=> h2 (List.mem_filter.mp z).1
 refine cr (R2.same b o h3) fun z=> ?_
 rcases R2.new b z with y | y
 ·exact h2 (R.old b y)
 ·rw [h3] at y; cases y
theorem wo (hc:X.calm=true) (hp:PassesOwn (model X.prog X.w) X.A X.env X.xe) (hi:EvI X H0 O0 ps tg iter xs) (Iv:Nat→PSt→Prop) (h0:Iv 0 ps)
  (hs:∀ (H0:Hp) (i:Nat) (x:U) (ps:PSt),xs[i]?=some x→Iv i ps→∃ ps',TgS X H0 O0 tg ps x ps'∧Ws X H0 O0 E body { D with nx:=Iv (i+1),ct:=Iv (i+1),bk:=D.nx } ps') (hd:∀ ps,Iv xs.length ps→D.nx ps)
  (hf:∀ x,foldedSetIterable iter X.env x=pure x:=by intro _; rfl):W1 X H0 O0 E (.For tg iter body [] pos) D ps:=by
 have hg:PG X tg fun v σ H Q=> ∃ H1 ps u ps',TgS X H1 O0 tg ps u ps'∧∃ O,Rs X.K H1 O0 ps σ H O∧Rp X.K (hid H O) v u∧∀ σ' H',aB H H'→Rs X.K H1 O0 ps' σ' H' O→Q σ' H':=
  fun pins s σ H v u Q I r ⟨H1,ps,w,ps',t,z⟩=> t pins s σ H v u Q I r z
 have hb:PSs X body fun D' σ H=> ∃ H1 D1 ps',Ws X H1 O0 E body D1 ps'∧Lf X.K H1 O0 E D1 D'∧∃ O,Rs X.K H1 O0 ps' σ H O:=fun pins s σ H D' I ⟨H1,D1,ps',w,z⟩=> w pins s σ H D' I z
 refine PS.mono (uT hp hc hi hg hb hf) fun D' σ H ⟨L,O,R⟩=> ⟨O,R,fun J H1 s1 Y=> ?_⟩
 have R1:=R.go s1
 have base:=R1.base
 refine ⟨fun i m σ H=> m=xs.length - i∧i≤xs.length∧∃ ps O',Iv i ps∧Rs X.K (hid H1 (O.filter fun a=> decide (a ∉ O0))) O0 ps σ H O',⟨_,rfl,Nat.zero_le _,ps,O,h0,R1.rebase⟩,?_⟩
 rintro i m σ2 H2 ⟨rfl,hi2,ps2,O2,iv,R2⟩
 have seen:=R1.seen R2
 obtain ⟨y1,y2⟩:=Y H2 (seen.trans av)
 by_cases hlt:i < xs.length
 ·obtain ⟨g1,g2⟩:=y1 i hlt
  refine .inr ⟨g1,fun σ' H'=> ∃ ps O',Iv (i+1) ps∧Rs X.K (hid H1 (O.filter fun a=> decide (a ∉ O0))) O0 ps σ' H' O',fun σ' H' z=> ⟨xs.length - (i+1),by omega,rfl,hlt,z⟩,fun x H3 y=> ?_⟩
  obtain ⟨rfl,u,hu,r⟩:=g2 x H3 y
  obtain ⟨ps',t,w⟩:=hs (hid H1 (O.filter fun a=> decide (a ∉ O0))) i u ps2 hu iv
  refine ⟨_,ps2,u,ps',t,O2,R2,r.same seen,fun σ' H' s' R'=> ⟨_,_,ps',w,?_,O2,R'⟩⟩
  exact ⟨fun p σ H O R q=> ⟨p,O,q,R⟩,fun p σ H O R q=> L.nx _ _ _ _ (R.unbase base) q,fun p σ H O R q=> ⟨p,O,q,R⟩,fun o q=> (L.rt o q).later base⟩
 ·have e:i=xs.length:=by omega
  subst e
  exact .inl ⟨y2,L.nx _ _ _ _ (R2.unbase base) (hd ps2 iv)⟩
theorem sD (hp:PassesOwn (model X.prog X.w) X.A X.env X.xe) (Iv:Nat→PSt→Prop) (m:Nat) (h0:Iv m ps)
  (hs:∀ m ps,Iv m ps→∃ b,Tt X H0 O0 ps c b∧(b=true→Ws X H0 O0 E body { D with nx:=fun p=> ∃ m',m' < m∧Iv m' p,ct:=fun p=> ∃ m',m' < m∧Iv m' p,bk:=D.nx } ps)∧(b=false→D.nx ps)):W1 X H0 O0 E (.While c body [] pos) D ps:=by
 have ht:PT X c fun σ H Q=> ∃ ps b,Tt X H0 O0 ps c b∧∃ O,Rs X.K H0 O0 ps σ H O∧∀ H',aB H H'→Q b H':=fun pins s σ H Q I ⟨ps,b,t,z⟩=> t pins s σ H Q I z
 have hb:PSs X body fun D' σ H=> ∃ D1 ps',Ws X H0 O0 E body D1 ps'∧Lf X.K H0 O0 E D1 D'∧∃ O,Rs X.K H0 O0 ps' σ H O:=fun pins s σ H D' I ⟨D1,ps',w,z⟩=> w pins s σ H D' I z
 refine PS.mono (qg hp ht hb) fun D' σ H ⟨L,O,R⟩=> ⟨fun m σ H=> ∃ ps O,Iv m ps∧Rs X.K H0 O0 ps σ H O,⟨m,ps,O,h0,R⟩,?_⟩
 rintro m σ2 H2 ⟨ps2,O2,iv,R2⟩
 obtain ⟨b,t,h1,h2⟩:=hs m ps2 iv
 refine ⟨ps2,b,t,O2,R2,fun H3 s3=> ?_⟩
 cases b with
 | true=>
  refine oE ⟨fun σ H=> ∃ m',m' < m∧∃ ps O,Iv m' ps∧Rs X.K H0 O0 ps σ H O,fun σ' H' z=> z,_,ps2,h1 rfl,?_,O2,R2.go s3⟩
  exact ⟨fun p σ H O R ⟨m',l,q⟩=> ⟨m',l,p,O,q,R⟩,fun p σ H O R q=> L.nx _ _ _ _ R q,fun p σ H O R ⟨m',l,q⟩=> ⟨m',l,p,O,q,R⟩,L.rt⟩
 | false=> exact nW (L.nx _ _ _ _ (R2.go s3) (h2 rfl))
def dt:List Nat→PSt→PSt
 | [],ps=> ps
 | i::is,ps=> dt is (ps.set i none)
theorem Rs.mask {K:PySem.W.Frag} {H:Hp} {O:List Addr}:∀ {is:List Nat} {ps:PSt} {σ:St},Rs K H0 O0 ps σ H O→Rs K H0 O0 (dt is ps) (L2.mask is σ) H O
 | [],ps,σ,R=> R
 | i::is,ps,σ,R=> Rs.mask (is:=is) (R.drop (i:=i) (o:=none))
theorem Rs.hide {K:PySem.W.Frag} {σ:St} {H H':Hp} {O:List Addr} {l:Addr} (R:Rs K H0 O0 ps σ H O) (e:aB H H') (n:H l=none) (d:H' l≠none):Rs K H0 O0 ps σ H' (l::O):=by
 refine ⟨R.same.trans e,fun a ha=> List.mem_cons_of_mem _ (R.old a ha),fun a ha=> ?_,fun a ha z=> ?_,R.len,fun i s h=> ?_,R.inj⟩
 ·rcases List.mem_cons.mp ha with y | y
  ·subst y; exact .inr (R.same.free n)
  ·exact R.new a y
 ·rcases List.mem_cons.mp ha with y | y
  ·subst y; exact d z
  ·exact R.dom a y (e.free z)
 ·obtain ⟨w,h1,h2⟩:=R.at_ i s h
  refine ⟨w,h1,?_⟩
  cases s with
  | val u=> exact Rp.same (bi e n) h2
  | own ys=>
   obtain ⟨b,ws,k1,k2,k3,k4,k5⟩:=h2
   exact ⟨b,ws,k1,List.mem_cons_of_mem _ k2,k3,e _ _ k4,k5.same (bi e n)⟩
  | pin z u=> exact ⟨h2.1,Rp.same (bi e n) h2.2⟩
def GOk (g:TG) (K:PySem.W.Frag) (is:List Nat) (f:PSt→U→PSt) (dom:U→Prop):Prop:=
 ∀ (H0:Hp) (O0:List Addr) (ps:PSt) (σ:St) (H:Hp) (O:List Addr) (v:V) (u:U) (Q:St→Hp→Prop),dom u→Rs K H0 O0 ps σ H O→Rp K (hid H O) v u→
  (∀ σ',Rs K H0 O0 (f ps u) σ' H O→(∀ (n:Nat) (w:V),n ∉ is→σ[n]?=some (some w)→σ'[n]?=some (some w))→Q σ' H)→g v σ H Q
theorem cv {K:PySem.W.Frag} {is:List Nat} {i:Nat} (h:i∈is):GOk (kc i) K is (fun ps u=> ps.set i (some (.val u))) fun _=> True:=fun H0 O0 ps σ H O v u Q _ R r q=>
 q _ (R.set r) fun n w hn e=> by rw [List.getElem?_set_ne (fun z=> hn (by rw [← z]; exact h))]; exact e
theorem io {is:List Nat} {g:TG} {f:PSt→U→PSt} {dom:U→Prop} {σ:St} {H1:Hp} {O:List Addr} {Q:VK} {J:It} {te:TE} (hg:GOk g X.K is f dom) (R1:Rs X.K H0 O0 ps σ H1 O) (Y:Yl X.K J (hid H1 O) xs) (hlen:ys.length=xs.length) (hz:xs.length≤sizeLine) (hdom:∀ x∈xs,dom x)
  (hte:∀ (i:Nat) (x y:U) (σ:St) (H:Hp) (O':List Addr) (Q:VK),xs[i]?=some x→ys[i]?=some y→Rs X.K H0 O0 (f (dt is ps) x) σ H O'→(∀ v H',aB H H'→Rp X.K (hid H' O') v y→Q v H')→te σ H Q)
  (fin:∀ a vs H',aB H1 H'→H1 a=none→H' a=some (.lst vs)→Rps X.K (hid H' (a::O)) vs ys→Q (.ref a) H'):tT is g te σ Q J H1:=by
 intro l hl
 refine ⟨fun i m H2=> m=xs.length - i∧i≤xs.length∧aB H1 H2∧∃ vs,H2 l=some (.lst vs)∧vs.length=i∧Rps X.K (hid H2 (l::O)) vs (ys.take i),⟨_,rfl,Nat.zero_le _,aQ hl _,[],aH,rfl,by rw [List.take_zero]; exact .nil⟩,?_⟩
 rintro i m H2 ⟨rfl,hi,s2,vs,h2,hv,rs⟩
 have seen:aB (hid H1 O) (hid H2 (l::O)):=bi s2 hl
 obtain ⟨y1,y2⟩:=Y H2 (seen.trans av)
 by_cases hlt:i < xs.length
 ·obtain ⟨g1,g2⟩:=y1 i hlt
  refine .inr ⟨g1,fun x H3 y=> ?_⟩
  obtain ⟨rfl,u,hu,r⟩:=g2 x H3 y
  have R2:=(R1.mask (is:=is)).hide s2 hl (by rw [h2]; intro z; cases z)
  refine hg H0 O0 _ _ H3 (l::O) x u _ (hdom u (List.mem_of_getElem? hu)) R2 (r.same seen) fun σ4 R4 keep=> ?_
  have hy:ys[i]?=some (ys[i]'(by omega)):=List.getElem?_eq_getElem _
  refine hte i u _ σ4 H3 (l::O) _ hu hy R4 fun v H5 s5 r5=> ⟨fun j w e=> keep j w (fk is σ j w e).2 e,vs,s5 _ _ h2,?_,xs.length - (i+1),by omega,rfl,hlt,(s2.trans s5).put hl _,vs++[v],aH,by simp [hv],?_⟩
  ·rw [hv]; omega
  ·rw [jf List.mem_cons_self,List.take_succ,hy]
   exact (rs.same (aY s5)).snoc (.cons r5 .nil)
 ·have e:i=xs.length:=by omega
  subst e
  rw [← hlen,List.take_length] at rs
  exact .inl ⟨y2,fin l vs H2 s2 hl h2 rs⟩
theorem e6 {elt:Expr} {scope:Scope} {cl:List (Str×Addr)} {is:List Nat} {g:TG} {f:PSt→U→PSt} {dom:U→Prop} (hc:X.calm=true) (B:cH X scope cl is) (hi:EvI X H0 O0 ps tg iter xs) (hg:∀ C s H fp,PG (aw X scope cl C s H fp) tg g) (gk:GOk g X.K is f dom)
  (hlen:ys.length=xs.length) (hz:xs.length≤sizeLine) (hdom:∀ x∈xs,dom x) (he:∀ C s H fp (i:Nat) (x y:U),xs[i]?=some x→ys[i]?=some y→Ev (aw X scope cl C s H fp) H0 O0 (f (dt is ps) x) elt y)
  (hs:∀ x,foldedSetIterable iter X.env x=pure x:=by intro _; rfl):EvN X H0 O0 ps (.ListComp elt [⟨tg,iter,[],0⟩] scope pos) ys:=by
 have hte:∀ C s H fp,PE (aw X scope cl C s H fp) elt fun σ H Q=> ∃ i x y,xs[i]?=some x∧ys[i]?=some y∧∃ O',Rs X.K H0 O0 (f (dt is ps) x) σ H O'∧∀ v H',aB H H'→Rp X.K (hid H' O') v y→Q v H':=
  fun C s H fp pins s' σ H' Q I ⟨i,x,y,h1,h2,z⟩=> he C s H fp i x y h1 h2 pins s' σ H' Q I z
 refine PE.mono (rT hc B hi hg hte hs) fun σ H Q ⟨O,R,q⟩=> ⟨O,R,fun J H1 s1 Y=> ?_⟩
 exact io gk (R.go s1) Y hlen hz hdom (fun i x y σ H O' Q h1 h2 R' z=> ⟨i,x,y,h1,h2,O',R',z⟩) fun a vs H' s n h r=> q a vs H' (s1.trans s) (s1.free n) h r
theorem nF {elt:Expr} {scope:Scope} {cl:List (Str×Addr)} {spos py:Pos} {y:Str} {j:Nat} {is:List Nat} {g:TG} {f:PSt→U→PSt} {dom:U→Prop} (own:Bool) (hc:X.calm=true) (hN:X.N.Nodup) (hj:X.N[j]?=some y) (hy:Loc X.env.scope y) (B:cH X scope cl is)
  (hi:EvI X H0 O0 ps tg iter xs) (hg:∀ C s H fp,PG (aw X scope cl C s H fp) tg g) (gk:GOk g X.K is f dom) (hlen:ys.length=xs.length) (hz:xs.length≤sizeLine) (hdom:∀ x∈xs,dom x)
  (he:∀ C s H fp (i:Nat) (x y:U),xs[i]?=some x→ys[i]?=some y→Ev (aw X scope cl C s H fp) H0 O0 (f (dt is ps) x) elt y) (h:D.nx (ps.set j (some (if own then .own ys else .val (.lst ys)))))
  (hs:∀ x,foldedSetIterable iter X.env x=pure x:=by intro _; rfl)
  (hsw:swapsWith (.ListComp elt [⟨tg,iter,[],0⟩] scope pos) (some (.Name y py)) spos.line X.env=pure true:=by rfl) (hf:X.fn y=true∨X.env.scope.names.lookup y=some .local:=by first | exact .inl rfl | exact .inr rfl | assumption):
  W1 X H0 O0 E (.Assign [.Name y py] (.ListComp elt [⟨tg,iter,[],0⟩] scope pos) spos) D ps:=by
 have hte:∀ C s H fp,PE (aw X scope cl C s H fp) elt fun σ H Q=> ∃ i x y,xs[i]?=some x∧ys[i]?=some y∧∃ O',Rs X.K H0 O0 (f (dt is ps) x) σ H O'∧∀ v H',aB H H'→Rp X.K (hid H' O') v y→Q v H':=
  fun C s H fp pins s' σ H' Q I ⟨i,x,y,h1,h2,z⟩=> he C s H fp i x y h1 h2 pins s' σ H' Q I z
 refine PS.mono (kO hc hN hj hy B hi hg hte hs hsw hf) fun D' σ H ⟨L,O,R⟩=> ⟨O,R,fun J H1 s1 Y=> ?_⟩
 refine io gk (R.go s1) Y hlen hz hdom (fun i x y σ H O' Q h1 h2 R' z=> ⟨i,x,y,h1,h2,O',R',z⟩) fun a vs H' s n h' r=> ?_
 cases own with
 | true=> exact L.nx _ _ _ _ ((R.go s1).own s n h' r) h
 | false=>
  have na:a ∉ O:=fun z=> (R.go s1).dom a z n
  have r':=r.same (ck fun b hb=> List.mem_cons_of_mem a hb)
  exact L.nx _ _ _ _ (((R.go s1).go s).set (.lst (cr h' na) r'.len r'.at_)) h
end
end L2
namespace L2
open PySem PySem.Spec PyProof.Rows
def spU (K:PySem.W.Frag) (spec:List U→Out→Prop):Sp:=fun vs H Q E=> ∃ us O o,(∀ a∈O,H a≠none)∧Rps K (hid H O) vs us∧spec us o∧iB K H O Q E o
section
variable {X:Cx} {H0:Hp} {O0:List Addr} {E:XK} {ps ps':PSt} {D:PD} {s:Stmt} {ss body:List Stmt} {a b c e:Expr} {es:List Expr} {pos p:Pos} {u x y:U} {xs ys us:List U} {k:Bool}
 {CX:CXT} {n:Nat} {f C:Addr} {fd:FuncData} {pn:List Str} {spec:List U→Out→Prop} {nm:Str}
theorem aN (F:aR X.prog X.w X.K X.mg X.base CX n f fd pn (spU X.K spec)) (hr:cF n X.A) (hg:Gl X nm) (hm:X.mg nm=some (.ref f)) (hk:PySem.W.keepIn X.K (.ref f)=true) (hb:aA X.K fd pn []) (hx:dJ CX X E0)
  (ha:EvA X H0 O0 ps (e::es) us) (h:spec us (.val u)) (hdb:(nm==("__debug__":Str))=false:=by decide) (he:starEach (e::es) X.env=(false,eval e X.env)::starEach es X.env:=by rfl) (hpl:(backTo pos (starEach es X.env)).any (·.1)=false:=by rfl):
  Ev X H0 O0 ps (.Call (.Name nm p) (e::es) [] pos) u:=
 PE.mono (e9 F hr hg hm hk hb .nil hx ha hdb he hpl) fun σ H Q ⟨O,R,q⟩=> ⟨O,R,fun vs H1 s1 r1=> by
  show spU X.K spec (vs++[]) H1 Q _
  rw [List.append_nil]
  exact ⟨us,O,.val u,(R.go s1).dom,r1,h,fun v H2 s2 r2=> q v H2 (s1.trans s2) r2⟩⟩
theorem ci (F:aR X.prog X.w X.K X.mg X.base CX n f fd pn (spU X.K spec)) (hr:cF n X.A) (hg:Gl X nm) (hm:X.mg nm=some (.ref f)) (hk:PySem.W.keepIn X.K (.ref f)=true) (hb:aA X.K fd pn []) (hx:dJ CX X E0)
  (ha:EvA X H0 O0 ps (e::es) us) (h:spec us (.new xs)) (hdb:(nm==("__debug__":Str))=false:=by decide) (he:starEach (e::es) X.env=(false,eval e X.env)::starEach es X.env:=by rfl) (hpl:(backTo pos (starEach es X.env)).any (·.1)=false:=by rfl):
  EvN X H0 O0 ps (.Call (.Name nm p) (e::es) [] pos) xs:=
 PE.mono (e9 F hr hg hm hk hb .nil hx ha hdb he hpl) fun σ H Q ⟨O,R,q⟩=> ⟨O,R,fun vs H1 s1 r1=> by
  show spU X.K spec (vs++[]) H1 Q _
  rw [List.append_nil]
  exact ⟨us,O,.new xs,(R.go s1).dom,r1,h,fun a vs H2 s2 n2 h2 r2=> q a vs H2 (s1.trans s2) (s1.free n2) h2 r2⟩⟩
def Xv (X:Cx) (H0:Hp) (O0:List Addr) (E:XK) (ps:PSt) (e:Expr) (C:Addr):Prop:=PE X e fun σ H _=> ∃ O,Rs X.K H0 O0 ps σ H O∧∀ H',aB H H'→E (.ref C) none H'
theorem lJ (F:aR X.prog X.w X.K X.mg X.base CX n f fd pn (spU X.K spec)) (hr:cF n X.A) (hg:Gl X nm) (hm:X.mg nm=some (.ref f)) (hk:PySem.W.keepIn X.K (.ref f)=true) (hb:aA X.K fd pn []) (hx:dJ CX X E)
  (ha:EvA X H0 O0 ps (e::es) us) (h:spec us (.exc C)) (hdb:(nm==("__debug__":Str))=false:=by decide) (he:starEach (e::es) X.env=(false,eval e X.env)::starEach es X.env:=by rfl) (hpl:(backTo pos (starEach es X.env)).any (·.1)=false:=by rfl):
  Xv X H0 O0 E ps (.Call (.Name nm p) (e::es) [] pos) C:=
 PE.mono (e9 F hr hg hm hk hb .nil hx ha hdb he hpl) fun σ H Q ⟨O,R,q⟩=> ⟨O,R,fun vs H1 s1 r1=> by
  show spU X.K spec (vs++[]) H1 Q _
  rw [List.append_nil]
  exact ⟨us,O,.exc C,(R.go s1).dom,r1,h,fun H2 s2=> q H2 (s1.trans s2)⟩⟩
theorem mI (he:Xv X H0 O0 E ps e C) (h:D.rt (.exc C)) (hs:swapsWith e none pos.line X.env=pure false:=by rfl):W1 X H0 O0 E (.Expr e pos) D ps:=
 PS.mono (eB he hs) fun D' σ H ⟨L,O,R⟩=> ⟨O,R,fun H' s=> L.rt _ h H' (R.same.trans s)⟩
theorem vt {i:Nat} {x:Str} {pos':Pos} (hN:X.N.Nodup) (hi:X.N[i]?=some x) (hx:Loc X.env.scope x) (he:Xv X H0 O0 E ps e C) (h:D.rt (.exc C)) (hs:swapsWith e (some (.Name x pos')) pos.line X.env=pure false:=by rfl) (hf:X.fn x=true∨X.env.scope.names.lookup x=some .local:=by first | exact .inl rfl | exact .inr rfl | assumption):
  W1 X H0 O0 E (.Assign [.Name x pos'] e pos) D ps:=PS.mono (lm hN hi hx he hs hf) fun D' σ H ⟨L,O,R⟩=> ⟨O,R,fun H' s=> L.rt _ h H' (R.same.trans s)⟩
end
section
variable {P:Program} {w:World} {K:PySem.W.Frag} {mg:Str→Option Value} {base:Heap} {N pn:List Str} {qual nm:Str} {scope:Scope} {f:Addr} {cd:Value} {A:Around} {outer:List Env} {s:Shared} {H H0:Hp} {O0:List Addr} {E:XK} {D:PD} {ps:PSt} {u:U}
theorem gj {x:Str} {C:Addr} {e0:Expr} {np cpos pos:Pos} (hex:PySem.W.excIn K C [.type "ValueError",.type "Exception",.type "BaseException",.type "object"] "ValueError.__new__"=true)
  (hg:Gl (de (CXF P w) P w K mg base N qual scope f cd A outer s H E) x) (hm:mg x=some (.ref C)) (he:Ev (de (CXF P w) P w K mg base N qual scope f cd A outer s H E) H0 O0 ps e0 u) (h:D.rt (.exc C))
  (hst:starEach [e0] (de (CXF P w) P w K mg base N qual scope f cd A outer s H E).env=[(false,eval e0 (de (CXF P w) P w K mg base N qual scope f cd A outer s H E).env)]:=by rfl) (hd:(x==("__debug__":Str))=false:=by decide):
  W1 (de (CXF P w) P w K mg base N qual scope f cd A outer s H E) H0 O0 E (.Raise (some (.Call (.Name x np) [e0] [] cpos)) none pos) D ps:=
 PS.mono (pX hex hg hm he hst hd) fun D' σ H ⟨L,O,R⟩=> ⟨O,R,fun v H' s r=> L.rt _ h H' (R.same.trans s)⟩
def d8 (N:List Str) (us:List U):PSt:=us.map (fun u=> some (.val u))++List.replicate (N.length - us.length) none
theorem aW {st:Stmt} {fd:FuncData} {k:Nat} {spec:List U→Out→Prop} (F:Fun K nm qual st f fd) (S:au N pn (ah st)) (len:∀ us o,spec us o→us.length=pn.length)
  (hbody:∀ (cdv:Value) (A:Around) (outer:List Env) (s:Shared) (H:Hp) (E:XK) (O:List Addr) (us:List U) (o:Out),cF k (A.deeper (envOfC qual (ah st) s.heap.objs.size f cdv))→spec us o→
   Ws (de (CXF P w) P w K mg base N qual (ah st) f cdv A outer s H E) H O E (am st) ⟨fun _=> o=.val .non,fun o'=> o'=o,fun _=> False,fun _=> False⟩ (d8 N us)):aR P w K mg base (CXF P w) (k+1) f fd pn (spU K spec):=by
 refine F.okF S (fun vs H Q E h=> ?_) fun cdv A outer s H vs Q E hr h=> ?_
 ·obtain ⟨us,O,o,_,r,hsp,_⟩:=h
  rw [r.len]; exact len us o hsp
 ·obtain ⟨us,O,o,d,r,hsp,q⟩:=h
  refine ⟨_,hbody cdv A outer s H E O us o hr hsp,⟨fun ps σ H' O' R e=> ?_,fun _ _ _ _ _ e=> e.elim,fun _ _ _ _ _ e=> e.elim,fun o' e=> by subst e; exact q⟩,O,?_⟩
  ·subst e; exact q .non H' R.same .non
  ·refine ⟨.refl H,fun a h=> h,fun a h=> .inl h,d,?_,fun i sl e=> ?_,fun i j xs ys a e1 e2 _ _=> ?_⟩
   ·unfold start d8
    rw [List.length_append,List.length_append,List.length_map,List.length_map,List.length_replicate,List.length_replicate,r.len]
   ·unfold d8 at e
    by_cases hi:i < us.length
    ·rw [List.getElem?_append_left (by simpa using hi),List.getElem?_map,List.getElem?_eq_getElem hi] at e
     cases e
     obtain ⟨v,h1,h2⟩:=r.get (List.getElem?_eq_getElem hi)
     refine ⟨v,?_,h2⟩
     unfold start
     rw [List.getElem?_append_left (by simpa [r.len] using hi),List.getElem?_map,h1]; rfl
    ·rw [List.getElem?_append_right (by simpa using hi),List.getElem?_replicate] at e
     split at e <;> cases e
   ·exfalso
    unfold d8 at e1
    by_cases hi:i < us.length
    ·rw [List.getElem?_append_left (by simpa using hi),List.getElem?_map,List.getElem?_eq_getElem hi] at e1
     cases e1
    ·rw [List.getElem?_append_right (by simpa using hi),List.getElem?_replicate] at e1
     split at e1 <;> cases e1
end
section
variable {X:Cx} {H0:Hp} {O0:List Addr} {ps:PSt} {a b c e:Expr} {es rest:List Expr} {pos p p2:Pos} {u x y:U} {xs ys us:List U} {i j:Int} {k m:Bool} {lo hi:Option Expr} {l h:Option Int}
def EvO (X:Cx) (H0:Hp) (O0:List Addr) (ps:PSt) (e:Option Expr) (n:Option Int):Prop:=PO X e fun σ H Q=> ∃ O,Rs X.K H0 O0 ps σ H O∧∀ H',aB H H'→Q n H'
theorem fJ:EvO X H0 O0 ps none none:=fun pins s σ H Q I ⟨O,R,q⟩=> tH pins s σ H Q I (q H (.refl H))
theorem fM (he:Ev X H0 O0 ps e (.int i)):EvO X H0 O0 ps (some e) (some i):=fun pins s σ H Q I ⟨O,R,q⟩=> sZ he pins s σ H Q I ⟨O,R,fun v H' s r=> by cases r; exact ⟨i,rfl,q H' s⟩⟩
def e7 (xs:List U) (lo hi:Option Int):List U:=(xs.drop (HT.sIx xs.length 0 lo)).take (HT.sIx xs.length xs.length hi - HT.sIx xs.length 0 lo)
theorem Rps.drop {K:PySem.W.Frag} {H:Hp} {vs:List V} {xs:List U} (r:Rps K H vs xs) (n:Nat):Rps K H (vs.drop n) (xs.drop n):=⟨by simp [r.len],fun i v x h1 h2=> r.at_ _ v x (by rwa [List.getElem?_drop] at h1) (by rwa [List.getElem?_drop] at h2)⟩
theorem Rps.take {K:PySem.W.Frag} {H:Hp} {vs:List V} {xs:List U} (r:Rps K H vs xs) (n:Nat):Rps K H (vs.take n) (xs.take n):=⟨by simp [r.len],fun i v x h1 h2=> by
 by_cases hn:i < n
 ·rw [List.getElem?_take_of_lt hn] at h1 h2
  exact r.at_ i v x h1 h2
 ·rw [List.getElem?_take_eq_none (by omega)] at h1
  cases h1⟩
theorem Rps.cut {K:PySem.W.Frag} {H:Hp} {vs:List V} {xs:List U} (r:Rps K H vs xs):Rps K H (nM vs l h) (e7 xs l h):=by
 unfold nM e7
 rw [r.len]
 exact (r.drop _).take _
theorem eH (he:Ev X H0 O0 ps e x) (hl:EvO X H0 O0 ps lo l) (hh:EvO X H0 O0 ps hi h) (hx:x=.lst xs∨x=.scr xs):EvN X H0 O0 ps (.Subscript e (.Slice lo hi none p2) pos) (e7 xs l h):=
 PE.mono (qW rE he hl hh) fun σ H Q ⟨O,R,q⟩=> ⟨O,R,fun v H1 s1 r1=> ⟨O,R.go s1,fun H2 s2=> ⟨O,R.go (s1.trans s2),fun H3 s3=> by
  have key:∃ a vs,v=.ref a∧SqL X.K (hid H1 O) a vs∧Rps X.K (hid H1 O) vs xs:=by
   rcases hx with rfl | rfl
   ·cases r1 with
    | lst hq hl hh=> exact ⟨_,_,rfl,SqL.of hq,hl,hh⟩
   ·cases r1 with
    | scr hq hl hh=> exact ⟨_,_,rfl,hq,hl,hh⟩
  obtain ⟨a,vs,rfl,hq,rs⟩:=key
  have s13:=s2.trans s3
  refine ⟨a,vs,rfl,s13.seq (av.seq hq),fun p hp=> q p _ _ ((s1.trans s13).trans (aQ hp _)) ((s1.trans s13).free hp) aH ?_⟩
  exact (rs.cut.same (aY s13)).same (bi (aQ hp _) hp)⟩⟩⟩
theorem t5 (ha:Ev X H0 O0 ps a (.lst xs)) (hb:Ev X H0 O0 ps b (.lst ys)) (hz:xs.length+ys.length≤sizeLine):EvN X H0 O0 ps (.BinOp a .Add b pos) (xs++ys):=
 PE.mono (qK uj ha hb) fun σ H Q ⟨O,R,q⟩=> two R (fun _ _ _ z=> z) (fun _ _ _ z=> z) fun v w H' s _ r1 r2=> by
  cases r1 with
  | lst hq hl hh=>
   cases r2 with
   | lst hq' hl' hh'=>
    refine ⟨_,_,_,_,rfl,rfl,av _ _ hq,av _ _ hq',by rw [hl,hl']; exact hz,fun p hp=> q p _ _ (s.trans (aQ hp _)) (s.free hp) aH ?_⟩
    exact (Rps.snoc ⟨hl,hh⟩ ⟨hl',hh'⟩).same (bi (aQ hp _) hp)
def fl:U→V
 | .bl b=> .bl b | .int i=> .int i | .str x=> .str x | _=> .non
def p8:U→Bool
 | .bl _=> true | .int _=> true | .str _=> true | .non=> true | _=> false
theorem tR {K:PySem.W.Frag} {H:Hp} {v:V} {u:U} (h:Rp K H v u) (f:p8 u=true):v=fl u∧eT v=true:=by
 cases h <;> first | exact ⟨rfl,rfl⟩ | simp [p8] at f
theorem pM {K:PySem.W.Frag} {H:Hp}:∀ {vs:List V} {xs:List U},Rps K H vs xs→xs.all p8=true→vs=xs.map fl∧vs.all eT=true
 | vs,[],r,_=> by rw [r.nil_inv]; exact ⟨rfl,rfl⟩
 | vs,x::xs,r,f=> by
  obtain ⟨v,ws,rfl,h1,h2⟩:=r.cons_inv
  simp only [List.all_cons,Bool.and_eq_true] at f
  obtain ⟨e1,e2⟩:=tR h1 f.1
  obtain ⟨e3,e4⟩:=pM h2 f.2
  refine ⟨by rw [List.map_cons,← e1,← e3],?_⟩
  simp only [List.all_cons,Bool.and_eq_true]
  exact ⟨e2,e4⟩
theorem wE (hx:p8 x=true) (hy:y.items=some ys) (hf:ys.all p8=true):OpS X (compareOp .In) x y (.bl (inV (fl x) (ys.map fl))):=by
 intro pins s σ H v w p q Q I r1 r2 h
 obtain ⟨k1,k2,k3⟩:=h
 obtain ⟨a,vs,rfl,h1,h2⟩:=jw k2 hy
 obtain ⟨e1,e2⟩:=tR k1 hx
 obtain ⟨e3,e4⟩:=pM h2 hf
 exact nQ pins s σ H v _ p q Q I r1 r2 ⟨a,vs,rfl,h1,e2,e4,by rw [e1,e3]; exact k3⟩
theorem wl {bs:List Bool} (hc:X.calm=true):dg X (.builtin "all") [.lst (bs.map U.bl)] (.bl (bs.all id)):=by
 intro pins s σ H vs us Q I r hq
 obtain ⟨O,d,rs,q⟩:=hq
 obtain ⟨v,rfl,h1⟩:=bY rs
 obtain ⟨p1,rfl,r1⟩:=dy r
 cases h1 with
 | @lst a ws _ hq hl hh=>
  cases r1
  obtain ⟨its,rv,pl,_⟩:=I.list (SqL.of (av _ _ hq))
  have hlen:its.length=bs.length:=by rw [← rv.length,hl,List.length_map]
  have hat:∀ (i:Nat) (z:Value),its.toArray[i]?=some z→z=.bool (bs.getD i false):=fun i z e=> by
   have hi:i < its.length:=by have:=aJ (show its[i]?=some z by simpa using e); exact this
   have hb:i < bs.length:=by omega
   have hw:i < ws.length:=by rw [rv.length]; exact hi
   obtain ⟨u,e1,e2⟩:=rv.get (List.getElem?_eq_getElem hw)
   have e3:=hh i ws[i] (.bl bs[i]) (List.getElem?_eq_getElem hw) (by rw [List.getElem?_map,List.getElem?_eq_getElem hb]; rfl)
   have e4:its[i]?=some z:=by simpa using e
   rw [e4] at e1
   cases e1
   generalize ws[i]=wi at *
   cases e3
   rw [List.getD_eq_getElem?_getD,List.getElem?_eq_getElem hb]
   exact e2
  refine call_all_walk (wpAny_pyIter_list pl.isList ?_)
  have hne:a≠s.heap.objs.size:=by obtain ⟨o,e,_⟩:=pl.isList; exact Nat.ne_of_lt (Heap.lt_size e)
  refine ⟨s.heap.objs.size,_,_,_,_,_,fun i=> bs.getD i false,rfl,Walks.list (A:=X.A.in1) (I.ok.hd hc) s.heap.objs.size a hne its.toArray,⟨⟨_,Heap.get?_push_size _ rfl,rfl,rfl⟩,pl.isList.push _⟩,fun i z s' Q' E' hP hQ=> ?_,fun h' tk hk=> ?_⟩
  ·rw [hat i z hP]; exact wpAny_truthy_bool hQ
  ·have e:(List.range its.toArray.size).all (fun i=> bs.getD i false)=bs.all id:=by
    rw [List.size_toArray,hlen,Bool.eq_iff_iff,iQ,List.all_eq_true]
    constructor
    ·intro h x hx
     obtain ⟨i,hi,rfl⟩:=List.getElem_of_mem hx
     have:=h i hi
     rwa [List.getD_eq_getElem?_getD,List.getElem?_eq_getElem hi] at this
    ·intro h j hj
     rw [List.getD_eq_getElem?_getD,List.getElem?_eq_getElem hj]
     exact h _ (List.getElem_mem hj)
   rw [e]
   refine ⟨.bl _,H,I.kept (t':=tk) fun b o e=> hk b o ?_ (Heap.get?_push_of_some _ e),rfl,q _ H (.refl H) (.bl _)⟩
   intro z
   have:b=s.heap.objs.size:=by simpa using z
   exact absurd (Heap.lt_size e) (by rw [this]; exact Nat.lt_irrefl _)
end
end L2
namespace L2
open PySem PySem.Spec PyProof.Rows
def oK (J:It) (is:List Nat) (g:TG) (tt:TT) (te:TE) (σ:St) (H1:Hp) (l:Addr) (Q:VK):Prop:=
 ∃ W:Nat→Nat→Hp→Prop,(∃ m,W 0 m (upd H1 l (.lst [])))∧∀ i m H2,W i m H2→
  (J.stop i H2∧Q (.ref l) H2)∨(J.go i H2∧∀ x H3,J.yld i H2 x H3→g x (mask is σ) H3 fun σ4 H4=> tt σ4 H4 fun b H5=>
   (∀ (j:Nat) (v:V),(mask is σ)[j]?=some (some v)→σ4[j]?=some (some v))∧
   if b=true then te σ4 H5 fun y H6=> ∃ vs,H6 l=some (.lst vs)∧vs.length < sizeLine∧∃ m',m' < m∧W (i+1) m' (upd H6 l (.lst (vs++[y]))) else ∃ m',m' < m∧W (i+1) m' H5)
def pj (is:List Nat) (g:TG) (tt:TT) (te:TE) (σ:St) (Q:VK) (J:It) (H1:Hp):Prop:=∀ l,H1 l=none→oK J is g tt te σ H1 l Q
def qS (is:List Nat) (wi:TI) (g:TG) (tt:TT) (te:TE):TE:=fun σ H Q=> wi σ H (pj is g tt te σ Q)
section
variable {X:Cx} {pins:List (Addr×Obj)} {σ:St} {H:Hp} {s:Shared}
theorem nB {elt iter tg:Expr} {scope:Scope} {cl:List (Str×Addr)} {pos pos0:Pos} {is:List Nat} {wi:TI} {g:TG} {tt:TT} {te:TE} {cond:Expr} {use:Option (Value→Sem Unit)} {Q0:VK} {Q:Value→Shared→Prop} (hc:X.calm=true) (B:cH X scope cl is)
  (hi:PI X tg iter wi) (hg:∀ C s H fp,PG (aw X scope cl C s H fp) tg g) (ht:∀ C s H fp,PT (aw X scope cl C s H fp) cond tt) (he:∀ C s H fp,PE (aw X scope cl C s H fp) elt te) (hs:∀ x,foldedSetIterable iter X.env x=pure x)
  (I:Inv X pins σ H s) (h:qS is wi g tt te σ H Q0)
  (fin:∀ (l C:Addr) (H':Hp) (s':Shared) (m:Str→Option Value),Inv X pins σ H' s'→s'.heap.Ns C m→H' C=none→C≠X.env.locals→C ∉ X.fs→X.s₀.heap.objs.size≤C→(∀ x c,X.env.cells.lookup x=some c→c≠C)→(∀ p∈X.pn++pins,p.1≠C)→Q0 (.ref l) H'→
   compPost (model X.prog X.w) X.A X.xe use Q (.ref l) C (.ok .next) s'):
  wpAny (model X.prog X.w) X.A (comprehension (.ListComp elt [⟨tg,iter,[cond],0⟩] scope pos) scope X.env pos0 (newList []) false (eval iter X.env) use) Q X.xe s:=by
 refine wpAny_comprehension_free rfl hs B.clos B.kind B.names (thn (hi pins s σ H _ I h) fun xv s1 h1=> thn h1 fun itv s2 h2=> ?_)
 obtain ⟨it,fp,tn,J,H2,e,I2,T,st2,f2,R⟩:=h2
 subst e
 refine wpAny_newObj_type (wpAny_newFunctionEnv B.cell (by intro y hy; simp at hy) (fun h₁ hns hsb=> ?_) B.kind)
 have hl:H2 s2.heap.objs.size=none:=I2.hok.fresh (Nat.le_refl _)
 obtain ⟨W,⟨m0,w0⟩,turn⟩:=R s2.heap.objs.size hl
 have I3:Inv X pins σ (upd H2 s2.heap.objs.size (.lst [])) { s2 with heap:=s2.heap.push { cls:=.type "list",dict:=none,data:=.seq ([]:List Value).toArray } }:=
  I2.laid (t':=s2.toks) (o:=.lst []) (fun b u e=> Heap.get?_push_of_some _ e) (Nat.le_refl _) ⟨Nat.zero_le _,[],0,.nil,Heap.get?_push_size _ rfl⟩
 have hfl:∀ b∈fp,b < s2.heap.objs.size:=fun b hb=> let ⟨o,e,_⟩:=T.obj 0 _ st2 b hb; Heap.lt_size e
 have f3:∀ b∈fp,gN X pins (upd H2 s2.heap.objs.size (.lst [])) b:=fun b hb=> ⟨by rw [aK (Nat.ne_of_lt (hfl b hb))]; exact (f2 b hb).1,(f2 b hb).2⟩
 have kp:∀ b o,(s2.heap.push { cls:=.type "list",dict:=none,data:=.seq ([]:List Value).toArray }).get? b=some o→h₁.get? b=some o:=fun b o e=>
  hsb.extBut b o (Nat.ne_of_lt (Heap.lt_size e)) (Heap.get?_push_of_some _ e)
 have st4:tn 0 h₁:=T.keep 0 _ _ st2 fun b _ o e=> kp b o (Heap.get?_push_of_some _ e)
 have hfl3:∀ b∈fp,b < (s2.heap.push { cls:=.type "list",dict:=none,data:=.seq ([]:List Value).toArray }).objs.size:=fun b hb=> by
  rw [Heap.size_push]; exact Nat.lt_succ_of_lt (hfl b hb)
 have I4:=fV (t':=s2.toks+([]:List (Str×Value)).length) I3 B f3 hfl3 hns kp
 have loop:codeAny (model X.prog X.w) X.A (.compLoop (.ListComp elt [⟨tg,iter,[cond],0⟩] scope pos) 0 (.ref it) (.ref s2.heap.objs.size) (compEnvC scope cl (s2.heap.push { cls:=.type "list",dict:=none,data:=.seq ([]:List Value).toArray }).objs.size X.env))
   (compPost (model X.prog X.w) X.A X.xe use Q (.ref s2.heap.objs.size) (s2.heap.push { cls:=.type "list",dict:=none,data:=.seq ([]:List Value).toArray }).objs.size)
   { s2 with heap:=h₁,toks:=s2.toks+([]:List (Str×Value)).length }:=by
  generalize hs3:({ s2 with heap:=s2.heap.push { cls:=.type "list",dict:=none,data:=.seq ([]:List Value).toArray } }:Shared)=s3 at *
  have hC:(s2.heap.push { cls:=.type "list",dict:=none,data:=.seq ([]:List Value).toArray }).objs.size=s3.heap.objs.size:=by rw [← hs3]
  rw [hC]
  have hstat:∀ {H':Hp},(∀ b∈fp,H' b=none)→∀ b∈fp,gN (aw X scope cl s3.heap.objs.size s3 (upd H2 s2.heap.objs.size (.lst [])) fp) [] H' b:=fun hn b hb=>
   ⟨hn b hb,(I4.ok.exf b hb).1,I4.ok.exfs b hb,.inl hb,fun x c e=> (I4.ok.exf b hb).2 x c e,fun p hp=> absurd (show p∈([]:List (Addr×Obj)) from hp) (by simp)⟩
  have back:∀ {σ':St} {H':Hp} {pp:List (Addr×Obj)} {s':Shared},Inv (aw X scope cl s3.heap.objs.size s3 (upd H2 s2.heap.objs.size (.lst [])) fp) pp σ' H' s'→Inv X pins σ H' s':=fun I'=>
   I3.call' (ch:=fp) I'.os I'.base I'.hok I'.bare fun b hb=> ⟨(f3 b hb).2.2.2.1,(f3 b hb).2.1,(f3 b hb).2.2.2.2.1,(f3 b hb).2.2.2.2.2⟩
  refine codeAny_loop rfl (fun n s'=> ∃ i H',Inv (aw X scope cl s3.heap.objs.size s3 (upd H2 s2.heap.objs.size (.lst [])) fp) [] (mask is σ) H' s'∧tn i s'.heap∧(∀ b∈fp,H' b=none)∧W i n H') ?_ m0 ⟨0,_,(by subst hs3; exact I4),st4,fun b hb=> (f3 b hb).1,w0⟩
  rintro n s5 ⟨i,H5,I5,st5,fr5,w5⟩
  show wpAny _ _ ((compTurn (.ListComp elt [⟨tg,iter,[cond],0⟩] scope pos) 0 (.ref it) (.ref s2.heap.objs.size) (compEnvC scope cl s3.heap.objs.size X.env)).onRaise (fun x=> do noteFrame x (compEnvC scope cl s3.heap.objs.size X.env); theTreesLotGoes x)) _ _ s5
  refine wpAny_noted ?_
  rw [compTurn_list]
  refine wpAny_bind (wpAny_standAt (wpAny_bind ?_))
  rcases turn i n H5 w5 with ⟨stop,q⟩ | ⟨go,step⟩
  ·refine thn (T.done (aw X scope cl s3.heap.objs.size s3 (upd H2 s2.heap.objs.size (.lst [])) fp) rfl rfl rfl hc i [] s5 _ H5 _ I5 (hstat fr5) st5 stop) fun r s6 ⟨hr,I6⟩=> ?_
   subst hr
   refine wpAny_pure ?_
   obtain ⟨m6,hn6,_⟩:=I6.loc
   have hCn:∀ b,b < s3.heap.objs.size→b≠s3.heap.objs.size:=fun b hb=> Nat.ne_of_lt hb
   refine fin _ s3.heap.objs.size H5 s6 m6 (back I6) hn6 I6.free (Nat.ne_of_gt I3.lt) (I3.nofs (Nat.le_refl _)) I3.sz (fun x c e=> ?_) (fun p hp=> ?_) q
   ·obtain ⟨v,z⟩:=I3.cell x c e
    exact Nat.ne_of_lt z.lt
   ·exact Nat.ne_of_lt (Heap.lt_size (I3.pin p hp).1)
  ·refine thn (T.item (aw X scope cl s3.heap.objs.size s3 (upd H2 s2.heap.objs.size (.lst [])) fp) rfl rfl rfl hc i [] s5 _ H5 _ I5 (hstat fr5) st5 go) fun r s6 ⟨u,hr,h6⟩=> ?_
   subst hr
   refine wpAny_bind (thn h6 fun _ s7 ⟨x,H7,I7,r7,y7,st7,fr7⟩=> ?_)
   have I7':=I7.pinned (hstat fr7) (T.obj _ _ st7)
   refine wpAny_bind (wpAny_mono (hg _ _ _ _ _ s7 (mask is σ) H7 x u _ I7' r7 (step x H7 y7)) (fun _ s8 ⟨σ8,H8,I8,q8⟩=> ?_) fun _ _ z=> z.elim)
   refine wpAny_bind (wpAny_tests_one (wpAny_mono (ht _ _ _ _ _ s8 σ8 H8 _ I8 q8) (fun bb s9 ⟨H9,I9,sub,q9⟩=> ?_) fun _ _ z=> z.elim))
   have fpn:∀ {H':Hp} {s':Shared} {σ':St},Inv (aw X scope cl s3.heap.objs.size s3 (upd H2 s2.heap.objs.size (.lst [])) fp) ([]++gQ fp s7.heap) σ' H' s'→tn (i+1) s'.heap∧∀ b∈fp,H' b=none:=fun {H' s' σ'} J=> ⟨T.keep _ _ _ st7 fun b hb o e=> (J.pin (b,o) (List.mem_append_right _ (List.mem_append_right _ (cG hb e)))).1,fun b hb=> by
    obtain ⟨o,e,d⟩:=T.obj _ _ st7 b hb
    exact (J.pin (b,o) (List.mem_append_right _ (List.mem_append_right _ (cG hb e)))).2.1⟩
   cases bb with
   | true=>
    rw [if_pos rfl] at q9
    simp only [if_true]
    refine wpAny_bind (wpAny_bind (wpAny_mono (he _ _ _ _ _ s9 σ8 H9 _ I9 q9) (fun v s10 ⟨y,H10,I10,r10,vs,hl10,hz,m',hm,w'⟩=> ?_) fun _ _ z=> z.elim))
    refine wpAny_bind (wpAny_mono (fB (X:=aw X scope cl s3.heap.objs.size s3 (upd H2 s2.heap.objs.size (.lst [])) fp) _ s10 σ8 H10 (.ref s2.heap.objs.size) [y] (.ref s2.heap.objs.size) [v] (fun _ H'=> H'=upd H10 s2.heap.objs.size (.lst (vs++[y]))) I10 rfl (.cons r10 .nil) ⟨_,vs,y,rfl,rfl,hl10,hz,rfl⟩) (fun z s11 ⟨zv,H11,I11,_,e11⟩=> ?_) fun _ _ z=> z.elim)
    subst e11
    obtain ⟨k1,k2⟩:=fpn I11
    exact wpAny_pure (wpAny_pure ⟨rfl,m',hm,i+1,_,(I11.unpinned (pins:=[])).weak (by rw [I11.len,dq,I.len]) sub,k1,k2,w'⟩)
   | false=>
    rw [if_neg (by decide)] at q9
    simp only [Bool.false_eq_true,if_false]
    obtain ⟨m',hm,w'⟩:=q9
    obtain ⟨k1,k2⟩:=fpn I9
    first
     | exact wpAny_pure ⟨rfl,m',hm,i+1,_,(I9.unpinned (pins:=[])).weak (by rw [I9.len,dq,I.len]) sub,k1,k2,w'⟩
     | exact wpAny_bind (wpAny_pure (wpAny_pure ⟨rfl,m',hm,i+1,_,(I9.unpinned (pins:=[])).weak (by rw [I9.len,dq,I.len]) sub,k1,k2,w'⟩))
 exact codeAny_compStart_list loop (T.self X.A 0 _ _ _ st4 loop)
theorem ro {elt iter tg:Expr} {scope:Scope} {cl:List (Str×Addr)} {pos:Pos} {is:List Nat} {wi:TI} {g:TG} {tt:TT} {te:TE} {cond:Expr} (hc:X.calm=true) (B:cH X scope cl is)
  (hi:PI X tg iter wi) (hg:∀ C s H fp,PG (aw X scope cl C s H fp) tg g) (ht:∀ C s H fp,PT (aw X scope cl C s H fp) cond tt) (he:∀ C s H fp,PE (aw X scope cl C s H fp) elt te) (hs:∀ x,foldedSetIterable iter X.env x=pure x:=by intro _; rfl):
  PE X (.ListComp elt [⟨tg,iter,[cond],0⟩] scope pos) (qS is wi g tt te):=by
 intro pins s σ H Q I h
 rw [eval_ListComp]
 refine nB (use:=none) hc B hi hg ht he hs I h fun l C H' s' m I' hn h1 h2 h3 h4 h5 h6 q=> ⟨m,hn,fun h' hsb=> ?_⟩
 exact ⟨.ref l,H',I'.turned (t':=s'.toks) (fun b o hb e=> hsb.extBut b o hb e) h1 (Ne.symm h2.symm) (.inr h4) h5 h6,rfl,q⟩
end
section
variable {X:Cx} {H0:Hp} {O0:List Addr} {E:XK} {ps ps':PSt} {D:PD} {tg iter cond:Expr} {pos p:Pos} {xs:List U} {fs:List (Option U)}
theorem kW {is:List Nat} {g:TG} {f:PSt→U→PSt} {dom:U→Prop} {σ:St} {H1:Hp} {O:List Addr} {Q:VK} {J:It} {tt:TT} {te:TE} (hg:GOk g X.K is f dom) (R1:Rs X.K H0 O0 ps σ H1 O) (Y:Yl X.K J (hid H1 O) xs) (hlen:fs.length=xs.length) (hz:xs.length≤sizeLine) (hdom:∀ x∈xs,dom x)
  (htt:∀ (i:Nat) (x:U) (o:Option U) (σ:St) (H:Hp) (O':List Addr) (Q:Bool→Hp→Prop),xs[i]?=some x→fs[i]?=some o→Rs X.K H0 O0 (f (dt is ps) x) σ H O'→(∀ H',aB H H'→Q o.isSome H')→tt σ H Q)
  (hte:∀ (i:Nat) (x y:U) (σ:St) (H:Hp) (O':List Addr) (Q:VK),xs[i]?=some x→fs[i]?=some (some y)→Rs X.K H0 O0 (f (dt is ps) x) σ H O'→(∀ v H',aB H H'→Rp X.K (hid H' O') v y→Q v H')→te σ H Q)
  (fin:∀ a vs H',aB H1 H'→H1 a=none→H' a=some (.lst vs)→Rps X.K (hid H' (a::O)) vs (fs.filterMap id)→Q (.ref a) H'):pj is g tt te σ Q J H1:=by
 intro l hl
 refine ⟨fun i m H2=> m=xs.length - i∧i≤xs.length∧aB H1 H2∧∃ vs,H2 l=some (.lst vs)∧vs.length≤i∧Rps X.K (hid H2 (l::O)) vs ((fs.take i).filterMap id),⟨_,rfl,Nat.zero_le _,aQ hl _,[],aH,Nat.le_refl _,by rw [List.take_zero]; exact .nil⟩,?_⟩
 rintro i m H2 ⟨rfl,hi,s2,vs,h2,hv,rs⟩
 have seen:aB (hid H1 O) (hid H2 (l::O)):=bi s2 hl
 obtain ⟨y1,y2⟩:=Y H2 (seen.trans av)
 by_cases hlt:i < xs.length
 ·obtain ⟨g1,g2⟩:=y1 i hlt
  refine .inr ⟨g1,fun x H3 y=> ?_⟩
  obtain ⟨rfl,u,hu,r⟩:=g2 x H3 y
  have R2:=(R1.mask (is:=is)).hide s2 hl (by rw [h2]; intro z; cases z)
  refine hg H0 O0 _ _ H3 (l::O) x u _ (hdom u (List.mem_of_getElem? hu)) R2 (r.same seen) fun σ4 R4 keep=> ?_
  obtain ⟨o,ho⟩:∃ o,fs[i]?=some o:=⟨_,List.getElem?_eq_getElem (by omega)⟩
  refine htt i u o σ4 H3 (l::O) _ hu ho R4 fun H5 s5=> ⟨fun j w e=> keep j w (fk is σ j w e).2 e,?_⟩
  cases o with
  | none=>
   refine nW ⟨xs.length - (i+1),by omega,rfl,hlt,s2.trans s5,vs,s5 _ _ h2,by omega,?_⟩
   rw [List.take_succ,ho,Option.toList_some,List.filterMap_append]
   simpa using rs.same (aY s5)
  | some yv=>
   refine oE (hte i u yv σ4 H5 (l::O) _ hu ho (R4.go s5) fun v H6 s6 r6=> ⟨vs,s6 _ _ (s5 _ _ h2),?_,xs.length - (i+1),by omega,rfl,hlt,((s2.trans s5).trans s6).put hl _,vs++[v],aH,by simp; omega,?_⟩)
   ·omega
   ·rw [jf List.mem_cons_self,List.take_succ,ho,Option.toList_some,List.filterMap_append]
    exact ((rs.same (aY s5)).same (aY s6)).snoc (.cons r6 .nil)
 ·have e:i=xs.length:=by omega
  subst e
  rw [← hlen,List.take_length] at rs
  exact .inl ⟨y2,fin l vs H2 s2 hl h2 rs⟩
theorem tG {elt:Expr} {scope:Scope} {cl:List (Str×Addr)} {is:List Nat} {g:TG} {f:PSt→U→PSt} {dom:U→Prop} (fs:List (Option U)) (hc:X.calm=true) (B:cH X scope cl is) (hi:EvI X H0 O0 ps tg iter xs) (hg:∀ C s H fp,PG (aw X scope cl C s H fp) tg g) (gk:GOk g X.K is f dom)
  (hlen:fs.length=xs.length) (hz:xs.length≤sizeLine) (hdom:∀ x∈xs,dom x) (ht:∀ C s H fp (i:Nat) (x:U) (o:Option U),xs[i]?=some x→fs[i]?=some o→Tt (aw X scope cl C s H fp) H0 O0 (f (dt is ps) x) cond o.isSome)
  (he:∀ C s H fp (i:Nat) (x y:U),xs[i]?=some x→fs[i]?=some (some y)→Ev (aw X scope cl C s H fp) H0 O0 (f (dt is ps) x) elt y)
  (hs:∀ x,foldedSetIterable iter X.env x=pure x:=by intro _; rfl):EvN X H0 O0 ps (.ListComp elt [⟨tg,iter,[cond],0⟩] scope pos) (fs.filterMap id):=by
 have hte:∀ C s H fp,PE (aw X scope cl C s H fp) elt fun σ H Q=> ∃ i x y,xs[i]?=some x∧fs[i]?=some (some y)∧∃ O',Rs X.K H0 O0 (f (dt is ps) x) σ H O'∧∀ v H',aB H H'→Rp X.K (hid H' O') v y→Q v H':=
  fun C s H fp pins s' σ H' Q I ⟨i,x,y,h1,h2,z⟩=> he C s H fp i x y h1 h2 pins s' σ H' Q I z
 have htt:∀ C s H fp,PT (aw X scope cl C s H fp) cond fun σ H Q=> ∃ (i:Nat) (x:U) (o:Option U),xs[i]?=some x∧fs[i]?=some o∧∃ O',Rs X.K H0 O0 (f (dt is ps) x) σ H O'∧∀ H',aB H H'→Q o.isSome H':=
  fun C s H fp pins s' σ H' Q I ⟨i,x,o,h1,h2,z⟩=> ht C s H fp i x o h1 h2 pins s' σ H' Q I z
 refine PE.mono (ro hc B hi hg htt hte hs) fun σ H Q ⟨O,R,q⟩=> ⟨O,R,fun J H1 s1 Y=> ?_⟩
 exact kW gk (R.go s1) Y hlen hz hdom (fun i x o σ H O' Q h1 h2 R' z=> ⟨i,x,o,h1,h2,O',R',z⟩) (fun i x y σ H O' Q h1 h2 R' z=> ⟨i,x,y,h1,h2,O',R',z⟩) fun a vs H' s n h r=> q a vs H' (s1.trans s) (s1.free n) h r
end
end L2
namespace L2
open PySem PySem.Spec PyProof.Rows
inductive u0:List (Option Expr)→List Expr→Prop where
 | nil:u0 [] []
 | cons {k v:Int} {a b:Nat} {p q:Pos} {ks:List (Option Expr)} {vs:List Expr} (h:u0 ks vs):u0 (some (.Constant (.int k) a p)::ks) (.Constant (.int v) b q::vs)
section
variable {X:Cx} {H0:Hp} {O0:List Addr} {ps:PSt} {pos:Pos} {keys:List (Option Expr)} {values:List Expr} {k m:Bool}
end
end L2
namespace L2
open PySem PySem.Spec PyProof.Rows
theorem Ws.nox {X:Cx} {H0:Hp} {O0:List Addr} {E:XK} {ss:List Stmt} {D:PD} {ps:PSt} (h:Ws X.nox H0 O0 E ss D ps):Ws X H0 O0 E ss D ps:=PSs.nox h
theorem aR.calm {P:Program} {w:World} {K:PySem.W.Frag} {mg:Str→Option Value} {base:Heap} {k:Nat} {f:Addr} {fd:FuncData} {ps:List Str} {sp:Sp} (F:aR P w K mg base (CXF P w) k f fd ps sp) (h:∀ vs H Q E,sp vs H Q E→sp vs H Q E0):aR P w K mg base CX0 k f fd ps sp:=by
 refine ⟨F.len,fun A outer s H args us vs Q E hr he hb hv hs=> codeAny_mono (F.run A outer s H args us vs Q E0 hr he hb hv (h _ _ _ _ hs)) fun r s' q=> ?_⟩
 cases r with
 | ok fl=>
  cases fl with
  | ret u=> exact q
  | next=> exact q
  | brk=> exact q
  | cont=> exact q
 | error e=>
  obtain ⟨_,_,_,_,_,_,_,_,_,_,_,_,_,_,_,hE⟩:=q
  exact hE.elim
def fo:List U→Out→Prop:=fun us o=> ∃ ns:List Int,us=[.scr (ns.map U.int)]∧ns.length≤63∧(∀ m∈ns,Sz 1048576 m)∧o=.val (.bl true)
theorem qC {K:PySem.W.Frag} (vs:List V) (H:Hp) (Q:VK) (E:XK) (h:spU K fo vs H Q E):spU K fo vs H Q E0:=by
 obtain ⟨us,O,o,d,r,⟨ns,h1,h2,h3,rfl⟩,q⟩:=h
 exact ⟨us,O,_,d,r,⟨ns,h1,h2,h3,rfl⟩,q⟩
theorem nJ {K:PySem.W.Frag} {H:Hp} {a:Addr} {ns:List Int} {E:XK} (h1:ns.length≤63) (h2:∀ m∈ns,Sz 1048576 m) (h3:SqL K H a (ns.map V.int)):spU K fo [.ref a] H (fun v _=> v=.bl true) E:=by
 refine ⟨[.scr (ns.map U.int)],[],.val (.bl true),fun a ha=> (nomatch ha),.cons ?_ .nil,⟨ns,rfl,h1,h2,rfl⟩,fun v H' s r=> by cases r; rfl⟩
 have e:hid H []=H:=by funext b; unfold hid; rw [if_neg (by simp)]
 rw [e]
 refine .scr h3 (by simp) fun i v x e1 e2=> ?_
 rw [List.getElem?_map] at e1 e2
 cases q:ns[i]? with
 | none=> rw [q] at e1; cases e1
 | some n=> rw [q] at e1 e2; cases e1; cases e2; exact .int n
theorem im {k:Nat} {A:Around} (hr:cF k A):A.units+10 < cLine:=by have:=hr.un; omega
theorem hJ {ns:List Int} {k:Int} (h0:0≤k) (h:k < (ns.length:Int)):atI (ns.map U.int) k=some (.int (ns.getD k.toNat 0)):=by
 have hk:k.toNat < ns.length:=by omega
 have q:atI (ns.map U.int) ((k.toNat:Nat):Int)=some (.int (ns.getD k.toNat 0)):=mQ (by rw [List.getElem?_map,List.getD_eq_getElem?_getD,List.getElem?_eq_getElem hk] <;> rfl)
 rwa [show ((k.toNat:Nat):Int)=k by omega] at q
theorem sj {ns:List Int} (h:∀ m∈ns,Sz 1048576 m) (i:Nat):Sz 1048576 (ns.getD i 0):=by
 by_cases hk:i < ns.length
 ·rw [List.getD_eq_getElem?_getD,List.getElem?_eq_getElem hk,Option.getD_some]; exact h _ (List.getElem_mem hk)
 ·rw [List.getD_eq_getElem?_getD,List.getElem?_eq_none (by omega),Option.getD_none]; exact Sz.mono (m:=8) (by decide) (by decide)
abbrev pt (x y:Int):U:=.tup [.int x,.int y]
theorem dTb {p:Prop} [Decidable p] (h:decide p=true):p:=of_decide_eq_true h
theorem dFb {p:Prop} [Decidable p] (h:decide p=false):¬ p:=of_decide_eq_false h
theorem nTb {p:Prop} [Decidable p] (h:(!decide p)=true):¬ p:=by simpa using h
theorem nFb {p:Prop} [Decidable p] (h:(!decide p)=false):p:=by simpa using h
theorem vB {a b:Bool} (h:a=b):Out.val (.bl a)=Out.val (.bl b):=by rw [h]
theorem vIO {a b:Int} (h:a=b):Out.val (.int a)=Out.val (.int b):=by rw [h]
mutual
theorem kf:∀ (n:Nat) (u:U),okU n u=true→eqW u u=true
 | _,.non,_=> rfl
 | _,.bl b,_=> by simp [eqW]
 | _,.int b,_=> by simp [eqW]
 | _,.str b,_=> by simp [eqW]
 | _,.ty _,h=> by simp [okU] at h
 | _,.dic,h=> by simp [okU] at h
 | 0,.tup _,h=> by simp [okU] at h
 | 0,.lst _,h=> by simp [okU] at h
 | 0,.scr _,h=> by simp [okU] at h
 | n+1,.tup xs,h=> by rw [eqW]; rw [okU] at h; exact eqWs_refl n xs h
 | n+1,.lst xs,h=> by rw [eqW]; rw [okU] at h; exact eqWs_refl n xs h
 | n+1,.scr xs,h=> by rw [eqW]; rw [okU] at h; exact eqWs_refl n xs h
theorem eqWs_refl:∀ (n:Nat) (xs:List U),okUs n xs=true→eqWs xs xs=true
 | _,[],_=> rfl
 | n,x::xs,h=> by
  simp only [okUs,Bool.and_eq_true] at h
  simp only [eqWs,Bool.and_eq_true]
  exact ⟨kf n x h.1,eqWs_refl n xs h.2⟩
end
theorem pO {α:Type} {n:Nat} {f:α→U} {l:List α} (h:∀ a∈l,okU n (f a)=true):okUs n (l.map f)=true:=by
 induction l with
 | nil=> rfl
 | cons a l ih=>
  rw [List.map_cons,okUs,Bool.and_eq_true]
  exact ⟨h a List.mem_cons_self,ih fun b hb=> h b (List.mem_cons_of_mem _ hb)⟩
theorem kE {α:Type} {n:Nat} {f:α→U} {l:List α} (h:∀ a,okU n (f a)=true):okU (n+1) (.lst (l.map f))=true:=by rw [okU]; exact pO fun a _=> h a
theorem ko {α:Type} {f:α→U} {p:α→α→Prop} [DecidableEq α] (hf:∀ a b,eqW (f a) (f b)=decide (a=b)):∀ (l m:List α),eqWs (l.map f) (m.map f)=decide (l=m)
 | [],[]=> rfl
 | [],_::_=> rfl
 | _::_,[]=> rfl
 | a::l,b::m=> by
  rw [List.map_cons,List.map_cons,eqWs,hf,ko (p:=p) hf l m,Bool.eq_iff_iff]
  simp
end L2
namespace L2
open PySem PySem.Spec PyProof.Rows
section
variable {X:Cx} {H0:Hp} {O0:List Addr} {E:XK} {ps:PSt} {D:PD} {a b c e:Expr} {rest:List Expr} {pos:Pos} {k:Bool}
theorem cu {tb fb:List Stmt} (hc:Tt X H0 O0 ps c k) (hk:k=true) (h:Ws X H0 O0 E tb D ps):W1 X H0 O0 E (.If c tb fb pos) D ps:=ii hc (fun _=> h) (fun e=> by rw [hk] at e; cases e)
theorem cw {tb fb:List Stmt} (hc:Tt X H0 O0 ps c k) (hk:k=false) (h:Ws X H0 O0 E fb D ps):W1 X H0 O0 E (.If c tb fb pos) D ps:=ii hc (fun e=> by rw [hk] at e; cases e) (fun _=> h)
theorem oU (ha:Tt X H0 O0 ps a k) (hk:k=false):Tw X H0 O0 ps (.BoolOp .And (a::b::rest) pos) false:=by
 subst hk
 exact tK (m:=true) ha fun h=> by cases h
theorem gG (ha:Tt X H0 O0 ps a k) (hk:k=true):Tw X H0 O0 ps (.BoolOp .Or (a::b::rest) pos) true:=by
 subst hk
 exact sC (m:=true) ha fun h=> by cases h
end
end L2
namespace L2
open PySem PySem.Spec PyProof.Rows
section
variable {X:Cx} {H0:Hp} {O0:List Addr} {E:XK} {ps:PSt} {D:PD} {body:List Stmt} {tg iter c:Expr} {pos:Pos} {xs:List U} {α:Type}
theorem TgS.sub {p p':PSt} {u:U} {ps':PSt} (h:TgS X H0 O0 tg p u ps') (hs:SubP p p'):TgS X H0 O0 tg p' u ps':=PG.mono h fun v σ H Q ⟨O,R,r,q⟩=> ⟨O,R.sub hs,r,q⟩
theorem Tt.sub {p p':PSt} {e:Expr} {k:Bool} (h:Tt X H0 O0 p e k) (hs:SubP p p'):Tt X H0 O0 p' e k:=PT.mono h fun σ H Q ⟨O,R,q⟩=> ⟨O,R.sub hs,q⟩
theorem fF (st:α→PSt) (Q:Nat→α→Prop) (hc:X.calm=true) (hp:PassesOwn (model X.prog X.w) X.A X.env X.xe) (hi:EvI X H0 O0 ps tg iter xs) (h0:∃ a,Q 0 a∧SubP (st a) ps)
  (hs:∀ (H0:Hp) (i:Nat) (x:U) (a:α),xs[i]?=some x→Q i a→∃ ps',TgS X H0 O0 tg (st a) x ps'∧Ws X H0 O0 E body { D with nx:=fun p=> ∃ b,Q (i+1) b∧SubP (st b) p,ct:=fun p=> ∃ b,Q (i+1) b∧SubP (st b) p,bk:=D.nx } ps')
  (hd:∀ a ps,Q xs.length a→SubP (st a) ps→D.nx ps) (hf:∀ x,foldedSetIterable iter X.env x=pure x:=by intro _; rfl):W1 X H0 O0 E (.For tg iter body [] pos) D ps:=
 wo hc hp hi (fun i ps=> ∃ a,Q i a∧SubP (st a) ps) h0 (fun H0 i x ps hx ⟨a,q,sb⟩=> by
  obtain ⟨ps',t,w⟩:=hs H0 i x a hx q
  exact ⟨ps',t.sub sb,w⟩) (fun ps ⟨a,q,sb⟩=> hd a ps q sb) hf
theorem gK (st:α→PSt) (Q:Nat→α→Prop) (hp:PassesOwn (model X.prog X.w) X.A X.env X.xe) (h0:∃ m a,Q m a∧SubP (st a) ps)
  (hs:∀ m a,Q m a→∃ b,Tt X H0 O0 (st a) c b∧(b=true→Ws X H0 O0 E body { D with nx:=fun p=> ∃ m' a',m' < m∧Q m' a'∧SubP (st a') p,ct:=fun p=> ∃ m' a',m' < m∧Q m' a'∧SubP (st a') p,bk:=D.nx } (st a))∧(b=false→∀ ps,SubP (st a) ps→D.nx ps)):W1 X H0 O0 E (.While c body [] pos) D ps:=by
 obtain ⟨m,a,q,sb⟩:=h0
 refine sD hp (fun m ps=> ∃ a,Q m a∧SubP (st a) ps) m ⟨a,q,sb⟩ fun m ps ⟨a,q,sb⟩=> ?_
 obtain ⟨b,t,h1,h2⟩:=hs m a q
 refine ⟨b,t.sub sb,fun e=> ?_,fun e=> h2 e ps sb⟩
 refine e_ (PSs.mono (h1 e) fun D' σ H ⟨L,O,R⟩=> ⟨⟨fun p σ H O R ⟨m',a',l,q',sb'⟩=> L.nx p σ H O R ⟨m',l,a',q',sb'⟩,L.bk,fun p σ H O R ⟨m',a',l,q',sb'⟩=> L.ct p σ H O R ⟨m',l,a',q',sb'⟩,L.rt⟩,O,R⟩) sb
end
abbrev P2:=Int×Int
abbrev pu (p:P2):U:=.tup [.int p.1,.int p.2]
abbrev lp (l:List P2):U:=.lst (l.map pu)
theorem vg (p q:P2):eqW (pu p) (pu q)=decide (p=q):=by
 obtain ⟨a,b⟩:=p
 obtain ⟨c,d⟩:=q
 simp only [pu,eqW,eqWs,Bool.and_true]
 rw [Bool.eq_iff_iff]; simp
theorem md (l m:List P2):eqW (lp l) (lp m)=decide (l=m):=by rw [lp,lp,eqW]; exact ko (p:=fun _ _=> True) vg l m
theorem iT (l:List P2):okU 9 (lp l)=true:=kE fun _=> rfl
theorem mS {l:List P2} {i:Nat} {x:U} (h:(l.map pu)[i]?=some x):∃ p,l[i]?=some p∧p∈l∧x=pu p:=by
 rw [List.getElem?_map] at h
 cases q:l[i]? with
 | none=> rw [q] at h; cases h
 | some p=> rw [q] at h; cases h; exact ⟨p,rfl,List.mem_of_getElem? q,rfl⟩
theorem gh {α:Type} {l:List α} {f:α→U} {g:α→U} {i:Nat} {x y:U} (hx:(l.map f)[i]?=some x) (hy:(l.map g)[i]?=some y):∃ a,l[i]?=some a∧a∈l∧x=f a∧y=g a:=by
 rw [List.getElem?_map] at hx hy
 cases q:l[i]? with
 | none=> rw [q] at hx; cases hx
 | some p=> rw [q] at hx hy; cases hx; cases hy; exact ⟨p,rfl,List.mem_of_getElem? q,rfl,rfl⟩
end L2
namespace L2
open PySem PySem.Spec PyProof.Rows
theorem W1.mono {X:Cx} {H0:Hp} {O0:List Addr} {E:XK} {s:Stmt} {D:PD} {J:PSt→Prop} {ps:PSt} (h:W1 X H0 O0 E s { D with nx:=J } ps) (m:∀ ps,J ps→D.nx ps):W1 X H0 O0 E s D ps:=
 PS.mono h fun D' σ H ⟨L,O,R⟩=> ⟨⟨fun p σ H O R q=> L.nx p σ H O R (m p q),L.bk,L.ct,L.rt⟩,O,R⟩
theorem pJ {X:Cx} {H0:Hp} {O0:List Addr} {E:XK} {s:Stmt} {ss:List Stmt} {D:PD} {ps:PSt} (J:PSt→Prop) (h1:W1 X H0 O0 E s { D with nx:=J } ps) (h2:∀ ps,J ps→Ws X H0 O0 E ss D ps):Ws X H0 O0 E (s::ss) D ps:=
 ae (W1.mono (J:=J) (D:={ D with nx:=fun p=> Ws X H0 O0 E ss D p }) h1 h2)
end L2
namespace PySem.W
open PySem PySem.Spec PySem.Calls PyProof.Rows
theorem lV {M:Model} {A:Around} {E:Value→Shared→Prop} {K:Frag} {s:Shared} {x C B:Addr} {Q:Bool→Shared→Prop} (X:K.In s.heap) (I:OfCls x C s.heap) (hT:typeIn K (.ref B)=some (.type "type")) (hc:(clsIn K B).isSome=true)
  (hB:mroIn K B (.type "BaseException")=some true) (hC:mroIn K C (.ref B)=some true) (h:Q true s):wpAny M A (excMatches (.ref x) (.ref B)) Q E s:=by
 have L1:Looks M s.heap (typeOf (.ref x)) (.ref C):=I.type
 have L2:Looks M s.heap (typeOf (.ref B)) (.type "type"):=looks_typeIn X hT
 have L3:Looks M s.heap (isInstance (.ref B) (.type "tuple")) false:=L2.andThen (Looks.of_pure tc_notTuple)
 have L4:Looks M s.heap (isSubtype (.ref B) (.type "BaseException")) true:=looks_mroIn X hB
 have L5:Looks M s.heap (isSubtype (.ref C) (.ref B)) true:=looks_mroIn X hC
 have L6:Looks M s.heap (isType (.ref B)) true:=by
  obtain ⟨cdD,hcD⟩:=Option.isSome_iff_exists.mp hc
  unfold clsIn at hcD
  split at hcD
  ·rename_i c' d' cd' sl' ho
   intro A' Q' E' s' k q
   unfold isType loadHead
   exact wpAny_bind (wpAny_loadPart (k _ _ (X _ _ ho)) (wpAny_pure q))
  ·cases hcD
 obtain ⟨hh,g,dr,t,os⟩:=s
 unfold excMatches isExcClass
 repeat (first | lk | wp_step)
 exact h
end PySem.W
namespace L2
open PySem PySem.Spec PySem.W PyProof.Rows
section
variable {X:Cx} {pins:List (Addr×Obj)} {σ:St} {H:Hp} {s:Shared}
theorem gi {M:Model} {A:Around} {E:Value→Shared→Prop} {i:Nat} {x:Str} {pos:Pos} {Q:Unit→Shared→Prop} (I:Inv X pins σ H s) (hN:X.N.Nodup) (hi:X.N[i]?=some x) (hk:X.env.kindOf x=some .local)
  (h:∀ s',Inv X pins (σ.set i none) H s'→Q () s'):wpAny M A (do bindName X.env x .none; unbindBehindTheSuite X.env x pos) Q E s:=by
 obtain ⟨m,hn,hl⟩:=id I.loc
 have hcls:(X.env.scope.kind==.class || (X.env.scope.kind==.module && X.env.locals !=X.env.globals))=false:=by rw [I.ok.kind]; rfl
 have hiσ:i < σ.length:=by rw [I.len]; exact (List.getElem?_eq_some_iff.mp hi).1
 have cne:=I.cne
 refine wpAny_nameGoes_keeps hk hn hcls fun h' v hn' hs=> ?_
 have tracked:HOk X.prog X.w H h':=fun b ob e=> by
  refine (I.hok b ob e).stay (fun c w' hc q=> (hs.2 c ?_).trans q) (fun _ q=> q) fun _ _ q=> q
  rintro rfl
  rcases hc with z | hc
  ·rw [← z,I.free] at e; cases e
  ·rw [I.free] at hc; cases hc
 refine h _ ⟨I.ok,I.os,I.bare,⟨fun b o e n hb hx=> ?_,fun b o e n hb hx=> ?_,I.base.free,fun b o e hx=> ?_,I.base.tups,I.base.frzs,I.base.tbls⟩,⟨_,hn',fun j y v' e1 e2 e3=> ?_⟩,fun y c e=> ?_,I.free,I.freeC,fun p hp=> ?_,tracked,by simpa using I.len⟩
 ·exact (hs.2 b (Nat.ne_of_lt (Nat.lt_of_lt_of_le (Heap.lt_size e) I.ok.above))).trans (I.base.keep b o e n hb hx)
 ·obtain ⟨sl,e1⟩:=I.base.slot b o e n hb hx
  exact ⟨sl,(hs.2 b (Nat.ne_of_lt (Nat.lt_of_lt_of_le (Heap.lt_size e) I.ok.above))).trans e1⟩
 ·obtain ⟨o',e1⟩:=I.base.there b o e hx
  exact ⟨o',(hs.2 b (Nat.ne_of_lt (Nat.lt_of_lt_of_le (Heap.lt_size e) I.ok.above))).trans e1⟩
 ·by_cases hj:j=i
  ·subst hj
   rw [List.getElem?_set_self hiσ] at e2
   cases e2
  ·rw [List.getElem?_set_ne (Ne.symm hj)] at e2
   obtain ⟨u',r',q⟩:=hl j y v' e1 e2 e3
   refine ⟨u',r',?_⟩
   rcases q with ⟨k,e⟩ | ⟨k,c,e,z⟩
   ·refine .inl ⟨k,?_⟩
    have:y≠x:=fun e=> hj (gR hN e1 (e ▸ hi))
    simp [this,e]
   ·exact .inr ⟨k,c,e,z.sameBut hs (cne y c e)⟩
 ·obtain ⟨w',z⟩:=I.cell y c e
  exact ⟨w',z.sameBut hs (cne y c e)⟩
 ·obtain ⟨e,n,ne,nf,d⟩:=I.pin p hp
  exact ⟨(hs.2 p.1 ne).trans e,n,ne,nf,d⟩
theorem pI {fs:List Addr} {H0 H':Hp} {h0 h1:Heap} {ea:Addr} {o:HO} (u:Un fs [] H0 H' h0 h1) (n0:h0.get? ea=none) (n1:H' ea=none):Un fs [] H0 (upd H' ea o) h0 h1 where
 keep:=u.keep
 slot:=u.slot
 free:=fun b ob e n hx=> by
  rw [aK fun z=> by subst z; rw [n0] at e; cases e]; exact u.free b ob e n hx
 there:=u.there
 tups:=fun b xs e=> by have q:=u.tups b xs e; rw [aK (bg q n1)]; exact q
 frzs:=fun b ob xs e=> by have q:=u.frzs b ob xs e; rw [aK (bg q n1)]; exact q
 tbls:=fun b ps e=> by obtain ⟨m,q⟩:=u.tbls b ps e; exact ⟨m,by rw [aK (bg q n1)]; exact q⟩
theorem n9 {P:Program} {w:World} {H':Hp} {h:Heap} {ea C:Addr} (ok:HOk P w H' h) (n1:H' ea=none) (I:OfCls ea C h):HOk P w (upd H' ea (.ext (OfCls ea C))) h:=fun a o e=> by
 by_cases z:a=ea
 ·subst z
  rw [aH] at e; cases e
  obtain ⟨ob,e1,e2⟩:=id I
  exact ⟨I,⟨ob,e1⟩,fun h1 h2 ⟨o1,q1,q2⟩ q3=> ⟨o1,q3 _ q1,q2⟩⟩
 ·rw [aK z] at e
  refine (ok a o e).stay (fun _ _ _ q=> q) (fun _ q=> ?_) fun _ _ q=> ?_
  all_goals (first | (rw [aK (bg q n1)]; exact q) | trace_state)
end
section
variable {X:Cx}
def gX.drop (D:gX) (i:Nat):gX:=⟨fun σ H=> D.nx (σ.set i none) H,D.rt,fun σ H=> D.bk (σ.set i none) H,fun σ H=> D.ct (σ.set i none) H⟩
def uy (K:Frag) (sp:Sp) (B:Addr) (i:Nat) (ta:TA) (th:TS):TS:=fun D σ H=> ta σ H fun vs H1=> sp vs H1 (fun _ H2=> D.nx σ H2) fun cls _ H2=> ∃ C,cls=.ref C∧mroIn K C (.ref B)=some true∧
 ∀ ea,H2 ea=none→th (D.drop i) (σ.set i (some (.ref ea))) (upd H2 ea (.ext (OfCls ea C)))
theorem pE {k:Nat} {fA B:Addr} {fd:FuncData} {ps:List Str} {sp:Sp} {f x n:Str} {i:Nat} {e:Expr} {es:List Expr} {ta:TA} {th:TS} {b₀:Stmt} {suite:List Stmt} {p cpos epos np hpos pos:Pos}
  (hstk:X.stack=X.env::X.outer) (hfr:X.env.frame=some X.env.locals) (F:aR X.prog X.w X.K X.mg X.base (CXF X.prog X.w) k fA fd ps sp) (hr:cF k X.A) (hg:Gl X f) (hm:X.mg f=some (.ref fA)) (hk:keepIn X.K (.ref fA)=true) (hb:aA X.K fd ps []) (ha:PA X.nox (e::es) ta)
  (hgx:Gl X x) (hmx:X.mg x=some (.ref B)) (hT:typeIn X.K (.ref B)=some (.type "type")) (hB:mroIn X.K B (.type "BaseException")=some true)
  (hN:X.N.Nodup) (hi:X.N[i]?=some n) (hl:X.env.kindOf n=some .local) (hth:∀ ea,PSs (eY X ea) (b₀::suite) th)
  (hdb:(f==("__debug__":Str))=false:=by decide) (hdx:(x==("__debug__":Str))=false:=by decide) (he:starEach (e::es) X.env=(false,eval e X.env)::starEach es X.env:=by rfl) (hpl:(backTo cpos (starEach es X.env)).any (·.1)=false:=by rfl)
  (hsw:swapsWith (.Call (.Name f p) (e::es) [] cpos) none epos.line X.env=pure false:=by rfl):
  PS X (.Try [.Expr (.Call (.Name f p) (e::es) [] cpos) epos] [.ExceptHandler (some (.Name x np)) (some n) (b₀::suite) hpos] [] [] pos) (uy X.K sp B i ta th):=by
 intro pins s σ H D I h
 refine wpAny_Try_except ?_
 refine wpAny_execs_cons (wpAny_Expr_any (Q:=fun f s'=> match f with | .next=> wpAny (model X.prog X.w) X.A (execs [] X.env) (fun f s₁=> match f with | .next=> wpAny (model X.prog X.w) X.A (execs [] X.env) (SP X pins D) X.xe s₁ | f=> SP X pins D f s₁) _ s' | f=> _) ?_ I.quiet hsw)
 refine wpAny_Call_Name_kw (fm I hg hm ?_ hdb)
 refine PySem.W.callWith_K (h₀:=X.base) I.ok.mod.kin hk (wpAny_mono (ha cpos pins s σ H _ (I.wish _) h) (fun us s1 ⟨vs,H1,I1,r,q⟩=> ⟨I1.kIn,?_⟩) fun _ _ z=> z.elim) he hpl
 have J1:Inv X pins σ H1 s1:=I1.unwish
 have hlen:us.length=ps.length:=by rw [← r.length]; exact F.len _ _ _ _ q
 have hbd:=hb s1 us J1.kIn (by rw [List.append_nil]; exact hlen)
 rw [List.append_nil] at hbd
 refine wpAny_call (codeAny_mono (F.run X.A X.stack s1 H1 ⟨us,[]⟩ us vs _ _ hr J1.env0 hbd r q) fun res s' hq=> ?_)
 cases res with
 | ok fl=>
  cases fl with
  | ret u=>
   obtain ⟨v,H2,I2,_,q2⟩:=J1.after hq
   exact wpAny_execs_nil (wpAny_execs_nil ⟨σ,H2,I2,q2⟩)
  | next=> exact False.elim hq
  | brk=> exact False.elim hq
  | cont=> exact False.elim hq
 | error ev=>
  obtain ⟨ea,cls,a0,B0,H',rfl,os,bare,un,hok,hea,k1,k2,k3,fl,C,rfl,hmC,hT'⟩:=hq
  have hfrs:=J1.ok.frames
  have fl0:=fl
  rw [hstk] at hfrs fl
  refine wpAny_looks_onW hfrs hfr fl fun h4 held4 up4=> ?_
  refine wpAny_landsW held4 fun h5 fl5 up5=> ?_
  have ffr:∀ b∈frs X.stack,∀ o,s1.heap.get? b=some o→∀ vs,o.data≠.fields vs:=jg J1.stack
  have inv:∀ h6,B0.StaysIn h6→s'.heap.UpToSlots h6→Inv X pins σ H' { s' with heap:=h6 }:=fun h6 st up=>
   J1.call' (s':={ s' with heap:=h6 }) (ch:=[]) os (qQ un k1 k3 st up ffr J1.stkFree) (gl hok k2 fl.1 st) bare (fun b z=> absurd z (by simp))
  have n0:s1.heap.get? ea=none:=by
   cases z:s1.heap.get? ea with
   | none=> rfl
   | some o=>
    exfalso
    by_cases hb':ea∈frs X.stack
    ·obtain ⟨sl,e1⟩:=un.slot ea o z (J1.stkFree ea hb') hb' (by simp)
     obtain ⟨_,_,_,oe,vs',T',oT,ts,g1,g2,g3,_⟩:=fl0
     rw [e1] at g1; cases g1
     exact ffr ea hb' o z _ g3
    ·obtain ⟨o',e'⟩:=k3 ea o z hb'
     have:=fl0.2.1
     rw [e'] at this; cases this
  have inv2:∀ h6,B0.StaysIn h6→s'.heap.UpToSlots h6→OfCls ea C h6→Inv X pins σ (upd H' ea (.ext (OfCls ea C))) { s' with heap:=h6 }:=fun h6 st up oc=>
   J1.call' (s':={ s' with heap:=h6 }) (ch:=[]) os (pI (qQ un k1 k3 st up ffr J1.stkFree) n0 hea) (n9 (gl hok k2 fl.1 st) hea oc) bare (fun b z=> absurd z (by simp))
  have I5:=inv h5 fl5.1 (up4.trans up5)
  refine wpAny_handleBy_cons (codeAny_handlers_test (fm (X:=eY X ea) (I5.hand ea) hgx hmx ?_ hdx)) (by intro z; cases z)
  refine lV I5.kIn fl5.there hT (gr hB) hB hmC ?_
  refine codeAny_handlers_suite_as (lands_againW fl5 fun h6 fl6 up6=> ?_)
  have I6:=inv2 h6 fl6.1 ((up4.trans up5).trans up6) fl6.there
  refine fK (X:=eY X ea) (v:=.ref ea) (I6.hand ea) hN hi (.inl hl) rfl (fun s7 I7 _=> ?_) (.inr hl)
  refine wpAny_mono (hth ea pins s7 _ _ (D.drop i) I7 (hT' ea hea)) (fun f s2 z=> ?_) fun _ _ z=> z.elim
  have z1:SP X pins (D.drop i) f s2:=z.unhand I.ok.hd
  cases f with
  | next=> obtain ⟨σ',H8,I8,q8⟩:=z1; exact gi I8 hN hi hl fun s9 I9=> ⟨_,_,I9,q8⟩
  | brk=> obtain ⟨σ',H8,I8,q8⟩:=z1; exact gi I8 hN hi hl fun s9 I9=> ⟨_,_,I9,q8⟩
  | cont=> obtain ⟨σ',H8,I8,q8⟩:=z1; exact gi I8 hN hi hl fun s9 I9=> ⟨_,_,I9,q8⟩
  | ret u=> obtain ⟨v,σ',H8,I8,r8,q8⟩:=z1; exact gi I8 hN hi hl fun s9 I9=> ⟨v,_,_,I9,r8,q8⟩
end
section
variable {X:Cx} {H0:Hp} {O0:List Addr} {E:XK} {ps:PSt} {D:PD} {a e:Expr} {es:List Expr} {us:List U} {k:Bool} {n:Nat} {fd:FuncData} {pn:List Str} {spec:List U→Out→Prop}
theorem rz:bQ X (.builtin "isinstance") (fun xs H Q=> ∃ a C D k,xs=[.ref a,.ref D]∧H a=some (.ext (OfCls a C))∧XcOk X.K C∧kitOne X.K (.ref C) (.ref D)=some k∧Q (.bl k) H):=by
 intro pins s σ H xs us Q I r h
 obtain ⟨a,C,D,k,rfl,ha,hk,e,q⟩:=h
 obtain ⟨u,w',rfl,r1,r2⟩:=eS r
 cases r1; cases r2
 exact PySem.W.kia_one hk.kit I.kIn (I.hok _ _ ha).1 e (fun z=> nomatch z) fun tk=> ⟨.bl k,H,I.tok _,rfl,q⟩
theorem tN {C D':Addr} {nm:Str} {p p2 pos:Pos} (h:kitOne X.K (.ref C) (.ref D')=some k) (hg:Gl X "isinstance") (hm:X.mg "isinstance"=none) (hv:bootBuiltins "isinstance"=some (.builtin "isinstance")) (ha:Ev X H0 O0 ps a (.ty (.xc C))) (hgD:Gl X nm) (hmD:X.mg nm=some (.ref D'))
  (hd:(nm==("__debug__":Str))=false:=by decide)
  (he:starEach [a,.Name nm p2] X.env=(false,eval a X.env)::starEach [.Name nm p2] X.env:=by rfl) (he2:starEach [.Name nm p2] X.env=(false,eval (.Name nm p2) X.env)::starEach [] X.env:=by rfl) (hpl:(backTo pos (starEach [.Name nm p2] X.env)).any (·.1)=false:=by rfl):
  Ev X H0 O0 ps (.Call (.Name "isinstance" p) [a,.Name nm p2] [] pos) (.bl k):=
 PE.mono (ft rz hg hm hv (bn ha (bn (gf (v:=.ref D') hgD hmD rfl hd) cR he2) he) (by decide) (by decide) he hpl) fun σ H Q ⟨O,R,q⟩=> ⟨O,R,fun v H1 s1 r1=> by
  cases r1 with
  | xc h1 h2=> exact ⟨_,_,_,k,rfl,av _ _ h1,h2,h,q _ H1 s1 (.bl k)⟩⟩
theorem iG {C:Addr} {n:String} (h:PySem.W.kitOne X.K (.ref C) (.type n)=some k):dg X (.builtin "isinstance") [.ty (.xc C),.ty (.nm n)] (.bl k):=by
 intro pins s σ H vs us Q I r hq
 obtain ⟨O,d,rs,q⟩:=hq
 obtain ⟨v,w,rfl,h1,h2⟩:=dN rs
 cases h2
 obtain ⟨p1,p2,rfl,r1,r2⟩:=eS r
 cases (show p2=Value.type n from r2)
 have fin:∀ tk,EP X pins σ Q (.bool k) { s with toks:=tk }:=fun tk=> ⟨.bl k,H,I.tok _,rfl,q _ H (.refl H) (.bl _)⟩
 cases h1 with
 | xc e kk=>
  cases r1
  exact PySem.W.kia_one kk.kit I.kIn (I.hok _ _ (av _ _ e)).1 h (fun z=> nomatch z) fin
def PD.drop (D:PD) (i:Nat):PD:=⟨fun p=> D.nx (p.set i none),D.rt,fun p=> D.bk (p.set i none),fun p=> D.ct (p.set i none)⟩
theorem Lf.drop {K:Frag} {D':gX} (L:Lf K H0 O0 E D D') (i:Nat):Lf K H0 O0 E (D.drop i) (D'.drop i):=
 ⟨fun ps σ H O R h=> L.nx _ _ H O R.drop h,fun ps σ H O R h=> L.bk _ _ H O R.drop h,fun ps σ H O R h=> L.ct _ _ H O R.drop h,L.rt⟩
theorem iO {fA B C:Addr} {x f m:Str} {i:Nat} {b₀:Stmt} {suite:List Stmt} {p cpos epos np hpos pos:Pos}
  (hstk:X.stack=X.env::X.outer) (hfr:X.env.frame=some X.env.locals) (F:aR X.prog X.w X.K X.mg X.base (CXF X.prog X.w) n fA fd pn (spU X.K spec)) (hr:cF n X.A) (hg:Gl X f) (hm:X.mg f=some (.ref fA)) (hk:PySem.W.keepIn X.K (.ref fA)=true) (hb:aA X.K fd pn []) (ha:EvA X.nox H0 O0 ps (e::es) us)
  (hgx:Gl X x) (hmx:X.mg x=some (.ref B)) (hT:typeIn X.K (.ref B)=some (.type "type")) (hB:mroIn X.K B (.type "BaseException")=some true)
  (hN:X.N.Nodup) (hi:X.N[i]?=some m) (hl:X.env.kindOf m=some .local) (hsp:spec us (.exc C)) (hC:mroIn X.K C (.ref B)=some true) (hxc:XcOk X.K C)
  (h:∀ ea,Ws (eY X ea) H0 O0 E (b₀::suite) (D.drop i) (ps.set i (some (.val (.ty (.xc C))))))
  (hdb:(f==("__debug__":Str))=false:=by decide) (hdx:(x==("__debug__":Str))=false:=by decide) (he:starEach (e::es) X.env=(false,eval e X.env)::starEach es X.env:=by rfl) (hpl:(backTo cpos (starEach es X.env)).any (·.1)=false:=by rfl)
  (hsw:swapsWith (.Call (.Name f p) (e::es) [] cpos) none epos.line X.env=pure false:=by rfl):
  W1 X H0 O0 E (.Try [.Expr (.Call (.Name f p) (e::es) [] cpos) epos] [.ExceptHandler (some (.Name x np)) (some m) (b₀::suite) hpos] [] [] pos) D ps:=
 PS.mono (pE (th:=fun D' σ H=> Lf X.K H0 O0 E (D.drop i) D'∧∃ O,Rs X.K H0 O0 (ps.set i (some (.val (.ty (.xc C))))) σ H O) hstk hfr F hr hg hm hk hb ha hgx hmx hT hB hN hi hl (fun ea=> h ea) hdb hdx he hpl hsw) fun D' σ H ⟨L,O,R⟩=>
  ⟨O,R,fun vs H1 s1 r1=> ⟨us,O,.exc C,(R.go s1).dom,r1,hsp,fun H2 s2=> ⟨C,rfl,hC,fun ea hn=> ⟨L.drop i,O,((R.go (s1.trans s2)).go (aQ hn _)).set (.xc ((R.go (s1.trans s2)).hidnew hn) hxc)⟩⟩⟩⟩
end
section
variable {X:Cx} {H0:Hp} {O0:List Addr} {ps:PSt} {pos:Pos}
end
end L2
namespace L2
open PySem
theorem bH {c:Const} {j:Nat} {pos:Pos} {es:List Expr} {env:Env}:starEach (.Constant c j pos::es) env=(false,eval (.Constant c j pos) env)::starEach es env:=by rw [starEach]; intro e p h; cases h
theorem i7 {l:List Expr} {j:Nat} {pos:Pos} {es:List Expr} {env:Env}:starEach (.Tuple l j pos::es) env=(false,eval (.Tuple l j pos) env)::starEach es env:=by rw [starEach]; intro e p h; cases h
theorem i9 {o:UnaryOp} {a:Expr} {pos:Pos} {es:List Expr} {env:Env}:starEach (.UnaryOp o a pos::es) env=(false,eval (.UnaryOp o a pos) env)::starEach es env:=by rw [starEach]; intro e p h; cases h
theorem aP {a b:Expr} {o:Operator} {pos:Pos} {es:List Expr} {env:Env}:starEach (.BinOp a o b pos::es) env=(false,eval (.BinOp a o b pos) env)::starEach es env:=by rw [starEach]; intro e p h; cases h
theorem ag {x:Str} {pos:Pos} {es:List Expr} {env:Env}:starEach (.Name x pos::es) env=(false,eval (.Name x pos) env)::starEach es env:=by rw [starEach]; intro e p h; cases h
theorem bF {a b:Expr} {pos:Pos} {es:List Expr} {env:Env}:starEach (.Subscript a b pos::es) env=(false,eval (.Subscript a b pos) env)::starEach es env:=by rw [starEach]; intro e p h; cases h
theorem bx {f:Expr} {a:List Expr} {k:List Keyword} {pos:Pos} {es:List Expr} {env:Env}:starEach (.Call f a k pos::es) env=(false,eval (.Call f a k pos) env)::starEach es env:=by rw [starEach]; intro e p h; cases h
theorem vd {a:Expr} {o:List CmpOp} {c:List Expr} {pos:Pos} {es:List Expr} {env:Env}:starEach (.Compare a o c pos::es) env=(false,eval (.Compare a o c pos) env)::starEach es env:=by rw [starEach]; intro e p h; cases h
theorem dO {e:Expr} {g:List Comprehension} {sc:Scope} {pos:Pos} {es:List Expr} {env:Env}:starEach (.ListComp e g sc pos::es) env=(false,eval (.ListComp e g sc pos) env)::starEach es env:=by rw [starEach]; intro e p h; cases h
structure EvS (X:Cx) (H0:Hp) (O0:List Addr) (ps:PSt) (es:List Expr) (us:List U):Prop where
 a:EvA X H0 O0 ps es us
section
variable {X:Cx} {H0:Hp} {O0:List Addr} {ps:PSt} {e:Expr} {es:List Expr} {u:U} {us:List U} {pos:Pos}
theorem a_:EvS X H0 O0 ps [] []:=⟨aj⟩
theorem ao (ha:Ev X H0 O0 ps e u) (hr:EvS X H0 O0 ps es us) (hs:starEach (e::es) X.env=(false,eval e X.env)::starEach es X.env):EvS X H0 O0 ps (e::es) (u::us):=⟨af ha hr.a hs⟩
theorem bG {x1} (h:EvS X H0 O0 ps es us) (hz:us.length≤sizeLine:=by first | decide | (simp only [List.length_cons,List.length_nil]; decide)):Ev X H0 O0 ps (.Tuple es x1 pos) (.tup us):=vT h.a hz
theorem cm (h:EvS X H0 O0 ps es us) (hz:us.length≤sizeLine:=by first | decide | (simp only [List.length_cons,List.length_nil]; decide)):EvN X H0 O0 ps (.List es pos) us:=vY h.a hz
end
end L2
namespace ST
open PySem PySem.SetTable
def Ris (xs:Array Nat):Prop:=∀ (i j x y:Nat),i < j→xs[i]?=some x→xs[j]?=some y→x < y
theorem Ris.inj {xs:Array Nat} (h:Ris xs) {i j x:Nat} (h1:xs[i]?=some x) (h2:xs[j]?=some x):i=j:=by
 rcases Nat.lt_trichotomy i j with z | z | z
 ·exact absurd (h i j x x z h1 h2) (Nat.lt_irrefl _)
 ·exact z
 ·exact absurd (h j i x x z h2 h1) (Nat.lt_irrefl _)
theorem di {xs:Array Nat} {i:Nat} (h:i < xs.size):xs[i]?=some xs[i]:=by simp [h]
theorem mV {xs:Array Nat} {i x:Nat} (h:xs[i]?=some x):i < xs.size:=(Array.getElem?_eq_some_iff.mp h).1
theorem iV {xs:Array Nat} (R:Ris xs) (j:Nat):∀ (fuel lo hi:Nat),lo≤hi→hi≤xs.size→hi - lo≤fuel→(∀ (i x:Nat),i < lo→xs[i]?=some x→x < j)→(∀ (i x:Nat),hi≤i→xs[i]?=some x→j≤x)→
  (∀ (i x:Nat),i < below.go xs j fuel lo hi→xs[i]?=some x→x < j)∧(∀ (i x:Nat),below.go xs j fuel lo hi≤i→xs[i]?=some x→j≤x)∧below.go xs j fuel lo hi≤xs.size
 | 0,lo,hi,h1,h2,h3,h4,h5=> by
  have e:lo=hi:=by omega
  subst e
  rw [below.go]
  exact ⟨h4,h5,h2⟩
 | fuel+1,lo,hi,h1,h2,h3,h4,h5=> by
  rw [below.go]
  by_cases hlt:lo < hi
  ·rw [if_pos hlt]
   have hm:(lo+hi) / 2 < xs.size:=by omega
   have e:xs.getD ((lo+hi) / 2) j=xs[(lo+hi) / 2]:=by simp [Array.getD,hm]
   simp only [e]
   split
   ·rename_i hl
    refine iV R j fuel _ hi (by omega) h2 (by omega) (fun i x hi' hx=> ?_) h5
    rcases Nat.lt_or_eq_of_le (show i≤(lo+hi) / 2 by omega) with z | z
    ·exact Nat.lt_trans (R i _ x _ z hx (di hm)) hl
    ·subst z; rw [di hm] at hx; cases hx; exact hl
   ·rename_i hl
    refine iV R j fuel lo _ (by omega) (by omega) (by omega) h4 (fun i x hi' hx=> ?_)
    rcases Nat.lt_or_eq_of_le hi' with z | z
    ·exact Nat.le_trans (Nat.le_of_not_lt hl) (Nat.le_of_lt (R _ i _ x z (di hm) hx))
    ·subst z; rw [di hm] at hx; cases hx; exact Nat.le_of_not_lt hl
  ·rw [if_neg hlt]
   have e:lo=hi:=by omega
   subst e
   exact ⟨h4,h5,h2⟩
theorem dM {xs:Array Nat} (R:Ris xs) (j:Nat):(∀ (i x:Nat),i < below xs j→xs[i]?=some x→x < j)∧(∀ (i x:Nat),below xs j≤i→xs[i]?=some x→j≤x)∧below xs j≤xs.size:=
 iV R j xs.size 0 xs.size (Nat.zero_le _) (Nat.le_refl _) (by omega) (fun i x h=> absurd h (Nat.not_lt_zero _)) (fun i x h e=> absurd (mV e) (by omega))
theorem qm {xs:Array Nat} (R:Ris xs) {i j:Nat} (h:xs[i]?=some j):below xs j=i:=by
 obtain ⟨h1,h2,h3⟩:=dM R j
 rcases Nat.lt_trichotomy (below xs j) i with z | z | z
 ·have hk:below xs j < xs.size:=Nat.lt_trans z (mV h)
  have:=h2 _ _ (Nat.le_refl _) (di hk)
  have:=R _ _ _ _ z (di hk) h
  omega
 ·exact z
 ·have:=h1 i j z h
  omega
theorem iI {t:SetTable} (R:Ris t.place) {i j:Nat} (h:t.place[i]?=some j):t.slot j=.live i:=by
 unfold SetTable.slot
 simp only [qm R h,h,beq_self_eq_true,if_true]
theorem nS {t:SetTable} (hd:t.dummies=#[]) {j:Nat} (h:∀ i:Nat,t.place[i]?≠some j):t.slot j=.empty:=by
 unfold SetTable.slot
 have e:(t.place[below t.place j]?==some j)=false:=by simpa using h _
 simp only [e,hd]
 simp [SetTable.has]
theorem kU {t:SetTable} (R:Ris t.place) (hd:t.dummies=#[]) (j:Nat):(t.slot j=.empty∧∀ i:Nat,t.place[i]?≠some j)∨∃ i:Nat,t.slot j=.live i∧t.place[i]?=some j:=by
 by_cases h:∃ i:Nat,t.place[i]?=some j
 ·obtain ⟨i,hi⟩:=h
  exact .inr ⟨i,iI R hi,hi⟩
 ·exact .inl ⟨nS hd fun i e=> h ⟨i,e⟩,fun i e=> h ⟨i,e⟩⟩
theorem oG {xs:Array Nat} (R:Ris xs) {mask:Nat} (hn:xs.size≤mask):∃ s,s≤mask∧∀ i:Nat,xs[i]?≠some s:=by
 apply Classical.byContradiction
 intro hno
 have all:∀ s,s≤mask→∃ i:Nat,xs[i]?=some s:=fun s hs=> by
  apply Classical.byContradiction
  intro h
  exact hno ⟨s,hs,fun i e=> h ⟨i,e⟩⟩
 have key:∀ s,s≤mask→∃ i:Nat,xs[i]?=some s∧s≤i:=by
  intro s
  induction s with
  | zero=> intro h; obtain ⟨i,hi⟩:=all 0 h; exact ⟨i,hi,Nat.zero_le _⟩
  | succ s ih=>
   intro h
   obtain ⟨i,hi,hle⟩:=ih (by omega)
   obtain ⟨k,hk⟩:=all (s+1) h
   refine ⟨k,hk,?_⟩
   rcases Nat.lt_trichotomy i k with z | z | z
   ·omega
   ·subst z; rw [hi] at hk; cases hk
   ·have:=R k i _ _ z hk hi; omega
 obtain ⟨i,hi,hle⟩:=key mask (Nat.le_refl _)
 have:=mV hi
 omega
def adv (mask:Nat) (p:Probe):Probe:=
 if p.more > 0 then { p with j:=p.j+1,more:=p.more - 1 } else
 { p with j:=(leap mask p.i p.perturb).1,more:=runEnd mask (leap mask p.i p.perturb).1 - (leap mask p.i p.perturb).1,i:=(leap mask p.i p.perturb).1,perturb:=(leap mask p.i p.perturb).2 }
theorem gY (t:SetTable) (p:Probe):t.advance p=adv t.mask p:=by
 unfold SetTable.advance adv
 split
 ·rfl
 ·rfl
def start (mask:Nat) (h:Int):Probe:={ j:=bits h % (mask+1),more:=runEnd mask (bits h % (mask+1)) - bits h % (mask+1),i:=bits h % (mask+1),perturb:=bits h,dummy:=none }
def pth (mask:Nat) (h:Int):Nat→Probe
 | 0=> start mask h
 | n+1=> adv mask (pth mask h n)
def aL (mask:Nat) (h:Int):Nat→Nat×Nat
 | 0=> (bits h % (mask+1),bits h)
 | r+1=> leap mask (aL mask h r).1 (aL mask h r).2
theorem gm {mask:Nat}:∀ (m:Nat) (p:Probe) (f:Nat→Probe),f 0=p→(∀ n,f (n+1)=adv mask (f n))→m≤p.more→f m={ p with j:=p.j+m,more:=p.more - m }
 | 0,p,f,h0,_,_=> by rw [h0]; rfl
 | m+1,p,f,h0,hs,hm=> by
  rw [hs m,gm m p f h0 hs (by omega)]
  unfold adv
  rw [if_pos (by show p.more - m > 0; omega)]
  simp only [Probe.mk.injEq]
  exact ⟨by omega,by omega,trivial,trivial,trivial⟩
theorem gw (mask:Nat) (h:Int):∀ n,(pth mask h n).dummy=none
 | 0=> rfl
 | n+1=> by
  rw [pth]; unfold adv
  split
  ·exact gw mask h n
  ·exact gw mask h n
theorem n5 (mask i:Nat):runEnd mask i - i≤9:=by unfold runEnd; split <;> omega
theorem mY (mask:Nat) (h:Int):∀ r,∃ n,n≤10 * r∧pth mask h n={ j:=(aL mask h r).1,more:=runEnd mask (aL mask h r).1 - (aL mask h r).1,i:=(aL mask h r).1,perturb:=(aL mask h r).2,dummy:=none }
 | 0=> ⟨0,Nat.le_refl _,rfl⟩
 | r+1=> by
  obtain ⟨n,hn,e⟩:=mY mask h r
  have hL:=n5 mask (aL mask h r).1
  have step:=gm (mask:=mask) (runEnd mask (aL mask h r).1 - (aL mask h r).1) (pth mask h n) (fun m=> pth mask h (n+m)) rfl (fun m=> rfl) (by rw [e]; exact Nat.le_refl _)
  refine ⟨n+(runEnd mask (aL mask h r).1 - (aL mask h r).1)+1,by omega,?_⟩
  rw [pth]
  have step':pth mask h (n+(runEnd mask (aL mask h r).1 - (aL mask h r).1))=_:=step
  rw [step',e]
  unfold adv
  rw [if_neg (by simp)]
  rfl
theorem tF (h:Int):bits h < 2 ^ 64:=by
 unfold bits
 have h1:=Int.emod_nonneg h (show (2 ^ 64:Int)≠0 by decide)
 have h2:=Int.emod_lt_of_pos h (show (0:Int) < 2 ^ 64 by decide)
 omega
theorem ix (mask:Nat) (h:Int):∀ r,(aL mask h r).2=bits h / 32 ^ r
 | 0=> by simp [aL]
 | r+1=> by
  rw [aL]
  show (aL mask h r).2 / 32=_
  rw [ix mask h r,Nat.div_div_eq_div_mul,Nat.pow_succ]
theorem oD (mask:Nat) (h:Int) (r:Nat) (hr:12≤r):(aL mask h r).2 / 32=0:=by
 rw [ix]
 have h1:=tF h
 rw [Nat.div_div_eq_div_mul]
 apply Nat.div_eq_of_lt
 have:32 ^ 12 * 32≤32 ^ r * 32:=Nat.mul_le_mul_right _ (Nat.pow_le_pow_right (by decide) hr)
 exact Nat.lt_of_lt_of_le (Nat.lt_of_lt_of_le h1 (by decide)) this
def cK:Nat→Nat
 | 0=> 1
 | k+1=> cK k * (4 * cK k+2)
theorem qP:∀ k,∃ m,cK k=2 ^ k * (2 * m+1)
 | 0=> ⟨0,by simp [cK]⟩
 | k+1=> by
  obtain ⟨m,e⟩:=qP k
  refine ⟨2 * (cK k) * m+m+cK k,?_⟩
  rw [cK,Nat.pow_succ]
  have:cK k * (4 * cK k+2)=2 ^ k * (2 * m+1) * (4 * cK k+2):=by rw [← e]
  rw [this]
  generalize cK k=c
  generalize 2 ^ k=p
  grind
def eN:Nat→Nat→Nat
 | 0,x=> x
 | n+1,x=> 5 * eN n x+1
theorem gE (m x:Nat):∀ n,eN (m+n) x=eN n (eN m x)
 | 0=> rfl
 | n+1=> by rw [← Nat.add_assoc,eN,gE m x n,eN]
theorem g_:∀ (k x:Nat),eN (2 ^ k) x=(1+4 * cK k) * x+cK k
 | 0,x=> by simp [eN,cK]
 | k+1,x=> by
  rw [Nat.pow_succ,Nat.mul_two,gE,g_ k,g_ k,cK]
  generalize cK k=c
  grind
theorem lL (k x:Nat):eN (2 ^ k) x % 2 ^ (k+1)=(x+2 ^ k) % 2 ^ (k+1):=by
 rw [g_]
 obtain ⟨m,e⟩:=qP k
 rw [e]
 have:(1+4 * (2 ^ k * (2 * m+1))) * x+2 ^ k * (2 * m+1)=(x+2 ^ k)+2 ^ (k+1) * (2 * (2 * m+1) * x+m):=by
  rw [Nat.pow_succ]
  generalize 2 ^ k=p
  grind
 rw [this,Nat.add_mul_mod_self_left]
theorem eZ (x:Nat):∀ (k y:Nat),∃ n,n < 2 ^ k∧eN n x % 2 ^ k=y % 2 ^ k
 | 0,y=> ⟨0,by simp,by simp [Nat.mod_one]⟩
 | k+1,y=> by
  obtain ⟨n,hn,e⟩:=eZ x k y
  have hp:2 ^ (k+1)=2 ^ k+2 ^ k:=by rw [Nat.pow_succ]; omega
  have h2:0 < 2 ^ k:=Nat.pow_pos (by decide)
  by_cases h:eN n x % 2 ^ (k+1)=y % 2 ^ (k+1)
  ·exact ⟨n,by omega,h⟩
  ·refine ⟨n+2 ^ k,by omega,?_⟩
   rw [gE,lL]
   generalize eN n x=z at *
   have d1:z % 2 ^ (k+1) % 2 ^ k=z % 2 ^ k:=Nat.mod_mod_of_dvd _ ⟨2,by rw [Nat.pow_succ]⟩
   have d2:y % 2 ^ (k+1) % 2 ^ k=y % 2 ^ k:=Nat.mod_mod_of_dvd _ ⟨2,by rw [Nat.pow_succ]⟩
   have l1:=Nat.mod_lt z (show 0 < 2 ^ (k+1) by omega)
   have l2:=Nat.mod_lt y (show 0 < 2 ^ (k+1) by omega)
   rw [← Nat.mod_add_mod]
   rw [← d1,← d2] at e
   generalize z % 2 ^ (k+1)=a at *
   generalize y % 2 ^ (k+1)=b at *
   rw [hp] at *
   generalize 2 ^ k=p at *
   have ea:a % p=if a < p then a else a - p:=by
    split
    ·exact Nat.mod_eq_of_lt (by assumption)
    ·rw [Nat.mod_eq_sub_mod (by omega),Nat.mod_eq_of_lt (by omega)]
   have eb:b % p=if b < p then b else b - p:=by
    split
    ·exact Nat.mod_eq_of_lt (by assumption)
    ·rw [Nat.mod_eq_sub_mod (by omega),Nat.mod_eq_of_lt (by omega)]
   rw [ea,eb] at e
   by_cases ha:a < p
   ·rw [if_pos ha] at e
    rw [Nat.mod_eq_of_lt (by omega)]
    split at e <;> omega
   ·rw [if_neg ha] at e
    rw [Nat.mod_eq_sub_mod (by omega),Nat.mod_eq_of_lt (by omega)]
    split at e <;> omega
theorem gP {mask k:Nat} (hk:mask+1=2 ^ k) (h:Int):∀ q,(aL mask h (12+q)).1=eN q (aL mask h 12).1 % 2 ^ k
 | 0=> by
  rw [eN]
  have:(aL mask h 12).1 < 2 ^ k:=by
   rw [← hk]
   show (leap mask (aL mask h 11).1 (aL mask h 11).2).1 < _
   exact Nat.mod_lt _ (by omega)
  exact (Nat.mod_eq_of_lt this).symm
 | q+1=> by
  show (leap mask (aL mask h (12+q)).1 (aL mask h (12+q)).2).1=_
  unfold leap
  simp only [oD mask h (12+q) (by omega)]
  rw [gP hk h q,hk,eN,Nat.add_zero,Nat.mul_comm 5 _]
  generalize eN q (aL mask h 12).1=z
  generalize 2 ^ k=m
  rw [Nat.add_mod,Nat.mod_mul_mod,← Nat.add_mod]
theorem tU {mask k:Nat} (hk:mask+1=2 ^ k) (h:Int) (s:Nat) (hs:s≤mask):∃ n,n < 10 * turns mask∧(pth mask h n).j=s:=by
 obtain ⟨q,hq,e⟩:=eZ (aL mask h 12).1 k s
 obtain ⟨n,hn,en⟩:=mY mask h (12+q)
 refine ⟨n,?_,?_⟩
 ·unfold turns; omega
 ·rw [en]
  show (aL mask h (12+q)).1=s
  rw [gP hk h q,e]
  exact Nat.mod_eq_of_lt (by omega)
end ST
namespace ST
open PySem PySem.SetTable
def Liv (t:SetTable) (j:Nat):Prop:=∃ i:Nat,t.place[i]?=some j
structure TOk (t:SetTable) (hs:List Int):Prop where
 R:Ris t.place
 d:t.dummies=#[]
 k:∃ k,3≤k∧t.mask+1=2 ^ k
 n:t.place.size=hs.length
 f:t.place.size≤t.mask
 le:∀ (i x:Nat),t.place[i]?=some x→x≤t.mask
 reach:∀ (i j:Nat) (h:Int),t.place[i]?=some j→hs[i]?=some h→∃ m,(pth t.mask h m).j=j∧∀ m',m' < m→Liv t (pth t.mask h m').j
theorem v9 {P:Nat→Prop}:∀ n,P n→∃ m,m≤n∧P m∧∀ k,k < m→¬ P k:=by
 intro n
 induction n using Nat.strongRecOn with
 | _ n ih=>
  intro h
  by_cases hk:∃ k,k < n∧P k
  ·obtain ⟨k,hk,hp⟩:=hk
   obtain ⟨m,h1,h2,h3⟩:=ih k hk hp
   exact ⟨m,by omega,h2,h3⟩
  ·exact ⟨n,Nat.le_refl _,h,fun k hk' hp=> hk ⟨k,hk',hp⟩⟩
theorem lu {t:SetTable} {hs:List Int} (T:TOk t hs) (h:Int):∃ N,N < 10 * turns t.mask∧¬ Liv t (pth t.mask h N).j∧∀ m,m < N→Liv t (pth t.mask h m).j:=by
 obtain ⟨s,hs1,hs2⟩:=oG T.R T.f
 obtain ⟨k,_,hk⟩:=T.k
 obtain ⟨n,hn,e⟩:=tU hk h s hs1
 obtain ⟨m,h1,h2,h3⟩:=v9 (P:=fun n=> ¬ Liv t (pth t.mask h n).j) n (by show ¬ Liv t (pth t.mask h n).j; rw [e]; rintro ⟨i,hi⟩; exact hs2 i hi)
 exact ⟨m,by omega,h2,fun k hk'=> Classical.byContradiction fun z=> h3 k hk' z⟩
theorem jK {t:SetTable} {hs:List Int} (T:TOk t hs) (hashAt:Nat→Int) (h:Int) {N:Nat} (h0:¬ Liv t (pth t.mask h N).j) (h1:∀ m,m < N→Liv t (pth t.mask h m).j):∀ (fuel n:Nat),n≤N→N - n < fuel→
  (probe.go t hashAt h fuel (pth t.mask h n)=some (.empty (pth t.mask h N).j none)∧∀ (m i:Nat),n≤m→m < N→t.place[i]?=some (pth t.mask h m).j→hashAt i≠h)∨
  ∃ m i:Nat,n≤m∧m < N∧t.place[i]?=some (pth t.mask h m).j∧hashAt i=h∧probe.go t hashAt h fuel (pth t.mask h n)=some (.candidate (pth t.mask h m).j i (pth t.mask h (m+1)))∧
   ∀ (m' i':Nat),n≤m'→m' < m→t.place[i']?=some (pth t.mask h m').j→hashAt i'≠h
 | 0,n,_,hf=> by omega
 | fuel+1,n,hn,hf=> by
  rw [probe.go]
  rcases kU T.R T.d (pth t.mask h n).j with ⟨e,hno⟩ | ⟨i,e,hi⟩
  ·have hN:n=N:=by
    rcases Nat.lt_or_eq_of_le hn with z | z
    ·obtain ⟨i,hi⟩:=h1 n z; exact absurd hi (hno i)
    ·exact z
   subst hN
   refine .inl ⟨by simp only [e,gw],fun m i z1 z2=> by omega⟩
  ·have hN:n < N:=by
    rcases Nat.lt_or_eq_of_le hn with z | z
    ·exact z
    ·subst z; exact absurd ⟨i,hi⟩ h0
   simp only [e]
   by_cases hh:hashAt i=h
   ·refine .inr ⟨n,i,Nat.le_refl _,hN,hi,hh,?_,fun m' i' z1 z2=> by omega⟩
    simp only [hh,beq_self_eq_true,if_true,gY]
    rfl
   ·have hb:(hashAt i==h)=false:=by simpa using hh
    simp only [hb,Bool.false_eq_true,if_false,gY]
    have ih:=jK T hashAt h h0 h1 fuel (n+1) (by omega) (by omega)
    rcases ih with ⟨q1,q2⟩ | ⟨m,i2,q1,q2,q3,q4,q5,q6⟩
    ·refine .inl ⟨q1,fun m i' z1 z2 z3=> ?_⟩
     rcases Nat.lt_or_eq_of_le z1 with z | z
     ·exact q2 m i' z z2 z3
     ·subst z
      rw [T.R.inj z3 hi]; exact hh
    ·refine .inr ⟨m,i2,by omega,q2,q3,q4,q5,fun m' i' z1 z2 z3=> ?_⟩
     rcases Nat.lt_or_eq_of_le z1 with z | z
     ·exact q6 m' i' z z2 z3
     ·subst z
      rw [T.R.inj z3 hi]; exact hh
theorem qp {t:SetTable} {hs:List Int} (T:TOk t hs) {h:Int} {N i:Nat} (h0:¬ Liv t (pth t.mask h N).j) (hi:hs[i]?=some h):∃ (m j:Nat),m < N∧t.place[i]?=some j∧(pth t.mask h m).j=j:=by
 have hlt:i < t.place.size:=by rw [T.n]; exact (List.getElem?_eq_some_iff.mp hi).1
 obtain ⟨m,e,hm⟩:=T.reach i _ h (di hlt) hi
 refine ⟨m,_,?_,di hlt,e⟩
 rcases Nat.lt_trichotomy m N with z | z | z
 ·exact z
 ·subst z; exact absurd ⟨i,by rw [e]; exact di hlt⟩ h0
 ·exact absurd (hm N z) h0
theorem dm {α:Type} (xs:Array α) (p:Nat) (x:α):(insertAt xs p x).toList=xs.toList.take p++x::xs.toList.drop p:=by
 unfold insertAt
 simp [Array.toList_extract]
 exact List.take_of_length_le (by simp)
theorem bK {α:Type} {xs:Array α} {p:Nat} {x:α} (hp:p≤xs.size) (i:Nat):(insertAt xs p x)[i]?=if i < p then xs[i]? else if i=p then some x else xs[i - 1]?:=by
 rw [← Array.getElem?_toList,dm]
 have hl:(xs.toList.take p).length=p:=by simp; omega
 by_cases h1:i < p
 ·rw [if_pos h1,List.getElem?_append_left (by omega),List.getElem?_take_of_lt h1,Array.getElem?_toList]
 ·rw [if_neg h1,List.getElem?_append_right (by omega),hl]
  by_cases h2:i=p
  ·subst h2; simp
  ·rw [if_neg h2]
   obtain ⟨q,hq⟩:∃ q,i - p=q+1:=⟨i - p - 1,by omega⟩
   rw [hq,List.getElem?_cons_succ,List.getElem?_drop,Array.getElem?_toList]
   congr 1; omega
theorem eR {α:Type} (xs:Array α) (p:Nat) (x:α) (hp:p≤xs.size):(insertAt xs p x).size=xs.size+1:=by
 rw [← Array.length_toList,dm]; simp; omega
def eO {α:Type} (xs:List α) (p:Nat) (x:α):List α:=xs.take p++x::xs.drop p
theorem rg {α:Type} {xs:List α} {p:Nat} {x:α} (hp:p≤xs.length) (i:Nat):(eO xs p x)[i]?=if i < p then xs[i]? else if i=p then some x else xs[i - 1]?:=by
 unfold eO
 have hl:(xs.take p).length=p:=by simp; omega
 by_cases h1:i < p
 ·rw [if_pos h1,List.getElem?_append_left (by omega),List.getElem?_take_of_lt h1]
 ·rw [if_neg h1,List.getElem?_append_right (by omega),hl]
  by_cases h2:i=p
  ·subst h2; simp
  ·rw [if_neg h2]
   obtain ⟨q,hq⟩:∃ q,i - p=q+1:=⟨i - p - 1,by omega⟩
   rw [hq,List.getElem?_cons_succ,List.getElem?_drop]
   congr 1; omega
theorem sJ {xs:Array Nat} (R:Ris xs) {j:Nat} (hno:∀ i:Nat,xs[i]?≠some j):Ris (insertAt xs (below xs j) j):=by
 obtain ⟨h1,h2,h3⟩:=dM R j
 have gt:∀ (i x:Nat),below xs j≤i→xs[i]?=some x→j < x:=fun i x hi hx=> by
  rcases Nat.lt_or_eq_of_le (h2 i x hi hx) with z | z
  ·exact z
  ·subst z; exact absurd hx (hno i)
 intro a b x y hab hx hy
 rw [bK h3] at hx hy
 by_cases a1:a < below xs j
 ·rw [if_pos a1] at hx
  by_cases b1:b < below xs j
  ·rw [if_pos b1] at hy; exact R a b x y hab hx hy
  ·rw [if_neg b1] at hy
   by_cases b2:b=below xs j
   ·rw [if_pos b2] at hy; cases hy; exact h1 a x a1 hx
   ·rw [if_neg b2] at hy; exact R a (b - 1) x y (by omega) hx hy
 ·rw [if_neg a1] at hx
  have b1:¬ b < below xs j:=by omega
  rw [if_neg b1] at hy
  have b2:¬ b=below xs j:=by omega
  rw [if_neg b2] at hy
  by_cases a2:a=below xs j
  ·rw [if_pos a2] at hx; cases hx; exact gt (b - 1) y (by omega) hy
  ·rw [if_neg a2] at hx; exact R (a - 1) (b - 1) x y (by omega) hx hy
theorem mq {xs:Array Nat} {p j:Nat} (hp:p≤xs.size) (s:Nat):(∃ i:Nat,(insertAt xs p j)[i]?=some s)↔s=j∨∃ i:Nat,xs[i]?=some s:=by
 constructor
 ·rintro ⟨i,hi⟩
  rw [bK hp] at hi
  split at hi
  ·exact .inr ⟨i,hi⟩
  ·split at hi
   ·cases hi; exact .inl rfl
   ·exact .inr ⟨i - 1,hi⟩
 ·rintro (rfl | ⟨i,hi⟩)
  ·exact ⟨p,by rw [bK hp,if_neg (Nat.lt_irrefl _),if_pos rfl]⟩
  ·by_cases h:i < p
   ·exact ⟨i,by rw [bK hp,if_pos h]; exact hi⟩
   ·exact ⟨i+1,by rw [bK hp,if_neg (by omega),if_neg (by omega)]; simpa using hi⟩
theorem TOk.put {t:SetTable} {hs:List Int} (T:TOk t hs) {h:Int} {N:Nat} (h0:¬ Liv t (pth t.mask h N).j) (h1:∀ m,m < N→Liv t (pth t.mask h m).j) (hle:(pth t.mask h N).j≤t.mask) (hf:t.place.size+1≤t.mask):
  TOk (t.put (pth t.mask h N).j).1 (eO hs (t.put (pth t.mask h N).j).2 h):=by
 have hno:∀ i:Nat,t.place[i]?≠some (pth t.mask h N).j:=fun i e=> h0 ⟨i,e⟩
 obtain ⟨_,_,hb⟩:=dM T.R (pth t.mask h N).j
 have hbl:below t.place (pth t.mask h N).j≤hs.length:=by rw [← T.n]; exact hb
 have ed:(if SetTable.has t.dummies (pth t.mask h N).j then eraseAt t.dummies (below t.dummies (pth t.mask h N).j) else t.dummies)=#[]:=by
  rw [T.d]; simp [SetTable.has]
 unfold SetTable.put
 simp only [ed]
 refine ⟨sJ T.R hno,rfl,T.k,?_,?_,fun i x e=> ?_,fun i j hh e1 e2=> ?_⟩
 ·show (insertAt _ _ _).size=(eO hs _ h).length
  rw [eR _ _ _ hb,T.n]; unfold eO; simp; omega
 ·show (insertAt _ _ _).size≤t.mask
  rw [eR _ _ _ hb]; exact hf
 ·rcases (mq hb x).mp ⟨i,e⟩ with z | ⟨q,hq⟩
  ·rw [z]; exact hle
  ·exact T.le q x hq
 ·have liv:∀ s,Liv t s→Liv { t with place:=insertAt t.place (below t.place (pth t.mask h N).j) (pth t.mask h N).j,dummies:=#[] } s:=fun s z=> (mq hb s).mpr (.inr z)
  change (insertAt t.place _ _)[i]?=some j at e1
  rw [bK hb] at e1
  rw [rg hbl] at e2
  split at e1
  ·rename_i z
   rw [if_pos z] at e2
   obtain ⟨m,q1,q2⟩:=T.reach i j hh e1 e2
   exact ⟨m,q1,fun m' hm=> liv _ (q2 m' hm)⟩
  ·rename_i z
   rw [if_neg z] at e2
   split at e1
   ·rename_i z2
    rw [if_pos z2] at e2
    cases e1; cases e2
    exact ⟨N,rfl,fun m' hm=> liv _ (h1 m' hm)⟩
   ·rename_i z2
    rw [if_neg z2] at e2
    obtain ⟨m,q1,q2⟩:=T.reach (i - 1) j hh e1 e2
    exact ⟨m,q1,fun m' hm=> liv _ (q2 m' hm)⟩
theorem oY {mask:Nat} (h:Int):∀ n,(pth mask h n).j+(pth mask h n).more≤mask
 | 0=> by
  show bits h % (mask+1)+(runEnd mask (bits h % (mask+1)) - bits h % (mask+1))≤mask
  have:=Nat.mod_lt (bits h) (show 0 < mask+1 by omega)
  unfold runEnd; split <;> omega
 | n+1=> by
  have ih:=oY (mask:=mask) h n
  rw [pth]; unfold adv
  split
  ·simp only; omega
  ·show (leap mask _ _).1+(runEnd mask (leap mask _ _).1 - (leap mask _ _).1)≤mask
   have:(leap mask (pth mask h n).i (pth mask h n).perturb).1 < mask+1:=Nat.mod_lt _ (by omega)
   unfold runEnd; split <;> omega
end ST
namespace ST
open PySem PySem.SetTable
def OL (owner:Array (Option Nat)) (j:Nat):Prop:=∃ k:Nat,owner[j]?=some (some k)
def nr (mask:Nat) (h:Int):Nat→Nat
 | 0=> 0
 | r+1=> nr mask h r+(runEnd mask (aL mask h r).1 - (aL mask h r).1)+1
theorem ub (mask:Nat) (h:Int):∀ r,pth mask h (nr mask h r)={ j:=(aL mask h r).1,more:=runEnd mask (aL mask h r).1 - (aL mask h r).1,i:=(aL mask h r).1,perturb:=(aL mask h r).2,dummy:=none }
 | 0=> rfl
 | r+1=> by
  have e:=ub mask h r
  have step:=gm (mask:=mask) (runEnd mask (aL mask h r).1 - (aL mask h r).1) (pth mask h (nr mask h r)) (fun m=> pth mask h (nr mask h r+m)) rfl (fun m=> rfl) (by rw [e]; exact Nat.le_refl _)
  have step':pth mask h (nr mask h r+(runEnd mask (aL mask h r).1 - (aL mask h r).1))=_:=step
  rw [nr,pth,step',e]
  unfold adv
  rw [if_neg (by simp)]
  rfl
theorem kK (mask:Nat) (h:Int) (r k:Nat) (hk:k≤runEnd mask (aL mask h r).1 - (aL mask h r).1):(pth mask h (nr mask h r+k)).j=(aL mask h r).1+k:=by
 have e:=ub mask h r
 have step:=gm (mask:=mask) k (pth mask h (nr mask h r)) (fun m=> pth mask h (nr mask h r+m)) rfl (fun m=> rfl) (by rw [e]; exact hk)
 have step':pth mask h (nr mask h r+k)=_:=step
 rw [step',e]
theorem nC (mask i:Nat):i≤runEnd mask i:=by unfold runEnd; split <;> omega
theorem rY (mask:Nat) (h:Int):∀ r,(aL mask h r).1≤mask
 | 0=> Nat.le_of_lt_succ (Nat.mod_lt _ (by omega))
 | r+1=> Nat.le_of_lt_succ (Nat.mod_lt _ (by omega))
theorem jN {mask i:Nat} (h:i≤mask):runEnd mask i≤mask:=by unfold runEnd; split <;> omega
theorem ng {mask:Nat} {owner:Array (Option Nat)} (hsz:owner.size=mask+1) (h:Int):∀ (fuel r:Nat),(∃ r',r≤r'∧r' < r+fuel∧owner[(aL mask h r').1]?=some none)→(∀ m,m < nr mask h r→OL owner (pth mask h m).j)→
  ∃ N,layClean.free mask owner fuel (aL mask h r).1 (aL mask h r).2=some (pth mask h N).j∧owner[(pth mask h N).j]?=some none∧∀ m,m < N→OL owner (pth mask h m).j
 | 0,r,⟨r',h1,h2,_⟩,_=> by omega
 | fuel+1,r,hex,hl=> by
  rw [layClean.free]
  have hge:=nC mask (aL mask h r).1
  have hmk:=jN (rY mask h r)
  have hin:∀ k,k < runEnd mask (aL mask h r).1+1 - (aL mask h r).1→(aL mask h r).1+k < owner.size:=fun k hk=> by omega
  cases hf:(List.range (runEnd mask (aL mask h r).1+1 - (aL mask h r).1)).find? fun k=> (owner.getD ((aL mask h r).1+k) (some 0)).isNone with
  | some k=>
   obtain ⟨p1,p2,p3⟩:=List.find?_range_eq_some.mp hf
   have hk:=List.mem_range.mp p2
   have hlt:=hin k hk
   have e1:owner[(aL mask h r).1+k]?=some none:=by
    have:owner.getD ((aL mask h r).1+k) (some 0)=owner[(aL mask h r).1+k]:=by simp [Array.getD,hlt]
    rw [this] at p1
    have:owner[(aL mask h r).1+k]=none:=by simpa using p1
    simp [hlt,this]
   have ej:=kK mask h r k (by omega)
   refine ⟨nr mask h r+k,by simp only [ej],by rw [ej]; exact e1,fun m hm=> ?_⟩
   by_cases hm1:m < nr mask h r
   ·exact hl m hm1
   ·obtain ⟨q,rfl⟩:∃ q,m=nr mask h r+q:=⟨m - nr mask h r,by omega⟩
    have hq:=p3 q (by omega)
    have hlt2:=hin q (by omega)
    rw [kK mask h r q (by omega)]
    have:owner.getD ((aL mask h r).1+q) (some 0)=owner[(aL mask h r).1+q]:=by simp [Array.getD,hlt2]
    rw [this] at hq
    cases hv:owner[(aL mask h r).1+q] with
    | none=> rw [hv] at hq; simp at hq
    | some v=> exact ⟨v,by simp [hlt2,hv]⟩
  | none=>
   have hall:∀ q,q < runEnd mask (aL mask h r).1+1 - (aL mask h r).1→OL owner ((aL mask h r).1+q):=fun q hq=> by
    have:=List.find?_eq_none.mp hf q (List.mem_range.mpr hq)
    have hlt2:=hin q hq
    have e:owner.getD ((aL mask h r).1+q) (some 0)=owner[(aL mask h r).1+q]:=by simp [Array.getD,hlt2]
    rw [e] at this
    cases hv:owner[(aL mask h r).1+q] with
    | none=> rw [hv] at this; simp at this
    | some v=> exact ⟨v,by simp [hlt2,hv]⟩
   have next:=ng hsz h fuel (r+1) (by
    obtain ⟨r',h1,h2,h3⟩:=hex
    refine ⟨r',?_,by omega,h3⟩
    rcases Nat.lt_or_eq_of_le h1 with z | z
    ·exact z
    ·subst z
     obtain ⟨v,hv⟩:=hall 0 (by omega)
     rw [Nat.add_zero,h3] at hv
     cases hv) (fun m hm=> by
    by_cases hm1:m < nr mask h r
    ·exact hl m hm1
    ·obtain ⟨q,rfl⟩:∃ q,m=nr mask h r+q:=⟨m - nr mask h r,by omega⟩
     have hm2:nr mask h r+q < nr mask h r+(runEnd mask (aL mask h r).1 - (aL mask h r).1)+1:=hm
     rw [kK mask h r q (by omega)]
     exact hall q (by omega))
   exact next
structure OI (mask:Nat) (owner:Array (Option Nat)) (hs:List Int):Prop where
 sz:owner.size=mask+1
 lt:∀ (j k:Nat),owner[j]?=some (some k)→k < hs.length
 inj:∀ (i j k:Nat),owner[i]?=some (some k)→owner[j]?=some (some k)→i=j
 all:∀ k:Nat,k < hs.length→∃ j:Nat,owner[j]?=some (some k)
 reach:∀ (j k:Nat) (h:Int),owner[j]?=some (some k)→hs[k]?=some h→∃ m,(pth mask h m).j=j∧∀ m',m' < m→OL owner (pth mask h m').j
theorem OI.free {mask:Nat} {owner:Array (Option Nat)} {hs:List Int} (O:OI mask owner hs) (hn:hs.length≤mask):∃ s,s≤mask∧owner[s]?=some none:=by
 apply Classical.byContradiction
 intro hno
 have hlive:∀ s,s≤mask→OL owner s:=fun s hs'=> by
  have hlt:s < owner.size:=by rw [O.sz]; omega
  cases e:owner[s] with
  | none=> exact absurd ⟨s,hs',by simp [hlt,e]⟩ hno
  | some k=> exact ⟨k,by simp [hlt,e]⟩
 have nd:((List.range (mask+1)).map fun s=> (owner.getD s none).getD 0).Nodup:=by
  rw [List.nodup_iff_pairwise_ne,List.pairwise_map]
  refine List.Pairwise.imp_of_mem ?_ (List.pairwise_lt_range (n:=mask+1))
  intro a b ha hb hab e
  obtain ⟨k1,h1⟩:=hlive a (by have:=List.mem_range.mp ha; omega)
  obtain ⟨k2,h2⟩:=hlive b (by have:=List.mem_range.mp hb; omega)
  have e1:(owner.getD a none).getD 0=k1:=by simp [Array.getD_eq_getD_getElem?,h1]
  have e2:(owner.getD b none).getD 0=k2:=by simp [Array.getD_eq_getD_getElem?,h2]
  rw [e1,e2] at e
  subst e
  have:=O.inj a b k1 h1 h2
  omega
 have sub:((List.range (mask+1)).map fun s=> (owner.getD s none).getD 0) ⊆ List.range hs.length:=by
  intro x hx
  obtain ⟨s,hs1,rfl⟩:=List.mem_map.mp hx
  obtain ⟨k1,h1⟩:=hlive s (by have:=List.mem_range.mp hs1; omega)
  have e1:(owner.getD s none).getD 0=k1:=by simp [Array.getD_eq_getD_getElem?,h1]
  rw [e1]
  exact List.mem_range.mpr (O.lt s k1 h1)
 have:=List.Nodup.length_le_of_subset nd sub
 simp at this
 omega
theorem OI.step {mask k:Nat} (hk:mask+1=2 ^ k) {owner:Array (Option Nat)} {hs:List Int} (O:OI mask owner hs) (hn:hs.length≤mask) (h:Int):
  ∃ j,layClean.free mask owner (turns mask) (bits h % (mask+1)) (bits h)=some j∧OI mask (owner.setIfInBounds j (some hs.length)) (hs++[h]):=by
 obtain ⟨s,hs1,hs2⟩:=O.free hn
 obtain ⟨q,hq,e⟩:=eZ (aL mask h 12).1 k s
 have er:(aL mask h (12+q)).1=s:=by rw [gP hk h q,e]; exact Nat.mod_eq_of_lt (by omega)
 obtain ⟨N,f1,f2,f3⟩:=ng O.sz h (turns mask) 0 ⟨12+q,Nat.zero_le _,by unfold turns; omega,by rw [er]; exact hs2⟩ (fun m hm=> absurd hm (Nat.not_lt_zero _))
 refine ⟨_,f1,?_⟩
 generalize hj:(pth mask h N).j=j at *
 have hjs:j < owner.size:=(Array.getElem?_eq_some_iff.mp f2).1
 have get:∀ i:Nat,(owner.setIfInBounds j (some hs.length))[i]?=if j=i then some (some hs.length) else owner[i]?:=fun i=> by
  rw [Array.getElem?_setIfInBounds]
  split
  ·rename_i z; subst z; simp [hjs]
  ·rfl
 have liv:∀ i,OL owner i→OL (owner.setIfInBounds j (some hs.length)) i:=fun i ⟨v,hv⟩=> by
  refine ⟨v,?_⟩
  rw [get,if_neg (fun z=> by subst z; rw [f2] at hv; cases hv)]
  exact hv
 refine ⟨by simp [O.sz],fun i v e=> ?_,fun a b v e1 e2=> ?_,fun v hv=> ?_,fun i v hh e1 e2=> ?_⟩
 ·rw [get] at e
  split at e
  ·cases e; simp
  ·have:=O.lt i v e; simp; omega
 ·rw [get] at e1 e2
  split at e1 <;> split at e2
  ·omega
  ·cases e1; exact absurd (O.lt b _ e2) (Nat.lt_irrefl _)
  ·cases e2; exact absurd (O.lt a _ e1) (Nat.lt_irrefl _)
  ·exact O.inj a b v e1 e2
 ·simp at hv
  rcases Nat.lt_or_eq_of_le (Nat.le_of_lt_succ hv) with z | z
  ·obtain ⟨i,hi⟩:=O.all v z
   refine ⟨i,?_⟩
   rw [get,if_neg (fun y=> by subst y; rw [f2] at hi; cases hi)]
   exact hi
  ·subst z; exact ⟨j,by rw [get,if_pos rfl]⟩
 ·rw [get] at e1
  split at e1
  ·rename_i z
   cases e1
   rw [List.getElem?_append_right (Nat.le_refl _)] at e2
   simp at e2
   subst e2
   exact ⟨N,by rw [hj]; exact z,fun m hm=> liv _ (f3 m hm)⟩
  ·have hv:=O.lt i v e1
   rw [List.getElem?_append_left hv] at e2
   obtain ⟨m,q1,q2⟩:=O.reach i v hh e1 e2
   exact ⟨m,q1,fun m' hm=> liv _ (q2 m' hm)⟩
theorem my {mask k:Nat} (hk:mask+1=2 ^ k):∀ (more done:List Int) (owner:Array (Option Nat)),OI mask owner done→done.length+more.length≤mask+1→∃ owner',more.foldl (fun acc h=> do
  let (owner,k) ← acc
  let j ← layClean.free mask owner (turns mask) (bits h % (mask+1)) (bits h)
  pure (owner.setIfInBounds j (some k),k+1)) (some (owner,done.length))=some (owner',done.length+more.length)∧OI mask owner' (done++more)
 | [],done,owner,O,_=> ⟨owner,by simp,by simpa using O⟩
 | h::more,done,owner,O,hl=> by
  obtain ⟨j,e,O2⟩:=O.step hk (by simp at hl; omega) h
  obtain ⟨ow,e2,O3⟩:=my hk more (done++[h]) _ O2 (by simp at hl ⊢; omega)
  refine ⟨ow,?_,by simpa using O3⟩
  rw [List.foldl_cons]
  have:(do
   let (owner,k) ← some (owner,done.length)
   let j ← layClean.free mask owner (turns mask) (bits h % (mask+1)) (bits h)
   pure (owner.setIfInBounds j (some k),k+1):Option (Array (Option Nat)×Nat))=some (owner.setIfInBounds j (some done.length),done.length+1):=by
   simp [e]
  rw [this]
  simp only [List.length_append,List.length_singleton] at e2
  rw [e2]
  simp; omega
theorem kz {mask k:Nat} (hk:mask+1=2 ^ k) {hs:Array Int} (hl:hs.size≤mask+1):∃ owner,layClean mask hs=some owner∧OI mask owner hs.toList:=by
 have O0:OI mask (Array.replicate (mask+1) none) []:=⟨by simp,fun j k e=> by simp [Array.getElem?_replicate] at e,fun i j k e=> by simp [Array.getElem?_replicate] at e,fun k h=> by simp at h,fun j k h e=> by simp [Array.getElem?_replicate] at e⟩
 obtain ⟨ow,e,O⟩:=my hk hs.toList [] _ O0 (by simpa using hl)
 refine ⟨ow,?_,by simpa using O⟩
 unfold layClean
 rw [← Array.foldl_toList]
 simp only [List.length_nil] at e
 rw [e]
 rfl
end ST
namespace ST
open PySem PySem.SetTable
theorem jW (n:Nat):∀ (fuel k:Nat),n < 2 ^ (k+fuel)→∃ k',k≤k'∧sizeAbove.go n fuel (2 ^ k)=2 ^ k'∧n < 2 ^ k'∧(2 ^ k'≤2 * n∨k'=k)
 | 0,k,h=> ⟨k,Nat.le_refl _,rfl,by simpa using h,.inr rfl⟩
 | fuel+1,k,h=> by
  rw [sizeAbove.go]
  by_cases hle:2 ^ k≤n
  ·rw [if_pos hle,← Nat.pow_succ]
   obtain ⟨k',h1,h2,h3,h4⟩:=jW n fuel (k+1) (by rw [show k+1+fuel=k+(fuel+1) by omega]; exact h)
   refine ⟨k',by omega,h2,h3,.inl ?_⟩
   rcases h4 with z | z
   ·exact z
   ·subst z; rw [Nat.pow_succ]; omega
  ·rw [if_neg hle]
   exact ⟨k,Nat.le_refl _,rfl,by omega,.inr rfl⟩
theorem above (n:Nat) (h:n < 2 ^ 60):∃ k,3≤k∧sizeAbove n=2 ^ k∧n < 2 ^ k∧2 ^ k≤2 * n+8:=by
 obtain ⟨k,h1,h2,h3,h4⟩:=jW n 64 3 (Nat.lt_of_lt_of_le h (Nat.pow_le_pow_right (by decide) (by decide)))
 refine ⟨k,h1,h2,h3,?_⟩
 rcases h4 with z | z
 ·omega
 ·subst z; omega
def cM (mask:Nat) (owner:Array (Option Nat)):List (Nat×Nat):=(List.range (mask+1)).filterMap fun j=> (owner.getD j none).map (j,·)
theorem kg (owner:Array (Option Nat)):∀ l:List Nat,(l.filterMap fun j=> (owner.getD j none).map (j,·)).map (·.1)=l.filter fun j=> (owner.getD j none).isSome
 | []=> rfl
 | a::l=> by
  have ih:=kg owner l
  rw [List.filterMap_cons,List.filter_cons]
  cases owner.getD a none with
  | none=> simpa using ih
  | some v=> simpa using ih
theorem cY {mask:Nat} {owner:Array (Option Nat)} (hsz:owner.size=mask+1) (j k:Nat):(j,k)∈cM mask owner↔owner[j]?=some (some k):=by
 unfold cM
 rw [List.mem_filterMap]
 constructor
 ·rintro ⟨a,ha,e⟩
  have hlt:a < owner.size:=by rw [hsz]; exact List.mem_range.mp ha
  cases hv:owner.getD a none with
  | none=> rw [hv] at e; cases e
  | some v=>
   rw [hv] at e
   cases e
   have:owner.getD j none=owner[j]:=by simp [Array.getD,hlt]
   rw [this] at hv
   simp [hlt,hv]
 ·intro e
  have hlt:=(Array.getElem?_eq_some_iff.mp e).1
  refine ⟨j,List.mem_range.mpr (by omega),?_⟩
  rw [Array.getD_eq_getD_getElem?,e]; rfl
theorem nv (mask:Nat) (owner:Array (Option Nat)):(cM mask owner).Pairwise fun a b=> a.1 < b.1:=by
 have:=(List.pairwise_lt_range (n:=mask+1)).filter fun j=> (owner.getD j none).isSome
 rw [← kg owner (List.range (mask+1)),List.pairwise_map] at this
 exact this
theorem uv {l:List Nat} (h:l.Pairwise (· < ·)):Ris l.toArray:=by
 intro i j x y hij hx hy
 rw [List.getElem?_toArray] at hx hy
 obtain ⟨h1,e1⟩:=List.getElem?_eq_some_iff.mp hx
 obtain ⟨h2,e2⟩:=List.getElem?_eq_some_iff.mp hy
 have:=List.pairwise_iff_getElem.mp h i j h1 h2 hij
 rw [e1,e2] at this
 exact this
theorem rP {mask k:Nat} (h3:3≤k) (hk:mask+1=2 ^ k) {hs:Array Int} (hl:hs.size≤mask) (finger moves:Nat) (led plain:Bool):
  ∃ t order,laid mask finger moves led plain hs=some (t,order)∧TOk t (order.toList.map fun i=> hs.getD i 0)∧order.toList.Perm (List.range hs.size)∧t.mask=mask∧t.led=led∧t.plain=plain∧t.moves=moves:=by
 obtain ⟨owner,e,O⟩:=kz hk (hs:=hs) (by omega)
 have pr:=nv mask owner
 have nd:((cM mask owner).map (·.2)).Nodup:=by
  rw [List.nodup_iff_pairwise_ne,List.pairwise_map]
  refine List.Pairwise.imp_of_mem ?_ pr
  intro a b ha hb hab ee
  have h1:=(cY O.sz a.1 a.2).mp ha
  have h2:=(cY O.sz b.1 b.2).mp hb
  rw [ee] at h1
  have:=O.inj a.1 b.1 b.2 h1 h2
  omega
 have perm:((cM mask owner).map (·.2)).Perm (List.range hs.size):=by
  refine (List.perm_ext_iff_of_nodup nd List.nodup_range).mpr fun x=> ?_
  rw [List.mem_map,List.mem_range]
  constructor
  ·rintro ⟨⟨j,v⟩,hm,rfl⟩
   have:=O.lt j v ((cY O.sz j v).mp hm)
   simpa using this
  ·intro hx
   obtain ⟨j,hj⟩:=O.all x (by simpa using hx)
   exact ⟨(j,x),(cY O.sz j x).mpr hj,rfl⟩
 have len:(cM mask owner).length=hs.size:=by have:=perm.length_eq; simpa using this
 refine ⟨_,_,by unfold laid; rw [e]; rfl,⟨?_,rfl,⟨k,h3,hk⟩,?_,?_,fun i x ee=> ?_,fun i j h e1 e2=> ?_⟩,?_,rfl,rfl,rfl,rfl⟩
 ·show Ris ((cM mask owner).map (·.1)).toArray
  exact uv (by rw [List.pairwise_map]; exact pr)
 ·show ((cM mask owner).map (·.1)).toArray.size=_
  simp [cM]
 ·show ((cM mask owner).map (·.1)).toArray.size≤mask
  simp [len,hl]
 ·change ((cM mask owner).map (·.1)).toArray[i]?=some x at ee
  rw [List.getElem?_toArray,List.getElem?_map] at ee
  cases q:(cM mask owner)[i]? with
  | none=> rw [q] at ee; cases ee
  | some p=>
   rw [q] at ee
   cases ee
   have:=(cY O.sz p.1 p.2).mp (List.mem_of_getElem? q)
   have:=(Array.getElem?_eq_some_iff.mp this).1
   show p.1≤mask
   have hz:=O.sz
   omega
 ·change ((cM mask owner).map (·.1)).toArray[i]?=some j at e1
  change (((cM mask owner).map (·.2)).toArray.toList.map fun i=> hs.getD i 0)[i]?=some h at e2
  rw [List.getElem?_toArray,List.getElem?_map] at e1
  rw [List.getElem?_map,List.getElem?_map] at e2
  cases q:(cM mask owner)[i]? with
  | none=> rw [q] at e1; cases e1
  | some p=>
   rw [q] at e1 e2
   cases e1
   have hp:=(cY O.sz p.1 p.2).mp (List.mem_of_getElem? q)
   have hlt:=O.lt _ _ hp
   have e3:hs.toList[p.2]?=some h:=by
    have e4:hs.getD p.2 0=h:=by simpa using e2
    have:p.2 < hs.size:=by simpa using hlt
    rw [← e4]
    simp [Array.getD,this]
   obtain ⟨m,q1,q2⟩:=O.reach _ _ h hp e3
   refine ⟨m,q1,fun m' hm=> ?_⟩
   obtain ⟨v,hv⟩:=q2 m' hm
   obtain ⟨n,hn⟩:=List.mem_iff_getElem?.mp ((cY O.sz _ v).mpr hv)
   refine ⟨n,?_⟩
   show ((cM mask owner).map (·.1)).toArray[n]?=_
   rw [List.getElem?_toArray,List.getElem?_map,hn]; rfl
 ·show ((cM mask owner).map (·.2)).toArray.toList.Perm _
  simpa using perm
end ST
namespace ST
open PySem PySem.SetTable
section
variable {prog:Program} {w:World} {A:Around} {E:Value→Shared→Prop} {s:Shared}
abbrev TK (prog:Program) (w:World) (h:Heap) (k:List Int) (b:Addr):Prop:=IsTupleKey (intKind prog w) h k b
abbrev hsh (prog:Program) (w:World) (k:List Int):Int:=tupleKeyHash (intKind prog w) k
theorem TK.ints {h:Heap} {k:List Int} {vs:List Value} (x:ItemsAre (intKind prog w) k vs):∀ v∈vs,∃ n t,v=.int n t:=by
 induction x with
 | nil=> intro v hv; simp at hv
 | cons h1 _ ih=>
  intro v hv
  rcases List.mem_cons.mp hv with rfl | hv
  ·obtain ⟨t,rfl⟩:=Value.isInt_shape h1; exact ⟨_,t,rfl⟩
  ·exact ih v hv
theorem iL {k:List Int} {a:Addr} {Q:Bool→Shared→Prop} (hk:TK prog w s.heap k a) (h:Q false s):wpAny (model prog w) A (ofAClassStatement 8 (.ref a)) Q E s:=by
 have hT:=hk.typeIs
 obtain ⟨o,items,n,ho,_,hd,hi⟩:=hk
 unfold ofAClassStatement
 refine wpAny_bind (wpAny_typeOf hT ?_)
 dsimp only
 rw [if_pos (by decide)]
 refine wpAny_bind (wpAny_pure ?_)
 simp only [Bool.not_true,Bool.false_eq_true,if_false]
 refine wpAny_bind (wpAny_seqItems ho hd ?_)
 dsimp only
 refine wpAny_bind ?_
 rw [← Array.forIn_toList]
 refine wpAny_forIn_list _ (fun rest r s'=> r.1=none∧s'=s∧∀ v∈rest,∃ n t,v=Value.int n t) _ ?_ ?_ _ _ ⟨rfl,rfl,TK.ints (h:=s.heap) hi⟩
 ·rintro v rest r s' ⟨hr,rfl,hall⟩
  obtain ⟨n,t,rfl⟩:=hall v List.mem_cons_self
  have e:ofAClassStatement 7 (Value.int n t)=pure false:=by unfold ofAClassStatement; rfl
  rw [e]
  refine wpAny_bind (wpAny_pure ?_)
  simp only [Bool.false_eq_true,if_false]
  exact wpAny_pure ⟨rfl,rfl,fun u hu'=> hall u (List.mem_cons_of_mem _ hu')⟩
 ·rintro ⟨r1,r2⟩ s' ⟨hr,rfl,_⟩
  simp only at hr
  subst hr
  exact wpAny_pure h
theorem vR {k:List Int} {a:Addr} {Q:Bool→Shared→Prop} (hk:TK prog w s.heap k a) (h:Q true s):wpAny (model prog w) A (hashByValue 8 (.ref a)) Q E s:=by
 have hT:=hk.typeIs
 obtain ⟨o,items,n,ho,_,hd,hi⟩:=hk
 unfold hashByValue
 refine wpAny_bind (wpAny_specialOf hT F.slot_tuple_hash.lookup ?_)
 show wpAny _ _ (seqItems? (.ref a) >>=_) _ _ s
 refine wpAny_bind (wpAny_seqItems ho hd ?_)
 refine wpAny_bind ?_
 show wpAny _ _ (forIn items _ _) _ _ s
 rw [← Array.forIn_toList]
 refine wpAny_forIn_list _ (fun rest r s'=> r.1=none∧s'=s∧∀ v∈rest,∃ n t,v=Value.int n t) _ ?_ ?_ _ _ ⟨rfl,rfl,TK.ints (h:=s.heap) hi⟩
 ·rintro v rest r s' ⟨hr,rfl,hall⟩
  obtain ⟨n,t,rfl⟩:=hall v List.mem_cons_self
  have e:hashByValue 7 (Value.int n t)=pure true:=by unfold hashByValue; rfl
  rw [e]
  refine wpAny_bind (wpAny_pure ?_)
  simp only [Bool.not_true,Bool.false_eq_true,if_false]
  exact wpAny_pure ⟨rfl,rfl,fun u hu'=> hall u (List.mem_cons_of_mem _ hu')⟩
 ·rintro ⟨r1,r2⟩ s' ⟨hr,rfl,_⟩
  simp only at hr
  subst hr
  exact wpAny_pure h
theorem lI {k:List Int} {a:Addr} {l:List Value} {Q:Bool→Shared→Prop} (hk:TK prog w s.heap k a) (hl:∀ v∈l,∃ k' b,v=.ref b∧TK prog w s.heap k' b) (h:Q false s):
  wpAny (model prog w) A (searchCouldBeSeen (.ref a) l) Q E s:=by
 unfold searchCouldBeSeen
 refine wpAny_bind ?_
 refine wpAny_forIn_list _ (fun rest r s'=> r.1=none∧s'=s∧∀ v∈rest,∃ k' b,v=.ref b∧TK prog w s.heap k' b) _ ?_ ?_ _ _ ⟨rfl,rfl,hl⟩
 ·rintro v rest r s' ⟨hr,rfl,hall⟩
  obtain ⟨k',b,rfl,hb⟩:=hall v List.mem_cons_self
  dsimp only
  split
  ·exact wpAny_pure ⟨rfl,rfl,fun u hu'=> hall u (List.mem_cons_of_mem _ hu')⟩
  ·refine wpAny_bind (wpAny_eqIsQuiet_tuple hk ?_)
   simp only [Bool.not_true,Bool.false_eq_true,if_false]
   refine wpAny_bind (wpAny_eqIsQuiet_tuple hb ?_)
   simp only [Bool.not_true,Bool.false_eq_true,if_false]
   refine wpAny_bind (iL hk ?_)
   simp only [Bool.false_eq_true,if_false]
   refine wpAny_bind (iL hb ?_)
   simp only [Bool.false_eq_true,if_false]
   exact wpAny_pure ⟨rfl,rfl,fun u hu'=> hall u (List.mem_cons_of_mem _ hu')⟩
 ·rintro ⟨r1,r2⟩ s' ⟨hr,rfl,_⟩
  simp only at hr
  subst hr
  exact wpAny_pure h
def dX (prog:Program) (w:World) (kb:List (List Int×Addr)):List (Int×Value):=kb.map fun p=> (hsh prog w p.1,.ref p.2)
theorem m7 {kb:List (List Int×Addr)} {i:Nat}:(dX prog w kb)[i]?=(kb[i]?).map fun p=> (hsh prog w p.1,.ref p.2):=by unfold dX; rw [List.getElem?_map]
theorem rN (kb:List (List Int×Addr)):(dX prog w kb).map (·.1)=kb.map fun p=> hsh prog w p.1:=by unfold dX; rw [List.map_map]; rfl
theorem TOk.fits {t:SetTable} {hs:List Int} (T:TOk t hs) {n:Nat} (hn:hs.length=n):t.fits n=true:=by
 have h1:=T.n
 have h2:=T.f
 have h3:t.fill=t.place.size:=by unfold fill; rw [T.d]; rfl
 unfold SetTable.fits
 rw [h3]
 simp [h1,hn]
 omega
theorem TOk.gave {t:SetTable} {hs:List Int} (T:TOk t hs):t.gaveWay=false:=by
 obtain ⟨k,h3,hk⟩:=T.k
 unfold SetTable.gaveWay
 obtain ⟨j,rfl⟩:∃ j,k=j+1:=⟨k - 1,by omega⟩
 rw [Nat.pow_succ] at hk
 have:t.mask % 2=1:=by omega
 simp [this]
theorem j9 {S:Addr} {o:Obj} {es:Array (Int×Value)} {ep:Nat} {t:SetTable} {kb:List (List Int×Addr)} {k:List Int} {x:Addr} (hu:A.units < cLine)
  (ho:s.heap.get? S=some o) (hd:o.data=.set es ep t) (he:es.toList=dX prog w kb) (T:TOk t (kb.map fun p=> hsh prog w p.1)) (hkb:∀ p∈kb,TK prog w s.heap p.1 p.2) (hx:TK prog w s.heap k x)
  {N:Nat} (hN:N < 10 * turns t.mask) (h0:¬ Liv t (pth t.mask (hsh prog w k) N).j) (h1:∀ m,m < N→Liv t (pth t.mask (hsh prog w k) m).j) {Q:SetFound→Shared→Prop}
  (qf:(∀ p∈kb,p.1≠k)→Q (.free (pth t.mask (hsh prog w k) N).j false) s) (qt:(∃ p∈kb,p.1=k)→Q (.there none) s):
  ∀ (fuel n:Nat) (stand:Option Probe),n≤N→N - n < fuel→stand.getD (t.probeStart (hsh prog w k))=pth t.mask (hsh prog w k) n→
   (∀ (m i:Nat) (p:List Int×Addr),m < n→t.place[i]?=some (pth t.mask (hsh prog w k) m).j→kb[i]?=some p→p.1≠k)→
   wpAny (model prog w) A (setSearchFrom S (.ref x) (hsh prog w k) true fuel stand) Q E s:=by
 have hsz:es.size=kb.length:=by rw [← Array.length_toList,he]; simp [dX]
 have hfit:t.fits es.size=true:=T.fits (by rw [List.length_map,hsz])
 have eat:∀ i:Nat,es[i]?=(kb[i]?).map fun (p:List Int×Addr)=> (hsh prog w p.1,Value.ref p.2):=fun i=> by rw [← Array.getElem?_toList,he,m7]
 intro fuel
 induction fuel with
 | zero=> intro n stand _ h; omega
 | succ fuel ih=>
  intro n stand hn hf hst hpre
  unfold setSearchFrom
  refine wpAny_bind (wpAny_setState_of ho hd hfit ?_)
  dsimp only
  rw [T.gave]
  simp only [Bool.false_eq_true,if_false]
  rw [hst]
  have hash:∀ (i:Nat) (p:List Int×Addr),kb[i]?=some p→((es[i]?.map (fun (e:Int×Value)=> e.1)).getD 0:Int)=hsh prog w p.1:=fun i p hp=> by rw [eat,hp]; rfl
  have pg:=jK T (fun (i:Nat)=> (es[i]?.map (fun (e:Int×Value)=> e.1)).getD 0) (hsh prog w k) h0 h1 (10 * turns t.mask) n hn (by omega)
  split
  ·rename_i met hmet
   rcases pg with ⟨e,hne⟩ | ⟨m,i,hnm,hmN,hpl,hhi,e,hbef⟩
   ·have q:some met=some (.empty (pth t.mask (hsh prog w k) N).j none):=hmet.symm.trans e
    cases q
    dsimp only
    refine wpAny_pure (qf fun p hp hpk=> ?_)
    obtain ⟨i,hi⟩:=List.mem_iff_getElem?.mp hp
    obtain ⟨m,j,hm,hpl,hj⟩:=qp T (h:=hsh prog w k) h0 (i:=i) (by rw [List.getElem?_map,hi,← hpk]; rfl)
    rcases Nat.lt_or_ge m n with hmn | hmn
    ·exact hpre m i p hmn (by rw [hj]; exact hpl) hi hpk
    ·exact hne m i hmn hm (by rw [hj]; exact hpl) (by rw [hash i p hi,hpk])
   ·have q:some met=some (.candidate (pth t.mask (hsh prog w k) m).j i (pth t.mask (hsh prog w k) (m+1))):=hmet.symm.trans e
    cases q
    dsimp only
    have hik:i < kb.length:=by rw [← hsz,← show t.place.size=es.size by rw [T.n,List.length_map,hsz]]; exact mV hpl
    obtain ⟨p,hp⟩:∃ p,kb[i]?=some p:=⟨_,List.getElem?_eq_getElem hik⟩
    have hpm:p∈kb:=List.mem_of_getElem? hp
    have hei:es[i]?=some (hsh prog w p.1,Value.ref p.2):=by rw [eat,hp]; rfl
    have rest:wpAny (model prog w) A (do
      let equal ← holding [Value.ref p.2] (eqBool (Value.ref p.2) (.ref x))
      let (es',_,t') ← setState S
      if true && equal then return .there none
      let some same:=t'.sameMemory t.moves t.mask | unsupported "set.changed-during-lookup:is-the-new-block-at-the-old-address"
      let still ← match (if same then t'.slot (pth t.mask (hsh prog w k) m).j else .empty) with
       | .live i'=> match es'[i']? with
        | some (_,y')=> do pure (if ← isSame y' (Value.ref p.2) then some i' else none)
        | none=> pure none
       | _=> pure none
      match still with
      | none=> rule "set.search.anew"; setSearchFrom S (.ref x) (hsh prog w k) true fuel none
      | some i'=> if equal then return .there (some i') else setSearchFrom S (.ref x) (hsh prog w k) true fuel (some (pth t.mask (hsh prog w k) (m+1)))) Q E s:=by
     refine wpAny_bind (wpAny_holding (wpAny_eqBool_tuple hu (hkb p hpm) hx ?_))
     refine wpAny_bind (wpAny_setState_of ho hd hfit ?_)
     dsimp only
     by_cases hpk:p.1=k
     ·rw [decide_eq_true hpk]
      simp only [Bool.and_self,if_true]
      exact wpAny_pure (qt ⟨p,hpm,hpk⟩)
     ·rw [decide_eq_false hpk]
      simp only [Bool.and_false,Bool.false_eq_true,if_false]
      have hsm:t.sameMemory t.moves t.mask=some true:=by unfold SetTable.sameMemory; simp
      rw [hsm]
      dsimp only
      rw [if_pos rfl,iI T.R hpl]
      dsimp only
      rw [hei]
      dsimp only
      refine wpAny_bind (wpAny_isSame_ref_self ?_)
      refine wpAny_bind (wpAny_pure ?_)
      simp only [if_true]
      refine ih (m+1) (some (pth t.mask (hsh prog w k) (m+1))) (by omega) (by omega) rfl fun m' i' p' hm' hpl' hp'=> ?_
      rcases Nat.lt_or_ge m' n with z | z
      ·exact hpre m' i' p' z hpl' hp'
      ·rcases Nat.lt_or_eq_of_le (Nat.le_of_lt_succ hm') with y | y
       ·have:=hbef m' i' z y hpl'
        intro e'
        exact this (by rw [hash i' p' hp',e'])
       ·subst y
        have ei:=T.R.inj hpl hpl'
        subst ei
        rw [hp] at hp'
        cases hp'
        exact hpk
    by_cases hled:t.led=true
    ·rw [hled]
     simp only [Bool.not_true,Bool.false_eq_true,if_false]
     rw [hei]
     exact rest
    ·rw [show t.led=false by simpa using hled]
     simp only [Bool.not_false,if_true]
     refine wpAny_bind (lI hx (fun v hv=> ?_) ?_)
     ·obtain ⟨e',he',rfl⟩:=List.mem_map.mp hv
      have hm':e'∈es.toList:=by
       have:=Array.mem_toList_iff.mp he'
       exact Array.mem_toList_iff.mpr (Array.mem_filter.mp this).1
      rw [he] at hm'
      obtain ⟨p',hp',rfl⟩:=List.mem_map.mp hm'
      exact ⟨p'.1,p'.2,rfl,hkb p' hp'⟩
     ·simp only [Bool.false_eq_true,if_false]
      rw [hei]
      exact rest
  ·rename_i hno
   rcases pg with ⟨e,hne⟩ | ⟨m,i,hnm,hmN,hpl,hhi,e,hbef⟩
   ·exact absurd e (hno _)
   ·exact absurd e (hno _)
end
end ST
namespace ST
open PySem PySem.SetTable
section
variable {prog:Program} {w:World} {A:Around} {E:Value→Shared→Prop} {s:Shared}
structure SP (prog:Program) (w:World) (h:Heap) (S:Addr) (kb:List (List Int×Addr)):Prop where
 ex:∃ o es ep t,h.get? S=some o∧o.ExactSet∧o.data=.set es ep t∧es.toList=dX prog w kb∧TOk t (kb.map fun p=> hsh prog w p.1)∧t.led=(!w.params.followText "set-order")∧t.plain=true∧t.tooFull=false∧t.mask < 8 * kb.length+8
 keys:∀ p∈kb,TK prog w h p.1 p.2
 nd:(kb.map (·.1)).Nodup
theorem TK.keep {h h':Heap} {k:List Int} {b S:Addr} {o:Obj} {es ep t} (x:TK prog w h k b) (ho:h.get? S=some o) (hd:o.data=.set es ep t) (hs:Heap.SameBut S h h'):TK prog w h' k b:=by
 obtain ⟨o',items,n,ho',hc,hd',hi⟩:=x
 have hne:b≠S:=by
  rintro rfl
  obtain rfl:o'=o:=Option.some.inj (ho'.symm.trans ho)
  rw [hd] at hd'; exact nomatch hd'
 exact ⟨o',items,n,(hs.2 b hne).trans ho',hc,hd',hi⟩
theorem lT (x:Addr) (es:Array (Int×Value)):byScan (.ref x) es=false:=by simp [byScan,Value.scannable]
theorem j7 {α β:Type} (f:α→β) (xs:List α) (p:Nat) (x:α):(eO xs p x).map f=eO (xs.map f) p (f x):=by
 unfold eO; rw [List.map_append,List.map_cons,List.map_take,List.map_drop]
theorem dB {α:Type} (xs:List α) (p:Nat) (x:α):(eO xs p x).Perm (xs++[x]):=by
 unfold eO
 refine List.perm_middle.trans ?_
 rw [List.take_append_drop]
 exact (List.perm_append_singleton x xs).symm
theorem jZ {α β:Type} {kb:List α} (f:α→β) (d:β):∀ (o:List Nat),(∀ i∈o,i < kb.length)→o.map (fun i=> ((kb.map f).toArray).getD i d)=(o.filterMap fun i=> kb[i]?).map f
 | [],_=> rfl
 | i::o,h=> by
  have hi:=h i List.mem_cons_self
  rw [List.map_cons,List.filterMap_cons,List.getElem?_eq_getElem hi,jZ f d o fun j hj=> h j (List.mem_cons_of_mem _ hj)]
  simp [Array.getD,hi]
theorem n8 {α:Type} {kb:List α} {o:List Nat} (h:o.Perm (List.range kb.length)):(o.filterMap fun i=> kb[i]?).Perm kb:=by
 refine (h.filterMap _).trans ?_
 suffices (List.range kb.length).filterMap (fun i=> kb[i]?)=kb by rw [this]
 have:∀ (l pre:List α),(List.range' pre.length l.length).filterMap (fun i=> (pre++l)[i]?)=l:=by
  intro l
  induction l with
  | nil=> intro pre; rfl
  | cons x l ih=>
   intro pre
   rw [List.length_cons,List.range'_succ,List.filterMap_cons]
   have e:(pre++x::l)[pre.length]?=some x:=by rw [List.getElem?_append_right (Nat.le_refl _)]; simp
   rw [e]
   have:=ih (pre++[x])
   rw [List.append_assoc,List.length_append] at this
   simpa using this
 have q:=this kb []
 simpa [List.range_eq_range'] using q
theorem tE {t:SetTable} {hs:List Int} (T:TOk t hs) (h:t.tooFull=false):t.place.size+1≤t.mask:=by
 obtain ⟨k,h3,hk⟩:=T.k
 have hf:t.fill=t.place.size:=by unfold fill; rw [T.d]; rfl
 have h8:2 ^ 3≤2 ^ k:=Nat.pow_le_pow_right (by decide) h3
 unfold tooFull at h
 rw [hf] at h
 simp at h
 omega
set_option maxHeartbeats 1000000 in
theorem v_ {S:Addr} {o:Obj} {es:Array (Int×Value)} {ep:Nat} {t:SetTable} {kb:List (List Int×Addr)} {Q:Unit→Shared→Prop} (ho:s.heap.get? S=some o) (hex:o.ExactSet) (hd:o.data=.set es ep t) (he:es.toList=dX prog w kb)
  (T:TOk t (kb.map fun p=> hsh prog w p.1)) (hl:t.led=(!w.params.followText "set-order")) (hp:t.plain=true) (hkb:∀ p∈kb,TK prog w s.heap p.1 p.2) (hnd:(kb.map (·.1)).Nodup) (h1:0 < kb.length) (hn:kb.length≤1000)
  (h:∀ h' kb',Heap.SameBut S s.heap h'→SP prog w h' S kb'→kb'.Perm kb→Q () { s with heap:=h' }):wpAny (model prog w) A (setRelay S (grown kb.length)) Q E s:=by
 have hsz:es.size=kb.length:=by rw [← Array.length_toList,he]; simp [dX]
 have hfit:t.fits es.size=true:=T.fits (by rw [List.length_map,hsz])
 have eat:∀ i:Nat,es[i]?=(kb[i]?).map fun (p:List Int×Addr)=> (hsh prog w p.1,Value.ref p.2):=fun i=> by rw [← Array.getElem?_toList,he,m7]
 have hg:grown kb.length=kb.length * 4:=by unfold grown; rw [if_neg (by omega)]
 rw [hg]
 obtain ⟨k,k3,ek,lk,uk⟩:=above (kb.length * 4) (by omega)
 have hmask:(sizeAbove (kb.length * 4) - 1)+1=2 ^ k:=by omega
 obtain ⟨t',order,e,T',hord,em,el,ep',_⟩:=rP k3 hmask (hs:=es.map (·.1)) (by rw [Array.size_map,hsz]; omega) t.finger (t.movedTo (sizeAbove (kb.length * 4) - 1)) t.led t.plain
 have hrel:t.relaid (es.map (·.1)) (kb.length * 4)=some (t',order):=e
 have hord':order.toList.Perm (List.range kb.length):=by rw [Array.size_map,hsz] at hord; exact hord
 have hlt:∀ i∈order.toList,i < kb.length:=fun i hi=> List.mem_range.mp (hord'.mem_iff.mp hi)
 have hpk:=n8 hord'
 have hes:(order.filterMap (fun i=> es[i]?)).toList=dX prog w (order.toList.filterMap fun i=> kb[i]?):=by
  rw [Array.toList_filterMap]
  unfold dX
  rw [List.map_filterMap]
  congr 1
  funext i
  rw [eat]
 have hes2:(order.filterMap (fun i=> es[i]?)).size=es.size:=by
  rw [← Array.length_toList,hes,hsz]
  unfold dX
  rw [List.length_map,hpk.length_eq]
 unfold setRelay
 refine wpAny_bind (wpAny_setState_of ho hd hfit ?_)
 dsimp only
 rw [if_neg (by rw [ek,sizeLine_eq]; omega),hrel]
 have goal:wpAny (model prog w) A (do
   if (order.filterMap (fun i=> es[i]?)).size !=es.size then unsupported "internal:set-table-lost-an-element"
   pure (order.filterMap (fun i=> es[i]?),t'):Sem (Array (Int×Value)×SetTable)) (fun r s'=> wpAny (model prog w) A (storeSet S r.1 r.2) Q E s') E s:=by
  rw [hes2]
  simp only [bne_self_eq_false,Bool.false_eq_true,if_false]
  refine wpAny_pure ?_
  refine wpAny_storeSet_of ho hd ?_ (by rw [hes2,hsz,sizeLine_eq]; omega)
  have hg':(s.heap.update S (Obj.putSet (order.filterMap (fun i=> es[i]?)) t')).get? S=some { o with data:=.set (order.filterMap (fun i=> es[i]?)) (ep+1) t' }:=by
   have:=Heap.get?_update_self (Obj.putSet (order.filterMap (fun i=> es[i]?)) t') ho (by rw [putSet_of _ t' hd]; rfl)
   rw [putSet_of _ t' hd] at this; exact this
  have hsb:=Heap.SameBut.update s.heap S (Obj.putSet (order.filterMap (fun i=> es[i]?)) t')
  refine h _ (order.toList.filterMap fun i=> kb[i]?) hsb ⟨⟨_,_,_,t',hg',hex,rfl,hes,?_,by rw [el]; exact hl,by rw [ep']; exact hp,?_,?_⟩,fun p hp'=> ?_,?_⟩ hpk
  ·have:=jZ (kb:=kb) (fun p=> hsh prog w p.1) 0 order.toList hlt
   rw [← this]
   have e2:(es.map (·.1))=((kb.map fun p=> hsh prog w p.1)).toArray:=by
    apply Array.toList_inj.mp
    rw [Array.toList_map,he,rN]
   rw [e2] at T'
   exact T'
  ·have hf:t'.fill=t'.place.size:=by unfold fill; rw [T'.d]; rfl
   have hn':=T'.n
   rw [List.length_map,hord'.length_eq,List.length_range] at hn'
   unfold tooFull
   rw [hf,hn',em]
   simp
   omega
  ·rw [em,hpk.length_eq]; omega
  ·exact (hkb p (hpk.mem_iff.mp hp')).keep ho hd hsb
  ·exact ((hpk.map (·.1)).nodup_iff).mpr hnd
 exact wpAny_bind goal
end
end ST
namespace ST
open PySem PySem.SetTable
section
variable {prog:Program} {w:World} {A:Around} {E:Value→Shared→Prop} {s:Shared}
set_option maxHeartbeats 1000000 in
theorem kG {S x:Addr} {kb:List (List Int×Addr)} {k:List Int} {Q:Bool→Shared→Prop} (hu:A.units < cLine) (P:SP prog w s.heap S kb) (hx:TK prog w s.heap k x) (hn:kb.length < 1000)
  (h:∀ b h' kb',Heap.SameBut S s.heap h'→SP prog w h' S kb'→(if k∈kb.map (·.1) then kb'=kb else kb'.Perm (kb++[(k,x)]))→Q b { s with heap:=h' }):
  wpAny (model prog w) A (setAddHashed S (.ref x) (hsh prog w k)) Q E s:=by
 obtain ⟨⟨o,es,ep,t,ho,hex,hd,he,T,hl,hp,hfull,hmask⟩,hkb,hnd⟩:=P
 have P0:SP prog w s.heap S kb:=⟨⟨o,es,ep,t,ho,hex,hd,he,T,hl,hp,hfull,hmask⟩,hkb,hnd⟩
 have hsz:es.size=kb.length:=by rw [← Array.length_toList,he]; simp [dX]
 have hfit:t.fits es.size=true:=T.fits (by rw [List.length_map,hsz])
 obtain ⟨N,hN,h0,h1⟩:=lu T (hsh prog w k)
 have hN':N < 100000:=by unfold turns at hN; omega
 unfold setAddHashed setAddHashedIn
 refine wpAny_holding (wpAny_bind (wpAny_setState_of ho hd hfit ?_))
 dsimp only
 rw [lT]
 simp only [Bool.false_eq_true,if_false]
 unfold setSearch
 refine wpAny_bind (j9 hu ho hd he T hkb hx hN h0 h1 (fun hno=> ?_) (fun hyes=> ?_) 100000 0 none (Nat.zero_le _) (by omega) rfl fun m i p hm=> by omega)
 ·dsimp only
  have hk:k ∉ kb.map (·.1):=fun z=> by obtain ⟨p,hp',e⟩:=List.mem_map.mp z; exact hno p hp' e
  refine wpAny_bind (wpAny_setState_of ho hd hfit ?_)
  dsimp only
  generalize hj:(pth t.mask (hsh prog w k) N).j=j at *
  have T1:=T.put (h:=hsh prog w k) (N:=N) (by rw [hj]; exact h0) h1 (by have:=oY (mask:=t.mask) (hsh prog w k) N; omega) (tE T hfull)
  rw [hj] at T1
  have epl:(t.put j).1.plain=true:=hp
  have eled:(t.put j).1.led=(!w.params.followText "set-order"):=hl
  have emask:(t.put j).1.mask=t.mask:=rfl
  generalize (t.put j).1=t1 at *
  generalize (t.put j).2=q at *
  have hlen1:(eO kb q (k,x)).length=kb.length+1:=by rw [(dB kb q (k,x)).length_eq]; simp
  have he1:(insertAt es q (hsh prog w k,Value.ref x)).toList=dX prog w (eO kb q (k,x)):=by
   rw [dm,he]
   unfold dX
   rw [j7]
   rfl
  have hsz1:(insertAt es q (hsh prog w k,Value.ref x)).size=kb.length+1:=by
   rw [← Array.length_toList,he1]; unfold dX; rw [List.length_map,hlen1]
  have T2:TOk t1 ((eO kb q (k,x)).map fun p=> hsh prog w p.1):=by rw [j7]; exact T1
  rw [if_pos epl]
  refine wpAny_bind (vR hx ?_)
  rw [if_pos rfl]
  have hg1:(s.heap.update S (Obj.putSet (insertAt es q (hsh prog w k,Value.ref x)) t1)).get? S=some { o with data:=.set (insertAt es q (hsh prog w k,Value.ref x)) (ep+1) t1 }:=by
   have:=Heap.get?_update_self (Obj.putSet (insertAt es q (hsh prog w k,Value.ref x)) t1) ho (by rw [putSet_of _ t1 hd]; rfl)
   rw [putSet_of _ t1 hd] at this; exact this
  have hsb:=Heap.SameBut.update s.heap S (Obj.putSet (insertAt es q (hsh prog w k,Value.ref x)) t1)
  have hkb1:∀ p∈eO kb q (k,x),TK prog w (s.heap.update S (Obj.putSet (insertAt es q (hsh prog w k,Value.ref x)) t1)) p.1 p.2:=fun p hp'=> by
   have:=(dB kb q (k,x)).mem_iff.mp hp'
   rcases List.mem_append.mp this with z | z
   ·exact (hkb p z).keep ho hd hsb
   ·rw [List.mem_singleton.mp z]; exact hx.keep ho hd hsb
  have hnd1:((eO kb q (k,x)).map (·.1)).Nodup:=by
   rw [((dB kb q (k,x)).map (·.1)).nodup_iff,List.map_append,List.nodup_append]
   refine ⟨hnd,by simp,fun a ha b hb=> ?_⟩
   simp at hb
   subst hb
   rintro rfl
   exact hk ha
  refine wpAny_bind (wpAny_storeSet_of ho hd ?_ (by rw [hsz1,sizeLine_eq]; omega))
  rw [Bool.not_false,Bool.true_and]
  by_cases hft:t1.tooFull=true
  ·rw [if_pos hft,hsz,← hlen1]
   refine wpAny_bind (v_ (s:={ s with heap:=s.heap.update S (Obj.putSet (insertAt es q (hsh prog w k,Value.ref x)) t1) }) hg1 hex rfl he1 T2 eled epl hkb1 hnd1 (by omega) (by omega) fun h' kb' hsb' P' pm=> wpAny_pure ?_)
   exact h true h' kb' (hsb.trans hsb') P' (by rw [if_neg hk]; exact pm.trans (dB kb q (k,x)))
  ·rw [if_neg hft]
   refine wpAny_pure (h true _ (eO kb q (k,x)) hsb ⟨⟨_,_,_,t1,hg1,hex,rfl,he1,T2,eled,epl,by simpa using hft,by rw [emask,hlen1]; omega⟩,hkb1,hnd1⟩ (by rw [if_neg hk]; exact dB kb q (k,x)))
 ·dsimp only
  refine wpAny_pure ?_
  have hk:k∈kb.map (·.1):=by obtain ⟨p,hp',e⟩:=hyes; exact List.mem_map.mpr ⟨p,hp',e⟩
  exact h false s.heap kb (Heap.SameBut.refl S s.heap) P0 (by rw [if_pos hk])
end
end ST
namespace ST
open PySem PySem.SetTable
section
variable {prog:Program} {w:World} {A:Around}
theorem TK.moved {s s':Shared} {wr:List Addr} {G:Array GenState→Array GenState→Prop} {k:List Int} {b:Addr} (x:TK prog w s.heap k b) (hb:b ∉ wr) (m:Moved wr G s s'):TK prog w s'.heap k b:=by
 obtain ⟨o,its,n,ho,hc,hd,hi⟩:=x
 exact ⟨o,its,n,m.heap b o hb ho,hc,hd,hi⟩
theorem SP.moved {s s':Shared} {wr:List Addr} {G:Array GenState→Array GenState→Prop} {S:Addr} {kb:List (List Int×Addr)} (x:SP prog w s.heap S kb) (hS:S ∉ wr) (hb:∀ p∈kb,p.2 ∉ wr) (m:Moved wr G s s'):SP prog w s'.heap S kb:=by
 obtain ⟨⟨o,es,ep,t,ho,r⟩,hk,hn⟩:=x
 exact ⟨⟨o,es,ep,t,m.heap S o hS ho,r⟩,fun p hp=> (hk p hp).moved (hb p hp) m,hn⟩
structure Got (kx:Nat→List Int×Addr) (i:Nat) (kb:List (List Int×Addr)):Prop where
 src:∀ p∈kb,∃ j,j < i∧p=kx j
 all:∀ j,j < i→(kx j).1∈kb.map (·.1)
 len:kb.length≤i
variable {R:Result→Shared→Prop} {I:Addr} {fp wr:List Addr} {G:Array GenState→Array GenState→Prop} {n:Nat} {P:Nat→Value→Prop} {St:Nat→Shared→Prop}
set_option maxHeartbeats 1000000 in
theorem qi (W:WalksS prog w A.in1 I fp wr G n P St) (hu:A.in1.units < cLine) {S:Addr} (hSf:S ∉ fp) (kx:Nat→List Int×Addr) (hP:∀ i v,P i v→v=.ref (kx i).2) (hwr:∀ i,i < n→(kx i).2 ∉ wr) (hn:n≤1000):
  ∀ (k i:Nat) (s:Shared) (kb:List (List Int×Addr)),n - i=k→i≤n→St i s→SP prog w s.heap S kb→Got kx i kb→(∀ j,j < n→TK prog w s.heap (kx j).1 (kx j).2)→
   (∀ s' kb',Moved (S::wr) G s s'→SP prog w s'.heap S kb'→Got kx n kb'→R (.ok (.ret .none)) s')→
   codeAny (model prog w) A (.builtin "set.update.loop" ⟨[.ref S,.ref I],[]⟩) R s:=by
 have hSw:S ∉ wr:=fun h=> hSf (W.sub _ h)
 have more:∀ b∈wr,b∈S::wr:=fun b hb=> List.mem_cons_of_mem _ hb
 intro k
 induction k with
 | zero=>
  intro i s kb hk hi st hS g tk hR
  obtain rfl:i=n:=by omega
  refine codeAny_builtin PyProof.Rows.F.entry_set_update_loop ?_
  rw [Around.under_plainId PyProof.Rows.F.plain_set_update_loop _]
  show wpAny _ A.in1 (pyNext (.ref I) >>=_) _ _ s
  refine wpAny_bind (W.done s _ _ st fun s' m=> ?_)
  exact wpAny_pure (hR s' kb (m.mono more) (hS.moved hSw (fun p hp=> by obtain ⟨j,hj,rfl⟩:=g.src p hp; exact hwr j hj) m) g)
 | succ k ih=>
  intro i s kb hk hi st hS g tk hR
  have hlt:i < n:=by omega
  have hkb:∀ p∈kb,p.2 ∉ wr:=fun p hp=> by obtain ⟨j,hj,rfl⟩:=g.src p hp; exact hwr j (by omega)
  refine codeAny_builtin PyProof.Rows.F.entry_set_update_loop ?_
  rw [Around.under_plainId PyProof.Rows.F.plain_set_update_loop _]
  show wpAny _ A.in1 (pyNext (.ref I) >>=_) _ _ s
  refine wpAny_bind (W.item i s _ _ hlt st fun v s1 pv st1 m=> ?_)
  obtain rfl:=hP i v pv
  have hS1:=hS.moved hSw hkb m
  have tk1:∀ j,j < n→TK prog w s1.heap (kx j).1 (kx j).2:=fun j hj=> (tk j hj).moved (hwr j hj) m
  show wpAny _ A.in1 (holding [Value.ref (kx i).2] (setAdd S (.ref (kx i).2)) >>=_) _ _ s1
  refine wpAny_bind (wpAny_holding ?_)
  unfold setAdd
  refine wpAny_holding (wpAny_bind (wpAny_pyHash_tuple hu (tk1 i hlt) ?_))
  refine kG (s:={ s1 with toks:=s1.toks+((kx i).1.length+1) }) hu hS1 (tk1 i hlt) (by have:=g.len; omega) fun b h' kb' sb hS2 hkk=> ?_
  obtain ⟨⟨o,es,ep,t,ho,hex,hd,hrest⟩,hks,hnd⟩:=hS1
  have same:∀ b o,b ∉ S::wr→s1.heap.get? b=some o→h'.get? b=some o:=fun b o hb e=> by rw [sb.2 b (fun z=> hb (by rw [z]; exact List.mem_cons_self))]; exact e
  refine wpAny_pure ⟨plainId_quiet PyProof.Rows.F.plain_set_update_loop _,ih (i+1) _ kb' (by omega) hlt (W.frame _ s1 _ _ st1 (by show s1.toks≤s1.toks+_; omega) fun b hb o e=> ?_) hS2 ?_ (fun j hj=> (tk1 j hj).keep ho hd sb) fun s2 kb2 m2 hS3 g2=> ?_⟩
  ·rw [sb.2 b (fun z=> hSf (by rw [← z]; exact hb))]; exact e
  ·by_cases hin:(kx i).1∈kb.map (·.1)
   ·rw [if_pos hin] at hkk
    subst hkk
    refine ⟨fun p hp=> ?_,fun j hj=> ?_,by have:=g.len; omega⟩
    ·obtain ⟨j,hj,e⟩:=g.src p hp; exact ⟨j,by omega,e⟩
    ·rcases Nat.lt_or_eq_of_le (Nat.le_of_lt_succ hj) with z | z
     ·exact g.all j z
     ·rw [z]; exact hin
   ·rw [if_neg hin] at hkk
    refine ⟨fun p hp=> ?_,fun j hj=> ?_,by rw [hkk.length_eq]; have:=g.len; simp; omega⟩
    ·rcases List.mem_append.mp (hkk.mem_iff.mp hp) with z | z
     ·obtain ⟨j,hj,e⟩:=g.src p z; exact ⟨j,by omega,e⟩
     ·exact ⟨i,Nat.lt_succ_self i,by rw [List.mem_singleton.mp z]⟩
    ·rw [(hkk.map (·.1)).mem_iff,List.map_append]
     rcases Nat.lt_or_eq_of_le (Nat.le_of_lt_succ hj) with z | z
     ·exact List.mem_append_left _ (g.all j z)
     ·rw [z]; exact List.mem_append_right _ (by simp)
  ·exact hR s2 kb2 (Moved.trans W.gtrans ((m.mono more).then_heap (by show s1.toks≤s1.toks+_; omega) same) m2) hS3 g2
end
section
variable {prog:Program} {w:World} {A:Around} {E:Value→Shared→Prop} {s:Shared}
abbrev bJ (w:World):Obj:={ cls:=.type "set",dict:=none,data:=.set #[] 0 (.fresh 0 0 (!w.params.followText "set-order")) }
theorem pU:TOk (.fresh 0 0 (!w.params.followText "set-order")) [] where
 R:=by intro i j x y _ h; simp [SetTable.fresh] at h
 d:=rfl
 k:=⟨3,by decide,rfl⟩
 n:=rfl
 f:=by show 0≤7; decide
 le:=by intro i x h; simp [SetTable.fresh] at h
 reach:=by intro i x h hi; simp [SetTable.fresh] at hi
theorem pL {h:Heap} {S:Addr} (e:h.get? S=some (bJ w)):SP prog w h S []:=by
 refine ⟨⟨_,_,_,_,e,⟨rfl,rfl,rfl⟩,rfl,rfl,pU,rfl,rfl,by simp [SetTable.tooFull,SetTable.fresh,SetTable.fill],by show 7 < 8; decide⟩,fun p hp=> by simp at hp,by simp⟩
theorem sr (a:Value) {Q:Value→Shared→Prop} (h:Q (.ref s.heap.objs.size) { s with heap:=s.heap.push (bJ w) }):
  codeAny (model prog w) A (.call (.builtin "set.__new__") ⟨[.type "set",a],[]⟩) (wants Q E) s:=by
 refine codeAny_of_tree ?_
 show wpAny _ A.in1 (do checkBuiltinCall "set.__new__" ⟨[.type "set",a],[]⟩; again (.builtin "set.__new__" ⟨[.type "set",a],[]⟩)) _ _ s
 refine wpAny_bind (wpAny_of_eq (PySem.F.newCall_set_1 a) (wpAny_pure ⟨plainId_quiet PySem.F.plain_set_new _,codeAny_builtin PySem.F.entry_set_new ?_⟩))
 rw [Around.under_plainId PySem.F.plain_set_new _]
 unfold Builtin.«set.__new__» Builtin.Frozenset.newClass
 have hsub:=sub_set_self
 obtain ⟨hp,g,d,tk,os⟩:=s
 dsimp only
 wp_walk
 refine wpAny_askSetting (wpAny_pure ?_)
 dsimp only
 simp only [newObj]
 exact wpAny_bind (wpAny_alloc (wpAny_pure (wpAny_pure h)))
end
end ST
namespace ST
open PySem PySem.SetTable
section
variable {prog:Program} {w:World} {A:Around} {E:Value→Shared→Prop} {s:Shared}
set_option maxRecDepth 100000 in
set_option maxHeartbeats 3200000 in
theorem call_set_pts {l:Addr} {items:Array Value} {Q:Value→Shared→Prop} (kx:Nat→List Int×Addr) (hh:A.handled=none) (hu:A.in1.in1.in1.units < cLine) (hl:s.heap.IsList l items)
  (hit:∀ (i:Nat) (v:Value),items[i]?=some v→v=.ref (kx i).2) (htk:∀ i,i < items.size→TK prog w s.heap (kx i).1 (kx i).2) (hn:items.size≤1000)
  (h:∀ (h':Heap) (tk:Nat) (kb:List (List Int×Addr)),SP prog w h' s.heap.objs.size kb→Got kx items.size kb→(∀ b o,s.heap.get? b=some o→h'.get? b=some o)→Q (.ref s.heap.objs.size) { s with heap:=h',toks:=tk }):
  wpAny (model prog w) A (call (.type "set") [.ref l]) Q E s:=by
 obtain ⟨cc,tl,hmro⟩:=PySem.F.called_set.mro
 have hmade:=PySem.F.called_set.made
 have hsub:=PySem.F.called_set.sub
 refine wpAny_call (codeAny_of_tree ?_)
 show wpAny _ _ (callAny (.type "set") _) _ _ _
 refine wpAny_pure ⟨Code.quiet_builtin _ (by decide+kernel),codeAny_builtin PySem.F.entry_type_call ?_⟩
 rw [Around.under_plain (weight_type_call_type "set" [.ref l] []) rfl]
 have g1:=PySem.F.called_set.notType
 have g2:=PySem.F.called_set.canCreate
 have g3:=PySem.F.typeCall_set_1 (.ref l)
 repeat (any_goals (first | assumption | wp_step))
 refine codeAny_mono (sr (w:=w) (.ref l) (E:=E) (Q:=fun obj s₁=> obj=.ref s.heap.objs.size∧s₁={ s with heap:=s.heap.push (bJ w) }) ⟨rfl,rfl⟩) fun r s₁ hr=> ?_
 cases r with
 | error e=> exact hr
 | ok fl=>
  cases fl with
  | ret obj=>
   obtain ⟨rfl,rfl⟩:=hr
   have hS:(s.heap.push (bJ w)).get? s.heap.objs.size=some (bJ w):=Heap.get?_push_size _ rfl
   have hT:Shared.TypeIs { s with heap:=s.heap.push (bJ w) } (.ref s.heap.objs.size) "set":=⟨_,hS,rfl⟩
   have hli:=PySem.F.called_set.init.lookup
   have hbi:=PySem.F.called_set.init.bind (.ref s.heap.objs.size)
   repeat (any_goals (first | assumption | wp_step))
   refine codeAny_mono (codeAny_call_builtin (R:=wants (fun r s₂=> r=.none∧∃ h' tk kb,s₂={ s with heap:=h',toks:=tk }∧
     SP prog w h' s.heap.objs.size kb∧Got kx items.size kb∧(∀ b o,s.heap.get? b=some o→h'.get? b=some o)) E) PySem.F.called_set.init.plain PySem.F.entry_set_init (check_set_init_1 hT ?_)) fun r₂ s₂ hr₂=> ?_
   ·obtain ⟨ol,hol,hcl,nl,hdl⟩:=hl
    obtain ⟨ocls,odict,odata,oslots⟩:=ol
    simp only at hcl hdl
    subst hcl; subst hdl
    have hol':(s.heap.push (bJ w)).get? l=some { cls:=.type "list",dict:=odict,data:=.seq items nl,slots:=oslots }:=Heap.get?_push_of_some _ hol
    have k1:=PySem.F.sub_list_set
    have k2:=PySem.F.sub_list_frozenset
    have k3:(Value.type "list"==Value.type "dict")=false:=by decide
    have hl1:(s.heap.push (bJ w)).IsList l items:=⟨_,hol',rfl,nl,rfl⟩
    unfold Builtin.«set.__init__» noKeywords Builtin.Frozenset.updateFrom
    generalize hPI:pyIter=PI
    wp_walk
    subst hPI
    refine wpAny_pyIter_list hl1 (wpAny_bind (wpAny_runValue ?_))
    have hlS:l < s.heap.objs.size:=Heap.lt_size hol
    have h3:A.in1.in1.in1.handled=none:=by simp [hh]
    have szI:(s.heap.push (bJ w)).objs.size=s.heap.objs.size+1:=Heap.size_push ..
    have hneI:l≠(s.heap.push (bJ w)).objs.size:=by rw [szI]; exact Nat.ne_of_lt (Nat.lt_succ_of_lt hlS)
    have hSf:s.heap.objs.size ∉ [(s.heap.push (bJ w)).objs.size,l]:=by
     rw [szI]
     intro z
     rcases List.mem_cons.mp z with z | z
     ·exact absurd z (Nat.ne_of_lt (Nat.lt_succ_self _))
     ·exact absurd (List.mem_singleton.mp z) (Nat.ne_of_gt hlS)
    refine qi ((Walks.list h3 _ l hneI items).toS) hu hSf kx hit (fun i hi=> ?_) hn (items.size - 0) 0 _ [] (by omega) (Nat.zero_le _)
     ⟨⟨_,Heap.get?_push_size _ rfl,rfl,rfl⟩,(hl1.push _)⟩ ?_ ⟨fun p hp=> by simp at hp,fun j hj=> by omega,by simp⟩ (fun j hj=> ?_) fun s' kb m hS' g=> ?_
    ·intro z
     have z':=List.mem_singleton.mp z
     obtain ⟨o,_,_,ho,_⟩:=htk i hi
     have:=Heap.lt_size ho
     rw [z',szI] at this
     exact Nat.lt_irrefl _ (Nat.lt_trans (Nat.lt_succ_self _) this)
    ·exact pL (Heap.get?_push_of_some _ hS)
    ·obtain ⟨o,its,k,ho,r⟩:=htk j hj
     exact ⟨o,its,k,Heap.get?_push_of_some _ (Heap.get?_push_of_some _ ho),r⟩
    ·obtain ⟨h',g',d',tk',os'⟩:=s'
     obtain rfl:g'=s.gens:=m.gens
     obtain rfl:d'=s.drawn:=m.drawn
     obtain rfl:os'=s.os:=m.os
     refine wpAny_pure ?_
     show wpAny _ _ (ret Value.none) _ _ _
     refine wpAny_pure ⟨rfl,h',tk',kb,rfl,hS',g,fun b o e=> ?_⟩
     have hb:=Heap.lt_size e
     refine m.heap b o (fun z=> ?_) (Heap.get?_push_of_some _ (Heap.get?_push_of_some _ e))
     rcases List.mem_cons.mp z with z | z
     ·exact absurd z (Nat.ne_of_lt hb)
     ·have z':=List.mem_singleton.mp z
      rw [z',szI] at hb
      exact Nat.lt_irrefl _ (Nat.lt_trans (Nat.lt_succ_self _) hb)
   ·cases r₂ with
    | error e=> exact hr₂
    | ok fl₂=>
     cases fl₂ with
     | ret r=>
      obtain ⟨rfl,h',tk,kb,rfl,hS',g,hk'⟩:=hr₂
      repeat (any_goals (first | assumption | wp_step))
      exact h _ _ kb hS' g hk'
     | _=> exact hr₂.elim
  | _=> exact hr.elim
end
end ST
namespace ST
open PySem PySem.SetTable
theorem cW:Slot "set_iterator" "__next__" "set_iterator.__next__":=
 .of (owner:="set_iterator") (n:="__next__") (by rw [typeLookup_type,builtinLookup_eq_fast]; kernel_rfl) (by decide+kernel) (by decide+kernel) (by decide+kernel) (by first | exact .inl (by decide+kernel) | exact .inr (by decide+kernel)) (by rw [isSubtype_type]; kernel_rfl)
theorem g8:entryFor table "set_iterator.__next__"=some Builtin.«set_iterator.__next__»:=entryFor_of_tree (by kernel_rfl)
theorem iD (a:Value):argsOk "set_iterator.__next__" ⟨[a],[]⟩:=by unfold argsOk; kernel_rfl
theorem ly:entryFor table "set.__iter__"=some Builtin.«frozenset.__iter__»:=entryFor_alias (id':="frozenset.__iter__") (by kernel_rfl) rfl (by decide+kernel) (by kernel_rfl)
theorem lN {α:Type} {l:List α} {i:Nat} (h:i < l.length):(l[i]::l.eraseIdx i).Perm l:=by
 rw [List.eraseIdx_eq_take_drop_succ]
 refine List.perm_middle.symm.trans ?_
 rw [← List.drop_eq_getElem_cons h,List.take_append_drop]
theorem mF {α:Type} (next:Nat→Nat):∀ (fuel k:Nat) (left:List α) (out:Array α),left.length=fuel→(pickOrder.go next fuel k left out).toList.Perm (out.toList++left)
 | 0,k,left,out,h=> by
  obtain rfl:left=[]:=List.length_eq_zero_iff.mp h
  rw [pickOrder.go,List.append_nil]
 | fuel+1,k,left,out,h=> by
  have hi:next k % left.length < left.length:=Nat.mod_lt _ (by omega)
  rw [pickOrder.go,List.getElem?_eq_getElem hi]
  refine (mF next fuel (k+1) _ _ (by rw [List.length_eraseIdx_of_lt hi]; omega)).trans ?_
  rw [Array.toList_push,List.append_assoc]
  refine List.Perm.append_left _ ?_
  rw [List.singleton_append]
  exact lN hi
theorem qv {α:Type} (next:Nat→Nat) (xs:Array α):(pickOrder next xs).toList.Perm xs.toList:=by
 unfold pickOrder
 have:=mF next xs.size 0 xs.toList #[] (by simp)
 simpa using this
section
variable {prog:Program} {w:World} {A:Around} {E:Value→Shared→Prop} {s:Shared}
def bP (w:World) (S:Addr) (es:Array (Int×Value)) (ep:Nat):List Value:=(if w.params.followText "set-order"=true then pickOrder (w.params.setOrder S ep) es else es).toList.map (·.2)
theorem dF (w:World) (S:Addr) (es:Array (Int×Value)) (ep:Nat):(bP w S es ep).Perm (es.toList.map (·.2)):=by
 unfold bP
 refine List.Perm.map _ ?_
 split
 ·exact qv _ es
 ·exact List.Perm.refl _
def et (t:SetTable):Nat→Nat
 | 0=> 0
 | j+1=> t.place.getD j 0+1
def aM (w:World) (t:SetTable) (i:Nat):Nat:=if w.params.followText "set-order"=true then 0 else et t i
def lM (w:World) (h:Heap) (it S:Addr) (t:SetTable) (i n ep:Nat):Prop:=∃ o,h.get? it=some o∧o.cls=.type "set_iterator"∧o.data=.fields #[rawInt (aM w t i),rawInt i,.ref S,rawInt n,rawInt ep]
theorem lM.ty {it S:Addr} {t:SetTable} {i n ep:Nat} (x:lM w s.heap it S t i n ep):s.TypeIs (.ref it) "set_iterator":=let ⟨o,ho,hc,_⟩:=x; ⟨o,ho,hc⟩
structure SO (prog:Program) (w:World) (o:Obj) (es:Array (Int×Value)) (ep:Nat) (t:SetTable) (hs:List Int):Prop where
 ex:o.ExactSet
 d:o.data=.set es ep t
 T:TOk t hs
 n:hs.length=es.size
 led:t.led=(!w.params.followText "set-order")
 plain:t.plain=true
theorem o9 {S:Addr} {o:Obj} {es ep t hs} {Q:Bool→Shared→Prop} (O:SO prog w o es ep t hs) (ho:s.heap.get? S=some o) (h:Q false s):wpAny (model prog w) A (setDrawn S) Q E s:=by
 unfold setDrawn setsByText
 refine wpAny_bind (wpAny_setState_of ho O.d (O.T.fits O.n) (wpAny_bind (wpAny_bind (wpAny_askSetting (wpAny_pure (wpAny_pure ?_))))))
 have q:Q (!w.params.followText "set-order" && (!t.plain && decide (es.size > 1))) s:=by rw [O.plain]; simpa using h
 exact q
theorem qX {S:Addr} {o:Obj} {es ep t hs} {Q:Value→Shared→Prop} (O:SO prog w o es ep t hs) (ho:s.heap.get? S=some o)
  (hQ:Q (.ref s.heap.objs.size) { s with heap:=s.heap.push { cls:=.type "set_iterator",data:=.fields #[rawInt 0,rawInt 0,.ref S,rawInt es.size,rawInt ep] } }):wpAny (model prog w) A (pyIter (.ref S)) Q E s:=by
 have hT:s.TypeIs (.ref S) "set":=⟨o,ho,O.ex.1⟩
 refine wpAny_pyIter_slot hT PySem.F.slot_set_iter (wpAny_call_entry PySem.F.slot_set_iter hT ly ?_ (PySem.F.args_set_iter_1 _))
 unfold Builtin.«frozenset.__iter__»
 show wpAny _ _ (Builtin.Frozenset.sizeOf S >>=_) _ _ s
 unfold Builtin.Frozenset.sizeOf
 refine wpAny_bind (wpAny_bind (wpAny_setEntries_of ho O.d (O.T.fits O.n) (wpAny_pure ?_)))
 refine wpAny_bind (o9 O ho ?_)
 simp only [Bool.false_eq_true,if_false]
 refine wpAny_bind (wpAny_pure ?_)
 refine wpAny_bind (wpAny_setEpoch_of ho O.d (O.T.fits O.n) ?_)
 refine wpAny_bind (wpAny_newObj_type (wpAny_pure ⟨_,rfl,"set_iterator",_,⟨_,Heap.get?_push_size _ rfl,rfl⟩,cW.lookup,?_⟩))
 exact hQ
theorem lZ {t:SetTable} {hs:List Int} (T:TOk t hs) {i:Nat} (hi:i≤t.place.size):below t.place (et t i)=i:=by
 obtain ⟨h1,h2,h3⟩:=dM T.R (et t i)
 cases i with
 | zero=>
  dsimp only [et] at *
  rcases Nat.eq_zero_or_pos (below t.place 0) with z | z
  ·exact z
  ·have:=h1 0 _ z (di (by omega)); omega
 | succ j=>
  dsimp only [et] at *
  have hj:j < t.place.size:=by omega
  have ej:t.place.getD j 0=t.place[j]:=by simp [Array.getD,hj]
  rw [ej] at h1 h2 h3 ⊢
  generalize hb:below t.place (t.place[j]+1)=b at *
  rcases Nat.lt_trichotomy b (j+1) with z | z | z
  ·have:=h2 j t.place[j] (by omega) (di hj); omega
  ·exact z
  ·have q:=h1 (j+1) _ z (di (by omega))
   have:=T.R j (j+1) _ _ (by omega) (di hj) (di (show j+1 < t.place.size by omega))
   omega
theorem gB {S:Addr} {o:Obj} {es ep t hs} {i:Nat} {Q:Option (Value×Nat)→Shared→Prop} (O:SO prog w o es ep t hs) (ho:s.heap.get? S=some o) (hi:i≤es.size)
  (h:Q (((bP w S es ep)[i]?).map fun v=> (v,aM w t (i+1))) s):wpAny (model prog w) A (setNext S (aM w t i) i ep) Q E s:=by
 have hfit:=O.T.fits O.n
 have hpl:t.place.size=es.size:=by rw [O.T.n,O.n]
 unfold setNext setsByText
 refine wpAny_bind (wpAny_setState_of ho O.d hfit (wpAny_bind (wpAny_bind (wpAny_askSetting (wpAny_pure ?_)))))
 by_cases bt:w.params.followText "set-order"=true
 ·dsimp only
  rw [show (model prog w).w.params.followText "set-order"=true from bt,if_pos rfl,if_neg (by simp)]
  unfold setWalk setsByText
  refine wpAny_bind (wpAny_bind (wpAny_setState_of ho O.d hfit (wpAny_bind (wpAny_bind (wpAny_askSetting (wpAny_pure ?_))))))
  dsimp only
  rw [show (model prog w).w.params.followText "set-order"=true from bt,if_pos rfl]
  refine wpAny_bind (wpAny_askSetting (wpAny_pure (wpAny_pure ?_)))
  have e:Option.map (fun (e:Int×Value)=> (e.2,aM w t i)) (pickOrder (w.params.setOrder S ep) es)[i]?=((bP w S es ep)[i]?).map fun v=> (v,aM w t (i+1)):=by
   unfold bP aM
   rw [if_pos bt,if_pos bt,if_pos bt,List.getElem?_map,Array.getElem?_toList,Option.map_map]
   rfl
  have q:Q (Option.map (fun (e:Int×Value)=> (e.2,aM w t i)) (pickOrder (w.params.setOrder S ep) es)[i]?) s:=by rw [e]; exact h
  exact q
 ·have bf:w.params.followText "set-order"=false:=by simpa using bt
  dsimp only
  rw [show (model prog w).w.params.followText "set-order"=false from bf,if_neg (by simp)]
  have e1:aM w t i=et t i:=by unfold aM; rw [if_neg bt]
  have e2:below t.place (aM w t i)=i:=by rw [e1]; exact lZ O.T (by omega)
  have e3:(match es[below t.place (aM w t i)]?,t.place[below t.place (aM w t i)]? with
    | some (_,x),some j=> some (x,j+1)
    | _,_=> none)=((bP w S es ep)[i]?).map fun v=> (v,aM w t (i+1)):=by
   rw [e2]
   unfold bP aM
   rw [if_neg bt,if_neg bt,List.getElem?_map,Array.getElem?_toList]
   rcases Nat.lt_or_ge i es.size with z | z
   ·have z':i < t.place.size:=by omega
    simp [z,z',Array.getD,et]
   ·have z':t.place.size≤i:=by omega
    simp [z,z']
  split
  ·rename_i hc
   exact absurd (show (!t.plain && decide (es.size > 1))=true from hc) (by rw [O.plain]; simp)
  ·refine wpAny_bind ?_
   show wpAny _ _ (if (!t.led && !es.isEmpty)=true then unsupported "set:maker-not-led" else pure ()) _ _ _
   rw [O.led,bf,if_neg (by simp)]
   refine wpAny_pure (wpAny_pure ?_)
   have q:Q (match es[below t.place (aM w t i)]?,t.place[below t.place (aM w t i)]? with
    | some (_,x),some j=> some (x,j+1)
    | _,_=> none) s:=by rw [e3]; exact h
   exact q
set_option maxHeartbeats 1000000 in
theorem nO {S it:Addr} {o:Obj} {es ep t hs} {i:Nat} {v:Value} {Q:Option Value→Shared→Prop} (O:SO prog w o es ep t hs) (ho:s.heap.get? S=some o) (hit:lM w s.heap it S t i es.size ep) (hv:(bP w S es ep)[i]?=some v)
  (hQ:∀ h',lM w h' it S t (i+1) es.size ep→Heap.SameBut it s.heap h'→Q (some v) { s with heap:=h' }):wpAny (model prog w) A (pyNext (.ref it)) Q E s:=by
 obtain ⟨oi,hoi,hc,hd⟩:=id hit
 have hfit:=O.T.fits O.n
 unfold pyNext
 refine wpAny_bind (wpAny_attempt (wpAny_callSpecial?_slot (name:=Str.ofString "__next__") hit.ty cW (wpAny_call_entry cW hit.ty g8 ?_ (iD _))))
 unfold Builtin.«set_iterator.__next__»
 refine wpAny_bind (m:=slotArgs "__next__" 0 _) (wpAny_pure ?_)
 dsimp only
 refine wpAny_bind (wpAny_fieldsOf hoi hd ?_)
 dsimp only [rawInt]
 refine wpAny_bind (wpAny_setEntries_of ho O.d hfit ?_)
 rw [if_neg (by simp)]
 have hlt:i < es.size:=by
  have q:=(List.getElem?_eq_some_iff.mp hv).1
  rw [(dF w S es ep).length_eq,List.length_map,Array.length_toList] at q
  exact q
 rw [show ((aM w t i:Nat):Int).toNat=aM w t i from Int.toNat_natCast _,show ((i:Nat):Int).toNat=i from Int.toNat_natCast _,show ((ep:Nat):Int).toNat=ep from Int.toNat_natCast _]
 refine wpAny_bind (gB O ho (Nat.le_of_lt hlt) ?_)
 rw [hv]
 dsimp only [Option.map]
 refine wpAny_bind (wpAny_setField hoi hd (by simp) ?_)
 have g1:=Heap.get?_update_self (Obj.mapFields (·.setIfInBounds 0 (Value.int ((aM w t (i+1):Nat):Int) 0))) hoi (Obj.isFreed_of_fields (Obj.data_mapFields hd _))
 refine wpAny_bind (wpAny_setField g1 (Obj.data_mapFields hd _) (by simp) ?_)
 refine wpAny_pure ⟨_,rfl,wpAny_pure (hQ _ ?_ ((Heap.SameBut.update ..).trans (Heap.SameBut.update ..)))⟩
 refine ⟨_,Heap.get?_update_self _ g1 (Obj.isFreed_of_fields (Obj.data_mapFields (Obj.data_mapFields hd _) _)),(Obj.cls_mapFields ..).trans ((Obj.cls_mapFields ..).trans hc),?_⟩
 rw [Obj.data_mapFields (Obj.data_mapFields hd _)]
 simp [rawInt]
set_option maxHeartbeats 1000000 in
theorem rh {S it:Addr} {o:Obj} {es ep t hs} {Q:Option Value→Shared→Prop} (hh:A.handled=none) (O:SO prog w o es ep t hs) (ho:s.heap.get? S=some o) (hit:lM w s.heap it S t es.size es.size ep)
  (hQ:∀ h',Heap.ExtBut it s.heap h'→Q none { s with heap:=h' }):wpAny (model prog w) A (pyNext (.ref it)) Q E s:=by
 obtain ⟨oi,hoi,hc,hd⟩:=id hit
 have hfit:=O.T.fits O.n
 unfold pyNext
 refine wpAny_bind (wpAny_attempt (wpAny_callSpecial?_slot (name:=Str.ofString "__next__") hit.ty cW (wpAny_call_entry cW hit.ty g8 ?_ (iD _))))
 unfold Builtin.«set_iterator.__next__»
 refine wpAny_bind (m:=slotArgs "__next__" 0 _) (wpAny_pure ?_)
 dsimp only
 refine wpAny_bind (wpAny_fieldsOf hoi hd ?_)
 dsimp only [rawInt]
 refine wpAny_bind (wpAny_setEntries_of ho O.d hfit ?_)
 rw [if_neg (by simp)]
 rw [show ((aM w t es.size:Nat):Int).toNat=aM w t es.size from Int.toNat_natCast _,show ((es.size:Nat):Int).toNat=es.size from Int.toNat_natCast _,show ((ep:Nat):Int).toNat=ep from Int.toNat_natCast _]
 refine wpAny_bind (gB O ho (Nat.le_refl _) ?_)
 rw [show (bP w S es ep)[es.size]?=none from List.getElem?_eq_none (by rw [(dF w S es ep).length_eq,List.length_map,Array.length_toList]; exact Nat.le_refl _)]
 dsimp only [Option.map]
 refine wpAny_bind (wpAny_setField hoi hd (by simp) ?_)
 refine wpAny_bind ?_
 simp only [newExc,newTuple]
 refine wpAny_bind (wpAny_newObj_type ?_ (by size_fits))
 refine wpAny_bind (m:=firstArgMember _ _) (wpAny_of_eq (a:=Value.none) (by first | rfl | (simp only [firstArgMember]; rfl)) ?_)
 refine wpAny_newObj_type ?_ (by size_fits)
 simp only [raiseNew]
 refine wpAny_bind (wpAny_handled ?_)
 rw [show A.in1.handled=none from hh]
 refine wpAny_bind (wpAny_pure (wpAny_throw ?_))
 refine wpAny_bind (wpAny_isInstance (T:="StopIteration") (b:=true) ⟨_,Heap.get?_push_size _ rfl,rfl⟩ isSubtype_stop ?_)
 exact wpAny_pure (hQ _ (((Heap.SameBut.update ..).extBut.push _).push _))
end
end ST
namespace ST
open PySem PySem.SetTable PySem.W
theorem iM:Slot "set_iterator" "__iter__" "set_iterator.__iter__":=
 .of (owner:="set_iterator") (n:="__iter__") (by rw [typeLookup_type,builtinLookup_eq_fast]; kernel_rfl) (by decide+kernel) (by decide+kernel) (by decide+kernel) (by first | exact .inl (by decide+kernel) | exact .inr (by decide+kernel)) (by rw [isSubtype_type]; kernel_rfl)
theorem kH:entryFor table "set_iterator.__iter__"=some Builtin.«dict_keyiterator.__iter__»:=entryFor_alias (id':="dict_keyiterator.__iter__") (by kernel_rfl) rfl (by decide+kernel) (by kernel_rfl)
theorem oO (a:Value):argsOk "set_iterator.__iter__" ⟨[a],[]⟩:=by unfold argsOk; kernel_rfl
section
variable {prog:Program} {w:World} {A:Around} {E:Value→Shared→Prop} {s:Shared}
theorem sq {it S:Addr} {t:SetTable} {i n ep:Nat} {Q:Value→Shared→Prop} (hit:lM w s.heap it S t i n ep) (h:Q (.ref it) s):wpAny (model prog w) A (pyIter (.ref it)) Q E s:=by
 refine wpAny_pyIter_slot hit.ty iM (wpAny_call_entry iM hit.ty kH ?_ (oO _))
 exact wpAny_pure ⟨_,rfl,"set_iterator",_,hit.ty,cW.lookup,h⟩
theorem ou (hh:A.handled=none) {it S:Addr} (hne:S≠it) {o:Obj} {es ep t hs} (O:SO prog w o es ep t hs):
  Walks prog w A it [it,S] [it] es.size (fun i v=> (bP w S es ep)[i]?=some v) (fun i h=> lM w h it S t i es.size ep∧h.get? S=some o) where
 sub:=fun b hb=> by simp at hb; simp [hb]
 frame:=fun _ _ _ st hk=> ⟨let ⟨x,hx,r⟩:=st.1; ⟨x,hk it (by simp) x hx,r⟩,hk S (by simp) o st.2⟩
 item:=fun i s Q E hi st hQ=> by
  obtain ⟨v,hv⟩:∃ v,(bP w S es ep)[i]?=some v:=⟨_,List.getElem?_eq_getElem (by rw [(dF w S es ep).length_eq,List.length_map,Array.length_toList]; exact hi)⟩
  refine nO O st.2 st.1 hv fun h' hit' sb=> ?_
  exact hQ v h' s.toks hv ⟨hit',(sb.2 S hne).trans st.2⟩ fun b x hb e=> sb.extBut b x (fun z=> hb (by simp [z])) e
 done:=fun s Q E st hQ=> rh hh O st.2 st.1 fun h' xb=> hQ h' s.toks fun b x hb e=> xb b x (fun z=> hb (by simp [z])) e
 self:=fun _ _ _ _ st hQ=> sq st.1 hQ
theorem o4 {r:Addr} {Q:Bool→Shared→Prop} (hT:s.TypeIs (.ref r) "set") (h:Q false s):wpAny (model prog w) A (Builtin.List.listLengthHint (.ref r)) Q E s:=by
 unfold Builtin.List.listLengthHint
 refine wpAny_bind (wpAny_specialOf hT PySem.F.slot_set_len.lookup ?_)
 generalize hid:("set.__len__":String)=id0
 wp_delta
 rw [show splitId id0=some ("set","__len__") from by subst hid; decide+kernel]
 subst hid
 refine wpAny_bind (wpAny_isInstance (T:="set") (b:=true) hT (by rw [isSubtype_type]; kernel_rfl) ?_)
 refine wpAny_ite_split (fun z=> absurd z (by decide)) (fun _=> ?_)
 refine wpAny_ite_split (fun _=> ?_) (fun z=> absurd (by decide+kernel) z)
 exact wpAny_bind (wpAny_typeOf hT (wpAny_pure h))
theorem sO {S:Addr} {o:Obj} {es ep t hs} (O:SO prog w o es ep t hs):KdlSrc prog w "set" S S es.size (fun i v=> (bP w S es ep)[i]?=some v) (fun h=> h.get? S=some o) where
 type:=fun _ hm=> ⟨o,hm,O.ex.1⟩
 there:=fun _ hm=> ⟨Heap.lt_size hm,Heap.lt_size hm⟩
 keep:=fun _ _ hm hk=> hk S (.inl rfl) o hm
 notList:=by decide
 notTuple:=by decide
 hint:=fun _ _ _ _ hm hq=> o4 ⟨o,hm,O.ex.1⟩ hq
 iter:=fun _ s hh hm=> ⟨_,_,(fun _ _ hq=> qX O hm hq),ou hh (Nat.ne_of_lt (Heap.lt_size hm)) O,⟨⟨_,Heap.get?_push_size _ rfl,rfl,by simp [aM,et]⟩,Heap.get?_push_of_some _ hm⟩⟩
end
end ST
namespace ST
open PySem PySem.W PyProof.Rows
inductive d3 (lt:Nat→Nat→Bool) (n:Nat) {α:Type}:KasT α→α→Prop
 | ret (a:α):d3 lt n (.ret a) a
 | ask {i j:Nat} {k:Bool→KasT α} {a:α}:i < n→j < n→d3 lt n (k (lt i j)) a→d3 lt n (.ask i j k) a
variable {lt:Nat→Nat→Bool} {n:Nat}
theorem d3.bind {α β:Type} {t:KasT α} {a:α} {f:α→KasT β} {b:β} (h:d3 lt n t a) (h':d3 lt n (f a) b):d3 lt n (t.bind f) b:=by
 induction h with
 | ret a=> exact h'
 | ask hi hj _ ih=> exact d3.ask hi hj (ih h')
theorem d3.wp {α:Type} {t:KasT α} {a:α} (h:d3 lt n t a) {cmp:Nat→Nat→(Bool→Shared→Prop)→Shared→Prop} {s:Shared} (hc:∀ i j C,i < n→j < n→C (lt i j) s→cmp i j C s) {Q:α→Shared→Prop} (q:Q a s):t.kasWp cmp Q s:=by
 induction h with
 | ret a=> exact q
 | ask hi hj _ ih=> exact hc _ _ _ hi hj (ih q)
structure LtO (n:Nat) (lt:Nat→Nat→Bool):Prop where
 tr:∀ i j k,lt i j=true→lt j k=true→lt i k=true
 tot:∀ i j,i < n→j < n→i≠j→lt i j=false→lt j i=true
 asy:∀ i j,lt i j=true→lt j i=false
abbrev g (p:Array Nat) (k:Nat):Nat:=p.getD k 0
theorem rO {p q:Array Nat} {k l:Nat} (h:p[k]?=q[l]?):g p k=g q l:=by
 unfold g
 rw [Array.getD_eq_getD_getElem?,Array.getD_eq_getD_getElem?,h]
structure PP (n:Nat) (p:Array Nat):Prop where
 perm:p.toList.Perm (List.range n)
theorem PP.size {p:Array Nat} (h:PP n p):p.size=n:=by rw [← Array.length_toList,h.perm.length_eq,List.length_range]
theorem PP.mem {p:Array Nat} (h:PP n p) {k:Nat} (hk:k < n):g p k < n:=by
 have hk':k < p.size:=by rw [h.size]; exact hk
 have e:g p k=p[k]:=by simp [g,Array.getD,hk']
 rw [e]
 exact List.mem_range.mp (h.perm.mem_iff.mp (by simp))
theorem PP.inj {p:Array Nat} (h:PP n p) {k l:Nat} (hk:k < n) (hl:l < n) (e:g p k=g p l):k=l:=by
 have hk':k < p.toList.length:=by rw [Array.length_toList,h.size]; exact hk
 have hl':l < p.toList.length:=by rw [Array.length_toList,h.size]; exact hl
 have nd:p.toList.Nodup:=h.perm.nodup_iff.mpr List.nodup_range
 have e1:g p k=p.toList[k]:=by simp [g,Array.getD,h.size,hk]
 have e2:g p l=p.toList[l]:=by simp [g,Array.getD,h.size,hl]
 exact (List.getElem_inj nd).mp (by rw [← e1,← e2,e])
theorem PP.of {p q:Array Nat} (h:PP n p) (hq:q.Perm p):PP n q:=⟨(Array.perm_iff_toList_perm.mp hq).trans h.perm⟩
def Srt (lt:Nat→Nat→Bool) (p:Array Nat) (m:Nat):Prop:=∀ i j,i < j→j < m→lt (g p i) (g p j)=true
def Dsc (lt:Nat→Nat→Bool) (p:Array Nat) (m:Nat):Prop:=∀ i j,i < j→j < m→lt (g p j) (g p i)=true
theorem Srt.one (p:Array Nat):Srt lt p 1:=fun i j h1 h2=> by omega
theorem Srt.more (O:LtO n lt) {p:Array Nat} {m:Nat} (S:Srt lt p m) (h1:1≤m) (h:lt (g p (m - 1)) (g p m)=true):Srt lt p (m+1):=fun i j hij hj=> by
 rcases Nat.lt_or_eq_of_le (Nat.le_of_lt_succ hj) with z | z
 ·exact S i j hij z
 ·subst z
  rcases Nat.lt_or_eq_of_le (show i≤j - 1 by omega) with y | y
  ·exact O.tr _ _ _ (S i (j - 1) y (by omega)) h
  ·subst y; exact h
theorem Dsc.more (O:LtO n lt) {p:Array Nat} {m:Nat} (S:Dsc lt p m) (h1:1≤m) (h:lt (g p m) (g p (m - 1))=true):Dsc lt p (m+1):=fun i j hij hj=> by
 rcases Nat.lt_or_eq_of_le (Nat.le_of_lt_succ hj) with z | z
 ·exact S i j hij z
 ·subst z
  rcases Nat.lt_or_eq_of_le (show i≤j - 1 by omega) with y | y
  ·exact O.tr _ _ _ h (S i (j - 1) y (by omega))
  ·subst y; exact h
theorem i6 (O:LtO n lt) {p:Array Nat} (P:PP n p):∀ (f m:Nat),1≤m→m+f=n→Srt lt p m→∃ m',d3 lt n (kas_asc p f m) m'∧m≤m'∧m'≤n∧Srt lt p m'∧(m' < n→lt (g p m') (g p (m' - 1))=true)
 | 0,m,h1,hf,S=> ⟨m,.ret m,Nat.le_refl _,by omega,S,fun h=> by omega⟩
 | f+1,m,h1,hf,S=> by
  by_cases hc:lt (g p m) (g p (m - 1))=true
  ·refine ⟨m,.ask (P.mem (by omega)) (P.mem (by omega)) ?_,Nat.le_refl _,by omega,S,fun _=> hc⟩
   rw [if_pos hc]; exact .ret m
  ·have hc':lt (g p m) (g p (m - 1))=false:=by simpa using hc
   have ht:=O.tot _ _ (P.mem (show m < n by omega)) (P.mem (show m - 1 < n by omega)) (fun e=> by have:=P.inj (by omega) (by omega) e; omega) hc'
   obtain ⟨m',r,a1,a2,a3,a4⟩:=i6 O P f (m+1) (by omega) (by omega) (S.more O h1 ht)
   refine ⟨m',.ask (P.mem (by omega)) (P.mem (by omega)) ?_,by omega,a2,a3,a4⟩
   rw [if_neg hc]; exact r
theorem jY (O:LtO n lt) {p:Array Nat} (P:PP n p):∀ (f m:Nat),1≤m→m+f=n→Dsc lt p m→∃ m',d3 lt n (kas_desc f p m 0) (p,m',0)∧m≤m'∧m'≤n∧Dsc lt p m'
 | 0,m,h1,hf,S=> ⟨m,.ret _,Nat.le_refl _,by omega,S⟩
 | f+1,m,h1,hf,S=> by
  by_cases hc:lt (g p m) (g p (m - 1))=true
  ·obtain ⟨m',r,a1,a2,a3⟩:=jY O P f (m+1) (by omega) (by omega) (S.more O h1 hc)
   refine ⟨m',.ask (P.mem (by omega)) (P.mem (by omega)) ?_,by omega,a2,a3⟩
   rw [if_pos hc,if_neg (by omega)]; exact r
  ·have hc':lt (g p m) (g p (m - 1))=false:=by simpa using hc
   have ht:=O.tot _ _ (P.mem (show m < n by omega)) (P.mem (show m - 1 < n by omega)) (fun e=> by have:=P.inj (by omega) (by omega) e; omega) hc'
   refine ⟨m,.ask (P.mem (by omega)) (P.mem (by omega)) ?_,Nat.le_refl _,by omega,S⟩
   rw [if_neg hc]
   refine .ask (P.mem (by omega)) (P.mem (by omega)) ?_
   rw [if_pos ht]; exact .ret _
theorem oV {p:Array Nat} (P:PP n p) {m k:Nat} (hm:m≤n) (hk:k < m):g (kas_rev p 0 m) k=g p (m - 1 - k):=by
 refine rO ?_
 unfold kas_rev
 rw [getElem?_mirror (by rw [P.size]; exact hm) _ (by omega)]
 split
 ·congr 1; omega
 ·congr 1; omega
theorem qU {p:Array Nat} (P:PP n p) (i j:Nat):PP n (kas_rev p i j):=P.of (mirror_perm _ _ _ _)
theorem sQ {p:Array Nat} (P:PP n p) {m:Nat} (hm:m≤n) (D:Dsc lt p m):Srt lt (kas_rev p 0 m) m:=fun i j hij hj=> by
 rw [oV P hm (by omega),oV P hm hj]
 exact D _ _ (by omega) (by omega)
theorem nY (O:LtO n lt) {p:Array Nat} (P:PP n p) (h2:2≤n):∃ m p',d3 lt n (kas_count n p) (m,p')∧PP n p'∧1≤m∧m≤n∧Srt lt p' m:=by
 obtain ⟨m,r,a1,a2,a3,a4⟩:=i6 O P (n - 1) 1 (Nat.le_refl _) (by omega) (Srt.one p)
 by_cases hm:m=n
 ·exact ⟨m,p,r.bind (by rw [if_pos (by simp [hm])]; exact .ret _),P,a1,a2,a3⟩
 ·have hne:¬ ((m==n)=true):=by simpa using hm
  by_cases h1:m > 1
  ·refine ⟨m,p,r.bind ?_,P,a1,a2,a3⟩
   rw [if_neg hne,if_pos h1]
   refine .ask (P.mem (by omega)) (P.mem (by omega)) ?_
   rw [if_pos (a3 0 (m - 1) (by omega) (by omega))]
   exact .ret _
  ·obtain rfl:m=1:=by omega
   have D2:Dsc lt p 2:=Dsc.more O (fun i j x y=> by omega) (Nat.le_refl _) (a4 (by omega))
   obtain ⟨d,rd,b1,b2,b3⟩:=jY O P (n - 2) 2 (by omega) (by omega) D2
   obtain ⟨e,re,c1,c2,c3,c4⟩:=i6 O (qU P 0 d) (n - d) d (by omega) (by omega) (sQ P b2 b3)
   refine ⟨e,kas_rev p 0 d,r.bind ?_,qU P 0 d,by omega,c2,c3⟩
   rw [if_neg hne,if_neg h1]
   unfold kas_descPart
   refine d3.bind (a:=(p,d,0)) rd ?_
   rw [if_neg (by simp)]
   unfold kas_tail3
   exact re.bind (.ret _)
theorem fE (O:LtO n lt) {p:Array Nat} (P:PP n p) {k:Nat} (hk:k < n) (S:Srt lt p k):∀ (f l r:Nat),l≤r→r≤k→r - l≤f→(∀ i,i < l→lt (g p i) (g p k)=true)→(∀ i,r≤i→i < k→lt (g p k) (g p i)=true)→
  ∃ l',d3 lt n (kas_place p k f l r) l'∧l'≤k∧(∀ i,i < l'→lt (g p i) (g p k)=true)∧(∀ i,l'≤i→i < k→lt (g p k) (g p i)=true)
 | 0,l,r,h1,h2,h3,a,b=> ⟨l,.ret l,by omega,a,fun i x y=> b i (by omega) y⟩
 | f+1,l,r,h1,h2,h3,a,b=> by
  unfold kas_place
  by_cases hlr:l ≥ r
  ·rw [if_pos hlr]
   exact ⟨l,.ret l,by omega,a,fun i x y=> b i (by omega) y⟩
  ·rw [if_neg hlr]
   have hm:(l+r) / 2 < k:=by omega
   by_cases hc:lt (g p k) (g p ((l+r) / 2))=true
   ·obtain ⟨l',r',x1,x2,x3⟩:=fE O P hk S f l ((l+r) / 2) (by omega) (by omega) (by omega) a fun i hi hik=> by
     rcases Nat.lt_or_eq_of_le hi with z | z
     ·exact O.tr _ _ _ hc (S _ _ z hik)
     ·rw [← z]; exact hc
    refine ⟨l',.ask (P.mem hk) (P.mem (by omega)) ?_,x1,x2,x3⟩
    rw [if_pos hc]; exact r'
   ·have hc':lt (g p k) (g p ((l+r) / 2))=false:=by simpa using hc
    have ht:=O.tot _ _ (P.mem hk) (P.mem (show (l+r) / 2 < n by omega)) (fun e=> by have:=P.inj hk (by omega) e; omega) hc'
    obtain ⟨l',r',x1,x2,x3⟩:=fE O P hk S f ((l+r) / 2+1) r (by omega) h2 (by omega) (fun i hi=> by
     rcases Nat.lt_or_eq_of_le (Nat.le_of_lt_succ hi) with z | z
     ·exact O.tr _ _ _ (S _ _ z hm) ht
     ·rw [z]; exact ht) b
    refine ⟨l',.ask (P.mem hk) (P.mem (by omega)) ?_,x1,x2,x3⟩
    rw [if_neg hc]; exact r'
theorem nh (O:LtO n lt):∀ (f k:Nat) (p:Array Nat),k+f=n→PP n p→Srt lt p k→∃ p',d3 lt n (kas_bin f p k) p'∧PP n p'∧Srt lt p' n
 | 0,k,p,hf,P,S=> ⟨p,.ret p,P,by rw [← hf]; exact S⟩
 | f+1,k,p,hf,P,S=> by
  obtain ⟨l,rl,x1,x2,x3⟩:=fE O P (show k < n by omega) S k 0 k (Nat.zero_le _) (Nat.le_refl _) (by omega) (fun i h=> by omega) (fun i h h'=> by omega)
  have at_:∀ j,g (bubble p k (k - l)) j=if j=l then g p k else if l < j∧j≤k then g p (j - 1) else g p j:=fun j=> by
   have e:=getElem?_bubble (xs:=p) (src:=k) (by rw [P.size]; omega) (k - l) (by omega) j
   rw [show k - (k - l)=l by omega] at e
   split
   ·rename_i z; rw [if_pos z] at e; exact rO e
   ·rename_i z
    rw [if_neg z] at e
    split
    ·rename_i y; rw [if_pos y] at e; exact rO e
    ·rename_i y; rw [if_neg y] at e; exact rO e
  have e1:g (bubble p k (k - l)) l=g p k:=by rw [at_,if_pos rfl]
  have e2:∀ j,l < j→j≤k→g (bubble p k (k - l)) j=g p (j - 1):=fun j y z=> by rw [at_,if_neg (by omega),if_pos ⟨y,z⟩]
  have e3:∀ j,j < l→g (bubble p k (k - l)) j=g p j:=fun j y=> by rw [at_,if_neg (by omega),if_neg (by omega)]
  have S':Srt lt (bubble p k (k - l)) (k+1):=fun i j hij hj=> by
   rcases Nat.lt_trichotomy j l with y | y | y
   ·rw [e3 i (by omega),e3 j y]; exact S _ _ hij (by omega)
   ·rw [y,e1,e3 i (by omega)]; exact x2 i (by omega)
   ·rw [e2 j y (by omega)]
    rcases Nat.lt_trichotomy i l with z | z | z
    ·rw [e3 i z]; exact S _ _ (by omega) (by omega)
    ·rw [z,e1]; exact x3 (j - 1) (by omega) (by omega)
    ·rw [e2 i z (by omega)]; exact S _ _ (by omega) (by omega)
  obtain ⟨p',r',P',S''⟩:=nh O f (k+1) (bubble p k (k - l)) (by omega) (P.of (bubble_perm _ _ _)) S'
  exact ⟨p',rl.bind r',P',S''⟩
theorem pP (O:LtO n lt) (h2:2≤n):∃ p,d3 lt n (kas_sort n) p∧PP n p∧Srt lt p n:=by
 obtain ⟨m,p,r,P,a1,a2,S⟩:=nY O (p:=List.toArray (List.range n)) ⟨by simp⟩ h2
 by_cases hm:m < n
 ·obtain ⟨p',r',P',S'⟩:=nh O (n - max m 1) (max m 1) p (by omega) P (by rw [show max m 1=m by omega]; exact S)
  exact ⟨p',r.bind (by rw [if_pos hm]; exact r'),P',S'⟩
 ·obtain rfl:m=n:=by omega
  exact ⟨p,r.bind (by rw [if_neg hm]; exact .ret _),P,S⟩
end ST
namespace ST
open PySem PySem.W PyProof.Rows
def ltP (a b:Int×Int):Bool:=decide (a.1 < b.1∨(a.1=b.1∧a.2 < b.2))
theorem lw {a b c:Int×Int} (h1:ltP a b=true) (h2:ltP b c=true):ltP a c=true:=by
 unfold ltP at *; simp at *; omega
theorem mH {a b:Int×Int} (h1:ltP a b=true):ltP b a=false:=by
 unfold ltP at *; simp at *; omega
theorem jv {a b:Int×Int} (h:a≠b) (h1:ltP a b=false):ltP b a=true:=by
 unfold ltP at *
 have:¬ (a.1=b.1∧a.2=b.2):=fun z=> h (Prod.ext z.1 z.2)
 simp at *; omega
section
variable {prog:Program} {w:World} {A:Around} {E:Value→Shared→Prop} {s:Shared}
theorem TK.two {h:Heap} {x y:Int} {b:Addr} (k:TK prog w h [x,y] b):∃ o its n t u,h.get? b=some o∧o.cls=.type "tuple"∧o.data=.seq its n∧its.toList=[.int x t,.int y u]:=by
 obtain ⟨o,its,n,ho,hc,hd,hi⟩:=k
 cases hi':its.toList with
 | nil=> rw [hi'] at hi; cases hi
 | cons v1 r=>
  rw [hi'] at hi
  cases hi with
  | cons h1 hr=>
   cases hr with
   | cons h2 hr2=>
    cases hr2
    obtain ⟨t,rfl⟩:=Value.isInt_shape h1
    obtain ⟨u,rfl⟩:=Value.isInt_shape h2
    exact ⟨o,its,n,t,u,ho,hc,hd,hi'⟩
theorem pG {x y:Addr} {a b:Int×Int} {Q:Bool→Shared→Prop} (hx:TK prog w s.heap [a.1,a.2] x) (hy:TK prog w s.heap [b.1,b.2] y) (h:Q (ltP a b) s):wpAny (model prog w) A (keyLt' (tuples' true) (.ref x) (.ref y)) Q E s:=by
 obtain ⟨o,its,n,t,u,ho,_,hd,hi⟩:=hx.two
 obtain ⟨o',its',n',t',u',ho',_,hd',hi'⟩:=hy.two
 refine kat_lt ho hd ho' hd' ?_
 rw [hi,hi']
 refine kat_cons ((intKind prog w).eqBool (a:=a.1) (b:=b.1) (intKind_is _ _ _ _) (intKind_is _ _ _ _) ?_)
 by_cases e1:a.1=b.1
 ·rw [decide_eq_true e1]
  refine kat_yes (kat_cons ((intKind prog w).eqBool (a:=a.2) (b:=b.2) (intKind_is _ _ _ _) (intKind_is _ _ _ _) ?_))
  by_cases e2:a.2=b.2
  ·rw [decide_eq_true e2]
   refine kat_yes (kat_nil ?_)
   have z:ltP a b=false:=by unfold ltP; simp; omega
   rw [z] at h
   have z2:decide (its.size < its'.size)=false:=by
    rw [← Array.length_toList,← Array.length_toList,hi,hi']; simp
   rw [z2]; exact h
  ·rw [decide_eq_false e2]
   refine kat_no (kat_one _ _ (lt_int ?_))
   have z:ltP a b=decide (a.2 < b.2):=by unfold ltP; rw [e1]; simp
   rw [z] at h
   exact h
 ·rw [decide_eq_false e1]
  refine kat_no (oneLt_int ?_)
  have z:ltP a b=decide (a.1 < b.1):=by unfold ltP; simp [e1]
  rw [z] at h
  exact h
abbrev PB:=List ((Int×Int)×Addr)
abbrev refs (pb:PB):List Value:=pb.map fun p=> Value.ref p.2
def dfl:(Int×Int)×Addr:=((0,0),0)
theorem l_ (pb:PB):(List.range pb.length).map (fun i=> pb.getD i dfl)=pb:=by
 apply List.ext_getElem
 ·simp
 ·intro i h1 h2
  simp at h1
  simp [h1]
theorem jC {pb:PB} {Q:SortKind→Shared→Prop} (htk:∀ p∈pb,TK prog w s.heap [p.1.1,p.1.2] p.2) (h0:0 < pb.length) (h:Q (tuples' true) s):wpAny (model prog w) A (keyKind' (refs pb).toArray) Q E s:=by
 obtain ⟨fs,hf,hl,hi⟩:∃ fs,KatTups s.heap (refs pb) fs∧fs.length=pb.length∧∀ v∈fs,∃ n t,v=Value.int n t:=by
  clear h h0
  induction pb with
  | nil=> exact ⟨[],.nil,rfl,fun v hv=> by simp at hv⟩
  | cons p r ih=>
   obtain ⟨fs,hf,hl,hi⟩:=ih fun q hq=> htk q (List.mem_cons_of_mem _ hq)
   obtain ⟨o,its,n,t,u,ho,hc,hd,hit⟩:=(htk p List.mem_cons_self).two
   refine ⟨.int p.1.1 t::fs,.cons ho hc hd (by rw [← Array.getElem?_toList,hit]; rfl) hf,by simp [hl],fun v hv=> ?_⟩
   rcases List.mem_cons.mp hv with z | z
   ·exact ⟨_,_,z⟩
   ·exact hi v z
 refine kat_kind (T:=.type "int") hf (by omega) (fun v hv=> ?_) (by decide) h
 obtain ⟨n,t,rfl⟩:=hi v hv
 exact Looks.of_pure rfl
set_option maxHeartbeats 1000000 in
theorem pi {a:Addr} {pb:PB} {n:Nat} {P:PySem.Fin→Shared→Prop} (ho:s.heap.get? a=some (seqObj "list" (refs pb).toArray n)) (htk:∀ p∈pb,TK prog w s.heap [p.1.1,p.1.2] p.2) (hnd:(pb.map (·.1)).Nodup) (h64:pb.length < 64)
  (h:∀ pb':PB,pb'.Perm pb→(pb'.map (·.1)).Pairwise (fun x y=> ltP x y=true)→P (.done (.ret .none)) { s with heap:=sortedHeap s.heap a (refs pb) (refs pb').toArray }):
  wpAny (model prog w) A (Builtin.«list.sort» ⟨[.ref a],[]⟩) P E s:=by
 have hvl:(refs pb).length=pb.length:=by simp
 have hva:(refs pb).toArray.size=pb.length:=by simp
 rw [list_sort_plain]
 have ha:a < s.heap.objs.size:=Heap.lt_size ho
 refine wpAny_bind (listItems_at ho rfl (wpAny_bind (listUpdate_at ho rfl ?_ (by rw [hva,sizeLine_eq]; omega) (Nat.zero_le _))))
 obtain ⟨e1,ho1⟩:∃ e1,(s.heap.update a (Obj.mapSeq fun _=> (#[]:Array Value))).get? a=some (seqObj "list" #[] e1):=⟨_,get?_update_seq ho (fun _=> #[])⟩
 refine wpAny_bind (seqEpoch_at ho1 rfl (wpAny_bind (wpAny_newTuple ?_ (by show (refs pb).length≤_; rw [hvl,sizeLine_eq]; omega))))
 refine wpAny_bind (wpAny_newList ?_ (Nat.zero_le _))
 refine wpAny_holding ?_
 generalize hh6:((s.heap.update a (Obj.mapSeq fun _=> (#[]:Array Value))).push (seqObj "tuple" (refs pb).toArray 0)).push (seqObj "list" #[] 0)=h6
 have old6:∀ b o,b≠a→s.heap.get? b=some o→h6.get? b=some o:=fun b o hb e=> by
  rw [← hh6]
  exact Heap.get?_push_of_some _ (Heap.get?_push_of_some _ ((Heap.get?_update_other _ _ (Ne.symm hb)).trans e))
 have ho6:h6.get? a=some (seqObj "list" #[] e1):=by rw [← hh6]; exact Heap.get?_push_of_some _ (Heap.get?_push_of_some _ ho1)
 have tk6:∀ p∈pb,TK prog w h6 [p.1.1,p.1.2] p.2:=fun p hp=> by
  obtain ⟨o,its,k,hop,hc,r⟩:=htk p hp
  refine ⟨o,its,k,old6 p.2 o (fun z=> ?_) hop,hc,r⟩
  rw [z,ho] at hop
  cases hop
  exact absurd hc (by show ¬ (Value.type "list"=Value.type "tuple"); decide)
 have fin:∀ pb':PB,pb'.Perm pb→(pb'.map (·.1)).Pairwise (fun x y=> ltP x y=true)→P (.done (.ret .none)) { s with heap:=h6.update a (Obj.mapSeq fun _=> (refs pb').toArray) }:=fun pb' p1 p2=> by
  rw [← hh6]; exact h pb' p1 p2
 show wpAny (model prog w) A _ P E { s with heap:=h6 }
 dsimp only
 by_cases h2:(refs pb).toArray.size < 2
 ·rw [if_pos h2,if_pos h2]
  refine wpAny_bind (wpAny_pure ?_)
  rw [StateT.run_pure]
  refine wpAny_bind (wpAny_pure ?_)
  dsimp only
  have eout:(arrOf (SortSt.mk' general' ((refs pb).toArray.zip (refs pb).toArray) #[] 7 none)).map (·.2)=(refs pb).toArray:=by
   show (((refs pb).toArray.zip (refs pb).toArray)).map (·.2)=_
   apply Array.toList_inj.mp
   have zip2:∀ l:List Value,(l.zip l).map (·.2)=l:=fun l=> by
    induction l with
    | nil=> rfl
    | cons x r ih=> rw [List.zip_cons_cons,List.map_cons,ih]
   rw [Array.toList_map,Array.toList_zip]
   exact zip2 _
  rw [eout]
  refine wpAny_bind (seqEpoch_at ho6 rfl (wpAny_bind (listUpdate_at ho6 rfl ?_ (Nat.zero_le _) (by rw [hva,sizeLine_eq]; omega))))
  show wpAny _ _ (if (e1 !=e1)=true then _ else _) _ _ _
  rw [if_neg (by simp)]
  refine wpAny_pure (fin pb (List.Perm.refl _) ?_)
  match pb,hva,h2 with
  | [],_,_=> simp
  | [_],_,_=> simp
  | _::_::r,hva,h2=> rw [hva] at h2; exact absurd h2 (by simp)
 ·rw [if_neg h2,if_neg h2]
  rw [hva] at h2
  have h2':2≤(refs pb).length:=by rw [hvl]; omega
  refine wpAny_bind (jC (s:={ s with heap:=h6 }) tk6 (by omega) ?_)
  have inj:∀ i j,i < pb.length→j < pb.length→i≠j→(pb.getD i dfl).1≠(pb.getD j dfl).1:=fun i j hi hj hij e=> by
   refine hij ((List.getElem_inj (xs:=pb.map (·.1)) (h₀:=by simpa using hi) (h₁:=by simpa using hj) hnd).mp ?_)
   simpa [hi,hj] using e
  have O:LtO pb.length (fun i j=> ltP (pb.getD i dfl).1 (pb.getD j dfl).1):=⟨fun i j k=> lw,fun i j hi hj hij=> jv (inj i j hi hj hij),fun i j=> mH⟩
  obtain ⟨p,R,PP',S⟩:=pP O (by omega)
  have hcmp:∀ i j C,i < pb.length→j < pb.length→C (ltP (pb.getD i dfl).1 (pb.getD j dfl).1) { s with heap:=h6 }→kas_ask prog w A (tuples' true) (refs pb) i j C { s with heap:=h6 }:=fun i j C hi hj c=> by
   unfold kas_ask
   have ei:(refs pb).getD i Value.none=.ref (pb.getD i dfl).2:=by simp [hi]
   have ej:(refs pb).getD j Value.none=.ref (pb.getD j dfl).2:=by simp [hj]
   rw [ei,ej]
   have mi:pb.getD i dfl∈pb:=by simp [hi]
   have mj:pb.getD j dfl∈pb:=by simp [hj]
   exact pG (s:={ s with heap:=h6 }) (tk6 _ mi) (tk6 _ mj) c
  have tree:(kas_sort (refs pb).length).kasWp (kas_ask prog w A (tuples' true) (refs pb)) (fun p' s'=> p'=p∧s'={ s with heap:=h6 }) { s with heap:=h6 }:=by
   rw [hvl]
   exact R.wp hcmp ⟨rfl,rfl⟩
  refine wpAny_bind (wpAny_mono (kat_run (Q:=fun st' s'=> s'={ s with heap:=h6 }∧failedOf st'=none∧(arrOf st').map (·.2)=List.toArray (p.toList.map fun i=> (refs pb).getD i Value.none)) rfl h2' (by rw [hvl]; exact h64) (fun p' st' s' _ a2 a3 a4=> ?_) tree) ?_ fun _ _ e=> e)
  ·obtain ⟨rfl,rfl⟩:=a4
   exact ⟨rfl,a3,kat_snds rfl a2⟩
  ·rintro ⟨⟨⟩,st'⟩ s' ⟨rfl,hf,hout⟩
   dsimp only
   rw [hout]
   have hlt:∀ i∈p.toList,i < pb.length:=fun i hi=> List.mem_range.mp (PP'.perm.mem_iff.mp hi)
   have er:(p.toList.map fun i=> (refs pb).getD i Value.none)=refs (p.toList.map fun i=> pb.getD i dfl):=by
    unfold refs
    rw [List.map_map]
    refine List.map_congr_left fun i hi=> ?_
    have:=hlt i hi
    simp [this]
   rw [er]
   have hperm:(p.toList.map fun i=> pb.getD i dfl).Perm pb:=by
    refine (PP'.perm.map _).trans ?_
    rw [l_]
   have hs2:(refs (p.toList.map fun i=> pb.getD i dfl)).toArray.size=pb.length:=by simp [PP'.size]
   refine wpAny_bind (seqEpoch_at ho6 rfl (wpAny_bind (listUpdate_at ho6 rfl ?_ (Nat.zero_le _) (by rw [hs2,sizeLine_eq]; omega))))
   rw [hf]
   show wpAny _ _ (if (e1 !=e1)=true then _ else _) _ _ _
   rw [if_neg (by simp)]
   refine wpAny_pure (fin _ hperm ?_)
   rw [List.map_map,List.pairwise_map,List.pairwise_iff_getElem]
   intro i j hi hj hij
   have hj':j < pb.length:=by rw [Array.length_toList,PP'.size] at hj; exact hj
   have q:=S i j hij hj'
   have ei:g p i=p.toList[i]:=by simp [g,Array.getD,PP'.size,show i < pb.length by omega]
   have ej:g p j=p.toList[j]:=by simp [g,Array.getD,PP'.size,hj']
   rw [ei,ej] at q
   exact q
end
end ST
namespace ST
open PySem PySem.W PyProof.Rows PySem.Calls
theorem o_ {α β:Type} (f:α→β) {l m:List β} (h:l.Perm m):∀ kb:List α,m=kb.map f→∃ kb':List α,List.Perm kb' kb∧l=List.map f kb':=by
 induction h with
 | nil=> intro kb e; exact ⟨kb,.refl _,e⟩
 | @cons x l m _ ih=>
  intro kb e
  match kb,e with
  | [],e=> simp at e
  | k::kb,e=>
   rw [List.map_cons,List.cons.injEq] at e
   obtain ⟨kb',p,e'⟩:=ih kb e.2
   exact ⟨k::kb',p.cons k,by rw [List.map_cons,← e',e.1]⟩
 | swap x y l=>
  intro kb e
  match kb,e with
  | [],e=> simp at e
  | [_],e=> simp at e
  | k::k'::kb,e=>
   simp only [List.map_cons,List.cons.injEq] at e
   exact ⟨k'::k::kb,.swap k k' kb,by rw [List.map_cons,List.map_cons,← e.2.2,e.1,e.2.1]⟩
 | trans _ _ ih1 ih2=>
  intro kb e
  obtain ⟨kb2,p2,e2⟩:=ih2 kb e
  obtain ⟨kb1,p1,e1⟩:=ih1 kb2 e2
  exact ⟨kb1,p1.trans p2,e1⟩
def ptsOf (kb:List (List Int×Addr)):PB:=kb.map fun p=> ((p.1.getD 0 0,p.1.getD 1 0),p.2)
section
variable {prog:Program} {w:World} {A:Around} {E:Value→Shared→Prop} {s:Shared}
set_option maxHeartbeats 1000000 in
theorem call_sorted_set {S:Addr} {kb:List (List Int×Addr)} {Q:Value→Shared→Prop} (hh:A.handled=none) (P:SP prog w s.heap S kb) (h64:kb.length < 64) (h2:∀ p∈kb,p.1.length=2)
  (h:∀ (h1 h':Heap) (tk:Nat) (pb:PB) (e:Nat),List.Perm pb (ptsOf kb)→(pb.map (·.1)).Pairwise (fun x y=> ltP x y=true)→(∀ b o,s.heap.get? b=some o→h1.get? b=some o)→(∀ b o,h1.get? b=some o→h'.get? b=some o)→h'.get? h1.objs.size=some (seqObj "list" (refs pb).toArray e)→Q (.ref h1.objs.size) { s with heap:=h',toks:=tk }):
  wpAny (model prog w) A (call (.builtin "sorted") [.ref S]) Q E s:=by
 obtain ⟨⟨o,es,ep,t,ho,hex,hd,he,T,hl,hp,_,_⟩,hk,hnd⟩:=P
 have hsz:es.size=kb.length:=by rw [← Array.length_toList,he]; simp [dX]
 have O:SO prog w o es ep t (kb.map fun p=> hsh prog w p.1):=⟨hex,hd,T,by rw [List.length_map,hsz],hl,hp⟩
 have two:∀ p∈kb,p.1=[p.1.getD 0 0,p.1.getD 1 0]:=fun p hp'=> by
  have:=h2 p hp'
  match hq:p.1,this with
  | [x,y],_=> rfl
 refine call_function_entry kind_sorted plain_sorted entry_sorted (args_sorted1 _) ?_
 unfold Builtin.«sorted»
 refine wpAny_bind (m:=checkCount "sorted" 1 1 _) (wpAny_pure ?_)
 refine wpAny_bind (kdu_collect (A:=A.in1) (sO O) hh ho (by rw [hsz,sizeLine_eq]; omega) fun h' tk acc keep hacc=> ?_)
 have hal:acc.toList=bP w S es ep:=by
  apply List.ext_getElem?
  intro i
  rcases Nat.lt_or_ge i acc.size with z | z
  ·rw [Array.getElem?_toList,Array.getElem?_eq_getElem z]
   exact (hacc.2 i _ (Array.getElem?_eq_getElem z)).symm
  ·rw [List.getElem?_eq_none (by simpa using z),List.getElem?_eq_none]
   rw [(dF w S es ep).length_eq,List.length_map,Array.length_toList,← hacc.1]; exact z
 obtain ⟨kb1,pk,ek⟩:=o_ (fun (p:List Int×Addr)=> Value.ref p.2) (dF w S es ep) kb (by rw [he]; unfold dX; rw [List.map_map]; rfl)
 have hl1:acc.toList=refs (ptsOf kb1):=by
  rw [hal,ek]; unfold refs ptsOf; rw [List.map_map]; rfl
 have hlen1:(ptsOf kb1).length=kb.length:=by unfold ptsOf; rw [List.length_map,pk.length_eq]
 have hlenA:acc.toList.length=kb.length:=by rw [hl1]; simp [hlen1]
 refine wpAny_bind (wpAny_newList ?_ (by rw [hlenA,sizeLine_eq]; omega))
 have hD:(h'.push { cls:=.type "list",data:=.seq acc.toList.toArray }).get? h'.objs.size=some (seqObj "list" (refs (ptsOf kb1)).toArray 0):=by
  rw [← hl1]; exact Heap.get?_push_size _ rfl
 have tk1:∀ p∈ptsOf kb1,TK prog w (h'.push { cls:=.type "list",data:=.seq acc.toList.toArray }) [p.1.1,p.1.2] p.2:=fun p hp'=> by
  obtain ⟨q,hq,rfl⟩:=List.mem_map.mp hp'
  have hq':=pk.mem_iff.mp hq
  obtain ⟨oq,its,k,hoq,r⟩:=hk q hq'
  have e2:=two q hq'
  refine ⟨oq,its,k,Heap.get?_push_of_some _ (keep _ _ hoq),?_⟩
  rw [← e2]; exact r
 have nd1:((ptsOf kb1).map (·.1)).Nodup:=by
  have n1:(kb1.map (·.1)).Nodup:=((pk.map (·.1)).nodup_iff).mpr hnd
  unfold ptsOf
  rw [List.map_map]
  refine List.pairwise_map.mpr ((List.pairwise_map.mp n1).imp_of_mem fun {a b} ha hb hab=> ?_)
  intro z
  have ea:=two a (pk.mem_iff.mp ha)
  have eb:=two b (pk.mem_iff.mp hb)
  have z':(a.1.getD 0 0,a.1.getD 1 0)=(b.1.getD 0 0,b.1.getD 1 0):=z
  rw [Prod.mk.injEq] at z'
  rw [z'.1,z'.2] at ea
  exact hab (ea.trans eb.symm)
 refine wpAny_bind (wpAny_holding (wpAny_call_entry slot_list_sort ⟨_,hD,rfl⟩ entry_list_sort ?_ (args_list_sort _)))
 refine pi (s:={ s with heap:=h'.push { cls:=.type "list",data:=.seq acc.toList.toArray },toks:=tk }) hD tk1 nd1 (by omega) fun pb' pp so=> ⟨_,rfl,wpAny_pure ⟨_,rfl,?_⟩⟩
 obtain ⟨e,eD⟩:=sortedHeap_at (out:=(refs pb').toArray) hD
 refine h h' _ tk pb' e (pp.trans ?_) so keep (fun b x hb'=> ?_) eD
 ·unfold ptsOf; exact pk.map _
 ·have hlt:=Heap.lt_size hb'
  rw [sortedHeap_old (Nat.ne_of_lt hlt) (by rw [Heap.size_push]; exact Nat.lt_succ_of_lt hlt)]
  exact Heap.get?_push_of_some _ hb'
end
end ST
namespace ST
open PySem
def ins (x:Int×Int):List (Int×Int)→List (Int×Int)
 | []=> [x]
 | y::r=> if x=y then y::r else if ltP x y=true then x::y::r else y::ins x r
def srt (pts:List (Int×Int)):List (Int×Int):=pts.foldr ins []
theorem i_ (x z:Int×Int):∀ l,z∈ins x l↔z=x∨z∈l
 | []=> by simp [ins]
 | y::r=> by
  unfold ins
  split
  ·rename_i h; subst h; simp
  ·split
   ·simp
   ·rw [List.mem_cons,i_ x z r,List.mem_cons]
    constructor
    ·rintro (h | h | h)
     ·exact .inr (.inl h)
     ·exact .inl h
     ·exact .inr (.inr h)
    ·rintro (h | h | h)
     ·exact .inr (.inl h)
     ·exact .inl h
     ·exact .inr (.inr h)
abbrev Asc (l:List (Int×Int)):Prop:=l.Pairwise (fun x y=> ltP x y=true)
theorem mn (x:Int×Int):∀ l,Asc l→Asc (ins x l)
 | [],_=> by simp [ins]
 | y::r,h=> by
  unfold ins
  split
  ·exact h
  ·rename_i hne
   obtain ⟨h1,h2⟩:=List.pairwise_cons.mp h
   split
   ·rename_i hlt
    refine List.pairwise_cons.mpr ⟨fun z hz=> ?_,h⟩
    rcases List.mem_cons.mp hz with e | e
    ·rw [e]; exact hlt
    ·exact lw hlt (h1 z e)
   ·rename_i hlt
    refine List.pairwise_cons.mpr ⟨fun z hz=> ?_,mn x r h2⟩
    rcases (i_ x z r).mp hz with e | e
    ·rw [e]; exact jv hne (by simpa using hlt)
    ·exact h1 z e
theorem srt_mem (z:Int×Int):∀ l,z∈srt l↔z∈l
 | []=> by simp [srt]
 | y::r=> by
  show z∈ins y (srt r)↔_
  rw [i_,srt_mem z r,List.mem_cons]
theorem srt_asc:∀ l,Asc (srt l)
 | []=> List.Pairwise.nil
 | y::r=> mn y (srt r) (srt_asc r)
theorem asc_irr {x:Int×Int}:ltP x x=false:=by unfold ltP; simp
theorem asc_one:∀ {l m:List (Int×Int)},Asc l→Asc m→(∀ z,z∈l↔z∈m)→l=m
 | [],[],_,_,_=> rfl
 | [],y::r,_,_,h=> by have:=(h y).mpr List.mem_cons_self; simp at this
 | x::l,[],_,_,h=> by have:=(h x).mp List.mem_cons_self; simp at this
 | x::l,y::m,hl,hm,h=> by
  obtain ⟨a1,a2⟩:=List.pairwise_cons.mp hl
  obtain ⟨b1,b2⟩:=List.pairwise_cons.mp hm
  have e:x=y:=by
   rcases List.mem_cons.mp ((h x).mp List.mem_cons_self) with z | z
   ·exact z
   ·rcases List.mem_cons.mp ((h y).mpr List.mem_cons_self) with z' | z'
    ·exact z'.symm
    ·have:=mH (b1 x z)
     rw [a1 y z'] at this; cases this
  subst e
  congr 1
  refine asc_one a2 b2 fun z=> ⟨fun hz=> ?_,fun hz=> ?_⟩
  ·rcases List.mem_cons.mp ((h z).mp (List.mem_cons_of_mem _ hz)) with e | e
   ·have:=a1 z hz; rw [e,asc_irr] at this; cases this
   ·exact e
  ·rcases List.mem_cons.mp ((h z).mpr (List.mem_cons_of_mem _ hz)) with e | e
   ·have:=b1 z hz; rw [e,asc_irr] at this; cases this
   ·exact e
theorem mT (x:Int×Int):∀ l,(ins x l).length≤l.length+1
 | []=> by simp [ins]
 | y::r=> by
  have:=mT x r
  unfold ins
  split
  ·simp
  ·split
   ·simp
   ·simp only [List.length_cons]; omega
theorem srt_len:∀ l,(srt l).length≤l.length
 | []=> Nat.le_refl _
 | y::r=> by
  have h1:=mT y (srt r)
  have h2:=srt_len r
  show (ins y (srt r)).length≤_
  simp only [List.length_cons]; omega
end ST
namespace L2
open PySem PySem.Spec PyProof.Rows
theorem wV {p:Nat→Addr→Prop} {n:Nat} (h:∀ i,i < n→∃ b,p i b):∃ f:Nat→Addr,∀ i,i < n→p i (f i):=by
 refine ⟨fun i=> if k:i < n then Classical.choose (h i k) else 0,fun i hi=> ?_⟩
 dsimp only
 rw [dif_pos hi]
 exact Classical.choose_spec (h i hi)
theorem qk:bootBuiltins "set"=some (.type "set"):=by decide+kernel
section
variable {X:Cx} {H0:Hp} {O0:List Addr} {ps:PSt} {e:Expr} {pts:List P2} {pos pos' p p':Pos}
set_option maxHeartbeats 2000000 in
theorem iS (hc:X.calm=true) (hu:X.A.units+10 < cLine) (hg:Gl X "sorted") (hm:X.mg "sorted"=none) (hgs:Gl X "set") (hms:X.mg "set"=none) (ha:Ev X H0 O0 ps e (lp pts)) (hl:pts.length < 64)
  (he:starEach [e] X.env=(false,eval e X.env)::starEach [] X.env:=by rfl):EvN X H0 O0 ps (.Call (.Name "sorted" p) [.Call (.Name "set" p') [e] [] pos'] [] pos) ((ST.srt pts).map pu):=by
 rintro pins s σ H Q I ⟨O,R,q⟩
 have hh:X.A.handled=none:=I.ok.hd hc
 refine wpAny_Call_Name_kw (cj I hg hm boot_sorted ?_)
 refine callWith_builtin1 (e:=.Call (.Name "set" p') [e] [] pos') (rest:=[]) ?_ rfl rfl
 show wpAny _ _ (spliced ((false,eval (.Call (.Name "set" p') [e] [] pos') X.env)::backTo pos (starEach [] X.env))) _ _ s
 refine Calls.spliced_cons ?_
 refine wpAny_Call_Name_kw (cj I hgs hms qk ?_)
 refine callWith_type1 (thn (bn ha cR he pos' pins s σ H (fun vs H1=> ∃ v,vs=[v]∧aB H H1∧Rp X.K (hid H1 O) v (lp pts)) I ⟨O,R,fun v H1 s1 r1=> ⟨v,rfl,s1,r1⟩⟩) fun us s1 hx=> ?_) he rfl
 obtain ⟨vs,H1,I1,rv,v,rfl,sm,rp⟩:=hx
 obtain ⟨u,rfl,ru⟩:=dy rv
 cases rp with
 | @lst a ws _ hq hwl hwi=>
  cases ru
  obtain ⟨its,rw',pl,hz⟩:=I1.list (SqL.of (av _ _ hq))
  have hlp:ws.length=pts.length:=by rw [hwl,List.length_map]
  have hil:its.length=pts.length:=by rw [← rw'.length,hlp]
  have item:∀ i,i < pts.length→∃ b,its[i]?=some (.ref b)∧Rp X.K (hid H1 O) (.ref b) (pu (pts.getD i (0,0)))∧ST.TK X.prog X.w s1.heap [(pts.getD i (0,0)).1,(pts.getD i (0,0)).2] b:=fun i hi=> by
   have hw:ws[i]?=some ws[i]:=List.getElem?_eq_getElem (by omega)
   have hp:(pts.map pu)[i]?=some (pu (pts.getD i (0,0))):=by rw [List.getElem?_map,List.getElem?_eq_getElem hi]; simp [hi]
   have r:=hwi i _ _ hw hp
   obtain ⟨u',e1,e2⟩:=rw'.get hw
   generalize ws[i]=z at *
   cases r with
   | @tup b zs _ hs hsl hsi=>
    cases e2
    refine ⟨b,e1,Rp.tup hs hsl hsi,?_⟩
    obtain ⟨jts,rj,ht,_⟩:=I1.tuple (by exact av.tup hs)
    have z0:zs.length=2:=hsl
    match zs,z0,hsi,rj with
    | [z1,z2],_,hsi,rj=>
     have q1:=hsi 0 z1 _ rfl rfl
     have q2:=hsi 1 z2 _ rfl rfl
     cases q1
     cases q2
     obtain ⟨u1,u2,rfl,r1,r2⟩:=eS rj
     obtain ⟨t1,rfl⟩:=r1
     obtain ⟨t2,rfl⟩:=r2
     obtain ⟨o,ho,hoc,n,hod⟩:=ht
     exact ⟨o,_,n,ho,hoc,hod,.cons (intKind_is _ _ _ _) (.cons (intKind_is _ _ _ _) .nil)⟩
  obtain ⟨ad',adE⟩:=wV item
  have hsz:its.toArray.size=pts.length:=by simp [hil]
  refine ST.call_set_pts (fun i=> ([(pts.getD i (0,0)).1,(pts.getD i (0,0)).2],ad' i)) hh (by show X.A.units+1+1+1 < cLine; omega) pl.isList (fun i z ez=> ?_) (fun i hi=> ?_) (by rw [hsz]; omega) fun h2 tk kb sp got keep=> ?_
  ·have hi:i < pts.length:=by have:=aJ (show its[i]?=some z by simpa using ez); omega
   have:=(adE i hi).1
   rw [show its.toArray[i]?=its[i]? by simp,this] at ez
   cases ez; rfl
  ·exact (adE i (by rw [hsz] at hi; exact hi)).2.2
  ·rw [hsz] at got
   have I2:Inv X pins σ H1 { s1 with heap:=h2,toks:=tk }:=I1.kept (t':=tk) keep
   refine Calls.spliced_nil ?_
   have hkl:kb.length < 64:=by have:=got.len; omega
   refine ST.call_sorted_set (s:={ s1 with heap:=h2,toks:=tk }) hh sp hkl (fun z hz=> by obtain ⟨j,_,rfl⟩:=got.src z hz; rfl) fun h3 h4 tk2 pb ep pm so k1 k2 hD=> ?_
   have I3:Inv X pins σ H1 { s1 with heap:=h3,toks:=tk2 }:=I2.kept (t':=tk2) k1
   have src:∀ z∈pb,∃ j,j < pts.length∧z=(pts.getD j (0,0),ad' j):=fun z hz=> by
    obtain ⟨y,hy,rfl⟩:=List.mem_map.mp (pm.mem_iff.mp hz)
    obtain ⟨j,hj,rfl⟩:=got.src y hy
    exact ⟨j,hj,rfl⟩
   have epts:pb.map (·.1)=ST.srt pts:=by
    refine ST.asc_one so (ST.srt_asc pts) fun z=> ?_
    rw [ST.srt_mem]
    constructor
    ·intro hz
     obtain ⟨y,hy,rfl⟩:=List.mem_map.mp hz
     obtain ⟨j,hj,rfl⟩:=src y hy
     simp [hj]
    ·intro hz
     obtain ⟨j,hj⟩:=List.mem_iff_getElem?.mp hz
     have hjl:=aJ hj
     have hk:=got.all j hjl
     obtain ⟨y,hy,ey⟩:=List.mem_map.mp hk
     have hin:((y.1.getD 0 0,y.1.getD 1 0),y.2)∈ST.ptsOf kb:=List.mem_map.mpr ⟨y,hy,rfl⟩
     have hin':=pm.mem_iff.mpr hin
     refine List.mem_map.mpr ⟨_,hin',?_⟩
     rw [ey]
     have:pts.getD j (0,0)=z:=by rw [List.getD_eq_getElem?_getD,hj]; rfl
     show ((pts.getD j (0,0)).1,(pts.getD j (0,0)).2)=z
     rw [this]
   have fr:H1 h3.objs.size=none:=I3.hok.fresh (Nat.le_refl _)
   refine ⟨.ref h3.objs.size,upd H1 h3.objs.size (.lst (pb.map fun z=> V.ref z.2)),?_,rfl,?_⟩
   ·refine I3.laid (t':=tk2) k2 (Nat.le_refl _) ⟨?_,(ST.refs pb),ep,?_,hD⟩
    ·rw [List.length_map,← List.length_map (f:=(·.1)),epts,sizeLine_eq]
     have:=ST.srt_len pts
     omega
    ·have all:∀ l:ST.PB,aG (l.map fun z=> V.ref z.2) (ST.refs l):=fun l=> by
      induction l with
      | nil=> exact .nil
      | cons z r ih=> exact .cons rfl ih
     exact all pb
   ·refine q _ _ _ (sm.trans (aQ fr _)) (sm.free fr) aH ⟨?_,fun i z x e1 e2=> ?_⟩
    ·rw [List.length_map,← epts,List.length_map,List.length_map]
    ·rw [← epts,List.map_map,List.getElem?_map] at e2
     rw [List.getElem?_map] at e1
     cases hpi:pb[i]? with
     | none=> rw [hpi] at e1; cases e1
     | some y=>
      rw [hpi] at e1 e2
      cases e1
      cases e2
      obtain ⟨j,hj,rfl⟩:=src y (List.mem_of_getElem? hpi)
      exact (adE j hj).2.1.same (bi (aQ fr _) fr)
end
end L2
namespace ST
open PySem
section
variable {prog:Program} {w:World} {A:Around} {s:Shared} {R:Result→Shared→Prop} {I:Addr} {fp wr:List Addr} {G:Array GenState→Array GenState→Prop} {n:Nat} {P:Nat→Value→Prop} {St:Nat→Shared→Prop} {T:String}
def wO (prog:Program) (w:World) (T:String):Prop:=∀ (A:Around) (E:Value→Shared→Prop) (s:Shared) (r:Addr) (Q:Bool→Shared→Prop),s.TypeIs (.ref r) T→(∀ b,Q b s)→wpAny (model prog w) A (Builtin.List.listLengthHint (.ref r)) Q E s
end
section
variable {prog:Program} {w:World} {A:Around} {E:Value→Shared→Prop} {s:Shared} {I:Addr} {fp wr:List Addr} {G:Array GenState→Array GenState→Prop} {n:Nat} {P:Nat→Value→Prop} {St:Nat→Shared→Prop} {T:String}
end
end ST
namespace L2
open PySem PySem.Spec PyProof.Rows
theorem aG.rev:∀ {xs:List V} {us:List Value},aG xs us→aG xs.reverse us.reverse:=fun {xs us} r=> by
 induction r with
 | nil=> exact .nil
 | @cons x u xs us r1 r2 ih=>
  rw [List.reverse_cons,List.reverse_cons]
  have app:∀ {a:List V} {b:List Value},aG a b→aG (a++[x]) (b++[u]):=fun {a b} q=> by
   induction q with
   | nil=> exact .cons r1 .nil
   | cons q1 _ ih'=> exact .cons q1 ih'
  exact app ih
theorem Rps.rev {K:PySem.W.Frag} {H:Hp} {vs:List V} {xs:List U} (r:Rps K H vs xs):Rps K H vs.reverse xs.reverse:=⟨by simp [r.len],fun i v x h1 h2=> by
 have hi:i < vs.length:=by have:=aJ h1; simpa using this
 have hx:i < xs.length:=by rw [← r.len]; exact hi
 rw [List.getElem?_reverse hi] at h1
 rw [List.getElem?_reverse hx,← r.len] at h2
 exact r.at_ _ v x h1 h2⟩
section
variable {X:Cx} {H0:Hp} {O0:List Addr} {ps:PSt} {e k:Expr} {x:U} {xs:List U} {pos pos' p p' p2:Pos}
theorem ul {K:PySem.W.Frag} {H:Hp} {v:V} (rp:Rp K H v x) (hx:x=.lst xs∨x=.scr xs):∃ a vs,v=.ref a∧SqL K H a vs∧Rps K H vs xs:=by
 rcases hx with rfl | rfl
 ·cases rp with
  | lst hq hl hh=> exact ⟨_,_,rfl,SqL.of hq,hl,hh⟩
 ·cases rp with
  | scr hq hl hh=> exact ⟨_,_,rfl,hq,hl,hh⟩
theorem v8 (he:Ev X H0 O0 ps e x) (hk:Ev X H0 O0 ps k (.int (-1))) (hx:x=.lst xs∨x=.scr xs):EvN X H0 O0 ps (.Subscript e (.Slice none none (some k) p2) pos) xs.reverse:=by
 rintro pins s σ H Q I ⟨O,R,q⟩
 refine Subscript_ (thn (he pins s σ H (fun v H1=> aB H H1∧Rp X.K (hid H1 O) v x) I ⟨O,R,fun v H1 s1 r1=> ⟨s1,r1⟩⟩) fun u s1 ⟨v,H1,I1,r1,sm,rp⟩=> ?_)
 obtain ⟨a,vs,rfl,hq,rs⟩:=ul rp hx
 cases r1
 refine wpAny_Slice ?_
 rw [evalPart_none]
 refine wpAny_pure (wpAny_pure ?_)
 rw [evalPart_some]
 refine thn (hk pins s1 σ H1 (fun v H2=> aB H1 H2∧v=.int (-1)) I1 ⟨O,R.go sm,fun v H2 s2 r2=> ⟨s2,by cases r2; rfl⟩⟩) fun uk s2 hy=> ?_
 obtain ⟨vk,H2,I2,rk,s12,rfl⟩:=hy
 obtain ⟨t,rfl⟩:=rk
 have I3:Inv X pins σ H2 { s2 with heap:=s2.heap.push { cls:=.type "slice",data:=.fields #[.none,.none,.int (-1) t] } }:=I2.kept (t':=s2.toks) fun b ob z=> Heap.get?_push_of_some _ z
 obtain ⟨its,rv,pl,hz⟩:=I3.list (s12.seq (av.seq hq))
 have hlen:=rv.length
 show wpAny (model X.prog X.w) X.A (subscriptTail e (.Slice none none (some k) p2) (.ref a) (.ref s2.heap.objs.size)) (EP X pins σ Q) X.xe { s2 with heap:=s2.heap.push { cls:=.type "slice",data:=.fields #[.none,.none,.int (-1) t] } }
 refine tail_any (ops:=[.ref a,.ref s2.heap.objs.size]) pl.isList.typeIs slot_list_getitem.lookup ?_ (by with_unfolding_all rfl)
 refine wpAny_getItem_list_slice pl.isList (Heap.IsSliceOf.new ..) .none .none (IsPart.int _ _) (by simp) ?_ (by rw [List.size_toArray]; omega)
 rw [PySem.W.krv_pick]
 generalize hn:(s2.heap.push { cls:=.type "slice",data:=.fields #[.none,.none,.int (-1) t] }).objs.size=D
 have fr:H2 D=none:=I3.hok.fresh (by rw [← hn]; exact Nat.le_refl _)
 refine ⟨.ref D,upd H2 D (.lst vs.reverse),I3.laid (t':=s2.toks) (o:=.lst vs.reverse) (fun b ob z=> Heap.get?_push_of_some _ z) (by rw [← hn]; exact Nat.le_refl _) ⟨by rw [List.length_reverse]; exact hz,its.reverse,0,rv.rev,?_⟩,rfl,?_⟩
 ·rw [← hn]; exact Heap.get?_push_size _ rfl
 ·refine q D _ _ ((sm.trans s12).trans (aQ fr _)) ((sm.trans s12).free fr) aH ?_
  exact (rs.rev.same (aY s12)).same (bi (aQ fr _) fr)
end
end L2
namespace L2
open PySem PySem.Spec PyProof.Rows
section
variable {X:Cx} {H0:Hp} {O0:List Addr} {ps:PSt} {xs:List U} {us:List U} {es:List Expr} {x:Str} {pc p' pos:Pos}
theorem jj (n:Nat) (h:ps[n]?=some (some (.own xs))) (hg:Gl X "len") (hm:X.mg "len"=none) (hN:X.N[n]?=some x:=by rfl) (hv:Vis X.env.scope x:=by first | exact Or.inl rfl | exact Or.inr (Or.inl rfl) | exact Or.inr (Or.inr rfl)) (hd:(x==("__debug__":Str))=false:=by decide)
  (hcd:(x==("__classdict__":Str))=false:=by decide) (hpl:(backTo pos (starEach [] X.env)).any (·.1)=false:=by rfl):Ev X H0 O0 ps (.Call (.Name "len" pc) [.Name x p'] [] pos) (.int xs.length):=u_ n h hg hm hN hv hd hcd ag hpl
end
end L2
namespace ST
open PySem
abbrev fc (h:Heap) (z TI TO T:Addr) (b:Bool):Prop:=h.get? z=some { cls:=.type "zip",dict:=none,data:=.fields #[rawInt T,.bool b,.bool false,.ref TI,.ref TO],slots:=#[] }
section
variable {prog:Program} {w:World} {A:Around} {E:Value→Shared→Prop} {s:Shared}
theorem vS {T:Addr} {o:Obj} {Q:Option Obj→Shared→Prop} (h:s.heap.get? T=some o) (q:Q (some o) s):wpAny (model prog w) A (loadIfAlive T) Q E s:=fun Γ p hΓ=> by
 unfold loadIfAlive
 rw [Sem.wp_loadIfAlive,h]
 simpa using q
theorem d6 {z TI TO T:Addr} {b:Bool} {oT:Obj} {Q:Bool→Shared→Prop} (hz:fc s.heap z TI TO T b) (hT:s.heap.get? T=some oT) (h:∀ h',fc h' z TI TO T true→Heap.SameBut z s.heap h'→Q false { s with heap:=h' }):
  wpAny (model prog w) A (Builtin.SmallTypes.ownedTupleIsFree (.ref z)) Q E s:=by
 unfold Builtin.SmallTypes.ownedTupleIsFree
 refine wpAny_bind (wpAny_field hz rfl (x:=rawInt T) rfl ?_)
 dsimp only [rawInt]
 refine wpAny_bind (vS (T:=(T:Int).toNat) (o:=oT) (by rw [Int.toNat_natCast]; exact hT) ?_)
 rw [if_neg (by simp)]
 refine wpAny_bind (wpAny_field hz rfl (x:=.bool b) rfl ?_)
 cases b with
 | true=>
  rw [if_neg (by decide)]
  exact wpAny_pure (h s.heap hz (Heap.SameBut.refl _ _))
 | false=>
  rw [if_pos (by decide)]
  refine wpAny_bind (wpAny_setField_rec hz (by simp) fun h₁ hz₁ hs₁=> wpAny_pure (h h₁ hz₁ hs₁))
theorem qj {z TI TO i1 i2 l1 l2 T:Addr} {b:Bool} {oT:Obj} {k1 k2:Nat} {xs ys:Array Value} {x y:Value} {Q:Value→Shared→Prop} (D:ZipApart z TI TO i1 i2 l1 l2)
  (hz:fc s.heap z TI TO T b) (hT:s.heap.get? T=some oT) (hTI:IsPair s.heap TI (.ref i1) (.ref i2))
  (h1:s.heap.IsListIter i1 l1 k1) (h2:s.heap.IsListIter i2 l2 k2) (hl1:s.heap.IsList l1 xs) (hl2:s.heap.IsList l2 ys) (hx:xs[k1]?=some x) (hy:ys[k2]?=some y)
  (hQ:∀ h',fc h' z TI TO T true→h'.IsListIter i1 l1 (k1+1)→h'.IsListIter i2 l2 (k2+1)→IsPair h' s.heap.objs.size x y→(∀ c o,c≠z→c≠i1→c≠i2→s.heap.get? c=some o→h'.get? c=some o)→Q (.ref s.heap.objs.size) { s with heap:=h' }):
  wpAny (model prog w) A (Builtin.«zip.__next__» ⟨[.ref z],[]⟩) (fun fin s'=> ∃ v,fin=.done (.ret v)∧Q v s') E s:=by
 show wpAny _ _ (field (.ref z) 2 >>=_) _ _ _
 refine wpAny_bind (wpAny_field hz rfl (x:=.bool false) rfl ?_)
 show wpAny _ _ (field (.ref z) 3 >>=_) _ _ _
 refine wpAny_bind (wpAny_field hz rfl (x:=.ref TI) rfl (wpAny_bind (wpAny_seqItems hTI rfl ?_)))
 show wpAny _ _ (Builtin.SmallTypes.ownedTupleIsFree (.ref z) >>=_) _ _ _
 refine wpAny_bind (d6 hz hT fun ha za sa=> ?_)
 simp only [Bool.false_eq_true,if_false]
 refine wpAny_bind ?_
 rw [← Array.forIn_toList]
 show wpAny _ _ (forIn [Value.ref i1,Value.ref i2] _ _) _ _ _
 simp only [List.forIn_cons,List.forIn_nil]
 refine wpAny_bind (wpAny_bind (wpAny_holding ?_))
 show wpAny _ _ (Builtin.SmallTypes.nextOf (.ref i1) >>=_) _ _ _
 refine wpAny_bind (wpAny_nextOf_list_item (h1.extBut sa.extBut D.i1z) (hl1.extBut sa.extBut D.l1z) hx fun hb b1 sb=> wpAny_pure ?_)
 dsimp only
 refine wpAny_pure ?_
 dsimp only
 refine wpAny_bind (wpAny_bind (wpAny_holding ?_))
 show wpAny _ _ (Builtin.SmallTypes.nextOf (.ref i2) >>=_) _ _ _
 refine wpAny_bind (wpAny_nextOf_list_item ((h2.extBut sa.extBut D.i2z).extBut sb.extBut D.i12.symm) ((hl2.extBut sa.extBut D.l2z).extBut sb.extBut D.l2i1) hy fun hc c2 sc=> wpAny_pure ?_)
 dsimp only
 refine wpAny_pure (wpAny_pure ?_)
 dsimp only
 refine wpAny_bind (wpAny_newTuple ?_ (by show 2≤sizeLine; rw [sizeLine_eq]; omega))
 have hsz:hc.objs.size=s.heap.objs.size:=by rw [sc.1,sb.1,sa.1]
 have zc:fc hc z TI TO T true:=sc.extBut _ _ D.i2z.symm (sb.extBut _ _ D.i1z.symm za)
 refine wpAny_pure ⟨_,rfl,?_⟩
 show Q (.ref hc.objs.size) _
 rw [hsz]
 refine hQ _ (Heap.get?_push_of_some _ zc) (((b1.extBut sc.extBut D.i12)).at fun o e=> Heap.get?_push_of_some _ e) (c2.at fun o e=> Heap.get?_push_of_some _ e) ?_ fun c o n1 n2 n3 e=> Heap.get?_push_of_some _ (sc.extBut _ _ n3 (sb.extBut _ _ n2 (sa.extBut _ _ n1 e)))
 rw [← hsz]
 exact Heap.get?_push_size _ rfl
theorem jh {z TI TO i1 i2 l1 l2 T:Addr} {b:Bool} {oT:Obj} {k1:Nat} {xs:Array Value} {Q:PySem.Fin→Shared→Prop} (hh:A.handled=none) (D:ZipApart z TI TO i1 i2 l1 l2)
  (hz:fc s.heap z TI TO T b) (hT:s.heap.get? T=some oT) (hTI:IsPair s.heap TI (.ref i1) (.ref i2))
  (h1:s.heap.IsListIter i1 l1 k1) (hl1:s.heap.IsList l1 xs) (hx:xs[k1]?=none)
  (hE:∀ h' e,(∀ c o,c≠z→c≠i1→c≠i2→s.heap.get? c=some o→h'.get? c=some o)→(∃ o,h'.get? e=some o∧o.cls=.type "StopIteration")→E (.ref e) { s with heap:=h' }):
  wpAny (model prog w) A (Builtin.«zip.__next__» ⟨[.ref z],[]⟩) Q E s:=by
 show wpAny _ _ (field (.ref z) 2 >>=_) _ _ _
 refine wpAny_bind (wpAny_field hz rfl (x:=.bool false) rfl ?_)
 show wpAny _ _ (field (.ref z) 3 >>=_) _ _ _
 refine wpAny_bind (wpAny_field hz rfl (x:=.ref TI) rfl (wpAny_bind (wpAny_seqItems hTI rfl ?_)))
 show wpAny _ _ (Builtin.SmallTypes.ownedTupleIsFree (.ref z) >>=_) _ _ _
 refine wpAny_bind (d6 hz hT fun ha za sa=> ?_)
 simp only [Bool.false_eq_true,if_false]
 refine wpAny_bind ?_
 rw [← Array.forIn_toList]
 show wpAny _ _ (forIn [Value.ref i1,Value.ref i2] _ _) _ _ _
 simp only [List.forIn_cons,List.forIn_nil]
 refine wpAny_bind (wpAny_bind (wpAny_holding ?_))
 show wpAny _ _ (Builtin.SmallTypes.nextOf (.ref i1) >>=_) _ _ _
 refine wpAny_bind (wpAny_nextOf_list_end hh (h1.extBut sa.extBut D.i1z) (hl1.extBut sa.extBut D.l1z) hx fun hb e sb he=> ?_)
 exact hE hb e (fun c o n1 n2 n3 q=> sb _ _ n2 (sa.extBut _ _ n1 q)) he
theorem h7 {z TI TO i1 i2 l1 l2 T:Addr} {b:Bool} {oT:Obj} {k1 k2:Nat} {xs ys:Array Value} {x:Value} {Q:PySem.Fin→Shared→Prop} (hh:A.handled=none) (D:ZipApart z TI TO i1 i2 l1 l2)
  (hz:fc s.heap z TI TO T b) (hT:s.heap.get? T=some oT) (hTI:IsPair s.heap TI (.ref i1) (.ref i2))
  (h1:s.heap.IsListIter i1 l1 k1) (h2:s.heap.IsListIter i2 l2 k2) (hl1:s.heap.IsList l1 xs) (hl2:s.heap.IsList l2 ys) (hx:xs[k1]?=some x) (hy:ys[k2]?=none)
  (hE:∀ h' e,(∀ c o,c≠z→c≠i1→c≠i2→s.heap.get? c=some o→h'.get? c=some o)→(∃ o,h'.get? e=some o∧o.cls=.type "StopIteration")→E (.ref e) { s with heap:=h' }):
  wpAny (model prog w) A (Builtin.«zip.__next__» ⟨[.ref z],[]⟩) Q E s:=by
 show wpAny _ _ (field (.ref z) 2 >>=_) _ _ _
 refine wpAny_bind (wpAny_field hz rfl (x:=.bool false) rfl ?_)
 show wpAny _ _ (field (.ref z) 3 >>=_) _ _ _
 refine wpAny_bind (wpAny_field hz rfl (x:=.ref TI) rfl (wpAny_bind (wpAny_seqItems hTI rfl ?_)))
 show wpAny _ _ (Builtin.SmallTypes.ownedTupleIsFree (.ref z) >>=_) _ _ _
 refine wpAny_bind (d6 hz hT fun ha za sa=> ?_)
 simp only [Bool.false_eq_true,if_false]
 refine wpAny_bind ?_
 rw [← Array.forIn_toList]
 show wpAny _ _ (forIn [Value.ref i1,Value.ref i2] _ _) _ _ _
 simp only [List.forIn_cons,List.forIn_nil]
 refine wpAny_bind (wpAny_bind (wpAny_holding ?_))
 show wpAny _ _ (Builtin.SmallTypes.nextOf (.ref i1) >>=_) _ _ _
 refine wpAny_bind (wpAny_nextOf_list_item (h1.extBut sa.extBut D.i1z) (hl1.extBut sa.extBut D.l1z) hx fun hb b1 sb=> wpAny_pure ?_)
 dsimp only
 refine wpAny_pure ?_
 dsimp only
 refine wpAny_bind (wpAny_bind (wpAny_holding ?_))
 show wpAny _ _ (Builtin.SmallTypes.nextOf (.ref i2) >>=_) _ _ _
 refine wpAny_bind (wpAny_nextOf_list_end hh ((h2.extBut sa.extBut D.i2z).extBut sb.extBut D.i12.symm) ((hl2.extBut sa.extBut D.l2z).extBut sb.extBut D.l2i1) hy fun hc e sc he=> ?_)
 exact hE hc e (fun c o n1 n2 n3 q=> sc _ _ n3 (sb.extBut _ _ n2 (sa.extBut _ _ n1 q))) he
theorem nN {z TI TO i1 i2 l1 l2 T:Addr} {b:Bool} {oT:Obj} {k1 k2:Nat} {xs ys:Array Value} {x y:Value} {Q:Option Value→Shared→Prop} (D:ZipApart z TI TO i1 i2 l1 l2)
  (hz:fc s.heap z TI TO T b) (hT:s.heap.get? T=some oT) (hTI:IsPair s.heap TI (.ref i1) (.ref i2))
  (h1:s.heap.IsListIter i1 l1 k1) (h2:s.heap.IsListIter i2 l2 k2) (hl1:s.heap.IsList l1 xs) (hl2:s.heap.IsList l2 ys) (hx:xs[k1]?=some x) (hy:ys[k2]?=some y)
  (hQ:∀ h',fc h' z TI TO T true→h'.IsListIter i1 l1 (k1+1)→h'.IsListIter i2 l2 (k2+1)→IsPair h' s.heap.objs.size x y→(∀ c o,c≠z→c≠i1→c≠i2→s.heap.get? c=some o→h'.get? c=some o)→Q (some (.ref s.heap.objs.size)) { s with heap:=h' }):
  wpAny (model prog w) A (pyNext (.ref z)) Q E s:=by
 have hty:s.TypeIs (.ref z) "zip":=⟨_,hz,rfl⟩
 unfold pyNext
 exact wpAny_bind (wpAny_attempt (wpAny_callSpecial?_slot (name:=Str.ofString "__next__") hty PySem.F.slot_zip_next
  (wpAny_call_entry PySem.F.slot_zip_next hty PySem.F.entry_zip_next (qj D hz hT hTI h1 h2 hl1 hl2 hx hy fun h' a1 a2 a3 a4 a5=> wpAny_pure (hQ h' a1 a2 a3 a4 a5)) (PySem.F.args_zip_next_1 _))))
theorem ij {z TI TO i1 i2 l1 l2 T:Addr} {b:Bool} {oT:Obj} {k1:Nat} {xs:Array Value} {Q:Option Value→Shared→Prop} (hh:A.handled=none) (D:ZipApart z TI TO i1 i2 l1 l2)
  (hz:fc s.heap z TI TO T b) (hT:s.heap.get? T=some oT) (hTI:IsPair s.heap TI (.ref i1) (.ref i2)) (h1:s.heap.IsListIter i1 l1 k1) (hl1:s.heap.IsList l1 xs) (hx:xs[k1]?=none)
  (hQ:∀ h',(∀ c o,c≠z→c≠i1→c≠i2→s.heap.get? c=some o→h'.get? c=some o)→Q none { s with heap:=h' }):wpAny (model prog w) A (pyNext (.ref z)) Q E s:=by
 have hty:s.TypeIs (.ref z) "zip":=⟨_,hz,rfl⟩
 unfold pyNext
 refine wpAny_bind (wpAny_attempt (wpAny_callSpecial?_slot (name:=Str.ofString "__next__") hty PySem.F.slot_zip_next
  (wpAny_call_entry PySem.F.slot_zip_next hty PySem.F.entry_zip_next (jh hh D hz hT hTI h1 hl1 hx fun h' e hk he=> ?_) (PySem.F.args_zip_next_1 _))))
 obtain ⟨o,ho,hc⟩:=he
 refine wpAny_bind (wpAny_isInstance (T:="StopIteration") (b:=true) ⟨o,ho,hc⟩ isSubtype_stop ?_)
 exact wpAny_pure (hQ h' hk)
theorem gT {z TI TO i1 i2 l1 l2 T:Addr} {b:Bool} {oT:Obj} {k1 k2:Nat} {xs ys:Array Value} {x:Value} {Q:Option Value→Shared→Prop} (hh:A.handled=none) (D:ZipApart z TI TO i1 i2 l1 l2)
  (hz:fc s.heap z TI TO T b) (hT:s.heap.get? T=some oT) (hTI:IsPair s.heap TI (.ref i1) (.ref i2)) (h1:s.heap.IsListIter i1 l1 k1) (h2:s.heap.IsListIter i2 l2 k2) (hl1:s.heap.IsList l1 xs) (hl2:s.heap.IsList l2 ys) (hx:xs[k1]?=some x) (hy:ys[k2]?=none)
  (hQ:∀ h',(∀ c o,c≠z→c≠i1→c≠i2→s.heap.get? c=some o→h'.get? c=some o)→Q none { s with heap:=h' }):wpAny (model prog w) A (pyNext (.ref z)) Q E s:=by
 have hty:s.TypeIs (.ref z) "zip":=⟨_,hz,rfl⟩
 unfold pyNext
 refine wpAny_bind (wpAny_attempt (wpAny_callSpecial?_slot (name:=Str.ofString "__next__") hty PySem.F.slot_zip_next
  (wpAny_call_entry PySem.F.slot_zip_next hty PySem.F.entry_zip_next (h7 hh D hz hT hTI h1 h2 hl1 hl2 hx hy fun h' e hk he=> ?_) (PySem.F.args_zip_next_1 _))))
 obtain ⟨o,ho,hc⟩:=he
 refine wpAny_bind (wpAny_isInstance (T:="StopIteration") (b:=true) ⟨o,ho,hc⟩ isSubtype_stop ?_)
 exact wpAny_pure (hQ h' hk)
end
structure ZL (xs ys:Array Value) (z TI TO i1 i2 l1 l2 S:Addr) (h:Heap) (i:Nat) (ad:List Addr) (c:Nat):Prop where
 ti:IsPair h TI (.ref i1) (.ref i2)
 a1:h.IsListIter i1 l1 i
 a2:h.IsListIter i2 l2 i
 b1:h.IsList l1 xs
 b2:h.IsList l2 ys
 acc:h.get? S=some { cls:=.type "list",dict:=none,data:=.seq (ad.map Value.ref).toArray c,slots:=#[] }
 len:ad.length=i
 tup:∀ (j:Nat) (a:Addr),ad[j]?=some a→∃ x y,xs[j]?=some x∧ys[j]?=some y∧IsPair h a x y
 far:∀ a∈ad,a≠z∧a≠TO∧a≠i1∧a≠i2∧a≠S
 to:∃ o,h.get? TO=some o
 nd:ad.Nodup
 zz:(i=0∧IsZip h z TI TO .none∧∃ a b,IsPair h TO a b)∨(∃ b T,ad[0]?=some T∧fc h z TI TO T b)
section
variable {prog:Program} {w:World} {A:Around} {R:Result→Shared→Prop}
theorem ZL.put {xs ys:Array Value} {z TI TO i1 i2 l1 l2 S:Addr} {h h':Heap} {i:Nat} {ad:List Addr} {c:Nat} {a:Addr} {x y:Value} (Z:ZL xs ys z TI TO i1 i2 l1 l2 S h i ad c) (D:ZipApart z TI TO i1 i2 l1 l2)
  (hS:S≠z∧S≠TI∧S≠TO∧S≠i1∧S≠i2∧S≠l1∧S≠l2) (ha:a=h.objs.size) (hzlt:z < h.objs.size) (nto:∃ o,h'.get? TO=some o) (hx:xs[i]?=some x) (hy:ys[i]?=some y)
  (n1:h'.IsListIter i1 l1 (i+1)) (n2:h'.IsListIter i2 l2 (i+1)) (np:IsPair h' a x y) (nk:∀ c o,c≠z→c≠TO→c≠i1→c≠i2→h.get? c=some o→h'.get? c=some o)
  (nz:∃ b T,(ad++[a])[0]?=some T∧fc h' z TI TO T b):
  ∃ c',ZL xs ys z TI TO i1 i2 l1 l2 S (h'.update S (Obj.mapSeq (·.push (.ref a)))) (i+1) (ad++[a]) c':=by
 obtain ⟨s1,s2,s3,s4,s5,s6,s7⟩:=hS
 have gS:h'.get? S=some { cls:=.type "list",dict:=none,data:=.seq (ad.map Value.ref).toArray c,slots:=#[] }:=nk S _ s1 s3 s4 s5 Z.acc
 have oth:∀ b o,b≠S→h'.get? b=some o→(h'.update S (Obj.mapSeq (·.push (.ref a)))).get? b=some o:=fun b o hb e=> (Heap.get?_update_other _ _ (Ne.symm hb)).trans e
 have hlt:∀ b o,h.get? b=some o→b≠a:=fun b o e z=> by rw [z,ha] at e; exact Nat.lt_irrefl _ (Heap.lt_size e)
 have aS:a≠S:=fun e=> hlt S _ Z.acc e.symm
 have ai1:a≠i1:=by obtain ⟨o,e,_⟩:=Z.a1; exact fun q=> hlt i1 o e q.symm
 have ai2:a≠i2:=by obtain ⟨o,e,_⟩:=Z.a2; exact fun q=> hlt i2 o e q.symm
 have az:a≠z:=by rw [ha]; exact Nat.ne_of_gt hzlt
 have aTO:a≠TO:=by obtain ⟨o,e⟩:=Z.to; exact fun q=> hlt TO o e q.symm
 obtain ⟨c',gS'⟩:∃ c',(h'.update S (Obj.mapSeq (·.push (.ref a)))).get? S=some { cls:=.type "list",dict:=none,data:=.seq ((ad.map Value.ref).toArray.push (.ref a)) c',slots:=#[] }:=⟨_,PyProof.Rows.get?_update_seq gS (·.push (.ref a))⟩
 refine ⟨c',⟨oth _ _ s2.symm (nk TI _ D.TIz D.TITO D.TIi1 D.TIi2 Z.ti),n1.at fun o e=> oth _ o s4.symm e,n2.at fun o e=> oth _ o s5.symm e,?_,?_,?_,by rw [List.length_append,Z.len]; rfl,?_,?_,?_,?_,?_⟩⟩
 ·exact (Z.b1.at fun o e=> nk l1 o D.l1z D.l1TO D.l1i1 D.l1i2 e).at fun o e=> oth _ o s6.symm e
 ·exact (Z.b2.at fun o e=> nk l2 o D.l2z D.l2TO D.l2i1 D.l2i2 e).at fun o e=> oth _ o s7.symm e
 ·rw [gS']; simp
 ·intro j b hj
  rcases Nat.lt_or_ge j ad.length with q | q
  ·rw [List.getElem?_append_left q] at hj
   obtain ⟨x',y',e1,e2,e3⟩:=Z.tup j b hj
   obtain ⟨f1,f2,f3,f4,f5⟩:=Z.far b (List.mem_of_getElem? hj)
   exact ⟨x',y',e1,e2,oth _ _ f5 (nk b _ f1 f2 f3 f4 e3)⟩
  ·rw [List.getElem?_append_right q] at hj
   have hj0:j=i:=by
    have:=(List.getElem?_eq_some_iff.mp hj).1
    simp at this; rw [Z.len] at *; omega
   subst hj0
   rw [Z.len,Nat.sub_self] at hj
   cases hj
   exact ⟨x,y,hx,hy,oth _ _ aS np⟩
 ·intro b hb
  rcases List.mem_append.mp hb with q | q
  ·exact Z.far b q
  ·rw [List.mem_singleton.mp q]; exact ⟨az,aTO,ai1,ai2,aS⟩
 ·obtain ⟨o,e⟩:=nto; exact ⟨o,oth _ _ s3.symm e⟩
 ·rw [List.nodup_append]
  refine ⟨Z.nd,by simp,fun p hp q hq=> ?_⟩
  rw [List.mem_singleton.mp hq]
  obtain ⟨j,hj⟩:=List.mem_iff_getElem?.mp hp
  obtain ⟨_,_,_,_,e⟩:=Z.tup j p hj
  exact hlt p _ e
 ·obtain ⟨b,T,e1,e2⟩:=nz
  exact .inr ⟨b,T,e1,oth _ _ s1.symm e2⟩
end
end ST
namespace ST
open PySem
section
variable {prog:Program} {w:World} {A:Around} {R:Result→Shared→Prop}
structure ZF (xs ys:Array Value) (S:Addr) (h:Heap) (ad:List Addr) (c:Nat):Prop where
 acc:h.get? S=some { cls:=.type "list",dict:=none,data:=.seq (ad.map Value.ref).toArray c,slots:=#[] }
 len:ad.length=ys.size
 tup:∀ (j:Nat) (a:Addr),ad[j]?=some a→∃ x y,xs[j]?=some x∧ys[j]?=some y∧IsPair h a x y
 ne:∀ a∈ad,a≠S
 nd:ad.Nodup
set_option maxHeartbeats 1000000 in
theorem jM (hh:A.in1.handled=none) {xs ys:Array Value} {z TI TO i1 i2 l1 l2 S:Addr} (D:ZipApart z TI TO i1 i2 l1 l2) (hS:S≠z∧S≠TI∧S≠TO∧S≠i1∧S≠i2∧S≠l1∧S≠l2) (hxy:ys.size≤xs.size) (hn:xs.size≤1000) (res:Value):
  ∀ (k i:Nat) (s:Shared) (ad:List Addr) (c:Nat),ys.size - i=k→i≤ys.size→ZL xs ys z TI TO i1 i2 l1 l2 S s.heap i ad c→
   (∀ h' ad' c',ZF xs ys S h' ad' c'→(∀ b o,b≠z→b≠TO→b≠i1→b≠i2→b≠S→s.heap.get? b=some o→h'.get? b=some o)→(∀ a∈ad',a∈ad∨s.heap.get? a=none)→R (.ok (.ret res)) { s with heap:=h' })→
   codeAny (model prog w) A (.builtin "list.extend.loop" ⟨[.ref S,.ref z,res],[]⟩) R s:=by
 intro k
 induction k with
 | zero=>
  intro i s ad c hk hi Z hR
  obtain rfl:i=ys.size:=by omega
  refine codeAny_builtin PySem.F.entry_extend_loop ?_
  rw [Around.under_plainId PySem.F.plain_extend_loop _]
  show wpAny _ A.in1 (pyNext (.ref z) >>=_) _ _ s
  have fin:∀ h',(∀ b o,b≠z→b≠TO→b≠i1→b≠i2→s.heap.get? b=some o→h'.get? b=some o)→R (.ok (.ret res)) { s with heap:=h' }:=fun h' kp=>
   hR h' ad c ⟨kp S _ hS.1 hS.2.2.1 hS.2.2.2.1 hS.2.2.2.2.1 Z.acc,Z.len,fun j a e=> by
    obtain ⟨x,y,e1,e2,e3⟩:=Z.tup j a e
    obtain ⟨f1,f2,f3,f4,f5⟩:=Z.far a (List.mem_of_getElem? e)
    exact ⟨x,y,e1,e2,kp a _ f1 f2 f3 f4 e3⟩,fun a ha=> (Z.far a ha).2.2.2.2,Z.nd⟩ (fun b o n1 n2 n3 n4 _ e=> kp b o n1 n2 n3 n4 e) fun a ha=> .inl ha
  rcases Z.zz with ⟨h0,hz,a,b,hTO⟩ | ⟨b,T,hT,hz⟩
  ·refine wpAny_bind (wpAny_pyNext_zip_end hh D hz Z.ti hTO Z.a1 Z.a2 Z.b1 Z.b2 (.inr (by simp)) fun h' kp=> ?_)
   exact wpAny_pure (fin h' kp)
  ·obtain ⟨x,y,_,_,hp⟩:=Z.tup 0 T hT
   by_cases hq:ys.size < xs.size
   ·refine wpAny_bind (gT hh D hz hp Z.ti Z.a1 Z.a2 Z.b1 Z.b2 (Array.getElem?_eq_getElem hq) (by simp) fun h' kp=> ?_)
    exact wpAny_pure (fin h' fun b o n1 _ n3 n4 e=> kp b o n1 n3 n4 e)
   ·refine wpAny_bind (ij hh D hz hp Z.ti Z.a1 Z.b1 (Array.getElem?_eq_none (by omega)) fun h' kp=> ?_)
    exact wpAny_pure (fin h' fun b o n1 _ n3 n4 e=> kp b o n1 n3 n4 e)
 | succ k ih=>
  intro i s ad c hk hi Z hR
  have hlt:i < xs.size:=by omega
  have hly:i+1≤ys.size:=by omega
  have hx:xs[i]?=some xs[i]:=Array.getElem?_eq_getElem hlt
  have hy:ys[i]?=some (ys[i]'(by omega)):=Array.getElem?_eq_getElem (by omega)
  refine codeAny_builtin PySem.F.entry_extend_loop ?_
  rw [Around.under_plainId PySem.F.plain_extend_loop _]
  show wpAny _ A.in1 (pyNext (.ref z) >>=_) _ _ s
  have go:∀ h',(∃ b T,(ad++[s.heap.objs.size])[0]?=some T∧fc h' z TI TO T b)→(∃ o,h'.get? TO=some o)→h'.IsListIter i1 l1 (i+1)→h'.IsListIter i2 l2 (i+1)→IsPair h' s.heap.objs.size xs[i] (ys[i]'(by omega))→
    (∀ b o,b≠z→b≠TO→b≠i1→b≠i2→s.heap.get? b=some o→h'.get? b=some o)→
    wpAny (model prog w) A.in1 (updateSeq S (·.push (.ref s.heap.objs.size)) >>=fun _=> again (.builtin "list.extend.loop" ⟨[.ref S,.ref z,res],[]⟩))
     (fun fin s'=> match fin with | .done f=> R (.ok f) s' | .again c'=> c'.quiet=true∧codeAny (model prog w) A c' R s') (fun e s'=> R (.error e) s') { s with heap:=h' }:=fun h' nz nto n1 n2 np nk=> by
   have gS:h'.get? S=some { cls:=.type "list",dict:=none,data:=.seq (ad.map Value.ref).toArray c,slots:=#[] }:=nk S _ hS.1 hS.2.2.1 hS.2.2.2.1 hS.2.2.2.2.1 Z.acc
   have hzlt:z < s.heap.objs.size:=by
    rcases Z.zz with ⟨_,hz,_⟩ | ⟨_,_,_,hz⟩ <;> exact Heap.lt_size hz
   obtain ⟨c',Z'⟩:=Z.put D hS rfl hzlt nto hx hy n1 n2 np nk nz
   have hal:((ad.map Value.ref).toArray).size=i:=by simp [Z.len]
   refine wpAny_bind (wpAny_updateSeq (s:={ s with heap:=h' }) gS rfl (wpAny_pure ⟨plainId_quiet PySem.F.plain_extend_loop _,ih (i+1) _ (ad++[s.heap.objs.size]) c' (by omega) hly Z' fun h2 ad2 c2 F kp fr=> ?_⟩) (by rw [hal,sizeLine_eq]; omega) (by rw [Array.size_push,hal,sizeLine_eq]; omega))
   refine hR h2 ad2 c2 F (fun b o m1 m2 m3 m4 m5 e=> kp b o m1 m2 m3 m4 m5 ((Heap.get?_update_other _ _ (Ne.symm m5)).trans (nk b o m1 m2 m3 m4 e))) fun a ha=> ?_
   rcases fr a ha with q | q
   ·rcases List.mem_append.mp q with q | q
    ·exact .inl q
    ·right; rw [List.mem_singleton.mp q]; exact Heap.get?_none_of_le (Nat.le_refl _)
   ·right
    cases hq:s.heap.get? a with
    | none=> rfl
    | some o=>
     exfalso
     by_cases e1:a=S
     ·subst e1; exact F.ne a ha rfl
     ·have q':h'.get? a=none:=by
       have:=q
       rw [Heap.get?_update_other _ _ (Ne.symm e1)] at this
       exact this
      by_cases f1:a=z
      ·obtain ⟨_,_,_,e⟩:=nz; rw [f1,e] at q'; cases q'
      ·by_cases f2:a=TO
       ·obtain ⟨o',e⟩:=nto; rw [f2,e] at q'; cases q'
       ·by_cases f3:a=i1
        ·obtain ⟨o',e,_⟩:=n1; rw [f3,e] at q'; cases q'
        ·by_cases f4:a=i2
         ·obtain ⟨o',e,_⟩:=n2; rw [f4,e] at q'; cases q'
         ·rw [nk a o f1 f2 f3 f4 hq] at q'; cases q'
  rcases Z.zz with ⟨h0,hz,a,b,hTO⟩ | ⟨b,T,hT,hz⟩
  ·subst h0
   have had:ad=[]:=List.length_eq_zero_iff.mp Z.len
   refine wpAny_bind (wpAny_pyNext_zip_item D hz Z.ti hTO Z.a1 Z.a2 Z.b1 Z.b2 hx hy fun h' m1 m2 m3 m4 m5 _ kp=> ?_)
   exact go h' ⟨false,_,by rw [had]; rfl,m1⟩ ⟨_,m2⟩ m3 m4 m5 kp
  ·obtain ⟨x,y,_,_,hp⟩:=Z.tup 0 T hT
   refine wpAny_bind (nN D hz hp Z.ti Z.a1 Z.a2 Z.b1 Z.b2 hx hy fun h' m1 m3 m4 m5 kp=> ?_)
   refine go h' ⟨true,T,?_,m1⟩ ?_ m3 m4 m5 fun b o n1 _ n3 n4 e=> kp b o n1 n3 n4 e
   ·rw [List.getElem?_append_left (List.getElem?_eq_some_iff.mp hT).1]; exact hT
   ·obtain ⟨o,e⟩:=Z.to; exact ⟨o,kp TO o D.TOz D.TOi1 D.TOi2 e⟩
end
end ST
namespace ST
open PySem
theorem rR:typeLookup (.type "zip") "__len__"=pure none:=by rw [typeLookup_type,builtinLookup_eq_fast]; kernel_rfl
theorem qh:typeLookup (.type "zip") "__length_hint__"=pure none:=by rw [typeLookup_type,builtinLookup_eq_fast]; kernel_rfl
theorem pZ (prog:Program) (w:World):wO prog w "zip":=fun A E s r Q hT h=> by
 unfold Builtin.List.listLengthHint
 refine wpAny_bind (wpAny_specialOf hT rR ?_)
 show wpAny _ A (specialOf (Value.ref r) (Str.ofString "__length_hint__") >>=_) _ _ _
 refine wpAny_bind (wpAny_specialOf hT qh ?_)
 exact wpAny_pure (h _)
section
variable {prog:Program} {w:World} {A:Around} {E:Value→Shared→Prop} {s:Shared}
theorem qN {z TI TO:Addr} {f:Value} {Q:Value→Shared→Prop} (hz:IsZip s.heap z TI TO f) (h:Q (.ref z) s):wpAny (model prog w) A (pyIter (.ref z)) Q E s:=by
 have hT:s.TypeIs (.ref z) "zip":=⟨_,hz,rfl⟩
 refine wpAny_pyIter_slot hT PySem.F.slot_zip_iter (wpAny_call_entry PySem.F.slot_zip_iter hT PySem.F.entry_zip_iter ?_ (PySem.F.args_zip_iter_1 _))
 exact wpAny_pure ⟨_,rfl,"zip",_,hT,PySem.F.slot_zip_next.lookup,h⟩
end
section
variable {prog:Program} {w:World} {A:Around} {R:Result→Shared→Prop} {s:Shared}
theorem ma (hh:A.in1.handled=none) {xs ys:Array Value} {z TI TO i1 i2 l1 l2 S:Addr} (D:ZipApart z TI TO i1 i2 l1 l2) (hS:S≠z∧S≠TI∧S≠TO∧S≠i1∧S≠i2∧S≠l1∧S≠l2) (hxy:ys.size≤xs.size) (hn:xs.size≤1000) (res:Value) {c₀:Nat}
  (hz:IsZip s.heap z TI TO .none) (Z:∀ h',(∀ b o,b≠S→s.heap.get? b=some o→h'.get? b=some o)→∀ c,h'.get? S=some { cls:=.type "list",dict:=none,data:=.seq #[] c,slots:=#[] }→ZL xs ys z TI TO i1 i2 l1 l2 S h' 0 [] c)
  (gS:s.heap.get? S=some { cls:=.type "list",data:=.seq #[] c₀ })
  (hR:∀ h' ad' c',ZF xs ys S h' ad' c'→(∀ b o,b≠z→b≠TO→b≠i1→b≠i2→b≠S→s.heap.get? b=some o→h'.get? b=some o)→(∀ a∈ad',s.heap.get? a=none)→R (.ok (.ret res)) { s with heap:=h' }):
  wpAny (model prog w) A.in1 (Builtin.List.listExtendWith (.ref S) (.ref z) res)
   (fun fin s'=> match fin with | .done f=> R (.ok f) s' | .again c'=> c'.quiet=true∧codeAny (model prog w) A c' R s') (fun e s'=> R (.error e) s') s:=by
 have hT:s.TypeIs (.ref z) "zip":=⟨_,hz,rfl⟩
 unfold Builtin.List.listExtendWith
 refine wpAny_bind (wpAny_typeOf hT ?_)
 have k1:Builtin.List.listSameRef (.ref S) (.ref z)=false:=by simp [Builtin.List.listSameRef,hS.1]
 have k2:(Value.type "zip"==Value.type "list")=false:=by decide
 have k3:(Value.type "zip"==Value.type "tuple")=false:=by decide
 simp only [k1,k2,k3,Bool.or_false,Bool.false_eq_true,if_false]
 refine wpAny_bind (qN hz (wpAny_bind (wpAny_holding (pZ prog w _ _ _ _ _ hT fun b=> ?_))))
 refine wpAny_ite_split (fun _=> ?_) (fun _=> ?_)
 ·refine wpAny_bind (wpAny_rule (wpAny_bind ?_))
  show wpAny _ A.in1 (updateSeq S (·.push .none) >>=fun _=> updateSeq S (·.pop)) _ _ _
  refine wpAny_bind (wpAny_updateSeq gS rfl ?_)
  have g2:=Heap.get?_update_self (Obj.mapSeq (·.push Value.none)) gS rfl
  refine wpAny_updateSeq (hz:=by seq_fits) g2 rfl ?_
  have g3:=Heap.get?_update_self (Obj.mapSeq (·.pop)) g2 rfl
  have oth:∀ b o,b≠S→s.heap.get? b=some o→((s.heap.update S (Obj.mapSeq (·.push Value.none))).update S (Obj.mapSeq (·.pop))).get? b=some o:=fun b o hb e=> (Heap.get?_update_other _ _ (Ne.symm hb)).trans ((Heap.get?_update_other _ _ (Ne.symm hb)).trans e)
  refine wpAny_pure ⟨plainId_quiet PySem.F.plain_extend_loop _,jM (s:={ s with heap:=(s.heap.update S (Obj.mapSeq (·.push Value.none))).update S (Obj.mapSeq (·.pop)) }) hh D hS hxy hn res _ 0 [] _ rfl (Nat.zero_le _) (Z _ oth _ g3) fun h' ad' c' F kp fr=> ?_⟩
  refine hR h' ad' c' F (fun b o m1 m2 m3 m4 m5 e=> kp b o m1 m2 m3 m4 m5 (oth b o m5 e)) fun a ha=> ?_
  rcases fr a ha with q | q
  ·simp at q
  ·cases hq:s.heap.get? a with
   | none=> rfl
   | some o=>
    have e:=oth a o (F.ne a ha) hq
    rw [e] at q; cases q
 ·refine wpAny_pure ⟨plainId_quiet PySem.F.plain_extend_loop _,jM hh D hS hxy hn res _ 0 _ [] _ rfl (Nat.zero_le _) (Z _ (fun _ _ _ e=> e) _ gS) fun h' ad' c' F kp fr=> ?_⟩
  exact hR h' ad' c' F kp fun a ha=> (fr a ha).resolve_left (by simp)
end
section
variable {prog:Program} {w:World} {A:Around} {E:Value→Shared→Prop} {s:Shared}
set_option maxHeartbeats 1000000 in
theorem call_list_zip {Q:Value→Shared→Prop} (hh:A.handled=none) {xs ys:Array Value} {z TI TO i1 i2 l1 l2:Addr} (D:ZipApart z TI TO i1 i2 l1 l2) (hxy:ys.size≤xs.size) (hn:xs.size≤1000)
  (hz:IsZip s.heap z TI TO .none) (hTI:IsPair s.heap TI (.ref i1) (.ref i2)) {a b:Value} (hTO:IsPair s.heap TO a b) (h1:s.heap.IsListIter i1 l1 0) (h2:s.heap.IsListIter i2 l2 0) (hl1:s.heap.IsList l1 xs) (hl2:s.heap.IsList l2 ys)
  (hQ:∀ h' ad' c',ZF xs ys s.heap.objs.size h' ad' c'→(∀ b o,b≠z→b≠TO→b≠i1→b≠i2→s.heap.get? b=some o→h'.get? b=some o)→(∀ a∈ad',s.heap.get? a=none)→Q (.ref s.heap.objs.size) { s with heap:=h' }):
  wpAny (model prog w) A (call (.type "list") [.ref z]) Q E s:=by
 refine callType_codes (Q₁:=fun obj s₁=> obj=.ref s.heap.objs.size∧s₁={ s with heap:=s.heap.push { cls:=.type "list",data:=.seq #[] } }) PySem.F.called_list (PySem.F.typeCall_list_1 _) PySem.F.entry_list_init (code_list_new _ ⟨rfl,rfl⟩) fun obj s₁ h₁=> ?_
 obtain ⟨rfl,rfl⟩:=h₁
 generalize hSd:s.heap.objs.size=S at *
 have lt:∀ c o,s.heap.get? c=some o→S≠c:=fun c o e q=> by rw [← q,← hSd] at e; exact Nat.lt_irrefl _ (Heap.lt_size e)
 have gS:(s.heap.push { cls:=.type "list",data:=.seq #[] }).get? S=some { cls:=.type "list",data:=.seq #[] }:=by rw [← hSd]; exact Heap.get?_push_size _ rfl
 have up:∀ b o,s.heap.get? b=some o→(s.heap.push { cls:=.type "list",data:=.seq #[] }).get? b=some o:=fun b o e=> Heap.get?_push_of_some _ e
 have hS:S≠z∧S≠TI∧S≠TO∧S≠i1∧S≠i2∧S≠l1∧S≠l2:=⟨lt _ _ hz,lt _ _ hTI,lt _ _ hTO,by obtain ⟨o,e,_⟩:=h1; exact lt _ _ e,by obtain ⟨o,e,_⟩:=h2; exact lt _ _ e,by obtain ⟨o,e,_⟩:=hl1; exact lt _ _ e,by obtain ⟨o,e,_⟩:=hl2; exact lt _ _ e⟩
 refine ⟨⟨_,gS,rfl⟩,PySem.F.args_list_init_2 _ _,?_⟩
 show wpAny _ A.in1.in1 (Builtin.List.listItems (.ref S) >>=fun old=> Builtin.List.listUpdate (.ref S) (fun _=> #[]) >>=fun _=> letGo old.toList.reverse >>=fun _=> Builtin.List.listExtendWith (.ref S) (.ref z) .none) _ _ _
 refine wpAny_bind ?_
 unfold Builtin.List.listItems
 refine wpAny_bind (wpAny_seqItems gS rfl (wpAny_pure ?_))
 show wpAny _ A.in1.in1 (updateSeq S (fun _=> #[]) >>=fun _=> letGo (#[]:Array Value).toList.reverse >>=fun _=> Builtin.List.listExtendWith (.ref S) (.ref z) .none) _ _ _
 refine wpAny_bind (wpAny_updateSeq gS rfl ?_)
 have g2:=Heap.get?_update_self (Obj.mapSeq (fun _=> (#[]:Array Value))) gS rfl
 have oth:∀ b o,b≠S→s.heap.get? b=some o→((s.heap.push { cls:=.type "list",data:=.seq #[] }).update S (Obj.mapSeq (fun _=> (#[]:Array Value)))).get? b=some o:=fun b o hb e=> (Heap.get?_update_other _ _ (Ne.symm hb)).trans (up b o e)
 refine wpAny_bind (wpAny_letGo ?_)
 refine ma (A:=A.in1) (s:={ s with heap:=(s.heap.push { cls:=.type "list",data:=.seq #[] }).update S (Obj.mapSeq (fun _=> (#[]:Array Value))) }) hh D hS hxy hn .none (oth _ _ hS.1.symm hz) (fun h' kp c e=> ?_) g2 fun h' ad' c' F kp fr=> ?_
 ·have k:∀ b o,b≠S→s.heap.get? b=some o→h'.get? b=some o:=fun b o hb e=> kp b o hb (oth b o hb e)
  exact ⟨k _ _ hS.2.1.symm hTI,h1.at fun o e=> k _ o hS.2.2.2.1.symm e,h2.at fun o e=> k _ o hS.2.2.2.2.1.symm e,hl1.at fun o e=> k _ o hS.2.2.2.2.2.1.symm e,hl2.at fun o e=> k _ o hS.2.2.2.2.2.2.symm e,e,rfl,fun j a e=> by simp at e,fun a ha=> by simp at ha,⟨_,k _ _ hS.2.2.1.symm hTO⟩,List.nodup_nil,.inl ⟨rfl,k _ _ hS.1.symm hz,a,b,k _ _ hS.2.2.1.symm hTO⟩⟩
 ·refine ⟨rfl,hQ h' ad' c' F (fun b o m1 m2 m3 m4 e=> kp b o m1 m2 m3 m4 (fun q=> lt b o e q.symm) (oth b o (fun q=> lt b o e q.symm) e)) fun a ha=> ?_⟩
  cases hq:s.heap.get? a with
  | none=> rfl
  | some o=>
   have e:=oth a o (F.ne a ha) hq
   have q:=fr a ha
   rw [show ({ s with heap:=(s.heap.push { cls:=.type "list",data:=.seq #[] }).update S (Obj.mapSeq (fun _=> (#[]:Array Value))) }:Shared).heap.get? a=some o from e] at q
   cases q
end
end ST
namespace L2
open PySem PySem.Spec PyProof.Rows
theorem qY {a b:Nat} (h:a < b∨b < a):@Ne Addr a b:=fun e=> by
 have e':a=b:=e
 omega
theorem pC:bootBuiltins "zip"=some (.type "zip"):=by decide+kernel
section
variable {P:Program} {w:World} {H:Hp} {h:Heap} {a:Addr} {o:HO}
theorem dU (x:bR P w H h a o):∃ ob,h.get? a=some ob:=by
 cases o with
 | lst xs=> obtain ⟨_,_,_,_,e⟩:=x; exact ⟨_,e⟩
 | tup xs=> obtain ⟨_,_,_,ob,e,_⟩:=x; exact ⟨_,e⟩
 | dK kvs=> obtain ⟨_,_,_,_,o,_,_,e,_⟩:=x; exact ⟨_,e⟩
 | dT kvs=> obtain ⟨_,_,_,_,o,_,_,e,_⟩:=x; exact ⟨_,e⟩
 | set S n=> obtain ⟨o,_,_,_,e,_⟩:=x; exact ⟨_,e⟩
 | ins C dx fs=> obtain ⟨_,_,_,e,_⟩:=x; exact ⟨_,e⟩
 | own y=> exact x
 | xd fs=> obtain ⟨_,⟨_,_,_,e,_⟩,_⟩:=x; exact ⟨_,e⟩
 | rng lo hi=> obtain ⟨_,_,_,e⟩:=x; exact ⟨_,e⟩
 | frz ob u=> obtain ⟨e,_⟩:=x; exact ⟨_,e⟩
 | tbl ps=> exact ⟨_,(show h.get? a=some _ from x)⟩
 | met f y=> exact ⟨_,(show h.get? a=some _ from x)⟩
 | ext φ=> exact x.2.1
end
theorem nq {X:Cx} {pins:List (Addr×Obj)} {σ:List (Option V)} {H H':Hp} {s:Shared} {h':Heap} {t':Nat} (I:Inv X pins σ H s) (k:∀ b u,s.heap.get? b=some u→h'.get? b=some u)
  (old:∀ b u,s.heap.get? b=some u→H' b=H b) (new:∀ b o,s.heap.get? b=none→H' b=some o→bR X.prog X.w H' h' b o):Inv X pins σ H' { s with heap:=h',toks:=t' }:=by
 have at':∀ b o,H b=some o→H' b=some o:=fun b o e=> let ⟨ob,q⟩:=dU (I.hok b o e); (old b ob q).trans e
 refine I.un ⟨fun b u q _ _ _=> k b u q,fun b u q _ _ _=> ⟨u.slots,k b u q⟩,fun b u q n _=> (old b u q).trans n,fun b u q _=> ⟨u,k b u q⟩,fun b xs q=> at' b _ q,fun b u xs q=> at' b _ q,fun b ps q=> ⟨#[],by rw [at' b _ q]; simp⟩⟩ fun b u e=> ?_
 cases hb:s.heap.get? b with
 | some ob=>
  rw [old b ob hb] at e
  exact (I.hok b u e).stay (fun c v _ q=> k c v q) (fun c q=> at' c _ q) fun c xs q=> at' c _ q
 | none=> exact new b u hb e
def gF (H:Hp):List Addr→List (List V)→Hp
 | [],_=> H
 | a::as,ps=> match ps with
  | []=> H
  | p::ps=> upd (gF H as ps) a (.tup p)
theorem jF {H:Hp}:∀ {as:List Addr} {ps:List (List V)} {b:Addr},b ∉ as→gF H as ps b=H b
 | [],_,_,_=> rfl
 | a::as,[],_,_=> rfl
 | a::as,p::ps,b,h=> by
  show upd (gF H as ps) a (.tup p) b=H b
  rw [aK fun z=> h (by rw [z]; exact List.mem_cons_self)]
  exact jF fun z=> h (List.mem_cons_of_mem _ z)
theorem mh {H:Hp}:∀ {as:List Addr} {ps:List (List V)} {j:Nat} {a:Addr} {p:List V},as.Nodup→as[j]?=some a→ps[j]?=some p→gF H as ps a=some (.tup p)
 | [],_,j,_,_,_,e,_=> by simp at e
 | _::_,[],j,_,_,_,_,e=> by simp at e
 | b::as,q::ps,0,a,p,_,e1,e2=> by
  simp at e1 e2
  subst e1; subst e2
  exact aH
 | b::as,q::ps,j+1,a,p,nd,e1,e2=> by
  show upd (gF H as ps) b (.tup q) a=_
  rw [List.getElem?_cons_succ] at e1 e2
  have nd':=List.nodup_cons.mp nd
  rw [aK fun z=> nd'.1 (by rw [← z]; exact List.mem_of_getElem? e1)]
  exact mh nd'.2 e1 e2
theorem kj {H:Hp}:∀ {as:List Addr} {ps:List (List V)} {b:Addr} {o:HO},gF H as ps b=some o→H b=some o∨∃ (j:Nat) (p:List V),as[j]?=some b∧ps[j]?=some p∧o=.tup p
 | [],_,_,_,e=> .inl e
 | _::_,[],_,_,e=> .inl e
 | a::as,p::ps,b,o,e=> by
  have e':upd (gF H as ps) a (.tup p) b=some o:=e
  by_cases hb:b=a
  ·subst hb
   rw [aH] at e'
   cases e'
   exact .inr ⟨0,p,rfl,rfl,rfl⟩
  ·rw [aK hb] at e'
   rcases kj e' with z | ⟨j,q,e1,e2,e3⟩
   ·exact .inl z
   ·exact .inr ⟨j+1,q,by simpa using e1,by simpa using e2,e3⟩
theorem iN:∀ (ad:List Addr),aG (ad.map V.ref) (ad.map Value.ref)
 | []=> .nil
 | _::ad=> .cons rfl (iN ad)
section
variable {X:Cx} {H0:Hp} {O0:List Addr} {ps:PSt} {e f:Expr} {x y:U} {xs ys:List U} {pos pos' p p':Pos}
set_option maxHeartbeats 1000000 in
theorem g5 (hc:X.calm=true) (hg:Gl X "list") (hm:X.mg "list"=none) (hgz:Gl X "zip") (hmz:X.mg "zip"=none) (ha:Ev X H0 O0 ps e x) (hx:x=.lst xs∨x=.scr xs) (hb:Ev X H0 O0 ps f y) (hy:y=.lst ys∨y=.scr ys) (hl:ys.length≤xs.length) (hn:xs.length≤1000)
  (he:starEach [e,f] X.env=(false,eval e X.env)::starEach [f] X.env:=by rfl) (hf:starEach [f] X.env=(false,eval f X.env)::starEach [] X.env:=by rfl):
  EvN X H0 O0 ps (.Call (.Name "list" p) [.Call (.Name "zip" p') [e,f] [] pos'] [] pos) (List.zipWith (fun a b=> U.tup [a,b]) xs ys):=by
 rintro pins s σ H Q I ⟨O,R,q⟩
 have hh:X.A.handled=none:=I.ok.hd hc
 refine wpAny_Call_Name_kw (cj I hg hm boot_list ?_)
 refine callWith_type1 (e:=.Call (.Name "zip" p') [e,f] [] pos') (rest:=[]) ?_ bx rfl
 rw [bx]
 show wpAny _ _ (spliced ((false,eval (.Call (.Name "zip" p') [e,f] [] pos') X.env)::backTo pos (starEach [] X.env))) _ _ s
 refine Calls.spliced_cons ?_
 refine wpAny_Call_Name_kw (cj I hgz hmz pC ?_)
 refine callWith_type1 (thn (bn ha (bn hb cR hf) he pos' pins s σ H (fun vs H1=> ∃ v u,vs=[v,u]∧aB H H1∧Rp X.K (hid H1 O) v x∧Rp X.K (hid H1 O) u y) I ⟨O,R,fun v H1 s1 r1=> ⟨O,R.go s1,fun u H2 s2 r2=> ⟨v,u,rfl,s1.trans s2,r1.same (aY s2),r2⟩⟩⟩) fun us s1 hx'=> ?_) he (by rw [hf]; rfl)
 obtain ⟨vs,H1,I1,rv,v,u,rfl,sm,rp1,rp2⟩:=hx'
 obtain ⟨w1,w2,rfl,ru1,ru2⟩:=eS rv
 obtain ⟨a,va,rfl,hq1,rs1⟩:=ul rp1 hx
 obtain ⟨b,vb,rfl,hq2,rs2⟩:=ul rp2 hy
 cases ru1
 cases ru2
 obtain ⟨ia,ra,pl1,hz1⟩:=I1.list (av.seq hq1)
 obtain ⟨ib,rb,pl2,hz2⟩:=I1.list (av.seq hq2)
 have la:=ra.length
 have lb:=rb.length
 have l1:=rs1.len
 have l2:=rs2.len
 have al:@LT.lt Nat instLTNat a s1.heap.objs.size:=by obtain ⟨o,ho,_⟩:=pl1.isList; exact Heap.lt_size ho
 have bl:@LT.lt Nat instLTNat b s1.heap.objs.size:=by obtain ⟨o,ho,_⟩:=pl2.isList; exact Heap.lt_size ho
 refine PySem.call_zip_2 pl1.isList pl2.isList fun h' z1 z2 z3 z4 z5 z6 z7=> ?_
 refine Calls.spliced_nil ?_
 have D:ZipApart (s1.heap.objs.size+4) (s1.heap.objs.size+2) (s1.heap.objs.size+3) s1.heap.objs.size (s1.heap.objs.size+1) a b:=by constructor <;> exact qY (by omega)
 have sxy:ib.toArray.size≤ia.toArray.size:=by simp; omega
 have sx:ia.toArray.size≤1000:=by simp; omega
 refine ST.call_list_zip (s:={ s1 with heap:=h' }) hh D sxy sx z1 z2 z3 z4 z5 (pl1.isList.at fun o e=> z7 _ o e) (pl2.isList.at fun o e=> z7 _ o e) fun h3 ad c F kp fr=> ?_
 have lD:s1.heap.objs.size≤({ s1 with heap:=h' }:Shared).heap.objs.size:=by show _≤h'.objs.size; omega
 generalize ({ s1 with heap:=h' }:Shared).heap.objs.size=D0 at *
 have keep:∀ b o,s1.heap.get? b=some o→h3.get? b=some o:=fun b o e=> by
  have this:@LT.lt Nat instLTNat b s1.heap.objs.size:=Heap.lt_size e
  exact kp b o (qY (by omega)) (qY (by omega)) (qY (by omega)) (qY (by omega)) (z7 b o e)
 have fr':∀ a∈ad,s1.heap.get? a=none:=fun a ha=> by
  cases hq:s1.heap.get? a with
  | none=> rfl
  | some o=>
   have q1:=fr a ha
   rw [show ({ s1 with heap:=h' }:Shared).heap.get? a=some o from z7 a o hq] at q1
   cases q1
 have frD:s1.heap.get? D0=none:=Heap.get?_none_of_le lD
 have nH:∀ a,s1.heap.get? a=none→H1 a=none:=fun a e=> by
  cases hq:H1 a with
  | none=> rfl
  | some o=>
   obtain ⟨ob,z⟩:=dU (I1.hok a o hq)
   rw [e] at z; cases z
 generalize hP:List.zipWith (fun x y:V=> [x,y]) va vb=PS
 have old:∀ b u,s1.heap.get? b=some u→upd (gF H1 ad PS) D0 (.lst (ad.map V.ref)) b=H1 b:=fun b u e=> by
  rw [aK fun z=> by rw [z,frD] at e; cases e]
  exact jF fun z=> by rw [fr' b z] at e; cases e
 have sm1:aB H1 (upd (gF H1 ad PS) D0 (.lst (ad.map V.ref))):=fun b o e=> let ⟨ob,z⟩:=dU (I1.hok b o e); (old b ob z).trans e
 have lad:ad.length=ib.length:=by rw [F.len]; simp
 have atT:∀ (j:Nat) (c:Addr) (v u:V),ad[j]?=some c→va[j]?=some v→vb[j]?=some u→upd (gF H1 ad PS) D0 (.lst (ad.map V.ref)) c=some (.tup [v,u]):=fun j c v u e1 e2 e3=> by
  rw [aK (F.ne c (List.mem_of_getElem? e1))]
  refine mh F.nd e1 ?_
  rw [← hP]
  exact List.getElem?_zipWith_eq_some.mpr ⟨v,u,e2,e3,rfl⟩
 have I3:Inv X pins σ (upd (gF H1 ad PS) D0 (.lst (ad.map V.ref))) { s1 with heap:=h3 }:=by
  refine nq (t':=s1.toks) I1 keep old fun b o nb e=> ?_
  by_cases hbD:b=D0
  ·subst hbD
   rw [aH] at e
   cases e
   exact ⟨by rw [List.length_map,lad,← lb]; exact hz2,ad.map Value.ref,c,iN ad,F.acc⟩
  ·rw [aK hbD] at e
   rcases kj e with z | ⟨j,pr,e1,e2,rfl⟩
   ·rw [nH b nb] at z; cases z
   ·rw [← hP] at e2
    obtain ⟨v,u,f1,f2,rfl⟩:=List.getElem?_zipWith_eq_some.mp e2
    obtain ⟨xv,g1,r1⟩:=ra.get f1
    obtain ⟨yv,g2,r2⟩:=rb.get f2
    obtain ⟨xv',yv',k1,k2,k3⟩:=F.tup j b e1
    have m1:xv'=xv:=by
     have:ia.toArray[j]?=some xv:=by simpa using g1
     rw [this] at k1; cases k1; rfl
    have m2:yv'=yv:=by
     have:ib.toArray[j]?=some yv:=by simpa using g2
     rw [this] at k2; cases k2; rfl
    subst m1; subst m2
    exact ⟨(show 2≤sizeLine by decide),[xv',yv'],.cons r1 (.cons r2 .nil),_,k3,rfl,_,rfl⟩
 refine ⟨.ref D0,_,I3,rfl,q D0 _ _ (sm.trans sm1) (sm.free (nH _ frD)) aH ⟨?_,fun i v u h1 h2=> ?_⟩⟩
 ·rw [List.length_map,List.length_zipWith]; omega
 ·rw [List.getElem?_map] at h1
  cases hi:ad[i]? with
  | none=> rw [hi] at h1; cases h1
  | some c'=>
   rw [hi] at h1
   obtain rfl:V.ref c'=v:=by simpa using h1
   obtain ⟨xi,yi,f1,f2,rfl⟩:=List.getElem?_zipWith_eq_some.mp h2
   obtain ⟨vi,g1,r1⟩:=rs1.get f1
   obtain ⟨wi,g2,r2⟩:=rs2.get f2
   have S:=bi (O:=O) sm1 (nH _ frD)
   have rr:=Rps.cons (r1.same S) (Rps.cons (r2.same S) Rps.nil)
   have hc':=List.mem_of_getElem? hi
   refine .tup (SqT.of (cr (atT i c' vi wi hi g1 g2) fun z=> ?_)) rr.len rr.at_
   rcases List.mem_cons.mp z with z | z
   ·exact F.ne c' hc' z
   ·exact (R.go sm).dom c' z (nH _ (fr' c' hc'))
theorem oS (hc:X.calm=true) (hg:Gl X "list") (hm:X.mg "list"=none) (hgz:Gl X "zip") (hmz:X.mg "zip"=none) (ha:Ev X H0 O0 ps e x) (hx:x=.lst xs∨x=.scr xs) (hb:Ev X H0 O0 ps f y) (hy:y=.lst ys∨y=.scr ys) (hl:ys.length=xs.length) (hn:xs.length≤1000)
  (he:starEach [e,f] X.env=(false,eval e X.env)::starEach [f] X.env:=by rfl) (hf:starEach [f] X.env=(false,eval f X.env)::starEach [] X.env:=by rfl):
  EvN X H0 O0 ps (.Call (.Name "list" p) [.Call (.Name "zip" p') [e,f] [] pos'] [] pos) (List.zipWith (fun a b=> U.tup [a,b]) xs ys):=g5 hc hg hm hgz hmz ha hx hb hy (Nat.le_of_eq hl) hn he hf
end
end L2
namespace L2
open PySem PySem.Spec PyProof.Rows
section
variable {X:Cx} {ns:List Int} {M:Int}
theorem kD {K:PySem.W.Frag} {H:Hp} {ws:List V} {its:List Value} (rv:aG ws its) (rs:Rps K H ws (ns.map U.int)) (i:Nat) (z:Value) (e:its.toArray[i]?=some z):∃ t,z=.int (ns.getD i 0) t:=by
 have hl:=rs.len
 rw [List.length_map] at hl
 have e4:its[i]?=some z:=by simpa using e
 have hi:i < its.length:=aJ e4
 have hw:i < ws.length:=by rw [rv.length]; exact hi
 have hb:i < ns.length:=by omega
 obtain ⟨u,e1,e2⟩:=rv.get (List.getElem?_eq_getElem hw)
 have e3:=rs.at_ i ws[i] (.int ns[i]) (List.getElem?_eq_getElem hw) (by rw [List.getElem?_map,List.getElem?_eq_getElem hb]; rfl)
 rw [e4] at e1
 cases e1
 generalize ws[i]=wi at *
 cases e3
 rw [List.getD_eq_getElem?_getD,List.getElem?_eq_getElem hb]
 obtain ⟨t,rfl⟩:=e2
 exact ⟨t,rfl⟩
theorem uz (hc:X.calm=true) (hM:M∈ns∧∀ a∈ns,M≤a):dg X (.builtin "min") [.lst (ns.map U.int)] (.int M):=by
 intro pins s σ H vs us Q I r hq
 obtain ⟨O,d,rs,q⟩:=hq
 obtain ⟨v,rfl,h1⟩:=bY rs
 obtain ⟨p1,rfl,r1⟩:=dy r
 cases h1 with
 | @lst a ws _ hq hl hh=>
  cases r1
  obtain ⟨its,rv,pl,_⟩:=I.list (SqL.of (av _ _ hq))
  have hlen:its.length=ns.length:=by rw [← rv.length,hl,List.length_map]
  have hat:=kD (ns:=ns) rv ⟨hl,hh⟩
  have hn:0 < ns.length:=List.length_pos_of_mem hM.1
  refine call_min_walk (wpAny_pyIter_list pl.isList ?_)
  have hal:a < s.heap.objs.size:=by obtain ⟨o,e,_⟩:=pl.isList; exact Heap.lt_size e
  refine ⟨s.heap.objs.size,_,_,_,_,_,_,rfl,Walks.list (A:=X.A.in1) (I.ok.hd hc) s.heap.objs.size a (Nat.ne_of_lt hal) its.toArray,⟨⟨_,Heap.get?_push_size _ rfl,rfl,rfl⟩,pl.isList.push _⟩,fun b hb=> ?_,by rw [List.size_toArray,hlen]; exact hn,CmpOf.ints_lt (fun i=> ns.getD i 0) hat,fun v h' tk hP hk=> ?_⟩
  ·show b < (s.heap.push _).objs.size
   rw [Heap.size_push]
   rcases List.mem_cons.mp hb with z | z
   ·rw [z]; exact Nat.lt_succ_self _
   ·rw [List.mem_singleton.mp z]; exact Nat.lt_succ_of_lt hal
  ·obtain ⟨t,rfl⟩:=hat _ _ hP
   obtain ⟨b1,b2⟩:=argBest_lt (fun i=> ns.getD i 0) (its.toArray.size - 1)
   have e:ns.getD (argBest (fun i j=> decide (ns.getD i 0 < ns.getD j 0)) (its.toArray.size - 1)) 0=M:=by
    rw [List.size_toArray,hlen] at b1 b2 ⊢
    generalize argBest (fun i j=> decide (ns.getD i 0 < ns.getD j 0)) (ns.length - 1)=g at *
    have hg:g < ns.length:=by omega
    obtain ⟨j,hj,ej⟩:=List.getElem_of_mem hM.1
    have k1:=b2 j (by omega)
    have k2:=hM.2 ns[g] (List.getElem_mem hg)
    simp only [List.getD_eq_getElem?_getD,List.getElem?_eq_getElem hg,List.getElem?_eq_getElem hj,Option.getD_some] at k1 ⊢
    omega
   rw [e]
   refine ⟨.int M,H,I.kept (t':=tk) fun b o e=> hk b o ?_ (Heap.get?_push_of_some _ e),⟨t,rfl⟩,q _ H (.refl H) (.int _)⟩
   intro z
   have:b=s.heap.objs.size:=by simpa using z
   exact absurd (Heap.lt_size e) (by rw [this]; exact Nat.lt_irrefl _)
end
end L2
namespace ST
open PySem PyProof.Rows
section
variable {prog:Program} {w:World} {A:Around} {E:Value→Shared→Prop} {s:Shared}
end
end ST
namespace L2
open PySem PySem.Spec PyProof.Rows
section
variable {X:Cx} {H0:Hp} {O0:List Addr} {ps:PSt} {a b c:Expr} {pos:Pos} {x y z:U} {p q:P2} {k m:Bool}
end
end L2
namespace L2
open PySem PySem.Spec PyProof.Rows
section
variable {X:Cx} {p q:P2} {l:List P2}
theorem qH {pins:List (Addr×Obj)} {σ:List (Option V)} {H:Hp} {s:Shared} (I:Inv X pins σ H s) {v:V} {u:Value} (r:Rp X.K H v (pu p)) (e:aV v u):∃ b,u=.ref b∧∀ prog w,ST.TK prog w s.heap [p.1,p.2] b:=by
 cases r with
 | @tup b zs _ hs hsl hsi=>
  cases e
  refine ⟨b,rfl,fun prog w=> ?_⟩
  obtain ⟨jts,rj,ht,_⟩:=I.tuple hs
  have z0:zs.length=2:=hsl
  match zs,z0,hsi,rj with
  | [z1,z2],_,hsi,rj=>
   have q1:=hsi 0 z1 _ rfl rfl
   have q2:=hsi 1 z2 _ rfl rfl
   cases q1
   cases q2
   obtain ⟨u1,u2,rfl,r1,r2⟩:=eS rj
   obtain ⟨t1,rfl⟩:=r1
   obtain ⟨t2,rfl⟩:=r2
   obtain ⟨o,ho,hoc,n,hod⟩:=ht
   exact ⟨o,_,n,ho,hoc,hod,.cons (intKind_is _ _ _ _) (.cons (intKind_is _ _ _ _) .nil)⟩
end
end L2
namespace L2
open PySem PySem.Spec PyProof.Rows
section
variable {X:Cx} {H0:Hp} {O0:List Addr} {ps:PSt} {e:Expr} {pts:List P2} {pos pos' p p':Pos}
end
end L2
namespace ST
open PySem
def oC (prog:Program) (w:World) (A:Around) (op:CmpOp) (G:Heap→Prop) (P:Nat→Value→Prop) (bt:Nat→Nat→Bool):Prop:=
 ∀ i j vi vj (s:Shared) (Q:Value→Shared→Prop) (E:Value→Shared→Prop),G s.heap→P i vi→P j vj→Q (.bool (bt i j)) s→wpAny (model prog w) A (richCompare op vi vj) Q E s
section
variable {prog:Program} {w:World} {A:Around} {R:Result→Shared→Prop} {I S:Addr} {fp wr:List Addr} {n:Nat} {P:Nat→Value→Prop} {St:Nat→Heap→Prop} {G:Heap→Prop} {bt:Nat→Nat→Bool}
theorem nP (W:Walks prog w A.in1 I fp wr n P St) (hc:oC prog w A.in1 .Lt G P bt) (stay:∀ h h':Heap,G h→(∀ b o,b ∉ wr→b≠S→h.get? b=some o→h'.get? b=some o)→G h') (hSf:S ∉ fp):
  ∀ (k j:Nat) (s:Shared) (vb:Value) (c:Nat),n - (j+1)=k→j+1≤n→G s.heap→St (j+1) s.heap→P (argBest bt j) vb→s.heap.get? S=some { cls:=.type "list",dict:=none,data:=.seq #[vb,vb] c,slots:=#[] }→
  (∀ v h' tk,P (argBest bt (n - 1)) v→(∀ b o,b ∉ wr→b≠S→s.heap.get? b=some o→h'.get? b=some o)→R (.ok (.ret v)) { s with heap:=h',toks:=tk })→
  codeAny (model prog w) A (.builtin "min.loop" ⟨[.ref I,.none,.ref S],[]⟩) R s:=by
 have nw:S ∉ wr:=fun h=> hSf (W.sub _ h)
 have nm:(toString "min"++toString ".loop":String)="min.loop":=by decide
 intro k
 induction k with
 | zero=>
  intro j s vb c hk hj g st pb hS hR
  obtain rfl:j+1=n:=by omega
  refine codeAny_builtin PySem.F.entry_min_loop ?_
  rw [Around.under_plainId PySem.F.plain_min_loop _]
  show wpAny _ A.in1 (seqItems? (.ref S) >>=_) _ _ s
  refine wpAny_bind (wpAny_seqItems hS rfl ?_)
  show wpAny _ A.in1 (tryCatch (pyNext (.ref I)) _ >>=_) _ _ s
  refine wpAny_bind (wpAny_tryCatch (W.done s _ _ st fun h' tk kp=> ?_))
  show wpAny _ A.in1 (updateSeq S (fun _=> #[]) >>=_) _ _ _
  refine wpAny_bind (wpAny_updateSeq (kp S _ nw hS) rfl (wpAny_bind (wpAny_letGo (wpAny_pure ?_))))
  exact hR vb _ tk pb fun b o hw hb e=> (Heap.get?_update_other _ _ (Ne.symm hb)).trans (kp b o hw e)
 | succ k ih=>
  intro j s vb c hk hj g st pb hS hR
  refine codeAny_builtin PySem.F.entry_min_loop ?_
  rw [Around.under_plainId PySem.F.plain_min_loop _]
  show wpAny _ A.in1 (seqItems? (.ref S) >>=_) _ _ s
  refine wpAny_bind (wpAny_seqItems hS rfl ?_)
  show wpAny _ A.in1 (tryCatch (pyNext (.ref I)) _ >>=_) _ _ s
  refine wpAny_bind (wpAny_tryCatch (W.item (j+1) s _ _ (by omega) st fun v h' tk pv st' kp=> ?_))
  have g':G h':=stay _ _ g fun b o hw _ e=> kp b o hw e
  have hS':=kp S _ nw hS
  show wpAny _ A.in1 (tryCatch (holding [v,v] (richCompare .Lt v vb >>=_)) _ >>=_) _ _ _
  refine wpAny_bind (wpAny_tryCatch (wpAny_holding (wpAny_bind (hc (j+1) (argBest bt j) v vb _ _ _ g' pv pb ?_))))
  refine wpAny_bind (wpAny_holding (wpAny_truthy_bool (wpAny_bind (wpAny_letGo (wpAny_pure ?_)))))
  by_cases hb:bt (j+1) (argBest bt j)=true
  ·rw [if_pos hb]
   refine wpAny_bind (wpAny_updateSeq hS' rfl (wpAny_bind (wpAny_letGo ?_)))
   rw [nm]
   have oth:∀ b o,b≠S→h'.get? b=some o→(h'.update S (Obj.mapSeq fun _=> #[v,v])).get? b=some o:=fun b o h e=> (Heap.get?_update_other _ _ (Ne.symm h)).trans e
   refine wpAny_pure ⟨plainId_quiet PySem.F.plain_min_loop _,ih (j+1) _ v _ (by omega) (by omega) (stay _ _ g' fun b o _ h e=> oth b o h e) (W.frame _ _ _ st' fun b hf o e=> oth b o (fun h=> hSf (h ▸ hf)) e) (by rw [argBest,if_pos hb]; exact pv) (Heap.get?_update_self _ hS' rfl) fun v2 h2 t2 p2 k2=> ?_⟩
   exact hR v2 h2 t2 p2 fun b o hw h e=> k2 b o hw h (oth b o h (kp b o hw e))
  ·rw [if_neg hb]
   refine wpAny_bind (wpAny_letGo ?_)
   rw [nm]
   refine wpAny_pure ⟨plainId_quiet PySem.F.plain_min_loop _,ih (j+1) _ vb c (by omega) (by omega) g' st' (by rw [argBest,if_neg hb]; exact pb) hS' fun v2 h2 t2 p2 k2=> ?_⟩
   exact hR v2 h2 t2 p2 fun b o hw h e=> k2 b o hw h (kp b o hw e)
theorem lO (W:Walks prog w A.in1 I fp wr n P St) (hc:oC prog w A.in1 .Lt G P bt) (stay:∀ h h':Heap,G h→(∀ b o,b ∉ wr→b≠S→h.get? b=some o→h'.get? b=some o)→G h') (hSf:S ∉ fp) (hn:0 < n) {s:Shared} {c:Nat} (g:G s.heap) (st:St 0 s.heap)
  (hS:s.heap.get? S=some { cls:=.type "list",dict:=none,data:=.seq #[] c,slots:=#[] })
  (hR:∀ v h' tk,P (argBest bt (n - 1)) v→(∀ b o,b ∉ wr→b≠S→s.heap.get? b=some o→h'.get? b=some o)→R (.ok (.ret v)) { s with heap:=h',toks:=tk }):
  codeAny (model prog w) A (.builtin "min.loop" ⟨[.ref I,.none,.ref S],[]⟩) R s:=by
 have nw:S ∉ wr:=fun h=> hSf (W.sub _ h)
 have nm:(toString "min"++toString ".loop":String)="min.loop":=by decide
 refine codeAny_builtin PySem.F.entry_min_loop ?_
 rw [Around.under_plainId PySem.F.plain_min_loop _]
 show wpAny _ A.in1 (seqItems? (.ref S) >>=_) _ _ s
 refine wpAny_bind (wpAny_seqItems hS rfl ?_)
 show wpAny _ A.in1 (tryCatch (pyNext (.ref I)) _ >>=_) _ _ s
 refine wpAny_bind (wpAny_tryCatch (W.item 0 s _ _ hn st fun v h' tk pv st' kp=> ?_))
 have hS':=kp S _ nw hS
 show wpAny _ A.in1 (updateSeq S (fun _=> #[v,v]) >>=_) _ _ _
 refine wpAny_bind (wpAny_updateSeq hS' rfl ?_)
 rw [nm]
 have oth:∀ b o,b≠S→h'.get? b=some o→(h'.update S (Obj.mapSeq fun _=> #[v,v])).get? b=some o:=fun b o h e=> (Heap.get?_update_other _ _ (Ne.symm h)).trans e
 refine wpAny_pure ⟨plainId_quiet PySem.F.plain_min_loop _,nP W hc stay hSf _ 0 _ v _ rfl hn (stay _ _ g fun b o hw h e=> oth b o h (kp b o hw e)) (W.frame _ _ _ st' fun b hf o e=> oth b o (fun h=> hSf (h ▸ hf)) e) pv (Heap.get?_update_self _ hS' rfl) fun v2 h2 t2 p2 k2=> ?_⟩
 exact hR v2 h2 t2 p2 fun b o hw h e=> k2 b o hw h (oth b o h (kp b o hw e))
end
section
variable {prog:Program} {w:World} {A:Around} {E:Value→Shared→Prop} {s:Shared}
theorem call_minG {l:Addr} {items:Array Value} {G:Heap→Prop} {bt:Nat→Nat→Bool} {Q:Value→Shared→Prop} (hh:A.handled=none) (hl:s.heap.IsList l items) (hn:0 < items.size) (hc:oC prog w A.in1 .Lt G (fun i v=> items[i]?=some v) bt)
  (g:G s.heap) (stay:∀ h h':Heap,G h→(∀ b o,s.heap.get? b=some o→h.get? b=some o)→(∀ b o,s.heap.get? b=some o→h'.get? b=some o)→G h')
  (hQ:∀ v h' tk,items[argBest bt (items.size - 1)]?=some v→(∀ b o,s.heap.get? b=some o→h'.get? b=some o)→Q v { s with heap:=h',toks:=tk }):
  wpAny (model prog w) A (call (.builtin "min") [.ref l]) Q E s:=by
 have nm:(toString "min"++toString ".loop":String)="min.loop":=by decide
 refine call_function_tree PySem.F.kind_min PySem.F.plain_min PySem.F.entry_min (PySem.F.args_min1 _) ?_
 show wpAny _ A.in1 (Builtin.Builtins.bindParams "min" ["key","default"] 0 ⟨[],[]⟩ >>=_) _ _ s
 refine wpAny_bind (wpAny_of_eq (show Builtin.Builtins.bindParams "min" ["key","default"] 0 ⟨[],[]⟩=pure [none,none] from rfl) ?_)
 refine wpAny_bind (wpAny_pure ?_)
 refine wpAny_bind (wpAny_pyIter_list hl ?_)
 have hal:l < s.heap.objs.size:=by obtain ⟨o,e,_⟩:=hl; exact Heap.lt_size e
 refine wpAny_bind (wpAny_newObj_type ?_)
 rw [nm]
 have W:=Walks.list (prog:=prog) (w:=w) (A:=A.in1) hh s.heap.objs.size l (Nat.ne_of_lt hal) items
 have up:∀ b o,s.heap.get? b=some o→((s.heap.push { cls:=.type "list_iterator",data:=.fields #[.ref l,.int 0 0] }).push { cls:=.type "list",data:=.seq #[] }).get? b=some o:=fun b o e=> Heap.get?_push_of_some _ (Heap.get?_push_of_some _ e)
 have sI:(s.heap.push { cls:=.type "list_iterator",data:=.fields #[.ref l,.int 0 0] }).objs.size=s.heap.objs.size+1:=Heap.size_push ..
 have lt:∀ b o,s.heap.get? b=some o→b ∉ [s.heap.objs.size]∧b≠(s.heap.push { cls:=.type "list_iterator",data:=.fields #[.ref l,.int 0 0] }).objs.size:=fun b o e=> by
  have h:=Heap.lt_size e
  refine ⟨fun z=> ?_,fun z=> ?_⟩
  ·rw [List.mem_singleton.mp z] at h; exact Nat.lt_irrefl _ h
  ·rw [z,sI] at h; exact Nat.lt_irrefl _ (Nat.lt_of_succ_lt h)
 refine wpAny_pure ⟨plainId_quiet PySem.F.plain_min_loop _,lO (G:=fun h=> G h∧∀ b o,s.heap.get? b=some o→h.get? b=some o) W (fun i j vi vj s' Q' E' g'=> hc i j vi vj s' Q' E' g'.1) (fun h h' g' kp=> ?_) ?_ hn ⟨stay _ _ g (fun _ _ e=> e) up,up⟩ ⟨⟨_,Heap.get?_push_of_some _ (Heap.get?_push_size _ rfl),rfl,rfl⟩,(hl.push _).push _⟩ (Heap.get?_push_size _ rfl) fun v h' tk pv kp=> ?_⟩
 ·have k2:∀ b o,s.heap.get? b=some o→h'.get? b=some o:=fun b o e=> kp b o (lt b o e).1 (lt b o e).2 (g'.2 b o e)
  exact ⟨stay _ _ g'.1 g'.2 k2,k2⟩
 ·intro z
  have z':(s.heap.push { cls:=.type "list_iterator",data:=.fields #[.ref l,.int 0 0] }).objs.size∈[s.heap.objs.size,l]:=z
  rw [sI] at z'
  rcases List.mem_cons.mp z' with z | z
  ·exact absurd z (Nat.succ_ne_self _)
  ·have e:=List.mem_singleton.mp z
   rw [← e] at hal; exact absurd hal (Nat.not_lt_of_gt (Nat.lt_succ_self _))
 ·exact hQ v h' tk pv fun b o e=> kp b o (lt b o e).1 (lt b o e).2 (up b o e)
end
section
variable {prog:Program} {w:World} {A:Around} {R:Result→Shared→Prop} {I S:Addr} {fp wr:List Addr} {n:Nat} {P:Nat→Value→Prop} {St:Nat→Heap→Prop} {G:Heap→Prop} {bt:Nat→Nat→Bool}
theorem oI (W:Walks prog w A.in1 I fp wr n P St) (hc:oC prog w A.in1 .Gt G P bt) (stay:∀ h h':Heap,G h→(∀ b o,b ∉ wr→b≠S→h.get? b=some o→h'.get? b=some o)→G h') (hSf:S ∉ fp):
  ∀ (k j:Nat) (s:Shared) (vb:Value) (c:Nat),n - (j+1)=k→j+1≤n→G s.heap→St (j+1) s.heap→P (argBest bt j) vb→s.heap.get? S=some { cls:=.type "list",dict:=none,data:=.seq #[vb,vb] c,slots:=#[] }→
  (∀ v h' tk,P (argBest bt (n - 1)) v→(∀ b o,b ∉ wr→b≠S→s.heap.get? b=some o→h'.get? b=some o)→R (.ok (.ret v)) { s with heap:=h',toks:=tk })→
  codeAny (model prog w) A (.builtin "max.loop" ⟨[.ref I,.none,.ref S],[]⟩) R s:=by
 have nw:S ∉ wr:=fun h=> hSf (W.sub _ h)
 have nm:(toString "max"++toString ".loop":String)="max.loop":=by decide
 intro k
 induction k with
 | zero=>
  intro j s vb c hk hj g st pb hS hR
  obtain rfl:j+1=n:=by omega
  refine codeAny_builtin PySem.F.entry_max_loop ?_
  rw [Around.under_plainId PySem.F.plain_max_loop _]
  show wpAny _ A.in1 (seqItems? (.ref S) >>=_) _ _ s
  refine wpAny_bind (wpAny_seqItems hS rfl ?_)
  show wpAny _ A.in1 (tryCatch (pyNext (.ref I)) _ >>=_) _ _ s
  refine wpAny_bind (wpAny_tryCatch (W.done s _ _ st fun h' tk kp=> ?_))
  show wpAny _ A.in1 (updateSeq S (fun _=> #[]) >>=_) _ _ _
  refine wpAny_bind (wpAny_updateSeq (kp S _ nw hS) rfl (wpAny_bind (wpAny_letGo (wpAny_pure ?_))))
  exact hR vb _ tk pb fun b o hw hb e=> (Heap.get?_update_other _ _ (Ne.symm hb)).trans (kp b o hw e)
 | succ k ih=>
  intro j s vb c hk hj g st pb hS hR
  refine codeAny_builtin PySem.F.entry_max_loop ?_
  rw [Around.under_plainId PySem.F.plain_max_loop _]
  show wpAny _ A.in1 (seqItems? (.ref S) >>=_) _ _ s
  refine wpAny_bind (wpAny_seqItems hS rfl ?_)
  show wpAny _ A.in1 (tryCatch (pyNext (.ref I)) _ >>=_) _ _ s
  refine wpAny_bind (wpAny_tryCatch (W.item (j+1) s _ _ (by omega) st fun v h' tk pv st' kp=> ?_))
  have g':G h':=stay _ _ g fun b o hw _ e=> kp b o hw e
  have hS':=kp S _ nw hS
  show wpAny _ A.in1 (tryCatch (holding [v,v] (richCompare .Gt v vb >>=_)) _ >>=_) _ _ _
  refine wpAny_bind (wpAny_tryCatch (wpAny_holding (wpAny_bind (hc (j+1) (argBest bt j) v vb _ _ _ g' pv pb ?_))))
  refine wpAny_bind (wpAny_holding (wpAny_truthy_bool (wpAny_bind (wpAny_letGo (wpAny_pure ?_)))))
  by_cases hb:bt (j+1) (argBest bt j)=true
  ·rw [if_pos hb]
   refine wpAny_bind (wpAny_updateSeq hS' rfl (wpAny_bind (wpAny_letGo ?_)))
   rw [nm]
   have oth:∀ b o,b≠S→h'.get? b=some o→(h'.update S (Obj.mapSeq fun _=> #[v,v])).get? b=some o:=fun b o h e=> (Heap.get?_update_other _ _ (Ne.symm h)).trans e
   refine wpAny_pure ⟨plainId_quiet PySem.F.plain_max_loop _,ih (j+1) _ v _ (by omega) (by omega) (stay _ _ g' fun b o _ h e=> oth b o h e) (W.frame _ _ _ st' fun b hf o e=> oth b o (fun h=> hSf (h ▸ hf)) e) (by rw [argBest,if_pos hb]; exact pv) (Heap.get?_update_self _ hS' rfl) fun v2 h2 t2 p2 k2=> ?_⟩
   exact hR v2 h2 t2 p2 fun b o hw h e=> k2 b o hw h (oth b o h (kp b o hw e))
  ·rw [if_neg hb]
   refine wpAny_bind (wpAny_letGo ?_)
   rw [nm]
   refine wpAny_pure ⟨plainId_quiet PySem.F.plain_max_loop _,ih (j+1) _ vb c (by omega) (by omega) g' st' (by rw [argBest,if_neg hb]; exact pb) hS' fun v2 h2 t2 p2 k2=> ?_⟩
   exact hR v2 h2 t2 p2 fun b o hw h e=> k2 b o hw h (kp b o hw e)
theorem kL (W:Walks prog w A.in1 I fp wr n P St) (hc:oC prog w A.in1 .Gt G P bt) (stay:∀ h h':Heap,G h→(∀ b o,b ∉ wr→b≠S→h.get? b=some o→h'.get? b=some o)→G h') (hSf:S ∉ fp) (hn:0 < n) {s:Shared} {c:Nat} (g:G s.heap) (st:St 0 s.heap)
  (hS:s.heap.get? S=some { cls:=.type "list",dict:=none,data:=.seq #[] c,slots:=#[] })
  (hR:∀ v h' tk,P (argBest bt (n - 1)) v→(∀ b o,b ∉ wr→b≠S→s.heap.get? b=some o→h'.get? b=some o)→R (.ok (.ret v)) { s with heap:=h',toks:=tk }):
  codeAny (model prog w) A (.builtin "max.loop" ⟨[.ref I,.none,.ref S],[]⟩) R s:=by
 have nw:S ∉ wr:=fun h=> hSf (W.sub _ h)
 have nm:(toString "max"++toString ".loop":String)="max.loop":=by decide
 refine codeAny_builtin PySem.F.entry_max_loop ?_
 rw [Around.under_plainId PySem.F.plain_max_loop _]
 show wpAny _ A.in1 (seqItems? (.ref S) >>=_) _ _ s
 refine wpAny_bind (wpAny_seqItems hS rfl ?_)
 show wpAny _ A.in1 (tryCatch (pyNext (.ref I)) _ >>=_) _ _ s
 refine wpAny_bind (wpAny_tryCatch (W.item 0 s _ _ hn st fun v h' tk pv st' kp=> ?_))
 have hS':=kp S _ nw hS
 show wpAny _ A.in1 (updateSeq S (fun _=> #[v,v]) >>=_) _ _ _
 refine wpAny_bind (wpAny_updateSeq hS' rfl ?_)
 rw [nm]
 have oth:∀ b o,b≠S→h'.get? b=some o→(h'.update S (Obj.mapSeq fun _=> #[v,v])).get? b=some o:=fun b o h e=> (Heap.get?_update_other _ _ (Ne.symm h)).trans e
 refine wpAny_pure ⟨plainId_quiet PySem.F.plain_max_loop _,oI W hc stay hSf _ 0 _ v _ rfl hn (stay _ _ g fun b o hw h e=> oth b o h (kp b o hw e)) (W.frame _ _ _ st' fun b hf o e=> oth b o (fun h=> hSf (h ▸ hf)) e) pv (Heap.get?_update_self _ hS' rfl) fun v2 h2 t2 p2 k2=> ?_⟩
 exact hR v2 h2 t2 p2 fun b o hw h e=> k2 b o hw h (oth b o h (kp b o hw e))
end
section
variable {prog:Program} {w:World} {A:Around} {E:Value→Shared→Prop} {s:Shared}
theorem call_maxG {l:Addr} {items:Array Value} {G:Heap→Prop} {bt:Nat→Nat→Bool} {Q:Value→Shared→Prop} (hh:A.handled=none) (hl:s.heap.IsList l items) (hn:0 < items.size) (hc:oC prog w A.in1 .Gt G (fun i v=> items[i]?=some v) bt)
  (g:G s.heap) (stay:∀ h h':Heap,G h→(∀ b o,s.heap.get? b=some o→h.get? b=some o)→(∀ b o,s.heap.get? b=some o→h'.get? b=some o)→G h')
  (hQ:∀ v h' tk,items[argBest bt (items.size - 1)]?=some v→(∀ b o,s.heap.get? b=some o→h'.get? b=some o)→Q v { s with heap:=h',toks:=tk }):
  wpAny (model prog w) A (call (.builtin "max") [.ref l]) Q E s:=by
 have nm:(toString "max"++toString ".loop":String)="max.loop":=by decide
 refine call_function_tree PySem.F.kind_max PySem.F.plain_max PySem.F.entry_max (PySem.F.args_max1 _) ?_
 show wpAny _ A.in1 (Builtin.Builtins.bindParams "max" ["key","default"] 0 ⟨[],[]⟩ >>=_) _ _ s
 refine wpAny_bind (wpAny_of_eq (show Builtin.Builtins.bindParams "max" ["key","default"] 0 ⟨[],[]⟩=pure [none,none] from rfl) ?_)
 refine wpAny_bind (wpAny_pure ?_)
 refine wpAny_bind (wpAny_pyIter_list hl ?_)
 have hal:l < s.heap.objs.size:=by obtain ⟨o,e,_⟩:=hl; exact Heap.lt_size e
 refine wpAny_bind (wpAny_newObj_type ?_)
 rw [nm]
 have W:=Walks.list (prog:=prog) (w:=w) (A:=A.in1) hh s.heap.objs.size l (Nat.ne_of_lt hal) items
 have up:∀ b o,s.heap.get? b=some o→((s.heap.push { cls:=.type "list_iterator",data:=.fields #[.ref l,.int 0 0] }).push { cls:=.type "list",data:=.seq #[] }).get? b=some o:=fun b o e=> Heap.get?_push_of_some _ (Heap.get?_push_of_some _ e)
 have sI:(s.heap.push { cls:=.type "list_iterator",data:=.fields #[.ref l,.int 0 0] }).objs.size=s.heap.objs.size+1:=Heap.size_push ..
 have lt:∀ b o,s.heap.get? b=some o→b ∉ [s.heap.objs.size]∧b≠(s.heap.push { cls:=.type "list_iterator",data:=.fields #[.ref l,.int 0 0] }).objs.size:=fun b o e=> by
  have h:=Heap.lt_size e
  refine ⟨fun z=> ?_,fun z=> ?_⟩
  ·rw [List.mem_singleton.mp z] at h; exact Nat.lt_irrefl _ h
  ·rw [z,sI] at h; exact Nat.lt_irrefl _ (Nat.lt_of_succ_lt h)
 refine wpAny_pure ⟨plainId_quiet PySem.F.plain_max_loop _,kL (G:=fun h=> G h∧∀ b o,s.heap.get? b=some o→h.get? b=some o) W (fun i j vi vj s' Q' E' g'=> hc i j vi vj s' Q' E' g'.1) (fun h h' g' kp=> ?_) ?_ hn ⟨stay _ _ g (fun _ _ e=> e) up,up⟩ ⟨⟨_,Heap.get?_push_of_some _ (Heap.get?_push_size _ rfl),rfl,rfl⟩,(hl.push _).push _⟩ (Heap.get?_push_size _ rfl) fun v h' tk pv kp=> ?_⟩
 ·have k2:∀ b o,s.heap.get? b=some o→h'.get? b=some o:=fun b o e=> kp b o (lt b o e).1 (lt b o e).2 (g'.2 b o e)
  exact ⟨stay _ _ g'.1 g'.2 k2,k2⟩
 ·intro z
  have z':(s.heap.push { cls:=.type "list_iterator",data:=.fields #[.ref l,.int 0 0] }).objs.size∈[s.heap.objs.size,l]:=z
  rw [sI] at z'
  rcases List.mem_cons.mp z' with z | z
  ·exact absurd z (Nat.succ_ne_self _)
  ·have e:=List.mem_singleton.mp z
   rw [← e] at hal; exact absurd hal (Nat.not_lt_of_gt (Nat.lt_succ_self _))
 ·exact hQ v h' tk pv fun b o e=> kp b o (lt b o e).1 (lt b o e).2 (up b o e)
end
end ST
namespace ST
open PySem PyProof.Rows
section
variable {prog:Program} {w:World} {A:Around} {E:Value→Shared→Prop} {s:Shared}
theorem mL {x y:Int} {t u:Tok} {Q:Value→Shared→Prop} (h:Q (.bool (decide (x < y))) s):wpAny (model prog w) A (richCompare .Lt (.int x t) (.int y u)) Q E s:=
 richCompare_gives (op:=.Lt) (typeIs_int s _ t) (typeIs_int s _ u) PySem.F.slot_int_lt PySem.F.entry_int_lt (PySem.F.args_int_lt_2 _ _) (gives_int_lt _ _ t u) (fun x=> nomatch x) h
theorem qZ {x y:Addr} {a b:Int×Int} {P:Fin→Shared→Prop} (hx:TK prog w s.heap [a.1,a.2] x) (hy:TK prog w s.heap [b.1,b.2] y) (h:P (.done (.ret (.bool (ltP a b)))) s):
  wpAny (model prog w) A (Builtin.«tuple.__lt__» ⟨[.ref x,.ref y],[]⟩) P E s:=by
 have hTb:=hy.typeIs
 obtain ⟨o,its,n,t,u,ho,_,hd,hi⟩:=hx.two
 obtain ⟨o',its',n',t',u',ho',_,hd',hi'⟩:=hy.two
 show wpAny _ _ (isInstance (.ref y) (.type "tuple") >>=_) _ _ s
 refine wpAny_bind (wpAny_isInstance hTb isSubtype_tuple_tuple ?_)
 simp only [Bool.not_true,Bool.false_eq_true,if_false]
 refine wpAny_bind (wpAny_tupleItemsOf ho hd ?_)
 refine wpAny_bind (wpAny_tupleItemsOf ho' hd' ?_)
 have sz:its.size=its'.size:=by rw [← Array.length_toList,← Array.length_toList,hi,hi']; rfl
 rw [hi,hi']
 refine wpAny_bind ?_
 simp only [List.zip_cons_cons,List.zip_nil_left,List.forIn_cons,List.forIn_nil]
 refine wpAny_bind (wpAny_bind ((intKind prog w).eqBool (a:=a.1) (b:=b.1) (intKind_is _ _ _ _) (intKind_is _ _ _ _) ?_))
 by_cases e1:a.1=b.1
 ·rw [decide_eq_true e1]
  simp only [Bool.not_true,Bool.false_eq_true,if_false]
  refine wpAny_pure ?_
  refine wpAny_bind (wpAny_bind ((intKind prog w).eqBool (a:=a.2) (b:=b.2) (intKind_is _ _ _ _) (intKind_is _ _ _ _) ?_))
  by_cases e2:a.2=b.2
  ·rw [decide_eq_true e2]
   simp only [Bool.not_true,Bool.false_eq_true,if_false]
   refine wpAny_pure (wpAny_pure ?_)
   have z:ltP a b=false:=by unfold ltP; simp; omega
   rw [z] at h
   refine wpAny_pure ?_
   show P (.done (.ret (.bool (decide (its.size < its'.size))))) s
   rw [sz,decide_eq_false (Nat.lt_irrefl _)]
   exact h
  ·rw [decide_eq_false e2]
   simp only [Bool.not_false,if_true]
   have z:ltP a b=decide (a.2 < b.2):=by unfold ltP; rw [e1]; simp
   rw [z] at h
   exact wpAny_bind (wpAny_rule (wpAny_bind (mL (wpAny_bind (wpAny_pure (wpAny_pure (wpAny_pure (wpAny_pure h))))))))
 ·rw [decide_eq_false e1]
  simp only [Bool.not_false,if_true]
  have z:ltP a b=decide (a.1 < b.1):=by unfold ltP; simp [e1]
  rw [z] at h
  exact wpAny_bind (wpAny_rule (wpAny_bind (mL (wpAny_bind (wpAny_pure (wpAny_pure (wpAny_pure (wpAny_pure h))))))))
theorem lt_ptsR {x y:Addr} {a b:Int×Int} {Q:Value→Shared→Prop} (hu:A.units < cLine) (hx:TK prog w s.heap [a.1,a.2] x) (hy:TK prog w s.heap [b.1,b.2] y) (h:Q (.bool (ltP a b)) s):
  wpAny (model prog w) A (compareOp .Lt (.ref x) (.ref y)) Q E s:=
 wpAny_richCompare_same_room (op:=.Lt) hx.typeIs hy.typeIs PySem.F.slot_tuple_lt
  (wpAny_call_entry PySem.F.slot_tuple_lt hx.typeIs PySem.F.entry_tuple_lt (qZ hx hy ⟨_,rfl,(fun e=> nomatch e),h⟩) (PySem.F.args_tuple_lt_2 _ _)) hu
theorem nj {x y:Int} {t u:Tok} {Q:Value→Shared→Prop} (h:Q (.bool (decide (y < x))) s):wpAny (model prog w) A (richCompare .Gt (.int x t) (.int y u)) Q E s:=
 richCompare_gives (op:=.Gt) (typeIs_int s _ t) (typeIs_int s _ u) PySem.F.slot_int_gt PySem.F.entry_int_gt (PySem.F.args_int_gt_2 _ _) (gives_int_gt _ _ t u) (fun x=> nomatch x) h
theorem pV {x y:Addr} {a b:Int×Int} {P:Fin→Shared→Prop} (hx:TK prog w s.heap [a.1,a.2] x) (hy:TK prog w s.heap [b.1,b.2] y) (h:P (.done (.ret (.bool (ltP b a)))) s):
  wpAny (model prog w) A (Builtin.«tuple.__gt__» ⟨[.ref x,.ref y],[]⟩) P E s:=by
 have hTb:=hy.typeIs
 obtain ⟨o,its,n,t,u,ho,_,hd,hi⟩:=hx.two
 obtain ⟨o',its',n',t',u',ho',_,hd',hi'⟩:=hy.two
 show wpAny _ _ (isInstance (.ref y) (.type "tuple") >>=_) _ _ s
 refine wpAny_bind (wpAny_isInstance hTb isSubtype_tuple_tuple ?_)
 simp only [Bool.not_true,Bool.false_eq_true,if_false]
 refine wpAny_bind (wpAny_tupleItemsOf ho hd ?_)
 refine wpAny_bind (wpAny_tupleItemsOf ho' hd' ?_)
 have sz:its.size=its'.size:=by rw [← Array.length_toList,← Array.length_toList,hi,hi']; rfl
 rw [hi,hi']
 refine wpAny_bind ?_
 simp only [List.zip_cons_cons,List.zip_nil_left,List.forIn_cons,List.forIn_nil]
 refine wpAny_bind (wpAny_bind ((intKind prog w).eqBool (a:=a.1) (b:=b.1) (intKind_is _ _ _ _) (intKind_is _ _ _ _) ?_))
 by_cases e1:a.1=b.1
 ·rw [decide_eq_true e1]
  simp only [Bool.not_true,Bool.false_eq_true,if_false]
  refine wpAny_pure ?_
  refine wpAny_bind (wpAny_bind ((intKind prog w).eqBool (a:=a.2) (b:=b.2) (intKind_is _ _ _ _) (intKind_is _ _ _ _) ?_))
  by_cases e2:a.2=b.2
  ·rw [decide_eq_true e2]
   simp only [Bool.not_true,Bool.false_eq_true,if_false]
   refine wpAny_pure (wpAny_pure ?_)
   have z:ltP b a=false:=by unfold ltP; simp; omega
   rw [z] at h
   refine wpAny_pure ?_
   show P (.done (.ret (.bool (decide (its.size > its'.size))))) s
   rw [sz,decide_eq_false (Nat.lt_irrefl _)]
   exact h
  ·rw [decide_eq_false e2]
   simp only [Bool.not_false,if_true]
   have z:ltP b a=decide (b.2 < a.2):=by unfold ltP; rw [e1]; simp
   rw [z] at h
   exact wpAny_bind (wpAny_rule (wpAny_bind (nj (wpAny_bind (wpAny_pure (wpAny_pure (wpAny_pure (wpAny_pure h))))))))
 ·rw [decide_eq_false e1]
  simp only [Bool.not_false,if_true]
  have z:ltP b a=decide (b.1 < a.1):=by unfold ltP; simp [Ne.symm e1]
  rw [z] at h
  exact wpAny_bind (wpAny_rule (wpAny_bind (nj (wpAny_bind (wpAny_pure (wpAny_pure (wpAny_pure (wpAny_pure h))))))))
theorem gt_ptsR {x y:Addr} {a b:Int×Int} {Q:Value→Shared→Prop} (hu:A.units < cLine) (hx:TK prog w s.heap [a.1,a.2] x) (hy:TK prog w s.heap [b.1,b.2] y) (h:Q (.bool (ltP b a)) s):
  wpAny (model prog w) A (compareOp .Gt (.ref x) (.ref y)) Q E s:=
 wpAny_richCompare_same_room (op:=.Gt) hx.typeIs hy.typeIs PySem.F.slot_tuple_gt
  (wpAny_call_entry PySem.F.slot_tuple_gt hx.typeIs PySem.F.entry_tuple_gt (pV hx hy ⟨_,rfl,(fun e=> nomatch e),h⟩) (PySem.F.args_tuple_gt_2 _ _)) hu
end
theorem ltP_iff {a b:Int×Int}:ltP a b=true↔(a.1 < b.1∨(a.1=b.1∧a.2 < b.2)):=by unfold ltP; exact decide_eq_true_iff
theorem ltP_no {a b:Int×Int}:ltP a b=false↔¬ (a.1 < b.1∨(a.1=b.1∧a.2 < b.2)):=by unfold ltP; exact decide_eq_false_iff_not
theorem ltP_one {a b:Int×Int} (h1:ltP a b=false) (h2:ltP b a=false):a=b:=by
 rw [ltP_no] at h1 h2
 obtain ⟨a1,a2⟩:=a
 obtain ⟨b1,b2⟩:=b
 simp only [Prod.mk.injEq] at *
 omega
theorem best_min (f:Nat→Int×Int):∀ k,argBest (fun i j=> ltP (f i) (f j)) k≤k∧∀ j,j≤k→ltP (f j) (f (argBest (fun i j=> ltP (f i) (f j)) k))=false
 | 0=> ⟨Nat.le_refl _,fun j hj=> by
  obtain rfl:j=0:=by omega
  rw [ltP_no]; simp [argBest]⟩
 | k+1=> by
  obtain ⟨h1,h2⟩:=best_min f k
  by_cases hb:ltP (f (k+1)) (f (argBest (fun i j=> ltP (f i) (f j)) k))=true
  ·rw [argBest,if_pos hb]
   refine ⟨Nat.le_refl _,fun j hj=> ?_⟩
   rw [ltP_iff] at hb
   rcases Nat.lt_or_ge j (k+1) with z | z
   ·have:=ltP_no.mp (h2 j (by omega))
    rw [ltP_no]; omega
   ·obtain rfl:j=k+1:=by omega
    rw [ltP_no]; omega
  ·rw [argBest,if_neg hb]
   refine ⟨by omega,fun j hj=> ?_⟩
   rcases Nat.lt_or_ge j (k+1) with z | z
   ·exact h2 j (by omega)
   ·obtain rfl:j=k+1:=by omega
    simpa using hb
theorem best_max (f:Nat→Int×Int):∀ k,argBest (fun i j=> ltP (f j) (f i)) k≤k∧∀ j,j≤k→ltP (f (argBest (fun i j=> ltP (f j) (f i)) k)) (f j)=false
 | 0=> ⟨Nat.le_refl _,fun j hj=> by
  obtain rfl:j=0:=by omega
  rw [ltP_no]; simp [argBest]⟩
 | k+1=> by
  obtain ⟨h1,h2⟩:=best_max f k
  by_cases hb:ltP (f (argBest (fun i j=> ltP (f j) (f i)) k)) (f (k+1))=true
  ·rw [argBest,if_pos hb]
   refine ⟨Nat.le_refl _,fun j hj=> ?_⟩
   rw [ltP_iff] at hb
   rcases Nat.lt_or_ge j (k+1) with z | z
   ·have:=ltP_no.mp (h2 j (by omega))
    rw [ltP_no]; omega
   ·obtain rfl:j=k+1:=by omega
    rw [ltP_no]; omega
  ·rw [argBest,if_neg hb]
   refine ⟨by omega,fun j hj=> ?_⟩
   rcases Nat.lt_or_ge j (k+1) with z | z
   ·exact h2 j (by omega)
   ·obtain rfl:j=k+1:=by omega
    simpa using hb
end ST
namespace L2
open PySem PySem.Spec PyProof.Rows
section
variable {X:Cx} {pts:List P2} {M:P2}
theorem pe {pins:List (Addr×Obj)} {σ:List (Option V)} {H:Hp} {s:Shared} (I:Inv X pins σ H s) {ws:List V} {its:List Value} (rv:aG ws its) (rs:Rps X.K H ws (pts.map pu)) (i:Nat) (y:Value) (hy:its.toArray[i]?=some y):
  i < pts.length∧∃ c,y=.ref c∧ws[i]?=some (.ref c)∧∀ prog w,ST.TK prog w s.heap [(pts.getD i (0,0)).1,(pts.getD i (0,0)).2] c:=by
 have hy':its[i]?=some y:=by simpa using hy
 have hll:ws.length=pts.length:=by rw [rs.len,List.length_map]
 have hi:i < its.length:=aJ hy'
 have hw:i < ws.length:=by rw [rv.length]; exact hi
 have hq:i < pts.length:=by omega
 obtain ⟨u,e1,e2⟩:=rv.get (List.getElem?_eq_getElem hw)
 rw [hy'] at e1
 cases e1
 have r:=rs.at_ i _ (pu (pts.getD i (0,0))) (List.getElem?_eq_getElem hw) (by rw [List.getElem?_map,List.getElem?_eq_getElem hq]; simp [hq])
 obtain ⟨c,rfl,t⟩:=qH I r e2
 refine ⟨hq,c,rfl,?_,t⟩
 rw [List.getElem?_eq_getElem hw]
 generalize ws[i]=z at *
 cases r
 cases e2
 rfl
theorem t6 {g:Nat} (hg:g < pts.length):(pts.map pu)[g]?=some (pu (pts.getD g (0,0))):=by
 rw [List.getElem?_map,List.getElem?_eq_getElem hg]; simp [hg]
theorem uh (hc:X.calm=true) (hu:X.A.units+10 < cLine) (hM:M∈pts) (hL:∀ q∈pts,ST.ltP q M=false):dg X (.builtin "min") [lp pts] (pu M):=by
 intro pins s σ H vs us Q I r hq
 obtain ⟨O,d,rs,q⟩:=hq
 obtain ⟨v,rfl,h1⟩:=bY rs
 obtain ⟨p1,rfl,r1⟩:=dy r
 cases h1 with
 | @lst a ws _ hq hl hh=>
  cases r1
  obtain ⟨its,rv,pl,_⟩:=I.list (SqL.of (av _ _ hq))
  have rs':Rps X.K (hid H O) ws (pts.map pu):=⟨hl,hh⟩
  have hlen:its.toArray.size=pts.length:=by rw [List.size_toArray,← rv.length,hl,List.length_map]
  have hat:=pe (pts:=pts) I rv (rs'.same av)
  have hn:0 < pts.length:=List.length_pos_of_mem hM
  refine ST.call_minG (G:=fun h=> ∀ (i:Nat) (y:Value),its.toArray[i]?=some y→∃ c,y=.ref c∧ST.TK X.prog X.w h [(pts.getD i (0,0)).1,(pts.getD i (0,0)).2] c) (bt:=fun i j=> ST.ltP (pts.getD i (0,0)) (pts.getD j (0,0))) (I.ok.hd hc) pl.isList (by rw [hlen]; exact hn) (fun i j vi vj s' Q' E' g hi hj k=> ?_) (fun i y hy=> ?_) (fun h h' _ _ k2 i y hy=> ?_) fun y h' tk hy kp=> ?_
  ·obtain ⟨c,rfl,t⟩:=g i vi hi
   obtain ⟨c',rfl,t'⟩:=g j vj hj
   exact ST.lt_ptsR (show X.A.units+1 < cLine by omega) t t' k
  ·obtain ⟨_,c,rfl,_,t⟩:=hat i y hy
   exact ⟨c,rfl,t _ _⟩
  ·obtain ⟨_,c,rfl,_,t⟩:=hat i y hy
   obtain ⟨o,items,n,ho,z⟩:=t X.prog X.w
   exact ⟨c,rfl,o,items,n,k2 c o ho,z⟩
  ·obtain ⟨hg,c,rfl,hw,t⟩:=hat _ y hy
   obtain ⟨b1,b2⟩:=ST.best_min (fun i=> pts.getD i (0,0)) (its.toArray.size - 1)
   have e:pts.getD (argBest (fun i j=> ST.ltP (pts.getD i (0,0)) (pts.getD j (0,0))) (its.toArray.size - 1)) (0,0)=M:=by
    rw [hlen] at b1 b2 hg ⊢
    generalize argBest (fun i j=> ST.ltP (pts.getD i (0,0)) (pts.getD j (0,0))) (pts.length - 1)=g at *
    obtain ⟨j,hj⟩:=List.mem_iff_getElem?.mp hM
    have k1:=b2 j (by have:=aJ hj; omega)
    rw [show pts.getD j (0,0)=M by rw [List.getD_eq_getElem?_getD,hj]; rfl] at k1
    exact ST.ltP_one (hL _ (by simp [hg])) k1
   refine ⟨.ref c,H,I.kept (t':=tk) kp,rfl,q _ H (.refl H) ?_⟩
   have z:=rs'.at_ _ _ _ hw (t6 hg)
   rw [e] at z
   exact z
theorem ui (hc:X.calm=true) (hu:X.A.units+10 < cLine) (hM:M∈pts) (hL:∀ q∈pts,ST.ltP M q=false):dg X (.builtin "max") [lp pts] (pu M):=by
 intro pins s σ H vs us Q I r hq
 obtain ⟨O,d,rs,q⟩:=hq
 obtain ⟨v,rfl,h1⟩:=bY rs
 obtain ⟨p1,rfl,r1⟩:=dy r
 cases h1 with
 | @lst a ws _ hq hl hh=>
  cases r1
  obtain ⟨its,rv,pl,_⟩:=I.list (SqL.of (av _ _ hq))
  have rs':Rps X.K (hid H O) ws (pts.map pu):=⟨hl,hh⟩
  have hlen:its.toArray.size=pts.length:=by rw [List.size_toArray,← rv.length,hl,List.length_map]
  have hat:=pe (pts:=pts) I rv (rs'.same av)
  have hn:0 < pts.length:=List.length_pos_of_mem hM
  refine ST.call_maxG (G:=fun h=> ∀ (i:Nat) (y:Value),its.toArray[i]?=some y→∃ c,y=.ref c∧ST.TK X.prog X.w h [(pts.getD i (0,0)).1,(pts.getD i (0,0)).2] c) (bt:=fun i j=> ST.ltP (pts.getD j (0,0)) (pts.getD i (0,0))) (I.ok.hd hc) pl.isList (by rw [hlen]; exact hn) (fun i j vi vj s' Q' E' g hi hj k=> ?_) (fun i y hy=> ?_) (fun h h' _ _ k2 i y hy=> ?_) fun y h' tk hy kp=> ?_
  ·obtain ⟨c,rfl,t⟩:=g i vi hi
   obtain ⟨c',rfl,t'⟩:=g j vj hj
   exact ST.gt_ptsR (show X.A.units+1 < cLine by omega) t t' k
  ·obtain ⟨_,c,rfl,_,t⟩:=hat i y hy
   exact ⟨c,rfl,t _ _⟩
  ·obtain ⟨_,c,rfl,_,t⟩:=hat i y hy
   obtain ⟨o,items,n,ho,z⟩:=t X.prog X.w
   exact ⟨c,rfl,o,items,n,k2 c o ho,z⟩
  ·obtain ⟨hg,c,rfl,hw,t⟩:=hat _ y hy
   obtain ⟨b1,b2⟩:=ST.best_max (fun i=> pts.getD i (0,0)) (its.toArray.size - 1)
   have e:pts.getD (argBest (fun i j=> ST.ltP (pts.getD j (0,0)) (pts.getD i (0,0))) (its.toArray.size - 1)) (0,0)=M:=by
    rw [hlen] at b1 b2 hg ⊢
    generalize argBest (fun i j=> ST.ltP (pts.getD j (0,0)) (pts.getD i (0,0))) (pts.length - 1)=g at *
    obtain ⟨j,hj⟩:=List.mem_iff_getElem?.mp hM
    have k1:=b2 j (by have:=aJ hj; omega)
    rw [show pts.getD j (0,0)=M by rw [List.getD_eq_getElem?_getD,hj]; rfl] at k1
    exact ST.ltP_one k1 (hL _ (by simp [hg]))
   refine ⟨.ref c,H,I.kept (t':=tk) kp,rfl,q _ H (.refl H) ?_⟩
   have z:=rs'.at_ _ _ _ hw (t6 hg)
   rw [e] at z
   exact z
end
end L2
namespace L2
open PySem PySem.Spec PyProof.Rows
section
variable {X:Cx} {H0:Hp} {O0:List Addr} {ps:PSt} {xs:List U} {x:Str} {pos pc p':Pos}
end
end L2
namespace L2
open PySem PySem.Spec PyProof.Rows
section
variable {X:Cx} {H0:Hp} {O0:List Addr} {ps:PSt} {x:Str} {pos:Pos} {a b:Expr} {i j:Int}
theorem tO (hg:Gl X x) (h:∃ t,X.mg x=some (.int i t)) (hd:(x==("__debug__":Str))=false:=by decide):Ev X H0 O0 ps (.Name x pos) (.int i):=by
 obtain ⟨t,hm⟩:=h
 exact PE.mono (gf (v:=.int i) hg hm ⟨t,rfl⟩ hd) fun _ H _ ⟨_,_,k⟩=> k _ H (.refl H) (.int i)
end
end L2
namespace L2
open PySem PySem.Spec PyProof.Rows
section
variable {X:Cx} {H0:Hp} {O0:List Addr} {ps:PSt} {e tg:Expr} {p pos:Pos} {xs:List U} {x:U}
end
end L2
namespace L2
open PySem PySem.Spec PyProof.Rows
section
variable {X:Cx} {H0:Hp} {O0:List Addr} {ps:PSt} {a b:Expr} {pos:Pos} {xs:List U} {u:U} {k:Int}
end
end L2
namespace L2
open PySem PySem.Spec PySem.W PyProof.Rows
section
variable {X:Cx}
end
end L2
namespace L2
open PySem PySem.Spec PyProof.Rows
section
variable {X:Cx} {H0:Hp} {O0:List Addr} {E:XK} {ps ps':PSt} {D:PD} {s:Stmt} {ss body:List Stmt} {a b c e:Expr} {es:List Expr} {pos p:Pos} {u x y:U} {xs ys us:List U} {k:Bool}
 {CX:CXT} {n:Nat} {f C:Addr} {fd:FuncData} {pn:List Str} {spec:List U→Out→Prop} {nm:Str}
end
end L2
namespace L2
open PySem PySem.Spec PyProof.Rows
theorem Rs.free {K:PySem.W.Frag} {H0 H:Hp} {O0 O:List Addr} {ps:PSt} {σ:St} {xs:List U} (n:Nat) (h:ps[n]?=some (some (.own xs))) (R:Rs K H0 O0 ps σ H O):∃ O',(∀ b∈O',b∈O)∧Rs K H0 O0 (ps.set n (some (.val (.lst xs)))) σ H O':=by
 obtain ⟨v,hv,a,vs,rfl,ha,ha0,hH,rs⟩:=R.at_ n _ h
 have less:∀ b∈O.filter (fun b=> decide (b≠a)),b∈O:=fun b hb=> (List.mem_filter.mp hb).1
 have keep:∀ b∈O,b≠a→b∈O.filter (fun b=> decide (b≠a)):=fun b hb ne=> List.mem_filter.mpr ⟨hb,by simpa using ne⟩
 have sm:aB (hid H O) (hid H (O.filter (fun b=> decide (b≠a)))):=ck less
 have na:a ∉ O.filter (fun b=> decide (b≠a)):=fun z=> by have:=(List.mem_filter.mp z).2; simp at this
 refine ⟨O.filter (fun b=> decide (b≠a)),less,R.same,fun b hb=> keep b (R.old b hb) fun e=> ha0 (e ▸ hb),fun b hb=> R.new b (less b hb),fun b hb=> R.dom b (less b hb),by rw [R.len,List.length_set],fun i s hs=> ?_,fun i j ys zs b h1 h2 h3 h4=> ?_⟩
 ·rcases cP hs with ⟨rfl,e⟩ | ⟨ne,hs⟩
  ·cases e
   exact ⟨.ref a,hv,.lst (cr hH na) (rs.same sm).len (rs.same sm).at_⟩
  ·obtain ⟨w,hw,ok⟩:=R.at_ i s hs
   refine ⟨w,hw,?_⟩
   cases s with
   | val u=> exact Rp.same sm ok
   | own ys=>
    obtain ⟨b,ws,rfl,hb,hb0,hHb,rsb⟩:=ok
    refine ⟨b,ws,rfl,keep b hb fun e=> ?_,hb0,hHb,rsb.same sm⟩
    subst e
    exact ne (R.inj n i _ _ b h hs hv hw)
   | pin z u=> exact ⟨ok.1,Rp.same sm ok.2⟩
 ·rcases cP h1 with ⟨_,e⟩ | ⟨_,h1⟩
  ·cases e
  ·rcases cP h2 with ⟨_,e⟩ | ⟨_,h2⟩
   ·cases e
   ·exact R.inj i j _ _ b h1 h2 h3 h4
section
variable {X:Cx} {H0:Hp} {O0:List Addr} {E:XK} {ps:PSt} {D:PD} {ss:List Stmt} {e:Expr} {xs:List U} {b:Bool}
theorem me (n:Nat) (h:ps[n]?=some (some (.own xs))) (w:Ws X H0 O0 E ss D (ps.set n (some (.val (.lst xs))))):Ws X H0 O0 E ss D ps:=
 PSs.mono w fun D' σ H ⟨L,O,R⟩=> by
  obtain ⟨O',_,R'⟩:=R.free n h
  exact ⟨L,O',R'⟩
end
end L2
namespace L2
open PySem PySem.Spec PyProof.Rows
section
variable {X:Cx} {ns:List Int} {M:Int}
theorem pF (hc:X.calm=true) (hM:M∈ns∧∀ a∈ns,a≤M):dg X (.builtin "max") [.lst (ns.map U.int)] (.int M):=by
 intro pins s σ H vs us Q I r hq
 obtain ⟨O,d,rs,q⟩:=hq
 obtain ⟨v,rfl,h1⟩:=bY rs
 obtain ⟨p1,rfl,r1⟩:=dy r
 cases h1 with
 | @lst a ws _ hq hl hh=>
  cases r1
  obtain ⟨its,rv,pl,_⟩:=I.list (SqL.of (av _ _ hq))
  have hlen:its.length=ns.length:=by rw [← rv.length,hl,List.length_map]
  have hat:=kD (ns:=ns) rv ⟨hl,hh⟩
  have hn:0 < ns.length:=List.length_pos_of_mem hM.1
  refine call_max_walk (wpAny_pyIter_list pl.isList ?_)
  have hal:a < s.heap.objs.size:=by obtain ⟨o,e,_⟩:=pl.isList; exact Heap.lt_size e
  refine ⟨s.heap.objs.size,_,_,_,_,_,_,rfl,Walks.list (A:=X.A.in1) (I.ok.hd hc) s.heap.objs.size a (Nat.ne_of_lt hal) its.toArray,⟨⟨_,Heap.get?_push_size _ rfl,rfl,rfl⟩,pl.isList.push _⟩,fun b hb=> ?_,by rw [List.size_toArray,hlen]; exact hn,CmpOf.ints_gt (fun i=> ns.getD i 0) hat,fun v h' tk hP hk=> ?_⟩
  ·show b < (s.heap.push _).objs.size
   rw [Heap.size_push]
   rcases List.mem_cons.mp hb with z | z
   ·rw [z]; exact Nat.lt_succ_self _
   ·rw [List.mem_singleton.mp z]; exact Nat.lt_succ_of_lt hal
  ·obtain ⟨t,rfl⟩:=hat _ _ hP
   obtain ⟨b1,b2⟩:=argBest_gt (fun i=> ns.getD i 0) (its.toArray.size - 1)
   have e:ns.getD (argBest (fun i j=> decide (ns.getD i 0 > ns.getD j 0)) (its.toArray.size - 1)) 0=M:=by
    rw [List.size_toArray,hlen] at b1 b2 ⊢
    generalize argBest (fun i j=> decide (ns.getD i 0 > ns.getD j 0)) (ns.length - 1)=g at *
    have hg:g < ns.length:=by omega
    obtain ⟨j,hj,ej⟩:=List.getElem_of_mem hM.1
    have k1:=b2 j (by omega)
    have k2:=hM.2 ns[g] (List.getElem_mem hg)
    simp only [List.getD_eq_getElem?_getD,List.getElem?_eq_getElem hg,List.getElem?_eq_getElem hj,Option.getD_some] at k1 ⊢
    omega
   rw [e]
   refine ⟨.int M,H,I.kept (t':=tk) fun b o e=> hk b o ?_ (Heap.get?_push_of_some _ e),⟨t,rfl⟩,q _ H (.refl H) (.int _)⟩
   intro z
   have:b=s.heap.objs.size:=by simpa using z
   exact absurd (Heap.lt_size e) (by rw [this]; exact Nat.lt_irrefl _)
end
end L2
namespace L2
open PySem PySem.Spec PyProof.Rows
section
variable {X:Cx} {H0:Hp} {O0:List Addr} {E:XK} {ps:PSt} {D:PD} {e:Expr} {pos:Pos} {xs ys:List U}
theorem pH (i:Nat) {x:Str} {apos cpos xp:Pos} (hp:ps[i]?=some (some (.own xs))) (ha:Ev X H0 O0 ps e (.lst ys)) (hz:xs.length+ys.length≤sizeLine) (h:D.nx (ps.set i (some (.own (xs++ys)))))
  (hN:X.N[i]?=some x:=by rfl) (hv:Vis X.env.scope x:=by first | exact Or.inl rfl | exact Or.inr (Or.inl rfl) | exact Or.inr (Or.inr rfl)) (hd:(x==("__debug__":Str))=false:=by decide) (hcd:(x==("__classdict__":Str))=false:=by decide)
  (hbase:attributeBase (.Name x xp) "extend" X.env (eval (.Name x xp) X.env)=eval (.Name x xp) X.env:=by rfl)
  (hfew:((backTo cpos (starEach [e] X.env)).all (fun x=> !x.1) && (backToKw cpos (keywordEach [] X.env)).all (fun x=> x.1.isSome) && decide ([e].length+([]:List Keyword).length+(if ([]:List Keyword).isEmpty then 0 else 1) < 30))=true:=by rfl)
  (hline:(apos.endLine==cpos.line)=true:=by rfl) (hse:starEach [e] X.env=(false,eval e X.env)::starEach [] X.env:=by rfl) (hplain:(backTo cpos (starEach [] X.env)).any (·.1)=false:=by rfl)
  (hs:swapsWith (.Call (.Attribute (.Name x xp) "extend" apos) [e] [] cpos) none pos.line X.env=pure false:=by rfl):W1 X H0 O0 E (.Expr (.Call (.Attribute (.Name x xp) "extend" apos) [e] [] cpos) pos) D ps:=
 PS.mono (eB (t9 PySem.F.plainAttrs_list PySem.F.slot_list_extend PySem.F.type_list_extend nD (dl hN hv hd hcd) (bn ha cR hse) hbase hfew hline hse hplain) hs) fun D' σ H ⟨L,O,R⟩=> by
  obtain ⟨v,h1,a,vs,rfl,h3,h4,h5,h6⟩:=R.at_ i _ hp
  refine ⟨_,h1,.inl ⟨rfl,_,SqL.of h5⟩,O,R,fun w H' s r=> ?_⟩
  cases r with
  | @lst b zs _ hq hl hh=>
   refine ⟨a,b,vs,zs,rfl,rfl,s _ _ h5,av _ _ hq,by rw [h6.len,hl]; exact hz,?_⟩
   exact L.nx _ _ _ O ((R.go s).write hp h1 ((h6.same (aY s)).snoc ⟨hl,hh⟩)) h
end
end L2
namespace L2
open PySem PySem.Spec PySem.W PyProof.Rows
section
variable {X:Cx}
end
section
variable {X:Cx} {H0:Hp} {O0:List Addr} {E:XK} {ps:PSt} {D:PD} {a e:Expr} {es:List Expr} {us:List U} {k:Bool} {n:Nat} {fd:FuncData} {pn:List Str} {spec:List U→Out→Prop}
end
end L2
namespace L2
open PySem PySem.Spec PyProof.Rows
section
variable {X:Cx} {H0:Hp} {O0:List Addr} {ps:PSt} {a b:Expr} {p:P2} {l:List P2}
end
end L2
namespace ST
open PySem PySem.W PySem.Calls PyProof.Rows
section
variable {prog:Program} {w:World} {A:Around} {E:Value→Shared→Prop} {s:Shared}
end
end ST
namespace L2
open PySem PySem.Spec PyProof.Rows
section
variable {X:Cx} {H0:Hp} {O0:List Addr} {ps:PSt} {e:Expr} {p pos:Pos} {a b:P2}
end
end L2
namespace ST
open PySem PySem.W PySem.Calls PyProof.Rows
section
variable {prog:Program} {w:World} {A:Around} {E:Value→Shared→Prop} {s:Shared}
end
end ST
namespace L2
open PySem PySem.Spec PyProof.Rows
section
variable {X:Cx} {H0:Hp} {O0:List Addr} {ps:PSt} {e:Expr} {pts:List P2} {pos p:Pos}
end
end L2
namespace L2
open PySem PySem.Spec PySem.W PyProof.Rows
section
variable {X:Cx}
end
section
variable {X:Cx} {H0:Hp} {O0:List Addr} {E:XK} {ps:PSt} {D:PD} {a e:Expr} {es:List Expr} {us:List U} {k:Bool} {n:Nat} {fd:FuncData} {pn:List Str} {spec:List U→Out→Prop}
end
end L2
namespace L2
open PySem PySem.Spec PySem.W PyProof.Rows
structure pS (K:PySem.W.Frag) (x qual:Str) (st:Stmt) (f:Addr) (fd:FuncData) (D:Addr):Prop where
 ex:∃ (oc:Value) (od:Option Addr) (kV doc pm:Value) (an:Option Addr) (cdv ct:Value) (osl:Array (Option Value)),
  fd=PySem.W.fnOf x qual (aq st) (am st) (ah st) (.ref D) kV doc pm an cdv ct∧K.lookup f=some ⟨oc,od,.func fd,osl⟩∧PySem.W.codeIn K cdv qual=true
 kp:PySem.W.keepIn K (.ref f)=true
theorem tz {K:PySem.W.Frag} {x qual:Str} {st:Stmt} {f D:Addr} {oc:Value} {od an:Option Addr} {osl:Array (Option Value)} {kV doc pm cdv ct:Value} (l:K.lookup f=some ⟨oc,od,.func (PySem.W.fnOf x qual (aq st) (am st) (ah st) (.ref D) kV doc pm an cdv ct),osl⟩)
  (c:PySem.W.codeIn K cdv qual=true) (k:PySem.W.keepIn K (.ref f)=true):pS K x qual st f (PySem.W.fnOf x qual (aq st) (am st) (ah st) (.ref D) kV doc pm an cdv ct) D:=⟨⟨oc,od,kV,doc,pm,an,cdv,ct,osl,rfl,l,c⟩,k⟩
section
variable {P:Program} {w:World} {K:PySem.W.Frag} {mg:Str→Option Value} {base:Heap} {N pn:List Str} {qual nm:Str} {f D:Addr}
theorem pS.okF {x:Str} {st:Stmt} {fd:FuncData} {k:Nat} {sp:Sp} (F:pS K x qual st f fd D) (S:au N pn (ah st)) (len:∀ vs H Q E,sp vs H Q E→vs.length=pn.length)
  (hbody:∀ (cdv:Value) (A:Around) (outer:List Env) (s:Shared) (H:Hp) (vs:List V) (Q:VK) (E:XK),cF k (A.deeper (envOfC qual (ah st) s.heap.objs.size f cdv))→sp vs H Q E→
   ∃ t,PSs (de (CXF P w) P w K mg base N qual (ah st) f cdv A outer s H E) (am st) t∧t { nx:=fun _ H'=> Q .non H',rt:=Q } (start N vs) H):aR P w K mg base (CXF P w) (k+1) f fd pn sp:=by
 obtain ⟨oc,od,kV,doc,pm,an,cdv,ct,osl,rfl,lk,hcd⟩:=F.ex
 exact tP lk hcd S len fun A outer s H vs Q E hr hsp=> hbody cdv A outer s H vs Q E hr hsp
theorem uC {st:Stmt} {fd:FuncData} {k:Nat} {spec:List U→Out→Prop} (F:pS K nm qual st f fd D) (S:au N pn (ah st)) (len:∀ us o,spec us o→us.length=pn.length)
  (hbody:∀ (cdv:Value) (A:Around) (outer:List Env) (s:Shared) (H:Hp) (E:XK) (O:List Addr) (us:List U) (o:Out),cF k (A.deeper (envOfC qual (ah st) s.heap.objs.size f cdv))→spec us o→
   Ws (de (CXF P w) P w K mg base N qual (ah st) f cdv A outer s H E) H O E (am st) ⟨fun _=> o=.val .non,fun o'=> o'=o,fun _=> False,fun _=> False⟩ (d8 N us)):aR P w K mg base (CXF P w) (k+1) f fd pn (spU K spec):=by
 refine F.okF S (fun vs H Q E h=> ?_) fun cdv A outer s H vs Q E hr h=> ?_
 ·obtain ⟨us,O,o,_,r,hsp,_⟩:=h
  rw [r.len]; exact len us o hsp
 ·obtain ⟨us,O,o,d,r,hsp,q⟩:=h
  refine ⟨_,hbody cdv A outer s H E O us o hr hsp,⟨fun ps σ H' O' R e=> ?_,fun _ _ _ _ _ e=> e.elim,fun _ _ _ _ _ e=> e.elim,fun o' e=> by subst e; exact q⟩,O,?_⟩
  ·subst e; exact q .non H' R.same .non
  ·refine ⟨.refl H,fun a h=> h,fun a h=> .inl h,d,?_,fun i sl e=> ?_,fun i j xs ys a e1 e2 _ _=> ?_⟩
   ·unfold start d8
    rw [List.length_append,List.length_append,List.length_map,List.length_map,List.length_replicate,List.length_replicate,r.len]
   ·unfold d8 at e
    by_cases hi:i < us.length
    ·rw [List.getElem?_append_left (by simpa using hi),List.getElem?_map,List.getElem?_eq_getElem hi] at e
     cases e
     obtain ⟨v,h1,h2⟩:=r.get (List.getElem?_eq_getElem hi)
     refine ⟨v,?_,h2⟩
     unfold start
     rw [List.getElem?_append_left (by simpa [r.len] using hi),List.getElem?_map,h1]; rfl
    ·rw [List.getElem?_append_right (by simpa using hi),List.getElem?_replicate] at e
     split at e <;> cases e
   ·exfalso
    unfold d8 at e1
    by_cases hi:i < us.length
    ·rw [List.getElem?_append_left (by simpa using hi),List.getElem?_map,List.getElem?_eq_getElem hi] at e1
     cases e1
    ·rw [List.getElem?_append_right (by simpa using hi),List.getElem?_replicate] at e1
     split at e1 <;> cases e1
end
section
variable {X:Cx} {H0:Hp} {O0:List Addr} {ps:PSt} {e:Expr} {es:List Expr} {pos p:Pos} {u:U} {us:List U} {xs:List U} {CX:CXT} {n:Nat} {f:Addr} {fd:FuncData} {pn:List Str} {spec:List U→Out→Prop} {nm:Str} {j:Int}
theorem mC (F:aR X.prog X.w X.K X.mg X.base CX n f fd pn (spU X.K spec)) (hr:cF n X.A) (hg:Gl X nm) (hm:X.mg nm=some (.ref f)) (hk:PySem.W.keepIn X.K (.ref f)=true) (hb:∃ t,aA X.K fd pn [.int j t]) (hx:dJ CX X E0)
  (ha:EvA X H0 O0 ps (e::es) us) (h:spec (us++[.int j]) (.val u)) (hdb:(nm==("__debug__":Str))=false:=by decide) (he:starEach (e::es) X.env=(false,eval e X.env)::starEach es X.env:=by rfl) (hpl:(backTo pos (starEach es X.env)).any (·.1)=false:=by rfl):
  Ev X H0 O0 ps (.Call (.Name nm p) (e::es) [] pos) u:=by
 obtain ⟨t,hb⟩:=hb
 refine PE.mono (e9 F hr hg hm hk hb (.cons (show aV (.int j) (.int j t) from ⟨t,rfl⟩) .nil) hx ha hdb he hpl) fun σ H Q ⟨O,R,q⟩=> ⟨O,R,fun vs H1 s1 r1=> ?_⟩
 show spU X.K spec (vs++[.int j]) H1 Q _
 exact ⟨us++[.int j],O,.val u,(R.go s1).dom,r1.snoc (.cons (.int _) .nil),h,fun v H2 s2 r2=> q v H2 (s1.trans s2) r2⟩
end
end L2
namespace L2
open PySem PySem.Spec PyProof.Rows
section
variable {X:Cx} {H0:Hp} {O0:List Addr} {ps:PSt} {a b:Expr} {k:Int} {ns:List Int}
end
end L2
namespace L2
open PySem PySem.Spec PyProof.Rows
theorem ox {P:Program} {w:World} {K:PySem.W.Frag} {tg:Expr} (it:Addr) (lo:Int) (n:Nat):oF P w K tg (Itr lo n) [it] it (fun i h=> IsLongIter h it (lo+(i:Nat) * 1) ((n:Int) - (i:Nat)) 1) where
 mem:=by simp
 obj:=fun i h st b hb=> by
  have e:b=it:=by simpa using hb
  subst e
  exact ⟨_,st,fun v z=> by
   have z':Data.fields _=Data.cell v:=z
   cases z'⟩
 keep:=fun i h h' st k=> k it (by simp) _ st
 item:=by
  intro X hP hw hK hc i pins s σ H E I hf st hg
  subst hP hw hK
  obtain ⟨f0,f1,f2,f3,f4,f5⟩:=hf it (by simp)
  have W:=Walks.longrange (prog:=X.prog) (w:=X.w) (I.ok.hd hc) it lo 1 n
  refine W.item i s _ _ hg st fun v h' tk hv st' kk=> ?_
  obtain ⟨t,rfl⟩:=hv
  have I1:Inv X pins σ H { s with heap:=h',toks:=tk }:=I.turned (fun b o hb e=> kk b o (by simpa using hb) e) f0 f1 f3 f4 f5
  refine ⟨_,rfl,kC (s:={ s with heap:=h',toks:=tk }) (n:="longrange_iterator") st' rfl rfl (by decide) ⟨.int (lo+i),H,I1,⟨t,?_⟩,⟨rfl,rfl⟩,st',fun b hb=> (hf b hb).1⟩⟩
  rw [Int.mul_one]
 done:=by
  intro X hP hw hK hc i pins s σ H E I hf st hg
  subst hP hw hK
  obtain ⟨f0,f1,f2,f3,f4,f5⟩:=hf it (by simp)
  exact wpAny_pyNext_long_end (I.ok.hd hc) st (by have:n≤i:=hg; omega) fun h' eb=> ⟨rfl,I.turned (t':=s.toks) (fun b o hb e=> eb b o hb e) f0 f1 f3 f4 f5⟩
 self:=fun _ _ _ _ _ st h=> wpAny_pyIter_longiter st h
section
variable {X:Cx} {tg:Expr}
theorem iu {pins:List (Addr×Obj)} {σ:St} {H:Hp} {s:Shared} {R:It→Hp→Prop} {E:Value→Shared→Prop} {lo hi:Int} {t u v:Tok} {tk:Nat} (I:Inv X pins σ H s)
  (q:R (Itr lo (hi - lo).toNat) H):wpAny (model X.prog X.w) X.A (pyIter (.ref s.heap.objs.size)) (PIE X pins σ tg R) E { s with heap:=s.heap.push { cls:=.type "range",data:=.fields #[.int lo t,.int hi u,.int 1 v] },toks:=tk }:=by
 have I1:Inv X pins σ H { s with heap:=s.heap.push { cls:=.type "range",data:=.fields #[.int lo t,.int hi u,.int 1 v] },toks:=tk }:=I.kept fun b o e=> Heap.get?_push_of_some _ e
 have e1:lo+((0:Nat):Int) * 1=lo:=by simp
 have e2:(((hi - lo).toNat:Nat):Int) - ((0:Nat):Int)=Builtin.Range.rangeSize lo hi 1:=by rw [rangeSize_one]; split <;> omega
 by_cases hs:Builtin.Range.small lo hi 1=true
 ·refine wpAny_pyIter_range (IsRange.new ..) hs ?_
  refine ⟨(s.heap.push { cls:=.type "range",data:=.fields #[.int lo t,.int hi u,.int 1 v] }).objs.size,[(s.heap.push { cls:=.type "range",data:=.fields #[.int lo t,.int hi u,.int 1 v] }).objs.size],_,_,H,rfl,
   I1.kept (t':=tk) fun b o e=> Heap.get?_push_of_some _ e,g7 _ lo (hi - lo).toNat,?_,fun b hb=> ?_,q⟩
  ·show IsRangeIter _ _ (lo+((0:Nat):Int) * 1) ((((hi - lo).toNat:Nat):Int) - ((0:Nat):Int)) 1
   rw [e1,e2]
   exact Heap.get?_push_size _ rfl
  ·have e:b=(s.heap.push { cls:=.type "range",data:=.fields #[.int lo t,.int hi u,.int 1 v] }).objs.size:=by simpa using hb
   subst e
   exact I1.fpOk (Nat.le_refl _) (I1.hok.fresh (Nat.le_refl _))
 ·refine wpAny_pyIter_longrange (IsRange.new ..) (by simpa using hs) ?_
  refine ⟨(s.heap.push { cls:=.type "range",data:=.fields #[.int lo t,.int hi u,.int 1 v] }).objs.size,[(s.heap.push { cls:=.type "range",data:=.fields #[.int lo t,.int hi u,.int 1 v] }).objs.size],_,_,H,rfl,
   I1.kept (t':=tk) fun b o e=> Heap.get?_push_of_some _ e,ox _ lo (hi - lo).toNat,?_,fun b hb=> ?_,q⟩
  ·show IsLongIter _ _ (lo+((0:Nat):Int) * 1) ((((hi - lo).toNat:Nat):Int) - ((0:Nat):Int)) 1
   rw [e1,e2]
   exact Heap.get?_push_size _ rfl
  ·have e:b=(s.heap.push { cls:=.type "range",data:=.fields #[.int lo t,.int hi u,.int 1 v] }).objs.size:=by simpa using hb
   subst e
   exact I1.fpOk (Nat.le_refl _) (I1.hok.fresh (Nat.le_refl _))
def uW (ta:TA):TI:=fun σ H R=> ta σ H fun vs H1=> ∃ i j:Int,vs=[.int i,.int j]∧R (Itr i (j - i).toNat) H1
theorem lC {a b:Expr} {ta:TA} {p pos:Pos} (hg:Gl X "range") (hm:X.mg "range"=none) (ha:PA X [a,b] ta) (hs:starEach [a,b] X.env=[(false,eval a X.env),(false,eval b X.env)]:=by rfl) (hs2:starEach [b] X.env=[(false,eval b X.env)]:=by rfl):
  PI X tg (.Call (.Name "range" p) [a,b] [] pos) (uW ta):=by
 intro pins s σ H R I h
 refine Call_ (cj I hg hm boot_range (PyProof.Rows.callWith_type1 (thn (ha pos pins s σ H _ I h) fun us s1 ⟨vs,H1,I1,r1,q1⟩=> ?_) (by rw [hs,hs2]) (by rw [hs2]; rfl)))
 obtain ⟨i,j,e,q⟩:=q1
 subst e
 cases r1 with
 | cons r rr=>
  cases rr with
  | cons r' rr=>
   cases rr
   obtain ⟨t,rfl⟩:=r
   obtain ⟨t',rfl⟩:=r'
   exact call_range_2 (iu I1 q)
variable {H0:Hp} {O0:List Addr} {ps:PSt} {a b:Expr} {p pos:Pos}
theorem oJ {i j:Int} (hg:Gl X "range") (hm:X.mg "range"=none) (ha:EvA X H0 O0 ps [a,b] [.int i,.int j]) (hs:starEach [a,b] X.env=[(false,eval a X.env),(false,eval b X.env)]:=by rfl) (hs2:starEach [b] X.env=[(false,eval b X.env)]:=by rfl):
  EvI X H0 O0 ps tg (.Call (.Name "range" p) [a,b] [] pos) (cQ i (j - i).toNat):=
 PI.mono (lC hg hm ha hs hs2) fun σ H Q ⟨O,R,q⟩=> ⟨O,R,fun vs H' s r=> by
  obtain ⟨v,w,rfl,k1,k2⟩:=dN r
  cases k1; cases k2
  exact ⟨i,j,rfl,q _ H' s gU⟩⟩
end
section
variable {X:Cx} {H0:Hp} {O0:List Addr} {E:XK} {ps ps':PSt} {D:PD} {tg iter cond:Expr} {pos p:Pos} {xs:List U}
end
end L2
namespace L2
open PySem PySem.Spec PyProof.Rows
section
variable {X:Cx} {H0:Hp} {O0:List Addr} {ps:PSt} {e:Expr} {ns:List Int} {pos p:Pos}
end
end L2
namespace L2
open PySem PySem.Spec PyProof.Rows
section
variable {X:Cx} {H0:Hp} {O0:List Addr} {E:XK} {ps:PSt} {D:PD} {c:Expr} {pos:Pos} {xs:List U}
end
end L2
namespace L2
open PySem PySem.Spec PyProof.Rows
theorem mf {X:Cx} {H0:Hp} {O0:List Addr} {ps:PSt} {xs:List U} {c:Expr} {b:Bool} (n:Nat) (h:ps[n]?=some (some (.own xs))) (w:Tt X H0 O0 (ps.set n (some (.val (.lst xs)))) c b):Tt X H0 O0 ps c b:=
 fun pins s σ H Q I ⟨O,R,k⟩=> by
  obtain ⟨O',_,R'⟩:=R.free n h
  exact w pins s σ H Q I ⟨O',R',k⟩
end L2
namespace TS
open PySem PyProof.Rows
def iW:Bool→Keyed→Array Keyed→Nat→Nat→Nat→StateT SortSt Sem (Option Nat):=sortPriv% PySem.Builtin.gallop
section
variable {prog:Program} {w:World} {A:Around} {E:Value→Shared→Prop} {s:Shared}
def gt (a:Array Keyed) (i:Nat):Keyed:=a.getD i (Value.none,Value.none)
theorem gt_eq {a:Array Keyed} {i:Nat} (h:i < a.toList.length):gt a i=a.toList[i]:=by
 have h':i < a.size:=by simpa using h
 simp [gt,Array.getD,h']
theorem aF {a:Array Keyed} {i:Nat} (h:i < a.size):gt a i∈a.toList:=by rw [gt_eq (by simpa using h)]; exact List.getElem_mem _
theorem el {a:Array Keyed} {i:Nat} {st:SortSt} {Q:Keyed→SortSt→Prop} (hi:i < a.size) (h:Q (gt a i) st):wpS (model prog w) A E s (elem' a i) Q st:=by
 rw [elem'_eq,Array.getElem?_eq_getElem hi]
 refine wpS_pure ?_
 rw [gt_eq (by simpa using hi)] at h
 simpa using h
end
section
variable {prog:Program} {w:World} {A:Around} {E:Value→Shared→Prop} {s:Shared}
theorem gal {left:Bool} {key:Keyed} {arr:Array Keyed} {base n hint:Nat} {st:SortSt} {Q:Option Nat→SortSt→Prop} {f:Nat→Bool} {p:Nat} (hh:hint < n)
  (hin:∀ i,i < n→base+i < arr.size)
  (hT:left=true→∀ i (Q:Option Bool→SortSt→Prop),i < n→Q (some (f i)) st→wpS (model prog w) A E s (lt' (gt arr (base+i)) key) Q st)
  (hF:left=false→∀ i (Q:Option Bool→SortSt→Prop),i < n→Q (some (!f i)) st→wpS (model prog w) A E s (lt' key (gt arr (base+i))) Q st)
  (hp:p≤n) (hf:∀ i,i < n→(f i=true↔i < p)) (h:Q (some p) st):wpS (model prog w) A E s (iW left key arr base n hint) Q st:=by
 refine wpS_bind (wpS_mono (Q:=fun r st2=> r=some (f _)∧st2=st) (by
  refine wpS_bind (el (hin _ hh) ?_)
  cases left with
  | true=> rw [if_pos rfl]; exact hT rfl _ _ hh ⟨rfl,rfl⟩
  | false=>
   rw [if_neg (by decide)]
   exact wpS_bind (hF rfl _ _ hh (wpS_pure ⟨by simp,rfl⟩))) ?_)
 intro r0 st0 hr0
 rw [hr0.1,hr0.2]
 clear hr0 r0 st0
 dsimp only
 by_cases hr:f hint=true
 ·rw [if_pos hr]
  have hhp:=(hf hint hh).mp hr
  refine wpS_bind (wpS_mono (wpS_forRange (I:=fun x c st'=> st'=st∧∃ la ofs,c=(none,la,ofs)∧x+1≤ofs∧la < ofs∧hint+la < p) (Q:=fun c st'=> st'=st∧∃ la ofs,c=(none,la,ofs)∧la < ofs∧hint+la < p∧p≤hint+min ofs (n - hint)) ?_ ?_ ⟨rfl,0,1,rfl,Nat.le_refl _,Nat.one_pos,hhp⟩) ?_)
  ·rintro x c st' _ hx ⟨rfl,la,ofs,rfl,a1,a2,a3⟩
   dsimp only
   by_cases ho:ofs ≥ n - hint
   ·rw [if_pos ho]
    exact wpS_pure ⟨rfl,la,ofs,rfl,a2,a3,by omega⟩
   ·rw [if_neg ho]
    have hm:hint+ofs < n:=by omega
    refine wpS_bind (wpS_mono (Q:=fun r st2=> r=some (f _)∧st2=st') (by
     refine wpS_bind (el (hin _ hm) ?_)
     cases left with
     | true=> rw [if_pos rfl]; exact hT rfl _ _ hm ⟨rfl,rfl⟩
     | false=>
      rw [if_neg (by decide)]
      exact wpS_bind (hF rfl _ _ hm (wpS_pure ⟨by simp,rfl⟩))) ?_)
    intro r0 st0 hr0
    rw [hr0.1,hr0.2]
    clear hr0 r0 st0
    dsimp only
    by_cases hfm:f (hint+ofs)=true
    ·rw [if_neg (by rw [hfm]; decide)]
     have:=(hf _ hm).mp hfm
     exact wpS_pure ⟨rfl,_,_,rfl,by omega,by omega,this⟩
    ·rw [if_pos (by simpa using hfm)]
     have:¬ hint+ofs < p:=fun z=> hfm ((hf _ hm).mpr z)
     exact wpS_pure ⟨rfl,la,ofs,rfl,a2,a3,by omega⟩
  ·rintro c st' ⟨rfl,la,ofs,rfl,a1,a2,a3⟩
   exact ⟨rfl,la,ofs,rfl,a2,a3,by omega⟩
  rintro c st' ⟨rfl,la,ofs,rfl,a1,a2,a3⟩
  dsimp only
  refine wpS_bind (wpS_mono (wpS_forRange (I:=fun x c st2=> st2=st'∧∃ lo hi,c=(none,lo,hi)∧lo≤p∧p≤hi∧hi≤n∧hi - lo≤n - x) (Q:=fun c st2=> st2=st'∧∃ lo,c=(none,lo,p)) ?_ ?_ ⟨rfl,_,_,rfl,by omega,a3,by omega,by omega⟩) ?_)
  ·rintro x c st' _ hx ⟨rfl,lo,hi,rfl,a1,a2,a3,a4⟩
   dsimp only
   by_cases hlh:lo ≥ hi
   ·rw [if_pos hlh]
    exact wpS_pure ⟨rfl,lo,by rw [show hi=p by omega]⟩
   ·rw [if_neg hlh]
    have hm:lo+(hi - lo) / 2 < n:=by omega
    refine wpS_bind (wpS_mono (Q:=fun r st2=> r=some (f _)∧st2=st') (by
     refine wpS_bind (el (hin _ hm) ?_)
     cases left with
     | true=> rw [if_pos rfl]; exact hT rfl _ _ hm ⟨rfl,rfl⟩
     | false=>
      rw [if_neg (by decide)]
      exact wpS_bind (hF rfl _ _ hm (wpS_pure ⟨by simp,rfl⟩))) ?_)
    intro r0 st0 hr0
    rw [hr0.1,hr0.2]
    clear hr0 r0 st0
    dsimp only
    by_cases hfm:f (lo+(hi - lo) / 2)=true
    ·rw [if_pos hfm]
     have:=(hf _ hm).mp hfm
     exact wpS_pure ⟨rfl,_,_,rfl,by omega,a2,a3,by omega⟩
    ·rw [if_neg hfm]
     have:¬ lo+(hi - lo) / 2 < p:=fun z=> hfm ((hf _ hm).mpr z)
     exact wpS_pure ⟨rfl,_,_,rfl,a1,by omega,by omega,by omega⟩
  ·rintro c st' ⟨rfl,lo,hi,rfl,a1,a2,a3,a4⟩
   exact ⟨rfl,lo,by rw [show hi=p by omega]⟩
  ·rintro c st' ⟨rfl,lo,rfl⟩
   exact wpS_pure h
 ·rw [if_neg hr]
  have hhp:¬ hint < p:=fun z=> hr ((hf hint hh).mpr z)
  refine wpS_bind (wpS_mono (wpS_forRange (I:=fun x c st'=> st'=st∧∃ la ofs,c=(none,la,ofs)∧x+1≤ofs∧la < ofs∧la≤hint∧p≤hint - la) (Q:=fun c st'=> st'=st∧∃ la ofs,c=(none,la,ofs)∧la≤hint∧p≤hint - la∧hint+1 - min ofs (hint+1)≤p) ?_ ?_ ⟨rfl,0,1,rfl,Nat.le_refl _,Nat.one_pos,Nat.zero_le _,by omega⟩) ?_)
  ·rintro x c st' _ hx ⟨rfl,la,ofs,rfl,a1,a2,a3,a4⟩
   dsimp only
   by_cases ho:ofs ≥ hint+1
   ·rw [if_pos ho]
    exact wpS_pure ⟨rfl,la,ofs,rfl,a3,a4,by omega⟩
   ·rw [if_neg ho]
    have hm:hint - ofs < n:=by omega
    refine wpS_bind (wpS_mono (Q:=fun r st2=> r=some (f _)∧st2=st') (by
     refine wpS_bind (el (hin _ hm) ?_)
     cases left with
     | true=> rw [if_pos rfl]; exact hT rfl _ _ hm ⟨rfl,rfl⟩
     | false=>
      rw [if_neg (by decide)]
      exact wpS_bind (hF rfl _ _ hm (wpS_pure ⟨by simp,rfl⟩))) ?_)
    intro r0 st0 hr0
    rw [hr0.1,hr0.2]
    clear hr0 r0 st0
    dsimp only
    by_cases hfm:f (hint - ofs)=true
    ·rw [if_pos hfm]
     have:=(hf _ hm).mp hfm
     exact wpS_pure ⟨rfl,la,ofs,rfl,a3,a4,by omega⟩
    ·rw [if_neg hfm]
     have:¬ hint - ofs < p:=fun z=> hfm ((hf _ hm).mpr z)
     exact wpS_pure ⟨rfl,_,_,rfl,by omega,by omega,by omega,by omega⟩
  ·rintro c st' ⟨rfl,la,ofs,rfl,a1,a2,a3,a4⟩
   exact ⟨rfl,la,ofs,rfl,a3,a4,by omega⟩
  rintro c st' ⟨rfl,la,ofs,rfl,a1,a2,a3⟩
  dsimp only
  refine wpS_bind (wpS_mono (wpS_forRange (I:=fun x c st2=> st2=st'∧∃ lo hi,c=(none,lo,hi)∧lo≤p∧p≤hi∧hi≤n∧hi - lo≤n - x) (Q:=fun c st2=> st2=st'∧∃ lo,c=(none,lo,p)) ?_ ?_ ⟨rfl,_,_,rfl,a3,a2,by omega,by omega⟩) ?_)
  ·rintro x c st' _ hx ⟨rfl,lo,hi,rfl,a1,a2,a3,a4⟩
   dsimp only
   by_cases hlh:lo ≥ hi
   ·rw [if_pos hlh]
    exact wpS_pure ⟨rfl,lo,by rw [show hi=p by omega]⟩
   ·rw [if_neg hlh]
    have hm:lo+(hi - lo) / 2 < n:=by omega
    refine wpS_bind (wpS_mono (Q:=fun r st2=> r=some (f _)∧st2=st') (by
     refine wpS_bind (el (hin _ hm) ?_)
     cases left with
     | true=> rw [if_pos rfl]; exact hT rfl _ _ hm ⟨rfl,rfl⟩
     | false=>
      rw [if_neg (by decide)]
      exact wpS_bind (hF rfl _ _ hm (wpS_pure ⟨by simp,rfl⟩))) ?_)
    intro r0 st0 hr0
    rw [hr0.1,hr0.2]
    clear hr0 r0 st0
    dsimp only
    by_cases hfm:f (lo+(hi - lo) / 2)=true
    ·rw [if_pos hfm]
     have:=(hf _ hm).mp hfm
     exact wpS_pure ⟨rfl,_,_,rfl,by omega,a2,a3,by omega⟩
    ·rw [if_neg hfm]
     have:¬ lo+(hi - lo) / 2 < p:=fun z=> hfm ((hf _ hm).mpr z)
     exact wpS_pure ⟨rfl,_,_,rfl,a1,by omega,by omega,by omega⟩
  ·rintro c st' ⟨rfl,lo,hi,rfl,a1,a2,a3,a4⟩
   exact ⟨rfl,lo,by rw [show hi=p by omega]⟩
  ·rintro c st' ⟨rfl,lo,rfl⟩
   exact wpS_pure h
end
def ic:Nat→StateT SortSt Sem Unit:=sortPriv% PySem.Builtin.setMinGallop
abbrev eX (st:SortSt) (g:Nat):SortSt:=SortSt.mk' (kindOf st) (arrOf st) (pendingOf st) g (failedOf st)
def qe:Array Keyed→Array Keyed→StateT SortSt Sem (Array Keyed):=sortPriv% PySem.Builtin.mergeLo
section
variable {α:Type} {R:α→α→Bool} {A B out:List α} {ia ib:Nat}
structure MI (R:α→α→Bool) (A B out:List α) (ia ib:Nat):Prop where
 perm:out.Perm (A.take ia++B.take ib)
 srt:out.Pairwise fun x y=> R x y=true
 lA:∀ x∈out,∀ y∈A.drop ia,R x y=true
 lB:∀ x∈out,∀ y∈B.drop ib,R x y=true
structure MO (R:α→α→Bool) (A B:List α):Prop where
 tr:∀ x y z,R x y=true→R y z=true→R x z=true
 sA:A.Pairwise fun x y=> R x y=true
 sB:B.Pairwise fun x y=> R x y=true
 tot:∀ x∈A,∀ y∈B,R y x=false→R x y=true
theorem dP (tr:∀ x y z,R x y=true→R y z=true→R x z=true) {L:List α} (sL:L.Pairwise fun x y=> R x y=true) {i:Nat} (hi:i < L.length) {x:α} (h:R x L[i]=true):∀ y∈L.drop i,R x y=true:=fun y hy=> by
 rw [List.drop_eq_getElem_cons hi] at hy
 rcases List.mem_cons.mp hy with e | e
 ·rw [e]; exact h
 ·have:=(List.pairwise_cons.mp (by rw [← List.drop_eq_getElem_cons hi]; exact sL.sublist (List.drop_sublist i L))).1 y e
  exact tr _ _ _ h this
theorem ir {L:List α} (sL:L.Pairwise fun x y=> R x y=true) {i:Nat} (hi:i < L.length):∀ y∈L.drop (i+1),R L[i] y=true:=fun y hy=>
 (List.pairwise_cons.mp (by rw [← List.drop_eq_getElem_cons hi]; exact sL.sublist (List.drop_sublist i L))).1 y hy
theorem eP {L:List α} {i:Nat} {y:α} (h:y∈L.drop (i+1)):y∈L.drop i:=by
 rw [← List.drop_drop] at h
 exact List.mem_of_mem_drop h
theorem fU {L:List α} {i:Nat} (hi:i < L.length):L[i]∈L.drop i:=by rw [List.drop_eq_getElem_cons hi]; exact List.mem_cons_self
theorem MI.pushA (O:MO R A B) (I:MI R A B out ia ib) (hi:ia < A.length) (h:∀ y∈B.drop ib,R A[ia] y=true):MI R A B (out++[A[ia]]) (ia+1) ib where
 perm:=by
  rw [List.take_succ_eq_append_getElem hi]
  refine (I.perm.append_right _).trans ?_
  rw [List.append_assoc,List.append_assoc]
  exact List.Perm.append_left _ List.perm_append_comm
 srt:=List.pairwise_append.mpr ⟨I.srt,by simp,fun x hx y hy=> by rw [List.mem_singleton.mp hy]; exact I.lA x hx _ (fU hi)⟩
 lA:=fun x hx y hy=> by
  rcases List.mem_append.mp hx with e | e
  ·exact I.lA x e y (eP hy)
  ·rw [List.mem_singleton.mp e]; exact ir O.sA hi y hy
 lB:=fun x hx y hy=> by
  rcases List.mem_append.mp hx with e | e
  ·exact I.lB x e y hy
  ·rw [List.mem_singleton.mp e]; exact h y hy
theorem MI.pushB (O:MO R A B) (I:MI R A B out ia ib) (hi:ib < B.length) (h:∀ y∈A.drop ia,R B[ib] y=true):MI R A B (out++[B[ib]]) ia (ib+1) where
 perm:=by
  rw [List.take_succ_eq_append_getElem hi,← List.append_assoc]
  exact I.perm.append_right _
 srt:=List.pairwise_append.mpr ⟨I.srt,by simp,fun x hx y hy=> by rw [List.mem_singleton.mp hy]; exact I.lB x hx _ (fU hi)⟩
 lA:=fun x hx y hy=> by
  rcases List.mem_append.mp hx with e | e
  ·exact I.lA x e y hy
  ·rw [List.mem_singleton.mp e]; exact h y hy
 lB:=fun x hx y hy=> by
  rcases List.mem_append.mp hx with e | e
  ·exact I.lB x e y (eP hy)
  ·rw [List.mem_singleton.mp e]; exact ir O.sB hi y hy
theorem MI.runA (O:MO R A B) (hb:ib < B.length):∀ (k:Nat) {out:List α} {ia:Nat},MI R A B out ia ib→ia+k≤A.length→(∀ i (h:ia+i < A.length),i < k→R A[ia+i] B[ib]=true)→MI R A B (out++(A.drop ia).take k) (ia+k) ib
 | 0,out,ia,I,_,_=> by simpa using I
 | k+1,out,ia,I,hk,h=> by
  have hi:ia < A.length:=by omega
  have I':=I.pushA O hi (dP O.tr O.sB hb (h 0 (by omega) (by omega)))
  have:=MI.runA O hb k I' (by omega) (fun i hi' hik=> by
   have:=h (i+1) (by omega) (by omega)
   have e:A[ia+1+i]=A[ia+(i+1)]'(by omega):=by congr 1; omega
   rw [e]; exact this)
  rw [List.drop_eq_getElem_cons hi,List.take_succ_cons]
  rw [List.append_assoc,show ia+1+k=ia+(k+1) by omega] at this
  exact this
theorem MI.runB (O:MO R A B) (ha:ia < A.length):∀ (k:Nat) {out:List α} {ib:Nat},MI R A B out ia ib→ib+k≤B.length→(∀ i (h:ib+i < B.length),i < k→R B[ib+i] A[ia]=true)→MI R A B (out++(B.drop ib).take k) ia (ib+k)
 | 0,out,ib,I,_,_=> by simpa using I
 | k+1,out,ib,I,hk,h=> by
  have hi:ib < B.length:=by omega
  have I':=I.pushB O hi (dP O.tr O.sA ha (h 0 (by omega) (by omega)))
  have:=MI.runB O ha k I' (by omega) (fun i hi' hik=> by
   have:=h (i+1) (by omega) (by omega)
   have e:B[ib+1+i]=B[ib+(i+1)]'(by omega):=by congr 1; omega
   rw [e]; exact this)
  rw [List.drop_eq_getElem_cons hi,List.take_succ_cons]
  rw [List.append_assoc,show ib+1+k=ib+(k+1) by omega] at this
  exact this
def Mgd (R:α→α→Bool) (A B r:List α):Prop:=r.Perm (A++B)∧r.Pairwise fun x y=> R x y=true
theorem MI.perm_all (I:MI R A B out ia ib):(out++A.drop ia++B.drop ib).Perm (A++B):=by
 have h:(out++A.drop ia++B.drop ib).Perm ((A.take ia++B.take ib)++A.drop ia++B.drop ib):=(I.perm.append_right _).append_right _
 refine h.trans ?_
 have e:A++B=(A.take ia++A.drop ia)++(B.take ib++B.drop ib):=by rw [List.take_append_drop,List.take_append_drop]
 rw [e,List.append_assoc,List.append_assoc,List.append_assoc]
 refine List.Perm.append_left _ ?_
 rw [← List.append_assoc,← List.append_assoc]
 exact List.Perm.append_right _ List.perm_append_comm
theorem MI.doneB (O:MO R A B) (I:MI R A B out ia ib) (h:ib=B.length):Mgd R A B (out++A.drop ia++B.drop ib):=by
 refine ⟨I.perm_all,?_⟩
 rw [h,List.drop_length,List.append_nil]
 exact List.pairwise_append.mpr ⟨I.srt,O.sA.sublist (List.drop_sublist _ _),I.lA⟩
theorem MI.doneA (O:MO R A B) (I:MI R A B out ia ib) (h:ia=A.length):Mgd R A B (out++A.drop ia++B.drop ib):=by
 refine ⟨I.perm_all,?_⟩
 rw [h,List.drop_length,List.append_nil]
 exact List.pairwise_append.mpr ⟨I.srt,O.sB.sublist (List.drop_sublist _ _),I.lB⟩
theorem MI.last (O:MO R A B) (I:MI R A B out ia ib) (h:ia+1=A.length) (hl:∀ y∈B,R y (A[ia]'(by omega))=true):Mgd R A B (out++B.drop ib++A.drop ia):=by
 refine ⟨?_,?_⟩
 ·refine List.Perm.trans ?_ I.perm_all
  rw [List.append_assoc,List.append_assoc]
  exact List.Perm.append_left _ List.perm_append_comm
 ·have e:A.drop ia=[A[ia]'(by omega)]:=by rw [List.drop_eq_getElem_cons (by omega),List.drop_of_length_le (by omega)]
  rw [e]
  refine List.pairwise_append.mpr ⟨List.pairwise_append.mpr ⟨I.srt,O.sB.sublist (List.drop_sublist _ _),I.lB⟩,by simp,fun x hx y hy=> ?_⟩
  rw [List.mem_singleton.mp hy]
  rcases List.mem_append.mp hx with z | z
  ·exact I.lA x z _ (by rw [e]; simp)
  ·exact hl x (List.mem_of_mem_drop z)
end
section
variable {M:Model} {A:Around} {E:Value→Shared→Prop} {s:Shared} {σ:Type}
theorem oN {β:Type} {n:Nat} {f:Nat→β→StateT σ Sem (ForInStep β)} (I:Nat→β→σ→Prop) {Q:β→σ→Prop}
  (hstep:∀ i c st,i < n→I i c st→∀ post:ForInStep β→σ→Prop,(∀ c st',Q c st'→post (.done c) st')→(∀ c st',I (i+1) c st'→post (.yield c) st')→wpS M A E s (f i c) post st)
  (hend:∀ c st,I n c st→Q c st) {c:β} {st:σ} (h:I 0 c st):wpS M A E s (forIn [0:n] c f) Q st:=
 wpS_forRange I (fun i c st _ hi hI=> hstep i c st hi hI _ (fun _ _ h=> h) (fun _ _ h=> h)) (fun c st h=> hend c st (by rwa [Nat.zero_max] at h)) h
theorem hv {α β:Type} {v:β} {f:β→StateT σ Sem α} {Q:α→σ→Prop} {st:σ} (h:wpS M A E s (f v) Q st):wpS M A E s (have x:=v; f x) Q st:=h
end
section
variable {prog:Program} {w:World} {A:Around} {E:Value→Shared→Prop} {s:Shared}
theorem ru {x:String} {Q:Unit→SortSt→Prop} {st:SortSt} (h:Q () st):wpS (model prog w) A E s (liftM (rule x)) Q st:=wpS_lift (wpAny_rule ⟨rfl,h⟩)
def Asks (prog:Program) (w:World) (A:Around) (E:Value→Shared→Prop) (s:Shared) (κ:SortKind) (P:Keyed→Prop) (R:Keyed→Keyed→Bool):Prop:=
 ∀ x y st (Q:Option Bool→SortSt→Prop),P x→P y→kindOf st=κ→Q (some (R x y)) st→wpS (model prog w) A E s (lt' x y) Q st
theorem mX {n:Nat} (q:Nat→Bool) (mono:∀ i j,i < j→j < n→q j=true→q i=true):∃ k,k≤n∧(∀ i,i < k→q i=true)∧∀ i,k≤i→i < n→q i=false:=by
 have go:∀ m,m≤n→(∀ i,m≤i→i < n→q i=false)→∃ k,k≤n∧(∀ i,i < k→q i=true)∧∀ i,k≤i→i < n→q i=false:=by
  intro m
  induction m with
  | zero=> intro _ hm; exact ⟨0,Nat.zero_le _,fun i h=> by omega,hm⟩
  | succ m ih=>
   intro hmn hm
   by_cases hr:q m=true
   ·refine ⟨m+1,hmn,fun i him=> ?_,hm⟩
    rcases Nat.lt_or_eq_of_le (Nat.le_of_lt_succ him) with z | z
    ·exact mono i m z (by omega) hr
    ·subst z; exact hr
   ·refine ih (by omega) fun i him hi=> ?_
    rcases Nat.lt_or_eq_of_le him with z | z
    ·exact hm i z hi
    ·subst z; simpa using hr
 exact go n (Nat.le_refl _) fun i h1 h2=> by omega
variable {κ:SortKind} {P:Keyed→Prop} {R:Keyed→Keyed→Bool} (K:Asks prog w A E s κ P R)
include K
theorem jp {key:Keyed} {b:Array Keyed} {ib n hint:Nat} {st:SortSt} {Q:Option Nat→SortSt→Prop} (hk:kindOf st=κ) (hn:ib+n≤b.size) (hh:hint < n) (pk:P key) (pb:∀ i,i < n→P (gt b (ib+i))) (tr:∀ x y z,R x y=true→R y z=true→R x z=true) (sb:∀ i j,i < j→j < n→R (gt b (ib+i)) (gt b (ib+j))=true)
  (h:∀ k,k≤n→(∀ i,i < k→R (gt b (ib+i)) key=true)→(∀ i,k≤i→i < n→R (gt b (ib+i)) key=false)→Q (some k) st):wpS (model prog w) A E s (iW true key b ib n hint) Q st:=by
 obtain ⟨k,kn,k1,k2⟩:=mX (n:=n) (fun i=> R (gt b (ib+i)) key) fun i j h1 h2 hj=> tr _ _ _ (sb i j h1 h2) hj
 refine gal (f:=fun i=> R (gt b (ib+i)) key) (p:=k) hh (fun i hi=> by omega) (fun _ i Q' hi hq=> K _ _ _ _ (pb i hi) pk hk hq) (fun z=> by cases z) kn (fun i hi=> ?_) (h k kn k1 k2)
 ·constructor
  ·intro hr
   rcases Nat.lt_or_ge i k with z | z
   ·exact z
   ·rw [k2 i z hi] at hr; cases hr
  ·intro z; exact k1 i z
theorem qI {key:Keyed} {b:Array Keyed} {ib n hint:Nat} {st:SortSt} {Q:Option Nat→SortSt→Prop} (hk:kindOf st=κ) (hn:ib+n≤b.size) (hh:hint < n) (pk:P key) (pb:∀ i,i < n→P (gt b (ib+i))) (tr:∀ x y z,R x y=true→R y z=true→R x z=true) (sb:∀ i j,i < j→j < n→R (gt b (ib+i)) (gt b (ib+j))=true)
  (h:∀ k,k≤n→(∀ i,i < k→R key (gt b (ib+i))=false)→(∀ i,k≤i→i < n→R key (gt b (ib+i))=true)→Q (some k) st):wpS (model prog w) A E s (iW false key b ib n hint) Q st:=by
 obtain ⟨k,kn,k1,k2⟩:=mX (n:=n) (fun i=> !R key (gt b (ib+i))) fun i j h1 h2 hj=> by
  rw [Bool.not_eq_true'] at hj ⊢
  cases hc:R key (gt b (ib+i)) with
  | false=> rfl
  | true=> rw [tr _ _ _ hc (sb i j h1 h2)] at hj; cases hj
 refine gal (f:=fun i=> !R key (gt b (ib+i))) (p:=k) hh (fun i hi=> by omega) (fun z=> by cases z) (fun _ i Q' hi hq=> K _ _ _ _ pk (pb i hi) hk (by simpa using hq)) kn (fun i hi=> ?_) (h k kn (fun i hi=> by simpa using k1 i hi) fun i h1 h2=> by simpa using k2 i h1 h2)
 ·constructor
  ·intro hr
   rcases Nat.lt_or_ge i k with z | z
   ·exact z
   ·have:=k2 i z hi
    rw [this] at hr; cases hr
  ·intro z; exact k1 i z
omit K in
theorem fD (a:Array Keyed) (i:Nat):(a.extract i a.size).toList=a.toList.drop i:=by simp [List.take_of_length_le]
omit K in
theorem eI (a:Array Keyed) (i k:Nat):(a.extract i (i+k)).toList=(a.toList.drop i).take k:=by simp
omit K in
theorem sg {g:Nat} {st:SortSt} {Q:Unit→SortSt→Prop} (h:Q () (eX st g)):wpS (model prog w) A E s (ic g) Q st:=wpS_modify h
set_option maxHeartbeats 4000000 in
theorem mlo {a b:Array Keyed} {st:SortSt} {Q:Array Keyed→SortSt→Prop} (O:MO R a.toList b.toList) (pa:∀ x∈a.toList,P x) (pb:∀ x∈b.toList,P x) (ha:0 < a.size) (hb:0 < b.size) (h0:R (gt b 0) (gt a 0)=true) (hl:∀ y∈b.toList,R y (gt a (a.size - 1))=true) (hk:kindOf st=κ)
  (h:∀ r g,Mgd R a.toList b.toList r.toList→Q r (eX st g)):wpS (model prog w) A E s (qe a b) Q st:=by
 have la:a.toList.length=a.size:=by simp
 have lb:b.toList.length=b.size:=by simp
 have dn:∀ {out:Array Keyed} {ia ib:Nat},MI R a.toList b.toList out.toList ia ib→ib=b.size→Mgd R a.toList b.toList (out++a.extract ia a.size++b.extract ib b.size).toList:=fun {out ia ib} I e=> by
  rw [Array.toList_append,Array.toList_append,fD,fD]
  exact I.doneB O (by omega)
 have ls:∀ {out:Array Keyed} {ia ib:Nat},MI R a.toList b.toList out.toList ia ib→ia+1=a.size→Mgd R a.toList b.toList (out++b.extract ib b.size++a.extract ia a.size).toList:=fun {out ia ib} I e=> by
  rw [Array.toList_append,Array.toList_append,fD,fD]
  refine I.last O (by omega) fun y hy=> ?_
  have:=hl y hy
  rw [show a.size - 1=ia by omega,gt_eq (by omega)] at this
  exact this
 have pA:∀ {out:Array Keyed} {ia ib:Nat},MI R a.toList b.toList out.toList ia ib→ia < a.size→ib < b.size→R (gt b ib) (gt a ia)=false→MI R a.toList b.toList (out.push (gt a ia)).toList (ia+1) ib:=fun {out ia ib} I h1 h2 hr=> by
  rw [Array.toList_push,gt_eq (show ia < a.toList.length by omega)]
  refine I.pushA O (by omega) (dP O.tr O.sB (show ib < b.toList.length by omega) ?_)
  rw [gt_eq (show ib < b.toList.length by omega),gt_eq (show ia < a.toList.length by omega)] at hr
  exact O.tot _ (List.getElem_mem _) _ (List.getElem_mem _) hr
 have pB:∀ {out:Array Keyed} {ia ib:Nat},MI R a.toList b.toList out.toList ia ib→ia < a.size→ib < b.size→R (gt b ib) (gt a ia)=true→MI R a.toList b.toList (out.push (gt b ib)).toList ia (ib+1):=fun {out ia ib} I h1 h2 hr=> by
  rw [Array.toList_push,gt_eq (show ib < b.toList.length by omega)]
  refine I.pushB O (by omega) (dP O.tr O.sA (show ia < a.toList.length by omega) ?_)
  rw [gt_eq (show ib < b.toList.length by omega),gt_eq (show ia < a.toList.length by omega)] at hr
  exact hr
 have sa:∀ {ia n:Nat},ia+n≤a.size→∀ i j,i < j→j < n→R (gt a (ia+i)) (gt a (ia+j))=true:=fun {ia n} hn i j h1 h2=> by
  rw [gt_eq (show ia+i < a.toList.length by omega),gt_eq (show ia+j < a.toList.length by omega)]
  exact List.pairwise_iff_getElem.mp O.sA _ _ _ _ (by omega)
 have sb:∀ {ib n:Nat},ib+n≤b.size→∀ i j,i < j→j < n→R (gt b (ib+i)) (gt b (ib+j))=true:=fun {ib n} hn i j h1 h2=> by
  rw [gt_eq (show ib+i < b.toList.length by omega),gt_eq (show ib+j < b.toList.length by omega)]
  exact List.pairwise_iff_getElem.mp O.sB _ _ _ _ (by omega)
 have dA:∀ {out:Array Keyed} {ia ib:Nat},MI R a.toList b.toList out.toList ia ib→ia=a.size→Mgd R a.toList b.toList (out++a.extract ia a.size++b.extract ib b.size).toList:=fun {out ia ib} I e=> by
  rw [Array.toList_append,Array.toList_append,fD,fD]
  exact I.doneA O (by omega)
 have rA:∀ {out:Array Keyed} {ia ib k:Nat},MI R a.toList b.toList out.toList ia ib→ib < b.size→ia+k≤a.size→(∀ i,i < k→R (gt b ib) (gt a (ia+i))=false)→MI R a.toList b.toList (out++a.extract ia (ia+k)).toList (ia+k) ib:=fun {out ia ib k} I h2 h1 hr=> by
  rw [Array.toList_append,eI]
  refine I.runA O (show ib < b.toList.length by omega) k (by omega) fun i h hi=> ?_
  have:=hr i hi
  rw [gt_eq (show ib < b.toList.length by omega),gt_eq h] at this
  exact O.tot _ (List.getElem_mem _) _ (List.getElem_mem _) this
 have rB:∀ {out:Array Keyed} {ia ib k:Nat},MI R a.toList b.toList out.toList ia ib→ia < a.size→ib+k≤b.size→(∀ i,i < k→R (gt b (ib+i)) (gt a ia)=true)→MI R a.toList b.toList (out++b.extract ib (ib+k)).toList ia (ib+k):=fun {out ia ib k} I h2 h1 hr=> by
  rw [Array.toList_append,eI]
  refine I.runB O (show ia < a.toList.length by omega) k (by omega) fun i h hi=> ?_
  have:=hr i hi
  rw [gt_eq (show ia < a.toList.length by omega),gt_eq h] at this
  exact this
 have start:MI R a.toList b.toList (#[gt b 0]:Array Keyed).toList 0 1:=by
  have e:(#[gt b 0]:Array Keyed)=(#[]:Array Keyed).push (gt b 0):=rfl
  rw [e]
  exact pB ⟨by simp,by simp,by simp,by simp⟩ ha hb h0
 refine wpS_bind (ru ?_)
 refine wpS_bind (el hb ?_)
 refine hv (hv (hv ?_))
 by_cases e1:(1==b.size)=true
 ·rw [if_pos e1]
  exact wpS_pure (h _ (gallopOf st) (dn start (by simpa using e1)))
 rw [if_neg e1]
 have e1':1 < b.size:=by have:¬ 1=b.size:=by simpa using e1
                         omega
 by_cases e2:(0+1==a.size)=true
 ·rw [if_pos e2]
  exact wpS_pure (h _ (gallopOf st) (ls start (by simpa using e2)))
 rw [if_neg e2]
 have e2':1 < a.size:=by have:¬ 0+1=a.size:=by simpa using e2
                         omega
 refine wpS_bind (wpS_get ?_)
 refine hv ?_
 refine wpS_bind (wpS_mono (oN (I:=fun x c st'=> ∃ g out ia ib mg,st'=eX st g∧c=(none,out,ia,ib,mg)∧MI R a.toList b.toList out.toList ia ib∧ia+1 < a.size∧ib < b.size∧x+1≤ia+ib) (Q:=fun c st'=> ∃ g r rest,st'=eX st g∧c=(some r,rest)∧Mgd R a.toList b.toList r.toList) ?step ?fin ⟨gallopOf st,_,_,_,_,rfl,rfl,start,e2',e1',Nat.le_refl _⟩) ?post)
 case fin=>
  rintro c st' ⟨g,out,ia,ib,mg,rfl,rfl,I,i1,i2,pr⟩
  exfalso; omega
 case post=>
  rintro c st' ⟨g,r,rest,rfl,rfl,m⟩
  exact wpS_pure (h r g m)
 case step=>
  rintro x c st' hx ⟨g,out,ia,ib,mg,rfl,rfl,I,i1,i2,pr⟩ post pd py
  refine hv (hv (hv (hv (hv (hv (hv (hv (hv ?_))))))))
  refine wpS_bind (wpS_mono (oN (I:=fun x2 c st'=> ∃ out ia ib ac bc,st'=eX st g∧c=(none,out,ia,ib,ac,bc)∧MI R a.toList b.toList out.toList ia ib∧ia+1 < a.size∧ib < b.size∧x+1+x2≤ia+ib) (Q:=fun c st'=> st'=eX st g∧((∃ r rest,c=(some r,rest)∧Mgd R a.toList b.toList r.toList)∨∃ out ia ib ac bc,c=(none,out,ia,ib,ac,bc)∧MI R a.toList b.toList out.toList ia ib∧ia+1 < a.size∧ib < b.size∧x+2≤ia+ib)) ?s2 ?f2 ⟨out,ia,ib,0,0,rfl,rfl,I,i1,i2,pr⟩) ?p2)
  case f2=>
   rintro c st' ⟨out,ia,ib,ac,bc,rfl,rfl,I,j1,j2,pr'⟩
   exfalso; omega
  case s2=>
   rintro y c st' hy ⟨out,ia,ib,ac,bc,rfl,rfl,I,j1,j2,pr'⟩ post2 qd qy
   dsimp only
   have j0:ia < a.size:=by omega
   refine wpS_bind (el j2 ?_)
   refine wpS_bind (el j0 ?_)
   refine wpS_bind (K _ _ _ _ (pb _ (aF j2)) (pa _ (aF j0)) hk ?_)
   dsimp only
   by_cases hw:R (gt b ib) (gt a ia)=true
   ·rw [if_pos hw]
    refine wpS_bind (el j2 ?_)
    have I2:=pB I j0 j2 hw
    by_cases eb:(ib+1==b.size)=true
    ·rw [if_pos eb]
     exact wpS_pure (qd _ _ ⟨rfl,.inl ⟨_,_,rfl,dn I2 (by simpa using eb)⟩⟩)
    ·rw [if_neg eb]
     have eb':ib+1 < b.size:=by have:¬ ib+1=b.size:=by simpa using eb
                                omega
     by_cases hm:bc+1 ≥ mg
     ·rw [if_pos hm]
      exact wpS_pure (qd _ _ ⟨rfl,.inr ⟨_,_,_,_,_,rfl,I2,j1,eb',by omega⟩⟩)
     ·rw [if_neg hm]
      exact wpS_pure (qy _ _ ⟨_,_,_,_,_,rfl,rfl,I2,j1,eb',by omega⟩)
   ·rw [if_neg hw]
    refine wpS_bind (el j0 ?_)
    have I2:=pA I j0 j2 (by simpa using hw)
    by_cases ea:(ia+1+1==a.size)=true
    ·rw [if_pos ea]
     exact wpS_pure (qd _ _ ⟨rfl,.inl ⟨_,_,rfl,ls I2 (by simpa using ea)⟩⟩)
    ·rw [if_neg ea]
     have ea':ia+1+1 < a.size:=by have:¬ ia+1+1=a.size:=by simpa using ea
                                  omega
     by_cases hm:ac+1 ≥ mg
     ·rw [if_pos hm]
      exact wpS_pure (qd _ _ ⟨rfl,.inr ⟨_,_,_,_,_,rfl,I2,ea',j2,by omega⟩⟩)
     ·rw [if_neg hm]
      exact wpS_pure (qy _ _ ⟨_,_,_,_,_,rfl,rfl,I2,ea',j2,by omega⟩)
  case p2=>
   rintro c st' ⟨rfl,⟨r,rest,rfl,m⟩ | ⟨out,ia,ib,ac,bc,rfl,I,i1,i2,pr⟩⟩
   ·exact wpS_pure (pd _ _ ⟨g,r,_,rfl,rfl,m⟩)
   ·refine hv (hv (hv (hv (hv (hv (hv (hv (hv (hv ?_)))))))))
    refine wpS_bind (ru ?_)
    refine hv ?_
    refine wpS_bind (wpS_mono (oN (I:=fun x3 c st'=> ∃ g out ia ib mg ac bc,st'=eX st g∧c=(none,out,ia,ib,mg,ac,bc)∧MI R a.toList b.toList out.toList ia ib∧ia+1 < a.size∧ib < b.size∧x+2+x3≤ia+ib) (Q:=fun c st'=> ∃ g,st'=eX st g∧((∃ r rest,c=(some r,rest)∧Mgd R a.toList b.toList r.toList)∨∃ out ia ib mg ac bc,c=(none,out,ia,ib,mg,ac,bc)∧MI R a.toList b.toList out.toList ia ib∧ia+1 < a.size∧ib < b.size∧x+2≤ia+ib)) ?s3 ?f3 ⟨g,out,ia,ib,_,ac,bc,rfl,rfl,I,i1,i2,pr⟩) ?p3)
    case f3=>
     rintro c st' ⟨g,out,ia,ib,mg,ac,bc,rfl,rfl,I,j1,j2,pr'⟩
     exfalso; omega
    case p3=>
     rintro c st' ⟨g,rfl,⟨r,rest,rfl,m⟩ | ⟨out,ia,ib,mg,ac,bc,rfl,I,i1,i2,pr⟩⟩
     ·exact wpS_pure (pd _ _ ⟨g,r,_,rfl,rfl,m⟩)
     ·refine hv (hv (hv (hv (hv (hv (hv (hv (hv (hv (hv (hv ?_)))))))))))
      refine hv ?_
      refine wpS_bind (sg ?_)
      exact wpS_pure (py _ _ ⟨_,_,_,_,_,rfl,rfl,I,i1,i2,pr⟩)
    case s3=>
     rintro x3 c st' hx3 ⟨g,out,ia,ib,mg,ac,bc,rfl,rfl,I,j1,j2,pr'⟩ post3 qd qy
     dsimp only
     have j0:ia < a.size:=by omega
     by_cases hg:mg > 1
     ·rw [if_pos hg]
      refine wpS_bind (sg ?_)
      refine wpS_bind (el j2 ?_)
      refine wpS_bind (qI K hk (show ia+(a.size - ia)≤a.size by omega) (by omega) (pb _ (aF j2)) (fun i hi=> pa _ (aF (by omega))) O.tr (sa (by omega)) fun k kn k1 k2=> ?_)
      try dsimp only
      by_cases hk0:k > 0
      ·rw [if_pos hk0]
       have I2:=rA I j2 (show ia+k≤a.size by omega) k1
       by_cases ec:(ia+k+1==a.size)=true
       ·rw [if_pos ec]
        exact wpS_pure (qd _ _ ⟨_,rfl,.inl ⟨_,_,rfl,ls I2 (by simpa using ec)⟩⟩)
       rw [if_neg ec]
       by_cases ed:(ia+k==a.size)=true
       ·rw [if_pos ed]
        exact wpS_pure (qd _ _ ⟨_,rfl,.inl ⟨_,_,rfl,dA I2 (by simpa using ed)⟩⟩)
       rw [if_neg ed]
       have ec':ia+k+1 < a.size:=by have h1:¬ ia+k+1=a.size:=(by simpa using ec); have h2:¬ ia+k=a.size:=(by simpa using ed); omega
       have ia0:ia+k < a.size:=by omega
       refine wpS_bind (el j2 ?_)
       have I3:=pB I2 ia0 j2 (k2 k (Nat.le_refl _) (by omega))
       try dsimp only
       by_cases eb:(ib+1==b.size)=true
       ·rw [if_pos eb]
        exact wpS_pure (qd _ _ ⟨_,rfl,.inl ⟨_,_,rfl,dn I3 (by simpa using eb)⟩⟩)
       rw [if_neg eb]
       have eb':ib+1 < b.size:=by have h1:¬ ib+1=b.size:=(by simpa using eb); omega
       refine wpS_bind (el ia0 ?_)
       refine wpS_bind (jp K hk (show ib+1+(b.size - (ib+1))≤b.size by omega) (by omega) (pa _ (aF ia0)) (fun i hi=> pb _ (aF (by omega))) O.tr (sb (by omega)) fun l ln l1 l2=> ?_)
       try dsimp only
       by_cases hl0:l > 0
       ·rw [if_pos hl0]
        have I4:=rB I3 ia0 (show ib+1+l≤b.size by omega) l1
        by_cases ec:(ib+1+l==b.size)=true
        ·rw [if_pos ec]
         exact wpS_pure (qd _ _ ⟨_,rfl,.inl ⟨_,_,rfl,dn I4 (by simpa using ec)⟩⟩)
        rw [if_neg ec]
        have ec':ib+1+l < b.size:=by have h1:¬ ib+1+l=b.size:=(by simpa using ec); omega
        refine wpS_bind (el ia0 ?_)
        have I6:=pA I4 ia0 ec' (l2 l (Nat.le_refl _) (by omega))
        try dsimp only
        by_cases ea:(ia+k+1+1==a.size)=true
        ·rw [if_pos ea]
         exact wpS_pure (qd _ _ ⟨_,rfl,.inl ⟨_,_,rfl,ls I6 (by simpa using ea)⟩⟩)
        rw [if_neg ea]
        have ea':ia+k+1+1 < a.size:=by have h1:¬ ia+k+1+1=a.size:=(by simpa using ea); omega
        split
        ·exact wpS_pure (qd _ _ ⟨_,rfl,.inr ⟨_,_,_,_,_,_,rfl,I6,ea',ec',by omega⟩⟩)
        ·exact wpS_pure (qy _ _ ⟨_,_,_,_,_,_,_,rfl,rfl,I6,ea',ec',by omega⟩)
       ·rw [if_neg hl0]
        refine wpS_bind (el ia0 ?_)
        have I6:=pA I3 ia0 eb' (l2 0 (by omega) (by omega))
        try dsimp only
        by_cases ea:(ia+k+1+1==a.size)=true
        ·rw [if_pos ea]
         exact wpS_pure (qd _ _ ⟨_,rfl,.inl ⟨_,_,rfl,ls I6 (by simpa using ea)⟩⟩)
        rw [if_neg ea]
        have ea':ia+k+1+1 < a.size:=by have h1:¬ ia+k+1+1=a.size:=(by simpa using ea); omega
        split
        ·exact wpS_pure (qd _ _ ⟨_,rfl,.inr ⟨_,_,_,_,_,_,rfl,I6,ea',eb',by omega⟩⟩)
        ·exact wpS_pure (qy _ _ ⟨_,_,_,_,_,_,_,rfl,rfl,I6,ea',eb',by omega⟩)
      ·rw [if_neg hk0]
       have ia0:ia < a.size:=by omega
       refine wpS_bind (el j2 ?_)
       have I3:=pB I ia0 j2 (k2 0 (by omega) (by omega))
       try dsimp only
       by_cases eb:(ib+1==b.size)=true
       ·rw [if_pos eb]
        exact wpS_pure (qd _ _ ⟨_,rfl,.inl ⟨_,_,rfl,dn I3 (by simpa using eb)⟩⟩)
       rw [if_neg eb]
       have eb':ib+1 < b.size:=by have h1:¬ ib+1=b.size:=(by simpa using eb); omega
       refine wpS_bind (el ia0 ?_)
       refine wpS_bind (jp K hk (show ib+1+(b.size - (ib+1))≤b.size by omega) (by omega) (pa _ (aF ia0)) (fun i hi=> pb _ (aF (by omega))) O.tr (sb (by omega)) fun l ln l1 l2=> ?_)
       try dsimp only
       by_cases hl0:l > 0
       ·rw [if_pos hl0]
        have I4:=rB I3 ia0 (show ib+1+l≤b.size by omega) l1
        by_cases ec:(ib+1+l==b.size)=true
        ·rw [if_pos ec]
         exact wpS_pure (qd _ _ ⟨_,rfl,.inl ⟨_,_,rfl,dn I4 (by simpa using ec)⟩⟩)
        rw [if_neg ec]
        have ec':ib+1+l < b.size:=by have h1:¬ ib+1+l=b.size:=(by simpa using ec); omega
        refine wpS_bind (el ia0 ?_)
        have I6:=pA I4 ia0 ec' (l2 l (Nat.le_refl _) (by omega))
        try dsimp only
        by_cases ea:(ia+1+1==a.size)=true
        ·rw [if_pos ea]
         exact wpS_pure (qd _ _ ⟨_,rfl,.inl ⟨_,_,rfl,ls I6 (by simpa using ea)⟩⟩)
        rw [if_neg ea]
        have ea':ia+1+1 < a.size:=by have h1:¬ ia+1+1=a.size:=(by simpa using ea); omega
        split
        ·exact wpS_pure (qd _ _ ⟨_,rfl,.inr ⟨_,_,_,_,_,_,rfl,I6,ea',ec',by omega⟩⟩)
        ·exact wpS_pure (qy _ _ ⟨_,_,_,_,_,_,_,rfl,rfl,I6,ea',ec',by omega⟩)
       ·rw [if_neg hl0]
        refine wpS_bind (el ia0 ?_)
        have I6:=pA I3 ia0 eb' (l2 0 (by omega) (by omega))
        try dsimp only
        by_cases ea:(ia+1+1==a.size)=true
        ·rw [if_pos ea]
         exact wpS_pure (qd _ _ ⟨_,rfl,.inl ⟨_,_,rfl,ls I6 (by simpa using ea)⟩⟩)
        rw [if_neg ea]
        have ea':ia+1+1 < a.size:=by have h1:¬ ia+1+1=a.size:=(by simpa using ea); omega
        split
        ·exact wpS_pure (qd _ _ ⟨_,rfl,.inr ⟨_,_,_,_,_,_,rfl,I6,ea',eb',by omega⟩⟩)
        ·exact wpS_pure (qy _ _ ⟨_,_,_,_,_,_,_,rfl,rfl,I6,ea',eb',by omega⟩)
     ·rw [if_neg hg]
      refine wpS_bind (sg ?_)
      refine wpS_bind (el j2 ?_)
      refine wpS_bind (qI K hk (show ia+(a.size - ia)≤a.size by omega) (by omega) (pb _ (aF j2)) (fun i hi=> pa _ (aF (by omega))) O.tr (sa (by omega)) fun k kn k1 k2=> ?_)
      try dsimp only
      by_cases hk0:k > 0
      ·rw [if_pos hk0]
       have I2:=rA I j2 (show ia+k≤a.size by omega) k1
       by_cases ec:(ia+k+1==a.size)=true
       ·rw [if_pos ec]
        exact wpS_pure (qd _ _ ⟨_,rfl,.inl ⟨_,_,rfl,ls I2 (by simpa using ec)⟩⟩)
       rw [if_neg ec]
       by_cases ed:(ia+k==a.size)=true
       ·rw [if_pos ed]
        exact wpS_pure (qd _ _ ⟨_,rfl,.inl ⟨_,_,rfl,dA I2 (by simpa using ed)⟩⟩)
       rw [if_neg ed]
       have ec':ia+k+1 < a.size:=by have h1:¬ ia+k+1=a.size:=(by simpa using ec); have h2:¬ ia+k=a.size:=(by simpa using ed); omega
       have ia0:ia+k < a.size:=by omega
       refine wpS_bind (el j2 ?_)
       have I3:=pB I2 ia0 j2 (k2 k (Nat.le_refl _) (by omega))
       try dsimp only
       by_cases eb:(ib+1==b.size)=true
       ·rw [if_pos eb]
        exact wpS_pure (qd _ _ ⟨_,rfl,.inl ⟨_,_,rfl,dn I3 (by simpa using eb)⟩⟩)
       rw [if_neg eb]
       have eb':ib+1 < b.size:=by have h1:¬ ib+1=b.size:=(by simpa using eb); omega
       refine wpS_bind (el ia0 ?_)
       refine wpS_bind (jp K hk (show ib+1+(b.size - (ib+1))≤b.size by omega) (by omega) (pa _ (aF ia0)) (fun i hi=> pb _ (aF (by omega))) O.tr (sb (by omega)) fun l ln l1 l2=> ?_)
       try dsimp only
       by_cases hl0:l > 0
       ·rw [if_pos hl0]
        have I4:=rB I3 ia0 (show ib+1+l≤b.size by omega) l1
        by_cases ec:(ib+1+l==b.size)=true
        ·rw [if_pos ec]
         exact wpS_pure (qd _ _ ⟨_,rfl,.inl ⟨_,_,rfl,dn I4 (by simpa using ec)⟩⟩)
        rw [if_neg ec]
        have ec':ib+1+l < b.size:=by have h1:¬ ib+1+l=b.size:=(by simpa using ec); omega
        refine wpS_bind (el ia0 ?_)
        have I6:=pA I4 ia0 ec' (l2 l (Nat.le_refl _) (by omega))
        try dsimp only
        by_cases ea:(ia+k+1+1==a.size)=true
        ·rw [if_pos ea]
         exact wpS_pure (qd _ _ ⟨_,rfl,.inl ⟨_,_,rfl,ls I6 (by simpa using ea)⟩⟩)
        rw [if_neg ea]
        have ea':ia+k+1+1 < a.size:=by have h1:¬ ia+k+1+1=a.size:=(by simpa using ea); omega
        split
        ·exact wpS_pure (qd _ _ ⟨_,rfl,.inr ⟨_,_,_,_,_,_,rfl,I6,ea',ec',by omega⟩⟩)
        ·exact wpS_pure (qy _ _ ⟨_,_,_,_,_,_,_,rfl,rfl,I6,ea',ec',by omega⟩)
       ·rw [if_neg hl0]
        refine wpS_bind (el ia0 ?_)
        have I6:=pA I3 ia0 eb' (l2 0 (by omega) (by omega))
        try dsimp only
        by_cases ea:(ia+k+1+1==a.size)=true
        ·rw [if_pos ea]
         exact wpS_pure (qd _ _ ⟨_,rfl,.inl ⟨_,_,rfl,ls I6 (by simpa using ea)⟩⟩)
        rw [if_neg ea]
        have ea':ia+k+1+1 < a.size:=by have h1:¬ ia+k+1+1=a.size:=(by simpa using ea); omega
        split
        ·exact wpS_pure (qd _ _ ⟨_,rfl,.inr ⟨_,_,_,_,_,_,rfl,I6,ea',eb',by omega⟩⟩)
        ·exact wpS_pure (qy _ _ ⟨_,_,_,_,_,_,_,rfl,rfl,I6,ea',eb',by omega⟩)
      ·rw [if_neg hk0]
       have ia0:ia < a.size:=by omega
       refine wpS_bind (el j2 ?_)
       have I3:=pB I ia0 j2 (k2 0 (by omega) (by omega))
       try dsimp only
       by_cases eb:(ib+1==b.size)=true
       ·rw [if_pos eb]
        exact wpS_pure (qd _ _ ⟨_,rfl,.inl ⟨_,_,rfl,dn I3 (by simpa using eb)⟩⟩)
       rw [if_neg eb]
       have eb':ib+1 < b.size:=by have h1:¬ ib+1=b.size:=(by simpa using eb); omega
       refine wpS_bind (el ia0 ?_)
       refine wpS_bind (jp K hk (show ib+1+(b.size - (ib+1))≤b.size by omega) (by omega) (pa _ (aF ia0)) (fun i hi=> pb _ (aF (by omega))) O.tr (sb (by omega)) fun l ln l1 l2=> ?_)
       try dsimp only
       by_cases hl0:l > 0
       ·rw [if_pos hl0]
        have I4:=rB I3 ia0 (show ib+1+l≤b.size by omega) l1
        by_cases ec:(ib+1+l==b.size)=true
        ·rw [if_pos ec]
         exact wpS_pure (qd _ _ ⟨_,rfl,.inl ⟨_,_,rfl,dn I4 (by simpa using ec)⟩⟩)
        rw [if_neg ec]
        have ec':ib+1+l < b.size:=by have h1:¬ ib+1+l=b.size:=(by simpa using ec); omega
        refine wpS_bind (el ia0 ?_)
        have I6:=pA I4 ia0 ec' (l2 l (Nat.le_refl _) (by omega))
        try dsimp only
        by_cases ea:(ia+1+1==a.size)=true
        ·rw [if_pos ea]
         exact wpS_pure (qd _ _ ⟨_,rfl,.inl ⟨_,_,rfl,ls I6 (by simpa using ea)⟩⟩)
        rw [if_neg ea]
        have ea':ia+1+1 < a.size:=by have h1:¬ ia+1+1=a.size:=(by simpa using ea); omega
        split
        ·exact wpS_pure (qd _ _ ⟨_,rfl,.inr ⟨_,_,_,_,_,_,rfl,I6,ea',ec',by omega⟩⟩)
        ·exact wpS_pure (qy _ _ ⟨_,_,_,_,_,_,_,rfl,rfl,I6,ea',ec',by omega⟩)
       ·rw [if_neg hl0]
        refine wpS_bind (el ia0 ?_)
        have I6:=pA I3 ia0 eb' (l2 0 (by omega) (by omega))
        try dsimp only
        by_cases ea:(ia+1+1==a.size)=true
        ·rw [if_pos ea]
         exact wpS_pure (qd _ _ ⟨_,rfl,.inl ⟨_,_,rfl,ls I6 (by simpa using ea)⟩⟩)
        rw [if_neg ea]
        have ea':ia+1+1 < a.size:=by have h1:¬ ia+1+1=a.size:=(by simpa using ea); omega
        split
        ·exact wpS_pure (qd _ _ ⟨_,rfl,.inr ⟨_,_,_,_,_,_,rfl,I6,ea',eb',by omega⟩⟩)
        ·exact wpS_pure (qy _ _ ⟨_,_,_,_,_,_,_,rfl,rfl,I6,ea',eb',by omega⟩)
end
section
variable {α:Type} {R:α→α→Bool} {A B:List α}
theorem mB (L:List α) (i k:Nat) (h:i+k≤L.length):((L.drop i).take k).reverse=(L.reverse.drop (L.length - i - k)).take k:=by
 apply List.ext_getElem
 ·simp; omega
 ·intro n h1 h2
  simp only [List.length_reverse,List.length_take,List.length_drop] at h1 h2
  simp only [List.getElem_reverse,List.getElem_take,List.getElem_drop,List.length_take,List.length_drop]
  congr 1
  omega
theorem p0 (L:List α) (n:Nat) (h:n≤L.length):L.reverse.drop (L.length - n)=(L.take n).reverse:=by
 rw [List.drop_reverse,Nat.sub_sub_self h]
theorem MO.rev (O:MO R A B):MO (fun x y=> R y x) B.reverse A.reverse where
 tr:=fun _ _ _ h1 h2=> O.tr _ _ _ h2 h1
 sA:=List.pairwise_reverse.mpr O.sB
 sB:=List.pairwise_reverse.mpr O.sA
 tot:=fun x hx y hy h=> O.tot y (List.mem_reverse.mp hy) x (List.mem_reverse.mp hx) h
theorem Mgd.rev {r:List α} (m:Mgd (fun x y=> R y x) B.reverse A.reverse r):Mgd R A B r.reverse:=
 ⟨(List.reverse_perm r).trans (m.1.trans ((List.perm_append_comm).trans ((List.reverse_perm A).append (List.reverse_perm B)))),List.pairwise_reverse.mpr m.2⟩
end
section
variable {prog:Program} {w:World} {A:Around} {E:Value→Shared→Prop} {s:Shared} {κ:SortKind} {P:Keyed→Prop} {R:Keyed→Keyed→Bool} (K:Asks prog w A E s κ P R)
theorem dL {a:Array Keyed} {n i:Nat} (hn:n≤a.size) (hi:i < n) (h:a.size - n+i < a.toList.reverse.length):a.toList.reverse[a.size - n+i]=gt a (n - 1 - i):=by
 rw [List.getElem_reverse,gt_eq (by simp; omega)]
 congr 1
 simp
 omega
def qR:Array Keyed→Array Keyed→StateT SortSt Sem (Array Keyed):=sortPriv% PySem.Builtin.mergeHi
include K
set_option maxHeartbeats 4000000 in
theorem mhi {a b:Array Keyed} {st:SortSt} {Q:Array Keyed→SortSt→Prop} (O:MO R a.toList b.toList) (pa:∀ x∈a.toList,P x) (pb:∀ x∈b.toList,P x) (ha:0 < a.size) (hb:0 < b.size) (h0:R (gt b (b.size - 1)) (gt a (a.size - 1))=true) (hl:∀ y∈a.toList,R (gt b 0) y=true) (hk:kindOf st=κ)
  (h:∀ r g,Mgd R a.toList b.toList r.toList→Q r (eX st g)):wpS (model prog w) A E s (qR a b) Q st:=by
 have la:a.toList.reverse.length=a.size:=by simp
 have lb:b.toList.reverse.length=b.size:=by simp
 have O':=O.rev
 have xa:∀ n,n≤a.size→(a.extract 0 n).toList=(a.toList.reverse.drop (a.size - n)).reverse:=fun n hn=> by
  have:=p0 a.toList n (by simpa using hn)
  rw [Array.length_toList] at this
  rw [this,List.reverse_reverse]; simp
 have xb:∀ n,n≤b.size→(b.extract 0 n).toList=(b.toList.reverse.drop (b.size - n)).reverse:=fun n hn=> by
  have:=p0 b.toList n (by simpa using hn)
  rw [Array.length_toList] at this
  rw [this,List.reverse_reverse]; simp
 have dn:∀ {out:Array Keyed} {na nb:Nat},MI (fun x y=> R y x) b.toList.reverse a.toList.reverse out.toList (b.size - nb) (a.size - na)→nb≤b.size→na=0→Mgd R a.toList b.toList (a.extract 0 na++b.extract 0 nb++out.reverse).toList:=fun {out na nb} I hn e=> by
  have:=(I.doneB O' (by omega)).rev
  rw [List.reverse_append,List.reverse_append,← List.append_assoc,← xa na (by omega),← xb nb hn] at this
  rw [Array.toList_append,Array.toList_append,Array.toList_reverse]
  exact this
 have dA:∀ {out:Array Keyed} {na nb:Nat},MI (fun x y=> R y x) b.toList.reverse a.toList.reverse out.toList (b.size - nb) (a.size - na)→na≤a.size→nb=0→Mgd R a.toList b.toList (a.extract 0 na++b.extract 0 nb++out.reverse).toList:=fun {out na nb} I hn e=> by
  have:=(I.doneA O' (by omega)).rev
  rw [List.reverse_append,List.reverse_append,← List.append_assoc,← xa na hn,← xb nb (by omega)] at this
  rw [Array.toList_append,Array.toList_append,Array.toList_reverse]
  exact this
 have ls:∀ {out:Array Keyed} {na nb:Nat},MI (fun x y=> R y x) b.toList.reverse a.toList.reverse out.toList (b.size - nb) (a.size - na)→na≤a.size→nb=1→Mgd R a.toList b.toList (b.extract 0 nb++a.extract 0 na++out.reverse).toList:=fun {out na nb} I hn e=> by
  have:=(I.last O' (by omega) fun y hy=> by
   have z:=hl y (List.mem_reverse.mp hy)
   have g:=dL (a:=b) (n:=nb) (i:=0) (by omega) (by omega) (by omega)
   simp only [Nat.add_zero] at g
   rw [g,e]
   exact z).rev
  rw [List.reverse_append,List.reverse_append,← List.append_assoc,← xa na hn,← xb nb (by omega)] at this
  rw [Array.toList_append,Array.toList_append,Array.toList_reverse]
  exact this
 have pB:∀ {out:Array Keyed} {na nb:Nat},MI (fun x y=> R y x) b.toList.reverse a.toList.reverse out.toList (b.size - nb) (a.size - na)→0 < na→na≤a.size→0 < nb→nb≤b.size→R (gt b (nb - 1)) (gt a (na - 1))=true→MI (fun x y=> R y x) b.toList.reverse a.toList.reverse (out.push (gt a (na - 1))).toList (b.size - nb) (a.size - (na - 1)):=fun {out na nb} I h1 h2 h3 h4 hr=> by
  have g:=dL (a:=a) (n:=na) (i:=0) h2 h1 (by omega)
  have g2:=dL (a:=b) (n:=nb) (i:=0) h4 h3 (by omega)
  simp only [Nat.add_zero,Nat.sub_zero] at g g2
  rw [Array.toList_push,← g,show a.size - (na - 1)=a.size - na+1 by omega]
  refine I.pushB O' (by omega) (dP O'.tr O'.sA (by omega) ?_)
  rw [g,g2]; exact hr
 have pA:∀ {out:Array Keyed} {na nb:Nat},MI (fun x y=> R y x) b.toList.reverse a.toList.reverse out.toList (b.size - nb) (a.size - na)→0 < na→na≤a.size→0 < nb→nb≤b.size→R (gt b (nb - 1)) (gt a (na - 1))=false→MI (fun x y=> R y x) b.toList.reverse a.toList.reverse (out.push (gt b (nb - 1))).toList (b.size - (nb - 1)) (a.size - na):=fun {out na nb} I h1 h2 h3 h4 hr=> by
  have g:=dL (a:=a) (n:=na) (i:=0) h2 h1 (by omega)
  have g2:=dL (a:=b) (n:=nb) (i:=0) h4 h3 (by omega)
  simp only [Nat.add_zero,Nat.sub_zero] at g g2
  rw [Array.toList_push,← g2,show b.size - (nb - 1)=b.size - nb+1 by omega]
  refine I.pushA O' (by omega) (dP O'.tr O'.sB (by omega) ?_)
  rw [g,g2]
  exact O.tot _ (aF (by omega)) _ (aF (by omega)) hr
 have rB:∀ {out:Array Keyed} {na nb k:Nat},MI (fun x y=> R y x) b.toList.reverse a.toList.reverse out.toList (b.size - nb) (a.size - na)→k≤na→na≤a.size→0 < nb→nb≤b.size→(∀ i,k≤i→i < na→R (gt b (nb - 1)) (gt a i)=true)→MI (fun x y=> R y x) b.toList.reverse a.toList.reverse (out++(a.extract k na).reverse).toList (b.size - nb) (a.size - k):=fun {out na nb k} I h1 h2 h3 h4 hr=> by
  have e:(a.extract k na).reverse.toList=(a.toList.reverse.drop (a.size - na)).take (na - k):=by
   rw [Array.toList_reverse,← show k+(na - k)=na by omega,eI,mB _ _ _ (by rw [Array.length_toList]; omega),Array.length_toList]
   congr 1
   ·omega
   ·congr 1; omega
  rw [Array.toList_append,e,show a.size - k=a.size - na+(na - k) by omega]
  refine I.runB O' (by omega) _ (by omega) fun i h hi=> ?_
  have g2:=dL (a:=b) (n:=nb) (i:=0) h4 h3 (by omega)
  simp only [Nat.add_zero,Nat.sub_zero] at g2
  rw [dL h2 (by omega),g2]
  exact hr _ (by omega) (by omega)
 have rA:∀ {out:Array Keyed} {na nb k:Nat},MI (fun x y=> R y x) b.toList.reverse a.toList.reverse out.toList (b.size - nb) (a.size - na)→k≤nb→nb≤b.size→0 < na→na≤a.size→(∀ i,k≤i→i < nb→R (gt b i) (gt a (na - 1))=false)→MI (fun x y=> R y x) b.toList.reverse a.toList.reverse (out++(b.extract k nb).reverse).toList (b.size - k) (a.size - na):=fun {out na nb k} I h1 h2 h3 h4 hr=> by
  have e:(b.extract k nb).reverse.toList=(b.toList.reverse.drop (b.size - nb)).take (nb - k):=by
   rw [Array.toList_reverse,← show k+(nb - k)=nb by omega,eI,mB _ _ _ (by rw [Array.length_toList]; omega),Array.length_toList]
   congr 1
   ·omega
   ·congr 1; omega
  rw [Array.toList_append,e,show b.size - k=b.size - nb+(nb - k) by omega]
  refine I.runA O' (by omega) _ (by omega) fun i h hi=> ?_
  have g2:=dL (a:=a) (n:=na) (i:=0) h4 h3 (by omega)
  simp only [Nat.add_zero,Nat.sub_zero] at g2
  rw [dL h2 (by omega),g2]
  exact O.tot _ (aF (by omega)) _ (aF (by omega)) (hr _ (by omega) (by omega))
 have sa:∀ {n:Nat},n≤a.size→∀ i j,i < j→j < n→R (gt a (0+i)) (gt a (0+j))=true:=fun {n} hn i j h1 h2=> by
  rw [gt_eq (show 0+i < a.toList.length by rw [Array.length_toList]; omega),gt_eq (show 0+j < a.toList.length by rw [Array.length_toList]; omega)]
  exact List.pairwise_iff_getElem.mp O.sA _ _ _ _ (by omega)
 have sb:∀ {n:Nat},n≤b.size→∀ i j,i < j→j < n→R (gt b (0+i)) (gt b (0+j))=true:=fun {n} hn i j h1 h2=> by
  rw [gt_eq (show 0+i < b.toList.length by rw [Array.length_toList]; omega),gt_eq (show 0+j < b.toList.length by rw [Array.length_toList]; omega)]
  exact List.pairwise_iff_getElem.mp O.sB _ _ _ _ (by omega)
 have start:MI (fun x y=> R y x) b.toList.reverse a.toList.reverse (#[gt a (a.size - 1)]:Array Keyed).toList (b.size - b.size) (a.size - (a.size - 1)):=by
  have e:(#[gt a (a.size - 1)]:Array Keyed)=(#[]:Array Keyed).push (gt a (a.size - 1)):=rfl
  rw [e]
  exact pB ⟨by simp,by simp,by simp,by simp⟩ ha (Nat.le_refl _) hb (Nat.le_refl _) h0
 refine wpS_bind (ru ?_)
 refine wpS_bind (el (show a.size - 1 < a.size by omega) ?_)
 try dsimp only
 by_cases e1:(a.size - 1==0)=true
 ·rw [if_pos e1]
  exact wpS_pure (h _ (gallopOf st) (dn start (Nat.le_refl _) (by simpa using e1)))
 rw [if_neg e1]
 have e1':0 < a.size - 1:=by have h1:¬ a.size - 1=0:=(by simpa using e1); omega
 by_cases e2:(b.size==1)=true
 ·rw [if_pos e2]
  exact wpS_pure (h _ (gallopOf st) (ls start (by omega) (by simpa using e2)))
 rw [if_neg e2]
 have e2':1 < b.size:=by have h1:¬ b.size=1:=(by simpa using e2); omega
 refine wpS_bind (wpS_get ?_)
 try dsimp only
 refine wpS_bind (wpS_mono (oN (I:=fun x c st'=> ∃ g na nb out mg,st'=eX st g∧c=(none,na,nb,out,mg)∧MI (fun x y=> R y x) b.toList.reverse a.toList.reverse (out).toList (b.size - nb) (a.size - na)∧0 < na∧na≤a.size∧1 < nb∧nb≤b.size∧x+1≤(a.size - na)+(b.size - nb)) (Q:=fun c st'=> ∃ g r rest,st'=eX st g∧c=(some r,rest)∧Mgd R a.toList b.toList r.toList) ?step ?fin ⟨gallopOf st,_,_,_,_,rfl,rfl,start,e1',by omega,e2',Nat.le_refl _,by omega⟩) ?post)
 case fin=>
  rintro c st' ⟨g,na,nb,out,mg,rfl,rfl,I,i1,i2,i3,i4,pr⟩
  exfalso; omega
 case post=>
  rintro c st' ⟨g,r,rest,rfl,rfl,m⟩
  exact wpS_pure (h r g m)
 case step=>
  rintro x c st' hx ⟨g,na,nb,out,mg,rfl,rfl,I,i1,i2,i3,i4,pr⟩ post pd py
  refine wpS_bind (wpS_mono (oN (I:=fun x2 c st'=> ∃ na nb out ac bc,st'=eX st g∧c=(none,na,nb,out,ac,bc)∧MI (fun x y=> R y x) b.toList.reverse a.toList.reverse (out).toList (b.size - nb) (a.size - na)∧0 < na∧na≤a.size∧1 < nb∧nb≤b.size∧x+1+x2≤(a.size - na)+(b.size - nb)) (Q:=fun c st'=> st'=eX st g∧((∃ r rest,c=(some r,rest)∧Mgd R a.toList b.toList r.toList)∨∃ na nb out ac bc,c=(none,na,nb,out,ac,bc)∧MI (fun x y=> R y x) b.toList.reverse a.toList.reverse (out).toList (b.size - nb) (a.size - na)∧0 < na∧na≤a.size∧1 < nb∧nb≤b.size∧x+2≤(a.size - na)+(b.size - nb))) ?s2 ?f2 ⟨na,nb,out,0,0,rfl,rfl,I,i1,i2,i3,i4,pr⟩) ?p2)
  case f2=>
   rintro c st' ⟨na,nb,out,ac,bc,rfl,rfl,I,i1,i2,i3,i4,pr⟩
   exfalso; omega
  case s2=>
   rintro y c st' hy ⟨na,nb,out,ac,bc,rfl,rfl,I,i1,i2,i3,i4,pr⟩ post2 qd qy
   try dsimp only
   refine wpS_bind (el (show nb - 1 < b.size by omega) ?_)
   refine wpS_bind (el (show na - 1 < a.size by omega) ?_)
   refine wpS_bind (K _ _ _ _ (pb _ (aF (by omega))) (pa _ (aF (by omega))) hk ?_)
   try dsimp only
   by_cases hw:R (gt b (nb - 1)) (gt a (na - 1))=true
   ·rw [if_pos hw]
    refine wpS_bind (el (show na - 1 < a.size by omega) ?_)
    have I2:=pB I i1 i2 (show 0 < nb by omega) i4 hw
    try dsimp only
    by_cases eb:(na - 1==0)=true
    ·rw [if_pos eb]
     exact wpS_pure (qd _ _ ⟨rfl,.inl ⟨_,_,rfl,dn I2 (by omega) (by simpa using eb)⟩⟩)
    ·rw [if_neg eb]
     have eb':0 < na - 1:=by have h1:¬ na - 1=0:=(by simpa using eb); omega
     by_cases hm:ac+1 ≥ mg
     ·rw [if_pos hm]
      exact wpS_pure (qd _ _ ⟨rfl,.inr ⟨_,_,_,_,_,rfl,I2,eb',by omega,i3,i4,by omega⟩⟩)
     ·rw [if_neg hm]
      exact wpS_pure (qy _ _ ⟨_,_,_,_,_,rfl,rfl,I2,eb',by omega,i3,i4,by omega⟩)
   ·rw [if_neg hw]
    refine wpS_bind (el (show nb - 1 < b.size by omega) ?_)
    have I2:=pA I i1 i2 (show 0 < nb by omega) i4 (by simpa using hw)
    try dsimp only
    by_cases ea:(nb - 1==1)=true
    ·rw [if_pos ea]
     exact wpS_pure (qd _ _ ⟨rfl,.inl ⟨_,_,rfl,ls I2 (by omega) (by simpa using ea)⟩⟩)
    ·rw [if_neg ea]
     have ea':1 < nb - 1:=by have h1:¬ nb - 1=1:=(by simpa using ea); omega
     by_cases hm:bc+1 ≥ mg
     ·rw [if_pos hm]
      exact wpS_pure (qd _ _ ⟨rfl,.inr ⟨_,_,_,_,_,rfl,I2,i1,i2,ea',by omega,by omega⟩⟩)
     ·rw [if_neg hm]
      exact wpS_pure (qy _ _ ⟨_,_,_,_,_,rfl,rfl,I2,i1,i2,ea',by omega,by omega⟩)
  case p2=>
   rintro c st' ⟨rfl,⟨r,rest,rfl,m⟩ | ⟨na,nb,out,ac,bc,rfl,I,i1,i2,i3,i4,pr⟩⟩
   ·exact wpS_pure (pd _ _ ⟨g,r,_,rfl,rfl,m⟩)
   ·refine wpS_bind (ru ?_)
    refine wpS_bind (wpS_mono (oN (I:=fun x3 c st'=> ∃ g na nb out mg ac bc,st'=eX st g∧c=(none,na,nb,out,mg,ac,bc)∧MI (fun x y=> R y x) b.toList.reverse a.toList.reverse (out).toList (b.size - nb) (a.size - na)∧0 < na∧na≤a.size∧1 < nb∧nb≤b.size∧x+2+x3≤(a.size - na)+(b.size - nb)) (Q:=fun c st'=> ∃ g,st'=eX st g∧((∃ r rest,c=(some r,rest)∧Mgd R a.toList b.toList r.toList)∨∃ na nb out mg ac bc,c=(none,na,nb,out,mg,ac,bc)∧MI (fun x y=> R y x) b.toList.reverse a.toList.reverse (out).toList (b.size - nb) (a.size - na)∧0 < na∧na≤a.size∧1 < nb∧nb≤b.size∧x+2≤(a.size - na)+(b.size - nb))) ?s3 ?f3 ⟨g,na,nb,out,_,ac,bc,rfl,rfl,I,i1,i2,i3,i4,pr⟩) ?p3)
    case f3=>
     rintro c st' ⟨g,na,nb,out,mg,ac,bc,rfl,rfl,I,i1,i2,i3,i4,pr⟩
     exfalso; omega
    case p3=>
     rintro c st' ⟨g,rfl,⟨r,rest,rfl,m⟩ | ⟨na,nb,out,mg,ac,bc,rfl,I,i1,i2,i3,i4,pr⟩⟩
     ·exact wpS_pure (pd _ _ ⟨g,r,_,rfl,rfl,m⟩)
     ·refine wpS_bind (sg ?_)
      exact wpS_pure (py _ _ ⟨_,_,_,_,_,rfl,rfl,I,i1,i2,i3,i4,pr⟩)
    case s3=>
     rintro x3 c st' hx3 ⟨g,na,nb,out,mg,ac,bc,rfl,rfl,I,i1,i2,i3,i4,pr⟩ post3 qd qy
     try dsimp only
     by_cases hg:mg > 1
     ·rw [if_pos hg]
      refine wpS_bind (sg ?_)
      refine wpS_bind (el (show nb - 1 < b.size by omega) ?_)
      refine wpS_bind (qI K hk (show 0+na≤a.size by omega) (by omega) (pb _ (aF (by omega))) (fun i hi=> pa _ (aF (by omega))) O.tr (sa (by omega)) fun k kn k1 k2=> ?_)
      simp only [Nat.zero_add] at k1 k2
      try dsimp only
      by_cases hk0:na - k > 0
      ·rw [if_pos hk0]
       have I2:=rB I (show k≤na by omega) i2 (show 0 < nb by omega) i4 k2
       by_cases ec:(k==0)=true
       ·rw [if_pos ec]
        exact wpS_pure (qd _ _ ⟨_,rfl,.inl ⟨_,_,rfl,dn I2 (by omega) (by simpa using ec)⟩⟩)
       rw [if_neg ec]
       have ec':0 < k:=by have h1:¬ k=0:=(by simpa using ec); omega
       have na0:0 < k:=by omega
       have na1:k≤a.size:=by omega
       refine wpS_bind (el (show nb - 1 < b.size by omega) ?_)
       have I3:=pA I2 na0 na1 (show 0 < nb by omega) i4 (k1 (k - 1) (by omega))
       try dsimp only
       by_cases eb:(nb - 1==1)=true
       ·rw [if_pos eb]
        exact wpS_pure (qd _ _ ⟨_,rfl,.inl ⟨_,_,rfl,ls I3 (by omega) (by simpa using eb)⟩⟩)
       rw [if_neg eb]
       have eb':1 < nb - 1:=by have h1:¬ nb - 1=1:=(by simpa using eb); omega
       refine wpS_bind (el (show k - 1 < a.size by omega) ?_)
       refine wpS_bind (jp K hk (show 0+(nb - 1)≤b.size by omega) (by omega) (pa _ (aF (by omega))) (fun i hi=> pb _ (aF (by omega))) O.tr (sb (by omega)) fun l ln l1 l2=> ?_)
       simp only [Nat.zero_add] at l1 l2
       try dsimp only
       by_cases hl0:nb - 1 - l > 0
       ·rw [if_pos hl0]
        have I4:=rA I3 (show l≤nb - 1 by omega) (show nb - 1≤b.size by omega) na0 na1 l2
        by_cases ec:(l==1)=true
        ·rw [if_pos ec]
         exact wpS_pure (qd _ _ ⟨_,rfl,.inl ⟨_,_,rfl,ls I4 (by omega) (by simpa using ec)⟩⟩)
        rw [if_neg ec]
        by_cases ed:(l==0)=true
        ·rw [if_pos ed]
         exact wpS_pure (qd _ _ ⟨_,rfl,.inl ⟨_,_,rfl,dA I4 (by omega) (by simpa using ed)⟩⟩)
        rw [if_neg ed]
        have ec':1 < l:=by have h1:¬ l=1:=(by simpa using ec); have h2:¬ l=0:=(by simpa using ed); omega
        refine wpS_bind (el (show k - 1 < a.size by omega) ?_)
        have I6:=pB I4 na0 na1 (show 0 < l by omega) (show l≤b.size by omega) (l1 (l - 1) (by omega))
        try dsimp only
        by_cases ea:(k - 1==0)=true
        ·rw [if_pos ea]
         exact wpS_pure (qd _ _ ⟨_,rfl,.inl ⟨_,_,rfl,dn I6 (by omega) (by simpa using ea)⟩⟩)
        rw [if_neg ea]
        have ea':0 < k - 1:=by have h1:¬ k - 1=0:=(by simpa using ea); omega
        split
        ·exact wpS_pure (qd _ _ ⟨_,rfl,.inr ⟨_,_,_,_,_,_,rfl,I6,ea',by omega,by omega,by omega,by omega⟩⟩)
        ·exact wpS_pure (qy _ _ ⟨_,_,_,_,_,_,_,rfl,rfl,I6,ea',by omega,by omega,by omega,by omega⟩)
       ·rw [if_neg hl0]
        refine wpS_bind (el (show k - 1 < a.size by omega) ?_)
        have I6:=pB I3 na0 na1 (show 0 < nb - 1 by omega) (show nb - 1≤b.size by omega) (l1 (nb - 1 - 1) (by omega))
        try dsimp only
        by_cases ea:(k - 1==0)=true
        ·rw [if_pos ea]
         exact wpS_pure (qd _ _ ⟨_,rfl,.inl ⟨_,_,rfl,dn I6 (by omega) (by simpa using ea)⟩⟩)
        rw [if_neg ea]
        have ea':0 < k - 1:=by have h1:¬ k - 1=0:=(by simpa using ea); omega
        split
        ·exact wpS_pure (qd _ _ ⟨_,rfl,.inr ⟨_,_,_,_,_,_,rfl,I6,ea',by omega,by omega,by omega,by omega⟩⟩)
        ·exact wpS_pure (qy _ _ ⟨_,_,_,_,_,_,_,rfl,rfl,I6,ea',by omega,by omega,by omega,by omega⟩)
      ·rw [if_neg hk0]
       have na0:0 < na:=by omega
       have na1:na≤a.size:=by omega
       refine wpS_bind (el (show nb - 1 < b.size by omega) ?_)
       have I3:=pA I na0 na1 (show 0 < nb by omega) i4 (k1 (na - 1) (by omega))
       try dsimp only
       by_cases eb:(nb - 1==1)=true
       ·rw [if_pos eb]
        exact wpS_pure (qd _ _ ⟨_,rfl,.inl ⟨_,_,rfl,ls I3 (by omega) (by simpa using eb)⟩⟩)
       rw [if_neg eb]
       have eb':1 < nb - 1:=by have h1:¬ nb - 1=1:=(by simpa using eb); omega
       refine wpS_bind (el (show na - 1 < a.size by omega) ?_)
       refine wpS_bind (jp K hk (show 0+(nb - 1)≤b.size by omega) (by omega) (pa _ (aF (by omega))) (fun i hi=> pb _ (aF (by omega))) O.tr (sb (by omega)) fun l ln l1 l2=> ?_)
       simp only [Nat.zero_add] at l1 l2
       try dsimp only
       by_cases hl0:nb - 1 - l > 0
       ·rw [if_pos hl0]
        have I4:=rA I3 (show l≤nb - 1 by omega) (show nb - 1≤b.size by omega) na0 na1 l2
        by_cases ec:(l==1)=true
        ·rw [if_pos ec]
         exact wpS_pure (qd _ _ ⟨_,rfl,.inl ⟨_,_,rfl,ls I4 (by omega) (by simpa using ec)⟩⟩)
        rw [if_neg ec]
        by_cases ed:(l==0)=true
        ·rw [if_pos ed]
         exact wpS_pure (qd _ _ ⟨_,rfl,.inl ⟨_,_,rfl,dA I4 (by omega) (by simpa using ed)⟩⟩)
        rw [if_neg ed]
        have ec':1 < l:=by have h1:¬ l=1:=(by simpa using ec); have h2:¬ l=0:=(by simpa using ed); omega
        refine wpS_bind (el (show na - 1 < a.size by omega) ?_)
        have I6:=pB I4 na0 na1 (show 0 < l by omega) (show l≤b.size by omega) (l1 (l - 1) (by omega))
        try dsimp only
        by_cases ea:(na - 1==0)=true
        ·rw [if_pos ea]
         exact wpS_pure (qd _ _ ⟨_,rfl,.inl ⟨_,_,rfl,dn I6 (by omega) (by simpa using ea)⟩⟩)
        rw [if_neg ea]
        have ea':0 < na - 1:=by have h1:¬ na - 1=0:=(by simpa using ea); omega
        split
        ·exact wpS_pure (qd _ _ ⟨_,rfl,.inr ⟨_,_,_,_,_,_,rfl,I6,ea',by omega,by omega,by omega,by omega⟩⟩)
        ·exact wpS_pure (qy _ _ ⟨_,_,_,_,_,_,_,rfl,rfl,I6,ea',by omega,by omega,by omega,by omega⟩)
       ·rw [if_neg hl0]
        refine wpS_bind (el (show na - 1 < a.size by omega) ?_)
        have I6:=pB I3 na0 na1 (show 0 < nb - 1 by omega) (show nb - 1≤b.size by omega) (l1 (nb - 1 - 1) (by omega))
        try dsimp only
        by_cases ea:(na - 1==0)=true
        ·rw [if_pos ea]
         exact wpS_pure (qd _ _ ⟨_,rfl,.inl ⟨_,_,rfl,dn I6 (by omega) (by simpa using ea)⟩⟩)
        rw [if_neg ea]
        have ea':0 < na - 1:=by have h1:¬ na - 1=0:=(by simpa using ea); omega
        split
        ·exact wpS_pure (qd _ _ ⟨_,rfl,.inr ⟨_,_,_,_,_,_,rfl,I6,ea',by omega,by omega,by omega,by omega⟩⟩)
        ·exact wpS_pure (qy _ _ ⟨_,_,_,_,_,_,_,rfl,rfl,I6,ea',by omega,by omega,by omega,by omega⟩)
     ·rw [if_neg hg]
      refine wpS_bind (sg ?_)
      refine wpS_bind (el (show nb - 1 < b.size by omega) ?_)
      refine wpS_bind (qI K hk (show 0+na≤a.size by omega) (by omega) (pb _ (aF (by omega))) (fun i hi=> pa _ (aF (by omega))) O.tr (sa (by omega)) fun k kn k1 k2=> ?_)
      simp only [Nat.zero_add] at k1 k2
      try dsimp only
      by_cases hk0:na - k > 0
      ·rw [if_pos hk0]
       have I2:=rB I (show k≤na by omega) i2 (show 0 < nb by omega) i4 k2
       by_cases ec:(k==0)=true
       ·rw [if_pos ec]
        exact wpS_pure (qd _ _ ⟨_,rfl,.inl ⟨_,_,rfl,dn I2 (by omega) (by simpa using ec)⟩⟩)
       rw [if_neg ec]
       have ec':0 < k:=by have h1:¬ k=0:=(by simpa using ec); omega
       have na0:0 < k:=by omega
       have na1:k≤a.size:=by omega
       refine wpS_bind (el (show nb - 1 < b.size by omega) ?_)
       have I3:=pA I2 na0 na1 (show 0 < nb by omega) i4 (k1 (k - 1) (by omega))
       try dsimp only
       by_cases eb:(nb - 1==1)=true
       ·rw [if_pos eb]
        exact wpS_pure (qd _ _ ⟨_,rfl,.inl ⟨_,_,rfl,ls I3 (by omega) (by simpa using eb)⟩⟩)
       rw [if_neg eb]
       have eb':1 < nb - 1:=by have h1:¬ nb - 1=1:=(by simpa using eb); omega
       refine wpS_bind (el (show k - 1 < a.size by omega) ?_)
       refine wpS_bind (jp K hk (show 0+(nb - 1)≤b.size by omega) (by omega) (pa _ (aF (by omega))) (fun i hi=> pb _ (aF (by omega))) O.tr (sb (by omega)) fun l ln l1 l2=> ?_)
       simp only [Nat.zero_add] at l1 l2
       try dsimp only
       by_cases hl0:nb - 1 - l > 0
       ·rw [if_pos hl0]
        have I4:=rA I3 (show l≤nb - 1 by omega) (show nb - 1≤b.size by omega) na0 na1 l2
        by_cases ec:(l==1)=true
        ·rw [if_pos ec]
         exact wpS_pure (qd _ _ ⟨_,rfl,.inl ⟨_,_,rfl,ls I4 (by omega) (by simpa using ec)⟩⟩)
        rw [if_neg ec]
        by_cases ed:(l==0)=true
        ·rw [if_pos ed]
         exact wpS_pure (qd _ _ ⟨_,rfl,.inl ⟨_,_,rfl,dA I4 (by omega) (by simpa using ed)⟩⟩)
        rw [if_neg ed]
        have ec':1 < l:=by have h1:¬ l=1:=(by simpa using ec); have h2:¬ l=0:=(by simpa using ed); omega
        refine wpS_bind (el (show k - 1 < a.size by omega) ?_)
        have I6:=pB I4 na0 na1 (show 0 < l by omega) (show l≤b.size by omega) (l1 (l - 1) (by omega))
        try dsimp only
        by_cases ea:(k - 1==0)=true
        ·rw [if_pos ea]
         exact wpS_pure (qd _ _ ⟨_,rfl,.inl ⟨_,_,rfl,dn I6 (by omega) (by simpa using ea)⟩⟩)
        rw [if_neg ea]
        have ea':0 < k - 1:=by have h1:¬ k - 1=0:=(by simpa using ea); omega
        split
        ·exact wpS_pure (qd _ _ ⟨_,rfl,.inr ⟨_,_,_,_,_,_,rfl,I6,ea',by omega,by omega,by omega,by omega⟩⟩)
        ·exact wpS_pure (qy _ _ ⟨_,_,_,_,_,_,_,rfl,rfl,I6,ea',by omega,by omega,by omega,by omega⟩)
       ·rw [if_neg hl0]
        refine wpS_bind (el (show k - 1 < a.size by omega) ?_)
        have I6:=pB I3 na0 na1 (show 0 < nb - 1 by omega) (show nb - 1≤b.size by omega) (l1 (nb - 1 - 1) (by omega))
        try dsimp only
        by_cases ea:(k - 1==0)=true
        ·rw [if_pos ea]
         exact wpS_pure (qd _ _ ⟨_,rfl,.inl ⟨_,_,rfl,dn I6 (by omega) (by simpa using ea)⟩⟩)
        rw [if_neg ea]
        have ea':0 < k - 1:=by have h1:¬ k - 1=0:=(by simpa using ea); omega
        split
        ·exact wpS_pure (qd _ _ ⟨_,rfl,.inr ⟨_,_,_,_,_,_,rfl,I6,ea',by omega,by omega,by omega,by omega⟩⟩)
        ·exact wpS_pure (qy _ _ ⟨_,_,_,_,_,_,_,rfl,rfl,I6,ea',by omega,by omega,by omega,by omega⟩)
      ·rw [if_neg hk0]
       have na0:0 < na:=by omega
       have na1:na≤a.size:=by omega
       refine wpS_bind (el (show nb - 1 < b.size by omega) ?_)
       have I3:=pA I na0 na1 (show 0 < nb by omega) i4 (k1 (na - 1) (by omega))
       try dsimp only
       by_cases eb:(nb - 1==1)=true
       ·rw [if_pos eb]
        exact wpS_pure (qd _ _ ⟨_,rfl,.inl ⟨_,_,rfl,ls I3 (by omega) (by simpa using eb)⟩⟩)
       rw [if_neg eb]
       have eb':1 < nb - 1:=by have h1:¬ nb - 1=1:=(by simpa using eb); omega
       refine wpS_bind (el (show na - 1 < a.size by omega) ?_)
       refine wpS_bind (jp K hk (show 0+(nb - 1)≤b.size by omega) (by omega) (pa _ (aF (by omega))) (fun i hi=> pb _ (aF (by omega))) O.tr (sb (by omega)) fun l ln l1 l2=> ?_)
       simp only [Nat.zero_add] at l1 l2
       try dsimp only
       by_cases hl0:nb - 1 - l > 0
       ·rw [if_pos hl0]
        have I4:=rA I3 (show l≤nb - 1 by omega) (show nb - 1≤b.size by omega) na0 na1 l2
        by_cases ec:(l==1)=true
        ·rw [if_pos ec]
         exact wpS_pure (qd _ _ ⟨_,rfl,.inl ⟨_,_,rfl,ls I4 (by omega) (by simpa using ec)⟩⟩)
        rw [if_neg ec]
        by_cases ed:(l==0)=true
        ·rw [if_pos ed]
         exact wpS_pure (qd _ _ ⟨_,rfl,.inl ⟨_,_,rfl,dA I4 (by omega) (by simpa using ed)⟩⟩)
        rw [if_neg ed]
        have ec':1 < l:=by have h1:¬ l=1:=(by simpa using ec); have h2:¬ l=0:=(by simpa using ed); omega
        refine wpS_bind (el (show na - 1 < a.size by omega) ?_)
        have I6:=pB I4 na0 na1 (show 0 < l by omega) (show l≤b.size by omega) (l1 (l - 1) (by omega))
        try dsimp only
        by_cases ea:(na - 1==0)=true
        ·rw [if_pos ea]
         exact wpS_pure (qd _ _ ⟨_,rfl,.inl ⟨_,_,rfl,dn I6 (by omega) (by simpa using ea)⟩⟩)
        rw [if_neg ea]
        have ea':0 < na - 1:=by have h1:¬ na - 1=0:=(by simpa using ea); omega
        split
        ·exact wpS_pure (qd _ _ ⟨_,rfl,.inr ⟨_,_,_,_,_,_,rfl,I6,ea',by omega,by omega,by omega,by omega⟩⟩)
        ·exact wpS_pure (qy _ _ ⟨_,_,_,_,_,_,_,rfl,rfl,I6,ea',by omega,by omega,by omega,by omega⟩)
       ·rw [if_neg hl0]
        refine wpS_bind (el (show na - 1 < a.size by omega) ?_)
        have I6:=pB I3 na0 na1 (show 0 < nb - 1 by omega) (show nb - 1≤b.size by omega) (l1 (nb - 1 - 1) (by omega))
        try dsimp only
        by_cases ea:(na - 1==0)=true
        ·rw [if_pos ea]
         exact wpS_pure (qd _ _ ⟨_,rfl,.inl ⟨_,_,rfl,dn I6 (by omega) (by simpa using ea)⟩⟩)
        rw [if_neg ea]
        have ea':0 < na - 1:=by have h1:¬ na - 1=0:=(by simpa using ea); omega
        split
        ·exact wpS_pure (qd _ _ ⟨_,rfl,.inr ⟨_,_,_,_,_,_,rfl,I6,ea',by omega,by omega,by omega,by omega⟩⟩)
        ·exact wpS_pure (qy _ _ ⟨_,_,_,_,_,_,_,rfl,rfl,I6,ea',by omega,by omega,by omega,by omega⟩)
end
end TS
namespace TS
open PySem PyProof.Rows
section
theorem jz {κ:Type}:∀ (m:List κ) (n p:Nat) (X Y:List κ) (arr:Array κ),arr.toList=X++Y→X.length=p+n→m.length≤Y.length→((m.zipIdx n).foldl (fun a (x:κ×Nat)=> a.setIfInBounds (p+x.2) x.1) arr).toList=X++m++Y.drop m.length
 | [],n,p,X,Y,arr,e,_,_=> by simpa using e
 | x::m,n,p,X,[],arr,e,h1,h2=> by simp at h2
 | x::m,n,p,X,y::Y,arr,e,h1,h2=> by
  rw [List.zipIdx_cons,List.foldl_cons]
  have:=jz m (n+1) p (X++[x]) Y (arr.setIfInBounds (p+n) x) (by
   rw [Array.toList_setIfInBounds,e,← h1,List.set_append_right _ _ (Nat.le_refl _)]; simp) (by simp; omega) (by simpa using h2)
  rw [this]; simp
theorem qr {M:Model} {A:Around} {E:Value→Shared→Prop} {s:Shared} {σ:Type} {x:σ} {Q:PUnit→σ→Prop} {st:σ} (h:Q ⟨⟩ x):wpS M A E s (set x:StateT σ Sem PUnit) Q st:=by
 unfold wpS; rw [StateT.run_set]; exact wpAny_pure ⟨rfl,h⟩
theorem seg {κ:Type} (X S Y:List κ):((X++S++Y).drop X.length).take S.length=S:=by simp
end
section
variable {prog:Program} {w:World} {A:Around} {E:Value→Shared→Prop} {s:Shared} {κ:SortKind} {P:Keyed→Prop} {R:Keyed→Keyed→Bool} (K:Asks prog w A E s κ P R)
include K
set_option maxHeartbeats 2000000 in
theorem mat {i sa na pw sb nb pw2:Nat} {X S1 S2 Y:List Keyed} {st:SortSt} {Q:Bool→SortSt→Prop} (hk:kindOf st=κ) (hf:failedOf st=none) (h1:(pendingOf st)[i]?=some (sa,na,pw)) (h2:(pendingOf st)[i+1]?=some (sb,nb,pw2)) (ha:(arrOf st).toList=X++S1++S2++Y) (lX:X.length=sa) (l1:S1.length=na) (l2:S2.length=nb) (hsb:sb=sa+na) (p1:0 < na) (p2:0 < nb) (pp:∀ x∈S1++S2,P x) (O:MO R S1 S2)
  (h:∀ S st',kindOf st'=κ→failedOf st'=none→pendingOf st'=((pendingOf st).setIfInBounds i (sa,na+nb,pw)).eraseIdxIfInBounds (i+1)→(arrOf st').toList=X++S++Y→Mgd R S1 S2 S→Q true st'):wpS (model prog w) A E s (mergeAt' i) Q st:=by
 have sz:(arrOf st).size=sa+na+nb+Y.length:=by rw [← Array.length_toList,ha]; simp; omega
 have g1:∀ j (hj:j < S1.length),gt (arrOf st) (sa+j)=S1[j]:=fun j hj=> by
  rw [gt_eq (by rw [Array.length_toList]; omega)]
  simp only [ha]
  rw [List.getElem_append_left (by simp; omega),List.getElem_append_left (by simp; omega),List.getElem_append_right (by omega)]
  congr 1; omega
 have g2:∀ j (hj:j < S2.length),gt (arrOf st) (sb+j)=S2[j]:=fun j hj=> by
  rw [gt_eq (by rw [Array.length_toList]; omega)]
  simp only [ha]
  rw [List.getElem_append_left (by simp; omega),List.getElem_append_right (by simp; omega)]
  congr 1; simp; omega
 have q1:∀ j,j < na→P (gt (arrOf st) (sa+j)):=fun j hj=> by rw [g1 j (by omega)]; exact pp _ (List.mem_append_left _ (List.getElem_mem _))
 have q2:∀ j,j < nb→P (gt (arrOf st) (sb+j)):=fun j hj=> by rw [g2 j (by omega)]; exact pp _ (List.mem_append_right _ (List.getElem_mem _))
 refine wpS_bind (wpS_get ?_)
 rw [h1,h2]
 dsimp only
 refine wpS_bind (qr ?_)
 refine wpS_bind (el (show sb < (arrOf st).size by omega) ?_)
 refine wpS_bind (qI K hk (show sa+na≤(arrOf st).size by omega) p1 (by have:=q2 0 p2; simpa using this) q1 O.tr (fun x y h3 h4=> by
  rw [g1 x (by omega),g1 y (by omega)]
  exact List.pairwise_iff_getElem.mp O.sA _ _ _ _ h3) fun k kn k1 k2=> ?_)
 dsimp only
 have hb0:gt (arrOf st) sb=S2[0]'(by omega):=by have:=g2 0 (by omega); simpa using this
 rw [hb0] at k1 k2
 have hU:∀ x∈S1.take k,∀ y∈S2,R x y=true:=fun x hx y hy=> by
  obtain ⟨j,hj,rfl⟩:=List.getElem_of_mem hx
  have jk:j < k:=by simp at hj; omega
  have z:=k1 j jk
  rw [g1 j (by omega)] at z
  have z2:=O.tot _ (List.getElem_mem _) _ (List.getElem_mem _) z
  rw [List.getElem_take]
  exact dP O.tr O.sB (show 0 < S2.length by omega) z2 y (by simpa using hy)
 have f1:∀ v∈S1.drop k,R (S2[0]'(by omega)) v=true:=fun v hv=> by
  obtain ⟨j,hj,rfl⟩:=List.getElem_of_mem hv
  rw [List.length_drop] at hj
  rw [List.getElem_drop,← g1 (k+j) (by omega)]
  exact k2 _ (by omega) (by omega)
 by_cases e1:(na - k==0)=true
 ·rw [if_pos e1]
  have e1':na - k=0:=by simpa using e1
  refine wpS_pure (h (S1++S2) _ hk hf rfl (by rw [← List.append_assoc]; exact ha) ⟨List.Perm.refl _,List.pairwise_append.mpr ⟨O.sA,O.sB,fun x hx y hy=> hU x (by rw [List.take_of_length_le (by omega)]; exact hx) y hy⟩⟩)
 rw [if_neg e1]
 have e1':0 < na - k:=by have z:¬ na - k=0:=(by simpa using e1); omega
 have hlast:gt (arrOf st) (sa+k+(na - k) - 1)=S1[na - 1]'(by omega):=by
  rw [← g1 (na - 1) (by omega)]; congr 1; omega
 refine wpS_bind (el (show sa+k+(na - k) - 1 < (arrOf st).size by omega) ?_)
 refine wpS_bind (jp K hk (show sb+nb≤(arrOf st).size by omega) (by omega) (by rw [hlast,← g1 (na - 1) (by omega)]; exact q1 _ (by omega)) q2 O.tr (fun x y h3 h4=> by
  rw [g2 x (by omega),g2 y (by omega)]
  exact List.pairwise_iff_getElem.mp O.sB _ _ _ _ h3) fun l ln m1 m2=> ?_)
 dsimp only
 rw [hlast] at m1 m2
 have hZ:∀ x∈S1,∀ z∈S2.drop l,R x z=true:=fun x hx z hz=> by
  obtain ⟨j,hj,rfl⟩:=List.getElem_of_mem hz
  rw [List.length_drop] at hj
  obtain ⟨i,hi,rfl⟩:=List.getElem_of_mem hx
  rw [List.getElem_drop]
  have z:=m2 (l+j) (by omega) (by omega)
  rw [g2 (l+j) (by omega)] at z
  have z2:=O.tot _ (List.getElem_mem _) _ (List.getElem_mem _) z
  rcases Nat.lt_or_ge i (na - 1) with c | c
  ·exact O.tr _ _ _ (List.pairwise_iff_getElem.mp O.sA i (na - 1) hi (by omega) c) z2
  ·have:i=na - 1:=by omega
   subst this
   exact z2
 have f2:∀ v∈S2.take l,R v (S1[na - 1]'(by omega))=true:=fun v hv=> by
  obtain ⟨j,hj,rfl⟩:=List.getElem_of_mem hv
  have jl:j < l:=by simp at hj; omega
  rw [List.getElem_take,← g2 j (by omega)]
  exact m1 _ jl
 have l0:0 < l:=by
  rcases Nat.eq_zero_or_pos l with c | c
  ·exfalso
   have z:=m2 0 (by omega) p2
   rw [g2 0 (by omega)] at z
   have z2:=f1 (S1[na - 1]'(by omega)) (by
    have:S1[na - 1]'(by omega)=(S1.drop k)[na - 1 - k]'(by rw [List.length_drop]; omega):=by rw [List.getElem_drop]; congr 1; omega
    rw [this]; exact List.getElem_mem _)
   rw [z2] at z; cases z
  ·exact c
 rw [if_neg (by simp; omega)]
 have ll:∀ {a:Array Keyed},a.toList.length=a.size:=by simp
 have eL:(arrOf st).toList=(X++S1.take k)++S1.drop k++(S2.take l++(S2.drop l++Y)):=by
  rw [ha]
  conv=> lhs; rw [← List.take_append_drop k S1,← List.take_append_drop l S2]
  simp only [List.append_assoc]
 have ex1:((arrOf st).extract (sa+k) sb).toList=S1.drop k:=by
  rw [show sb=sa+k+(na - k) by omega,eI,eL]
  have:=seg (X++S1.take k) (S1.drop k) (S2.take l++(S2.drop l++Y))
  rw [show (X++S1.take k).length=sa+k by simp; omega,show (S1.drop k).length=na - k by simp; omega] at this
  exact this
 have ex2:((arrOf st).extract sb (sb+l)).toList=S2.take l:=by
  rw [eI,ha]
  have:=seg (X++S1) (S2.take l) (S2.drop l++Y)
  rw [show (X++S1).length=sb by simp; omega,show (S2.take l).length=l by simp; omega] at this
  rw [← List.append_assoc,List.append_assoc (X++S1),List.take_append_drop] at this
  exact this
 generalize hx:(arrOf st).extract (sa+k) sb=x at ex1 ⊢
 generalize hy:(arrOf st).extract sb (sb+l)=y at ex2 ⊢
 have sx:x.size=na - k:=by rw [← ll,ex1]; simp; omega
 have sy:y.size=l:=by rw [← ll,ex2]; simp; omega
 have O2:MO R x.toList y.toList:=by
  rw [ex1,ex2]
  exact ⟨O.tr,O.sA.sublist (List.drop_sublist _ _),O.sB.sublist (List.take_sublist _ _),fun u hu v hv=> O.tot u (List.mem_of_mem_drop hu) v (List.mem_of_mem_take hv)⟩
 have gx:gt x (x.size - 1)=S1[na - 1]'(by omega):=by
  rw [gt_eq (by rw [ll]; omega)]
  simp only [ex1,sx,List.getElem_drop]
  congr 1; omega
 have gy:gt y 0=S2[0]'(by omega):=by
  rw [gt_eq (by rw [ll]; omega)]
  simp only [ex2,List.getElem_take]
 have px:∀ u∈x.toList,P u:=fun u hu=> pp u (List.mem_append_left _ (List.mem_of_mem_drop (by rw [ex1] at hu; exact hu)))
 have py:∀ u∈y.toList,P u:=fun u hu=> pp u (List.mem_append_right _ (List.mem_of_mem_take (by rw [ex2] at hu; exact hu)))
 have hlo:∀ v∈y.toList,R v (gt x (x.size - 1))=true:=fun v hv=> by rw [gx]; exact f2 v (by rw [ex2] at hv; exact hv)
 have hhi:∀ v∈x.toList,R (gt y 0) v=true:=fun v hv=> by rw [gy]; exact f1 v (by rw [ex1] at hv; exact hv)
 have fin:∀ r:Array Keyed,Mgd R x.toList y.toList r.toList→((r.toList.zipIdx).foldl (fun a (x:Keyed×Nat)=> a.setIfInBounds (sa+k+x.2) x.1) (arrOf st)).toList=X++(S1.take k++r.toList++S2.drop l)++Y∧Mgd R S1 S2 (S1.take k++r.toList++S2.drop l):=fun r m=> by
  have lr:r.toList.length=(S1.drop k++S2.take l).length:=by rw [← ex1,← ex2]; exact m.1.length_eq
  constructor
  ·rw [jz r.toList 0 (sa+k) (X++S1.take k) (S1.drop k++S2.take l++(S2.drop l++Y)) _ (by rw [eL]; simp only [List.append_assoc]) (by simp; omega) (by rw [lr,List.length_append (as:=S1.drop k++S2.take l)]; omega)]
   rw [lr,List.drop_left]
   simp only [List.append_assoc]
  ·have mp:r.toList.Perm (S1.drop k++S2.take l):=by rw [← ex1,← ex2]; exact m.1
   constructor
   ·refine ((mp.append_left _).append_right _).trans ?_
    have e:S1++S2=S1.take k++(S1.drop k++S2.take l)++S2.drop l:=by
     conv=> lhs; rw [← List.take_append_drop k S1,← List.take_append_drop l S2]
     simp only [List.append_assoc]
    rw [e]
   ·have sp1:=O.sA
    rw [← List.take_append_drop k S1] at sp1
    have sp2:=O.sB
    rw [← List.take_append_drop l S2] at sp2
    have c1:=List.pairwise_append.mp sp1
    have c2:=List.pairwise_append.mp sp2
    refine List.pairwise_append.mpr ⟨List.pairwise_append.mpr ⟨c1.1,m.2,fun u hu v hv=> ?_⟩,c2.2.1,fun u hu v hv=> ?_⟩
    ·rcases List.mem_append.mp (mp.mem_iff.mp hv) with z | z
     ·exact c1.2.2 u hu v z
     ·exact hU u hu v (List.mem_of_mem_take z)
    ·rcases List.mem_append.mp hu with z | z
     ·exact hU u z v (List.mem_of_mem_drop hv)
     ·rcases List.mem_append.mp (mp.mem_iff.mp z) with z | z
      ·exact hZ u (List.mem_of_mem_drop z) v hv
      ·exact c2.2.2 u z v hv
 have fin2:∀ (r:Array Keyed) g,Mgd R x.toList y.toList r.toList→Q true (SortSt.mk' (kindOf st) ((r.toList.zipIdx).foldl (fun a (x:Keyed×Nat)=> a.setIfInBounds (sa+k+x.2) x.1) (arrOf st)) (((pendingOf st).setIfInBounds i (sa,na+nb,pw)).eraseIdxIfInBounds (i+1)) g (failedOf st)):=fun r g m=> h _ _ hk hf rfl (fin r m).1 (fin r m).2
 by_cases hc:na - k≤l
 ·rw [if_pos hc]
  refine wpS_bind (mlo K O2 px py (by omega) (by omega) (hhi _ (aF (by omega))) hlo hk fun r g m=> ?_)
  refine wpS_bind (wpS_modify ?_)
  refine wpS_bind (wpS_get ?_)
  have:=fin2 r g m
  refine wpS_pure ?_
  show Q (failedOf st).isNone _
  rw [show (failedOf st).isNone=true by rw [hf]; rfl]
  exact this
 ·rw [if_neg hc]
  refine wpS_bind (mhi K O2 px py (by omega) (by omega) (hlo _ (aF (by omega))) hhi hk fun r g m=> ?_)
  refine wpS_bind (wpS_modify ?_)
  refine wpS_bind (wpS_get ?_)
  have:=fin2 r g m
  refine wpS_pure ?_
  show Q (failedOf st).isNone _
  rw [show (failedOf st).isNone=true by rw [hf]; rfl]
  exact this
end
end TS
namespace TS
open PySem PyProof.Rows
section
variable {prog:Program} {w:World} {A:Around} {E:Value→Shared→Prop} {s:Shared} {κ:SortKind} {P:Keyed→Prop} {R:Keyed→Keyed→Bool}
structure Ord (P:Keyed→Prop) (R:Keyed→Keyed→Bool) (l:List Keyed):Prop where
 tr:∀ x y z,R x y=true→R y z=true→R x z=true
 tot:∀ x∈l,∀ y∈l,x≠y→R x y=false→R y x=true
 nd:l.Nodup
 hp:∀ x∈l,P x
structure Stt (κ:SortKind) (l:List Keyed) (pd:Array (Nat×Nat×Nat)) (st:SortSt):Prop where
 kind:kindOf st=κ
 failed:failedOf st=none
 perm:(arrOf st).toList.Perm l
 pend:pendingOf st=pd
variable {l:List Keyed} {pd:Array (Nat×Nat×Nat)}
theorem Stt.size {st:SortSt} (S:Stt κ l pd st):(arrOf st).size=l.length:=by rw [← Array.length_toList,S.perm.length_eq]
theorem Stt.p (O:Ord P R l) {st:SortSt} (S:Stt κ l pd st) {i:Nat} (h:i < l.length):P (gt (arrOf st) i):=O.hp _ (S.perm.mem_iff.mp (aF (by rw [S.size]; exact h)))
theorem Stt.tot (O:Ord P R l) {st:SortSt} (S:Stt κ l pd st) {i j:Nat} (hi:i < l.length) (hj:j < l.length) (hne:i≠j) (hr:R (gt (arrOf st) i) (gt (arrOf st) j)=false):R (gt (arrOf st) j) (gt (arrOf st) i)=true:=by
 refine O.tot _ (S.perm.mem_iff.mp (aF (by rw [S.size]; exact hi))) _ (S.perm.mem_iff.mp (aF (by rw [S.size]; exact hj))) (fun e=> hne ?_) hr
 have li:i < (arrOf st).toList.length:=by rw [Array.length_toList,S.size]; exact hi
 have lj:j < (arrOf st).toList.length:=by rw [Array.length_toList,S.size]; exact hj
 rw [gt_eq li,gt_eq lj] at e
 exact (List.getElem_inj (S.perm.nodup_iff.mpr O.nd)).mp e
theorem Stt.arr {st:SortSt} (S:Stt κ l pd st) {a:Array Keyed} (h:a.Perm (arrOf st)):Stt κ l pd (setArr st a):=⟨S.kind,S.failed,(Array.perm_iff_toList_perm.mp h).trans S.perm,S.pend⟩
theorem ltK (K:Asks prog w A E s κ P R) (O:Ord P R l) {i j:Nat} {st:SortSt} {Q:Option Bool→SortSt→Prop} (S:Stt κ l pd st) (hi:i < l.length) (hj:j < l.length) (h:Q (some (R (gt (arrOf st) i) (gt (arrOf st) j))) st):wpS (model prog w) A E s (ltAt' i j) Q st:=by
 rw [ltAt'_eq]
 refine wpS_bind (wpS_get ?_)
 refine wpS_bind (el (by rw [S.size]; exact hi) ?_)
 refine wpS_bind (el (by rw [S.size]; exact hj) ?_)
 exact K _ _ _ _ (S.p O hi) (S.p O hj) S.kind h
theorem jT {a b:Array Keyed} {i j:Nat} (h:a[i]?=b[j]?):gt a i=gt b j:=by
 unfold gt
 rw [Array.getD_eq_getD_getElem?,Array.getD_eq_getD_getElem?,h]
def Up (R:Keyed→Keyed→Bool) (a:Array Keyed) (lo m:Nat):Prop:=∀ i j,i < j→j < m→R (gt a (lo+i)) (gt a (lo+j))=true
def Dn (R:Keyed→Keyed→Bool) (a:Array Keyed) (lo m:Nat):Prop:=∀ i j,i < j→j < m→R (gt a (lo+j)) (gt a (lo+i))=true
def Kept (a b:Array Keyed) (lo:Nat):Prop:=∀ j,j < lo→gt b j=gt a j
theorem vw {a:Array Keyed} {src d:Nat} (hs:src < a.size) (hd:d≤src) (k:Nat):gt (bubble a src d) k=if k=src - d then gt a src else if src - d < k∧k≤src then gt a (k - 1) else gt a k:=by
 have e:=getElem?_bubble hs d hd k
 by_cases h1:k=src - d
 ·rw [if_pos h1] at e ⊢; exact jT e
 ·rw [if_neg h1] at e ⊢
  by_cases h2:src - d < k∧k≤src
  ·rw [if_pos h2] at e ⊢; exact jT e
  ·rw [if_neg h2] at e ⊢; exact jT e
theorem kJ {a:Array Keyed} {i j:Nat} (hj:j≤a.size) (k:Nat):gt (mirror a i j ((j - i) / 2)) k=if i≤k∧k < j then gt a (i+j - 1 - k) else gt a k:=by
 have e:=getElem?_mirror_all (xs:=a) (i:=i) hj k
 by_cases h1:i≤k∧k < j
 ·rw [if_pos h1] at e ⊢; exact jT e
 ·rw [if_neg h1] at e ⊢; exact jT e
variable (K:Asks prog w A E s κ P R)
include K
theorem wR (O:Ord P R l) {lo n ok:Nat} {st:SortSt} {Q:Bool→SortSt→Prop} (hn:lo+n≤l.length) (hok:ok≤n) (S:Stt κ l pd st) (hs:Up R (arrOf st) lo ok)
  (h:∀ st',Stt κ l pd st'→Kept (arrOf st) (arrOf st') lo→Up R (arrOf st') lo n→Q true st'):wpS (model prog w) A E s (binarySort' lo n ok) Q st:=by
 rw [binarySort'_eq]
 refine wpS_bind (wpS_mono (wpS_forRange (I:=fun k c st'=> c=(none,())∧Stt κ l pd st'∧Kept (arrOf st) (arrOf st') lo∧Up R (arrOf st') lo (min k n))
  (Q:=fun c st'=> c=(none,())∧Stt κ l pd st'∧Kept (arrOf st) (arrOf st') lo∧Up R (arrOf st') lo n) ?step ?fin ?init) ?post)
 case post=>
  rintro c st' ⟨rfl,S',k',u'⟩
  exact wpS_pure (h st' S' k' u')
 case init=>
  refine ⟨rfl,S,fun _ _=> rfl,fun i j hij hj=> ?_⟩
  exact hs i j hij (by omega)
 case fin=>
  rintro c st' ⟨hc,S',k',u'⟩
  refine ⟨hc,S',k',?_⟩
  rwa [show min (max (max ok 1) n) n=n by omega] at u'
 case step=>
  rintro k c st' hak hkn ⟨rfl,S',k',u'⟩
  rw [show min k n=k by omega] at u'
  have hk:lo+k < l.length:=by omega
  refine wpS_bind (wpS_mono (wpS_forRange (I:=fun x c st''=> st''=st'∧∃ p r,c=(none,p,r)∧p≤r∧r≤k∧r - p≤k - x∧
    (∀ i,i < p→R (gt (arrOf st') (lo+i)) (gt (arrOf st') (lo+k))=true)∧(∀ i,r≤i→i < k→R (gt (arrOf st') (lo+k)) (gt (arrOf st') (lo+i))=true))
   (Q:=fun c st''=> st''=st'∧∃ p r,c=(none,p,r)∧p≤k∧
    (∀ i,i < p→R (gt (arrOf st') (lo+i)) (gt (arrOf st') (lo+k))=true)∧(∀ i,p≤i→i < k→R (gt (arrOf st') (lo+k)) (gt (arrOf st') (lo+i))=true)) ?istep ?ifin ?iinit) ?ipost)
  case iinit=> exact ⟨rfl,0,k,rfl,by omega,by omega,by omega,fun i hi=> by omega,fun i h1 h2=> by omega⟩
  case ifin=>
   rintro c st'' ⟨rfl,p,r,rfl,hlr,hrk,hm,hlo,hhi⟩
   have:p=r:=by omega
   subst this
   exact ⟨rfl,p,p,rfl,hrk,hlo,hhi⟩
  case istep=>
   rintro x c st'' _ hxk ⟨rfl,p,r,rfl,hlr,hrk,hm,hlo,hhi⟩
   dsimp only
   by_cases hge:p ≥ r
   ·rw [if_pos hge]
    have:p=r:=by omega
    subst this
    exact wpS_pure ⟨rfl,p,p,rfl,hrk,hlo,hhi⟩
   ·rw [if_neg hge]
    refine wpS_bind (ltK K O S' hk (show lo+(p+r) / 2 < l.length by omega) ?_)
    dsimp only
    by_cases hless:R (gt (arrOf st'') (lo+k)) (gt (arrOf st'') (lo+(p+r) / 2))=true
    ·rw [if_pos hless]
     refine wpS_pure ⟨rfl,p,(p+r) / 2,rfl,by omega,by omega,by omega,hlo,fun i h1 h2=> ?_⟩
     rcases Nat.lt_or_eq_of_le h1 with z | z
     ·exact O.tr _ _ _ hless (u' _ _ z h2)
     ·rw [← z]; exact hless
    ·rw [if_neg hless]
     have ht:=S'.tot O hk (show lo+(p+r) / 2 < l.length by omega) (by omega) (by simpa using hless)
     refine wpS_pure ⟨rfl,(p+r) / 2+1,r,rfl,by omega,by omega,by omega,fun i h1=> ?_,hhi⟩
     rcases Nat.lt_or_eq_of_le (Nat.le_of_lt_succ h1) with z | z
     ·exact O.tr _ _ _ (u' _ _ z (by omega)) ht
     ·rw [z]; exact ht
  case ipost=>
   rintro c st'' ⟨rfl,p,r,rfl,hlk,hlo,hhi⟩
   show wpS _ _ _ _ (do moveDown' (lo+k) (lo+p); pure (ForInStep.yield (none,()))) _ _
   rw [moveDown'_eq]
   have hks:lo+k < (arrOf st'').size:=by rw [S'.size]; exact hk
   have at_:∀ j,gt (bubble (arrOf st'') (lo+k) (lo+k - (lo+p))) j=if j=lo+p then gt (arrOf st'') (lo+k) else if lo+p < j∧j≤lo+k then gt (arrOf st'') (j - 1) else gt (arrOf st'') j:=fun j=> by
    have:=vw hks (show lo+k - (lo+p)≤lo+k by omega) j
    rwa [show lo+k - (lo+k - (lo+p))=lo+p by omega] at this
   refine wpS_bind (wpS_modify (wpS_pure ⟨rfl,S'.arr (bubble_perm _ _ _),fun j hj=> ?_,?_⟩))
   ·show gt (bubble (arrOf st'') (lo+k) (lo+k - (lo+p))) j=_
    rw [at_,if_neg (by omega),if_neg (by omega)]
    exact k' j hj
   ·rw [show min (k+1) n=k+1 by omega]
    intro i j hij hj
    show R (gt (bubble (arrOf st'') (lo+k) (lo+k - (lo+p))) (lo+i)) (gt (bubble (arrOf st'') (lo+k) (lo+k - (lo+p))) (lo+j))=true
    rw [at_,at_]
    have sh:∀ q,lo+p < lo+q→lo+q - 1=lo+(q - 1):=fun q hq=> by omega
    by_cases a1:lo+i=lo+p
    ·rw [if_pos a1,if_neg (by omega),if_pos (by omega),sh j (by omega)]
     exact hhi _ (by omega) (by omega)
    ·rw [if_neg a1]
     by_cases a2:lo+p < lo+i∧lo+i≤lo+k
     ·rw [if_pos a2,if_neg (by omega),if_pos (by omega),sh i (by omega),sh j (by omega)]
      exact u' _ _ (by omega) (by omega)
     ·rw [if_neg a2]
      by_cases b1:lo+j=lo+p
      ·rw [if_pos b1]; exact hlo _ (by omega)
      ·rw [if_neg b1]
       by_cases b2:lo+p < lo+j∧lo+j≤lo+k
       ·rw [if_pos b2,sh j (by omega)]
        exact u' _ _ (by omega) (by omega)
       ·rw [if_neg b2]; exact u' _ _ hij (by omega)
end
end TS
namespace TS
open PySem PyProof.Rows
section
variable {prog:Program} {w:World} {A:Around} {E:Value→Shared→Prop} {s:Shared} {κ:SortKind} {P:Keyed→Prop} {R:Keyed→Keyed→Bool} {l:List Keyed} {pd:Array (Nat×Nat×Nat)}
theorem Up.more (tr:∀ x y z,R x y=true→R y z=true→R x z=true) {a:Array Keyed} {lo m:Nat} (S:Up R a lo m) (h1:1≤m) (h:R (gt a (lo+m - 1)) (gt a (lo+m))=true):Up R a lo (m+1):=fun i j hij hj=> by
 rcases Nat.lt_or_eq_of_le (Nat.le_of_lt_succ hj) with z | z
 ·exact S i j hij z
 ·subst z
  have e:lo+(j - 1)=lo+j - 1:=by omega
  rcases Nat.lt_or_eq_of_le (show i≤j - 1 by omega) with y | y
  ·have:=S i (j - 1) y (by omega)
   rw [e] at this
   exact tr _ _ _ this h
  ·subst y; rw [e]; exact h
theorem Dn.more (tr:∀ x y z,R x y=true→R y z=true→R x z=true) {a:Array Keyed} {lo m:Nat} (S:Dn R a lo m) (h1:1≤m) (h:R (gt a (lo+m)) (gt a (lo+m - 1))=true):Dn R a lo (m+1):=fun i j hij hj=> by
 rcases Nat.lt_or_eq_of_le (Nat.le_of_lt_succ hj) with z | z
 ·exact S i j hij z
 ·subst z
  have e:lo+(j - 1)=lo+j - 1:=by omega
  rcases Nat.lt_or_eq_of_le (show i≤j - 1 by omega) with y | y
  ·have:=S i (j - 1) y (by omega)
   rw [e] at this
   exact tr _ _ _ h this
  ·subst y; rw [e]; exact h
theorem rvs {i j:Nat} {Q:Unit→SortSt→Prop} {st:SortSt} (h:Q () (setArr st (mirror (arrOf st) i j ((j - i) / 2)))):wpS (model prog w) A E s (reverseSlice' i j) Q st:=by
 rw [reverseSlice'_eq]; exact wpS_modify h
variable (K:Asks prog w A E s κ P R)
include K
set_option maxHeartbeats 1000000 in
theorem cnt (O:Ord P R l) {lo nrem:Nat} {st:SortSt} {Q:Option Nat→SortSt→Prop} (hn:lo+nrem≤l.length) (h1:1≤nrem) (S:Stt κ l pd st)
  (h:∀ m st',Stt κ l pd st'→Kept (arrOf st) (arrOf st') lo→1≤m→m≤nrem→Up R (arrOf st') lo m→Q (some m) st'):wpS (model prog w) A E s (countRun' lo nrem) Q st:=by
 rw [countRun'_eq]
 dsimp only
 refine wpS_bind (wpS_mono (wpS_forRange (I:=fun x c st'=> st'=st∧c=(none,x)∧Up R (arrOf st) lo x) (Q:=fun c st'=> st'=st∧∃ n,c=(none,n)∧1≤n∧n≤nrem∧Up R (arrOf st) lo n∧(n < nrem→R (gt (arrOf st) (lo+n)) (gt (arrOf st) (lo+n - 1))=true)) ?s1 ?f1 ⟨rfl,rfl,fun i j h2 h3=> by omega⟩) ?p1)
 case s1=>
  rintro x c st' hx1 hx ⟨rfl,rfl,u⟩
  dsimp only
  refine wpS_bind (ltK K O S (show lo+x < l.length by omega) (show lo+x - 1 < l.length by omega) ?_)
  dsimp only
  by_cases hc:R (gt (arrOf st') (lo+x)) (gt (arrOf st') (lo+x - 1))=true
  ·rw [if_pos hc]
   exact wpS_pure ⟨rfl,x,rfl,hx1,by omega,u,fun _=> hc⟩
  ·rw [if_neg hc]
   exact wpS_pure ⟨rfl,rfl,u.more O.tr hx1 (S.tot O (by omega) (by omega) (by omega) (by simpa using hc))⟩
 case f1=>
  rintro c st' ⟨rfl,rfl,u⟩
  rw [show max 1 nrem=nrem by omega] at u ⊢
  exact ⟨rfl,nrem,rfl,h1,Nat.le_refl _,u,fun z=> by omega⟩
 case p1=>
  rintro c st' ⟨rfl,n,rfl,n1,n2,u,ht⟩
  dsimp only
  by_cases e:(n==nrem)=true
  ·rw [if_pos e]
   exact wpS_pure (h n _ S (fun _ _=> rfl) n1 n2 u)
  rw [if_neg e]
  have e':n < nrem:=by have z:¬ n=nrem:=(by simpa using e); omega
  by_cases hg:n > 1
  ·rw [if_pos hg]
   refine wpS_bind (ltK K O S (show lo < l.length by omega) (show lo+n - 1 < l.length by omega) ?_)
   dsimp only
   have z:=u 0 (n - 1) (by omega) (by omega)
   rw [Nat.add_zero,show lo+(n - 1)=lo+n - 1 by omega] at z
   rw [if_pos z]
   exact wpS_pure (h n _ S (fun _ _=> rfl) n1 n2 u)
  rw [if_neg hg]
  obtain rfl:n=1:=by omega
  have D2:Dn R (arrOf st') lo 2:=Dn.more O.tr (fun i j x y=> by omega) (Nat.le_refl _) (ht e')
  refine wpS_bind (ru ?_)
  try dsimp only
  refine wpS_bind (wpS_mono (wpS_forRange (I:=fun x c st2=> st2=st'∧c=(none,x,0)∧Dn R (arrOf st') lo x) (Q:=fun c st2=> st2=st'∧∃ n,c=(none,n,0)∧2≤n∧n≤nrem∧Dn R (arrOf st') lo n) ?s2 ?f2 ⟨rfl,rfl,D2⟩) ?p2)
  case s2=>
   rintro x c st2 hx1 hx ⟨rfl,rfl,u⟩
   dsimp only
   refine wpS_bind (ltK K O S (show lo+x < l.length by omega) (show lo+x - 1 < l.length by omega) ?_)
   dsimp only
   by_cases hc:R (gt (arrOf st2) (lo+x)) (gt (arrOf st2) (lo+x - 1))=true
   ·rw [if_pos hc,if_neg (by omega)]
    exact wpS_pure ⟨rfl,rfl,u.more O.tr (by omega) hc⟩
   ·rw [if_neg hc]
    refine wpS_bind (ltK K O S (show lo+x - 1 < l.length by omega) (show lo+x < l.length by omega) ?_)
    dsimp only
    rw [if_pos (S.tot O (by omega) (by omega) (by omega) (by simpa using hc))]
    exact wpS_pure ⟨rfl,x,rfl,hx1,by omega,u⟩
  case f2=>
   rintro c st2 ⟨rfl,rfl,u⟩
   rw [show max (1+1) nrem=nrem by omega] at u ⊢
   exact ⟨rfl,nrem,rfl,by omega,Nat.le_refl _,u⟩
  case p2=>
   rintro c st2 ⟨rfl,n,rfl,n1,n2,d⟩
   dsimp only
   rw [if_neg (by omega)]
   refine wpS_bind (rvs ?_)
   have sz:=S.size
   have S2:Stt κ l pd (setArr st2 (mirror (arrOf st2) lo (lo+n) ((lo+n - lo) / 2))):=S.arr (mirror_perm _ _ _ _)
   have kp:Kept (arrOf st2) (mirror (arrOf st2) lo (lo+n) ((lo+n - lo) / 2)) lo:=fun j hj=> by
    rw [kJ (by omega),if_neg (by omega)]
   have up:Up R (mirror (arrOf st2) lo (lo+n) ((lo+n - lo) / 2)) lo n:=fun i j hij hj=> by
    rw [kJ (by omega),kJ (by omega),if_pos (by omega),if_pos (by omega),show lo+(lo+n) - 1 - (lo+i)=lo+(n - 1 - i) by omega,show lo+(lo+n) - 1 - (lo+j)=lo+(n - 1 - j) by omega]
    exact d _ _ (by omega) (by omega)
   generalize hst:setArr st2 (mirror (arrOf st2) lo (lo+n) ((lo+n - lo) / 2))=st3 at S2 ⊢
   have ha:arrOf st3=mirror (arrOf st2) lo (lo+n) ((lo+n - lo) / 2):=by rw [← hst]
   rw [← ha] at kp up
   refine wpS_bind (wpS_mono (wpS_forRange (I:=fun x c st'=> st'=st3∧c=(none,x)∧Up R (arrOf st3) lo x) (Q:=fun c st'=> st'=st3∧∃ m,c=(none,m)∧1≤m∧m≤nrem∧Up R (arrOf st3) lo m) ?s3 ?f3 ⟨rfl,rfl,up⟩) ?p3)
   case s3=>
    rintro x c st' hx1 hx ⟨rfl,rfl,u⟩
    dsimp only
    refine wpS_bind (ltK K O S2 (show lo+x < l.length by omega) (show lo+x - 1 < l.length by omega) ?_)
    dsimp only
    by_cases hc:R (gt (arrOf st') (lo+x)) (gt (arrOf st') (lo+x - 1))=true
    ·rw [if_pos hc]
     exact wpS_pure ⟨rfl,x,rfl,by omega,by omega,u⟩
    ·rw [if_neg hc]
     exact wpS_pure ⟨rfl,rfl,u.more O.tr (by omega) (S2.tot O (by omega) (by omega) (by omega) (by simpa using hc))⟩
   case f3=>
    rintro c st' ⟨rfl,rfl,u⟩
    rw [show max n nrem=nrem by omega] at u ⊢
    exact ⟨rfl,nrem,rfl,h1,Nat.le_refl _,u⟩
   case p3=>
    rintro c st' ⟨rfl,m,rfl,m1,m2,u⟩
    exact wpS_pure (h m _ S2 kp m1 m2 u)
end
end TS
namespace TS
open PySem PyProof.Rows
section
variable {prog:Program} {w:World} {A:Around} {E:Value→Shared→Prop} {s:Shared} {κ:SortKind} {P:Keyed→Prop} {R:Keyed→Keyed→Bool} {l:List Keyed}
def Ch (R:Keyed→Keyed→Bool) (a:Array Keyed):List (Nat×Nat×Nat)→Nat→Nat→Prop
 | [],x,y=> x=y
 | r::t,x,y=> r.1=x∧0 < r.2.1∧Up R a x r.2.1∧Ch R a t (x+r.2.1) y
theorem Ch.len {a:Array Keyed}:∀ {p:List (Nat×Nat×Nat)} {x y:Nat},Ch R a p x y→x+p.length≤y
 | [],x,y,h=> by have:x=y:=h; simp; omega
 | r::t,x,y,h=> by
  have:=Ch.len h.2.2.2
  have:=h.2.1
  simp; omega
theorem Ch.app {a:Array Keyed}:∀ {p q:List (Nat×Nat×Nat)} {x y:Nat},Ch R a (p++q) x y↔∃ z,Ch R a p x z∧Ch R a q z y
 | [],q,x,y=> ⟨fun h=> ⟨x,rfl,h⟩,fun ⟨z,h1,h2⟩=> by have:x=z:=h1; subst this; exact h2⟩
 | r::t,q,x,y=> by
  constructor
  ·rintro ⟨h1,h2,h3,h4⟩
   obtain ⟨z,z1,z2⟩:=Ch.app.mp h4
   exact ⟨z,⟨h1,h2,h3,z1⟩,z2⟩
  ·rintro ⟨z,⟨h1,h2,h3,h4⟩,h5⟩
   exact ⟨h1,h2,h3,Ch.app.mpr ⟨z,h4,h5⟩⟩
theorem Ch.congr {a b:Array Keyed}:∀ {p:List (Nat×Nat×Nat)} {x y:Nat},(∀ j,x≤j→j < y→gt b j=gt a j)→Ch R a p x y→Ch R b p x y
 | [],x,y,_,h=> h
 | r::t,x,y,e,h=> by
  have:=Ch.len h.2.2.2
  refine ⟨h.1,h.2.1,fun i j hij hj=> ?_,Ch.congr (fun j h1 h2=> e j (by omega) h2) h.2.2.2⟩
  rw [e _ (by omega) (by omega),e _ (by omega) (by omega)]
  exact h.2.2.1 i j hij hj
theorem ny (a:Array Keyed) (j:Nat):gt a j=a.toList.getD j (Value.none,Value.none):=by simp [gt]
theorem wq {X Y:List Keyed} {j:Nat} {d:Keyed} (h:j < X.length):(X++Y).getD j d=X.getD j d:=by
 rw [List.getD_eq_getElem?_getD,List.getD_eq_getElem?_getD,List.getElem?_append_left h]
theorem sM {X Y:List Keyed} {j:Nat} {d:Keyed} (h:X.length≤j):(X++Y).getD j d=Y.getD (j - X.length) d:=by
 rw [List.getD_eq_getElem?_getD,List.getD_eq_getElem?_getD,List.getElem?_append_right h]
theorem u9 {α:Type} (X:List α) (r1 r2 v:α) (Y:List α):((X++r1::r2::Y).set X.length v).eraseIdx (X.length+1)=X++v::Y:=by
 rw [List.set_append_right _ _ (Nat.le_refl _),Nat.sub_self,List.eraseIdx_append_of_length_le (by omega),Nat.add_sub_cancel_left]
 rfl
theorem parts (L:List Keyed) (x y z:Nat):L=L.take x++(L.drop x).take y++(L.drop (x+y)).take z++L.drop (x+y+z):=by
 have h1:=List.take_append_drop x L
 have h2:=List.take_append_drop y (L.drop x)
 have h3:=List.take_append_drop z (L.drop (x+y))
 rw [List.drop_drop] at h2 h3
 rw [List.append_assoc,h3,List.append_assoc,h2,h1]
variable (K:Asks prog w A E s κ P R)
include K
theorem uI (O:Ord P R l) {p:Array (Nat×Nat×Nat)} {lo i:Nat} {st:SortSt} {Q:Bool→SortSt→Prop} (S:Stt κ l p st) (C:Ch R (arrOf st) p.toList 0 lo) (hlo:lo≤l.length) (hi:i+1 < p.size)
  (h:∀ p' st',Stt κ l p' st'→Ch R (arrOf st') p'.toList 0 lo→p'.size+1=p.size→(∀ j,lo≤j→gt (arrOf st') j=gt (arrOf st) j)→Q true st'):wpS (model prog w) A E s (mergeAt' i) Q st:=by
 have lp:p.toList.length=p.size:=by simp
 have hi0:i < p.size:=by omega
 have ep:p.toList=p.toList.take i++(p[i]::p[i+1]::p.toList.drop (i+2)):=by
  conv=> lhs; rw [← List.take_append_drop i p.toList,List.drop_eq_getElem_cons (show i < p.toList.length by omega),List.drop_eq_getElem_cons (show i+1 < p.toList.length by omega)]
  rfl
 have h1:(pendingOf st)[i]?=some (p[i].1,p[i].2.1,p[i].2.2):=by rw [S.pend,Array.getElem?_eq_getElem hi0]
 have h2:(pendingOf st)[i+1]?=some (p[i+1].1,p[i+1].2.1,p[i+1].2.2):=by rw [S.pend,Array.getElem?_eq_getElem hi]
 rw [ep] at C
 obtain ⟨sa,C1,e1,n1,u1,e2,n2,u2,C2⟩:=Ch.app.mp C
 have C2l:=C2.len
 generalize hp1:p[i]=r1 at *
 generalize hp2:p[i+1]=r2 at *
 obtain ⟨s1,na,pw⟩:=r1
 obtain ⟨sb,nb,pw2⟩:=r2
 dsimp only at *
 subst e1
 subst e2
 have sz:=S.size
 have la:(arrOf st).toList.length=l.length:=by rw [Array.length_toList,sz]
 have ha:=parts (arrOf st).toList s1 na nb
 have lX:((arrOf st).toList.take s1).length=s1:=by simp; omega
 have l1:(((arrOf st).toList.drop s1).take na).length=na:=by simp; omega
 have l2:(((arrOf st).toList.drop (s1+na)).take nb).length=nb:=by simp; omega
 have c1:∀ j (hj:j < (((arrOf st).toList.drop s1).take na).length),(((arrOf st).toList.drop s1).take na)[j]=gt (arrOf st) (s1+j):=fun j hj=> by
  rw [gt_eq (by omega)]; simp
 have c2:∀ j (hj:j < (((arrOf st).toList.drop (s1+na)).take nb).length),(((arrOf st).toList.drop (s1+na)).take nb)[j]=gt (arrOf st) (s1+na+j):=fun j hj=> by
  rw [gt_eq (by omega)]; simp
 generalize hX:(arrOf st).toList.take s1=X at *
 generalize hS1:((arrOf st).toList.drop s1).take na=S1 at *
 generalize hS2:((arrOf st).toList.drop (s1+na)).take nb=S2 at *
 generalize hY:(arrOf st).toList.drop (s1+na+nb)=Y at *
 have mem:∀ x∈S1++S2,x∈l:=fun x hx=> S.perm.mem_iff.mp (by
  rw [ha]
  rcases List.mem_append.mp hx with z | z <;> simp [z])
 have nd:(X++S1++S2++Y).Nodup:=by rw [← ha]; exact S.perm.nodup_iff.mpr O.nd
 have MO1:MO R S1 S2:=by
  refine ⟨O.tr,List.pairwise_iff_getElem.mpr fun i j hi hj hij=> ?_,List.pairwise_iff_getElem.mpr fun i j hi hj hij=> ?_,fun x hx y hy hr=> O.tot y (mem y (List.mem_append_right _ hy)) x (mem x (List.mem_append_left _ hx)) (fun e=> ?_) hr⟩
  ·rw [c1 i hi,c1 j hj]; exact u1 i j hij (by omega)
  ·rw [c2 i hi,c2 j hj]; exact u2 i j hij (by omega)
  ·have nd2:=(List.nodup_append.mp nd).1
   exact (List.nodup_append.mp nd2).2.2 x (List.mem_append_right _ hx) y hy e.symm
 refine mat K S.kind S.failed h1 h2 ha lX l1 l2 rfl n1 n2 (fun x hx=> O.hp x (mem x hx)) MO1 fun S' st' k f pd' ar m=> ?_
 have lS:S'.length=na+nb:=by rw [m.1.length_eq,List.length_append,l1,l2]
 have tl:(((pendingOf st).setIfInBounds i (s1,na+nb,pw)).eraseIdxIfInBounds (i+1)).toList=p.toList.take i++((s1,na+nb,pw)::p.toList.drop (i+2)):=by
  rw [S.pend]
  have z:((p.setIfInBounds i (s1,na+nb,pw)).eraseIdxIfInBounds (i+1)).toList=(p.toList.set i (s1,na+nb,pw)).eraseIdx (i+1):=by
   rw [Array.eraseIdxIfInBounds,dif_pos (by simpa using hi),Array.toList_eraseIdx,Array.toList_setIfInBounds]
  have li:(p.toList.take i).length=i:=by simp; omega
  have y:=u9 (p.toList.take i) (s1,na,pw) (s1+na,nb,pw2) (s1,na+nb,pw) (p.toList.drop (i+2))
  rw [← ep,li] at y
  rw [z,y]
 rw [← pd'] at tl
 refine h (pendingOf st') st' ⟨k,f,?_,rfl⟩ ?_ ?_ fun j hj=> ?_
 ·rw [ar]
  refine List.Perm.trans ?_ S.perm
  rw [ha]
  refine List.Perm.append_right _ ?_
  rw [List.append_assoc]
  exact List.Perm.append_left _ m.1
 ·rw [tl]
  refine Ch.app.mpr ⟨s1,C1.congr fun j h1 h2=> ?_,rfl,(by dsimp only; omega),fun x y hxy hy=> ?_,?_⟩
  ·rw [ny,ny,ar,ha]
   simp only [List.append_assoc]
   rw [wq (by omega),wq (by omega)]
  ·have q:∀ j (hj:j < S'.length),gt (arrOf st') (s1+j)=S'[j]:=fun j hj=> by
    rw [gt_eq (by rw [ar]; simp; omega)]
    simp only [ar]
    rw [List.getElem_append_left (by simp; omega),List.getElem_append_right (by omega)]
    congr 1; omega
   dsimp only at hy
   rw [q x (by omega),q y (by omega)]
   exact List.pairwise_iff_getElem.mp m.2 _ _ _ _ hxy
  ·dsimp only
   rw [← Nat.add_assoc]
   refine C2.congr fun j h1 h2=> ?_
   rw [ny,ny,ar,ha]
   rw [sM (by simp; omega),sM (by simp; omega)]
   congr 1
   simp; omega
 ·have:(pendingOf st').toList.length=_:=congrArg List.length tl
  simp at this
  omega
 ·rw [ny,ny,ar,ha]
  rw [sM (by simp; omega),sM (by simp; omega)]
  congr 1
  simp; omega
end
end TS
namespace TS
open PySem PyProof.Rows
section
variable {prog:Program} {w:World} {A:Around} {E:Value→Shared→Prop} {s:Shared} {κ:SortKind} {P:Keyed→Prop} {R:Keyed→Keyed→Bool} {l:List Keyed}
theorem ilt {c:Prop} [Decidable c] {a b n:Nat} (h1:a+1 < n) (h2:b+1 < n):(if c then a else b)+1 < n:=by split <;> assumption
theorem Ch.modL {a:Array Keyed} (pw:Nat):∀ {p:List (Nat×Nat×Nat)} (k:Nat) {x y:Nat},Ch R a p x y→Ch R a (p.modify k fun r=> (r.1,r.2.1,pw)) x y
 | [],k,x,y,h=> by rw [List.modify_nil]; exact h
 | r::t,0,x,y,h=> by rw [List.modify_zero_cons]; exact h
 | r::t,k+1,x,y,h=> by rw [List.modify_succ_cons]; exact ⟨h.1,h.2.1,h.2.2.1,Ch.modL pw k h.2.2.2⟩
theorem Ch.mod {a:Array Keyed} {p:Array (Nat×Nat×Nat)} {x y:Nat} (h:Ch R a p.toList x y) (pw k:Nat):Ch R a (p.modify k fun r=> (r.1,r.2.1,pw)).toList x y:=by
 rw [Array.toList_modify]; exact h.modL pw k
variable (K:Asks prog w A E s κ P R)
include K
set_option maxHeartbeats 2000000 in
theorem sruns (O:Ord P R l) {st:SortSt} {Q:Unit→SortSt→Prop} (S:Stt κ l #[] st) (h:∀ pd st',Stt κ l pd st'→Up R (arrOf st') 0 l.length→Q () st'):wpS (model prog w) A E s sortRuns' Q st:=by
 rw [sortRuns'_eq]
 refine wpS_bind (wpS_get ?_)
 try dsimp only
 simp only [S.size]
 generalize minRun' l.length l.length 0=mr
 refine wpS_bind (wpS_mono (wpS_forRange (I:=fun x c st'=> ∃ lo pd,c=(none,lo)∧Stt κ l pd st'∧Ch R (arrOf st') pd.toList 0 lo∧lo≤l.length∧x≤lo) (Q:=fun c st'=> ∃ pd,c=(none,l.length)∧Stt κ l pd st'∧Ch R (arrOf st') pd.toList 0 l.length) ?step ?fin ⟨0,#[],rfl,S,rfl,Nat.zero_le _,Nat.zero_le _⟩) ?post)
 case fin=>
  rintro c st' ⟨lo,pd,rfl,S',C,hlo,px⟩
  obtain rfl:lo=l.length:=by omega
  exact ⟨pd,rfl,S',C⟩
 case step=>
  rintro x c st' _ hx ⟨lo,pd,rfl,S',C,hlo,px⟩
  try dsimp only
  by_cases hge:lo ≥ l.length
  ·rw [if_pos hge]
   obtain rfl:lo=l.length:=by omega
   exact wpS_pure ⟨pd,rfl,S',C⟩
  rw [if_neg hge]
  refine wpS_bind (cnt K O (show lo+(l.length - lo)≤l.length by omega) (by omega) S' fun m st2 S2 kp m1 m2 u=> ?_)
  try dsimp only
  have C2:Ch R (arrOf st2) pd.toList 0 lo:=C.congr fun j _ hj=> kp j hj
  by_cases hm:m < mr
  ·rw [if_pos hm]
   refine wpS_bind (ru ?_)
   refine wpS_bind (wR K O (show lo+min (l.length - lo) mr≤l.length by omega) (show m≤min (l.length - lo) mr by omega) S2 u fun st3 S3 k3 u3=> ?_)
   simp only [Bool.not_true,Bool.false_eq_true,if_false]
   have C3:Ch R (arrOf st3) pd.toList 0 lo:=C2.congr fun j _ hj=> k3 j hj
   have f1:0 < min (l.length - lo) mr:=by omega
   have f2:min (l.length - lo) mr≤l.length - lo:=by omega
   generalize min (l.length - lo) mr=nn at *
   refine wpS_bind (wpS_get ?_)
   have hp:pendingOf st3=pd:=S3.pend
   rw [hp]
   cases hb:pd.back? with
   | none=>
    try dsimp only
    refine wpS_bind (wpS_modify (wpS_pure ⟨lo+nn,pd.push (lo,nn,0),rfl,?_,?_,by omega,by omega⟩))
    ·exact ⟨S3.kind,S3.failed,S3.perm,by show (pendingOf st3).push _=_; rw [hp]⟩
    ·rw [Array.toList_push]
     exact Ch.app.mpr ⟨lo,C3,rfl,f1,u3,rfl⟩
   | some v=>
    obtain ⟨s1,n1,pw0⟩:=v
    try dsimp only
    generalize power' _ _ _ _=pw
    refine wpS_bind (wpS_mono (wpS_forRange (I:=fun _ c st'=> ∃ pd,c=(none,())∧Stt κ l pd st'∧Ch R (arrOf st') pd.toList 0 lo∧Up R (arrOf st') lo (nn)) (Q:=fun c st'=> ∃ pd,c=(none,())∧Stt κ l pd st'∧Ch R (arrOf st') pd.toList 0 lo∧Up R (arrOf st') lo (nn)) ?_ (fun _ _ z=> z) ⟨pd,rfl,S3,C3,u3⟩) ?_)
    ·rintro y c st4 _ hy ⟨pd,rfl,S4,C4,u4⟩
     try dsimp only
     refine wpS_bind (wpS_get ?_)
     rw [S4.pend]
     by_cases hs:pd.size > 1
     ·rw [if_pos hs,Array.getElem?_eq_getElem (show pd.size - 2 < pd.size by omega)]
      generalize pd[pd.size - 2]=q
      obtain ⟨q1,q2,q3⟩:=q
      try dsimp only
      by_cases ho:q3≤pw
      ·rw [if_pos ho]
       exact wpS_pure ⟨pd,rfl,S4,C4,u4⟩
      ·rw [if_neg ho]
       refine wpS_bind (uI K O S4 C4 hlo (show pd.size - 2+1 < pd.size by omega) fun p' st5 S5 C5 _ k5=> ?_)
       simp only [Bool.not_true,Bool.false_eq_true,if_false]
       exact wpS_pure ⟨p',rfl,S5,C5,fun i j hij hj=> by rw [k5 _ (by omega),k5 _ (by omega)]; exact u4 i j hij hj⟩
     ·rw [if_neg hs]
      exact wpS_pure ⟨pd,rfl,S4,C4,u4⟩
    ·rintro c st4 ⟨pd,rfl,S4,C4,u4⟩
     try dsimp only
     have hp4:=S4.pend
     refine wpS_bind (wpS_modify ?_)
     refine wpS_bind (wpS_modify (wpS_pure ⟨lo+nn,(pd.modify (pd.size - 1) fun r=> (r.1,r.2.1,pw)).push (lo,nn,0),rfl,?_,?_,by omega,by omega⟩))
     ·refine ⟨S4.kind,S4.failed,S4.perm,?_⟩
      show ((pendingOf st4).modify ((pendingOf st4).size - 1) fun r=> (r.1,r.2.1,pw)).push _=_
      rw [hp4]
     ·rw [Array.toList_push]
      exact Ch.app.mpr ⟨lo,C4.mod pw _,rfl,f1,u4,rfl⟩
  ·rw [if_neg hm]
   refine wpS_bind (wpS_get ?_)
   have hp:pendingOf st2=pd:=S2.pend
   rw [hp]
   cases hb:pd.back? with
   | none=>
    try dsimp only
    refine wpS_bind (wpS_modify (wpS_pure ⟨lo+m,pd.push (lo,m,0),rfl,?_,?_,by omega,by omega⟩))
    ·exact ⟨S2.kind,S2.failed,S2.perm,by show (pendingOf st2).push _=_; rw [hp]⟩
    ·rw [Array.toList_push]
     exact Ch.app.mpr ⟨lo,C2,rfl,(show 0 < m by omega),u,rfl⟩
   | some v=>
    obtain ⟨s1,n1,pw0⟩:=v
    try dsimp only
    generalize power' _ _ _ _=pw
    refine wpS_bind (wpS_mono (wpS_forRange (I:=fun _ c st'=> ∃ pd,c=(none,())∧Stt κ l pd st'∧Ch R (arrOf st') pd.toList 0 lo∧Up R (arrOf st') lo (m)) (Q:=fun c st'=> ∃ pd,c=(none,())∧Stt κ l pd st'∧Ch R (arrOf st') pd.toList 0 lo∧Up R (arrOf st') lo (m)) ?_ (fun _ _ z=> z) ⟨pd,rfl,S2,C2,u⟩) ?_)
    ·rintro y c st4 _ hy ⟨pd,rfl,S4,C4,u4⟩
     try dsimp only
     refine wpS_bind (wpS_get ?_)
     rw [S4.pend]
     by_cases hs:pd.size > 1
     ·rw [if_pos hs,Array.getElem?_eq_getElem (show pd.size - 2 < pd.size by omega)]
      generalize pd[pd.size - 2]=q
      obtain ⟨q1,q2,q3⟩:=q
      try dsimp only
      by_cases ho:q3≤pw
      ·rw [if_pos ho]
       exact wpS_pure ⟨pd,rfl,S4,C4,u4⟩
      ·rw [if_neg ho]
       refine wpS_bind (uI K O S4 C4 hlo (show pd.size - 2+1 < pd.size by omega) fun p' st5 S5 C5 _ k5=> ?_)
       simp only [Bool.not_true,Bool.false_eq_true,if_false]
       exact wpS_pure ⟨p',rfl,S5,C5,fun i j hij hj=> by rw [k5 _ (by omega),k5 _ (by omega)]; exact u4 i j hij hj⟩
     ·rw [if_neg hs]
      exact wpS_pure ⟨pd,rfl,S4,C4,u4⟩
    ·rintro c st4 ⟨pd,rfl,S4,C4,u4⟩
     try dsimp only
     have hp4:=S4.pend
     refine wpS_bind (wpS_modify ?_)
     refine wpS_bind (wpS_modify (wpS_pure ⟨lo+m,(pd.modify (pd.size - 1) fun r=> (r.1,r.2.1,pw)).push (lo,m,0),rfl,?_,?_,by omega,by omega⟩))
     ·refine ⟨S4.kind,S4.failed,S4.perm,?_⟩
      show ((pendingOf st4).modify ((pendingOf st4).size - 1) fun r=> (r.1,r.2.1,pw)).push _=_
      rw [hp4]
     ·rw [Array.toList_push]
      exact Ch.app.mpr ⟨lo,C4.mod pw _,rfl,(show 0 < m by omega),u4,rfl⟩
 case post=>
  rintro c st' ⟨pd,rfl,S',C⟩
  try dsimp only
  refine wpS_bind (wpS_mono (wpS_forRange (I:=fun x c st'=> ∃ pd,c=(none,())∧Stt κ l pd st'∧Ch R (arrOf st') pd.toList 0 l.length∧(pd.size≤1∨pd.size≤l.length - x)) (Q:=fun c st'=> ∃ pd,c=(none,())∧Stt κ l pd st'∧Ch R (arrOf st') pd.toList 0 l.length∧pd.size≤1) ?s2 ?f2 ⟨pd,rfl,S',C,.inr (by have:=C.len; rw [Array.length_toList] at this; omega)⟩) ?p2)
  case s2=>
   rintro y c st4 _ hy ⟨pd,rfl,S4,C4,hs⟩
   try dsimp only
   refine wpS_bind (wpS_get ?_)
   rw [S4.pend]
   by_cases h1:pd.size≤1
   ·rw [if_pos h1]
    exact wpS_pure ⟨pd,rfl,S4,C4,h1⟩
   ·rw [if_neg h1]
    refine wpS_bind (uI K O S4 C4 (Nat.le_refl _) (ilt (by omega) (by omega)) fun p' st5 S5 C5 e5 k5=> ?_)
    simp only [Bool.not_true,Bool.false_eq_true,if_false]
    exact wpS_pure ⟨p',rfl,S5,C5,by omega⟩
  case f2=>
   rintro c st4 ⟨pd,rfl,S4,C4,hs⟩
   exact ⟨pd,rfl,S4,C4,by omega⟩
  case p2=>
   rintro c st4 ⟨pd,rfl,S4,C4,h1⟩
   refine wpS_pure (h pd st4 S4 ?_)
   rw [← Array.length_toList] at h1
   generalize pd.toList=L at *
   cases L with
   | nil=> have:0=l.length:=C4
           intro i j hij hj; omega
   | cons r t=>
    cases t with
    | nil=>
     obtain ⟨_,_,u,e⟩:=C4
     have e':0+r.2.1=l.length:=e
     rw [Nat.zero_add] at e'
     rw [← e']; exact u
    | cons r2 t=> simp at h1
end
end TS
namespace ST
open PySem PySem.W PyProof.Rows
theorem wf {α β:Type} {f:α→β}:∀ {l1 l2:List β},l1.Perm l2→∀ l:List α,l2=l.map f→∃ l':List α,l'.Perm l∧l'.map f=l1:=by
 intro l1 l2 h
 induction h with
 | nil=> intro l e; exact ⟨l,.refl _,e.symm⟩
 | cons x _ ih=>
  intro l e
  cases l with
  | nil=> cases e
  | cons a t=>
   obtain ⟨e1,e2⟩:=List.cons.inj e
   obtain ⟨l',p,q⟩:=ih t e2
   exact ⟨a::l',p.cons a,by rw [List.map_cons,q,e1]⟩
 | swap x y r=>
  intro l e
  match l,e with
  | a::b::t,e=>
   obtain ⟨e1,e2⟩:=List.cons.inj e
   obtain ⟨e3,e4⟩:=List.cons.inj e2
   exact ⟨b::a::t,.swap a b t,by rw [List.map_cons,List.map_cons,e1,e3,e4]⟩
 | trans _ _ ih1 ih2=>
  intro l e
  obtain ⟨l',p,q⟩:=ih2 l e
  obtain ⟨l'',p2,q2⟩:=ih1 l' q.symm
  exact ⟨l'',p2.trans p,q2⟩
abbrev ky (p:(Int×Int)×Addr):Keyed:=(Value.ref p.2,Value.ref p.2)
open Classical in
noncomputable def RP (pb:PB) (x y:Keyed):Bool:=decide (∃ p∈pb,∃ q∈pb,x=ky p∧y=ky q∧ltP p.1 q.1=true)
theorem gW {pb:PB} {x y:Keyed}:RP pb x y=true↔∃ p∈pb,∃ q∈pb,x=ky p∧y=ky q∧ltP p.1 q.1=true:=by unfold RP; exact decide_eq_true_iff
theorem ut {p q:(Int×Int)×Addr} (h:ky p=ky q):p.2=q.2:=by
 have:=(Prod.mk.inj h).1
 injection this
section
variable {prog:Program} {w:World} {A:Around} {E:Value→Shared→Prop} {s:Shared}
theorem TK.det {h:Heap} {p q:(Int×Int)×Addr} (hp:TK prog w h [p.1.1,p.1.2] p.2) (hq:TK prog w h [q.1.1,q.1.2] q.2) (e:p.2=q.2):p=q:=by
 obtain ⟨o,its,n,t,u,ho,_,hd,hi⟩:=hp.two
 obtain ⟨o',its',n',t',u',ho',_,hd',hi'⟩:=hq.two
 rw [e,ho'] at ho
 cases ho
 rw [hd'] at hd
 cases hd
 rw [hi'] at hi
 have h1:=(List.cons.inj hi).1
 have h2:=(List.cons.inj (List.cons.inj hi).2).1
 injection h1 with h1 _
 injection h2 with h2 _
 exact Prod.ext (Prod.ext h1.symm h2.symm) e
set_option maxHeartbeats 1000000 in
theorem nL {a:Addr} {pb:PB} {n:Nat} {P:PySem.Fin→Shared→Prop} (ho:s.heap.get? a=some (seqObj "list" (refs pb).toArray n)) (htk:∀ p∈pb,TK prog w s.heap [p.1.1,p.1.2] p.2) (hnd:(pb.map (·.1)).Nodup) (hsz:pb.length≤sizeLine)
  (h:∀ pb':PB,pb'.Perm pb→(pb'.map (·.1)).Pairwise (fun x y=> ltP x y=true)→P (.done (.ret .none)) { s with heap:=sortedHeap s.heap a (refs pb) (refs pb').toArray }):
  wpAny (model prog w) A (Builtin.«list.sort» ⟨[.ref a],[]⟩) P E s:=by
 have hvl:(refs pb).length=pb.length:=by simp
 have hva:(refs pb).toArray.size=pb.length:=by simp
 rw [list_sort_plain]
 have ha:a < s.heap.objs.size:=Heap.lt_size ho
 refine wpAny_bind (listItems_at ho rfl (wpAny_bind (listUpdate_at ho rfl ?_ (by rw [hva]; exact hsz) (Nat.zero_le _))))
 obtain ⟨e1,ho1⟩:∃ e1,(s.heap.update a (Obj.mapSeq fun _=> (#[]:Array Value))).get? a=some (seqObj "list" #[] e1):=⟨_,get?_update_seq ho (fun _=> #[])⟩
 refine wpAny_bind (seqEpoch_at ho1 rfl (wpAny_bind (wpAny_newTuple ?_ (by show (refs pb).length≤_; rw [hvl]; exact hsz))))
 refine wpAny_bind (wpAny_newList ?_ (Nat.zero_le _))
 refine wpAny_holding ?_
 generalize hh6:((s.heap.update a (Obj.mapSeq fun _=> (#[]:Array Value))).push (seqObj "tuple" (refs pb).toArray 0)).push (seqObj "list" #[] 0)=h6
 have old6:∀ b o,b≠a→s.heap.get? b=some o→h6.get? b=some o:=fun b o hb e=> by
  rw [← hh6]
  exact Heap.get?_push_of_some _ (Heap.get?_push_of_some _ ((Heap.get?_update_other _ _ (Ne.symm hb)).trans e))
 have ho6:h6.get? a=some (seqObj "list" #[] e1):=by rw [← hh6]; exact Heap.get?_push_of_some _ (Heap.get?_push_of_some _ ho1)
 have tk6:∀ p∈pb,TK prog w h6 [p.1.1,p.1.2] p.2:=fun p hp=> by
  obtain ⟨o,its,k,hop,hc,r⟩:=htk p hp
  refine ⟨o,its,k,old6 p.2 o (fun z=> ?_) hop,hc,r⟩
  rw [z,ho] at hop
  cases hop
  exact absurd hc (by show ¬ (Value.type "list"=Value.type "tuple"); decide)
 have fin:∀ pb':PB,pb'.Perm pb→(pb'.map (·.1)).Pairwise (fun x y=> ltP x y=true)→P (.done (.ret .none)) { s with heap:=h6.update a (Obj.mapSeq fun _=> (refs pb').toArray) }:=fun pb' p1 p2=> by
  rw [← hh6]; exact h pb' p1 p2
 show wpAny (model prog w) A _ P E { s with heap:=h6 }
 dsimp only
 by_cases h2:(refs pb).toArray.size < 2
 ·rw [if_pos h2,if_pos h2]
  refine wpAny_bind (wpAny_pure ?_)
  rw [StateT.run_pure]
  refine wpAny_bind (wpAny_pure ?_)
  dsimp only
  have eout:(arrOf (SortSt.mk' general' ((refs pb).toArray.zip (refs pb).toArray) #[] 7 none)).map (·.2)=(refs pb).toArray:=by
   show (((refs pb).toArray.zip (refs pb).toArray)).map (·.2)=_
   apply Array.toList_inj.mp
   have zip2:∀ l:List Value,(l.zip l).map (·.2)=l:=fun l=> by
    induction l with
    | nil=> rfl
    | cons x r ih=> rw [List.zip_cons_cons,List.map_cons,ih]
   rw [Array.toList_map,Array.toList_zip]
   exact zip2 _
  rw [eout]
  refine wpAny_bind (seqEpoch_at ho6 rfl (wpAny_bind (listUpdate_at ho6 rfl ?_ (Nat.zero_le _) (by rw [hva]; exact Nat.le_succ_of_le hsz))))
  show wpAny _ _ (if (e1 !=e1)=true then _ else _) _ _ _
  rw [if_neg (by simp)]
  refine wpAny_pure (fin pb (List.Perm.refl _) ?_)
  match pb,hva,h2 with
  | [],_,_=> simp
  | [_],_,_=> simp
  | _::_::r,hva,h2=> rw [hva] at h2; exact absurd h2 (by simp)
 ·rw [if_neg h2,if_neg h2]
  rw [hva] at h2
  have h2':2≤(refs pb).length:=by rw [hvl]; omega
  refine wpAny_bind (jC (s:={ s with heap:=h6 }) tk6 (by omega) ?_)
  have one:∀ p∈pb,∀ q∈pb,ky p=ky q→p=q:=fun p hp q hq e=> TK.det (tk6 p hp) (tk6 q hq) (ut e)
  have val:∀ p∈pb,∀ q∈pb,RP pb (ky p) (ky q)=ltP p.1 q.1:=fun p hp q hq=> by
   cases hl:ltP p.1 q.1 with
   | true=> exact gW.mpr ⟨p,hp,q,hq,rfl,rfl,hl⟩
   | false=>
    cases hr:RP pb (ky p) (ky q) with
    | false=> rfl
    | true=>
     obtain ⟨p',hp',q',hq',e1,e2,z⟩:=gW.mp hr
     rw [← one p hp p' hp' e1,← one q hq q' hq' e2,hl] at z
     cases z
  have asks:TS.Asks prog w A E { s with heap:=h6 } (tuples' true) (fun x=> ∃ p∈pb,x=ky p) (RP pb):=by
   rintro x y st Q ⟨p,hp,rfl⟩ ⟨q,hq,rfl⟩ hk hQ
   rw [lt'_eq]
   refine wpS_bind (wpS_get ?_)
   rw [hk]
   rw [val p hp q hq] at hQ
   refine wpS_bind (wpS_lift (wpAny_attempt (pG (tk6 p hp) (tk6 q hq) ⟨rfl,?_⟩)))
   exact wpS_pure hQ
  have ord:TS.Ord (fun x=> ∃ p∈pb,x=ky p) (RP pb) (pb.map ky):=by
   refine ⟨fun x y z h1 h2=> ?_,fun x hx y hy hne hr=> ?_,?_,fun x hx=> ?_⟩
   ·obtain ⟨p,hp,q,hq,rfl,rfl,z1⟩:=gW.mp h1
    obtain ⟨q',hq',r,hr,e,rfl,z2⟩:=gW.mp h2
    rw [← one q hq q' hq' e] at z2
    exact gW.mpr ⟨p,hp,r,hr,rfl,rfl,lw z1 z2⟩
   ·obtain ⟨p,hp,rfl⟩:=List.mem_map.mp hx
    obtain ⟨q,hq,rfl⟩:=List.mem_map.mp hy
    rw [val p hp q hq] at hr
    rw [val q hq p hp]
    refine jv (fun e=> hne ?_) hr
    obtain ⟨i,hi,rfl⟩:=List.getElem_of_mem hp
    obtain ⟨j,hj,rfl⟩:=List.getElem_of_mem hq
    have:i=j:=(List.getElem_inj (xs:=pb.map (·.1)) (h₀:=by simpa using hi) (h₁:=by simpa using hj) hnd).mp (by simpa using e)
    subst this; rfl
   ·have ndp:pb.Nodup:=(List.pairwise_map.mp hnd).imp fun h e=> h (congrArg _ e)
    refine List.pairwise_map.mpr (List.Pairwise.imp_of_mem (fun hp hq hne e=> hne (one _ hp _ hq e)) ndp)
   ·obtain ⟨p,hp,rfl⟩:=List.mem_map.mp hx
    exact ⟨p,hp,rfl⟩
  have stt:TS.Stt (tuples' true) (pb.map ky) #[] (SortSt.mk' (tuples' true) ((refs pb).toArray.zip (refs pb).toArray) #[] 7 none):=by
   refine ⟨rfl,rfl,?_,rfl⟩
   have e:(arrOf (SortSt.mk' (tuples' true) ((refs pb).toArray.zip (refs pb).toArray) #[] 7 none)).toList=pb.map ky:=by
    show ((refs pb).toArray.zip (refs pb).toArray).toList=_
    rw [Array.toList_zip]
    show (pb.map _).zip (pb.map _)=_
    rw [List.zip_map']
   rw [e]
  refine wpAny_bind (wpAny_mono (TS.sruns asks ord (Q:=fun _ st'=> failedOf st'=none∧∃ pb':PB,pb'.Perm pb∧(pb'.map (·.1)).Pairwise (fun x y=> ltP x y=true)∧(arrOf st').map (·.2)=(refs pb').toArray) stt fun pd st' S' up=> ?_) ?_ fun _ _ e=> e)
  ·refine ⟨S'.failed,?_⟩
   obtain ⟨pb',p1,p2⟩:=wf S'.perm pb rfl
   refine ⟨pb',p1,?_,?_⟩
   ·refine List.pairwise_map.mpr (List.pairwise_iff_getElem.mpr fun i j hi hj hij=> ?_)
    have lp:=p1.length_eq
    have u:=up i j hij (by rw [List.length_map]; omega)
    rw [Nat.zero_add,Nat.zero_add,TS.gt_eq (by rw [← p2,List.length_map]; exact hi),TS.gt_eq (by rw [← p2,List.length_map]; exact hj)] at u
    simp only [← p2,List.getElem_map] at u
    rw [val _ (p1.mem_iff.mp (List.getElem_mem hi)) _ (p1.mem_iff.mp (List.getElem_mem hj))] at u
    exact u
   ·apply Array.toList_inj.mp
    rw [Array.toList_map,← p2,List.map_map]
    rfl
  ·rintro ⟨⟨⟩,st'⟩ s' ⟨rfl,hf,pb',p1,p2,hout⟩
   dsimp only at hf hout ⊢
   rw [hout]
   have hs2:(refs pb').toArray.size=pb.length:=by simp [p1.length_eq]
   refine wpAny_bind (seqEpoch_at ho6 rfl (wpAny_bind (listUpdate_at ho6 rfl ?_ (Nat.zero_le _) (by rw [hs2]; exact Nat.le_succ_of_le hsz))))
   rw [hf]
   show wpAny _ _ (if (e1 !=e1)=true then _ else _) _ _ _
   rw [if_neg (by simp)]
   exact wpAny_pure (fin _ p1 p2)
end
end ST
namespace ST
open PySem PySem.W PyProof.Rows PySem.Calls
section
variable {prog:Program} {w:World} {A:Around} {E:Value→Shared→Prop} {s:Shared}
end
end ST
namespace L2
open PySem PySem.Spec PyProof.Rows
section
variable {X:Cx} {H0:Hp} {O0:List Addr} {ps:PSt} {e:Expr} {pts:List P2} {pos pos' p p':Pos}
end
end L2
namespace L2
open PySem PySem.Spec PyProof.Rows
section
variable {X:Cx} {tg:Expr}
def uP (ta:TA):TI:=fun σ H R=> ta σ H fun vs H1=> ∃ j:Int,vs=[.int j]∧R (Itr 0 (j - 0).toNat) H1
theorem lh {a:Expr} {ta:TA} {p pos:Pos} (hg:Gl X "range") (hm:X.mg "range"=none) (ha:PA X [a] ta) (hs:starEach [a] X.env=[(false,eval a X.env)]:=by rfl):
  PI X tg (.Call (.Name "range" p) [a] [] pos) (uP ta):=by
 intro pins s σ H R I h
 refine Call_ (cj I hg hm boot_range (PyProof.Rows.callWith_type1 (thn (ha pos pins s σ H _ I h) fun us s1 ⟨vs,H1,I1,r1,q1⟩=> ?_) (by rw [hs]; rfl) rfl))
 obtain ⟨j,e,q⟩:=q1
 subst e
 cases r1 with
 | cons r rr=>
  cases rr
  obtain ⟨t,rfl⟩:=r
  exact call_range_1 (iu I1 q)
variable {H0:Hp} {O0:List Addr} {ps:PSt} {a:Expr} {p pos:Pos}
theorem og {j:Int} (hg:Gl X "range") (hm:X.mg "range"=none) (ha:EvA X H0 O0 ps [a] [.int j]) (hs:starEach [a] X.env=[(false,eval a X.env)]:=by rfl):
  EvI X H0 O0 ps tg (.Call (.Name "range" p) [a] [] pos) (cQ 0 (j - 0).toNat):=
 PI.mono (lh hg hm ha hs) fun σ H Q ⟨O,R,q⟩=> ⟨O,R,fun vs H' s r=> by
  obtain ⟨v,rfl,h⟩:=bY r
  cases h
  exact ⟨j,rfl,q _ H' s gU⟩⟩
end
end L2
namespace ST
open PySem PySem.W PySem.Calls PyProof.Rows
section
variable {prog:Program} {w:World} {A:Around} {E:Value→Shared→Prop} {s:Shared}
theorem call_sortedLB {l:Addr} {pb:PB} {Q:Value→Shared→Prop} (hl:s.heap.IsList l (refs pb).toArray) (htk:∀ p∈pb,TK prog w s.heap [p.1.1,p.1.2] p.2) (hnd:(pb.map (·.1)).Nodup) (h64:pb.length < 1000)
  (h:∀ (h1 h':Heap) (tk:Nat) (pb':PB) (e:Nat),pb'.Perm pb→(pb'.map (·.1)).Pairwise (fun x y=> ltP x y=true)→(∀ c o,s.heap.get? c=some o→h1.get? c=some o)→(∀ c o,h1.get? c=some o→h'.get? c=some o)→h'.get? h1.objs.size=some (seqObj "list" (refs pb').toArray e)→Q (.ref h1.objs.size) { s with heap:=h',toks:=tk }):
  wpAny (model prog w) A (call (.builtin "sorted") [.ref l]) Q E s:=by
 have hrl:(refs pb).length=pb.length:=by simp
 refine Calls.call_function_entry kind_sorted plain_sorted entry_sorted (args_sorted1 _) ?_
 unfold Builtin.«sorted»
 refine wpAny_bind (m:=checkCount "sorted" 1 1 _) (wpAny_pure ?_)
 refine wpAny_bind (collect_list hl ?_ (by rw [hrl,sizeLine_eq]; omega))
 refine wpAny_bind (wpAny_newList ?_ (by rw [hrl,sizeLine_eq]; omega))
 generalize hg:(s.heap.push (seqObj "list" #[] 0)).update s.heap.objs.size (Obj.mapSeq (·++(refs pb).toArray))=h1
 have keep:∀ c o,s.heap.get? c=some o→h1.get? c=some o:=fun c o e=> by
  rw [← hg,Heap.get?_update_other _ _ (Nat.ne_of_gt (Heap.lt_size e))]
  exact Heap.get?_push_of_some _ e
 have hD:(h1.push { cls:=.type "list",data:=.seq (refs pb).toArray }).get? h1.objs.size=some (seqObj "list" (refs pb).toArray 0):=Heap.get?_push_size _ rfl
 have up:∀ p∈pb,TK prog w (h1.push { cls:=.type "list",data:=.seq (refs pb).toArray }) [p.1.1,p.1.2] p.2:=fun p hp=> by
  obtain ⟨o,its,n,ho,r⟩:=htk p hp
  exact ⟨o,its,n,Heap.get?_push_of_some _ (keep _ _ ho),r⟩
 refine wpAny_bind (wpAny_holding (wpAny_call_entry slot_list_sort ⟨_,hD,rfl⟩ entry_list_sort ?_ (args_list_sort _)))
 refine nL (s:={ s with heap:=h1.push { cls:=.type "list",data:=.seq (refs pb).toArray } }) hD up hnd (by rw [sizeLine_eq]; omega) fun pb' pp so=> ⟨_,rfl,wpAny_pure ⟨_,rfl,?_⟩⟩
 obtain ⟨e,eD⟩:=sortedHeap_at (out:=(refs pb').toArray) hD
 refine h h1 _ s.toks pb' e pp so keep (fun c o hb=> ?_) eD
 have hlt:=Heap.lt_size hb
 rw [sortedHeap_old (Nat.ne_of_lt hlt) (by rw [Heap.size_push]; exact Nat.lt_succ_of_lt hlt)]
 exact Heap.get?_push_of_some _ hb
end
end ST
namespace L2
open PySem PySem.Spec PyProof.Rows
section
variable {X:Cx} {H0:Hp} {O0:List Addr} {ps:PSt} {e:Expr} {pts:List P2} {pos p:Pos}
set_option maxHeartbeats 1000000 in
theorem jQ (hg:Gl X "sorted") (hm:X.mg "sorted"=none) (ha:Ev X H0 O0 ps e (lp pts)) (hl:pts.length < 1000∧pts.Nodup)
  (he:starEach [e] X.env=(false,eval e X.env)::starEach [] X.env:=by rfl):EvN X H0 O0 ps (.Call (.Name "sorted" p) [e] [] pos) ((ST.srt pts).map pu):=by
 obtain ⟨hl,hn⟩:=hl
 rintro pins s σ H Q I ⟨O,R,q⟩
 refine wpAny_Call_Name_kw (cj I hg hm boot_sorted ?_)
 refine callWith_builtin1 (e:=e) (rest:=[]) (thn (bn ha cR he pos pins s σ H (fun vs H1=> ∃ v,vs=[v]∧aB H H1∧Rp X.K (hid H1 O) v (lp pts)) I ⟨O,R,fun v H1 s1 r1=> ⟨v,rfl,s1,r1⟩⟩) fun us s1 hx=> ?_) he rfl
 obtain ⟨vs,H1,I1,rv,v,rfl,sm,rp⟩:=hx
 obtain ⟨u,rfl,ru⟩:=dy rv
 cases rp with
 | @lst a ws _ hq hwl hwi=>
  cases ru
  obtain ⟨its,rw',pl,hz⟩:=I1.list (SqL.of (av _ _ hq))
  have hlp:ws.length=pts.length:=by rw [hwl,List.length_map]
  have hil:its.length=pts.length:=by rw [← rw'.length,hlp]
  have item:∀ i,i < pts.length→∃ b,its[i]?=some (.ref b)∧Rp X.K (hid H1 O) (.ref b) (pu (pts.getD i (0,0)))∧ST.TK X.prog X.w s1.heap [(pts.getD i (0,0)).1,(pts.getD i (0,0)).2] b:=fun i hi=> by
   have hw:ws[i]?=some ws[i]:=List.getElem?_eq_getElem (by omega)
   have hp:(pts.map pu)[i]?=some (pu (pts.getD i (0,0))):=by rw [List.getElem?_map,List.getElem?_eq_getElem hi]; simp [hi]
   have r:=hwi i _ _ hw hp
   obtain ⟨u',e1,e2⟩:=rw'.get hw
   obtain ⟨b,rfl,tb⟩:=qH I1 (r.same av) e2
   have ez:ws[i]=.ref b:=by
    generalize ws[i]=z at r e2
    cases r; cases e2; rfl
   rw [ez] at r
   exact ⟨b,e1,r,tb _ _⟩
  let ad:Nat→Addr:=fun i=> match its[i]? with | some (.ref b)=> b | _=> 0
  have adE:∀ i,i < pts.length→its[i]?=some (.ref (ad i))∧Rp X.K (hid H1 O) (.ref (ad i)) (pu (pts.getD i (0,0)))∧ST.TK X.prog X.w s1.heap [(pts.getD i (0,0)).1,(pts.getD i (0,0)).2] (ad i):=fun i hi=> by
   obtain ⟨b,e1,e2,e3⟩:=item i hi
   have:ad i=b:=by show (match its[i]? with | some (.ref b)=> b | _=> 0)=b; rw [e1]
   rw [this]; exact ⟨e1,e2,e3⟩
  generalize ad=ad' at adE
  clear ad
  generalize hpb:((List.range pts.length).map fun i=> ((pts.getD i (0,0),ad' i):(Int×Int)×Addr))=pb
  have hits:its=ST.refs pb:=by
   apply List.ext_getElem?
   intro i
   rw [← hpb]
   unfold ST.refs
   rcases Nat.lt_or_ge i pts.length with z | z
   ·rw [(adE i z).1]; simp [z]
   ·rw [List.getElem?_eq_none (by omega),List.getElem?_eq_none (by simpa using z)]
  have h1p:pb.map (·.1)=pts:=by
   rw [← hpb,List.map_map]
   apply List.ext_getElem?
   intro i
   rcases Nat.lt_or_ge i pts.length with z | z
   ·simp [z]
   ·rw [List.getElem?_eq_none (by simpa using z),List.getElem?_eq_none z]
  have srcb:∀ z∈pb,∃ j,j < pts.length∧z=(pts.getD j (0,0),ad' j):=fun z hz=> by
   rw [← hpb] at hz
   obtain ⟨j,hj,rfl⟩:=List.mem_map.mp hz
   exact ⟨j,List.mem_range.mp hj,rfl⟩
  have hbl:pb.length=pts.length:=by rw [← h1p,List.length_map]
  rw [hits] at pl
  refine ST.call_sortedLB (pb:=pb) pl.isList (fun z hz=> ?_) (by rw [h1p]; exact hn) (by omega) fun h3 h4 tk2 pb' ep pm so k1 k2 hD=> ?_
  ·obtain ⟨j,hj,rfl⟩:=srcb z hz
   exact (adE j hj).2.2
  ·have I3:Inv X pins σ H1 { s1 with heap:=h3,toks:=tk2 }:=I1.kept (t':=tk2) k1
   have src:∀ z∈pb',∃ j,j < pts.length∧z=(pts.getD j (0,0),ad' j):=fun z hz=> srcb z (pm.mem_iff.mp hz)
   have epts:pb'.map (·.1)=ST.srt pts:=by
    refine ST.asc_one so (ST.srt_asc pts) fun z=> ?_
    rw [ST.srt_mem,(pm.map (·.1)).mem_iff,h1p]
   have fr:H1 h3.objs.size=none:=I3.hok.fresh (Nat.le_refl _)
   refine ⟨.ref h3.objs.size,upd H1 h3.objs.size (.lst (pb'.map fun z=> V.ref z.2)),?_,rfl,?_⟩
   ·refine I3.laid (t':=tk2) k2 (Nat.le_refl _) ⟨?_,(ST.refs pb'),ep,?_,hD⟩
    ·rw [List.length_map,pm.length_eq,hbl,sizeLine_eq]
     omega
    ·have all:∀ l:ST.PB,aG (l.map fun z=> V.ref z.2) (ST.refs l):=fun l=> by
      induction l with
      | nil=> exact .nil
      | cons z r ih=> exact .cons rfl ih
     exact all pb'
   ·refine q _ _ _ (sm.trans (aQ fr _)) (sm.free fr) aH ⟨?_,fun i z x e1 e2=> ?_⟩
    ·rw [List.length_map,← epts,List.length_map,List.length_map]
    ·rw [← epts,List.map_map,List.getElem?_map] at e2
     rw [List.getElem?_map] at e1
     cases hpi:pb'[i]? with
     | none=> rw [hpi] at e1; cases e1
     | some y=>
      rw [hpi] at e1 e2
      cases e1
      cases e2
      obtain ⟨j,hj,rfl⟩:=src y (List.mem_of_getElem? hpi)
      exact (adE j hj).2.1.same (bi (aQ fr _) fr)
end
end L2
namespace L2
open PySem PySem.Spec PyProof.Rows
section
variable {X:Cx} {H0:Hp} {O0:List Addr} {E:XK} {ps ps':PSt} {D:PD} {a b c e:Expr} {es:List Expr} {u:U} {xs ys us:List U}
 {n:Nat} {C:Addr} {fd:FuncData} {pn:List Str} {spec:List U→Out→Prop}
end
end L2
namespace L2
open PySem PySem.Spec PySem.W PyProof.Rows
def vP (f:Nat→V) (i:Nat):Option Sl→Option Sl
 | some (.val u)=> some (.pin (f i) u)
 | some (.own xs)=> some (.pin (f i) (.lst xs))
 | o=> o
def ku (f:Nat→V):Nat→PSt→PSt
 | _,[]=> []
 | i,o::p=> vP f i o::ku f (i+1) p
theorem gq (f:Nat→V):∀ (ps:PSt) (k i:Nat),(ku f k ps)[i]?=(ps[i]?).map (vP f (k+i))
 | [],k,i=> rfl
 | o::p,k,0=> rfl
 | o::p,k,i+1=> by
  show (ku f (k+1) p)[i]?=_
  rw [gq f p (k+1) i,show k+1+i=k+(i+1) by omega]; rfl
theorem hG (f:Nat→V):∀ (ps:PSt) (k:Nat),(ku f k ps).length=ps.length
 | [],_=> rfl
 | o::p,k=> congrArg Nat.succ (hG f p (k+1))
def slV (σ:St) (i:Nat):V:=match σ[i]? with | some (some v)=> v | _=> .non
theorem i8 {σ:St} {i:Nat} {v:V} (h:σ[i]?=some (some v)):slV σ i=v:=by unfold slV; rw [h]
section
variable {X:Cx} {H0:Hp} {O0:List Addr} {E:XK} {ps:PSt} {D:PD} {s:Stmt} {pos:Pos} {u:U} {xs:List U}
theorem wa (i:Nat) {x:Str} {w:V} (h:ps[i]?=some (some (.pin w u))) (hN:X.N[i]?=some x:=by rfl) (hv:Vis X.env.scope x:=by first | exact Or.inl rfl | exact Or.inr (Or.inl rfl) | exact Or.inr (Or.inr rfl)) (hd:(x==("__debug__":Str))=false:=by decide)
  (hcd:(x==("__classdict__":Str))=false:=by decide):Ev X H0 O0 ps (.Name x pos) u:=PE.mono (dl hN hv hd hcd) fun σ H Q ⟨O,R,k⟩=> by
 obtain ⟨v,h1,h2,h3⟩:=R.at_ i _ h
 exact ⟨v,h1,k v H (.refl H) h3⟩
open Classical in
theorem oZ (w:∀ (f:Nat→V) (H1:Hp) (O1:List Addr),W1 X H1 O1 E s ⟨fun p=> SubP (ku f 0 ps) p,D.rt,fun _=> False,fun _=> False⟩ (ku f 0 ps)) (h:D.nx ps):W1 X H0 O0 E s D ps:=by
 intro pins st σ H D' I ⟨L,O,R⟩
 let P:Addr→Prop:=fun b=> ∀ (i:Nat) (ys:List U),ps[i]?=some (some (.own ys))→σ[i]?≠some (some (.ref b))
 let O1:=O.filter (fun b=> decide (P b))
 have sub:∀ b∈O1,b∈O:=fun b hb=> (List.mem_filter.mp hb).1
 have old:∀ b∈O0,b∈O1:=fun b hb=> List.mem_filter.mpr ⟨R.old b hb,decide_eq_true fun i ys e z=> by
  obtain ⟨v,h1,a,vs,rfl,h3,h4,_⟩:=R.at_ i _ e
  rw [h1] at z; cases z
  exact h4 hb⟩
 have nin:∀ {i:Nat} {ys:List U} {a:Addr},ps[i]?=some (some (.own ys))→σ[i]?=some (some (.ref a))→a ∉ O1:=fun e1 e2 z=> of_decide_eq_true (List.mem_filter.mp z).2 _ _ e1 e2
 have less:aB (hid H O) (hid H O1):=ck sub
 have R1:Rs X.K H O1 (ku (slV σ) 0 ps) σ H O1:=by
  refine ⟨.refl H,fun a h=> h,fun a h=> .inl h,fun a h=> R.dom a (sub a h),by rw [hG]; exact R.len,fun i sl e=> ?_,fun i j ys zs a e _ _ _=> ?_⟩
  ·rw [gq,Nat.zero_add] at e
   cases q:ps[i]? with
   | none=> rw [q] at e; cases e
   | some o=>
    rw [q] at e
    cases o with
    | none=> cases e
    | some t=>
     obtain ⟨v,h1,h2⟩:=R.at_ i t q
     refine ⟨v,h1,?_⟩
     cases t with
     | val u=> cases e; exact ⟨(i8 h1).symm,Rp.same less h2⟩
     | pin z u=> cases e; exact ⟨h2.1,Rp.same less h2.2⟩
     | own ys=>
      cases e
      obtain ⟨a,vs,rfl,h3,h4,h5,h6⟩:=h2
      refine ⟨(i8 h1).symm,.lst (cr h5 (nin q h1)) (h6.same less).len (h6.same less).at_⟩
  ·rw [gq,Nat.zero_add] at e
   cases q:ps[i]? with
   | none=> rw [q] at e; cases e
   | some o=>
    rw [q] at e
    cases o with
    | none=> cases e
    | some t=> cases t <;> cases e
 refine w (slV σ) H O1 pins st σ H D' I ⟨⟨fun ps' σ' H' O' R' e=> ?_,fun _ _ _ _ _ e=> e.elim,fun _ _ _ _ _ e=> e.elim,fun o ho=> ?_⟩,O1,R1⟩
 ·have R2:=R'.sub e
  have keep:∀ {i:Nat} {t:Sl} {v:V},ps[i]?=some (some t)→σ[i]?=some (some v)→σ'[i]?=some (some v):=fun {i t v} q hv=> by
   have hp:∃ z u,(ku (slV σ) 0 ps)[i]?=some (some (.pin z u))∧z=v:=by
    rw [gq,q,Nat.zero_add]
    cases t with
    | val u=> exact ⟨_,u,rfl,i8 hv⟩
    | own ys=> exact ⟨_,_,rfl,i8 hv⟩
    | pin z u=>
     obtain ⟨v',h1,h2⟩:=R.at_ i _ q
     rw [hv] at h1; cases h1
     exact ⟨z,u,rfl,h2.1.symm⟩
   obtain ⟨z,u,hp,rfl⟩:=hp
   obtain ⟨v',h1,h2⟩:=R2.at_ i _ hp
   rw [h1,h2.1]
  have big:aB (hid H O) (hid H' (O'++O)):=fun b o hb=> by
   obtain ⟨h1,h2⟩:=d_ hb
   refine cr (R2.same _ _ h1) fun z=> ?_
   rcases List.mem_append.mp z with z | z
   ·rcases R2.new b z with y | y
    ·exact h2 (sub b y)
    ·rw [y] at h1; cases h1
   ·exact h2 z
  refine L.nx ps σ' H' (O'++O) ⟨R.same.trans R2.same,fun b hb=> List.mem_append_right _ (R.old b hb),fun b hb=> ?_,fun b hb=> ?_,?_,fun i t q=> ?_,fun i j ys zs a q1 q2 q3 q4=> ?_⟩ h
  ·rcases List.mem_append.mp hb with z | z
   ·rcases R2.new b z with y | y
    ·exact R.new b (sub b y)
    ·exact .inr (R.same.free y)
   ·exact R.new b z
  ·rcases List.mem_append.mp hb with z | z
   ·exact R2.dom b z
   ·exact fun y=> R.dom b z (R2.same.free y)
  ·rw [R2.len,hG]
  ·obtain ⟨v,h1,h2⟩:=R.at_ i t q
   refine ⟨v,keep q h1,?_⟩
   cases t with
   | val u=> exact Rp.same big h2
   | pin z u=> exact ⟨h2.1,Rp.same big h2.2⟩
   | own ys=>
    obtain ⟨a,vs,rfl,h3,h4,h5,h6⟩:=h2
    exact ⟨a,vs,rfl,List.mem_append_right _ h3,h4,R2.same _ _ h5,h6.same big⟩
  ·obtain ⟨v1,k1,k1'⟩:=R.at_ i _ q1
   obtain ⟨v2,k2,k2'⟩:=R.at_ j _ q2
   have e1:=keep q1 k1
   have e2:=keep q2 k2
   rw [q3] at e1; cases e1
   rw [q4] at e2; cases e2
   exact R.inj i j ys zs a q1 q2 k1 k2
 ·have q:=L.rt o ho
  cases o with
  | val u=> exact fun v H' s r=> q v H' (R.same.trans s) (r.same (ck old))
  | new ys=> exact fun a vs H' s n k r=> q a vs H' (R.same.trans s) (R.same.free n) k (r.same (ck fun b hb=> by
    rcases List.mem_cons.mp hb with y | y
    ·subst y; exact List.mem_cons_self
    ·exact List.mem_cons_of_mem _ (old b y)))
  | exc C=> exact fun H' s=> q H' (R.same.trans s)
theorem sU (i:Nat) {x:Str} {apos cpos xp:Pos} (hp:ps[i]?=some (some (.own xs))) (h:D.nx (ps.set i (some (.own []))))
  (hN:X.N[i]?=some x:=by rfl) (hv:Vis X.env.scope x:=by first | exact Or.inl rfl | exact Or.inr (Or.inl rfl) | exact Or.inr (Or.inr rfl)) (hd:(x==("__debug__":Str))=false:=by decide) (hcd:(x==("__classdict__":Str))=false:=by decide)
  (hbase:attributeBase (.Name x xp) "clear" X.env (eval (.Name x xp) X.env)=eval (.Name x xp) X.env:=by rfl)
  (hline:(apos.endLine==cpos.line)=true:=by rfl)
  (hs:swapsWith (.Call (.Attribute (.Name x xp) "clear" apos) [] [] cpos) none pos.line X.env=pure false:=by rfl):W1 X H0 O0 E (.Expr (.Call (.Attribute (.Name x xp) "clear" apos) [] [] cpos) pos) D ps:=
 PS.mono (eB (pD PySem.F.plainAttrs_list PySem.F.slot_list_clear PySem.F.type_list_clear pT (dl hN hv hd hcd) hbase hline) hs) fun D' σ H ⟨L,O,R⟩=> by
  obtain ⟨v,h1,a,vs,rfl,h3,h4,h5,h6⟩:=R.at_ i _ hp
  exact ⟨_,h1,.inl ⟨rfl,_,SqL.of h5⟩,a,vs,rfl,rfl,h5,L.nx _ _ _ O (R.write hp h1 Rps.nil) h⟩
end
def spO (K:PySem.W.Frag) (spec:List U→List U→Out→Prop):Sp:=fun vs H Q E=> ∃ (a:Addr) (ws ws':List V) (xs us:List U) (O:List Addr) (o:Out),vs=.ref a::ws'∧H a=some (.lst ws)∧a ∉ O∧(∀ b∈O,H b≠none)∧Rps K (hid H (a::O)) ws xs∧Rps K (hid H (a::O)) ws' us∧spec xs us o∧iB K (hid H [a]) O Q E o
def gM (N:List Str) (xs us:List U):PSt:=some (.own xs)::(us.map (fun u=> some (.val u))++List.replicate (N.length - (us.length+1)) none)
section
variable {P:Program} {w:World} {K:PySem.W.Frag} {mg:Str→Option Value} {base:Heap} {N pn:List Str} {qual nm:Str} {f:Addr}
theorem rf {st:Stmt} {fd:FuncData} {k:Nat} {spec:List U→List U→Out→Prop} (F:Fun K nm qual st f fd) (S:au N pn (ah st)) (len:∀ xs us o,spec xs us o→us.length+1=pn.length)
  (hbody:∀ (cdv:Value) (A:Around) (outer:List Env) (s:Shared) (H H1:Hp) (E:XK) (O:List Addr) (xs us:List U) (o:Out),cF k (A.deeper (envOfC qual (ah st) s.heap.objs.size f cdv))→spec xs us o→
   Ws (de (CXF P w) P w K mg base N qual (ah st) f cdv A outer s H E) H1 O E (am st) ⟨fun _=> o=.val .non,fun o'=> o'=o,fun _=> False,fun _=> False⟩ (gM N xs us)):aR P w K mg base (CXF P w) (k+1) f fd pn (spO K spec):=by
 refine F.okF S (fun vs H Q E h=> ?_) fun cdv A outer s H vs Q E hr h=> ?_
 ·obtain ⟨a,ws,ws',xs,us,O,o,rfl,_,_,_,_,r,hsp,_⟩:=h
  rw [List.length_cons,r.len]; exact len xs us o hsp
 ·obtain ⟨a,ws,ws',xs,us,O,o,rfl,ha,na,d,rx,r,hsp,q⟩:=h
  refine ⟨_,hbody cdv A outer s H (hid H [a]) E O xs us o hr hsp,⟨fun ps σ H' O' R e=> ?_,fun _ _ _ _ _ e=> e.elim,fun _ _ _ _ _ e=> e.elim,fun o' e=> by subst e; exact q⟩,a::O,?_⟩
  ·subst e; exact q .non H' R.same .non
  ·refine ⟨av,fun b hb=> List.mem_cons_of_mem _ hb,fun b hb=> ?_,fun b hb=> ?_,?_,fun i sl e=> ?_,fun i j ys zs b e1 e2 _ _=> ?_⟩
   ·rcases List.mem_cons.mp hb with z | z
    ·subst z; right; unfold hid; simp
    ·exact .inl z
   ·rcases List.mem_cons.mp hb with z | z
    ·subst z; rw [ha]; simp
    ·exact d b z
   ·unfold start gM
    simp only [List.length_cons,List.length_append,List.length_map,List.length_replicate,r.len]
    omega
   ·unfold gM at e
    cases i with
    | zero=> cases e; exact ⟨.ref a,rfl,a,ws,rfl,List.mem_cons_self,na,ha,rx⟩
    | succ i=>
     rw [List.getElem?_cons_succ] at e
     by_cases hi:i < us.length
     ·rw [List.getElem?_append_left (by simpa using hi),List.getElem?_map,List.getElem?_eq_getElem hi] at e
      cases e
      obtain ⟨v,h1,h2⟩:=r.get (List.getElem?_eq_getElem hi)
      refine ⟨v,?_,h2⟩
      unfold start
      rw [List.getElem?_append_left (by simpa [r.len] using hi),List.getElem?_map,List.getElem?_cons_succ,h1]; rfl
     ·rw [List.getElem?_append_right (by simpa using hi),List.getElem?_replicate] at e
      split at e <;> cases e
   ·have key:∀ (i:Nat) (ys:List U),(gM N xs us)[i]?=some (some (.own ys))→i=0:=fun i ys e=> by
     cases i with
     | zero=> rfl
     | succ i=>
      exfalso
      unfold gM at e
      rw [List.getElem?_cons_succ] at e
      by_cases hi:i < us.length
      ·rw [List.getElem?_append_left (by simpa using hi),List.getElem?_map,List.getElem?_eq_getElem hi] at e
       cases e
      ·rw [List.getElem?_append_right (by simpa using hi),List.getElem?_replicate] at e
       split at e <;> cases e
    rw [key i ys e1,key j zs e2]
end
section
variable {X:Cx} {H0:Hp} {O0:List Addr} {ps:PSt} {e:Expr} {xs:List U} {us:List U} {x nm:Str} {pc p' pos:Pos} {u:U}
theorem jU {spec:List U→List U→Out→Prop} {f:Addr} {fd:FuncData} {pn:List Str} {k:Nat} {b:Bool} {CX} (F:aR X.prog X.w X.K X.mg X.base CX k f fd pn (spO X.K spec)) (hr:cF k X.A) (hg:Gl X nm) (hm:X.mg nm=some (.ref f)) (hk:PySem.W.keepIn X.K (.ref f)=true) (hb:aA X.K fd pn []) (hx:dJ CX X E0)
  (ha:EvN X H0 O0 ps e xs) (n:Nat) (h:ps[n]?=some (some (.val u))) (hs:spec xs [u] (.val (.bl b))) (hse:starEach [e,.Name x p'] X.env=(false,eval e X.env)::starEach [.Name x p'] X.env)
  (hN:X.N[n]?=some x:=by rfl) (hv:Vis X.env.scope x:=by first | exact Or.inl rfl | exact Or.inr (Or.inl rfl) | exact Or.inr (Or.inr rfl)) (hd:(x==("__debug__":Str))=false:=by decide)
  (hcd:(x==("__classdict__":Str))=false:=by decide) (hdb:(nm==("__debug__":Str))=false:=by decide) (hpl:(backTo pos (starEach [.Name x p'] X.env)).any (·.1)=false:=by rfl):
  Ev X H0 O0 ps (.Call (.Name nm pc) [e,.Name x p'] [] pos) (.bl b):=
 PE.mono (e9 F hr hg hm hk hb .nil hx (bn ha (bn (dl hN hv hd hcd) cR ag) hse) hdb hse hpl) fun σ H Q ⟨O,R,q⟩=> ⟨O,R,fun a vs H1 s1 n1 h1 r1=> by
  obtain ⟨v,h2,h3⟩:=R.at_ n _ h
  refine ⟨v,h2,?_⟩
  show spO X.K spec ([V.ref a,v]++[]) H1 Q _
  rw [List.append_nil]
  have na:a ∉ O:=fun z=> R.dom a z n1
  refine ⟨a,vs,[v],xs,[u],O,.val (.bl b),rfl,h1,na,fun c hc=> (R.go s1).dom c hc,r1,Rps.cons (Rp.same (bi s1 n1) h3) Rps.nil,hs,fun w H2 s2 r2=> ?_⟩
  cases r2
  refine q _ H2 (fun c o hc=> s2 _ _ (cr (s1 _ _ hc) fun z=> ?_)) (.bl b)
  simp at z
  subst z
  rw [n1] at hc; cases hc⟩
theorem om:bQ X (.builtin "isinstance") (fun xs H Q=> ∃ a t C D1 D2 k,xs=[.ref a,.ref t]∧H a=some (.ext (OfCls a C))∧XcOk X.K C∧H t=some (.tup [.ref D1,.ref D2])∧kitAny X.K (.ref C) [.ref D1,.ref D2]=some k∧Q (.bl k) H):=by
 intro pins s σ H xs us Q I r h
 obtain ⟨a,t,C,D1,D2,k,rfl,ha,hk,ht,e,q⟩:=h
 obtain ⟨u,w',rfl,r1,r2⟩:=eS r
 cases r1; cases r2
 obtain ⟨its,rv,⟨o,g1,g2,n,g3⟩,_⟩:=I.tuple (SqT.of ht)
 obtain ⟨i1,i2,rfl,q1,q2⟩:=eS rv
 cases q1; cases q2
 obtain ⟨cls,dd,data,sl⟩:=o
 cases g2; cases g3
 exact PySem.W.kia_tup hk.kit I.kIn (I.hok _ _ ha).1 g1 e (fun z=> nomatch z) fun tk=> ⟨.bl k,H,I.tok _,rfl,q⟩
theorem ua {K:PySem.W.Frag} {C D1 D2:Addr} (h1:kitOne K (.ref C) (.ref D1)=some false) (h2:kitOne K (.ref C) (.ref D2)=some false):kitAny K (.ref C) [.ref D1,.ref D2]=some false:=by
 rw [kitAny.eq_def]
 dsimp only
 rw [h1]
 dsimp only
 rw [kitAny.eq_def]
 dsimp only
 rw [h2]
 dsimp only
 rw [kitAny.eq_def]
theorem qa {a:Expr} {k:Bool} {C D1 D2:Addr} {n1 n2:Str} {p p1 p2 pt pos:Pos} {x1} (h:kitAny X.K (.ref C) [.ref D1,.ref D2]=some k) (hg:Gl X "isinstance") (hm:X.mg "isinstance"=none) (hv:bootBuiltins "isinstance"=some (.builtin "isinstance")) (ha:Ev X H0 O0 ps a (.ty (.xc C)))
  (hg1:Gl X n1) (hm1:X.mg n1=some (.ref D1)) (hg2:Gl X n2) (hm2:X.mg n2=some (.ref D2)) (hd1:(n1==("__debug__":Str))=false:=by decide) (hd2:(n2==("__debug__":Str))=false:=by decide)
  (he:starEach [a,.Tuple [.Name n1 p1,.Name n2 p2] x1 pt] X.env=(false,eval a X.env)::starEach [.Tuple [.Name n1 p1,.Name n2 p2] x1 pt] X.env:=by rfl) (hpl:(backTo pos (starEach [.Tuple [.Name n1 p1,.Name n2 p2] x1 pt] X.env)).any (·.1)=false:=by rfl):
  Ev X H0 O0 ps (.Call (.Name "isinstance" p) [a,.Tuple [.Name n1 p1,.Name n2 p2] x1 pt] [] pos) (.bl k):=
 PE.mono (ft om hg hm hv (bn ha (bn (qF (bn (gf (v:=.ref D1) hg1 hm1 rfl hd1) (bn (gf (v:=.ref D2) hg2 hm2 rfl hd2) cR ag) ag)) cR i7) he) (by decide) (by decide) he hpl) fun σ H Q ⟨O,R,q⟩=> ⟨O,R,fun v H1 s1 r1=> by
  cases r1 with
  | @xc a _ h1 h2=>
   refine ⟨by show 2≤sizeLine; decide,fun p hp=> ?_⟩
   have s2:=aQ hp (.tup [.ref D1,.ref D2])
   exact ⟨a,p,C,D1,D2,k,rfl,s2 _ _ (av _ _ h1),h2,aH,h,q _ _ (s1.trans s2) (.bl k)⟩⟩
set_option maxHeartbeats 1000000 in
theorem n_ {j:Int} {p2 pos2:Pos} (hc:X.calm=true) (hg:Gl X "list") (hm:X.mg "list"=none) (hgr:Gl X "range") (hmr:X.mg "range"=none) (ha:Ev X H0 O0 ps e (.int j)) (h0:0≤j) (h1:j≤1000)
  (he:starEach [e] X.env=(false,eval e X.env)::starEach [] X.env:=by rfl):EvN X H0 O0 ps (.Call (.Name "list" pc) [.Call (.Name "range" p2) [e] [] pos2] [] pos) (cQ 0 j.toNat):=by
 rintro pins s σ H Q I ⟨O,R,q⟩
 have hh:X.A.handled=none:=I.ok.hd hc
 refine wpAny_Call_Name_kw (cj I hg hm boot_list ?_)
 refine callWith_type1 (e:=.Call (.Name "range" p2) [e] [] pos2) (rest:=[]) ?_ bx rfl
 rw [bx]
 show wpAny _ _ (spliced ((false,eval (.Call (.Name "range" p2) [e] [] pos2) X.env)::backTo pos (starEach [] X.env))) _ _ s
 refine Calls.spliced_cons ?_
 refine wpAny_Call_Name_kw (cj I hgr hmr boot_range ?_)
 refine callWith_type1 (thn (bn ha cR he pos2 pins s σ H (fun vs H1=> ∃ v,vs=[v]∧aB H H1∧Rp X.K (hid H1 O) v (.int j)) I ⟨O,R,fun v H1 s1 r1=> ⟨v,rfl,s1,r1⟩⟩) fun us s1 hx=> ?_) he rfl
 obtain ⟨vs,H1,I1,rv,v,rfl,sm,rp⟩:=hx
 obtain ⟨u,rfl,ru⟩:=dy rv
 cases rp
 obtain ⟨t,rfl⟩:=ru
 refine call_range_1 ?_
 refine Calls.spliced_nil ?_
 have fr1:∀ b o,s1.heap.get? b=some o→b≠s1.heap.objs.size:=fun b o e z=> by rw [z] at e; exact Nat.lt_irrefl _ (Heap.lt_size e)
 refine call_list_range (n:=j.toNat) (a:=0) (b:=j) (c:=1) (t:=s1.toks) (u:=t) (v:=s1.toks+1) hh (Heap.get?_push_size _ rfl) ?_ ?_ (by omega) fun h' tk acc c keep hl its=> ?_
 ·have hd:Builtin.Range.small 0 j 1=true:=by
   have key:∀ k:Fin 1001,Builtin.Range.small 0 (k.val:Int) 1=true:=by decide+kernel
   have e:=key ⟨j.toNat,by omega⟩
   rwa [show (((⟨j.toNat,by omega⟩:Fin 1001).val:Nat):Int)=j by show (j.toNat:Int)=j; omega] at e
  exact hd
 ·unfold Builtin.Range.rangeSize
  have:¬ j < 0:=by omega
  simp
  omega
 ·have szD:({ s1 with heap:=s1.heap.push { cls:=Value.type "range",data:=Data.fields #[Value.int 0 s1.toks,Value.int j t,Value.int 1 (s1.toks+1)] },toks:=s1.toks+1+1 }:Shared).heap.objs.size=s1.heap.objs.size+1:=Heap.size_push ..
  rw [szD] at hl ⊢
  generalize hD:s1.heap.objs.size+1=D0 at *
  have frD:s1.heap.get? D0=none:=Heap.get?_none_of_le (by rw [← hD]; exact Nat.le_succ _)
  have nH:∀ a,s1.heap.get? a=none→H1 a=none:=fun a e=> by
   cases hq:H1 a with
   | none=> rfl
   | some o=>
    obtain ⟨ob,z⟩:=dU (I1.hok a o hq)
    rw [e] at z; cases z
  have kp:∀ b o,s1.heap.get? b=some o→h'.get? b=some o:=fun b o e=> keep b o (Heap.get?_push_of_some _ e)
  have asz:acc.toList.length=j.toNat:=by rw [Array.length_toList]; exact its.1
  have at':∀ (i:Nat) (hi:i < j.toNat),∃ t,acc.toList[i]?=some (Value.int (0+(i:Int) * 1) t):=fun i hi=> by
   have h2:i < acc.toList.length:=by omega
   have e2:acc[i]?=some acc.toList[i]:=by rw [← Array.getElem?_toList]; exact List.getElem?_eq_getElem h2
   obtain ⟨t,e3⟩:=its.2 i _ e2
   exact ⟨t,by rw [List.getElem?_eq_getElem h2,e3]⟩
  generalize hV:((List.range j.toNat).map fun i:Nat=> V.int (0+(i:Int) * 1))=VL
  have vv:aG VL acc.toList:=by
   have key:∀ (n:Nat) (vs:List V) (us:List Value),vs.length=n→us.length=n→(∀ i,i < n→∃ v u,vs[i]?=some v∧us[i]?=some u∧aV v u)→aG vs us:=by
    intro n
    induction n with
    | zero=> intro vs us e1 e2 _; rw [List.length_eq_zero_iff.mp e1,List.length_eq_zero_iff.mp e2]; exact .nil
    | succ n ih=>
     intro vs us e1 e2 h
     cases vs with
     | nil=> cases e1
     | cons v vs=>
      cases us with
      | nil=> cases e2
      | cons u us=>
       obtain ⟨v',u',k1,k2,k3⟩:=h 0 (by omega)
       cases k1; cases k2
       exact .cons k3 (ih vs us (by simpa using e1) (by simpa using e2) fun i hi=> by
        obtain ⟨v',u',k1,k2,k3⟩:=h (i+1) (by omega)
        exact ⟨v',u',by simpa using k1,by simpa using k2,k3⟩)
   refine key j.toNat VL acc.toList (by rw [← hV]; simp) asz fun i hi=> ?_
   obtain ⟨t,e⟩:=at' i hi
   exact ⟨V.int (0+(i:Int) * 1),_,by rw [← hV,List.getElem?_map,List.getElem?_range hi]; rfl,e,t,rfl⟩
  have old:∀ b u,s1.heap.get? b=some u→upd H1 D0 (.lst VL) b=H1 b:=fun b u e=> aK fun z=> by rw [z,frD] at e; cases e
  have I3:Inv X pins σ (upd H1 D0 (.lst VL)) { s1 with heap:=h',toks:=tk }:=by
   refine nq (t':=tk) I1 kp old fun b o nb e=> ?_
   by_cases hb:b=D0
   ·subst hb
    rw [aH] at e
    cases e
    have:VL.length≤sizeLine:=by rw [← hV]; simp only [List.length_map,List.length_range]; exact Nat.le_of_lt (Nat.lt_of_le_of_lt (show j.toNat≤1000 by omega) (by decide))
    exact ⟨this,acc.toList,c,vv,hl⟩
   ·rw [aK hb,nH b nb] at e
    cases e
  have sm1:aB H1 (upd H1 D0 (.lst VL)):=aQ (nH _ frD) _
  refine ⟨.ref D0,_,I3,rfl,q D0 _ _ (sm.trans sm1) (sm.free (nH _ frD)) aH ⟨?_,fun i v u h1 h2=> ?_⟩⟩
  ·rw [← hV,bq]; simp
  ·obtain ⟨hi,rfl⟩:=cZ h2
   rw [← hV,List.getElem?_map,List.getElem?_range hi] at h1
   cases h1
   show Rp _ _ (V.int (0+(i:Int) * 1)) _
   rw [Int.mul_one]
   exact .int _
end
end L2
local macro_rules | `(tactic| walk_at "sz")=> `(tactic| first | with_reducible assumption | ((with_reducible apply L2.Sz.sub') <;> walk_at "sz") | ((with_reducible apply L2.Sz.add') <;> walk_at "sz") | ((with_reducible apply L2.Sz.mul) <;> walk_at "sz") | ((with_reducible apply L2.Sz.neg) <;> walk_at "sz") | ((with_reducible apply L2.Sz.ediv) <;> walk_at "sz") | ((with_reducible apply L2.Sz.abs) <;> walk_at "sz") | exact L2.Sz.lit (m:=8) (by decide) | exact L2.Sz.emod (m:=250) (by decide) (by decide) | exact L2.Sz.lit (m:=250) (by decide))
local macro_rules | `(tactic| walk_at "mul")=> `(tactic| exact L2.Sz.ok (by walk_at "sz") (by walk_at "sz") (by decide))
local macro_rules | `(tactic| walk_at "div")=> `(tactic| first | exact ⟨by decide,L2.Sz.mono (m:=250) (by decide) (by decide)⟩ | exact ⟨by omega,L2.Sz.mono (by walk_at "sz") (by decide)⟩)
local macro_rules | `(tactic| walk_at "mod")=> `(tactic| first | decide | omega)
local macro_rules | `(tactic| walk_at "szb")=> `(tactic| exact L2.Sz.mono (by walk_at "sz") (by decide))
local macro_rules | `(tactic| walk_at "kit")=> `(tactic| first | exact L2.kit_int_int _ | exact L2.kit_int_bool _ | exact L2.kit_tuple_tuple _ | exact L2.kit_list_list _ | exact L2.kit_bool_int _ | exact L2.kit_list_tuple _ | rfl)
local macro_rules | `(tactic| walk_at "ok")=> `(tactic| first | rfl | decide)
local macro_rules | `(tactic| walk_at "sub")=> `(tactic| first | exact trivial | (refine ⟨rfl,?_⟩; walk_at "sub") | (with_reducible apply L2.SubP.skip; walk_at "sub"))
local macro_rules | `(tactic| walk_at "len")=> `(tactic| first | decide | (simp only [List.length_append,List.length_cons,List.length_nil,List.length_map]; decide))
namespace My
open PySem PySem.Spec PyProof.Rows L2
def top (i:Nat):Stmt:=PySem.Challenge.pw_stakefield_k26_pieces_of_ways.main.body.getD i (.Pass ⟨0,0,0,0⟩)
abbrev cD:Stmt:=top 8
abbrev fP:Stmt:=top 9
abbrev dw:Stmt:=top 10
abbrev fz:Stmt:=top 12
abbrev cA:Stmt:=top 13
abbrev cg:Stmt:=top 14
abbrev dD:Stmt:=top 15
abbrev eK:Stmt:=top 16
abbrev cE:Stmt:=top 17
abbrev eJ:Stmt:=top 18
abbrev eG:Stmt:=top 19
abbrev fN:Stmt:=top 21
abbrev bL:Stmt:=top 22
abbrev eM:Stmt:=top 23
abbrev eC:Stmt:=top 24
abbrev bV:Stmt:=top 25
abbrev iE:Stmt:=top 26
abbrev bu:Stmt:=top 27
abbrev eV:Stmt:=top 29
abbrev cB:Stmt:=top 31
abbrev cb:Stmt:=top 32
abbrev bX:Stmt:=top 33
abbrev cC:Stmt:=top 36
abbrev ce:Stmt:=top 37
abbrev du:Stmt:=top 38
abbrev dI:Stmt:=top 39
abbrev dG:Stmt:=top 40
abbrev bw:Stmt:=top 42
abbrev bO:Stmt:=top 43
abbrev bh:Stmt:=top 44
abbrev bE:Stmt:=top 45
abbrev bM:Stmt:=top 46
abbrev cf:Stmt:=top 47
abbrev bZ:Stmt:=top 48
abbrev bA:Stmt:=top 49
abbrev br:Stmt:=top 50
abbrev bp:Stmt:=top 51
abbrev bN:Stmt:=top 52
abbrev gv:Stmt:=top 53
theorem j4:au ["thing"] ["thing"] (ah cD):=⟨rfl,rfl,rfl,by decide+kernel,rfl,by decide+kernel,by decide+kernel⟩
theorem rS:au ["number"] ["number"] (ah fP):=⟨rfl,rfl,rfl,by decide+kernel,rfl,by decide+kernel,by decide+kernel⟩
theorem be:au ["a","b","high","high_times","low","low_times","fits","rest","rest_times","s"] ["a","b"] (ah dw):=⟨rfl,rfl,rfl,by decide+kernel,rfl,by decide+kernel,by decide+kernel⟩
theorem rK:au ["move"] ["move"] (ah fz):=⟨rfl,rfl,rfl,by decide+kernel,rfl,by decide+kernel,by decide+kernel⟩
theorem gs:au ["thing","number"] ["thing"] (ah cA):=⟨rfl,rfl,rfl,by decide+kernel,rfl,by decide+kernel,by decide+kernel⟩
theorem jm:au ["thing"] ["thing"] (ah cg):=⟨rfl,rfl,rfl,by decide+kernel,rfl,by decide+kernel,by decide+kernel⟩
theorem nG:au ["P","move"] ["P","move"] (ah dD):=⟨rfl,rfl,rfl,by decide+kernel,rfl,by decide+kernel,by decide+kernel⟩
theorem kv:au ["P","move","place"] ["P","move"] (ah eK):=⟨rfl,rfl,rfl,by decide+kernel,rfl,by decide+kernel,by decide+kernel⟩
theorem b_:au ["move","side","a","b","c","d"] ["move"] (ah cE):=⟨rfl,rfl,rfl,by decide+kernel,rfl,by decide+kernel,by decide+kernel⟩
theorem pN:au ["P","Q"] ["P","Q"] (ah eJ):=⟨rfl,rfl,rfl,by decide+kernel,rfl,by decide+kernel,by decide+kernel⟩
theorem cI:au ["P","Q","far","u","v","parts","s","t"] ["P","Q"] (ah eG):=⟨rfl,rfl,rfl,by decide+kernel,rfl,by decide+kernel,by decide+kernel⟩
theorem sN:au ["P","Q","R"] ["P","Q","R"] (ah fN):=⟨rfl,rfl,rfl,by decide+kernel,rfl,by decide+kernel,by decide+kernel⟩
theorem dk:au ["row","kept","P"] ["row"] (ah bL):=⟨rfl,rfl,rfl,by decide+kernel,rfl,by decide+kernel,by decide+kernel⟩
theorem d7:au ["points","row","there","back"] ["points"] (ah eM):=⟨rfl,rfl,rfl,by decide+kernel,rfl,by decide+kernel,by decide+kernel⟩
theorem qB:au ["land"] ["land"] (ah eC):=⟨rfl,rfl,rfl,by decide+kernel,rfl,by decide+kernel,by decide+kernel⟩
theorem uK:au ["land","A","B"] ["land"] (ah iE):=⟨rfl,rfl,rfl,by decide+kernel,rfl,by decide+kernel,by decide+kernel⟩
theorem d4:au ["land","move","P"] ["land","move"] (ah bu):=⟨rfl,rfl,rfl,by decide+kernel,rfl,by decide+kernel,by decide+kernel⟩
theorem mG:au ["land","k","P"] ["land","k"] (ah eV):=⟨rfl,rfl,rfl,by decide+kernel,rfl,by decide+kernel,by decide+kernel⟩
theorem ki:au ["land","k"] ["land","k"] (ah cB):=⟨rfl,rfl,rfl,by decide+kernel,rfl,by decide+kernel,by decide+kernel⟩
theorem jt:au ["land"] ["land"] (ah cb):=⟨rfl,rfl,rfl,by decide+kernel,rfl,by decide+kernel,by decide+kernel⟩
theorem jA:au ["land","k","many"] ["land","k"] (ah bX):=⟨rfl,rfl,rfl,by decide+kernel,rfl,by decide+kernel,by decide+kernel⟩
theorem bI:au ["land","y","begins","ends","A","B","rise","run"] ["land","y"] (ah cC):=⟨rfl,rfl,rfl,by decide+kernel,rfl,by decide+kernel,by decide+kernel⟩
theorem bB:au ["land","move","levelled","back","found","y","ends","x","P"] ["land"] (ah ce):=⟨rfl,rfl,rfl,by decide+kernel,rfl,by decide+kernel,by decide+kernel⟩
theorem oH:au ["land"] ["land"] (ah du):=⟨rfl,rfl,rfl,by decide+kernel,rfl,by decide+kernel,by decide+kernel⟩
theorem fG:au ["land","row"] ["land"] (ah dG):=⟨rfl,rfl,rfl,by decide+kernel,rfl,by decide+kernel,by decide+kernel⟩
theorem fX:au ["script","k"] ["script","k"] (ah bw):=⟨rfl,rfl,rfl,by decide+kernel,rfl,by decide+kernel,by decide+kernel⟩
theorem h9:au ["found"] ["found"] (ah bO):=⟨rfl,rfl,rfl,by decide+kernel,rfl,by decide+kernel,by decide+kernel⟩
theorem fL:au ["found"] ["found"] (ah bh):=⟨rfl,rfl,rfl,by decide+kernel,rfl,by decide+kernel,by decide+kernel⟩
theorem cq:au ["x","y","wide","high"] ["x","y"] (ah bE):=⟨rfl,rfl,rfl,by decide+kernel,rfl,by decide+kernel,by decide+kernel⟩
theorem h_:au ["cells"] ["cells"] (ah bM):=⟨rfl,rfl,rfl,by decide+kernel,rfl,by decide+kernel,by decide+kernel⟩
theorem fi:au ["cells","x"] ["cells"] (ah cf):=⟨rfl,rfl,rfl,by decide+kernel,rfl,by decide+kernel,by decide+kernel⟩
theorem fR:au ["start","step","some","k"] ["start","step","some"] (ah bZ):=⟨rfl,rfl,rfl,by decide+kernel,rfl,by decide+kernel,by decide+kernel⟩
theorem aX:au ["ends","one","two","e"] ["ends"] (ah bA):=⟨rfl,rfl,rfl,by decide+kernel,rfl,by decide+kernel,by decide+kernel⟩
theorem bv:au ["found","row","due","k","piece","spot"] ["found","row"] (ah br):=⟨rfl,rfl,rfl,by decide+kernel,rfl,by decide+kernel,by decide+kernel⟩
theorem d9:au ["found","row","spot"] ["found","row"] (ah bp):=⟨rfl,rfl,rfl,by decide+kernel,rfl,by decide+kernel,by decide+kernel⟩
theorem bo:au ["cells","long","start","step","ends","handed","row"] ["cells"] (ah bN):=⟨rfl,rfl,rfl,by decide+kernel,rfl,by decide+kernel,by decide+kernel⟩
theorem kX:au ["script","at","k"] ["script"] (ah gv):=⟨rfl,rfl,rfl,by decide+kernel,rfl,by decide+kernel,by decide+kernel⟩
set_option genInjectivity false in
set_option genSizeOf false in
set_option genSizeOfSpec false in
structure Txt (K:PySem.W.Frag) (mg:Str→Option Value) where
 a_is_whole:Addr
 d_is_whole:FuncData
 F_is_whole:Fun K "is_whole" "is_whole" cD a_is_whole d_is_whole
 b_is_whole:aA K d_is_whole ["thing"] []
 m_is_whole:mg "is_whole"=some (.ref a_is_whole)
 a_sign:Addr
 d_sign:FuncData
 F_sign:Fun K "sign" "sign" fP a_sign d_sign
 b_sign:aA K d_sign ["number"] []
 m_sign:mg "sign"=some (.ref a_sign)
 a_shares:Addr
 d_shares:FuncData
 F_shares:Fun K "shares" "shares" dw a_shares d_shares
 b_shares:aA K d_shares ["a","b"] []
 m_shares:mg "shares"=some (.ref a_shares)
 a_hand:Addr
 d_hand:FuncData
 F_hand:Fun K "hand" "hand" fz a_hand d_hand
 b_hand:aA K d_hand ["move"] []
 m_hand:mg "hand"=some (.ref a_hand)
 a_is_move:Addr
 d_is_move:FuncData
 F_is_move:Fun K "is_move" "is_move" cA a_is_move d_is_move
 b_is_move:aA K d_is_move ["thing"] []
 m_is_move:mg "is_move"=some (.ref a_is_move)
 a_need_move:Addr
 d_need_move:FuncData
 F_need_move:Fun K "need_move" "need_move" cg a_need_move d_need_move
 b_need_move:aA K d_need_move ["thing"] []
 m_need_move:mg "need_move"=some (.ref a_need_move)
 a_turned:Addr
 d_turned:FuncData
 F_turned:Fun K "turned" "turned" dD a_turned d_turned
 b_turned:aA K d_turned ["P","move"] []
 m_turned:mg "turned"=some (.ref a_turned)
 a_moved:Addr
 d_moved:FuncData
 F_moved:Fun K "moved" "moved" eK a_moved d_moved
 b_moved:aA K d_moved ["P","move"] []
 m_moved:mg "moved"=some (.ref a_moved)
 a_way_back:Addr
 d_way_back:FuncData
 F_way_back:Fun K "way_back" "way_back" cE a_way_back d_way_back
 b_way_back:aA K d_way_back ["move"] []
 m_way_back:mg "way_back"=some (.ref a_way_back)
 a_steps:Addr
 d_steps:FuncData
 F_steps:Fun K "steps" "steps" eJ a_steps d_steps
 b_steps:aA K d_steps ["P","Q"] []
 m_steps:mg "steps"=some (.ref a_steps)
 a_level:Addr
 d_level:FuncData
 F_level:Fun K "level" "level" eG a_level d_level
 b_level:aA K d_level ["P","Q"] []
 m_level:mg "level"=some (.ref a_level)
 a_turn:Addr
 d_turn:FuncData
 F_turn:Fun K "turn" "turn" fN a_turn d_turn
 b_turn:aA K d_turn ["P","Q","R"] []
 m_turn:mg "turn"=some (.ref a_turn)
 a_left_bends:Addr
 d_left_bends:FuncData
 F_left_bends:Fun K "left_bends" "left_bends" bL a_left_bends d_left_bends
 b_left_bends:aA K d_left_bends ["row"] []
 m_left_bends:mg "left_bends"=some (.ref a_left_bends)
 a_field:Addr
 d_field:FuncData
 F_field:Fun K "field" "field" eM a_field d_field
 b_field:aA K d_field ["points"] []
 m_field:mg "field"=some (.ref a_field)
 a_sides:Addr
 d_sides:FuncData
 F_sides:Fun K "sides" "sides" eC a_sides d_sides
 b_sides:aA K d_sides ["land"] []
 m_sides:mg "sides"=some (.ref a_sides)
 a_double_area:Addr
 d_double_area:FuncData
 F_double_area:Fun K "double_area" "double_area" bV a_double_area d_double_area
 b_double_area:aA K d_double_area ["land"] []
 m_double_area:mg "double_area"=some (.ref a_double_area)
 a_rim:Addr
 d_rim:FuncData
 F_rim:Fun K "rim" "rim" iE a_rim d_rim
 b_rim:aA K d_rim ["land"] []
 m_rim:mg "rim"=some (.ref a_rim)
 a_field_moved:Addr
 d_field_moved:FuncData
 F_field_moved:Fun K "field_moved" "field_moved" bu a_field_moved d_field_moved
 b_field_moved:aA K d_field_moved ["land","move"] []
 m_field_moved:mg "field_moved"=some (.ref a_field_moved)
 a_fold:Addr
 d_fold:FuncData
 F_fold:Fun K "fold" "fold" eV a_fold d_fold
 b_fold:aA K d_fold ["land","k"] []
 m_fold:mg "fold"=some (.ref a_fold)
 a_multiple:Addr
 d_multiple:FuncData
 F_multiple:Fun K "multiple" "multiple" cB a_multiple d_multiple
 b_multiple:aA K d_multiple ["land","k"] []
 m_multiple:mg "multiple"=some (.ref a_multiple)
 a_points_in:Addr
 d_points_in:FuncData
 F_points_in:Fun K "points_in" "points_in" cb a_points_in d_points_in
 b_points_in:aA K d_points_in ["land"] []
 m_points_in:mg "points_in"=some (.ref a_points_in)
 a_count:Addr
 d_count:FuncData
 D_count:Addr
 F_count:pS K "count" "count" bX a_count d_count D_count
 b_count:aA K d_count ["land","k"] []
 bd_count:∃ t,aA K d_count ["land","k"] [.int 1 t]
 m_count:mg "count"=some (.ref a_count)
 a_row_ends:Addr
 d_row_ends:FuncData
 F_row_ends:Fun K "row_ends" "row_ends" cC a_row_ends d_row_ends
 b_row_ends:aA K d_row_ends ["land","y"] []
 m_row_ends:mg "row_ends"=some (.ref a_row_ends)
 a_by_rows:Addr
 d_by_rows:FuncData
 F_by_rows:Fun K "by_rows" "by_rows" ce a_by_rows d_by_rows
 b_by_rows:aA K d_by_rows ["land"] []
 m_by_rows:mg "by_rows"=some (.ref a_by_rows)
 a_stakes:Addr
 d_stakes:FuncData
 F_stakes:Fun K "stakes" "stakes" du a_stakes d_stakes
 b_stakes:aA K d_stakes ["land"] []
 m_stakes:mg "stakes"=some (.ref a_stakes)
 a_cut_off:Addr
 d_cut_off:FuncData
 F_cut_off:Fun K "cut_off" "cut_off" dI a_cut_off d_cut_off
 b_cut_off:aA K d_cut_off ["row","hand"] []
 m_cut_off:mg "cut_off"=some (.ref a_cut_off)
 a_pieces:Addr
 d_pieces:FuncData
 F_pieces:Fun K "pieces" "pieces" dG a_pieces d_pieces
 b_pieces:aA K d_pieces ["land"] []
 m_pieces:mg "pieces"=some (.ref a_pieces)
 a__law_cell_at:Addr
 d__law_cell_at:FuncData
 F__law_cell_at:Fun K "_law_cell_at" "_law_cell_at" bw a__law_cell_at d__law_cell_at
 b__law_cell_at:aA K d__law_cell_at ["script","k"] []
 m__law_cell_at:mg "_law_cell_at"=some (.ref a__law_cell_at)
 a__law_whole:Addr
 d__law_whole:FuncData
 F__law_whole:Fun K "_law_whole" "_law_whole" bO a__law_whole d__law_whole
 b__law_whole:aA K d__law_whole ["found"] []
 m__law_whole:mg "_law_whole"=some (.ref a__law_whole)
 a__law_is_point:Addr
 d__law_is_point:FuncData
 F__law_is_point:Fun K "_law_is_point" "_law_is_point" bh a__law_is_point d__law_is_point
 b__law_is_point:aA K d__law_is_point ["found"] []
 m__law_is_point:mg "_law_is_point"=some (.ref a__law_is_point)
 a__law_stride:Addr
 d__law_stride:FuncData
 F__law_stride:Fun K "_law_stride" "_law_stride" bE a__law_stride d__law_stride
 b__law_stride:aA K d__law_stride ["x","y"] []
 m__law_stride:mg "_law_stride"=some (.ref a__law_stride)
 a__law_start:Addr
 d__law_start:FuncData
 F__law_start:Fun K "_law_start" "_law_start" bM a__law_start d__law_start
 b__law_start:aA K d__law_start ["cells"] []
 m__law_start:mg "_law_start"=some (.ref a__law_start)
 a__law_step:Addr
 d__law_step:FuncData
 F__law_step:Fun K "_law_step" "_law_step" cf a__law_step d__law_step
 b__law_step:aA K d__law_step ["cells"] []
 m__law_step:mg "_law_step"=some (.ref a__law_step)
 a__law_row:Addr
 d__law_row:FuncData
 F__law_row:Fun K "_law_row" "_law_row" bZ a__law_row d__law_row
 b__law_row:aA K d__law_row ["start","step","some"] []
 m__law_row:mg "_law_row"=some (.ref a__law_row)
 a__law_refused:Addr
 d__law_refused:FuncData
 F__law_refused:Fun K "_law_refused" "_law_refused" bA a__law_refused d__law_refused
 b__law_refused:aA K d__law_refused ["ends"] []
 m__law_refused:mg "_law_refused"=some (.ref a__law_refused)
 a__law_pieces:Addr
 d__law_pieces:FuncData
 F__law_pieces:Fun K "_law_pieces" "_law_pieces" br a__law_pieces d__law_pieces
 b__law_pieces:aA K d__law_pieces ["found","row"] []
 m__law_pieces:mg "_law_pieces"=some (.ref a__law_pieces)
 a__law_stakes:Addr
 d__law_stakes:FuncData
 F__law_stakes:Fun K "_law_stakes" "_law_stakes" bp a__law_stakes d__law_stakes
 b__law_stakes:aA K d__law_stakes ["found","row"] []
 m__law_stakes:mg "_law_stakes"=some (.ref a__law_stakes)
 a__law_asked:Addr
 d__law_asked:FuncData
 F__law_asked:Fun K "_law_asked" "_law_asked" bN a__law_asked d__law_asked
 b__law_asked:aA K d__law_asked ["cells"] []
 m__law_asked:mg "_law_asked"=some (.ref a__law_asked)
 a_law:Addr
 d_law:FuncData
 F_law:Fun K "law" "law" gv a_law d_law
 b_law:aA K d_law ["script"] []
 m_law:mg "law"=some (.ref a_law)
 c_Flat:Addr
 mx_Flat:mg "Flat"=some (.ref c_Flat)
 c_NoField:Addr
 x_NoField:PySem.W.excIn K c_NoField [.type "ValueError",.type "Exception",.type "BaseException",.type "object"] "ValueError.__new__"=true
 mx_NoField:mg "NoField"=some (.ref c_NoField)
 c_NoMove:Addr
 x_NoMove:PySem.W.excIn K c_NoMove [.type "ValueError",.type "Exception",.type "BaseException",.type "object"] "ValueError.__new__"=true
 mx_NoMove:mg "NoMove"=some (.ref c_NoMove)
 c_NoNumber:Addr
 mx_NoNumber:mg "NoNumber"=some (.ref c_NoNumber)
 c_StakeError:Addr
 mx_StakeError:mg "StakeError"=some (.ref c_StakeError)
 c_TooMany:Addr
 x_TooMany:PySem.W.excIn K c_TooMany [.type "ValueError",.type "Exception",.type "BaseException",.type "object"] "ValueError.__new__"=true
 mx_TooMany:mg "TooMany"=some (.ref c_TooMany)
 z_ValueError:mg "ValueError"=none
 z_abs:mg "abs"=none
 z_all:mg "all"=none
 z_bool:mg "bool"=none
 z_int:mg "int"=none
 z_isinstance:mg "isinstance"=none
 z_len:mg "len"=none
 z_list:mg "list"=none
 z_max:mg "max"=none
 z_min:mg "min"=none
 z_range:mg "range"=none
 z_set:mg "set"=none
 z_sorted:mg "sorted"=none
 z_tuple:mg "tuple"=none
 z_zip:mg "zip"=none
 bx_TooMany:PySem.W.mroIn K c_TooMany (.type "BaseException")=some true
 kit_TooMany_Flat:PySem.W.kitOne K (.ref c_TooMany) (.ref c_Flat)=some false
 kit_TooMany_NoNumber:PySem.W.kitOne K (.ref c_TooMany) (.ref c_NoNumber)=some false
 kit_TooMany_StakeError:PySem.W.kitOne K (.ref c_TooMany) (.ref c_StakeError)=some true
 kit_TooMany_ValueError:PySem.W.kitOne K (.ref c_TooMany) (.type "ValueError")=some true
 sub_TooMany_TooMany:PySem.W.mroIn K c_TooMany (.ref c_TooMany)=some true
 ty_TooMany:PySem.W.typeIn K (.ref c_TooMany)=some (.type "type")
 xc_TooMany:PySem.W.XcOk K c_TooMany
 g_MOST_STAKES:∃ t,mg "MOST_STAKES"=some (.int 100 t)
section
variable {P:Program} {w:World} {K:PySem.W.Frag} {mg:Str→Option Value} {base:Heap}
def sgn (n:Int):Int:=if 0 < n then 1 else if n < 0 then -1 else 0
def bD (b:Int):Int:=if b < 0 then -b else b
theorem cL (b:Int):bD b=(b.natAbs:Int):=by unfold bD; split <;> omega
theorem fj {b:Int} (h:b≠0):0 < bD b:=by unfold bD; split <;> omega
theorem cN (d b:Int):d ∣ bD b↔d ∣ b:=by
 unfold bD; split
 ·exact Int.dvd_neg
 ·exact Iff.rfl
theorem qx (d b:Int):bD b ∣ d↔b ∣ d:=by
 unfold bD; split
 ·exact Int.neg_dvd
 ·exact Iff.rfl
structure fT (a b high ht low lt:Int):Prop where
 hp:0 < high
 lo0:0≤low
 lolt:low < high
 dv:∀ d,(d ∣ high∧d ∣ low)↔(d ∣ a∧d ∣ b)
 ch:b ∣ ht * a - high
 cl:b ∣ lt * a - low
 bd:ht.natAbs * low.natAbs+lt.natAbs * high.natAbs≤b.natAbs
 hi:high.natAbs≤b.natAbs
theorem ke {a b:Int} (hb:b≠0):fT a b (bD b) 0 (a % bD b) 1:=by
 have h0:=fj hb
 refine ⟨h0,Int.emod_nonneg _ (by omega),Int.emod_lt_of_pos _ h0,fun d=> ?_,?_,?_,?_,by rw [cL]; simp⟩
 ·rw [cN]
  constructor
  ·rintro ⟨h1,h2⟩
   refine ⟨?_,h1⟩
   have e:=Int.emod_add_mul_ediv a (bD b)
   rw [← e]
   exact Int.dvd_add h2 (Int.dvd_trans ((cN d b).mpr h1) (Int.dvd_mul_right _ _))
  ·rintro ⟨h1,h2⟩
   refine ⟨h2,?_⟩
   have e:a % bD b=a - bD b * (a / bD b):=by have:=Int.emod_add_mul_ediv a (bD b); omega
   rw [e]
   exact Int.dvd_sub h1 (Int.dvd_trans ((cN d b).mpr h2) (Int.dvd_mul_right _ _))
 ·rw [Int.zero_mul,Int.zero_sub,Int.dvd_neg]
  exact (cN b b).mpr (Int.dvd_refl b)
 ·have e:1 * a - a % bD b=bD b * (a / bD b):=by have:=Int.emod_add_mul_ediv a (bD b); omega
  rw [e]
  exact Int.dvd_trans ((cN b b).mpr (Int.dvd_refl b)) (Int.dvd_mul_right _ _)
 ·rw [cL]; simp
theorem m9 {a b high ht low lt:Int} (I:fT a b high ht low lt) (h:low≠0):fT a b low lt (high - high / low * low) (ht - high / low * lt)∧high - high / low * low < low:=by
 obtain ⟨hp,lo0,lolt,dv,ch,cl,bd,hi⟩:=I
 have hl:0 < low:=by omega
 have e:=Int.emod_add_mul_ediv high low
 have r0:=Int.emod_nonneg high h
 have r1:=Int.emod_lt_of_pos high hl
 have hf:0≤high / low:=Int.ediv_nonneg (by omega) (by omega)
 have er:high - high / low * low=high % low:=by rw [Int.mul_comm]; omega
 rw [er]
 refine ⟨⟨hl,r0,r1,fun d=> ?_,cl,?_,?_,by omega⟩,r1⟩
 ·rw [← dv d]
  constructor
  ·rintro ⟨h1,h2⟩
   refine ⟨?_,h1⟩
   rw [← e]
   exact Int.dvd_add h2 (Int.dvd_trans h1 (Int.dvd_mul_right _ _))
  ·rintro ⟨h1,h2⟩
   refine ⟨h2,?_⟩
   rw [show high % low=high - low * (high / low) by omega]
   exact Int.dvd_sub h1 (Int.dvd_trans h2 (Int.dvd_mul_right _ _))
 ·have e2:(ht - high / low * lt) * a - high % low=(ht * a - high) - (high / low) * (lt * a - low):=by grind
  rw [e2]
  exact Int.dvd_sub ch (Int.dvd_trans cl (Int.dvd_mul_left _ _))
 ·have n1:(ht - high / low * lt).natAbs≤ht.natAbs+(high / low).natAbs * lt.natAbs:=by
   have:=Int.natAbs_sub_le ht (high / low * lt)
   rw [Int.natAbs_mul] at this
   exact this
  have n2:high.natAbs=(high % low).natAbs+low.natAbs * (high / low).natAbs:=by
   have:(high.natAbs:Int)=((high % low).natAbs+low.natAbs * (high / low).natAbs:Nat):=by
    push_cast
    rw [Int.natAbs_of_nonneg r0,Int.natAbs_of_nonneg hf,Int.natAbs_of_nonneg (by omega:0≤high),Int.natAbs_of_nonneg lo0]
    omega
   omega
  have n3:(ht - high / low * lt).natAbs * low.natAbs≤(ht.natAbs+(high / low).natAbs * lt.natAbs) * low.natAbs:=Nat.mul_le_mul_right _ n1
  rw [n2] at bd
  refine Nat.le_trans ?_ bd
  generalize (ht - high / low * lt).natAbs=A at *
  generalize ht.natAbs=B at *
  generalize lt.natAbs=C at *
  generalize low.natAbs=D at *
  generalize (high / low).natAbs=E at *
  generalize (high % low).natAbs=F at *
  grind
structure dj (a b g s t:Int):Prop where
 g0:0≤g
 eq:s * a+t * b=g
 da:g ∣ a
 db:g ∣ b
 z:b=0→t=0∧s=sgn a∧g=bD a
 nz:b≠0→0 < g∧0≤s∧s < bD b / g
theorem iy (a:Int):dj a 0 (bD a) (sgn a) 0:=by
 refine ⟨by unfold bD; split <;> omega,?_,(qx a a).mpr (Int.dvd_refl a),Int.dvd_zero _,fun _=> ⟨rfl,rfl,rfl⟩,fun h=> absurd rfl h⟩
 unfold sgn bD
 split
 ·split <;> omega
 ·split
  ·omega
  ·omega
theorem pf {a b high ht lt:Int} (hb:b≠0) (I:fT a b high ht 0 lt):dj a b high (ht % (bD b / high)) ((high - ht % (bD b / high) * a).fdiv b):=by
 obtain ⟨hp,lo0,lolt,dv,ch,cl,bd,hi⟩:=I
 obtain ⟨ga,gb⟩:=(dv high).mp ⟨Int.dvd_refl _,Int.dvd_zero _⟩
 obtain ⟨a',rfl⟩:=ga
 have gb2:high ∣ bD b:=(cN _ _).mpr gb
 obtain ⟨b',hb'⟩:=gb2
 have hb0:=fj hb
 have hq:bD b / high=b':=by rw [hb',Int.mul_ediv_cancel_left _ (by omega)]
 have hb1:0 < b':=by
  have:0 < high * b':=by omega
  exact Int.pos_of_mul_pos_right this (by omega)
 rw [hq]
 have es:=Int.emod_add_mul_ediv ht b'
 have key:b ∣ high - ht % b' * (high * a'):=by
  have e:high - ht % b' * (high * a')=-(ht * (high * a') - high)+bD b * (a' * (ht / b')):=by
   rw [hb',show ht % b'=ht - b' * (ht / b') by omega]; grind
  rw [e]
  refine Int.dvd_add (Int.dvd_neg.mpr ch) (Int.dvd_trans ((cN b b).mpr (Int.dvd_refl b)) (Int.dvd_mul_right _ _))
 refine ⟨by omega,?_,Int.dvd_mul_right _ _,gb,fun h=> absurd h hb,fun _=> ⟨hp,Int.emod_nonneg _ (by omega),?_⟩⟩
 ·obtain ⟨c,hc⟩:=key
  rw [hc,Int.mul_fdiv_cancel_left _ hb,Int.mul_comm c b]; omega
 ·rw [hq]; exact Int.emod_lt_of_pos _ hb1
theorem wk {a b high ht low lt:Int} (I:fT a b high ht low lt):lt.natAbs≤b.natAbs:=by
 have h1:1≤high.natAbs:=by have:=I.hp; omega
 have h2:lt.natAbs * 1≤lt.natAbs * high.natAbs:=Nat.mul_le_mul_left _ h1
 have:=I.bd
 omega
theorem oX {a b g s t g' s' t':Int} (h:dj a b g s t) (h':dj a b g' s' t'):g=g'∧s=s'∧t=t':=by
 have d1:g ∣ g':=by rw [← h'.eq]; exact Int.dvd_add (Int.dvd_trans h.da (Int.dvd_mul_left _ _)) (Int.dvd_trans h.db (Int.dvd_mul_left _ _))
 have d2:g' ∣ g:=by rw [← h.eq]; exact Int.dvd_add (Int.dvd_trans h'.da (Int.dvd_mul_left _ _)) (Int.dvd_trans h'.db (Int.dvd_mul_left _ _))
 have eg:g=g':=Int.dvd_antisymm h.g0 h'.g0 d1 d2
 subst eg
 by_cases hb:b=0
 ·obtain ⟨h1,h2,_⟩:=h.z hb
  obtain ⟨k1,k2,_⟩:=h'.z hb
  exact ⟨rfl,by omega,by omega⟩
 ·obtain ⟨p,s0,s1⟩:=h.nz hb
  obtain ⟨_,s0',s1'⟩:=h'.nz hb
  obtain ⟨a',ha⟩:=h.da
  obtain ⟨b',hb'⟩:=(cN g b).mpr h.db
  obtain ⟨b'',hb''⟩:=h.db
  have hq:bD b / g=b':=by rw [hb',Int.mul_ediv_cancel_left _ (by omega)]
  rw [hq] at s1 s1'
  have e1:=h.eq
  have e2:=h'.eq
  have bz:b''≠0:=by intro z; rw [z,Int.mul_zero] at hb''; exact hb hb''
  have k1:s * a'+t * b''=1:=by
   have:g * (s * a'+t * b'')=g * 1:=by rw [ha,hb''] at e1; grind
   exact Int.eq_of_mul_eq_mul_left (by omega) this
  have k2:s' * a'+t' * b''=1:=by
   have:g * (s' * a'+t' * b'')=g * 1:=by rw [ha,hb''] at e2; grind
   exact Int.eq_of_mul_eq_mul_left (by omega) this
  have k3:b'' ∣ s - s':=by
   refine ⟨s * (t' - t)+t * (s - s'),?_⟩
   grind
  have k4:b' ∣ s - s':=by
   have:b'.natAbs=b''.natAbs:=by
    have q1:(bD b).natAbs=b.natAbs:=by rw [cL]; simp
    rw [hb',hb''] at q1
    rw [Int.natAbs_mul,Int.natAbs_mul] at q1
    exact Nat.eq_of_mul_eq_mul_left (by omega) q1
   exact Int.natAbs_dvd_natAbs.mp (by rw [this]; exact Int.natAbs_dvd_natAbs.mpr k3)
  have k5:s=s':=by
   have:s - s'=0:=Int.eq_zero_of_dvd_of_natAbs_lt_natAbs k4 (by omega)
   omega
  subst k5
  refine ⟨rfl,rfl,?_⟩
  have:b * t=b * t':=by grind
  exact Int.eq_of_mul_eq_mul_left hb this
theorem tM {a b:Int} (hb:b≠0):∀ (n:Nat) (high ht low lt:Int),low.toNat≤n→fT a b high ht low lt→∃ high' ht' lt',fT a b high' ht' 0 lt'
 | 0,high,ht,low,lt,hn,I=> by
  have:low=0:=by have:=I.lo0; omega
  subst this
  exact ⟨_,_,_,I⟩
 | n+1,high,ht,low,lt,hn,I=> by
  by_cases h:low=0
  ·subst h; exact ⟨_,_,_,I⟩
  ·obtain ⟨I2,less⟩:=m9 I h
   have:=I2.lo0
   exact tM hb n _ _ _ _ (by have:=I.lo0; omega) I2
theorem mD (a b:Int):∃ g s t,dj a b g s t:=by
 by_cases hb:b=0
 ·subst hb; exact ⟨_,_,_,iy a⟩
 ·obtain ⟨h,ht,lt,I⟩:=tM hb _ _ _ _ _ (Nat.le_refl _) (ke (a:=a) hb)
  exact ⟨_,_,_,pf hb I⟩
theorem jo {m:Nat} {a b g s t:Int} (G:dj a b g s t) (sa:Sz m a) (sb:Sz m b):Sz (m+8) g∧Sz (m+8) s∧Sz (2 * m+8) t:=by
 by_cases hb:b=0
 ·subst hb
  obtain ⟨h1,h2,h3⟩:=G.z rfl
  rw [h1,h2,h3]
  have s1:Sz 8 (sgn a):=by unfold Sz sgn; split; decide; split <;> decide
  exact ⟨(Sz.abs sa).mono (by omega),s1.mono (by omega),Sz.mono (m:=8) (by decide) (by omega)⟩
 ·obtain ⟨g0,s0,s1⟩:=G.nz hb
  have h1:bD b / g≤bD b:=Int.ediv_le_self _ (by have:=fj hb; omega)
  have h2:=cL b
  have sg:Sz m g:=by
   refine sb.natle ?_
   exact Nat.le_of_dvd (by omega) (Int.natAbs_dvd_natAbs.mpr G.db)
  have ss:Sz m s:=sb.natle (by omega)
  refine ⟨sg.mono (by omega),ss.mono (by omega),?_⟩
  have e:t * b=g - s * a:=by have:=G.eq; omega
  have q:Sz (2 * m+1) (t * b):=by
   rw [e]
   have:Sz (m+m) (s * a):=ss.mul sa
   have h3:=(sg.mono (show m≤m+m by omega)).sub this
   exact h3.mono (by omega)
  refine (Sz.mono (m:=2 * m+1) ?_ (by omega))
  unfold Sz at *
  rw [Int.natAbs_mul] at q
  have:1≤b.natAbs:=by omega
  exact Nat.lt_of_le_of_lt (Nat.le_mul_of_pos_right _ this) q
def nZ:List U→Out→Prop:=fun us o=> ∃ n:Int,us=[.int n]∧o=.val (.int (sgn n))
set_option maxHeartbeats 8000000 in
theorem mz (T:Txt K mg):aR P w K mg base (CXF P w) 1 T.a_sign T.d_sign ["number"] (spU K (nZ)):=by
 refine aW T.F_sign rS (fun us o h=> ?_) (fun cdv A outer s H E O us o hr h=> ?_)
 ·obtain ⟨n,rfl,rfl⟩:=h
  rfl
 obtain ⟨n,rfl,rfl⟩:=h
 refine Ws.nox ?_
 refine ae (ii (aT fY (aa 0 rfl) ai) (fun hT=> ?_) (fun hF=> (aU ?_)))
 ·refine ae (aI ai ?_)
  exact vIO (by unfold sgn; rw [if_pos (dTb hT)])
 ·refine ae (ii (aT lQ (aa 0 rfl) ai) (fun hT=> ?_) (fun hF=> (aU ?_)))
  ·refine ae (aI (df ai) ?_)
   exact vIO (by unfold sgn; rw [if_neg (dFb hF),if_pos (dTb hT)])
  ·rename_i hF2
   refine ae (aI ai ?_)
   exact vIO (by unfold sgn; rw [if_neg (dFb hF),if_neg (dFb hF2)])
def jD:List U→Out→Prop:=fun us o=> ∃ a b g s t:Int,us=[.int a,.int b]∧Sz 4000 a∧Sz 4000 b∧dj a b g s t∧o=.val (.tup [.int g,.int s,.int t])
theorem jE {a b g s t g' s' t':Int} (G:dj a b g s t) (G':dj a b g' s' t'):Out.val (.tup [.int g,.int s,.int t])=Out.val (.tup [.int g',.int s',.int t']):=by
 obtain ⟨rfl,rfl,rfl⟩:=oX G G'
 rfl
set_option maxHeartbeats 8000000 in
theorem iR (T:Txt K mg):aR P w K mg base (CXF P w) 2 T.a_shares T.d_shares ["a","b"] (spU K (jD)):=by
 refine aW T.F_shares be (fun us o h=> ?_) (fun cdv A outer s H E O us o hr h=> ?_)
 ·obtain ⟨a,b,g,s,t,rfl,sa,sb,G,rfl⟩:=h
  rfl
 obtain ⟨a,b,g,s,t,rfl,sa,sb,G,rfl⟩:=h
 refine Ws.nox ?_
 refine ae (ii (aT cJ (aa 1 rfl) ai) (fun hT=> ?_) (fun hF=> (aU ?_)))
 ·have hb:b=0:=dTb hT
  subst hb
  refine ae (aI (bG (ao (ak jR rfl T.z_abs PyProof.Rows.boot_abs (af (aa 0 rfl) aj ag)) (ao (aN ((mz T).mono (by decide)) hr rfl T.m_sign T.F_sign.kp T.b_sign aC (af (aa 0 rfl) aj ag) ⟨_,rfl,rfl⟩) (ao ai a_ bH) bx) bx)) ?_)
  exact jE (iy a) G
 ·have hb:b≠0:=dFb hF
  have hp0:=fj hb
  have sab:Sz 4000 (bD b):=Sz.abs sb
  refine ae (aE (i:=2) be.nd rfl (Or.inl rfl) (ak jR rfl T.z_abs PyProof.Rows.boot_abs (af (aa 1 rfl) aj ag)) ?_)
  refine ae (aE (i:=3) be.nd rfl (Or.inl rfl) ai ?_)
  refine ae (aE (i:=4) be.nd rfl (Or.inl rfl) (cT (aa 0 rfl) (aa 2 rfl) hp0) ?_)
  refine ae (aE (i:=5) be.nd rfl (Or.inl rfl) ai ?_)
  refine ae (gK (fun m:Int×Int×Int×Int=> [some (.val (.int a)),some (.val (.int b)),some (.val (.int m.1)),some (.val (.int m.2.1)),some (.val (.int m.2.2.1)),some (.val (.int m.2.2.2)),none,none,none,none]) (fun n m=> n=m.2.2.1.toNat∧fT a b m.1 m.2.1 m.2.2.1 m.2.2.2) PassesOwn.never ?h0 ?hs)
  case h0=> exact ⟨_,(_,_,_,_),⟨rfl,ke hb⟩,rfl,rfl,rfl,rfl,rfl,rfl,trivial⟩
  case hs=>
   rintro m ⟨high,ht,low,lt⟩ ⟨rfl,I⟩
   dsimp only at I ⊢
   have hl0:=I.lo0
   have hl1:=I.lolt
   have sh:Sz 4000 high:=sb.natle I.hi
   have sl:Sz 4000 low:=sh.natle (by omega)
   have slt:Sz 4000 lt:=sb.natle (wk I)
   refine ⟨_,(aT p9 (aa 4 rfl) ai),fun h=> ?_,fun h ps hps=> ?_⟩
   ·have hl:low≠0:=nTb h
    obtain ⟨I2,less⟩:=m9 I hl
    have hlt:(high - high / low * low).toNat < low.toNat:=by clear h; omega
    refine ae (aE (i:=6) be.nd rfl (Or.inl rfl) (gH (aa 2 rfl) (aa 4 rfl) (by walk_at "div")) ?_)
    have sf:Sz 4000 (high / low):=sh.ediv
    refine ae (aE (i:=7) be.nd rfl (Or.inl rfl) (bC (aa 2 rfl) (aZ (aa 6 rfl) (aa 4 rfl) (by walk_at "mul"))) ?_)
    refine ae (aE (i:=8) be.nd rfl (Or.inl rfl) (bC (aa 3 rfl) (aZ (aa 6 rfl) (aa 5 rfl) (by walk_at "mul"))) ?_)
    refine ae (aE (i:=2) be.nd rfl (Or.inl rfl) (aa 4 rfl) ?_)
    refine ae (aE (i:=3) be.nd rfl (Or.inl rfl) (aa 5 rfl) ?_)
    refine ae (aE (i:=4) be.nd rfl (Or.inl rfl) (aa 7 rfl) ?_)
    refine ae (aE (i:=5) be.nd rfl (Or.inl rfl) (aa 8 rfl) (aU ?_))
    exact ⟨_,(_,_,_,_),hlt,⟨rfl,I2⟩,rfl,rfl,rfl,rfl,rfl,rfl,trivial⟩
   ·have hl:low=0:=nFb h
    subst hl
    refine e_ ?_ hps
    have G2:=pf hb I
    obtain ⟨g0,s0,s1⟩:=G2.nz hb
    have hm:0 < bD b / high:=by omega
    have hg:0 < high:=I.hp
    have ss:Sz 4000 (ht % (bD b / high)):=by
     refine sb.natle ?_
     have h1:bD b / high≤bD b:=Int.ediv_le_self _ (by omega)
     have h2:=cL b
     omega
    refine ae (aE (i:=9) be.nd rfl (Or.inl rfl) (cT (aa 3 rfl) (gH (ak jR rfl T.z_abs PyProof.Rows.boot_abs (af (aa 1 rfl) aj ag)) (aa 2 rfl) ⟨hg,sh.mono (by decide)⟩) hm) ?_)
    refine ae (aI (bG (ao (aa 2 rfl) (ao (aa 9 rfl) (ao (ur (bC (aa 2 rfl) (aZ (aa 9 rfl) (aa 0 rfl) (Sz.ok ss sa (by decide)))) (aa 1 rfl) ⟨hb,sb.mono (by decide)⟩) a_ aP) ag) ag)) ?_)
    exact jE G2 G
def isInt:U→Bool
 | .int _=> true
 | _=> false
abbrev mv (a b c d e f:Int):U:=.tup [.int a,.int b,.int c,.int d,.int e,.int f]
def fH:U→Bool
 | .tup [.int a,.int b,.int c,.int d,.int _,.int _]=> decide (a * d - b * c=1) || decide (a * d - b * c=-1)
 | _=> false
structure je (u:U):Prop where
 ty:∀ m,u≠.ty m
 ity:∀ xs,u=.tup xs→∀ x∈xs,∀ m,x≠.ty m
 len:∀ xs,u=.tup xs→xs.length≤100
 sz:∀ a b c d e f,u=mv a b c d e f→Sz 30000 a∧Sz 30000 b∧Sz 30000 c∧Sz 30000 d
theorem je.of {a b c d e f:Int} (ha:Sz 30000 a) (hb:Sz 30000 b) (hc:Sz 30000 c) (hd:Sz 30000 d):je (mv a b c d e f):=by
 refine ⟨fun m h=> (nomatch h),fun xs h x hx m e=> ?_,fun xs h=> ?_,fun a' b' c' d' e' f' h=> ?_⟩
 ·cases h; subst e; simp at hx
 ·cases h; simp
 ·cases h; exact ⟨ha,hb,hc,hd⟩
theorem rF {a b c d e f:Int} (h:a * d - b * c=1∨a * d - b * c=-1):fH (mv a b c d e f)=true:=by
 show (decide (a * d - b * c=1) || decide (a * d - b * c=-1))=true
 simpa using h
theorem qD {xs:List U} (h:xs.length≠6):fH (.tup xs)=false:=by
 unfold fH
 split
 ·rename_i e; cases e; simp at h
 ·rfl
theorem uo {xs:List U} (h:xs.length=6) (hi:xs.all isInt=true):∃ a b c d e f,xs=[.int a,.int b,.int c,.int d,.int e,.int f]:=by
 match xs,h with
 | [x1,x2,x3,x4,x5,x6],_=>
  simp only [List.all_cons,List.all_nil,Bool.and_true,Bool.and_eq_true] at hi
  obtain ⟨h1,h2,h3,h4,h5,h6⟩:=hi
  have key:∀ {x:U},isInt x=true→∃ n,x=.int n:=fun {x} h=> by cases x <;> simp [isInt] at h; exact ⟨_,rfl⟩
  obtain ⟨a,rfl⟩:=key h1
  obtain ⟨b,rfl⟩:=key h2
  obtain ⟨c,rfl⟩:=key h3
  obtain ⟨d,rfl⟩:=key h4
  obtain ⟨e,rfl⟩:=key h5
  obtain ⟨f,rfl⟩:=key h6
  exact ⟨a,b,c,d,e,f,rfl⟩
theorem p6 {xs:List U} (h:xs.all isInt=false):fH (.tup xs)=false:=by
 unfold fH
 split
 ·rename_i e; cases e; simp [isInt] at h
 ·rfl
def lP:List U→Out→Prop:=fun us o=> ∃ u,us=[u]∧(∀ m,u≠.ty m)∧o=.val (.bl (isInt u))
set_option maxHeartbeats 8000000 in
theorem j8 (T:Txt K mg):aR P w K mg base (CXF P w) 1 T.a_is_whole T.d_is_whole ["thing"] (spU K (lP)):=by
 refine aW T.F_is_whole j4 (fun us o h=> ?_) (fun cdv A outer s H E O us o hr h=> ?_)
 ·obtain ⟨u,rfl,hu,rfl⟩:=h
  rfl
 obtain ⟨u,rfl,hu,rfl⟩:=h
 refine Ws.nox ?_
 cases u with
 | ty m=> exact absurd rfl (hu m)
 | int n=> refine ae (aI (cU (ak (ax (by intro _ h; cases h) (by walk_at "kit")) rfl T.z_isinstance boot_isinstance (af (aa 0 rfl) (af (bT rfl T.z_int boot_int) aj ag) ag)) (fun hz=> (dH (fg (ak (ax (by intro _ h; cases h) (by walk_at "kit")) rfl T.z_isinstance boot_isinstance (af (aa 0 rfl) (af (bT rfl T.z_bool boot_bool) aj ag) ag)))))) ?_); exact rfl
 | bl n=> refine ae (aI (cU (ak (ax (by intro _ h; cases h) (by walk_at "kit")) rfl T.z_isinstance boot_isinstance (af (aa 0 rfl) (af (bT rfl T.z_int boot_int) aj ag) ag)) (fun hz=> (dH (fg (ak (ax (by intro _ h; cases h) (by walk_at "kit")) rfl T.z_isinstance boot_isinstance (af (aa 0 rfl) (af (bT rfl T.z_bool boot_bool) aj ag) ag)))))) ?_); exact rfl
 | non=> refine ae (aI (cU (ak (ax (by intro _ h; cases h) (by walk_at "kit")) rfl T.z_isinstance boot_isinstance (af (aa 0 rfl) (af (bT rfl T.z_int boot_int) aj ag) ag)) (fun hz=> (dH (fg (ak (ax (by intro _ h; cases h) (by walk_at "kit")) rfl T.z_isinstance boot_isinstance (af (aa 0 rfl) (af (bT rfl T.z_bool boot_bool) aj ag) ag)))))) ?_); exact rfl
 | str n=> refine ae (aI (cU (ak (ax (by intro _ h; cases h) (by walk_at "kit")) rfl T.z_isinstance boot_isinstance (af (aa 0 rfl) (af (bT rfl T.z_int boot_int) aj ag) ag)) (fun hz=> (dH (fg (ak (ax (by intro _ h; cases h) (by walk_at "kit")) rfl T.z_isinstance boot_isinstance (af (aa 0 rfl) (af (bT rfl T.z_bool boot_bool) aj ag) ag)))))) ?_); exact rfl
 | dic=> refine ae (aI (cU (ak (ax (by intro _ h; cases h) (by walk_at "kit")) rfl T.z_isinstance boot_isinstance (af (aa 0 rfl) (af (bT rfl T.z_int boot_int) aj ag) ag)) (fun hz=> (dH (fg (ak (ax (by intro _ h; cases h) (by walk_at "kit")) rfl T.z_isinstance boot_isinstance (af (aa 0 rfl) (af (bT rfl T.z_bool boot_bool) aj ag) ag)))))) ?_); exact rfl
 | scr n=> refine ae (aI (cU (ak (ax (by intro _ h; cases h) (by walk_at "kit")) rfl T.z_isinstance boot_isinstance (af (aa 0 rfl) (af (bT rfl T.z_int boot_int) aj ag) ag)) (fun hz=> (dH (fg (ak (ax (by intro _ h; cases h) (by walk_at "kit")) rfl T.z_isinstance boot_isinstance (af (aa 0 rfl) (af (bT rfl T.z_bool boot_bool) aj ag) ag)))))) ?_); exact rfl
 | lst n=> refine ae (aI (cU (ak (ax (by intro _ h; cases h) (by walk_at "kit")) rfl T.z_isinstance boot_isinstance (af (aa 0 rfl) (af (bT rfl T.z_int boot_int) aj ag) ag)) (fun hz=> (dH (fg (ak (ax (by intro _ h; cases h) (by walk_at "kit")) rfl T.z_isinstance boot_isinstance (af (aa 0 rfl) (af (bT rfl T.z_bool boot_bool) aj ag) ag)))))) ?_); exact rfl
 | tup n=> refine ae (aI (cU (ak (ax (by intro _ h; cases h) (by walk_at "kit")) rfl T.z_isinstance boot_isinstance (af (aa 0 rfl) (af (bT rfl T.z_int boot_int) aj ag) ag)) (fun hz=> (dH (fg (ak (ax (by intro _ h; cases h) (by walk_at "kit")) rfl T.z_isinstance boot_isinstance (af (aa 0 rfl) (af (bT rfl T.z_bool boot_bool) aj ag) ag)))))) ?_); exact rfl
def oA:List U→Out→Prop:=fun us o=> ∃ a b c d e f,us=[mv a b c d e f]∧Sz 30000 a∧Sz 30000 b∧Sz 30000 c∧Sz 30000 d∧o=.val (.int (a * d - b * c))
set_option maxHeartbeats 8000000 in
theorem mU (T:Txt K mg):aR P w K mg base (CXF P w) 1 T.a_hand T.d_hand ["move"] (spU K (oA)):=by
 refine aW T.F_hand rK (fun us o h=> ?_) (fun cdv A outer s H E O us o hr h=> ?_)
 ·obtain ⟨a,b,c,d,e,f,rfl,sa,sb,sc,sd,rfl⟩:=h
  rfl
 obtain ⟨a,b,c,d,e,f,rfl,sa,sb,sc,sd,rfl⟩:=h
 refine Ws.nox ?_
 refine ae (aI (bC (aZ (ay (aa 0 rfl) ai rfl rfl) (ay (aa 0 rfl) ai rfl rfl) (by walk_at "mul")) (aZ (ay (aa 0 rfl) ai rfl rfl) (ay (aa 0 rfl) ai rfl rfl) (by walk_at "mul"))) ?_); exact rfl
def ju:List U→Out→Prop:=fun us o=> ∃ u,us=[u]∧je u∧o=.val (.bl (fH u))
set_option maxHeartbeats 8000000 in
theorem lE (T:Txt K mg):aR P w K mg base (CXF P w) 2 T.a_is_move T.d_is_move ["thing"] (spU K (ju)):=by
 refine aW T.F_is_move gs (fun us o h=> ?_) (fun cdv A outer s H E O us o hr h=> ?_)
 ·obtain ⟨u,rfl,hu,rfl⟩:=h
  rfl
 obtain ⟨u,rfl,hu,rfl⟩:=h
 refine Ws.nox ?_
 cases u with
 | ty m=> exact absurd rfl (hu.ty m)
 | int n=> refine ae (cu (Tw.t (gG (dc (cS (ak (ax (by intro _ h; cases h) (by walk_at "kit")) rfl T.z_isinstance boot_isinstance (af (aa 0 rfl) (af (bT rfl T.z_tuple boot_tuple) aj ag) ag)))) rfl)) rfl ?_); refine ae (aI dY ?_); exact rfl
 | bl n=> refine ae (cu (Tw.t (gG (dc (cS (ak (ax (by intro _ h; cases h) (by walk_at "kit")) rfl T.z_isinstance boot_isinstance (af (aa 0 rfl) (af (bT rfl T.z_tuple boot_tuple) aj ag) ag)))) rfl)) rfl ?_); refine ae (aI dY ?_); exact rfl
 | non=> refine ae (cu (Tw.t (gG (dc (cS (ak (ax (by intro _ h; cases h) (by walk_at "kit")) rfl T.z_isinstance boot_isinstance (af (aa 0 rfl) (af (bT rfl T.z_tuple boot_tuple) aj ag) ag)))) rfl)) rfl ?_); refine ae (aI dY ?_); exact rfl
 | str n=> refine ae (cu (Tw.t (gG (dc (cS (ak (ax (by intro _ h; cases h) (by walk_at "kit")) rfl T.z_isinstance boot_isinstance (af (aa 0 rfl) (af (bT rfl T.z_tuple boot_tuple) aj ag) ag)))) rfl)) rfl ?_); refine ae (aI dY ?_); exact rfl
 | dic=> refine ae (cu (Tw.t (gG (dc (cS (ak (ax (by intro _ h; cases h) (by walk_at "kit")) rfl T.z_isinstance boot_isinstance (af (aa 0 rfl) (af (bT rfl T.z_tuple boot_tuple) aj ag) ag)))) rfl)) rfl ?_); refine ae (aI dY ?_); exact rfl
 | scr n=> refine ae (cu (Tw.t (gG (dc (cS (ak (ax (by intro _ h; cases h) (by walk_at "kit")) rfl T.z_isinstance boot_isinstance (af (aa 0 rfl) (af (bT rfl T.z_tuple boot_tuple) aj ag) ag)))) rfl)) rfl ?_); refine ae (aI dY ?_); exact rfl
 | lst n=> refine ae (cu (Tw.t (gG (dc (cS (ak (ax (by intro _ h; cases h) (by walk_at "kit")) rfl T.z_isinstance boot_isinstance (af (aa 0 rfl) (af (bT rfl T.z_tuple boot_tuple) aj ag) ag)))) rfl)) rfl ?_); refine ae (aI dY ?_); exact rfl
 | tup xs=>
  refine ae (ii (Tw.t (sC (dc (cS (ak (ax (by intro _ h; cases h) (by walk_at "kit")) rfl T.z_isinstance boot_isinstance (af (aa 0 rfl) (af (bT rfl T.z_tuple boot_tuple) aj ag) ag)))) (fun hz=> (qM (aT p9 (ak (cx rfl) rfl T.z_len PySem.boot_len (af (aa 0 rfl) aj ag)) ai))))) (fun hT=> ?_) (fun hF=> (aU ?_)))
  ·have:xs.length≠6:=fun e=> by rw [e] at hT; revert hT; decide
   refine ae (aI dY ?_)
   exact vB (qD this).symm
  ·have hl:xs.length=6:=by
    have:=nFb (show (!decide ((xs.length:Int)=6))=false from hF)
    omega
   refine ae (ii (dc (cS (ak (wl rfl (bs:=xs.map isInt)) rfl T.z_all boot_all (af (EvN.ev (e6  rfl (blk (ah cA) ["thing","number"] [1] rfl rfl rfl rfl (by decide+kernel)) (ud (aa 0 rfl)) (fun _ _ _ _=> bW (i:=1) gs.nd rfl (Or.inl rfl)) (cv (by decide)) ?clen ?csz (fun _ _=> trivial) ?celt)) aj dO)))) (fun hT=> ?_) (fun hF=> (aU ?_)))
   case clen=> simp
   case csz=> exact Nat.le_trans (hu.len xs rfl) (by decide)
   case celt=>
    intro C s' H' fp i x y hx hy
    rw [List.getElem?_map,List.getElem?_map,hx] at hy
    cases hy
    exact (aN ((j8 T).mono (by decide)) hr rfl T.m_is_whole T.F_is_whole.kp T.b_is_whole aC (af (aa 1 rfl) aj ag) ⟨x,rfl,hu.ity xs rfl x (List.mem_of_getElem? hx),rfl⟩)
   ·have hall:xs.all isInt=false:=by simpa using hT
    refine ae (aI dY ?_)
    exact vB (p6 hall).symm
   ·have hall:xs.all isInt=true:=by simpa using hF
    obtain ⟨a,b,c,d,e,f,rfl⟩:=uo hl hall
    obtain ⟨sa,sb,sc,sd⟩:=hu.sz a b c d e f rfl
    refine ae (aI (g4 (wE rfl rfl rfl) (aN ((mU T).mono (by decide)) hr rfl T.m_hand T.F_hand.kp T.b_hand aC (af (aa 0 rfl) aj ag) ⟨a,b,c,d,e,f,rfl,sa,sb,sc,sd,rfl⟩) (bG (ao ai (ao (df ai) a_ i9) bH))) ?_)
    refine vB ?_
    show inV (fl (.int (a * d - b * c))) ([U.int 1,.int (-1)].map fl)=_
    rw [show fH (.tup [.int a,.int b,.int c,.int d,.int e,.int f])=(decide (a * d - b * c=1) || decide (a * d - b * c=-1)) from rfl]
    generalize a * d - b * c=h
    rw [Bool.eq_iff_iff]
    simp [inV,fl,eqV]
    omega
def fC (C:Addr):List U→Out→Prop:=fun us o=> ∃ u,us=[u]∧je u∧o=if fH u=true then .val .non else .exc C
set_option maxHeartbeats 8000000 in
theorem cV (T:Txt K mg):aR P w K mg base (CXF P w) 3 T.a_need_move T.d_need_move ["thing"] (spU K (fC T.c_NoMove)):=by
 refine aW T.F_need_move jm (fun us o h=> ?_) (fun cdv A outer s H E O us o hr h=> ?_)
 ·obtain ⟨u,rfl,hu,rfl⟩:=h
  rfl
 obtain ⟨u,rfl,hu,rfl⟩:=h
 refine ae (ii (dc (cS (aN ((lE T).mono (by decide)) hr rfl T.m_is_move T.F_is_move.kp T.b_is_move aC (af (aa 0 rfl) aj ag) ⟨u,rfl,hu,rfl⟩))) (fun hT=> ?_) (fun hF=> (aU (aU ?_))))
 ·have h:fH u=false:=by simpa using hT
  refine ae (gj T.x_NoMove rfl T.mx_NoMove mR ?_)
  show Out.exc _=_
  rw [if_neg (by rw [h]; decide)]
 ·have h:fH u=true:=by simpa using hF
  show _=_
  rw [if_pos h]
structure Mv (a b c d e f:Int):Prop where
 u:a * d - b * c=1∨a * d - b * c=-1
 a:Sz 30000 a
 b:Sz 30000 b
 c:Sz 30000 c
 d:Sz 30000 d
 e:Sz 30000 e
 f:Sz 30000 f
theorem Mv.ok {a b c d e f:Int} (M:Mv a b c d e f):je (mv a b c d e f):=je.of M.a M.b M.c M.d
theorem Mv.need {C:Addr} {a b c d e f:Int} (M:Mv a b c d e f):fC C [mv a b c d e f] (.val .non):=⟨_,rfl,M.ok,by rw [if_pos (rF M.u)]⟩
theorem mJ {C:Addr} {u:U} (h:je u) (n:fH u=false):fC C [u] (.exc C):=⟨_,rfl,h,by rw [if_neg (by rw [n]; decide)]⟩
def jP:List U→Out→Prop:=fun us o=> ∃ x y a b c d e f,us=[pt x y,mv a b c d e f]∧(Sz 30000 x∧Sz 30000 y∧Sz 30000 a∧Sz 30000 b∧Sz 30000 c∧Sz 30000 d)∧o=.val (pt (a * x+b * y) (c * x+d * y))
set_option maxHeartbeats 8000000 in
theorem oj (T:Txt K mg):aR P w K mg base (CXF P w) 1 T.a_turned T.d_turned ["P","move"] (spU K (jP)):=by
 refine aW T.F_turned nG (fun us o h=> ?_) (fun cdv A outer s H E O us o hr h=> ?_)
 ·obtain ⟨x,y,a,b,c,d,e,f,rfl,⟨sx,sy,sa,sb,sc,sd⟩,rfl⟩:=h
  rfl
 obtain ⟨x,y,a,b,c,d,e,f,rfl,⟨sx,sy,sa,sb,sc,sd⟩,rfl⟩:=h
 refine Ws.nox ?_
 refine ae (aI (bG (ao (bS (aZ (ay (aa 1 rfl) ai rfl rfl) (ay (aa 0 rfl) ai rfl rfl) (by walk_at "mul")) (aZ (ay (aa 1 rfl) ai rfl rfl) (ay (aa 0 rfl) ai rfl rfl) (by walk_at "mul"))) (ao (bS (aZ (ay (aa 1 rfl) ai rfl rfl) (ay (aa 0 rfl) ai rfl rfl) (by walk_at "mul")) (aZ (ay (aa 1 rfl) ai rfl rfl) (ay (aa 0 rfl) ai rfl rfl) (by walk_at "mul"))) a_ aP) aP)) ?_); exact rfl
def lf (C:Addr):List U→Out→Prop:=fun us o=> (∃ x y a b c d e f,us=[pt x y,mv a b c d e f]∧Mv a b c d e f∧Sz 30000 x∧Sz 30000 y∧o=.val (pt (a * x+b * y+e) (c * x+d * y+f)))∨(∃ v u,us=[v,u]∧je u∧fH u=false∧o=.exc C)
set_option maxHeartbeats 8000000 in
theorem j_ (T:Txt K mg):aR P w K mg base (CXF P w) 4 T.a_moved T.d_moved ["P","move"] (spU K (lf T.c_NoMove)):=by
 refine aW T.F_moved kv (by rintro us o (⟨x,y,a,b,c,d,e,f,rfl,_⟩ | ⟨v,u,rfl,_⟩) <;> rfl) (fun cdv A outer s H E O us o hr h=> ?_)
 rcases h with ⟨x,y,a,b,c,d,e,f,rfl,M,sx,sy,rfl⟩ | ⟨v,u,rfl,hu,hn,rfl⟩
 ·refine ae (rq (aN ((cV T).mono (by decide)) hr rfl T.m_need_move T.F_need_move.kp T.b_need_move aC (af (aa 1 rfl) aj ag) M.need) ?_)
  refine ae (aE (i:=2) kv.nd rfl (Or.inl rfl) (aN ((oj T).mono (by decide)) hr rfl T.m_turned T.F_turned.kp T.b_turned aC (af (aa 0 rfl) (af (aa 1 rfl) aj ag) ag) ⟨x,y,a,b,c,d,e,f,rfl,⟨sx,sy,M.a,M.b,M.c,M.d⟩,rfl⟩) ?_)
  refine ae (aI (bG (ao (bS (ay (aa 2 rfl) ai rfl rfl) (ay (aa 1 rfl) ai rfl rfl)) (ao (bS (ay (aa 2 rfl) ai rfl rfl) (ay (aa 1 rfl) ai rfl rfl)) a_ aP) aP)) ?_)
  exact rfl
 ·refine ae (mI (lJ ((cV T).mono (by decide)) hr rfl T.m_need_move T.F_need_move.kp T.b_need_move iX (af (aa 1 rfl) aj ag) (mJ hu hn)) ?_)
  exact rfl
end
section
variable {P:Program} {w:World} {K:PySem.W.Frag} {mg:Str→Option Value} {base:Heap}
def uM (a b c d e f:Int):U:=
 mv ((a * d - b * c) * d) (-(a * d - b * c) * b) (-(a * d - b * c) * c) ((a * d - b * c) * a) (-((a * d - b * c) * d * e+-(a * d - b * c) * b * f)) (-(-(a * d - b * c) * c * e+(a * d - b * c) * a * f))
def nK (C:Addr):List U→Out→Prop:=fun us o=> (∃ a b c d e f,us=[mv a b c d e f]∧Mv a b c d e f∧o=.val (uM a b c d e f))∨(∃ u,us=[u]∧je u∧fH u=false∧o=.exc C)
set_option maxHeartbeats 8000000 in
theorem jB (T:Txt K mg):aR P w K mg base (CXF P w) 4 T.a_way_back T.d_way_back ["move"] (spU K (nK T.c_NoMove)):=by
 refine aW T.F_way_back b_ (by rintro us o (⟨a,b,c,d,e,f,rfl,_⟩ | ⟨u,rfl,_⟩) <;> rfl) (fun cdv A outer s H E O us o hr h=> ?_)
 rcases h with ⟨a,b,c,d,e,f,rfl,M,rfl⟩ | ⟨u,rfl,hu,hn,rfl⟩
 ·obtain ⟨hd,sa,sb,sc,sd,se,sf⟩:=M
  have M:Mv a b c d e f:=⟨hd,sa,sb,sc,sd,se,sf⟩
  have sh:Sz 8 (a * d - b * c):=by rcases hd with h | h <;> rw [h] <;> decide
  refine ae (rq (aN ((cV T).mono (by decide)) hr rfl T.m_need_move T.F_need_move.kp T.b_need_move aC (af (aa 0 rfl) aj ag) M.need) ?_)
  refine ae (aE (i:=1) b_.nd rfl (Or.inl rfl) (aN ((mU T).mono (by decide)) hr rfl T.m_hand T.F_hand.kp T.b_hand aC (af (aa 0 rfl) aj ag) ⟨a,b,c,d,e,f,rfl,sa,sb,sc,sd,rfl⟩) ?_)
  refine ae (aE (i:=2) b_.nd rfl (Or.inl rfl) (aZ (aa 1 rfl) (ay (aa 0 rfl) ai rfl rfl) (by walk_at "mul")) ?_)
  refine ae (aE (i:=3) b_.nd rfl (Or.inl rfl) (aZ (df (aa 1 rfl)) (ay (aa 0 rfl) ai rfl rfl) (by walk_at "mul")) ?_)
  refine ae (aE (i:=4) b_.nd rfl (Or.inl rfl) (aZ (df (aa 1 rfl)) (ay (aa 0 rfl) ai rfl rfl) (by walk_at "mul")) ?_)
  refine ae (aE (i:=5) b_.nd rfl (Or.inl rfl) (aZ (aa 1 rfl) (ay (aa 0 rfl) ai rfl rfl) (by walk_at "mul")) ?_)
  refine ae (aI (bG (ao (aa 2 rfl) (ao (aa 3 rfl) (ao (aa 4 rfl) (ao (aa 5 rfl) (ao (df (bS (aZ (aa 2 rfl) (ay (aa 0 rfl) ai rfl rfl) (by walk_at "mul")) (aZ (aa 3 rfl) (ay (aa 0 rfl) ai rfl rfl) (by walk_at "mul")))) (ao (df (bS (aZ (aa 4 rfl) (ay (aa 0 rfl) ai rfl rfl) (by walk_at "mul")) (aZ (aa 5 rfl) (ay (aa 0 rfl) ai rfl rfl) (by walk_at "mul")))) a_ i9) i9) ag) ag) ag) ag)) ?_)
  exact rfl
 ·refine ae (mI (lJ ((cV T).mono (by decide)) hr rfl T.m_need_move T.F_need_move.kp T.b_need_move iX (af (aa 0 rfl) aj ag) (mJ hu hn)) ?_)
  exact rfl
theorem p5 {a b g s t:Int} (G:dj a b g s t):g=((Int.gcd a b:Nat):Int):=by
 have h1:g ∣ ((Int.gcd a b:Nat):Int):=Int.dvd_coe_gcd G.da G.db
 have h2:((Int.gcd a b:Nat):Int) ∣ g:=by
  rw [← G.eq]
  exact Int.dvd_add (Int.dvd_trans (Int.gcd_dvd_left ..) (Int.dvd_mul_left _ _)) (Int.dvd_trans (Int.gcd_dvd_right ..) (Int.dvd_mul_left _ _))
 exact Int.dvd_antisymm G.g0 (Int.natCast_nonneg _) h1 h2
theorem oW (a b:Int):∃ s t,dj a b ((Int.gcd a b:Nat):Int) s t:=by
 obtain ⟨g,s,t,G⟩:=mD a b
 have e:=p5 G
 subst e
 exact ⟨s,t,G⟩
structure oP (x0 y0 x1 y1:Int):Prop where
 s0:Sz 3000 x0
 t0:Sz 3000 y0
 s1:Sz 3000 x1
 t1:Sz 3000 y1
def lF:List U→Out→Prop:=fun us o=> ∃ x0 y0 x1 y1 g s t:Int,us=[pt x0 y0,pt x1 y1]∧oP x0 y0 x1 y1∧dj (x1 - x0) (y1 - y0) g s t∧o=.val (.int g)
set_option maxHeartbeats 8000000 in
theorem gA (T:Txt K mg):aR P w K mg base (CXF P w) 3 T.a_steps T.d_steps ["P","Q"] (spU K (lF)):=by
 refine aW T.F_steps pN (fun us o h=> ?_) (fun cdv A outer s H E O us o hr h=> ?_)
 ·obtain ⟨x0,y0,x1,y1,g,s,t,rfl,⟨s0,t0,s1,t1⟩,G,rfl⟩:=h
  rfl
 obtain ⟨x0,y0,x1,y1,g,s,t,rfl,⟨s0,t0,s1,t1⟩,G,rfl⟩:=h
 refine Ws.nox ?_
 refine ae (aI (ay (aN ((iR T).mono (by decide)) hr rfl T.m_shares T.F_shares.kp T.b_shares aC (af (bC (ay (aa 1 rfl) ai rfl rfl) (ay (aa 0 rfl) ai rfl rfl)) (af (bC (ay (aa 1 rfl) ai rfl rfl) (ay (aa 0 rfl) ai rfl rfl)) aj aP) aP) ⟨_,_,g,s,t,rfl,by walk_at "szb",by walk_at "szb",G,rfl⟩) ai rfl rfl) ?_)
 exact rfl
def lU (C:Addr):List U→Out→Prop:=fun us o=> (∃ x0 y0 x1 y1 g a b s t:Int,us=[pt x0 y0,pt x1 y1]∧oP x0 y0 x1 y1∧dj (x1 - x0) (y1 - y0) g a b∧g≠0∧dj ((x1 - x0) / g) ((y1 - y0) / g) 1 s t∧
  o=.val (mv s t (-((y1 - y0) / g)) ((x1 - x0) / g) (-s * x0 - t * y0) ((y1 - y0) / g * x0 - (x1 - x0) / g * y0)))∨(∃ x0 y0:Int,us=[pt x0 y0,pt x0 y0]∧oP x0 y0 x0 y0∧o=.exc C)
theorem iP (x y:Int):dj (x - x) (y - y) 0 0 0:=by
 rw [Int.sub_self,Int.sub_self]
 exact ⟨by decide,by decide,⟨0,by simp⟩,⟨0,by simp⟩,fun _=> ⟨rfl,rfl,rfl⟩,fun h=> absurd rfl h⟩
set_option maxHeartbeats 8000000 in
theorem o5 (T:Txt K mg):aR P w K mg base (CXF P w) 4 T.a_level T.d_level ["P","Q"] (spU K (lU T.c_NoMove)):=by
 refine aW T.F_level cI (by rintro us o (⟨x0,y0,x1,y1,g,a,b,s,t,rfl,_⟩ | ⟨x0,y0,rfl,_⟩) <;> rfl) (fun cdv A outer s H E O us o hr h=> ?_)
 rcases h with ⟨x0,y0,x1,y1,g,a,b,s,t,rfl,two,G,gn,G1,rfl⟩ | ⟨x0,y0,rfl,two,rfl⟩
 ·have gp:0 < g:=by have:=G.g0; omega
  obtain ⟨s0,t0,s1,t1⟩:=two
  have two:oP x0 y0 x1 y1:=⟨s0,t0,s1,t1⟩
  have sx:Sz 3001 (x1 - x0):=by walk_at "szb"
  have sy:Sz 3001 (y1 - y0):=by walk_at "szb"
  obtain ⟨sg,_,_⟩:=jo G sx sy
  have su:Sz 3001 ((x1 - x0) / g):=sx.ediv
  have sv:Sz 3001 ((y1 - y0) / g):=sy.ediv
  obtain ⟨_,ss,st⟩:=jo G1 su sv
  refine ae (aE (i:=2) cI.nd rfl (Or.inl rfl) (aN ((gA T).mono (by decide)) hr rfl T.m_steps T.F_steps.kp T.b_steps aC (af (aa 0 rfl) (af (aa 1 rfl) aj ag) ag) ⟨x0,y0,x1,y1,g,a,b,rfl,two,G,rfl⟩) ?_)
  refine ae (cw (aT cJ (aa 2 rfl) ai) (decide_eq_false gn) (aU ?_))
  refine ae (aE (i:=3) cI.nd rfl (Or.inl rfl) (gH (bC (ay (aa 1 rfl) ai rfl rfl) (ay (aa 0 rfl) ai rfl rfl)) (aa 2 rfl) ⟨gp,sg.mono (by decide)⟩) ?_)
  refine ae (aE (i:=4) cI.nd rfl (Or.inl rfl) (gH (bC (ay (aa 1 rfl) ai rfl rfl) (ay (aa 0 rfl) ai rfl rfl)) (aa 2 rfl) ⟨gp,sg.mono (by decide)⟩) ?_)
  refine ae (aE (i:=5) cI.nd rfl (Or.inl rfl) (aN ((iR T).mono (by decide)) hr rfl T.m_shares T.F_shares.kp T.b_shares aC (af (aa 3 rfl) (af (aa 4 rfl) aj ag) ag) ⟨_,_,1,s,t,rfl,su.mono (by decide),sv.mono (by decide),G1,rfl⟩) ?_)
  refine ae (aE (i:=6) cI.nd rfl (Or.inl rfl) (ay (aa 5 rfl) ai rfl rfl) ?_)
  refine ae (aE (i:=7) cI.nd rfl (Or.inl rfl) (ay (aa 5 rfl) ai rfl rfl) ?_)
  refine ae (aI (bG (ao (aa 6 rfl) (ao (aa 7 rfl) (ao (df (aa 4 rfl)) (ao (aa 3 rfl) (ao (bC (aZ (df (aa 6 rfl)) (ay (aa 0 rfl) ai rfl rfl) (by walk_at "mul")) (aZ (aa 7 rfl) (ay (aa 0 rfl) ai rfl rfl) (by walk_at "mul"))) (ao (bC (aZ (aa 4 rfl) (ay (aa 0 rfl) ai rfl rfl) (by walk_at "mul")) (aZ (aa 3 rfl) (ay (aa 0 rfl) ai rfl rfl) (by walk_at "mul"))) a_ aP) aP) ag) i9) ag) ag)) ?_)
  exact rfl
 ·refine ae (aE (i:=2) cI.nd rfl (Or.inl rfl) (aN ((gA T).mono (by decide)) hr rfl T.m_steps T.F_steps.kp T.b_steps aC (af (aa 0 rfl) (af (aa 1 rfl) aj ag) ag) ⟨x0,y0,x0,y0,0,0,0,rfl,two,iP x0 y0,rfl⟩) ?_)
  refine ae (cu (aT cJ (aa 2 rfl) ai) rfl ?_)
  refine ae (gj T.x_NoMove rfl T.mx_NoMove mR ?_)
  exact rfl
end
section
variable {P:Program} {w:World} {K:PySem.W.Frag} {mg:Str→Option Value} {base:Heap}
abbrev Pt:=Int×Int
def plt (p q:Pt):Prop:=p.1 < q.1∨(p.1=q.1∧p.2 < q.2)
def lH (a b p:Pt):Int:=(b.1 - a.1) * (p.2 - a.2) - (b.2 - a.2) * (p.1 - a.1)
def wd:List Pt→Prop
 | b::a::r=> plt a b∧wd (a::r)
 | _=> True
def uc:List Pt→Prop
 | c::b::a::r=> 0 < lH a b c∧uc (b::a::r)
 | _=> True
def t8 (done:List Pt):List Pt→Prop
 | b::a::r=> (∀ q∈done,0≤lH a b q)∧t8 done (a::r)
 | _=> True
def dh (P:Pt):List Pt→List Pt
 | b::a::r=> if lH a b P≤0 then dh P (a::r) else b::a::r
 | st=> st
def cy (row:List Pt):List Pt:=row.foldl (fun st P=> P::dh P st) []
structure Kept (done st:List Pt):Prop where
 ne:st≠[]
 desc:wd st
 turns:uc st
 tU:t8 done st
 sub:∀ p∈st,p∈done
structure w6 (done st:List Pt) (P:Pt):Prop extends Kept done st where
 pend:∀ h r,st=h::r→∀ q∈done,plt h q→0≤lH h P q
theorem kQ (row:List Pt) (P:Pt):cy (row++[P])=P::dh P (cy row):=by
 unfold cy; rw [List.foldl_append]; rfl
def low (row:List Pt) (p:Pt):Prop:=∀ a∈row,∀ b∈row,plt a p→plt p b→0 < lH a p b
abbrev Szp (m:Nat) (p:P2):Prop:=Sz m p.1∧Sz m p.2
theorem wj (b:P2) (r:List P2):atI ((b::r).reverse.map pu) (-1)=some (pu b):=by
 have h:ixN ((b::r).reverse.map pu).length (-1)=some r.length:=by
  unfold ixN
  simp
  omega
 unfold atI
 rw [h]
 simp
theorem vQ (b a:P2) (r:List P2):atI ((b::a::r).reverse.map pu) (-2)=some (pu a):=by
 have h:ixN ((b::a::r).reverse.map pu).length (-2)=some r.length:=by
  unfold ixN
  simp
  omega
 unfold atI
 rw [h]
 simp
theorem i5 (P:P2):∀ st:List P2,(dh P st).length≤st.length
 | []=> Nat.le_refl _
 | [_]=> Nat.le_refl _
 | b::a::r=> by
  unfold dh
  split
  ·have:=i5 P (a::r); simp only [List.length_cons] at *; omega
  ·exact Nat.le_refl _
theorem ms (P:P2):∀ (st:List P2) (q:P2),q∈dh P st→q∈st
 | [],_,h=> h
 | [_],_,h=> h
 | b::a::r,q,h=> by
  unfold dh at h
  split at h
  ·exact List.mem_cons_of_mem _ (ms P (a::r) q h)
  ·exact h
theorem eW {row:List P2} {i:Nat} {P:P2} (h:row[i]?=some P):cy (row.take (i+1))=P::dh P (cy (row.take i)):=by
 rw [List.take_succ,h]; exact kQ _ _
theorem fw (row:List P2):∀ i,(cy (row.take i)).length≤i
 | 0=> by simp [cy]
 | i+1=> by
  have ih:=fw row i
  cases h:row[i]? with
  | none=> rw [List.take_succ,h]; simp; omega
  | some P=>
   rw [eW h]
   have:=i5 P (cy (row.take i))
   simp only [List.length_cons]; omega
theorem fI (row:List P2):∀ i q,q∈cy (row.take i)→q∈row
 | 0,q,h=> by simp [cy] at h
 | i+1,q,h=> by
  cases hi:row[i]? with
  | none=> rw [List.take_succ,hi] at h; exact fI row i q (by simpa using h)
  | some P=>
   rw [eW hi] at h
   rcases List.mem_cons.mp h with e | e
   ·rw [e]; exact List.mem_of_getElem? hi
   ·exact fI row i q (ms P _ q e)
theorem o6 (n:Int):decide (sgn n < 1)=decide (n≤0):=by
 have h:sgn n < 1↔n≤0:=by
  unfold sgn
  split
  ·omega
  ·split <;> omega
 exact decide_eq_decide.mpr h
theorem jq (l:List P2):e7 (l.map pu) none (some (-1))=l.dropLast.map pu:=by
 unfold e7 HT.sIx
 rw [List.map_dropLast,List.dropLast_eq_take]
 simp
 try omega
def fh (pts:List P2):List P2:=if (ST.srt pts).length=1 then ST.srt pts else (cy (ST.srt pts)).reverse.dropLast++(cy (ST.srt pts).reverse).reverse.dropLast
end
section
variable {P:Program} {w:World} {K:PySem.W.Frag} {mg:Str→Option Value} {base:Heap}
def ov:List U→Out→Prop:=fun us o=> ∃ P Q R:P2,us=[pu P,pu Q,pu R]∧Szp 5000 P∧Szp 5000 Q∧Szp 5000 R∧o=.val (.int (sgn (lH P Q R)))
set_option maxHeartbeats 8000000 in
theorem sW (T:Txt K mg):aR P w K mg base (CXF P w) 2 T.a_turn T.d_turn ["P","Q","R"] (spU K (ov)):=by
 refine aW T.F_turn sN (fun us o h=> ?_) (fun cdv A outer s H E O us o hr h=> ?_)
 ·obtain ⟨P,Q,R,rfl,⟨p1,p2⟩,⟨q1,q2⟩,⟨r1,r2⟩,rfl⟩:=h
  rfl
 obtain ⟨P,Q,R,rfl,⟨p1,p2⟩,⟨q1,q2⟩,⟨r1,r2⟩,rfl⟩:=h
 refine Ws.nox ?_
 refine ae (aI (aN ((mz T).mono (by decide)) hr rfl T.m_sign T.F_sign.kp T.b_sign aC (af (bC (aZ (bC (ay (aa 1 rfl) ai rfl rfl) (ay (aa 0 rfl) ai rfl rfl)) (bC (ay (aa 2 rfl) ai rfl rfl) (ay (aa 0 rfl) ai rfl rfl)) (by walk_at "mul")) (aZ (bC (ay (aa 1 rfl) ai rfl rfl) (ay (aa 0 rfl) ai rfl rfl)) (bC (ay (aa 2 rfl) ai rfl rfl) (ay (aa 0 rfl) ai rfl rfl)) (by walk_at "mul"))) aj aP) ⟨_,rfl,rfl⟩) ?_)
 exact rfl
def kR:List U→Out→Prop:=fun us o=> ∃ row:List P2,us=[lp row]∧(∀ p∈row,Szp 5000 p)∧row.length≤900∧o=.new ((cy row).reverse.map pu)
set_option maxHeartbeats 8000000 in
theorem eU (T:Txt K mg):aR P w K mg base (CXF P w) 3 T.a_left_bends T.d_left_bends ["row"] (spU K (kR)):=by
 refine aW T.F_left_bends dk (fun us o h=> ?_) (fun cdv A outer s H E O us o hr h=> ?_)
 ·obtain ⟨row,rfl,sz,hl,rfl⟩:=h
  rfl
 obtain ⟨row,rfl,sz,hl,rfl⟩:=h
 refine Ws.nox ?_
 refine ae (j6 (i:=1) dk.nd rfl (Or.inl rfl) (cm a_) ?_)
 refine ae (fF (fun st:List P2=> [some (.val (lp row)),some (.own (st.reverse.map pu)),none]) (fun i st=> st=cy (row.take i)) rfl PassesOwn.never (eu (aa 0 rfl) (.inl rfl)) ?h0 ?hs ?hd)
 case h0=> exact ⟨[],rfl,rfl,rfl,trivial⟩
 case hs=>
  rintro H0 i x _ hx rfl
  obtain ⟨P,hP,mP,rfl⟩:=mS hx
  have hi:i < row.length:=aJ hP
  have sP:=sz P mP
  refine ⟨_,(gO (i:=2) dk.nd rfl (Or.inl rfl)),?_⟩
  have len0:=fw row i
  refine pJ (fun ps=> SubP [some (.val (lp row)),some (.own ((dh P (cy (row.take i))).reverse.map pu)),some (.val (pu P))] ps) (gK (fun s2:List P2=> [some (.val (lp row)),some (.own (s2.reverse.map pu)),some (.val (pu P))]) (fun m s2=> m=s2.length∧dh P s2=dh P (cy (row.take i))∧(∀ p∈s2,p∈row)∧s2.length≤i) PassesOwn.never ?h0 ?hs) ?hj
  case h0=> exact ⟨_,_,⟨rfl,rfl,fun q hq=> fI row i q hq,len0⟩,rfl,rfl,rfl,trivial⟩
  case hs=>
   rintro m s2 ⟨rfl,e2,sub,len2⟩
   match s2,e2,sub,len2 with
   | [],e2,sub,len2=>
    refine ⟨false,?_,fun h=> (nomatch h),fun h ps hps=> e2 ▸ hps⟩
    exact (Tw.t (oU (aT fY (jj 1 rfl rfl T.z_len) ai) rfl))
   | [b],e2,sub,len2=>
    refine ⟨false,?_,fun h=> (nomatch h),fun h ps hps=> e2 ▸ hps⟩
    exact (Tw.t (oU (aT fY (jj 1 rfl rfl T.z_len) ai) rfl))
   | b::a::r,e2,sub,len2=>
    have sa:=sz a (sub a (by simp))
    have sb:=sz b (sub b (by simp))
    have e1:decide ((1:Int) < ((((b::a::r).reverse.map pu).length:Nat):Int))=true:=decide_eq_true (by simp; omega)
    refine ⟨decide ((1:Int) < ((((b::a::r).reverse.map pu).length:Nat):Int)) && decide (sgn (lH a b P) < 1),?_,fun h=> ?_,fun h ps hps=> ?_⟩
    ·exact (Tw.t (tK (aT fY (jj 1 rfl rfl T.z_len) ai) (fun hz=> (vf (aT lQ (aN ((sW T).mono (by decide)) hr rfl T.m_turn T.F_turn.kp T.b_turn aC (af (tX 1 rfl (df ai) (vQ b a r)) (af (tX 1 rfl (df ai) (wj b (a::r))) (af (aa 2 rfl) aj ag) bF) bF) ⟨a,b,P,rfl,sa,sb,sP,rfl⟩) ai)))))
    ·rw [e1,Bool.true_and,o6] at h
     have hd:=dTb h
     refine ae (wx 1 rfl (by simp) (aU ?_))
     refine ⟨_,a::r,?_,⟨rfl,?_,fun q hq=> sub q (List.mem_cons_of_mem _ hq),?_⟩,rfl,?_,rfl,trivial⟩
     ·simp
     ·rw [← e2]; conv=> rhs; unfold dh
      rw [if_pos hd]
     ·simp only [List.length_cons] at *; omega
     ·exact congrArg (fun l=> some (Sl.own l)) (by simp)
    ·rw [e1,Bool.true_and,o6] at h
     have hd:=dFb h
     have e3:dh P (b::a::r)=b::a::r:=by conv=> lhs; unfold dh
                                        rw [if_neg hd]
     rw [← e2,e3]
     exact hps
  case hj=>
   intro ps hps
   refine e_ ?_ hps
   have e4:=eW hP
   have len3:=i5 P (cy (row.take i))
   refine ae (jO 1 rfl (aa 2 rfl) (by rw [List.length_map,List.length_reverse]; exact ba (by omega)) (aU ?_))
   refine ⟨_,rfl,rfl,?_,trivial⟩
   exact congrArg (fun l=> some (Sl.own l)) (by rw [e4]; simp)
 case hd=>
  rintro st ps hst hps
  refine e_ ?_ hps
  refine ae (qq 1 rfl ?_)
  rw [hst]
  simp
end
section
variable {P:Program} {w:World} {K:PySem.W.Frag} {mg:Str→Option Value} {base:Heap}
theorem vz {m:Nat} {pts:List P2} (h:∀ p∈pts,Szp m p):∀ p∈ST.srt pts,Szp m p:=fun p hp=> h p ((ST.srt_mem p pts).mp hp)
theorem jG (row:List P2):(cy row).length≤row.length:=by
 have:=fw row row.length
 rwa [List.take_length] at this
def lR (C:Addr):List U→Out→Prop:=fun us o=> ∃ pts:List P2,us=[lp pts]∧(∀ p∈pts,Szp 5000 p)∧pts.length < 64∧o=(if pts=[] then .exc C else .new ((fh pts).map pu))
set_option maxHeartbeats 8000000 in
theorem jX (T:Txt K mg):aR P w K mg base (CXF P w) 4 T.a_field T.d_field ["points"] (spU K (lR T.c_NoField)):=by
 refine aW T.F_field d7 (by rintro us o ⟨_,rfl,_⟩; rfl) (fun cdv A outer s H E O us o hr h=> ?_)
 obtain ⟨pts,rfl,sz,hl,rfl⟩:=h
 have hml:((pts.map pu).length:Int)=(pts.length:Int):=by rw [List.length_map]
 by_cases hne:pts=[]
 ·subst hne
  refine ae (cu (aT cJ (ak (cx rfl) rfl T.z_len PySem.boot_len (af (aa 0 rfl) aj ag)) ai) rfl ?_)
  refine ae (gj T.x_NoField rfl T.mx_NoField mR ?_)
  exact rfl
 ·have hpos:0 < pts.length:=List.length_pos_iff.mpr hne
  rw [if_neg hne]
  refine ae (cw (aT cJ (ak (cx rfl) rfl T.z_len PySem.boot_len (af (aa 0 rfl) aj ag)) ai) (by rw [hml]; exact decide_eq_false (by omega)) (aU ?_))
  have sl:=ST.srt_len pts
  have hms:(((ST.srt pts).map pu).length:Int)=((ST.srt pts).length:Int):=by rw [List.length_map]
  have szs:=vz sz
  refine Ws.nox ?_
  by_cases h1:(ST.srt pts).length=1
  ·refine ae (j6 (i:=1) d7.nd rfl (Or.inl rfl) (iS rfl (im hr) rfl T.z_sorted rfl T.z_set (aa 0 rfl) hl ag) ?_)
   refine ae (cu (aT cJ (jj 1 rfl rfl T.z_len) ai) (by rw [hms]; exact decide_eq_true (by omega)) ?_)
   refine ae (qq 1 rfl ?_)
   show Out.new _=Out.new _
   unfold fh
   rw [if_pos h1]
  ·refine ae (aE (i:=1) d7.nd rfl (Or.inl rfl) (EvN.ev (iS rfl (im hr) rfl T.z_sorted rfl T.z_set (aa 0 rfl) hl ag)) ?_)
   refine ae (cw (aT cJ (ak (cx rfl) rfl T.z_len PySem.boot_len (af (aa 1 rfl) aj ag)) ai) (by rw [hms]; exact decide_eq_false (by omega)) (aU ?_))
   have b1:=jG (ST.srt pts)
   have b2:=jG (ST.srt pts).reverse
   rw [List.length_reverse] at b2
   refine ae (aE (i:=2) d7.nd rfl (Or.inl rfl) (EvN.ev (ci ((eU T).mono (by decide)) hr rfl T.m_left_bends T.F_left_bends.kp T.b_left_bends aC (af (aa 1 rfl) aj ag) ⟨ST.srt pts,rfl,szs,by omega,rfl⟩)) ?_)
   refine ae (aE (i:=3) d7.nd rfl (Or.inl rfl) (EvN.ev (ci ((eU T).mono (by decide)) hr rfl T.m_left_bends T.F_left_bends.kp T.b_left_bends aC (af (EvN.ev (v8 (aa 1 rfl) (df ai) (.inl rfl))) aj bF) ⟨(ST.srt pts).reverse,by rw [lp,List.map_reverse],fun p hp=> szs p (List.mem_reverse.mp hp),by rw [List.length_reverse]; omega,rfl⟩)) ?_)
   refine ae (c_ (t5 (EvN.ev (eH (aa 2 rfl) fJ (fM (df ai)) (.inl rfl))) (EvN.ev (eH (aa 3 rfl) fJ (fM (df ai)) (.inl rfl))) (by rw [jq,jq,List.length_map,List.length_map,List.length_dropLast,List.length_dropLast,List.length_reverse,List.length_reverse]; exact Nat.le_of_lt (ba (by omega)))) ?_)
   show Out.new _=Out.new _
   unfold fh
   rw [if_neg h1,jq,jq,← List.map_append]
def ap (a b c d e f:Int) (p:P2):P2:=(a * p.1+b * p.2+e,c * p.1+d * p.2+f)
theorem vZ {m:Nat} {a b c d e f:Int} {p:P2} (sa:Sz 500 a) (sb:Sz 500 b) (sc:Sz 500 c) (sd:Sz 500 d) (se:Sz 500 e) (sf:Sz 500 f) (hm:m≤3000) (s:Szp m p):Szp (m+510) (ap a b c d e f p):=by
 have key:∀ {x y z:Int},Sz 500 x→Sz 500 y→Sz 500 z→Sz (m+510) (x * p.1+y * p.2+z):=fun sx sy sz=> by
  have h1:=L2.Sz.add' (L2.Sz.mul sx s.1) (L2.Sz.mul sy s.2)
  have h2:=L2.Sz.add' h1 sz
  exact h2.mono (by omega)
 exact ⟨key sa sb se,key sc sd sf⟩
def sV (C:Addr):List U→Out→Prop:=fun us o=> ∃ (pts:List P2) (a b c d e f:Int),us=[lp pts,mv a b c d e f]∧(a * d - b * c=1∨a * d - b * c=-1)∧(Sz 500 a∧Sz 500 b∧Sz 500 c∧Sz 500 d∧Sz 500 e∧Sz 500 f)∧(∀ p∈pts,Szp 3000 p)∧pts≠[]∧pts.length < 64∧o=.new ((fh (pts.map (ap a b c d e f))).map pu)
set_option maxHeartbeats 8000000 in
theorem g6 (T:Txt K mg):aR P w K mg base (CXF P w) 5 T.a_field_moved T.d_field_moved ["land","move"] (spU K (sV T.c_NoField)):=by
 refine aW T.F_field_moved d4 (fun us o h=> ?_) (fun cdv A outer s H E O us o hr h=> ?_)
 ·obtain ⟨pts,a,b,c,d,e,f,rfl,hu,⟨sa,sb,sc,sd,se,sf⟩,sz,hne,hl,rfl⟩:=h
  rfl
 obtain ⟨pts,a,b,c,d,e,f,rfl,hu,⟨sa,sb,sc,sd,se,sf⟩,sz,hne,hl,rfl⟩:=h
 have k5:500≤30000:=by decide
 have M:Mv a b c d e f:=⟨hu,sa.mono k5,sb.mono k5,sc.mono k5,sd.mono k5,se.mono k5,sf.mono k5⟩
 refine ae (c_ (ci ((jX T).mono (by decide)) hr rfl T.m_field T.F_field.kp T.b_field aC (af (EvN.ev (e6 (ys:=(pts.map fun p=> pu (ap a b c d e f p))) rfl (blk (ah bu) ["land","move","P"] [2] rfl rfl rfl rfl (by decide+kernel)) (eu (aa 0 rfl) (.inl rfl)) (fun _ _ _ _=> bW (i:=2) d4.nd rfl (Or.inl rfl)) (cv (by decide)) ?clen ?csz (fun _ _=> trivial) ?celt)) aj dO) ⟨pts.map (ap a b c d e f),by rw [lp,List.map_map]; rfl,fun p hp=> by obtain ⟨q,hq,rfl⟩:=List.mem_map.mp hp; have z:=vZ sa sb sc sd se sf (Nat.le_refl 3000) (sz q hq); exact ⟨z.1.mono (by decide),z.2.mono (by decide)⟩,by rw [List.length_map]; exact hl,by rw [if_neg (by simpa using hne)]⟩) ?_)
 case clen=> simp
 case csz=> rw [List.length_map]; exact Nat.le_of_lt (ba (by omega))
 case celt=>
  intro C s' H' fp j x y hx hy
  obtain ⟨p,hp,mp,rfl,rfl⟩:=gh hx hy
  exact (aN ((j_ T).mono (by decide)) hr rfl T.m_moved T.F_moved.kp T.b_moved aC (af (aa 2 rfl) (af (aa 1 rfl) aj ag) ag) (.inl ⟨p.1,p.2,a,b,c,d,e,f,rfl,M,(sz p mp).1.mono (by decide),(sz p mp).2.mono (by decide),rfl⟩))
 exact rfl
end
section
variable {P:Program} {w:World} {K:PySem.W.Frag} {mg:Str→Option Value} {base:Heap}
theorem kY {pts:List Pt} (h:¬ 2≤(ST.srt pts).length):fh pts=ST.srt pts:=by
 unfold fh
 split
 ·rfl
 ·have e:ST.srt pts=[]:=List.length_eq_zero_iff.mp (by omega)
  rw [e]; rfl
section
variable {f:Pt→Pt}
end
def scl (k:Int) (p:Pt):Pt:=(k * p.1,k * p.2)
theorem sw (p:Pt):scl 1 p=p:=by unfold scl; simp
abbrev gp (l:List P2) (i:Nat):P2:=l.getD i (0,0)
def nxt (l:List P2) (i:Nat):P2:=gp l ((i+1) % l.length)
def sdl (l:List P2):List (P2×P2):=(List.range l.length).map fun i=> (gp l i,nxt l i)
abbrev pq (s:P2×P2):U:=.tup [pu s.1,pu s.2]
theorem g9 {l:List P2} {i:Nat} (h:i < l.length):l[i]?=some (gp l i):=by simp [gp,h]
theorem iZ {l:List P2} {i:Nat} (h:i < l.length):gp l i∈l:=List.mem_of_getElem? (g9 h)
theorem mE (l:List U):e7 l (some 1) none=l.drop 1:=by
 unfold e7 HT.sIx
 cases l with
 | nil=> simp
 | cons a l=> simp
theorem tJ (l:List U):e7 l none (some 1)=l.take 1:=by
 unfold e7 HT.sIx
 cases l with
 | nil=> simp
 | cons a l=> simp
theorem pY (l:List P2):List.zipWith (fun a b=> U.tup [a,b]) (l.map pu) (e7 (l.map pu) (some 1) none++e7 (l.map pu) none (some 1))=(sdl l).map pq:=by
 rw [mE,tJ]
 apply List.ext_getElem?
 intro i
 unfold sdl
 by_cases hi:i < l.length
 ·have e1:(l.map pu)[i]?=some (pu (gp l i)):=by rw [List.getElem?_map,g9 hi]; rfl
  have e2:((l.map pu).drop 1++(l.map pu).take 1)[i]?=some (pu (nxt l i)):=by
   unfold nxt
   by_cases hj:i+1 < l.length
   ·rw [List.getElem?_append_left (by simp; omega),List.getElem?_drop,Nat.add_comm,Nat.mod_eq_of_lt hj,List.getElem?_map,g9 hj]; rfl
   ·have e:i+1=l.length:=by omega
    rw [List.getElem?_append_right (by simp; omega),e,Nat.mod_self]
    rw [show i - ((l.map pu).drop 1).length=0 by simp; omega,List.getElem?_take_of_lt (by omega),List.getElem?_map,g9 (by omega)]; rfl
  rw [List.getElem?_zipWith_eq_some.mpr ⟨_,_,e1,e2,rfl⟩,List.map_map,List.getElem?_map,List.getElem?_range hi]
  rfl
 ·rw [List.getElem?_eq_none (by simp; omega),List.getElem?_eq_none (by simp; omega)]
theorem sR {l:List P2} {s:P2×P2} (h:s∈sdl l):s.1∈l∧s.2∈l:=by
 obtain ⟨i,hi,rfl⟩:=List.mem_map.mp h
 have hi':=List.mem_range.mp hi
 exact ⟨iZ hi',iZ (Nat.mod_lt _ (by omega))⟩
def kM:List U→Out→Prop:=fun us o=> ∃ l:List P2,us=[lp l]∧l.length≤900∧o=.new ((sdl l).map pq)
set_option maxHeartbeats 8000000 in
theorem qA (T:Txt K mg):aR P w K mg base (CXF P w) 1 T.a_sides T.d_sides ["land"] (spU K (kM)):=by
 refine aW T.F_sides qB (fun us o h=> ?_) (fun cdv A outer s H E O us o hr h=> ?_)
 ·obtain ⟨l,rfl,hl,rfl⟩:=h
  rfl
 obtain ⟨l,rfl,hl,rfl⟩:=h
 refine Ws.nox ?_
 have hlen:(e7 (l.map pu) (some 1) none++e7 (l.map pu) none (some 1)).length=l.length:=by rw [mE,tJ]; simp; omega
 refine ae (c_ (oS rfl rfl T.z_list rfl T.z_zip (aa 0 rfl) (.inl rfl) (EvN.ev (t5 (EvN.ev (eH (aa 0 rfl) (fM ai) fJ (.inl rfl))) (EvN.ev (eH (aa 0 rfl) fJ (fM ai) (.inl rfl))) (by rw [← List.length_append,hlen]; exact Nat.le_of_lt (ba (by omega))))) (.inl rfl) (by rw [hlen,List.length_map]) (by rw [List.length_map]; omega) ag aP) ?_)
 rw [pY]
theorem wW {l:List P2} (h:0 < l.length):atI (l.map pu) 0=some (pu (gp l 0)):=hW (i:=0) rfl (by rw [List.getElem?_map,g9 h]; rfl)
theorem s_ {l:List P2} (h:0 < l.length):atI (l.map pu) (-1)=some (pu (gp l (l.length - 1))):=by
 have e:ixN (l.map pu).length (-1)=some (l.length - 1):=by
  unfold ixN
  simp
  omega
 unfold atI
 rw [e]
 show (l.map pu)[l.length - 1]?=_
 rw [List.getElem?_map,g9 (by omega)]; rfl
theorem uH {m n:Nat} {k:Int} {p:P2} (sk:Sz n k) (s:Szp m p):Szp (n+m) (scl k p):=⟨L2.Sz.mul sk s.1,L2.Sz.mul sk s.2⟩
def oQ:List U→Out→Prop:=fun us o=> ∃ (pts:List P2) (k:Int),us=[lp pts,.int k]∧Sz 1000 k∧(∀ p∈pts,Szp 3000 p)∧pts≠[]∧pts.length < 64∧o=.new ((fh (pts.map (scl k))).map pu)
set_option maxHeartbeats 8000000 in
theorem rM (T:Txt K mg):aR P w K mg base (CXF P w) 5 T.a_fold T.d_fold ["land","k"] (spU K (oQ)):=by
 refine aW T.F_fold mG (fun us o h=> ?_) (fun cdv A outer s H E O us o hr h=> ?_)
 ·obtain ⟨pts,k,rfl,sk,sz,hne,hl,rfl⟩:=h
  rfl
 obtain ⟨pts,k,rfl,sk,sz,hne,hl,rfl⟩:=h
 refine ae (c_ (ci ((jX T).mono (by decide)) hr rfl T.m_field T.F_field.kp T.b_field aC (af (EvN.ev (e6 (ys:=(pts.map fun p=> pu (scl k p))) rfl (blk (ah eV) ["land","k","P"] [2] rfl rfl rfl rfl (by decide+kernel)) (eu (aa 0 rfl) (.inl rfl)) (fun _ _ _ _=> bW (i:=2) mG.nd rfl (Or.inl rfl)) (cv (by decide)) ?clen ?csz (fun _ _=> trivial) ?celt)) aj dO) ⟨pts.map (scl k),by rw [lp,List.map_map]; rfl,fun p hp=> by obtain ⟨q,hq,rfl⟩:=List.mem_map.mp hp; have z:=uH sk (sz q hq); exact ⟨z.1.mono (by decide),z.2.mono (by decide)⟩,by rw [List.length_map]; exact hl,by rw [if_neg (by simpa using hne)]⟩) ?_)
 case clen=> simp
 case csz=> rw [List.length_map]; exact Nat.le_of_lt (ba (by omega))
 case celt=>
  intro C s' H' fp j x y hx hy
  obtain ⟨p,hp,mp,rfl,rfl⟩:=gh hx hy
  have s1:=(sz p mp).1
  have s2:=(sz p mp).2
  exact (bG (ao (aZ (aa 1 rfl) (ay (aa 2 rfl) ai rfl rfl) (by walk_at "mul")) (ao (aZ (aa 1 rfl) (ay (aa 2 rfl) ai rfl rfl) (by walk_at "mul")) a_ aP) aP))
 exact rfl
end
section
variable {P:Program} {w:World} {K:PySem.W.Frag} {mg:Str→Option Value} {base:Heap}
theorem tI {l:List P2} {k:Int} {i:Nat} (e:k=(i:Int)) (h:i < l.length):atI (l.map pu) k=some (pu (gp l i)):=hW e (by rw [List.getElem?_map,g9 h]; rfl)
theorem Szp.mono {m n:Nat} {p:P2} (h:Szp m p) (le:m≤n):Szp n p:=⟨h.1.mono le,h.2.mono le⟩
def wyP (a d:P2) (k:Int):P2:=(a.1+k * d.1,a.2+k * d.2)
def wyL (a d:P2) (n:Nat):List P2:=(List.range (n+1)).map fun (k:Nat)=> wyP a d (k:Int)
def wyE (a d:P2) (n:Nat):List P2:=if n=0 then [a] else [a,wyP a d n]
def lz (d:P2):Prop:=0 < d.1∨(d.1=0∧0 < d.2)
structure Wy (a d:P2) (n:Nat):Prop where
 sa:Szp 212 a
 sd:Szp 70 d
 lx:lz d
 pr:∃ s t:Int,s * d.1+t * d.2=1
 sn:Sz 140 (n:Int)
theorem pz {a b:P2} (h:a.1 < b.1∨(a.1=b.1∧a.2 < b.2)):ST.ltP a b=true:=ST.ltP_iff.mpr h
theorem ql {a d:P2} (l:lz d) {i j:Int} (h:i < j):ST.ltP (wyP a d i) (wyP a d j)=true:=by
 refine pz ?_
 unfold wyP
 dsimp only
 rcases l with l | ⟨l1,l2⟩
 ·have:=Int.mul_lt_mul_of_pos_right h l
  left; omega
 ·right
  rw [l1]
  have:=Int.mul_lt_mul_of_pos_right h l2
  omega
theorem fQ (a d:P2):wyP a d 0=a:=by unfold wyP; simp
theorem ml {a d:P2} (l:lz d) (n:Nat):(wyL a d n).Pairwise (fun a b=> ST.ltP a b=true):=by
 unfold wyL
 rw [List.pairwise_map]
 refine List.Pairwise.imp (R:=fun i j:Nat=> i < j) ?_ List.pairwise_lt_range
 intro i j h
 exact ql l (by omega)
theorem dR (a d:P2) (n:Nat):(wyL a d n).length=n+1:=by unfold wyL; simp
theorem fO {a d:P2} {n k:Nat} (h:k < n+1):(wyL a d n)[k]?=some (wyP a d k):=by
 unfold wyL
 rw [List.getElem?_map,List.getElem?_range h]; rfl
theorem mt {a d:P2} {n:Nat} {p:P2}:p∈wyL a d n↔∃ k:Nat,k≤n∧wyP a d k=p:=by
 unfold wyL
 rw [List.mem_map]
 constructor
 ·rintro ⟨k,hk,rfl⟩; exact ⟨k,by have:=List.mem_range.mp hk; omega,rfl⟩
 ·rintro ⟨k,hk,rfl⟩; exact ⟨k,List.mem_range.mpr (by omega),rfl⟩
theorem uq {l:List P2} (h:l.Pairwise (fun a b=> ST.ltP a b=true)):l.Nodup:=List.Pairwise.imp (fun {a b} h e=> by subst e; rw [ST.asc_irr] at h; cases h) h
theorem gL {l m:List P2} (h:m.Pairwise (fun a b=> ST.ltP a b=true)) (e:∀ z,z∈l↔z∈m):ST.srt l=m:=ST.asc_one (ST.srt_asc l) h fun z=> by rw [ST.srt_mem]; exact e z
theorem vm (a:P2):fh [a]=[a]:=by
 rw [kY (by have:=ST.srt_len [a]; simp at this; omega)]
 exact gL (by simp) fun z=> Iff.rfl
theorem o7 {a b:P2} (h:ST.ltP a b=true):fh [a,b]=[a,b]:=by
 have e:ST.srt [a,b]=[a,b]:=gL (by simp [h]) fun z=> Iff.rfl
 unfold fh
 rw [e]
 rfl
theorem mZ {a d:P2} (l:lz d) (n:Nat):(wyE a d n).Pairwise (fun a b=> ST.ltP a b=true):=by
 unfold wyE
 split
 ·simp
 ·rename_i h
  have:=ql (a:=a) l (i:=0) (j:=n) (by omega)
  rw [fQ] at this
  simp [this]
theorem rW {a d:P2} (l:lz d) (n:Nat):fh (wyE a d n)=wyE a d n:=by
 have h:=mZ (a:=a) l n
 unfold wyE at h ⊢
 split
 ·exact vm a
 ·rename_i hn
  rw [if_neg hn] at h
  exact o7 (by simpa using h)
theorem mO (a d:P2) (n:Nat):0 < (wyE a d n).length∧(wyE a d n).length < 3:=by unfold wyE; split <;> simp
theorem pW {n m:Nat} {a b:Int} (ha:Sz n a) (hb:Sz m b) (h:m≤n):Sz (n+1) (a+b):=(L2.Sz.add' ha (hb.mono h)).mono (by omega)
theorem ri {a d:P2} {k:Int} {m:Nat} (sa:Szp m a) (sd:Szp 70 d) (sk:Sz 140 k) (hm:210≤m):Szp (m+1) (wyP a d k):=by
 unfold wyP
 exact ⟨pW sa.1 (L2.Sz.mul sk sd.1) hm,pW sa.2 (L2.Sz.mul sk sd.2) hm⟩
theorem Wy.szE {a d:P2} {n:Nat} (W:Wy a d n):∀ p∈wyE a d n,Szp 213 p:=fun p hp=> by
 unfold wyE at hp
 split at hp
 ·rw [List.mem_singleton.mp hp]; exact W.sa.mono (by decide)
 ·rcases List.mem_cons.mp hp with z | z
  ·rw [z]; exact W.sa.mono (by decide)
  ·rw [List.mem_singleton.mp z]; exact ri W.sa W.sd W.sn (by decide)
theorem iU {d:P2} (pr:∃ s t:Int,s * d.1+t * d.2=1) (n:Nat):∃ s t,dj ((n:Int) * d.1) ((n:Int) * d.2) n s t:=by
 obtain ⟨g,s,t,G⟩:=mD ((n:Int) * d.1) ((n:Int) * d.2)
 obtain ⟨s',t',e⟩:=pr
 have h1:g ∣ (n:Int):=by
  have:(n:Int)=s' * ((n:Int) * d.1)+t' * ((n:Int) * d.2):=by
   have:s' * ((n:Int) * d.1)+t' * ((n:Int) * d.2)=(n:Int) * (s' * d.1+t' * d.2):=by grind
   rw [this,e,Int.mul_one]
  rw [this]
  exact Int.dvd_add (Int.dvd_trans G.da (Int.dvd_mul_left _ _)) (Int.dvd_trans G.db (Int.dvd_mul_left _ _))
 have h2:(n:Int) ∣ g:=by
  rw [← G.eq]
  exact Int.dvd_add (Int.dvd_trans (Int.dvd_mul_right _ _) (Int.dvd_mul_left _ _)) (Int.dvd_trans (Int.dvd_mul_right _ _) (Int.dvd_mul_left _ _))
 have:=Int.dvd_antisymm G.g0 (Int.natCast_nonneg n) h1 h2
 subst this
 exact ⟨s,t,G⟩
theorem nU {d:P2} (pr:∃ s t:Int,s * d.1+t * d.2=1):∃ s t,dj d.1 d.2 1 s t:=by
 have:=iU pr 1
 simpa using this
theorem wyb {a:P2} {u v s t:Int} (h:s * u+t * v=1):uM s t (-v) u (-s * a.1 - t * a.2) (v * a.1 - u * a.2)=mv u (-t) v s a.1 a.2:=by
 have k:s * u - t * -v=1:=by grind
 have key:∀ {a b c d e f a' b' c' d' e' f':Int},a=a'→b=b'→c=c'→d=d'→e=e'→f=f'→mv a b c d e f=mv a' b' c' d' e' f':=by intros; subst_vars; rfl
 unfold uM
 rw [k]
 refine key (by omega) (by omega) (by omega) (by omega) ?_ ?_
 ·have:-(1 * u * (-s * a.1 - t * a.2)+-1 * t * (v * a.1 - u * a.2))=(s * u+t * v) * a.1:=by grind
  rw [this,h,Int.one_mul]
 ·have:-(-1 * -v * (-s * a.1 - t * a.2)+1 * s * (v * a.1 - u * a.2))=(s * u+t * v) * a.2:=by grind
  rw [this,h,Int.one_mul]
theorem tm {s0 d0:P2} {n:Nat} (ss:Szp 140 s0) (sd:Szp 70 d0) (pr:∃ s t:Int,s * d0.1+t * d0.2=1) (sn:Sz 140 (n:Int)):∃ a d,Wy a d n∧∀ z,(z∈wyL s0 d0 n↔z∈wyL a d n)∧(z∈wyE s0 d0 n↔z∈wyE a d n):=by
 by_cases l:lz d0
 ·exact ⟨s0,d0,⟨ss.mono (by decide),sd,l,pr,sn⟩,fun z=> ⟨Iff.rfl,Iff.rfl⟩⟩
 ·have back:∀ k:Int,wyP (wyP s0 d0 n) (-d0.1,-d0.2) k=wyP s0 d0 (n - k):=fun k=> by
   unfold wyP
   dsimp only
   refine Prod.ext ?_ ?_ <;> dsimp only <;> grind
  refine ⟨wyP s0 d0 n,(-d0.1,-d0.2),⟨?_,⟨sd.1.natle (by simp),sd.2.natle (by simp)⟩,?_,?_,sn⟩,fun z=> ⟨?_,?_⟩⟩
  ·exact ri (m:=211) (ss.mono (by decide)) sd sn (by decide)
  ·unfold lz at l ⊢
   dsimp only
   obtain ⟨s,t,e⟩:=pr
   rcases Int.lt_trichotomy d0.1 0 with h | h | h
   ·left; omega
   ·right
    refine ⟨by omega,?_⟩
    rcases Int.lt_trichotomy d0.2 0 with h2 | h2 | h2
    ·omega
    ·rw [h,h2] at e; simp at e
    ·exact absurd (.inr ⟨h,h2⟩) l
   ·exact absurd (.inl h) l
  ·obtain ⟨s,t,e⟩:=pr
   exact ⟨-s,-t,by dsimp only; grind⟩
  ·rw [mt,mt]
   constructor
   ·rintro ⟨k,hk,rfl⟩
    exact ⟨n - k,by omega,by rw [back]; congr 1; omega⟩
   ·rintro ⟨k,hk,rfl⟩
    exact ⟨n - k,by omega,by rw [back]; congr 1; omega⟩
  ·have b0:=back n
   rw [Int.sub_self,fQ] at b0
   unfold wyE
   split
   ·rename_i h0
    subst h0
    rw [show ((0:Nat):Int)=0 from rfl,fQ]
   ·rw [b0]
    simp only [List.mem_cons,List.not_mem_nil,or_false]
    exact or_comm
def pcs (a d:P2) (n:Nat):List U:=if n=0 then [.tup [pu a]] else (List.range n).map fun (k:Nat)=> .tup [pu (wyP a d k),pu (wyP a d ((k:Int)+1))]
theorem lY (a d:P2) (n:Nat):okU 9 (.lst (pcs a d n))=true:=by
 unfold pcs
 split
 ·rfl
 ·exact kE fun _=> rfl
theorem uV {a d:P2} {n i:Nat} {x:U} (h:(pcs a d n)[i]?=some x):∃ l:List P2,x=.tup (l.map pu):=by
 unfold pcs at h
 split at h
 ·cases i with
  | zero=> cases h; exact ⟨[a],rfl⟩
  | succ i=> simp at h
 ·have hi:=aJ h
  simp at hi
  rw [List.getElem?_map,List.getElem?_range hi] at h
  cases h
  exact ⟨[_,_],rfl⟩
theorem sY {a d:P2} {n:Nat} (h:n≠0):List.zipWith (fun x y=> U.tup [x,y]) ((wyL a d n).map pu) (((wyL a d n).map pu).drop 1)=pcs a d n:=by
 unfold pcs
 rw [if_neg h]
 apply List.ext_getElem?
 intro i
 by_cases hi:i < n
 ·rw [List.getElem?_map,List.getElem?_range hi]
  have e1:((wyL a d n).map pu)[i]?=some (pu (wyP a d i)):=by rw [List.getElem?_map,fO (by omega)]; rfl
  have e2:(((wyL a d n).map pu).drop 1)[i]?=some (pu (wyP a d ((i:Int)+1))):=by
   rw [List.getElem?_drop,List.getElem?_map,fO (by omega),show ((1+i:Nat):Int)=(i:Int)+1 by omega]; rfl
  exact List.getElem?_zipWith_eq_some.mpr ⟨_,_,e1,e2,rfl⟩
 ·rw [List.getElem?_eq_none (by simp [dR]; omega),List.getElem?_eq_none (by simp; omega)]
end
section
variable {P:Program} {w:World} {K:PySem.W.Frag} {mg:Str→Option Value} {base:Heap}
def qs:List U→Out→Prop:=fun us o=> ∃ (a d:P2) (n:Nat),us=[lp (wyE a d n)]∧Wy a d n∧o=.val (.int ((n:Int)+1))
set_option maxHeartbeats 8000000 in
theorem vp (T:Txt K mg):aR P w K mg base (CXF P w) 4 T.a_rim T.d_rim ["land"] (spU K (qs)):=by
 refine aW T.F_rim uK (fun us o h=> ?_) (fun cdv A outer s H E O us o hr h=> ?_)
 ·obtain ⟨a,d,n,rfl,W,rfl⟩:=h
  rfl
 obtain ⟨a,d,n,rfl,W,rfl⟩:=h
 refine Ws.nox ?_
 obtain ⟨l0,l3⟩:=mO a d n
 have hm:(((wyE a d n).map pu).length:Int)=((wyE a d n).length:Int):=by rw [List.length_map]
 refine ae (cu (aT lQ (ak (cx rfl) rfl T.z_len PySem.boot_len (af (aa 0 rfl) aj ag)) ai) (by rw [hm]; exact decide_eq_true (by omega)) ?_)
 have z0:=W.szE _ (iZ l0)
 have z1:=W.szE _ (iZ (l:=wyE a d n) (i:=(wyE a d n).length - 1) (by omega))
 have two:oP (gp (wyE a d n) 0).1 (gp (wyE a d n) 0).2 (gp (wyE a d n) ((wyE a d n).length - 1)).1 (gp (wyE a d n) ((wyE a d n).length - 1)).2:=⟨z0.1.mono (by decide),z0.2.mono (by decide),z1.1.mono (by decide),z1.2.mono (by decide)⟩
 have hs:∃ s t,dj ((gp (wyE a d n) ((wyE a d n).length - 1)).1 - (gp (wyE a d n) 0).1) ((gp (wyE a d n) ((wyE a d n).length - 1)).2 - (gp (wyE a d n) 0).2) n s t:=by
  by_cases h0:n=0
  ·subst h0
   have:wyE a d 0=[a]:=rfl
   rw [this]
   exact ⟨0,0,iP a.1 a.2⟩
  ·have e:wyE a d n=[a,wyP a d n]:=if_neg h0
   rw [e]
   show ∃ s t,dj ((wyP a d n).1 - a.1) ((wyP a d n).2 - a.2) n s t
   have e1:(wyP a d n).1 - a.1=(n:Int) * d.1:=by unfold wyP; dsimp only; omega
   have e2:(wyP a d n).2 - a.2=(n:Int) * d.2:=by unfold wyP; dsimp only; omega
   rw [e1,e2]
   exact iU W.pr n
 obtain ⟨s,t,G⟩:=hs
 refine ae (aI (bS (aN ((gA T).mono (by decide)) hr rfl T.m_steps T.F_steps.kp T.b_steps aC (af (ay (aa 0 rfl) ai rfl (wW l0)) (af (ay (aa 0 rfl) (df ai) rfl (s_ l0)) aj bF) bF) ⟨_,_,_,_,_,s,t,rfl,two,G,rfl⟩) ai) ?_)
 exact rfl
def nI:List U→Out→Prop:=fun us o=> ∃ (pts:List P2) (k:Int),us=[lp pts,.int k]∧0≤k∧Sz 1000 k∧(∀ p∈pts,Szp 3000 p)∧pts≠[]∧pts.length < 64∧o=.new ((fh (pts.map (scl k))).map pu)
set_option maxHeartbeats 8000000 in
theorem ka (T:Txt K mg):aR P w K mg base (CXF P w) 6 T.a_multiple T.d_multiple ["land","k"] (spU K (nI)):=by
 refine aW T.F_multiple ki (fun us o h=> ?_) (fun cdv A outer s H E O us o hr h=> ?_)
 ·obtain ⟨pts,k,rfl,k0,sk,sz,hne,hl,rfl⟩:=h
  rfl
 obtain ⟨pts,k,rfl,k0,sk,sz,hne,hl,rfl⟩:=h
 refine Ws.nox ?_
 refine ae (cw (aT lQ (aa 1 rfl) ai) (decide_eq_false (by omega)) (aU ?_))
 refine ae (c_ (ci ((rM T).mono (by decide)) hr rfl T.m_fold T.F_fold.kp T.b_fold aC (af (aa 0 rfl) (af (aa 1 rfl) aj ag) ag) ⟨pts,k,rfl,sk,sz,hne,hl,rfl⟩) ?_)
 exact rfl
def p_:List U→Out→Prop:=fun us o=> ∃ l:List P2,us=[lp l]∧l.length < 3∧o=.val (.int 0)
set_option maxHeartbeats 8000000 in
theorem jr (T:Txt K mg):aR P w K mg base (CXF P w) 5 T.a_points_in T.d_points_in ["land"] (spU K (p_)):=by
 refine aW T.F_points_in jt (fun us o h=> ?_) (fun cdv A outer s H E O us o hr h=> ?_)
 ·obtain ⟨l,rfl,hl,rfl⟩:=h
  rfl
 obtain ⟨l,rfl,hl,rfl⟩:=h
 refine Ws.nox ?_
 have hm:((l.map pu).length:Int)=(l.length:Int):=by rw [List.length_map]
 refine ae (cu (aT lQ (ak (cx rfl) rfl T.z_len PySem.boot_len (af (aa 0 rfl) aj ag)) ai) (by rw [hm]; exact decide_eq_true (by omega)) ?_)
 refine ae (aI ai ?_)
 exact rfl
def gD:List U→Out→Prop:=fun us o=> ∃ (a d:P2) (n:Nat),us=[lp (wyE a d n),.int 1]∧Wy a d n∧o=.val (.int ((n:Int)+1))
set_option maxHeartbeats 8000000 in
theorem jH (T:Txt K mg):aR P w K mg base (CXF P w) 7 T.a_count T.d_count ["land","k"] (spU K (gD)):=by
 refine uC T.F_count jA (fun us o h=> ?_) (fun cdv A outer s H E O us o hr h=> ?_)
 ·obtain ⟨a,d,n,rfl,W,rfl⟩:=h
  rfl
 obtain ⟨a,d,n,rfl,W,rfl⟩:=h
 refine Ws.nox ?_
 obtain ⟨l0,l3⟩:=mO a d n
 have one:fh ((wyE a d n).map (scl 1))=wyE a d n:=by rw [show scl 1=id from funext sw,List.map_id]; exact rW W.lx n
 refine ae (aE (i:=2) jA.nd rfl (Or.inl rfl) (EvN.ev (ci ((ka T).mono (by decide)) hr rfl T.m_multiple T.F_multiple.kp T.b_multiple aC (af (aa 0 rfl) (af (aa 1 rfl) aj ag) ag) ⟨_,1,rfl,by decide,Sz.mono (m:=8) (by decide) (by decide),fun p hp=> (W.szE p hp).mono (by decide),List.ne_nil_of_length_pos l0,by omega,rfl⟩)) ?_)
 rw [one]
 refine ae (aI (bS (aN ((jr T).mono (by decide)) hr rfl T.m_points_in T.F_points_in.kp T.b_points_in aC (af (aa 2 rfl) aj ag) ⟨_,rfl,l3,rfl⟩) (aN ((vp T).mono (by decide)) hr rfl T.m_rim T.F_rim.kp T.b_rim aC (af (aa 2 rfl) aj ag) ⟨a,d,n,rfl,W,rfl⟩)) ?_)
 exact vIO (by omega)
def lvl (n:Nat):List P2:=[(0,0),((n:Int),0)]
def lK:List U→Out→Prop:=fun us o=> ∃ n:Nat,us=[lp (lvl n),.int 0]∧0 < n∧Sz 140 (n:Int)∧o=.val (.tup [.int 0,.int n])
set_option maxHeartbeats 8000000 in
theorem kA (T:Txt K mg):aR P w K mg base (CXF P w) 2 T.a_row_ends T.d_row_ends ["land","y"] (spU K (lK)):=by
 refine aW T.F_row_ends bI (fun us o h=> ?_) (fun cdv A outer s H E O us o hr h=> ?_)
 ·obtain ⟨n,rfl,n0,sn,rfl⟩:=h
  rfl
 obtain ⟨n,rfl,n0,sn,rfl⟩:=h
 refine Ws.nox ?_
 refine ae (j6 (i:=2) bI.nd rfl (Or.inl rfl) (cm (ao (ay (ak (uh (M:=(0,0)) (pts:=lvl n) rfl (im hr) (by unfold lvl; simp) (by intro q hq; unfold lvl at hq; rw [ST.ltP_no]; simp at hq; rcases hq with z | z <;> subst z <;> dsimp only <;> omega)) rfl T.z_min boot_min (af (aa 0 rfl) aj ag)) ai rfl rfl) a_ bF)) ?_)
 refine ae (j6 (i:=3) bI.nd rfl (Or.inl rfl) (cm (ao (ay (ak (ui (M:=((n:Int),0)) (pts:=lvl n) rfl (im hr) (by unfold lvl; simp) (by intro q hq; unfold lvl at hq; rw [ST.ltP_no]; simp at hq; rcases hq with z | z <;> subst z <;> dsimp only <;> omega)) rfl T.z_max boot_max (af (aa 0 rfl) aj ag)) ai rfl rfl) a_ bF)) ?_)
 refine ae (fF (fun _:Unit=> [some (.val (lp (lvl n))),some (.val (.int 0)),some (.own [.int 0]),some (.own [.int (n:Int)]),none,none,none,none]) (fun _ _=> True) rfl PassesOwn.never (eu (EvN.ev (ci ((qA T).mono (by decide)) hr rfl T.m_sides T.F_sides.kp T.b_sides aC (af (aa 0 rfl) aj ag) ⟨lvl n,rfl,by unfold lvl; simp,rfl⟩)) (.inl rfl)) ?h0 ?hs ?hd)
 case h0=> exact ⟨(),trivial,rfl,rfl,rfl,rfl,trivial⟩
 case hs=>
  rintro H0 i x _ hx' _
  have hq:∃ s∈sdl (lvl n),x=pq s:=by
   obtain ⟨s,hs,rfl⟩:=List.mem_map.mp (List.mem_of_getElem? hx')
   exact ⟨s,hs,rfl⟩
  obtain ⟨s,hs,rfl⟩:=hq
  obtain ⟨n1,n2⟩:=sR hs
  have zz:∀ q∈lvl n,q.2=0∧Szp 140 q:=fun q hq=> by
   have o0:Sz 140 (0:Int):=Sz.mono (m:=8) (by decide) (by decide)
   unfold lvl at hq
   simp at hq
   rcases hq with z | z <;> subst z
   ·exact ⟨rfl,o0,o0⟩
   ·exact ⟨rfl,sn,o0⟩
  obtain ⟨e1,z1⟩:=zz _ n1
  obtain ⟨e2,z2⟩:=zz _ n2
  have y1:=z1.1
  have y2:=z2.1
  refine ⟨_,(vX [4,5] rfl (j5 (bW (i:=4) bI.nd rfl (Or.inl rfl)) (j5 (bW (i:=5) bI.nd rfl (Or.inl rfl)) sG)) rfl),?_⟩
  refine ae (aE (i:=6) bI.nd rfl (Or.inl rfl) (bC (ay (aa 5 rfl) ai rfl rfl) (ay (aa 4 rfl) ai rfl rfl)) ?_)
  have y3:=z1.2
  refine ae (aE (i:=7) bI.nd rfl (Or.inl rfl) (aZ (bC (ay (aa 5 rfl) ai rfl rfl) (ay (aa 4 rfl) ai rfl rfl)) (bC (aa 1 rfl) (ay (aa 4 rfl) ai rfl rfl)) (by walk_at "mul")) ?_)
  rw [e1,e2]
  refine ae (cw (aT fY (aa 6 rfl) ai) (decide_eq_false (by decide)) (aU ?_))
  refine ae (cw (aT lQ (aa 6 rfl) ai) (decide_eq_false (by decide)) (aU (aU ?_)))
  exact ⟨(),trivial,rfl,rfl,rfl,rfl,trivial⟩
 case hd=>
  rintro _ ps _ hps
  refine e_ ?_ hps
  refine me 2 rfl (me 3 rfl ?_)
  show Ws _ _ _ _ _ _ [some (.val (lp (lvl n))),some (.val (.int 0)),some (.val (.lst ([(0:Int)].map U.int))),some (.val (.lst ([(n:Int)].map U.int))),none,none,none,none]
  refine ae (aI (bG (ao (ak (pF rfl (M:=0) (ns:=[0]) ⟨by simp,by simp⟩) rfl T.z_max boot_max (af (aa 2 rfl) aj ag)) (ao (ak (uz rfl (M:=(n:Int)) (ns:=[(n:Int)]) ⟨by simp,by simp⟩) rfl T.z_min boot_min (af (aa 3 rfl) aj ag)) a_ bx) bx)) ?_)
  exact rfl
end
section
variable {P:Program} {w:World} {K:PySem.W.Frag} {mg:Str→Option Value} {base:Heap}
def rwL (a d:P2) (n i:Nat):List P2:=if i=0 then [] else wyL a d n
def kB:List U→Out→Prop:=fun us o=> ∃ (a d:P2) (n:Nat),us=[lp (wyE a d n)]∧Wy a d n∧0 < n∧n≤99∧o=.new ((wyL a d n).map pu)
set_option maxHeartbeats 8000000 in
theorem kP (T:Txt K mg):aR P w K mg base (CXF P w) 6 T.a_by_rows T.d_by_rows ["land"] (spU K (kB)):=by
 refine aW T.F_by_rows bB (fun us o h=> ?_) (fun cdv A outer s H E O us o hr h=> ?_)
 ·obtain ⟨a,d,n,rfl,W,n0,n99,rfl⟩:=h
  rfl
 obtain ⟨a,d,n,rfl,W,n0,n99,rfl⟩:=h
 refine Ws.nox ?_
 have eE:wyE a d n=[a,wyP a d n]:=if_neg (by omega)
 rw [eE]
 have sz:∀ p∈[a,wyP a d n],Szp 213 p:=by rw [← eE]; exact W.szE
 have z0:Szp 213 a:=sz a (by simp)
 have z1:Szp 213 (wyP a d n):=sz _ (by simp)
 obtain ⟨s1,t1,G⟩:=iU W.pr n
 obtain ⟨s,t,G1⟩:=nU W.pr
 have two:oP a.1 a.2 (wyP a d n).1 (wyP a d n).2:=⟨z0.1.mono (by decide),z0.2.mono (by decide),z1.1.mono (by decide),z1.2.mono (by decide)⟩
 have e1:(wyP a d n).1 - a.1=(n:Int) * d.1:=by unfold wyP; dsimp only; omega
 have e2:(wyP a d n).2 - a.2=(n:Int) * d.2:=by unfold wyP; dsimp only; omega
 have q1:((wyP a d n).1 - a.1) / (n:Int)=d.1:=by rw [e1,Int.mul_ediv_cancel_left _ (by omega)]
 have q2:((wyP a d n).2 - a.2) / (n:Int)=d.2:=by rw [e2,Int.mul_ediv_cancel_left _ (by omega)]
 obtain ⟨_,ss,st⟩:=jo G1 W.sd.1 W.sd.2
 have hst:s * d.1+t * d.2=1:=G1.eq
 refine ae (aE (i:=1) bB.nd rfl (Or.inl rfl) (aN ((o5 T).mono (by decide)) hr rfl T.m_level T.F_level.kp T.b_level aC (af (ay (aa 0 rfl) ai rfl (tI (i:=0) (l:=[a,wyP a d n]) (by decide) (by simp))) (af (ay (aa 0 rfl) ai rfl (tI (i:=1) (l:=[a,wyP a d n]) (by decide) (by simp))) aj bF) bF) (.inl ⟨_,_,_,_,n,s1,t1,s,t,rfl,two,by show dj ((wyP a d n).1 - a.1) ((wyP a d n).2 - a.2) n s1 t1; rw [e1,e2]; exact G,by omega,by show dj (((wyP a d n).1 - a.1) / (n:Int)) (((wyP a d n).2 - a.2) / (n:Int)) 1 s t; rw [q1,q2]; exact G1,rfl⟩)) ?_)
 show Ws _ _ _ _ _ _ [some (.val (lp [a,wyP a d n])),some (.val (mv s t (-(((wyP a d n).2 - a.2) / (n:Int))) (((wyP a d n).1 - a.1) / (n:Int)) (-s * a.1 - t * a.2) (((wyP a d n).2 - a.2) / (n:Int) * a.1 - ((wyP a d n).1 - a.1) / (n:Int) * a.2))),none,none,none,none,none,none,none]
 rw [q1,q2]
 have hd:s * d.1 - t * -d.2=1:=by grind
 have a5:Sz 500 s:=ss.mono (by decide)
 have b5:Sz 500 t:=st.mono (by decide)
 have c5:Sz 500 (-d.2):=(W.sd.2.natle (by omega):Sz 70 (-d.2)).mono (by decide)
 have d5:Sz 500 d.1:=W.sd.1.mono (by decide)
 have ns:Sz 160 (-s):=(ss.natle (by omega):Sz _ (-s)).mono (by decide)
 have e5:Sz 500 (-s * a.1 - t * a.2):=(L2.Sz.sub' (L2.Sz.mul ns z0.1) (L2.Sz.mul (st.mono (n:=160) (by decide)) z0.2)).mono (by decide)
 have f5:Sz 500 (d.2 * a.1 - d.1 * a.2):=(L2.Sz.sub' (L2.Sz.mul W.sd.2 z0.1) (L2.Sz.mul W.sd.1 z0.2)).mono (by decide)
 have k5:500≤30000:=by decide
 have M:Mv s t (-d.2) d.1 (-s * a.1 - t * a.2) (d.2 * a.1 - d.1 * a.2):=⟨.inl hd,a5.mono k5,b5.mono k5,c5.mono k5,d5.mono k5,e5.mono k5,f5.mono k5⟩
 have lv:fh ([a,wyP a d n].map (ap s t (-d.2) d.1 (-s * a.1 - t * a.2) (d.2 * a.1 - d.1 * a.2)))=lvl n:=by
  have m1:ap s t (-d.2) d.1 (-s * a.1 - t * a.2) (d.2 * a.1 - d.1 * a.2) a=(0,0):=by
   unfold ap
   refine Prod.ext ?_ ?_ <;> dsimp only <;> grind
  have m2:ap s t (-d.2) d.1 (-s * a.1 - t * a.2) (d.2 * a.1 - d.1 * a.2) (wyP a d n)=((n:Int),0):=by
   unfold ap wyP
   refine Prod.ext ?_ ?_ <;> dsimp only
   ·have:s * (a.1+(n:Int) * d.1)+t * (a.2+(n:Int) * d.2)+(-s * a.1 - t * a.2)=(n:Int) * (s * d.1+t * d.2):=by grind
    rw [this,hst,Int.mul_one]
   ·grind
  rw [List.map_cons,List.map_cons,List.map_nil,m1,m2]
  exact o7 (pz (.inl (by dsimp only; omega)))
 refine ae (aE (i:=2) bB.nd rfl (Or.inl rfl) (EvN.ev (ci ((g6 T).mono (by decide)) hr rfl T.m_field_moved T.F_field_moved.kp T.b_field_moved aC (af (aa 0 rfl) (af (aa 1 rfl) aj ag) ag) ⟨[a,wyP a d n],_,_,_,_,_,_,rfl,.inl hd,⟨a5,b5,c5,d5,e5,f5⟩,fun p hp=> (sz p hp).mono (by decide),by simp,by simp,rfl⟩)) ?_)
 rw [lv]
 refine ae (aE (i:=3) bB.nd rfl (Or.inr rfl) (aN ((jB T).mono (by decide)) hr rfl T.m_way_back T.F_way_back.kp T.b_way_back aC (af (aa 1 rfl) aj ag) (.inl ⟨_,_,_,_,_,_,rfl,M,rfl⟩)) ?_)
 rw [wyb hst]
 have nt:Sz 30000 (-t):=(st.natle (by omega):Sz _ (-t)).mono (by decide)
 have MB:Mv d.1 (-t) d.2 s a.1 a.2:=⟨.inl (by grind),d5.mono k5,nt,W.sd.2.mono (by decide),a5.mono k5,z0.1.mono (by decide),z0.2.mono (by decide)⟩
 show Ws _ _ _ _ _ _ [some (.val (lp [a,wyP a d n])),some (.val (mv s t (-d.2) d.1 (-s * a.1 - t * a.2) (d.2 * a.1 - d.1 * a.2))),some (.val (lp (lvl n))),some (.val (mv d.1 (-t) d.2 s a.1 a.2)),none,none,none,none,none]
 refine ae (j6 (i:=4) bB.nd rfl (Or.inl rfl) (cm a_) ?_)
 refine ae (fF (fun i:Nat=> [some (.val (lp [a,wyP a d n])),some (.val (mv s t (-d.2) d.1 (-s * a.1 - t * a.2) (d.2 * a.1 - d.1 * a.2))),some (.val (lp (lvl n))),some (.val (mv d.1 (-t) d.2 s a.1 a.2)),some (.own ((rwL a d n i).map pu)),none,none,none,none]) (fun i j=> i=j) rfl PassesOwn.never (og rfl T.z_range (af (bS (ak (pF rfl (M:=0) (ns:=(lvl n).map (·.2)) ⟨by unfold lvl; simp,by unfold lvl; simp⟩) rfl T.z_max boot_max (af (EvN.ev (e6 (ys:=(((lvl n).map (·.2)).map U.int)) rfl (blk (ah ce) ["land","move","levelled","back","found","y","ends","x","P"] [8] rfl rfl rfl rfl (by decide+kernel)) (eu (aa 2 rfl) (.inl rfl)) (fun _ _ _ _=> bW (i:=8) bB.nd rfl (Or.inl rfl)) (cv (by decide)) ?clen ?csz (fun _ _=> trivial) ?celt)) aj dO)) ai) aj aP)) ?h0 ?hs ?hd)
 case clen=> simp
 case csz=> rw [List.length_map]; exact Nat.le_of_lt (ba (by unfold lvl; simp))
 case celt=>
  intro C s' H' fp j x y hx hy
  rw [List.map_map] at hy
  obtain ⟨p,hp,mp,rfl,rfl⟩:=gh hx hy
  exact (ay (aa 8 rfl) ai rfl rfl)
 case h0=> exact ⟨0,rfl,rfl,rfl,rfl,rfl,rfl,trivial⟩
 case hs=>
  rintro H0 i x _ hx rfl
  obtain ⟨hi,rfl⟩:=cZ hx
  have i0:i=0:=by
   have:(0+1 - 0:Int).toNat=1:=by decide
   omega
  subst i0
  refine ⟨_,(gO (i:=5) bB.nd rfl (Or.inr rfl)),?_⟩
  refine ae (aE (i:=6) bB.nd rfl (Or.inl rfl) (aN ((kA T).mono (by decide)) hr rfl T.m_row_ends T.F_row_ends.kp T.b_row_ends aC (af (aa 2 rfl) (af (aa 5 rfl) aj ag) ag) ⟨n,rfl,n0,W.sn,rfl⟩) ?_)
  refine ae (pH 4 rfl (EvN.ev (e6 (ys:=((wyL a d n).map pu)) rfl (blk (ah ce) ["land","move","levelled","back","found","y","ends","x","P"] [7] rfl rfl rfl rfl (by decide+kernel)) (oJ rfl T.z_range (af (ay (aa 6 rfl) ai rfl rfl) (af (bS (ay (aa 6 rfl) ai rfl rfl) ai) aj aP) bF)) (fun _ _ _ _=> bW (i:=7) bB.nd rfl (Or.inl rfl)) (cv (by decide)) ?clen ?csz (fun _ _=> trivial) ?celt)) (by simp only [List.length_map,dR]; exact Nat.le_of_lt (ba (by unfold rwL; simp; omega))) (aU ?_))
  case clen=> rw [bq,List.length_map,dR]; omega
  case csz=> rw [bq]; exact Nat.le_of_lt (ba (by omega))
  case celt=>
   intro C s' H' fp j x y hx hy
   obtain ⟨hj,rfl⟩:=cZ hx
   have ey:y=pu (wyP a d j):=by
    rw [List.getElem?_map,fO (by omega)] at hy
    cases hy; rfl
   have e3:pu (wyP a d j)=pt (d.1 * (0+(j:Int))+-t * (0+((0:Nat):Int))+a.1) (d.2 * (0+(j:Int))+s * (0+((0:Nat):Int))+a.2):=by
    show pt (a.1+(j:Int) * d.1) (a.2+(j:Int) * d.2)=_
    congr 1 <;> grind
   have zj:Sz 30000 (0+(j:Int)):=Sz.mono (m:=8) (by unfold Sz; omega) (by decide)
   have z0':Sz 30000 (0+((0:Nat):Int)):=Sz.mono (m:=8) (by decide) (by decide)
   rw [ey,e3]
   exact (aN ((j_ T).mono (by decide)) hr rfl T.m_moved T.F_moved.kp T.b_moved aC (af (bG (ao (aa 7 rfl) (ao (aa 5 rfl) a_ ag) ag)) (af (aa 3 rfl) aj ag) i7) (.inl ⟨_,_,_,_,_,_,_,_,rfl,MB,zj,z0',rfl⟩))
  refine ⟨0+1,rfl,rfl,rfl,rfl,rfl,?_,trivial⟩
  exact congrArg (fun l=> some (Sl.own l)) (show _=(wyL a d n).map pu by unfold rwL; simp)
 case hd=>
  rintro q ps hq hps
  refine e_ ?_ hps
  rw [bq] at hq
  have e:q=1:=by rw [← hq]; rfl
  subst e
  refine me 4 rfl ?_
  have asc:=ml (a:=a) W.lx n
  have er:rwL a d n 1=wyL a d n:=rfl
  rw [er]
  refine ae (c_ (jQ rfl T.z_sorted (aa 4 rfl) ⟨by rw [dR]; omega,uq asc⟩ ag) ?_)
  rw [gL asc fun z=> Iff.rfl]
def jV (C:Addr):List U→Out→Prop:=fun us o=> ∃ (a d:P2) (n:Nat),us=[lp (wyE a d n)]∧Wy a d n∧((n≤99∧o=.new ((wyL a d n).map pu))∨(99 < n∧o=.exc C))
set_option maxHeartbeats 8000000 in
theorem eF (T:Txt K mg):aR P w K mg base (CXF P w) 8 T.a_stakes T.d_stakes ["land"] (spU K (jV T.c_TooMany)):=by
 refine aW T.F_stakes oH (by rintro us o ⟨_,_,_,rfl,_⟩; rfl) (fun cdv A outer s H E O us o hr h=> ?_)
 obtain ⟨a,d,n,rfl,W,h⟩:=h
 have hm:(((wyE a d n).map pu).length:Int)=((wyE a d n).length:Int):=by rw [List.length_map]
 have cs:gD [lp (wyE a d n),.int 1] (.val (.int ((n:Int)+1))):=⟨a,d,n,rfl,W,rfl⟩
 rcases h with ⟨hc,rfl⟩ | ⟨hc,rfl⟩
 ·refine ae (cw (aT fY (mC ((jH T).mono (by decide)) hr rfl T.m_count T.F_count.kp T.bd_count aC (af (aa 0 rfl) aj ag) cs) (tO rfl T.g_MOST_STAKES)) (decide_eq_false (by omega)) (aU ?_))
  refine Ws.nox ?_
  by_cases h1:n=0
  ·subst h1
   have e1:wyE a d 0=[a]:=rfl
   rw [e1]
   refine ae (cu (aT cJ (ak (cx rfl) rfl T.z_len PySem.boot_len (af (aa 0 rfl) aj ag)) ai) rfl ?_)
   refine ae (c_ (mK (rc rfl) rfl T.z_list boot_list (af (aa 0 rfl) aj ag)) ?_)
   have:wyL a d 0=[a]:=by unfold wyL; simp [fQ]
   rw [this]
  ·have e1:(wyE a d n).length=2:=by unfold wyE; rw [if_neg h1]; rfl
   refine ae (cw (aT cJ (ak (cx rfl) rfl T.z_len PySem.boot_len (af (aa 0 rfl) aj ag)) ai) (by rw [hm]; exact decide_eq_false (by omega)) (aU ?_))
   refine ae (c_ (ci ((kP T).mono (by decide)) hr rfl T.m_by_rows T.F_by_rows.kp T.b_by_rows aC (af (aa 0 rfl) aj ag) ⟨a,d,n,rfl,W,by omega,hc,rfl⟩) ?_)
   exact rfl
 ·refine ae (cu (aT fY (mC ((jH T).mono (by decide)) hr rfl T.m_count T.F_count.kp T.bd_count aC (af (aa 0 rfl) aj ag) cs) (tO rfl T.g_MOST_STAKES)) (decide_eq_true (by omega)) ?_)
  refine ae (gj T.x_TooMany rfl T.mx_TooMany mR ?_)
  exact rfl
def jS (C:Addr):List U→Out→Prop:=fun us o=> ∃ (a d:P2) (n:Nat),us=[lp (wyE a d n)]∧Wy a d n∧((n≤99∧o=.new (pcs a d n))∨(99 < n∧o=.exc C))
set_option maxHeartbeats 8000000 in
theorem iz (T:Txt K mg):aR P w K mg base (CXF P w) 9 T.a_pieces T.d_pieces ["land"] (spU K (jS T.c_TooMany)):=by
 refine aW T.F_pieces fG (by rintro us o ⟨_,_,_,rfl,_⟩; rfl) (fun cdv A outer s H E O us o hr h=> ?_)
 obtain ⟨a,d,n,rfl,W,h⟩:=h
 rcases h with ⟨hc,rfl⟩ | ⟨hc,rfl⟩
 ·refine Ws.nox ?_
  refine ae (aE (i:=1) fG.nd rfl (Or.inl rfl) (EvN.ev (ci ((eF T).mono (by decide)) hr rfl T.m_stakes T.F_stakes.kp T.b_stakes aC (af (aa 0 rfl) aj ag) ⟨a,d,n,rfl,W,.inl ⟨hc,rfl⟩⟩)) ?_)
  by_cases h1:n=0
  ·subst h1
   have e1:wyE a d 0=[a]:=rfl
   have e2:wyL a d 0=[a]:=by unfold wyL; simp [fQ]
   rw [e1,e2]
   refine ae (cu (aT cJ (ak (cx rfl) rfl T.z_len PySem.boot_len (af (aa 0 rfl) aj ag)) ai) rfl ?_)
   refine ae (c_ (cm (ao (bG (ao (ay (aa 1 rfl) ai rfl rfl) a_ bF)) a_ i7)) ?_)
   exact rfl
  ·have e1:wyE a d n=[a,wyP a d n]:=if_neg h1
   rw [e1]
   refine ae (cw (aT cJ (ak (cx rfl) rfl T.z_len PySem.boot_len (af (aa 0 rfl) aj ag)) ai) rfl (aU ?_))
   refine ae (cu (aT cJ (ak (cx rfl) rfl T.z_len PySem.boot_len (af (aa 0 rfl) aj ag)) ai) rfl ?_)
   refine ae (c_ (g5 rfl rfl T.z_list rfl T.z_zip (aa 1 rfl) (.inl rfl) (EvN.ev (eH (aa 1 rfl) (fM ai) fJ (.inl rfl))) (.inl rfl) (by rw [mE,List.length_drop]; omega) (by rw [List.length_map,dR]; omega) ag bF) ?_)
   rw [mE,sY h1]
 ·refine ae (vt (i:=1) fG.nd rfl (Or.inl rfl) (lJ ((eF T).mono (by decide)) hr rfl T.m_stakes T.F_stakes.kp T.b_stakes iX (af (aa 0 rfl) aj ag) ⟨a,d,n,rfl,W,.inr ⟨hc,rfl⟩⟩) ?_)
  exact rfl
end
section
variable {P:Program} {w:World} {K:PySem.W.Frag} {mg:Str→Option Value} {base:Heap}
def cel (ns:List Int) (k:Int):Int:=if k < (ns.length:Int) then ns.getD k.toNat 0 else 0
theorem uA {ns:List Int} (h:∀ m∈ns,Sz 1048576 m) (k:Int):Sz 1048576 (cel ns k):=by
 unfold cel
 split
 ·exact sj h _
 ·exact Sz.mono (m:=8) (by decide) (by decide)
def nA:List U→Out→Prop:=fun us o=> ∃ (ns:List Int) (k:Int),us=[.scr (ns.map U.int),.int k]∧0≤k∧o=.val (.int (cel ns k))
set_option maxHeartbeats 8000000 in
theorem gc (T:Txt K mg):aR P w K mg base (CXF P w) 1 T.a__law_cell_at T.d__law_cell_at ["script","k"] (spU K (nA)):=by
 refine aW T.F__law_cell_at fX (fun us o h=> ?_) (fun cdv A outer s H E O us o hr h=> ?_)
 ·obtain ⟨ns,k,rfl,h0,rfl⟩:=h
  rfl
 obtain ⟨ns,k,rfl,h0,rfl⟩:=h
 refine Ws.nox ?_
 have hm:((ns.map U.int).length:Int)=(ns.length:Int):=by rw [List.length_map]
 refine ae (ii (aT lQ (aa 1 rfl) (ak (cx rfl) rfl T.z_len PySem.boot_len (af (aa 0 rfl) aj ag))) (fun hT=> ?_) (fun hF=> (aU ?_)))
 ·rw [hm] at hT
  have hk:=dTb hT
  refine ae (aI (ay (aa 0 rfl) (aa 1 rfl) rfl (hJ h0 hk)) ?_)
  exact vIO (by unfold cel; rw [if_pos hk])
 ·rw [hm] at hF
  have hk:=dFb hF
  refine ae (aI ai ?_)
  exact vIO (by unfold cel; rw [if_neg hk])
def tu:List U→Out→Prop:=fun us o=> ∃ n:Int,us=[.int n]∧o=.val (.bl true)
set_option maxHeartbeats 8000000 in
theorem eQ (T:Txt K mg):aR P w K mg base (CXF P w) 1 T.a__law_whole T.d__law_whole ["found"] (spU K (tu)):=by
 refine aW T.F__law_whole h9 (fun us o h=> ?_) (fun cdv A outer s H E O us o hr h=> ?_)
 ·obtain ⟨n,rfl,rfl⟩:=h
  rfl
 obtain ⟨n,rfl,rfl⟩:=h
 refine Ws.nox ?_
 refine ae (aI (cU (ak (ax (by intro _ h; cases h) (by walk_at "kit")) rfl T.z_isinstance boot_isinstance (af (aa 0 rfl) (af (bT rfl T.z_int boot_int) aj ag) ag)) (fun hz=> (dH (fg (ak (ax (by intro _ h; cases h) (by walk_at "kit")) rfl T.z_isinstance boot_isinstance (af (aa 0 rfl) (af (bT rfl T.z_bool boot_bool) aj ag) ag)))))) ?_)
 exact rfl
def oy:List U→Out→Prop:=fun us o=> ∃ p:P2,us=[pu p]∧o=.val (.bl true)
set_option maxHeartbeats 8000000 in
theorem dE (T:Txt K mg):aR P w K mg base (CXF P w) 2 T.a__law_is_point T.d__law_is_point ["found"] (spU K (oy)):=by
 refine aW T.F__law_is_point fL (fun us o h=> ?_) (fun cdv A outer s H E O us o hr h=> ?_)
 ·obtain ⟨p,rfl,rfl⟩:=h
  rfl
 obtain ⟨p,rfl,rfl⟩:=h
 refine Ws.nox ?_
 refine ae (aI (cU (ak (ax (by intro _ h; cases h) (by walk_at "kit")) rfl T.z_isinstance boot_isinstance (af (aa 0 rfl) (af (bT rfl T.z_tuple boot_tuple) aj ag) ag)) (fun hz=> (cU (g4 cJ (ak (cx rfl) rfl T.z_len PySem.boot_len (af (aa 0 rfl) aj ag)) ai) (fun hz=> (cU (aN ((eQ T).mono (by decide)) hr rfl T.m__law_whole T.F__law_whole.kp T.b__law_whole aC (af (ay (aa 0 rfl) ai rfl rfl) aj bF) ⟨_,rfl,rfl⟩) (fun hz=> (dH (aN ((eQ T).mono (by decide)) hr rfl T.m__law_whole T.F__law_whole.kp T.b__law_whole aC (af (ay (aa 0 rfl) ai rfl rfl) aj bF) ⟨_,rfl,rfl⟩)))))))) ?_)
 exact rfl
def dS (x y:Int):P2:=if Int.gcd x y=0 then (1,0) else (x / (Int.gcd x y:Int),y / (Int.gcd x y:Int))
theorem t4 (x y:Int):∃ s t:Int,s * (dS x y).1+t * (dS x y).2=1:=by
 unfold dS
 split
 ·exact ⟨1,0,by simp⟩
 ·rename_i h
  obtain ⟨s,t,G⟩:=oW x y
  have gp:(0:Int) < (Int.gcd x y:Int):=by omega
  refine ⟨s,t,?_⟩
  have e:=G.eq
  dsimp only
  obtain ⟨x',hx⟩:=G.da
  obtain ⟨y',hy⟩:=G.db
  have q1:x / (Int.gcd x y:Int)=x':=Int.ediv_eq_of_eq_mul_right (by omega) hx
  have q2:y / (Int.gcd x y:Int)=y':=Int.ediv_eq_of_eq_mul_right (by omega) hy
  rw [q1,q2]
  have:(Int.gcd x y:Int) * (s * x'+t * y')=(Int.gcd x y:Int) * 1:=by
   rw [Int.mul_one]
   have e2:s * ((Int.gcd x y:Int) * x')+t * ((Int.gcd x y:Int) * y')=(Int.gcd x y:Int):=by rw [← hx,← hy]; exact e
   grind
  exact Int.eq_of_mul_eq_mul_left (by omega) this
theorem tL {x y:Int} (sx:Sz 70 x) (sy:Sz 70 y):Szp 70 (dS x y):=by
 unfold dS
 split
 ·exact ⟨Sz.mono (m:=8) (by decide) (by decide),Sz.mono (m:=8) (by decide) (by decide)⟩
 ·exact ⟨sx.ediv,sy.ediv⟩
theorem uf {x y:Int} (sx:Sz 70 x) (sy:Sz 70 y):Sz 70 (Int.gcd x y:Int):=by
 by_cases hx:x=0
 ·by_cases hy:y=0
  ·subst hx; subst hy; exact Sz.mono (m:=8) (by decide) (by decide)
  ·have:=Int.gcd_le_natAbs_right x hy
   exact sy.natle (by omega)
 ·have:=Int.gcd_le_natAbs_left y hx
  exact sx.natle (by omega)
def jL:List U→Out→Prop:=fun us o=> ∃ x y:Int,us=[.int x,.int y]∧Sz 70 x∧Sz 70 y∧o=.val (pu (dS x y))
theorem qJ (a:Int):(if a < 0 then -a else a)=(a.natAbs:Int):=by split <;> omega
set_option maxHeartbeats 8000000 in
theorem eo (T:Txt K mg):aR P w K mg base (CXF P w) 1 T.a__law_stride T.d__law_stride ["x","y"] (spU K (jL)):=by
 refine aW T.F__law_stride cq (fun us o h=> ?_) (fun cdv A outer s H E O us o hr h=> ?_)
 ·obtain ⟨x,y,rfl,sx,sy,rfl⟩:=h
  rfl
 obtain ⟨x,y,rfl,sx,sy,rfl⟩:=h
 refine Ws.nox ?_
 refine ae (aE (i:=2) cq.nd rfl (Or.inl rfl) (ak jR rfl T.z_abs PyProof.Rows.boot_abs (af (aa 0 rfl) aj ag)) ?_)
 refine ae (aE (i:=3) cq.nd rfl (Or.inl rfl) (ak jR rfl T.z_abs PyProof.Rows.boot_abs (af (aa 1 rfl) aj ag)) ?_)
 rw [qJ,qJ]
 refine ae (gK (fun q:Nat×Nat=> [some (.val (.int x)),some (.val (.int y)),some (.val (.int (q.1:Int))),some (.val (.int (q.2:Int)))]) (fun m q=> m=q.2∧Nat.gcd q.1 q.2=Int.gcd x y) PassesOwn.never ?h0 ?hs)
 case h0=> exact ⟨_,(x.natAbs,y.natAbs),⟨rfl,rfl⟩,rfl,rfl,rfl,rfl,trivial⟩
 case hs=>
  rintro m ⟨p,q⟩ ⟨hm,hg⟩
  dsimp only at hm hg ⊢
  refine ⟨decide ((0:Int) < (q:Int)),(aT fY (aa 3 rfl) ai),fun h=> ?_,fun h ps hps=> ?_⟩
  ·have hy:=dTb h
   refine ae (vV (i:=2) (j:=3) rfl cq.nd rfl rfl (by decide) rfl rfl (af (aa 3 rfl) (af (cT (aa 2 rfl) (aa 3 rfl) (by walk_at "mod")) aj aP) ag) rfl (aU ?_))
   refine ⟨p % q,(q,p % q),by rw [hm]; exact Nat.mod_lt _ (by omega),⟨rfl,?_⟩,rfl,rfl,?_,?_,trivial⟩
   ·rw [← hg,Nat.gcd_comm q,← Nat.gcd_rec,Nat.gcd_comm]
   ·rfl
   ·exact congrArg (fun z=> some (Sl.val (.int z))) (by simp)
  ·have hy:q=0:=by have:=dFb h; omega
   subst hy
   have e:p=Int.gcd x y:=by rw [← hg]; simp
   subst e
   refine e_ ?_ hps
   by_cases h0:Int.gcd x y=0
   ·refine ae (cu (aT cJ (aa 2 rfl) ai) (decide_eq_true (by omega)) ?_)
    refine ae (aI (bG (ao ai (ao ai a_ bH) bH)) ?_)
    unfold dS
    rw [if_pos h0]
   ·refine ae (cw (aT cJ (aa 2 rfl) ai) (decide_eq_false (by omega)) (aU ?_))
    have gz:=uf sx sy
    refine ae (aI (bG (ao (gH (aa 0 rfl) (aa 2 rfl) ⟨by omega,gz.mono (by decide)⟩) (ao (gH (aa 1 rfl) (aa 2 rfl) ⟨by omega,gz.mono (by decide)⟩) a_ aP) aP)) ?_)
    unfold dS
    rw [if_neg h0]
end
section
variable {P:Program} {w:World} {K:PySem.W.Frag} {mg:Str→Option Value} {base:Heap}
theorem dW:bootBuiltins "ValueError"=some (.type "ValueError"):=by decide+kernel
abbrev li (l:List Int):U:=.lst (l.map U.int)
def at6 (cs:List Int) (i:Nat):Int:=cs.getD i 0
theorem ie {cs:List Int} {k:Int} {i:Nat} (e:k=(i:Int)) (h:i < cs.length):atI (cs.map U.int) k=some (.int (at6 cs i)):=by
 subst e
 rw [hJ (by omega) (by omega)]
 rfl
def sS (cs:List Int):P2:=(at6 cs 0 % (2 * 10 ^ (40:Int).toNat+1) - 10 ^ (40:Int).toNat,at6 cs 1 % (2 * 10 ^ (40:Int).toNat+1) - 10 ^ (40:Int).toNat)
theorem kI {n:Nat} {c M:Int} (hM:0 < M) (z:Sz n M):Sz n (c % (2 * M+1) - M):=by
 have h1:=Int.emod_nonneg c (show (2 * M+1:Int)≠0 by omega)
 have h2:=Int.emod_lt_of_pos c (show (0:Int) < 2 * M+1 by omega)
 exact z.natle (by omega)
theorem ww (cs:List Int):Szp 140 (sS cs):=⟨kI (by decide+kernel) (by decide+kernel),kI (by decide+kernel) (by decide+kernel)⟩
def kZ:List U→Out→Prop:=fun us o=> ∃ cs:List Int,us=[li cs]∧cs.length=6∧(∀ c∈cs,Sz 1048576 c)∧o=.val (pu (sS cs))
set_option maxHeartbeats 8000000 in
theorem il (T:Txt K mg):aR P w K mg base (CXF P w) 1 T.a__law_start T.d__law_start ["cells"] (spU K (kZ)):=by
 refine aW T.F__law_start h_ (fun us o h=> ?_) (fun cdv A outer s H E O us o hr h=> ?_)
 ·obtain ⟨cs,rfl,hl,hB,rfl⟩:=h
  rfl
 obtain ⟨cs,rfl,hl,hB,rfl⟩:=h
 refine Ws.nox ?_
 refine ae (aI (bG (ao (bC (cT (ay (aa 0 rfl) ai rfl (ie (i:=0) (by decide) (by omega))) (bS (aZ ai (fu ai ai ⟨by decide,by decide,by decide⟩) (by walk_at "mul")) ai) (by decide+kernel)) (fu ai ai ⟨by decide,by decide,by decide⟩)) (ao (bC (cT (ay (aa 0 rfl) ai rfl (ie (i:=1) (by decide) (by omega))) (bS (aZ ai (fu ai ai ⟨by decide,by decide,by decide⟩) (by walk_at "mul")) ai) (by decide+kernel)) (fu ai ai ⟨by decide,by decide,by decide⟩)) a_ aP) aP)) ?_)
 exact rfl
def dC (cs:List Int):P2:=if at6 cs 4 % 2=1 then dS (at6 cs 2 % 9 - 4) (at6 cs 3 % 9 - 4) else dS (at6 cs 2 % (2 * 10 ^ (20:Int).toNat+1) - 10 ^ (20:Int).toNat) (at6 cs 3 % (2 * 10 ^ (20:Int).toNat+1) - 10 ^ (20:Int).toNat)
theorem s9 (c:Int):Sz 70 (c % 9 - 4):=Sz.mono (m:=8) (by unfold Sz; omega) (by decide)
theorem s20 (c:Int):Sz 70 (c % (2 * 10 ^ (20:Int).toNat+1) - 10 ^ (20:Int).toNat):=kI (by decide+kernel) (by decide+kernel)
theorem vJ (cs:List Int):Szp 70 (dC cs)∧∃ s t:Int,s * (dC cs).1+t * (dC cs).2=1:=by
 unfold dC
 split
 ·exact ⟨tL (s9 _) (s9 _),t4 _ _⟩
 ·exact ⟨tL (s20 _) (s20 _),t4 _ _⟩
def nV:List U→Out→Prop:=fun us o=> ∃ cs:List Int,us=[li cs]∧cs.length=6∧(∀ c∈cs,Sz 1048576 c)∧o=.val (pu (dC cs))
set_option maxHeartbeats 8000000 in
theorem ja (T:Txt K mg):aR P w K mg base (CXF P w) 2 T.a__law_step T.d__law_step ["cells"] (spU K (nV)):=by
 refine aW T.F__law_step fi (fun us o h=> ?_) (fun cdv A outer s H E O us o hr h=> ?_)
 ·obtain ⟨cs,rfl,hl,hB,rfl⟩:=h
  rfl
 obtain ⟨cs,rfl,hl,hB,rfl⟩:=h
 refine Ws.nox ?_
 by_cases h:at6 cs 4 % 2=1
 ·refine ae (cu (aT cJ (cT (ay (aa 0 rfl) ai rfl (ie (i:=4) (by decide) (by omega))) ai (by walk_at "mod")) ai) (decide_eq_true h) ?_)
  refine ae (aI (aN ((eo T).mono (by decide)) hr rfl T.m__law_stride T.F__law_stride.kp T.b__law_stride aC (af (bC (cT (ay (aa 0 rfl) ai rfl (ie (i:=2) (by decide) (by omega))) ai (by walk_at "mod")) ai) (af (bC (cT (ay (aa 0 rfl) ai rfl (ie (i:=3) (by decide) (by omega))) ai (by walk_at "mod")) ai) aj aP) aP) ⟨_,_,rfl,s9 _,s9 _,rfl⟩) ?_)
  unfold dC
  rw [if_pos h]
 ·refine ae (cw (aT cJ (cT (ay (aa 0 rfl) ai rfl (ie (i:=4) (by decide) (by omega))) ai (by walk_at "mod")) ai) (decide_eq_false h) (aU ?_))
  refine ae (aE (i:=1) fi.nd rfl (Or.inl rfl) (bC (cT (ay (aa 0 rfl) ai rfl (ie (i:=2) (by decide) (by omega))) (bS (aZ ai (fu ai ai ⟨by decide,by decide,by decide⟩) (by walk_at "mul")) ai) (by decide+kernel)) (fu ai ai ⟨by decide,by decide,by decide⟩)) ?_)
  refine ae (aI (aN ((eo T).mono (by decide)) hr rfl T.m__law_stride T.F__law_stride.kp T.b__law_stride aC (af (aa 1 rfl) (af (bC (cT (ay (aa 0 rfl) ai rfl (ie (i:=3) (by decide) (by omega))) (bS (aZ ai (fu ai ai ⟨by decide,by decide,by decide⟩) (by walk_at "mul")) ai) (by decide+kernel)) (fu ai ai ⟨by decide,by decide,by decide⟩)) aj aP) ag) ⟨_,_,rfl,s20 _,s20 _,rfl⟩) ?_)
  unfold dC
  rw [if_neg h]
theorem r_ {a d:P2} (pr:∃ s t:Int,s * d.1+t * d.2=1) {i j:Int} (h:wyP a d i=wyP a d j):i=j:=by
 obtain ⟨s,t,e⟩:=pr
 have h1:=congrArg Prod.fst h
 have h2:=congrArg Prod.snd h
 unfold wyP at h1 h2
 dsimp only at h1 h2
 have g1:i * d.1=j * d.1:=by omega
 have g2:i * d.2=j * d.2:=by omega
 have:i * (s * d.1+t * d.2)=j * (s * d.1+t * d.2):=by
  have:i * (s * d.1+t * d.2)=s * (i * d.1)+t * (i * d.2):=by grind
  rw [this,g1,g2]; grind
 rw [e] at this
 omega
def pQ:List U→Out→Prop:=fun us o=> ∃ (a d:P2) (ks:List Int),us=[pu a,pu d,li ks]∧Szp 140 a∧Szp 70 d∧(∃ s t:Int,s * d.1+t * d.2=1)∧(∀ k∈ks,Sz 140 k)∧ks.Nodup∧ks.length≤200∧o=.new ((ST.srt (ks.map (wyP a d))).map pu)
set_option maxHeartbeats 8000000 in
theorem fW (T:Txt K mg):aR P w K mg base (CXF P w) 1 T.a__law_row T.d__law_row ["start","step","some"] (spU K (pQ)):=by
 refine aW T.F__law_row fR (fun us o h=> ?_) (fun cdv A outer s H E O us o hr h=> ?_)
 ·obtain ⟨a,d,ks,rfl,za,zd,pr,zk,nd,kl,rfl⟩:=h
  rfl
 obtain ⟨a,d,ks,rfl,za,zd,pr,zk,nd,kl,rfl⟩:=h
 refine Ws.nox ?_
 have nd2:(ks.map (wyP a d)).Nodup:=by
  rw [List.Nodup,List.pairwise_map]
  exact List.Pairwise.imp (fun h e=> h (r_ pr e)) nd
 refine ae (c_ (jQ rfl T.z_sorted (EvN.ev (e6 (ys:=((ks.map (wyP a d)).map pu)) rfl (blk (ah bZ) ["start","step","some","k"] [3] rfl rfl rfl rfl (by decide+kernel)) (eu (aa 2 rfl) (.inl rfl)) (fun _ _ _ _=> bW (i:=3) fR.nd rfl (Or.inl rfl)) (cv (by decide)) ?clen ?csz (fun _ _=> trivial) ?celt)) ⟨by rw [List.length_map]; omega,nd2⟩ dO) ?_)
 case clen=> simp
 case csz=> rw [List.length_map]; exact Nat.le_of_lt (ba (by omega))
 case celt=>
  intro C s' H' fp j x y hx hy
  rw [List.map_map] at hy
  obtain ⟨k,hk,mk,rfl,rfl⟩:=gh hx hy
  have k1:=zk k mk
  have d1:=zd.1
  have d2:=zd.2
  exact (bG (ao (bS (ay (aa 0 rfl) ai rfl rfl) (aZ (aa 3 rfl) (ay (aa 1 rfl) ai rfl rfl) (by walk_at "mul"))) (ao (bS (ay (aa 0 rfl) ai rfl rfl) (aZ (aa 3 rfl) (ay (aa 1 rfl) ai rfl rfl) (by walk_at "mul"))) a_ aP) aP))
 exact rfl
end
section
variable {P:Program} {w:World} {K:PySem.W.Frag} {mg:Str→Option Value} {base:Heap}
def rm:List U→Out→Prop:=fun us o=> ∃ (a d:P2) (n:Nat),us=[lp (wyE a d n)]∧Wy a d n∧99 < n∧o=.val (.bl true)
set_option maxHeartbeats 8000000 in
theorem gd (T:Txt K mg):aR P w K mg base (CXF P w) 10 T.a__law_refused T.d__law_refused ["ends"] (spU K (rm)):=by
 refine aW T.F__law_refused aX (fun us o h=> ?_) (fun cdv A outer s H E O us o hr h=> ?_)
 ·obtain ⟨a,d,n,rfl,W,hc,rfl⟩:=h
  rfl
 obtain ⟨a,d,n,rfl,W,hc,rfl⟩:=h
 refine Ws.nox ?_
 refine ae (aE (i:=1) aX.nd rfl (Or.inl rfl) (EvN.ev (cm a_)) ?_)
 refine ae (aE (i:=2) aX.nd rfl (Or.inl rfl) (EvN.ev (cm a_)) ?_)
 refine ae (iO rfl rfl ((iz T).mono (by decide)) hr rfl T.m_pieces T.F_pieces.kp T.b_pieces (af (aa 0 rfl) aj ag) rfl T.mx_TooMany T.ty_TooMany T.bx_TooMany aX.nd (i:=3) rfl rfl ⟨a,d,n,rfl,W,.inr ⟨hc,rfl⟩⟩ T.sub_TooMany_TooMany (T.xc_TooMany) (fun ea=> ?_))
 refine ae (aE (i:=1) aX.nd rfl (Or.inl rfl) (EvN.ev (cm (ao (tN T.kit_TooMany_StakeError rfl T.z_isinstance boot_isinstance (aa 3 rfl) rfl T.mx_StakeError) (ao (ak (iG T.kit_TooMany_ValueError) rfl T.z_isinstance boot_isinstance (af (aa 3 rfl) (af (bT rfl T.z_ValueError dW) aj ag) ag)) (ao (qa (ua T.kit_TooMany_Flat T.kit_TooMany_NoNumber) rfl T.z_isinstance boot_isinstance (aa 3 rfl) rfl T.mx_Flat rfl T.mx_NoNumber) a_ bx) bx) bx))) (aU ?_))
 show Ws _ _ _ _ _ _ [some (.val (lp (wyE a d n))),some (.val (.lst [.bl true,.bl true,.bl false])),some (.val (.lst [])),none]
 refine ae (iO rfl rfl ((eF T).mono (by decide)) hr rfl T.m_stakes T.F_stakes.kp T.b_stakes (af (aa 0 rfl) aj ag) rfl T.mx_TooMany T.ty_TooMany T.bx_TooMany aX.nd (i:=3) rfl rfl ⟨a,d,n,rfl,W,.inr ⟨hc,rfl⟩⟩ T.sub_TooMany_TooMany (T.xc_TooMany) (fun ea=> ?_))
 refine ae (aE (i:=2) aX.nd rfl (Or.inl rfl) (EvN.ev (cm (ao (tN T.kit_TooMany_StakeError rfl T.z_isinstance boot_isinstance (aa 3 rfl) rfl T.mx_StakeError) (ao (ak (iG T.kit_TooMany_ValueError) rfl T.z_isinstance boot_isinstance (af (aa 3 rfl) (af (bT rfl T.z_ValueError dW) aj ag) ag)) (ao (qa (ua T.kit_TooMany_Flat T.kit_TooMany_NoNumber) rfl T.z_isinstance boot_isinstance (aa 3 rfl) rfl T.mx_Flat rfl T.mx_NoNumber) a_ bx) bx) bx))) (aU ?_))
 show Ws _ _ _ _ _ _ [some (.val (lp (wyE a d n))),some (.val (.lst [.bl true,.bl true,.bl false])),some (.val (.lst [.bl true,.bl true,.bl false])),none]
 refine ae (aI (cU (g4 (rG (im hr) (by walk_at "ok") (by walk_at "ok")) (aa 1 rfl) (EvN.ev (cm (ao dY (ao dY (ao dY a_ bH) bH) bH)))) (fun hz=> (dH (g4 (rG (im hr) (by walk_at "ok") (by walk_at "ok")) (aa 2 rfl) (EvN.ev (cm (ao dY (ao dY (ao dY a_ bH) bH) bH))))))) ?_)
 exact rfl
end
section
variable {P:Program} {w:World} {K:PySem.W.Frag} {mg:Str→Option Value} {base:Heap}
def oR:List U→List U→Out→Prop:=fun xs us o=> ∃ (a d:P2) (n:Nat),xs=pcs a d n∧us=[lp (wyL a d n)]∧n≤99∧o=.val (.bl true)
set_option maxHeartbeats 8000000 in
theorem gC (T:Txt K mg):aR P w K mg base (CXF P w) 3 T.a__law_pieces T.d__law_pieces ["found","row"] (spO K (oR)):=by
 refine rf T.F__law_pieces bv (fun xs us o h=> ?_) (fun cdv A outer s H H1 E O xs us o hr h=> ?_)
 ·obtain ⟨a,d,n,rfl,rfl,hn,rfl⟩:=h
  rfl
 obtain ⟨a,d,n,rfl,rfl,hn,rfl⟩:=h
 refine Ws.nox ?_
 have hm:(((wyL a d n).map pu).length:Int)=(n:Int)+1:=by rw [List.length_map,dR]; omega
 have a0:atI ((wyL a d n).map pu) 0=some (pu a):=hW (i:=0) (by decide) (by rw [List.getElem?_map,fO (by omega),show ((0:Nat):Int)=0 from rfl,fQ]; rfl)
 refine ae (aE (i:=2) bv.nd rfl (Or.inl rfl) (EvN.ev (cm (ao (bG (ao (ay (aa 1 rfl) ai rfl a0) a_ bF)) a_ i7))) ?_)
 refine pJ (fun ps=> SubP [some (.own (pcs a d n)),some (.val (lp (wyL a d n))),some (.val (.lst (pcs a d n))),none,none,none] ps) (ii (aT fY (ak (cx rfl) rfl T.z_len PySem.boot_len (af (aa 1 rfl) aj ag)) ai) (fun hT=> ?_) (fun hF=> (aU ?_))) ?hj
 ·have h1:=dTb hT
  rw [hm] at h1
  have h0:n≠0:=by omega
  refine ae (nF (ys:=(pcs a d n)) (j:=2) false rfl bv.nd rfl (Or.inl rfl) (blk (ah br) ["found","row","due","k","piece","spot"] [3] rfl rfl rfl rfl (by decide+kernel)) (j3 rfl T.z_range (af (bC (ak (cx rfl) rfl T.z_len PySem.boot_len (af (aa 1 rfl) aj ag)) ai) aj aP) (by rw [hm]; omega) (by rw [hm]; omega)) (fun _ _ _ _=> bW (i:=3) bv.nd rfl (Or.inl rfl)) (cv (by decide)) ?clen ?csz (fun _ _=> trivial) ?celt (aU ?_))
  case clen=> rw [bq,hm]; unfold pcs; rw [if_neg h0]; simp
  case csz=> rw [bq,hm]; exact Nat.le_of_lt (ba (by omega))
  case celt=>
   intro C s' H' fp j x y hx hy
   obtain ⟨hj,rfl⟩:=cZ hx
   have hj':j < n:=by rw [hm] at hj; omega
   have ey:y=.tup [pu (wyP a d j),pu (wyP a d ((j:Int)+1))]:=by
    unfold pcs at hy
    rw [if_neg h0,List.getElem?_map,List.getElem?_range hj'] at hy
    cases hy; rfl
   rw [ey]
   exact (bG (ao (ay (aa 1 rfl) (aa 3 rfl) rfl (hW (i:=j) (by omega) (by rw [List.getElem?_map,fO (by omega)]; rfl))) (ao (ay (aa 1 rfl) (bS (aa 3 rfl) ai) rfl (hW (i:=j+1) (by omega) (by rw [List.getElem?_map,fO (by omega),show ((j+1:Nat):Int)=(j:Int)+1 by omega]; rfl))) a_ bF) bF))
  exact ⟨rfl,rfl,rfl,trivial⟩
 ·have h1:=dFb hF
  rw [hm] at h1
  have h0:n=0:=by omega
  refine ⟨rfl,rfl,?_,trivial⟩
  unfold pcs
  rw [if_pos h0]
 case hj=>
  intro ps hps
  refine e_ ?_ hps
  refine ae (cw (mf 0 rfl (Tw.t (sC (dc (cS (ak (ax (by intro _ h; cases h) (L2.kit_list_list _)) rfl T.z_isinstance boot_isinstance (af (aa 0 rfl) (af (bT rfl T.z_list boot_list) aj ag) ag)))) (fun hz=> (qM (aT (vF (im hr) (lY a d n) (lY a d n)) (aa 0 rfl) (aa 2 rfl))))))) (show (!true || !eqW (.lst (pcs a d n)) (.lst (pcs a d n)))=false by rw [kf 9 _ (lY a d n)]; rfl) (aU ?_))
  refine ae (oZ (fun fv H2 O2=> ?hb) ?_)
  case hb=>
   show W1 _ _ _ _ _ _ [some (.pin (fv 0) (.lst (pcs a d n))),some (.pin (fv 1) (lp (wyL a d n))),some (.pin (fv 2) (.lst (pcs a d n))),none,none,none]
   refine (fF (fun _:Unit=> [some (.pin (fv 0) (.lst (pcs a d n))),some (.pin (fv 1) (lp (wyL a d n))),some (.pin (fv 2) (.lst (pcs a d n))),none,none,none]) (fun _ _=> True) rfl PassesOwn.never (eu (wa 0 rfl) (.inl rfl)) ?h0 ?hs ?hd)
   case h0=> exact ⟨(),trivial,rfl,rfl,rfl,trivial⟩
   case hs=>
    rintro H0 i x _ hx _
    obtain ⟨l,rfl⟩:=uV hx
    refine ⟨_,(gO (i:=4) bv.nd rfl (Or.inl rfl)),?_⟩
    refine ae (cw (dc (cS (ak (ax (by intro _ h; cases h) (by walk_at "kit")) rfl T.z_isinstance boot_isinstance (af (aa 4 rfl) (af (bT rfl T.z_tuple boot_tuple) aj ag) ag)))) rfl (aU ?_))
    refine ae (fF (fun _:Unit=> [some (.pin (fv 0) (.lst (pcs a d n))),some (.pin (fv 1) (lp (wyL a d n))),some (.pin (fv 2) (.lst (pcs a d n))),none,none,none]) (fun _ _=> True) rfl PassesOwn.never (ud (aa 4 rfl)) ?h02 ?hs2 ?hd2)
    case h02=> exact ⟨(),trivial,rfl,rfl,rfl,trivial⟩
    case hs2=>
     rintro H3 j y _ hy _
     obtain ⟨p,hp,mp,rfl⟩:=mS hy
     refine ⟨_,(gO (i:=5) bv.nd rfl (Or.inl rfl)),?_⟩
     refine ae (cw (dc (cS (aN ((dE T).mono (by decide)) hr rfl T.m__law_is_point T.F__law_is_point.kp T.b__law_is_point aC (af (aa 5 rfl) aj ag) ⟨p,rfl,rfl⟩))) rfl (aU (aU ?_)))
     exact ⟨(),trivial,rfl,rfl,rfl,trivial⟩
    case hd2=>
     rintro _ ps _ hps
     refine aU ?_
     exact ⟨(),trivial,hps⟩
   case hd=> exact fun _ ps _ hps=> hps
  refine ae (sU 0 rfl ?_)
  refine ae (aI dY ?_)
  exact vB rfl
def oh:List U→List U→Out→Prop:=fun xs us o=> ∃ R:List P2,xs=R.map pu∧us=[lp R]∧R.length≤900∧o=.val (.bl true)
set_option maxHeartbeats 8000000 in
theorem gI (T:Txt K mg):aR P w K mg base (CXF P w) 3 T.a__law_stakes T.d__law_stakes ["found","row"] (spO K (oh)):=by
 refine rf T.F__law_stakes d9 (fun xs us o h=> ?_) (fun cdv A outer s H H1 E O xs us o hr h=> ?_)
 ·obtain ⟨R,rfl,rfl,hl,rfl⟩:=h
  rfl
 obtain ⟨R,rfl,rfl,hl,rfl⟩:=h
 refine Ws.nox ?_
 refine ae (cw (mf 0 rfl (Tw.t (sC (dc (cS (ak (ax (by intro _ h; cases h) (L2.kit_list_list _)) rfl T.z_isinstance boot_isinstance (af (aa 0 rfl) (af (bT rfl T.z_list boot_list) aj ag) ag)))) (fun hz=> (qM (aT (vF (im hr) (iT R) (iT R)) (aa 0 rfl) (aa 1 rfl))))))) (show (!true || !eqW (lp R) (lp R))=false by rw [md]; simp) (aU ?_))
 refine ae (cw (mf 0 rfl (aT p9 (ak (cx rfl) rfl T.z_len PySem.boot_len (af (EvN.ev (tG (R.map fun p=> some (pu p)) rfl (blk (ah bp) ["found","row","spot"] [2] rfl rfl rfl rfl (by decide+kernel)) (eu (aa 0 rfl) (.inl rfl)) (fun _ _ _ _=> bW (i:=2) d9.nd rfl (Or.inl rfl)) (cv (by decide)) ?clen ?csz (fun _ _=> trivial) ?ctest ?celt)) aj dO)) (ak (cx rfl) rfl T.z_len PySem.boot_len (af (aa 1 rfl) aj ag)))) (by simp) (aU ?_))
 case clen=> simp
 case csz=> rw [List.length_map]; exact Nat.le_of_lt (ba (by omega))
 case ctest=>
  intro C s' H' fp j x o hx ho
  obtain ⟨p,hp,mp,rfl⟩:=mS hx
  rw [List.getElem?_map,hp] at ho
  cases ho
  exact (cS (aN ((dE T).mono (by decide)) hr rfl T.m__law_is_point T.F__law_is_point.kp T.b__law_is_point aC (af (aa 2 rfl) aj ag) ⟨p,rfl,rfl⟩))
 case celt=>
  intro C s' H' fp j x y hx hy
  obtain ⟨p,hp,mp,rfl⟩:=mS hx
  rw [List.getElem?_map,hp] at hy
  cases hy
  exact (aa 2 rfl)
 refine ae (jO 0 rfl (bG (ao ai (ao ai a_ bH) bH)) (by rw [List.length_map]; exact ba (by omega)) ?_)
 refine ae (aI dY ?_)
 exact vB rfl
end
section
variable {P:Program} {w:World} {K:PySem.W.Frag} {mg:Str→Option Value} {base:Heap}
def lgL (c:Int):List Int:=[c % 8,c % 111,98+c % 4,101+c % 10 ^ (40:Int).toNat]
def lg (cs:List Int):Int:=(lgL (at6 cs 5)).getD (at6 cs 4 / 2 % 4).toNat 0
theorem wu (cs:List Int):0≤lg cs∧Sz 140 (lg cs):=by
 have key:∀ x∈lgL (at6 cs 5),0≤x∧Sz 140 x:=fun x hx=> by
  have h1:=Int.emod_nonneg (at6 cs 5) (show (10 ^ (40:Int).toNat:Int)≠0 by decide+kernel)
  have h2:=Int.emod_lt_of_pos (at6 cs 5) (show (0:Int) < 10 ^ (40:Int).toNat by decide+kernel)
  have z:Sz 139 ((10:Int) ^ (40:Int).toNat):=by decide+kernel
  have s1:Sz 139 (101:Int):=Sz.mono (m:=8) (by decide) (by decide)
  unfold lgL at hx
  simp only [List.mem_cons,List.not_mem_nil,or_false] at hx
  rcases hx with e | e | e | e <;> rw [e]
  ·exact ⟨by omega,Sz.mono (m:=8) (by unfold Sz; omega) (by decide)⟩
  ·exact ⟨by omega,Sz.mono (m:=8) (by unfold Sz; omega) (by decide)⟩
  ·exact ⟨by omega,Sz.mono (m:=8) (by unfold Sz; omega) (by decide)⟩
  ·exact ⟨by omega,L2.Sz.add' s1 (z.natle (by omega))⟩
 unfold lg
 have hi:(at6 cs 4 / 2 % 4).toNat < (lgL (at6 cs 5)).length:=by show _ < 4; omega
 rw [List.getD_eq_getElem?_getD,List.getElem?_eq_getElem hi]
 exact key _ (List.getElem_mem hi)
def lc:List U→Out→Prop:=fun us o=> ∃ cs:List Int,us=[li cs]∧cs.length=6∧(∀ c∈cs,Sz 1048576 c)∧o=.val (.bl true)
theorem ksE {a d:P2} {n:Nat}:(if (n:Int) > 0 then [0,(n:Int)] else [0]).map (wyP a d)=wyE a d n:=by
 unfold wyE
 by_cases h:n=0
 ·rw [if_pos h,if_neg (by omega)]; simp [fQ]
 ·rw [if_neg h,if_pos (by omega)]; simp [fQ]
theorem wX (n:Int):e7 [.int 0,.int n] none (some (1+if decide (n > 0)=true then 1 else 0))=(if n > 0 then [0,n] else [0]).map U.int:=by
 by_cases h:n > 0
 ·rw [if_pos (decide_eq_true h),if_pos h]; rfl
 ·rw [if_neg (by simpa using h),if_neg h]; rfl
set_option maxHeartbeats 8000000 in
theorem ik (T:Txt K mg):aR P w K mg base (CXF P w) 11 T.a__law_asked T.d__law_asked ["cells"] (spU K (lc)):=by
 refine aW T.F__law_asked bo (fun us o h=> ?_) (fun cdv A outer s H E O us o hr h=> ?_)
 ·obtain ⟨cs,rfl,hl,hB,rfl⟩:=h
  rfl
 obtain ⟨cs,rfl,hl,hB,rfl⟩:=h
 refine Ws.nox ?_
 obtain ⟨g0,gz⟩:=wu cs
 obtain ⟨dz,dp⟩:=vJ cs
 have sz:=ww cs
 have e5:atI (cs.map U.int) 5=some (.int (at6 cs 5)):=ie (i:=5) (by decide) (by omega)
 have e4:atI (cs.map U.int) 4=some (.int (at6 cs 4)):=ie (i:=4) (by decide) (by omega)
 have el:atI ((lgL (at6 cs 5)).map U.int) (at6 cs 4 / 2 % 4)=some (.int (lg cs)):=hJ (by omega) (by show _ < (4:Int); omega)
 refine ae (aE (i:=1) bo.nd rfl (Or.inl rfl) (ay (EvN.ev (cm (ao (cT (ay (aa 0 rfl) ai rfl e5) ai (by walk_at "mod")) (ao (cT (ay (aa 0 rfl) ai rfl e5) ai (by walk_at "mod")) (ao (bS ai (cT (ay (aa 0 rfl) ai rfl e5) ai (by walk_at "mod"))) (ao (bS ai (cT (ay (aa 0 rfl) ai rfl e5) (fu ai ai ⟨by decide,by decide,by decide⟩) (by decide+kernel))) a_ aP) aP) aP) aP))) (cT (gH (ay (aa 0 rfl) ai rfl e4) ai (by walk_at "div")) ai (by walk_at "mod")) rfl el) ?_)
 refine ae (aE (i:=2) bo.nd rfl (Or.inl rfl) (aN ((il T).mono (by decide)) hr rfl T.m__law_start T.F__law_start.kp T.b__law_start aC (af (aa 0 rfl) aj ag) ⟨cs,rfl,hl,hB,rfl⟩) ?_)
 refine ae (aE (i:=3) bo.nd rfl (Or.inl rfl) (aN ((ja T).mono (by decide)) hr rfl T.m__law_step T.F__law_step.kp T.b__law_step aC (af (aa 0 rfl) aj ag) ⟨cs,rfl,hl,hB,rfl⟩) ?_)
 generalize lg cs=L at *
 obtain ⟨n,rfl⟩:∃ n:Nat,L=(n:Int):=⟨L.toNat,by omega⟩
 generalize dC cs=d0 at *
 generalize sS cs=s0 at *
 obtain ⟨a,d,W,mem⟩:=tm sz dz dp gz
 have nd2:(if (n:Int) > 0 then [0,(n:Int)] else [0]).Nodup:=by
  split
  ·simp; omega
  ·simp
 have zk:∀ k∈(if (n:Int) > 0 then [0,(n:Int)] else [0]),Sz 140 k:=by
  have o0:Sz 140 (0:Int):=Sz.mono (m:=8) (by decide) (by decide)
  intro k hk
  split at hk <;> simp at hk
  ·rcases hk with z | z <;> rw [z]
   ·exact o0
   ·exact gz
  ·rw [hk]; exact o0
 have l2:(if (n:Int) > 0 then [0,(n:Int)] else [0]).length≤200:=by split <;> simp
 refine ae (aE (i:=4) bo.nd rfl (Or.inl rfl) (EvN.ev (ci ((fW T).mono (by decide)) hr rfl T.m__law_row T.F__law_row.kp T.b__law_row aC (af (aa 2 rfl) (af (aa 3 rfl) (af (EvN.ev (eH (EvN.ev (cm (ao ai (ao (aa 1 rfl) a_ ag) bH))) fJ (fM (bS ai (rC uD rfl T.z_int boot_int (af (g4 fY (aa 1 rfl) ai) aj vd)))) (.inl rfl))) aj bF) ag) ag) ⟨s0,d0,_,by rw [wX],sz,dz,dp,zk,nd2,l2,rfl⟩)) ?_)
 rw [ksE,gL (mZ (a:=a) W.lx n) fun z=> (mem z).2]
 refine ae (aE (i:=5) bo.nd rfl (Or.inl rfl) (EvN.ev (mK (rc rfl) rfl T.z_list boot_list (af (aa 4 rfl) aj ag))) ?_)
 by_cases hc:99 < n
 ·refine ae (cu (aT fY (aa 1 rfl) ai) (decide_eq_true (by omega)) ?_)
  refine ae (aI (cU (aN ((gd T).mono (by decide)) hr rfl T.m__law_refused T.F__law_refused.kp T.b__law_refused aC (af (aa 5 rfl) aj ag) ⟨a,d,n,rfl,W,hc,rfl⟩) (fun hz=> (dH (g4 (rG (im hr) (iT _) (iT _)) (aa 5 rfl) (aa 4 rfl))))) ?_)
  exact vB (by rw [md]; simp)
 ·refine ae (cw (aT fY (aa 1 rfl) ai) (decide_eq_false (by omega)) (aU ?_))
  have ek:(cQ 0 ((n:Int)+1).toNat)=((List.range (n+1)).map fun (k:Nat)=> (k:Int)).map U.int:=by
   unfold cQ
   rw [List.map_map,show ((n:Int)+1).toNat=n+1 by omega]
   refine List.map_congr_left fun k _=> ?_
   show U.int _=U.int _
   rw [Int.zero_add]
  have ndk:((List.range (n+1)).map fun (k:Nat)=> (k:Int)).Nodup:=by
   rw [List.Nodup,List.pairwise_map]
   exact List.Pairwise.imp (fun h e=> h (by omega)) List.nodup_range
  have zk2:∀ k∈((List.range (n+1)).map fun (k:Nat)=> (k:Int)),Sz 140 k:=fun k hk=> by
   obtain ⟨j,hj,rfl⟩:=List.mem_map.mp hk
   have:=List.mem_range.mp hj
   exact Sz.mono (m:=8) (by unfold Sz; omega) (by decide)
  refine ae (aE (i:=6) bo.nd rfl (Or.inl rfl) (EvN.ev (ci ((fW T).mono (by decide)) hr rfl T.m__law_row T.F__law_row.kp T.b__law_row aC (af (aa 2 rfl) (af (aa 3 rfl) (af (EvN.ev (n_ rfl rfl T.z_list rfl T.z_range (bS (aa 1 rfl) ai) (by omega) (by omega) aP)) aj bx) ag) ag) ⟨s0,d0,_,by rw [ek],sz,dz,dp,zk2,ndk,by simp; omega,rfl⟩)) ?_)
  rw [List.map_map,show (List.range (n+1)).map (wyP s0 d0 ∘ fun (k:Nat)=> (k:Int))=wyL s0 d0 n from rfl,gL (ml (a:=a) W.lx n) fun z=> (mem z).1]
  refine ae (aI (cU (jU ((gC T).mono (by decide)) hr rfl T.m__law_pieces T.F__law_pieces.kp T.b__law_pieces aC (ci ((iz T).mono (by decide)) hr rfl T.m_pieces T.F_pieces.kp T.b_pieces aC (af (aa 5 rfl) aj ag) ⟨a,d,n,rfl,W,.inl ⟨by omega,rfl⟩⟩) 6 rfl ⟨a,d,n,rfl,rfl,by omega,rfl⟩ bx) (fun hz=> (cU (jU ((gI T).mono (by decide)) hr rfl T.m__law_stakes T.F__law_stakes.kp T.b__law_stakes aC (ci ((eF T).mono (by decide)) hr rfl T.m_stakes T.F_stakes.kp T.b_stakes aC (af (aa 5 rfl) aj ag) ⟨a,d,n,rfl,W,.inl ⟨by omega,rfl⟩⟩) 6 rfl ⟨_,rfl,rfl,by rw [dR]; omega,rfl⟩ bx) (fun hz=> (dH (g4 (rG (im hr) (iT _) (iT _)) (aa 5 rfl) (aa 4 rfl))))))) ?_)
  exact vB (by rw [md]; simp)
end
section
variable {P:Program} {w:World} {K:PySem.W.Frag} {mg:Str→Option Value} {base:Heap}
set_option maxHeartbeats 8000000 in
theorem uN (T:Txt K mg):aR P w K mg base (CXF P w) 12 T.a_law T.d_law ["script"] (spU K (fo)):=by
 refine aW T.F_law kX (fun us o h=> ?_) (fun cdv A outer s H E O us o hr h=> ?_)
 ·obtain ⟨ns,rfl,h63,hB,rfl⟩:=h
  rfl
 obtain ⟨ns,rfl,h63,hB,rfl⟩:=h
 refine Ws.nox ?_
 have hm:((ns.map U.int).length:Int)=(ns.length:Int):=by rw [List.length_map]
 have hb:(if (if (60:Int) < ((ns.map U.int).length:Int) then (60:Int) else ((ns.map U.int).length:Int)) > 1 then (if (60:Int) < ((ns.map U.int).length:Int) then (60:Int) else ((ns.map U.int).length:Int)) else 1)=((max 1 (min ns.length 60):Nat):Int):=by
  rw [hm]
  split <;> split <;> omega
 have hmm:dZ 0 ((max 1 (min ns.length 60):Nat):Int) 6≤10:=by
  unfold dZ
  split <;> omega
 refine ae (fF (fun _:Unit=> [some (.val (.scr (ns.map U.int))),none,none]) (fun _ _=> True) rfl PassesOwn.never (qV rfl T.z_range (af ai (af (ak (v0 rfl) rfl T.z_max boot_max (af ai (af (ak (vC rfl) rfl T.z_min boot_min (af (ak (cx rfl) rfl T.z_len PySem.boot_len (af (aa 0 rfl) aj ag)) (af ai aj bH) bx)) aj bx) bH)) (af ai aj bH) bx) bH) (by rw [hb]; omega)) ?h0 ?hs ?hd)
 case h0=> exact ⟨(),trivial,rfl,trivial⟩
 case hs=>
  intro H0 i x _ hx _
  rw [hb] at hx
  obtain ⟨hi,rfl⟩:=jJ hx
  refine ⟨_,(gO (i:=1) kX.nd rfl (Or.inr rfl)),?_⟩
  generalize hk:(0+(i:Int) * 6)=k at *
  have k0:0≤k:=by omega
  generalize hcs:((List.range 6).map fun (j:Nat)=> cel ns (k+(0+(j:Int))))=cs
  have cl:cs.length=6:=by rw [← hcs]; simp
  have cz:∀ c∈cs,Sz 1048576 c:=fun c hc=> by
   rw [← hcs] at hc
   obtain ⟨j,_,rfl⟩:=List.mem_map.mp hc
   exact uA hB _
  refine ae (cw (dc (cS (aN ((ik T).mono (by decide)) hr rfl T.m__law_asked T.F__law_asked.kp T.b__law_asked aC (af (EvN.ev (e6 (ys:=(cs.map U.int)) rfl (blk (ah gv) ["script","at","k"] [2] rfl rfl rfl rfl (by decide+kernel)) (j3 rfl T.z_range (af ai aj bH) (by decide) (by decide)) (fun _ _ _ _=> bW (i:=2) kX.nd rfl (Or.inl rfl)) (cv (by decide)) ?clen ?csz (fun _ _=> trivial) ?celt)) aj dO) ⟨cs,rfl,cl,cz,rfl⟩))) rfl (aU (aU ?_)))
  case clen=> rw [bq,List.length_map,cl]; rfl
  case csz=> rw [bq]; exact Nat.le_of_lt (ba (by decide))
  case celt=>
   intro C s' H' fp j x y hx hy
   obtain ⟨hj,rfl⟩:=cZ hx
   have hj6:j < 6:=hj
   have ey:y=.int (cel ns (k+(0+(j:Int)))):=by
    rw [← hcs,List.map_map,List.getElem?_map,List.getElem?_range hj6] at hy
    cases hy; rfl
   rw [ey]
   exact (aN ((gc T).mono (by decide)) hr rfl T.m__law_cell_at T.F__law_cell_at.kp T.b__law_cell_at aC (af (aa 0 rfl) (af (bS (aa 1 rfl) (aa 2 rfl)) aj aP) ag) ⟨ns,_,rfl,by omega,rfl⟩)
  exact ⟨(),trivial,rfl,trivial⟩
 case hd=>
  intro _ ps _ hps
  refine e_ ?_ hps
  refine ae (aI dY ?_)
  exact vB rfl
end
theorem ar1 {p:List Value→Prop} {us:List Value} (h:us.length=1) (q:∀ a0,p [a0]):p us:=match us,h with | [a0],_=> q a0
theorem ar2 {p:List Value→Prop} {us:List Value} (h:us.length=2) (q:∀ a0 a1,p [a0,a1]):p us:=match us,h with | [a0,a1],_=> q a0 a1
theorem ar3 {p:List Value→Prop} {us:List Value} (h:us.length=3) (q:∀ a0 a1 a2,p [a0,a1,a2]):p us:=match us,h with | [a0,a1,a2],_=> q a0 a1 a2
set_option maxHeartbeats 8000000 in
theorem txt_mk {K:PySem.W.Frag} {h:Heap} {mg:Str→Option Value} {fa f0 f1 f2 f3 f4 f5 f6 f7 f8 f9 f10 f11 f12 f13 f14 f15 f16 f17 f18 f19 f20 f21 f22 f23 f24 f25 f26 f27 f28 f29 f30 f31 f32 f33 f34 f35 f36 f37 f38 c_Flat c_NoField c_NoMove c_NoNumber c_StakeError c_TooMany:Addr} (X:K.In h) (G:h.Ns mainGlobals mg) (hfa:mg "law"=some (.ref fa))
  {od0 an0 od1 an1 od2 an2 od3 an3 od4 an4 od5 an5 od6 an6 od7 an7 od8 an8 od9 an9 od10 an10 od11 an11 od12 an12 od13 an13 od14 an14 od15 an15 od16 an16 od17 an17 od18 an18 od19 an19 od20 an20 od21 an21 od22 an22 od23 an23 od24 an24 od25 an25 od26 an26 od27 an27 od28 an28 od29 an29 od30 an30 od31 an31 od32 an32 od33 an33 od34 an34 od35 an35 od36 an36 od37 an37 od38 an38:Option Addr} {sl0 sl1 sl2 sl3 sl4 sl5 sl6 sl7 sl8 sl9 sl10 sl11 sl12 sl13 sl14 sl15 sl16 sl17 sl18 sl19 sl20 sl21 sl22 sl23 sl24 sl25 sl26 sl27 sl28 sl29 sl30 sl31 sl32 sl33 sl34 sl35 sl36 sl37 sl38:Array (Option Value)} {oc0 kV0 dc0 pm0 cd0 ct0 oc1 kV1 dc1 pm1 cd1 ct1 oc2 kV2 dc2 pm2 cd2 ct2 oc3 kV3 dc3 pm3 cd3 ct3 oc4 kV4 dc4 pm4 cd4 ct4 oc5 kV5 dc5 pm5 cd5 ct5 oc6 kV6 dc6 pm6 cd6 ct6 oc7 kV7 dc7 pm7 cd7 ct7 oc8 kV8 dc8 pm8 cd8 ct8 oc9 kV9 dc9 pm9 cd9 ct9 oc10 kV10 dc10 pm10 cd10 ct10 oc11 kV11 dc11 pm11 cd11 ct11 oc12 kV12 dc12 pm12 cd12 ct12 oc13 kV13 dc13 pm13 cd13 ct13 oc14 kV14 dc14 pm14 cd14 ct14 oc15 kV15 dc15 pm15 cd15 ct15 oc16 kV16 dc16 pm16 cd16 ct16 oc17 kV17 dc17 pm17 cd17 ct17 oc18 kV18 dc18 pm18 cd18 ct18 oc19 kV19 dc19 pm19 cd19 ct19 oc20 kV20 dc20 pm20 cd20 ct20 oc21 kV21 dc21 pm21 cd21 ct21 oc22 kV22 dc22 pm22 cd22 ct22 oc23 kV23 dc23 pm23 cd23 ct23 oc24 kV24 dc24 pm24 cd24 ct24 oc25 kV25 dc25 pm25 cd25 ct25 oc26 kV26 dc26 pm26 cd26 ct26 oc27 kV27 dc27 pm27 cd27 ct27 oc28 kV28 dc28 pm28 cd28 ct28 oc29 kV29 dc29 pm29 cd29 ct29 oc30 kV30 dc30 pm30 cd30 ct30 oc31 kV31 dc31 pm31 cd31 ct31 oc32 kV32 dc32 pm32 cd32 ct32 oc33 kV33 dc33 pm33 cd33 ct33 oc34 kV34 dc34 pm34 cd34 ct34 oc35 kV35 dc35 pm35 cd35 ct35 oc36 kV36 dc36 pm36 cd36 ct36 oc37 kV37 dc37 pm37 cd37 ct37 oc38 kV38 dc38 pm38 cd38 ct38:Value}
  (a0:PySem.W.nsIn K mainGlobals "is_whole"=some (some (.ref f0))) (l0:K.lookup f0=some ⟨oc0,od0,.func (PySem.W.fnOf "is_whole" "is_whole" (aq cD) (am cD) (ah cD) .none kV0 dc0 pm0 an0 cd0 ct0),sl0⟩) (c0:PySem.W.codeIn K cd0 "is_whole"=true) (k0:PySem.W.keepIn K (.ref f0)=true)
  (a1:PySem.W.nsIn K mainGlobals "sign"=some (some (.ref f1))) (l1:K.lookup f1=some ⟨oc1,od1,.func (PySem.W.fnOf "sign" "sign" (aq fP) (am fP) (ah fP) .none kV1 dc1 pm1 an1 cd1 ct1),sl1⟩) (c1:PySem.W.codeIn K cd1 "sign"=true) (k1:PySem.W.keepIn K (.ref f1)=true)
  (a2:PySem.W.nsIn K mainGlobals "shares"=some (some (.ref f2))) (l2:K.lookup f2=some ⟨oc2,od2,.func (PySem.W.fnOf "shares" "shares" (aq dw) (am dw) (ah dw) .none kV2 dc2 pm2 an2 cd2 ct2),sl2⟩) (c2:PySem.W.codeIn K cd2 "shares"=true) (k2:PySem.W.keepIn K (.ref f2)=true)
  (a3:PySem.W.nsIn K mainGlobals "hand"=some (some (.ref f3))) (l3:K.lookup f3=some ⟨oc3,od3,.func (PySem.W.fnOf "hand" "hand" (aq fz) (am fz) (ah fz) .none kV3 dc3 pm3 an3 cd3 ct3),sl3⟩) (c3:PySem.W.codeIn K cd3 "hand"=true) (k3:PySem.W.keepIn K (.ref f3)=true)
  (a4:PySem.W.nsIn K mainGlobals "is_move"=some (some (.ref f4))) (l4:K.lookup f4=some ⟨oc4,od4,.func (PySem.W.fnOf "is_move" "is_move" (aq cA) (am cA) (ah cA) .none kV4 dc4 pm4 an4 cd4 ct4),sl4⟩) (c4:PySem.W.codeIn K cd4 "is_move"=true) (k4:PySem.W.keepIn K (.ref f4)=true)
  (a5:PySem.W.nsIn K mainGlobals "need_move"=some (some (.ref f5))) (l5:K.lookup f5=some ⟨oc5,od5,.func (PySem.W.fnOf "need_move" "need_move" (aq cg) (am cg) (ah cg) .none kV5 dc5 pm5 an5 cd5 ct5),sl5⟩) (c5:PySem.W.codeIn K cd5 "need_move"=true) (k5:PySem.W.keepIn K (.ref f5)=true)
  (a6:PySem.W.nsIn K mainGlobals "turned"=some (some (.ref f6))) (l6:K.lookup f6=some ⟨oc6,od6,.func (PySem.W.fnOf "turned" "turned" (aq dD) (am dD) (ah dD) .none kV6 dc6 pm6 an6 cd6 ct6),sl6⟩) (c6:PySem.W.codeIn K cd6 "turned"=true) (k6:PySem.W.keepIn K (.ref f6)=true)
  (a7:PySem.W.nsIn K mainGlobals "moved"=some (some (.ref f7))) (l7:K.lookup f7=some ⟨oc7,od7,.func (PySem.W.fnOf "moved" "moved" (aq eK) (am eK) (ah eK) .none kV7 dc7 pm7 an7 cd7 ct7),sl7⟩) (c7:PySem.W.codeIn K cd7 "moved"=true) (k7:PySem.W.keepIn K (.ref f7)=true)
  (a8:PySem.W.nsIn K mainGlobals "way_back"=some (some (.ref f8))) (l8:K.lookup f8=some ⟨oc8,od8,.func (PySem.W.fnOf "way_back" "way_back" (aq cE) (am cE) (ah cE) .none kV8 dc8 pm8 an8 cd8 ct8),sl8⟩) (c8:PySem.W.codeIn K cd8 "way_back"=true) (k8:PySem.W.keepIn K (.ref f8)=true)
  (a9:PySem.W.nsIn K mainGlobals "steps"=some (some (.ref f9))) (l9:K.lookup f9=some ⟨oc9,od9,.func (PySem.W.fnOf "steps" "steps" (aq eJ) (am eJ) (ah eJ) .none kV9 dc9 pm9 an9 cd9 ct9),sl9⟩) (c9:PySem.W.codeIn K cd9 "steps"=true) (k9:PySem.W.keepIn K (.ref f9)=true)
  (a10:PySem.W.nsIn K mainGlobals "level"=some (some (.ref f10))) (l10:K.lookup f10=some ⟨oc10,od10,.func (PySem.W.fnOf "level" "level" (aq eG) (am eG) (ah eG) .none kV10 dc10 pm10 an10 cd10 ct10),sl10⟩) (c10:PySem.W.codeIn K cd10 "level"=true) (k10:PySem.W.keepIn K (.ref f10)=true)
  (a11:PySem.W.nsIn K mainGlobals "turn"=some (some (.ref f11))) (l11:K.lookup f11=some ⟨oc11,od11,.func (PySem.W.fnOf "turn" "turn" (aq fN) (am fN) (ah fN) .none kV11 dc11 pm11 an11 cd11 ct11),sl11⟩) (c11:PySem.W.codeIn K cd11 "turn"=true) (k11:PySem.W.keepIn K (.ref f11)=true)
  (a12:PySem.W.nsIn K mainGlobals "left_bends"=some (some (.ref f12))) (l12:K.lookup f12=some ⟨oc12,od12,.func (PySem.W.fnOf "left_bends" "left_bends" (aq bL) (am bL) (ah bL) .none kV12 dc12 pm12 an12 cd12 ct12),sl12⟩) (c12:PySem.W.codeIn K cd12 "left_bends"=true) (k12:PySem.W.keepIn K (.ref f12)=true)
  (a13:PySem.W.nsIn K mainGlobals "field"=some (some (.ref f13))) (l13:K.lookup f13=some ⟨oc13,od13,.func (PySem.W.fnOf "field" "field" (aq eM) (am eM) (ah eM) .none kV13 dc13 pm13 an13 cd13 ct13),sl13⟩) (c13:PySem.W.codeIn K cd13 "field"=true) (k13:PySem.W.keepIn K (.ref f13)=true)
  (a14:PySem.W.nsIn K mainGlobals "sides"=some (some (.ref f14))) (l14:K.lookup f14=some ⟨oc14,od14,.func (PySem.W.fnOf "sides" "sides" (aq eC) (am eC) (ah eC) .none kV14 dc14 pm14 an14 cd14 ct14),sl14⟩) (c14:PySem.W.codeIn K cd14 "sides"=true) (k14:PySem.W.keepIn K (.ref f14)=true)
  (a15:PySem.W.nsIn K mainGlobals "double_area"=some (some (.ref f15))) (l15:K.lookup f15=some ⟨oc15,od15,.func (PySem.W.fnOf "double_area" "double_area" (aq bV) (am bV) (ah bV) .none kV15 dc15 pm15 an15 cd15 ct15),sl15⟩) (c15:PySem.W.codeIn K cd15 "double_area"=true) (k15:PySem.W.keepIn K (.ref f15)=true)
  (a16:PySem.W.nsIn K mainGlobals "rim"=some (some (.ref f16))) (l16:K.lookup f16=some ⟨oc16,od16,.func (PySem.W.fnOf "rim" "rim" (aq iE) (am iE) (ah iE) .none kV16 dc16 pm16 an16 cd16 ct16),sl16⟩) (c16:PySem.W.codeIn K cd16 "rim"=true) (k16:PySem.W.keepIn K (.ref f16)=true)
  (a17:PySem.W.nsIn K mainGlobals "field_moved"=some (some (.ref f17))) (l17:K.lookup f17=some ⟨oc17,od17,.func (PySem.W.fnOf "field_moved" "field_moved" (aq bu) (am bu) (ah bu) .none kV17 dc17 pm17 an17 cd17 ct17),sl17⟩) (c17:PySem.W.codeIn K cd17 "field_moved"=true) (k17:PySem.W.keepIn K (.ref f17)=true)
  (a18:PySem.W.nsIn K mainGlobals "fold"=some (some (.ref f18))) (l18:K.lookup f18=some ⟨oc18,od18,.func (PySem.W.fnOf "fold" "fold" (aq eV) (am eV) (ah eV) .none kV18 dc18 pm18 an18 cd18 ct18),sl18⟩) (c18:PySem.W.codeIn K cd18 "fold"=true) (k18:PySem.W.keepIn K (.ref f18)=true)
  (a19:PySem.W.nsIn K mainGlobals "multiple"=some (some (.ref f19))) (l19:K.lookup f19=some ⟨oc19,od19,.func (PySem.W.fnOf "multiple" "multiple" (aq cB) (am cB) (ah cB) .none kV19 dc19 pm19 an19 cd19 ct19),sl19⟩) (c19:PySem.W.codeIn K cd19 "multiple"=true) (k19:PySem.W.keepIn K (.ref f19)=true)
  (a20:PySem.W.nsIn K mainGlobals "points_in"=some (some (.ref f20))) (l20:K.lookup f20=some ⟨oc20,od20,.func (PySem.W.fnOf "points_in" "points_in" (aq cb) (am cb) (ah cb) .none kV20 dc20 pm20 an20 cd20 ct20),sl20⟩) (c20:PySem.W.codeIn K cd20 "points_in"=true) (k20:PySem.W.keepIn K (.ref f20)=true)
  {D21:Addr} {dod21 dn21 dsl21 dt21:_} (q21:K.lookup D21=some ⟨.type "tuple",dod21,.seq #[.int 1 dt21] dn21,dsl21⟩)
  (a21:PySem.W.nsIn K mainGlobals "count"=some (some (.ref f21))) (l21:K.lookup f21=some ⟨oc21,od21,.func (PySem.W.fnOf "count" "count" (aq bX) (am bX) (ah bX) (.ref D21) kV21 dc21 pm21 an21 cd21 ct21),sl21⟩) (c21:PySem.W.codeIn K cd21 "count"=true) (k21:PySem.W.keepIn K (.ref f21)=true)
  (a22:PySem.W.nsIn K mainGlobals "row_ends"=some (some (.ref f22))) (l22:K.lookup f22=some ⟨oc22,od22,.func (PySem.W.fnOf "row_ends" "row_ends" (aq cC) (am cC) (ah cC) .none kV22 dc22 pm22 an22 cd22 ct22),sl22⟩) (c22:PySem.W.codeIn K cd22 "row_ends"=true) (k22:PySem.W.keepIn K (.ref f22)=true)
  (a23:PySem.W.nsIn K mainGlobals "by_rows"=some (some (.ref f23))) (l23:K.lookup f23=some ⟨oc23,od23,.func (PySem.W.fnOf "by_rows" "by_rows" (aq ce) (am ce) (ah ce) .none kV23 dc23 pm23 an23 cd23 ct23),sl23⟩) (c23:PySem.W.codeIn K cd23 "by_rows"=true) (k23:PySem.W.keepIn K (.ref f23)=true)
  (a24:PySem.W.nsIn K mainGlobals "stakes"=some (some (.ref f24))) (l24:K.lookup f24=some ⟨oc24,od24,.func (PySem.W.fnOf "stakes" "stakes" (aq du) (am du) (ah du) .none kV24 dc24 pm24 an24 cd24 ct24),sl24⟩) (c24:PySem.W.codeIn K cd24 "stakes"=true) (k24:PySem.W.keepIn K (.ref f24)=true)
  (a25:PySem.W.nsIn K mainGlobals "cut_off"=some (some (.ref f25))) (l25:K.lookup f25=some ⟨oc25,od25,.func (PySem.W.fnOf "cut_off" "cut_off" (aq dI) (am dI) (ah dI) .none kV25 dc25 pm25 an25 cd25 ct25),sl25⟩) (c25:PySem.W.codeIn K cd25 "cut_off"=true) (k25:PySem.W.keepIn K (.ref f25)=true)
  (a26:PySem.W.nsIn K mainGlobals "pieces"=some (some (.ref f26))) (l26:K.lookup f26=some ⟨oc26,od26,.func (PySem.W.fnOf "pieces" "pieces" (aq dG) (am dG) (ah dG) .none kV26 dc26 pm26 an26 cd26 ct26),sl26⟩) (c26:PySem.W.codeIn K cd26 "pieces"=true) (k26:PySem.W.keepIn K (.ref f26)=true)
  (a27:PySem.W.nsIn K mainGlobals "_law_cell_at"=some (some (.ref f27))) (l27:K.lookup f27=some ⟨oc27,od27,.func (PySem.W.fnOf "_law_cell_at" "_law_cell_at" (aq bw) (am bw) (ah bw) .none kV27 dc27 pm27 an27 cd27 ct27),sl27⟩) (c27:PySem.W.codeIn K cd27 "_law_cell_at"=true) (k27:PySem.W.keepIn K (.ref f27)=true)
  (a28:PySem.W.nsIn K mainGlobals "_law_whole"=some (some (.ref f28))) (l28:K.lookup f28=some ⟨oc28,od28,.func (PySem.W.fnOf "_law_whole" "_law_whole" (aq bO) (am bO) (ah bO) .none kV28 dc28 pm28 an28 cd28 ct28),sl28⟩) (c28:PySem.W.codeIn K cd28 "_law_whole"=true) (k28:PySem.W.keepIn K (.ref f28)=true)
  (a29:PySem.W.nsIn K mainGlobals "_law_is_point"=some (some (.ref f29))) (l29:K.lookup f29=some ⟨oc29,od29,.func (PySem.W.fnOf "_law_is_point" "_law_is_point" (aq bh) (am bh) (ah bh) .none kV29 dc29 pm29 an29 cd29 ct29),sl29⟩) (c29:PySem.W.codeIn K cd29 "_law_is_point"=true) (k29:PySem.W.keepIn K (.ref f29)=true)
  (a30:PySem.W.nsIn K mainGlobals "_law_stride"=some (some (.ref f30))) (l30:K.lookup f30=some ⟨oc30,od30,.func (PySem.W.fnOf "_law_stride" "_law_stride" (aq bE) (am bE) (ah bE) .none kV30 dc30 pm30 an30 cd30 ct30),sl30⟩) (c30:PySem.W.codeIn K cd30 "_law_stride"=true) (k30:PySem.W.keepIn K (.ref f30)=true)
  (a31:PySem.W.nsIn K mainGlobals "_law_start"=some (some (.ref f31))) (l31:K.lookup f31=some ⟨oc31,od31,.func (PySem.W.fnOf "_law_start" "_law_start" (aq bM) (am bM) (ah bM) .none kV31 dc31 pm31 an31 cd31 ct31),sl31⟩) (c31:PySem.W.codeIn K cd31 "_law_start"=true) (k31:PySem.W.keepIn K (.ref f31)=true)
  (a32:PySem.W.nsIn K mainGlobals "_law_step"=some (some (.ref f32))) (l32:K.lookup f32=some ⟨oc32,od32,.func (PySem.W.fnOf "_law_step" "_law_step" (aq cf) (am cf) (ah cf) .none kV32 dc32 pm32 an32 cd32 ct32),sl32⟩) (c32:PySem.W.codeIn K cd32 "_law_step"=true) (k32:PySem.W.keepIn K (.ref f32)=true)
  (a33:PySem.W.nsIn K mainGlobals "_law_row"=some (some (.ref f33))) (l33:K.lookup f33=some ⟨oc33,od33,.func (PySem.W.fnOf "_law_row" "_law_row" (aq bZ) (am bZ) (ah bZ) .none kV33 dc33 pm33 an33 cd33 ct33),sl33⟩) (c33:PySem.W.codeIn K cd33 "_law_row"=true) (k33:PySem.W.keepIn K (.ref f33)=true)
  (a34:PySem.W.nsIn K mainGlobals "_law_refused"=some (some (.ref f34))) (l34:K.lookup f34=some ⟨oc34,od34,.func (PySem.W.fnOf "_law_refused" "_law_refused" (aq bA) (am bA) (ah bA) .none kV34 dc34 pm34 an34 cd34 ct34),sl34⟩) (c34:PySem.W.codeIn K cd34 "_law_refused"=true) (k34:PySem.W.keepIn K (.ref f34)=true)
  (a35:PySem.W.nsIn K mainGlobals "_law_pieces"=some (some (.ref f35))) (l35:K.lookup f35=some ⟨oc35,od35,.func (PySem.W.fnOf "_law_pieces" "_law_pieces" (aq br) (am br) (ah br) .none kV35 dc35 pm35 an35 cd35 ct35),sl35⟩) (c35:PySem.W.codeIn K cd35 "_law_pieces"=true) (k35:PySem.W.keepIn K (.ref f35)=true)
  (a36:PySem.W.nsIn K mainGlobals "_law_stakes"=some (some (.ref f36))) (l36:K.lookup f36=some ⟨oc36,od36,.func (PySem.W.fnOf "_law_stakes" "_law_stakes" (aq bp) (am bp) (ah bp) .none kV36 dc36 pm36 an36 cd36 ct36),sl36⟩) (c36:PySem.W.codeIn K cd36 "_law_stakes"=true) (k36:PySem.W.keepIn K (.ref f36)=true)
  (a37:PySem.W.nsIn K mainGlobals "_law_asked"=some (some (.ref f37))) (l37:K.lookup f37=some ⟨oc37,od37,.func (PySem.W.fnOf "_law_asked" "_law_asked" (aq bN) (am bN) (ah bN) .none kV37 dc37 pm37 an37 cd37 ct37),sl37⟩) (c37:PySem.W.codeIn K cd37 "_law_asked"=true) (k37:PySem.W.keepIn K (.ref f37)=true)
  (a38:PySem.W.nsIn K mainGlobals "law"=some (some (.ref f38))) (l38:K.lookup f38=some ⟨oc38,od38,.func (PySem.W.fnOf "law" "law" (aq gv) (am gv) (ah gv) .none kV38 dc38 pm38 an38 cd38 ct38),sl38⟩) (c38:PySem.W.codeIn K cd38 "law"=true) (k38:PySem.W.keepIn K (.ref f38)=true)
  (e_Flat:PySem.W.nsIn K mainGlobals "Flat"=some (some (.ref c_Flat)))
  (e_NoField:PySem.W.nsIn K mainGlobals "NoField"=some (some (.ref c_NoField))) (x_NoField:PySem.W.excIn K c_NoField [.type "ValueError",.type "Exception",.type "BaseException",.type "object"] "ValueError.__new__"=true)
  (e_NoMove:PySem.W.nsIn K mainGlobals "NoMove"=some (some (.ref c_NoMove))) (x_NoMove:PySem.W.excIn K c_NoMove [.type "ValueError",.type "Exception",.type "BaseException",.type "object"] "ValueError.__new__"=true)
  (e_NoNumber:PySem.W.nsIn K mainGlobals "NoNumber"=some (some (.ref c_NoNumber)))
  (e_StakeError:PySem.W.nsIn K mainGlobals "StakeError"=some (some (.ref c_StakeError)))
  (e_TooMany:PySem.W.nsIn K mainGlobals "TooMany"=some (some (.ref c_TooMany))) (x_TooMany:PySem.W.excIn K c_TooMany [.type "ValueError",.type "Exception",.type "BaseException",.type "object"] "ValueError.__new__"=true)
  (z_ValueError:PySem.W.nsIn K mainGlobals "ValueError"=some none)
  (z_abs:PySem.W.nsIn K mainGlobals "abs"=some none)
  (z_all:PySem.W.nsIn K mainGlobals "all"=some none)
  (z_bool:PySem.W.nsIn K mainGlobals "bool"=some none)
  (z_int:PySem.W.nsIn K mainGlobals "int"=some none)
  (z_isinstance:PySem.W.nsIn K mainGlobals "isinstance"=some none)
  (z_len:PySem.W.nsIn K mainGlobals "len"=some none)
  (z_list:PySem.W.nsIn K mainGlobals "list"=some none)
  (z_max:PySem.W.nsIn K mainGlobals "max"=some none)
  (z_min:PySem.W.nsIn K mainGlobals "min"=some none)
  (z_range:PySem.W.nsIn K mainGlobals "range"=some none)
  (z_set:PySem.W.nsIn K mainGlobals "set"=some none)
  (z_sorted:PySem.W.nsIn K mainGlobals "sorted"=some none)
  (z_tuple:PySem.W.nsIn K mainGlobals "tuple"=some none)
  (z_zip:PySem.W.nsIn K mainGlobals "zip"=some none)
  (bx_TooMany:PySem.W.mroIn K c_TooMany (.type "BaseException")=some true)
  (kit_TooMany_Flat:PySem.W.kitOne K (.ref c_TooMany) (.ref c_Flat)=some false)
  (kit_TooMany_NoNumber:PySem.W.kitOne K (.ref c_TooMany) (.ref c_NoNumber)=some false)
  (kit_TooMany_StakeError:PySem.W.kitOne K (.ref c_TooMany) (.ref c_StakeError)=some true)
  (kit_TooMany_ValueError:PySem.W.kitOne K (.ref c_TooMany) (.type "ValueError")=some true)
  (sub_TooMany_TooMany:PySem.W.mroIn K c_TooMany (.ref c_TooMany)=some true)
  (ty_TooMany:PySem.W.typeIn K (.ref c_TooMany)=some (.type "type"))
  (xc_TooMany:PySem.W.XcOk K c_TooMany)
  {t_MOST_STAKES:_} (g_MOST_STAKES:PySem.W.nsIn K mainGlobals "MOST_STAKES"=some (some (.int 100 t_MOST_STAKES)))
  :∃ T:Txt K mg,T.a_law=fa∧(∀ (s:Shared) (v:Value),BindsTo s T.d_law ⟨[v],[]⟩ [("script",v)]):=by
 have e:=hfa.symm.trans (PySem.W.mg_of X G a38)
 cases e
 have F0:=aD (st:=cD) l0 c0 k0
 have b0:=F0.binds (ps:=["thing"]) fun _ _ _ _ _ _ us hl=> ar1 (p:=fun us=> bindArgs _ ⟨us,[]⟩=pure (List.zip _ us)) hl fun _=> rfl
 have F1:=aD (st:=fP) l1 c1 k1
 have b1:=F1.binds (ps:=["number"]) fun _ _ _ _ _ _ us hl=> ar1 (p:=fun us=> bindArgs _ ⟨us,[]⟩=pure (List.zip _ us)) hl fun _=> rfl
 have F2:=aD (st:=dw) l2 c2 k2
 have b2:=F2.binds (ps:=["a","b"]) fun _ _ _ _ _ _ us hl=> ar2 (p:=fun us=> bindArgs _ ⟨us,[]⟩=pure (List.zip _ us)) hl fun _ _=> rfl
 have F3:=aD (st:=fz) l3 c3 k3
 have b3:=F3.binds (ps:=["move"]) fun _ _ _ _ _ _ us hl=> ar1 (p:=fun us=> bindArgs _ ⟨us,[]⟩=pure (List.zip _ us)) hl fun _=> rfl
 have F4:=aD (st:=cA) l4 c4 k4
 have b4:=F4.binds (ps:=["thing"]) fun _ _ _ _ _ _ us hl=> ar1 (p:=fun us=> bindArgs _ ⟨us,[]⟩=pure (List.zip _ us)) hl fun _=> rfl
 have F5:=aD (st:=cg) l5 c5 k5
 have b5:=F5.binds (ps:=["thing"]) fun _ _ _ _ _ _ us hl=> ar1 (p:=fun us=> bindArgs _ ⟨us,[]⟩=pure (List.zip _ us)) hl fun _=> rfl
 have F6:=aD (st:=dD) l6 c6 k6
 have b6:=F6.binds (ps:=["P","move"]) fun _ _ _ _ _ _ us hl=> ar2 (p:=fun us=> bindArgs _ ⟨us,[]⟩=pure (List.zip _ us)) hl fun _ _=> rfl
 have F7:=aD (st:=eK) l7 c7 k7
 have b7:=F7.binds (ps:=["P","move"]) fun _ _ _ _ _ _ us hl=> ar2 (p:=fun us=> bindArgs _ ⟨us,[]⟩=pure (List.zip _ us)) hl fun _ _=> rfl
 have F8:=aD (st:=cE) l8 c8 k8
 have b8:=F8.binds (ps:=["move"]) fun _ _ _ _ _ _ us hl=> ar1 (p:=fun us=> bindArgs _ ⟨us,[]⟩=pure (List.zip _ us)) hl fun _=> rfl
 have F9:=aD (st:=eJ) l9 c9 k9
 have b9:=F9.binds (ps:=["P","Q"]) fun _ _ _ _ _ _ us hl=> ar2 (p:=fun us=> bindArgs _ ⟨us,[]⟩=pure (List.zip _ us)) hl fun _ _=> rfl
 have F10:=aD (st:=eG) l10 c10 k10
 have b10:=F10.binds (ps:=["P","Q"]) fun _ _ _ _ _ _ us hl=> ar2 (p:=fun us=> bindArgs _ ⟨us,[]⟩=pure (List.zip _ us)) hl fun _ _=> rfl
 have F11:=aD (st:=fN) l11 c11 k11
 have b11:=F11.binds (ps:=["P","Q","R"]) fun _ _ _ _ _ _ us hl=> ar3 (p:=fun us=> bindArgs _ ⟨us,[]⟩=pure (List.zip _ us)) hl fun _ _ _=> rfl
 have F12:=aD (st:=bL) l12 c12 k12
 have b12:=F12.binds (ps:=["row"]) fun _ _ _ _ _ _ us hl=> ar1 (p:=fun us=> bindArgs _ ⟨us,[]⟩=pure (List.zip _ us)) hl fun _=> rfl
 have F13:=aD (st:=eM) l13 c13 k13
 have b13:=F13.binds (ps:=["points"]) fun _ _ _ _ _ _ us hl=> ar1 (p:=fun us=> bindArgs _ ⟨us,[]⟩=pure (List.zip _ us)) hl fun _=> rfl
 have F14:=aD (st:=eC) l14 c14 k14
 have b14:=F14.binds (ps:=["land"]) fun _ _ _ _ _ _ us hl=> ar1 (p:=fun us=> bindArgs _ ⟨us,[]⟩=pure (List.zip _ us)) hl fun _=> rfl
 have F15:=aD (st:=bV) l15 c15 k15
 have b15:=F15.binds (ps:=["land"]) fun _ _ _ _ _ _ us hl=> ar1 (p:=fun us=> bindArgs _ ⟨us,[]⟩=pure (List.zip _ us)) hl fun _=> rfl
 have F16:=aD (st:=iE) l16 c16 k16
 have b16:=F16.binds (ps:=["land"]) fun _ _ _ _ _ _ us hl=> ar1 (p:=fun us=> bindArgs _ ⟨us,[]⟩=pure (List.zip _ us)) hl fun _=> rfl
 have F17:=aD (st:=bu) l17 c17 k17
 have b17:=F17.binds (ps:=["land","move"]) fun _ _ _ _ _ _ us hl=> ar2 (p:=fun us=> bindArgs _ ⟨us,[]⟩=pure (List.zip _ us)) hl fun _ _=> rfl
 have F18:=aD (st:=eV) l18 c18 k18
 have b18:=F18.binds (ps:=["land","k"]) fun _ _ _ _ _ _ us hl=> ar2 (p:=fun us=> bindArgs _ ⟨us,[]⟩=pure (List.zip _ us)) hl fun _ _=> rfl
 have F19:=aD (st:=cB) l19 c19 k19
 have b19:=F19.binds (ps:=["land","k"]) fun _ _ _ _ _ _ us hl=> ar2 (p:=fun us=> bindArgs _ ⟨us,[]⟩=pure (List.zip _ us)) hl fun _ _=> rfl
 have F20:=aD (st:=cb) l20 c20 k20
 have b20:=F20.binds (ps:=["land"]) fun _ _ _ _ _ _ us hl=> ar1 (p:=fun us=> bindArgs _ ⟨us,[]⟩=pure (List.zip _ us)) hl fun _=> rfl
 have F21:=tz (st:=bX) l21 c21 k21
 have b21:aA K (PySem.W.fnOf "count" "count" (aq bX) (am bX) (ah bX) (.ref D21) kV21 dc21 pm21 an21 cd21 ct21) ["land","k"] []:=fun s us X hl=> match us,hl with | [_,_],_=> BindsTo.of_defaults rfl (X _ _ q21) rfl rfl rfl
 have bd21:∃ t,aA K (PySem.W.fnOf "count" "count" (aq bX) (am bX) (ah bX) (.ref D21) kV21 dc21 pm21 an21 cd21 ct21) ["land","k"] [.int 1 t]:=⟨dt21,fun s us X hl=> match us,(show us.length=1 by simpa using hl) with | [_],_=> BindsTo.of_defaults rfl (X _ _ q21) rfl rfl rfl⟩
 have F22:=aD (st:=cC) l22 c22 k22
 have b22:=F22.binds (ps:=["land","y"]) fun _ _ _ _ _ _ us hl=> ar2 (p:=fun us=> bindArgs _ ⟨us,[]⟩=pure (List.zip _ us)) hl fun _ _=> rfl
 have F23:=aD (st:=ce) l23 c23 k23
 have b23:=F23.binds (ps:=["land"]) fun _ _ _ _ _ _ us hl=> ar1 (p:=fun us=> bindArgs _ ⟨us,[]⟩=pure (List.zip _ us)) hl fun _=> rfl
 have F24:=aD (st:=du) l24 c24 k24
 have b24:=F24.binds (ps:=["land"]) fun _ _ _ _ _ _ us hl=> ar1 (p:=fun us=> bindArgs _ ⟨us,[]⟩=pure (List.zip _ us)) hl fun _=> rfl
 have F25:=aD (st:=dI) l25 c25 k25
 have b25:=F25.binds (ps:=["row","hand"]) fun _ _ _ _ _ _ us hl=> ar2 (p:=fun us=> bindArgs _ ⟨us,[]⟩=pure (List.zip _ us)) hl fun _ _=> rfl
 have F26:=aD (st:=dG) l26 c26 k26
 have b26:=F26.binds (ps:=["land"]) fun _ _ _ _ _ _ us hl=> ar1 (p:=fun us=> bindArgs _ ⟨us,[]⟩=pure (List.zip _ us)) hl fun _=> rfl
 have F27:=aD (st:=bw) l27 c27 k27
 have b27:=F27.binds (ps:=["script","k"]) fun _ _ _ _ _ _ us hl=> ar2 (p:=fun us=> bindArgs _ ⟨us,[]⟩=pure (List.zip _ us)) hl fun _ _=> rfl
 have F28:=aD (st:=bO) l28 c28 k28
 have b28:=F28.binds (ps:=["found"]) fun _ _ _ _ _ _ us hl=> ar1 (p:=fun us=> bindArgs _ ⟨us,[]⟩=pure (List.zip _ us)) hl fun _=> rfl
 have F29:=aD (st:=bh) l29 c29 k29
 have b29:=F29.binds (ps:=["found"]) fun _ _ _ _ _ _ us hl=> ar1 (p:=fun us=> bindArgs _ ⟨us,[]⟩=pure (List.zip _ us)) hl fun _=> rfl
 have F30:=aD (st:=bE) l30 c30 k30
 have b30:=F30.binds (ps:=["x","y"]) fun _ _ _ _ _ _ us hl=> ar2 (p:=fun us=> bindArgs _ ⟨us,[]⟩=pure (List.zip _ us)) hl fun _ _=> rfl
 have F31:=aD (st:=bM) l31 c31 k31
 have b31:=F31.binds (ps:=["cells"]) fun _ _ _ _ _ _ us hl=> ar1 (p:=fun us=> bindArgs _ ⟨us,[]⟩=pure (List.zip _ us)) hl fun _=> rfl
 have F32:=aD (st:=cf) l32 c32 k32
 have b32:=F32.binds (ps:=["cells"]) fun _ _ _ _ _ _ us hl=> ar1 (p:=fun us=> bindArgs _ ⟨us,[]⟩=pure (List.zip _ us)) hl fun _=> rfl
 have F33:=aD (st:=bZ) l33 c33 k33
 have b33:=F33.binds (ps:=["start","step","some"]) fun _ _ _ _ _ _ us hl=> ar3 (p:=fun us=> bindArgs _ ⟨us,[]⟩=pure (List.zip _ us)) hl fun _ _ _=> rfl
 have F34:=aD (st:=bA) l34 c34 k34
 have b34:=F34.binds (ps:=["ends"]) fun _ _ _ _ _ _ us hl=> ar1 (p:=fun us=> bindArgs _ ⟨us,[]⟩=pure (List.zip _ us)) hl fun _=> rfl
 have F35:=aD (st:=br) l35 c35 k35
 have b35:=F35.binds (ps:=["found","row"]) fun _ _ _ _ _ _ us hl=> ar2 (p:=fun us=> bindArgs _ ⟨us,[]⟩=pure (List.zip _ us)) hl fun _ _=> rfl
 have F36:=aD (st:=bp) l36 c36 k36
 have b36:=F36.binds (ps:=["found","row"]) fun _ _ _ _ _ _ us hl=> ar2 (p:=fun us=> bindArgs _ ⟨us,[]⟩=pure (List.zip _ us)) hl fun _ _=> rfl
 have F37:=aD (st:=bN) l37 c37 k37
 have b37:=F37.binds (ps:=["cells"]) fun _ _ _ _ _ _ us hl=> ar1 (p:=fun us=> bindArgs _ ⟨us,[]⟩=pure (List.zip _ us)) hl fun _=> rfl
 have F38:=aD (st:=gv) l38 c38 k38
 have b38:=F38.binds (ps:=["script"]) fun _ _ _ _ _ _ us hl=> ar1 (p:=fun us=> bindArgs _ ⟨us,[]⟩=pure (List.zip _ us)) hl fun _=> rfl
 exact ⟨⟨_,_,F0,b0,PySem.W.mg_of X G a0,_,_,F1,b1,PySem.W.mg_of X G a1,_,_,F2,b2,PySem.W.mg_of X G a2,_,_,F3,b3,PySem.W.mg_of X G a3,_,_,F4,b4,PySem.W.mg_of X G a4,_,_,F5,b5,PySem.W.mg_of X G a5,_,_,F6,b6,PySem.W.mg_of X G a6,_,_,F7,b7,PySem.W.mg_of X G a7,_,_,F8,b8,PySem.W.mg_of X G a8,_,_,F9,b9,PySem.W.mg_of X G a9,_,_,F10,b10,PySem.W.mg_of X G a10,_,_,F11,b11,PySem.W.mg_of X G a11,_,_,F12,b12,PySem.W.mg_of X G a12,_,_,F13,b13,PySem.W.mg_of X G a13,_,_,F14,b14,PySem.W.mg_of X G a14,_,_,F15,b15,PySem.W.mg_of X G a15,_,_,F16,b16,PySem.W.mg_of X G a16,_,_,F17,b17,PySem.W.mg_of X G a17,_,_,F18,b18,PySem.W.mg_of X G a18,_,_,F19,b19,PySem.W.mg_of X G a19,_,_,F20,b20,PySem.W.mg_of X G a20,_,_,_,F21,b21,bd21,PySem.W.mg_of X G a21,_,_,F22,b22,PySem.W.mg_of X G a22,_,_,F23,b23,PySem.W.mg_of X G a23,_,_,F24,b24,PySem.W.mg_of X G a24,_,_,F25,b25,PySem.W.mg_of X G a25,_,_,F26,b26,PySem.W.mg_of X G a26,_,_,F27,b27,PySem.W.mg_of X G a27,_,_,F28,b28,PySem.W.mg_of X G a28,_,_,F29,b29,PySem.W.mg_of X G a29,_,_,F30,b30,PySem.W.mg_of X G a30,_,_,F31,b31,PySem.W.mg_of X G a31,_,_,F32,b32,PySem.W.mg_of X G a32,_,_,F33,b33,PySem.W.mg_of X G a33,_,_,F34,b34,PySem.W.mg_of X G a34,_,_,F35,b35,PySem.W.mg_of X G a35,_,_,F36,b36,PySem.W.mg_of X G a36,_,_,F37,b37,PySem.W.mg_of X G a37,_,_,F38,b38,PySem.W.mg_of X G a38,_,PySem.W.mg_of X G e_Flat,_,x_NoField,PySem.W.mg_of X G e_NoField,_,x_NoMove,PySem.W.mg_of X G e_NoMove,_,PySem.W.mg_of X G e_NoNumber,_,PySem.W.mg_of X G e_StakeError,_,x_TooMany,PySem.W.mg_of X G e_TooMany,PySem.W.mg_none_of X G z_ValueError,PySem.W.mg_none_of X G z_abs,PySem.W.mg_none_of X G z_all,PySem.W.mg_none_of X G z_bool,PySem.W.mg_none_of X G z_int,PySem.W.mg_none_of X G z_isinstance,PySem.W.mg_none_of X G z_len,PySem.W.mg_none_of X G z_list,PySem.W.mg_none_of X G z_max,PySem.W.mg_none_of X G z_min,PySem.W.mg_none_of X G z_range,PySem.W.mg_none_of X G z_set,PySem.W.mg_none_of X G z_sorted,PySem.W.mg_none_of X G z_tuple,PySem.W.mg_none_of X G z_zip,bx_TooMany,kit_TooMany_Flat,kit_TooMany_NoNumber,kit_TooMany_StakeError,kit_TooMany_ValueError,sub_TooMany_TooMany,ty_TooMany,xc_TooMany,⟨_,PySem.W.mg_of X G g_MOST_STAKES⟩⟩,rfl,fun s v=> .of_eq rfl⟩
abbrev spLaw (K:PySem.W.Frag):Sp:=spU K fo
theorem law_start (K:PySem.W.Frag) (H:Hp) (a:Addr) (ns:List Int) (h1:ns.length≤63) (h2:∀ m∈ns,Sz 1048576 m) (_:rV H) (h3:SqL K H a (ns.map V.int)):spLaw K [.ref a] H (fun v _=> v=.bl true) fun _ _ _=> False:=nJ h1 h2 h3
theorem law_ok {P:Program} {w:World} {K:PySem.W.Frag} {mg:Str→Option Value} {fa:Addr} (h:∃ T:Txt K mg,T.a_law=fa∧(∀ (s:Shared) (v:Value),BindsTo s T.d_law ⟨[v],[]⟩ [("script",v)])):
  ∃ fd:FuncData,(∀ (s:Shared) (u:Value),BindsTo s fd ⟨[u],[]⟩ [("script",u)])∧∀ base:Heap,K.In base→base.Ns mainGlobals mg→aR P w K mg base CX0 12 fa fd ["script"] (spLaw K):=by
 obtain ⟨T,rfl,hb⟩:=h
 exact ⟨T.d_law,hb,fun base _ _=> (uN T).calm qC⟩
end My
def PySem.W.Fast.tw7046262928993227466:Unit:=()
def PySem.W.Fast.tw11262260672941389592:Unit:=()
def PySem.W.Fast.tw2628080809456817296:Unit:=()
def PySem.W.Fast.tw159217365042073885:Unit:=()
def PySem.W.Fast.tw4618727446181431389:Unit:=()
def PySem.W.Fast.tw3297325719617556997:Unit:=()
def PySem.W.Fast.tw4568535587212340790:Unit:=()
def PySem.W.Fast.tw17781632619661838287:Unit:=()
def PySem.W.Fast.tw17695022383781228519:Unit:=()
def PySem.W.Fast.tw14338954182544421144:Unit:=()
def PySem.W.Fast.tw565475435773943106:Unit:=()
def PySem.W.Fast.tw9503130816063630193:Unit:=()
def PySem.W.Fast.tw12760318530881722944:Unit:=()
def PySem.W.Fast.tw1789173197479636331:Unit:=()
def PySem.W.Fast.tw15918761598432686352:Unit:=()
def PySem.W.Fast.tw3626363996986468734:Unit:=()
def PySem.W.Fast.tw9314582090296581418:Unit:=()
def PySem.W.Fast.tw11889191223765850820:Unit:=()
def PySem.W.Fast.tw8488874934906601704:Unit:=()
def PySem.W.Fast.tw18070669411724665638:Unit:=()
def PySem.W.Fast.tw7368973953058165573:Unit:=()
open PySem PySem.W PyProof.Rows L2
set_option maxRecDepth 100000 in
set_option maxHeartbeats 0 in
theorem PySem.Challenge.cw_stakefield_k26_pieces_of_ways_holds : PySem.Challenge.rw_stakefield_k26_pieces_of_ways.Holds := by
 w_on; o_law; k_head; (case hw=> w_witness2)
 k_fill
 refine L2.walk_ofB (l:=PySem.Challenge.rw_stakefield_k26_pieces_of_ways) (n:=63) (k:=12) (x:="script") (CX:=CX0) (sp:=My.spLaw) rfl (by decide) rfl ⟨rfl,by decide,by decide⟩ (fun w h Y=> by first | exact PySem.W.kIn_of Y | exact PySem.W.km_in_of Y) ?F My.law_start (fun _ _ _ _ z=> z)
 case F=>
  intro w mg fa h KX G hmg
  refine My.law_ok ?T
  refine' My.txt_mk KX G hmg ?a0 ?l0 ?c0 ?k0 ?a1 ?l1 ?c1 ?k1 ?a2 ?l2 ?c2 ?k2 ?a3 ?l3 ?c3 ?k3 ?a4 ?l4 ?c4 ?k4 ?a5 ?l5 ?c5 ?k5 ?a6 ?l6 ?c6 ?k6 ?a7 ?l7 ?c7 ?k7 ?a8 ?l8 ?c8 ?k8 ?a9 ?l9 ?c9 ?k9 ?a10 ?l10 ?c10 ?k10 ?a11 ?l11 ?c11 ?k11 ?a12 ?l12 ?c12 ?k12 ?a13 ?l13 ?c13 ?k13 ?a14 ?l14 ?c14 ?k14 ?a15 ?l15 ?c15 ?k15 ?a16 ?l16 ?c16 ?k16 ?a17 ?l17 ?c17 ?k17 ?a18 ?l18 ?c18 ?k18 ?a19 ?l19 ?c19 ?k19 ?a20 ?l20 ?c20 ?k20 ?q21 ?a21 ?l21 ?c21 ?k21 ?a22 ?l22 ?c22 ?k22 ?a23 ?l23 ?c23 ?k23 ?a24 ?l24 ?c24 ?k24 ?a25 ?l25 ?c25 ?k25 ?a26 ?l26 ?c26 ?k26 ?a27 ?l27 ?c27 ?k27 ?a28 ?l28 ?c28 ?k28 ?a29 ?l29 ?c29 ?k29 ?a30 ?l30 ?c30 ?k30 ?a31 ?l31 ?c31 ?k31 ?a32 ?l32 ?c32 ?k32 ?a33 ?l33 ?c33 ?k33 ?a34 ?l34 ?c34 ?k34 ?a35 ?l35 ?c35 ?k35 ?a36 ?l36 ?c36 ?k36 ?a37 ?l37 ?c37 ?k37 ?a38 ?l38 ?c38 ?k38 ?e_Flat ?e_NoField ?x_NoField ?e_NoMove ?x_NoMove ?e_NoNumber ?e_StakeError ?e_TooMany ?x_TooMany ?z_ValueError ?z_abs ?z_all ?z_bool ?z_int ?z_isinstance ?z_len ?z_list ?z_max ?z_min ?z_range ?z_set ?z_sorted ?z_tuple ?z_zip ?bx_TooMany ?kit_TooMany_Flat ?kit_TooMany_NoNumber ?kit_TooMany_StakeError ?kit_TooMany_ValueError ?sub_TooMany_TooMany ?ty_TooMany ?xc_TooMany ?g_MOST_STAKES
  (case a0=> k_is); (case l0=> k_is); (case c0=> k_is); (case k0=> k_is)
  (case a1=> k_is); (case l1=> k_is); (case c1=> k_is); (case k1=> k_is)
  (case a2=> k_is); (case l2=> k_is); (case c2=> k_is); (case k2=> k_is)
  (case a3=> k_is); (case l3=> k_is); (case c3=> k_is); (case k3=> k_is)
  (case a4=> k_is); (case l4=> k_is); (case c4=> k_is); (case k4=> k_is)
  (case a5=> k_is); (case l5=> k_is); (case c5=> k_is); (case k5=> k_is)
  (case a6=> k_is); (case l6=> k_is); (case c6=> k_is); (case k6=> k_is)
  (case a7=> k_is); (case l7=> k_is); (case c7=> k_is); (case k7=> k_is)
  (case a8=> k_is); (case l8=> k_is); (case c8=> k_is); (case k8=> k_is)
  (case a9=> k_is); (case l9=> k_is); (case c9=> k_is); (case k9=> k_is)
  (case a10=> k_is); (case l10=> k_is); (case c10=> k_is); (case k10=> k_is)
  (case a11=> k_is); (case l11=> k_is); (case c11=> k_is); (case k11=> k_is)
  (case a12=> k_is); (case l12=> k_is); (case c12=> k_is); (case k12=> k_is)
  (case a13=> k_is); (case l13=> k_is); (case c13=> k_is); (case k13=> k_is)
  (case a14=> k_is); (case l14=> k_is); (case c14=> k_is); (case k14=> k_is)
  (case a15=> k_is); (case l15=> k_is); (case c15=> k_is); (case k15=> k_is)
  (case a16=> k_is); (case l16=> k_is); (case c16=> k_is); (case k16=> k_is)
  (case a17=> k_is); (case l17=> k_is); (case c17=> k_is); (case k17=> k_is)
  (case a18=> k_is); (case l18=> k_is); (case c18=> k_is); (case k18=> k_is)
  (case a19=> k_is); (case l19=> k_is); (case c19=> k_is); (case k19=> k_is)
  (case a20=> k_is); (case l20=> k_is); (case c20=> k_is); (case k20=> k_is)
  (case a21=> k_is); (case l21=> k_is); (case c21=> k_is); (case k21=> k_is); (case q21=> k_is)
  (case a22=> k_is); (case l22=> k_is); (case c22=> k_is); (case k22=> k_is)
  (case a23=> k_is); (case l23=> k_is); (case c23=> k_is); (case k23=> k_is)
  (case a24=> k_is); (case l24=> k_is); (case c24=> k_is); (case k24=> k_is)
  (case a25=> k_is); (case l25=> k_is); (case c25=> k_is); (case k25=> k_is)
  (case a26=> k_is); (case l26=> k_is); (case c26=> k_is); (case k26=> k_is)
  (case a27=> k_is); (case l27=> k_is); (case c27=> k_is); (case k27=> k_is)
  (case a28=> k_is); (case l28=> k_is); (case c28=> k_is); (case k28=> k_is)
  (case a29=> k_is); (case l29=> k_is); (case c29=> k_is); (case k29=> k_is)
  (case a30=> k_is); (case l30=> k_is); (case c30=> k_is); (case k30=> k_is)
  (case a31=> k_is); (case l31=> k_is); (case c31=> k_is); (case k31=> k_is)
  (case a32=> k_is); (case l32=> k_is); (case c32=> k_is); (case k32=> k_is)
  (case a33=> k_is); (case l33=> k_is); (case c33=> k_is); (case k33=> k_is)
  (case a34=> k_is); (case l34=> k_is); (case c34=> k_is); (case k34=> k_is)
  (case a35=> k_is); (case l35=> k_is); (case c35=> k_is); (case k35=> k_is)
  (case a36=> k_is); (case l36=> k_is); (case c36=> k_is); (case k36=> k_is)
  (case a37=> k_is); (case l37=> k_is); (case c37=> k_is); (case k37=> k_is)
  (case a38=> k_is); (case l38=> k_is); (case c38=> k_is); (case k38=> k_is)
  (case e_Flat=> k_is)
  (case e_NoField=> k_is); (case x_NoField=> k_exc)
  (case e_NoMove=> k_is); (case x_NoMove=> k_exc)
  (case e_NoNumber=> k_is)
  (case e_StakeError=> k_is)
  (case e_TooMany=> k_is); (case x_TooMany=> k_exc)
  (case z_ValueError=> k_is)
  (case z_abs=> k_is)
  (case z_all=> k_is)
  (case z_bool=> k_is)
  (case z_int=> k_is)
  (case z_isinstance=> k_is)
  (case z_len=> k_is)
  (case z_list=> k_is)
  (case z_max=> k_is)
  (case z_min=> k_is)
  (case z_range=> k_is)
  (case z_set=> k_is)
  (case z_sorted=> k_is)
  (case z_tuple=> k_is)
  (case z_zip=> k_is)
  (case bx_TooMany=> k_is)
  (case kit_TooMany_Flat=> kit_is)
  (case kit_TooMany_NoNumber=> kit_is)
  (case kit_TooMany_StakeError=> kit_is)
  (case kit_TooMany_ValueError=> kit_is)
  (case sub_TooMany_TooMany=> k_is)
  (case ty_TooMany=> k_is)
  (case xc_TooMany=> exact ⟨by k_is,by k_is,by k_is,by k_is,by k_is,by k_is,by k_is⟩)
  (case g_MOST_STAKES=> k_is)
