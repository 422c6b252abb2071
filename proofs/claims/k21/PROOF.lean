import PyProof.Rows.All
import Wide.All
import OpenK.AllK
import Wide.FinOn
import Lean
import PyProof.EqAt
import PyProof.EqKinds
import PyProof.TupleCall
import PySem.Challenge.RW_veilsum_k21_whole_sights_counted
set_option Elab.async false
set_option linter.all false
set_option maxRecDepth 100000
namespace L2
open PySem PySem.Spec PyProof.Rows
abbrev Key:=Sum Int Str
def nU:Key→Value→Bool
 | .inl k,v=>Value.isInt k v
 | .inr x,v=>Value.isStrOf x v
def keyH (w:World):Key→Int
 | .inl k=>hashInt k
 | .inr x=>hashStr w x
theorem bE:∀ {k:Key}{v:Value},nU k v=true→(∃ i t,k=Sum.inl i∧v=Value.int i t)∨(∃ x t,k=Sum.inr x∧v=Value.str x t)
 | .inl i,v,h=>by
  obtain ⟨t,e⟩:=Value.isInt_shape (k:=i) (v:=v) h
  exact .inl ⟨i,t,rfl,e⟩
 | .inr x,v,h=>by
  obtain ⟨t,e⟩:=Value.isStrOf_shape (x:=x) (v:=v) h
  exact .inr ⟨x,t,rfl,e⟩
theorem pR (i:Int) (t:Tok):nU (.inl i) (.int i t)=true:=by simp [nU,Value.isInt]
theorem pQ (x:Str) (t:Tok):nU (.inr x) (.str x t)=true:=by simp [nU,Value.isStrOf]
theorem key_ll (a b:Int):decide ((Sum.inl a:Key)=Sum.inl b)=(a == b):=by
 by_cases e:a=b
 ·subst e;simp
 ·have h:¬ (Sum.inl a:Key)=Sum.inl b:=fun q=>e (Sum.inl.inj q)
  rw [decide_eq_false h]
  exact (beq_eq_false_iff_ne.mpr e).symm
theorem key_rr (a b:Str):decide ((Sum.inr a:Key)=Sum.inr b)=decide (a=b):=by
 by_cases e:a=b
 ·subst e;simp
 ·have h:¬ (Sum.inr a:Key)=Sum.inr b:=fun q=>e (Sum.inr.inj q)
  rw [decide_eq_false h,decide_eq_false e]
theorem key_lr (a:Int) (b:Str):decide ((Sum.inl a:Key)=Sum.inr b)=false:=decide_eq_false (fun q=>nomatch q)
theorem key_rl (a:Str) (b:Int):decide ((Sum.inr a:Key)=Sum.inl b)=false:=decide_eq_false (fun q=>nomatch q)
def dO (prog:Program) (w:World):PySem.KeyKind prog w Key where
 is:=nU
 hash:=keyH w
 inj:=fun v a b ha hb=>by
  rcases bE ha with ⟨i,t,rfl,rfl⟩ | ⟨x,t,rfl,rfl⟩
  ·rcases bE hb with ⟨j,u,rfl,e⟩ | ⟨y,u,rfl,e⟩
   ·injection e with e1 _;rw [e1]
   ·exact nomatch e
  ·rcases bE hb with ⟨j,u,rfl,e⟩ | ⟨y,u,rfl,e⟩
   ·exact nomatch e
   ·injection e with e1 _;rw [e1]
 byValue:=fun k v h=>by
  rcases bE h with ⟨i,t,rfl,rfl⟩ | ⟨x,t,rfl,rfl⟩<;>rfl
 pyHash:=fun hv h=>by
  rcases bE hv with ⟨i,t,rfl,rfl⟩ | ⟨x,t,rfl,rfl⟩
  ·exact wpAny_pyHash_int h
  ·exact wpAny_pyHash_str h
 eqBool:=fun hu hv h=>by
  rcases bE hu with ⟨i,t,rfl,rfl⟩ | ⟨x,t,rfl,rfl⟩
  ·rcases bE hv with ⟨j,u,rfl,rfl⟩ | ⟨y,u,rfl,rfl⟩
   ·rw [key_ll] at h;exact wpAny_eqBool_int h
   ·rw [key_lr] at h;exact SeqAt.EqAt.int_str i t y u _ _ _ _ h
  ·rcases bE hv with ⟨j,u,rfl,rfl⟩ | ⟨y,u,rfl,rfl⟩
   ·rw [key_rl] at h;exact SeqAt.EqAt.str_int x t j u _ _ _ _ h
   ·rw [key_rr] at h;exact wpAny_eqBool_str h
 «strs»:=fun k x t v h=>by
  rcases bE h with ⟨i,u,rfl,e⟩ | ⟨y,u,rfl,e⟩
  ·exact nomatch e
  ·injection e with e1 _
   subst e1
   cases v<;>rfl
theorem lC (prog:Program) (w:World) (i:Int) (t:Tok):(dO prog w).is (.inl i) (.int i t)=true:=pR i t
theorem bq (prog:Program) (w:World) (x:Str) (t:Tok):(dO prog w).is (.inr x) (.str x t)=true:=pQ x t
end L2
namespace L2
open PySem PySem.Spec PyProof.Rows
inductive V where
 | non | bl (b:Bool) | int (i:Int) | str (x:Str) | byt (b:Array UInt8) | flt (b:UInt64) | ref (a:Addr) | ty (n:String)
 deriving DecidableEq
def RelV:V→Value→Prop
 | .non,u=>u=Value.none
 | .bl b,u=>u=Value.bool b
 | .int i,u=>∃ t,u=Value.int i t
 | .str x,u=>∃ t,u=Value.str x t
 | .byt b,u=>∃ t,u=Value.bytes b t
 | .flt b,u=>∃ t,u=Value.float b t
 | .ref a,u=>u=Value.ref a
 | .ty n,u=>u=Value.type n
abbrev Vals:List V→List Value→Prop:=Paired RelV
theorem Vals.length {xs:List V}{us:List Value} (r:Vals xs us):xs.length=us.length:=Paired.length r
theorem Vals.get:∀ {xs:List V}{us:List Value}{i:Nat}{x:V},Vals xs us→xs[i]?=some x→∃ u,us[i]?=some u∧RelV x u
 | _,_,_,_,.nil,e=>by simp at e
 | _,_,0,_,.cons r _,e=>by simp at e;subst e;exact ⟨_,rfl,r⟩
 | _,_,i+1,x,.cons _ t,e=>by
  obtain ⟨u,h1,h2⟩:=Vals.get (i:=i) (x:=x) t (by simpa using e)
  exact ⟨u,by simpa using h1,h2⟩
theorem Vals.set {x:V}{u:Value} (r:RelV x u):∀ {xs:List V}{us:List Value} (i:Nat),Vals xs us→Vals (xs.set i x) (us.set i u)
 | _,_,_,.nil=>.nil
 | _,_,0,.cons _ t=>.cons r t
 | _,_,i+1,.cons q t=>.cons q (Vals.set r i t)
theorem Vals.append:∀ {xs ys:List V}{us ws:List Value},Vals xs us→Vals ys ws→Vals (xs++ys) (us++ws)
 | _,_,_,_,.nil,s=>s
 | _,_,_,_,.cons r t,s=>.cons r (Vals.append t s)
theorem Vals.take:∀ {xs:List V}{us:List Value} (n:Nat),Vals xs us→Vals (xs.take n) (us.take n)
 | _,_,0,_=>.nil
 | _,_,_+1,.nil=>.nil
 | _,_,n+1,.cons r t=>.cons r (Vals.take n t)
theorem Vals.drop:∀ {xs:List V}{us:List Value} (n:Nat),Vals xs us→Vals (xs.drop n) (us.drop n)
 | _,_,0,r=>r
 | _,_,_+1,.nil=>.nil
 | _,_,n+1,.cons _ t=>Vals.drop n t
def RelO:Option V→Option Value→Prop
 | some v,some u=>RelV v u
 | none,none=>True
 | _,_=>False
def KV {κ:Type}:List (κ×V)→List (κ×Value)→Prop:=Paired fun (p:κ×V) (q:κ×Value)=>p.1=q.1∧RelV p.2 q.2
def kV:Key→V
 | .inl i=>.int i
 | .inr x=>.str x
inductive HO where
 /-- a list -/
 | lst (xs:List V)
 /-- a tuple (never changes) -/
 | tup (xs:List V)
 /-- a dict whose keys are ints and texts;one whose keys are tuples of ints and texts (the empty one is both) -/
 | dK (kvs:List (Key×V)) | dT (kvs:List (List Key×V))
 /-- a set of ints: its members,its size -/
 | set (S:Int→Bool) (n:Nat)
 /-- an instance of the class at C,its dict at dx,its attributes -/
 | ins (C dx:Addr) (fs:List (Str×V))
 /-- the dict of the instance at x -/
 | own (x:Addr)
 /-- the dict of an exception -/
 | xd (fs:List (Str×V))
 /-- a bound method,f of x -/
 | met (f x:Addr)
 /-- a range object lo,lo+1,.. below hi -/
 | rng (lo hi:Int)
 /-- a thing that is known to the object (the script;a dict while a loop walks it): read,never written while it is so -/
 | frz (o:Obj) (u:HO)
 /-- a code object's table -/
 | tbl (ps:Array Value)
 /-- any other thing,by what is true of its one object (a def of one's own: SetO a S n:=HO.ext fun h=>..) -/
 | ext (φ:Heap→Prop)
abbrev Hp:=Addr→Option HO
def upd (H:Hp) (a:Addr) (o:HO):Hp:=fun b=>if b=a then some o else H b
theorem ad {H:Hp}{a:Addr}{o:HO}:upd H a o a=some o:=by unfold upd;rw [if_pos rfl]
theorem ar {H:Hp}{a b:Addr}{o:HO} (h:b≠a):upd H a o b=H b:=by unfold upd;rw [if_neg h]
theorem oK {H:Hp}{a:Addr}{o u:HO}:upd (upd H a o) a u=upd H a u:=by
 funext b;unfold upd;split<;>rfl
theorem ne_of {H:Hp}{a b:Addr}{o u:HO} (h:H a=some o) (h':H b=some u) (d:o≠u):a≠b:=by
 intro e;subst e;rw [h] at h';exact d (Option.some.inj h')
theorem aD {H:Hp}{a b:Addr}{o:HO} (h:H a=some o) (h':H b=none):a≠b:=by
 intro e;subst e;rw [h] at h';cases h'
section
variable (P:Program) (w:World)
def ObjOk (H:Hp) (h:Heap) (a:Addr):HO→Prop
 | .lst xs=>xs.length≤sizeLine∧∃ (its:List Value) (n:Nat),Vals xs its∧h.get? a=some { cls:=.type "list",data:=.seq its.toArray n }
 | .tup xs=>xs.length≤sizeLine∧∃ its:List Value,Vals xs its∧IsTup h a its.toArray
 | .dK kvs=>kvs.length≤sizeLine∧(a == sysModules)=false∧∃ vs,KV kvs vs∧h.DictOf (dO P w) a vs
 | .dT kvs=>kvs.length≤sizeLine∧(a == sysModules)=false∧∃ xs:List (List Key×Addr×Value),
   Paired (fun (p:List Key×V) (q:List Key×Addr×Value)=>p.1=q.1∧H q.2.1=some (.tup (p.1.map kV))∧RelV p.2 q.2.2) kvs xs ∧
   ∃ o es ep,h.get? a=some o∧o.ExactDict∧o.data=.dict es ep∧es.toList=xs.map (entryOfKey (tupleKind (dO P w)))∧(xs.map (·.1)).Nodup
 | .set S n=>h.SetOf (intKind P w) a S n
 | .ins C dx fs=>H dx=some (.own a)∧fs.length≤1000∧dx≠a∧h.get? a=some (PySem.W.instObj C dx) ∧
   ∃ mA,h.Ns1 dx mA∧(∀ f,RelO (fs.lookup f) (mA f))∧PySem.Within mA (fs.map (·.1))
 | .own _=>∃ o,h.get? a=some o
 | .xd fs=>∃ mA,h.Ns1 a mA∧∀ f,RelO (fs.lookup f) (mA f)
 | .rng lo hi=>∃ t u v,h.get? a=some { cls:=.type "range",data:=.fields #[.int lo t,.int hi u,.int 1 v] }
 | .frz o u=>h.get? a=some o∧ObjOk H h a u
 | .tbl ps=>h.get? a=some { cls:=.none,data:=.fields ps }
 | .met f x=>h.get? a=some (PySem.W.methodObj (.ref f) (.ref x))
 | .ext φ=>φ h∧(∃ o,h.get? a=some o)∧∀ h1 h2:Heap,φ h1→(∀ o,h1.get? a=some o→h2.get? a=some o)→φ h2
def HOk (H:Hp) (h:Heap):Prop:=∀ a o,H a=some o→ObjOk P w H h a o
end
section
variable {P:Program}{w:World}{H H':Hp}{h h':Heap}{a:Addr}{o:HO}
theorem ObjOk.lt (x:ObjOk P w H h a o):a<h.objs.size:=by
 cases o with
 | lst xs=>obtain ⟨_,_,_,_,e⟩:=x;exact Heap.lt_size e
 | tup xs=>obtain ⟨_,_,_,p⟩:=x;exact p.lt
 | dK kvs=>obtain ⟨_,_,_,_,o,_,_,e,_⟩:=x;exact Heap.lt_size e
 | dT kvs=>obtain ⟨_,_,_,_,o,_,_,e,_⟩:=x;exact Heap.lt_size e
 | set S n=>obtain ⟨o,_,_,_,e,_⟩:=x;exact Heap.lt_size e
 | ins C dx fs=>obtain ⟨_,_,_,e,_⟩:=x;exact Heap.lt_size e
 | own y=>obtain ⟨_,e⟩:=x;exact Heap.lt_size e
 | xd fs=>obtain ⟨_,⟨_,_,_,e,_⟩,_⟩:=x;exact Heap.lt_size e
 | rng lo hi=>obtain ⟨_,_,_,e⟩:=x;exact Heap.lt_size e
 | frz ob u=>obtain ⟨e,_⟩:=x;exact Heap.lt_size e
 | tbl ps=>exact Heap.lt_size (show h.get? a=some _ from x)
 | met f y=>exact Heap.lt_size (show h.get? a=some _ from x)
 | ext φ=>obtain ⟨_,⟨_,e⟩,_⟩:=x;exact Heap.lt_size e
theorem Paired.mapP {α β:Type}{F G:α→β→Prop}:∀ {l₁:List α}{l₂:List β},Paired F l₁ l₂→(∀ a b,F a b→G a b)→Paired G l₁ l₂
 | _,_,.nil,_=>.nil
 | _,_,.cons r t,f=>.cons (f _ _ r) (Paired.mapP t f)
theorem ObjOk.stay (x:ObjOk P w H h a o) (k:∀ b u,(b=a∨H b=some (.own a))→h.get? b=some u→h'.get? b=some u)
  (ho:∀ b,H b=some (.own a)→H' b=some (.own a)) (ht:∀ b xs,H b=some (.tup xs)→H' b=some (.tup xs)):ObjOk P w H' h' a o:=by
 induction o with
 | lst xs=>obtain ⟨z,its,n,r,e⟩:=x;exact ⟨z,its,n,r,k _ _ (.inl rfl) e⟩
 | tup xs=>obtain ⟨z,its,r,ob,e,c⟩:=x;exact ⟨z,its,r,ob,k _ _ (.inl rfl) e,c⟩
 | dK kvs=>obtain ⟨z,y,vs,r,ob,es,ep,e,c⟩:=x;exact ⟨z,y,vs,r,ob,es,ep,k _ _ (.inl rfl) e,c⟩
 | dT kvs =>
  obtain ⟨z,y,xs,r,ob,es,ep,e,c⟩:=x
  exact ⟨z,y,xs,Paired.mapP r fun p q z=>⟨z.1,ht _ _ z.2.1,z.2.2⟩,ob,es,ep,k _ _ (.inl rfl) e,c⟩
 | set S n=>obtain ⟨ob,es,ep,t,e,c⟩:=x;exact ⟨ob,es,ep,t,k _ _ (.inl rfl) e,c⟩
 | ins C dx fs =>
  obtain ⟨d,z,ne,e,mA,⟨od,es,ep,e2,c⟩,r⟩:=x
  exact ⟨ho _ d,z,ne,k _ _ (.inl rfl) e,mA,⟨od,es,ep,k _ _ (.inr d) e2,c⟩,r⟩
 | own y=>obtain ⟨ob,e⟩:=x;exact ⟨ob,k _ _ (.inl rfl) e⟩
 | xd fs=>obtain ⟨mA,⟨od,es,ep,e,c⟩,r⟩:=x;exact ⟨mA,⟨od,es,ep,k _ _ (.inl rfl) e,c⟩,r⟩
 | rng lo hi=>obtain ⟨t,u,v,e⟩:=x;exact ⟨t,u,v,k _ _ (.inl rfl) e⟩
 | frz ob u ih=>obtain ⟨e,q⟩:=x;exact ⟨k _ _ (.inl rfl) e,ih q⟩
 | tbl ps =>
  have e:h.get? a=some { cls:=.none,data:=.fields ps }:=x
  show h'.get? a=some { cls:=.none,data:=.fields ps }
  exact k a _ (.inl rfl) e
 | met f y =>
  have e:h.get? a=some (PySem.W.methodObj (.ref f) (.ref y)):=x
  show h'.get? a=some (PySem.W.methodObj (.ref f) (.ref y))
  exact k a _ (.inl rfl) e
 | ext φ=>obtain ⟨p,⟨o,e⟩,st⟩:=x;exact ⟨st _ _ p fun o q=>k _ _ (.inl rfl) q,⟨o,k _ _ (.inl rfl) e⟩,st⟩
theorem HOk.lt (x:HOk P w H h) (e:H a=some o):a<h.objs.size:=(x a o e).lt
theorem HOk.fresh (x:HOk P w H h) (e:h.objs.size≤a):H a=none:=by
 cases q:H a with
 | none=>rfl
 | some u=>exact absurd (Nat.lt_of_lt_of_le (x.lt q) e) (Nat.lt_irrefl _)
theorem HOk.kept (x:HOk P w H h) (k:∀ b u,h.get? b=some u→h'.get? b=some u):HOk P w H h':=fun a o e =>
 (x a o e).stay (fun b u _ q=>k b u q) (fun _ q=>q) fun _ _ q=>q
theorem HOk.laid (x:HOk P w H h) (k:∀ b u,h.get? b=some u→h'.get? b=some u) (hp:h.objs.size≤a) (new:ObjOk P w (upd H a o) h' a o):HOk P w (upd H a o) h':=fun b u e=>by
 have hn:=x.fresh hp
 by_cases hb:b=a
 ·subst hb;rw [ad] at e;cases e;exact new
 ·rw [ar hb] at e
  exact (x b u e).stay (fun c v _ q=>k c v q) (fun c q=>by rw [ar (aD q hn)];exact q) fun c xs q=>by rw [ar (aD q hn)];exact q
end
def Rd (H:Hp) (a:Addr) (u:HO):Prop:=H a=some u∨∃ o,H a=some (.frz o u)
theorem Rd.ok {P:Program}{w:World}{H:Hp}{h:Heap}{a:Addr}{u:HO} (r:Rd H a u) (x:HOk P w H h):ObjOk P w H h a u:=by
 rcases r with r | ⟨o,r⟩
 ·exact x a u r
 ·obtain ⟨_,q⟩:=x a _ r
  exact q
def Mut:Option HO→Prop
 | some (.lst _)=>True
 | some (.dK _)=>True
 | some (.dT _)=>True
 | some (.set _ _)=>True
 | some (.ins _ _ _)=>True
 | some (.ext _)=>True
 | _=>False
section
variable {P:Program}{w:World}{H:Hp}{h h':Heap}{x e:Addr}{o':HO}
theorem HOk.write (ok:HOk P w H h) (mu:Mut (H x)) (he:e=x∨H e=some (.own x)) (k:∀ b u,b≠e→h.get? b=some u→h'.get? b=some u) (heo:∃ u,h'.get? e=some u)
  (new:ObjOk P w (upd H x o') h' x o'):HOk P w (upd H x o') h':=fun b u q=>by
 have nown:∀ c y,H c=some (.own y)→c≠x:=fun c y r z=>by subst z;rw [r] at mu;exact mu
 have ntup:∀ c xs,H c=some (.tup xs)→c≠x:=fun c xs r z=>by subst z;rw [r] at mu;exact mu
 by_cases hb:b=x
 ·subst hb;rw [ad] at q;cases q;exact new
 ·rw [ar hb] at q
  by_cases hbe:b=e
  ·have q':H b=some (.own x):=by
    rcases he with z | z
    ·exact absurd (hbe.trans z) hb
    ·rw [hbe];exact z
   rw [q] at q';cases q'
   obtain ⟨v,hv⟩:=heo
   exact ⟨v,by rw [hbe];exact hv⟩
  ·refine (ok b u q).stay (fun c v hc r=>k c v ?_ r) (fun c r=>by rw [ar (nown c b r)];exact r) fun c xs r=>by rw [ar (ntup c xs r)];exact r
   rcases hc with rfl | hc
   ·exact hbe
   ·rintro rfl
    rcases he with z | z
    ·exact nown c b hc z
    ·rw [hc] at z;cases z;exact hb rfl
end
structure Un (fs ex:List Addr) (H H':Hp) (h h':Heap):Prop where
 keep:∀ b o,h.get? b=some o→H b=none→b∉fs→b∉ex→h'.get? b=some o
 slot:∀ b o,h.get? b=some o→H b=none→b∈fs→b∉ex→∃ sl,h'.get? b=some { o with slots:=sl }
 free:∀ b o,h.get? b=some o→H b=none→b∉ex→H' b=none
 there:∀ b o,h.get? b=some o→b∉ex→∃ o',h'.get? b=some o'
 tups:∀ b xs,H b=some (.tup xs)→H' b=some (.tup xs)
 frzs:∀ b o u,H b=some (.frz o u)→H' b=some (.frz o u)
 tbls:∀ b ps,H b=some (.tbl ps)→∃ more,H' b=some (.tbl (ps++more))
section
variable {fs fs' ex ex':List Addr}{H H1 H2:Hp}{h h1 h2 h':Heap}{a x e:Addr}{o:HO}
theorem Un.any (u:Un fs ex H H1 h h1) {b:Addr}{ob:Obj} (q:h.get? b=some ob) (n:H b=none) (hx:b∉ex):∃ sl,h1.get? b=some { ob with slots:=sl }:=by
 by_cases hb:b∈fs
 ·exact u.slot b ob q n hb hx
 ·exact ⟨ob.slots,u.keep b ob q n hb hx⟩
theorem Un.kept (k:∀ b u,h.get? b=some u→h'.get? b=some u):Un fs ex H H h h' :=
 ⟨fun b ob q _ _ _=>k b ob q,fun b ob q _ _ _=>⟨ob.slots,k b ob q⟩,fun _ _ _ n _=>n,fun b ob q _=>⟨ob,k b ob q⟩,fun _ _ q=>q,fun _ _ _ q=>q,fun _ ps q=>⟨#[],by rw [q];simp⟩⟩
theorem Un.refl:Un fs ex H H h h:=Un.kept fun _ _ q=>q
theorem Un.laid (k:∀ b u,h.get? b=some u→h'.get? b=some u) (hp:h.objs.size≤a) (hn:H a=none):Un fs ex H (upd H a o) h h' where
 keep:=fun b u q _ _ _=>k b u q
 slot:=fun b u q _ _ _=>⟨u.slots,k b u q⟩
 free:=fun b u q n _=>by rw [ar (Nat.ne_of_lt (Nat.lt_of_lt_of_le (Heap.lt_size q) hp))];exact n
 there:=fun b u q _=>⟨u,k b u q⟩
 tups:=fun b xs q=>by rw [ar (aD q hn)];exact q
 frzs:=fun b u xs q=>by rw [ar (aD q hn)];exact q
 tbls:=fun b ps q=>⟨#[],by rw [ar (aD q hn),q];simp⟩
theorem Un.write (mu:Mut (H x)) (he:e=x∨H e=some (.own x)) (k:∀ b u,b≠e→h.get? b=some u→h'.get? b=some u) (heo:∃ u,h'.get? e=some u):Un fs ex H (upd H x o) h h':=by
 have hx:∀ b,H b=none→b≠x:=fun b n z=>by subst z;rw [n] at mu;exact mu
 have hb:∀ b,H b=none→b≠e:=fun b n z=>by
  subst z
  rcases he with r | r
  ·exact hx b n r
  ·rw [n] at r;cases r
 have hm:∀ b u,H b=some u→¬ Mut (some u)→b≠x:=fun b u q nm z=>by subst z;rw [q] at mu;exact nm mu
 refine ⟨fun b u q n _ _=>k b u (hb b n) q,fun b u q n _ _=>⟨u.slots,k b u (hb b n) q⟩,fun b u q n _=>by rw [ar (hx b n)];exact n,fun b u q _=>?_,
  fun b xs q=>by rw [ar (hm b _ q fun z=>z)];exact q,fun b u xs q=>by rw [ar (hm b _ q fun z=>z)];exact q,fun b ps q=>⟨#[],by rw [ar (hm b _ q fun z=>z),q];simp⟩⟩
 by_cases hbe:b=e
 ·subst hbe;exact heo
 ·exact ⟨u,k b u hbe q⟩
end
def trk (h:Heap) (H:Hp):List Addr:=(List.range h.objs.size).filter fun a=>(H a).isSome
def hidT (h:Heap) (H:Hp):Heap:=PySem.W.hideAll h (trk h H)
theorem pV (h:Heap) (H:Hp):(hidT h H).objs.size=h.objs.size:=PySem.W.hideAll_size _ _
theorem hidT_get {h:Heap}{H:Hp}{b:Addr}{o:Obj} (e:h.get? b=some o) (n:H b=none):(hidT h H).get? b=some o :=
 PySem.W.hideAll_get _ e fun hm=>by
  have q:(H b).isSome=true:=(List.mem_filter.mp hm).2
  rw [n] at q;simp at q
theorem of_hidT {h:Heap}{H:Hp}{b:Addr}{o:Obj} (e:(hidT h H).get? b=some o):h.get? b=some o∧H b=none:=by
 have e':h.get? b=some o:=PySem.W.of_hideAll (trk h H) e
 refine ⟨e',?_⟩
 cases q:H b with
 | none=>rfl
 | some x =>
  have hm:b∈trk h H:=List.mem_filter.mpr ⟨List.mem_range.mpr (Heap.lt_size e'),by simp [q]⟩
  have z:(hidT h H).get? b=none:=PySem.W.hideAll_none (trk h H) hm
  rw [z] at e;cases e
def allNews (g h:Heap) (L:Addr):List (Addr×Obj):=(List.range h.objs.size).filterMap fun a=>if a=L∨(g.get? a).isSome=true then none else (h.get? a).map fun o=>(a,o)
def rest (g h:Heap) (L d:Addr):List (Addr×Obj):=(allNews g h L).filter fun p=>decide (p.1≠d)
end L2
namespace L2
open PySem PySem.Spec PyProof.Rows
structure Mod (K:PySem.W.Frag) (mg:Str→Option Value) (base:Heap):Prop where
 kin:K.In base
 glob:base.Ns mainGlobals mg
 blt:∃ mb,base.Ns builtinsNs mb∧∀ x:Str,x≠"__name__"→mb x=bootBuiltins x
 nolimit:base.NoLimit
structure Cx where
 prog:Program
 w:World
 K:PySem.W.Frag
 mg:Str→Option Value
 base:Heap
 A:Around
 N:List Str
 s₀:Shared
 H₀:Hp
 env:Env
 outer:List Env
 stack:List Env
 ex:List Addr
 fn:Str→Bool
 calm:Bool
 pn:List (Addr×Obj)
 xe:Value→Shared→Prop
def frs (l:List Env):List Addr:=l.filterMap (·.frame)
abbrev Cx.fs (X:Cx):List Addr:=frs X.outer
def Vis (sc:Scope) (x:Str):Prop:=sc.names.lookup x=some .local∨sc.names.lookup x=some .cell∨sc.names.lookup x=some .free
def Loc (sc:Scope) (x:Str):Prop:=sc.names.lookup x=some .local∨sc.names.lookup x=some .cell
def Look (env:Env) (h:Heap) (m:Str→Option Value) (x:Str) (u:Value):Prop :=
 (env.kindOf x=some .local∧m x=some u)∨((env.kindOf x=some .cell∨env.kindOf x=some .free)∧∃ c,env.cells.lookup x=some c∧h.IsCell c (some u))
structure Cx.Ok (X:Cx):Prop where
 mod:Mod X.K X.mg X.base
 kind:X.env.scope.kind=.function
 glob:X.env.globals=mainGlobals
 blt:X.env.builtins=builtinsNs
 above:X.s₀.heap.objs.size≤X.env.locals
 inj:∀ x y c,X.env.cells.lookup x=some c→X.env.cells.lookup y=some c→x=y
 has:∀ x,(X.env.kindOf x=some .cell∨X.env.kindOf x=some .free)→∃ c,X.env.cells.lookup x=some c
 cab:∀ x c,X.fn x=true→X.env.cells.lookup x=some c→X.s₀.heap.objs.size≤c
 hd:X.calm=true→X.A.handled=none
 frames:X.A.frames=some X.stack
 stk:X.stack=X.outer∨(X.stack=X.env::X.outer∧X.env.frame=some X.env.locals)
 exf:∀ b∈X.ex,b≠X.env.locals∧∀ x c,X.env.cells.lookup x=some c→c≠b
 bs:∀ b o,X.base.get? b=some o→X.s₀.heap.get? b=some o∧X.H₀ b=none
 bsz:X.base.objs.size≤X.s₀.heap.objs.size
 noex:∀ b o,X.base.get? b=some o→b∉X.ex
 exfs:∀ b∈X.ex,b∉X.fs
 funs:X.s₀.heap.FunFrames X.base X.outer
 frf:∀ b∈X.fs,X.H₀ b=none
structure Inv (X:Cx) (pins:List (Addr×Obj)) (σ:List (Option V)) (H:Hp) (s:Shared):Prop where
 ok:X.Ok
 os:s.os=X.s₀.os
 bare:AllBare s.gens
 base:Un X.fs X.ex X.H₀ H X.s₀.heap s.heap
 loc:∃ m,s.heap.Ns X.env.locals m∧∀ (i:Nat) (x:Str) (v:V),X.N[i]?=some x→σ[i]?=some (some v)→Vis X.env.scope x→∃ u,RelV v u∧Look X.env s.heap m x u
 cell:∀ x c,X.env.cells.lookup x=some c→∃ v,s.heap.IsCell c v
 free:H X.env.locals=none
 freeC:∀ x c,X.env.cells.lookup x=some c→H c=none
 pin:∀ p∈X.pn++pins,s.heap.get? p.1=some p.2∧H p.1=none∧p.1≠X.env.locals∧p.1∉X.fs∧∀ v,p.2.data≠.cell v
 hok:HOk X.prog X.w H s.heap
 len:σ.length=X.N.length
section
variable {X:Cx}{pins:List (Addr×Obj)}{σ:List (Option V)}{H H':Hp}{s:Shared}{h':Heap}
theorem Cx.Ok.nofr (ok:X.Ok) {b:Addr}{o:Obj} (e:X.base.get? b=some o):b∉X.fs:=fun hb=>by
 have:=(ok.funs.mem hb).1
 rw [e] at this;cases this
theorem Inv.bs (I:Inv X pins σ H s):∀ b o,X.base.get? b=some o→s.heap.get? b=some o∧H b=none:=fun b o e =>
 ⟨I.base.keep b o (I.ok.bs b o e).1 (I.ok.bs b o e).2 (I.ok.nofr e) (I.ok.noex b o e),I.base.free b o (I.ok.bs b o e).1 (I.ok.bs b o e).2 (I.ok.noex b o e)⟩
theorem Inv.bk (I:Inv X pins σ H s):∀ b o,X.base.get? b=some o→s.heap.get? b=some o:=fun b o e=>(I.bs b o e).1
theorem Inv.mod (I:Inv X pins σ H s):Mod X.K X.mg X.base:=I.ok.mod
theorem Inv.kIn (I:Inv X pins σ H s):X.K.In s.heap:=I.ok.mod.kin.keeps I.bk
theorem Inv.fr (I:Inv X pins σ H s):∃ m,Fr X.base X.env.locals s.heap m :=
 let ⟨m,hn,_⟩:=I.loc
 ⟨m,hn,I.bk,Nat.le_trans I.ok.bsz I.ok.above⟩
theorem Inv.lt (I:Inv X pins σ H s):X.env.locals<s.heap.objs.size:=let ⟨_,hn,_⟩:=I.loc;hn.lt
theorem Inv.sz (I:Inv X pins σ H s):X.s₀.heap.objs.size≤s.heap.objs.size:=Nat.le_trans I.ok.above (Nat.le_of_lt I.lt)
theorem Inv.nofs (I:Inv X pins σ H s) {a:Addr} (h:s.heap.objs.size≤a):a∉X.fs:=fun hb=>by
 obtain ⟨_,o,ho,_⟩:=I.ok.funs.mem hb
 exact absurd (Nat.lt_of_lt_of_le (Heap.lt_size ho) (Nat.le_trans I.sz h)) (Nat.lt_irrefl _)
theorem Inv.cne (I:Inv X pins σ H s):∀ x c,X.env.cells.lookup x=some c→c≠X.env.locals:=fun x c e z=>by
 obtain ⟨v,o,ho,hd⟩:=I.cell x c e
 obtain ⟨m,⟨o',es,ep,ho',hd',_⟩,_⟩:=I.loc
 rw [z,ho'] at ho;cases ho;rw [hd'] at hd;cases hd
theorem Inv.funs (I:Inv X pins σ H s):s.heap.FunFrames X.base X.outer:=by
 have all:∀ (l:List Env),(∀ b∈frs l,b∈X.fs)→X.s₀.heap.FunFrames X.base l→s.heap.FunFrames X.base l:=by
  intro l
  induction l with
  | nil=>intro _ _;trivial
  | cons env r ih =>
   intro hs hl
   obtain ⟨hk,⟨L,o,hf,hn,ho,hd⟩,hr⟩:=hl
   have hL:L∈X.fs:=hs L (by unfold frs;rw [List.filterMap_cons,hf];exact List.mem_cons_self)
   obtain ⟨sl,e⟩:=I.base.slot L o ho (I.ok.frf L hL) hL fun z=>I.ok.exfs L z hL
   exact ⟨hk,⟨L,_,hf,hn,e,hd⟩,ih (fun b hb=>hs b (by unfold frs;rw [List.filterMap_cons,hf];exact List.mem_cons_of_mem _ hb)) hr⟩
 exact all X.outer (fun _ hb=>hb) I.ok.funs
theorem Inv.stack (I:Inv X pins σ H s):s.heap.FunFrames X.base X.stack:=by
 rcases I.ok.stk with e | ⟨e,hf⟩
 ·rw [e];exact I.funs
 ·rw [e]
  obtain ⟨m,hn,_⟩:=I.loc
  refine .cons (by rw [I.ok.kind];decide) hf hn ?_ I.funs
  exact Heap.get?_none_of_le (Nat.le_trans I.ok.bsz I.ok.above)
theorem Inv.stkSub (I:Inv X pins σ H s):∀ b∈frs X.stack,b∈X.env.locals::X.fs:=fun b hb=>by
 rcases I.ok.stk with e | ⟨e,hf⟩
 ·rw [e] at hb;exact List.mem_cons_of_mem _ hb
 ·rw [e] at hb
  unfold frs at hb
  rw [List.filterMap_cons,hf] at hb
  exact hb
theorem Inv.stkFree (I:Inv X pins σ H s):∀ b∈frs X.stack,H b=none:=fun b hb=>by
 rcases List.mem_cons.mp (I.stkSub b hb) with e | hb
 ·rw [e];exact I.free
 ·obtain ⟨_,o,ho,_⟩:=I.ok.funs.mem hb
  exact I.base.free b o ho (I.ok.frf b hb) fun z=>I.ok.exfs b z hb
theorem Inv.step {g':Array GenState}{t':Nat}{d':Drawn}{ch:List Addr} (I:Inv X pins σ H s)
  (hch:∀ b∈ch,(b∈X.ex∨X.s₀.heap.objs.size≤b)∧b≠X.env.locals∧(∀ x c,X.env.cells.lookup x=some c→c≠b)∧∀ p∈X.pn++pins,p.1≠b)
  (keep:∀ b o,b≠X.env.locals→b∉X.fs→b∉ch→s.heap.get? b=some o→H b=none→h'.get? b=some o)
  (slot:∀ b o,b≠X.env.locals→b∈X.fs→b∉ch→s.heap.get? b=some o→H b=none→∃ sl,h'.get? b=some { o with slots:=sl }) (free:∀ b o,b∉ch→s.heap.get? b=some o→H b=none→H' b=none)
  (there:∀ b o,b∉ch→s.heap.get? b=some o→∃ o',h'.get? b=some o')
  (tups:∀ b xs,H b=some (.tup xs)→H' b=some (.tup xs)) (frzs:∀ b o u,H b=some (.frz o u)→H' b=some (.frz o u)) (tbls:∀ b ps,H b=some (.tbl ps)→∃ more,H' b=some (.tbl (ps++more)))
  (ns:∀ m,s.heap.Ns X.env.locals m→h'.Ns X.env.locals m) (hok:HOk X.prog X.w H' h') (hg:AllBare g') :
  Inv X pins σ H' { s with heap:=h',gens:=g',drawn:=d',toks:=t' }:=by
 have neL:∀ b o,X.s₀.heap.get? b=some o→b≠X.env.locals:=fun b o e=>Nat.ne_of_lt (Nat.lt_of_lt_of_le (Heap.lt_size e) I.ok.above)
 have neC:∀ b o,X.s₀.heap.get? b=some o→b∉X.ex→b∉ch:=fun b o e hx hb=>by
  rcases (hch b hb).1 with z | z
  ·exact hx z
  ·exact absurd (Nat.lt_of_lt_of_le (Heap.lt_size e) z) (Nat.lt_irrefl _)
 have cellK:∀ x c,X.env.cells.lookup x=some c→∀ v,s.heap.IsCell c v→h'.IsCell c v:=fun x c e v ⟨o,ho,hd⟩=>by
  have nch:c∉ch:=fun z=>(hch c z).2.2.1 x c e rfl
  by_cases hc:c∈X.fs
  ·obtain ⟨sl,q⟩:=slot c o (I.cne x c e) hc nch ho (I.freeC x c e)
   exact ⟨_,q,hd⟩
  ·exact ⟨o,keep c o (I.cne x c e) hc nch ho (I.freeC x c e),hd⟩
 refine ⟨I.ok,I.os,hg,⟨fun b o e n hb hx=>?_,fun b o e n hb hx=>?_,fun b o e n hx=>?_,fun b o e hx=>?_,fun b xs e=>tups b xs (I.base.tups b xs e),fun b o xs e=>frzs b o xs (I.base.frzs b o xs e),fun b ps e=>?_⟩,?_,fun x c e=>?_,?_,fun x c e=>?_,fun p hp=>?_,hok,I.len⟩
 ·exact keep b o (neL b o e) hb (neC b o e hx) (I.base.keep b o e n hb hx) (I.base.free b o e n hx)
 ·obtain ⟨sl,e1⟩:=I.base.slot b o e n hb hx
  obtain ⟨sl',e2⟩:=slot b _ (neL b o e) hb (neC b o e hx) e1 (I.base.free b o e n hx)
  exact ⟨sl',e2⟩
 ·obtain ⟨o',e1⟩:=I.base.there b o e hx
  exact free b o' (neC b o e hx) e1 (I.base.free b o e n hx)
 ·obtain ⟨o',e1⟩:=I.base.there b o e hx
  exact there b o' (neC b o e hx) e1
 ·obtain ⟨m1,e1⟩:=I.base.tbls b ps e
  obtain ⟨m2,e2⟩:=tbls b _ e1
  exact ⟨m1++m2,by rw [e2,Array.append_assoc]⟩
 ·obtain ⟨m,hn,hl⟩:=I.loc
  refine ⟨m,ns m hn,fun i x v e1 e2 e3=>?_⟩
  obtain ⟨u,r,l⟩:=hl i x v e1 e2 e3
  refine ⟨u,r,?_⟩
  rcases l with l | ⟨k,c,e,z⟩
  ·exact .inl l
  ·exact .inr ⟨k,c,e,cellK x c e _ z⟩
 ·obtain ⟨v,z⟩:=I.cell x c e
  exact ⟨v,cellK x c e v z⟩
 ·obtain ⟨m,⟨o,_,_,ho,_⟩,_⟩:=I.loc
  exact free _ o (fun z=>(hch _ z).2.1 rfl) ho I.free
 ·obtain ⟨v,o,ho,hd⟩:=I.cell x c e
  exact free c o (fun z=>(hch c z).2.2.1 x c e rfl) ho (I.freeC x c e)
 ·obtain ⟨e,n,ne,nf,d⟩:=I.pin p hp
  have nch:p.1∉ch:=fun z=>(hch p.1 z).2.2.2 p hp rfl
  exact ⟨keep p.1 p.2 ne nf nch e n,free p.1 p.2 nch e n,ne,nf,d⟩
theorem Inv.un {t':Nat} (I:Inv X pins σ H s) (u:Un X.fs [] H H' s.heap h') (hok:HOk X.prog X.w H' h'):Inv X pins σ H' { s with heap:=h',toks:=t' }:=by
 obtain ⟨m,⟨o,es,ep,ho,r⟩,_⟩:=id I.loc
 obtain ⟨sl,hL⟩:=u.any ho I.free (by simp)
 exact I.step (g':=s.gens) (d':=s.drawn) (ch:=[]) (fun _ z=>nomatch z) (fun b o _ hb _ e n=>u.keep b o e n hb (by simp)) (fun b o _ hb _ e n=>u.slot b o e n hb (by simp)) (fun b o _ e n=>u.free b o e n (by simp)) (fun b o _ e=>u.there b o e (by simp)) u.tups u.frzs u.tbls (fun m' hm=>by
  obtain ⟨o',es',ep',ho',r'⟩:=hm
  rw [ho] at ho';cases ho'
  exact ⟨_,es',ep',hL,r'⟩) hok I.bare
theorem Inv.call {g':Array GenState}{t':Nat}{d':Drawn}{ch:List Addr} (I:Inv X pins σ H s) (u:Un (frs X.stack) ch H H' s.heap h') (hok:HOk X.prog X.w H' h') (hg:AllBare g')
  (hch:∀ b∈ch,(b∈X.ex∨X.s₀.heap.objs.size≤b)∧b≠X.env.locals∧(∀ x c,X.env.cells.lookup x=some c→c≠b)∧∀ p∈X.pn++pins,p.1≠b) :
  Inv X pins σ H' { s with heap:=h',gens:=g',drawn:=d',toks:=t' }:=by
 obtain ⟨m,⟨o,es,ep,ho,r⟩,_⟩:=id I.loc
 obtain ⟨sl,hL⟩:=u.any ho I.free fun z=>(hch _ z).2.1 rfl
 exact I.step (ch:=ch) hch (fun b o hL hb hc e n=>u.keep b o e n (fun z=>(List.mem_cons.mp (I.stkSub b z)).elim hL hb) hc) (fun b o _ _ hc e n=>u.any e n hc) (fun b o hc e n=>u.free b o e n hc) (fun b o hc e=>u.there b o e hc) u.tups u.frzs u.tbls (fun m' hm=>by
  obtain ⟨o',es',ep',ho',r'⟩:=hm
  rw [ho] at ho';cases ho'
  exact ⟨_,es',ep',hL,r'⟩) hok hg
theorem Inv.turned {t':Nat}{it:Addr} (I:Inv X pins σ H s) (k:∀ b o,b≠it→s.heap.get? b=some o→h'.get? b=some o) (hn:H it=none) (hL:it≠X.env.locals)
  (h1:it∈X.ex∨X.s₀.heap.objs.size≤it) (h2:∀ x c,X.env.cells.lookup x=some c→c≠it) (h3:∀ p∈X.pn++pins,p.1≠it):Inv X pins σ H { s with heap:=h',toks:=t' }:=by
 have nit:∀ b u,H b=some u→b≠it:=fun b u e z=>by rw [z,hn] at e;cases e
 refine I.step (g':=s.gens) (d':=s.drawn) (ch:=[it]) (fun b hb=>?_) (fun b o _ _ hc e _=>k b o (fun z=>hc (by simp [z])) e) (fun b o _ _ hc e _=>⟨o.slots,k b o (fun z=>hc (by simp [z])) e⟩) (fun _ _ _ _ n=>n)
  (fun b o hc e=>⟨o,k b o (fun z=>hc (by simp [z])) e⟩) (fun _ _ e=>e) (fun _ _ _ e=>e) (fun b ps e=>⟨#[],by rw [e];simp⟩) (fun m hm=>?_) (fun b u e=>?_) I.bare
 ·have e:b=it:=by simpa using hb
  subst e
  exact ⟨h1,hL,h2,h3⟩
 ·obtain ⟨o,es,ep,ho,r⟩:=hm
  exact ⟨o,es,ep,k _ o (Ne.symm hL) ho,r⟩
 ·refine (I.hok b u e).stay (fun c v hc q=>k c v ?_ q) (fun _ q=>q) fun _ _ q=>q
  rcases hc with z | z
  ·rw [z];exact nit b u e
  ·exact nit c _ z
theorem Inv.tok (I:Inv X pins σ H s) (t:Nat):Inv X pins σ H { s with toks:=t }:=I.un (h':=s.heap) (t':=t) Un.refl I.hok
theorem Inv.kept {t':Nat} (I:Inv X pins σ H s) (k:∀ b u,s.heap.get? b=some u→h'.get? b=some u):Inv X pins σ H { s with heap:=h',toks:=t' }:=I.un (Un.kept k) (I.hok.kept k)
theorem Inv.laid {a:Addr}{o:HO}{t':Nat} (I:Inv X pins σ H s) (k:∀ b u,s.heap.get? b=some u→h'.get? b=some u) (hp:s.heap.objs.size≤a) (new:ObjOk X.prog X.w (upd H a o) h' a o) :
  Inv X pins σ (upd H a o) { s with heap:=h',toks:=t' }:=I.un (Un.laid k hp (I.hok.fresh hp)) (I.hok.laid k hp new)
theorem Inv.write {x e:Addr}{o:HO}{t':Nat} (I:Inv X pins σ H s) (mu:Mut (H x)) (he:e=x∨H e=some (.own x)) (k:∀ b u,b≠e→s.heap.get? b=some u→h'.get? b=some u) (heo:∃ u,h'.get? e=some u)
  (new:ObjOk X.prog X.w (upd H x o) h' x o):Inv X pins σ (upd H x o) { s with heap:=h',toks:=t' }:=I.un (Un.write mu he k heo) (I.hok.write mu he k heo new)
theorem Inv.weak {σ':List (Option V)} (I:Inv X pins σ H s) (hl:σ'.length=σ.length) (w:∀ (i:Nat) v,σ'[i]?=some (some v)→σ[i]?=some (some v)):Inv X pins σ' H s :=
 ⟨I.ok,I.os,I.bare,I.base,let ⟨m,hn,hl'⟩:=I.loc;⟨m,hn,fun i x v e1 e2 e3=>hl' i x v e1 (w i v e2) e3⟩,I.cell,I.free,I.freeC,I.pin,I.hok,hl.trans I.len⟩
theorem Inv.pins_of {pins':List (Addr×Obj)} (I:Inv X pins σ H s) (h:∀ p∈pins',s.heap.get? p.1=some p.2∧H p.1=none∧p.1≠X.env.locals∧p.1∉X.fs∧∀ v,p.2.data≠.cell v):Inv X pins' σ H s :=
 ⟨I.ok,I.os,I.bare,I.base,I.loc,I.cell,I.free,I.freeC,fun p hp=>(List.mem_append.mp hp).elim (fun z=>I.pin p (List.mem_append_left _ z)) (h p),I.hok,I.len⟩
theorem mx {N:List Str} (hN:N.Nodup) {i j:Nat}{x:Str} (a:N[i]?=some x) (b:N[j]?=some x):i=j:=by
 obtain ⟨h1,e1⟩:=List.getElem?_eq_some_iff.mp a
 obtain ⟨h2,e2⟩:=List.getElem?_eq_some_iff.mp b
 exact (List.getElem_inj hN).mp (e1.trans e2.symm)
theorem j1 {M:Model}{A:Around}{E:Value→Shared→Prop}{i:Nat}{x:Str}{v:V}{u:Value}{Q:Unit→Shared→Prop} (I:Inv X pins σ H s) (hN:X.N.Nodup) (hi:X.N[i]?=some x) (hx:Loc X.env.scope x) (r:RelV v u)
  (h:∀ s',Inv X pins (σ.set i (some v)) H s'→(∃ a,Heap.SameBut a s.heap s'.heap∧(a=X.env.locals∨X.env.cells.lookup x=some a))→Q () s') (hf:X.fn x=true∨X.env.scope.names.lookup x=some .local:=by first | exact .inl rfl | exact .inr rfl | assumption):wpAny M A (storeName X.env x u) Q E s:=by
 obtain ⟨m,hn,hl⟩:=id I.loc
 have hcls:(X.env.scope.kind == .class || (X.env.scope.kind == .module && X.env.locals != X.env.globals))=false:=by rw [I.ok.kind];rfl
 have hiσ:i<σ.length:=by rw [I.len];exact (List.getElem?_eq_some_iff.mp hi).1
 have cne:=I.cne
 have tracked:∀ {a:Addr}{h':Heap},(∃ o,s.heap.get? a=some o∧H a=none)→Heap.SameBut a s.heap h'→HOk X.prog X.w H h':=fun {a h'} ha hs b ob e=>by
  obtain ⟨_,_,hfree⟩:=ha
  refine (I.hok b ob e).stay (fun c w' hc q=>(hs.2 c ?_).trans q) (fun _ q=>q) fun _ _ q=>q
  rintro rfl
  rcases hc with rfl | hc
  ·rw [hfree] at e;cases e
  ·rw [hfree] at hc;cases hc
 rcases hx with hk | hk
 ·refine wpAny_storeName_local hk hn (fun h' hn' hs=>?_) hcls
  obtain ⟨oL,_,_,hoL,_⟩:=id hn
  refine h _ ⟨I.ok,I.os,I.bare,⟨fun b o e n hb hx=>?_,fun b o e n hb hx=>?_,I.base.free,fun b o e hx=>?_,I.base.tups,I.base.frzs,I.base.tbls⟩,⟨_,hn',fun j y v' e1 e2 e3=>?_⟩,fun y c e=>?_,I.free,I.freeC,fun p hp=>?_,tracked ⟨oL,hoL,I.free⟩ hs,by simpa using I.len⟩ ⟨_,hs,.inl rfl⟩
  ·exact (hs.2 b (Nat.ne_of_lt (Nat.lt_of_lt_of_le (Heap.lt_size e) I.ok.above))).trans (I.base.keep b o e n hb hx)
  ·obtain ⟨sl,e1⟩:=I.base.slot b o e n hb hx
   exact ⟨sl,(hs.2 b (Nat.ne_of_lt (Nat.lt_of_lt_of_le (Heap.lt_size e) I.ok.above))).trans e1⟩
  ·obtain ⟨o',e1⟩:=I.base.there b o e hx
   exact ⟨o',(hs.2 b (Nat.ne_of_lt (Nat.lt_of_lt_of_le (Heap.lt_size e) I.ok.above))).trans e1⟩
  ·by_cases hj:j=i
   ·subst hj
    rw [hi] at e1;cases e1
    rw [List.getElem?_set_self hiσ] at e2
    cases e2
    exact ⟨u,r,.inl ⟨hk,by simp⟩⟩
   ·rw [List.getElem?_set_ne (Ne.symm hj)] at e2
    obtain ⟨u',r',q⟩:=hl j y v' e1 e2 e3
    refine ⟨u',r',?_⟩
    rcases q with ⟨k,e⟩ | ⟨k,c,e,z⟩
    ·refine .inl ⟨k,?_⟩
     have:y≠x:=fun e=>hj (mx hN e1 (e▸hi))
     simp [this,e]
    ·exact .inr ⟨k,c,e,z.sameBut hs (cne y c e)⟩
  ·obtain ⟨w',z⟩:=I.cell y c e
   exact ⟨w',z.sameBut hs (cne y c e)⟩
  ·obtain ⟨e,n,ne,nf,d⟩:=I.pin p hp
   exact ⟨(hs.2 p.1 ne).trans e,n,ne,nf,d⟩
 ·have hfn:X.fn x=true:=by
   rcases hf with z | z
   ·exact z
   ·rw [z] at hk;cases hk
  obtain ⟨c,hc⟩:=I.ok.has x (.inl hk)
  obtain ⟨w',z⟩:=I.cell x c hc
  refine wpAny_storeName_cell I.ok.kind hk hc z (fun h' hc' hs=>?_)
  obtain ⟨oc,hoc,hocd⟩:=id z
  refine h { s with heap:=h' } ⟨I.ok,I.os,I.bare,⟨fun b o e n hb hx=>?_,fun b o e n hb hx=>?_,I.base.free,fun b o e hx=>?_,I.base.tups,I.base.frzs,I.base.tbls⟩,⟨m,hn.sameBut hs (Ne.symm (cne x c hc)),fun j y v' e1 e2 e3=>?_⟩,fun y c' e=>?_,I.free,I.freeC,fun p hp=>?_,tracked ⟨oc,hoc,I.freeC x c hc⟩ hs,by simpa using I.len⟩ ⟨c,hs,.inr hc⟩
  ·exact (hs.2 b (Nat.ne_of_lt (Nat.lt_of_lt_of_le (Heap.lt_size e) (I.ok.cab x c hfn hc)))).trans (I.base.keep b o e n hb hx)
  ·obtain ⟨sl,e1⟩:=I.base.slot b o e n hb hx
   exact ⟨sl,(hs.2 b (Nat.ne_of_lt (Nat.lt_of_lt_of_le (Heap.lt_size e) (I.ok.cab x c hfn hc)))).trans e1⟩
  ·obtain ⟨o',e1⟩:=I.base.there b o e hx
   exact ⟨o',(hs.2 b (Nat.ne_of_lt (Nat.lt_of_lt_of_le (Heap.lt_size e) (I.ok.cab x c hfn hc)))).trans e1⟩
  ·by_cases hj:j=i
   ·subst hj
    rw [hi] at e1;cases e1
    rw [List.getElem?_set_self hiσ] at e2
    cases e2
    exact ⟨u,r,.inr ⟨.inl hk,c,hc,hc'⟩⟩
   ·rw [List.getElem?_set_ne (Ne.symm hj)] at e2
    obtain ⟨u',r',q⟩:=hl j y v' e1 e2 e3
    refine ⟨u',r',?_⟩
    rcases q with q | ⟨k,c',e,z'⟩
    ·exact .inl q
    ·refine .inr ⟨k,c',e,z'.sameBut hs ?_⟩
     rintro rfl
     exact hj (mx hN e1 (I.ok.inj _ _ _ e hc▸hi))
  ·by_cases hcc:c'=c
   ·subst hcc;exact ⟨_,hc'⟩
   ·obtain ⟨w2,z2⟩:=I.cell y c' e
    exact ⟨w2,z2.sameBut hs hcc⟩
  ·obtain ⟨e,n,ne,nf,d⟩:=I.pin p hp
   refine ⟨(hs.2 p.1 ?_).trans e,n,ne,nf,d⟩
   intro q
   rw [q,hoc] at e
   have q':oc=p.2:=Option.some.inj e
   exact d w' (by rw [← q'];exact hocd)
theorem fA {M:Model}{A:Around}{E:Value→Shared→Prop}{i:Nat}{x:Str}{v:V}{u:Value}{Q:Unit→Shared→Prop} (I:Inv X pins σ H s) (hN:X.N.Nodup) (hi:X.N[i]?=some x) (hx:Loc X.env.scope x) (r:RelV v u)
  (h:∀ s',Inv X pins (σ.set i (some v)) H s'→Q () s') (hf:X.fn x=true∨X.env.scope.names.lookup x=some .local:=by first | exact .inl rfl | exact .inr rfl | assumption):wpAny M A (storeName X.env x u) Q E s :=
 j1 I hN hi hx r (fun s' I' _=>h s' I') hf
theorem Inv.call' {s':Shared}{ch:List Addr} (I:Inv X pins σ H s) (ho:s'.os=s.os) (u:Un (frs X.stack) ch H H' s.heap s'.heap) (hok:HOk X.prog X.w H' s'.heap) (hg:AllBare s'.gens)
  (hch:∀ b∈ch,(b∈X.ex∨X.s₀.heap.objs.size≤b)∧b≠X.env.locals∧(∀ x c,X.env.cells.lookup x=some c→c≠b)∧∀ p∈X.pn++pins,p.1≠b):Inv X pins σ H' s':=by
 obtain ⟨h',g',d',t',o'⟩:=s'
 have e:o'=s.os:=ho
 subst e
 exact I.call (g':=g') (t':=t') (d':=d') u hok hg hch
end
abbrev XK:=Value→Option Addr→Hp→Prop
abbrev St:=List (Option V)
abbrev VK:=V→Hp→Prop
abbrev TE:=St→Hp→VK→Prop
abbrev TT:=St→Hp→(Bool→Hp→Prop)→Prop
abbrev TA:=St→Hp→(List V→Hp→Prop)→Prop
structure ow where
 nx:St→Hp→Prop
 rt:VK
 bk:St→Hp→Prop:=fun _ _=>False
 ct:St→Hp→Prop:=fun _ _=>False
abbrev TS:=ow→St→Hp→Prop
def EP (X:Cx) (pins:List (Addr×Obj)) (σ:St) (Q:VK) (u:Value) (s':Shared):Prop:=∃ v H',Inv X pins σ H' s'∧RelV v u∧Q v H'
def TP (X:Cx) (pins:List (Addr×Obj)) (σ:St) (Q:Bool→Hp→Prop) (b:Bool) (s':Shared):Prop:=∃ H',Inv X pins σ H' s'∧Q b H'
def AP (X:Cx) (pins:List (Addr×Obj)) (σ:St) (Q:List V→Hp→Prop) (us:List Value) (s':Shared):Prop:=∃ vs H',Inv X pins σ H' s'∧Vals vs us∧Q vs H'
def SP (X:Cx) (pins:List (Addr×Obj)) (D:ow) (f:Flow) (s':Shared):Prop :=
 match f with
 | .next=>∃ σ' H',Inv X pins σ' H' s'∧D.nx σ' H'
 | .brk=>∃ σ' H',Inv X pins σ' H' s'∧D.bk σ' H'
 | .cont=>∃ σ' H',Inv X pins σ' H' s'∧D.ct σ' H'
 | .ret u=>∃ v σ' H',Inv X pins σ' H' s'∧RelV v u∧D.rt v H'
def PE (X:Cx) (e:Expr) (t:TE):Prop :=
 ∀ (pins:List (Addr×Obj)) (s:Shared) (σ:St) (H:Hp) (Q:VK),Inv X pins σ H s→t σ H Q→wpAny (model X.prog X.w) X.A (eval e X.env) (EP X pins σ Q) X.xe s
def PT (X:Cx) (e:Expr) (t:TT):Prop :=
 ∀ (pins:List (Addr×Obj)) (s:Shared) (σ:St) (H:Hp) (Q:Bool→Hp→Prop),Inv X pins σ H s→t σ H Q→wpAny (model X.prog X.w) X.A (isTrue e X.env (eval e X.env)) (TP X pins σ Q) X.xe s
def PW (X:Cx) (e:Expr) (t:TT):Prop :=
 ∀ (whole:Sem Value) (pins:List (Addr×Obj)) (s:Shared) (σ:St) (H:Hp) (Q:Bool→Hp→Prop),Inv X pins σ H s→t σ H Q→wpAny (model X.prog X.w) X.A (isTrue e X.env whole) (TP X pins σ Q) X.xe s
theorem PW.pt {X:Cx}{e:Expr}{t:TT} (h:PW X e t):PT X e t:=h _
def PA (X:Cx) (es:List Expr) (t:TA):Prop :=
 ∀ (pos:Pos) (pins:List (Addr×Obj)) (s:Shared) (σ:St) (H:Hp) (Q:List V→Hp→Prop),Inv X pins σ H s→t σ H Q→wpAny (model X.prog X.w) X.A (spliced (backTo pos (starEach es X.env))) (AP X pins σ Q) X.xe s
def PS (X:Cx) (st:Stmt) (t:TS):Prop :=
 ∀ (pins:List (Addr×Obj)) (s:Shared) (σ:St) (H:Hp) (D:ow),Inv X pins σ H s→t D σ H→wpAny (model X.prog X.w) X.A (exec st X.env) (SP X pins D) X.xe s
def PSs (X:Cx) (st:List Stmt) (t:TS):Prop :=
 ∀ (pins:List (Addr×Obj)) (s:Shared) (σ:St) (H:Hp) (D:ow),Inv X pins σ H s→t D σ H→wpAny (model X.prog X.w) X.A (execs st X.env) (SP X pins D) X.xe s
theorem thn {α:Type}{t:Sem α}{Q Q':α→Shared→Prop}{M:Model}{A:Around}{E:Value→Shared→Prop}{s:Shared} (h:wpAny M A t Q E s) (hQ:∀ a s,Q a s→Q' a s):wpAny M A t Q' E s:=wpAny_mono h hQ fun _ _ x=>x
end L2
namespace L2
open PySem PySem.Spec PyProof.Rows
section
variable {X:Cx}
def tVar (i:Nat):TE:=fun σ H Q=>∃ v,σ[i]?=some (some v)∧Q v H
def tC (v:V):TE:=fun _ H Q=>Q v H
theorem pe_var {i:Nat}{x:Str}{pos:Pos} (hN:X.N[i]?=some x) (hv:Vis X.env.scope x) (hd:(x == ("__debug__":Str))=false:=by decide) (hcd:(x == ("__classdict__":Str))=false:=by decide):PE X (.Name x pos) (tVar i):=by
 intro pins s σ H Q I h
 obtain ⟨v,e,h⟩:=h
 obtain ⟨m,hn,hl⟩:=I.loc
 obtain ⟨u,r,l⟩:=hl i x v hN e hv
 have fin:EP X pins σ Q u s:=⟨v,H,I,r,h⟩
 rcases l with ⟨hk,hm⟩ | ⟨hk,c,hc,hcell⟩
 ·exact wpAny_Name (wpAny_loadName_local I.ok.kind hk hn hm fin) hd
 ·rcases hk with hk | hk
  ·exact wpAny_Name (wpAny_loadName_cell I.ok.kind hk hc hcell fin) hd
  ·exact wpAny_Name (wpAny_loadName_free I.ok.kind hk hc hcell fin hcd) hd
theorem ak {i j pos}:PE X (.Constant (.int i) j pos) (tC (.int i)):=fun _ _ _ H _ I h=>wpAny_Constant_int ⟨.int i,H,I.tok _,⟨_,rfl⟩,h⟩
theorem ki {b j pos}:PE X (.Constant (.bool b) j pos) (tC (.bl b)):=fun _ _ _ H _ I h=>Constant_bool ⟨.bl b,H,I,rfl,h⟩
theorem pe_non {j pos}:PE X (.Constant .none j pos) (tC .non):=fun _ _ _ H _ I h=>Constant_none ⟨.non,H,I,rfl,h⟩
theorem br {x j pos}:PE X (.Constant (.str x) j pos) (tC (.str x)):=fun _ _ _ H _ I h=>Calls.Constant_str ⟨.str x,H,I.tok _,⟨_,rfl⟩,h⟩
def Gl (X:Cx) (x:Str):Prop:=X.env.kindOf x=some .globalImplicit
theorem jL {E:Value→Shared→Prop}{pins:List (Addr×Obj)}{s:Shared}{σ:St}{H:Hp}{x:Str}{u:Value}{pos:Pos}{Q:Value→Shared→Prop} (I:Inv X pins σ H s) (hg:Gl X x) (hm:X.mg x=some u) (h:Q u s)
  (hd:(x == ("__debug__":Str))=false:=by decide):wpAny (model X.prog X.w) X.A (eval (.Name x pos) X.env) Q E s :=
 Calls.Name_function_global I.ok.kind hg (Calls.loadGlobal_global (by rw [I.ok.glob];exact I.mod.glob.keeps I.bk) hm h) hd
theorem eF {E:Value→Shared→Prop}{pins:List (Addr×Obj)}{s:Shared}{σ:St}{H:Hp}{x:Str}{u:Value}{pos:Pos}{Q:Value→Shared→Prop} (I:Inv X pins σ H s) (hg:Gl X x) (hm:X.mg x=none) (hv:bootBuiltins x=some u) (h:Q u s)
  (hn:x≠"__name__":=by decide) (hd:(x == ("__debug__":Str))=false:=by decide):wpAny (model X.prog X.w) X.A (eval (.Name x pos) X.env) Q E s:=by
 obtain ⟨mb,h1,h2⟩:=I.mod.blt
 exact Calls.Name_function_global I.ok.kind hg (Calls.loadGlobal_builtin (by rw [I.ok.glob];exact I.mod.glob.keeps I.bk) hm (by rw [I.ok.blt];exact h1.keeps I.bk) ((h2 x hn).trans hv) h) hd
theorem lh {x:Str}{v:V}{u:Value}{pos:Pos} (hg:Gl X x) (hm:X.mg x=some u) (r:RelV v u) (hd:(x == ("__debug__":Str))=false:=by decide):PE X (.Name x pos) (tC v) :=
 fun _ _ _ H _ I h=>jL I hg hm ⟨v,H,I,r,h⟩ hd
variable {a b:Expr}{ta tb:TE}{pos:Pos}
def tB (t:TE):TT:=fun σ H Q=>t σ H fun x H1=>∃ c,x=.bl c∧Q c H1
theorem gk {e:Expr}{t:TE} (h:PE X e t) (he:∀ whole,isTrue e X.env whole=(do let v ← whole;standAt e.pos;holding [v] (truthy v)):=by intro _;rfl):PT X e (tB t):=by
 intro pins s σ H Q I hw
 refine isTrue_plain (thn (h pins s σ H _ I hw) fun v s1 ⟨x,H1,I1,r1,q1⟩=>?_) (he _)
 obtain ⟨d,rfl,q⟩:=q1
 cases r1
 exact wpAny_truthy_bool ⟨H1,I1,q⟩
variable {tA tB':TT}{rest:List Expr}
def tOr (t u:TT):TT:=fun σ H Q=>t σ H fun c H1=>if c=true then Q true H1 else u σ H1 Q
def tNot (t:TT):TT:=fun σ H Q=>t σ H fun c H1=>Q (!c) H1
theorem i5 (ha:PT X a tA):PW X (.BoolOp .Or [a] pos) tA:=by
 intro wh pins s σ H Q I h
 refine isTrue_or (thn (ha pins s σ H Q I h) fun c s1 e=>?_)
 cases c with
 | false=>exact isTrue_or_nil e
 | true=>exact e
theorem nv (ha:PT X a tA) (hb:PW X (.BoolOp .Or (b::rest) pos) tB'):PW X (.BoolOp .Or (a::b::rest) pos) (tOr tA tB'):=by
 intro wh pins s σ H Q I h
 refine isTrue_or (thn (ha pins s σ H _ I h) fun c s1 ⟨H1,I1,q1⟩=>?_)
 cases c with
 | true=>exact ⟨H1,I1,q1⟩
 | false=>exact hb wh pins s1 σ H1 Q I1 q1
theorem i6 (ha:PT X a tA):PT X (.UnaryOp .Not a pos) (tNot tA):=by
 intro pins s σ H Q I h
 exact isTrue_not (ha pins s σ H (fun c H1=>Q (!c) H1) I h)
def tAndV (ta tb:TE):TE:=fun σ H Q=>ta σ H fun x H1=>∃ c,x=.bl c∧if c=true then tb σ H1 Q else Q (.bl false) H1
theorem pj {op}{t:TE} (h:PE X a t):PE X (.BoolOp op [a] pos) t:=fun pins s σ H Q I hw=>BoolOp_one (h pins s σ H Q I hw)
theorem mt (ha:PE X a ta) (hb:PE X (.BoolOp .And (b::rest) pos) tb):PE X (.BoolOp .And (a::b::rest) pos) (tAndV ta tb):=by
 intro pins s σ H Q I h
 refine BoolOp_and (thn (ha pins s σ H _ I h) fun v s1 ⟨x,H1,I1,r1,q1⟩=>?_)
 obtain ⟨c,rfl,q1⟩:=q1
 cases r1
 refine wpAny_truthy_bool ?_
 cases c with
 | true=>exact hb pins s1 σ H1 Q I1 q1
 | false=>exact ⟨.bl false,H1,I1,rfl,q1⟩
def tIf (t:TT) (ta tb:TE):TE:=fun σ H Q=>t σ H fun c H1=>if c=true then ta σ H1 Q else tb σ H1 Q
theorem pe_ifExp {c:Expr} (hc:PT X c tA) (ha:PE X a ta) (hb:PE X b tb):PE X (.IfExp c a b pos) (tIf tA ta tb):=by
 intro pins s σ H Q I h
 refine wpAny_IfExp (thn (hc pins s σ H _ I h) fun d s1 ⟨H1,I1,q1⟩=>?_)
 cases d with
 | true=>exact ha pins s1 σ H1 Q I1 q1
 | false=>exact hb pins s1 σ H1 Q I1 q1
end
end L2
namespace L2
open PySem PySem.Spec PyProof.Rows
def SqL (K:PySem.W.Frag) (H:Hp) (a:Addr) (xs:List V):Prop :=
 Rd H a (.lst xs) ∨
  ∃ (o:Obj) (its:Array Value) (n:Nat),K.lookup a=some o∧o.cls=.type "list"∧o.dict=none∧o.data=.seq its n∧its.size≤sizeLine∧Vals xs its.toList
def SqT (K:PySem.W.Frag) (H:Hp) (a:Addr) (xs:List V):Prop :=
 Rd H a (.tup xs) ∨
  ∃ (o:Obj) (its:Array Value) (n:Nat),K.lookup a=some o∧o.cls=.type "tuple"∧o.data=.seq its n∧its.size≤sizeLine∧Vals xs its.toList
def absV:Value→Option V
 | .none=>some .non
 | .bool b=>some (.bl b)
 | .int i _=>some (.int i)
 | .str x _=>some (.str x)
 | .bytes b _=>some (.byt b)
 | .float b _=>some (.flt b)
 | .ref a=>some (.ref a)
 | .type n=>some (.ty n)
 | _=>none
theorem RelV.abs {x:V}{u:Value} (r:RelV x u):absV u=some x:=by
 cases x with
 | non=>cases r;rfl
 | bl _=>cases r;rfl
 | int _=>obtain ⟨t,rfl⟩:=r;rfl
 | str _=>obtain ⟨t,rfl⟩:=r;rfl
 | byt _=>obtain ⟨t,rfl⟩:=r;rfl
 | flt _=>obtain ⟨t,rfl⟩:=r;rfl
 | ref _=>cases r;rfl
 | ty _=>cases r;rfl
theorem RelV.inj {x y:V}{u:Value} (r:RelV x u) (q:RelV y u):x=y:=Option.some.inj (r.abs.symm.trans q.abs)
theorem Vals.inj:∀ {xs ys:List V}{us:List Value},Vals xs us→Vals ys us→xs=ys
 | _,_,_,.nil,.nil=>rfl
 | _,_,_,.cons r t,.cons r' t'=>by rw [r.inj r',Vals.inj t t']
section
variable {X:Cx}{pins:List (Addr×Obj)}{σ:St}{H:Hp}{s:Shared}{a:Addr}{xs ys:List V}
theorem SqL.of {K:PySem.W.Frag} (h:H a=some (.lst xs)):SqL K H a xs:=.inl (.inl h)
theorem SqT.of {K:PySem.W.Frag} (h:H a=some (.tup xs)):SqT K H a xs:=.inl (.inl h)
theorem Inv.list (I:Inv X pins σ H s) (h:SqL X.K H a xs):∃ its:List Value,Vals xs its∧PlainL s.heap a its.toArray∧xs.length≤sizeLine:=by
 rcases h with h | ⟨o,its,n,hk,hc,hd,hs,hz,r⟩
 ·obtain ⟨z,its,n,r,e⟩:=h.ok I.hok
  exact ⟨its,r,⟨_,n,e,rfl,rfl,rfl⟩,z⟩
 ·refine ⟨its.toList,r,⟨o,n,I.kIn a o hk,hc,hd,by simpa using hs⟩,?_⟩
  have e:=r.length
  simp only [Array.length_toList] at e
  omega
theorem Inv.tuple (I:Inv X pins σ H s) (h:SqT X.K H a xs):∃ its:List Value,Vals xs its∧IsTup s.heap a its.toArray∧xs.length≤sizeLine:=by
 rcases h with h | ⟨o,its,n,hk,hc,hs,hz,r⟩
 ·obtain ⟨z,its,r,p⟩:=h.ok I.hok
  exact ⟨its,r,p,z⟩
 ·refine ⟨its.toList,r,⟨o,I.kIn a o hk,hc,n,by simpa using hs⟩,?_⟩
  have e:=r.length
  simp only [Array.length_toList] at e
  omega
theorem Inv.list_inj (I:Inv X pins σ H s) (h:SqL X.K H a xs) (h':SqL X.K H a ys):xs=ys:=by
 obtain ⟨its,r,⟨o,n,e,_,_,d⟩,_⟩:=I.list h
 obtain ⟨its',r',⟨o',n',e',_,_,d'⟩,_⟩:=I.list h'
 rw [e] at e';cases e'
 rw [d] at d'
 injection d' with d1 _
 have:its=its':=by simpa using congrArg Array.toList d1
 subst this
 exact r.inj r'
end
abbrev Cx.wish (X:Cx) (E:Value→Shared→Prop):Cx:={ X with xe:=E }
abbrev Cx.nox (X:Cx):Cx:=X.wish fun _ _=>False
theorem Cx.Ok.wish {X:Cx} (ok:X.Ok) (E:Value→Shared→Prop):(X.wish E).Ok :=
 ⟨ok.mod,ok.kind,ok.glob,ok.blt,ok.above,ok.inj,ok.has,ok.cab,ok.hd,ok.frames,ok.stk,ok.exf,ok.bs,ok.bsz,ok.noex,ok.exfs,ok.funs,ok.frf⟩
theorem Cx.Ok.unwish {X:Cx}{E:Value→Shared→Prop} (ok:(X.wish E).Ok):X.Ok :=
 ⟨ok.mod,ok.kind,ok.glob,ok.blt,ok.above,ok.inj,ok.has,ok.cab,ok.hd,ok.frames,ok.stk,ok.exf,ok.bs,ok.bsz,ok.noex,ok.exfs,ok.funs,ok.frf⟩
section
variable {X:Cx}{pins:List (Addr×Obj)}{σ:St}{H:Hp}{s:Shared}{E:Value→Shared→Prop}
theorem Inv.wish (I:Inv X pins σ H s) (E:Value→Shared→Prop):Inv (X.wish E) pins σ H s:=⟨I.ok.wish E,I.os,I.bare,I.base,I.loc,I.cell,I.free,I.freeC,I.pin,I.hok,I.len⟩
theorem Inv.unwish (I:Inv (X.wish E) pins σ H s):Inv X pins σ H s:=⟨I.ok.unwish,I.os,I.bare,I.base,I.loc,I.cell,I.free,I.freeC,I.pin,I.hok,I.len⟩
theorem SP.unwish {D:ow}{f:Flow}{s':Shared} (h:SP (X.wish E) pins D f s'):SP X pins D f s':=by
 cases f with
 | next=>obtain ⟨σ',H',I,q⟩:=h;exact ⟨σ',H',I.unwish,q⟩
 | brk=>obtain ⟨σ',H',I,q⟩:=h;exact ⟨σ',H',I.unwish,q⟩
 | cont=>obtain ⟨σ',H',I,q⟩:=h;exact ⟨σ',H',I.unwish,q⟩
 | ret u=>obtain ⟨v,σ',H',I,r,q⟩:=h;exact ⟨v,σ',H',I.unwish,r,q⟩
theorem PSs.nox {st:List Stmt}{t:TS} (h:PSs X.nox st t):PSs X st t:=fun pins s σ H D I hw =>
 wpAny_mono (h pins s σ H D (I.wish _) hw) (fun _ _ q=>q.unwish) fun _ _ z=>False.elim z
end
section
variable {X:Cx}{st:Stmt}{rest:List Stmt}{t u:TS}{e:Expr}{te:TE}{pos:Pos}
def tNext:TS:=fun D σ H=>D.nx σ H
def tSeq (t u:TS):TS:=fun D σ H=>t { D with nx:=u D } σ H
theorem aO:PSs X [] tNext:=fun _ _ σ H _ I h=>wpAny_execs_nil ⟨σ,H,I,h⟩
theorem ae (h1:PS X st t) (h2:PSs X rest u):PSs X (st::rest) (tSeq t u):=by
 intro pins s σ H D I h
 refine wpAny_execs_cons (thn (h1 pins s σ H { D with nx:=u D } I h) fun f s1 q=>?_)
 cases f with
 | next =>
  obtain ⟨σ',H',I',q⟩:=q
  exact h2 pins s1 σ' H' D I' q
 | ret v=>exact q
 | brk=>exact q
 | cont=>exact q
theorem af (h1:PS X st t):PSs X [st] t:=by
 intro pins s σ H D I h
 refine wpAny_execs_cons (thn (h1 pins s σ H D I h) fun f s1 q=>?_)
 cases f with
 | next=>exact wpAny_execs_nil q
 | ret v=>exact q
 | brk=>exact q
 | cont=>exact q
theorem Inv.quiet {pins:List (Addr×Obj)}{σ:St}{H:Hp}{s:Shared} (I:Inv X pins σ H s):interactive X.env=false:=by simp [interactive,I.ok.kind]
def tDrop (te:TE):TS:=fun D σ H=>te σ H fun _ H1=>D.nx σ H1
theorem bv (he:PE X e te) (hs:swapsWith e none pos.line X.env=pure false:=by rfl):PS X (.Expr e pos) (tDrop te):=by
 intro pins s σ H D I h
 exact wpAny_Expr_any (thn (he pins s σ H _ I h) fun v s1 ⟨x,H1,I1,r1,q1⟩=>⟨σ,H1,I1,q1⟩) I.quiet hs
def tRet (te:TE):TS:=fun D σ H=>te σ H D.rt
theorem az (he:PE X e te):PS X (.Return (some e) pos) (tRet te):=by
 intro pins s σ H D I h
 exact wpAny_Return_some (thn (he pins s σ H _ I h) fun v s1 ⟨x,H1,I1,r1,q1⟩=>⟨x,σ,H1,I1,r1,q1⟩)
def tIfS (c:TT) (t u:TS):TS:=fun D σ H=>c σ H fun b H1=>if b=true then t D σ H1 else u D σ H1
theorem bR {c:Expr}{a b:List Stmt}{tc:TT} (hc:PT X c tc) (ha:PSs X a t) (hb:PSs X b u):PS X (.If c a b pos) (tIfS tc t u):=by
 intro pins s σ H D I h
 refine wpAny_If (thn (hc pins s σ H _ I h) fun d s1 ⟨H1,I1,q1⟩=>?_)
 cases d with
 | true=>exact ha pins s1 σ H1 D I1 q1
 | false=>exact hb pins s1 σ H1 D I1 q1
def tNever:TS:=fun _ _ _=>False
theorem jE:PS X st tNever:=fun _ _ _ _ _ _ h=>h.elim
end
abbrev TG:=V→St→Hp→(St→Hp→Prop)→Prop
abbrev TGs:=List V→St→Hp→(St→Hp→Prop)→Prop
def PG (X:Cx) (target:Expr) (t:TG):Prop :=
 ∀ (pins:List (Addr×Obj)) (s:Shared) (σ:St) (H:Hp) (v:V) (u:Value) (Q:St→Hp→Prop),Inv X pins σ H s→RelV v u→t v σ H Q →
  wpAny (model X.prog X.w) X.A (assign target X.env u) (fun _ s'=>∃ σ' H',Inv X pins σ' H' s'∧Q σ' H') X.xe s
def PGs (X:Cx) (ts:List Expr) (t:TGs):Prop :=
 ∀ (pins:List (Addr×Obj)) (s:Shared) (σ:St) (H:Hp) (vs:List V) (us:List Value) (Q:St→Hp→Prop),Inv X pins σ H s→Vals vs us→t vs σ H Q →
  wpAny (model X.prog X.w) X.A (assignInOrder ((assignEach ts X.env).map (·.2)) us) (fun _ s'=>∃ σ' H',Inv X pins σ' H' s'∧Q σ' H') X.xe s
abbrev TSet:=V→V→V→Hp→(Hp→Prop)→Prop
def PSet (X:Cx) (t:TSet):Prop :=
 ∀ (pins:List (Addr×Obj)) (s:Shared) (σ:St) (H:Hp) (o i v:V) (ov iv u:Value) (Q:Hp→Prop),Inv X pins σ H s→RelV o ov→RelV i iv→RelV v u→t o i v H Q →
  wpAny (model X.prog X.w) X.A (setItem ov iv u) (fun _ s'=>∃ H',Inv X pins σ H' s'∧Q H') X.xe s
abbrev TIp:=V→V→Hp→VK→Prop
def PIp (X:Cx) (op:Operator) (t:TIp):Prop :=
 ∀ (pins:List (Addr×Obj)) (s:Shared) (σ:St) (H:Hp) (x y:V) (v u:Value) (Q:VK),Inv X pins σ H s→RelV x v→RelV y u→t x y H Q →
  wpAny (model X.prog X.w) X.A (inplaceOp op v u) (EP X pins σ Q) X.xe s
section
variable {X:Cx}{pos:Pos}
def gName (i:Nat):TG:=fun v σ H Q=>Q (σ.set i (some v)) H
theorem au {i:Nat}{x:Str} (hN:X.N.Nodup) (hi:X.N[i]?=some x) (hx:Loc X.env.scope x) (hf:X.fn x=true∨X.env.scope.names.lookup x=some .local:=by first | exact .inl rfl | exact .inr rfl | assumption):PG X (.Name x pos) (gName i):=by
 intro pins s σ H v u Q I r h
 exact wpAny_assign_Name (fA I hN hi hx r (fun s' I'=>⟨_,H,I',h⟩) hf)
def gNil:TGs:=fun vs σ H Q=>vs=[]∧Q σ H
def gCons (t:TG) (u:TGs):TGs:=fun vs σ H Q=>∃ v r,vs=v::r∧t v σ H fun σ' H'=>u r σ' H' Q
theorem cv:PGs X [] gNil:=by
 intro pins s σ H vs us Q I r h
 obtain ⟨e,h⟩:=h
 subst e
 cases r
 exact assignInOrder_nil ⟨σ,H,I,h⟩
theorem aL {e:Expr}{es:List Expr}{t:TG}{u:TGs} (h1:PG X e t) (h2:PGs X es u)
  (hs:(assignEach (e::es) X.env).map (·.2)=assign e X.env::(assignEach es X.env).map (·.2):=by rfl):PGs X (e::es) (gCons t u):=by
 intro pins s σ H vs us Q I r h
 obtain ⟨v,vr,e1,h⟩:=h
 subst e1
 cases r with
 | cons r rr =>
  rw [hs]
  refine assignInOrder_cons (thn (h1 pins s σ H _ _ _ I r h) fun _ s1 ⟨σ1,H1,I1,q1⟩=>?_)
  exact h2 pins s1 σ1 H1 _ _ Q I1 rr q1
def gTup (K:PySem.W.Frag) (n:Nat) (t:TGs):TG:=fun v σ H Q=>∃ a xs,v=.ref a∧SqT K H a xs∧xs.length=n∧t xs σ H Q
theorem gm {es:List Expr}{k:Nat}{t:TGs}{n:Nat} (hc:X.calm=true) (h:PGs X es t)
  (hn:(assignEach es X.env).length=n:=by rfl) (hst:(assignEach es X.env).findIdx? (·.1)=none:=by rfl):PG X (.Tuple es k pos) (gTup X.K n t):=by
 intro pins s σ H v u Q I r hw
 obtain ⟨a,xs,e1,hq,hl,hw⟩:=hw
 subst e1
 cases r
 obtain ⟨its,rv,ht,hz⟩:=I.tuple hq
 refine assign_Tuple_tuple (I.ok.hd hc) ht (by simp [hn,← hl,rv.length]) hst fun h' hx=>?_
 have I1:Inv X pins σ H { s with heap:=h' }:=I.kept (t':=s.toks) fun b o e=>hx b o (Nat.ne_of_lt (Heap.lt_size e)) e
 exact h pins _ σ H xs _ Q I1 (by simpa using rv) hw
def gSub (to ti:TE) (t:TSet):TG:=fun v σ H Q=>to σ H fun o H1=>ti σ H1 fun i H2=>t o i v H2 fun H3=>Q σ H3
theorem pg_sub {o i:Expr}{to ti:TE}{t:TSet} (ho:PE X o to) (hi:PE X i ti) (hs:PSet X t)
  (ha:∀ v,assign (.Subscript o i pos) X.env v=(do
   let ov ← holding [v] (eval o X.env)
   let iv ← holding [v,ov] (eval i X.env)
   standAt pos
   holding [v,ov,iv] (setItem ov iv v)
   release [v,ov,iv] []):=by intro _;rfl):PG X (.Subscript o i pos) (gSub to ti t):=by
 intro pins s σ H v u Q I r h
 rw [ha]
 refine wpAny_bind (wpAny_holding (thn (ho pins s σ H _ I h) fun ov s1 ⟨x,H1,I1,r1,q1⟩=>?_))
 refine wpAny_bind (wpAny_holding (thn (hi pins s1 σ H1 _ I1 q1) fun iv s2 ⟨y,H2,I2,r2,q2⟩=>?_))
 refine wpAny_bind (wpAny_standAt (wpAny_bind (wpAny_holding (thn (hs pins s2 σ H2 x y v ov iv u _ I2 r1 r2 r q2) fun _ s3 ⟨H3,I3,q3⟩=>?_))))
 exact wpAny_release ⟨σ,H3,I3,q3⟩
def tAsg (te:TE) (g:TG):TS:=fun D σ H=>te σ H fun x H1=>g x σ H1 D.nx
theorem ps_asg {tg e:Expr}{te:TE}{g:TG} (he:PE X e te) (hg:PG X tg g) (hs:swapsWithSole [tg] e pos.line X.env=pure false:=by rfl) (hw:swappedStores [tg] e X.env=pure none:=by rfl)
  (h1:(assignEach [tg] X.env).map (·.2)=[assign tg X.env]:=by rfl):PS X (.Assign [tg] e pos) (tAsg te g):=by
 intro pins s σ H D I h
 refine wpAny_Assign_stores (thn (he pins s σ H _ I h) fun v s1 ⟨x,H1,I1,r1,q1⟩=>?_) hs hw
 rw [h1]
 exact thn (hg pins s1 σ H1 x v _ I1 r1 q1) fun _ s2 q=>q
theorem aJ {i:Nat}{x:Str}{e:Expr}{te:TE}{pos':Pos} (hN:X.N.Nodup) (hi:X.N[i]?=some x) (hx:Loc X.env.scope x) (he:PE X e te) (hs:swapsWith e (some (.Name x pos')) pos.line X.env=pure false:=by rfl) (hf:X.fn x=true∨X.env.scope.names.lookup x=some .local:=by first | exact .inl rfl | exact .inr rfl | assumption) :
  PS X (.Assign [.Name x pos'] e pos) (tAsg te (gName i)):=by
 intro pins s σ H D I h
 refine wpAny_Assign_Name (thn (he pins s σ H _ I h) fun v s1 ⟨y,H1,I1,r1,q1⟩=>?_) hs
 exact fA I1 hN hi hx r1 (fun s2 I2=>⟨_,H1,I2,q1⟩) hf
def tPar (i j:Nat) (ta:TA):TS:=fun D σ H=>ta σ H fun vs H1=>∃ v w,vs=[v,w]∧D.nx ((σ.set i (some v)).set j (some w)) H1
theorem ps_par {i j:Nat}{x y:Str}{a b:Expr}{ta:TA}{px py pt:Pos}{kt k2 pt2} (hc:X.calm=true) (hN:X.N.Nodup) (hi:X.N[i]?=some x) (hj:X.N[j]?=some y) (hij:i≠j)
  (hx:X.env.scope.names.lookup x=some .local) (hy:X.env.scope.names.lookup y=some .local) (ha:PA X [a,b] ta)
  (hw:swappedStores [.Tuple [.Name x px,.Name y py] kt pt] (.Tuple [a,b] k2 pt2) X.env=pure (some [x,y]))
  (hs:swapsWithSole [.Tuple [.Name x px,.Name y py] kt pt] (.Tuple [a,b] k2 pt2) pos.line X.env=pure false:=by rfl) :
  PS X (.Assign [.Tuple [.Name x px,.Name y py] kt pt] (.Tuple [a,b] k2 pt2) pos) (tPar i j ta):=by
 intro pins s σ H D I h
 rw [exec_Assign_arm]
 refine wpAny_bind (wpAny_standAt ?_)
 rw [hs]
 refine wpAny_bind (wpAny_pure ?_)
 rw [if_neg (by decide)]
 refine wpAny_bind (Tuple_ (thn (ha _ pins s σ H _ I h) fun us s1 ⟨vs,H1,I1,r1,q1⟩=>?_))
 obtain ⟨v,w,e1,q1⟩:=q1
 subst e1
 obtain ⟨u1,u2,rfl,rv,rw'⟩:∃ u1 u2,us=[u1,u2]∧RelV v u1∧RelV w u2:=by
  cases r1 with
  | cons p q =>
   cases q with
   | cons p' q' =>
    cases q'
    exact ⟨_,_,rfl,p,p'⟩
 refine wpAny_newObj_type ?_ (by show 2≤sizeLine;decide)
 have I2:Inv X pins σ H1 { s1 with heap:=s1.heap.push { cls:=.type "tuple",data:=.seq [u1,u2].toArray } }:=I1.kept (t':=s1.toks) fun b o e=>Heap.get?_push_of_some _ e
 rw [hw]
 refine wpAny_bind (wpAny_pure ?_)
 show wpAny (model X.prog X.w) X.A (do rule "assign.swapped-stores";let items ← unpackItems (.ref s1.heap.objs.size) 2 none;assignInOrder [fun v=>bindName X.env y v,fun v=>bindName X.env x v] items.reverse;pure Flow.next) _ _ _
 refine wpAny_bind (wpAny_rule (wpAny_bind (unpackItems_tuple (items:=#[u1,u2]) (I.ok.hd hc) (IsTup.new s1.heap _) fun h' hx'=>?_)))
 have I3:=I2.kept (h':=h') (t':=s1.toks) fun b o e=>hx' b o (Nat.ne_of_lt (Heap.lt_size e)) e
 show wpAny _ _ (assignInOrder [fun v=>bindName X.env y v,fun v=>bindName X.env x v] [u2,u1] >>= fun _=>pure Flow.next) _ _ _
 refine wpAny_bind (assignInOrder_cons (wpAny_bindName (fA I3 hN hj (.inl hy) rw' (fun s2 I4=>?_) (.inr hy))))
 refine assignInOrder_cons (wpAny_bindName (fA I4 hN hi (.inl hx) rv (fun s3 I5=>assignInOrder_nil (wpAny_pure ?_)) (.inr hx)))
 rw [List.set_comm _ _ (Ne.symm hij)] at I5
 exact ⟨_,H1,I5,q1⟩
def tAug (i:Nat) (te:TE) (ti:TIp):TS:=fun D σ H=>∃ x,σ[i]?=some (some x)∧te σ H fun y H1=>ti x y H1 fun z H2=>D.nx (σ.set i (some z)) H2
theorem ps_aug {i:Nat}{x:Str}{e:Expr}{te:TE}{op:Operator}{ti:TIp}{pos':Pos} (hN:X.N.Nodup) (hi:X.N[i]?=some x) (hx:Loc X.env.scope x) (he:PE X e te) (ho:PIp X op ti) (hf:X.fn x=true∨X.env.scope.names.lookup x=some .local:=by first | exact .inl rfl | exact .inr rfl | assumption) :
  PS X (.AugAssign (.Name x pos') op e pos) (tAug i te ti):=by
 intro pins s σ H D I h
 obtain ⟨v,e1,h⟩:=h
 obtain ⟨m,hn,hl⟩:=I.loc
 have vis:Vis X.env.scope x:=by rcases hx with k | k;exact .inl k;exact .inr (.inl k)
 obtain ⟨u,r,l⟩:=hl i x v hi e1 vis
 refine wpAny_AugAssign_Name ?_
 have go:wpAny (model X.prog X.w) X.A (eval e X.env) (fun w s₂=>wpAny (model X.prog X.w) X.A (inplaceOp op u w) (fun r s₃=>wpAny (model X.prog X.w) X.A (storeName X.env x r) (fun _=>SP X pins D .next) X.xe s₃) X.xe s₂) X.xe s:=by
  refine thn (he pins s σ H _ I h) fun w s1 ⟨y,H1,I1,r1,q1⟩=>?_
  refine thn (ho pins s1 σ H1 v y u w _ I1 r r1 q1) fun z s2 ⟨zv,H2,I2,r2,q2⟩=>?_
  exact fA I2 hN hi hx r2 (fun s3 I3=>⟨_,H2,I3,q2⟩) hf
 rcases l with ⟨hk,hm⟩ | ⟨hk,c,hc,hcell⟩
 ·exact wpAny_loadName_local I.ok.kind hk hn hm go
 ·rcases hk with hk | hk
  ·exact wpAny_loadName_cell I.ok.kind hk hc hcell go
  ·rcases hx with k | k
   ·have:X.env.scope.names.lookup x=some .free:=hk
    rw [k] at this;cases this
   ·have:X.env.scope.names.lookup x=some .free:=hk
    rw [k] at this;cases this
def ipI (f:Int→Int→Int):TIp:=fun x y H Q=>∃ i j,x=.int i∧y=.int j∧Q (.int (f i j)) H
theorem ip_add:PIp X .Add (ipI fun i j=>i+j):=by
 intro pins s σ H x y v u Q I r1 r2 h
 obtain ⟨i,j,e1,e2,q⟩:=h
 subst e1;subst e2
 obtain ⟨t,rfl⟩:=r1
 obtain ⟨t',rfl⟩:=r2
 exact iadd_int ⟨.int _,H,I.tok _,⟨_,rfl⟩,q⟩
end
section
variable {X:Cx}{pos:Pos}
end
structure It where
 go:Nat→Hp→Prop
 yld:Nat→Hp→V→Hp→Prop
 stop:Nat→Hp→Prop
def kO (X:Cx) (pins:List (Addr×Obj)) (H:Hp) (b:Addr):Prop :=
 H b=none∧b≠X.env.locals∧b∉X.fs∧(b∈X.ex∨X.s₀.heap.objs.size≤b)∧(∀ x c,X.env.cells.lookup x=some c→c≠b)∧∀ p∈X.pn++pins,p.1≠b
theorem Inv.fpOk {X:Cx}{pins:List (Addr×Obj)}{σ:St}{H H':Hp}{s:Shared}{b:Addr} (I:Inv X pins σ H s) (hb:s.heap.objs.size≤b) (hn:H' b=none):kO X pins H' b:=by
 refine ⟨hn,Nat.ne_of_gt (Nat.lt_of_lt_of_le I.lt hb),I.nofs hb,.inr (Nat.le_trans I.sz hb),fun x c e z=>?_,fun p hp z=>?_⟩
 ·obtain ⟨v,q⟩:=I.cell x c e
  exact absurd (Nat.lt_of_lt_of_le q.lt (by rw [z];exact hb)) (Nat.lt_irrefl _)
 ·exact absurd (Nat.lt_of_lt_of_le (Heap.lt_size (I.pin p hp).1) (by rw [z];exact hb)) (Nat.lt_irrefl _)
structure Turn (P:Program) (w:World) (K:PySem.W.Frag) (tg:Expr) (J:It) (fp:List Addr) (it:Addr) (tn:Nat→Heap→Prop):Prop where
 mem:it∈fp
 obj:∀ i h,tn i h→∀ b∈fp,∃ o,h.get? b=some o∧∀ v,o.data≠.cell v
 keep:∀ i h h',tn i h→(∀ b∈fp,∀ o,h.get? b=some o→h'.get? b=some o)→tn i h'
 item:∀ (X:Cx),X.prog=P→X.w=w→X.K=K→X.calm=true→∀ (i:Nat) (pins:List (Addr×Obj)) (s:Shared) (σ:St) (H:Hp) (E:Value→Shared→Prop),Inv X pins σ H s→(∀ b∈fp,kO X pins H b)→tn i s.heap→J.go i H →
  wpAny (model P w) X.A (pyNext (.ref it)) (fun r s1=>∃ u,r=some u ∧
   wpAny (model P w) X.A (letOwnedTupleGo tg (.ref it) u) (fun _ s2=>∃ x H',Inv X pins σ H' s2∧RelV x u∧J.yld i H x H'∧tn (i+1) s2.heap∧∀ b∈fp,H' b=none) E s1) E s
 done:∀ (X:Cx),X.prog=P→X.w=w→X.K=K→X.calm=true→∀ (i:Nat) (pins:List (Addr×Obj)) (s:Shared) (σ:St) (H:Hp) (E:Value→Shared→Prop),Inv X pins σ H s→(∀ b∈fp,kO X pins H b)→tn i s.heap→J.stop i H →
  wpAny (model P w) X.A (pyNext (.ref it)) (fun r s1=>r=none∧Inv X pins σ H s1) E s
 self:∀ (A:Around) (i:Nat) (s:Shared) (Q:Value→Shared→Prop) (E:Value→Shared→Prop),tn i s.heap→Q (.ref it) s→wpAny (model P w) A (pyIter (.ref it)) Q E s
abbrev TI:=St→Hp→(It→Hp→Prop)→Prop
def PIE (X:Cx) (pins:List (Addr×Obj)) (σ:St) (tg:Expr) (R:It→Hp→Prop) (itv:Value) (s2:Shared):Prop :=
 ∃ (it:Addr) (fp:List Addr) (tn:Nat→Heap→Prop) (J:It) (H':Hp),itv=.ref it∧Inv X pins σ H' s2∧Turn X.prog X.w X.K tg J fp it tn∧tn 0 s2.heap∧(∀ b∈fp,kO X pins H' b)∧R J H'
def PI (X:Cx) (tg iter:Expr) (wi:TI):Prop :=
 ∀ (pins:List (Addr×Obj)) (s:Shared) (σ:St) (H:Hp) (R:It→Hp→Prop),Inv X pins σ H s→wi σ H R →
  wpAny (model X.prog X.w) X.A (eval iter X.env) (fun v s1=>wpAny (model X.prog X.w) X.A (pyIter v) (PIE X pins σ tg R) X.xe s1) X.xe s
theorem go_of {M:Model}{A:Around}{E:Value→Shared→Prop}{s:Shared}{tg:Expr}{it:Addr}{u:Value}{o:Obj}{n:String}{vs:Array Value}{Q:Unit→Shared→Prop} (ho:s.heap.get? it=some o) (hc:o.cls=.type n) (hd:o.data=.fields vs)
    (hn:["enumerate","zip","dict_itemiterator","dict_reverseitemiterator","odict_iterator","itertools.zip_longest","itertools.pairwise"].contains n=false) (hQ:Q () s):wpAny M A (letOwnedTupleGo tg (.ref it) u) Q E s:=by
  unfold letOwnedTupleGo
  cases tg<;>first
    | exact wpAny_pure hQ
    | (cases u<;>first
        | exact wpAny_pure hQ
        | (refine wpAny_bind (wpAny_load ho ?_)
           rw [hc,hd]
           show wpAny M A (if (["enumerate","zip","dict_itemiterator","dict_reverseitemiterator","odict_iterator","itertools.zip_longest","itertools.pairwise"].contains n && vs[0]? == some (rawInt _))=true then _ else _) Q E s
           rw [if_neg (by intro h;rw [hn,Bool.false_and] at h;cases h)]
           exact wpAny_pure hQ))
def Itl (K:PySem.W.Frag) (a:Addr):It :=
 ⟨fun i H=>∃ xs x,SqL K H a xs∧xs[i]?=some x,fun i H x H'=>H'=H∧∀ xs,SqL K H a xs→xs[i]?=some x,fun i H=>∃ xs,SqL K H a xs∧xs.length≤i⟩
def Itr (lo:Int) (n:Nat):It:=⟨fun i _=>i<n,fun i H x H'=>H'=H∧x=.int (lo+i),fun i _=>n≤i⟩
theorem oN {P:Program}{w:World}{K:PySem.W.Frag}{tg:Expr} (a it:Addr):Turn P w K tg (Itl K a) [it] it (fun i h=>h.IsListIter it a i) where
 mem:=by simp
 obj:=fun i h st b hb=>by
  have e:b=it:=by simpa using hb
  subst e
  obtain ⟨o,e,c,d⟩:=st
  exact ⟨o,e,fun v z=>by rw [d] at z;cases z⟩
 keep:=fun i h h' st k=>st.at fun o e=>k it (by simp) o e
 item:=by
  intro X hP hw hK hc i pins s σ H E I hf st hg
  subst hP hw hK
  obtain ⟨xs,x,hq,hx⟩:=hg
  obtain ⟨its,rv,p,hz⟩:=I.list hq
  obtain ⟨u,hu,ru⟩:=rv.get hx
  obtain ⟨f0,f1,f2,f3,f4,f5⟩:=hf it (by simp)
  refine wpAny_pyNext_list_item st p.isList (x:=u) (by simpa using hu) fun h' st' sb=>?_
  have I1:Inv X pins σ H { s with heap:=h' }:=I.turned (t':=s.toks) (fun b o hb e=>(sb.2 b hb).trans e) f0 f1 f3 f4 f5
  obtain ⟨o,e,c,d⟩:=id st'
  exact ⟨u,rfl,go_of (s:={ s with heap:=h' }) e c d (by decide) ⟨x,H,I1,ru,⟨rfl,fun ys hy=>by rw [I.list_inj hy hq];exact hx⟩,st',fun b hb=>(hf b hb).1⟩⟩
 done:=by
  intro X hP hw hK hc i pins s σ H E I hf st hg
  subst hP hw hK
  obtain ⟨xs,hq,hx⟩:=hg
  obtain ⟨its,rv,p,hz⟩:=I.list hq
  obtain ⟨f0,f1,f2,f3,f4,f5⟩:=hf it (by simp)
  have hl:=rv.length
  exact wpAny_pyNext_list_end (I.ok.hd hc) st p.isList (by simp;omega) fun h' eb=>⟨rfl,I.turned (t':=s.toks) (fun b o hb e=>eb b o hb e) f0 f1 f3 f4 f5⟩
 self:=fun _ _ _ _ _ st h=>wpAny_pyIter_listiter st h
theorem nh {P:Program}{w:World}{K:PySem.W.Frag}{tg:Expr} (it:Addr) (lo:Int) (n:Nat):Turn P w K tg (Itr lo n) [it] it (fun i h=>IsRangeIter h it (lo+(i:Nat)*1) ((n:Int) - (i:Nat)) 1) where
 mem:=by simp
 obj:=fun i h st b hb=>by
  have e:b=it:=by simpa using hb
  subst e
  exact ⟨_,st,fun v z=>by
   have z':Data.fields _=Data.cell v:=z
   cases z'⟩
 keep:=fun i h h' st k=>k it (by simp) _ st
 item:=by
  intro X hP hw hK hc i pins s σ H E I hf st hg
  subst hP hw hK
  obtain ⟨f0,f1,f2,f3,f4,f5⟩:=hf it (by simp)
  have W:=Walks.range (prog:=X.prog) (w:=X.w) (I.ok.hd hc) it lo 1 n
  refine W.item i s _ _ hg st fun v h' tk hv st' kk=>?_
  obtain ⟨t,rfl⟩:=hv
  have I1:Inv X pins σ H { s with heap:=h',toks:=tk }:=I.turned (fun b o hb e=>kk b o (by simpa using hb) e) f0 f1 f3 f4 f5
  refine ⟨_,rfl,go_of (s:={ s with heap:=h',toks:=tk }) (n:="range_iterator") st' rfl rfl (by decide) ⟨.int (lo+i),H,I1,⟨t,?_⟩,⟨rfl,rfl⟩,st',fun b hb=>(hf b hb).1⟩⟩
  rw [Int.mul_one]
 done:=by
  intro X hP hw hK hc i pins s σ H E I hf st hg
  subst hP hw hK
  obtain ⟨f0,f1,f2,f3,f4,f5⟩:=hf it (by simp)
  exact wpAny_pyNext_range_end (I.ok.hd hc) st (by have:n≤i:=hg;omega) fun h' eb=>⟨rfl,I.turned (t':=s.toks) (fun b o hb e=>eb b o hb e) f0 f1 f3 f4 f5⟩
 self:=fun _ _ _ _ _ st h=>wpAny_pyIter_rangeiter st h
end L2
namespace L2
open PySem PySem.Spec PyProof.Rows
section
variable {X:Cx}{tg:Expr}
def iList (K:PySem.W.Frag) (tl:TE):TI:=fun σ H R=>tl σ H fun x H1=>∃ a,x=.ref a∧(∃ xs,SqL K H1 a xs)∧R (Itl K a) H1
theorem bL {l:Expr}{tl:TE} (hl:PE X l tl):PI X tg l (iList X.K tl):=by
 intro pins s σ H R I h
 refine thn (hl pins s σ H _ I h) fun v s1 ⟨x,H1,I1,r1,q1⟩=>?_
 obtain ⟨a,e,⟨xs,hq⟩,q⟩:=q1
 subst e
 cases r1
 obtain ⟨its,rv,p,hz⟩:=I1.list hq
 refine wpAny_pyIter_list p.isList ?_
 refine ⟨s1.heap.objs.size,[s1.heap.objs.size],_,_,H1,rfl,I1.kept (t':=s1.toks) fun b o e=>Heap.get?_push_of_some _ e,oN a _,⟨_,Heap.get?_push_size _ rfl,rfl,rfl⟩,fun b hb=>?_,q⟩
 have e:b=s1.heap.objs.size:=by simpa using hb
 subst e
 exact I1.fpOk (Nat.le_refl _) (I1.hok.fresh (Nat.le_refl _))
theorem mj {pins:List (Addr×Obj)}{σ:St}{H:Hp}{s:Shared}{R:It→Hp→Prop}{E:Value→Shared→Prop}{lo hi:Int}{t u v:Tok}{tk:Nat} (I:Inv X pins σ H s) (h1 : -(2 ^ 62)≤lo) (h2:lo<2 ^ 62) (h3 : -(2 ^ 62)≤hi) (h4:hi<2 ^ 62)
  (q:R (Itr lo (hi - lo).toNat) H):wpAny (model X.prog X.w) X.A (pyIter (.ref s.heap.objs.size)) (PIE X pins σ tg R) E { s with heap:=s.heap.push { cls:=.type "range",data:=.fields #[.int lo t,.int hi u,.int 1 v] },toks:=tk }:=by
 refine wpAny_pyIter_range (IsRange.new ..) (small_one h1 h2 h3 h4) ?_
 have I1:Inv X pins σ H { s with heap:=s.heap.push { cls:=.type "range",data:=.fields #[.int lo t,.int hi u,.int 1 v] },toks:=tk }:=I.kept fun b o e=>Heap.get?_push_of_some _ e
 refine ⟨(s.heap.push { cls:=.type "range",data:=.fields #[.int lo t,.int hi u,.int 1 v] }).objs.size,[(s.heap.push { cls:=.type "range",data:=.fields #[.int lo t,.int hi u,.int 1 v] }).objs.size],_,_,H,rfl,
  I1.kept (t':=tk) fun b o e=>Heap.get?_push_of_some _ e,nh _ lo (hi - lo).toNat,?_,fun b hb=>?_,q⟩
 ·have e1:lo+((0:Nat):Int)*1=lo:=by simp
  have e2:(((hi - lo).toNat:Nat):Int) - ((0:Nat):Int)=Builtin.Range.rangeSize lo hi 1:=by rw [rangeSize_one];split<;>omega
  show IsRangeIter _ _ (lo+((0:Nat):Int)*1) ((((hi - lo).toNat:Nat):Int) - ((0:Nat):Int)) 1
  rw [e1,e2]
  exact Heap.get?_push_size _ rfl
 ·have e:b=(s.heap.push { cls:=.type "range",data:=.fields #[.int lo t,.int hi u,.int 1 v] }).objs.size:=by simpa using hb
  subst e
  exact I1.fpOk (Nat.le_refl _) (I1.hok.fresh (Nat.le_refl _))
def iRng1 (ta:TA):TI:=fun σ H R=>ta σ H fun vs H1=>∃ j:Int,vs=[.int j]∧-(2 ^ 62)≤j∧j<2 ^ 62∧R (Itr 0 j.toNat) H1
def iRng2 (ta:TA):TI:=fun σ H R=>ta σ H fun vs H1=>∃ i j:Int,vs=[.int i,.int j]∧(-(2 ^ 62)≤i∧i<2 ^ 62∧-(2 ^ 62)≤j∧j<2 ^ 62)∧R (Itr i (j - i).toNat) H1
theorem c6 {a:Expr}{ta:TA}{p pos:Pos} (hg:Gl X "range") (hm:X.mg "range"=none) (ha:PA X [a] ta) (hs:starEach [a] X.env=[(false,eval a X.env)]:=by rfl):PI X tg (.Call (.Name "range" p) [a] [] pos) (iRng1 ta):=by
 intro pins s σ H R I h
 refine Call_ (eF I hg hm boot_range (PyProof.Rows.callWith_type1 (thn (ha pos pins s σ H _ I h) fun us s1 ⟨vs,H1,I1,r1,q1⟩=>?_) hs rfl))
 obtain ⟨j,e,q1,q2,q⟩:=q1
 subst e
 cases r1 with
 | cons r rr =>
  cases rr
  obtain ⟨t,rfl⟩:=r
  exact call_range_1 (mj I1 (by omega) (by omega) q1 q2 (by simpa using q))
theorem eA {a b:Expr}{ta:TA}{p pos:Pos} (hg:Gl X "range") (hm:X.mg "range"=none) (ha:PA X [a,b] ta) (hs:starEach [a,b] X.env=[(false,eval a X.env),(false,eval b X.env)]:=by rfl) (hs2:starEach [b] X.env=[(false,eval b X.env)]:=by rfl) :
  PI X tg (.Call (.Name "range" p) [a,b] [] pos) (iRng2 ta):=by
 intro pins s σ H R I h
 refine Call_ (eF I hg hm boot_range (PyProof.Rows.callWith_type1 (thn (ha pos pins s σ H _ I h) fun us s1 ⟨vs,H1,I1,r1,q1⟩=>?_) (by rw [hs,hs2]) (by rw [hs2];rfl)))
 obtain ⟨i,j,e,⟨q1,q2,q3,q4⟩,q⟩:=q1
 subst e
 cases r1 with
 | cons r rr =>
  cases rr with
  | cons r' rr =>
   cases rr
   obtain ⟨t,rfl⟩:=r
   obtain ⟨t',rfl⟩:=r'
   exact call_range_2 (mj I1 q1 q2 q3 q4 q)
def tFor (wi:TI) (g:TG) (tb:TS):TS:=fun D σ H=>wi σ H fun J H1=>∃ W:Nat→Nat→St→Hp→Prop,(∃ m,W 0 m σ H1)∧∀ i m σ H,W i m σ H →
 (J.stop i H∧D.nx σ H)∨(J.go i H∧∃ N:St→Hp→Prop,(∀ σ' H',N σ' H'→∃ m',m'<m∧W (i+1) m' σ' H')∧∀ x H',J.yld i H x H'→g x σ H' fun σ2 H2=>tb { D with nx:=N,ct:=N,bk:=D.nx } σ2 H2)
def kf (fp:List Addr) (h:Heap):List (Addr×Obj):=fp.filterMap fun b=>(h.get? b).map fun o=>(b,o)
theorem gd {fp:List Addr}{h:Heap}{b:Addr}{o:Obj} (hb:b∈fp) (e:h.get? b=some o):(b,o)∈kf fp h:=List.mem_filterMap.mpr ⟨b,hb,by rw [e];rfl⟩
theorem pG {fp:List Addr}{h:Heap}{p:Addr×Obj} (hp:p∈kf fp h):p.1∈fp∧h.get? p.1=some p.2:=by
 obtain ⟨b,hb,e⟩:=List.mem_filterMap.mp hp
 cases q:h.get? b with
 | none=>rw [q] at e;cases e
 | some o =>
  rw [q] at e
  have e':(b,o)=p:=Option.some.inj e
  subst e'
  exact ⟨hb,q⟩
theorem Inv.pinned {pins:List (Addr×Obj)}{σ:St}{H:Hp}{s:Shared}{fp:List Addr} (I:Inv X pins σ H s) (hf:∀ b∈fp,kO X pins H b) (ho:∀ b∈fp,∃ o,s.heap.get? b=some o∧∀ v,o.data≠.cell v):Inv X (pins++kf fp s.heap) σ H s :=
 I.pins_of fun p hp=>(List.mem_append.mp hp).elim (fun z=>I.pin p (List.mem_append_right _ z)) fun z=>by
  obtain ⟨hb,e⟩:=pG z
  obtain ⟨f0,f1,f2,_⟩:=hf p.1 hb
  obtain ⟨o,e',d⟩:=ho p.1 hb
  rw [e] at e';cases e'
  exact ⟨e,f0,f1,f2,d⟩
theorem Inv.unpinned {pins pl:List (Addr×Obj)}{σ:St}{H:Hp}{s:Shared} (I:Inv X (pins++pl) σ H s):Inv X pins σ H s:=I.pins_of fun p hp=>I.pin p (List.mem_append_right _ (List.mem_append_left _ hp))
theorem cq {iter:Expr}{body:List Stmt}{wi:TI}{g:TG}{tb:TS}{pos:Pos} (hp:PassesOwn (model X.prog X.w) X.A X.env X.xe) (hc:X.calm=true) (hi:PI X tg iter wi) (hg:PG X tg g) (hb:PSs X body tb)
  (hs:∀ x,foldedSetIterable iter X.env x=pure x:=by intro _;rfl):PS X (.For tg iter body [] pos) (tFor wi g tb):=by
 intro pins s σ H D I h
 refine wpAny_For (thn (hi pins s σ H _ I h) fun v s1 h1=>thn h1 fun itv s2 h2=>?_) hs
 obtain ⟨it,fp,tn,J,H2,e,I2,T,st2,f2,W,⟨m0,w0⟩,turn⟩:=h2
 subst e
 have stat:∀ {H':Hp},(∀ b∈fp,H' b=none)→∀ b∈fp,kO X pins H' b:=fun hn b hb=>⟨hn b hb,(f2 b hb).2⟩
 refine codeAny_forLoop_any (fun n s'=>∃ i σ' H',Inv X pins σ' H' s'∧tn i s'.heap∧(∀ b∈fp,H' b=none)∧W i n σ' H') ?_ m0 ⟨0,σ,H2,I2,st2,fun b hb=>(f2 b hb).1,w0⟩
 rintro n s3 ⟨i,σ3,H3,I3,st3,fr3,w3⟩
 rcases turn i n σ3 H3 w3 with ⟨stop,qn⟩ | ⟨go,N,hN,step⟩
 ·refine wpAny_passesOwn hp (thn (T.done X rfl rfl rfl hc i pins s3 σ3 H3 X.xe I3 (stat fr3) st3 stop) fun r s4 ⟨hr,I4⟩=>?_)
  subst hr
  exact wpAny_execs_nil ⟨σ3,H3,I4,qn⟩
 ·refine wpAny_passesOwn hp (thn (T.item X rfl rfl rfl hc i pins s3 σ3 H3 X.xe I3 (stat fr3) st3 go) fun r s4 ⟨u,hr,h4⟩=>?_)
  subst hr
  refine wpAny_passesOwn hp (thn h4 fun _ s5 ⟨x,H5,I5,r5,y5,st5,fr5⟩=>?_)
  have I5':=I5.pinned (stat fr5) (T.obj _ _ st5)
  refine wpAny_passesOwn hp (thn (hg _ s5 σ3 H5 x u _ I5' r5 (step x H5 y5)) fun _ s6 ⟨σ6,H6,I6,q6⟩=>?_)
  refine wpAny_passesOwn hp (thn (hb _ s6 σ6 H6 _ I6 q6) fun f s7 q7=>?_)
  have again:∀ {σ7:St}{H7:Hp},Inv X (pins++kf fp s5.heap) σ7 H7 s7→N σ7 H7→∃ m,m<n∧∃ i σ' H',Inv X pins σ' H' s7∧tn i s7.heap∧(∀ b∈fp,H' b=none)∧W i m σ' H':=fun {σ7 H7} I7 n7=>by
   obtain ⟨m',hm,w7⟩:=hN σ7 H7 n7
   refine ⟨m',hm,i+1,σ7,H7,I7.unpinned,T.keep _ _ _ st5 fun b hb o e=>(I7.pin (b,o) (List.mem_append_right _ (List.mem_append_right _ (gd hb e)))).1,fun b hb=>?_,w7⟩
   obtain ⟨o,e,d⟩:=T.obj _ _ st5 b hb
   exact (I7.pin (b,o) (List.mem_append_right _ (List.mem_append_right _ (gd hb e)))).2.1
  cases f with
  | next=>obtain ⟨σ7,H7,I7,n7⟩:=q7;exact again I7 n7
  | cont=>obtain ⟨σ7,H7,I7,n7⟩:=q7;exact again I7 n7
  | brk=>obtain ⟨σ7,H7,I7,q7⟩:=q7;exact ⟨σ7,H7,I7.unpinned,q7⟩
  | ret v=>obtain ⟨x7,σ7,H7,I7,r7,q7⟩:=q7;exact ⟨x7,σ7,H7,I7.unpinned,r7,q7⟩
end
theorem fQ {K:PySem.W.Frag}{a:Addr}{xs:List V}{g:TG}{tb:TS}{D:ow}{σ:St}{H:Hp} (Pv:Nat→St→Hp→Prop) (h0:Pv 0 σ H) (hl:∀ i σ H,i≤xs.length→Pv i σ H→SqL K H a xs)
  (hs:∀ i x σ H,xs[i]?=some x→Pv i σ H→g x σ H fun σ2 H2=>tb { D with nx:=Pv (i+1),ct:=Pv (i+1),bk:=D.nx } σ2 H2) (hd:∀ σ H,Pv xs.length σ H→D.nx σ H) :
  ∃ W:Nat→Nat→St→Hp→Prop,(∃ m,W 0 m σ H)∧∀ i m σ H,W i m σ H →
   ((Itl K a).stop i H∧D.nx σ H)∨((Itl K a).go i H∧∃ N:St→Hp→Prop,(∀ σ' H',N σ' H'→∃ m',m'<m∧W (i+1) m' σ' H')∧∀ x H',(Itl K a).yld i H x H'→g x σ H' fun σ2 H2=>tb { D with nx:=N,ct:=N,bk:=D.nx } σ2 H2):=by
 refine ⟨fun i m σ H=>m=xs.length - i∧i≤xs.length∧Pv i σ H,⟨xs.length,by simp,Nat.zero_le _,h0⟩,?_⟩
 rintro i m σ H ⟨rfl,hi,p⟩
 have q:=hl i σ H hi p
 by_cases hlt:i<xs.length
 ·refine .inr ⟨⟨xs,xs[i],q,by simp [hlt]⟩,Pv (i+1),fun σ' H' p'=>⟨xs.length - (i+1),by omega,rfl,hlt,p'⟩,fun x H' y=>?_⟩
  obtain ⟨e,y⟩:=y
  subst e
  exact hs i x σ _ (y xs q) p
 ·have e:i=xs.length:=by omega
  subst e
  exact .inl ⟨⟨xs,q,Nat.le_refl _⟩,hd σ H p⟩
theorem dC {lo:Int}{n:Nat}{g:TG}{tb:TS}{D:ow}{σ:St}{H:Hp} (Pv:Nat→St→Hp→Prop) (h0:Pv 0 σ H)
  (hs:∀ i σ H,i<n→Pv i σ H→g (.int (lo+i)) σ H fun σ2 H2=>tb { D with nx:=Pv (i+1),ct:=Pv (i+1),bk:=D.nx } σ2 H2) (hd:∀ σ H,Pv n σ H→D.nx σ H) :
  ∃ W:Nat→Nat→St→Hp→Prop,(∃ m,W 0 m σ H)∧∀ i m σ H,W i m σ H →
   ((Itr lo n).stop i H∧D.nx σ H)∨((Itr lo n).go i H∧∃ N:St→Hp→Prop,(∀ σ' H',N σ' H'→∃ m',m'<m∧W (i+1) m' σ' H')∧∀ x H',(Itr lo n).yld i H x H'→g x σ H' fun σ2 H2=>tb { D with nx:=N,ct:=N,bk:=D.nx } σ2 H2):=by
 refine ⟨fun i m σ H=>m=n - i∧i≤n∧Pv i σ H,⟨n,by simp,Nat.zero_le _,h0⟩,?_⟩
 rintro i m σ H ⟨rfl,hi,p⟩
 by_cases hlt:i<n
 ·refine .inr ⟨hlt,Pv (i+1),fun σ' H' p'=>⟨n - (i+1),by omega,rfl,hlt,p'⟩,fun x H' y=>?_⟩
  obtain ⟨e,y⟩:=y
  subst e y
  exact hs i σ _ hlt p
 ·have e:i=n:=by omega
  subst e
  exact .inl ⟨Nat.le_refl _,hd σ H p⟩
end L2
namespace L2
open PySem PySem.Spec PyProof.Rows
abbrev R2:=V→V→Hp→VK→Prop
def OpR (X:Cx) (f:Value→Value→Sem Value) (r:R2):Prop :=
 ∀ (pins:List (Addr×Obj)) (s:Shared) (σ:St) (H:Hp) (x y:V) (v u:Value) (Q:VK),Inv X pins σ H s→RelV x v→RelV y u→r x y H Q →
  wpAny (model X.prog X.w) X.A (f v u) (EP X pins σ Q) X.xe s
def UnR (X:Cx) (f:Value→Sem Value) (r:V→Hp→VK→Prop):Prop :=
 ∀ (pins:List (Addr×Obj)) (s:Shared) (σ:St) (H:Hp) (x:V) (v:Value) (Q:VK),Inv X pins σ H s→RelV x v→r x H Q →
  wpAny (model X.prog X.w) X.A (f v) (EP X pins σ Q) X.xe s
def CallR (X:Cx) (f:Value) (r:List V→Hp→VK→Prop):Prop :=
 ∀ (pins:List (Addr×Obj)) (s:Shared) (σ:St) (H:Hp) (xs:List V) (us:List Value) (Q:VK),Inv X pins σ H s→Vals xs us→r xs H Q →
  wpAny (model X.prog X.w) X.A (call f us) (EP X pins σ Q) X.xe s
def TruR (X:Cx) (r:V→Hp→(Bool→Hp→Prop)→Prop):Prop :=
 ∀ (pins:List (Addr×Obj)) (s:Shared) (σ:St) (H:Hp) (x:V) (v:Value) (Q:Bool→Hp→Prop),Inv X pins σ H s→RelV x v→r x H Q →
  wpAny (model X.prog X.w) X.A (truthy v) (TP X pins σ Q) X.xe s
def tOp (r:R2) (ta tb:TE):TE:=fun σ H Q=>ta σ H fun x H1=>tb σ H1 fun y H2=>r x y H2 Q
def rI (C:Int→Int→Prop) (g:Int→Int→V):R2:=fun x y H Q=>∃ i j,x=.int i∧y=.int j∧C i j∧Q (g i j) H
def rI0 (g:Int→Int→V):R2:=fun x y H Q=>∃ i j,x=.int i∧y=.int j∧Q (g i j) H
section
variable {X:Cx}{a b c:Expr}{ta tb tc:TE}{pos:Pos}
theorem binT (ha:PE X a ta) (hb:PE X b tb) {pins:List (Addr×Obj)}{s:Shared}{σ:St}{H:Hp}{R:V→V→Hp→Prop} (I:Inv X pins σ H s)
  (h:ta σ H fun x H1=>tb σ H1 fun y H2=>R x y H2) {Q:Value→Shared→Prop}{f:Value→Value→Sem Value}
  (hf:∀ v u s2 x y H2,Inv X pins σ H2 s2→RelV x v→RelV y u→R x y H2→wpAny (model X.prog X.w) X.A (f v u) Q X.xe s2) :
  wpAny (model X.prog X.w) X.A (eval a X.env) (fun v s₁=>wpAny (model X.prog X.w) X.A (eval b X.env) (fun u s₂=>wpAny (model X.prog X.w) X.A (f v u) Q X.xe s₂) X.xe s₁) X.xe s:=by
 refine thn (ha pins s σ H _ I h) fun v s1 ⟨x,H1,I1,r1,q1⟩=>?_
 refine thn (hb pins s1 σ H1 _ I1 q1) fun u s2 ⟨y,H2,I2,r2,q2⟩=>?_
 exact hf v u s2 x y H2 I2 r1 r2 q2
theorem aE {op:Operator}{r:R2} (ho:OpR X (binaryOp op) r) (ha:PE X a ta) (hb:PE X b tb):PE X (.BinOp a op b pos) (tOp r ta tb):=by
 intro pins s σ H Q I h
 exact wpAny_BinOp (binT ha hb I h fun v u s2 x y H2 I2 rx ry q=>ho pins s2 σ H2 x y v u Q I2 rx ry q)
theorem opI {f:Value→Value→Sem Value}{C:Int→Int→Prop}{g:Int→Int→Int}
  (rule:∀ (i j:Int) (t u:Tok) (s:Shared) (Q:Value→Shared→Prop) (E:Value→Shared→Prop),C i j→Q (.int (g i j) s.toks) { s with toks:=s.toks+1 }→wpAny (model X.prog X.w) X.A (f (.int i t) (.int j u)) Q E s) :
  OpR X f (rI C fun i j=>.int (g i j)):=by
 intro pins s σ H x y v u Q I rx ry h
 obtain ⟨i,j,rfl,rfl,hc,q⟩:=h
 obtain ⟨t,rfl⟩:=rx
 obtain ⟨t',rfl⟩:=ry
 exact rule i j t t' s _ _ hc ⟨.int (g i j),H,I.tok _,⟨_,rfl⟩,q⟩
theorem opI0 {f:Value→Value→Sem Value}{g:Int→Int→Int}
  (rule:∀ (i j:Int) (t u:Tok) (s:Shared) (Q:Value→Shared→Prop) (E:Value→Shared→Prop),Q (.int (g i j) s.toks) { s with toks:=s.toks+1 }→wpAny (model X.prog X.w) X.A (f (.int i t) (.int j u)) Q E s) :
  OpR X f (rI0 fun i j=>.int (g i j)):=by
 intro pins s σ H x y v u Q I rx ry h
 obtain ⟨i,j,rfl,rfl,q⟩:=h
 obtain ⟨t,rfl⟩:=rx
 obtain ⟨t',rfl⟩:=ry
 exact rule i j t t' s _ _ ⟨.int (g i j),H,I.tok _,⟨_,rfl⟩,q⟩
theorem opB0 {f:Value→Value→Sem Value}{g:Int→Int→Bool}
  (rule:∀ (i j:Int) (t u:Tok) (s:Shared) (Q:Value→Shared→Prop) (E:Value→Shared→Prop),Q (.bool (g i j)) s→wpAny (model X.prog X.w) X.A (f (.int i t) (.int j u)) Q E s) :
  OpR X f (rI0 fun i j=>.bl (g i j)):=by
 intro pins s σ H x y v u Q I rx ry h
 obtain ⟨i,j,rfl,rfl,q⟩:=h
 obtain ⟨t,rfl⟩:=rx
 obtain ⟨t',rfl⟩:=ry
 exact rule i j t t' s _ _ ⟨.bl (g i j),H,I,rfl,q⟩
def CDiv (i j:Int):Prop:=0<j∧j<1073741824
def CMul (i j:Int):Prop:=(-(2 ^ 64)<i∧i<2 ^ 64)∨(-(2 ^ 64)<j∧j<2 ^ 64)
theorem CMul.ok {i j:Int} (h:CMul i j):IntMulOk i j:=by
 rcases h with ⟨h1,h2⟩ | ⟨h1,h2⟩
 ·exact .of_left (intBits_le_64 h1 h2)
 ·exact .of_right (intBits_le_64 h1 h2)
theorem bM:OpR X (binaryOp .Add) (rI0 fun i j=>.int (i+j)):=opI0 fun _ _ _ _ _ _ _ q=>add_int q
theorem eC:OpR X (binaryOp .Sub) (rI0 fun i j=>.int (i - j)):=opI0 fun _ _ _ _ _ _ _ q=>sub_int q
theorem c8:OpR X (binaryOp .Mult) (rI CMul fun i j=>.int (i*j)):=opI fun _ _ _ _ _ _ _ hc q=>mul_int q hc.ok
theorem pq:OpR X (binaryOp .FloorDiv) (rI CDiv fun i j=>.int (i / j)):=opI fun i j _ _ _ _ _ hc q=>by
 have h1:(0:Int)<j:=hc.1
 have h2:j<1073741824:=hc.2
 exact floordiv_int (by omega) (by rw [Int.fdiv_eq_ediv_of_nonneg i (by omega)];exact q) (.inl (PyProof.noPylong_small (by omega)))
theorem bZ:OpR X (binaryOp .Mod) (rI (fun _ j=>0<j) fun i j=>.int (i%j)):=opI fun i j _ _ _ _ _ hc q=>by
 have h1:(0:Int)<j:=hc
 exact mod_int' (by omega) (by rw [Int.fmod_eq_emod_of_nonneg i (by omega)];exact q)
end
def scal:V→V→Bool
 | .non,.non=>true | .non,.int _=>true | .int _,.non=>true | .non,.bl _=>true | .bl _,.non=>true | .non,.str _=>true | .str _,.non=>true
 | .int _,.int _=>true | .bl _,.bl _=>true | .str _,.str _=>true | .byt _,.byt _=>true
 | .int _,.str _=>true | .str _,.int _=>true | .bl _,.str _=>true | .str _,.bl _=>true
 | _,_=>false
def rEq:R2:=fun x y H Q=>scal x y=true∧Q (.bl (decide (x=y))) H
def rNe:R2:=fun x y H Q=>scal x y=true∧Q (.bl (!decide (x=y))) H
theorem p8 {i j:Int}:decide (V.int i=V.int j)=(i == j):=by
 rw [Bool.eq_iff_iff]
 simp
theorem dec_bl {i j:Bool}:decide (V.bl i=V.bl j)=(i == j):=by
 rw [Bool.eq_iff_iff]
 simp
theorem p7 {i j:Str}:decide (V.str i=V.str j)=(i == j):=by
 rw [Bool.eq_iff_iff]
 simp
theorem qa {i j:Array UInt8}:decide (V.byt i=V.byt j)=(i.toList == j.toList):=by
 rw [Bool.eq_iff_iff]
 cases i
 cases j
 simp
section
variable {X:Cx}{a b c:Expr}{ta tb tc:TE}{pos:Pos}
theorem bc {pins:List (Addr×Obj)}{σ:St}{H:Hp}{s:Shared}{Q:VK}{k k':Bool} (I:Inv X pins σ H s) (q:Q (.bl k) H) (e:k=k'):EP X pins σ Q (.bool k') s:=by
 subst e
 exact ⟨.bl k,H,I,rfl,q⟩
theorem dA:OpR X (compareOp .Eq) rEq:=by
 intro pins s σ H x y v u Q I rx ry h
 obtain ⟨hs,q⟩:=h
 cases x with
 | non =>
  cases rx
  cases y with
  | non=>cases ry;exact PySem.EqNone.eq_none_none (bc I q (by simp))
  | bl j=>cases ry;exact PySem.EqNone.eq_none_bool (bc I q (by simp))
  | int j=>obtain ⟨t',rfl⟩:=ry;exact PySem.EqNone.eq_none_int (bc I q (by simp))
  | str j=>obtain ⟨t',rfl⟩:=ry;exact PySem.EqNone.eq_none_str (bc I q (by simp))
  | _=>exact absurd (show false=true from hs) Bool.false_ne_true
 | bl i =>
  cases rx
  cases y with
  | non=>cases ry;exact PySem.EqNone.eq_bool_none (bc I q (by simp))
  | bl j=>cases ry;exact eq_bool (bc I q dec_bl)
  | str j=>obtain ⟨t',rfl⟩:=ry;exact PySem.EqMixed.eq_bool_str (bc I q (by simp))
  | _=>exact absurd (show false=true from hs) Bool.false_ne_true
 | int i =>
  obtain ⟨t,rfl⟩:=rx
  cases y with
  | non=>cases ry;exact PySem.EqNone.eq_int_none (bc I q (by simp))
  | int j=>obtain ⟨t',rfl⟩:=ry;exact eq_int (bc I q p8)
  | str j=>obtain ⟨t',rfl⟩:=ry;exact PySem.EqMixed.eq_int_str (bc I q (by simp))
  | _=>exact absurd (show false=true from hs) Bool.false_ne_true
 | str i =>
  obtain ⟨t,rfl⟩:=rx
  cases y with
  | non=>cases ry;exact PySem.EqNone.eq_str_none (bc I q (by simp))
  | bl j=>cases ry;exact PySem.EqMixed.eq_str_bool (bc I q (by simp))
  | int j=>obtain ⟨t',rfl⟩:=ry;exact PySem.EqMixed.eq_str_int (bc I q (by simp))
  | str j=>obtain ⟨t',rfl⟩:=ry;exact eq_str (bc I q p7)
  | _=>exact absurd (show false=true from hs) Bool.false_ne_true
 | byt i =>
  obtain ⟨t,rfl⟩:=rx
  cases y with
  | byt j=>obtain ⟨t',rfl⟩:=ry;exact PySem.W.eq_bytes (bc I q qa)
  | _=>exact absurd (show false=true from hs) Bool.false_ne_true
 | _=>cases y<;>exact absurd (show false=true from hs) Bool.false_ne_true
theorem op_ne:OpR X (compareOp .NotEq) rNe:=by
 intro pins s σ H x y v u Q I rx ry h
 obtain ⟨hs,q⟩:=h
 cases x with
 | non =>
  cases rx
  cases y with
  | non=>cases ry;exact PySem.EqNone.ne_none_none (bc I q (by simp))
  | bl j=>cases ry;exact PySem.EqNone.ne_none_bool (bc I q (by simp))
  | int j=>obtain ⟨t',rfl⟩:=ry;exact PySem.EqNone.ne_none_int (bc I q (by simp))
  | str j=>obtain ⟨t',rfl⟩:=ry;exact PySem.EqNone.ne_none_str (bc I q (by simp))
  | _=>exact absurd (show false=true from hs) Bool.false_ne_true
 | bl i =>
  cases rx
  cases y with
  | non=>cases ry;exact PySem.EqNone.ne_bool_none (bc I q (by simp))
  | bl j=>cases ry;exact ne_bool (bc I q (congrArg not dec_bl))
  | str j=>obtain ⟨t',rfl⟩:=ry;exact PySem.EqMixed.ne_bool_str (bc I q (by simp))
  | _=>exact absurd (show false=true from hs) Bool.false_ne_true
 | int i =>
  obtain ⟨t,rfl⟩:=rx
  cases y with
  | non=>cases ry;exact PySem.EqNone.ne_int_none (bc I q (by simp))
  | int j=>obtain ⟨t',rfl⟩:=ry;exact ne_int (bc I q (congrArg not p8))
  | str j=>obtain ⟨t',rfl⟩:=ry;exact PySem.EqMixed.ne_int_str (bc I q (by simp))
  | _=>exact absurd (show false=true from hs) Bool.false_ne_true
 | str i =>
  obtain ⟨t,rfl⟩:=rx
  cases y with
  | non=>cases ry;exact PySem.EqNone.ne_str_none (bc I q (by simp))
  | bl j=>cases ry;exact PySem.EqMixed.ne_str_bool (bc I q (by simp))
  | int j=>obtain ⟨t',rfl⟩:=ry;exact PySem.EqMixed.ne_str_int (bc I q (by simp))
  | str j=>obtain ⟨t',rfl⟩:=ry;exact ne_str (bc I q (congrArg not p7))
  | _=>exact absurd (show false=true from hs) Bool.false_ne_true
 | byt i =>
  obtain ⟨t,rfl⟩:=rx
  cases y with
  | byt j=>obtain ⟨t',rfl⟩:=ry;exact PySem.W.ne_bytes (bc I q (congrArg not qa))
  | _=>exact absurd (show false=true from hs) Bool.false_ne_true
 | _=>cases y<;>exact absurd (show false=true from hs) Bool.false_ne_true
theorem lj:OpR X (compareOp .Lt) (rI0 fun i j=>.bl (decide (i<j))):=opB0 fun _ _ _ _ _ _ _ q=>lt_int q
theorem lq:OpR X (compareOp .LtE) (rI0 fun i j=>.bl (decide (i≤j))):=opB0 fun _ _ _ _ _ _ _ q=>le_int q
theorem op_gt:OpR X (compareOp .Gt) (rI0 fun i j=>.bl (decide (j<i))):=opB0 fun _ _ _ _ _ _ _ q=>gt_int q
theorem op_isN:OpR X (compareOp .Is) (fun x y H Q=>y=.non∧Q (.bl (decide (x=.non))) H):=by
 intro pins s σ H x y v u Q I rx ry h
 obtain ⟨rfl,q⟩:=h
 cases ry
 refine is_none_gen (bc I q ?_)
 cases x<;>first
  | (cases rx;rfl)
  | (obtain ⟨t,rfl⟩:=rx;rfl)
theorem aU (b:Expr) {op:CmpOp} (h:op≠.In:=by decide) (h2:op≠.NotIn:=by decide):behindInMarks op b=false:=by
 have e1:(op == CmpOp.In)=false:=by cases op<;>first | rfl | exact absurd rfl h
 have e2:(op == CmpOp.NotIn)=false:=by cases op<;>first | rfl | exact absurd rfl h2
 cases b<;>simp [behindInMarks,e1,e2]
theorem fg {op:CmpOp}{r:R2} (ho:OpR X (compareOp op) r) (ha:PE X a ta) (hb:PE X b tb) (hm:behindInMarks op b=false):PE X (.Compare a [op] [b] pos) (tOp r ta tb):=by
 intro pins s σ H Q I h
 exact wpAny_Compare1 (binT ha hb I h fun v u s2 x y H2 I2 rx ry q=>ho pins s2 σ H2 x y v u Q I2 rx ry q) hm
def tTest (t:TE):TT:=fun σ H Q=>t σ H fun x H'=>∃ k,x=.bl k∧Q k H'
theorem aK {op:CmpOp}{r:R2} (ho:OpR X (compareOp op) r) (ha:PE X a ta) (hb:PE X b tb) (hm:behindInMarks op b=false):PT X (.Compare a [op] [b] pos) (tTest (tOp r ta tb)):=by
 intro pins s σ H Q I h
 refine wpAny_isTrue_Compare1 (thn (ha pins s σ H _ I h) fun v s1 ⟨x,H1,I1,r1,q1⟩=>thn (hb pins s1 σ H1 _ I1 q1) fun u s2 ⟨y,H2,I2,r2,q2⟩ =>
  thn (ho pins s2 σ H2 x y v u _ I2 r1 r2 q2) fun c s3 ⟨z,H3,I3,r3,k,e,q3⟩=>?_) hm
 subst e
 cases r3
 exact wpAny_truthy_bool ⟨H3,I3,q3⟩
def tChain (r r':R2) (ta tb tc:TE):TE:=fun σ H Q=>ta σ H fun x H1=>tb σ H1 fun y H2=>r x y H2 fun z H3=>∃ k,z=.bl k ∧
 (if k=true then tc σ H3 fun w' H4=>r' y w' H4 Q else Q (.bl false) H3)
theorem gK {op op':CmpOp}{r r':R2} (ho:OpR X (compareOp op) r) (ho':OpR X (compareOp op') r') (ha:PE X a ta) (hb:PE X b tb) (hc:PE X c tc)
  (hm:lastMarks [op,op'] [b,c]=false:=by with_unfolding_all rfl):PE X (.Compare a [op,op'] [b,c] pos) (tChain r r' ta tb tc):=by
 intro pins s σ H Q I h
 refine Compare_chain (thn (ha pins s σ H _ I h) fun v s1 ⟨x,H1,I1,r1,q1⟩=>chain_link (thn (hb pins s1 σ H1 _ I1 q1) fun u s2 ⟨y,H2,I2,r2,q2⟩ =>
  thn (ho pins s2 σ H2 x y v u _ I2 r1 r2 q2) fun d s3 ⟨z,H3,I3,r3,k,e,q3⟩=>?_)) hm
 subst e
 cases r3
 refine wpAny_truthy_bool ?_
 cases k with
 | false=>exact ite_ff ⟨.bl false,H3,I3,rfl,q3⟩
 | true=>exact ite_tt (chain_last (thn (hc pins s3 σ H3 _ I3 q3) fun w' s4 ⟨z',H4,I4,r4,q4⟩=>ho' pins s4 σ H4 y z' u w' Q I4 r2 r4 q4))
theorem mE:(sizeLine:Nat)<2 ^ 63:=by rw [sizeLine_eq];decide
theorem vals1 {x:V}{us:List Value} (r:Vals [x] us):∃ u,us=[u]∧RelV x u:=by
 cases r with
 | cons r1 r2=>cases r2;exact ⟨_,rfl,r1⟩
theorem qo:CallR X (.type "int") (fun xs H Q=>(∃ i,xs=[.int i]∧Q (.int i) H)∨∃ k,xs=[.bl k]∧Q (.int (if k then 1 else 0)) H):=by
 intro pins s σ H xs us Q I r h
 rcases h with ⟨i,rfl,q⟩ | ⟨k,rfl,q⟩
 ·obtain ⟨u,rfl,t,rfl⟩:=vals1 r
  exact call_int_int ⟨.int i,H,I,⟨_,rfl⟩,q⟩
 ·obtain ⟨u,rfl,r1⟩:=vals1 r
  cases r1
  exact call_int_bool ⟨.int (if k then 1 else 0),H,I.tok _,⟨_,rfl⟩,q⟩
end
end L2
namespace L2
open PySem PySem.Spec PyProof.Rows
structure ObjM (h:Heap) (x dx C:Addr) (mA:Str→Option Value):Prop where
 obj:h.get? x=some (PySem.W.instObj C dx)
 ns:h.Ns1 dx mA
 ne:dx≠x
theorem pN {h:Heap}{dx:Addr}{mA:Str→Option Value} (n:h.Ns1 dx mA):∃ od,h.get? dx=some od∧∀ name,PySem.W.lookIn name od=some (mA name):=by
 obtain ⟨o,es,ep,ho,hd,hk,_,hm⟩:=n
 refine ⟨o,ho,fun name=>?_⟩
 have e:=hm name
 unfold nsFind findBy at e
 rw [← Array.find?_toList] at e
 unfold PySem.W.lookIn
 rw [hd]
 dsimp only
 split
 ·rename_i y q
  rw [q] at e
  exact congrArg some e
 ·rename_i q
  rw [q] at e
  have a:es.toList.any (·.refKey)=false:=by
   rw [List.any_eq_false]
   intro y hy
   obtain ⟨z,t,hkey⟩:=hk y (Array.mem_toList_iff.mp hy)
   simp [DictEntry.refKey,hkey]
  have a':¬ es.toList.any (·.refKey)=true:=by rw [a];exact Bool.false_ne_true
  rw [if_neg a']
  exact congrArg some e
theorem ObjM.look {h:Heap}{x dx C:Addr}{mA:Str→Option Value} (I:ObjM h x dx C mA):∃ od,PySem.W.InstAt h x (PySem.W.instObj C dx) C (some od)∧∀ name,PySem.W.lookIn name od=some (mA name) :=
 let ⟨od,ho,hl⟩:=pN I.ns
 ⟨od,⟨I.obj,rfl,rfl,ho⟩,hl⟩
section
variable {prog:Program}{w:World}{A:Around}{E:Value→Shared→Prop}{s:Shared}{K:PySem.W.Frag}{x dx C f:Addr}{mA:Str→Option Value}{name:Str}{v:Value}
theorem get_map {expr:Bool}{Q:Value→Shared→Prop} (X:K.In s.heap) (I:ObjM s.heap x dx C mA) (hg:PySem.W.plainGet K C name=true) (hh:PySem.W.hasDictIn K C=true)
  (ha:PySem.W.findIn K (.ref C) name=some none) (hv:mA name=some v) (hv':PySem.W.handedIn v=true) (h:Q v { s with toks:=s.toks+1 }) :
  wpAny (model prog w) A (getAttr (.ref x) name expr) Q E s:=by
 obtain ⟨od,J,hl⟩:=I.look
 exact PySem.W.get_value X J (PySem.W.plainGet_of hg).1 (PySem.W.findObj_own hh ha rfl (by rw [hl,hv])) hv' h
theorem get_meth {pl:Sem Bool}{Q:Value×List Value→Shared→Prop} (X:K.In s.heap) (I:ObjM s.heap x dx C mA) (hg:PySem.W.plainGet K C name=true)
  (hf:PySem.W.findIn K (.ref C) name=some (some (.ref f))) (ht:PySem.W.isFn K (.ref f)=true) (hv:mA name=none) (h:Q (.ref f,[.ref x]) s) :
  wpAny (model prog w) A (getMethod (.ref x) name pl) Q E s:=by
 obtain ⟨od,J,hl⟩:=I.look
 exact PySem.W.method_fn X J (PySem.W.plainGet_of hg).1 (PySem.W.plainGet_of hg).2 hf (beq_iff_eq.mp ht) (by show (PySem.W.lookIn name od).map (·.isSome)=some false;rw [hl,hv];rfl) h
theorem set_map {ns:List Str}{Q:Unit→Shared→Prop} (X:K.In s.heap) (I:ObjM s.heap x dx C mA)
  (hs:PySem.W.findIn K (.ref C) "__setattr__"=some (some (.builtin "object.__setattr__"))) (hp:PySem.W.plainOver K C=true) (ht:PySem.W.takerIn K C name=some none) (hh:PySem.W.hasDictIn K C=true)
  (hw:PySem.Within mA ns) (hsz:ns.length≤sizeLine)
  (h:∀ h',ObjM h' x dx C (fun y=>if y=name then some v else mA y)→Heap.SameBut dx s.heap h'→Q () { s with heap:=h',toks:=s.toks+2 }) :
  wpAny (model prog w) A (setAttr (.ref x) name v) Q E s:=by
 obtain ⟨od,J,hl⟩:=I.look
 refine PySem.W.set_plain X J hs (PySem.W.osa_open (s:={ s with toks:=s.toks+1 }) (r:=none) X J hp ht fun b=>?_)
 obtain ⟨cd,hc,hd'⟩:=PySem.W.any_some hh
 have hx:s.heap.get? x=some ⟨.ref C,some dx,.plain,#[]⟩:=I.obj
 refine wpAny_bind (wpAny_pure (wpAny_bind (wpAny_bind (wpAny_loadPart hx (wpAny_bind (PySem.W.Looks.here (s:={ s with toks:=s.toks+1 }) (PySem.W.looks_clsIn X hc) ?_))))))
 rw [hd']
 refine wpAny_pure (a:=some dx) (wpAny_bind (wpAny_pure (wpAny_bind ?_)))
 refine wpAny_nsSet1 (s:={ s with toks:=s.toks+1 }) I.ns fun h' hn2 hs2=>?_
 obtain ⟨oD,esD,epD,hoD,hdD,hcD⟩:=hn2.count (PySem.Within.cons name v hw)
 refine wpAny_bind (wpAny_lookBehind hoD (by rw [hdD];exact pastItsLine_dict (Nat.le_trans hcD (by rw [List.length_cons];omega))) ?_)
 exact wpAny_pure (h _ ⟨(hs2.2 _ (Ne.symm I.ne)).trans I.obj,hn2,I.ne⟩ hs2)
theorem make_map {R:Result→Shared→Prop}{vs:List Value}{kw:List (Str×Value)} (X:K.In s.heap) (hm:PySem.W.makesIn K C=true)
  (hi:PySem.W.findIn K (.ref C) "__init__"=some (some (.ref f))) (hf:PySem.W.typeIn K (.ref f)=some (.type "function"))
  (h:codeAny (model prog w) (A.under (.builtin "type.__call__" ⟨.ref C::vs,kw⟩)) (.call (.ref f) ⟨.ref (s.heap.objs.size+1)::vs,kw⟩) (PySem.W.InitBack (s.heap.objs.size+1) R)
   { s with heap:=(s.heap.push PySem.W.emptyDict).push (PySem.W.instObj C s.heap.objs.size) }) :
  codeAny (model prog w) A (.call (.ref C) ⟨vs,kw⟩) R s:=by
 obtain ⟨hh,g,d,t,os⟩:=s
 exact PySem.W.make_core (PySem.W.makes_of X hm) (PySem.W.looks_findIn X hi) (fun self=>PySem.W.bind_fn X self hf) (.inl rfl) h
end
def cZ (f:Str) (v:V):List (Str×V)→List (Str×V)
 | []=>[(f,v)]
 | (g,x)::r=>if g=f then (g,v)::r else (g,x)::cZ f v r
theorem bN (f g:Str) (v:V):∀ fs:List (Str×V),(cZ f v fs).lookup g=if g=f then some v else fs.lookup g
 | []=>by
  show List.lookup g [(f,v)]=_
  by_cases h:g=f
  ·have hb:(g == f)=true:=beq_iff_eq.mpr h
   simp only [List.lookup,hb,if_pos h]
  ·have hb:(g == f)=false:=beq_eq_false_iff_ne.mpr h
   simp only [List.lookup,hb,if_neg h]
 | (k,x)::r=>by
  have ih:=bN f g v r
  rw [show cZ f v ((k,x)::r)=(if k=f then (k,v)::r else (k,x)::cZ f v r) from rfl]
  by_cases hk:k=f
  ·rw [if_pos hk]
   by_cases h:g=k
   ·have hb:(g == k)=true:=beq_iff_eq.mpr h
    simp only [List.lookup,hb,if_pos (h.trans hk)]
   ·have hb:(g == k)=false:=beq_eq_false_iff_ne.mpr h
    simp only [List.lookup,hb,if_neg (fun e:g=f=>h (e.trans hk.symm))]
  ·rw [if_neg hk]
   by_cases h:g=k
   ·have hb:(g == k)=true:=beq_iff_eq.mpr h
    simp only [List.lookup,hb,if_neg (fun e:g=f=>hk (h.symm.trans e))]
   ·have hb:(g == k)=false:=beq_eq_false_iff_ne.mpr h
    simp only [List.lookup,hb]
    exact ih
theorem iy (f:Str) (v:V):∀ fs:List (Str×V),f∈(cZ f v fs).map (·.1)∧∀ g,g∈fs.map (·.1)→g∈(cZ f v fs).map (·.1)
 | []=>⟨by simp [cZ],fun g h=>by simp at h⟩
 | (k,x)::r=>by
  obtain ⟨i1,i2⟩:=iy f v r
  rw [show cZ f v ((k,x)::r)=(if k=f then (k,v)::r else (k,x)::cZ f v r) from rfl]
  by_cases hk:k=f
  ·rw [if_pos hk]
   subst hk
   exact ⟨by simp,fun g h=>by simpa using h⟩
  ·rw [if_neg hk]
   refine ⟨?_,fun g h=>?_⟩
   ·rw [List.map_cons]
    exact List.mem_cons_of_mem _ i1
   ·rw [List.map_cons] at h ⊢
    rcases List.mem_cons.mp h with e | e
    ·exact List.mem_cons.mpr (.inl e)
    ·exact List.mem_cons_of_mem _ (i2 g e)
theorem dP (f:Str) (v:V):∀ fs:List (Str×V),(cZ f v fs).length≤fs.length+1
 | []=>by simp [cZ]
 | (k,x)::r=>by
  have ih:=dP f v r
  rw [show cZ f v ((k,x)::r)=(if k=f then (k,v)::r else (k,x)::cZ f v r) from rfl]
  by_cases hk:k=f
  ·rw [if_pos hk,List.length_cons,List.length_cons];omega
  ·rw [if_neg hk,List.length_cons,List.length_cons];omega
theorem RelO.some_of {v:V}{o:Option Value} (r:RelO (some v) o):∃ u,o=some u∧RelV v u:=by
 cases o with
 | none=>exact (show False from r).elim
 | some u=>exact ⟨u,rfl,r⟩
theorem RelO.none_of {o:Option Value} (r:RelO none o):o=none:=by
 cases o with
 | none=>rfl
 | some u=>exact (show False from r).elim
theorem pW {v:V}{u:Value} (r:RelV v u):PySem.W.handedIn u=true:=by
 cases v with
 | non=>cases (show u=Value.none from r);rfl
 | bl b=>cases (show u=Value.bool b from r);rfl
 | int i=>obtain ⟨t,e⟩:=(show ∃ t,u=Value.int i t from r);cases e;rfl
 | str x=>obtain ⟨t,e⟩:=(show ∃ t,u=Value.str x t from r);cases e;rfl
 | byt b=>obtain ⟨t,e⟩:=(show ∃ t,u=Value.bytes b t from r);cases e;rfl
 | flt b=>obtain ⟨t,e⟩:=(show ∃ t,u=Value.float b t from r);cases e;rfl
 | ref a=>cases (show u=Value.ref a from r);rfl
 | ty n=>cases (show u=Value.type n from r);rfl
section
variable {P:Program}{w:World}{H H':Hp}{h h':Heap}{a C dx:Addr}{fs fs':List (Str×V)}
theorem lG (hok:HOk P w H h) (e:H a=some (.ins C dx fs)):∃ mA,ObjM h a dx C mA∧(∀ f,RelO (fs.lookup f) (mA f))∧PySem.Within mA (fs.map (·.1))∧fs.length≤1000∧H dx=some (.own a):=by
 obtain ⟨d,z,ne,ob,mA,n,r,q⟩:=(show ObjOk P w H h a (.ins C dx fs) from hok a _ e)
 exact ⟨mA,⟨ob,n,ne⟩,r,q,z,d⟩
end
structure Cls (K:PySem.W.Frag) (C:Addr):Prop where
 pg:PySem.W.plainGet K C Str.empty=true
 hd:PySem.W.hasDictIn K C=true
 po:PySem.W.plainOver K C=true
 sa:PySem.W.findIn K (.ref C) "__setattr__"=some (some (.builtin "object.__setattr__"))
theorem Cls.get {K:PySem.W.Frag}{C:Addr} (c:Cls K C) (f:Str):PySem.W.plainGet K C f=true:=c.pg
def NoAttr (K:PySem.W.Frag) (C:Addr) (f:Str):Prop:=PySem.W.findIn K (.ref C) f=some none
theorem NoAttr.taker {K:PySem.W.Frag}{C:Addr}{f:Str} (n:NoAttr K C f):PySem.W.takerIn K C f=some none:=by
 unfold PySem.W.takerIn
 rw [show PySem.W.findIn K (.ref C) f=some none from n]
 rfl
structure Con (K:PySem.W.Frag) (C:Addr) (f:Str) (v:V) (u:Value):Prop where
 at_:PySem.W.findIn K (.ref C) f=some (some u)
 rel:RelV v u
 get:PySem.W.specialIn K u "__get__"=some none
 cp:PySem.W.copiedNames.contains f=false
structure qw (K:PySem.W.Frag) (C:Addr) (m:Str) (f:Addr):Prop where
 at_:PySem.W.findIn K (.ref C) m=some (some (.ref f))
 fn:PySem.W.isFn K (.ref f)=true
 kp:PySem.W.keepIn K (.ref f)=true
section
variable {X:Cx}{pins:List (Addr×Obj)}{σ:St}{H:Hp}{s:Shared}{a C dx:Addr}{fs:List (Str×V)}{f:Str}{v:V}{A:Around}{E:Value→Shared→Prop}
theorem nY {b:Bool}{Q:Value→Shared→Prop} (I:Inv X pins σ H s) (e:H a=some (.ins C dx fs)) (c:Cls X.K C) (n:NoAttr X.K C f) (l:fs.lookup f=some v)
  (h:∀ u s',Inv X pins σ H s'→RelV v u→Q u s'):wpAny (model X.prog X.w) A (getAttr (.ref a) f b) Q E s:=by
 obtain ⟨mA,O,r,_,_,_⟩:=lG I.hok e
 obtain ⟨u,hu,ru⟩:=RelO.some_of (v:=v) (o:=mA f) (by rw [← l];exact r f)
 exact get_map I.kIn O (c.get f) c.hd n hu (pW ru) (h u _ (I.tok _) ru)
theorem jc {m:Str}{g:Addr}{pl:Sem Bool}{Q:Value×List Value→Shared→Prop} (I:Inv X pins σ H s) (e:H a=some (.ins C dx fs)) (c:Cls X.K C) (k:qw X.K C m g) (l:fs.lookup m=none)
  (h:Q (.ref g,[.ref a]) s):wpAny (model X.prog X.w) A (getMethod (.ref a) m pl) Q E s:=by
 obtain ⟨mA,O,r,_,_,_⟩:=lG I.hok e
 have hn:mA m=none:=RelO.none_of (by rw [← l];exact r m)
 exact get_meth I.kIn O (c.get m) k.at_ k.fn hn h
theorem nj {y:V}{u:Value}{Q:Unit→Shared→Prop} (I:Inv X pins σ H s) (e:H a=some (.ins C dx fs)) (c:Cls X.K C) (n:NoAttr X.K C f) (hl:fs.length<1000) (ry:RelV y u)
  (h:∀ s',Inv X pins σ (upd H a (.ins C dx (cZ f y fs))) s'→Q () s'):wpAny (model X.prog X.w) A (setAttr (.ref a) f u) Q E s:=by
 obtain ⟨mA,O,r,wi,_,ho⟩:=lG I.hok e
 have hz:(fs.map (·.1)).length≤sizeLine:=by rw [List.length_map,sizeLine_eq];omega
 refine set_map I.kIn O c.sa c.po n.taker c.hd wi hz fun h' O' sb=>h _ ?_
 have hd:∃ o,h'.get? dx=some o:=let ⟨o,_,_,e',_⟩:=O'.ns;⟨o,e'⟩
 refine I.write (x:=a) (e:=dx) (by rw [e];exact True.intro) (.inr ho) (fun b q hb z=>(sb.2 b hb).trans z) hd ?_
 refine ⟨by rw [ar O.ne];exact ho,?_,O.ne,O'.obj,_,O'.ns,fun g=>?_,fun g hg=>?_⟩
 ·have:=dP f y fs;omega
 ·show RelO ((cZ f y fs).lookup g) (if g=f then some u else mA g)
  rw [bN]
  by_cases q:g=f
  ·rw [if_pos q,if_pos q];exact ry
  ·rw [if_neg q,if_neg q];exact r g
 ·by_cases q:g=f
  ·rw [q];exact (iy f y fs).1
  ·refine (iy f y fs).2 g (wi g fun z=>hg ?_)
   show (if g=f then some u else mA g)=none
   rw [if_neg q];exact z
theorem Inv.made (I:Inv X pins σ H s):Inv X pins σ (upd (upd H s.heap.objs.size (.own (s.heap.objs.size+1))) (s.heap.objs.size+1) (.ins C s.heap.objs.size []))
  { s with heap:=(s.heap.push PySem.W.emptyDict).push (PySem.W.instObj C s.heap.objs.size) }:=by
 have e1:(s.heap.push PySem.W.emptyDict).get? s.heap.objs.size=some PySem.W.emptyDict:=Heap.get?_push_size s.heap rfl
 have e2:((s.heap.push PySem.W.emptyDict).push (PySem.W.instObj C s.heap.objs.size)).get? (s.heap.objs.size+1)=some (PySem.W.instObj C s.heap.objs.size):=by
  have:=Heap.get?_push_size (s.heap.push PySem.W.emptyDict) (o:=PySem.W.instObj C s.heap.objs.size) rfl
  rwa [Heap.size_push] at this
 have e3:(s.heap.push PySem.W.emptyDict).Ns s.heap.objs.size (fun _=>none):=⟨PySem.W.emptyDict,#[],_,e1,rfl,(fun e he=>absurd he (by simp)),fun _=>rfl⟩
 have I1:=I.laid (a:=s.heap.objs.size) (o:=.own (s.heap.objs.size+1)) (h':=s.heap.push PySem.W.emptyDict) (t':=s.toks) (fun b u q=>Heap.get?_push_of_some _ q) (Nat.le_refl _) ⟨_,e1⟩
 refine I1.laid (a:=s.heap.objs.size+1) (o:=.ins C s.heap.objs.size []) (t':=s.toks) (fun b u q=>Heap.get?_push_of_some _ q) (Nat.le_of_eq (Heap.size_push _ _)) ?_
 have ne:s.heap.objs.size≠s.heap.objs.size+1:=Nat.ne_of_lt (Nat.lt_succ_self _)
 refine ⟨by rw [ar ne,ad],Nat.zero_le _,ne,e2,fun _=>none,(Heap.Ns1.of_empty e3).at fun o q=>Heap.get?_push_of_some _ q,fun _=>True.intro,fun y hy=>absurd rfl hy⟩
theorem attr_of {prog:Program}{w:World}{env:Env}{e:Expr}{f:Str}{pos:Pos}{s:Shared}{Q:Value→Shared→Prop} (hb:attributeBase e f env (eval e env)=eval e env)
  (h:wpAny (model prog w) A (eval e env) (fun o s₁=>wpAny (model prog w) A (getAttr o f true) Q E s₁) E s):wpAny (model prog w) A (eval (.Attribute e f pos) env) Q E s :=
 Attribute_any_ h (by rw [arm_eval_Attribute,hb])
end
def tFld (K:PySem.W.Frag) (ta:TE) (f:Str):TE:=fun σ H Q=>ta σ H fun x H1=>∃ a C dx fs v,x=.ref a∧H1 a=some (.ins C dx fs)∧Cls K C∧NoAttr K C f∧fs.lookup f=some v∧Q v H1
def sFld (K:PySem.W.Frag) (ta tv:TE) (f:Str):TS:=fun D σ H=>tv σ H fun y H1=>ta σ H1 fun x H2=>∃ a C dx fs,x=.ref a∧H2 a=some (.ins C dx fs)∧Cls K C∧NoAttr K C f∧fs.length<1000 ∧
 D.nx σ (upd H2 a (.ins C dx (cZ f y fs)))
section
variable {X:Cx}{o e value:Expr}{f:Str}{pos pos' tpos:Pos}{ta tv:TE}
theorem aI (he:PE X e ta) (hb:attributeBase e f X.env (eval e X.env)=eval e X.env):PE X (.Attribute e f pos) (tFld X.K ta f):=by
 intro pins s σ H Q I h
 refine attr_of hb (thn (he pins s σ H _ I h) fun u s1 ⟨x,H1,I1,rx,a,C,dx,fs,v,ex,ea,c,n,l,q⟩=>?_)
 subst ex
 obtain rfl:u=Value.ref a:=rx
 exact nY I1 ea c n l fun u' s2 I2 ru=>⟨v,H1,I2,ru,q⟩
theorem fK (ha:PE X o ta) (hv:PE X value tv) (hs:swapsWith value (some (.Attribute o f pos')) pos.line X.env=pure false):PS X (.Assign [.Attribute o f pos'] value pos) (sFld X.K ta tv f):=by
 intro pins s σ H D I h
 refine plainObj_wpAny_Assign_Attribute (thn (hv pins s σ H _ I h) fun u s1 ⟨y,H1,I1,ry,q⟩=>thn (ha pins s1 σ H1 _ I1 q) fun ov s2 ⟨x,H2,I2,rx,a,C,dx,fs,ex,ea,c,n,l,q2⟩=>?_) hs
 subst ex
 obtain rfl:ov=Value.ref a:=rx
 exact nj I2 ea c n l ry fun s3 I3=>⟨σ,_,I3,q2⟩
end
section
variable {X:Cx}{pins:List (Addr×Obj)}{σ:St}{H:Hp}{s:Shared}{A:Around}{E:Value→Shared→Prop}{Q:Value→Shared→Prop}{c:Value}{b:Bool}
end
end L2
namespace L2
open PySem PySem.Spec PyProof.Rows
structure Room (k:Nat) (A:Around):Prop where
 hd:A.handled=none
 dp:A.depth+3*k+5<recursionLimit
 un:A.units+16*k+200<cLine
theorem Room.mono {j k:Nat}{A:Around} (r:Room k A) (h:j≤k):Room j A:=⟨r.hd,by have:=r.dp;omega,by have:=r.un;omega⟩
theorem Room.deeper {k:Nat}{A:Around} (r:Room (k+1) A) (env:Env):Room k (A.deeper env) :=
 ⟨r.hd,by have:=r.dp;show A.depth+1+3*k+5<_;omega,by have:=r.un;show A.units+3+16*k+200<_;omega⟩
theorem nR {A:Around}{C:Addr}{us:List Value}{kw:List (Str×Value)}:(A.under (.builtin "type.__call__" ⟨.ref C::us,kw⟩)).depth=A.depth+1:=by
 first | rfl | simp [Around.under,Code.weight,Code.isCreation,Code.isGuard,Code.isCaller,Code.frames,Code.isFrame,guardIds]
theorem nQ {A:Around}{C:Addr}{us:List Value}{kw:List (Str×Value)}:(A.under (.builtin "type.__call__" ⟨.ref C::us,kw⟩)).units=A.units+1:=by
 first | rfl | simp [Around.under,Code.cUnits,Code.frames,Code.isFrame]
theorem Room.make {k:Nat}{A:Around} (r:Room (k+1) A) (C:Addr) (us:List Value) (kw:List (Str×Value)):Room k (A.under (.builtin "type.__call__" ⟨.ref C::us,kw⟩)) :=
 ⟨r.hd,by have:=r.dp;rw [nR];omega,by have:=r.un;rw [nQ];omega⟩
theorem Room.depth {k:Nat}{A:Around} (r:Room k A):A.depth<recursionLimit:=by have:=r.dp;omega
theorem Room.units {k:Nat}{A:Around} (r:Room k A):A.units+64<cLine:=by have:=r.un;omega
def tNil:TA:=fun _ H Q=>Q [] H
def tCons (ta:TE) (tr:TA):TA:=fun σ H Q=>ta σ H fun x H1=>tr σ H1 fun xs H2=>Q (x::xs) H2
section
variable {X:Cx}{e:Expr}{es:List Expr}{te:TE}{t:TA}{pos:Pos}
theorem ac:PA X [] tNil:=fun _ _ _ _ H Q I h=>Calls.spliced_nil ⟨[],H,I,.nil,h⟩
theorem aa (ha:PE X e te) (hr:PA X es t) (hs:starEach (e::es) X.env=(false,eval e X.env)::starEach es X.env:=by rfl):PA X (e::es) (tCons te t):=by
 intro pos pins s σ H Q I h
 rw [hs]
 show wpAny _ _ (spliced ((false,eval e X.env)::backTo pos (starEach es X.env))) _ _ s
 refine Calls.spliced_cons (thn (ha pins s σ H _ I h) fun u s1 ⟨x,H1,I1,r1,q1⟩=>?_)
 exact thn (hr pos pins s1 σ H1 _ I1 q1) fun us s2 ⟨xs,H2,I2,r2,q2⟩=>⟨x::xs,H2,I2,.cons r1 r2,q2⟩
def tTup (t:TA):TE:=fun σ H Q=>t σ H fun xs H1=>xs.length≤sizeLine∧∀ p,H1 p=none→Q (.ref p) (upd H1 p (.tup xs))
def tLst (t:TA):TE:=fun σ H Q=>t σ H fun xs H1=>xs.length≤sizeLine∧∀ p,H1 p=none→Q (.ref p) (upd H1 p (.lst xs))
theorem c7 {x1} (h:PA X es t):PE X (.Tuple es x1 pos) (tTup t):=by
 intro pins s σ H Q I hq
 refine wpAny_Tuple_spliced (thn (h pos pins s σ H _ I hq) fun us s1 ⟨xs,H1,I1,r,z,q⟩=>⟨by rw [← r.length];exact z,?_⟩)
 have hf:H1 s1.heap.objs.size=none:=I1.hok.fresh (Nat.le_refl _)
 refine ⟨.ref s1.heap.objs.size,upd H1 s1.heap.objs.size (.tup xs),I1.laid (t':=s1.toks) (fun b u e=>Heap.get?_push_of_some _ e) (Nat.le_refl _) ?_,rfl,q _ hf⟩
 exact ⟨z,us,r,⟨_,Heap.get?_push_size _ rfl,rfl,_,rfl⟩⟩
theorem bw (h:PA X es t):PE X (.List es pos) (tLst t):=by
 intro pins s σ H Q I hq
 refine wpAny_List_spliced (thn (h pos pins s σ H _ I hq) fun us s1 ⟨xs,H1,I1,r,z,q⟩=>⟨by rw [← r.length];exact z,?_⟩)
 have hf:H1 s1.heap.objs.size=none:=I1.hok.fresh (Nat.le_refl _)
 refine ⟨.ref s1.heap.objs.size,upd H1 s1.heap.objs.size (.lst xs),I1.laid (t':=s1.toks) (fun b u e=>Heap.get?_push_of_some _ e) (Nat.le_refl _) ?_,rfl,q _ hf⟩
 exact ⟨z,us,0,r,Heap.get?_push_size _ rfl⟩
end
abbrev Sp:=List V→Hp→VK→XK→Prop
abbrev CXT:=List Env→Hp→Shared→XK→Value→Shared→Prop
structure Env0 (P:Program) (w:World) (K:PySem.W.Frag) (mg:Str→Option Value) (base:Heap) (A:Around) (outer:List Env) (s:Shared) (H:Hp):Prop where
 frames:A.frames=some outer
 mod:Mod K mg base
 bs:∀ b o,base.get? b=some o→s.heap.get? b=some o∧H b=none
 bsz:base.objs.size≤s.heap.objs.size
 funs:s.heap.FunFrames base outer
 frf:∀ b∈frs outer,H b=none
 hok:HOk P w H s.heap
 bare:AllBare s.gens
def CE (outer:List Env) (P:Program) (w:World) (H:Hp) (s:Shared) (Q:VK) (u:Value) (s':Shared):Prop :=
 ∃ v H',s'.os=s.os∧AllBare s'.gens∧Un (frs outer) [] H H' s.heap s'.heap∧HOk P w H' s'.heap∧RelV v u∧Q v H'
def CR (CX:CXT) (outer:List Env) (P:Program) (w:World) (H:Hp) (s:Shared) (Q:VK) (E:XK) (r:Result) (s':Shared):Prop :=
 match r with
 | .ok (.ret u)=>CE outer P w H s Q u s'
 | .ok _=>False
 | .error e=>CX outer H s E e s'
structure gD (P:Program) (w:World) (K:PySem.W.Frag) (mg:Str→Option Value) (base:Heap) (CX:CXT) (k:Nat) (f:Addr) (fd:FuncData) (ps:List Str) (sp:Sp):Prop where
 len:∀ vs H Q E,sp vs H Q E→vs.length=ps.length
 run:∀ (A:Around) (outer:List Env) (s:Shared) (H:Hp) (args:Args) (us:List Value) (vs:List V) (Q:VK) (E:XK),Room k A→Env0 P w K mg base A outer s H→BindsTo s fd args (ps.zip us)→Vals vs us→sp vs H Q E →
  codeAny (model P w) A (.call (.ref f) args) (CR CX outer P w H s Q E) s
theorem Env0.make {P:Program}{w:World}{K:PySem.W.Frag}{mg:Str→Option Value}{base:Heap}{A:Around}{outer:List Env}{s:Shared}{H:Hp} (e:Env0 P w K mg base A outer s H) (C:Addr) (us:List Value) (kw:List (Str×Value)) :
  Env0 P w K mg base (A.under (.builtin "type.__call__" ⟨.ref C::us,kw⟩)) outer s H:=⟨by first | exact e.frames | (simpa [Around.under,Code.envs,Code.isFrame,pushEnvs] using e.frames),e.mod,e.bs,e.bsz,e.funs,e.frf,e.hok,e.bare⟩
section
variable {X:Cx}{pins:List (Addr×Obj)}{σ:St}{H:Hp}{s s':Shared}
theorem Inv.env0 (I:Inv X pins σ H s):Env0 X.prog X.w X.K X.mg X.base X.A X.stack s H :=
 ⟨I.ok.frames,I.ok.mod,I.bs,Nat.le_trans I.ok.bsz I.sz,I.stack,I.stkFree,I.hok,I.bare⟩
theorem Inv.after {Q:VK}{u:Value} (I:Inv X pins σ H s) (h:CE X.stack X.prog X.w H s Q u s'):EP X pins σ Q u s':=by
 obtain ⟨v,H',os,bare,un,hok,r,q⟩:=h
 obtain ⟨hh,g,d,t,os'⟩:=s'
 obtain rfl:os'=s.os:=os
 exact ⟨v,H',I.call (h':=hh) (g':=g) (d':=d) (t':=t) (ch:=[]) un hok bare (fun b z=>absurd z (by simp)),r,q⟩
end
def tCall (sp:Sp) (dvs:List V) (E:XK) (t:TA):TE:=fun σ H Q=>t σ H fun vs H1=>sp (vs++dvs) H1 Q E
def tMeth (C:Addr) (m:Str) (sp:Sp) (dvs:List V) (E:XK) (ta:TE) (t:TA):TE:=fun σ H Q=>ta σ H fun x H1=>∃ a dx fs,x=.ref a∧H1 a=some (.ins C dx fs)∧fs.lookup m=none ∧
 t σ H1 fun vs H2=>sp (x::(vs++dvs)) H2 Q E
def tMake (C:Addr) (sp:Sp) (dvs:List V) (E:XK) (t:TA):TE:=fun σ H Q=>t σ H fun vs H1=>∀ x dx,H1 x=none→H1 dx=none→dx≠x →
 sp (.ref x::(vs++dvs)) (upd (upd H1 dx (.own x)) x (.ins C dx [])) (fun v H2=>v=.non∧Q (.ref x) H2) E
def Binds (K:PySem.W.Frag) (fd:FuncData) (ps:List Str) (ds:List Value):Prop :=
 ∀ (s:Shared) (us:List Value),K.In s.heap→(us++ds).length=ps.length→BindsTo s fd ⟨us,[]⟩ (ps.zip (us++ds))
theorem Binds.all {K:PySem.W.Frag}{fd:FuncData}{ps:List Str} (h:∀ us:List Value,us.length=ps.length→bindArgs fd ⟨us,[]⟩=pure (ps.zip us)):Binds K fd ps []:=fun s us _ hl=>by
 rw [List.append_nil] at hl ⊢
 exact .of_eq (h us hl)
def gr (CX:CXT) (X:Cx) (E:XK):Prop:=∀ (pins:List (Addr×Obj)) (σ:St) (H:Hp) (s:Shared) (e:Value) (s':Shared),Inv X pins σ H s→CX X.stack H s E e s'→X.xe e s'
section
variable {X:Cx}{CX:CXT}{k:Nat}{f C:Addr}{fd:FuncData}{ps:List Str}{sp:Sp}{dvs:List V}{ds:List Value}{E:XK}{x m:Str}{p pos apos:Pos}{e o:Expr}{es:List Expr}{ta:TE}{t:TA}
theorem o7 {pins:List (Addr×Obj)}{σ:St}{H:Hp}{s:Shared}{Q:VK}{us:List Value}{vs:List V} (F:gD X.prog X.w X.K X.mg X.base CX k f fd ps sp) (hr:Room k X.A) (hb:Binds X.K fd ps ds) (hd:Vals dvs ds) (hx:gr CX X E)
  (I:Inv X pins σ H s) (r:Vals vs us) (h:sp (vs++dvs) H Q E):wpAny (model X.prog X.w) X.A (call (.ref f) us) (EP X pins σ Q) X.xe s:=by
 have r2:Vals (vs++dvs) (us++ds):=r.append hd
 have hl:(us++ds).length=ps.length:=by rw [← r2.length];exact F.len _ _ _ _ h
 refine wpAny_call (codeAny_mono (F.run X.A X.stack s H ⟨us,[]⟩ (us++ds) (vs++dvs) Q E hr I.env0 (hb s us I.kIn hl) r2 h) fun r s' hq=>?_)
 cases r with
 | error e=>exact hx pins σ H s e s' I hq
 | ok fl =>
  cases fl with
  | ret u=>exact I.after hq
  | next=>exact False.elim hq
  | brk=>exact False.elim hq
  | cont=>exact False.elim hq
theorem pk (F:gD X.prog X.w X.K X.mg X.base CX k f fd ps sp) (hr:Room k X.A) (hg:Gl X x) (hm:X.mg x=some (.ref f)) (hk:PySem.W.keepIn X.K (.ref f)=true) (hb:Binds X.K fd ps ds) (hd:Vals dvs ds) (hx:gr CX X E)
  (ha:PA X (e::es) t) (hdb:(x == ("__debug__":Str))=false:=by decide) (he:starEach (e::es) X.env=(false,eval e X.env)::starEach es X.env:=by rfl) (hpl:(backTo pos (starEach es X.env)).any (·.1)=false:=by rfl) :
  PE X (.Call (.Name x p) (e::es) [] pos) (tCall sp dvs E t):=by
 intro pins s σ H Q I h
 refine wpAny_Call_Name_kw (jL I hg hm ?_ hdb)
 refine PySem.W.callWith_K (h₀:=X.base) I.ok.mod.kin hk (thn (ha pos pins s σ H _ I h) fun us s1 ⟨vs,H1,I1,r,q⟩=>⟨I1.kIn,?_⟩) he hpl
 exact o7 F hr hb hd hx I1 r q
theorem pe_meth {pl:Sem Bool} (he:PE X o ta) (c:Cls X.K C) (hm:qw X.K C m f) (F:gD X.prog X.w X.K X.mg X.base CX k f fd ps sp) (hr:Room k X.A) (hb:Binds X.K fd ps ds) (hd:Vals dvs ds) (hx:gr CX X E) (ha:PA X (e::es) t)
  (hst:starEach (e::es) X.env=(false,eval e X.env)::starEach es X.env:=by rfl) (hpl:(backTo pos (starEach es X.env)).any (·.1)=false:=by rfl)
  (ht:eval (.Call (.Attribute o m apos) (e::es) [] pos) X.env=(do
   let ov ← eval o X.env
   standAt apos.atName
   let (f,first) ← holding [ov] (getMethod ov m pl)
   callWith pos f first (backTo pos (starEach (e::es) X.env)) (backToKw pos (keywordEach [] X.env))):=by rfl) :
  PE X (.Call (.Attribute o m apos) (e::es) [] pos) (tMeth C m sp dvs E ta t):=by
 intro pins s σ H Q I h
 refine PySem.W.methodCall_KW (pl:=pl) (thn (he pins s σ H _ I h) fun u s1 ⟨x,H1,I1,rx,a,dx,fs,ex,ea,l,q⟩=>?_) ht
 subst ex
 obtain rfl:u=Value.ref a:=rx
 refine jc I1 ea c hm l ?_
 refine PySem.W.callWith_K (first:=[.ref a]) (h₀:=X.base) I.ok.mod.kin hm.kp (thn (ha pos pins s1 σ H1 _ I1 q) fun us s2 ⟨vs,H2,I2,r,q2⟩=>⟨I2.kIn,?_⟩) hst hpl
 exact o7 (us:=.ref a::us) (vs:=.ref a::vs) F hr hb hd hx I2 (.cons rfl r) q2
theorem pe_meth0 {pl:Sem Bool} (he:PE X o ta) (c:Cls X.K C) (hm:qw X.K C m f) (F:gD X.prog X.w X.K X.mg X.base CX k f fd ps sp) (hr:Room k X.A) (hb:Binds X.K fd ps ds) (hd:Vals dvs ds) (hx:gr CX X E)
  (ht:eval (.Call (.Attribute o m apos) [] [] pos) X.env=(do
   let ov ← eval o X.env
   standAt apos.atName
   let (f,first) ← holding [ov] (getMethod ov m pl)
   callWith pos f first (backTo pos (starEach [] X.env)) (backToKw pos (keywordEach [] X.env))):=by rfl) :
  PE X (.Call (.Attribute o m apos) [] [] pos) (tMeth C m sp dvs E ta tNil):=by
 intro pins s σ H Q I h
 refine PySem.W.methodCall_KW (pl:=pl) (thn (he pins s σ H _ I h) fun u s1 ⟨x,H1,I1,rx,a,dx,fs,ex,ea,l,q⟩=>?_) ht
 subst ex
 obtain rfl:u=Value.ref a:=rx
 refine jc I1 ea c hm l ?_
 exact PySem.W.callWith_K0 (first:=[.ref a]) I1.kIn hm.kp (o7 (us:=[.ref a]) (vs:=[.ref a]) F hr hb hd hx I1 (.cons rfl .nil) q)
structure Mk (K:PySem.W.Frag) (C f:Addr):Prop where
 makes:PySem.W.makesIn K C=true
 init:PySem.W.findIn K (.ref C) "__init__"=some (some (.ref f))
 fn:PySem.W.isFn K (.ref f)=true
 kp:PySem.W.keepIn K (.ref C)=true
theorem run_make {pins:List (Addr×Obj)}{σ:St}{H:Hp}{s:Shared}{Q:VK}{us:List Value}{vs:List V} (M:Mk X.K C f) (F:gD X.prog X.w X.K X.mg X.base CX k f fd ps sp) (hr:Room (k+1) X.A) (hb:Binds X.K fd ps ds) (hd:Vals dvs ds)
  (hx:gr CX X E) (I:Inv X pins σ H s) (r:Vals vs us)
  (h:∀ x dx,H x=none→H dx=none→dx≠x→sp (.ref x::(vs++dvs)) (upd (upd H dx (.own x)) x (.ins C dx [])) (fun v H2=>v=.non∧Q (.ref x) H2) E) :
  wpAny (model X.prog X.w) X.A (call (.ref C) us) (EP X pins σ Q) X.xe s:=by
 have hq:=h (s.heap.objs.size+1) s.heap.objs.size (I.hok.fresh (Nat.le_succ _)) (I.hok.fresh (Nat.le_refl _)) (Nat.ne_of_lt (Nat.lt_succ_self _))
 have I2:=Inv.made (C:=C) I
 have r2:Vals (V.ref (s.heap.objs.size+1)::(vs++dvs)) (Value.ref (s.heap.objs.size+1)::(us++ds)):=.cons rfl (r.append hd)
 have hl:(Value.ref (s.heap.objs.size+1)::us++ds).length=ps.length:=by
  have e:=r2.length
  rw [F.len _ _ _ _ hq] at e
  exact e.symm
 refine wpAny_call (make_map (f:=f) I.kIn M.makes M.init (beq_iff_eq.mp M.fn) (codeAny_mono (F.run _ X.stack _ _ ⟨Value.ref (s.heap.objs.size+1)::us,[]⟩ (Value.ref (s.heap.objs.size+1)::(us++ds)) _ _ E (hr.make C us [])
  (I2.env0.make C us []) (hb _ (Value.ref (s.heap.objs.size+1)::us) I2.kIn hl) r2 hq) fun r s' hq'=>?_))
 cases r with
 | error e=>exact hx pins σ _ _ e s' I2 hq'
 | ok fl =>
  cases fl with
  | ret u =>
   obtain ⟨v,H',I3,rv,ev,q3⟩:=I2.after hq'
   subst ev
   exact ⟨rv,⟨V.ref (s.heap.objs.size+1),H',I3,rfl,q3⟩⟩
  | next=>exact False.elim hq'
  | brk=>exact False.elim hq'
  | cont=>exact False.elim hq'
theorem pe_make (M:Mk X.K C f) (F:gD X.prog X.w X.K X.mg X.base CX k f fd ps sp) (hr:Room (k+1) X.A) (hg:Gl X x) (hm:X.mg x=some (.ref C)) (hb:Binds X.K fd ps ds) (hd:Vals dvs ds) (hx:gr CX X E)
  (ha:PA X (e::es) t) (hdb:(x == ("__debug__":Str))=false:=by decide) (he:starEach (e::es) X.env=(false,eval e X.env)::starEach es X.env:=by rfl) (hpl:(backTo pos (starEach es X.env)).any (·.1)=false:=by rfl) :
  PE X (.Call (.Name x p) (e::es) [] pos) (tMake C sp dvs E t):=by
 intro pins s σ H Q I h
 refine wpAny_Call_Name_kw (jL I hg hm ?_ hdb)
 refine PySem.W.callWith_K (h₀:=X.base) I.ok.mod.kin M.kp (thn (ha pos pins s σ H _ I h) fun us s1 ⟨vs,H1,I1,r,q⟩=>⟨I1.kIn,?_⟩) he hpl
 exact run_make M F hr hb hd hx I1 r q
end
section
variable {X:Cx}{CX:CXT}{k:Nat}{f C:Addr}{fd:FuncData}{ps ks:List Str}{sp:Sp}{E:XK}{x m:Str}{p pos apos kpos:Pos}{e o:Expr}{es:List Expr}{kws:List Keyword}{te ta:TE}{t tk:TA}{nm:Option Str}
structure KBinds (K:PySem.W.Frag) (fd:FuncData) (ps ks:List Str) (g:List Value→List Value→List Value) (gV:List V→List V→List V):Prop where
 to:∀ (s:Shared) (us ws:List Value),K.In s.heap→(g us ws).length=ps.length→BindsTo s fd ⟨us,ks.zip ws⟩ (ps.zip (g us ws))
 rel:∀ {vs:List V}{us:List Value}{zs:List V}{ws:List Value},Vals vs us→Vals zs ws→Vals (gV vs zs) (g us ws)
variable {g:List Value→List Value→List Value}{gV:List V→List V→List V}
end
structure aq (N P:List Str) (sc:Scope):Prop where
 kind:sc.kind=.function
 co:sc.isCoroutine=false
 gen:sc.isGenerator=false
 nd:N.Nodup
 pre:N.take P.length=P
 par:∀ x∈P,sc.names.lookup x=some .local∨sc.names.lookup x=some .cell
 nofree:∀ y∈sc.names,y.2≠.free
theorem kK {kindOf:Str→Option NameKind}{x:Str}:∀ {binds:List (Str×Value)}{m:Str→Option Value},(∀ v,(x,v)∉binds)→bindL kindOf binds m x=m x
 | [],_,_=>rfl
 | (n,v)::r,m,h=>by
  unfold bindL
  rw [kK fun w hw=>h w (List.mem_cons_of_mem _ hw)]
  split
  ·have:x≠n:=by rintro rfl;exact h v List.mem_cons_self
   simp [this]
  ·rfl
theorem kM {kindOf:Str→Option NameKind}{x:Str}:∀ {binds:List (Str×Value)}{m:Str→Option Value},(∀ v,(x,v)∉binds)→bindC kindOf binds m x=m x
 | [],_,_=>rfl
 | (n,v)::r,m,h=>by
  unfold bindC
  rw [kM fun w hw=>h w (List.mem_cons_of_mem _ hw)]
  split
  ·rfl
  ·have:x≠n:=by rintro rfl;exact h v List.mem_cons_self
   simp [this]
theorem kL {kindOf:Str→Option NameKind}{x:Str}{v:Value}:∀ {P:List Str}{vs:List Value}{i:Nat}{m:Str→Option Value},P.Nodup→P[i]?=some x→vs[i]?=some v→kindOf x=some .local →
  bindL kindOf (P.zip vs) m x=some v
 | [],_,_,_,_,h,_,_=>by simp at h
 | _::_,[],_,_,_,_,h,_=>by simp at h
 | p::P,w::vs,0,m,nd,h1,h2,hk=>by
  simp at h1 h2;subst h1;subst h2
  show bindL kindOf ((p,w)::P.zip vs) m p=_
  unfold bindL
  rw [kK fun v hv=>(List.nodup_cons.mp nd).1 (List.of_mem_zip hv).1,if_pos hk]
  simp
 | p::P,w::vs,i+1,m,nd,h1,h2,hk=>by
  show bindL kindOf ((p,w)::P.zip vs) m x=_
  unfold bindL
  exact kL (i:=i) (List.nodup_cons.mp nd).2 (by simpa using h1) (by simpa using h2) hk
theorem kN {kindOf:Str→Option NameKind}{x:Str}{v:Value}:∀ {P:List Str}{vs:List Value}{i:Nat}{m:Str→Option Value},P.Nodup→P[i]?=some x→vs[i]?=some v→kindOf x≠some .local →
  bindC kindOf (P.zip vs) m x=some v
 | [],_,_,_,_,h,_,_=>by simp at h
 | _::_,[],_,_,_,_,h,_=>by simp at h
 | p::P,w::vs,0,m,nd,h1,h2,hk=>by
  simp at h1 h2;subst h1;subst h2
  show bindC kindOf ((p,w)::P.zip vs) m p=_
  unfold bindC
  rw [kM fun v hv=>(List.nodup_cons.mp nd).1 (List.of_mem_zip hv).1,if_neg hk]
  simp
 | p::P,w::vs,i+1,m,nd,h1,h2,hk=>by
  show bindC kindOf ((p,w)::P.zip vs) m x=_
  unfold bindC
  exact kN (i:=i) (List.nodup_cons.mp nd).2 (by simpa using h1) (by simpa using h2) hk
def start (N:List Str) (vs:List V):St:=vs.map some++List.replicate (N.length - vs.length) none
def gC (CX:CXT) (P:Program) (w:World) (K:PySem.W.Frag) (mg:Str→Option Value) (base:Heap) (N:List Str) (qual:Str) (scope:Scope) (f:Addr) (cd:Value) (A:Around) (outer:List Env) (s:Shared) (H:Hp) (E:XK):Cx where
 prog:=P
 w:=w
 K:=K
 mg:=mg
 base:=base
 A:=A.deeper (envOfC qual scope s.heap.objs.size f cd)
 N:=N
 s₀:=s
 H₀:=H
 env:=envOfC qual scope s.heap.objs.size f cd
 outer:=outer
 stack:=envOfC qual scope s.heap.objs.size f cd::outer
 ex:=[]
 calm:=true
 fn:=fun _=>true
 pn:=[]
 xe:=fun e s'=>wpAny (model P w) (A.deeper (envOfC qual scope s.heap.objs.size f cd)) (leaving (envOfC qual scope s.heap.objs.size f cd) e) (fun _ s''=>CX outer H s E e s'') (fun e' s''=>CX outer H s E e' s'') s'
theorem mW {sc:Scope}{n:Nat}{x:Str} (h:sc.names.lookup x=some .cell):∃ c,(cellsFrom n sc.names []).lookup x=some c:=by
 have q:=PySem.W.cellsFrom_some sc.names n [] (.inl h)
 exact Option.isSome_iff_exists.mp q
theorem pU {CX:CXT}{P:Program}{w:World}{K:PySem.W.Frag}{mg:Str→Option Value}{base:Heap}{N ps:List Str}{qual:Str}{scope:Scope}{f:Addr}{cd:Value}{A:Around}{outer:List Env}{s s1:Shared}{H:Hp}{E:XK}{us:List Value}{vs:List V}
  (S:aq N ps scope) (hd:A.handled=none) (e0:Env0 P w K mg base A outer s H) (hl:vs.length=ps.length) (r:Vals vs us)
  (x:InCallC s s.heap.objs.size (bindL (envOfC qual scope s.heap.objs.size f cd).kindOf (ps.zip us) fun _=>none) (cellsFrom (s.heap.objs.size+1) scope.names []) (bindC (envOfC qual scope s.heap.objs.size f cd).kindOf (ps.zip us) fun _=>none) s1) :
  Inv (gC CX P w K mg base N qual scope f cd A outer s H E) [] (start N vs) H s1:=by
 have hpl:ps.length≤N.length:=by have:=congrArg List.length S.pre;rw [List.length_take] at this;omega
 obtain ⟨h1,tk,rfl,hk⟩:=x.done
 have noA:∀ b:Addr,b∉(gC CX P w K mg base N qual scope f cd A outer s H E).ex:=fun b z=>absurd (show b∈([]:List Addr) from z) (by simp)
 refine ⟨⟨e0.mod,S.kind,rfl,rfl,Nat.le_refl _,fun y z c h1 h2=>?_,fun y hy=>?_,fun y c _ h=>?_,fun _=>hd,Around.frames_deeper e0.frames,.inr ⟨rfl,rfl⟩,fun b z=>absurd z (noA b),e0.bs,e0.bsz,fun b _ _=>noA b,fun b z=>absurd z (noA b),e0.funs,e0.frf⟩,
  rfl,e0.bare,Un.kept hk,⟨_,x.toInCall.ns,fun i y v h1 h2 h3=>?_⟩,fun y c h=>⟨_,x.cell y c h⟩,e0.hok.fresh (Nat.le_refl _),fun y c h=>?_,fun p hp=>absurd (show p∈([]:List (Addr×Obj)) from hp) (by simp),e0.hok.kept hk,?_⟩
 ·exact name_of_addr x.apart (PySem.mem_of_lookup h1) (PySem.mem_of_lookup h2)
 ·have hy:scope.names.lookup y=some .cell∨scope.names.lookup y=some .free:=hy
  rcases hy with hy | hy
  ·exact mW hy
  ·exact absurd rfl (S.nofree _ (PySem.mem_of_lookup hy))
 ·exact Nat.le_of_lt (x.above y c (PySem.mem_of_lookup h))
 ·have hi:i<vs.length:=by
   unfold start at h2
   by_cases hi:i<vs.length
   ·exact hi
   ·rw [List.getElem?_append_right (by simpa using hi)] at h2
    rw [List.getElem?_replicate] at h2
    split at h2<;>cases h2
  have ha:vs[i]?=some v:=by
   unfold start at h2
   rw [List.getElem?_append_left (by simpa using hi),List.getElem?_map] at h2
   cases e:vs[i]? with
   | none=>rw [e] at h2;cases h2
   | some a=>rw [e] at h2;cases h2;rfl
  obtain ⟨u,hu,rv⟩:=r.get ha
  have hp:ps[i]?=some y:=by
   rw [← S.pre,List.getElem?_take_of_lt (by omega)];exact h1
  have ndP:ps.Nodup:=by rw [← S.pre];exact S.nd.sublist (List.take_sublist _ _)
  refine ⟨u,rv,?_⟩
  rcases S.par y (List.mem_of_getElem? hp) with k | k
  ·exact .inl ⟨k,kL ndP hp hu k⟩
  ·obtain ⟨c,e⟩:=mW (n:=s.heap.objs.size+1) k
   refine .inr ⟨.inl k,c,e,?_⟩
   have q:=x.cell y c e
   rw [kN ndP hp hu (by show scope.names.lookup y≠_;rw [k];decide)] at q
   exact q
 ·exact e0.hok.fresh (Nat.le_of_lt (x.above y c (PySem.mem_of_lookup h)))
 ·unfold start
  show _=N.length
  rw [List.length_append,List.length_map,List.length_replicate]
  omega
theorem fn_of {CX:CXT}{P:Program}{w:World}{K:PySem.W.Frag}{mg:Str→Option Value}{base:Heap}{k:Nat}{f:Addr}{name qual:Str}{params:Arguments}{body:List Stmt}{scope:Scope}{dV kV doc pm cdv ct oc:Value}{an od:Option Addr}
  {osl:Array (Option Value)}{N ps:List Str}{sp:Sp} (lk:K.lookup f=some ⟨oc,od,.func (PySem.W.fnOf name qual params body scope dV kV doc pm an cdv ct),osl⟩) (hcd:PySem.W.codeIn K cdv qual=true) (S:aq N ps scope)
  (len:∀ vs H Q E,sp vs H Q E→vs.length=ps.length)
  (hbody:∀ (A:Around) (outer:List Env) (s:Shared) (H:Hp) (vs:List V) (Q:VK) (E:XK),Room k (A.deeper (envOfC qual scope s.heap.objs.size f cdv))→sp vs H Q E →
   ∃ t,PSs (gC CX P w K mg base N qual scope f cdv A outer s H E) body t∧t { nx:=fun _ H'=>Q .non H',rt:=Q } (start N vs) H) :
  gD P w K mg base CX (k+1) f (PySem.W.fnOf name qual params body scope dV kV doc pm an cdv ct) ps sp:=by
 refine ⟨len,fun A outer s H args us vs Q E hr e0 hb r hsp=>?_⟩
 have hl:=len _ _ _ _ hsp
 have KX:K.In s.heap:=e0.mod.kin.keeps fun b o e=>(e0.bs b o e).1
 have lim:s.heap.NoLimit:=e0.mod.nolimit.keeps fun b o e=>(e0.bs b o e).1
 have hkind:∀ y∈ps.zip us,scope.names.lookup y.1=some .local∨(scope.names.lookup y.1=some .cell∧((cellsFrom (s.heap.objs.size+1) scope.names []).lookup y.1).isSome=true):=fun ⟨n,v⟩ hy=>by
  rcases S.par n (List.of_mem_zip hy).1 with q | q
  ·exact .inl q
  ·exact .inr ⟨q,PySem.W.cellsFrom_some _ _ _ (.inl q)⟩
 refine codeAny_call_function hr.depth (KX _ _ lk) rfl S.co S.gen rfl (PySem.W.codeRec_of KX hcd) (hb _ _ _ _ ?_)
 refine wpAny_newFunctionEnv_cells S.kind hkind fun env he s1 x=>?_
 subst he
 refine ⟨lim.keeps x.toInCall.keep,codeAny_func ?_⟩
 obtain ⟨t,ht,hq⟩:=hbody A outer s H vs Q E (hr.deeper _) hsp
 have I:Inv (gC CX P w K mg base N qual scope f cdv A outer s H E) [] (start N vs) H s1:=pU S hr.hd e0 hl r x
 refine wpAny_mono (ht [] s1 (start N vs) H _ I hq) (fun fl s' hs=>?_) fun e s' hs=>hs
 have fin:∀ {σ':St}{H':Hp}{v:V}{u:Value},Inv (gC CX P w K mg base N qual scope f cdv A outer s H E) [] σ' H' s'→RelV v u→Q v H'→CE outer P w H s Q u s' :=
  fun {σ' H' v u} J rv q=>⟨v,H',J.os,J.bare,J.base,J.hok,rv,q⟩
 cases fl with
 | ret u =>
  obtain ⟨v,σ',H',J,rv,q⟩:=hs
  exact fin J rv q
 | next =>
  obtain ⟨σ',H',J,q⟩:=hs
  exact fin (v:=V.non) (u:=Value.none) J rfl q
 | brk =>
  obtain ⟨_,_,_,q⟩:=hs
  exact False.elim q
 | cont =>
  obtain ⟨_,_,_,q⟩:=hs
  exact False.elim q
end L2
namespace L2
open PySem PySem.Spec PyProof.Rows
section
variable {X:Cx}{x:Str}{p pos:Pos}{e:Expr}{es:List Expr}{t:TA}{id T:String}{r:List V→Hp→VK→Prop}
def tCB (r:List V→Hp→VK→Prop) (t:TA):TE:=fun σ H Q=>t σ H fun vs H1=>r vs H1 Q
theorem aN (hc:CallR X (.builtin id) r) (hg:Gl X x) (hm:X.mg x=none) (hv:bootBuiltins x=some (.builtin id)) (ha:PA X (e::es) t) (hn:x≠"__name__":=by decide) (hdb:(x == ("__debug__":Str))=false:=by decide)
  (he:starEach (e::es) X.env=(false,eval e X.env)::starEach es X.env:=by rfl) (hpl:(backTo pos (starEach es X.env)).any (·.1)=false:=by rfl):PE X (.Call (.Name x p) (e::es) [] pos) (tCB r t):=by
 intro pins s σ H Q I h
 refine wpAny_Call_Name_kw (eF I hg hm hv ?_ hn hdb)
 exact PyProof.Rows.callWith_builtin1 (thn (ha pos pins s σ H _ I h) fun us s1 ⟨vs,H1,I1,r1,q1⟩=>hc pins s1 σ H1 vs us Q I1 r1 q1) he hpl
theorem kh (hc:CallR X (.type T) r) (hg:Gl X x) (hm:X.mg x=none) (hv:bootBuiltins x=some (.type T)) (ha:PA X (e::es) t) (hn:x≠"__name__":=by decide) (hdb:(x == ("__debug__":Str))=false:=by decide)
  (he:starEach (e::es) X.env=(false,eval e X.env)::starEach es X.env:=by rfl) (hpl:(backTo pos (starEach es X.env)).any (·.1)=false:=by rfl):PE X (.Call (.Name x p) (e::es) [] pos) (tCB r t):=by
 intro pins s σ H Q I h
 refine wpAny_Call_Name_kw (eF I hg hm hv ?_ hn hdb)
 exact PyProof.Rows.callWith_type1 (thn (ha pos pins s σ H _ I h) fun us s1 ⟨vs,H1,I1,r1,q1⟩=>hc pins s1 σ H1 vs us Q I1 r1 q1) he hpl
end
end L2
namespace HT
open PySem PyProof.Rows
section
open PySem.SeqAt
open PySem.AutoSeq1 (wpAny_loadPart')
open PySem.MeetsSeq PySem.MeetsSeq2 PySem.MeetsSeq3
end
section
variable {prog:Program}{w:World}{A:Around}{E:Value→Shared→Prop}{s:Shared}
def sIx (n d:Nat):Option Int→Nat
 | none=>d
 | some v=>if v<0 then (v+(n:Int)).toNat else min v.toNat n
theorem sIx_none (n d:Nat):sIx n d none=d:=rfl
theorem sIx_nat (n d k:Nat):sIx n d (some (k:Int))=min k n:=by
 show (if (k:Int)<0 then ((k:Int)+(n:Int)).toNat else min (k:Int).toNat n)=min k n
 rw [if_neg (by omega),Int.toNat_natCast]
theorem sIx_le (n d:Nat) (hd:d≤n) (o:Option Int):sIx n d o≤n:=by
 cases o with
 | none=>exact hd
 | some v =>
  show (if v<0 then (v+(n:Int)).toNat else min v.toNat n)≤n
  by_cases hv:v<0
  ·rw [if_pos hv];omega
  ·rw [if_neg hv];exact Nat.min_le_right _ _
theorem qg (v:Int) (n d:Nat):(if v<0 then max (v+(n:Int)) 0 else min v (n:Int))=((sIx n d (some v):Nat):Int):=by
 show (if v<0 then max (v+(n:Int)) 0 else min v (n:Int))=(((if v<0 then (v+(n:Int)).toNat else min v.toNat n):Nat):Int)
 by_cases hv:v<0
 ·simp only [if_pos hv];omega
 ·simp only [if_neg hv];omega
theorem ot (lo hi:Option Int) (n:Nat):Builtin.Slice.sliceAdjust lo hi 1 (n:Int)=(((sIx n 0 lo:Nat):Int),((sIx n n hi:Nat):Int)):=by
 have h1:¬ ((1:Int)<0):=by omega
 unfold Builtin.Slice.sliceAdjust
 simp only [h1,if_false]
 refine Prod.ext ?_ ?_
 ·cases lo with
  | none=>rfl
  | some v=>exact qg v n 0
 ·cases hi with
  | none=>rfl
  | some v=>exact qg v n n
theorem ny (i j:Nat):Builtin.Slice.slicePlaces (i:Int) (j:Int) 1=j - i:=by
 unfold Builtin.Slice.slicePlaces
 have h1:(1:Int) > 0:=by omega
 simp only [h1,if_true,Int.ediv_one]
 split<;>omega
theorem i4 {v:Value}{o:Option Int}{Q:Option Int→Shared→Prop} (p:IsPart v o) (h:Q o s):wpAny (model prog w) A (Builtin.Slice.slicePartIndex v) Q E s:=by
 cases p with
 | none=>exact slicePart_none h
 | int i t=>exact slicePart_int h
theorem gs {sl:Addr}{vl vu:Value}{lo hi:Option Int}{n:Nat}{Q:Int×Int×Nat→Shared→Prop} (hs:s.heap.IsSliceOf sl vl vu .none) (pl:IsPart vl lo) (pu:IsPart vu hi)
  (h:Q (((sIx n 0 lo:Nat):Int),1,sIx n n hi - sIx n 0 lo) s):wpAny (model prog w) A (Builtin.Slice.sliceApplied (.ref sl) (pure (n:Int))) Q E s:=by
 obtain ⟨os,hos,hcs,hds⟩:=id hs
 unfold Builtin.Slice.sliceApplied Builtin.Slice.sliceFields
 refine wpAny_bind (wpAny_bind (wpAny_field hos hds (x:=vl) rfl (wpAny_bind (wpAny_field hos hds (x:=vu) rfl (wpAny_bind (wpAny_field hos hds (x:=.none) rfl (wpAny_pure ?_)))))))
 refine wpAny_bind (slicePart_none ?_)
 show wpAny _ _ (if ((1:Int) == 0)=true then _ else _) _ _ s
 rw [if_neg (by decide)]
 refine wpAny_bind (i4 pl (wpAny_bind (i4 pu (wpAny_bind (wpAny_pure ?_)))))
 show wpAny _ _ (match Builtin.Slice.sliceAdjust lo hi 1 (n:Int) with | (lo,hi)=>pure (lo,(1:Int),Builtin.Slice.slicePlaces lo hi 1)) _ _ s
 rw [ot lo hi n]
 show wpAny _ _ (pure (((sIx n 0 lo:Nat):Int),(1:Int),Builtin.Slice.slicePlaces ((sIx n 0 lo:Nat):Int) ((sIx n n hi:Nat):Int) 1)) _ _ s
 rw [ny]
 exact wpAny_pure h
theorem pick_gen (xs:Array Value) (i k:Nat):((List.range k).filterMap fun (m:Nat)=>xs[((i:Int)+(m:Int)*1).toNat]?).toArray=((xs.toList.drop i).take k).toArray:=by
 have e:(fun (m:Nat)=>xs[((i:Int)+(m:Int)*1).toNat]?)=fun m=>xs[i+m]?:=by
  funext m
  have:((i:Int)+(m:Int)*1).toNat=i+m:=by omega
  rw [this]
 rw [e]
 have:=pick_run xs i k
 rw [List.filterMap_map] at this
 have e2:((fun x=>xs[x]?) ∘ fun x=>i+x)=fun m=>xs[i+m]?:=rfl
 rw [e2] at this
 rw [this]
theorem getItem_tuple_cut {t sl:Addr}{items:Array Value}{vl vu:Value}{lo hi:Option Int}{Q:Value→Shared→Prop} (ht:IsTup s.heap t items) (hs:s.heap.IsSliceOf sl vl vu .none) (pl:IsPart vl lo) (pu:IsPart vu hi)
  (hw:¬ (sIx items.size 0 lo=0∧sIx items.size items.size hi=items.size))
  (h:Q (.ref s.heap.objs.size) { s with heap:=s.heap.push { cls:=.type "tuple",data:=.seq ((items.toList.drop (sIx items.size 0 lo)).take (sIx items.size items.size hi - sIx items.size 0 lo)).toArray } })
  (hsz:items.size≤sizeLine):wpAny (model prog w) A (getItem (.ref t) (.ref sl)) Q E s:=by
 have htake:sizeOk (.seq ((items.toList.drop (sIx items.size 0 lo)).take (sIx items.size items.size hi - sIx items.size 0 lo)).toArray):=by
  show ((items.toList.drop (sIx items.size 0 lo)).take (sIx items.size items.size hi - sIx items.size 0 lo)).toArray.size≤sizeLine
  rw [List.size_toArray,List.length_take,List.length_drop,Array.length_toList]
  omega
 have hj:sIx items.size items.size hi≤items.size:=sIx_le _ _ (Nat.le_refl _) hi
 obtain ⟨os,hos,hcs,hds⟩:=id hs
 have hTs:s.TypeIs (.ref sl) "slice":=⟨os,hos,hcs⟩
 unfold getItem
 try with_reducible refine wpAny_holding ?_
 first | refine wpAny_bind (wpAny_pure ?_) | skip
 refine wpAny_bind (wpAny_sequenceKey ht.typeIs (by decide) ?_)
 refine wpAny_bind (wpAny_callSpecial?_slot (name:=Str.ofString "__getitem__") ht.typeIs PyProof.Rows.slot_tuple_getitem
  (wpAny_call_entry PyProof.Rows.slot_tuple_getitem ht.typeIs entry_tuple_getitem ?_ (args_tuple_getitem _ _)))
 show wpAny _ _ (Builtin.Tuple.tupleItemsOf (.ref t) >>= _) _ _ s
 refine wpAny_bind (tupleItemsOf_ ht ?_)
 refine wpAny_bind (wpAny_typeOf hTs ?_)
 rw [if_pos (by decide)]
 refine wpAny_bind (gs hs pl pu ?_)
 have hno:¬ ((((sIx items.size 0 lo:Nat):Int) == 0 && (1:Int) == 1 && (sIx items.size items.size hi - sIx items.size 0 lo) == items.size)=true):=by
  intro q
  rw [Bool.and_eq_true,Bool.and_eq_true] at q
  have q1:((sIx items.size 0 lo:Nat):Int)=0:=eq_of_beq q.1.1
  have q2:sIx items.size items.size hi - sIx items.size 0 lo=items.size:=eq_of_beq q.2
  exact hw ⟨by omega,by omega⟩
 show wpAny _ _ (if (((sIx items.size 0 lo:Nat):Int) == 0 && (1:Int) == 1 && (sIx items.size items.size hi - sIx items.size 0 lo) == items.size)=true then _ else _) _ _ s
 rw [if_neg hno,pick_gen]
 first
  | exact wpAny_bind (m:=Builtin.Tuple.tupleExact _) (wpAny_newObj_type (wpAny_pure ⟨_,rfl,wpAny_pure h⟩) htake)
  | exact wpAny_bind (m:=Builtin.Tuple.tupleExact _) (wpAny_newObj_type (wpAny_bind (wpAny_pure (wpAny_pure ⟨_,rfl,wpAny_pure h⟩))) htake)
  | exact wpAny_bind (wpAny_bind (m:=Builtin.Tuple.tupleExact _) (wpAny_newObj_type (wpAny_pure (wpAny_pure ⟨_,rfl,wpAny_pure h⟩)) htake))
  | exact wpAny_bind (wpAny_bind (m:=Builtin.Tuple.tupleExact _) (wpAny_newObj_type (wpAny_pure ⟨_,rfl,wpAny_pure h⟩) htake))
end
end HT
namespace L2
open PySem PySem.Spec PyProof.Rows
abbrev TO:=St→Hp→(Option Int→Hp→Prop)→Prop
def PO (X:Cx) (e:Option Expr) (t:TO):Prop :=
 ∀ (pins:List (Addr×Obj)) (s:Shared) (σ:St) (H:Hp) (Q:Option Int→Hp→Prop),Inv X pins σ H s→t σ H Q →
  wpAny (model X.prog X.w) X.A (evalPart e X.env) (fun u s'=>∃ o H',Inv X pins σ H' s'∧IsPart u o∧Q o H') X.xe s
def tNoPart:TO:=fun _ H Q=>Q none H
def tPart (t:TE):TO:=fun σ H Q=>t σ H fun x H1=>∃ i,x=.int i∧Q (some i) H1
theorem nW {ns:List Int}:∀ {us:List Value},Vals (ns.map V.int) us→IntsAre us ns:=by
 induction ns with
 | nil=>intro us r;rw [List.map_nil] at r;cases r;exact .nil
 | cons n ns ih =>
  intro us r
  rw [List.map_cons] at r
  cases r with
  | cons r1 r2 =>
   obtain ⟨t,e⟩:=r1
   subst e
   exact .cons n t (ih r2)
section
variable {X:Cx}{e:Expr}{te:TE}{lo hi:Option Expr}{tl th:TO}{pos p2:Pos}
theorem lg:PO X none tNoPart:=by
 intro pins s σ H Q I h
 rw [evalPart_none]
 exact wpAny_pure ⟨none,H,I,.none,h⟩
theorem ic (h:PE X e te):PO X (some e) (tPart te):=by
 intro pins s σ H Q I hw
 rw [evalPart_some]
 refine thn (h pins s σ H _ I hw) fun u s1 ⟨x,H1,I1,r1,q1⟩=>?_
 obtain ⟨i,rfl,q⟩:=q1
 obtain ⟨t,rfl⟩:=r1
 exact ⟨some i,H1,I1,.int i t,q⟩
def SlR (X:Cx) (r:V→Option Int→Option Int→Hp→VK→Prop):Prop :=
 ∀ (pins:List (Addr×Obj)) (s:Shared) (σ:St) (H:Hp) (x:V) (v vl vu:Value) (lo hi:Option Int) (sl:Addr) (Q:VK),Inv X pins σ H s→RelV x v→s.heap.IsSliceOf sl vl vu .none→IsPart vl lo→IsPart vu hi→r x lo hi H Q →
  ∃ T id,typeLookup (.type T) "__getitem__"=pure (some (.builtin id))∧s.TypeIs v T∧wpAny (model X.prog X.w) X.A (getItem v (.ref sl)) (EP X pins σ Q) X.xe s
def tSl (r:V→Option Int→Option Int→Hp→VK→Prop) (te:TE) (tl th:TO):TE:=fun σ H Q=>te σ H fun x H1=>tl σ H1 fun l H2=>th σ H2 fun u H3=>r x l u H3 Q
theorem gJ {r:V→Option Int→Option Int→Hp→VK→Prop} (hr:SlR X r) (he:PE X e te) (hl:PO X lo tl) (hu:PO X hi th):PE X (.Subscript e (.Slice lo hi none p2) pos) (tSl r te tl th):=by
 intro pins s σ H Q I h
 refine Subscript_ (thn (he pins s σ H _ I h) fun v s1 ⟨x,H1,I1,r1,q1⟩=>?_)
 refine wpAny_Slice (thn (hl pins s1 σ H1 _ I1 q1) fun vl s2 ⟨l,H2,I2,pl,q2⟩=>thn (hu pins s2 σ H2 _ I2 q2) fun vu s3 ⟨u,H3,I3,pu,q3⟩=>?_)
 rw [evalPart_none]
 refine wpAny_pure ?_
 have I4:Inv X pins σ H3 { s3 with heap:=s3.heap.push { cls:=.type "slice",data:=.fields #[vl,vu,.none] } }:=I3.kept (t':=s3.toks) fun b ob q=>Heap.get?_push_of_some _ q
 obtain ⟨T,id,hT,ht,hg⟩:=hr pins { s3 with heap:=s3.heap.push { cls:=.type "slice",data:=.fields #[vl,vu,.none] } } σ H3 x v vl vu l u s3.heap.objs.size Q I4 r1 (Heap.IsSliceOf.new ..) pl pu q3
 show wpAny (model X.prog X.w) X.A (subscriptTail e (.Slice lo hi none p2) v (.ref s3.heap.objs.size)) (EP X pins σ Q) X.xe { s3 with heap:=s3.heap.push { cls:=.type "slice",data:=.fields #[vl,vu,.none] } }
 exact tail_any (ops:=[.ref s3.heap.objs.size,v]) ht hT hg (by with_unfolding_all rfl)
def lS (xs:List V) (lo hi:Option Int):List V:=(xs.drop (HT.sIx xs.length 0 lo)).take (HT.sIx xs.length xs.length hi - HT.sIx xs.length 0 lo)
theorem iD (xs:List V) (lo hi:Option Int):(lS xs lo hi).length≤xs.length:=by
 unfold lS
 rw [List.length_take,List.length_drop]
 omega
def rSlT (K:PySem.W.Frag):V→Option Int→Option Int→Hp→VK→Prop:=fun x lo hi H Q=>∃ a xs,x=.ref a∧SqT K H a xs ∧
 ¬ (HT.sIx xs.length 0 lo=0∧HT.sIx xs.length xs.length hi=xs.length)∧∀ p,H p=none→Q (.ref p) (upd H p (.tup (lS xs lo hi)))
theorem sl_tup:SlR X (rSlT X.K):=by
 intro pins s σ H x v vl vu lo hi sl Q I rx hs pl pu h
 obtain ⟨a,xs,rfl,hx,hw,q⟩:=h
 cases rx
 obtain ⟨its,r,ht,hz⟩:=I.tuple hx
 have hlen:its.toArray.size=xs.length:=by rw [List.size_toArray];exact r.length.symm
 refine ⟨"tuple",_,PyProof.Rows.slot_tuple_getitem.lookup,ht.typeIs,?_⟩
 refine HT.getItem_tuple_cut ht hs pl pu (by rw [hlen];exact hw) ?_ (by rw [hlen];exact hz)
 rw [hlen]
 refine ⟨.ref s.heap.objs.size,_,I.laid (t':=s.toks) (o:=.tup (lS xs lo hi)) (fun b ob q=>Heap.get?_push_of_some _ q) (Nat.le_refl _) ?_,rfl,q _ (I.hok.fresh (Nat.le_refl _))⟩
 exact ⟨Nat.le_trans (iD xs lo hi) hz,_,(r.drop (HT.sIx xs.length 0 lo)).take (HT.sIx xs.length xs.length hi - HT.sIx xs.length 0 lo),IsTup.new _ _⟩
end
end L2
namespace L2
open PySem PySem.Spec PyProof.Rows
def ixN (n:Nat) (i:Int):Option Nat:=if 0≤i then (if i<n then some i.toNat else none) else if -(n:Int)≤i then some (i+n).toNat else none
def atI {α:Type} (xs:List α) (i:Int):Option α:=(ixN xs.length i).bind fun j=>xs[j]?
theorem pS {n:Nat}{i:Int}{j:Nat} (h:ixN n i=some j):seqIndex? i n=some j∧j<n∧-(n:Int)≤i∧i<n:=by
 unfold ixN at h
 by_cases h0:0≤i
 ·rw [if_pos h0] at h
  by_cases h1:i<n
  ·rw [if_pos h1] at h
   have e:i.toNat=j:=Option.some.inj h
   exact ⟨by rw [seqIndex_of h0 h1,e],by omega,by omega,h1⟩
  ·rw [if_neg h1] at h;cases h
 ·rw [if_neg h0] at h
  by_cases h1 : -(n:Int)≤i
  ·rw [if_pos h1] at h
   have e:(i+n).toNat=j:=Option.some.inj h
   exact ⟨by rw [seqIndex_neg (by omega) h1,e],by omega,h1,by omega⟩
  ·rw [if_neg h1] at h;cases h
theorem qr {α:Type}{xs:List α}{i:Int}{v:α} (h:atI xs i=some v):∃ j,seqIndex? i xs.length=some j∧xs[j]?=some v∧j<xs.length∧-(xs.length:Int)≤i∧i<xs.length:=by
 unfold atI at h
 cases e:ixN xs.length i with
 | none=>rw [e] at h;cases h
 | some j =>
  rw [e] at h
  obtain ⟨h1,h2,h3,h4⟩:=pS e
  exact ⟨j,h1,h,h2,h3,h4⟩
theorem fq {α:Type}{xs:List α}{j:Nat}{v:α} (h:xs[j]?=some v):atI xs (j:Int)=some v:=by
 have hj:j<xs.length:=(List.getElem?_eq_some_iff.mp h).1
 have e:ixN xs.length (j:Int)=some j:=by
  unfold ixN
  rw [if_pos (by omega),if_pos (by omega)];simp
 unfold atI;rw [e];exact h
def PlainIx (b:Expr):Prop:=∀ o i,subscripted b false o i=operate [o,i] (getItem o i)
def IxR (X:Cx) (r:R2):Prop :=
 ∀ (value slice:Expr) (pins:List (Addr×Obj)) (s:Shared) (σ:St) (H:Hp) (x y:V) (v u:Value) (Q:VK),Inv X pins σ H s→RelV x v→RelV y u→r x y H Q →
  subscripted slice false v u=operate [v,u] (getItem v u)→wpAny (model X.prog X.w) X.A (subscriptTail value slice v u) (EP X pins σ Q) X.xe s
def MtR (X:Cx) (id:String) (r:V→List V→Hp→VK→Prop):Prop :=
 ∀ (pins:List (Addr×Obj)) (s:Shared) (σ:St) (H:Hp) (x:V) (xs:List V) (v:Value) (us:List Value) (Q:VK),Inv X pins σ H s→RelV x v→Vals xs us→r x xs H Q →
  wpAny (model X.prog X.w) X.A (call (.builtin id) (v::us)) (EP X pins σ Q) X.xe s
section
variable {X:Cx}{a b:Expr}{ta tb:TE}{pos:Pos}
theorem aX {r:R2} (hr:IxR X r) (ha:PE X a ta) (hb:PE X b tb) (hs:PlainIx b):PE X (.Subscript a b pos) (tOp r ta tb):=by
 intro pins s σ H Q I h
 exact Subscript_ (binT ha hb I h fun v u s2 x y H2 I2 rx ry q=>hr a b pins s2 σ H2 x y v u Q I2 rx ry q (hs _ _))
def rIxL (K:PySem.W.Frag):R2:=fun x y H Q=>∃ p xs i v,x=.ref p∧y=.int i∧SqL K H p xs∧atI xs i=some v∧Q v H
def rIxT (K:PySem.W.Frag):R2:=fun x y H Q=>∃ p xs i v,x=.ref p∧y=.int i∧SqT K H p xs∧atI xs i=some v∧Q v H
theorem bf:IxR X (rIxL X.K):=by
 intro value slice pins s σ H x y v u Q I rx ry h hs
 obtain ⟨p,xs,i,z,rfl,rfl,hq,he,q⟩:=h
 cases rx
 obtain ⟨t,rfl⟩:=ry
 obtain ⟨its,r,pl,hz⟩:=I.list hq
 obtain ⟨j,h1,h2,h3,h4,h5⟩:=qr he
 obtain ⟨w,ew,rw'⟩:=r.get h2
 have hl:=r.length
 have hn:=mE
 have fin:EP X pins σ Q w s:=⟨z,H,I,rw',q⟩
 by_cases h0:0≤i
 ·have hj:i.toNat=j:=by
   rw [seqIndex_of h0 h5] at h1
   exact Option.some.inj h1
  exact item_listR pl.isList h0 (by omega) (by rw [hj];simpa using ew) fin hs
 ·have hj:(i+(its.toArray.size:Int)).toNat=j:=by
   rw [seqIndex_neg (by omega) h4] at h1
   rw [List.size_toArray,← hl]
   exact Option.some.inj h1
  exact subscriptTail_builtinR (x:=w) pl.isList.typeIs slot_list_getitem.lookup
   (wpAny_getItem_list_neg (Q:=fun r s'=>r=w∧EP X pins σ Q r s') pl.isList (by omega) (by rw [List.size_toArray]<;>omega) (by omega) (by rw [hj];simpa using ew) ⟨rfl,fin⟩) hs
theorem bO:IxR X (rIxT X.K):=by
 intro value slice pins s σ H x y v u Q I rx ry h hs
 obtain ⟨p,xs,i,z,rfl,rfl,hq,he,q⟩:=h
 cases rx
 obtain ⟨t,rfl⟩:=ry
 obtain ⟨its,r,pl,hz⟩:=I.tuple hq
 obtain ⟨j,h1,h2,h3,h4,h5⟩:=qr he
 obtain ⟨w,ew,rw'⟩:=r.get h2
 have hl:=r.length
 have hn:=mE
 have fin:EP X pins σ Q w s:=⟨z,H,I,rw',q⟩
 exact subscriptTail_builtinR (x:=w) pl.typeIs slot_tuple_getitem.lookup
  (getItem_tuple (j:=j) (Q:=fun r s'=>r=w∧EP X pins σ Q r s') pl (by omega) (by omega) (by rw [List.size_toArray,← hl];exact h1) (by simpa using ew) ⟨rfl,fin⟩) hs
theorem nO (its:List Value) (n j:Nat) (u:Value):Obj.mapSeq (·.setIfInBounds j u) { cls:=.type "list",data:=.seq its.toArray n }={ cls:=.type "list",data:=.seq (its.set j u).toArray n }:=by
 simp [Obj.mapSeq]
theorem Inv.lst {pins:List (Addr×Obj)}{σ:St}{H:Hp}{s:Shared}{p:Addr}{xs:List V} (I:Inv X pins σ H s) (h:H p=some (.lst xs)) :
  ∃ (its:List Value) (n:Nat),Vals xs its∧s.heap.get? p=some { cls:=.type "list",data:=.seq its.toArray n }∧xs.length≤sizeLine:=by
 obtain ⟨z,its,n,r,e⟩:=I.hok p _ h
 exact ⟨its,n,r,e,z⟩
theorem Inv.lstUpd {pins:List (Addr×Obj)}{σ:St}{H:Hp}{s:Shared}{p:Addr}{xs ys:List V}{its its':List Value}{n n':Nat}{f:Obj→Obj} (I:Inv X pins σ H s) (h:H p=some (.lst xs))
  (ho:s.heap.get? p=some { cls:=.type "list",data:=.seq its.toArray n }) (hf:f { cls:=.type "list",data:=.seq its.toArray n }={ cls:=.type "list",data:=.seq its'.toArray n' }) (r:Vals ys its') (hz:ys.length≤sizeLine) (t:Nat) :
  Inv X pins σ (upd H p (.lst ys)) { s with heap:=s.heap.update p f,toks:=t }:=by
 have e:(s.heap.update p f).get? p=some { cls:=.type "list",data:=.seq its'.toArray n' }:=by
  rw [Heap.get?_update_self f ho (by rw [hf]<;>rfl),hf]
 refine I.write (x:=p) (e:=p) (by rw [h];trivial) (.inl rfl) (fun b u hb q=>(Heap.get?_update_other _ _ (Ne.symm hb)).trans q) ⟨_,e⟩ ?_
 exact ⟨hz,its',n',r,e⟩
def rSetL:V→V→V→Hp→(Hp→Prop)→Prop:=fun o i v H Q=>∃ p xs k j,o=.ref p∧i=.int k∧H p=some (.lst xs)∧ixN xs.length k=some j∧Q (upd H p (.lst (xs.set j v)))
theorem set_list:PSet X rSetL:=by
 intro pins s σ H o i v ov iv u Q I ro ri rv h
 obtain ⟨p,xs,k,j,rfl,rfl,hp,hj,q⟩:=h
 cases ro
 obtain ⟨t,rfl⟩:=ri
 obtain ⟨its,n,r,ho,hz⟩:=I.lst hp
 obtain ⟨h1,h2,h3,h4⟩:=pS hj
 have hl:=r.length
 have hn:=mE
 have I':Inv X pins σ (upd H p (.lst (xs.set j v))) { s with heap:=s.heap.update p (Obj.mapSeq (·.setIfInBounds j u)) } :=
  I.lstUpd hp ho (nO its n j u) (r.set rv j) (by rw [List.length_set];exact hz) s.toks
 by_cases h0:0≤k
 ·have hk:k.toNat=j:=by
   rw [seqIndex_of h0 h4] at h1
   exact Option.some.inj h1
  exact PySem.W.ki_setAt ho h0 (by omega) (by rw [List.size_toArray,← hl];exact h4) (by rw [hk];exact ⟨_,I',q⟩)
 ·have hk:(k+(its.toArray.size:Int)).toNat=j:=by
   rw [seqIndex_neg (by omega) h3] at h1
   rw [List.size_toArray,← hl]
   exact Option.some.inj h1
  exact PySem.W.ki_setBack ho (by omega) (by rw [List.size_toArray,← hl];exact h3) (by omega) (by rw [hk];exact ⟨_,I',q⟩)
theorem j4 (lo hi:Option Int) (n:Nat):(sliceBounds lo hi none n).1=((HT.sIx n 0 lo:Nat):Int)∧(sliceBounds lo hi none n).2.1=((HT.sIx n n hi:Nat):Int)∧(sliceBounds lo hi none n).2.2=1:=by
 refine ⟨?_,?_,rfl⟩
 ·cases lo with
  | none=>simp [sliceBounds,HT.sIx]
  | some i =>
   simp only [sliceBounds,HT.sIx,Option.getD_none,show (1:Int) > 0 by decide,if_true]
   by_cases h:i<0
   ·simp only [h,if_true]<;>omega
   ·simp only [h,if_false]<;>omega
 ·cases hi with
  | none=>simp [sliceBounds,HT.sIx]
  | some i =>
   simp only [sliceBounds,HT.sIx,Option.getD_none,show (1:Int) > 0 by decide,if_true]
   by_cases h:i<0
   ·simp only [h,if_true]<;>omega
   ·simp only [h,if_false]<;>omega
theorem jx (its:List Value) (lo hi:Option Int):slicePick its.toArray lo hi none=((its.drop (HT.sIx its.length 0 lo)).take (HT.sIx its.length its.length hi - HT.sIx its.length 0 lo)).toArray:=by
 obtain ⟨h1,h2,h3⟩:=j4 lo hi its.toArray.size
 unfold slicePick
 rw [h1,h2,h3]
 simp only [sliceRange_one,pick_run,List.size_toArray]<;>rfl
def rSlL (K:PySem.W.Frag):V→Option Int→Option Int→Hp→VK→Prop:=fun x lo hi H Q=>∃ a xs,x=.ref a∧SqL K H a xs∧∀ p,H p=none→Q (.ref p) (upd H p (.lst (lS xs lo hi)))
theorem kW:SlR X (rSlL X.K):=by
 intro pins s σ H x v vl vu lo hi sl Q I rx hs pl pu h
 obtain ⟨a,xs,rfl,hx,q⟩:=h
 cases rx
 obtain ⟨its,r,ht,hz⟩:=I.list hx
 have hlen:=r.length
 refine ⟨"list",_,slot_list_getitem.lookup,ht.isList.typeIs,?_⟩
 refine wpAny_getItem_list_slice ht.isList hs pl pu .none (by simp) ?_ (by rw [List.size_toArray]<;>omega)
 rw [jx,← hlen]
 refine ⟨.ref s.heap.objs.size,_,I.laid (t':=s.toks) (o:=.lst (lS xs lo hi)) (fun b ob q=>Heap.get?_push_of_some _ q) (Nat.le_refl _) ?_,rfl,q _ (I.hok.fresh (Nat.le_refl _))⟩
 exact ⟨Nat.le_trans (iD xs lo hi) hz,_,0,(r.drop (HT.sIx xs.length 0 lo)).take (HT.sIx xs.length xs.length hi - HT.sIx xs.length 0 lo),Heap.get?_push_size _ rfl⟩
def jR:V→Bool
 | .non=>true
 | .bl _=>true
 | .int _=>true
 | .str _=>true
 | _=>false
def eqV:V→V→Bool
 | .non,.non=>true
 | .bl a,.bl b=>a == b
 | .bl a,.int b=>(if a then 1 else 0) == b
 | .int a,.bl b=>a == (if b then 1 else 0)
 | .int a,.int b=>a == b
 | .str a,.str b=>a == b
 | _,_=>false
theorem eqAt_V {A:Around}{s:Shared}{y x:V}{u v:Value} (ry:RelV y u) (rx:RelV x v) (fy:jR y=true) (fx:jR x=true):SeqAt.EqAt A s u v (eqV y x):=by
 cases y with
 | non =>
  cases ry
  cases x with
  | non=>cases rx;exact SeqAt.EqAt.same _
  | bl b=>cases rx;exact SeqAt.EqAt.none_bool b
  | int b=>obtain ⟨t,rfl⟩:=rx;exact SeqAt.EqAt.none_int b t
  | str b=>obtain ⟨t,rfl⟩:=rx;exact SeqAt.EqAt.none_str b t
  | _=>exact absurd (show false=true from fx) Bool.false_ne_true
 | bl a =>
  cases ry
  cases x with
  | non=>cases rx;exact SeqAt.EqAt.bool_none a
  | bl b=>cases rx;exact SeqAt.EqAt.bool_bool a b
  | int b=>obtain ⟨t,rfl⟩:=rx;exact SeqAt.EqAt.bool_int a b t
  | str b=>obtain ⟨t,rfl⟩:=rx;exact SeqAt.EqAt.bool_str a b t
  | _=>exact absurd (show false=true from fx) Bool.false_ne_true
 | int a =>
  obtain ⟨t',rfl⟩:=ry
  cases x with
  | non=>cases rx;exact SeqAt.EqAt.int_none a t'
  | bl b=>cases rx;exact SeqAt.EqAt.int_bool a t' b
  | int b=>obtain ⟨t,rfl⟩:=rx;exact SeqAt.EqAt.int_int a t' b t
  | str b=>obtain ⟨t,rfl⟩:=rx;exact SeqAt.EqAt.int_str a t' b t
  | _=>exact absurd (show false=true from fx) Bool.false_ne_true
 | str a =>
  obtain ⟨t',rfl⟩:=ry
  cases x with
  | non=>cases rx;exact SeqAt.EqAt.str_none a t'
  | bl b=>cases rx;exact SeqAt.EqAt.str_bool a t' b
  | int b=>obtain ⟨t,rfl⟩:=rx;exact SeqAt.EqAt.str_int a t' b t
  | str b=>obtain ⟨t,rfl⟩:=rx;exact SeqAt.EqAt.str_str a t' b t
  | _=>exact absurd (show false=true from fx) Bool.false_ne_true
 | _=>exact absurd (show false=true from fy) Bool.false_ne_true
def eqU (x:V) (u:Value):Bool:=match u with
 | .none=>eqV .non x
 | .bool b=>eqV (.bl b) x
 | .int i _=>eqV (.int i) x
 | .str z _=>eqV (.str z) x
 | _=>false
theorem eqU_of {x y:V}{u:Value} (r:RelV y u) (f:jR y=true):eqU x u=eqV y x:=by
 cases y with
 | non=>cases r;rfl
 | bl b=>cases r;rfl
 | int i=>obtain ⟨t,rfl⟩:=r;rfl
 | str z=>obtain ⟨t,rfl⟩:=r;rfl
 | _=>exact absurd (show false=true from f) Bool.false_ne_true
theorem iI {x:V}:∀ {xs:List V}{us:List Value},Vals xs us→xs.all jR=true→us.any (eqU x)=xs.any fun y=>eqV y x
 | _,_,.nil,_=>rfl
 | y::xs,u::us,.cons r t,f=>by
  rw [List.all_cons,Bool.and_eq_true] at f
  rw [List.any_cons,List.any_cons,eqU_of r f.1,iI t f.2]
theorem fO {A:Around}{s:Shared}{x:V}{v:Value} (rx:RelV x v) (fx:jR x=true):∀ {xs:List V}{us:List Value},Vals xs us→xs.all jR=true→∀ u∈us,SeqAt.EqAt A s u v (eqU x u)
 | _,_,.nil,_=>fun u hu=>by cases hu
 | y::xs,u::us,.cons r t,f=>fun u' hu=>by
  rw [List.all_cons,Bool.and_eq_true] at f
  rcases List.mem_cons.mp hu with rfl | hu
  ·rw [eqU_of r f.1];exact eqAt_V r rx f.1 fx
  ·exact fO rx fx t f.2 u' hu
def inV (x:V) (xs:List V):Bool:=xs.any fun y=>eqV y x
def rIn (K:PySem.W.Frag) (neg:Bool):R2:=fun x y H Q=>∃ p xs,y=.ref p∧(SqL K H p xs∨SqT K H p xs)∧jR x=true∧xs.all jR=true∧Q (.bl (if neg then !inV x xs else inV x xs)) H
theorem iq:OpR X (compareOp .In) (rIn X.K false):=by
 intro pins s σ H x y v u Q I rx ry h
 obtain ⟨p,xs,rfl,hq,fx,fs,q⟩:=h
 cases ry
 rcases hq with hq | hq
 ·obtain ⟨its,r,pl,hz⟩:=I.list hq
  refine SeqAt.in_listAt (eqU x) pl.isList (fun w hw=>fO rx fx r fs w (by simpa using hw)) ⟨.bl _,H,I,rfl,?_⟩
  rw [show its.toArray.any (eqU x)=its.any (eqU x) by simp,iI r fs]
  exact q
 ·obtain ⟨its,r,pl,hz⟩:=I.tuple hq
  refine SeqAt.in_tupleAt (eqU x) pl (fun w hw=>fO rx fx r fs w (by simpa using hw)) ⟨.bl _,H,I,rfl,?_⟩
  rw [show its.toArray.any (eqU x)=its.any (eqU x) by simp,iI r fs]
  exact q
theorem gp:OpR X (compareOp .NotIn) (rIn X.K true):=by
 intro pins s σ H x y v u Q I rx ry h
 obtain ⟨p,xs,rfl,hq,fx,fs,q⟩:=h
 cases ry
 rcases hq with hq | hq
 ·obtain ⟨its,r,pl,hz⟩:=I.list hq
  refine SeqAt.notIn_listAt (eqU x) pl.isList (fun w hw=>fO rx fx r fs w (by simpa using hw)) ⟨.bl _,H,I,rfl,?_⟩
  rw [show its.toArray.any (eqU x)=its.any (eqU x) by simp,iI r fs]
  exact q
 ·obtain ⟨its,r,pl,hz⟩:=I.tuple hq
  refine SeqAt.notIn_tupleAt (eqU x) pl (fun w hw=>fO rx fx r fs w (by simpa using hw)) ⟨.bl _,H,I,rfl,?_⟩
  rw [show its.toArray.any (eqU x)=its.any (eqU x) by simp,iI r fs]
  exact q
theorem aB:CallR X (.builtin "len") (fun xs H Q=>∃ p ys,xs=[.ref p]∧(SqL X.K H p ys∨SqT X.K H p ys)∧Q (.int ys.length) H):=by
 intro pins s σ H xs us Q I r h
 obtain ⟨p,ys,rfl,hq,q⟩:=h
 obtain ⟨u,rfl,rx⟩:=vals1 r
 cases rx
 have hn:=mE
 rcases hq with hq | hq
 ·obtain ⟨its,r',pl,hz⟩:=I.list hq
  have hlen:=r'.length
  exact Calls.call_len_list pl.isList (by simp only [List.size_toArray]<;>omega) ⟨.int ys.length,H,I.tok _,⟨s.toks+1,by rw [List.size_toArray,hlen]⟩,q⟩
 ·obtain ⟨its,r',pl,hz⟩:=I.tuple hq
  have hlen:=r'.length
  exact len_tuple pl (by simp only [List.size_toArray]<;>omega) ⟨.int ys.length,H,I.tok _,⟨s.toks+1,by rw [List.size_toArray,hlen]⟩,q⟩
def tyV (K:PySem.W.Frag) (T:String) (x:V) (H:Hp):Prop:=match x with
 | .str _=>T="str"
 | .int _=>T="int"
 | .ref p=>(T="list"∧∃ xs,SqL K H p xs)∨(T="tuple"∧∃ o,K.lookup p=some o∧o.cls=.type "tuple"∧o.dict=none) ∨
   (T="dict"∧((∃ kvs,H p=some (.dK kvs))∨∃ kvs,H p=some (.dT kvs)))∨(T="set"∧∃ S n,H p=some (.set S n))
 | _=>False
theorem tyV_is {pins:List (Addr×Obj)}{σ:St}{H:Hp}{s:Shared}{T:String}{x:V}{v:Value} (I:Inv X pins σ H s) (r:RelV x v) (ty:tyV X.K T x H) :
  s.TypeIs v T∧∀ a,v=.ref a→∃ ob,s.heap.get? a=some ob∧ob.dict=none:=by
 cases x with
 | str z =>
  obtain ⟨t,rfl⟩:=r
  cases (show T="str" from ty)
  exact ⟨typeIs_str s z t,fun _ e=>nomatch e⟩
 | int i =>
  obtain ⟨t,rfl⟩:=r
  cases (show T="int" from ty)
  exact ⟨typeIs_int s i t,fun _ e=>nomatch e⟩
 | ref p =>
  cases r
  rcases ty with ⟨rfl,xs,hq⟩ | ⟨rfl,o,hk,hc,hd⟩ | ⟨rfl,hk⟩ | ⟨rfl,S,n,hk⟩
  ·obtain ⟨its,_,pl,_⟩:=I.list hq
   refine ⟨pl.isList.typeIs,fun a e=>?_⟩
   cases e
   obtain ⟨o,n,e,c,hd,_⟩:=pl
   exact ⟨o,e,hd⟩
  ·refine ⟨⟨o,I.kIn p o hk,hc⟩,fun a e=>?_⟩
   cases e
   exact ⟨o,I.kIn _ o hk,hd⟩
  ·have z:∃ o,s.heap.get? p=some o∧o.ExactDict:=by
    rcases hk with ⟨kvs,hk⟩ | ⟨kvs,hk⟩
    ·obtain ⟨_,_,_,_,o,_,_,e,ex,_⟩:=I.hok p _ hk
     exact ⟨o,e,ex⟩
    ·obtain ⟨_,_,_,_,o,_,_,e,ex,_⟩:=I.hok p _ hk
     exact ⟨o,e,ex⟩
   obtain ⟨o,e,ex⟩:=z
   refine ⟨⟨o,e,ex.1⟩,fun a e2=>?_⟩
   cases e2
   exact ⟨o,e,ex.2.1⟩
  ·obtain ⟨o,_,_,_,e,ex,_⟩:=I.hok p _ hk
   refine ⟨⟨o,e,ex.1⟩,fun a e2=>?_⟩
   cases e2
   exact ⟨o,e,ex.2.1⟩
 | _=>exact False.elim ty
def tBM (K:PySem.W.Frag) (T:String) (r:V→List V→Hp→VK→Prop) (to:TE) (t:TA):TE:=fun σ H Q=>to σ H fun x H1=>tyV K T x H1∧t σ H1 fun xs H2=>r x xs H2 Q
variable {o e:Expr}{es:List Expr}{to:TE}{t:TA}{name:Str}{apos cpos:Pos}{T id:String}{r:V→List V→Hp→VK→Prop}
theorem gy (pa:PlainAttrs T) (slot:Slot T name id) (hty:typeOf (.builtin id)=pure (.type "method_descriptor")) (hm:MtR X id r) (ho:PE X o to) (ha:PA X (e::es) t)
  (hbase:attributeBase o name X.env (eval o X.env)=eval o X.env:=by rfl)
  (hfew:((backTo cpos (starEach (e::es) X.env)).all (fun x=>!x.1) && (backToKw cpos (keywordEach [] X.env)).all (fun x=>x.1.isSome)
   && decide ((e::es).length+([]:List Keyword).length+(if ([]:List Keyword).isEmpty then 0 else 1)<30))=true:=by rfl)
  (hline:(apos.endLine == cpos.line)=true:=by rfl) (hs:starEach (e::es) X.env=(false,eval e X.env)::starEach es X.env:=by rfl) (hplain:(backTo cpos (starEach es X.env)).any (·.1)=false:=by rfl) :
  PE X (.Call (.Attribute o name apos) (e::es) [] cpos) (tBM X.K T r to t):=by
 intro pins s σ H Q I h
 refine wpAny_Call_method_late hbase hfew hline rfl (thn (ho pins s σ H _ I h) fun v s1 ⟨x,H1,I1,r1,ty,q1⟩=>?_)
 obtain ⟨h1,h2⟩:=tyV_is I1 r1 ty
 refine ⟨T,id,pa,slot,hty,h1,h2,?_⟩
 have hA:=ha cpos pins s1 σ H1 _ I1 q1
 rw [hs] at hA ⊢
 refine Calls.callWith_builtin (by show (false || (backTo cpos (starEach es X.env)).any (·.1))=false;rw [hplain]<;>rfl) (Calls.evalArgs_plain ?_)
 exact thn hA fun us s2 ⟨vs,H2,I2,r2,q2⟩=>hm pins s2 σ H2 x vs v us Q I2 r1 r2 q2
end
end L2
namespace L2
open PySem PySem.Spec PyProof.Rows
def MtM (X:Cx) (id:String) (r:V→List V→Hp→VK→Prop):Prop :=
 ∀ (pins:List (Addr×Obj)) (s:Shared) (σ:St) (H:Hp) (x:V) (xs:List V) (v:Value) (us:List Value) (Q:VK),Inv X pins σ H s→RelV x v→Vals xs us→r x xs H Q →
  wpAny (model X.prog X.w) X.A (call (.builtin id) (v::us)) (EP X pins σ Q) X.xe s
theorem Vals.one:∀ {x:V}{us:List Value},Vals [x] us→∃ u,us=[u]∧RelV x u
 | _,_,.cons r .nil=>⟨_,rfl,r⟩
theorem Vals.two:∀ {x y:V}{us:List Value},Vals [x,y] us→∃ u v,us=[u,v]∧RelV x u∧RelV y v
 | _,_,_,.cons r (.cons q .nil)=>⟨_,_,rfl,r,q⟩
theorem Vals.rep {xs:List V}{us:List Value} (h:Vals xs us):∀ k:Nat,Vals (List.replicate k xs).flatten (List.replicate k us).flatten
 | 0=>.nil
 | k+1=>by
  rw [List.replicate_succ,List.replicate_succ,List.flatten_cons,List.flatten_cons]
  exact Vals.append h (Vals.rep h k)
theorem kD (its:List Value):∀ (k:Nat) (acc:List Value),
  List.foldl (fun x1 x2=>x1++x2) acc.toArray (List.replicate k its.toArray)=(acc++(List.replicate k its).flatten).toArray
 | 0,acc=>by simp
 | k+1,acc=>by
  have e:acc.toArray++its.toArray=(acc++its).toArray:=by simp
  have e2:(acc++its)++(List.replicate k its).flatten=acc++(List.replicate (k+1) its).flatten:=by
   rw [List.replicate_succ,List.flatten_cons,List.append_assoc]
  rw [← e2,← kD its k (acc++its),← e,List.replicate_succ,List.foldl_cons]
section
variable {X:Cx}{pins:List (Addr×Obj)}{σ:St}{H:Hp}{s:Shared}{l b:Addr}{xs ys zs:List V}
theorem Inv.lset {its its':List Value}{n:Nat}{f:Array Value→Array Value}{t':Nat} (I:Inv X pins σ H s) (hH:H l=some (.lst xs))
  (e:s.heap.get? l=some { cls:=.type "list",data:=.seq its.toArray n }) (hf:f its.toArray=its'.toArray) (hv:Vals ys its') (hz:ys.length≤sizeLine) :
  Inv X pins σ (upd H l (.lst ys)) { s with heap:=s.heap.update l (Obj.mapSeq f),toks:=t' }:=by
 have q:=PySem.IsL.update e f
 rw [hf] at q
 refine I.write (x:=l) (e:=l) (by rw [hH];exact trivial) (.inl rfl) (fun b' u hb hu=>(Heap.get?_update_other s.heap (Obj.mapSeq f) (Ne.symm hb)).trans hu) ⟨_,q⟩ ?_
 exact ⟨hz,its',_,hv,q⟩
theorem Inv.lnew {its:List Value}{t':Nat} (I:Inv X pins σ H s) (hv:Vals ys its) (hz:ys.length≤sizeLine) :
  Inv X pins σ (upd H s.heap.objs.size (.lst ys)) { s with heap:=s.heap.push { cls:=.type "list",data:=.seq its.toArray },toks:=t' } :=
 I.laid (fun _ _ q=>Heap.get?_push_of_some _ q) (Nat.le_refl _) ⟨hz,its,0,hv,Heap.get?_push_size _ rfl⟩
theorem Inv.fresh (I:Inv X pins σ H s):H s.heap.objs.size=none:=I.hok.fresh (Nat.le_refl _)
theorem Inv.lstM (I:Inv X pins σ H s) (hH:H l=some (.lst xs)):xs.length≤sizeLine∧∃ (its:List Value) (n:Nat),Vals xs its∧xs.length=its.length∧s.heap.get? l=some { cls:=.type "list",data:=.seq its.toArray n }:=by
 obtain ⟨z,its,n,r,e⟩:=I.hok l _ hH
 exact ⟨z,its,n,r,r.length,e⟩
theorem mw {n:Nat} (h:n≤sizeLine):Builtin.List.listTooLong n=false:=by
 unfold Builtin.List.listTooLong
 exact decide_eq_false (by omega)
end
section
variable {X:Cx}
def rAppend:V→List V→Hp→VK→Prop:=fun x vs H Q=>∃ l xs y,x=.ref l∧vs=[y]∧H l=some (.lst xs)∧xs.length<sizeLine∧Q .non (upd H l (.lst (xs++[y])))
theorem cj:MtM X "list.append" rAppend:=by
 intro pins s σ H x vs v us Q I rx rv h
 obtain ⟨l,xs,y,rfl,rfl,hH,hz,q⟩:=h
 cases rx
 obtain ⟨u,rfl,ru⟩:=rv.one
 obtain ⟨z,its,n,r,hl,e⟩:=I.lstM hH
 refine call_meets F.slot_list_append ⟨_,e,rfl⟩ F.entry_list_append (F.args_list_append_2 _ _) (PySem.list_append l its.toArray n u (by rw [List.size_toArray];omega)) ⟨e,?_⟩
 refine ⟨.non,_,I.lset (its':=its++[u]) hH e (by simp) (r.append (.cons ru .nil)) ?_,rfl,q⟩
 rw [List.length_append,List.length_singleton]
 omega
def rExtend:V→List V→Hp→VK→Prop:=fun x vs H Q=>∃ l b xs zs,x=.ref l∧vs=[.ref b]∧H l=some (.lst xs)∧H b=some (.lst zs)∧xs.length+zs.length≤sizeLine∧Q .non (upd H l (.lst (xs++zs)))
theorem iu:MtM X "list.extend" rExtend:=by
 intro pins s σ H x vs v us Q I rx rv h
 obtain ⟨l,b,xs,zs,rfl,rfl,hH,hB,hz,q⟩:=h
 cases rx
 obtain ⟨u,rfl,ru⟩:=rv.one
 cases ru
 obtain ⟨z,its,n,r,hl,e⟩:=I.lstM hH
 obtain ⟨z2,its2,n2,r2,hl2,e2⟩:=I.lstM hB
 have hsz:its.toArray.size+its2.toArray.size≤sizeLine:=by rw [List.size_toArray,List.size_toArray];omega
 have hlong:¬ (!its.toArray.isEmpty && Builtin.List.listTooLong (its.toArray.size+its2.toArray.size))=true:=by
  rw [mw hsz,Bool.and_false]
  exact Bool.false_ne_true
 refine call_meets F.slot_list_extend ⟨_,e,rfl⟩ F.entry_list_extend (F.args_list_extend_2 _ _)
  (AutoSeq1.list_extend_list_list_0 l its.toArray n b its2.toArray n2 hlong (by rw [List.size_toArray];omega) (by omega)) ⟨e,e2,?_⟩
 refine ⟨.non,_,I.lset (its':=its++its2) hH e (by simp) (r.append r2) ?_,rfl,q⟩
 rw [List.length_append]
 omega
def rCat:R2:=fun x y H Q=>∃ l b xs zs,x=.ref l∧y=.ref b∧H l=some (.lst xs)∧H b=some (.lst zs)∧xs.length+zs.length≤sizeLine∧∀ p,H p=none→Q (.ref p) (upd H p (.lst (xs++zs)))
theorem jb:OpR X (binaryOp .Add) rCat:=by
 intro pins s σ H x y v u Q I rx ry h
 obtain ⟨l,b,xs,zs,rfl,rfl,hH,hB,hz,q⟩:=h
 cases rx
 cases ry
 obtain ⟨z,its,n,r,hl,e⟩:=I.lstM hH
 obtain ⟨z2,its2,n2,r2,hl2,e2⟩:=I.lstM hB
 refine PySem.P.add_list e e2 ?_ (by rw [List.size_toArray,List.size_toArray];omega)
 have ea:its.toArray++its2.toArray=(its++its2).toArray:=by simp
 rw [ea]
 exact ⟨.ref _,_,I.lnew (t':=s.toks) (r.append r2) (by rw [List.length_append];omega),rfl,q _ I.fresh⟩
def rRep:R2:=fun x y H Q=>∃ l k xs,x=.ref l∧y=.int k∧H l=some (.lst xs)∧-(2 ^ 63)≤k∧k<2 ^ 63∧xs.length*k.toNat≤sizeLine ∧
 ∀ p,H p=none→Q (.ref p) (upd H p (.lst (List.replicate k.toNat xs).flatten))
theorem len_rep {α:Type} (xs:List α) (k:Nat):(List.replicate k xs).flatten.length=k*xs.length:=by
 induction k with
 | zero=>simp
 | succ k ih=>rw [List.replicate_succ,List.flatten_cons,List.length_append,ih,Nat.succ_mul,Nat.add_comm]
theorem op_rep:OpR X (binaryOp .Mult) rRep:=by
 intro pins s σ H x y v u Q I rx ry h
 obtain ⟨l,k,xs,rfl,rfl,hH,h1,h2,hz,q⟩:=h
 cases rx
 obtain ⟨t,rfl⟩:=ry
 obtain ⟨z,its,n,r,hl,e⟩:=I.lstM hH
 have hlen:its.toArray.size*k.toNat≤sizeLine:=by rw [List.size_toArray,← hl];exact hz
 have hcap:¬ its.toArray.size*k.toNat > (2 ^ 63 - 1) / 8:=by
  have:(sizeLine:Nat)≤(2 ^ 63 - 1) / 8:=by decide
  omega
 have hfit:¬ (!Builtin.List.listFitsIndex k)=true:=by
  rw [fitsIndex_both h1 h2]
  exact Bool.false_ne_true
 have hlong:¬ Builtin.List.listTooLong (its.toArray.size*k.toNat)=true:=by
  rw [mw hlen]
  exact Bool.false_ne_true
 have hnew:List.foldl (fun x1 x2=>x1++x2) #[] (List.replicate (if its.toArray.isEmpty=true then 0 else k.toNat) its.toArray)=(List.replicate k.toNat its).flatten.toArray:=by
  have f0:∀ m:Nat,List.foldl (fun x1 x2=>x1++x2) #[] (List.replicate m its.toArray)=(List.replicate m its).flatten.toArray:=fun m=>by
   have:=kD its m []
   rw [List.nil_append] at this
   exact this
  rw [f0]
  cases its with
  | nil=>simp
  | cons a r'=>rw [if_neg (by simp)]
 refine wpAny_binaryOp_repeat_ref (T:="list") (U:="int") (by decide) ⟨_,e,rfl⟩ (fun s'=>typeIs_int s' k t) noFill_list_mul F.fills_int_mul F.slot_int_rmul repeat_list F.slot_int_index.lookup
  (call_meets F.slot_int_rmul (typeIs_int s k t) F.entry_int_rmul (F.args_int_rmul_2 _ _) (int___rmul___int_list k t l its.toArray n)
   ⟨e,rfl,⟨_,e,rfl⟩,call_meets F.slot_list_mul ⟨_,e,rfl⟩ F.entry_list_mul (F.args_list_mul_2 _ _) (AutoListH.list___mul___list_int_3 l its.toArray n k t hfit hcap hlong) ⟨e,?_⟩⟩)
 rw [hnew]
 exact ⟨.ref _,_,I.lnew (t':=s.toks) (r.rep k.toNat) (by rw [len_rep,Nat.mul_comm];exact hz),rfl,q _ I.fresh⟩
end
section
variable {prog:Program}{w:World}{A:Around}{E:Value→Shared→Prop}{s:Shared}
set_option maxRecDepth 100000 in
end
section
variable {X:Cx}
end
end L2
namespace Att
open PySem PySem.W PySem.Calls PyProof.Rows
theorem iA {P:Params}{h:Heap}:∀ (ns:List Int) (vs:List Value),WellAll P h vs (ns.map WData.int)→IntsAre vs ns:=by
 intro ns
 induction ns with
 | nil =>
  intro vs w
  rw [List.map_nil] at w
  cases w
  exact .nil
 | cons n ns ih =>
  intro vs w
  rw [List.map_cons] at w
  cases w with
  | cons a b =>
   cases a
   exact .cons _ _ (ih _ b)
theorem oZ {l:OpenLaw}{n:Nat} (hn:l.most=some n) {P:Params}{h:Heap}{args:List WData}{vals:List Value}
  (hpre:l.row.toRowW.claim.pre args=true) (hwl:WellAll P h vals args) :
  ∃ a vs ns,vals=[Value.ref a]∧args=[WData.list (ns.map WData.int)]∧h.get? a=some { cls:=.type "list",data:=.seq vs.toArray }∧IntsAre vs ns∧ns.length≤n:=by
 have hsh:WShape.hasAll [] args [.list .int]=true:=(pre_splitW hpre).1
 have hc:l.pre.holds [] { args:=args }=true:=(pre_splitW hpre).2
 obtain ⟨d,r,rfl,h1,h2⟩:=hasAllW_cons hsh
 obtain rfl:=hasAllW_nil h2
 obtain ⟨xs,rfl,h3⟩:=hasW_list h1
 obtain ⟨ns,rfl⟩:=items_int h3
 have hlen:ns.length≤n:=by
  unfold OpenLaw.pre at hc
  have h4:(WTm.not (.lt (.lit (.int (n:Int))) (.len (.arg 0)))).holds [] { args:=[.list (ns.map .int)] }=true:=by
   have h4:=(holds_andW hc).1
   rw [hn] at h4
   exact h4
  have h5:=condW_of h4 (w_not (w_lt w_lit (w_len_list (w_arg rfl))))
  rw [List.length_map] at h5
  refine Nat.le_of_not_lt fun q=>?_
  have q':(n:Int)<((ns.length:Nat):Int):=by omega
  first
   | (rw [decide_eq_true q'] at h5;exact absurd h5 (by decide))
   | (simp at h5;omega)
 cases hwl with
 | cons w1 w2 =>
  cases w2
  cases w1 with
  | list ho hall=>exact ⟨_,_,ns,rfl,rfl,ho,iA ns _ hall,hlen⟩
theorem pf (l:OpenLaw) (args:List WData):l.row.toRowW.claim.post args (.bool true) args=true :=
 postW_of (r:=l.row.toRowW) (X:=(true == true))
  (show WShape.has [] (.bool true) .bool=true by first | rfl | decide | simp [WShape.has,WShape.arms,WShape.armsAll])
  (show (WTm.eq .res (.lit (.bool true))).value [] { args:=args,res:=some (.bool true),after:=args }=some (.bool (true == true)) from w_eq_bool (w_res rfl) w_lit) rfl
theorem attach_call {l:OpenLaw}{n:Nat}{q:Program}{loose:List Str}{XP:(Str→Option Value)→Heap→Prop}{YP:World→Heap→Prop}{d:DefRec}
  (hn:l.most=some n) (hdf:d.params.defaults=[])
  (call:∀ (w:World) (s₀ s₁:Shared) (mg mb:Str→Option Value) (fa:Addr) (o:Obj) (pm cd doc:Value) (a:Addr) (vs:List Value) (ns:List Int),
   Ground q loose [] XP w s₀ mg mb s₁.heap→YP w s₁.heap →
   s₁.heap.get? fa=some o→o.data=.func (docDef d.name d.params d.body d.scope pm cd doc)→s₁.heap.CodeRec cd d.name→mg d.name=some (.ref fa) →
   s₁.heap.get? a=some { cls:=.type "list",data:=.seq vs.toArray }→IntsAre vs ns→ns.length≤n→s₁.gens=#[] →
   codeAny (model l.prog w) callerA (.call (.ref fa) ⟨[.ref a],[]⟩) (fun r s'=>r=.ok (.ret (.bool true))∧OldK s₁.heap s'.heap∧s'.os=s₁.os∧AllBare s'.gens) s₁) :
  WalkO q loose XP YP l.row.toRowW d [] (fun f vs=>PySem.call f vs):=by
 intro w s₀ s₁ mg mb G Y fa o pm cd doc dV kV ho hd hcd hD hmg hg args vals as hpre hlay hrd hwl hlo
 obtain rfl:dV=.none:=Dflts.none hD hdf
 obtain rfl:kV=.none:=Dflts.noKw hD
 obtain ⟨a,vs,ns,rfl,rfl,hobj,hints,hlen⟩:=oZ hn hpre hwl
 refine enter_call (codeAny_mono (call w s₀ s₁ mg mb fa o pm cd doc a vs ns G Y ho (fd_plain hd) hcd hmg hobj hints hlen hg) fun r s' hq=>?_)
 obtain ⟨rfl,h2,h3,h4⟩:=hq
 exact ⟨.inl ⟨.bool true,.bool true,[],rfl,fun _=>rfl,.bool true,pf l _,fun _=>⟨List.Pairwise.nil,fun _ hm=>(nomatch hm)⟩⟩,h2,h3,h4⟩
section
variable {prog:Program}{w:World}{A:Around}{E:Value→Shared→Prop}{s:Shared}{K:Frag}
def ledger (h:Heap) (L d:Addr):List (Addr×Obj):=(List.range h.objs.size).filterMap fun a=>if a=L∨a=d then none else (h.get? a).map fun o=>(a,o)
end
end Att
namespace L2
open PySem PySem.Spec PyProof.Rows
theorem jX:∀ {vs:List Value}{ns:List Int},IntsAre vs ns→Vals (ns.map V.int) vs
 | _,_,.nil=>.nil
 | _,_,.cons n t h=>.cons ⟨t,rfl⟩ (jX h)
def Only (H:Hp):Prop:=∀ b,H b=none∨∃ o xs,H b=some (.frz o (.lst xs))
theorem law_call {P:Program}{w:World}{K:PySem.W.Frag}{mg mb:Str→Option Value}{CX:CXT}{k:Nat}{fa a:Addr}{fd:FuncData}{x:Str}{sp:Sp}{s₁:Shared}{vs:List Value}{ns:List Int}
  (KX:K.In s₁.heap) (hns:s₁.heap.Ns mainGlobals mg) (hb:s₁.heap.Ns builtinsNs mb) (hbb:∀ x:Str,x≠"__name__"→mb x=bootBuiltins x) (hlim:s₁.heap.NoLimit) (hg:s₁.gens=#[])
  (ha:s₁.heap.get? a=some { cls:=.type "list",data:=.seq vs.toArray }) (hi:IntsAre vs ns) (hl:ns.length≤sizeLine) (hr:Room k callerA)
  (F:∀ base:Heap,K.In base→base.Ns mainGlobals mg→gD P w K mg base CX k fa fd [x] sp) (hbind:∀ (s:Shared) (u:Value),BindsTo s fd ⟨[u],[]⟩ [(x,u)])
  (hsp:∀ H:Hp,Only H→SqL K H a (ns.map V.int)→sp [.ref a] H (fun v _=>v=.bl true) fun _ _ _=>False)
  (hCX:∀ H e s',CX [] H s₁ (fun _ _ _=>False) e s'→False) :
  codeAny (model P w) callerA (.call (.ref fa) ⟨[.ref a],[]⟩) (fun r s'=>r=.ok (.ret (.bool true))∧OldK s₁.heap s'.heap∧s'.os=s₁.os∧AllBare s'.gens) s₁:=by
 have rv:=jX hi
 have lenV:=hi.length
 have core:∀ H:Hp,Only H→SqL K H a (ns.map V.int)→HOk P w H s₁.heap→(∀ b,H b≠none→b=a)→(H a≠none→K.lookup a=none) →
   codeAny (model P w) callerA (.call (.ref fa) ⟨[.ref a],[]⟩) (fun r s'=>r=.ok (.ret (.bool true))∧OldK s₁.heap s'.heap∧s'.os=s₁.os∧AllBare s'.gens) s₁:=by
  intro H hO hS hok hA hK
  have base_of:∀ {b:Addr}{o:Obj},s₁.heap.get? b=some o→H b=none→(hidT s₁.heap H).get? b=some o:=fun e n=>hidT_get e n
  have noA:∀ {b:Addr}{o:Obj}{es:Array DictEntry}{ep:Nat},s₁.heap.get? b=some o→o.data=.dict es ep→H b=none:=fun {b o es ep} e d=>by
   cases q:H b with
   | none=>rfl
   | some u =>
    have e':b=a:=hA b (by rw [q];simp)
    subst e'
    rw [ha] at e;cases e
    have d':Data.seq vs.toArray _=Data.dict es ep:=d
    cases d'
  have nsK:∀ {b:Addr}{m:Str→Option Value},s₁.heap.Ns b m→(hidT s₁.heap H).Ns b m:=fun {b m} ⟨o,es,ep,e,d,r⟩=>⟨o,es,ep,base_of e (noA e d),d,r⟩
  have hKb:K.In (hidT s₁.heap H):=fun b o e=>base_of (KX b o e) (by
   cases q:H b with
   | none=>rfl
   | some u =>
    have e':b=a:=hA b (by rw [q];simp)
    subst e'
    rw [hK (by rw [q];simp)] at e;cases e)
  have hM:Mod K mg (hidT s₁.heap H):=⟨hKb,nsK hns,⟨mb,nsK hb,hbb⟩,let ⟨mc,h1,h2⟩:=hlim;⟨mc,nsK h1,h2⟩⟩
  have e0:Env0 P w K mg (hidT s₁.heap H) callerA [] s₁ H:=⟨rfl,hM,fun b o e=>of_hidT e,Nat.le_of_eq (pV _ _),trivial,fun b hb=>absurd (show b∈([]:List Addr) from hb) (by simp),hok,.of_eq hg⟩
  refine codeAny_mono ((F _ hKb (nsK hns)).run callerA [] s₁ H ⟨[.ref a],[]⟩ [.ref a] [.ref a] _ _ hr e0 (hbind s₁ (.ref a)) (.cons rfl .nil) (hsp H hO hS)) fun r s' h=>?_
  cases r with
  | error e=>exact (hCX H e s' h).elim
  | ok fl =>
   cases fl with
   | next=>exact False.elim h
   | brk=>exact False.elim h
   | cont=>exact False.elim h
   | ret u =>
    obtain ⟨v,H',os,bare,un,hok',r',q⟩:=h
    have q':v=.bl true:=q
    subst q'
    obtain rfl:u=Value.bool true:=r'
    refine ⟨rfl,OldK.of_keep fun b o e=>?_,os,bare⟩
    cases q:H b with
    | none=>exact un.keep b o e q (by intro z;exact absurd (show b∈([]:List Addr) from z) (by simp)) (by simp)
    | some u =>
     rcases hO b with z | ⟨ob,xs,z⟩
     ·rw [q] at z;cases z
     ·have z2:=un.frzs b ob _ z
      obtain ⟨e1,_⟩:=hok b _ z
      obtain ⟨e2,_⟩:=hok' b _ z2
      rw [e] at e1;cases e1
      exact e2
 cases hk:K.lookup a with
 | some o =>
  have e:=KX a o hk
  rw [ha] at e
  cases e
  refine core (fun _=>none) (fun _=>.inl rfl) (.inr ⟨_,vs.toArray,_,hk,rfl,rfl,rfl,by rw [List.size_toArray,lenV];exact hl,by simpa using rv⟩) (fun b u z=>by have z':(none:Option HO)=some u:=z;cases z') (fun b z=>absurd rfl z) fun z=>absurd rfl z
 | none =>
  refine core (fun b=>if b=a then some (.frz { cls:=.type "list",data:=.seq vs.toArray } (.lst (ns.map V.int))) else none) (fun b=>?_) (.inl (.inr ⟨{ cls:=.type "list",data:=.seq vs.toArray },if_pos rfl⟩)) (fun b u z=>?_) (fun b z=>?_) fun _=>hk
  ·by_cases hb:b=a
   ·exact .inr ⟨_,_,if_pos hb⟩
   ·exact .inl (if_neg hb)
  ·by_cases hb:b=a
   ·have z':=(if_pos hb).symm.trans z
    cases z'
    subst hb
    exact ⟨ha,by rw [List.length_map];exact hl,vs,_,rv,ha⟩
   ·have z':=(if_neg hb).symm.trans z
    cases z'
  ·by_cases hb:b=a
   ·exact hb
   ·exact absurd (if_neg hb) z
end L2
namespace L2
open PySem PySem.Spec PyProof.Rows
abbrev KOf {K:PySem.W.Frag}{h:Heap} (_:K.In h):PySem.W.Frag:=K
theorem walk_of {l:PySem.W.OpenLaw}{n k:Nat}{q:Program}{loose:List Str}{XP:(Str→Option Value)→Heap→Prop}{YP:World→Heap→Prop}{d:DefRec}{K:Params→PySem.W.Frag}{CX:World→CXT}{sp:World→Sp}{x:Str}
  (hn:l.most=some n) (hn2:n≤sizeLine) (hdf:d.params.defaults=[]) (hr:Room k callerA)
  (hY:∀ (w:World) (h:Heap),YP w h→(K w.params).In h)
  (F:∀ (w:World) (mg:Str→Option Value) (fa:Addr) (h:Heap),(K w.params).In h→h.Ns mainGlobals mg→mg d.name=some (.ref fa) →
   ∃ fd:FuncData,(∀ (s:Shared) (u:Value),BindsTo s fd ⟨[u],[]⟩ [(x,u)]) ∧
    ∀ base:Heap,(K w.params).In base→base.Ns mainGlobals mg→gD l.prog w (K w.params) mg base (CX w) k fa fd [x] (sp w))
  (hsp:∀ (w:World) (H:Hp) (a:Addr) (ns:List Int),ns.length≤n→Only H→SqL (K w.params) H a (ns.map V.int)→sp w [.ref a] H (fun v _=>v=.bl true) fun _ _ _=>False)
  (hCX:∀ (w:World) (H:Hp) (s:Shared) (e:Value) (s':Shared),CX w [] H s (fun _ _ _=>False) e s'→False) :
  PySem.W.WalkO q loose XP YP l.row.toRowW d [] (fun f vs=>PySem.call f vs):=by
 refine Att.attach_call hn hdf fun w s₀ s₁ mg mb fa o pm cd doc a vs ns G Y ho hd hcd hmg hobj hints hlen hg=>?_
 have KX:=hY w _ Y
 obtain ⟨fd,hb,hF⟩:=F w mg fa _ KX G.T.g hmg
 exact law_call KX G.T.g G.T.b G.T.builtins G.T.nolimit hg hobj hints (Nat.le_trans hlen hn2) hr hF hb (fun H hO hS=>hsp w H a ns hlen hO hS) fun H e s'=>hCX w H s₁ e s'
end L2
namespace L2
open PySem PySem.Spec PyProof.Rows
def dQ (s:Stmt) (j:Nat):Stmt:=match s with
 | .ClassDef _ _ _ body _ _ _ _ _ _ _=>body.getD j (.Pass ⟨0,0,0,0⟩)
 | _=>.Pass ⟨0,0,0,0⟩
def lQ (s:Stmt):Arguments:=match s with
 | .FunctionDef _ a _ _ _ _ _ _ _ _=>a
 | _=>{ posonlyargs:=[],args:=[],vararg:=none,kwonlyargs:=[],kw_defaults:=[],kwarg:=none,defaults:=[] }
def gg (s:Stmt):List Stmt:=match s with
 | .FunctionDef _ _ b _ _ _ _ _ _ _=>b
 | _=>[]
def am (s:Stmt):Scope:=match s with
 | .FunctionDef _ _ _ _ _ _ sc _ _ _=>sc
 | _=>{ kind:=.function,names:=[],isGenerator:=false,isCoroutine:=false }
abbrev CX0:CXT:=fun _ _ _ _ _ _=>False
abbrev E0:XK:=fun _ _ _=>False
theorem pass0 {X:Cx}:gr CX0 X E0:=fun _ _ _ _ _ _ _ h=>h.elim
structure Fun (K:PySem.W.Frag) (x qual:Str) (st:Stmt) (f:Addr) (fd:FuncData):Prop where
 ex:∃ (oc:Value) (od:Option Addr) (kV doc pm:Value) (an:Option Addr) (cdv ct:Value) (osl:Array (Option Value)),
  fd=PySem.W.fnOf x qual (lQ st) (gg st) (am st) .none kV doc pm an cdv ct∧K.lookup f=some ⟨oc,od,.func fd,osl⟩∧PySem.W.codeIn K cdv qual=true
 kp:PySem.W.keepIn K (.ref f)=true
section
variable {P:Program}{w:World}{K:PySem.W.Frag}{mg:Str→Option Value}{base:Heap}
theorem Fun.ok {x qual:Str}{st:Stmt}{f:Addr}{fd:FuncData}{N ps:List Str}{k:Nat}{sp:Sp} (F:Fun K x qual st f fd) (S:aq N ps (am st)) (len:∀ vs H Q E,sp vs H Q E→vs.length=ps.length)
  (hbody:∀ (cdv:Value) (A:Around) (outer:List Env) (s:Shared) (H:Hp) (vs:List V) (Q:VK) (E:XK),Room k (A.deeper (envOfC qual (am st) s.heap.objs.size f cdv))→sp vs H Q E →
   ∃ t,PSs (gC CX0 P w K mg base N qual (am st) f cdv A outer s H E).nox (gg st) t∧t { nx:=fun _ H'=>Q .non H',rt:=Q } (start N vs) H):gD P w K mg base CX0 (k+1) f fd ps sp:=by
 obtain ⟨oc,od,kV,doc,pm,an,cdv,ct,osl,rfl,lk,hcd⟩:=F.ex
 refine fn_of lk hcd S len fun A outer s H vs Q E hr hsp=>?_
 obtain ⟨t,h,q⟩:=hbody cdv A outer s H vs Q E hr hsp
 exact ⟨t,h.nox,q⟩
theorem Fun.binds {x qual:Str}{st:Stmt}{f:Addr}{fd:FuncData}{ps:List Str} (F:Fun K x qual st f fd)
  (h:∀ (kV doc pm:Value) (an:Option Addr) (cdv ct:Value) (us:List Value),us.length=ps.length→bindArgs (PySem.W.fnOf x qual (lQ st) (gg st) (am st) .none kV doc pm an cdv ct) ⟨us,[]⟩=pure (ps.zip us)):Binds K fd ps []:=by
 obtain ⟨oc,od,kV,doc,pm,an,cdv,ct,osl,rfl,lk,hcd⟩:=F.ex
 exact .all (h kV doc pm an cdv ct)
end
theorem aw {n:Nat} (h:n≤1000):n<sizeLine:=Nat.lt_of_le_of_lt h (by decide)
section
variable {X:Cx}
theorem pv (i:Nat) {x:Str}{pos:Pos} (hN:X.N[i]?=some x:=by rfl) (hv:Vis X.env.scope x:=by first | exact Or.inl rfl | exact Or.inr (Or.inl rfl) | exact Or.inr (Or.inr rfl)) (hd:(x == ("__debug__":Str))=false:=by decide)
  (hcd:(x == ("__classdict__":Str))=false:=by decide):PE X (.Name x pos) (tVar i):=pe_var hN hv hd hcd
end
theorem iteF {A B:Prop} (h:B):if false=true then A else B:=by
 rw [if_neg Bool.false_ne_true]
 exact h
theorem iteT {A B:Prop} (h:A):if true=true then A else B:=by
 rw [if_pos rfl]
 exact h
theorem bP {c A B:Prop} [Decidable c] (h1:c→A) (h2:¬ c→B):if c then A else B:=by
 by_cases h:c
 ·rw [if_pos h]
  exact h1 h
 ·rw [if_neg h]
  exact h2 h
def Same (H H':Hp):Prop:=∀ b o,H b=some o→H' b=some o
theorem Same.refl (H:Hp):Same H H:=fun _ _ h=>h
theorem Same.trans {H H1 H2:Hp} (a:Same H H1) (b:Same H1 H2):Same H H2:=fun c o h=>b c o (a c o h)
theorem Same.free {H H':Hp} (e:Same H H') {l:Addr} (h:H' l=Option.none):H l=Option.none:=by
 cases q:H l with
 | none=>rfl
 | some o =>
  rw [e l o q] at h
  cases h
theorem Same.seq {K:PySem.W.Frag}{H H':Hp}{a:Addr}{xs:List V} (e:Same H H') (h:SqL K H a xs):SqL K H' a xs:=by
 rcases h with (h | ⟨o,h⟩) | h
 ·exact .inl (.inl (e _ _ h))
 ·exact .inl (.inr ⟨o,e _ _ h⟩)
 ·exact .inr h
end L2
set_option maxHeartbeats 4000000
namespace L2
open PySem PySem.Spec PyProof.Rows
section
variable {κ:Type} [DecidableEq κ]
def valV (kvs:List (κ×V)) (k:κ):Option V:=(kvs.find? fun kv=>decide (kv.1=k)).map (·.2)
theorem ji {p:κ×V}{r:List (κ×V)}{k:κ} (e:p.1=k):valV (p::r) k=some p.2:=by simp [valV,List.find?_cons,e]
theorem lW {p:κ×V}{r:List (κ×V)}{k:κ} (e:¬ p.1=k):valV (p::r) k=valV r k:=by simp [valV,List.find?_cons,e]
theorem RelO.getD {o:Option V}{u:Option Value}{d:V}{d':Value} (r:RelO o u) (rd:RelV d d'):RelV (o.getD d) (u.getD d'):=by
 cases o with
 | none=>cases u with
  | none=>exact rd
  | some _=>exact (show False from r).elim
 | some _=>cases u with
  | none=>exact (show False from r).elim
  | some _=>exact r
theorem KV.val {kvs:List (κ×V)}{vs:List (κ×Value)} (r:KV kvs vs) (k:κ):RelO (valV kvs k) (valueAt vs k):=by
 unfold KV at r
 induction r with
 | nil=>exact True.intro
 | @cons p q ps qs h t ih =>
  obtain ⟨h1,h2⟩:=h
  by_cases e:p.1=k
  ·have e':q.1=k:=h1.symm.trans e
   have b:valueAt (q::qs) k=some q.2:=by simp [valueAt,List.find?_cons,e']
   rw [ji e,b];exact h2
  ·have e':¬ q.1=k:=fun z=>e (h1.trans z)
   have b:valueAt (q::qs) k=valueAt qs k:=by simp [valueAt,List.find?_cons,e']
   rw [lW e,b];exact ih
end
theorem kV_is {P:Program}{w:World}{k:Key}{u:Value} (r:RelV (kV k) u):(dO P w).is k u=true:=by
 cases k with
 | inl i=>obtain ⟨t,e⟩:=(show ∃ t,u=Value.int i t from r);subst e;exact lC P w i t
 | inr x=>obtain ⟨t,e⟩:=(show ∃ t,u=Value.str x t from r);subst e;exact bq P w x t
section
variable {P:Program}{w:World}{H:Hp}{h:Heap}{a:Addr}
end
section
variable {X:Cx}{pins:List (Addr×Obj)}{σ:St}{H:Hp}{s:Shared}{a:Addr}{y v:V}{u r:Value}{o:Option V}{A:Around}{E:Value→Shared→Prop}
end
section
variable {X:Cx}{pins:List (Addr×Obj)}{σ:St}{H:Hp}{s:Shared}{a:Addr}{kvs:List (Key×V)}{k:Key}{u:Value}{A:Around}{E:Value→Shared→Prop}
end
section
variable {X:Cx}{o i e value:Expr}{pos pos' tpos:Pos}{td ty tv:TE}
end
section
variable {X:Cx}{pos:Pos}
end
structure M1 (X:Cx) (o:Expr) (m:Str) (apos:Pos) (e:Expr) (cpos:Pos):Prop where
 base:attributeBase o m X.env (eval o X.env)=eval o X.env
 few:((backTo cpos (starEach [e] X.env)).all (fun x=>!x.1) && (backToKw cpos (keywordEach [] X.env)).all (fun x=>x.1.isSome)
  && decide (([e]:List Expr).length+([]:List Keyword).length+(if ([]:List Keyword).isEmpty then 0 else 1)<30))=true
 line:(apos.endLine == cpos.line)=true
 trees:backTo cpos (starEach [e] X.env)=[(false,eval e X.env)]
structure M2 (X:Cx) (o:Expr) (m:Str) (apos:Pos) (e f:Expr) (cpos:Pos):Prop where
 base:attributeBase o m X.env (eval o X.env)=eval o X.env
 few:((backTo cpos (starEach [e,f] X.env)).all (fun x=>!x.1) && (backToKw cpos (keywordEach [] X.env)).all (fun x=>x.1.isSome)
  && decide (([e,f]:List Expr).length+([]:List Keyword).length+(if ([]:List Keyword).isEmpty then 0 else 1)<30))=true
 line:(apos.endLine == cpos.line)=true
 trees:backTo cpos (starEach [e,f] X.env)=[(false,eval e X.env),(false,eval f X.env)]
section
variable {X:Cx}{pins:List (Addr×Obj)}{σ:St}{H:Hp}{s:Shared}{a:Addr}{y d:V}{u r:Value}{o:Option V}{A:Around}{E:Value→Shared→Prop}
end
section
variable {X:Cx}{o e f:Expr}{apos cpos:Pos}{td ty tx:TE}
end
section
variable {X:Cx}{pins:List (Addr×Obj)}{σ:St}{H:Hp}{s:Shared}{a:Addr}{kvs:List (Key×V)}{A:Around}{E:Value→Shared→Prop}
end
section
variable {X:Cx}{pins:List (Addr×Obj)}{σ:St}{H:Hp}{s:Shared}{a:Addr}{y:V}{u:Value}{A:Around}{E:Value→Shared→Prop}
end
end L2
namespace L2
open PySem PySem.Spec PyProof.Rows
section
variable {P:Program}{w:World}{H:Hp}{h h':Heap}{p:Addr}{o:HO}{ch:List Addr}
theorem HOk.keptBut (x:HOk P w H h) (k:∀ b u,b∉ch→h.get? b=some u→h'.get? b=some u) (hn:∀ b∈ch,H b=none):HOk P w H h':=fun b u e =>
 (x b u e).stay (fun c v hc q=>k c v (fun hm=>by
  rcases hc with z | z
  ·rw [z] at hm;rw [hn _ hm] at e;cases e
  ·rw [hn c hm] at z;cases z) q) (fun _ q=>q) fun _ _ q=>q
theorem HOk.laidBut (x:HOk P w H h) (k:∀ b u,b∉ch→h.get? b=some u→h'.get? b=some u) (hn:∀ b∈ch,H b=none) (hp:h.objs.size≤p) (new:ObjOk P w (upd H p o) h' p o):HOk P w (upd H p o) h':=fun b u e=>by
 have hnp:=x.fresh hp
 by_cases hb:b=p
 ·subst hb;rw [ad] at e;cases e;exact new
 ·rw [ar hb] at e
  refine (x b u e).stay (fun c v hc q=>k c v (fun hm=>?_) q) (fun c q=>by rw [ar (aD q hnp)];exact q) fun c xs q=>by rw [ar (aD q hnp)];exact q
  rcases hc with z | z
  ·rw [z] at hm;rw [hn _ hm] at e;cases e
  ·rw [hn c hm] at z;cases z
end
section
variable {X:Cx}{pins:List (Addr×Obj)}{σ:St}{H H':Hp}{s:Shared}{h':Heap}
theorem Inv.turnedL {t':Nat}{ch:List Addr} (I:Inv X pins σ H s) (hf:∀ b∈ch,kO X pins H b) (k:∀ b u,b∉ch→s.heap.get? b=some u→h'.get? b=some u)
  (hH:∀ b u,H b=some u→H' b=some u) (hfree:∀ b u,s.heap.get? b=some u→H b=none→H' b=none) (hok:HOk X.prog X.w H' h'):Inv X pins σ H' { s with heap:=h',toks:=t' }:=by
 refine I.step (g':=s.gens) (d':=s.drawn) (ch:=ch) (fun b hb=>?_) (fun b u _ _ hc e _=>k b u hc e) (fun b u _ _ hc e _=>⟨u.slots,k b u hc e⟩) (fun b u _ e n=>hfree b u e n)
  (fun b u hc e=>⟨u,k b u hc e⟩) (fun b xs e=>hH _ _ e) (fun b u v e=>hH _ _ e) (fun b ps e=>⟨#[],by rw [hH _ _ e];simp⟩) (fun m hm=>?_) hok I.bare
 ·obtain ⟨f0,f1,f2,f3,f4,f5⟩:=hf b hb
  exact ⟨f3,f1,f4,f5⟩
 ·obtain ⟨u,es,ep,ho,r⟩:=hm
  exact ⟨u,es,ep,k _ u (fun z=>(hf _ z).2.1 rfl) ho,r⟩
theorem Inv.turnedK {t':Nat}{ch:List Addr} (I:Inv X pins σ H s) (hf:∀ b∈ch,kO X pins H b) (k:∀ b u,b∉ch→s.heap.get? b=some u→h'.get? b=some u):Inv X pins σ H { s with heap:=h',toks:=t' } :=
 I.turnedL hf k (fun _ _ e=>e) (fun _ _ _ e=>e) (I.hok.keptBut k fun b hb=>(hf b hb).1)
theorem Inv.turnedN {t':Nat}{ch:List Addr}{p:Addr}{o:HO} (I:Inv X pins σ H s) (hf:∀ b∈ch,kO X pins H b) (k:∀ b u,b∉ch→s.heap.get? b=some u→h'.get? b=some u)
  (hp:s.heap.objs.size≤p) (new:ObjOk X.prog X.w (upd H p o) h' p o):Inv X pins σ (upd H p o) { s with heap:=h',toks:=t' } :=
 I.turnedL hf k (fun b u e=>by rw [ar (aD e (I.hok.fresh hp))];exact e)
  (fun b u e n=>by rw [ar (Nat.ne_of_lt (Nat.lt_of_lt_of_le (Heap.lt_size e) hp))];exact n) (I.hok.laidBut k (fun b hb=>(hf b hb).1) hp new)
end
theorem on1 {p:Addr→Prop}{a:Addr} (h:p a):∀ b∈[a],p b:=fun b hb=>by
 rw [show b=a by simpa using hb]
 exact h
def qx (K:PySem.W.Frag) (a:Addr) (n:Nat):It :=
 ⟨fun i H=>i<n∧∃ xs,SqL K H a xs∧xs.length=n,fun i H x H'=>H'=H∧∀ xs,SqL K H a xs→xs.length=n→xs[n - 1 - i]?=some x,fun i _=>i=n⟩
theorem turn_rev {P:Program}{w:World}{K:PySem.W.Frag}{tg:Expr} (a it:Addr) (n:Nat):Turn P w K tg (qx K a n) [it] it (fun i h=>h.IsRevIter it a ((n:Int) - 1 - (i:Nat))) where
 mem:=by simp
 obj:=fun i h st b hb=>by
  have e:b=it:=by simpa using hb
  subst e
  obtain ⟨o,e,c,d⟩:=st
  exact ⟨o,e,fun v z=>by rw [d] at z;cases z⟩
 keep:=fun i h h' st k=>st.at fun o e=>k it (by simp) o e
 item:=by
  intro X hP hw hK hc i pins s σ H E I hf st hg
  subst hP hw hK
  obtain ⟨hin,xs,hq,hl⟩:=hg
  obtain ⟨its,rv,p,hz⟩:=I.list hq
  have hj:n - 1 - i<xs.length:=by omega
  have hx:xs[n - 1 - i]?=some xs[n - 1 - i]:=List.getElem?_eq_getElem hj
  obtain ⟨u,hu,ru⟩:=rv.get hx
  have f:=hf it (by simp)
  have e1:(n:Int) - 1 - (i:Nat)=((n - 1 - i:Nat):Int):=by omega
  have e2:((n - 1 - i:Nat):Int) - 1=(n:Int) - 1 - ((i+1:Nat):Int):=by omega
  have st1:=st
  rw [e1] at st1
  refine wpAny_pyNext_rev_item st1 p.isList (x:=u) (by simpa using hu) fun h' st' sb=>?_
  rw [e2] at st'
  have I1:Inv X pins σ H { s with heap:=h' }:=I.turnedK (t':=s.toks) (ch:=[it]) (on1 f) fun b o hb e=>(sb.2 b (by simpa using hb)).trans e
  obtain ⟨o,e,c,d⟩:=id st'
  exact ⟨u,rfl,go_of (s:={ s with heap:=h' }) e c d (by decide) ⟨xs[n - 1 - i],H,I1,ru,⟨rfl,fun ys hy _=>by rw [I.list_inj hy hq];exact hx⟩,st',fun b hb=>(hf b hb).1⟩⟩
 done:=by
  intro X hP hw hK hc i pins s σ H E I hf st hg
  subst hP hw hK
  have hin:i=n:=hg
  subst hin
  have f:=hf it (by simp)
  have st1:=st
  rw [show (i:Int) - 1 - (i:Nat) = -1 by omega] at st1
  exact wpAny_pyNext_rev_end (I.ok.hd hc) st1 fun h' eb=>⟨rfl,I.turnedK (t':=s.toks) (ch:=[it]) (on1 f) fun b o hb e=>eb b o (by simpa using hb) e⟩
 self:=fun _ _ _ _ _ st h=>wpAny_pyIter_revIter st h
def iRev (K:PySem.W.Frag) (ta:TA):TI:=fun σ H R=>ta σ H fun vs H1=>∃ l xs,vs=[.ref l]∧SqL K H1 l xs∧R (qx K l xs.length) H1
section
variable {X:Cx}{tg:Expr}
theorem pY {pins:List (Addr×Obj)}{σ:St}{H H':Hp}{s:Shared} (I:Inv X pins σ H s) (hH:∀ b,s.heap.objs.size≤b→H' b=none) {fp:List Addr} (h:∀ b∈fp,s.heap.objs.size≤b):∀ b∈fp,kO X pins H' b :=
 fun b hb=>I.fpOk (h b hb) (hH b (h b hb))
theorem pi_rev {a:Expr}{ta:TA}{p pos:Pos} (hg:Gl X "reversed") (hm:X.mg "reversed"=none) (ha:PA X [a] ta) (hs:starEach [a] X.env=[(false,eval a X.env)]:=by rfl):PI X tg (.Call (.Name "reversed" p) [a] [] pos) (iRev X.K ta):=by
 intro pins s σ H R I h
 refine Call_ (eF I hg hm boot_reversed (PyProof.Rows.callWith_type1 (thn (ha pos pins s σ H _ I h) fun us s1 ⟨vs,H1,I1,r1,q1⟩=>?_) hs rfl))
 obtain ⟨l,xs,e,hq,q⟩:=q1
 subst e
 obtain ⟨u,rfl,ru⟩:=r1.one
 cases ru
 obtain ⟨its,rv,pl,hz⟩:=I1.list hq
 refine call_reversed_list pl.isList ?_
 have st:Heap.IsRevIter (s1.heap.push (revObj l ((its.toArray.size:Int) - 1))) s1.heap.objs.size l ((xs.length:Int) - 1 - ((0:Nat):Int)):=by
  refine ⟨_,Heap.get?_push_size _ rfl,rfl,?_⟩
  have e:((its.toArray.size:Nat):Int) - 1=(xs.length:Int) - 1 - ((0:Nat):Int):=by rw [List.size_toArray,← rv.length];omega
  rw [← e]
  rfl
 refine wpAny_pyIter_revIter st ?_
 refine ⟨s1.heap.objs.size,[s1.heap.objs.size],_,_,H1,rfl,I1.kept (t':=s1.toks) fun b o e=>Heap.get?_push_of_some _ e,turn_rev l _ xs.length,st,?_,q⟩
 exact pY I1 (fun b hb=>I1.hok.fresh hb) (on1 (p:=fun b=>s1.heap.objs.size≤b) (Nat.le_refl _))
end
def Itz (K:PySem.W.Frag) (a b:Addr):It :=
  ⟨fun i H=>∃ xs ys x y,SqL K H a xs∧SqL K H b ys∧xs[i]?=some x∧ys[i]?=some y,
   fun i H v H'=>∃ p,H p=none∧v=.ref p∧∀ xs ys x y,SqL K H a xs→SqL K H b ys→xs[i]?=some x→ys[i]?=some y→H'=upd H p (.tup [x,y]),
   fun i H=>∃ xs ys,SqL K H a xs∧SqL K H b ys∧(xs.length≤i∨ys.length≤i)⟩
section
variable {X:Cx}{pins:List (Addr×Obj)}{σ:St}{H:Hp}{s:Shared}
theorem Inv.list_apart (I:Inv X pins σ H s) {a b:Addr}{xs:List V} (h:SqL X.K H a xs) {o:Obj} (e:s.heap.get? b=some o) (hc:o.cls≠.type "list"):a≠b:=by
 intro z
 obtain ⟨its,rv,p,hz⟩:=I.list h
 obtain ⟨o',e',c',_⟩:=p.isList
 rw [z,e] at e'
 cases e'
 exact hc c'
end
theorem turn_zip {P:Program}{w:World}{K:PySem.W.Frag}{elts:List Expr}{k1:Nat}{tp:Pos} (a b z TI TO i1 i2:Addr)
  (d1:TI≠z) (d2:TO≠z) (d3:i1≠z) (d4:i2≠z) (d5:TI≠TO) (d6:TI≠i1) (d7:TI≠i2) (d8:TO≠i1) (d9:TO≠i2) (d10:i1≠i2) :
  Turn P w K (.Tuple elts k1 tp) (Itz K a b) [z,TI,TO,i1,i2] z (fun i h=>IsZip h z TI TO .none∧IsPair h TI (.ref i1) (.ref i2)∧(∃ u v,IsPair h TO u v)∧h.IsListIter i1 a i∧h.IsListIter i2 b i) where
 mem:=by simp
 obj:=fun i h st c hb=>by
  obtain ⟨s1,s2,⟨u,v,s3⟩,⟨o4,s4,_,t4⟩,⟨o5,s5,_,t5⟩⟩:=st
  simp only [List.mem_cons,List.not_mem_nil,or_false] at hb
  rcases hb with rfl | rfl | rfl | rfl | rfl
  ·exact ⟨_,s1,fun v z=>by cases z⟩
  ·exact ⟨_,s2,fun v z=>by cases z⟩
  ·exact ⟨_,s3,fun v z=>by cases z⟩
  ·exact ⟨_,s4,fun v z=>by rw [t4] at z;cases z⟩
  ·exact ⟨_,s5,fun v z=>by rw [t5] at z;cases z⟩
 keep:=fun i h h' st k=>by
  obtain ⟨s1,s2,⟨u,v,s3⟩,s4,s5⟩:=st
  exact ⟨k z (by simp) _ s1,k TI (by simp) _ s2,⟨u,v,k TO (by simp) _ s3⟩,s4.at fun o e=>k i1 (by simp) o e,s5.at fun o e=>k i2 (by simp) o e⟩
 item:=by
  intro X hP hw hK hc i pins s σ H E I hf st hg
  subst hP hw hK
  obtain ⟨xs,ys,x,y,hqa,hqb,hx,hy⟩:=hg
  obtain ⟨s1,s2,⟨u,v,s3⟩,s4,s5⟩:=st
  obtain ⟨its1,rv1,p1,z1⟩:=I.list hqa
  obtain ⟨its2,rv2,p2,z2⟩:=I.list hqb
  obtain ⟨u1,hu1,ru1⟩:=rv1.get hx
  obtain ⟨u2,hu2,ru2⟩:=rv2.get hy
  have e4:=s4
  have e5:=s5
  obtain ⟨o4,q4,c4,_⟩:=e4
  obtain ⟨o5,q5,c5,_⟩:=e5
  have n4:o4.cls≠.type "list":=by rw [c4];decide
  have n5:o5.cls≠.type "list":=by rw [c5];decide
  have D:ZipApart z TI TO i1 i2 a b:=⟨d1,d2,d3,d4,d5,d6,d7,d8,d9,d10,
   I.list_apart hqa s1 (show Value.type "zip"≠Value.type "list" by decide),I.list_apart hqa s3 (show Value.type "tuple"≠Value.type "list" by decide),I.list_apart hqa q4 n4,I.list_apart hqa q5 n5,
   I.list_apart hqb s1 (show Value.type "zip"≠Value.type "list" by decide),I.list_apart hqb s3 (show Value.type "tuple"≠Value.type "list" by decide),I.list_apart hqb q4 n4,I.list_apart hqb q5 n5⟩
  refine wpAny_pyNext_zip_item D s1 s2 s3 s4 s5 p1.isList p2.isList (x:=u1) (y:=u2) (by simpa using hu1) (by simpa using hu2) fun h' a1 a2 a3 a4 a5 a6 a7=>?_
  refine ⟨_,rfl,?_⟩
  refine wpAny_letOwnedTupleGo_zip (s:={ s with heap:=h' }) a1 fun h2 hz2 hs2=>?_
  have lt:∀ {c:Addr}{o:Obj},s.heap.get? c=some o→s.heap.objs.size≠c:=fun e=>Nat.ne_of_gt (Heap.lt_size e)
  have kk:∀ c o,c∉[z,TO,i1,i2]→s.heap.get? c=some o→h2.get? c=some o:=fun c o hm e=>by
   simp only [List.mem_cons,List.not_mem_nil,or_false,not_or] at hm
   exact (hs2.2 c hm.1).trans (a7 c o hm.1 hm.2.1 hm.2.2.1 hm.2.2.2 e)
  have pT:h2.get? s.heap.objs.size=some { cls:=.type "tuple",data:=.seq #[u1,u2] }:=(hs2.2 _ (lt s1)).trans a5
  have I2:Inv X pins σ (upd H s.heap.objs.size (.tup [x,y])) { s with heap:=h2 }:=I.turnedN (t':=s.toks) (ch:=[z,TO,i1,i2]) (p:=s.heap.objs.size) (o:=.tup [x,y]) (fun c hm=>hf c (by
   simp only [List.mem_cons,List.not_mem_nil,or_false] at hm ⊢
   rcases hm with r | r | r | r<;>simp [r])) kk (Nat.le_refl _) ⟨(by show 2≤sizeLine;decide),[u1,u2],.cons ru1 (.cons ru2 .nil),⟨_,pT,rfl,_,rfl⟩⟩
  have fr:H s.heap.objs.size=none:=I.fresh
  refine ⟨.ref s.heap.objs.size,_,I2,rfl,⟨_,fr,rfl,fun xs' ys' x' y' q1 q2 q3 q4=>?_⟩,⟨hz2,?_,⟨_,_,(hs2.2 TO d2).trans a2⟩,a3.at fun o e=>(hs2.2 i1 d3).trans e,a4.at fun o e=>(hs2.2 i2 d4).trans e⟩,fun c hm=>?_⟩
  ·rw [I.list_inj q1 hqa] at q3
   rw [I.list_inj q2 hqb] at q4
   rw [hx] at q3
   rw [hy] at q4
   cases q3
   cases q4
   rfl
  ·exact kk TI _ (by simp only [List.mem_cons,List.not_mem_nil,or_false,not_or];exact ⟨d1,d5,d6,d7⟩) s2
  ·have hne:c≠s.heap.objs.size:=by
    simp only [List.mem_cons,List.not_mem_nil,or_false] at hm
    rcases hm with rfl | rfl | rfl | rfl | rfl
    ·exact (lt s1).symm
    ·exact (lt s2).symm
    ·exact (lt s3).symm
    ·exact (lt q4).symm
    ·exact (lt q5).symm
   rw [ar hne]
   exact (hf c hm).1
 done:=by
  intro X hP hw hK hc i pins s σ H E I hf st hg
  subst hP hw hK
  obtain ⟨xs,ys,hqa,hqb,hend⟩:=hg
  obtain ⟨s1,s2,⟨u,v,s3⟩,s4,s5⟩:=st
  obtain ⟨its1,rv1,p1,z1⟩:=I.list hqa
  obtain ⟨its2,rv2,p2,z2⟩:=I.list hqb
  have e4:=s4
  have e5:=s5
  obtain ⟨o4,q4,c4,_⟩:=e4
  obtain ⟨o5,q5,c5,_⟩:=e5
  have n4:o4.cls≠.type "list":=by rw [c4];decide
  have n5:o5.cls≠.type "list":=by rw [c5];decide
  have D:ZipApart z TI TO i1 i2 a b:=⟨d1,d2,d3,d4,d5,d6,d7,d8,d9,d10,
   I.list_apart hqa s1 (show Value.type "zip"≠Value.type "list" by decide),I.list_apart hqa s3 (show Value.type "tuple"≠Value.type "list" by decide),I.list_apart hqa q4 n4,I.list_apart hqa q5 n5,
   I.list_apart hqb s1 (show Value.type "zip"≠Value.type "list" by decide),I.list_apart hqb s3 (show Value.type "tuple"≠Value.type "list" by decide),I.list_apart hqb q4 n4,I.list_apart hqb q5 n5⟩
  have l1:=rv1.length
  have l2:=rv2.length
  have hend':its1.toArray[i]?=none∨its2.toArray[i]?=none:=by
   rcases hend with r | r
   ·exact .inl (Array.getElem?_eq_none (by rw [List.size_toArray];omega))
   ·exact .inr (Array.getElem?_eq_none (by rw [List.size_toArray];omega))
  refine wpAny_pyNext_zip_end (I.ok.hd hc) D s1 s2 s3 s4 s5 p1.isList p2.isList hend' fun h' k=>⟨rfl,?_⟩
  exact I.turnedK (t':=s.toks) (ch:=[z,TO,i1,i2]) (fun c hm=>hf c (by
   simp only [List.mem_cons,List.not_mem_nil,or_false] at hm ⊢
   rcases hm with r | r | r | r<;>simp [r])) fun c o hm e=>by
    simp only [List.mem_cons,List.not_mem_nil,or_false,not_or] at hm
    exact k c o hm.1 hm.2.1 hm.2.2.1 hm.2.2.2 e
 self:=fun _ _ _ _ _ st h=>wpAny_pyIter_zip st.1 h
def iZip (K:PySem.W.Frag) (ta:TA):TI:=fun σ H R=>ta σ H fun vs H1=>∃ a b xs ys,vs=[.ref a,.ref b]∧SqL K H1 a xs∧SqL K H1 b ys∧R (Itz K a b) H1
section
variable {X:Cx}
theorem ig {elts:List Expr}{k1:Nat}{tp:Pos}{a b:Expr}{ta:TA}{p pos:Pos} (hg:Gl X "zip") (hm:X.mg "zip"=none) (ha:PA X [a,b] ta)
  (hs:starEach [a,b] X.env=[(false,eval a X.env),(false,eval b X.env)]:=by rfl) (hs2:starEach [b] X.env=[(false,eval b X.env)]:=by rfl):PI X (.Tuple elts k1 tp) (.Call (.Name "zip" p) [a,b] [] pos) (iZip X.K ta):=by
 intro pins s σ H R I h
 refine Call_ (eF I hg hm boot_zip (PyProof.Rows.callWith_type1 (thn (ha pos pins s σ H _ I h) fun us s1 ⟨vs,H1,I1,r1,q1⟩=>?_) (by rw [hs,hs2]) (by rw [hs2];rfl)))
 obtain ⟨l1,l2,xs,ys,e,hq1,hq2,q⟩:=q1
 subst e
 obtain ⟨u1,u2,rfl,ru1,ru2⟩:=r1.two
 cases ru1
 cases ru2
 obtain ⟨its1,rv1,p1,z1⟩:=I1.list hq1
 obtain ⟨its2,rv2,p2,z2⟩:=I1.list hq2
 refine call_zip_2 p1.isList p2.isList fun h' a1 a2 a3 a4 a5 a6 a7=>?_
 refine wpAny_pyIter_zip (s:={ s1 with heap:=h' }) a1 ?_
 have big:∀ k:Nat,s1.heap.objs.size≤s1.heap.objs.size+k:=fun k=>Nat.le_add_right _ _
 refine ⟨_,[s1.heap.objs.size+4,s1.heap.objs.size+2,s1.heap.objs.size+3,s1.heap.objs.size,s1.heap.objs.size+1],_,_,H1,rfl,I1.kept (t':=s1.toks) fun c o e=>a7 c o e,
  turn_zip l1 l2 _ _ _ _ _ (by simp) (by simp) (by simp) (by simp) (by simp) (by simp) (by simp) (by simp) (by simp) (by simp),⟨a1,a2,⟨_,_,a3⟩,a4,a5⟩,?_,q⟩
 refine pY I1 (fun c hc=>I1.hok.fresh hc) fun c hc=>?_
 simp only [List.mem_cons,List.not_mem_nil,or_false] at hc
 rcases hc with r | r | r | r | r<;>rw [r]
 ·exact big 4
 ·exact big 2
 ·exact big 3
 ·exact Nat.le_refl _
 ·exact big 1
end
def qi (env:Env):List (Str×NameKind)→List (Str×Addr)→List (Str×Addr)
 | [],acc=>acc
 | (n,k)::r,acc=>qi env r (if k == .free then (n,(env.cells.lookup n).getD 0)::acc else acc)
theorem qh (env:Env):∀ (ns:List (Str×NameKind)) (acc:List (Str×Addr)),(∀ n,(n,NameKind.free)∈ns→∃ c,env.cells.lookup n=some c) →
  (forIn ns acc (fun (x:Str×NameKind) (cs:List (Str×Addr))=>(if (x.2 == NameKind.free)=true then (do let c ← cellOf env x.1;pure (ForInStep.yield ((x.1,c)::cs))) else pure (ForInStep.yield cs):Sem (ForInStep (List (Str×Addr))))))=(pure (qi env ns acc):Sem _)
 | [],acc,_=>rfl
 | (n,k)::r,acc,h=>by
  have ih:=qh env r (if k == .free then (n,(env.cells.lookup n).getD 0)::acc else acc) fun m hm=>h m (List.mem_cons_of_mem _ hm)
  rw [List.forIn_cons]
  cases hk:(k == NameKind.free) with
  | false =>
   simp only [hk,Bool.false_eq_true,if_false,pure_bind] at ih ⊢
   rw [ih]
   show _=(pure (qi env r (if (k == NameKind.free)=true then _ else acc)):Sem _)
   rw [hk]
   rfl
  | true =>
   have ek:k=.free:=by simpa using hk
   obtain ⟨c,e⟩:=h n (by rw [ek];exact List.mem_cons_self)
   have ec:cellOf env n=pure c:=by unfold cellOf;rw [e]
   simp only [hk,if_true,ec,pure_bind,e,Option.getD_some] at ih ⊢
   rw [ih]
   show _=(pure (qi env r (if (k == NameKind.free)=true then (n,(env.cells.lookup n).getD 0)::acc else acc)):Sem _)
   rw [hk,e]
   rfl
theorem mV (env:Env):∀ (ns:List (Str×NameKind)) (acc:List (Str×Addr)),(∀ n,(n,NameKind.free)∈ns→∃ c,env.cells.lookup n=some c)→(∀ p∈acc,env.cells.lookup p.1=some p.2)→∀ p∈qi env ns acc,env.cells.lookup p.1=some p.2
 | [],_,_,ha=>ha
 | (n,k)::r,acc,h,ha=>by
  refine mV env r _ (fun m hm=>h m (List.mem_cons_of_mem _ hm)) fun p hp=>?_
  cases hk:(k == NameKind.free) with
  | false =>
   rw [hk] at hp
   exact ha p hp
  | true =>
   have ek:k=.free:=by simpa using hk
   obtain ⟨c,e⟩:=h n (by rw [ek];exact List.mem_cons_self)
   rw [hk,e] at hp
   rcases List.mem_cons.mp hp with z | z
   ·rw [z]
    exact e
   ·exact ha p z
theorem jT (env:Env) {x:Str}:∀ (ns:List (Str×NameKind)) (acc:List (Str×Addr)),((x,NameKind.free)∈ns∨∃ c,(x,c)∈acc)→∃ c,(x,c)∈qi env ns acc
 | [],acc,h=>by
  rcases h with h | h
  ·cases h
  ·exact h
 | (n,k)::r,acc,h=>by
  refine jT env r _ ?_
  rcases h with h | ⟨c,h⟩
  ·rcases List.mem_cons.mp h with z | z
   ·cases z
    exact .inr ⟨_,List.mem_cons_self⟩
   ·exact .inl z
  ·refine .inr ⟨c,?_⟩
   split
   ·exact List.mem_cons_of_mem _ h
   ·exact h
theorem dq {α:Type}{x:Str}:∀ {l:List (Str×α)}{c:α},(x,c)∈l→∃ d,l.lookup x=some d
 | (n,d)::r,c,h=>by
  by_cases e:x=n
  ·exact ⟨d,by rw [List.lookup_cons];simp [e]⟩
  ·have hb:(x == n)=false:=beq_eq_false_iff_ne.mpr e
   rcases List.mem_cons.mp h with z | z
   ·exact absurd (congrArg Prod.fst z) e
   ·obtain ⟨d',q⟩:=dq z
    exact ⟨d',by rw [List.lookup_cons,hb];exact q⟩
def mU (N:List Str) (sc scope:Scope) (own:List Str) (caps:List (Str×Nat)):Bool :=
 decide (scope.kind=.function) && scope.names.all (fun y=>decide (y.2≠.cell)) && scope.names.all (fun y=>decide (y.2=.local→scope.names.lookup y.1=some .local)) &&
 scope.names.all (fun y=>decide (y.2=.free→(sc.names.lookup y.1=some .cell∨sc.names.lookup y.1=some .free))) &&
 caps.all (fun p=>decide (N[p.2]?=some p.1∧scope.names.lookup p.1=some .free)) && decide (own++caps.map (·.1)).Nodup
def cG (X:Cx) (N:List Str) (scope:Scope) (C:Addr) (s₀:Shared) (H₀:Hp) (ex:List Addr):Cx :=
 { X with N:=N,s₀:=s₀,H₀:=H₀,env:=compEnvC scope (qi X.env scope.names []) C X.env,outer:=X.stack,stack:=X.stack,ex:=ex,fn:=fun _=>false,pn:=[],xe:=fun _ _=>False }
theorem hZ {scope:Scope}{env:Env}{x:Str}{k:NameKind} (hc:∀ y∈scope.names,y.2≠.cell) (h:(relabel scope env).names.lookup x=some k) (hk:k=.cell∨k=.free):(x,NameKind.free)∈scope.names:=by
 have hm:=PySem.mem_of_lookup h
 obtain ⟨⟨n,k'⟩,h1,h2⟩:=List.mem_map.mp hm
 dsimp only at h2
 split at h2
 ·rename_i c
  have ek:k'=.free:=by
   simp only [Bool.and_eq_true] at c
   simpa using c.1.1
  cases h2
  rw [ek] at h1
  exact h1
 ·cases h2
  rcases hk with z | z
  ·exact absurd z (hc _ h1)
  ·rw [z] at h1
   exact h1
structure oy (N:List Str) (sc scope:Scope) (own:List Str) (caps:List (Str×Nat)):Prop where
 kind:scope.kind=.function
 nocell:∀ y∈scope.names,y.2≠.cell
 loc:∀ y∈scope.names,y.2=.local→scope.names.lookup y.1=some .local
 fre:∀ y∈scope.names,y.2=.free→(sc.names.lookup y.1=some .cell∨sc.names.lookup y.1=some .free)
 cap:∀ p∈caps,N[p.2]?=some p.1∧scope.names.lookup p.1=some .free
 nd:(own++caps.map (·.1)).Nodup
theorem mT {N:List Str}{sc scope:Scope}{own:List Str}{caps:List (Str×Nat)} (h:mU N sc scope own caps=true):oy N sc scope own caps:=by
 simp only [mU,Bool.and_eq_true,List.all_eq_true,decide_eq_true_eq] at h
 obtain ⟨⟨⟨⟨⟨h1,h2⟩,h3⟩,h4⟩,h5⟩,h6⟩:=h
 exact ⟨h1,h2,h3,h4,h5,h6⟩
def capV (caps:List (Str×Nat)) (σ:St):St:=caps.map fun p=>(σ[p.2]?).join
section
variable {X:Cx}{pins:List (Addr×Obj)}{σ:St}{H:Hp}{s:Shared}{scope:Scope}{own:List Str}{caps:List (Str×Nat)}{fp:List Addr}
theorem mS (ok:X.Ok) (S:oy X.N X.env.scope scope own caps):∀ n,(n,NameKind.free)∈scope.names→∃ c,X.env.cells.lookup n=some c:=fun n hn=>ok.has n (S.fre _ hn rfl)
theorem kH (ok:X.Ok) (S:oy X.N X.env.scope scope own caps):closureFor scope X.env=pure (qi X.env scope.names []):=by
 unfold closureFor
 have q:=qh X.env scope.names [] (mS ok S)
 show (forIn scope.names [] _ >>= fun r=>pure r)=_
 rw [bind_pure]
 exact q
theorem oj (ok:X.Ok) (S:oy X.N X.env.scope scope own caps) {x:Str}{c:Addr} (h:(qi X.env scope.names []).lookup x=some c):X.env.cells.lookup x=some c :=
 mV X.env scope.names [] (mS ok S) (fun _ z=>nomatch z) _ (PySem.mem_of_lookup h)
theorem comp_inv (I:Inv X pins σ H s) (S:oy X.N X.env.scope scope own caps) (hf:∀ b∈fp,kO X pins H b) (hb:∀ b∈fp,b<s.heap.objs.size) {C:Addr} (hC:s.heap.objs.size≤C) {h₁:Heap}{tk:Nat}{m:Str→Option Value}
  (hn:h₁.Ns C m) (kk:∀ b o,s.heap.get? b=some o→h₁.get? b=some o) :
  Inv (cG X (own++caps.map (·.1)) scope C s H fp) [] (List.replicate own.length none++capV caps σ) H { s with heap:=h₁,toks:=tk }:=by
 have ok:=I.ok
 have cells:=fun {x:Str}{c:Addr}=>oj (x:=x) (c:=c) ok S
 have keepC:∀ {x:Str}{c:Addr}{v:Option Value},s.heap.IsCell c v→h₁.IsCell c v:=fun ⟨o,ho,hd⟩=>⟨o,kk _ _ ho,hd⟩
 refine ⟨⟨ok.mod,S.kind,ok.glob,ok.blt,hC,fun x y c h1 h2=>ok.inj x y c (cells h1) (cells h2),fun x hx=>?_,(fun x c hx=>nomatch hx),ok.hd,ok.frames,.inl rfl,fun b hb'=>⟨?_,fun x c e=>?_⟩,I.bs,Nat.le_trans ok.bsz I.sz,fun b o e hb'=>?_,fun b hb' hs=>?_,I.stack,I.stkFree⟩,
  rfl,I.bare,Un.kept kk,⟨m,hn,fun i x v e1 e2 e3=>?_⟩,fun x c e=>?_,I.hok.fresh hC,fun x c e=>I.freeC x c (cells e),(fun p hp=>nomatch hp),I.hok.kept kk,?_⟩
 ·have hm:(x,NameKind.free)∈scope.names:=by
   rcases hx with z | z
   ·exact hZ S.nocell z (.inl rfl)
   ·exact hZ S.nocell z (.inr rfl)
  obtain ⟨c,hc⟩:=jT X.env scope.names [] (.inl hm)
  exact dq hc
 ·exact Nat.ne_of_lt (Nat.lt_of_lt_of_le (hb b hb') hC)
 ·exact (hf b hb').2.2.2.2.1 x c (cells e)
 ·rcases (hf b hb').2.2.2.1 with z | z
  ·exact ok.noex b o e z
  ·exact absurd (Nat.lt_of_lt_of_le (Heap.lt_size e) (Nat.le_trans ok.bsz z)) (Nat.lt_irrefl _)
 ·rcases List.mem_cons.mp (I.stkSub b hs) with z | z
  ·exact (hf b hb').2.1 z
  ·exact (hf b hb').2.2.1 z
 ·by_cases hi:i<own.length
  ·rw [List.getElem?_append_left (by rw [List.length_replicate];exact hi),List.getElem?_replicate,if_pos hi] at e2
   cases e2
  ·have hi':own.length≤i:=Nat.le_of_not_lt hi
   have e1:(own++caps.map (·.1))[i]?=some x:=e1
   rw [List.getElem?_append_right hi',List.getElem?_map] at e1
   rw [List.getElem?_append_right (by rw [List.length_replicate];exact hi'),List.length_replicate] at e2
   unfold capV at e2
   rw [List.getElem?_map] at e2
   cases ec:caps[i - own.length]? with
   | none=>rw [ec] at e1;cases e1
   | some p =>
    rw [ec] at e1 e2
    have ex:p.1=x:=Option.some.inj e1
    have ev:(σ[p.2]?).join=some v:=Option.some.inj e2
    have es:σ[p.2]?=some (some v):=by
     cases q:σ[p.2]? with
     | none=>rw [q] at ev;cases ev
     | some w'=>rw [q] at ev;exact congrArg some ev
    obtain ⟨c1,c2⟩:=S.cap p (List.mem_of_getElem? ec)
    rw [ex] at c1 c2
    have fm:(x,NameKind.free)∈scope.names:=PySem.mem_of_lookup c2
    have vis:Vis X.env.scope x:=by
     rcases S.fre _ fm rfl with z | z
     ·exact .inr (.inl z)
     ·exact .inr (.inr z)
    obtain ⟨m0,hn0,hl0⟩:=id I.loc
    obtain ⟨u,ru,lk⟩:=hl0 p.2 x v c1 es vis
    refine ⟨u,ru,.inr ⟨?_,?_⟩⟩
    ·have e3:Vis (relabel scope X.env) x:=e3
     rcases e3 with z | z | z
     ·exfalso
      have hm:=PySem.mem_of_lookup z
      obtain ⟨⟨n,k'⟩,h1,h2⟩:=List.mem_map.mp hm
      dsimp only at h2
      split at h2
      ·cases h2
      ·cases h2
       have:=S.loc _ h1 rfl
       rw [c2] at this
       cases this
     ·exact .inl z
     ·exact .inr z
    ·rcases lk with ⟨z,_⟩ | ⟨_,c,hc,hcell⟩
     ·exfalso
      have z:X.env.scope.names.lookup x=some .local:=z
      rcases S.fre _ fm rfl with z' | z'<;>rw [z] at z'<;>cases z'
     ·obtain ⟨c',hc'⟩:=jT X.env scope.names [] (.inl fm)
      obtain ⟨d,hd⟩:=dq hc'
      have:=cells hd
      rw [hc] at this
      cases this
      exact ⟨c,hd,keepC (x:=x) hcell⟩
 ·obtain ⟨v,q⟩:=I.cell x c (cells e)
  exact ⟨v,keepC (x:=x) q⟩
 ·show (List.replicate own.length none++capV caps σ).length=(own++caps.map (·.1)).length
  unfold capV
  rw [List.length_append,List.length_append,List.length_replicate,List.length_map,List.length_map]
theorem qf (I:Inv X pins σ H s) (hf:∀ b∈fp,kO X pins H b) {C:Addr}{N:List Str}{σ':St}{H':Hp}{s':Shared}{pins':List (Addr×Obj)} (I':Inv (cG X N scope C s H fp) pins' σ' H' s'):Inv X pins σ H' s' :=
 I.call' I'.os I'.base I'.hok I'.bare fun b hb=>⟨(hf b hb).2.2.2.1,(hf b hb).2.1,(hf b hb).2.2.2.2.1,(hf b hb).2.2.2.2.2⟩
end
def PTs (X:Cx) (ifs:List Expr) (t:TT):Prop :=
 ∀ (pins:List (Addr×Obj)) (s:Shared) (σ:St) (H:Hp) (Q:Bool→Hp→Prop),Inv X pins σ H s→t σ H Q →
  wpAny (model X.prog X.w) X.A (forIn ifs true fun c r=>if r=true then do let ok ← isTrue c X.env (eval c X.env);pure (ForInStep.yield ok) else pure (ForInStep.yield r)) (TP X pins σ Q) X.xe s
def tYes:TT:=fun _ H Q=>Q true H
theorem bp {X:Cx}:PTs X [] tYes:=fun _ _ _ H _ I h=>wpAny_tests_nil ⟨H,I,h⟩
theorem lf {X:Cx}{c:Expr}{t:TT} (h:PT X c t):PTs X [c] t:=fun pins s σ H Q I q=>wpAny_tests_one (h pins s σ H Q I q)
theorem qd {prog:Program}{w:World}{A:Around}{elt tg iter:Expr}{ifs:List Expr}{scope:Scope}{pos:Pos}{it acc:Value}{env:Env}{R:Result→Shared→Prop}{s:Shared} (J:Nat→Shared→Prop)
  (turn:∀ n s,J n s→wpAny (model prog w) A (pyNext it) (fun r s₁=>match r with
   | none=>R (.ok .next) s₁
   | some v=>wpAny (model prog w) A (letOwnedTupleGo tg it v) (fun _ s₂=>wpAny (model prog w) A (assign tg env v) (fun _ s₃ =>
     wpAny (model prog w) A (forIn ifs true fun c r=>if r=true then do let ok ← isTrue c env (eval c env);pure (ForInStep.yield ok) else pure (ForInStep.yield r)) (fun ok s₄ =>
      if ok=true then wpAny (model prog w) A (eval elt env) (fun x s₅=>wpAny (model prog w) A (call (.builtin "list.append") [acc,x]) (fun _ s₆=>∃ m,m<n∧J m s₆) (fun _ _=>False) s₅) (fun _ _=>False) s₄
      else ∃ m,m<n∧J m s₄) (fun _ _=>False) s₃) (fun _ _=>False) s₂) (fun _ _=>False) s₁) (fun _ _=>False) s)
  (n:Nat) (h:J n s):codeAny (model prog w) A (.compLoop (.ListComp elt [⟨tg,iter,ifs,0⟩] scope pos) 0 it acc env) R s:=by
 refine codeAny_loop rfl J (fun n s hJ=>?_) n h
 refine wpAny_noted (m:=compTurn (.ListComp elt [⟨tg,iter,ifs,0⟩] scope pos) 0 it acc env) ?_
 rw [compTurn_list]
 have ff:∀ {E:Value→Shared→Prop} (e:Value) (s':Shared),False→E e s':=fun _ _ f=>f.elim
 refine wpAny_bind (wpAny_standAt (wpAny_bind (wpAny_mono (turn n s hJ) (fun r s₁ h₁=>?_) ff)))
 cases r with
 | none=>exact wpAny_pure h₁
 | some v =>
  refine wpAny_bind (wpAny_mono h₁ (fun _ s₂ h₂=>?_) ff)
  refine wpAny_bind (wpAny_mono h₂ (fun _ s₃ h₃=>wpAny_bind (wpAny_mono h₃ (fun b s₄ h₄=>?_) ff)) ff)
  cases b with
  | false=>exact wpAny_pure ⟨rfl,h₄⟩
  | true =>
   refine wpAny_bind (wpAny_bind (wpAny_mono h₄ (fun x s₅ h₅=>wpAny_bind (wpAny_mono h₅ (fun _ s₆ h₆=>?_) ff)) ff))
   exact wpAny_pure (wpAny_pure ⟨rfl,h₆⟩)
def gW (k:Nat) (J:It) (g:TG) (tt:TT) (te:TE) (tl:St) (D:Addr) (Q:Hp→Prop) (W:Nat→Nat→List V→Hp→Prop):Prop :=
 ∀ i m ys H,W i m ys H→H D=some (.lst ys)→(J.stop i H∧Q H) ∨
  (J.go i H∧∃ N:List V→Hp→Prop,(∀ ys' H',N ys' H'→∃ m',m'<m∧W (i+1) m' ys' H')∧∀ x H1,J.yld i H x H1→g x (List.replicate k none++tl) H1 fun σ2 H2=>(σ2.length=k+tl.length∧σ2.drop k=tl) ∧
   tt σ2 H2 fun b H3=>if b=true then te σ2 H3 fun v H4=>H4 D=some (.lst ys)∧ys.length<sizeLine∧N (ys++[v]) (upd H4 D (.lst (ys++[v])))
    else H3 D=some (.lst ys)∧N ys H3)
def tComp (own:List Str) (caps:List (Str×Nat)) (wi:TI) (g:TG) (tt:TT) (te:TE):TE:=fun σ H Q=>wi σ H fun J H1=>∀ D,H1 D=none →
 ∃ W:Nat→Nat→List V→Hp→Prop,(∃ m,W 0 m [] (upd H1 D (.lst [])))∧gW own.length J g tt te (capV caps σ) D (fun H'=>Q (.ref D) H') W
section
variable {X:Cx}{tg iter elt:Expr}{ifs:List Expr}{scope:Scope}{pos:Pos}{own:List Str}{caps:List (Str×Nat)}{wi:TI}{g:TG}{tt:TT}{te:TE}
theorem jf (S:oy X.N X.env.scope scope own caps) (hc:X.calm=true)
  (hg:∀ C s₀ H₀ ex,PG (cG X (own++caps.map (·.1)) scope C s₀ H₀ ex) tg g) (ht:∀ C s₀ H₀ ex,PTs (cG X (own++caps.map (·.1)) scope C s₀ H₀ ex) ifs tt) (he:∀ C s₀ H₀ ex,PE (cG X (own++caps.map (·.1)) scope C s₀ H₀ ex) elt te)
  {pins:List (Addr×Obj)}{σ:St}{H:Hp}{s:Shared} (I:Inv X pins σ H s) {it:Addr}{fp:List Addr}{tn:Nat→Heap→Prop}{J:It} (T:Turn X.prog X.w X.K tg J fp it tn) (st:tn 0 s.heap) (hf:∀ b∈fp,kO X pins H b) {Q:VK}
  (hR:∀ D,H D=none→∃ W:Nat→Nat→List V→Hp→Prop,(∃ m,W 0 m [] (upd H D (.lst [])))∧gW own.length J g tt te (capV caps σ) D (fun H'=>Q (.ref D) H') W)
  {RR:Value→Addr→Result→Shared→Prop}{E:Value→Shared→Prop}
  (hRR:∀ D C m H' s',Inv X pins σ H' s'→s'.heap.Ns C m→kO X pins H' C→Q (.ref D) H'→RR (.ref D) C (.ok .next) s') :
  wpAny (model X.prog X.w) X.A (newList []) (fun acc s₃=>wpAny (model X.prog X.w) X.A (newFunctionEnv scope X.env.globals (qi X.env scope.names []) [] X.env.qual none .none (some X.env)) (fun cenv s₄ =>
   codeAny (model X.prog X.w) X.A (.compStart (.ListComp elt [⟨tg,iter,ifs,0⟩] scope pos) 0 (.ref it) acc { cenv with scope:=relabel scope X.env }) (RR acc cenv.locals) s₄) E s₃) E s:=by
 refine wpAny_newObj_type (wpAny_newFunctionEnv S.nocell (fun y hy=>nomatch hy) (fun h₁ hns hsb=>?_) S.kind)
 have I3:Inv X pins σ (upd H s.heap.objs.size (.lst [])) { s with heap:=s.heap.push { cls:=.type "list",data:=.seq ([]:List Value).toArray },toks:=s.toks }:=I.lnew (ys:=[]) (its:=[]) .nil (Nat.zero_le _)
 have hob:=T.obj 0 _ st
 have hlt:∀ b∈fp,b<s.heap.objs.size:=fun b hb=>let ⟨o,e,_⟩:=hob b hb;Heap.lt_size e
 have hf3:∀ b∈fp,kO X pins (upd H s.heap.objs.size (.lst [])) b:=fun b hb=>⟨by rw [ar (Nat.ne_of_lt (hlt b hb))];exact (hf b hb).1,(hf b hb).2⟩
 have hlt3:∀ b∈fp,b<(s.heap.push { cls:=.type "list",data:=.seq ([]:List Value).toArray }).objs.size:=fun b hb=>by rw [Heap.size_push];exact Nat.lt_succ_of_lt (hlt b hb)
 generalize hD:s.heap.objs.size=D at I3 hf3
 generalize hs3:s.heap.push { cls:=.type "list",data:=.seq ([]:List Value).toArray }=h3 at I3 hlt3 hns hsb
 have kk:∀ b o,h3.get? b=some o→h₁.get? b=some o:=fun b o e=>(hsb.2 b (Nat.ne_of_lt (Heap.lt_size e))).trans (Heap.get?_push_of_some _ e)
 have st1:tn 0 h₁:=T.keep _ _ _ st fun b hb o e=>kk b o (by rw [← hs3];exact Heap.get?_push_of_some _ e)
 obtain ⟨W,⟨m0,w0⟩,turn⟩:=hR D (by rw [← hD];exact I.fresh)
 have I4:=comp_inv (tk:=s.toks+0) I3 S hf3 hlt3 (Nat.le_refl _) hns kk
 have frp:∀ b∈fp,(upd H D (.lst [])) b=none:=fun b hb=>(hf3 b hb).1
 have loop:codeAny (model X.prog X.w) X.A (.compLoop (.ListComp elt [⟨tg,iter,ifs,0⟩] scope pos) 0 (.ref it) (.ref D) (compEnvC scope (qi X.env scope.names []) h3.objs.size X.env)) (RR (.ref D) h3.objs.size) { s with heap:=h₁,toks:=s.toks+0 }:=by
  refine qd (fun n s'=>∃ i ys H',Inv (cG X (own++caps.map (·.1)) scope h3.objs.size { s with heap:=h3,toks:=s.toks } (upd H D (.lst [])) fp) [] (List.replicate own.length none++capV caps σ) H' s'∧tn i s'.heap∧(∀ b∈fp,H' b=none)∧H' D=some (.lst ys)∧W i n ys H') ?_ m0
   ⟨0,[],_,I4,st1,frp,ad,w0⟩
  rintro n s5 ⟨i,ys,H5,I5,st5,fr5,hD5,w5⟩
  have stat:∀ {H':Hp},(∀ b∈fp,H' b=none)→∀ b∈fp,kO (cG X (own++caps.map (·.1)) scope h3.objs.size { s with heap:=h3,toks:=s.toks } (upd H D (.lst [])) fp) [] H' b:=fun hn b hb =>
   ⟨hn b hb,(I4.ok.exf b hb).1,I4.ok.exfs b hb,.inl hb,(I4.ok.exf b hb).2,fun p hp=>nomatch hp⟩
  rcases turn i n ys H5 w5 hD5 with ⟨stop,qn⟩ | ⟨go,N,hN,step⟩
  ·refine thn (T.done (cG X (own++caps.map (·.1)) scope h3.objs.size { s with heap:=h3,toks:=s.toks } (upd H D (.lst [])) fp) rfl rfl rfl hc i [] s5 _ H5 _ I5 (stat fr5) st5 stop) fun r s6 ⟨hr,I6⟩=>?_
   subst hr
   obtain ⟨m6,hn6,_⟩:=id I6.loc
   exact hRR D _ m6 H5 s6 (qf I3 hf3 I6) hn6 (I3.fpOk (Nat.le_refl _) I6.free) qn
  ·refine thn (T.item (cG X (own++caps.map (·.1)) scope h3.objs.size { s with heap:=h3,toks:=s.toks } (upd H D (.lst [])) fp) rfl rfl rfl hc i [] s5 _ H5 _ I5 (stat fr5) st5 go) fun r s6 ⟨u,hr,h6⟩=>?_
   subst hr
   refine thn h6 fun _ s7 ⟨x,H7,I7,r7,y7,st7,fr7⟩=>?_
   have I7':=I7.pinned (stat fr7) (T.obj _ _ st7)
   refine thn (hg _ _ _ _ _ s7 _ H7 x u _ I7' r7 (step x H7 y7)) fun _ s8 ⟨σ8,H8,I8,⟨hl8,hd8⟩,q8⟩=>?_
   have again:∀ {H9:Hp}{s9:Shared}{ys9:List V},Inv (cG X (own++caps.map (·.1)) scope h3.objs.size { s with heap:=h3,toks:=s.toks } (upd H D (.lst [])) fp) ([]++kf fp s7.heap) σ8 H9 s9→H9 D=some (.lst ys9)→N ys9 H9 →
     ∃ m,m<n∧∃ i ys H',Inv (cG X (own++caps.map (·.1)) scope h3.objs.size { s with heap:=h3,toks:=s.toks } (upd H D (.lst [])) fp) [] (List.replicate own.length none++capV caps σ) H' s9∧tn i s9.heap∧(∀ b∈fp,H' b=none)∧H' D=some (.lst ys)∧W i m ys H':=fun {H9 s9 ys9} I9 d9 w9=>by
    obtain ⟨m',hm,w9⟩:=hN _ _ w9
    have pin:=fun b (hb:b∈fp) o (e:s7.heap.get? b=some o)=>I9.pin (b,o) (List.mem_append_right _ (List.mem_append_right _ (gd hb e)))
    refine ⟨m',hm,i+1,ys9,H9,(I9.unpinned (pins:=[])).weak ?_ fun j v e=>?_,T.keep _ _ _ st7 fun b hb o e=>(pin b hb o e).1,fun b hb=>?_,d9,w9⟩
    ·rw [hl8,List.length_append,List.length_replicate]
    ·by_cases hj:j<own.length
     ·rw [List.getElem?_append_left (by rw [List.length_replicate];exact hj),List.getElem?_replicate,if_pos hj] at e
      cases e
     ·rw [List.getElem?_append_right (by rw [List.length_replicate];exact Nat.le_of_not_lt hj),List.length_replicate,← hd8,List.getElem?_drop] at e
      rw [show own.length+(j - own.length)=j by omega] at e
      exact e
    ·obtain ⟨o,e,d⟩:=T.obj _ _ st7 b hb
     exact (pin b hb o e).2.1
   refine thn (ht _ _ _ _ _ s8 σ8 H8 _ I8 q8) fun b s9 ⟨H9,I9,q9⟩=>?_
   cases b with
   | false =>
    rw [if_neg Bool.false_ne_true] at q9 ⊢
    exact again I9 q9.1 q9.2
   | true =>
    rw [if_pos rfl] at q9 ⊢
    refine thn (he _ _ _ _ _ s9 σ8 H9 _ I9 q9) fun v s10 ⟨y,H10,I10,r10,d10,z10,w10⟩=>?_
    refine thn (cj _ s10 σ8 H10 (.ref D) [y] (.ref D) [v] (fun _ H'=>H'=upd H10 D (.lst (ys++[y]))) I10 rfl (.cons r10 .nil) ⟨D,ys,y,rfl,rfl,d10,z10,rfl⟩) fun _ s11 ⟨_,H11,I11,_,e11⟩=>?_
    subst e11
    exact again I11 ad w10
 have e0:({ s with heap:=h₁,toks:=s.toks+([]:List (Str×Value)).length }:Shared)={ s with heap:=h₁,toks:=s.toks+0 }:=rfl
 exact codeAny_compStart_list loop (T.self _ 0 _ _ _ st1 loop)
theorem bS (own:List Str) (caps:List (Str×Nat)) (hi:PI X tg iter wi) (hc:X.calm=true)
  (hg:∀ C s₀ H₀ ex,PG (cG X (own++caps.map (·.1)) scope C s₀ H₀ ex) tg g) (ht:∀ C s₀ H₀ ex,PTs (cG X (own++caps.map (·.1)) scope C s₀ H₀ ex) ifs tt) (he:∀ C s₀ H₀ ex,PE (cG X (own++caps.map (·.1)) scope C s₀ H₀ ex) elt te)
  (hS:mU X.N X.env.scope scope own caps=true:=by kernel_rfl) (hs:∀ x,foldedSetIterable iter X.env x=pure x:=by intro _;rfl) :
  PE X (.ListComp elt [⟨tg,iter,ifs,0⟩] scope pos) (tComp own caps wi g tt te):=by
 intro pins s σ H Q I h
 have S:=mT hS
 rw [eval_ListComp]
 refine wpAny_comprehension_free (use:=none) rfl hs (kH I.ok S) S.kind S.loc (thn (hi pins s σ H _ I h) fun v s1 h1=>thn h1 fun itv s2 h2=>?_)
 obtain ⟨it,fp,tn,J,H2,e,I2,T,st2,f2,hR⟩:=h2
 subst e
 refine jf S hc hg ht he I2 T st2 f2 (Q:=Q) hR fun D C m H' s' I' hn hC q=>?_
 refine ⟨m,hn,fun h' hs'=>?_⟩
 exact ⟨.ref D,H',I'.turnedK (t':=s'.toks) (ch:=[C]) (fun b hb=>by rw [show b=C by simpa using hb];exact hC) fun b o hb e=>(hs'.2 b (by simpa using hb)).trans e,rfl,q⟩
theorem bY {y:Str}{py spos:Pos} (j:Nat) (own:List Str) (caps:List (Str×Nat)) (hN:X.N.Nodup) (hi:PI X tg iter wi) (hc:X.calm=true)
  (hg:∀ C s₀ H₀ ex,PG (cG X (own++caps.map (·.1)) scope C s₀ H₀ ex) tg g) (ht:∀ C s₀ H₀ ex,PTs (cG X (own++caps.map (·.1)) scope C s₀ H₀ ex) ifs tt) (he:∀ C s₀ H₀ ex,PE (cG X (own++caps.map (·.1)) scope C s₀ H₀ ex) elt te)
  (hj:X.N[j]?=some y:=by rfl) (hy:Loc X.env.scope y:=by first | exact Or.inl rfl | exact Or.inr rfl)
  (hsw:swapsWith (.ListComp elt [⟨tg,iter,ifs,0⟩] scope pos) (some (.Name y py)) spos.line X.env=pure true:=by rfl)
  (hS:mU X.N X.env.scope scope own caps=true:=by kernel_rfl) (hs:∀ x,foldedSetIterable iter X.env x=pure x:=by intro _;rfl) (hf:X.fn y=true∨X.env.scope.names.lookup y=some .local:=by first | exact .inl rfl | exact .inr rfl) :
  PS X (.Assign [.Name y py] (.ListComp elt [⟨tg,iter,ifs,0⟩] scope pos) spos) (tAsg (tComp own caps wi g tt te) (gName j)):=by
 intro pins s σ H D0 I h
 have S:=mT hS
 rw [exec_Assign_Name_used _ _ _ _ hsw]
 refine wpAny_bind (wpAny_standAt (wpAny_bind ?_))
 refine wpAny_mono (t:=do let _ ← comprehension (.ListComp elt [⟨tg,iter,ifs,0⟩] scope pos) scope X.env (firstIterPos [⟨tg,iter,ifs,0⟩] pos) (newList []) false (eval iter X.env) (some (assign (.Name y py) X.env))) (Q:=fun _ s'=>SP X pins D0 .next s') ?_ (fun _ s' q=>wpAny_pure q) fun _ _ q=>q
 refine wpAny_bind (wpAny_mono (wpAny_comprehension_free (use:=some (assign (.Name y py) X.env)) (Q:=fun _ s'=>SP X pins D0 .next s') rfl hs (kH I.ok S) S.kind S.loc
  (thn (hi pins s σ H _ I h) fun v s1 h1=>thn h1 fun itv s2 h2=>?_)) (fun _ s' q=>wpAny_pure q) fun _ _ q=>q)
 obtain ⟨it,fp,tn,J,H2,e,I2,T,st2,f2,hR⟩:=h2
 subst e
 refine jf S hc hg ht he I2 T st2 f2 (Q:=fun x H1=>gName j x σ H1 D0.nx) hR fun D C m H' s' I' hn hC q=>?_
 refine wpAny_assign_Name (j1 I' hN hj hy (v:=.ref D) (u:=.ref D) rfl (fun s5 I5 ⟨a,sb,ha⟩=>?_) hf)
 have hCa:C≠a:=by
  rcases ha with z | z
  ·rw [z];exact hC.2.1
  ·exact fun e=>hC.2.2.2.2.1 y a z e.symm
 refine ⟨m,hn.sameBut sb hCa,fun h' hs'=>?_⟩
 refine ⟨_,H',I5.turnedK (t':=s5.toks) (ch:=[C]) (fun b hb=>by rw [show b=C by simpa using hb];exact hC) fun b o hb e=>(hs'.2 b (by simpa using hb)).trans e,q⟩
end
end L2
namespace L2
open PySem PySem.Spec PyProof.Rows
def Ok (P:Program) (w:World) (K:PySem.W.Frag) (mg:Str→Option Value) (base:Heap) (CX:CXT) (k:Nat) (x:Str) (ps:List Str) (sp:Sp):Prop :=
 ∃ f fd,gD P w K mg base CX k f fd ps sp∧Binds K fd ps []∧PySem.W.keepIn K (.ref f)=true∧mg x=some (.ref f)
def Src (K:PySem.W.Frag) (mg:Str→Option Value) (x qual:Str) (st:Stmt) (ps:List Str):Prop:=∃ f fd,Fun K x qual st f fd∧Binds K fd ps []∧mg x=some (.ref f)
section
variable {P:Program}{w:World}{K:PySem.W.Frag}{mg:Str→Option Value}{base:Heap}
theorem Src.ok {x qual:Str}{st:Stmt}{N ps:List Str}{k:Nat}{sp:Sp} (F:Src K mg x qual st ps) (S:aq N ps (am st)) (len:∀ vs H Q E,sp vs H Q E→vs.length=ps.length)
  (hbody:∀ (f:Addr) (cdv:Value) (A:Around) (outer:List Env) (s:Shared) (H:Hp) (vs:List V) (Q:VK) (E:XK),Room k (A.deeper (envOfC qual (am st) s.heap.objs.size f cdv))→sp vs H Q E →
   ∃ t,PSs (gC CX0 P w K mg base N qual (am st) f cdv A outer s H E).nox (gg st) t∧t { nx:=fun _ H'=>Q .non H',rt:=Q } (start N vs) H):Ok P w K mg base CX0 (k+1) x ps sp:=by
 obtain ⟨f,fd,F,b,m⟩:=F
 exact ⟨f,fd,F.ok S len fun cdv A outer s H vs Q E hr hsp=>hbody f cdv A outer s H vs Q E hr hsp,b,F.kp,m⟩
def MkOk (P:Program) (w:World) (K:PySem.W.Frag) (mg:Str→Option Value) (base:Heap) (CX:CXT) (k:Nat) (x:Str) (C:Addr) (ps:List Str) (sp:Sp):Prop :=
 ∃ f fd,Mk K C f∧gD P w K mg base CX k f fd ps sp∧Binds K fd ps []∧mg x=some (.ref C)
end
section
variable {X:Cx}{CX:CXT}{k j:Nat}{x:Str}{p pos:Pos}{e:Expr}{es:List Expr}{t:TA}{ps:List Str}{sp:Sp}{C:Addr}
theorem aj (O:Ok X.prog X.w X.K X.mg X.base CX0 k x ps sp) (hr:Room j X.A) (hg:Gl X x) (ha:PA X (e::es) t) (hle:k≤j:=by decide) (hdb:(x == ("__debug__":Str))=false:=by decide)
  (he:starEach (e::es) X.env=(false,eval e X.env)::starEach es X.env:=by rfl) (hpl:(backTo pos (starEach es X.env)).any (·.1)=false:=by rfl):PE X (.Call (.Name x p) (e::es) [] pos) (tCall sp [] E0 t):=by
 obtain ⟨f,fd,F,b,kp,m⟩:=O
 exact pk F (hr.mono hle) hg m kp b .nil pass0 ha hdb he hpl
theorem ms (O:MkOk X.prog X.w X.K X.mg X.base CX0 k x C ps sp) (hr:Room j X.A) (hg:Gl X x) (ha:PA X (e::es) t) (hle:k+1≤j:=by decide) (hdb:(x == ("__debug__":Str))=false:=by decide)
  (he:starEach (e::es) X.env=(false,eval e X.env)::starEach es X.env:=by rfl) (hpl:(backTo pos (starEach es X.env)).any (·.1)=false:=by rfl):PE X (.Call (.Name x p) (e::es) [] pos) (tMake C sp [] E0 t):=by
 obtain ⟨f,fd,M,F,b,m⟩:=O
 exact pe_make M F (hr.mono hle) hg m b .nil pass0 ha hdb he hpl
end
section
variable {X:Cx}
end
theorem for_rev {K:PySem.W.Frag}{a:Addr}{xs:List V}{g:TG}{tb:TS}{D:ow}{σ:St}{H:Hp} (Pv:Nat→St→Hp→Prop) (h0:Pv 0 σ H) (hl:∀ i σ H,i≤xs.length→Pv i σ H→SqL K H a xs)
  (hs:∀ i x σ H,xs[xs.length - 1 - i]?=some x→i<xs.length→Pv i σ H→g x σ H fun σ2 H2=>tb { D with nx:=Pv (i+1),ct:=Pv (i+1),bk:=D.nx } σ2 H2) (hd:∀ σ H,Pv xs.length σ H→D.nx σ H) :
  ∃ W:Nat→Nat→St→Hp→Prop,(∃ m,W 0 m σ H)∧∀ i m σ H,W i m σ H →
   ((qx K a xs.length).stop i H∧D.nx σ H)∨((qx K a xs.length).go i H∧∃ N:St→Hp→Prop,(∀ σ' H',N σ' H'→∃ m',m'<m∧W (i+1) m' σ' H')∧∀ x H',(qx K a xs.length).yld i H x H'→g x σ H' fun σ2 H2=>tb { D with nx:=N,ct:=N,bk:=D.nx } σ2 H2):=by
 refine ⟨fun i m σ H=>m=xs.length - i∧i≤xs.length∧Pv i σ H,⟨xs.length,by simp,Nat.zero_le _,h0⟩,?_⟩
 rintro i m σ H ⟨rfl,hi,p⟩
 by_cases hlt:i<xs.length
 ·refine .inr ⟨⟨hlt,xs,hl i σ H hi p,rfl⟩,Pv (i+1),fun σ' H' p'=>⟨xs.length - (i+1),by omega,rfl,hlt,p'⟩,fun x H' y=>?_⟩
  obtain ⟨e,y⟩:=y
  subst e
  exact hs i x σ _ (y xs (hl i σ _ hi p) rfl) hlt p
 ·have e:i=xs.length:=by omega
  exact .inl ⟨e,hd σ H (by rw [← e];exact p)⟩
theorem cT {k:Nat}{lo:Int}{n:Nat}{g:TG}{tt:TT}{te:TE}{tl:St}{D:Addr}{Q:Hp→Prop}{H0:Hp} (Pv:Nat→List V→Hp→Prop) (h0:Pv 0 [] (upd H0 D (.lst [])))
  (hs:∀ i ys H,i<n→Pv i ys H→H D=some (.lst ys)→g (.int (lo+i)) (List.replicate k none++tl) H fun σ2 H2=>(σ2.length=k+tl.length∧σ2.drop k=tl) ∧
   tt σ2 H2 fun b H3=>if b=true then te σ2 H3 fun v H4=>H4 D=some (.lst ys)∧ys.length<sizeLine∧Pv (i+1) (ys++[v]) (upd H4 D (.lst (ys++[v]))) else H3 D=some (.lst ys)∧Pv (i+1) ys H3)
  (hd:∀ ys H,Pv n ys H→H D=some (.lst ys)→Q H) :
  ∃ W:Nat→Nat→List V→Hp→Prop,(∃ m,W 0 m [] (upd H0 D (.lst [])))∧gW k (Itr lo n) g tt te tl D Q W:=by
 refine ⟨fun i m ys H=>m=n - i∧i≤n∧Pv i ys H,⟨n,by simp,Nat.zero_le _,h0⟩,?_⟩
 rintro i m ys H ⟨rfl,hi,p⟩ hD
 by_cases hlt:i<n
 ·refine .inr ⟨hlt,Pv (i+1),fun ys' H' q=>⟨n - (i+1),by omega,rfl,hlt,q⟩,fun x H1 y=>?_⟩
  obtain ⟨e,y⟩:=y
  subst e y
  exact hs i ys _ hlt p hD
 ·have e:i=n:=by omega
  exact .inl ⟨Nat.le_of_not_lt hlt,hd ys H (by rw [← e];exact p) hD⟩
theorem bF {K:PySem.W.Frag}{a:Addr}{xs:List V}{k:Nat}{g:TG}{tt:TT}{te:TE}{tl:St}{D:Addr}{Q:Hp→Prop}{H0:Hp} (Pv:Nat→List V→Hp→Prop) (h0:Pv 0 [] (upd H0 D (.lst []))) (hl:∀ i ys H,i≤xs.length→Pv i ys H→SqL K H a xs)
  (hs:∀ i x ys H,xs[i]?=some x→Pv i ys H→H D=some (.lst ys)→g x (List.replicate k none++tl) H fun σ2 H2=>(σ2.length=k+tl.length∧σ2.drop k=tl) ∧
   tt σ2 H2 fun b H3=>if b=true then te σ2 H3 fun v H4=>H4 D=some (.lst ys)∧ys.length<sizeLine∧Pv (i+1) (ys++[v]) (upd H4 D (.lst (ys++[v]))) else H3 D=some (.lst ys)∧Pv (i+1) ys H3)
  (hd:∀ ys H,Pv xs.length ys H→H D=some (.lst ys)→Q H) :
  ∃ W:Nat→Nat→List V→Hp→Prop,(∃ m,W 0 m [] (upd H0 D (.lst [])))∧gW k (Itl K a) g tt te tl D Q W:=by
 refine ⟨fun i m ys H=>m=xs.length - i∧i≤xs.length∧Pv i ys H,⟨xs.length,by simp,Nat.zero_le _,h0⟩,?_⟩
 rintro i m ys H ⟨rfl,hi,p⟩ hD
 have q:=hl i ys H hi p
 by_cases hlt:i<xs.length
 ·refine .inr ⟨⟨xs,xs[i],q,by simp [hlt]⟩,Pv (i+1),fun ys' H' q'=>⟨xs.length - (i+1),by omega,rfl,hlt,q'⟩,fun x H1 y=>?_⟩
  obtain ⟨e,y⟩:=y
  subst e
  exact hs i x ys _ (y xs q) p hD
 ·have e:i=xs.length:=by omega
  subst e
  exact .inl ⟨⟨xs,q,Nat.le_refl _⟩,hd ys H p hD⟩
theorem gQ {K:PySem.W.Frag}{a b:Addr}{xs zs:List V}{k:Nat}{g:TG}{tt:TT}{te:TE}{tl:St}{D:Addr}{Q:Hp→Prop}{H0:Hp} (Pv:Nat→List V→Hp→Prop) (h0:Pv 0 [] (upd H0 D (.lst []))) (hl:∀ i ys H,Pv i ys H→SqL K H a xs∧SqL K H b zs)
  (hs:∀ i x z ys H p,xs[i]?=some x→zs[i]?=some z→Pv i ys H→H D=some (.lst ys)→H p=none→g (.ref p) (List.replicate k none++tl) (upd H p (.tup [x,z])) fun σ2 H2=>(σ2.length=k+tl.length∧σ2.drop k=tl) ∧
   tt σ2 H2 fun b H3=>if b=true then te σ2 H3 fun v H4=>H4 D=some (.lst ys)∧ys.length<sizeLine∧Pv (i+1) (ys++[v]) (upd H4 D (.lst (ys++[v]))) else H3 D=some (.lst ys)∧Pv (i+1) ys H3)
  (hd:∀ ys H,Pv (min xs.length zs.length) ys H→H D=some (.lst ys)→Q H) :
  ∃ W:Nat→Nat→List V→Hp→Prop,(∃ m,W 0 m [] (upd H0 D (.lst [])))∧gW k (Itz K a b) g tt te tl D Q W:=by
 refine ⟨fun i m ys H=>m=min xs.length zs.length - i∧i≤min xs.length zs.length∧Pv i ys H,⟨min xs.length zs.length,by simp,Nat.zero_le _,h0⟩,?_⟩
 rintro i m ys H ⟨rfl,hi,p⟩ hD
 obtain ⟨q1,q2⟩:=hl i ys H p
 by_cases hlt:i<min xs.length zs.length
 ·have h1:i<xs.length:=by omega
  have h2:i<zs.length:=by omega
  refine .inr ⟨⟨xs,zs,xs[i],zs[i],q1,q2,by simp [h1],by simp [h2]⟩,Pv (i+1),fun ys' H' q'=>⟨min xs.length zs.length - (i+1),by omega,rfl,hlt,q'⟩,fun x H1 y=>?_⟩
  obtain ⟨c,hc,e,y⟩:=y
  have e1:=y xs zs xs[i] zs[i] q1 q2 (by simp [h1]) (by simp [h2])
  subst e e1
  exact hs i xs[i] zs[i] ys H c (by simp [h1]) (by simp [h2]) p hD hc
 ·have e:i=min xs.length zs.length:=by omega
  refine .inl ⟨⟨xs,zs,q1,q2,?_⟩,hd ys H (by rw [← e];exact p) hD⟩
  omega
theorem lI {K:PySem.W.Frag}{a b:Addr}{xs zs:List V}{g:TG}{tb:TS}{D:ow}{σ:St}{H:Hp} (Pv:Nat→St→Hp→Prop) (h0:Pv 0 σ H) (hl:∀ i σ H,Pv i σ H→SqL K H a xs∧SqL K H b zs)
  (hs:∀ i x z σ H p,xs[i]?=some x→zs[i]?=some z→Pv i σ H→H p=none→g (.ref p) σ (upd H p (.tup [x,z])) fun σ2 H2=>tb { D with nx:=Pv (i+1),ct:=Pv (i+1),bk:=D.nx } σ2 H2) (hd:∀ σ H,Pv (min xs.length zs.length) σ H→D.nx σ H) :
  ∃ W:Nat→Nat→St→Hp→Prop,(∃ m,W 0 m σ H)∧∀ i m σ H,W i m σ H →
   ((Itz K a b).stop i H∧D.nx σ H)∨((Itz K a b).go i H∧∃ N:St→Hp→Prop,(∀ σ' H',N σ' H'→∃ m',m'<m∧W (i+1) m' σ' H')∧∀ x H',(Itz K a b).yld i H x H'→g x σ H' fun σ2 H2=>tb { D with nx:=N,ct:=N,bk:=D.nx } σ2 H2):=by
 refine ⟨fun i m σ H=>m=min xs.length zs.length - i∧i≤min xs.length zs.length∧Pv i σ H,⟨min xs.length zs.length,by simp,Nat.zero_le _,h0⟩,?_⟩
 rintro i m σ H ⟨rfl,hi,p⟩
 obtain ⟨q1,q2⟩:=hl i σ H p
 by_cases hlt:i<min xs.length zs.length
 ·have h1:i<xs.length:=by omega
  have h2:i<zs.length:=by omega
  refine .inr ⟨⟨xs,zs,xs[i],zs[i],q1,q2,by simp [h1],by simp [h2]⟩,Pv (i+1),fun σ' H' p'=>⟨min xs.length zs.length - (i+1),by omega,rfl,hlt,p'⟩,fun x H' y=>?_⟩
  obtain ⟨c,hc,e,y⟩:=y
  have e1:=y xs zs xs[i] zs[i] q1 q2 (by simp [h1]) (by simp [h2])
  subst e e1
  exact hs i xs[i] zs[i] σ H c (by simp [h1]) (by simp [h2]) p hc
 ·have e:i=min xs.length zs.length:=by omega
  refine .inl ⟨⟨xs,zs,q1,q2,?_⟩,hd σ H (by rw [← e];exact p)⟩
  omega
section
variable {X:Cx}{e a b:Expr}{ta tb:TE}{f:Str}{pos:Pos}
theorem dL (K:PySem.W.Frag) (he:PE X e ta) (hb:attributeBase e f X.env (eval e X.env)=eval e X.env) (hK:X.K=K:=by rfl):PE X (.Attribute e f pos) (tFld K ta f):=by
 subst hK
 exact aI he hb
theorem jM (K:PySem.W.Frag) (hK:X.K=K:=by rfl):IxR X (rIxL K):=by
 subst hK
 exact bf
theorem lE (K:PySem.W.Frag) (hK:X.K=K:=by rfl):IxR X (rIxT K):=by
 subst hK
 exact bO
theorem qm (K:PySem.W.Frag) (hK:X.K=K:=by rfl):CallR X (.builtin "len") (fun xs H Q=>∃ p ys,xs=[.ref p]∧(SqL K H p ys∨SqT K H p ys)∧Q (.int ys.length) H):=by
 subst hK
 exact aB
theorem fV (K:PySem.W.Frag) (n:Nat) {es:List Expr}{k:Nat}{t:TGs} (hc:X.calm=true) (h:PGs X es t) (hn:(assignEach es X.env).length=n:=by rfl) (hst:(assignEach es X.env).findIdx? (·.1)=none:=by rfl) (hK:X.K=K:=by rfl):PG X (.Tuple es k pos) (gTup K n t):=by
 subst hK
 exact gm hc h hn hst
end
end L2
namespace L2
open PySem PySem.Spec PyProof.Rows
theorem oh {P:Program}{w:World}{A:Around} (hh:A.handled=none) (it l:Addr) (hne:l≠it) (items:Array Value) (k0:Nat) :
  Draws P w A.in1 it [it,l] (k0+items.size) (fun i x=>items[i - k0]?=some x) (fun i h=>k0≤i∧h.IsListIter it l (i - k0)∧h.IsList l items) where
 live:=fun i h st=>let ⟨o,e,_⟩:=st.2.1;⟨o,e⟩
 frame:=fun i h h' st k=>⟨st.1,st.2.1.at fun o e=>k it (by simp) o e,st.2.2.at fun o e=>k l (by simp) o e⟩
 item:=fun i s Q E hi st hQ=>by
  obtain ⟨s1,s2,s3⟩:=st
  have hx:items[i - k0]?=some (items[i - k0]'(by omega)):=Array.getElem?_eq_getElem (by omega)
  refine wpAny_nextOf_list_item s2 s3 hx fun h' st' sb=>?_
  rw [show i - k0+1=i+1 - k0 by omega] at st'
  exact hQ _ h' s.toks hx ⟨by omega,st',s3.at fun o e=>(sb.2 l hne).trans e⟩ sb
 done:=fun s Q E st hE=>by
  obtain ⟨s1,s2,s3⟩:=st
  exact wpAny_nextOf_list_end (show A.in1.handled=none from hh) s2 s3 (Array.getElem?_eq_none (by omega)) hE
def Ite (K:PySem.W.Frag) (a:Addr) (k0:Nat):It :=
  ⟨fun i H=>∃ xs x,SqL K H a xs∧xs[i]?=some x,
   fun i H v H'=>∃ p,H p=none∧v=.ref p∧∀ xs x,SqL K H a xs→xs[i]?=some x→H'=upd H p (.tup [.int ((k0+i:Nat):Int),x]),
   fun i H=>∃ xs,SqL K H a xs∧xs.length≤i⟩
theorem j0 {P:Program}{w:World}{K:PySem.W.Frag}{elts:List Expr}{k1:Nat}{tp:Pos} (a e it:Addr) (k0:Nat) (d1:e≠it) :
  Turn P w K (.Tuple elts k1 tp) (Ite K a k0) [e,it] e (fun i h=>(∃ old,IsEnum h e it ((k0+i:Nat):Int) old)∧h.IsListIter it a i) where
 mem:=by simp
 obj:=fun i h st c hb=>by
  obtain ⟨⟨old,s1⟩,o2,s2,_,t2⟩:=st
  simp only [List.mem_cons,List.not_mem_nil,or_false] at hb
  rcases hb with rfl | rfl
  ·exact ⟨_,s1,fun v z=>by cases z⟩
  ·exact ⟨_,s2,fun v z=>by rw [t2] at z;cases z⟩
 keep:=fun i h h' st k=>by
  obtain ⟨⟨old,s1⟩,s2⟩:=st
  exact ⟨⟨old,k e (by simp) _ s1⟩,s2.at fun o q=>k it (by simp) o q⟩
 item:=by
  intro X hP hw hK hc i pins s σ H E I hf st hg
  subst hP hw hK
  obtain ⟨xs,x,hqa,hx⟩:=hg
  obtain ⟨⟨old,s1⟩,s2⟩:=st
  obtain ⟨its1,rv1,p1,z1⟩:=I.list hqa
  obtain ⟨u1,hu1,ru1⟩:=rv1.get hx
  have e2:=s2
  obtain ⟨o2,q2,c2,_⟩:=e2
  have n2:o2.cls≠.type "list":=by rw [c2];decide
  have a1:a≠e:=I.list_apart hqa s1 (show Value.type "enumerate"≠Value.type "list" by decide)
  have a2:a≠it:=I.list_apart hqa q2 n2
  have hi:i<its1.length:=(List.getElem?_eq_some_iff.mp hu1).1
  have D:=oh (P:=X.prog) (w:=X.w) (I.ok.hd hc) it a a2 its1.toArray k0
  refine wpAny_pyNext_enum_itemD (i:=k0+i) D s1 ⟨by omega,by rw [show k0+i - k0=i by omega];exact s2,p1.isList⟩ (by rw [List.size_toArray];omega) d1 (by simp only [List.mem_cons,List.not_mem_nil,or_false,not_or];exact ⟨d1,fun z=>a1 z.symm⟩) fun y h' tk hy b1 b2 b3 b4 b5=>?_
  rw [show k0+i - k0=i by omega] at hy
  have ey:y=u1:=by
   have:its1.toArray[i]?=some u1:=by simpa using hu1
   rw [this] at hy
   exact (Option.some.inj hy).symm
  subst ey
  refine ⟨_,rfl,?_⟩
  refine wpAny_letOwnedTupleGo_enum (s:={ s with heap:=h',toks:=tk+1 }) b1 fun h2 hz2 hs2=>?_
  have lt:∀ {c:Addr}{o:Obj},s.heap.get? c=some o→s.heap.objs.size≠c:=fun q=>Nat.ne_of_gt (Heap.lt_size q)
  have kk:∀ c o,c∉[e,it]→s.heap.get? c=some o→h2.get? c=some o:=fun c o hm q=>by
   simp only [List.mem_cons,List.not_mem_nil,or_false,not_or] at hm
   exact (hs2.2 c hm.1).trans (b5 c o hm.1 hm.2 q)
  have pT:h2.get? s.heap.objs.size=some { cls:=.type "tuple",data:=.seq #[.int ((k0+i:Nat):Int) tk,y] }:=(hs2.2 _ (lt s1)).trans b3
  have I2:Inv X pins σ (upd H s.heap.objs.size (.tup [.int ((k0+i:Nat):Int),x])) { s with heap:=h2,toks:=tk+1 }:=I.turnedN (t':=tk+1) (ch:=[e,it]) (p:=s.heap.objs.size) (o:=.tup [.int ((k0+i:Nat):Int),x]) hf kk (Nat.le_refl _)
   ⟨(by show 2≤sizeLine;decide),[.int ((k0+i:Nat):Int) tk,y],.cons ⟨_,rfl⟩ (.cons ru1 .nil),⟨_,pT,rfl,_,rfl⟩⟩
  refine ⟨.ref s.heap.objs.size,_,I2,rfl,⟨_,I.fresh,rfl,fun xs' x' w1 w2=>?_⟩,⟨⟨y,?_⟩,?_⟩,fun c hm=>?_⟩
  ·rw [I.list_inj w1 hqa,hx] at w2
   cases w2
   rfl
  ·have:=hz2
   rw [show ((k0+i:Nat):Int)+1=((k0+(i+1):Nat):Int) by omega] at this
   exact this
  ·have:=b2.2.1
   rw [show k0+i+1 - k0=i+1 by omega] at this
   exact this.at fun o q=>(hs2.2 it d1.symm).trans q
  ·have hne:c≠s.heap.objs.size:=by
    simp only [List.mem_cons,List.not_mem_nil,or_false] at hm
    rcases hm with rfl | rfl
    ·exact (lt s1).symm
    ·exact (lt q2).symm
   rw [ar hne]
   exact (hf c hm).1
 done:=by
  intro X hP hw hK hc i pins s σ H E I hf st hg
  subst hP hw hK
  obtain ⟨xs,hqa,hx⟩:=hg
  obtain ⟨⟨old,s1⟩,s2⟩:=st
  obtain ⟨its1,rv1,p1,z1⟩:=I.list hqa
  have l1:=rv1.length
  have hT:s.TypeIs (.ref e) "enumerate":=⟨_,s1,rfl⟩
  unfold pyNext
  refine wpAny_bind (wpAny_attempt (wpAny_callSpecial?_slot (name:=Str.ofString "__next__") hT F.slot_enumerate_next (wpAny_call_entry F.slot_enumerate_next hT F.entry_enumerate_next ?_ (F.args_enumerate_next_1 _))))
  show wpAny _ _ (field (.ref e) 2 >>= _) _ _ _
  refine wpAny_bind (wpAny_field s1 rfl (x:=.ref it) rfl ?_)
  refine wpAny_bind (wpAny_nextOf_list_end (I.ok.hd hc) s2 p1.isList (by rw [List.getElem?_toArray];exact List.getElem?_eq_none (by omega)) fun h' y he' hx'=>?_)
  obtain ⟨o,ho,hcl⟩:=hx'
  refine wpAny_bind (wpAny_isInstance (T:="StopIteration") (b:=true) ⟨o,ho,hcl⟩ isSubtype_stop (wpAny_pure ⟨rfl,?_⟩))
  exact I.turnedK (t':=s.toks) (ch:=[it]) (on1 (hf it (by simp))) fun c o hm q=>he' c o (by simpa using hm) q
 self:=fun _ _ _ _ _ st h=>let ⟨_,q⟩:=st.1;wpAny_pyIter_enum q h
def iEnum (K:PySem.W.Frag) (ta:TA):TI:=fun σ H R=>ta σ H fun vs H1=>∃ a xs,vs=[.ref a]∧SqL K H1 a xs∧R (Ite K a 0) H1
section
variable {X:Cx}
theorem pi {elts:List Expr}{k1:Nat}{tp:Pos}{a:Expr}{ta:TA}{p pos:Pos} (hg:Gl X "enumerate") (hm:X.mg "enumerate"=none) (ha:PA X [a] ta) (hs:starEach [a] X.env=[(false,eval a X.env)]:=by rfl) :
  PI X (.Tuple elts k1 tp) (.Call (.Name "enumerate" p) [a] [] pos) (iEnum X.K ta):=by
 intro pins s σ H R I h
 refine Call_ (eF I hg hm boot_enumerate (PyProof.Rows.callWith_type1 (thn (ha pos pins s σ H _ I h) fun us s1 ⟨vs,H1,I1,r1,q1⟩=>?_) hs rfl))
 obtain ⟨l,xs,e,hq,q⟩:=q1
 subst e
 obtain ⟨u,rfl,ru⟩:=r1.one
 cases ru
 obtain ⟨its,rv,pl,hz⟩:=I1.list hq
 refine call_enumerate_list pl.isList fun h' a1 a2 a3 a4=>?_
 refine wpAny_pyIter_enum (s:={ s1 with heap:=h' }) a1 ?_
 refine ⟨_,[s1.heap.objs.size+1,s1.heap.objs.size],_,_,H1,rfl,I1.kept (t':=s1.toks) fun c o e=>a4 c o e,j0 l _ _ 0 (by simp),⟨⟨_,a1⟩,a2⟩,?_,q⟩
 refine pY I1 (fun c hc=>I1.hok.fresh hc) fun c hc=>?_
 simp only [List.mem_cons,List.not_mem_nil,or_false] at hc
 rcases hc with r | r<;>rw [r]
 ·exact Nat.le_add_right _ _
 ·exact Nat.le_refl _
end
section
variable {X:Cx}
theorem qk (hc:X.calm=true):CallR X (.type "set") (fun xs H Q=>∃ (l:Addr) (ns:List Int),xs=[.ref l]∧SqL X.K H l (ns.map V.int)∧ns.length≤1000∧∀ p,H p=none→Q (.ref p) (upd H p (.set (fun k=>(firstMet (fun i=>ns.getD i 0) ns.length).any (· == k)) (firstMet (fun i=>ns.getD i 0) ns.length).length))):=by
 intro pins s σ H xs us Q I r h
 obtain ⟨l,ns,rfl,hq,hl,q⟩:=h
 obtain ⟨u,rfl,ru⟩:=r.one
 cases ru
 obtain ⟨its,rv,pl,hz⟩:=I.list hq
 have ll:its.length=ns.length:=by have:=rv.length;rw [List.length_map] at this;exact this.symm
 refine call_set_list (I.ok.hd hc) pl.isList (ns:=ns) (by simpa using nW rv) (by rw [List.size_toArray,ll];show _<4096;omega) fun h' tk st kk=>?_
 have es:its.toArray.size=ns.length:=by rw [List.size_toArray,ll]
 rw [es] at st
 exact ⟨.ref s.heap.objs.size,_,I.laid (o:=.set (fun k=>(firstMet (fun i=>ns.getD i 0) ns.length).any (· == k)) (firstMet (fun i=>ns.getD i 0) ns.length).length) (t':=tk) (fun b o e=>kk b o (Heap.lt_size e) e) (Nat.le_refl _) st,rfl,q _ I.fresh⟩
theorem ql:CallR X (.builtin "len") (fun xs H Q=>∃ p S n,xs=[.ref p]∧H p=some (.set S n)∧n≤1000∧Q (.int n) H):=by
  intro pins s σ H xs us Q I r h
  obtain ⟨p,S,n,rfl,hp,hn,q⟩:=h
  obtain ⟨u,rfl,ru⟩:=r.one
  cases ru
  have st:s.heap.SetOf (intKind X.prog X.w) p S n:=I.hok p _ hp
  obtain ⟨o,es,ep,t,h1,h2,h3,_,_,h6,h7,h8⟩:=st
  subst h8
  exact call_len_set h1 h2 h3 h7 (by have:es.size<4096:=h6
                                     omega) ⟨.int es.size,H,I.tok _,⟨_,rfl⟩,q⟩
end
section
variable {X:Cx}
theorem mX:∀ (bs:List Bool),(List.range bs.length).all (fun i=>bs.getD i false)=bs.all id
 | []=>rfl
 | b::r=>by
  rw [List.length_cons,List.range_succ_eq_map,List.all_cons,List.all_map,List.all_cons]
  have e:((fun i=>(b::r).getD i false) ∘ Nat.succ)=fun i=>r.getD i false:=by funext i;rfl
  rw [e,mX r]
  rfl
theorem iH (hc:X.calm=true):CallR X (.builtin "all") (fun xs H Q=>∃ (l:Addr) (bs:List Bool),xs=[.ref l]∧SqL X.K H l (bs.map V.bl)∧Q (.bl (bs.all id)) H):=by
 intro pins s σ H xs us Q I r h
 obtain ⟨l,bs,rfl,hq,q⟩:=h
 obtain ⟨u,rfl,ru⟩:=r.one
 cases ru
 obtain ⟨its,rv,pl,hz⟩:=I.list hq
 have ll:its.length=bs.length:=by have:=rv.length;rw [List.length_map] at this;exact this.symm
 have hh:X.A.in1.handled=none:=I.ok.hd hc
 have lt:l<s.heap.objs.size:=by obtain ⟨o,_,e,_⟩:=pl;exact Heap.lt_size e
 refine call_all_walk (wpAny_pyIter_list pl.isList ?_)
 refine ⟨s.heap.objs.size,_,_,_,_,_,fun i=>bs.getD i false,rfl,Walks.list hh s.heap.objs.size l (Nat.ne_of_lt lt) its.toArray,⟨⟨_,Heap.get?_push_size _ rfl,rfl,rfl⟩,pl.isList.at fun o e=>Heap.get?_push_of_some _ e⟩,fun i v s' Q' E' hv hQ=>?_,fun h' tk kk=>?_⟩
 ·have hv':its[i]?=some v:=by simpa using hv
  have hi:i<bs.length:=by rw [← ll];exact (List.getElem?_eq_some_iff.mp hv').1
  obtain ⟨u,hu,ru⟩:=rv.get (i:=i) (x:=.bl bs[i]) (by rw [List.getElem?_map,List.getElem?_eq_getElem hi];rfl)
  rw [hv'] at hu
  cases hu
  cases ru
  have hQ:Q' (bs.getD i false) s':=hQ
  rw [List.getD_eq_getElem?_getD,List.getElem?_eq_getElem hi] at hQ
  exact wpAny_truthy_bool hQ
 ·have e:(List.range its.toArray.size).all (fun i=>bs.getD i false)=bs.all id:=by rw [List.size_toArray,ll,mX]
  rw [e]
  exact ⟨.bl _,H,I.kept (t':=tk) fun b o eb=>kk b o (by simpa using Nat.ne_of_lt (Heap.lt_size eb)) (Heap.get?_push_of_some _ eb),rfl,q⟩
theorem e9 (ns:List Int):∀ i,preSum (fun i=>ns.getD i 0) i=(ns.take i).sum
 | 0=>by simp [preSum]
 | i+1=>by
  rw [preSum,e9 ns i]
  by_cases h:i<ns.length
  ·rw [List.take_add_one,List.getElem?_eq_getElem h,List.sum_append,List.getD_eq_getElem?_getD,List.getElem?_eq_getElem h]
   simp
  ·rw [List.getD_eq_getElem?_getD,List.getElem?_eq_none (by omega),List.take_of_length_le (by omega),List.take_of_length_le (by omega)]
   simp
theorem sum_b:∀ (ns:List Int),(∀ v∈ns,0≤v∧v≤1000000)→0≤ns.sum∧ns.sum≤1000000*ns.length
 | [],_=>by simp
 | v::r,h=>by
  have h1:=h v List.mem_cons_self
  have h2:=sum_b r fun w hw=>h w (List.mem_cons_of_mem _ hw)
  rw [List.sum_cons,List.length_cons]
  omega
theorem iG (hc:X.calm=true):CallR X (.builtin "sum") (fun xs H Q=>∃ (l:Addr) (ns:List Int),xs=[.ref l]∧SqL X.K H l (ns.map V.int)∧ns.length≤1000∧(∀ v∈ns,0≤v∧v≤1000000)∧Q (.int ns.sum) H):=by
 intro pins s σ H xs us Q I r h
 obtain ⟨l,ns,rfl,hq,hl,hb,q⟩:=h
 obtain ⟨u,rfl,ru⟩:=r.one
 cases ru
 obtain ⟨its,rv,pl,hz⟩:=I.list hq
 have ll:its.length=ns.length:=by have:=rv.length;rw [List.length_map] at this;exact this.symm
 have hh:X.A.in1.handled=none:=I.ok.hd hc
 have lt:l<s.heap.objs.size:=by obtain ⟨o,_,e,_⟩:=pl;exact Heap.lt_size e
 refine call_sum_walk (wpAny_pyIter_list pl.isList ?_)
 refine ⟨s.heap.objs.size,_,_,_,_,_,fun i=>ns.getD i 0,rfl,Walks.list hh s.heap.objs.size l (Nat.ne_of_lt lt) its.toArray,⟨⟨_,Heap.get?_push_size _ rfl,rfl,rfl⟩,pl.isList.at fun o e=>Heap.get?_push_of_some _ e⟩,fun b hb'=>?_,fun i v hv=>?_,fun j hj=>?_,fun h' tk t' kk=>?_⟩
 ·show b<(s.heap.push _).objs.size
  rw [Heap.size_push]
  simp only [List.mem_cons,List.not_mem_nil,or_false] at hb'
  rcases hb' with z | z
  ·rw [z]
   exact Nat.lt_succ_self _
  ·rw [z]
   exact Nat.lt_succ_of_lt lt
 ·have hv':its[i]?=some v:=by simpa using hv
  have hi:i<ns.length:=by rw [← ll];exact (List.getElem?_eq_some_iff.mp hv').1
  obtain ⟨u,hu,ru⟩:=rv.get (i:=i) (x:=.int ns[i]) (by rw [List.getElem?_map,List.getElem?_eq_getElem hi];rfl)
  rw [hv'] at hu
  cases hu
  obtain ⟨t,rfl⟩:=ru
  refine ⟨t,?_⟩
  show Value.int ns[i] t=Value.int (ns.getD i 0) t
  rw [List.getD_eq_getElem?_getD,List.getElem?_eq_getElem hi]
  rfl
 ·have hj':j<ns.length:=by rw [← ll];simpa using hj
  have b1:=hb ns[j] (List.getElem_mem hj')
  have b2:=sum_b (ns.take (j+1)) fun v hv=>hb v (List.mem_of_mem_take hv)
  rw [List.length_take] at b2
  rw [e9]
  refine ⟨?_,?_⟩
  ·show InLong (ns.getD j 0)
   rw [List.getD_eq_getElem?_getD,List.getElem?_eq_getElem hj']
   show -(2 ^ 63)≤ns[j]∧ns[j]<2 ^ 63
   omega
  ·show -(2 ^ 63)≤(ns.take (j+1)).sum∧(ns.take (j+1)).sum<2 ^ 63
   omega
 ·have e:preSum (fun i=>ns.getD i 0) its.toArray.size=ns.sum:=by rw [List.size_toArray,ll,e9,List.take_length]
  rw [e]
  exact ⟨.int _,H,I.kept (t':=tk) fun b o eb=>kk b o (by simpa using Nat.ne_of_lt (Heap.lt_size eb)) (Heap.get?_push_of_some _ eb),⟨_,rfl⟩,q⟩
end
theorem jQ {K:PySem.W.Frag}{a:Addr}{xs:List V}{k0:Nat}{g:TG}{tb:TS}{D:ow}{σ:St}{H:Hp} (Pv:Nat→St→Hp→Prop) (h0:Pv 0 σ H) (hl:∀ i σ H,Pv i σ H→SqL K H a xs)
  (hs:∀ i x σ H p,xs[i]?=some x→Pv i σ H→H p=none→g (.ref p) σ (upd H p (.tup [.int ((k0+i:Nat):Int),x])) fun σ2 H2=>tb { D with nx:=Pv (i+1),ct:=Pv (i+1),bk:=D.nx } σ2 H2) (hd:∀ σ H,Pv xs.length σ H→D.nx σ H) :
  ∃ W:Nat→Nat→St→Hp→Prop,(∃ m,W 0 m σ H)∧∀ i m σ H,W i m σ H →
   ((Ite K a k0).stop i H∧D.nx σ H)∨((Ite K a k0).go i H∧∃ N:St→Hp→Prop,(∀ σ' H',N σ' H'→∃ m',m'<m∧W (i+1) m' σ' H')∧∀ x H',(Ite K a k0).yld i H x H'→g x σ H' fun σ2 H2=>tb { D with nx:=N,ct:=N,bk:=D.nx } σ2 H2):=by
 refine ⟨fun i m σ H=>m=xs.length - i∧i≤xs.length∧Pv i σ H,⟨xs.length,by simp,Nat.zero_le _,h0⟩,?_⟩
 rintro i m σ H ⟨rfl,hi,p⟩
 have q1:=hl i σ H p
 by_cases hlt:i<xs.length
 ·refine .inr ⟨⟨xs,xs[i],q1,by simp [hlt]⟩,Pv (i+1),fun σ' H' p'=>⟨xs.length - (i+1),by omega,rfl,hlt,p'⟩,fun x H' y=>?_⟩
  obtain ⟨c,hc,e,y⟩:=y
  have e1:=y xs xs[i] q1 (by simp [hlt])
  subst e e1
  exact hs i xs[i] σ H c (by simp [hlt]) p hc
 ·have e:i=xs.length:=by omega
  exact .inl ⟨⟨xs,q1,by omega⟩,hd σ H (by rw [← e];exact p)⟩
theorem qe {K:PySem.W.Frag}{a:Addr}{xs:List V}{k0 k:Nat}{g:TG}{tt:TT}{te:TE}{tl:St}{D:Addr}{Q:Hp→Prop}{H0:Hp} (Pv:Nat→List V→Hp→Prop) (h0:Pv 0 [] (upd H0 D (.lst []))) (hl:∀ i ys H,Pv i ys H→SqL K H a xs)
  (hs:∀ i x ys H p,xs[i]?=some x→Pv i ys H→H D=some (.lst ys)→H p=none→g (.ref p) (List.replicate k none++tl) (upd H p (.tup [.int ((k0+i:Nat):Int),x])) fun σ2 H2=>(σ2.length=k+tl.length∧σ2.drop k=tl) ∧
   tt σ2 H2 fun b H3=>if b=true then te σ2 H3 fun v H4=>H4 D=some (.lst ys)∧ys.length<sizeLine∧Pv (i+1) (ys++[v]) (upd H4 D (.lst (ys++[v]))) else H3 D=some (.lst ys)∧Pv (i+1) ys H3)
  (hd:∀ ys H,Pv xs.length ys H→H D=some (.lst ys)→Q H) :
  ∃ W:Nat→Nat→List V→Hp→Prop,(∃ m,W 0 m [] (upd H0 D (.lst [])))∧gW k (Ite K a k0) g tt te tl D Q W:=by
 refine ⟨fun i m ys H=>m=xs.length - i∧i≤xs.length∧Pv i ys H,⟨xs.length,by simp,Nat.zero_le _,h0⟩,?_⟩
 rintro i m ys H ⟨rfl,hi,p⟩ hD
 have q1:=hl i ys H p
 by_cases hlt:i<xs.length
 ·refine .inr ⟨⟨xs,xs[i],q1,by simp [hlt]⟩,Pv (i+1),fun ys' H' q'=>⟨xs.length - (i+1),by omega,rfl,hlt,q'⟩,fun x H1 y=>?_⟩
  obtain ⟨c,hc,e,y⟩:=y
  have e1:=y xs xs[i] q1 (by simp [hlt])
  subst e e1
  exact hs i xs[i] ys H c (by simp [hlt]) p hD hc
 ·have e:i=xs.length:=by omega
  exact .inl ⟨⟨xs,q1,by omega⟩,hd ys H (by rw [← e];exact p) hD⟩
end L2
namespace L2
open PySem PySem.Spec PyProof.Rows
theorem HOk.inB {P:Program}{w:World}{H:Hp}{h h' B:Heap} (x:HOk P w H h) (t:∀ b u,H b=some u→∃ o,B.get? b=some o) (k:B.StaysIn h) (k':B.StaysIn h'):HOk P w H h':=fun a o e =>
 (x a o e).stay (fun b u hb q=>by
  have hv:∃ v,H b=some v:=by
   rcases hb with z | z
   ·exact ⟨o,by rw [z];exact e⟩
   ·exact ⟨_,z⟩
  obtain ⟨v,hv⟩:=hv
  obtain ⟨ob,hob⟩:=t b v hv
  have:=k b ob hob
  rw [q] at this
  cases this
  exact k' b _ hob) (fun _ q=>q) fun _ _ q=>q
structure Flies (P:Program) (w:World) (outer:List Env) (H:Hp) (s:Shared) (a:Addr) (B:Heap) (H':Hp) (s':Shared):Prop where
 os:s'.os=s.os
 bare:AllBare s'.gens
 new:s.heap.get? a=none
 un:Un (frs outer) [] H H' s.heap s'.heap
 hok:HOk P w H' s'.heap
 inB:∀ b o,s.heap.get? b=some o→b∉frs outer→∃ o',B.get? b=some o'∧(H b=none→o'=o)
 trk:∀ b u,H' b=some u→∃ o,B.get? b=some o
 st:B.StaysIn s'.heap
theorem Flies.on {P:Program}{w:World}{outer:List Env}{H H':Hp}{s s':Shared}{a:Addr}{B h':Heap} (F:Flies P w outer H s a B H' s') (hfr:∀ b∈frs outer,H b=none∧∃ o,s.heap.get? b=some o∧∀ vs,o.data≠.fields vs)
  (k:B.StaysIn h') (sm:s'.heap.UpToSlots h'):Flies P w outer H s a B H' { s' with heap:=h' }:=by
 have fr:∀ b o,s.heap.get? b=some o→b∈frs outer→∃ sl,h'.get? b=some { o with slots:=sl }:=fun b o e hb=>by
  obtain ⟨n,ob,e',nf⟩:=hfr b hb
  rw [e] at e'
  cases e'
  obtain ⟨sl,q⟩:=F.un.any e n (by simp)
  obtain ⟨sl',q'⟩:=sm b _ q nf
  exact ⟨sl',q'⟩
 refine ⟨F.os,F.bare,F.new,⟨fun b o e n hb _=>?_,fun b o e n hb _=>fr b o e hb,F.un.free,fun b o e _=>?_,F.un.tups,F.un.frzs,F.un.tbls⟩,F.hok.inB F.trk F.st k,F.inB,F.trk,k⟩
 ·obtain ⟨o',q,z⟩:=F.inB b o e hb
  rw [z n] at q
  exact k b o q
 ·by_cases hb:b∈frs outer
  ·obtain ⟨sl,q⟩:=fr b o e hb
   exact ⟨_,q⟩
  ·obtain ⟨o',q,_⟩:=F.inB b o e hb
   exact ⟨o',k b o' q⟩
section
variable {X:Cx}{pins:List (Addr×Obj)}{σ:St}{H H':Hp}{s s':Shared}{a:Addr}{B:Heap}
theorem Inv.frOk (I:Inv X pins σ H s):∀ b∈frs X.stack,H b=none∧∃ o,s.heap.get? b=some o∧∀ vs,o.data≠.fields vs:=fun b hb=>⟨I.stkFree b hb,(I.stack.mem hb).2⟩
theorem Inv.offStack (I:Inv X pins σ H s) {b:Addr}{o:Obj} (e:X.s₀.heap.get? b=some o) (hb:b∉X.fs):b∉frs X.stack:=fun hm=>by
 rcases List.mem_cons.mp (I.stkSub b hm) with z | z
 ·exact absurd (Heap.lt_size e) (by rw [z];exact Nat.not_lt.mpr I.ok.above)
 ·exact hb z
theorem Flies.left (F:Flies X.prog X.w X.stack H s a B H' s') (I:Inv X pins σ H s) (hex:X.ex=[]):Flies X.prog X.w X.outer X.H₀ X.s₀ a B H' s':=by
 have noex:∀ b,b∉X.ex:=fun b=>by rw [hex];simp
 have news:X.s₀.heap.get? a=none:=by
  cases q:X.s₀.heap.get? a with
  | none=>rfl
  | some o =>
   obtain ⟨o',e⟩:=I.base.there a o q (noex a)
   rw [F.new] at e
   cases e
 refine ⟨F.os.trans I.os,F.bare,news,⟨fun b o e n hb _=>?_,fun b o e n hb _=>?_,fun b o e n _=>?_,fun b o e _=>?_,fun b xs q=>F.un.tups b xs (I.base.tups b xs q),fun b o xs q=>F.un.frzs b o xs (I.base.frzs b o xs q),fun b ps q=>?_⟩,F.hok,fun b o e hb=>?_,F.trk,F.st⟩
 ·exact F.un.keep b o (I.base.keep b o e n hb (noex b)) (I.base.free b o e n (noex b)) (I.offStack e hb) (by simp)
 ·obtain ⟨sl,e1⟩:=I.base.slot b o e n hb (noex b)
  obtain ⟨sl',e2⟩:=F.un.any e1 (I.base.free b o e n (noex b)) (by simp)
  exact ⟨sl',e2⟩
 ·obtain ⟨o',e1⟩:=I.base.there b o e (noex b)
  exact F.un.free b o' e1 (I.base.free b o e n (noex b)) (by simp)
 ·obtain ⟨o',e1⟩:=I.base.there b o e (noex b)
  exact F.un.there b o' e1 (by simp)
 ·obtain ⟨m1,e1⟩:=I.base.tbls b ps q
  obtain ⟨m2,e2⟩:=F.un.tbls b _ e1
  exact ⟨m1++m2,by rw [e2,Array.append_assoc]⟩
 ·obtain ⟨o1,e1⟩:=I.base.there b o e (noex b)
  obtain ⟨o',q,z⟩:=F.inB b o1 e1 (I.offStack e hb)
  refine ⟨o',q,fun n=>?_⟩
  have e2:=I.base.keep b o e n hb (noex b)
  rw [e1] at e2
  cases e2
  exact z (I.base.free b _ e n (noex b))
theorem Inv.flies {h':Heap}{cls:Value}{vs:List Value} (I:Inv X pins σ H s) (hx:Heap.MadeExcOf s.heap h' a cls vs):Flies X.prog X.w X.stack H s a (PySem.W.hideAll s.heap (frs X.stack)) H { s with heap:=h' }:=by
 have inb:∀ b o,s.heap.get? b=some o→b∉frs X.stack→(PySem.W.hideAll s.heap (frs X.stack)).get? b=some o:=fun b o e hb=>PySem.W.hideAll_get _ e hb
 refine ⟨rfl,I.bare,hx.new,Un.kept hx.keeps,I.hok.kept hx.keeps,fun b o e hb=>⟨o,inb b o e hb,fun _=>rfl⟩,fun b u e=>?_,fun b o e=>hx.keeps b o (PySem.W.of_hideAll _ e)⟩
 obtain ⟨o,q⟩:∃ o,s.heap.get? b=some o:=by
  have:=I.hok.lt e
  have hk:=I.hok b u e
  cases u with
  | lst xs=>obtain ⟨_,_,_,_,q⟩:=hk;exact ⟨_,q⟩
  | tup xs=>obtain ⟨_,_,_,o,q,_⟩:=hk;exact ⟨_,q⟩
  | dK kvs=>obtain ⟨_,_,_,_,o,_,_,q,_⟩:=hk;exact ⟨_,q⟩
  | dT kvs=>obtain ⟨_,_,_,_,o,_,_,q,_⟩:=hk;exact ⟨_,q⟩
  | set S n=>obtain ⟨o,_,_,_,q,_⟩:=hk;exact ⟨_,q⟩
  | ins C dx fs=>obtain ⟨_,_,_,q,_⟩:=hk;exact ⟨_,q⟩
  | own y=>exact hk
  | xd fs=>obtain ⟨_,⟨o,_,_,q,_⟩,_⟩:=hk;exact ⟨_,q⟩
  | rng lo hi=>obtain ⟨_,_,_,q⟩:=hk;exact ⟨_,q⟩
  | frz ob u=>obtain ⟨q,_⟩:=hk;exact ⟨_,q⟩
  | tbl ps=>exact ⟨_,(show s.heap.get? b=some _ from hk)⟩
  | met f y=>exact ⟨_,(show s.heap.get? b=some _ from hk)⟩
  | ext φ=>obtain ⟨_,q,_⟩:=hk;exact q
 refine ⟨o,inb b o q fun hm=>?_⟩
 rw [I.stkFree b hm] at e
 cases e
end
def CXE (P:Program) (w:World):CXT:=fun outer H s E e s'=>∃ (a C:Addr) (a0:Value) (B:Heap) (H':Hp),e=.ref a∧Flies P w outer H s a B H' s'∧Heap.FlyingW B outer a (.ref C) a0 s'.heap∧E (.ref C) none H'
section
variable {P:Program}{w:World}{K:PySem.W.Frag}{mg:Str→Option Value}{base:Heap}{N:List Str}{qual:Str}{scope:Scope}{f:Addr}{cd:Value}{A:Around}{outer:List Env}{s0:Shared}{H0:Hp}{E:XK}
theorem passE:gr (CXE P w) (gC (CXE P w) P w K mg base N qual scope f cd A outer s0 H0 E) E:=by
 intro pins σ H s e s' I hx
 obtain ⟨a,C,a0,B,H',e1,F,fl,hE⟩:=hx
 subst e1
 show wpAny (model P w) (A.deeper (envOfC qual scope s0.heap.objs.size f cd)) (leaving (envOfC qual scope s0.heap.objs.size f cd) (.ref a)) _ _ s'
 refine wpAny_leaves_onW (L:=s0.heap.objs.size) I.ok.frames rfl fl fun h' fl' sm=>?_
 exact ⟨a,C,a0,B,H',rfl,(F.on I.frOk fl'.1 sm).left I rfl,fl',hE⟩
theorem raisedE {pins:List (Addr×Obj)}{σ:St}{H:Hp}{s:Shared}{h':Heap}{a C:Addr}{vs:List Value} (I:Inv (gC (CXE P w) P w K mg base N qual scope f cd A outer s0 H0 E) pins σ H s) (hx:Heap.MadeExcOf s.heap h' a (.ref C) vs) (hE:E (.ref C) none H) :
  (gC (CXE P w) P w K mg base N qual scope f cd A outer s0 H0 E).xe (.ref a) { s with heap:=h' }:=by
 show wpAny (model P w) (A.deeper (envOfC qual scope s0.heap.objs.size f cd)) (leaving (envOfC qual scope s0.heap.objs.size f cd) (.ref a)) _ _ { s with heap:=h' }
 have F:=I.flies hx
 refine wpAny_leaves_madeW (L:=s0.heap.objs.size) (base:=PySem.W.hideAll s.heap (frs (envOfC qual scope s0.heap.objs.size f cd::outer))) (h:=s.heap) I.ok.frames rfl (fun b o q=>PySem.W.of_hideAll _ q)
  (PySem.W.funFrames_hide I.stack fun env he b hb=>List.mem_filterMap.mpr ⟨env,he,hb⟩) hx fun h'' t fl _ _ sm=>?_
 exact ⟨a,C,_,_,H,rfl,(F.on I.frOk fl.1 sm).left I rfl,fl,hE⟩
end
abbrev vErr:List Value:=[.type "ValueError",.type "Exception",.type "BaseException",.type "object"]
structure Exc (K:PySem.W.Frag) (mg:Str→Option Value) (x:Str) (C:Addr) (bm:List Value):Prop where
 bound:mg x=some (.ref C)
 obj:∃ (N:Addr) (nm q:Str) (bs:List Value) (hdct:Bool) (sn:List Str) (sub:List Value) (ab:Bool) (col:Option Bool) (dd:Option Addr) (k0 k1 k2 k3 k5:Option Value),
  K.lookup C=some (excClassObj nm q C N bs bm hdct sn sub ab col dd k0 k1 k2 k3 k5 "ValueError.__new__")∧PySem.W.nsOkIn K N=true∧PySem.W.nsIn K N "__init__"=some none∧PySem.W.tailIn K vErr bm=true
theorem Exc.base {K:PySem.W.Frag}{mg:Str→Option Value}{x:Str}{C:Addr}{bm:List Value} (O:Exc K mg x C bm) {h:Heap} (X:K.In h):bm.contains (.type "BaseException")=true:=by
 obtain ⟨N,nm,q,bs,hdct,sn,sub,ab,col,dd,k0,k1,k2,k3,k5,lk,n1,n2,tl⟩:=O.obj
 exact (PySem.W.tail_of_in X tl).hasType PySem.F.excBase_ValueError.hasBase
theorem mJ {K:PySem.W.Frag}{mg:Str→Option Value}{x:Str}{C N:Addr}{nm q:Str}{bs bm sub:List Value}{hdct ab:Bool}{sn:List Str}{col:Option Bool}{dd:Option Addr}{k0 k1 k2 k3 k5:Option Value} (b:mg x=some (.ref C))
  (lk:K.lookup C=some (excClassObj nm q C N bs bm hdct sn sub ab col dd k0 k1 k2 k3 k5 "ValueError.__new__")) (h:PySem.W.excIn K C vErr "ValueError.__new__"=true):Exc K mg x C bm:=by
 unfold PySem.W.excIn at h
 rw [lk] at h
 simp only [Bool.and_eq_true,beq_iff_eq] at h
 obtain ⟨⟨⟨_,h1⟩,h2⟩,h3⟩:=h
 exact ⟨b,N,nm,q,bs,hdct,sn,sub,ab,col,dd,k0,k1,k2,k3,k5,lk,h2,h3,h1⟩
def tRaise (te:TE) (C:Addr) (E:XK):TS:=fun _ σ H=>te σ H fun _ H1=>1≤sizeLine∧E (.ref C) none H1
section
variable {P:Program}{w:World}{K:PySem.W.Frag}{mg:Str→Option Value}{base:Heap}{N:List Str}{qual:Str}{scope:Scope}{f:Addr}{cd:Value}{A:Around}{outer:List Env}{s0:Shared}{H0:Hp}{E:XK}
theorem gI {x:Str}{C:Addr}{bm:List Value}{e:Expr}{te:TE}{np cpos pos:Pos} (O:Exc K mg x C bm) (hg:Gl (gC (CXE P w) P w K mg base N qual scope f cd A outer s0 H0 E) x)
  (he:PE (gC (CXE P w) P w K mg base N qual scope f cd A outer s0 H0 E) e te) (hdb:(x == ("__debug__":Str))=false:=by decide)
  (hs:starEach [e] (gC (CXE P w) P w K mg base N qual scope f cd A outer s0 H0 E).env=[(false,eval e (gC (CXE P w) P w K mg base N qual scope f cd A outer s0 H0 E).env)]:=by rfl) :
  PS (gC (CXE P w) P w K mg base N qual scope f cd A outer s0 H0 E) (.Raise (some (.Call (.Name x np) [e] [] cpos)) none pos) (tRaise te C E):=by
 intro pins s σ H D I h
 have KX:=I.kIn
 obtain ⟨Nn,nm,q,bs,hdct,sn,sub,ab,col,dd,k0,k1,k2,k3,k5,lk,n1,n2,tl⟩:=O.obj
 have hbase:=O.base KX
 have ns0:base.Ns Nn (base.nsMap Nn):=.of_isNs (PySem.W.isNs_of_in I.ok.mod.kin n1)
 refine wpAny_Raise_call_subT (nm:=nm) (q:=q) (C:=C) (N:=Nn) (bs:=bs) (bm:=bm) (hdct:=hdct) (sn:=sn) (sub:=sub) (ab:=ab) (col:=col) (dd:=dd) (k0:=k0) (k1:=k1) (k2:=k2) (k3:=k3) (k5:=k5) (mN:=base.nsMap Nn)
  PySem.F.excBase_ValueError hbase (I.ok.hd rfl) (by rw [hs];rfl) (PySem.W.nsMap_none_of_in I.ok.mod.kin n1 n2) (jL I hg O.bound ⟨rfl,?_⟩ hdb)
 have ha:=aa he (ac (X:=gC (CXE P w) P w K mg base N qual scope f cd A outer s0 H0 E)) hs
 have hz:=ha cpos pins s σ H (fun vs H1=>vs.length≤sizeLine∧E (.ref C) none H1) I h
 rw [hs] at hz ⊢
 refine Calls.evalArgs_plain (thn hz fun us s2 ⟨vs,H1,I1,r1,hl,q1⟩=>?_)
 exact ⟨rfl,by rw [← r1.length];exact hl,I1.kIn _ _ lk,ns0.keeps I1.bk,PySem.W.tail_of_in I1.kIn tl,fun h' a hx=>raisedE I1 hx q1⟩
end
def PJ (X:Cx) (es:List Expr) (n:Nat) (t:St→Hp→(Hp→Prop)→Prop):Prop:=∀ (pins:List (Addr×Obj)) (s:Shared) (σ:St) (H:Hp) (Q:Hp→Prop) (out:Str),Inv X pins σ H s→out.length+n≤sizeLine→t σ H Q →
 wpAny (model X.prog X.w) X.A (joinParts out (evalEach es X.env)) (fun u s'=>∃ x tk H',u=Value.str x tk∧Inv X pins σ H' s'∧Q H') X.xe s
section
variable {X:Cx}{n:Nat}{es:List Expr}{t:St→Hp→(Hp→Prop)→Prop}
end
section
variable {X:Cx}{pins pins':List (Addr×Obj)}{σ:St}{H H':Hp}{s s':Shared}{E':Value→Shared→Prop}{a C:Addr}{a0:Value}{B:Heap}
def Landed (X:Cx) (pins:List (Addr×Obj)) (σ:St) (a C:Addr) (H':Hp) (s':Shared):Prop :=
 ∃ (H:Hp) (s:Shared) (a0:Value) (B:Heap),Inv X pins σ H s∧Flies X.prog X.w X.stack H s a B H' s'∧Heap.FlyingW B X.stack a (.ref C) a0 s'.heap
end
section
variable {X:Cx}{pins:List (Addr×Obj)}{E':Value→Shared→Prop}{Ek:XK}{σ0:St}{k j:Nat}{x:Str}{p pos:Pos}{e:Expr}{es:List Expr}{t:TA}{ps:List Str}{sp:Sp}
end
abbrev TH:=Addr→Addr→ow→St→Hp→Prop
def PH (X:Cx) (hs:List ExceptHandler) (t:TH):Prop:=∀ (pins:List (Addr×Obj)) (σ:St) (H':Hp) (s':Shared) (a C:Addr) (D:ow),Landed X pins σ a C H' s'→t C a D σ H'→wpAny (model X.prog X.w) X.A (handleBy (.ref a) X.env hs) (SP X pins D) X.xe s'
section
variable {M:Model}{A:Around}{E:Value→Shared→Prop}{h:Heap}{g:Array GenState}{d:Drawn}{t:Nat}{os:OsState}
end
section
variable {X:Cx}{i:Nat}{x n y:Str}{np pos:Pos}{b₀:Stmt}{suite:List Stmt}{rest:List ExceptHandler}{ts:TS}{tr:TH}
theorem PS.nox {X:Cx}{st:Stmt}{t:TS} (h:PS X.nox st t):PS X st t:=fun pins s σ H D I hw =>
 wpAny_mono (h pins s σ H D (I.wish _) hw) (fun _ _ q=>q.unwish) fun _ _ z=>z.elim
end
section
variable {P:Program}{w:World}{K:PySem.W.Frag}{mg:Str→Option Value}{base:Heap}
theorem Src.okE {x qual:Str}{st:Stmt}{N ps:List Str}{k:Nat}{sp:Sp} (F:Src K mg x qual st ps) (S:aq N ps (am st)) (len:∀ vs H Q E,sp vs H Q E→vs.length=ps.length)
  (hbody:∀ (f:Addr) (cdv:Value) (A:Around) (outer:List Env) (s:Shared) (H:Hp) (vs:List V) (Q:VK) (E:XK),Room k (A.deeper (envOfC qual (am st) s.heap.objs.size f cdv))→sp vs H Q E →
   ∃ t,PSs (gC (CXE P w) P w K mg base N qual (am st) f cdv A outer s H E) (gg st) t∧t { nx:=fun _ H'=>Q .non H',rt:=Q } (start N vs) H):Ok P w K mg base (CXE P w) (k+1) x ps sp:=by
 obtain ⟨f,fd,F,b,m⟩:=F
 obtain ⟨oc,od,kV,doc,pm,an,cdv,ct,osl,rfl,lk,hcd⟩:=F.ex
 exact ⟨f,_,fn_of lk hcd S len fun A outer s H vs Q E hr hsp=>hbody f cdv A outer s H vs Q E hr hsp,b,F.kp,m⟩
end
section
variable {P:Program}{w:World}{K:PySem.W.Frag}{mg:Str→Option Value}{base:Heap}{N:List Str}{qual:Str}{scope:Scope}{f:Addr}{cd:Value}{A:Around}{outer:List Env}{s0:Shared}{H0:Hp}{E:XK}{k j:Nat}{x:Str}{p pos:Pos}{e:Expr}{es:List Expr}{t:TA}{ps:List Str}{sp:Sp}
theorem dM (O:Ok P w K mg base (CXE P w) k x ps sp) (hr:Room j (gC (CXE P w) P w K mg base N qual scope f cd A outer s0 H0 E).A) (hg:Gl (gC (CXE P w) P w K mg base N qual scope f cd A outer s0 H0 E) x) (ha:PA (gC (CXE P w) P w K mg base N qual scope f cd A outer s0 H0 E) (e::es) t)
  (hle:k≤j:=by decide) (hdb:(x == ("__debug__":Str))=false:=by decide) (he:starEach (e::es) (gC (CXE P w) P w K mg base N qual scope f cd A outer s0 H0 E).env=(false,eval e (gC (CXE P w) P w K mg base N qual scope f cd A outer s0 H0 E).env)::starEach es (gC (CXE P w) P w K mg base N qual scope f cd A outer s0 H0 E).env:=by rfl)
  (hpl:(backTo pos (starEach es (gC (CXE P w) P w K mg base N qual scope f cd A outer s0 H0 E).env)).any (·.1)=false:=by rfl) :
  PE (gC (CXE P w) P w K mg base N qual scope f cd A outer s0 H0 E) (.Call (.Name x p) (e::es) [] pos) (tCall sp [] E t):=by
 obtain ⟨g,fd,F,b,kp,m⟩:=O
 exact pk F (hr.mono hle) hg m kp b .nil passE ha hdb he hpl
end
end L2
namespace L2
open PySem PySem.Spec PyProof.Rows
def tJoin (t:TS):TS:=fun D σ H=>∃ J:St→Hp→Prop,t { D with nx:=J } σ H∧∀ σ' H',J σ' H'→D.nx σ' H'
theorem pc {X:Cx}{st:Stmt}{t:TS} (h:PS X st t):PS X st (tJoin t):=by
 intro pins s σ H D I ⟨J,h1,h2⟩
 refine thn (h pins s σ H _ I h1) fun f s1 q=>?_
 cases f with
 | next =>
  obtain ⟨σ',H',I',q⟩:=q
  exact ⟨σ',H',I',h2 _ _ q⟩
 | ret v=>exact q
 | brk=>exact q
 | cont=>exact q
section
variable {X:Cx}
end
end L2
namespace L2
open PySem
theorem aP {X:Cx}{st:Stmt}{rest:List Stmt}{t:TS}{D:ow}{σ:St}{H:Hp} (h1:PS X st t) (h:∀ u:St→Hp→Prop,(∀ σ H,(∃ v,PSs X rest v∧v D σ H)→u σ H)→t { D with nx:=u } σ H):∃ v,PSs X (st::rest) v∧v D σ H :=
 ⟨tSeq t fun D σ H=>∃ v,PSs X rest v∧v D σ H,ae h1 fun pins s σ H D I ⟨_,hv,q⟩=>hv pins s σ H D I q,h _ fun _ _ x=>x⟩
end L2
namespace L2
open PySem PySem.Spec PyProof.Rows
open PySem.W (Dat kqdP kqdPs kqdOk)
mutual
inductive RepD (H:Hp):V→Dat→Prop
 | non:RepD H .non .none
 | int (i:Int):RepD H (.int i) (.int i)
 | str (x:Str):RepD H (.str x) (.str x)
 | bl (b:Bool):RepD H (.bl b) (.bool b)
 | lst {a:Addr}{xs:List V}{ds:List Dat} (e:H a=some (.lst xs)) (r:RepDs H xs ds):RepD H (.ref a) (.list ds)
 | tup {a:Addr}{xs:List V}{ds:List Dat} (e:H a=some (.tup xs)) (r:RepDs H xs ds):RepD H (.ref a) (.tuple ds)
inductive RepDs (H:Hp):List V→List Dat→Prop
 | nil:RepDs H [] []
 | cons {x:V}{d:Dat}{xs:List V}{ds:List Dat} (h:RepD H x d) (t:RepDs H xs ds):RepDs H (x::xs) (d::ds)
end
mutual
theorem RepD.same {H H':Hp} (s:Same H H'):∀ {x:V}{d:Dat},RepD H x d→RepD H' x d
 | _,_,.non=>.non
 | _,_,.int i=>.int i
 | _,_,.str x=>.str x
 | _,_,.bl b=>.bl b
 | _,_,.lst e r=>.lst (s _ _ e) (RepDs.same s r)
 | _,_,.tup e r=>.tup (s _ _ e) (RepDs.same s r)
theorem RepDs.same {H H':Hp} (s:Same H H'):∀ {xs:List V}{ds:List Dat},RepDs H xs ds→RepDs H' xs ds
 | _,_,.nil=>.nil
 | _,_,.cons h t=>.cons (RepD.same s h) (RepDs.same s t)
end
section
variable {X:Cx}{pins:List (Addr×Obj)}{σ:St}{H:Hp}{s:Shared}
mutual
theorem RepD.reads (I:Inv X pins σ H s):∀ {x:V}{d:Dat}{u:Value} (n:Nat),RepD H x d→RelV x u→kqdOk n d=true→∃ as,Reads s.heap u (kqdP d) as
 | _,_,_,_,.non,r,_=>⟨_,by cases (show _=Value.none from r);exact Reads.none⟩
 | _,_,_,_,.int i,r,_=>by obtain ⟨t,rfl⟩:=r;exact ⟨_,Reads.int i t⟩
 | _,_,_,_,.str x,r,_=>by obtain ⟨t,rfl⟩:=r;exact ⟨_,Reads.str x t⟩
 | _,_,_,n,.bl b,_,hk=>by cases n<;>simp [kqdOk] at hk
 | _,_,_,0,.lst _ _,_,hk=>by simp [kqdOk] at hk
 | _,_,_,0,.tup _ _,_,hk=>by simp [kqdOk] at hk
 | _,_,_,n+1,.lst (a:=a) (xs:=xs) e q,r,hk=>by
  cases (show _=Value.ref a from r)
  obtain ⟨_,its,m,rv,hg⟩:=(show ObjOk X.prog X.w H s.heap a (.lst xs) from I.hok a _ e)
  obtain ⟨as,p⟩:=RepDs.reads I n q rv (by simpa [kqdOk] using hk)
  rw [kqdP]
  exact ⟨_,Reads.list hg rfl rfl (by simpa using p)⟩
 | _,_,_,n+1,.tup (a:=a) (xs:=xs) e q,r,hk=>by
  cases (show _=Value.ref a from r)
  obtain ⟨_,its,rv,o,hg,hc,m,hd⟩:=(show ObjOk X.prog X.w H s.heap a (.tup xs) from I.hok a _ e)
  obtain ⟨as,p⟩:=RepDs.reads I n q rv (by simpa [kqdOk] using hk)
  rw [kqdP]
  exact ⟨_,Reads.tuple hg hc hd (by simpa using p)⟩
theorem RepDs.reads (I:Inv X pins σ H s):∀ {xs:List V}{ds:List Dat}{us:List Value} (n:Nat),RepDs H xs ds→Vals xs us→(∀ d∈ds,kqdOk n d=true)→∃ as,ReadsAll s.heap us (kqdPs ds) as
 | _,_,_,_,.nil,.nil,_=>⟨_,ReadsAll.nil⟩
 | _,_,_,n,.cons h t,.cons r rs,hk=>by
  obtain ⟨as,q⟩:=RepD.reads I n h r (hk _ (.head _))
  obtain ⟨bs,p⟩:=RepDs.reads I n t rs fun d hm=>hk d (.tail _ hm)
  rw [kqdPs]
  exact ⟨_,ReadsAll.cons q p⟩
end
theorem j5 {d:Dat}{n:Nat} (h:kqdOk n d=true) (hn:n≤9):SeqAt.shaped (kqdP d)=true:=by
 have l:=PySem.W.kqd_lay n d h
 unfold SeqAt.shaped
 rw [l.1,Bool.true_and]
 exact decide_eq_true (Nat.le_trans l.2 (Nat.le_trans hn (by decide)))
theorem op_eqD (hu:X.A.units+64<cLine):OpR X (compareOp .Eq) (fun x y H Q=>∃ d e b,RepD H x d∧RepD H y e∧kqdOk 8 d=true∧kqdOk 8 e=true∧(b=true↔d=e)∧Q (.bl b) H):=by
 intro pins s σ H x y v u Q I rx ry h
 obtain ⟨d,e,b,hx,hy,kd,ke,hb,q⟩:=h
 obtain ⟨as,ra⟩:=hx.reads I 8 rx kd
 obtain ⟨bs,rb⟩:=hy.reads I 8 ry ke
 have eb:PyData.eqv (kqdP d) (kqdP e)=b:=Bool.eq_iff_iff.mpr ((PySem.W.kqd_eqv 8 d e 8 kd ke).trans hb.symm)
 exact eq_dataH ra rb (j5 kd (by decide)) (j5 ke (by decide)) hu (by rw [eb];exact ⟨.bl b,H,I,rfl,q⟩)
end
end L2
namespace L2
open PySem PySem.Spec PyProof.Rows
theorem og (l:Addr) (items:Array Value) (n:Nat) (k:Int) (tk:Tok) (hk : -(2 ^ 63)≤k∧k<2 ^ 63) (dct:Option Addr) (sl:Array (Option Value)) :
  Meets (Builtin.«enumerate.__new__» ⟨[.type "enumerate",.ref l],[("start",.int k tk)]⟩) (fun _ R s=>s.heap.get? l=some { cls:=.type "list",dict:=dct,data:=.seq items n,slots:=sl } ∧
   R (.ok (.ret (.ref (s.heap.push { cls:=.type "list_iterator",data:=.fields #[.ref l,.int 0 0] }).objs.size)))
    { s with heap:=(s.heap.push { cls:=.type "list_iterator",data:=.fields #[.ref l,.int 0 0] }).push { cls:=.type "enumerate",data:=.fields #[.none,.bool false,.ref s.heap.objs.size,rawInt k,.none,.none] } }) :=
 .of_wp fun prog w A R s h=>by
  obtain ⟨hp,g,d,tk0,os⟩:=s
  obtain ⟨hl,h⟩:=h
  have hsub:=sub_enumerate
  have hL:Heap.IsList (Shared.heap ⟨hp,g,d,tk0,os⟩) l items:=⟨_,hl,rfl,n,rfl⟩
  have hfit:¬ ((!Builtin.SmallTypes.fitsIndex k)=true):=by
   unfold Builtin.SmallTypes.fitsIndex
   simp
   omega
  wp_walk using AutoSeq1.wpAny_loadPart' hl
  refine wpAny_stack_any fun st=>wpAny_pure ?_
  split
  ·rename_i c _ _ _ _ _
   cases (c == Value.type "enumerate")
   ·wp_walk using AutoSeq1.wpAny_loadPart' hl,wpAny_pyIter_list hL
    exact ⟨_,rfl,h⟩
   ·wp_walk using AutoSeq1.wpAny_loadPart' hl,wpAny_pyIter_list hL
    exact ⟨_,rfl,h⟩
  ·wp_walk using AutoSeq1.wpAny_loadPart' hl,wpAny_pyIter_list hL
   exact ⟨_,rfl,h⟩
theorem lN (a v:Value):checkTypeCall "enumerate" ⟨[a],[("start",v)]⟩=pure ():=by kernel_rfl
theorem lO (a v:Value):checkBuiltinCall "enumerate.__new__" ⟨[.type "enumerate",a],[("start",v)]⟩=pure ():=by kernel_rfl
theorem lP (a b v:Value):argsOk "object.__init__" ⟨[a,b],[("start",v)]⟩:=by
 unfold argsOk
 rw [signature?_of (n:=['_','_','t','i','n','i','_','_']) (o:=['t','c','e','j','b','o']) (id:="object.__init__") (by kernel_rfl) F.owner_object]
 kernel_rfl
theorem pH (self a:Value) (kw:List (Str×Value)) (hl:typeLookup (.type "enumerate") "__init__"=pure (some (.builtin "object.__init__"))) (hm:Bind.madeBy (.type "enumerate")=pure (some "enumerate.__new__")) :
  Meets (Builtin.«object.__init__» ⟨[self,a],kw⟩) (fun _ R s=>s.TypeIs self "enumerate"∧R (.ok (.ret .none)) s):=by
 refine Meets.of_wp fun prog w A R s hs=>?_
 obtain ⟨hT,hq⟩:=hs
 have hne:(some "enumerate.__new__" != some "object.__new__")=true:=by decide
 repeat (any_goals (first | assumption | wp_step))
 exact ⟨_,rfl,hq⟩
section
variable {prog:Program}{w:World}{A:Around}{E:Value→Shared→Prop}{s:Shared}
theorem lT {l:Addr}{items:Array Value}{k:Int}{tk:Tok}{Q:Value→Shared→Prop} (hk : -(2 ^ 63)≤k∧k<2 ^ 63) (hL:s.heap.IsList l items)
  (h:∀ h',IsEnum h' (s.heap.objs.size+1) s.heap.objs.size k .none→h'.IsListIter s.heap.objs.size l 0→(∀ b o,s.heap.get? b=some o→h'.get? b=some o)→Q (.ref (s.heap.objs.size+1)) { s with heap:=h' }) :
  wpAny (model prog w) A (call (.type "enumerate") [.ref l] [("start",.int k tk)]) Q E s:=by
 obtain ⟨⟨c,dct,dt,sl⟩,hl,hc,n,hd⟩:=hL
 replace hc:c=.type "list":=hc
 replace hd:dt=.seq items n:=hd
 subst hc hd
 have ft:=F.called_enumerate
 obtain ⟨c0,tl,hmro⟩:=ft.mro
 have hmade:=ft.made
 have hsub:=ft.sub
 have hct:=lN (.ref l) (.int k tk)
 refine wpAny_call (codeAny_of_tree ?_)
 show wpAny _ _ (callAny (.type "enumerate") _) _ _ _
 refine wpAny_pure ⟨Code.quiet_builtin _ (by decide +kernel),codeAny_builtin F.entry_type_call ?_⟩
 rw [Around.under_plain (weight_type_call_type "enumerate" [.ref l] [("start",.int k tk)]) (units_type_call_type "enumerate" [.ref l] [("start",.int k tk)])]
 have h1:=ft.notType
 have h2:=ft.canCreate
 repeat (any_goals (first | assumption | wp_step))
 refine codeAny_mono (codeAny_call_builtin ft.plain F.entry_enumerate_new (wpAny_of_eq (lO (.ref l) (.int k tk)) (og l items n k tk hk dct sl prog w A.in1 (wants (fun obj s1=>s1.TypeIs obj "enumerate"∧Q obj s1) E) s ⟨hl,?_⟩))) fun r s1 hr=>?_
 ·have hz:(s.heap.push { cls:=.type "list_iterator",data:=.fields #[.ref l,.int 0 0] }).objs.size=s.heap.objs.size+1:=Heap.size_push ..
  show _∧_
  rw [hz]
  have he:IsEnum ((s.heap.push { cls:=.type "list_iterator",data:=.fields #[.ref l,.int 0 0] }).push { cls:=.type "enumerate",data:=.fields #[.none,.bool false,.ref s.heap.objs.size,rawInt k,.none,.none] }) (s.heap.objs.size+1) s.heap.objs.size k .none:=by
   have z:=Heap.get?_push_size (s.heap.push { cls:=.type "list_iterator",data:=.fields #[.ref l,.int 0 0] }) (o:={ cls:=.type "enumerate",data:=.fields #[.none,.bool false,.ref s.heap.objs.size,rawInt k,.none,.none] }) rfl
   rw [hz] at z
   exact z
  exact ⟨⟨_,he,rfl⟩,h _ he ⟨_,Heap.get?_push_of_some _ (Heap.get?_push_size _ rfl),rfl,rfl⟩ fun b o x=>Heap.get?_push_of_some _ (Heap.get?_push_of_some _ x)⟩
 ·cases r with
  | error e=>exact hr
  | ok fl =>
   cases fl with
   | ret obj =>
    obtain ⟨hT,hQ⟩:=hr
    have hli:=ft.init.lookup
    have hbi:=ft.init.bind obj
    repeat (any_goals (first | assumption | wp_step))
    refine codeAny_mono (codeAny_call_builtin ft.init.plain F.entry_object_init (ft.init.check _ _ _ _ _ _ _ _ hT (lP obj (.ref l) (.int k tk)) (pH obj (.ref l) [("start",.int k tk)] hli hmade prog w A.in1 (wants (fun r s2=>r=.none∧Q obj s2) E) s1 ⟨hT,rfl,hQ⟩))) fun r2 s2 hr2=>?_
    cases r2 with
    | error e=>exact hr2
    | ok fl2 =>
     cases fl2 with
     | ret r3 =>
      obtain ⟨e3,hq3⟩:=hr2
      subst e3
      repeat (any_goals (first | assumption | wp_step))
     | _=>exact hr2.elim
   | _=>exact hr.elim
end
def iEnumK (K:PySem.W.Frag) (ta:TA) (tk:TE):TI:=fun σ H R=>ta σ H fun vs H1=>tk σ H1 fun v H2=>∃ a xs,∃ k:Nat,vs=[.ref a]∧v=.int (k:Int)∧k<1000∧SqL K H2 a xs∧R (Ite K a k) H2
section
variable {X:Cx}
theorem mr {elts:List Expr}{k1:Nat}{tp:Pos}{a e:Expr}{ta:TA}{te:TE}{p pos kp:Pos} (hg:Gl X "enumerate") (hm:X.mg "enumerate"=none) (ha:PA X [a] ta) (he:PE X e te) (hs:starEach [a] X.env=[(false,eval a X.env)]:=by rfl) :
  PI X (.Tuple elts k1 tp) (.Call (.Name "enumerate" p) [a] [⟨some "start",e,kp⟩] pos) (iEnumK X.K ta te):=by
 intro pins s σ H R I h
 have hz0:=ha pos pins s σ H _ I h
 rw [hs] at hz0
 refine wpAny_Call_Name_kw (eF I hg hm boot_enumerate ?_)
 rw [hs]
 unfold callWith
 refine wpAny_bind (wpAny_holding (evalArgs_kwB rfl (thn hz0 fun us s1 hq1=>?_)))
 obtain ⟨vs,H1,I1,r1,q1⟩:=hq1
 refine kws_cons (thn (he pins s1 σ H1 _ I1 q1) fun u s2 hq2=>kws_nil ?_)
 obtain ⟨v,H2,I2,r2,l,xs,k,e1,e2,hk,hq,q⟩:=hq2
 subst e1 e2
 obtain ⟨u1,rfl,ru⟩:=r1.one
 cases ru
 obtain ⟨tk,rfl⟩:=r2
 obtain ⟨its,rv,pl,hz⟩:=I2.list hq
 refine wpAny_bind (wpAny_standAt ?_)
 refine wpAny_bind (wpAny_pure ?_)
 refine wpAny_bind (lT (k:=(k:Int)) ⟨by omega,by omega⟩ pl.isList fun h' a1 a2 a4=>?_)
 refine wpAny_bind (wpAny_holding (wpAny_point (wpAny_pure ?_)))
 refine wpAny_pyIter_enum (s:={ s2 with heap:=h' }) a1 ?_
 refine ⟨_,[s2.heap.objs.size+1,s2.heap.objs.size],_,_,H2,rfl,I2.kept (t':=s2.toks) fun c o z=>a4 c o z,j0 l _ _ k (by simp),⟨⟨_,a1⟩,a2⟩,?_,q⟩
 refine pY I2 (fun c hc=>I2.hok.fresh hc) fun c hc=>?_
 simp only [List.mem_cons,List.not_mem_nil,or_false] at hc
 rcases hc with z | z<;>rw [z]
 ·exact Nat.le_add_right _ _
 ·exact Nat.le_refl _
end
end L2
namespace L2
open PySem PySem.Spec PyProof.Rows
section
variable {P:Program}{w:World}{K:PySem.W.Frag}{mg:Str→Option Value}{base:Heap}
end
section
variable {X:Cx}{j k:Nat}{x:Str}{p pos:Pos}{e:Expr}{es:List Expr}{t:TA}{ps:List Str}{sp:Sp}
variable {pins:List (Addr×Obj)}{E':Value→Shared→Prop}{Ek:XK}{σ0:St}{C:Addr}
end
end L2
namespace L2
open PySem PySem.Spec PyProof.Rows
end L2
namespace Veil
open PySem L2
def primes9:List Int:=[5,7,11,13,17,19,23,29,31]
def bg (ns:List Int) (k:Int):Int:=ns.getD k.toNat 0
def nM (c k m:Int):Int:=(c%2147483647+12345)*(48271+6*k)%1000000007 / 7%m
theorem bX {c k m:Int} (h:0<m):0≤nM c k m:=Int.emod_nonneg _ (by omega)
theorem fh {c k m:Int} (h:0<m):nM c k m<m:=Int.emod_lt_of_pos _ h
def isTB (p n f:Int):Bool :=
 if (!inV (.int p) (primes9.map V.int))=true then false else if (!inV (.int f) [.int 1,.int 2])=true then false else (decide (3≤n) && decide (n≤7)) && (decide (n<p) && decide (2*f<n))
def av:List Int→Int→Int
 | [],_=>0
 | r::rs,a=>r+a*av rs a
def bd (p:Int):List Int→Int→Int
 | [],_=>0
 | r::rs,a=>(bd p rs a*a+r)%p
theorem bo {p:Int}:∀ (ns:List Int) (a:Int),bd p ns a=av ns a%p
 | [],_=>by simp [bd,av]
 | r::rs,a=>by
  rw [bd,bo rs a,av,Int.add_emod,Int.mul_emod,Int.emod_emod_of_dvd _ (Int.dvd_refl p),← Int.mul_emod,← Int.add_emod,Int.mul_comm,Int.add_comm]
theorem jh {p:Int} (hp:0<p) (ns:List Int) (a:Int):0≤bd p ns a∧bd p ns a<p:=by
 rw [bo]
 exact ⟨Int.emod_nonneg _ (by omega),Int.emod_lt_of_pos _ hp⟩
end Veil
namespace Veil
open PySem L2
structure Blt (mg:Str→Option Value):Prop where
 len:mg "len"=none
 range:mg "range"=none
 isinstance:mg "isinstance"=none
 min:mg "min"=none
 list:mg "list"=none
 int:mg "int"=none
 bool:mg "bool"=none
 tuple:mg "tuple"=none
 reversed:mg "reversed"=none
 zip:mg "zip"=none
 set:mg "set"=none
 all:mg "all"=none
 sum:mg "sum"=none
 sorted:mg "sorted"=none
 enumerate:mg "enumerate"=none
structure Tab (K:PySem.W.Frag) (C:Addr):Prop where
 cl:Cls K C
 nP:NoAttr K C "prime"
 nH:NoAttr K C "hands"
 nF:NoAttr K C "few"
structure Pri (K:PySem.W.Frag) (mg:Str→Option Value) (pa:Addr):Prop where
 gPRIMES:mg "PRIMES"=some (.ref pa)
 sq:∀ H,SqT K H pa (primes9.map V.int)
theorem pri_mk {K:PySem.W.Frag}{mg:Str→Option Value}{pa:Addr}{dd:Option Addr}{its:Array Value}{n:Nat}{sl:Array (Option Value)} (g:mg "PRIMES"=some (.ref pa)) (l:K.lookup pa=some ⟨.type "tuple",dd,.seq its n,sl⟩)
  (v:Vals (primes9.map V.int) its.toList):Pri K mg pa:=⟨g,fun H=>.inr ⟨_,its,n,l,rfl,rfl,by have:=v.length;simp only [Array.length_toList] at this;rw [← this];decide,v⟩⟩
theorem nq1:¬ (("prime":Str)="few"):=by decide +kernel
theorem nq2:¬ (("prime":Str)="hands"):=by decide +kernel
theorem nq3:¬ (("hands":Str)="few"):=by decide +kernel
def tf (p n f:Int):List (Str×V):=cZ "few" (.int f) (cZ "hands" (.int n) (cZ "prime" (.int p) []))
theorem kR (p n f:Int):(tf p n f).lookup ("prime":Str)=some (.int p):=by
 unfold tf
 rw [bN,if_neg nq1,bN,if_neg nq2,bN,if_pos rfl]
theorem oP (p n f:Int):(tf p n f).lookup ("hands":Str)=some (.int n):=by
 unfold tf
 rw [bN,if_neg nq3,bN,if_pos rfl]
theorem tf_f (p n f:Int):(tf p n f).lookup ("few":Str)=some (.int f):=by
 unfold tf
 rw [bN,if_pos rfl]
def TabAt (C:Addr) (H:Hp) (t:Addr) (p n f:Int):Prop:=∃ dx,H t=some (.ins C dx (tf p n f))
theorem TabAt.same {C:Addr}{H H':Hp}{t:Addr}{p n f:Int} (h:TabAt C H t p n f) (s:Same H H'):TabAt C H' t p n f:=let ⟨dx,e⟩:=h;⟨dx,s _ _ e⟩
theorem ah {H:Hp}{p:Addr} (h:H p=none) (o:HO):Same H (upd H p o):=fun b u q=>by rw [ar (aD q h)];exact q
theorem ao {H H':Hp} (s:Same H H') {D:Addr}{o:HO} (h:H D=none):Same H (upd H' D o):=fun b u e=>by rw [ar (aD e h)];exact s b u e
theorem small {n:Nat} (h:n≤1000):n≤sizeLine:=Nat.le_of_lt (aw h)
def cA (H:Hp) (Q:VK) (v:V):Prop:=∀ H',Same H H'→Q v H'
def NewQ (H:Hp) (Q:VK) (xs:List V):Prop:=∀ r H',Same H H'→H r=none→H' r=some (.lst xs)→Q (.ref r) H'
inductive spIsT (vs:List V) (H:Hp) (Q:VK) (E_:XK):Prop
 | mk (p n f:Int) (h0_:vs=[.int p,.int n,.int f]) (h1_:cA H Q (.bl (isTB p n f))):spIsT vs H Q E_
inductive lZ (C:Addr) (vs:List V) (H:Hp) (Q:VK) (E_:XK):Prop
 | mk (t dx:Addr) (p n f:Int) (h0_:vs=[.ref t,.int p,.int n,.int f]) (h1_:H t=some (.ins C dx [])) (h2_:isTB p n f=true) (h3_:∀ H',(∀ b o,H b=some o→b≠t→H' b=some o)→TabAt C H' t p n f→Q .non H'):lZ C vs H Q E_
inductive gZ (K:PySem.W.Frag) (C:Addr) (vs:List V) (H:Hp) (Q:VK) (E_:XK):Prop
 | mk (t r:Addr) (p n f a:Int) (ns:List Int) (h0_:vs=[.ref t,.ref r,.int a]) (h1_:TabAt C H t p n f) (h2_:0<p) (h3_:p≤31) (h4_:SqL K H r (ns.map V.int)) (h5_:cA H Q (.int (bd p ns a))):gZ K C vs H Q E_
inductive l7 (K:PySem.W.Frag) (vs:List V) (H:Hp) (Q:VK) (E_:XK):Prop
 | mk (a:Addr) (ns:List Int) (k:Int) (h0_:vs=[.ref a,.int k]) (h1_:SqL K H a (ns.map V.int)) (h2_:0≤k) (h3_:cA H Q (.int (bg ns k))):l7 K vs H Q E_
inductive oV (vs:List V) (H:Hp) (Q:VK) (E_:XK):Prop
 | mk (c k m:Int) (h0_:vs=[.int c,.int k,.int m]) (h1_:0<m) (h2_:cA H Q (.int (nM c k m))):oV vs H Q E_
def spLaw (K:PySem.W.Frag):Sp:=fun vs H Q _=>∃ (a:Addr) (ns:List Int),vs=[.ref a]∧SqL K H a (ns.map V.int)∧ns.length≤63∧∀ H',Q (.bl true) H'
theorem map_take {α:Type} (f:Nat→α) (n:Nat):((List.range n).map f)++[f n]=(List.range (n+1)).map f:=by rw [List.range_succ,List.map_append];rfl
theorem gf {α:Type}{l:List α}{k:Nat}{x:α} (h:l[k]?=some x):l.drop k=x::l.drop (k+1):=by
 obtain ⟨h1,h2⟩:=List.getElem?_eq_some_iff.mp h
 rw [List.drop_eq_getElem_cons h1,h2]
theorem dB {ns:List Int}{i:Nat}{x:V} (h:(ns.map V.int)[i]?=some x):∃ v,x=.int v∧ns[i]?=some v:=by
 rw [List.getElem?_map] at h
 cases e:ns[i]? with
 | none=>rw [e] at h;cases h
 | some v=>rw [e] at h;exact ⟨v,(Option.some.inj h).symm,rfl⟩
def b6 (p:Int) (n:Nat) (x:Int) (cs:List Int):List Int:=(List.range n).map fun i:Nat=>bd p (x::cs) (1+(i:Int))
theorem je (p:Int) (n:Nat) (x:Int) (cs:List Int):(b6 p n x cs).length=n:=by unfold b6;rw [List.length_map,List.length_range]
theorem lR (p:Int) (n:Nat) (x:Int) (cs:List Int):(b6 p n x cs).map V.int++[.int (bd p (x::cs) (1+(n:Int)))]=(b6 p (n+1) x cs).map V.int:=by
 unfold b6
 rw [← map_take,List.map_append]
 rfl
inductive kT (C:Addr) (vs:List V) (H:Hp) (Q:VK) (E_:XK):Prop
 | mk (t r:Addr) (p n f x:Int) (cs:List Int) (h0_:vs=[.ref t,.int x,.ref r]) (h1_:TabAt C H t p n f) (h2_:0<p) (h3_:p≤31) (h4_:0≤n) (h5_:n≤10) (h6_:H r=some (.lst (cs.map V.int))) (h7_:cs.length≤100) (h8_:NewQ H Q ((b6 p n.toNat x cs).map V.int)):kT C vs H Q E_
end Veil
namespace Veil
open PySem L2
theorem pd:∀ p∈primes9,∀ a b:Nat,a<p.toNat→b<p.toNat→(a*b:Int)%p=0→a=0∨b=0:=by
 have h:(primes9.all fun p=>(List.range p.toNat).all fun a=>(List.range p.toNat).all fun b=>!(((a:Int)*(b:Int))%p == 0) || (a == 0 || b == 0))=true:=by decide +kernel
 intro p hp a b ha hb e
 have h1:=List.all_eq_true.mp (List.all_eq_true.mp (List.all_eq_true.mp h p hp) a (List.mem_range.mpr ha)) b (List.mem_range.mpr hb)
 rw [show (((a:Int)*(b:Int))%p == 0)=true from beq_iff_eq.mpr e,Bool.not_true,Bool.false_or,Bool.or_eq_true] at h1
 rcases h1 with h1 | h1
 ·exact .inl (beq_iff_eq.mp h1)
 ·exact .inr (beq_iff_eq.mp h1)
def bT (p x:Int):Int:=(((List.range (p - 1).toNat).map fun i:Nat=>1+(i:Int)).find? fun o=>decide (x*o%p=1)).getD 0
theorem qp:∀ p∈primes9,∀ a:Nat,a<p.toNat→a≠0→(1≤bT p a∧bT p a<p)∧(a:Int)*bT p a%p=1:=by
 have h:(primes9.all fun p=>(List.range p.toNat).all fun a=>(a == 0) || (decide (1≤bT p (a:Int)) && decide (bT p (a:Int)<p) && decide ((a:Int)*bT p (a:Int)%p=1)))=true:=by decide +kernel
 intro p hp a ha h0
 have h1:=List.all_eq_true.mp (List.all_eq_true.mp h p hp) a (List.mem_range.mpr ha)
 rw [show (a == 0)=false from beq_eq_false_iff_ne.mpr h0,Bool.false_or] at h1
 simp only [Bool.and_eq_true,decide_eq_true_eq] at h1
 exact ⟨⟨h1.1.1,h1.1.2⟩,h1.2⟩
theorem qq (p x:Int):bT p (x%p)=bT p x:=by
 unfold bT
 congr 2
 funext o
 rw [Int.mul_emod,Int.emod_emod_of_dvd _ (Int.dvd_refl p),← Int.mul_emod]
theorem gR {p x:Int} (hp:p∈primes9) (hx:x%p≠0):(1≤bT p x∧bT p x<p)∧x*bT p x%p=1:=by
 have p5:0<p:=by
  have:(primes9.all fun q=>decide (0<q))=true:=by decide +kernel
  exact of_decide_eq_true (List.all_eq_true.mp this p hp)
 have h0:=Int.emod_nonneg x (show p≠0 by omega)
 have h1:=Int.emod_lt_of_pos x p5
 have e:((x%p).toNat:Int)=x%p:=by omega
 have q:=qp p hp (x%p).toNat (by omega) (by omega)
 rw [e,qq] at q
 have e2:x%p*bT p x%p=x*bT p x%p:=by rw [Int.mul_emod,Int.emod_emod_of_dvd _ (Int.dvd_refl p),← Int.mul_emod]
 rw [e2] at q
 exact q
theorem dom {p a b:Int} (hp:p∈primes9) (h:a*b%p=0):a%p=0∨b%p=0:=by
 have p5:0<p:=by
  have:(primes9.all fun q=>decide (0<q))=true:=by decide +kernel
  exact of_decide_eq_true (List.all_eq_true.mp this p hp)
 have a0:=Int.emod_nonneg a (show p≠0 by omega)
 have a1:=Int.emod_lt_of_pos a p5
 have b0:=Int.emod_nonneg b (show p≠0 by omega)
 have b1:=Int.emod_lt_of_pos b p5
 have q:=pd p hp (a%p).toNat (b%p).toNat (by omega) (by omega) (by
  rw [show ((a%p).toNat:Int)=a%p by omega,show ((b%p).toNat:Int)=b%p by omega,← Int.mul_emod]
  exact h)
 omega
def iK (p t:Int) (as bs:List Int):List Int:=List.zipWith (fun a b=>(a+t*b)%p) as bs
def dn (p x:Int) (s:List Int):List Int:=List.zipWith (fun b h=>(b - x*h)%p) (0::s) (s++[0])
def j2 (p:Int) (rs:List Int×List Int) (q:Int×Int):List Int×List Int :=
 (iK p ((q.2 - bd p rs.1 q.1)*bT p (bd p rs.2 q.1)) (rs.1++[0]) rs.2,dn p q.1 rs.2)
def cJ (p:Int) (pts:List (Int×Int)):List Int×List Int:=pts.foldl (j2 p) ([],[1])
def jj (p:Int) (pts:List (Int×Int)):List Int:=(cJ p pts).1
theorem dI:∀ (s:List Int) (z:Int),av (s++[0]) z=av s z
 | [],z=>by simp [av]
 | r::rs,z=>by simp only [List.cons_append,av];rw [dI rs z]
theorem dz {p t:Int}:∀ (as bs:List Int) (z:Int),as.length=bs.length→av (iK p t as bs) z%p=(av as z+t*av bs z)%p
 | [],[],z,_=>by simp [iK,av]
 | a::as,b::bs,z,h=>by
  have ih:=dz (p:=p) (t:=t) as bs z (by simpa using h)
  show ((a+t*b)%p+z*av (iK p t as bs) z)%p=_
  rw [Int.add_emod,Int.mul_emod,ih,← Int.mul_emod,Int.emod_emod_of_dvd _ (Int.dvd_refl p),← Int.add_emod]
  congr 1
  simp only [av]
  rw [Int.mul_add,Int.mul_add,← Int.mul_assoc z t,Int.mul_comm z t,Int.mul_assoc t z]
  omega
 | [],_::_,_,h=>by simp at h
 | _::_,[],_,h=>by simp at h
theorem fv (p x:Int) (s:List Int):dn p x s=iK p (-x) (0::s) (s++[0]):=by
 unfold dn iK
 congr 1
 funext b h
 rw [Int.neg_mul,Int.sub_eq_add_neg]
theorem gl {p x:Int} (s:List Int) (z:Int):av (dn p x s) z%p=(z - x)*av s z%p:=by
 rw [fv,dz _ _ _ (by simp),dI]
 congr 1
 simp only [av]
 rw [Int.zero_add,Int.neg_mul,Int.sub_mul]
 omega
theorem qv {p t:Int} (hp:0<p):∀ (as bs:List Int),∀ v∈iK p t as bs,0≤v∧v<p
 | [],_,v,h=>by simp [iK] at h
 | _::_,[],v,h=>by simp [iK] at h
 | a::as,b::bs,v,h=>by
  rcases List.mem_cons.mp (show v∈(a+t*b)%p::iK p t as bs from h) with e | e
  ·rw [e]
   exact ⟨Int.emod_nonneg _ (by omega),Int.emod_lt_of_pos _ hp⟩
  ·exact qv hp as bs v e
theorem eS {p t:Int} (as bs:List Int):(iK p t as bs).length=min as.length bs.length:=by unfold iK;rw [List.length_zipWith]
theorem fZ (p x:Int) (s:List Int):(dn p x s).length=s.length+1:=by rw [fv,eS];simp
structure ou (p:Int) (pts:List (Int×Int)) (rs:List Int×List Int):Prop where
 l1:rs.1.length=pts.length
 l2:rs.2.length=pts.length+1
 b1:∀ v∈rs.1,0≤v∧v<p
 b2:∀ v∈rs.2,0≤v∧v<p
 row:∀ q∈pts,av rs.1 q.1%p=q.2%p
 zer:∀ q∈pts,av rs.2 q.1%p=0
 non:∀ z:Int,(∀ q∈pts,z%p≠q.1%p)→av rs.2 z%p≠0
theorem oO {p:Int} (hp:1<p):ou p [] ([],[1]) where
 l1:=rfl
 l2:=rfl
 b1:=fun v h=>nomatch h
 b2:=fun v h=>by
  have e:v=1:=by simpa using h
  omega
 row:=fun q h=>nomatch h
 zer:=fun q h=>nomatch h
 non:=fun z _=>by
  simp only [av,Int.mul_zero,Int.add_zero]
  rw [Int.emod_eq_of_lt (by decide) hp]
  decide
theorem jH {p:Int} (hp:p∈primes9):5≤p∧p≤31:=by
 have:(primes9.all fun q=>decide (5≤q) && decide (q≤31))=true:=by decide +kernel
 have h:=List.all_eq_true.mp this p hp
 simpa using h
theorem thr_step {p:Int} (hp:p∈primes9) {pts:List (Int×Int)}{rs:List Int×List Int} (h:ou p pts rs) {x y:Int} (hx:∀ q∈pts,x%p≠q.1%p):ou p (pts++[(x,y)]) (j2 p rs (x,y)):=by
 have p5:=jH hp
 have hlen:(rs.1++[0]).length=rs.2.length:=by rw [List.length_append,h.l1,h.l2];rfl
 have hw:bd p rs.2 x%p≠0:=by
  rw [bo,Int.emod_emod_of_dvd _ (Int.dvd_refl p)]
  exact h.non x hx
 have hbk:=gR hp hw
 generalize ht:(y - bd p rs.1 x)*bT p (bd p rs.2 x)=t
 have e1:(j2 p rs (x,y)).1=iK p t (rs.1++[0]) rs.2:=by rw [← ht];rfl
 have e2:(j2 p rs (x,y)).2=dn p x rs.2:=rfl
 have er:∀ z,av (j2 p rs (x,y)).1 z%p=(av rs.1 z+t*av rs.2 z)%p:=fun z=>by rw [e1,dz _ _ _ hlen,dI]
 refine ⟨?_,?_,?_,?_,?_,?_,?_⟩
 ·rw [e1,eS,hlen,Nat.min_self,h.l2,List.length_append]
  rfl
 ·rw [e2,fZ,h.l2,List.length_append]
  rfl
 ·rw [e1]
  exact qv (by omega) _ _
 ·rw [e2,fv]
  exact qv (by omega) _ _
 ·intro q hq
  rw [er]
  rcases List.mem_append.mp hq with hq | hq
  ·rw [Int.add_emod,Int.mul_emod,h.zer q hq,Int.mul_zero,Int.zero_emod,Int.add_zero,Int.emod_emod_of_dvd _ (Int.dvd_refl p)]
   exact h.row q hq
  ·have e:q=(x,y):=by simpa using hq
   subst e
   show (av rs.1 x+t*av rs.2 x)%p=y%p
   have w1:bd p rs.1 x=av rs.1 x%p:=bo _ _
   have w2:bd p rs.2 x=av rs.2 x%p:=bo _ _
   have k1:t*av rs.2 x%p=(y - bd p rs.1 x)%p:=by
    rw [← ht,Int.mul_assoc,Int.mul_emod]
    have:bT p (bd p rs.2 x)*av rs.2 x%p=1:=by
     have z:av rs.2 x%p*bT p (bd p rs.2 x)%p=av rs.2 x*bT p (bd p rs.2 x)%p:=by rw [Int.mul_emod,Int.emod_emod_of_dvd _ (Int.dvd_refl p),← Int.mul_emod]
     rw [Int.mul_comm,← z,← w2]
     exact hbk.2
    rw [this,Int.mul_one,Int.emod_emod_of_dvd _ (Int.dvd_refl p)]
   rw [Int.add_emod,k1,w1,← Int.add_emod]
   have:(av rs.1 x+(y - av rs.1 x%p))=y+(av rs.1 x - av rs.1 x%p):=by omega
   rw [this,show av rs.1 x - av rs.1 x%p=p*(av rs.1 x / p) by have:=Int.emod_add_mul_ediv (av rs.1 x) p;omega,Int.add_mul_emod_self_left]
 ·intro q hq
  rw [e2,gl]
  rcases List.mem_append.mp hq with hq | hq
  ·rw [Int.mul_emod,h.zer q hq,Int.mul_zero,Int.zero_emod]
  ·have e:q=(x,y):=by simpa using hq
   subst e
   show (x - x)*av rs.2 x%p=0
   rw [Int.sub_self,Int.zero_mul,Int.zero_emod]
 ·intro z hz e
  rw [e2,gl] at e
  rcases dom hp e with e | e
  ·have hzx:=hz (x,y) (List.mem_append_right _ (List.mem_singleton.mpr rfl))
   exact hzx (Int.emod_eq_emod_iff_emod_sub_eq_zero.mpr e)
  ·exact h.non z (fun q hq=>hz q (List.mem_append_left _ hq)) e
theorem thr_ok {p:Int} (hp:p∈primes9):∀ (pre pts:List (Int×Int)) (rs:List Int×List Int),ou p pre rs→((pre++pts).map fun q=>q.1%p).Nodup→ou p (pre++pts) (pts.foldl (j2 p) rs)
 | pre,[],rs,h,_=>by rw [List.append_nil];exact h
 | pre,(x,y)::r,rs,h,nd=>by
  have e:pre++(x,y)::r=(pre++[(x,y)])++r:=by simp
  rw [e] at nd ⊢
  refine thr_ok hp (pre++[(x,y)]) r _ (thr_step hp h fun q hq z=>?_) nd
  rw [List.map_append,List.map_append,List.append_assoc] at nd
  have:=List.nodup_append.mp nd
  exact this.2.2 (q.1%p) (List.mem_map.mpr ⟨q,hq,rfl⟩) (x%p) (List.mem_append_left _ (List.mem_map.mpr ⟨(x,y),List.mem_singleton.mpr rfl,rfl⟩)) z.symm
theorem ni {p:Int} (hp:p∈primes9) {pts:List (Int×Int)} (nd:(pts.map fun q=>q.1%p).Nodup):ou p pts (cJ p pts):=by
 have:=thr_ok hp [] pts ([],[1]) (oO (by have:=jH hp;omega)) nd
 unfold cJ
 simpa using this
end Veil
namespace Veil
open PySem L2
def PtsAt (H:Hp):List V→List (Int×Int)→Prop:=Paired fun v q=>∃ a,v=.ref a∧H a=some (.tup [.int q.1,.int q.2])
theorem PtsAt.same {H H':Hp} (s:Same H H') {vs:List V}{qs:List (Int×Int)} (h:PtsAt H vs qs):PtsAt H' vs qs:=Paired.mapP h fun v q ⟨a,e,z⟩=>⟨a,e,s _ _ z⟩
theorem PtsAt.get {H:Hp}:∀ {vs:List V}{qs:List (Int×Int)}{i:Nat}{x:V},PtsAt H vs qs→vs[i]?=some x→∃ a q,x=.ref a∧H a=some (.tup [.int q.1,.int q.2])∧qs[i]?=some q
 | _,_,_,_,.nil,e=>by simp at e
 | _,_,0,_,.cons ⟨a,r,z⟩ _,e=>by simp at e;subst e;exact ⟨a,_,r,z,rfl⟩
 | _,_,i+1,x,.cons _ t,e=>by
  obtain ⟨a,q,h1,h2,h3⟩:=PtsAt.get (i:=i) (x:=x) t (by simpa using e)
  exact ⟨a,q,h1,h2,by simpa using h3⟩
inductive oX (C:Addr) (vs:List V) (H:Hp) (Q:VK) (E_:XK):Prop
 | mk (t:Addr) (p n f x:Int) (h0_:vs=[.ref t,.int x]) (h1_:TabAt C H t p n f) (h2_:p∈primes9) (h3_:(0≤x∧x<p)) (h4_:x≠0) (h5_:cA H Q (.int (bT p x))):oX C vs H Q E_
inductive kU (C:Addr) (vs:List V) (H:Hp) (Q:VK) (E_:XK):Prop
 | mk (t r:Addr) (p n f:Int) (rs:List V) (qs:List (Int×Int)) (h0_:vs=[.ref t,.ref r]) (h1_:TabAt C H t p n f) (h2_:p∈primes9) (h3_:H r=some (.lst rs)) (h4_:PtsAt H rs qs) (h5_:qs.length≤100) (h6_:(qs.map fun q=>q.1%p).Nodup) (h7_:cA H Q .non):kU C vs H Q E_
inductive jq (C:Addr) (vs:List V) (H:Hp) (Q:VK) (E_:XK):Prop
 | mk (t r:Addr) (p n f x:Int) (ss:List Int) (h0_:vs=[.ref t,.ref r,.int x]) (h1_:TabAt C H t p n f) (h2_:p∈primes9) (h3_:H r=some (.lst (ss.map V.int))) (h4_:ss.length≤100) (h5_:(∀ v∈ss,0≤v∧v<p)) (h6_:NewQ H Q ((dn p x ss).map V.int)):jq C vs H Q E_
inductive g8 (C:Addr) (vs:List V) (H:Hp) (Q:VK) (E_:XK):Prop
 | mk (t r:Addr) (p n f:Int) (rs:List V) (qs:List (Int×Int)) (h0_:vs=[.ref t,.ref r]) (h1_:TabAt C H t p n f) (h2_:p∈primes9) (h3_:H r=some (.lst rs)) (h4_:PtsAt H rs qs) (h5_:qs.length≤50) (h6_:(qs.map fun q=>q.1%p).Nodup) (h7_:NewQ H Q ((jj p qs).map V.int)):g8 C vs H Q E_
theorem mM:∀ (acc ns:List Int),(acc++ns).Nodup→ns.foldl PyProof.Rows.step_dedup acc=acc++ns
 | acc,[],_=>by simp
 | acc,x::r,h=>by
  have hx:¬ x∈acc:=fun hm=>by
   have:=(List.nodup_append.mp h).2.2 x hm x List.mem_cons_self
   exact this rfl
  have e:PyProof.Rows.step_dedup acc x=acc++[x]:=by
   unfold PyProof.Rows.step_dedup
   rw [if_neg]
   simpa using hx
  rw [List.foldl_cons,e,mM (acc++[x]) r (by simpa using h)]
  simp
theorem nu (ns:List Int):(List.range ns.length).map (fun i=>ns.getD i 0)=ns:=by
 apply List.ext_getElem?
 intro i
 rw [List.getElem?_map]
 by_cases h:i<ns.length
 ·rw [List.getElem?_range h]
  simp [List.getElem?_eq_getElem h]
 ·rw [List.getElem?_eq_none (by simpa using h),List.getElem?_eq_none (by simpa using h)]
  rfl
theorem eU {ns:List Int} (h:ns.Nodup):(PyProof.Rows.firstMet (fun i=>ns.getD i 0) ns.length).length=ns.length:=by
 unfold PyProof.Rows.firstMet
 rw [nu,mM [] ns (by simpa using h)]
 simp
theorem oF {α β γ:Type}{f:α→β→γ}:∀ {as:List α}{bs:List β}{i:Nat}{a:α}{b:β},as[i]?=some a→bs[i]?=some b→(List.zipWith f as bs)[i]?=some (f a b):=by
 intro as bs i a b h1 h2
 rw [List.getElem?_zipWith,h1,h2]
theorem cW {α:Type}{l:List α}{i:Nat}{x:α} (h:l[i]?=some x):l.take i++[x]=l.take (i+1):=by
 rw [List.take_add_one,h]
 rfl
end Veil
namespace Veil
open PySem L2
def oA (n:Nat) (h:Int):List (Int×Int):=(List.range n).map fun i:Nat=>(1+(i:Int),if 1+(i:Int)=h then 1 else 0)
def kP (p:Int) (n:Nat) (h:Int):Int:=bd p (jj p (oA n h)) 0
def aV (p:Int) (n:Nat):List Int:=(List.range n).map fun i:Nat=>kP p n (1+(i:Int))
def fL (W:List Int) (g:Nat→Int):Nat→Int
 | 0=>0
 | i+1=>fL W g i+W.getD i 0*g i
theorem jG {p:Int}{W:List Int}{g g':Nat→Int}:∀ (n:Nat),(∀ k,k<n→g k%p=g' k%p)→fL W g n%p=fL W g' n%p
 | 0,_=>rfl
 | n+1,h=>by
  rw [fL,fL,Int.add_emod,jG n fun k hk=>h k (by omega),Int.mul_emod,h n (by omega),← Int.mul_emod,← Int.add_emod]
theorem mn {W:List Int}{g g':Nat→Int}:∀ (n:Nat),fL W (fun k=>g k+g' k) n=fL W g n+fL W g' n
 | 0=>rfl
 | n+1=>by
  rw [fL,fL,fL,mn n,Int.mul_add]
  omega
theorem jF {W:List Int}{g:Nat→Int} (a:Int):∀ (n:Nat),fL W (fun k=>a*g k) n=a*fL W g n
 | 0=>by rw [fL,fL,Int.mul_zero]
 | n+1=>by
  rw [fL,fL,jF a n,Int.mul_add,← Int.mul_assoc,Int.mul_comm (W.getD n 0) a,Int.mul_assoc]
def pe (p:Int) (n:Nat) (W:List Int):Bool:=(List.range n).all fun j=>decide (fL W (fun k=>(1+(k:Int)) ^ j) n%p=if j=0 then 1 else 0)
theorem jV:(primes9.all fun p=>[3,4,5,6,7].all fun n:Nat=>!decide ((n:Int)<p) || (pe p n (aV p n) && (aV p n).all fun v=>decide (0≤v) && decide (v<p)))=true:=by decide +kernel
theorem mm {p:Int}{n:Nat}{W:List Int} (h:pe p n W=true):∀ (r:List Int) (j:Nat),j+r.length≤n→fL W (fun k=>(1+(k:Int)) ^ j*av r (1+(k:Int))) n%p=(if j=0 then r.headD 0 else 0)%p
 | [],j,_=>by
  have e:(fun k:Nat=>(1+(k:Int)) ^ j*av [] (1+(k:Int)))=fun k:Nat=>0*(1:Int):=by
   funext k
   simp [av]
  rw [e,jF 0 (g:=fun _=>1),Int.zero_mul]
  split<;>rfl
 | a::rs,j,hl=>by
  have hl':j+(rs.length+1)≤n:=hl
  have e:(fun k:Nat=>(1+(k:Int)) ^ j*av (a::rs) (1+(k:Int)))=fun k:Nat=>a*(1+(k:Int)) ^ j+(1+(k:Int)) ^ (j+1)*av rs (1+(k:Int)):=by
   funext k
   rw [av,Int.mul_add,Int.mul_comm _ a,Int.pow_succ,Int.mul_assoc]
  have hj:=of_decide_eq_true (List.all_eq_true.mp h j (List.mem_range.mpr (by omega)))
  have ih:=mm h rs (j+1) (by omega)
  rw [if_neg (by omega)] at ih
  rw [e,mn,jF,Int.add_emod,ih,Int.zero_emod,Int.add_zero,Int.mul_emod,hj]
  split
  ·show (a%p*1%p)%p=a%p
   rw [Int.mul_one,Int.emod_emod_of_dvd _ (Int.dvd_refl p),Int.emod_emod_of_dvd _ (Int.dvd_refl p)]
  ·simp
theorem ws_ok {p:Int}{n:Nat} (hp:p∈primes9) (h3:3≤n) (h7:n≤7) (hn:(n:Int)<p):pe p n (aV p n)=true∧∀ v∈aV p n,0≤v∧v<p:=by
 have h1:=List.all_eq_true.mp (List.all_eq_true.mp jV p hp) n (by
  match n,h3,h7 with
  | 3,_,_ | 4,_,_ | 5,_,_ | 6,_,_ | 7,_,_=>simp)
 rw [decide_eq_true hn,Bool.not_true,Bool.false_or,Bool.and_eq_true] at h1
 refine ⟨h1.1,fun v hv=>?_⟩
 have:=List.all_eq_true.mp h1.2 v hv
 simpa using this
theorem dX (p:Int) (n:Nat):(aV p n).length=n:=by unfold aV;rw [List.length_map,List.length_range]
theorem ws_row {p:Int}{n:Nat} (hp:p∈primes9) (h3:3≤n) (h7:n≤7) (hn:(n:Int)<p) (r:List Int) (hr:r.length≤n):fL (aV p n) (fun k=>bd p r (1+(k:Int))) n%p=r.headD 0%p:=by
 have h:=mm (ws_ok hp h3 h7 hn).1 r 0 (by omega)
 rw [if_pos rfl] at h
 rw [← h]
 refine jG n fun k _=>?_
 rw [bo,Int.emod_emod_of_dvd _ (Int.dvd_refl p),Int.pow_zero,Int.one_mul]
theorem m7 {p:Int}{n:Nat} (h:Int) (hn:(n:Int)<p):((oA n h).map fun q=>q.1%p).Nodup:=by
 unfold oA
 rw [List.map_map]
 show List.Pairwise (·≠·) _
 rw [List.pairwise_map]
 refine List.Pairwise.imp_of_mem ?_ (show List.Pairwise (·≠·) (List.range n) from List.nodup_range)
 intro i j hi hj hne e
 have hi:=List.mem_range.mp hi
 have hj:=List.mem_range.mp hj
 have e:(1+(i:Int))%p=(1+(j:Int))%p:=e
 rw [Int.emod_eq_of_lt (by omega) (by omega),Int.emod_eq_of_lt (by omega) (by omega)] at e
 exact hne (by omega)
theorem wpts_len (n:Nat) (h:Int):(oA n h).length=n:=by unfold oA;rw [List.length_map,List.length_range]
theorem oG (n:Nat) (h:Int):oA n h++[(1+(n:Int),if 1+(n:Int)=h then 1 else 0)]=oA (n+1) h:=by unfold oA;rw [← map_take]
theorem PtsAt.upd {H:Hp}{D:Addr}{o:HO}{ys:List V} (hD:H D=some (.lst ys)) {vs:List V}{qs:List (Int×Int)} (h:PtsAt H vs qs):PtsAt (L2.upd H D o) vs qs :=
 Paired.mapP h fun v q ⟨a,e,z⟩=>⟨a,e,by rw [ar (ne_of z hD (by intro w;cases w))];exact z⟩
theorem PtsAt.snoc {H:Hp}{vs:List V}{qs:List (Int×Int)} (h:PtsAt H vs qs) {a:Addr}{q:Int×Int} (z:H a=some (.tup [.int q.1,.int q.2])):PtsAt H (vs++[.ref a]) (qs++[q]):=Paired.snoc h ⟨a,rfl,z⟩
inductive jn (C:Addr) (vs:List V) (H:Hp) (Q:VK) (E_:XK):Prop
 | mk (t:Addr) (p n f h:Int) (h0_:vs=[.ref t,.int h]) (h1_:TabAt C H t p n f) (h2_:p∈primes9) (h3_:0≤n) (h4_:n≤7) (h5_:n<p) (h6_:cA H Q (.int (kP p n.toNat h))):jn C vs H Q E_
inductive g7 (C:Addr) (vs:List V) (H:Hp) (Q:VK) (E_:XK):Prop
 | mk (t:Addr) (p n f:Int) (h0_:vs=[.ref t]) (h1_:TabAt C H t p n f) (h2_:p∈primes9) (h3_:0≤n) (h4_:n≤7) (h5_:n<p) (h6_:NewQ H Q ((aV p n.toNat).map V.int)):g7 C vs H Q E_
end Veil
namespace Veil
structure PtsOk (p:Int) (pts:List (Int×Int)):Prop where
 nd:(pts.map fun q=>q.1%p).Nodup
 yb:∀ q∈pts,0≤q.2∧q.2<p
end Veil
namespace Veil
def iV (p:Int):List Int:=(List.range p.toNat).map fun i:Nat=>(i:Int)
def cn (p:Int) (rows:List (List Int)):List (List Int):=rows.flatMap fun row=>(iV p).map fun n=>row++[n]
def bC (p:Int):Nat→List (List Int)
 | 0=>[[]]
 | f+1=>cn p (bC p f)
theorem dS (p:Int):∀ (f:Nat),∀ c∈bC p f,c.length=f
 | 0,c,h=>by
  have e:c=[]:=by simpa [bC] using h
  rw [e]
  rfl
 | f+1,c,h=>by
  rw [bC,cn] at h
  obtain ⟨row,hr,hc⟩:=List.mem_flatMap.mp h
  obtain ⟨n,_,rfl⟩:=List.mem_map.mp hc
  rw [List.length_append,dS p f row hr]
  rfl
theorem iJ (p:Int):∀ (f:Nat),∀ c∈bC p f,∀ v∈c,0≤v∧v<p
 | 0,c,h=>by
  have e:c=[]:=by simpa [bC] using h
  rw [e]
  exact fun v hv=>nomatch hv
 | f+1,c,h=>by
  rw [bC,cn] at h
  obtain ⟨row,hr,hc⟩:=List.mem_flatMap.mp h
  obtain ⟨n,hn,rfl⟩:=List.mem_map.mp hc
  intro v hv
  rcases List.mem_append.mp hv with hv | hv
  ·exact iJ p f row hr v hv
  ·have e:v=n:=by simpa using hv
   subst e
   obtain ⟨i,hi,rfl⟩:=List.mem_map.mp hn
   have:=List.mem_range.mp hi
   omega
end Veil
namespace Veil
theorem ib:∀ (n:Nat) (z:Int),av (List.replicate n 0) z=0
 | 0,_=>rfl
 | n+1,z=>by rw [List.replicate_succ,av,ib n];simp
end Veil
namespace Veil
structure LieSt (p:Int) (n:Nat) (row li:List Int) (os:List (Option Int)):Prop where
 len:os.length=n
 nd:li.Nodup
 lb:∀ h∈li,1≤h∧h≤n
 lie:∀ h∈li,∃ y,os[(h - 1).toNat]?=some (some y)∧(0≤y∧y<p)∧y≠bd p row h
 hon:∀ i:Nat,i<n→(1+(i:Int))∉li→os[i]?=some none∨os[i]?=some (some (bd p row (1+(i:Int))))
end Veil
namespace Veil
open PySem L2
def LLAt (l:Addr) (H:Hp):List V→List (List Int)→Prop:=Paired fun v r=>∃ a,v=.ref a∧a≠l∧H a=some (.lst (r.map V.int))
theorem LLAt.same {l:Addr}{H H':Hp} (s:Same H H') {vs:List V}{rs:List (List Int)} (h:LLAt l H vs rs):LLAt l H' vs rs:=Paired.mapP h fun v r ⟨a,e,n,z⟩=>⟨a,e,n,s _ _ z⟩
theorem LLAt.upd {l:Addr}{H:Hp}{o:HO}{vs:List V}{rs:List (List Int)} (h:LLAt l H vs rs):LLAt l (L2.upd H l o) vs rs:=Paired.mapP h fun v r ⟨a,e,n,z⟩=>⟨a,e,n,by rw [ar n];exact z⟩
theorem LLAt.len {l:Addr}{H:Hp}{vs:List V}{rs:List (List Int)} (h:LLAt l H vs rs):vs.length=rs.length:=Paired.length h
theorem LLAt.snoc {l:Addr}{H:Hp}{vs:List V}{rs:List (List Int)} (h:LLAt l H vs rs) {a:Addr}{r:List Int} (n:a≠l) (z:H a=some (.lst (r.map V.int))):LLAt l H (vs++[.ref a]) (rs++[r]):=Paired.snoc h ⟨a,rfl,n,z⟩
theorem LLAt.get {l:Addr}{H:Hp}:∀ {vs:List V}{rs:List (List Int)}{i:Nat}{x:V},LLAt l H vs rs→vs[i]?=some x→∃ a r,x=.ref a∧a≠l∧H a=some (.lst (r.map V.int))∧rs[i]?=some r
 | _,_,_,_,.nil,e=>by simp at e
 | _,_,0,_,.cons ⟨a,r,n,z⟩ _,e=>by simp at e;subst e;exact ⟨a,_,r,n,z,rfl⟩
 | _,_,i+1,x,.cons _ t,e=>by
  obtain ⟨a,q,h1,n,h2,h3⟩:=LLAt.get (i:=i) (x:=x) t (by simpa using e)
  exact ⟨a,q,h1,n,h2,by simpa using h3⟩
theorem small10k {n:Nat} (h:n≤10000):n<sizeLine:=Nat.lt_of_le_of_lt h (by decide)
theorem iw (p:Int):∀ (rows:List (List Int)),(cn p rows).length=rows.length*p.toNat
 | []=>by simp [cn]
 | r::rows=>by
  have ih:=iw p rows
  unfold cn at ih ⊢
  rw [List.flatMap_cons,List.length_append,ih,List.length_map,iV,List.length_map,List.length_range,List.length_cons,Nat.succ_mul]
  omega
theorem kx {p:Int}{rows:List (List Int)}{i:Nat}{r:List Int} (h:rows[i]?=some r):cn p (rows.take i)++((iV p).map fun n=>r++[n])=cn p (rows.take (i+1)):=by
 rw [← cW h]
 unfold cn
 rw [List.flatMap_append]
 simp
theorem mv {p:Int}{j:Nat} (h:j<p.toNat):(iV p)[j]?=some (j:Int):=by
 unfold iV
 rw [List.getElem?_map,List.getElem?_range h]
 rfl
theorem kr (p:Int):(iV p).length=p.toNat:=by unfold iV;rw [List.length_map,List.length_range]
def NewRows (H:Hp) (Q:VK) (rows:List (List Int)):Prop:=∀ d H' ws,Same H H'→H d=none→H' d=some (.lst ws)→LLAt d H' ws rows→Q (.ref d) H'
inductive jt (vs:List V) (H:Hp) (Q:VK) (E_:XK):Prop
 | mk (r l0:Addr) (p:Int) (rs:List V) (rows:List (List Int)) (h0_:vs=[.ref r,.int p]) (h1_:0<p) (h2_:p≤31) (h3_:H r=some (.lst rs)) (h4_:LLAt l0 H rs rows) (h5_:rows.length≤200) (h6_:(∀ r∈rows,r.length≤5)) (h7_:NewRows H Q (cn p rows)):jt vs H Q E_
end Veil
namespace Veil
open PySem L2
end Veil
namespace Veil
open PySem L2
theorem cut_to {xs:List V}{k:Nat}:lS xs none (some (k:Int))=xs.take k:=by
 unfold lS
 rw [HT.sIx_none,HT.sIx_nat,List.drop_zero,Nat.sub_zero]
 rcases Nat.le_total k xs.length with h | h
 ·rw [Nat.min_eq_left h]
 ·rw [Nat.min_eq_right h,List.take_length,List.take_of_length_le h]
theorem cut_from {xs:List V}{k:Nat}:lS xs (some (k:Int)) none=xs.drop k:=by
 unfold lS
 rw [HT.sIx_none,HT.sIx_nat]
 rcases Nat.le_total k xs.length with h | h
 ·rw [Nat.min_eq_left h,List.take_of_length_le (by rw [List.length_drop];exact Nat.le_refl _)]
 ·rw [Nat.min_eq_right h,List.drop_length,List.drop_eq_nil_of_le h,List.take_nil]
end Veil
namespace Veil
open PySem L2
def sd:Option Int→PySem.W.Dat
 | none=>.none
 | some i=>.int i
theorem i9 {α β:Type}{R:α→β→Prop}:∀ {a b:List α}{c d:List β},Paired R a c→Paired R b d→Paired R (a++b) (c++d)
 | _,_,_,_,.nil,g=>g
 | _,_,_,_,.cons h t,g=>.cons h (i9 t g)
theorem cR {α β:Type}{R:α→β→Prop}:∀ {a:List α}{c:List β}{i:Nat}{x:α},Paired R a c→a[i]?=some x→∃ y,c[i]?=some y∧R x y
 | _,_,_,_,.nil,e=>by simp at e
 | _,_,0,_,.cons h _,e=>by simp at e;subst e;exact ⟨_,rfl,h⟩
 | _,_,i+1,x,.cons _ t,e=>by
  obtain ⟨y,h1,h2⟩:=cR (i:=i) (x:=x) t (by simpa using e)
  exact ⟨y,by simpa using h1,h2⟩
theorem jN (x:Int):∀ (li:List Int),inV (.int x) (li.map V.int)=decide (x∈li)
 | []=>by simp [inV]
 | y::r=>by
  have ih:=jN x r
  unfold inV at ih ⊢
  rw [List.map_cons,List.any_cons,ih]
  have e:eqV (.int y) (.int x)=decide (y=x):=by
   show (y == x)=decide (y=x)
   by_cases h:y=x<;>simp [h]
  rw [e]
  by_cases h:y=x
  ·simp [h]
  ·have h':¬ x=y:=fun z=>h z.symm
   simp [h,h']
theorem iC:∀ (li:List Int),(li.map V.int).all jR=true
 | []=>rfl
 | _::r=>by rw [List.map_cons,List.all_cons,iC r];rfl
theorem nV {n:Nat}{k:Int} (h0:0≤k) (h1:k<n):ixN n k=some k.toNat:=by
 unfold ixN
 rw [if_pos h0,if_pos h1]
end Veil
namespace Veil
end Veil
namespace L2
open PySem PySem.Spec PyProof.Rows
open PySem.W (Dat kqdP kqdPs kqdOk)
section
variable {X:Cx}
end
end L2
namespace Veil
open PySem L2
theorem ij {α β:Type}{R:α→β→Prop}:∀ {a:List α}{b:List β} (n:Nat),Paired R a b→Paired R (a.take n) (b.take n)
 | _,_,0,_=>by simp only [List.take_zero];exact .nil
 | _,_,_+1,.nil=>by simp only [List.take_nil];exact .nil
 | _,_,n+1,.cons h t=>by simp only [List.take_succ_cons];exact .cons h (ij n t)
structure OsOk (p n:Int) (os:List (Option Int)):Prop where
 len:os.length=n.toNat
 b:∀ (i:Nat) (y:Int),os[i]?=some (some y)→0≤y∧y<p
theorem took (xs:List Int) (k:Nat):lS (xs.map V.int) none (some (k:Int))=(xs.take k).map V.int:=by rw [cut_to,List.map_take]
end Veil
namespace Veil
open PySem L2
inductive Stp where
 | ein (h:Int)
 | fix (x:Int)
 | bye (a x:Int)
 | sum (a b:Int)
 | less (a b:Int)
 | mul (a b:Int)
 | anew (a:Int)
 | opn (a:Int)
 deriving DecidableEq
def Stp.vs:Stp→List V
 | .ein h=>[.str "in",.int h]
 | .fix x=>[.str "fix",.int x]
 | .bye a x=>[.str "by",.int a,.int x]
 | .sum a b=>[.str "sum",.int a,.int b]
 | .less a b=>[.str "less",.int a,.int b]
 | .mul a b=>[.str "mul",.int a,.int b]
 | .anew a=>[.str "anew",.int a]
 | .opn a=>[.str "open",.int a]
def Stp.dat:Stp→PySem.W.Dat
 | .ein h=>.tuple [.str "in",.int h]
 | .fix x=>.tuple [.str "fix",.int x]
 | .bye a x=>.tuple [.str "by",.int a,.int x]
 | .sum a b=>.tuple [.str "sum",.int a,.int b]
 | .less a b=>.tuple [.str "less",.int a,.int b]
 | .mul a b=>.tuple [.str "mul",.int a,.int b]
 | .anew a=>.tuple [.str "anew",.int a]
 | .opn a=>.tuple [.str "open",.int a]
theorem Stp.ok (s:Stp):PySem.W.kqdOk 7 s.dat=true:=by cases s<;>simp [Stp.dat,PySem.W.kqdOk]<;>decide +kernel
theorem Stp.ok8 (s:Stp):PySem.W.kqdOk 8 s.dat=true:=by cases s<;>simp [Stp.dat,PySem.W.kqdOk]<;>decide +kernel
theorem Stp.rep {H:Hp}{a:Addr}{s:Stp} (h:H a=some (.tup s.vs)):RepD H (.ref a) s.dat:=by
 cases s
 case ein=>exact .tup h (.cons (.str _) (.cons (.int _) .nil))
 case fix=>exact .tup h (.cons (.str _) (.cons (.int _) .nil))
 case bye=>exact .tup h (.cons (.str _) (.cons (.int _) (.cons (.int _) .nil)))
 case sum=>exact .tup h (.cons (.str _) (.cons (.int _) (.cons (.int _) .nil)))
 case less=>exact .tup h (.cons (.str _) (.cons (.int _) (.cons (.int _) .nil)))
 case mul=>exact .tup h (.cons (.str _) (.cons (.int _) (.cons (.int _) .nil)))
 case anew=>exact .tup h (.cons (.str _) (.cons (.int _) .nil))
 case opn=>exact .tup h (.cons (.str _) (.cons (.int _) .nil))
theorem dat_ein {s:Stp}{h:Int}:s.dat=(Stp.ein h).dat↔s=.ein h:=by
 constructor
 ·intro e
  cases s
  case ein x =>
   injection e with e
   injection e with _ e
   injection e with e _
   injection e with e
   rw [e]
  all_goals
   exfalso
   injection e with e
   injection e with e _
   injection e with e
   revert e
   decide +kernel
 ·rintro rfl
  rfl
def StpsAt (H:Hp):List V→List Stp→Prop:=Paired fun v s=>∃ a,v=.ref a∧H a=some (.tup s.vs)
theorem StpsAt.same {H H':Hp} (s:Same H H') {vs:List V}{ss:List Stp} (h:StpsAt H vs ss):StpsAt H' vs ss:=Paired.mapP h fun v q ⟨a,e,z⟩=>⟨a,e,s _ _ z⟩
theorem StpsAt.get {H:Hp}{vs:List V}{ss:List Stp}{i:Nat}{x:V} (h:StpsAt H vs ss) (e:vs[i]?=some x):∃ a s,x=.ref a∧H a=some (.tup s.vs)∧ss[i]?=some s:=by
 obtain ⟨s,h1,a,h2,h3⟩:=cR h e
 exact ⟨a,s,h2,h3,h1⟩
theorem StpsAt.snoc {H:Hp}{vs:List V}{ss:List Stp} (h:StpsAt H vs ss) {a:Addr}{s:Stp} (z:H a=some (.tup s.vs)):StpsAt H (vs++[.ref a]) (ss++[s]):=Paired.snoc h ⟨a,rfl,z⟩
theorem StpsAt.upd {H:Hp}{l:Addr}{c c':List V} (hl:H l=some (.lst c)) {vs:List V}{ss:List Stp} (h:StpsAt H vs ss):StpsAt (L2.upd H l (.lst c')) vs ss:=Paired.mapP h fun v q ⟨a,e,z⟩=>⟨a,e,by
 rw [ar fun y=>by rw [y,hl] at z;cases z]
 exact z⟩
theorem StpsAt.rep {H:Hp}:∀ {vs:List V}{ss:List Stp},StpsAt H vs ss→RepDs H vs (ss.map Stp.dat)
 | _,_,.nil=>.nil
 | _,_,.cons ⟨_,e,z⟩ t=>by rw [e];exact .cons (Stp.rep z) (StpsAt.rep t)
def Stp.Right (p n k:Int):Stp→Prop
 | .ein h=>1≤h∧h≤n
 | .fix x=>0≤x∧x<p
 | .bye a x=>(0≤a∧a<k)∧0≤x∧x<p
 | .sum a b=>(0≤a∧a<k)∧0≤b∧b<k
 | .less a b=>(0≤a∧a<k)∧0≤b∧b<k
 | .mul a b=>(0≤a∧a<k)∧0≤b∧b<k
 | .anew a=>0≤a∧a<k
 | .opn a=>0≤a∧a<k
def aS (ss:List Stp) (h:Int):Nat:=(ss.filter fun s=>decide (s=.ein h)).length
inductive oQ (vs:List V) (H:Hp) (Q:VK) (E_:XK):Prop
 | mk (a:Addr) (h:Int) (ws:List V) (ss:List Stp) (h0_:vs=[.ref a,.int h]) (h1_:H a=some (.lst ws)) (h2_:StpsAt H ws ss) (h3_:ss.length≤100) (h4_:cA H Q (.int (aS ss h:Int))):oQ vs H Q E_
theorem gU {ss:List Stp}{h:Int}{i:Nat}{s:Stp} (e:ss[i]?=some s):aS (ss.take (i+1)) h=aS (ss.take i) h+(if s=.ein h then 1 else 0):=by
 unfold aS
 rw [List.take_add_one,e,List.filter_append,List.length_append]
 congr 1
 by_cases c:s=.ein h<;>simp [c]
theorem kQ (ss:List Stp) (h:Int):aS ss h≤ss.length:=List.length_filter_le _ _
end Veil
namespace Veil
open PySem L2
def Stp.word:Stp→Str
 | .ein _=>"in"
 | .fix _=>"fix"
 | .bye _ _=>"by"
 | .sum _ _=>"sum"
 | .less _ _=>"less"
 | .mul _ _=>"mul"
 | .anew _=>"anew"
 | .opn _=>"open"
theorem Stp.at0 (s:Stp):atI s.vs 0=some (.str s.word):=by cases s<;>rfl
def Stp.need (n:Int):Stp→Int
 | .ein _=>1
 | .mul _ _=>n
 | .anew _=>n
 | _=>0
theorem need_b {n:Int} (h0:0≤n) (h1:n≤10) (s:Stp):0≤s.need n∧s.need n≤10:=by cases s<;>simp only [Stp.need]<;>omega
def aY (f n:Int):List Stp→Int
 | []=>0
 | s::r=>f*s.need n+aY f n r
theorem ir (f n:Int):∀ (a b:List Stp),aY f n (a++b)=aY f n a+aY f n b
 | [],b=>by simp [aY]
 | s::a,b=>by
  rw [List.cons_append,aY,aY,ir f n a b]
  omega
def InsAt (H:Hp):List Addr→List (List Int)→Prop:=Paired fun a r=>H a=some (.lst (r.map V.int))
theorem InsAt.same {H H':Hp} (s:Same H H') {as:List Addr}{rs:List (List Int)} (h:InsAt H as rs):InsAt H' as rs:=Paired.mapP h fun a r z=>s _ _ z
theorem InsAt.there {H:Hp}:∀ {as:List Addr}{rs:List (List Int)}{l:Addr},InsAt H as rs→H l=none→l∉as
 | _,_,_,.nil,_,h=>nomatch h
 | _,_,l,.cons z t,hl,h=>by
  rcases List.mem_cons.mp h with e | e
  ·rw [← e,hl] at z
   cases z
  ·exact InsAt.there t hl e
theorem InsAt.off {H:Hp}{l:Addr}{o:HO}:∀ {as:List Addr}{rs:List (List Int)},InsAt H as rs→l∉as→InsAt (L2.upd H l o) as rs
 | _,_,.nil,_=>.nil
 | _,_,.cons z t,h=>.cons (by rw [ar (fun e=>h (by rw [e];exact List.mem_cons_self))];exact z) (InsAt.off t fun e=>h (List.mem_cons_of_mem _ e))
theorem InsAt.snoc {H:Hp}{as:List Addr}{rs:List (List Int)} (h:InsAt H as rs) {a:Addr}{r:List Int} (z:H a=some (.lst (r.map V.int))):InsAt H (as++[a]) (rs++[r]):=Paired.snoc h z
theorem gc {α:Type}{as:List α}{a:α} (h:as.Nodup) (n:a∉as):(as++[a]).Nodup:=by
 refine List.nodup_append.mpr ⟨h,by simp,fun x hx y hy e=>?_⟩
 have:y=a:=by simpa using hy
 rw [e,this] at hx
 exact n hx
def inBy (c p:Int) (ss:List Stp) (h:Int):List Int:=(List.range ((aS ss h:Int)+nM c (60+h) 2).toNat).map fun k:Nat=>nM c (70+9*h+(k:Int)) p
def aW (c p:Int) (ss:List Stp) (n:Nat):List (List Int):=(List.range n).map fun i:Nat=>inBy c p ss (1+(i:Int))
def NewIns (H:Hp) (Q:VK) (rs:List (List Int)):Prop:=∀ d H' as,Same H H'→H d=none→H' d=some (.lst (as.map V.ref))→as.Nodup→d∉as→(∀ a∈as,H a=none)→InsAt H' as rs→Q (.ref d) H'
inductive fT (C:Addr) (vs:List V) (H:Hp) (Q:VK) (E_:XK):Prop
 | mk (a t:Addr) (c p n f:Int) (ws:List V) (ss:List Stp) (h0_:vs=[.int c,.ref a,.ref t]) (h1_:TabAt C H t p n f) (h2_:0<p) (h3_:(0≤n∧n≤10)) (h4_:H a=some (.lst ws)) (h5_:StpsAt H ws ss) (h6_:ss.length≤100) (h7_:NewIns H Q (aW c p ss n.toNat)):fT C vs H Q E_
end Veil
namespace Veil
open PySem L2
def bI (rest:List (List Int)) (h:Int):List Int:=rest.getD (h - 1).toNat []
def jm (p:Int) (rest:List (List Int)) (fd:List Int):Stp→Int
 | .ein h=>(bI rest h).headD 0
 | .fix x=>x
 | .bye a x=>fd.getD a.toNat 0*x%p
 | .sum a b=>(fd.getD a.toNat 0+fd.getD b.toNat 0)%p
 | .less a b=>(fd.getD a.toNat 0 - fd.getD b.toNat 0)%p
 | .mul a b=>fd.getD a.toNat 0*fd.getD b.toNat 0%p
 | .anew a=>fd.getD a.toNat 0
 | .opn a=>fd.getD a.toNat 0
def gY (rest:List (List Int)):Stp→List (List Int)
 | .ein h=>rest.set (h - 1).toNat (bI rest h).tail
 | _=>rest
def dJ (p:Int):List Stp→List (List Int)→List Int→List Int
 | [],_,fd=>fd
 | s::r,rest,fd=>dJ p r (gY rest s) (fd++[jm p rest fd s])
def ay (p:Int) (ss:List Stp) (inp:List (List Int)):List Int:=dJ p ss inp []
def eV (p n:Int) (ss:List Stp):Prop:=∀ (i:Nat) (s:Stp),ss[i]?=some s→s.Right p n (i:Int)
structure InsOk (p n:Int) (ss:List Stp) (inp:List (List Int)):Prop where
 len:inp.length=n.toNat
 b:∀ r∈inp,∀ x∈r,0≤x∧x<p
 en:∀ h,1≤h→h≤n→aS ss h≤(bI inp h).length
structure PlSt (p n:Int) (ss:List Stp) (inp:List (List Int)) (i:Nat) (rest:List (List Int)) (fd:List Int):Prop where
 ok:InsOk p n (ss.drop i) rest
 fl:fd.length=i
 fb:∀ x∈fd,0≤x∧x<p
 go:dJ p (ss.drop i) rest fd=ay p ss inp
theorem PlSt.start {p n:Int}{ss:List Stp}{inp:List (List Int)} (h:InsOk p n ss inp):PlSt p n ss inp 0 inp []:=⟨by rw [List.drop_zero];exact h,rfl,(fun x hx=>nomatch hx),by rw [List.drop_zero];rfl⟩
theorem bt (s:Stp) (r:List Stp) (h:Int):aS (s::r) h=(if s=.ein h then 1 else 0)+aS r h:=by
 unfold aS
 rw [List.filter_cons]
 by_cases e:s=.ein h
 ·rw [if_pos (decide_eq_true e),if_pos e,List.length_cons]
  omega
 ·rw [if_neg (by simp [e]),if_neg e]
  omega
theorem jd {p:Int}{fd:List Int} (h:∀ x∈fd,0≤x∧x<p) {a:Int} (h0:0≤a) (h1:a<fd.length):0≤fd.getD a.toNat 0∧fd.getD a.toNat 0<p:=by
 have hl:a.toNat<fd.length:=by omega
 rw [List.getD_eq_getElem?_getD,List.getElem?_eq_getElem hl]
 exact h _ (List.getElem_mem hl)
theorem PlSt.head {p n:Int}{ss:List Stp}{inp rest:List (List Int)}{i:Nat}{fd:List Int} (S:PlSt p n ss inp i rest fd) {h:Int} (hs:ss[i]?=some (.ein h)) (h1:1≤h) (h2:h≤n):∃ x r,bI rest h=x::r:=by
 have:=S.ok.en h h1 h2
 rw [gf hs,bt,if_pos rfl] at this
 cases e:bI rest h with
 | nil=>rw [e] at this;simp at this
 | cons x r=>exact ⟨x,r,rfl⟩
theorem gO {rest:List (List Int)}{h:Int} (hl:(h - 1).toNat<rest.length):bI rest h∈rest:=by
 unfold bI
 rw [List.getD_eq_getElem?_getD,List.getElem?_eq_getElem hl]
 exact List.getElem_mem hl
theorem PlSt.val {p n:Int}{ss:List Stp}{inp rest:List (List Int)}{i:Nat}{fd:List Int} (S:PlSt p n ss inp i rest fd) (hp:0<p) {s:Stp} (hs:ss[i]?=some s) (R:s.Right p n (i:Int)):0≤jm p rest fd s∧jm p rest fd s<p:=by
 have fl:=S.fl
 cases s with
 | ein h =>
  obtain ⟨x,r,e⟩:=S.head hs R.1 R.2
  simp only [jm,e,List.headD_cons]
  have hl:(h - 1).toNat<rest.length:=by rw [S.ok.len];have:=R.1;have:=R.2;omega
  exact S.ok.b _ (gO hl) x (by rw [e];exact List.mem_cons_self)
 | fix x=>exact R
 | bye a x=>exact ⟨Int.emod_nonneg _ (by omega),Int.emod_lt_of_pos _ hp⟩
 | sum a b=>exact ⟨Int.emod_nonneg _ (by omega),Int.emod_lt_of_pos _ hp⟩
 | less a b=>exact ⟨Int.emod_nonneg _ (by omega),Int.emod_lt_of_pos _ hp⟩
 | mul a b=>exact ⟨Int.emod_nonneg _ (by omega),Int.emod_lt_of_pos _ hp⟩
 | anew a=>exact jd S.fb R.1 (by rw [fl];exact R.2)
 | opn a=>exact jd S.fb R.1 (by rw [fl];exact R.2)
theorem PlSt.next {p n:Int}{ss:List Stp}{inp rest:List (List Int)}{i:Nat}{fd:List Int} (S:PlSt p n ss inp i rest fd) (hp:0<p) {s:Stp} (hs:ss[i]?=some s) (R:s.Right p n (i:Int)) :
  PlSt p n ss inp (i+1) (gY rest s) (fd++[jm p rest fd s]):=by
 have hv:=S.val hp hs R
 refine ⟨?_,by rw [List.length_append,S.fl];rfl,fun x hx=>?_,?_⟩
 ·have ok:=S.ok
  rw [gf hs] at ok
  have other:(∀ h,s≠.ein h)→InsOk p n (ss.drop (i+1)) rest:=fun hne=>⟨ok.len,ok.b,fun h h1 h2=>by
   have:=ok.en h h1 h2
   rw [bt,if_neg (hne h)] at this
   omega⟩
  cases s with
  | ein h =>
   have hl:(h - 1).toNat<rest.length:=by rw [S.ok.len];have:=R.1;have:=R.2;omega
   refine ⟨by show (rest.set _ _).length=_;rw [List.length_set];exact ok.len,fun r hr x hx=>?_,fun h' h1 h2=>?_⟩
   ·have hr:r∈rest.set (h - 1).toNat (bI rest h).tail:=hr
    rcases List.mem_or_eq_of_mem_set hr with e | e
    ·exact ok.b r e x hx
    ·rw [e] at hx
     exact ok.b _ (gO hl) x (List.mem_of_mem_tail hx)
   ·have e1:=ok.en h' h1 h2
    rw [bt] at e1
    show _≤(bI (rest.set (h - 1).toNat (bI rest h).tail) h').length
    by_cases e:h'=h
    ·subst e
     rw [if_pos rfl] at e1
     have:bI (rest.set (h' - 1).toNat (bI rest h').tail) h'=(bI rest h').tail:=by
      show (rest.set (h' - 1).toNat (bI rest h').tail).getD (h' - 1).toNat []=_
      rw [List.getD_eq_getElem?_getD,List.getElem?_set_self hl]
      rfl
     rw [this,List.length_tail]
     omega
    ·have hne:(h - 1).toNat≠(h' - 1).toNat:=by have:=R.1;omega
     have:bI (rest.set (h - 1).toNat (bI rest h).tail) h'=bI rest h':=by
      unfold bI
      rw [List.getD_eq_getElem?_getD,List.getElem?_set_ne hne,← List.getD_eq_getElem?_getD]
     rw [this]
     split at e1<;>omega
  | fix x=>exact other fun h z=>nomatch z
  | bye a x=>exact other fun h z=>nomatch z
  | sum a b=>exact other fun h z=>nomatch z
  | less a b=>exact other fun h z=>nomatch z
  | mul a b=>exact other fun h z=>nomatch z
  | anew a=>exact other fun h z=>nomatch z
  | opn a=>exact other fun h z=>nomatch z
 ·rcases List.mem_append.mp hx with h | h
  ·exact S.fb x h
  ·have e:x=jm p rest fd s:=by simpa using h
   rw [e]
   exact hv
 ·have go:=S.go
  rw [gf hs,dJ] at go
  exact go
theorem InsAt.get {H:Hp}{as:List Addr}{rs:List (List Int)}{i:Nat}{a:Addr} (h:InsAt H as rs) (e:as[i]?=some a):∃ r,rs[i]?=some r∧H a=some (.lst (r.map V.int)):=cR h e
theorem InsAt.put {H:Hp}:∀ {as:List Addr}{rs:List (List Int)}{i:Nat}{a:Addr}{r:List Int},InsAt H as rs→as.Nodup→as[i]?=some a→InsAt (L2.upd H a (.lst (r.map V.int))) as (rs.set i r)
 | _,_,_,_,_,.nil,_,e=>by simp at e
 | _,_,0,a,r,.cons z t,nd,e=>by
  simp at e
  subst e
  rw [List.nodup_cons] at nd
  exact .cons ad (InsAt.off t nd.1)
 | b::as,_,i+1,a,r,.cons z t,nd,e=>by
  rw [List.nodup_cons] at nd
  have e:as[i]?=some a:=by simpa using e
  exact .cons (by rw [ar fun h=>nd.1 (by rw [h];exact List.mem_of_getElem? e)];exact z) (InsAt.put t nd.2 e)
theorem eu {as:List Addr}{i:Nat}{x:V} (h:(as.map V.ref)[i]?=some x):∃ a,x=.ref a∧as[i]?=some a:=by
 rw [List.getElem?_map] at h
 cases e:as[i]? with
 | none=>rw [e] at h;cases h
 | some v=>rw [e] at h;exact ⟨v,(Option.some.inj h).symm,rfl⟩
theorem fj {fd:List Int}{a:Int} (h0:0≤a) (h1:a<fd.length):atI (fd.map V.int) a=some (.int (fd.getD a.toNat 0)):=by
 have hl:a.toNat<fd.length:=by omega
 have e:atI (fd.map V.int) ((a.toNat:Nat):Int)=some (.int (fd.getD a.toNat 0)):=fq (by rw [List.getElem?_map,List.getD_eq_getElem?_getD,List.getElem?_eq_getElem hl];rfl)
 rw [show ((a.toNat:Nat):Int)=a by omega] at e
 exact e
end Veil
namespace Veil
open PySem L2
structure SomeOk (n f:Int) (wo some:List Int):Prop where
 rise:some.Pairwise (·<·)
 b:∀ h∈some,1≤h∧h≤n∧h∉wo
 few:(some.length:Int)≤f
end Veil
namespace Veil
open PySem L2
def o3 (ss:List Stp) (inp oth:List (List Int)) (h:Int):Bool:=decide ((bI inp h).take (aS ss h)=(bI oth h).take (aS ss h))
def eQ (p:Int) (ss:List Stp) (inp oth:List (List Int)) (k:Nat) (s:Stp):Bool:=!decide (s.word="open") || decide ((ay p ss inp).getD k 0=(ay p ss oth).getD k 0)
def gn (p:Int) (ss:List Stp) (inp oth:List (List Int)):List Stp→Nat→List Bool
 | [],_=>[]
 | s::r,k=>eQ p ss inp oth k s::gn p ss inp oth r (k+1)
def m4 (p:Int) (ss:List Stp) (inp oth:List (List Int)) (sm:List Int):Bool:=sm.all (o3 ss inp oth) && (gn p ss inp oth ss 0).all id
theorem kj {p:Int}{ss:List Stp}{inp oth:List (List Int)}:∀ (r:List Stp) (k:Nat),(gn p ss inp oth r k).length=r.length
 | [],_=>rfl
 | x::r,k=>by rw [gn,List.length_cons,List.length_cons,kj r]
theorem ie (p:Int):∀ (ss:List Stp) (rest:List (List Int)) (fd:List Int),(dJ p ss rest fd).length=fd.length+ss.length
 | [],_,fd=>rfl
 | s::r,rest,fd=>by
  rw [dJ,ie p r,List.length_append,List.length_cons]
  simp
  omega
theorem ph (p:Int) (ss:List Stp) (inp:List (List Int)):(ay p ss inp).length=ss.length:=by
 unfold ay
 rw [ie]
 simp
theorem jO {H:Hp}{is:List Addr}{inp:List (List Int)} (h:InsAt H is inp) {n x:Int} (hl:inp.length=n.toNat) (h1:1≤x) (h2:x≤n):∃ e,atI (is.map V.ref) (x - 1)=some (.ref e)∧is[(x - 1).toNat]?=some e∧H e=some (.lst ((bI inp x).map V.int)):=by
 have il:is.length=inp.length:=Paired.length h
 have hk:(x - 1).toNat<is.length:=by omega
 refine ⟨is[(x - 1).toNat],?_,List.getElem?_eq_getElem hk,?_⟩
 ·have q:atI (is.map V.ref) (((x - 1).toNat:Nat):Int)=some (.ref is[(x - 1).toNat]):=fq (by rw [List.getElem?_map,List.getElem?_eq_getElem hk];rfl)
  rw [show (((x - 1).toNat:Nat):Int)=x - 1 by omega] at q
  exact q
 ·obtain ⟨r,hr,z⟩:=h.get (List.getElem?_eq_getElem hk)
  unfold bI
  rw [List.getD_eq_getElem?_getD,hr]
  exact z
end Veil
namespace Veil
open PySem L2
theorem gE (a b:List Stp) (h:Int):aS (a++b) h=aS a h+aS b h:=by
 unfold aS
 rw [List.filter_append,List.length_append]
theorem kB (c p:Int) (ss:List Stp) (n:Nat):(aW c p ss n).length=n:=by
 unfold aW
 rw [List.length_map,List.length_range]
theorem lH {c p:Int}{ss:List Stp}{n:Nat}{h:Int} (h1:1≤h) (h2:h≤n):bI (aW c p ss n) h=inBy c p ss h:=by
 unfold bI aW
 rw [List.getD_eq_getElem?_getD,List.getElem?_map,List.getElem?_range (by omega)]
 show inBy c p ss (1+((h - 1).toNat:Int))=_
 rw [show 1+((h - 1).toNat:Int)=h by omega]
theorem inBy_len {c p:Int}{ss:List Stp}{h:Int}:aS ss h≤(inBy c p ss h).length∧(inBy c p ss h).length≤ss.length+2:=by
 unfold inBy
 rw [List.length_map,List.length_range]
 have m0:=bX (c:=c) (k:=60+h) (show (0:Int)<2 by decide)
 have m1:=fh (c:=c) (k:=60+h) (show (0:Int)<2 by decide)
 have:=kQ ss h
 omega
theorem iB {c p n:Int}{ss:List Stp} (hp:0<p) (hn:0≤n):InsOk p n ss (aW c p ss n.toNat):=by
 refine ⟨kB _ _ _ _,fun r hr x hx=>?_,fun h h1 h2=>?_⟩
 ·unfold aW at hr
  obtain ⟨i,_,rfl⟩:=List.mem_map.mp hr
  unfold inBy at hx
  obtain ⟨k,_,rfl⟩:=List.mem_map.mp hx
  exact ⟨bX hp,fh hp⟩
 ·rw [lH h1 (by omega)]
  exact inBy_len.1
theorem gN {rest:List (List Int)}{h h':Int}{r:List Int} (h1:1≤h) (h1':1≤h') (hl:(h - 1).toNat<rest.length):bI (rest.set (h - 1).toNat r) h'=if h'=h then r else bI rest h':=by
 unfold bI
 by_cases e:h'=h
 ·subst e
  rw [if_pos rfl,List.getD_eq_getElem?_getD,List.getElem?_set_self hl]
  rfl
 ·rw [if_neg e,List.getD_eq_getElem?_getD,List.getElem?_set_ne (by omega),← List.getD_eq_getElem?_getD]
theorem InsOk.put {p n:Int}{ss:List Stp}{inp:List (List Int)} (O:InsOk p n ss inp) {h:Int} (h1:1≤h) (h2:h≤n) {r:List Int} (hb:∀ x∈r,0≤x∧x<p) (hl:aS ss h≤r.length):InsOk p n ss (inp.set (h - 1).toNat r):=by
 have hk:(h - 1).toNat<inp.length:=by rw [O.len];omega
 refine ⟨by rw [List.length_set];exact O.len,fun r' hr x hx=>?_,fun h' h1' h2'=>?_⟩
 ·rcases List.mem_or_eq_of_mem_set hr with e | e
  ·exact O.b r' e x hx
  ·rw [e] at hx
   exact hb x hx
 ·rw [gN h1 h1' hk]
  split
  ·rename_i e
   rw [e]
   exact hl
  ·exact O.en h' h1' h2'
theorem InsOk.at {p n:Int}{ss:List Stp}{inp:List (List Int)} (O:InsOk p n ss inp) {h:Int} (h1:1≤h) (h2:h≤n):∀ x∈bI inp h,0≤x∧x<p:=O.b _ (gO (by rw [O.len];omega))
def Heads (ss:List Stp) (one two:Int):Prop:=aS ss one ≥ (if one=two then 2 else 1)∧aS ss two ≥ (if one=two then 2 else 1)
theorem heads_of (one two:Int) (r:List Stp):Heads (.ein one::.ein two::r) one two:=by
 unfold Heads
 rw [bt,bt,bt,bt,if_pos rfl,if_pos (c:=Stp.ein two=Stp.ein two) rfl]
 by_cases e:one=two
 ·subst e
  rw [if_pos rfl,if_pos rfl]
  omega
 ·rw [if_neg e]
  refine ⟨by omega,by omega⟩
end Veil
namespace Veil
open PySem L2
end Veil
namespace Veil
open PySem L2
end Veil
namespace L2
open PySem PySem.Spec PyProof.Rows
def KDict (P:Program) (w:World) (K:PySem.W.Frag) (a:Addr) (kvs:List (Key×V)):Prop:=(a == sysModules)=false∧∃ (o:Obj) (vs:List (Key×Value)),K.lookup a=some o∧o.IsDictOf (dO P w) vs∧KV kvs vs
def tKGet1 (P:Program) (w:World) (K:PySem.W.Frag) (td ty:TE):TE:=fun σ H Q=>td σ H fun x H1=>∃ a kvs,x=.ref a∧KDict P w K a kvs∧ty σ H1 fun y H2=>∃ k,y=kV k∧Q ((valV kvs k).getD .non) H2
theorem pe_kget1 {X:Cx}{o e:Expr}{td ty:TE}{apos cpos:Pos} (ho:PE X o td) (he:PE X e ty) (m:M1 X o "get" apos e cpos):PE X (.Call (.Attribute o "get" apos) [e] [] cpos) (tKGet1 X.prog X.w X.K td ty):=by
 intro pins s σ H Q I h
 refine wpAny_Call_method m.base m.few m.line PySem.F.plainAttrs_dict PySem.F.slot_dict_get PySem.F.type_dict_get (thn (ho pins s σ H _ I h) fun u s1 ⟨x,H1,I1,rx,a,kvs,ex,d,q1⟩=>?_)
 subst ex
 obtain rfl:u=Value.ref a:=rx
 obtain ⟨hd,ob,vs,lk,di,rel⟩:=d
 have dd:s1.heap.DictOf (dO X.prog X.w) a vs:=Heap.dictOf_iff.mpr ⟨ob,I1.kIn a ob lk,di⟩
 refine ⟨dd.typeIs,fun b q=>?_,?_⟩
 ·cases q
  obtain ⟨es,ep,h2,_⟩:=di
  exact ⟨ob,I1.kIn a ob lk,h2.2.1⟩
 rw [m.trees]
 refine Calls.callWith_builtin rfl (Calls.evalArgs_plain (Calls.spliced_cons (thn (he pins s1 σ H1 _ I1 q1) fun iv s2 ⟨y,H2,I2,ry,k,ey,q2⟩=>Calls.spliced_nil ?_)))
 subst ey
 have dd2:s2.heap.DictOf (dO X.prog X.w) a vs:=Heap.dictOf_iff.mpr ⟨ob,I2.kIn a ob lk,di⟩
 refine call_meetsIn PySem.F.slot_dict_get dd2.typeIs PySem.F.entry_dict_get (PySem.F.args_dict_get_2 _ _) (meets_dict_get (dO X.prog X.w) a (kV_is ry) hd) ⟨_,dd2.mapOf,_,H2,I2.tok _,?_,q2⟩
 exact (rel.val k).getD rfl
theorem Ok.calm {P:Program}{w:World}{K:PySem.W.Frag}{mg:Str→Option Value}{base:Heap}{x:Str}{ps:List Str}{sp:Sp}{k:Nat} (O:Ok P w K mg base (CXE P w) k x ps sp):Ok P w K mg base CX0 k x ps (fun vs H Q _=>sp vs H Q E0):=by
 obtain ⟨f,fd,⟨len,run⟩,hb,m⟩:=O
 refine ⟨f,fd,⟨fun vs H Q E h=>len vs H Q E0 h,fun A outer s H args us vs Q E hr e0 hbd r hsp=>?_⟩,hb,m⟩
 refine codeAny_mono (run A outer s H args us vs Q E0 hr e0 hbd r hsp) fun r s' hq=>?_
 cases r with
 | error e =>
  obtain ⟨_,_,_,_,_,_,_,_,z⟩:=hq
  exact z.elim
 | ok fl=>cases fl<;>exact hq
end L2
namespace L2
open PySem PySem.Spec PyProof.Rows
def Fed (b:Bool) (h:Heap) (it l:Addr) (i:Nat):Prop:=if b=true then h.IsTupleIter it l i else h.IsListIter it l i
def Bas (b:Bool) (h:Heap) (l:Addr) (xs:Array Value):Prop:=if b=true then h.IsTuple l xs else h.IsList l xs
theorem Fed.ext {b:Bool}{h h':Heap}{it l c:Addr}{i:Nat} (x:Fed b h it l i) (hs:Heap.ExtBut c h h') (n:it≠c):Fed b h' it l i:=by
 cases b
 ·exact Heap.IsListIter.extBut (show h.IsListIter it l i from x) hs n
 ·exact Heap.IsTupleIter.extBut (show h.IsTupleIter it l i from x) hs n
theorem Bas.ext {b:Bool}{h h':Heap}{l c:Addr}{xs:Array Value} (x:Bas b h l xs) (hs:Heap.ExtBut c h h') (n:l≠c):Bas b h' l xs:=by
 cases b
 ·exact Heap.IsList.extBut (show h.IsList l xs from x) hs n
 ·exact Heap.IsTuple.extBut (show h.IsTuple l xs from x) hs n
theorem Fed.obj {b:Bool}{h:Heap}{it l:Addr}{i:Nat} (x:Fed b h it l i):∃ o,h.get? it=some o∧(∃ vs,o.data=.fields vs)∧∀ h':Heap,h'.get? it=some o→Fed b h' it l i:=by
 cases b
 ·obtain ⟨o,e,c,d⟩:=(show h.IsListIter it l i from x)
  exact ⟨o,e,⟨_,d⟩,fun h' e'=>⟨o,e',c,d⟩⟩
 ·obtain ⟨o,e,c,d⟩:=(show h.IsTupleIter it l i from x)
  exact ⟨o,e,⟨_,d⟩,fun h' e'=>⟨o,e',c,d⟩⟩
section
variable {prog:Program}{w:World}{A:Around}{E:Value→Shared→Prop}{s:Shared}
theorem nK {it t:Addr}{i:Nat}{items:Array Value}{x:Value}{Q:Value→Shared→Prop} (hit:s.heap.IsTupleIter it t i) (ht:s.heap.IsTuple t items) (hx:items[i]?=some x)
  (hQ:∀ h',h'.IsTupleIter it t (i+1)→Heap.SameBut it s.heap h'→Q x { s with heap:=h' }):wpAny (model prog w) A (Builtin.SmallTypes.nextOf (.ref it)) Q E s:=by
 obtain ⟨o,e1,e2,e3⟩:=id hit
 obtain ⟨ob,f1,_,nn,f2⟩:=ht
 unfold Builtin.SmallTypes.nextOf
 refine wpAny_bind (wpAny_callSpecial?_slot (name:=Str.ofString "__next__") hit.typeIs F.slot_tuple_iterator_next (wpAny_call_entry F.slot_tuple_iterator_next hit.typeIs F.entry_tuple_iterator_next ?_ (F.args_tuple_iterator_next_1 _)))
 (show wpAny _ _ (field (.ref it) 0 >>= _) _ _ s);refine wpAny_bind (wpAny_field e1 e3 (x:=.ref t) rfl ?_)
 (show wpAny _ _ (if (Value.ref t == Value.none)=true then _ else _) _ _ s);rw [if_neg (show ¬ ((Value.ref t == Value.none)=true) from Bool.false_ne_true)]
 (show wpAny _ _ (field (.ref it) 1 >>= _) _ _ s);refine wpAny_bind (wpAny_field e1 e3 (x:=.int i 0) rfl ?_)
 (show wpAny _ _ (seqItems? (.ref t) >>= _) _ _ s);refine wpAny_bind (wpAny_seqItems f1 f2 ?_)
 simp only [Int.toNat_natCast,hx]
 refine wpAny_bind (wpAny_setField e1 e3 (by simp) (wpAny_pure ⟨x,rfl,wpAny_pure (hQ _ ?_ (Heap.SameBut.update ..))⟩))
 exact ⟨_,Heap.get?_update_self _ e1 (Obj.isFreed_of_fields (Obj.data_mapFields e3 _)),(Obj.cls_mapFields ..).trans e2,by rw [Obj.data_mapFields e3];simp [rawInt]⟩
theorem pK {it t:Addr}{i:Nat}{items:Array Value}{Q:Value→Shared→Prop} (hh:A.handled=none) (hit:s.heap.IsTupleIter it t i) (ht:s.heap.IsTuple t items) (hx:items[i]?=none)
  (hE:∀ h' e,Heap.ExtBut it s.heap h'→(∃ o,h'.get? e=some o∧o.cls=.type "StopIteration")→E (.ref e) { s with heap:=h' }):wpAny (model prog w) A (Builtin.SmallTypes.nextOf (.ref it)) Q E s:=by
 obtain ⟨o,e1,e2,e3⟩:=id hit
 obtain ⟨ob,f1,_,nn,f2⟩:=ht
 unfold Builtin.SmallTypes.nextOf
 refine wpAny_bind (wpAny_callSpecial?_slot (name:=Str.ofString "__next__") hit.typeIs F.slot_tuple_iterator_next (wpAny_call_entry F.slot_tuple_iterator_next hit.typeIs F.entry_tuple_iterator_next ?_ (F.args_tuple_iterator_next_1 _)))
 (show wpAny _ _ (field (.ref it) 0 >>= _) _ _ s);refine wpAny_bind (wpAny_field e1 e3 (x:=.ref t) rfl ?_)
 (show wpAny _ _ (if (Value.ref t == Value.none)=true then _ else _) _ _ s);rw [if_neg (show ¬ ((Value.ref t == Value.none)=true) from Bool.false_ne_true)]
 (show wpAny _ _ (field (.ref it) 1 >>= _) _ _ s);refine wpAny_bind (wpAny_field e1 e3 (x:=.int i 0) rfl ?_)
 (show wpAny _ _ (seqItems? (.ref t) >>= _) _ _ s);refine wpAny_bind (wpAny_seqItems f1 f2 ?_)
 simp only [Int.toNat_natCast,hx]
 refine wpAny_bind (wpAny_rule (wpAny_bind (wpAny_setField e1 e3 (by simp) ?_)))
 (show wpAny _ _ (newExc (.type "StopIteration") [] >>= _) _ _ _);refine wpAny_bind ?_
 simp only [newExc,newTuple]
 refine wpAny_bind (wpAny_newObj_type ?_ (by size_fits));refine wpAny_bind (m:=firstArgMember _ _) (wpAny_of_eq (a:=Value.none) (by first | rfl | (simp only [firstArgMember];rfl)) ?_)
 refine wpAny_newObj_type ?_ (by size_fits);simp only [raiseNew]
 refine wpAny_bind (wpAny_handled ?_);first | rw [show A.in1.handled=none from hh] | rw [hh]
 refine wpAny_bind (wpAny_pure (wpAny_throw ?_));exact hE _ _ (((Heap.SameBut.update ..).extBut.push _).push _) ⟨_,Heap.get?_push_size _ rfl,rfl⟩
theorem pJ {b:Bool}{it t:Addr}{i:Nat}{items:Array Value}{x:Value}{Q:Value→Shared→Prop} (hit:Fed b s.heap it t i) (ht:Bas b s.heap t items) (hx:items[i]?=some x)
  (hQ:∀ h',Fed b h' it t (i+1)→Heap.SameBut it s.heap h'→Q x { s with heap:=h' }):wpAny (model prog w) A (Builtin.SmallTypes.nextOf (.ref it)) Q E s:=by
 cases b
 ·exact wpAny_nextOf_list_item (show s.heap.IsListIter it t i from hit) (show s.heap.IsList t items from ht) hx hQ
 ·exact nK (show s.heap.IsTupleIter it t i from hit) (show s.heap.IsTuple t items from ht) hx hQ
theorem next_end {b:Bool}{it t:Addr}{i:Nat}{items:Array Value}{Q:Value→Shared→Prop} (hh:A.handled=none) (hit:Fed b s.heap it t i) (ht:Bas b s.heap t items) (hx:items[i]?=none)
  (hE:∀ h' e,Heap.ExtBut it s.heap h'→(∃ o,h'.get? e=some o∧o.cls=.type "StopIteration")→E (.ref e) { s with heap:=h' }):wpAny (model prog w) A (Builtin.SmallTypes.nextOf (.ref it)) Q E s:=by
 cases b
 ·exact wpAny_nextOf_list_end hh (show s.heap.IsListIter it t i from hit) (show s.heap.IsList t items from ht) hx hE
 ·exact pK hh (show s.heap.IsTupleIter it t i from hit) (show s.heap.IsTuple t items from ht) hx hE
end
end L2
namespace L2
open PySem PySem.Spec PyProof.Rows
def jg (xs:Array Value):Obj:={ cls:=.type "tuple",data:=.seq xs }
def Feeds (h:Heap) (ss:List (Bool×Addr)) (is:List Addr) (k j:Nat):Prop:=∀ (i:Nat) (q:Bool×Addr) (it:Addr),ss[i]?=some q→is[i]?=some it→Fed q.1 h it q.2 (if i<j then k+1 else k)
def Bases (h:Heap) (ss:List (Bool×Addr)) (xss:List (Array Value)):Prop:=∀ (i:Nat) (q:Bool×Addr) (xs:Array Value),ss[i]?=some q→xss[i]?=some xs→Bas q.1 h q.2 xs
def Keeps (z TO:Addr) (is:List Addr) (h h':Heap):Prop:=∀ c o,c≠z→c≠TO→c∉is→h.get? c=some o→h'.get? c=some o
structure ZAp (z TI TO:Addr) (ss:List (Bool×Addr)) (is:List Addr):Prop where
 nd:is.Nodup
 tz:TI≠z
 oz:TO≠z
 to:TI≠TO
 iz:∀ i∈is,i≠z∧i≠TI∧i≠TO
 src:∀ q∈ss,q.2≠z∧q.2≠TO∧q.2∉is
theorem nd_get {is:List Addr} (h:is.Nodup) {i j:Nat}{a b:Addr} (e1:is[i]?=some a) (e2:is[j]?=some b) (ne:i≠j):a≠b:=fun e=>by
 subst e
 obtain ⟨l1,r1⟩:=List.getElem?_eq_some_iff.mp e1
 obtain ⟨l2,r2⟩:=List.getElem?_eq_some_iff.mp e2
 have hp:=List.pairwise_iff_getElem.mp h
 rcases Nat.lt_or_gt_of_ne ne with g | g
 ·exact hp i j l1 l2 g (r1.trans r2.symm)
 ·exact hp j i l2 l1 g (r2.trans r1.symm)
section
variable {prog:Program}{w:World}{A:Around}{E:Value→Shared→Prop}{s:Shared}
theorem oC {z TI TO:Addr}{ss:List (Bool×Addr)}{is:List Addr}{k:Nat}{arr:Array Value}{xss:List (Array Value)}{Q:Value→Shared→Prop} (hh:A.handled=none) (D:ZAp z TI TO ss is)
  (ne:is≠[]) (hn:is.length≤100) (l1:ss.length=is.length) (l2:xss.length=is.length) (l3:arr.size=is.length)
  (hz:IsZip s.heap z TI TO .none) (hTI:s.heap.get? TI=some (jg (is.map Value.ref).toArray)) (hTO:s.heap.get? TO=some (jg arr))
  (hf:Feeds s.heap ss is k 0) (hb:Bases s.heap ss xss)
  (hQ:∀ (h':Heap) (ys:List Value),ys.length=is.length→(∀ (i:Nat) xs y,xss[i]?=some xs→ys[i]?=some y→xs[k]?=some y)→IsZip h' z TI TO (rawInt s.heap.objs.size)→(∃ arr',h'.get? TO=some (jg arr')∧arr'.size=is.length) →
   Feeds h' ss is (k+1) 0→h'.get? s.heap.objs.size=some (jg ys.toArray)→h'.objs.size=s.heap.objs.size+1→Keeps z TO is s.heap h'→Q (.ref s.heap.objs.size) { s with heap:=h' })
  (hE:(∃ (i:Nat) (xs:Array Value),xss[i]?=some xs∧xs[k]?=none)→∀ h' e,Keeps z TO is s.heap h'→(∃ o,h'.get? e=some o∧o.cls=.type "StopIteration")→E (.ref e) { s with heap:=h' }) :
  wpAny (model prog w) A (Builtin.«zip.__next__» ⟨[.ref z],[]⟩) (fun fin s'=>∃ v,fin=.done (.ret v)∧Q v s') E s:=by
 (show wpAny _ _ (field (.ref z) 2 >>= _) _ _ _);refine wpAny_bind (wpAny_field hz rfl (x:=.bool false) rfl ?_)
 (show wpAny _ _ (field (.ref z) 3 >>= _) _ _ _);refine wpAny_bind (wpAny_field hz rfl (x:=.ref TI) rfl (wpAny_bind (wpAny_seqItems hTI rfl ?_)))
 have emp:(is.map Value.ref).toArray.isEmpty=false:=by
  cases is with
  | nil=>exact absurd rfl ne
  | cons a r=>rfl
 simp only [emp,Bool.false_eq_true,if_false]
 refine wpAny_bind ?_
 unfold Builtin.SmallTypes.ownedTupleIsFree
 refine wpAny_bind (wpAny_field hz rfl (x:=.none) rfl (wpAny_pure ?_));simp only [if_true]
 refine wpAny_bind (wpAny_rule ?_);refine wpAny_bind (wpAny_field hz rfl (x:=.ref TO) rfl ?_)
 refine wpAny_bind (wpAny_setField_rec hz (by simp) fun h1 hz1 hs1=>?_)
 have hz1:IsZip h1 z TI TO .ellipsis:=hz1
 refine wpAny_bind ?_
 refine wpAny_forIn_list _ (fun rest r s'=>r.1=none∧∃ (j:Nat) (h:Heap) (ys:List Value) (arr':Array Value),rest=((is.map Value.ref).zipIdx).drop j∧j≤is.length∧s'={ s with heap:=h }∧h.objs.size=s.heap.objs.size∧IsZip h z TI TO .ellipsis ∧
   h.get? TO=some (jg arr')∧arr'.size=is.length∧ys.length=j∧arr'.toList.take j=ys∧(∀ (i:Nat) xs y,xss[i]?=some xs→ys[i]?=some y→xs[k]?=some y)∧Feeds h ss is k j∧Bases h ss xss∧Keeps z TO is s.heap h) _ ?_ ?_ _ _ ⟨rfl,0,h1,[],arr,by rw [List.drop_zero],Nat.zero_le _,rfl,hs1.1,hz1,hs1.extBut _ _ D.oz hTO,l3,rfl,rfl,(fun i xs y _ e=>by simp at e),?_,?_,?_⟩
 ·rintro x rest r s' ⟨hr,j,h,ys,arr',er,hj,es,sz,hz',hTO',la,ly,ty,vy,fe,ba,kp⟩
  subst es
  have hxj:((is.map Value.ref).zipIdx)[j]?=some x:=by
   have:=congrArg (fun l=>l[0]?) er
   simpa using this.symm
  have hrest:rest=((is.map Value.ref).zipIdx).drop (j+1):=by
   have:=congrArg List.tail er
   simpa using this
  have hjl:j<is.length:=by
   have:=(List.getElem?_eq_some_iff.mp hxj).1
   simpa using this
  obtain ⟨it,hit⟩:∃ it,is[j]?=some it:=⟨_,List.getElem?_eq_getElem hjl⟩
  obtain ⟨q,hq⟩:∃ q,ss[j]?=some q:=⟨_,List.getElem?_eq_getElem (by omega)⟩
  obtain ⟨xs,hxs⟩:∃ xs,xss[j]?=some xs:=⟨_,List.getElem?_eq_getElem (by omega)⟩
  have hx:x=(Value.ref it,j):=by
   rw [List.getElem?_zipIdx,List.getElem?_map,hit] at hxj
   simpa using hxj.symm
  subst hx
  have hm:it∈is:=List.mem_of_getElem? hit
  have hF:=fe j q it hq hit
  rw [if_neg (Nat.lt_irrefl j)] at hF
  have hB:=ba j q xs hq hxs
  dsimp only
  refine wpAny_bind (wpAny_onRaise ?_)
  (show wpAny _ _ (Builtin.SmallTypes.nextOf (.ref it) >>= _) _ _ _);refine wpAny_bind ?_
  cases hv:xs[k]? with
  | none =>
   refine next_end hh hF hB hv fun h2 e hs2 he=>?_
   obtain ⟨oe,hoe,hce⟩:=he
   have z2:IsZip h2 z TI TO .ellipsis:=hs2 _ _ (D.iz it hm).1.symm hz'
   have hez:e≠z:=fun x=>by subst x;rw [z2] at hoe;cases hoe;simp at hce
   refine wpAny_setField_rec z2 (by simp) fun h3 _ hs3=>hE ⟨j,xs,hxs,hv⟩ h3 e (fun c o c1 c2 c3 x=>hs3.extBut _ _ c1 (hs2 _ _ (fun z=>c3 (by rw [z];exact hm)) (kp c o c1 c2 c3 x))) ⟨oe,hs3.extBut _ _ hez hoe,hce⟩
  | some y =>
   refine pJ hF hB hv fun h2 f2 hs2=>wpAny_pure ?_
   have t2:h2.get? TO=some (jg arr'):=hs2.extBut _ _ (D.iz it hm).2.2.symm hTO'
   refine wpAny_bind (wpAny_seqItems t2 rfl ?_)
   refine wpAny_bind (wpAny_updateSeq t2 rfl ?_ (by rw [la];exact Veil.small (by omega)) (by rw [Array.size_setIfInBounds,la];exact Nat.le_succ_of_le (Veil.small (by omega))))
   have hs3:Heap.SameBut TO h2 (h2.update TO (Obj.mapSeq fun x_2=>x_2.setIfInBounds j y)):=Heap.SameBut.update ..
   have t3:(h2.update TO (Obj.mapSeq fun x_2=>x_2.setIfInBounds j y)).get? TO=some (jg (arr'.setIfInBounds j y)):=by
    rw [Heap.get?_update_self _ t2 rfl]
    simp [Obj.mapSeq,jg]
   generalize h2.update TO (Obj.mapSeq fun x_2=>x_2.setIfInBounds j y)=h3 at hs3 t3
   refine wpAny_bind (wpAny_letGo (wpAny_pure ⟨rfl,j+1,h3,ys++[y],arr'.setIfInBounds j y,hrest,hjl,rfl,?_,?_,t3,?_,?_,?_,?_,?_,?_,?_⟩))
   ·rw [hs3.1,hs2.1,sz]
   ·exact hs3.extBut _ _ D.oz.symm (hs2.extBut _ _ (D.iz it hm).1.symm hz')
   ·rw [Array.size_setIfInBounds,la]
   ·rw [List.length_append,ly];rfl
   ·rw [Array.toList_setIfInBounds,List.take_add_one,List.take_set_of_le (Nat.le_refl j),ty,List.getElem?_set_self (by rw [Array.length_toList,la];exact hjl)]
    rfl
   ·intro i xs' y' h1 h2
    rcases Nat.lt_trichotomy i j with g | g | g
    ·rw [List.getElem?_append_left (by omega)] at h2
     exact vy i xs' y' h1 h2
    ·subst g
     rw [← ly,List.getElem?_concat_length] at h2
     rw [hxs] at h1
     cases h1
     cases h2
     exact hv
    ·rw [List.getElem?_eq_none (by rw [List.length_append,ly];simp;omega)] at h2
     cases h2
   ·intro i q' it' h1 h2
    by_cases g:i=j
    ·subst g
     rw [hq] at h1
     rw [hit] at h2
     cases h1
     cases h2
     rw [if_pos (Nat.lt_succ_self i)]
     exact f2.ext hs3.extBut (D.iz it hm).2.2
    ·have:=fe i q' it' h1 h2
     rw [show (if i<j+1 then k+1 else k)=(if i<j then k+1 else k) by
      by_cases g2:i<j
      ·rw [if_pos g2,if_pos (by omega)]
      ·rw [if_neg g2,if_neg (by omega)]]
     exact (this.ext hs2.extBut (nd_get D.nd h2 hit g)).ext hs3.extBut (D.iz it' (List.mem_of_getElem? h2)).2.2
   ·intro i q' xs' h1 h2
    have hs':=D.src q' (List.mem_of_getElem? h1)
    exact ((ba i q' xs' h1 h2).ext hs2.extBut (fun z=>hs'.2.2 (by rw [z];exact hm))).ext hs3.extBut hs'.2.1
   ·exact fun c o c1 c2 c3 e=>hs3.extBut _ _ c2 (hs2.extBut _ _ (fun z=>c3 (by rw [z];exact hm)) (kp c o c1 c2 c3 e))
 ·rintro r s' ⟨hr,j,h,ys,arr',er,hj,es,sz,hz',hTO',la,ly,ty,vy,fe,ba,kp⟩
  subst es
  have hjl:j=is.length:=by
   have:=congrArg List.length er
   simp at this
   omega
  have ea:arr'.toList=ys:=by
   rw [← ty,List.take_of_length_le (by rw [Array.length_toList,la];omega)]
  obtain ⟨r1,r2⟩:=r
  cases (show r1=none from hr)
  dsimp only
  refine wpAny_bind (wpAny_seqItems hTO' rfl ?_)
  refine wpAny_bind (wpAny_newTuple ?_ (by rw [Array.length_toList,la];exact Veil.small (by omega)))
  have hzlt:z<h.objs.size:=Heap.lt_size hz'
  (show wpAny _ _ (Builtin.SmallTypes.ownedTupleHandOut (.ref z) (.ref h.objs.size) >>= _) _ _ _);refine wpAny_bind ?_
  unfold Builtin.SmallTypes.ownedTupleHandOut
  have z6:IsZip (h.push (jg arr'.toList.toArray)) z TI TO .ellipsis:=Heap.get?_push_of_some _ hz'
  refine wpAny_bind (wpAny_setField_rec z6 (by simp) fun h7 z7 s7=>?_)
  have z7:IsZip h7 z TI TO (rawInt h.objs.size):=z7
  refine wpAny_setField_rec z7 (by simp) fun h8 z8 s8=>?_
  have z8:IsZip h8 z TI TO (rawInt h.objs.size):=z8
  have up:∀ c o,c≠z→h.get? c=some o→h8.get? c=some o:=fun c o c1 e=>s8.extBut _ _ c1 (s7.extBut _ _ c1 (Heap.get?_push_of_some _ e))
  have t8:h8.get? h.objs.size=some (jg ys.toArray):=by
   rw [← ea]
   exact s8.extBut _ _ (Nat.ne_of_gt hzlt) (s7.extBut _ _ (Nat.ne_of_gt hzlt) (Heap.get?_push_size _ rfl))
  have n8:h8.objs.size=h.objs.size+1:=by rw [s8.1,s7.1,Heap.size_push]
  rw [sz] at z8 t8 n8
  refine wpAny_pure ⟨_,rfl,?_⟩
  show Q (.ref h.objs.size) _
  rw [sz]
  refine hQ h8 ys (by omega) vy z8 ⟨arr',up _ _ D.oz hTO',la⟩ ?_ t8 n8 fun c o c1 c2 c3 e=>up c o c1 (kp c o c1 c2 c3 e)
  intro i q it h1 h2
  have:=fe i q it h1 h2
  rw [if_pos (by rw [hjl];exact (List.getElem?_eq_some_iff.mp h2).1)] at this
  rw [if_neg (Nat.not_lt_zero i)]
  obtain ⟨o,eo,_,kk⟩:=this.obj
  exact kk h8 (up _ _ (D.iz it (List.mem_of_getElem? h2)).1 eo)
 ·intro i q it h1' h2'
  exact (hf i q it h1' h2').ext hs1.extBut (D.iz it (List.mem_of_getElem? h2')).1
 ·intro i q xs h1' h2'
  exact (hb i q xs h1' h2').ext hs1.extBut (D.src q (List.mem_of_getElem? h1')).1
 ·exact fun c o c1 c2 c3 e=>hs1.extBut _ _ c1 e
end
end L2
namespace L2
open PySem PySem.Spec PyProof.Rows
def SqS (K:PySem.W.Frag) (H:Hp) (q:Bool×Addr) (xs:List V):Prop:=if q.1=true then SqT K H q.2 xs else SqL K H q.2 xs
def Itn (K:PySem.W.Frag) (ss:List (Bool×Addr)):It :=
  ⟨fun i H=>∃ xss ys,Paired (SqS K H) ss xss∧Paired (fun (xs:List V) y=>xs[i]?=some y) xss ys,
   fun i H v H'=>∃ p,H p=none∧v=.ref p∧∀ xss ys,Paired (SqS K H) ss xss→Paired (fun (xs:List V) y=>xs[i]?=some y) xss ys→H'=upd H p (.tup ys),
   fun i H=>∃ xss,Paired (SqS K H) ss xss∧∃ xs∈xss,xs.length≤i⟩
section
variable {X:Cx}{pins:List (Addr×Obj)}{σ:St}{H:Hp}{s:Shared}
theorem Inv.sqs (I:Inv X pins σ H s) {q:Bool×Addr}{xs:List V} (h:SqS X.K H q xs):∃ its:List Value,Vals xs its∧Bas q.1 s.heap q.2 its.toArray∧xs.length≤sizeLine:=by
 obtain ⟨b,a⟩:=q
 cases b
 ·obtain ⟨its,r,p,z⟩:=I.list (show SqL X.K H a xs from h)
  exact ⟨its,r,p.isList,z⟩
 ·obtain ⟨its,r,p,z⟩:=I.tuple (show SqT X.K H a xs from h)
  exact ⟨its,r,p,z⟩
theorem Inv.sqs_inj (I:Inv X pins σ H s) {q:Bool×Addr}{xs ys:List V} (h:SqS X.K H q xs) (h':SqS X.K H q ys):xs=ys:=by
 obtain ⟨b,a⟩:=q
 cases b
 ·exact I.list_inj (show SqL X.K H a xs from h) h'
 ·obtain ⟨its,r,⟨o,e,_,n,d⟩,_⟩:=I.tuple (show SqT X.K H a xs from h)
  obtain ⟨its',r',⟨o',e',_,n',d'⟩,_⟩:=I.tuple (show SqT X.K H a ys from h')
  rw [e] at e'
  cases e'
  rw [d] at d'
  injection d' with d' _
  have:its=its':=by simpa using d'
  rw [← this] at r'
  exact r.inj r'
theorem ci {α β:Type}{R:α→β→Prop}{a:List α}{b:List β} (h:Paired R a b) {i:Nat}{x:α}{y:β} (ex:a[i]?=some x) (ey:b[i]?=some y):R x y:=by
 induction h generalizing i with
 | nil=>simp at ex
 | cons r t ih =>
  cases i with
  | zero =>
   simp at ex ey
   rw [← ex,← ey]
   exact r
  | succ j=>exact ih (by simpa using ex) (by simpa using ey)
theorem Inv.srcs (I:Inv X pins σ H s):∀ {ss:List (Bool×Addr)}{xss:List (List V)},Paired (SqS X.K H) ss xss→∃ vss:List (List Value),Paired Vals xss vss∧Bases s.heap ss (vss.map List.toArray)
 | _,_,.nil=>⟨[],.nil,fun i q xs e _=>by simp at e⟩
 | _,_,.cons h t=>by
  obtain ⟨its,r,b,_⟩:=I.sqs h
  obtain ⟨vss,p,bs⟩:=Inv.srcs I t
  refine ⟨its::vss,.cons r p,fun i q xs e1 e2=>?_⟩
  cases i with
  | zero =>
   simp at e1 e2
   rw [← e1,← e2]
   exact b
  | succ j=>exact bs j q xs (by simpa using e1) (by simpa using e2)
end
theorem ik {α β:Type}{R:α→β→Prop}:∀ {a:List α}{b:List β},a.length=b.length→(∀ (i:Nat) x y,a[i]?=some x→b[i]?=some y→R x y)→Paired R a b
 | [],[],_,_=>.nil
 | x::a,y::b,hl,h=>.cons (h 0 x y rfl rfl) (ik (by simpa using hl) fun i u v e1 e2=>h (i+1) u v (by simpa using e1) (by simpa using e2))
 | [],_::_,hl,_=>by simp at hl
 | _::_,[],hl,_=>by simp at hl
theorem turn_zn {P:Program}{w:World}{K:PySem.W.Frag}{elts:List Expr}{k1:Nat}{tp:Pos} (z TI TO:Addr) (ss:List (Bool×Addr)) (is:List Addr) (D:ZAp z TI TO ss is) (ne:is≠[]) (hn:is.length≤100) (l1:ss.length=is.length) :
  Turn P w K (.Tuple elts k1 tp) (Itn K ss) (z::TI::TO::is) z (fun i h=>IsZip h z TI TO .none∧h.get? TI=some (jg (is.map Value.ref).toArray)∧(∃ arr,h.get? TO=some (jg arr)∧arr.size=is.length)∧Feeds h ss is i 0) where
 mem:=by simp
 obj:=fun i h st c hb=>by
  obtain ⟨s1,s2,⟨arr,s3,_⟩,s4⟩:=st
  rcases List.mem_cons.mp hb with r | hb
  ·exact ⟨_,by rw [r];exact s1,fun v z=>by cases z⟩
  rcases List.mem_cons.mp hb with r | hb
  ·exact ⟨_,by rw [r];exact s2,fun v z=>by cases z⟩
  rcases List.mem_cons.mp hb with r | hb
  ·exact ⟨_,by rw [r];exact s3,fun v z=>by cases z⟩
  obtain ⟨j,hj⟩:=List.getElem?_of_mem hb
  obtain ⟨q,hq⟩:∃ q,ss[j]?=some q:=⟨_,List.getElem?_eq_getElem (by rw [l1];exact (List.getElem?_eq_some_iff.mp hj).1)⟩
  obtain ⟨o,eo,⟨vs,ed⟩,_⟩:=(s4 j q c hq hj).obj
  exact ⟨o,eo,fun v z=>by rw [ed] at z;cases z⟩
 keep:=fun i h h' st k=>by
  obtain ⟨s1,s2,⟨arr,s3,s3'⟩,s4⟩:=st
  refine ⟨k z (by simp) _ s1,k TI (by simp) _ s2,⟨arr,k TO (by simp) _ s3,s3'⟩,fun j q it e1 e2=>?_⟩
  obtain ⟨o,eo,_,kk⟩:=(s4 j q it e1 e2).obj
  exact kk h' (k it (by simp [List.mem_of_getElem? e2]) o eo)
 item:=by
  intro X hP hw hK hc i pins s σ H E I hf st hg
  subst hP hw hK
  obtain ⟨xss,ys,hs,hy⟩:=hg
  obtain ⟨s1,s2,⟨arr,s3,s3'⟩,s4⟩:=st
  obtain ⟨vss,pv,bs⟩:=I.srcs hs
  have lx:xss.length=is.length:=by rw [← l1];exact (Paired.length hs).symm
  have lv:vss.length=is.length:=by rw [← lx];exact (Paired.length pv).symm
  have ly:ys.length=is.length:=by rw [← lx];exact (Paired.length hy).symm
  have hT:s.TypeIs (.ref z) "zip":=⟨_,s1,rfl⟩
  have lt:∀ {c:Addr}{o:Obj},s.heap.get? c=some o→s.heap.objs.size≠c:=fun e=>Nat.ne_of_gt (Heap.lt_size e)
  unfold pyNext
  refine wpAny_bind (wpAny_attempt (wpAny_callSpecial?_slot (name:=Str.ofString "__next__") hT F.slot_zip_next (wpAny_call_entry F.slot_zip_next hT F.entry_zip_next ?_ (F.args_zip_next_1 _))))
  refine oC (I.ok.hd hc) D ne hn l1 (by rw [List.length_map];exact lv) s3' s1 s2 s3 s4 bs (fun h' us lu hu a1 a2 a3 a4 a5 a7=>wpAny_pure ?_) (fun ⟨j,xs,e1,e2⟩=>?_)
  ·refine ⟨_,rfl,?_⟩
   refine wpAny_letOwnedTupleGo_zip (s:={ s with heap:=h' }) a1 fun h2 hz2 hs2=>?_
   have kk:∀ c o,c∉z::TO::is→s.heap.get? c=some o→h2.get? c=some o:=fun c o hm e=>by
    simp only [List.mem_cons,not_or] at hm
    exact (hs2.2 c hm.1).trans (a7 c o hm.1 hm.2.1 hm.2.2 e)
   have pT:h2.get? s.heap.objs.size=some (jg us.toArray):=(hs2.2 _ (lt s1)).trans a4
   have vals:Vals ys us:=ik (by omega) fun j y u e1 e2=>by
    have hj:j<is.length:=by rw [← lu];exact (List.getElem?_eq_some_iff.mp e2).1
    obtain ⟨xs,hx⟩:∃ xs,xss[j]?=some xs:=⟨_,List.getElem?_eq_getElem (by omega)⟩
    obtain ⟨vs,hv⟩:∃ vs,vss[j]?=some vs:=⟨_,List.getElem?_eq_getElem (by omega)⟩
    have r:=ci pv hx hv
    have r1:xs[i]?=some y:=ci hy hx e1
    have r2:=hu j vs.toArray u (by rw [List.getElem?_map,hv];rfl) e2
    obtain ⟨u',hu',ru⟩:=r.get r1
    have:u'=u:=by
     rw [List.getElem?_toArray,hu'] at r2
     exact Option.some.inj r2
    rw [← this]
    exact ru
   have I2:Inv X pins σ (upd H s.heap.objs.size (.tup ys)) { s with heap:=h2 }:=I.turnedN (t':=s.toks) (ch:=z::TO::is) (p:=s.heap.objs.size) (o:=.tup ys) (fun c hm=>hf c (by
    simp only [List.mem_cons] at hm ⊢
    rcases hm with r | r | r
    ·exact .inl r
    ·exact .inr (.inr (.inl r))
    ·exact .inr (.inr (.inr r)))) kk (Nat.le_refl _) ⟨Veil.small (by omega),us,vals,⟨_,pT,rfl,_,rfl⟩⟩
   have fr:H s.heap.objs.size=none:=I.fresh
   refine ⟨.ref s.heap.objs.size,_,I2,rfl,⟨_,fr,rfl,fun xss' ys' q1 q2=>?_⟩,⟨hz2,?_,?_,?_⟩,fun c hm=>?_⟩
   ·have ex:xss'=xss:=List.ext_getElem? fun j=>by
     by_cases hj:j<is.length
     ·obtain ⟨q,hq⟩:∃ q,ss[j]?=some q:=⟨_,List.getElem?_eq_getElem (by omega)⟩
      obtain ⟨xs,hx⟩:∃ xs,xss[j]?=some xs:=⟨_,List.getElem?_eq_getElem (by omega)⟩
      obtain ⟨xs',hx'⟩:∃ xs,xss'[j]?=some xs:=⟨_,List.getElem?_eq_getElem (by rw [← Paired.length q1];omega)⟩
      rw [hx,hx',I.sqs_inj (ci q1 hq hx') (ci hs hq hx)]
     ·rw [List.getElem?_eq_none (by rw [← Paired.length q1];omega),List.getElem?_eq_none (by omega)]
    subst ex
    have ey:ys'=ys:=List.ext_getElem? fun j=>by
     by_cases hj:j<is.length
     ·obtain ⟨xs,hx⟩:∃ xs,xss'[j]?=some xs:=⟨_,List.getElem?_eq_getElem (by omega)⟩
      obtain ⟨y,h1⟩:∃ y,ys[j]?=some y:=⟨_,List.getElem?_eq_getElem (by omega)⟩
      obtain ⟨y',h2⟩:∃ y,ys'[j]?=some y:=⟨_,List.getElem?_eq_getElem (by rw [← Paired.length q2];omega)⟩
      have r1:xs[i]?=some y:=ci hy hx h1
      have r2:xs[i]?=some y':=ci q2 hx h2
      rw [h1,h2,← r1,← r2]
     ·rw [List.getElem?_eq_none (by rw [← Paired.length q2];omega),List.getElem?_eq_none (by omega)]
    rw [ey]
   ·exact kk TI _ (by
     simp only [List.mem_cons,not_or]
     exact ⟨D.tz,D.to,fun h=>(D.iz TI h).2.1 rfl⟩) s2
   ·obtain ⟨arr',e,ea⟩:=a2
    exact ⟨arr',(hs2.2 TO D.oz).trans e,ea⟩
   ·intro j q it e1 e2
    obtain ⟨o,eo,_,kk'⟩:=(a3 j q it e1 e2).obj
    exact kk' h2 ((hs2.2 it (D.iz it (List.mem_of_getElem? e2)).1).trans eo)
   ·have hne:c≠s.heap.objs.size:=by
     rcases List.mem_cons.mp hm with r | hb
     ·rw [r];exact (lt s1).symm
     rcases List.mem_cons.mp hb with r | hb
     ·rw [r];exact (lt s2).symm
     rcases List.mem_cons.mp hb with r | hb
     ·rw [r];exact (lt s3).symm
     obtain ⟨j,hj⟩:=List.getElem?_of_mem hb
     obtain ⟨q,hq⟩:∃ q,ss[j]?=some q:=⟨_,List.getElem?_eq_getElem (by rw [l1];exact (List.getElem?_eq_some_iff.mp hj).1)⟩
     obtain ⟨o,eo,_⟩:=(s4 j q c hq hj).obj
     exact (lt eo).symm
    rw [ar hne]
    exact (hf c hm).1
  ·exfalso
   rw [List.getElem?_map] at e1
   cases hv:vss[j]? with
   | none=>rw [hv] at e1;cases e1
   | some vs =>
    rw [hv] at e1
    cases e1
    have hj:j<is.length:=by rw [← lv];exact (List.getElem?_eq_some_iff.mp hv).1
    obtain ⟨xs,hx⟩:∃ xs,xss[j]?=some xs:=⟨_,List.getElem?_eq_getElem (by omega)⟩
    obtain ⟨y,h1⟩:∃ y,ys[j]?=some y:=⟨_,List.getElem?_eq_getElem (by omega)⟩
    obtain ⟨u',hu',_⟩:=(ci pv hx hv).get (ci hy hx h1:xs[i]?=some y)
    rw [List.getElem?_toArray,hu'] at e2
    cases e2
 done:=by
  intro X hP hw hK hc i pins s σ H E I hf st hg
  subst hP hw hK
  obtain ⟨xss,hs,xs,hxm,hend⟩:=hg
  obtain ⟨s1,s2,⟨arr,s3,s3'⟩,s4⟩:=st
  obtain ⟨vss,pv,bs⟩:=I.srcs hs
  have lx:xss.length=is.length:=by rw [← l1];exact (Paired.length hs).symm
  have lv:vss.length=is.length:=by rw [← lx];exact (Paired.length pv).symm
  have hT:s.TypeIs (.ref z) "zip":=⟨_,s1,rfl⟩
  obtain ⟨j,hx⟩:=List.getElem?_of_mem hxm
  have hj:j<is.length:=by rw [← lx];exact (List.getElem?_eq_some_iff.mp hx).1
  obtain ⟨vs,hv⟩:∃ vs,vss[j]?=some vs:=⟨_,List.getElem?_eq_getElem (by omega)⟩
  have lvs:=(ci pv hx hv).length
  have no:vs.toArray[i]?=none:=Array.getElem?_eq_none (by rw [List.size_toArray];omega)
  have hjv:(vss.map List.toArray)[j]?=some vs.toArray:=by rw [List.getElem?_map,hv];rfl
  unfold pyNext
  refine wpAny_bind (wpAny_attempt (wpAny_callSpecial?_slot (name:=Str.ofString "__next__") hT F.slot_zip_next (wpAny_call_entry F.slot_zip_next hT F.entry_zip_next ?_ (F.args_zip_next_1 _))))
  refine oC (I.ok.hd hc) D ne hn l1 (by rw [List.length_map];exact lv) s3' s1 s2 s3 s4 bs (fun h' us lu hu _ _ _ _ _ _=>?_) (fun _ h' e kp he=>?_)
  ·exfalso
   obtain ⟨u,h1⟩:∃ u,us[j]?=some u:=⟨_,List.getElem?_eq_getElem (by omega)⟩
   have:=hu j _ u hjv h1
   rw [no] at this
   cases this
  ·obtain ⟨o,ho,hcl⟩:=he
   refine wpAny_bind (wpAny_isInstance (T:="StopIteration") (b:=true) ⟨o,ho,hcl⟩ isSubtype_stop (wpAny_pure ⟨rfl,?_⟩))
   exact I.turnedK (t':=s.toks) (ch:=z::TO::is) (fun c hm=>hf c (by
    simp only [List.mem_cons] at hm ⊢
    rcases hm with r | r | r
    ·exact .inl r
    ·exact .inr (.inr (.inl r))
    ·exact .inr (.inr (.inr r)))) fun c o hm e=>by
     simp only [List.mem_cons,not_or] at hm
     exact kp c o hm.1 hm.2.1 hm.2.2 e
 self:=fun _ _ _ _ _ st h=>wpAny_pyIter_zip st.1 h
end L2
namespace L2
open PySem PySem.Spec PyProof.Rows
def itT (l:Addr):Obj:={ cls:=.type "tuple_iterator",data:=.fields #[.ref l,.int 0 0] }
def zipO (n m:Addr):Obj:={ cls:=.type "zip",data:=.fields #[.none,.bool false,.bool false,.ref n,.ref m] }
def zT5 (h:Heap) (l1 l2:Addr):Heap:=((((h.push (itT l1)).push (itT l2)).push (jg #[.ref h.objs.size,.ref (h.objs.size+1)])).push (jg #[.none,.none])).push (zipO (h.objs.size+2) (h.objs.size+3))
theorem nN (l1 l2:Addr) (xs ys:Array Value):Meets (Builtin.«zip.__new__» ⟨[.type "zip",.ref l1,.ref l2],[]⟩) (fun _ R s=>s.heap.IsTuple l1 xs∧s.heap.IsTuple l2 ys∧R (.ok (.ret (.ref (s.heap.objs.size+4)))) { s with heap:=zT5 s.heap l1 l2 }) :=
 .of_wp fun prog w A R s h=>by
  obtain ⟨hp,g,d,tk,os⟩:=s
  obtain ⟨e1,e2,h⟩:=h
  have hsub:=sub_zip
  have a1:Heap.IsTuple (Shared.heap ⟨hp,g,d,tk,os⟩) l1 xs:=e1
  have a2:Heap.IsTuple (Shared.heap ⟨hp.push { cls:=.type "tuple_iterator",data:=.fields #[.ref l1,.int 0 0] },g,d,tk,os⟩) l2 ys:=Heap.IsTuple.push e2 _
  wp_walk using wpAny_pyIter_tuple a1,wpAny_pyIter_tuple a2
  refine ⟨_,rfl,?_⟩
  simp only [Heap.size_push]
  exact h
theorem zap2 (N l1 l2:Nat) (b:Bool) (h1:l1<N) (h2:l2<N):ZAp (N+4) (N+2) (N+3) [(b,l1),(b,l2)] [N,N+1]:=by
 refine ⟨?_,(show (N+2:Nat)≠N+4 by omega),(show (N+3:Nat)≠N+4 by omega),(show (N+2:Nat)≠N+3 by omega),?_,?_⟩
 ·exact List.nodup_cons.mpr ⟨fun h=>(show ¬ (N:Nat)=N+1 by omega) (List.mem_singleton.mp h),(by simp)⟩
 ·intro i hi
  simp only [List.mem_cons,List.not_mem_nil,or_false] at hi
  rcases hi with r | r
  ·rw [r]
   exact ⟨(show (N:Nat)≠N+4 by omega),(show (N:Nat)≠N+2 by omega),(show (N:Nat)≠N+3 by omega)⟩
  ·rw [r]
   exact ⟨(show (N+1:Nat)≠N+4 by omega),(show (N+1:Nat)≠N+2 by omega),(show (N+1:Nat)≠N+3 by omega)⟩
 ·have lo:∀ l:Nat,l<N→(l:Addr)≠N+4∧(l:Addr)≠N+3∧(l:Addr)∉[N,N+1]:=fun l h=>⟨(show (l:Nat)≠N+4 by omega),(show (l:Nat)≠N+3 by omega),fun z=>by
   rcases List.mem_cons.mp z with z | z
   ·exact (show ¬ (l:Nat)=N by omega) z
   ·exact (show ¬ (l:Nat)=N+1 by omega) (List.mem_singleton.mp z)⟩
  intro q hq
  simp only [List.mem_cons,List.not_mem_nil,or_false] at hq
  rcases hq with r | r
  ·rw [r];exact lo l1 h1
  ·rw [r];exact lo l2 h2
section
variable {X:Cx}
def iZipT (K:PySem.W.Frag) (ta:TA):TI:=fun σ H R=>ta σ H fun vs H1=>∃ a b xs ys,vs=[.ref a,.ref b]∧SqT K H1 a xs∧SqT K H1 b ys∧R (Itn K [(true,a),(true,b)]) H1
theorem pi_zipT {elts:List Expr}{k1:Nat}{tp:Pos}{a b:Expr}{ta:TA}{p pos:Pos} (hg:Gl X "zip") (hm:X.mg "zip"=none) (ha:PA X [a,b] ta)
  (hs:starEach [a,b] X.env=[(false,eval a X.env),(false,eval b X.env)]:=by rfl) (hs2:starEach [b] X.env=[(false,eval b X.env)]:=by rfl):PI X (.Tuple elts k1 tp) (.Call (.Name "zip" p) [a,b] [] pos) (iZipT X.K ta):=by
 intro pins s σ H R I h
 refine Call_ (eF I hg hm boot_zip (PyProof.Rows.callWith_type1 (thn (ha pos pins s σ H _ I h) fun us s1 ⟨vs,H1,I1,r1,q1⟩=>?_) (by rw [hs,hs2]) (by rw [hs2];rfl)))
 obtain ⟨l1,l2,xs,ys,e,hq1,hq2,q⟩:=q1
 subst e
 obtain ⟨u1,u2,rfl,ru1,ru2⟩:=r1.two
 cases ru1
 cases ru2
 obtain ⟨its1,rv1,p1,z1⟩:=I1.tuple hq1
 obtain ⟨its2,rv2,p2,z2⟩:=I1.tuple hq2
 refine callType_new F.called_zip (by decide) (F.typeCall_zip_2 _ _) (F.newCall_zip_2 _ _) (fun obj=>F.args_object_init_3 obj _ _) F.entry_zip_new (nN l1 l2 _ _) ⟨p1,p2,?_⟩
 have lt1:l1<s1.heap.objs.size:=by obtain ⟨o,e,_⟩:=p1;exact Heap.lt_size e
 have lt2:l2<s1.heap.objs.size:=by obtain ⟨o,e,_⟩:=p2;exact Heap.lt_size e
 have g0:(zT5 s1.heap l1 l2).get? s1.heap.objs.size=some (itT l1):=Heap.get?_push_of_some _ (Heap.get?_push_of_some _ (Heap.get?_push_of_some _ (Heap.get?_push_of_some _ (Heap.get?_push_size _ rfl))))
 have g1:(zT5 s1.heap l1 l2).get? (s1.heap.objs.size+1)=some (itT l2):=by
  have e:s1.heap.objs.size+1=(s1.heap.push (itT l1)).objs.size:=(Heap.size_push ..).symm
  rw [e]
  exact Heap.get?_push_of_some _ (Heap.get?_push_of_some _ (Heap.get?_push_of_some _ (Heap.get?_push_size _ rfl)))
 have g2:(zT5 s1.heap l1 l2).get? (s1.heap.objs.size+2)=some (jg #[.ref s1.heap.objs.size,.ref (s1.heap.objs.size+1)]):=by
  have e:s1.heap.objs.size+2=((s1.heap.push (itT l1)).push (itT l2)).objs.size:=by rw [Heap.size_push,Heap.size_push]
  rw [e]
  exact Heap.get?_push_of_some _ (Heap.get?_push_of_some _ (Heap.get?_push_size _ rfl))
 have g3:(zT5 s1.heap l1 l2).get? (s1.heap.objs.size+3)=some (jg #[.none,.none]):=by
  have e:s1.heap.objs.size+3=(((s1.heap.push (itT l1)).push (itT l2)).push (jg #[.ref s1.heap.objs.size,.ref (s1.heap.objs.size+1)])).objs.size:=by rw [Heap.size_push,Heap.size_push,Heap.size_push]
  rw [e]
  exact Heap.get?_push_of_some _ (Heap.get?_push_size _ rfl)
 have g4:(zT5 s1.heap l1 l2).get? (s1.heap.objs.size+4)=some (zipO (s1.heap.objs.size+2) (s1.heap.objs.size+3)):=by
  have e:s1.heap.objs.size+4=((((s1.heap.push (itT l1)).push (itT l2)).push (jg #[.ref s1.heap.objs.size,.ref (s1.heap.objs.size+1)])).push (jg #[.none,.none])).objs.size:=by rw [Heap.size_push,Heap.size_push,Heap.size_push,Heap.size_push]
  rw [e]
  exact Heap.get?_push_size _ rfl
 have kp:∀ c o,s1.heap.get? c=some o→(zT5 s1.heap l1 l2).get? c=some o:=fun c o e=>Heap.get?_push_of_some _ (Heap.get?_push_of_some _ (Heap.get?_push_of_some _ (Heap.get?_push_of_some _ (Heap.get?_push_of_some _ e))))
 refine ⟨⟨_,g4,rfl⟩,?_⟩
 refine wpAny_pyIter_zip (s:={ s1 with heap:=zT5 s1.heap l1 l2 }) g4 ?_
 refine ⟨s1.heap.objs.size+4,(s1.heap.objs.size+4)::(s1.heap.objs.size+2)::(s1.heap.objs.size+3)::[s1.heap.objs.size,s1.heap.objs.size+1],_,_,H1,rfl,I1.kept (t':=s1.toks) kp,
  turn_zn (s1.heap.objs.size+4) (s1.heap.objs.size+2) (s1.heap.objs.size+3) [(true,l1),(true,l2)] [s1.heap.objs.size,s1.heap.objs.size+1] (zap2 _ _ _ _ lt1 lt2) (by simp) (by simp) rfl,⟨g4,g2,⟨_,g3,rfl⟩,?_⟩,?_,q⟩
 ·intro i q it e1 e2
  match i,e1,e2 with
  | 0,e1,e2 =>
   cases e1
   cases e2
   exact ⟨_,g0,rfl,rfl⟩
  | 1,e1,e2 =>
   cases e1
   cases e2
   exact ⟨_,g1,rfl,rfl⟩
  | n+2,e1,e2=>simp at e1
 ·refine pY I1 (fun c hc=>I1.hok.fresh hc) fun c hc=>?_
  simp only [List.mem_cons,List.not_mem_nil,or_false] at hc
  rcases hc with r | r | r | r | r<;>rw [r]<;>first | exact Nat.le_refl _ | exact Nat.le_add_right _ _
end
end L2
namespace L2
open PySem PySem.Spec PyProof.Rows
theorem comp_zn {K:PySem.W.Frag}{ss:List (Bool×Addr)}{xss:List (List V)}{n:Nat}{k:Nat}{g:TG}{tt:TT}{te:TE}{tl:St}{D:Addr}{Q:Hp→Prop}{H0:Hp} (Pv:Nat→List V→Hp→Prop) (ne:ss≠[]) (hn:∀ xs∈xss,xs.length=n) (h0:Pv 0 [] (upd H0 D (.lst []))) (hl:∀ i ys H,Pv i ys H→Paired (SqS K H) ss xss)
  (hs:∀ i zs ys H p,Paired (fun (xs:List V) y=>xs[i]?=some y) xss zs→Pv i ys H→H D=some (.lst ys)→H p=none→g (.ref p) (List.replicate k none++tl) (upd H p (.tup zs)) fun σ2 H2=>(σ2.length=k+tl.length∧σ2.drop k=tl) ∧
   tt σ2 H2 fun b H3=>if b=true then te σ2 H3 fun v H4=>H4 D=some (.lst ys)∧ys.length<sizeLine∧Pv (i+1) (ys++[v]) (upd H4 D (.lst (ys++[v]))) else H3 D=some (.lst ys)∧Pv (i+1) ys H3)
  (hd:∀ ys H,Pv n ys H→H D=some (.lst ys)→Q H) :
  ∃ W:Nat→Nat→List V→Hp→Prop,(∃ m,W 0 m [] (upd H0 D (.lst [])))∧gW k (Itn K ss) g tt te tl D Q W:=by
 refine ⟨fun i m ys H=>m=n - i∧i≤n∧Pv i ys H,⟨n,by simp,Nat.zero_le _,h0⟩,?_⟩
 rintro i m ys H ⟨rfl,hi,p⟩ hD
 have q1:=hl i ys H p
 by_cases hlt:i<n
 ·have all:∀ {xss:List (List V)},(∀ xs∈xss,xs.length=n)→∃ zs,Paired (fun (xs:List V) y=>xs[i]?=some y) xss zs:=fun {xss}=>by
   induction xss with
   | nil=>exact fun _=>⟨[],.nil⟩
   | cons xs r ih =>
    intro h
    obtain ⟨zs,hz⟩:=ih fun x hx=>h x (List.mem_cons_of_mem _ hx)
    have:i<xs.length:=by rw [h xs List.mem_cons_self];exact hlt
    exact ⟨xs[i]::zs,.cons (by simp [this]) hz⟩
  obtain ⟨zs,hz⟩:=all hn
  refine .inr ⟨⟨xss,zs,q1,hz⟩,Pv (i+1),fun ys' H' q'=>⟨n - (i+1),by omega,rfl,hlt,q'⟩,fun x H1 y=>?_⟩
  obtain ⟨c,hc,e,y⟩:=y
  have e1:=y xss zs q1 hz
  subst e e1
  exact hs i zs ys H c hz p hD hc
 ·have e:i=n:=by omega
  refine .inl ⟨⟨xss,q1,?_⟩,hd ys H (by rw [← e];exact p) hD⟩
  cases q1 with
  | nil=>exact absurd rfl ne
  | cons r t=>exact ⟨_,List.mem_cons_self,by rw [hn _ List.mem_cons_self];omega⟩
end L2
namespace L2
open PySem PySem.Spec PyProof.Rows
section
variable {X:Cx}
end
end L2
namespace L2
open PySem PySem.Spec PyProof.Rows
def dw (a:Int) (n:Nat):List Int:=(List.range n).map fun i:Nat=>a+(i:Int)
def tLR (ta:TA):TE:=fun σ H Q=>ta σ H fun vs H1=>∃ i j:Int,vs=[.int i,.int j]∧(-(2 ^ 62)≤i∧i<2 ^ 62∧-(2 ^ 62)≤j∧j<2 ^ 62)∧(j - i).toNat≤1000∧∀ l,H1 l=none→Q (.ref l) (upd H1 l (.lst ((dw i (j - i).toNat).map V.int)))
theorem kg {X:Cx}{a b:Expr}{ta:TA}{p p2 pos pos2:Pos} (hc:X.calm=true) (hgL:Gl X "list") (hmL:X.mg "list"=none) (hg:Gl X "range") (hm:X.mg "range"=none) (ha:PA X [a,b] ta)
  (hs:starEach [a,b] X.env=[(false,eval a X.env),(false,eval b X.env)]:=by rfl) (hs2:starEach [b] X.env=[(false,eval b X.env)]:=by rfl)
  (hs3:starEach [.Call (.Name "range" p2) [a,b] [] pos2] X.env=[(false,eval (.Call (.Name "range" p2) [a,b] [] pos2) X.env)]:=by rfl) :
  PE X (.Call (.Name "list" p) [.Call (.Name "range" p2) [a,b] [] pos2] [] pos) (tLR ta):=by
 intro pins s σ H Q I h
 refine wpAny_Call_Name_kw (eF I hgL hmL PyProof.Rows.boot_list ?_)
 refine PyProof.Rows.callWith_type1 ?_ hs3 rfl
 rw [hs3]
 show wpAny _ _ (spliced ((false,eval (.Call (.Name "range" p2) [a,b] [] pos2) X.env)::backTo pos [])) _ _ s
 refine Calls.spliced_cons ?_
 refine Call_ (eF I hg hm boot_range (PyProof.Rows.callWith_type1 (thn (ha pos2 pins s σ H _ I h) fun us s1 ⟨vs,H1,I1,r1,q1⟩=>?_) (by rw [hs,hs2]) (by rw [hs2];rfl)))
 obtain ⟨i,j,e,⟨b1,b2,b3,b4⟩,hl,q⟩:=q1
 subst e
 cases r1 with
 | cons r rr =>
  cases rr with
  | cons r' rr =>
   cases rr
   obtain ⟨t,rfl⟩:=r
   obtain ⟨t',rfl⟩:=r'
   refine call_range_2 ?_
   refine Calls.spliced_nil ?_
   have I2:Inv X pins σ H1 { s1 with heap:=s1.heap.push { cls:=.type "range",data:=.fields #[.int i t,.int j t',.int 1 s1.toks] },toks:=s1.toks+1 }:=I1.kept fun b o e=>Heap.get?_push_of_some _ e
   generalize hs1:({ s1 with heap:=s1.heap.push { cls:=.type "range",data:=.fields #[.int i t,.int j t',.int 1 s1.toks] },toks:=s1.toks+1 }:Shared)=s2 at I2
   have hr:IsRange s2.heap s1.heap.objs.size i j 1 t t' s1.toks:=by rw [← hs1];exact IsRange.new ..
   refine call_list_range (n:=(j - i).toNat) (I2.ok.hd hc) hr (small_one b1 b2 b3 b4) (by rw [rangeSize_one];split<;>omega) (by omega) fun h' tk acc c kp e it=>?_
   refine ⟨.ref s2.heap.objs.size,_,I2.laid (t':=tk) kp (Nat.le_refl _) (show ObjOk X.prog X.w _ h' _ (.lst ((dw i (j - i).toNat).map V.int)) from ⟨?_,acc.toList,c,?_,by simpa using e⟩),rfl,q _ (I2.hok.fresh (Nat.le_refl _))⟩
   ·unfold dw
    rw [List.length_map,List.length_map,List.length_range]
    exact Veil.small (by omega)
   ·refine ik ?_ fun k x u e1 e2=>?_
    ·unfold dw
     rw [List.length_map,List.length_map,List.length_range,Array.length_toList,it.1]
    ·obtain ⟨tt,ht⟩:=it.2 k u (by rw [← e2,Array.getElem?_toList])
     unfold dw at e1
     rw [List.getElem?_map,List.getElem?_map] at e1
     by_cases hk:k<(j - i).toNat
     ·rw [List.getElem?_range hk] at e1
      cases e1
      refine ⟨tt,?_⟩
      rw [ht,Int.mul_one]
     ·rw [List.getElem?_eq_none (by simpa using hk)] at e1
      cases e1
end L2
namespace Veil
open PySem L2
def iW (p v:Int):Bool:=decide (0≤v∧v<p)
inductive ju (C:Addr) (vs:List V) (H:Hp) (Q:VK) (E_:XK):Prop
 | mk (t:Addr) (p n f v:Int) (h0_:vs=[.ref t,.int v]) (h1_:TabAt C H t p n f) (h2_:cA H Q (.bl (iW p v))):ju C vs H Q E_
def lJ (p n pl:Int) (k:Str) (v:Int):Bool:=if k="hand" then decide (1≤v∧v≤n) else if k="number" then iW p v else decide (0≤v∧v<pl)
inductive oW (C:Addr) (vs:List V) (H:Hp) (Q:VK) (E_:XK):Prop
 | mk (t:Addr) (p n f pl v:Int) (k:Str) (h0_:vs=[.ref t,.int pl,.str k,.int v]) (h1_:TabAt C H t p n f) (h2_:cA H Q (.bl (lJ p n pl k v))):oW C vs H Q E_
def Stp.kinds:Stp→List Str
 | .ein _=>["hand"]
 | .fix _=>["number"]
 | .bye _ _=>["step","number"]
 | .sum _ _=>["step","step"]
 | .less _ _=>["step","step"]
 | .mul _ _=>["step","step"]
 | .anew _=>["step"]
 | .opn _=>["step"]
def Stp.args:Stp→List Int
 | .ein h=>[h]
 | .fix x=>[x]
 | .bye a x=>[a,x]
 | .sum a b=>[a,b]
 | .less a b=>[a,b]
 | .mul a b=>[a,b]
 | .anew a=>[a]
 | .opn a=>[a]
theorem Stp.vs_eq (s:Stp):s.vs=.str s.word::s.args.map V.int:=by cases s<;>rfl
theorem Stp.kinds_len (s:Stp):s.kinds.length=s.args.length:=by cases s<;>rfl
theorem Stp.args_len (s:Stp):1≤s.args.length∧s.args.length≤2:=by cases s<;>simp [Stp.args]
def gj (p n pl:Int) (s:Stp):Bool:=(s.kinds.zip s.args).all fun kv=>lJ p n pl kv.1 kv.2
theorem fit_h (p n pl v:Int):lJ p n pl "hand" v=decide (1≤v∧v≤n):=by unfold lJ;rw [if_pos rfl]
theorem fit_n (p n pl v:Int):lJ p n pl "number" v=decide (0≤v∧v<p):=by
 unfold lJ
 rw [if_neg (by decide +kernel),if_pos rfl]
 rfl
theorem fit_s (p n pl v:Int):lJ p n pl "step" v=decide (0≤v∧v<pl):=by
 unfold lJ
 rw [if_neg (by decide +kernel),if_neg (by decide +kernel)]
theorem rightB_iff {p n pl:Int}{s:Stp}:gj p n pl s=true↔s.Right p n pl:=by
 cases s<;>simp only [gj,Stp.kinds,Stp.args,List.zip_cons_cons,List.zip_nil_left,List.zip_nil_right,List.all_cons,List.all_nil,Bool.and_true,fit_h,fit_n,fit_s,Stp.Right,Bool.and_eq_true,decide_eq_true_eq]
structure Frm (P:Program) (w:World) (K:PySem.W.Frag) (mg:Str→Option Value) (fa:Addr) (kvs:List (Key×V)):Prop where
 g:mg "FORMS"=some (.ref fa)
 d:KDict P w K fa kvs
 at_:∀ s:Stp,∃ t,valV kvs (Sum.inr s.word:Key)=some (.ref t)∧∀ H,SqT K H t (s.kinds.map V.str)
inductive eW (C:Addr) (vs:List V) (H:Hp) (Q:VK) (E_:XK):Prop
 | mk (t b:Addr) (p n f pl:Int) (z:Stp) (h0_:vs=[.ref t,.int pl,.ref b]) (h1_:TabAt C H t p n f) (h2_:H b=some (.tup z.vs)) (h3_:cA H Q (.bl (gj p n pl z))):eW C vs H Q E_
def aT (p n:Int) (ss:List Stp):Bool:=decide (1≤ss.length∧ss.length≤24) && (List.range ss.length).all fun i=>gj p n (i:Int) (ss.getD i (.fix 0))
theorem rightsB_iff {p n:Int}{ss:List Stp}:aT p n ss=true↔(1≤ss.length∧ss.length≤24)∧eV p n ss:=by
 unfold aT eV
 rw [Bool.and_eq_true,decide_eq_true_eq,List.all_eq_true]
 refine and_congr_right fun hl=>⟨fun h i s e=>?_,fun h i hi=>?_⟩
 ·obtain ⟨hi,e'⟩:=List.getElem?_eq_some_iff.mp e
  have:=h i (List.mem_range.mpr hi)
  rw [List.getD_eq_getElem?_getD,e] at this
  exact rightB_iff.mp this
 ·have hi':=List.mem_range.mp hi
  rw [List.getD_eq_getElem?_getD,List.getElem?_eq_getElem hi']
  exact rightB_iff.mpr (h i _ (List.getElem?_eq_getElem hi'))
inductive kS (C:Addr) (vs:List V) (H:Hp) (Q:VK) (E_:XK):Prop
 | mk (t a:Addr) (p n f:Int) (ws:List V) (ss:List Stp) (h0_:vs=[.ref t,.ref a]) (h1_:TabAt C H t p n f) (h2_:H a=some (.lst ws)) (h3_:StpsAt H ws ss) (h4_:cA H Q (.bl (aT p n ss))):kS C vs H Q E_
inductive cK (C cS:Addr) (vs:List V) (H:Hp) (Q:VK) (E:XK):Prop
 | mk (t a:Addr) (p n f:Int) (ws:List V) (ss:List Stp) (h0_:vs=[.ref t,.ref a]) (h1_:TabAt C H t p n f) (h2_:H a=some (.lst ws)) (h3_:StpsAt H ws ss) (h4_:(aT p n ss=true→cA H Q .non)) (h5_:(aT p n ss=false→∀ H',Same H H'→E (.ref cS) none H')):cK C cS vs H Q E
def aZ (n:Int):List Int:=dw 1 n.toNat
def Stp.dealers (n:Int):Stp→List Int
 | .ein h=>[h]
 | .mul _ _=>aZ n
 | .anew _=>aZ n
 | _=>[]
inductive du (C:Addr) (vs:List V) (H:Hp) (Q:VK) (E_:XK):Prop
 | mk (t:Addr) (p n f:Int) (h0_:vs=[.ref t]) (h1_:TabAt C H t p n f) (h2_:(0≤n∧n≤10)) (h3_:NewQ H Q ((aZ n).map V.int)):du C vs H Q E_
inductive cX (C:Addr) (vs:List V) (H:Hp) (Q:VK) (E_:XK):Prop
 | mk (t b:Addr) (p n f:Int) (z:Stp) (h0_:vs=[.ref t,.ref b]) (h1_:TabAt C H t p n f) (h2_:(0≤n∧n≤10)) (h3_:H b=some (.tup z.vs)) (h4_:NewQ H Q ((z.dealers n).map V.int)):cX C vs H Q E_
theorem bB (n:Int):(aZ n).length=n.toNat:=by unfold aZ dw;rw [List.length_map,List.length_range]
theorem fk {n:Int} (h:0≤n) (z:Stp):((z.dealers n).length:Int)=z.need n:=by
 cases z<;>simp only [Stp.dealers,Stp.need,bB,List.length_cons,List.length_nil]<;>omega
theorem ku (f n:Int):∀ ss:List Stp,aY f n ss=f*(ss.map fun z=>z.need n).sum
 | []=>by simp [aY]
 | z::r=>by rw [aY,ku f n r,List.map_cons,List.sum_cons,Int.mul_add]
inductive js (C cS:Addr) (vs:List V) (H:Hp) (Q:VK) (E:XK):Prop
 | mk (t a:Addr) (p n f:Int) (ws:List V) (ss:List Stp) (h0_:vs=[.ref t,.ref a]) (h1_:TabAt C H t p n f) (h2_:(0≤n∧n≤10)) (h3_:(0≤f∧f≤2)) (h4_:H a=some (.lst ws)) (h5_:StpsAt H ws ss) (h6_:(aT p n ss=true→cA H Q (.int (aY f n ss)))) (h7_:(aT p n ss=false→∀ H',Same H H'→E (.ref cS) none H')):js C cS vs H Q E
end Veil
namespace Veil
open PySem L2
end Veil
namespace Veil
open PySem L2
def mG (t1 t2 t3 t4 t5 t6 t7 t8:Addr):List (Key×V):=[((Sum.inr (Str.ofString "in"):Key),V.ref t1),((Sum.inr (Str.ofString "fix"):Key),V.ref t2),((Sum.inr (Str.ofString "sum"):Key),V.ref t3),((Sum.inr (Str.ofString "less"):Key),V.ref t4),((Sum.inr (Str.ofString "by"):Key),V.ref t5),((Sum.inr (Str.ofString "mul"):Key),V.ref t6),((Sum.inr (Str.ofString "anew"):Key),V.ref t7),((Sum.inr (Str.ofString "open"):Key),V.ref t8)]
theorem gh {K:PySem.W.Frag}{t:Addr}{dd:Option Addr}{its:Array Value}{n:Nat}{sl:Array (Option Value)}{xs:List V} (l:K.lookup t=some ⟨.type "tuple",dd,.seq its n,sl⟩) (v:Vals xs its.toList) (hl:xs.length≤100) (H:Hp):SqT K H t xs:=.inr ⟨_,its,n,l,rfl,rfl,by have:=v.length;simp only [Array.length_toList] at this;rw [← this];exact small (by omega),v⟩
theorem frm_mk {P:Program}{w:World}{K:PySem.W.Frag}{mg:Str→Option Value}{fa t1 t2 t3 t4 t5 t6 t7 t8:Addr}{k1 k2 k3 k4 k5 k6 k7 k8:Tok} (g:mg "FORMS"=some (.ref fa)) (sF:(fa == sysModules)=false) (lk:K.lookup fa=some { cls:=.type "dict",data:=.dict #[{ hash:=PyData.keyHash w.params (Str.ofString "in"),key:=.str (Str.ofString "in") k1,val:=.ref t1 },{ hash:=PyData.keyHash w.params (Str.ofString "fix"),key:=.str (Str.ofString "fix") k2,val:=.ref t2 },{ hash:=PyData.keyHash w.params (Str.ofString "sum"),key:=.str (Str.ofString "sum") k3,val:=.ref t3 },{ hash:=PyData.keyHash w.params (Str.ofString "less"),key:=.str (Str.ofString "less") k4,val:=.ref t4 },{ hash:=PyData.keyHash w.params (Str.ofString "by"),key:=.str (Str.ofString "by") k5,val:=.ref t5 },{ hash:=PyData.keyHash w.params (Str.ofString "mul"),key:=.str (Str.ofString "mul") k6,val:=.ref t6 },{ hash:=PyData.keyHash w.params (Str.ofString "anew"),key:=.str (Str.ofString "anew") k7,val:=.ref t7 },{ hash:=PyData.keyHash w.params (Str.ofString "open"),key:=.str (Str.ofString "open") k8,val:=.ref t8 }] 8 })
  (h1:∀ H,SqT K H t1 [.str "hand"]) (h2:∀ H,SqT K H t2 [.str "number"]) (h3:∀ H,SqT K H t3 [.str "step",.str "step"]) (h4:∀ H,SqT K H t4 [.str "step",.str "step"]) (h5:∀ H,SqT K H t5 [.str "step",.str "number"]) (h6:∀ H,SqT K H t6 [.str "step",.str "step"]) (h7:∀ H,SqT K H t7 [.str "step"]) (h8:∀ H,SqT K H t8 [.str "step"]):Frm P w K mg fa (mG t1 t2 t3 t4 t5 t6 t7 t8):=by
 refine ⟨g,⟨sF,_,[((Sum.inr (Str.ofString "in"):Key),Value.ref t1),((Sum.inr (Str.ofString "fix"):Key),Value.ref t2),((Sum.inr (Str.ofString "sum"):Key),Value.ref t3),((Sum.inr (Str.ofString "less"):Key),Value.ref t4),((Sum.inr (Str.ofString "by"):Key),Value.ref t5),((Sum.inr (Str.ofString "mul"):Key),Value.ref t6),((Sum.inr (Str.ofString "anew"):Key),Value.ref t7),((Sum.inr (Str.ofString "open"):Key),Value.ref t8)],lk,⟨_,_,⟨rfl,rfl,rfl⟩,rfl,?_,?_,?_⟩,?_⟩,fun s=>?_⟩
 ·intro e he
  simp only [List.mem_toArray,List.mem_cons,List.not_mem_nil,or_false] at he
  rcases he with r | r | r | r | r | r | r | r<;>rw [r]<;>exact ⟨_,bq P w _ _,rfl⟩
 ·exact .cons (bq P w _ _) rfl (.cons (bq P w _ _) rfl (.cons (bq P w _ _) rfl (.cons (bq P w _ _) rfl (.cons (bq P w _ _) rfl (.cons (bq P w _ _) rfl (.cons (bq P w _ _) rfl (.cons (bq P w _ _) rfl (.nil))))))))
 ·show List.Nodup [(Sum.inr (Str.ofString "in"):Key),(Sum.inr (Str.ofString "fix"):Key),(Sum.inr (Str.ofString "sum"):Key),(Sum.inr (Str.ofString "less"):Key),(Sum.inr (Str.ofString "by"):Key),(Sum.inr (Str.ofString "mul"):Key),(Sum.inr (Str.ofString "anew"):Key),(Sum.inr (Str.ofString "open"):Key)]
  clear lk h1 h2 h3 h4 h5 h6 h7 h8 g sF
  decide +kernel
 ·exact .cons ⟨rfl,rfl⟩ (.cons ⟨rfl,rfl⟩ (.cons ⟨rfl,rfl⟩ (.cons ⟨rfl,rfl⟩ (.cons ⟨rfl,rfl⟩ (.cons ⟨rfl,rfl⟩ (.cons ⟨rfl,rfl⟩ (.cons ⟨rfl,rfl⟩ (.nil))))))))
 ·have look:∀ k:Key,valV (mG t1 t2 t3 t4 t5 t6 t7 t8) k=if (Sum.inr (Str.ofString "in"):Key)=k then some (V.ref t1) else if (Sum.inr (Str.ofString "fix"):Key)=k then some (V.ref t2) else if (Sum.inr (Str.ofString "sum"):Key)=k then some (V.ref t3) else if (Sum.inr (Str.ofString "less"):Key)=k then some (V.ref t4) else if (Sum.inr (Str.ofString "by"):Key)=k then some (V.ref t5) else if (Sum.inr (Str.ofString "mul"):Key)=k then some (V.ref t6) else if (Sum.inr (Str.ofString "anew"):Key)=k then some (V.ref t7) else if (Sum.inr (Str.ofString "open"):Key)=k then some (V.ref t8) else none:=fun k=>by
   unfold mG
   repeat' split
   all_goals first
    | (rw [ji (by assumption)])
    | skip
   all_goals repeat (first | rw [ji (by assumption)] | rw [lW (by assumption)])
   all_goals rfl
  cases s
  case ein=>exact ⟨t1,by have e:=look (Sum.inr (Str.ofString "in"));rw [if_pos rfl] at e;exact e,h1⟩
  case fix=>exact ⟨t2,by have e:=look (Sum.inr (Str.ofString "fix"));rw [if_neg (show ¬ (Sum.inr (Str.ofString "in"):Key)=Sum.inr (Str.ofString "fix") by decide +kernel)] at e;rw [if_pos rfl] at e;exact e,h2⟩
  case bye=>exact ⟨t5,by have e:=look (Sum.inr (Str.ofString "by"));rw [if_neg (show ¬ (Sum.inr (Str.ofString "in"):Key)=Sum.inr (Str.ofString "by") by decide +kernel)] at e;rw [if_neg (show ¬ (Sum.inr (Str.ofString "fix"):Key)=Sum.inr (Str.ofString "by") by decide +kernel)] at e;rw [if_neg (show ¬ (Sum.inr (Str.ofString "sum"):Key)=Sum.inr (Str.ofString "by") by decide +kernel)] at e;rw [if_neg (show ¬ (Sum.inr (Str.ofString "less"):Key)=Sum.inr (Str.ofString "by") by decide +kernel)] at e;rw [if_pos rfl] at e;exact e,h5⟩
  case sum=>exact ⟨t3,by have e:=look (Sum.inr (Str.ofString "sum"));rw [if_neg (show ¬ (Sum.inr (Str.ofString "in"):Key)=Sum.inr (Str.ofString "sum") by decide +kernel)] at e;rw [if_neg (show ¬ (Sum.inr (Str.ofString "fix"):Key)=Sum.inr (Str.ofString "sum") by decide +kernel)] at e;rw [if_pos rfl] at e;exact e,h3⟩
  case less=>exact ⟨t4,by have e:=look (Sum.inr (Str.ofString "less"));rw [if_neg (show ¬ (Sum.inr (Str.ofString "in"):Key)=Sum.inr (Str.ofString "less") by decide +kernel)] at e;rw [if_neg (show ¬ (Sum.inr (Str.ofString "fix"):Key)=Sum.inr (Str.ofString "less") by decide +kernel)] at e;rw [if_neg (show ¬ (Sum.inr (Str.ofString "sum"):Key)=Sum.inr (Str.ofString "less") by decide +kernel)] at e;rw [if_pos rfl] at e;exact e,h4⟩
  case mul=>exact ⟨t6,by have e:=look (Sum.inr (Str.ofString "mul"));rw [if_neg (show ¬ (Sum.inr (Str.ofString "in"):Key)=Sum.inr (Str.ofString "mul") by decide +kernel)] at e;rw [if_neg (show ¬ (Sum.inr (Str.ofString "fix"):Key)=Sum.inr (Str.ofString "mul") by decide +kernel)] at e;rw [if_neg (show ¬ (Sum.inr (Str.ofString "sum"):Key)=Sum.inr (Str.ofString "mul") by decide +kernel)] at e;rw [if_neg (show ¬ (Sum.inr (Str.ofString "less"):Key)=Sum.inr (Str.ofString "mul") by decide +kernel)] at e;rw [if_neg (show ¬ (Sum.inr (Str.ofString "by"):Key)=Sum.inr (Str.ofString "mul") by decide +kernel)] at e;rw [if_pos rfl] at e;exact e,h6⟩
  case anew=>exact ⟨t7,by have e:=look (Sum.inr (Str.ofString "anew"));rw [if_neg (show ¬ (Sum.inr (Str.ofString "in"):Key)=Sum.inr (Str.ofString "anew") by decide +kernel)] at e;rw [if_neg (show ¬ (Sum.inr (Str.ofString "fix"):Key)=Sum.inr (Str.ofString "anew") by decide +kernel)] at e;rw [if_neg (show ¬ (Sum.inr (Str.ofString "sum"):Key)=Sum.inr (Str.ofString "anew") by decide +kernel)] at e;rw [if_neg (show ¬ (Sum.inr (Str.ofString "less"):Key)=Sum.inr (Str.ofString "anew") by decide +kernel)] at e;rw [if_neg (show ¬ (Sum.inr (Str.ofString "by"):Key)=Sum.inr (Str.ofString "anew") by decide +kernel)] at e;rw [if_neg (show ¬ (Sum.inr (Str.ofString "mul"):Key)=Sum.inr (Str.ofString "anew") by decide +kernel)] at e;rw [if_pos rfl] at e;exact e,h7⟩
  case opn=>exact ⟨t8,by have e:=look (Sum.inr (Str.ofString "open"));rw [if_neg (show ¬ (Sum.inr (Str.ofString "in"):Key)=Sum.inr (Str.ofString "open") by decide +kernel)] at e;rw [if_neg (show ¬ (Sum.inr (Str.ofString "fix"):Key)=Sum.inr (Str.ofString "open") by decide +kernel)] at e;rw [if_neg (show ¬ (Sum.inr (Str.ofString "sum"):Key)=Sum.inr (Str.ofString "open") by decide +kernel)] at e;rw [if_neg (show ¬ (Sum.inr (Str.ofString "less"):Key)=Sum.inr (Str.ofString "open") by decide +kernel)] at e;rw [if_neg (show ¬ (Sum.inr (Str.ofString "by"):Key)=Sum.inr (Str.ofString "open") by decide +kernel)] at e;rw [if_neg (show ¬ (Sum.inr (Str.ofString "mul"):Key)=Sum.inr (Str.ofString "open") by decide +kernel)] at e;rw [if_neg (show ¬ (Sum.inr (Str.ofString "anew"):Key)=Sum.inr (Str.ofString "open") by decide +kernel)] at e;rw [if_pos rfl] at e;exact e,h8⟩
end Veil
namespace L2
open PySem PySem.Spec PyProof.Rows
open PySem.W (Dat kqdP kqdPs kqdOk)
def rCountD:V→List V→Hp→VK→Prop:=fun x vs H Q=>∃ (a:Addr) (xs:List V) (ds:List Dat) (y:V) (d:Dat),x=.ref a∧vs=[y]∧H a=some (.lst xs)∧RepDs H xs ds∧RepD H y d∧(∀ e∈ds,kqdOk 8 e=true)∧kqdOk 8 d=true∧Q (.int ((ds.countP fun e=>PyData.eqv (kqdP e) (kqdP d):Nat):Int)) H
theorem kA:∀ ds:List Dat,kqdPs ds=ds.map kqdP
 | []=>rfl
 | d::ds=>by rw [kqdPs,kA ds];rfl
theorem pM {X:Cx} (hu:X.A.units+64<cLine):MtR X "list.count" rCountD:=by
 intro pins s σ H x vs v us Q I rx rv h
 obtain ⟨a,xs,ds,y,d,rfl,rfl,ha,hxs,hy,ka,kd,q⟩:=h
 cases rx
 obtain ⟨u,rfl,ru⟩:=rv.one
 obtain ⟨_,its,m,rvs,hg⟩:=(show ObjOk X.prog X.w H s.heap a (.lst xs) from I.hok a _ ha)
 obtain ⟨as,ra⟩:=RepDs.reads I 8 hxs rvs ka
 obtain ⟨bs,rx'⟩:=hy.reads I 8 ru kd
 have l:=PySem.W.kqd_layL ka
 have ld:=PySem.W.kqd_lay 8 d kd
 have ra':ReadsAll s.heap its.toArray.toList (kqdPs ds) as:=by simpa using ra
 refine call_meets F.slot_list_count ⟨_,hg,rfl⟩ F.entry_list_count (F.args_list_count_2 _ _) (SeqAt.list_countAt a its.toArray m none #[] u (fun z=>PyData.eqv (SeqAt.readOf s.heap z) (kqdP d))) ⟨hg,SeqAt.items_eqAt ra' rx' l.1 ld.1 ?_,?_⟩
 ·have:=Nat.min_le_right (PyData.depthAll (kqdPs ds)) (kqdP d).depth
  have h2:=ld.2
  omega
 ·refine ⟨.int _,H,I.tok _,⟨_,rfl⟩,?_⟩
  have e:its.toArray.toList.countP (fun z=>PyData.eqv (SeqAt.readOf s.heap z) (kqdP d))=ds.countP (fun e=>PyData.eqv (kqdP e) (kqdP d)):=by
   have e1:=SeqAt.readsAll_map (kqdPs ds) _ _ l.1 ra'
   rw [kA] at e1
   have e2:=congrArg (List.countP fun z=>PyData.eqv z (kqdP d)) e1
   rw [List.countP_map,List.countP_map] at e2
   exact e2
  rw [e]
  exact q
theorem eqv_iff {e d:Dat} (he:kqdOk 8 e=true) (hd:kqdOk 8 d=true):PyData.eqv (kqdP e) (kqdP d)=true↔e=d:=by
 have:=PySem.W.kqd_any [e] d (fun x hx=>by rw [List.mem_singleton.mp hx];exact he) hd
 simp only [kqdPs,List.any_cons,List.any_nil,Bool.or_false,List.mem_singleton] at this
 rw [this]
 exact eq_comm
end L2
namespace Veil
open PySem L2
open PySem.W (Dat kqdP kqdPs kqdOk)
inductive fC (C:Addr) (vs:List V) (H:Hp) (Q:VK) (E_:XK):Prop
 | mk (t r:Addr) (p n f:Int) (ns:List Int) (h0_:vs=[.ref t,.ref r]) (h1_:TabAt C H t p n f) (h2_:H r=some (.lst (ns.map V.int))) (h3_:ns.length≤1000) (h4_:cA H Q (.bl (ns.all (iW p)))):fC C vs H Q E_
theorem nums_iff {p:Int}{ns:List Int}:ns.all (iW p)=true↔∀ x∈ns,0≤x∧x<p:=by
 rw [List.all_eq_true]
 exact forall_congr' fun x=>forall_congr' fun _=>by unfold iW;rw [decide_eq_true_eq]
inductive j3 (vs:List V) (H:Hp) (Q:VK) (E_:XK):Prop
 | mk (a:Addr) (h:Int) (ws:List V) (ss:List Stp) (h0_:vs=[.ref a,.int h]) (h1_:H a=some (.lst ws)) (h2_:StpsAt H ws ss) (h3_:cA H Q (.int (aS ss h:Int))):j3 vs H Q E_
theorem ng (ss:List Stp) (h:Int):(ss.map Stp.dat).countP (fun e=>PyData.eqv (kqdP e) (kqdP (Stp.ein h).dat))=aS ss h:=by
 unfold aS
 rw [List.countP_map,List.countP_eq_length_filter]
 congr 1
 apply List.filter_congr
 intro s _
 show PyData.eqv (kqdP s.dat) (kqdP (Stp.ein h).dat)=_
 exact Bool.eq_iff_iff.mpr ((eqv_iff s.ok8 (Stp.ein h).ok8).trans (dat_ein.trans decide_eq_true_iff.symm))
def gq (p n:Int) (ss:List Stp) (inp:List (List Int)):Bool:=decide ((inp.length:Int)=n) && (List.range inp.length).all fun i=>decide (aS ss (1+(i:Int))≤(inp.getD i []).length) && (inp.getD i []).all (iW p)
theorem gL {p n:Int}{ss:List Stp}{inp:List (List Int)} (hn:0≤n):gq p n ss inp=true↔InsOk p n ss inp:=by
 unfold gq
 rw [Bool.and_eq_true,decide_eq_true_eq,List.all_eq_true]
 constructor
 ·rintro ⟨hl,h⟩
  have hl':inp.length=n.toNat:=by omega
  refine ⟨hl',fun r hr x hx=>?_,fun k h1 h2=>?_⟩
  ·obtain ⟨i,hi⟩:=List.getElem?_of_mem hr
   have il:=(List.getElem?_eq_some_iff.mp hi).1
   have:=h i (List.mem_range.mpr il)
   rw [Bool.and_eq_true,List.getD_eq_getElem?_getD,hi] at this
   exact nums_iff.mp this.2 x hx
  ·have:=h (k - 1).toNat (List.mem_range.mpr (by omega))
   rw [Bool.and_eq_true,decide_eq_true_eq,show 1+(((k - 1).toNat:Nat):Int)=k by omega] at this
   exact this.1
 ·rintro ⟨hl,hb,he⟩
  refine ⟨by omega,fun i hi=>?_⟩
  have il:=List.mem_range.mp hi
  rw [Bool.and_eq_true,decide_eq_true_eq]
  have e:bI inp (1+(i:Int))=inp.getD i []:=by unfold bI;rw [show (1+(i:Int) - 1).toNat=i by omega]
  refine ⟨?_,nums_iff.mpr fun x hx=>?_⟩
  ·rw [← e]
   exact he _ (by omega) (by omega)
  ·rw [List.getD_eq_getElem?_getD,List.getElem?_eq_getElem il] at hx
   exact hb _ (List.getElem_mem il) x hx
inductive eZ (C:Addr) (vs:List V) (H:Hp) (Q:VK) (E_:XK):Prop
 | mk (t a b:Addr) (p n f:Int) (ws:List V) (ss:List Stp) (is:List Addr) (inp:List (List Int)) (h0_:vs=[.ref t,.ref a,.ref b]) (h1_:TabAt C H t p n f) (h2_:H a=some (.lst ws)) (h3_:StpsAt H ws ss) (h4_:H b=some (.lst (is.map V.ref))) (h5_:InsAt H is inp) (h6_:(∀ r∈inp,r.length≤1000)) (h7_:cA H Q (.bl (gq p n ss inp))):eZ C vs H Q E_
inductive dj (C cI:Addr) (vs:List V) (H:Hp) (Q:VK) (E:XK):Prop
 | mk (t a b:Addr) (p n f:Int) (ws:List V) (ss:List Stp) (is:List Addr) (inp:List (List Int)) (h0_:vs=[.ref t,.ref a,.ref b]) (h1_:TabAt C H t p n f) (h2_:H a=some (.lst ws)) (h3_:StpsAt H ws ss) (h4_:H b=some (.lst (is.map V.ref))) (h5_:InsAt H is inp) (h6_:(∀ r∈inp,r.length≤1000)) (h7_:(gq p n ss inp=true→cA H Q .non)) (h8_:(gq p n ss inp=false→∀ H',Same H H'→E (.ref cI) none H')):dj C cI vs H Q E
def jU (ss:List Stp) (inp:List (List Int)) (i:Nat) (h:Int):Int:=(bI inp h).getD (aS (ss.take i) h) 0
inductive g9 (vs:List V) (H:Hp) (Q:VK) (E_:XK):Prop
 | mk (a b:Addr) (i:Nat) (h p n:Int) (ws:List V) (ss:List Stp) (is:List Addr) (inp:List (List Int)) (h0_:vs=[.ref a,.int (i:Int),.ref b]) (h1_:H a=some (.lst ws)) (h2_:StpsAt H ws ss) (h3_:ss.length≤100) (h4_:ss[i]?=some (.ein h)) (h5_:H b=some (.lst (is.map V.ref))) (h6_:InsAt H is inp) (h7_:InsOk p n ss inp) (h8_:(1≤h∧h≤n)) (h9_:cA H Q (.int (jU ss inp i h))):g9 vs H Q E_
def recV (p:Int) (fd:List Int):Stp→Int
 | .ein _=>0
 | .fix x=>x
 | .bye a x=>fd.getD a.toNat 0*x%p
 | .sum a b=>(fd.getD a.toNat 0+fd.getD b.toNat 0)%p
 | .less a b=>(fd.getD a.toNat 0 - fd.getD b.toNat 0)%p
 | .mul a b=>fd.getD a.toNat 0*fd.getD b.toNat 0%p
 | .anew a=>fd.getD a.toNat 0
 | .opn a=>fd.getD a.toNat 0
inductive eH (C:Addr) (vs:List V) (H:Hp) (Q:VK) (E_:XK):Prop
 | mk (t b r:Addr) (p n f:Int) (z:Stp) (fd:List Int) (h0_:vs=[.ref t,.ref b,.ref r]) (h1_:TabAt C H t p n f) (h2_:(0<p∧p≤31)) (h3_:H b=some (.tup z.vs)) (h4_:H r=some (.lst (fd.map V.int))) (h5_:z.Right p n (fd.length:Int)) (h6_:(∀ h,z≠.ein h)) (h7_:(∀ x∈fd,0≤x∧x<p)) (h8_:cA H Q (.int (recV p fd z))):eH C vs H Q E_
theorem jY {ss:List Stp}{i:Nat}{h:Int} (hs:ss[i]?=some (.ein h)):aS (ss.take i) h<aS ss h:=by
 have e1:=gU (h:=h) hs
 rw [if_pos rfl] at e1
 have e2:aS ss h=aS (ss.take (i+1)) h+aS (ss.drop (i+1)) h:=by
  rw [← gE,List.take_append_drop]
 omega
def Rests (n:Int) (ss:List Stp) (inp rest:List (List Int)) (i:Nat):Prop:=∀ h,1≤h→h≤n→bI rest h=(bI inp h).drop (aS (ss.take i) h)
theorem Rests.start {n:Int}{ss:List Stp}{inp:List (List Int)}:Rests n ss inp inp 0:=fun h _ _=>by simp [aS]
theorem Rests.next {p n:Int}{ss:List Stp}{inp rest:List (List Int)}{i:Nat} (R:Rests n ss inp rest i) (hl:rest.length=n.toNat) {s:Stp} (hs:ss[i]?=some s) (hr:s.Right p n (i:Int)):Rests n ss inp (gY rest s) (i+1):=by
 intro h h1 h2
 rw [gU hs]
 cases s with
 | ein k =>
  show bI (rest.set (k - 1).toNat (bI rest k).tail) h=_
  have hk:=hr.1
  have hk2:=hr.2
  rw [gN hk h1 (by omega)]
  by_cases e:h=k
  ·subst e
   rw [if_pos rfl,if_pos rfl,R h h1 h2,List.tail_drop]
  ·rw [if_neg e,if_neg (fun z=>e (by injection z with z;exact z.symm)),Nat.add_zero]
   exact R h h1 h2
 | _=>rw [if_neg (fun z=>nomatch z),Nat.add_zero];exact R h h1 h2
theorem jk {p n:Int}{ss:List Stp}{inp rest:List (List Int)}{i:Nat}{fd:List Int} (R:Rests n ss inp rest i) {h:Int} (h1:1≤h) (h2:h≤n):jm p rest fd (.ein h)=jU ss inp i h:=by
 show (bI rest h).headD 0=_
 unfold jU
 rw [R h h1 h2,List.getD_eq_getElem?_getD]
 rw [List.headD_eq_head?_getD,List.head?_drop]
end Veil
namespace L2
open PySem PySem.Spec PyProof.Rows
open PySem.W (Looks looks_findIn looks_mroIn findIn mroIn)
section
variable {prog:Program}{w:World}{A:Around}{hh:Heap}{g:Array GenState}{d:Drawn}{t:Nat}{os:OsState}{a C:Addr}
end
structure ExCls (K:PySem.W.Frag) (C:Addr):Prop where
 ga:findIn K (.ref C) "__getattribute__"=some (some (.builtin "BaseException.__getattribute__"))
 gt:findIn K (.ref C) "__getattr__"=some none
 cl:findIn K (.ref C) "__class__"=some (some (.builtin "object.__class__"))
 mB:mroIn K C (.type "BaseException")=some true
 mO:mroIn K C (.type "object")=some true
end L2
namespace L2
open PySem PySem.Spec PyProof.Rows
end L2
namespace Veil
open PySem L2
end Veil
namespace Veil
open PySem L2
theorem Paired.append {α β:Type}{R:α→β→Prop}:∀ {a c:List α}{b d:List β},Paired R a b→Paired R c d→Paired R (a++c) (b++d)
 | _,_,_,_,.nil,h=>h
 | _,_,_,_,.cons r t,h=>.cons r (Veil.Paired.append t h)
end Veil
namespace Veil
open PySem L2
open PySem.W (Dat kqdP kqdPs kqdOk)
end Veil
namespace L2
open PySem PySem.Spec PyProof.Rows
end L2
namespace Veil
open PySem L2
def k9 (n:Int):Int→List Int→Bool
 | _,[]=>true
 | l,h::r=>if h≤l∨n<h then false else k9 n h r
def risB (n:Int) (hs:List Int):Bool:=k9 n 0 hs
theorem risGo_iff {n:Int}:∀ {hs:List Int}{l:Int},k9 n l hs=true↔(∀ h∈hs,l<h∧h≤n)∧hs.Pairwise (·<·)
 | [],l=>by simp [k9]
 | h::r,l=>by
  unfold k9
  by_cases c:h≤l∨n<h
  ·rw [if_pos c]
   refine ⟨fun z=>(nomatch z),fun z=>?_⟩
   have:=z.1 h List.mem_cons_self
   omega
  ·rw [if_neg c,risGo_iff (hs:=r) (l:=h),List.pairwise_cons]
   constructor
   ·rintro ⟨h1,h2⟩
    refine ⟨fun k hk=>?_,fun k hk=>(h1 k hk).1,h2⟩
    rcases List.mem_cons.mp hk with e | e
    ·subst e;omega
    ·have:=h1 k e;omega
   ·rintro ⟨h1,h2,h3⟩
    exact ⟨fun k hk=>⟨h2 k hk,(h1 k (List.mem_cons_of_mem _ hk)).2⟩,h3⟩
theorem risB_iff {n:Int}{hs:List Int}:risB n hs=true↔(∀ h∈hs,1≤h∧h≤n)∧hs.Pairwise (·<·):=by
 unfold risB
 rw [risGo_iff]
 exact and_congr_left fun _=>forall_congr' fun h=>forall_congr' fun _=>by omega
inductive jp (C:Addr) (vs:List V) (H:Hp) (Q:VK) (E_:XK):Prop
 | mk (t s:Addr) (p n f:Int) (hs:List Int) (h0_:vs=[.ref t,.ref s]) (h1_:TabAt C H t p n f) (h2_:H s=some (.lst (hs.map V.int))) (h3_:cA H Q (.bl (risB n hs))):jp C vs H Q E_
inductive dE (C cH:Addr) (vs:List V) (H:Hp) (Q:VK) (E:XK):Prop
 | mk (t s:Addr) (p n f:Int) (hs:List Int) (h0_:vs=[.ref t,.ref s]) (h1_:TabAt C H t p n f) (h2_:H s=some (.lst (hs.map V.int))) (h3_:(risB n hs=true→cA H Q .non)) (h4_:(risB n hs=false→∀ H',Same H H'→E (.ref cH) none H')):dE C cH vs H Q E
def iL (p sl:Int) (row:List Int):List Int:=List.zipWith (fun h b=>(h - sl*b)%p) (row++[0]) (0::row)
theorem iZ (p sl:Int) (row:List Int):iL p sl row=iK p (-sl) (row++[0]) (0::row):=by
 unfold iL iK
 congr 1
 funext b h
 rw [Int.neg_mul,Int.sub_eq_add_neg]
theorem oI (p sl:Int) (row:List Int):(iL p sl row).length=row.length+1:=by rw [iZ,eS];simp
theorem m8 {p sl:Int} (row:List Int) (z:Int):av (iL p sl row) z%p=(1 - sl*z)*av row z%p:=by
 rw [iZ,dz _ _ _ (by simp),dI]
 congr 1
 simp only [av]
 rw [Int.zero_add,Int.neg_mul,Int.sub_mul,Int.one_mul,Int.mul_assoc]
 omega
theorem m9 {p sl:Int}{r:Int}{row:List Int} (h:0≤r∧r<p):(iL p sl (r::row)).head?=some r:=by
 show some ((r - sl*0)%p)=_
 rw [Int.mul_zero,Int.sub_zero,Int.emod_eq_of_lt h.1 h.2]
def jW (p:Int) (hs:List Int):List Int:=hs.foldl (fun row h=>iL p (bT p h) row) [1]
theorem oJ (p:Int) (hs:List Int):(jW p hs).length=hs.length+1:=by
 unfold jW
 have:∀ (hs row:List Int),(hs.foldl (fun row h=>iL p (bT p h) row) row).length=row.length+hs.length:=fun hs=>by
  induction hs with
  | nil=>intro row;rfl
  | cons h r ih=>intro row;rw [List.foldl_cons,ih,oI,List.length_cons];omega
 rw [this]
 simp
 omega
theorem nc {p:Int} (hp:1<p) (hs:List Int):(jW p hs).head?=some 1:=by
 unfold jW
 have:∀ (hs row:List Int),(∃ r,row=1::r)→(hs.foldl (fun row h=>iL p (bT p h) row) row).head?=some 1:=fun hs=>by
  induction hs with
  | nil=>rintro row ⟨r,rfl⟩;rfl
  | cons h r ih =>
   rintro row ⟨r',rfl⟩
   refine ih _ ?_
   have e:=m9 (p:=p) (sl:=bT p h) (r:=1) (row:=r') ⟨by omega,hp⟩
   cases ev:iL p (bT p h) (1::r') with
   | nil=>rw [ev] at e;cases e
   | cons a b=>rw [ev] at e;cases e;exact ⟨b,ev⟩
 exact this hs [1] ⟨[],rfl⟩
theorem nb {p:Int} (hp:p∈primes9):∀ (hs:List Int),(∀ h∈hs,1≤h∧h<p)→∀ h∈hs,av (jW p hs) h%p=0:=by
 unfold jW
 have:∀ (hs row:List Int) (z:Int),(∀ h∈hs,1≤h∧h<p)→(av row z%p=0∨z∈hs)→av (hs.foldl (fun row h=>iL p (bT p h) row) row) z%p=0:=fun hs=>by
  induction hs with
  | nil=>intro row z _ h;rcases h with h | h;exact h;cases h
  | cons h r ih =>
   intro row z hb hz
   refine ih _ z (fun k hk=>hb k (List.mem_cons_of_mem _ hk)) ?_
   by_cases e:z∈r
   ·exact .inr e
   refine .inl ?_
   rw [m8]
   rcases hz with hz | hz
   ·rw [Int.mul_emod,hz,Int.mul_zero,Int.zero_emod]
   ·rcases List.mem_cons.mp hz with e' | e'
    ·subst e'
     have hb1:=hb z List.mem_cons_self
     have bk:=(gR hp (x:=z) (by rw [Int.emod_eq_of_lt (by omega) hb1.2];omega)).2
     have e1:(1 - bT p z*z)%p=0:=by
      rw [Int.sub_emod,Int.mul_comm,bk]
      have:(1:Int)%p=1:=Int.emod_eq_of_lt (by decide) (by omega)
      rw [this]
      rfl
     rw [Int.mul_emod,e1,Int.zero_mul,Int.zero_emod]
    ·exact absurd e' e
 exact fun hs hb h hh=>this hs [1] h hb (.inr hh)
def bh (p:Int) (f:Nat) (hs:List Int):List Int:=jW p hs++List.replicate (f+1 - (hs.length+1)) 0
end Veil
namespace Veil
open PySem L2
end Veil
namespace L2
open PySem PySem.Spec PyProof.Rows
def MOk (P:Program) (w:World) (K:PySem.W.Frag) (mg:Str→Option Value) (base:Heap) (CX:CXT) (k:Nat) (C:Addr) (m:Str) (ps:List Str) (sp:Sp):Prop:=∃ f fd,Cls K C∧qw K C m f∧gD P w K mg base CX k f fd ps sp∧Binds K fd ps []
section
variable {X:Cx}{k j:Nat}{C:Addr}{m:Str}{ps:List Str}{sp:Sp}{o e:Expr}{es:List Expr}{ta:TE}{t:TA}{apos pos:Pos}
theorem fN {pl:Sem Bool} (O:MOk X.prog X.w X.K X.mg X.base CX0 k C m ps sp) (hr:Room j X.A) (he:PE X o ta) (ha:PA X (e::es) t) (hle:k≤j:=by decide)
  (hst:starEach (e::es) X.env=(false,eval e X.env)::starEach es X.env:=by rfl) (hpl:(backTo pos (starEach es X.env)).any (·.1)=false:=by rfl)
  (ht:eval (.Call (.Attribute o m apos) (e::es) [] pos) X.env=(do let ov ← eval o X.env;standAt apos.atName;let (f,first) ← holding [ov] (getMethod ov m pl);callWith pos f first (backTo pos (starEach (e::es) X.env)) (backToKw pos (keywordEach [] X.env))):=by rfl) :
  PE X (.Call (.Attribute o m apos) (e::es) [] pos) (tMeth C m sp [] E0 ta t):=by
 obtain ⟨f,fd,c,hm,F,b⟩:=O
 exact pe_meth he c hm F (hr.mono hle) b .nil pass0 ha hst hpl ht
theorem eB {pl:Sem Bool} (O:MOk X.prog X.w X.K X.mg X.base CX0 k C m ps sp) (hr:Room j X.A) (he:PE X o ta) (hle:k≤j:=by decide)
  (ht:eval (.Call (.Attribute o m apos) [] [] pos) X.env=(do let ov ← eval o X.env;standAt apos.atName;let (f,first) ← holding [ov] (getMethod ov m pl);callWith pos f first (backTo pos (starEach [] X.env)) (backToKw pos (keywordEach [] X.env))):=by rfl) :
  PE X (.Call (.Attribute o m apos) [] [] pos) (tMeth C m sp [] E0 ta tNil):=by
 obtain ⟨f,fd,c,hm,F,b⟩:=O
 exact pe_meth0 he c hm F (hr.mono hle) b .nil pass0 ht
end
end L2
namespace Veil
open PySem L2
abbrev LL:=List (List Int)
abbrev fS:=Int×Int×Int×Int
def letV (l:fS):List V:=[.int l.1,.int l.2.1,.int l.2.2.1,.int l.2.2.2]
def LetsAt (H:Hp):List V→List fS→Prop:=Paired fun v l=>∃ a,v=.ref a∧H a=some (.tup (letV l))
theorem LetsAt.same {H H':Hp} (s:Same H H') {vs:List V}{ls:List fS} (h:LetsAt H vs ls):LetsAt H' vs ls:=Paired.mapP h fun v q ⟨a,e,z⟩=>⟨a,e,s _ _ z⟩
def SameX (ex:List Addr) (H H':Hp):Prop:=∀ x u,H x=some u→x∉ex→H' x=some u
def aA (f:Nat) (ch:List Int) (used k:Nat):LL:=(List.range k).map fun i:Nat=>(ch.drop (used+i*f)).take f
def bn (f:Nat) (n:Int) (ch:List Int):List Stp→Nat→List LL
 | [],_=>[]
 | z::r,used=>aA f ch used (z.dealers n).length::bn f n ch r (used+(z.dealers n).length*f)
def LLNew (H0 H:Hp):List Addr→List LL→Prop:=Paired fun a rows=>H0 a=none∧∃ bs:List Addr,H a=some (.lst (bs.map V.ref))∧InsAt H bs rows∧∀ b∈bs,H0 b=none
inductive cB (C:Addr) (vs:List V) (H:Hp) (Q:VK) (E_:XK):Prop
 | mk (t a c:Addr) (p n f:Int) (ws:List V) (ss:List Stp) (ch:List Int) (h0_:vs=[.ref t,.ref a,.ref c]) (h1_:TabAt C H t p n f) (h2_:(0≤n∧n≤10)) (h3_:(0≤f∧f≤2)) (h4_:H a=some (.lst ws)) (h5_:StpsAt H ws ss) (h6_:ss.length≤100) (h7_:H c=some (.lst (ch.map V.int))) (h8_:∀ d as H',Same H H'→H d=none→H' d=some (.lst (as.map V.ref))→LLNew H H' as (bn f.toNat n ch ss 0)→Q (.ref d) H'):cB C vs H Q E_
inductive fB (C:Addr) (vs:List V) (H:Hp) (Q:VK) (E_:XK):Prop
 | mk (t a b:Addr) (p n f:Int) (xs ys:List Int) (h0_:vs=[.ref t,.ref a,.ref b]) (h1_:TabAt C H t p n f) (h2_:(0<p∧p≤31)) (h3_:H a=some (.lst (xs.map V.int))) (h4_:H b=some (.lst (ys.map V.int))) (h5_:xs.length≤100) (h6_:(∀ v∈xs,0≤v∧v<p)) (h7_:(∀ v∈ys,0≤v∧v<p)) (h8_:cA H Q (.int ((List.zipWith (·*·) xs ys).sum%p))):fB C vs H Q E_
def gu (pl s:Int) (row:List Int):List fS:=(List.range row.length).filterMap fun i:Nat=>if 1+(i:Int)=s then none else some (pl,s,1+(i:Int),row.getD i 0)
def aH (pl:Int) (ss:List Int) (rows:LL):List fS:=((ss.zip rows).map fun q=>gu pl q.1 q.2).flatten
inductive eY (vs:List V) (H:Hp) (Q:VK) (E_:XK):Prop
 | mk (a b:Addr) (pl:Int) (ss:List Int) (bs:List Addr) (rows:LL) (h0_:vs=[.int pl,.ref a,.ref b]) (h1_:H a=some (.lst (ss.map V.int))) (h2_:ss.length≤10) (h3_:H b=some (.lst (bs.map V.ref))) (h4_:InsAt H bs rows) (h5_:(∀ r∈rows,r.length≤10)) (h6_:∀ d lvs H',Same H H'→H d=none→H' d=some (.lst lvs)→LetsAt H' lvs (aH pl ss rows)→Q (.ref d) H'):eY vs H Q E_
inductive dk (C cC:Addr) (vs:List V) (H:Hp) (Q:VK) (E:XK):Prop
 | mk (t a c:Addr) (p n f:Int) (ws:List V) (ss:List Stp) (ch:List Int) (h0_:vs=[.ref t,.ref a,.ref c]) (h1_:TabAt C H t p n f) (h2_:(0≤n∧n≤10)) (h3_:(0≤f∧f≤2)) (h4_:H a=some (.lst ws)) (h5_:StpsAt H ws ss) (h6_:H c=some (.lst (ch.map V.int))) (h7_:ch.length≤1000) (h8_:aT p n ss=true) (h9_:((ch.length:Int)=aY f n ss→ch.all (iW p)=true→cA H Q .non)) (h10_:(¬ ((ch.length:Int)=aY f n ss∧ch.all (iW p)=true)→∀ H',Same H H'→E (.ref cC) none H')):dk C cC vs H Q E
def dU (p f n:Int) (ss:List Stp) (ch:List Int):Bool:=decide ((ch.length:Int)=aY f n ss) && ch.all (iW p)
inductive eX (C cS cI cC:Addr) (vs:List V) (H:Hp) (Q:VK) (E:XK):Prop
 | mk (t a b c:Addr) (p n f:Int) (ws:List V) (ss:List Stp) (is:List Addr) (inp:LL) (ch:List Int) (h0_:vs=[.ref t,.ref a,.ref b,.ref c]) (h1_:TabAt C H t p n f) (h2_:(0≤n∧n≤10)) (h3_:(0≤f∧f≤2)) (h4_:H a=some (.lst ws)) (h5_:StpsAt H ws ss) (h6_:H b=some (.lst (is.map V.ref))) (h7_:InsAt H is inp) (h8_:(∀ r∈inp,r.length≤1000)) (h9_:H c=some (.lst (ch.map V.int))) (h10_:ch.length≤1000) (h11_:(aT p n ss=true→gq p n ss inp=true→dU p f n ss ch=true→cA H Q .non)) (h12_:(aT p n ss=false→∀ H',Same H H'→E (.ref cS) none H')) (h13_:(aT p n ss=true→gq p n ss inp=false→∀ H',Same H H'→E (.ref cI) none H')) (h14_:(aT p n ss=true→gq p n ss inp=true→dU p f n ss ch=false→∀ H',Same H H'→E (.ref cC) none H')):eX C cS cI cC vs H Q E
end Veil
namespace Veil
open PySem L2
theorem kF (f:Nat) (ch:List Int) (used k:Nat):aA f ch used (k+1)=aA f ch used k++[(ch.drop (used+k*f)).take f]:=by
 unfold aA
 rw [List.range_succ,List.map_append]
 rfl
theorem cut_mid {xs:List V}{a k:Nat}:lS xs (some (a:Int)) (some ((a:Int)+(k:Int)))=(xs.drop a).take k:=by
 unfold lS HT.sIx
 by_cases h:a≤xs.length
 ·have e1:¬ ((a:Int)<0):=by omega
  have e2:¬ ((a:Int)+(k:Int)<0):=by omega
  simp only [e1,e2,if_false]
  have e3:min (a:Int).toNat xs.length=a:=by omega
  simp only [e3]
  by_cases h2:a+k≤xs.length
  ·have e4:min ((a:Int)+(k:Int)).toNat xs.length=a+k:=by omega
   rw [e4]
   congr 1
   omega
  ·have e4:min ((a:Int)+(k:Int)).toNat xs.length=xs.length:=by omega
   rw [e4,List.take_of_length_le (by rw [List.length_drop];exact Nat.le_refl _),List.take_of_length_le (by rw [List.length_drop];omega)]
 ·have e1:¬ ((a:Int)<0):=by omega
  simp only [e1,if_false]
  have e3:min (a:Int).toNat xs.length=xs.length:=by omega
  simp only [e3]
  rw [List.drop_length,List.drop_of_length_le (by omega)]
  simp
def aG (f:Nat) (n:Int):List Stp→Nat
 | []=>0
 | z::r=>(z.dealers n).length*f+aG f n r
theorem cU {f:Nat}{n:Int}:∀ {ss:List Stp}{i:Nat}{z:Stp},ss[i]?=some z→aG f n (ss.take (i+1))=aG f n (ss.take i)+(z.dealers n).length*f
 | [],i,z,h=>by simp at h
 | y::r,0,z,h=>by
  simp at h
  subst h
  simp [aG]
 | y::r,i+1,z,h=>by
  rw [List.take_succ_cons,List.take_succ_cons,aG,aG,cU (ss:=r) (i:=i) (by simpa using h)]
  omega
theorem dh (f:Nat) (n:Int) (ch:List Int):∀ (ss:List Stp) (u:Nat),bn f n ch ss u=(List.range ss.length).map fun i=>aA f ch (u+aG f n (ss.take i)) ((ss.getD i (.fix 0)).dealers n).length
 | [],u=>rfl
 | z::r,u=>by
  rw [bn,dh f n ch r,List.length_cons,List.range_succ_eq_map,List.map_cons,List.map_map]
  congr 1
  apply List.map_congr_left
  intro i _
  simp only [Function.comp,List.take_succ_cons,aG,List.getD_cons_succ]
  congr 1
  omega
theorem dr {f:Nat}{n:Int}{ch:List Int}{ss:List Stp}{i:Nat}{z:Stp} (h:ss[i]?=some z):(bn f n ch ss 0).take (i+1)=(bn f n ch ss 0).take i++[aA f ch (aG f n (ss.take i)) (z.dealers n).length]:=by
 have il:i<ss.length:=(List.getElem?_eq_some_iff.mp h).1
 rw [List.take_add_one]
 congr 1
 rw [dh,List.getElem?_map,List.getElem?_range il,Option.map_some,Nat.zero_add,List.getD_eq_getElem?_getD,h]
 rfl
theorem dR (f:Nat) (n:Int) (ch:List Int) (ss:List Stp) (u:Nat):(bn f n ch ss u).length=ss.length:=by
 rw [dh,List.length_map,List.length_range]
theorem LLNew.same {H0 H H':Hp} (s:Same H H') {as:List Addr}{rs:List LL} (h:LLNew H0 H as rs):LLNew H0 H' as rs:=Paired.mapP h fun a r ⟨z,bs,e,i,f⟩=>⟨z,bs,s _ _ e,i.same s,f⟩
theorem cy {n:Int} (h0:0≤n) (h1:n≤10) (z:Stp):(z.dealers n).length≤10:=by
 have:=fk h0 z
 have:=need_b h0 h1 z
 omega
end Veil
namespace Veil
open PySem L2
theorem InsAt.offN {H0 H:Hp}{l:Addr}{o u:HO} (hl:H0 l=some u) {as:List Addr}{rs:List (List Int)} (h:InsAt H as rs) (fr:∀ b∈as,H0 b=none):InsAt (L2.upd H l o) as rs:=InsAt.off h fun z=>by have:=fr l z;rw [hl] at this;cases this
theorem LLNew.off {H0 H:Hp}{l:Addr}{o u:HO} (hl:H0 l=some u) {as:List Addr}{rs:List LL} (h:LLNew H0 H as rs):LLNew H0 (L2.upd H l o) as rs:=Paired.mapP h fun a r ⟨z,bs,e,i,f⟩=>⟨z,bs,by rw [ar fun w=>by rw [w,hl] at z;cases z];exact e,InsAt.offN hl i f,f⟩
theorem LLNew.older {H0 H1 H:Hp} (s:Same H0 H1) {as:List Addr}{rs:List LL} (h:LLNew H1 H as rs):LLNew H0 H as rs:=Paired.mapP h fun a r ⟨z,bs,e,i,f⟩=>⟨s.free z,bs,e,i,fun b hb=>s.free (f b hb)⟩
end Veil
namespace Veil
open PySem L2
theorem LetsAt.upd {H:Hp}{l:Addr}{c c':List V} (hl:H l=some (.lst c)) {vs:List V}{ls:List fS} (h:LetsAt H vs ls):LetsAt (L2.upd H l (.lst c')) vs ls:=Paired.mapP h fun v q ⟨a,e,z⟩=>⟨a,e,by
 rw [ar fun y=>by rw [y,hl] at z;cases z]
 exact z⟩
theorem dW {α β:Type} (a:List α) (b:List β) (k:Nat):(a.take k).zip (b.take k)=(a.zip b).take k:=by
 unfold List.zip
 rw [List.take_zipWith]
end Veil
namespace Veil
open PySem L2
structure CrsC (K:PySem.W.Frag) (CC:Addr):Prop where
 cl:Cls K CC
 nT:NoAttr K CC "table"
 nS:NoAttr K CC "steps"
 nI:NoAttr K CC "inputs"
 nP:NoAttr K CC "parts"
 nH:NoAttr K CC "shares"
 nL:NoAttr K CC "letters"
def kG (t a b wa sh le:Addr):List (Str×V):=[("table",.ref t),("steps",.ref a),("inputs",.ref b),("parts",.ref wa),("shares",.ref sh),("letters",.ref le)]
section
variable (t a b wa sh le:Addr)
theorem oB:(kG t a b wa sh le).lookup ("table":Str)=some (V.ref t):=rfl
theorem cf_a:(kG t a b wa sh le).lookup ("steps":Str)=some (V.ref a):=by
 unfold kG
 rw [List.lookup_cons,show (("steps":Str) == "table")=false by decide +kernel]
 rfl
theorem cf_b:(kG t a b wa sh le).lookup ("inputs":Str)=some (V.ref b):=by
 unfold kG
 rw [List.lookup_cons,show (("inputs":Str) == "table")=false by decide +kernel]
 simp only
 rw [List.lookup_cons,show (("inputs":Str) == "steps")=false by decide +kernel]
 rfl
theorem cf_w:(kG t a b wa sh le).lookup ("parts":Str)=some (V.ref wa):=by
 unfold kG
 rw [List.lookup_cons,show (("parts":Str) == "table")=false by decide +kernel]
 simp only
 rw [List.lookup_cons,show (("parts":Str) == "steps")=false by decide +kernel]
 simp only
 rw [List.lookup_cons,show (("parts":Str) == "inputs")=false by decide +kernel]
 rfl
theorem cf_h:(kG t a b wa sh le).lookup ("shares":Str)=some (V.ref sh):=by
 unfold kG
 rw [List.lookup_cons,show (("shares":Str) == "table")=false by decide +kernel]
 simp only
 rw [List.lookup_cons,show (("shares":Str) == "steps")=false by decide +kernel]
 simp only
 rw [List.lookup_cons,show (("shares":Str) == "inputs")=false by decide +kernel]
 simp only
 rw [List.lookup_cons,show (("shares":Str) == "parts")=false by decide +kernel]
 rfl
theorem cf_l:(kG t a b wa sh le).lookup ("letters":Str)=some (V.ref le):=by
 unfold kG
 rw [List.lookup_cons,show (("letters":Str) == "table")=false by decide +kernel]
 simp only
 rw [List.lookup_cons,show (("letters":Str) == "steps")=false by decide +kernel]
 simp only
 rw [List.lookup_cons,show (("letters":Str) == "inputs")=false by decide +kernel]
 simp only
 rw [List.lookup_cons,show (("letters":Str) == "parts")=false by decide +kernel]
 simp only
 rw [List.lookup_cons,show (("letters":Str) == "shares")=false by decide +kernel]
 rfl
theorem iY {m:Str} (h1:(m == "table")=false) (h2:(m == "steps")=false) (h3:(m == "inputs")=false) (h4:(m == "parts")=false) (h5:(m == "shares")=false) (h6:(m == "letters")=false):(kG t a b wa sh le).lookup m=none:=by
 unfold kG
 rw [List.lookup_cons,h1]
 simp only
 rw [List.lookup_cons,h2]
 simp only
 rw [List.lookup_cons,h3]
 simp only
 rw [List.lookup_cons,h4]
 simp only
 rw [List.lookup_cons,h5]
 simp only
 rw [List.lookup_cons,h6]
 rfl
end
structure Par (p n f:Int) (ss:List Stp) (inp:LL):Prop where
 hp:p∈primes9
 hn:3≤n∧n≤7
 np:n<p
 hf:f=1∨f=2
 fn:2*f<n
 len:1≤ss.length∧ss.length≤24
 R:eV p n ss
 io:InsOk p n ss inp
structure ShsOk (p n:Int) (shares:LL):Prop where
 l:∀ r∈shares,r.length=n.toNat
 b:∀ r∈shares,∀ v∈r,0≤v∧v<p
structure CrsAt (C CC:Addr) (H:Hp) (c:Addr) (p n f:Int) (ss:List Stp) (inp shares:LL) (t a b wa sh le:Addr) (ws:List V) (is shs:List Addr):Prop where
 obj:∃ dx,H c=some (.ins CC dx (kG t a b wa sh le))
 tab:TabAt C H t p n f
 ha:H a=some (.lst ws)
 st:StpsAt H ws ss
 hb:H b=some (.lst (is.map V.ref))
 hin:InsAt H is inp
 hw:H wa=some (.lst ((aV p n.toNat).map V.int))
 hsh:H sh=some (.lst (shs.map V.ref))
 hs:InsAt H shs shares
theorem CrsAt.same {C CC:Addr}{H H':Hp} (s:Same H H') {c:Addr}{p n f:Int}{ss:List Stp}{inp shares:LL}{t a b wa sh le:Addr}{ws:List V}{is shs:List Addr} (h:CrsAt C CC H c p n f ss inp shares t a b wa sh le ws is shs):CrsAt C CC H' c p n f ss inp shares t a b wa sh le ws is shs :=
 ⟨let ⟨dx,e⟩:=h.obj;⟨dx,s _ _ e⟩,h.tab.same s,s _ _ h.ha,h.st.same s,s _ _ h.hb,h.hin.same s,s _ _ h.hw,s _ _ h.hsh,h.hs.same s⟩
def CrsR (C CC:Addr) (H:Hp) (c:Addr) (p n f:Int) (ss:List Stp) (inp shares:LL):Prop:=∃ t a b wa sh le ws is shs,CrsAt C CC H c p n f ss inp shares t a b wa sh le ws is shs
inductive eI (C CC:Addr) (vs:List V) (H:Hp) (Q:VK) (E_:XK):Prop
 | mk (c:Addr) (p n f:Int) (ss:List Stp) (inp shares:LL) (z:Stp) (h0_:vs=[.ref c]) (h1_:CrsR C CC H c p n f ss inp shares) (h2_:ss.length≤100) (h3_:ss[shares.length]?=some z) (h4_:∀ d H',Same H H'→H' d=some (.tup z.vs)→Q (.ref d) H'):eI C CC vs H Q E_
def bD (shares:LL) (h:Int):List Int:=shares.map fun r=>r.getD (h - 1).toNat 0
inductive oU (C CC:Addr) (vs:List V) (H:Hp) (Q:VK) (E_:XK):Prop
 | mk (c:Addr) (p n f h:Int) (ss:List Stp) (inp shares:LL) (h0_:vs=[.ref c,.int h]) (h1_:CrsR C CC H c p n f ss inp shares) (h2_:shares.length≤100) (h3_:ShsOk p n shares) (h4_:(1≤h∧h≤n)) (h5_:NewQ H Q ((bD shares h).map V.int)):oU C CC vs H Q E_
def bA (p n:Int) (ss:List Stp) (inp shares:LL) (z:Stp):List Int:=match z with
 | .ein h=>[jU ss inp shares.length h]
 | .anew _=>List.replicate n.toNat 0
 | z=>(z.dealers n).map fun h=>recV p (bD shares h) z
inductive lY (C CC:Addr) (vs:List V) (H:Hp) (Q:VK) (E_:XK):Prop
 | mk (c:Addr) (p n f:Int) (ss:List Stp) (inp shares:LL) (z:Stp) (h0_:vs=[.ref c]) (h1_:CrsR C CC H c p n f ss inp shares) (h2_:Par p n f ss inp) (h3_:ShsOk p n shares) (h4_:ss[shares.length]?=some z) (h5_:NewQ H Q ((bA p n ss inp shares z).map V.int)):lY C CC vs H Q E_
def iX (p n:Int) (shares rows:LL) (z:Stp) (h:Int):Int:=match z with
 | .ein _=>(bD rows h).headD 0
 | .mul _ _=>(List.zipWith (·*·) (aV p n.toNat) (bD rows h)).sum%p
 | z=>(recV p (bD shares h) z+(bD rows h).sum)%p
inductive jr (C CC:Addr) (vs:List V) (H:Hp) (Q:VK) (E_:XK):Prop
 | mk (c ra:Addr) (p n f h:Int) (ss:List Stp) (inp shares rows:LL) (z:Stp) (rs:List Addr) (h0_:vs=[.ref c,.int h,.ref ra]) (h1_:CrsR C CC H c p n f ss inp shares) (h2_:Par p n f ss inp) (h3_:ShsOk p n shares) (h4_:ss[shares.length]?=some z) (h5_:H ra=some (.lst (rs.map V.ref))) (h6_:InsAt H rs rows) (h7_:ShsOk p n rows) (h8_:rows.length=(z.dealers n).length) (h9_:(1≤h∧h≤n)) (h10_:cA H Q (.int (iX p n shares rows z h))):jr C CC vs H Q E_
def jK (p n:Int) (pl:Int) (made:List Int) (rows:LL) (z:Stp):List fS:=match z with
 | .opn _=>aH pl (aZ n) (made.map fun v=>List.replicate n.toNat v)
 | z=>aH pl (z.dealers n) rows
inductive lX (C CC:Addr) (vs:List V) (H:Hp) (Q:VK) (E_:XK):Prop
 | mk (c d ma ra le:Addr) (p n f:Int) (ss:List Stp) (inp shares rows:LL) (z:Stp) (rs:List Addr) (made:List Int) (lvs:List V) (lets:List fS) (t a b wa sh:Addr) (ws:List V) (is shs:List Addr) (h0_:vs=[.ref c,.ref d,.ref ma,.ref ra]) (h1_:CrsAt C CC H c p n f ss inp shares t a b wa sh le ws is shs) (h2_:Par p n f ss inp) (h3_:shares.length≤24) (h4_:H d=some (.tup z.vs)) (h5_:H ma=some (.lst (made.map V.int))) (h6_:made.length=n.toNat) (h7_:H ra=some (.lst (rs.map V.ref))) (h8_:InsAt H rs rows) (h9_:(∀ r∈rows,r.length=n.toNat)) (h10_:H le=some (.lst lvs)) (h11_:LetsAt H lvs lets) (h12_:lets.length≤10000) (h13_:∀ H' lvs',SameX [le] H H'→H' le=some (.lst lvs')→LetsAt H' lvs' (lets++jK p n (shares.length:Int) made rows z)→Q .non H'):lX C CC vs H Q E_
end Veil
namespace Veil
open PySem L2
structure Apt (a b wa sh le:Addr) (is shs:List Addr):Prop where
 sl:sh≠le
 a1:a≠sh∧a≠le
 b1:b≠sh∧b≠le
 w1:wa≠sh∧wa≠le
 i1:∀ i∈is,i≠sh∧i≠le
 s1:∀ i∈shs,i≠sh∧i≠le
theorem CrsAt.next {C CC:Addr}{H H':Hp}{c:Addr}{p n f:Int}{ss:List Stp}{inp shares:LL}{t a b wa sh le m:Addr}{ws:List V}{is shs:List Addr}{made:List Int}{lvs:List V} (R:CrsAt C CC H c p n f ss inp shares t a b wa sh le ws is shs) (D:Apt a b wa sh le is shs) (hle:H le=some (.lst lvs)) (s:SameX [sh,le] H H') (h1:H' sh=some (.lst ((shs++[m]).map V.ref))) (h2:H' m=some (.lst (made.map V.int))):CrsAt C CC H' c p n f ss inp (shares++[made]) t a b wa sh le ws is (shs++[m]):=by
 have out:∀ x,x≠sh→x≠le→x∉[sh,le]:=fun x h1 h2 h=>by
  rcases List.mem_cons.mp h with e | e
  ·exact h1 e
  ·exact h2 (List.mem_singleton.mp e)
 have tup:∀ x xs,H x=some (.tup xs)→x∉[sh,le]:=fun x xs h=>out x (fun e=>by rw [e,R.hsh] at h;cases h) (fun e=>by rw [e,hle] at h;cases h)
 have ins:∀ x C dx fs,H x=some (.ins C dx fs)→x∉[sh,le]:=fun x C dx fs h=>out x (fun e=>by rw [e,R.hsh] at h;cases h) (fun e=>by rw [e,hle] at h;cases h)
 have lst:∀ {as:List Addr}{rs:LL},InsAt H as rs→(∀ i∈as,i≠sh∧i≠le)→InsAt H' as rs:=fun {as rs} h ne=>by
  induction h with
  | nil=>exact .nil
  | cons r t ih=>exact .cons (s _ _ r (out _ (ne _ List.mem_cons_self).1 (ne _ List.mem_cons_self).2)) (ih fun i hi=>ne i (List.mem_cons_of_mem _ hi))
 obtain ⟨dx,hc⟩:=R.obj
 obtain ⟨dt,ht⟩:=R.tab
 exact ⟨⟨dx,s _ _ hc (ins _ _ _ _ hc)⟩,⟨dt,s _ _ ht (ins _ _ _ _ ht)⟩,s _ _ R.ha (out _ D.a1.1 D.a1.2),Paired.mapP R.st fun v q ⟨x,e,z⟩=>⟨x,e,s _ _ z (tup _ _ z)⟩,s _ _ R.hb (out _ D.b1.1 D.b1.2),lst R.hin D.i1,s _ _ R.hw (out _ D.w1.1 D.w1.2),h1,InsAt.snoc (lst R.hs D.s1) h2⟩
def aR (p n:Int) (ss:List Stp) (inp shares crows:LL) (z:Stp):LL:=List.zipWith (fun x ch=>b6 p n.toNat x ch) (bA p n ss inp shares z) crows
def cm (p n:Int) (shares rows:LL) (z:Stp):List Int:=(aZ n).map fun h=>iX p n shares rows z h
theorem cQ {p n:Int} (hn:0≤n) (ss:List Stp) (inp shares:LL) (z:Stp):(bA p n ss inp shares z).length=(z.dealers n).length:=by
 cases z<;>simp only [bA,Stp.dealers,List.length_cons,List.length_nil,List.length_replicate,List.length_map,bB]
theorem dealtL_b {p:Int} (hp:0<p) (n:Nat) (x:Int) (cs:List Int):∀ v∈b6 p n x cs,0≤v∧v<p:=fun v hv=>by
 obtain ⟨i,_,rfl⟩:=List.mem_map.mp hv
 exact jh hp _ _
theorem e6 {p n:Int} (hp:0<p) (ss:List Stp) (inp shares crows:LL) (z:Stp):ShsOk p n (aR p n ss inp shares crows z):=by
 have all:∀ (xs:List Int) (cs:LL),ShsOk p n (List.zipWith (fun x ch=>b6 p n.toNat x ch) xs cs):=fun xs=>by
  induction xs with
  | nil=>intro cs;exact ⟨fun r h=>by simp at h,fun r h=>by simp at h⟩
  | cons x r ih =>
   intro cs
   cases cs with
   | nil=>exact ⟨fun r h=>by simp at h,fun r h=>by simp at h⟩
   | cons y q =>
    have i:=ih q
    refine ⟨fun r h=>?_,fun r h=>?_⟩
    ·rcases List.mem_cons.mp h with e | e
     ·rw [e,je]
     ·exact i.l r e
    ·rcases List.mem_cons.mp h with e | e
     ·rw [e];exact dealtL_b hp _ _ _
     ·exact i.b r e
 exact all _ _
theorem rows_len {p n:Int} (hn:0≤n) {ss:List Stp}{inp shares crows:LL}{z:Stp} (h:crows.length=(z.dealers n).length):(aR p n ss inp shares crows z).length=(z.dealers n).length:=by
 unfold aR
 rw [List.length_zipWith,cQ hn,h,Nat.min_self]
theorem fP (p n:Int) (shares rows:LL) (z:Stp):(cm p n shares rows z).length=n.toNat:=by unfold cm;rw [List.length_map,bB]
theorem own_b2 {p n:Int} (hp:0<p) {shares:LL} (S:ShsOk p n shares) (h:Int):∀ v∈bD shares h,0≤v∧v<p:=fun v hv=>by
 obtain ⟨r,hr,rfl⟩:=List.mem_map.mp hv
 rw [List.getD_eq_getElem?_getD]
 cases e:r[(h - 1).toNat]? with
 | none=>exact ⟨Int.le_refl _,hp⟩
 | some v=>exact S.b r hr v (List.mem_of_getElem? e)
theorem newSh_b {p n:Int} (hp:0<p) {shares rows:LL} (S:ShsOk p n rows) (z:Stp) (h:Int):0≤iX p n shares rows z h∧iX p n shares rows z h<p:=by
 have md:∀ x:Int,0≤x%p∧x%p<p:=fun x=>⟨Int.emod_nonneg _ (by omega),Int.emod_lt_of_pos _ hp⟩
 cases z with
 | ein k =>
  show 0≤(bD rows h).headD 0∧(bD rows h).headD 0<p
  cases e:bD rows h with
  | nil=>exact ⟨Int.le_refl _,hp⟩
  | cons v r=>exact own_b2 hp S h v (by rw [e];exact List.mem_cons_self)
 | _=>exact md _
theorem mD {p n:Int} (hp:0<p) {shares rows:LL} (S:ShsOk p n rows) (z:Stp):∀ v∈cm p n shares rows z,0≤v∧v<p:=fun v hv=>by
 obtain ⟨h,_,rfl⟩:=List.mem_map.mp hv
 exact newSh_b hp S z h
theorem ShsOk.snoc {p n:Int}{shares:LL} (S:ShsOk p n shares) {r:List Int} (h1:r.length=n.toNat) (h2:∀ v∈r,0≤v∧v<p):ShsOk p n (shares++[r]):=by
 refine ⟨fun x hx=>?_,fun x hx=>?_⟩<;>rcases List.mem_append.mp hx with e | e
 ·exact S.l x e
 ·rw [List.mem_singleton.mp e];exact h1
 ·exact S.b x e
 ·rw [List.mem_singleton.mp e];exact h2
inductive spGo (C CC:Addr) (vs:List V) (H:Hp) (Q:VK) (E_:XK):Prop
 | mk (c ca le:Addr) (p n f:Int) (ss:List Stp) (inp shares crows:LL) (z:Stp) (cs:List Addr) (lvs:List V) (lets:List fS) (t a b wa sh:Addr) (ws:List V) (is shs:List Addr) (h0_:vs=[.ref c,.ref ca]) (h1_:CrsAt C CC H c p n f ss inp shares t a b wa sh le ws is shs) (h2_:Apt a b wa sh le is shs) (h3_:Par p n f ss inp) (h4_:ShsOk p n shares) (h5_:ss[shares.length]?=some z) (h6_:H ca=some (.lst (cs.map V.ref))) (h7_:InsAt H cs crows) (h8_:crows.length=(z.dealers n).length) (h9_:(∀ r∈crows,r.length≤100)) (h10_:H le=some (.lst lvs)) (h11_:LetsAt H lvs lets) (h12_:lets.length≤10000) (h13_:∀ H' m lvs',SameX [sh,le] H H'→H m=none→CrsAt C CC H' c p n f ss inp (shares++[cm p n shares (aR p n ss inp shares crows z) z]) t a b wa sh le ws is (shs++[m])→Apt a b wa sh le is (shs++[m])→H' le=some (.lst lvs')→LetsAt H' lvs' (lets++jK p n (shares.length:Int) (cm p n shares (aR p n ss inp shares crows z) z) (aR p n ss inp shares crows z) z)→Q .non H'):spGo C CC vs H Q E_
end Veil
namespace Veil
open PySem L2
def wgh (p n:Int) (r:List Int):Int:=(List.zipWith (·*·) (aV p n.toNat) r).sum%p
def nA (p n:Int) (shares:LL) (i:Nat) (z:Stp):List (Int×Int):=match z with
 | .opn _=>[((i:Int),wgh p n (shares.getD i []))]
 | _=>[]
def openD (p n:Int) (ss:List Stp) (shares:LL):List (Int×Int):=((List.range ss.length).map fun i=>nA p n shares i (ss.getD i (.fix 0))).flatten
theorem ja {p n:Int}{ss:List Stp}{shares:LL}{i:Nat}{z:Stp} (h:ss[i]?=some z):((List.range (i+1)).map fun i=>nA p n shares i (ss.getD i (.fix 0))).flatten=((List.range i).map fun i=>nA p n shares i (ss.getD i (.fix 0))).flatten++nA p n shares i z:=by
 rw [List.range_succ,List.map_append,List.flatten_append,List.map_singleton,List.getD_eq_getElem?_getD,h]
 simp
inductive gF (C CC:Addr) (vs:List V) (H:Hp) (Q:VK) (E_:XK):Prop
 | mk (c:Addr) (p n f:Int) (ss:List Stp) (inp shares:LL) (h0_:vs=[.ref c]) (h1_:CrsR C CC H c p n f ss inp shares) (h2_:Par p n f ss inp) (h3_:ShsOk p n shares) (h4_:shares.length=ss.length) (h5_:∀ d vs' H',Same H H'→H d=none→H' d=some (.lst vs')→PtsAt H' vs' (openD p n ss shares)→Q (.ref d) H'):gF C CC vs H Q E_
inductive jw (C CC:Addr) (vs:List V) (H:Hp) (Q:VK) (E_:XK):Prop
 | mk (c dx t a b:Addr) (p n f:Int) (h0_:vs=[.ref c,.ref t,.ref a,.ref b]) (h1_:H c=some (.ins CC dx [])) (h2_:TabAt C H t p n f) (h3_:p∈primes9) (h4_:(0≤n∧n≤7)) (h5_:n<p) (h6_:∀ H' wa sh le,(∀ x u,H x=some u→x≠c→H' x=some u)→H wa=none→H sh=none→H le=none→sh≠le→wa≠sh→wa≠le→H' wa=some (.lst ((aV p n.toNat).map V.int))→H' sh=some (.lst [])→H' le=some (.lst [])→H' c=some (.ins CC dx (kG t a b wa sh le))→Q .non H'):jw C CC vs H Q E_
def kC (p n:Int) (ss:List Stp) (inp:LL) (st:LL×List fS) (crows:LL):LL×List fS :=
 (st.1++[cm p n st.1 (aR p n ss inp st.1 crows (ss.getD st.1.length (.fix 0))) (ss.getD st.1.length (.fix 0))],st.2++jK p n (st.1.length:Int) (cm p n st.1 (aR p n ss inp st.1 crows (ss.getD st.1.length (.fix 0))) (ss.getD st.1.length (.fix 0))) (aR p n ss inp st.1 crows (ss.getD st.1.length (.fix 0))) (ss.getD st.1.length (.fix 0)))
def gi (p n:Int) (f:Nat) (ss:List Stp) (inp:LL) (ch:List Int) (i:Nat):LL×List fS:=((bn f n ch ss 0).take i).foldl (kC p n ss inp) ([],[])
theorem dv {p n:Int}{f:Nat}{ss:List Stp}{inp:LL}{ch:List Int}{i:Nat}{z:Stp} (h:ss[i]?=some z):gi p n f ss inp ch (i+1)=kC p n ss inp (gi p n f ss inp ch i) (aA f ch (aG f n (ss.take i)) (z.dealers n).length):=by
 unfold gi
 rw [dr h,List.foldl_append]
 rfl
theorem gH {p n:Int}{f:Nat}{ss:List Stp}{inp:LL}{ch:List Int}:∀ {i:Nat},i≤ss.length→(gi p n f ss inp ch i).1.length=i
 | 0,_=>rfl
 | i+1,h=>by
  rw [dv (List.getElem?_eq_getElem (show i<ss.length by omega))]
  show (_++[_]).length=_
  rw [List.length_append,gH (by omega)]
  rfl
theorem kZ {p n:Int} (hp:0<p) {f:Nat}{ss:List Stp}{inp:LL}{ch:List Int}:∀ {i:Nat},i≤ss.length→ShsOk p n (gi p n f ss inp ch i).1
 | 0,_=>⟨(fun r h=>nomatch h),(fun r h=>nomatch h)⟩
 | i+1,h=>by
  rw [dv (List.getElem?_eq_getElem (show i<ss.length by omega))]
  exact (kZ hp (by omega)).snoc (fP ..) (mD hp (e6 hp ..) _)
def iQ (p n:Int) (f:Nat) (ss:List Stp) (inp:LL) (ch:List Int):LL×List fS:=gi p n f ss inp ch ss.length
theorem cz (f:Nat) (ch:List Int) (u k:Nat):(aA f ch u k).length=k:=by unfold aA;rw [List.length_map,List.length_range]
theorem iE {f:Nat}{ch:List Int}{u k:Nat}:∀ r∈aA f ch u k,r.length≤f∧∀ v∈r,v∈ch:=fun r hr=>by
 unfold aA at hr
 obtain ⟨i,_,rfl⟩:=List.mem_map.mp hr
 refine ⟨by rw [List.length_take];omega,fun v hv=>List.mem_of_mem_drop (List.mem_of_mem_take hv)⟩
inductive oS (C cS cI cC:Addr) (vs:List V) (H:Hp) (Q:VK) (E:XK):Prop
 | mk (t a b c:Addr) (p n f:Int) (ws:List V) (ss:List Stp) (is:List Addr) (inp:LL) (ch:List Int) (h0_:vs=[.ref t,.ref a,.ref b,.ref c]) (h1_:TabAt C H t p n f) (h2_:p∈primes9) (h3_:(3≤n∧n≤7)) (h4_:n<p) (h5_:(f=1∨f=2)) (h6_:2*f<n) (h7_:H a=some (.lst ws)) (h8_:StpsAt H ws ss) (h9_:H b=some (.lst (is.map V.ref))) (h10_:InsAt H is inp) (h11_:(∀ r∈inp,r.length≤1000)) (h12_:H c=some (.lst (ch.map V.int))) (h13_:ch.length≤1000) (h14_:(aT p n ss=true→gq p n ss inp=true→dU p f n ss ch=true→∀ d sh le oa (shs:List Addr) (lvs ovs:List V) H',Same H H'→H d=none→H sh=none→H le=none→H oa=none→sh≠le→sh≠oa→le≠oa→(∀ x∈shs,H x=none∧x≠sh∧x≠le∧x≠oa)→shs.Nodup→H' d=some (.tup [.ref sh,.ref le,.ref oa])→H' sh=some (.lst (shs.map V.ref))→InsAt H' shs (iQ p n f.toNat ss inp ch).1→H' le=some (.lst lvs)→LetsAt H' lvs (iQ p n f.toNat ss inp ch).2→H' oa=some (.lst ovs)→PtsAt H' ovs (openD p n ss (iQ p n f.toNat ss inp ch).1)→Q (.ref d) H')) (h15_:(aT p n ss=false→∀ H',Same H H'→E (.ref cS) none H')) (h16_:(aT p n ss=true→gq p n ss inp=false→∀ H',Same H H'→E (.ref cI) none H')) (h17_:(aT p n ss=true→gq p n ss inp=true→dU p f n ss ch=false→∀ H',Same H H'→E (.ref cC) none H')):oS C cS cI cC vs H Q E
end Veil
namespace Veil
open PySem L2
theorem eP {f:Str}{v:V}:∀ {fs:List (Str×V)},(∀ q∈fs,¬ q.1=f)→cZ f v fs=fs++[(f,v)]
 | [],_=>rfl
 | (g,x)::r,h=>by
  show (if g=f then (g,v)::r else (g,x)::cZ f v r)=_
  rw [if_neg (h (g,x) List.mem_cons_self),eP fun q hq=>h q (List.mem_cons_of_mem _ hq)]
  rfl
theorem nsN {f:Str} (ks:List Str) (h:ks.all (fun k=>decide (¬ k=f))=true) {fs:List (Str×V)} (e:fs.map (·.1)=ks):∀ q∈fs,¬ q.1=f:=fun q hq=>by
 have:=List.all_eq_true.mp h q.1 (by rw [← e];exact List.mem_map_of_mem hq)
 exact of_decide_eq_true this
theorem crs_put (t a b wa sh le:Addr):cZ "letters" (.ref le) (cZ "shares" (.ref sh) (cZ "parts" (.ref wa) (cZ "inputs" (.ref b) (cZ "steps" (.ref a) (cZ "table" (.ref t) [])))))=kG t a b wa sh le:=by
 rw [show cZ ("table":Str) (V.ref t) []=[(("table":Str),V.ref t)] from rfl]
 rw [eP (f:="steps") (nsN ["table"] (by decide +kernel) rfl)]
 rw [eP (f:="inputs") (nsN ["table","steps"] (by decide +kernel) rfl)]
 rw [eP (f:="parts") (nsN ["table","steps","inputs"] (by decide +kernel) rfl)]
 rw [eP (f:="shares") (nsN ["table","steps","inputs","parts"] (by decide +kernel) rfl)]
 rw [eP (f:="letters") (nsN ["table","steps","inputs","parts","shares"] (by decide +kernel) rfl)]
 rfl
theorem eE {f:Str}{v:V}{fs:List (Str×V)}{k:Nat} (h:fs.length≤k):(cZ f v fs).length≤k+1:=Nat.le_trans (dP _ _ _) (by omega)
end Veil
namespace Veil
open PySem L2
theorem InsAt.sx {ex:List Addr}{H H':Hp} (s:SameX ex H H'):∀ {as:List Addr}{rs:LL},InsAt H as rs→(∀ b∈as,b∉ex)→InsAt H' as rs
 | _,_,.nil,_=>.nil
 | _,_,.cons z t,h=>.cons (s _ _ z (h _ List.mem_cons_self)) (InsAt.sx s t fun b hb=>h b (List.mem_cons_of_mem _ hb))
theorem SameX.trans {ex:List Addr}{H H' H'':Hp} (a:SameX ex H H') (b:SameX ex H' H''):SameX ex H H'':=fun x u e n=>b _ _ (a _ _ e n) n
theorem kz {p n:Int} (hn:3≤n∧n≤7) (pl:Int) (made:List Int) (rows:LL) (z:Stp) (hr:∀ r∈rows,r.length≤10):(jK p n pl made rows z).length≤100:=by
 have sent_le:∀ (pl s:Int) (r:List Int),(gu pl s r).length≤r.length:=fun pl s r=>by
  unfold gu
  refine Nat.le_trans (List.length_filterMap_le _ _) ?_
  rw [List.length_range]
  exact Nat.le_refl _
 have letl:∀ (pl:Int) (sd:List Int) (rw_:LL),(∀ r∈rw_,r.length≤10)→(aH pl sd rw_).length≤10*sd.length:=fun pl sd=>by
  induction sd with
  | nil=>intro rw_ _;simp [aH]
  | cons s r ih =>
   intro rw_ hb
   cases rw_ with
   | nil=>simp [aH]
   | cons x y =>
    have:=ih y fun r hr=>hb r (List.mem_cons_of_mem _ hr)
    have h2:=sent_le pl s x
    have h3:=hb x List.mem_cons_self
    unfold aH at this ⊢
    rw [List.zip_cons_cons,List.map_cons,List.flatten_cons,List.length_append,List.length_cons]
    show (gu pl s x).length+_≤_
    omega
 have dl:=cy (n:=n) (by omega) (by omega) z
 have other:(aH pl (z.dealers n) rows).length≤100:=by have:=letl pl (z.dealers n) rows hr;omega
 cases z with
 | opn a =>
  have:=letl pl (aZ n) (made.map fun v=>List.replicate n.toNat v) (fun r h=>by
   obtain ⟨v,_,rfl⟩:=List.mem_map.mp h
   rw [List.length_replicate]
   omega)
  rw [bB] at this
  show (aH pl (aZ n) (made.map fun v=>List.replicate n.toNat v)).length≤100
  omega
 | _=>exact other
end Veil
namespace Veil
open PySem L2
def OnR (p:Int) (n f:Nat) (g:Nat→Int) (v:Int):Prop:=∃ cs:List Int,cs.length=f+1∧(∀ k,k<n→g k%p=av cs (1+(k:Int))%p)∧cs.headD 0%p=v%p
theorem OnR.cong {p:Int}{n f:Nat}{g g':Nat→Int}{v v':Int} (h:OnR p n f g v) (hg:∀ k,k<n→g' k%p=g k%p) (hv:v'%p=v%p):OnR p n f g' v':=by
 obtain ⟨cs,h1,h2,h3⟩:=h
 exact ⟨cs,h1,fun k hk=>(hg k hk).trans (h2 k hk),h3.trans hv.symm⟩
theorem OnR.fix {p:Int}{n f:Nat} (x:Int):OnR p n f (fun _=>x) x:=by
 refine ⟨x::List.replicate f 0,by simp,fun k _=>?_,rfl⟩
 show _=(x+(1+(k:Int))*av (List.replicate f 0) (1+(k:Int)))%p
 rw [ib,Int.mul_zero,Int.add_zero]
theorem nX {p t:Int}:∀ {as bs:List Int},as.length=bs.length→(iK p t as bs).headD 0%p=(as.headD 0+t*bs.headD 0)%p
 | [],[],_=>by simp [iK]
 | a::as,b::bs,_=>by
  show ((a+t*b)%p)%p=(a+t*b)%p
  exact Int.emod_emod_of_dvd _ (Int.dvd_refl p)
 | [],_::_,h=>by simp at h
 | _::_,[],h=>by simp at h
theorem OnR.lin {p:Int}{n f:Nat}{g1 g2:Nat→Int}{v1 v2:Int} (t:Int) (h1:OnR p n f g1 v1) (h2:OnR p n f g2 v2):OnR p n f (fun k=>g1 k+t*g2 k) (v1+t*v2):=by
 obtain ⟨c1,a1,b1,d1⟩:=h1
 obtain ⟨c2,a2,b2,d2⟩:=h2
 have e:c1.length=c2.length:=by omega
 refine ⟨iK p t c1 c2,by rw [eS];omega,fun k hk=>?_,?_⟩
 ·rw [dz _ _ _ e,Int.add_emod,b1 k hk,Int.mul_emod,b2 k hk,← Int.mul_emod,← Int.add_emod]
 ·rw [nX e,Int.add_emod,d1,Int.mul_emod,d2,← Int.mul_emod,← Int.add_emod]
theorem OnR.scale {p:Int}{n f:Nat}{g:Nat→Int}{v:Int} (t:Int) (h:OnR p n f g v):OnR p n f (fun k=>t*g k) (t*v) :=
 ((OnR.fix (p:=p) (n:=n) (f:=f) 0).lin t h).cong (fun k _=>by rw [Int.zero_add]) (by rw [Int.zero_add])
theorem OnR.dealt {p:Int}{n f:Nat}{x:Int}{ch:List Int} (h:ch.length=f):OnR p n f (fun k=>(b6 p n x ch).getD k 0) x:=by
 refine ⟨x::ch,by rw [List.length_cons,h],fun k hk=>?_,rfl⟩
 show (b6 p n x ch).getD k 0%p=_
 unfold b6
 rw [List.getD_eq_getElem?_getD,List.getElem?_map,List.getElem?_range hk]
 show bd p (x::ch) (1+(k:Int))%p=_
 rw [bo,Int.emod_emod_of_dvd _ (Int.dvd_refl p)]
theorem OnR.wsum {p:Int}{n f:Nat}:∀ {W:List Int}{rows:LL}{vs:List Int},Paired (fun r v=>OnR p n f (fun k=>r.getD k 0) v) rows vs→OnR p n f (fun k=>(List.zipWith (·*·) W (rows.map fun r=>r.getD k 0)).sum) (List.zipWith (·*·) W vs).sum
 | [],_,_,_=>(OnR.fix 0).cong (fun k _=>by simp) (by simp)
 | _::_,_,_,.nil=>(OnR.fix 0).cong (fun k _=>by simp) (by simp)
 | x::W,_,_,.cons h t=>by
  have ih:=OnR.wsum (W:=W) t
  refine (ih.lin x h).cong (fun k _=>?_) ?_
  ·congr 1
   simp only [List.map_cons,List.zipWith_cons_cons,List.sum_cons]
   omega
  ·congr 1
   simp only [List.zipWith_cons_cons,List.sum_cons]
   omega
theorem OnR.sum {p:Int}{n f:Nat}:∀ {rows:LL}{vs:List Int},Paired (fun r v=>OnR p n f (fun k=>r.getD k 0) v) rows vs→OnR p n f (fun k=>(rows.map fun r=>r.getD k 0).sum) vs.sum
 | _,_,.nil=>(OnR.fix 0).cong (fun k _=>by simp) (by simp)
 | _,_,.cons h t=>by
  have ih:=OnR.sum t
  refine (ih.lin 1 h).cong (fun k _=>?_) ?_
  ·congr 1
   simp only [List.map_cons,List.sum_cons]
   omega
  ·congr 1
   simp only [List.sum_cons]
   omega
def addP:List Int→List Int→List Int
 | [],b=>b
 | a,[]=>a
 | x::a,y::b=>(x+y)::addP a b
theorem i8:∀ (a b:List Int) (z:Int),av (addP a b) z=av a z+av b z
 | [],b,z=>by simp [addP,av]
 | x::a,[],z=>by simp [addP,av]
 | x::a,y::b,z=>by
  simp only [addP,av,i8 a b z,Int.mul_add]
  omega
theorem m5:∀ (a b:List Int),(addP a b).length=max a.length b.length
 | [],b=>by simp [addP]
 | x::a,[]=>by simp [addP]
 | x::a,y::b=>by
  simp only [addP,List.length_cons,m5 a b]
  omega
def mulP:List Int→List Int→List Int
 | [],_=>[]
 | x::a,b=>addP (b.map (x*·)) (0::mulP a b)
theorem kb (x:Int):∀ (b:List Int) (z:Int),av (b.map (x*·)) z=x*av b z
 | [],z=>by simp [av]
 | y::b,z=>by
  simp only [List.map_cons,av,kb x b z,Int.mul_add]
  rw [← Int.mul_assoc z x,Int.mul_comm z x,Int.mul_assoc x z]
theorem i7:∀ (a b:List Int) (z:Int),av (mulP a b) z=av a z*av b z
 | [],b,z=>by simp [mulP,av]
 | x::a,b,z=>by
  simp only [mulP,i8,av,kb,i7 a b z,Int.zero_add,Int.add_mul,Int.mul_assoc]
theorem mz {b:List Int} (hb:1≤b.length):∀ (a:List Int),(mulP a b).length≤a.length+b.length - 1
 | []=>by simp [mulP]
 | x::a=>by
  have:=mz hb a
  simp only [mulP,m5,List.length_map,List.length_cons] at this ⊢
  omega
theorem pL {a b:List Int} (ha:1≤a.length) (hb:1≤b.length):(mulP a b).headD 0=a.headD 0*b.headD 0:=by
 cases a with
 | nil=>simp at ha
 | cons x a =>
  cases b with
  | nil=>simp at hb
  | cons y b =>
   show x*y+0=x*y
   omega
theorem zipW_pre:∀ {W xs:List Int}{n:Nat},W.length=n→xs.length=n→(List.zipWith (·*·) W xs).sum=fL W (fun k=>xs.getD k 0) n:=by
 have snoc:∀ (W xs:List Int) (n:Nat),W.length=n→xs.length=n→(List.zipWith (·*·) W xs).sum=fL W (fun k=>xs.getD k 0) n:=fun W xs n=>by
  induction n generalizing W xs with
  | zero =>
   intro h1 h2
   rw [List.length_eq_zero_iff.mp h1]
   rfl
  | succ n ih =>
   intro h1 h2
   obtain ⟨W',a,rfl⟩:∃ W' a,W=W'++[a]:=⟨W.dropLast,W.getLast (by intro z;rw [z] at h1;cases h1),(List.dropLast_concat_getLast _).symm⟩
   obtain ⟨xs',b,rfl⟩:∃ W' a,xs=W'++[a]:=⟨xs.dropLast,xs.getLast (by intro z;rw [z] at h2;cases h2),(List.dropLast_concat_getLast _).symm⟩
   have l1:W'.length=n:=by rw [List.length_append] at h1;exact Nat.succ.inj h1
   have l2:xs'.length=n:=by rw [List.length_append] at h2;exact Nat.succ.inj h2
   rw [List.zipWith_append (by omega),List.sum_append,ih W' xs' l1 l2,fL]
   have e1:fL (W'++[a]) (fun k=>(xs'++[b]).getD k 0) n=fL W' (fun k=>xs'.getD k 0) n:=by
    have:∀ m,m≤n→fL (W'++[a]) (fun k=>(xs'++[b]).getD k 0) m=fL W' (fun k=>xs'.getD k 0) m:=fun m=>by
     induction m with
     | zero=>intro _;rfl
     | succ m ihm =>
      intro hm
      rw [fL,fL,ihm (by omega)]
      simp only [List.getD_eq_getElem?_getD]
      rw [List.getElem?_append_left (by omega),List.getElem?_append_left (by omega)]
    exact this n (Nat.le_refl n)
   rw [e1]
   simp only [List.getD_eq_getElem?_getD]
   rw [List.getElem?_append_right (by omega),List.getElem?_append_right (by omega),l1,l2,Nat.sub_self]
   simp
 exact fun {W xs n}=>snoc W xs n
section
variable {p:Int}{n f:Nat} (hp:p∈primes9) (h3:3≤n) (h7:n≤7) (hn:(n:Int)<p)
include hp h3 h7 hn
theorem w_poly {xs:List Int} (hx:xs.length=n) {r:List Int} (hr:r.length≤n) (e:∀ k,k<n→xs.getD k 0%p=av r (1+(k:Int))%p):(List.zipWith (·*·) (aV p n) xs).sum%p=r.headD 0%p:=by
 rw [zipW_pre (dX p n) hx,← ws_row hp h3 h7 hn r hr]
 refine jG n fun k hk=>?_
 rw [e k hk,bo,Int.emod_emod_of_dvd _ (Int.dvd_refl p)]
theorem OnR.prod {g1 g2:Nat→Int}{v1 v2:Int} (hf:2*f<n) (h1:OnR p n f g1 v1) (h2:OnR p n f g2 v2) {xs:List Int} (hx:xs.length=n) (e:∀ k,k<n→xs.getD k 0%p=g1 k*g2 k%p):(List.zipWith (·*·) (aV p n) xs).sum%p=v1*v2%p:=by
 obtain ⟨c1,a1,b1,d1⟩:=h1
 obtain ⟨c2,a2,b2,d2⟩:=h2
 have hl:=mz (b:=c2) (by omega) c1
 rw [w_poly hp h3 h7 hn hx (r:=mulP c1 c2) (by omega) fun k hk=>?_]
 ·rw [pL (by omega) (by omega),Int.mul_emod,d1,d2,← Int.mul_emod]
 ·rw [e k hk,i7,Int.mul_emod,b1 k hk,b2 k hk,← Int.mul_emod]
end
end Veil
namespace Veil
open PySem L2
theorem i0 (f:Nat) (n:Int):∀ (a b:List Stp),aG f n (a++b)=aG f n a+aG f n b
 | [],b=>by simp [aG]
 | z::a,b=>by
  rw [List.cons_append,aG,aG,i0 f n a b]
  omega
theorem dD (f:Nat) {n:Int} (hn:0≤n):∀ ss:List Stp,(aG f n ss:Int)=aY (f:Int) n ss
 | []=>by simp [aG,aY]
 | z::r=>by
  rw [aG,aY,← dD f hn r,← fk hn z]
  push_cast
  rw [Int.mul_comm]
theorem mQ {f:Nat}{n:Int} (hn:0≤n) {ss:List Stp}{ch:List Int} (hc:(ch.length:Int)=aY (f:Int) n ss) {i:Nat}{z:Stp} (hz:ss[i]?=some z):∀ r∈aA f ch (aG f n (ss.take i)) (z.dealers n).length,r.length=f:=fun r hr=>by
 unfold aA at hr
 obtain ⟨k,hk,rfl⟩:=List.mem_map.mp hr
 have hk:=List.mem_range.mp hk
 have h1:=dD f hn ss
 have h2:aG f n ss=aG f n (ss.take (i+1))+aG f n (ss.drop (i+1)):=by rw [← i0,List.take_append_drop]
 rw [cU hz] at h2
 have h3:(k+1)*f≤(z.dealers n).length*f:=Nat.mul_le_mul_right f (by omega)
 rw [Nat.add_mul,Nat.one_mul] at h3
 rw [List.length_take,List.length_drop]
 omega
theorem bi {shares:LL}{k:Nat}{a:Nat}:(bD shares (1+(k:Int))).getD a 0=(shares.getD a []).getD k 0:=by
 unfold bD
 rw [List.getD_eq_getElem?_getD,List.getElem?_map,List.getD_eq_getElem?_getD (l:=shares)]
 cases shares[a]? with
 | none=>rfl
 | some r=>show r.getD (1+(k:Int) - 1).toNat 0=_;rw [show (1+(k:Int) - 1).toNat=k by omega];rfl
theorem dN {rows:LL}{k:Nat}:bD rows (1+(k:Int))=rows.map fun r=>r.getD k 0:=by
 unfold bD
 rw [show (1+(k:Int) - 1).toNat=k by omega]
theorem lD {p n:Int} (hn:0≤n) {shares rows:LL}{z:Stp}{k:Nat} (hk:k<n.toNat):(cm p n shares rows z).getD k 0=iX p n shares rows z (1+(k:Int)):=by
 unfold cm aZ dw
 rw [List.getD_eq_getElem?_getD,List.map_map,List.getElem?_map,List.getElem?_range hk]
 rfl
theorem o8 {p:Int}{n:Nat}{f:Nat}:∀ {nums:List Int}{crows:LL},crows.length=nums.length→(∀ r∈crows,r.length=f)→Paired (fun r v=>OnR p n f (fun k=>r.getD k 0) v) (List.zipWith (fun x ch=>b6 p n x ch) nums crows) nums
 | [],[],_,_=>.nil
 | x::nums,c::crows,h,hf=>.cons (OnR.dealt (hf c List.mem_cons_self)) (o8 (by simpa using h) fun r hr=>hf r (List.mem_cons_of_mem _ hr))
 | [],_::_,h,_=>by simp at h
 | _::_,[],h,_=>by simp at h
def ShOn (p:Int) (n f:Nat) (shares:LL) (fd:List Int):Prop:=shares.length=fd.length∧∀ a,a<shares.length→OnR p n f (fun k=>(shares.getD a []).getD k 0) (fd.getD a 0)
theorem md {p x:Int}:x%p%p=x%p:=Int.emod_emod_of_dvd _ (Int.dvd_refl p)
theorem step_on {p n f:Int}{ss:List Stp}{inp rest:LL}{fd:List Int}{ch:List Int}{shares:LL}{i:Nat}{z:Stp} (PA:Par p n f ss inp) (hc:(ch.length:Int)=aY f n ss) (hz:ss[i]?=some z) (hi:shares.length=i) (S:PlSt p n ss inp i rest fd) (Rr:Rests n ss inp rest i) (O:ShOn p n.toNat f.toNat shares fd) :
  OnR p n.toNat f.toNat (fun k=>(cm p n shares (aR p n ss inp shares (aA f.toNat ch (aG f.toNat n (ss.take i)) (z.dealers n).length) z) z).getD k 0) (jm p rest fd z):=by
 have hn:=PA.hn
 have np:=PA.np
 have fn:=PA.fn
 have hf:=PA.hf
 have pp:=jH PA.hp
 have Rz:=PA.R i z hz
 have ef:(f.toNat:Int)=f:=by omega
 have hc':(ch.length:Int)=aY (f.toNat:Int) n ss:=by rw [ef];exact hc
 have full:=mQ (f:=f.toNat) (n:=n) (by omega) hc' hz
 have cl:=cz f.toNat ch (aG f.toNat n (ss.take i)) (z.dealers n).length
 generalize aA f.toNat ch (aG f.toNat n (ss.take i)) (z.dealers n).length=crows at full cl
 have nl:=cQ (p:=p) (n:=n) (by omega) ss inp shares z
 have PR:=o8 (p:=p) (n:=n.toNat) (f:=f.toNat) (nums:=bA p n ss inp shares z) (crows:=crows) (by rw [cl,nl]) full
 have at_:∀ (a:Int),0≤a→a<(i:Int)→OnR p n.toNat f.toNat (fun k=>(shares.getD a.toNat []).getD k 0) (fd.getD a.toNat 0):=fun a h0 h1=>O.2 a.toNat (by omega)
 have go:∀ {g:Nat→Int}{v:Int},OnR p n.toNat f.toNat g v→(∀ k,k<n.toNat→iX p n shares (aR p n ss inp shares crows z) z (1+(k:Int))%p=g k%p)→jm p rest fd z%p=v%p→OnR p n.toNat f.toNat (fun k=>(cm p n shares (aR p n ss inp shares crows z) z).getD k 0) (jm p rest fd z):=fun h e1 e2=>h.cong (fun k hk=>by
  show (cm p n shares (aR p n ss inp shares crows z) z).getD k 0%p=_
  rw [lD (by omega) hk]
  exact e1 k hk) e2
 have none_:∀ (z':Stp),z'.dealers n=[]→bA p n ss inp shares z'=[]→∀ h,bD (aR p n ss inp shares crows z') h=[]:=fun z' _ e h=>by
  unfold aR bD
  rw [e]
  rfl
 cases z with
 | ein h =>
  have e0:bA p n ss inp shares (.ein h)=[jU ss inp i h]:=by show [jU ss inp shares.length h]=_;rw [hi]
  rw [e0] at PR
  cases crows with
  | nil=>simp [Stp.dealers] at cl
  | cons c0 cr =>
   refine go (OnR.dealt (x:=jU ss inp i h) (full c0 List.mem_cons_self)) (fun k hk=>?_) (by rw [jk Rr Rz.1 Rz.2])
   show (bD (aR p n ss inp shares (c0::cr) (.ein h)) (1+(k:Int))).headD 0%p=_
   unfold aR
   rw [e0,dN]
   rfl
 | fix x =>
  refine go (OnR.fix x) (fun k hk=>?_) rfl
  show (x+(bD (aR p n ss inp shares crows (.fix x)) (1+(k:Int))).sum)%p%p=_
  rw [none_ _ rfl rfl,md]
  simp
 | sum a b =>
  refine go ((at_ a Rz.1.1 Rz.1.2).lin 1 (at_ b Rz.2.1 Rz.2.2)) (fun k hk=>?_) ?_
  ·show (((bD shares (1+(k:Int))).getD a.toNat 0+(bD shares (1+(k:Int))).getD b.toNat 0)%p+(bD (aR p n ss inp shares crows (.sum a b)) (1+(k:Int))).sum)%p%p=_
   rw [none_ _ rfl rfl,bi,bi,md]
   simp
  ·show (fd.getD a.toNat 0+fd.getD b.toNat 0)%p%p=_
   rw [md,Int.one_mul]
 | less a b =>
  refine go ((at_ a Rz.1.1 Rz.1.2).lin (-1) (at_ b Rz.2.1 Rz.2.2)) (fun k hk=>?_) ?_
  ·show (((bD shares (1+(k:Int))).getD a.toNat 0 - (bD shares (1+(k:Int))).getD b.toNat 0)%p+(bD (aR p n ss inp shares crows (.less a b)) (1+(k:Int))).sum)%p%p=_
   rw [none_ _ rfl rfl,bi,bi,md]
   simp [Int.sub_eq_add_neg]
  ·show (fd.getD a.toNat 0 - fd.getD b.toNat 0)%p%p=_
   rw [md,Int.neg_mul,Int.one_mul,Int.sub_eq_add_neg]
 | bye a x =>
  refine go ((at_ a Rz.1.1 Rz.1.2).scale x) (fun k hk=>?_) ?_
  ·show (((bD shares (1+(k:Int))).getD a.toNat 0*x)%p+(bD (aR p n ss inp shares crows (.bye a x)) (1+(k:Int))).sum)%p%p=_
   rw [none_ _ rfl rfl,bi,md]
   simp [Int.mul_comm]
  ·show fd.getD a.toNat 0*x%p%p=_
   rw [md,Int.mul_comm]
 | opn a =>
  refine go (at_ a Rz.1 Rz.2) (fun k hk=>?_) rfl
  show ((bD shares (1+(k:Int))).getD a.toNat 0+(bD (aR p n ss inp shares crows (.opn a)) (1+(k:Int))).sum)%p%p=_
  rw [none_ _ rfl rfl,bi,md]
  simp
 | anew a =>
  refine go ((at_ a Rz.1 Rz.2).lin 1 (OnR.sum PR)) (fun k hk=>?_) ?_
  ·show ((bD shares (1+(k:Int))).getD a.toNat 0+(bD (aR p n ss inp shares crows (.anew a)) (1+(k:Int))).sum)%p%p=_
   rw [bi,dN,md,Int.one_mul]
   rfl
  ·show fd.getD a.toNat 0%p=_
   have e:(bA p n ss inp shares (.anew a)).sum=0:=by
    show (List.replicate n.toNat (0:Int)).sum=0
    simp
   rw [e,Int.mul_zero,Int.add_zero]
 | mul a b =>
  refine go (OnR.wsum (W:=aV p n.toNat) PR) (fun k hk=>?_) ?_
  ·show (List.zipWith (·*·) (aV p n.toNat) (bD (aR p n ss inp shares crows (.mul a b)) (1+(k:Int)))).sum%p%p=_
   rw [dN,md]
   rfl
  ·show fd.getD a.toNat 0*fd.getD b.toNat 0%p%p=_
   rw [md]
   refine (OnR.prod PA.hp (by omega) (by omega) (by omega) (f:=f.toNat) (by omega) (at_ a Rz.1.1 Rz.1.2) (at_ b Rz.2.1 Rz.2.2) (xs:=bA p n ss inp shares (.mul a b)) (by rw [nl];exact bB n) fun k hk=>?_).symm
   show ((aZ n).map fun h=>recV p (bD shares h) (.mul a b)).getD k 0%p=_
   unfold aZ dw
   rw [List.getD_eq_getElem?_getD,List.map_map,List.getElem?_map,List.getElem?_range hk]
   show (bD shares (1+(k:Int))).getD a.toNat 0*(bD shares (1+(k:Int))).getD b.toNat 0%p%p=_
   rw [bi,bi,md]
theorem run_on {p n f:Int}{ss:List Stp}{inp:LL}{ch:List Int} (PA:Par p n f ss inp) (hc:(ch.length:Int)=aY f n ss):∀ i,i≤ss.length→∃ rest fd,PlSt p n ss inp i rest fd∧Rests n ss inp rest i∧ShOn p n.toNat f.toNat (gi p n f.toNat ss inp ch i).1 fd
 | 0,_=>⟨inp,[],PlSt.start PA.io,Rests.start,rfl,fun a h=>by cases h⟩
 | i+1,h=>by
  have pp:=jH PA.hp
  obtain ⟨rest,fd,S,Rr,O⟩:=run_on PA hc i (by omega)
  have ez:ss[i]?=some ss[i]:=List.getElem?_eq_getElem (show i<ss.length by omega)
  have rl:=gH (p:=p) (n:=n) (f:=f.toNat) (ss:=ss) (inp:=inp) (ch:=ch) (i:=i) (by omega)
  refine ⟨_,_,S.next (by omega) ez (PA.R i _ ez),Rr.next (p:=p) S.ok.len ez (PA.R i _ ez),?_⟩
  have on:=step_on PA hc ez rl S Rr O
  rw [dv ez]
  have eg:ss.getD (gi p n f.toNat ss inp ch i).1.length (.fix 0)=ss[i]:=by rw [rl,List.getD_eq_getElem?_getD,ez];rfl
  unfold kC
  rw [eg]
  refine ⟨by rw [List.length_append,List.length_append,O.1];rfl,fun a ha=>?_⟩
  rw [List.length_append,rl] at ha
  have fl:=S.fl
  by_cases e:a<i
  ·have e1:((gi p n f.toNat ss inp ch i).1++[cm p n (gi p n f.toNat ss inp ch i).1 (aR p n ss inp (gi p n f.toNat ss inp ch i).1 (aA f.toNat ch (aG f.toNat n (ss.take i)) ((ss[i]).dealers n).length) ss[i]) ss[i]]).getD a []=(gi p n f.toNat ss inp ch i).1.getD a []:=by
    rw [List.getD_eq_getElem?_getD,List.getElem?_append_left (by omega),← List.getD_eq_getElem?_getD]
   have e2:(fd++[jm p rest fd ss[i]]).getD a 0=fd.getD a 0:=by
    rw [List.getD_eq_getElem?_getD,List.getElem?_append_left (by omega),← List.getD_eq_getElem?_getD]
   simp only [e1,e2]
   exact O.2 a (by omega)
  ·have ea:a=i:=by have:a<i+1:=ha;omega
   subst ea
   have e1:((gi p n f.toNat ss inp ch a).1++[cm p n (gi p n f.toNat ss inp ch a).1 (aR p n ss inp (gi p n f.toNat ss inp ch a).1 (aA f.toNat ch (aG f.toNat n (ss.take a)) ((ss[a]).dealers n).length) ss[a]) ss[a]]).getD a []=cm p n (gi p n f.toNat ss inp ch a).1 (aR p n ss inp (gi p n f.toNat ss inp ch a).1 (aA f.toNat ch (aG f.toNat n (ss.take a)) ((ss[a]).dealers n).length) ss[a]) ss[a]:=by
    rw [List.getD_eq_getElem?_getD,List.getElem?_append_right (by omega),rl,Nat.sub_self]
    rfl
   have e2:(fd++[jm p rest fd ss[a]]).getD a 0=jm p rest fd ss[a]:=by
    rw [List.getD_eq_getElem?_getD,List.getElem?_append_right (by omega),fl,Nat.sub_self]
    rfl
   simp only [e1,e2]
   exact on
end Veil
namespace Veil
open PySem L2
end Veil
namespace Veil
open PySem L2
end Veil
namespace L2
open PySem PySem.Spec PyProof.Rows
theorem sl_listK {X:Cx} (K:PySem.W.Frag) (hK:X.K=K:=by rfl):SlR X (rSlL K):=by
 subst hK
 exact kW
theorem nB {X:Cx} (K:PySem.W.Frag) (hK:X.K=K:=by rfl):OpR X (compareOp .In) (rIn K false):=by
 subst hK
 exact iq
end L2
namespace Veil
open PySem L2
def nz (ss:List Stp) (inp:LL) (hs:List Int):LL:=hs.map fun h=>(bI inp h).take (aS ss h)
inductive dZ (vs:List V) (H:Hp) (Q:VK) (E_:XK):Prop
 | mk (a b s:Addr) (n:Int) (ws:List V) (ss:List Stp) (is:List Addr) (inp:LL) (hs:List Int) (h0_:vs=[.ref a,.ref b,.ref s]) (h1_:H a=some (.lst ws)) (h2_:StpsAt H ws ss) (h3_:H b=some (.lst (is.map V.ref))) (h4_:InsAt H is inp) (h5_:(inp.length:Int)=n) (h6_:H s=some (.lst (hs.map V.int))) (h7_:hs.length≤100) (h8_:(∀ h∈hs,1≤h∧h≤n)) (h9_:NewIns H Q (nz ss inp hs)):dZ vs H Q E_
def eG (hs ds:List Int) (rows:LL):List Int:=((ds.zip rows).map fun q=>if q.1∈hs then q.2 else []).flatten
def fo (n:Int) (hs:List Int) (ss:List Stp) (L:List LL) (i:Nat):List Int:=(((ss.zip L).take i).map fun q=>eG hs (q.1.dealers n) q.2).flatten
def qj (f:Nat) (n:Int) (ch hs:List Int) (ss:List Stp):List Int:=fo n hs ss (bn f n ch ss 0) ss.length
theorem kI {hs ds:List Int}{rows:LL}{k:Nat}{d:Int}{r:List Int} (h1:ds[k]?=some d) (h2:rows[k]?=some r):eG hs (ds.take (k+1)) (rows.take (k+1))=eG hs (ds.take k) (rows.take k)++(if d∈hs then r else []):=by
 unfold eG
 have hz:(ds.zip rows)[k]?=some (d,r):=by rw [List.getElem?_zip_eq_some];exact ⟨h1,h2⟩
 rw [dW,dW,List.take_add_one,hz,List.map_append,List.flatten_append]
 simp
theorem kJ {n:Int}{hs:List Int}{ss:List Stp}{L:List LL}{i:Nat}{z:Stp}{rows:LL} (h1:ss[i]?=some z) (h2:L[i]?=some rows):fo n hs ss L (i+1)=fo n hs ss L i++eG hs (z.dealers n) rows:=by
 unfold fo
 have hz:(ss.zip L)[i]?=some (z,rows):=by rw [List.getElem?_zip_eq_some];exact ⟨h1,h2⟩
 rw [List.take_add_one,hz,List.map_append,List.flatten_append]
 simp
theorem om {f:Nat}{n:Int}{ch:List Int}{ss:List Stp}{i:Nat}{z:Stp} (h:ss[i]?=some z):(bn f n ch ss 0)[i]?=some (aA f ch (aG f n (ss.take i)) (z.dealers n).length):=by
 have il:i<ss.length:=(List.getElem?_eq_some_iff.mp h).1
 rw [dh,List.getElem?_map,List.getElem?_range il,Option.map_some,Nat.zero_add,List.getD_eq_getElem?_getD,h]
 rfl
theorem iF {hs ds:List Int}{rows:LL}{f:Nat} (hr:∀ r∈rows,r.length≤f):(eG hs ds rows).length≤ds.length*f:=by
 unfold eG
 induction ds generalizing rows with
 | nil=>simp
 | cons d t ih =>
  cases rows with
  | nil=>simp
  | cons r rs =>
   rw [List.zip_cons_cons,List.map_cons,List.flatten_cons,List.length_append,List.length_cons,Nat.add_mul,Nat.one_mul]
   have h1:=ih (rows:=rs) fun q hq=>hr q (.tail _ hq)
   have h2:=hr r (.head _)
   have h3:(if d∈hs then r else []).length≤f:=by split;exact h2;exact Nat.zero_le _
   have h4:(if (d,r).fst∈hs then (d,r).snd else [])=(if d∈hs then r else []):=rfl
   rw [h4]
   omega
inductive d0 (C:Addr) (vs:List V) (H:Hp) (Q:VK) (E_:XK):Prop
 | mk (t a c s:Addr) (p n f:Int) (ws:List V) (ss:List Stp) (ch hs:List Int) (h0_:vs=[.ref t,.ref a,.ref c,.ref s]) (h1_:TabAt C H t p n f) (h2_:(0≤n∧n≤10)) (h3_:(0≤f∧f≤2)) (h4_:H a=some (.lst ws)) (h5_:StpsAt H ws ss) (h6_:ss.length≤100) (h7_:H c=some (.lst (ch.map V.int))) (h8_:H s=some (.lst (hs.map V.int))) (h9_:NewQ H Q ((qj f.toNat n ch hs ss).map V.int)):d0 C vs H Q E_
def bG (hs:List Int) (ls:List fS):List fS:=ls.filter fun l=>decide (l.2.2.1∈hs)
def dlet (l:fS):PySem.W.Dat:=.tuple [.int l.1,.int l.2.1,.int l.2.2.1,.int l.2.2.2]
theorem LetsAt.rep {H:Hp}:∀ {vs:List V}{ls:List fS},LetsAt H vs ls→RepDs H vs (ls.map dlet)
 | _,_,.nil=>.nil
 | _,_,.cons ⟨a,e,z⟩ t=>by
  subst e
  exact .cons (.tup z (.cons (.int _) (.cons (.int _) (.cons (.int _) (.cons (.int _) .nil))))) (LetsAt.rep t)
theorem pO (ls:List fS):PySem.W.kqdOk 8 (.list (ls.map dlet))=true:=by
 show (ls.map dlet).all (PySem.W.kqdOk 7)=true
 rw [List.all_map]
 exact List.all_eq_true.mpr fun s _=>rfl
theorem j8 {p n:Int} (hp:0<p) (hn:3≤n∧n≤7) {f:Nat}{ss:List Stp}{inp:LL}{ch:List Int}:∀ {i:Nat},i≤ss.length→(gi p n f ss inp ch i).2.length≤100*i
 | 0,_=>Nat.le_refl _
 | i+1,h=>by
  have ez:ss[i]?=some ss[i]:=List.getElem?_eq_getElem (by omega)
  rw [dv ez]
  have ih:=j8 hp hn (f:=f) (ss:=ss) (inp:=inp) (ch:=ch) (i:=i) (by omega)
  generalize gi p n f ss inp ch i=st at ih
  unfold kC
  rw [List.length_append]
  have:=kz (p:=p) hn (st.1.length:Int) (cm p n st.1 (aR p n ss inp st.1 (aA f ch (aG f n (ss.take i)) ((ss[i]).dealers n).length) (ss.getD st.1.length (.fix 0))) (ss.getD st.1.length (.fix 0))) (aR p n ss inp st.1 (aA f ch (aG f n (ss.take i)) ((ss[i]).dealers n).length) (ss.getD st.1.length (.fix 0))) (ss.getD st.1.length (.fix 0)) (fun r hr=>by have:=(e6 (p:=p) (n:=n) hp ss inp st.1 (aA f ch (aG f n (ss.take i)) ((ss[i]).dealers n).length) (ss.getD st.1.length (.fix 0))).l r hr;omega)
  omega
inductive jo (C cS cI cC cH:Addr) (vs:List V) (H:Hp) (Q:VK) (E:XK):Prop
 | mk (t a b c s:Addr) (p n f:Int) (ws:List V) (ss:List Stp) (is:List Addr) (inp:LL) (ch hs:List Int) (h0_:vs=[.ref t,.ref a,.ref b,.ref c,.ref s]) (h1_:TabAt C H t p n f) (h2_:p∈primes9) (h3_:(3≤n∧n≤7)) (h4_:n<p) (h5_:(f=1∨f=2)) (h6_:2*f<n) (h7_:H a=some (.lst ws)) (h8_:StpsAt H ws ss) (h9_:H b=some (.lst (is.map V.ref))) (h10_:InsAt H is inp) (h11_:(∀ r∈inp,r.length≤1000)) (h12_:H c=some (.lst (ch.map V.int))) (h13_:ch.length≤1000) (h14_:H s=some (.lst (hs.map V.int))) (h15_:hs.length≤100) (h16_:(aT p n ss=true→gq p n ss inp=true→dU p f n ss ch=true→risB n hs=true→∀ d oa ua la (os:List Addr) (lvs:List V) H',Same H H'→H d=none→H oa=none→H ua=none→H la=none→d≠oa→d≠ua→d≠la→oa≠ua→oa≠la→ua≠la→(∀ x∈os,H x=none∧x≠d∧x≠oa∧x≠ua∧x≠la)→os.Nodup→H' d=some (.tup [.ref oa,.ref ua,.ref la])→H' oa=some (.lst (os.map V.ref))→InsAt H' os (nz ss inp hs)→H' ua=some (.lst ((qj f.toNat n ch hs ss).map V.int))→H' la=some (.lst lvs)→LetsAt H' lvs (bG hs (iQ p n f.toNat ss inp ch).2)→Q (.ref d) H')) (h17_:(aT p n ss=false→∀ H',Same H H'→E (.ref cS) none H')) (h18_:(aT p n ss=true→gq p n ss inp=false→∀ H',Same H H'→E (.ref cI) none H')) (h19_:(aT p n ss=true→gq p n ss inp=true→dU p f n ss ch=false→∀ H',Same H H'→E (.ref cC) none H')) (h20_:(aT p n ss=true→gq p n ss inp=true→dU p f n ss ch=true→risB n hs=false→∀ H',Same H H'→E (.ref cH) none H')):jo C cS cI cC cH vs H Q E
end Veil
namespace Veil
open PySem L2
end Veil
namespace L2
open PySem PySem.Spec PyProof.Rows
end L2
namespace Veil
open PySem L2
end Veil
namespace Veil
open PySem L2
structure Giv (H8:Hp) (g0 R gv:Addr) (H:Hp) (g2:Addr) (ss:List Stp) (inp:LL) (ch:List Int):Prop where
 s:Same H8 H
 v:H gv=some (.lst [.ref g0,.ref R,.ref g2])
 st:∃ ws,H g0=some (.lst ws)∧StpsAt H ws ss
 i:∃ as:List Addr,H R=some (.lst (as.map V.ref))∧InsAt H as inp∧∀ x∈as,x≠g0∧x≠R∧x≠gv
 c:H g2=some (.lst (ch.map V.int))
 n:g2≠g0∧g2≠R∧g2≠gv
structure GivN (H8:Hp) (g0 R gv:Addr):Prop where
 f:H8 g0=none∧H8 R=none∧H8 gv=none
 n:g0≠R∧g0≠gv∧R≠gv
end Veil
namespace Veil
open PySem L2
def Mid (i:Int):Prop:=-1000<i∧i<1000
theorem at3 (x y z c:Int) (hx:Mid x) (hy:Mid y) (hz:Mid z):∃ n,Mid n∧atI [V.int x,V.int y,V.int z] (c%3)=some (.int n):=by
 have h0:=Int.emod_nonneg c (show (3:Int)≠0 by decide)
 have h1:=Int.emod_lt_of_pos c (show (0:Int)<3 by decide)
 rcases (show c%3=0∨c%3=1∨c%3=2 by omega) with h | h | h<;>rw [h]
 ·exact ⟨x,hx,rfl⟩
 ·exact ⟨y,hy,rfl⟩
 ·exact ⟨z,hz,rfl⟩
end Veil
namespace L2
open PySem PySem.Spec PyProof.Rows
section
variable {P:Program}{w:World}{K:PySem.W.Frag}{mg:Str→Option Value}{base:Heap}{N:List Str}{qual:Str}{scope:Scope}{f C:Addr}{cd:Value}{A:Around}{outer:List Env}{s0:Shared}{H0:Hp}{E:XK}{k j:Nat}{x:Str}{p pos:Pos}{e:Expr}{es:List Expr}{t:TA}{ps:List Str}{sp:Sp}
end
end L2
namespace Veil
open PySem L2
structure ClsIx (K:PySem.W.Frag) (mg:Str→Option Value) (cl:Nat→Addr) (bm:Nat→List Value) (cV:Addr):Prop where
 ec:∀ i,i<9→ExCls K (cl i)
 kt:∀ i j,i<9→j<9→PySem.W.kitOne K (.ref (cl i)) (.ref (cl j))=some (decide (i=j))
 kV:∀ i,i<9→PySem.W.kitOne K (.ref (cl i)) (.ref cV)=some true
 kE:∀ i,i<9→PySem.W.kitOne K (.ref (cl i)) (.type "ValueError")=some true
 ex:∀ i,i<9→∃ x,Exc K mg x (cl i) (bm i)
 inV:∀ i,i<9→(Value.ref (cl i)::bm i).contains (.ref cV)=true
end Veil
namespace Veil
open PySem L2
def opnF (q:Stp×Int):Option Int:=match q.1 with
 | .opn _=>some q.2
 | _=>none
def opnV (ss:List Stp) (nums:List Int):List Int:=(ss.zip nums).filterMap opnF
def c9 (p:Int) (ss:List Stp) (inp oth:LL) (hs:List Int):Bool:=decide (nz ss inp hs=nz ss oth hs) && decide (opnV ss (ay p ss inp)=opnV ss (ay p ss oth))
def gS (p:Int) (cover row:List Int) (d:Int):List Int:=List.zipWith (fun v c=>(v+c*d)%p) row (cover.drop 1)
end Veil
namespace Veil
open PySem L2
def ge (p:Int) (cover hs:List Int) (h:Int) (row:List Int) (b a:Int):List Int:=if h∈hs then row else gS p cover row (a - b)
def bJ (p:Int) (cover hs hands:List Int) (crows:LL) (n1 n2:List Int):LL:=(List.range hands.length).map fun k=>ge p cover hs (hands.getD k 0) (crows.getD k []) (n1.getD k 0) (n2.getD k 0)
theorem cw {p:Int}{cover hs hands:List Int}{crows:LL}{n1 n2:List Int}:(bJ p cover hs hands crows n1 n2).length=hands.length:=by unfold bJ;rw [List.length_map,List.length_range]
end Veil
namespace Veil
open PySem L2
structure ExSt where
 here:LL×List fS
 there:LL×List fS
 found:List Int
def bj (p n:Int) (f:Nat) (ss:List Stp) (inp oth:LL) (ch cover hs:List Int) (i:Nat) (s:ExSt):LL:=bJ p cover hs ((ss.getD i (.fix 0)).dealers n) (aA f ch (aG f n (ss.take i)) ((ss.getD i (.fix 0)).dealers n).length) (bA p n ss inp s.here.1 (ss.getD i (.fix 0))) (bA p n ss oth s.there.1 (ss.getD i (.fix 0)))
def exI (p n:Int) (f:Nat) (ss:List Stp) (inp oth:LL) (ch cover hs:List Int):Nat→ExSt
 | 0=>⟨([],[]),([],[]),[]⟩
 | i+1=>⟨kC p n ss inp (exI p n f ss inp oth ch cover hs i).here (aA f ch (aG f n (ss.take i)) ((ss.getD i (.fix 0)).dealers n).length),kC p n ss oth (exI p n f ss inp oth ch cover hs i).there (bj p n f ss inp oth ch cover hs i (exI p n f ss inp oth ch cover hs i)),(exI p n f ss inp oth ch cover hs i).found++(bj p n f ss inp oth ch cover hs i (exI p n f ss inp oth ch cover hs i)).flatten⟩
def exD (p n:Int) (f:Nat) (ss:List Stp) (inp oth:LL) (ch hs:List Int):List Int:=(exI p n f ss inp oth ch (bh p f hs) hs ss.length).found
theorem goSt_len {p n:Int}{ss:List Stp}{inp:LL}{st:LL×List fS}{crows:LL}:(kC p n ss inp st crows).1.length=st.1.length+1:=by
 show (_++[_]).length=_
 rw [List.length_append]
 rfl
theorem p3 {p n:Int}{f:Nat}{ss:List Stp}{inp oth:LL}{ch cover hs:List Int}:∀ i,(exI p n f ss inp oth ch cover hs i).here.1.length=i∧(exI p n f ss inp oth ch cover hs i).there.1.length=i
 | 0=>⟨rfl,rfl⟩
 | i+1=>by
  have ih:=p3 (p:=p) (n:=n) (f:=f) (ss:=ss) (inp:=inp) (oth:=oth) (ch:=ch) (cover:=cover) (hs:=hs) i
  exact ⟨goSt_len.trans (by rw [ih.1]),goSt_len.trans (by rw [ih.2])⟩
theorem pX {p n:Int} (hp:0<p) {ss:List Stp}{inp:LL}{st:LL×List fS}{crows:LL} (h:ShsOk p n st.1):ShsOk p n (kC p n ss inp st crows).1:=h.snoc (fP ..) (mD hp (e6 hp ..) _)
theorem p0 {p n:Int} (hp:0<p) {f:Nat}{ss:List Stp}{inp oth:LL}{ch cover hs:List Int}:∀ i,ShsOk p n (exI p n f ss inp oth ch cover hs i).here.1∧ShsOk p n (exI p n f ss inp oth ch cover hs i).there.1
 | 0=>⟨⟨(fun r h=>nomatch h),(fun r h=>nomatch h)⟩,⟨(fun r h=>nomatch h),(fun r h=>nomatch h)⟩⟩
 | i+1=>⟨pX hp (p0 hp i).1,pX hp (p0 hp i).2⟩
theorem gP {p n:Int}{f:Nat}{ss:List Stp}{inp oth:LL}{ch cover hs:List Int}:∀ i,i≤ss.length→(exI p n f ss inp oth ch cover hs i).here=gi p n f ss inp ch i
 | 0,_=>rfl
 | i+1,h=>by
  have e:ss[i]?=some ss[i]:=List.getElem?_eq_getElem (by omega)
  rw [dv e,← gP (oth:=oth) (cover:=cover) (hs:=hs) i (by omega)]
  show kC p n ss inp _ (aA f ch (aG f n (ss.take i)) ((ss.getD i (.fix 0)).dealers n).length)=_
  rw [show ss.getD i (.fix 0)=ss[i] by rw [List.getD_eq_getElem?_getD,e];rfl]
end Veil
namespace Veil
open PySem L2
end Veil
namespace Veil
open PySem L2
section
variable {p n f:Int}{ss:List Stp}{inp oth:LL}{ch hs:List Int}
end
end Veil
namespace Veil
open PySem L2
def StA (H:Hp) (g x:Addr) (ss:List Stp):Prop:=x≠g∧∃ ws,H x=some (.lst ws)∧StpsAt H ws ss
def InA (H:Hp) (g x:Addr) (inp:LL):Prop:=x≠g∧∃ as:List Addr,H x=some (.lst (as.map V.ref))∧InsAt H as inp∧g∉as
def NuA (H:Hp) (g x:Addr) (l:List Int):Prop:=x≠g∧H x=some (.lst (l.map V.int))
structure GivX (H8:Hp) (gv:Addr) (H:Hp) (x0 x1 x2 x3 x4:Addr) (ss:List Stp) (inp oth:LL) (ch hs:List Int):Prop where
 s:Same H8 H
 v:H gv=some (.lst [.ref x0,.ref x1,.ref x2,.ref x3,.ref x4])
 a0:StA H gv x0 ss
 a1:InA H gv x1 inp
 a2:InA H gv x2 oth
 a3:NuA H gv x3 ch
 a4:NuA H gv x4 hs
end Veil
namespace Veil
open PySem L2
theorem mI (f:Nat) (ch:List Int) (u:Nat):∀ k,(aA f ch u k).flatten=(ch.drop u).take (k*f)
 | 0=>by simp [aA]
 | k+1=>by
  have ih:=mI f ch u k
  unfold aA at ih ⊢
  rw [List.range_succ,List.map_append,List.flatten_append,ih,Nat.succ_mul,List.take_add,List.drop_drop]
  simp
theorem cut_cons (f:Nat) (ch:List Int) (u k:Nat):aA f ch u (k+1)=(ch.drop u).take f::aA f ch (u+f) k:=by
 unfold aA
 rw [List.range_succ_eq_map,List.map_cons,List.map_map]
 simp only [Nat.zero_mul,Nat.add_zero]
 congr 1
 refine List.map_congr_left fun i _=>?_
 show (ch.drop (u+(i+1)*f)).take f=_
 rw [Nat.succ_mul,show u+(i*f+f)=u+f+i*f by omega]
theorem mR {f:Nat}:∀ {R:LL}{A B:List Int},(∀ r∈R,r.length=f)→aA f (A++(R.flatten++B)) A.length R.length=R
 | [],A,B,_=>rfl
 | r::R,A,B,h=>by
  have hr:=h r (List.mem_cons_self ..)
  have ih:=mR (R:=R) (A:=A++r) (B:=B) fun x hx=>h x (List.mem_cons_of_mem _ hx)
  rw [List.length_append,hr,List.append_assoc] at ih
  rw [List.length_cons,cut_cons,List.flatten_cons,List.append_assoc r,ih,List.drop_left,List.take_left' hr]
theorem lU {p d e:Int} (hd:d+e=0):∀ {row C:List Int},row.length≤C.length→(∀ v∈row,0≤v∧v<p)→List.zipWith (fun v c=>(v+c*e)%p) (List.zipWith (fun v c=>(v+c*d)%p) row C) C=row
 | [],_,_,_=>by simp
 | v::row,[],h,_=>by simp at h
 | v::row,c::C,h,hb=>by
  have hv:=hb v (List.mem_cons_self ..)
  rw [List.zipWith_cons_cons,List.zipWith_cons_cons,lU hd (by simpa using h) fun x hx=>hb x (List.mem_cons_of_mem _ hx)]
  congr 1
  rw [Int.emod_add_emod,Int.add_assoc,← Int.mul_add,hd,Int.mul_zero,Int.add_zero,Int.emod_eq_of_lt hv.1 hv.2]
theorem oE {p:Int}:∀ {row C:List Int},row.length≤C.length→(∀ v∈row,0≤v∧v<p)→List.zipWith (fun v c=>(v+c*0)%p) row C=row
 | [],_,_,_=>by simp
 | v::row,[],h,_=>by simp at h
 | v::row,c::C,h,hb=>by
  have hv:=hb v (List.mem_cons_self ..)
  rw [List.zipWith_cons_cons,oE (by simpa using h) fun x hx=>hb x (List.mem_cons_of_mem _ hx)]
  congr 1
  rw [Int.mul_zero,Int.add_zero,Int.emod_eq_of_lt hv.1 hv.2]
section
variable {p:Int}{f:Nat}{cover hs:List Int} (hp:0<p) (hc:cover.length=f+1)
include hp hc
theorem pZ {h b a:Int}{row:List Int} (hr:row.length=f):(ge p cover hs h row b a).length=f:=by
 unfold ge
 split
 ·exact hr
 ·unfold gS
  rw [List.length_zipWith,List.length_drop]
  omega
theorem exRow_b {h b a:Int}{row:List Int} (hb:∀ v∈row,0≤v∧v<p):∀ v∈ge p cover hs h row b a,0≤v∧v<p:=by
 unfold ge
 split
 ·exact hb
 ·intro v hv
  unfold gS at hv
  rw [List.mem_iff_getElem?] at hv
  obtain ⟨i,hi⟩:=hv
  rw [List.getElem?_zipWith] at hi
  split at hi
  ·rw [← Option.some.inj hi]
   exact ⟨Int.emod_nonneg _ (by omega),Int.emod_lt_of_pos _ hp⟩
  ·cases hi
theorem n9 {h b a:Int}{row:List Int} (hr:row.length=f) (hb:∀ v∈row,0≤v∧v<p):ge p cover hs h (ge p cover hs h row b a) a b=row:=by
 unfold ge
 split
 ·rfl
 ·exact lU (by omega) (by rw [List.length_drop];omega) hb
theorem n6 {h b:Int}{row:List Int} (hr:row.length=f) (hb:∀ v∈row,0≤v∧v<p):ge p cover hs h row b b=row:=by
 unfold ge
 split
 ·rfl
 ·unfold gS
  rw [Int.sub_self]
  exact oE (by rw [List.length_drop];omega) hb
theorem nZ {hands n1 n2:List Int}{crows:LL} (hl:crows.length=hands.length) (hr:∀ r∈crows,r.length=f∧∀ v∈r,0≤v∧v<p):∀ r∈bJ p cover hs hands crows n1 n2,r.length=f∧∀ v∈r,0≤v∧v<p:=fun r h=>by
 unfold bJ at h
 obtain ⟨k,hk,rfl⟩:=List.mem_map.mp h
 have hk:=List.mem_range.mp hk
 have hm:crows.getD k []∈crows:=by
  rw [List.getD_eq_getElem?_getD,List.getElem?_eq_getElem (by omega)]
  exact List.getElem_mem _
 exact ⟨pZ hp hc (hr _ hm).1,exRow_b hp hc (hr _ hm).2⟩
omit hp hc in
theorem fR {hands n1 n2:List Int}{crows:LL}{k:Nat} (hk:k<hands.length):(bJ p cover hs hands crows n1 n2).getD k []=ge p cover hs (hands.getD k 0) (crows.getD k []) (n1.getD k 0) (n2.getD k 0):=by
 unfold bJ
 rw [List.getD_eq_getElem?_getD,List.getElem?_map,List.getElem?_range hk]
 rfl
theorem lM {hands n1 n2:List Int}{crows:LL} (hl:crows.length=hands.length) (hr:∀ r∈crows,r.length=f∧∀ v∈r,0≤v∧v<p):bJ p cover hs hands (bJ p cover hs hands crows n1 n2) n2 n1=crows:=by
 refine List.ext_getElem (by rw [cw,hl]) fun k h1 h2=>?_
 have e1:(bJ p cover hs hands (bJ p cover hs hands crows n1 n2) n2 n1).getD k []=(bJ p cover hs hands (bJ p cover hs hands crows n1 n2) n2 n1)[k]:=by rw [List.getD_eq_getElem?_getD,List.getElem?_eq_getElem h1];rfl
 have e2:crows.getD k []=crows[k]:=by rw [List.getD_eq_getElem?_getD,List.getElem?_eq_getElem h2];rfl
 have hm:=hr _ (List.getElem_mem h2)
 rw [← e1,fR (by omega),fR (by omega),e2,n9 hp hc hm.1 hm.2]
theorem lL {hands ns:List Int}{crows:LL} (hl:crows.length=hands.length) (hr:∀ r∈crows,r.length=f∧∀ v∈r,0≤v∧v<p):bJ p cover hs hands crows ns ns=crows:=by
 refine List.ext_getElem (by rw [cw,hl]) fun k h1 h2=>?_
 have e1:(bJ p cover hs hands crows ns ns).getD k []=(bJ p cover hs hands crows ns ns)[k]:=by rw [List.getD_eq_getElem?_getD,List.getElem?_eq_getElem h1];rfl
 have e2:crows.getD k []=crows[k]:=by rw [List.getD_eq_getElem?_getD,List.getElem?_eq_getElem h2];rfl
 have hm:=hr _ (List.getElem_mem h2)
 rw [← e1,fR (by omega),e2,n6 hp hc hm.1 hm.2]
variable {n:Int}{ss:List Stp}{ch:List Int} (hn:0≤n) (hl:(ch.length:Int)=aY (f:Int) n ss) (hb:∀ v∈ch,0≤v∧v<p)
include hn hl hb
omit hp hc in
theorem qc {i:Nat} (hi:i<ss.length):∀ r∈aA f ch (aG f n (ss.take i)) ((ss.getD i (.fix 0)).dealers n).length,r.length=f∧∀ v∈r,0≤v∧v<p:=fun r hr=>by
 have e:ss[i]?=some (ss.getD i (.fix 0)):=by rw [List.getD_eq_getElem?_getD,List.getElem?_eq_getElem hi];rfl
 exact ⟨mQ hn hl e r hr,fun v hv=>hb v ((iE r hr).2 v hv)⟩
theorem p4 {inp oth:LL}{i:Nat} (hi:i<ss.length) (s:ExSt):∀ r∈bj p n f ss inp oth ch cover hs i s,r.length=f∧∀ v∈r,0≤v∧v<p:=nZ hp hc (cz ..) (qc hn hl hb hi)
theorem jS {inp oth:LL}:∀ i,i≤ss.length→(exI p n f ss inp oth ch cover hs i).found.length=aG f n (ss.take i)∧∀ v∈(exI p n f ss inp oth ch cover hs i).found,0≤v∧v<p
 | 0,_=>⟨rfl,fun v h=>nomatch h⟩
 | i+1,h=>by
  have ih:=jS (inp:=inp) (oth:=oth) i (by omega)
  have e:ss[i]?=some (ss.getD i (.fix 0)):=by rw [List.getD_eq_getElem?_getD,List.getElem?_eq_getElem (by omega)];rfl
  have ok:=p4 (hs:=hs) (inp:=inp) (oth:=oth) hp hc hn hl hb (show i<ss.length by omega) (exI p n f ss inp oth ch cover hs i)
  show ((exI p n f ss inp oth ch cover hs i).found++(bj p n f ss inp oth ch cover hs i (exI p n f ss inp oth ch cover hs i)).flatten).length=_∧∀ v∈(exI p n f ss inp oth ch cover hs i).found++(bj p n f ss inp oth ch cover hs i (exI p n f ss inp oth ch cover hs i)).flatten,_
  have fl:∀ {R:LL},(∀ r∈R,r.length=f∧∀ v∈r,0≤v∧v<p)→R.flatten.length=R.length*f:=fun {R} hR=>by
   induction R with
   | nil=>simp
   | cons r R ih =>
    rw [List.flatten_cons,List.length_append,ih fun x hx=>hR x (List.mem_cons_of_mem _ hx),(hR r (List.mem_cons_self ..)).1,List.length_cons,Nat.succ_mul]
    omega
  refine ⟨?_,fun v hv=>?_⟩
  ·rw [List.length_append,ih.1,fl ok,cU e]
   unfold bj
   rw [cw]
  ·rcases List.mem_append.mp hv with z | z
   ·exact ih.2 v z
   ·obtain ⟨r,hr,hv⟩:=List.mem_flatten.mp z
    exact (ok r hr).2 v hv
omit hp hc hn hl hb in
theorem ex_pre {inp oth:LL}{i:Nat}:∀ j,i≤j→∃ B,(exI p n f ss inp oth ch cover hs j).found=(exI p n f ss inp oth ch cover hs i).found++B
 | 0,h=>by
  have:i=0:=by omega
  subst this
  exact ⟨[],(List.append_nil _).symm⟩
 | j+1,h=>by
  by_cases e:i=j+1
  ·subst e
   exact ⟨[],(List.append_nil _).symm⟩
  ·obtain ⟨B,hB⟩:=ex_pre (inp:=inp) (oth:=oth) (i:=i) j (by omega)
   refine ⟨B++(bj p n f ss inp oth ch cover hs j (exI p n f ss inp oth ch cover hs j)).flatten,?_⟩
   show (exI p n f ss inp oth ch cover hs j).found++_=_
   rw [hB,List.append_assoc]
theorem ex_cut {inp oth:LL}{i:Nat} (hi:i<ss.length):aA f (exI p n f ss inp oth ch cover hs ss.length).found (aG f n (ss.take i)) ((ss.getD i (.fix 0)).dealers n).length=bj p n f ss inp oth ch cover hs i (exI p n f ss inp oth ch cover hs i):=by
 obtain ⟨B,hB⟩:=ex_pre (p:=p) (f:=f) (cover:=cover) (hs:=hs) (n:=n) (ss:=ss) (ch:=ch) (inp:=inp) (oth:=oth) (i:=i+1) ss.length hi
 have hB:_=((exI p n f ss inp oth ch cover hs i).found++(bj p n f ss inp oth ch cover hs i (exI p n f ss inp oth ch cover hs i)).flatten)++B:=hB
 have fl:=(jS (hs:=hs) (inp:=inp) (oth:=oth) hp hc hn hl hb i (by omega)).1
 have ok:=p4 (hs:=hs) (inp:=inp) (oth:=oth) hp hc hn hl hb hi (exI p n f ss inp oth ch cover hs i)
 have ln:(bj p n f ss inp oth ch cover hs i (exI p n f ss inp oth ch cover hs i)).length=((ss.getD i (.fix 0)).dealers n).length:=by unfold bj;exact cw
 rw [hB,List.append_assoc,← fl,← ln]
 exact mR fun r hr=>(ok r hr).1
theorem lK {inp oth:LL}:∀ i,i≤ss.length→(exI p n f ss oth inp (exI p n f ss inp oth ch cover hs ss.length).found cover hs i).here=(exI p n f ss inp oth ch cover hs i).there∧(exI p n f ss oth inp (exI p n f ss inp oth ch cover hs ss.length).found cover hs i).there=(exI p n f ss inp oth ch cover hs i).here∧(exI p n f ss oth inp (exI p n f ss inp oth ch cover hs ss.length).found cover hs i).found=ch.take (aG f n (ss.take i))
 | 0,_=>⟨rfl,rfl,rfl⟩
 | i+1,h=>by
  obtain ⟨h1,h2,h3⟩:=lK (inp:=inp) (oth:=oth) i (by omega)
  have hi:i<ss.length:=by omega
  have e:ss[i]?=some (ss.getD i (.fix 0)):=by rw [List.getD_eq_getElem?_getD,List.getElem?_eq_getElem hi];rfl
  have cu:=ex_cut (hs:=hs) (inp:=inp) (oth:=oth) hp hc hn hl hb hi
  have bk:bj p n f ss oth inp (exI p n f ss inp oth ch cover hs ss.length).found cover hs i (exI p n f ss oth inp (exI p n f ss inp oth ch cover hs ss.length).found cover hs i)=aA f ch (aG f n (ss.take i)) ((ss.getD i (.fix 0)).dealers n).length:=by
   unfold bj
   rw [cu,h1,h2]
   unfold bj
   exact lM hp hc (cz ..) (qc hn hl hb hi)
  refine ⟨?_,?_,?_⟩
  ·show kC p n ss oth (exI p n f ss oth inp (exI p n f ss inp oth ch cover hs ss.length).found cover hs i).here (aA f (exI p n f ss inp oth ch cover hs ss.length).found (aG f n (ss.take i)) ((ss.getD i (.fix 0)).dealers n).length)=kC p n ss oth (exI p n f ss inp oth ch cover hs i).there (bj p n f ss inp oth ch cover hs i (exI p n f ss inp oth ch cover hs i))
   rw [cu,h1]
  ·show kC p n ss inp (exI p n f ss oth inp (exI p n f ss inp oth ch cover hs ss.length).found cover hs i).there (bj p n f ss oth inp (exI p n f ss inp oth ch cover hs ss.length).found cover hs i (exI p n f ss oth inp (exI p n f ss inp oth ch cover hs ss.length).found cover hs i))=kC p n ss inp (exI p n f ss inp oth ch cover hs i).here (aA f ch (aG f n (ss.take i)) ((ss.getD i (.fix 0)).dealers n).length)
   rw [bk,h2]
  ·show (exI p n f ss oth inp (exI p n f ss inp oth ch cover hs ss.length).found cover hs i).found++(bj p n f ss oth inp (exI p n f ss inp oth ch cover hs ss.length).found cover hs i (exI p n f ss oth inp (exI p n f ss inp oth ch cover hs ss.length).found cover hs i)).flatten=_
   rw [bk,h3,mI,cU e,List.take_add]
end
theorem dY {p:Int}{f:Nat}{hs:List Int} (h:hs.length≤f):(bh p f hs).length=f+1:=by
 unfold bh
 rw [List.length_append,oJ,List.length_replicate]
 omega
theorem chan_iff {p f n:Int}{ss:List Stp}{ch:List Int}:dU p f n ss ch=true↔(ch.length:Int)=aY f n ss∧∀ v∈ch,0≤v∧v<p:=by
 unfold dU
 rw [Bool.and_eq_true,decide_eq_true_eq]
 exact and_congr Iff.rfl nums_iff
section
variable {p f n:Int}{ss:List Stp}{ch hs:List Int}{inp oth:LL} (hp:0<p) (hf:0≤f) (hh:(hs.length:Int)≤f) (hn:0≤n) (hC:dU p f n ss ch=true)
include hp hf hh hn hC
theorem mK:dU p f n ss (exD p n f.toNat ss inp oth ch hs)=true:=by
 obtain ⟨h1,h2⟩:=chan_iff.mp hC
 have fe:((f.toNat:Nat):Int)=f:=by omega
 have:=jS (f:=f.toNat) (cover:=bh p f.toNat hs) (hs:=hs) (inp:=inp) (oth:=oth) hp (dY (by omega)) hn (by rw [fe];exact h1) h2 ss.length (Nat.le_refl _)
 refine chan_iff.mpr ⟨?_,this.2⟩
 show ((exI p n f.toNat ss inp oth ch (bh p f.toNat hs) hs ss.length).found.length:Int)=_
 rw [this.1,List.take_length,dD _ hn,fe]
theorem mL:exD p n f.toNat ss oth inp (exD p n f.toNat ss inp oth ch hs) hs=ch:=by
 obtain ⟨h1,h2⟩:=chan_iff.mp hC
 have fe:((f.toNat:Nat):Int)=f:=by omega
 have:=(lK (f:=f.toNat) (cover:=bh p f.toNat hs) (hs:=hs) (inp:=inp) (oth:=oth) hp (dY (by omega)) hn (by rw [fe];exact h1) h2 ss.length (Nat.le_refl _)).2.2
 refine this.trans ?_
 rw [List.take_length,List.take_of_length_le]
 have:(aG f.toNat n ss:Int)=aY f n ss:=by rw [dD _ hn,fe]
 omega
end
theorem km {p:Int}{ss:List Stp}{inp oth:LL}:∀ (r:List Stp) (k:Nat),k+r.length≤ss.length→((gn p ss inp oth r k).all id=true↔opnV r ((ay p ss inp).drop k)=opnV r ((ay p ss oth).drop k))
 | [],k,_=>by simp [gn,opnV]
 | s::r,k,h=>by
  have h:k+(r.length+1)≤ss.length:=h
  have ih:=km (p:=p) (ss:=ss) (inp:=inp) (oth:=oth) r (k+1) (by omega)
  have e:∀ inp,(ay p ss inp).drop k=(ay p ss inp).getD k 0::(ay p ss inp).drop (k+1):=fun inp=>by
   have hk:k<(ay p ss inp).length:=by rw [ph];omega
   rw [List.drop_eq_getElem_cons hk,List.getD_eq_getElem?_getD,List.getElem?_eq_getElem hk]
   rfl
  rw [e inp,e oth]
  show (eQ p ss inp oth k s::gn p ss inp oth r (k+1)).all id=true↔_
  rw [List.all_cons,Bool.and_eq_true,ih]
  unfold eQ opnV
  rw [List.zip_cons_cons,List.zip_cons_cons]
  cases s with
  | opn j =>
   rw [List.filterMap_cons_some (f:=opnF) (b:=(ay p ss inp).getD k 0) (show opnF (Stp.opn j,(ay p ss inp).getD k 0)=some _ from rfl),List.filterMap_cons_some (f:=opnF) (b:=(ay p ss oth).getD k 0) (show opnF (Stp.opn j,(ay p ss oth).getD k 0)=some _ from rfl),List.cons.injEq]
   refine and_congr ?_ Iff.rfl
   show (!decide (("open":Str)="open") || decide _)=true↔_
   rw [decide_eq_true rfl,Bool.not_true,Bool.false_or,decide_eq_true_eq]
  | _ =>
   rw [List.filterMap_cons_none rfl,List.filterMap_cons_none rfl]
   refine ⟨fun z=>z.2,fun z=>⟨?_,z⟩⟩
   refine Bool.or_eq_true_iff.mpr (.inl ?_)
   rw [Bool.not_eq_true',decide_eq_false_iff_not]
   intro z
   simp only [Stp.word] at z
   exact absurd z (by decide +kernel)
theorem mZ {p:Int}{ss:List Stp}{inp oth:LL}{hs:List Int}:c9 p ss inp oth hs=m4 p ss inp oth hs:=by
 have h1:nz ss inp hs=nz ss oth hs↔hs.all (o3 ss inp oth)=true:=by
  unfold nz
  rw [List.map_inj_left,List.all_eq_true]
  exact ⟨fun h x hx=>decide_eq_true (h x hx),fun h x hx=>of_decide_eq_true (h x hx)⟩
 have h2:=km (p:=p) (ss:=ss) (inp:=inp) (oth:=oth) ss 0 (by omega)
 rw [List.drop_zero,List.drop_zero] at h2
 rw [Bool.eq_iff_iff]
 unfold c9 m4
 rw [Bool.and_eq_true,Bool.and_eq_true,decide_eq_true_eq,decide_eq_true_eq,h1,h2]
theorem oo {p:Int}{ss:List Stp}{inp oth:LL}{hs:List Int} (h:c9 p ss inp oth hs=true):c9 p ss oth inp hs=true:=by
 unfold c9 at h ⊢
 rw [Bool.and_eq_true,decide_eq_true_eq,decide_eq_true_eq] at h ⊢
 exact ⟨h.1.symm,h.2.symm⟩
end Veil
namespace Veil
open PySem L2
end Veil
namespace Veil
open PySem L2
theorem fc (p:Int):∀ (ss:List Stp) (rest:LL) (fd:List Int),∃ B,dJ p ss rest fd=fd++B
 | [],_,fd=>⟨[],(List.append_nil _).symm⟩
 | s::r,rest,fd=>by
  obtain ⟨B,hB⟩:=fc p r (gY rest s) (fd++[jm p rest fd s])
  exact ⟨jm p rest fd s::B,by rw [dJ,hB,List.append_assoc];rfl⟩
theorem mo {p n:Int}{ss:List Stp}{inp:LL} (hp:0<p) (hR:eV p n ss) (IO:InsOk p n ss inp):∀ i,i≤ss.length→∃ rest fd,PlSt p n ss inp i rest fd∧Rests n ss inp rest i
 | 0,_=>⟨inp,[],PlSt.start IO,Rests.start⟩
 | i+1,h=>by
  obtain ⟨rest,fd,S,Rr⟩:=mo hp hR IO i (by omega)
  have ez:ss[i]?=some ss[i]:=List.getElem?_eq_getElem (show i<ss.length by omega)
  exact ⟨_,_,S.next hp ez (hR i _ ez),Rr.next (p:=p) S.ok.len ez (hR i _ ez)⟩
theorem fM {p n:Int}{ss:List Stp}{inp:LL} (hp:0<p) (hR:eV p n ss) (IO:InsOk p n ss inp) {i:Nat}{z:Stp} (hz:ss[i]?=some z):∃ rest,Rests n ss inp rest i∧(ay p ss inp).getD i 0=jm p rest ((ay p ss inp).take i) z:=by
 have hi:i<ss.length:=(List.getElem?_eq_some_iff.mp hz).1
 obtain ⟨rest,fd,S,Rr⟩:=mo hp hR IO i (by omega)
 refine ⟨rest,Rr,?_⟩
 have go:=S.go
 have fl:=S.fl
 rw [List.drop_eq_getElem_cons hi,(List.getElem?_eq_some_iff.mp hz).2,dJ] at go
 obtain ⟨B,hB⟩:=fc p (ss.drop (i+1)) (gY rest z) (fd++[jm p rest fd z])
 rw [hB] at go
 rw [← go,List.append_assoc,List.take_left' fl,List.getD_eq_getElem?_getD,List.getElem?_append_right (by omega),fl,Nat.sub_self]
 rfl
theorem mq {p n:Int}{ss:List Stp}{inp:LL} (hp:0<p) (hR:eV p n ss) (IO:InsOk p n ss inp) {i:Nat}{h:Int} (hz:ss[i]?=some (.ein h)):(ay p ss inp).getD i 0=jU ss inp i h:=by
 obtain ⟨rest,Rr,e⟩:=fM hp hR IO hz
 have Rz:=hR i _ hz
 rw [e,jk Rr Rz.1 Rz.2]
section
variable {p:Int}{f:Nat}{cover hs:List Int} (hp:0<p) (hc:cover.length=f+1) {n:Int}{ss:List Stp}{ch:List Int} (hn:0≤n) (hl:(ch.length:Int)=aY (f:Int) n ss) (hb:∀ v∈ch,0≤v∧v<p)
include hp hc hn hl hb
end
end Veil
namespace Veil
open PySem L2
def Cg (p x y:Int):Prop:=∃ q,y=x+p*q
section
variable {p a b c d:Int}
theorem Cg.refl (a:Int):Cg p a a:=⟨0,by omega⟩
theorem Cg.of_eq (h:a=b):Cg p a b:=⟨0,by omega⟩
theorem Cg.symm:Cg p a b→Cg p b a:=fun ⟨q,h⟩=>⟨-q,by rw [h,Int.mul_neg];omega⟩
theorem Cg.trans:Cg p a b→Cg p b c→Cg p a c:=fun ⟨q,h⟩ ⟨r,k⟩=>⟨q+r,by rw [k,h,Int.mul_add];omega⟩
theorem Cg.add:Cg p a b→Cg p c d→Cg p (a+c) (b+d):=fun ⟨q,h⟩ ⟨r,k⟩=>⟨q+r,by rw [k,h,Int.mul_add];omega⟩
theorem Cg.sub:Cg p a b→Cg p c d→Cg p (a - c) (b - d):=fun ⟨q,h⟩ ⟨r,k⟩=>⟨q - r,by rw [k,h,Int.mul_sub];omega⟩
theorem Cg.mul:Cg p a b→Cg p c d→Cg p (a*c) (b*d):=by
 rintro ⟨q,rfl⟩ ⟨r,rfl⟩
 exact ⟨a*r+q*c+p*q*r,by grind⟩
theorem Cg.mod (a:Int):Cg p (a%p) a:=⟨a / p,(Int.emod_add_mul_ediv a p).symm⟩
theorem Cg.emod:Cg p a b→a%p=b%p:=fun ⟨q,h⟩=>by rw [h,Int.add_mul_emod_self_left]
theorem Cg.of (h:a%p=b%p):Cg p a b:=(Cg.mod a).symm.trans ((Cg.of_eq h).trans (Cg.mod b))
theorem Cg.eq (h:Cg p a b) (ha:0≤a∧a<p) (hb:0≤b∧b<p):a=b:=by
 have:=h.emod
 rw [Int.emod_eq_of_lt ha.1 ha.2,Int.emod_eq_of_lt hb.1 hb.2] at this
 exact this
end
def ox (p:Int) (n:Nat) (v:Nat→Int) (A B:List Int) (d:Int):Prop:=∀ k,k<n→Cg p (B.getD k 0) (A.getD k 0+d*v k)
theorem j9 {p d:Int}:∀ {row C:List Int} (z:Int),row.length=C.length→Cg p (av (List.zipWith (fun v c=>(v+c*d)%p) row C) z) (av row z+d*av C z)
 | [],[],z,_=>by
  show Cg p 0 (0+d*0)
  exact Cg.of_eq (by omega)
 | [],_::_,_,h=>by simp at h
 | _::_,[],_,h=>by simp at h
 | v::row,c::C,z,h=>by
  have ih:=j9 (p:=p) (d:=d) (row:=row) (C:=C) z (by simpa using h)
  show Cg p ((v+c*d)%p+z*av _ z) (v+z*av row z+d*(c+z*av C z))
  exact ((Cg.mod _).add ((Cg.refl z).mul ih)).trans (Cg.of_eq (by grind))
theorem mP {p:Int}{n k:Nat}{x:Int}{cs:List Int} (hk:k<n):(b6 p n x cs).getD k 0=av (x::cs) (1+(k:Int))%p:=by
 unfold b6
 rw [List.getD_eq_getElem?_getD,List.getElem?_map,List.getElem?_range hk]
 exact bo _ _
theorem qb {p:Int}{n f:Nat}{cover hs row:List Int}{h b a:Int} (hc:cover.length=f+1) (h1:cover.headD 0=1) (hr:row.length=f) (e:h∈hs→a=b):ox p n (fun k=>av cover (1+(k:Int))) (b6 p n b row) (b6 p n a (ge p cover hs h row b a)) (a - b):=fun k hk=>by
 rw [mP hk,mP hk]
 unfold ge
 split
 ·rename_i hm
  rw [e hm]
  exact Cg.of_eq (by rw [Int.sub_self,Int.zero_mul,Int.add_zero])
 ·obtain ⟨C,rfl⟩:∃ C,cover=1::C:=by
   cases cover with
   | nil=>simp at hc
   | cons x C=>exact ⟨C,by rw [show x=1 from h1]⟩
  have pv:=j9 (p:=p) (d:=a - b) (row:=row) (C:=C) (1+(k:Int)) (by rw [hr];simpa using hc.symm)
  unfold gS
  show Cg p ((a+(1+(k:Int))*av (List.zipWith (fun v c=>(v+c*(a - b))%p) row C) (1+(k:Int)))%p) ((b+(1+(k:Int))*av row (1+(k:Int)))%p+(a - b)*(1+(1+(k:Int))*av C (1+(k:Int))))
  refine ((Cg.mod _).trans ((Cg.refl a).add ((Cg.refl _).mul pv))).trans ?_
  refine Cg.trans (Cg.of_eq ?_) ((Cg.mod (b+(1+(k:Int))*av row (1+(k:Int)))).symm.add (Cg.refl _))
  grind
theorem lV {p v:Int}:∀ {W r r' N N':List Int},r'.length=r.length→N.length=r.length→N'.length=r.length→(∀ d,d<r.length→Cg p (r'.getD d 0) (r.getD d 0+(N'.getD d 0 - N.getD d 0)*v))→Cg p (List.zipWith (·*·) W r').sum ((List.zipWith (·*·) W r).sum+((List.zipWith (·*·) W N').sum - (List.zipWith (·*·) W N).sum)*v)
 | [],_,_,_,_,_,_,_,_=>by
  simp only [List.zipWith_nil_left,List.sum_nil]
  exact Cg.of_eq (by omega)
 | w::W,[],r',N,N',h1,h2,h3,_=>by
  rw [List.length_eq_zero_iff.mp h1,List.length_eq_zero_iff.mp h2,List.length_eq_zero_iff.mp h3]
  simp only [List.zipWith_nil_right,List.sum_nil]
  exact Cg.of_eq (by omega)
 | w::W,x::r,r',N,N',h1,h2,h3,h=>by
  match r',N,N',h1,h2,h3,h with
  | x'::r',y::N,y'::N',h1,h2,h3,h =>
   have ih:=lV (p:=p) (v:=v) (W:=W) (r:=r) (r':=r') (N:=N) (N':=N') (by simpa using h1) (by simpa using h2) (by simpa using h3) fun d hd=>h (d+1) (by rw [List.length_cons];omega)
   have h0:Cg p x' (x+(y' - y)*v):=h 0 (by rw [List.length_cons];omega)
   simp only [List.zipWith_cons_cons,List.sum_cons]
   exact (((Cg.refl w).mul h0).add ih).trans (Cg.of_eq (by grind))
theorem oH {p:Int} (hp:1<p) {f:Nat}{hs:List Int}:(bh p f hs).headD 0=1:=by
 have h:=nc hp hs
 unfold bh
 cases e:jW p hs with
 | nil=>rw [e] at h;cases h
 | cons x r=>rw [e] at h;exact Option.some.inj h
theorem nw (l:List Int) (z:Int):∀ k,av (l++List.replicate k 0) z=av l z:=fun k=>by
 induction l with
 | nil =>
  induction k with
  | zero=>rfl
  | succ k ih=>rw [List.replicate_succ];show 0+z*av ([]++List.replicate k 0) z=0;rw [ih];show 0+z*0=0;omega
 | cons x l ih=>show x+z*av (l++List.replicate k 0) z=x+z*av l z;rw [ih]
theorem gT {p:Int} (hp:p∈primes9) {f:Nat}{hs:List Int} (hb:∀ h∈hs,1≤h∧h<p) {h:Int} (hm:h∈hs):Cg p 0 (av (bh p f hs) h):=by
 refine Cg.of ?_
 unfold bh
 rw [nw,nb hp hs hb h hm,Int.zero_emod]
theorem qt {p:Int}{ss:List Stp}{inp oth:LL}{hs:List Int} (A:c9 p ss inp oth hs=true) {h:Int} (hm:h∈hs):(bI inp h).take (aS ss h)=(bI oth h).take (aS ss h):=by
 unfold c9 at A
 rw [Bool.and_eq_true,decide_eq_true_eq] at A
 have:=A.1
 unfold nz at this
 exact List.map_inj_left.mp this h hm
theorem agree_in {p:Int}{ss:List Stp}{inp oth:LL}{hs:List Int} (A:c9 p ss inp oth hs=true) {h:Int} (hm:h∈hs) {i:Nat} (hz:ss[i]?=some (.ein h)):jU ss inp i h=jU ss oth i h:=by
 have e:=qt A hm
 have lt:aS (ss.take i) h<aS ss h:=by
  have hi:=(List.getElem?_eq_some_iff.mp hz).1
  have h1:=gE (ss.take i) (ss.drop i) h
  rw [List.take_append_drop,List.drop_eq_getElem_cons hi,(List.getElem?_eq_some_iff.mp hz).2,bt,if_pos rfl] at h1
  omega
 unfold jU
 have g:=congrArg (fun l:List Int=>l[aS (ss.take i) h]?) e
 simp only [List.getElem?_take_of_lt lt] at g
 rw [List.getD_eq_getElem?_getD,List.getD_eq_getElem?_getD,g]
theorem ip {p:Int}{ss:List Stp}{inp oth:LL}:∀ {r:List Stp}{k i:Nat}{s:Stp},r[i]?=some s→(gn p ss inp oth r k)[i]?=some (eQ p ss inp oth (k+i) s)
 | [],_,_,_,h=>by simp at h
 | x::r,k,0,s,h=>by
  have e:x=s:=by simpa using h
  subst e
  rfl
 | x::r,k,i+1,s,h=>by
  have:=ip (p:=p) (ss:=ss) (inp:=inp) (oth:=oth) (r:=r) (k:=k+1) (i:=i) (s:=s) (by simpa using h)
  rw [show k+(i+1)=k+1+i by omega,← this]
  rfl
theorem oq {p:Int}{ss:List Stp}{inp oth:LL}{hs:List Int} (A:c9 p ss inp oth hs=true) {i:Nat}{a:Int} (hz:ss[i]?=some (.opn a)):(ay p ss inp).getD i 0=(ay p ss oth).getD i 0:=by
 rw [mZ] at A
 unfold m4 at A
 rw [Bool.and_eq_true] at A
 have:=List.all_eq_true.mp A.2 _ (List.mem_of_getElem? (ip (k:=0) hz))
 rw [Nat.zero_add] at this
 have this:(!decide (("open":Str)="open") || decide ((ay p ss inp).getD i 0=(ay p ss oth).getD i 0))=true:=this
 rw [decide_eq_true rfl,Bool.not_true,Bool.false_or,decide_eq_true_eq] at this
 exact this
structure Two (p n f:Int) (ss:List Stp) (inp oth:LL) (ch hs:List Int):Prop where
 A:Par p n f ss inp
 B:Par p n f ss oth
 C:dU p f n ss ch=true
 ris:∀ h∈hs,1≤h∧h≤n
 few:(hs.length:Int)≤f
 ag:c9 p ss inp oth hs=true
theorem o9 {p n:Int}{ss:List Stp}{inp shares crows:LL}{z:Stp}{k:Nat} (h1:k<(bA p n ss inp shares z).length) (h2:k<crows.length):(aR p n ss inp shares crows z).getD k []=b6 p n.toNat ((bA p n ss inp shares z).getD k 0) (crows.getD k []):=by
 unfold aR
 rw [List.getD_eq_getElem?_getD,List.getElem?_zipWith,List.getElem?_eq_getElem h1,List.getElem?_eq_getElem h2,List.getD_eq_getElem?_getD,List.getElem?_eq_getElem h1,List.getD_eq_getElem?_getD,List.getElem?_eq_getElem h2]
 rfl
theorem oi {n:Int}{z:Stp}{k:Nat} (hk:k<(aZ n).length):(aZ n).getD k 0=1+(k:Int):=by
 rw [bB] at hk
 unfold aZ dw
 rw [List.getD_eq_getElem?_getD,List.getElem?_map,List.getElem?_range hk]
 rfl
theorem my {p n:Int}{ss:List Stp}{inp shares:LL}{a b:Int}{k:Nat} (hk:k<n.toNat):(bA p n ss inp shares (.mul a b)).getD k 0=(shares.getD a.toNat []).getD k 0*(shares.getD b.toNat []).getD k 0%p:=by
 show ((aZ n).map fun h=>recV p (bD shares h) (.mul a b)).getD k 0=_
 unfold aZ dw
 rw [List.getD_eq_getElem?_getD,List.map_map,List.getElem?_map,List.getElem?_range hk]
 show (bD shares (1+(k:Int))).getD a.toNat 0*(bD shares (1+(k:Int))).getD b.toNat 0%p=_
 rw [bi,bi]
end Veil
namespace Veil
open PySem L2
theorem rg1 (a b c d e f v:Int):(a+(c - d)*v)+(b+(e - f)*v)=(a+b)+((c+e) - (d+f))*v:=by grind
theorem rg2 (a b c d e f v:Int):(a+(c - d)*v) - (b+(e - f)*v)=(a - b)+((c - e) - (d - f))*v:=by grind
theorem rg3 (a c d v x:Int):(a+(c - d)*v)*x=a*x+(c*x - d*x)*v:=by grind
theorem fi {p v M' M Yi Xi m' m y x:Int} (h1:Cg p M' m') (h2:Cg p M m) (h3:Cg p Yi y) (h4:Cg p Xi x) (h:Cg p m' (m+(y - x)*v)):Cg p M' (M+(Yi - Xi)*v):=h1.trans (h.trans ((h2.symm).add ((h3.symm.sub h4.symm).mul (Cg.refl v))))
def DifS (p:Int) (n:Nat) (v:Nat→Int) (S S':LL) (X Y:List Int) (i:Nat):Prop:=∀ j,j<i→ox p n v (S.getD j []) (S'.getD j []) (Y.getD j 0 - X.getD j 0)
theorem fz {X:List Int}{i j:Nat} (h:j<i):(X.take i).getD j 0=X.getD j 0:=by rw [List.getD_eq_getElem?_getD,List.getD_eq_getElem?_getD,List.getElem?_take_of_lt h]
theorem o6 {p n f:Int}{ss:List Stp}{inp:LL}{ch:List Int} (PA:Par p n f ss inp) (hc:(ch.length:Int)=aY f n ss) {i:Nat} (hi:i≤ss.length) {j:Nat} (hj:j<i):OnR p n.toNat f.toNat (fun k=>((gi p n f.toNat ss inp ch i).1.getD j []).getD k 0) ((ay p ss inp).getD j 0):=by
 obtain ⟨rest,fd,S,Rr,O⟩:=run_on PA hc i hi
 obtain ⟨B,hB⟩:=fc p (ss.drop i) rest fd
 rw [S.go] at hB
 have fl:=S.fl
 have e:(ay p ss inp).getD j 0=fd.getD j 0:=by rw [hB,List.getD_eq_getElem?_getD,List.getD_eq_getElem?_getD,List.getElem?_append_left (by omega)]
 rw [e]
 exact O.2 j (by rw [O.1];omega)
section
variable {p n f:Int}{ss:List Stp}{inp oth:LL}{ch hs:List Int} (T:Two p n f ss inp oth ch hs) {S S':LL}{i:Nat}{z:Stp} (hz:ss[i]?=some z) (L:S.length=i) (L':S'.length=i) (D:DifS p n.toNat (fun k=>av (bh p f.toNat hs) (1+(k:Int))) S S' (ay p ss inp) (ay p ss oth) i)
include T hz L L' D
theorem pI {k:Nat} (hk:k<(z.dealers n).length) (hm:(z.dealers n).getD k 0∈hs):(bA p n ss oth S' z).getD k 0=(bA p n ss inp S z).getD k 0:=by
 have Rz:=T.A.R i z hz
 have np:=T.A.np
 cases z with
 | ein h =>
  have k0:k=0:=by have:k<1:=hk;omega
  subst k0
  show jU ss oth S'.length h=jU ss inp S.length h
  rw [L,L']
  exact (agree_in T.ag hm hz).symm
 | anew a=>rfl
 | mul a b =>
  have hk1:k<(aZ n).length:=hk
  have hk':k<n.toNat:=by rw [bB] at hk1;exact hk1
  have e:(aZ n).getD k 0=1+(k:Int):=oi (z:=.fix 0) hk1
  have hm:(aZ n).getD k 0∈hs:=hm
  rw [e] at hm
  have z0:=gT T.A.hp (f:=f.toNat) (hs:=hs) (fun h hh=>⟨(T.ris h hh).1,by have:=(T.ris h hh).2;omega⟩) hm
  rw [my hk',my hk']
  have go:∀ c:Int,0≤c→c<(i:Int)→Cg p ((S'.getD c.toNat []).getD k 0) ((S.getD c.toNat []).getD k 0):=fun c c0 c1=>(D c.toNat (by omega) k hk').trans (((Cg.refl _).add ((Cg.refl _).mul z0.symm)).trans (Cg.of_eq (by rw [Int.mul_zero,Int.add_zero])))
  exact ((go a Rz.1.1 Rz.1.2).mul (go b Rz.2.1 Rz.2.2)).emod
 | fix x=>exact absurd hk (Nat.not_lt_zero k)
 | bye a x=>exact absurd hk (Nat.not_lt_zero k)
 | sum a b=>exact absurd hk (Nat.not_lt_zero k)
 | less a b=>exact absurd hk (Nat.not_lt_zero k)
 | opn a=>exact absurd hk (Nat.not_lt_zero k)
theorem mi {crows:LL} (cl:crows.length=(z.dealers n).length) (cf:∀ r∈crows,r.length=f.toNat∧∀ v∈r,0≤v∧v<p) {k:Nat} (hk:k<(z.dealers n).length):ox p n.toNat (fun k=>av (bh p f.toNat hs) (1+(k:Int))) ((aR p n ss inp S crows z).getD k []) ((aR p n ss oth S' (bJ p (bh p f.toNat hs) hs (z.dealers n) crows (bA p n ss inp S z) (bA p n ss oth S' z)) z).getD k []) ((bA p n ss oth S' z).getD k 0 - (bA p n ss inp S z).getD k 0):=by
 have hn:=T.A.hn
 have pp:=jH T.A.hp
 have fw:=T.few
 have hf:=T.A.hf
 have ck:crows.getD k []∈crows:=by
  rw [List.getD_eq_getElem?_getD,List.getElem?_eq_getElem (by omega)]
  exact List.getElem_mem _
 rw [o9 (by rw [cQ (by omega)];exact hk) (by omega),o9 (by rw [cQ (by omega)];exact hk) (by rw [cw];exact hk),fR hk]
 exact qb (f:=f.toNat) (dY (by omega)) (oH (by omega)) (cf _ ck).1 fun hm=>pI T hz L L' D hk hm
theorem made_dif {crows:LL} (cl:crows.length=(z.dealers n).length) (cf:∀ r∈crows,r.length=f.toNat∧∀ v∈r,0≤v∧v<p)
  (O:∀ j,j<i→OnR p n.toNat f.toNat (fun k=>(S.getD j []).getD k 0) ((ay p ss inp).getD j 0)) (O':∀ j,j<i→OnR p n.toNat f.toNat (fun k=>(S'.getD j []).getD k 0) ((ay p ss oth).getD j 0)) :
  ox p n.toNat (fun k=>av (bh p f.toNat hs) (1+(k:Int))) (cm p n S (aR p n ss inp S crows z) z) (cm p n S' (aR p n ss oth S' (bJ p (bh p f.toNat hs) hs (z.dealers n) crows (bA p n ss inp S z) (bA p n ss oth S' z)) z) z) ((ay p ss oth).getD i 0 - (ay p ss inp).getD i 0):=fun k hk=>by
 have hn:=T.A.hn
 have np:=T.A.np
 have pp:=jH T.A.hp
 have fw:=T.few
 have hf:=T.A.hf
 have fn:=T.A.fn
 have Rz:=T.A.R i z hz
 obtain ⟨rest,Rr,e⟩:=fM (by omega) T.A.R T.A.io hz
 obtain ⟨rest',Rr',e'⟩:=fM (by omega) T.B.R T.B.io hz
 have RD:=fun d hd=>mi T hz L L' D cl cf (k:=d) hd k hk
 dsimp only at RD
 have cvl:(bh p f.toNat hs).length=f.toNat+1:=dY (by omega)
 rw [lD (by omega) hk,lD (by omega) hk,e,e']
 have tk:∀ (c:Int) (X:List Int),0≤c→c<(i:Int)→(X.take i).getD c.toNat 0=X.getD c.toNat 0:=fun c X h0 h1=>fz (by omega)
 have go:∀ c:Int,0≤c→c<(i:Int)→Cg p ((S'.getD c.toNat []).getD k 0) ((S.getD c.toNat []).getD k 0+((ay p ss oth).getD c.toNat 0 - (ay p ss inp).getD c.toNat 0)*av (bh p f.toNat hs) (1+(k:Int))):=fun c h0 h1=>D c.toNat (by omega) k hk
 have nl:=cQ (p:=p) (n:=n) (by omega) ss inp S z
 have nl':=cQ (p:=p) (n:=n) (by omega) ss oth S' z
 have rl:(aR p n ss inp S crows z).length=(z.dealers n).length:=by unfold aR;rw [List.length_zipWith,nl,cl];omega
 have rl':(aR p n ss oth S' (bJ p (bh p f.toNat hs) hs (z.dealers n) crows (bA p n ss inp S z) (bA p n ss oth S' z)) z).length=(z.dealers n).length:=by unfold aR;rw [List.length_zipWith,nl',cw];omega
 dsimp only
 generalize hV:av (bh p f.toNat hs) (1+(k:Int))=v at go RD ⊢
 have none_:∀ (R:LL),R.length=0→(bD R (1+(k:Int))).sum=0:=fun R h=>by rw [List.length_eq_zero_iff.mp h];rfl
 have one:∀ {x:Int} (R:LL),R.length=0→Cg p ((x+(bD R (1+(k:Int))).sum)%p) x:=fun R h=>(Cg.mod _).trans (Cg.of_eq (by rw [none_ R h,Int.add_zero]))
 cases z with
 | ein h =>
  have r0:=RD 0 (by show 0<1;decide)
  have e1:jm p rest ((ay p ss inp).take i) (.ein h)=(bA p n ss inp S (.ein h)).getD 0 0:=by
   rw [jk Rr Rz.1 Rz.2]
   show _=jU ss inp S.length h
   rw [L]
  have e2:jm p rest' ((ay p ss oth).take i) (.ein h)=(bA p n ss oth S' (.ein h)).getD 0 0:=by
   rw [jk Rr' Rz.1 Rz.2]
   show _=jU ss oth S'.length h
   rw [L']
  rw [e1,e2]
  have hd:∀ R:LL,(bD R (1+(k:Int))).headD 0=(R.getD 0 []).getD k 0:=fun R=>by rw [dN];cases R<;>rfl
  simp only [iX]
  rw [hd,hd]
  exact r0
 | fix x=>exact fi (one _ rl') (one _ rl) (Cg.refl _) (Cg.refl _) (Cg.of_eq (by show x=x+(x - x)*v;rw [Int.sub_self,Int.zero_mul,Int.add_zero]))
 | sum a b =>
  show Cg p _ (_+((((ay p ss oth).take i).getD a.toNat 0+((ay p ss oth).take i).getD b.toNat 0)%p - (((ay p ss inp).take i).getD a.toNat 0+((ay p ss inp).take i).getD b.toNat 0)%p)*v)
  rw [tk a _ Rz.1.1 Rz.1.2,tk b _ Rz.2.1 Rz.2.2,tk a _ Rz.1.1 Rz.1.2,tk b _ Rz.2.1 Rz.2.2]
  have r:=fun (Q:LL)=>(Cg.mod (p:=p) ((bD Q (1+(k:Int))).getD a.toNat 0+(bD Q (1+(k:Int))).getD b.toNat 0))
  simp only [bi] at r
  refine fi ((one _ rl').trans ?_) ((one _ rl).trans ?_) (Cg.mod _) (Cg.mod _) (((go a Rz.1.1 Rz.1.2).add (go b Rz.2.1 Rz.2.2)).trans (Cg.of_eq (rg1 ..)))
  ·show Cg p (((bD S' (1+(k:Int))).getD a.toNat 0+(bD S' (1+(k:Int))).getD b.toNat 0)%p) _
   rw [bi,bi]
   exact r S'
  ·show Cg p (((bD S (1+(k:Int))).getD a.toNat 0+(bD S (1+(k:Int))).getD b.toNat 0)%p) _
   rw [bi,bi]
   exact r S
 | less a b =>
  show Cg p _ (_+((((ay p ss oth).take i).getD a.toNat 0 - ((ay p ss oth).take i).getD b.toNat 0)%p - (((ay p ss inp).take i).getD a.toNat 0 - ((ay p ss inp).take i).getD b.toNat 0)%p)*v)
  rw [tk a _ Rz.1.1 Rz.1.2,tk b _ Rz.2.1 Rz.2.2,tk a _ Rz.1.1 Rz.1.2,tk b _ Rz.2.1 Rz.2.2]
  have r:=fun (Q:LL)=>(Cg.mod (p:=p) ((bD Q (1+(k:Int))).getD a.toNat 0 - (bD Q (1+(k:Int))).getD b.toNat 0))
  simp only [bi] at r
  refine fi ((one _ rl').trans ?_) ((one _ rl).trans ?_) (Cg.mod _) (Cg.mod _) (((go a Rz.1.1 Rz.1.2).sub (go b Rz.2.1 Rz.2.2)).trans (Cg.of_eq (rg2 ..)))
  ·show Cg p (((bD S' (1+(k:Int))).getD a.toNat 0 - (bD S' (1+(k:Int))).getD b.toNat 0)%p) _
   rw [bi,bi]
   exact r S'
  ·show Cg p (((bD S (1+(k:Int))).getD a.toNat 0 - (bD S (1+(k:Int))).getD b.toNat 0)%p) _
   rw [bi,bi]
   exact r S
 | bye a x =>
  show Cg p _ (_+(((ay p ss oth).take i).getD a.toNat 0*x%p - ((ay p ss inp).take i).getD a.toNat 0*x%p)*v)
  rw [tk a _ Rz.1.1 Rz.1.2,tk a _ Rz.1.1 Rz.1.2]
  refine fi ((one _ rl').trans ?_) ((one _ rl).trans ?_) (Cg.mod _) (Cg.mod _) (((go a Rz.1.1 Rz.1.2).mul (Cg.refl x)).trans (Cg.of_eq (rg3 ..)))
  ·show Cg p ((bD S' (1+(k:Int))).getD a.toNat 0*x%p) _
   rw [bi]
   exact Cg.mod _
  ·show Cg p ((bD S (1+(k:Int))).getD a.toNat 0*x%p) _
   rw [bi]
   exact Cg.mod _
 | opn a =>
  show Cg p _ (_+(((ay p ss oth).take i).getD a.toNat 0 - ((ay p ss inp).take i).getD a.toNat 0)*v)
  rw [tk a _ Rz.1 Rz.2,tk a _ Rz.1 Rz.2]
  refine fi ((one _ rl').trans (Cg.of_eq ?_)) ((one _ rl).trans (Cg.of_eq ?_)) (Cg.refl _) (Cg.refl _) (go a Rz.1 Rz.2)
  ·show (bD S' (1+(k:Int))).getD a.toNat 0=_
   rw [bi]
  ·show (bD S (1+(k:Int))).getD a.toNat 0=_
   rw [bi]
 | anew a =>
  have er:bJ p (bh p f.toNat hs) hs ((Stp.anew a).dealers n) crows (bA p n ss inp S (.anew a)) (bA p n ss oth S' (.anew a))=crows:=lL (by omega) cvl cl cf
  have eR:aR p n ss oth S' crows (.anew a)=aR p n ss inp S crows (.anew a):=rfl
  rw [er,eR]
  show Cg p (((bD S' (1+(k:Int))).getD a.toNat 0+(bD (aR p n ss inp S crows (.anew a)) (1+(k:Int))).sum)%p) (((bD S (1+(k:Int))).getD a.toNat 0+(bD (aR p n ss inp S crows (.anew a)) (1+(k:Int))).sum)%p+(((ay p ss oth).take i).getD a.toNat 0 - ((ay p ss inp).take i).getD a.toNat 0)*v)
  rw [tk a _ Rz.1 Rz.2,tk a _ Rz.1 Rz.2,bi,bi]
  exact fi (Cg.mod _) (Cg.mod _) (Cg.refl _) (Cg.refl _) (((go a Rz.1 Rz.2).add (Cg.refl _)).trans (Cg.of_eq (by omega)))
 | mul a b =>
  have dl:((Stp.mul a b).dealers n).length=n.toNat:=bB n
  have ra:0≤a∧a<(i:Int):=Rz.1
  have rb:0≤b∧b<(i:Int):=Rz.2
  show Cg p ((List.zipWith (·*·) (aV p n.toNat) (bD _ (1+(k:Int)))).sum%p) ((List.zipWith (·*·) (aV p n.toNat) (bD _ (1+(k:Int)))).sum%p+(((ay p ss oth).take i).getD a.toNat 0*((ay p ss oth).take i).getD b.toNat 0%p - ((ay p ss inp).take i).getD a.toNat 0*((ay p ss inp).take i).getD b.toNat 0%p)*v)
  rw [tk a _ Rz.1.1 Rz.1.2,tk b _ Rz.2.1 Rz.2.2,tk a _ Rz.1.1 Rz.1.2,tk b _ Rz.2.1 Rz.2.2]
  have pr:=OnR.prod T.A.hp (by omega) (by omega) (by omega) (f:=f.toNat) (by omega) (O a.toNat (by omega)) (O b.toNat (by omega)) (xs:=bA p n ss inp S (.mul a b)) (by rw [nl,dl]) fun j hj=>by rw [my hj,md]
  have pr':=OnR.prod T.A.hp (by omega) (by omega) (by omega) (f:=f.toNat) (by omega) (O' a.toNat (by omega)) (O' b.toNat (by omega)) (xs:=bA p n ss oth S' (.mul a b)) (by rw [nl',dl]) fun j hj=>by rw [my hj,md]
  refine fi (Cg.mod _) (Cg.mod _) ((Cg.mod _).trans (Cg.of pr'.symm)) ((Cg.mod _).trans (Cg.of pr.symm)) (lV ?_ ?_ ?_ fun d hd=>?_)
  ·rw [dN,dN,List.length_map,List.length_map,rl,rl']
  ·rw [dN,List.length_map,rl,nl]
  ·rw [dN,List.length_map,rl,nl']
  ·rw [dN,List.length_map,rl] at hd
   rw [bi,bi]
   exact RD d hd
end
end Veil
namespace Veil
open PySem L2
theorem mH {α β:Type}{g g':α→Option β}:∀ {l:List α},(∀ x∈l,g x=g' x)→l.filterMap g=l.filterMap g'
 | [],_=>rfl
 | x::l,h=>by rw [List.filterMap_cons,List.filterMap_cons,h x (List.mem_cons_self ..),mH fun y hy=>h y (List.mem_cons_of_mem _ hy)]
theorem oY {hs:List Int}{pl s:Int}{row row':List Int} (hl:row'.length=row.length) (e:∀ k,k<row.length→1+(k:Int)∈hs→row'.getD k 0=row.getD k 0):bG hs (gu pl s row')=bG hs (gu pl s row):=by
 unfold bG gu
 rw [hl,List.filter_filterMap,List.filter_filterMap]
 refine mH fun k hk=>?_
 have hk:=List.mem_range.mp hk
 split
 ·rfl
 ·by_cases hm:1+(k:Int)∈hs
  ·rw [e k hk hm]
  ·show Option.filter _ (some _)=Option.filter _ (some _)
   rw [Option.filter_some_neg (by simpa using hm),Option.filter_some_neg (by simpa using hm)]
theorem ky {hs:List Int}{pl:Int}:∀ {ds:List Int}{R R':LL},R'.length=R.length→(∀ d,d<R.length→(R'.getD d []).length=(R.getD d []).length∧∀ k,k<(R.getD d []).length→1+(k:Int)∈hs→(R'.getD d []).getD k 0=(R.getD d []).getD k 0)→bG hs (aH pl ds R')=bG hs (aH pl ds R)
 | [],_,_,_,_=>rfl
 | s::ds,[],R',h,_=>by rw [List.length_eq_zero_iff.mp h]
 | s::ds,r::R,[],h,_=>by simp at h
 | s::ds,r::R,r'::R',h,e=>by
  have ih:=ky (hs:=hs) (pl:=pl) (ds:=ds) (R:=R) (R':=R') (by simpa using h) fun d hd=>e (d+1) (by rw [List.length_cons];omega)
  have e0:=e 0 (by rw [List.length_cons];omega)
  have one:∀ (q:List Int) (Q:LL),aH pl (s::ds) (q::Q)=gu pl s q++aH pl ds Q:=fun q Q=>rfl
  rw [one,one]
  unfold bG at ih ⊢
  rw [List.filter_append,List.filter_append,ih]
  congr 1
  exact oY e0.1 e0.2
theorem mF {p n:Int}{R:LL} (h:ShsOk p n R) {d:Nat} (hd:d<R.length):(R.getD d []).length=n.toNat∧∀ v∈R.getD d [],0≤v∧v<p:=by
 have m:R.getD d []∈R:=by
  rw [List.getD_eq_getElem?_getD,List.getElem?_eq_getElem hd]
  exact List.getElem_mem _
 exact ⟨h.l _ m,h.b _ m⟩
theorem jP {p:Int}{l:List Int} (h:∀ v∈l,0≤v∧v<p) {k:Nat} (hk:k<l.length):0≤l.getD k 0∧l.getD k 0<p:=h _ (by
 rw [List.getD_eq_getElem?_getD,List.getElem?_eq_getElem hk]
 exact List.getElem_mem _)
section
variable {p n f:Int}{ss:List Stp}{inp oth:LL}{ch hs:List Int} (T:Two p n f ss inp oth ch hs)
include T
theorem jZ {i:Nat} (hi:i≤ss.length):(exI p n f.toNat ss inp oth ch (bh p f.toNat hs) hs i).there=gi p n f.toNat ss oth (exD p n f.toNat ss inp oth ch hs) i:=by
 have pp:=jH T.A.hp
 have hn:=T.A.hn
 have hf:=T.A.hf
 have fw:=T.few
 obtain ⟨h1,h2⟩:=chan_iff.mp T.C
 have fe:((f.toNat:Nat):Int)=f:=by omega
 have:=(lK (p:=p) (n:=n) (ss:=ss) (ch:=ch) (f:=f.toNat) (cover:=bh p f.toNat hs) (hs:=hs) (inp:=inp) (oth:=oth) (by omega) (dY (by omega)) (by omega) (by rw [fe];exact h1) h2 i hi).1
 rw [← this,gP i hi]
 rfl
theorem oM:∀ i,i≤ss.length→DifS p n.toNat (fun k=>av (bh p f.toNat hs) (1+(k:Int))) (exI p n f.toNat ss inp oth ch (bh p f.toNat hs) hs i).here.1 (exI p n f.toNat ss inp oth ch (bh p f.toNat hs) hs i).there.1 (ay p ss inp) (ay p ss oth) i∧bG hs (exI p n f.toNat ss inp oth ch (bh p f.toNat hs) hs i).there.2=bG hs (exI p n f.toNat ss inp oth ch (bh p f.toNat hs) hs i).here.2
 | 0,_=>⟨fun j h=>absurd h (Nat.not_lt_zero j),rfl⟩
 | i+1,h=>by
  obtain ⟨D,W⟩:=oM i (by omega)
  have pp:=jH T.A.hp
  have hn:=T.A.hn
  have np:=T.A.np
  have hf:=T.A.hf
  have fw:=T.few
  obtain ⟨h1,h2⟩:=chan_iff.mp T.C
  have fe:((f.toNat:Nat):Int)=f:=by omega
  have hi:i<ss.length:=by omega
  have hz:ss[i]?=some (ss.getD i (.fix 0)):=by rw [List.getD_eq_getElem?_getD,List.getElem?_eq_getElem hi];rfl
  have len:=p3 (p:=p) (n:=n) (f:=f.toNat) (ss:=ss) (inp:=inp) (oth:=oth) (ch:=ch) (cover:=bh p f.toNat hs) (hs:=hs) i
  have shs:=p0 (p:=p) (n:=n) (by omega) (f:=f.toNat) (ss:=ss) (inp:=inp) (oth:=oth) (ch:=ch) (cover:=bh p f.toNat hs) (hs:=hs) i
  have cf:=qc (p:=p) (f:=f.toNat) (n:=n) (ss:=ss) (ch:=ch) (by omega) (by rw [fe];exact h1) h2 hi
  have cl:=cz f.toNat ch (aG f.toNat n (ss.take i)) ((ss.getD i (.fix 0)).dealers n).length
  have eh:=gP (p:=p) (n:=n) (f:=f.toNat) (ss:=ss) (inp:=inp) (oth:=oth) (ch:=ch) (cover:=bh p f.toNat hs) (hs:=hs) i (by omega)
  have et:=jZ T (i:=i) (by omega)
  have O:∀ j,j<i→OnR p n.toNat f.toNat (fun k=>((exI p n f.toNat ss inp oth ch (bh p f.toNat hs) hs i).here.1.getD j []).getD k 0) ((ay p ss inp).getD j 0):=fun j hj=>by rw [eh];exact o6 T.A h1 (by omega) hj
  have O':∀ j,j<i→OnR p n.toNat f.toNat (fun k=>((exI p n f.toNat ss inp oth ch (bh p f.toNat hs) hs i).there.1.getD j []).getD k 0) ((ay p ss oth).getD j 0):=fun j hj=>by rw [et];exact o6 T.B (chan_iff.mp (mK (inp:=inp) (oth:=oth) (by omega) (by omega) fw (by omega) T.C)).1 (by omega) hj
  have nx:(exI p n f.toNat ss inp oth ch (bh p f.toNat hs) hs (i+1)).here=kC p n ss inp (exI p n f.toNat ss inp oth ch (bh p f.toNat hs) hs i).here (aA f.toNat ch (aG f.toNat n (ss.take i)) ((ss.getD i (.fix 0)).dealers n).length):=rfl
  have nx':(exI p n f.toNat ss inp oth ch (bh p f.toNat hs) hs (i+1)).there=kC p n ss oth (exI p n f.toNat ss inp oth ch (bh p f.toNat hs) hs i).there (bJ p (bh p f.toNat hs) hs ((ss.getD i (.fix 0)).dealers n) (aA f.toNat ch (aG f.toNat n (ss.take i)) ((ss.getD i (.fix 0)).dealers n).length) (bA p n ss inp (exI p n f.toNat ss inp oth ch (bh p f.toNat hs) hs i).here.1 (ss.getD i (.fix 0))) (bA p n ss oth (exI p n f.toNat ss inp oth ch (bh p f.toNat hs) hs i).there.1 (ss.getD i (.fix 0)))):=rfl
  rw [nx,nx']
  generalize (exI p n f.toNat ss inp oth ch (bh p f.toNat hs) hs i).here=st at D W len shs O
  generalize (exI p n f.toNat ss inp oth ch (bh p f.toNat hs) hs i).there=st' at D W len shs O'
  generalize aA f.toNat ch (aG f.toNat n (ss.take i)) ((ss.getD i (.fix 0)).dealers n).length=crows at cf cl
  have MD:=made_dif T hz len.1 len.2 D cl cf O O'
  have RD:=fun d hd=>mi T hz len.1 len.2 D cl cf (k:=d) hd
  have nl:=cQ (p:=p) (n:=n) (by omega) ss inp st.1 (ss.getD i (.fix 0))
  have nl':=cQ (p:=p) (n:=n) (by omega) ss oth st'.1 (ss.getD i (.fix 0))
  unfold kC
  rw [len.1,len.2]
  generalize hzz:ss.getD i (.fix 0)=z at hz cl MD RD nl nl'
  have rl:(aR p n ss inp st.1 crows z).length=(z.dealers n).length:=by unfold aR;rw [List.length_zipWith,nl,cl];omega
  have rl':(aR p n ss oth st'.1 (bJ p (bh p f.toNat hs) hs (z.dealers n) crows (bA p n ss inp st.1 z) (bA p n ss oth st'.1 z)) z).length=(z.dealers n).length:=by unfold aR;rw [List.length_zipWith,nl',cw];omega
  have rok:=e6 (p:=p) (n:=n) (by omega) ss inp st.1 crows z
  have rok':=e6 (p:=p) (n:=n) (by omega) ss oth st'.1 (bJ p (bh p f.toNat hs) hs (z.dealers n) crows (bA p n ss inp st.1 z) (bA p n ss oth st'.1 z)) z
  generalize aR p n ss inp st.1 crows z=R at MD RD rl rok
  generalize aR p n ss oth st'.1 (bJ p (bh p f.toNat hs) hs (z.dealers n) crows (bA p n ss inp st.1 z) (bA p n ss oth st'.1 z)) z=R' at MD RD rl' rok'
  have ml:=fP (p:=p) (n:=n) st.1 R z
  have ml':=fP (p:=p) (n:=n) st'.1 R' z
  have mb:=mD (p:=p) (n:=n) (by omega) (shares:=st.1) rok z
  have mb':=mD (p:=p) (n:=n) (by omega) (shares:=st'.1) rok' z
  refine ⟨fun j hj=>?_,?_⟩
  ·by_cases e:j<i
   ·have g:∀ (A:LL) (b:List Int),A.length=i→(A++[b]).getD j []=A.getD j []:=fun A b hA=>by rw [List.getD_eq_getElem?_getD,List.getElem?_append_left (by omega),← List.getD_eq_getElem?_getD]
    show ox _ _ _ ((st.1++[_]).getD j []) ((st'.1++[_]).getD j []) _
    rw [g _ _ len.1,g _ _ len.2]
    exact D j e
   ·have ej:j=i:=by omega
    subst ej
    have g:∀ (A:LL) (b:List Int),A.length=j→(A++[b]).getD j []=b:=fun A b hA=>by rw [List.getD_eq_getElem?_getD,List.getElem?_append_right (by omega),hA,Nat.sub_self];rfl
    show ox _ _ _ ((st.1++[_]).getD j []) ((st'.1++[_]).getD j []) _
    rw [g _ _ len.1,g _ _ len.2]
    exact MD
  ·show bG hs (st'.2++jK p n (i:Int) (cm p n st'.1 R' z) R' z)=bG hs (st.2++jK p n (i:Int) (cm p n st.1 R z) R z)
   have ap:∀ a b:List fS,bG hs (a++b)=bG hs a++bG hs b:=fun a b=>List.filter_append ..
   rw [ap,ap,W]
   congr 1
   have gen:bG hs (aH (i:Int) (z.dealers n) R')=bG hs (aH (i:Int) (z.dealers n) R):=by
    refine ky (by rw [rl,rl']) fun d hd=>?_
    have r1:=mF rok hd
    have r2:=mF rok' (d:=d) (by omega)
    refine ⟨by rw [r1.1,r2.1],fun k hk hm=>?_⟩
    rw [r1.1] at hk
    have z0:=gT T.A.hp (f:=f.toNat) (hs:=hs) (fun h hh=>⟨(T.ris h hh).1,by have:=(T.ris h hh).2;omega⟩) hm
    have c:=(RD d (by omega) k hk).trans (((Cg.refl _).add ((Cg.refl _).mul z0.symm)).trans (Cg.of_eq (by rw [Int.mul_zero,Int.add_zero])))
    exact c.eq (jP r2.2 (by omega)) (jP r1.2 (by omega))
   cases z with
   | opn a =>
    have eq:=oq T.ag hz
    have me:cm p n st'.1 R' (.opn a)=cm p n st.1 R (.opn a):=by
     refine List.ext_getElem (by rw [ml,ml']) fun k k1 k2=>?_
     have c:=MD k (by omega)
     rw [eq,Int.sub_self,Int.zero_mul,Int.add_zero] at c
     have c:=c.eq (jP mb' k1) (jP mb k2)
     rw [List.getD_eq_getElem?_getD,List.getD_eq_getElem?_getD,List.getElem?_eq_getElem k1,List.getElem?_eq_getElem k2] at c
     exact c
    show bG hs (aH (i:Int) (aZ n) ((cm p n st'.1 R' (.opn a)).map fun v=>List.replicate n.toNat v))=bG hs (aH (i:Int) (aZ n) ((cm p n st.1 R (.opn a)).map fun v=>List.replicate n.toNat v))
    rw [me]
   | _=>exact gen
theorem two_sees:bG hs (iQ p n f.toNat ss oth (exD p n f.toNat ss inp oth ch hs)).2=bG hs (iQ p n f.toNat ss inp ch).2:=by
 have:=(oM T ss.length (Nat.le_refl _)).2
 rw [jZ T (Nat.le_refl _),gP _ (Nat.le_refl _)] at this
 exact this
end
end Veil
namespace L2
open PySem PySem.Spec PyProof.Rows
variable {X:Cx}
end L2
namespace Veil
open PySem L2
end Veil
namespace Veil
open PySem L2
theorem nd_sub {α:Type} [DecidableEq α]:∀ {l m:List α},l.Nodup→(∀ x∈l,x∈m)→l.length≤m.length
 | [],_,_,_=>Nat.zero_le _
 | a::l,m,nd,h=>by
  rw [List.nodup_cons] at nd
  have ha:=h a (List.mem_cons_self ..)
  have ih:=nd_sub (l:=l) (m:=m.erase a) nd.2 fun x hx=>(List.mem_erase_of_ne fun e=>nd.1 (by rw [← e];exact hx)).mpr (h x (List.mem_cons_of_mem _ hx))
  have:=List.length_erase_of_mem ha
  have pos:0<m.length:=List.length_pos_of_mem ha
  rw [List.length_cons]
  omega
theorem cnt_le {α:Type} [DecidableEq α] {A:List α} (nd:A.Nodup) {P Q:α→Bool} (g:α→α) (h1:∀ x∈A,g x∈A) (inj:∀ x∈A,∀ y∈A,g x=g y→x=y) (h2:∀ x∈A,P x=true→Q (g x)=true):(A.filter P).length≤(A.filter Q).length:=by
 have e:(A.filter P).length=((A.filter P).map g).length:=by rw [List.length_map]
 rw [e]
 refine nd_sub ?_ fun y hy=>?_
 ·refine List.pairwise_map.mpr (List.Pairwise.imp_of_mem (fun {a b} ha hb h z=>h (inj a (List.mem_filter.mp ha).1 b (List.mem_filter.mp hb).1 z)) (nd.sublist List.filter_sublist))
 ·obtain ⟨x,hx,rfl⟩:=List.mem_map.mp hy
  have:=List.mem_filter.mp hx
  exact List.mem_filter.mpr ⟨h1 x this.1,h2 x this.1 this.2⟩
theorem fu (p:Int):∀ (f:Nat) (c:List Int),c.length=f→(∀ v∈c,0≤v∧v<p)→c∈bC p f
 | 0,c,h,_=>by rw [List.length_eq_zero_iff.mp h];exact List.mem_singleton.mpr rfl
 | f+1,c,h,hb=>by
  have hne:c≠[]:=fun z=>by rw [z] at h;cases h
  have e:c=c.dropLast++[c.getLast hne]:=(List.dropLast_concat_getLast hne).symm
  rw [e] at hb ⊢
  show _∈cn p (bC p f)
  unfold cn
  have ih:=fu p f c.dropLast (by rw [List.length_dropLast];omega) fun v hv=>hb v (List.mem_append_left _ hv)
  have hl:=hb (c.getLast hne) (List.mem_append_right _ (List.mem_singleton.mpr rfl))
  refine List.mem_flatMap.mpr ⟨_,ih,List.mem_map.mpr ⟨_,?_,rfl⟩⟩
  exact List.mem_of_getElem? (i:=(c.getLast hne).toNat) (by rw [mv (by omega)];congr 1;omega)
theorem rows5_nd {m:Nat} (h:m=1∨m=2):(bC 5 m).Nodup:=by
 rcases h with e | e<;>subst e<;>decide +kernel
theorem dlet_inj {a b:fS} (h:dlet a=dlet b):a=b:=by
 obtain ⟨a1,a2,a3,a4⟩:=a
 obtain ⟨b1,b2,b3,b4⟩:=b
 unfold dlet at h
 injection h with h
 simp only [List.cons.injEq,and_true] at h
 obtain ⟨h1,h2,h3,h4⟩:=h
 injection h1 with h1
 injection h2 with h2
 injection h3 with h3
 injection h4 with h4
 rw [show a1=b1 from h1,show a2=b2 from h2,show a3=b3 from h3,show a4=b4 from h4]
theorem p6 {a b:List fS}:(PySem.W.Dat.list (a.map dlet)=.list (b.map dlet))↔a=b:=⟨fun h=>by
 injection h with h
 exact (List.map_inj_right fun x y=>dlet_inj).mp h,fun h=>by rw [h]⟩
def cntS (n:Int) (m:Nat) (ss:List Stp) (inp:LL) (due:List fS):Nat:=((bC 5 m).filter fun r=>decide (bG [1] (iQ 5 n 1 ss inp r).2=due)).length
theorem mY {p:Int}{ss:List Stp}{inp oth:LL}{hs:List Int} (h1:∀ h∈hs,(bI inp h).take (aS ss h)=(bI oth h).take (aS ss h)) (h2:∀ (i:Nat) (a:Int),ss[i]?=some (.opn a)→(ay p ss inp).getD i 0=(ay p ss oth).getD i 0):c9 p ss inp oth hs=true:=by
 rw [mZ]
 unfold m4
 rw [Bool.and_eq_true]
 refine ⟨List.all_eq_true.mpr fun h hh=>decide_eq_true (h1 h hh),List.all_eq_true.mpr fun b hb=>?_⟩
 obtain ⟨i,hi,rfl⟩:=List.mem_iff_getElem.mp hb
 have hl:i<ss.length:=by rw [kj] at hi;exact hi
 have hs':ss[i]?=some ss[i]:=List.getElem?_eq_getElem hl
 have e:=ip (p:=p) (ss:=ss) (inp:=inp) (oth:=oth) (k:=0) hs'
 rw [List.getElem?_eq_getElem hi,Nat.zero_add] at e
 rw [Option.some.inj e]
 show eQ p ss inp oth i ss[i]=true
 unfold eQ
 generalize ss[i]=s at hs'
 cases s with
 | opn a=>exact Bool.or_eq_true_iff.mpr (.inr (decide_eq_true (h2 i a hs')))
 | _ =>
  refine Bool.or_eq_true_iff.mpr (.inl ?_)
  rw [Bool.not_eq_true',decide_eq_false_iff_not]
  intro z
  simp only [Stp.word] at z
  exact absurd z (by decide +kernel)
theorem cntS_eq {n:Int} (hn:n=3∨n=4) {m:Nat} (hm:m=1∨m=2) {ss:List Stp} (hl:1≤ss.length∧ss.length≤24) (hR:eV 5 n ss) (hc:aY 1 n ss=(m:Int)) {inp oth:LL} (IO:InsOk 5 n ss inp) (OO:InsOk 5 n ss oth) (A:c9 5 ss inp oth [1]=true) (due:List fS):cntS n m ss inp due=cntS n m ss oth due:=by
 have p9:(5:Int)∈primes9:=by decide
 have ris:∀ h∈([1]:List Int),1≤h∧h≤n:=fun h hh=>by rw [List.mem_singleton.mp hh];omega
 have go:∀ {inp oth:LL},InsOk 5 n ss inp→InsOk 5 n ss oth→c9 5 ss inp oth [1]=true→cntS n m ss inp due≤cntS n m ss oth due:=fun {inp oth} IO OO A=>by
  have ok:∀ r∈bC 5 m,dU 5 1 n ss r=true:=fun r hr=>chan_iff.mpr ⟨by rw [hc,dS 5 m r hr],iJ 5 m r hr⟩
  have T:∀ r∈bC 5 m,Two 5 n 1 ss inp oth r [1]:=fun r hr=>⟨⟨p9,by omega,by omega,.inl rfl,by omega,hl,hR,IO⟩,⟨p9,by omega,by omega,.inl rfl,by omega,hl,hR,OO⟩,ok r hr,ris,by decide,A⟩
  refine cnt_le (rows5_nd hm) (fun r=>exD 5 n 1 ss inp oth r [1]) (fun r hr=>?_) (fun r hr r' hr' e=>?_) fun r hr h=>?_
  ·have:=chan_iff.mp (mK (p:=5) (f:=1) (n:=n) (hs:=[1]) (inp:=inp) (oth:=oth) (by decide) (by decide) (by decide) (by omega) (ok r hr))
   exact fu 5 m _ (by have:=this.1;rw [hc] at this;exact Int.ofNat.inj this) this.2
  ·have b1:=mL (p:=5) (f:=1) (n:=n) (hs:=[1]) (inp:=inp) (oth:=oth) (by decide) (by decide) (by decide) (by omega) (ok r hr)
   have b2:=mL (p:=5) (f:=1) (n:=n) (hs:=[1]) (inp:=inp) (oth:=oth) (by decide) (by decide) (by decide) (by omega) (ok r' hr')
   have e:exD 5 n 1 ss inp oth r [1]=exD 5 n 1 ss inp oth r' [1]:=e
   have b1:exD 5 n 1 ss oth inp (exD 5 n 1 ss inp oth r [1]) [1]=r:=b1
   have b2:exD 5 n 1 ss oth inp (exD 5 n 1 ss inp oth r' [1]) [1]=r':=b2
   rw [← b1,← b2,e]
  ·have s:=two_sees (T r hr)
   have s:bG [1] (iQ 5 n 1 ss oth (exD 5 n 1 ss inp oth r [1])).2=bG [1] (iQ 5 n 1 ss inp r).2:=s
   have h:=of_decide_eq_true h
   exact decide_eq_true (s.trans h)
 exact Nat.le_antisymm (go IO OO A) (go OO IO (oo A))
structure Rk (n:Int) (m:Nat) (op:Bool) (ss:List Stp):Prop where
 R:eV 5 n ss
 nd:aY 1 n ss=(m:Int)
 own:aS ss 1=0
 cl:op=false→∀ s∈ss,∀ a,s≠.opn a
 op:op=true→∃ h1 h2 rest,ss=.ein h1::.ein h2::.sum 0 1::.opn 2::rest∧(2≤h1∧h1≤n)∧(2≤h2∧h2≤n)∧∀ s∈rest,∀ a,s≠.opn a
def inL (ns:List Int) (n:Int) (m:Nat):List Stp:=(List.range m).map fun i:Nat=>.ein (2+bg ns (1+(i:Int))%(n - 1))
theorem Rk.snoc {n:Int}{m:Nat}{op:Bool}{ss:List Stp} (h:Rk n m op ss) {z:Stp} (hz:z.Right 5 n (ss.length:Int)) (h0:z.need n=0) (h1:∀ x,z≠.ein x) (h2:∀ a,z≠.opn a):Rk n m op (ss++[z]):=by
 refine ⟨fun i s e=>?_,?_,?_,fun e s hs a=>?_,fun e=>?_⟩
 ·by_cases hi:i<ss.length
  ·rw [List.getElem?_append_left hi] at e
   exact h.R i s e
  ·rw [List.getElem?_append_right (by omega)] at e
   have:i=ss.length:=by
    cases hk:i - ss.length with
    | zero=>omega
    | succ k=>rw [hk] at e;cases e
   subst this
   rw [Nat.sub_self] at e
   rw [← Option.some.inj e]
   exact hz
 ·rw [ir,h.nd]
  show (m:Int)+(1*z.need n+0)=m
  rw [h0]
  omega
 ·rw [gE,h.own,bt,if_neg (h1 1)]
  rfl
 ·rcases List.mem_append.mp hs with x | x
  ·exact h.cl e s x a
  ·rw [List.mem_singleton.mp x]
   exact h2 a
 ·obtain ⟨a1,a2,rest,e1,b1,b2,hr⟩:=h.op e
  refine ⟨a1,a2,rest++[z],by rw [e1];rfl,b1,b2,fun s hs a=>?_⟩
  rcases List.mem_append.mp hs with x | x
  ·exact hr s x a
  ·rw [List.mem_singleton.mp x]
   exact h2 a
theorem rk_in {ns:List Int}{n:Int} (hn:n=3∨n=4) {m:Nat} (hm:m=1∨m=2):Rk n m false (inL ns n m):=by
 have hb:∀ k:Int,2≤2+bg ns k%(n - 1)∧2+bg ns k%(n - 1)≤n:=fun k=>by
  have h0:=Int.emod_nonneg (bg ns k) (show n - 1≠0 by omega)
  have h1:=Int.emod_lt_of_pos (bg ns k) (show 0<n - 1 by omega)
  omega
 refine ⟨fun i s e=>?_,?_,?_,fun _ s hs a=>?_,fun e=>nomatch e⟩
 ·unfold inL at e
  rw [List.getElem?_map] at e
  cases hr:(List.range m)[i]? with
  | none=>rw [hr] at e;cases e
  | some k =>
   rw [hr] at e
   rw [← Option.some.inj e]
   have:=hb (1+(k:Int))
   show 1≤_∧_≤n
   omega
 ·rcases hm with e | e<;>subst e<;>rfl
 ·have z:∀ k:Int,¬ Stp.ein (2+bg ns k%(n - 1))=.ein 1:=fun k z=>by injection z with z;have:=hb k;omega
  rcases hm with e | e<;>subst e
  ·show aS [Stp.ein _] 1=0
   rw [bt,if_neg (z _)]
   rfl
  ·show aS [Stp.ein _,Stp.ein _] 1=0
   rw [bt,bt,if_neg (z _),if_neg (z _)]
   rfl
 ·unfold inL at hs
  obtain ⟨k,_,rfl⟩:=List.mem_map.mp hs
  exact fun z=>nomatch z
theorem rk_op {ns:List Int}{n:Int} (hn:n=3∨n=4):Rk n 2 true (inL ns n 2++[.sum 0 1,.opn 2]):=by
 have h:=rk_in (ns:=ns) hn (m:=2) (.inr rfl)
 have hb:∀ k:Int,2≤2+bg ns k%(n - 1)∧2+bg ns k%(n - 1)≤n:=fun k=>by
  have h0:=Int.emod_nonneg (bg ns k) (show n - 1≠0 by omega)
  have h1:=Int.emod_lt_of_pos (bg ns k) (show 0<n - 1 by omega)
  omega
 refine ⟨fun i s e=>?_,?_,?_,(fun e=>nomatch e),fun _=>⟨_,_,[],rfl,hb _,hb _,fun s hs=>nomatch hs⟩⟩
 ·match i,e with
  | 0,e=>exact h.R 0 s e
  | 1,e=>exact h.R 1 s e
  | 2,e=>rw [← Option.some.inj e];simp [Stp.Right]
  | 3,e=>rw [← Option.some.inj e];simp [Stp.Right]
  | i+4,e=>cases e
 ·rw [ir,h.nd]
  rfl
 ·rw [gE,h.own]
  rfl
inductive oT (K:PySem.W.Frag) (C:Addr) (vs:List V) (H:Hp) (Q:VK) (E_:XK):Prop
 | mk (a t:Addr) (ns:List Int) (m:Nat) (op:Bool) (n:Int) (h0_:vs=[.ref a,.ref t,.int (m:Int),.bl op]) (h1_:SqL K H a (ns.map V.int)) (h2_:TabAt C H t 5 n 1) (h3_:n=3∨n=4) (h4_:m=1∨m=2) (h5_:op=true→m=2) (h6_:∀ (d:Addr) (H':Hp) (ws:List V) (ss:List Stp),Same H H'→H d=none→H' d=some (.lst ws)→StpsAt H' ws ss→Rk n m op ss→1≤ss.length→ss.length≤6→Q (.ref d) H'):oT K C vs H Q E_
inductive jv (C:Addr) (vs:List V) (H:Hp) (Q:VK) (E_:XK):Prop
 | mk (t a b d:Addr) (n:Int) (m:Nat) (ws:List V) (ss:List Stp) (is:List Addr) (inp:LL) (lvs:List V) (due:List fS) (h0_:vs=[.ref t,.ref a,.ref b,.int (m:Int),.ref d]) (h1_:TabAt C H t 5 n 1) (h2_:n=3∨n=4) (h3_:m=1∨m=2) (h4_:H a=some (.lst ws)) (h5_:StpsAt H ws ss) (h6_:aT 5 n ss=true) (h7_:H b=some (.lst (is.map V.ref))) (h8_:InsAt H is inp) (h9_:∀ r∈inp,r.length≤1000) (h10_:gq 5 n ss inp=true) (h11_:aY 1 n ss=(m:Int)) (h12_:H d=some (.lst lvs)) (h13_:LetsAt H lvs due) (h14_:cA H Q (.int (cntS n m ss inp due:Nat))):jv C vs H Q E_
theorem stps2 {H:Hp}{ws:List V}{x y:Stp}{r:List Stp} (h:StpsAt H ws (x::y::r)):∃ d1 d2 ws',ws=.ref d1::.ref d2::ws'∧H d1=some (.tup x.vs)∧H d2=some (.tup y.vs):=by
 cases h with
 | cons h1 t =>
  obtain ⟨d1,rfl,z1⟩:=h1
  cases t with
  | cons h2 t =>
   obtain ⟨d2,rfl,z2⟩:=h2
   exact ⟨d1,d2,_,rfl,z1,z2⟩
theorem isTB5 {n:Int} (hn:n=3∨n=4):isTB 5 n 1=true:=by
 rcases hn with e | e<;>subst e<;>decide +kernel
theorem plain4 {n h1 h2:Int}{rest:List Stp}{inp:LL} (hR:eV 5 n (.ein h1::.ein h2::.sum 0 1::.opn 2::rest)) (IO:InsOk 5 n (.ein h1::.ein h2::.sum 0 1::.opn 2::rest) inp):(ay 5 (.ein h1::.ein h2::.sum 0 1::.opn 2::rest) inp).getD 3 0=((bI inp h1).getD 0 0+(bI inp h2).getD (if h1=h2 then 1 else 0) 0)%5:=by
 have e0:=mq (p:=5) (by decide) hR IO (i:=0) (h:=h1) rfl
 have e1:=mq (p:=5) (by decide) hR IO (i:=1) (h:=h2) rfl
 obtain ⟨_,_,e2⟩:=fM (p:=5) (by decide) hR IO (i:=2) (z:=.sum 0 1) rfl
 obtain ⟨_,_,e3⟩:=fM (p:=5) (by decide) hR IO (i:=3) (z:=.opn 2) rfl
 generalize ay 5 (.ein h1::.ein h2::.sum 0 1::.opn 2::rest) inp=X at e0 e1 e2 e3
 have e3:X.getD 3 0=(X.take 3).getD 2 0:=e3
 have e2:X.getD 2 0=((X.take 2).getD 0 0+(X.take 2).getD 1 0)%5:=e2
 rw [fz (by decide)] at e3
 rw [fz (by decide),fz (by decide)] at e2
 rw [e3,e2,e0,e1]
 unfold jU
 have u0:aS (List.take 0 (Stp.ein h1::.ein h2::.sum 0 1::.opn 2::rest)) h1=0:=rfl
 have u1:aS (List.take 1 (Stp.ein h1::.ein h2::.sum 0 1::.opn 2::rest)) h2=if h1=h2 then 1 else 0:=by
  show aS [Stp.ein h1] h2=_
  rw [bt]
  by_cases e:h1=h2
  ·rw [if_pos e,if_pos (by rw [e])]
   rfl
  ·rw [if_neg e,if_neg (fun z=>e (by injection z))]
   rfl
 rw [u0,u1]
theorem qu {n h1 h2:Int}{rest:List Stp}{inp oth:LL}{pl:Nat}{v:Int} (hp:pl=if h1=h2 then 1 else 0) (b1:1≤h1) (b2:1≤h2∧h2≤n) (own:aS (.ein h1::.ein h2::.sum 0 1::.opn 2::rest) 1=0) (hr:∀ s∈rest,∀ a,s≠.opn a) (hR:eV 5 n (.ein h1::.ein h2::.sum 0 1::.opn 2::rest)) (IO:InsOk 5 n (.ein h1::.ein h2::.sum 0 1::.opn 2::rest) inp) (OO:InsOk 5 n (.ein h1::.ein h2::.sum 0 1::.opn 2::rest) oth) (OO':InsOk 5 n (.ein h1::.ein h2::.sum 0 1::.opn 2::rest) (oth.set (h2 - 1).toNat ((bI oth h2).set pl v))) (lp:pl<(bI oth h2).length) (hv:v=((bI inp h1).getD 0 0+(bI inp h2).getD pl 0 - (bI oth h1).getD 0 0)%5):c9 5 (.ein h1::.ein h2::.sum 0 1::.opn 2::rest) inp (oth.set (h2 - 1).toNat ((bI oth h2).set pl v)) [1]=true:=by
 refine mY (fun h hh=>?_) fun i a hi=>?_
 ·rw [List.mem_singleton.mp hh,own]
  rfl
 have i3:i=3:=by
  match i,hi with
  | 0,hi=>cases hi
  | 1,hi=>cases hi
  | 2,hi=>cases hi
  | 3,_=>rfl
  | i+4,hi=>exact absurd rfl (hr _ (List.mem_of_getElem? (show rest[i]?=some (.opn a) from hi)) a)
 subst i3
 rw [plain4 hR IO,plain4 hR OO',← hp]
 have lo:(h2 - 1).toNat<oth.length:=by rw [OO.len];omega
 have e2:(bI (oth.set (h2 - 1).toNat ((bI oth h2).set pl v)) h2).getD pl 0=v:=by
  rw [gN b2.1 b2.1 lo,if_pos rfl,List.getD_eq_getElem?_getD,List.getElem?_set_self lp]
  rfl
 have e1:(bI (oth.set (h2 - 1).toNat ((bI oth h2).set pl v)) h1).getD 0 0=(bI oth h1).getD 0 0:=by
  rw [gN b2.1 b1 lo]
  by_cases e:h1=h2
  ·rw [if_pos e]
   rw [if_pos e] at hp
   rw [List.getD_eq_getElem?_getD,List.getElem?_set_ne (by omega),e,List.getD_eq_getElem?_getD]
  ·rw [if_neg e]
 rw [e1,e2,hv]
 omega
end Veil
namespace Veil
open PySem L2
open PySem.W (nsIn findIn kitOne codeIn keepIn fnOf isFn mg_of mg_none_of excIn)
seal L2.PSs L2.PS L2.PE L2.PT L2.PW L2.PA L2.PG L2.PGs L2.PI L2.PTs L2.PO L2.PH L2.PJ L2.OpR L2.CallR L2.IxR L2.UnR L2.TruR L2.SlR
def top (i:Nat):Stmt:=PySem.Challenge.pw_veilsum_k21_whole_sights_counted.main.body.getD i (.Pass ⟨0,0,0,0⟩)
abbrev eM:Stmt:=top 11
abbrev em:Stmt:=dQ (top 12) 0
abbrev mh:Stmt:=top 13
abbrev jA:Stmt:=top 14
abbrev cF:Stmt:=top 15
abbrev bU:Stmt:=top 16
abbrev fG:Stmt:=top 17
abbrev gG:Stmt:=top 18
abbrev fD:Stmt:=top 19
abbrev jD:Stmt:=top 21
abbrev dF:Stmt:=top 25
abbrev cP:Stmt:=top 26
abbrev mf:Stmt:=top 27
abbrev ce:Stmt:=top 28
abbrev jB:Stmt:=top 29
abbrev cD:Stmt:=top 30
abbrev dG:Stmt:=top 31
abbrev fJ:Stmt:=top 32
abbrev jC:Stmt:=top 33
abbrev l8:Stmt:=top 34
abbrev dg:Stmt:=top 35
abbrev b7:Stmt:=top 36
abbrev eO:Stmt:=top 37
abbrev eJ:Stmt:=top 38
abbrev b8:Stmt:=top 40
abbrev dc:Stmt:=top 41
abbrev bV:Stmt:=top 42
abbrev fE:Stmt:=top 43
abbrev de:Stmt:=top 44
abbrev dH:Stmt:=dQ (top 45) 0
abbrev bQ:Stmt:=dQ (top 45) 1
abbrev bW:Stmt:=dQ (top 45) 2
abbrev bu:Stmt:=dQ (top 45) 3
abbrev cg:Stmt:=dQ (top 45) 4
abbrev bK:Stmt:=dQ (top 45) 5
abbrev dm:Stmt:=dQ (top 45) 6
abbrev cY:Stmt:=dQ (top 45) 7
abbrev s_run:Stmt:=top 46
abbrev bH:Stmt:=top 48
abbrev cE:Stmt:=top 49
abbrev cN:Stmt:=top 50
abbrev cO:Stmt:=top 51
abbrev l9:Stmt:=top 52
abbrev cM:Stmt:=top 54
abbrev fH:Stmt:=top 55
abbrev eK:Stmt:=top 58
abbrev cb:Stmt:=top 59
abbrev df:Stmt:=top 62
abbrev b9:Stmt:=top 63
abbrev cL:Stmt:=top 64
abbrev s_law:Stmt:=top 65
section
variable {P:Program}{w:World}{K:PySem.W.Frag}{mg:Str→Option Value}{base:Heap}{C pa:Addr}
theorem kY:aq ["prime","hands","few"] ["prime","hands","few"] (am eM):=⟨rfl,rfl,rfl,by decide +kernel,rfl,by decide +kernel,by decide +kernel⟩
theorem lA (F:Src K mg "is_table" "is_table" eM ["prime","hands","few"]) (T:Pri K mg pa):Ok P w K mg base CX0 1 "is_table" ["prime","hands","few"] spIsT:=by
 refine F.ok kY (fun vs H Q E h=>?_) (fun f cdv A outer s H vs Q E hr h=>?_)
 ·obtain ⟨p,n,f,rfl,_⟩:=h
  rfl
 obtain ⟨p,n,f,rfl,q⟩:=h
 refine ⟨_,(ae (bR (PW.pt (nv (aK gp (pv 0) (lh (v:=.ref _) rfl T.gPRIMES rfl) rfl) (i5 (aK gp (pv 2) (c7 (aa ak (aa ak ac))) rfl))))
   (af (az ki))
   aO)
  (af (az (mt (gK lq lq ak (pv 1) ak) (mt (fg lj (pv 1) (pv 0) (aU _)) (pj (fg lj (aE c8 ak (pv 2)) (pv 1) (aU _)))))))),?_⟩
 refine ⟨_,rfl,pa,_,rfl,.inr (T.sq H),rfl,by decide,_,rfl,?_⟩
 refine bP (fun c1=>?_) (fun c1=>?_)
 ·have c1:(!inV (.int p) (primes9.map V.int))=true:=c1
  refine iteT ?_
  have e:isTB p n f=false:=by unfold isTB;rw [if_pos c1]
  rw [← e]
  exact q H (Same.refl H)
 have c1:¬ (!inV (.int p) (primes9.map V.int))=true:=c1
 refine ⟨_,rfl,(by show 2≤sizeLine;decide),fun t ht=>?_⟩
 refine ⟨t,_,rfl,.inr (SqT.of ad),rfl,by decide,_,rfl,?_⟩
 have s1:Same H (upd H t (.tup [.int 1,.int 2])):=ah ht _
 refine bP (fun c2=>?_) (fun c2=>?_)
 ·have c2:(!inV (.int f) [.int 1,.int 2])=true:=c2
  have e:isTB p n f=false:=by unfold isTB;rw [if_neg c1,if_pos c2]
  have d:=q _ s1
  rw [e] at d
  exact d
 have c2:¬ (!inV (.int f) [.int 1,.int 2])=true:=c2
 have e:isTB p n f=((decide (3≤n) && decide (n≤7)) && (decide (n<p) && decide (2*f<n))):=by unfold isTB;rw [if_neg c1,if_neg c2]
 have d:=q _ s1
 rw [e] at d
 refine ⟨_,rfl,_,_,rfl,rfl,_,rfl,?_⟩
 refine bP (fun c3=>?_) (fun c3=>?_)
 ·refine ⟨_,_,rfl,rfl,_,rfl,?_⟩
  refine bP (fun c4=>?_) (fun c4=>?_)
  ·refine ⟨_,rfl,_,rfl,_,_,rfl,rfl,_,rfl,?_⟩
   refine bP (fun c5=>?_) (fun c5=>?_)
   ·refine ⟨_,rfl,_,_,rfl,rfl,.inl ⟨by decide,by decide⟩,_,rfl,_,_,rfl,rfl,?_⟩
    rw [c3,c4,c5] at d
    exact d
   ·rw [c3,c4,Bool.eq_false_iff.mpr c5] at d
    exact d
  ·rw [c3,Bool.eq_false_iff.mpr c4] at d
   exact d
 ·refine ⟨_,rfl,iteF ?_⟩
  rw [Bool.eq_false_iff.mpr c3] at d
  exact d
theorem jz:aq ["self","prime","hands","few"] ["self","prime","hands","few"] (am em):=⟨rfl,rfl,rfl,by decide +kernel,rfl,by decide +kernel,by decide +kernel⟩
theorem ok_init {fI:Addr}{fd:FuncData} (F:Fun K "__init__" "Table.__init__" em fI fd) (T:Tab K C) (O_is_table:Ok P w K mg base CX0 1 "is_table" ["prime","hands","few"] spIsT):gD P w K mg base CX0 2 fI fd ["self","prime","hands","few"] (lZ C):=by
 refine F.ok jz (fun vs H Q E h=>?_) (fun cdv A outer s H vs Q E hr h=>?_)
 ·obtain ⟨t,dx,p,n,f,rfl,_⟩:=h
  rfl
 obtain ⟨t,dx,p,n,f,rfl,ht,hok,q⟩:=h
 refine ⟨_,(ae (bR (i6 (gk (aj O_is_table hr rfl (aa (pv 1) (aa (pv 2) (aa (pv 3) ac)))) (fun _=>rfl)))
   (af jE)
   aO)
  (ae (fK (pv 0) (pv 1) rfl)
  (ae (fK (pv 0) (pv 2) rfl)
  (af (fK (pv 0) (pv 3) rfl))))),?_⟩
 refine ⟨_,rfl,_,rfl,_,rfl,p,n,f,rfl,fun H1 s1=>⟨_,rfl,?_⟩⟩
 rw [hok]
 refine iteF ?_
 refine ⟨_,rfl,_,rfl,t,C,dx,[],rfl,s1 _ _ ht,T.cl,T.nP,(by show 0<1000;decide),?_⟩
 refine ⟨_,rfl,_,rfl,t,C,dx,_,rfl,ad,T.cl,T.nH,(by show 1<1000;decide),?_⟩
 refine ⟨_,rfl,_,rfl,t,C,dx,_,rfl,ad,T.cl,T.nF,?_,?_⟩
 ·exact Nat.lt_of_le_of_lt (dP _ _ _) (by show 2<1000;decide)
 ·refine q _ (fun b o e hb=>?_) ⟨dx,ad⟩
  rw [ar hb,ar hb,ar hb]
  exact s1 _ _ e
theorem sc_worth:aq ["table","row","at","total","number"] ["table","row","at"] (am jA):=⟨rfl,rfl,rfl,by decide +kernel,rfl,by decide +kernel,by decide +kernel⟩
theorem ok_worth (F:Src K mg "worth" "worth" jA ["table","row","at"]) (B:Blt mg) (T:Tab K C):Ok P w K mg base CX0 1 "worth" ["table","row","at"] (gZ K C):=by
 refine F.ok sc_worth (fun vs H Q E h=>?_) (fun f cdv A outer s H vs Q E hr h=>?_)
 ·obtain ⟨t,r,p,n,f,a,ns,rfl,_⟩:=h
  rfl
 obtain ⟨t,r,p,n,f,a,ns,rfl,⟨dx,ht⟩,hp0,hp1,hq,q⟩:=h
 refine ⟨_,(ae (aJ (i:=3) sc_worth.nd rfl (Or.inl rfl) ak)
  (ae (cq PassesOwn.never rfl (pi_rev rfl B.reversed (aa (pv 1) ac)) (au (i:=4) sc_worth.nd rfl (Or.inl rfl))
   (af (aJ (i:=3) sc_worth.nd rfl (Or.inl rfl) (aE bZ (aE bM (aE c8 (pv 3) (pv 2)) (pv 4)) (aI (pv 0) rfl)))))
  (af (az (pv 3))))),?_⟩
 refine ⟨_,rfl,r,ns.map V.int,rfl,hq,for_rev (xs:=ns.map V.int) (fun i σ H2=>H2=H∧i≤ns.length∧∃ v:Option V,σ=[some (.ref t),some (.ref r),some (.int a),some (.int (bd p (ns.drop (ns.length - i)) a)),v]) ?_ ?_ ?_ ?_⟩
 ·refine ⟨rfl,Nat.zero_le _,none,?_⟩
  rw [Nat.sub_zero,List.drop_length]
  rfl
 ·rintro i σ H2 _ ⟨rfl,_⟩
  exact hq
 ·rintro i x σ H2 hx hi ⟨rfl,hi2,v,rfl⟩
  rw [List.length_map] at hx hi
  obtain ⟨z,rfl,hz⟩:=dB hx
  have hb:=jh hp0 (ns.drop (ns.length - i)) a
  refine ⟨_,rfl,_,rfl,_,_,rfl,rfl,.inl ⟨by omega,by omega⟩,_,rfl,_,_,rfl,rfl,_,rfl,t,C,dx,_,_,rfl,ht,T.cl,T.nP,kR p n f,_,_,rfl,rfl,hp0,?_⟩
  refine ⟨rfl,hi,some (.int z),?_⟩
  have e:ns.drop (ns.length - (i+1))=z::ns.drop (ns.length - i):=by
   rw [show ns.length - (i+1)=ns.length - 1 - i by omega,gf hz,show ns.length - 1 - i+1=ns.length - i by omega]
  rw [e]
  rfl
 ·rintro σ H2 ⟨rfl,_,v,rfl⟩
  rw [List.length_map,Nat.sub_self,List.drop_zero]
  exact ⟨_,rfl,q H2 (Same.refl _)⟩
theorem iM:aq ["script","k"] ["script","k"] (am cM):=⟨rfl,rfl,rfl,by decide +kernel,rfl,by decide +kernel,by decide +kernel⟩
theorem ok_cell (F:Src K mg "_law_cell_at" "_law_cell_at" cM ["script","k"]) (B:Blt mg):Ok P w K mg base CX0 1 "_law_cell_at" ["script","k"] (l7 K):=by
 refine F.ok iM (fun vs H Q E h=>?_) (fun f cdv A outer s H vs Q E hr h=>?_)
 ·obtain ⟨a,ns,k,rfl,_⟩:=h
  rfl
 obtain ⟨a,ns,k,rfl,hS,h0,q⟩:=h
 refine ⟨_,(ae (bR (aK lj (pv 1) (aN aB rfl B.len PySem.boot_len (aa (pv 0) ac)) (aU _))
   (af (az (aX bf (pv 0) (pv 1) (fun _ _=>rfl))))
   aO)
  (af (az ak))),?_⟩
 refine ⟨_,rfl,_,rfl,a,_,rfl,.inl hS,_,_,rfl,rfl,_,rfl,?_⟩
 have d:=q H (Same.refl H)
 unfold bg at d
 refine bP (fun c=>?_) (fun c=>?_)
 ·have c':k<(((ns.map V.int).length:Nat):Int):=of_decide_eq_true c
  rw [List.length_map] at c'
  have hk:k.toNat<ns.length:=by omega
  rw [List.getD_eq_getElem?_getD,List.getElem?_eq_getElem hk] at d
  refine ⟨_,rfl,_,rfl,a,_,_,_,rfl,rfl,hS,?_,d⟩
  have e:atI (ns.map V.int) ((k.toNat:Nat):Int)=some (.int ns[k.toNat]):=fq (by rw [List.getElem?_map,List.getElem?_eq_getElem hk]<;>rfl)
  rw [show ((k.toNat:Nat):Int)=k by omega] at e
  exact e
 ·have c':¬ k<(((ns.map V.int).length:Nat):Int):=of_decide_eq_false (Bool.eq_false_iff.mpr c)
  rw [List.length_map] at c'
  rw [List.getD_eq_getElem?_getD,List.getElem?_eq_none (by omega)] at d
  exact d
theorem nr:aq ["cell","k","many"] ["cell","k","many"] (am fH):=⟨rfl,rfl,rfl,by decide +kernel,rfl,by decide +kernel,by decide +kernel⟩
theorem ok_mix (F:Src K mg "_law_mix" "_law_mix" fH ["cell","k","many"]):Ok P w K mg base CX0 1 "_law_mix" ["cell","k","many"] oV:=by
 refine F.ok nr (fun vs H Q E h=>?_) (fun f cdv A outer s H vs Q E hr h=>?_)
 ·obtain ⟨c,k,m,rfl,_⟩:=h
  rfl
 obtain ⟨c,k,m,rfl,hm,q⟩:=h
 refine ⟨_,(af (az (aE bZ (aE pq (aE bZ (aE c8 (aE bM (aE bZ (pv 0) ak) ak) (aE bM ak (aE c8 ak (pv 1)))) ak) ak) (pv 2)))),?_⟩
 have h0:=Int.emod_nonneg c (show (2147483647:Int)≠0 by decide)
 have h1:=Int.emod_lt_of_pos c (show (0:Int)<2147483647 by decide)
 refine ⟨_,rfl,_,_,rfl,rfl,(by show (0:Int)<2147483647;decide),_,_,rfl,rfl,_,rfl,_,_,rfl,rfl,.inl ⟨by decide,by decide⟩,_,_,rfl,rfl,_,_,rfl,rfl,.inl ⟨by omega,by omega⟩,_,_,rfl,rfl,(by show (0:Int)<1000000007;decide),_,_,rfl,rfl,⟨by decide,by decide⟩,_,rfl,_,_,rfl,rfl,hm,?_⟩
 exact q H (Same.refl H)
end
section
variable {P:Program}{w:World}{K:PySem.W.Frag}{mg:Str→Option Value}{base:Heap}{C pa:Addr}
theorem sc_back:aq ["table","number","other"] ["table","number"] (am mh):=⟨rfl,rfl,rfl,by decide +kernel,rfl,by decide +kernel,by decide +kernel⟩
theorem back_at {p x:Int}{i:Nat} (hi:(1+(i:Int))<p) (h:x*(1+(i:Int))%p=1) (hn:∀ j:Nat,j<i→x*(1+(j:Int))%p≠1):bT p x=1+(i:Int):=by
 unfold bT
 have e:((List.range (p - 1).toNat).map fun i:Nat=>1+(i:Int)).find? (fun o=>decide (x*o%p=1))=some (1+(i:Int)):=by
  rw [List.find?_map,Option.map_eq_some_iff]
  refine ⟨i,?_,rfl⟩
  rw [List.find?_range_eq_some]
  refine ⟨?_,List.mem_range.mpr (by omega),fun j hj=>?_⟩
  ·exact decide_eq_true h
  ·simpa using hn j hj
 rw [e]
 rfl
theorem ok_back (F:Src K mg "back" "back" mh ["table","number"]) (B:Blt mg) (T:Tab K C):Ok P w K mg base CX0 1 "back" ["table","number"] (oX C):=by
 refine F.ok sc_back (fun vs H Q E h=>?_) (fun f cdv A outer s H vs Q E hr h=>?_)
 ·obtain ⟨t,p,n,f,x,rfl,_⟩:=h
  rfl
 obtain ⟨t,p,n,f,x,rfl,⟨dx,ht⟩,hp,hxb,hx0,q⟩:=h
 have p5:=jH hp
 refine ⟨_,(ae (cq PassesOwn.never rfl (eA rfl B.range (aa ak (aa (aI (pv 0) rfl) ac))) (au (i:=2) sc_back.nd rfl (Or.inl rfl))
   (af (bR (aK dA (aE bZ (aE c8 (pv 1) (pv 2)) (aI (pv 0) rfl)) ak (aU _))
   (af (az (pv 2)))
   aO)))
  (af jE)),?_⟩
 refine ⟨_,rfl,t,C,dx,_,_,rfl,ht,T.cl,T.nP,kR _ _ _,_,_,rfl,⟨by decide,by decide,by omega,by omega⟩,dC (fun i σ H2=>H2=H∧(∃ v:Option V,σ=[some (.ref t),some (.int x),v])∧∀ j:Nat,j<i→x*(1+(j:Int))%p≠1) ⟨rfl,⟨none,rfl⟩,fun j hj=>absurd hj (Nat.not_lt_zero j)⟩ ?_ ?_⟩
 ·rintro i σ H2 hi ⟨rfl,⟨v,rfl⟩,hn⟩
  refine ⟨_,rfl,_,rfl,_,_,rfl,rfl,.inl ⟨by omega,by omega⟩,_,rfl,t,C,dx,_,_,rfl,ht,T.cl,T.nP,kR _ _ _,_,_,rfl,rfl,by omega,rfl,_,rfl,?_⟩
  refine bP (fun c=>?_) (fun c=>?_)
  ·have c':V.int (x*(1+(i:Int))%p)=V.int 1:=of_decide_eq_true c
   injection c' with c'
   refine ⟨_,rfl,?_⟩
   have d:=q H2 (Same.refl _)
   rw [back_at (by omega) c' hn] at d
   exact d
  ·have c':¬ V.int (x*(1+(i:Int))%p)=V.int 1:=of_decide_eq_false (Bool.eq_false_iff.mpr c)
   refine ⟨rfl,⟨_,rfl⟩,fun j hj=>?_⟩
   rcases Nat.lt_succ_iff_lt_or_eq.mp hj with z | z
   ·exact hn j z
   ·rw [z]
    exact fun e=>c' (congrArg V.int e)
 ·rintro σ H2 ⟨rfl,⟨v,rfl⟩,hn⟩
  have hb:=gR hp (x:=x) (by rw [Int.emod_eq_of_lt hxb.1 hxb.2];exact hx0)
  have:=hn (bT p x - 1).toNat (by omega)
  rw [show 1+((bT p x - 1).toNat:Int)=bT p x by omega] at this
  exact absurd hb.2 this
theorem sc_refuse_alike:aq ["table","points","places"] ["table","points"] (am cF):=⟨rfl,rfl,rfl,by decide +kernel,rfl,by decide +kernel,by decide +kernel⟩
theorem ok_alike (F:Src K mg "refuse_alike" "refuse_alike" cF ["table","points"]) (B:Blt mg) (T:Tab K C):Ok P w K mg base CX0 1 "refuse_alike" ["table","points"] (kU C):=by
 refine F.ok sc_refuse_alike (fun vs H Q E h=>?_) (fun f cdv A outer s H vs Q E hr h=>?_)
 ·obtain ⟨t,r,p,n,f,rs,qs,rfl,_⟩:=h
  rfl
 obtain ⟨t,r,p,n,f,rs,qs,rfl,⟨dx,ht⟩,hp,hr1,hpt,hql,nd,q⟩:=h
 have p5:=jH hp
 refine ⟨_,(ae (bY 2 ["point"] [("table",0)] sc_refuse_alike.nd  (bL (pv 1)) rfl (fun C s0 H0 ex=>by exact (au (i:=0) (show List.Nodup [("point":Str),"table"] by decide +kernel) rfl (Or.inl rfl))) (fun C s0 H0 ex=>by exact bp) (fun C s0 H0 ex=>by exact (aE bZ (aX (lE K) (pv 0) ak (fun _ _=>rfl)) (dL K (pv 1) rfl))))
  (af (bR (aK lj (aN ql rfl B.len PySem.boot_len (aa (kh (qk rfl) rfl B.set PyProof.Rows.boot_set (aa (pv 2) ac)) ac)) (aN aB rfl B.len PySem.boot_len (aa (pv 2) ac)) (aU _))
   (af jE)
   aO))),?_⟩
 refine ⟨_,rfl,r,rfl,⟨_,SqL.of hr1⟩,fun D hD=>?_⟩
 refine bF (K:=K) (a:=r) (xs:=rs) (fun i ys H2=>i≤qs.length∧ys=((qs.take i).map fun q=>q.1%p).map V.int∧Same H H2) ⟨Nat.zero_le _,rfl,ao (Same.refl _) hD⟩ ?_ ?_ ?_
 ·rintro i ys H2 _ ⟨_,_,s2⟩
  exact SqL.of (s2 _ _ hr1)
 ·rintro i x ys H2 hx ⟨_,rfl,s2⟩ hD2
  obtain ⟨a,z,rfl,hz,hq⟩:=(hpt.same s2).get hx
  refine ⟨⟨rfl,rfl⟩,?_⟩
  refine ⟨_,rfl,a,_,_,.int z.1,rfl,rfl,SqT.of hz,rfl,_,rfl,t,C,dx,_,_,rfl,s2 _ _ ht,T.cl,T.nP,kR _ _ _,_,_,rfl,rfl,by omega,hD2,?_,?_,?_,ao s2 hD⟩
  ·rw [List.length_map,List.length_map,List.length_take]
   exact aw (by omega)
  ·exact (List.getElem?_eq_some_iff.mp hq).1
  ·rw [← cW hq,List.map_append,List.map_append]
   rfl
 ·rintro ys H2 ⟨_,rfl,s2⟩ hD2
  have hl:rs.length=qs.length:=Paired.length hpt
  rw [hl,List.take_length] at hD2
  have nl:(qs.map fun q=>q.1%p).length=qs.length:=List.length_map _
  refine ⟨_,rfl,D,_,rfl,SqL.of hD2,by omega,fun u hu=>?_⟩
  refine ⟨u,_,_,rfl,ad,?_,?_⟩
  ·rw [eU nd]
   omega
  refine ⟨_,rfl,D,_,rfl,.inl (SqL.of (ah hu _ _ _ hD2)),_,_,rfl,rfl,_,rfl,?_⟩
  rw [eU nd,List.length_map]
  refine bP (fun c=>?_) (fun c=>?_)
  ·have c':=of_decide_eq_true c
   rw [List.length_map,nl] at c'
   exact absurd c' (Int.lt_irrefl _)
  ·exact q _ (s2.trans (ah hu _))
theorem fU:aq ["table","row","at"] ["table","row","at"] (am bU):=⟨rfl,rfl,rfl,by decide +kernel,rfl,by decide +kernel,by decide +kernel⟩
theorem pB (F:Src K mg "with_nought_at" "with_nought_at" bU ["table","row","at"]) (B:Blt mg) (T:Tab K C):Ok P w K mg base CX0 1 "with_nought_at" ["table","row","at"] (jq C):=by
 refine F.ok fU (fun vs H Q E h=>?_) (fun f cdv A outer s H vs Q E hr h=>?_)
 ·obtain ⟨t,r,p,n,f,x,ss,rfl,_⟩:=h
  rfl
 obtain ⟨t,r,p,n,f,x,ss,rfl,⟨dx,ht⟩,hp,hr1,hsl,hsb,q⟩:=h
 have p5:=jH hp
 refine ⟨_,(af (az (bS ["before","here"] [("table",0),("at",2)]  (ig rfl B.zip (aa (aE jb (bw (aa ak ac)) (pv 1)) (aa (aE jb (pv 1) (bw (aa ak ac))) ac))) rfl (fun C s0 H0 ex=>by exact (fV K 2 rfl (aL (au (i:=0) (show List.Nodup [("before":Str),"here","table","at"] by decide +kernel) rfl (Or.inl rfl)) (aL (au (i:=1) (show List.Nodup [("before":Str),"here","table","at"] by decide +kernel) rfl (Or.inl rfl)) cv)))) (fun C s0 H0 ex=>by exact bp) (fun C s0 H0 ex=>by exact (aE bZ (aE eC (pv 0) (aE c8 (pv 3) (pv 1))) (dL K (pv 2) rfl)))))),?_⟩
 have z1:1+(ss.map V.int).length≤sizeLine:=by rw [List.length_map];exact small (by omega)
 have z2:(ss.map V.int).length+1≤sizeLine:=by rw [List.length_map];exact small (by omega)
 refine ⟨(by show 1≤sizeLine;decide),fun l1 h1=>?_⟩
 have s1:=ah h1 (.lst [.int 0])
 refine ⟨_,rfl,l1,r,_,_,rfl,rfl,ad,s1 _ _ hr1,z1,fun l2 h2=>?_⟩
 have s2:=s1.trans (ah h2 (.lst ([.int 0]++ss.map V.int)))
 have e2:(upd (upd H l1 (.lst [.int 0])) l2 (.lst ([.int 0]++ss.map V.int))) l2=some (.lst ((0::ss).map V.int)):=ad
 generalize upd (upd H l1 (.lst [.int 0])) l2 (.lst ([.int 0]++ss.map V.int))=H2 at s2 e2
 refine ⟨_,rfl,(by show 1≤sizeLine;decide),fun l3 h3=>?_⟩
 have s3:=ah h3 (.lst [.int 0])
 refine ⟨r,l3,_,_,rfl,rfl,s3 _ _ (s2 _ _ hr1),ad,z2,fun l4 h4=>?_⟩
 have s4:Same H2 (upd (upd H2 l3 (.lst [.int 0])) l4 (.lst (ss.map V.int++[.int 0]))):=s3.trans (ah h4 _)
 have e4:(upd (upd H2 l3 (.lst [.int 0])) l4 (.lst (ss.map V.int++[.int 0]))) l4=some (.lst ((ss++[0]).map V.int)):=by rw [ad,List.map_append];rfl
 generalize upd (upd H2 l3 (.lst [.int 0])) l4 (.lst (ss.map V.int++[.int 0]))=H4 at s4 e4
 refine ⟨l2,l4,_,_,rfl,SqL.of (s4 _ _ e2),SqL.of e4,fun D hD=>?_⟩
 refine gQ (K:=K) (a:=l2) (b:=l4) (xs:=(0::ss).map V.int) (zs:=(ss++[0]).map V.int) (fun i ys H5=>ys=((dn p x ss).take i).map V.int∧Same H4 H5) ⟨rfl,ao (Same.refl _) hD⟩ ?_ ?_ ?_
 ·rintro i ys H5 ⟨_,s5⟩
  exact ⟨SqL.of (s5 _ _ (s4 _ _ e2)),SqL.of (s5 _ _ e4)⟩
 ·rintro i u v ys H5 c hu hv ⟨rfl,s5⟩ hD5 hc
  obtain ⟨u,rfl,hu'⟩:=dB hu
  obtain ⟨v,rfl,hv'⟩:=dB hv
  have hvb:0≤v∧v<p:=by
   rcases List.mem_append.mp (List.mem_of_getElem? hv') with z | z
   ·exact hsb v z
   ·have:v=0:=by simpa using z
    omega
  have s6:=s5.trans (ah hc (.tup [.int u,.int v]))
  have hn:(dn p x ss)[i]?=some ((u - x*v)%p):=oF hu' hv'
  refine ⟨c,_,rfl,SqT.of ad,rfl,_,_,rfl,_,_,rfl,rfl,⟨rfl,rfl⟩,?_⟩
  refine ⟨_,rfl,_,rfl,_,rfl,_,_,rfl,rfl,.inr ⟨by omega,by omega⟩,_,_,rfl,rfl,_,rfl,t,C,dx,_,_,rfl,s6 _ _ (s4 _ _ (s2 _ _ ht)),T.cl,T.nP,kR _ _ _,_,_,rfl,rfl,by omega,?_,?_,?_,ao s6 hD⟩
  ·exact ah hc _ _ _ hD5
  ·rw [List.length_map,List.length_take,fZ]
   exact aw (by omega)
  ·rw [← cW hn,List.map_append]
   rfl
 ·rintro ys H5 ⟨rfl,s5⟩ hD5
  have e:min ((0::ss).map V.int).length ((ss++[0]).map V.int).length=(dn p x ss).length:=by rw [List.length_map,List.length_map,fZ];simp
  rw [e,List.take_length] at hD5
  exact q D H5 (s2.trans (s4.trans s5)) (s2.free (s4.free hD)) hD5
theorem sc_through:aq ["table","points","row","still","x","y","times"] ["table","points"] (am fG):=⟨rfl,rfl,rfl,by decide +kernel,rfl,by decide +kernel,by decide +kernel⟩
theorem nG (F:Src K mg "through" "through" fG ["table","points"]) (B:Blt mg) (T:Tab K C) (O_refuse_alike:Ok P w K mg base CX0 1 "refuse_alike" ["table","points"] (kU C)) (O_worth:Ok P w K mg base CX0 1 "worth" ["table","row","at"] (gZ K C))
  (O_back:Ok P w K mg base CX0 1 "back" ["table","number"] (oX C)) (O_with_nought_at:Ok P w K mg base CX0 1 "with_nought_at" ["table","row","at"] (jq C)):Ok P w K mg base CX0 2 "through" ["table","points"] (g8 C):=by
 refine F.ok sc_through (fun vs H Q E h=>?_) (fun f cdv A outer s H vs Q E hr h=>?_)
 ·obtain ⟨t,r,p,n,f,rs,qs,rfl,_⟩:=h
  rfl
 obtain ⟨t,r,p,n,f,rs,qs,rfl,T1,hp,hr1,hpt,hql,nd,q⟩:=h
 have p5:=jH hp
 refine ⟨_,(ae (bv (aj O_refuse_alike hr rfl (aa (pv 0) (aa (pv 1) ac))))
  (ae (aJ (i:=2) sc_through.nd rfl (Or.inl rfl) (bw ac))
  (ae (aJ (i:=3) sc_through.nd rfl (Or.inl rfl) (bw (aa ak ac)))
  (ae (cq PassesOwn.never rfl (bL (pv 1)) (gm rfl (aL (au (i:=4) sc_through.nd rfl (Or.inl rfl)) (aL (au (i:=5) sc_through.nd rfl (Or.inl rfl)) cv)))
   (ae (aJ (i:=6) sc_through.nd rfl (Or.inr rfl) (aE c8 (aE eC (pv 5) (aj O_worth hr rfl (aa (pv 0) (aa (pv 2) (aa (pv 4) ac))))) (aj O_back hr rfl (aa (pv 0) (aa (aj O_worth hr rfl (aa (pv 0) (aa (pv 3) (aa (pv 4) ac)))) ac)))))
  (ae (bY 2 ["old","new"] [("table",0),("times",6)] sc_through.nd  (ig rfl B.zip (aa (aE jb (pv 2) (bw (aa ak ac))) (aa (pv 3) ac))) rfl (fun C s0 H0 ex=>by exact (fV K 2 rfl (aL (au (i:=0) (show List.Nodup [("old":Str),"new","table","times"] by decide +kernel) rfl (Or.inl rfl)) (aL (au (i:=1) (show List.Nodup [("old":Str),"new","table","times"] by decide +kernel) rfl (Or.inl rfl)) cv)))) (fun C s0 H0 ex=>by exact bp) (fun C s0 H0 ex=>by exact (aE bZ (aE bM (pv 0) (aE c8 (pv 3) (pv 1))) (dL K (pv 2) rfl))))
  (af (aJ (i:=3) sc_through.nd rfl (Or.inl rfl) (aj O_with_nought_at hr rfl (aa (pv 0) (aa (pv 3) (aa (pv 4) ac)))))))))
  (af (az (pv 2))))))),?_⟩
 refine ⟨_,rfl,_,rfl,t,r,p,n,f,rs,qs,rfl,T1,hp,hr1,hpt,by omega,nd,fun H1 s1=>?_⟩
 refine ⟨(by show 0≤sizeLine;decide),fun la hla=>?_⟩
 refine ⟨(by show 1≤sizeLine;decide),fun lb hlb=>?_⟩
 have sb:Same H1 (upd (upd H1 la (.lst [])) lb (.lst [.int 1])):=(ah hla _).trans (ah hlb _)
 refine ⟨_,rfl,r,rfl,⟨_,SqL.of (sb _ _ (s1 _ _ hr1))⟩,fQ (K:=K) (a:=r) (xs:=rs) (fun i σ H2=>∃ (l1 l2:Addr) (v4 v5 v6:Option V),σ=[some (.ref t),some (.ref r),some (.ref l1),some (.ref l2),v4,v5,v6]∧Same H H2∧H l1=none ∧
  H2 l1=some (.lst ((cJ p (qs.take i)).1.map V.int))∧H2 l2=some (.lst ((cJ p (qs.take i)).2.map V.int))) ?_ ?_ ?_ ?_⟩
 ·refine ⟨la,lb,none,none,none,rfl,s1.trans sb,s1.free hla,?_,ad⟩
  rw [ar (fun z=>?_),ad]
  ·rfl
  ·rw [z,ad] at hlb
   cases hlb
 ·rintro i σ H2 _ ⟨l1,l2,v4,v5,v6,_,s2,_⟩
  exact SqL.of (s2 _ _ hr1)
 ·rintro i v σ H2 hv ⟨l1,l2,v4,v5,v6,rfl,s2,f1,e1,e2⟩
  obtain ⟨a,⟨x,y⟩,rfl,ha,hq⟩:=(hpt.same s2).get hv
  have hiq:i<qs.length:=(List.getElem?_eq_some_iff.mp hq).1
  have hsplit:qs=qs.take i++(x,y)::qs.drop (i+1):=by rw [← gf hq,List.take_append_drop]
  have ndi:((qs.take i).map fun q=>q.1%p).Nodup:=by
   rw [hsplit,List.map_append] at nd
   exact (List.nodup_append.mp nd).1
  have hdiff:∀ q∈qs.take i,x%p≠q.1%p:=fun q hm z=>by
   rw [hsplit,List.map_append] at nd
   exact (List.nodup_append.mp nd).2.2 (q.1%p) (List.mem_map.mpr ⟨q,hm,rfl⟩) (x%p) (List.mem_map.mpr ⟨(x,y),List.mem_cons_self,rfl⟩) z.symm
  have ok:=ni hp ndi
  have hstep:cJ p (qs.take (i+1))=j2 p (cJ p (qs.take i)) (x,y):=by
   unfold cJ
   rw [← cW hq,List.foldl_append]
   rfl
  generalize hrs:cJ p (qs.take i)=rs2 at e1 e2 ok hstep
  have lt:(qs.take i).length=i:=by rw [List.length_take];omega
  have l1':=ok.l1
  have l2':=ok.l2
  rw [lt] at l1' l2'
  refine ⟨a,_,rfl,SqT.of ha,rfl,_,_,rfl,_,_,rfl,rfl,?_⟩
  refine ⟨_,rfl,_,rfl,_,rfl,_,rfl,t,l1,p,n,f,x,rs2.1,rfl,T1.same s2,by omega,p5.2,SqL.of e1,fun H3 s3=>?_⟩
  refine ⟨_,_,rfl,rfl,_,rfl,_,rfl,_,rfl,_,rfl,t,l2,p,n,f,x,rs2.2,rfl,(T1.same s2).same s3,by omega,p5.2,SqL.of (s3 _ _ e2),fun H4 s4=>?_⟩
  have wb:=jh (show 0<p by omega) rs2.2 x
  have wn:bd p rs2.2 x≠0:=by
   rw [bo]
   exact ok.non x hdiff
  refine ⟨t,p,n,f,_,rfl,((T1.same s2).same s3).same s4,hp,wb,wn,fun H5 s5=>?_⟩
  have bk:=gR hp (x:=bd p rs2.2 x) (by rw [Int.emod_eq_of_lt wb.1 wb.2];exact wn)
  refine ⟨_,_,rfl,rfl,.inr ⟨by omega,by omega⟩,?_⟩
  dsimp only
  generalize htm:(y - bd p rs2.1 x)*bT p (bd p rs2.2 x)=tm
  have s25:Same H2 H5:=s3.trans (s4.trans s5)
  refine ⟨_,rfl,(by show 1≤sizeLine;decide),fun l3 h3=>?_⟩
  have s6:=ah h3 (.lst [.int 0])
  refine ⟨l1,l3,_,_,rfl,rfl,s6 _ _ (s25 _ _ e1),ad,?_,fun l4 h4=>?_⟩
  ·rw [List.length_map,List.length_singleton]
   exact small (by omega)
  have s7:Same H5 (upd (upd H5 l3 (.lst [.int 0])) l4 (.lst (rs2.1.map V.int++[.int 0]))):=s6.trans (ah h4 _)
  have e7:(upd (upd H5 l3 (.lst [.int 0])) l4 (.lst (rs2.1.map V.int++[.int 0]))) l4=some (.lst ((rs2.1++[0]).map V.int)):=by rw [ad,List.map_append];rfl
  generalize upd (upd H5 l3 (.lst [.int 0])) l4 (.lst (rs2.1.map V.int++[.int 0]))=H7 at s7 e7
  have s27:=s25.trans s7
  refine ⟨_,rfl,l4,l2,_,_,rfl,SqL.of e7,SqL.of (s27 _ _ e2),fun D hD=>?_⟩
  obtain ⟨dx,ht⟩:=T1.same (s2.trans s27)
  refine gQ (K:=K) (a:=l4) (b:=l2) (xs:=(rs2.1++[0]).map V.int) (zs:=rs2.2.map V.int) (fun j ys H8=>ys=((iK p tm (rs2.1++[0]) rs2.2).take j).map V.int∧Same H7 H8) ⟨rfl,ao (Same.refl _) hD⟩ ?_ ?_ ?_
  ·rintro j ys H8 ⟨_,s8⟩
   exact ⟨SqL.of (s8 _ _ e7),SqL.of (s8 _ _ (s27 _ _ e2))⟩
  ·rintro j u v ys H8 c hu hv ⟨rfl,s8⟩ hD8 hc
   obtain ⟨u,rfl,hu'⟩:=dB hu
   obtain ⟨v,rfl,hv'⟩:=dB hv
   have hvb:=ok.b2 v (List.mem_of_getElem? hv')
   have s9:=s8.trans (ah hc (.tup [.int u,.int v]))
   have hn:(iK p tm (rs2.1++[0]) rs2.2)[j]?=some ((u+tm*v)%p):=oF hu' hv'
   refine ⟨c,_,rfl,SqT.of ad,rfl,_,_,rfl,_,_,rfl,rfl,⟨rfl,rfl⟩,?_⟩
   refine ⟨_,rfl,_,rfl,_,rfl,_,_,rfl,rfl,.inr ⟨by omega,by omega⟩,_,_,rfl,rfl,_,rfl,t,C,dx,_,_,rfl,s9 _ _ ht,T.cl,T.nP,kR _ _ _,_,_,rfl,rfl,by omega,?_,?_,?_,ao s9 hD⟩
   ·exact ah hc _ _ _ hD8
   ·rw [List.length_map,List.length_take,eS]
    exact aw (by simp;omega)
   ·rw [← cW hn,List.map_append]
    rfl
  rintro ys H8 ⟨rfl,s8⟩ hD8
  have e:min ((rs2.1++[0]).map V.int).length (rs2.2.map V.int).length=(iK p tm (rs2.1++[0]) rs2.2).length:=by rw [List.length_map,List.length_map,eS]
  rw [e,List.take_length] at hD8
  have s28:=s27.trans s8
  refine ⟨_,rfl,_,rfl,_,rfl,t,l2,p,n,f,x,rs2.2,rfl,T1.same (s2.trans s28),hp,s28 _ _ e2,by omega,ok.b2,fun l5 H9 s9 h50 h59=>?_⟩
  refine ⟨D,l5,_,_,_,rfl,s2.trans (s28.trans s9),s2.free (s27.free hD),?_,?_⟩
  ·rw [hstep]
   have:(j2 p rs2 (x,y)).1=iK p tm (rs2.1++[0]) rs2.2:=by rw [← htm];rfl
   rw [this]
   exact s9 _ _ hD8
  ·rw [hstep]
   exact h59
 ·rintro σ H2 ⟨l1,l2,v4,v5,v6,rfl,s2,f1,e1,e2⟩
  have hl:rs.length=qs.length:=Paired.length hpt
  rw [hl,List.take_length] at e1
  exact ⟨_,rfl,q l1 H2 s2 f1 e1⟩
end
section
variable {P:Program}{w:World}{K:PySem.W.Frag}{mg:Str→Option Value}{base:Heap}{C pa:Addr}
theorem sc_weight:aq ["table","hand","points"] ["table","hand"] (am gG):=⟨rfl,rfl,rfl,by decide +kernel,rfl,by decide +kernel,by decide +kernel⟩
theorem pw (F:Src K mg "weight" "weight" gG ["table","hand"]) (B:Blt mg) (T:Tab K C) (O_worth:Ok P w K mg base CX0 1 "worth" ["table","row","at"] (gZ K C)) (O_through:Ok P w K mg base CX0 2 "through" ["table","points"] (g8 C)):Ok P w K mg base CX0 3 "weight" ["table","hand"] (jn C):=by
 refine F.ok sc_weight (fun vs H Q E h=>?_) (fun f cdv A outer s H vs Q E hr h=>?_)
 ·obtain ⟨t,p,n,f,h,rfl,_⟩:=h
  rfl
 obtain ⟨t,p,n,f,h,rfl,T1,hp,hn0,hn7,hnp,q⟩:=h
 have p5:=jH hp
 obtain ⟨dx,ht⟩:=id T1
 refine ⟨_,(ae (bY 2 ["other"] [("hand",1)] sc_weight.nd  (eA rfl B.range (aa ak (aa (aE bM (aI (pv 0) rfl) ak) ac))) rfl (fun C s0 H0 ex=>by exact (au (i:=0) (show List.Nodup [("other":Str),"hand"] by decide +kernel) rfl (Or.inl rfl))) (fun C s0 H0 ex=>by exact bp) (fun C s0 H0 ex=>by exact (c7 (aa (pv 0) (aa (pe_ifExp (aK dA (pv 0) (pv 1) (aU _)) ak ak) ac)))))
  (af (az (aj O_worth hr rfl (aa (pv 0) (aa (aj O_through hr rfl (aa (pv 0) (aa (pv 2) ac))) (aa ak ac))))))),?_⟩
 refine ⟨_,rfl,t,C,dx,_,_,rfl,ht,T.cl,T.nH,oP _ _ _,_,_,rfl,rfl,_,_,rfl,⟨by decide,by decide,by omega,by omega⟩,fun D hD=>?_⟩
 refine cT (fun i ys H2=>i≤n.toNat∧PtsAt H2 ys (oA i h)∧ys.length=i∧Same H H2) ⟨Nat.zero_le _,.nil,rfl,ao (Same.refl _) hD⟩ ?_ ?_
 ·rintro i ys H2 hi ⟨_,hpt,hyl,s2⟩ hD2
  have hi':i<n.toNat:=by omega
  have fin:∀ (y:Int) (c:Addr),y=(if 1+(i:Int)=h then 1 else 0)→H2 c=none→(upd H2 c (.tup [.int (1+(i:Int)),.int y])) D=some (.lst ys)∧ys.length<sizeLine∧i+1≤n.toNat ∧
    PtsAt (L2.upd (upd H2 c (.tup [.int (1+(i:Int)),.int y])) D (.lst (ys++[.ref c]))) (ys++[.ref c]) (oA (i+1) h)∧(ys++[V.ref c]).length=i+1∧Same H (L2.upd (upd H2 c (.tup [.int (1+(i:Int)),.int y])) D (.lst (ys++[.ref c]))):=by
   rintro y c rfl hc
   have s3:=ah hc (.tup [.int (1+(i:Int)),.int (if 1+(i:Int)=h then 1 else 0)])
   have hD3:=s3 _ _ hD2
   refine ⟨hD3,by rw [hyl];exact aw (by omega),hi',?_,by rw [List.length_append,hyl];rfl,ao (s2.trans s3) hD⟩
   rw [← oG]
   exact PtsAt.upd hD3 (PtsAt.snoc (hpt.same s3) ad)
  refine ⟨⟨rfl,rfl⟩,?_⟩
  refine ⟨_,rfl,_,rfl,_,rfl,rfl,_,rfl,?_⟩
  refine bP (fun c1=>?_) (fun c1=>?_)
  ·have c1':V.int (1+(i:Int))=V.int h:=of_decide_eq_true c1
   injection c1' with c1'
   exact ⟨(by show 2≤sizeLine;decide),fun c hc=>fin 1 c (by rw [if_pos c1']) hc⟩
  ·have c1':¬ V.int (1+(i:Int))=V.int h:=of_decide_eq_false (Bool.eq_false_iff.mpr c1)
   exact ⟨(by show 2≤sizeLine;decide),fun c hc=>fin 0 c (by rw [if_neg fun z=>c1' (congrArg V.int z)]) hc⟩
 ·rintro ys H2 ⟨_,hpt,hyl,s2⟩ hD2
  rw [show (n+1 - 1).toNat=n.toNat by omega] at hpt
  refine ⟨_,rfl,_,rfl,_,rfl,t,D,p,n,f,ys,oA n.toNat h,rfl,T1.same s2,hp,hD2,hpt,by rw [wpts_len];omega,m7 h (by omega),fun r H3 s3 hr0 hr3=>?_⟩
  refine ⟨t,r,p,n,f,0,jj p (oA n.toNat h),rfl,T1.same (s2.trans s3),by omega,p5.2,SqL.of hr3,fun H4 s4=>?_⟩
  exact q H4 (s2.trans (s3.trans s4))
theorem nk:aq ["table"] ["table"] (am fD):=⟨rfl,rfl,rfl,by decide +kernel,rfl,by decide +kernel,by decide +kernel⟩
theorem nC (F:Src K mg "weights" "weights" fD ["table"]) (B:Blt mg) (T:Tab K C) (O_weight:Ok P w K mg base CX0 3 "weight" ["table","hand"] (jn C)):Ok P w K mg base CX0 4 "weights" ["table"] (g7 C):=by
 refine F.ok nk (fun vs H Q E h=>?_) (fun f cdv A outer s H vs Q E hr h=>?_)
 ·obtain ⟨t,p,n,f,rfl,_⟩:=h
  rfl
 obtain ⟨t,p,n,f,rfl,T1,hp,hn0,hn7,hnp,q⟩:=h
 obtain ⟨dx,ht⟩:=id T1
 refine ⟨_,(af (az (bS ["hand"] [("table",0)]  (eA rfl B.range (aa ak (aa (aE bM (aI (pv 0) rfl) ak) ac))) rfl (fun C s0 H0 ex=>by exact (au (i:=0) (show List.Nodup [("hand":Str),"table"] by decide +kernel) rfl (Or.inl rfl))) (fun C s0 H0 ex=>by exact bp) (fun C s0 H0 ex=>by exact (aj O_weight hr rfl (aa (pv 1) (aa (pv 0) ac))))))),?_⟩
 refine ⟨_,rfl,t,C,dx,_,_,rfl,ht,T.cl,T.nH,oP _ _ _,_,_,rfl,rfl,_,_,rfl,⟨by decide,by decide,by omega,by omega⟩,fun D hD=>?_⟩
 refine cT (fun i ys H2=>i≤n.toNat∧ys=((List.range i).map fun j:Nat=>kP p n.toNat (1+(j:Int))).map V.int∧Same H H2) ⟨Nat.zero_le _,rfl,ao (Same.refl _) hD⟩ ?_ ?_
 ·rintro i ys H2 hi ⟨_,rfl,s2⟩ hD2
  have hi':i<n.toNat:=by omega
  refine ⟨⟨rfl,rfl⟩,?_⟩
  refine ⟨_,rfl,_,rfl,t,p,n,f,_,rfl,T1.same s2,hp,hn0,hn7,hnp,fun H3 s3=>⟨s3 _ _ hD2,?_,hi',?_,ao (s2.trans s3) hD⟩⟩
  ·rw [List.length_map,List.length_map,List.length_range]
   exact aw (by omega)
  ·rw [← map_take,List.map_append]
   rfl
 ·rintro ys H2 ⟨_,rfl,s2⟩ hD2
  rw [show (n+1 - 1).toNat=n.toNat by omega] at hD2
  exact q D H2 s2 hD hD2
end
section
variable {P:Program}{w:World}{K:PySem.W.Frag}{mg:Str→Option Value}{base:Heap}{C pa:Addr}
theorem sc_dealt:aq ["table","number","chance","row"] ["table","number","chance"] (am jD):=⟨rfl,rfl,rfl,by decide +kernel,rfl,by decide +kernel,by decide +kernel⟩
theorem ok_dealt (F:Src K mg "dealt" "dealt" jD ["table","number","chance"]) (B:Blt mg) (T:Tab K C) (O_worth:Ok P w K mg base CX0 1 "worth" ["table","row","at"] (gZ K C)):Ok P w K mg base CX0 2 "dealt" ["table","number","chance"] (kT C):=by
 refine F.ok sc_dealt (fun vs H Q E h=>?_) (fun f cdv A outer s H vs Q E hr h=>?_)
 ·obtain ⟨t,r,p,n,f,x,cs,rfl,_⟩:=h
  rfl
 obtain ⟨t,r,p,n,f,x,cs,rfl,T1,hp0,hp1,hn0,hn1,hr1,hcs,q⟩:=h
 refine ⟨_,(ae (aJ (i:=3) sc_dealt.nd rfl (Or.inr rfl) (aE jb (bw (aa (pv 1) ac)) (pv 2)))
  (af (az (bS ["hand"] [("table",0),("row",3)]  (eA rfl B.range (aa ak (aa (aE bM (aI (pv 0) rfl) ak) ac))) rfl (fun C s0 H0 ex=>(au (i:=0) (show List.Nodup [("hand":Str),"table","row"] by decide +kernel) rfl (Or.inl rfl))) (fun C s0 H0 ex=>bp) (fun C s0 H0 ex=>(aj O_worth hr rfl (aa (pv 1) (aa (pv 2) (aa (pv 0) ac))))))))),?_⟩
 refine ⟨_,rfl,(by show 1≤sizeLine;decide),fun l hl=>?_⟩
 have s1:Same H (upd H l (.lst [.int x])):=ah hl _
 refine ⟨_,rfl,l,r,_,_,rfl,rfl,ad,s1 _ _ hr1,?_,fun m hm=>?_⟩
 ·rw [List.length_map,List.length_singleton]
  exact small (by omega)
 have s2:Same H (upd (upd H l (.lst [.int x])) m (.lst ([.int x]++cs.map V.int))):=s1.trans (ah hm _)
 have hm2:(upd (upd H l (.lst [.int x])) m (.lst ([.int x]++cs.map V.int))) m=some (.lst ((x::cs).map V.int)):=ad
 generalize upd (upd H l (.lst [.int x])) m (.lst ([.int x]++cs.map V.int))=H2 at s2 hm2
 obtain ⟨dx,ht⟩:=T1.same s2
 refine ⟨_,rfl,t,C,dx,_,_,rfl,ht,T.cl,T.nH,oP _ _ _,_,_,rfl,rfl,_,_,rfl,⟨by decide,by decide,by omega,by omega⟩,fun D hD=>?_⟩
 refine cT (fun i ys H3=>i≤n.toNat∧ys=(b6 p i x cs).map V.int∧Same H2 H3) ⟨Nat.zero_le _,rfl,ao (Same.refl _) hD⟩ ?_ ?_
 ·rintro i ys H3 hi ⟨_,rfl,s3⟩ hD3
  have hi':i<n.toNat:=by omega
  refine ⟨⟨rfl,rfl⟩,?_⟩
  refine ⟨_,rfl,_,rfl,_,rfl,t,m,p,n,f,_,x::cs,rfl,(T1.same s2).same s3,hp0,hp1,SqL.of (s3 _ _ hm2),fun H4 s4=>⟨s4 _ _ hD3,?_,hi',lR p i x cs,ao (s3.trans s4) hD⟩⟩
  rw [List.length_map,je]
  exact aw (by omega)
 ·rintro ys H3 ⟨_,rfl,s3⟩ hD3
  rw [show (n+1 - 1).toNat=n.toNat by omega] at hD3
  exact q D H3 (s2.trans s3) (s2.free hD) hD3
end
section
variable {P:Program}{w:World}{K:PySem.W.Frag}{mg:Str→Option Value}{base:Heap}{C pa:Addr}
theorem sc_law_longer:aq ["rows","prime","found","row","number"] ["rows","prime"] (am df):=⟨rfl,rfl,rfl,by decide +kernel,rfl,by decide +kernel,by decide +kernel⟩
theorem pD (F:Src K mg "_law_longer" "_law_longer" df ["rows","prime"]) (B:Blt mg):Ok P w K mg base CX0 1 "_law_longer" ["rows","prime"] jt:=by
 refine F.ok sc_law_longer (fun vs H Q E h=>?_) (fun f cdv A outer s H vs Q E hr h=>?_)
 ·obtain ⟨r,l0,p,rs,rows,rfl,_⟩:=h
  rfl
 obtain ⟨r,l0,p,rs,rows,rfl,hp0,hp1,hr0,hrs,hlen,hrl,q⟩:=h
 refine ⟨_,(ae (aJ (i:=2) sc_law_longer.nd rfl (Or.inl rfl) (bw ac))
  (ae (cq PassesOwn.never rfl (bL (pv 0)) (au (i:=3) sc_law_longer.nd rfl (Or.inl rfl))
   (af (cq PassesOwn.never rfl (c6 rfl B.range (aa (pv 1) ac)) (au (i:=4) sc_law_longer.nd rfl (Or.inl rfl))
   (af (bv (gy PySem.F.plainAttrs_list PySem.F.slot_list_append PySem.F.type_list_append cj (pv 2) (aa (aE jb (pv 3) (bw (aa (pv 4) ac))) ac)))))))
  (af (az (pv 2))))),?_⟩
 refine ⟨(by show 0≤sizeLine;decide),fun l hl=>?_⟩
 refine ⟨_,rfl,r,rfl,⟨_,SqL.of (ah hl _ _ _ hr0)⟩,fQ (K:=K) (a:=r) (xs:=rs) (fun i σ H2=>Same H H2∧i≤rows.length∧∃ (ws:List V) (v3 v4:Option V),σ=[some (.ref r),some (.int p),some (.ref l),v3,v4]∧H2 l=some (.lst ws)∧LLAt l H2 ws (cn p (rows.take i))) ?_ ?_ ?_ ?_⟩
 ·exact ⟨ah hl _,Nat.zero_le _,[],none,none,rfl,ad,.nil⟩
 ·rintro i σ H2 _ ⟨s2,_⟩
  exact SqL.of (s2 _ _ hr0)
 ·rintro i x σ H2 hx ⟨s2,hi,ws,v3,v4,rfl,hl2,hws⟩
  obtain ⟨a,row,rfl,_,ha,hrow⟩:=hrs.get hx
  have hi':i<rows.length:=(List.getElem?_eq_some_iff.mp hrow).1
  have hal:a≠l:=aD ha hl
  have rl:=hrl row (List.mem_of_getElem? hrow)
  refine ⟨_,rfl,p,rfl,by omega,by omega,dC (fun j σ H3=>Same H H3∧j≤p.toNat∧∃ (ws:List V) (v4:Option V),σ=[some (.ref r),some (.int p),some (.ref l),some (.ref a),v4]∧H3 l=some (.lst ws)∧LLAt l H3 ws (cn p (rows.take i)++((iV p).take j).map fun n=>row++[n])) ?_ ?_ ?_⟩
  ·exact ⟨s2,Nat.zero_le _,ws,v4,rfl,hl2,by simpa using hws⟩
  ·rintro j σ H3 hj ⟨s3,_,ws3,v,rfl,hl3,hws3⟩
   have lw:=hws3.len
   rw [List.length_append,iw,List.length_map,List.length_take,List.length_take,kr] at lw
   refine ⟨_,rfl,.inl ⟨rfl,_,SqL.of hl3⟩,_,rfl,_,rfl,(by show 1≤sizeLine;decide),fun c hc=>?_⟩
   have s4:Same H3 (upd H3 c (.lst [.int (0+(j:Int))])):=ah hc _
   refine ⟨a,c,_,_,rfl,rfl,s4 _ _ (s3 _ _ ha),ad,?_,fun m hm=>?_⟩
   ·rw [List.length_map]
    exact small (by show row.length+1≤1000;omega)
   have s5:=s4.trans (ah hm (.lst (row.map V.int++[.int (0+(j:Int))])))
   have hml:m≠l:=(aD (s4 _ _ hl3) hm).symm
   refine ⟨l,_,_,rfl,rfl,s5 _ _ hl3,?_,?_⟩
   ·have:min i rows.length*p.toNat≤200*31:=Nat.mul_le_mul (by omega) (by omega)
    exact small10k (by omega)
   ·refine ⟨ao (s3.trans s5) hl,hj,_,_,rfl,ad,?_⟩
    rw [← cW (mv hj),List.map_append,← List.append_assoc]
    refine LLAt.upd (LLAt.snoc (hws3.same s5) hml ?_)
    rw [ad,List.map_append,Int.zero_add]
    rfl
  ·rintro σ H3 ⟨s3,_,ws3,v,rfl,hl3,hws3⟩
   refine ⟨s3,hi',ws3,_,_,rfl,hl3,?_⟩
   rw [← kx hrow]
   rw [show (iV p).take p.toNat=iV p from List.take_of_length_le (by rw [kr];exact Nat.le_refl _)] at hws3
   exact hws3
 ·rintro σ H2 ⟨s2,_,ws,v3,v4,rfl,hl2,hws⟩
  have e:=hrs.len
  rw [e,List.take_length] at hws
  exact ⟨_,rfl,q l H2 ws s2 hl hl2 hws⟩
end
section
variable {P:Program}{w:World}{K:PySem.W.Frag}{mg:Str→Option Value}{base:Heap}{C pa:Addr}
theorem kX:aq ["steps","hand"] ["steps","hand"] (am eK):=⟨rfl,rfl,rfl,by decide +kernel,rfl,by decide +kernel,by decide +kernel⟩
theorem ok_used (F:Src K mg "_law_used" "_law_used" eK ["steps","hand"]) (B:Blt mg):Ok P w K mg base CX0 1 "_law_used" ["steps","hand"] oQ:=by
 refine F.ok kX (fun vs H Q E h=>?_) (fun f cdv A outer s H vs Q E hr h=>?_)
 ·obtain ⟨a,h,ws,ss,rfl,_⟩:=h
  rfl
 obtain ⟨a,h,ws,ss,rfl,ha,hss,hl,q⟩:=h
 have wl:ws.length=ss.length:=Paired.length hss
 refine ⟨_,(af (az (aN aB rfl B.len PySem.boot_len (aa (bS ["step"] [("hand",1)]  (bL (pv 0)) rfl (fun C s0 H0 ex=>by exact (au (i:=0) (show List.Nodup [("step":Str),"hand"] by decide +kernel) rfl (Or.inl rfl))) (fun C s0 H0 ex=>by exact (lf (aK (op_eqD (hr.units)) (pv 0) (c7 (aa br (aa (pv 1) ac))) (aU _)))) (fun C s0 H0 ex=>by exact (pv 0))) ac)))),?_⟩
 refine ⟨_,rfl,a,rfl,⟨_,SqL.of ha⟩,fun D hD=>?_⟩
 refine bF (K:=K) (a:=a) (xs:=ws) (fun i ys H2=>ys.length=aS (ss.take i) h∧Same H H2) ⟨rfl,ao (Same.refl _) hD⟩ ?_ ?_ ?_
 ·rintro i ys H2 _ ⟨_,s2⟩
  exact SqL.of (s2 _ _ ha)
 ·rintro i y ys H2 hy ⟨hys,s2⟩ hD2
  obtain ⟨b,z,rfl,hz,hzs⟩:=(hss.same s2).get hy
  have ut:=gU (h:=h) hzs
  have ul:=kQ (ss.take i) h
  rw [List.length_take] at ul
  refine ⟨⟨rfl,rfl⟩,?_⟩
  refine ⟨_,rfl,_,rfl,(by show 2≤sizeLine;decide),fun d hd=>?_⟩
  have s3:=ah hd (.tup [.str "in",.int h])
  refine ⟨z.dat,(Stp.ein h).dat,decide (z=.ein h),Stp.rep (s3 _ _ hz),Stp.rep (s:=.ein h) ad,z.ok8,Stp.ok8 _,?_,_,rfl,?_⟩
  ·rw [decide_eq_true_iff,dat_ein]
  refine bP (fun c=>?_) (fun c=>?_)
  ·have c':=of_decide_eq_true c
   refine ⟨_,rfl,s3 _ _ hD2,aw (by omega),?_,ao (s2.trans s3) hD⟩
   rw [List.length_append,hys,ut,if_pos c']
   rfl
  ·have c':=of_decide_eq_false (Bool.eq_false_iff.mpr c)
   refine ⟨s3 _ _ hD2,?_,s2.trans s3⟩
   rw [hys,ut,if_neg c']
   rfl
 ·rintro ys H2 ⟨hys,s2⟩ hD2
  rw [wl,List.take_length] at hys
  refine ⟨D,_,rfl,.inl (SqL.of hD2),?_⟩
  rw [hys]
  exact q H2 s2
end
section
variable {P:Program}{w:World}{K:PySem.W.Frag}{mg:Str→Option Value}{base:Heap}{C pa:Addr}
theorem sc_law_inputs_by:aq ["cell","steps","table","found","hand","many"] ["cell","steps","table"] (am cb):=⟨rfl,rfl,rfl,by decide +kernel,rfl,by decide +kernel,by decide +kernel⟩
theorem ko (F:Src K mg "_law_inputs_by" "_law_inputs_by" cb ["cell","steps","table"]) (B:Blt mg) (T:Tab K C) (O_law_used:Ok P w K mg base CX0 1 "_law_used" ["steps","hand"] oQ) (O_law_mix:Ok P w K mg base CX0 1 "_law_mix" ["cell","k","many"] oV):Ok P w K mg base CX0 2 "_law_inputs_by" ["cell","steps","table"] (fT C):=by
 refine F.ok sc_law_inputs_by (fun vs H Q E h=>?_) (fun f cdv A outer s H vs Q E hr h=>?_)
 ·obtain ⟨a,t,c,p,n,f,ws,ss,rfl,_⟩:=h
  rfl
 obtain ⟨a,t,c,p,n,f,ws,ss,rfl,⟨dx,ht⟩,hp,hn,ha,hss,hsl,q⟩:=h
 refine ⟨_,(ae (aJ (i:=3) sc_law_inputs_by.nd rfl (Or.inl rfl) (bw ac))
  (ae (cq PassesOwn.never rfl (eA rfl B.range (aa ak (aa (aE bM (aI (pv 2) rfl) ak) ac))) (au (i:=4) sc_law_inputs_by.nd rfl (Or.inr rfl))
   (ae (aJ (i:=5) sc_law_inputs_by.nd rfl (Or.inl rfl) (aE bM (aj O_law_used hr rfl (aa (pv 1) (aa (pv 4) ac))) (aj O_law_mix hr rfl (aa (pv 0) (aa (aE bM ak (pv 4)) (aa ak ac))))))
  (af (bv (gy PySem.F.plainAttrs_list PySem.F.slot_list_append PySem.F.type_list_append cj (pv 3) (aa (bS ["k"] [("cell",0),("table",2),("hand",4)]  (c6 rfl B.range (aa (pv 5) ac)) rfl (fun C s0 H0 ex=>by exact (au (i:=0) (show List.Nodup [("k":Str),"cell","table","hand"] by decide +kernel) rfl (Or.inl rfl))) (fun C s0 H0 ex=>by exact bp) (fun C s0 H0 ex=>by exact (aj O_law_mix hr rfl (aa (pv 1) (aa (aE bM (aE bM ak (aE c8 ak (pv 3))) (pv 0)) (aa (dL K (pv 2) rfl) ac)))))) ac))))))
  (af (az (pv 3))))),?_⟩
 refine ⟨(by show 0≤sizeLine;decide),fun l hl=>?_⟩
 have s1:=ah hl (.lst [])
 refine ⟨_,rfl,t,C,dx,_,_,rfl,s1 _ _ ht,T.cl,T.nH,oP _ _ _,_,_,rfl,rfl,_,_,rfl,⟨by decide,by decide,by omega,by omega⟩,dC (fun i σ H2=>i≤n.toNat∧Same H H2∧∃ (as:List Addr) (v4 v5:Option V),σ=[some (.int c),some (.ref a),some (.ref t),some (.ref l),v4,v5]∧H2 l=some (.lst (as.map V.ref))∧as.Nodup∧l∉as∧(∀ b∈as,H b=none)∧InsAt H2 as (aW c p ss i)) ?_ ?_ ?_⟩
 ·exact ⟨Nat.zero_le _,s1,[],none,none,rfl,ad,.nil,(fun h=>nomatch h),(fun b h=>nomatch h),.nil⟩
 ·rintro i σ H2 hi ⟨_,s2,as,v4,v5,rfl,hl2,nd,hla,hfr,hin⟩
  have al:as.length=i:=by rw [Paired.length hin];unfold aW;rw [List.length_map,List.length_range]
  refine ⟨_,rfl,_,rfl,a,_,ws,ss,rfl,s2 _ _ ha,hss.same s2,hsl,fun H3 s3=>?_⟩
  refine ⟨_,rfl,_,rfl,_,_,rfl,rfl,_,_,_,rfl,(by decide),fun H4 s4=>⟨_,_,rfl,rfl,?_⟩⟩
  have m0:=bX (c:=c) (k:=60+(1+(i:Int))) (show (0:Int)<2 by decide)
  have m1:=fh (c:=c) (k:=60+(1+(i:Int))) (show (0:Int)<2 by decide)
  have ul:=kQ ss (1+(i:Int))
  have g4:=s2.trans (s3.trans s4)
  have hl4:=s4 _ _ (s3 _ _ hl2)
  have hin4:=hin.same (s3.trans s4)
  refine ⟨_,rfl,.inl ⟨rfl,_,SqL.of hl4⟩,_,rfl,_,rfl,by omega,by omega,fun D hD=>?_⟩
  refine cT (fun j ys H5=>j≤200∧ys=((List.range j).map fun k:Nat=>nM c (70+9*(1+(i:Int))+(k:Int)) p).map V.int∧Same H4 H5) ⟨Nat.zero_le _,rfl,ao (Same.refl _) hD⟩ ?_ ?_
  ·rintro j ys H5 hj ⟨_,rfl,s5⟩ hD5
   refine ⟨⟨rfl,rfl⟩,?_⟩
   refine ⟨_,rfl,_,rfl,_,_,rfl,rfl,.inl ⟨by decide,by decide⟩,_,_,rfl,rfl,_,rfl,_,_,rfl,rfl,_,rfl,t,C,dx,_,_,rfl,s5 _ _ (g4 _ _ ht),T.cl,T.nP,kR _ _ _,_,_,_,rfl,hp,fun H6 s6=>⟨s6 _ _ hD5,?_,by omega,?_,ao (s5.trans s6) hD⟩⟩
   ·rw [List.length_map,List.length_map,List.length_range]
    exact aw (by omega)
   ·rw [← map_take,List.map_append,Int.zero_add]
    rfl
  rintro ys H5 ⟨_,rfl,s5⟩ hD5
  have hl5:=s5 _ _ hl4
  have Dl:D≠l:=fun e=>by rw [e,hl4] at hD;cases hD
  refine ⟨l,_,_,rfl,rfl,hl5,by rw [List.length_map,al];exact aw (by omega),?_⟩
  have Da:=hin4.there hD
  have lna:l∉as++[D]:=fun h=>by
   rcases List.mem_append.mp h with h | h
   ·exact hla h
   ·have e:l=D:=by simpa using h
    exact Dl e.symm
  refine ⟨by omega,ao (g4.trans s5) hl,as++[D],_,_,rfl,?_,gc nd Da,lna,fun b hb=>?_,?_⟩
  ·rw [ad,List.map_append]
   rfl
  ·rcases List.mem_append.mp hb with h | h
   ·exact hfr b h
   ·have e:b=D:=by simpa using h
    rw [e]
    exact g4.free hD
  ·have ei:aW c p ss (i+1)=aW c p ss i++[inBy c p ss (1+(i:Int))]:=by
    unfold aW
    rw [← map_take]
   rw [ei]
   refine InsAt.off (InsAt.snoc (hin4.same s5) ?_) lna
   unfold inBy
   rw [hD5]
 ·rintro σ H2 ⟨_,s2,as,v4,v5,rfl,hl2,nd,hla,hfr,hin⟩
  rw [show (n+1 - 1).toNat=n.toNat by omega] at hin
  exact ⟨_,rfl,q l H2 as s2 hl hl2 nd hla hfr hin⟩
end
section
variable {P:Program}{w:World}{K:PySem.W.Frag}{mg:Str→Option Value}{base:Heap}{C pa:Addr}
theorem j6:aq ["table","value"] ["table","value"] (am dF):=⟨rfl,rfl,rfl,by decide +kernel,rfl,by decide +kernel,by decide +kernel⟩
theorem kn (F:Src K mg "is_number" "is_number" dF ["table","value"]) (T:Tab K C):Ok P w K mg base CX0 1 "is_number" ["table","value"] (ju C):=by
 refine F.ok j6 (fun vs H Q E h=>?_) (fun f cdv A outer s H vs Q E hr h=>?_)
 ·obtain ⟨t,p,n,f,v,rfl,_⟩:=h
  rfl
 obtain ⟨t,p,n,f,v,rfl,⟨dx,ht⟩,q⟩:=h
 refine ⟨_,(af (az (gK lq lj ak (pv 1) (aI (pv 0) rfl)))),?_⟩
 refine ⟨_,rfl,_,_,rfl,rfl,_,rfl,?_⟩
 refine bP (fun c1=>?_) (fun c1=>?_)
 ·refine ⟨_,rfl,t,C,dx,_,_,rfl,ht,T.cl,T.nP,kR _ _ _,_,_,rfl,rfl,?_⟩
  have c1':0≤v:=of_decide_eq_true c1
  have e:iW p v=decide (v<p):=by unfold iW;simp [c1']
  have:=q H (Same.refl H)
  rw [e] at this
  exact this
 ·have c1':¬ 0≤v:=of_decide_eq_false (Bool.eq_false_iff.mpr c1)
  have e:iW p v=false:=by unfold iW;simp [c1']
  have:=q H (Same.refl H)
  rw [e] at this
  exact this
theorem sc_fits:aq ["table","place","kind","value"] ["table","place","kind","value"] (am mf):=⟨rfl,rfl,rfl,by decide +kernel,rfl,by decide +kernel,by decide +kernel⟩
theorem ok_fits (F:Src K mg "fits" "fits" mf ["table","place","kind","value"]) (T:Tab K C) (O_is_number:Ok P w K mg base CX0 1 "is_number" ["table","value"] (ju C)):Ok P w K mg base CX0 2 "fits" ["table","place","kind","value"] (oW C):=by
 refine F.ok sc_fits (fun vs H Q E h=>?_) (fun f cdv A outer s H vs Q E hr h=>?_)
 ·obtain ⟨t,p,n,f,pl,v,k,rfl,_⟩:=h
  rfl
 obtain ⟨t,p,n,f,pl,v,k,rfl,⟨dx,ht⟩,q⟩:=h
 refine ⟨_,(ae (bR (aK dA (pv 2) br (aU _))
   (af (az (gK lq lq ak (pv 3) (aI (pv 0) rfl))))
   aO)
  (ae (bR (aK dA (pv 2) br (aU _))
   (af (az (aj O_is_number hr rfl (aa (pv 0) (aa (pv 3) ac)))))
   aO)
  (af (az (gK lq lj ak (pv 3) (pv 1)))))),?_⟩
 have d:=q H (Same.refl H)
 refine ⟨_,rfl,rfl,_,rfl,?_⟩
 refine bP (fun c=>?_) (fun c=>?_)
 ·have c':V.str k=V.str "hand":=of_decide_eq_true c
  injection c' with c'
  subst c'
  rw [fit_h] at d
  refine ⟨_,rfl,_,_,rfl,rfl,_,rfl,?_⟩
  refine bP (fun c1=>?_) (fun c1=>?_)
  ·have c1':1≤v:=of_decide_eq_true c1
   refine ⟨_,rfl,t,C,dx,_,_,rfl,ht,T.cl,T.nH,oP _ _ _,_,_,rfl,rfl,?_⟩
   simp only [c1',true_and] at d
   exact d
  ·have c1':¬ 1≤v:=of_decide_eq_false (Bool.eq_false_iff.mpr c1)
   simp only [c1',false_and,decide_false] at d
   exact d
 have c':¬ k="hand":=fun z=>(of_decide_eq_false (Bool.eq_false_iff.mpr c):¬ V.str k=V.str "hand") (by rw [z])
 refine ⟨_,rfl,rfl,_,rfl,?_⟩
 refine bP (fun c=>?_) (fun c=>?_)
 ·have c2:V.str k=V.str "number":=of_decide_eq_true c
  injection c2 with c2
  refine ⟨_,rfl,_,rfl,t,p,n,f,v,rfl,⟨dx,ht⟩,fun H' s'=>?_⟩
  have e:lJ p n pl k v=iW p v:=by unfold lJ;rw [if_neg c',if_pos c2]
  have:=q H' s'
  rw [e] at this
  exact this
 have c2:¬ k="number":=fun z=>(of_decide_eq_false (Bool.eq_false_iff.mpr c):¬ V.str k=V.str "number") (by rw [z])
 have e:lJ p n pl k v=decide (0≤v∧v<pl):=by unfold lJ;rw [if_neg c',if_neg c2]
 rw [e] at d
 refine ⟨_,rfl,_,_,rfl,rfl,_,rfl,?_⟩
 refine bP (fun c1=>?_) (fun c1=>?_)
 ·have c1':0≤v:=of_decide_eq_true c1
  refine ⟨_,rfl,_,_,rfl,rfl,?_⟩
  simp only [c1',true_and] at d
  exact d
 ·have c1':¬ 0≤v:=of_decide_eq_false (Bool.eq_false_iff.mpr c1)
  simp only [c1',false_and,decide_false] at d
  exact d
theorem j7:aq ["table"] ["table"] (am dG):=⟨rfl,rfl,rfl,by decide +kernel,rfl,by decide +kernel,by decide +kernel⟩
theorem kq (F:Src K mg "all_hands" "all_hands" dG ["table"]) (B:Blt mg) (T:Tab K C):Ok P w K mg base CX0 1 "all_hands" ["table"] (du C):=by
 refine F.ok j7 (fun vs H Q E h=>?_) (fun f cdv A outer s H vs Q E hr h=>?_)
 ·obtain ⟨t,p,n,f,rfl,_⟩:=h
  rfl
 obtain ⟨t,p,n,f,rfl,⟨dx,ht⟩,hn,q⟩:=h
 refine ⟨_,(af (az (kg rfl rfl B.list rfl B.range (aa ak (aa (aE bM (aI (pv 0) rfl) ak) ac))))),?_⟩
 refine ⟨_,rfl,t,C,dx,_,_,rfl,ht,T.cl,T.nH,oP _ _ _,_,_,rfl,rfl,1,n+1,rfl,⟨by omega,by omega,by omega,by omega⟩,by omega,fun l hl=>?_⟩
 refine q l _ (ah hl _) hl ?_
 rw [ad]
 unfold aZ
 rw [show (n+1 - 1).toNat=n.toNat by omega]
theorem nt:aq ["table","step"] ["table","step"] (am fJ):=⟨rfl,rfl,rfl,by decide +kernel,rfl,by decide +kernel,by decide +kernel⟩
theorem nJ (F:Src K mg "dealers" "dealers" fJ ["table","step"]) (B:Blt mg) (O_all_hands:Ok P w K mg base CX0 1 "all_hands" ["table"] (du C)):Ok P w K mg base CX0 2 "dealers" ["table","step"] (cX C):=by
 refine F.ok nt (fun vs H Q E h=>?_) (fun f cdv A outer s H vs Q E hr h=>?_)
 ·obtain ⟨t,b,p,n,f,z,rfl,_⟩:=h
  rfl
 obtain ⟨t,b,p,n,f,z,rfl,T1,hn,hz,q⟩:=h
 refine ⟨_,(ae (bR (aK dA (aX bO (pv 1) ak (fun _ _=>rfl)) br (aU _))
   (af (az (bw (aa (aX bO (pv 1) ak (fun _ _=>rfl)) ac))))
   aO)
  (ae (bR (aK iq (aX bO (pv 1) ak (fun _ _=>rfl)) (c7 (aa br (aa br ac))) rfl)
   (af (az (aj O_all_hands hr rfl (aa (pv 0) ac))))
   aO)
  (af (az (bw ac))))),?_⟩
 refine ⟨_,rfl,b,_,_,.str z.word,rfl,rfl,SqT.of hz,z.at0,rfl,_,rfl,?_⟩
 refine bP (fun c=>?_) (fun c=>?_)
 ·have c':V.str z.word=V.str "in":=of_decide_eq_true c
  injection c' with c'
  cases z with
  | ein h =>
   refine ⟨_,rfl,b,_,_,.int h,rfl,rfl,SqT.of hz,rfl,(by show 1≤sizeLine;decide),fun l hl=>?_⟩
   exact q l _ (ah hl _) hl ad
  | _=>exact absurd c' (by simp only [Stp.word];decide +kernel)
 have c':¬ z.word="in":=fun e=>(of_decide_eq_false (Bool.eq_false_iff.mpr c):¬ V.str z.word=V.str "in") (by rw [e])
 refine ⟨_,rfl,b,_,_,.str z.word,rfl,rfl,SqT.of hz,z.at0,(by show 2≤sizeLine;decide),fun tt htt=>⟨tt,_,rfl,.inr (SqT.of ad),rfl,rfl,_,rfl,?_⟩⟩
 have s1:=ah htt (.tup [.str (Str.ofString "mul"),.str (Str.ofString "anew")])
 generalize upd H tt (.tup [.str (Str.ofString "mul"),.str (Str.ofString "anew")])=H1 at s1
 cases z with
 | ein h=>exact absurd rfl c'
 | mul a1 b1 =>
  refine bP (fun _=>?_) (fun c=>absurd (show inV (V.str (Str.ofString "mul")) [V.str (Str.ofString "mul"),V.str (Str.ofString "anew")]=true by decide +kernel) c)
  exact ⟨_,rfl,t,p,n,f,rfl,T1.same s1,hn,fun r H' s' hr h'=>q r H' (s1.trans s') (s1.free hr) h'⟩
 | anew a1 =>
  refine bP (fun _=>?_) (fun c=>absurd (show inV (V.str (Str.ofString "anew")) [V.str (Str.ofString "mul"),V.str (Str.ofString "anew")]=true by decide +kernel) c)
  exact ⟨_,rfl,t,p,n,f,rfl,T1.same s1,hn,fun r H' s' hr h'=>q r H' (s1.trans s') (s1.free hr) h'⟩
 | fix x =>
  refine bP (fun c=>absurd (show inV (V.str (Str.ofString "fix")) [V.str (Str.ofString "mul"),V.str (Str.ofString "anew")]=true from c) (by decide +kernel)) (fun _=>?_)
  exact ⟨(by show 0≤sizeLine;decide),fun l hl=>q l _ (s1.trans (ah hl _)) (s1.free hl) ad⟩
 | bye a1 x =>
  refine bP (fun c=>absurd (show inV (V.str (Str.ofString "by")) [V.str (Str.ofString "mul"),V.str (Str.ofString "anew")]=true from c) (by decide +kernel)) (fun _=>?_)
  exact ⟨(by show 0≤sizeLine;decide),fun l hl=>q l _ (s1.trans (ah hl _)) (s1.free hl) ad⟩
 | sum a1 x =>
  refine bP (fun c=>absurd (show inV (V.str (Str.ofString "sum")) [V.str (Str.ofString "mul"),V.str (Str.ofString "anew")]=true from c) (by decide +kernel)) (fun _=>?_)
  exact ⟨(by show 0≤sizeLine;decide),fun l hl=>q l _ (s1.trans (ah hl _)) (s1.free hl) ad⟩
 | less a1 x =>
  refine bP (fun c=>absurd (show inV (V.str (Str.ofString "less")) [V.str (Str.ofString "mul"),V.str (Str.ofString "anew")]=true from c) (by decide +kernel)) (fun _=>?_)
  exact ⟨(by show 0≤sizeLine;decide),fun l hl=>q l _ (s1.trans (ah hl _)) (s1.free hl) ad⟩
 | opn a1 =>
  refine bP (fun c=>absurd (show inV (V.str (Str.ofString "open")) [V.str (Str.ofString "mul"),V.str (Str.ofString "anew")]=true from c) (by decide +kernel)) (fun _=>?_)
  exact ⟨(by show 0≤sizeLine;decide),fun l hl=>q l _ (s1.trans (ah hl _)) (s1.free hl) ad⟩
theorem sc_is_right_step:aq ["table","place","step","kinds"] ["table","place","step"] (am ce):=⟨rfl,rfl,rfl,by decide +kernel,rfl,by decide +kernel,by decide +kernel⟩
theorem gB {fa:Addr}{kvs:List (Key×V)} (F:Src K mg "is_right_step" "is_right_step" ce ["table","place","step"]) (B:Blt mg) (FR:Frm P w K mg fa kvs) (O_fits:Ok P w K mg base CX0 2 "fits" ["table","place","kind","value"] (oW C)):Ok P w K mg base CX0 3 "is_right_step" ["table","place","step"] (eW C):=by
 refine F.ok sc_is_right_step (fun vs H Q E h=>?_) (fun f cdv A outer s H vs Q E hr h=>?_)
 ·obtain ⟨t,b,p,n,f,pl,z,rfl,_⟩:=h
  rfl
 obtain ⟨t,b,p,n,f,pl,z,rfl,T1,hz,q⟩:=h
 obtain ⟨kt,hkt,hks⟩:=FR.at_ z
 refine ⟨_,(ae (aJ (i:=3) sc_is_right_step.nd rfl (Or.inl rfl) (pe_kget1 (lh (v:=.ref _) rfl FR.g rfl) (aX bO (pv 2) ak (fun _ _=>rfl)) ⟨rfl,rfl,rfl,rfl⟩))
  (ae (bR (PW.pt (nv (aK op_isN (pv 3) pe_non (aU _)) (i5 (aK op_ne (aN aB rfl B.len PySem.boot_len (aa (pv 2) ac)) (aE bM (aN aB rfl B.len PySem.boot_len (aa (pv 3) ac)) ak) (aU _)))))
   (af (az ki))
   aO)
  (af (az (aN (iH rfl) rfl B.all PyProof.Rows.boot_all (aa (bS ["kind","value"] [("table",0),("place",1)]  (pi_zipT rfl B.zip (aa (pv 3) (aa (gJ sl_tup (pv 2) (ic ak) lg) ac))) rfl (fun C s0 H0 ex=>by exact (fV K 2 rfl (aL (au (i:=0) (show List.Nodup [("kind":Str),"value","table","place"] by decide +kernel) rfl (Or.inl rfl)) (aL (au (i:=1) (show List.Nodup [("kind":Str),"value","table","place"] by decide +kernel) rfl (Or.inl rfl)) cv)))) (fun C s0 H0 ex=>by exact bp) (fun C s0 H0 ex=>by exact (aj O_fits hr rfl (aa (pv 2) (aa (pv 3) (aa (pv 0) (aa (pv 1) ac))))))) ac)))))),?_⟩
 refine ⟨fa,kvs,rfl,FR.d,_,rfl,b,_,_,.str z.word,rfl,rfl,SqT.of hz,z.at0,Sum.inr z.word,rfl,?_⟩
 rw [hkt]
 refine ⟨_,rfl,rfl,_,rfl,?_⟩
 refine bP (fun c=>absurd (of_decide_eq_true c:V.ref kt=V.non) (fun e=>nomatch e)) (fun _=>?_)
 have el:z.vs.length=z.kinds.length+1:=by rw [z.vs_eq,List.length_cons,List.length_map,z.kinds_len]
 refine ⟨_,rfl,b,_,rfl,.inr (SqT.of hz),_,rfl,kt,_,rfl,.inr (hks H),_,_,rfl,rfl,rfl,_,rfl,?_⟩
 refine bP (fun c=>absurd c ?_) (fun _=>?_)
 ·rw [el,List.length_map]
  simp
 have al:=z.args_len
 have kl:=z.kinds_len
 refine ⟨_,rfl,_,rfl,_,rfl,b,_,rfl,SqT.of hz,?_,fun d hd=>?_⟩
 ·intro e
  have:=e.1
  have h1:HT.sIx z.vs.length 0 (some 1)=1:=by
   rw [el]
   unfold HT.sIx
   simp
  rw [h1] at this
  cases this
 have ecut:lS z.vs (some 1) none=z.args.map V.int:=by
  have:=cut_from (xs:=z.vs) (k:=1)
  rw [show ((1:Nat):Int)=1 from rfl] at this
  rw [this,z.vs_eq]
  rfl
 rw [ecut]
 have s1:=ah hd (.tup (z.args.map V.int))
 have hd1:upd H d (.tup (z.args.map V.int)) d=some (.tup (z.args.map V.int)):=ad
 generalize upd H d (.tup (z.args.map V.int))=H1 at s1 hd1
 refine ⟨kt,d,_,_,rfl,hks H1,SqT.of hd1,fun D hD=>?_⟩
 have pr:∀ H2,Same H1 H2→Paired (SqS K H2) [(true,kt),(true,d)] [z.kinds.map V.str,z.args.map V.int]:=fun H2 s2=>.cons (show SqT K H2 kt _ from hks H2) (.cons (show SqT K H2 d _ from SqT.of (s2 _ _ hd1)) .nil)
 refine comp_zn (K:=K) (ss:=[(true,kt),(true,d)]) (xss:=[z.kinds.map V.str,z.args.map V.int]) (n:=z.args.length) (fun i ys H2=>i≤z.args.length∧ys=(((z.kinds.zip z.args).take i).map fun kv=>V.bl (lJ p n pl kv.1 kv.2))∧Same H1 H2) (by simp) ?_ ⟨Nat.zero_le _,rfl,ao (Same.refl _) hD⟩ ?_ ?_ ?_
 ·intro xs hx
  simp only [List.mem_cons,List.not_mem_nil,or_false] at hx
  rcases hx with r | r<;>rw [r,List.length_map]
  exact kl
 ·rintro i ys H2 ⟨_,_,s2⟩
  exact pr H2 s2
 ·rintro i zs ys H2 c hzs ⟨hi,rfl,s2⟩ hD2 hc
  cases hzs with
  | cons r1 r2 =>
  cases r2 with
  | cons r2 r3 =>
  cases r3
  rw [List.getElem?_map] at r1 r2
  cases hk:z.kinds[i]? with
  | none=>rw [hk] at r1;cases r1
  | some k =>
  cases hv:z.args[i]? with
  | none=>rw [hv] at r2;cases r2
  | some v =>
  rw [hk] at r1
  rw [hv] at r2
  cases r1
  cases r2
  have hil:i<z.args.length:=(List.getElem?_eq_some_iff.mp hv).1
  have s3:=ah hc (.tup [.str k,.int v])
  refine ⟨c,_,rfl,SqT.of ad,rfl,_,_,rfl,_,_,rfl,rfl,⟨rfl,rfl⟩,?_⟩
  refine ⟨_,rfl,_,rfl,_,rfl,_,rfl,t,p,n,f,pl,v,k,rfl,T1.same (s1.trans (s2.trans s3)),fun H4 s4=>?_⟩
  have s34:=s3.trans s4
  refine ⟨s34 _ _ hD2,aw (by rw [List.length_map,List.length_take];omega),hil,?_,ao (s2.trans s34) hD⟩
  have hz2:(z.kinds.zip z.args)[i]?=some (k,v):=by rw [List.getElem?_zip_eq_some];exact ⟨hk,hv⟩
  rw [List.take_add_one,hz2,List.map_append]
  rfl
 ·rintro ys H2 ⟨_,rfl,s2⟩ hD2
  refine ⟨D,((z.kinds.zip z.args).take z.args.length).map (fun kv=>lJ p n pl kv.1 kv.2),rfl,SqL.of (by rw [hD2,List.map_map];rfl),?_⟩
  have e:(((z.kinds.zip z.args).take z.args.length).map (fun kv=>lJ p n pl kv.1 kv.2)).all id=gj p n pl z:=by
   rw [List.take_of_length_le (by rw [List.length_zip];omega),List.all_map]
   rfl
  rw [e]
  exact q H2 (s1.trans s2)
theorem sc_right:aq ["table","steps"] ["table","steps"] (am jB):=⟨rfl,rfl,rfl,by decide +kernel,rfl,by decide +kernel,by decide +kernel⟩
theorem ok_right {tk:Tok} (F:Src K mg "right" "right" jB ["table","steps"]) (B:Blt mg) (gM:mg "MOST_STEPS"=some (.int 24 tk)) (O_is_right_step:Ok P w K mg base CX0 3 "is_right_step" ["table","place","step"] (eW C)):Ok P w K mg base CX0 4 "right" ["table","steps"] (kS C):=by
 refine F.ok sc_right (fun vs H Q E h=>?_) (fun f cdv A outer s H vs Q E hr h=>?_)
 ·obtain ⟨t,a,p,n,f,ws,ss,rfl,_⟩:=h
  rfl
 obtain ⟨t,a,p,n,f,ws,ss,rfl,T1,ha,hss,q⟩:=h
 have wl:ws.length=ss.length:=Paired.length hss
 refine ⟨_,(ae (bR (PW.pt (nv (aK dA (aN aB rfl B.len PySem.boot_len (aa (pv 1) ac)) ak (aU _)) (i5 (aK op_gt (aN aB rfl B.len PySem.boot_len (aa (pv 1) ac)) (lh (v:=.int 24) rfl gM ⟨_,rfl⟩) (aU _)))))
   (af (az ki))
   aO)
  (af (az (aN (iH rfl) rfl B.all PyProof.Rows.boot_all (aa (bS ["place","step"] [("table",0)]  (pi rfl B.enumerate (aa (pv 1) ac)) rfl (fun C s0 H0 ex=>by exact (fV K 2 rfl (aL (au (i:=0) (show List.Nodup [("place":Str),"step","table"] by decide +kernel) rfl (Or.inl rfl)) (aL (au (i:=1) (show List.Nodup [("place":Str),"step","table"] by decide +kernel) rfl (Or.inl rfl)) cv)))) (fun C s0 H0 ex=>by exact bp) (fun C s0 H0 ex=>by exact (aj O_is_right_step hr rfl (aa (pv 2) (aa (pv 0) (aa (pv 1) ac)))))) ac))))),?_⟩
 have no:¬ (1≤ss.length∧ss.length≤24)→Q (.bl false) H:=fun hn=>by
  have:=q H (Same.refl H)
  rw [show aT p n ss=false by unfold aT;rw [decide_eq_false hn];rfl] at this
  exact this
 refine ⟨_,rfl,a,_,rfl,.inl (SqL.of ha),rfl,_,rfl,?_⟩
 refine bP (fun c=>?_) (fun c=>?_)
 ·have c':V.int (ws.length:Int)=V.int 0:=of_decide_eq_true c
  injection c' with c'
  exact iteT (no (by omega))
 have c':¬ (ws.length:Int)=0:=fun e=>(of_decide_eq_false (Bool.eq_false_iff.mpr c):¬ V.int (ws.length:Int)=V.int 0) (by rw [e])
 refine ⟨_,rfl,a,_,rfl,.inl (SqL.of ha),_,_,rfl,rfl,_,rfl,?_⟩
 refine bP (fun c2=>?_) (fun c2=>?_)
 ·have c2':(ws.length:Int) > 24:=of_decide_eq_true c2
  exact no (by omega)
 have c2':¬ (ws.length:Int) > 24:=of_decide_eq_false (Bool.eq_false_iff.mpr c2)
 have hin:1≤ss.length∧ss.length≤24:=by omega
 refine ⟨_,rfl,a,_,rfl,SqL.of ha,fun D hD=>?_⟩
 refine qe (K:=K) (a:=a) (xs:=ws) (k0:=0) (fun i ys H2=>i≤ss.length∧ys=((List.range i).map fun j:Nat=>V.bl (gj p n (j:Int) (ss.getD j (.fix 0))))∧Same H H2) ⟨Nat.zero_le _,rfl,ao (Same.refl _) hD⟩ ?_ ?_ ?_
 ·rintro i ys H2 ⟨_,_,s2⟩
  exact SqL.of (s2 _ _ ha)
 ·rintro i y ys H2 c hy ⟨hi,rfl,s2⟩ hD2 hc
  obtain ⟨b,z,rfl,hz,hzs⟩:=(hss.same s2).get hy
  have hil:i<ss.length:=(List.getElem?_eq_some_iff.mp hzs).1
  have s3:=ah hc (.tup [.int ((0+i:Nat):Int),.ref b])
  refine ⟨c,_,rfl,SqT.of ad,rfl,_,_,rfl,_,_,rfl,rfl,⟨rfl,rfl⟩,?_⟩
  refine ⟨_,rfl,_,rfl,_,rfl,t,b,p,n,f,_,z,rfl,T1.same (s2.trans s3),s3 _ _ hz,fun H4 s4=>?_⟩
  have s34:=s3.trans s4
  refine ⟨s34 _ _ hD2,aw (by rw [List.length_map,List.length_range];omega),hil,?_,ao (s2.trans s34) hD⟩
  rw [List.range_succ,List.map_append,List.map_singleton,List.getD_eq_getElem?_getD,hzs,Nat.zero_add]
  rfl
 ·rintro ys H2 ⟨_,rfl,s2⟩ hD2
  rw [wl] at hD2
  refine ⟨D,(List.range ss.length).map (fun j:Nat=>gj p n (j:Int) (ss.getD j (.fix 0))),rfl,SqL.of (by rw [hD2,List.map_map];rfl),?_⟩
  have e:((List.range ss.length).map (fun j:Nat=>gj p n (j:Int) (ss.getD j (.fix 0)))).all id=aT p n ss:=by
   unfold aT
   rw [List.all_map,decide_eq_true hin]
   rfl
  rw [e]
  exact q H2 s2
theorem hG:aq ["table","steps"] ["table","steps"] (am cD):=⟨rfl,rfl,rfl,by decide +kernel,rfl,by decide +kernel,by decide +kernel⟩
theorem gz {cS:Addr}{bmS:List Value} (F:Src K mg "refuse_steps" "refuse_steps" cD ["table","steps"]) (E_BadSteps:Exc K mg "BadSteps" cS bmS) (O_right:Ok P w K mg base CX0 4 "right" ["table","steps"] (kS C)):Ok P w K mg base (CXE P w) 5 "refuse_steps" ["table","steps"] (cK C cS):=by
 refine F.okE hG (fun vs H Q E h=>?_) (fun f cdv A outer s H vs Q E hr h=>?_)
 ·obtain ⟨t,a,p,n,f,ws,ss,rfl,_⟩:=h
  rfl
 obtain ⟨t,a,p,n,f,ws,ss,rfl,T1,ha,hss,q1,q2⟩:=h
 refine ⟨_,(af (bR (i6 (gk (aj O_right hr rfl (aa (pv 0) (aa (pv 1) ac))) (fun _=>rfl)))
   (af (gI E_BadSteps rfl br))
   aO)),?_⟩
 refine ⟨_,rfl,_,rfl,t,a,p,n,f,ws,ss,rfl,T1,ha,hss,fun H1 s1=>?_⟩
 cases hR:aT p n ss with
 | true=>exact ⟨_,rfl,iteF (q1 hR H1 s1)⟩
 | false=>exact ⟨_,rfl,iteT ⟨by decide,q2 hR H1 s1⟩⟩
theorem sc_needs:aq ["table","steps"] ["table","steps"] (am jC):=⟨rfl,rfl,rfl,by decide +kernel,rfl,by decide +kernel,by decide +kernel⟩
theorem pC {cS:Addr} (F:Src K mg "needs" "needs" jC ["table","steps"]) (B:Blt mg) (T:Tab K C) (O_refuse_stepsE:Ok P w K mg base (CXE P w) 5 "refuse_steps" ["table","steps"] (cK C cS)) (O_dealers:Ok P w K mg base CX0 2 "dealers" ["table","step"] (cX C)):Ok P w K mg base (CXE P w) 6 "needs" ["table","steps"] (js C cS):=by
 refine F.okE sc_needs (fun vs H Q E h=>?_) (fun f cdv A outer s H vs Q E hr h=>?_)
 ·obtain ⟨t,a,p,n,f,ws,ss,rfl,_⟩:=h
  rfl
 obtain ⟨t,a,p,n,f,ws,ss,rfl,T1,hn,hf,ha,hss,q1,q2⟩:=h
 have wl:ws.length=ss.length:=Paired.length hss
 refine ⟨_,(ae (bv (dM O_refuse_stepsE hr rfl (aa (pv 0) (aa (pv 1) ac))))
  (af (az (aE c8 (aI (pv 0) rfl) (aN (iG rfl) rfl B.sum PyProof.Rows.boot_sum (aa (bS ["step"] [("table",0)]  (bL (pv 1)) rfl (fun C s0 H0 ex=>by exact (au (i:=0) (show List.Nodup [("step":Str),"table"] by decide +kernel) rfl (Or.inl rfl))) (fun C s0 H0 ex=>by exact bp) (fun C s0 H0 ex=>by exact (aN (qm K) rfl B.len PySem.boot_len (aa (aj O_dealers hr rfl (aa (pv 1) (aa (pv 0) ac))) ac)))) ac)))))),?_⟩
 refine ⟨_,rfl,_,rfl,t,a,p,n,f,ws,ss,rfl,T1,ha,hss,fun hR H1 s1=>?_,q2⟩
 have hR':=(rightsB_iff.mp hR).1
 obtain ⟨dx,ht⟩:=T1
 refine ⟨_,rfl,t,C,dx,_,_,rfl,s1 _ _ ht,T.cl,T.nF,tf_f _ _ _,?_⟩
 refine ⟨_,rfl,a,rfl,⟨_,SqL.of (s1 _ _ ha)⟩,fun D hD=>?_⟩
 refine bF (K:=K) (a:=a) (xs:=ws) (fun i ys H2=>i≤ss.length∧ys=(((ss.take i).map fun z=>z.need n)).map V.int∧Same H1 H2) ⟨Nat.zero_le _,rfl,ao (Same.refl _) hD⟩ ?_ ?_ ?_
 ·rintro i ys H2 _ ⟨_,_,s2⟩
  exact SqL.of (s2 _ _ (s1 _ _ ha))
 ·rintro i y ys H2 hy ⟨hi,rfl,s2⟩ hD2
  obtain ⟨b,z,rfl,hz,hzs⟩:=(hss.same (s1.trans s2)).get hy
  have hil:i<ss.length:=(List.getElem?_eq_some_iff.mp hzs).1
  refine ⟨⟨rfl,rfl⟩,?_⟩
  refine ⟨_,rfl,_,rfl,t,b,p,n,f,z,rfl,⟨dx,s2 _ _ (s1 _ _ ht)⟩,hn,hz,fun r H4 s4 hr0 hr4=>?_⟩
  refine ⟨r,_,rfl,.inl (SqL.of hr4),s4 _ _ hD2,aw (by rw [List.length_map,List.length_map,List.length_take];omega),hil,?_,ao (s2.trans s4) hD⟩
  rw [List.take_add_one,hzs,List.map_append,List.map_append,List.length_map,fk hn.1]
  rfl
 ·rintro ys H2 ⟨_,rfl,s2⟩ hD2
  rw [wl,List.take_length] at hD2
  have hb:∀ v∈ss.map (fun z=>z.need n),0≤v∧v≤10:=fun v hv=>by
   obtain ⟨z,_,rfl⟩:=List.mem_map.mp hv
   exact need_b hn.1 hn.2 z
  refine ⟨D,ss.map (fun z=>z.need n),rfl,SqL.of hD2,by rw [List.length_map];omega,fun v hv=>⟨(hb v hv).1,by have:=(hb v hv).2;omega⟩,?_⟩
  have e:=ku f n ss
  have d:=q1 hR H2 (s1.trans s2)
  rw [e] at d
  have sb:=sum_b (ss.map fun z=>z.need n) fun v hv=>⟨(hb v hv).1,by have:=(hb v hv).2;omega⟩
  rw [List.length_map] at sb
  exact ⟨_,_,rfl,rfl,.inl ⟨by omega,by omega⟩,d⟩
end
section
variable {P:Program}{w:World}{K:PySem.W.Frag}{mg:Str→Option Value}{base:Heap}{C pa:Addr}
theorem iO:aq ["table","values"] ["table","values"] (am cP):=⟨rfl,rfl,rfl,by decide +kernel,rfl,by decide +kernel,by decide +kernel⟩
theorem iU (F:Src K mg "are_numbers" "are_numbers" cP ["table","values"]) (B:Blt mg) (O_is_number:Ok P w K mg base CX0 1 "is_number" ["table","value"] (ju C)):Ok P w K mg base CX0 2 "are_numbers" ["table","values"] (fC C):=by
 refine F.ok iO (fun vs H Q E h=>?_) (fun f cdv A outer s H vs Q E hr h=>?_)
 ·obtain ⟨t,r,p,n,f,ns,rfl,_⟩:=h
  rfl
 obtain ⟨t,r,p,n,f,ns,rfl,T1,hr1,hl,q⟩:=h
 refine ⟨_,(af (az (aN (iH rfl) rfl B.all PyProof.Rows.boot_all (aa (bS ["value"] [("table",0)]  (bL (pv 1)) rfl (fun C s0 H0 ex=>by exact (au (i:=0) (show List.Nodup [("value":Str),"table"] by decide +kernel) rfl (Or.inl rfl))) (fun C s0 H0 ex=>by exact bp) (fun C s0 H0 ex=>by exact (aj O_is_number hr rfl (aa (pv 1) (aa (pv 0) ac))))) ac)))),?_⟩
 refine ⟨_,rfl,r,rfl,⟨_,SqL.of hr1⟩,fun D hD=>?_⟩
 refine bF (K:=K) (a:=r) (xs:=ns.map V.int) (fun i ys H2=>i≤ns.length∧ys=((ns.take i).map (iW p)).map V.bl∧Same H H2) ⟨Nat.zero_le _,rfl,ao (Same.refl _) hD⟩ ?_ ?_ ?_
 ·rintro i ys H2 _ ⟨_,_,s2⟩
  exact SqL.of (s2 _ _ hr1)
 ·rintro i y ys H2 hy ⟨hi,rfl,s2⟩ hD2
  rw [List.getElem?_map] at hy
  cases hv:ns[i]? with
  | none=>rw [hv] at hy;cases hy
  | some v =>
  rw [hv] at hy
  cases hy
  have hil:i<ns.length:=(List.getElem?_eq_some_iff.mp hv).1
  refine ⟨⟨rfl,rfl⟩,?_⟩
  refine ⟨_,rfl,_,rfl,t,p,n,f,v,rfl,T1.same s2,fun H4 s4=>?_⟩
  refine ⟨s4 _ _ hD2,aw (by rw [List.length_map,List.length_map,List.length_take];omega),hil,?_,ao (s2.trans s4) hD⟩
  rw [List.take_add_one,hv,List.map_append,List.map_append]
  rfl
 ·rintro ys H2 ⟨_,rfl,s2⟩ hD2
  rw [List.length_map,List.take_length] at hD2
  refine ⟨D,ns.map (iW p),rfl,SqL.of hD2,?_⟩
  have:=q H2 s2
  rw [List.all_map]
  exact this
theorem sc_uses:aq ["steps","hand"] ["steps","hand"] (am l8):=⟨rfl,rfl,rfl,by decide +kernel,rfl,by decide +kernel,by decide +kernel⟩
theorem ok_uses (F:Src K mg "uses" "uses" l8 ["steps","hand"]):Ok P w K mg base CX0 1 "uses" ["steps","hand"] j3:=by
 refine F.ok sc_uses (fun vs H Q E h=>?_) (fun f cdv A outer s H vs Q E hr h=>?_)
 ·obtain ⟨a,h,ws,ss,rfl,_⟩:=h
  rfl
 obtain ⟨a,h,ws,ss,rfl,ha,hss,q⟩:=h
 refine ⟨_,(af (az (gy PySem.F.plainAttrs_list PySem.F.slot_list_count PySem.F.type_list_count (pM hr.units) (pv 0) (aa (c7 (aa br (aa (pv 1) ac))) ac)))),?_⟩
 refine ⟨_,rfl,.inl ⟨rfl,_,SqL.of ha⟩,_,rfl,(by show 2≤sizeLine;decide),fun d hd=>?_⟩
 have s1:=ah hd (.tup [.str "in",.int h])
 refine ⟨a,ws,ss.map Stp.dat,.ref d,(Stp.ein h).dat,rfl,rfl,s1 _ _ ha,(hss.same s1).rep,Stp.rep (s:=.ein h) ad,?_,Stp.ok8 _,?_⟩
 ·intro e he
  obtain ⟨z,_,rfl⟩:=List.mem_map.mp he
  exact z.ok8
 ·rw [ng]
  exact q _ s1
theorem sc_are_inputs:aq ["table","steps","inputs","hand","own"] ["table","steps","inputs"] (am dg):=⟨rfl,rfl,rfl,by decide +kernel,rfl,by decide +kernel,by decide +kernel⟩
theorem jJ (F:Src K mg "are_inputs" "are_inputs" dg ["table","steps","inputs"]) (B:Blt mg) (T:Tab K C) (O_uses:Ok P w K mg base CX0 1 "uses" ["steps","hand"] j3) (O_are_numbers:Ok P w K mg base CX0 2 "are_numbers" ["table","values"] (fC C)):Ok P w K mg base CX0 3 "are_inputs" ["table","steps","inputs"] (eZ C):=by
 refine F.ok sc_are_inputs (fun vs H Q E h=>?_) (fun f cdv A outer s H vs Q E hr h=>?_)
 ·obtain ⟨t,a,b,p,n,f,ws,ss,is,inp,rfl,_⟩:=h
  rfl
 obtain ⟨t,a,b,p,n,f,ws,ss,is,inp,rfl,⟨dx,ht⟩,ha,hss,hb,hin,hlen,q⟩:=h
 have il:is.length=inp.length:=Paired.length hin
 refine ⟨_,(ae (bR (aK op_ne (aN aB rfl B.len PySem.boot_len (aa (pv 2) ac)) (aI (pv 0) rfl) (aU _))
   (af (az ki))
   aO)
  (ae (cq PassesOwn.never rfl (mr rfl B.enumerate (aa (pv 2) ac) ak) (gm rfl (aL (au (i:=3) sc_are_inputs.nd rfl (Or.inl rfl)) (aL (au (i:=4) sc_are_inputs.nd rfl (Or.inl rfl)) cv)))
   (af (bR (PW.pt (nv (aK lj (aN aB rfl B.len PySem.boot_len (aa (pv 4) ac)) (aj O_uses hr rfl (aa (pv 1) (aa (pv 3) ac))) (aU _)) (i5 (i6 (gk (aj O_are_numbers hr rfl (aa (pv 0) (aa (pv 4) ac))) (fun _=>rfl))))))
   (af (az ki))
   aO)))
  (af (az ki)))),?_⟩
 have no:gq p n ss inp=false→∀ H',Same H H'→Q (.bl false) H':=fun hn H' s'=>by
  have:=q H' s'
  rw [hn] at this
  exact this
 refine ⟨_,rfl,b,_,rfl,.inl (SqL.of hb),_,rfl,t,C,dx,_,_,rfl,ht,T.cl,T.nH,oP _ _ _,rfl,_,rfl,?_⟩
 refine bP (fun c=>?_) (fun c=>?_)
 ·refine no ?_ H (Same.refl H)
  have c1:¬ (inp.length:Int)=n:=fun e=>by
   have c':(!decide (V.int ((is.map V.ref).length:Int)=V.int n))=true:=c
   rw [List.length_map,il,e] at c'
   simp at c'
  unfold gq
  rw [decide_eq_false c1]
  rfl
 have hlenN:(inp.length:Int)=n:=Classical.byContradiction fun e=>c (by
  show (!decide (V.int ((is.map V.ref).length:Int)=V.int n))=true
  rw [List.length_map,il,decide_eq_false (fun z=>e (by injection z))]
  rfl)
 refine ⟨_,rfl,b,_,1,rfl,rfl,by decide,SqL.of hb,?_⟩
 refine jQ (K:=K) (a:=b) (xs:=is.map V.ref) (k0:=1) (fun i σ H2=>Same H H2∧i≤inp.length∧(∃ v3 v4:Option V,σ=[some (.ref t),some (.ref a),some (.ref b),v3,v4])∧∀ j<i,(decide (aS ss (1+(j:Int))≤(inp.getD j []).length) && (inp.getD j []).all (iW p))=true) ?_ ?_ ?_ ?_
 ·exact ⟨Same.refl _,Nat.zero_le _,⟨none,none,rfl⟩,fun j hj=>absurd hj (Nat.not_lt_zero j)⟩
 ·rintro i σ H2 ⟨s2,_⟩
  exact SqL.of (s2 _ _ hb)
 ·rintro i y σ H2 c hy ⟨s2,hi,⟨v3,v4,rfl⟩,hall⟩ hc
  obtain ⟨oa,rfl,hoa⟩:=eu hy
  obtain ⟨r,hr1,hor⟩:=(hin.same s2).get hoa
  have hil:i<inp.length:=(List.getElem?_eq_some_iff.mp hr1).1
  have rl:=hlen r (List.mem_of_getElem? hr1)
  have eD:inp.getD i []=r:=by rw [List.getD_eq_getElem?_getD,hr1];rfl
  have s3:=ah hc (.tup [.int ((1+i:Nat):Int),.ref oa])
  refine ⟨c,_,rfl,SqT.of ad,rfl,_,_,rfl,_,_,rfl,rfl,?_⟩
  have hor3:=s3 _ _ hor
  have g3:=s2.trans s3
  generalize upd H2 c (.tup [.int ((1+i:Nat):Int),.ref oa])=H3 at s3 hor3 g3
  refine ⟨_,rfl,oa,_,rfl,.inl (SqL.of hor3),_,rfl,_,rfl,a,_,ws,ss,rfl,g3 _ _ ha,hss.same g3,fun H4 s4=>?_⟩
  have eh:((1+i:Nat):Int)=1+(i:Int):=by omega
  rw [List.length_map,eh]
  have bad:(decide (aS ss (1+(i:Int))≤(inp.getD i []).length) && (inp.getD i []).all (iW p))=false→gq p n ss inp=false:=fun hb=>by
   cases hI:gq p n ss inp with
   | false=>rfl
   | true =>
    unfold gq at hI
    rw [Bool.and_eq_true,List.all_eq_true] at hI
    rw [hI.2 i (List.mem_range.mpr hil)] at hb
    cases hb
  refine ⟨_,_,rfl,rfl,_,rfl,?_⟩
  refine bP (fun c1=>?_) (fun c1=>?_)
  ·have c1':(r.length:Int)<(aS ss (1+(i:Int)):Int):=of_decide_eq_true c1
   refine iteT (no (bad ?_) H4 (g3.trans s4))
   rw [eD,decide_eq_false (by omega)]
   rfl
  have c1':¬ (r.length:Int)<(aS ss (1+(i:Int)):Int):=of_decide_eq_false (Bool.eq_false_iff.mpr c1)
  refine ⟨_,rfl,_,rfl,t,oa,p,n,f,r,rfl,⟨dx,(g3.trans s4) _ _ ht⟩,s4 _ _ hor3,rl,fun H5 s5=>⟨_,rfl,?_⟩⟩
  cases hN:r.all (iW p) with
  | false =>
   refine no (bad ?_) H5 (g3.trans (s4.trans s5))
   rw [eD,hN,Bool.and_false]
  | true =>
   refine ⟨g3.trans (s4.trans s5),hil,⟨_,_,rfl⟩,fun j hj=>?_⟩
   rcases Nat.lt_succ_iff_lt_or_eq.mp hj with g | g
   ·exact hall j g
   ·rw [g,eD,hN,decide_eq_true (by omega)]
    rfl
 ·rintro σ H2 ⟨s2,_,⟨v3,v4,rfl⟩,hall⟩
  rw [List.length_map,il] at hall
  have:=q H2 s2
  rw [show gq p n ss inp=true by
   unfold gq
   rw [decide_eq_true hlenN,Bool.true_and,List.all_eq_true]
   exact fun j hj=>hall j (List.mem_range.mp hj)] at this
  exact this
theorem gw:aq ["table","steps","inputs"] ["table","steps","inputs"] (am b7):=⟨rfl,rfl,rfl,by decide +kernel,rfl,by decide +kernel,by decide +kernel⟩
theorem fW {cI:Addr}{bmI:List Value} (F:Src K mg "refuse_inputs" "refuse_inputs" b7 ["table","steps","inputs"]) (E_BadInputs:Exc K mg "BadInputs" cI bmI) (O_are_inputs:Ok P w K mg base CX0 3 "are_inputs" ["table","steps","inputs"] (eZ C)):Ok P w K mg base (CXE P w) 4 "refuse_inputs" ["table","steps","inputs"] (dj C cI):=by
 refine F.okE gw (fun vs H Q E h=>?_) (fun f cdv A outer s H vs Q E hr h=>?_)
 ·obtain ⟨t,a,b,p,n,f,ws,ss,is,inp,rfl,_⟩:=h
  rfl
 obtain ⟨t,a,b,p,n,f,ws,ss,is,inp,rfl,T1,ha,hss,hb,hin,hlen,q1,q2⟩:=h
 refine ⟨_,(af (bR (i6 (gk (aj O_are_inputs hr rfl (aa (pv 0) (aa (pv 1) (aa (pv 2) ac)))) (fun _=>rfl)))
   (af (gI E_BadInputs rfl br))
   aO)),?_⟩
 refine ⟨_,rfl,_,rfl,_,rfl,t,a,b,p,n,f,ws,ss,is,inp,rfl,T1,ha,hss,hb,hin,hlen,fun H1 s1=>?_⟩
 cases hR:gq p n ss inp with
 | true=>exact ⟨_,rfl,iteF (q1 hR H1 s1)⟩
 | false=>exact ⟨_,rfl,iteT ⟨by decide,q2 hR H1 s1⟩⟩
theorem sc_input_at:aq ["steps","place","inputs","hand"] ["steps","place","inputs"] (am eO):=⟨rfl,rfl,rfl,by decide +kernel,rfl,by decide +kernel,by decide +kernel⟩
theorem lB (F:Src K mg "input_at" "input_at" eO ["steps","place","inputs"]) (O_uses:Ok P w K mg base CX0 1 "uses" ["steps","hand"] j3):Ok P w K mg base CX0 2 "input_at" ["steps","place","inputs"] g9:=by
 refine F.ok sc_input_at (fun vs H Q E h=>?_) (fun f cdv A outer s H vs Q E hr h=>?_)
 ·obtain ⟨a,b,i,h,p,n,ws,ss,is,inp,rfl,_⟩:=h
  rfl
 obtain ⟨a,b,i,h,p,n,ws,ss,is,inp,rfl,ha,hss,hsl,hi,hb,hin,iok,hh,q⟩:=h
 have wl:ws.length=ss.length:=Paired.length hss
 have il:i<ss.length:=(List.getElem?_eq_some_iff.mp hi).1
 have isl:is.length=n.toNat:=(Paired.length hin).trans iok.len
 refine ⟨_,(ae (aJ (i:=3) sc_input_at.nd rfl (Or.inl rfl) (aX bO (aX bf (pv 0) (pv 1) (fun _ _=>rfl)) ak (fun _ _=>rfl)))
  (af (az (aX bf (aX bf (pv 2) (aE eC (pv 3) ak) (fun _ _=>rfl)) (aj O_uses hr rfl (aa (gJ kW (pv 0) lg (ic (pv 1))) (aa (pv 3) ac))) (fun _ _=>rfl))))),?_⟩
 obtain ⟨c,z,ec,hc,hz⟩:=hss.get (List.getElem?_eq_getElem (show i<ws.length by omega))
 rw [hi] at hz
 cases hz
 have eat:atI ws (i:Int)=some (.ref c):=by
  unfold atI
  rw [show ixN ws.length (i:Int)=some i by simpa using nV (n:=ws.length) (k:=(i:Int)) (by omega) (by omega),← ec]
  exact List.getElem?_eq_getElem (by omega)
 refine ⟨_,rfl,_,rfl,a,_,_,.ref c,rfl,rfl,SqL.of ha,eat,c,_,_,.int h,rfl,rfl,SqT.of hc,rfl,?_⟩
 have hx:(h - 1).toNat<is.length:=by omega
 obtain ⟨r,hr1,hro⟩:=hin.get (List.getElem?_eq_getElem hx)
 have er:bI inp h=r:=by unfold bI;rw [List.getD_eq_getElem?_getD,hr1];rfl
 have eat2:atI (is.map V.ref) (h - 1)=some (.ref is[(h - 1).toNat]):=by
  unfold atI
  rw [nV (by omega) (by rw [List.length_map];omega)]
  show (is.map V.ref)[(h - 1).toNat]?=_
  rw [List.getElem?_map,List.getElem?_eq_getElem hx]
  rfl
 refine ⟨_,rfl,_,rfl,_,_,rfl,rfl,b,_,_,.ref is[(h - 1).toNat],rfl,rfl,SqL.of hb,eat2,?_⟩
 refine ⟨_,rfl,_,rfl,_,rfl,a,_,rfl,SqL.of ha,fun l hl=>?_⟩
 rw [cut_to]
 have s1:=ah hl (.lst (ws.take i))
 refine ⟨_,rfl,l,h,ws.take i,ss.take i,rfl,ad,ij i (hss.same s1),fun H2 s2=>?_⟩
 have ul:=jY hi
 have en:=iok.en h hh.1 hh.2
 rw [er] at en
 refine ⟨_,_,_,.int (jU ss inp i h),rfl,rfl,SqL.of (s2 _ _ (s1 _ _ hro)),?_,q H2 (s1.trans s2)⟩
 unfold jU
 rw [er]
 have:=fj (fd:=r) (a:=(aS (ss.take i) h:Int)) (by omega) (by omega)
 simpa using this
theorem sc_reckoned:aq ["table","step","before","word","first"] ["table","step","before"] (am eJ):=⟨rfl,rfl,rfl,by decide +kernel,rfl,by decide +kernel,by decide +kernel⟩
theorem lr (F:Src K mg "reckoned" "reckoned" eJ ["table","step","before"]) (T:Tab K C):Ok P w K mg base CX0 1 "reckoned" ["table","step","before"] (eH C):=by
 refine F.ok sc_reckoned (fun vs H Q E h=>?_) (fun f cdv A outer s H vs Q E hr h=>?_)
 ·obtain ⟨t,b,r,p,n,f,z,fd,rfl,_⟩:=h
  rfl
 obtain ⟨t,b,r,p,n,f,z,fd,rfl,⟨dx,ht⟩,hp,hz,hr1,R,hne,hfb,q⟩:=h
 refine ⟨_,(ae (aJ (i:=3) sc_reckoned.nd rfl (Or.inl rfl) (aX bO (pv 1) ak (fun _ _=>rfl)))
  (ae (bR (aK dA (pv 3) br (aU _))
   (af (az (aX bO (pv 1) ak (fun _ _=>rfl))))
   aO)
  (ae (aJ (i:=4) sc_reckoned.nd rfl (Or.inl rfl) (aX bf (pv 2) (aX bO (pv 1) ak (fun _ _=>rfl)) (fun _ _=>rfl)))
  (ae (bR (aK dA (pv 3) br (aU _))
   (af (az (aE bZ (aE bM (pv 4) (aX bf (pv 2) (aX bO (pv 1) ak (fun _ _=>rfl)) (fun _ _=>rfl))) (aI (pv 0) rfl))))
   aO)
  (ae (bR (aK dA (pv 3) br (aU _))
   (af (az (aE bZ (aE eC (pv 4) (aX bf (pv 2) (aX bO (pv 1) ak (fun _ _=>rfl)) (fun _ _=>rfl))) (aI (pv 0) rfl))))
   aO)
  (ae (bR (aK dA (pv 3) br (aU _))
   (af (az (aE bZ (aE c8 (pv 4) (aX bO (pv 1) ak (fun _ _=>rfl))) (aI (pv 0) rfl))))
   aO)
  (ae (bR (aK dA (pv 3) br (aU _))
   (af (az (aE bZ (aE c8 (pv 4) (aX bf (pv 2) (aX bO (pv 1) ak (fun _ _=>rfl)) (fun _ _=>rfl))) (aI (pv 0) rfl))))
   aO)
  (af (az (pv 4)))))))))),?_⟩
 have d:=q H (Same.refl H)
 have no:∀ {x y:String}{α:Prop},decide (V.str (Str.ofString x)=V.str (Str.ofString y))=true→¬ Str.ofString x=Str.ofString y→α:=fun c h=>absurd (of_decide_eq_true c) (fun e=>h (by injection e))
 refine ⟨_,rfl,b,_,_,.str z.word,rfl,rfl,SqT.of hz,z.at0,?_⟩
 cases z with
 | ein h=>exact absurd rfl (hne h)
 | fix x =>
  refine ⟨_,rfl,rfl,_,rfl,?_⟩
  refine bP (fun _=>?_) (fun c=>absurd (decide_eq_true (show V.str (Str.ofString "fix")=V.str (Str.ofString "fix") from rfl)) c)
  exact ⟨_,rfl,b,_,_,.int x,rfl,rfl,SqT.of hz,rfl,d⟩
 | sum a1 a2 =>
  have ba:=jd hfb R.1.1 R.1.2
  have bb:=jd hfb R.2.1 R.2.2
  refine ⟨_,rfl,rfl,_,rfl,?_⟩
  refine bP (fun c=>no (x:="sum") (y:="fix") c (by decide +kernel)) (fun _=>?_)
  refine ⟨_,rfl,_,rfl,b,_,_,.int a1,rfl,rfl,SqT.of hz,rfl,r,_,_,_,rfl,rfl,SqL.of hr1,fj R.1.1 R.1.2,?_⟩
  refine ⟨_,rfl,rfl,_,rfl,?_⟩
  refine bP (fun _=>?_) (fun c=>absurd (decide_eq_true (show V.str (Str.ofString "sum")=V.str (Str.ofString "sum") from rfl)) c)
  refine ⟨_,rfl,_,rfl,_,rfl,b,_,_,.int a2,rfl,rfl,SqT.of hz,rfl,r,_,_,_,rfl,rfl,SqL.of hr1,fj R.2.1 R.2.2,_,_,rfl,rfl,?_⟩
  exact ⟨_,rfl,t,C,dx,_,_,rfl,ht,T.cl,T.nP,kR _ _ _,_,_,rfl,rfl,hp.1,d⟩
 | less a1 a2 =>
  refine ⟨_,rfl,rfl,_,rfl,?_⟩
  refine bP (fun c=>no (x:="less") (y:="fix") c (by decide +kernel)) (fun _=>?_)
  refine ⟨_,rfl,_,rfl,b,_,_,.int a1,rfl,rfl,SqT.of hz,rfl,r,_,_,_,rfl,rfl,SqL.of hr1,fj R.1.1 R.1.2,?_⟩
  refine ⟨_,rfl,rfl,_,rfl,?_⟩
  refine bP (fun c=>no (x:="less") (y:="sum") c (by decide +kernel)) (fun _=>?_)
  refine ⟨_,rfl,rfl,_,rfl,?_⟩
  refine bP (fun _=>?_) (fun c=>absurd (decide_eq_true (show V.str (Str.ofString "less")=V.str (Str.ofString "less") from rfl)) c)
  refine ⟨_,rfl,_,rfl,_,rfl,b,_,_,.int a2,rfl,rfl,SqT.of hz,rfl,r,_,_,_,rfl,rfl,SqL.of hr1,fj R.2.1 R.2.2,_,_,rfl,rfl,?_⟩
  exact ⟨_,rfl,t,C,dx,_,_,rfl,ht,T.cl,T.nP,kR _ _ _,_,_,rfl,rfl,hp.1,d⟩
 | bye a1 x =>
  have ba:=jd hfb R.1.1 R.1.2
  refine ⟨_,rfl,rfl,_,rfl,?_⟩
  refine bP (fun c=>no (x:="by") (y:="fix") c (by decide +kernel)) (fun _=>?_)
  refine ⟨_,rfl,_,rfl,b,_,_,.int a1,rfl,rfl,SqT.of hz,rfl,r,_,_,_,rfl,rfl,SqL.of hr1,fj R.1.1 R.1.2,?_⟩
  refine ⟨_,rfl,rfl,_,rfl,?_⟩
  refine bP (fun c=>no (x:="by") (y:="sum") c (by decide +kernel)) (fun _=>?_)
  refine ⟨_,rfl,rfl,_,rfl,?_⟩
  refine bP (fun c=>no (x:="by") (y:="less") c (by decide +kernel)) (fun _=>?_)
  refine ⟨_,rfl,rfl,_,rfl,?_⟩
  refine bP (fun _=>?_) (fun c=>absurd (decide_eq_true (show V.str (Str.ofString "by")=V.str (Str.ofString "by") from rfl)) c)
  refine ⟨_,rfl,_,rfl,b,_,_,.int x,rfl,rfl,SqT.of hz,rfl,_,_,rfl,rfl,.inl ⟨by omega,by omega⟩,?_⟩
  exact ⟨_,rfl,t,C,dx,_,_,rfl,ht,T.cl,T.nP,kR _ _ _,_,_,rfl,rfl,hp.1,d⟩
 | mul a1 a2 =>
  have ba:=jd hfb R.1.1 R.1.2
  refine ⟨_,rfl,rfl,_,rfl,?_⟩
  refine bP (fun c=>no (x:="mul") (y:="fix") c (by decide +kernel)) (fun _=>?_)
  refine ⟨_,rfl,_,rfl,b,_,_,.int a1,rfl,rfl,SqT.of hz,rfl,r,_,_,_,rfl,rfl,SqL.of hr1,fj R.1.1 R.1.2,?_⟩
  refine ⟨_,rfl,rfl,_,rfl,?_⟩
  refine bP (fun c=>no (x:="mul") (y:="sum") c (by decide +kernel)) (fun _=>?_)
  refine ⟨_,rfl,rfl,_,rfl,?_⟩
  refine bP (fun c=>no (x:="mul") (y:="less") c (by decide +kernel)) (fun _=>?_)
  refine ⟨_,rfl,rfl,_,rfl,?_⟩
  refine bP (fun c=>no (x:="mul") (y:="by") c (by decide +kernel)) (fun _=>?_)
  refine ⟨_,rfl,rfl,_,rfl,?_⟩
  refine bP (fun _=>?_) (fun c=>absurd (decide_eq_true (show V.str (Str.ofString "mul")=V.str (Str.ofString "mul") from rfl)) c)
  refine ⟨_,rfl,_,rfl,_,rfl,b,_,_,.int a2,rfl,rfl,SqT.of hz,rfl,r,_,_,_,rfl,rfl,SqL.of hr1,fj R.2.1 R.2.2,_,_,rfl,rfl,.inl ⟨by omega,by omega⟩,?_⟩
  exact ⟨_,rfl,t,C,dx,_,_,rfl,ht,T.cl,T.nP,kR _ _ _,_,_,rfl,rfl,hp.1,d⟩
 | anew a1 =>
  refine ⟨_,rfl,rfl,_,rfl,?_⟩
  refine bP (fun c=>no (x:="anew") (y:="fix") c (by decide +kernel)) (fun _=>?_)
  refine ⟨_,rfl,_,rfl,b,_,_,.int a1,rfl,rfl,SqT.of hz,rfl,r,_,_,_,rfl,rfl,SqL.of hr1,fj R.1 R.2,?_⟩
  refine ⟨_,rfl,rfl,_,rfl,?_⟩
  refine bP (fun c=>no (x:="anew") (y:="sum") c (by decide +kernel)) (fun _=>?_)
  refine ⟨_,rfl,rfl,_,rfl,?_⟩
  refine bP (fun c=>no (x:="anew") (y:="less") c (by decide +kernel)) (fun _=>?_)
  refine ⟨_,rfl,rfl,_,rfl,?_⟩
  refine bP (fun c=>no (x:="anew") (y:="by") c (by decide +kernel)) (fun _=>?_)
  refine ⟨_,rfl,rfl,_,rfl,?_⟩
  refine bP (fun c=>no (x:="anew") (y:="mul") c (by decide +kernel)) (fun _=>?_)
  exact ⟨_,rfl,d⟩
 | opn a1 =>
  refine ⟨_,rfl,rfl,_,rfl,?_⟩
  refine bP (fun c=>no (x:="open") (y:="fix") c (by decide +kernel)) (fun _=>?_)
  refine ⟨_,rfl,_,rfl,b,_,_,.int a1,rfl,rfl,SqT.of hz,rfl,r,_,_,_,rfl,rfl,SqL.of hr1,fj R.1 R.2,?_⟩
  refine ⟨_,rfl,rfl,_,rfl,?_⟩
  refine bP (fun c=>no (x:="open") (y:="sum") c (by decide +kernel)) (fun _=>?_)
  refine ⟨_,rfl,rfl,_,rfl,?_⟩
  refine bP (fun c=>no (x:="open") (y:="less") c (by decide +kernel)) (fun _=>?_)
  refine ⟨_,rfl,rfl,_,rfl,?_⟩
  refine bP (fun c=>no (x:="open") (y:="by") c (by decide +kernel)) (fun _=>?_)
  refine ⟨_,rfl,rfl,_,rfl,?_⟩
  refine bP (fun c=>no (x:="open") (y:="mul") c (by decide +kernel)) (fun _=>?_)
  exact ⟨_,rfl,d⟩
end
section
variable {P:Program}{w:World}{K:PySem.W.Frag}{mg:Str→Option Value}{base:Heap}{C pa:Addr}
theorem sc_are_rising_hands:aq ["table","some","last","hand"] ["table","some"] (am bH):=⟨rfl,rfl,rfl,by decide +kernel,rfl,by decide +kernel,by decide +kernel⟩
theorem pz (F:Src K mg "are_rising_hands" "are_rising_hands" bH ["table","some"]) (T:Tab K C):Ok P w K mg base CX0 1 "are_rising_hands" ["table","some"] (jp C):=by
 refine F.ok sc_are_rising_hands (fun vs H Q E h=>?_) (fun f cdv A outer s H vs Q E hr h=>?_)
 ·obtain ⟨t,s,p,n,f,hs,rfl,_⟩:=h
  rfl
 obtain ⟨t,sa,p,n,f,hs,rfl,⟨dx,ht⟩,hsa,q⟩:=h
 refine ⟨_,(ae (aJ (i:=2) sc_are_rising_hands.nd rfl (Or.inl rfl) ak)
  (ae (cq PassesOwn.never rfl (bL (pv 1)) (au (i:=3) sc_are_rising_hands.nd rfl (Or.inl rfl))
   (ae (bR (PW.pt (nv (aK lq (pv 3) (pv 2) (aU _)) (i5 (aK op_gt (pv 3) (aI (pv 0) rfl) (aU _)))))
   (af (az ki))
   aO)
  (af (aJ (i:=2) sc_are_rising_hands.nd rfl (Or.inl rfl) (pv 3)))))
  (af (az ki)))),?_⟩
 have d:=q H (Same.refl H)
 refine ⟨_,rfl,sa,rfl,⟨_,SqL.of hsa⟩,?_⟩
 refine fQ (K:=K) (a:=sa) (xs:=hs.map V.int) (fun i σ H2=>H2=H∧∃ (l:Int) (v3:Option V),σ=[some (.ref t),some (.ref sa),some (.int l),v3]∧k9 n l (hs.drop i)=risB n hs) ?_ ?_ ?_ ?_
 ·exact ⟨rfl,0,none,rfl,rfl⟩
 ·rintro i σ H2 _ ⟨rfl,_⟩
  exact SqL.of hsa
 ·rintro i y σ H2 hy ⟨rfl,l,v3,rfl,hg⟩
  rw [List.getElem?_map] at hy
  cases hv:hs[i]? with
  | none=>rw [hv] at hy;cases hy
  | some h =>
  rw [hv] at hy
  cases hy
  have ed:hs.drop i=h::hs.drop (i+1):=gf hv
  rw [ed,k9] at hg
  refine ⟨_,rfl,_,rfl,_,_,rfl,rfl,_,rfl,?_⟩
  refine bP (fun c1=>?_) (fun c1=>?_)
  ·have c1':h≤l:=of_decide_eq_true c1
   rw [if_pos (.inl c1')] at hg
   rw [← hg] at d
   exact iteT d
  have c1':¬ h≤l:=of_decide_eq_false (Bool.eq_false_iff.mpr c1)
  refine ⟨_,rfl,_,rfl,t,C,dx,_,_,rfl,ht,T.cl,T.nH,oP _ _ _,_,_,rfl,rfl,_,rfl,?_⟩
  refine bP (fun c2=>?_) (fun c2=>?_)
  ·have c2':h > n:=of_decide_eq_true c2
   rw [if_pos (.inr (by omega))] at hg
   rw [← hg] at d
   exact d
  have c2':¬ h > n:=of_decide_eq_false (Bool.eq_false_iff.mpr c2)
  rw [if_neg (by omega)] at hg
  exact ⟨_,rfl,rfl,h,_,rfl,hg⟩
 ·rintro σ H2 ⟨rfl,l,v3,rfl,hg⟩
  rw [List.length_map,List.drop_length] at hg
  rw [← hg] at d
  exact d
theorem hW:aq ["table","some"] ["table","some"] (am cE):=⟨rfl,rfl,rfl,by decide +kernel,rfl,by decide +kernel,by decide +kernel⟩
theorem gA {cH:Addr}{bmH:List Value} (F:Src K mg "refuse_hands" "refuse_hands" cE ["table","some"]) (E_BadHands:Exc K mg "BadHands" cH bmH) (O_are_rising_hands:Ok P w K mg base CX0 1 "are_rising_hands" ["table","some"] (jp C)):Ok P w K mg base (CXE P w) 2 "refuse_hands" ["table","some"] (dE C cH):=by
 refine F.okE hW (fun vs H Q E h=>?_) (fun f cdv A outer s H vs Q E hr h=>?_)
 ·obtain ⟨t,s,p,n,f,hs,rfl,_⟩:=h
  rfl
 obtain ⟨t,sa,p,n,f,hs,rfl,T1,hsa,q1,q2⟩:=h
 refine ⟨_,(af (bR (i6 (gk (aj O_are_rising_hands hr rfl (aa (pv 0) (aa (pv 1) ac))) (fun _=>rfl)))
   (af (gI E_BadHands rfl br))
   aO)),?_⟩
 refine ⟨_,rfl,_,rfl,t,sa,p,n,f,hs,rfl,T1,hsa,fun H1 s1=>?_⟩
 cases hR:risB n hs with
 | true=>exact ⟨_,rfl,iteF (q1 hR H1 s1)⟩
 | false=>exact ⟨_,rfl,iteT ⟨by decide,q2 hR H1 s1⟩⟩
end
section
variable {P:Program}{w:World}{K:PySem.W.Frag}{mg:Str→Option Value}{base:Heap}{C pa:Addr}
theorem gx:aq ["table","steps","chance"] ["table","steps","chance"] (am b8):=⟨rfl,rfl,rfl,by decide +kernel,rfl,by decide +kernel,by decide +kernel⟩
theorem fX {cS cC:Addr}{bmC:List Value} (F:Src K mg "refuse_chance" "refuse_chance" b8 ["table","steps","chance"]) (B:Blt mg) (E_BadChance:Exc K mg "BadChance" cC bmC) (O_needs:Ok P w K mg base CX0 6 "needs" ["table","steps"] (fun vs H Q _=>js C cS vs H Q E0)) (O_are_numbers:Ok P w K mg base CX0 2 "are_numbers" ["table","values"] (fC C)):Ok P w K mg base (CXE P w) 7 "refuse_chance" ["table","steps","chance"] (dk C cC):=by
 refine F.okE gx (fun vs H Q E h=>?_) (fun f cdv A outer s H vs Q E hr h=>?_)
 ·obtain ⟨t,a,c,p,n,f,ws,ss,ch,rfl,_⟩:=h
  rfl
 obtain ⟨t,a,c,p,n,f,ws,ss,ch,rfl,T1,hn,hf,ha,hss,hc,hcl,hR,q1,q2⟩:=h
 refine ⟨_,(af (bR (PW.pt (nv (aK op_ne (aN aB rfl B.len PySem.boot_len (aa (pv 2) ac)) (aj O_needs hr rfl (aa (pv 0) (aa (pv 1) ac))) (aU _)) (i5 (i6 (gk (aj O_are_numbers hr rfl (aa (pv 0) (aa (pv 2) ac))) (fun _=>rfl))))))
   (af (gI E_BadChance rfl br))
   aO)),?_⟩
 refine ⟨_,rfl,c,_,rfl,.inl (SqL.of hc),_,rfl,_,rfl,t,a,p,n,f,ws,ss,rfl,T1,hn,hf,ha,hss,fun _ H1 s1=>?_,fun z=>absurd (z.symm.trans hR) (by decide)⟩
 refine ⟨rfl,_,rfl,?_⟩
 rw [List.length_map]
 refine bP (fun c1=>?_) (fun c1=>?_)
 ·refine iteT ⟨by decide,q2 (fun z=>?_) H1 s1⟩
  rw [z.1] at c1
  simp at c1
 have c1':(ch.length:Int)=aY f n ss:=Classical.byContradiction fun e=>c1 (by
  show (!decide (V.int (ch.length:Int)=V.int (aY f n ss)))=true
  rw [decide_eq_false (fun z=>e (by injection z))]
  rfl)
 refine ⟨_,rfl,_,rfl,t,c,p,n,f,ch,rfl,T1.same s1,s1 _ _ hc,hcl,fun H2 s2=>⟨_,rfl,?_⟩⟩
 cases hN:ch.all (iW p) with
 | false=>exact ⟨by decide,q2 (fun z=>absurd (z.2.symm.trans hN) (by decide)) H2 (s1.trans s2)⟩
 | true=>exact q1 c1' hN H2 (s1.trans s2)
theorem jy:aq ["table","steps","inputs","chance"] ["table","steps","inputs","chance"] (am dc):=⟨rfl,rfl,rfl,by decide +kernel,rfl,by decide +kernel,by decide +kernel⟩
theorem iR {cS cI cC:Addr} (F:Src K mg "refuse_run" "refuse_run" dc ["table","steps","inputs","chance"]) (O_refuse_stepsE:Ok P w K mg base (CXE P w) 5 "refuse_steps" ["table","steps"] (cK C cS)) (O_refuse_inputsE:Ok P w K mg base (CXE P w) 4 "refuse_inputs" ["table","steps","inputs"] (dj C cI)) (O_refuse_chanceE:Ok P w K mg base (CXE P w) 7 "refuse_chance" ["table","steps","chance"] (dk C cC)):Ok P w K mg base (CXE P w) 8 "refuse_run" ["table","steps","inputs","chance"] (eX C cS cI cC):=by
 refine F.okE jy (fun vs H Q E h=>?_) (fun f cdv A outer s H vs Q E hr h=>?_)
 ·obtain ⟨t,a,b,c,p,n,f,ws,ss,is,inp,ch,rfl,_⟩:=h
  rfl
 obtain ⟨t,a,b,c,p,n,f,ws,ss,is,inp,ch,rfl,T1,hn,hf,ha,hss,hb,hin,hlen,hc,hcl,q1,q2,q3,q4⟩:=h
 refine ⟨_,(ae (bv (dM O_refuse_stepsE hr rfl (aa (pv 0) (aa (pv 1) ac))))
  (ae (bv (dM O_refuse_inputsE hr rfl (aa (pv 0) (aa (pv 1) (aa (pv 2) ac)))))
  (af (bv (dM O_refuse_chanceE hr rfl (aa (pv 0) (aa (pv 1) (aa (pv 3) ac)))))))),?_⟩
 refine ⟨_,rfl,_,rfl,t,a,p,n,f,ws,ss,rfl,T1,ha,hss,fun hR H1 s1=>?_,q2⟩
 refine ⟨_,rfl,_,rfl,_,rfl,t,a,b,p,n,f,ws,ss,is,inp,rfl,T1.same s1,s1 _ _ ha,hss.same s1,s1 _ _ hb,hin.same s1,hlen,fun hI H2 s2=>?_,fun hI H' s'=>q3 hR hI H' (s1.trans s')⟩
 have g2:=s1.trans s2
 have hB:∀ b,dU p f n ss ch=b→(b=true↔((ch.length:Int)=aY f n ss∧ch.all (iW p)=true)):=fun b e=>by
  rw [← e]
  unfold dU
  rw [Bool.and_eq_true,decide_eq_true_eq]
 refine ⟨_,rfl,_,rfl,_,rfl,t,a,c,p,n,f,ws,ss,ch,rfl,T1.same g2,hn,hf,g2 _ _ ha,hss.same g2,g2 _ _ hc,hcl,hR,fun z1 z2 H3 s3=>q1 hR hI ((hB _ rfl).mpr ⟨z1,z2⟩) H3 (g2.trans s3),fun z H3 s3=>q4 hR hI ?_ H3 (g2.trans s3)⟩
 cases e:dU p f n ss ch with
 | false=>rfl
 | true=>exact absurd ((hB _ e).mp rfl) z
theorem nq:aq ["table","parts","numbers"] ["table","parts","numbers"] (am fE):=⟨rfl,rfl,rfl,by decide +kernel,rfl,by decide +kernel,by decide +kernel⟩
theorem nE (F:Src K mg "weighed" "weighed" fE ["table","parts","numbers"]) (B:Blt mg) (T:Tab K C):Ok P w K mg base CX0 1 "weighed" ["table","parts","numbers"] (fB C):=by
 refine F.ok nq (fun vs H Q E h=>?_) (fun f cdv A outer s H vs Q E hr h=>?_)
 ·obtain ⟨t,a,b,p,n,f,xs,ys,rfl,_⟩:=h
  rfl
 obtain ⟨t,a,b,p,n,f,xs,ys,rfl,⟨dx,ht⟩,hp,ha,hb,hl,hx,hy,q⟩:=h
 refine ⟨_,(af (az (aE bZ (aN (iG rfl) rfl B.sum PyProof.Rows.boot_sum (aa (bS ["part","number"] []  (ig rfl B.zip (aa (pv 1) (aa (pv 2) ac))) rfl (fun C s0 H0 ex=>by exact (fV K 2 rfl (aL (au (i:=0) (show List.Nodup [("part":Str),"number"] by decide +kernel) rfl (Or.inl rfl)) (aL (au (i:=1) (show List.Nodup [("part":Str),"number"] by decide +kernel) rfl (Or.inl rfl)) cv)))) (fun C s0 H0 ex=>by exact bp) (fun C s0 H0 ex=>by exact (aE c8 (pv 0) (pv 1)))) ac)) (aI (pv 0) rfl)))),?_⟩
 refine ⟨_,rfl,_,rfl,a,b,_,_,rfl,SqL.of ha,SqL.of hb,fun D hD=>?_⟩
 refine gQ (K:=K) (a:=a) (b:=b) (xs:=xs.map V.int) (zs:=ys.map V.int) (fun j us H2=>j≤xs.length∧us=((List.zipWith (·*·) xs ys).take j).map V.int∧Same H H2) ⟨Nat.zero_le _,rfl,ao (Same.refl _) hD⟩ ?_ ?_ ?_
 ·rintro j us H2 ⟨_,_,s2⟩
  exact ⟨SqL.of (s2 _ _ ha),SqL.of (s2 _ _ hb)⟩
 ·rintro j x z us H2 c ex ez ⟨hj,rfl,s2⟩ hD2 hc
  rw [List.getElem?_map] at ex ez
  cases h1:xs[j]? with
  | none=>rw [h1] at ex;cases ex
  | some x1 =>
  cases h2:ys[j]? with
  | none=>rw [h2] at ez;cases ez
  | some z1 =>
  rw [h1] at ex
  rw [h2] at ez
  cases ex
  cases ez
  have jl:j<xs.length:=(List.getElem?_eq_some_iff.mp h1).1
  have bx:=hx x1 (List.mem_of_getElem? h1)
  have s3:=ah hc (.tup [.int x1,.int z1])
  refine ⟨c,_,rfl,SqT.of ad,rfl,_,_,rfl,_,_,rfl,rfl,⟨rfl,rfl⟩,?_⟩
  refine ⟨_,rfl,_,rfl,_,_,rfl,rfl,.inl ⟨by omega,by omega⟩,?_⟩
  refine ⟨s3 _ _ hD2,aw (by rw [List.length_map,List.length_take];omega),jl,?_,ao (s2.trans s3) hD⟩
  have hv2:(List.zipWith (·*·) xs ys)[j]?=some (x1*z1):=by rw [List.getElem?_zipWith,h1,h2]
  rw [List.take_add_one,hv2,List.map_append]
  rfl
 ·rintro us H2 ⟨_,rfl,s2⟩ hD2
  rw [List.take_of_length_le (by rw [List.length_zipWith,List.length_map,List.length_map];exact Nat.le_refl _)] at hD2
  have pb:∀ v∈List.zipWith (·*·) xs ys,0≤v∧v≤1000000:=fun v hv=>by
   obtain ⟨i,hi⟩:=List.getElem?_of_mem hv
   rw [List.getElem?_zipWith] at hi
   cases h1:xs[i]? with
   | none=>rw [h1] at hi;cases hi
   | some x1 =>
   cases h2:ys[i]? with
   | none=>rw [h1,h2] at hi;cases hi
   | some z1 =>
   rw [h1,h2] at hi
   have e:x1*z1=v:=by simpa using hi
   have bx:=hx x1 (List.mem_of_getElem? h1)
   have bz:=hy z1 (List.mem_of_getElem? h2)
   rw [← e]
   exact ⟨Int.mul_nonneg bx.1 bz.1,Int.le_trans (Int.mul_le_mul (show x1≤31 by omega) (show z1≤31 by omega) bz.1 (by decide)) (by decide)⟩
  refine ⟨D,_,rfl,SqL.of hD2,by rw [List.length_zipWith];omega,pb,?_⟩
  exact ⟨_,rfl,t,C,dx,_,_,rfl,s2 _ _ ht,T.cl,T.nP,kR _ _ _,_,_,rfl,rfl,hp.1,q H2 s2⟩
end
section
variable {P:Program}{w:World}{K:PySem.W.Frag}{mg:Str→Option Value}{base:Heap}{C pa:Addr}
theorem sc_chance_by_step:aq ["table","steps","chance","found","used","step","rows","place","start"] ["table","steps","chance"] (am bV):=⟨rfl,rfl,rfl,by decide +kernel,rfl,by decide +kernel,by decide +kernel⟩
theorem fY (F:Src K mg "chance_by_step" "chance_by_step" bV ["table","steps","chance"]) (B:Blt mg) (T:Tab K C) (O_dealers:Ok P w K mg base CX0 2 "dealers" ["table","step"] (cX C)):Ok P w K mg base CX0 3 "chance_by_step" ["table","steps","chance"] (cB C):=by
 refine F.ok sc_chance_by_step (fun vs H Q E h=>?_) (fun f cdv A outer s H vs Q E hr h=>?_)
 ·obtain ⟨t,a,c,p,n,f,ws,ss,ch,rfl,_⟩:=h
  rfl
 obtain ⟨t,a,c,p,n,f,ws,ss,ch,rfl,T1,hn,hf,ha,hss,hsl,hch,q⟩:=h
 have wl:ws.length=ss.length:=Paired.length hss
 refine ⟨_,(ae (aJ (i:=3) sc_chance_by_step.nd rfl (Or.inl rfl) (bw ac))
  (ae (aJ (i:=4) sc_chance_by_step.nd rfl (Or.inl rfl) ak)
  (ae (cq PassesOwn.never rfl (bL (pv 1)) (au (i:=5) sc_chance_by_step.nd rfl (Or.inl rfl))
   (ae (aJ (i:=6) sc_chance_by_step.nd rfl (Or.inl rfl) (bw ac))
  (ae (cq PassesOwn.never rfl (c6 rfl B.range (aa (aN aB rfl B.len PySem.boot_len (aa (aj O_dealers hr rfl (aa (pv 0) (aa (pv 5) ac))) ac)) ac)) (au (i:=7) sc_chance_by_step.nd rfl (Or.inl rfl))
   (ae (aJ (i:=8) sc_chance_by_step.nd rfl (Or.inl rfl) (aE bM (pv 4) (aE c8 (pv 7) (aI (pv 0) rfl))))
  (af (bv (gy PySem.F.plainAttrs_list PySem.F.slot_list_append PySem.F.type_list_append cj (pv 6) (aa (gJ kW (pv 2) (ic (pv 8)) (ic (aE bM (pv 8) (aI (pv 0) rfl)))) ac))))))
  (ae (ps_aug (i:=4) sc_chance_by_step.nd rfl (Or.inl rfl) (aE c8 (aN aB rfl B.len PySem.boot_len (aa (pv 6) ac)) (aI (pv 0) rfl)) ip_add)
  (af (bv (gy PySem.F.plainAttrs_list PySem.F.slot_list_append PySem.F.type_list_append cj (pv 3) (aa (pv 6) ac))))))))
  (af (az (pv 3)))))),?_⟩
 obtain ⟨dx,ht⟩:=id T1
 obtain ⟨f',rfl⟩:∃ f':Nat,f=(f':Int):=⟨f.toNat,by omega⟩
 have ef:((f':Int)).toNat=f':=by omega
 rw [ef] at q
 refine ⟨(by show 0≤sizeLine;decide),fun l hl=>?_⟩
 have sb:=ah hl (.lst [])
 have hbl:(upd H l (.lst [])) l=some (.lst []):=ad
 have hk:∀ x,H x=none→x≠l→(upd H l (.lst [])) x=none:=fun x e n=>by rw [ar n];exact e
 generalize upd H l (.lst [])=Hb at sb hbl hk
 refine ⟨_,rfl,a,rfl,⟨_,SqL.of (sb _ _ ha)⟩,?_⟩
 refine fQ (K:=K) (a:=a) (xs:=ws) (fun i σ H2=>Same H H2∧∃ (as:List Addr) (v5 v6 v7 v8:Option V),σ=[some (.ref t),some (.ref a),some (.ref c),some (.ref l),some (.int ((aG f' n (ss.take i):Nat):Int)),v5,v6,v7,v8]∧H2 l=some (.lst (as.map V.ref))∧LLNew Hb H2 as ((bn f' n ch ss 0).take i)) ?_ ?_ ?_ ?_
 ·exact ⟨sb,[],_,_,_,_,rfl,hbl,.nil⟩
 ·rintro i σ H2 _ ⟨s2,_⟩
  exact SqL.of (s2 _ _ ha)
 ·rintro i y σ H2 hy ⟨s2,as,v5,v6,v7,v8,rfl,hl2,has⟩
  obtain ⟨d,z,rfl,hz,hzs⟩:=(hss.same s2).get hy
  have il:i<ss.length:=(List.getElem?_eq_some_iff.mp hzs).1
  have asl:as.length≤100:=by
   rw [Paired.length has,List.length_take]
   omega
  have dl:=cy hn.1 hn.2 z
  refine ⟨(by show 0≤sizeLine;decide),fun r hr0=>?_⟩
  have s3:=ah hr0 (.lst [])
  have hr3:(upd H2 r (.lst [])) r=some (.lst (([]:List Addr).map V.ref)):=ad
  have rl:r≠l:=fun e=>by rw [e,hl2] at hr0;cases hr0
  have rb:Hb r=none:=hk r (s2.free hr0) rl
  generalize upd H2 r (.lst [])=H3 at s3 hr3
  have g3:=s2.trans s3
  refine ⟨_,rfl,_,rfl,t,d,p,n,_,z,rfl,T1.same g3,hn,s3 _ _ hz,fun dd H4 s4 hdd0 hdd=>?_⟩
  refine ⟨dd,_,rfl,.inl (SqL.of hdd),_,rfl,by omega,by rw [List.length_map];omega,?_⟩
  rw [List.length_map]
  generalize hU:aG f' n (ss.take i)=U
  have s24:=s3.trans s4
  refine dC (fun k σ H5=>Same H2 H5∧∃ (bs:List Addr) (v7 v8:Option V),σ=[some (.ref t),some (.ref a),some (.ref c),some (.ref l),some (.int (U:Int)),some (.ref d),some (.ref r),v7,v8]∧H5 r=some (.lst (bs.map V.ref))∧InsAt H5 bs (aA f' ch U k)∧(∀ b∈bs,Hb b=none)∧r∉bs∧k≤10) ⟨s24,[],_,_,rfl,s4 _ _ hr3,.nil,(fun b h=>nomatch h),(fun h=>nomatch h),by decide⟩ ?_ ?_
  ·rintro k σ H5 hk5 ⟨s5,bs,w7,w8,rfl,hr5,hin5,hfr,hrb,hk10⟩
   have hkl:k<(z.dealers n).length:=by omega
   have g5:=s2.trans s5
   have bl:bs.length=k:=by rw [Paired.length hin5];unfold aA;rw [List.length_map,List.length_range]
   refine ⟨_,rfl,_,rfl,_,rfl,t,C,dx,_,_,rfl,g5 _ _ ht,T.cl,T.nF,tf_f _ _ _,_,_,rfl,rfl,.inl ⟨by omega,by omega⟩,_,_,rfl,rfl,?_⟩
   have e8:(U:Int)+(0+(k:Int))*(f':Int)=((U+k*f':Nat):Int):=by rw [Int.zero_add];push_cast;rfl
   refine ⟨_,rfl,.inl ⟨rfl,_,SqL.of hr5⟩,_,rfl,_,rfl,_,rfl,_,rfl,_,rfl,t,C,dx,_,_,rfl,g5 _ _ ht,T.cl,T.nF,tf_f _ _ _,_,_,rfl,rfl,_,rfl,c,_,rfl,SqL.of (g5 _ _ hch),fun o ho=>?_⟩
   dsimp only
   rw [e8,cut_mid,← List.map_drop,← List.map_take]
   have s6:=ah ho (.lst (((ch.drop (U+k*f')).take f').map V.int))
   have or:o≠r:=fun e=>by rw [e,hr5] at ho;cases ho
   have ol:o≠l:=fun e=>by rw [e,s5 _ _ hl2] at ho;cases ho
   refine ⟨r,_,_,rfl,rfl,s6 _ _ hr5,by rw [List.length_map,bl];exact aw (by omega),?_⟩
   refine ⟨ao (s5.trans s6) hr0,bs++[o],_,_,rfl,by rw [ad,List.map_append];rfl,?_,fun b hb=>?_,fun h=>?_,by omega⟩
   ·rw [kF]
    refine InsAt.off (InsAt.snoc (hin5.same s6) ad) fun h=>?_
    rcases List.mem_append.mp h with h | h
    ·exact hrb h
    ·exact or (List.mem_singleton.mp h).symm
   ·rcases List.mem_append.mp hb with h | h
    ·exact hfr b h
    ·rw [List.mem_singleton.mp h]
     exact hk o (g5.free ho) ol
   ·rcases List.mem_append.mp h with h | h
    ·exact hrb h
    ·exact or (List.mem_singleton.mp h).symm
  ·rintro σ H5 ⟨s5,bs,w7,w8,rfl,hr5,hin5,hfr,hrb,_⟩
   have g5:=s2.trans s5
   have ek:((((z.dealers n).length:Nat):Int)).toNat=(z.dealers n).length:=by omega
   rw [ek] at hin5
   have bl:bs.length=(z.dealers n).length:=by rw [Paired.length hin5];unfold aA;rw [List.length_map,List.length_range]
   refine ⟨_,rfl,_,rfl,r,_,rfl,.inl (SqL.of hr5),_,rfl,t,C,dx,_,_,rfl,g5 _ _ ht,T.cl,T.nF,tf_f _ _ _,_,_,rfl,rfl,.inl ⟨by omega,by rw [List.length_map];omega⟩,_,_,rfl,rfl,?_⟩
   refine ⟨_,rfl,.inl ⟨rfl,_,SqL.of (s5 _ _ hl2)⟩,_,rfl,l,_,_,rfl,rfl,s5 _ _ hl2,by rw [List.length_map];exact aw (by omega),?_⟩
   refine ⟨ao g5 hl,as++[r],some (.ref d),some (.ref r),w7,w8,?_,by rw [ad,List.map_append];rfl,?_⟩
   ·rw [cU hzs,hU,List.length_map,bl]
    show [_,_,_,_,some (V.int ((U:Int)+((z.dealers n).length:Int)*(f':Int))),_,_,_,_]=_
    rw [show (((U+(z.dealers n).length*f':Nat)):Int)=(U:Int)+((z.dealers n).length:Int)*(f':Int) by push_cast;rfl]
   ·rw [dr hzs]
    refine LLNew.off hbl (Paired.snoc (has.same s5) ⟨rb,bs,hr5,?_,hfr⟩)
    rw [hU]
    exact hin5
 ·rintro σ H2 ⟨s2,as,v5,v6,v7,v8,rfl,hl2,has⟩
  rw [wl,List.take_of_length_le (by rw [dR];exact Nat.le_refl _)] at has
  exact ⟨_,rfl,q l as H2 s2 hl hl2 (has.older sb)⟩
theorem sc_letters_of:aq ["place","senders","rows","found","sender","row","getter","number"] ["place","senders","rows"] (am de):=⟨rfl,rfl,rfl,by decide +kernel,rfl,by decide +kernel,by decide +kernel⟩
theorem jI (F:Src K mg "letters_of" "letters_of" de ["place","senders","rows"]) (B:Blt mg):Ok P w K mg base CX0 1 "letters_of" ["place","senders","rows"] eY:=by
 refine F.ok sc_letters_of (fun vs H Q E h=>?_) (fun f cdv A outer s H vs Q E hr h=>?_)
 ·obtain ⟨a,b,pl,ss,bs,rows,rfl,_⟩:=h
  rfl
 obtain ⟨a,b,pl,ss,bs,rows,rfl,ha,hsl,hb,hin,hrl,q⟩:=h
 have bl:bs.length=rows.length:=Paired.length hin
 refine ⟨_,(ae (aJ (i:=3) sc_letters_of.nd rfl (Or.inl rfl) (bw ac))
  (ae (cq PassesOwn.never rfl (ig rfl B.zip (aa (pv 1) (aa (pv 2) ac))) (gm rfl (aL (au (i:=4) sc_letters_of.nd rfl (Or.inl rfl)) (aL (au (i:=5) sc_letters_of.nd rfl (Or.inl rfl)) cv)))
   (af (cq PassesOwn.never rfl (mr rfl B.enumerate (aa (pv 5) ac) ak) (gm rfl (aL (au (i:=6) sc_letters_of.nd rfl (Or.inl rfl)) (aL (au (i:=7) sc_letters_of.nd rfl (Or.inl rfl)) cv)))
   (af (bR (aK op_ne (pv 6) (pv 4) (aU _))
   (af (bv (gy PySem.F.plainAttrs_list PySem.F.slot_list_append PySem.F.type_list_append cj (pv 3) (aa (c7 (aa (pv 0) (aa (pv 4) (aa (pv 6) (aa (pv 7) ac))))) ac))))
   aO)))))
  (af (az (pv 3))))),?_⟩
 refine ⟨(by show 0≤sizeLine;decide),fun l hl=>?_⟩
 have s1:=ah hl (.lst [])
 have hl1:(upd H l (.lst [])) l=some (.lst []):=ad
 generalize upd H l (.lst [])=H1 at s1 hl1
 refine ⟨_,rfl,_,rfl,a,b,_,_,rfl,SqL.of (s1 _ _ ha),SqL.of (s1 _ _ hb),?_⟩
 refine lI (K:=K) (a:=a) (b:=b) (xs:=ss.map V.int) (zs:=bs.map V.ref) (fun i σ H2=>Same H H2∧∃ (lvs:List V) (v4 v5 v6 v7:Option V),σ=[some (.int pl),some (.ref a),some (.ref b),some (.ref l),v4,v5,v6,v7]∧H2 l=some (.lst lvs)∧LetsAt H2 lvs (aH pl (ss.take i) (rows.take i))∧lvs.length≤10*i∧i≤10) ?_ ?_ ?_ ?_
 ·exact ⟨s1,[],_,_,_,_,rfl,hl1,.nil,Nat.zero_le _,by decide⟩
 ·rintro i σ H2 ⟨s2,_⟩
  exact ⟨SqL.of (s2 _ _ ha),SqL.of (s2 _ _ hb)⟩
 ·rintro i x z σ H2 c ex ez ⟨s2,lvs,v4,v5,v6,v7,rfl,hl2,hlv,hll,hi10⟩ hc
  rw [List.getElem?_map] at ex
  cases h1:ss[i]? with
  | none=>rw [h1] at ex;cases ex
  | some sd =>
  rw [h1] at ex
  cases ex
  obtain ⟨ra,rfl,hra⟩:=eu ez
  obtain ⟨row,hrow,hrr⟩:=(hin.same s2).get hra
  have il:i<ss.length:=(List.getElem?_eq_some_iff.mp h1).1
  have rl:=hrl row (List.mem_of_getElem? hrow)
  have s3:=ah hc (.tup [.int sd,.ref ra])
  refine ⟨c,_,rfl,SqT.of ad,rfl,_,_,rfl,_,_,rfl,rfl,?_⟩
  have hl3:=s3 _ _ hl2
  have hrr3:=s3 _ _ hrr
  have g3:=s2.trans s3
  have hlv3:=hlv.same s3
  generalize upd H2 c (.tup [.int sd,.ref ra])=H3 at s3 hl3 hrr3 g3 hlv3
  refine ⟨_,rfl,ra,_,1,rfl,rfl,by decide,SqL.of hrr3,?_⟩
  have lz:aH pl (ss.take (i+1)) (rows.take (i+1))=aH pl (ss.take i) (rows.take i)++gu pl sd row:=by
   unfold aH
   have e:(ss.take (i+1)).zip (rows.take (i+1))=(ss.take i).zip (rows.take i)++[(sd,row)]:=by
    have hz:(ss.zip rows)[i]?=some (sd,row):=by rw [List.getElem?_zip_eq_some];exact ⟨h1,hrow⟩
    rw [dW,dW,List.take_add_one,hz]
    rfl
   rw [e,List.map_append,List.flatten_append]
   simp
  refine jQ (K:=K) (a:=ra) (xs:=row.map V.int) (k0:=1) (fun j σ H4=>Same H H4∧H4 ra=some (.lst (row.map V.int))∧∃ (lv:List V) (v6 v7:Option V),σ=[some (.int pl),some (.ref a),some (.ref b),some (.ref l),some (.int sd),some (.ref ra),v6,v7]∧H4 l=some (.lst lv)∧LetsAt H4 lv (aH pl (ss.take i) (rows.take i)++(List.range j).filterMap fun k:Nat=>if 1+(k:Int)=sd then none else some (pl,sd,1+(k:Int),row.getD k 0))∧lv.length≤10*i+j) ?_ ?_ ?_ ?_
  ·refine ⟨g3,hrr3,lvs,_,_,rfl,hl3,?_,by omega⟩
   rw [List.range_zero,List.filterMap_nil,List.append_nil]
   exact hlv3
  ·rintro j σ H4 ⟨_,h4,_⟩
   exact SqL.of h4
  ·rintro j y σ H4 c4 hy ⟨s4,h4,lv,w6,w7,rfl,hl4,hlv4,hll4⟩ hc4
   rw [List.getElem?_map] at hy
   cases h2:row[j]? with
   | none=>rw [h2] at hy;cases hy
   | some v =>
   rw [h2] at hy
   cases hy
   have jl:j<row.length:=(List.getElem?_eq_some_iff.mp h2).1
   have s5:=ah hc4 (.tup [.int ((1+j:Nat):Int),.int v])
   refine ⟨c4,_,rfl,SqT.of ad,rfl,_,_,rfl,_,_,rfl,rfl,?_⟩
   have hl5:=s5 _ _ hl4
   have h5:=s5 _ _ h4
   have g5:=s4.trans s5
   have hlv5:=hlv4.same s5
   generalize upd H4 c4 (.tup [.int ((1+j:Nat):Int),.int v])=H5 at s5 hl5 h5 g5 hlv5
   have ej:((1+j:Nat):Int)=1+(j:Int):=by omega
   refine ⟨_,rfl,_,rfl,rfl,_,rfl,?_⟩
   refine bP (fun c1=>?_) (fun c1=>?_)
   ·have c1':¬ 1+(j:Int)=sd:=fun e=>by
     have c1'':(!decide (V.int ((1+j:Nat):Int)=V.int sd))=true:=c1
     rw [ej,e] at c1''
     simp at c1''
    refine ⟨_,rfl,.inl ⟨rfl,_,SqL.of hl5⟩,_,rfl,_,rfl,_,rfl,_,rfl,(by show 4≤sizeLine;decide),fun tt htt=>?_⟩
    have s6:=ah htt (.tup [.int pl,.int sd,.int ((1+j:Nat):Int),.int v])
    have tl:tt≠l:=fun e=>by rw [e,hl5] at htt;cases htt
    refine ⟨l,_,_,rfl,rfl,s6 _ _ hl5,aw (by omega),?_⟩
    have rl2:ra≠l:=fun e=>by
     obtain ⟨_,_,z⟩:=hin.get hra
     rw [e,hl] at z
     cases z
    refine ⟨ao (g5.trans s6) hl,by rw [ar rl2];exact s6 _ _ h5,lv++[.ref tt],_,_,rfl,ad,?_,by rw [List.length_append];show _+1≤_;omega⟩
    rw [List.range_succ,List.filterMap_append,← List.append_assoc]
    refine LetsAt.upd (s6 _ _ hl5) (Veil.Paired.append (hlv5.same s6) ?_)
    have e:(List.filterMap (fun k:Nat=>if 1+(k:Int)=sd then none else some (pl,sd,1+(k:Int),row.getD k 0)) [j])=[(pl,sd,1+(j:Int),v)]:=by
     rw [List.filterMap_cons,if_neg c1',List.getD_eq_getElem?_getD,h2]
     rfl
    rw [e]
    refine .cons ⟨tt,rfl,?_⟩ .nil
    rw [ad,ej]
    rfl
   ·have c1':1+(j:Int)=sd:=Classical.byContradiction fun e=>c1 (by
     show (!decide (V.int ((1+j:Nat):Int)=V.int sd))=true
     rw [ej,decide_eq_false (fun z=>e (by injection z))]
     rfl)
    refine ⟨g5,h5,lv,_,_,rfl,hl5,?_,by omega⟩
    rw [List.range_succ,List.filterMap_append]
    have e:(List.filterMap (fun k:Nat=>if 1+(k:Int)=sd then none else some (pl,sd,1+(k:Int),row.getD k 0)) [j])=[]:=by
     rw [List.filterMap_cons,if_pos c1']
     rfl
    rw [e,List.append_nil]
    exact hlv5
  ·rintro σ H4 ⟨s4,h4,lv,w6,w7,rfl,hl4,hlv4,hll4⟩
   rw [List.length_map] at hlv4 hll4
   refine ⟨s4,lv,_,_,_,_,rfl,hl4,?_,by omega,by omega⟩
   rw [lz]
   exact hlv4
 ·rintro σ H2 ⟨s2,lvs,v4,v5,v6,v7,rfl,hl2,hlv,_⟩
  refine ⟨_,rfl,q l lvs H2 s2 hl hl2 ?_⟩
  have e:aH pl ss rows=aH pl (ss.take (min (ss.map V.int).length (bs.map V.ref).length)) (rows.take (min (ss.map V.int).length (bs.map V.ref).length)):=by
   unfold aH
   rw [dW,List.take_of_length_le (by rw [List.length_zip,List.length_map,List.length_map,bl];exact Nat.le_refl _)]
  rw [e]
  exact hlv
end
section
variable {P:Program}{w:World}{K:PySem.W.Frag}{mg:Str→Option Value}{base:Heap}{C CC pa:Addr}
theorem ee:aq ["self"] ["self"] (am bQ):=⟨rfl,rfl,rfl,by decide +kernel,rfl,by decide +kernel,by decide +kernel⟩
theorem pF {g:Addr}{fd:FuncData} (F:Fun K "coming_step" "Course.coming_step" bQ g fd) (B:Blt mg) (TC:CrsC K CC):gD P w K mg base CX0 1 g fd ["self"] (eI C CC):=by
 refine F.ok ee (fun vs H Q E h=>?_) (fun cdv A outer s H vs Q E hr h=>?_)
 ·obtain ⟨c,p,n,f,ss,inp,shares,z,rfl,_⟩:=h
  rfl
 obtain ⟨c,p,n,f,ss,inp,shares,z,rfl,⟨t,a,b,wa,sh,le,ws,is,shs,R⟩,hsl,hz,q⟩:=h
 obtain ⟨dx,hc⟩:=R.obj
 refine ⟨_,(af (az (aX bf (aI (pv 0) rfl) (aN aB rfl B.len PySem.boot_len (aa (aI (pv 0) rfl) ac)) (fun _ _=>rfl)))),?_⟩
 have wl:ws.length=ss.length:=Paired.length R.st
 have sl:shs.length=shares.length:=Paired.length R.hs
 have il:shares.length<ss.length:=(List.getElem?_eq_some_iff.mp hz).1
 obtain ⟨d,z',ed,hd,hz'⟩:=R.st.get (List.getElem?_eq_getElem (show shares.length<ws.length by omega))
 rw [hz] at hz'
 cases hz'
 refine ⟨_,rfl,c,CC,dx,_,_,rfl,hc,TC.cl,TC.nS,cf_a _ _ _ _ _ _,_,rfl,c,CC,dx,_,_,rfl,hc,TC.cl,TC.nH,cf_h _ _ _ _ _ _,sh,_,rfl,.inl (SqL.of R.hsh),a,_,_,.ref d,rfl,rfl,SqL.of R.ha,?_,q d H (Same.refl H) hd⟩
 rw [List.length_map,sl]
 unfold atI
 rw [show ixN ws.length (shares.length:Int)=some shares.length by simpa using nV (n:=ws.length) (k:=(shares.length:Int)) (by omega) (by omega),← ed]
 exact List.getElem?_eq_getElem (by omega)
theorem eT:aq ["self","hand"] ["self","hand"] (am bW):=⟨rfl,rfl,rfl,by decide +kernel,rfl,by decide +kernel,by decide +kernel⟩
theorem ok_own {g:Addr}{fd:FuncData} (F:Fun K "own_shares" "Course.own_shares" bW g fd) (TC:CrsC K CC):gD P w K mg base CX0 1 g fd ["self","hand"] (oU C CC):=by
 refine F.ok eT (fun vs H Q E h=>?_) (fun cdv A outer s H vs Q E hr h=>?_)
 ·obtain ⟨c,p,n,f,h,ss,inp,shares,rfl,_⟩:=h
  rfl
 obtain ⟨c,p,n,f,h,ss,inp,shares,rfl,⟨t,a,b,wa,sh,le,ws,is,shs,R⟩,hsl,S,hh,q⟩:=h
 obtain ⟨dx,hc⟩:=R.obj
 refine ⟨_,(af (az (bS ["row"] [("hand",1)]  (bL (aI (pv 0) rfl)) rfl (fun C s0 H0 ex=>by exact (au (i:=0) (show List.Nodup [("row":Str),"hand"] by decide +kernel) rfl (Or.inl rfl))) (fun C s0 H0 ex=>by exact bp) (fun C s0 H0 ex=>by exact (aX (jM K) (pv 0) (aE eC (pv 1) ak) (fun _ _=>rfl)))))),?_⟩
 have sl:shs.length=shares.length:=Paired.length R.hs
 refine ⟨_,rfl,c,CC,dx,_,_,rfl,hc,TC.cl,TC.nH,cf_h _ _ _ _ _ _,sh,rfl,⟨_,SqL.of R.hsh⟩,fun D hD=>?_⟩
 refine bF (K:=K) (a:=sh) (xs:=shs.map V.ref) (fun i ys H2=>i≤shares.length∧ys=((bD shares h).take i).map V.int∧Same H H2) ⟨Nat.zero_le _,rfl,ao (Same.refl _) hD⟩ ?_ ?_ ?_
 ·rintro i ys H2 _ ⟨_,_,s2⟩
  exact SqL.of (s2 _ _ R.hsh)
 ·rintro i y ys H2 hy ⟨hi,rfl,s2⟩ hD2
  obtain ⟨ra,rfl,hra⟩:=eu hy
  obtain ⟨row,hrow,hrr⟩:=(R.hs.same s2).get hra
  have il:i<shares.length:=(List.getElem?_eq_some_iff.mp hrow).1
  have rl:=S.l row (List.mem_of_getElem? hrow)
  refine ⟨⟨rfl,rfl⟩,?_⟩
  refine ⟨_,rfl,_,rfl,_,_,rfl,rfl,ra,_,_,.int (row.getD (h - 1).toNat 0),rfl,rfl,SqL.of hrr,fj (by omega) (by omega),?_⟩
  refine ⟨hD2,aw (by rw [List.length_map,List.length_take];omega),il,?_,ao s2 hD⟩
  have e:(bD shares h)[i]?=some (row.getD (h - 1).toNat 0):=by
   unfold bD
   rw [List.getElem?_map,hrow]
   rfl
  rw [List.take_add_one,e,List.map_append]
  rfl
 ·rintro ys H2 ⟨_,rfl,s2⟩ hD2
  rw [List.take_of_length_le (by unfold bD;rw [List.length_map,List.length_map,sl];exact Nat.le_refl _)] at hD2
  exact q D H2 s2 hD hD2
theorem own_b {p n:Int} (hp:0<p) {shares:LL} (S:ShsOk p n shares) (h:Int):∀ v∈bD shares h,0≤v∧v<p:=fun v hv=>by
 obtain ⟨r,hr,rfl⟩:=List.mem_map.mp hv
 rw [List.getD_eq_getElem?_getD]
 cases e:r[(h - 1).toNat]? with
 | none=>exact ⟨Int.le_refl _,hp⟩
 | some v=>exact S.b r hr v (List.mem_of_getElem? e)
theorem im (shares:LL) (h:Int):(bD shares h).length=shares.length:=List.length_map ..
theorem sc_Course_numbers_to_deal:aq ["self","step"] ["self"] (am bu):=⟨rfl,rfl,rfl,by decide +kernel,rfl,by decide +kernel,by decide +kernel⟩
theorem ok_nums {g:Addr}{fd:FuncData} (F:Fun K "numbers_to_deal" "Course.numbers_to_deal" bu g fd) (B:Blt mg) (T:Tab K C) (TC:CrsC K CC) (M_coming_step:MOk P w K mg base CX0 1 CC "coming_step" ["self"] (eI C CC)) (M_own_shares:MOk P w K mg base CX0 1 CC "own_shares" ["self","hand"] (oU C CC)) (O_input_at:Ok P w K mg base CX0 2 "input_at" ["steps","place","inputs"] g9) (O_dealers:Ok P w K mg base CX0 2 "dealers" ["table","step"] (cX C)) (O_reckoned:Ok P w K mg base CX0 1 "reckoned" ["table","step","before"] (eH C)):gD P w K mg base CX0 3 g fd ["self"] (lY C CC):=by
 refine F.ok sc_Course_numbers_to_deal (fun vs H Q E h=>?_) (fun cdv A outer s H vs Q E hr h=>?_)
 ·obtain ⟨c,p,n,f,ss,inp,shares,z,rfl,_⟩:=h
  rfl
 obtain ⟨c,p,n,f,ss,inp,shares,z,rfl,⟨t,a,b,wa,sh,le,ws,is,shs,R⟩,PA,S,hz,q⟩:=h
 refine ⟨_,(ae (aJ (i:=1) sc_Course_numbers_to_deal.nd rfl (Or.inr rfl) (eB M_coming_step hr (pv 0)))
  (ae (bR (aK dA (aX bO (pv 1) ak (fun _ _=>rfl)) br (aU _))
   (af (az (bw (aa (aj O_input_at hr rfl (aa (aI (pv 0) rfl) (aa (aN aB rfl B.len PySem.boot_len (aa (aI (pv 0) rfl) ac)) (aa (aI (pv 0) rfl) ac)))) ac))))
   aO)
  (ae (bR (aK dA (aX bO (pv 1) ak (fun _ _=>rfl)) br (aU _))
   (af (az (aE op_rep (bw (aa ak ac)) (aI (aI (pv 0) rfl) rfl))))
   aO)
  (af (az (bS ["hand"] [("step",1),("self",0)]  (bL (aj O_dealers hr rfl (aa (aI (pv 0) rfl) (aa (pv 1) ac)))) rfl (fun C s0 H0 ex=>by exact (au (i:=0) (show List.Nodup [("hand":Str),"step","self"] by decide +kernel) rfl (Or.inl rfl))) (fun C s0 H0 ex=>by exact bp) (fun C s0 H0 ex=>by exact (aj O_reckoned hr rfl (aa (dL K (pv 2) rfl) (aa (pv 1) (aa (fN M_own_shares hr (pv 2) (aa (pv 0) ac)) ac))))))))))),?_⟩
 have pp:=jH PA.hp
 have p31:=pp.2
 have il:shares.length<ss.length:=(List.getElem?_eq_some_iff.mp hz).1
 have hsl:=PA.len
 have hn:=PA.hn
 have Rz:=PA.R _ z hz
 have sl:shs.length=shares.length:=Paired.length R.hs
 obtain ⟨dx,hc⟩:=R.obj
 refine ⟨_,rfl,c,dx,_,rfl,hc,iY _ _ _ _ _ _ (by decide +kernel) (by decide +kernel) (by decide +kernel) (by decide +kernel) (by decide +kernel) (by decide +kernel),c,p,n,f,ss,inp,shares,z,rfl,⟨t,a,b,wa,sh,le,ws,is,shs,R⟩,by omega,hz,fun d H1 s1 hd=>?_⟩
 have R1:=R.same s1
 have hc1:=s1 _ _ hc
 refine ⟨_,rfl,d,_,_,.str z.word,rfl,rfl,SqT.of hd,z.at0,rfl,_,rfl,?_⟩
 refine bP (fun c1=>?_) (fun c1=>?_)
 ·have c1':V.str z.word=V.str "in":=of_decide_eq_true c1
  injection c1' with c1'
  cases z with
  | ein h =>
   refine ⟨_,rfl,c,CC,dx,_,_,rfl,hc1,TC.cl,TC.nS,cf_a _ _ _ _ _ _,_,rfl,c,CC,dx,_,_,rfl,hc1,TC.cl,TC.nH,cf_h _ _ _ _ _ _,sh,_,rfl,.inl (SqL.of R1.hsh),_,rfl,c,CC,dx,_,_,rfl,hc1,TC.cl,TC.nI,cf_b _ _ _ _ _ _,a,b,shares.length,h,p,n,ws,ss,is,inp,by rw [List.length_map,sl];rfl,R1.ha,R1.st,by omega,hz,R1.hb,R1.hin,PA.io,Rz,fun H2 s2=>?_⟩
   exact ⟨(by show 1≤sizeLine;decide),fun o ho=>q o _ ((s1.trans s2).trans (ah ho _)) ((s1.trans s2).free ho) ad⟩
  | _=>exact absurd c1' (by simp only [Stp.word];decide +kernel)
 have hne:∀ h,z≠.ein h:=fun h e=>by
  subst e
  exact c1 (decide_eq_true rfl)
 refine ⟨_,rfl,d,_,_,.str z.word,rfl,rfl,SqT.of hd,z.at0,rfl,_,rfl,?_⟩
 obtain ⟨dt,ht⟩:=R1.tab
 refine bP (fun c2=>?_) (fun c2=>?_)
 ·have c2':V.str z.word=V.str "anew":=of_decide_eq_true c2
  injection c2' with c2'
  cases z with
  | anew a1 =>
   refine ⟨(by show 1≤sizeLine;decide),fun o1 ho1=>?_⟩
   have s2:=ah ho1 (.lst [.int 0])
   refine ⟨_,rfl,c,CC,dx,_,_,rfl,s2 _ _ hc1,TC.cl,TC.nT,oB _ _ _ _ _ _,t,C,dt,_,_,rfl,s2 _ _ ht,T.cl,T.nH,oP _ _ _,o1,n,_,rfl,rfl,ad,by omega,by omega,small (by show 1*_≤1000;omega),fun o2 ho2=>?_⟩
   refine q o2 _ ((s1.trans s2).trans (ah ho2 _)) ((s1.trans s2).free ho2) ?_
   rw [ad]
   show _=some (HO.lst ((List.replicate n.toNat (0:Int)).map V.int))
   have fl:∀ k:Nat,(List.replicate k [V.int 0]).flatten=(List.replicate k (0:Int)).map V.int:=fun k=>by
    induction k with
    | zero=>rfl
    | succ k ih=>rw [List.replicate_succ,List.flatten_cons,ih];rfl
   rw [fl]
  | _=>exact absurd c2' (by simp only [Stp.word];decide +kernel)
 have hna:∀ a1,z≠.anew a1:=fun a1 e=>by
  subst e
  exact c2 (decide_eq_true rfl)
 have eN:bA p n ss inp shares z=(z.dealers n).map fun h=>recV p (bD shares h) z:=by
  cases z with
  | ein h=>exact absurd rfl (hne h)
  | anew a1=>exact absurd rfl (hna a1)
  | _=>rfl
 rw [eN] at q
 refine ⟨_,rfl,c,CC,dx,_,_,rfl,hc1,TC.cl,TC.nT,oB _ _ _ _ _ _,_,rfl,t,d,p,n,f,z,rfl,⟨dt,ht⟩,by omega,hd,fun da H2 s2 hda0 hda=>?_⟩
 have s12:=s1.trans s2
 have dl:=cy (n:=n) (by omega) (by omega) z
 have db:∀ h∈z.dealers n,1≤h∧h≤n:=fun h hh=>by
  have hands:∀ h∈aZ n,1≤h∧h≤n:=fun h hh=>by
   unfold aZ dw at hh
   obtain ⟨i,hi,rfl⟩:=List.mem_map.mp hh
   have:=List.mem_range.mp hi
   omega
  cases z with
  | ein h'=>exact absurd rfl (hne h')
  | mul a1 b1=>exact hands h hh
  | anew a1=>exact hands h hh
  | _=>cases hh
 refine ⟨da,rfl,⟨_,SqL.of hda⟩,fun D hD=>?_⟩
 refine bF (K:=K) (a:=da) (xs:=(z.dealers n).map V.int) (fun i ys H3=>i≤(z.dealers n).length∧ys=(((z.dealers n).take i).map fun h=>recV p (bD shares h) z).map V.int∧Same H2 H3) ⟨Nat.zero_le _,rfl,ao (Same.refl _) hD⟩ ?_ ?_ ?_
 ·rintro i ys H3 _ ⟨_,_,s3⟩
  exact SqL.of (s3 _ _ hda)
 ·rintro i y ys H3 hy ⟨hi,rfl,s3⟩ hD3
  rw [List.getElem?_map] at hy
  cases hv:(z.dealers n)[i]? with
  | none=>rw [hv] at hy;cases hy
  | some h =>
  rw [hv] at hy
  cases hy
  have ii:i<(z.dealers n).length:=(List.getElem?_eq_some_iff.mp hv).1
  have R3:=R1.same (s2.trans s3)
  have hb:=db h (List.mem_of_getElem? hv)
  refine ⟨⟨rfl,rfl⟩,?_⟩
  refine ⟨_,rfl,c,CC,dx,_,_,rfl,(s2.trans s3) _ _ hc1,TC.cl,TC.nT,oB _ _ _ _ _ _,_,rfl,_,rfl,c,dx,_,rfl,(s2.trans s3) _ _ hc1,iY _ _ _ _ _ _ (by decide +kernel) (by decide +kernel) (by decide +kernel) (by decide +kernel) (by decide +kernel) (by decide +kernel),_,rfl,c,p,n,f,h,ss,inp,shares,rfl,⟨t,a,b,wa,sh,le,ws,is,shs,R3⟩,by omega,S,hb,fun oa H4 s4 hoa0 hoa=>?_⟩
  have R4:=R3.same s4
  refine ⟨t,d,oa,p,n,f,z,bD shares h,rfl,R4.tab,⟨by omega,p31⟩,(s2.trans (s3.trans s4)) _ _ hd,hoa,by rw [im];exact Rz,hne,own_b (by omega) S h,fun H5 s5=>?_⟩
  refine ⟨(s4.trans s5) _ _ hD3,aw (by rw [List.length_map,List.length_map,List.length_take];omega),ii,?_,ao (s3.trans (s4.trans s5)) hD⟩
  rw [List.take_add_one,hv,List.map_append,List.map_append]
  rfl
 ·rintro ys H3 ⟨_,rfl,s3⟩ hD3
  rw [List.length_map,List.take_length] at hD3
  exact q D H3 (s12.trans s3) (s12.free hD) hD3
end
section
variable {P:Program}{w:World}{K:PySem.W.Frag}{mg:Str→Option Value}{base:Heap}{C CC pa:Addr}
theorem sc_Course_new_share:aq ["self","hand","rows","step","got","old"] ["self","hand","rows"] (am cg):=⟨rfl,rfl,rfl,by decide +kernel,rfl,by decide +kernel,by decide +kernel⟩
theorem ok_newsh {g:Addr}{fd:FuncData} (F:Fun K "new_share" "Course.new_share" cg g fd) (B:Blt mg) (T:Tab K C) (TC:CrsC K CC) (M_coming_step:MOk P w K mg base CX0 1 CC "coming_step" ["self"] (eI C CC)) (M_own_shares:MOk P w K mg base CX0 1 CC "own_shares" ["self","hand"] (oU C CC)) (O_weighed:Ok P w K mg base CX0 1 "weighed" ["table","parts","numbers"] (fB C)) (O_reckoned:Ok P w K mg base CX0 1 "reckoned" ["table","step","before"] (eH C)):gD P w K mg base CX0 2 g fd ["self","hand","rows"] (jr C CC):=by
 refine F.ok sc_Course_new_share (fun vs H Q E h=>?_) (fun cdv A outer s H vs Q E hr h=>?_)
 ·obtain ⟨c,ra,p,n,f,h,ss,inp,shares,rows,z,rs,rfl,_⟩:=h
  rfl
 obtain ⟨c,ra,p,n,f,h,ss,inp,shares,rows,z,rs,rfl,⟨t,a,b,wa,sh,le,ws,is,shs,R⟩,PA,S,hz,hra,hin,Sr,hrl,hh,q⟩:=h
 refine ⟨_,(ae (aJ (i:=3) sc_Course_new_share.nd rfl (Or.inl rfl) (eB M_coming_step hr (pv 0)))
  (ae (bY 4 ["row"] [("hand",1)] sc_Course_new_share.nd  (bL (pv 2)) rfl (fun C s0 H0 ex=>by exact (au (i:=0) (show List.Nodup [("row":Str),"hand"] by decide +kernel) rfl (Or.inl rfl))) (fun C s0 H0 ex=>by exact bp) (fun C s0 H0 ex=>by exact (aX (jM K) (pv 0) (aE eC (pv 1) ak) (fun _ _=>rfl))))
  (ae (bR (aK dA (aX bO (pv 3) ak (fun _ _=>rfl)) br (aU _))
   (af (az (aX bf (pv 4) ak (fun _ _=>rfl))))
   aO)
  (ae (bR (aK dA (aX bO (pv 3) ak (fun _ _=>rfl)) br (aU _))
   (af (az (aj O_weighed hr rfl (aa (aI (pv 0) rfl) (aa (aI (pv 0) rfl) (aa (pv 4) ac))))))
   aO)
  (ae (aJ (i:=5) sc_Course_new_share.nd rfl (Or.inl rfl) (aj O_reckoned hr rfl (aa (aI (pv 0) rfl) (aa (pv 3) (aa (fN M_own_shares hr (pv 0) (aa (pv 1) ac)) ac)))))
  (af (az (aE bZ (aE bM (pv 5) (aN (iG rfl) rfl B.sum PyProof.Rows.boot_sum (aa (pv 4) ac))) (aI (aI (pv 0) rfl) rfl))))))))),?_⟩
 have pp:=jH PA.hp
 have il:shares.length<ss.length:=(List.getElem?_eq_some_iff.mp hz).1
 have hsl:=PA.len
 have hn:=PA.hn
 have Rz:=PA.R _ z hz
 have dl:=cy (n:=n) (by omega) (by omega) z
 have rsl:rs.length=rows.length:=Paired.length hin
 obtain ⟨dx,hc⟩:=R.obj
 refine ⟨_,rfl,c,dx,_,rfl,hc,iY _ _ _ _ _ _ (by decide +kernel) (by decide +kernel) (by decide +kernel) (by decide +kernel) (by decide +kernel) (by decide +kernel),c,p,n,f,ss,inp,shares,z,rfl,⟨t,a,b,wa,sh,le,ws,is,shs,R⟩,by omega,hz,fun d H1 s1 hd=>?_⟩
 refine ⟨_,rfl,ra,rfl,⟨_,SqL.of (s1 _ _ hra)⟩,fun D hD=>?_⟩
 refine bF (K:=K) (a:=ra) (xs:=rs.map V.ref) (fun i ys H2=>i≤rows.length∧ys=((bD rows h).take i).map V.int∧Same H1 H2) ⟨Nat.zero_le _,rfl,ao (Same.refl _) hD⟩ ?_ ?_ ?_
 ·rintro i ys H2 _ ⟨_,_,s2⟩
  exact SqL.of ((s1.trans s2) _ _ hra)
 ·rintro i y ys H2 hy ⟨hi,rfl,s2⟩ hD2
  obtain ⟨oa,rfl,hoa⟩:=eu hy
  obtain ⟨row,hrow,hrr⟩:=(hin.same (s1.trans s2)).get hoa
  have ii:i<rows.length:=(List.getElem?_eq_some_iff.mp hrow).1
  have rl:=Sr.l row (List.mem_of_getElem? hrow)
  refine ⟨⟨rfl,rfl⟩,?_⟩
  refine ⟨_,rfl,_,rfl,_,_,rfl,rfl,oa,_,_,.int (row.getD (h - 1).toNat 0),rfl,rfl,SqL.of hrr,fj (by omega) (by omega),?_⟩
  refine ⟨hD2,aw (by rw [List.length_map,List.length_take];omega),ii,?_,ao s2 hD⟩
  have e:(bD rows h)[i]?=some (row.getD (h - 1).toNat 0):=by
   unfold bD
   rw [List.getElem?_map,hrow]
   rfl
  rw [List.take_add_one,e,List.map_append]
  rfl
 rintro ys H2 ⟨_,rfl,s2⟩ hD2
 rw [List.take_of_length_le (by rw [im,List.length_map,rsl];exact Nat.le_refl _)] at hD2
 have g2:=s1.trans s2
 have R2:=R.same g2
 have hc2:=g2 _ _ hc
 have hd2:=s2 _ _ hd
 have gb:=own_b (by omega) Sr h
 refine ⟨_,rfl,d,_,_,.str z.word,rfl,rfl,SqT.of hd2,z.at0,rfl,_,rfl,?_⟩
 refine bP (fun c1=>?_) (fun c1=>?_)
 ·have c1':V.str z.word=V.str "in":=of_decide_eq_true c1
  injection c1' with c1'
  cases z with
  | ein h' =>
   have hl1:(bD rows h).length=1:=by rw [im,hrl];rfl
   cases eo:bD rows h with
   | nil=>rw [eo] at hl1;cases hl1
   | cons v r =>
    have er:r=[]:=by
     rw [eo] at hl1
     cases r with
     | nil=>rfl
     | cons x y=>simp at hl1
    refine ⟨_,rfl,D,_,_,.int v,rfl,rfl,SqL.of hD2,by rw [eo,er];rfl,?_⟩
    have:=q H2 g2
    rw [show iX p n shares rows (.ein h') h=v by show (bD rows h).headD 0=v;rw [eo];rfl] at this
    exact this
  | _=>exact absurd c1' (by simp only [Stp.word];decide +kernel)
 have hne:∀ h,z≠.ein h:=fun h e=>by
  subst e
  exact c1 (decide_eq_true rfl)
 refine ⟨_,rfl,d,_,_,.str z.word,rfl,rfl,SqT.of hd2,z.at0,rfl,_,rfl,?_⟩
 refine bP (fun c2=>?_) (fun c2=>?_)
 ·have c2':V.str z.word=V.str "mul":=of_decide_eq_true c2
  injection c2' with c2'
  cases z with
  | mul a1 b1 =>
   have wk:=ws_ok PA.hp (n:=n.toNat) (by omega) (by omega) (by have:=PA.np;omega)
   exact ⟨_,rfl,c,CC,dx,_,_,rfl,hc2,TC.cl,TC.nT,oB _ _ _ _ _ _,_,rfl,c,CC,dx,_,_,rfl,hc2,TC.cl,TC.nP,cf_w _ _ _ _ _ _,_,rfl,t,wa,D,p,n,f,aV p n.toNat,bD rows h,rfl,R2.tab,⟨by omega,pp.2⟩,R2.hw,hD2,by rw [dX];omega,wk.2,gb,fun H3 s3=>q H3 (g2.trans s3)⟩
  | _=>exact absurd c2' (by simp only [Stp.word];decide +kernel)
 have hnm:∀ a1 b1,z≠.mul a1 b1:=fun a1 b1 e=>by
  subst e
  exact c2 (decide_eq_true rfl)
 have eN:iX p n shares rows z h=(recV p (bD shares h) z+(bD rows h).sum)%p:=by
  cases z with
  | ein h'=>exact absurd rfl (hne h')
  | mul a1 b1=>exact absurd rfl (hnm a1 b1)
  | _=>rfl
 rw [eN] at q
 refine ⟨_,rfl,c,CC,dx,_,_,rfl,hc2,TC.cl,TC.nT,oB _ _ _ _ _ _,_,rfl,_,rfl,c,dx,_,rfl,hc2,iY _ _ _ _ _ _ (by decide +kernel) (by decide +kernel) (by decide +kernel) (by decide +kernel) (by decide +kernel) (by decide +kernel),_,rfl,c,p,n,f,h,ss,inp,shares,rfl,⟨t,a,b,wa,sh,le,ws,is,shs,R2⟩,by omega,S,hh,fun oa H3 s3 hoa0 hoa=>?_⟩
 have R3:=R2.same s3
 refine ⟨t,d,oa,p,n,f,z,bD shares h,rfl,R3.tab,⟨by omega,pp.2⟩,s3 _ _ hd2,hoa,by rw [im];exact Rz,hne,own_b (by omega) S h,fun H4 s4=>?_⟩
 have s24:=s3.trans s4
 obtain ⟨dt,ht⟩:=(R2.same s24).tab
 refine ⟨_,rfl,_,rfl,D,_,rfl,SqL.of (s24 _ _ hD2),by rw [im,hrl];omega,fun v hv=>⟨(gb v hv).1,by have:=(gb v hv).2;omega⟩,_,_,rfl,rfl,?_⟩
 exact ⟨_,rfl,c,CC,dx,_,_,rfl,s24 _ _ hc2,TC.cl,TC.nT,oB _ _ _ _ _ _,t,C,dt,_,_,rfl,ht,T.cl,T.nP,kR _ _ _,_,_,rfl,rfl,by omega,q H4 (g2.trans s24)⟩
theorem sc_Course_send_letters:aq ["self","step","made","rows","place","told"] ["self","step","made","rows"] (am bK):=⟨rfl,rfl,rfl,by decide +kernel,rfl,by decide +kernel,by decide +kernel⟩
theorem ok_send {g:Addr}{fd:FuncData} (F:Fun K "send_letters" "Course.send_letters" bK g fd) (B:Blt mg) (T:Tab K C) (TC:CrsC K CC) (O_letters_of:Ok P w K mg base CX0 1 "letters_of" ["place","senders","rows"] eY) (O_all_hands:Ok P w K mg base CX0 1 "all_hands" ["table"] (du C)) (O_dealers:Ok P w K mg base CX0 2 "dealers" ["table","step"] (cX C)):gD P w K mg base CX0 3 g fd ["self","step","made","rows"] (lX C CC):=by
 refine F.ok sc_Course_send_letters (fun vs H Q E h=>?_) (fun cdv A outer s H vs Q E hr h=>?_)
 ·obtain ⟨c,d,ma,ra,le,p,n,f,ss,inp,shares,rows,z,rs,made,lvs,lets,t,a,b,wa,sh,ws,is,shs,rfl,_⟩:=h
  rfl
 obtain ⟨c,d,ma,ra,le,p,n,f,ss,inp,shares,rows,z,rs,made,lvs,lets,t,a,b,wa,sh,ws,is,shs,rfl,R,PA,hs24,hd,hma,hml,hra,hin,hrl,hle,hlv,hll,q⟩:=h
 refine ⟨_,(ae (aJ (i:=4) sc_Course_send_letters.nd rfl (Or.inl rfl) (aN aB rfl B.len PySem.boot_len (aa (aI (pv 0) rfl) ac)))
  (af (bR (aK dA (aX bO (pv 1) ak (fun _ _=>rfl)) br (aU _))
   (ae (bY 5 ["share"] [("self",0)] sc_Course_send_letters.nd  (bL (pv 2)) rfl (fun C s0 H0 ex=>by exact (au (i:=0) (show List.Nodup [("share":Str),"self"] by decide +kernel) rfl (Or.inl rfl))) (fun C s0 H0 ex=>by exact bp) (fun C s0 H0 ex=>by exact (aE op_rep (bw (aa (pv 0) ac)) (dL K (dL K (pv 1) rfl) rfl))))
  (af (bv (gy PySem.F.plainAttrs_list PySem.F.slot_list_extend PySem.F.type_list_extend iu (aI (pv 0) rfl) (aa (aj O_letters_of hr rfl (aa (pv 4) (aa (aj O_all_hands hr rfl (aa (aI (pv 0) rfl) ac)) (aa (pv 5) ac)))) ac)))))
   (af (bv (gy PySem.F.plainAttrs_list PySem.F.slot_list_extend PySem.F.type_list_extend iu (aI (pv 0) rfl) (aa (aj O_letters_of hr rfl (aa (pv 4) (aa (aj O_dealers hr rfl (aa (aI (pv 0) rfl) (aa (pv 1) ac))) (aa (pv 3) ac)))) ac))))))),?_⟩
 have hn:=PA.hn
 have sl:shs.length=shares.length:=Paired.length R.hs
 obtain ⟨dx,hc⟩:=R.obj
 have fin:∀ (l2:List V) (o:Addr) (H2:Hp) (ls:List fS),Same H H2→H2 o=some (.lst l2)→LetsAt H2 l2 ls→ls.length≤1000→jK p n (shares.length:Int) made rows z=ls→(∃ (l b:Addr) (xs zs:List V),(V.ref le)=.ref l∧[V.ref o]=[.ref b]∧H2 l=some (.lst xs)∧H2 b=some (.lst zs)∧xs.length+zs.length≤sizeLine∧Q .non (upd H2 l (.lst (xs++zs)))):=fun l2 o H2 ls s2 ho hl2 hln e=>by
  have ll:=Paired.length hlv
  have ll2:=Paired.length hl2
  refine ⟨le,o,lvs,l2,rfl,rfl,s2 _ _ hle,ho,?_,?_⟩
  ·have:(11000:Nat)≤sizeLine:=by decide
   omega
  ·refine q _ _ (fun x u hx hn=>?_) ad ?_
   ·rw [ar (fun e=>hn (by rw [e];exact List.mem_singleton.mpr rfl))]
    exact s2 _ _ hx
   ·rw [e]
    exact LetsAt.upd (s2 _ _ hle) (Veil.Paired.append (hlv.same s2) hl2)
 have sent_le:∀ (pl s:Int) (r:List Int),(gu pl s r).length≤r.length:=fun pl s r=>by
  unfold gu
  refine Nat.le_trans (List.length_filterMap_le _ _) ?_
  rw [List.length_range]
  exact Nat.le_refl _
 have letl:∀ (pl:Int) (sd:List Int) (rw_:LL),(∀ r∈rw_,r.length≤10)→(aH pl sd rw_).length≤10*sd.length:=fun pl sd=>by
  induction sd with
  | nil=>intro rw_ _;simp [aH]
  | cons s r ih =>
   intro rw_ hb
   cases rw_ with
   | nil=>simp [aH]
   | cons x y =>
    have:=ih y fun r hr=>hb r (List.mem_cons_of_mem _ hr)
    have h2:=sent_le pl s x
    have h3:=hb x List.mem_cons_self
    unfold aH at this ⊢
    rw [List.zip_cons_cons,List.map_cons,List.flatten_cons,List.length_append,List.length_cons]
    show (gu pl s x).length+_≤_
    omega
 refine ⟨_,rfl,c,CC,dx,_,_,rfl,hc,TC.cl,TC.nH,cf_h _ _ _ _ _ _,sh,_,rfl,.inl (SqL.of R.hsh),?_⟩
 rw [List.length_map,sl]
 refine ⟨_,rfl,d,_,_,.str z.word,rfl,rfl,SqT.of hd,z.at0,rfl,_,rfl,?_⟩
 refine bP (fun c1=>?_) (fun c1=>?_)
 ·have c1':V.str z.word=V.str "open":=of_decide_eq_true c1
  injection c1' with c1'
  cases z with
  | opn a1 =>
   refine ⟨_,rfl,ma,rfl,⟨_,SqL.of hma⟩,fun D hD=>?_⟩
   refine bF (K:=K) (a:=ma) (xs:=made.map V.int) (fun i ys H2=>i≤made.length∧Same H H2∧∃ ds:List Addr,ys=ds.map V.ref∧InsAt H2 ds ((made.take i).map fun v=>List.replicate n.toNat v)∧D∉ds) ⟨Nat.zero_le _,ao (Same.refl _) hD,[],rfl,.nil,(fun h=>nomatch h)⟩ ?_ ?_ ?_
   ·rintro i ys H2 _ ⟨_,s2,_⟩
    exact SqL.of (s2 _ _ hma)
   ·rintro i y ys H2 hy ⟨hi,s2,ds,rfl,hds,hDd⟩ hD2
    rw [List.getElem?_map] at hy
    cases hv:made[i]? with
    | none=>rw [hv] at hy;cases hy
    | some v =>
    rw [hv] at hy
    cases hy
    have ii:i<made.length:=(List.getElem?_eq_some_iff.mp hv).1
    have dl:ds.length=i:=by rw [Paired.length hds,List.length_map,List.length_take];omega
    obtain ⟨dt,ht⟩:=(R.same s2).tab
    refine ⟨⟨rfl,rfl⟩,?_⟩
    refine ⟨_,rfl,(by show 1≤sizeLine;decide),fun o1 ho1=>?_⟩
    have s3:=ah ho1 (.lst [.int v])
    refine ⟨_,rfl,c,CC,dx,_,_,rfl,s3 _ _ (s2 _ _ hc),TC.cl,TC.nT,oB _ _ _ _ _ _,t,C,dt,_,_,rfl,s3 _ _ ht,T.cl,T.nH,oP _ _ _,o1,n,_,rfl,rfl,ad,by omega,by omega,small (by show 1*_≤1000;omega),fun o2 ho2=>?_⟩
    have fl:∀ k:Nat,(List.replicate k [V.int v]).flatten=(List.replicate k v).map V.int:=fun k=>by
     induction k with
     | zero=>rfl
     | succ k ih=>rw [List.replicate_succ,List.flatten_cons,ih];rfl
    rw [fl]
    have s4:=ah ho2 (.lst ((List.replicate n.toNat v).map V.int))
    have s34:=s3.trans s4
    have oD:o2≠D:=fun e=>by rw [e,s3 _ _ hD2] at ho2;cases ho2
    have nD:D∉ds++[o2]:=fun h=>by
     rcases List.mem_append.mp h with h | h
     ·exact hDd h
     ·exact oD (List.mem_singleton.mp h).symm
    refine ⟨s34 _ _ hD2,aw (by rw [List.length_map];omega),ii,ao (s2.trans s34) hD,ds++[o2],by rw [List.map_append];rfl,?_,nD⟩
    rw [List.take_add_one,hv,List.map_append]
    exact InsAt.off (InsAt.snoc (hds.same s34) ad) nD
   rintro ys H2 ⟨_,s2,ds,rfl,hds,hDd⟩ hD2
   rw [List.length_map,List.take_length] at hds
   have R2:=R.same s2
   have hc2:=s2 _ _ hc
   refine ⟨_,rfl,c,CC,dx,_,_,rfl,hc2,TC.cl,TC.nL,cf_l _ _ _ _ _ _,.inl ⟨rfl,_,SqL.of (s2 _ _ hle)⟩,_,rfl,_,rfl,c,CC,dx,_,_,rfl,hc2,TC.cl,TC.nT,oB _ _ _ _ _ _,t,p,n,f,rfl,R2.tab,by omega,fun ha' H3 s3 hha0 hha=>?_⟩
   have hdn:∀ r∈made.map fun v=>List.replicate n.toNat v,r.length≤10:=fun r hr=>by
    obtain ⟨v,_,rfl⟩:=List.mem_map.mp hr
    rw [List.length_replicate]
    omega
   refine ⟨_,rfl,ha',D,_,aZ n,ds,_,rfl,hha,by rw [bB];omega,s3 _ _ hD2,hds.same s3,hdn,fun o l2 H4 s4 ho0 ho hl2=>?_⟩
   exact fin l2 o H4 _ (s2.trans (s3.trans s4)) ho hl2 (by have:=letl (shares.length:Int) (aZ n) _ hdn;rw [bB] at this;omega) rfl
  | _=>exact absurd c1' (by simp only [Stp.word];decide +kernel)
 have hno:∀ a1,z≠.opn a1:=fun a1 e=>by
  subst e
  exact c1 (decide_eq_true rfl)
 have eL:jK p n (shares.length:Int) made rows z=aH (shares.length:Int) (z.dealers n) rows:=by
  cases z with
  | opn a1=>exact absurd rfl (hno a1)
  | _=>rfl
 have dl:=cy (n:=n) (by omega) (by omega) z
 refine ⟨_,rfl,c,CC,dx,_,_,rfl,hc,TC.cl,TC.nL,cf_l _ _ _ _ _ _,.inl ⟨rfl,_,SqL.of hle⟩,_,rfl,_,rfl,c,CC,dx,_,_,rfl,hc,TC.cl,TC.nT,oB _ _ _ _ _ _,_,rfl,t,d,p,n,f,z,rfl,R.tab,by omega,hd,fun da H2 s2 hda0 hda=>?_⟩
 have hrn:∀ r∈rows,r.length≤10:=fun r hr=>by have:=hrl r hr;omega
 refine ⟨_,rfl,da,ra,_,z.dealers n,rs,rows,rfl,hda,dl,s2 _ _ hra,hin.same s2,hrn,fun o l2 H3 s3 ho0 ho hl2=>?_⟩
 exact fin l2 o H3 _ (s2.trans s3) ho hl2 (by have:=letl (shares.length:Int) (z.dealers n) rows hrn;omega) eL
end
section
variable {P:Program}{w:World}{K:PySem.W.Frag}{mg:Str→Option Value}{base:Heap}{C CC pa:Addr}
theorem sc_Course_go_on:aq ["self","chance_rows","rows","made"] ["self","chance_rows"] (am dm):=⟨rfl,rfl,rfl,by decide +kernel,rfl,by decide +kernel,by decide +kernel⟩
theorem ok_go {g:Addr}{fd:FuncData} (F:Fun K "go_on" "Course.go_on" dm g fd) (B:Blt mg) (T:Tab K C) (TC:CrsC K CC) (M_coming_step:MOk P w K mg base CX0 1 CC "coming_step" ["self"] (eI C CC)) (M_numbers_to_deal:MOk P w K mg base CX0 3 CC "numbers_to_deal" ["self"] (lY C CC)) (M_new_share:MOk P w K mg base CX0 2 CC "new_share" ["self","hand","rows"] (jr C CC)) (M_send_letters:MOk P w K mg base CX0 3 CC "send_letters" ["self","step","made","rows"] (lX C CC)) (O_dealt:Ok P w K mg base CX0 2 "dealt" ["table","number","chance"] (kT C)) (O_all_hands:Ok P w K mg base CX0 1 "all_hands" ["table"] (du C)):gD P w K mg base CX0 4 g fd ["self","chance_rows"] (spGo C CC):=by
 refine F.ok sc_Course_go_on (fun vs H Q E h=>?_) (fun cdv A outer s H vs Q E hr h=>?_)
 ·obtain ⟨c,ca,le,p,n,f,ss,inp,shares,crows,z,cs,lvs,lets,t,a,b,wa,sh,ws,is,shs,rfl,_⟩:=h
  rfl
 obtain ⟨c,ca,le,p,n,f,ss,inp,shares,crows,z,cs,lvs,lets,t,a,b,wa,sh,ws,is,shs,rfl,R,D0,PA,S,hz,hca,hcs,hcl,hcb,hle,hlv,hll,q⟩:=h
 have pp:=jH PA.hp
 have hn:=PA.hn
 have np:=PA.np
 have hsl:=PA.len
 have il:shares.length<ss.length:=(List.getElem?_eq_some_iff.mp hz).1
 have dl:=cy (n:=n) (by omega) (by omega) z
 have csl:cs.length=crows.length:=Paired.length hcs
 have nl:=cQ (p:=p) (n:=n) (by omega) ss inp shares z
 obtain ⟨dx,hc⟩:=R.obj
 refine aP (aJ (i:=2) sc_Course_go_on.nd rfl (Or.inr rfl) (bS ["number","row"] [("self",0)]  (ig rfl B.zip (aa (eB M_numbers_to_deal hr (pv 0)) (aa (pv 1) ac))) rfl (fun C s0 H0 ex=>by exact (fV K 2 rfl (aL (au (i:=0) (show List.Nodup [("number":Str),"row","self"] by decide +kernel) rfl (Or.inl rfl)) (aL (au (i:=1) (show List.Nodup [("number":Str),"row","self"] by decide +kernel) rfl (Or.inl rfl)) cv)))) (fun C s0 H0 ex=>by exact bp) (fun C s0 H0 ex=>by exact (aj O_dealt hr rfl (aa (dL K (pv 2) rfl) (aa (pv 0) (aa (pv 1) ac))))))) fun u hu=>?_
 refine ⟨_,rfl,c,dx,_,rfl,hc,iY _ _ _ _ _ _ (by decide +kernel) (by decide +kernel) (by decide +kernel) (by decide +kernel) (by decide +kernel) (by decide +kernel),c,p,n,f,ss,inp,shares,z,rfl,⟨t,a,b,wa,sh,le,ws,is,shs,R⟩,PA,S,hz,fun na H1 s1 hna0 hna=>?_⟩
 refine ⟨_,rfl,na,ca,_,_,rfl,SqL.of hna,SqL.of (s1 _ _ hca),fun ra hra0=>?_⟩
 refine gQ (K:=K) (a:=na) (b:=ca) (xs:=(bA p n ss inp shares z).map V.int) (zs:=cs.map V.ref) (fun i ys H2=>i≤(z.dealers n).length∧Same H1 H2∧∃ ds:List Addr,ys=ds.map V.ref∧InsAt H2 ds ((aR p n ss inp shares crows z).take i)∧ra∉ds) ⟨Nat.zero_le _,ao (Same.refl _) hra0,[],rfl,.nil,(fun h=>nomatch h)⟩ ?_ ?_ ?_
 ·rintro i ys H2 ⟨_,s2,_⟩
  exact ⟨SqL.of (s2 _ _ hna),SqL.of ((s1.trans s2) _ _ hca)⟩
 ·rintro i x y ys H2 cc ex ey ⟨hi,s2,ds,rfl,hds,hrd⟩ hD2 hcc
  rw [List.getElem?_map] at ex
  cases h1:(bA p n ss inp shares z)[i]? with
  | none=>rw [h1] at ex;cases ex
  | some x1 =>
  rw [h1] at ex
  cases ex
  obtain ⟨oa,rfl,hoa⟩:=eu ey
  obtain ⟨row,hrow,hrr⟩:=(hcs.same (s1.trans s2)).get hoa
  have ii:i<(z.dealers n).length:=by rw [← nl];exact (List.getElem?_eq_some_iff.mp h1).1
  have dsl:ds.length≤10:=by rw [Paired.length hds,List.length_take];omega
  have s3:=ah hcc (.tup [.int x1,.ref oa])
  refine ⟨cc,_,rfl,SqT.of ad,rfl,_,_,rfl,_,_,rfl,rfl,⟨rfl,rfl⟩,?_⟩
  have R3:=R.same (s1.trans (s2.trans s3))
  refine ⟨_,rfl,c,CC,dx,_,_,rfl,(s1.trans (s2.trans s3)) _ _ hc,TC.cl,TC.nT,oB _ _ _ _ _ _,_,rfl,_,rfl,t,oa,p,n,f,x1,row,rfl,R3.tab,by omega,pp.2,by omega,by omega,s3 _ _ hrr,hcb row (List.mem_of_getElem? hrow),fun o H4 s4 ho0 ho=>?_⟩
  have s34:=s3.trans s4
  have oR:o≠ra:=fun e=>by rw [e,s3 _ _ hD2] at ho0;cases ho0
  have nD:ra∉ds++[o]:=fun h=>by
   rcases List.mem_append.mp h with h | h
   ·exact hrd h
   ·exact oR (List.mem_singleton.mp h).symm
  refine ⟨s34 _ _ hD2,aw (by rw [List.length_map];omega),ii,ao (s2.trans s34) hra0,ds++[o],by rw [List.map_append];rfl,?_,nD⟩
  have e:(aR p n ss inp shares crows z)[i]?=some (b6 p n.toNat x1 row):=by
   unfold aR
   rw [List.getElem?_zipWith,h1,hrow]
  rw [List.take_add_one,e]
  exact InsAt.off (InsAt.snoc (hds.same s34) ho) nD
 rintro ys H2 ⟨_,s2,rs,rfl,hrs,hrr⟩ hra
 refine hu _ _ ?_
 have rlen:=rows_len (p:=p) (n:=n) (by omega) (ss:=ss) (inp:=inp) (shares:=shares) hcl
 rw [List.take_of_length_le (by rw [rlen,List.length_map,List.length_map,nl,csl,hcl];omega)] at hrs
 have Sr:=e6 (p:=p) (n:=n) (by omega) ss inp shares crows z
 generalize aR p n ss inp shares crows z=rows at hrs rlen Sr q
 have g2:=s1.trans s2
 have R2:=R.same g2
 have hc2:=g2 _ _ hc
 refine aP (bY 3 ["hand"] [("rows",2),("self",0)] sc_Course_go_on.nd  (bL (aj O_all_hands hr rfl (aa (aI (pv 0) rfl) ac))) rfl (fun C s0 H0 ex=>by exact (au (i:=0) (show List.Nodup [("hand":Str),"rows","self"] by decide +kernel) rfl (Or.inl rfl))) (fun C s0 H0 ex=>by exact bp) (fun C s0 H0 ex=>by exact (fN M_new_share hr (pv 2) (aa (pv 0) (aa (pv 1) ac))))) fun u hu=>?_
 refine ⟨_,rfl,c,CC,dx,_,_,rfl,hc2,TC.cl,TC.nT,oB _ _ _ _ _ _,t,p,n,f,rfl,R2.tab,by omega,fun ha' H3 s3 hha0 hha=>?_⟩
 refine ⟨ha',rfl,⟨_,SqL.of hha⟩,fun ma hma0=>?_⟩
 refine bF (K:=K) (a:=ha') (xs:=(aZ n).map V.int) (fun i ys H4=>i≤n.toNat∧ys=(((aZ n).take i).map fun h=>iX p n shares rows z h).map V.int∧Same H3 H4) ⟨Nat.zero_le _,rfl,ao (Same.refl _) hma0⟩ ?_ ?_ ?_
 ·rintro i ys H4 _ ⟨_,_,s4⟩
  exact SqL.of (s4 _ _ hha)
 ·rintro i y ys H4 hy ⟨hi,rfl,s4⟩ hD4
  rw [List.getElem?_map] at hy
  cases hv:(aZ n)[i]? with
  | none=>rw [hv] at hy;cases hy
  | some h =>
  rw [hv] at hy
  cases hy
  have ii:i<n.toNat:=by rw [← bB];exact (List.getElem?_eq_some_iff.mp hv).1
  have hb:1≤h∧h≤n:=by
   have hm:=List.mem_of_getElem? hv
   unfold aZ dw at hm
   obtain ⟨k,hk,rfl⟩:=List.mem_map.mp hm
   have:=List.mem_range.mp hk
   omega
  have s34:=s3.trans s4
  refine ⟨⟨rfl,rfl⟩,?_⟩
  refine ⟨_,rfl,c,dx,_,rfl,s34 _ _ hc2,iY _ _ _ _ _ _ (by decide +kernel) (by decide +kernel) (by decide +kernel) (by decide +kernel) (by decide +kernel) (by decide +kernel),_,rfl,_,rfl,c,ra,p,n,f,h,ss,inp,shares,rows,z,rs,rfl,⟨t,a,b,wa,sh,le,ws,is,shs,R2.same s34⟩,PA,S,hz,s34 _ _ hra,hrs.same s34,Sr,rlen,hb,fun H5 s5=>?_⟩
  refine ⟨s5 _ _ hD4,aw (by rw [List.length_map,List.length_map,List.length_take];omega),ii,?_,ao (s4.trans s5) hma0⟩
  rw [List.take_add_one,hv,List.map_append,List.map_append]
  rfl
 rintro ys H4 ⟨_,rfl,s4⟩ hma
 refine hu _ _ ?_
 rw [List.length_map,List.take_length] at hma
 have hma:H4 ma=some (.lst ((cm p n shares rows z).map V.int)):=hma
 have ml:=fP p n shares rows z
 generalize cm p n shares rows z=made at hma ml q
 have g4:=g2.trans (s3.trans s4)
 have R4:=R.same g4
 have hc4:=g4 _ _ hc
 refine aP (bv (fN M_send_letters hr (pv 0) (aa (eB M_coming_step hr (pv 0)) (aa (pv 3) (aa (pv 2) ac))))) fun u hu=>?_
 refine ⟨_,rfl,c,dx,_,rfl,hc4,iY _ _ _ _ _ _ (by decide +kernel) (by decide +kernel) (by decide +kernel) (by decide +kernel) (by decide +kernel) (by decide +kernel),_,rfl,c,dx,_,rfl,hc4,iY _ _ _ _ _ _ (by decide +kernel) (by decide +kernel) (by decide +kernel) (by decide +kernel) (by decide +kernel) (by decide +kernel),c,p,n,f,ss,inp,shares,z,rfl,⟨t,a,b,wa,sh,le,ws,is,shs,R4⟩,by omega,hz,fun d H5 s5 hd5=>?_⟩
 have g5:=g4.trans s5
 have R5:=R.same g5
 have s35:=s3.trans (s4.trans s5)
 refine ⟨_,rfl,_,rfl,c,d,ma,ra,le,p,n,f,ss,inp,shares,rows,z,rs,made,lvs,lets,t,a,b,wa,sh,ws,is,shs,rfl,R5,PA,by omega,hd5,s5 _ _ hma,ml,s35 _ _ hra,hrs.same s35,Sr.l,g5 _ _ hle,hlv.same g5,hll,fun H6 lvs' x6 hle6 hlv6=>hu _ _ ?_⟩
 have mfree:H ma=none:=(g2.trans s3).free hma0
 have ne:∀ x,x≠le→x∉[le]:=fun x h e=>h (List.mem_singleton.mp e)
 have mle:ma≠le:=fun e=>by rw [e,hle] at mfree;cases mfree
 have msh:ma≠sh:=fun e=>by rw [e,R.hsh] at mfree;cases mfree
 have hc6:H6 c=some (.ins CC dx (kG t a b wa sh le)):=x6 _ _ (g5 _ _ hc) (ne _ fun e=>by rw [e,hle] at hc;cases hc)
 have hsh6:H6 sh=some (.lst (shs.map V.ref)):=x6 _ _ (g5 _ _ R.hsh) (ne _ D0.sl)
 have hma6:=x6 _ _ (s5 _ _ hma) (ne _ mle)
 have shl:shs.length=shares.length:=Paired.length R.hs
 refine ⟨_,(af (bv (gy PySem.F.plainAttrs_list PySem.F.slot_list_append PySem.F.type_list_append cj (aI (pv 0) rfl) (aa (pv 3) ac)))),?_⟩
 refine ⟨_,rfl,c,CC,dx,_,_,rfl,hc6,TC.cl,TC.nH,cf_h _ _ _ _ _ _,.inl ⟨rfl,_,SqL.of hsh6⟩,_,rfl,sh,_,_,rfl,rfl,hsh6,by rw [List.length_map];exact aw (by omega),?_⟩
 have SX:SameX [sh,le] H (upd H6 sh (.lst (shs.map V.ref++[.ref ma]))):=fun x u hx hn=>by
  rw [ar fun e=>hn (by rw [e];exact List.mem_cons_self)]
  exact x6 _ _ (g5 _ _ hx) (ne _ fun e=>hn (by rw [e];simp))
 have AP:Apt a b wa sh le is (shs++[ma]):=⟨D0.sl,D0.a1,D0.b1,D0.w1,D0.i1,fun i hi=>by
  rcases List.mem_append.mp hi with h | h
  ·exact D0.s1 i h
  ·rw [List.mem_singleton.mp h];exact ⟨msh,mle⟩⟩
 refine q _ ma lvs' SX mfree (CrsAt.next R D0 hle SX (by rw [ad,List.map_append];rfl) (by rw [ar msh];exact hma6)) AP (by rw [ar D0.sl.symm];exact hle6) (LetsAt.upd hsh6 hlv6)
end
section
variable {P:Program}{w:World}{K:PySem.W.Frag}{mg:Str→Option Value}{base:Heap}{C CC pa:Addr}
theorem iP:aq ["self","table","steps","inputs"] ["self","table","steps","inputs"] (am dH):=⟨rfl,rfl,rfl,by decide +kernel,rfl,by decide +kernel,by decide +kernel⟩
theorem ok_cinit {g:Addr}{fd:FuncData} (F:Fun K "__init__" "Course.__init__" dH g fd) (TC:CrsC K CC) (O_weights:Ok P w K mg base CX0 4 "weights" ["table"] (g7 C)):gD P w K mg base CX0 5 g fd ["self","table","steps","inputs"] (jw C CC):=by
 refine F.ok iP (fun vs H Q E h=>?_) (fun cdv A outer s H vs Q E hr h=>?_)
 ·obtain ⟨c,dx,t,a,b,p,n,f,rfl,_⟩:=h
  rfl
 obtain ⟨c,dx,t,a,b,p,n,f,rfl,hc,T1,hp,hn,np,q⟩:=h
 refine ⟨_,(ae (fK (pv 0) (pv 1) rfl)
  (ae (fK (pv 0) (pv 2) rfl)
  (ae (fK (pv 0) (pv 3) rfl)
  (ae (fK (pv 0) (aj O_weights hr rfl (aa (pv 1) ac)) rfl)
  (ae (fK (pv 0) (bw ac) rfl)
  (af (fK (pv 0) (bw ac) rfl))))))),?_⟩
 refine ⟨_,rfl,_,rfl,c,CC,dx,_,rfl,hc,TC.cl,TC.nT,(by show 0<1000;decide),?_⟩
 refine ⟨_,rfl,_,rfl,c,CC,dx,_,rfl,ad,TC.cl,TC.nS,(by show 1<1000;decide),?_⟩
 refine ⟨_,rfl,_,rfl,c,CC,dx,_,rfl,ad,TC.cl,TC.nI,Nat.lt_of_le_of_lt (eE (k:=1) (eE (k:=0) (Nat.le_refl 0))) (by decide),?_⟩
 rw [oK,oK]
 have keep:∀ x u,H x=some u→x≠c→(upd H c (.ins CC dx (cZ "inputs" (.ref b) (cZ "steps" (.ref a) (cZ "table" (.ref t) []))))) x=some u:=fun x u e hx=>by rw [ar hx];exact e
 have hc3:(upd H c (.ins CC dx (cZ "inputs" (.ref b) (cZ "steps" (.ref a) (cZ "table" (.ref t) []))))) c=some (.ins CC dx (cZ "inputs" (.ref b) (cZ "steps" (.ref a) (cZ "table" (.ref t) [])))):=ad
 have tc:t≠c:=fun e=>by
  obtain ⟨dt,ht⟩:=T1
  rw [e,hc] at ht
  have h1:=Option.some.inj ht
  injection h1 with _ _ h3
  unfold tf at h3
  cases h3
 have fr:∀ x,(upd H c (.ins CC dx (cZ "inputs" (.ref b) (cZ "steps" (.ref a) (cZ "table" (.ref t) []))))) x=none→H x=none:=fun x e=>by
  by_cases hx:x=c
  ·rw [hx,hc3] at e
   cases e
  ·rw [ar hx] at e
   exact e
 generalize (upd H c (.ins CC dx (cZ "inputs" (.ref b) (cZ "steps" (.ref a) (cZ "table" (.ref t) [])))))=H3 at keep hc3 fr
 have T3:TabAt C H3 t p n f:=let ⟨dt,ht⟩:=T1;⟨dt,keep _ _ ht tc⟩
 refine ⟨_,rfl,t,p,n,f,rfl,T3,hp,hn.1,hn.2,np,fun wa H4 s4 hwa0 hwa=>?_⟩
 have l3:(cZ "inputs" (V.ref b) (cZ "steps" (.ref a) (cZ "table" (.ref t) []))).length≤3:=eE (k:=2) (eE (k:=1) (eE (k:=0) (Nat.le_refl 0)))
 refine ⟨_,rfl,c,CC,dx,_,rfl,s4 _ _ hc3,TC.cl,TC.nP,Nat.lt_of_le_of_lt l3 (by decide),?_⟩
 have wc:wa≠c:=fun e=>by rw [e,hc3] at hwa0;cases hwa0
 refine ⟨(by show 0≤sizeLine;decide),fun sh hsh0=>?_⟩
 have sc:sh≠c:=fun e=>by rw [e,ad] at hsh0;cases hsh0
 have hsh4:H4 sh=none:=by rw [ar sc] at hsh0;exact hsh0
 have sw:wa≠sh:=fun e=>by rw [e,hsh4] at hwa;cases hwa
 refine ⟨_,rfl,c,CC,dx,_,rfl,(ar sc.symm).trans ad,TC.cl,TC.nH,Nat.lt_of_le_of_lt (eE l3) (by decide),?_⟩
 refine ⟨(by show 0≤sizeLine;decide),fun le hle0=>?_⟩
 have lc:le≠c:=fun e=>by rw [e,ad] at hle0;cases hle0
 have ls:sh≠le:=fun e=>by
  rw [← e,ar sc,ad] at hle0
  cases hle0
 have hle4:H4 le=none:=by
  rw [ar lc,ar ls.symm,ar lc] at hle0
  exact hle0
 have lw:wa≠le:=fun e=>by rw [e,hle4] at hwa;cases hwa
 refine ⟨_,rfl,c,CC,dx,_,rfl,(ar lc.symm).trans ad,TC.cl,TC.nL,Nat.lt_of_le_of_lt (eE (eE l3)) (by decide),?_⟩
 refine q _ wa sh le (fun x u hx hxc=>?_) (fr _ hwa0) (fr _ (s4.free hsh4)) (fr _ (s4.free hle4)) ls sw lw ?_ ?_ ?_ ?_
 ·have h4:=s4 _ _ (keep x u hx hxc)
  rw [ar hxc,ar (fun e=>by rw [e,hle4] at h4;cases h4),ar hxc,ar (fun e=>by rw [e,hsh4] at h4;cases h4),ar hxc]
  exact h4
 ·rw [ar wc,ar lw,ar wc,ar sw,ar wc]
  exact hwa
 ·rw [ar sc,ar ls,ar sc]
  exact ad
 ·rw [ar lc]
  exact ad
 ·rw [ad,crs_put]
theorem sc_Course_opened:aq ["self","found","place","step"] ["self"] (am cY):=⟨rfl,rfl,rfl,by decide +kernel,rfl,by decide +kernel,by decide +kernel⟩
theorem pA {g:Addr}{fd:FuncData} (F:Fun K "opened" "Course.opened" cY g fd) (B:Blt mg) (TC:CrsC K CC) (O_weighed:Ok P w K mg base CX0 1 "weighed" ["table","parts","numbers"] (fB C)):gD P w K mg base CX0 2 g fd ["self"] (gF C CC):=by
 refine F.ok sc_Course_opened (fun vs H Q E h=>?_) (fun cdv A outer s H vs Q E hr h=>?_)
 ·obtain ⟨c,p,n,f,ss,inp,shares,rfl,_⟩:=h
  rfl
 obtain ⟨c,p,n,f,ss,inp,shares,rfl,⟨t,a,b,wa,sh,le,ws,is,shs,R⟩,PA,S,hlen,q⟩:=h
 refine ⟨_,(ae (aJ (i:=1) sc_Course_opened.nd rfl (Or.inl rfl) (bw ac))
  (ae (cq PassesOwn.never rfl (pi rfl B.enumerate (aa (aI (pv 0) rfl) ac)) (gm rfl (aL (au (i:=2) sc_Course_opened.nd rfl (Or.inl rfl)) (aL (au (i:=3) sc_Course_opened.nd rfl (Or.inl rfl)) cv)))
   (af (bR (aK dA (aX bO (pv 3) ak (fun _ _=>rfl)) br (aU _))
   (af (bv (gy PySem.F.plainAttrs_list PySem.F.slot_list_append PySem.F.type_list_append cj (pv 1) (aa (c7 (aa (pv 2) (aa (aj O_weighed hr rfl (aa (aI (pv 0) rfl) (aa (aI (pv 0) rfl) (aa (aX bf (aI (pv 0) rfl) (pv 2) (fun _ _=>rfl)) ac)))) ac))) ac))))
   aO)))
  (af (az (pv 1))))),?_⟩
 have pp:=jH PA.hp
 have hn:=PA.hn
 have np:=PA.np
 have hsl:=PA.len
 have wl:ws.length=ss.length:=Paired.length R.st
 have shl:shs.length=shares.length:=Paired.length R.hs
 have wk:=ws_ok PA.hp (n:=n.toNat) (by omega) (by omega) (by omega)
 obtain ⟨dx,hc⟩:=R.obj
 refine ⟨(by show 0≤sizeLine;decide),fun l hl=>?_⟩
 have s1:=ah hl (.lst [])
 have hl1:(upd H l (.lst [])) l=some (.lst []):=ad
 generalize upd H l (.lst [])=H1 at s1 hl1
 refine ⟨_,rfl,c,CC,dx,_,_,rfl,s1 _ _ hc,TC.cl,TC.nS,cf_a _ _ _ _ _ _,a,_,rfl,SqL.of (s1 _ _ R.ha),?_⟩
 refine jQ (K:=K) (a:=a) (xs:=ws) (k0:=0) (fun i σ H2=>Same H H2∧∃ (vs:List V) (v2 v3:Option V),σ=[some (.ref c),some (.ref l),v2,v3]∧H2 l=some (.lst vs)∧PtsAt H2 vs ((List.range i).map fun i=>nA p n shares i (ss.getD i (.fix 0))).flatten∧vs.length≤i) ?_ ?_ ?_ ?_
 ·exact ⟨s1,[],_,_,rfl,hl1,.nil,Nat.zero_le _⟩
 ·rintro i σ H2 ⟨s2,_⟩
  exact SqL.of (s2 _ _ R.ha)
 ·rintro i y σ H2 cc hy ⟨s2,vs,v2,v3,rfl,hl2,hpt,hvl⟩ hcc
  obtain ⟨d,z,rfl,hz,hzs⟩:=(R.st.same s2).get hy
  have ii:i<ss.length:=(List.getElem?_eq_some_iff.mp hzs).1
  have s3:=ah hcc (.tup [.int ((0+i:Nat):Int),.ref d])
  refine ⟨cc,_,rfl,SqT.of ad,rfl,_,_,rfl,_,_,rfl,rfl,?_⟩
  have hz3:=s3 _ _ hz
  have hl3:=s3 _ _ hl2
  have g3:=s2.trans s3
  have hpt3:PtsAt _ vs _:=hpt.same s3
  generalize upd H2 cc (.tup [.int ((0+i:Nat):Int),.ref d])=H3 at s3 hz3 hl3 g3 hpt3
  have ei:((0+i:Nat):Int)=(i:Int):=by omega
  rw [ei]
  refine ⟨_,rfl,d,_,_,.str z.word,rfl,rfl,SqT.of hz3,z.at0,rfl,_,rfl,?_⟩
  refine bP (fun c1=>?_) (fun c1=>?_)
  ·have c1':V.str z.word=V.str "open":=of_decide_eq_true c1
   injection c1' with c1'
   cases z with
   | opn a1 =>
    have R3:=R.same g3
    obtain ⟨row,hrow,hrr⟩:=R3.hs.get (List.getElem?_eq_getElem (show i<shs.length by omega))
    have eat:atI (shs.map V.ref) (i:Int)=some (.ref shs[i]):=by
     unfold atI
     rw [show ixN (shs.map V.ref).length (i:Int)=some i by simpa using nV (n:=(shs.map V.ref).length) (k:=(i:Int)) (by omega) (by rw [List.length_map];omega)]
     show (shs.map V.ref)[i]?=_
     rw [List.getElem?_map,List.getElem?_eq_getElem (show i<shs.length by omega)]
     rfl
    refine ⟨_,rfl,.inl ⟨rfl,_,SqL.of hl3⟩,_,rfl,_,rfl,c,CC,dx,_,_,rfl,g3 _ _ hc,TC.cl,TC.nT,oB _ _ _ _ _ _,_,rfl,c,CC,dx,_,_,rfl,g3 _ _ hc,TC.cl,TC.nP,cf_w _ _ _ _ _ _,_,rfl,c,CC,dx,_,_,rfl,g3 _ _ hc,TC.cl,TC.nH,cf_h _ _ _ _ _ _,_,rfl,sh,_,_,.ref shs[i],rfl,rfl,SqL.of R3.hsh,eat,t,wa,shs[i],p,n,f,aV p n.toNat,row,rfl,R3.tab,⟨by omega,pp.2⟩,R3.hw,hrr,by rw [dX];omega,wk.2,S.b row (List.mem_of_getElem? hrow),fun H4 s4=>⟨(by show 2≤sizeLine;decide),fun tt htt=>?_⟩⟩
    have s5:=ah htt (.tup [.int (i:Int),.int (wgh p n row)])
    have s45:=s4.trans s5
    refine ⟨l,_,_,rfl,rfl,s45 _ _ hl3,aw (by omega),?_⟩
    refine ⟨ao (g3.trans s45) hl,vs++[.ref tt],_,_,rfl,ad,?_,by rw [List.length_append];show _+1≤_;omega⟩
    rw [ja hzs]
    refine PtsAt.upd (s45 _ _ hl3) (Veil.Paired.append (hpt3.same s45) ?_)
    show Paired _ [V.ref tt] [((i:Int),wgh p n (shares.getD i []))]
    rw [List.getD_eq_getElem?_getD,hrow]
    exact .cons ⟨tt,rfl,ad⟩ .nil
   | _=>exact absurd c1' (by simp only [Stp.word];decide +kernel)
  ·refine ⟨g3,vs,_,_,rfl,hl3,?_,by omega⟩
   rw [ja hzs]
   have e:nA p n shares i z=[]:=by
    cases z with
    | opn a1=>exact absurd (decide_eq_true rfl) c1
    | _=>rfl
   rw [e,List.append_nil]
   exact hpt3
 ·rintro σ H2 ⟨s2,vs,v2,v3,rfl,hl2,hpt,_⟩
  rw [wl] at hpt
  exact ⟨_,rfl,q l vs H2 s2 hl hl2 hpt⟩
end
section
variable {P:Program}{w:World}{K:PySem.W.Frag}{mg:Str→Option Value}{base:Heap}{C CC pa:Addr}
theorem sc_run:aq ["table","steps","inputs","chance","course","rows"] ["table","steps","inputs","chance"] (am s_run):=⟨rfl,rfl,rfl,by decide +kernel,rfl,by decide +kernel,by decide +kernel⟩
theorem ok_runE {cS cI cC:Addr} (F:Src K mg "run" "run" s_run ["table","steps","inputs","chance"]) (B:Blt mg) (TC:CrsC K CC) (O_refuse_runE:Ok P w K mg base (CXE P w) 8 "refuse_run" ["table","steps","inputs","chance"] (eX C cS cI cC)) (O_Course:MkOk P w K mg base CX0 5 "Course" CC ["self","table","steps","inputs"] (jw C CC)) (O_chance_by_step:Ok P w K mg base CX0 3 "chance_by_step" ["table","steps","chance"] (cB C)) (M_go_on:MOk P w K mg base CX0 4 CC "go_on" ["self","chance_rows"] (spGo C CC)) (M_opened:MOk P w K mg base CX0 2 CC "opened" ["self"] (gF C CC)):Ok P w K mg base (CXE P w) 9 "run" ["table","steps","inputs","chance"] (oS C cS cI cC):=by
 refine F.okE sc_run (fun vs H Q E h=>?_) (fun f cdv A outer s H vs Q E hr h=>?_)
 ·obtain ⟨t,a,b,c,p,n,f,ws,ss,is,inp,ch,rfl,_⟩:=h
  rfl
 obtain ⟨t,a,b,c,p,n,f,ws,ss,is,inp,ch,rfl,T1,hp,hn,np,hf,fn,ha,hss,hb,hin,hlen,hch,hchl,q1,q2,q3,q4⟩:=h
 have pp:=jH hp
 refine aP (bv (dM O_refuse_runE hr rfl (aa (pv 0) (aa (pv 1) (aa (pv 2) (aa (pv 3) ac)))))) fun u hu=>?_
 refine ⟨_,rfl,_,rfl,_,rfl,_,rfl,t,a,b,c,p,n,f,ws,ss,is,inp,ch,rfl,T1,by omega,by omega,ha,hss,hb,hin,hlen,hch,hchl,fun hR hI hC H1 s1=>hu _ _ ?_,q2,q3,q4⟩
 have q1:=q1 hR hI hC
 obtain ⟨hlR,hRi⟩:=rightsB_iff.mp hR
 have iok:=(gL (by omega)).mp hI
 have PA:Par p n f ss inp:=⟨hp,hn,np,hf,fn,hlR,hRi,iok⟩
 refine aP (aJ (i:=4) sc_run.nd rfl (Or.inl rfl) (ms O_Course hr rfl (aa (pv 0) (aa (pv 1) (aa (pv 2) ac))))) fun u hu=>?_
 refine ⟨_,rfl,_,rfl,_,rfl,fun x dx hx hdx hne=>?_⟩
 have sM:Same H1 (upd (upd H1 dx (.own x)) x (.ins CC dx [])):=fun y u e=>by
  rw [ar (aD e hx),ar (aD e hdx)]
  exact e
 have hxM:(upd (upd H1 dx (.own x)) x (.ins CC dx [])) x=some (.ins CC dx []):=ad
 have frM:∀ y,(upd (upd H1 dx (.own x)) x (.ins CC dx [])) y=none→H1 y=none:=fun y e=>sM.free e
 generalize upd (upd H1 dx (.own x)) x (.ins CC dx [])=HM at sM hxM frM
 refine ⟨x,dx,t,a,b,p,n,f,rfl,hxM,(T1.same s1).same sM,hp,by omega,np,fun H2 wa sh le keep hwa0 hsh0 hle0 hsl hws hwl hwa hsh hle hc2=>⟨rfl,hu _ _ ?_⟩⟩
 have s12:Same H1 H2:=fun y u e=>keep y u (sM _ _ e) (aD e hx)
 have g2:=s1.trans s12
 have fsh:H sh=none:=s1.free (frM _ hsh0)
 have fle:H le=none:=s1.free (frM _ hle0)
 refine aP (PS.nox (cq PassesOwn.never rfl (bL (aj O_chance_by_step hr rfl (aa (pv 0) (aa (pv 1) (aa (pv 3) ac))))) (au (i:=5) sc_run.nd rfl (Or.inl rfl))
   (af (bv (fN M_go_on hr (pv 4) (aa (pv 5) ac)))))) fun u hu=>?_
 refine ⟨_,rfl,_,rfl,_,rfl,t,a,c,p,n,f,ws,ss,ch,rfl,T1.same g2,by omega,by omega,g2 _ _ ha,hss.same g2,by omega,g2 _ _ hch,fun d as H3 s3 hd0 hd hLL=>?_⟩
 have g3:=g2.trans s3
 have asl:as.length=ss.length:=by rw [Paired.length hLL,dR]
 have nin:∀ y,H2 y=none→y∉[sh,le]:=fun y e h=>by
  rcases List.mem_cons.mp h with z | z
  ·rw [z,hsh] at e;cases e
  ·rw [List.mem_singleton.mp z,hle] at e;cases e
 have old:∀ y,H y≠none→y≠sh∧y≠le:=fun y e=>⟨fun z=>e (by rw [z];exact fsh),fun z=>e (by rw [z];exact fle)⟩
 have AP0:Apt a b wa sh le is []:=⟨hsl,old a (by rw [ha];exact fun z=>nomatch z),old b (by rw [hb];exact fun z=>nomatch z),⟨hws,hwl⟩,fun i hi=>by
  obtain ⟨k,hk⟩:=List.getElem?_of_mem hi
  obtain ⟨r,_,hr⟩:=hin.get hk
  exact old i (by rw [hr];exact fun z=>nomatch z),(fun i hi=>nomatch hi)⟩
 refine ⟨d,rfl,⟨_,SqL.of hd⟩,?_⟩
 refine fQ (K:=K) (a:=d) (xs:=as.map V.ref) (fun i σ H'=>SameX [sh,le] H3 H'∧∃ (shs:List Addr) (lvs:List V) (v5:Option V),σ=[some (.ref t),some (.ref a),some (.ref b),some (.ref c),some (.ref x),v5]∧CrsAt C CC H' x p n f ss inp (gi p n f.toNat ss inp ch i).1 t a b wa sh le ws is shs∧Apt a b wa sh le is shs∧H' le=some (.lst lvs)∧LetsAt H' lvs (gi p n f.toNat ss inp ch i).2∧(∀ m∈shs,H3 m=none)∧shs.Nodup∧lvs.length≤100*i∧i≤ss.length) ?_ ?_ ?_ ?_
 ·refine ⟨fun y u e _=>e,[],[],none,rfl,⟨⟨dx,s3 _ _ hc2⟩,T1.same g3,g3 _ _ ha,hss.same g3,g3 _ _ hb,hin.same g3,s3 _ _ hwa,s3 _ _ hsh,.nil⟩,AP0,s3 _ _ hle,.nil,(fun m h=>nomatch h),.nil,Nat.zero_le _,Nat.zero_le _⟩
 ·rintro i σ H' _ ⟨sX,_⟩
  exact SqL.of (sX _ _ hd (nin d hd0))
 ·rintro i y σ H' hy ⟨sX,shs,lvs,v5,rfl,R,AP,hle',hlv,hfr,nd,hll,hi⟩
  obtain ⟨ai,rfl,hai⟩:=eu hy
  have il:i<ss.length:=by rw [← asl];exact (List.getElem?_eq_some_iff.mp hai).1
  obtain ⟨rows,hrows,hai0,bs,hab,hbs,hbf⟩:=cR hLL hai
  have ez:ss[i]?=some ss[i]:=List.getElem?_eq_getElem il
  have erows:rows=aA f.toNat ch (aG f.toNat n (ss.take i)) ((ss[i]).dealers n).length:=by
   have h1:=dr (f:=f.toNat) (n:=n) (ch:=ch) ez
   rw [List.take_add_one,hrows] at h1
   have:=List.append_cancel_left h1
   simpa using this
  have hrun:=dv (p:=p) (n:=n) (f:=f.toNat) (inp:=inp) (ch:=ch) ez
  have rl:=gH (p:=p) (n:=n) (f:=f.toNat) (ss:=ss) (inp:=inp) (ch:=ch) (i:=i) (by omega)
  have rok:=kZ (p:=p) (n:=n) (by omega) (f:=f.toNat) (ss:=ss) (inp:=inp) (ch:=ch) (i:=i) (by omega)
  have ll:=Paired.length hlv
  rw [← erows] at hrun
  generalize gi p n f.toNat ss inp ch i=st at hrun rl rok R hlv ll
  have hbX:InsAt H' bs rows:=InsAt.sx sX hbs fun b hb=>nin b (hbf b hb)
  have haX:=sX _ _ hab (nin ai hai0)
  have hz:ss[st.1.length]?=some ss[i]:=by rw [rl];exact ez
  have eg:ss.getD st.1.length (.fix 0)=ss[i]:=by rw [List.getD_eq_getElem?_getD,hz];rfl
  have er1:gi p n f.toNat ss inp ch (i+1)=(st.1++[cm p n st.1 (aR p n ss inp st.1 rows ss[i]) ss[i]],st.2++jK p n (st.1.length:Int) (cm p n st.1 (aR p n ss inp st.1 rows ss[i]) ss[i]) (aR p n ss inp st.1 rows ss[i]) ss[i]):=by
   rw [hrun]
   unfold kC
   rw [eg]
  obtain ⟨dx',hcx⟩:=R.obj
  have rb2:∀ r∈rows,r.length≤100:=fun r hr=>by
   rw [erows] at hr
   have:=(iE r hr).1
   omega
  have Sr:=e6 (p:=p) (n:=n) (by omega) ss inp st.1 rows ss[i]
  have lb:=kz (p:=p) hn (st.1.length:Int) (cm p n st.1 (aR p n ss inp st.1 rows ss[i]) ss[i]) (aR p n ss inp st.1 rows ss[i]) ss[i] (fun r hr=>by have:=Sr.l r hr;omega)
  refine ⟨_,rfl,x,dx',_,rfl,hcx,iY _ _ _ _ _ _ (by decide +kernel) (by decide +kernel) (by decide +kernel) (by decide +kernel) (by decide +kernel) (by decide +kernel),_,rfl,x,ai,le,p,n,f,ss,inp,st.1,rows,ss[i],bs,lvs,st.2,t,a,b,wa,sh,ws,is,shs,rfl,R,AP,PA,rok,hz,haX,hbX,by rw [erows,cz],rb2,hle',hlv,by omega,fun H6 m lvs' x6 hm0 R6 AP6 hle6 hlv6=>?_⟩
  have ll6:=Paired.length hlv6
  rw [List.length_append] at ll6
  have msh:m∉shs:=fun h=>by
   obtain ⟨k,hk⟩:=List.getElem?_of_mem h
   obtain ⟨_,_,z⟩:=R.hs.get hk
   rw [hm0] at z
   cases z
  have m3:H3 m=none:=by
   cases e:H3 m with
   | none=>rfl
   | some u =>
    exfalso
    by_cases z:m∈[sh,le]
    ·rcases List.mem_cons.mp z with w | w
     ·rw [w,R.hsh] at hm0;cases hm0
     ·rw [List.mem_singleton.mp w,hle'] at hm0;cases hm0
    ·rw [sX _ _ e z] at hm0
     cases hm0
  refine ⟨sX.trans x6,shs++[m],lvs',_,rfl,?_,AP6,hle6,?_,fun k hk=>?_,gc nd msh,by omega,by omega⟩
  ·rw [er1];exact R6
  ·rw [er1];exact hlv6
  ·rcases List.mem_append.mp hk with h | h
   ·exact hfr k h
   ·rw [List.mem_singleton.mp h];exact m3
 ·rintro σ H' ⟨sX,shs,lvs,v5,rfl,R,AP,hle',hlv,hfr,nd,hll,_⟩
  refine hu _ _ ?_
  refine ⟨_,(af (az (c7 (aa (aI (pv 4) rfl) (aa (aI (pv 4) rfl) (aa (eB M_opened hr (pv 4)) ac)))))),?_⟩
  rw [List.length_map,asl] at R hlv
  have rok:=kZ (p:=p) (n:=n) (by omega) (f:=f.toNat) (ss:=ss) (inp:=inp) (ch:=ch) (i:=ss.length) (Nat.le_refl _)
  have rl:=gH (p:=p) (n:=n) (f:=f.toNat) (ss:=ss) (inp:=inp) (ch:=ch) (i:=ss.length) (Nat.le_refl _)
  obtain ⟨dx',hcx⟩:=R.obj
  have gX:Same H H':=fun y u e=>sX _ _ (g3 _ _ e) fun h=>by
   have o:=old y (by rw [e];exact fun z=>nomatch z)
   rcases List.mem_cons.mp h with z | z
   ·exact o.1 z
   ·exact o.2 (List.mem_singleton.mp z)
  refine ⟨_,rfl,x,CC,dx',_,_,rfl,hcx,TC.cl,TC.nH,cf_h _ _ _ _ _ _,_,rfl,x,CC,dx',_,_,rfl,hcx,TC.cl,TC.nL,cf_l _ _ _ _ _ _,_,rfl,x,dx',_,rfl,hcx,iY _ _ _ _ _ _ (by decide +kernel) (by decide +kernel) (by decide +kernel) (by decide +kernel) (by decide +kernel) (by decide +kernel),x,p,n,f,ss,inp,_,rfl,⟨t,a,b,wa,sh,le,ws,is,shs,R⟩,PA,rok,rl,fun oa ovs H7 s7 hoa0 hoa hpt=>⟨(by show 3≤sizeLine;decide),fun dd hdd=>?_⟩⟩
  have s8:=ah hdd (.tup [.ref sh,.ref le,.ref oa])
  have s78:=s7.trans s8
  have osh:sh≠oa:=fun e=>by rw [← e,R.hsh] at hoa0;cases hoa0
  have ole:le≠oa:=fun e=>by rw [← e,hle'] at hoa0;cases hoa0
  refine q1 dd sh le oa shs lvs ovs _ (gX.trans s78) (gX.free (s7.free hdd)) fsh fle (gX.free hoa0) hsl osh ole (fun m hm=>⟨g3.free (hfr m hm),(AP.s1 m hm).1,(AP.s1 m hm).2,fun e=>?_⟩) nd ad (s78 _ _ R.hsh) (R.hs.same s78) (s78 _ _ hle') (hlv.same s78) (s8 _ _ hoa) (hpt.same s8)
  obtain ⟨k,hk⟩:=List.getElem?_of_mem hm
  obtain ⟨_,_,z⟩:=R.hs.get hk
  rw [e,hoa0] at z
  cases z
end
section
variable {P:Program}{w:World}{K:PySem.W.Frag}{mg:Str→Option Value}{base:Heap}{C pa:Addr}
theorem iN:aq ["steps","inputs","some"] ["steps","inputs","some"] (am cN):=⟨rfl,rfl,rfl,by decide +kernel,rfl,by decide +kernel,by decide +kernel⟩
theorem iS (F:Src K mg "inputs_used" "inputs_used" cN ["steps","inputs","some"]) (O_uses:Ok P w K mg base CX0 1 "uses" ["steps","hand"] j3):Ok P w K mg base CX0 2 "inputs_used" ["steps","inputs","some"] dZ:=by
 refine F.ok iN (fun vs H Q E h=>?_) (fun f cdv A outer s H vs Q E hr h=>?_)
 ·obtain ⟨a,b,s,n,ws,ss,is,inp,hs,rfl,_⟩:=h
  rfl
 obtain ⟨a,b,sa,n,ws,ss,is,inp,hs,rfl,ha,hss,hb,hin,hn,hsa,hl,hh,q⟩:=h
 have il:is.length=inp.length:=Paired.length hin
 refine ⟨_,(af (az (bS ["hand"] [("inputs",1),("steps",0)]  (bL (pv 2)) rfl (fun C s0 H0 ex=>by exact (au (i:=0) (show List.Nodup [("hand":Str),"inputs","steps"] by decide +kernel) rfl (Or.inl rfl))) (fun C s0 H0 ex=>by exact bp) (fun C s0 H0 ex=>by exact (gJ (sl_listK K) (aX (jM K) (pv 1) (aE eC (pv 0) ak) (fun _ _=>rfl)) lg (ic (aj O_uses hr rfl (aa (pv 2) (aa (pv 0) ac))))))))),?_⟩
 refine ⟨_,rfl,sa,rfl,⟨_,SqL.of hsa⟩,fun D hD=>?_⟩
 refine bF (K:=K) (a:=sa) (xs:=hs.map V.int) (fun j ys H2=>Same H H2∧∃ as:List Addr,ys=as.map V.ref∧as.Nodup∧D∉as∧(∀ b∈as,H b=none)∧InsAt H2 as ((nz ss inp hs).take j)) ⟨ao (Same.refl _) hD,[],rfl,.nil,(fun h=>nomatch h),(fun b h=>nomatch h),.nil⟩ ?_ ?_ ?_
 ·rintro j ys H2 _ ⟨s2,_⟩
  exact SqL.of (s2 _ _ hsa)
 ·rintro j y ys H2 hy ⟨s2,as,rfl,nd,nin,fr,hI⟩ hD2
  rw [List.getElem?_map] at hy
  cases hv:hs[j]? with
  | none=>rw [hv] at hy;cases hy
  | some h =>
  rw [hv] at hy
  cases hy
  have jl:j<hs.length:=(List.getElem?_eq_some_iff.mp hv).1
  have hb1:=hh h (List.mem_of_getElem? hv)
  have asl:as.length≤100:=by
   rw [Paired.length hI,List.length_take]
   unfold nz
   rw [List.length_map]
   omega
  have hik:(h - 1).toNat<is.length:=by omega
  obtain ⟨row,hrow,hrr⟩:=(hin.same s2).get (List.getElem?_eq_getElem hik)
  have eat:atI (is.map V.ref) (h - 1)=some (.ref is[(h - 1).toNat]):=by
   unfold atI
   rw [show ixN (is.map V.ref).length (h - 1)=some (h - 1).toNat from nV (n:=(is.map V.ref).length) (k:=h - 1) (by omega) (by rw [List.length_map];omega)]
   show (is.map V.ref)[(h - 1).toNat]?=_
   rw [List.getElem?_map,List.getElem?_eq_getElem hik]
   rfl
  have erow:bI inp h=row:=by unfold bI;rw [List.getD_eq_getElem?_getD,hrow];rfl
  refine ⟨⟨rfl,rfl⟩,?_⟩
  refine ⟨_,rfl,_,rfl,_,_,rfl,rfl,b,_,_,.ref is[(h - 1).toNat],rfl,rfl,SqL.of (s2 _ _ hb),eat,_,rfl,_,rfl,a,h,ws,ss,rfl,s2 _ _ ha,hss.same s2,fun H3 s3=>?_⟩
  refine ⟨_,rfl,_,_,rfl,SqL.of (s3 _ _ hrr),fun o ho=>?_⟩
  have s4:=ah ho (.lst (lS (row.map V.int) none (some (aS ss h:Int))))
  have s34:=s3.trans s4
  have oD:o≠D:=fun e=>by rw [e,s3 _ _ hD2] at ho;cases ho
  have oas:o∉as:=fun z=>by
   obtain ⟨k,hk⟩:=List.getElem?_of_mem z
   obtain ⟨_,_,zz⟩:=(hI.same s3).get hk
   rw [ho] at zz
   cases zz
  refine ⟨s34 _ _ hD2,aw (by rw [List.length_map];omega),ao (s2.trans s34) hD,as++[o],by rw [List.map_append];rfl,gc nd oas,fun z=>?_,fun x hx=>?_,?_⟩
  ·rcases List.mem_append.mp z with z | z
   ·exact nin z
   ·exact oD (List.mem_singleton.mp z).symm
  ·rcases List.mem_append.mp hx with z | z
   ·exact fr x z
   ·rw [List.mem_singleton.mp z]
    exact (s2.trans s3).free ho
  ·have e:(nz ss inp hs)[j]?=some (row.take (aS ss h)):=by unfold nz;rw [List.getElem?_map,hv,Option.map_some,erow]
   rw [List.take_add_one,e]
   refine InsAt.off (InsAt.snoc (hI.same s34) ?_) fun z=>?_
   ·rw [ad,took]
   ·rcases List.mem_append.mp z with z | z
    ·exact nin z
    ·exact oD (List.mem_singleton.mp z).symm
 ·rintro ys H2 ⟨s2,as,rfl,nd,nin,fr,hI⟩ hD2
  rw [List.length_map,List.take_of_length_le (by unfold nz;rw [List.length_map];exact Nat.le_refl _)] at hI
  exact q D H2 as s2 hD hD2 nd nin fr hI
theorem sc_chance_used:aq ["table","steps","chance","some","found","step","rows","hand","row"] ["table","steps","chance","some"] (am cO):=⟨rfl,rfl,rfl,by decide +kernel,rfl,by decide +kernel,by decide +kernel⟩
theorem iT (F:Src K mg "chance_used" "chance_used" cO ["table","steps","chance","some"]) (B:Blt mg) (O_chance_by_step:Ok P w K mg base CX0 3 "chance_by_step" ["table","steps","chance"] (cB C)) (O_dealers:Ok P w K mg base CX0 2 "dealers" ["table","step"] (cX C)):Ok P w K mg base CX0 4 "chance_used" ["table","steps","chance","some"] (d0 C):=by
 refine F.ok sc_chance_used (fun vs H Q E h=>?_) (fun f cdv A outer s H vs Q E hr h=>?_)
 ·obtain ⟨t,a,c,s,p,n,f,ws,ss,ch,hs,rfl,_⟩:=h
  rfl
 obtain ⟨t,a,c,sa,p,n,f,ws,ss,ch,hs,rfl,T1,hn,hf,ha,hss,hsl,hch,hsa,q⟩:=h
 have wl:ws.length=ss.length:=Paired.length hss
 refine ⟨_,(ae (aJ (i:=4) sc_chance_used.nd rfl (Or.inl rfl) (bw ac))
  (ae (cq PassesOwn.never rfl (ig rfl B.zip (aa (pv 1) (aa (aj O_chance_by_step hr rfl (aa (pv 0) (aa (pv 1) (aa (pv 2) ac)))) ac))) (gm rfl (aL (au (i:=5) sc_chance_used.nd rfl (Or.inl rfl)) (aL (au (i:=6) sc_chance_used.nd rfl (Or.inl rfl)) cv)))
   (af (cq PassesOwn.never rfl (ig rfl B.zip (aa (aj O_dealers hr rfl (aa (pv 0) (aa (pv 5) ac))) (aa (pv 6) ac))) (gm rfl (aL (au (i:=7) sc_chance_used.nd rfl (Or.inl rfl)) (aL (au (i:=8) sc_chance_used.nd rfl (Or.inl rfl)) cv)))
   (af (bR (aK iq (pv 7) (pv 3) rfl)
   (af (bv (gy PySem.F.plainAttrs_list PySem.F.slot_list_extend PySem.F.type_list_extend iu (pv 4) (aa (pv 8) ac))))
   aO)))))
  (af (az (pv 4))))),?_⟩
 refine ⟨(by show 0≤sizeLine;decide),fun l hl=>?_⟩
 have s1:=ah hl (.lst [])
 have hl1:(upd H l (.lst [])) l=some (.lst (([]:List Int).map V.int)):=ad
 generalize upd H l (.lst [])=H1 at s1 hl1
 refine ⟨_,rfl,_,rfl,_,rfl,_,rfl,t,a,c,p,n,f,ws,ss,ch,rfl,T1.same s1,hn,hf,s1 _ _ ha,hss.same s1,hsl,s1 _ _ hch,fun d as H2 s2 hd0 hd hLL=>?_⟩
 have g2:=s1.trans s2
 have asl:as.length=ss.length:=by rw [Paired.length hLL,dR]
 have dl:d≠l:=fun e=>by rw [e,hl1] at hd0;cases hd0
 have stay:∀ {H3:Hp}{y:Addr}{u:HO},SameX [l] H2 H3→H2 y=some u→y≠l→H3 y=some u:=fun sx e ne=>sx _ _ e (fun h=>ne (List.mem_singleton.mp h))
 refine ⟨a,d,_,_,rfl,SqL.of (g2 _ _ ha),SqL.of hd,?_⟩
 have al:a≠l:=aD ha hl
 have tl:t≠l:=by obtain ⟨dx,ht⟩:=id T1;exact aD ht hl
 refine lI (K:=K) (a:=a) (b:=d) (xs:=ws) (zs:=as.map V.ref) (fun i σ H3=>SameX [l] H2 H3∧∃ (v5 v6 v7 v8:Option V),σ=[some (.ref t),some (.ref a),some (.ref c),some (.ref sa),some (.ref l),v5,v6,v7,v8]∧H3 l=some (.lst ((fo n hs ss (bn f.toNat n ch ss 0) i).map V.int))∧(fo n hs ss (bn f.toNat n ch ss 0) i).length≤20*i∧i≤ss.length) ?_ ?_ ?_ ?_
 ·exact ⟨fun y u e _=>e,_,_,_,_,rfl,s2 _ _ hl1,Nat.zero_le _,Nat.zero_le _⟩
 ·rintro i σ H3 ⟨sx,_⟩
  exact ⟨SqL.of (stay sx (g2 _ _ ha) al),SqL.of (stay sx hd dl)⟩
 ·rintro i x z σ H3 cc ex ez ⟨sx,v5,v6,v7,v8,rfl,hl3,hll,hi⟩ hcc
  obtain ⟨zd,z,rfl,hz,hzs⟩:=(hss.same g2).get ex
  obtain ⟨ra,rfl,hra⟩:=eu ez
  have il:i<ss.length:=(List.getElem?_eq_some_iff.mp hzs).1
  obtain ⟨rows,hrows,hra0,bs,hrb,hbs,hbf⟩:=cR hLL hra
  have er:=om (f:=f.toNat) (n:=n) (ch:=ch) hzs
  have e2:rows=aA f.toNat ch (aG f.toNat n (ss.take i)) (z.dealers n).length:=Option.some.inj (hrows.symm.trans er)
  have dle:=cy hn.1 hn.2 z
  have rl:rows.length=(z.dealers n).length:=by rw [e2,cz]
  have rb2:∀ r∈rows,r.length≤2:=fun r hr=>by
   rw [e2] at hr
   have:=(iE r hr).1
   omega
  have bl:bs.length=rows.length:=Paired.length hbs
  have zl:zd≠l:=fun e=>by rw [e,s2 _ _ hl1] at hz;cases hz
  have l1:∀ y,H1 y=none→y≠l:=fun y e1 e2=>by rw [e2,hl1] at e1;cases e1
  have hz3:=stay sx hz zl
  have hra3:=stay sx hrb (l1 _ hra0)
  have hbs3:InsAt H3 bs rows:=InsAt.sx sx hbs fun b hb h=>l1 b (hbf b hb) (List.mem_singleton.mp h)
  have T3:TabAt C H3 t p n f:=by obtain ⟨dx,ht⟩:=id T1;exact ⟨dx,stay sx (g2 _ _ ht) tl⟩
  have hsa3:=stay sx (g2 _ _ hsa) (aD hsa hl)
  have s4:=ah hcc (.tup [.ref zd,.ref ra])
  refine ⟨cc,_,rfl,SqT.of ad,rfl,_,_,rfl,_,_,rfl,rfl,?_⟩
  have lc:cc≠l:=fun e=>by rw [e,hl3] at hcc;cases hcc
  generalize upd H3 cc (.tup [.ref zd,.ref ra])=H4 at s4
  have sx4:SameX [l] H2 H4:=fun y u e ne=>s4 _ _ (sx y u e ne)
  refine ⟨_,rfl,_,rfl,t,zd,p,n,f,z,rfl,T3.same s4,hn,s4 _ _ hz3,fun da H5 s5 hda0 hda=>?_⟩
  have s45:=s4.trans s5
  have sx5:SameX [l] H2 H5:=fun y u e ne=>s5 _ _ (sx4 y u e ne)
  have dal:da≠l:=fun e=>by rw [e,s4 _ _ hl3] at hda0;cases hda0
  refine ⟨_,rfl,da,ra,_,_,rfl,SqL.of hda,SqL.of (s45 _ _ hra3),?_⟩
  rw [kJ hzs hrows]
  generalize fo n hs ss (bn f.toNat n ch ss 0) i=pre at hl3 hll
  refine lI (K:=K) (a:=da) (b:=ra) (xs:=(z.dealers n).map V.int) (zs:=bs.map V.ref) (fun k σ H6=>SameX [l] H5 H6∧∃ (v7 v8:Option V),σ=[some (.ref t),some (.ref a),some (.ref c),some (.ref sa),some (.ref l),some (.ref zd),some (.ref ra),v7,v8]∧H6 l=some (.lst ((pre++eG hs ((z.dealers n).take k) (rows.take k)).map V.int))∧k≤10) ?_ ?_ ?_ ?_
  ·refine ⟨fun y u e _=>e,_,_,rfl,?_,by decide⟩
   rw [List.take_zero,List.take_zero]
   show H5 l=some (.lst ((pre++[]).map V.int))
   rw [List.append_nil]
   exact s45 _ _ hl3
  ·rintro k σ H6 ⟨sk,_⟩
   exact ⟨SqL.of (sk _ _ hda fun h=>dal (List.mem_singleton.mp h)),SqL.of (sk _ _ (s45 _ _ hra3) fun h=>l1 _ hra0 (List.mem_singleton.mp h))⟩
  ·rintro k x y σ H6 cx ex ey ⟨sk,w7,w8,rfl,hl6,hk10⟩ hcx
   rw [List.getElem?_map] at ex
   cases hv:(z.dealers n)[k]? with
   | none=>rw [hv] at ex;cases ex
   | some h =>
   rw [hv] at ex
   cases ex
   obtain ⟨ba,rfl,hba⟩:=eu ey
   obtain ⟨row,hrow,hrr⟩:=(hbs3.same s45).get hba
   have bal:ba≠l:=l1 ba (hbf ba (List.mem_of_getElem? hba))
   have kl:k<(z.dealers n).length:=(List.getElem?_eq_some_iff.mp hv).1
   have s7:=ah hcx (.tup [.int h,.ref ba])
   have hba7:=s7 _ _ (sk _ _ hrr fun h=>bal (List.mem_singleton.mp h))
   have hl7:=s7 _ _ hl6
   have hsa7:=s7 _ _ (sk _ _ (s45 _ _ hsa3) fun h=>aD hsa hl (List.mem_singleton.mp h))
   have rl2:=rb2 row (List.mem_of_getElem? hrow)
   have pl:=iF (hs:=hs) (ds:=(z.dealers n).take k) (rows:=rows.take k) (f:=2) fun r hr=>rb2 r (List.mem_of_mem_take hr)
   rw [List.length_take] at pl
   refine ⟨cx,_,rfl,SqT.of ad,rfl,_,_,rfl,_,_,rfl,rfl,?_⟩
   generalize upd H6 cx (.tup [.int h,.ref ba])=H7 at s7 hba7 hl7 hsa7
   have sk7:SameX [l] H5 H7:=fun y u e ne=>s7 _ _ (sk y u e ne)
   refine ⟨_,rfl,_,rfl,sa,_,rfl,.inl (SqL.of hsa7),rfl,iC _,_,rfl,?_⟩
   show if (inV (V.int h) (hs.map V.int))=true then _ else _
   rw [jN,kI hv hrow]
   refine bP (fun c1=>?_) (fun c1=>?_)
   ·have c1':h∈hs:=of_decide_eq_true c1
    rw [if_pos c1']
    refine ⟨_,rfl,.inl ⟨rfl,_,SqL.of hl7⟩,_,rfl,l,ba,_,_,rfl,rfl,hl7,hba7,?_,?_⟩
    ·rw [List.length_map,List.length_map,List.length_append]
     exact Nat.le_trans (show _≤5000 by omega) (by decide)
    ·refine ⟨fun y u e ne=>?_,_,_,rfl,?_,by omega⟩
     ·rw [ar fun e=>ne (List.mem_singleton.mpr e)]
      exact sk7 y u e ne
     ·rw [ad,← List.map_append,List.append_assoc]
   ·have c1':¬ h∈hs:=fun e=>c1 (decide_eq_true e)
    rw [if_neg c1',List.append_nil]
    exact ⟨sk7,_,_,rfl,hl7,by omega⟩
  ·rintro σ H6 ⟨sk,w7,w8,rfl,hl6,_⟩
   rw [List.length_map,List.length_map,bl,rl,Nat.min_self,List.take_of_length_le (Nat.le_refl _),List.take_of_length_le (by omega)] at hl6
   have pl:=iF (hs:=hs) (ds:=z.dealers n) (rows:=rows) (f:=2) rb2
   exact ⟨fun y u e ne=>sk y u (sx5 y u e ne) ne,_,_,_,_,rfl,hl6,by rw [List.length_append];omega,by omega⟩
 ·rintro σ H3 ⟨sx,v5,v6,v7,v8,rfl,hl3,hll,_⟩
  rw [List.length_map,wl,asl,Nat.min_self] at hl3
  refine ⟨_,rfl,q l H3 (fun y u e=>sx _ _ (g2 _ _ e) fun h=>?_) hl hl3⟩
  exact aD e hl (List.mem_singleton.mp h)
end
section
variable {P:Program}{w:World}{K:PySem.W.Frag}{mg:Str→Option Value}{base:Heap}{C pa:Addr}
theorem sc_seen:aq ["table","steps","inputs","chance","some","letters","own","used"] ["table","steps","inputs","chance","some"] (am l9):=⟨rfl,rfl,rfl,by decide +kernel,rfl,by decide +kernel,by decide +kernel⟩
theorem ok_seenE {cS cI cC cH:Addr} (F:Src K mg "seen" "seen" l9 ["table","steps","inputs","chance","some"]) (O_runE:Ok P w K mg base (CXE P w) 9 "run" ["table","steps","inputs","chance"] (oS C cS cI cC)) (O_refuse_handsE:Ok P w K mg base (CXE P w) 2 "refuse_hands" ["table","some"] (dE C cH)) (O_inputs_used:Ok P w K mg base CX0 2 "inputs_used" ["steps","inputs","some"] dZ) (O_chance_used:Ok P w K mg base CX0 4 "chance_used" ["table","steps","chance","some"] (d0 C)):Ok P w K mg base (CXE P w) 10 "seen" ["table","steps","inputs","chance","some"] (jo C cS cI cC cH):=by
 refine F.okE sc_seen (fun vs H Q E h=>?_) (fun f cdv A outer s H vs Q E hr h=>?_)
 ·obtain ⟨t,a,b,c,s,p,n,f,ws,ss,is,inp,ch,hs,rfl,_⟩:=h
  rfl
 obtain ⟨t,a,b,c,sa,p,n,f,ws,ss,is,inp,ch,hs,rfl,T1,hp,hn,np,hf,fn,ha,hss,hb,hin,hlen,hch,hchl,hsa,hsl,q1,q2,q3,q4,q5⟩:=h
 refine ⟨_,(ae (aJ (i:=5) sc_seen.nd rfl (Or.inl rfl) (aX bO (dM O_runE hr rfl (aa (pv 0) (aa (pv 1) (aa (pv 2) (aa (pv 3) ac))))) ak (fun _ _=>rfl)))
  (ae (bv (dM O_refuse_handsE hr rfl (aa (pv 0) (aa (pv 4) ac))))
  (ae (PS.nox (aJ (i:=6) sc_seen.nd rfl (Or.inl rfl) (aj O_inputs_used hr rfl (aa (pv 1) (aa (pv 2) (aa (pv 4) ac))))))
  (ae (PS.nox (aJ (i:=7) sc_seen.nd rfl (Or.inl rfl) (aj O_chance_used hr rfl (aa (pv 0) (aa (pv 1) (aa (pv 3) (aa (pv 4) ac)))))))
  (af (PS.nox (az (c7 (aa (pv 6) (aa (pv 7) (aa (bS ["letter"] [("some",4)]  (bL (pv 5)) rfl (fun C s0 H0 ex=>by exact (au (i:=0) (show List.Nodup [("letter":Str),"some"] by decide +kernel) rfl (Or.inl rfl))) (fun C s0 H0 ex=>by exact (lf (aK (nB K) (aX (lE K) (pv 0) ak (fun _ _=>rfl)) (pv 1) rfl))) (fun C s0 H0 ex=>by exact (pv 0))) ac))))))))))),?_⟩
 have pp:=jH hp
 refine ⟨_,rfl,_,rfl,_,rfl,_,rfl,t,a,b,c,p,n,f,ws,ss,is,inp,ch,rfl,T1,hp,hn,np,hf,fn,ha,hss,hb,hin,hlen,hch,hchl,fun hR hI hC d sh le oa shs lvs ovs H1 s1 hd0 hsh0 hle0 hoa0 n1 n2 n3 hfr nd hd hsh hshs hle hlv hoa hpt=>?_,q2,q3,q4⟩
 have q1:=q1 hR hI hC
 have q5:=q5 hR hI hC
 refine ⟨d,_,_,.ref le,rfl,rfl,SqT.of hd,rfl,?_⟩
 refine ⟨_,rfl,_,rfl,t,sa,p,n,f,hs,rfl,T1.same s1,s1 _ _ hsa,fun hH H2 s2=>?_,fun hH H2 s2=>q5 hH H2 (s1.trans s2)⟩
 have q1:=q1 hH
 have g2:=s1.trans s2
 have hb1:∀ h∈hs,1≤h∧h≤n:=fun h hm=>by
  have:=(risGo_iff.mp hH).1 h hm
  omega
 have iok:=(gL (by omega)).mp hI
 refine ⟨_,rfl,_,rfl,_,rfl,a,b,sa,n,ws,ss,is,inp,hs,rfl,g2 _ _ ha,hss.same g2,g2 _ _ hb,hin.same g2,(by have:=iok.len;omega),g2 _ _ hsa,hsl,hb1,fun oa2 H3 os s3 hoa20 hoa2 ond onin ofr hown=>?_⟩
 have g3:=g2.trans s3
 have hlR:=(rightsB_iff.mp hR).1
 refine ⟨_,rfl,_,rfl,_,rfl,_,rfl,t,a,c,sa,p,n,f,ws,ss,ch,hs,rfl,T1.same g3,by omega,by omega,g3 _ _ ha,hss.same g3,by omega,g3 _ _ hch,g3 _ _ hsa,fun ua H4 s4 hua0 hua=>?_⟩
 have g4:=g3.trans s4
 have hle4:=(s2.trans (s3.trans s4)) _ _ hle
 have hlv4:=hlv.same (s2.trans (s3.trans s4))
 refine ⟨_,rfl,_,rfl,_,rfl,le,rfl,⟨_,SqL.of hle4⟩,fun D hD=>?_⟩
 have lsz:(iQ p n f.toNat ss inp ch).2.length≤2400:=Nat.le_trans (j8 (by omega) hn (Nat.le_refl _)) (by omega)
 generalize (iQ p n f.toNat ss inp ch).2=lets at hlv4 q1 lsz
 have ll:lvs.length=lets.length:=Paired.length hlv4
 refine bF (K:=K) (a:=le) (xs:=lvs) (fun j ys H2=>Same H4 H2∧LetsAt H2 ys (bG hs (lets.take j))∧ys.length≤j∧j≤lvs.length) ⟨ao (Same.refl _) hD,.nil,Nat.zero_le _,Nat.zero_le _⟩ ?_ ?_ ?_
 ·rintro j ys H5 _ ⟨s5,_⟩
  exact SqL.of (s5 _ _ hle4)
 ·rintro j y ys H5 hy ⟨s5,hys,yl,jl⟩ hD5
  obtain ⟨l,hl,ya,rfl,hya⟩:=cR (hlv4.same s5) hy
  have jl':j<lvs.length:=(List.getElem?_eq_some_iff.mp hy).1
  have et:bG hs (lets.take (j+1))=bG hs (lets.take j)++(if l.2.2.1∈hs then [l] else []):=by
   unfold bG
   rw [List.take_add_one,hl,List.filter_append]
   congr 1
   show List.filter _ [l]=_
   rw [List.filter_cons,List.filter_nil]
   simp
  refine ⟨⟨rfl,rfl⟩,?_⟩
  refine ⟨_,rfl,ya,_,_,.int l.2.2.1,rfl,rfl,SqT.of hya,rfl,_,rfl,sa,_,rfl,.inl (SqL.of (s5 _ _ (g4 _ _ hsa))),rfl,iC _,_,rfl,?_⟩
  show if (inV (V.int l.2.2.1) (hs.map V.int))=true then _ else _
  rw [jN,et]
  refine bP (fun c1=>?_) (fun c1=>?_)
  ·rw [if_pos (of_decide_eq_true c1)]
   refine ⟨_,rfl,hD5,?_,ao s5 hD,?_,by rw [List.length_append];show _+1≤_;omega,jl'⟩
   ·exact Nat.lt_of_le_of_lt (show _≤2400 by omega) (by decide)
   ·refine LetsAt.upd hD5 (Veil.Paired.append hys (.cons ⟨ya,rfl,hya⟩ .nil))
  ·rw [if_neg fun e=>c1 (decide_eq_true e),List.append_nil]
   exact ⟨hD5,s5,hys,by omega,jl'⟩
 ·rintro ys H5 ⟨s5,hys,_,_⟩ hD5
  rw [ll,List.take_of_length_le (Nat.le_refl _)] at hys
  refine ⟨(by show 3≤sizeLine;decide),fun dd hdd=>?_⟩
  have s6:=ah hdd (.tup [.ref oa2,.ref ua,.ref D])
  have s56:=s5.trans s6
  have s46:=s4.trans s56
  have nof:∀ {y:Addr}{u:HO},H5 y=some u→dd≠y:=fun e z=>by rw [z,e] at hdd;cases hdd
  refine q1 dd oa2 ua D os ys _ (g4.trans s56) (g4.free (s5.free hdd)) (g2.free hoa20) (g3.free hua0) (g4.free hD) (nof ((s4.trans s5) _ _ hoa2)) (nof (s5 _ _ hua)) (nof hD5) (fun e=>?_) (fun e=>?_) (fun e=>?_) (fun x hx=>⟨g2.free (ofr x hx),?_⟩) ond ad (s46 _ _ hoa2) (hown.same s46) (s56 _ _ hua) (s6 _ _ hD5) (hys.same s6)
  ·rw [← e,hoa2] at hua0;cases hua0
  ·rw [← e,s4 _ _ hoa2] at hD;cases hD
  ·rw [← e,hua] at hD;cases hD
  ·obtain ⟨k,hk⟩:=List.getElem?_of_mem hx
   obtain ⟨_,_,z⟩:=hown.get hk
   refine ⟨fun e=>?_,fun e=>?_,fun e=>?_,fun e=>?_⟩
   ·rw [← e,(s4.trans s5) _ _ z] at hdd;cases hdd
   ·exact onin (e▸hx)
   ·rw [← e,z] at hua0;cases hua0
   ·rw [← e,s4 _ _ z] at hD;cases hD
end
section
variable {P:Program}{w:World}{K:PySem.W.Frag}{mg:Str→Option Value}{base:Heap}{C pa:Addr}
theorem sc_law_reckoning:aq ["script","table","many","opened","steps","k","one","two","words"] ["script","table","many","opened"] (am b9):=⟨rfl,rfl,rfl,by decide +kernel,rfl,by decide +kernel,by decide +kernel⟩
theorem ok_reck (F:Src K mg "_law_reckoning" "_law_reckoning" b9 ["script","table","many","opened"]) (B:Blt mg) (T:Tab K C) (O_law_cell_at:Ok P w K mg base CX0 1 "_law_cell_at" ["script","k"] (l7 K)) (O_law_mix:Ok P w K mg base CX0 1 "_law_mix" ["cell","k","many"] oV):Ok P w K mg base CX0 2 "_law_reckoning" ["script","table","many","opened"] (oT K C):=by
 refine F.ok sc_law_reckoning (fun vs H Q E h=>?_) (fun f cdv A outer s H vs Q E hr h=>?_)
 ·obtain ⟨a,t,ns,m,op,n,rfl,_⟩:=h
  rfl
 obtain ⟨a,t,ns,m,op,n,rfl,hS,T1,hn,hm,hop,q⟩:=h
 obtain ⟨dx,ht⟩:=id T1
 refine aP (bY 4 ["k"] [("script",0),("table",1)] sc_law_reckoning.nd  (c6 rfl B.range (aa (pv 2) ac)) rfl (fun C s0 H0 ex=>by exact (au (i:=0) (show List.Nodup [("k":Str),"script","table"] by decide +kernel) rfl (Or.inl rfl))) (fun C s0 H0 ex=>by exact bp) (fun C s0 H0 ex=>by exact (c7 (aa br (aa (aE bM ak (aE bZ (aj O_law_cell_at hr rfl (aa (pv 1) (aa (aE bM ak (pv 0)) ac))) (aE eC (dL K (pv 2) rfl) ak))) ac))))) fun u hu=>?_
 refine ⟨_,rfl,(m:Int),rfl,by omega,by omega,fun D hD=>?_⟩
 refine cT (fun i ys H2=>i≤m∧StpsAt H2 ys (inL ns n i)∧Same H H2) ⟨Nat.zero_le _,.nil,ao (Same.refl _) hD⟩ ?_ ?_
 ·rintro i ys H2 hi ⟨_,hys,s2⟩ hD2
  rw [Int.toNat_natCast] at hi
  have yl:ys.length=i:=by rw [Paired.length hys];unfold inL;rw [List.length_map,List.length_range]
  refine ⟨⟨rfl,rfl⟩,?_⟩
  refine ⟨_,rfl,_,rfl,_,_,rfl,rfl,a,ns,_,rfl,s2.seq hS,by omega,fun H3 s3=>⟨_,rfl,t,C,dx,_,_,rfl,(s2.trans s3) _ _ ht,T.cl,T.nH,oP _ _ _,_,_,rfl,rfl,_,_,rfl,rfl,by omega,_,_,rfl,rfl,(by show 2≤sizeLine;decide),fun c hc=>?_⟩⟩
  rw [Int.zero_add]
  have s4:=ah hc (.tup [.str "in",.int (2+bg ns (1+(i:Int))%(n - 1))])
  have s34:=s3.trans s4
  refine ⟨s34 _ _ hD2,aw (by omega),hi,?_,ao (s2.trans s34) hD⟩
  unfold inL at hys ⊢
  rw [← map_take]
  exact StpsAt.upd (s34 _ _ hD2) (StpsAt.snoc (hys.same s34) ad)
 rintro ys H2 ⟨_,hys,s2⟩ hD2
 rw [Int.toNat_natCast] at hys
 refine hu _ _ ?_
 have yl:ys.length=m:=by rw [Paired.length hys];unfold inL;rw [List.length_map,List.length_range]
 refine aP (pc (bR (gk (pv 3) (fun _=>rfl))
   (af (aJ (i:=4) sc_law_reckoning.nd rfl (Or.inl rfl) (aE jb (pv 4) (bw (aa (c7 (aa br (aa ak (aa ak ac)))) (aa (c7 (aa br (aa (pv 2) ac))) ac))))))
   aO)) fun u hu=>?_
 refine ⟨fun σ' H'=>∃ (d:Addr) (ws:List V) (ss:List Stp),σ'=[some (.ref a),some (.ref t),some (.int (m:Int)),some (.bl op),some (.ref d),none,none,none,none]∧Same H H'∧H d=none∧H' d=some (.lst ws)∧StpsAt H' ws ss∧Rk n m op ss∧1≤ss.length∧ss.length≤4,?_,?_⟩
 ·refine ⟨_,rfl,_,rfl,?_⟩
  refine bP (fun c0=>?_) (fun c0=>?_)
  ·have c0:op=true:=c0
   have m2:=hop c0
   subst m2
   subst c0
   refine ⟨_,rfl,(by show 3≤sizeLine;decide),fun d1 hd1=>?_⟩
   have u1:=ah hd1 (.tup [.str "sum",.int 0,.int 1])
   have z1:(upd H2 d1 (.tup [.str "sum",.int 0,.int 1])) d1=some (.tup (Stp.sum 0 1).vs):=ad
   generalize upd H2 d1 (.tup [.str "sum",.int 0,.int 1])=H3 at u1 z1
   refine ⟨_,rfl,(by show 2≤sizeLine;decide),fun d2 hd2=>?_⟩
   have u2:=ah hd2 (.tup [.str "open",.int ((2:Nat):Int)])
   have z2:(upd H3 d2 (.tup [.str "open",.int ((2:Nat):Int)])) d2=some (.tup (Stp.opn 2).vs):=ad
   generalize upd H3 d2 (.tup [.str "open",.int ((2:Nat):Int)])=H4 at u2 z2
   refine ⟨(by show 2≤sizeLine;decide),fun l hl=>?_⟩
   have u3:=ah hl (.lst [.ref d1,.ref d2])
   have z3:(upd H4 l (.lst [.ref d1,.ref d2])) l=some (.lst [.ref d1,.ref d2]):=ad
   generalize upd H4 l (.lst [.ref d1,.ref d2])=H5 at u3 z3
   have u13:=u1.trans (u2.trans u3)
   refine ⟨D,l,_,_,rfl,rfl,u13 _ _ hD2,z3,small (by show _+2≤1000;omega),fun o ho=>?_⟩
   have u4:=ah ho (.lst (ys++[.ref d1,.ref d2]))
   have u14:=u13.trans u4
   refine ⟨o,_,inL ns n 2++[.sum 0 1,.opn 2],rfl,s2.trans u14,(s2.trans u13).free ho,ad,i9 (hys.same u14) (.cons ⟨d1,rfl,(u2.trans (u3.trans u4)) _ _ z1⟩ (.cons ⟨d2,rfl,(u3.trans u4) _ _ z2⟩ .nil)),rk_op hn,?_⟩
   rw [List.length_append]
   unfold inL
   rw [List.length_map,List.length_range]
   exact ⟨by decide,by decide⟩
  ·have c0:¬ op=true:=c0
   have c0:op=false:=Bool.eq_false_iff.mpr c0
   subst c0
   refine ⟨D,ys,inL ns n m,rfl,s2,hD,hD2,hys,rk_in hn hm,?_⟩
   unfold inL
   rw [List.length_map,List.length_range]
   omega
 clear hD2 hys yl s2 hD
 rintro _ H2 ⟨d,ws,ss,rfl,s2,hd0,hd,hws,RK,l1,l4⟩
 refine hu _ _ ?_
 have m0:=Int.emod_nonneg (bg ns 4) (show (3:Int)≠0 by decide)
 have m1:=Int.emod_lt_of_pos (bg ns 4) (show (0:Int)<3 by decide)
 refine aP (cq PassesOwn.never rfl (c6 rfl B.range (aa (aE bZ (aj O_law_cell_at hr rfl (aa (pv 0) (aa ak ac))) ak) ac)) (au (i:=5) sc_law_reckoning.nd rfl (Or.inl rfl))
   (ae (aJ (i:=6) sc_law_reckoning.nd rfl (Or.inl rfl) (aj O_law_mix hr rfl (aa (aj O_law_cell_at hr rfl (aa (pv 0) (aa ak ac))) (aa (pv 5) (aa (aN aB rfl B.len PySem.boot_len (aa (pv 4) ac)) ac)))))
  (ae (aJ (i:=7) sc_law_reckoning.nd rfl (Or.inl rfl) (aj O_law_mix hr rfl (aa (aj O_law_cell_at hr rfl (aa (pv 0) (aa ak ac))) (aa (pv 5) (aa (aN aB rfl B.len PySem.boot_len (aa (pv 4) ac)) ac)))))
  (ae (aJ (i:=8) sc_law_reckoning.nd rfl (Or.inl rfl) (bw (aa (c7 (aa br (aa (pv 6) (aa (pv 7) ac)))) (aa (c7 (aa br (aa (pv 6) (aa ak ac)))) (aa (c7 (aa br (aa (pv 6) (aa (pv 7) ac)))) ac)))))
  (af (bv (gy PySem.F.plainAttrs_list PySem.F.slot_list_append PySem.F.type_list_append cj (pv 4) (aa (aX bf (pv 8) (aj O_law_mix hr rfl (aa (aj O_law_cell_at hr rfl (aa (pv 0) (aa ak ac))) (aa (pv 5) (aa ak ac)))) (fun _ _=>rfl)) ac)))))))) fun u hu=>?_
 refine ⟨_,rfl,a,ns,4,rfl,s2.seq hS,by decide,fun H3 s3=>⟨_,_,rfl,rfl,(by show (0:Int)<3;decide),bg ns 4%3,rfl,by omega,by omega,dC (fun i σ H'=>Same H H'∧∃ (ws:List V) (ss:List Stp) (v5 v6 v7 v8:Option V),σ=[some (.ref a),some (.ref t),some (.int (m:Int)),some (.bl op),some (.ref d),v5,v6,v7,v8]∧H' d=some (.lst ws)∧StpsAt H' ws ss∧Rk n m op ss∧1≤ss.length∧ss.length≤4+i) ⟨s2.trans s3,ws,ss,none,none,none,none,rfl,s3 _ _ hd,hws.same s3,RK,l1,l4⟩ ?_ ?_⟩⟩
 ·clear hd hws RK l1 l4 s2 s3
  rintro i σ H4 hi ⟨s4,ws,ss,v5,v6,v7,v8,rfl,hd,hws,RK,l1,l4⟩
  have wl:ws.length=ss.length:=Paired.length hws
  refine ⟨_,rfl,a,ns,5,rfl,s4.seq hS,by decide,fun H5 s5=>⟨_,rfl,_,rfl,d,_,rfl,.inl (SqL.of (s5 _ _ hd)),_,_,_,rfl,by omega,fun H6 s6=>?_⟩⟩
  have o0:=bX (c:=bg ns 5) (k:=0+(i:Int)) (m:=(ws.length:Int)) (by omega)
  have o1:=fh (c:=bg ns 5) (k:=0+(i:Int)) (m:=(ws.length:Int)) (by omega)
  dsimp only
  generalize nM (bg ns 5) (0+(i:Int)) (ws.length:Int)=one at o0 o1
  have s46:=s5.trans s6
  refine ⟨_,rfl,a,ns,6,rfl,(s4.trans s46).seq hS,by decide,fun H7 s7=>⟨_,rfl,_,rfl,d,_,rfl,.inl (SqL.of ((s46.trans s7) _ _ hd)),_,_,_,rfl,by omega,fun H8 s8=>?_⟩⟩
  have t0:=bX (c:=bg ns 6) (k:=0+(i:Int)) (m:=(ws.length:Int)) (by omega)
  have t1:=fh (c:=bg ns 6) (k:=0+(i:Int)) (m:=(ws.length:Int)) (by omega)
  dsimp only
  generalize nM (bg ns 6) (0+(i:Int)) (ws.length:Int)=two at t0 t1
  have s48:=s46.trans (s7.trans s8)
  refine ⟨_,rfl,_,rfl,(by show 3≤sizeLine;decide),fun w1 hw1=>?_⟩
  have u1:=ah hw1 (.tup [.str "less",.int one,.int two])
  have z1:(upd H8 w1 (.tup [.str "less",.int one,.int two])) w1=some (.tup (Stp.less one two).vs):=ad
  generalize upd H8 w1 (.tup [.str "less",.int one,.int two])=H9 at u1 z1
  refine ⟨_,rfl,(by show 3≤sizeLine;decide),fun w2 hw2=>?_⟩
  have u2:=ah hw2 (.tup [.str "by",.int one,.int 3])
  have z2:(upd H9 w2 (.tup [.str "by",.int one,.int 3])) w2=some (.tup (Stp.bye one 3).vs):=ad
  generalize upd H9 w2 (.tup [.str "by",.int one,.int 3])=H10 at u2 z2
  refine ⟨_,rfl,_,rfl,(by show 3≤sizeLine;decide),fun w3 hw3=>?_⟩
  have u3:=ah hw3 (.tup [.str "sum",.int one,.int two])
  have z3:(upd H10 w3 (.tup [.str "sum",.int one,.int two])) w3=some (.tup (Stp.sum one two).vs):=ad
  generalize upd H10 w3 (.tup [.str "sum",.int one,.int two])=H11 at u3 z3
  refine ⟨(by show 3≤sizeLine;decide),fun wl_ hwl=>?_⟩
  have u4:=ah hwl (.lst [.ref w1,.ref w2,.ref w3])
  have z4:(upd H11 wl_ (.lst [.ref w1,.ref w2,.ref w3])) wl_=some (.lst [.ref w1,.ref w2,.ref w3]):=ad
  generalize upd H11 wl_ (.lst [.ref w1,.ref w2,.ref w3])=H12 at u4 z4
  have u14:=u1.trans (u2.trans (u3.trans u4))
  have s412:=s48.trans u14
  have hd12:=s412 _ _ hd
  refine ⟨_,rfl,.inl ⟨rfl,_,SqL.of hd12⟩,_,rfl,_,rfl,a,ns,7,rfl,(s4.trans s412).seq hS,by decide,fun H13 s13=>⟨_,rfl,_,_,_,rfl,(by show (0:Int)<3;decide),fun H14 s14=>?_⟩⟩
  have x0:=bX (c:=bg ns 7) (k:=0+(i:Int)) (m:=3) (by decide)
  have x1:=fh (c:=bg ns 7) (k:=0+(i:Int)) (m:=3) (by decide)
  generalize nM (bg ns 7) (0+(i:Int)) 3=ix at x0 x1
  have s1314:=s13.trans s14
  have hX:∃ (wx:Addr) (z:Stp),atI [V.ref w1,V.ref w2,V.ref w3] ix=some (.ref wx)∧H14 wx=some (.tup z.vs)∧z.Right 5 n (ss.length:Int)∧z.need n=0∧(∀ x,z≠.ein x)∧∀ x,z≠.opn x:=by
   rcases (show ix=0∨ix=1∨ix=2 by omega) with e | e | e<;>subst e
   ·exact ⟨w1,.less one two,rfl,(u2.trans (u3.trans (u4.trans s1314))) _ _ z1,⟨⟨o0,by omega⟩,t0,by omega⟩,rfl,(fun x z=>nomatch z),(fun x z=>nomatch z)⟩
   ·exact ⟨w2,.bye one 3,rfl,(u3.trans (u4.trans s1314)) _ _ z2,⟨⟨o0,by omega⟩,by decide,by decide⟩,rfl,(fun x z=>nomatch z),(fun x z=>nomatch z)⟩
   ·exact ⟨w3,.sum one two,rfl,(u4.trans s1314) _ _ z3,⟨⟨o0,by omega⟩,t0,by omega⟩,rfl,(fun x z=>nomatch z),(fun x z=>nomatch z)⟩
  obtain ⟨wx,z,ax,hz,zr,zn,ze,zo⟩:=hX
  refine ⟨wl_,_,_,.ref wx,rfl,rfl,SqL.of (s1314 _ _ z4),ax,d,_,_,rfl,rfl,s1314 _ _ hd12,aw (by omega),?_⟩
  refine ⟨ao (s4.trans (s412.trans s1314)) hd0,_,ss++[z],_,_,_,_,rfl,ad,StpsAt.upd (s1314 _ _ hd12) (StpsAt.snoc (hws.same (s412.trans s1314)) hz),RK.snoc zr zn ze zo,?_⟩
  rw [List.length_append]
  show 1≤ss.length+1∧ss.length+1≤4+(i+1)
  omega
 ·rintro σ H4 ⟨s4,ws,ss,v5,v6,v7,v8,rfl,hd,hws,RK,l1,l4⟩
  refine hu _ _ ?_
  refine ⟨_,(af (az (pv 4))),?_⟩
  exact ⟨_,rfl,q d H4 ws ss s4 hd0 hd hws RK l1 (by omega)⟩
theorem sc_law_counted:aq ["table","steps","inputs","many","due","rows","turn"] ["table","steps","inputs","many","due"] (am cL):=⟨rfl,rfl,rfl,by decide +kernel,rfl,by decide +kernel,by decide +kernel⟩
theorem pE {cS cI cC cH:Addr} (F:Src K mg "_law_counted" "_law_counted" cL ["table","steps","inputs","many","due"]) (B:Blt mg) (T:Tab K C) (O_law_longer:Ok P w K mg base CX0 1 "_law_longer" ["rows","prime"] jt) (O_seen:Ok P w K mg base CX0 10 "seen" ["table","steps","inputs","chance","some"] (fun vs H Q _=>jo C cS cI cC cH vs H Q E0)):Ok P w K mg base CX0 11 "_law_counted" ["table","steps","inputs","many","due"] (jv C):=by
 refine F.ok sc_law_counted (fun vs H Q E h=>?_) (fun f cdv A outer s H vs Q E hr h=>?_)
 ·obtain ⟨t,a,b,d,n,m,ws,ss,is,inp,lvs,due,rfl,_⟩:=h
  rfl
 obtain ⟨t,sa,ia,da,n,m,ws,ss,is,inp,lvs,due,rfl,T1,hn,hm,hsa,hss,ok0,hia,hin,il,okI,hnd,hda,hdl,q⟩:=h
 obtain ⟨dx,ht⟩:=id T1
 refine aP (aJ (i:=5) sc_law_counted.nd rfl (Or.inl rfl) (bw (aa (bw ac) ac))) fun u hu=>?_
 refine ⟨(by show 0≤sizeLine;decide),fun a ha=>⟨(by show 1≤sizeLine;decide),fun l hl=>hu _ _ ?_⟩⟩
 have s1:Same H (upd H a (.lst [])):=ah ha _
 have s2:=ah hl (.lst [.ref a])
 have hal:a≠l:=aD (show upd H a (.lst []) a=some (.lst []) from ad) hl
 refine aP (cq PassesOwn.never rfl (c6 rfl B.range (aa (pv 3) ac)) (au (i:=6) sc_law_counted.nd rfl (Or.inl rfl))
   (af (aJ (i:=5) sc_law_counted.nd rfl (Or.inl rfl) (aj O_law_longer hr rfl (aa (pv 5) (aa (aI (pv 0) rfl) ac)))))) fun u hu=>?_
 refine ⟨_,rfl,(m:Int),rfl,by omega,by omega,dC (fun i σ H2=>i≤m∧Same H H2∧∃ (d:Addr) (rs:List V) (v:Option V),σ=[some (.ref t),some (.ref sa),some (.ref ia),some (.int (m:Int)),some (.ref da),some (.ref d),v]∧H2 d=some (.lst rs)∧LLAt d H2 rs (bC 5 i)) ?_ ?_ ?_⟩
 ·refine ⟨Nat.zero_le _,s1.trans s2,l,_,none,rfl,ad,.cons ⟨a,rfl,hal,?_⟩ .nil⟩
  rw [ar hal,ad]
  rfl
 ·rintro i σ H2 hi ⟨_,g2,d,rs,v,rfl,hd2,hws⟩
  rw [Int.toNat_natCast] at hi
  have lw:(bC 5 i).length≤200:=by
   match i,(show i<2 by omega) with
   | 0,_=>decide
   | 1,_=>decide
  refine ⟨_,rfl,_,rfl,t,C,dx,_,_,rfl,g2 _ _ ht,T.cl,T.nP,kR _ _ _,d,d,5,rs,_,rfl,by decide,by decide,hd2,hws,lw,fun r hr=>by rw [dS 5 i r hr];omega,fun d' H3 rs' s3 hd' hd3 hws'=>?_⟩
  exact ⟨hi,g2.trans s3,d',rs',_,rfl,hd3,hws'⟩
 rintro σ H2 ⟨_,g2,d,rs,v,rfl,hd2,hws⟩
 rw [Int.toNat_natCast] at hws
 refine hu _ _ ?_
 have rl:rs.length=(bC 5 m).length:=hws.len
 have lm:(bC 5 m).length≤25:=by
  rcases hm with e | e<;>subst e<;>decide
 refine ⟨_,(af (az (aN aB rfl B.len PySem.boot_len (aa (bS ["row"] [("due",4),("table",0),("steps",1),("inputs",2)]  (bL (pv 5)) rfl (fun C s0 H0 ex=>by exact (au (i:=0) (show List.Nodup [("row":Str),"due","table","steps","inputs"] by decide +kernel) rfl (Or.inl rfl))) (fun C s0 H0 ex=>by exact (lf (aK (op_eqD (hr.units)) (aX (lE K) (aj O_seen hr rfl (aa (pv 2) (aa (pv 3) (aa (pv 4) (aa (pv 0) (aa (bw (aa ak ac)) ac)))))) ak (fun _ _=>rfl)) (pv 1) (aU _)))) (fun C s0 H0 ex=>by exact (pv 0))) ac)))),?_⟩
 refine ⟨_,rfl,d,rfl,⟨_,SqL.of hd2⟩,fun D hD=>?_⟩
 refine bF (K:=K) (a:=d) (xs:=rs) (fun i ys H4=>Same H2 H4∧i≤rs.length∧ys.length=(((bC 5 m).take i).filter fun r=>decide (bG [1] (iQ 5 n 1 ss inp r).2=due)).length) ⟨ao (Same.refl _) hD,Nat.zero_le _,rfl⟩ ?_ ?_ ?_
 ·rintro i ys H4 _ ⟨s4,_⟩
  exact SqL.of (s4 _ _ hd2)
 ·rintro i y ys H4 hy ⟨s4,hi,yl⟩ hD4
  obtain ⟨ra,row,rfl,_,hra,hrow⟩:=hws.get hy
  have il':i<rs.length:=(List.getElem?_eq_some_iff.mp hy).1
  have rm:=List.mem_of_getElem? hrow
  have rlen:=dS 5 m row rm
  have okC:dU 5 1 n ss row=true:=chan_iff.mpr ⟨by rw [hnd,rlen],iJ 5 m row rm⟩
  have g4:=g2.trans s4
  have yb:ys.length≤25:=by
   rw [yl]
   refine Nat.le_trans (List.length_filter_le _ _) ?_
   rw [List.length_take]
   omega
  refine ⟨⟨rfl,rfl⟩,?_⟩
  refine ⟨_,rfl,_,rfl,_,rfl,_,rfl,(by show 1≤sizeLine;decide),fun l1 hl1=>?_⟩
  have s5:=ah hl1 (.lst [.int 1])
  have z5:(upd H4 l1 (.lst [.int 1])) l1=some (.lst (([1]:List Int).map V.int)):=ad
  generalize upd H4 l1 (.lst [.int 1])=H5 at s5 z5
  have g5:=g4.trans s5
  refine ⟨t,sa,ia,ra,l1,5,n,1,ws,ss,is,inp,row,[1],rfl,T1.same g5,by decide,by omega,by omega,.inl rfl,by omega,g5 _ _ hsa,hss.same g5,g5 _ _ hia,hin.same g5,il,(s4.trans s5) _ _ hra,by omega,z5,by decide,fun _ _ _ _ d1 o1 u1 l1' os1 lv1 H6 s6 _ _ _ _ _ _ _ _ _ _ _ _ hd1 ho1 hI1 hu1 hl1' hL1=>?_,fun z=>absurd (ok0.symm.trans z) (by decide),fun _ z=>absurd (okI.symm.trans z) (by decide),fun _ _ z=>absurd (okC.symm.trans z) (by decide),fun _ _ _ z=>absurd z (by rw [risB_iff.mpr ⟨fun h hh=>by rw [List.mem_singleton.mp hh];omega,List.pairwise_singleton _ _⟩];decide)⟩
  have g6:=g5.trans s6
  have hL1:LetsAt H6 lv1 (bG [1] (iQ 5 n 1 ss inp row).2):=hL1
  refine ⟨d1,_,_,.ref l1',rfl,rfl,SqT.of hd1,rfl,_,rfl,?_⟩
  refine ⟨_,_,decide (bG [1] (iQ 5 n 1 ss inp row).2=due),.lst hl1' hL1.rep,.lst (g6 _ _ hda) (hdl.same g6).rep,pO _,pO _,by rw [decide_eq_true_eq,p6],_,rfl,?_⟩
  have s46:=s4.trans (s5.trans s6)
  have ec:(((bC 5 m).take (i+1)).filter fun r=>decide (bG [1] (iQ 5 n 1 ss inp r).2=due)).length=(((bC 5 m).take i).filter fun r=>decide (bG [1] (iQ 5 n 1 ss inp r).2=due)).length+(if decide (bG [1] (iQ 5 n 1 ss inp row).2=due)=true then 1 else 0):=by
   rw [← cW hrow,List.filter_append,List.length_append,List.filter_cons,List.filter_nil]
   congr 1
   split<;>rfl
  refine bP (fun c1=>?_) (fun c1=>?_)
  ·rw [if_pos c1] at ec
   refine ⟨_,rfl,(s5.trans s6) _ _ hD4,aw (by omega),ao s46 hD,il',?_⟩
   rw [List.length_append,ec,yl]
   rfl
  ·rw [if_neg c1] at ec
   exact ⟨(s5.trans s6) _ _ hD4,s46,il',by rw [ec,yl];rfl⟩
 ·rintro ys H4 ⟨s4,_,yl⟩ hD4
  rw [rl,List.take_length] at yl
  refine ⟨D,_,rfl,.inl (SqL.of hD4),?_⟩
  rw [yl]
  exact q H4 (g2.trans s4)
end
section
variable {P:Program}{w:World}{K:PySem.W.Frag}{mg:Str→Option Value}{base:Heap}{C pa:Addr}
theorem sc_law:aq ["script","table","many","opened","steps","inputs","others","one","two","place","total","chance","due","ones"] ["script"] (am s_law):=⟨rfl,rfl,rfl,by decide +kernel,rfl,by decide +kernel,by decide +kernel⟩
theorem ok_law {e cS cI cC cH:Addr}{ed:FuncData} (F:Fun K "law" "law" s_law e ed) (B:Blt mg) (T:Tab K C) (O_Table:MkOk P w K mg base CX0 2 "Table" C ["self","prime","hands","few"] (lZ C)) (O_law_cell_at:Ok P w K mg base CX0 1 "_law_cell_at" ["script","k"] (l7 K)) (O_law_mix:Ok P w K mg base CX0 1 "_law_mix" ["cell","k","many"] oV) (O_law_reckoning:Ok P w K mg base CX0 2 "_law_reckoning" ["script","table","many","opened"] (oT K C))
  (O_law_inputs_by:Ok P w K mg base CX0 2 "_law_inputs_by" ["cell","steps","table"] (fT C)) (O_law_counted:Ok P w K mg base CX0 11 "_law_counted" ["table","steps","inputs","many","due"] (jv C)) (O_seen:Ok P w K mg base CX0 10 "seen" ["table","steps","inputs","chance","some"] (fun vs H Q _=>jo C cS cI cC cH vs H Q E0)):gD P w K mg base CX0 12 e ed ["script"] (spLaw K):=by
 refine F.ok sc_law (fun vs H Q E h=>?_) (fun cdv A outer s H vs Q E hr h=>?_)
 ·obtain ⟨a,ns,rfl,_⟩:=h
  rfl
 obtain ⟨a,ns,rfl,hS,h63,q⟩:=h
 have n0:=Int.emod_nonneg (bg ns 0) (show (2:Int)≠0 by decide)
 have n1:=Int.emod_lt_of_pos (bg ns 0) (show (0:Int)<2 by decide)
 have m0:=Int.emod_nonneg (bg ns 0 / 2) (show (2:Int)≠0 by decide)
 have m1:=Int.emod_lt_of_pos (bg ns 0 / 2) (show (0:Int)<2 by decide)
 obtain ⟨n,hnE⟩:∃ n:Int,3+bg ns 0%2=n:=⟨_,rfl⟩
 have hn:n=3∨n=4:=by omega
 obtain ⟨m,hmE⟩:∃ m:Nat,1+bg ns 0 / 2%2=(m:Int):=⟨(1+bg ns 0 / 2%2).toNat,by omega⟩
 have hm:m=1∨m=2:=by omega
 refine aP (aJ (i:=1) sc_law.nd rfl (Or.inl rfl) (ms O_Table hr rfl (aa ak (aa (aE bM ak (aE bZ (aj O_law_cell_at hr rfl (aa (pv 0) (aa ak ac))) ak)) (aa ak ac))))) fun u hu=>?_
 refine ⟨_,rfl,a,ns,0,rfl,hS,Int.le_refl 0,fun H1 s1=>⟨_,_,rfl,rfl,(by show (0:Int)<2;decide),_,_,rfl,rfl,fun t dx ht0 hdx0 hne=>?_⟩⟩
 refine ⟨t,dx,5,n,1,(by show [V.ref t,V.int 5,V.int (3+bg ns 0%2),V.int 1]=_;rw [hnE]),ad,isTB5 hn,fun H2 k2 T2=>⟨rfl,hu _ _ ?_⟩⟩
 have s2:Same H1 H2:=fun b o e=>by
  refine k2 b o ?_ (aD e ht0)
  rw [ar (aD e ht0),ar (aD e hdx0)]
  exact e
 have sH2:=s1.trans s2
 clear k2 s1 s2 hne hdx0 ht0
 refine aP (aJ (i:=2) sc_law.nd rfl (Or.inl rfl) (aE bM ak (aE bZ (aE pq (aj O_law_cell_at hr rfl (aa (pv 0) (aa ak ac))) ak) ak))) fun u hu=>?_
 refine ⟨_,rfl,a,ns,0,rfl,sH2.seq hS,Int.le_refl 0,fun H3 s3=>⟨_,_,rfl,rfl,⟨by decide,by decide⟩,_,_,rfl,rfl,(by show (0:Int)<2;decide),_,_,rfl,rfl,hu _ _ ?_⟩⟩
 dsimp only
 rw [hmE]
 have sH3:=sH2.trans s3
 have T3:=T2.same s3
 obtain ⟨dx',ht3⟩:=id T3
 refine aP (aJ (i:=3) sc_law.nd rfl (Or.inl rfl) (mt (fg op_gt (pv 2) ak (aU _)) (pj (fg dA (aE bZ (aj O_law_cell_at hr rfl (aa (pv 0) (aa ak ac))) ak) ak (aU _))))) fun u hu=>?_
 have next:∀ (op:Bool) (H4:Hp),Same H3 H4→(op=true→m=2)→u [some (.ref a),some (.ref t),some (.int (m:Int)),some (.bl op),none,none,none,none,none,none,none,none,none,none] H4:=by
  intro op H4 s4 hop
  refine hu _ _ ?_
  have sH4:=sH3.trans s4
  have T4:=T3.same s4
  refine aP (aJ (i:=4) sc_law.nd rfl (Or.inl rfl) (aj O_law_reckoning hr rfl (aa (pv 0) (aa (pv 1) (aa (pv 2) (aa (pv 3) ac)))))) fun u hu=>?_
  refine ⟨_,rfl,_,rfl,_,rfl,_,rfl,a,t,ns,m,op,n,rfl,sH4.seq hS,T4,hn,hm,hop,fun sa H5 ws ss s5 hsa0 hsa hss RK l1 l6=>hu _ _ ?_⟩
  have T5:=T4.same s5
  have hS5:=(sH4.trans s5).seq hS
  have hR:=RK.R
  have ok0:aT 5 n ss=true:=rightsB_iff.mpr ⟨by omega,hR⟩
  clear sH4 T4
  refine aP (aJ (i:=5) sc_law.nd rfl (Or.inl rfl) (aj O_law_inputs_by hr rfl (aa (aj O_law_cell_at hr rfl (aa (pv 0) (aa ak ac))) (aa (pv 4) (aa (pv 1) ac))))) fun u hu=>?_
  refine ⟨_,rfl,a,ns,9,rfl,hS5,by decide,fun H6 s6=>⟨_,rfl,_,rfl,sa,t,_,_,_,_,ws,ss,rfl,T5.same s6,by omega,by omega,s6 _ _ hsa,hss.same s6,by omega,fun ia H7 is s7 hia0 hia ind iani ifr hin=>hu _ _ ?_⟩⟩
  have IO:InsOk 5 n ss (aW (bg ns 9) 5 ss n.toNat):=iB (by omega) (by omega)
  have il:∀ r∈aW (bg ns 9) 5 ss n.toNat,r.length≤200:=fun r hr=>by
   unfold aW at hr
   obtain ⟨i,_,rfl⟩:=List.mem_map.mp hr
   have:=(inBy_len (c:=bg ns 9) (p:=5) (ss:=ss) (h:=1+(i:Int))).2
   omega
  generalize aW (bg ns 9) 5 ss n.toNat=inp at hin IO il
  have okI:gq 5 n ss inp=true:=(gL (by omega)).mpr IO
  have s67:=s6.trans s7
  refine aP (aJ (i:=6) sc_law.nd rfl (Or.inl rfl) (aj O_law_inputs_by hr rfl (aa (aj O_law_cell_at hr rfl (aa (pv 0) (aa ak ac))) (aa (pv 4) (aa (pv 1) ac))))) fun u hu=>?_
  refine ⟨_,rfl,a,ns,10,rfl,s67.seq hS5,by decide,fun H8 s8=>⟨_,rfl,_,rfl,sa,t,_,_,_,_,ws,ss,rfl,T5.same (s67.trans s8),by omega,by omega,(s67.trans s8) _ _ hsa,hss.same (s67.trans s8),by omega,fun oa H9 os s9 hoa0 hoa osn oan osf hot=>hu _ _ ?_⟩⟩
  have OO:InsOk 5 n ss (aW (bg ns 10) 5 ss n.toNat):=iB (by omega) (by omega)
  have ol:∀ r∈aW (bg ns 10) 5 ss n.toNat,r.length≤200:=fun r hr=>by
   unfold aW at hr
   obtain ⟨i,_,rfl⟩:=List.mem_map.mp hr
   have:=(inBy_len (c:=bg ns 10) (p:=5) (ss:=ss) (h:=1+(i:Int))).2
   omega
  generalize aW (bg ns 10) 5 ss n.toNat=oth at hot OO ol
  have s68:=s67.trans s8
  have hsa8:=s68 _ _ hsa
  have hss8:=hss.same s68
  have hia8:=s8 _ _ hia
  have hin8:=hin.same s8
  have T8:=T5.same s68
  have hS8:=s68.seq hS5
  obtain ⟨dy,ht8⟩:=id T8
  clear hsa hss hia hin T5 hS5 s5 s6 s7 s67 s8 s68 s4 ind iani ifr hia0 hsa0
  refine aP (pc (bR (gk (pv 3) (fun _=>rfl))
   (ae (ps_par (i:=7) (j:=8) rfl sc_law.nd rfl rfl (by decide) rfl rfl (aa (aE eC (aX bO (aX bf (pv 4) ak (fun _ _=>rfl)) ak (fun _ _=>rfl)) ak) (aa (aE eC (aX bO (aX bf (pv 4) ak (fun _ _=>rfl)) ak (fun _ _=>rfl)) ak) ac)) rfl)
  (ae (aJ (i:=9) sc_law.nd rfl (Or.inl rfl) (kh qo rfl B.int PyProof.Rows.boot_int (aa (fg dA (pv 7) (pv 8) (aU _)) ac)))
  (ae (aJ (i:=10) sc_law.nd rfl (Or.inl rfl) (aE bM (aX bf (aX bf (pv 5) (pv 7) (fun _ _=>rfl)) ak (fun _ _=>rfl)) (aX bf (aX bf (pv 5) (pv 8) (fun _ _=>rfl)) (pv 9) (fun _ _=>rfl))))
  (af (ps_asg (aE bZ (aE eC (pv 10) (aX bf (aX bf (pv 6) (pv 7) (fun _ _=>rfl)) ak (fun _ _=>rfl))) ak) (pg_sub (aX bf (pv 6) (pv 8) (fun _ _=>rfl)) (pv 9) set_list))))))
   aO)) fun u hu=>?_
  refine ⟨fun σ' H'=>∃ (v7 v8 v9 v10:Option V) (oth':LL),σ'=[some (.ref a),some (.ref t),some (.int (m:Int)),some (.bl op),some (.ref sa),some (.ref ia),some (.ref oa),v7,v8,v9,v10,none,none,none]∧Same H8 H'∧H' oa=some (.lst (os.map V.ref))∧InsAt H' os oth'∧InsOk 5 n ss oth'∧(∀ r∈oth',r.length≤200)∧c9 5 ss inp oth' [1]=true,?_,?_⟩
  ·refine ⟨_,rfl,_,rfl,?_⟩
   refine bP (fun c0=>?_) (fun c0=>?_)
   ·have c0:op=true:=c0
    obtain ⟨h1,h2,rest,hE,b1,b2,hrest⟩:=RK.op c0
    subst hE
    obtain ⟨d1,d2,ws',hws,z1,z2⟩:=stps2 (hss8.same s9)
    have hsa9:=s9 _ _ hsa8
    rw [hws] at hsa9
    refine ⟨_,rfl,sa,_,_,.ref d1,rfl,rfl,SqL.of hsa9,fq (j:=0) rfl,d1,_,_,.int h1,rfl,rfl,SqT.of z1,fq (j:=1) rfl,_,_,rfl,rfl,_,rfl,sa,_,_,.ref d2,rfl,rfl,SqL.of hsa9,fq (j:=1) rfl,d2,_,_,.int h2,rfl,rfl,SqT.of z2,fq (j:=1) rfl,_,_,rfl,rfl,_,_,rfl,?_⟩
    obtain ⟨pl,hplE⟩:∃ pl:Nat,pl=if h1=h2 then 1 else 0:=⟨_,rfl⟩
    have hpl:(if decide (V.int (h1 - 1)=V.int (h2 - 1)) then (1:Int) else 0)=(pl:Int):=by
     by_cases e:h1=h2
     ·rw [hplE,if_pos e,e,if_pos (by simp)]
      rfl
     ·rw [hplE,if_neg e,if_neg (by intro z;have:=of_decide_eq_true z;injection this with this;omega)]
      rfl
    refine ⟨_,rfl,_,rfl,rfl,.inr ⟨_,rfl,?_⟩⟩
    dsimp only
    rw [hpl]
    have en1:=IO.en h1 (by omega) (by omega)
    have en2:=IO.en h2 (by omega) (by omega)
    have eo1:=OO.en h1 (by omega) (by omega)
    have eo2:=OO.en h2 (by omega) (by omega)
    have hd:=heads_of h1 h2 (.sum 0 1::.opn 2::rest)
    have q1:1≤aS (Stp.ein h1::.ein h2::.sum 0 1::.opn 2::rest) h1:=by have:=hd.1;split at this<;>omega
    have q2:pl<aS (Stp.ein h1::.ein h2::.sum 0 1::.opn 2::rest) h2:=by
     have:=hd.2
     by_cases e:h1=h2
     ·rw [if_pos e] at this hplE
      omega
     ·rw [if_neg e] at this hplE
      omega
    obtain ⟨e1,at1,_,y1⟩:=jO (hin8.same s9) IO.len (x:=h1) (by omega) (by omega)
    obtain ⟨e2,at2,_,y2⟩:=jO (hin8.same s9) IO.len (x:=h2) (by omega) (by omega)
    obtain ⟨f1,at3,_,y3⟩:=jO hot OO.len (x:=h1) (by omega) (by omega)
    obtain ⟨f2,at4,gf2,y4⟩:=jO hot OO.len (x:=h2) (by omega) (by omega)
    have ax1:=fj (fd:=bI inp h1) (a:=0) (by decide) (by omega)
    have ax2:=fj (fd:=bI inp h2) (a:=(pl:Int)) (by omega) (by omega)
    have ax3:=fj (fd:=bI oth h1) (a:=0) (by decide) (by omega)
    have hia9:=s9 _ _ hia8
    refine ⟨_,rfl,_,rfl,ia,_,_,.ref e1,rfl,rfl,SqL.of hia9,at1,e1,_,_,_,rfl,rfl,SqL.of y1,ax1,_,rfl,_,rfl,ia,_,_,.ref e2,rfl,rfl,SqL.of hia9,at2,_,rfl,e2,_,_,_,rfl,rfl,SqL.of y2,ax2,_,_,rfl,rfl,?_⟩
    refine ⟨_,rfl,_,rfl,_,rfl,oa,_,_,.ref f1,rfl,rfl,SqL.of hoa,at3,f1,_,_,_,rfl,rfl,SqL.of y3,ax3,_,_,rfl,rfl,_,_,rfl,rfl,(by show (0:Int)<5;decide),_,rfl,_,rfl,oa,_,_,.ref f2,rfl,rfl,SqL.of hoa,at4,_,rfl,f2,_,_,pl,rfl,rfl,y4,by rw [List.length_map];exact nV (k:=(pl:Int)) (by omega) (by omega),?_⟩
    dsimp only
    rw [Int.toNat_natCast]
    obtain ⟨v,hv⟩:∃ v,((bI inp h1).getD (0:Int).toNat 0+(bI inp h2).getD pl 0 - (bI oth h1).getD (0:Int).toNat 0)%5=v:=⟨_,rfl⟩
    rw [hv]
    have v0:=Int.emod_nonneg ((bI inp h1).getD (0:Int).toNat 0+(bI inp h2).getD pl 0 - (bI oth h1).getD (0:Int).toNat 0) (show (5:Int)≠0 by decide)
    have v1:=Int.emod_lt_of_pos ((bI inp h1).getD (0:Int).toNat 0+(bI inp h2).getD pl 0 - (bI oth h1).getD (0:Int).toNat 0) (show (0:Int)<5 by decide)
    rw [hv] at v0 v1
    have fm:f2∈os:=List.mem_of_getElem? gf2
    have foa:oa≠f2:=fun z=>oan (by rw [z];exact fm)
    rw [show ((bI oth h2).map V.int).set pl (.int v)=((bI oth h2).set pl v).map V.int by rw [List.map_set]]
    have OO':InsOk 5 n (.ein h1::.ein h2::.sum 0 1::.opn 2::rest) (oth.set (h2 - 1).toNat ((bI oth h2).set pl v)):=OO.put (by omega) (by omega) (fun x hx=>by
     rcases List.mem_or_eq_of_mem_set hx with z | z
     ·exact OO.at (by omega) (by omega) x z
     ·rw [z];exact ⟨v0,v1⟩) (by rw [List.length_set];exact eo2)
    refine ⟨_,_,_,_,oth.set (h2 - 1).toNat ((bI oth h2).set pl v),rfl,ao s9 (osf f2 fm),(ar foa).trans hoa,InsAt.put hot osn gf2,OO',fun r hr=>?_,?_⟩
    ·rcases List.mem_or_eq_of_mem_set hr with z | z
     ·exact ol r z
     ·rw [z,List.length_set]
      exact ol _ (gO (by rw [OO.len];omega))
    ·exact qu hplE (by omega) (by omega) RK.own hrest hR IO OO OO' (by omega) hv.symm
   ·have c0:¬ op=true:=c0
    have cl:=RK.cl (Bool.eq_false_iff.mpr c0)
    refine ⟨_,_,_,_,oth,rfl,s9,hoa,hot,OO,ol,mY (fun h hh=>?_) fun i x hi=>absurd rfl (cl _ (List.mem_of_getElem? hi) x)⟩
    rw [List.mem_singleton.mp hh,RK.own]
    rfl
  clear hoa hot OO ol
  rintro _ H10 ⟨v7,v8,v9,v10,oth',rfl,s10,hoa,hot,OO,ol,okA⟩
  refine hu _ _ ?_
  have okO:gq 5 n ss oth'=true:=(gL (by omega)).mpr OO
  have il':∀ r∈inp,r.length≤1000:=fun r h=>Nat.le_trans (il r h) (by decide)
  have ol':∀ r∈oth',r.length≤1000:=fun r h=>Nat.le_trans (ol r h) (by decide)
  refine aP (bY 11 ["k"] [("script",0)] sc_law.nd  (c6 rfl B.range (aa (pv 2) ac)) rfl (fun C s0 H0 ex=>by exact (au (i:=0) (show List.Nodup [("k":Str),"script"] by decide +kernel) rfl (Or.inl rfl))) (fun C s0 H0 ex=>by exact bp) (fun C s0 H0 ex=>by exact (aj O_law_mix hr rfl (aa (aj O_law_cell_at hr rfl (aa (pv 1) (aa ak ac))) (aa (pv 0) (aa ak ac)))))) fun u hu=>?_
  refine ⟨_,rfl,(m:Int),rfl,by omega,by omega,fun ca hca0=>?_⟩
  refine cT (fun j ys H11=>j≤m∧ys=((List.range j).map fun i:Nat=>nM (bg ns 11) (i:Int) 5).map V.int∧Same H10 H11) ⟨Nat.zero_le _,rfl,ao (Same.refl _) hca0⟩ ?_ ?_
  ·rintro j ys H11 hj ⟨_,rfl,s11⟩ hD11
   rw [Int.toNat_natCast] at hj
   refine ⟨⟨rfl,rfl⟩,?_⟩
   refine ⟨_,rfl,a,ns,11,rfl,(s10.trans s11).seq hS8,by decide,fun H12 s12=>⟨_,rfl,_,_,_,rfl,(by show (0:Int)<5;decide),fun H13 s13=>⟨(s12.trans s13) _ _ hD11,?_,hj,?_,ao (s11.trans (s12.trans s13)) hca0⟩⟩⟩
   ·rw [List.length_map,List.length_map,List.length_range]
    exact aw (by omega)
   ·rw [← map_take,List.map_append,Int.zero_add]
    rfl
  rintro ys H11 ⟨_,rfl,s11⟩ hca
  rw [Int.toNat_natCast] at hca
  refine hu _ _ ?_
  have chl:((List.range m).map fun i:Nat=>nM (bg ns 11) (i:Int) 5).length=m:=by rw [List.length_map,List.length_range]
  have chb:∀ v∈(List.range m).map fun i:Nat=>nM (bg ns 11) (i:Int) 5,0≤v∧v<5:=fun v hv=>by
   obtain ⟨i,_,rfl⟩:=List.mem_map.mp hv
   exact ⟨bX (by decide),fh (by decide)⟩
  generalize (List.range m).map (fun i:Nat=>nM (bg ns 11) (i:Int) 5)=ch at hca chl chb
  have okC:dU 5 1 n ss ch=true:=chan_iff.mpr ⟨by rw [RK.nd,chl],chb⟩
  have g11:=s10.trans s11
  have okH:risB n [1]=true:=risB_iff.mpr ⟨fun h hh=>by rw [List.mem_singleton.mp hh];omega,List.pairwise_singleton _ _⟩
  refine aP (aJ (i:=12) sc_law.nd rfl (Or.inl rfl) (aX bO (aj O_seen hr rfl (aa (pv 1) (aa (pv 4) (aa (pv 5) (aa (pv 11) (aa (bw (aa ak ac)) ac)))))) ak (fun _ _=>rfl))) fun u hu=>?_
  refine ⟨_,rfl,_,rfl,_,rfl,_,rfl,(by show 1≤sizeLine;decide),fun l1' hl1=>?_⟩
  have s12:=ah hl1 (.lst [.int 1])
  have z12:(upd H11 l1' (.lst [.int 1])) l1'=some (.lst (([1]:List Int).map V.int)):=ad
  generalize upd H11 l1' (.lst [.int 1])=H12 at s12 z12
  have g12:=g11.trans s12
  refine ⟨t,sa,ia,ca,l1',5,n,1,ws,ss,is,inp,ch,[1],rfl,T8.same g12,by decide,by omega,by omega,.inl rfl,by omega,g12 _ _ hsa8,hss8.same g12,g12 _ _ hia8,hin8.same g12,il',s12 _ _ hca,by omega,z12,by decide,fun _ _ _ _ d1 o1 u1 la os1 lv1 H13 s13 _ _ _ _ _ _ _ _ _ _ _ _ hd1 ho1 hI1 hu1 hla hL1=>?_,fun z=>absurd (ok0.symm.trans z) (by decide),fun _ z=>absurd (okI.symm.trans z) (by decide),fun _ _ z=>absurd (okC.symm.trans z) (by decide),fun _ _ _ z=>absurd (okH.symm.trans z) (by decide)⟩
  have hL1:LetsAt H13 lv1 (bG [1] (iQ 5 n 1 ss inp ch).2):=hL1
  refine ⟨d1,_,_,.ref la,rfl,rfl,SqT.of hd1,rfl,hu _ _ ?_⟩
  have g13:=g12.trans s13
  have pos:0<cntS n m ss inp (bG [1] (iQ 5 n 1 ss inp ch).2):=by
   unfold cntS
   exact List.length_pos_of_mem (List.mem_filter.mpr ⟨fu 5 m ch chl chb,decide_eq_true rfl⟩)
  have ceq:=cntS_eq hn hm ⟨by omega,by omega⟩ hR RK.nd IO OO okA (bG [1] (iQ 5 n 1 ss inp ch).2)
  generalize bG [1] (iQ 5 n 1 ss inp ch).2=due at hL1 pos ceq
  refine aP (aJ (i:=13) sc_law.nd rfl (Or.inl rfl) (aj O_law_counted hr rfl (aa (pv 1) (aa (pv 4) (aa (pv 5) (aa (pv 2) (aa (pv 12) ac))))))) fun u hu=>?_
  refine ⟨_,rfl,_,rfl,_,rfl,_,rfl,_,rfl,t,sa,ia,la,n,m,ws,ss,is,inp,lv1,due,rfl,T8.same g13,hn,hm,g13 _ _ hsa8,hss8.same g13,ok0,g13 _ _ hia8,hin8.same g13,il',okI,RK.nd,hla,hL1,fun H14 s14=>hu _ _ ?_⟩
  have g14:=g13.trans s14
  have k14:=s11.trans (s12.trans (s13.trans s14))
  refine ⟨_,(af (az (mt (fg op_gt (pv 13) ak (aU _)) (pj (fg dA (pv 13) (aj O_law_counted hr rfl (aa (pv 1) (aa (pv 4) (aa (pv 6) (aa (pv 2) (aa (pv 12) ac)))))) (aU _)))))),?_⟩
  refine ⟨_,rfl,_,_,rfl,rfl,_,rfl,?_⟩
  refine bP (fun _=>?_) (fun z=>absurd (decide_eq_true (by omega)) z)
  refine ⟨_,rfl,_,rfl,_,rfl,_,rfl,_,rfl,_,rfl,t,sa,oa,la,n,m,ws,ss,os,oth',lv1,due,rfl,T8.same g14,hn,hm,g14 _ _ hsa8,hss8.same g14,ok0,k14 _ _ hoa,hot.same k14,ol',okO,RK.nd,s14 _ _ hla,hL1.same s14,fun H15 s15=>⟨rfl,?_⟩⟩
  rw [ceq,decide_eq_true rfl]
  exact q _
 refine ⟨_,rfl,_,_,rfl,rfl,_,rfl,?_⟩
 refine bP (fun c=>?_) (fun c=>?_)
 ·have c':(1:Int)<(m:Int):=of_decide_eq_true c
  exact ⟨_,rfl,a,ns,8,rfl,sH3.seq hS,by decide,fun H4 s4=>⟨_,_,rfl,rfl,(by show (0:Int)<2;decide),rfl,next _ H4 s4 fun _=>by omega⟩⟩
 ·have c':¬ (1:Int)<(m:Int):=of_decide_eq_false (Bool.eq_false_iff.mpr c)
  exact next _ H3 (Same.refl _) fun z=>nomatch z
end
def FA (K:PySem.W.Frag) (f:Addr) (x q:Str) (st:Stmt):Prop:=∃ fd,Fun K x q st f fd
theorem aQ {K:PySem.W.Frag}{mg:Str→Option Value}{x q:Str}{st:Stmt}{ps:List Str}{f:Addr} (h:FA K f x q st) (b:∀ (kV doc pm:Value) (an:Option Addr) (cdv ct:Value) (us:List Value),us.length=ps.length→bindArgs (fnOf x q (lQ st) (gg st) (am st) .none kV doc pm an cdv ct) ⟨us,[]⟩=pure (ps.zip us)) (m:mg x=some (.ref f)):Src K mg x q st ps:=let ⟨_,F⟩:=h;⟨f,_,F,F.binds b,m⟩
theorem pP {K:PySem.W.Frag}{f:Addr}{fd:FuncData} (F:Fun K "law" "law" s_law f fd) (s:Shared) (v:Value):BindsTo s fd ⟨[v],[]⟩ [("script",v)]:=by
 obtain ⟨_,_,_,_,_,_,_,_,_,rfl,_,_⟩:=F.ex
 exact .of_eq rfl
theorem all_mk {l:PySem.W.OpenLaw}{w:World}{K:PySem.W.Frag}{h:Heap}{mg:Str→Option Value}{fa C CC pa f1 f2 f3 f4 f5 f6 f7 f8 f9 f10 f11 f12 f13 f14 f15 f16 f17 f18 f19 f20 f21 f22 f23 f24 f25 f26 f27 f28 f29 f30 f31 f32 f33 f34 f35 f36 f37 f38 f39 f40 f41 f42 f43 f44 f45 f46 f47 f48 f49 f50 f51:Addr} (X:K.In h) (G:h.Ns mainGlobals mg) (hfa:mg "law"=some (.ref fa))
  {fF tu1 tu2 tu3 tu4 tu5 tu6 tu7 tu8:Addr}{tkM tk1 tk2 tk3 tk4 tk5 tk6 tk7 tk8:Tok}{dt1:Option Addr}{it1:Array Value}{nt1:Nat}{st1:Array (Option Value)}{dt2:Option Addr}{it2:Array Value}{nt2:Nat}{st2:Array (Option Value)}{dt3:Option Addr}{it3:Array Value}{nt3:Nat}{st3:Array (Option Value)}{dt4:Option Addr}{it4:Array Value}{nt4:Nat}{st4:Array (Option Value)}{dt5:Option Addr}{it5:Array Value}{nt5:Nat}{st5:Array (Option Value)}{dt6:Option Addr}{it6:Array Value}{nt6:Nat}{st6:Array (Option Value)}{dt7:Option Addr}{it7:Array Value}{nt7:Nat}{st7:Array (Option Value)}{dt8:Option Addr}{it8:Array Value}{nt8:Nat}{st8:Array (Option Value)}
  {N_BadSteps c_BadSteps:Addr}{nm_BadSteps q_BadSteps:Str}{bs_BadSteps bm_BadSteps sub_BadSteps:List Value}{hd_BadSteps ab_BadSteps:Bool}{sn_BadSteps:List Str}{col_BadSteps:Option Bool}{dd_BadSteps:Option Addr}{k0_BadSteps k1_BadSteps k2_BadSteps k3_BadSteps k5_BadSteps:Option Value}
  {N_BadInputs c_BadInputs:Addr}{nm_BadInputs q_BadInputs:Str}{bs_BadInputs bm_BadInputs sub_BadInputs:List Value}{hd_BadInputs ab_BadInputs:Bool}{sn_BadInputs:List Str}{col_BadInputs:Option Bool}{dd_BadInputs:Option Addr}{k0_BadInputs k1_BadInputs k2_BadInputs k3_BadInputs k5_BadInputs:Option Value}
  {N_BadChance c_BadChance:Addr}{nm_BadChance q_BadChance:Str}{bs_BadChance bm_BadChance sub_BadChance:List Value}{hd_BadChance ab_BadChance:Bool}{sn_BadChance:List Str}{col_BadChance:Option Bool}{dd_BadChance:Option Addr}{k0_BadChance k1_BadChance k2_BadChance k3_BadChance k5_BadChance:Option Value}
  {N_BadHands c_BadHands:Addr}{nm_BadHands q_BadHands:Str}{bs_BadHands bm_BadHands sub_BadHands:List Value}{hd_BadHands ab_BadHands:Bool}{sn_BadHands:List Str}{col_BadHands:Option Bool}{dd_BadHands:Option Addr}{k0_BadHands k1_BadHands k2_BadHands k3_BadHands k5_BadHands:Option Value}
  {ddp:Option Addr}{its:Array Value}{np:Nat}{slp:Array (Option Value)}
  (a1:nsIn K mainGlobals "is_table"=some (some (.ref f1)))
  (h1:FA K f1 "is_table" "is_table" eM)
  (a2:nsIn K mainGlobals "back"=some (some (.ref f2)))
  (h2:FA K f2 "back" "back" mh)
  (a3:nsIn K mainGlobals "worth"=some (some (.ref f3)))
  (h3:FA K f3 "worth" "worth" jA)
  (a4:nsIn K mainGlobals "refuse_alike"=some (some (.ref f4)))
  (h4:FA K f4 "refuse_alike" "refuse_alike" cF)
  (a5:nsIn K mainGlobals "with_nought_at"=some (some (.ref f5)))
  (h5:FA K f5 "with_nought_at" "with_nought_at" bU)
  (a6:nsIn K mainGlobals "through"=some (some (.ref f6)))
  (h6:FA K f6 "through" "through" fG)
  (a7:nsIn K mainGlobals "weight"=some (some (.ref f7)))
  (h7:FA K f7 "weight" "weight" gG)
  (a8:nsIn K mainGlobals "weights"=some (some (.ref f8)))
  (h8:FA K f8 "weights" "weights" fD)
  (a9:nsIn K mainGlobals "dealt"=some (some (.ref f9)))
  (h9:FA K f9 "dealt" "dealt" jD)
  (a10:nsIn K mainGlobals "is_number"=some (some (.ref f10)))
  (h10:FA K f10 "is_number" "is_number" dF)
  (a11:nsIn K mainGlobals "are_numbers"=some (some (.ref f11)))
  (h11:FA K f11 "are_numbers" "are_numbers" cP)
  (a12:nsIn K mainGlobals "fits"=some (some (.ref f12)))
  (h12:FA K f12 "fits" "fits" mf)
  (a13:nsIn K mainGlobals "is_right_step"=some (some (.ref f13)))
  (h13:FA K f13 "is_right_step" "is_right_step" ce)
  (a14:nsIn K mainGlobals "right"=some (some (.ref f14)))
  (h14:FA K f14 "right" "right" jB)
  (a15:nsIn K mainGlobals "refuse_steps"=some (some (.ref f15)))
  (h15:FA K f15 "refuse_steps" "refuse_steps" cD)
  (a16:nsIn K mainGlobals "all_hands"=some (some (.ref f16)))
  (h16:FA K f16 "all_hands" "all_hands" dG)
  (a17:nsIn K mainGlobals "dealers"=some (some (.ref f17)))
  (h17:FA K f17 "dealers" "dealers" fJ)
  (a18:nsIn K mainGlobals "needs"=some (some (.ref f18)))
  (h18:FA K f18 "needs" "needs" jC)
  (a19:nsIn K mainGlobals "uses"=some (some (.ref f19)))
  (h19:FA K f19 "uses" "uses" l8)
  (a20:nsIn K mainGlobals "are_inputs"=some (some (.ref f20)))
  (h20:FA K f20 "are_inputs" "are_inputs" dg)
  (a21:nsIn K mainGlobals "refuse_inputs"=some (some (.ref f21)))
  (h21:FA K f21 "refuse_inputs" "refuse_inputs" b7)
  (a22:nsIn K mainGlobals "input_at"=some (some (.ref f22)))
  (h22:FA K f22 "input_at" "input_at" eO)
  (a23:nsIn K mainGlobals "reckoned"=some (some (.ref f23)))
  (h23:FA K f23 "reckoned" "reckoned" eJ)
  (a24:nsIn K mainGlobals "refuse_chance"=some (some (.ref f24)))
  (h24:FA K f24 "refuse_chance" "refuse_chance" b8)
  (a25:nsIn K mainGlobals "refuse_run"=some (some (.ref f25)))
  (h25:FA K f25 "refuse_run" "refuse_run" dc)
  (a26:nsIn K mainGlobals "chance_by_step"=some (some (.ref f26)))
  (h26:FA K f26 "chance_by_step" "chance_by_step" bV)
  (a27:nsIn K mainGlobals "weighed"=some (some (.ref f27)))
  (h27:FA K f27 "weighed" "weighed" fE)
  (a28:nsIn K mainGlobals "letters_of"=some (some (.ref f28)))
  (h28:FA K f28 "letters_of" "letters_of" de)
  (a29:nsIn K mainGlobals "run"=some (some (.ref f29)))
  (h29:FA K f29 "run" "run" s_run)
  (a30:nsIn K mainGlobals "are_rising_hands"=some (some (.ref f30)))
  (h30:FA K f30 "are_rising_hands" "are_rising_hands" bH)
  (a31:nsIn K mainGlobals "refuse_hands"=some (some (.ref f31)))
  (h31:FA K f31 "refuse_hands" "refuse_hands" cE)
  (a32:nsIn K mainGlobals "inputs_used"=some (some (.ref f32)))
  (h32:FA K f32 "inputs_used" "inputs_used" cN)
  (a33:nsIn K mainGlobals "chance_used"=some (some (.ref f33)))
  (h33:FA K f33 "chance_used" "chance_used" cO)
  (a34:nsIn K mainGlobals "seen"=some (some (.ref f34)))
  (h34:FA K f34 "seen" "seen" l9)
  (a35:nsIn K mainGlobals "_law_cell_at"=some (some (.ref f35)))
  (h35:FA K f35 "_law_cell_at" "_law_cell_at" cM)
  (a36:nsIn K mainGlobals "_law_mix"=some (some (.ref f36)))
  (h36:FA K f36 "_law_mix" "_law_mix" fH)
  (a37:nsIn K mainGlobals "_law_used"=some (some (.ref f37)))
  (h37:FA K f37 "_law_used" "_law_used" eK)
  (a38:nsIn K mainGlobals "_law_inputs_by"=some (some (.ref f38)))
  (h38:FA K f38 "_law_inputs_by" "_law_inputs_by" cb)
  (a39:nsIn K mainGlobals "_law_longer"=some (some (.ref f39)))
  (h39:FA K f39 "_law_longer" "_law_longer" df)
  (a40:nsIn K mainGlobals "_law_reckoning"=some (some (.ref f40)))
  (h40:FA K f40 "_law_reckoning" "_law_reckoning" b9)
  (a41:nsIn K mainGlobals "_law_counted"=some (some (.ref f41)))
  (h41:FA K f41 "_law_counted" "_law_counted" cL)
  (a42:nsIn K mainGlobals "law"=some (some (.ref f42)))
  (h42:FA K f42 "law" "law" s_law)
  (aC:nsIn K mainGlobals "Table"=some (some (.ref C)))
  (a43:findIn K (.ref C) "__init__"=some (some (.ref f43))) (i43:isFn K (.ref f43)=true)
  (h43:FA K f43 "__init__" "Table.__init__" em)
  (aCC:nsIn K mainGlobals "Course"=some (some (.ref CC)))
  (a44:findIn K (.ref CC) "__init__"=some (some (.ref f44))) (i44:isFn K (.ref f44)=true)
  (h44:FA K f44 "__init__" "Course.__init__" dH)
  (a45:findIn K (.ref CC) "coming_step"=some (some (.ref f45))) (i45:isFn K (.ref f45)=true)
  (h45:FA K f45 "coming_step" "Course.coming_step" bQ)
  (a46:findIn K (.ref CC) "own_shares"=some (some (.ref f46))) (i46:isFn K (.ref f46)=true)
  (h46:FA K f46 "own_shares" "Course.own_shares" bW)
  (a47:findIn K (.ref CC) "numbers_to_deal"=some (some (.ref f47))) (i47:isFn K (.ref f47)=true)
  (h47:FA K f47 "numbers_to_deal" "Course.numbers_to_deal" bu)
  (a48:findIn K (.ref CC) "new_share"=some (some (.ref f48))) (i48:isFn K (.ref f48)=true)
  (h48:FA K f48 "new_share" "Course.new_share" cg)
  (a49:findIn K (.ref CC) "send_letters"=some (some (.ref f49))) (i49:isFn K (.ref f49)=true)
  (h49:FA K f49 "send_letters" "Course.send_letters" bK)
  (a50:findIn K (.ref CC) "go_on"=some (some (.ref f50))) (i50:isFn K (.ref f50)=true)
  (h50:FA K f50 "go_on" "Course.go_on" dm)
  (a51:findIn K (.ref CC) "opened"=some (some (.ref f51))) (i51:isFn K (.ref f51)=true)
  (h51:FA K f51 "opened" "Course.opened" cY)
  (pg:PySem.W.plainGet K C Str.empty=true) (hd:PySem.W.hasDictIn K C=true) (po:PySem.W.plainOver K C=true) (sa:findIn K (.ref C) "__setattr__"=some (some (.builtin "object.__setattr__"))) (mk:PySem.W.makesIn K C=true) (kc:keepIn K (.ref C)=true)
  (nP:findIn K (.ref C) "prime"=some none) (nH:findIn K (.ref C) "hands"=some none) (nF:findIn K (.ref C) "few"=some none)
  (ap:nsIn K mainGlobals "PRIMES"=some (some (.ref pa))) (lp:K.lookup pa=some ⟨.type "tuple",ddp,.seq its np,slp⟩) (vp:Vals (primes9.map V.int) its.toList)
  (cpg:PySem.W.plainGet K CC Str.empty=true) (chd:PySem.W.hasDictIn K CC=true) (cpo:PySem.W.plainOver K CC=true) (csa:findIn K (.ref CC) "__setattr__"=some (some (.builtin "object.__setattr__"))) (cmk:PySem.W.makesIn K CC=true) (ckc:keepIn K (.ref CC)=true)
  (cn_table:findIn K (.ref CC) "table"=some none)
  (cn_steps:findIn K (.ref CC) "steps"=some none)
  (cn_inputs:findIn K (.ref CC) "inputs"=some none)
  (cn_parts:findIn K (.ref CC) "parts"=some none)
  (cn_shares:findIn K (.ref CC) "shares"=some none)
  (cn_letters:findIn K (.ref CC) "letters"=some none)
  (aF:nsIn K mainGlobals "FORMS"=some (some (.ref fF))) (lF:K.lookup fF=some { cls:=.type "dict",data:=.dict #[{ hash:=PyData.keyHash w.params (Str.ofString "in"),key:=.str (Str.ofString "in") tk1,val:=.ref tu1 },{ hash:=PyData.keyHash w.params (Str.ofString "fix"),key:=.str (Str.ofString "fix") tk2,val:=.ref tu2 },{ hash:=PyData.keyHash w.params (Str.ofString "sum"),key:=.str (Str.ofString "sum") tk3,val:=.ref tu3 },{ hash:=PyData.keyHash w.params (Str.ofString "less"),key:=.str (Str.ofString "less") tk4,val:=.ref tu4 },{ hash:=PyData.keyHash w.params (Str.ofString "by"),key:=.str (Str.ofString "by") tk5,val:=.ref tu5 },{ hash:=PyData.keyHash w.params (Str.ofString "mul"),key:=.str (Str.ofString "mul") tk6,val:=.ref tu6 },{ hash:=PyData.keyHash w.params (Str.ofString "anew"),key:=.str (Str.ofString "anew") tk7,val:=.ref tu7 },{ hash:=PyData.keyHash w.params (Str.ofString "open"),key:=.str (Str.ofString "open") tk8,val:=.ref tu8 }] 8 }) (sF:(fF == sysModules)=false)
  (lt1:K.lookup tu1=some ⟨.type "tuple",dt1,.seq it1 nt1,st1⟩) (vt1:Vals [V.str "hand"] it1.toList)
  (lt2:K.lookup tu2=some ⟨.type "tuple",dt2,.seq it2 nt2,st2⟩) (vt2:Vals [V.str "number"] it2.toList)
  (lt3:K.lookup tu3=some ⟨.type "tuple",dt3,.seq it3 nt3,st3⟩) (vt3:Vals [V.str "step",V.str "step"] it3.toList)
  (lt4:K.lookup tu4=some ⟨.type "tuple",dt4,.seq it4 nt4,st4⟩) (vt4:Vals [V.str "step",V.str "step"] it4.toList)
  (lt5:K.lookup tu5=some ⟨.type "tuple",dt5,.seq it5 nt5,st5⟩) (vt5:Vals [V.str "step",V.str "number"] it5.toList)
  (lt6:K.lookup tu6=some ⟨.type "tuple",dt6,.seq it6 nt6,st6⟩) (vt6:Vals [V.str "step",V.str "step"] it6.toList)
  (lt7:K.lookup tu7=some ⟨.type "tuple",dt7,.seq it7 nt7,st7⟩) (vt7:Vals [V.str "step"] it7.toList)
  (lt8:K.lookup tu8=some ⟨.type "tuple",dt8,.seq it8 nt8,st8⟩) (vt8:Vals [V.str "step"] it8.toList)
  (aM:nsIn K mainGlobals "MOST_STEPS"=some (some (.int 24 tkM)))
  (x_BadSteps:nsIn K mainGlobals "BadSteps"=some (some (.ref c_BadSteps))) (o_BadSteps:K.lookup c_BadSteps=some (PySem.excClassObj nm_BadSteps q_BadSteps c_BadSteps N_BadSteps bs_BadSteps bm_BadSteps hd_BadSteps sn_BadSteps sub_BadSteps ab_BadSteps col_BadSteps dd_BadSteps k0_BadSteps k1_BadSteps k2_BadSteps k3_BadSteps k5_BadSteps "ValueError.__new__"))
  (e_BadSteps:excIn K c_BadSteps vErr "ValueError.__new__"=true)
  (x_BadInputs:nsIn K mainGlobals "BadInputs"=some (some (.ref c_BadInputs))) (o_BadInputs:K.lookup c_BadInputs=some (PySem.excClassObj nm_BadInputs q_BadInputs c_BadInputs N_BadInputs bs_BadInputs bm_BadInputs hd_BadInputs sn_BadInputs sub_BadInputs ab_BadInputs col_BadInputs dd_BadInputs k0_BadInputs k1_BadInputs k2_BadInputs k3_BadInputs k5_BadInputs "ValueError.__new__"))
  (e_BadInputs:excIn K c_BadInputs vErr "ValueError.__new__"=true)
  (x_BadChance:nsIn K mainGlobals "BadChance"=some (some (.ref c_BadChance))) (o_BadChance:K.lookup c_BadChance=some (PySem.excClassObj nm_BadChance q_BadChance c_BadChance N_BadChance bs_BadChance bm_BadChance hd_BadChance sn_BadChance sub_BadChance ab_BadChance col_BadChance dd_BadChance k0_BadChance k1_BadChance k2_BadChance k3_BadChance k5_BadChance "ValueError.__new__"))
  (e_BadChance:excIn K c_BadChance vErr "ValueError.__new__"=true)
  (x_BadHands:nsIn K mainGlobals "BadHands"=some (some (.ref c_BadHands))) (o_BadHands:K.lookup c_BadHands=some (PySem.excClassObj nm_BadHands q_BadHands c_BadHands N_BadHands bs_BadHands bm_BadHands hd_BadHands sn_BadHands sub_BadHands ab_BadHands col_BadHands dd_BadHands k0_BadHands k1_BadHands k2_BadHands k3_BadHands k5_BadHands "ValueError.__new__"))
  (e_BadHands:excIn K c_BadHands vErr "ValueError.__new__"=true)
  (z_len:nsIn K mainGlobals "len"=some none)
  (z_range:nsIn K mainGlobals "range"=some none)
  (z_isinstance:nsIn K mainGlobals "isinstance"=some none)
  (z_min:nsIn K mainGlobals "min"=some none)
  (z_list:nsIn K mainGlobals "list"=some none)
  (z_int:nsIn K mainGlobals "int"=some none)
  (z_bool:nsIn K mainGlobals "bool"=some none)
  (z_tuple:nsIn K mainGlobals "tuple"=some none)
  (z_reversed:nsIn K mainGlobals "reversed"=some none)
  (z_zip:nsIn K mainGlobals "zip"=some none)
  (z_set:nsIn K mainGlobals "set"=some none)
  (z_all:nsIn K mainGlobals "all"=some none)
  (z_sum:nsIn K mainGlobals "sum"=some none)
  (z_sorted:nsIn K mainGlobals "sorted"=some none)
  (z_enumerate:nsIn K mainGlobals "enumerate"=some none) :
  ∃ fd:FuncData,(∀ (s:Shared) (v:Value),BindsTo s fd ⟨[v],[]⟩ [("script",v)])∧∀ base:Heap,K.In base→base.Ns mainGlobals mg→gD l.prog w K mg base CX0 12 fa fd ["script"] (spLaw K):=by
 have e:=hfa.symm.trans (mg_of X G a42)
 cases e
 have S_is_table:Src K mg "is_table" "is_table" eM ["prime","hands","few"]:=aQ h1 (fun _ _ _ _ _ _ us hl=>match us,hl with | [_,_,_],_=>rfl) (mg_of X G a1)
 have S_back:Src K mg "back" "back" mh ["table","number"]:=aQ h2 (fun _ _ _ _ _ _ us hl=>match us,hl with | [_,_],_=>rfl) (mg_of X G a2)
 have S_worth:Src K mg "worth" "worth" jA ["table","row","at"]:=aQ h3 (fun _ _ _ _ _ _ us hl=>match us,hl with | [_,_,_],_=>rfl) (mg_of X G a3)
 have S_refuse_alike:Src K mg "refuse_alike" "refuse_alike" cF ["table","points"]:=aQ h4 (fun _ _ _ _ _ _ us hl=>match us,hl with | [_,_],_=>rfl) (mg_of X G a4)
 have S_with_nought_at:Src K mg "with_nought_at" "with_nought_at" bU ["table","row","at"]:=aQ h5 (fun _ _ _ _ _ _ us hl=>match us,hl with | [_,_,_],_=>rfl) (mg_of X G a5)
 have S_through:Src K mg "through" "through" fG ["table","points"]:=aQ h6 (fun _ _ _ _ _ _ us hl=>match us,hl with | [_,_],_=>rfl) (mg_of X G a6)
 have S_weight:Src K mg "weight" "weight" gG ["table","hand"]:=aQ h7 (fun _ _ _ _ _ _ us hl=>match us,hl with | [_,_],_=>rfl) (mg_of X G a7)
 have S_weights:Src K mg "weights" "weights" fD ["table"]:=aQ h8 (fun _ _ _ _ _ _ us hl=>match us,hl with | [_],_=>rfl) (mg_of X G a8)
 have S_dealt:Src K mg "dealt" "dealt" jD ["table","number","chance"]:=aQ h9 (fun _ _ _ _ _ _ us hl=>match us,hl with | [_,_,_],_=>rfl) (mg_of X G a9)
 have S_is_number:Src K mg "is_number" "is_number" dF ["table","value"]:=aQ h10 (fun _ _ _ _ _ _ us hl=>match us,hl with | [_,_],_=>rfl) (mg_of X G a10)
 have S_are_numbers:Src K mg "are_numbers" "are_numbers" cP ["table","values"]:=aQ h11 (fun _ _ _ _ _ _ us hl=>match us,hl with | [_,_],_=>rfl) (mg_of X G a11)
 have S_fits:Src K mg "fits" "fits" mf ["table","place","kind","value"]:=aQ h12 (fun _ _ _ _ _ _ us hl=>match us,hl with | [_,_,_,_],_=>rfl) (mg_of X G a12)
 have S_is_right_step:Src K mg "is_right_step" "is_right_step" ce ["table","place","step"]:=aQ h13 (fun _ _ _ _ _ _ us hl=>match us,hl with | [_,_,_],_=>rfl) (mg_of X G a13)
 have S_right:Src K mg "right" "right" jB ["table","steps"]:=aQ h14 (fun _ _ _ _ _ _ us hl=>match us,hl with | [_,_],_=>rfl) (mg_of X G a14)
 have S_refuse_steps:Src K mg "refuse_steps" "refuse_steps" cD ["table","steps"]:=aQ h15 (fun _ _ _ _ _ _ us hl=>match us,hl with | [_,_],_=>rfl) (mg_of X G a15)
 have S_all_hands:Src K mg "all_hands" "all_hands" dG ["table"]:=aQ h16 (fun _ _ _ _ _ _ us hl=>match us,hl with | [_],_=>rfl) (mg_of X G a16)
 have S_dealers:Src K mg "dealers" "dealers" fJ ["table","step"]:=aQ h17 (fun _ _ _ _ _ _ us hl=>match us,hl with | [_,_],_=>rfl) (mg_of X G a17)
 have S_needs:Src K mg "needs" "needs" jC ["table","steps"]:=aQ h18 (fun _ _ _ _ _ _ us hl=>match us,hl with | [_,_],_=>rfl) (mg_of X G a18)
 have S_uses:Src K mg "uses" "uses" l8 ["steps","hand"]:=aQ h19 (fun _ _ _ _ _ _ us hl=>match us,hl with | [_,_],_=>rfl) (mg_of X G a19)
 have S_are_inputs:Src K mg "are_inputs" "are_inputs" dg ["table","steps","inputs"]:=aQ h20 (fun _ _ _ _ _ _ us hl=>match us,hl with | [_,_,_],_=>rfl) (mg_of X G a20)
 have S_refuse_inputs:Src K mg "refuse_inputs" "refuse_inputs" b7 ["table","steps","inputs"]:=aQ h21 (fun _ _ _ _ _ _ us hl=>match us,hl with | [_,_,_],_=>rfl) (mg_of X G a21)
 have S_input_at:Src K mg "input_at" "input_at" eO ["steps","place","inputs"]:=aQ h22 (fun _ _ _ _ _ _ us hl=>match us,hl with | [_,_,_],_=>rfl) (mg_of X G a22)
 have S_reckoned:Src K mg "reckoned" "reckoned" eJ ["table","step","before"]:=aQ h23 (fun _ _ _ _ _ _ us hl=>match us,hl with | [_,_,_],_=>rfl) (mg_of X G a23)
 have S_refuse_chance:Src K mg "refuse_chance" "refuse_chance" b8 ["table","steps","chance"]:=aQ h24 (fun _ _ _ _ _ _ us hl=>match us,hl with | [_,_,_],_=>rfl) (mg_of X G a24)
 have S_refuse_run:Src K mg "refuse_run" "refuse_run" dc ["table","steps","inputs","chance"]:=aQ h25 (fun _ _ _ _ _ _ us hl=>match us,hl with | [_,_,_,_],_=>rfl) (mg_of X G a25)
 have S_chance_by_step:Src K mg "chance_by_step" "chance_by_step" bV ["table","steps","chance"]:=aQ h26 (fun _ _ _ _ _ _ us hl=>match us,hl with | [_,_,_],_=>rfl) (mg_of X G a26)
 have S_weighed:Src K mg "weighed" "weighed" fE ["table","parts","numbers"]:=aQ h27 (fun _ _ _ _ _ _ us hl=>match us,hl with | [_,_,_],_=>rfl) (mg_of X G a27)
 have S_letters_of:Src K mg "letters_of" "letters_of" de ["place","senders","rows"]:=aQ h28 (fun _ _ _ _ _ _ us hl=>match us,hl with | [_,_,_],_=>rfl) (mg_of X G a28)
 have S_run:Src K mg "run" "run" s_run ["table","steps","inputs","chance"]:=aQ h29 (fun _ _ _ _ _ _ us hl=>match us,hl with | [_,_,_,_],_=>rfl) (mg_of X G a29)
 have S_are_rising_hands:Src K mg "are_rising_hands" "are_rising_hands" bH ["table","some"]:=aQ h30 (fun _ _ _ _ _ _ us hl=>match us,hl with | [_,_],_=>rfl) (mg_of X G a30)
 have S_refuse_hands:Src K mg "refuse_hands" "refuse_hands" cE ["table","some"]:=aQ h31 (fun _ _ _ _ _ _ us hl=>match us,hl with | [_,_],_=>rfl) (mg_of X G a31)
 have S_inputs_used:Src K mg "inputs_used" "inputs_used" cN ["steps","inputs","some"]:=aQ h32 (fun _ _ _ _ _ _ us hl=>match us,hl with | [_,_,_],_=>rfl) (mg_of X G a32)
 have S_chance_used:Src K mg "chance_used" "chance_used" cO ["table","steps","chance","some"]:=aQ h33 (fun _ _ _ _ _ _ us hl=>match us,hl with | [_,_,_,_],_=>rfl) (mg_of X G a33)
 have S_seen:Src K mg "seen" "seen" l9 ["table","steps","inputs","chance","some"]:=aQ h34 (fun _ _ _ _ _ _ us hl=>match us,hl with | [_,_,_,_,_],_=>rfl) (mg_of X G a34)
 have S_law_cell_at:Src K mg "_law_cell_at" "_law_cell_at" cM ["script","k"]:=aQ h35 (fun _ _ _ _ _ _ us hl=>match us,hl with | [_,_],_=>rfl) (mg_of X G a35)
 have S_law_mix:Src K mg "_law_mix" "_law_mix" fH ["cell","k","many"]:=aQ h36 (fun _ _ _ _ _ _ us hl=>match us,hl with | [_,_,_],_=>rfl) (mg_of X G a36)
 have S_law_used:Src K mg "_law_used" "_law_used" eK ["steps","hand"]:=aQ h37 (fun _ _ _ _ _ _ us hl=>match us,hl with | [_,_],_=>rfl) (mg_of X G a37)
 have S_law_inputs_by:Src K mg "_law_inputs_by" "_law_inputs_by" cb ["cell","steps","table"]:=aQ h38 (fun _ _ _ _ _ _ us hl=>match us,hl with | [_,_,_],_=>rfl) (mg_of X G a38)
 have S_law_longer:Src K mg "_law_longer" "_law_longer" df ["rows","prime"]:=aQ h39 (fun _ _ _ _ _ _ us hl=>match us,hl with | [_,_],_=>rfl) (mg_of X G a39)
 have S_law_reckoning:Src K mg "_law_reckoning" "_law_reckoning" b9 ["script","table","many","opened"]:=aQ h40 (fun _ _ _ _ _ _ us hl=>match us,hl with | [_,_,_,_],_=>rfl) (mg_of X G a40)
 have S_law_counted:Src K mg "_law_counted" "_law_counted" cL ["table","steps","inputs","many","due"]:=aQ h41 (fun _ _ _ _ _ _ us hl=>match us,hl with | [_,_,_,_,_],_=>rfl) (mg_of X G a41)
 obtain ⟨fdL,F_law⟩:=h42
 obtain ⟨_,F_init⟩:=h43
 have b_init:=F_init.binds (ps:=["self","prime","hands","few"]) fun _ _ _ _ _ _ us hl=>match us,hl with | [_,_,_,_],_=>rfl
 have TT:Tab K C:=⟨⟨pg,hd,po,sa⟩,nP,nH,nF⟩
 have M:Mk K C f43:=⟨mk,a43,i43,kc⟩
 have mC:=mg_of X G aC
 have TP:Pri K mg pa:=pri_mk (mg_of X G ap) lp vp
 have TC:CrsC K CC:=⟨⟨cpg,chd,cpo,csa⟩,cn_table,cn_steps,cn_inputs,cn_parts,cn_shares,cn_letters⟩
 have mCC:=mg_of X G aCC
 obtain ⟨_,F_Course_init⟩:=h44
 have b_Course_init:=F_Course_init.binds (ps:=["self","table","steps","inputs"]) fun _ _ _ _ _ _ us hl=>match us,hl with | [_,_,_,_],_=>rfl
 have MC:Mk K CC f44:=⟨cmk,a44,i44,ckc⟩
 obtain ⟨_,F_Course_coming_step⟩:=h45
 have b_Course_coming_step:=F_Course_coming_step.binds (ps:=["self"]) fun _ _ _ _ _ _ us hl=>match us,hl with | [_],_=>rfl
 have H_coming_step:qw K CC "coming_step" f45:=⟨a45,i45,F_Course_coming_step.kp⟩
 obtain ⟨_,F_Course_own_shares⟩:=h46
 have b_Course_own_shares:=F_Course_own_shares.binds (ps:=["self","hand"]) fun _ _ _ _ _ _ us hl=>match us,hl with | [_,_],_=>rfl
 have H_own_shares:qw K CC "own_shares" f46:=⟨a46,i46,F_Course_own_shares.kp⟩
 obtain ⟨_,F_Course_numbers_to_deal⟩:=h47
 have b_Course_numbers_to_deal:=F_Course_numbers_to_deal.binds (ps:=["self"]) fun _ _ _ _ _ _ us hl=>match us,hl with | [_],_=>rfl
 have H_numbers_to_deal:qw K CC "numbers_to_deal" f47:=⟨a47,i47,F_Course_numbers_to_deal.kp⟩
 obtain ⟨_,F_Course_new_share⟩:=h48
 have b_Course_new_share:=F_Course_new_share.binds (ps:=["self","hand","rows"]) fun _ _ _ _ _ _ us hl=>match us,hl with | [_,_,_],_=>rfl
 have H_new_share:qw K CC "new_share" f48:=⟨a48,i48,F_Course_new_share.kp⟩
 obtain ⟨_,F_Course_send_letters⟩:=h49
 have b_Course_send_letters:=F_Course_send_letters.binds (ps:=["self","step","made","rows"]) fun _ _ _ _ _ _ us hl=>match us,hl with | [_,_,_,_],_=>rfl
 have H_send_letters:qw K CC "send_letters" f49:=⟨a49,i49,F_Course_send_letters.kp⟩
 obtain ⟨_,F_Course_go_on⟩:=h50
 have b_Course_go_on:=F_Course_go_on.binds (ps:=["self","chance_rows"]) fun _ _ _ _ _ _ us hl=>match us,hl with | [_,_],_=>rfl
 have H_go_on:qw K CC "go_on" f50:=⟨a50,i50,F_Course_go_on.kp⟩
 obtain ⟨_,F_Course_opened⟩:=h51
 have b_Course_opened:=F_Course_opened.binds (ps:=["self"]) fun _ _ _ _ _ _ us hl=>match us,hl with | [_],_=>rfl
 have H_opened:qw K CC "opened" f51:=⟨a51,i51,F_Course_opened.kp⟩
 have FR:Frm l.prog w K mg fF (mG tu1 tu2 tu3 tu4 tu5 tu6 tu7 tu8):=frm_mk (mg_of X G aF) sF lF (fun H=>gh lt1 vt1 (by decide) H) (fun H=>gh lt2 vt2 (by decide) H) (fun H=>gh lt3 vt3 (by decide) H) (fun H=>gh lt4 vt4 (by decide) H) (fun H=>gh lt5 vt5 (by decide) H) (fun H=>gh lt6 vt6 (by decide) H) (fun H=>gh lt7 vt7 (by decide) H) (fun H=>gh lt8 vt8 (by decide) H)
 have gM:mg "MOST_STEPS"=some (.int 24 tkM):=mg_of X G aM
 have B:Blt mg:=⟨mg_none_of X G z_len,mg_none_of X G z_range,mg_none_of X G z_isinstance,mg_none_of X G z_min,mg_none_of X G z_list,mg_none_of X G z_int,mg_none_of X G z_bool,mg_none_of X G z_tuple,mg_none_of X G z_reversed,mg_none_of X G z_zip,mg_none_of X G z_set,mg_none_of X G z_all,mg_none_of X G z_sum,mg_none_of X G z_sorted,mg_none_of X G z_enumerate⟩
 have E_BadSteps:Exc K mg "BadSteps" c_BadSteps bm_BadSteps:=mJ (mg_of X G x_BadSteps) o_BadSteps e_BadSteps
 have E_BadInputs:Exc K mg "BadInputs" c_BadInputs bm_BadInputs:=mJ (mg_of X G x_BadInputs) o_BadInputs e_BadInputs
 have E_BadChance:Exc K mg "BadChance" c_BadChance bm_BadChance:=mJ (mg_of X G x_BadChance) o_BadChance e_BadChance
 have E_BadHands:Exc K mg "BadHands" c_BadHands bm_BadHands:=mJ (mg_of X G x_BadHands) o_BadHands e_BadHands
 refine ⟨fdL,fun s v=>pP F_law s v,fun base _ _=>?_⟩
 have O_is_table:=lA (P:=l.prog) (w:=w) (base:=base) S_is_table TP
 have O_Table:MkOk l.prog w K mg base CX0 2 "Table" C ["self","prime","hands","few"] (lZ C):=⟨_,_,M,ok_init F_init TT O_is_table,b_init,mC⟩
 have O_is_number:=kn (P:=l.prog) (w:=w) (base:=base) S_is_number TT
 have O_fits:=ok_fits S_fits TT O_is_number
 have O_is_right_step:=gB S_is_right_step B FR O_fits
 have O_right:=ok_right S_right B gM O_is_right_step
 have O_refuse_stepsE:=gz S_refuse_steps E_BadSteps O_right
 have O_all_hands:=kq (P:=l.prog) (w:=w) (base:=base) S_all_hands B TT
 have O_dealers:=nJ S_dealers B O_all_hands
 have O_needsE:=pC S_needs B TT O_refuse_stepsE O_dealers
 have O_are_numbers:=iU S_are_numbers B O_is_number
 have O_uses:=ok_uses (P:=l.prog) (w:=w) (base:=base) S_uses
 have O_are_inputs:=jJ S_are_inputs B TT O_uses O_are_numbers
 have O_refuse_inputsE:=fW S_refuse_inputs E_BadInputs O_are_inputs
 have O_input_at:=lB S_input_at O_uses
 have O_reckoned:=lr (P:=l.prog) (w:=w) (base:=base) S_reckoned TT
 have O_refuse_chanceE:=fX S_refuse_chance B E_BadChance O_needsE.calm O_are_numbers
 have O_refuse_runE:=iR S_refuse_run O_refuse_stepsE O_refuse_inputsE O_refuse_chanceE
 have O_chance_by_step:=fY S_chance_by_step B TT O_dealers
 have O_weighed:=nE (P:=l.prog) (w:=w) (base:=base) S_weighed B TT
 have O_letters_of:=jI (P:=l.prog) (w:=w) (base:=base) S_letters_of B
 have O_worth:=ok_worth (P:=l.prog) (w:=w) (base:=base) S_worth B TT
 have O_back:=ok_back (P:=l.prog) (w:=w) (base:=base) S_back B TT
 have O_alike:=ok_alike (P:=l.prog) (w:=w) (base:=base) S_refuse_alike B TT
 have O_nought:=pB (P:=l.prog) (w:=w) (base:=base) S_with_nought_at B TT
 have O_through:=nG S_through B TT O_alike O_worth O_back O_nought
 have O_weight:=pw S_weight B TT O_worth O_through
 have O_weights:=nC S_weights B TT O_weight
 have O_dealt:=ok_dealt S_dealt B TT O_worth
 have M_coming:MOk l.prog w K mg base CX0 1 CC "coming_step" ["self"] (eI C CC):=⟨_,_,TC.1,H_coming_step,pF F_Course_coming_step B TC,b_Course_coming_step⟩
 have M_own:MOk l.prog w K mg base CX0 1 CC "own_shares" ["self","hand"] (oU C CC):=⟨_,_,TC.1,H_own_shares,ok_own F_Course_own_shares TC,b_Course_own_shares⟩
 have M_nums:MOk l.prog w K mg base CX0 3 CC "numbers_to_deal" ["self"] (lY C CC):=⟨_,_,TC.1,H_numbers_to_deal,ok_nums F_Course_numbers_to_deal B TT TC M_coming M_own O_input_at O_dealers O_reckoned,b_Course_numbers_to_deal⟩
 have M_newsh:MOk l.prog w K mg base CX0 2 CC "new_share" ["self","hand","rows"] (jr C CC):=⟨_,_,TC.1,H_new_share,ok_newsh F_Course_new_share B TT TC M_coming M_own O_weighed O_reckoned,b_Course_new_share⟩
 have M_send:MOk l.prog w K mg base CX0 3 CC "send_letters" ["self","step","made","rows"] (lX C CC):=⟨_,_,TC.1,H_send_letters,ok_send F_Course_send_letters B TT TC O_letters_of O_all_hands O_dealers,b_Course_send_letters⟩
 have M_go:MOk l.prog w K mg base CX0 4 CC "go_on" ["self","chance_rows"] (spGo C CC):=⟨_,_,TC.1,H_go_on,ok_go F_Course_go_on B TT TC M_coming M_nums M_newsh M_send O_dealt O_all_hands,b_Course_go_on⟩
 have M_opened:MOk l.prog w K mg base CX0 2 CC "opened" ["self"] (gF C CC):=⟨_,_,TC.1,H_opened,pA F_Course_opened B TC O_weighed,b_Course_opened⟩
 have O_Course:MkOk l.prog w K mg base CX0 5 "Course" CC ["self","table","steps","inputs"] (jw C CC):=⟨_,_,MC,ok_cinit F_Course_init TC O_weights,b_Course_init,mCC⟩
 have O_runE:=ok_runE S_run B TC O_refuse_runE O_Course O_chance_by_step M_go M_opened
 have O_rising:=pz (P:=l.prog) (w:=w) (base:=base) S_are_rising_hands TT
 have O_refuse_handsE:=gA S_refuse_hands E_BadHands O_rising
 have O_inputs_used:=iS S_inputs_used O_uses
 have O_chance_used:=iT S_chance_used B O_chance_by_step O_dealers
 have O_seenE:=ok_seenE S_seen O_runE O_refuse_handsE O_inputs_used O_chance_used
 have O_cell:=ok_cell (P:=l.prog) (w:=w) (base:=base) S_law_cell_at B
 have O_mix:=ok_mix (P:=l.prog) (w:=w) (base:=base) S_law_mix
 have O_used:=ok_used (P:=l.prog) (w:=w) (base:=base) S_law_used B
 have O_inputs_by:=ko S_law_inputs_by B TT O_used O_mix
 have O_longer:=pD (P:=l.prog) (w:=w) (base:=base) S_law_longer B
 have O_reck:=ok_reck S_law_reckoning B TT O_cell O_mix
 have O_countS:=pE S_law_counted B TT O_longer O_seenE.calm
 exact ok_law F_law B TT O_Table O_cell O_mix O_reck O_inputs_by O_countS O_seenE.calm
theorem walk {l:PySem.W.OpenLaw}{q:Program}{loose:List Str}{XP:(Str→Option Value)→Heap→Prop}{YP:World→Heap→Prop}{d:DefRec}{K:Params→PySem.W.Frag} (hn:l.most=some 63) (hdf:d.params.defaults=[])
  (hY:∀ (w:World) (h:Heap),YP w h→(K w.params).In h)
  (F:∀ (w:World) (mg:Str→Option Value) (fa:Addr) (h:Heap),(K w.params).In h→h.Ns mainGlobals mg→mg d.name=some (.ref fa) →
   ∃ fd:FuncData,(∀ (s:Shared) (u:Value),BindsTo s fd ⟨[u],[]⟩ [("script",u)])∧∀ base:Heap,(K w.params).In base→base.Ns mainGlobals mg→gD l.prog w (K w.params) mg base CX0 12 fa fd ["script"] (spLaw (K w.params))) :
  PySem.W.WalkO q loose XP YP l.row.toRowW d [] (fun f vs=>PySem.call f vs) :=
 L2.walk_of (n:=63) (k:=12) (x:="script") (CX:=fun _=>CX0) (sp:=fun w=>spLaw (K w.params)) hn (by decide) hdf ⟨rfl,by decide,by decide⟩ hY F (fun _ _ a ns hl _ hS=>⟨a,ns,rfl,hS,hl,fun _=>rfl⟩) fun _ _ _ _ _ z=>z
end Veil
namespace PySem.W.Fast
def tw4750377035431489268 := 0
def tw8858488198030583598 := 0
def tw4743518140968331489 := 0
def tw15899927270811143090 := 0
def tw17527628763165238227 := 0
def tw9530610476974623716 := 0
def tw18073428291103832028 := 0
def tw7158923240647401423 := 0
def tw2079227232913932266 := 0
def tw2433483496909506664 := 0
def tw17551359784871097559 := 0
def tw1757329408904182525 := 0
def tw16143799824741350214 := 0
def tw2173300974891733438 := 0
def tw604611751133727101 := 0
def tw7817576831735508196 := 0
def tw7297934658787596497 := 0
def tw5415827827609134073 := 0
def tw13186653045336996650 := 0
def tw17859594624356024448 := 0
def tw17272183255757567952 := 0
def tw5799366844462096038 := 0
def tw4948142775354488500 := 0
def tw8098250629398425474 := 0
def tw11006956543605462843 := 0
def tw9972537794738060160 := 0
def tw13180882106403820936 := 0
def tw2794914325406624274 := 0
def tw7971734349866056991 := 0
def tw8811009291978326392 := 0
def tw15612783330261665908 := 0
def tw1887922090155669487 := 0
def tw4901826248221051531 := 0
def tw7334447258043725102 := 0
def tw16949330549171260992 := 0
def tw12079147772282317992 := 0
def tw16941502785925833905 := 0
def tw13258164915042301446 := 0
def tw11206358027685987395 := 0
def tw8585825903645002675 := 0
def tw1357762440376138799 := 0
def tw9789048592492166854 := 0
def tw10267442532411876194 := 0
def tw8858875181206439427 := 0
def tw5797280026841871105 := 0
def tw11786205305618267838 := 0
def tw1774249032476770848 := 0
def tw7540225454204320035 := 0
def tw13737244173980988187 := 0
def tw11883119579931886838 := 0
def tw10655159354101663931 := 0
def tw388818654010631478 := 0
def tw1016380662703003966 := 0
def tw5281147013821496064 := 0
def tw161071950020598457 := 0
def tw15246016589629468083 := 0
def tw7615398114313148849 := 0
def tw10811517999026494305 := 0
def tw7463248748663494583 := 0
def tw8161323279951007306 := 0
def tw10442699156241698005 := 0
def tw15907316896560119627 := 0
def tw6570405407221943574 := 0
def tw2032668389372436304 := 0
def tw5566904678175505623 := 0
def tw18137885373666536044 := 0
def tw10741789080135559100 := 0
def tw8955260075628889177 := 0
def tw9206290945278380288 := 0
def tw6820844696944646389 := 0
def tw1429850249235020483 := 0
def tw10846392877363253232 := 0
def tw4248844672449625895 := 0
def tw8487548512452795424 := 0
def tw5852211381316958046 := 0
def tw2136694359608751993 := 0
def tw13020252885902902803 := 0
def tw17176610886265210249 := 0
def tw8092929226072546757 := 0
def tw2010277992762991090 := 0
def tw12738031789220234649 := 0
def tw10604964338525292748 := 0
def tw16541253659802876506 := 0
def tw1405193653388125764 := 0
def tw16356016296491879965 := 0
def tw665565820668646580 := 0
def tw18315652810990042746 := 0
def tw16750846446550272720 := 0
def tw3677047705852209947 := 0
def tw8985278070815257793 := 0
def tw3267268214550535698 := 0
def tw11054472706499586413 := 0
def tw5634980454179678827 := 0
def tw13534039785449973257 := 0
def tw8213695155620155377 := 0
def tw12219082724413455508 := 0
def tw15954770380291732266 := 0
def tw10907819936268241698 := 0
def tw17229663084079896367 := 0
def tw2242021874953753579 := 0
def tw18218935362085637687 := 0
def tw651000688720568105 := 0
def tw3616316272429115800 := 0
def tw2876788731634189945 := 0
def tw18287601107680146342 := 0
def tw15490750304837394165 := 0
def tw8430553675338691701 := 0
def tw16109625473893166429 := 0
def tw433718182137369541 := 0
def tw17552093986788015777 := 0
def tw4064676783446499854 := 0
def tw3120261183144052405 := 0
def tw591688131411219525 := 0
def tw5421208502786015768 := 0
def tw3156503793842328129 := 0
def tw6481586323989352892 := 0
def tw5906770145826053566 := 0
def tw8627606268524661557 := 0
def tw18236677616734497579 := 0
def tw820740148638591244 := 0
def tw8163426184172175792 := 0
def tw3671444782979422350 := 0
def tw1057018914621322890 := 0
def tw10237259834191744735 := 0
def tw7372149779250720560 := 0
def tw6592768558961390714 := 0
def tw5019774187495288285 := 0
def tw9971806649433276562 := 0
def tw3836427234658721652 := 0
def tw5531527471348667914 := 0
def tw6644106241346101827 := 0
def tw8179950422293933017 := 0
def tw6635288734590418950 := 0
def tw2447565866930829121 := 0
def tw11040992714988648963 := 0
def tw17301727261270347328 := 0
def tw12044479122995312009 := 0
def tw9320601799592186338 := 0
def tw10856982252634222766 := 0
def tw14436285260308981406 := 0
def tw14898117847604670136 := 0
def tw11693306055192235306 := 0
def tw11336768910798529754 := 0
def tw8432586397924562575 := 0
def tw6263915016976177257 := 0
def tw5596258252569207482 := 0
def tw1879981576900939225 := 0
def tw11943150737558697870 := 0
def tw5126240911330734146 := 0
def tw15262911151296866715 := 0
def tw16705529271353723811 := 0
def tw16650522091141603434 := 0
def tw5680553707177491490 := 0
def tw16710875084908500929 := 0
def tw8099514682147901976 := 0
def tw2615053237417498128 := 0
def tw14294033633285537192 := 0
def tw10702160292820827801 := 0
def tw12049617924194362539 := 0
def tw9413623263391990526 := 0
def tw8955863360248026034 := 0
def tw11703403311730136849 := 0
def tw8671146923392869872 := 0
def tw8139236319028084058 := 0
def tw15064306831780939498 := 0
def tw12692550906179195158 := 0
def tw9601834616788735176 := 0
def tw7557860169388217019 := 0
def tw1606431762678814540 := 0
def tw17477972220133476002 := 0
def tw16210036443167771906 := 0
def tw15066608145821012418 := 0
def tw1372547307712352693 := 0
def tw13358910112665229844 := 0
def tw10818806719218049086 := 0
def tw10760691398678256245 := 0
def tw13291008347775603427 := 0
def tw10417805593858853243 := 0
def tw13522679982453928777 := 0
def tw16913367776666162357 := 0
def tw18263207213782781584 := 0
def tw16109373804550474846 := 0
def tw5633743923760298135 := 0
def tw18133894808579394531 := 0
def tw9564541717045715847 := 0
def tw17540955968767860691 := 0
def tw13105840561324078115 := 0
def tw4238635264223346719 := 0
def tw18279924974133938035 := 0
def tw4690137787390975251 := 0
def tw10885705027543600066 := 0
def tw3557879756319076613 := 0
def tw7756980635721618099 := 0
def tw14618627542651260483 := 0
def tw16311525218363024133 := 0
def tw15320567980696159421 := 0
def tw9789165067738278423 := 0
def tw6290896332150655804 := 0
def tw13090833346606489908 := 0
def tw17609300745638011167 := 0
end PySem.W.Fast
open PySem PySem.W PyProof.Rows
set_option maxRecDepth 100000 in
set_option maxHeartbeats 0 in
theorem PySem.Challenge.cw_veilsum_k21_whole_sights_counted_holds : PySem.Challenge.rw_veilsum_k21_whole_sights_counted.Holds := by
 w_on; o_law; k_head; (case hw => w_witness2)
 k_fill
 refine Veil.walk (l := PySem.Challenge.rw_veilsum_k21_whole_sights_counted) rfl rfl (fun w h Y => PySem.W.kIn_of Y) ?F
 case F =>
  intro w mg fa h KX G hmg
  refine' Veil.all_mk KX G hmg ?a1 ?h1 ?a2 ?h2 ?a3 ?h3 ?a4 ?h4 ?a5 ?h5 ?a6 ?h6 ?a7 ?h7 ?a8 ?h8 ?a9 ?h9 ?a10 ?h10 ?a11 ?h11 ?a12 ?h12 ?a13 ?h13 ?a14 ?h14 ?a15 ?h15 ?a16 ?h16 ?a17 ?h17 ?a18 ?h18 ?a19 ?h19 ?a20 ?h20 ?a21 ?h21 ?a22 ?h22 ?a23 ?h23 ?a24 ?h24 ?a25 ?h25 ?a26 ?h26 ?a27 ?h27 ?a28 ?h28 ?a29 ?h29 ?a30 ?h30 ?a31 ?h31 ?a32 ?h32 ?a33 ?h33 ?a34 ?h34 ?a35 ?h35 ?a36 ?h36 ?a37 ?h37 ?a38 ?h38 ?a39 ?h39 ?a40 ?h40 ?a41 ?h41 ?a42 ?h42 ?aC ?a43 ?i43 ?h43 ?aCC ?a44 ?i44 ?h44 ?a45 ?i45 ?h45 ?a46 ?i46 ?h46 ?a47 ?i47 ?h47 ?a48 ?i48 ?h48 ?a49 ?i49 ?h49 ?a50 ?i50 ?h50 ?a51 ?i51 ?h51 ?pg ?hd ?po ?sa ?mk ?kc ?nP ?nH ?nF ?ap ?lp ?vp ?cpg ?chd ?cpo ?csa ?cmk ?ckc ?cn_table ?cn_steps ?cn_inputs ?cn_parts ?cn_shares ?cn_letters ?aF ?lF ?sF ?lt1 ?vt1 ?lt2 ?vt2 ?lt3 ?vt3 ?lt4 ?vt4 ?lt5 ?vt5 ?lt6 ?vt6 ?lt7 ?vt7 ?lt8 ?vt8 ?aM ?x_BadSteps ?o_BadSteps ?e_BadSteps ?x_BadInputs ?o_BadInputs ?e_BadInputs ?x_BadChance ?o_BadChance ?e_BadChance ?x_BadHands ?o_BadHands ?e_BadHands ?z_len ?z_range ?z_isinstance ?z_min ?z_list ?z_int ?z_bool ?z_tuple ?z_reversed ?z_zip ?z_set ?z_all ?z_sum ?z_sorted ?z_enumerate
  (case a1|a2|a3|a4|a5|a6|a7|a8|a9|a10|a11|a12|a13|a14|a15|a16|a17|a18|a19|a20|a21|a22|a23|a24|a25|a26|a27|a28|a29|a30|a31|a32|a33|a34|a35|a36|a37|a38|a39|a40|a41|a42|aC|a43|i43|aCC|a44|i44|a45|i45|a46|i46|a47|i47|a48|i48|a49|i49|a50|i50|a51|i51|pg|hd|po|sa|mk|kc|nP|nH|nF|ap|lp|cpg|chd|cpo|csa|cmk|ckc|cn_table|cn_steps|cn_inputs|cn_parts|cn_shares|cn_letters|aF|lF|lt1|lt2|lt3|lt4|lt5|lt6|lt7|lt8|aM|x_BadSteps|o_BadSteps|x_BadInputs|o_BadInputs|x_BadChance|o_BadChance|x_BadHands|o_BadHands|z_len|z_range|z_isinstance|z_min|z_list|z_int|z_bool|z_tuple|z_reversed|z_zip|z_set|z_all|z_sum|z_sorted|z_enumerate => k_is)
  (case h1|h2|h3|h4|h5|h6|h7|h8|h9|h10|h11|h12|h13|h14|h15|h16|h17|h18|h19|h20|h21|h22|h23|h24|h25|h26|h27|h28|h29|h30|h31|h32|h33|h34|h35|h36|h37|h38|h39|h40|h41|h42|h43|h44|h45|h46|h47|h48|h49|h50|h51 => exact ⟨_, ⟨_, _, _, _, _, _, _, _, _, rfl, by k_is, by k_is⟩, by k_is⟩)
  (case vp => exact (.cons ⟨_, rfl⟩ (.cons ⟨_, rfl⟩ (.cons ⟨_, rfl⟩ (.cons ⟨_, rfl⟩ (.cons ⟨_, rfl⟩ (.cons ⟨_, rfl⟩ (.cons ⟨_, rfl⟩ (.cons ⟨_, rfl⟩ (.cons ⟨_, rfl⟩ .nil))))))))))
  (case sF => rfl)
  (case vt1|vt2|vt7|vt8 => exact (.cons ⟨_, rfl⟩ .nil))
  (case vt3|vt4|vt5|vt6 => exact (.cons ⟨_, rfl⟩ (.cons ⟨_, rfl⟩ .nil)))
  (case e_BadSteps|e_BadInputs|e_BadChance|e_BadHands => k_exc)
#print axioms PySem.Challenge.cw_veilsum_k21_whole_sights_counted_holds