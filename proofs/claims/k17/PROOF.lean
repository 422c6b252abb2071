import PyProof.Rows.All
import Wide.All
import OpenK.AllK
import Wide.FinOn
import Lean
import PyProof.EqAt
import PyProof.EqKinds
import PyProof.TupleCall
import PySem.Challenge.RW_veilsum_k17_whole_the_same_sight
set_option Elab.async false
set_option linter.all false
set_option maxRecDepth 100000
theorem lH:type_of% @List.length_map.{0,0}:=@List.length_map
theorem nn:type_of% @List.getD_eq_getElem?_getD.{0}:=@List.getD_eq_getElem?_getD
theorem rz:type_of% @List.getElem?_eq_getElem.{0}:=@List.getElem?_eq_getElem
theorem u3:type_of% @List.getElem?_eq_some_iff.{0}:=@List.getElem?_eq_some_iff
theorem u4:type_of% @List.mem_of_getElem?.{0}:=@List.mem_of_getElem?
theorem u5:type_of% @List.getElem?_map.{0,0}:=@List.getElem?_map
theorem u6:type_of% @List.map_append.{0,0}:=@List.map_append
theorem u7:type_of% @List.length_append.{0}:=@List.length_append
theorem u8:type_of% @List.mem_cons.{0}:=@List.mem_cons
theorem u9:type_of% @List.mem_singleton.{0}:=@List.mem_singleton
theorem va:type_of% @Nat.le_refl:=@Nat.le_refl
theorem vb:type_of% @List.mem_cons_self.{0}:=@List.mem_cons_self
theorem vd:type_of% @List.mem_cons_of_mem.{0}:=@List.mem_cons_of_mem
theorem ve:type_of% @List.not_mem_nil.{0}:=@List.not_mem_nil
theorem vg:type_of% @List.size_toArray.{0}:=@List.size_toArray
theorem vh:type_of% @List.length_cons.{0}:=@List.length_cons
theorem vi:type_of% @List.take_of_length_le.{0}:=@List.take_of_length_le
theorem vj:type_of% @List.length_take.{0}:=@List.length_take
theorem vk:type_of% @Nat.zero_le:=@Nat.zero_le
theorem vm:type_of% @PySem.F.plainAttrs_list:=@PySem.F.plainAttrs_list
theorem vn:type_of% @List.take_add_one.{0}:=@List.take_add_one
theorem vo:type_of% @List.length_range:=@List.length_range
theorem vq:type_of% @Bool.eq_false_iff:=@Bool.eq_false_iff
theorem vr:type_of% @List.mem_append.{0}:=@List.mem_append
theorem vt:type_of% @Bool.false_ne_true:=@Bool.false_ne_true
theorem vv:type_of% @List.all_eq_true.{0}:=@List.all_eq_true
theorem vw:type_of% @Int.emod_lt_of_pos:=@Int.emod_lt_of_pos
theorem vx:type_of% @Bool.and_eq_true:=@Bool.and_eq_true
theorem vz:type_of% @Option.some.inj.{0}:=@Option.some.inj
theorem vA:type_of% @PySem.F.slot_list_append:=@PySem.F.slot_list_append
theorem vB:type_of% @PySem.F.type_list_append:=@PySem.F.type_list_append
theorem vC:type_of% @Int.emod_nonneg:=@Int.emod_nonneg
theorem vD:type_of% @List.lookup_cons.{0,0}:=@List.lookup_cons
theorem vE:type_of% @PySem.boot_len:=@PySem.boot_len
theorem vF:type_of% @Nat.lt_of_lt_of_le:=@Nat.lt_of_lt_of_le
theorem vG:type_of% @Nat.le_trans:=@Nat.le_trans
theorem vH:type_of% @List.mem_range:=@List.mem_range
theorem vI:type_of% @List.take_length.{0}:=@List.take_length
theorem vJ:type_of% @Int.emod_emod_of_dvd:=@Int.emod_emod_of_dvd
theorem vK:type_of% @List.length_replicate.{0}:=@List.length_replicate
theorem vL:type_of% @Int.mul_emod:=@Int.mul_emod
theorem vM:type_of% @PyProof.Rows.callWith_type1:=@PyProof.Rows.callWith_type1
theorem vN:type_of% @List.getElem?_range:=@List.getElem?_range
theorem vO:type_of% @Int.emod_eq_of_lt:=@Int.emod_eq_of_lt
theorem vP:type_of% @List.mem_map.{0,0}:=@List.mem_map
theorem vQ:type_of% @List.getElem?_eq_none.{0}:=@List.getElem?_eq_none
theorem vR:type_of% @List.getElem?_append_right.{0}:=@List.getElem?_append_right
theorem vS:type_of% @List.getElem?_append_left.{0}:=@List.getElem?_append_left
theorem vT:type_of% @List.append_nil.{0}:=@List.append_nil
theorem vU:type_of% @List.getElem?_of_mem.{0}:=@List.getElem?_of_mem
theorem vV:type_of% @List.map_cons.{0,0}:=@List.map_cons
theorem vW:type_of% @Nat.ne_of_lt:=@Nat.ne_of_lt
theorem vX:type_of% @List.flatten_cons.{0}:=@List.flatten_cons
theorem vY:type_of% @List.length_zipWith.{0,0,0}:=@List.length_zipWith
theorem vZ:type_of% @List.mem_or_eq_of_mem_set.{0}:=@List.mem_or_eq_of_mem_set
theorem v0:type_of% @List.getElem_mem.{0}:=@List.getElem_mem
theorem wd:type_of% @List.mem_append_right.{0}:=@List.mem_append_right
theorem we:type_of% @List.replicate_succ.{0}:=@List.replicate_succ
theorem wf:type_of% @List.append_assoc.{0}:=@List.append_assoc
theorem wg:type_of% @Array.length_toList.{0}:=@Array.length_toList
theorem wj:type_of% @PySem.mem_of_lookup:=@PySem.mem_of_lookup
theorem wm:type_of% @List.getElem?_zipWith.{0,0,0}:=@List.getElem?_zipWith
theorem wp:type_of% @Int.dvd_refl:=@Int.dvd_refl
theorem wq:type_of% @PyProof.Rows.boot_list:=@PyProof.Rows.boot_list
theorem wr:type_of% @PySem.W.kia_one:=@PySem.W.kia_one
theorem wt:type_of% @List.length_drop.{0}:=@List.length_drop
theorem wu:type_of% @Int.add_emod:=@Int.add_emod
theorem wv:type_of% @List.nodup_cons.{0}:=@List.nodup_cons
theorem ww:type_of% @Nat.lt_of_le_of_lt:=@Nat.lt_of_le_of_lt
theorem wy:type_of% @List.length_eq_zero_iff.{0}:=@List.length_eq_zero_iff
theorem wz:type_of% @List.all_map.{0,0}:=@List.all_map
theorem wA:type_of% @Int.add_zero:=@Int.add_zero
theorem wB:type_of% @List.zipWith_cons_cons.{0,0,0}:=@List.zipWith_cons_cons
theorem wC:type_of% @List.filterMap_cons.{0,0}:=@List.filterMap_cons
theorem wD:type_of% @List.getElem?_zip_eq_some.{0,0}:=@List.getElem?_zip_eq_some
theorem wE:type_of% @Int.mul_zero:=@Int.mul_zero
theorem wF:type_of% @Nat.not_lt_zero:=@Nat.not_lt_zero
theorem wG:type_of% @List.filter_append.{0}:=@List.filter_append
theorem wH:type_of% @Int.mul_assoc:=@Int.mul_assoc
theorem wI:type_of% @Bool.eq_iff_iff:=@Bool.eq_iff_iff
theorem wJ:type_of% @List.take_succ_cons.{0}:=@List.take_succ_cons
theorem wK:type_of% @List.flatten_append.{0}:=@List.flatten_append
theorem wL:type_of% @List.getElem?_set_self.{0}:=@List.getElem?_set_self
theorem wM:type_of% @List.all_cons.{0}:=@List.all_cons
theorem wN:type_of% @PySem.F.slot_dict_get:=@PySem.F.slot_dict_get
theorem wO:type_of% @Int.mul_comm:=@Int.mul_comm
theorem wP:type_of% @Int.zero_add:=@Int.zero_add
theorem wQ:type_of% @List.zip_cons_cons.{0,0}:=@List.zip_cons_cons
theorem wR:type_of% @PyProof.Rows.boot_all:=@PyProof.Rows.boot_all
theorem wS:type_of% @Int.mul_add:=@Int.mul_add
theorem wT:type_of% @List.find?_cons.{0}:=@List.find?_cons
theorem wU:type_of% @List.range_succ:=@List.range_succ
theorem wV:type_of% @List.filter_cons.{0}:=@List.filter_cons
theorem wW:type_of% @List.drop_zero.{0}:=@List.drop_zero
theorem wX:type_of% @List.map_map.{0,0,0}:=@List.map_map
namespace L2
open PySem PySem.Spec PyProof.Rows
abbrev Key:=Sum Int Str
def rL:Key→Value→Bool
 | .inl k,v=>Value.isInt k v
 | .inr x,v=>Value.isStrOf x v
def keyH (w:World):Key→Int
 | .inl k=>hashInt k
 | .inr x=>hashStr w x
theorem bS:∀ {k:Key}{v:Value},rL k v=true→(∃ i t,k=Sum.inl i∧v=Value.int i t)∨(∃ x t,k=Sum.inr x∧v=Value.str x t)
 | .inl i,v,h=>by
  obtain ⟨t,e⟩:=Value.isInt_shape (k:=i) (v:=v) h
  exact .inl ⟨i,t,rfl,e⟩
 | .inr x,v,h=>by
  obtain ⟨t,e⟩:=Value.isStrOf_shape (x:=x) (v:=v) h
  exact .inr ⟨x,t,rfl,e⟩
theorem uj (i:Int) (t:Tok):rL (.inl i) (.int i t)=true:=by simp [rL,Value.isInt]
theorem ui (x:Str) (t:Tok):rL (.inr x) (.str x t)=true:=by simp [rL,Value.isStrOf]
theorem key_ll (a b:Int):decide ((Sum.inl a:Key)=Sum.inl b)=(a == b):=by
 by_cases e:a=b
 ·subst e;simp
 ·have h:¬ (Sum.inl a:Key)=Sum.inl b:=fun q=>e (Sum.inl.inj q)
  rw [decide_eq_false h]
  exact (beq_eq_false_iff_ne.mpr e).symm
theorem key_rr (a b:Str):decide ((Sum.inr a:Key)=Sum.inr b)=decide (a=b):=by
 by_cases e:a=b
 ·subst e;simp
 ·have h:¬ (Sum.inr a:Key)=Sum.inr b:=fun q=>e (Sum.inr.inj q)
  rw [decide_eq_false h,decide_eq_false e]
theorem key_lr (a:Int) (b:Str):decide ((Sum.inl a:Key)=Sum.inr b)=false:=decide_eq_false (fun q=>nomatch q)
theorem key_rl (a:Str) (b:Int):decide ((Sum.inr a:Key)=Sum.inl b)=false:=decide_eq_false (fun q=>nomatch q)
def bN (prog:Program) (w:World):PySem.KeyKind prog w Key where
 is:=rL
 hash:=keyH w
 inj:=fun v a b ha hb=>by
  rcases bS ha with ⟨i,t,rfl,rfl⟩ | ⟨x,t,rfl,rfl⟩
  ·rcases bS hb with ⟨j,u,rfl,e⟩ | ⟨y,u,rfl,e⟩
   ·injection e with e1 _;rw [e1]
   ·exact nomatch e
  ·rcases bS hb with ⟨j,u,rfl,e⟩ | ⟨y,u,rfl,e⟩
   ·exact nomatch e
   ·injection e with e1 _;rw [e1]
 byValue:=fun k v h=>by
  rcases bS h with ⟨i,t,rfl,rfl⟩ | ⟨x,t,rfl,rfl⟩<;>rfl
 pyHash:=fun hv h=>by
  rcases bS hv with ⟨i,t,rfl,rfl⟩ | ⟨x,t,rfl,rfl⟩
  ·exact wpAny_pyHash_int h
  ·exact wpAny_pyHash_str h
 eqBool:=fun hu hv h=>by
  rcases bS hu with ⟨i,t,rfl,rfl⟩ | ⟨x,t,rfl,rfl⟩
  ·rcases bS hv with ⟨j,u,rfl,rfl⟩ | ⟨y,u,rfl,rfl⟩
   ·rw [key_ll] at h;exact wpAny_eqBool_int h
   ·rw [key_lr] at h;exact SeqAt.EqAt.int_str i t y u _ _ _ _ h
  ·rcases bS hv with ⟨j,u,rfl,rfl⟩ | ⟨y,u,rfl,rfl⟩
   ·rw [key_rl] at h;exact SeqAt.EqAt.str_int x t j u _ _ _ _ h
   ·rw [key_rr] at h;exact wpAny_eqBool_str h
 «strs»:=fun k x t v h=>by
  rcases bS h with ⟨i,u,rfl,e⟩ | ⟨y,u,rfl,e⟩
  ·exact nomatch e
  ·injection e with e1 _
   subst e1
   cases v<;>rfl
theorem o7 (prog:Program) (w:World) (i:Int) (t:Tok):(bN prog w).is (.inl i) (.int i t)=true:=uj i t
theorem bK (prog:Program) (w:World) (x:Str) (t:Tok):(bN prog w).is (.inr x) (.str x t)=true:=ui x t
end L2
namespace L2
open PySem PySem.Spec PyProof.Rows
inductive V where
 | non | bl (b:Bool) | int (i:Int) | str (x:Str) | byt (b:Array UInt8) | flt (b:UInt64) | ref (a:Addr) | ty (n:String)
 deriving DecidableEq
def RelV:V→Value→Prop
 | .non,u=>u=Value.none
 | .bl b,u=>u=Value.bool b
 | .int i,u=>∃ t,u=Value.int i t
 | .str x,u=>∃ t,u=Value.str x t
 | .byt b,u=>∃ t,u=Value.bytes b t
 | .flt b,u=>∃ t,u=Value.float b t
 | .ref a,u=>u=Value.ref a
 | .ty n,u=>u=Value.type n
abbrev Vals:List V→List Value→Prop:=Paired RelV
theorem Vals.length {xs:List V}{us:List Value} (r:Vals xs us):xs.length=us.length:=Paired.length r
theorem Vals.get:∀ {xs:List V}{us:List Value}{i:Nat}{x:V},Vals xs us→xs[i]?=some x→∃ u,us[i]?=some u∧RelV x u
 | _,_,_,_,.nil,e=>by simp at e
 | _,_,0,_,.cons r _,e=>by simp at e;subst e;exact ⟨_,rfl,r⟩
 | _,_,i+1,x,.cons _ t,e=>by
  obtain ⟨u,h1,h2⟩:=Vals.get (i:=i) (x:=x) t (by simpa using e)
  exact ⟨u,by simpa using h1,h2⟩
theorem Vals.set {x:V}{u:Value} (r:RelV x u):∀ {xs:List V}{us:List Value} (i:Nat),Vals xs us→Vals (xs.set i x) (us.set i u)
 | _,_,_,.nil=>.nil
 | _,_,0,.cons _ t=>.cons r t
 | _,_,i+1,.cons q t=>.cons q (Vals.set r i t)
theorem Vals.append:∀ {xs ys:List V}{us ws:List Value},Vals xs us→Vals ys ws→Vals (xs++ys) (us++ws)
 | _,_,_,_,.nil,s=>s
 | _,_,_,_,.cons r t,s=>.cons r (Vals.append t s)
theorem Vals.take:∀ {xs:List V}{us:List Value} (n:Nat),Vals xs us→Vals (xs.take n) (us.take n)
 | _,_,0,_=>.nil
 | _,_,_+1,.nil=>.nil
 | _,_,n+1,.cons r t=>.cons r (Vals.take n t)
theorem Vals.drop:∀ {xs:List V}{us:List Value} (n:Nat),Vals xs us→Vals (xs.drop n) (us.drop n)
 | _,_,0,r=>r
 | _,_,_+1,.nil=>.nil
 | _,_,n+1,.cons _ t=>Vals.drop n t
def RelO:Option V→Option Value→Prop
 | some v,some u=>RelV v u
 | none,none=>True
 | _,_=>False
def KV {κ:Type}:List (κ×V)→List (κ×Value)→Prop:=Paired fun (p:κ×V) (q:κ×Value)=>p.1=q.1∧RelV p.2 q.2
def kV:Key→V
 | .inl i=>.int i
 | .inr x=>.str x
inductive HO where
 /-- a list -/
 | lst (xs:List V)
 /-- a tuple (never changes) -/
 | tup (xs:List V)
 /-- a dict whose keys are ints and texts;one whose keys are tuples of ints and texts (the empty one is both) -/
 | dK (kvs:List (Key×V)) | dT (kvs:List (List Key×V))
 /-- a set of ints: its members,its size -/
 | set (S:Int→Bool) (n:Nat)
 /-- an instance of the class at C,its dict at dx,its attributes -/
 | ins (C dx:Addr) (fs:List (Str×V))
 /-- the dict of the instance at x -/
 | own (x:Addr)
 /-- the dict of an exception -/
 | xd (fs:List (Str×V))
 /-- a bound method,f of x -/
 | met (f x:Addr)
 /-- a range object lo,lo+1,.. below hi -/
 | rng (lo hi:Int)
 /-- a thing that is known to the object (the script;a dict while a loop walks it): read,never written while it is so -/
 | frz (o:Obj) (u:HO)
 /-- a code object's table -/
 | tbl (ps:Array Value)
 /-- any other thing,by what is true of its one object (a def of one's own: SetO a S n:=HO.ext fun h=>..) -/
 | ext (φ:Heap→Prop)
abbrev Hp:=Addr→Option HO
def upd (H:Hp) (a:Addr) (o:HO):Hp:=fun b=>if b=a then some o else H b
theorem upd_same {H:Hp}{a:Addr}{o:HO}:upd H a o a=some o:=by unfold upd;rw [if_pos rfl]
theorem az {H:Hp}{a b:Addr}{o:HO} (h:b≠a):upd H a o b=H b:=by unfold upd;rw [if_neg h]
theorem sH {H:Hp}{a:Addr}{o u:HO}:upd (upd H a o) a u=upd H a u:=by
 funext b;unfold upd;split<;>rfl
theorem ne_of {H:Hp}{a b:Addr}{o u:HO} (h:H a=some o) (h':H b=some u) (d:o≠u):a≠b:=by
 intro e;subst e;rw [h] at h';exact d (vz h')
theorem aq {H:Hp}{a b:Addr}{o:HO} (h:H a=some o) (h':H b=none):a≠b:=by
 intro e;subst e;rw [h] at h';cases h'
section
variable (P:Program) (w:World)
def ObjOk (H:Hp) (h:Heap) (a:Addr):HO→Prop
 | .lst xs=>xs.length≤sizeLine∧∃ (its:List Value) (n:Nat),Vals xs its∧h.get? a=some { cls:=.type "list",data:=.seq its.toArray n }
 | .tup xs=>xs.length≤sizeLine∧∃ its:List Value,Vals xs its∧IsTup h a its.toArray
 | .dK kvs=>kvs.length≤sizeLine∧(a == sysModules)=false∧∃ vs,KV kvs vs∧h.DictOf (bN P w) a vs
 | .dT kvs=>kvs.length≤sizeLine∧(a == sysModules)=false∧∃ xs:List (List Key×Addr×Value),
   Paired (fun (p:List Key×V) (q:List Key×Addr×Value)=>p.1=q.1∧H q.2.1=some (.tup (p.1.map kV))∧RelV p.2 q.2.2) kvs xs ∧
   ∃ o es ep,h.get? a=some o∧o.ExactDict∧o.data=.dict es ep∧es.toList=xs.map (entryOfKey (tupleKind (bN P w)))∧(xs.map (·.1)).Nodup
 | .set S n=>h.SetOf (intKind P w) a S n
 | .ins C dx fs=>H dx=some (.own a)∧fs.length≤1000∧dx≠a∧h.get? a=some (PySem.W.instObj C dx) ∧
   ∃ mA,h.Ns1 dx mA∧(∀ f,RelO (fs.lookup f) (mA f))∧PySem.Within mA (fs.map (·.1))
 | .own _=>∃ o,h.get? a=some o
 | .xd fs=>∃ mA,h.Ns1 a mA∧∀ f,RelO (fs.lookup f) (mA f)
 | .rng lo hi=>∃ t u v,h.get? a=some { cls:=.type "range",data:=.fields #[.int lo t,.int hi u,.int 1 v] }
 | .frz o u=>h.get? a=some o∧ObjOk H h a u
 | .tbl ps=>h.get? a=some { cls:=.none,data:=.fields ps }
 | .met f x=>h.get? a=some (PySem.W.methodObj (.ref f) (.ref x))
 | .ext φ=>φ h∧(∃ o,h.get? a=some o)∧∀ h1 h2:Heap,φ h1→(∀ o,h1.get? a=some o→h2.get? a=some o)→φ h2
def HOk (H:Hp) (h:Heap):Prop:=∀ a o,H a=some o→ObjOk P w H h a o
end
section
variable {P:Program}{w:World}{H H':Hp}{h h':Heap}{a:Addr}{o:HO}
theorem ObjOk.lt (x:ObjOk P w H h a o):a<h.objs.size:=by
 cases o with
 | lst xs=>obtain ⟨_,_,_,_,e⟩:=x;exact Heap.lt_size e
 | tup xs=>obtain ⟨_,_,_,p⟩:=x;exact p.lt
 | dK kvs=>obtain ⟨_,_,_,_,o,_,_,e,_⟩:=x;exact Heap.lt_size e
 | dT kvs=>obtain ⟨_,_,_,_,o,_,_,e,_⟩:=x;exact Heap.lt_size e
 | set S n=>obtain ⟨o,_,_,_,e,_⟩:=x;exact Heap.lt_size e
 | ins C dx fs=>obtain ⟨_,_,_,e,_⟩:=x;exact Heap.lt_size e
 | own y=>obtain ⟨_,e⟩:=x;exact Heap.lt_size e
 | xd fs=>obtain ⟨_,⟨_,_,_,e,_⟩,_⟩:=x;exact Heap.lt_size e
 | rng lo hi=>obtain ⟨_,_,_,e⟩:=x;exact Heap.lt_size e
 | frz ob u=>obtain ⟨e,_⟩:=x;exact Heap.lt_size e
 | tbl ps=>exact Heap.lt_size (show h.get? a=some _ from x)
 | met f y=>exact Heap.lt_size (show h.get? a=some _ from x)
 | ext φ=>obtain ⟨_,⟨_,e⟩,_⟩:=x;exact Heap.lt_size e
theorem Paired.mapP {α β:Type}{F G:α→β→Prop}:∀ {l₁:List α}{l₂:List β},Paired F l₁ l₂→(∀ a b,F a b→G a b)→Paired G l₁ l₂
 | _,_,.nil,_=>.nil
 | _,_,.cons r t,f=>.cons (f _ _ r) (Paired.mapP t f)
theorem ObjOk.stay (x:ObjOk P w H h a o) (k:∀ b u,(b=a∨H b=some (.own a))→h.get? b=some u→h'.get? b=some u)
  (ho:∀ b,H b=some (.own a)→H' b=some (.own a)) (ht:∀ b xs,H b=some (.tup xs)→H' b=some (.tup xs)):ObjOk P w H' h' a o:=by
 induction o with
 | lst xs=>obtain ⟨z,I,n,r,e⟩:=x;exact ⟨z,I,n,r,k _ _ (.inl rfl) e⟩
 | tup xs=>obtain ⟨z,I,r,F,e,c⟩:=x;exact ⟨z,I,r,F,k _ _ (.inl rfl) e,c⟩
 | dK kvs=>obtain ⟨z,y,vs,r,F,es,G,e,c⟩:=x;exact ⟨z,y,vs,r,F,es,G,k _ _ (.inl rfl) e,c⟩
 | dT kvs =>
  obtain ⟨z,y,xs,r,F,es,G,e,c⟩:=x
  exact ⟨z,y,xs,Paired.mapP r fun p q z=>⟨z.1,ht _ _ z.2.1,z.2.2⟩,F,es,G,k _ _ (.inl rfl) e,c⟩
 | set S n=>obtain ⟨F,es,G,t,e,c⟩:=x;exact ⟨F,es,G,t,k _ _ (.inl rfl) e,c⟩
 | ins C dx fs =>
  obtain ⟨d,z,R,e,mA,⟨J,es,G,O,c⟩,r⟩:=x
  exact ⟨ho _ d,z,R,k _ _ (.inl rfl) e,mA,⟨J,es,G,k _ _ (.inr d) O,c⟩,r⟩
 | own y=>obtain ⟨F,e⟩:=x;exact ⟨F,k _ _ (.inl rfl) e⟩
 | xd fs=>obtain ⟨mA,⟨J,es,G,e,c⟩,r⟩:=x;exact ⟨mA,⟨J,es,G,k _ _ (.inl rfl) e,c⟩,r⟩
 | rng lo hi=>obtain ⟨t,u,v,e⟩:=x;exact ⟨t,u,v,k _ _ (.inl rfl) e⟩
 | frz F u ih=>obtain ⟨e,q⟩:=x;exact ⟨k _ _ (.inl rfl) e,ih q⟩
 | tbl ps =>
  have e:h.get? a=some { cls:=.none,data:=.fields ps }:=x
  show h'.get? a=some { cls:=.none,data:=.fields ps }
  exact k a _ (.inl rfl) e
 | met f y =>
  have e:h.get? a=some (PySem.W.methodObj (.ref f) (.ref y)):=x
  show h'.get? a=some (PySem.W.methodObj (.ref f) (.ref y))
  exact k a _ (.inl rfl) e
 | ext φ=>obtain ⟨p,⟨o,e⟩,st⟩:=x;exact ⟨st _ _ p fun o q=>k _ _ (.inl rfl) q,⟨o,k _ _ (.inl rfl) e⟩,st⟩
theorem HOk.lt (x:HOk P w H h) (e:H a=some o):a<h.objs.size:=(x a o e).lt
theorem HOk.fresh (x:HOk P w H h) (e:h.objs.size≤a):H a=none:=by
 cases q:H a with
 | none=>rfl
 | some u=>exact absurd (vF (x.lt q) e) (Nat.lt_irrefl _)
theorem HOk.kept (x:HOk P w H h) (k:∀ b u,h.get? b=some u→h'.get? b=some u):HOk P w H h':=fun a o e =>
 (x a o e).stay (fun b u _ q=>k b u q) (fun _ q=>q) fun _ _ q=>q
theorem HOk.laid (x:HOk P w H h) (k:∀ b u,h.get? b=some u→h'.get? b=some u) (hp:h.objs.size≤a) (new:ObjOk P w (upd H a o) h' a o):HOk P w (upd H a o) h':=fun b u e=>by
 have hn:=x.fresh hp
 by_cases hb:b=a
 ·subst hb;rw [upd_same] at e;cases e;exact new
 ·rw [az hb] at e
  exact (x b u e).stay (fun c v _ q=>k c v q) (fun c q=>by rw [az (aq q hn)];exact q) fun c xs q=>by rw [az (aq q hn)];exact q
end
def Rd (H:Hp) (a:Addr) (u:HO):Prop:=H a=some u∨∃ o,H a=some (.frz o u)
theorem Rd.ok {P:Program}{w:World}{H:Hp}{h:Heap}{a:Addr}{u:HO} (r:Rd H a u) (x:HOk P w H h):ObjOk P w H h a u:=by
 rcases r with r | ⟨o,r⟩
 ·exact x a u r
 ·obtain ⟨_,q⟩:=x a _ r
  exact q
def Mut:Option HO→Prop
 | some (.lst _)=>True
 | some (.dK _)=>True
 | some (.dT _)=>True
 | some (.set _ _)=>True
 | some (.ins _ _ _)=>True
 | some (.ext _)=>True
 | _=>False
section
variable {P:Program}{w:World}{H:Hp}{h h':Heap}{x e:Addr}{o':HO}
theorem HOk.write (ok:HOk P w H h) (mu:Mut (H x)) (he:e=x∨H e=some (.own x)) (k:∀ b u,b≠e→h.get? b=some u→h'.get? b=some u) (heo:∃ u,h'.get? e=some u)
  (new:ObjOk P w (upd H x o') h' x o'):HOk P w (upd H x o') h':=fun b u q=>by
 have G:∀ c y,H c=some (.own y)→c≠x:=fun c y r z=>by subst z;rw [r] at mu;exact mu
 have I:∀ c xs,H c=some (.tup xs)→c≠x:=fun c xs r z=>by subst z;rw [r] at mu;exact mu
 by_cases hb:b=x
 ·subst hb;rw [upd_same] at q;cases q;exact new
 ·rw [az hb] at q
  by_cases F:b=e
  ·have J:H b=some (.own x):=by
    rcases he with z | z
    ·exact absurd (F.trans z) hb
    ·rw [F];exact z
   rw [q] at J;cases J
   obtain ⟨v,O⟩:=heo
   exact ⟨v,by rw [F];exact O⟩
  ·refine (ok b u q).stay (fun c v hc r=>k c v ?_ r) (fun c r=>by rw [az (G c b r)];exact r) fun c xs r=>by rw [az (I c xs r)];exact r
   rcases hc with rfl | hc
   ·exact F
   ·rintro rfl
    rcases he with z | z
    ·exact G c b hc z
    ·rw [hc] at z;cases z;exact hb rfl
end
structure Un (fs ex:List Addr) (H H':Hp) (h h':Heap):Prop where
 keep:∀ b o,h.get? b=some o→H b=none→b∉fs→b∉ex→h'.get? b=some o
 slot:∀ b o,h.get? b=some o→H b=none→b∈fs→b∉ex→∃ sl,h'.get? b=some { o with slots:=sl }
 free:∀ b o,h.get? b=some o→H b=none→b∉ex→H' b=none
 there:∀ b o,h.get? b=some o→b∉ex→∃ o',h'.get? b=some o'
 tups:∀ b xs,H b=some (.tup xs)→H' b=some (.tup xs)
 frzs:∀ b o u,H b=some (.frz o u)→H' b=some (.frz o u)
 tbls:∀ b ps,H b=some (.tbl ps)→∃ more,H' b=some (.tbl (ps++more))
section
variable {fs fs' ex ex':List Addr}{H H1 H2:Hp}{h h1 h2 h':Heap}{a x e:Addr}{o:HO}
theorem Un.any (u:Un fs ex H H1 h h1) {b:Addr}{ob:Obj} (q:h.get? b=some ob) (n:H b=none) (hx:b∉ex):∃ sl,h1.get? b=some { ob with slots:=sl }:=by
 by_cases hb:b∈fs
 ·exact u.slot b ob q n hb hx
 ·exact ⟨ob.slots,u.keep b ob q n hb hx⟩
theorem Un.kept (k:∀ b u,h.get? b=some u→h'.get? b=some u):Un fs ex H H h h' :=
 ⟨fun b ob q _ _ _=>k b ob q,fun b ob q _ _ _=>⟨ob.slots,k b ob q⟩,fun _ _ _ n _=>n,fun b ob q _=>⟨ob,k b ob q⟩,fun _ _ q=>q,fun _ _ _ q=>q,fun _ ps q=>⟨#[],by rw [q];simp⟩⟩
theorem Un.refl:Un fs ex H H h h:=Un.kept fun _ _ q=>q
theorem Un.laid (k:∀ b u,h.get? b=some u→h'.get? b=some u) (hp:h.objs.size≤a) (hn:H a=none):Un fs ex H (upd H a o) h h' where
 keep:=fun b u q _ _ _=>k b u q
 slot:=fun b u q _ _ _=>⟨u.slots,k b u q⟩
 free:=fun b u q n _=>by rw [az (vW (vF (Heap.lt_size q) hp))];exact n
 there:=fun b u q _=>⟨u,k b u q⟩
 tups:=fun b xs q=>by rw [az (aq q hn)];exact q
 frzs:=fun b u xs q=>by rw [az (aq q hn)];exact q
 tbls:=fun b ps q=>⟨#[],by rw [az (aq q hn),q];simp⟩
theorem Un.write (mu:Mut (H x)) (he:e=x∨H e=some (.own x)) (k:∀ b u,b≠e→h.get? b=some u→h'.get? b=some u) (heo:∃ u,h'.get? e=some u):Un fs ex H (upd H x o) h h':=by
 have I:∀ b,H b=none→b≠x:=fun b n z=>by subst z;rw [n] at mu;exact mu
 have hb:∀ b,H b=none→b≠e:=fun b n z=>by
  subst z
  rcases he with r | r
  ·exact I b n r
  ·rw [n] at r;cases r
 have G:∀ b u,H b=some u→¬ Mut (some u)→b≠x:=fun b u q nm z=>by subst z;rw [q] at mu;exact nm mu
 refine ⟨fun b u q n _ _=>k b u (hb b n) q,fun b u q n _ _=>⟨u.slots,k b u (hb b n) q⟩,fun b u q n _=>by rw [az (I b n)];exact n,fun b u q _=>?_,
  fun b xs q=>by rw [az (G b _ q fun z=>z)];exact q,fun b u xs q=>by rw [az (G b _ q fun z=>z)];exact q,fun b ps q=>⟨#[],by rw [az (G b _ q fun z=>z),q];simp⟩⟩
 by_cases F:b=e
 ·subst F;exact heo
 ·exact ⟨u,k b u F q⟩
end
def trk (h:Heap) (H:Hp):List Addr:=(List.range h.objs.size).filter fun a=>(H a).isSome
def hidT (h:Heap) (H:Hp):Heap:=PySem.W.hideAll h (trk h H)
theorem uq (h:Heap) (H:Hp):(hidT h H).objs.size=h.objs.size:=PySem.W.hideAll_size _ _
theorem hidT_get {h:Heap}{H:Hp}{b:Addr}{o:Obj} (e:h.get? b=some o) (n:H b=none):(hidT h H).get? b=some o :=
 PySem.W.hideAll_get _ e fun hm=>by
  have q:(H b).isSome=true:=(List.mem_filter.mp hm).2
  rw [n] at q;simp at q
theorem of_hidT {h:Heap}{H:Hp}{b:Addr}{o:Obj} (e:(hidT h H).get? b=some o):h.get? b=some o∧H b=none:=by
 have F:h.get? b=some o:=PySem.W.of_hideAll (trk h H) e
 refine ⟨F,?_⟩
 cases q:H b with
 | none=>rfl
 | some x =>
  have G:b∈trk h H:=List.mem_filter.mpr ⟨vH.mpr (Heap.lt_size F),by simp [q]⟩
  have z:(hidT h H).get? b=none:=PySem.W.hideAll_none (trk h H) G
  rw [z] at e;cases e
def allNews (g h:Heap) (L:Addr):List (Addr×Obj):=(List.range h.objs.size).filterMap fun a=>if a=L∨(g.get? a).isSome=true then none else (h.get? a).map fun o=>(a,o)
def rest (g h:Heap) (L d:Addr):List (Addr×Obj):=(allNews g h L).filter fun p=>decide (p.1≠d)
end L2
namespace L2
open PySem PySem.Spec PyProof.Rows
structure Mod (K:PySem.W.Frag) (mg:Str→Option Value) (base:Heap):Prop where
 kin:K.In base
 glob:base.Ns mainGlobals mg
 blt:∃ mb,base.Ns builtinsNs mb∧∀ x:Str,x≠"__name__"→mb x=bootBuiltins x
 nolimit:base.NoLimit
structure Cx where
 prog:Program
 w:World
 K:PySem.W.Frag
 mg:Str→Option Value
 base:Heap
 A:Around
 N:List Str
 s₀:Shared
 H₀:Hp
 env:Env
 outer:List Env
 stack:List Env
 ex:List Addr
 fn:Str→Bool
 calm:Bool
 pn:List (Addr×Obj)
 xe:Value→Shared→Prop
def frs (l:List Env):List Addr:=l.filterMap (·.frame)
abbrev Cx.fs (X:Cx):List Addr:=frs X.outer
def Vis (sc:Scope) (x:Str):Prop:=sc.names.lookup x=some .local∨sc.names.lookup x=some .cell∨sc.names.lookup x=some .free
def Loc (sc:Scope) (x:Str):Prop:=sc.names.lookup x=some .local∨sc.names.lookup x=some .cell
def Look (env:Env) (h:Heap) (m:Str→Option Value) (x:Str) (u:Value):Prop :=
 (env.kindOf x=some .local∧m x=some u)∨((env.kindOf x=some .cell∨env.kindOf x=some .free)∧∃ c,env.cells.lookup x=some c∧h.IsCell c (some u))
structure Cx.Ok (X:Cx):Prop where
 mod:Mod X.K X.mg X.base
 kind:X.env.scope.kind=.function
 glob:X.env.globals=mainGlobals
 blt:X.env.builtins=builtinsNs
 above:X.s₀.heap.objs.size≤X.env.locals
 inj:∀ x y c,X.env.cells.lookup x=some c→X.env.cells.lookup y=some c→x=y
 has:∀ x,(X.env.kindOf x=some .cell∨X.env.kindOf x=some .free)→∃ c,X.env.cells.lookup x=some c
 cab:∀ x c,X.fn x=true→X.env.cells.lookup x=some c→X.s₀.heap.objs.size≤c
 hd:X.calm=true→X.A.handled=none
 frames:X.A.frames=some X.stack
 stk:X.stack=X.outer∨(X.stack=X.env::X.outer∧X.env.frame=some X.env.locals)
 exf:∀ b∈X.ex,b≠X.env.locals∧∀ x c,X.env.cells.lookup x=some c→c≠b
 bs:∀ b o,X.base.get? b=some o→X.s₀.heap.get? b=some o∧X.H₀ b=none
 bsz:X.base.objs.size≤X.s₀.heap.objs.size
 noex:∀ b o,X.base.get? b=some o→b∉X.ex
 exfs:∀ b∈X.ex,b∉X.fs
 funs:X.s₀.heap.FunFrames X.base X.outer
 frf:∀ b∈X.fs,X.H₀ b=none
structure Inv (X:Cx) (pins:List (Addr×Obj)) (σ:List (Option V)) (H:Hp) (s:Shared):Prop where
 ok:X.Ok
 os:s.os=X.s₀.os
 bare:AllBare s.gens
 base:Un X.fs X.ex X.H₀ H X.s₀.heap s.heap
 loc:∃ m,s.heap.Ns X.env.locals m∧∀ (i:Nat) (x:Str) (v:V),X.N[i]?=some x→σ[i]?=some (some v)→Vis X.env.scope x→∃ u,RelV v u∧Look X.env s.heap m x u
 cell:∀ x c,X.env.cells.lookup x=some c→∃ v,s.heap.IsCell c v
 free:H X.env.locals=none
 freeC:∀ x c,X.env.cells.lookup x=some c→H c=none
 pin:∀ p∈X.pn++pins,s.heap.get? p.1=some p.2∧H p.1=none∧p.1≠X.env.locals∧p.1∉X.fs∧∀ v,p.2.data≠.cell v
 hok:HOk X.prog X.w H s.heap
 len:σ.length=X.N.length
section
variable {X:Cx}{pins:List (Addr×Obj)}{σ:List (Option V)}{H H':Hp}{s:Shared}{h':Heap}
theorem Cx.Ok.nofr (ok:X.Ok) {b:Addr}{o:Obj} (e:X.base.get? b=some o):b∉X.fs:=fun hb=>by
 have:=(ok.funs.mem hb).1
 rw [e] at this;cases this
theorem Inv.bs (I:Inv X pins σ H s):∀ b o,X.base.get? b=some o→s.heap.get? b=some o∧H b=none:=fun b o e =>
 ⟨I.base.keep b o (I.ok.bs b o e).1 (I.ok.bs b o e).2 (I.ok.nofr e) (I.ok.noex b o e),I.base.free b o (I.ok.bs b o e).1 (I.ok.bs b o e).2 (I.ok.noex b o e)⟩
theorem Inv.bk (I:Inv X pins σ H s):∀ b o,X.base.get? b=some o→s.heap.get? b=some o:=fun b o e=>(I.bs b o e).1
theorem Inv.mod (I:Inv X pins σ H s):Mod X.K X.mg X.base:=I.ok.mod
theorem Inv.kIn (I:Inv X pins σ H s):X.K.In s.heap:=I.ok.mod.kin.keeps I.bk
theorem Inv.fr (I:Inv X pins σ H s):∃ m,Fr X.base X.env.locals s.heap m :=
 let ⟨m,hn,_⟩:=I.loc
 ⟨m,hn,I.bk,vG I.ok.bsz I.ok.above⟩
theorem Inv.lt (I:Inv X pins σ H s):X.env.locals<s.heap.objs.size:=let ⟨_,hn,_⟩:=I.loc;hn.lt
theorem Inv.sz (I:Inv X pins σ H s):X.s₀.heap.objs.size≤s.heap.objs.size:=vG I.ok.above (Nat.le_of_lt I.lt)
theorem Inv.nofs (I:Inv X pins σ H s) {a:Addr} (h:s.heap.objs.size≤a):a∉X.fs:=fun hb=>by
 obtain ⟨_,o,ho,_⟩:=I.ok.funs.mem hb
 exact absurd (vF (Heap.lt_size ho) (vG I.sz h)) (Nat.lt_irrefl _)
theorem Inv.cne (I:Inv X pins σ H s):∀ x c,X.env.cells.lookup x=some c→c≠X.env.locals:=fun x c e z=>by
 obtain ⟨v,o,ho,hd⟩:=I.cell x c e
 obtain ⟨m,⟨o',es,ep,ho',hd',_⟩,_⟩:=I.loc
 rw [z,ho'] at ho;cases ho;rw [hd'] at hd;cases hd
theorem Inv.funs (I:Inv X pins σ H s):s.heap.FunFrames X.base X.outer:=by
 have all:∀ (l:List Env),(∀ b∈frs l,b∈X.fs)→X.s₀.heap.FunFrames X.base l→s.heap.FunFrames X.base l:=by
  intro l
  induction l with
  | nil=>intro _ _;trivial
  | cons env r ih =>
   intro hs hl
   obtain ⟨F,⟨L,o,hf,hn,J,G⟩,hr⟩:=hl
   have q:L∈X.fs:=hs L (by unfold frs;rw [wC,hf];exact vb)
   obtain ⟨O,e⟩:=I.base.slot L o J (I.ok.frf L q) q fun z=>I.ok.exfs L z q
   exact ⟨F,⟨L,_,hf,hn,e,G⟩,ih (fun b hb=>hs b (by unfold frs;rw [wC,hf];exact vd _ hb)) hr⟩
 exact all X.outer (fun _ hb=>hb) I.ok.funs
theorem Inv.stack (I:Inv X pins σ H s):s.heap.FunFrames X.base X.stack:=by
 rcases I.ok.stk with e | ⟨e,hf⟩
 ·rw [e];exact I.funs
 ·rw [e]
  obtain ⟨m,hn,_⟩:=I.loc
  refine .cons (by rw [I.ok.kind];decide) hf hn ?_ I.funs
  exact Heap.get?_none_of_le (vG I.ok.bsz I.ok.above)
theorem Inv.stkSub (I:Inv X pins σ H s):∀ b∈frs X.stack,b∈X.env.locals::X.fs:=fun b hb=>by
 rcases I.ok.stk with e | ⟨e,hf⟩
 ·rw [e] at hb;exact vd _ hb
 ·rw [e] at hb
  unfold frs at hb
  rw [wC,hf] at hb
  exact hb
theorem Inv.stkFree (I:Inv X pins σ H s):∀ b∈frs X.stack,H b=none:=fun b hb=>by
 rcases u8.mp (I.stkSub b hb) with e | hb
 ·rw [e];exact I.free
 ·obtain ⟨_,o,ho,_⟩:=I.ok.funs.mem hb
  exact I.base.free b o ho (I.ok.frf b hb) fun z=>I.ok.exfs b z hb
theorem Inv.step {g':Array GenState}{t':Nat}{d':Drawn}{ch:List Addr} (I:Inv X pins σ H s)
  (hch:∀ b∈ch,(b∈X.ex∨X.s₀.heap.objs.size≤b)∧b≠X.env.locals∧(∀ x c,X.env.cells.lookup x=some c→c≠b)∧∀ p∈X.pn++pins,p.1≠b)
  (keep:∀ b o,b≠X.env.locals→b∉X.fs→b∉ch→s.heap.get? b=some o→H b=none→h'.get? b=some o)
  (slot:∀ b o,b≠X.env.locals→b∈X.fs→b∉ch→s.heap.get? b=some o→H b=none→∃ sl,h'.get? b=some { o with slots:=sl }) (free:∀ b o,b∉ch→s.heap.get? b=some o→H b=none→H' b=none)
  (there:∀ b o,b∉ch→s.heap.get? b=some o→∃ o',h'.get? b=some o')
  (tups:∀ b xs,H b=some (.tup xs)→H' b=some (.tup xs)) (frzs:∀ b o u,H b=some (.frz o u)→H' b=some (.frz o u)) (tbls:∀ b ps,H b=some (.tbl ps)→∃ more,H' b=some (.tbl (ps++more)))
  (ns:∀ m,s.heap.Ns X.env.locals m→h'.Ns X.env.locals m) (hok:HOk X.prog X.w H' h') (hg:AllBare g') :
  Inv X pins σ H' { s with heap:=h',gens:=g',drawn:=d',toks:=t' }:=by
 have Y:∀ b o,X.s₀.heap.get? b=some o→b≠X.env.locals:=fun b o e=>vW (vF (Heap.lt_size e) I.ok.above)
 have O:∀ b o,X.s₀.heap.get? b=some o→b∉X.ex→b∉ch:=fun b o e F hb=>by
  rcases (hch b hb).1 with z | z
  ·exact F z
  ·exact absurd (vF (Heap.lt_size e) z) (Nat.lt_irrefl _)
 have R:∀ x c,X.env.cells.lookup x=some c→∀ v,s.heap.IsCell c v→h'.IsCell c v:=fun x c e v ⟨o,U,Z⟩=>by
  have J:c∉ch:=fun z=>(hch c z).2.2.1 x c e rfl
  by_cases hc:c∈X.fs
  ·obtain ⟨sl,q⟩:=slot c o (I.cne x c e) hc J U (I.freeC x c e)
   exact ⟨_,q,Z⟩
  ·exact ⟨o,keep c o (I.cne x c e) hc J U (I.freeC x c e),Z⟩
 refine ⟨I.ok,I.os,hg,⟨fun b o e n hb F=>?_,fun b o e n hb F=>?_,fun b o e n F=>?_,fun b o e F=>?_,fun b xs e=>tups b xs (I.base.tups b xs e),fun b o xs e=>frzs b o xs (I.base.frzs b o xs e),fun b ps e=>?_⟩,?_,fun x c e=>?_,?_,fun x c e=>?_,fun p hp=>?_,hok,I.len⟩
 ·exact keep b o (Y b o e) hb (O b o e F) (I.base.keep b o e n hb F) (I.base.free b o e n F)
 ·obtain ⟨sl,G⟩:=I.base.slot b o e n hb F
  obtain ⟨ab,W⟩:=slot b _ (Y b o e) hb (O b o e F) G (I.base.free b o e n F)
  exact ⟨ab,W⟩
 ·obtain ⟨o',G⟩:=I.base.there b o e F
  exact free b o' (O b o e F) G (I.base.free b o e n F)
 ·obtain ⟨o',G⟩:=I.base.there b o e F
  exact there b o' (O b o e F) G
 ·obtain ⟨m1,G⟩:=I.base.tbls b ps e
  obtain ⟨m2,W⟩:=tbls b _ G
  exact ⟨m1++m2,by rw [W,Array.append_assoc]⟩
 ·obtain ⟨m,hn,hl⟩:=I.loc
  refine ⟨m,ns m hn,fun i x v G W e3=>?_⟩
  obtain ⟨u,r,l⟩:=hl i x v G W e3
  refine ⟨u,r,?_⟩
  rcases l with l | ⟨k,c,e,z⟩
  ·exact .inl l
  ·exact .inr ⟨k,c,e,R x c e _ z⟩
 ·obtain ⟨v,z⟩:=I.cell x c e
  exact ⟨v,R x c e v z⟩
 ·obtain ⟨m,⟨o,_,_,U,_⟩,_⟩:=I.loc
  exact free _ o (fun z=>(hch _ z).2.1 rfl) U I.free
 ·obtain ⟨v,o,U,Z⟩:=I.cell x c e
  exact free c o (fun z=>(hch c z).2.2.1 x c e rfl) U (I.freeC x c e)
 ·obtain ⟨e,n,ne,nf,d⟩:=I.pin p hp
  have J:p.1∉ch:=fun z=>(hch p.1 z).2.2.2 p hp rfl
  exact ⟨keep p.1 p.2 ne nf J e n,free p.1 p.2 J e n,ne,nf,d⟩
theorem Inv.un {t':Nat} (I:Inv X pins σ H s) (u:Un X.fs [] H H' s.heap h') (hok:HOk X.prog X.w H' h'):Inv X pins σ H' { s with heap:=h',toks:=t' }:=by
 obtain ⟨m,⟨o,es,Y,J,r⟩,_⟩:=id I.loc
 obtain ⟨W,U⟩:=u.any J I.free (by simp)
 exact I.step (g':=s.gens) (d':=s.drawn) (ch:=[]) (fun _ z=>nomatch z) (fun b o _ hb _ e n=>u.keep b o e n hb (by simp)) (fun b o _ hb _ e n=>u.slot b o e n hb (by simp)) (fun b o _ e n=>u.free b o e n (by simp)) (fun b o _ e=>u.there b o e (by simp)) u.tups u.frzs u.tbls (fun Z O=>by
  obtain ⟨o',F,G,q,R⟩:=O
  rw [J] at q;cases q
  exact ⟨_,F,G,U,R⟩) hok I.bare
theorem Inv.call {g':Array GenState}{t':Nat}{d':Drawn}{ch:List Addr} (I:Inv X pins σ H s) (u:Un (frs X.stack) ch H H' s.heap h') (hok:HOk X.prog X.w H' h') (hg:AllBare g')
  (hch:∀ b∈ch,(b∈X.ex∨X.s₀.heap.objs.size≤b)∧b≠X.env.locals∧(∀ x c,X.env.cells.lookup x=some c→c≠b)∧∀ p∈X.pn++pins,p.1≠b) :
  Inv X pins σ H' { s with heap:=h',gens:=g',drawn:=d',toks:=t' }:=by
 obtain ⟨m,⟨o,es,Y,O,r⟩,_⟩:=id I.loc
 obtain ⟨W,F⟩:=u.any O I.free fun z=>(hch _ z).2.1 rfl
 exact I.step (ch:=ch) hch (fun b o F hb hc e n=>u.keep b o e n (fun z=>(u8.mp (I.stkSub b z)).elim F hb) hc) (fun b o _ _ hc e n=>u.any e n hc) (fun b o hc e n=>u.free b o e n hc) (fun b o hc e=>u.there b o e hc) u.tups u.frzs u.tbls (fun Z R=>by
  obtain ⟨o',G,J,q,U⟩:=R
  rw [O] at q;cases q
  exact ⟨_,G,J,F,U⟩) hok hg
theorem Inv.turned {t':Nat}{it:Addr} (I:Inv X pins σ H s) (k:∀ b o,b≠it→s.heap.get? b=some o→h'.get? b=some o) (hn:H it=none) (hL:it≠X.env.locals)
  (h1:it∈X.ex∨X.s₀.heap.objs.size≤it) (h2:∀ x c,X.env.cells.lookup x=some c→c≠it) (h3:∀ p∈X.pn++pins,p.1≠it):Inv X pins σ H { s with heap:=h',toks:=t' }:=by
 have F:∀ b u,H b=some u→b≠it:=fun b u e z=>by rw [z,hn] at e;cases e
 refine I.step (g':=s.gens) (d':=s.drawn) (ch:=[it]) (fun b hb=>?_) (fun b o _ _ hc e _=>k b o (fun z=>hc (by simp [z])) e) (fun b o _ _ hc e _=>⟨o.slots,k b o (fun z=>hc (by simp [z])) e⟩) (fun _ _ _ _ n=>n)
  (fun b o hc e=>⟨o,k b o (fun z=>hc (by simp [z])) e⟩) (fun _ _ e=>e) (fun _ _ _ e=>e) (fun b ps e=>⟨#[],by rw [e];simp⟩) (fun m J=>?_) (fun b u e=>?_) I.bare
 ·have e:b=it:=by simpa using hb
  subst e
  exact ⟨h1,hL,h2,h3⟩
 ·obtain ⟨o,es,G,O,r⟩:=J
  exact ⟨o,es,G,k _ o (Ne.symm hL) O,r⟩
 ·refine (I.hok b u e).stay (fun c v hc q=>k c v ?_ q) (fun _ q=>q) fun _ _ q=>q
  rcases hc with z | z
  ·rw [z];exact F b u e
  ·exact F c _ z
theorem Inv.tok (I:Inv X pins σ H s) (t:Nat):Inv X pins σ H { s with toks:=t }:=I.un (h':=s.heap) (t':=t) Un.refl I.hok
theorem Inv.kept {t':Nat} (I:Inv X pins σ H s) (k:∀ b u,s.heap.get? b=some u→h'.get? b=some u):Inv X pins σ H { s with heap:=h',toks:=t' }:=I.un (Un.kept k) (I.hok.kept k)
theorem Inv.laid {a:Addr}{o:HO}{t':Nat} (I:Inv X pins σ H s) (k:∀ b u,s.heap.get? b=some u→h'.get? b=some u) (hp:s.heap.objs.size≤a) (new:ObjOk X.prog X.w (upd H a o) h' a o) :
  Inv X pins σ (upd H a o) { s with heap:=h',toks:=t' }:=I.un (Un.laid k hp (I.hok.fresh hp)) (I.hok.laid k hp new)
theorem Inv.write {x e:Addr}{o:HO}{t':Nat} (I:Inv X pins σ H s) (mu:Mut (H x)) (he:e=x∨H e=some (.own x)) (k:∀ b u,b≠e→s.heap.get? b=some u→h'.get? b=some u) (heo:∃ u,h'.get? e=some u)
  (new:ObjOk X.prog X.w (upd H x o) h' x o):Inv X pins σ (upd H x o) { s with heap:=h',toks:=t' }:=I.un (Un.write mu he k heo) (I.hok.write mu he k heo new)
theorem Inv.weak {σ':List (Option V)} (I:Inv X pins σ H s) (hl:σ'.length=σ.length) (w:∀ (i:Nat) v,σ'[i]?=some (some v)→σ[i]?=some (some v)):Inv X pins σ' H s :=
 ⟨I.ok,I.os,I.bare,I.base,let ⟨m,hn,hl'⟩:=I.loc;⟨m,hn,fun i x v e1 e2 e3=>hl' i x v e1 (w i v e2) e3⟩,I.cell,I.free,I.freeC,I.pin,I.hok,hl.trans I.len⟩
theorem Inv.pins_of {pins':List (Addr×Obj)} (I:Inv X pins σ H s) (h:∀ p∈pins',s.heap.get? p.1=some p.2∧H p.1=none∧p.1≠X.env.locals∧p.1∉X.fs∧∀ v,p.2.data≠.cell v):Inv X pins' σ H s :=
 ⟨I.ok,I.os,I.bare,I.base,I.loc,I.cell,I.free,I.freeC,fun p hp=>(vr.mp hp).elim (fun z=>I.pin p (List.mem_append_left _ z)) (h p),I.hok,I.len⟩
theorem qd {N:List Str} (hN:N.Nodup) {i j:Nat}{x:Str} (a:N[i]?=some x) (b:N[j]?=some x):i=j:=by
 obtain ⟨h1,e1⟩:=u3.mp a
 obtain ⟨h2,e2⟩:=u3.mp b
 exact (List.getElem_inj hN).mp (e1.trans e2.symm)
theorem mT {M:Model}{A:Around}{E:Value→Shared→Prop}{i:Nat}{x:Str}{v:V}{u:Value}{Q:Unit→Shared→Prop} (I:Inv X pins σ H s) (hN:X.N.Nodup) (hi:X.N[i]?=some x) (hx:Loc X.env.scope x) (r:RelV v u)
  (h:∀ s',Inv X pins (σ.set i (some v)) H s'→(∃ a,Heap.SameBut a s.heap s'.heap∧(a=X.env.locals∨X.env.cells.lookup x=some a))→Q () s') (hf:X.fn x=true∨X.env.scope.names.lookup x=some .local:=by first | exact .inl rfl | exact .inr rfl | assumption):wpAny M A (storeName X.env x u) Q E s:=by
 obtain ⟨m,hn,hl⟩:=id I.loc
 have a1:(X.env.scope.kind == .class || (X.env.scope.kind == .module && X.env.locals != X.env.globals))=false:=by rw [I.ok.kind];rfl
 have ag:i<σ.length:=by rw [I.len];exact (u3.mp hi).1
 have cne:=I.cne
 have G:∀ {a:Addr}{h':Heap},(∃ o,s.heap.get? a=some o∧H a=none)→Heap.SameBut a s.heap h'→HOk X.prog X.w H h':=fun {a h'} ha hs b ob e=>by
  obtain ⟨_,_,R⟩:=ha
  refine (I.hok b ob e).stay (fun c W hc q=>(hs.2 c ?_).trans q) (fun _ q=>q) fun _ _ q=>q
  rintro rfl
  rcases hc with rfl | hc
  ·rw [R] at e;cases e
  ·rw [R] at hc;cases hc
 rcases hx with hk | hk
 ·refine wpAny_storeName_local hk hn (fun h' a6 hs=>?_) a1
  obtain ⟨oL,_,_,a5,_⟩:=id hn
  refine h _ ⟨I.ok,I.os,I.bare,⟨fun b o e n hb hx=>?_,fun b o e n hb hx=>?_,I.base.free,fun b o e hx=>?_,I.base.tups,I.base.frzs,I.base.tbls⟩,⟨_,a6,fun j y v' F J e3=>?_⟩,fun y c e=>?_,I.free,I.freeC,fun p hp=>?_,G ⟨oL,a5,I.free⟩ hs,by simpa using I.len⟩ ⟨_,hs,.inl rfl⟩
  ·exact (hs.2 b (vW (vF (Heap.lt_size e) I.ok.above))).trans (I.base.keep b o e n hb hx)
  ·obtain ⟨sl,F⟩:=I.base.slot b o e n hb hx
   exact ⟨sl,(hs.2 b (vW (vF (Heap.lt_size e) I.ok.above))).trans F⟩
  ·obtain ⟨o',F⟩:=I.base.there b o e hx
   exact ⟨o',(hs.2 b (vW (vF (Heap.lt_size e) I.ok.above))).trans F⟩
  ·by_cases O:j=i
   ·subst O
    rw [hi] at F;cases F
    rw [wL ag] at J
    cases J
    exact ⟨u,r,.inl ⟨hk,by simp⟩⟩
   ·rw [List.getElem?_set_ne (Ne.symm O)] at J
    obtain ⟨u',r',q⟩:=hl j y v' F J e3
    refine ⟨u',r',?_⟩
    rcases q with ⟨k,e⟩ | ⟨k,c,e,z⟩
    ·refine .inl ⟨k,?_⟩
     have:y≠x:=fun e=>O (qd hN F (e▸hi))
     simp [this,e]
    ·exact .inr ⟨k,c,e,z.sameBut hs (cne y c e)⟩
  ·obtain ⟨W,z⟩:=I.cell y c e
   exact ⟨W,z.sameBut hs (cne y c e)⟩
  ·obtain ⟨e,n,Z,nf,d⟩:=I.pin p hp
   exact ⟨(hs.2 p.1 Z).trans e,n,Z,nf,d⟩
 ·have U:X.fn x=true:=by
   rcases hf with z | z
   ·exact z
   ·rw [z] at hk;cases hk
  obtain ⟨c,hc⟩:=I.ok.has x (.inl hk)
  obtain ⟨W,z⟩:=I.cell x c hc
  refine wpAny_storeName_cell I.ok.kind hk hc z (fun h' af hs=>?_)
  obtain ⟨oc,ab,ap⟩:=id z
  refine h { s with heap:=h' } ⟨I.ok,I.os,I.bare,⟨fun b o e n hb hx=>?_,fun b o e n hb hx=>?_,I.base.free,fun b o e hx=>?_,I.base.tups,I.base.frzs,I.base.tbls⟩,⟨m,hn.sameBut hs (Ne.symm (cne x c hc)),fun j y v' F J e3=>?_⟩,fun y Y e=>?_,I.free,I.freeC,fun p hp=>?_,G ⟨oc,ab,I.freeC x c hc⟩ hs,by simpa using I.len⟩ ⟨c,hs,.inr hc⟩
  ·exact (hs.2 b (vW (vF (Heap.lt_size e) (I.ok.cab x c U hc)))).trans (I.base.keep b o e n hb hx)
  ·obtain ⟨sl,F⟩:=I.base.slot b o e n hb hx
   exact ⟨sl,(hs.2 b (vW (vF (Heap.lt_size e) (I.ok.cab x c U hc)))).trans F⟩
  ·obtain ⟨o',F⟩:=I.base.there b o e hx
   exact ⟨o',(hs.2 b (vW (vF (Heap.lt_size e) (I.ok.cab x c U hc)))).trans F⟩
  ·by_cases O:j=i
   ·subst O
    rw [hi] at F;cases F
    rw [wL ag] at J
    cases J
    exact ⟨u,r,.inr ⟨.inl hk,c,hc,af⟩⟩
   ·rw [List.getElem?_set_ne (Ne.symm O)] at J
    obtain ⟨u',r',q⟩:=hl j y v' F J e3
    refine ⟨u',r',?_⟩
    rcases q with q | ⟨k,Y,e,z'⟩
    ·exact .inl q
    ·refine .inr ⟨k,Y,e,z'.sameBut hs ?_⟩
     rintro rfl
     exact O (qd hN F (I.ok.inj _ _ _ e hc▸hi))
  ·by_cases ai:Y=c
   ·subst ai;exact ⟨_,af⟩
   ·obtain ⟨w2,z2⟩:=I.cell y Y e
    exact ⟨w2,z2.sameBut hs ai⟩
  ·obtain ⟨e,n,Z,nf,d⟩:=I.pin p hp
   refine ⟨(hs.2 p.1 ?_).trans e,n,Z,nf,d⟩
   intro q
   rw [q,ab] at e
   have q':oc=p.2:=vz e
   exact d W (by rw [← q'];exact ap)
theorem gs {M:Model}{A:Around}{E:Value→Shared→Prop}{i:Nat}{x:Str}{v:V}{u:Value}{Q:Unit→Shared→Prop} (I:Inv X pins σ H s) (hN:X.N.Nodup) (hi:X.N[i]?=some x) (hx:Loc X.env.scope x) (r:RelV v u)
  (h:∀ s',Inv X pins (σ.set i (some v)) H s'→Q () s') (hf:X.fn x=true∨X.env.scope.names.lookup x=some .local:=by first | exact .inl rfl | exact .inr rfl | assumption):wpAny M A (storeName X.env x u) Q E s :=
 mT I hN hi hx r (fun s' q _=>h s' q) hf
theorem Inv.call' {s':Shared}{ch:List Addr} (I:Inv X pins σ H s) (ho:s'.os=s.os) (u:Un (frs X.stack) ch H H' s.heap s'.heap) (hok:HOk X.prog X.w H' s'.heap) (hg:AllBare s'.gens)
  (hch:∀ b∈ch,(b∈X.ex∨X.s₀.heap.objs.size≤b)∧b≠X.env.locals∧(∀ x c,X.env.cells.lookup x=some c→c≠b)∧∀ p∈X.pn++pins,p.1≠b):Inv X pins σ H' s':=by
 obtain ⟨h',g',d',t',o'⟩:=s'
 have e:o'=s.os:=ho
 subst e
 exact I.call (g':=g') (t':=t') (d':=d') u hok hg hch
end
abbrev XK:=Value→Option Addr→Hp→Prop
abbrev St:=List (Option V)
abbrev VK:=V→Hp→Prop
abbrev TE:=St→Hp→VK→Prop
abbrev TT:=St→Hp→(Bool→Hp→Prop)→Prop
abbrev TA:=St→Hp→(List V→Hp→Prop)→Prop
structure Ends where
 nx:St→Hp→Prop
 rt:VK
 bk:St→Hp→Prop:=fun _ _=>False
 ct:St→Hp→Prop:=fun _ _=>False
abbrev TS:=Ends→St→Hp→Prop
def EP (X:Cx) (pins:List (Addr×Obj)) (σ:St) (Q:VK) (u:Value) (s':Shared):Prop:=∃ v H',Inv X pins σ H' s'∧RelV v u∧Q v H'
def TP (X:Cx) (pins:List (Addr×Obj)) (σ:St) (Q:Bool→Hp→Prop) (b:Bool) (s':Shared):Prop:=∃ H',Inv X pins σ H' s'∧Q b H'
def AP (X:Cx) (pins:List (Addr×Obj)) (σ:St) (Q:List V→Hp→Prop) (us:List Value) (s':Shared):Prop:=∃ vs H',Inv X pins σ H' s'∧Vals vs us∧Q vs H'
def SP (X:Cx) (pins:List (Addr×Obj)) (D:Ends) (f:Flow) (s':Shared):Prop :=
 match f with
 | .next=>∃ σ' H',Inv X pins σ' H' s'∧D.nx σ' H'
 | .brk=>∃ σ' H',Inv X pins σ' H' s'∧D.bk σ' H'
 | .cont=>∃ σ' H',Inv X pins σ' H' s'∧D.ct σ' H'
 | .ret u=>∃ v σ' H',Inv X pins σ' H' s'∧RelV v u∧D.rt v H'
def PE (X:Cx) (e:Expr) (t:TE):Prop :=
 ∀ (pins:List (Addr×Obj)) (s:Shared) (σ:St) (H:Hp) (Q:VK),Inv X pins σ H s→t σ H Q→wpAny (model X.prog X.w) X.A (eval e X.env) (EP X pins σ Q) X.xe s
def PT (X:Cx) (e:Expr) (t:TT):Prop :=
 ∀ (pins:List (Addr×Obj)) (s:Shared) (σ:St) (H:Hp) (Q:Bool→Hp→Prop),Inv X pins σ H s→t σ H Q→wpAny (model X.prog X.w) X.A (isTrue e X.env (eval e X.env)) (TP X pins σ Q) X.xe s
def PW (X:Cx) (e:Expr) (t:TT):Prop :=
 ∀ (whole:Sem Value) (pins:List (Addr×Obj)) (s:Shared) (σ:St) (H:Hp) (Q:Bool→Hp→Prop),Inv X pins σ H s→t σ H Q→wpAny (model X.prog X.w) X.A (isTrue e X.env whole) (TP X pins σ Q) X.xe s
theorem PW.pt {X:Cx}{e:Expr}{t:TT} (h:PW X e t):PT X e t:=h _
def PA (X:Cx) (es:List Expr) (t:TA):Prop :=
 ∀ (pos:Pos) (pins:List (Addr×Obj)) (s:Shared) (σ:St) (H:Hp) (Q:List V→Hp→Prop),Inv X pins σ H s→t σ H Q→wpAny (model X.prog X.w) X.A (spliced (backTo pos (starEach es X.env))) (AP X pins σ Q) X.xe s
def PS (X:Cx) (st:Stmt) (t:TS):Prop :=
 ∀ (pins:List (Addr×Obj)) (s:Shared) (σ:St) (H:Hp) (D:Ends),Inv X pins σ H s→t D σ H→wpAny (model X.prog X.w) X.A (exec st X.env) (SP X pins D) X.xe s
def PSs (X:Cx) (st:List Stmt) (t:TS):Prop :=
 ∀ (pins:List (Addr×Obj)) (s:Shared) (σ:St) (H:Hp) (D:Ends),Inv X pins σ H s→t D σ H→wpAny (model X.prog X.w) X.A (execs st X.env) (SP X pins D) X.xe s
theorem thn {α:Type}{t:Sem α}{Q Q':α→Shared→Prop}{M:Model}{A:Around}{E:Value→Shared→Prop}{s:Shared} (h:wpAny M A t Q E s) (hQ:∀ a s,Q a s→Q' a s):wpAny M A t Q' E s:=wpAny_mono h hQ fun _ _ x=>x
end L2
namespace L2
open PySem PySem.Spec PyProof.Rows
section
variable {X:Cx}
def tVar (i:Nat):TE:=fun σ H Q=>∃ v,σ[i]?=some (some v)∧Q v H
def tC (v:V):TE:=fun _ H Q=>Q v H
theorem pe_var {i:Nat}{x:Str}{pos:Pos} (hN:X.N[i]?=some x) (hv:Vis X.env.scope x) (hd:(x == ("__debug__":Str))=false:=by decide) (hcd:(x == ("__classdict__":Str))=false:=by decide):PE X (.Name x pos) (tVar i):=by
 intro pins s σ H Q I h
 obtain ⟨v,e,h⟩:=h
 obtain ⟨m,hn,hl⟩:=I.loc
 obtain ⟨u,r,l⟩:=hl i x v hN e hv
 have fin:EP X pins σ Q u s:=⟨v,H,I,r,h⟩
 rcases l with ⟨hk,F⟩ | ⟨hk,c,hc,q⟩
 ·exact wpAny_Name (wpAny_loadName_local I.ok.kind hk hn F fin) hd
 ·rcases hk with hk | hk
  ·exact wpAny_Name (wpAny_loadName_cell I.ok.kind hk hc q fin) hd
  ·exact wpAny_Name (wpAny_loadName_free I.ok.kind hk hc q fin hcd) hd
theorem ae {i j pos}:PE X (.Constant (.int i) j pos) (tC (.int i)):=fun _ _ _ H _ I h=>wpAny_Constant_int ⟨.int i,H,I.tok _,⟨_,rfl⟩,h⟩
theorem gS {b j pos}:PE X (.Constant (.bool b) j pos) (tC (.bl b)):=fun _ _ _ H _ I h=>Constant_bool ⟨.bl b,H,I,rfl,h⟩
theorem pe_non {j pos}:PE X (.Constant .none j pos) (tC .non):=fun _ _ _ H _ I h=>Constant_none ⟨.non,H,I,rfl,h⟩
theorem aU {x j pos}:PE X (.Constant (.str x) j pos) (tC (.str x)):=fun _ _ _ H _ I h=>Calls.Constant_str ⟨.str x,H,I.tok _,⟨_,rfl⟩,h⟩
def Gl (X:Cx) (x:Str):Prop:=X.env.kindOf x=some .globalImplicit
theorem iV {E:Value→Shared→Prop}{pins:List (Addr×Obj)}{s:Shared}{σ:St}{H:Hp}{x:Str}{u:Value}{pos:Pos}{Q:Value→Shared→Prop} (I:Inv X pins σ H s) (hg:Gl X x) (hm:X.mg x=some u) (h:Q u s)
  (hd:(x == ("__debug__":Str))=false:=by decide):wpAny (model X.prog X.w) X.A (eval (.Name x pos) X.env) Q E s :=
 Calls.Name_function_global I.ok.kind hg (Calls.loadGlobal_global (by rw [I.ok.glob];exact I.mod.glob.keeps I.bk) hm h) hd
theorem eX {E:Value→Shared→Prop}{pins:List (Addr×Obj)}{s:Shared}{σ:St}{H:Hp}{x:Str}{u:Value}{pos:Pos}{Q:Value→Shared→Prop} (I:Inv X pins σ H s) (hg:Gl X x) (hm:X.mg x=none) (hv:bootBuiltins x=some u) (h:Q u s)
  (hn:x≠"__name__":=by decide) (hd:(x == ("__debug__":Str))=false:=by decide):wpAny (model X.prog X.w) X.A (eval (.Name x pos) X.env) Q E s:=by
 obtain ⟨q,h1,h2⟩:=I.mod.blt
 exact Calls.Name_function_global I.ok.kind hg (Calls.loadGlobal_builtin (by rw [I.ok.glob];exact I.mod.glob.keeps I.bk) hm (by rw [I.ok.blt];exact h1.keeps I.bk) ((h2 x hn).trans hv) h) hd
theorem mo {x:Str}{v:V}{u:Value}{pos:Pos} (hg:Gl X x) (hm:X.mg x=some u) (r:RelV v u) (hd:(x == ("__debug__":Str))=false:=by decide):PE X (.Name x pos) (tC v) :=
 fun _ _ _ H _ I h=>iV I hg hm ⟨v,H,I,r,h⟩ hd
theorem pe_bltn {x:Str}{v:V}{u:Value}{pos:Pos} (hg:Gl X x) (hm:X.mg x=none) (hv:bootBuiltins x=some u) (r:RelV v u) (hn:x≠"__name__":=by decide) (hd:(x == ("__debug__":Str))=false:=by decide):PE X (.Name x pos) (tC v) :=
 fun _ _ _ H _ I h=>eX I hg hm hv ⟨v,H,I,r,h⟩ hn hd
variable {a b:Expr}{ta tb:TE}{pos:Pos}
def tB (t:TE):TT:=fun σ H Q=>t σ H fun x H1=>∃ c,x=.bl c∧Q c H1
theorem gG {e:Expr}{t:TE} (h:PE X e t) (he:∀ whole,isTrue e X.env whole=(do let v ← whole;standAt e.pos;holding [v] (truthy v)):=by intro _;rfl):PT X e (tB t):=by
 intro pins s σ H Q I hw
 refine isTrue_plain (thn (h pins s σ H _ I hw) fun v s1 ⟨x,H1,I1,r1,q1⟩=>?_) (he _)
 obtain ⟨d,rfl,q⟩:=q1
 cases r1
 exact wpAny_truthy_bool ⟨H1,I1,q⟩
variable {tA tB':TT}{rest:List Expr}
def tAnd (t u:TT):TT:=fun σ H Q=>t σ H fun c H1=>if c=true then u σ H1 Q else Q false H1
def tOr (t u:TT):TT:=fun σ H Q=>t σ H fun c H1=>if c=true then Q true H1 else u σ H1 Q
def tNot (t:TT):TT:=fun σ H Q=>t σ H fun c H1=>Q (!c) H1
theorem pw_and1 (ha:PT X a tA):PW X (.BoolOp .And [a] pos) tA:=by
 intro wh pins s σ H Q I h
 refine isTrue_and (thn (ha pins s σ H Q I h) fun c s1 e=>?_)
 cases c with
 | true=>exact isTrue_and_nil e
 | false=>exact e
theorem iu (ha:PT X a tA):PW X (.BoolOp .Or [a] pos) tA:=by
 intro wh pins s σ H Q I h
 refine isTrue_or (thn (ha pins s σ H Q I h) fun c s1 e=>?_)
 cases c with
 | false=>exact isTrue_or_nil e
 | true=>exact e
theorem pw_and (ha:PT X a tA) (hb:PW X (.BoolOp .And (b::rest) pos) tB'):PW X (.BoolOp .And (a::b::rest) pos) (tAnd tA tB'):=by
 intro wh pins s σ H Q I h
 refine isTrue_and (thn (ha pins s σ H _ I h) fun c s1 ⟨H1,I1,q1⟩=>?_)
 cases c with
 | true=>exact hb wh pins s1 σ H1 Q I1 q1
 | false=>exact ⟨H1,I1,q1⟩
theorem kB (ha:PT X a tA) (hb:PW X (.BoolOp .Or (b::rest) pos) tB'):PW X (.BoolOp .Or (a::b::rest) pos) (tOr tA tB'):=by
 intro wh pins s σ H Q I h
 refine isTrue_or (thn (ha pins s σ H _ I h) fun c s1 ⟨H1,I1,q1⟩=>?_)
 cases c with
 | true=>exact ⟨H1,I1,q1⟩
 | false=>exact hb wh pins s1 σ H1 Q I1 q1
theorem gH (ha:PT X a tA):PT X (.UnaryOp .Not a pos) (tNot tA):=by
 intro pins s σ H Q I h
 exact isTrue_not (ha pins s σ H (fun c H1=>Q (!c) H1) I h)
def tAndV (ta tb:TE):TE:=fun σ H Q=>ta σ H fun x H1=>∃ c,x=.bl c∧if c=true then tb σ H1 Q else Q (.bl false) H1
def tOrV (ta tb:TE):TE:=fun σ H Q=>ta σ H fun x H1=>∃ c,x=.bl c∧if c=true then Q (.bl true) H1 else tb σ H1 Q
def tNotV (ta:TE):TE:=fun σ H Q=>ta σ H fun x H1=>∃ c,x=.bl c∧Q (.bl (!c)) H1
theorem p9 {op}{t:TE} (h:PE X a t):PE X (.BoolOp op [a] pos) t:=fun pins s σ H Q I hw=>BoolOp_one (h pins s σ H Q I hw)
theorem qa (ha:PE X a ta) (hb:PE X (.BoolOp .And (b::rest) pos) tb):PE X (.BoolOp .And (a::b::rest) pos) (tAndV ta tb):=by
 intro pins s σ H Q I h
 refine BoolOp_and (thn (ha pins s σ H _ I h) fun v s1 ⟨x,H1,I1,r1,q1⟩=>?_)
 obtain ⟨c,rfl,q1⟩:=q1
 cases r1
 refine wpAny_truthy_bool ?_
 cases c with
 | true=>exact hb pins s1 σ H1 Q I1 q1
 | false=>exact ⟨.bl false,H1,I1,rfl,q1⟩
theorem pe_or (ha:PE X a ta) (hb:PE X (.BoolOp .Or (b::rest) pos) tb):PE X (.BoolOp .Or (a::b::rest) pos) (tOrV ta tb):=by
 intro pins s σ H Q I h
 refine BoolOp_or (thn (ha pins s σ H _ I h) fun v s1 ⟨x,H1,I1,r1,q1⟩=>?_)
 obtain ⟨c,rfl,q1⟩:=q1
 cases r1
 refine wpAny_truthy_bool ?_
 cases c with
 | false=>exact hb pins s1 σ H1 Q I1 q1
 | true=>exact ⟨.bl true,H1,I1,rfl,q1⟩
theorem pe_not (ha:PE X a ta):PE X (.UnaryOp .Not a pos) (tNotV ta):=by
 intro pins s σ H Q I h
 refine UnaryOp_ (thn (ha pins s σ H _ I h) fun v s1 ⟨x,H1,I1,r1,q1⟩=>?_)
 obtain ⟨c,rfl,q1⟩:=q1
 cases r1
 exact not_of (wpAny_truthy_bool ⟨.bl (!c),H1,I1,rfl,q1⟩)
def tIf (t:TT) (ta tb:TE):TE:=fun σ H Q=>t σ H fun c H1=>if c=true then ta σ H1 Q else tb σ H1 Q
theorem mn {c:Expr} (hc:PT X c tA) (ha:PE X a ta) (hb:PE X b tb):PE X (.IfExp c a b pos) (tIf tA ta tb):=by
 intro pins s σ H Q I h
 refine wpAny_IfExp (thn (hc pins s σ H _ I h) fun d s1 ⟨H1,I1,q1⟩=>?_)
 cases d with
 | true=>exact ha pins s1 σ H1 Q I1 q1
 | false=>exact hb pins s1 σ H1 Q I1 q1
end
end L2
namespace L2
open PySem PySem.Spec PyProof.Rows
def SqL (K:PySem.W.Frag) (H:Hp) (a:Addr) (xs:List V):Prop :=
 Rd H a (.lst xs) ∨
  ∃ (o:Obj) (its:Array Value) (n:Nat),K.lookup a=some o∧o.cls=.type "list"∧o.dict=none∧o.data=.seq its n∧its.size≤sizeLine∧Vals xs its.toList
def SqT (K:PySem.W.Frag) (H:Hp) (a:Addr) (xs:List V):Prop :=
 Rd H a (.tup xs) ∨
  ∃ (o:Obj) (its:Array Value) (n:Nat),K.lookup a=some o∧o.cls=.type "tuple"∧o.data=.seq its n∧its.size≤sizeLine∧Vals xs its.toList
def absV:Value→Option V
 | .none=>some .non
 | .bool b=>some (.bl b)
 | .int i _=>some (.int i)
 | .str x _=>some (.str x)
 | .bytes b _=>some (.byt b)
 | .float b _=>some (.flt b)
 | .ref a=>some (.ref a)
 | .type n=>some (.ty n)
 | _=>none
theorem RelV.abs {x:V}{u:Value} (r:RelV x u):absV u=some x:=by
 cases x with
 | non=>cases r;rfl
 | bl _=>cases r;rfl
 | int _=>obtain ⟨t,rfl⟩:=r;rfl
 | str _=>obtain ⟨t,rfl⟩:=r;rfl
 | byt _=>obtain ⟨t,rfl⟩:=r;rfl
 | flt _=>obtain ⟨t,rfl⟩:=r;rfl
 | ref _=>cases r;rfl
 | ty _=>cases r;rfl
theorem RelV.inj {x y:V}{u:Value} (r:RelV x u) (q:RelV y u):x=y:=vz (r.abs.symm.trans q.abs)
theorem Vals.inj:∀ {xs ys:List V}{us:List Value},Vals xs us→Vals ys us→xs=ys
 | _,_,_,.nil,.nil=>rfl
 | _,_,_,.cons r t,.cons r' t'=>by rw [r.inj r',Vals.inj t t']
section
variable {X:Cx}{pins:List (Addr×Obj)}{σ:St}{H:Hp}{s:Shared}{a:Addr}{xs ys:List V}
theorem SqL.of {K:PySem.W.Frag} (h:H a=some (.lst xs)):SqL K H a xs:=.inl (.inl h)
theorem SqT.of {K:PySem.W.Frag} (h:H a=some (.tup xs)):SqT K H a xs:=.inl (.inl h)
theorem Inv.list (I:Inv X pins σ H s) (h:SqL X.K H a xs):∃ its:List Value,Vals xs its∧PlainL s.heap a its.toArray∧xs.length≤sizeLine:=by
 rcases h with h | ⟨o,its,n,hk,hc,hd,hs,hz,r⟩
 ·obtain ⟨z,its,n,r,e⟩:=h.ok I.hok
  exact ⟨its,r,⟨_,n,e,rfl,rfl,rfl⟩,z⟩
 ·refine ⟨its.toList,r,⟨o,n,I.kIn a o hk,hc,hd,by simpa using hs⟩,?_⟩
  have e:=r.length
  simp only [wg] at e
  omega
theorem Inv.tuple (I:Inv X pins σ H s) (h:SqT X.K H a xs):∃ its:List Value,Vals xs its∧IsTup s.heap a its.toArray∧xs.length≤sizeLine:=by
 rcases h with h | ⟨o,its,n,hk,hc,hs,hz,r⟩
 ·obtain ⟨z,its,r,p⟩:=h.ok I.hok
  exact ⟨its,r,p,z⟩
 ·refine ⟨its.toList,r,⟨o,I.kIn a o hk,hc,n,by simpa using hs⟩,?_⟩
  have e:=r.length
  simp only [wg] at e
  omega
theorem Inv.list_inj (I:Inv X pins σ H s) (h:SqL X.K H a xs) (h':SqL X.K H a ys):xs=ys:=by
 obtain ⟨its,r,⟨o,n,e,_,_,d⟩,_⟩:=I.list h
 obtain ⟨its',r',⟨o',n',e',_,_,d'⟩,_⟩:=I.list h'
 rw [e] at e';cases e'
 rw [d] at d'
 injection d' with d1 _
 have:its=its':=by simpa using congrArg Array.toList d1
 subst this
 exact r.inj r'
end
abbrev Cx.wish (X:Cx) (E:Value→Shared→Prop):Cx:={ X with xe:=E }
abbrev Cx.nox (X:Cx):Cx:=X.wish fun _ _=>False
theorem Cx.Ok.wish {X:Cx} (ok:X.Ok) (E:Value→Shared→Prop):(X.wish E).Ok :=
 ⟨ok.mod,ok.kind,ok.glob,ok.blt,ok.above,ok.inj,ok.has,ok.cab,ok.hd,ok.frames,ok.stk,ok.exf,ok.bs,ok.bsz,ok.noex,ok.exfs,ok.funs,ok.frf⟩
theorem Cx.Ok.unwish {X:Cx}{E:Value→Shared→Prop} (ok:(X.wish E).Ok):X.Ok :=
 ⟨ok.mod,ok.kind,ok.glob,ok.blt,ok.above,ok.inj,ok.has,ok.cab,ok.hd,ok.frames,ok.stk,ok.exf,ok.bs,ok.bsz,ok.noex,ok.exfs,ok.funs,ok.frf⟩
section
variable {X:Cx}{pins:List (Addr×Obj)}{σ:St}{H:Hp}{s:Shared}{E:Value→Shared→Prop}
theorem Inv.wish (I:Inv X pins σ H s) (E:Value→Shared→Prop):Inv (X.wish E) pins σ H s:=⟨I.ok.wish E,I.os,I.bare,I.base,I.loc,I.cell,I.free,I.freeC,I.pin,I.hok,I.len⟩
theorem Inv.unwish (I:Inv (X.wish E) pins σ H s):Inv X pins σ H s:=⟨I.ok.unwish,I.os,I.bare,I.base,I.loc,I.cell,I.free,I.freeC,I.pin,I.hok,I.len⟩
theorem SP.unwish {D:Ends}{f:Flow}{s':Shared} (h:SP (X.wish E) pins D f s'):SP X pins D f s':=by
 cases f with
 | next=>obtain ⟨σ',H',I,q⟩:=h;exact ⟨σ',H',I.unwish,q⟩
 | brk=>obtain ⟨σ',H',I,q⟩:=h;exact ⟨σ',H',I.unwish,q⟩
 | cont=>obtain ⟨σ',H',I,q⟩:=h;exact ⟨σ',H',I.unwish,q⟩
 | ret u=>obtain ⟨v,σ',H',I,r,q⟩:=h;exact ⟨v,σ',H',I.unwish,r,q⟩
theorem PSs.nox {st:List Stmt}{t:TS} (h:PSs X.nox st t):PSs X st t:=fun pins s σ H D I hw =>
 wpAny_mono (h pins s σ H D (I.wish _) hw) (fun _ _ q=>q.unwish) fun _ _ z=>False.elim z
end
section
variable {X:Cx}{st:Stmt}{rest:List Stmt}{t u:TS}{e:Expr}{te:TE}{pos:Pos}
def tNext:TS:=fun D σ H=>D.nx σ H
def tSeq (t u:TS):TS:=fun D σ H=>t { D with nx:=u D } σ H
theorem aJ:PSs X [] tNext:=fun _ _ σ H _ I h=>wpAny_execs_nil ⟨σ,H,I,h⟩
theorem ah (h1:PS X st t) (h2:PSs X rest u):PSs X (st::rest) (tSeq t u):=by
 intro pins s σ H D I h
 refine wpAny_execs_cons (thn (h1 pins s σ H { D with nx:=u D } I h) fun f s1 q=>?_)
 cases f with
 | next =>
  obtain ⟨σ',H',I',q⟩:=q
  exact h2 pins s1 σ' H' D I' q
 | ret v=>exact q
 | brk=>exact q
 | cont=>exact q
theorem ad (h1:PS X st t):PSs X [st] t:=by
 intro pins s σ H D I h
 refine wpAny_execs_cons (thn (h1 pins s σ H D I h) fun f s1 q=>?_)
 cases f with
 | next=>exact wpAny_execs_nil q
 | ret v=>exact q
 | brk=>exact q
 | cont=>exact q
theorem Inv.quiet {pins:List (Addr×Obj)}{σ:St}{H:Hp}{s:Shared} (I:Inv X pins σ H s):interactive X.env=false:=by simp [interactive,I.ok.kind]
def tDrop (te:TE):TS:=fun D σ H=>te σ H fun _ H1=>D.nx σ H1
theorem aW (he:PE X e te) (hs:swapsWith e none pos.line X.env=pure false:=by rfl):PS X (.Expr e pos) (tDrop te):=by
 intro pins s σ H D I h
 exact wpAny_Expr_any (thn (he pins s σ H _ I h) fun v s1 ⟨x,H1,I1,r1,q1⟩=>⟨σ,H1,I1,q1⟩) I.quiet hs
def tRet (te:TE):TS:=fun D σ H=>te σ H D.rt
theorem ay (he:PE X e te):PS X (.Return (some e) pos) (tRet te):=by
 intro pins s σ H D I h
 exact wpAny_Return_some (thn (he pins s σ H _ I h) fun v s1 ⟨x,H1,I1,r1,q1⟩=>⟨x,σ,H1,I1,r1,q1⟩)
def tIfS (c:TT) (t u:TS):TS:=fun D σ H=>c σ H fun b H1=>if b=true then t D σ H1 else u D σ H1
theorem bg {c:Expr}{a b:List Stmt}{tc:TT} (hc:PT X c tc) (ha:PSs X a t) (hb:PSs X b u):PS X (.If c a b pos) (tIfS tc t u):=by
 intro pins s σ H D I h
 refine wpAny_If (thn (hc pins s σ H _ I h) fun d s1 ⟨H1,I1,q1⟩=>?_)
 cases d with
 | true=>exact ha pins s1 σ H1 D I1 q1
 | false=>exact hb pins s1 σ H1 D I1 q1
def tNever:TS:=fun _ _ _=>False
theorem l8:PS X st tNever:=fun _ _ _ _ _ _ h=>h.elim
end
abbrev TG:=V→St→Hp→(St→Hp→Prop)→Prop
abbrev TGs:=List V→St→Hp→(St→Hp→Prop)→Prop
def PG (X:Cx) (target:Expr) (t:TG):Prop :=
 ∀ (pins:List (Addr×Obj)) (s:Shared) (σ:St) (H:Hp) (v:V) (u:Value) (Q:St→Hp→Prop),Inv X pins σ H s→RelV v u→t v σ H Q →
  wpAny (model X.prog X.w) X.A (assign target X.env u) (fun _ s'=>∃ σ' H',Inv X pins σ' H' s'∧Q σ' H') X.xe s
def PGs (X:Cx) (ts:List Expr) (t:TGs):Prop :=
 ∀ (pins:List (Addr×Obj)) (s:Shared) (σ:St) (H:Hp) (vs:List V) (us:List Value) (Q:St→Hp→Prop),Inv X pins σ H s→Vals vs us→t vs σ H Q →
  wpAny (model X.prog X.w) X.A (assignInOrder ((assignEach ts X.env).map (·.2)) us) (fun _ s'=>∃ σ' H',Inv X pins σ' H' s'∧Q σ' H') X.xe s
abbrev TSet:=V→V→V→Hp→(Hp→Prop)→Prop
def PSet (X:Cx) (t:TSet):Prop :=
 ∀ (pins:List (Addr×Obj)) (s:Shared) (σ:St) (H:Hp) (o i v:V) (ov iv u:Value) (Q:Hp→Prop),Inv X pins σ H s→RelV o ov→RelV i iv→RelV v u→t o i v H Q →
  wpAny (model X.prog X.w) X.A (setItem ov iv u) (fun _ s'=>∃ H',Inv X pins σ H' s'∧Q H') X.xe s
abbrev TIp:=V→V→Hp→VK→Prop
def PIp (X:Cx) (op:Operator) (t:TIp):Prop :=
 ∀ (pins:List (Addr×Obj)) (s:Shared) (σ:St) (H:Hp) (x y:V) (v u:Value) (Q:VK),Inv X pins σ H s→RelV x v→RelV y u→t x y H Q →
  wpAny (model X.prog X.w) X.A (inplaceOp op v u) (EP X pins σ Q) X.xe s
section
variable {X:Cx}{pos:Pos}
def ux (i:Nat):TG:=fun v σ H Q=>Q (σ.set i (some v)) H
theorem ar {i:Nat}{x:Str} (hN:X.N.Nodup) (hi:X.N[i]?=some x) (hx:Loc X.env.scope x) (hf:X.fn x=true∨X.env.scope.names.lookup x=some .local:=by first | exact .inl rfl | exact .inr rfl | assumption):PG X (.Name x pos) (ux i):=by
 intro pins s σ H v u Q I r h
 exact wpAny_assign_Name (gs I hN hi hx r (fun s' I'=>⟨_,H,I',h⟩) hf)
def gNil:TGs:=fun vs σ H Q=>vs=[]∧Q σ H
def gCons (t:TG) (u:TGs):TGs:=fun vs σ H Q=>∃ v r,vs=v::r∧t v σ H fun σ' H'=>u r σ' H' Q
theorem bM:PGs X [] gNil:=by
 intro pins s σ H vs us Q I r h
 obtain ⟨e,h⟩:=h
 subst e
 cases r
 exact assignInOrder_nil ⟨σ,H,I,h⟩
theorem aE {e:Expr}{es:List Expr}{t:TG}{u:TGs} (h1:PG X e t) (h2:PGs X es u)
  (hs:(assignEach (e::es) X.env).map (·.2)=assign e X.env::(assignEach es X.env).map (·.2):=by rfl):PGs X (e::es) (gCons t u):=by
 intro pins s σ H vs O Q I r h
 obtain ⟨v,R,G,h⟩:=h
 subst G
 cases r with
 | cons r rr =>
  rw [hs]
  refine assignInOrder_cons (thn (h1 pins s σ H _ _ _ I r h) fun _ F ⟨σ1,H1,q,J⟩=>?_)
  exact h2 pins F σ1 H1 _ _ Q q rr J
def gTup (K:PySem.W.Frag) (n:Nat) (t:TGs):TG:=fun v σ H Q=>∃ a xs,v=.ref a∧SqT K H a xs∧xs.length=n∧t xs σ H Q
theorem gh {es:List Expr}{k:Nat}{t:TGs}{n:Nat} (hc:X.calm=true) (h:PGs X es t)
  (hn:(assignEach es X.env).length=n:=by rfl) (hst:(assignEach es X.env).findIdx? (·.1)=none:=by rfl):PG X (.Tuple es k pos) (gTup X.K n t):=by
 intro pins s σ H v u Q I r q
 obtain ⟨a,xs,R,U,hl,q⟩:=q
 subst R
 cases r
 obtain ⟨W,F,J,hz⟩:=I.tuple U
 refine assign_Tuple_tuple (I.ok.hd hc) J (by simp [hn,← hl,F.length]) hst fun h' O=>?_
 have G:Inv X pins σ H { s with heap:=h' }:=I.kept (t':=s.toks) fun b o e=>O b o (vW (Heap.lt_size e)) e
 exact h pins _ σ H xs _ Q G (by simpa using F) q
def gSub (to ti:TE) (t:TSet):TG:=fun v σ H Q=>to σ H fun o H1=>ti σ H1 fun i H2=>t o i v H2 fun H3=>Q σ H3
theorem nu {o i:Expr}{to ti:TE}{t:TSet} (ho:PE X o to) (hi:PE X i ti) (hs:PSet X t)
  (ha:∀ v,assign (.Subscript o i pos) X.env v=(do
   let ov ← holding [v] (eval o X.env)
   let iv ← holding [v,ov] (eval i X.env)
   standAt pos
   holding [v,ov,iv] (setItem ov iv v)
   release [v,ov,iv] []):=by intro _;rfl):PG X (.Subscript o i pos) (gSub to ti t):=by
 intro pins s σ H v u Q I r h
 rw [ha]
 refine wpAny_bind (wpAny_holding (thn (ho pins s σ H _ I h) fun ov G ⟨x,H1,q,Z,O⟩=>?_))
 refine wpAny_bind (wpAny_holding (thn (hi pins G σ H1 _ q O) fun iv s2 ⟨y,H2,W,J,Y⟩=>?_))
 refine wpAny_bind (wpAny_standAt (wpAny_bind (wpAny_holding (thn (hs pins s2 σ H2 x y v ov iv u _ W Z J r Y) fun _ s3 ⟨R,F,U⟩=>?_))))
 exact wpAny_release ⟨σ,R,F,U⟩
def tAsg (te:TE) (g:TG):TS:=fun D σ H=>te σ H fun x H1=>g x σ H1 D.nx
theorem kO {tg e:Expr}{te:TE}{g:TG} (he:PE X e te) (hg:PG X tg g) (hs:swapsWithSole [tg] e pos.line X.env=pure false:=by rfl) (hw:swappedStores [tg] e X.env=pure none:=by rfl)
  (h1:(assignEach [tg] X.env).map (·.2)=[assign tg X.env]:=by rfl):PS X (.Assign [tg] e pos) (tAsg te g):=by
 intro pins s σ H D I h
 refine wpAny_Assign_stores (thn (he pins s σ H _ I h) fun v G ⟨x,H1,F,O,J⟩=>?_) hs hw
 rw [h1]
 exact thn (hg pins G σ H1 x v _ F O J) fun _ R q=>q
theorem aB {i:Nat}{x:Str}{e:Expr}{te:TE}{pos':Pos} (hN:X.N.Nodup) (hi:X.N[i]?=some x) (hx:Loc X.env.scope x) (he:PE X e te) (hs:swapsWith e (some (.Name x pos')) pos.line X.env=pure false:=by rfl) (hf:X.fn x=true∨X.env.scope.names.lookup x=some .local:=by first | exact .inl rfl | exact .inr rfl | assumption) :
  PS X (.Assign [.Name x pos'] e pos) (tAsg te (ux i)):=by
 intro pins s σ H D I h
 refine wpAny_Assign_Name (thn (he pins s σ H _ I h) fun v O ⟨y,H1,q,J,F⟩=>?_) hs
 exact gs q hN hi hx J (fun R G=>⟨_,H1,G,F⟩) hf
def tPar (i j:Nat) (ta:TA):TS:=fun D σ H=>ta σ H fun vs H1=>∃ v w,vs=[v,w]∧D.nx ((σ.set i (some v)).set j (some w)) H1
theorem ps_par {i j:Nat}{x y:Str}{a b:Expr}{ta:TA}{px py pt:Pos}{kt k2 pt2} (hc:X.calm=true) (hN:X.N.Nodup) (hi:X.N[i]?=some x) (hj:X.N[j]?=some y) (hij:i≠j)
  (hx:X.env.scope.names.lookup x=some .local) (hy:X.env.scope.names.lookup y=some .local) (ha:PA X [a,b] ta)
  (hw:swappedStores [.Tuple [.Name x px,.Name y py] kt pt] (.Tuple [a,b] k2 pt2) X.env=pure (some [x,y]))
  (hs:swapsWithSole [.Tuple [.Name x px,.Name y py] kt pt] (.Tuple [a,b] k2 pt2) pos.line X.env=pure false:=by rfl) :
  PS X (.Assign [.Tuple [.Name x px,.Name y py] kt pt] (.Tuple [a,b] k2 pt2) pos) (tPar i j ta):=by
 intro pins s σ H D I h
 rw [exec_Assign_arm]
 refine wpAny_bind (wpAny_standAt ?_)
 rw [hs]
 refine wpAny_bind (wpAny_pure ?_)
 rw [if_neg (by decide)]
 refine wpAny_bind (Tuple_ (thn (ha _ pins s σ H _ I h) fun us G ⟨vs,H1,Z,r1,O⟩=>?_))
 obtain ⟨v,w,e1,O⟩:=O
 subst e1
 obtain ⟨F,J,rfl,rv,R⟩:∃ F J,us=[F,J]∧RelV v F∧RelV w J:=by
  cases r1 with
  | cons p q =>
   cases q with
   | cons p' q' =>
    cases q'
    exact ⟨_,_,rfl,p,p'⟩
 refine wpAny_newObj_type ?_ (by show 2≤sizeLine;decide)
 have I2:Inv X pins σ H1 { G with heap:=G.heap.push { cls:=.type "tuple",data:=.seq [F,J].toArray } }:=Z.kept (t':=G.toks) fun b o e=>Heap.get?_push_of_some _ e
 rw [hw]
 refine wpAny_bind (wpAny_pure ?_)
 show wpAny (model X.prog X.w) X.A (do rule "assign.swapped-stores";let items ← unpackItems (.ref G.heap.objs.size) 2 none;assignInOrder [fun v=>bindName X.env y v,fun v=>bindName X.env x v] items.reverse;pure Flow.next) _ _ _
 refine wpAny_bind (wpAny_rule (wpAny_bind (unpackItems_tuple (items:=#[F,J]) (I.ok.hd hc) (IsTup.new G.heap _) fun h' U=>?_)))
 have I3:=I2.kept (h':=h') (t':=G.toks) fun b o e=>U b o (vW (Heap.lt_size e)) e
 show wpAny _ _ (assignInOrder [fun v=>bindName X.env y v,fun v=>bindName X.env x v] [J,F] >>= fun _=>pure Flow.next) _ _ _
 refine wpAny_bind (assignInOrder_cons (wpAny_bindName (gs I3 hN hj (.inl hy) R (fun s2 Y=>?_) (.inr hy))))
 refine assignInOrder_cons (wpAny_bindName (gs Y hN hi (.inl hx) rv (fun s3 W=>assignInOrder_nil (wpAny_pure ?_)) (.inr hx)))
 rw [List.set_comm _ _ (Ne.symm hij)] at W
 exact ⟨_,H1,W,O⟩
def tAug (i:Nat) (te:TE) (ti:TIp):TS:=fun D σ H=>∃ x,σ[i]?=some (some x)∧te σ H fun y H1=>ti x y H1 fun z H2=>D.nx (σ.set i (some z)) H2
theorem ps_aug {i:Nat}{x:Str}{e:Expr}{te:TE}{op:Operator}{ti:TIp}{pos':Pos} (hN:X.N.Nodup) (hi:X.N[i]?=some x) (hx:Loc X.env.scope x) (he:PE X e te) (ho:PIp X op ti) (hf:X.fn x=true∨X.env.scope.names.lookup x=some .local:=by first | exact .inl rfl | exact .inr rfl | assumption) :
  PS X (.AugAssign (.Name x pos') op e pos) (tAug i te ti):=by
 intro pins s σ H D I h
 obtain ⟨v,e1,h⟩:=h
 obtain ⟨m,hn,hl⟩:=I.loc
 have G:Vis X.env.scope x:=by rcases hx with k | k;exact .inl k;exact .inr (.inl k)
 obtain ⟨u,r,l⟩:=hl i x v hi e1 G
 refine wpAny_AugAssign_Name ?_
 have F:wpAny (model X.prog X.w) X.A (eval e X.env) (fun w U=>wpAny (model X.prog X.w) X.A (inplaceOp op u w) (fun r s₃=>wpAny (model X.prog X.w) X.A (storeName X.env x r) (fun _=>SP X pins D .next) X.xe s₃) X.xe U) X.xe s:=by
  refine thn (he pins s σ H _ I h) fun w W ⟨y,H1,J,Y,q1⟩=>?_
  refine thn (ho pins W σ H1 v y u w _ J r Y q1) fun z s2 ⟨zv,H2,I2,Z,q2⟩=>?_
  exact gs I2 hN hi hx Z (fun s3 R=>⟨_,H2,R,q2⟩) hf
 rcases l with ⟨hk,O⟩ | ⟨hk,c,hc,q⟩
 ·exact wpAny_loadName_local I.ok.kind hk hn O F
 ·rcases hk with hk | hk
  ·exact wpAny_loadName_cell I.ok.kind hk hc q F
  ·rcases hx with k | k
   ·have:X.env.scope.names.lookup x=some .free:=hk
    rw [k] at this;cases this
   ·have:X.env.scope.names.lookup x=some .free:=hk
    rw [k] at this;cases this
def ipI (f:Int→Int→Int):TIp:=fun x y H Q=>∃ i j,x=.int i∧y=.int j∧Q (.int (f i j)) H
theorem ip_add:PIp X .Add (ipI fun i j=>i+j):=by
 intro pins s σ H x y v u Q I r1 r2 h
 obtain ⟨i,j,e1,e2,q⟩:=h
 subst e1;subst e2
 obtain ⟨t,rfl⟩:=r1
 obtain ⟨t',rfl⟩:=r2
 exact iadd_int ⟨.int _,H,I.tok _,⟨_,rfl⟩,q⟩
end
section
variable {X:Cx}{pos:Pos}
def tWhile (c:TT) (tb:TS):TS:=fun D σ H=>∃ W:Nat→St→Hp→Prop,(∃ m,W m σ H)∧∀ m σ H,W m σ H →
 c σ H fun b H1=>if b=true then ∃ N:St→Hp→Prop,(∀ σ' H',N σ' H'→∃ m',m'<m∧W m' σ' H')∧tb { D with nx:=N,ct:=N,bk:=D.nx } σ H1 else D.nx σ H1
theorem ps_while {c:Expr}{body:List Stmt}{tc:TT}{tb:TS} (hp:PassesOwn (model X.prog X.w) X.A X.env X.xe) (hc:PT X c tc) (hb:PSs X body tb):PS X (.While c body [] pos) (tWhile tc tb):=by
 intro pins s σ H D I h
 obtain ⟨W,⟨m0,w0⟩,O⟩:=h
 refine wpAny_While (codeAny_whileLoop (fun n s'=>∃ σ' H',Inv X pins σ' H' s'∧W n σ' H') ?_ m0 ⟨σ,H,I,w0⟩)
 rintro n s1 ⟨σ1,H1,I1,w1⟩
 refine wpAny_passesOwn hp (thn (hc pins s1 σ1 H1 _ I1 (O n σ1 H1 w1)) fun b s2 ⟨H2,I2,G⟩=>?_)
 cases b with
 | true =>
  obtain ⟨N,hN,G⟩:=G
  rw [if_pos rfl]
  refine wpAny_passesOwn hp (thn (hb pins s2 σ1 H2 _ I2 G) fun f s3 F=>?_)
  cases f with
  | next =>
   obtain ⟨σ3,q,J,Y⟩:=F
   obtain ⟨R,Z,U⟩:=hN σ3 q Y
   exact ⟨R,Z,σ3,q,J,U⟩
  | cont =>
   obtain ⟨σ3,q,J,Y⟩:=F
   obtain ⟨R,Z,U⟩:=hN σ3 q Y
   exact ⟨R,Z,σ3,q,J,U⟩
  | brk=>exact F
  | ret v=>exact F
 | false =>
  rw [if_neg vt]
  exact wpAny_execs_nil ⟨σ1,H2,I2,G⟩
end
structure It where
 go:Nat→Hp→Prop
 yld:Nat→Hp→V→Hp→Prop
 stop:Nat→Hp→Prop
def oB (X:Cx) (pins:List (Addr×Obj)) (H:Hp) (b:Addr):Prop :=
 H b=none∧b≠X.env.locals∧b∉X.fs∧(b∈X.ex∨X.s₀.heap.objs.size≤b)∧(∀ x c,X.env.cells.lookup x=some c→c≠b)∧∀ p∈X.pn++pins,p.1≠b
theorem Inv.fpOk {X:Cx}{pins:List (Addr×Obj)}{σ:St}{H H':Hp}{s:Shared}{b:Addr} (I:Inv X pins σ H s) (hb:s.heap.objs.size≤b) (hn:H' b=none):oB X pins H' b:=by
 refine ⟨hn,Nat.ne_of_gt (vF I.lt hb),I.nofs hb,.inr (vG I.sz hb),fun x c e z=>?_,fun p hp z=>?_⟩
 ·obtain ⟨v,q⟩:=I.cell x c e
  exact absurd (vF q.lt (by rw [z];exact hb)) (Nat.lt_irrefl _)
 ·exact absurd (vF (Heap.lt_size (I.pin p hp).1) (by rw [z];exact hb)) (Nat.lt_irrefl _)
structure Turn (P:Program) (w:World) (K:PySem.W.Frag) (tg:Expr) (J:It) (fp:List Addr) (it:Addr) (tn:Nat→Heap→Prop):Prop where
 mem:it∈fp
 obj:∀ i h,tn i h→∀ b∈fp,∃ o,h.get? b=some o∧∀ v,o.data≠.cell v
 keep:∀ i h h',tn i h→(∀ b∈fp,∀ o,h.get? b=some o→h'.get? b=some o)→tn i h'
 item:∀ (X:Cx),X.prog=P→X.w=w→X.K=K→X.calm=true→∀ (i:Nat) (pins:List (Addr×Obj)) (s:Shared) (σ:St) (H:Hp) (E:Value→Shared→Prop),Inv X pins σ H s→(∀ b∈fp,oB X pins H b)→tn i s.heap→J.go i H →
  wpAny (model P w) X.A (pyNext (.ref it)) (fun r s1=>∃ u,r=some u ∧
   wpAny (model P w) X.A (letOwnedTupleGo tg (.ref it) u) (fun _ s2=>∃ x H',Inv X pins σ H' s2∧RelV x u∧J.yld i H x H'∧tn (i+1) s2.heap∧∀ b∈fp,H' b=none) E s1) E s
 done:∀ (X:Cx),X.prog=P→X.w=w→X.K=K→X.calm=true→∀ (i:Nat) (pins:List (Addr×Obj)) (s:Shared) (σ:St) (H:Hp) (E:Value→Shared→Prop),Inv X pins σ H s→(∀ b∈fp,oB X pins H b)→tn i s.heap→J.stop i H →
  wpAny (model P w) X.A (pyNext (.ref it)) (fun r s1=>r=none∧Inv X pins σ H s1) E s
 self:∀ (A:Around) (i:Nat) (s:Shared) (Q:Value→Shared→Prop) (E:Value→Shared→Prop),tn i s.heap→Q (.ref it) s→wpAny (model P w) A (pyIter (.ref it)) Q E s
abbrev TI:=St→Hp→(It→Hp→Prop)→Prop
def PIE (X:Cx) (pins:List (Addr×Obj)) (σ:St) (tg:Expr) (R:It→Hp→Prop) (itv:Value) (s2:Shared):Prop :=
 ∃ (it:Addr) (fp:List Addr) (tn:Nat→Heap→Prop) (J:It) (H':Hp),itv=.ref it∧Inv X pins σ H' s2∧Turn X.prog X.w X.K tg J fp it tn∧tn 0 s2.heap∧(∀ b∈fp,oB X pins H' b)∧R J H'
def PI (X:Cx) (tg iter:Expr) (wi:TI):Prop :=
 ∀ (pins:List (Addr×Obj)) (s:Shared) (σ:St) (H:Hp) (R:It→Hp→Prop),Inv X pins σ H s→wi σ H R →
  wpAny (model X.prog X.w) X.A (eval iter X.env) (fun v s1=>wpAny (model X.prog X.w) X.A (pyIter v) (PIE X pins σ tg R) X.xe s1) X.xe s
theorem go_of {M:Model}{A:Around}{E:Value→Shared→Prop}{s:Shared}{tg:Expr}{it:Addr}{u:Value}{o:Obj}{n:String}{vs:Array Value}{Q:Unit→Shared→Prop} (ho:s.heap.get? it=some o) (hc:o.cls=.type n) (hd:o.data=.fields vs)
    (hn:["enumerate","zip","dict_itemiterator","dict_reverseitemiterator","odict_iterator","itertools.zip_longest","itertools.pairwise"].contains n=false) (hQ:Q () s):wpAny M A (letOwnedTupleGo tg (.ref it) u) Q E s:=by
  unfold letOwnedTupleGo
  cases tg<;>first
    | exact wpAny_pure hQ
    | (cases u<;>first
        | exact wpAny_pure hQ
        | (refine wpAny_bind (wpAny_load ho ?_)
           rw [hc,hd]
           show wpAny M A (if (["enumerate","zip","dict_itemiterator","dict_reverseitemiterator","odict_iterator","itertools.zip_longest","itertools.pairwise"].contains n && vs[0]? == some (rawInt _))=true then _ else _) Q E s
           rw [if_neg (by intro h;rw [hn,Bool.false_and] at h;cases h)]
           exact wpAny_pure hQ))
def Itl (K:PySem.W.Frag) (a:Addr):It :=
 ⟨fun i H=>∃ xs x,SqL K H a xs∧xs[i]?=some x,fun i H x H'=>H'=H∧∀ xs,SqL K H a xs→xs[i]?=some x,fun i H=>∃ xs,SqL K H a xs∧xs.length≤i⟩
def Itr (lo:Int) (n:Nat):It:=⟨fun i _=>i<n,fun i H x H'=>H'=H∧x=.int (lo+i),fun i _=>n≤i⟩
theorem sK {P:Program}{w:World}{K:PySem.W.Frag}{tg:Expr} (a it:Addr):Turn P w K tg (Itl K a) [it] it (fun i h=>h.IsListIter it a i) where
 mem:=by simp
 obj:=fun i h st b hb=>by
  have e:b=it:=by simpa using hb
  subst e
  obtain ⟨o,e,c,d⟩:=st
  exact ⟨o,e,fun v z=>by rw [d] at z;cases z⟩
 keep:=fun i h h' st k=>st.at fun o e=>k it (by simp) o e
 item:=by
  intro X G U hK hc i pins s σ H E I hf st Z
  subst G U hK
  obtain ⟨xs,x,q,R⟩:=Z
  obtain ⟨al,rv,p,hz⟩:=I.list q
  obtain ⟨u,hu,ru⟩:=rv.get R
  obtain ⟨J,f1,f2,Y,O,f5⟩:=hf it (by simp)
  refine wpAny_pyNext_list_item st p.isList (x:=u) (by simpa using hu) fun h' F sb=>?_
  have I1:Inv X pins σ H { s with heap:=h' }:=I.turned (t':=s.toks) (fun b o hb e=>(sb.2 b hb).trans e) J f1 Y O f5
  obtain ⟨o,e,c,d⟩:=id F
  exact ⟨u,rfl,go_of (s:={ s with heap:=h' }) e c d (by decide) ⟨x,H,I1,ru,⟨rfl,fun ys hy=>by rw [I.list_inj hy q];exact R⟩,F,fun b hb=>(hf b hb).1⟩⟩
 done:=by
  intro X G U hK hc i pins s σ H E I hf st Z
  subst G U hK
  obtain ⟨xs,q,R⟩:=Z
  obtain ⟨al,rv,p,hz⟩:=I.list q
  obtain ⟨J,f1,f2,Y,O,f5⟩:=hf it (by simp)
  have hl:=rv.length
  exact wpAny_pyNext_list_end (I.ok.hd hc) st p.isList (by simp;omega) fun h' eb=>⟨rfl,I.turned (t':=s.toks) (fun b o hb e=>eb b o hb e) J f1 Y O f5⟩
 self:=fun _ _ _ _ _ st h=>wpAny_pyIter_listiter st h
theorem qT {P:Program}{w:World}{K:PySem.W.Frag}{tg:Expr} (it:Addr) (lo:Int) (n:Nat):Turn P w K tg (Itr lo n) [it] it (fun i h=>IsRangeIter h it (lo+(i:Nat)*1) ((n:Int) - (i:Nat)) 1) where
 mem:=by simp
 obj:=fun i h st b hb=>by
  have e:b=it:=by simpa using hb
  subst e
  exact ⟨_,st,fun v z=>by
   have z':Data.fields _=Data.cell v:=z
   cases z'⟩
 keep:=fun i h h' st k=>k it (by simp) _ st
 item:=by
  intro X O R F hc i pins s σ H E I hf st U
  subst O R F
  obtain ⟨f0,Z,f2,J,G,Y⟩:=hf it (by simp)
  have W:=Walks.range (prog:=X.prog) (w:=X.w) (I.ok.hd hc) it lo 1 n
  refine W.item i s _ _ U st fun v h' tk hv q kk=>?_
  obtain ⟨t,rfl⟩:=hv
  have I1:Inv X pins σ H { s with heap:=h',toks:=tk }:=I.turned (fun b o hb e=>kk b o (by simpa using hb) e) f0 Z J G Y
  refine ⟨_,rfl,go_of (s:={ s with heap:=h',toks:=tk }) (n:="range_iterator") q rfl rfl (by decide) ⟨.int (lo+i),H,I1,⟨t,?_⟩,⟨rfl,rfl⟩,q,fun b hb=>(hf b hb).1⟩⟩
  rw [Int.mul_one]
 done:=by
  intro X O R F hc i pins s σ H E I hf st U
  subst O R F
  obtain ⟨f0,Z,f2,J,G,Y⟩:=hf it (by simp)
  exact wpAny_pyNext_range_end (I.ok.hd hc) st (by have:n≤i:=U;omega) fun h' eb=>⟨rfl,I.turned (t':=s.toks) (fun b o hb e=>eb b o hb e) f0 Z J G Y⟩
 self:=fun _ _ _ _ _ st h=>wpAny_pyIter_rangeiter st h
end L2
namespace L2
open PySem PySem.Spec PyProof.Rows
section
variable {X:Cx}{tg:Expr}
def iList (K:PySem.W.Frag) (tl:TE):TI:=fun σ H R=>tl σ H fun x H1=>∃ a,x=.ref a∧(∃ xs,SqL K H1 a xs)∧R (Itl K a) H1
theorem bn {l:Expr}{tl:TE} (hl:PE X l tl):PI X tg l (iList X.K tl):=by
 intro pins s σ H R I h
 refine thn (hl pins s σ H _ I h) fun v G ⟨x,H1,F,U,J⟩=>?_
 obtain ⟨a,e,⟨xs,O⟩,q⟩:=J
 subst e
 cases U
 obtain ⟨W,Y,p,hz⟩:=F.list O
 refine wpAny_pyIter_list p.isList ?_
 refine ⟨G.heap.objs.size,[G.heap.objs.size],_,_,H1,rfl,F.kept (t':=G.toks) fun b o e=>Heap.get?_push_of_some _ e,sK a _,⟨_,Heap.get?_push_size _ rfl,rfl,rfl⟩,fun b hb=>?_,q⟩
 have e:b=G.heap.objs.size:=by simpa using hb
 subst e
 exact F.fpOk (va _) (F.hok.fresh (va _))
theorem pW {pins:List (Addr×Obj)}{σ:St}{H:Hp}{s:Shared}{R:It→Hp→Prop}{E:Value→Shared→Prop}{lo hi:Int}{t u v:Tok}{tk:Nat} (I:Inv X pins σ H s) (h1 : -(2 ^ 62)≤lo) (h2:lo<2 ^ 62) (h3 : -(2 ^ 62)≤hi) (h4:hi<2 ^ 62)
  (q:R (Itr lo (hi - lo).toNat) H):wpAny (model X.prog X.w) X.A (pyIter (.ref s.heap.objs.size)) (PIE X pins σ tg R) E { s with heap:=s.heap.push { cls:=.type "range",data:=.fields #[.int lo t,.int hi u,.int 1 v] },toks:=tk }:=by
 refine wpAny_pyIter_range (IsRange.new ..) (small_one h1 h2 h3 h4) ?_
 have F:Inv X pins σ H { s with heap:=s.heap.push { cls:=.type "range",data:=.fields #[.int lo t,.int hi u,.int 1 v] },toks:=tk }:=I.kept fun b o e=>Heap.get?_push_of_some _ e
 refine ⟨(s.heap.push { cls:=.type "range",data:=.fields #[.int lo t,.int hi u,.int 1 v] }).objs.size,[(s.heap.push { cls:=.type "range",data:=.fields #[.int lo t,.int hi u,.int 1 v] }).objs.size],_,_,H,rfl,
  F.kept (t':=tk) fun b o e=>Heap.get?_push_of_some _ e,qT _ lo (hi - lo).toNat,?_,fun b hb=>?_,q⟩
 ·have G:lo+((0:Nat):Int)*1=lo:=by simp
  have J:(((hi - lo).toNat:Nat):Int) - ((0:Nat):Int)=Builtin.Range.rangeSize lo hi 1:=by rw [rangeSize_one];split<;>omega
  show IsRangeIter _ _ (lo+((0:Nat):Int)*1) ((((hi - lo).toNat:Nat):Int) - ((0:Nat):Int)) 1
  rw [G,J]
  exact Heap.get?_push_size _ rfl
 ·have e:b=(s.heap.push { cls:=.type "range",data:=.fields #[.int lo t,.int hi u,.int 1 v] }).objs.size:=by simpa using hb
  subst e
  exact F.fpOk (va _) (F.hok.fresh (va _))
def iRng1 (ta:TA):TI:=fun σ H R=>ta σ H fun vs H1=>∃ j:Int,vs=[.int j]∧-(2 ^ 62)≤j∧j<2 ^ 62∧R (Itr 0 j.toNat) H1
def iRng2 (ta:TA):TI:=fun σ H R=>ta σ H fun vs H1=>∃ i j:Int,vs=[.int i,.int j]∧(-(2 ^ 62)≤i∧i<2 ^ 62∧-(2 ^ 62)≤j∧j<2 ^ 62)∧R (Itr i (j - i).toNat) H1
theorem gg {a:Expr}{ta:TA}{p pos:Pos} (hg:Gl X "range") (hm:X.mg "range"=none) (ha:PA X [a] ta) (hs:starEach [a] X.env=[(false,eval a X.env)]:=by rfl):PI X tg (.Call (.Name "range" p) [a] [] pos) (iRng1 ta):=by
 intro pins s σ H R I h
 refine Call_ (eX I hg hm boot_range (vM (thn (ha pos pins s σ H _ I h) fun W U ⟨vs,H1,G,O,F⟩=>?_) hs rfl))
 obtain ⟨j,e,F,J,q⟩:=F
 subst e
 cases O with
 | cons r rr =>
  cases rr
  obtain ⟨t,rfl⟩:=r
  exact call_range_1 (pW G (by omega) (by omega) F J (by simpa using q))
theorem eU {a b:Expr}{ta:TA}{p pos:Pos} (hg:Gl X "range") (hm:X.mg "range"=none) (ha:PA X [a,b] ta) (hs:starEach [a,b] X.env=[(false,eval a X.env),(false,eval b X.env)]:=by rfl) (hs2:starEach [b] X.env=[(false,eval b X.env)]:=by rfl) :
  PI X tg (.Call (.Name "range" p) [a,b] [] pos) (iRng2 ta):=by
 intro pins s σ H R I h
 refine Call_ (eX I hg hm boot_range (vM (thn (ha pos pins s σ H _ I h) fun Z Y ⟨vs,H1,G,W,F⟩=>?_) (by rw [hs,hs2]) (by rw [hs2];rfl)))
 obtain ⟨i,j,e,⟨F,U,O,J⟩,q⟩:=F
 subst e
 cases W with
 | cons r rr =>
  cases rr with
  | cons r' rr =>
   cases rr
   obtain ⟨t,rfl⟩:=r
   obtain ⟨t',rfl⟩:=r'
   exact call_range_2 (pW G F U O J q)
def tFor (wi:TI) (g:TG) (tb:TS):TS:=fun D σ H=>wi σ H fun J H1=>∃ W:Nat→Nat→St→Hp→Prop,(∃ m,W 0 m σ H1)∧∀ i m σ H,W i m σ H →
 (J.stop i H∧D.nx σ H)∨(J.go i H∧∃ N:St→Hp→Prop,(∀ σ' H',N σ' H'→∃ m',m'<m∧W (i+1) m' σ' H')∧∀ x H',J.yld i H x H'→g x σ H' fun σ2 H2=>tb { D with nx:=N,ct:=N,bk:=D.nx } σ2 H2)
def nt (fp:List Addr) (h:Heap):List (Addr×Obj):=fp.filterMap fun b=>(h.get? b).map fun o=>(b,o)
theorem iU {fp:List Addr}{h:Heap}{b:Addr}{o:Obj} (hb:b∈fp) (e:h.get? b=some o):(b,o)∈nt fp h:=List.mem_filterMap.mpr ⟨b,hb,by rw [e];rfl⟩
theorem tW {fp:List Addr}{h:Heap}{p:Addr×Obj} (hp:p∈nt fp h):p.1∈fp∧h.get? p.1=some p.2:=by
 obtain ⟨b,hb,e⟩:=List.mem_filterMap.mp hp
 cases q:h.get? b with
 | none=>rw [q] at e;cases e
 | some o =>
  rw [q] at e
  have e':(b,o)=p:=vz e
  subst e'
  exact ⟨hb,q⟩
theorem Inv.pinned {pins:List (Addr×Obj)}{σ:St}{H:Hp}{s:Shared}{fp:List Addr} (I:Inv X pins σ H s) (hf:∀ b∈fp,oB X pins H b) (ho:∀ b∈fp,∃ o,s.heap.get? b=some o∧∀ v,o.data≠.cell v):Inv X (pins++nt fp s.heap) σ H s :=
 I.pins_of fun p hp=>(vr.mp hp).elim (fun z=>I.pin p (wd _ z)) fun z=>by
  obtain ⟨hb,e⟩:=tW z
  obtain ⟨J,G,F,_⟩:=hf p.1 hb
  obtain ⟨o,q,d⟩:=ho p.1 hb
  rw [e] at q;cases q
  exact ⟨e,J,G,F,d⟩
theorem Inv.unpinned {pins pl:List (Addr×Obj)}{σ:St}{H:Hp}{s:Shared} (I:Inv X (pins++pl) σ H s):Inv X pins σ H s:=I.pins_of fun p hp=>I.pin p (wd _ (List.mem_append_left _ hp))
theorem bX {iter:Expr}{body:List Stmt}{wi:TI}{g:TG}{tb:TS}{pos:Pos} (hp:PassesOwn (model X.prog X.w) X.A X.env X.xe) (hc:X.calm=true) (hi:PI X tg iter wi) (hg:PG X tg g) (hb:PSs X body tb)
  (hs:∀ x,foldedSetIterable iter X.env x=pure x:=by intro _;rfl):PS X (.For tg iter body [] pos) (tFor wi g tb):=by
 intro pins s σ H D I h
 refine wpAny_For (thn (hi pins s σ H _ I h) fun v s1 h1=>thn h1 fun ck s2 h2=>?_) hs
 obtain ⟨it,fp,tn,J,H2,e,I2,T,as,f2,W,⟨m0,w0⟩,ag⟩:=h2
 subst e
 have O:∀ {H':Hp},(∀ b∈fp,H' b=none)→∀ b∈fp,oB X pins H' b:=fun hn b hb=>⟨hn b hb,(f2 b hb).2⟩
 refine codeAny_forLoop_any (fun n s'=>∃ i σ' H',Inv X pins σ' H' s'∧tn i s'.heap∧(∀ b∈fp,H' b=none)∧W i n σ' H') ?_ m0 ⟨0,σ,H2,I2,as,fun b hb=>(f2 b hb).1,w0⟩
 rintro n s3 ⟨i,σ3,Y,I3,Z,ab,w3⟩
 rcases ag i n σ3 Y w3 with ⟨af,qn⟩ | ⟨go,N,hN,step⟩
 ·refine wpAny_passesOwn hp (thn (T.done X rfl rfl rfl hc i pins s3 σ3 Y X.xe I3 (O ab) Z af) fun r s4 ⟨hr,I4⟩=>?_)
  subst hr
  exact wpAny_execs_nil ⟨σ3,Y,I4,qn⟩
 ·refine wpAny_passesOwn hp (thn (T.item X rfl rfl rfl hc i pins s3 σ3 Y X.xe I3 (O ab) Z go) fun r s4 ⟨u,hr,h4⟩=>?_)
  subst hr
  refine wpAny_passesOwn hp (thn h4 fun _ s5 ⟨x,H5,I5,r5,y5,U,a2⟩=>?_)
  have al:=I5.pinned (O a2) (T.obj _ _ U)
  refine wpAny_passesOwn hp (thn (hg _ s5 σ3 H5 x u _ al r5 (step x H5 y5)) fun _ s6 ⟨σ6,H6,I6,q6⟩=>?_)
  refine wpAny_passesOwn hp (thn (hb _ s6 σ6 H6 _ I6 q6) fun f s7 G=>?_)
  have again:∀ {σ7:St}{F:Hp},Inv X (pins++nt fp s5.heap) σ7 F s7→N σ7 F→∃ m,m<n∧∃ i σ' H',Inv X pins σ' H' s7∧tn i s7.heap∧(∀ b∈fp,H' b=none)∧W i m σ' H':=fun {σ7 F} q R=>by
   obtain ⟨m',hm,w7⟩:=hN σ7 F R
   refine ⟨m',hm,i+1,σ7,F,q.unpinned,T.keep _ _ _ U fun b hb o e=>(q.pin (b,o) (wd _ (wd _ (iU hb e)))).1,fun b hb=>?_,w7⟩
   obtain ⟨o,e,d⟩:=T.obj _ _ U b hb
   exact (q.pin (b,o) (wd _ (wd _ (iU hb e)))).2.1
  cases f with
  | next=>obtain ⟨σ7,F,q,R⟩:=G;exact again q R
  | cont=>obtain ⟨σ7,F,q,R⟩:=G;exact again q R
  | brk=>obtain ⟨σ7,F,q,G⟩:=G;exact ⟨σ7,F,q.unpinned,G⟩
  | ret v=>obtain ⟨x7,σ7,F,q,r7,G⟩:=G;exact ⟨x7,σ7,F,q.unpinned,r7,G⟩
end
theorem cR {K:PySem.W.Frag}{a:Addr}{xs:List V}{g:TG}{tb:TS}{D:Ends}{σ:St}{H:Hp} (Pv:Nat→St→Hp→Prop) (h0:Pv 0 σ H) (hl:∀ i σ H,i≤xs.length→Pv i σ H→SqL K H a xs)
  (hs:∀ i x σ H,xs[i]?=some x→Pv i σ H→g x σ H fun σ2 H2=>tb { D with nx:=Pv (i+1),ct:=Pv (i+1),bk:=D.nx } σ2 H2) (hd:∀ σ H,Pv xs.length σ H→D.nx σ H) :
  ∃ W:Nat→Nat→St→Hp→Prop,(∃ m,W 0 m σ H)∧∀ i m σ H,W i m σ H →
   ((Itl K a).stop i H∧D.nx σ H)∨((Itl K a).go i H∧∃ N:St→Hp→Prop,(∀ σ' H',N σ' H'→∃ m',m'<m∧W (i+1) m' σ' H')∧∀ x H',(Itl K a).yld i H x H'→g x σ H' fun σ2 H2=>tb { D with nx:=N,ct:=N,bk:=D.nx } σ2 H2):=by
 refine ⟨fun i m σ H=>m=xs.length - i∧i≤xs.length∧Pv i σ H,⟨xs.length,by simp,vk _,h0⟩,?_⟩
 rintro i m σ H ⟨rfl,hi,p⟩
 have q:=hl i σ H hi p
 by_cases F:i<xs.length
 ·refine .inr ⟨⟨xs,xs[i],q,by simp [F]⟩,Pv (i+1),fun σ' H' G=>⟨xs.length - (i+1),by omega,rfl,F,G⟩,fun x H' y=>?_⟩
  obtain ⟨e,y⟩:=y
  subst e
  exact hs i x σ _ (y xs q) p
 ·have e:i=xs.length:=by omega
  subst e
  exact .inl ⟨⟨xs,q,va _⟩,hd σ H p⟩
theorem kh {lo:Int}{n:Nat}{g:TG}{tb:TS}{D:Ends}{σ:St}{H:Hp} (Pv:Nat→St→Hp→Prop) (h0:Pv 0 σ H)
  (hs:∀ i σ H,i<n→Pv i σ H→g (.int (lo+i)) σ H fun σ2 H2=>tb { D with nx:=Pv (i+1),ct:=Pv (i+1),bk:=D.nx } σ2 H2) (hd:∀ σ H,Pv n σ H→D.nx σ H) :
  ∃ W:Nat→Nat→St→Hp→Prop,(∃ m,W 0 m σ H)∧∀ i m σ H,W i m σ H →
   ((Itr lo n).stop i H∧D.nx σ H)∨((Itr lo n).go i H∧∃ N:St→Hp→Prop,(∀ σ' H',N σ' H'→∃ m',m'<m∧W (i+1) m' σ' H')∧∀ x H',(Itr lo n).yld i H x H'→g x σ H' fun σ2 H2=>tb { D with nx:=N,ct:=N,bk:=D.nx } σ2 H2):=by
 refine ⟨fun i m σ H=>m=n - i∧i≤n∧Pv i σ H,⟨n,by simp,vk _,h0⟩,?_⟩
 rintro i m σ H ⟨rfl,hi,p⟩
 by_cases q:i<n
 ·refine .inr ⟨q,Pv (i+1),fun σ' H' F=>⟨n - (i+1),by omega,rfl,q,F⟩,fun x H' y=>?_⟩
  obtain ⟨e,y⟩:=y
  subst e y
  exact hs i σ _ q p
 ·have e:i=n:=by omega
  subst e
  exact .inl ⟨va _,hd σ H p⟩
end L2
namespace L2
open PySem PySem.Spec PyProof.Rows
abbrev R2:=V→V→Hp→VK→Prop
def OpR (X:Cx) (f:Value→Value→Sem Value) (r:R2):Prop :=
 ∀ (pins:List (Addr×Obj)) (s:Shared) (σ:St) (H:Hp) (x y:V) (v u:Value) (Q:VK),Inv X pins σ H s→RelV x v→RelV y u→r x y H Q →
  wpAny (model X.prog X.w) X.A (f v u) (EP X pins σ Q) X.xe s
def UnR (X:Cx) (f:Value→Sem Value) (r:V→Hp→VK→Prop):Prop :=
 ∀ (pins:List (Addr×Obj)) (s:Shared) (σ:St) (H:Hp) (x:V) (v:Value) (Q:VK),Inv X pins σ H s→RelV x v→r x H Q →
  wpAny (model X.prog X.w) X.A (f v) (EP X pins σ Q) X.xe s
def CallR (X:Cx) (f:Value) (r:List V→Hp→VK→Prop):Prop :=
 ∀ (pins:List (Addr×Obj)) (s:Shared) (σ:St) (H:Hp) (xs:List V) (us:List Value) (Q:VK),Inv X pins σ H s→Vals xs us→r xs H Q →
  wpAny (model X.prog X.w) X.A (call f us) (EP X pins σ Q) X.xe s
def TruR (X:Cx) (r:V→Hp→(Bool→Hp→Prop)→Prop):Prop :=
 ∀ (pins:List (Addr×Obj)) (s:Shared) (σ:St) (H:Hp) (x:V) (v:Value) (Q:Bool→Hp→Prop),Inv X pins σ H s→RelV x v→r x H Q →
  wpAny (model X.prog X.w) X.A (truthy v) (TP X pins σ Q) X.xe s
def tOp (r:R2) (ta tb:TE):TE:=fun σ H Q=>ta σ H fun x H1=>tb σ H1 fun y H2=>r x y H2 Q
def rI (C:Int→Int→Prop) (g:Int→Int→V):R2:=fun x y H Q=>∃ i j,x=.int i∧y=.int j∧C i j∧Q (g i j) H
def rI0 (g:Int→Int→V):R2:=fun x y H Q=>∃ i j,x=.int i∧y=.int j∧Q (g i j) H
section
variable {X:Cx}{a b c:Expr}{ta tb tc:TE}{pos:Pos}
theorem binT (ha:PE X a ta) (hb:PE X b tb) {pins:List (Addr×Obj)}{s:Shared}{σ:St}{H:Hp}{R:V→V→Hp→Prop} (I:Inv X pins σ H s)
  (h:ta σ H fun x H1=>tb σ H1 fun y H2=>R x y H2) {Q:Value→Shared→Prop}{f:Value→Value→Sem Value}
  (hf:∀ v u s2 x y H2,Inv X pins σ H2 s2→RelV x v→RelV y u→R x y H2→wpAny (model X.prog X.w) X.A (f v u) Q X.xe s2) :
  wpAny (model X.prog X.w) X.A (eval a X.env) (fun v s₁=>wpAny (model X.prog X.w) X.A (eval b X.env) (fun u s₂=>wpAny (model X.prog X.w) X.A (f v u) Q X.xe s₂) X.xe s₁) X.xe s:=by
 refine thn (ha pins s σ H _ I h) fun v F ⟨x,H1,q,W,J⟩=>?_
 refine thn (hb pins F σ H1 _ q J) fun u s2 ⟨y,H2,O,G,U⟩=>?_
 exact hf v u s2 x y H2 O W G U
theorem av {op:Operator}{r:R2} (ho:OpR X (binaryOp op) r) (ha:PE X a ta) (hb:PE X b tb):PE X (.BinOp a op b pos) (tOp r ta tb):=by
 intro pins s σ H Q I h
 exact wpAny_BinOp (binT ha hb I h fun v u s2 x y H2 I2 rx ry q=>ho pins s2 σ H2 x y v u Q I2 rx ry q)
theorem opI {f:Value→Value→Sem Value}{C:Int→Int→Prop}{g:Int→Int→Int}
  (rule:∀ (i j:Int) (t u:Tok) (s:Shared) (Q:Value→Shared→Prop) (E:Value→Shared→Prop),C i j→Q (.int (g i j) s.toks) { s with toks:=s.toks+1 }→wpAny (model X.prog X.w) X.A (f (.int i t) (.int j u)) Q E s) :
  OpR X f (rI C fun i j=>.int (g i j)):=by
 intro pins s σ H x y v u Q I G F h
 obtain ⟨i,j,rfl,rfl,hc,q⟩:=h
 obtain ⟨t,rfl⟩:=G
 obtain ⟨J,rfl⟩:=F
 exact rule i j t J s _ _ hc ⟨.int (g i j),H,I.tok _,⟨_,rfl⟩,q⟩
theorem opI0 {f:Value→Value→Sem Value}{g:Int→Int→Int}
  (rule:∀ (i j:Int) (t u:Tok) (s:Shared) (Q:Value→Shared→Prop) (E:Value→Shared→Prop),Q (.int (g i j) s.toks) { s with toks:=s.toks+1 }→wpAny (model X.prog X.w) X.A (f (.int i t) (.int j u)) Q E s) :
  OpR X f (rI0 fun i j=>.int (g i j)):=by
 intro pins s σ H x y v u Q I G F h
 obtain ⟨i,j,rfl,rfl,q⟩:=h
 obtain ⟨t,rfl⟩:=G
 obtain ⟨J,rfl⟩:=F
 exact rule i j t J s _ _ ⟨.int (g i j),H,I.tok _,⟨_,rfl⟩,q⟩
theorem opB0 {f:Value→Value→Sem Value}{g:Int→Int→Bool}
  (rule:∀ (i j:Int) (t u:Tok) (s:Shared) (Q:Value→Shared→Prop) (E:Value→Shared→Prop),Q (.bool (g i j)) s→wpAny (model X.prog X.w) X.A (f (.int i t) (.int j u)) Q E s) :
  OpR X f (rI0 fun i j=>.bl (g i j)):=by
 intro pins s σ H x y v u Q I G F h
 obtain ⟨i,j,rfl,rfl,q⟩:=h
 obtain ⟨t,rfl⟩:=G
 obtain ⟨J,rfl⟩:=F
 exact rule i j t J s _ _ ⟨.bl (g i j),H,I,rfl,q⟩
def CDiv (i j:Int):Prop:=0<j∧j<1073741824
def CMul (i j:Int):Prop:=(-(2 ^ 64)<i∧i<2 ^ 64)∨(-(2 ^ 64)<j∧j<2 ^ 64)
theorem CMul.ok {i j:Int} (h:CMul i j):IntMulOk i j:=by
 rcases h with ⟨h1,h2⟩ | ⟨h1,h2⟩
 ·exact .of_left (intBits_le_64 h1 h2)
 ·exact .of_right (intBits_le_64 h1 h2)
theorem bi:OpR X (binaryOp .Add) (rI0 fun i j=>.int (i+j)):=opI0 fun _ _ _ _ _ _ _ q=>add_int q
theorem bD:OpR X (binaryOp .Sub) (rI0 fun i j=>.int (i - j)):=opI0 fun _ _ _ _ _ _ _ q=>sub_int q
theorem bY:OpR X (binaryOp .Mult) (rI CMul fun i j=>.int (i*j)):=opI fun _ _ _ _ _ _ _ hc q=>mul_int q hc.ok
theorem gT:OpR X (binaryOp .FloorDiv) (rI CDiv fun i j=>.int (i / j)):=opI fun i j _ _ _ _ _ hc q=>by
 have h1:(0:Int)<j:=hc.1
 have h2:j<1073741824:=hc.2
 exact floordiv_int (by omega) (by rw [Int.fdiv_eq_ediv_of_nonneg i (by omega)];exact q) (.inl (PyProof.noPylong_small (by omega)))
theorem bh:OpR X (binaryOp .Mod) (rI (fun _ j=>0<j) fun i j=>.int (i%j)):=opI fun i j _ _ _ _ _ hc q=>by
 have h1:(0:Int)<j:=hc
 exact mod_int' (by omega) (by rw [Int.fmod_eq_emod_of_nonneg i (by omega)];exact q)
end
def scal:V→V→Bool
 | .non,.non=>true | .non,.int _=>true | .int _,.non=>true | .non,.bl _=>true | .bl _,.non=>true | .non,.str _=>true | .str _,.non=>true
 | .int _,.int _=>true | .bl _,.bl _=>true | .str _,.str _=>true | .byt _,.byt _=>true
 | .int _,.str _=>true | .str _,.int _=>true | .bl _,.str _=>true | .str _,.bl _=>true
 | _,_=>false
def rEq:R2:=fun x y H Q=>scal x y=true∧Q (.bl (decide (x=y))) H
def rNe:R2:=fun x y H Q=>scal x y=true∧Q (.bl (!decide (x=y))) H
theorem uD {i j:Int}:decide (V.int i=V.int j)=(i == j):=by
 rw [wI]
 simp
theorem dec_bl {i j:Bool}:decide (V.bl i=V.bl j)=(i == j):=by
 rw [wI]
 simp
theorem uC {i j:Str}:decide (V.str i=V.str j)=(i == j):=by
 rw [wI]
 simp
theorem uE {i j:Array UInt8}:decide (V.byt i=V.byt j)=(i.toList == j.toList):=by
 rw [wI]
 cases i
 cases j
 simp
section
variable {X:Cx}{a b c:Expr}{ta tb tc:TE}{pos:Pos}
theorem bC {pins:List (Addr×Obj)}{σ:St}{H:Hp}{s:Shared}{Q:VK}{k k':Bool} (I:Inv X pins σ H s) (q:Q (.bl k) H) (e:k=k'):EP X pins σ Q (.bool k') s:=by
 subst e
 exact ⟨.bl k,H,I,rfl,q⟩
theorem bQ:OpR X (compareOp .Eq) rEq:=by
 intro pins s σ H x y v u Q I J F h
 obtain ⟨hs,q⟩:=h
 cases x with
 | non =>
  cases J
  cases y with
  | non=>cases F;exact PySem.EqNone.eq_none_none (bC I q (by simp))
  | bl j=>cases F;exact PySem.EqNone.eq_none_bool (bC I q (by simp))
  | int j=>obtain ⟨G,rfl⟩:=F;exact PySem.EqNone.eq_none_int (bC I q (by simp))
  | str j=>obtain ⟨G,rfl⟩:=F;exact PySem.EqNone.eq_none_str (bC I q (by simp))
  | _=>exact absurd (show false=true from hs) vt
 | bl i =>
  cases J
  cases y with
  | non=>cases F;exact PySem.EqNone.eq_bool_none (bC I q (by simp))
  | bl j=>cases F;exact eq_bool (bC I q dec_bl)
  | str j=>obtain ⟨G,rfl⟩:=F;exact PySem.EqMixed.eq_bool_str (bC I q (by simp))
  | _=>exact absurd (show false=true from hs) vt
 | int i =>
  obtain ⟨t,rfl⟩:=J
  cases y with
  | non=>cases F;exact PySem.EqNone.eq_int_none (bC I q (by simp))
  | int j=>obtain ⟨G,rfl⟩:=F;exact eq_int (bC I q uD)
  | str j=>obtain ⟨G,rfl⟩:=F;exact PySem.EqMixed.eq_int_str (bC I q (by simp))
  | _=>exact absurd (show false=true from hs) vt
 | str i =>
  obtain ⟨t,rfl⟩:=J
  cases y with
  | non=>cases F;exact PySem.EqNone.eq_str_none (bC I q (by simp))
  | bl j=>cases F;exact PySem.EqMixed.eq_str_bool (bC I q (by simp))
  | int j=>obtain ⟨G,rfl⟩:=F;exact PySem.EqMixed.eq_str_int (bC I q (by simp))
  | str j=>obtain ⟨G,rfl⟩:=F;exact eq_str (bC I q uC)
  | _=>exact absurd (show false=true from hs) vt
 | byt i =>
  obtain ⟨t,rfl⟩:=J
  cases y with
  | byt j=>obtain ⟨G,rfl⟩:=F;exact PySem.W.eq_bytes (bC I q uE)
  | _=>exact absurd (show false=true from hs) vt
 | _=>cases y<;>exact absurd (show false=true from hs) vt
theorem oU:OpR X (compareOp .NotEq) rNe:=by
 intro pins s σ H x y v u Q I J F h
 obtain ⟨hs,q⟩:=h
 cases x with
 | non =>
  cases J
  cases y with
  | non=>cases F;exact PySem.EqNone.ne_none_none (bC I q (by simp))
  | bl j=>cases F;exact PySem.EqNone.ne_none_bool (bC I q (by simp))
  | int j=>obtain ⟨G,rfl⟩:=F;exact PySem.EqNone.ne_none_int (bC I q (by simp))
  | str j=>obtain ⟨G,rfl⟩:=F;exact PySem.EqNone.ne_none_str (bC I q (by simp))
  | _=>exact absurd (show false=true from hs) vt
 | bl i =>
  cases J
  cases y with
  | non=>cases F;exact PySem.EqNone.ne_bool_none (bC I q (by simp))
  | bl j=>cases F;exact ne_bool (bC I q (congrArg not dec_bl))
  | str j=>obtain ⟨G,rfl⟩:=F;exact PySem.EqMixed.ne_bool_str (bC I q (by simp))
  | _=>exact absurd (show false=true from hs) vt
 | int i =>
  obtain ⟨t,rfl⟩:=J
  cases y with
  | non=>cases F;exact PySem.EqNone.ne_int_none (bC I q (by simp))
  | int j=>obtain ⟨G,rfl⟩:=F;exact ne_int (bC I q (congrArg not uD))
  | str j=>obtain ⟨G,rfl⟩:=F;exact PySem.EqMixed.ne_int_str (bC I q (by simp))
  | _=>exact absurd (show false=true from hs) vt
 | str i =>
  obtain ⟨t,rfl⟩:=J
  cases y with
  | non=>cases F;exact PySem.EqNone.ne_str_none (bC I q (by simp))
  | bl j=>cases F;exact PySem.EqMixed.ne_str_bool (bC I q (by simp))
  | int j=>obtain ⟨G,rfl⟩:=F;exact PySem.EqMixed.ne_str_int (bC I q (by simp))
  | str j=>obtain ⟨G,rfl⟩:=F;exact ne_str (bC I q (congrArg not uC))
  | _=>exact absurd (show false=true from hs) vt
 | byt i =>
  obtain ⟨t,rfl⟩:=J
  cases y with
  | byt j=>obtain ⟨G,rfl⟩:=F;exact PySem.W.ne_bytes (bC I q (congrArg not uE))
  | _=>exact absurd (show false=true from hs) vt
 | _=>cases y<;>exact absurd (show false=true from hs) vt
theorem kC:OpR X (compareOp .Lt) (rI0 fun i j=>.bl (decide (i<j))):=opB0 fun _ _ _ _ _ _ _ q=>lt_int q
theorem nC:OpR X (compareOp .LtE) (rI0 fun i j=>.bl (decide (i≤j))):=opB0 fun _ _ _ _ _ _ _ q=>le_int q
theorem op_gt:OpR X (compareOp .Gt) (rI0 fun i j=>.bl (decide (j<i))):=opB0 fun _ _ _ _ _ _ _ q=>gt_int q
theorem op_isN:OpR X (compareOp .Is) (fun x y H Q=>y=.non∧Q (.bl (decide (x=.non))) H):=by
 intro pins s σ H x y v u Q I rx ry h
 obtain ⟨rfl,q⟩:=h
 cases ry
 refine is_none_gen (bC I q ?_)
 cases x<;>first
  | (cases rx;rfl)
  | (obtain ⟨t,rfl⟩:=rx;rfl)
theorem aI (b:Expr) {op:CmpOp} (h:op≠.In:=by decide) (h2:op≠.NotIn:=by decide):behindInMarks op b=false:=by
 have e1:(op == CmpOp.In)=false:=by cases op<;>first | rfl | exact absurd rfl h
 have e2:(op == CmpOp.NotIn)=false:=by cases op<;>first | rfl | exact absurd rfl h2
 cases b<;>simp [behindInMarks,e1,e2]
theorem gi {op:CmpOp}{r:R2} (ho:OpR X (compareOp op) r) (ha:PE X a ta) (hb:PE X b tb) (hm:behindInMarks op b=false):PE X (.Compare a [op] [b] pos) (tOp r ta tb):=by
 intro pins s σ H Q I h
 exact wpAny_Compare1 (binT ha hb I h fun v u s2 x y H2 I2 rx ry q=>ho pins s2 σ H2 x y v u Q I2 rx ry q) hm
def tTest (t:TE):TT:=fun σ H Q=>t σ H fun x H'=>∃ k,x=.bl k∧Q k H'
theorem aA {op:CmpOp}{r:R2} (ho:OpR X (compareOp op) r) (ha:PE X a ta) (hb:PE X b tb) (hm:behindInMarks op b=false):PT X (.Compare a [op] [b] pos) (tTest (tOp r ta tb)):=by
 intro pins s σ H Q I h
 refine wpAny_isTrue_Compare1 (thn (ha pins s σ H _ I h) fun v G ⟨x,H1,q,r1,R⟩=>thn (hb pins G σ H1 _ q R) fun u s2 ⟨y,H2,Y,J,Z⟩ =>
  thn (ho pins s2 σ H2 x y v u _ Y r1 J Z) fun c s3 ⟨z,U,F,O,k,e,W⟩=>?_) hm
 subst e
 cases O
 exact wpAny_truthy_bool ⟨U,F,W⟩
def tChain (r r':R2) (ta tb tc:TE):TE:=fun σ H Q=>ta σ H fun x H1=>tb σ H1 fun y H2=>r x y H2 fun z H3=>∃ k,z=.bl k ∧
 (if k=true then tc σ H3 fun w' H4=>r' y w' H4 Q else Q (.bl false) H3)
theorem iy {op op':CmpOp}{r r':R2} (ho:OpR X (compareOp op) r) (ho':OpR X (compareOp op') r') (ha:PE X a ta) (hb:PE X b tb) (hc:PE X c tc)
  (hm:lastMarks [op,op'] [b,c]=false:=by with_unfolding_all rfl):PE X (.Compare a [op,op'] [b,c] pos) (tChain r r' ta tb tc):=by
 intro pins s σ H Q I h
 refine Compare_chain (thn (ha pins s σ H _ I h) fun v s1 ⟨x,H1,I1,r1,R⟩=>chain_link (thn (hb pins s1 σ H1 _ I1 R) fun u Z ⟨y,H2,I2,G,Y⟩ =>
  thn (ho pins Z σ H2 x y v u _ I2 r1 G Y) fun d s3 ⟨z,J,F,r3,k,e,q⟩=>?_)) hm
 subst e
 cases r3
 refine wpAny_truthy_bool ?_
 cases k with
 | false=>exact ite_ff ⟨.bl false,J,F,rfl,q⟩
 | true=>exact ite_tt (chain_last (thn (hc pins s3 σ J _ F q) fun W s4 ⟨U,H4,I4,O,q4⟩=>ho' pins s4 σ H4 y U u W Q I4 G O q4))
theorem qh:(sizeLine:Nat)<2 ^ 63:=by rw [sizeLine_eq];decide
theorem vals1 {x:V}{us:List Value} (r:Vals [x] us):∃ u,us=[u]∧RelV x u:=by
 cases r with
 | cons r1 r2=>cases r2;exact ⟨_,rfl,r1⟩
theorem vals2 {x y:V}{us:List Value} (r:Vals [x,y] us):∃ u w',us=[u,w']∧RelV x u∧RelV y w':=by
 cases r with
 | cons r1 r2 =>
  cases r2 with
  | cons r3 r4=>cases r4;exact ⟨_,_,rfl,r1,r3⟩
theorem uN (hc:X.calm=true):CallR X (.builtin "min") (fun xs H Q=>∃ i j,xs=[.int i,.int j]∧Q (.int (if j<i then j else i)) H):=by
 intro pins s σ H xs us Q I r h
 obtain ⟨i,j,rfl,q⟩:=h
 obtain ⟨u,w',rfl,⟨t,rfl⟩,⟨t',rfl⟩⟩:=vals2 r
 refine min_two_ints (I.ok.hd hc) fun h' tk k=>⟨_,H,I.kept k,?_,q⟩
 by_cases hj:j<i
 ·rw [if_pos hj,if_pos hj];exact ⟨_,rfl⟩
 ·rw [if_neg hj,if_neg hj];exact ⟨_,rfl⟩
theorem uQ:CallR X (.type "int") (fun xs H Q=>(∃ i,xs=[.int i]∧Q (.int i) H)∨∃ k,xs=[.bl k]∧Q (.int (if k then 1 else 0)) H):=by
 intro pins s σ H xs us Q I r h
 rcases h with ⟨i,rfl,q⟩ | ⟨k,rfl,q⟩
 ·obtain ⟨u,rfl,t,rfl⟩:=vals1 r
  exact call_int_int ⟨.int i,H,I,⟨_,rfl⟩,q⟩
 ·obtain ⟨u,rfl,r1⟩:=vals1 r
  cases r1
  exact call_int_bool ⟨.int (if k then 1 else 0),H,I.tok _,⟨_,rfl⟩,q⟩
end
end L2
namespace L2
open PySem PySem.Spec PyProof.Rows
structure ObjM (h:Heap) (x dx C:Addr) (mA:Str→Option Value):Prop where
 obj:h.get? x=some (PySem.W.instObj C dx)
 ns:h.Ns1 dx mA
 ne:dx≠x
theorem uf {h:Heap}{dx:Addr}{mA:Str→Option Value} (n:h.Ns1 dx mA):∃ od,h.get? dx=some od∧∀ name,PySem.W.lookIn name od=some (mA name):=by
 obtain ⟨o,es,Y,U,J,O,_,G⟩:=n
 refine ⟨o,U,fun name=>?_⟩
 have e:=G name
 unfold nsFind findBy at e
 rw [← Array.find?_toList] at e
 unfold PySem.W.lookIn
 rw [J]
 dsimp only
 split
 ·rename_i y q
  rw [q] at e
  exact congrArg some e
 ·rename_i q
  rw [q] at e
  have a:es.toList.any (·.refKey)=false:=by
   rw [List.any_eq_false]
   intro y R
   obtain ⟨z,t,F⟩:=O y (Array.mem_toList_iff.mp R)
   simp [DictEntry.refKey,F]
  have I:¬ es.toList.any (·.refKey)=true:=by rw [a];exact vt
  rw [if_neg I]
  exact congrArg some e
theorem ObjM.look {h:Heap}{x dx C:Addr}{mA:Str→Option Value} (I:ObjM h x dx C mA):∃ od,PySem.W.InstAt h x (PySem.W.instObj C dx) C (some od)∧∀ name,PySem.W.lookIn name od=some (mA name) :=
 let ⟨od,ho,hl⟩:=uf I.ns
 ⟨od,⟨I.obj,rfl,rfl,ho⟩,hl⟩
section
variable {prog:Program}{w:World}{A:Around}{E:Value→Shared→Prop}{s:Shared}{K:PySem.W.Frag}{x dx C f:Addr}{mA:Str→Option Value}{name:Str}{v:Value}
theorem get_map {expr:Bool}{Q:Value→Shared→Prop} (X:K.In s.heap) (I:ObjM s.heap x dx C mA) (hg:PySem.W.plainGet K C name=true) (hh:PySem.W.hasDictIn K C=true)
  (ha:PySem.W.findIn K (.ref C) name=some none) (hv:mA name=some v) (hv':PySem.W.handedIn v=true) (h:Q v { s with toks:=s.toks+1 }) :
  wpAny (model prog w) A (getAttr (.ref x) name expr) Q E s:=by
 obtain ⟨q,J,hl⟩:=I.look
 exact PySem.W.get_value X J (PySem.W.plainGet_of hg).1 (PySem.W.findObj_own hh ha rfl (by rw [hl,hv])) hv' h
theorem get_meth {pl:Sem Bool}{Q:Value×List Value→Shared→Prop} (X:K.In s.heap) (I:ObjM s.heap x dx C mA) (hg:PySem.W.plainGet K C name=true)
  (hf:PySem.W.findIn K (.ref C) name=some (some (.ref f))) (ht:PySem.W.isFn K (.ref f)=true) (hv:mA name=none) (h:Q (.ref f,[.ref x]) s) :
  wpAny (model prog w) A (getMethod (.ref x) name pl) Q E s:=by
 obtain ⟨q,J,hl⟩:=I.look
 exact PySem.W.method_fn X J (PySem.W.plainGet_of hg).1 (PySem.W.plainGet_of hg).2 hf (beq_iff_eq.mp ht) (by show (PySem.W.lookIn name q).map (·.isSome)=some false;rw [hl,hv];rfl) h
theorem set_map {ns:List Str}{Q:Unit→Shared→Prop} (X:K.In s.heap) (I:ObjM s.heap x dx C mA)
  (hs:PySem.W.findIn K (.ref C) "__setattr__"=some (some (.builtin "object.__setattr__"))) (hp:PySem.W.plainOver K C=true) (ht:PySem.W.takerIn K C name=some none) (hh:PySem.W.hasDictIn K C=true)
  (hw:PySem.Within mA ns) (hsz:ns.length≤sizeLine)
  (h:∀ h',ObjM h' x dx C (fun y=>if y=name then some v else mA y)→Heap.SameBut dx s.heap h'→Q () { s with heap:=h',toks:=s.toks+2 }) :
  wpAny (model prog w) A (setAttr (.ref x) name v) Q E s:=by
 obtain ⟨od,J,hl⟩:=I.look
 refine PySem.W.set_plain X J hs (PySem.W.osa_open (s:={ s with toks:=s.toks+1 }) (r:=none) X J hp ht fun b=>?_)
 obtain ⟨cd,hc,G⟩:=PySem.W.any_some hh
 have Y:s.heap.get? x=some ⟨.ref C,some dx,.plain,#[]⟩:=I.obj
 refine wpAny_bind (wpAny_pure (wpAny_bind (wpAny_bind (wpAny_loadPart Y (wpAny_bind (PySem.W.Looks.here (s:={ s with toks:=s.toks+1 }) (PySem.W.looks_clsIn X hc) ?_))))))
 rw [G]
 refine wpAny_pure (a:=some dx) (wpAny_bind (wpAny_pure (wpAny_bind ?_)))
 refine wpAny_nsSet1 (s:={ s with toks:=s.toks+1 }) I.ns fun h' F q=>?_
 obtain ⟨oD,ab,Z,U,O,R⟩:=F.count (PySem.Within.cons name v hw)
 refine wpAny_bind (wpAny_lookBehind U (by rw [O];exact pastItsLine_dict (vG R (by rw [vh];omega))) ?_)
 exact wpAny_pure (h _ ⟨(q.2 _ (Ne.symm I.ne)).trans I.obj,F,I.ne⟩ q)
theorem make_map {R:Result→Shared→Prop}{vs:List Value}{kw:List (Str×Value)} (X:K.In s.heap) (hm:PySem.W.makesIn K C=true)
  (hi:PySem.W.findIn K (.ref C) "__init__"=some (some (.ref f))) (hf:PySem.W.typeIn K (.ref f)=some (.type "function"))
  (h:codeAny (model prog w) (A.under (.builtin "type.__call__" ⟨.ref C::vs,kw⟩)) (.call (.ref f) ⟨.ref (s.heap.objs.size+1)::vs,kw⟩) (PySem.W.InitBack (s.heap.objs.size+1) R)
   { s with heap:=(s.heap.push PySem.W.emptyDict).push (PySem.W.instObj C s.heap.objs.size) }) :
  codeAny (model prog w) A (.call (.ref C) ⟨vs,kw⟩) R s:=by
 obtain ⟨hh,g,d,t,os⟩:=s
 exact PySem.W.make_core (PySem.W.makes_of X hm) (PySem.W.looks_findIn X hi) (fun q=>PySem.W.bind_fn X q hf) (.inl rfl) h
end
def dP (f:Str) (v:V):List (Str×V)→List (Str×V)
 | []=>[(f,v)]
 | (g,x)::r=>if g=f then (g,v)::r else (g,x)::dP f v r
theorem b6 (f g:Str) (v:V):∀ fs:List (Str×V),(dP f v fs).lookup g=if g=f then some v else fs.lookup g
 | []=>by
  show List.lookup g [(f,v)]=_
  by_cases h:g=f
  ·have hb:(g == f)=true:=beq_iff_eq.mpr h
   simp only [List.lookup,hb,if_pos h]
  ·have hb:(g == f)=false:=beq_eq_false_iff_ne.mpr h
   simp only [List.lookup,hb,if_neg h]
 | (k,x)::r=>by
  have F:=b6 f g v r
  rw [show dP f v ((k,x)::r)=(if k=f then (k,v)::r else (k,x)::dP f v r) from rfl]
  by_cases q:k=f
  ·rw [if_pos q]
   by_cases h:g=k
   ·have hb:(g == k)=true:=beq_iff_eq.mpr h
    simp only [List.lookup,hb,if_pos (h.trans q)]
   ·have hb:(g == k)=false:=beq_eq_false_iff_ne.mpr h
    simp only [List.lookup,hb,if_neg (fun e:g=f=>h (e.trans q.symm))]
  ·rw [if_neg q]
   by_cases h:g=k
   ·have hb:(g == k)=true:=beq_iff_eq.mpr h
    simp only [List.lookup,hb,if_neg (fun e:g=f=>q (h.symm.trans e))]
   ·have hb:(g == k)=false:=beq_eq_false_iff_ne.mpr h
    simp only [List.lookup,hb]
    exact F
theorem j8 (f:Str) (v:V):∀ fs:List (Str×V),f∈(dP f v fs).map (·.1)∧∀ g,g∈fs.map (·.1)→g∈(dP f v fs).map (·.1)
 | []=>⟨by simp [dP],fun g h=>by simp at h⟩
 | (k,x)::r=>by
  obtain ⟨G,F⟩:=j8 f v r
  rw [show dP f v ((k,x)::r)=(if k=f then (k,v)::r else (k,x)::dP f v r) from rfl]
  by_cases q:k=f
  ·rw [if_pos q]
   subst q
   exact ⟨by simp,fun g h=>by simpa using h⟩
  ·rw [if_neg q]
   refine ⟨?_,fun g h=>?_⟩
   ·rw [vV]
    exact vd _ G
   ·rw [vV] at h ⊢
    rcases u8.mp h with e | e
    ·exact u8.mpr (.inl e)
    ·exact vd _ (F g e)
theorem fK (f:Str) (v:V):∀ fs:List (Str×V),(dP f v fs).length≤fs.length+1
 | []=>by simp [dP]
 | (k,x)::r=>by
  have ih:=fK f v r
  rw [show dP f v ((k,x)::r)=(if k=f then (k,v)::r else (k,x)::dP f v r) from rfl]
  by_cases hk:k=f
  ·rw [if_pos hk,vh,vh];omega
  ·rw [if_neg hk,vh,vh];omega
theorem RelO.some_of {v:V}{o:Option Value} (r:RelO (some v) o):∃ u,o=some u∧RelV v u:=by
 cases o with
 | none=>exact (show False from r).elim
 | some u=>exact ⟨u,rfl,r⟩
theorem RelO.none_of {o:Option Value} (r:RelO none o):o=none:=by
 cases o with
 | none=>rfl
 | some u=>exact (show False from r).elim
theorem uu {v:V}{u:Value} (r:RelV v u):PySem.W.handedIn u=true:=by
 cases v with
 | non=>cases (show u=Value.none from r);rfl
 | bl b=>cases (show u=Value.bool b from r);rfl
 | int i=>obtain ⟨t,e⟩:=(show ∃ t,u=Value.int i t from r);cases e;rfl
 | str x=>obtain ⟨t,e⟩:=(show ∃ t,u=Value.str x t from r);cases e;rfl
 | byt b=>obtain ⟨t,e⟩:=(show ∃ t,u=Value.bytes b t from r);cases e;rfl
 | flt b=>obtain ⟨t,e⟩:=(show ∃ t,u=Value.float b t from r);cases e;rfl
 | ref a=>cases (show u=Value.ref a from r);rfl
 | ty n=>cases (show u=Value.type n from r);rfl
section
variable {P:Program}{w:World}{H H':Hp}{h h':Heap}{a C dx:Addr}{fs fs':List (Str×V)}
theorem mz (hok:HOk P w H h) (e:H a=some (.ins C dx fs)):∃ mA,ObjM h a dx C mA∧(∀ f,RelO (fs.lookup f) (mA f))∧PySem.Within mA (fs.map (·.1))∧fs.length≤1000∧H dx=some (.own a):=by
 obtain ⟨d,z,ne,ob,mA,n,r,q⟩:=(show ObjOk P w H h a (.ins C dx fs) from hok a _ e)
 exact ⟨mA,⟨ob,n,ne⟩,r,q,z,d⟩
end
structure Cls (K:PySem.W.Frag) (C:Addr):Prop where
 pg:PySem.W.plainGet K C Str.empty=true
 hd:PySem.W.hasDictIn K C=true
 po:PySem.W.plainOver K C=true
 sa:PySem.W.findIn K (.ref C) "__setattr__"=some (some (.builtin "object.__setattr__"))
theorem Cls.get {K:PySem.W.Frag}{C:Addr} (c:Cls K C) (f:Str):PySem.W.plainGet K C f=true:=c.pg
def NoAttr (K:PySem.W.Frag) (C:Addr) (f:Str):Prop:=PySem.W.findIn K (.ref C) f=some none
theorem NoAttr.taker {K:PySem.W.Frag}{C:Addr}{f:Str} (n:NoAttr K C f):PySem.W.takerIn K C f=some none:=by
 unfold PySem.W.takerIn
 rw [show PySem.W.findIn K (.ref C) f=some none from n]
 rfl
structure Con (K:PySem.W.Frag) (C:Addr) (f:Str) (v:V) (u:Value):Prop where
 at_:PySem.W.findIn K (.ref C) f=some (some u)
 rel:RelV v u
 get:PySem.W.specialIn K u "__get__"=some none
 cp:PySem.W.copiedNames.contains f=false
structure uW (K:PySem.W.Frag) (C:Addr) (m:Str) (f:Addr):Prop where
 at_:PySem.W.findIn K (.ref C) m=some (some (.ref f))
 fn:PySem.W.isFn K (.ref f)=true
 kp:PySem.W.keepIn K (.ref f)=true
section
variable {X:Cx}{pins:List (Addr×Obj)}{σ:St}{H:Hp}{s:Shared}{a C dx:Addr}{fs:List (Str×V)}{f:Str}{v:V}{A:Around}{E:Value→Shared→Prop}
theorem rP {b:Bool}{Q:Value→Shared→Prop} (I:Inv X pins σ H s) (e:H a=some (.ins C dx fs)) (c:Cls X.K C) (n:NoAttr X.K C f) (l:fs.lookup f=some v)
  (h:∀ u s',Inv X pins σ H s'→RelV v u→Q u s'):wpAny (model X.prog X.w) A (getAttr (.ref a) f b) Q E s:=by
 obtain ⟨mA,O,r,_,_,_⟩:=mz I.hok e
 obtain ⟨u,F,q⟩:=RelO.some_of (v:=v) (o:=mA f) (by rw [← l];exact r f)
 exact get_map I.kIn O (c.get f) c.hd n F (uu q) (h u _ (I.tok _) q)
theorem kX {m:Str}{g:Addr}{pl:Sem Bool}{Q:Value×List Value→Shared→Prop} (I:Inv X pins σ H s) (e:H a=some (.ins C dx fs)) (c:Cls X.K C) (k:uW X.K C m g) (l:fs.lookup m=none)
  (h:Q (.ref g,[.ref a]) s):wpAny (model X.prog X.w) A (getMethod (.ref a) m pl) Q E s:=by
 obtain ⟨mA,O,r,_,_,_⟩:=mz I.hok e
 have hn:mA m=none:=RelO.none_of (by rw [← l];exact r m)
 exact get_meth I.kIn O (c.get m) k.at_ k.fn hn h
theorem qV {y:V}{u:Value}{Q:Unit→Shared→Prop} (I:Inv X pins σ H s) (e:H a=some (.ins C dx fs)) (c:Cls X.K C) (n:NoAttr X.K C f) (hl:fs.length<1000) (ry:RelV y u)
  (h:∀ s',Inv X pins σ (upd H a (.ins C dx (dP f y fs))) s'→Q () s'):wpAny (model X.prog X.w) A (setAttr (.ref a) f u) Q E s:=by
 obtain ⟨mA,O,r,wi,_,G⟩:=mz I.hok e
 have hz:(fs.map (·.1)).length≤sizeLine:=by rw [lH,sizeLine_eq];omega
 refine set_map I.kIn O c.sa c.po n.taker c.hd wi hz fun h' F R=>h _ ?_
 have hd:∃ o,h'.get? dx=some o:=let ⟨o,_,_,e',_⟩:=F.ns;⟨o,e'⟩
 refine I.write (x:=a) (e:=dx) (by rw [e];exact True.intro) (.inr G) (fun b q hb z=>(R.2 b hb).trans z) hd ?_
 refine ⟨by rw [az O.ne];exact G,?_,O.ne,F.obj,_,F.ns,fun g=>?_,fun g J=>?_⟩
 ·have:=fK f y fs;omega
 ·show RelO ((dP f y fs).lookup g) (if g=f then some u else mA g)
  rw [b6]
  by_cases q:g=f
  ·rw [if_pos q,if_pos q];exact ry
  ·rw [if_neg q,if_neg q];exact r g
 ·by_cases q:g=f
  ·rw [q];exact (j8 f y fs).1
  ·refine (j8 f y fs).2 g (wi g fun z=>J ?_)
   show (if g=f then some u else mA g)=none
   rw [if_neg q];exact z
theorem Inv.made (I:Inv X pins σ H s):Inv X pins σ (upd (upd H s.heap.objs.size (.own (s.heap.objs.size+1))) (s.heap.objs.size+1) (.ins C s.heap.objs.size []))
  { s with heap:=(s.heap.push PySem.W.emptyDict).push (PySem.W.instObj C s.heap.objs.size) }:=by
 have F:(s.heap.push PySem.W.emptyDict).get? s.heap.objs.size=some PySem.W.emptyDict:=Heap.get?_push_size s.heap rfl
 have U:((s.heap.push PySem.W.emptyDict).push (PySem.W.instObj C s.heap.objs.size)).get? (s.heap.objs.size+1)=some (PySem.W.instObj C s.heap.objs.size):=by
  have:=Heap.get?_push_size (s.heap.push PySem.W.emptyDict) (o:=PySem.W.instObj C s.heap.objs.size) rfl
  rwa [Heap.size_push] at this
 have R:(s.heap.push PySem.W.emptyDict).Ns s.heap.objs.size (fun _=>none):=⟨PySem.W.emptyDict,#[],_,F,rfl,(fun e O=>absurd O (by simp)),fun _=>rfl⟩
 have J:=I.laid (a:=s.heap.objs.size) (o:=.own (s.heap.objs.size+1)) (h':=s.heap.push PySem.W.emptyDict) (t':=s.toks) (fun b u q=>Heap.get?_push_of_some _ q) (va _) ⟨_,F⟩
 refine J.laid (a:=s.heap.objs.size+1) (o:=.ins C s.heap.objs.size []) (t':=s.toks) (fun b u q=>Heap.get?_push_of_some _ q) (Nat.le_of_eq (Heap.size_push _ _)) ?_
 have G:s.heap.objs.size≠s.heap.objs.size+1:=vW (Nat.lt_succ_self _)
 refine ⟨by rw [az G,upd_same],vk _,G,U,fun _=>none,(Heap.Ns1.of_empty R).at fun o q=>Heap.get?_push_of_some _ q,fun _=>True.intro,fun y Y=>absurd rfl Y⟩
theorem attr_of {prog:Program}{w:World}{env:Env}{e:Expr}{f:Str}{pos:Pos}{s:Shared}{Q:Value→Shared→Prop} (hb:attributeBase e f env (eval e env)=eval e env)
  (h:wpAny (model prog w) A (eval e env) (fun o s₁=>wpAny (model prog w) A (getAttr o f true) Q E s₁) E s):wpAny (model prog w) A (eval (.Attribute e f pos) env) Q E s :=
 Attribute_any_ h (by rw [arm_eval_Attribute,hb])
end
def tFld (K:PySem.W.Frag) (ta:TE) (f:Str):TE:=fun σ H Q=>ta σ H fun x H1=>∃ a C dx fs v,x=.ref a∧H1 a=some (.ins C dx fs)∧Cls K C∧NoAttr K C f∧fs.lookup f=some v∧Q v H1
def sFld (K:PySem.W.Frag) (ta tv:TE) (f:Str):TS:=fun D σ H=>tv σ H fun y H1=>ta σ H1 fun x H2=>∃ a C dx fs,x=.ref a∧H2 a=some (.ins C dx fs)∧Cls K C∧NoAttr K C f∧fs.length<1000 ∧
 D.nx σ (upd H2 a (.ins C dx (dP f y fs)))
section
variable {X:Cx}{o e value:Expr}{f:Str}{pos pos' tpos:Pos}{ta tv:TE}
theorem aH (he:PE X e ta) (hb:attributeBase e f X.env (eval e X.env)=eval e X.env):PE X (.Attribute e f pos) (tFld X.K ta f):=by
 intro pins s σ H Q I h
 refine attr_of hb (thn (he pins s σ H _ I h) fun u s1 ⟨x,H1,I1,rx,a,C,dx,fs,v,ex,ea,c,n,l,q⟩=>?_)
 subst ex
 obtain rfl:u=Value.ref a:=rx
 exact rP I1 ea c n l fun u' s2 I2 ru=>⟨v,H1,I2,ru,q⟩
theorem iw (ha:PE X o ta) (hv:PE X value tv) (hs:swapsWith value (some (.Attribute o f pos')) pos.line X.env=pure false):PS X (.Assign [.Attribute o f pos'] value pos) (sFld X.K ta tv f):=by
 intro pins s σ H D I h
 refine plainObj_wpAny_Assign_Attribute (thn (hv pins s σ H _ I h) fun u R ⟨y,H1,F,J,q⟩=>thn (ha pins R σ H1 _ F q) fun U s2 ⟨x,H2,Y,O,a,C,dx,fs,ex,W,c,n,l,Z⟩=>?_) hs
 subst ex
 obtain rfl:U=Value.ref a:=O
 exact qV Y W c n l J fun s3 G=>⟨σ,_,G,Z⟩
end
section
variable {X:Cx}{pins:List (Addr×Obj)}{σ:St}{H:Hp}{s:Shared}{A:Around}{E:Value→Shared→Prop}{Q:Value→Shared→Prop}{c:Value}{b:Bool}
inductive r6 (K:PySem.W.Frag) (H:Hp):V→Value→Prop where
 | non:r6 K H .non (.type "NoneType")
 | bl (x:Bool):r6 K H (.bl x) (.type "bool")
 | int (i:Int):r6 K H (.int i) (.type "int")
 | str (x:Str):r6 K H (.str x) (.type "str")
 | flt (x:UInt64):r6 K H (.flt x) (.type "float")
 | lst {a:Addr}{xs:List V} (e:H a=some (.lst xs)):r6 K H (.ref a) (.type "list")
 | frz {a:Addr}{o:Obj}{xs:List V} (e:H a=some (.frz o (.lst xs))):r6 K H (.ref a) (.type "list")
 | tup {a:Addr}{xs:List V} (e:H a=some (.tup xs)):r6 K H (.ref a) (.type "tuple")
 | dK {a:Addr}{kvs:List (Key×V)} (e:H a=some (.dK kvs)):r6 K H (.ref a) (.type "dict")
 | dT {a:Addr}{kvs:List (List Key×V)} (e:H a=some (.dT kvs)):r6 K H (.ref a) (.type "dict")
 | ins {a C dx:Addr}{fs:List (Str×V)} (e:H a=some (.ins C dx fs)) (cl:Cls K C) (ha:PySem.W.findIn K (.ref C) "__class__"=some (some (.builtin "object.__class__")))
   (hn:PySem.W.specialIn K (.builtin "object.__class__") "__get__"=some (some (.builtin "getset_descriptor.__get__"))) (htk:PySem.W.takesIn K (.builtin "object.__class__")=some true)
   (hm:PySem.W.mroIn K C (.type "object")=some true):r6 K H (.ref a) (.ref C)
theorem um {x:V}{u t:Value} (I:Inv X pins σ H s) (rx:RelV x u) (ty:r6 X.K H x t) (e:PySem.W.kitOne X.K t c=some b) (h:∀ tk,Q (.bool b) { s with toks:=tk }) :
  wpAny (model X.prog X.w) A (call (.builtin "isinstance") [u,c]) Q E s:=by
 cases ty with
 | non=>cases (show u=Value.none from rx);exact wr PySem.W.kitx_none I.kIn True.intro e (fun z=>nomatch z) h
 | bl y=>cases (show u=Value.bool y from rx);exact wr PySem.W.kitx_bool I.kIn True.intro e (fun z=>nomatch z) h
 | int i=>obtain ⟨t,q⟩:=(show ∃ t,u=Value.int i t from rx);cases q;exact wr PySem.W.kitx_int I.kIn True.intro e (fun z=>nomatch z) h
 | str y=>obtain ⟨t,q⟩:=(show ∃ t,u=Value.str y t from rx);cases q;exact wr PySem.W.kitx_str I.kIn True.intro e (fun z=>nomatch z) h
 | flt y=>obtain ⟨t,q⟩:=(show ∃ t,u=Value.float y t from rx);cases q;exact wr PySem.W.kitx_float I.kIn True.intro e (fun z=>nomatch z) h
 | @lst a xs ea =>
  cases (show u=Value.ref a from rx)
  obtain ⟨_,_,n,_,h1⟩:=(show ObjOk X.prog X.w H s.heap a (.lst xs) from I.hok a _ ea)
  exact wr PySem.W.kitx_list I.kIn ⟨_,h1,rfl⟩ e (fun z=>nomatch z) h
 | @frz a ob xs ea =>
  cases (show u=Value.ref a from rx)
  obtain ⟨_,_,_,n,_,h1⟩:=(show ObjOk X.prog X.w H s.heap a (.frz ob (.lst xs)) from I.hok a _ ea)
  exact wr PySem.W.kitx_list I.kIn ⟨_,h1,rfl⟩ e (fun z=>nomatch z) h
 | @tup a xs ea =>
  cases (show u=Value.ref a from rx)
  obtain ⟨_,_,_,p⟩:=(show ObjOk X.prog X.w H s.heap a (.tup xs) from I.hok a _ ea)
  obtain ⟨o,h1,h2,_⟩:=p
  exact wr PySem.W.kitx_tuple I.kIn ⟨o,h1,h2⟩ e (fun z=>nomatch z) h
 | @dK a kvs ea =>
  cases (show u=Value.ref a from rx)
  obtain ⟨_,_,vs,_,p⟩:=(show ObjOk X.prog X.w H s.heap a (.dK kvs) from I.hok a _ ea)
  obtain ⟨o,es,F,h1,h2,_⟩:=p
  exact wr PySem.W.kitx_dict I.kIn ⟨o,h1,h2.1⟩ e (fun z=>nomatch z) h
 | @dT a kvs ea =>
  cases (show u=Value.ref a from rx)
  obtain ⟨_,_,xs,_,o,es,F,h1,h2,_⟩:=(show ObjOk X.prog X.w H s.heap a (.dT kvs) from I.hok a _ ea)
  exact wr PySem.W.kitx_dict I.kIn ⟨o,h1,h2.1⟩ e (fun z=>nomatch z) h
 | @ins a C dx fs ea cl ha hn htk hm =>
  cases (show u=Value.ref a from rx)
  obtain ⟨mA,O,_⟩:=mz I.hok ea
  obtain ⟨G,J,_⟩:=O.look
  exact wr (PySem.W.kitx_own (cl.get _) cl.hd ha hn htk hm) I.kIn J e (fun z=>nomatch z) h
end
end L2
namespace L2
open PySem PySem.Spec PyProof.Rows
structure Room (k:Nat) (A:Around):Prop where
 hd:A.handled=none
 dp:A.depth+3*k+5<recursionLimit
 un:A.units+16*k+200<cLine
theorem Room.mono {j k:Nat}{A:Around} (r:Room k A) (h:j≤k):Room j A:=⟨r.hd,by have:=r.dp;omega,by have:=r.un;omega⟩
theorem Room.deeper {k:Nat}{A:Around} (r:Room (k+1) A) (env:Env):Room k (A.deeper env) :=
 ⟨r.hd,by have:=r.dp;show A.depth+1+3*k+5<_;omega,by have:=r.un;show A.units+3+16*k+200<_;omega⟩
theorem rK {A:Around}{C:Addr}{us:List Value}{kw:List (Str×Value)}:(A.under (.builtin "type.__call__" ⟨.ref C::us,kw⟩)).depth=A.depth+1:=by
 first | rfl | simp [Around.under,Code.weight,Code.isCreation,Code.isGuard,Code.isCaller,Code.frames,Code.isFrame,guardIds]
theorem rJ {A:Around}{C:Addr}{us:List Value}{kw:List (Str×Value)}:(A.under (.builtin "type.__call__" ⟨.ref C::us,kw⟩)).units=A.units+1:=by
 first | rfl | simp [Around.under,Code.cUnits,Code.frames,Code.isFrame]
theorem Room.make {k:Nat}{A:Around} (r:Room (k+1) A) (C:Addr) (us:List Value) (kw:List (Str×Value)):Room k (A.under (.builtin "type.__call__" ⟨.ref C::us,kw⟩)) :=
 ⟨r.hd,by have:=r.dp;rw [rK];omega,by have:=r.un;rw [rJ];omega⟩
theorem Room.depth {k:Nat}{A:Around} (r:Room k A):A.depth<recursionLimit:=by have:=r.dp;omega
theorem Room.units {k:Nat}{A:Around} (r:Room k A):A.units+64<cLine:=by have:=r.un;omega
def tNil:TA:=fun _ H Q=>Q [] H
def sQ (ta:TE) (tr:TA):TA:=fun σ H Q=>ta σ H fun x H1=>tr σ H1 fun xs H2=>Q (x::xs) H2
section
variable {X:Cx}{e:Expr}{es:List Expr}{te:TE}{t:TA}{pos:Pos}
theorem ac:PA X [] tNil:=fun _ _ _ _ H Q I h=>Calls.spliced_nil ⟨[],H,I,.nil,h⟩
theorem aa (ha:PE X e te) (hr:PA X es t) (hs:starEach (e::es) X.env=(false,eval e X.env)::starEach es X.env:=by rfl):PA X (e::es) (sQ te t):=by
 intro pos pins s σ H Q I h
 rw [hs]
 show wpAny _ _ (spliced ((false,eval e X.env)::backTo pos (starEach es X.env))) _ _ s
 refine Calls.spliced_cons (thn (ha pins s σ H _ I h) fun u F ⟨x,H1,q,U,J⟩=>?_)
 exact thn (hr pos pins F σ H1 _ q J) fun W Y ⟨xs,H2,O,G,R⟩=>⟨x::xs,H2,O,.cons U G,R⟩
def tTup (t:TA):TE:=fun σ H Q=>t σ H fun xs H1=>xs.length≤sizeLine∧∀ p,H1 p=none→Q (.ref p) (upd H1 p (.tup xs))
def tLst (t:TA):TE:=fun σ H Q=>t σ H fun xs H1=>xs.length≤sizeLine∧∀ p,H1 p=none→Q (.ref p) (upd H1 p (.lst xs))
theorem ci {x1} (h:PA X es t):PE X (.Tuple es x1 pos) (tTup t):=by
 intro pins s σ H Q I J
 refine wpAny_Tuple_spliced (thn (h pos pins s σ H _ I J) fun O F ⟨xs,H1,G,r,z,q⟩=>⟨by rw [← r.length];exact z,?_⟩)
 have hf:H1 F.heap.objs.size=none:=G.hok.fresh (va _)
 refine ⟨.ref F.heap.objs.size,upd H1 F.heap.objs.size (.tup xs),G.laid (t':=F.toks) (fun b u e=>Heap.get?_push_of_some _ e) (va _) ?_,rfl,q _ hf⟩
 exact ⟨z,O,r,⟨_,Heap.get?_push_size _ rfl,rfl,_,rfl⟩⟩
theorem bd (h:PA X es t):PE X (.List es pos) (tLst t):=by
 intro pins s σ H Q I J
 refine wpAny_List_spliced (thn (h pos pins s σ H _ I J) fun O F ⟨xs,H1,G,r,z,q⟩=>⟨by rw [← r.length];exact z,?_⟩)
 have hf:H1 F.heap.objs.size=none:=G.hok.fresh (va _)
 refine ⟨.ref F.heap.objs.size,upd H1 F.heap.objs.size (.lst xs),G.laid (t':=F.toks) (fun b u e=>Heap.get?_push_of_some _ e) (va _) ?_,rfl,q _ hf⟩
 exact ⟨z,O,0,r,Heap.get?_push_size _ rfl⟩
end
abbrev Sp:=List V→Hp→VK→XK→Prop
abbrev CXT:=List Env→Hp→Shared→XK→Value→Shared→Prop
structure Env0 (P:Program) (w:World) (K:PySem.W.Frag) (mg:Str→Option Value) (base:Heap) (A:Around) (outer:List Env) (s:Shared) (H:Hp):Prop where
 frames:A.frames=some outer
 mod:Mod K mg base
 bs:∀ b o,base.get? b=some o→s.heap.get? b=some o∧H b=none
 bsz:base.objs.size≤s.heap.objs.size
 funs:s.heap.FunFrames base outer
 frf:∀ b∈frs outer,H b=none
 hok:HOk P w H s.heap
 bare:AllBare s.gens
def CE (outer:List Env) (P:Program) (w:World) (H:Hp) (s:Shared) (Q:VK) (u:Value) (s':Shared):Prop :=
 ∃ v H',s'.os=s.os∧AllBare s'.gens∧Un (frs outer) [] H H' s.heap s'.heap∧HOk P w H' s'.heap∧RelV v u∧Q v H'
def CR (CX:CXT) (outer:List Env) (P:Program) (w:World) (H:Hp) (s:Shared) (Q:VK) (E:XK) (r:Result) (s':Shared):Prop :=
 match r with
 | .ok (.ret u)=>CE outer P w H s Q u s'
 | .ok _=>False
 | .error e=>CX outer H s E e s'
structure ju (P:Program) (w:World) (K:PySem.W.Frag) (mg:Str→Option Value) (base:Heap) (CX:CXT) (k:Nat) (f:Addr) (fd:FuncData) (ps:List Str) (sp:Sp):Prop where
 len:∀ vs H Q E,sp vs H Q E→vs.length=ps.length
 run:∀ (A:Around) (outer:List Env) (s:Shared) (H:Hp) (args:Args) (us:List Value) (vs:List V) (Q:VK) (E:XK),Room k A→Env0 P w K mg base A outer s H→BindsTo s fd args (ps.zip us)→Vals vs us→sp vs H Q E →
  codeAny (model P w) A (.call (.ref f) args) (CR CX outer P w H s Q E) s
theorem Env0.make {P:Program}{w:World}{K:PySem.W.Frag}{mg:Str→Option Value}{base:Heap}{A:Around}{outer:List Env}{s:Shared}{H:Hp} (e:Env0 P w K mg base A outer s H) (C:Addr) (us:List Value) (kw:List (Str×Value)) :
  Env0 P w K mg base (A.under (.builtin "type.__call__" ⟨.ref C::us,kw⟩)) outer s H:=⟨by first | exact e.frames | (simpa [Around.under,Code.envs,Code.isFrame,pushEnvs] using e.frames),e.mod,e.bs,e.bsz,e.funs,e.frf,e.hok,e.bare⟩
section
variable {X:Cx}{pins:List (Addr×Obj)}{σ:St}{H:Hp}{s s':Shared}
theorem Inv.env0 (I:Inv X pins σ H s):Env0 X.prog X.w X.K X.mg X.base X.A X.stack s H :=
 ⟨I.ok.frames,I.ok.mod,I.bs,vG I.ok.bsz I.sz,I.stack,I.stkFree,I.hok,I.bare⟩
theorem Inv.after {Q:VK}{u:Value} (I:Inv X pins σ H s) (h:CE X.stack X.prog X.w H s Q u s'):EP X pins σ Q u s':=by
 obtain ⟨v,H',os,bare,un,hok,r,q⟩:=h
 obtain ⟨hh,g,d,t,os'⟩:=s'
 obtain rfl:os'=s.os:=os
 exact ⟨v,H',I.call (h':=hh) (g':=g) (d':=d) (t':=t) (ch:=[]) un hok bare (fun b z=>absurd z (by simp)),r,q⟩
end
def tCall (sp:Sp) (dvs:List V) (E:XK) (t:TA):TE:=fun σ H Q=>t σ H fun vs H1=>sp (vs++dvs) H1 Q E
def tMeth (C:Addr) (m:Str) (sp:Sp) (dvs:List V) (E:XK) (ta:TE) (t:TA):TE:=fun σ H Q=>ta σ H fun x H1=>∃ a dx fs,x=.ref a∧H1 a=some (.ins C dx fs)∧fs.lookup m=none ∧
 t σ H1 fun vs H2=>sp (x::(vs++dvs)) H2 Q E
def tMake (C:Addr) (sp:Sp) (dvs:List V) (E:XK) (t:TA):TE:=fun σ H Q=>t σ H fun vs H1=>∀ x dx,H1 x=none→H1 dx=none→dx≠x →
 sp (.ref x::(vs++dvs)) (upd (upd H1 dx (.own x)) x (.ins C dx [])) (fun v H2=>v=.non∧Q (.ref x) H2) E
def Binds (K:PySem.W.Frag) (fd:FuncData) (ps:List Str) (ds:List Value):Prop :=
 ∀ (s:Shared) (us:List Value),K.In s.heap→(us++ds).length=ps.length→BindsTo s fd ⟨us,[]⟩ (ps.zip (us++ds))
theorem Binds.all {K:PySem.W.Frag}{fd:FuncData}{ps:List Str} (h:∀ us:List Value,us.length=ps.length→bindArgs fd ⟨us,[]⟩=pure (ps.zip us)):Binds K fd ps []:=fun s us _ hl=>by
 rw [vT] at hl ⊢
 exact .of_eq (h us hl)
def jf (CX:CXT) (X:Cx) (E:XK):Prop:=∀ (pins:List (Addr×Obj)) (σ:St) (H:Hp) (s:Shared) (e:Value) (s':Shared),Inv X pins σ H s→CX X.stack H s E e s'→X.xe e s'
section
variable {X:Cx}{CX:CXT}{k:Nat}{f C:Addr}{fd:FuncData}{ps:List Str}{sp:Sp}{dvs:List V}{ds:List Value}{E:XK}{x m:Str}{p pos apos:Pos}{e o:Expr}{es:List Expr}{ta:TE}{t:TA}
theorem tu {pins:List (Addr×Obj)}{σ:St}{H:Hp}{s:Shared}{Q:VK}{us:List Value}{vs:List V} (F:ju X.prog X.w X.K X.mg X.base CX k f fd ps sp) (hr:Room k X.A) (hb:Binds X.K fd ps ds) (hd:Vals dvs ds) (hx:jf CX X E)
  (I:Inv X pins σ H s) (r:Vals vs us) (h:sp (vs++dvs) H Q E):wpAny (model X.prog X.w) X.A (call (.ref f) us) (EP X pins σ Q) X.xe s:=by
 have G:Vals (vs++dvs) (us++ds):=r.append hd
 have hl:(us++ds).length=ps.length:=by rw [← G.length];exact F.len _ _ _ _ h
 refine wpAny_call (codeAny_mono (F.run X.A X.stack s H ⟨us,[]⟩ (us++ds) (vs++dvs) Q E hr I.env0 (hb s us I.kIn hl) G h) fun r s' q=>?_)
 cases r with
 | error e=>exact hx pins σ H s e s' I q
 | ok fl =>
  cases fl with
  | ret u=>exact I.after q
  | next=>exact False.elim q
  | brk=>exact False.elim q
  | cont=>exact False.elim q
theorem tI (F:ju X.prog X.w X.K X.mg X.base CX k f fd ps sp) (hr:Room k X.A) (hg:Gl X x) (hm:X.mg x=some (.ref f)) (hk:PySem.W.keepIn X.K (.ref f)=true) (hb:Binds X.K fd ps ds) (hd:Vals dvs ds) (hx:jf CX X E)
  (ha:PA X (e::es) t) (hdb:(x == ("__debug__":Str))=false:=by decide) (he:starEach (e::es) X.env=(false,eval e X.env)::starEach es X.env:=by rfl) (hpl:(backTo pos (starEach es X.env)).any (·.1)=false:=by rfl) :
  PE X (.Call (.Name x p) (e::es) [] pos) (tCall sp dvs E t):=by
 intro pins s σ H Q I h
 refine wpAny_Call_Name_kw (iV I hg hm ?_ hdb)
 refine PySem.W.callWith_K (h₀:=X.base) I.ok.mod.kin hk (thn (ha pos pins s σ H _ I h) fun O J ⟨vs,H1,G,r,q⟩=>⟨G.kIn,?_⟩) he hpl
 exact tu F hr hb hd hx G r q
theorem pe_meth {pl:Sem Bool} (he:PE X o ta) (c:Cls X.K C) (hm:uW X.K C m f) (F:ju X.prog X.w X.K X.mg X.base CX k f fd ps sp) (hr:Room k X.A) (hb:Binds X.K fd ps ds) (hd:Vals dvs ds) (hx:jf CX X E) (ha:PA X (e::es) t)
  (hst:starEach (e::es) X.env=(false,eval e X.env)::starEach es X.env:=by rfl) (hpl:(backTo pos (starEach es X.env)).any (·.1)=false:=by rfl)
  (ht:eval (.Call (.Attribute o m apos) (e::es) [] pos) X.env=(do
   let ov ← eval o X.env
   standAt apos.atName
   let (f,first) ← holding [ov] (getMethod ov m pl)
   callWith pos f first (backTo pos (starEach (e::es) X.env)) (backToKw pos (keywordEach [] X.env))):=by rfl) :
  PE X (.Call (.Attribute o m apos) (e::es) [] pos) (tMeth C m sp dvs E ta t):=by
 intro pins s σ H Q I h
 refine PySem.W.methodCall_KW (pl:=pl) (thn (he pins s σ H _ I h) fun u R ⟨x,H1,G,O,a,dx,fs,ex,U,l,q⟩=>?_) ht
 subst ex
 obtain rfl:u=Value.ref a:=O
 refine kX G U c hm l ?_
 refine PySem.W.callWith_K (first:=[.ref a]) (h₀:=X.base) I.ok.mod.kin hm.kp (thn (ha pos pins R σ H1 _ G q) fun us Z ⟨vs,H2,J,r,Y⟩=>⟨J.kIn,?_⟩) hst hpl
 exact tu (us:=.ref a::us) (vs:=.ref a::vs) F hr hb hd hx J (.cons rfl r) Y
theorem pe_meth0 {pl:Sem Bool} (he:PE X o ta) (c:Cls X.K C) (hm:uW X.K C m f) (F:ju X.prog X.w X.K X.mg X.base CX k f fd ps sp) (hr:Room k X.A) (hb:Binds X.K fd ps ds) (hd:Vals dvs ds) (hx:jf CX X E)
  (ht:eval (.Call (.Attribute o m apos) [] [] pos) X.env=(do
   let ov ← eval o X.env
   standAt apos.atName
   let (f,first) ← holding [ov] (getMethod ov m pl)
   callWith pos f first (backTo pos (starEach [] X.env)) (backToKw pos (keywordEach [] X.env))):=by rfl) :
  PE X (.Call (.Attribute o m apos) [] [] pos) (tMeth C m sp dvs E ta tNil):=by
 intro pins s σ H Q I h
 refine PySem.W.methodCall_KW (pl:=pl) (thn (he pins s σ H _ I h) fun u R ⟨x,H1,G,O,a,dx,fs,ex,J,l,q⟩=>?_) ht
 subst ex
 obtain rfl:u=Value.ref a:=O
 refine kX G J c hm l ?_
 exact PySem.W.callWith_K0 (first:=[.ref a]) G.kIn hm.kp (tu (us:=[.ref a]) (vs:=[.ref a]) F hr hb hd hx G (.cons rfl .nil) q)
structure Mk (K:PySem.W.Frag) (C f:Addr):Prop where
 makes:PySem.W.makesIn K C=true
 init:PySem.W.findIn K (.ref C) "__init__"=some (some (.ref f))
 fn:PySem.W.isFn K (.ref f)=true
 kp:PySem.W.keepIn K (.ref C)=true
theorem run_make {pins:List (Addr×Obj)}{σ:St}{H:Hp}{s:Shared}{Q:VK}{us:List Value}{vs:List V} (M:Mk X.K C f) (F:ju X.prog X.w X.K X.mg X.base CX k f fd ps sp) (hr:Room (k+1) X.A) (hb:Binds X.K fd ps ds) (hd:Vals dvs ds)
  (hx:jf CX X E) (I:Inv X pins σ H s) (r:Vals vs us)
  (h:∀ x dx,H x=none→H dx=none→dx≠x→sp (.ref x::(vs++dvs)) (upd (upd H dx (.own x)) x (.ins C dx [])) (fun v H2=>v=.non∧Q (.ref x) H2) E) :
  wpAny (model X.prog X.w) X.A (call (.ref C) us) (EP X pins σ Q) X.xe s:=by
 have O:=h (s.heap.objs.size+1) s.heap.objs.size (I.hok.fresh (Nat.le_succ _)) (I.hok.fresh (va _)) (vW (Nat.lt_succ_self _))
 have G:=Inv.made (C:=C) I
 have J:Vals (V.ref (s.heap.objs.size+1)::(vs++dvs)) (Value.ref (s.heap.objs.size+1)::(us++ds)):=.cons rfl (r.append hd)
 have hl:(Value.ref (s.heap.objs.size+1)::us++ds).length=ps.length:=by
  have e:=J.length
  rw [F.len _ _ _ _ O] at e
  exact e.symm
 refine wpAny_call (make_map (f:=f) I.kIn M.makes M.init (beq_iff_eq.mp M.fn) (codeAny_mono (F.run _ X.stack _ _ ⟨Value.ref (s.heap.objs.size+1)::us,[]⟩ (Value.ref (s.heap.objs.size+1)::(us++ds)) _ _ E (hr.make C us [])
  (G.env0.make C us []) (hb _ (Value.ref (s.heap.objs.size+1)::us) G.kIn hl) J O) fun r s' q=>?_))
 cases r with
 | error e=>exact hx pins σ _ _ e s' G q
 | ok fl =>
  cases fl with
  | ret u =>
   obtain ⟨v,H',U,Y,W,R⟩:=G.after q
   subst W
   exact ⟨Y,⟨V.ref (s.heap.objs.size+1),H',U,rfl,R⟩⟩
  | next=>exact False.elim q
  | brk=>exact False.elim q
  | cont=>exact False.elim q
theorem pe_make (M:Mk X.K C f) (F:ju X.prog X.w X.K X.mg X.base CX k f fd ps sp) (hr:Room (k+1) X.A) (hg:Gl X x) (hm:X.mg x=some (.ref C)) (hb:Binds X.K fd ps ds) (hd:Vals dvs ds) (hx:jf CX X E)
  (ha:PA X (e::es) t) (hdb:(x == ("__debug__":Str))=false:=by decide) (he:starEach (e::es) X.env=(false,eval e X.env)::starEach es X.env:=by rfl) (hpl:(backTo pos (starEach es X.env)).any (·.1)=false:=by rfl) :
  PE X (.Call (.Name x p) (e::es) [] pos) (tMake C sp dvs E t):=by
 intro pins s σ H Q I h
 refine wpAny_Call_Name_kw (iV I hg hm ?_ hdb)
 refine PySem.W.callWith_K (h₀:=X.base) I.ok.mod.kin M.kp (thn (ha pos pins s σ H _ I h) fun O J ⟨vs,H1,G,r,q⟩=>⟨G.kIn,?_⟩) he hpl
 exact run_make M F hr hb hd hx G r q
end
section
variable {X:Cx}{CX:CXT}{k:Nat}{f C:Addr}{fd:FuncData}{ps ks:List Str}{sp:Sp}{E:XK}{x m:Str}{p pos apos kpos:Pos}{e o:Expr}{es:List Expr}{kws:List Keyword}{te ta:TE}{t tk:TA}{nm:Option Str}
structure KBinds (K:PySem.W.Frag) (fd:FuncData) (ps ks:List Str) (g:List Value→List Value→List Value) (gV:List V→List V→List V):Prop where
 to:∀ (s:Shared) (us ws:List Value),K.In s.heap→(g us ws).length=ps.length→BindsTo s fd ⟨us,ks.zip ws⟩ (ps.zip (g us ws))
 rel:∀ {vs:List V}{us:List Value}{zs:List V}{ws:List Value},Vals vs us→Vals zs ws→Vals (gV vs zs) (g us ws)
variable {g:List Value→List Value→List Value}{gV:List V→List V→List V}
end
structure ax (N P:List Str) (sc:Scope):Prop where
 kind:sc.kind=.function
 co:sc.isCoroutine=false
 gen:sc.isGenerator=false
 nd:N.Nodup
 pre:N.take P.length=P
 par:∀ x∈P,sc.names.lookup x=some .local∨sc.names.lookup x=some .cell
 nofree:∀ y∈sc.names,y.2≠.free
theorem oo {kindOf:Str→Option NameKind}{x:Str}:∀ {binds:List (Str×Value)}{m:Str→Option Value},(∀ v,(x,v)∉binds)→bindL kindOf binds m x=m x
 | [],_,_=>rfl
 | (n,v)::r,m,h=>by
  unfold bindL
  rw [oo fun w hw=>h w (vd _ hw)]
  split
  ·have:x≠n:=by rintro rfl;exact h v vb
   simp [this]
  ·rfl
theorem ou {kindOf:Str→Option NameKind}{x:Str}:∀ {binds:List (Str×Value)}{m:Str→Option Value},(∀ v,(x,v)∉binds)→bindC kindOf binds m x=m x
 | [],_,_=>rfl
 | (n,v)::r,m,h=>by
  unfold bindC
  rw [ou fun w hw=>h w (vd _ hw)]
  split
  ·rfl
  ·have:x≠n:=by rintro rfl;exact h v vb
   simp [this]
theorem oq {kindOf:Str→Option NameKind}{x:Str}{v:Value}:∀ {P:List Str}{vs:List Value}{i:Nat}{m:Str→Option Value},P.Nodup→P[i]?=some x→vs[i]?=some v→kindOf x=some .local →
  bindL kindOf (P.zip vs) m x=some v
 | [],_,_,_,_,h,_,_=>by simp at h
 | _::_,[],_,_,_,_,h,_=>by simp at h
 | p::P,w::vs,0,m,nd,h1,h2,hk=>by
  simp at h1 h2;subst h1;subst h2
  show bindL kindOf ((p,w)::P.zip vs) m p=_
  unfold bindL
  rw [oo fun v q=>(wv.mp nd).1 (List.of_mem_zip q).1,if_pos hk]
  simp
 | p::P,w::vs,i+1,m,nd,h1,h2,hk=>by
  show bindL kindOf ((p,w)::P.zip vs) m x=_
  unfold bindL
  exact oq (i:=i) (wv.mp nd).2 (by simpa using h1) (by simpa using h2) hk
theorem ow {kindOf:Str→Option NameKind}{x:Str}{v:Value}:∀ {P:List Str}{vs:List Value}{i:Nat}{m:Str→Option Value},P.Nodup→P[i]?=some x→vs[i]?=some v→kindOf x≠some .local →
  bindC kindOf (P.zip vs) m x=some v
 | [],_,_,_,_,h,_,_=>by simp at h
 | _::_,[],_,_,_,_,h,_=>by simp at h
 | p::P,w::vs,0,m,nd,h1,h2,hk=>by
  simp at h1 h2;subst h1;subst h2
  show bindC kindOf ((p,w)::P.zip vs) m p=_
  unfold bindC
  rw [ou fun v q=>(wv.mp nd).1 (List.of_mem_zip q).1,if_neg hk]
  simp
 | p::P,w::vs,i+1,m,nd,h1,h2,hk=>by
  show bindC kindOf ((p,w)::P.zip vs) m x=_
  unfold bindC
  exact ow (i:=i) (wv.mp nd).2 (by simpa using h1) (by simpa using h2) hk
def start (N:List Str) (vs:List V):St:=vs.map some++List.replicate (N.length - vs.length) none
def jt (CX:CXT) (P:Program) (w:World) (K:PySem.W.Frag) (mg:Str→Option Value) (base:Heap) (N:List Str) (qual:Str) (scope:Scope) (f:Addr) (cd:Value) (A:Around) (outer:List Env) (s:Shared) (H:Hp) (E:XK):Cx where
 prog:=P
 w:=w
 K:=K
 mg:=mg
 base:=base
 A:=A.deeper (envOfC qual scope s.heap.objs.size f cd)
 N:=N
 s₀:=s
 H₀:=H
 env:=envOfC qual scope s.heap.objs.size f cd
 outer:=outer
 stack:=envOfC qual scope s.heap.objs.size f cd::outer
 ex:=[]
 calm:=true
 fn:=fun _=>true
 pn:=[]
 xe:=fun e s'=>wpAny (model P w) (A.deeper (envOfC qual scope s.heap.objs.size f cd)) (leaving (envOfC qual scope s.heap.objs.size f cd) e) (fun _ s''=>CX outer H s E e s'') (fun e' s''=>CX outer H s E e' s'') s'
theorem qB {sc:Scope}{n:Nat}{x:Str} (h:sc.names.lookup x=some .cell):∃ c,(cellsFrom n sc.names []).lookup x=some c:=by
 have q:=PySem.W.cellsFrom_some sc.names n [] (.inl h)
 exact Option.isSome_iff_exists.mp q
theorem uo {CX:CXT}{P:Program}{w:World}{K:PySem.W.Frag}{mg:Str→Option Value}{base:Heap}{N ps:List Str}{qual:Str}{scope:Scope}{f:Addr}{cd:Value}{A:Around}{outer:List Env}{s s1:Shared}{H:Hp}{E:XK}{us:List Value}{vs:List V}
  (S:ax N ps scope) (hd:A.handled=none) (e0:Env0 P w K mg base A outer s H) (hl:vs.length=ps.length) (r:Vals vs us)
  (x:InCallC s s.heap.objs.size (bindL (envOfC qual scope s.heap.objs.size f cd).kindOf (ps.zip us) fun _=>none) (cellsFrom (s.heap.objs.size+1) scope.names []) (bindC (envOfC qual scope s.heap.objs.size f cd).kindOf (ps.zip us) fun _=>none) s1) :
  Inv (jt CX P w K mg base N qual scope f cd A outer s H E) [] (start N vs) H s1:=by
 have U:ps.length≤N.length:=by have:=congrArg List.length S.pre;rw [vj] at this;omega
 obtain ⟨h1,tk,rfl,J⟩:=x.done
 have F:∀ b:Addr,b∉(jt CX P w K mg base N qual scope f cd A outer s H E).ex:=fun b z=>absurd (show b∈([]:List Addr) from z) (by simp)
 refine ⟨⟨e0.mod,S.kind,rfl,rfl,va _,fun y z c h1 h2=>?_,fun y hy=>?_,fun y c _ h=>?_,fun _=>hd,Around.frames_deeper e0.frames,.inr ⟨rfl,rfl⟩,fun b z=>absurd z (F b),e0.bs,e0.bsz,fun b _ _=>F b,fun b z=>absurd z (F b),e0.funs,e0.frf⟩,
  rfl,e0.bare,Un.kept J,⟨_,x.toInCall.ns,fun i y v h1 h2 h3=>?_⟩,fun y c h=>⟨_,x.cell y c h⟩,e0.hok.fresh (va _),fun y c h=>?_,fun p hp=>absurd (show p∈([]:List (Addr×Obj)) from hp) (by simp),e0.hok.kept J,?_⟩
 ·exact name_of_addr x.apart (wj h1) (wj h2)
 ·have hy:scope.names.lookup y=some .cell∨scope.names.lookup y=some .free:=hy
  rcases hy with hy | hy
  ·exact qB hy
  ·exact absurd rfl (S.nofree _ (wj hy))
 ·exact Nat.le_of_lt (x.above y c (wj h))
 ·have hi:i<vs.length:=by
   unfold start at h2
   by_cases hi:i<vs.length
   ·exact hi
   ·rw [vR (by simpa using hi)] at h2
    rw [List.getElem?_replicate] at h2
    split at h2<;>cases h2
  have O:vs[i]?=some v:=by
   unfold start at h2
   rw [vS (by simpa using hi),u5] at h2
   cases e:vs[i]? with
   | none=>rw [e] at h2;cases h2
   | some a=>rw [e] at h2;cases h2;rfl
  obtain ⟨u,I,R⟩:=r.get O
  have hp:ps[i]?=some y:=by
   rw [← S.pre,List.getElem?_take_of_lt (by omega)];exact h1
  have G:ps.Nodup:=by rw [← S.pre];exact S.nd.sublist (List.take_sublist _ _)
  refine ⟨u,R,?_⟩
  rcases S.par y (u4 hp) with k | k
  ·exact .inl ⟨k,oq G hp I k⟩
  ·obtain ⟨c,e⟩:=qB (n:=s.heap.objs.size+1) k
   refine .inr ⟨.inl k,c,e,?_⟩
   have q:=x.cell y c e
   rw [ow G hp I (by show scope.names.lookup y≠_;rw [k];decide)] at q
   exact q
 ·exact e0.hok.fresh (Nat.le_of_lt (x.above y c (wj h)))
 ·unfold start
  show _=N.length
  rw [u7,lH,vK]
  omega
theorem fn_of {CX:CXT}{P:Program}{w:World}{K:PySem.W.Frag}{mg:Str→Option Value}{base:Heap}{k:Nat}{f:Addr}{name qual:Str}{params:Arguments}{body:List Stmt}{scope:Scope}{dV kV doc pm cdv ct oc:Value}{an od:Option Addr}
  {osl:Array (Option Value)}{N ps:List Str}{sp:Sp} (lk:K.lookup f=some ⟨oc,od,.func (PySem.W.fnOf name qual params body scope dV kV doc pm an cdv ct),osl⟩) (hcd:PySem.W.codeIn K cdv qual=true) (S:ax N ps scope)
  (len:∀ vs H Q E,sp vs H Q E→vs.length=ps.length)
  (hbody:∀ (A:Around) (outer:List Env) (s:Shared) (H:Hp) (vs:List V) (Q:VK) (E:XK),Room k (A.deeper (envOfC qual scope s.heap.objs.size f cdv))→sp vs H Q E →
   ∃ t,PSs (jt CX P w K mg base N qual scope f cdv A outer s H E) body t∧t { nx:=fun _ H'=>Q .non H',rt:=Q } (start N vs) H) :
  ju P w K mg base CX (k+1) f (PySem.W.fnOf name qual params body scope dV kV doc pm an cdv ct) ps sp:=by
 refine ⟨len,fun A outer s H args us vs Q E hr F hb r O=>?_⟩
 have hl:=len _ _ _ _ O
 have U:K.In s.heap:=F.mod.kin.keeps fun b o e=>(F.bs b o e).1
 have Z:s.heap.NoLimit:=F.mod.nolimit.keeps fun b o e=>(F.bs b o e).1
 have G:∀ y∈ps.zip us,scope.names.lookup y.1=some .local∨(scope.names.lookup y.1=some .cell∧((cellsFrom (s.heap.objs.size+1) scope.names []).lookup y.1).isSome=true):=fun ⟨n,v⟩ hy=>by
  rcases S.par n (List.of_mem_zip hy).1 with q | q
  ·exact .inl q
  ·exact .inr ⟨q,PySem.W.cellsFrom_some _ _ _ (.inl q)⟩
 refine codeAny_call_function hr.depth (U _ _ lk) rfl S.co S.gen rfl (PySem.W.codeRec_of U hcd) (hb _ _ _ _ ?_)
 refine wpAny_newFunctionEnv_cells S.kind G fun as he Y x=>?_
 subst he
 refine ⟨Z.keeps x.toInCall.keep,codeAny_func ?_⟩
 obtain ⟨t,ht,hq⟩:=hbody A outer s H vs Q E (hr.deeper _) O
 have I:Inv (jt CX P w K mg base N qual scope f cdv A outer s H E) [] (start N vs) H Y:=uo S hr.hd F hl r x
 refine wpAny_mono (ht [] Y (start N vs) H _ I hq) (fun fl s' hs=>?_) fun e s' hs=>hs
 have fin:∀ {σ':St}{H':Hp}{v:V}{u:Value},Inv (jt CX P w K mg base N qual scope f cdv A outer s H E) [] σ' H' s'→RelV v u→Q v H'→CE outer P w H s Q u s' :=
  fun {σ' H' v u} J R q=>⟨v,H',J.os,J.bare,J.base,J.hok,R,q⟩
 cases fl with
 | ret u =>
  obtain ⟨v,σ',H',J,R,q⟩:=hs
  exact fin J R q
 | next =>
  obtain ⟨σ',H',J,q⟩:=hs
  exact fin (v:=V.non) (u:=Value.none) J rfl q
 | brk =>
  obtain ⟨_,_,_,q⟩:=hs
  exact False.elim q
 | cont =>
  obtain ⟨_,_,_,q⟩:=hs
  exact False.elim q
end L2
namespace L2
open PySem PySem.Spec PyProof.Rows
section
variable {X:Cx}{x:Str}{p pos:Pos}{e:Expr}{es:List Expr}{t:TA}{id T:String}{r:List V→Hp→VK→Prop}
def tCB (r:List V→Hp→VK→Prop) (t:TA):TE:=fun σ H Q=>t σ H fun vs H1=>r vs H1 Q
theorem aK (hc:CallR X (.builtin id) r) (hg:Gl X x) (hm:X.mg x=none) (hv:bootBuiltins x=some (.builtin id)) (ha:PA X (e::es) t) (hn:x≠"__name__":=by decide) (hdb:(x == ("__debug__":Str))=false:=by decide)
  (he:starEach (e::es) X.env=(false,eval e X.env)::starEach es X.env:=by rfl) (hpl:(backTo pos (starEach es X.env)).any (·.1)=false:=by rfl):PE X (.Call (.Name x p) (e::es) [] pos) (tCB r t):=by
 intro pins s σ H Q I h
 refine wpAny_Call_Name_kw (eX I hg hm hv ?_ hn hdb)
 exact PyProof.Rows.callWith_builtin1 (thn (ha pos pins s σ H _ I h) fun G F ⟨vs,H1,q,O,J⟩=>hc pins F σ H1 vs G Q q O J) he hpl
theorem dS (hc:CallR X (.type T) r) (hg:Gl X x) (hm:X.mg x=none) (hv:bootBuiltins x=some (.type T)) (ha:PA X (e::es) t) (hn:x≠"__name__":=by decide) (hdb:(x == ("__debug__":Str))=false:=by decide)
  (he:starEach (e::es) X.env=(false,eval e X.env)::starEach es X.env:=by rfl) (hpl:(backTo pos (starEach es X.env)).any (·.1)=false:=by rfl):PE X (.Call (.Name x p) (e::es) [] pos) (tCB r t):=by
 intro pins s σ H Q I h
 refine wpAny_Call_Name_kw (eX I hg hm hv ?_ hn hdb)
 exact vM (thn (ha pos pins s σ H _ I h) fun G F ⟨vs,H1,q,O,J⟩=>hc pins F σ H1 vs G Q q O J) he hpl
end
end L2
namespace HT
open PySem PyProof.Rows
section
open PySem.SeqAt
open PySem.AutoSeq1 (wpAny_loadPart')
open PySem.MeetsSeq PySem.MeetsSeq2 PySem.MeetsSeq3
end
section
variable {prog:Program}{w:World}{A:Around}{E:Value→Shared→Prop}{s:Shared}
def sIx (n d:Nat):Option Int→Nat
 | none=>d
 | some v=>if v<0 then (v+(n:Int)).toNat else min v.toNat n
theorem sIx_none (n d:Nat):sIx n d none=d:=rfl
theorem sIx_nat (n d k:Nat):sIx n d (some (k:Int))=min k n:=by
 show (if (k:Int)<0 then ((k:Int)+(n:Int)).toNat else min (k:Int).toNat n)=min k n
 rw [if_neg (by omega),Int.toNat_natCast]
theorem sIx_le (n d:Nat) (hd:d≤n) (o:Option Int):sIx n d o≤n:=by
 cases o with
 | none=>exact hd
 | some v =>
  show (if v<0 then (v+(n:Int)).toNat else min v.toNat n)≤n
  by_cases hv:v<0
  ·rw [if_pos hv];omega
  ·rw [if_neg hv];exact Nat.min_le_right _ _
theorem uJ (v:Int) (n d:Nat):(if v<0 then max (v+(n:Int)) 0 else min v (n:Int))=((sIx n d (some v):Nat):Int):=by
 show (if v<0 then max (v+(n:Int)) 0 else min v (n:Int))=(((if v<0 then (v+(n:Int)).toNat else min v.toNat n):Nat):Int)
 by_cases hv:v<0
 ·simp only [if_pos hv];omega
 ·simp only [if_neg hv];omega
theorem rZ (lo hi:Option Int) (n:Nat):Builtin.Slice.sliceAdjust lo hi 1 (n:Int)=(((sIx n 0 lo:Nat):Int),((sIx n n hi:Nat):Int)):=by
 have h1:¬ ((1:Int)<0):=by omega
 unfold Builtin.Slice.sliceAdjust
 simp only [h1,if_false]
 refine Prod.ext ?_ ?_
 ·cases lo with
  | none=>rfl
  | some v=>exact uJ v n 0
 ·cases hi with
  | none=>rfl
  | some v=>exact uJ v n n
theorem rf (i j:Nat):Builtin.Slice.slicePlaces (i:Int) (j:Int) 1=j - i:=by
 unfold Builtin.Slice.slicePlaces
 have h1:(1:Int) > 0:=by omega
 simp only [h1,if_true,Int.ediv_one]
 split<;>omega
theorem kN {v:Value}{o:Option Int}{Q:Option Int→Shared→Prop} (p:IsPart v o) (h:Q o s):wpAny (model prog w) A (Builtin.Slice.slicePartIndex v) Q E s:=by
 cases p with
 | none=>exact slicePart_none h
 | int i t=>exact slicePart_int h
theorem ji {sl:Addr}{vl vu:Value}{lo hi:Option Int}{n:Nat}{Q:Int×Int×Nat→Shared→Prop} (hs:s.heap.IsSliceOf sl vl vu .none) (pl:IsPart vl lo) (pu:IsPart vu hi)
  (h:Q (((sIx n 0 lo:Nat):Int),1,sIx n n hi - sIx n 0 lo) s):wpAny (model prog w) A (Builtin.Slice.sliceApplied (.ref sl) (pure (n:Int))) Q E s:=by
 obtain ⟨os,q,G,F⟩:=id hs
 unfold Builtin.Slice.sliceApplied Builtin.Slice.sliceFields
 refine wpAny_bind (wpAny_bind (wpAny_field q F (x:=vl) rfl (wpAny_bind (wpAny_field q F (x:=vu) rfl (wpAny_bind (wpAny_field q F (x:=.none) rfl (wpAny_pure ?_)))))))
 refine wpAny_bind (slicePart_none ?_)
 show wpAny _ _ (if ((1:Int) == 0)=true then _ else _) _ _ s
 rw [if_neg (by decide)]
 refine wpAny_bind (kN pl (wpAny_bind (kN pu (wpAny_bind (wpAny_pure ?_)))))
 show wpAny _ _ (match Builtin.Slice.sliceAdjust lo hi 1 (n:Int) with | (lo,hi)=>pure (lo,(1:Int),Builtin.Slice.slicePlaces lo hi 1)) _ _ s
 rw [rZ lo hi n]
 show wpAny _ _ (pure (((sIx n 0 lo:Nat):Int),(1:Int),Builtin.Slice.slicePlaces ((sIx n 0 lo:Nat):Int) ((sIx n n hi:Nat):Int) 1)) _ _ s
 rw [rf]
 exact wpAny_pure h
theorem pick_gen (xs:Array Value) (i k:Nat):((List.range k).filterMap fun (m:Nat)=>xs[((i:Int)+(m:Int)*1).toNat]?).toArray=((xs.toList.drop i).take k).toArray:=by
 have e:(fun (m:Nat)=>xs[((i:Int)+(m:Int)*1).toNat]?)=fun m=>xs[i+m]?:=by
  funext m
  have:((i:Int)+(m:Int)*1).toNat=i+m:=by omega
  rw [this]
 rw [e]
 have:=pick_run xs i k
 rw [List.filterMap_map] at this
 have q:((fun x=>xs[x]?) ∘ fun x=>i+x)=fun m=>xs[i+m]?:=rfl
 rw [q] at this
 rw [this]
theorem getItem_tuple_cut {t sl:Addr}{items:Array Value}{vl vu:Value}{lo hi:Option Int}{Q:Value→Shared→Prop} (ht:IsTup s.heap t items) (hs:s.heap.IsSliceOf sl vl vu .none) (pl:IsPart vl lo) (pu:IsPart vu hi)
  (hw:¬ (sIx items.size 0 lo=0∧sIx items.size items.size hi=items.size))
  (h:Q (.ref s.heap.objs.size) { s with heap:=s.heap.push { cls:=.type "tuple",data:=.seq ((items.toList.drop (sIx items.size 0 lo)).take (sIx items.size items.size hi - sIx items.size 0 lo)).toArray } })
  (hsz:items.size≤sizeLine):wpAny (model prog w) A (getItem (.ref t) (.ref sl)) Q E s:=by
 have F:sizeOk (.seq ((items.toList.drop (sIx items.size 0 lo)).take (sIx items.size items.size hi - sIx items.size 0 lo)).toArray):=by
  show ((items.toList.drop (sIx items.size 0 lo)).take (sIx items.size items.size hi - sIx items.size 0 lo)).toArray.size≤sizeLine
  rw [vg,vj,wt,wg]
  omega
 have U:sIx items.size items.size hi≤items.size:=sIx_le _ _ (va _) hi
 obtain ⟨os,I,J,R⟩:=id hs
 have O:s.TypeIs (.ref sl) "slice":=⟨os,I,J⟩
 unfold getItem
 try with_reducible refine wpAny_holding ?_
 first | refine wpAny_bind (wpAny_pure ?_) | skip
 refine wpAny_bind (wpAny_sequenceKey ht.typeIs (by decide) ?_)
 refine wpAny_bind (wpAny_callSpecial?_slot (name:=Str.ofString "__getitem__") ht.typeIs PyProof.Rows.slot_tuple_getitem
  (wpAny_call_entry PyProof.Rows.slot_tuple_getitem ht.typeIs entry_tuple_getitem ?_ (args_tuple_getitem _ _)))
 show wpAny _ _ (Builtin.Tuple.tupleItemsOf (.ref t) >>= _) _ _ s
 refine wpAny_bind (tupleItemsOf_ ht ?_)
 refine wpAny_bind (wpAny_typeOf O ?_)
 rw [if_pos (by decide)]
 refine wpAny_bind (ji hs pl pu ?_)
 have G:¬ ((((sIx items.size 0 lo:Nat):Int) == 0 && (1:Int) == 1 && (sIx items.size items.size hi - sIx items.size 0 lo) == items.size)=true):=by
  intro q
  rw [vx,vx] at q
  have W:((sIx items.size 0 lo:Nat):Int)=0:=eq_of_beq q.1.1
  have Y:sIx items.size items.size hi - sIx items.size 0 lo=items.size:=eq_of_beq q.2
  exact hw ⟨by omega,by omega⟩
 show wpAny _ _ (if (((sIx items.size 0 lo:Nat):Int) == 0 && (1:Int) == 1 && (sIx items.size items.size hi - sIx items.size 0 lo) == items.size)=true then _ else _) _ _ s
 rw [if_neg G,pick_gen]
 first
  | exact wpAny_bind (m:=Builtin.Tuple.tupleExact _) (wpAny_newObj_type (wpAny_pure ⟨_,rfl,wpAny_pure h⟩) F)
  | exact wpAny_bind (m:=Builtin.Tuple.tupleExact _) (wpAny_newObj_type (wpAny_bind (wpAny_pure (wpAny_pure ⟨_,rfl,wpAny_pure h⟩))) F)
  | exact wpAny_bind (wpAny_bind (m:=Builtin.Tuple.tupleExact _) (wpAny_newObj_type (wpAny_pure (wpAny_pure ⟨_,rfl,wpAny_pure h⟩)) F))
  | exact wpAny_bind (wpAny_bind (m:=Builtin.Tuple.tupleExact _) (wpAny_newObj_type (wpAny_pure ⟨_,rfl,wpAny_pure h⟩) F))
end
end HT
namespace L2
open PySem PySem.Spec PyProof.Rows
abbrev TO:=St→Hp→(Option Int→Hp→Prop)→Prop
def PO (X:Cx) (e:Option Expr) (t:TO):Prop :=
 ∀ (pins:List (Addr×Obj)) (s:Shared) (σ:St) (H:Hp) (Q:Option Int→Hp→Prop),Inv X pins σ H s→t σ H Q →
  wpAny (model X.prog X.w) X.A (evalPart e X.env) (fun u s'=>∃ o H',Inv X pins σ H' s'∧IsPart u o∧Q o H') X.xe s
def tNoPart:TO:=fun _ H Q=>Q none H
def tPart (t:TE):TO:=fun σ H Q=>t σ H fun x H1=>∃ i,x=.int i∧Q (some i) H1
theorem dM {ns:List Int}:∀ {us:List Value},Vals (ns.map V.int) us→IntsAre us ns:=by
 induction ns with
 | nil=>intro us r;rw [List.map_nil] at r;cases r;exact .nil
 | cons n ns ih =>
  intro us r
  rw [vV] at r
  cases r with
  | cons r1 r2 =>
   obtain ⟨t,e⟩:=r1
   subst e
   exact .cons n t (ih r2)
section
variable {X:Cx}{e:Expr}{te:TE}{lo hi:Option Expr}{tl th:TO}{pos p2:Pos}
theorem fD:PO X none tNoPart:=by
 intro pins s σ H Q I h
 rw [evalPart_none]
 exact wpAny_pure ⟨none,H,I,.none,h⟩
theorem dQ (h:PE X e te):PO X (some e) (tPart te):=by
 intro pins s σ H Q I hw
 rw [evalPart_some]
 refine thn (h pins s σ H _ I hw) fun u s1 ⟨x,H1,I1,r1,q1⟩=>?_
 obtain ⟨i,rfl,q⟩:=q1
 obtain ⟨t,rfl⟩:=r1
 exact ⟨some i,H1,I1,.int i t,q⟩
def SlR (X:Cx) (r:V→Option Int→Option Int→Hp→VK→Prop):Prop :=
 ∀ (pins:List (Addr×Obj)) (s:Shared) (σ:St) (H:Hp) (x:V) (v vl vu:Value) (lo hi:Option Int) (sl:Addr) (Q:VK),Inv X pins σ H s→RelV x v→s.heap.IsSliceOf sl vl vu .none→IsPart vl lo→IsPart vu hi→r x lo hi H Q →
  ∃ T id,typeLookup (.type T) "__getitem__"=pure (some (.builtin id))∧s.TypeIs v T∧wpAny (model X.prog X.w) X.A (getItem v (.ref sl)) (EP X pins σ Q) X.xe s
def tSl (r:V→Option Int→Option Int→Hp→VK→Prop) (te:TE) (tl th:TO):TE:=fun σ H Q=>te σ H fun x H1=>tl σ H1 fun l H2=>th σ H2 fun u H3=>r x l u H3 Q
theorem df {r:V→Option Int→Option Int→Hp→VK→Prop} (hr:SlR X r) (he:PE X e te) (hl:PO X lo tl) (hu:PO X hi th):PE X (.Subscript e (.Slice lo hi none p2) pos) (tSl r te tl th):=by
 intro pins s σ H Q I h
 refine Subscript_ (thn (he pins s σ H _ I h) fun v s1 ⟨x,H1,I1,r1,W⟩=>?_)
 refine wpAny_Slice (thn (hl pins s1 σ H1 _ I1 W) fun J Z ⟨l,H2,I2,pl,Y⟩=>thn (hu pins Z σ H2 _ I2 Y) fun G F ⟨u,O,I3,U,q3⟩=>?_)
 rw [evalPart_none]
 refine wpAny_pure ?_
 have I4:Inv X pins σ O { F with heap:=F.heap.push { cls:=.type "slice",data:=.fields #[J,G,.none] } }:=I3.kept (t':=F.toks) fun b ob q=>Heap.get?_push_of_some _ q
 obtain ⟨T,id,hT,R,hg⟩:=hr pins { F with heap:=F.heap.push { cls:=.type "slice",data:=.fields #[J,G,.none] } } σ O x v J G l u F.heap.objs.size Q I4 r1 (Heap.IsSliceOf.new ..) pl U q3
 show wpAny (model X.prog X.w) X.A (subscriptTail e (.Slice lo hi none p2) v (.ref F.heap.objs.size)) (EP X pins σ Q) X.xe { F with heap:=F.heap.push { cls:=.type "slice",data:=.fields #[J,G,.none] } }
 exact tail_any (ops:=[.ref F.heap.objs.size,v]) R hT hg (by with_unfolding_all rfl)
def kL (xs:List V) (lo hi:Option Int):List V:=(xs.drop (HT.sIx xs.length 0 lo)).take (HT.sIx xs.length xs.length hi - HT.sIx xs.length 0 lo)
theorem ki (xs:List V) (lo hi:Option Int):(kL xs lo hi).length≤xs.length:=by
 unfold kL
 rw [vj,wt]
 omega
def rSlT (K:PySem.W.Frag):V→Option Int→Option Int→Hp→VK→Prop:=fun x lo hi H Q=>∃ a xs,x=.ref a∧SqT K H a xs ∧
 ¬ (HT.sIx xs.length 0 lo=0∧HT.sIx xs.length xs.length hi=xs.length)∧∀ p,H p=none→Q (.ref p) (upd H p (.tup (kL xs lo hi)))
theorem sl_tup:SlR X (rSlT X.K):=by
 intro pins s σ H x v vl vu lo hi Z Q I R hs Y O h
 obtain ⟨a,xs,rfl,U,W,q⟩:=h
 cases R
 obtain ⟨J,r,G,hz⟩:=I.tuple U
 have F:J.toArray.size=xs.length:=by rw [vg];exact r.length.symm
 refine ⟨"tuple",_,PyProof.Rows.slot_tuple_getitem.lookup,G.typeIs,?_⟩
 refine HT.getItem_tuple_cut G hs Y O (by rw [F];exact W) ?_ (by rw [F];exact hz)
 rw [F]
 refine ⟨.ref s.heap.objs.size,_,I.laid (t':=s.toks) (o:=.tup (kL xs lo hi)) (fun b ob q=>Heap.get?_push_of_some _ q) (va _) ?_,rfl,q _ (I.hok.fresh (va _))⟩
 exact ⟨vG (ki xs lo hi) hz,_,(r.drop (HT.sIx xs.length 0 lo)).take (HT.sIx xs.length xs.length hi - HT.sIx xs.length 0 lo),IsTup.new _ _⟩
end
end L2
namespace L2
open PySem PySem.Spec PyProof.Rows
def ixN (n:Nat) (i:Int):Option Nat:=if 0≤i then (if i<n then some i.toNat else none) else if -(n:Int)≤i then some (i+n).toNat else none
def atI {α:Type} (xs:List α) (i:Int):Option α:=(ixN xs.length i).bind fun j=>xs[j]?
theorem pe {n:Nat}{i:Int}{j:Nat} (h:ixN n i=some j):seqIndex? i n=some j∧j<n∧-(n:Int)≤i∧i<n:=by
 unfold ixN at h
 by_cases q:0≤i
 ·rw [if_pos q] at h
  by_cases h1:i<n
  ·rw [if_pos h1] at h
   have e:i.toNat=j:=vz h
   exact ⟨by rw [seqIndex_of q h1,e],by omega,by omega,h1⟩
  ·rw [if_neg h1] at h;cases h
 ·rw [if_neg q] at h
  by_cases h1 : -(n:Int)≤i
  ·rw [if_pos h1] at h
   have e:(i+n).toNat=j:=vz h
   exact ⟨by rw [seqIndex_neg (by omega) h1,e],by omega,h1,by omega⟩
  ·rw [if_neg h1] at h;cases h
theorem uT {α:Type}{xs:List α}{i:Int}{v:α} (h:atI xs i=some v):∃ j,seqIndex? i xs.length=some j∧xs[j]?=some v∧j<xs.length∧-(xs.length:Int)≤i∧i<xs.length:=by
 unfold atI at h
 cases e:ixN xs.length i with
 | none=>rw [e] at h;cases h
 | some j =>
  rw [e] at h
  obtain ⟨h1,h2,h3,h4⟩:=pe e
  exact ⟨j,h1,h,h2,h3,h4⟩
theorem kn {α:Type}{xs:List α}{j:Nat}{v:α} (h:xs[j]?=some v):atI xs (j:Int)=some v:=by
 have hj:j<xs.length:=(u3.mp h).1
 have e:ixN xs.length (j:Int)=some j:=by
  unfold ixN
  rw [if_pos (by omega),if_pos (by omega)];simp
 unfold atI;rw [e];exact h
def PlainIx (b:Expr):Prop:=∀ o i,subscripted b false o i=operate [o,i] (getItem o i)
def IxR (X:Cx) (r:R2):Prop :=
 ∀ (value slice:Expr) (pins:List (Addr×Obj)) (s:Shared) (σ:St) (H:Hp) (x y:V) (v u:Value) (Q:VK),Inv X pins σ H s→RelV x v→RelV y u→r x y H Q →
  subscripted slice false v u=operate [v,u] (getItem v u)→wpAny (model X.prog X.w) X.A (subscriptTail value slice v u) (EP X pins σ Q) X.xe s
def MtR (X:Cx) (id:String) (r:V→List V→Hp→VK→Prop):Prop :=
 ∀ (pins:List (Addr×Obj)) (s:Shared) (σ:St) (H:Hp) (x:V) (xs:List V) (v:Value) (us:List Value) (Q:VK),Inv X pins σ H s→RelV x v→Vals xs us→r x xs H Q →
  wpAny (model X.prog X.w) X.A (call (.builtin id) (v::us)) (EP X pins σ Q) X.xe s
section
variable {X:Cx}{a b:Expr}{ta tb:TE}{pos:Pos}
theorem aO {r:R2} (hr:IxR X r) (ha:PE X a ta) (hb:PE X b tb) (hs:PlainIx b):PE X (.Subscript a b pos) (tOp r ta tb):=by
 intro pins s σ H Q I h
 exact Subscript_ (binT ha hb I h fun v u s2 x y H2 I2 rx ry q=>hr a b pins s2 σ H2 x y v u Q I2 rx ry q (hs _ _))
def rIxL (K:PySem.W.Frag):R2:=fun x y H Q=>∃ p xs i v,x=.ref p∧y=.int i∧SqL K H p xs∧atI xs i=some v∧Q v H
def rIxT (K:PySem.W.Frag):R2:=fun x y H Q=>∃ p xs i v,x=.ref p∧y=.int i∧SqT K H p xs∧atI xs i=some v∧Q v H
theorem aP:IxR X (rIxL X.K):=by
 intro value W pins s σ H x y v u Q I Z Y h hs
 obtain ⟨p,xs,i,z,rfl,rfl,hq,he,q⟩:=h
 cases Z
 obtain ⟨t,rfl⟩:=Y
 obtain ⟨J,r,G,hz⟩:=I.list hq
 obtain ⟨j,h1,h2,h3,h4,h5⟩:=uT he
 obtain ⟨w,O,R⟩:=r.get h2
 have hl:=r.length
 have hn:=qh
 have fin:EP X pins σ Q w s:=⟨z,H,I,R,q⟩
 by_cases U:0≤i
 ·have F:i.toNat=j:=by
   rw [seqIndex_of U h5] at h1
   exact vz h1
  exact item_listR G.isList U (by omega) (by rw [F];simpa using O) fin hs
 ·have F:(i+(J.toArray.size:Int)).toNat=j:=by
   rw [seqIndex_neg (by omega) h4] at h1
   rw [vg,← hl]
   exact vz h1
  exact subscriptTail_builtinR (x:=w) G.isList.typeIs slot_list_getitem.lookup
   (wpAny_getItem_list_neg (Q:=fun r s'=>r=w∧EP X pins σ Q r s') G.isList (by omega) (by rw [vg]<;>omega) (by omega) (by rw [F];simpa using O) ⟨rfl,fin⟩) hs
theorem aZ:IxR X (rIxT X.K):=by
 intro value J pins s σ H x y v u Q I R O h hs
 obtain ⟨p,xs,i,z,rfl,rfl,Y,W,q⟩:=h
 cases R
 obtain ⟨t,rfl⟩:=O
 obtain ⟨Z,r,F,hz⟩:=I.tuple Y
 obtain ⟨j,h1,h2,h3,h4,h5⟩:=uT W
 obtain ⟨w,U,G⟩:=r.get h2
 have hl:=r.length
 have hn:=qh
 have fin:EP X pins σ Q w s:=⟨z,H,I,G,q⟩
 exact subscriptTail_builtinR (x:=w) F.typeIs slot_tuple_getitem.lookup
  (getItem_tuple (j:=j) (Q:=fun r s'=>r=w∧EP X pins σ Q r s') F (by omega) (by omega) (by rw [vg,← hl];exact h1) (by simpa using U) ⟨rfl,fin⟩) hs
theorem rH (its:List Value) (n j:Nat) (u:Value):Obj.mapSeq (·.setIfInBounds j u) { cls:=.type "list",data:=.seq its.toArray n }={ cls:=.type "list",data:=.seq (its.set j u).toArray n }:=by
 simp [Obj.mapSeq]
theorem Inv.lst {pins:List (Addr×Obj)}{σ:St}{H:Hp}{s:Shared}{p:Addr}{xs:List V} (I:Inv X pins σ H s) (h:H p=some (.lst xs)) :
  ∃ (its:List Value) (n:Nat),Vals xs its∧s.heap.get? p=some { cls:=.type "list",data:=.seq its.toArray n }∧xs.length≤sizeLine:=by
 obtain ⟨z,its,n,r,e⟩:=I.hok p _ h
 exact ⟨its,n,r,e,z⟩
theorem Inv.lstUpd {pins:List (Addr×Obj)}{σ:St}{H:Hp}{s:Shared}{p:Addr}{xs ys:List V}{its its':List Value}{n n':Nat}{f:Obj→Obj} (I:Inv X pins σ H s) (h:H p=some (.lst xs))
  (ho:s.heap.get? p=some { cls:=.type "list",data:=.seq its.toArray n }) (hf:f { cls:=.type "list",data:=.seq its.toArray n }={ cls:=.type "list",data:=.seq its'.toArray n' }) (r:Vals ys its') (hz:ys.length≤sizeLine) (t:Nat) :
  Inv X pins σ (upd H p (.lst ys)) { s with heap:=s.heap.update p f,toks:=t }:=by
 have e:(s.heap.update p f).get? p=some { cls:=.type "list",data:=.seq its'.toArray n' }:=by
  rw [Heap.get?_update_self f ho (by rw [hf]<;>rfl),hf]
 refine I.write (x:=p) (e:=p) (by rw [h];trivial) (.inl rfl) (fun b u hb q=>(Heap.get?_update_other _ _ (Ne.symm hb)).trans q) ⟨_,e⟩ ?_
 exact ⟨hz,its',n',r,e⟩
def rSetL:V→V→V→Hp→(Hp→Prop)→Prop:=fun o i v H Q=>∃ p xs k j,o=.ref p∧i=.int k∧H p=some (.lst xs)∧ixN xs.length k=some j∧Q (upd H p (.lst (xs.set j v)))
theorem ig:PSet X rSetL:=by
 intro pins s σ H o i v ov iv u Q I Z ri Y h
 obtain ⟨p,xs,k,j,rfl,rfl,hp,hj,q⟩:=h
 cases Z
 obtain ⟨t,rfl⟩:=ri
 obtain ⟨F,n,r,J,hz⟩:=I.lst hp
 obtain ⟨h1,h2,h3,U⟩:=pe hj
 have hl:=r.length
 have hn:=qh
 have R:Inv X pins σ (upd H p (.lst (xs.set j v))) { s with heap:=s.heap.update p (Obj.mapSeq (·.setIfInBounds j u)) } :=
  I.lstUpd hp J (rH F n j u) (r.set Y j) (by rw [List.length_set];exact hz) s.toks
 by_cases O:0≤k
 ·have G:k.toNat=j:=by
   rw [seqIndex_of O U] at h1
   exact vz h1
  exact PySem.W.ki_setAt J O (by omega) (by rw [vg,← hl];exact U) (by rw [G];exact ⟨_,R,q⟩)
 ·have G:(k+(F.toArray.size:Int)).toNat=j:=by
   rw [seqIndex_neg (by omega) h3] at h1
   rw [vg,← hl]
   exact vz h1
  exact PySem.W.ki_setBack J (by omega) (by rw [vg,← hl];exact h3) (by omega) (by rw [G];exact ⟨_,R,q⟩)
theorem m5 (lo hi:Option Int) (n:Nat):(sliceBounds lo hi none n).1=((HT.sIx n 0 lo:Nat):Int)∧(sliceBounds lo hi none n).2.1=((HT.sIx n n hi:Nat):Int)∧(sliceBounds lo hi none n).2.2=1:=by
 refine ⟨?_,?_,rfl⟩
 ·cases lo with
  | none=>simp [sliceBounds,HT.sIx]
  | some i =>
   simp only [sliceBounds,HT.sIx,Option.getD_none,show (1:Int) > 0 by decide,if_true]
   by_cases h:i<0
   ·simp only [h,if_true]<;>omega
   ·simp only [h,if_false]<;>omega
 ·cases hi with
  | none=>simp [sliceBounds,HT.sIx]
  | some i =>
   simp only [sliceBounds,HT.sIx,Option.getD_none,show (1:Int) > 0 by decide,if_true]
   by_cases h:i<0
   ·simp only [h,if_true]<;>omega
   ·simp only [h,if_false]<;>omega
theorem lR (its:List Value) (lo hi:Option Int):slicePick its.toArray lo hi none=((its.drop (HT.sIx its.length 0 lo)).take (HT.sIx its.length its.length hi - HT.sIx its.length 0 lo)).toArray:=by
 obtain ⟨h1,h2,h3⟩:=m5 lo hi its.toArray.size
 unfold slicePick
 rw [h1,h2,h3]
 simp only [sliceRange_one,pick_run,vg]<;>rfl
def rSlL (K:PySem.W.Frag):V→Option Int→Option Int→Hp→VK→Prop:=fun x lo hi H Q=>∃ a xs,x=.ref a∧SqL K H a xs∧∀ p,H p=none→Q (.ref p) (upd H p (.lst (kL xs lo hi)))
theorem e9:SlR X (rSlL X.K):=by
 intro pins s σ H x v vl vu lo hi Y Q I O hs U J h
 obtain ⟨a,xs,rfl,R,q⟩:=h
 cases O
 obtain ⟨W,r,G,hz⟩:=I.list R
 have F:=r.length
 refine ⟨"list",_,slot_list_getitem.lookup,G.isList.typeIs,?_⟩
 refine wpAny_getItem_list_slice G.isList hs U J .none (by simp) ?_ (by rw [vg]<;>omega)
 rw [lR,← F]
 refine ⟨.ref s.heap.objs.size,_,I.laid (t':=s.toks) (o:=.lst (kL xs lo hi)) (fun b Z q=>Heap.get?_push_of_some _ q) (va _) ?_,rfl,q _ (I.hok.fresh (va _))⟩
 exact ⟨vG (ki xs lo hi) hz,_,0,(r.drop (HT.sIx xs.length 0 lo)).take (HT.sIx xs.length xs.length hi - HT.sIx xs.length 0 lo),Heap.get?_push_size _ rfl⟩
def mE:V→Bool
 | .non=>true
 | .bl _=>true
 | .int _=>true
 | .str _=>true
 | _=>false
def eqV:V→V→Bool
 | .non,.non=>true
 | .bl a,.bl b=>a == b
 | .bl a,.int b=>(if a then 1 else 0) == b
 | .int a,.bl b=>a == (if b then 1 else 0)
 | .int a,.int b=>a == b
 | .str a,.str b=>a == b
 | _,_=>false
theorem eqAt_V {A:Around}{s:Shared}{y x:V}{u v:Value} (ry:RelV y u) (rx:RelV x v) (fy:mE y=true) (fx:mE x=true):SeqAt.EqAt A s u v (eqV y x):=by
 cases y with
 | non =>
  cases ry
  cases x with
  | non=>cases rx;exact SeqAt.EqAt.same _
  | bl b=>cases rx;exact SeqAt.EqAt.none_bool b
  | int b=>obtain ⟨t,rfl⟩:=rx;exact SeqAt.EqAt.none_int b t
  | str b=>obtain ⟨t,rfl⟩:=rx;exact SeqAt.EqAt.none_str b t
  | _=>exact absurd (show false=true from fx) vt
 | bl a =>
  cases ry
  cases x with
  | non=>cases rx;exact SeqAt.EqAt.bool_none a
  | bl b=>cases rx;exact SeqAt.EqAt.bool_bool a b
  | int b=>obtain ⟨t,rfl⟩:=rx;exact SeqAt.EqAt.bool_int a b t
  | str b=>obtain ⟨t,rfl⟩:=rx;exact SeqAt.EqAt.bool_str a b t
  | _=>exact absurd (show false=true from fx) vt
 | int a =>
  obtain ⟨q,rfl⟩:=ry
  cases x with
  | non=>cases rx;exact SeqAt.EqAt.int_none a q
  | bl b=>cases rx;exact SeqAt.EqAt.int_bool a q b
  | int b=>obtain ⟨t,rfl⟩:=rx;exact SeqAt.EqAt.int_int a q b t
  | str b=>obtain ⟨t,rfl⟩:=rx;exact SeqAt.EqAt.int_str a q b t
  | _=>exact absurd (show false=true from fx) vt
 | str a =>
  obtain ⟨q,rfl⟩:=ry
  cases x with
  | non=>cases rx;exact SeqAt.EqAt.str_none a q
  | bl b=>cases rx;exact SeqAt.EqAt.str_bool a q b
  | int b=>obtain ⟨t,rfl⟩:=rx;exact SeqAt.EqAt.str_int a q b t
  | str b=>obtain ⟨t,rfl⟩:=rx;exact SeqAt.EqAt.str_str a q b t
  | _=>exact absurd (show false=true from fx) vt
 | _=>exact absurd (show false=true from fy) vt
def eqU (x:V) (u:Value):Bool:=match u with
 | .none=>eqV .non x
 | .bool b=>eqV (.bl b) x
 | .int i _=>eqV (.int i) x
 | .str z _=>eqV (.str z) x
 | _=>false
theorem eqU_of {x y:V}{u:Value} (r:RelV y u) (f:mE y=true):eqU x u=eqV y x:=by
 cases y with
 | non=>cases r;rfl
 | bl b=>cases r;rfl
 | int i=>obtain ⟨t,rfl⟩:=r;rfl
 | str z=>obtain ⟨t,rfl⟩:=r;rfl
 | _=>exact absurd (show false=true from f) vt
theorem ko {x:V}:∀ {xs:List V}{us:List Value},Vals xs us→xs.all mE=true→us.any (eqU x)=xs.any fun y=>eqV y x
 | _,_,.nil,_=>rfl
 | y::xs,u::us,.cons r t,f=>by
  rw [wM,vx] at f
  rw [List.any_cons,List.any_cons,eqU_of r f.1,ko t f.2]
theorem iB {A:Around}{s:Shared}{x:V}{v:Value} (rx:RelV x v) (fx:mE x=true):∀ {xs:List V}{us:List Value},Vals xs us→xs.all mE=true→∀ u∈us,SeqAt.EqAt A s u v (eqU x u)
 | _,_,.nil,_=>fun u hu=>by cases hu
 | y::xs,u::us,.cons r t,f=>fun q hu=>by
  rw [wM,vx] at f
  rcases u8.mp hu with rfl | hu
  ·rw [eqU_of r f.1];exact eqAt_V r rx f.1 fx
  ·exact iB rx fx t f.2 q hu
def inV (x:V) (xs:List V):Bool:=xs.any fun y=>eqV y x
def rIn (K:PySem.W.Frag) (neg:Bool):R2:=fun x y H Q=>∃ p xs,y=.ref p∧(SqL K H p xs∨SqT K H p xs)∧mE x=true∧xs.all mE=true∧Q (.bl (if neg then !inV x xs else inV x xs)) H
theorem gk:OpR X (compareOp .In) (rIn X.K false):=by
 intro pins s σ H x y v u Q I O U h
 obtain ⟨p,xs,rfl,hq,R,fs,q⟩:=h
 cases U
 rcases hq with hq | hq
 ·obtain ⟨F,r,J,hz⟩:=I.list hq
  refine SeqAt.in_listAt (eqU x) J.isList (fun w G=>iB O R r fs w (by simpa using G)) ⟨.bl _,H,I,rfl,?_⟩
  rw [show F.toArray.any (eqU x)=F.any (eqU x) by simp,ko r fs]
  exact q
 ·obtain ⟨F,r,J,hz⟩:=I.tuple hq
  refine SeqAt.in_tupleAt (eqU x) J (fun w G=>iB O R r fs w (by simpa using G)) ⟨.bl _,H,I,rfl,?_⟩
  rw [show F.toArray.any (eqU x)=F.any (eqU x) by simp,ko r fs]
  exact q
theorem gj:OpR X (compareOp .NotIn) (rIn X.K true):=by
 intro pins s σ H x y v u Q I O U h
 obtain ⟨p,xs,rfl,hq,R,fs,q⟩:=h
 cases U
 rcases hq with hq | hq
 ·obtain ⟨F,r,J,hz⟩:=I.list hq
  refine SeqAt.notIn_listAt (eqU x) J.isList (fun w G=>iB O R r fs w (by simpa using G)) ⟨.bl _,H,I,rfl,?_⟩
  rw [show F.toArray.any (eqU x)=F.any (eqU x) by simp,ko r fs]
  exact q
 ·obtain ⟨F,r,J,hz⟩:=I.tuple hq
  refine SeqAt.notIn_tupleAt (eqU x) J (fun w G=>iB O R r fs w (by simpa using G)) ⟨.bl _,H,I,rfl,?_⟩
  rw [show F.toArray.any (eqU x)=F.any (eqU x) by simp,ko r fs]
  exact q
theorem aG:CallR X (.builtin "len") (fun xs H Q=>∃ p ys,xs=[.ref p]∧(SqL X.K H p ys∨SqT X.K H p ys)∧Q (.int ys.length) H):=by
 intro pins s σ H xs U Q I r h
 obtain ⟨p,ys,rfl,hq,q⟩:=h
 obtain ⟨u,rfl,R⟩:=vals1 r
 cases R
 have hn:=qh
 rcases hq with hq | hq
 ·obtain ⟨O,J,G,hz⟩:=I.list hq
  have F:=J.length
  exact Calls.call_len_list G.isList (by simp only [vg]<;>omega) ⟨.int ys.length,H,I.tok _,⟨s.toks+1,by rw [vg,F]⟩,q⟩
 ·obtain ⟨O,J,G,hz⟩:=I.tuple hq
  have F:=J.length
  exact len_tuple G (by simp only [vg]<;>omega) ⟨.int ys.length,H,I.tok _,⟨s.toks+1,by rw [vg,F]⟩,q⟩
theorem gq:CallR X (.type "list") (fun xs H Q=>∃ p ys,xs=[.ref p]∧(SqL X.K H p ys∨SqT X.K H p ys)∧∀ l,H l=none→Q (.ref l) (upd H l (.lst ys))):=by
 intro pins s σ H xs us Q I r h
 obtain ⟨p,ys,rfl,hq,q⟩:=h
 obtain ⟨u,rfl,Z⟩:=vals1 r
 cases Z
 have fin:∀ (F:List Value),Vals ys F→ys.length≤sizeLine→∀ (h':Heap) (G:Nat),(∀ b o',s.heap.get? b=some o'→h'.get? b=some o') →
   h'.get? s.heap.objs.size=some { cls:=.type "list",dict:=none,data:=.seq F.toArray G,slots:=#[] }→EP X pins σ Q (.ref s.heap.objs.size) { s with heap:=h' }:=fun F J hz h' G O e =>
  ⟨.ref s.heap.objs.size,_,I.laid (t':=s.toks) O (va _) (show ObjOk X.prog X.w _ h' _ (.lst ys) from ⟨hz,F,G,J,e⟩),rfl,q _ (I.hok.fresh (va _))⟩
 rcases hq with hq | hq
 ·obtain ⟨F,J,Y,hz⟩:=I.list hq
  have U:=J.length
  obtain ⟨o,R,hc,n,W⟩:=Y.isList
  exact call_list_seq p (.inl rfl) R hc W (fun h' G O e=>fin F J hz h' G O e) (by simp only [vg]<;>omega)
 ·obtain ⟨F,J,Y,hz⟩:=I.tuple hq
  have U:=J.length
  obtain ⟨o,R,hc,n,W⟩:=Y
  exact call_list_seq p (.inr rfl) R hc W (fun h' G O e=>fin F J hz h' G O e) (by simp only [vg]<;>omega)
def tyV (K:PySem.W.Frag) (T:String) (x:V) (H:Hp):Prop:=match x with
 | .str _=>T="str"
 | .int _=>T="int"
 | .ref p=>(T="list"∧∃ xs,SqL K H p xs)∨(T="tuple"∧∃ o,K.lookup p=some o∧o.cls=.type "tuple"∧o.dict=none) ∨
   (T="dict"∧((∃ kvs,H p=some (.dK kvs))∨∃ kvs,H p=some (.dT kvs)))∨(T="set"∧∃ S n,H p=some (.set S n))
 | _=>False
theorem tyV_is {pins:List (Addr×Obj)}{σ:St}{H:Hp}{s:Shared}{T:String}{x:V}{v:Value} (I:Inv X pins σ H s) (r:RelV x v) (ty:tyV X.K T x H) :
  s.TypeIs v T∧∀ a,v=.ref a→∃ ob,s.heap.get? a=some ob∧ob.dict=none:=by
 cases x with
 | str z =>
  obtain ⟨t,rfl⟩:=r
  cases (show T="str" from ty)
  exact ⟨typeIs_str s z t,fun _ e=>nomatch e⟩
 | int i =>
  obtain ⟨t,rfl⟩:=r
  cases (show T="int" from ty)
  exact ⟨typeIs_int s i t,fun _ e=>nomatch e⟩
 | ref p =>
  cases r
  rcases ty with ⟨rfl,xs,O⟩ | ⟨rfl,o,q,hc,F⟩ | ⟨rfl,q⟩ | ⟨rfl,S,n,q⟩
  ·obtain ⟨R,_,J,_⟩:=I.list O
   refine ⟨J.isList.typeIs,fun a e=>?_⟩
   cases e
   obtain ⟨o,n,e,c,F,_⟩:=J
   exact ⟨o,e,F⟩
  ·refine ⟨⟨o,I.kIn p o q,hc⟩,fun a e=>?_⟩
   cases e
   exact ⟨o,I.kIn _ o q,F⟩
  ·have z:∃ o,s.heap.get? p=some o∧o.ExactDict:=by
    rcases q with ⟨kvs,q⟩ | ⟨kvs,q⟩
    ·obtain ⟨_,_,_,_,o,_,_,e,ex,_⟩:=I.hok p _ q
     exact ⟨o,e,ex⟩
    ·obtain ⟨_,_,_,_,o,_,_,e,ex,_⟩:=I.hok p _ q
     exact ⟨o,e,ex⟩
   obtain ⟨o,e,ex⟩:=z
   refine ⟨⟨o,e,ex.1⟩,fun a G=>?_⟩
   cases G
   exact ⟨o,e,ex.2.1⟩
  ·obtain ⟨o,_,_,_,e,ex,_⟩:=I.hok p _ q
   refine ⟨⟨o,e,ex.1⟩,fun a G=>?_⟩
   cases G
   exact ⟨o,e,ex.2.1⟩
 | _=>exact False.elim ty
def tBM (K:PySem.W.Frag) (T:String) (r:V→List V→Hp→VK→Prop) (to:TE) (t:TA):TE:=fun σ H Q=>to σ H fun x H1=>tyV K T x H1∧t σ H1 fun xs H2=>r x xs H2 Q
variable {o e:Expr}{es:List Expr}{to:TE}{t:TA}{name:Str}{apos cpos:Pos}{T id:String}{r:V→List V→Hp→VK→Prop}
theorem dX (pa:PlainAttrs T) (slot:Slot T name id) (hty:typeOf (.builtin id)=pure (.type "method_descriptor")) (hm:MtR X id r) (ho:PE X o to) (ha:PA X (e::es) t)
  (hbase:attributeBase o name X.env (eval o X.env)=eval o X.env:=by rfl)
  (hfew:((backTo cpos (starEach (e::es) X.env)).all (fun x=>!x.1) && (backToKw cpos (keywordEach [] X.env)).all (fun x=>x.1.isSome)
   && decide ((e::es).length+([]:List Keyword).length+(if ([]:List Keyword).isEmpty then 0 else 1)<30))=true:=by rfl)
  (hline:(apos.endLine == cpos.line)=true:=by rfl) (hs:starEach (e::es) X.env=(false,eval e X.env)::starEach es X.env:=by rfl) (hplain:(backTo cpos (starEach es X.env)).any (·.1)=false:=by rfl) :
  PE X (.Call (.Attribute o name apos) (e::es) [] cpos) (tBM X.K T r to t):=by
 intro pins s σ H Q I h
 refine wpAny_Call_method_late hbase hfew hline rfl (thn (ho pins s σ H _ I h) fun v J ⟨x,H1,q,G,ty,U⟩=>?_)
 obtain ⟨h1,h2⟩:=tyV_is q G ty
 refine ⟨T,id,pa,slot,hty,h1,h2,?_⟩
 have F:=ha cpos pins J σ H1 _ q U
 rw [hs] at F ⊢
 refine Calls.callWith_builtin (by show (false || (backTo cpos (starEach es X.env)).any (·.1))=false;rw [hplain]<;>rfl) (Calls.evalArgs_plain ?_)
 exact thn F fun R Z ⟨vs,H2,W,O,Y⟩=>hm pins Z σ H2 x vs v R Q W G O Y
end
end L2
namespace L2
open PySem PySem.Spec PyProof.Rows
def MtM (X:Cx) (id:String) (r:V→List V→Hp→VK→Prop):Prop :=
 ∀ (pins:List (Addr×Obj)) (s:Shared) (σ:St) (H:Hp) (x:V) (xs:List V) (v:Value) (us:List Value) (Q:VK),Inv X pins σ H s→RelV x v→Vals xs us→r x xs H Q →
  wpAny (model X.prog X.w) X.A (call (.builtin id) (v::us)) (EP X pins σ Q) X.xe s
theorem Vals.one:∀ {x:V}{us:List Value},Vals [x] us→∃ u,us=[u]∧RelV x u
 | _,_,.cons r .nil=>⟨_,rfl,r⟩
theorem Vals.two:∀ {x y:V}{us:List Value},Vals [x,y] us→∃ u v,us=[u,v]∧RelV x u∧RelV y v
 | _,_,_,.cons r (.cons q .nil)=>⟨_,_,rfl,r,q⟩
theorem Vals.eraseIdx:∀ {xs:List V}{us:List Value} (i:Nat),Vals xs us→Vals (xs.eraseIdx i) (us.eraseIdx i)
 | _,_,_,.nil=>.nil
 | _,_,0,.cons _ t=>t
 | _,_,i+1,.cons r t=>.cons r (Vals.eraseIdx i t)
theorem Vals.rep {xs:List V}{us:List Value} (h:Vals xs us):∀ k:Nat,Vals (List.replicate k xs).flatten (List.replicate k us).flatten
 | 0=>.nil
 | k+1=>by
  rw [we,we,vX,vX]
  exact Vals.append h (Vals.rep h k)
theorem nR {α:Type}:∀ (l:List α) (i:Nat),(l.eraseIdx i).length≤l.length
 | [],_=>va _
 | _::_,0=>Nat.le_succ _
 | _::r,i+1=>Nat.succ_le_succ (nR r i)
theorem nZ (its:List Value):∀ (k:Nat) (acc:List Value),
  List.foldl (fun x1 x2=>x1++x2) acc.toArray (List.replicate k its.toArray)=(acc++(List.replicate k its).flatten).toArray
 | 0,acc=>by simp
 | k+1,acc=>by
  have e:acc.toArray++its.toArray=(acc++its).toArray:=by simp
  have q:(acc++its)++(List.replicate k its).flatten=acc++(List.replicate (k+1) its).flatten:=by
   rw [we,vX,wf]
  rw [← q,← nZ its k (acc++its),← e,we,List.foldl_cons]
section
variable {X:Cx}{pins:List (Addr×Obj)}{σ:St}{H:Hp}{s:Shared}{l b:Addr}{xs ys zs:List V}
theorem Inv.lset {its its':List Value}{n:Nat}{f:Array Value→Array Value}{t':Nat} (I:Inv X pins σ H s) (hH:H l=some (.lst xs))
  (e:s.heap.get? l=some { cls:=.type "list",data:=.seq its.toArray n }) (hf:f its.toArray=its'.toArray) (hv:Vals ys its') (hz:ys.length≤sizeLine) :
  Inv X pins σ (upd H l (.lst ys)) { s with heap:=s.heap.update l (Obj.mapSeq f),toks:=t' }:=by
 have q:=PySem.IsL.update e f
 rw [hf] at q
 refine I.write (x:=l) (e:=l) (by rw [hH];exact trivial) (.inl rfl) (fun G u hb F=>(Heap.get?_update_other s.heap (Obj.mapSeq f) (Ne.symm hb)).trans F) ⟨_,q⟩ ?_
 exact ⟨hz,its',_,hv,q⟩
theorem Inv.lnew {its:List Value}{t':Nat} (I:Inv X pins σ H s) (hv:Vals ys its) (hz:ys.length≤sizeLine) :
  Inv X pins σ (upd H s.heap.objs.size (.lst ys)) { s with heap:=s.heap.push { cls:=.type "list",data:=.seq its.toArray },toks:=t' } :=
 I.laid (fun _ _ q=>Heap.get?_push_of_some _ q) (va _) ⟨hz,its,0,hv,Heap.get?_push_size _ rfl⟩
theorem Inv.fresh (I:Inv X pins σ H s):H s.heap.objs.size=none:=I.hok.fresh (va _)
theorem Inv.lstM (I:Inv X pins σ H s) (hH:H l=some (.lst xs)):xs.length≤sizeLine∧∃ (its:List Value) (n:Nat),Vals xs its∧xs.length=its.length∧s.heap.get? l=some { cls:=.type "list",data:=.seq its.toArray n }:=by
 obtain ⟨z,its,n,r,e⟩:=I.hok l _ hH
 exact ⟨z,its,n,r,r.length,e⟩
theorem qc {n:Nat} (h:n≤sizeLine):Builtin.List.listTooLong n=false:=by
 unfold Builtin.List.listTooLong
 exact decide_eq_false (by omega)
end
section
variable {X:Cx}
def rAppend:V→List V→Hp→VK→Prop:=fun x vs H Q=>∃ l xs y,x=.ref l∧vs=[y]∧H l=some (.lst xs)∧xs.length<sizeLine∧Q .non (upd H l (.lst (xs++[y])))
theorem bq:MtM X "list.append" rAppend:=by
 intro pins s σ H x vs v W Q I O U h
 obtain ⟨l,xs,y,rfl,rfl,J,hz,q⟩:=h
 cases O
 obtain ⟨u,rfl,R⟩:=U.one
 obtain ⟨z,G,n,r,hl,e⟩:=I.lstM J
 refine call_meets F.slot_list_append ⟨_,e,rfl⟩ F.entry_list_append (F.args_list_append_2 _ _) (PySem.list_append l G.toArray n u (by rw [vg];omega)) ⟨e,?_⟩
 refine ⟨.non,_,I.lset (its':=G++[u]) J e (by simp) (r.append (.cons R .nil)) ?_,rfl,q⟩
 rw [u7,List.length_singleton]
 omega
def rExtend:V→List V→Hp→VK→Prop:=fun x vs H Q=>∃ l b xs zs,x=.ref l∧vs=[.ref b]∧H l=some (.lst xs)∧H b=some (.lst zs)∧xs.length+zs.length≤sizeLine∧Q .non (upd H l (.lst (xs++zs)))
theorem iA:MtM X "list.extend" rExtend:=by
 intro pins s σ H x vs v us Q I W rv h
 obtain ⟨l,b,xs,zs,rfl,rfl,R,hB,hz,q⟩:=h
 cases W
 obtain ⟨u,rfl,ru⟩:=rv.one
 cases ru
 obtain ⟨z,J,n,r,hl,e⟩:=I.lstM R
 obtain ⟨z2,G,Y,Z,al,e2⟩:=I.lstM hB
 have U:J.toArray.size+G.toArray.size≤sizeLine:=by rw [vg,vg];omega
 have O:¬ (!J.toArray.isEmpty && Builtin.List.listTooLong (J.toArray.size+G.toArray.size))=true:=by
  rw [qc U,Bool.and_false]
  exact vt
 refine call_meets F.slot_list_extend ⟨_,e,rfl⟩ F.entry_list_extend (F.args_list_extend_2 _ _)
  (AutoSeq1.list_extend_list_list_0 l J.toArray n b G.toArray Y O (by rw [vg];omega) (by omega)) ⟨e,e2,?_⟩
 refine ⟨.non,_,I.lset (its':=J++G) R e (by simp) (r.append Z) ?_,rfl,q⟩
 rw [u7]
 omega
def rPopAt:V→List V→Hp→VK→Prop:=fun x vs H Q=>∃ l xs i k y,x=.ref l∧vs=[.int i]∧H l=some (.lst xs)∧-(2 ^ 63)≤i∧i<2 ^ 63∧seqIndex? i xs.length=some k∧xs[k]?=some y∧Q y (upd H l (.lst (xs.eraseIdx k)))
theorem mt_popAt:MtM X "list.pop" rPopAt:=by
 intro pins s σ H x vs v us Q I R rv h
 obtain ⟨l,xs,i,k,y,rfl,rfl,J,h1,h2,W,Z,q⟩:=h
 cases R
 obtain ⟨u,rfl,U⟩:=rv.one
 obtain ⟨t,rfl⟩:=U
 obtain ⟨z,G,n,r,hl,e⟩:=I.lstM J
 obtain ⟨w,Y,O⟩:=r.get Z
 refine call_meets F.slot_list_pop ⟨_,e,rfl⟩ F.entry_list_pop (F.args_list_pop_2 _ _)
  (MeetsSeq.list_pop_at l G.toArray n i t k w (fitsIndex_both h1 h2) (by rw [vg,← hl];exact W) (by rw [← Array.getElem?_toList];exact Y) (by rw [vg];omega)) ⟨e,?_⟩
 refine ⟨y,_,I.lset (its':=G.eraseIdx k) J e ?_ (r.eraseIdx k) ?_,O,q⟩
 ·show G.toArray.eraseIdxIfInBounds k=(G.eraseIdx k).toArray
  rw [List.eraseIdxIfInBounds_toArray]
 ·have:=nR xs k
  omega
def rCat:R2:=fun x y H Q=>∃ l b xs zs,x=.ref l∧y=.ref b∧H l=some (.lst xs)∧H b=some (.lst zs)∧xs.length+zs.length≤sizeLine∧∀ p,H p=none→Q (.ref p) (upd H p (.lst (xs++zs)))
theorem gJ:OpR X (binaryOp .Add) rCat:=by
 intro pins s σ H x y v u Q I R O h
 obtain ⟨l,b,xs,zs,rfl,rfl,J,Y,hz,q⟩:=h
 cases R
 cases O
 obtain ⟨z,G,n,r,hl,e⟩:=I.lstM J
 obtain ⟨z2,F,n2,U,ab,W⟩:=I.lstM Y
 refine PySem.P.add_list e W ?_ (by rw [vg,vg];omega)
 have Z:G.toArray++F.toArray=(G++F).toArray:=by simp
 rw [Z]
 exact ⟨.ref _,_,I.lnew (t':=s.toks) (r.append U) (by rw [u7];omega),rfl,q _ I.fresh⟩
def rRep:R2:=fun x y H Q=>∃ l k xs,x=.ref l∧y=.int k∧H l=some (.lst xs)∧-(2 ^ 63)≤k∧k<2 ^ 63∧xs.length*k.toNat≤sizeLine ∧
 ∀ p,H p=none→Q (.ref p) (upd H p (.lst (List.replicate k.toNat xs).flatten))
theorem ug {α:Type} (xs:List α) (k:Nat):(List.replicate k xs).flatten.length=k*xs.length:=by
 induction k with
 | zero=>simp
 | succ k ih=>rw [we,vX,u7,ih,Nat.succ_mul,Nat.add_comm]
theorem tK:OpR X (binaryOp .Mult) rRep:=by
 intro pins s σ H x y v u Q I rx ry h
 obtain ⟨l,k,xs,rfl,rfl,hH,h1,h2,hz,q⟩:=h
 cases rx
 obtain ⟨t,rfl⟩:=ry
 obtain ⟨z,G,n,r,hl,e⟩:=I.lstM hH
 have R:G.toArray.size*k.toNat≤sizeLine:=by rw [vg,← hl];exact hz
 have W:¬ G.toArray.size*k.toNat > (2 ^ 63 - 1) / 8:=by
  have:(sizeLine:Nat)≤(2 ^ 63 - 1) / 8:=by decide
  omega
 have O:¬ (!Builtin.List.listFitsIndex k)=true:=by
  rw [fitsIndex_both h1 h2]
  exact vt
 have J:¬ Builtin.List.listTooLong (G.toArray.size*k.toNat)=true:=by
  rw [qc R]
  exact vt
 have Z:List.foldl (fun x1 Y=>x1++Y) #[] (List.replicate (if G.toArray.isEmpty=true then 0 else k.toNat) G.toArray)=(List.replicate k.toNat G).flatten.toArray:=by
  have f0:∀ m:Nat,List.foldl (fun x1 Y=>x1++Y) #[] (List.replicate m G.toArray)=(List.replicate m G).flatten.toArray:=fun m=>by
   have:=nZ G m []
   rw [List.nil_append] at this
   exact this
  rw [f0]
  cases G with
  | nil=>simp
  | cons a r'=>rw [if_neg (by simp)]
 refine wpAny_binaryOp_repeat_ref (T:="list") (U:="int") (by decide) ⟨_,e,rfl⟩ (fun s'=>typeIs_int s' k t) noFill_list_mul F.fills_int_mul F.slot_int_rmul repeat_list F.slot_int_index.lookup
  (call_meets F.slot_int_rmul (typeIs_int s k t) F.entry_int_rmul (F.args_int_rmul_2 _ _) (int___rmul___int_list k t l G.toArray n)
   ⟨e,rfl,⟨_,e,rfl⟩,call_meets F.slot_list_mul ⟨_,e,rfl⟩ F.entry_list_mul (F.args_list_mul_2 _ _) (AutoListH.list___mul___list_int_3 l G.toArray n k t O W J) ⟨e,?_⟩⟩)
 rw [Z]
 exact ⟨.ref _,_,I.lnew (t':=s.toks) (r.rep k.toNat) (by rw [ug,Nat.mul_comm];exact hz),rfl,q _ I.fresh⟩
end
section
variable {prog:Program}{w:World}{A:Around}{E:Value→Shared→Prop}{s:Shared}
set_option maxRecDepth 100000 in
end
section
variable {X:Cx}
end
end L2
namespace Att
open PySem PySem.W PySem.Calls PyProof.Rows
theorem kb {P:Params}{h:Heap}:∀ (ns:List Int) (vs:List Value),WellAll P h vs (ns.map WData.int)→IntsAre vs ns:=by
 intro ns
 induction ns with
 | nil =>
  intro vs w
  rw [List.map_nil] at w
  cases w
  exact .nil
 | cons n ns ih =>
  intro vs w
  rw [vV] at w
  cases w with
  | cons a b =>
   cases a
   exact .cons _ _ (ih _ b)
theorem sY {l:OpenLaw}{n:Nat} (hn:l.most=some n) {P:Params}{h:Heap}{args:List WData}{vals:List Value}
  (hpre:l.row.toRowW.claim.pre args=true) (hwl:WellAll P h vals args) :
  ∃ a vs ns,vals=[Value.ref a]∧args=[WData.list (ns.map WData.int)]∧h.get? a=some { cls:=.type "list",data:=.seq vs.toArray }∧IntsAre vs ns∧ns.length≤n:=by
 have J:WShape.hasAll [] args [.list .int]=true:=(pre_splitW hpre).1
 have hc:l.pre.holds [] { args:=args }=true:=(pre_splitW hpre).2
 obtain ⟨d,r,rfl,h1,h2⟩:=hasAllW_cons J
 obtain rfl:=hasAllW_nil h2
 obtain ⟨xs,rfl,h3⟩:=hasW_list h1
 obtain ⟨ns,rfl⟩:=items_int h3
 have I:ns.length≤n:=by
  unfold OpenLaw.pre at hc
  have G:(WTm.not (.lt (.lit (.int (n:Int))) (.len (.arg 0)))).holds [] { args:=[.list (ns.map .int)] }=true:=by
   have G:=(holds_andW hc).1
   rw [hn] at G
   exact G
  have F:=condW_of G (w_not (w_lt w_lit (w_len_list (w_arg rfl))))
  rw [lH] at F
  refine Nat.le_of_not_lt fun q=>?_
  have O:(n:Int)<((ns.length:Nat):Int):=by omega
  first
   | (rw [decide_eq_true O] at F;exact absurd F (by decide))
   | (simp at F;omega)
 cases hwl with
 | cons w1 w2 =>
  cases w2
  cases w1 with
  | list ho hall=>exact ⟨_,_,ns,rfl,rfl,ho,kb ns _ hall,I⟩
theorem tH (l:OpenLaw) (args:List WData):l.row.toRowW.claim.post args (.bool true) args=true :=
 postW_of (r:=l.row.toRowW) (X:=(true == true))
  (show WShape.has [] (.bool true) .bool=true by first | rfl | decide | simp [WShape.has,WShape.arms,WShape.armsAll])
  (show (WTm.eq .res (.lit (.bool true))).value [] { args:=args,res:=some (.bool true),after:=args }=some (.bool (true == true)) from w_eq_bool (w_res rfl) w_lit) rfl
theorem attach_call {l:OpenLaw}{n:Nat}{q:Program}{loose:List Str}{XP:(Str→Option Value)→Heap→Prop}{YP:World→Heap→Prop}{d:DefRec}
  (hn:l.most=some n) (hdf:d.params.defaults=[])
  (call:∀ (w:World) (s₀ s₁:Shared) (mg mb:Str→Option Value) (fa:Addr) (o:Obj) (pm cd doc:Value) (a:Addr) (vs:List Value) (ns:List Int),
   Ground q loose [] XP w s₀ mg mb s₁.heap→YP w s₁.heap →
   s₁.heap.get? fa=some o→o.data=.func (docDef d.name d.params d.body d.scope pm cd doc)→s₁.heap.CodeRec cd d.name→mg d.name=some (.ref fa) →
   s₁.heap.get? a=some { cls:=.type "list",data:=.seq vs.toArray }→IntsAre vs ns→ns.length≤n→s₁.gens=#[] →
   codeAny (model l.prog w) callerA (.call (.ref fa) ⟨[.ref a],[]⟩) (fun r s'=>r=.ok (.ret (.bool true))∧OldK s₁.heap s'.heap∧s'.os=s₁.os∧AllBare s'.gens) s₁) :
  WalkO q loose XP YP l.row.toRowW d [] (fun f vs=>PySem.call f vs):=by
 intro w s₀ s₁ mg mb G Y fa o pm cd doc dV kV ho hd U Z W hg args af as J al a4 R a3
 obtain rfl:dV=.none:=Dflts.none Z hdf
 obtain rfl:kV=.none:=Dflts.noKw Z
 obtain ⟨a,vs,ns,rfl,rfl,O,F,I⟩:=sY hn J R
 refine enter_call (codeAny_mono (call w s₀ s₁ mg mb fa o pm cd doc a vs ns G Y ho (fd_plain hd) U W O F I hg) fun r s' hq=>?_)
 obtain ⟨rfl,h2,h3,h4⟩:=hq
 exact ⟨.inl ⟨.bool true,.bool true,[],rfl,fun _=>rfl,.bool true,tH l _,fun _=>⟨List.Pairwise.nil,fun _ hm=>(nomatch hm)⟩⟩,h2,h3,h4⟩
section
variable {prog:Program}{w:World}{A:Around}{E:Value→Shared→Prop}{s:Shared}{K:Frag}
def ledger (h:Heap) (L d:Addr):List (Addr×Obj):=(List.range h.objs.size).filterMap fun a=>if a=L∨a=d then none else (h.get? a).map fun o=>(a,o)
end
end Att
namespace L2
open PySem PySem.Spec PyProof.Rows
theorem mP:∀ {vs:List Value}{ns:List Int},IntsAre vs ns→Vals (ns.map V.int) vs
 | _,_,.nil=>.nil
 | _,_,.cons n t h=>.cons ⟨t,rfl⟩ (mP h)
def Only (H:Hp):Prop:=∀ b,H b=none∨∃ o xs,H b=some (.frz o (.lst xs))
theorem law_call {P:Program}{w:World}{K:PySem.W.Frag}{mg mb:Str→Option Value}{CX:CXT}{k:Nat}{fa a:Addr}{fd:FuncData}{x:Str}{sp:Sp}{s₁:Shared}{vs:List Value}{ns:List Int}
  (KX:K.In s₁.heap) (hns:s₁.heap.Ns mainGlobals mg) (hb:s₁.heap.Ns builtinsNs mb) (hbb:∀ x:Str,x≠"__name__"→mb x=bootBuiltins x) (hlim:s₁.heap.NoLimit) (hg:s₁.gens=#[])
  (ha:s₁.heap.get? a=some { cls:=.type "list",data:=.seq vs.toArray }) (hi:IntsAre vs ns) (hl:ns.length≤sizeLine) (hr:Room k callerA)
  (F:∀ base:Heap,K.In base→base.Ns mainGlobals mg→ju P w K mg base CX k fa fd [x] sp) (hbind:∀ (s:Shared) (u:Value),BindsTo s fd ⟨[u],[]⟩ [(x,u)])
  (hsp:∀ H:Hp,Only H→SqL K H a (ns.map V.int)→sp [.ref a] H (fun v _=>v=.bl true) fun _ _ _=>False)
  (hCX:∀ H e s',CX [] H s₁ (fun _ _ _=>False) e s'→False) :
  codeAny (model P w) callerA (.call (.ref fa) ⟨[.ref a],[]⟩) (fun r s'=>r=.ok (.ret (.bool true))∧OldK s₁.heap s'.heap∧s'.os=s₁.os∧AllBare s'.gens) s₁:=by
 have rv:=mP hi
 have ag:=hi.length
 have O:∀ H:Hp,Only H→SqL K H a (ns.map V.int)→HOk P w H s₁.heap→(∀ b,H b≠none→b=a)→(H a≠none→K.lookup a=none) →
   codeAny (model P w) callerA (.call (.ref fa) ⟨[.ref a],[]⟩) (fun r s'=>r=.ok (.ret (.bool true))∧OldK s₁.heap s'.heap∧s'.os=s₁.os∧AllBare s'.gens) s₁:=by
  intro H hO hS U hA hK
  have G:∀ {b:Addr}{o:Obj},s₁.heap.get? b=some o→H b=none→(hidT s₁.heap H).get? b=some o:=fun e n=>hidT_get e n
  have ai:∀ {b:Addr}{o:Obj}{es:Array DictEntry}{ep:Nat},s₁.heap.get? b=some o→o.data=.dict es ep→H b=none:=fun {b o es ep} e d=>by
   cases q:H b with
   | none=>rfl
   | some u =>
    have e':b=a:=hA b (by rw [q];simp)
    subst e'
    rw [ha] at e;cases e
    have d':Data.seq vs.toArray _=Data.dict es ep:=d
    cases d'
  have I:∀ {b:Addr}{m:Str→Option Value},s₁.heap.Ns b m→(hidT s₁.heap H).Ns b m:=fun {b m} ⟨o,es,ep,e,d,r⟩=>⟨o,es,ep,G e (ai e d),d,r⟩
  have R:K.In (hidT s₁.heap H):=fun b o e=>G (KX b o e) (by
   cases q:H b with
   | none=>rfl
   | some u =>
    have e':b=a:=hA b (by rw [q];simp)
    subst e'
    rw [hK (by rw [q];simp)] at e;cases e)
  have hM:Mod K mg (hidT s₁.heap H):=⟨R,I hns,⟨mb,I hb,hbb⟩,let ⟨mc,h1,h2⟩:=hlim;⟨mc,I h1,h2⟩⟩
  have e0:Env0 P w K mg (hidT s₁.heap H) callerA [] s₁ H:=⟨rfl,hM,fun b o e=>of_hidT e,Nat.le_of_eq (uq _ _),trivial,fun b hb=>absurd (show b∈([]:List Addr) from hb) (by simp),U,.of_eq hg⟩
  refine codeAny_mono ((F _ R (I hns)).run callerA [] s₁ H ⟨[.ref a],[]⟩ [.ref a] [.ref a] _ _ hr e0 (hbind s₁ (.ref a)) (.cons rfl .nil) (hsp H hO hS)) fun r s' h=>?_
  cases r with
  | error e=>exact (hCX H e s' h).elim
  | ok fl =>
   cases fl with
   | next=>exact False.elim h
   | brk=>exact False.elim h
   | cont=>exact False.elim h
   | ret u =>
    obtain ⟨v,H',os,ab,un,Z,r',q⟩:=h
    have q':v=.bl true:=q
    subst q'
    obtain rfl:u=Value.bool true:=r'
    refine ⟨rfl,OldK.of_keep fun b o e=>?_,os,ab⟩
    cases q:H b with
    | none=>exact un.keep b o e q (by intro z;exact absurd (show b∈([]:List Addr) from z) (by simp)) (by simp)
    | some u =>
     rcases hO b with z | ⟨ob,xs,z⟩
     ·rw [q] at z;cases z
     ·have z2:=un.frzs b ob _ z
      obtain ⟨e1,_⟩:=U b _ z
      obtain ⟨e2,_⟩:=Z b _ z2
      rw [e] at e1;cases e1
      exact e2
 cases Y:K.lookup a with
 | some o =>
  have e:=KX a o Y
  rw [ha] at e
  cases e
  refine O (fun _=>none) (fun _=>.inl rfl) (.inr ⟨_,vs.toArray,_,Y,rfl,rfl,rfl,by rw [vg,ag];exact hl,by simpa using rv⟩) (fun b u z=>by have J:(none:Option HO)=some u:=z;cases J) (fun b z=>absurd rfl z) fun z=>absurd rfl z
 | none =>
  refine O (fun b=>if b=a then some (.frz { cls:=.type "list",data:=.seq vs.toArray } (.lst (ns.map V.int))) else none) (fun b=>?_) (.inl (.inr ⟨{ cls:=.type "list",data:=.seq vs.toArray },if_pos rfl⟩)) (fun b u z=>?_) (fun b z=>?_) fun _=>Y
  ·by_cases hb:b=a
   ·exact .inr ⟨_,_,if_pos hb⟩
   ·exact .inl (if_neg hb)
  ·by_cases hb:b=a
   ·have J:=(if_pos hb).symm.trans z
    cases J
    subst hb
    exact ⟨ha,by rw [lH];exact hl,vs,_,rv,ha⟩
   ·have J:=(if_neg hb).symm.trans z
    cases J
  ·by_cases hb:b=a
   ·exact hb
   ·exact absurd (if_neg hb) z
end L2
namespace L2
open PySem PySem.Spec PyProof.Rows
abbrev KOf {K:PySem.W.Frag}{h:Heap} (_:K.In h):PySem.W.Frag:=K
theorem walk_of {l:PySem.W.OpenLaw}{n k:Nat}{q:Program}{loose:List Str}{XP:(Str→Option Value)→Heap→Prop}{YP:World→Heap→Prop}{d:DefRec}{K:Params→PySem.W.Frag}{CX:World→CXT}{sp:World→Sp}{x:Str}
  (hn:l.most=some n) (hn2:n≤sizeLine) (hdf:d.params.defaults=[]) (hr:Room k callerA)
  (hY:∀ (w:World) (h:Heap),YP w h→(K w.params).In h)
  (F:∀ (w:World) (mg:Str→Option Value) (fa:Addr) (h:Heap),(K w.params).In h→h.Ns mainGlobals mg→mg d.name=some (.ref fa) →
   ∃ fd:FuncData,(∀ (s:Shared) (u:Value),BindsTo s fd ⟨[u],[]⟩ [(x,u)]) ∧
    ∀ base:Heap,(K w.params).In base→base.Ns mainGlobals mg→ju l.prog w (K w.params) mg base (CX w) k fa fd [x] (sp w))
  (hsp:∀ (w:World) (H:Hp) (a:Addr) (ns:List Int),ns.length≤n→Only H→SqL (K w.params) H a (ns.map V.int)→sp w [.ref a] H (fun v _=>v=.bl true) fun _ _ _=>False)
  (hCX:∀ (w:World) (H:Hp) (s:Shared) (e:Value) (s':Shared),CX w [] H s (fun _ _ _=>False) e s'→False) :
  PySem.W.WalkO q loose XP YP l.row.toRowW d [] (fun f vs=>PySem.call f vs):=by
 refine Att.attach_call hn hdf fun w s₀ Z mg mb fa o pm cd al a vs ns G Y ho hd an R O J I hg=>?_
 have U:=hY w _ Y
 obtain ⟨fd,hb,hF⟩:=F w mg fa _ U G.T.g R
 exact law_call U G.T.g G.T.b G.T.builtins G.T.nolimit hg O J (vG I hn2) hr hF hb (fun H hO hS=>hsp w H a ns I hO hS) fun H e s'=>hCX w H Z e s'
end L2
namespace L2
open PySem PySem.Spec PyProof.Rows
def fN (s:Stmt) (j:Nat):Stmt:=match s with
 | .ClassDef _ _ _ body _ _ _ _ _ _ _=>body.getD j (.Pass ⟨0,0,0,0⟩)
 | _=>.Pass ⟨0,0,0,0⟩
def pE (s:Stmt):Arguments:=match s with
 | .FunctionDef _ a _ _ _ _ _ _ _ _=>a
 | _=>{ posonlyargs:=[],args:=[],vararg:=none,kwonlyargs:=[],kw_defaults:=[],kwarg:=none,defaults:=[] }
def i0 (s:Stmt):List Stmt:=match s with
 | .FunctionDef _ _ b _ _ _ _ _ _ _=>b
 | _=>[]
def ao (s:Stmt):Scope:=match s with
 | .FunctionDef _ _ _ _ _ _ sc _ _ _=>sc
 | _=>{ kind:=.function,names:=[],isGenerator:=false,isCoroutine:=false }
abbrev CX0:CXT:=fun _ _ _ _ _ _=>False
abbrev E0:XK:=fun _ _ _=>False
theorem pass0 {X:Cx}:jf CX0 X E0:=fun _ _ _ _ _ _ _ h=>h.elim
structure Fun (K:PySem.W.Frag) (x qual:Str) (st:Stmt) (f:Addr) (fd:FuncData):Prop where
 ex:∃ (oc:Value) (od:Option Addr) (kV doc pm:Value) (an:Option Addr) (cdv ct:Value) (osl:Array (Option Value)),
  fd=PySem.W.fnOf x qual (pE st) (i0 st) (ao st) .none kV doc pm an cdv ct∧K.lookup f=some ⟨oc,od,.func fd,osl⟩∧PySem.W.codeIn K cdv qual=true
 kp:PySem.W.keepIn K (.ref f)=true
section
variable {P:Program}{w:World}{K:PySem.W.Frag}{mg:Str→Option Value}{base:Heap}
theorem Fun.ok {x qual:Str}{st:Stmt}{f:Addr}{fd:FuncData}{N ps:List Str}{k:Nat}{sp:Sp} (F:Fun K x qual st f fd) (S:ax N ps (ao st)) (len:∀ vs H Q E,sp vs H Q E→vs.length=ps.length)
  (hbody:∀ (cdv:Value) (A:Around) (outer:List Env) (s:Shared) (H:Hp) (vs:List V) (Q:VK) (E:XK),Room k (A.deeper (envOfC qual (ao st) s.heap.objs.size f cdv))→sp vs H Q E →
   ∃ t,PSs (jt CX0 P w K mg base N qual (ao st) f cdv A outer s H E).nox (i0 st) t∧t { nx:=fun _ H'=>Q .non H',rt:=Q } (start N vs) H):ju P w K mg base CX0 (k+1) f fd ps sp:=by
 obtain ⟨Z,U,kV,O,pm,Y,cdv,W,R,rfl,J,I⟩:=F.ex
 refine fn_of J I S len fun A outer s H vs Q E hr G=>?_
 obtain ⟨t,h,q⟩:=hbody cdv A outer s H vs Q E hr G
 exact ⟨t,h.nox,q⟩
theorem Fun.binds {x qual:Str}{st:Stmt}{f:Addr}{fd:FuncData}{ps:List Str} (F:Fun K x qual st f fd)
  (h:∀ (kV doc pm:Value) (an:Option Addr) (cdv ct:Value) (us:List Value),us.length=ps.length→bindArgs (PySem.W.fnOf x qual (pE st) (i0 st) (ao st) .none kV doc pm an cdv ct) ⟨us,[]⟩=pure (ps.zip us)):Binds K fd ps []:=by
 obtain ⟨O,J,kV,doc,pm,an,cdv,ct,q,rfl,I,G⟩:=F.ex
 exact .all (h kV doc pm an cdv ct)
end
theorem hu_of {A:Around}{k:Nat} (hr:Room k A):A.units+1<cLine:=ww (Nat.add_le_add_left (by decide:1≤64) _) hr.units
theorem au {n:Nat} (h:n≤1000):n<sizeLine:=ww h (by decide)
section
variable {X:Cx}
theorem pv (i:Nat) {x:Str}{pos:Pos} (hN:X.N[i]?=some x:=by rfl) (hv:Vis X.env.scope x:=by first | exact Or.inl rfl | exact Or.inr (Or.inl rfl) | exact Or.inr (Or.inr rfl)) (hd:(x == ("__debug__":Str))=false:=by decide)
  (hcd:(x == ("__classdict__":Str))=false:=by decide):PE X (.Name x pos) (tVar i):=pe_var hN hv hd hcd
end
theorem uk {A B:Prop} (h:B):if false=true then A else B:=by
 rw [if_neg vt]
 exact h
theorem oA {A B:Prop} (h:A):if true=true then A else B:=by
 rw [if_pos rfl]
 exact h
theorem bB {c A B:Prop} [Decidable c] (h1:c→A) (h2:¬ c→B):if c then A else B:=by
 by_cases h:c
 ·rw [if_pos h]
  exact h1 h
 ·rw [if_neg h]
  exact h2 h
theorem iteNS {c A B:Prop} [Decidable c] (hc:c) (h:B):if (!decide c)=true then A else B:=by
 rw [decide_eq_true hc]
 exact uk h
def Same (H H':Hp):Prop:=∀ b o,H b=some o→H' b=some o
theorem Same.refl (H:Hp):Same H H:=fun _ _ h=>h
theorem Same.trans {H H1 H2:Hp} (a:Same H H1) (b:Same H1 H2):Same H H2:=fun c o h=>b c o (a c o h)
theorem Same.free {H H':Hp} (e:Same H H') {l:Addr} (h:H' l=Option.none):H l=Option.none:=by
 cases q:H l with
 | none=>rfl
 | some o =>
  rw [e l o q] at h
  cases h
theorem Same.seq {K:PySem.W.Frag}{H H':Hp}{a:Addr}{xs:List V} (e:Same H H') (h:SqL K H a xs):SqL K H' a xs:=by
 rcases h with (h | ⟨o,h⟩) | h
 ·exact .inl (.inl (e _ _ h))
 ·exact .inl (.inr ⟨o,e _ _ h⟩)
 ·exact .inr h
end L2
set_option maxHeartbeats 4000000
namespace L2
open PySem PySem.Spec PyProof.Rows
section
variable {κ:Type} [DecidableEq κ]
def oE (kvs:List (κ×V)) (k:κ):Option V:=(kvs.find? fun kv=>decide (kv.1=k)).map (·.2)
def sj (kvs:List (κ×V)) (k:κ) (v:V):List (κ×V) :=
 if (kvs.any fun kv=>decide (kv.1=k))=true then kvs.map (fun kv=>if kv.1=k then (kv.1,v) else kv) else kvs++[(k,v)]
theorem jv {p:κ×V}{r:List (κ×V)}{k:κ} (e:p.1=k):oE (p::r) k=some p.2:=by simp [oE,wT,e]
theorem lq {p:κ×V}{r:List (κ×V)}{k:κ} (e:¬ p.1=k):oE (p::r) k=oE r k:=by simp [oE,wT,e]
theorem o9 (kvs:List (κ×V)) (k:κ) (v:V):(sj kvs k v).length≤kvs.length+1:=by
 unfold sj
 split
 ·rw [lH];omega
 ·rw [u7,vh,List.length_nil];omega
theorem RelO.getD {o:Option V}{u:Option Value}{d:V}{d':Value} (r:RelO o u) (rd:RelV d d'):RelV (o.getD d) (u.getD d'):=by
 cases o with
 | none=>cases u with
  | none=>exact rd
  | some _=>exact (show False from r).elim
 | some _=>cases u with
  | none=>exact (show False from r).elim
  | some _=>exact r
theorem KV.val {kvs:List (κ×V)}{vs:List (κ×Value)} (r:KV kvs vs) (k:κ):RelO (oE kvs k) (valueAt vs k):=by
 unfold KV at r
 induction r with
 | nil=>exact True.intro
 | @cons p q ps qs h t ih =>
  obtain ⟨h1,h2⟩:=h
  by_cases e:p.1=k
  ·have F:q.1=k:=h1.symm.trans e
   have b:valueAt (q::qs) k=some q.2:=by simp [valueAt,wT,F]
   rw [jv e,b];exact h2
  ·have F:¬ q.1=k:=fun z=>e (h1.trans z)
   have b:valueAt (q::qs) k=valueAt qs k:=by simp [valueAt,wT,F]
   rw [lq e,b];exact ih
theorem KV.any {kvs:List (κ×V)}{vs:List (κ×Value)} (r:KV kvs vs) (k:κ):(kvs.any fun kv=>decide (kv.1=k))=vs.any fun kv=>decide (kv.1=k):=by
 unfold KV at r
 induction r with
 | nil=>rfl
 | cons h t ih=>rw [List.any_cons,List.any_cons,ih,h.1]
theorem KV.repl {kvs:List (κ×V)}{vs:List (κ×Value)} (r:KV kvs vs) (k:κ) {y:V}{u:Value} (ry:RelV y u) :
  KV (kvs.map fun kv=>if kv.1=k then (kv.1,y) else kv) (vs.map fun kv=>if kv.1=k then (kv.1,u) else kv):=by
 unfold KV at r ⊢
 induction r with
 | nil=>exact .nil
 | @cons p q ps qs h t ih =>
  rw [vV,vV]
  refine .cons ?_ ih
  obtain ⟨h1,h2⟩:=h
  by_cases e:p.1=k
  ·rw [if_pos e,if_pos (h1.symm.trans e)];exact ⟨h1,ry⟩
  ·rw [if_neg e,if_neg (fun z=>e (h1.trans z))];exact ⟨h1,h2⟩
theorem KV.put {kvs:List (κ×V)}{vs:List (κ×Value)} (r:KV kvs vs) (k:κ) {y:V}{u:Value} (ry:RelV y u):KV (sj kvs k y) (stored vs k u):=by
 unfold sj stored
 rw [r.any k]
 by_cases e:(vs.any fun kv=>decide (kv.1=k))=true
 ·rw [if_pos e,if_pos e];exact r.repl k ry
 ·rw [if_neg e,if_neg e];exact Paired.snoc r ⟨rfl,ry⟩
end
theorem kV_is {P:Program}{w:World}{k:Key}{u:Value} (r:RelV (kV k) u):(bN P w).is k u=true:=by
 cases k with
 | inl i=>obtain ⟨t,e⟩:=(show ∃ t,u=Value.int i t from r);subst e;exact o7 P w i t
 | inr x=>obtain ⟨t,e⟩:=(show ∃ t,u=Value.str x t from r);subst e;exact bK P w x t
theorem nW {P:Program}{w:World}:∀ {ks:List Key}{us:List Value},Vals (ks.map kV) us→ItemsAre (bN P w) ks us
 | [],_,r=>by rw [List.map_nil] at r;cases r;exact .nil
 | k::ks,_,r=>by
  rw [vV] at r
  cases r with
  | cons h t=>exact .cons (kV_is h) (nW t)
abbrev KT (H:Hp):List (List Key×V)→List (List Key×Addr×Value)→Prop:=Paired fun p q=>p.1=q.1∧H q.2.1=some (.tup (p.1.map kV))∧RelV p.2 q.2.2
theorem KT.val {H:Hp}{kvs:List (List Key×V)}{xs:List (List Key×Addr×Value)} (r:KT H kvs xs) (k:List Key):RelO (oE kvs k) ((atKey xs k).map (·.2)):=by
 induction r with
 | nil=>exact True.intro
 | @cons p q ps qs h t ih =>
  obtain ⟨h1,_,h2⟩:=h
  by_cases e:p.1=k
  ·have F:q.1=k:=h1.symm.trans e
   have b:atKey (q::qs) k=some q.2:=by simp [atKey,wT,F]
   rw [jv e,b];exact h2
  ·have F:¬ q.1=k:=fun z=>e (h1.trans z)
   have b:atKey (q::qs) k=atKey qs k:=by simp [atKey,wT,F]
   rw [lq e,b];exact ih
section
variable {P:Program}{w:World}{H:Hp}{h:Heap}{a:Addr}
theorem rd_of {u:HO} (ok:HOk P w H h) (e:Rd H a u):ObjOk P w H h a u:=e.ok ok
theorem dk_rd {kvs:List (Key×V)} (ok:HOk P w H h) (e:Rd H a (.dK kvs)):kvs.length≤sizeLine∧(a == sysModules)=false∧∃ vs,KV kvs vs∧h.DictOf (bN P w) a vs :=
 show ObjOk P w H h a (.dK kvs) from rd_of ok e
theorem dk_of {kvs:List (Key×V)} (ok:HOk P w H h) (e:H a=some (.dK kvs)):kvs.length≤sizeLine∧(a == sysModules)=false∧∃ vs,KV kvs vs∧h.DictOf (bN P w) a vs:=dk_rd ok (.inl e)
theorem key_of {ks:List Key} (ok:HOk P w H h) (e:H a=some (.tup (ks.map kV))):(tupleKind (bN P w)).is h ks a:=by
 obtain ⟨_,its,r,o,h1,h2,n,h3⟩:=(show ObjOk P w H h a (.tup (ks.map kV)) from ok a _ e)
 exact ⟨o,its.toArray,n,h1,h2,h3,by simpa using nW r⟩
theorem dt_rd {kvs:List (List Key×V)} (ok:HOk P w H h) (e:Rd H a (.dT kvs)):kvs.length≤sizeLine∧(a == sysModules)=false ∧
  ∃ xs,KT H kvs xs∧h.DictOfH (tupleKind (bN P w)) a xs:=by
 obtain ⟨z,y,xs,r,o,es,G,h1,h2,h3,I,F⟩:=(show ObjOk P w H h a (.dT kvs) from rd_of ok e)
 refine ⟨z,y,xs,r,o,es,G,h1,h2,h3,I,fun x hx=>?_,F⟩
 have all:∀ {l:List (List Key×V)}{m:List (List Key×Addr×Value)},KT H l m→∀ x∈m,(tupleKind (bN P w)).is h x.1 x.2.1:=by
  intro l m q
  induction q with
  | nil=>intro x hx;exact nomatch hx
  | @cons p q ps qs hq t ih =>
   intro x hx
   rcases u8.mp hx with e | hx
   ·subst e
    exact key_of ok (by rw [← hq.1];exact hq.2.1)
   ·exact ih x hx
 exact all r x hx
end
def DGet (H:Hp) (a:Addr) (y:V) (r:Option V):Prop :=
 (∃ kvs k,Rd H a (.dK kvs)∧y=kV k∧r=oE kvs k)∨∃ kvs k b,Rd H a (.dT kvs)∧y=.ref b∧H b=some (.tup (k.map kV))∧r=oE kvs k
theorem DGet.k {H:Hp}{a:Addr}{kvs:List (Key×V)}{k:Key} (e:H a=some (.dK kvs)):DGet H a (kV k) (oE kvs k):=.inl ⟨kvs,k,.inl e,rfl,rfl⟩
section
variable {X:Cx}{pins:List (Addr×Obj)}{σ:St}{H:Hp}{s:Shared}{a:Addr}{y v:V}{u r:Value}{o:Option V}{A:Around}{E:Value→Shared→Prop}
theorem Inv.big (I:Inv X pins σ H s):sysModules<s.heap.objs.size:=by
 have h:mainGlobals<s.heap.objs.size:=(I.mod.glob.keeps I.bk).lt
 exact Nat.lt_trans (by decide) h
theorem d_write {h':Heap}{t':Nat}{ob:HO} (I:Inv X pins σ H s) (mu:Mut (H a)) (hs:Heap.SameBut a s.heap h') (he:∃ q,h'.get? a=some q) (new:ObjOk X.prog X.w (upd H a ob) h' a ob) :
  Inv X pins σ (upd H a ob) { s with heap:=h',toks:=t' } :=
 I.write (x:=a) (e:=a) mu (.inl rfl) (fun b q hb z=>(hs.2 b hb).trans z) he new
theorem dk_new {P:Program}{w:World}{H':Hp}{h':Heap}{kvs:List (Key×V)}{vs:List (Key×Value)} (z:kvs.length≤sizeLine) (hd:(a == sysModules)=false) (rel:KV kvs vs) (dd:h'.DictOf (bN P w) a vs) :
  ObjOk P w H' h' a (.dK kvs):=⟨z,hd,vs,rel,dd⟩
end
section
variable {X:Cx}{pins:List (Addr×Obj)}{σ:St}{H:Hp}{s:Shared}{a:Addr}{kvs:List (Key×V)}{k:Key}{u:Value}{A:Around}{E:Value→Shared→Prop}
end
section
variable {X:Cx}{o i e value:Expr}{pos pos' tpos:Pos}{td ty tv:TE}
end
theorem dk_empty {P:Program}{w:World}{H:Hp} (h:Heap) (hb:sysModules<h.objs.size):ObjOk P w H (h.push { cls:=.type "dict",data:=.dict #[] }) h.objs.size (.dK []) :=
 ⟨vk _,beq_eq_false_iff_ne.mpr (Ne.symm (vW hb)),[],.nil,Heap.DictOf.new h⟩
section
variable {X:Cx}{pos:Pos}
end
def sP:List (TE×TE)→St→Hp→(List (V×V)→Hp→Prop)→Prop
 | [],_,H,Q=>Q [] H
 | (tk,tv)::r,σ,H,Q=>tk σ H fun x H1=>tv σ H1 fun y H2=>sP r σ H2 fun ps H3=>Q ((x,y)::ps) H3
abbrev VV:List (V×V)→List (Value×Value)→Prop:=Paired fun p q=>RelV p.1 q.1∧RelV p.2 q.2
def PPs (X:Cx) (pos:Pos) (keys:List (Option Expr)) (values:List Expr) (trs:List (TE×TE)):Prop :=
 ∀ (pins:List (Addr×Obj)) (s:Shared) (σ:St) (H:Hp) (Q:List (V×V)→Hp→Prop),Inv X pins σ H s→sP trs σ H Q →
  wpAny (model X.prog X.w) X.A (evalPairs (pairTrees keys values X.env pos)) (fun vs s'=>∃ ps H',Inv X pins σ H' s'∧VV ps vs∧Q ps H') X.xe s
theorem pps_nil {X:Cx}{pos:Pos}:PPs X pos [] [] []:=fun pins s σ H Q I h=>pairTrees_nil_walk ⟨[],H,I,.nil,h⟩
theorem mj {X:Cx}{pos:Pos}{k v:Expr}{ks:List (Option Expr)}{vs:List Expr}{tk tv:TE}{trs:List (TE×TE)} (hk:PE X k tk) (hv:PE X v tv) (hr:PPs X pos ks vs trs) :
  PPs X pos (some k::ks) (v::vs) ((tk,tv)::trs):=fun pins s σ H Q I h =>
 pairTrees_cons_walk (thn (hk pins s σ H _ I h) fun u R ⟨x,H1,F,O,U⟩=>thn (hv pins R σ H1 _ F U) fun w2 s2 ⟨y,H2,Z,J,q2⟩ =>
  thn (hr pins s2 σ H2 _ Z q2) fun ws s3 ⟨ps,W,G,q,Y⟩=>⟨(x,y)::ps,W,G,.cons ⟨O,J⟩ q,Y⟩)
def je (kvs more:List (Key×V)):List (Key×V):=more.foldl (fun acc kv=>sj acc kv.1 kv.2) kvs
theorem KV.merge:∀ {more:List (Key×V)}{rs:List (Key×Value)}{kvs:List (Key×V)}{vs:List (Key×Value)},KV more rs→KV kvs vs→KV (je kvs more) (merged vs rs):=by
 intro more rs kvs vs r
 unfold KV at r
 induction r generalizing kvs vs with
 | nil=>intro q;exact q
 | @cons p q ps qs h t ih =>
  intro F
  have e:KV (sj kvs p.1 p.2) (stored vs q.1 q.2):=by
   have:=F.put p.1 h.2
   rw [← h.1];exact this
  exact ih e
theorem iE:∀ (more kvs:List (Key×V)),(je kvs more).length≤kvs.length+more.length
 | [],kvs=>by show kvs.length≤kvs.length+0;omega
 | p::r,kvs=>by
  have h1:=iE r (sj kvs p.1 p.2)
  have h2:=o9 kvs p.1 p.2
  show (je (sj kvs p.1 p.2) r).length≤_
  rw [vh];omega
theorem lf {P:Program}{w:World}:∀ {kvs:List (Key×V)}{ws:List (Value×Value)},VV (kvs.map fun kv=>(kV kv.1,kv.2)) ws→∃ rs,Carries (bN P w) ws rs∧KV kvs rs
 | [],_,r=>by rw [List.map_nil] at r;cases r;exact ⟨[],True.intro,.nil⟩
 | p::kvs,_,r=>by
  rw [vV] at r
  cases r with
  | @cons a b as bs h t =>
   obtain ⟨rs,c,q⟩:=lf (P:=P) (w:=w) t
   obtain ⟨G,F⟩:=b
   exact ⟨(p.1,F)::rs,⟨kV_is h.1,rfl,c⟩,.cons ⟨rfl,h.2⟩ q⟩
def tDisp (trs:List (TE×TE)):TE:=fun σ H Q=>∀ p,H p=none→sP trs σ (upd H p (.dK [])) fun ps H2=>H2 p=some (.dK [])∧∃ kvs:List (Key×V),ps=kvs.map (fun kv=>(kV kv.1,kv.2))∧kvs.length≤15∧Q (.ref p) (upd H2 p (.dK (je [] kvs)))
theorem pe_disp {X:Cx}{pos:Pos}{keys:List (Option Expr)}{values:List Expr}{trs:List (TE×TE)} (h:PPs X pos keys values trs) (hall:keys.all (·.isSome)=true) (hl:keys.length=values.length) (h0:keys≠[])
  (h15:keys.length≤15):PE X (.Dict keys values pos) (tDisp trs):=by
 intro pins s σ H Q I q
 have hn:=I.hok.fresh (va s.heap.objs.size)
 have O:=I.laid (a:=s.heap.objs.size) (o:=.dK []) (h':=s.heap.push { cls:=.type "dict",data:=.dict #[] }) (t':=s.toks) (fun _ _ q=>Heap.get?_push_of_some _ q) (va _) (dk_empty s.heap I.big)
 refine wpAny_Dict_walk (knd:=bN X.prog X.w) hall hl h0 h15 (thn (h pins _ σ _ _ O (q _ hn)) fun ws s2 ⟨ps,H2,G,J,e,kvs,W,lk,q2⟩=>?_)
 subst W
 obtain ⟨U,c,rk⟩:=lf (P:=X.prog) (w:=X.w) J
 obtain ⟨z,Z,ai,r0,R⟩:=dk_of G.hok e
 cases r0
 refine ⟨U,c,R,fun h' F hs=>⟨.ref s.heap.objs.size,_,?_,rfl,q2⟩⟩
 have hz:(je [] kvs).length≤sizeLine:=by
  have h1:=iE kvs []
  rw [List.length_nil] at h1
  rw [sizeLine_eq];omega
 have Y:∃ q,h'.get? s.heap.objs.size=some q:=let ⟨q,_,_,hq,_⟩:=F;⟨q,hq⟩
 exact d_write G (by rw [e];exact True.intro) hs Y (dk_new hz Z (rk.merge .nil) F)
structure M1 (X:Cx) (o:Expr) (m:Str) (apos:Pos) (e:Expr) (cpos:Pos):Prop where
 base:attributeBase o m X.env (eval o X.env)=eval o X.env
 few:((backTo cpos (starEach [e] X.env)).all (fun x=>!x.1) && (backToKw cpos (keywordEach [] X.env)).all (fun x=>x.1.isSome)
  && decide (([e]:List Expr).length+([]:List Keyword).length+(if ([]:List Keyword).isEmpty then 0 else 1)<30))=true
 line:(apos.endLine == cpos.line)=true
 trees:backTo cpos (starEach [e] X.env)=[(false,eval e X.env)]
structure M2 (X:Cx) (o:Expr) (m:Str) (apos:Pos) (e f:Expr) (cpos:Pos):Prop where
 base:attributeBase o m X.env (eval o X.env)=eval o X.env
 few:((backTo cpos (starEach [e,f] X.env)).all (fun x=>!x.1) && (backToKw cpos (keywordEach [] X.env)).all (fun x=>x.1.isSome)
  && decide (([e,f]:List Expr).length+([]:List Keyword).length+(if ([]:List Keyword).isEmpty then 0 else 1)<30))=true
 line:(apos.endLine == cpos.line)=true
 trees:backTo cpos (starEach [e,f] X.env)=[(false,eval e X.env),(false,eval f X.env)]
def IsD (H:Hp) (a:Addr):Prop:=(∃ kvs,Rd H a (.dK kvs))∨∃ kvs,Rd H a (.dT kvs)
theorem isD_at {X:Cx}{pins:List (Addr×Obj)}{σ:St}{H:Hp}{s:Shared}{a:Addr} (I:Inv X pins σ H s) (d:IsD H a) :
  s.TypeIs (.ref a) "dict"∧(∀ b,Value.ref a=.ref b→∃ ob,s.heap.get? b=some ob∧ob.dict=none)∧(a == sysModules)=false:=by
 rcases d with ⟨kvs,e⟩ | ⟨kvs,e⟩
 ·obtain ⟨_,G,vs,_,F⟩:=dk_rd I.hok e
  refine ⟨F.typeIs,fun b q=>?_,G⟩
  cases q
  obtain ⟨ob,_,_,h1,h2,_⟩:=F
  exact ⟨ob,h1,h2.2.1⟩
 ·obtain ⟨_,G,xs,_,F⟩:=dt_rd I.hok e
  refine ⟨F.typeIs,fun b q=>?_,G⟩
  cases q
  obtain ⟨ob,_,_,h1,h2,_⟩:=F
  exact ⟨ob,h1,h2.2.1⟩
section
variable {X:Cx}{pins:List (Addr×Obj)}{σ:St}{H:Hp}{s:Shared}{a:Addr}{y d:V}{u r:Value}{o:Option V}{A:Around}{E:Value→Shared→Prop}
theorem d_get2 {Q:Value→Shared→Prop} (hu:A.units+1<cLine) (I:Inv X pins σ H s) (g:DGet H a y o) (ry:RelV y u) (rd:RelV d r) (h:∀ w' s',Inv X pins σ H s'→RelV (o.getD d) w'→Q w' s') :
  wpAny (model X.prog X.w) A (call (.builtin "dict.get") [.ref a,u,r]) Q E s:=by
 rcases g with ⟨kvs,k,e,J,l⟩ | ⟨kvs,k,b,e,J,R,l⟩
 ·subst J
  obtain ⟨z,O,vs,G,q⟩:=dk_rd I.hok e
  refine call_meetsIn wN q.typeIs PySem.F.entry_dict_get (PySem.F.args_dict_get_3 _ _ _) (meets_dict_get_default (bN X.prog X.w) a (kV_is ry) O r) ⟨_,q.mapOf,h _ _ (I.tok _) ?_⟩
  rw [l]
  exact (G.val k).getD rd
 ·subst J
  cases (show u=Value.ref b from ry)
  obtain ⟨z,O,xs,G,q⟩:=dt_rd I.hok e
  refine call_meetsIn wN q.typeIs PySem.F.entry_dict_get (PySem.F.args_dict_get_3 _ _ _) (meetsH_dict_get_default (tupleKind (bN X.prog X.w)) a b O r) ⟨tupleKind_room_in1 hu,k,xs,key_of I.hok R,q,h _ _ (I.tok _) ?_⟩
  rw [l]
  exact (G.val k).getD rd
end
def tDGet2 (td ty tx:TE):TE:=fun σ H Q=>td σ H fun x H1=>∃ a,x=.ref a∧IsD H1 a∧ty σ H1 fun y H2=>tx σ H2 fun z H3=>∃ o,DGet H3 a y o∧Q (o.getD z) H3
section
variable {X:Cx}{o e f:Expr}{apos cpos:Pos}{td ty tx:TE}
theorem pe_dget2 (hu:X.A.units+1<cLine) (ho:PE X o td) (he:PE X e ty) (hf:PE X f tx) (m:M2 X o "get" apos e f cpos):PE X (.Call (.Attribute o "get" apos) [e,f] [] cpos) (tDGet2 td ty tx):=by
 intro pins s σ H Q I h
 refine wpAny_Call_method m.base m.few m.line PySem.F.plainAttrs_dict wN PySem.F.type_dict_get (thn (ho pins s σ H _ I h) fun u s1 ⟨x,H1,q,rx,a,ex,d,O⟩=>?_)
 subst ex
 obtain rfl:u=Value.ref a:=rx
 obtain ⟨Y,J,_⟩:=isD_at q d
 refine ⟨Y,J,?_⟩
 rw [m.trees]
 refine Calls.callWith_builtin rfl (Calls.evalArgs_plain (Calls.spliced_cons (thn (he pins s1 σ H1 _ q O) fun iv U ⟨y,H2,I2,ry,R⟩ =>
  Calls.spliced_cons (thn (hf pins U σ H2 _ I2 R) fun fv s3 ⟨z,H3,I3,W,ov,g,Z⟩=>Calls.spliced_nil ?_))))
 exact d_get2 hu I3 g ry W fun w' s4 I4 G=>⟨_,H3,I4,G,Z⟩
end
section
variable {X:Cx}{pins:List (Addr×Obj)}{σ:St}{H:Hp}{s:Shared}{a:Addr}{kvs:List (Key×V)}{A:Around}{E:Value→Shared→Prop}
end
section
variable {X:Cx}{pins:List (Addr×Obj)}{σ:St}{H:Hp}{s:Shared}{a:Addr}{y:V}{u:Value}{A:Around}{E:Value→Shared→Prop}
end
end L2
namespace L2
open PySem PySem.Spec PyProof.Rows
section
variable {P:Program}{w:World}{H:Hp}{h h':Heap}{p:Addr}{o:HO}{ch:List Addr}
theorem HOk.keptBut (x:HOk P w H h) (k:∀ b u,b∉ch→h.get? b=some u→h'.get? b=some u) (hn:∀ b∈ch,H b=none):HOk P w H h':=fun b u e =>
 (x b u e).stay (fun c v hc q=>k c v (fun hm=>by
  rcases hc with z | z
  ·rw [z] at hm;rw [hn _ hm] at e;cases e
  ·rw [hn c hm] at z;cases z) q) (fun _ q=>q) fun _ _ q=>q
theorem HOk.laidBut (x:HOk P w H h) (k:∀ b u,b∉ch→h.get? b=some u→h'.get? b=some u) (hn:∀ b∈ch,H b=none) (hp:h.objs.size≤p) (new:ObjOk P w (upd H p o) h' p o):HOk P w (upd H p o) h':=fun b u e=>by
 have F:=x.fresh hp
 by_cases hb:b=p
 ·subst hb;rw [upd_same] at e;cases e;exact new
 ·rw [az hb] at e
  refine (x b u e).stay (fun c v hc q=>k c v (fun G=>?_) q) (fun c q=>by rw [az (aq q F)];exact q) fun c xs q=>by rw [az (aq q F)];exact q
  rcases hc with z | z
  ·rw [z] at G;rw [hn _ G] at e;cases e
  ·rw [hn c G] at z;cases z
end
section
variable {X:Cx}{pins:List (Addr×Obj)}{σ:St}{H H':Hp}{s:Shared}{h':Heap}
theorem Inv.turnedL {t':Nat}{ch:List Addr} (I:Inv X pins σ H s) (hf:∀ b∈ch,oB X pins H b) (k:∀ b u,b∉ch→s.heap.get? b=some u→h'.get? b=some u)
  (hH:∀ b u,H b=some u→H' b=some u) (hfree:∀ b u,s.heap.get? b=some u→H b=none→H' b=none) (hok:HOk X.prog X.w H' h'):Inv X pins σ H' { s with heap:=h',toks:=t' }:=by
 refine I.step (g':=s.gens) (d':=s.drawn) (ch:=ch) (fun b hb=>?_) (fun b u _ _ hc e _=>k b u hc e) (fun b u _ _ hc e _=>⟨u.slots,k b u hc e⟩) (fun b u _ e n=>hfree b u e n)
  (fun b u hc e=>⟨u,k b u hc e⟩) (fun b xs e=>hH _ _ e) (fun b u v e=>hH _ _ e) (fun b ps e=>⟨#[],by rw [hH _ _ e];simp⟩) (fun m F=>?_) hok I.bare
 ·obtain ⟨Y,O,W,J,q,R⟩:=hf b hb
  exact ⟨J,O,q,R⟩
 ·obtain ⟨u,es,G,U,r⟩:=F
  exact ⟨u,es,G,k _ u (fun z=>(hf _ z).2.1 rfl) U,r⟩
theorem Inv.turnedK {t':Nat}{ch:List Addr} (I:Inv X pins σ H s) (hf:∀ b∈ch,oB X pins H b) (k:∀ b u,b∉ch→s.heap.get? b=some u→h'.get? b=some u):Inv X pins σ H { s with heap:=h',toks:=t' } :=
 I.turnedL hf k (fun _ _ e=>e) (fun _ _ _ e=>e) (I.hok.keptBut k fun b hb=>(hf b hb).1)
theorem Inv.turnedN {t':Nat}{ch:List Addr}{p:Addr}{o:HO} (I:Inv X pins σ H s) (hf:∀ b∈ch,oB X pins H b) (k:∀ b u,b∉ch→s.heap.get? b=some u→h'.get? b=some u)
  (hp:s.heap.objs.size≤p) (new:ObjOk X.prog X.w (upd H p o) h' p o):Inv X pins σ (upd H p o) { s with heap:=h',toks:=t' } :=
 I.turnedL hf k (fun b u e=>by rw [az (aq e (I.hok.fresh hp))];exact e)
  (fun b u e n=>by rw [az (vW (vF (Heap.lt_size e) hp))];exact n) (I.hok.laidBut k (fun b hb=>(hf b hb).1) hp new)
end
theorem on1 {p:Addr→Prop}{a:Addr} (h:p a):∀ b∈[a],p b:=fun b hb=>by
 rw [show b=a by simpa using hb]
 exact h
def uX (K:PySem.W.Frag) (a:Addr) (n:Nat):It :=
 ⟨fun i H=>i<n∧∃ xs,SqL K H a xs∧xs.length=n,fun i H x H'=>H'=H∧∀ xs,SqL K H a xs→xs.length=n→xs[n - 1 - i]?=some x,fun i _=>i=n⟩
theorem turn_rev {P:Program}{w:World}{K:PySem.W.Frag}{tg:Expr} (a it:Addr) (n:Nat):Turn P w K tg (uX K a n) [it] it (fun i h=>h.IsRevIter it a ((n:Int) - 1 - (i:Nat))) where
 mem:=by simp
 obj:=fun i h st b hb=>by
  have e:b=it:=by simpa using hb
  subst e
  obtain ⟨o,e,c,d⟩:=st
  exact ⟨o,e,fun v z=>by rw [d] at z;cases z⟩
 keep:=fun i h h' st k=>st.at fun o e=>k it (by simp) o e
 item:=by
  intro X J O U hc i pins s σ H E I hf st R
  subst J O U
  obtain ⟨G,xs,Z,hl⟩:=R
  obtain ⟨a3,rv,p,hz⟩:=I.list Z
  have hj:n - 1 - i<xs.length:=by omega
  have Y:xs[n - 1 - i]?=some xs[n - 1 - i]:=rz hj
  obtain ⟨u,hu,ru⟩:=rv.get Y
  have f:=hf it (by simp)
  have e1:(n:Int) - 1 - (i:Nat)=((n - 1 - i:Nat):Int):=by omega
  have e2:((n - 1 - i:Nat):Int) - 1=(n:Int) - 1 - ((i+1:Nat):Int):=by omega
  have q:=st
  rw [e1] at q
  refine wpAny_pyNext_rev_item q p.isList (x:=u) (by simpa using hu) fun h' F sb=>?_
  rw [e2] at F
  have I1:Inv X pins σ H { s with heap:=h' }:=I.turnedK (t':=s.toks) (ch:=[it]) (on1 f) fun b o hb e=>(sb.2 b (by simpa using hb)).trans e
  obtain ⟨o,e,c,d⟩:=id F
  exact ⟨u,rfl,go_of (s:={ s with heap:=h' }) e c d (by decide) ⟨xs[n - 1 - i],H,I1,ru,⟨rfl,fun ys hy _=>by rw [I.list_inj hy Z];exact Y⟩,F,fun b hb=>(hf b hb).1⟩⟩
 done:=by
  intro X J O U hc i pins s σ H E I hf st R
  subst J O U
  have G:i=n:=R
  subst G
  have f:=hf it (by simp)
  have q:=st
  rw [show (i:Int) - 1 - (i:Nat) = -1 by omega] at q
  exact wpAny_pyNext_rev_end (I.ok.hd hc) q fun h' eb=>⟨rfl,I.turnedK (t':=s.toks) (ch:=[it]) (on1 f) fun b o hb e=>eb b o (by simpa using hb) e⟩
 self:=fun _ _ _ _ _ st h=>wpAny_pyIter_revIter st h
def iRev (K:PySem.W.Frag) (ta:TA):TI:=fun σ H R=>ta σ H fun vs H1=>∃ l xs,vs=[.ref l]∧SqL K H1 l xs∧R (uX K l xs.length) H1
section
variable {X:Cx}{tg:Expr}
theorem rQ {pins:List (Addr×Obj)}{σ:St}{H H':Hp}{s:Shared} (I:Inv X pins σ H s) (hH:∀ b,s.heap.objs.size≤b→H' b=none) {fp:List Addr} (h:∀ b∈fp,s.heap.objs.size≤b):∀ b∈fp,oB X pins H' b :=
 fun b hb=>I.fpOk (h b hb) (hH b (h b hb))
theorem pi_rev {a:Expr}{ta:TA}{p pos:Pos} (hg:Gl X "reversed") (hm:X.mg "reversed"=none) (ha:PA X [a] ta) (hs:starEach [a] X.env=[(false,eval a X.env)]:=by rfl):PI X tg (.Call (.Name "reversed" p) [a] [] pos) (iRev X.K ta):=by
 intro pins s σ H R I h
 refine Call_ (eX I hg hm boot_reversed (vM (thn (ha pos pins s σ H _ I h) fun us F ⟨vs,H1,G,r1,U⟩=>?_) hs rfl))
 obtain ⟨l,xs,e,Y,q⟩:=U
 subst e
 obtain ⟨u,rfl,O⟩:=r1.one
 cases O
 obtain ⟨J,Z,W,hz⟩:=G.list Y
 refine call_reversed_list W.isList ?_
 have st:Heap.IsRevIter (F.heap.push (revObj l ((J.toArray.size:Int) - 1))) F.heap.objs.size l ((xs.length:Int) - 1 - ((0:Nat):Int)):=by
  refine ⟨_,Heap.get?_push_size _ rfl,rfl,?_⟩
  have e:((J.toArray.size:Nat):Int) - 1=(xs.length:Int) - 1 - ((0:Nat):Int):=by rw [vg,← Z.length];omega
  rw [← e]
  rfl
 refine wpAny_pyIter_revIter st ?_
 refine ⟨F.heap.objs.size,[F.heap.objs.size],_,_,H1,rfl,G.kept (t':=F.toks) fun b o e=>Heap.get?_push_of_some _ e,turn_rev l _ xs.length,st,?_,q⟩
 exact rQ G (fun b hb=>G.hok.fresh hb) (on1 (p:=fun b=>F.heap.objs.size≤b) (va _))
end
def Itz (K:PySem.W.Frag) (a b:Addr):It :=
  ⟨fun i H=>∃ xs ys x y,SqL K H a xs∧SqL K H b ys∧xs[i]?=some x∧ys[i]?=some y,
   fun i H v H'=>∃ p,H p=none∧v=.ref p∧∀ xs ys x y,SqL K H a xs→SqL K H b ys→xs[i]?=some x→ys[i]?=some y→H'=upd H p (.tup [x,y]),
   fun i H=>∃ xs ys,SqL K H a xs∧SqL K H b ys∧(xs.length≤i∨ys.length≤i)⟩
section
variable {X:Cx}{pins:List (Addr×Obj)}{σ:St}{H:Hp}{s:Shared}
theorem Inv.list_apart (I:Inv X pins σ H s) {a b:Addr}{xs:List V} (h:SqL X.K H a xs) {o:Obj} (e:s.heap.get? b=some o) (hc:o.cls≠.type "list"):a≠b:=by
 intro z
 obtain ⟨its,rv,p,hz⟩:=I.list h
 obtain ⟨o',e',c',_⟩:=p.isList
 rw [z,e] at e'
 cases e'
 exact hc c'
end
theorem turn_zip {P:Program}{w:World}{K:PySem.W.Frag}{elts:List Expr}{k1:Nat}{tp:Pos} (a b z TI TO i1 i2:Addr)
  (d1:TI≠z) (d2:TO≠z) (d3:i1≠z) (d4:i2≠z) (d5:TI≠TO) (d6:TI≠i1) (d7:TI≠i2) (d8:TO≠i1) (d9:TO≠i2) (d10:i1≠i2) :
  Turn P w K (.Tuple elts k1 tp) (Itz K a b) [z,TI,TO,i1,i2] z (fun i h=>IsZip h z TI TO .none∧IsPair h TI (.ref i1) (.ref i2)∧(∃ u v,IsPair h TO u v)∧h.IsListIter i1 a i∧h.IsListIter i2 b i) where
 mem:=by simp
 obj:=fun i h st c hb=>by
  obtain ⟨J,U,⟨u,v,O⟩,⟨o4,Y,_,t4⟩,⟨o5,Z,_,t5⟩⟩:=st
  simp only [u8,ve,or_false] at hb
  rcases hb with rfl | rfl | rfl | rfl | rfl
  ·exact ⟨_,J,fun v z=>by cases z⟩
  ·exact ⟨_,U,fun v z=>by cases z⟩
  ·exact ⟨_,O,fun v z=>by cases z⟩
  ·exact ⟨_,Y,fun v z=>by rw [t4] at z;cases z⟩
  ·exact ⟨_,Z,fun v z=>by rw [t5] at z;cases z⟩
 keep:=fun i h h' st k=>by
  obtain ⟨J,U,⟨u,v,O⟩,Y,Z⟩:=st
  exact ⟨k z (by simp) _ J,k TI (by simp) _ U,⟨u,v,k TO (by simp) _ O⟩,Y.at fun o e=>k i1 (by simp) o e,Z.at fun o e=>k i2 (by simp) o e⟩
 item:=by
  intro X hP hw hK hc i pins s σ H E I hf st hg
  subst hP hw hK
  obtain ⟨xs,ys,x,y,G,F,hx,hy⟩:=hg
  obtain ⟨J,U,⟨u,v,O⟩,Y,Z⟩:=st
  obtain ⟨ag,an,p1,z1⟩:=I.list G
  obtain ⟨ai,al,p2,z2⟩:=I.list F
  obtain ⟨u1,cb,cl⟩:=an.get hx
  obtain ⟨u2,cc,cp⟩:=al.get hy
  have e4:=Y
  have e5:=Z
  obtain ⟨o4,R,c4,_⟩:=e4
  obtain ⟨o5,q5,c5,_⟩:=e5
  have n4:o4.cls≠.type "list":=by rw [c4];decide
  have n5:o5.cls≠.type "list":=by rw [c5];decide
  have D:ZipApart z TI TO i1 i2 a b:=⟨d1,d2,d3,d4,d5,d6,d7,d8,d9,d10,
   I.list_apart G J (show Value.type "zip"≠Value.type "list" by decide),I.list_apart G O (show Value.type "tuple"≠Value.type "list" by decide),I.list_apart G R n4,I.list_apart G q5 n5,
   I.list_apart F J (show Value.type "zip"≠Value.type "list" by decide),I.list_apart F O (show Value.type "tuple"≠Value.type "list" by decide),I.list_apart F R n4,I.list_apart F q5 n5⟩
  refine wpAny_pyNext_zip_item D J U O Y Z p1.isList p2.isList (x:=u1) (y:=u2) (by simpa using cb) (by simpa using cc) fun h' a1 a2 a3 a4 a5 a6 a7=>?_
  refine ⟨_,rfl,?_⟩
  refine wpAny_letOwnedTupleGo_zip (s:={ s with heap:=h' }) a1 fun h2 cr ab=>?_
  have lt:∀ {c:Addr}{o:Obj},s.heap.get? c=some o→s.heap.objs.size≠c:=fun e=>Nat.ne_of_gt (Heap.lt_size e)
  have kk:∀ c o,c∉[z,TO,i1,i2]→s.heap.get? c=some o→h2.get? c=some o:=fun c o q e=>by
   simp only [u8,ve,or_false,not_or] at q
   exact (ab.2 c q.1).trans (a7 c o q.1 q.2.1 q.2.2.1 q.2.2.2 e)
  have pT:h2.get? s.heap.objs.size=some { cls:=.type "tuple",data:=.seq #[u1,u2] }:=(ab.2 _ (lt J)).trans a5
  have I2:Inv X pins σ (upd H s.heap.objs.size (.tup [x,y])) { s with heap:=h2 }:=I.turnedN (t':=s.toks) (ch:=[z,TO,i1,i2]) (p:=s.heap.objs.size) (o:=.tup [x,y]) (fun c q=>hf c (by
   simp only [u8,ve,or_false] at q ⊢
   rcases q with r | r | r | r<;>simp [r])) kk (va _) ⟨(by show 2≤sizeLine;decide),[u1,u2],.cons cl (.cons cp .nil),⟨_,pT,rfl,_,rfl⟩⟩
  have fr:H s.heap.objs.size=none:=I.fresh
  refine ⟨.ref s.heap.objs.size,_,I2,rfl,⟨_,fr,rfl,fun dl dp x' y' q1 q2 q3 R=>?_⟩,⟨cr,?_,⟨_,_,(ab.2 TO d2).trans a2⟩,a3.at fun o e=>(ab.2 i1 d3).trans e,a4.at fun o e=>(ab.2 i2 d4).trans e⟩,fun c q=>?_⟩
  ·rw [I.list_inj q1 G] at q3
   rw [I.list_inj q2 F] at R
   rw [hx] at q3
   rw [hy] at R
   cases q3
   cases R
   rfl
  ·exact kk TI _ (by simp only [u8,ve,or_false,not_or];exact ⟨d1,d5,d6,d7⟩) U
  ·have cf:c≠s.heap.objs.size:=by
    simp only [u8,ve,or_false] at q
    rcases q with rfl | rfl | rfl | rfl | rfl
    ·exact (lt J).symm
    ·exact (lt U).symm
    ·exact (lt O).symm
    ·exact (lt R).symm
    ·exact (lt q5).symm
   rw [az cf]
   exact (hf c q).1
 done:=by
  intro X hP hw hK hc i pins s σ H E I hf st hg
  subst hP hw hK
  obtain ⟨xs,ys,G,F,b4⟩:=hg
  obtain ⟨J,U,⟨u,v,O⟩,Y,Z⟩:=st
  obtain ⟨ag,an,p1,z1⟩:=I.list G
  obtain ⟨ai,al,p2,z2⟩:=I.list F
  have e4:=Y
  have e5:=Z
  obtain ⟨o4,R,c4,_⟩:=e4
  obtain ⟨o5,q5,c5,_⟩:=e5
  have n4:o4.cls≠.type "list":=by rw [c4];decide
  have n5:o5.cls≠.type "list":=by rw [c5];decide
  have D:ZipApart z TI TO i1 i2 a b:=⟨d1,d2,d3,d4,d5,d6,d7,d8,d9,d10,
   I.list_apart G J (show Value.type "zip"≠Value.type "list" by decide),I.list_apart G O (show Value.type "tuple"≠Value.type "list" by decide),I.list_apart G R n4,I.list_apart G q5 n5,
   I.list_apart F J (show Value.type "zip"≠Value.type "list" by decide),I.list_apart F O (show Value.type "tuple"≠Value.type "list" by decide),I.list_apart F R n4,I.list_apart F q5 n5⟩
  have l1:=an.length
  have l2:=al.length
  have a8:ag.toArray[i]?=none∨ai.toArray[i]?=none:=by
   rcases b4 with r | r
   ·exact .inl (Array.getElem?_eq_none (by rw [vg];omega))
   ·exact .inr (Array.getElem?_eq_none (by rw [vg];omega))
  refine wpAny_pyNext_zip_end (I.ok.hd hc) D J U O Y Z p1.isList p2.isList a8 fun h' k=>⟨rfl,?_⟩
  exact I.turnedK (t':=s.toks) (ch:=[z,TO,i1,i2]) (fun c q=>hf c (by
   simp only [u8,ve,or_false] at q ⊢
   rcases q with r | r | r | r<;>simp [r])) fun c o q e=>by
    simp only [u8,ve,or_false,not_or] at q
    exact k c o q.1 q.2.1 q.2.2.1 q.2.2.2 e
 self:=fun _ _ _ _ _ st h=>wpAny_pyIter_zip st.1 h
def iZip (K:PySem.W.Frag) (ta:TA):TI:=fun σ H R=>ta σ H fun vs H1=>∃ a b xs ys,vs=[.ref a,.ref b]∧SqL K H1 a xs∧SqL K H1 b ys∧R (Itz K a b) H1
section
variable {X:Cx}
theorem gI {elts:List Expr}{k1:Nat}{tp:Pos}{a b:Expr}{ta:TA}{p pos:Pos} (hg:Gl X "zip") (hm:X.mg "zip"=none) (ha:PA X [a,b] ta)
  (hs:starEach [a,b] X.env=[(false,eval a X.env),(false,eval b X.env)]:=by rfl) (hs2:starEach [b] X.env=[(false,eval b X.env)]:=by rfl):PI X (.Tuple elts k1 tp) (.Call (.Name "zip" p) [a,b] [] pos) (iZip X.K ta):=by
 intro pins s σ H R I h
 refine Call_ (eX I hg hm boot_zip (vM (thn (ha pos pins s σ H _ I h) fun us F ⟨vs,H1,G,r1,q1⟩=>?_) (by rw [hs,hs2]) (by rw [hs2];rfl)))
 obtain ⟨l1,l2,xs,ys,e,J,W,q⟩:=q1
 subst e
 obtain ⟨u1,u2,rfl,O,Y⟩:=r1.two
 cases O
 cases Y
 obtain ⟨af,be,p1,z1⟩:=G.list J
 obtain ⟨al,bb,p2,z2⟩:=G.list W
 refine call_zip_2 p1.isList p2.isList fun h' U a2 a3 a4 Z a6 a7=>?_
 refine wpAny_pyIter_zip (s:={ F with heap:=h' }) U ?_
 have big:∀ k:Nat,F.heap.objs.size≤F.heap.objs.size+k:=fun k=>Nat.le_add_right _ _
 refine ⟨_,[F.heap.objs.size+4,F.heap.objs.size+2,F.heap.objs.size+3,F.heap.objs.size,F.heap.objs.size+1],_,_,H1,rfl,G.kept (t':=F.toks) fun c o e=>a7 c o e,
  turn_zip l1 l2 _ _ _ _ _ (by simp) (by simp) (by simp) (by simp) (by simp) (by simp) (by simp) (by simp) (by simp) (by simp),⟨U,a2,⟨_,_,a3⟩,a4,Z⟩,?_,q⟩
 refine rQ G (fun c hc=>G.hok.fresh hc) fun c hc=>?_
 simp only [u8,ve,or_false] at hc
 rcases hc with r | r | r | r | r<;>rw [r]
 ·exact big 4
 ·exact big 2
 ·exact big 3
 ·exact va _
 ·exact big 1
end
def uL (env:Env):List (Str×NameKind)→List (Str×Addr)→List (Str×Addr)
 | [],acc=>acc
 | (n,k)::r,acc=>uL env r (if k == .free then (n,(env.cells.lookup n).getD 0)::acc else acc)
theorem uK (env:Env):∀ (ns:List (Str×NameKind)) (acc:List (Str×Addr)),(∀ n,(n,NameKind.free)∈ns→∃ c,env.cells.lookup n=some c) →
  (forIn ns acc (fun (x:Str×NameKind) (cs:List (Str×Addr))=>(if (x.2 == NameKind.free)=true then (do let c ← cellOf env x.1;pure (ForInStep.yield ((x.1,c)::cs))) else pure (ForInStep.yield cs):Sem (ForInStep (List (Str×Addr))))))=(pure (uL env ns acc):Sem _)
 | [],acc,_=>rfl
 | (n,k)::r,acc,h=>by
  have F:=uK env r (if k == .free then (n,(env.cells.lookup n).getD 0)::acc else acc) fun m J=>h m (vd _ J)
  rw [List.forIn_cons]
  cases q:(k == NameKind.free) with
  | false =>
   simp only [q,Bool.false_eq_true,if_false,pure_bind] at F ⊢
   rw [F]
   show _=(pure (uL env r (if (k == NameKind.free)=true then _ else acc)):Sem _)
   rw [q]
   rfl
  | true =>
   have G:k=.free:=by simpa using q
   obtain ⟨c,e⟩:=h n (by rw [G];exact vb)
   have I:cellOf env n=pure c:=by unfold cellOf;rw [e]
   simp only [q,if_true,I,pure_bind,e,Option.getD_some] at F ⊢
   rw [F]
   show _=(pure (uL env r (if (k == NameKind.free)=true then (n,(env.cells.lookup n).getD 0)::acc else acc)):Sem _)
   rw [q,e]
   rfl
theorem qz (env:Env):∀ (ns:List (Str×NameKind)) (acc:List (Str×Addr)),(∀ n,(n,NameKind.free)∈ns→∃ c,env.cells.lookup n=some c)→(∀ p∈acc,env.cells.lookup p.1=some p.2)→∀ p∈uL env ns acc,env.cells.lookup p.1=some p.2
 | [],_,_,ha=>ha
 | (n,k)::r,acc,h,ha=>by
  refine qz env r _ (fun m G=>h m (vd _ G)) fun p hp=>?_
  cases q:(k == NameKind.free) with
  | false =>
   rw [q] at hp
   exact ha p hp
  | true =>
   have F:k=.free:=by simpa using q
   obtain ⟨c,e⟩:=h n (by rw [F];exact vb)
   rw [q,e] at hp
   rcases u8.mp hp with z | z
   ·rw [z]
    exact e
   ·exact ha p z
theorem mH (env:Env) {x:Str}:∀ (ns:List (Str×NameKind)) (acc:List (Str×Addr)),((x,NameKind.free)∈ns∨∃ c,(x,c)∈acc)→∃ c,(x,c)∈uL env ns acc
 | [],acc,h=>by
  rcases h with h | h
  ·cases h
  ·exact h
 | (n,k)::r,acc,h=>by
  refine mH env r _ ?_
  rcases h with h | ⟨c,h⟩
  ·rcases u8.mp h with z | z
   ·cases z
    exact .inr ⟨_,vb⟩
   ·exact .inl z
  ·refine .inr ⟨c,?_⟩
   split
   ·exact vd _ h
   ·exact h
theorem eM {α:Type}{x:Str}:∀ {l:List (Str×α)}{c:α},(x,c)∈l→∃ d,l.lookup x=some d
 | (n,d)::r,c,h=>by
  by_cases e:x=n
  ·exact ⟨d,by rw [vD];simp [e]⟩
  ·have hb:(x == n)=false:=beq_eq_false_iff_ne.mpr e
   rcases u8.mp h with z | z
   ·exact absurd (congrArg Prod.fst z) e
   ·obtain ⟨d',q⟩:=eM z
    exact ⟨d',by rw [vD,hb];exact q⟩
def qy (N:List Str) (sc scope:Scope) (own:List Str) (caps:List (Str×Nat)):Bool :=
 decide (scope.kind=.function) && scope.names.all (fun y=>decide (y.2≠.cell)) && scope.names.all (fun y=>decide (y.2=.local→scope.names.lookup y.1=some .local)) &&
 scope.names.all (fun y=>decide (y.2=.free→(sc.names.lookup y.1=some .cell∨sc.names.lookup y.1=some .free))) &&
 caps.all (fun p=>decide (N[p.2]?=some p.1∧scope.names.lookup p.1=some .free)) && decide (own++caps.map (·.1)).Nodup
def du (X:Cx) (N:List Str) (scope:Scope) (C:Addr) (s₀:Shared) (H₀:Hp) (ex:List Addr):Cx :=
 { X with N:=N,s₀:=s₀,H₀:=H₀,env:=compEnvC scope (uL X.env scope.names []) C X.env,outer:=X.stack,stack:=X.stack,ex:=ex,fn:=fun _=>false,pn:=[],xe:=fun _ _=>False }
theorem jQ {scope:Scope}{env:Env}{x:Str}{k:NameKind} (hc:∀ y∈scope.names,y.2≠.cell) (h:(relabel scope env).names.lookup x=some k) (hk:k=.cell∨k=.free):(x,NameKind.free)∈scope.names:=by
 have F:=wj h
 obtain ⟨⟨n,G⟩,h1,h2⟩:=vP.mp F
 dsimp only at h2
 split at h2
 ·rename_i c
  have q:G=.free:=by
   simp only [vx] at c
   simpa using c.1.1
  cases h2
  rw [q] at h1
  exact h1
 ·cases h2
  rcases hk with z | z
  ·exact absurd z (hc _ h1)
  ·rw [z] at h1
   exact h1
structure sf (N:List Str) (sc scope:Scope) (own:List Str) (caps:List (Str×Nat)):Prop where
 kind:scope.kind=.function
 nocell:∀ y∈scope.names,y.2≠.cell
 loc:∀ y∈scope.names,y.2=.local→scope.names.lookup y.1=some .local
 fre:∀ y∈scope.names,y.2=.free→(sc.names.lookup y.1=some .cell∨sc.names.lookup y.1=some .free)
 cap:∀ p∈caps,N[p.2]?=some p.1∧scope.names.lookup p.1=some .free
 nd:(own++caps.map (·.1)).Nodup
theorem qx {N:List Str}{sc scope:Scope}{own:List Str}{caps:List (Str×Nat)} (h:qy N sc scope own caps=true):sf N sc scope own caps:=by
 simp only [qy,vx,vv,decide_eq_true_eq] at h
 obtain ⟨⟨⟨⟨⟨h1,h2⟩,h3⟩,h4⟩,h5⟩,h6⟩:=h
 exact ⟨h1,h2,h3,h4,h5,h6⟩
def capV (caps:List (Str×Nat)) (σ:St):St:=caps.map fun p=>(σ[p.2]?).join
section
variable {X:Cx}{pins:List (Addr×Obj)}{σ:St}{H:Hp}{s:Shared}{scope:Scope}{own:List Str}{caps:List (Str×Nat)}{fp:List Addr}
theorem qw (ok:X.Ok) (S:sf X.N X.env.scope scope own caps):∀ n,(n,NameKind.free)∈scope.names→∃ c,X.env.cells.lookup n=some c:=fun n hn=>ok.has n (S.fre _ hn rfl)
theorem oh (ok:X.Ok) (S:sf X.N X.env.scope scope own caps):closureFor scope X.env=pure (uL X.env scope.names []):=by
 unfold closureFor
 have q:=uK X.env scope.names [] (qw ok S)
 show (forIn scope.names [] _ >>= fun r=>pure r)=_
 rw [bind_pure]
 exact q
theorem rX (ok:X.Ok) (S:sf X.N X.env.scope scope own caps) {x:Str}{c:Addr} (h:(uL X.env scope.names []).lookup x=some c):X.env.cells.lookup x=some c :=
 qz X.env scope.names [] (qw ok S) (fun _ z=>nomatch z) _ (wj h)
theorem comp_inv (I:Inv X pins σ H s) (S:sf X.N X.env.scope scope own caps) (hf:∀ b∈fp,oB X pins H b) (hb:∀ b∈fp,b<s.heap.objs.size) {C:Addr} (hC:s.heap.objs.size≤C) {h₁:Heap}{tk:Nat}{m:Str→Option Value}
  (hn:h₁.Ns C m) (kk:∀ b o,s.heap.get? b=some o→h₁.get? b=some o) :
  Inv (du X (own++caps.map (·.1)) scope C s H fp) [] (List.replicate own.length none++capV caps σ) H { s with heap:=h₁,toks:=tk }:=by
 have ok:=I.ok
 have F:=fun {x:Str}{c:Addr}=>rX (x:=x) (c:=c) ok S
 have R:∀ {x:Str}{c:Addr}{v:Option Value},s.heap.IsCell c v→h₁.IsCell c v:=fun ⟨o,ho,hd⟩=>⟨o,kk _ _ ho,hd⟩
 refine ⟨⟨ok.mod,S.kind,ok.glob,ok.blt,hC,fun x y c h1 h2=>ok.inj x y c (F h1) (F h2),fun x hx=>?_,(fun x c hx=>nomatch hx),ok.hd,ok.frames,.inl rfl,fun b G=>⟨?_,fun x c e=>?_⟩,I.bs,vG ok.bsz I.sz,fun b o e G=>?_,fun b G hs=>?_,I.stack,I.stkFree⟩,
  rfl,I.bare,Un.kept kk,⟨m,hn,fun i x v O J e3=>?_⟩,fun x c e=>?_,I.hok.fresh hC,fun x c e=>I.freeC x c (F e),(fun p hp=>nomatch hp),I.hok.kept kk,?_⟩
 ·have hm:(x,NameKind.free)∈scope.names:=by
   rcases hx with z | z
   ·exact jQ S.nocell z (.inl rfl)
   ·exact jQ S.nocell z (.inr rfl)
  obtain ⟨c,hc⟩:=mH X.env scope.names [] (.inl hm)
  exact eM hc
 ·exact vW (vF (hb b G) hC)
 ·exact (hf b G).2.2.2.2.1 x c (F e)
 ·rcases (hf b G).2.2.2.1 with z | z
  ·exact ok.noex b o e z
  ·exact absurd (vF (Heap.lt_size e) (vG ok.bsz z)) (Nat.lt_irrefl _)
 ·rcases u8.mp (I.stkSub b hs) with z | z
  ·exact (hf b G).2.1 z
  ·exact (hf b G).2.2.1 z
 ·by_cases hi:i<own.length
  ·rw [vS (by rw [vK];exact hi),List.getElem?_replicate,if_pos hi] at J
   cases J
  ·have Y:own.length≤i:=Nat.le_of_not_lt hi
   have O:(own++caps.map (·.1))[i]?=some x:=O
   rw [vR Y,u5] at O
   rw [vR (by rw [vK];exact Y),vK] at J
   unfold capV at J
   rw [u5] at J
   cases ec:caps[i - own.length]? with
   | none=>rw [ec] at O;cases O
   | some p =>
    rw [ec] at O J
    have ex:p.1=x:=vz O
    have W:(σ[p.2]?).join=some v:=vz J
    have es:σ[p.2]?=some (some v):=by
     cases q:σ[p.2]? with
     | none=>rw [q] at W;cases W
     | some w'=>rw [q] at W;exact congrArg some W
    obtain ⟨c1,c2⟩:=S.cap p (u4 ec)
    rw [ex] at c1 c2
    have Z:(x,NameKind.free)∈scope.names:=wj c2
    have a1:Vis X.env.scope x:=by
     rcases S.fre _ Z rfl with z | z
     ·exact .inr (.inl z)
     ·exact .inr (.inr z)
    obtain ⟨m0,a5,as⟩:=id I.loc
    obtain ⟨u,ru,lk⟩:=as p.2 x v c1 es a1
    refine ⟨u,ru,.inr ⟨?_,?_⟩⟩
    ·have e3:Vis (relabel scope X.env) x:=e3
     rcases e3 with z | z | z
     ·exfalso
      have hm:=wj z
      obtain ⟨⟨n,k'⟩,h1,h2⟩:=vP.mp hm
      dsimp only at h2
      split at h2
      ·cases h2
      ·cases h2
       have:=S.loc _ h1 rfl
       rw [c2] at this
       cases this
     ·exact .inl z
     ·exact .inr z
    ·rcases lk with ⟨z,_⟩ | ⟨_,c,hc,U⟩
     ·exfalso
      have z:X.env.scope.names.lookup x=some .local:=z
      rcases S.fre _ Z rfl with z' | z'<;>rw [z] at z'<;>cases z'
     ·obtain ⟨c',an⟩:=mH X.env scope.names [] (.inl Z)
      obtain ⟨d,hd⟩:=eM an
      have:=F hd
      rw [hc] at this
      cases this
      exact ⟨c,hd,R (x:=x) U⟩
 ·obtain ⟨v,q⟩:=I.cell x c (F e)
  exact ⟨v,R (x:=x) q⟩
 ·show (List.replicate own.length none++capV caps σ).length=(own++caps.map (·.1)).length
  unfold capV
  rw [u7,u7,vK,lH,lH]
theorem uI (I:Inv X pins σ H s) (hf:∀ b∈fp,oB X pins H b) {C:Addr}{N:List Str}{σ':St}{H':Hp}{s':Shared}{pins':List (Addr×Obj)} (I':Inv (du X N scope C s H fp) pins' σ' H' s'):Inv X pins σ H' s' :=
 I.call' I'.os I'.base I'.hok I'.bare fun b hb=>⟨(hf b hb).2.2.2.1,(hf b hb).2.1,(hf b hb).2.2.2.2.1,(hf b hb).2.2.2.2.2⟩
end
def PTs (X:Cx) (ifs:List Expr) (t:TT):Prop :=
 ∀ (pins:List (Addr×Obj)) (s:Shared) (σ:St) (H:Hp) (Q:Bool→Hp→Prop),Inv X pins σ H s→t σ H Q →
  wpAny (model X.prog X.w) X.A (forIn ifs true fun c r=>if r=true then do let ok ← isTrue c X.env (eval c X.env);pure (ForInStep.yield ok) else pure (ForInStep.yield r)) (TP X pins σ Q) X.xe s
def tYes:TT:=fun _ H Q=>Q true H
theorem bc {X:Cx}:PTs X [] tYes:=fun _ _ _ H _ I h=>wpAny_tests_nil ⟨H,I,h⟩
theorem l7 {X:Cx}{c:Expr}{t:TT} (h:PT X c t):PTs X [c] t:=fun pins s σ H Q I q=>wpAny_tests_one (h pins s σ H Q I q)
theorem uH {prog:Program}{w:World}{A:Around}{elt tg iter:Expr}{ifs:List Expr}{scope:Scope}{pos:Pos}{it acc:Value}{env:Env}{R:Result→Shared→Prop}{s:Shared} (J:Nat→Shared→Prop)
  (turn:∀ n s,J n s→wpAny (model prog w) A (pyNext it) (fun r s₁=>match r with
   | none=>R (.ok .next) s₁
   | some v=>wpAny (model prog w) A (letOwnedTupleGo tg it v) (fun _ s₂=>wpAny (model prog w) A (assign tg env v) (fun _ s₃ =>
     wpAny (model prog w) A (forIn ifs true fun c r=>if r=true then do let ok ← isTrue c env (eval c env);pure (ForInStep.yield ok) else pure (ForInStep.yield r)) (fun ok s₄ =>
      if ok=true then wpAny (model prog w) A (eval elt env) (fun x s₅=>wpAny (model prog w) A (call (.builtin "list.append") [acc,x]) (fun _ s₆=>∃ m,m<n∧J m s₆) (fun _ _=>False) s₅) (fun _ _=>False) s₄
      else ∃ m,m<n∧J m s₄) (fun _ _=>False) s₃) (fun _ _=>False) s₂) (fun _ _=>False) s₁) (fun _ _=>False) s)
  (n:Nat) (h:J n s):codeAny (model prog w) A (.compLoop (.ListComp elt [⟨tg,iter,ifs,0⟩] scope pos) 0 it acc env) R s:=by
 refine codeAny_loop rfl J (fun n s O=>?_) n h
 refine wpAny_noted (m:=compTurn (.ListComp elt [⟨tg,iter,ifs,0⟩] scope pos) 0 it acc env) ?_
 rw [compTurn_list]
 have q:∀ {E:Value→Shared→Prop} (e:Value) (s':Shared),False→E e s':=fun _ _ f=>f.elim
 refine wpAny_bind (wpAny_standAt (wpAny_bind (wpAny_mono (turn n s O) (fun r s₁ F=>?_) q)))
 cases r with
 | none=>exact wpAny_pure F
 | some v =>
  refine wpAny_bind (wpAny_mono F (fun _ s₂ W=>?_) q)
  refine wpAny_bind (wpAny_mono W (fun _ s₃ I=>wpAny_bind (wpAny_mono I (fun b s₄ G=>?_) q)) q)
  cases b with
  | false=>exact wpAny_pure ⟨rfl,G⟩
  | true =>
   refine wpAny_bind (wpAny_bind (wpAny_mono G (fun x s₅ U=>wpAny_bind (wpAny_mono U (fun _ s₆ Y=>?_) q)) q))
   exact wpAny_pure (wpAny_pure ⟨rfl,Y⟩)
def i8 (k:Nat) (J:It) (g:TG) (tt:TT) (te:TE) (tl:St) (D:Addr) (Q:Hp→Prop) (W:Nat→Nat→List V→Hp→Prop):Prop :=
 ∀ i m ys H,W i m ys H→H D=some (.lst ys)→(J.stop i H∧Q H) ∨
  (J.go i H∧∃ N:List V→Hp→Prop,(∀ ys' H',N ys' H'→∃ m',m'<m∧W (i+1) m' ys' H')∧∀ x H1,J.yld i H x H1→g x (List.replicate k none++tl) H1 fun σ2 H2=>(σ2.length=k+tl.length∧σ2.drop k=tl) ∧
   tt σ2 H2 fun b H3=>if b=true then te σ2 H3 fun v H4=>H4 D=some (.lst ys)∧ys.length<sizeLine∧N (ys++[v]) (upd H4 D (.lst (ys++[v])))
    else H3 D=some (.lst ys)∧N ys H3)
def tComp (own:List Str) (caps:List (Str×Nat)) (wi:TI) (g:TG) (tt:TT) (te:TE):TE:=fun σ H Q=>wi σ H fun J H1=>∀ D,H1 D=none →
 ∃ W:Nat→Nat→List V→Hp→Prop,(∃ m,W 0 m [] (upd H1 D (.lst [])))∧i8 own.length J g tt te (capV caps σ) D (fun H'=>Q (.ref D) H') W
section
variable {X:Cx}{tg iter elt:Expr}{ifs:List Expr}{scope:Scope}{pos:Pos}{own:List Str}{caps:List (Str×Nat)}{wi:TI}{g:TG}{tt:TT}{te:TE}
theorem k9 (S:sf X.N X.env.scope scope own caps) (hc:X.calm=true)
  (hg:∀ C s₀ H₀ ex,PG (du X (own++caps.map (·.1)) scope C s₀ H₀ ex) tg g) (ht:∀ C s₀ H₀ ex,PTs (du X (own++caps.map (·.1)) scope C s₀ H₀ ex) ifs tt) (he:∀ C s₀ H₀ ex,PE (du X (own++caps.map (·.1)) scope C s₀ H₀ ex) elt te)
  {pins:List (Addr×Obj)}{σ:St}{H:Hp}{s:Shared} (I:Inv X pins σ H s) {it:Addr}{fp:List Addr}{tn:Nat→Heap→Prop}{J:It} (T:Turn X.prog X.w X.K tg J fp it tn) (st:tn 0 s.heap) (hf:∀ b∈fp,oB X pins H b) {Q:VK}
  (hR:∀ D,H D=none→∃ W:Nat→Nat→List V→Hp→Prop,(∃ m,W 0 m [] (upd H D (.lst [])))∧i8 own.length J g tt te (capV caps σ) D (fun H'=>Q (.ref D) H') W)
  {RR:Value→Addr→Result→Shared→Prop}{E:Value→Shared→Prop}
  (hRR:∀ D C m H' s',Inv X pins σ H' s'→s'.heap.Ns C m→oB X pins H' C→Q (.ref D) H'→RR (.ref D) C (.ok .next) s') :
  wpAny (model X.prog X.w) X.A (newList []) (fun acc s₃=>wpAny (model X.prog X.w) X.A (newFunctionEnv scope X.env.globals (uL X.env scope.names []) [] X.env.qual none .none (some X.env)) (fun cenv s₄ =>
   codeAny (model X.prog X.w) X.A (.compStart (.ListComp elt [⟨tg,iter,ifs,0⟩] scope pos) 0 (.ref it) acc { cenv with scope:=relabel scope X.env }) (RR acc cenv.locals) s₄) E s₃) E s:=by
 refine wpAny_newObj_type (wpAny_newFunctionEnv S.nocell (fun y hy=>nomatch hy) (fun R a1 a4=>?_) S.kind)
 have U:Inv X pins σ (upd H s.heap.objs.size (.lst [])) { s with heap:=s.heap.push { cls:=.type "list",data:=.seq ([]:List Value).toArray },toks:=s.toks }:=I.lnew (ys:=[]) (its:=[]) .nil (vk _)
 have bz:=T.obj 0 _ st
 have an:∀ b∈fp,b<s.heap.objs.size:=fun b hb=>let ⟨o,e,_⟩:=bz b hb;Heap.lt_size e
 have G:∀ b∈fp,oB X pins (upd H s.heap.objs.size (.lst [])) b:=fun b hb=>⟨by rw [az (vW (an b hb))];exact (hf b hb).1,(hf b hb).2⟩
 have Y:∀ b∈fp,b<(s.heap.push { cls:=.type "list",data:=.seq ([]:List Value).toArray }).objs.size:=fun b hb=>by rw [Heap.size_push];exact Nat.lt_succ_of_lt (an b hb)
 generalize hD:s.heap.objs.size=D at U G
 generalize b1:s.heap.push { cls:=.type "list",data:=.seq ([]:List Value).toArray }=h3 at U Y a1 a4
 have kk:∀ b o,h3.get? b=some o→R.get? b=some o:=fun b o e=>(a4.2 b (vW (Heap.lt_size e))).trans (Heap.get?_push_of_some _ e)
 have ap:tn 0 R:=T.keep _ _ _ st fun b hb o e=>kk b o (by rw [← b1];exact Heap.get?_push_of_some _ e)
 obtain ⟨W,⟨m0,w0⟩,a8⟩:=hR D (by rw [← hD];exact I.fresh)
 have I4:=comp_inv (tk:=s.toks+0) U S G Y (va _) a1 kk
 have bl:∀ b∈fp,(upd H D (.lst [])) b=none:=fun b hb=>(G b hb).1
 have af:codeAny (model X.prog X.w) X.A (.compLoop (.ListComp elt [⟨tg,iter,ifs,0⟩] scope pos) 0 (.ref it) (.ref D) (compEnvC scope (uL X.env scope.names []) h3.objs.size X.env)) (RR (.ref D) h3.objs.size) { s with heap:=R,toks:=s.toks+0 }:=by
  refine uH (fun n s'=>∃ i ys H',Inv (du X (own++caps.map (·.1)) scope h3.objs.size { s with heap:=h3,toks:=s.toks } (upd H D (.lst [])) fp) [] (List.replicate own.length none++capV caps σ) H' s'∧tn i s'.heap∧(∀ b∈fp,H' b=none)∧H' D=some (.lst ys)∧W i n ys H') ?_ m0
   ⟨0,[],_,I4,ap,bl,upd_same,w0⟩
  rintro n s5 ⟨i,ys,H5,I5,as,a2,bx,w5⟩
  have q:∀ {H':Hp},(∀ b∈fp,H' b=none)→∀ b∈fp,oB (du X (own++caps.map (·.1)) scope h3.objs.size { s with heap:=h3,toks:=s.toks } (upd H D (.lst [])) fp) [] H' b:=fun hn b hb =>
   ⟨hn b hb,(I4.ok.exf b hb).1,I4.ok.exfs b hb,.inl hb,(I4.ok.exf b hb).2,fun p hp=>nomatch hp⟩
  rcases a8 i n ys H5 w5 bx with ⟨a6,qn⟩ | ⟨go,N,hN,step⟩
  ·refine thn (T.done (du X (own++caps.map (·.1)) scope h3.objs.size { s with heap:=h3,toks:=s.toks } (upd H D (.lst [])) fp) rfl rfl rfl hc i [] s5 _ H5 _ I5 (q a2) as a6) fun r s6 ⟨hr,I6⟩=>?_
   subst hr
   obtain ⟨m6,cl,_⟩:=id I6.loc
   exact hRR D _ m6 H5 s6 (uI U G I6) cl (U.fpOk (va _) I6.free) qn
  ·refine thn (T.item (du X (own++caps.map (·.1)) scope h3.objs.size { s with heap:=h3,toks:=s.toks } (upd H D (.lst [])) fp) rfl rfl rfl hc i [] s5 _ H5 _ I5 (q a2) as go) fun r s6 ⟨u,hr,h6⟩=>?_
   subst hr
   refine thn h6 fun _ s7 ⟨x,H7,I7,r7,y7,Z,b5⟩=>?_
   have cb:=I7.pinned (q b5) (T.obj _ _ Z)
   refine thn (hg _ _ _ _ _ s7 _ H7 x u _ cb r7 (step x H7 y7)) fun _ s8 ⟨σ8,H8,I8,⟨ck,bb⟩,q8⟩=>?_
   have again:∀ {F:Hp}{O:Shared}{ys9:List V},Inv (du X (own++caps.map (·.1)) scope h3.objs.size { s with heap:=h3,toks:=s.toks } (upd H D (.lst [])) fp) ([]++nt fp s7.heap) σ8 F O→F D=some (.lst ys9)→N ys9 F →
     ∃ m,m<n∧∃ i ys H',Inv (du X (own++caps.map (·.1)) scope h3.objs.size { s with heap:=h3,toks:=s.toks } (upd H D (.lst [])) fp) [] (List.replicate own.length none++capV caps σ) H' O∧tn i O.heap∧(∀ b∈fp,H' b=none)∧H' D=some (.lst ys)∧W i m ys H':=fun {F O ys9} I9 d9 w9=>by
    obtain ⟨m',hm,w9⟩:=hN _ _ w9
    have pin:=fun b (hb:b∈fp) o (e:s7.heap.get? b=some o)=>I9.pin (b,o) (wd _ (wd _ (iU hb e)))
    refine ⟨m',hm,i+1,ys9,F,(I9.unpinned (pins:=[])).weak ?_ fun j v e=>?_,T.keep _ _ _ Z fun b hb o e=>(pin b hb o e).1,fun b hb=>?_,d9,w9⟩
    ·rw [ck,u7,vK]
    ·by_cases hj:j<own.length
     ·rw [vS (by rw [vK];exact hj),List.getElem?_replicate,if_pos hj] at e
      cases e
     ·rw [vR (by rw [vK];exact Nat.le_of_not_lt hj),vK,← bb,List.getElem?_drop] at e
      rw [show own.length+(j - own.length)=j by omega] at e
      exact e
    ·obtain ⟨o,e,d⟩:=T.obj _ _ Z b hb
     exact (pin b hb o e).2.1
   refine thn (ht _ _ _ _ _ s8 σ8 H8 _ I8 q8) fun b O ⟨F,I9,q9⟩=>?_
   cases b with
   | false =>
    rw [if_neg vt] at q9 ⊢
    exact again I9 q9.1 q9.2
   | true =>
    rw [if_pos rfl] at q9 ⊢
    refine thn (he _ _ _ _ _ O σ8 F _ I9 q9) fun v b2 ⟨y,a3,ca,cf,be,b4,cr⟩=>?_
    refine thn (bq _ b2 σ8 a3 (.ref D) [y] (.ref D) [v] (fun _ H'=>H'=upd a3 D (.lst (ys++[y]))) ca rfl (.cons cf .nil) ⟨D,ys,y,rfl,rfl,be,b4,rfl⟩) fun _ dy ⟨_,d0,bm,_,b0⟩=>?_
    subst b0
    exact again bm upd_same cr
 have e0:({ s with heap:=R,toks:=s.toks+([]:List (Str×Value)).length }:Shared)={ s with heap:=R,toks:=s.toks+0 }:=rfl
 exact codeAny_compStart_list af (T.self _ 0 _ _ _ ap af)
theorem bw (own:List Str) (caps:List (Str×Nat)) (hi:PI X tg iter wi) (hc:X.calm=true)
  (hg:∀ C s₀ H₀ ex,PG (du X (own++caps.map (·.1)) scope C s₀ H₀ ex) tg g) (ht:∀ C s₀ H₀ ex,PTs (du X (own++caps.map (·.1)) scope C s₀ H₀ ex) ifs tt) (he:∀ C s₀ H₀ ex,PE (du X (own++caps.map (·.1)) scope C s₀ H₀ ex) elt te)
  (hS:qy X.N X.env.scope scope own caps=true:=by kernel_rfl) (hs:∀ x,foldedSetIterable iter X.env x=pure x:=by intro _;rfl) :
  PE X (.ListComp elt [⟨tg,iter,ifs,0⟩] scope pos) (tComp own caps wi g tt te):=by
 intro pins s σ H Q I h
 have S:=qx hS
 rw [eval_ListComp]
 refine wpAny_comprehension_free (use:=none) rfl hs (oh I.ok S) S.kind S.loc (thn (hi pins s σ H _ I h) fun v Z h1=>thn h1 fun Y s2 h2=>?_)
 obtain ⟨it,fp,tn,J,H2,e,W,T,G,O,U⟩:=h2
 subst e
 refine k9 S hc hg ht he W T G O (Q:=Q) U fun D C m H' s' R hn hC q=>?_
 refine ⟨m,hn,fun h' F=>?_⟩
 exact ⟨.ref D,H',R.turnedK (t':=s'.toks) (ch:=[C]) (fun b hb=>by rw [show b=C by simpa using hb];exact hC) fun b o hb e=>(F.2 b (by simpa using hb)).trans e,rfl,q⟩
theorem b8 {y:Str}{py spos:Pos} (j:Nat) (own:List Str) (caps:List (Str×Nat)) (hN:X.N.Nodup) (hi:PI X tg iter wi) (hc:X.calm=true)
  (hg:∀ C s₀ H₀ ex,PG (du X (own++caps.map (·.1)) scope C s₀ H₀ ex) tg g) (ht:∀ C s₀ H₀ ex,PTs (du X (own++caps.map (·.1)) scope C s₀ H₀ ex) ifs tt) (he:∀ C s₀ H₀ ex,PE (du X (own++caps.map (·.1)) scope C s₀ H₀ ex) elt te)
  (hj:X.N[j]?=some y:=by rfl) (hy:Loc X.env.scope y:=by first | exact Or.inl rfl | exact Or.inr rfl)
  (hsw:swapsWith (.ListComp elt [⟨tg,iter,ifs,0⟩] scope pos) (some (.Name y py)) spos.line X.env=pure true:=by rfl)
  (hS:qy X.N X.env.scope scope own caps=true:=by kernel_rfl) (hs:∀ x,foldedSetIterable iter X.env x=pure x:=by intro _;rfl) (hf:X.fn y=true∨X.env.scope.names.lookup y=some .local:=by first | exact .inl rfl | exact .inr rfl) :
  PS X (.Assign [.Name y py] (.ListComp elt [⟨tg,iter,ifs,0⟩] scope pos) spos) (tAsg (tComp own caps wi g tt te) (ux j)):=by
 intro pins s σ H F I h
 have S:=qx hS
 rw [exec_Assign_Name_used _ _ _ _ hsw]
 refine wpAny_bind (wpAny_standAt (wpAny_bind ?_))
 refine wpAny_mono (t:=do let _ ← comprehension (.ListComp elt [⟨tg,iter,ifs,0⟩] scope pos) scope X.env (firstIterPos [⟨tg,iter,ifs,0⟩] pos) (newList []) false (eval iter X.env) (some (assign (.Name y py) X.env))) (Q:=fun _ s'=>SP X pins F .next s') ?_ (fun _ s' q=>wpAny_pure q) fun _ _ q=>q
 refine wpAny_bind (wpAny_mono (wpAny_comprehension_free (use:=some (assign (.Name y py) X.env)) (Q:=fun _ s'=>SP X pins F .next s') rfl hs (oh I.ok S) S.kind S.loc
  (thn (hi pins s σ H _ I h) fun v s1 h1=>thn h1 fun al s2 h2=>?_)) (fun _ s' q=>wpAny_pure q) fun _ _ q=>q)
 obtain ⟨it,fp,tn,J,H2,e,U,T,R,Y,hR⟩:=h2
 subst e
 refine k9 S hc hg ht he U T R Y (Q:=fun x H1=>ux j x σ H1 F.nx) hR fun D C m H' s' I' hn hC q=>?_
 refine wpAny_assign_Name (mT I' hN hj hy (v:=.ref D) (u:=.ref D) rfl (fun W Z ⟨a,sb,ha⟩=>?_) hf)
 have G:C≠a:=by
  rcases ha with z | z
  ·rw [z];exact hC.2.1
  ·exact fun e=>hC.2.2.2.2.1 y a z e.symm
 refine ⟨m,hn.sameBut sb G,fun h' O=>?_⟩
 refine ⟨_,H',Z.turnedK (t':=W.toks) (ch:=[C]) (fun b hb=>by rw [show b=C by simpa using hb];exact hC) fun b o hb e=>(O.2 b (by simpa using hb)).trans e,q⟩
end
end L2
namespace L2
open PySem PySem.Spec PyProof.Rows
def Ok (P:Program) (w:World) (K:PySem.W.Frag) (mg:Str→Option Value) (base:Heap) (CX:CXT) (k:Nat) (x:Str) (ps:List Str) (sp:Sp):Prop :=
 ∃ f fd,ju P w K mg base CX k f fd ps sp∧Binds K fd ps []∧PySem.W.keepIn K (.ref f)=true∧mg x=some (.ref f)
def Src (K:PySem.W.Frag) (mg:Str→Option Value) (x qual:Str) (st:Stmt) (ps:List Str):Prop:=∃ f fd,Fun K x qual st f fd∧Binds K fd ps []∧mg x=some (.ref f)
section
variable {P:Program}{w:World}{K:PySem.W.Frag}{mg:Str→Option Value}{base:Heap}
theorem Src.ok {x qual:Str}{st:Stmt}{N ps:List Str}{k:Nat}{sp:Sp} (F:Src K mg x qual st ps) (S:ax N ps (ao st)) (len:∀ vs H Q E,sp vs H Q E→vs.length=ps.length)
  (hbody:∀ (f:Addr) (cdv:Value) (A:Around) (outer:List Env) (s:Shared) (H:Hp) (vs:List V) (Q:VK) (E:XK),Room k (A.deeper (envOfC qual (ao st) s.heap.objs.size f cdv))→sp vs H Q E →
   ∃ t,PSs (jt CX0 P w K mg base N qual (ao st) f cdv A outer s H E).nox (i0 st) t∧t { nx:=fun _ H'=>Q .non H',rt:=Q } (start N vs) H):Ok P w K mg base CX0 (k+1) x ps sp:=by
 obtain ⟨f,fd,F,b,m⟩:=F
 exact ⟨f,fd,F.ok S len fun cdv A outer s H vs Q E hr q=>hbody f cdv A outer s H vs Q E hr q,b,F.kp,m⟩
def MkOk (P:Program) (w:World) (K:PySem.W.Frag) (mg:Str→Option Value) (base:Heap) (CX:CXT) (k:Nat) (x:Str) (C:Addr) (ps:List Str) (sp:Sp):Prop :=
 ∃ f fd,Mk K C f∧ju P w K mg base CX k f fd ps sp∧Binds K fd ps []∧mg x=some (.ref C)
end
section
variable {X:Cx}{CX:CXT}{k j:Nat}{x:Str}{p pos:Pos}{e:Expr}{es:List Expr}{t:TA}{ps:List Str}{sp:Sp}{C:Addr}
theorem ak (O:Ok X.prog X.w X.K X.mg X.base CX0 k x ps sp) (hr:Room j X.A) (hg:Gl X x) (ha:PA X (e::es) t) (hle:k≤j:=by decide) (hdb:(x == ("__debug__":Str))=false:=by decide)
  (he:starEach (e::es) X.env=(false,eval e X.env)::starEach es X.env:=by rfl) (hpl:(backTo pos (starEach es X.env)).any (·.1)=false:=by rfl):PE X (.Call (.Name x p) (e::es) [] pos) (tCall sp [] E0 t):=by
 obtain ⟨f,fd,F,b,q,m⟩:=O
 exact tI F (hr.mono hle) hg m q b .nil pass0 ha hdb he hpl
theorem jA (O:MkOk X.prog X.w X.K X.mg X.base CX0 k x C ps sp) (hr:Room j X.A) (hg:Gl X x) (ha:PA X (e::es) t) (hle:k+1≤j:=by decide) (hdb:(x == ("__debug__":Str))=false:=by decide)
  (he:starEach (e::es) X.env=(false,eval e X.env)::starEach es X.env:=by rfl) (hpl:(backTo pos (starEach es X.env)).any (·.1)=false:=by rfl):PE X (.Call (.Name x p) (e::es) [] pos) (tMake C sp [] E0 t):=by
 obtain ⟨f,fd,M,F,b,m⟩:=O
 exact pe_make M F (hr.mono hle) hg m b .nil pass0 ha hdb he hpl
end
section
variable {X:Cx}
theorem pe_ty {x:Str}{T:String}{pos:Pos} (hg:Gl X x) (hm:X.mg x=none) (hv:bootBuiltins x=some (.type T)) (hn:x≠"__name__":=by decide) (hdb:(x == ("__debug__":Str))=false:=by decide):PE X (.Name x pos) (tC (.ty T)) :=
 pe_bltn hg hm hv rfl hn hdb
def tyV?:V→Option Value
 | .ty T=>some (.type T)
 | .ref C=>some (.ref C)
 | _=>none
theorem g7:CallR X (.builtin "isinstance") (fun xs H Q=>∃ x c t v b,xs=[x,c]∧r6 X.K H x t∧tyV? c=some v∧PySem.W.kitOne X.K t v=some b∧Q (.bl b) H):=by
 intro pins s σ H xs U Q I r h
 obtain ⟨x,c,t,v,b,rfl,ty,hc,G,q⟩:=h
 obtain ⟨Y,O,rfl,R,F⟩:=r.two
 have J:O=v:=by
  cases c with
  | ty T=>cases hc;exact F
  | ref C=>cases hc;exact F
  | _=>cases hc
 subst J
 exact um I R ty G fun tk=>⟨.bl b,H,I.tok tk,rfl,q⟩
theorem pc (K:PySem.W.Frag):PySem.W.kitOne K (.type "int") (.type "int")=some true:=by kernel_rfl
theorem nV (K:PySem.W.Frag):PySem.W.kitOne K (.type "int") (.type "bool")=some false:=by kernel_rfl
theorem my (K:PySem.W.Frag):PySem.W.kitOne K (.type "list") (.type "list")=some true:=by kernel_rfl
theorem op_eqL (hu:X.A.units+64<cLine):OpR X (compareOp .Eq) (fun x y H Q=>∃ (a b:Addr) (ns ms:List Int),x=.ref a∧y=.ref b∧SqL X.K H a (ns.map V.int)∧SqL X.K H b (ms.map V.int)∧Q (.bl (decide (ns=ms))) H):=by
 intro pins s σ H x y v u Q I J G h
 obtain ⟨a,b,ns,ms,rfl,rfl,R,hb,q⟩:=h
 cases J
 cases G
 obtain ⟨i1,U,F,Z⟩:=I.list R
 obtain ⟨i2,O,p2,Y⟩:=I.list hb
 exact PySem.W.ke_eq_ints F.isList p2.isList (dM U) (dM O) hu ⟨.bl _,H,I,rfl,q⟩
theorem op_neL (hu:X.A.units+64<cLine):OpR X (compareOp .NotEq) (fun x y H Q=>∃ (a b:Addr) (ns ms:List Int),x=.ref a∧y=.ref b∧SqL X.K H a (ns.map V.int)∧SqL X.K H b (ms.map V.int)∧Q (.bl (!decide (ns=ms))) H):=by
 intro pins s σ H x y v u Q I J G h
 obtain ⟨a,b,ns,ms,rfl,rfl,R,hb,q⟩:=h
 cases J
 cases G
 obtain ⟨i1,U,F,Z⟩:=I.list R
 obtain ⟨i2,O,p2,Y⟩:=I.list hb
 exact PySem.W.ke_ne_ints F.isList p2.isList (dM U) (dM O) hu ⟨.bl _,H,I,rfl,q⟩
end
theorem for_rev {K:PySem.W.Frag}{a:Addr}{xs:List V}{g:TG}{tb:TS}{D:Ends}{σ:St}{H:Hp} (Pv:Nat→St→Hp→Prop) (h0:Pv 0 σ H) (hl:∀ i σ H,i≤xs.length→Pv i σ H→SqL K H a xs)
  (hs:∀ i x σ H,xs[xs.length - 1 - i]?=some x→i<xs.length→Pv i σ H→g x σ H fun σ2 H2=>tb { D with nx:=Pv (i+1),ct:=Pv (i+1),bk:=D.nx } σ2 H2) (hd:∀ σ H,Pv xs.length σ H→D.nx σ H) :
  ∃ W:Nat→Nat→St→Hp→Prop,(∃ m,W 0 m σ H)∧∀ i m σ H,W i m σ H →
   ((uX K a xs.length).stop i H∧D.nx σ H)∨((uX K a xs.length).go i H∧∃ N:St→Hp→Prop,(∀ σ' H',N σ' H'→∃ m',m'<m∧W (i+1) m' σ' H')∧∀ x H',(uX K a xs.length).yld i H x H'→g x σ H' fun σ2 H2=>tb { D with nx:=N,ct:=N,bk:=D.nx } σ2 H2):=by
 refine ⟨fun i m σ H=>m=xs.length - i∧i≤xs.length∧Pv i σ H,⟨xs.length,by simp,vk _,h0⟩,?_⟩
 rintro i m σ H ⟨rfl,hi,p⟩
 by_cases q:i<xs.length
 ·refine .inr ⟨⟨q,xs,hl i σ H hi p,rfl⟩,Pv (i+1),fun σ' H' F=>⟨xs.length - (i+1),by omega,rfl,q,F⟩,fun x H' y=>?_⟩
  obtain ⟨e,y⟩:=y
  subst e
  exact hs i x σ _ (y xs (hl i σ _ hi p) rfl) q p
 ·have e:i=xs.length:=by omega
  exact .inl ⟨e,hd σ H (by rw [← e];exact p)⟩
theorem cE {k:Nat}{lo:Int}{n:Nat}{g:TG}{tt:TT}{te:TE}{tl:St}{D:Addr}{Q:Hp→Prop}{H0:Hp} (Pv:Nat→List V→Hp→Prop) (h0:Pv 0 [] (upd H0 D (.lst [])))
  (hs:∀ i ys H,i<n→Pv i ys H→H D=some (.lst ys)→g (.int (lo+i)) (List.replicate k none++tl) H fun σ2 H2=>(σ2.length=k+tl.length∧σ2.drop k=tl) ∧
   tt σ2 H2 fun b H3=>if b=true then te σ2 H3 fun v H4=>H4 D=some (.lst ys)∧ys.length<sizeLine∧Pv (i+1) (ys++[v]) (upd H4 D (.lst (ys++[v]))) else H3 D=some (.lst ys)∧Pv (i+1) ys H3)
  (hd:∀ ys H,Pv n ys H→H D=some (.lst ys)→Q H) :
  ∃ W:Nat→Nat→List V→Hp→Prop,(∃ m,W 0 m [] (upd H0 D (.lst [])))∧i8 k (Itr lo n) g tt te tl D Q W:=by
 refine ⟨fun i m ys H=>m=n - i∧i≤n∧Pv i ys H,⟨n,by simp,vk _,h0⟩,?_⟩
 rintro i m ys H ⟨rfl,hi,p⟩ G
 by_cases F:i<n
 ·refine .inr ⟨F,Pv (i+1),fun I H' q=>⟨n - (i+1),by omega,rfl,F,q⟩,fun x H1 y=>?_⟩
  obtain ⟨e,y⟩:=y
  subst e y
  exact hs i ys _ F p G
 ·have e:i=n:=by omega
  exact .inl ⟨Nat.le_of_not_lt F,hd ys H (by rw [← e];exact p) G⟩
theorem bF {K:PySem.W.Frag}{a:Addr}{xs:List V}{k:Nat}{g:TG}{tt:TT}{te:TE}{tl:St}{D:Addr}{Q:Hp→Prop}{H0:Hp} (Pv:Nat→List V→Hp→Prop) (h0:Pv 0 [] (upd H0 D (.lst []))) (hl:∀ i ys H,i≤xs.length→Pv i ys H→SqL K H a xs)
  (hs:∀ i x ys H,xs[i]?=some x→Pv i ys H→H D=some (.lst ys)→g x (List.replicate k none++tl) H fun σ2 H2=>(σ2.length=k+tl.length∧σ2.drop k=tl) ∧
   tt σ2 H2 fun b H3=>if b=true then te σ2 H3 fun v H4=>H4 D=some (.lst ys)∧ys.length<sizeLine∧Pv (i+1) (ys++[v]) (upd H4 D (.lst (ys++[v]))) else H3 D=some (.lst ys)∧Pv (i+1) ys H3)
  (hd:∀ ys H,Pv xs.length ys H→H D=some (.lst ys)→Q H) :
  ∃ W:Nat→Nat→List V→Hp→Prop,(∃ m,W 0 m [] (upd H0 D (.lst [])))∧i8 k (Itl K a) g tt te tl D Q W:=by
 refine ⟨fun i m ys H=>m=xs.length - i∧i≤xs.length∧Pv i ys H,⟨xs.length,by simp,vk _,h0⟩,?_⟩
 rintro i m ys H ⟨rfl,hi,p⟩ G
 have q:=hl i ys H hi p
 by_cases F:i<xs.length
 ·refine .inr ⟨⟨xs,xs[i],q,by simp [F]⟩,Pv (i+1),fun J H' I=>⟨xs.length - (i+1),by omega,rfl,F,I⟩,fun x H1 y=>?_⟩
  obtain ⟨e,y⟩:=y
  subst e
  exact hs i x ys _ (y xs q) p G
 ·have e:i=xs.length:=by omega
  subst e
  exact .inl ⟨⟨xs,q,va _⟩,hd ys H p G⟩
theorem fP {K:PySem.W.Frag}{a b:Addr}{xs zs:List V}{k:Nat}{g:TG}{tt:TT}{te:TE}{tl:St}{D:Addr}{Q:Hp→Prop}{H0:Hp} (Pv:Nat→List V→Hp→Prop) (h0:Pv 0 [] (upd H0 D (.lst []))) (hl:∀ i ys H,Pv i ys H→SqL K H a xs∧SqL K H b zs)
  (hs:∀ i x z ys H p,xs[i]?=some x→zs[i]?=some z→Pv i ys H→H D=some (.lst ys)→H p=none→g (.ref p) (List.replicate k none++tl) (upd H p (.tup [x,z])) fun σ2 H2=>(σ2.length=k+tl.length∧σ2.drop k=tl) ∧
   tt σ2 H2 fun b H3=>if b=true then te σ2 H3 fun v H4=>H4 D=some (.lst ys)∧ys.length<sizeLine∧Pv (i+1) (ys++[v]) (upd H4 D (.lst (ys++[v]))) else H3 D=some (.lst ys)∧Pv (i+1) ys H3)
  (hd:∀ ys H,Pv (min xs.length zs.length) ys H→H D=some (.lst ys)→Q H) :
  ∃ W:Nat→Nat→List V→Hp→Prop,(∃ m,W 0 m [] (upd H0 D (.lst [])))∧i8 k (Itz K a b) g tt te tl D Q W:=by
 refine ⟨fun i m ys H=>m=min xs.length zs.length - i∧i≤min xs.length zs.length∧Pv i ys H,⟨min xs.length zs.length,by simp,vk _,h0⟩,?_⟩
 rintro i m ys H ⟨rfl,hi,p⟩ I
 obtain ⟨q,F⟩:=hl i ys H p
 by_cases G:i<min xs.length zs.length
 ·have h1:i<xs.length:=by omega
  have h2:i<zs.length:=by omega
  refine .inr ⟨⟨xs,zs,xs[i],zs[i],q,F,by simp [h1],by simp [h2]⟩,Pv (i+1),fun R H' J=>⟨min xs.length zs.length - (i+1),by omega,rfl,G,J⟩,fun x H1 y=>?_⟩
  obtain ⟨c,hc,e,y⟩:=y
  have O:=y xs zs xs[i] zs[i] q F (by simp [h1]) (by simp [h2])
  subst e O
  exact hs i xs[i] zs[i] ys H c (by simp [h1]) (by simp [h2]) p I hc
 ·have e:i=min xs.length zs.length:=by omega
  refine .inl ⟨⟨xs,zs,q,F,?_⟩,hd ys H (by rw [← e];exact p) I⟩
  omega
theorem pi {K:PySem.W.Frag}{a b:Addr}{xs zs:List V}{g:TG}{tb:TS}{D:Ends}{σ:St}{H:Hp} (Pv:Nat→St→Hp→Prop) (h0:Pv 0 σ H) (hl:∀ i σ H,Pv i σ H→SqL K H a xs∧SqL K H b zs)
  (hs:∀ i x z σ H p,xs[i]?=some x→zs[i]?=some z→Pv i σ H→H p=none→g (.ref p) σ (upd H p (.tup [x,z])) fun σ2 H2=>tb { D with nx:=Pv (i+1),ct:=Pv (i+1),bk:=D.nx } σ2 H2) (hd:∀ σ H,Pv (min xs.length zs.length) σ H→D.nx σ H) :
  ∃ W:Nat→Nat→St→Hp→Prop,(∃ m,W 0 m σ H)∧∀ i m σ H,W i m σ H →
   ((Itz K a b).stop i H∧D.nx σ H)∨((Itz K a b).go i H∧∃ N:St→Hp→Prop,(∀ σ' H',N σ' H'→∃ m',m'<m∧W (i+1) m' σ' H')∧∀ x H',(Itz K a b).yld i H x H'→g x σ H' fun σ2 H2=>tb { D with nx:=N,ct:=N,bk:=D.nx } σ2 H2):=by
 refine ⟨fun i m σ H=>m=min xs.length zs.length - i∧i≤min xs.length zs.length∧Pv i σ H,⟨min xs.length zs.length,by simp,vk _,h0⟩,?_⟩
 rintro i m σ H ⟨rfl,hi,p⟩
 obtain ⟨q,F⟩:=hl i σ H p
 by_cases G:i<min xs.length zs.length
 ·have h1:i<xs.length:=by omega
  have h2:i<zs.length:=by omega
  refine .inr ⟨⟨xs,zs,xs[i],zs[i],q,F,by simp [h1],by simp [h2]⟩,Pv (i+1),fun σ' H' J=>⟨min xs.length zs.length - (i+1),by omega,rfl,G,J⟩,fun x H' y=>?_⟩
  obtain ⟨c,hc,e,y⟩:=y
  have I:=y xs zs xs[i] zs[i] q F (by simp [h1]) (by simp [h2])
  subst e I
  exact hs i xs[i] zs[i] σ H c (by simp [h1]) (by simp [h2]) p hc
 ·have e:i=min xs.length zs.length:=by omega
  refine .inl ⟨⟨xs,zs,q,F,?_⟩,hd σ H (by rw [← e];exact p)⟩
  omega
section
variable {X:Cx}{e a b:Expr}{ta tb:TE}{f:Str}{pos:Pos}
theorem dv (K:PySem.W.Frag) (he:PE X e ta) (hb:attributeBase e f X.env (eval e X.env)=eval e X.env) (hK:X.K=K:=by rfl):PE X (.Attribute e f pos) (tFld K ta f):=by
 subst hK
 exact aH he hb
theorem iF (K:PySem.W.Frag) (hK:X.K=K:=by rfl):IxR X (rIxL K):=by
 subst hK
 exact aP
theorem iX (K:PySem.W.Frag) (hK:X.K=K:=by rfl):IxR X (rIxT K):=by
 subst hK
 exact aZ
theorem uP (K:PySem.W.Frag) (hK:X.K=K:=by rfl):CallR X (.builtin "len") (fun xs H Q=>∃ p ys,xs=[.ref p]∧(SqL K H p ys∨SqT K H p ys)∧Q (.int ys.length) H):=by
 subst hK
 exact aG
theorem eJ (K:PySem.W.Frag) (n:Nat) {es:List Expr}{k:Nat}{t:TGs} (hc:X.calm=true) (h:PGs X es t) (hn:(assignEach es X.env).length=n:=by rfl) (hst:(assignEach es X.env).findIdx? (·.1)=none:=by rfl) (hK:X.K=K:=by rfl):PG X (.Tuple es k pos) (gTup K n t):=by
 subst hK
 exact gh hc h hn hst
end
end L2
namespace L2
open PySem PySem.Spec PyProof.Rows
theorem rV {P:Program}{w:World}{A:Around} (hh:A.handled=none) (it l:Addr) (hne:l≠it) (items:Array Value) (k0:Nat) :
  Draws P w A.in1 it [it,l] (k0+items.size) (fun i x=>items[i - k0]?=some x) (fun i h=>k0≤i∧h.IsListIter it l (i - k0)∧h.IsList l items) where
 live:=fun i h st=>let ⟨o,e,_⟩:=st.2.1;⟨o,e⟩
 frame:=fun i h h' st k=>⟨st.1,st.2.1.at fun o e=>k it (by simp) o e,st.2.2.at fun o e=>k l (by simp) o e⟩
 item:=fun i s Q E hi st O=>by
  obtain ⟨R,G,q⟩:=st
  have I:items[i - k0]?=some (items[i - k0]'(by omega)):=Array.getElem?_eq_getElem (by omega)
  refine wpAny_nextOf_list_item G q I fun h' F J=>?_
  rw [show i - k0+1=i+1 - k0 by omega] at F
  exact O _ h' s.toks I ⟨by omega,F,q.at fun o e=>(J.2 l hne).trans e⟩ J
 done:=fun s Q E st U=>by
  obtain ⟨R,G,q⟩:=st
  exact wpAny_nextOf_list_end (show A.in1.handled=none from hh) G q (Array.getElem?_eq_none (by omega)) U
def Ite (K:PySem.W.Frag) (a:Addr) (k0:Nat):It :=
  ⟨fun i H=>∃ xs x,SqL K H a xs∧xs[i]?=some x,
   fun i H v H'=>∃ p,H p=none∧v=.ref p∧∀ xs x,SqL K H a xs→xs[i]?=some x→H'=upd H p (.tup [.int ((k0+i:Nat):Int),x]),
   fun i H=>∃ xs,SqL K H a xs∧xs.length≤i⟩
theorem mS {P:Program}{w:World}{K:PySem.W.Frag}{elts:List Expr}{k1:Nat}{tp:Pos} (a e it:Addr) (k0:Nat) (d1:e≠it) :
  Turn P w K (.Tuple elts k1 tp) (Ite K a k0) [e,it] e (fun i h=>(∃ old,IsEnum h e it ((k0+i:Nat):Int) old)∧h.IsListIter it a i) where
 mem:=by simp
 obj:=fun i h st c hb=>by
  obtain ⟨⟨old,G⟩,o2,U,_,t2⟩:=st
  simp only [u8,ve,or_false] at hb
  rcases hb with rfl | rfl
  ·exact ⟨_,G,fun v z=>by cases z⟩
  ·exact ⟨_,U,fun v z=>by rw [t2] at z;cases z⟩
 keep:=fun i h h' st k=>by
  obtain ⟨⟨old,G⟩,U⟩:=st
  exact ⟨⟨old,k e (by simp) _ G⟩,U.at fun o q=>k it (by simp) o q⟩
 item:=by
  intro X hP hw hK hc i pins s σ H E I hf st hg
  subst hP hw hK
  obtain ⟨xs,x,O,hx⟩:=hg
  obtain ⟨⟨old,G⟩,U⟩:=st
  obtain ⟨R,Z,p1,z1⟩:=I.list O
  obtain ⟨u1,ab,be⟩:=Z.get hx
  have e2:=U
  obtain ⟨o2,q2,c2,_⟩:=e2
  have n2:o2.cls≠.type "list":=by rw [c2];decide
  have a1:a≠e:=I.list_apart O G (show Value.type "enumerate"≠Value.type "list" by decide)
  have a2:a≠it:=I.list_apart O q2 n2
  have hi:i<R.length:=(u3.mp ab).1
  have D:=rV (P:=X.prog) (w:=X.w) (I.ok.hd hc) it a a2 R.toArray k0
  refine wpAny_pyNext_enum_itemD (i:=k0+i) D G ⟨by omega,by rw [show k0+i - k0=i by omega];exact U,p1.isList⟩ (by rw [vg];omega) d1 (by simp only [u8,ve,or_false,not_or];exact ⟨d1,fun z=>a1 z.symm⟩) fun y h' tk hy b1 b2 b3 b4 b5=>?_
  rw [show k0+i - k0=i by omega] at hy
  have ey:y=u1:=by
   have:R.toArray[i]?=some u1:=by simpa using ab
   rw [this] at hy
   exact (vz hy).symm
  subst ey
  refine ⟨_,rfl,?_⟩
  refine wpAny_letOwnedTupleGo_enum (s:={ s with heap:=h',toks:=tk+1 }) b1 fun h2 bf Y=>?_
  have lt:∀ {c:Addr}{o:Obj},s.heap.get? c=some o→s.heap.objs.size≠c:=fun q=>Nat.ne_of_gt (Heap.lt_size q)
  have kk:∀ c o,c∉[e,it]→s.heap.get? c=some o→h2.get? c=some o:=fun c o J q=>by
   simp only [u8,ve,or_false,not_or] at J
   exact (Y.2 c J.1).trans (b5 c o J.1 J.2 q)
  have pT:h2.get? s.heap.objs.size=some { cls:=.type "tuple",data:=.seq #[.int ((k0+i:Nat):Int) tk,y] }:=(Y.2 _ (lt G)).trans b3
  have I2:Inv X pins σ (upd H s.heap.objs.size (.tup [.int ((k0+i:Nat):Int),x])) { s with heap:=h2,toks:=tk+1 }:=I.turnedN (t':=tk+1) (ch:=[e,it]) (p:=s.heap.objs.size) (o:=.tup [.int ((k0+i:Nat):Int),x]) hf kk (va _)
   ⟨(by show 2≤sizeLine;decide),[.int ((k0+i:Nat):Int) tk,y],.cons ⟨_,rfl⟩ (.cons be .nil),⟨_,pT,rfl,_,rfl⟩⟩
  refine ⟨.ref s.heap.objs.size,_,I2,rfl,⟨_,I.fresh,rfl,fun cx x' w1 w2=>?_⟩,⟨⟨y,?_⟩,?_⟩,fun c J=>?_⟩
  ·rw [I.list_inj w1 O,hx] at w2
   cases w2
   rfl
  ·have:=bf
   rw [show ((k0+i:Nat):Int)+1=((k0+(i+1):Nat):Int) by omega] at this
   exact this
  ·have:=b2.2.1
   rw [show k0+i+1 - k0=i+1 by omega] at this
   exact this.at fun o q=>(Y.2 it d1.symm).trans q
  ·have bb:c≠s.heap.objs.size:=by
    simp only [u8,ve,or_false] at J
    rcases J with rfl | rfl
    ·exact (lt G).symm
    ·exact (lt q2).symm
   rw [az bb]
   exact (hf c J).1
 done:=by
  intro X hP hw hK hc i pins s σ H E I hf st hg
  subst hP hw hK
  obtain ⟨xs,O,hx⟩:=hg
  obtain ⟨⟨old,G⟩,U⟩:=st
  obtain ⟨R,Z,p1,z1⟩:=I.list O
  have l1:=Z.length
  have hT:s.TypeIs (.ref e) "enumerate":=⟨_,G,rfl⟩
  unfold pyNext
  refine wpAny_bind (wpAny_attempt (wpAny_callSpecial?_slot (name:=Str.ofString "__next__") hT F.slot_enumerate_next (wpAny_call_entry F.slot_enumerate_next hT F.entry_enumerate_next ?_ (F.args_enumerate_next_1 _))))
  show wpAny _ _ (field (.ref e) 2 >>= _) _ _ _
  refine wpAny_bind (wpAny_field G rfl (x:=.ref it) rfl ?_)
  refine wpAny_bind (wpAny_nextOf_list_end (I.ok.hd hc) U p1.isList (by rw [List.getElem?_toArray];exact vQ (by omega)) fun h' y a9 ba=>?_)
  obtain ⟨o,ho,a7⟩:=ba
  refine wpAny_bind (wpAny_isInstance (T:="StopIteration") (b:=true) ⟨o,ho,a7⟩ isSubtype_stop (wpAny_pure ⟨rfl,?_⟩))
  exact I.turnedK (t':=s.toks) (ch:=[it]) (on1 (hf it (by simp))) fun c o J q=>a9 c o (by simpa using J) q
 self:=fun _ _ _ _ _ st h=>let ⟨_,q⟩:=st.1;wpAny_pyIter_enum q h
def iEnum (K:PySem.W.Frag) (ta:TA):TI:=fun σ H R=>ta σ H fun vs H1=>∃ a xs,vs=[.ref a]∧SqL K H1 a xs∧R (Ite K a 0) H1
section
variable {X:Cx}
theorem mm {elts:List Expr}{k1:Nat}{tp:Pos}{a:Expr}{ta:TA}{p pos:Pos} (hg:Gl X "enumerate") (hm:X.mg "enumerate"=none) (ha:PA X [a] ta) (hs:starEach [a] X.env=[(false,eval a X.env)]:=by rfl) :
  PI X (.Tuple elts k1 tp) (.Call (.Name "enumerate" p) [a] [] pos) (iEnum X.K ta):=by
 intro pins s σ H R I h
 refine Call_ (eX I hg hm boot_enumerate (vM (thn (ha pos pins s σ H _ I h) fun us G ⟨vs,H1,F,r1,U⟩=>?_) hs rfl))
 obtain ⟨l,xs,e,Z,q⟩:=U
 subst e
 obtain ⟨u,rfl,O⟩:=r1.one
 cases O
 obtain ⟨ag,rv,Y,hz⟩:=F.list Z
 refine call_enumerate_list Y.isList fun h' J a2 a3 W=>?_
 refine wpAny_pyIter_enum (s:={ G with heap:=h' }) J ?_
 refine ⟨_,[G.heap.objs.size+1,G.heap.objs.size],_,_,H1,rfl,F.kept (t':=G.toks) fun c o e=>W c o e,mS l _ _ 0 (by simp),⟨⟨_,J⟩,a2⟩,?_,q⟩
 refine rQ F (fun c hc=>F.hok.fresh hc) fun c hc=>?_
 simp only [u8,ve,or_false] at hc
 rcases hc with r | r<;>rw [r]
 ·exact Nat.le_add_right _ _
 ·exact va _
end
section
variable {X:Cx}
theorem uM (hc:X.calm=true):CallR X (.type "set") (fun xs H Q=>∃ (l:Addr) (ns:List Int),xs=[.ref l]∧SqL X.K H l (ns.map V.int)∧ns.length≤1000∧∀ p,H p=none→Q (.ref p) (upd H p (.set (fun k=>(firstMet (fun i=>ns.getD i 0) ns.length).any (· == k)) (firstMet (fun i=>ns.getD i 0) ns.length).length))):=by
 intro pins s σ H xs Y Q I r h
 obtain ⟨l,ns,rfl,W,hl,q⟩:=h
 obtain ⟨u,rfl,O⟩:=r.one
 cases O
 obtain ⟨F,J,U,hz⟩:=I.list W
 have G:F.length=ns.length:=by have:=J.length;rw [lH] at this;exact this.symm
 refine call_set_list (I.ok.hd hc) U.isList (ns:=ns) (by simpa using dM J) (by rw [vg,G];show _<4096;omega) fun h' tk st R=>?_
 have es:F.toArray.size=ns.length:=by rw [vg,G]
 rw [es] at st
 exact ⟨.ref s.heap.objs.size,_,I.laid (o:=.set (fun k=>(firstMet (fun i=>ns.getD i 0) ns.length).any (· == k)) (firstMet (fun i=>ns.getD i 0) ns.length).length) (t':=tk) (fun b o e=>R b o (Heap.lt_size e) e) (va _) st,rfl,q _ I.fresh⟩
theorem uO:CallR X (.builtin "len") (fun xs H Q=>∃ p S n,xs=[.ref p]∧H p=some (.set S n)∧n≤1000∧Q (.int n) H):=by
  intro pins s σ H xs R Q I r h
  obtain ⟨p,S,n,rfl,hp,hn,q⟩:=h
  obtain ⟨u,rfl,G⟩:=r.one
  cases G
  have st:s.heap.SetOf (intKind X.prog X.w) p S n:=I.hok p _ hp
  obtain ⟨o,es,O,t,h1,h2,h3,_,_,F,h7,J⟩:=st
  subst J
  exact call_len_set h1 h2 h3 h7 (by have:es.size<4096:=F
                                     omega) ⟨.int es.size,H,I.tok _,⟨_,rfl⟩,q⟩
end
section
variable {X:Cx}
theorem qD:∀ (bs:List Bool),(List.range bs.length).all (fun i=>bs.getD i false)=bs.all id
 | []=>rfl
 | b::r=>by
  rw [vh,List.range_succ_eq_map,wM,wz,wM]
  have e:((fun i=>(b::r).getD i false) ∘ Nat.succ)=fun i=>r.getD i false:=by funext i;rfl
  rw [e,qD r]
  rfl
theorem gr (hc:X.calm=true):CallR X (.builtin "all") (fun xs H Q=>∃ (l:Addr) (bs:List Bool),xs=[.ref l]∧SqL X.K H l (bs.map V.bl)∧Q (.bl (bs.all id)) H):=by
 intro pins s σ H xs us Q I r h
 obtain ⟨l,bs,rfl,hq,q⟩:=h
 obtain ⟨u,rfl,O⟩:=r.one
 cases O
 obtain ⟨F,Z,R,hz⟩:=I.list hq
 have Y:F.length=bs.length:=by have:=Z.length;rw [lH] at this;exact this.symm
 have hh:X.A.in1.handled=none:=I.ok.hd hc
 have lt:l<s.heap.objs.size:=by obtain ⟨o,_,e,_⟩:=R;exact Heap.lt_size e
 refine call_all_walk (wpAny_pyIter_list R.isList ?_)
 refine ⟨s.heap.objs.size,_,_,_,_,_,fun i=>bs.getD i false,rfl,Walks.list hh s.heap.objs.size l (vW lt) F.toArray,⟨⟨_,Heap.get?_push_size _ rfl,rfl,rfl⟩,R.isList.at fun o e=>Heap.get?_push_of_some _ e⟩,fun i v s' Q' E' hv G=>?_,fun h' tk kk=>?_⟩
 ·have J:F[i]?=some v:=by simpa using hv
  have hi:i<bs.length:=by rw [← Y];exact (u3.mp J).1
  obtain ⟨u,W,O⟩:=Z.get (i:=i) (x:=.bl bs[i]) (by rw [u5,rz hi];rfl)
  rw [J] at W
  cases W
  cases O
  have G:Q' (bs.getD i false) s':=G
  rw [nn,rz hi] at G
  exact wpAny_truthy_bool G
 ·have e:(List.range F.toArray.size).all (fun i=>bs.getD i false)=bs.all id:=by rw [vg,Y,qD]
  rw [e]
  exact ⟨.bl _,H,I.kept (t':=tk) fun b o U=>kk b o (by simpa using vW (Heap.lt_size U)) (Heap.get?_push_of_some _ U),rfl,q⟩
theorem gQ (ns:List Int):∀ i,preSum (fun i=>ns.getD i 0) i=(ns.take i).sum
 | 0=>by simp [preSum]
 | i+1=>by
  rw [preSum,gQ ns i]
  by_cases h:i<ns.length
  ·rw [vn,rz h,List.sum_append,nn,rz h]
   simp
  ·rw [nn,vQ (by omega),vi (by omega),vi (by omega)]
   simp
theorem sum_b:∀ (ns:List Int),(∀ v∈ns,0≤v∧v≤1000000)→0≤ns.sum∧ns.sum≤1000000*ns.length
 | [],_=>by simp
 | v::r,h=>by
  have h1:=h v vb
  have h2:=sum_b r fun w hw=>h w (vd _ hw)
  rw [List.sum_cons,vh]
  omega
theorem km (hc:X.calm=true):CallR X (.builtin "sum") (fun xs H Q=>∃ (l:Addr) (ns:List Int),xs=[.ref l]∧SqL X.K H l (ns.map V.int)∧ns.length≤1000∧(∀ v∈ns,0≤v∧v≤1000000)∧Q (.int ns.sum) H):=by
 intro pins s σ H xs us Q I r h
 obtain ⟨l,ns,rfl,hq,hl,hb,q⟩:=h
 obtain ⟨u,rfl,R⟩:=r.one
 cases R
 obtain ⟨F,rv,Y,hz⟩:=I.list hq
 have U:F.length=ns.length:=by have:=rv.length;rw [lH] at this;exact this.symm
 have hh:X.A.in1.handled=none:=I.ok.hd hc
 have lt:l<s.heap.objs.size:=by obtain ⟨o,_,e,_⟩:=Y;exact Heap.lt_size e
 refine call_sum_walk (wpAny_pyIter_list Y.isList ?_)
 refine ⟨s.heap.objs.size,_,_,_,_,_,fun i=>ns.getD i 0,rfl,Walks.list hh s.heap.objs.size l (vW lt) F.toArray,⟨⟨_,Heap.get?_push_size _ rfl,rfl,rfl⟩,Y.isList.at fun o e=>Heap.get?_push_of_some _ e⟩,fun b G=>?_,fun i v W=>?_,fun j hj=>?_,fun h' tk t' kk=>?_⟩
 ·show b<(s.heap.push _).objs.size
  rw [Heap.size_push]
  simp only [u8,ve,or_false] at G
  rcases G with z | z
  ·rw [z]
   exact Nat.lt_succ_self _
  ·rw [z]
   exact Nat.lt_succ_of_lt lt
 ·have O:F[i]?=some v:=by simpa using W
  have hi:i<ns.length:=by rw [← U];exact (u3.mp O).1
  obtain ⟨u,hu,R⟩:=rv.get (i:=i) (x:=.int ns[i]) (by rw [u5,rz hi];rfl)
  rw [O] at hu
  cases hu
  obtain ⟨t,rfl⟩:=R
  refine ⟨t,?_⟩
  show Value.int ns[i] t=Value.int (ns.getD i 0) t
  rw [nn,rz hi]
  rfl
 ·have J:j<ns.length:=by rw [← U];simpa using hj
  have b1:=hb ns[j] (v0 J)
  have b2:=sum_b (ns.take (j+1)) fun v W=>hb v (List.mem_of_mem_take W)
  rw [vj] at b2
  rw [gQ]
  refine ⟨?_,?_⟩
  ·show InLong (ns.getD j 0)
   rw [nn,rz J]
   show -(2 ^ 63)≤ns[j]∧ns[j]<2 ^ 63
   omega
  ·show -(2 ^ 63)≤(ns.take (j+1)).sum∧(ns.take (j+1)).sum<2 ^ 63
   omega
 ·have e:preSum (fun i=>ns.getD i 0) F.toArray.size=ns.sum:=by rw [vg,U,gQ,vI]
  rw [e]
  exact ⟨.int _,H,I.kept (t':=tk) fun b o Z=>kk b o (by simpa using vW (Heap.lt_size Z)) (Heap.get?_push_of_some _ Z),⟨_,rfl⟩,q⟩
end
theorem jC {K:PySem.W.Frag}{a:Addr}{xs:List V}{k0:Nat}{g:TG}{tb:TS}{D:Ends}{σ:St}{H:Hp} (Pv:Nat→St→Hp→Prop) (h0:Pv 0 σ H) (hl:∀ i σ H,Pv i σ H→SqL K H a xs)
  (hs:∀ i x σ H p,xs[i]?=some x→Pv i σ H→H p=none→g (.ref p) σ (upd H p (.tup [.int ((k0+i:Nat):Int),x])) fun σ2 H2=>tb { D with nx:=Pv (i+1),ct:=Pv (i+1),bk:=D.nx } σ2 H2) (hd:∀ σ H,Pv xs.length σ H→D.nx σ H) :
  ∃ W:Nat→Nat→St→Hp→Prop,(∃ m,W 0 m σ H)∧∀ i m σ H,W i m σ H →
   ((Ite K a k0).stop i H∧D.nx σ H)∨((Ite K a k0).go i H∧∃ N:St→Hp→Prop,(∀ σ' H',N σ' H'→∃ m',m'<m∧W (i+1) m' σ' H')∧∀ x H',(Ite K a k0).yld i H x H'→g x σ H' fun σ2 H2=>tb { D with nx:=N,ct:=N,bk:=D.nx } σ2 H2):=by
 refine ⟨fun i m σ H=>m=xs.length - i∧i≤xs.length∧Pv i σ H,⟨xs.length,by simp,vk _,h0⟩,?_⟩
 rintro i m σ H ⟨rfl,hi,p⟩
 have F:=hl i σ H p
 by_cases q:i<xs.length
 ·refine .inr ⟨⟨xs,xs[i],F,by simp [q]⟩,Pv (i+1),fun σ' H' G=>⟨xs.length - (i+1),by omega,rfl,q,G⟩,fun x H' y=>?_⟩
  obtain ⟨c,hc,e,y⟩:=y
  have I:=y xs xs[i] F (by simp [q])
  subst e I
  exact hs i xs[i] σ H c (by simp [q]) p hc
 ·have e:i=xs.length:=by omega
  exact .inl ⟨⟨xs,F,by omega⟩,hd σ H (by rw [← e];exact p)⟩
theorem n9 {K:PySem.W.Frag}{a:Addr}{xs:List V}{k0 k:Nat}{g:TG}{tt:TT}{te:TE}{tl:St}{D:Addr}{Q:Hp→Prop}{H0:Hp} (Pv:Nat→List V→Hp→Prop) (h0:Pv 0 [] (upd H0 D (.lst []))) (hl:∀ i ys H,Pv i ys H→SqL K H a xs)
  (hs:∀ i x ys H p,xs[i]?=some x→Pv i ys H→H D=some (.lst ys)→H p=none→g (.ref p) (List.replicate k none++tl) (upd H p (.tup [.int ((k0+i:Nat):Int),x])) fun σ2 H2=>(σ2.length=k+tl.length∧σ2.drop k=tl) ∧
   tt σ2 H2 fun b H3=>if b=true then te σ2 H3 fun v H4=>H4 D=some (.lst ys)∧ys.length<sizeLine∧Pv (i+1) (ys++[v]) (upd H4 D (.lst (ys++[v]))) else H3 D=some (.lst ys)∧Pv (i+1) ys H3)
  (hd:∀ ys H,Pv xs.length ys H→H D=some (.lst ys)→Q H) :
  ∃ W:Nat→Nat→List V→Hp→Prop,(∃ m,W 0 m [] (upd H0 D (.lst [])))∧i8 k (Ite K a k0) g tt te tl D Q W:=by
 refine ⟨fun i m ys H=>m=xs.length - i∧i≤xs.length∧Pv i ys H,⟨xs.length,by simp,vk _,h0⟩,?_⟩
 rintro i m ys H ⟨rfl,hi,p⟩ G
 have F:=hl i ys H p
 by_cases q:i<xs.length
 ·refine .inr ⟨⟨xs,xs[i],F,by simp [q]⟩,Pv (i+1),fun O H' I=>⟨xs.length - (i+1),by omega,rfl,q,I⟩,fun x H1 y=>?_⟩
  obtain ⟨c,hc,e,y⟩:=y
  have J:=y xs xs[i] F (by simp [q])
  subst e J
  exact hs i xs[i] ys H c (by simp [q]) p G hc
 ·have e:i=xs.length:=by omega
  exact .inl ⟨⟨xs,F,by omega⟩,hd ys H (by rw [← e];exact p) G⟩
end L2
namespace L2
open PySem PySem.Spec PyProof.Rows
theorem HOk.inB {P:Program}{w:World}{H:Hp}{h h' B:Heap} (x:HOk P w H h) (t:∀ b u,H b=some u→∃ o,B.get? b=some o) (k:B.StaysIn h) (k':B.StaysIn h'):HOk P w H h':=fun a o e =>
 (x a o e).stay (fun b u hb q=>by
  have G:∃ v,H b=some v:=by
   rcases hb with z | z
   ·exact ⟨o,by rw [z];exact e⟩
   ·exact ⟨_,z⟩
  obtain ⟨v,G⟩:=G
  obtain ⟨I,F⟩:=t b v G
  have:=k b I F
  rw [q] at this
  cases this
  exact k' b _ F) (fun _ q=>q) fun _ _ q=>q
structure Flies (P:Program) (w:World) (outer:List Env) (H:Hp) (s:Shared) (a:Addr) (B:Heap) (H':Hp) (s':Shared):Prop where
 os:s'.os=s.os
 bare:AllBare s'.gens
 new:s.heap.get? a=none
 un:Un (frs outer) [] H H' s.heap s'.heap
 hok:HOk P w H' s'.heap
 inB:∀ b o,s.heap.get? b=some o→b∉frs outer→∃ o',B.get? b=some o'∧(H b=none→o'=o)
 trk:∀ b u,H' b=some u→∃ o,B.get? b=some o
 st:B.StaysIn s'.heap
theorem Flies.on {P:Program}{w:World}{outer:List Env}{H H':Hp}{s s':Shared}{a:Addr}{B h':Heap} (F:Flies P w outer H s a B H' s') (hfr:∀ b∈frs outer,H b=none∧∃ o,s.heap.get? b=some o∧∀ vs,o.data≠.fields vs)
  (k:B.StaysIn h') (sm:s'.heap.UpToSlots h'):Flies P w outer H s a B H' { s' with heap:=h' }:=by
 have fr:∀ b o,s.heap.get? b=some o→b∈frs outer→∃ G,h'.get? b=some { o with slots:=G }:=fun b o e hb=>by
  obtain ⟨n,U,J,R⟩:=hfr b hb
  rw [e] at J
  cases J
  obtain ⟨G,q⟩:=F.un.any e n (by simp)
  obtain ⟨I,O⟩:=sm b _ q R
  exact ⟨I,O⟩
 refine ⟨F.os,F.bare,F.new,⟨fun b o e n hb _=>?_,fun b o e n hb _=>fr b o e hb,F.un.free,fun b o e _=>?_,F.un.tups,F.un.frzs,F.un.tbls⟩,F.hok.inB F.trk F.st k,F.inB,F.trk,k⟩
 ·obtain ⟨o',q,z⟩:=F.inB b o e hb
  rw [z n] at q
  exact k b o q
 ·by_cases hb:b∈frs outer
  ·obtain ⟨G,q⟩:=fr b o e hb
   exact ⟨_,q⟩
  ·obtain ⟨o',q,_⟩:=F.inB b o e hb
   exact ⟨o',k b o' q⟩
section
variable {X:Cx}{pins:List (Addr×Obj)}{σ:St}{H H':Hp}{s s':Shared}{a:Addr}{B:Heap}
theorem Inv.frOk (I:Inv X pins σ H s):∀ b∈frs X.stack,H b=none∧∃ o,s.heap.get? b=some o∧∀ vs,o.data≠.fields vs:=fun b hb=>⟨I.stkFree b hb,(I.stack.mem hb).2⟩
theorem Inv.offStack (I:Inv X pins σ H s) {b:Addr}{o:Obj} (e:X.s₀.heap.get? b=some o) (hb:b∉X.fs):b∉frs X.stack:=fun hm=>by
 rcases u8.mp (I.stkSub b hm) with z | z
 ·exact absurd (Heap.lt_size e) (by rw [z];exact Nat.not_lt.mpr I.ok.above)
 ·exact hb z
theorem Flies.left (F:Flies X.prog X.w X.stack H s a B H' s') (I:Inv X pins σ H s) (hex:X.ex=[]):Flies X.prog X.w X.outer X.H₀ X.s₀ a B H' s':=by
 have G:∀ b,b∉X.ex:=fun b=>by rw [hex];simp
 have R:X.s₀.heap.get? a=none:=by
  cases q:X.s₀.heap.get? a with
  | none=>rfl
  | some o =>
   obtain ⟨o',e⟩:=I.base.there a o q (G a)
   rw [F.new] at e
   cases e
 refine ⟨F.os.trans I.os,F.bare,R,⟨fun b o e n hb _=>?_,fun b o e n hb _=>?_,fun b o e n _=>?_,fun b o e _=>?_,fun b xs q=>F.un.tups b xs (I.base.tups b xs q),fun b o xs q=>F.un.frzs b o xs (I.base.frzs b o xs q),fun b ps q=>?_⟩,F.hok,fun b o e hb=>?_,F.trk,F.st⟩
 ·exact F.un.keep b o (I.base.keep b o e n hb (G b)) (I.base.free b o e n (G b)) (I.offStack e hb) (by simp)
 ·obtain ⟨sl,J⟩:=I.base.slot b o e n hb (G b)
  obtain ⟨U,O⟩:=F.un.any J (I.base.free b o e n (G b)) (by simp)
  exact ⟨U,O⟩
 ·obtain ⟨o',J⟩:=I.base.there b o e (G b)
  exact F.un.free b o' J (I.base.free b o e n (G b)) (by simp)
 ·obtain ⟨o',J⟩:=I.base.there b o e (G b)
  exact F.un.there b o' J (by simp)
 ·obtain ⟨Y,J⟩:=I.base.tbls b ps q
  obtain ⟨Z,O⟩:=F.un.tbls b _ J
  exact ⟨Y++Z,by rw [O,Array.append_assoc]⟩
 ·obtain ⟨W,J⟩:=I.base.there b o e (G b)
  obtain ⟨o',q,z⟩:=F.inB b W J (I.offStack e hb)
  refine ⟨o',q,fun n=>?_⟩
  have O:=I.base.keep b o e n hb (G b)
  rw [J] at O
  cases O
  exact z (I.base.free b _ e n (G b))
theorem Inv.flies {h':Heap}{cls:Value}{vs:List Value} (I:Inv X pins σ H s) (hx:Heap.MadeExcOf s.heap h' a cls vs):Flies X.prog X.w X.stack H s a (PySem.W.hideAll s.heap (frs X.stack)) H { s with heap:=h' }:=by
 have G:∀ b o,s.heap.get? b=some o→b∉frs X.stack→(PySem.W.hideAll s.heap (frs X.stack)).get? b=some o:=fun b o e hb=>PySem.W.hideAll_get _ e hb
 refine ⟨rfl,I.bare,hx.new,Un.kept hx.keeps,I.hok.kept hx.keeps,fun b o e hb=>⟨o,G b o e hb,fun _=>rfl⟩,fun b u e=>?_,fun b o e=>hx.keeps b o (PySem.W.of_hideAll _ e)⟩
 obtain ⟨o,q⟩:∃ o,s.heap.get? b=some o:=by
  have:=I.hok.lt e
  have F:=I.hok b u e
  cases u with
  | lst xs=>obtain ⟨_,_,_,_,q⟩:=F;exact ⟨_,q⟩
  | tup xs=>obtain ⟨_,_,_,o,q,_⟩:=F;exact ⟨_,q⟩
  | dK kvs=>obtain ⟨_,_,_,_,o,_,_,q,_⟩:=F;exact ⟨_,q⟩
  | dT kvs=>obtain ⟨_,_,_,_,o,_,_,q,_⟩:=F;exact ⟨_,q⟩
  | set S n=>obtain ⟨o,_,_,_,q,_⟩:=F;exact ⟨_,q⟩
  | ins C dx fs=>obtain ⟨_,_,_,q,_⟩:=F;exact ⟨_,q⟩
  | own y=>exact F
  | xd fs=>obtain ⟨_,⟨o,_,_,q,_⟩,_⟩:=F;exact ⟨_,q⟩
  | rng lo hi=>obtain ⟨_,_,_,q⟩:=F;exact ⟨_,q⟩
  | frz ob u=>obtain ⟨q,_⟩:=F;exact ⟨_,q⟩
  | tbl ps=>exact ⟨_,(show s.heap.get? b=some _ from F)⟩
  | met f y=>exact ⟨_,(show s.heap.get? b=some _ from F)⟩
  | ext φ=>obtain ⟨_,q,_⟩:=F;exact q
 refine ⟨o,G b o q fun J=>?_⟩
 rw [I.stkFree b J] at e
 cases e
end
def CXE (P:Program) (w:World):CXT:=fun outer H s E e s'=>∃ (a C:Addr) (a0:Value) (B:Heap) (H':Hp),e=.ref a∧Flies P w outer H s a B H' s'∧Heap.FlyingW B outer a (.ref C) a0 s'.heap∧E (.ref C) none H'
section
variable {P:Program}{w:World}{K:PySem.W.Frag}{mg:Str→Option Value}{base:Heap}{N:List Str}{qual:Str}{scope:Scope}{f:Addr}{cd:Value}{A:Around}{outer:List Env}{s0:Shared}{H0:Hp}{E:XK}
theorem passE:jf (CXE P w) (jt (CXE P w) P w K mg base N qual scope f cd A outer s0 H0 E) E:=by
 intro pins σ H s e s' I O
 obtain ⟨a,C,a0,B,H',R,F,G,U⟩:=O
 subst R
 show wpAny (model P w) (A.deeper (envOfC qual scope s0.heap.objs.size f cd)) (leaving (envOfC qual scope s0.heap.objs.size f cd) (.ref a)) _ _ s'
 refine wpAny_leaves_onW (L:=s0.heap.objs.size) I.ok.frames rfl G fun h' q J=>?_
 exact ⟨a,C,a0,B,H',rfl,(F.on I.frOk q.1 J).left I rfl,q,U⟩
theorem raisedE {pins:List (Addr×Obj)}{σ:St}{H:Hp}{s:Shared}{h':Heap}{a C:Addr}{vs:List Value} (I:Inv (jt (CXE P w) P w K mg base N qual scope f cd A outer s0 H0 E) pins σ H s) (hx:Heap.MadeExcOf s.heap h' a (.ref C) vs) (hE:E (.ref C) none H) :
  (jt (CXE P w) P w K mg base N qual scope f cd A outer s0 H0 E).xe (.ref a) { s with heap:=h' }:=by
 show wpAny (model P w) (A.deeper (envOfC qual scope s0.heap.objs.size f cd)) (leaving (envOfC qual scope s0.heap.objs.size f cd) (.ref a)) _ _ { s with heap:=h' }
 have F:=I.flies hx
 refine wpAny_leaves_madeW (L:=s0.heap.objs.size) (base:=PySem.W.hideAll s.heap (frs (envOfC qual scope s0.heap.objs.size f cd::outer))) (h:=s.heap) I.ok.frames rfl (fun b o q=>PySem.W.of_hideAll _ q)
  (PySem.W.funFrames_hide I.stack fun J R b hb=>List.mem_filterMap.mpr ⟨J,R,hb⟩) hx fun U t G _ _ O=>?_
 exact ⟨a,C,_,_,H,rfl,(F.on I.frOk G.1 O).left I rfl,G,hE⟩
end
abbrev vErr:List Value:=[.type "ValueError",.type "Exception",.type "BaseException",.type "object"]
structure Exc (K:PySem.W.Frag) (mg:Str→Option Value) (x:Str) (C:Addr) (bm:List Value):Prop where
 bound:mg x=some (.ref C)
 obj:∃ (N:Addr) (nm q:Str) (bs:List Value) (hdct:Bool) (sn:List Str) (sub:List Value) (ab:Bool) (col:Option Bool) (dd:Option Addr) (k0 k1 k2 k3 k5:Option Value),
  K.lookup C=some (excClassObj nm q C N bs bm hdct sn sub ab col dd k0 k1 k2 k3 k5 "ValueError.__new__")∧PySem.W.nsOkIn K N=true∧PySem.W.nsIn K N "__init__"=some none∧PySem.W.tailIn K vErr bm=true
theorem Exc.base {K:PySem.W.Frag}{mg:Str→Option Value}{x:Str}{C:Addr}{bm:List Value} (O:Exc K mg x C bm) {h:Heap} (X:K.In h):bm.contains (.type "BaseException")=true:=by
 obtain ⟨N,nm,q,bs,hdct,sn,sub,ab,col,dd,k0,k1,k2,k3,k5,lk,n1,n2,tl⟩:=O.obj
 exact (PySem.W.tail_of_in X tl).hasType PySem.F.excBase_ValueError.hasBase
theorem kY {K:PySem.W.Frag}{mg:Str→Option Value}{x:Str}{C N:Addr}{nm q:Str}{bs bm sub:List Value}{hdct ab:Bool}{sn:List Str}{col:Option Bool}{dd:Option Addr}{k0 k1 k2 k3 k5:Option Value} (b:mg x=some (.ref C))
  (lk:K.lookup C=some (excClassObj nm q C N bs bm hdct sn sub ab col dd k0 k1 k2 k3 k5 "ValueError.__new__")) (h:PySem.W.excIn K C vErr "ValueError.__new__"=true):Exc K mg x C bm:=by
 unfold PySem.W.excIn at h
 rw [lk] at h
 simp only [vx,beq_iff_eq] at h
 obtain ⟨⟨⟨_,h1⟩,h2⟩,h3⟩:=h
 exact ⟨b,N,nm,q,bs,hdct,sn,sub,ab,col,dd,k0,k1,k2,k3,k5,lk,h2,h3,h1⟩
def tRaise (te:TE) (C:Addr) (E:XK):TS:=fun _ σ H=>te σ H fun _ H1=>1≤sizeLine∧E (.ref C) none H1
section
variable {P:Program}{w:World}{K:PySem.W.Frag}{mg:Str→Option Value}{base:Heap}{N:List Str}{qual:Str}{scope:Scope}{f:Addr}{cd:Value}{A:Around}{outer:List Env}{s0:Shared}{H0:Hp}{E:XK}
theorem gA {x:Str}{C:Addr}{bm:List Value}{e:Expr}{te:TE}{np cpos pos:Pos} (O:Exc K mg x C bm) (hg:Gl (jt (CXE P w) P w K mg base N qual scope f cd A outer s0 H0 E) x)
  (he:PE (jt (CXE P w) P w K mg base N qual scope f cd A outer s0 H0 E) e te) (hdb:(x == ("__debug__":Str))=false:=by decide)
  (hs:starEach [e] (jt (CXE P w) P w K mg base N qual scope f cd A outer s0 H0 E).env=[(false,eval e (jt (CXE P w) P w K mg base N qual scope f cd A outer s0 H0 E).env)]:=by rfl) :
  PS (jt (CXE P w) P w K mg base N qual scope f cd A outer s0 H0 E) (.Raise (some (.Call (.Name x np) [e] [] cpos)) none pos) (tRaise te C E):=by
 intro pins s σ H D I h
 have KX:=I.kIn
 obtain ⟨R,nm,q,bs,hdct,sn,sub,ab,col,dd,k0,k1,k2,k3,k5,Z,Y,n2,tl⟩:=O.obj
 have J:=O.base KX
 have U:base.Ns R (base.nsMap R):=.of_isNs (PySem.W.isNs_of_in I.ok.mod.kin Y)
 refine wpAny_Raise_call_subT (nm:=nm) (q:=q) (C:=C) (N:=R) (bs:=bs) (bm:=bm) (hdct:=hdct) (sn:=sn) (sub:=sub) (ab:=ab) (col:=col) (dd:=dd) (k0:=k0) (k1:=k1) (k2:=k2) (k3:=k3) (k5:=k5) (mN:=base.nsMap R)
  PySem.F.excBase_ValueError J (I.ok.hd rfl) (by rw [hs];rfl) (PySem.W.nsMap_none_of_in I.ok.mod.kin Y n2) (iV I hg O.bound ⟨rfl,?_⟩ hdb)
 have ha:=aa he (ac (X:=jt (CXE P w) P w K mg base N qual scope f cd A outer s0 H0 E)) hs
 have hz:=ha cpos pins s σ H (fun vs H1=>vs.length≤sizeLine∧E (.ref C) none H1) I h
 rw [hs] at hz ⊢
 refine Calls.evalArgs_plain (thn hz fun us s2 ⟨vs,H1,G,r1,hl,q1⟩=>?_)
 exact ⟨rfl,by rw [← r1.length];exact hl,G.kIn _ _ Z,U.keeps G.bk,PySem.W.tail_of_in G.kIn tl,fun h' a hx=>raisedE G hx q1⟩
end
def PJ (X:Cx) (es:List Expr) (n:Nat) (t:St→Hp→(Hp→Prop)→Prop):Prop:=∀ (pins:List (Addr×Obj)) (s:Shared) (σ:St) (H:Hp) (Q:Hp→Prop) (out:Str),Inv X pins σ H s→out.length+n≤sizeLine→t σ H Q →
 wpAny (model X.prog X.w) X.A (joinParts out (evalEach es X.env)) (fun u s'=>∃ x tk H',u=Value.str x tk∧Inv X pins σ H' s'∧Q H') X.xe s
section
variable {X:Cx}{n:Nat}{es:List Expr}{t:St→Hp→(Hp→Prop)→Prop}
end
def Cx.tried (X:Cx) (pins:List (Addr×Obj)) (E':Value→Shared→Prop):Cx:={ X with pn:=X.pn++pins,xe:=E' }
def Cx.caught (X:Cx) (a:Addr):Cx:={ X with A:=X.A.mark (some (.ref a)),calm:=false,xe:=fun _ _=>False }
def ExAt (a C:Addr):HO:=.ext fun h=>∃ o,h.get? a=some o∧o.cls=.ref C
section
variable {X:Cx}{pins pins':List (Addr×Obj)}{σ:St}{H H':Hp}{s s':Shared}{E':Value→Shared→Prop}{a C:Addr}{a0:Value}{B:Heap}
theorem Cx.Ok.tried (ok:X.Ok):(X.tried pins E').Ok:=⟨ok.mod,ok.kind,ok.glob,ok.blt,ok.above,ok.inj,ok.has,ok.cab,ok.hd,ok.frames,ok.stk,ok.exf,ok.bs,ok.bsz,ok.noex,ok.exfs,ok.funs,ok.frf⟩
theorem Cx.Ok.untried (ok:(X.tried pins E').Ok):X.Ok:=⟨ok.mod,ok.kind,ok.glob,ok.blt,ok.above,ok.inj,ok.has,ok.cab,ok.hd,ok.frames,ok.stk,ok.exf,ok.bs,ok.bsz,ok.noex,ok.exfs,ok.funs,ok.frf⟩
theorem Cx.Ok.caught (ok:X.Ok):(X.caught a).Ok:=⟨ok.mod,ok.kind,ok.glob,ok.blt,ok.above,ok.inj,ok.has,ok.cab,fun z=>(nomatch z),ok.frames,ok.stk,ok.exf,ok.bs,ok.bsz,ok.noex,ok.exfs,ok.funs,ok.frf⟩
theorem Inv.tried (I:Inv X pins σ H s):Inv (X.tried pins E') [] σ H s:=⟨I.ok.tried,I.os,I.bare,I.base,I.loc,I.cell,I.free,I.freeC,fun p hp=>I.pin p (by simpa [Cx.tried] using hp),I.hok,I.len⟩
theorem Inv.untried (I:Inv (X.tried pins E') pins' σ H s):Inv X pins σ H s:=⟨I.ok.untried,I.os,I.bare,I.base,I.loc,I.cell,I.free,I.freeC,fun p hp=>I.pin p (List.mem_append_left _ hp),I.hok,I.len⟩
theorem Inv.caught (I:Inv X pins σ H s):Inv (X.caught a) pins σ H s:=⟨I.ok.caught,I.os,I.bare,I.base,I.loc,I.cell,I.free,I.freeC,I.pin,I.hok,I.len⟩
theorem Inv.uncaught (I:Inv (X.caught a) pins σ H s) (ok:X.Ok):Inv X pins σ H s:=⟨ok,I.os,I.bare,I.base,I.loc,I.cell,I.free,I.freeC,I.pin,I.hok,I.len⟩
theorem SP.untried {D:Ends}{f:Flow} (h:SP (X.tried pins E') [] D f s'):SP X pins D f s':=by
 cases f with
 | next=>obtain ⟨σ',H',I,q⟩:=h;exact ⟨σ',H',I.untried,q⟩
 | brk=>obtain ⟨σ',H',I,q⟩:=h;exact ⟨σ',H',I.untried,q⟩
 | cont=>obtain ⟨σ',H',I,q⟩:=h;exact ⟨σ',H',I.untried,q⟩
 | ret u=>obtain ⟨v,σ',H',I,r,q⟩:=h;exact ⟨v,σ',H',I.untried,r,q⟩
def Landed (X:Cx) (pins:List (Addr×Obj)) (σ:St) (a C:Addr) (H':Hp) (s':Shared):Prop :=
 ∃ (H:Hp) (s:Shared) (a0:Value) (B:Heap),Inv X pins σ H s∧Flies X.prog X.w X.stack H s a B H' s'∧Heap.FlyingW B X.stack a (.ref C) a0 s'.heap
theorem Flies.fresh (F:Flies X.prog X.w X.stack H s a B H' s') (fl:Heap.FlyingW B X.stack a (.ref C) a0 s'.heap):H' a=none:=by
 cases q:H' a with
 | none=>rfl
 | some u =>
  obtain ⟨o,e⟩:=F.trk a u q
  rw [fl.2.1] at e
  cases e
theorem Landed.fresh (L:Landed X pins σ a C H' s'):H' a=none:=let ⟨_,_,_,_,_,F,fl⟩:=L;F.fresh fl
theorem Landed.inv (L:Landed X pins σ a C H' s'):Inv X pins σ (upd H' a (ExAt a C)) s':=by
 have G:=L.fresh
 obtain ⟨H,s,a0,B,I,F,O⟩:=L
 have Y:∀ b o,s.heap.get? b=some o→b≠a:=fun b o e z=>by rw [z,F.new] at e;cases e
 refine I.call' (ch:=[]) F.os ⟨F.un.keep,F.un.slot,fun b o e n R=>?_,F.un.there,fun b xs e=>?_,fun b o xs e=>?_,fun b ps e=>?_⟩ (fun b o e=>?_) F.bare (fun b z=>absurd z (by simp))
 ·rw [az (Y b o e)]
  exact F.un.free b o e n R
 ·have q:=F.un.tups b xs e
  rw [az (aq q G)]
  exact q
 ·have q:=F.un.frzs b o xs e
  rw [az (aq q G)]
  exact q
 ·obtain ⟨m,q⟩:=F.un.tbls b ps e
  exact ⟨m,by rw [az (aq q G)];exact q⟩
 ·by_cases hb:b=a
  ·subst hb
   rw [upd_same] at e
   cases e
   obtain ⟨J,h1,h2⟩:=O.there
   exact ⟨⟨J,h1,h2⟩,⟨J,h1⟩,fun Z g2 ⟨o,U,W⟩ k=>⟨o,k o U,W⟩⟩
  ·rw [az hb] at e
   exact (F.hok b o e).stay (fun _ _ _ q=>q) (fun c q=>by rw [az (aq q G)];exact q) fun c xs q=>by rw [az (aq q G)];exact q
def uZ (X:Cx) (pins:List (Addr×Obj)) (E':Value→Shared→Prop) (Ek:XK) (σ:St):Prop:=∀ H a C H' s' (s:Shared) (a0:Value) (B:Heap),Inv X pins σ H s→Flies X.prog X.w X.stack H s a B H' s'→Heap.FlyingW B X.stack a (.ref C) a0 s'.heap→Ek (.ref C) none H'→E' (.ref a) s'
end
def tCallT (sp:Sp) (σ0:St) (Ek:XK) (t:TA):TE:=fun σ H Q=>σ=σ0∧t σ H fun vs H1=>sp vs H1 Q Ek
section
variable {X:Cx}{pins:List (Addr×Obj)}{E':Value→Shared→Prop}{Ek:XK}{σ0:St}{k j:Nat}{x:Str}{p pos:Pos}{e:Expr}{es:List Expr}{t:TA}{ps:List Str}{sp:Sp}
theorem pe_callT (O:Ok X.prog X.w X.K X.mg X.base (CXE X.prog X.w) k x ps sp) (hr:Room j X.A) (hc:uZ X pins E' Ek σ0) (hg:Gl (X.tried pins E') x) (ha:PA (X.tried pins E') (e::es) t) (hle:k≤j:=by decide) (hdb:(x == ("__debug__":Str))=false:=by decide)
  (he:starEach (e::es) (X.tried pins E').env=(false,eval e (X.tried pins E').env)::starEach es (X.tried pins E').env:=by rfl) (hpl:(backTo pos (starEach es (X.tried pins E').env)).any (·.1)=false:=by rfl) :
  PE (X.tried pins E') (.Call (.Name x p) (e::es) [] pos) (tCallT sp σ0 Ek t):=by
 intro pins' s σ H Q I h
 obtain ⟨f,fd,F,b,kp,m⟩:=O
 obtain ⟨eσ,h⟩:=h
 subst eσ
 refine wpAny_Call_Name_kw (iV I hg m ?_ hdb)
 refine PySem.W.callWith_K (h₀:=X.base) I.ok.mod.kin kp (thn (ha pos pins' s σ H _ I h) fun G U ⟨vs,H1,J,r,q⟩=>⟨J.kIn,?_⟩) he hpl
 have hl:G.length=ps.length:=by rw [← r.length];exact F.len _ _ _ _ q
 have Z:BindsTo U fd ⟨G,[]⟩ (ps.zip G):=by
  have:=b U G J.kIn (by rw [vT];exact hl)
  rw [vT] at this
  exact this
 refine wpAny_call (codeAny_mono (F.run X.A X.stack U H1 ⟨G,[]⟩ G vs Q Ek (hr.mono hle) J.env0 Z r q) fun r s' R=>?_)
 cases r with
 | error ev =>
  obtain ⟨a,C,a0,B,H',e1,Fl,Y,hE⟩:=R
  subst e1
  exact hc H1 a C H' s' U a0 B J.untried Fl Y hE
 | ok Y =>
  cases Y with
  | ret u=>exact J.after R
  | next=>exact False.elim R
  | brk=>exact False.elim R
  | cont=>exact False.elim R
end
theorem Inv.forget {X:Cx}{pins:List (Addr×Obj)}{σ:St}{H:Hp}{s:Shared}{h':Heap}{m':Str→Option Value}{t':Nat} (I:Inv X pins σ H s) (hn:h'.Ns X.env.locals m') (sb:Heap.SameBut X.env.locals s.heap h'):Inv X pins (List.replicate X.N.length none) H { s with heap:=h',toks:=t' }:=by
 have G:∀ b o,X.s₀.heap.get? b=some o→b≠X.env.locals:=fun b o e=>vW (vF (Heap.lt_size e) I.ok.above)
 refine ⟨I.ok,I.os,I.bare,⟨fun b o e n hb F=>(sb.2 b (G b o e)).trans (I.base.keep b o e n hb F),fun b o e n hb F=>?_,I.base.free,fun b o e F=>?_,I.base.tups,I.base.frzs,I.base.tbls⟩,⟨m',hn,fun j y v e1 J Z=>?_⟩,fun y c e=>?_,I.free,I.freeC,fun p hp=>?_,fun b W e=>?_,by simp⟩
 ·obtain ⟨R,q⟩:=I.base.slot b o e n hb F
  exact ⟨R,(sb.2 b (G b o e)).trans q⟩
 ·obtain ⟨o',q⟩:=I.base.there b o e F
  exact ⟨o',(sb.2 b (G b o e)).trans q⟩
 ·rw [List.getElem?_replicate] at J
  split at J<;>cases J
 ·obtain ⟨v,z⟩:=I.cell y c e
  exact ⟨v,z.sameBut sb (I.cne y c e)⟩
 ·obtain ⟨e,n,O,Y,U⟩:=I.pin p hp
  exact ⟨(sb.2 p.1 O).trans e,n,O,Y,U⟩
 ·refine (I.hok b W e).stay (fun c u hc q=>(sb.2 c fun z=>?_).trans q) (fun _ q=>q) fun _ _ q=>q
  rcases hc with hc | hc
  ·rw [← hc,z,I.free] at e
   cases e
  ·rw [z,I.free] at hc
   cases hc
abbrev TH:=Addr→Addr→Ends→St→Hp→Prop
def PH (X:Cx) (hs:List ExceptHandler) (t:TH):Prop:=∀ (pins:List (Addr×Obj)) (σ:St) (H':Hp) (s':Shared) (a C:Addr) (D:Ends),Landed X pins σ a C H' s'→t C a D σ H'→wpAny (model X.prog X.w) X.A (handleBy (.ref a) X.env hs) (SP X pins D) X.xe s'
def noClause:TH:=fun _ _ _ _ _=>False
theorem ph_nil {X:Cx}:PH X [] noClause:=fun _ _ _ _ _ _ _ _ h=>h.elim
section
variable {M:Model}{A:Around}{E:Value→Shared→Prop}{h:Heap}{g:Array GenState}{d:Drawn}{t:Nat}{os:OsState}
theorem kK {nm q nm' q':Str}{C N D N':Addr}{bs bm bs' bm':List Value}{hdct hdct':Bool}{sn sn':List Str}{sub sub':List Value}{ab ab':Bool}{col col':Option Bool}{dd dd':Option Addr}{k0 k1 k2 k3 k5 j0 j1 j2 j3 j5:Option Value}{newId newId':String}
  {e:Addr}{oe:Obj}{Q:Bool→Shared→Prop} (hC:h.get? C=some (excClassObj nm q C N bs bm hdct sn sub ab col dd k0 k1 k2 k3 k5 newId)) (hD:h.get? D=some (excClassObj nm' q' D N' bs' bm' hdct' sn' sub' ab' col' dd' j0 j1 j2 j3 j5 newId'))
  (he:h.get? e=some oe) (hcls:oe.cls=.ref C) (hbase:bm'.contains (.type "BaseException")=true) {b:Bool} (hb:(Value.ref C::bm).contains (.ref D)=b) (hq:Q b ⟨h,g,d,t,os⟩):wpAny M A (excMatches (.ref e) (.ref D)) Q E ⟨h,g,d,t,os⟩:=by
 have F:(Value.ref D::bm').contains (.type "BaseException")=true:=by rw [List.contains_cons,hbase,Bool.or_true]
 have f:=tc_notTuple
 unfold excMatches
 repeat (first | (with_reducible refine wpAny_loadPart_at he ?_;rw [hcls]) | with_reducible refine wpAny_loadPart_at hD ?_ | (with_reducible refine wpAny_isSubtype_exc hD ?_;rw [F]) | (with_reducible refine wpAny_isSubtype_exc hC ?_;rw [hb]) | wp_step)
 cases b<;>(repeat wp_step)<;>exact hq
end
def Ends.only (D:Ends):Ends:={ nx:=fun _ _=>False,rt:=D.rt }
section
variable {X:Cx}{i:Nat}{x n y:Str}{np pos:Pos}{b₀:Stmt}{suite:List Stmt}{rest:List ExceptHandler}{ts:TS}{tr:TH}
def tClause (K:PySem.W.Frag) (mg:Str→Option Value) (Dc:Addr) (i:Nat) (ts:TS) (tr:TH):TH:=fun C a D σ H=>∃ (y:Str) (bm:List Value) (b:Bool),Exc K mg y C bm∧(Value.ref C::bm).contains (.ref Dc)=b ∧
 if b=true then (∀ a,H a=none→ts D.only (σ.set i (some (.ref a))) (upd H a (ExAt a C))) else tr C a D σ H
theorem ph_as {Dc:Addr}{bmD:List Value} (O:Exc X.K X.mg x Dc bmD) (hg:Gl X x) (hN:X.N.Nodup) (hi:X.N[i]?=some n) (hl:X.env.scope.names.lookup n=some .local) (hs:∀ a,PSs (X.caught a) (b₀::suite) ts) (hr:PH X rest tr)
  (hk:X.env.kindOf n=some .local:=by rfl) (hdb:(x == ("__debug__":Str))=false:=by decide):PH X (.ExceptHandler (some (.Name x np)) (some n) (b₀::suite) pos::rest) (tClause X.K X.mg Dc i ts tr):=by
 intro pins σ H' s' a C D L h
 obtain ⟨y,bm,b,OC,hb,h⟩:=h
 have I:=L.inv
 have ok:=I.ok
 obtain ⟨Nn,nm,q,bs,a2,sn,sub,ab,bx,dd,k0,k1,k2,k3,k5,al,_,_,_⟩:=O.obj
 obtain ⟨bz,bf,q',b0,ap,bl,a3,b1,a5,b2,j0,j1,j2,j3,j5,U,_,_,_⟩:=OC.obj
 have G:=O.base I.kIn
 refine wpAny_handleBy_cons (codeAny_handlers_test (iV (X:=X.caught a) (I.caught (a:=a)) hg O.bound ?_ hdb)) (by intro z;cases z)
 obtain ⟨oe,he,R⟩:∃ o,s'.heap.get? a=some o∧o.cls=.ref C:=(I.hok a _ upd_same).1
 have hC:=I.kIn _ _ U
 have hD:=I.kIn _ _ al
 obtain ⟨hp,g,d,tk,os⟩:=s'
 refine kK hC hD he R G hb ?_
 cases b with
 | false=>exact hr pins σ H' _ a C D L h
 | true =>
  have h:∀ a,H' a=none→ts D.only (σ.set i (some (.ref a))) (upd H' a (ExAt a C)):=h
  refine codeAny_handlers_suite_as ?_
  obtain ⟨H0,s0,a0,B,I0,F0,Z⟩:=id L
  refine lands_againW Z fun h6 J W=>?_
  have L6:Landed X pins σ a C H' ⟨h6,g,d,tk,os⟩:=⟨H0,s0,a0,B,I0,F0.on I0.frOk J.1 W,J⟩
  refine gs (X:=X) (v:=.ref a) L6.inv hN hi (.inl hl) rfl (fun s7 I7=>?_) (.inr hl)
  refine wpAny_mono (hs a pins s7 _ _ D.only I7.caught (h a L.fresh)) (fun f s8 F=>?_) (fun _ _ z=>False.elim z)
  cases f with
  | next=>obtain ⟨_,_,_,z⟩:=F;exact False.elim z
  | brk=>obtain ⟨_,_,_,z⟩:=F;exact False.elim z
  | cont=>obtain ⟨_,_,_,z⟩:=F;exact False.elim z
  | ret u =>
   obtain ⟨v,σ8,H8,I8,r8,F⟩:=F
   obtain ⟨m8,ai,_⟩:=I8.loc
   refine wpAny_nameGoes hk ai (by rw [ok.kind];rfl) fun h9 m9 af Y=>?_
   exact ⟨v,_,H8,(I8.uncaught ok).forget af Y,r8,F⟩
def tTry (tb:XK→St→TS) (th:TH):TS:=fun D σ H=>tb (fun c _ H'=>∃ C,c=.ref C∧∀ a,H' a=none→th C a D σ H') σ D σ H
theorem ps_try {body:List Stmt}{h₀:ExceptHandler}{hs:List ExceptHandler}{tb:XK→St→TS}{th:TH} (hX:X.stack=X.env::X.outer) (hf:X.env.frame=some X.env.locals)
  (hb:∀ (pins:List (Addr×Obj)) (E':Value→Shared→Prop) (Ek:XK) (σ0:St),uZ X pins E' Ek σ0→PSs (X.tried pins E') body (tb Ek σ0)) (hh:PH X (h₀::hs) th):PS X (.Try body (h₀::hs) [] [] pos) (tTry tb th):=by
 intro pins s σ H D I h
 refine wpAny_Try_except (wpAny_mono (hb pins _ _ σ (fun H1 a C H' s' s1 a0 B R F W hE=>?_) [] s σ H D I.tried h) (fun f s1 q=>?_) fun _ _ z=>z)
 ·obtain ⟨C',eC,Y⟩:=hE
  cases eC
  have J:=W
  rw [hX] at J
  have Z:X.A.frames=some (X.env::X.outer):=by rw [I.ok.frames,hX]
  refine wpAny_looks_onW Z hf J fun h4 O af=>?_
  refine wpAny_landsW O fun h5 G U=>?_
  rw [← hX] at G
  exact hh pins σ H' _ a C D ⟨H1,s1,a0,B,R,F.on R.frOk G.1 (af.trans U),G⟩ (Y a (F.fresh W))
 ·cases f with
  | next=>exact wpAny_execs_nil (SP.untried (f:=.next) q)
  | brk=>exact SP.untried (f:=.brk) q
  | cont=>exact SP.untried (f:=.cont) q
  | ret u=>exact SP.untried (f:=.ret u) q
theorem PS.nox {X:Cx}{st:Stmt}{t:TS} (h:PS X.nox st t):PS X st t:=fun pins s σ H D I hw =>
 wpAny_mono (h pins s σ H D (I.wish _) hw) (fun _ _ q=>q.unwish) fun _ _ z=>z.elim
end
section
variable {P:Program}{w:World}{K:PySem.W.Frag}{mg:Str→Option Value}{base:Heap}
theorem Src.okE {x qual:Str}{st:Stmt}{N ps:List Str}{k:Nat}{sp:Sp} (F:Src K mg x qual st ps) (S:ax N ps (ao st)) (len:∀ vs H Q E,sp vs H Q E→vs.length=ps.length)
  (hbody:∀ (f:Addr) (cdv:Value) (A:Around) (outer:List Env) (s:Shared) (H:Hp) (vs:List V) (Q:VK) (E:XK),Room k (A.deeper (envOfC qual (ao st) s.heap.objs.size f cdv))→sp vs H Q E →
   ∃ t,PSs (jt (CXE P w) P w K mg base N qual (ao st) f cdv A outer s H E) (i0 st) t∧t { nx:=fun _ H'=>Q .non H',rt:=Q } (start N vs) H):Ok P w K mg base (CXE P w) (k+1) x ps sp:=by
 obtain ⟨f,fd,F,b,m⟩:=F
 obtain ⟨Y,R,kV,J,Z,W,cdv,U,O,rfl,I,G⟩:=F.ex
 exact ⟨f,_,fn_of I G S len fun A outer s H vs Q E hr q=>hbody f cdv A outer s H vs Q E hr q,b,F.kp,m⟩
end
section
variable {P:Program}{w:World}{K:PySem.W.Frag}{mg:Str→Option Value}{base:Heap}{N:List Str}{qual:Str}{scope:Scope}{f:Addr}{cd:Value}{A:Around}{outer:List Env}{s0:Shared}{H0:Hp}{E:XK}{k j:Nat}{x:Str}{p pos:Pos}{e:Expr}{es:List Expr}{t:TA}{ps:List Str}{sp:Sp}
theorem b9 (O:Ok P w K mg base (CXE P w) k x ps sp) (hr:Room j (jt (CXE P w) P w K mg base N qual scope f cd A outer s0 H0 E).A) (hg:Gl (jt (CXE P w) P w K mg base N qual scope f cd A outer s0 H0 E) x) (ha:PA (jt (CXE P w) P w K mg base N qual scope f cd A outer s0 H0 E) (e::es) t)
  (hle:k≤j:=by decide) (hdb:(x == ("__debug__":Str))=false:=by decide) (he:starEach (e::es) (jt (CXE P w) P w K mg base N qual scope f cd A outer s0 H0 E).env=(false,eval e (jt (CXE P w) P w K mg base N qual scope f cd A outer s0 H0 E).env)::starEach es (jt (CXE P w) P w K mg base N qual scope f cd A outer s0 H0 E).env:=by rfl)
  (hpl:(backTo pos (starEach es (jt (CXE P w) P w K mg base N qual scope f cd A outer s0 H0 E).env)).any (·.1)=false:=by rfl) :
  PE (jt (CXE P w) P w K mg base N qual scope f cd A outer s0 H0 E) (.Call (.Name x p) (e::es) [] pos) (tCall sp [] E t):=by
 obtain ⟨g,fd,F,b,q,m⟩:=O
 exact tI F (hr.mono hle) hg m q b .nil passE ha hdb he hpl
end
theorem uB {K:PySem.W.Frag}{a C:Addr}{c:Value} (e:PySem.W.kitOne K (.ref C) c=some true):Answers (fun s=>K.In s.heap∧∃ o,s.heap.get? a=some o∧o.cls=.ref C) (.ref a) c true:=by
 intro U tk prog w A R s ⟨⟨X,o,h1,h2⟩,F⟩
 obtain ⟨hp,g,d,tt,os⟩:=s
 have LT:PySem.W.Looks (model prog w) hp (typeOf (.ref a)) (.ref C):=h2▸(PySem.W.Looks.ld h1).andThen .now
 unfold PySem.W.kitOne at e
 unfold Builtin.«isinstance.nested»
 refine wpAny_bind (LT.at ?_)
 by_cases q:(Value.ref C == c)=true
 ·rw [if_pos q]
  first | exact wpAny_bind (wpAny_rule (F tt)) | exact wpAny_bind (wpAny_rule (wpAny_pure (F tt)))
 ·rw [if_neg q] at e ⊢
  obtain ⟨J,I,O⟩:=PySem.W.kit_cls (M:=model prog w) X e
  refine wpAny_bind (J.at ?_)
  rw [if_pos (by decide)]
  k_delta "plainIsInstance"
  have G:PySem.W.Looks (model prog w) hp (isInstance (.ref a) c) true:=LT.andThen O
  refine wpAny_bind (wpAny_bind (I.at ?_))
  simp only [Bool.not_true,Bool.false_eq_true,if_false]
  refine wpAny_bind (G.at ?_)
  first
   | exact wpAny_pure (wpAny_pure (F tt))
   | (simp only [if_true];first | exact wpAny_pure (wpAny_pure (F tt)) | exact wpAny_pure (F tt))
theorem om {X:Cx}:CallR X (.builtin "isinstance") (fun xs H Q=>∃ (a C:Addr) (vc:V) (v:Value),xs=[.ref a,vc]∧H a=some (ExAt a C)∧tyV? vc=some v∧PySem.W.kitOne X.K (.ref C) v=some true∧Q (.bl true) H):=by
 intro pins s σ H xs us Q I r h
 obtain ⟨a,C,vc,v,rfl,Y,hc,O,q⟩:=h
 obtain ⟨u1,Z,rfl,J,F⟩:=r.two
 cases J
 have U:Z=v:=by
  cases vc with
  | ty T=>cases hc;exact F
  | ref D=>cases hc;exact F
  | _=>cases hc
 subst U
 have G:∃ o,s.heap.get? a=some o∧o.cls=.ref C:=(I.hok a _ Y).1
 exact call_isinstance (S:=fun _ R s=>(X.K.In s.heap∧∃ o,s.heap.get? a=some o∧o.cls=.ref C)∧∀ tk,R (.ok (.ret (.bool true))) { s with toks:=tk })
  (fun prog w A R s hs=>isinstance_outer (uB O 0 _ prog w A R s hs) (by intro z;cases z)) ⟨⟨I.kIn,G⟩,fun tk=>⟨.bl true,H,I.tok tk,rfl,q⟩⟩
theorem mI {X:Cx} (K:PySem.W.Frag) (hK:X.K=K:=by rfl):CallR X (.builtin "isinstance") (fun xs H Q=>∃ (a C:Addr) (vc:V) (v:Value),xs=[.ref a,vc]∧H a=some (ExAt a C)∧tyV? vc=some v∧PySem.W.kitOne K (.ref C) v=some true∧Q (.bl true) H):=by
 subst hK
 exact om
end L2
namespace L2
open PySem PySem.Spec PyProof.Rows
def tJoin (t:TS):TS:=fun D σ H=>∃ J:St→Hp→Prop,t { D with nx:=J } σ H∧∀ σ' H',J σ' H'→D.nx σ' H'
theorem mf {X:Cx}{st:Stmt}{t:TS} (h:PS X st t):PS X st (tJoin t):=by
 intro pins s σ H D I ⟨J,h1,h2⟩
 refine thn (h pins s σ H _ I h1) fun f s1 q=>?_
 cases f with
 | next =>
  obtain ⟨σ',H',I',q⟩:=q
  exact ⟨σ',H',I',h2 _ _ q⟩
 | ret v=>exact q
 | brk=>exact q
 | cont=>exact q
theorem valsI {ns:List Int}:∀ {us:List Value},IntsAre us ns→Vals (ns.map V.int) us:=by
 induction ns with
 | nil=>intro us r;cases r;exact .nil
 | cons n ns ih=>intro us r;cases r;exact .cons ⟨_,rfl⟩ (ih (by assumption))
section
variable {X:Cx}
theorem oj:CallR X (.builtin "sorted") (fun xs H Q=>∃ (l:Addr) (ns:List Int),xs=[.ref l]∧SqL X.K H l (ns.map V.int)∧ns.length<64∧∀ (p:Addr) (ms:List Int),ms.Perm ns→ms.Pairwise (·≤·)→H p=none→Q (.ref p) (upd H p (.lst (ms.map V.int)))):=by
 intro pins s σ H xs us Q I r h
 obtain ⟨l,ns,rfl,hq,hl,q⟩:=h
 obtain ⟨u,rfl,U⟩:=r.one
 cases U
 obtain ⟨F,J,Z,hz⟩:=I.list hq
 have ll:F.length=ns.length:=by have:=J.length;rw [lH] at this;exact this.symm
 refine sorted_ints Z.isList (dM J) (by omega) fun G ms Y O R=>?_
 obtain ⟨e,W⟩:=sortedAll_at s.heap F G
 have lm:ms.length=ns.length:=O.length_eq
 refine ⟨.ref (s.heap.objs.size+1),_,I.laid (a:=s.heap.objs.size+1) (o:=.lst (ms.map V.int)) (t':=s.toks) (fun b u q=>sortedAll_old q) (Nat.le_succ _) ⟨by rw [lH];exact Nat.le_of_lt (au (by omega)),G.toList,e,valsI Y,?_⟩,rfl,q _ ms O R (I.hok.fresh (Nat.le_succ _))⟩
 exact W
end
end L2
namespace L2
open PySem
theorem aw {X:Cx}{st:Stmt}{rest:List Stmt}{t:TS}{D:Ends}{σ:St}{H:Hp} (h1:PS X st t) (h:∀ u:St→Hp→Prop,(∀ σ H,(∃ v,PSs X rest v∧v D σ H)→u σ H)→t { D with nx:=u } σ H):∃ v,PSs X (st::rest) v∧v D σ H :=
 ⟨tSeq t fun D σ H=>∃ v,PSs X rest v∧v D σ H,ah h1 fun pins s σ H D I ⟨_,hv,q⟩=>hv pins s σ H D I q,h _ fun _ _ x=>x⟩
end L2
namespace L2
open PySem PySem.Spec PyProof.Rows
open PySem.W (Dat kqdP kqdPs kqdOk)
mutual
inductive RepD (H:Hp):V→Dat→Prop
 | non:RepD H .non .none
 | int (i:Int):RepD H (.int i) (.int i)
 | str (x:Str):RepD H (.str x) (.str x)
 | bl (b:Bool):RepD H (.bl b) (.bool b)
 | lst {a:Addr}{xs:List V}{ds:List Dat} (e:H a=some (.lst xs)) (r:RepDs H xs ds):RepD H (.ref a) (.list ds)
 | tup {a:Addr}{xs:List V}{ds:List Dat} (e:H a=some (.tup xs)) (r:RepDs H xs ds):RepD H (.ref a) (.tuple ds)
inductive RepDs (H:Hp):List V→List Dat→Prop
 | nil:RepDs H [] []
 | cons {x:V}{d:Dat}{xs:List V}{ds:List Dat} (h:RepD H x d) (t:RepDs H xs ds):RepDs H (x::xs) (d::ds)
end
mutual
theorem RepD.same {H H':Hp} (s:Same H H'):∀ {x:V}{d:Dat},RepD H x d→RepD H' x d
 | _,_,.non=>.non
 | _,_,.int i=>.int i
 | _,_,.str x=>.str x
 | _,_,.bl b=>.bl b
 | _,_,.lst e r=>.lst (s _ _ e) (RepDs.same s r)
 | _,_,.tup e r=>.tup (s _ _ e) (RepDs.same s r)
theorem RepDs.same {H H':Hp} (s:Same H H'):∀ {xs:List V}{ds:List Dat},RepDs H xs ds→RepDs H' xs ds
 | _,_,.nil=>.nil
 | _,_,.cons h t=>.cons (RepD.same s h) (RepDs.same s t)
end
theorem RepDs.ints {H:Hp}:∀ (ns:List Int),RepDs H (ns.map V.int) (ns.map Dat.int)
 | []=>.nil
 | n::ns=>.cons (.int n) (RepDs.ints ns)
section
variable {X:Cx}{pins:List (Addr×Obj)}{σ:St}{H:Hp}{s:Shared}
mutual
theorem RepD.reads (I:Inv X pins σ H s):∀ {x:V}{d:Dat}{u:Value} (n:Nat),RepD H x d→RelV x u→kqdOk n d=true→∃ as,Reads s.heap u (kqdP d) as
 | _,_,_,_,.non,r,_=>⟨_,by cases (show _=Value.none from r);exact Reads.none⟩
 | _,_,_,_,.int i,r,_=>by obtain ⟨t,rfl⟩:=r;exact ⟨_,Reads.int i t⟩
 | _,_,_,_,.str x,r,_=>by obtain ⟨t,rfl⟩:=r;exact ⟨_,Reads.str x t⟩
 | _,_,_,n,.bl b,_,hk=>by cases n<;>simp [kqdOk] at hk
 | _,_,_,0,.lst _ _,_,hk=>by simp [kqdOk] at hk
 | _,_,_,0,.tup _ _,_,hk=>by simp [kqdOk] at hk
 | _,_,_,n+1,.lst (a:=a) (xs:=xs) e q,r,hk=>by
  cases (show _=Value.ref a from r)
  obtain ⟨_,J,m,G,F⟩:=(show ObjOk X.prog X.w H s.heap a (.lst xs) from I.hok a _ e)
  obtain ⟨as,p⟩:=RepDs.reads I n q G (by simpa [kqdOk] using hk)
  rw [kqdP]
  exact ⟨_,Reads.list F rfl rfl (by simpa using p)⟩
 | _,_,_,n+1,.tup (a:=a) (xs:=xs) e q,r,hk=>by
  cases (show _=Value.ref a from r)
  obtain ⟨_,J,G,o,F,hc,m,O⟩:=(show ObjOk X.prog X.w H s.heap a (.tup xs) from I.hok a _ e)
  obtain ⟨as,p⟩:=RepDs.reads I n q G (by simpa [kqdOk] using hk)
  rw [kqdP]
  exact ⟨_,Reads.tuple F hc O (by simpa using p)⟩
theorem RepDs.reads (I:Inv X pins σ H s):∀ {xs:List V}{ds:List Dat}{us:List Value} (n:Nat),RepDs H xs ds→Vals xs us→(∀ d∈ds,kqdOk n d=true)→∃ as,ReadsAll s.heap us (kqdPs ds) as
 | _,_,_,_,.nil,.nil,_=>⟨_,ReadsAll.nil⟩
 | _,_,_,n,.cons h t,.cons r rs,hk=>by
  obtain ⟨as,q⟩:=RepD.reads I n h r (hk _ (.head _))
  obtain ⟨bs,p⟩:=RepDs.reads I n t rs fun d F=>hk d (.tail _ F)
  rw [kqdPs]
  exact ⟨_,ReadsAll.cons q p⟩
end
theorem ie {d:Dat}{n:Nat} (h:kqdOk n d=true) (hn:n≤9):SeqAt.shaped (kqdP d)=true:=by
 have l:=PySem.W.kqd_lay n d h
 unfold SeqAt.shaped
 rw [l.1,Bool.true_and]
 exact decide_eq_true (vG l.2 (vG hn (by decide)))
theorem op_eqD (hu:X.A.units+64<cLine):OpR X (compareOp .Eq) (fun x y H Q=>∃ d e b,RepD H x d∧RepD H y e∧kqdOk 8 d=true∧kqdOk 8 e=true∧(b=true↔d=e)∧Q (.bl b) H):=by
 intro pins s σ H x y v u Q I R O h
 obtain ⟨d,e,b,U,Z,G,F,hb,q⟩:=h
 obtain ⟨as,Y⟩:=U.reads I 8 R G
 obtain ⟨bs,rb⟩:=Z.reads I 8 O F
 have J:PyData.eqv (kqdP d) (kqdP e)=b:=wI.mpr ((PySem.W.kqd_eqv 8 d e 8 G F).trans hb.symm)
 exact eq_dataH Y rb (ie G (by decide)) (ie F (by decide)) hu (by rw [J];exact ⟨.bl b,H,I,rfl,q⟩)
theorem tL (hu:X.A.units+64<cLine):OpR X (compareOp .NotEq) (fun x y H Q=>∃ d e b,RepD H x d∧RepD H y e∧kqdOk 8 d=true∧kqdOk 8 e=true∧(b=true↔d=e)∧Q (.bl !b) H):=by
 intro pins s σ H x y v u Q I R O h
 obtain ⟨d,e,b,U,Z,G,F,hb,q⟩:=h
 obtain ⟨as,Y⟩:=U.reads I 8 R G
 obtain ⟨bs,rb⟩:=Z.reads I 8 O F
 have J:PyData.eqv (kqdP d) (kqdP e)=b:=wI.mpr ((PySem.W.kqd_eqv 8 d e 8 G F).trans hb.symm)
 exact ne_dataH Y rb (ie G (by decide)) (ie F (by decide)) hu (by rw [J];exact ⟨.bl !b,H,I,rfl,q⟩)
end
end L2
namespace L2
open PySem PySem.Spec PyProof.Rows
theorem rU (l:Addr) (items:Array Value) (n:Nat) (k:Int) (tk:Tok) (hk : -(2 ^ 63)≤k∧k<2 ^ 63) (dct:Option Addr) (sl:Array (Option Value)) :
  Meets (Builtin.«enumerate.__new__» ⟨[.type "enumerate",.ref l],[("start",.int k tk)]⟩) (fun _ R s=>s.heap.get? l=some { cls:=.type "list",dict:=dct,data:=.seq items n,slots:=sl } ∧
   R (.ok (.ret (.ref (s.heap.push { cls:=.type "list_iterator",data:=.fields #[.ref l,.int 0 0] }).objs.size)))
    { s with heap:=(s.heap.push { cls:=.type "list_iterator",data:=.fields #[.ref l,.int 0 0] }).push { cls:=.type "enumerate",data:=.fields #[.none,.bool false,.ref s.heap.objs.size,rawInt k,.none,.none] } }) :=
 .of_wp fun prog w A R s h=>by
  obtain ⟨hp,g,d,F,os⟩:=s
  obtain ⟨hl,h⟩:=h
  have G:=sub_enumerate
  have q:Heap.IsList (Shared.heap ⟨hp,g,d,F,os⟩) l items:=⟨_,hl,rfl,n,rfl⟩
  have I:¬ ((!Builtin.SmallTypes.fitsIndex k)=true):=by
   unfold Builtin.SmallTypes.fitsIndex
   simp
   omega
  wp_walk using AutoSeq1.wpAny_loadPart' hl
  refine wpAny_stack_any fun st=>wpAny_pure ?_
  split
  ·rename_i c _ _ _ _ _
   cases (c == Value.type "enumerate")
   ·wp_walk using AutoSeq1.wpAny_loadPart' hl,wpAny_pyIter_list q
    exact ⟨_,rfl,h⟩
   ·wp_walk using AutoSeq1.wpAny_loadPart' hl,wpAny_pyIter_list q
    exact ⟨_,rfl,h⟩
  ·wp_walk using AutoSeq1.wpAny_loadPart' hl,wpAny_pyIter_list q
   exact ⟨_,rfl,h⟩
theorem pB (a v:Value):checkTypeCall "enumerate" ⟨[a],[("start",v)]⟩=pure ():=by kernel_rfl
theorem pC (a v:Value):checkBuiltinCall "enumerate.__new__" ⟨[.type "enumerate",a],[("start",v)]⟩=pure ():=by kernel_rfl
theorem pD (a b v:Value):argsOk "object.__init__" ⟨[a,b],[("start",v)]⟩:=by
 unfold argsOk
 rw [signature?_of (n:=['_','_','t','i','n','i','_','_']) (o:=['t','c','e','j','b','o']) (id:="object.__init__") (by kernel_rfl) F.owner_object]
 kernel_rfl
theorem tX (self a:Value) (kw:List (Str×Value)) (hl:typeLookup (.type "enumerate") "__init__"=pure (some (.builtin "object.__init__"))) (hm:Bind.madeBy (.type "enumerate")=pure (some "enumerate.__new__")) :
  Meets (Builtin.«object.__init__» ⟨[self,a],kw⟩) (fun _ R s=>s.TypeIs self "enumerate"∧R (.ok (.ret .none)) s):=by
 refine Meets.of_wp fun prog w A R s hs=>?_
 obtain ⟨G,q⟩:=hs
 have F:(some "enumerate.__new__" != some "object.__new__")=true:=by decide
 repeat (any_goals (first | assumption | wp_step))
 exact ⟨_,rfl,q⟩
section
variable {prog:Program}{w:World}{A:Around}{E:Value→Shared→Prop}{s:Shared}
theorem pH {l:Addr}{items:Array Value}{k:Int}{tk:Tok}{Q:Value→Shared→Prop} (hk : -(2 ^ 63)≤k∧k<2 ^ 63) (hL:s.heap.IsList l items)
  (h:∀ h',IsEnum h' (s.heap.objs.size+1) s.heap.objs.size k .none→h'.IsListIter s.heap.objs.size l 0→(∀ b o,s.heap.get? b=some o→h'.get? b=some o)→Q (.ref (s.heap.objs.size+1)) { s with heap:=h' }) :
  wpAny (model prog w) A (call (.type "enumerate") [.ref l] [("start",.int k tk)]) Q E s:=by
 obtain ⟨⟨c,W,dt,sl⟩,hl,hc,n,O⟩:=hL
 replace hc:c=.type "list":=hc
 replace O:dt=.seq items n:=O
 subst hc O
 have q:=F.called_enumerate
 obtain ⟨c0,tl,an⟩:=q.mro
 have I:=q.made
 have af:=q.sub
 have a1:=pB (.ref l) (.int k tk)
 refine wpAny_call (codeAny_of_tree ?_)
 show wpAny _ _ (callAny (.type "enumerate") _) _ _ _
 refine wpAny_pure ⟨Code.quiet_builtin _ (by decide +kernel),codeAny_builtin F.entry_type_call ?_⟩
 rw [Around.under_plain (weight_type_call_type "enumerate" [.ref l] [("start",.int k tk)]) (units_type_call_type "enumerate" [.ref l] [("start",.int k tk)])]
 have h1:=q.notType
 have h2:=q.canCreate
 repeat (any_goals (first | assumption | wp_step))
 refine codeAny_mono (codeAny_call_builtin q.plain F.entry_enumerate_new (wpAny_of_eq (pC (.ref l) (.int k tk)) (rU l items n k tk hk W sl prog w A.in1 (wants (fun obj J=>J.TypeIs obj "enumerate"∧Q obj J) E) s ⟨hl,?_⟩))) fun r J hr=>?_
 ·have hz:(s.heap.push { cls:=.type "list_iterator",data:=.fields #[.ref l,.int 0 0] }).objs.size=s.heap.objs.size+1:=Heap.size_push ..
  show _∧_
  rw [hz]
  have Z:IsEnum ((s.heap.push { cls:=.type "list_iterator",data:=.fields #[.ref l,.int 0 0] }).push { cls:=.type "enumerate",data:=.fields #[.none,.bool false,.ref s.heap.objs.size,rawInt k,.none,.none] }) (s.heap.objs.size+1) s.heap.objs.size k .none:=by
   have z:=Heap.get?_push_size (s.heap.push { cls:=.type "list_iterator",data:=.fields #[.ref l,.int 0 0] }) (o:={ cls:=.type "enumerate",data:=.fields #[.none,.bool false,.ref s.heap.objs.size,rawInt k,.none,.none] }) rfl
   rw [hz] at z
   exact z
  exact ⟨⟨_,Z,rfl⟩,h _ Z ⟨_,Heap.get?_push_of_some _ (Heap.get?_push_size _ rfl),rfl,rfl⟩ fun b o x=>Heap.get?_push_of_some _ (Heap.get?_push_of_some _ x)⟩
 ·cases r with
  | error e=>exact hr
  | ok fl =>
   cases fl with
   | ret obj =>
    obtain ⟨Y,hQ⟩:=hr
    have U:=q.init.lookup
    have as:=q.init.bind obj
    repeat (any_goals (first | assumption | wp_step))
    refine codeAny_mono (codeAny_call_builtin q.init.plain F.entry_object_init (q.init.check _ _ _ _ _ _ _ _ Y (pD obj (.ref l) (.int k tk)) (tX obj (.ref l) [("start",.int k tk)] U I prog w A.in1 (wants (fun r R=>r=.none∧Q obj R) E) J ⟨Y,rfl,hQ⟩))) fun r2 R G=>?_
    cases r2 with
    | error e=>exact G
    | ok fl2 =>
     cases fl2 with
     | ret r3 =>
      obtain ⟨e3,a2⟩:=G
      subst e3
      repeat (any_goals (first | assumption | wp_step))
     | _=>exact G.elim
   | _=>exact hr.elim
end
def iEnumK (K:PySem.W.Frag) (ta:TA) (tk:TE):TI:=fun σ H R=>ta σ H fun vs H1=>tk σ H1 fun v H2=>∃ a xs,∃ k:Nat,vs=[.ref a]∧v=.int (k:Int)∧k<1000∧SqL K H2 a xs∧R (Ite K a k) H2
section
variable {X:Cx}
theorem p8 {elts:List Expr}{k1:Nat}{tp:Pos}{a e:Expr}{ta:TA}{te:TE}{p pos kp:Pos} (hg:Gl X "enumerate") (hm:X.mg "enumerate"=none) (ha:PA X [a] ta) (he:PE X e te) (hs:starEach [a] X.env=[(false,eval a X.env)]:=by rfl) :
  PI X (.Tuple elts k1 tp) (.Call (.Name "enumerate" p) [a] [⟨some "start",e,kp⟩] pos) (iEnumK X.K ta te):=by
 intro pins s σ H R I h
 have J:=ha pos pins s σ H _ I h
 rw [hs] at J
 refine wpAny_Call_Name_kw (eX I hg hm boot_enumerate ?_)
 rw [hs]
 unfold callWith
 refine wpAny_bind (wpAny_holding (evalArgs_kwB rfl (thn J fun us s1 O=>?_)))
 obtain ⟨vs,H1,Z,r1,Y⟩:=O
 refine kws_cons (thn (he pins s1 σ H1 _ Z Y) fun u F W=>kws_nil ?_)
 obtain ⟨v,H2,G,r2,l,xs,k,e1,e2,hk,hq,q⟩:=W
 subst e1 e2
 obtain ⟨u1,rfl,ru⟩:=r1.one
 cases ru
 obtain ⟨tk,rfl⟩:=r2
 obtain ⟨a6,rv,pl,hz⟩:=G.list hq
 refine wpAny_bind (wpAny_standAt ?_)
 refine wpAny_bind (wpAny_pure ?_)
 refine wpAny_bind (pH (k:=(k:Int)) ⟨by omega,by omega⟩ pl.isList fun h' U a2 a4=>?_)
 refine wpAny_bind (wpAny_holding (wpAny_point (wpAny_pure ?_)))
 refine wpAny_pyIter_enum (s:={ F with heap:=h' }) U ?_
 refine ⟨_,[F.heap.objs.size+1,F.heap.objs.size],_,_,H2,rfl,G.kept (t':=F.toks) fun c o z=>a4 c o z,mS l _ _ k (by simp),⟨⟨_,U⟩,a2⟩,?_,q⟩
 refine rQ G (fun c hc=>G.hok.fresh hc) fun c hc=>?_
 simp only [u8,ve,or_false] at hc
 rcases hc with z | z<;>rw [z]
 ·exact Nat.le_add_right _ _
 ·exact va _
end
end L2
namespace L2
open PySem PySem.Spec PyProof.Rows
section
variable {P:Program}{w:World}{K:PySem.W.Frag}{mg:Str→Option Value}{base:Heap}
end
section
variable {X:Cx}{j k:Nat}{x:Str}{p pos:Pos}{e:Expr}{es:List Expr}{t:TA}{ps:List Str}{sp:Sp}
variable {pins:List (Addr×Obj)}{E':Value→Shared→Prop}{Ek:XK}{σ0:St}{C:Addr}
end
end L2
namespace L2
open PySem PySem.Spec PyProof.Rows
end L2
namespace Veil
open PySem L2
def primes9:List Int:=[5,7,11,13,17,19,23,29,31]
def cg (ns:List Int) (k:Int):Int:=ns.getD k.toNat 0
def eW (c k m:Int):Int:=(c%2147483647+12345)*(48271+6*k)%1000000007 / 7%m
theorem bR {c k m:Int} (h:0<m):0≤eW c k m:=vC _ (by omega)
theorem fJ {c k m:Int} (h:0<m):eW c k m<m:=vw _ h
def tbP (c:Int):Int:=primes9.getD (c%9).toNat 0
def tbN (c:Int):Int:=3+c / 9%((if tbP c - 1<7 then tbP c - 1 else 7) - 2)
def tbF (c:Int):Int:=if 4<tbN c then (if c / 45%2=1 then 2 else 1) else 1
theorem sN (c:Int):tbP c∈primes9:=by
 have h0:=vC c (show (9:Int)≠0 by decide)
 have h1:=vw c (show (0:Int)<9 by decide)
 unfold tbP
 have h:(c%9).toNat<9:=by omega
 generalize (c%9).toNat=k at h
 match k,h with
 | 0,_ | 1,_ | 2,_ | 3,_ | 4,_ | 5,_ | 6,_ | 7,_ | 8,_=>decide
theorem fX (c:Int):tbP c=5∨tbP c=7∨tbP c=11∨tbP c=13∨tbP c=17∨tbP c=19∨tbP c=23∨tbP c=29∨tbP c=31:=by
 have h:=sN c
 simpa [primes9] using h
theorem Bw (c:Int):5≤tbP c:=by have:=fX c;omega
theorem Bx (c:Int):tbP c≤31:=by have:=fX c;omega
theorem AN (c:Int):3≤tbN c∧tbN c≤7∧tbN c<tbP c:=by
 have h:=fX c
 unfold tbN
 generalize hm:(if tbP c - 1<7 then tbP c - 1 else 7) - 2=m
 have hb:0<m∧m≤5∧m≤tbP c - 3:=by
  rw [← hm]
  split<;>omega
 have h0:=vC (c / 9) (show m≠0 by omega)
 have h1:=vw (c / 9) hb.1
 omega
theorem By (c:Int):(tbF c=1∨tbF c=2)∧2*tbF c<tbN c:=by
 have h:=AN c
 unfold tbF
 split
 ·split<;>omega
 ·omega
def isTB (p n f:Int):Bool :=
 if (!inV (.int p) (primes9.map V.int))=true then false else if (!inV (.int f) [.int 1,.int 2])=true then false else (decide (3≤n) && decide (n≤7)) && (decide (n<p) && decide (2*f<n))
theorem isTB_tb (c:Int):isTB (tbP c) (tbN c) (tbF c)=true:=by
 have h1:=AN c
 obtain ⟨h2,h3⟩:=By c
 have q:inV (.int (tbP c)) (primes9.map V.int)=true:=by
  rcases fX c with h | h | h | h | h | h | h | h | h<;>rw [h]<;>decide
 have F:inV (.int (tbF c)) [.int 1,.int 2]=true:=by
  rcases h2 with h | h<;>rw [h]<;>decide
 unfold isTB
 rw [q,F]
 simp only [Bool.not_true,Bool.false_eq_true,if_false,vx,decide_eq_true_eq]
 omega
def aL:List Int→Int→Int
 | [],_=>0
 | r::rs,a=>r+a*aL rs a
def bH (p:Int):List Int→Int→Int
 | [],_=>0
 | r::rs,a=>(bH p rs a*a+r)%p
theorem bJ {p:Int}:∀ (ns:List Int) (a:Int),bH p ns a=aL ns a%p
 | [],_=>by simp [bH,aL]
 | r::rs,a=>by
  rw [bH,bJ rs a,aL,wu,vL,vJ _ (wp p),← vL,← wu,wO,Int.add_comm]
theorem lh {p:Int} (hp:0<p) (ns:List Int) (a:Int):0≤bH p ns a∧bH p ns a<p:=by
 rw [bJ]
 exact ⟨vC _ (by omega),vw _ hp⟩
end Veil
namespace Veil
open PySem L2
structure Blt (mg:Str→Option Value):Prop where
 len:mg "len"=none
 range:mg "range"=none
 isinstance:mg "isinstance"=none
 min:mg "min"=none
 list:mg "list"=none
 int:mg "int"=none
 bool:mg "bool"=none
 tuple:mg "tuple"=none
 reversed:mg "reversed"=none
 zip:mg "zip"=none
 set:mg "set"=none
 all:mg "all"=none
 sum:mg "sum"=none
 sorted:mg "sorted"=none
 enumerate:mg "enumerate"=none
structure Tab (K:PySem.W.Frag) (C:Addr):Prop where
 cl:Cls K C
 nP:NoAttr K C "prime"
 nH:NoAttr K C "hands"
 nF:NoAttr K C "few"
structure Pri (K:PySem.W.Frag) (mg:Str→Option Value) (pa:Addr):Prop where
 gPRIMES:mg "PRIMES"=some (.ref pa)
 sq:∀ H,SqT K H pa (primes9.map V.int)
theorem pri_mk {K:PySem.W.Frag}{mg:Str→Option Value}{pa:Addr}{dd:Option Addr}{its:Array Value}{n:Nat}{sl:Array (Option Value)} (g:mg "PRIMES"=some (.ref pa)) (l:K.lookup pa=some ⟨.type "tuple",dd,.seq its n,sl⟩)
  (v:Vals (primes9.map V.int) its.toList):Pri K mg pa:=⟨g,fun H=>.inr ⟨_,its,n,l,rfl,rfl,by have:=v.length;simp only [wg] at this;rw [← this];decide,v⟩⟩
theorem nq1:¬ (("prime":Str)="few"):=by decide +kernel
theorem nq2:¬ (("prime":Str)="hands"):=by decide +kernel
theorem nq3:¬ (("hands":Str)="few"):=by decide +kernel
def tf (p n f:Int):List (Str×V):=dP "few" (.int f) (dP "hands" (.int n) (dP "prime" (.int p) []))
theorem i7 (p n f:Int):(tf p n f).lookup ("prime":Str)=some (.int p):=by
 unfold tf
 rw [b6,if_neg nq1,b6,if_neg nq2,b6,if_pos rfl]
theorem oy (p n f:Int):(tf p n f).lookup ("hands":Str)=some (.int n):=by
 unfold tf
 rw [b6,if_neg nq3,b6,if_pos rfl]
theorem tf_f (p n f:Int):(tf p n f).lookup ("few":Str)=some (.int f):=by
 unfold tf
 rw [b6,if_pos rfl]
def TabAt (C:Addr) (H:Hp) (t:Addr) (p n f:Int):Prop:=∃ dx,H t=some (.ins C dx (tf p n f))
theorem TabAt.same {C:Addr}{H H':Hp}{t:Addr}{p n f:Int} (h:TabAt C H t p n f) (s:Same H H'):TabAt C H' t p n f:=let ⟨dx,e⟩:=h;⟨dx,s _ _ e⟩
theorem aj {H:Hp}{p:Addr} (h:H p=none) (o:HO):Same H (upd H p o):=fun b u q=>by rw [az (aq q h)];exact q
theorem am {H H':Hp} (s:Same H H') {D:Addr}{o:HO} (h:H D=none):Same H (upd H' D o):=fun b u e=>by rw [az (aq e h)];exact s b u e
theorem small {n:Nat} (h:n≤1000):n≤sizeLine:=Nat.le_of_lt (au h)
def cB (H:Hp) (Q:VK) (v:V):Prop:=∀ H',Same H H'→Q v H'
def ox (H:Hp) (Q:VK) (xs:List V):Prop:=∀ r H',Same H H'→H r=none→H' r=some (.lst xs)→Q (.ref r) H'
inductive spIsT (vs:List V) (H:Hp) (Q:VK) (E_:XK):Prop
 | mk (p n f:Int) (h0_:vs=[.int p,.int n,.int f]) (h1_:cB H Q (.bl (isTB p n f))):spIsT vs H Q E_
inductive mZ (C:Addr) (vs:List V) (H:Hp) (Q:VK) (E_:XK):Prop
 | mk (t dx:Addr) (p n f:Int) (h0_:vs=[.ref t,.int p,.int n,.int f]) (h1_:H t=some (.ins C dx [])) (h2_:isTB p n f=true) (h3_:∀ H',(∀ b o,H b=some o→b≠t→H' b=some o)→TabAt C H' t p n f→Q .non H'):mZ C vs H Q E_
inductive jI (K:PySem.W.Frag) (C:Addr) (vs:List V) (H:Hp) (Q:VK) (E_:XK):Prop
 | mk (t r:Addr) (p n f a:Int) (ns:List Int) (h0_:vs=[.ref t,.ref r,.int a]) (h1_:TabAt C H t p n f) (h2_:0<p) (h3_:p≤31) (h4_:SqL K H r (ns.map V.int)) (h5_:cB H Q (.int (bH p ns a))):jI K C vs H Q E_
inductive m4 (K:PySem.W.Frag) (vs:List V) (H:Hp) (Q:VK) (E_:XK):Prop
 | mk (a:Addr) (ns:List Int) (k:Int) (h0_:vs=[.ref a,.int k]) (h1_:SqL K H a (ns.map V.int)) (h2_:0≤k) (h3_:cB H Q (.int (cg ns k))):m4 K vs H Q E_
inductive sS (vs:List V) (H:Hp) (Q:VK) (E_:XK):Prop
 | mk (c k m:Int) (h0_:vs=[.int c,.int k,.int m]) (h1_:0<m) (h2_:cB H Q (.int (eW c k m))):sS vs H Q E_
def pL:Sp:=fun vs H Q _=>∃ i:Int,vs=[.int i]∧cB H Q (.bl true)
def mX (C:Addr):Sp:=fun vs H Q _=>∃ c:Int,vs=[.int c]∧∀ t H',Same H H'→H t=none→TabAt C H' t (tbP c) (tbN c) (tbF c)→Q (.ref t) H'
def spLaw (K:PySem.W.Frag):Sp:=fun vs H Q _=>∃ (a:Addr) (ns:List Int),vs=[.ref a]∧SqL K H a (ns.map V.int)∧ns.length≤63∧∀ H',Q (.bl true) H'
theorem map_take {α:Type} (f:Nat→α) (n:Nat):((List.range n).map f)++[f n]=(List.range (n+1)).map f:=by rw [wU,u6];rfl
theorem iZ {α:Type}{l:List α}{k:Nat}{x:α} (h:l[k]?=some x):l.drop k=x::l.drop (k+1):=by
 obtain ⟨h1,h2⟩:=u3.mp h
 rw [List.drop_eq_getElem_cons h1,h2]
theorem br {ns:List Int}{i:Nat}{x:V} (h:(ns.map V.int)[i]?=some x):∃ v,x=.int v∧ns[i]?=some v:=by
 rw [u5] at h
 cases e:ns[i]? with
 | none=>rw [e] at h;cases h
 | some v=>rw [e] at h;exact ⟨v,(vz h).symm,rfl⟩
def cD (p:Int) (n:Nat) (x:Int) (cs:List Int):List Int:=(List.range n).map fun i:Nat=>bH p (x::cs) (1+(i:Int))
theorem kZ (p:Int) (n:Nat) (x:Int) (cs:List Int):(cD p n x cs).length=n:=by unfold cD;rw [lH,vo]
theorem pF (p:Int) (n:Nat) (x:Int) (cs:List Int):(cD p n x cs).map V.int++[.int (bH p (x::cs) (1+(n:Int)))]=(cD p (n+1) x cs).map V.int:=by
 unfold cD
 rw [← map_take,u6]
 rfl
inductive oN (C:Addr) (vs:List V) (H:Hp) (Q:VK) (E_:XK):Prop
 | mk (t r:Addr) (p n f x:Int) (cs:List Int) (h0_:vs=[.ref t,.int x,.ref r]) (h1_:TabAt C H t p n f) (h2_:0<p) (h3_:p≤31) (h4_:0≤n) (h5_:n≤10) (h6_:H r=some (.lst (cs.map V.int))) (h7_:cs.length≤100) (h8_:ox H Q ((cD p n.toNat x cs).map V.int)):oN C vs H Q E_
end Veil
namespace Veil
open PySem L2
theorem tF:∀ p∈primes9,∀ a b:Nat,a<p.toNat→b<p.toNat→(a*b:Int)%p=0→a=0∨b=0:=by
 have h:(primes9.all fun p=>(List.range p.toNat).all fun a=>(List.range p.toNat).all fun b=>!(((a:Int)*(b:Int))%p == 0) || (a == 0 || b == 0))=true:=by decide +kernel
 intro p hp a b q hb e
 have h1:=vv.mp (vv.mp (vv.mp h p hp) a (vH.mpr q)) b (vH.mpr hb)
 rw [show (((a:Int)*(b:Int))%p == 0)=true from beq_iff_eq.mpr e,Bool.not_true,Bool.false_or,Bool.or_eq_true] at h1
 rcases h1 with h1 | h1
 ·exact .inl (beq_iff_eq.mp h1)
 ·exact .inr (beq_iff_eq.mp h1)
def bT (p x:Int):Int:=(((List.range (p - 1).toNat).map fun i:Nat=>1+(i:Int)).find? fun o=>decide (x*o%p=1)).getD 0
theorem uR:∀ p∈primes9,∀ a:Nat,a<p.toNat→a≠0→(1≤bT p a∧bT p a<p)∧(a:Int)*bT p a%p=1:=by
 have h:(primes9.all fun p=>(List.range p.toNat).all fun a=>(a == 0) || (decide (1≤bT p (a:Int)) && decide (bT p (a:Int)<p) && decide ((a:Int)*bT p (a:Int)%p=1)))=true:=by decide +kernel
 intro p hp a q F
 have h1:=vv.mp (vv.mp h p hp) a (vH.mpr q)
 rw [show (a == 0)=false from beq_eq_false_iff_ne.mpr F,Bool.false_or] at h1
 simp only [vx,decide_eq_true_eq] at h1
 exact ⟨⟨h1.1.1,h1.1.2⟩,h1.2⟩
theorem uS (p x:Int):bT p (x%p)=bT p x:=by
 unfold bT
 congr 2
 funext o
 rw [vL,vJ _ (wp p),← vL]
theorem gB {p x:Int} (hp:p∈primes9) (hx:x%p≠0):(1≤bT p x∧bT p x<p)∧x*bT p x%p=1:=by
 have G:0<p:=by
  have:(primes9.all fun q=>decide (0<q))=true:=by decide +kernel
  exact of_decide_eq_true (vv.mp this p hp)
 have I:=vC x (show p≠0 by omega)
 have h1:=vw x G
 have e:((x%p).toNat:Int)=x%p:=by omega
 have q:=uR p hp (x%p).toNat (by omega) (by omega)
 rw [e,uS] at q
 have F:x%p*bT p x%p=x*bT p x%p:=by rw [vL,vJ _ (wp p),← vL]
 rw [F] at q
 exact q
theorem dom {p a b:Int} (hp:p∈primes9) (h:a*b%p=0):a%p=0∨b%p=0:=by
 have F:0<p:=by
  have:(primes9.all fun q=>decide (0<q))=true:=by decide +kernel
  exact of_decide_eq_true (vv.mp this p hp)
 have a0:=vC a (show p≠0 by omega)
 have J:=vw a F
 have I:=vC b (show p≠0 by omega)
 have G:=vw b F
 have q:=tF p hp (a%p).toNat (b%p).toNat (by omega) (by omega) (by
  rw [show ((a%p).toNat:Int)=a%p by omega,show ((b%p).toNat:Int)=b%p by omega,← vL]
  exact h)
 omega
def kr (p t:Int) (as bs:List Int):List Int:=List.zipWith (fun a b=>(a+t*b)%p) as bs
def eK (p x:Int) (s:List Int):List Int:=List.zipWith (fun b h=>(b - x*h)%p) (0::s) (s++[0])
def mU (p:Int) (rs:List Int×List Int) (q:Int×Int):List Int×List Int :=
 (kr p ((q.2 - bH p rs.1 q.1)*bT p (bH p rs.2 q.1)) (rs.1++[0]) rs.2,eK p q.1 rs.2)
def dz (p:Int) (pts:List (Int×Int)):List Int×List Int:=pts.foldl (mU p) ([],[1])
def lA (p:Int) (pts:List (Int×Int)):List Int:=(dz p pts).1
theorem fC:∀ (s:List Int) (z:Int),aL (s++[0]) z=aL s z
 | [],z=>by simp [aL]
 | r::rs,z=>by simp only [List.cons_append,aL];rw [fC rs z]
theorem eT {p t:Int}:∀ (as bs:List Int) (z:Int),as.length=bs.length→aL (kr p t as bs) z%p=(aL as z+t*aL bs z)%p
 | [],[],z,_=>by simp [kr,aL]
 | a::as,b::bs,z,h=>by
  have q:=eT (p:=p) (t:=t) as bs z (by simpa using h)
  show ((a+t*b)%p+z*aL (kr p t as bs) z)%p=_
  rw [wu,vL,q,← vL,vJ _ (wp p),← wu]
  congr 1
  simp only [aL]
  rw [wS,wS,← wH z t,wO z t,wH t z]
  omega
 | [],_::_,_,h=>by simp at h
 | _::_,[],_,h=>by simp at h
theorem hG (p x:Int) (s:List Int):eK p x s=kr p (-x) (0::s) (s++[0]):=by
 unfold eK kr
 congr 1
 funext b h
 rw [Int.neg_mul,Int.sub_eq_add_neg]
theorem jd {p x:Int} (s:List Int) (z:Int):aL (eK p x s) z%p=(z - x)*aL s z%p:=by
 rw [hG,eT _ _ _ (by simp),fC]
 congr 1
 simp only [aL]
 rw [wP,Int.neg_mul,Int.sub_mul]
 omega
theorem qF {p t:Int} (hp:0<p):∀ (as bs:List Int),∀ v∈kr p t as bs,0≤v∧v<p
 | [],_,v,h=>by simp [kr] at h
 | _::_,[],v,h=>by simp [kr] at h
 | a::as,b::bs,v,h=>by
  rcases u8.mp (show v∈(a+t*b)%p::kr p t as bs from h) with e | e
  ·rw [e]
   exact ⟨vC _ (by omega),vw _ hp⟩
  ·exact qF hp as bs v e
theorem gC {p t:Int} (as bs:List Int):(kr p t as bs).length=min as.length bs.length:=by unfold kr;rw [vY]
theorem iT (p x:Int) (s:List Int):(eK p x s).length=s.length+1:=by rw [hG,gC];simp
structure r9 (p:Int) (pts:List (Int×Int)) (rs:List Int×List Int):Prop where
 l1:rs.1.length=pts.length
 l2:rs.2.length=pts.length+1
 b1:∀ v∈rs.1,0≤v∧v<p
 b2:∀ v∈rs.2,0≤v∧v<p
 row:∀ q∈pts,aL rs.1 q.1%p=q.2%p
 zer:∀ q∈pts,aL rs.2 q.1%p=0
 non:∀ z:Int,(∀ q∈pts,z%p≠q.1%p)→aL rs.2 z%p≠0
theorem sL {p:Int} (hp:1<p):r9 p [] ([],[1]) where
 l1:=rfl
 l2:=rfl
 b1:=fun v h=>nomatch h
 b2:=fun v h=>by
  have e:v=1:=by simpa using h
  omega
 row:=fun q h=>nomatch h
 zer:=fun q h=>nomatch h
 non:=fun z _=>by
  simp only [aL,wE,wA]
  rw [vO (by decide) hp]
  decide
theorem jc {p:Int} (hp:p∈primes9):5≤p∧p≤31:=by
 have:(primes9.all fun q=>decide (5≤q) && decide (q≤31))=true:=by decide +kernel
 have h:=vv.mp this p hp
 simpa using h
theorem thr_step {p:Int} (hp:p∈primes9) {pts:List (Int×Int)}{rs:List Int×List Int} (h:r9 p pts rs) {x y:Int} (hx:∀ q∈pts,x%p≠q.1%p):r9 p (pts++[(x,y)]) (mU p rs (x,y)):=by
 have p5:=jc hp
 have F:(rs.1++[0]).length=rs.2.length:=by rw [u7,h.l1,h.l2];rfl
 have Z:bH p rs.2 x%p≠0:=by
  rw [bJ,vJ _ (wp p)]
  exact h.non x hx
 have R:=gB hp Z
 generalize J:(y - bH p rs.1 x)*bT p (bH p rs.2 x)=t
 have I:(mU p rs (x,y)).1=kr p t (rs.1++[0]) rs.2:=by rw [← J];rfl
 have G:(mU p rs (x,y)).2=eK p x rs.2:=rfl
 have er:∀ z,aL (mU p rs (x,y)).1 z%p=(aL rs.1 z+t*aL rs.2 z)%p:=fun z=>by rw [I,eT _ _ _ F,fC]
 refine ⟨?_,?_,?_,?_,?_,?_,?_⟩
 ·rw [I,gC,F,Nat.min_self,h.l2,u7]
  rfl
 ·rw [G,iT,h.l2,u7]
  rfl
 ·rw [I]
  exact qF (by omega) _ _
 ·rw [G,hG]
  exact qF (by omega) _ _
 ·intro q hq
  rw [er]
  rcases vr.mp hq with hq | hq
  ·rw [wu,vL,h.zer q hq,wE,Int.zero_emod,wA,vJ _ (wp p)]
   exact h.row q hq
  ·have e:q=(x,y):=by simpa using hq
   subst e
   show (aL rs.1 x+t*aL rs.2 x)%p=y%p
   have U:bH p rs.1 x=aL rs.1 x%p:=bJ _ _
   have Y:bH p rs.2 x=aL rs.2 x%p:=bJ _ _
   have W:t*aL rs.2 x%p=(y - bH p rs.1 x)%p:=by
    rw [← J,wH,vL]
    have:bT p (bH p rs.2 x)*aL rs.2 x%p=1:=by
     have z:aL rs.2 x%p*bT p (bH p rs.2 x)%p=aL rs.2 x*bT p (bH p rs.2 x)%p:=by rw [vL,vJ _ (wp p),← vL]
     rw [wO,← z,← Y]
     exact R.2
    rw [this,Int.mul_one,vJ _ (wp p)]
   rw [wu,W,U,← wu]
   have:(aL rs.1 x+(y - aL rs.1 x%p))=y+(aL rs.1 x - aL rs.1 x%p):=by omega
   rw [this,show aL rs.1 x - aL rs.1 x%p=p*(aL rs.1 x / p) by have:=Int.emod_add_mul_ediv (aL rs.1 x) p;omega,Int.add_mul_emod_self_left]
 ·intro q hq
  rw [G,jd]
  rcases vr.mp hq with hq | hq
  ·rw [vL,h.zer q hq,wE,Int.zero_emod]
  ·have e:q=(x,y):=by simpa using hq
   subst e
   show (x - x)*aL rs.2 x%p=0
   rw [Int.sub_self,Int.zero_mul,Int.zero_emod]
 ·intro z hz e
  rw [G,jd] at e
  rcases dom hp e with e | e
  ·have O:=hz (x,y) (wd _ (u9.mpr rfl))
   exact O (Int.emod_eq_emod_iff_emod_sub_eq_zero.mpr e)
  ·exact h.non z (fun q hq=>hz q (List.mem_append_left _ hq)) e
theorem thr_ok {p:Int} (hp:p∈primes9):∀ (pre pts:List (Int×Int)) (rs:List Int×List Int),r9 p pre rs→((pre++pts).map fun q=>q.1%p).Nodup→r9 p (pre++pts) (pts.foldl (mU p) rs)
 | pre,[],rs,h,_=>by rw [vT];exact h
 | pre,(x,y)::r,rs,h,nd=>by
  have e:pre++(x,y)::r=(pre++[(x,y)])++r:=by simp
  rw [e] at nd ⊢
  refine thr_ok hp (pre++[(x,y)]) r _ (thr_step hp h fun q F z=>?_) nd
  rw [u6,u6,wf] at nd
  have:=List.nodup_append.mp nd
  exact this.2.2 (q.1%p) (vP.mpr ⟨q,F,rfl⟩) (x%p) (List.mem_append_left _ (vP.mpr ⟨(x,y),u9.mpr rfl,rfl⟩)) z.symm
theorem qU {p:Int} (hp:p∈primes9) {pts:List (Int×Int)} (nd:(pts.map fun q=>q.1%p).Nodup):r9 p pts (dz p pts):=by
 have:=thr_ok hp [] pts ([],[1]) (sL (by have:=jc hp;omega)) nd
 unfold dz
 simpa using this
end Veil
namespace Veil
open PySem L2
def PtsAt (H:Hp):List V→List (Int×Int)→Prop:=Paired fun v q=>∃ a,v=.ref a∧H a=some (.tup [.int q.1,.int q.2])
theorem PtsAt.same {H H':Hp} (s:Same H H') {vs:List V}{qs:List (Int×Int)} (h:PtsAt H vs qs):PtsAt H' vs qs:=Paired.mapP h fun v q ⟨a,e,z⟩=>⟨a,e,s _ _ z⟩
theorem PtsAt.get {H:Hp}:∀ {vs:List V}{qs:List (Int×Int)}{i:Nat}{x:V},PtsAt H vs qs→vs[i]?=some x→∃ a q,x=.ref a∧H a=some (.tup [.int q.1,.int q.2])∧qs[i]?=some q
 | _,_,_,_,.nil,e=>by simp at e
 | _,_,0,_,.cons ⟨a,r,z⟩ _,e=>by simp at e;subst e;exact ⟨a,_,r,z,rfl⟩
 | _,_,i+1,x,.cons _ t,e=>by
  obtain ⟨a,q,h1,h2,h3⟩:=PtsAt.get (i:=i) (x:=x) t (by simpa using e)
  exact ⟨a,q,h1,h2,by simpa using h3⟩
inductive pO (C:Addr) (vs:List V) (H:Hp) (Q:VK) (E_:XK):Prop
 | mk (t:Addr) (p n f x:Int) (h0_:vs=[.ref t,.int x]) (h1_:TabAt C H t p n f) (h2_:p∈primes9) (h3_:(0≤x∧x<p)) (h4_:x≠0) (h5_:cB H Q (.int (bT p x))):pO C vs H Q E_
inductive oO (C:Addr) (vs:List V) (H:Hp) (Q:VK) (E_:XK):Prop
 | mk (t r:Addr) (p n f:Int) (rs:List V) (qs:List (Int×Int)) (h0_:vs=[.ref t,.ref r]) (h1_:TabAt C H t p n f) (h2_:p∈primes9) (h3_:H r=some (.lst rs)) (h4_:PtsAt H rs qs) (h5_:qs.length≤100) (h6_:(qs.map fun q=>q.1%p).Nodup) (h7_:cB H Q .non):oO C vs H Q E_
inductive lL (C:Addr) (vs:List V) (H:Hp) (Q:VK) (E_:XK):Prop
 | mk (t r:Addr) (p n f x:Int) (ss:List Int) (h0_:vs=[.ref t,.ref r,.int x]) (h1_:TabAt C H t p n f) (h2_:p∈primes9) (h3_:H r=some (.lst (ss.map V.int))) (h4_:ss.length≤100) (h5_:(∀ v∈ss,0≤v∧v<p)) (h6_:ox H Q ((eK p x ss).map V.int)):lL C vs H Q E_
inductive jK (C:Addr) (vs:List V) (H:Hp) (Q:VK) (E_:XK):Prop
 | mk (t r:Addr) (p n f:Int) (rs:List V) (qs:List (Int×Int)) (h0_:vs=[.ref t,.ref r]) (h1_:TabAt C H t p n f) (h2_:p∈primes9) (h3_:H r=some (.lst rs)) (h4_:PtsAt H rs qs) (h5_:qs.length≤50) (h6_:(qs.map fun q=>q.1%p).Nodup) (h7_:ox H Q ((lA p qs).map V.int)):jK C vs H Q E_
theorem qr:∀ (acc ns:List Int),(acc++ns).Nodup→ns.foldl PyProof.Rows.step_dedup acc=acc++ns
 | acc,[],_=>by simp
 | acc,x::r,h=>by
  have q:¬ x∈acc:=fun F=>by
   have:=(List.nodup_append.mp h).2.2 x F x vb
   exact this rfl
  have e:PyProof.Rows.step_dedup acc x=acc++[x]:=by
   unfold PyProof.Rows.step_dedup
   rw [if_neg]
   simpa using q
  rw [List.foldl_cons,e,qr (acc++[x]) r (by simpa using h)]
  simp
theorem rc (ns:List Int):(List.range ns.length).map (fun i=>ns.getD i 0)=ns:=by
 apply List.ext_getElem?
 intro i
 rw [u5]
 by_cases h:i<ns.length
 ·rw [vN h]
  simp [rz h]
 ·rw [vQ (by simpa using h),vQ (by simpa using h)]
  rfl
theorem gK {ns:List Int} (h:ns.Nodup):(PyProof.Rows.firstMet (fun i=>ns.getD i 0) ns.length).length=ns.length:=by
 unfold PyProof.Rows.firstMet
 rw [rc,qr [] ns (by simpa using h)]
 simp
theorem sy {α β γ:Type}{f:α→β→γ}:∀ {as:List α}{bs:List β}{i:Nat}{a:α}{b:β},as[i]?=some a→bs[i]?=some b→(List.zipWith f as bs)[i]?=some (f a b):=by
 intro as bs i a b h1 h2
 rw [wm,h1,h2]
theorem dh {α:Type}{l:List α}{i:Nat}{x:α} (h:l[i]?=some x):l.take i++[x]=l.take (i+1):=by
 rw [vn,h]
 rfl
end Veil
namespace Veil
open PySem L2
def si (n:Nat) (h:Int):List (Int×Int):=(List.range n).map fun i:Nat=>(1+(i:Int),if 1+(i:Int)=h then 1 else 0)
def oC (p:Int) (n:Nat) (h:Int):Int:=bH p (lA p (si n h)) 0
def bp (p:Int) (n:Nat):List Int:=(List.range n).map fun i:Nat=>oC p n (1+(i:Int))
def ix (W:List Int) (g:Nat→Int):Nat→Int
 | 0=>0
 | i+1=>ix W g i+W.getD i 0*g i
theorem mi {p:Int}{W:List Int}{g g':Nat→Int}:∀ (n:Nat),(∀ k,k<n→g k%p=g' k%p)→ix W g n%p=ix W g' n%p
 | 0,_=>rfl
 | n+1,h=>by
  rw [ix,ix,wu,mi n fun k hk=>h k (by omega),vL,h n (by omega),← vL,← wu]
theorem pZ {W:List Int}{g g':Nat→Int}:∀ (n:Nat),ix W (fun k=>g k+g' k) n=ix W g n+ix W g' n
 | 0=>rfl
 | n+1=>by
  rw [ix,ix,ix,pZ n,wS]
  omega
theorem mh {W:List Int}{g:Nat→Int} (a:Int):∀ (n:Nat),ix W (fun k=>a*g k) n=a*ix W g n
 | 0=>by rw [ix,ix,wE]
 | n+1=>by
  rw [ix,ix,mh a n,wS,← wH,wO (W.getD n 0) a,wH]
def tG (p:Int) (n:Nat) (W:List Int):Bool:=(List.range n).all fun j=>decide (ix W (fun k=>(1+(k:Int)) ^ j) n%p=if j=0 then 1 else 0)
theorem mL:(primes9.all fun p=>[3,4,5,6,7].all fun n:Nat=>!decide ((n:Int)<p) || (tG p n (bp p n) && (bp p n).all fun v=>decide (0≤v) && decide (v<p)))=true:=by decide +kernel
theorem pY {p:Int}{n:Nat}{W:List Int} (h:tG p n W=true):∀ (r:List Int) (j:Nat),j+r.length≤n→ix W (fun k=>(1+(k:Int)) ^ j*aL r (1+(k:Int))) n%p=(if j=0 then r.headD 0 else 0)%p
 | [],j,_=>by
  have e:(fun k:Nat=>(1+(k:Int)) ^ j*aL [] (1+(k:Int)))=fun k:Nat=>0*(1:Int):=by
   funext k
   simp [aL]
  rw [e,mh 0 (g:=fun _=>1),Int.zero_mul]
  split<;>rfl
 | a::rs,j,hl=>by
  have G:j+(rs.length+1)≤n:=hl
  have e:(fun k:Nat=>(1+(k:Int)) ^ j*aL (a::rs) (1+(k:Int)))=fun k:Nat=>a*(1+(k:Int)) ^ j+(1+(k:Int)) ^ (j+1)*aL rs (1+(k:Int)):=by
   funext k
   rw [aL,wS,wO _ a,Int.pow_succ,wH]
  have F:=of_decide_eq_true (vv.mp h j (vH.mpr (by omega)))
  have q:=pY h rs (j+1) (by omega)
  rw [if_neg (by omega)] at q
  rw [e,pZ,mh,wu,q,Int.zero_emod,wA,vL,F]
  split
  ·show (a%p*1%p)%p=a%p
   rw [Int.mul_one,vJ _ (wp p),vJ _ (wp p)]
  ·simp
theorem ws_ok {p:Int}{n:Nat} (hp:p∈primes9) (h3:3≤n) (h7:n≤7) (hn:(n:Int)<p):tG p n (bp p n)=true∧∀ v∈bp p n,0≤v∧v<p:=by
 have h1:=vv.mp (vv.mp mL p hp) n (by
  match n,h3,h7 with
  | 3,_,_ | 4,_,_ | 5,_,_ | 6,_,_ | 7,_,_=>simp)
 rw [decide_eq_true hn,Bool.not_true,Bool.false_or,vx] at h1
 refine ⟨h1.1,fun v q=>?_⟩
 have:=vv.mp h1.2 v q
 simpa using this
theorem fU (p:Int) (n:Nat):(bp p n).length=n:=by unfold bp;rw [lH,vo]
theorem ws_row {p:Int}{n:Nat} (hp:p∈primes9) (h3:3≤n) (h7:n≤7) (hn:(n:Int)<p) (r:List Int) (hr:r.length≤n):ix (bp p n) (fun k=>bH p r (1+(k:Int))) n%p=r.headD 0%p:=by
 have h:=pY (ws_ok hp h3 h7 hn).1 r 0 (by omega)
 rw [if_pos rfl] at h
 rw [← h]
 refine mi n fun k _=>?_
 rw [bJ,vJ _ (wp p),Int.pow_zero,Int.one_mul]
theorem qK {p:Int}{n:Nat} (h:Int) (hn:(n:Int)<p):((si n h).map fun q=>q.1%p).Nodup:=by
 unfold si
 rw [wX]
 show List.Pairwise (·≠·) _
 rw [List.pairwise_map]
 refine List.Pairwise.imp_of_mem ?_ (show List.Pairwise (·≠·) (List.range n) from List.nodup_range)
 intro i j hi F G e
 have hi:=vH.mp hi
 have F:=vH.mp F
 have e:(1+(i:Int))%p=(1+(j:Int))%p:=e
 rw [vO (by omega) (by omega),vO (by omega) (by omega)] at e
 exact G (by omega)
theorem wpts_len (n:Nat) (h:Int):(si n h).length=n:=by unfold si;rw [lH,vo]
theorem sA (n:Nat) (h:Int):si n h++[(1+(n:Int),if 1+(n:Int)=h then 1 else 0)]=si (n+1) h:=by unfold si;rw [← map_take]
theorem PtsAt.upd {H:Hp}{D:Addr}{o:HO}{ys:List V} (hD:H D=some (.lst ys)) {vs:List V}{qs:List (Int×Int)} (h:PtsAt H vs qs):PtsAt (L2.upd H D o) vs qs :=
 Paired.mapP h fun v q ⟨a,e,z⟩=>⟨a,e,by rw [az (ne_of z hD (by intro w;cases w))];exact z⟩
theorem PtsAt.snoc {H:Hp}{vs:List V}{qs:List (Int×Int)} (h:PtsAt H vs qs) {a:Addr}{q:Int×Int} (z:H a=some (.tup [.int q.1,.int q.2])):PtsAt H (vs++[.ref a]) (qs++[q]):=Paired.snoc h ⟨a,rfl,z⟩
inductive lE (C:Addr) (vs:List V) (H:Hp) (Q:VK) (E_:XK):Prop
 | mk (t:Addr) (p n f h:Int) (h0_:vs=[.ref t,.int h]) (h1_:TabAt C H t p n f) (h2_:p∈primes9) (h3_:0≤n) (h4_:n≤7) (h5_:n<p) (h6_:cB H Q (.int (oC p n.toNat h))):lE C vs H Q E_
inductive jJ (C:Addr) (vs:List V) (H:Hp) (Q:VK) (E_:XK):Prop
 | mk (t:Addr) (p n f:Int) (h0_:vs=[.ref t]) (h1_:TabAt C H t p n f) (h2_:p∈primes9) (h3_:0≤n) (h4_:n≤7) (h5_:n<p) (h6_:ox H Q ((bp p n.toNat).map V.int)):jJ C vs H Q E_
end Veil
namespace Veil
structure PtsOk (p:Int) (pts:List (Int×Int)):Prop where
 nd:(pts.map fun q=>q.1%p).Nodup
 yb:∀ q∈pts,0≤q.2∧q.2<p
end Veil
namespace Veil
end Veil
namespace Veil
theorem jS:∀ (n:Nat) (z:Int),aL (List.replicate n 0) z=0
 | 0,_=>rfl
 | n+1,z=>by rw [we,aL,jS n];simp
end Veil
namespace Veil
structure LieSt (p:Int) (n:Nat) (row li:List Int) (os:List (Option Int)):Prop where
 len:os.length=n
 nd:li.Nodup
 lb:∀ h∈li,1≤h∧h≤n
 lie:∀ h∈li,∃ y,os[(h - 1).toNat]?=some (some y)∧(0≤y∧y<p)∧y≠bH p row h
 hon:∀ i:Nat,i<n→(1+(i:Int))∉li→os[i]?=some none∨os[i]?=some (some (bH p row (1+(i:Int))))
end Veil
namespace Veil
open PySem L2
end Veil
namespace Veil
open PySem L2
end Veil
namespace Veil
open PySem L2
def dpt (q:Int×Int):PySem.W.Dat:=.tuple [.int q.1,.int q.2]
theorem PtsAt.rep {H:Hp}:∀ {vs:List V}{qs:List (Int×Int)},PtsAt H vs qs→RepDs H vs (qs.map dpt)
 | _,_,.nil=>.nil
 | _,_,.cons ⟨a,e,z⟩ t=>by subst e;exact .cons (.tup z (.cons (.int _) (.cons (.int _) .nil))) (PtsAt.rep t)
theorem dpt_ok (qs:List (Int×Int)):PySem.W.kqdOk 8 (.list (qs.map dpt))=true:=by
 show (qs.map dpt).all (PySem.W.kqdOk 7)=true
 rw [wz]
 exact vv.mpr fun q _=>rfl
theorem cut_to {xs:List V}{k:Nat}:kL xs none (some (k:Int))=xs.take k:=by
 unfold kL
 rw [HT.sIx_none,HT.sIx_nat,wW,Nat.sub_zero]
 rcases Nat.le_total k xs.length with h | h
 ·rw [Nat.min_eq_left h]
 ·rw [Nat.min_eq_right h,vI,vi h]
theorem jE {xs:List V}{k:Nat}:kL xs (some (k:Int)) none=xs.drop k:=by
 unfold kL
 rw [HT.sIx_none,HT.sIx_nat]
 rcases Nat.le_total k xs.length with h | h
 ·rw [Nat.min_eq_left h,vi (by rw [wt];exact va _)]
 ·rw [Nat.min_eq_right h,List.drop_length,List.drop_eq_nil_of_le h,List.take_nil]
end Veil
namespace Veil
open PySem L2
def sd:Option Int→PySem.W.Dat
 | none=>.none
 | some i=>.int i
theorem kS {α β:Type}{R:α→β→Prop}:∀ {a b:List α}{c d:List β},Paired R a c→Paired R b d→Paired R (a++b) (c++d)
 | _,_,_,_,.nil,g=>g
 | _,_,_,_,.cons h t,g=>.cons h (kS t g)
theorem cX {α β:Type}{R:α→β→Prop}:∀ {a:List α}{c:List β}{i:Nat}{x:α},Paired R a c→a[i]?=some x→∃ y,c[i]?=some y∧R x y
 | _,_,_,_,.nil,e=>by simp at e
 | _,_,0,_,.cons h _,e=>by simp at e;subst e;exact ⟨_,rfl,h⟩
 | _,_,i+1,x,.cons _ t,e=>by
  obtain ⟨y,h1,h2⟩:=cX (i:=i) (x:=x) t (by simpa using e)
  exact ⟨y,by simpa using h1,h2⟩
theorem fM (x:Int):∀ (li:List Int),inV (.int x) (li.map V.int)=decide (x∈li)
 | []=>by simp [inV]
 | y::r=>by
  have ih:=fM x r
  unfold inV at ih ⊢
  rw [vV,List.any_cons,ih]
  have e:eqV (.int y) (.int x)=decide (y=x):=by
   show (y == x)=decide (y=x)
   by_cases h:y=x<;>simp [h]
  rw [e]
  by_cases h:y=x
  ·simp [h]
  ·have h':¬ x=y:=fun z=>h z.symm
   simp [h,h']
theorem gm:∀ (li:List Int),(li.map V.int).all mE=true
 | []=>rfl
 | _::r=>by rw [vV,wM,gm r];rfl
theorem j9 {n:Nat}{k:Int} (h0:0≤k) (h1:k<n):ixN n k=some k.toNat:=by
 unfold ixN
 rw [if_pos h0,if_pos h1]
end Veil
namespace Veil
end Veil
namespace L2
open PySem PySem.Spec PyProof.Rows
open PySem.W (Dat kqdP kqdPs kqdOk)
section
variable {X:Cx}
theorem mq (K:PySem.W.Frag) (hK:X.K=K:=by rfl):OpR X (compareOp .NotIn) (rIn K true):=by
 subst hK
 exact gj
theorem fR (K:PySem.W.Frag) (hK:X.K=K:=by rfl):CallR X (.type "list") (fun xs H Q=>∃ (p:Addr) (ys:List V),xs=[.ref p]∧(SqL K H p ys∨SqT K H p ys)∧∀ l:Addr,H l=none→Q (.ref l) (upd H l (.lst ys))):=by
 subst hK
 exact gq
end
end L2
namespace Veil
open PySem L2
theorem jV {α β:Type}{R:α→β→Prop}:∀ {a:List α}{b:List β} (n:Nat),Paired R a b→Paired R (a.take n) (b.take n)
 | _,_,0,_=>by simp only [List.take_zero];exact .nil
 | _,_,_+1,.nil=>by simp only [List.take_nil];exact .nil
 | _,_,n+1,.cons h t=>by simp only [wJ];exact .cons h (jV n t)
structure OsOk (p n:Int) (os:List (Option Int)):Prop where
 len:os.length=n.toNat
 b:∀ (i:Nat) (y:Int),os[i]?=some (some y)→0≤y∧y<p
theorem took (xs:List Int) (k:Nat):kL (xs.map V.int) none (some (k:Int))=(xs.take k).map V.int:=by rw [cut_to,List.map_take]
end Veil
namespace Veil
open PySem L2
inductive Stp where
 | ein (h:Int)
 | fix (x:Int)
 | bye (a x:Int)
 | sum (a b:Int)
 | less (a b:Int)
 | mul (a b:Int)
 | anew (a:Int)
 | opn (a:Int)
 deriving DecidableEq
def Stp.vs:Stp→List V
 | .ein h=>[.str "in",.int h]
 | .fix x=>[.str "fix",.int x]
 | .bye a x=>[.str "by",.int a,.int x]
 | .sum a b=>[.str "sum",.int a,.int b]
 | .less a b=>[.str "less",.int a,.int b]
 | .mul a b=>[.str "mul",.int a,.int b]
 | .anew a=>[.str "anew",.int a]
 | .opn a=>[.str "open",.int a]
def Stp.dat:Stp→PySem.W.Dat
 | .ein h=>.tuple [.str "in",.int h]
 | .fix x=>.tuple [.str "fix",.int x]
 | .bye a x=>.tuple [.str "by",.int a,.int x]
 | .sum a b=>.tuple [.str "sum",.int a,.int b]
 | .less a b=>.tuple [.str "less",.int a,.int b]
 | .mul a b=>.tuple [.str "mul",.int a,.int b]
 | .anew a=>.tuple [.str "anew",.int a]
 | .opn a=>.tuple [.str "open",.int a]
theorem Stp.ok (s:Stp):PySem.W.kqdOk 7 s.dat=true:=by cases s<;>simp [Stp.dat,PySem.W.kqdOk]<;>decide +kernel
theorem Stp.ok8 (s:Stp):PySem.W.kqdOk 8 s.dat=true:=by cases s<;>simp [Stp.dat,PySem.W.kqdOk]<;>decide +kernel
theorem Stp.rep {H:Hp}{a:Addr}{s:Stp} (h:H a=some (.tup s.vs)):RepD H (.ref a) s.dat:=by
 cases s
 case ein=>exact .tup h (.cons (.str _) (.cons (.int _) .nil))
 case fix=>exact .tup h (.cons (.str _) (.cons (.int _) .nil))
 case bye=>exact .tup h (.cons (.str _) (.cons (.int _) (.cons (.int _) .nil)))
 case sum=>exact .tup h (.cons (.str _) (.cons (.int _) (.cons (.int _) .nil)))
 case less=>exact .tup h (.cons (.str _) (.cons (.int _) (.cons (.int _) .nil)))
 case mul=>exact .tup h (.cons (.str _) (.cons (.int _) (.cons (.int _) .nil)))
 case anew=>exact .tup h (.cons (.str _) (.cons (.int _) .nil))
 case opn=>exact .tup h (.cons (.str _) (.cons (.int _) .nil))
theorem dat_ein {s:Stp}{h:Int}:s.dat=(Stp.ein h).dat↔s=.ein h:=by
 constructor
 ·intro e
  cases s
  case ein x =>
   injection e with e
   injection e with _ e
   injection e with e _
   injection e with e
   rw [e]
  all_goals
   exfalso
   injection e with e
   injection e with e _
   injection e with e
   revert e
   decide +kernel
 ·rintro rfl
  rfl
def StpsAt (H:Hp):List V→List Stp→Prop:=Paired fun v s=>∃ a,v=.ref a∧H a=some (.tup s.vs)
theorem StpsAt.same {H H':Hp} (s:Same H H') {vs:List V}{ss:List Stp} (h:StpsAt H vs ss):StpsAt H' vs ss:=Paired.mapP h fun v q ⟨a,e,z⟩=>⟨a,e,s _ _ z⟩
theorem StpsAt.get {H:Hp}{vs:List V}{ss:List Stp}{i:Nat}{x:V} (h:StpsAt H vs ss) (e:vs[i]?=some x):∃ a s,x=.ref a∧H a=some (.tup s.vs)∧ss[i]?=some s:=by
 obtain ⟨s,h1,a,h2,h3⟩:=cX h e
 exact ⟨a,s,h2,h3,h1⟩
theorem StpsAt.snoc {H:Hp}{vs:List V}{ss:List Stp} (h:StpsAt H vs ss) {a:Addr}{s:Stp} (z:H a=some (.tup s.vs)):StpsAt H (vs++[.ref a]) (ss++[s]):=Paired.snoc h ⟨a,rfl,z⟩
theorem StpsAt.upd {H:Hp}{l:Addr}{c c':List V} (hl:H l=some (.lst c)) {vs:List V}{ss:List Stp} (h:StpsAt H vs ss):StpsAt (L2.upd H l (.lst c')) vs ss:=Paired.mapP h fun v q ⟨a,e,z⟩=>⟨a,e,by
 rw [az fun y=>by rw [y,hl] at z;cases z]
 exact z⟩
theorem StpsAt.rep {H:Hp}:∀ {vs:List V}{ss:List Stp},StpsAt H vs ss→RepDs H vs (ss.map Stp.dat)
 | _,_,.nil=>.nil
 | _,_,.cons ⟨_,e,z⟩ t=>by rw [e];exact .cons (Stp.rep z) (StpsAt.rep t)
def dj (c at_ p n:Int):Stp :=
 if at_=0∨eW c 1 9<2 then .ein (1+eW c 2 n)
 else if eW c 1 9=2 then .fix (eW c 5 p)
 else if eW c 1 9=3 then .bye (eW c 3 at_) (eW c 5 p)
 else if eW c 1 9<6 then (if eW c 1 9=4 then .sum (eW c 3 at_) (eW c 4 at_) else .less (eW c 3 at_) (eW c 4 at_))
 else if eW c 1 9=6 then .mul (eW c 3 at_) (eW c 4 at_)
 else if eW c 1 9=7 then .anew (eW c 3 at_) else .opn (eW c 3 at_)
def Stp.Right (p n k:Int):Stp→Prop
 | .ein h=>1≤h∧h≤n
 | .fix x=>0≤x∧x<p
 | .bye a x=>(0≤a∧a<k)∧0≤x∧x<p
 | .sum a b=>(0≤a∧a<k)∧0≤b∧b<k
 | .less a b=>(0≤a∧a<k)∧0≤b∧b<k
 | .mul a b=>(0≤a∧a<k)∧0≤b∧b<k
 | .anew a=>0≤a∧a<k
 | .opn a=>0≤a∧a<k
theorem i9 {c at_ p n:Int} (hp:0<p) (hn:0<n) (ha:0≤at_):(dj c at_ p n).Right p n at_:=by
 unfold dj
 have h2:=bR (c:=c) (k:=2) hn
 have G:=fJ (c:=c) (k:=2) hn
 by_cases h:at_=0∨eW c 1 9<2
 ·rw [if_pos h]
  exact ⟨by omega,by omega⟩
 rw [if_neg h]
 have a0:0<at_:=by omega
 have h3:=bR (c:=c) (k:=3) a0
 have q:=fJ (c:=c) (k:=3) a0
 have O:=bR (c:=c) (k:=4) a0
 have I:=fJ (c:=c) (k:=4) a0
 have J:=bR (c:=c) (k:=5) hp
 have F:=fJ (c:=c) (k:=5) hp
 repeat' split
 all_goals simp only [Stp.Right];omega
inductive jw (C:Addr) (vs:List V) (H:Hp) (Q:VK) (E_:XK):Prop
 | mk (t:Addr) (c at_ p n f:Int) (h0_:vs=[.int c,.int at_,.ref t]) (h1_:TabAt C H t p n f) (h2_:0<p) (h3_:0<n) (h4_:0≤at_) (h5_:∀ d H',Same H H'→H d=none→H' d=some (.tup (dj c at_ p n).vs)→Q (.ref d) H'):jw C vs H Q E_
def eG (ns:List Int) (st:Int) (k:Nat) (p n:Int):List Stp:=(List.range k).map fun i:Nat=>dj (cg ns (st+(i:Int))) (i:Int) p n
inductive jL (K:PySem.W.Frag) (C:Addr) (vs:List V) (H:Hp) (Q:VK) (E_:XK):Prop
 | mk (a t:Addr) (ns:List Int) (st m p n f:Int) (h0_:vs=[.ref a,.int st,.int m,.ref t]) (h1_:SqL K H a (ns.map V.int)) (h2_:0≤st) (h3_:0≤m) (h4_:m≤100) (h5_:TabAt C H t p n f) (h6_:0<p) (h7_:0<n) (h8_:∀ d H' ws,Same H H'→H d=none→H' d=some (.lst ws)→StpsAt H' ws (eG ns st m.toNat p n)→Q (.ref d) H'):jL K C vs H Q E_
def aS (ss:List Stp) (h:Int):Nat:=(ss.filter fun s=>decide (s=.ein h)).length
inductive mW (vs:List V) (H:Hp) (Q:VK) (E_:XK):Prop
 | mk (a:Addr) (h:Int) (ws:List V) (ss:List Stp) (h0_:vs=[.ref a,.int h]) (h1_:H a=some (.lst ws)) (h2_:StpsAt H ws ss) (h3_:ss.length≤100) (h4_:cB H Q (.int (aS ss h:Int))):mW vs H Q E_
theorem jH {ss:List Stp}{h:Int}{i:Nat}{s:Stp} (e:ss[i]?=some s):aS (ss.take (i+1)) h=aS (ss.take i) h+(if s=.ein h then 1 else 0):=by
 unfold aS
 rw [vn,e,wG,u7]
 congr 1
 by_cases c:s=.ein h<;>simp [c]
theorem lr (ss:List Stp) (h:Int):aS ss h≤ss.length:=List.length_filter_le _ _
end Veil
namespace Veil
open PySem L2
def Stp.word:Stp→Str
 | .ein _=>"in"
 | .fix _=>"fix"
 | .bye _ _=>"by"
 | .sum _ _=>"sum"
 | .less _ _=>"less"
 | .mul _ _=>"mul"
 | .anew _=>"anew"
 | .opn _=>"open"
theorem Stp.at0 (s:Stp):atI s.vs 0=some (.str s.word):=by cases s<;>rfl
theorem lj (s:Stp):s.word="open"↔∃ a,s=.opn a:=by
 cases s
 case opn a=>exact ⟨fun _=>⟨a,rfl⟩,fun _=>rfl⟩
 all_goals exact ⟨fun h=>absurd h (by simp only [Stp.word];decide +kernel),fun ⟨_,h⟩=>nomatch h⟩
def Stp.need (n:Int):Stp→Int
 | .ein _=>1
 | .mul _ _=>n
 | .anew _=>n
 | _=>0
theorem t9 {n:Int} (h0:0≤n) (h1:n≤10) (s:Stp):0≤s.need n∧s.need n≤10:=by cases s<;>simp only [Stp.need]<;>omega
abbrev kIn:Key:=Sum.inr (Str.ofString "in")
abbrev pd:Key:=Sum.inr (Str.ofString "mul")
abbrev iW:Key:=Sum.inr (Str.ofString "anew")
theorem need_get {n:Int} (s:Stp):(oE (je [] [(kIn,V.int 1),(pd,V.int n),(iW,V.int n)]) (Sum.inr s.word:Key)).getD (.int 0)=.int (s.need n):=by
 have e:je [] [(kIn,V.int 1),(pd,V.int n),(iW,V.int n)]=[(kIn,V.int 1),(pd,V.int n),(iW,V.int n)]:=by
  unfold je
  simp only [List.foldl_cons,List.foldl_nil]
  rw [show sj ([]:List (Key×V)) (kIn) (V.int 1)=[(kIn,V.int 1)] from rfl]
  rw [show sj [(kIn,V.int 1)] (pd) (V.int n)=[(kIn,V.int 1),(pd,V.int n)] by unfold sj;rw [if_neg (by simp only [List.any_cons,List.any_nil];decide +kernel)];rfl]
  unfold sj
  rw [if_neg (by
   show ¬ (decide (kIn=iW) || (decide (pd=iW) || false))=true
   clear n
   decide +kernel)]
  rfl
 rw [e]
 have F:¬ (kIn=pd):=by decide +kernel
 have G:¬ (kIn=iW):=by decide +kernel
 have q:¬ (pd=iW):=by decide +kernel
 unfold oE
 have look:∀ k:Key,List.find? (fun I=>decide (I.1=k)) [(kIn,V.int 1),(pd,V.int n),(iW,V.int n)]=if kIn=k then some (kIn,V.int 1) else if pd=k then some (pd,V.int n) else if iW=k then some (iW,V.int n) else none:=fun k=>by
  simp only [wT,List.find?_nil]
  by_cases h1:kIn=k
  ·simp [h1]
  by_cases h2:pd=k
  ·simp [h1,h2]
  by_cases h3:iW=k
  ·simp [h1,h2,h3]
  ·simp [h1,h2,h3]
 rw [look]
 cases s
 case ein=>rw [if_pos (show kIn=Sum.inr (Stp.word (.ein _)) from rfl)];rfl
 case mul=>rw [if_neg (show ¬ kIn=Sum.inr (Stp.word (.mul _ _)) from F),if_pos (show pd=Sum.inr (Stp.word (.mul _ _)) from rfl)];rfl
 case anew=>rw [if_neg (show ¬ kIn=Sum.inr (Stp.word (.anew _)) from G),if_neg (show ¬ pd=Sum.inr (Stp.word (.anew _)) from q),if_pos (show iW=Sum.inr (Stp.word (.anew _)) from rfl)];rfl
 all_goals
  rw [if_neg (by simp only [Stp.word];decide +kernel),if_neg (by simp only [Stp.word];decide +kernel),if_neg (by simp only [Stp.word];decide +kernel)]
  rfl
def aY (f n:Int):List Stp→Int
 | []=>0
 | s::r=>f*s.need n+aY f n r
theorem nO (f n:Int):∀ (a b:List Stp),aY f n (a++b)=aY f n a+aY f n b
 | [],b=>by simp [aY]
 | s::a,b=>by
  rw [List.cons_append,aY,aY,nO f n a b]
  omega
theorem rE {f n:Int}{ss:List Stp}{i:Nat}{s:Stp} (e:ss[i]?=some s):aY f n (ss.take (i+1))=aY f n (ss.take i)+f*s.need n:=by
 rw [vn,e,nO]
 simp [aY]
theorem o6 {f n:Int} (hf:0≤f) (hf2:f≤2) (h0:0≤n) (h1:n≤10):∀ ss:List Stp,0≤aY f n ss∧aY f n ss≤20*ss.length
 | []=>by simp [aY]
 | s::r=>by
  have ih:=o6 hf hf2 h0 h1 r
  have hb:=t9 h0 h1 s
  rw [aY,vh]
  have h2:0≤f*s.need n:=Int.mul_nonneg hf hb.1
  have h3:f*s.need n≤2*10:=Int.mul_le_mul hf2 hb.2 hb.1 (by decide)
  omega
inductive oM (C:Addr) (vs:List V) (H:Hp) (Q:VK) (E_:XK):Prop
 | mk (a t:Addr) (p n f:Int) (ws:List V) (ss:List Stp) (h0_:vs=[.ref a,.ref t]) (h1_:TabAt C H t p n f) (h2_:(0≤f∧f≤2)) (h3_:(0≤n∧n≤10)) (h4_:H a=some (.lst ws)) (h5_:StpsAt H ws ss) (h6_:cB H Q (.int (aY f n ss))):oM C vs H Q E_
def gF:Stp→Stp
 | .opn a=>.anew a
 | s=>s
theorem quiet_no {s:Stp} (h:¬ ∃ a,s=.opn a):gF s=s:=by
 cases s
 case opn a=>exact absurd ⟨a,rfl⟩ h
 all_goals rfl
def NewStps (H:Hp) (Q:VK) (ss:List Stp):Prop:=∀ d H' ws,Same H H'→H d=none→H' d=some (.lst ws)→StpsAt H' ws ss→Q (.ref d) H'
inductive oI (vs:List V) (H:Hp) (Q:VK) (E_:XK):Prop
 | mk (a:Addr) (ws:List V) (ss:List Stp) (h0_:vs=[.ref a]) (h1_:H a=some (.lst ws)) (h2_:StpsAt H ws ss) (h3_:ss.length≤100) (h4_:NewStps H Q (ss.map gF)):oI vs H Q E_
def dL (c p:Int) (k:Nat):List Int:=(List.range k).map fun i:Nat=>eW c (200+(i:Int)) p
inductive iN (C:Addr) (vs:List V) (H:Hp) (Q:VK) (E_:XK):Prop
 | mk (a t:Addr) (c p n f:Int) (ws:List V) (ss:List Stp) (h0_:vs=[.int c,.ref a,.ref t]) (h1_:TabAt C H t p n f) (h2_:0<p) (h3_:(0≤f∧f≤2)) (h4_:(0≤n∧n≤10)) (h5_:H a=some (.lst ws)) (h6_:StpsAt H ws ss) (h7_:ss.length≤40) (h8_:ox H Q ((dL c p (aY f n ss).toNat).map V.int)):iN C vs H Q E_
def InsAt (H:Hp):List Addr→List (List Int)→Prop:=Paired fun a r=>H a=some (.lst (r.map V.int))
theorem InsAt.same {H H':Hp} (s:Same H H') {as:List Addr}{rs:List (List Int)} (h:InsAt H as rs):InsAt H' as rs:=Paired.mapP h fun a r z=>s _ _ z
theorem InsAt.there {H:Hp}:∀ {as:List Addr}{rs:List (List Int)}{l:Addr},InsAt H as rs→H l=none→l∉as
 | _,_,_,.nil,_,h=>nomatch h
 | _,_,l,.cons z t,hl,h=>by
  rcases u8.mp h with e | e
  ·rw [← e,hl] at z
   cases z
  ·exact InsAt.there t hl e
theorem InsAt.off {H:Hp}{l:Addr}{o:HO}:∀ {as:List Addr}{rs:List (List Int)},InsAt H as rs→l∉as→InsAt (L2.upd H l o) as rs
 | _,_,.nil,_=>.nil
 | _,_,.cons z t,h=>.cons (by rw [az (fun e=>h (by rw [e];exact vb))];exact z) (InsAt.off t fun e=>h (vd _ e))
theorem InsAt.snoc {H:Hp}{as:List Addr}{rs:List (List Int)} (h:InsAt H as rs) {a:Addr}{r:List Int} (z:H a=some (.lst (r.map V.int))):InsAt H (as++[a]) (rs++[r]):=Paired.snoc h z
theorem eV {α:Type}{as:List α}{a:α} (h:as.Nodup) (n:a∉as):(as++[a]).Nodup:=by
 refine List.nodup_append.mpr ⟨h,by simp,fun x hx y hy e=>?_⟩
 have:y=a:=by simpa using hy
 rw [e,this] at hx
 exact n hx
def inBy (c p:Int) (ss:List Stp) (h:Int):List Int:=(List.range ((aS ss h:Int)+eW c (60+h) 2).toNat).map fun k:Nat=>eW c (70+9*h+(k:Int)) p
def bt (c p:Int) (ss:List Stp) (n:Nat):List (List Int):=(List.range n).map fun i:Nat=>inBy c p ss (1+(i:Int))
def NewIns (H:Hp) (Q:VK) (rs:List (List Int)):Prop:=∀ d H' as,Same H H'→H d=none→H' d=some (.lst (as.map V.ref))→as.Nodup→d∉as→(∀ a∈as,H a=none)→InsAt H' as rs→Q (.ref d) H'
inductive iM (C:Addr) (vs:List V) (H:Hp) (Q:VK) (E_:XK):Prop
 | mk (a t:Addr) (c p n f:Int) (ws:List V) (ss:List Stp) (h0_:vs=[.int c,.ref a,.ref t]) (h1_:TabAt C H t p n f) (h2_:0<p) (h3_:(0≤n∧n≤10)) (h4_:H a=some (.lst ws)) (h5_:StpsAt H ws ss) (h6_:ss.length≤100) (h7_:NewIns H Q (bt c p ss n.toNat)):iM C vs H Q E_
end Veil
namespace Veil
open PySem L2
def bU (rest:List (List Int)) (h:Int):List Int:=rest.getD (h - 1).toNat []
def jh (p:Int) (rest:List (List Int)) (fd:List Int):Stp→Int
 | .ein h=>(bU rest h).headD 0
 | .fix x=>x
 | .bye a x=>fd.getD a.toNat 0*x%p
 | .sum a b=>(fd.getD a.toNat 0+fd.getD b.toNat 0)%p
 | .less a b=>(fd.getD a.toNat 0 - fd.getD b.toNat 0)%p
 | .mul a b=>fd.getD a.toNat 0*fd.getD b.toNat 0%p
 | .anew a=>fd.getD a.toNat 0
 | .opn a=>fd.getD a.toNat 0
def eY (rest:List (List Int)):Stp→List (List Int)
 | .ein h=>rest.set (h - 1).toNat (bU rest h).tail
 | _=>rest
def fE (p:Int):List Stp→List (List Int)→List Int→List Int
 | [],_,fd=>fd
 | s::r,rest,fd=>fE p r (eY rest s) (fd++[jh p rest fd s])
def aD (p:Int) (ss:List Stp) (inp:List (List Int)):List Int:=fE p ss inp []
def eF (p n:Int) (ss:List Stp):Prop:=∀ (i:Nat) (s:Stp),ss[i]?=some s→s.Right p n (i:Int)
structure InsOk (p n:Int) (ss:List Stp) (inp:List (List Int)):Prop where
 len:inp.length=n.toNat
 b:∀ r∈inp,∀ x∈r,0≤x∧x<p
 en:∀ h,1≤h→h≤n→aS ss h≤(bU inp h).length
structure PlSt (p n:Int) (ss:List Stp) (inp:List (List Int)) (i:Nat) (rest:List (List Int)) (fd:List Int):Prop where
 ok:InsOk p n (ss.drop i) rest
 fl:fd.length=i
 fb:∀ x∈fd,0≤x∧x<p
 go:fE p (ss.drop i) rest fd=aD p ss inp
theorem PlSt.start {p n:Int}{ss:List Stp}{inp:List (List Int)} (h:InsOk p n ss inp):PlSt p n ss inp 0 inp []:=⟨by rw [wW];exact h,rfl,(fun x hx=>nomatch hx),by rw [wW];rfl⟩
theorem cm (s:Stp) (r:List Stp) (h:Int):aS (s::r) h=(if s=.ein h then 1 else 0)+aS r h:=by
 unfold aS
 rw [wV]
 by_cases e:s=.ein h
 ·rw [if_pos (decide_eq_true e),if_pos e,vh]
  omega
 ·rw [if_neg (by simp [e]),if_neg e]
  omega
theorem iH {p:Int}{fd:List Int} (h:∀ x∈fd,0≤x∧x<p) {a:Int} (h0:0≤a) (h1:a<fd.length):0≤fd.getD a.toNat 0∧fd.getD a.toNat 0<p:=by
 have hl:a.toNat<fd.length:=by omega
 rw [nn,rz hl]
 exact h _ (v0 hl)
theorem PlSt.head {p n:Int}{ss:List Stp}{inp rest:List (List Int)}{i:Nat}{fd:List Int} (S:PlSt p n ss inp i rest fd) {h:Int} (hs:ss[i]?=some (.ein h)) (h1:1≤h) (h2:h≤n):∃ x r,bU rest h=x::r:=by
 have:=S.ok.en h h1 h2
 rw [iZ hs,cm,if_pos rfl] at this
 cases e:bU rest h with
 | nil=>rw [e] at this;simp at this
 | cons x r=>exact ⟨x,r,rfl⟩
theorem iG {rest:List (List Int)}{h:Int} (hl:(h - 1).toNat<rest.length):bU rest h∈rest:=by
 unfold bU
 rw [nn,rz hl]
 exact v0 hl
theorem PlSt.val {p n:Int}{ss:List Stp}{inp rest:List (List Int)}{i:Nat}{fd:List Int} (S:PlSt p n ss inp i rest fd) (hp:0<p) {s:Stp} (hs:ss[i]?=some s) (R:s.Right p n (i:Int)):0≤jh p rest fd s∧jh p rest fd s<p:=by
 have fl:=S.fl
 cases s with
 | ein h =>
  obtain ⟨x,r,e⟩:=S.head hs R.1 R.2
  simp only [jh,e,List.headD_cons]
  have hl:(h - 1).toNat<rest.length:=by rw [S.ok.len];have:=R.1;have:=R.2;omega
  exact S.ok.b _ (iG hl) x (by rw [e];exact vb)
 | fix x=>exact R
 | bye a x=>exact ⟨vC _ (by omega),vw _ hp⟩
 | sum a b=>exact ⟨vC _ (by omega),vw _ hp⟩
 | less a b=>exact ⟨vC _ (by omega),vw _ hp⟩
 | mul a b=>exact ⟨vC _ (by omega),vw _ hp⟩
 | anew a=>exact iH S.fb R.1 (by rw [fl];exact R.2)
 | opn a=>exact iH S.fb R.1 (by rw [fl];exact R.2)
theorem PlSt.next {p n:Int}{ss:List Stp}{inp rest:List (List Int)}{i:Nat}{fd:List Int} (S:PlSt p n ss inp i rest fd) (hp:0<p) {s:Stp} (hs:ss[i]?=some s) (R:s.Right p n (i:Int)) :
  PlSt p n ss inp (i+1) (eY rest s) (fd++[jh p rest fd s]):=by
 have J:=S.val hp hs R
 refine ⟨?_,by rw [u7,S.fl];rfl,fun x F=>?_,?_⟩
 ·have ok:=S.ok
  rw [iZ hs] at ok
  have q:(∀ h,s≠.ein h)→InsOk p n (ss.drop (i+1)) rest:=fun G=>⟨ok.len,ok.b,fun h h1 h2=>by
   have:=ok.en h h1 h2
   rw [cm,if_neg (G h)] at this
   omega⟩
  cases s with
  | ein h =>
   have hl:(h - 1).toNat<rest.length:=by rw [S.ok.len];have:=R.1;have:=R.2;omega
   refine ⟨by show (rest.set _ _).length=_;rw [List.length_set];exact ok.len,fun r hr x F=>?_,fun h' h1 h2=>?_⟩
   ·have hr:r∈rest.set (h - 1).toNat (bU rest h).tail:=hr
    rcases vZ hr with e | e
    ·exact ok.b r e x F
    ·rw [e] at F
     exact ok.b _ (iG hl) x (List.mem_of_mem_tail F)
   ·have I:=ok.en h' h1 h2
    rw [cm] at I
    show _≤(bU (rest.set (h - 1).toNat (bU rest h).tail) h').length
    by_cases e:h'=h
    ·subst e
     rw [if_pos rfl] at I
     have:bU (rest.set (h' - 1).toNat (bU rest h').tail) h'=(bU rest h').tail:=by
      show (rest.set (h' - 1).toNat (bU rest h').tail).getD (h' - 1).toNat []=_
      rw [nn,wL hl]
      rfl
     rw [this,List.length_tail]
     omega
    ·have G:(h - 1).toNat≠(h' - 1).toNat:=by have:=R.1;omega
     have:bU (rest.set (h - 1).toNat (bU rest h).tail) h'=bU rest h':=by
      unfold bU
      rw [nn,List.getElem?_set_ne G,← nn]
     rw [this]
     split at I<;>omega
  | fix x=>exact q fun h z=>nomatch z
  | bye a x=>exact q fun h z=>nomatch z
  | sum a b=>exact q fun h z=>nomatch z
  | less a b=>exact q fun h z=>nomatch z
  | mul a b=>exact q fun h z=>nomatch z
  | anew a=>exact q fun h z=>nomatch z
  | opn a=>exact q fun h z=>nomatch z
 ·rcases vr.mp F with h | h
  ·exact S.fb x h
  ·have e:x=jh p rest fd s:=by simpa using h
   rw [e]
   exact J
 ·have go:=S.go
  rw [iZ hs,fE] at go
  exact go
theorem PlSt.fin {p n:Int}{ss:List Stp}{inp rest:List (List Int)}{fd:List Int} (S:PlSt p n ss inp ss.length rest fd):fd=aD p ss inp:=by
 have go:=S.go
 rw [List.drop_length] at go
 exact go
inductive oJ (vs:List V) (H:Hp) (Q:VK) (E_:XK):Prop
 | mk (a b:Addr) (p n:Int) (ws:List V) (ss:List Stp) (is:List Addr) (inp:List (List Int)) (h0_:vs=[.int p,.ref a,.ref b]) (h1_:(0<p∧p≤31)) (h2_:(0≤n∧n≤10)) (h3_:H a=some (.lst ws)) (h4_:StpsAt H ws ss) (h5_:ss.length≤100) (h6_:eF p n ss) (h7_:H b=some (.lst (is.map V.ref))) (h8_:InsAt H is inp) (h9_:InsOk p n ss inp) (h10_:ox H Q ((aD p ss inp).map V.int)):oJ vs H Q E_
theorem InsAt.get {H:Hp}{as:List Addr}{rs:List (List Int)}{i:Nat}{a:Addr} (h:InsAt H as rs) (e:as[i]?=some a):∃ r,rs[i]?=some r∧H a=some (.lst (r.map V.int)):=cX h e
theorem InsAt.put {H:Hp}:∀ {as:List Addr}{rs:List (List Int)}{i:Nat}{a:Addr}{r:List Int},InsAt H as rs→as.Nodup→as[i]?=some a→InsAt (L2.upd H a (.lst (r.map V.int))) as (rs.set i r)
 | _,_,_,_,_,.nil,_,e=>by simp at e
 | _,_,0,a,r,.cons z t,nd,e=>by
  simp at e
  subst e
  rw [wv] at nd
  exact .cons upd_same (InsAt.off t nd.1)
 | b::as,_,i+1,a,r,.cons z t,nd,e=>by
  rw [wv] at nd
  have e:as[i]?=some a:=by simpa using e
  exact .cons (by rw [az fun h=>nd.1 (by rw [h];exact u4 e)];exact z) (InsAt.put t nd.2 e)
theorem cW {as:List Addr}{i:Nat}{x:V} (h:(as.map V.ref)[i]?=some x):∃ a,x=.ref a∧as[i]?=some a:=by
 rw [u5] at h
 cases e:as[i]? with
 | none=>rw [e] at h;cases h
 | some v=>rw [e] at h;exact ⟨v,(vz h).symm,rfl⟩
theorem dr {fd:List Int}{a:Int} (h0:0≤a) (h1:a<fd.length):atI (fd.map V.int) a=some (.int (fd.getD a.toNat 0)):=by
 have hl:a.toNat<fd.length:=by omega
 have e:atI (fd.map V.int) ((a.toNat:Nat):Int)=some (.int (fd.getD a.toNat 0)):=kn (by rw [u5,nn,rz hl];rfl)
 rw [show ((a.toNat:Nat):Int)=a by omega] at e
 exact e
end Veil
namespace Veil
open PySem L2
def fS (n:Nat) (wo:List Int):List Int:=((List.range n).map fun i:Nat=>1+(i:Int)).filter fun h=>!decide (h∈wo)
theorem iY (k:Nat) (wo:List Int):fS (k+1) wo=fS k wo++(if (!decide (1+(k:Int)∈wo))=true then [1+(k:Int)] else []):=by
 unfold fS
 rw [← map_take,wG]
 congr 1
 simp only [wV,List.filter_nil]
theorem ur {n:Nat}{wo:List Int}:∀ h∈fS n wo,1≤h∧h≤n∧h∉wo:=fun h hm=>by
 unfold fS at hm
 obtain ⟨h1,h2⟩:=List.mem_filter.mp hm
 obtain ⟨i,hi,rfl⟩:=vP.mp h1
 have:=vH.mp hi
 exact ⟨by omega,by omega,by simpa using h2⟩
theorem kW:∀ (n:Nat) (wo:List Int),(fS n wo).Pairwise (·<·)
 | 0,_=>by simp [fS]
 | k+1,wo=>by
  rw [iY]
  refine List.pairwise_append.mpr ⟨kW k wo,by split<;>simp,fun a ha b hb=>?_⟩
  have h1:=ur a ha
  have e:b=1+(k:Int):=by
   split at hb
   ·simpa using hb
   ·simp at hb
  omega
theorem qj (n:Nat) (wo:List Int):(fS n wo).length≤n:=by
 unfold fS
 refine vG (List.length_filter_le _ _) ?_
 rw [lH,vo]
 exact va _
theorem ne_all {x:Int}:∀ L:List Int,x∉L→(L.filter fun h=>!decide (h=x))=L
 | [],_=>rfl
 | y::L,h=>by
  have h1:¬ y=x:=fun e=>h (by rw [e];exact vb)
  rw [wV,if_pos (by simp [h1]),ne_all L fun e=>h (vd _ e)]
theorem uc {x:Int}:∀ L:List Int,L.Nodup→L.length≤(L.filter fun h=>!decide (h=x)).length+1
 | [],_=>by simp
 | y::L,nd=>by
  rw [wv] at nd
  by_cases e:y=x
  ·subst e
   rw [wV,if_neg (by simp),ne_all L nd.1]
   simp
  ·have ih:=uc (x:=x) L nd.2
   rw [wV,if_pos (by simp [e]),vh,vh]
   omega
theorem j4 {L:List Int} (nd:L.Nodup):∀ wo:List Int,L.length≤(L.filter fun h=>!decide (h∈wo)).length+wo.length
 | []=>by
  rw [show (L.filter fun h=>!decide (h∈([]:List Int)))=L from List.filter_eq_self.mpr fun a _=>by simp]
  exact va _
 | x::wo=>by
  have F:=j4 nd wo
  have e:(L.filter fun h=>!decide (h∈x::wo))=(L.filter fun h=>!decide (h∈wo)).filter fun h=>!decide (h=x):=by
   rw [List.filter_filter]
   refine List.filter_congr fun h _=>?_
   by_cases h1:h=x<;>by_cases h2:h∈wo<;>simp [h1,h2]
  have q:(L.filter fun h=>!decide (h∈wo)).Nodup:=nd.sublist List.filter_sublist
  have:=uc (x:=x) _ q
  rw [e,vh]
  omega
theorem rO (n:Nat) (wo:List Int):n≤(fS n wo).length+wo.length:=by
 have nd:((List.range n).map fun i:Nat=>1+(i:Int)).Nodup:=List.pairwise_map.mpr ((List.nodup_range (n:=n)).imp fun {a b} h e=>h (by omega))
 have h:=j4 nd wo
 rw [lH,vo] at h
 exact h
structure uV (n f:Int) (wo some:List Int):Prop where
 rise:some.Pairwise (·<·)
 b:∀ h∈some,1≤h∧h≤n∧h∉wo
 few:(some.length:Int)≤f
inductive lI (C:Addr) (vs:List V) (H:Hp) (Q:VK) (E_:XK):Prop
 | mk (t a:Addr) (c p n f:Int) (wo:List Int) (h0_:vs=[.int c,.ref t,.ref a]) (h1_:TabAt C H t p n f) (h2_:(f=1∨f=2)) (h3_:(3≤n∧n≤10)) (h4_:2*f<n) (h5_:H a=some (.lst (wo.map V.int))) (h6_:wo.length≤2) (h7_:∀ d H' sm,Same H H'→H d=none→H' d=some (.lst (sm.map V.int))→uV n f wo sm→Q (.ref d) H'):lI C vs H Q E_
theorem int_at {xs:List Int}{k:Int} (h0:0≤k) (h1:k<xs.length):∃ x,xs[k.toNat]?=some x∧atI (xs.map V.int) k=some (.int x):=by
 have hl:k.toNat<xs.length:=by omega
 refine ⟨xs[k.toNat],rz hl,?_⟩
 have e:=dr (fd:=xs) h0 h1
 rw [nn,rz hl] at e
 exact e
end Veil
namespace Veil
open PySem L2
def gd (ss:List Stp) (inp oth:List (List Int)) (h:Int):Bool:=decide ((bU inp h).take (aS ss h)=(bU oth h).take (aS ss h))
def eA (p:Int) (ss:List Stp) (inp oth:List (List Int)) (k:Nat) (s:Stp):Bool:=!decide (s.word="open") || decide ((aD p ss inp).getD k 0=(aD p ss oth).getD k 0)
def dq (p:Int) (ss:List Stp) (inp oth:List (List Int)):List Stp→Nat→List Bool
 | [],_=>[]
 | s::r,k=>eA p ss inp oth k s::dq p ss inp oth r (k+1)
def kq (p:Int) (ss:List Stp) (inp oth:List (List Int)) (sm:List Int):Bool:=sm.all (gd ss inp oth) && (dq p ss inp oth ss 0).all id
theorem kT {p:Int}{ss:List Stp}{inp oth:List (List Int)}:∀ (r:List Stp) (k i:Nat) (s:Stp),r[i]?=some s→dq p ss inp oth (r.take (i+1)) k=dq p ss inp oth (r.take i) k++[eA p ss inp oth (k+i) s]
 | [],_,_,_,h=>by simp at h
 | x::r,k,0,s,h=>by
  have e:x=s:=by simpa using h
  subst e
  simp [dq]
 | x::r,k,i+1,s,h=>by
  have q:=kT (p:=p) (ss:=ss) (inp:=inp) (oth:=oth) r (k+1) i s (by simpa using h)
  rw [wJ,wJ,dq,dq,q,List.cons_append,show k+1+i=k+(i+1) by omega]
theorem ny {p:Int}{ss:List Stp}{inp oth:List (List Int)}:∀ (r:List Stp) (k:Nat),(dq p ss inp oth r k).length=r.length
 | [],_=>rfl
 | x::r,k=>by rw [dq,vh,vh,ny r]
theorem jU (p:Int):∀ (ss:List Stp) (rest:List (List Int)) (fd:List Int),(fE p ss rest fd).length=fd.length+ss.length
 | [],_,fd=>rfl
 | s::r,rest,fd=>by
  rw [fE,jU p r,u7,vh]
  simp
  omega
theorem jT (p:Int) (ss:List Stp) (inp:List (List Int)):(aD p ss inp).length=ss.length:=by
 unfold aD
 rw [jU]
 simp
inductive oP (vs:List V) (H:Hp) (Q:VK) (E_:XK):Prop
 | mk (a b d e:Addr) (p n:Int) (ws:List V) (ss:List Stp) (is os:List Addr) (inp oth:List (List Int)) (sm:List Int) (h0_:vs=[.int p,.ref a,.ref b,.ref d,.ref e]) (h1_:(0<p∧p≤31)) (h2_:(0≤n∧n≤10)) (h3_:H a=some (.lst ws)) (h4_:StpsAt H ws ss) (h5_:ss.length≤100) (h6_:eF p n ss) (h7_:H b=some (.lst (is.map V.ref))) (h8_:InsAt H is inp) (h9_:InsOk p n ss inp) (h10_:H d=some (.lst (os.map V.ref))) (h11_:InsAt H os oth) (h12_:InsOk p n ss oth) (h13_:H e=some (.lst (sm.map V.int))) (h14_:(∀ h∈sm,1≤h∧h≤n)) (h15_:cB H Q (.bl (kq p ss inp oth sm))):oP vs H Q E_
theorem gU {H:Hp}{is:List Addr}{inp:List (List Int)} (h:InsAt H is inp) {n x:Int} (hl:inp.length=n.toNat) (h1:1≤x) (h2:x≤n):∃ e,atI (is.map V.ref) (x - 1)=some (.ref e)∧is[(x - 1).toNat]?=some e∧H e=some (.lst ((bU inp x).map V.int)):=by
 have G:is.length=inp.length:=Paired.length h
 have F:(x - 1).toNat<is.length:=by omega
 refine ⟨is[(x - 1).toNat],?_,rz F,?_⟩
 ·have q:atI (is.map V.ref) (((x - 1).toNat:Nat):Int)=some (.ref is[(x - 1).toNat]):=kn (by rw [u5,rz F];rfl)
  rw [show (((x - 1).toNat:Nat):Int)=x - 1 by omega] at q
  exact q
 ·obtain ⟨r,hr,z⟩:=h.get (rz F)
  unfold bU
  rw [nn,hr]
  exact z
end Veil
namespace Veil
open PySem L2
theorem lD {ns:List Int}{st p n:Int}{k:Nat} (hp:0<p) (hn:0<n):eF p n (eG ns st k p n):=fun i s h=>by
 unfold eG at h
 rw [u5] at h
 by_cases hi:i<k
 ·rw [vN hi] at h
  have e:=vz h
  rw [← e]
  exact i9 hp hn (by omega)
 ·rw [vQ (by rw [vo];omega)] at h
  cases h
theorem jR {p n k:Int}{s:Stp} (r:s.Right p n k):(gF s).Right p n k:=by
 cases s<;>exact r
theorem nj {p n:Int}{ss:List Stp} (h:eF p n ss):eF p n (ss.map gF):=fun i s e=>by
 rw [u5] at e
 cases q:ss[i]? with
 | none=>rw [q] at e;cases e
 | some z =>
  rw [q] at e
  rw [← vz e]
  exact jR (h i z q)
theorem iL (h:Int):∀ ss:List Stp,aS (ss.map gF) h=aS ss h
 | []=>rfl
 | s::r=>by
  rw [vV,cm,cm,iL h r]
  congr 1
  cases s<;>simp [gF]
theorem pK (a b:List Stp) (h:Int):aS (a++b) h=aS a h+aS b h:=by
 unfold aS
 rw [wG,u7]
theorem nX (c p:Int) (ss:List Stp) (n:Nat):(bt c p ss n).length=n:=by
 unfold bt
 rw [lH,vo]
theorem ph {c p:Int}{ss:List Stp}{n:Nat}{h:Int} (h1:1≤h) (h2:h≤n):bU (bt c p ss n) h=inBy c p ss h:=by
 unfold bU bt
 rw [nn,u5,vN (by omega)]
 show inBy c p ss (1+((h - 1).toNat:Int))=_
 rw [show 1+((h - 1).toNat:Int)=h by omega]
theorem inBy_len {c p:Int}{ss:List Stp}{h:Int}:aS ss h≤(inBy c p ss h).length∧(inBy c p ss h).length≤ss.length+2:=by
 unfold inBy
 rw [lH,vo]
 have m0:=bR (c:=c) (k:=60+h) (show (0:Int)<2 by decide)
 have m1:=fJ (c:=c) (k:=60+h) (show (0:Int)<2 by decide)
 have:=lr ss h
 omega
theorem kf {c p n:Int}{ss:List Stp} (hp:0<p) (hn:0≤n):InsOk p n ss (bt c p ss n.toNat):=by
 refine ⟨nX _ _ _ _,fun r hr x hx=>?_,fun h h1 h2=>?_⟩
 ·unfold bt at hr
  obtain ⟨i,_,rfl⟩:=vP.mp hr
  unfold inBy at hx
  obtain ⟨k,_,rfl⟩:=vP.mp hx
  exact ⟨bR hp,fJ hp⟩
 ·rw [ph h1 (by omega)]
  exact inBy_len.1
theorem qi {rest:List (List Int)}{h h':Int}{r:List Int} (h1:1≤h) (h1':1≤h') (hl:(h - 1).toNat<rest.length):bU (rest.set (h - 1).toNat r) h'=if h'=h then r else bU rest h':=by
 unfold bU
 by_cases e:h'=h
 ·subst e
  rw [if_pos rfl,nn,wL hl]
  rfl
 ·rw [if_neg e,nn,List.getElem?_set_ne (by omega),← nn]
theorem InsOk.put {p n:Int}{ss:List Stp}{inp:List (List Int)} (O:InsOk p n ss inp) {h:Int} (h1:1≤h) (h2:h≤n) {r:List Int} (hb:∀ x∈r,0≤x∧x<p) (hl:aS ss h≤r.length):InsOk p n ss (inp.set (h - 1).toNat r):=by
 have I:(h - 1).toNat<inp.length:=by rw [O.len];omega
 refine ⟨by rw [List.length_set];exact O.len,fun J hr x F=>?_,fun h' q G=>?_⟩
 ·rcases vZ hr with e | e
  ·exact O.b J e x F
  ·rw [e] at F
   exact hb x F
 ·rw [qi h1 q I]
  split
  ·rename_i e
   rw [e]
   exact hl
  ·exact O.en h' q G
theorem InsOk.at {p n:Int}{ss:List Stp}{inp:List (List Int)} (O:InsOk p n ss inp) {h:Int} (h1:1≤h) (h2:h≤n):∀ x∈bU inp h,0≤x∧x<p:=O.b _ (iG (by rw [O.len];omega))
def uY (ss:List Stp) (one two:Int):Prop:=aS ss one ≥ (if one=two then 2 else 1)∧aS ss two ≥ (if one=two then 2 else 1)
theorem heads_of (one two:Int) (r:List Stp):uY (.ein one::.ein two::r) one two:=by
 unfold uY
 rw [cm,cm,cm,cm,if_pos rfl,if_pos (c:=Stp.ein two=Stp.ein two) rfl]
 by_cases e:one=two
 ·subst e
  rw [if_pos rfl,if_pos rfl]
  omega
 ·rw [if_neg e]
  refine ⟨by omega,by omega⟩
end Veil
namespace Veil
open PySem L2
theorem kR {α β:Type}{R:α→β→Prop}:∀ {a:List α}{b:List β} (i:Nat) {x:α}{y:β},Paired R a b→R x y→Paired R (a.set i x) (b.set i y)
 | _,_,_,_,_,.nil,_=>by simp only [List.set_nil];exact .nil
 | _,_,0,_,_,.cons _ t,h=>by simp only [List.set_cons_zero];exact .cons h t
 | _,_,i+1,_,_,.cons g t,h=>by simp only [List.set_cons_succ];exact .cons g (kR i t h)
theorem nM {α:Type}:∀ {as:List α} (i:Nat) {x:α},as.Nodup→x∉as→(as.set i x).Nodup
 | [],_,_,_,_=>by simp
 | a::as,0,x,nd,h=>by
  rw [List.set_cons_zero]
  rw [wv] at nd ⊢
  exact ⟨fun e=>h (vd _ e),nd.2⟩
 | a::as,i+1,x,nd,h=>by
  rw [List.set_cons_succ]
  rw [wv] at nd ⊢
  refine ⟨fun e=>?_,nM i nd.2 fun e=>h (vd _ e)⟩
  rcases vZ e with e | e
  ·exact nd.1 e
  ·exact h (by rw [e];exact vb)
def j6 (ns:List Int) (p n:Int) (k:Nat):List Stp:=(List.range k).map fun i:Nat=>dj (cg ns (10+(i:Int))) ((i:Int)+4) p n
def headL (way one two:Int):List Stp:=[.ein one,.ein two,if way=1 then .sum 0 1 else .mul 0 1,.opn 2]
theorem rM {ns:List Int}{p n way one two:Int}{k:Nat} (hp:0<p) (hn:0<n) (h1:1≤one∧one≤n) (h2:1≤two∧two≤n):eF p n (headL way one two++(j6 ns p n k).map gF):=fun i s h=>by
 match i,h with
 | 0,h=>rw [← vz h];exact h1
 | 1,h=>rw [← vz h];exact h2
 | 2,h =>
  have e:=vz h
  rw [← e]
  show Stp.Right p n 2 (if way=1 then .sum 0 1 else .mul 0 1)
  split<;>simp [Stp.Right]
 | 3,h =>
  rw [← vz h]
  simp [Stp.Right]
 | i+4,h =>
  have h:((j6 ns p n k).map gF)[i]?=some s:=by
   unfold headL at h
   simpa using h
  unfold j6 at h
  rw [u5,u5] at h
  by_cases hi:i<k
  ·rw [vN hi] at h
   rw [← vz h]
   have:=jR (i9 (c:=cg ns (10+(i:Int))) (at_:=(i:Int)+4) hp hn (by omega))
   rw [Int.natCast_add]
   exact this
  ·rw [vQ (by rw [vo];omega)] at h
   cases h
def JP1 (H:Hp) (p n:Int) (M:Nat) (a t:Addr) (m:Int) (way one two:Int) (σ:St) (H':Hp):Prop:=Same H H'∧∃ (sa wa:Addr) (ws:List V) (ss:List Stp) (wo:List Int) (v8:Option V),
 σ=[some (.ref a),some (.ref t),some (.int m),some (.int way),some (.int one),some (.int two),some (.ref sa),some (.ref wa),v8,none,none,none,none,none,none,none,none,none,none]∧H' sa=some (.lst ws)∧StpsAt H' ws ss∧(1≤ss.length∧ss.length≤M)∧eF p n ss∧H' wa=some (.lst (wo.map V.int))∧(wo=[]∨(wo=[one,two]∧uY ss one two))
def OthSt (H5 H':Hp) (p n:Int) (ss:List Stp) (oa:Addr):Prop:=Same H5 H'∧∃ (os:List Addr) (oth:List (List Int)),H' oa=some (.lst (os.map V.ref))∧os.Nodup∧oa∉os∧(∀ b∈os,H5 b=none)∧InsAt H' os oth∧InsOk p n ss oth∧∀ r∈oth,r.length≤200
theorem OthSt.on {H5 H H':Hp}{p n:Int}{ss:List Stp}{oa:Addr} (h:OthSt H5 H p n ss oa) (s:Same H H'):OthSt H5 H' p n ss oa:=by
 obtain ⟨s0,os,oth,h1,h2,h3,h4,h5,h6,h7⟩:=h
 exact ⟨s0.trans s,os,oth,s _ _ h1,h2,h3,h4,h5.same s,h6,h7⟩
theorem qb {H5 H:Hp}{p n:Int}{ss:List Stp}{oa:Addr} (st:OthSt H5 H p n ss oa) {h:Int} (h1:1≤h) (h2:h≤n) {j:Nat} (hj:j<aS ss h):∃ (e:Addr) (r:List Int) (os:List Addr),atI (os.map V.ref) (h - 1)=some (.ref e)∧H oa=some (.lst (os.map V.ref))∧H e=some (.lst (r.map V.int))∧j<r.length ∧
  ∀ v:Int,0≤v∧v<p→∀ k:Nat,OthSt H5 (L2.upd H e (.lst ((r.map V.int).set k (.int v)))) p n ss oa:=by
 obtain ⟨s0,os,oth,q,I,G,fr,F,ok,W⟩:=st
 obtain ⟨e,O,U,z⟩:=gU F ok.len h1 h2
 have en:=ok.en h h1 h2
 refine ⟨e,bU oth h,os,O,q,z,by omega,fun v Z k=>?_⟩
 have J:e∈os:=u4 U
 have R:oa≠e:=fun y=>G (by rw [y];exact J)
 rw [show ((bU oth h).map V.int).set k (.int v)=((bU oth h).set k v).map V.int by rw [List.map_set]]
 refine ⟨am s0 (fr e J),os,oth.set (h - 1).toNat ((bU oth h).set k v),by rw [az R];exact q,I,G,fr,InsAt.put F I U,ok.put h1 h2 (fun x Y=>?_) (by rw [List.length_set];exact en),fun r hr=>?_⟩
 ·rcases vZ Y with y | y
  ·exact ok.at h1 h2 x y
  ·rw [y]
   exact Z
 ·rcases vZ hr with y | y
  ·exact W r y
  ·rw [y,List.length_set]
   exact W _ (iG (by rw [ok.len];omega))
end Veil
namespace Veil
open PySem L2
end Veil
namespace L2
open PySem PySem.Spec PyProof.Rows
def KDict (P:Program) (w:World) (K:PySem.W.Frag) (a:Addr) (kvs:List (Key×V)):Prop:=(a == sysModules)=false∧∃ (o:Obj) (vs:List (Key×Value)),K.lookup a=some o∧o.IsDictOf (bN P w) vs∧KV kvs vs
def tKGet1 (P:Program) (w:World) (K:PySem.W.Frag) (td ty:TE):TE:=fun σ H Q=>td σ H fun x H1=>∃ a kvs,x=.ref a∧KDict P w K a kvs∧ty σ H1 fun y H2=>∃ k,y=kV k∧Q ((oE kvs k).getD .non) H2
theorem pe_kget1 {X:Cx}{o e:Expr}{td ty:TE}{apos cpos:Pos} (ho:PE X o td) (he:PE X e ty) (m:M1 X o "get" apos e cpos):PE X (.Call (.Attribute o "get" apos) [e] [] cpos) (tKGet1 X.prog X.w X.K td ty):=by
 intro pins s σ H Q I h
 refine wpAny_Call_method m.base m.few m.line PySem.F.plainAttrs_dict wN PySem.F.type_dict_get (thn (ho pins s σ H _ I h) fun u W ⟨x,H1,O,rx,a,kvs,ex,d,q1⟩=>?_)
 subst ex
 obtain rfl:u=Value.ref a:=rx
 obtain ⟨hd,G,vs,R,U,Z⟩:=d
 have dd:W.heap.DictOf (bN X.prog X.w) a vs:=Heap.dictOf_iff.mpr ⟨G,O.kIn a G R,U⟩
 refine ⟨dd.typeIs,fun b q=>?_,?_⟩
 ·cases q
  obtain ⟨es,ep,h2,_⟩:=U
  exact ⟨G,O.kIn a G R,h2.2.1⟩
 rw [m.trees]
 refine Calls.callWith_builtin rfl (Calls.evalArgs_plain (Calls.spliced_cons (thn (he pins W σ H1 _ O q1) fun iv s2 ⟨y,H2,Y,ry,k,ey,q2⟩=>Calls.spliced_nil ?_)))
 subst ey
 have J:s2.heap.DictOf (bN X.prog X.w) a vs:=Heap.dictOf_iff.mpr ⟨G,Y.kIn a G R,U⟩
 refine call_meetsIn wN J.typeIs PySem.F.entry_dict_get (PySem.F.args_dict_get_2 _ _) (meets_dict_get (bN X.prog X.w) a (kV_is ry) hd) ⟨_,J.mapOf,_,H2,Y.tok _,?_,q2⟩
 exact (Z.val k).getD rfl
theorem Ok.calm {P:Program}{w:World}{K:PySem.W.Frag}{mg:Str→Option Value}{base:Heap}{x:Str}{ps:List Str}{sp:Sp}{k:Nat} (O:Ok P w K mg base (CXE P w) k x ps sp):Ok P w K mg base CX0 k x ps (fun vs H Q _=>sp vs H Q E0):=by
 obtain ⟨f,fd,⟨F,run⟩,hb,m⟩:=O
 refine ⟨f,fd,⟨fun vs H Q E h=>F vs H Q E0 h,fun A outer s H args R vs Q E hr J I r q=>?_⟩,hb,m⟩
 refine codeAny_mono (run A outer s H args R vs Q E0 hr J I r q) fun r s' G=>?_
 cases r with
 | error e =>
  obtain ⟨_,_,_,_,_,_,_,_,z⟩:=G
  exact z.elim
 | ok fl=>cases fl<;>exact G
end L2
namespace L2
open PySem PySem.Spec PyProof.Rows
def Fed (b:Bool) (h:Heap) (it l:Addr) (i:Nat):Prop:=if b=true then h.IsTupleIter it l i else h.IsListIter it l i
def Bas (b:Bool) (h:Heap) (l:Addr) (xs:Array Value):Prop:=if b=true then h.IsTuple l xs else h.IsList l xs
theorem Fed.ext {b:Bool}{h h':Heap}{it l c:Addr}{i:Nat} (x:Fed b h it l i) (hs:Heap.ExtBut c h h') (n:it≠c):Fed b h' it l i:=by
 cases b
 ·exact Heap.IsListIter.extBut (show h.IsListIter it l i from x) hs n
 ·exact Heap.IsTupleIter.extBut (show h.IsTupleIter it l i from x) hs n
theorem Bas.ext {b:Bool}{h h':Heap}{l c:Addr}{xs:Array Value} (x:Bas b h l xs) (hs:Heap.ExtBut c h h') (n:l≠c):Bas b h' l xs:=by
 cases b
 ·exact Heap.IsList.extBut (show h.IsList l xs from x) hs n
 ·exact Heap.IsTuple.extBut (show h.IsTuple l xs from x) hs n
theorem Fed.obj {b:Bool}{h:Heap}{it l:Addr}{i:Nat} (x:Fed b h it l i):∃ o,h.get? it=some o∧(∃ vs,o.data=.fields vs)∧∀ h':Heap,h'.get? it=some o→Fed b h' it l i:=by
 cases b
 ·obtain ⟨o,e,c,d⟩:=(show h.IsListIter it l i from x)
  exact ⟨o,e,⟨_,d⟩,fun h' e'=>⟨o,e',c,d⟩⟩
 ·obtain ⟨o,e,c,d⟩:=(show h.IsTupleIter it l i from x)
  exact ⟨o,e,⟨_,d⟩,fun h' e'=>⟨o,e',c,d⟩⟩
section
variable {prog:Program}{w:World}{A:Around}{E:Value→Shared→Prop}{s:Shared}
theorem rD {it t:Addr}{i:Nat}{items:Array Value}{x:Value}{Q:Value→Shared→Prop} (hit:s.heap.IsTupleIter it t i) (ht:s.heap.IsTuple t items) (hx:items[i]?=some x)
  (hQ:∀ h',h'.IsTupleIter it t (i+1)→Heap.SameBut it s.heap h'→Q x { s with heap:=h' }):wpAny (model prog w) A (Builtin.SmallTypes.nextOf (.ref it)) Q E s:=by
 obtain ⟨o,G,I,q⟩:=id hit
 obtain ⟨R,O,_,U,J⟩:=ht
 unfold Builtin.SmallTypes.nextOf
 refine wpAny_bind (wpAny_callSpecial?_slot (name:=Str.ofString "__next__") hit.typeIs F.slot_tuple_iterator_next (wpAny_call_entry F.slot_tuple_iterator_next hit.typeIs F.entry_tuple_iterator_next ?_ (F.args_tuple_iterator_next_1 _)))
 (show wpAny _ _ (field (.ref it) 0 >>= _) _ _ s);refine wpAny_bind (wpAny_field G q (x:=.ref t) rfl ?_)
 (show wpAny _ _ (if (Value.ref t == Value.none)=true then _ else _) _ _ s);rw [if_neg (show ¬ ((Value.ref t == Value.none)=true) from vt)]
 (show wpAny _ _ (field (.ref it) 1 >>= _) _ _ s);refine wpAny_bind (wpAny_field G q (x:=.int i 0) rfl ?_)
 (show wpAny _ _ (seqItems? (.ref t) >>= _) _ _ s);refine wpAny_bind (wpAny_seqItems O J ?_)
 simp only [Int.toNat_natCast,hx]
 refine wpAny_bind (wpAny_setField G q (by simp) (wpAny_pure ⟨x,rfl,wpAny_pure (hQ _ ?_ (Heap.SameBut.update ..))⟩))
 exact ⟨_,Heap.get?_update_self _ G (Obj.isFreed_of_fields (Obj.data_mapFields q _)),(Obj.cls_mapFields ..).trans I,by rw [Obj.data_mapFields q];simp [rawInt]⟩
theorem t0 {it t:Addr}{i:Nat}{items:Array Value}{Q:Value→Shared→Prop} (hh:A.handled=none) (hit:s.heap.IsTupleIter it t i) (ht:s.heap.IsTuple t items) (hx:items[i]?=none)
  (hE:∀ h' e,Heap.ExtBut it s.heap h'→(∃ o,h'.get? e=some o∧o.cls=.type "StopIteration")→E (.ref e) { s with heap:=h' }):wpAny (model prog w) A (Builtin.SmallTypes.nextOf (.ref it)) Q E s:=by
 obtain ⟨o,G,R,q⟩:=id hit
 obtain ⟨O,J,_,U,I⟩:=ht
 unfold Builtin.SmallTypes.nextOf
 refine wpAny_bind (wpAny_callSpecial?_slot (name:=Str.ofString "__next__") hit.typeIs F.slot_tuple_iterator_next (wpAny_call_entry F.slot_tuple_iterator_next hit.typeIs F.entry_tuple_iterator_next ?_ (F.args_tuple_iterator_next_1 _)))
 (show wpAny _ _ (field (.ref it) 0 >>= _) _ _ s);refine wpAny_bind (wpAny_field G q (x:=.ref t) rfl ?_)
 (show wpAny _ _ (if (Value.ref t == Value.none)=true then _ else _) _ _ s);rw [if_neg (show ¬ ((Value.ref t == Value.none)=true) from vt)]
 (show wpAny _ _ (field (.ref it) 1 >>= _) _ _ s);refine wpAny_bind (wpAny_field G q (x:=.int i 0) rfl ?_)
 (show wpAny _ _ (seqItems? (.ref t) >>= _) _ _ s);refine wpAny_bind (wpAny_seqItems J I ?_)
 simp only [Int.toNat_natCast,hx]
 refine wpAny_bind (wpAny_rule (wpAny_bind (wpAny_setField G q (by simp) ?_)))
 (show wpAny _ _ (newExc (.type "StopIteration") [] >>= _) _ _ _);refine wpAny_bind ?_
 simp only [newExc,newTuple]
 refine wpAny_bind (wpAny_newObj_type ?_ (by size_fits));refine wpAny_bind (m:=firstArgMember _ _) (wpAny_of_eq (a:=Value.none) (by first | rfl | (simp only [firstArgMember];rfl)) ?_)
 refine wpAny_newObj_type ?_ (by size_fits);simp only [raiseNew]
 refine wpAny_bind (wpAny_handled ?_);first | rw [show A.in1.handled=none from hh] | rw [hh]
 refine wpAny_bind (wpAny_pure (wpAny_throw ?_));exact hE _ _ (((Heap.SameBut.update ..).extBut.push _).push _) ⟨_,Heap.get?_push_size _ rfl,rfl⟩
theorem tZ {b:Bool}{it t:Addr}{i:Nat}{items:Array Value}{x:Value}{Q:Value→Shared→Prop} (hit:Fed b s.heap it t i) (ht:Bas b s.heap t items) (hx:items[i]?=some x)
  (hQ:∀ h',Fed b h' it t (i+1)→Heap.SameBut it s.heap h'→Q x { s with heap:=h' }):wpAny (model prog w) A (Builtin.SmallTypes.nextOf (.ref it)) Q E s:=by
 cases b
 ·exact wpAny_nextOf_list_item (show s.heap.IsListIter it t i from hit) (show s.heap.IsList t items from ht) hx hQ
 ·exact rD (show s.heap.IsTupleIter it t i from hit) (show s.heap.IsTuple t items from ht) hx hQ
theorem next_end {b:Bool}{it t:Addr}{i:Nat}{items:Array Value}{Q:Value→Shared→Prop} (hh:A.handled=none) (hit:Fed b s.heap it t i) (ht:Bas b s.heap t items) (hx:items[i]?=none)
  (hE:∀ h' e,Heap.ExtBut it s.heap h'→(∃ o,h'.get? e=some o∧o.cls=.type "StopIteration")→E (.ref e) { s with heap:=h' }):wpAny (model prog w) A (Builtin.SmallTypes.nextOf (.ref it)) Q E s:=by
 cases b
 ·exact wpAny_nextOf_list_end hh (show s.heap.IsListIter it t i from hit) (show s.heap.IsList t items from ht) hx hE
 ·exact t0 hh (show s.heap.IsTupleIter it t i from hit) (show s.heap.IsTuple t items from ht) hx hE
end
end L2
namespace L2
open PySem PySem.Spec PyProof.Rows
def i5 (xs:Array Value):Obj:={ cls:=.type "tuple",data:=.seq xs }
def Feeds (h:Heap) (ss:List (Bool×Addr)) (is:List Addr) (k j:Nat):Prop:=∀ (i:Nat) (q:Bool×Addr) (it:Addr),ss[i]?=some q→is[i]?=some it→Fed q.1 h it q.2 (if i<j then k+1 else k)
def Bases (h:Heap) (ss:List (Bool×Addr)) (xss:List (Array Value)):Prop:=∀ (i:Nat) (q:Bool×Addr) (xs:Array Value),ss[i]?=some q→xss[i]?=some xs→Bas q.1 h q.2 xs
def Keeps (z TO:Addr) (is:List Addr) (h h':Heap):Prop:=∀ c o,c≠z→c≠TO→c∉is→h.get? c=some o→h'.get? c=some o
structure ZAp (z TI TO:Addr) (ss:List (Bool×Addr)) (is:List Addr):Prop where
 nd:is.Nodup
 tz:TI≠z
 oz:TO≠z
 to:TI≠TO
 iz:∀ i∈is,i≠z∧i≠TI∧i≠TO
 src:∀ q∈ss,q.2≠z∧q.2≠TO∧q.2∉is
theorem nd_get {is:List Addr} (h:is.Nodup) {i j:Nat}{a b:Addr} (e1:is[i]?=some a) (e2:is[j]?=some b) (ne:i≠j):a≠b:=fun e=>by
 subst e
 obtain ⟨l1,r1⟩:=u3.mp e1
 obtain ⟨l2,r2⟩:=u3.mp e2
 have hp:=List.pairwise_iff_getElem.mp h
 rcases Nat.lt_or_gt_of_ne ne with g | g
 ·exact hp i j l1 l2 g (r1.trans r2.symm)
 ·exact hp j i l2 l1 g (r2.trans r1.symm)
section
variable {prog:Program}{w:World}{A:Around}{E:Value→Shared→Prop}{s:Shared}
theorem su {z TI TO:Addr}{ss:List (Bool×Addr)}{is:List Addr}{k:Nat}{arr:Array Value}{xss:List (Array Value)}{Q:Value→Shared→Prop} (hh:A.handled=none) (D:ZAp z TI TO ss is)
  (ne:is≠[]) (hn:is.length≤100) (l1:ss.length=is.length) (l2:xss.length=is.length) (l3:arr.size=is.length)
  (hz:IsZip s.heap z TI TO .none) (hTI:s.heap.get? TI=some (i5 (is.map Value.ref).toArray)) (hTO:s.heap.get? TO=some (i5 arr))
  (hf:Feeds s.heap ss is k 0) (hb:Bases s.heap ss xss)
  (hQ:∀ (h':Heap) (ys:List Value),ys.length=is.length→(∀ (i:Nat) xs y,xss[i]?=some xs→ys[i]?=some y→xs[k]?=some y)→IsZip h' z TI TO (rawInt s.heap.objs.size)→(∃ arr',h'.get? TO=some (i5 arr')∧arr'.size=is.length) →
   Feeds h' ss is (k+1) 0→h'.get? s.heap.objs.size=some (i5 ys.toArray)→h'.objs.size=s.heap.objs.size+1→Keeps z TO is s.heap h'→Q (.ref s.heap.objs.size) { s with heap:=h' })
  (hE:(∃ (i:Nat) (xs:Array Value),xss[i]?=some xs∧xs[k]?=none)→∀ h' e,Keeps z TO is s.heap h'→(∃ o,h'.get? e=some o∧o.cls=.type "StopIteration")→E (.ref e) { s with heap:=h' }) :
  wpAny (model prog w) A (Builtin.«zip.__next__» ⟨[.ref z],[]⟩) (fun fin s'=>∃ v,fin=.done (.ret v)∧Q v s') E s:=by
 (show wpAny _ _ (field (.ref z) 2 >>= _) _ _ _);refine wpAny_bind (wpAny_field hz rfl (x:=.bool false) rfl ?_)
 (show wpAny _ _ (field (.ref z) 3 >>= _) _ _ _);refine wpAny_bind (wpAny_field hz rfl (x:=.ref TI) rfl (wpAny_bind (wpAny_seqItems hTI rfl ?_)))
 have cp:(is.map Value.ref).toArray.isEmpty=false:=by
  cases is with
  | nil=>exact absurd rfl ne
  | cons a r=>rfl
 simp only [cp,Bool.false_eq_true,if_false]
 refine wpAny_bind ?_
 unfold Builtin.SmallTypes.ownedTupleIsFree
 refine wpAny_bind (wpAny_field hz rfl (x:=.none) rfl (wpAny_pure ?_));simp only [if_true]
 refine wpAny_bind (wpAny_rule ?_);refine wpAny_bind (wpAny_field hz rfl (x:=.ref TO) rfl ?_)
 refine wpAny_bind (wpAny_setField_rec hz (by simp) fun h1 a5 W=>?_)
 have a5:IsZip h1 z TI TO .ellipsis:=a5
 refine wpAny_bind ?_
 refine wpAny_forIn_list _ (fun rest r s'=>r.1=none∧∃ (j:Nat) (h:Heap) (ys:List Value) (arr':Array Value),rest=((is.map Value.ref).zipIdx).drop j∧j≤is.length∧s'={ s with heap:=h }∧h.objs.size=s.heap.objs.size∧IsZip h z TI TO .ellipsis ∧
   h.get? TO=some (i5 arr')∧arr'.size=is.length∧ys.length=j∧arr'.toList.take j=ys∧(∀ (i:Nat) xs y,xss[i]?=some xs→ys[i]?=some y→xs[k]?=some y)∧Feeds h ss is k j∧Bases h ss xss∧Keeps z TO is s.heap h) _ ?_ ?_ _ _ ⟨rfl,0,h1,[],arr,by rw [wW],vk _,rfl,W.1,a5,W.extBut _ _ D.oz hTO,l3,rfl,rfl,(fun i xs y _ e=>by simp at e),?_,?_,?_⟩
 ·rintro x rest r s' ⟨hr,j,h,ys,arr',er,hj,es,sz,Z,O,la,ly,ty,vy,fe,ba,kp⟩
  subst es
  have as:((is.map Value.ref).zipIdx)[j]?=some x:=by
   have:=congrArg (fun l=>l[0]?) er
   simpa using this.symm
  have be:rest=((is.map Value.ref).zipIdx).drop (j+1):=by
   have:=congrArg List.tail er
   simpa using this
  have R:j<is.length:=by
   have:=(u3.mp as).1
   simpa using this
  obtain ⟨F,Y⟩:∃ F,is[j]?=some F:=⟨_,rz R⟩
  obtain ⟨q,hq⟩:∃ q,ss[j]?=some q:=⟨_,rz (by omega)⟩
  obtain ⟨xs,a3⟩:∃ xs,xss[j]?=some xs:=⟨_,rz (by omega)⟩
  have hx:x=(Value.ref F,j):=by
   rw [List.getElem?_zipIdx,u5,Y] at as
   simpa using as.symm
  subst hx
  have hm:F∈is:=u4 Y
  have hF:=fe j q F hq Y
  rw [if_neg (Nat.lt_irrefl j)] at hF
  have hB:=ba j q xs hq a3
  dsimp only
  refine wpAny_bind (wpAny_onRaise ?_)
  (show wpAny _ _ (Builtin.SmallTypes.nextOf (.ref F) >>= _) _ _ _);refine wpAny_bind ?_
  cases hv:xs[k]? with
  | none =>
   refine next_end hh hF hB hv fun h2 e I he=>?_
   obtain ⟨oe,a1,bm⟩:=he
   have z2:IsZip h2 z TI TO .ellipsis:=I _ _ (D.iz F hm).1.symm Z
   have cs:e≠z:=fun x=>by subst x;rw [z2] at a1;cases a1;simp at bm
   refine wpAny_setField_rec z2 (by simp) fun h3 _ G=>hE ⟨j,xs,a3,hv⟩ h3 e (fun c o J c2 U x=>G.extBut _ _ J (I _ _ (fun z=>U (by rw [z];exact hm)) (kp c o J c2 U x))) ⟨oe,G.extBut _ _ cs a1,bm⟩
  | some y =>
   refine tZ hF hB hv fun h2 f2 I=>wpAny_pure ?_
   have t2:h2.get? TO=some (i5 arr'):=I.extBut _ _ (D.iz F hm).2.2.symm O
   refine wpAny_bind (wpAny_seqItems t2 rfl ?_)
   refine wpAny_bind (wpAny_updateSeq t2 rfl ?_ (by rw [la];exact Veil.small (by omega)) (by rw [Array.size_setIfInBounds,la];exact Nat.le_succ_of_le (Veil.small (by omega))))
   have G:Heap.SameBut TO h2 (h2.update TO (Obj.mapSeq fun ab=>ab.setIfInBounds j y)):=Heap.SameBut.update ..
   have t3:(h2.update TO (Obj.mapSeq fun ab=>ab.setIfInBounds j y)).get? TO=some (i5 (arr'.setIfInBounds j y)):=by
    rw [Heap.get?_update_self _ t2 rfl]
    simp [Obj.mapSeq,i5]
   generalize h2.update TO (Obj.mapSeq fun ab=>ab.setIfInBounds j y)=h3 at G t3
   refine wpAny_bind (wpAny_letGo (wpAny_pure ⟨rfl,j+1,h3,ys++[y],arr'.setIfInBounds j y,be,R,rfl,?_,?_,t3,?_,?_,?_,?_,?_,?_,?_⟩))
   ·rw [G.1,I.1,sz]
   ·exact G.extBut _ _ D.oz.symm (I.extBut _ _ (D.iz F hm).1.symm Z)
   ·rw [Array.size_setIfInBounds,la]
   ·rw [u7,ly];rfl
   ·rw [Array.toList_setIfInBounds,vn,List.take_set_of_le (va j),ty,wL (by rw [wg,la];exact R)]
    rfl
   ·intro i a2 y' h1 h2
    rcases Nat.lt_trichotomy i j with g | g | g
    ·rw [vS (by omega)] at h2
     exact vy i a2 y' h1 h2
    ·subst g
     rw [← ly,List.getElem?_concat_length] at h2
     rw [a3] at h1
     cases h1
     cases h2
     exact hv
    ·rw [vQ (by rw [u7,ly];simp;omega)] at h2
     cases h2
   ·intro i q' bx h1 h2
    by_cases g:i=j
    ·subst g
     rw [hq] at h1
     rw [Y] at h2
     cases h1
     cases h2
     rw [if_pos (Nat.lt_succ_self i)]
     exact f2.ext G.extBut (D.iz F hm).2.2
    ·have:=fe i q' bx h1 h2
     rw [show (if i<j+1 then k+1 else k)=(if i<j then k+1 else k) by
      by_cases g2:i<j
      ·rw [if_pos g2,if_pos (by omega)]
      ·rw [if_neg g2,if_neg (by omega)]]
     exact (this.ext I.extBut (nd_get D.nd h2 Y g)).ext G.extBut (D.iz bx (u4 h2)).2.2
   ·intro i q' a2 h1 h2
    have bz:=D.src q' (u4 h1)
    exact ((ba i q' a2 h1 h2).ext I.extBut (fun z=>bz.2.2 (by rw [z];exact hm))).ext G.extBut bz.2.1
   ·exact fun c o J c2 U e=>G.extBut _ _ c2 (I.extBut _ _ (fun z=>U (by rw [z];exact hm)) (kp c o J c2 U e))
 ·rintro r s' ⟨hr,j,h,ys,arr',er,hj,es,sz,Z,O,la,ly,ty,vy,fe,ba,kp⟩
  subst es
  have R:j=is.length:=by
   have:=congrArg List.length er
   simp at this
   omega
  have ea:arr'.toList=ys:=by
   rw [← ty,vi (by rw [wg,la];omega)]
  obtain ⟨r1,r2⟩:=r
  cases (show r1=none from hr)
  dsimp only
  refine wpAny_bind (wpAny_seqItems O rfl ?_)
  refine wpAny_bind (wpAny_newTuple ?_ (by rw [wg,la];exact Veil.small (by omega)))
  have a4:z<h.objs.size:=Heap.lt_size Z
  (show wpAny _ _ (Builtin.SmallTypes.ownedTupleHandOut (.ref z) (.ref h.objs.size) >>= _) _ _ _);refine wpAny_bind ?_
  unfold Builtin.SmallTypes.ownedTupleHandOut
  have z6:IsZip (h.push (i5 arr'.toList.toArray)) z TI TO .ellipsis:=Heap.get?_push_of_some _ Z
  refine wpAny_bind (wpAny_setField_rec z6 (by simp) fun h7 z7 s7=>?_)
  have z7:IsZip h7 z TI TO (rawInt h.objs.size):=z7
  refine wpAny_setField_rec z7 (by simp) fun h8 z8 s8=>?_
  have z8:IsZip h8 z TI TO (rawInt h.objs.size):=z8
  have up:∀ c o,c≠z→h.get? c=some o→h8.get? c=some o:=fun c o J e=>s8.extBut _ _ J (s7.extBut _ _ J (Heap.get?_push_of_some _ e))
  have t8:h8.get? h.objs.size=some (i5 ys.toArray):=by
   rw [← ea]
   exact s8.extBut _ _ (Nat.ne_of_gt a4) (s7.extBut _ _ (Nat.ne_of_gt a4) (Heap.get?_push_size _ rfl))
  have n8:h8.objs.size=h.objs.size+1:=by rw [s8.1,s7.1,Heap.size_push]
  rw [sz] at z8 t8 n8
  refine wpAny_pure ⟨_,rfl,?_⟩
  show Q (.ref h.objs.size) _
  rw [sz]
  refine hQ h8 ys (by omega) vy z8 ⟨arr',up _ _ D.oz O,la⟩ ?_ t8 n8 fun c o J c2 U e=>up c o J (kp c o J c2 U e)
  intro i q F h1 h2
  have:=fe i q F h1 h2
  rw [if_pos (by rw [R];exact (u3.mp h2).1)] at this
  rw [if_neg (wF i)]
  obtain ⟨o,eo,_,kk⟩:=this.obj
  exact kk h8 (up _ _ (D.iz F (u4 h2)).1 eo)
 ·intro i q F an al
  exact (hf i q F an al).ext W.extBut (D.iz F (u4 al)).1
 ·intro i q xs an al
  exact (hb i q xs an al).ext W.extBut (D.src q (u4 an)).1
 ·exact fun c o J c2 U e=>W.extBut _ _ J e
end
end L2
namespace L2
open PySem PySem.Spec PyProof.Rows
def SqS (K:PySem.W.Frag) (H:Hp) (q:Bool×Addr) (xs:List V):Prop:=if q.1=true then SqT K H q.2 xs else SqL K H q.2 xs
def Itn (K:PySem.W.Frag) (ss:List (Bool×Addr)):It :=
  ⟨fun i H=>∃ xss ys,Paired (SqS K H) ss xss∧Paired (fun (xs:List V) y=>xs[i]?=some y) xss ys,
   fun i H v H'=>∃ p,H p=none∧v=.ref p∧∀ xss ys,Paired (SqS K H) ss xss→Paired (fun (xs:List V) y=>xs[i]?=some y) xss ys→H'=upd H p (.tup ys),
   fun i H=>∃ xss,Paired (SqS K H) ss xss∧∃ xs∈xss,xs.length≤i⟩
section
variable {X:Cx}{pins:List (Addr×Obj)}{σ:St}{H:Hp}{s:Shared}
theorem Inv.sqs (I:Inv X pins σ H s) {q:Bool×Addr}{xs:List V} (h:SqS X.K H q xs):∃ its:List Value,Vals xs its∧Bas q.1 s.heap q.2 its.toArray∧xs.length≤sizeLine:=by
 obtain ⟨b,a⟩:=q
 cases b
 ·obtain ⟨its,r,p,z⟩:=I.list (show SqL X.K H a xs from h)
  exact ⟨its,r,p.isList,z⟩
 ·obtain ⟨its,r,p,z⟩:=I.tuple (show SqT X.K H a xs from h)
  exact ⟨its,r,p,z⟩
theorem Inv.sqs_inj (I:Inv X pins σ H s) {q:Bool×Addr}{xs ys:List V} (h:SqS X.K H q xs) (h':SqS X.K H q ys):xs=ys:=by
 obtain ⟨b,a⟩:=q
 cases b
 ·exact I.list_inj (show SqL X.K H a xs from h) h'
 ·obtain ⟨J,r,⟨o,e,_,n,d⟩,_⟩:=I.tuple (show SqT X.K H a xs from h)
  obtain ⟨G,O,⟨o',R,_,U,F⟩,_⟩:=I.tuple (show SqT X.K H a ys from h')
  rw [e] at R
  cases R
  rw [d] at F
  injection F with F _
  have:J=G:=by simpa using F
  rw [← this] at O
  exact r.inj O
theorem cP {α β:Type}{R:α→β→Prop}{a:List α}{b:List β} (h:Paired R a b) {i:Nat}{x:α}{y:β} (ex:a[i]?=some x) (ey:b[i]?=some y):R x y:=by
 induction h generalizing i with
 | nil=>simp at ex
 | cons r t ih =>
  cases i with
  | zero =>
   simp at ex ey
   rw [← ex,← ey]
   exact r
  | succ j=>exact ih (by simpa using ex) (by simpa using ey)
theorem Inv.srcs (I:Inv X pins σ H s):∀ {ss:List (Bool×Addr)}{xss:List (List V)},Paired (SqS X.K H) ss xss→∃ vss:List (List Value),Paired Vals xss vss∧Bases s.heap ss (vss.map List.toArray)
 | _,_,.nil=>⟨[],.nil,fun i q xs e _=>by simp at e⟩
 | _,_,.cons h t=>by
  obtain ⟨J,r,b,_⟩:=I.sqs h
  obtain ⟨vss,p,bs⟩:=Inv.srcs I t
  refine ⟨J::vss,.cons r p,fun i q xs F G=>?_⟩
  cases i with
  | zero =>
   simp at F G
   rw [← F,← G]
   exact b
  | succ j=>exact bs j q xs (by simpa using F) (by simpa using G)
end
theorem jW {α β:Type}{R:α→β→Prop}:∀ {a:List α}{b:List β},a.length=b.length→(∀ (i:Nat) x y,a[i]?=some x→b[i]?=some y→R x y)→Paired R a b
 | [],[],_,_=>.nil
 | x::a,y::b,hl,h=>.cons (h 0 x y rfl rfl) (jW (by simpa using hl) fun i u v e1 e2=>h (i+1) u v (by simpa using e1) (by simpa using e2))
 | [],_::_,hl,_=>by simp at hl
 | _::_,[],hl,_=>by simp at hl
theorem sJ {P:Program}{w:World}{K:PySem.W.Frag}{elts:List Expr}{k1:Nat}{tp:Pos} (z TI TO:Addr) (ss:List (Bool×Addr)) (is:List Addr) (D:ZAp z TI TO ss is) (ne:is≠[]) (hn:is.length≤100) (l1:ss.length=is.length) :
  Turn P w K (.Tuple elts k1 tp) (Itn K ss) (z::TI::TO::is) z (fun i h=>IsZip h z TI TO .none∧h.get? TI=some (i5 (is.map Value.ref).toArray)∧(∃ arr,h.get? TO=some (i5 arr)∧arr.size=is.length)∧Feeds h ss is i 0) where
 mem:=by simp
 obj:=fun i h st c hb=>by
  obtain ⟨Z,s2,⟨arr,s3,_⟩,s4⟩:=st
  rcases u8.mp hb with r | hb
  ·exact ⟨_,by rw [r];exact Z,fun v z=>by cases z⟩
  rcases u8.mp hb with r | hb
  ·exact ⟨_,by rw [r];exact s2,fun v z=>by cases z⟩
  rcases u8.mp hb with r | hb
  ·exact ⟨_,by rw [r];exact s3,fun v z=>by cases z⟩
  obtain ⟨j,hj⟩:=vU hb
  obtain ⟨q,hq⟩:∃ q,ss[j]?=some q:=⟨_,rz (by rw [l1];exact (u3.mp hj).1)⟩
  obtain ⟨o,eo,⟨vs,ed⟩,_⟩:=(s4 j q c hq hj).obj
  exact ⟨o,eo,fun v z=>by rw [ed] at z;cases z⟩
 keep:=fun i h h' st k=>by
  obtain ⟨Z,s2,⟨arr,s3,an⟩,s4⟩:=st
  refine ⟨k z (by simp) _ Z,k TI (by simp) _ s2,⟨arr,k TO (by simp) _ s3,an⟩,fun j q it Y O=>?_⟩
  obtain ⟨o,eo,_,kk⟩:=(s4 j q it Y O).obj
  exact kk h' (k it (by simp [u4 O]) o eo)
 item:=by
  intro X hP hw hK hc i pins s σ H E I hf st hg
  subst hP hw hK
  obtain ⟨R,ys,hs,hy⟩:=hg
  obtain ⟨Z,s2,⟨arr,s3,an⟩,s4⟩:=st
  obtain ⟨U,pv,bs⟩:=I.srcs hs
  have lx:R.length=is.length:=by rw [← l1];exact (Paired.length hs).symm
  have lv:U.length=is.length:=by rw [← lx];exact (Paired.length pv).symm
  have ly:ys.length=is.length:=by rw [← lx];exact (Paired.length hy).symm
  have hT:s.TypeIs (.ref z) "zip":=⟨_,Z,rfl⟩
  have lt:∀ {c:Addr}{o:Obj},s.heap.get? c=some o→s.heap.objs.size≠c:=fun e=>Nat.ne_of_gt (Heap.lt_size e)
  unfold pyNext
  refine wpAny_bind (wpAny_attempt (wpAny_callSpecial?_slot (name:=Str.ofString "__next__") hT F.slot_zip_next (wpAny_call_entry F.slot_zip_next hT F.entry_zip_next ?_ (F.args_zip_next_1 _))))
  refine su (I.ok.hd hc) D ne hn l1 (by rw [lH];exact lv) an Z s2 s3 s4 bs (fun h' us lu hu a1 a2 a3 a4 a5 a7=>wpAny_pure ?_) (fun ⟨j,xs,Y,O⟩=>?_)
  ·refine ⟨_,rfl,?_⟩
   refine wpAny_letOwnedTupleGo_zip (s:={ s with heap:=h' }) a1 fun h2 c0 a6=>?_
   have kk:∀ c o,c∉z::TO::is→s.heap.get? c=some o→h2.get? c=some o:=fun c o G e=>by
    simp only [u8,not_or] at G
    exact (a6.2 c G.1).trans (a7 c o G.1 G.2.1 G.2.2 e)
   have pT:h2.get? s.heap.objs.size=some (i5 us.toArray):=(a6.2 _ (lt Z)).trans a4
   have b3:Vals ys us:=jW (by omega) fun j y u Y O=>by
    have hj:j<is.length:=by rw [← lu];exact (u3.mp O).1
    obtain ⟨xs,J⟩:∃ xs,R[j]?=some xs:=⟨_,rz (by omega)⟩
    obtain ⟨vs,hv⟩:∃ vs,U[j]?=some vs:=⟨_,rz (by omega)⟩
    have r:=cP pv J hv
    have r1:xs[i]?=some y:=cP hy J Y
    have r2:=hu j vs.toArray u (by rw [u5,hv];rfl) O
    obtain ⟨u',bf,ru⟩:=r.get r1
    have:u'=u:=by
     rw [List.getElem?_toArray,bf] at r2
     exact vz r2
    rw [← this]
    exact ru
   have I2:Inv X pins σ (upd H s.heap.objs.size (.tup ys)) { s with heap:=h2 }:=I.turnedN (t':=s.toks) (ch:=z::TO::is) (p:=s.heap.objs.size) (o:=.tup ys) (fun c G=>hf c (by
    simp only [u8] at G ⊢
    rcases G with r | r | r
    ·exact .inl r
    ·exact .inr (.inr (.inl r))
    ·exact .inr (.inr (.inr r)))) kk (va _) ⟨Veil.small (by omega),us,b3,⟨_,pT,rfl,_,rfl⟩⟩
   have fr:H s.heap.objs.size=none:=I.fresh
   refine ⟨.ref s.heap.objs.size,_,I2,rfl,⟨_,fr,rfl,fun as b0 q1 q2=>?_⟩,⟨c0,?_,?_,?_⟩,fun c G=>?_⟩
   ·have ex:as=R:=List.ext_getElem? fun j=>by
     by_cases hj:j<is.length
     ·obtain ⟨q,hq⟩:∃ q,ss[j]?=some q:=⟨_,rz (by omega)⟩
      obtain ⟨xs,J⟩:∃ xs,R[j]?=some xs:=⟨_,rz (by omega)⟩
      obtain ⟨d2,b1⟩:∃ xs,as[j]?=some xs:=⟨_,rz (by rw [← Paired.length q1];omega)⟩
      rw [J,b1,I.sqs_inj (cP q1 hq b1) (cP hs hq J)]
     ·rw [vQ (by rw [← Paired.length q1];omega),vQ (by omega)]
    subst ex
    have ey:b0=ys:=List.ext_getElem? fun j=>by
     by_cases hj:j<is.length
     ·obtain ⟨xs,J⟩:∃ xs,as[j]?=some xs:=⟨_,rz (by omega)⟩
      obtain ⟨y,h1⟩:∃ y,ys[j]?=some y:=⟨_,rz (by omega)⟩
      obtain ⟨y',h2⟩:∃ y,b0[j]?=some y:=⟨_,rz (by rw [← Paired.length q2];omega)⟩
      have r1:xs[i]?=some y:=cP hy J h1
      have r2:xs[i]?=some y':=cP q2 J h2
      rw [h1,h2,← r1,← r2]
     ·rw [vQ (by rw [← Paired.length q2];omega),vQ (by omega)]
    rw [ey]
   ·exact kk TI _ (by
     simp only [u8,not_or]
     exact ⟨D.tz,D.to,fun h=>(D.iz TI h).2.1 rfl⟩) s2
   ·obtain ⟨cf,e,ea⟩:=a2
    exact ⟨cf,(a6.2 TO D.oz).trans e,ea⟩
   ·intro j q it Y O
    obtain ⟨o,eo,_,cr⟩:=(a3 j q it Y O).obj
    exact cr h2 ((a6.2 it (D.iz it (u4 O)).1).trans eo)
   ·have cx:c≠s.heap.objs.size:=by
     rcases u8.mp G with r | hb
     ·rw [r];exact (lt Z).symm
     rcases u8.mp hb with r | hb
     ·rw [r];exact (lt s2).symm
     rcases u8.mp hb with r | hb
     ·rw [r];exact (lt s3).symm
     obtain ⟨j,hj⟩:=vU hb
     obtain ⟨q,hq⟩:∃ q,ss[j]?=some q:=⟨_,rz (by rw [l1];exact (u3.mp hj).1)⟩
     obtain ⟨o,eo,_⟩:=(s4 j q c hq hj).obj
     exact (lt eo).symm
    rw [az cx]
    exact (hf c G).1
  ·exfalso
   rw [u5] at Y
   cases hv:U[j]? with
   | none=>rw [hv] at Y;cases Y
   | some vs =>
    rw [hv] at Y
    cases Y
    have hj:j<is.length:=by rw [← lv];exact (u3.mp hv).1
    obtain ⟨xs,J⟩:∃ xs,R[j]?=some xs:=⟨_,rz (by omega)⟩
    obtain ⟨y,h1⟩:∃ y,ys[j]?=some y:=⟨_,rz (by omega)⟩
    obtain ⟨u',bf,_⟩:=(cP pv J hv).get (cP hy J h1:xs[i]?=some y)
    rw [List.getElem?_toArray,bf] at O
    cases O
 done:=by
  intro X hP hw hK hc i pins s σ H E I hf st hg
  subst hP hw hK
  obtain ⟨R,hs,xs,cu,dl⟩:=hg
  obtain ⟨Z,s2,⟨arr,s3,an⟩,s4⟩:=st
  obtain ⟨U,pv,bs⟩:=I.srcs hs
  have lx:R.length=is.length:=by rw [← l1];exact (Paired.length hs).symm
  have lv:U.length=is.length:=by rw [← lx];exact (Paired.length pv).symm
  have hT:s.TypeIs (.ref z) "zip":=⟨_,Z,rfl⟩
  obtain ⟨j,J⟩:=vU cu
  have hj:j<is.length:=by rw [← lx];exact (u3.mp J).1
  obtain ⟨vs,hv⟩:∃ vs,U[j]?=some vs:=⟨_,rz (by omega)⟩
  have d3:=(cP pv J hv).length
  have no:vs.toArray[i]?=none:=Array.getElem?_eq_none (by rw [vg];omega)
  have cs:(U.map List.toArray)[j]?=some vs.toArray:=by rw [u5,hv];rfl
  unfold pyNext
  refine wpAny_bind (wpAny_attempt (wpAny_callSpecial?_slot (name:=Str.ofString "__next__") hT F.slot_zip_next (wpAny_call_entry F.slot_zip_next hT F.entry_zip_next ?_ (F.args_zip_next_1 _))))
  refine su (I.ok.hd hc) D ne hn l1 (by rw [lH];exact lv) an Z s2 s3 s4 bs (fun h' us lu hu _ _ _ _ _ _=>?_) (fun _ h' e kp he=>?_)
  ·exfalso
   obtain ⟨u,h1⟩:∃ u,us[j]?=some u:=⟨_,rz (by omega)⟩
   have:=hu j _ u cs h1
   rw [no] at this
   cases this
  ·obtain ⟨o,ho,ct⟩:=he
   refine wpAny_bind (wpAny_isInstance (T:="StopIteration") (b:=true) ⟨o,ho,ct⟩ isSubtype_stop (wpAny_pure ⟨rfl,?_⟩))
   exact I.turnedK (t':=s.toks) (ch:=z::TO::is) (fun c G=>hf c (by
    simp only [u8] at G ⊢
    rcases G with r | r | r
    ·exact .inl r
    ·exact .inr (.inr (.inl r))
    ·exact .inr (.inr (.inr r)))) fun c o G e=>by
     simp only [u8,not_or] at G
     exact kp c o G.1 G.2.1 G.2.2 e
 self:=fun _ _ _ _ _ st h=>wpAny_pyIter_zip st.1 h
end L2
namespace L2
open PySem PySem.Spec PyProof.Rows
def itT (l:Addr):Obj:={ cls:=.type "tuple_iterator",data:=.fields #[.ref l,.int 0 0] }
def itL (l:Addr):Obj:={ cls:=.type "list_iterator",data:=.fields #[.ref l,.int 0 0] }
def zipO (n m:Addr):Obj:={ cls:=.type "zip",data:=.fields #[.none,.bool false,.bool false,.ref n,.ref m] }
def zT5 (h:Heap) (l1 l2:Addr):Heap:=((((h.push (itT l1)).push (itT l2)).push (i5 #[.ref h.objs.size,.ref (h.objs.size+1)])).push (i5 #[.none,.none])).push (zipO (h.objs.size+2) (h.objs.size+3))
theorem rF (l1 l2:Addr) (xs ys:Array Value):Meets (Builtin.«zip.__new__» ⟨[.type "zip",.ref l1,.ref l2],[]⟩) (fun _ R s=>s.heap.IsTuple l1 xs∧s.heap.IsTuple l2 ys∧R (.ok (.ret (.ref (s.heap.objs.size+4)))) { s with heap:=zT5 s.heap l1 l2 }) :=
 .of_wp fun prog w A R s h=>by
  obtain ⟨hp,g,d,tk,os⟩:=s
  obtain ⟨F,I,h⟩:=h
  have q:=sub_zip
  have G:Heap.IsTuple (Shared.heap ⟨hp,g,d,tk,os⟩) l1 xs:=F
  have J:Heap.IsTuple (Shared.heap ⟨hp.push { cls:=.type "tuple_iterator",data:=.fields #[.ref l1,.int 0 0] },g,d,tk,os⟩) l2 ys:=Heap.IsTuple.push I _
  wp_walk using wpAny_pyIter_tuple G,wpAny_pyIter_tuple J
  refine ⟨_,rfl,?_⟩
  simp only [Heap.size_push]
  exact h
theorem zap2 (N l1 l2:Nat) (b:Bool) (h1:l1<N) (h2:l2<N):ZAp (N+4) (N+2) (N+3) [(b,l1),(b,l2)] [N,N+1]:=by
 refine ⟨?_,(show (N+2:Nat)≠N+4 by omega),(show (N+3:Nat)≠N+4 by omega),(show (N+2:Nat)≠N+3 by omega),?_,?_⟩
 ·exact wv.mpr ⟨fun h=>(show ¬ (N:Nat)=N+1 by omega) (u9.mp h),(by simp)⟩
 ·intro i hi
  simp only [u8,ve,or_false] at hi
  rcases hi with r | r
  ·rw [r]
   exact ⟨(show (N:Nat)≠N+4 by omega),(show (N:Nat)≠N+2 by omega),(show (N:Nat)≠N+3 by omega)⟩
  ·rw [r]
   exact ⟨(show (N+1:Nat)≠N+4 by omega),(show (N+1:Nat)≠N+2 by omega),(show (N+1:Nat)≠N+3 by omega)⟩
 ·have lo:∀ l:Nat,l<N→(l:Addr)≠N+4∧(l:Addr)≠N+3∧(l:Addr)∉[N,N+1]:=fun l h=>⟨(show (l:Nat)≠N+4 by omega),(show (l:Nat)≠N+3 by omega),fun z=>by
   rcases u8.mp z with z | z
   ·exact (show ¬ (l:Nat)=N by omega) z
   ·exact (show ¬ (l:Nat)=N+1 by omega) (u9.mp z)⟩
  intro q F
  simp only [u8,ve,or_false] at F
  rcases F with r | r
  ·rw [r];exact lo l1 h1
  ·rw [r];exact lo l2 h2
section
variable {X:Cx}
def iZipT (K:PySem.W.Frag) (ta:TA):TI:=fun σ H R=>ta σ H fun vs H1=>∃ a b xs ys,vs=[.ref a,.ref b]∧SqT K H1 a xs∧SqT K H1 b ys∧R (Itn K [(true,a),(true,b)]) H1
theorem pi_zipT {elts:List Expr}{k1:Nat}{tp:Pos}{a b:Expr}{ta:TA}{p pos:Pos} (hg:Gl X "zip") (hm:X.mg "zip"=none) (ha:PA X [a,b] ta)
  (hs:starEach [a,b] X.env=[(false,eval a X.env),(false,eval b X.env)]:=by rfl) (hs2:starEach [b] X.env=[(false,eval b X.env)]:=by rfl):PI X (.Tuple elts k1 tp) (.Call (.Name "zip" p) [a,b] [] pos) (iZipT X.K ta):=by
 intro pins s σ H R I h
 refine Call_ (eX I hg hm boot_zip (vM (thn (ha pos pins s σ H _ I h) fun us G ⟨vs,H1,Y,r1,q1⟩=>?_) (by rw [hs,hs2]) (by rw [hs2];rfl)))
 obtain ⟨J,O,xs,ys,e,ai,an,q⟩:=q1
 subst e
 obtain ⟨u1,u2,rfl,al,ap⟩:=r1.two
 cases al
 cases ap
 obtain ⟨a1,ba,p1,z1⟩:=Y.tuple ai
 obtain ⟨a4,a9,p2,z2⟩:=Y.tuple an
 refine callType_new F.called_zip (by decide) (F.typeCall_zip_2 _ _) (F.newCall_zip_2 _ _) (fun obj=>F.args_object_init_3 obj _ _) F.entry_zip_new (rF J O _ _) ⟨p1,p2,?_⟩
 have af:J<G.heap.objs.size:=by obtain ⟨o,e,_⟩:=p1;exact Heap.lt_size e
 have ag:O<G.heap.objs.size:=by obtain ⟨o,e,_⟩:=p2;exact Heap.lt_size e
 have g0:(zT5 G.heap J O).get? G.heap.objs.size=some (itT J):=Heap.get?_push_of_some _ (Heap.get?_push_of_some _ (Heap.get?_push_of_some _ (Heap.get?_push_of_some _ (Heap.get?_push_size _ rfl))))
 have g1:(zT5 G.heap J O).get? (G.heap.objs.size+1)=some (itT O):=by
  have e:G.heap.objs.size+1=(G.heap.push (itT J)).objs.size:=(Heap.size_push ..).symm
  rw [e]
  exact Heap.get?_push_of_some _ (Heap.get?_push_of_some _ (Heap.get?_push_of_some _ (Heap.get?_push_size _ rfl)))
 have g2:(zT5 G.heap J O).get? (G.heap.objs.size+2)=some (i5 #[.ref G.heap.objs.size,.ref (G.heap.objs.size+1)]):=by
  have e:G.heap.objs.size+2=((G.heap.push (itT J)).push (itT O)).objs.size:=by rw [Heap.size_push,Heap.size_push]
  rw [e]
  exact Heap.get?_push_of_some _ (Heap.get?_push_of_some _ (Heap.get?_push_size _ rfl))
 have g3:(zT5 G.heap J O).get? (G.heap.objs.size+3)=some (i5 #[.none,.none]):=by
  have e:G.heap.objs.size+3=(((G.heap.push (itT J)).push (itT O)).push (i5 #[.ref G.heap.objs.size,.ref (G.heap.objs.size+1)])).objs.size:=by rw [Heap.size_push,Heap.size_push,Heap.size_push]
  rw [e]
  exact Heap.get?_push_of_some _ (Heap.get?_push_size _ rfl)
 have Z:(zT5 G.heap J O).get? (G.heap.objs.size+4)=some (zipO (G.heap.objs.size+2) (G.heap.objs.size+3)):=by
  have e:G.heap.objs.size+4=((((G.heap.push (itT J)).push (itT O)).push (i5 #[.ref G.heap.objs.size,.ref (G.heap.objs.size+1)])).push (i5 #[.none,.none])).objs.size:=by rw [Heap.size_push,Heap.size_push,Heap.size_push,Heap.size_push]
  rw [e]
  exact Heap.get?_push_size _ rfl
 have kp:∀ c o,G.heap.get? c=some o→(zT5 G.heap J O).get? c=some o:=fun c o e=>Heap.get?_push_of_some _ (Heap.get?_push_of_some _ (Heap.get?_push_of_some _ (Heap.get?_push_of_some _ (Heap.get?_push_of_some _ e))))
 refine ⟨⟨_,Z,rfl⟩,?_⟩
 refine wpAny_pyIter_zip (s:={ G with heap:=zT5 G.heap J O }) Z ?_
 refine ⟨G.heap.objs.size+4,(G.heap.objs.size+4)::(G.heap.objs.size+2)::(G.heap.objs.size+3)::[G.heap.objs.size,G.heap.objs.size+1],_,_,H1,rfl,Y.kept (t':=G.toks) kp,
  sJ (G.heap.objs.size+4) (G.heap.objs.size+2) (G.heap.objs.size+3) [(true,J),(true,O)] [G.heap.objs.size,G.heap.objs.size+1] (zap2 _ _ _ _ af ag) (by simp) (by simp) rfl,⟨Z,g2,⟨_,g3,rfl⟩,?_⟩,?_,q⟩
 ·intro i q it U W
  match i,U,W with
  | 0,U,W =>
   cases U
   cases W
   exact ⟨_,g0,rfl,rfl⟩
  | 1,U,W =>
   cases U
   cases W
   exact ⟨_,g1,rfl,rfl⟩
  | n+2,U,W=>simp at U
 ·refine rQ Y (fun c hc=>Y.hok.fresh hc) fun c hc=>?_
  simp only [u8,ve,or_false] at hc
  rcases hc with r | r | r | r | r<;>rw [r]<;>first | exact va _ | exact Nat.le_add_right _ _
end
end L2
namespace L2
open PySem PySem.Spec PyProof.Rows
theorem comp_zn {K:PySem.W.Frag}{ss:List (Bool×Addr)}{xss:List (List V)}{n:Nat}{k:Nat}{g:TG}{tt:TT}{te:TE}{tl:St}{D:Addr}{Q:Hp→Prop}{H0:Hp} (Pv:Nat→List V→Hp→Prop) (ne:ss≠[]) (hn:∀ xs∈xss,xs.length=n) (h0:Pv 0 [] (upd H0 D (.lst []))) (hl:∀ i ys H,Pv i ys H→Paired (SqS K H) ss xss)
  (hs:∀ i zs ys H p,Paired (fun (xs:List V) y=>xs[i]?=some y) xss zs→Pv i ys H→H D=some (.lst ys)→H p=none→g (.ref p) (List.replicate k none++tl) (upd H p (.tup zs)) fun σ2 H2=>(σ2.length=k+tl.length∧σ2.drop k=tl) ∧
   tt σ2 H2 fun b H3=>if b=true then te σ2 H3 fun v H4=>H4 D=some (.lst ys)∧ys.length<sizeLine∧Pv (i+1) (ys++[v]) (upd H4 D (.lst (ys++[v]))) else H3 D=some (.lst ys)∧Pv (i+1) ys H3)
  (hd:∀ ys H,Pv n ys H→H D=some (.lst ys)→Q H) :
  ∃ W:Nat→Nat→List V→Hp→Prop,(∃ m,W 0 m [] (upd H0 D (.lst [])))∧i8 k (Itn K ss) g tt te tl D Q W:=by
 refine ⟨fun i m ys H=>m=n - i∧i≤n∧Pv i ys H,⟨n,by simp,vk _,h0⟩,?_⟩
 rintro i m ys H ⟨rfl,hi,p⟩ G
 have q:=hl i ys H p
 by_cases F:i<n
 ·have all:∀ {xss:List (List V)},(∀ xs∈xss,xs.length=n)→∃ zs,Paired (fun (xs:List V) y=>xs[i]?=some y) xss zs:=fun {xss}=>by
   induction xss with
   | nil=>exact fun _=>⟨[],.nil⟩
   | cons xs r ih =>
    intro h
    obtain ⟨zs,hz⟩:=ih fun x J=>h x (vd _ J)
    have:i<xs.length:=by rw [h xs vb];exact F
    exact ⟨xs[i]::zs,.cons (by simp [this]) hz⟩
  obtain ⟨zs,hz⟩:=all hn
  refine .inr ⟨⟨xss,zs,q,hz⟩,Pv (i+1),fun R H' I=>⟨n - (i+1),by omega,rfl,F,I⟩,fun x H1 y=>?_⟩
  obtain ⟨c,hc,e,y⟩:=y
  have O:=y xss zs q hz
  subst e O
  exact hs i zs ys H c hz p G hc
 ·have e:i=n:=by omega
  refine .inl ⟨⟨xss,q,?_⟩,hd ys H (by rw [← e];exact p) G⟩
  cases q with
  | nil=>exact absurd rfl ne
  | cons r t=>exact ⟨_,vb,by rw [hn _ vb];omega⟩
theorem for_zn {K:PySem.W.Frag}{ss:List (Bool×Addr)}{xss:List (List V)}{n:Nat}{g:TG}{tb:TS}{D:Ends}{σ:St}{H:Hp} (Pv:Nat→St→Hp→Prop) (ne:ss≠[]) (hn:∀ xs∈xss,xs.length=n) (h0:Pv 0 σ H) (hl:∀ i σ H,Pv i σ H→Paired (SqS K H) ss xss)
  (hs:∀ i zs σ H p,Paired (fun (xs:List V) y=>xs[i]?=some y) xss zs→Pv i σ H→H p=none→g (.ref p) σ (upd H p (.tup zs)) fun σ2 H2=>tb { D with nx:=Pv (i+1),ct:=Pv (i+1),bk:=D.nx } σ2 H2) (hd:∀ σ H,Pv n σ H→D.nx σ H) :
  ∃ W:Nat→Nat→St→Hp→Prop,(∃ m,W 0 m σ H)∧∀ i m σ H,W i m σ H →
   ((Itn K ss).stop i H∧D.nx σ H)∨((Itn K ss).go i H∧∃ N:St→Hp→Prop,(∀ σ' H',N σ' H'→∃ m',m'<m∧W (i+1) m' σ' H')∧∀ x H',(Itn K ss).yld i H x H'→g x σ H' fun σ2 H2=>tb { D with nx:=N,ct:=N,bk:=D.nx } σ2 H2):=by
 refine ⟨fun i m σ H=>m=n - i∧i≤n∧Pv i σ H,⟨n,by simp,vk _,h0⟩,?_⟩
 rintro i m σ H ⟨rfl,hi,p⟩
 have q:=hl i σ H p
 by_cases F:i<n
 ·have all:∀ {xss:List (List V)},(∀ xs∈xss,xs.length=n)→∃ zs,Paired (fun (xs:List V) y=>xs[i]?=some y) xss zs:=fun {xss}=>by
   induction xss with
   | nil=>exact fun _=>⟨[],.nil⟩
   | cons xs r ih =>
    intro h
    obtain ⟨zs,hz⟩:=ih fun x I=>h x (vd _ I)
    have:i<xs.length:=by rw [h xs vb];exact F
    exact ⟨xs[i]::zs,.cons (by simp [this]) hz⟩
  obtain ⟨zs,hz⟩:=all hn
  refine .inr ⟨⟨xss,zs,q,hz⟩,Pv (i+1),fun σ' H' G=>⟨n - (i+1),by omega,rfl,F,G⟩,fun x H1 y=>?_⟩
  obtain ⟨c,hc,e,y⟩:=y
  have J:=y xss zs q hz
  subst e J
  exact hs i zs σ H c hz p hc
 ·have e:i=n:=by omega
  refine .inl ⟨⟨xss,q,?_⟩,hd σ H (by rw [← e];exact p)⟩
  cases q with
  | nil=>exact absurd rfl ne
  | cons r t=>exact ⟨_,vb,by rw [hn _ vb];omega⟩
end L2
namespace L2
open PySem PySem.Spec PyProof.Rows
theorem ku (a b c d:Value):checkTypeCall "zip" ⟨[a,b,c,d],[]⟩=pure ():=by kernel_rfl
theorem mw (a b c d:Value):checkBuiltinCall "zip.__new__" ⟨[.type "zip",a,b,c,d],[]⟩=pure ():=by kernel_rfl
theorem iJ (a b c d e:Value):argsOk "object.__init__" ⟨[a,b,c,d,e],[]⟩:=by
 have sg:=signature?_of (o:='t'::'c'::'e'::['j','b','o']) (n:='_'::'_'::'t'::['i','n','i','_','_']) (id:="object.__init__") (by kernel_rfl) F.owner_object
 unfold argsOk
 rw [sg]
 kernel_rfl
def zL7 (h:Heap) (l1 l2 l3 l4:Addr):Heap:=((((((h.push (itL l1)).push (itL l2)).push (itL l3)).push (itL l4)).push (i5 #[.ref h.objs.size,.ref (h.objs.size+1),.ref (h.objs.size+2),.ref (h.objs.size+3)])).push (i5 #[.none,.none,.none,.none])).push (zipO (h.objs.size+4) (h.objs.size+5))
theorem rG (l1 l2 l3 l4:Addr) (x1 x2 x3 x4:Array Value):Meets (Builtin.«zip.__new__» ⟨[.type "zip",.ref l1,.ref l2,.ref l3,.ref l4],[]⟩) (fun _ R s=>s.heap.IsList l1 x1∧s.heap.IsList l2 x2∧s.heap.IsList l3 x3∧s.heap.IsList l4 x4∧R (.ok (.ret (.ref (s.heap.objs.size+6)))) { s with heap:=zL7 s.heap l1 l2 l3 l4 }) :=
 .of_wp fun prog w A R s h=>by
  obtain ⟨hp,g,d,tk,os⟩:=s
  obtain ⟨I,O,F,W,h⟩:=h
  have G:=sub_zip
  have J:Heap.IsList (Shared.heap ⟨hp,g,d,tk,os⟩) l1 x1:=I
  have Y:Heap.IsList (Shared.heap ⟨hp.push { cls:=.type "list_iterator",data:=.fields #[.ref l1,.int 0 0] },g,d,tk,os⟩) l2 x2:=Heap.IsList.push O _
  have q:Heap.IsList (Shared.heap ⟨(hp.push { cls:=.type "list_iterator",data:=.fields #[.ref l1,.int 0 0] }).push { cls:=.type "list_iterator",data:=.fields #[.ref l2,.int 0 0] },g,d,tk,os⟩) l3 x3:=Heap.IsList.push (Heap.IsList.push F _) _
  have U:Heap.IsList (Shared.heap ⟨((hp.push { cls:=.type "list_iterator",data:=.fields #[.ref l1,.int 0 0] }).push { cls:=.type "list_iterator",data:=.fields #[.ref l2,.int 0 0] }).push { cls:=.type "list_iterator",data:=.fields #[.ref l3,.int 0 0] },g,d,tk,os⟩) l4 x4:=Heap.IsList.push (Heap.IsList.push (Heap.IsList.push W _) _) _
  wp_walk using wpAny_pyIter_list J,wpAny_pyIter_list Y,wpAny_pyIter_list q,wpAny_pyIter_list U
  refine ⟨_,rfl,?_⟩
  simp only [Heap.size_push]
  exact h
theorem zap4 (N l1 l2 l3 l4:Nat) (h1:l1<N) (h2:l2<N) (h3:l3<N) (h4:l4<N):ZAp (N+6) (N+4) (N+5) [(false,l1),(false,l2),(false,l3),(false,l4)] [N,N+1,N+2,N+3]:=by
 have G:∀ x:Nat,(x<N∨N+3<x)→(x:Addr)∉([N,N+1,N+2,N+3]:List Nat):=fun x h z=>by
  simp only [u8,ve,or_false] at z
  rcases z with z | z | z | z<;>omega
 refine ⟨?_,(show (N+4:Nat)≠N+6 by omega),(show (N+5:Nat)≠N+6 by omega),(show (N+4:Nat)≠N+5 by omega),?_,?_⟩
 ·show List.Nodup ([N,N+1,N+2,N+3]:List Nat)
  simp
 ·intro i hi
  simp only [u8,ve,or_false] at hi
  rcases hi with r | r | r | r<;>rw [r]
  ·exact ⟨(show (N+0:Nat)≠N+6 by omega),(show (N+0:Nat)≠N+4 by omega),(show (N+0:Nat)≠N+5 by omega)⟩
  ·exact ⟨(show (N+1:Nat)≠N+6 by omega),(show (N+1:Nat)≠N+4 by omega),(show (N+1:Nat)≠N+5 by omega)⟩
  ·exact ⟨(show (N+2:Nat)≠N+6 by omega),(show (N+2:Nat)≠N+4 by omega),(show (N+2:Nat)≠N+5 by omega)⟩
  ·exact ⟨(show (N+3:Nat)≠N+6 by omega),(show (N+3:Nat)≠N+4 by omega),(show (N+3:Nat)≠N+5 by omega)⟩
 ·intro q F
  have lo:∀ l:Nat,l<N→(l:Addr)≠N+6∧(l:Addr)≠N+5∧(l:Addr)∉([N,N+1,N+2,N+3]:List Nat):=fun l h=>⟨(show (l:Nat)≠N+6 by omega),(show (l:Nat)≠N+5 by omega),G l (.inl h)⟩
  simp only [u8,ve,or_false] at F
  rcases F with r | r | r | r<;>rw [r]
  ·exact lo l1 h1
  ·exact lo l2 h2
  ·exact lo l3 h3
  ·exact lo l4 h4
section
variable {X:Cx}
def iZip4 (K:PySem.W.Frag) (ta:TA):TI:=fun σ H R=>ta σ H fun vs H1=>∃ a b c d x1 x2 x3 x4,vs=[.ref a,.ref b,.ref c,.ref d]∧SqL K H1 a x1∧SqL K H1 b x2∧SqL K H1 c x3∧SqL K H1 d x4∧R (Itn K [(false,a),(false,b),(false,c),(false,d)]) H1
theorem pi_zip4 {elts:List Expr}{k1:Nat}{tp:Pos}{a b c d:Expr}{ta:TA}{p pos:Pos} (hg:Gl X "zip") (hm:X.mg "zip"=none) (ha:PA X [a,b,c,d] ta)
  (hs:starEach [a,b,c,d] X.env=[(false,eval a X.env),(false,eval b X.env),(false,eval c X.env),(false,eval d X.env)]:=by rfl) (hs2:starEach [b,c,d] X.env=[(false,eval b X.env),(false,eval c X.env),(false,eval d X.env)]:=by rfl):PI X (.Tuple elts k1 tp) (.Call (.Name "zip" p) [a,b,c,d] [] pos) (iZip4 X.K ta):=by
 intro pins s σ H R I h
 refine Call_ (eX I hg hm boot_zip (vM (thn (ha pos pins s σ H _ I h) fun us G ⟨vs,H1,I1,r1,q1⟩=>?_) (by rw [hs,hs2]) (by rw [hs2];rfl)))
 obtain ⟨J,O,U,W,x1,x2,x3,x4,e,a1,a5,a4,a2,q⟩:=q1
 subst e
 cases r1 with
 | cons ru1 r1 =>
 cases r1 with
 | cons ru2 r1 =>
 cases r1 with
 | cons ru3 r1 =>
 cases r1 with
 | cons ru4 r1 =>
 cases r1
 cases ru1
 cases ru2
 cases ru3
 cases ru4
 obtain ⟨a8,b2,p1,z1⟩:=I1.list a1
 obtain ⟨bb,b1,p2,z2⟩:=I1.list a5
 obtain ⟨bm,b4,p3,z3⟩:=I1.list a4
 obtain ⟨bz,b3,p4,z4⟩:=I1.list a2
 refine callType_new F.called_zip (by decide) (ku _ _ _ _) (mw _ _ _ _) (fun obj=>iJ obj _ _ _ _) F.entry_zip_new (rG J O U W _ _ _ _) ⟨p1.isList,p2.isList,p3.isList,p4.isList,?_⟩
 have ap:J<G.heap.objs.size:=by obtain ⟨o,e,_⟩:=p1.isList;exact Heap.lt_size e
 have as:O<G.heap.objs.size:=by obtain ⟨o,e,_⟩:=p2.isList;exact Heap.lt_size e
 have a6:U<G.heap.objs.size:=by obtain ⟨o,e,_⟩:=p3.isList;exact Heap.lt_size e
 have a3:W<G.heap.objs.size:=by obtain ⟨o,e,_⟩:=p4.isList;exact Heap.lt_size e
 have g0:(zL7 G.heap J O U W).get? G.heap.objs.size=some (itL J):=Heap.get?_push_of_some _ (Heap.get?_push_of_some _ (Heap.get?_push_of_some _ (Heap.get?_push_of_some _ (Heap.get?_push_of_some _ (Heap.get?_push_of_some _ (Heap.get?_push_size _ rfl))))))
 have g1:(zL7 G.heap J O U W).get? (G.heap.objs.size+1)=some (itL O):=by
  have e:G.heap.objs.size+1=(G.heap.push (itL J)).objs.size:=by simp only [Heap.size_push]
  rw [e]
  exact Heap.get?_push_of_some _ (Heap.get?_push_of_some _ (Heap.get?_push_of_some _ (Heap.get?_push_of_some _ (Heap.get?_push_of_some _ (Heap.get?_push_size _ rfl)))))
 have g2:(zL7 G.heap J O U W).get? (G.heap.objs.size+2)=some (itL U):=by
  have e:G.heap.objs.size+2=((G.heap.push (itL J)).push (itL O)).objs.size:=by simp only [Heap.size_push]
  rw [e]
  exact Heap.get?_push_of_some _ (Heap.get?_push_of_some _ (Heap.get?_push_of_some _ (Heap.get?_push_of_some _ (Heap.get?_push_size _ rfl))))
 have g3:(zL7 G.heap J O U W).get? (G.heap.objs.size+3)=some (itL W):=by
  have e:G.heap.objs.size+3=(((G.heap.push (itL J)).push (itL O)).push (itL U)).objs.size:=by simp only [Heap.size_push]
  rw [e]
  exact Heap.get?_push_of_some _ (Heap.get?_push_of_some _ (Heap.get?_push_of_some _ (Heap.get?_push_size _ rfl)))
 have g4:(zL7 G.heap J O U W).get? (G.heap.objs.size+4)=some (i5 #[.ref G.heap.objs.size,.ref (G.heap.objs.size+1),.ref (G.heap.objs.size+2),.ref (G.heap.objs.size+3)]):=by
  have e:G.heap.objs.size+4=((((G.heap.push (itL J)).push (itL O)).push (itL U)).push (itL W)).objs.size:=by simp only [Heap.size_push]
  rw [e]
  exact Heap.get?_push_of_some _ (Heap.get?_push_of_some _ (Heap.get?_push_size _ rfl))
 have g5:(zL7 G.heap J O U W).get? (G.heap.objs.size+5)=some (i5 #[.none,.none,.none,.none]):=by
  have e:G.heap.objs.size+5=(((((G.heap.push (itL J)).push (itL O)).push (itL U)).push (itL W)).push (i5 #[.ref G.heap.objs.size,.ref (G.heap.objs.size+1),.ref (G.heap.objs.size+2),.ref (G.heap.objs.size+3)])).objs.size:=by simp only [Heap.size_push]
  rw [e]
  exact Heap.get?_push_of_some _ (Heap.get?_push_size _ rfl)
 have g6:(zL7 G.heap J O U W).get? (G.heap.objs.size+6)=some (zipO (G.heap.objs.size+4) (G.heap.objs.size+5)):=by
  have e:G.heap.objs.size+6=((((((G.heap.push (itL J)).push (itL O)).push (itL U)).push (itL W)).push (i5 #[.ref G.heap.objs.size,.ref (G.heap.objs.size+1),.ref (G.heap.objs.size+2),.ref (G.heap.objs.size+3)])).push (i5 #[.none,.none,.none,.none])).objs.size:=by simp only [Heap.size_push]
  rw [e]
  exact Heap.get?_push_size _ rfl
 have kp:∀ c o,G.heap.get? c=some o→(zL7 G.heap J O U W).get? c=some o:=fun c o e=>Heap.get?_push_of_some _ (Heap.get?_push_of_some _ (Heap.get?_push_of_some _ (Heap.get?_push_of_some _ (Heap.get?_push_of_some _ (Heap.get?_push_of_some _ (Heap.get?_push_of_some _ e))))))
 refine ⟨⟨_,g6,rfl⟩,?_⟩
 refine wpAny_pyIter_zip (s:={ G with heap:=zL7 G.heap J O U W }) g6 ?_
 refine ⟨G.heap.objs.size+6,(G.heap.objs.size+6)::(G.heap.objs.size+4)::(G.heap.objs.size+5)::[G.heap.objs.size,G.heap.objs.size+1,G.heap.objs.size+2,G.heap.objs.size+3],_,_,H1,rfl,I1.kept (t':=G.toks) kp,
  sJ (G.heap.objs.size+6) (G.heap.objs.size+4) (G.heap.objs.size+5) [(false,J),(false,O),(false,U),(false,W)] [G.heap.objs.size,G.heap.objs.size+1,G.heap.objs.size+2,G.heap.objs.size+3] (zap4 _ _ _ _ _ ap as a6 a3) (by simp) (by simp) rfl,⟨g6,g4,⟨_,g5,rfl⟩,?_⟩,?_,q⟩
 ·intro i q it Y Z
  match i,Y,Z with
  | 0,Y,Z=>cases Y;cases Z;exact ⟨_,g0,rfl,rfl⟩
  | 1,Y,Z=>cases Y;cases Z;exact ⟨_,g1,rfl,rfl⟩
  | 2,Y,Z=>cases Y;cases Z;exact ⟨_,g2,rfl,rfl⟩
  | 3,Y,Z=>cases Y;cases Z;exact ⟨_,g3,rfl,rfl⟩
  | n+4,Y,Z=>simp at Y
 ·refine rQ I1 (fun c hc=>I1.hok.fresh hc) fun c hc=>?_
  simp only [u8,ve,or_false] at hc
  rcases hc with r | r | r | r | r | r | r<;>rw [r]<;>first | exact va _ | exact Nat.le_add_right _ _
end
end L2
namespace L2
open PySem PySem.Spec PyProof.Rows
def eS (a:Int) (n:Nat):List Int:=(List.range n).map fun i:Nat=>a+(i:Int)
def tLR (ta:TA):TE:=fun σ H Q=>ta σ H fun vs H1=>∃ i j:Int,vs=[.int i,.int j]∧(-(2 ^ 62)≤i∧i<2 ^ 62∧-(2 ^ 62)≤j∧j<2 ^ 62)∧(j - i).toNat≤1000∧∀ l,H1 l=none→Q (.ref l) (upd H1 l (.lst ((eS i (j - i).toNat).map V.int)))
theorem nv {X:Cx}{a b:Expr}{ta:TA}{p p2 pos pos2:Pos} (hc:X.calm=true) (hgL:Gl X "list") (hmL:X.mg "list"=none) (hg:Gl X "range") (hm:X.mg "range"=none) (ha:PA X [a,b] ta)
  (hs:starEach [a,b] X.env=[(false,eval a X.env),(false,eval b X.env)]:=by rfl) (hs2:starEach [b] X.env=[(false,eval b X.env)]:=by rfl)
  (hs3:starEach [.Call (.Name "range" p2) [a,b] [] pos2] X.env=[(false,eval (.Call (.Name "range" p2) [a,b] [] pos2) X.env)]:=by rfl) :
  PE X (.Call (.Name "list" p) [.Call (.Name "range" p2) [a,b] [] pos2] [] pos) (tLR ta):=by
 intro pins s σ H Q I h
 refine wpAny_Call_Name_kw (eX I hgL hmL wq ?_)
 refine vM ?_ hs3 rfl
 rw [hs3]
 show wpAny _ _ (spliced ((false,eval (.Call (.Name "range" p2) [a,b] [] pos2) X.env)::backTo pos [])) _ _ s
 refine Calls.spliced_cons ?_
 refine Call_ (eX I hg hm boot_range (vM (thn (ha pos2 pins s σ H _ I h) fun us F ⟨vs,H1,Y,r1,q1⟩=>?_) (by rw [hs,hs2]) (by rw [hs2];rfl)))
 obtain ⟨i,j,e,⟨b1,b2,b3,b4⟩,hl,q⟩:=q1
 subst e
 cases r1 with
 | cons r rr =>
  cases rr with
  | cons r' rr =>
   cases rr
   obtain ⟨t,rfl⟩:=r
   obtain ⟨t',rfl⟩:=r'
   refine call_range_2 ?_
   refine Calls.spliced_nil ?_
   have J:Inv X pins σ H1 { F with heap:=F.heap.push { cls:=.type "range",data:=.fields #[.int i t,.int j t',.int 1 F.toks] },toks:=F.toks+1 }:=Y.kept fun b o e=>Heap.get?_push_of_some _ e
   generalize R:({ F with heap:=F.heap.push { cls:=.type "range",data:=.fields #[.int i t,.int j t',.int 1 F.toks] },toks:=F.toks+1 }:Shared)=s2 at J
   have hr:IsRange s2.heap F.heap.objs.size i j 1 t t' F.toks:=by rw [← R];exact IsRange.new ..
   refine call_list_range (n:=(j - i).toNat) (J.ok.hd hc) hr (small_one b1 b2 b3 b4) (by rw [rangeSize_one];split<;>omega) (by omega) fun h' tk O c kp e W=>?_
   refine ⟨.ref s2.heap.objs.size,_,J.laid (t':=tk) kp (va _) (show ObjOk X.prog X.w _ h' _ (.lst ((eS i (j - i).toNat).map V.int)) from ⟨?_,O.toList,c,?_,by simpa using e⟩),rfl,q _ (J.hok.fresh (va _))⟩
   ·unfold eS
    rw [lH,lH,vo]
    exact Veil.small (by omega)
   ·refine jW ?_ fun k x u G e2=>?_
    ·unfold eS
     rw [lH,lH,vo,wg,W.1]
    ·obtain ⟨tt,Z⟩:=W.2 k u (by rw [← e2,Array.getElem?_toList])
     unfold eS at G
     rw [u5,u5] at G
     by_cases U:k<(j - i).toNat
     ·rw [vN U] at G
      cases G
      refine ⟨tt,?_⟩
      rw [Z,Int.mul_one]
     ·rw [vQ (by simpa using U)] at G
      cases G
end L2
namespace Veil
open PySem L2
def kI (p v:Int):Bool:=decide (0≤v∧v<p)
inductive lO (C:Addr) (vs:List V) (H:Hp) (Q:VK) (E_:XK):Prop
 | mk (t:Addr) (p n f v:Int) (h0_:vs=[.ref t,.int v]) (h1_:TabAt C H t p n f) (h2_:cB H Q (.bl (kI p v))):lO C vs H Q E_
def pj (p n pl:Int) (k:Str) (v:Int):Bool:=if k="hand" then decide (1≤v∧v≤n) else if k="number" then kI p v else decide (0≤v∧v<pl)
inductive sT (C:Addr) (vs:List V) (H:Hp) (Q:VK) (E_:XK):Prop
 | mk (t:Addr) (p n f pl v:Int) (k:Str) (h0_:vs=[.ref t,.int pl,.str k,.int v]) (h1_:TabAt C H t p n f) (h2_:cB H Q (.bl (pj p n pl k v))):sT C vs H Q E_
def Stp.kinds:Stp→List Str
 | .ein _=>["hand"]
 | .fix _=>["number"]
 | .bye _ _=>["step","number"]
 | .sum _ _=>["step","step"]
 | .less _ _=>["step","step"]
 | .mul _ _=>["step","step"]
 | .anew _=>["step"]
 | .opn _=>["step"]
def Stp.args:Stp→List Int
 | .ein h=>[h]
 | .fix x=>[x]
 | .bye a x=>[a,x]
 | .sum a b=>[a,b]
 | .less a b=>[a,b]
 | .mul a b=>[a,b]
 | .anew a=>[a]
 | .opn a=>[a]
theorem Stp.vs_eq (s:Stp):s.vs=.str s.word::s.args.map V.int:=by cases s<;>rfl
theorem Stp.kinds_len (s:Stp):s.kinds.length=s.args.length:=by cases s<;>rfl
theorem Stp.args_len (s:Stp):1≤s.args.length∧s.args.length≤2:=by cases s<;>simp [Stp.args]
def jb (p n pl:Int) (s:Stp):Bool:=(s.kinds.zip s.args).all fun kv=>pj p n pl kv.1 kv.2
theorem fit_h (p n pl v:Int):pj p n pl "hand" v=decide (1≤v∧v≤n):=by unfold pj;rw [if_pos rfl]
theorem fit_n (p n pl v:Int):pj p n pl "number" v=decide (0≤v∧v<p):=by
 unfold pj
 rw [if_neg (by decide +kernel),if_pos rfl]
 rfl
theorem fit_s (p n pl v:Int):pj p n pl "step" v=decide (0≤v∧v<pl):=by
 unfold pj
 rw [if_neg (by decide +kernel),if_neg (by decide +kernel)]
theorem rightB_iff {p n pl:Int}{s:Stp}:jb p n pl s=true↔s.Right p n pl:=by
 cases s<;>simp only [jb,Stp.kinds,Stp.args,wQ,List.zip_nil_left,List.zip_nil_right,wM,List.all_nil,Bool.and_true,fit_h,fit_n,fit_s,Stp.Right,vx,decide_eq_true_eq]
structure Frm (P:Program) (w:World) (K:PySem.W.Frag) (mg:Str→Option Value) (fa:Addr) (kvs:List (Key×V)):Prop where
 g:mg "FORMS"=some (.ref fa)
 d:KDict P w K fa kvs
 at_:∀ s:Stp,∃ t,oE kvs (Sum.inr s.word:Key)=some (.ref t)∧∀ H,SqT K H t (s.kinds.map V.str)
inductive gN (C:Addr) (vs:List V) (H:Hp) (Q:VK) (E_:XK):Prop
 | mk (t b:Addr) (p n f pl:Int) (z:Stp) (h0_:vs=[.ref t,.int pl,.ref b]) (h1_:TabAt C H t p n f) (h2_:H b=some (.tup z.vs)) (h3_:cB H Q (.bl (jb p n pl z))):gN C vs H Q E_
def aR (p n:Int) (ss:List Stp):Bool:=decide (1≤ss.length∧ss.length≤24) && (List.range ss.length).all fun i=>jb p n (i:Int) (ss.getD i (.fix 0))
theorem rightsB_iff {p n:Int}{ss:List Stp}:aR p n ss=true↔(1≤ss.length∧ss.length≤24)∧eF p n ss:=by
 unfold aR eF
 rw [vx,decide_eq_true_eq,vv]
 refine and_congr_right fun hl=>⟨fun h i s e=>?_,fun h i hi=>?_⟩
 ·obtain ⟨hi,F⟩:=u3.mp e
  have:=h i (vH.mpr hi)
  rw [nn,e] at this
  exact rightB_iff.mp this
 ·have q:=vH.mp hi
  rw [nn,rz q]
  exact rightB_iff.mpr (h i _ (rz q))
inductive oH (C:Addr) (vs:List V) (H:Hp) (Q:VK) (E_:XK):Prop
 | mk (t a:Addr) (p n f:Int) (ws:List V) (ss:List Stp) (h0_:vs=[.ref t,.ref a]) (h1_:TabAt C H t p n f) (h2_:H a=some (.lst ws)) (h3_:StpsAt H ws ss) (h4_:cB H Q (.bl (aR p n ss))):oH C vs H Q E_
inductive cF (C cS:Addr) (vs:List V) (H:Hp) (Q:VK) (E:XK):Prop
 | mk (t a:Addr) (p n f:Int) (ws:List V) (ss:List Stp) (h0_:vs=[.ref t,.ref a]) (h1_:TabAt C H t p n f) (h2_:H a=some (.lst ws)) (h3_:StpsAt H ws ss) (h4_:(aR p n ss=true→cB H Q .non)) (h5_:(aR p n ss=false→∀ H',Same H H'→E (.ref cS) none H')):cF C cS vs H Q E
def bE (n:Int):List Int:=eS 1 n.toNat
def Stp.dealers (n:Int):Stp→List Int
 | .ein h=>[h]
 | .mul _ _=>bE n
 | .anew _=>bE n
 | _=>[]
inductive eP (C:Addr) (vs:List V) (H:Hp) (Q:VK) (E_:XK):Prop
 | mk (t:Addr) (p n f:Int) (h0_:vs=[.ref t]) (h1_:TabAt C H t p n f) (h2_:(0≤n∧n≤10)) (h3_:ox H Q ((bE n).map V.int)):eP C vs H Q E_
inductive dk (C:Addr) (vs:List V) (H:Hp) (Q:VK) (E_:XK):Prop
 | mk (t b:Addr) (p n f:Int) (z:Stp) (h0_:vs=[.ref t,.ref b]) (h1_:TabAt C H t p n f) (h2_:(0≤n∧n≤10)) (h3_:H b=some (.tup z.vs)) (h4_:ox H Q ((z.dealers n).map V.int)):dk C vs H Q E_
theorem bO (n:Int):(bE n).length=n.toNat:=by unfold bE eS;rw [lH,vo]
theorem gY {n:Int} (h:0≤n) (z:Stp):((z.dealers n).length:Int)=z.need n:=by
 cases z<;>simp only [Stp.dealers,Stp.need,bO,vh,List.length_nil]<;>omega
theorem nN (f n:Int):∀ ss:List Stp,aY f n ss=f*(ss.map fun z=>z.need n).sum
 | []=>by simp [aY]
 | z::r=>by rw [aY,nN f n r,vV,List.sum_cons,wS]
inductive lN (C cS:Addr) (vs:List V) (H:Hp) (Q:VK) (E:XK):Prop
 | mk (t a:Addr) (p n f:Int) (ws:List V) (ss:List Stp) (h0_:vs=[.ref t,.ref a]) (h1_:TabAt C H t p n f) (h2_:(0≤n∧n≤10)) (h3_:(0≤f∧f≤2)) (h4_:H a=some (.lst ws)) (h5_:StpsAt H ws ss) (h6_:(aR p n ss=true→cB H Q (.int (aY f n ss)))) (h7_:(aR p n ss=false→∀ H',Same H H'→E (.ref cS) none H')):lN C cS vs H Q E
end Veil
namespace Veil
open PySem L2
end Veil
namespace Veil
open PySem L2
def ql (t1 t2 t3 t4 t5 t6 t7 t8:Addr):List (Key×V):=[((Sum.inr (Str.ofString "in"):Key),V.ref t1),((Sum.inr (Str.ofString "fix"):Key),V.ref t2),((Sum.inr (Str.ofString "sum"):Key),V.ref t3),((Sum.inr (Str.ofString "less"):Key),V.ref t4),((Sum.inr (Str.ofString "by"):Key),V.ref t5),((Sum.inr (Str.ofString "mul"):Key),V.ref t6),((Sum.inr (Str.ofString "anew"):Key),V.ref t7),((Sum.inr (Str.ofString "open"):Key),V.ref t8)]
theorem i6 {K:PySem.W.Frag}{t:Addr}{dd:Option Addr}{its:Array Value}{n:Nat}{sl:Array (Option Value)}{xs:List V} (l:K.lookup t=some ⟨.type "tuple",dd,.seq its n,sl⟩) (v:Vals xs its.toList) (hl:xs.length≤100) (H:Hp):SqT K H t xs:=.inr ⟨_,its,n,l,rfl,rfl,by have:=v.length;simp only [wg] at this;rw [← this];exact small (by omega),v⟩
theorem frm_mk {P:Program}{w:World}{K:PySem.W.Frag}{mg:Str→Option Value}{fa t1 t2 t3 t4 t5 t6 t7 t8:Addr}{k1 k2 k3 k4 k5 k6 k7 k8:Tok} (g:mg "FORMS"=some (.ref fa)) (sF:(fa == sysModules)=false) (lk:K.lookup fa=some { cls:=.type "dict",data:=.dict #[{ hash:=PyData.keyHash w.params (Str.ofString "in"),key:=.str (Str.ofString "in") k1,val:=.ref t1 },{ hash:=PyData.keyHash w.params (Str.ofString "fix"),key:=.str (Str.ofString "fix") k2,val:=.ref t2 },{ hash:=PyData.keyHash w.params (Str.ofString "sum"),key:=.str (Str.ofString "sum") k3,val:=.ref t3 },{ hash:=PyData.keyHash w.params (Str.ofString "less"),key:=.str (Str.ofString "less") k4,val:=.ref t4 },{ hash:=PyData.keyHash w.params (Str.ofString "by"),key:=.str (Str.ofString "by") k5,val:=.ref t5 },{ hash:=PyData.keyHash w.params (Str.ofString "mul"),key:=.str (Str.ofString "mul") k6,val:=.ref t6 },{ hash:=PyData.keyHash w.params (Str.ofString "anew"),key:=.str (Str.ofString "anew") k7,val:=.ref t7 },{ hash:=PyData.keyHash w.params (Str.ofString "open"),key:=.str (Str.ofString "open") k8,val:=.ref t8 }] 8 })
  (h1:∀ H,SqT K H t1 [.str "hand"]) (h2:∀ H,SqT K H t2 [.str "number"]) (h3:∀ H,SqT K H t3 [.str "step",.str "step"]) (h4:∀ H,SqT K H t4 [.str "step",.str "step"]) (h5:∀ H,SqT K H t5 [.str "step",.str "number"]) (h6:∀ H,SqT K H t6 [.str "step",.str "step"]) (h7:∀ H,SqT K H t7 [.str "step"]) (h8:∀ H,SqT K H t8 [.str "step"]):Frm P w K mg fa (ql t1 t2 t3 t4 t5 t6 t7 t8):=by
 refine ⟨g,⟨sF,_,[((Sum.inr (Str.ofString "in"):Key),Value.ref t1),((Sum.inr (Str.ofString "fix"):Key),Value.ref t2),((Sum.inr (Str.ofString "sum"):Key),Value.ref t3),((Sum.inr (Str.ofString "less"):Key),Value.ref t4),((Sum.inr (Str.ofString "by"):Key),Value.ref t5),((Sum.inr (Str.ofString "mul"):Key),Value.ref t6),((Sum.inr (Str.ofString "anew"):Key),Value.ref t7),((Sum.inr (Str.ofString "open"):Key),Value.ref t8)],lk,⟨_,_,⟨rfl,rfl,rfl⟩,rfl,?_,?_,?_⟩,?_⟩,fun s=>?_⟩
 ·intro e q
  simp only [List.mem_toArray,u8,ve,or_false] at q
  rcases q with r | r | r | r | r | r | r | r<;>rw [r]<;>exact ⟨_,bK P w _ _,rfl⟩
 ·exact .cons (bK P w _ _) rfl (.cons (bK P w _ _) rfl (.cons (bK P w _ _) rfl (.cons (bK P w _ _) rfl (.cons (bK P w _ _) rfl (.cons (bK P w _ _) rfl (.cons (bK P w _ _) rfl (.cons (bK P w _ _) rfl (.nil))))))))
 ·show List.Nodup [(Sum.inr (Str.ofString "in"):Key),(Sum.inr (Str.ofString "fix"):Key),(Sum.inr (Str.ofString "sum"):Key),(Sum.inr (Str.ofString "less"):Key),(Sum.inr (Str.ofString "by"):Key),(Sum.inr (Str.ofString "mul"):Key),(Sum.inr (Str.ofString "anew"):Key),(Sum.inr (Str.ofString "open"):Key)]
  clear lk h1 h2 h3 h4 h5 h6 h7 h8 g sF
  decide +kernel
 ·exact .cons ⟨rfl,rfl⟩ (.cons ⟨rfl,rfl⟩ (.cons ⟨rfl,rfl⟩ (.cons ⟨rfl,rfl⟩ (.cons ⟨rfl,rfl⟩ (.cons ⟨rfl,rfl⟩ (.cons ⟨rfl,rfl⟩ (.cons ⟨rfl,rfl⟩ (.nil))))))))
 ·have look:∀ k:Key,oE (ql t1 t2 t3 t4 t5 t6 t7 t8) k=if (Sum.inr (Str.ofString "in"):Key)=k then some (V.ref t1) else if (Sum.inr (Str.ofString "fix"):Key)=k then some (V.ref t2) else if (Sum.inr (Str.ofString "sum"):Key)=k then some (V.ref t3) else if (Sum.inr (Str.ofString "less"):Key)=k then some (V.ref t4) else if (Sum.inr (Str.ofString "by"):Key)=k then some (V.ref t5) else if (Sum.inr (Str.ofString "mul"):Key)=k then some (V.ref t6) else if (Sum.inr (Str.ofString "anew"):Key)=k then some (V.ref t7) else if (Sum.inr (Str.ofString "open"):Key)=k then some (V.ref t8) else none:=fun k=>by
   unfold ql
   repeat' split
   all_goals first
    | (rw [jv (by assumption)])
    | skip
   all_goals repeat (first | rw [jv (by assumption)] | rw [lq (by assumption)])
   all_goals rfl
  cases s
  case ein=>exact ⟨t1,by have e:=look (Sum.inr (Str.ofString "in"));rw [if_pos rfl] at e;exact e,h1⟩
  case fix=>exact ⟨t2,by have e:=look (Sum.inr (Str.ofString "fix"));rw [if_neg (show ¬ (Sum.inr (Str.ofString "in"):Key)=Sum.inr (Str.ofString "fix") by decide +kernel)] at e;rw [if_pos rfl] at e;exact e,h2⟩
  case bye=>exact ⟨t5,by have e:=look (Sum.inr (Str.ofString "by"));rw [if_neg (show ¬ (Sum.inr (Str.ofString "in"):Key)=Sum.inr (Str.ofString "by") by decide +kernel)] at e;rw [if_neg (show ¬ (Sum.inr (Str.ofString "fix"):Key)=Sum.inr (Str.ofString "by") by decide +kernel)] at e;rw [if_neg (show ¬ (Sum.inr (Str.ofString "sum"):Key)=Sum.inr (Str.ofString "by") by decide +kernel)] at e;rw [if_neg (show ¬ (Sum.inr (Str.ofString "less"):Key)=Sum.inr (Str.ofString "by") by decide +kernel)] at e;rw [if_pos rfl] at e;exact e,h5⟩
  case sum=>exact ⟨t3,by have e:=look (Sum.inr (Str.ofString "sum"));rw [if_neg (show ¬ (Sum.inr (Str.ofString "in"):Key)=Sum.inr (Str.ofString "sum") by decide +kernel)] at e;rw [if_neg (show ¬ (Sum.inr (Str.ofString "fix"):Key)=Sum.inr (Str.ofString "sum") by decide +kernel)] at e;rw [if_pos rfl] at e;exact e,h3⟩
  case less=>exact ⟨t4,by have e:=look (Sum.inr (Str.ofString "less"));rw [if_neg (show ¬ (Sum.inr (Str.ofString "in"):Key)=Sum.inr (Str.ofString "less") by decide +kernel)] at e;rw [if_neg (show ¬ (Sum.inr (Str.ofString "fix"):Key)=Sum.inr (Str.ofString "less") by decide +kernel)] at e;rw [if_neg (show ¬ (Sum.inr (Str.ofString "sum"):Key)=Sum.inr (Str.ofString "less") by decide +kernel)] at e;rw [if_pos rfl] at e;exact e,h4⟩
  case mul=>exact ⟨t6,by have e:=look (Sum.inr (Str.ofString "mul"));rw [if_neg (show ¬ (Sum.inr (Str.ofString "in"):Key)=Sum.inr (Str.ofString "mul") by decide +kernel)] at e;rw [if_neg (show ¬ (Sum.inr (Str.ofString "fix"):Key)=Sum.inr (Str.ofString "mul") by decide +kernel)] at e;rw [if_neg (show ¬ (Sum.inr (Str.ofString "sum"):Key)=Sum.inr (Str.ofString "mul") by decide +kernel)] at e;rw [if_neg (show ¬ (Sum.inr (Str.ofString "less"):Key)=Sum.inr (Str.ofString "mul") by decide +kernel)] at e;rw [if_neg (show ¬ (Sum.inr (Str.ofString "by"):Key)=Sum.inr (Str.ofString "mul") by decide +kernel)] at e;rw [if_pos rfl] at e;exact e,h6⟩
  case anew=>exact ⟨t7,by have e:=look (Sum.inr (Str.ofString "anew"));rw [if_neg (show ¬ (Sum.inr (Str.ofString "in"):Key)=Sum.inr (Str.ofString "anew") by decide +kernel)] at e;rw [if_neg (show ¬ (Sum.inr (Str.ofString "fix"):Key)=Sum.inr (Str.ofString "anew") by decide +kernel)] at e;rw [if_neg (show ¬ (Sum.inr (Str.ofString "sum"):Key)=Sum.inr (Str.ofString "anew") by decide +kernel)] at e;rw [if_neg (show ¬ (Sum.inr (Str.ofString "less"):Key)=Sum.inr (Str.ofString "anew") by decide +kernel)] at e;rw [if_neg (show ¬ (Sum.inr (Str.ofString "by"):Key)=Sum.inr (Str.ofString "anew") by decide +kernel)] at e;rw [if_neg (show ¬ (Sum.inr (Str.ofString "mul"):Key)=Sum.inr (Str.ofString "anew") by decide +kernel)] at e;rw [if_pos rfl] at e;exact e,h7⟩
  case opn=>exact ⟨t8,by have e:=look (Sum.inr (Str.ofString "open"));rw [if_neg (show ¬ (Sum.inr (Str.ofString "in"):Key)=Sum.inr (Str.ofString "open") by decide +kernel)] at e;rw [if_neg (show ¬ (Sum.inr (Str.ofString "fix"):Key)=Sum.inr (Str.ofString "open") by decide +kernel)] at e;rw [if_neg (show ¬ (Sum.inr (Str.ofString "sum"):Key)=Sum.inr (Str.ofString "open") by decide +kernel)] at e;rw [if_neg (show ¬ (Sum.inr (Str.ofString "less"):Key)=Sum.inr (Str.ofString "open") by decide +kernel)] at e;rw [if_neg (show ¬ (Sum.inr (Str.ofString "by"):Key)=Sum.inr (Str.ofString "open") by decide +kernel)] at e;rw [if_neg (show ¬ (Sum.inr (Str.ofString "mul"):Key)=Sum.inr (Str.ofString "open") by decide +kernel)] at e;rw [if_neg (show ¬ (Sum.inr (Str.ofString "anew"):Key)=Sum.inr (Str.ofString "open") by decide +kernel)] at e;rw [if_pos rfl] at e;exact e,h8⟩
end Veil
namespace L2
open PySem PySem.Spec PyProof.Rows
open PySem.W (Dat kqdP kqdPs kqdOk)
def rCountD:V→List V→Hp→VK→Prop:=fun x vs H Q=>∃ (a:Addr) (xs:List V) (ds:List Dat) (y:V) (d:Dat),x=.ref a∧vs=[y]∧H a=some (.lst xs)∧RepDs H xs ds∧RepD H y d∧(∀ e∈ds,kqdOk 8 e=true)∧kqdOk 8 d=true∧Q (.int ((ds.countP fun e=>PyData.eqv (kqdP e) (kqdP d):Nat):Int)) H
theorem nU:∀ ds:List Dat,kqdPs ds=ds.map kqdP
 | []=>rfl
 | d::ds=>by rw [kqdPs,nU ds];rfl
theorem ue {X:Cx} (hu:X.A.units+64<cLine):MtR X "list.count" rCountD:=by
 intro pins s σ H x vs v us Q I rx rv h
 obtain ⟨a,xs,ds,y,d,rfl,rfl,ha,O,hy,ka,kd,q⟩:=h
 cases rx
 obtain ⟨u,rfl,ru⟩:=rv.one
 obtain ⟨_,G,m,R,Z⟩:=(show ObjOk X.prog X.w H s.heap a (.lst xs) from I.hok a _ ha)
 obtain ⟨as,ra⟩:=RepDs.reads I 8 O R ka
 obtain ⟨bs,ag⟩:=hy.reads I 8 ru kd
 have l:=PySem.W.kqd_layL ka
 have ld:=PySem.W.kqd_lay 8 d kd
 have J:ReadsAll s.heap G.toArray.toList (kqdPs ds) as:=by simpa using ra
 refine call_meets F.slot_list_count ⟨_,Z,rfl⟩ F.entry_list_count (F.args_list_count_2 _ _) (SeqAt.list_countAt a G.toArray m none #[] u (fun z=>PyData.eqv (SeqAt.readOf s.heap z) (kqdP d))) ⟨Z,SeqAt.items_eqAt J ag l.1 ld.1 ?_,?_⟩
 ·have:=Nat.min_le_right (PyData.depthAll (kqdPs ds)) (kqdP d).depth
  have h2:=ld.2
  omega
 ·refine ⟨.int _,H,I.tok _,⟨_,rfl⟩,?_⟩
  have e:G.toArray.toList.countP (fun z=>PyData.eqv (SeqAt.readOf s.heap z) (kqdP d))=ds.countP (fun e=>PyData.eqv (kqdP e) (kqdP d)):=by
   have Y:=SeqAt.readsAll_map (kqdPs ds) _ _ l.1 J
   rw [nU] at Y
   have U:=congrArg (List.countP fun z=>PyData.eqv z (kqdP d)) Y
   rw [List.countP_map,List.countP_map] at U
   exact U
  rw [e]
  exact q
theorem eqv_iff {e d:Dat} (he:kqdOk 8 e=true) (hd:kqdOk 8 d=true):PyData.eqv (kqdP e) (kqdP d)=true↔e=d:=by
 have:=PySem.W.kqd_any [e] d (fun x hx=>by rw [u9.mp hx];exact he) hd
 simp only [kqdPs,List.any_cons,List.any_nil,Bool.or_false,u9] at this
 rw [this]
 exact eq_comm
end L2
namespace Veil
open PySem L2
open PySem.W (Dat kqdP kqdPs kqdOk)
inductive ic (C:Addr) (vs:List V) (H:Hp) (Q:VK) (E_:XK):Prop
 | mk (t r:Addr) (p n f:Int) (ns:List Int) (h0_:vs=[.ref t,.ref r]) (h1_:TabAt C H t p n f) (h2_:H r=some (.lst (ns.map V.int))) (h3_:ns.length≤1000) (h4_:cB H Q (.bl (ns.all (kI p)))):ic C vs H Q E_
theorem nums_iff {p:Int}{ns:List Int}:ns.all (kI p)=true↔∀ x∈ns,0≤x∧x<p:=by
 rw [vv]
 exact forall_congr' fun x=>forall_congr' fun _=>by unfold kI;rw [decide_eq_true_eq]
inductive mV (vs:List V) (H:Hp) (Q:VK) (E_:XK):Prop
 | mk (a:Addr) (h:Int) (ws:List V) (ss:List Stp) (h0_:vs=[.ref a,.int h]) (h1_:H a=some (.lst ws)) (h2_:StpsAt H ws ss) (h3_:cB H Q (.int (aS ss h:Int))):mV vs H Q E_
theorem qR (ss:List Stp) (h:Int):(ss.map Stp.dat).countP (fun e=>PyData.eqv (kqdP e) (kqdP (Stp.ein h).dat))=aS ss h:=by
 unfold aS
 rw [List.countP_map,List.countP_eq_length_filter]
 congr 1
 apply List.filter_congr
 intro s _
 show PyData.eqv (kqdP s.dat) (kqdP (Stp.ein h).dat)=_
 exact wI.mpr ((eqv_iff s.ok8 (Stp.ein h).ok8).trans (dat_ein.trans decide_eq_true_iff.symm))
def eB (p n:Int) (ss:List Stp) (inp:List (List Int)):Bool:=decide ((inp.length:Int)=n) && (List.range inp.length).all fun i=>decide (aS ss (1+(i:Int))≤(inp.getD i []).length) && (inp.getD i []).all (kI p)
theorem dI {p n:Int}{ss:List Stp}{inp:List (List Int)} (hn:0≤n):eB p n ss inp=true↔InsOk p n ss inp:=by
 unfold eB
 rw [vx,decide_eq_true_eq,vv]
 constructor
 ·rintro ⟨hl,h⟩
  have G:inp.length=n.toNat:=by omega
  refine ⟨G,fun r hr x F=>?_,fun k h1 h2=>?_⟩
  ·obtain ⟨i,hi⟩:=vU hr
   have q:=(u3.mp hi).1
   have:=h i (vH.mpr q)
   rw [vx,nn,hi] at this
   exact nums_iff.mp this.2 x F
  ·have:=h (k - 1).toNat (vH.mpr (by omega))
   rw [vx,decide_eq_true_eq,show 1+(((k - 1).toNat:Nat):Int)=k by omega] at this
   exact this.1
 ·rintro ⟨hl,hb,I⟩
  refine ⟨by omega,fun i hi=>?_⟩
  have q:=vH.mp hi
  rw [vx,decide_eq_true_eq]
  have e:bU inp (1+(i:Int))=inp.getD i []:=by unfold bU;rw [show (1+(i:Int) - 1).toNat=i by omega]
  refine ⟨?_,nums_iff.mpr fun x F=>?_⟩
  ·rw [← e]
   exact I _ (by omega) (by omega)
  ·rw [nn,rz q] at F
   exact hb _ (v0 q) x F
inductive gP (C:Addr) (vs:List V) (H:Hp) (Q:VK) (E_:XK):Prop
 | mk (t a b:Addr) (p n f:Int) (ws:List V) (ss:List Stp) (is:List Addr) (inp:List (List Int)) (h0_:vs=[.ref t,.ref a,.ref b]) (h1_:TabAt C H t p n f) (h2_:H a=some (.lst ws)) (h3_:StpsAt H ws ss) (h4_:H b=some (.lst (is.map V.ref))) (h5_:InsAt H is inp) (h6_:(∀ r∈inp,r.length≤1000)) (h7_:cB H Q (.bl (eB p n ss inp))):gP C vs H Q E_
inductive cn (C cI:Addr) (vs:List V) (H:Hp) (Q:VK) (E:XK):Prop
 | mk (t a b:Addr) (p n f:Int) (ws:List V) (ss:List Stp) (is:List Addr) (inp:List (List Int)) (h0_:vs=[.ref t,.ref a,.ref b]) (h1_:TabAt C H t p n f) (h2_:H a=some (.lst ws)) (h3_:StpsAt H ws ss) (h4_:H b=some (.lst (is.map V.ref))) (h5_:InsAt H is inp) (h6_:(∀ r∈inp,r.length≤1000)) (h7_:(eB p n ss inp=true→cB H Q .non)) (h8_:(eB p n ss inp=false→∀ H',Same H H'→E (.ref cI) none H')):cn C cI vs H Q E
def nY (ss:List Stp) (inp:List (List Int)) (i:Nat) (h:Int):Int:=(bU inp h).getD (aS (ss.take i) h) 0
inductive hZ (vs:List V) (H:Hp) (Q:VK) (E_:XK):Prop
 | mk (a b:Addr) (i:Nat) (h p n:Int) (ws:List V) (ss:List Stp) (is:List Addr) (inp:List (List Int)) (h0_:vs=[.ref a,.int (i:Int),.ref b]) (h1_:H a=some (.lst ws)) (h2_:StpsAt H ws ss) (h3_:ss.length≤100) (h4_:ss[i]?=some (.ein h)) (h5_:H b=some (.lst (is.map V.ref))) (h6_:InsAt H is inp) (h7_:InsOk p n ss inp) (h8_:(1≤h∧h≤n)) (h9_:cB H Q (.int (nY ss inp i h))):hZ vs H Q E_
def recV (p:Int) (fd:List Int):Stp→Int
 | .ein _=>0
 | .fix x=>x
 | .bye a x=>fd.getD a.toNat 0*x%p
 | .sum a b=>(fd.getD a.toNat 0+fd.getD b.toNat 0)%p
 | .less a b=>(fd.getD a.toNat 0 - fd.getD b.toNat 0)%p
 | .mul a b=>fd.getD a.toNat 0*fd.getD b.toNat 0%p
 | .anew a=>fd.getD a.toNat 0
 | .opn a=>fd.getD a.toNat 0
inductive eO (C:Addr) (vs:List V) (H:Hp) (Q:VK) (E_:XK):Prop
 | mk (t b r:Addr) (p n f:Int) (z:Stp) (fd:List Int) (h0_:vs=[.ref t,.ref b,.ref r]) (h1_:TabAt C H t p n f) (h2_:(0<p∧p≤31)) (h3_:H b=some (.tup z.vs)) (h4_:H r=some (.lst (fd.map V.int))) (h5_:z.Right p n (fd.length:Int)) (h6_:(∀ h,z≠.ein h)) (h7_:(∀ x∈fd,0≤x∧x<p)) (h8_:cB H Q (.int (recV p fd z))):eO C vs H Q E_
theorem mQ {ss:List Stp}{i:Nat}{h:Int} (hs:ss[i]?=some (.ein h)):aS (ss.take i) h<aS ss h:=by
 have e1:=jH (h:=h) hs
 rw [if_pos rfl] at e1
 have e2:aS ss h=aS (ss.take (i+1)) h+aS (ss.drop (i+1)) h:=by
  rw [← pK,List.take_append_drop]
 omega
def Rests (n:Int) (ss:List Stp) (inp rest:List (List Int)) (i:Nat):Prop:=∀ h,1≤h→h≤n→bU rest h=(bU inp h).drop (aS (ss.take i) h)
theorem Rests.start {n:Int}{ss:List Stp}{inp:List (List Int)}:Rests n ss inp inp 0:=fun h _ _=>by simp [aS]
theorem Rests.next {p n:Int}{ss:List Stp}{inp rest:List (List Int)}{i:Nat} (R:Rests n ss inp rest i) (hl:rest.length=n.toNat) {s:Stp} (hs:ss[i]?=some s) (hr:s.Right p n (i:Int)):Rests n ss inp (eY rest s) (i+1):=by
 intro h h1 h2
 rw [jH hs]
 cases s with
 | ein k =>
  show bU (rest.set (k - 1).toNat (bU rest k).tail) h=_
  have q:=hr.1
  have F:=hr.2
  rw [qi q h1 (by omega)]
  by_cases e:h=k
  ·subst e
   rw [if_pos rfl,if_pos rfl,R h h1 h2,List.tail_drop]
  ·rw [if_neg e,if_neg (fun z=>e (by injection z with z;exact z.symm)),Nat.add_zero]
   exact R h h1 h2
 | _=>rw [if_neg (fun z=>nomatch z),Nat.add_zero];exact R h h1 h2
theorem lC {p n:Int}{ss:List Stp}{inp rest:List (List Int)}{i:Nat}{fd:List Int} (R:Rests n ss inp rest i) {h:Int} (h1:1≤h) (h2:h≤n):jh p rest fd (.ein h)=nY ss inp i h:=by
 show (bU rest h).headD 0=_
 unfold nY
 rw [R h h1 h2,nn]
 rw [List.headD_eq_head?_getD,List.head?_drop]
theorem stpV_rec {p:Int}{rest:List (List Int)}{fd:List Int}{s:Stp} (h:∀ k,s≠.ein k):jh p rest fd s=recV p fd s:=by
 cases s with
 | ein k=>exact absurd rfl (h k)
 | _=>rfl
inductive lK (C cS cI:Addr) (vs:List V) (H:Hp) (Q:VK) (E:XK):Prop
 | mk (t a b:Addr) (p n f:Int) (ws:List V) (ss:List Stp) (is:List Addr) (inp:List (List Int)) (h0_:vs=[.ref t,.ref a,.ref b]) (h1_:TabAt C H t p n f) (h2_:(0<p∧p≤31)) (h3_:(0≤n∧n≤10)) (h4_:H a=some (.lst ws)) (h5_:StpsAt H ws ss) (h6_:H b=some (.lst (is.map V.ref))) (h7_:InsAt H is inp) (h8_:(∀ r∈inp,r.length≤1000)) (h9_:(aR p n ss=true→eB p n ss inp=true→ox H Q ((aD p ss inp).map V.int))) (h10_:(aR p n ss=false→∀ H',Same H H'→E (.ref cS) none H')) (h11_:(aR p n ss=true→eB p n ss inp=false→∀ H',Same H H'→E (.ref cI) none H')):lK C cS cI vs H Q E
end Veil
namespace L2
open PySem PySem.Spec PyProof.Rows
open PySem.W (Looks looks_findIn looks_mroIn findIn mroIn)
section
variable {prog:Program}{w:World}{A:Around}{hh:Heap}{g:Array GenState}{d:Drawn}{t:Nat}{os:OsState}{a C:Addr}
end
structure ExCls (K:PySem.W.Frag) (C:Addr):Prop where
 ga:findIn K (.ref C) "__getattribute__"=some (some (.builtin "BaseException.__getattribute__"))
 gt:findIn K (.ref C) "__getattr__"=some none
 cl:findIn K (.ref C) "__class__"=some (some (.builtin "object.__class__"))
 mB:mroIn K C (.type "BaseException")=some true
 mO:mroIn K C (.type "object")=some true
end L2
namespace L2
open PySem PySem.Spec PyProof.Rows
end L2
namespace Veil
open PySem L2
theorem og {K:PySem.W.Frag}{ib R:Addr}{is:List Addr}{inp:List (List Int)}{H:Hp}{Q:Hp→Prop}{tl:St} (hib:H ib=some (.lst (is.map V.ref))) (hin0:InsAt H is inp) (inl:inp.length≤100) (hR:H R=none)
  (hd:∀ H2 as,Same H H2→as.Nodup→R∉as→(∀ b∈as,H b=none)→InsAt H2 as inp→H2 R=some (.lst (as.map V.ref))→Q H2) :
  ∃ W:Nat→Nat→List V→Hp→Prop,(∃ m,W 0 m [] (upd H R (.lst [])))∧i8 1 (Itl K ib) (ux 0) tYes (tCB (fun xs H Q=>∃ (p:Addr) (ys:List V),xs=[.ref p]∧(SqL K H p ys∨SqT K H p ys)∧∀ l:Addr,H l=none→Q (.ref l) (upd H l (.lst ys))) (sQ (tVar 0) tNil)) tl R Q W:=by
 have il:is.length=inp.length:=Paired.length hin0
 refine bF (K:=K) (a:=ib) (xs:=is.map V.ref) (fun j ys H2=>Same H H2∧∃ as:List Addr,ys=as.map V.ref∧as.Nodup∧R∉as∧(∀ b∈as,H b=none)∧InsAt H2 as (inp.take j)) ⟨am (Same.refl _) hR,[],rfl,.nil,(fun h=>nomatch h),(fun b h=>nomatch h),.nil⟩ ?_ ?_ ?_
 ·rintro j ys H2 _ ⟨F,_⟩
  exact SqL.of (F _ _ hib)
 ·rintro j y ys H2 hy ⟨F,as,rfl,U,J,I,q⟩ G
  obtain ⟨b,rfl,hb⟩:=cW hy
  obtain ⟨r,af,ab⟩:=(hin0.same F).get hb
  have al:as.length≤100:=by
   rw [Paired.length q,vj]
   omega
  refine ⟨⟨by show tl.length+1=1+tl.length;omega,rfl⟩,?_⟩
  refine ⟨_,rfl,b,_,rfl,.inl (SqL.of ab),fun d hd=>?_⟩
  have Y:=aj hd (.lst (r.map V.int))
  have Z:=q.there hd
  have dR:d≠R:=fun e=>by rw [e,G] at hd;cases hd
  have O:R∉as++[d]:=fun h=>by
   rcases vr.mp h with h | h
   ·exact J h
   ·have e:R=d:=by simpa using h
    exact dR e.symm
  refine ⟨Y _ _ G,by rw [lH];exact au (by omega),am (F.trans Y) hR,as++[d],by rw [u6];rfl,eV U Z,O,fun b hb=>?_,?_⟩
  ·rcases vr.mp hb with h | h
   ·exact I b h
   ·have e:b=d:=by simpa using h
    rw [e]
    exact F.free hd
  ·rw [vn,af]
   exact InsAt.off (InsAt.snoc (q.same Y) upd_same) O
 ·rintro ys H2 ⟨F,as,rfl,U,J,I,q⟩ G
  rw [lH,il,vI] at q
  exact hd H2 as F U J I q G
end Veil
namespace Veil
open PySem L2
theorem Paired.append {α β:Type}{R:α→β→Prop}:∀ {a c:List α}{b d:List β},Paired R a b→Paired R c d→Paired R (a++c) (b++d)
 | _,_,_,_,.nil,h=>h
 | _,_,_,_,.cons r t,h=>.cons r (Veil.Paired.append t h)
end Veil
namespace Veil
open PySem L2
open PySem.W (Dat kqdP kqdPs kqdOk)
def dU (inp:List (List Int)):Dat:=.list (inp.map fun r=>.list (r.map Dat.int))
theorem InsAt.rep {H:Hp}:∀ {as:List Addr}{inp:List (List Int)},InsAt H as inp→RepDs H (as.map V.ref) (inp.map fun r=>.list (r.map Dat.int))
 | _,_,.nil=>.nil
 | _,_,.cons z t=>.cons (.lst z (RepDs.ints _)) (InsAt.rep t)
theorem ins_ok (inp:List (List Int)):kqdOk 8 (dU inp)=true:=by
 show (inp.map fun r=>Dat.list (r.map Dat.int)).all (kqdOk 7)=true
 rw [wz]
 refine vv.mpr fun r _=>?_
 show (r.map Dat.int).all (kqdOk 6)=true
 rw [wz]
 exact vv.mpr fun x _=>rfl
end Veil
namespace L2
open PySem PySem.Spec PyProof.Rows
end L2
namespace Veil
open PySem L2
def oT (n:Int):Int→List Int→Bool
 | _,[]=>true
 | l,h::r=>if h≤l∨n<h then false else oT n h r
def l6 (n:Int) (hs:List Int):Bool:=oT n 0 hs
theorem risGo_iff {n:Int}:∀ {hs:List Int}{l:Int},oT n l hs=true↔(∀ h∈hs,l<h∧h≤n)∧hs.Pairwise (·<·)
 | [],l=>by simp [oT]
 | h::r,l=>by
  unfold oT
  by_cases c:h≤l∨n<h
  ·rw [if_pos c]
   refine ⟨fun z=>(nomatch z),fun z=>?_⟩
   have:=z.1 h vb
   omega
  ·rw [if_neg c,risGo_iff (hs:=r) (l:=h),List.pairwise_cons]
   constructor
   ·rintro ⟨h1,h2⟩
    refine ⟨fun k q=>?_,fun k q=>(h1 k q).1,h2⟩
    rcases u8.mp q with e | e
    ·subst e;omega
    ·have:=h1 k e;omega
   ·rintro ⟨h1,h2,h3⟩
    exact ⟨fun k q=>⟨h2 k q,(h1 k (vd _ q)).2⟩,h3⟩
theorem risB_iff {n:Int}{hs:List Int}:l6 n hs=true↔(∀ h∈hs,1≤h∧h≤n)∧hs.Pairwise (·<·):=by
 unfold l6
 rw [risGo_iff]
 exact and_congr_left fun _=>forall_congr' fun h=>forall_congr' fun _=>by omega
inductive lJ (C:Addr) (vs:List V) (H:Hp) (Q:VK) (E_:XK):Prop
 | mk (t s:Addr) (p n f:Int) (hs:List Int) (h0_:vs=[.ref t,.ref s]) (h1_:TabAt C H t p n f) (h2_:H s=some (.lst (hs.map V.int))) (h3_:cB H Q (.bl (l6 n hs))):lJ C vs H Q E_
inductive dA (C cH:Addr) (vs:List V) (H:Hp) (Q:VK) (E:XK):Prop
 | mk (t s:Addr) (p n f:Int) (hs:List Int) (h0_:vs=[.ref t,.ref s]) (h1_:TabAt C H t p n f) (h2_:H s=some (.lst (hs.map V.int))) (h3_:(l6 n hs=true→cB H Q .non)) (h4_:(l6 n hs=false→∀ H',Same H H'→E (.ref cH) none H')):dA C cH vs H Q E
def gD (p sl:Int) (row:List Int):List Int:=List.zipWith (fun h b=>(h - sl*b)%p) (row++[0]) (0::row)
theorem iK (p sl:Int) (row:List Int):gD p sl row=kr p (-sl) (row++[0]) (0::row):=by
 unfold gD kr
 congr 1
 funext b h
 rw [Int.neg_mul,Int.sub_eq_add_neg]
theorem mM (p sl:Int) (row:List Int):(gD p sl row).length=row.length+1:=by rw [iK,gC];simp
theorem veilS_b {p sl:Int} (hp:0<p) (row:List Int):∀ v∈gD p sl row,0≤v∧v<p:=by rw [iK];exact qF hp _ _
theorem qL {p sl:Int} (row:List Int) (z:Int):aL (gD p sl row) z%p=(1 - sl*z)*aL row z%p:=by
 rw [iK,eT _ _ _ (by simp),fC]
 congr 1
 simp only [aL]
 rw [wP,Int.neg_mul,Int.sub_mul,Int.one_mul,wH]
 omega
theorem qM {p sl:Int}{r:Int}{row:List Int} (h:0≤r∧r<p):(gD p sl (r::row)).head?=some r:=by
 show some ((r - sl*0)%p)=_
 rw [wE,Int.sub_zero,vO h.1 h.2]
def fV (p:Int) (hs:List Int):List Int:=hs.foldl (fun row h=>gD p (bT p h) row) [1]
theorem qP (p:Int) (hs:List Int) (h:Int):fV p (hs++[h])=gD p (bT p h) (fV p hs):=by unfold fV;rw [List.foldl_append];rfl
theorem jG (p:Int) (hs:List Int):(fV p hs).length=hs.length+1:=by
 unfold fV
 have:∀ (hs row:List Int),(hs.foldl (fun row h=>gD p (bT p h) row) row).length=row.length+hs.length:=fun hs=>by
  induction hs with
  | nil=>intro row;rfl
  | cons h r ih=>intro row;rw [List.foldl_cons,ih,mM,vh];omega
 rw [this]
 simp
 omega
theorem sE {p:Int} (hp:1<p):∀ (hs:List Int),∀ v∈fV p hs,0≤v∧v<p:=by
 unfold fV
 have:∀ (hs row:List Int),(∀ v∈row,0≤v∧v<p)→∀ v∈hs.foldl (fun row h=>gD p (bT p h) row) row,0≤v∧v<p:=fun hs=>by
  induction hs with
  | nil=>intro row h;exact h
  | cons h r ih=>intro row _;exact ih _ (veilS_b (by omega) row)
 exact fun hs=>this hs [1] (fun v hv=>by rw [u9.mp hv];omega)
theorem qQ {p:Int} (hp:1<p) (hs:List Int):(fV p hs).head?=some 1:=by
 unfold fV
 have:∀ (hs row:List Int),(∃ r,row=1::r)→(hs.foldl (fun row h=>gD p (bT p h) row) row).head?=some 1:=fun hs=>by
  induction hs with
  | nil=>rintro row ⟨r,rfl⟩;rfl
  | cons h r ih =>
   rintro row ⟨F,rfl⟩
   refine ih _ ?_
   have e:=qM (p:=p) (sl:=bT p h) (r:=1) (row:=F) ⟨by omega,hp⟩
   cases q:gD p (bT p h) (1::F) with
   | nil=>rw [q] at e;cases e
   | cons a b=>rw [q] at e;cases e;exact ⟨b,q⟩
 exact this hs [1] ⟨[],rfl⟩
theorem qO {p:Int} (hp:p∈primes9):∀ (hs:List Int),(∀ h∈hs,1≤h∧h<p)→∀ h∈hs,aL (fV p hs) h%p=0:=by
 unfold fV
 have:∀ (hs q:List Int) (z:Int),(∀ h∈hs,1≤h∧h<p)→(aL q z%p=0∨z∈hs)→aL (hs.foldl (fun q h=>gD p (bT p h) q) q) z%p=0:=fun hs=>by
  induction hs with
  | nil=>intro q z _ h;rcases h with h | h;exact h;cases h
  | cons h r ih =>
   intro q z hb hz
   refine ih _ z (fun k G=>hb k (vd _ G)) ?_
   by_cases e:z∈r
   ·exact .inr e
   refine .inl ?_
   rw [qL]
   rcases hz with hz | hz
   ·rw [vL,hz,wE,Int.zero_emod]
   ·rcases u8.mp hz with e' | e'
    ·subst e'
     have F:=hb z vb
     have bk:=(gB hp (x:=z) (by rw [vO (by omega) F.2];omega)).2
     have I:(1 - bT p z*z)%p=0:=by
      rw [Int.sub_emod,wO,bk]
      have:(1:Int)%p=1:=vO (by decide) (by omega)
      rw [this]
      rfl
     rw [vL,I,Int.zero_mul,Int.zero_emod]
    ·exact absurd e' e
 exact fun hs hb h hh=>this hs [1] h hb (.inr hh)
def bv (p:Int) (f:Nat) (hs:List Int):List Int:=fV p hs++List.replicate (f+1 - (hs.length+1)) 0
inductive oF (C cH cN:Addr) (vs:List V) (H:Hp) (Q:VK) (E:XK):Prop
 | mk (t s:Addr) (p n f:Int) (hs:List Int) (h0_:vs=[.ref t,.ref s]) (h1_:TabAt C H t p n f) (h2_:p∈primes9) (h3_:(0≤n∧n<p)) (h4_:(0≤f∧f≤2)) (h5_:H s=some (.lst (hs.map V.int))) (h6_:(l6 n hs=true→(hs.length:Int)≤f→ox H Q ((bv p f.toNat hs).map V.int))) (h7_:(l6 n hs=false→∀ H',Same H H'→E (.ref cH) none H')) (h8_:(l6 n hs=true→f<(hs.length:Int)→∀ H',Same H H'→E (.ref cN) none H')):oF C cH cN vs H Q E
end Veil
namespace Veil
open PySem L2
end Veil
namespace L2
open PySem PySem.Spec PyProof.Rows
def MOk (P:Program) (w:World) (K:PySem.W.Frag) (mg:Str→Option Value) (base:Heap) (CX:CXT) (k:Nat) (C:Addr) (m:Str) (ps:List Str) (sp:Sp):Prop:=∃ f fd,Cls K C∧uW K C m f∧ju P w K mg base CX k f fd ps sp∧Binds K fd ps []
section
variable {X:Cx}{k j:Nat}{C:Addr}{m:Str}{ps:List Str}{sp:Sp}{o e:Expr}{es:List Expr}{ta:TE}{t:TA}{apos pos:Pos}
theorem fG {pl:Sem Bool} (O:MOk X.prog X.w X.K X.mg X.base CX0 k C m ps sp) (hr:Room j X.A) (he:PE X o ta) (ha:PA X (e::es) t) (hle:k≤j:=by decide)
  (hst:starEach (e::es) X.env=(false,eval e X.env)::starEach es X.env:=by rfl) (hpl:(backTo pos (starEach es X.env)).any (·.1)=false:=by rfl)
  (ht:eval (.Call (.Attribute o m apos) (e::es) [] pos) X.env=(do let ov ← eval o X.env;standAt apos.atName;let (f,first) ← holding [ov] (getMethod ov m pl);callWith pos f first (backTo pos (starEach (e::es) X.env)) (backToKw pos (keywordEach [] X.env))):=by rfl) :
  PE X (.Call (.Attribute o m apos) (e::es) [] pos) (tMeth C m sp [] E0 ta t):=by
 obtain ⟨f,fd,c,q,F,b⟩:=O
 exact pe_meth he c q F (hr.mono hle) b .nil pass0 ha hst hpl ht
theorem dn {pl:Sem Bool} (O:MOk X.prog X.w X.K X.mg X.base CX0 k C m ps sp) (hr:Room j X.A) (he:PE X o ta) (hle:k≤j:=by decide)
  (ht:eval (.Call (.Attribute o m apos) [] [] pos) X.env=(do let ov ← eval o X.env;standAt apos.atName;let (f,first) ← holding [ov] (getMethod ov m pl);callWith pos f first (backTo pos (starEach [] X.env)) (backToKw pos (keywordEach [] X.env))):=by rfl) :
  PE X (.Call (.Attribute o m apos) [] [] pos) (tMeth C m sp [] E0 ta tNil):=by
 obtain ⟨f,fd,c,q,F,b⟩:=O
 exact pe_meth0 he c q F (hr.mono hle) b .nil pass0 ht
end
end L2
namespace Veil
open PySem L2
abbrev LL:=List (List Int)
abbrev jg:=Int×Int×Int×Int
def letV (l:jg):List V:=[.int l.1,.int l.2.1,.int l.2.2.1,.int l.2.2.2]
def LetsAt (H:Hp):List V→List jg→Prop:=Paired fun v l=>∃ a,v=.ref a∧H a=some (.tup (letV l))
theorem LetsAt.same {H H':Hp} (s:Same H H') {vs:List V}{ls:List jg} (h:LetsAt H vs ls):LetsAt H' vs ls:=Paired.mapP h fun v q ⟨a,e,z⟩=>⟨a,e,s _ _ z⟩
def SameX (ex:List Addr) (H H':Hp):Prop:=∀ x u,H x=some u→x∉ex→H' x=some u
def aN (f:Nat) (ch:List Int) (used k:Nat):LL:=(List.range k).map fun i:Nat=>(ch.drop (used+i*f)).take f
def bA (f:Nat) (n:Int) (ch:List Int):List Stp→Nat→List LL
 | [],_=>[]
 | z::r,used=>aN f ch used (z.dealers n).length::bA f n ch r (used+(z.dealers n).length*f)
def LLNew (H0 H:Hp):List Addr→List LL→Prop:=Paired fun a rows=>H0 a=none∧∃ bs:List Addr,H a=some (.lst (bs.map V.ref))∧InsAt H bs rows∧∀ b∈bs,H0 b=none
inductive cq (C:Addr) (vs:List V) (H:Hp) (Q:VK) (E_:XK):Prop
 | mk (t a c:Addr) (p n f:Int) (ws:List V) (ss:List Stp) (ch:List Int) (h0_:vs=[.ref t,.ref a,.ref c]) (h1_:TabAt C H t p n f) (h2_:(0≤n∧n≤10)) (h3_:(0≤f∧f≤2)) (h4_:H a=some (.lst ws)) (h5_:StpsAt H ws ss) (h6_:ss.length≤100) (h7_:H c=some (.lst (ch.map V.int))) (h8_:∀ d as H',Same H H'→H d=none→H' d=some (.lst (as.map V.ref))→LLNew H H' as (bA f.toNat n ch ss 0)→Q (.ref d) H'):cq C vs H Q E_
inductive hW (C:Addr) (vs:List V) (H:Hp) (Q:VK) (E_:XK):Prop
 | mk (t a b:Addr) (p n f:Int) (xs ys:List Int) (h0_:vs=[.ref t,.ref a,.ref b]) (h1_:TabAt C H t p n f) (h2_:(0<p∧p≤31)) (h3_:H a=some (.lst (xs.map V.int))) (h4_:H b=some (.lst (ys.map V.int))) (h5_:xs.length≤100) (h6_:(∀ v∈xs,0≤v∧v<p)) (h7_:(∀ v∈ys,0≤v∧v<p)) (h8_:cB H Q (.int ((List.zipWith (·*·) xs ys).sum%p))):hW C vs H Q E_
def jj (pl s:Int) (row:List Int):List jg:=(List.range row.length).filterMap fun i:Nat=>if 1+(i:Int)=s then none else some (pl,s,1+(i:Int),row.getD i 0)
def aV (pl:Int) (ss:List Int) (rows:LL):List jg:=((ss.zip rows).map fun q=>jj pl q.1 q.2).flatten
inductive gO (vs:List V) (H:Hp) (Q:VK) (E_:XK):Prop
 | mk (a b:Addr) (pl:Int) (ss:List Int) (bs:List Addr) (rows:LL) (h0_:vs=[.int pl,.ref a,.ref b]) (h1_:H a=some (.lst (ss.map V.int))) (h2_:ss.length≤10) (h3_:H b=some (.lst (bs.map V.ref))) (h4_:InsAt H bs rows) (h5_:(∀ r∈rows,r.length≤10)) (h6_:∀ d lvs H',Same H H'→H d=none→H' d=some (.lst lvs)→LetsAt H' lvs (aV pl ss rows)→Q (.ref d) H'):gO vs H Q E_
inductive eH (C cC:Addr) (vs:List V) (H:Hp) (Q:VK) (E:XK):Prop
 | mk (t a c:Addr) (p n f:Int) (ws:List V) (ss:List Stp) (ch:List Int) (h0_:vs=[.ref t,.ref a,.ref c]) (h1_:TabAt C H t p n f) (h2_:(0≤n∧n≤10)) (h3_:(0≤f∧f≤2)) (h4_:H a=some (.lst ws)) (h5_:StpsAt H ws ss) (h6_:H c=some (.lst (ch.map V.int))) (h7_:ch.length≤1000) (h8_:aR p n ss=true) (h9_:((ch.length:Int)=aY f n ss→ch.all (kI p)=true→cB H Q .non)) (h10_:(¬ ((ch.length:Int)=aY f n ss∧ch.all (kI p)=true)→∀ H',Same H H'→E (.ref cC) none H')):eH C cC vs H Q E
def dW (p f n:Int) (ss:List Stp) (ch:List Int):Bool:=decide ((ch.length:Int)=aY f n ss) && ch.all (kI p)
inductive eZ (C cS cI cC:Addr) (vs:List V) (H:Hp) (Q:VK) (E:XK):Prop
 | mk (t a b c:Addr) (p n f:Int) (ws:List V) (ss:List Stp) (is:List Addr) (inp:LL) (ch:List Int) (h0_:vs=[.ref t,.ref a,.ref b,.ref c]) (h1_:TabAt C H t p n f) (h2_:(0≤n∧n≤10)) (h3_:(0≤f∧f≤2)) (h4_:H a=some (.lst ws)) (h5_:StpsAt H ws ss) (h6_:H b=some (.lst (is.map V.ref))) (h7_:InsAt H is inp) (h8_:(∀ r∈inp,r.length≤1000)) (h9_:H c=some (.lst (ch.map V.int))) (h10_:ch.length≤1000) (h11_:(aR p n ss=true→eB p n ss inp=true→dW p f n ss ch=true→cB H Q .non)) (h12_:(aR p n ss=false→∀ H',Same H H'→E (.ref cS) none H')) (h13_:(aR p n ss=true→eB p n ss inp=false→∀ H',Same H H'→E (.ref cI) none H')) (h14_:(aR p n ss=true→eB p n ss inp=true→dW p f n ss ch=false→∀ H',Same H H'→E (.ref cC) none H')):eZ C cS cI cC vs H Q E
end Veil
namespace Veil
open PySem L2
theorem n6 (f:Nat) (ch:List Int) (used k:Nat):aN f ch used (k+1)=aN f ch used k++[(ch.drop (used+k*f)).take f]:=by
 unfold aN
 rw [wU,u6]
 rfl
theorem cut_mid {xs:List V}{a k:Nat}:kL xs (some (a:Int)) (some ((a:Int)+(k:Int)))=(xs.drop a).take k:=by
 unfold kL HT.sIx
 by_cases h:a≤xs.length
 ·have F:¬ ((a:Int)<0):=by omega
  have I:¬ ((a:Int)+(k:Int)<0):=by omega
  simp only [F,I,if_false]
  have G:min (a:Int).toNat xs.length=a:=by omega
  simp only [G]
  by_cases h2:a+k≤xs.length
  ·have q:min ((a:Int)+(k:Int)).toNat xs.length=a+k:=by omega
   rw [q]
   congr 1
   omega
  ·have q:min ((a:Int)+(k:Int)).toNat xs.length=xs.length:=by omega
   rw [q,vi (by rw [wt];exact va _),vi (by rw [wt];omega)]
 ·have F:¬ ((a:Int)<0):=by omega
  simp only [F,if_false]
  have G:min (a:Int).toNat xs.length=xs.length:=by omega
  simp only [G]
  rw [List.drop_length,List.drop_of_length_le (by omega)]
  simp
def aT (f:Nat) (n:Int):List Stp→Nat
 | []=>0
 | z::r=>(z.dealers n).length*f+aT f n r
theorem dN {f:Nat}{n:Int}:∀ {ss:List Stp}{i:Nat}{z:Stp},ss[i]?=some z→aT f n (ss.take (i+1))=aT f n (ss.take i)+(z.dealers n).length*f
 | [],i,z,h=>by simp at h
 | y::r,0,z,h=>by
  simp at h
  subst h
  simp [aT]
 | y::r,i+1,z,h=>by
  rw [wJ,wJ,aT,aT,dN (ss:=r) (i:=i) (by simpa using h)]
  omega
theorem eE (f:Nat) (n:Int) (ch:List Int):∀ (ss:List Stp) (u:Nat),bA f n ch ss u=(List.range ss.length).map fun i=>aN f ch (u+aT f n (ss.take i)) ((ss.getD i (.fix 0)).dealers n).length
 | [],u=>rfl
 | z::r,u=>by
  rw [bA,eE f n ch r,vh,List.range_succ_eq_map,vV,wX]
  congr 1
  apply List.map_congr_left
  intro i _
  simp only [Function.comp,wJ,aT,List.getD_cons_succ]
  congr 1
  omega
theorem dg {f:Nat}{n:Int}{ch:List Int}{ss:List Stp}{i:Nat}{z:Stp} (h:ss[i]?=some z):(bA f n ch ss 0).take (i+1)=(bA f n ch ss 0).take i++[aN f ch (aT f n (ss.take i)) (z.dealers n).length]:=by
 have il:i<ss.length:=(u3.mp h).1
 rw [vn]
 congr 1
 rw [eE,u5,vN il,Option.map_some,Nat.zero_add,nn,h]
 rfl
theorem dJ (f:Nat) (n:Int) (ch:List Int) (ss:List Stp) (u:Nat):(bA f n ch ss u).length=ss.length:=by
 rw [eE,lH,vo]
theorem LLNew.same {H0 H H':Hp} (s:Same H H') {as:List Addr}{rs:List LL} (h:LLNew H0 H as rs):LLNew H0 H' as rs:=Paired.mapP h fun a r ⟨z,bs,e,i,f⟩=>⟨z,bs,s _ _ e,i.same s,f⟩
theorem ce {n:Int} (h0:0≤n) (h1:n≤10) (z:Stp):(z.dealers n).length≤10:=by
 have:=gY h0 z
 have:=t9 h0 h1 z
 omega
end Veil
namespace Veil
open PySem L2
theorem InsAt.offN {H0 H:Hp}{l:Addr}{o u:HO} (hl:H0 l=some u) {as:List Addr}{rs:List (List Int)} (h:InsAt H as rs) (fr:∀ b∈as,H0 b=none):InsAt (L2.upd H l o) as rs:=InsAt.off h fun z=>by have:=fr l z;rw [hl] at this;cases this
theorem LLNew.off {H0 H:Hp}{l:Addr}{o u:HO} (hl:H0 l=some u) {as:List Addr}{rs:List LL} (h:LLNew H0 H as rs):LLNew H0 (L2.upd H l o) as rs:=Paired.mapP h fun a r ⟨z,bs,e,i,f⟩=>⟨z,bs,by rw [az fun w=>by rw [w,hl] at z;cases z];exact e,InsAt.offN hl i f,f⟩
theorem LLNew.older {H0 H1 H:Hp} (s:Same H0 H1) {as:List Addr}{rs:List LL} (h:LLNew H1 H as rs):LLNew H0 H as rs:=Paired.mapP h fun a r ⟨z,bs,e,i,f⟩=>⟨s.free z,bs,e,i,fun b hb=>s.free (f b hb)⟩
end Veil
namespace Veil
open PySem L2
theorem LetsAt.upd {H:Hp}{l:Addr}{c c':List V} (hl:H l=some (.lst c)) {vs:List V}{ls:List jg} (h:LetsAt H vs ls):LetsAt (L2.upd H l (.lst c')) vs ls:=Paired.mapP h fun v q ⟨a,e,z⟩=>⟨a,e,by
 rw [az fun y=>by rw [y,hl] at z;cases z]
 exact z⟩
theorem fT {α β:Type} (a:List α) (b:List β) (k:Nat):(a.take k).zip (b.take k)=(a.zip b).take k:=by
 unfold List.zip
 rw [List.take_zipWith]
end Veil
namespace Veil
open PySem L2
structure sr (K:PySem.W.Frag) (CC:Addr):Prop where
 cl:Cls K CC
 nT:NoAttr K CC "table"
 nS:NoAttr K CC "steps"
 nI:NoAttr K CC "inputs"
 nP:NoAttr K CC "parts"
 nH:NoAttr K CC "shares"
 nL:NoAttr K CC "letters"
def mK (t a b wa sh le:Addr):List (Str×V):=[("table",.ref t),("steps",.ref a),("inputs",.ref b),("parts",.ref wa),("shares",.ref sh),("letters",.ref le)]
section
variable (t a b wa sh le:Addr)
theorem rY:(mK t a b wa sh le).lookup ("table":Str)=some (V.ref t):=rfl
theorem cf_a:(mK t a b wa sh le).lookup ("steps":Str)=some (V.ref a):=by
 unfold mK
 rw [vD,show (("steps":Str) == "table")=false by decide +kernel]
 rfl
theorem cf_b:(mK t a b wa sh le).lookup ("inputs":Str)=some (V.ref b):=by
 unfold mK
 rw [vD,show (("inputs":Str) == "table")=false by decide +kernel]
 simp only
 rw [vD,show (("inputs":Str) == "steps")=false by decide +kernel]
 rfl
theorem cf_w:(mK t a b wa sh le).lookup ("parts":Str)=some (V.ref wa):=by
 unfold mK
 rw [vD,show (("parts":Str) == "table")=false by decide +kernel]
 simp only
 rw [vD,show (("parts":Str) == "steps")=false by decide +kernel]
 simp only
 rw [vD,show (("parts":Str) == "inputs")=false by decide +kernel]
 rfl
theorem cf_h:(mK t a b wa sh le).lookup ("shares":Str)=some (V.ref sh):=by
 unfold mK
 rw [vD,show (("shares":Str) == "table")=false by decide +kernel]
 simp only
 rw [vD,show (("shares":Str) == "steps")=false by decide +kernel]
 simp only
 rw [vD,show (("shares":Str) == "inputs")=false by decide +kernel]
 simp only
 rw [vD,show (("shares":Str) == "parts")=false by decide +kernel]
 rfl
theorem cf_l:(mK t a b wa sh le).lookup ("letters":Str)=some (V.ref le):=by
 unfold mK
 rw [vD,show (("letters":Str) == "table")=false by decide +kernel]
 simp only
 rw [vD,show (("letters":Str) == "steps")=false by decide +kernel]
 simp only
 rw [vD,show (("letters":Str) == "inputs")=false by decide +kernel]
 simp only
 rw [vD,show (("letters":Str) == "parts")=false by decide +kernel]
 simp only
 rw [vD,show (("letters":Str) == "shares")=false by decide +kernel]
 rfl
theorem gZ {m:Str} (h1:(m == "table")=false) (h2:(m == "steps")=false) (h3:(m == "inputs")=false) (h4:(m == "parts")=false) (h5:(m == "shares")=false) (h6:(m == "letters")=false):(mK t a b wa sh le).lookup m=none:=by
 unfold mK
 rw [vD,h1]
 simp only
 rw [vD,h2]
 simp only
 rw [vD,h3]
 simp only
 rw [vD,h4]
 simp only
 rw [vD,h5]
 simp only
 rw [vD,h6]
 rfl
end
structure Par (p n f:Int) (ss:List Stp) (inp:LL):Prop where
 hp:p∈primes9
 hn:3≤n∧n≤7
 np:n<p
 hf:f=1∨f=2
 fn:2*f<n
 len:1≤ss.length∧ss.length≤24
 R:eF p n ss
 io:InsOk p n ss inp
structure ShsOk (p n:Int) (shares:LL):Prop where
 l:∀ r∈shares,r.length=n.toNat
 b:∀ r∈shares,∀ v∈r,0≤v∧v<p
structure CrsAt (C CC:Addr) (H:Hp) (c:Addr) (p n f:Int) (ss:List Stp) (inp shares:LL) (t a b wa sh le:Addr) (ws:List V) (is shs:List Addr):Prop where
 obj:∃ dx,H c=some (.ins CC dx (mK t a b wa sh le))
 tab:TabAt C H t p n f
 ha:H a=some (.lst ws)
 st:StpsAt H ws ss
 hb:H b=some (.lst (is.map V.ref))
 hin:InsAt H is inp
 hw:H wa=some (.lst ((bp p n.toNat).map V.int))
 hsh:H sh=some (.lst (shs.map V.ref))
 hs:InsAt H shs shares
theorem CrsAt.same {C CC:Addr}{H H':Hp} (s:Same H H') {c:Addr}{p n f:Int}{ss:List Stp}{inp shares:LL}{t a b wa sh le:Addr}{ws:List V}{is shs:List Addr} (h:CrsAt C CC H c p n f ss inp shares t a b wa sh le ws is shs):CrsAt C CC H' c p n f ss inp shares t a b wa sh le ws is shs :=
 ⟨let ⟨dx,e⟩:=h.obj;⟨dx,s _ _ e⟩,h.tab.same s,s _ _ h.ha,h.st.same s,s _ _ h.hb,h.hin.same s,s _ _ h.hw,s _ _ h.hsh,h.hs.same s⟩
def CrsR (C CC:Addr) (H:Hp) (c:Addr) (p n f:Int) (ss:List Stp) (inp shares:LL):Prop:=∃ t a b wa sh le ws is shs,CrsAt C CC H c p n f ss inp shares t a b wa sh le ws is shs
inductive e6 (C CC:Addr) (vs:List V) (H:Hp) (Q:VK) (E_:XK):Prop
 | mk (c:Addr) (p n f:Int) (ss:List Stp) (inp shares:LL) (z:Stp) (h0_:vs=[.ref c]) (h1_:CrsR C CC H c p n f ss inp shares) (h2_:ss.length≤100) (h3_:ss[shares.length]?=some z) (h4_:∀ d H',Same H H'→H' d=some (.tup z.vs)→Q (.ref d) H'):e6 C CC vs H Q E_
def bP (shares:LL) (h:Int):List Int:=shares.map fun r=>r.getD (h - 1).toNat 0
inductive sR (C CC:Addr) (vs:List V) (H:Hp) (Q:VK) (E_:XK):Prop
 | mk (c:Addr) (p n f h:Int) (ss:List Stp) (inp shares:LL) (h0_:vs=[.ref c,.int h]) (h1_:CrsR C CC H c p n f ss inp shares) (h2_:shares.length≤100) (h3_:ShsOk p n shares) (h4_:(1≤h∧h≤n)) (h5_:ox H Q ((bP shares h).map V.int)):sR C CC vs H Q E_
def bo (p n:Int) (ss:List Stp) (inp shares:LL) (z:Stp):List Int:=match z with
 | .ein h=>[nY ss inp shares.length h]
 | .anew _=>List.replicate n.toNat 0
 | z=>(z.dealers n).map fun h=>recV p (bP shares h) z
inductive mY (C CC:Addr) (vs:List V) (H:Hp) (Q:VK) (E_:XK):Prop
 | mk (c:Addr) (p n f:Int) (ss:List Stp) (inp shares:LL) (z:Stp) (h0_:vs=[.ref c]) (h1_:CrsR C CC H c p n f ss inp shares) (h2_:Par p n f ss inp) (h3_:ShsOk p n shares) (h4_:ss[shares.length]?=some z) (h5_:ox H Q ((bo p n ss inp shares z).map V.int)):mY C CC vs H Q E_
def kJ (p n:Int) (shares rows:LL) (z:Stp) (h:Int):Int:=match z with
 | .ein _=>(bP rows h).headD 0
 | .mul _ _=>(List.zipWith (·*·) (bp p n.toNat) (bP rows h)).sum%p
 | z=>(recV p (bP shares h) z+(bP rows h).sum)%p
inductive lM (C CC:Addr) (vs:List V) (H:Hp) (Q:VK) (E_:XK):Prop
 | mk (c ra:Addr) (p n f h:Int) (ss:List Stp) (inp shares rows:LL) (z:Stp) (rs:List Addr) (h0_:vs=[.ref c,.int h,.ref ra]) (h1_:CrsR C CC H c p n f ss inp shares) (h2_:Par p n f ss inp) (h3_:ShsOk p n shares) (h4_:ss[shares.length]?=some z) (h5_:H ra=some (.lst (rs.map V.ref))) (h6_:InsAt H rs rows) (h7_:ShsOk p n rows) (h8_:rows.length=(z.dealers n).length) (h9_:(1≤h∧h≤n)) (h10_:cB H Q (.int (kJ p n shares rows z h))):lM C CC vs H Q E_
def j7 (p n:Int) (pl:Int) (made:List Int) (rows:LL) (z:Stp):List jg:=match z with
 | .opn _=>aV pl (bE n) (made.map fun v=>List.replicate n.toNat v)
 | z=>aV pl (z.dealers n) rows
inductive pM (C CC:Addr) (vs:List V) (H:Hp) (Q:VK) (E_:XK):Prop
 | mk (c d ma ra le:Addr) (p n f:Int) (ss:List Stp) (inp shares rows:LL) (z:Stp) (rs:List Addr) (made:List Int) (lvs:List V) (lets:List jg) (t a b wa sh:Addr) (ws:List V) (is shs:List Addr) (h0_:vs=[.ref c,.ref d,.ref ma,.ref ra]) (h1_:CrsAt C CC H c p n f ss inp shares t a b wa sh le ws is shs) (h2_:Par p n f ss inp) (h3_:shares.length≤24) (h4_:H d=some (.tup z.vs)) (h5_:H ma=some (.lst (made.map V.int))) (h6_:made.length=n.toNat) (h7_:H ra=some (.lst (rs.map V.ref))) (h8_:InsAt H rs rows) (h9_:(∀ r∈rows,r.length=n.toNat)) (h10_:H le=some (.lst lvs)) (h11_:LetsAt H lvs lets) (h12_:lets.length≤10000) (h13_:∀ H' lvs',SameX [le] H H'→H' le=some (.lst lvs')→LetsAt H' lvs' (lets++j7 p n (shares.length:Int) made rows z)→Q .non H'):pM C CC vs H Q E_
end Veil
namespace Veil
open PySem L2
structure Apt (a b wa sh le:Addr) (is shs:List Addr):Prop where
 sl:sh≠le
 a1:a≠sh∧a≠le
 b1:b≠sh∧b≠le
 w1:wa≠sh∧wa≠le
 i1:∀ i∈is,i≠sh∧i≠le
 s1:∀ i∈shs,i≠sh∧i≠le
theorem CrsAt.next {C CC:Addr}{H H':Hp}{c:Addr}{p n f:Int}{ss:List Stp}{inp shares:LL}{t a b wa sh le m:Addr}{ws:List V}{is shs:List Addr}{made:List Int}{lvs:List V} (R:CrsAt C CC H c p n f ss inp shares t a b wa sh le ws is shs) (D:Apt a b wa sh le is shs) (hle:H le=some (.lst lvs)) (s:SameX [sh,le] H H') (h1:H' sh=some (.lst ((shs++[m]).map V.ref))) (h2:H' m=some (.lst (made.map V.int))):CrsAt C CC H' c p n f ss inp (shares++[made]) t a b wa sh le ws is (shs++[m]):=by
 have F:∀ x,x≠sh→x≠le→x∉[sh,le]:=fun x h1 h2 h=>by
  rcases u8.mp h with e | e
  ·exact h1 e
  ·exact h2 (u9.mp e)
 have tup:∀ x xs,H x=some (.tup xs)→x∉[sh,le]:=fun x xs h=>F x (fun e=>by rw [e,R.hsh] at h;cases h) (fun e=>by rw [e,hle] at h;cases h)
 have ins:∀ x C dx fs,H x=some (.ins C dx fs)→x∉[sh,le]:=fun x C dx fs h=>F x (fun e=>by rw [e,R.hsh] at h;cases h) (fun e=>by rw [e,hle] at h;cases h)
 have lst:∀ {as:List Addr}{rs:LL},InsAt H as rs→(∀ i∈as,i≠sh∧i≠le)→InsAt H' as rs:=fun {as rs} h ne=>by
  induction h with
  | nil=>exact .nil
  | cons r t ih=>exact .cons (s _ _ r (F _ (ne _ vb).1 (ne _ vb).2)) (ih fun i hi=>ne i (vd _ hi))
 obtain ⟨dx,hc⟩:=R.obj
 obtain ⟨I,G⟩:=R.tab
 exact ⟨⟨dx,s _ _ hc (ins _ _ _ _ hc)⟩,⟨I,s _ _ G (ins _ _ _ _ G)⟩,s _ _ R.ha (F _ D.a1.1 D.a1.2),Paired.mapP R.st fun v q ⟨x,e,z⟩=>⟨x,e,s _ _ z (tup _ _ z)⟩,s _ _ R.hb (F _ D.b1.1 D.b1.2),lst R.hin D.i1,s _ _ R.hw (F _ D.w1.1 D.w1.2),h1,InsAt.snoc (lst R.hs D.s1) h2⟩
def aX (p n:Int) (ss:List Stp) (inp shares crows:LL) (z:Stp):LL:=List.zipWith (fun x ch=>cD p n.toNat x ch) (bo p n ss inp shares z) crows
def bZ (p n:Int) (shares rows:LL) (z:Stp):List Int:=(bE n).map fun h=>kJ p n shares rows z h
theorem cQ {p n:Int} (hn:0≤n) (ss:List Stp) (inp shares:LL) (z:Stp):(bo p n ss inp shares z).length=(z.dealers n).length:=by
 cases z<;>simp only [bo,Stp.dealers,vh,List.length_nil,vK,lH,bO]
theorem dealtL_b {p:Int} (hp:0<p) (n:Nat) (x:Int) (cs:List Int):∀ v∈cD p n x cs,0≤v∧v<p:=fun v hv=>by
 obtain ⟨i,_,rfl⟩:=vP.mp hv
 exact lh hp _ _
theorem fB {p n:Int} (hp:0<p) (ss:List Stp) (inp shares crows:LL) (z:Stp):ShsOk p n (aX p n ss inp shares crows z):=by
 have all:∀ (xs:List Int) (F:LL),ShsOk p n (List.zipWith (fun x ch=>cD p n.toNat x ch) xs F):=fun xs=>by
  induction xs with
  | nil=>intro F;exact ⟨fun r h=>by simp at h,fun r h=>by simp at h⟩
  | cons x r ih =>
   intro F
   cases F with
   | nil=>exact ⟨fun r h=>by simp at h,fun r h=>by simp at h⟩
   | cons y q =>
    have i:=ih q
    refine ⟨fun r h=>?_,fun r h=>?_⟩
    ·rcases u8.mp h with e | e
     ·rw [e,kZ]
     ·exact i.l r e
    ·rcases u8.mp h with e | e
     ·rw [e];exact dealtL_b hp _ _ _
     ·exact i.b r e
 exact all _ _
theorem rows_len {p n:Int} (hn:0≤n) {ss:List Stp}{inp shares crows:LL}{z:Stp} (h:crows.length=(z.dealers n).length):(aX p n ss inp shares crows z).length=(z.dealers n).length:=by
 unfold aX
 rw [vY,cQ hn,h,Nat.min_self]
theorem iC (p n:Int) (shares rows:LL) (z:Stp):(bZ p n shares rows z).length=n.toNat:=by unfold bZ;rw [lH,bO]
theorem own_b2 {p n:Int} (hp:0<p) {shares:LL} (S:ShsOk p n shares) (h:Int):∀ v∈bP shares h,0≤v∧v<p:=fun v hv=>by
 obtain ⟨r,hr,rfl⟩:=vP.mp hv
 rw [nn]
 cases e:r[(h - 1).toNat]? with
 | none=>exact ⟨Int.le_refl _,hp⟩
 | some v=>exact S.b r hr v (u4 e)
theorem newSh_b {p n:Int} (hp:0<p) {shares rows:LL} (S:ShsOk p n rows) (z:Stp) (h:Int):0≤kJ p n shares rows z h∧kJ p n shares rows z h<p:=by
 have md:∀ x:Int,0≤x%p∧x%p<p:=fun x=>⟨vC _ (by omega),vw _ hp⟩
 cases z with
 | ein k =>
  show 0≤(bP rows h).headD 0∧(bP rows h).headD 0<p
  cases e:bP rows h with
  | nil=>exact ⟨Int.le_refl _,hp⟩
  | cons v r=>exact own_b2 hp S h v (by rw [e];exact vb)
 | _=>exact md _
theorem qg {p n:Int} (hp:0<p) {shares rows:LL} (S:ShsOk p n rows) (z:Stp):∀ v∈bZ p n shares rows z,0≤v∧v<p:=fun v hv=>by
 obtain ⟨h,_,rfl⟩:=vP.mp hv
 exact newSh_b hp S z h
theorem ShsOk.snoc {p n:Int}{shares:LL} (S:ShsOk p n shares) {r:List Int} (h1:r.length=n.toNat) (h2:∀ v∈r,0≤v∧v<p):ShsOk p n (shares++[r]):=by
 refine ⟨fun x hx=>?_,fun x hx=>?_⟩<;>rcases vr.mp hx with e | e
 ·exact S.l x e
 ·rw [u9.mp e];exact h1
 ·exact S.b x e
 ·rw [u9.mp e];exact h2
inductive spGo (C CC:Addr) (vs:List V) (H:Hp) (Q:VK) (E_:XK):Prop
 | mk (c ca le:Addr) (p n f:Int) (ss:List Stp) (inp shares crows:LL) (z:Stp) (cs:List Addr) (lvs:List V) (lets:List jg) (t a b wa sh:Addr) (ws:List V) (is shs:List Addr) (h0_:vs=[.ref c,.ref ca]) (h1_:CrsAt C CC H c p n f ss inp shares t a b wa sh le ws is shs) (h2_:Apt a b wa sh le is shs) (h3_:Par p n f ss inp) (h4_:ShsOk p n shares) (h5_:ss[shares.length]?=some z) (h6_:H ca=some (.lst (cs.map V.ref))) (h7_:InsAt H cs crows) (h8_:crows.length=(z.dealers n).length) (h9_:(∀ r∈crows,r.length≤100)) (h10_:H le=some (.lst lvs)) (h11_:LetsAt H lvs lets) (h12_:lets.length≤10000) (h13_:∀ H' m lvs',SameX [sh,le] H H'→H m=none→CrsAt C CC H' c p n f ss inp (shares++[bZ p n shares (aX p n ss inp shares crows z) z]) t a b wa sh le ws is (shs++[m])→Apt a b wa sh le is (shs++[m])→H' le=some (.lst lvs')→LetsAt H' lvs' (lets++j7 p n (shares.length:Int) (bZ p n shares (aX p n ss inp shares crows z) z) (aX p n ss inp shares crows z) z)→Q .non H'):spGo C CC vs H Q E_
end Veil
namespace Veil
open PySem L2
def wgh (p n:Int) (r:List Int):Int:=(List.zipWith (·*·) (bp p n.toNat) r).sum%p
def rg (p n:Int) (shares:LL) (i:Nat) (z:Stp):List (Int×Int):=match z with
 | .opn _=>[((i:Int),wgh p n (shares.getD i []))]
 | _=>[]
def rh (p n:Int) (ss:List Stp) (shares:LL):List (Int×Int):=((List.range ss.length).map fun i=>rg p n shares i (ss.getD i (.fix 0))).flatten
theorem kU {p n:Int}{ss:List Stp}{shares:LL}{i:Nat}{z:Stp} (h:ss[i]?=some z):((List.range (i+1)).map fun i=>rg p n shares i (ss.getD i (.fix 0))).flatten=((List.range i).map fun i=>rg p n shares i (ss.getD i (.fix 0))).flatten++rg p n shares i z:=by
 rw [wU,u6,wK,List.map_singleton,nn,h]
 simp
inductive jx (C CC:Addr) (vs:List V) (H:Hp) (Q:VK) (E_:XK):Prop
 | mk (c:Addr) (p n f:Int) (ss:List Stp) (inp shares:LL) (h0_:vs=[.ref c]) (h1_:CrsR C CC H c p n f ss inp shares) (h2_:Par p n f ss inp) (h3_:ShsOk p n shares) (h4_:shares.length=ss.length) (h5_:∀ d vs' H',Same H H'→H d=none→H' d=some (.lst vs')→PtsAt H' vs' (rh p n ss shares)→Q (.ref d) H'):jx C CC vs H Q E_
inductive jM (C CC:Addr) (vs:List V) (H:Hp) (Q:VK) (E_:XK):Prop
 | mk (c dx t a b:Addr) (p n f:Int) (h0_:vs=[.ref c,.ref t,.ref a,.ref b]) (h1_:H c=some (.ins CC dx [])) (h2_:TabAt C H t p n f) (h3_:p∈primes9) (h4_:(0≤n∧n≤7)) (h5_:n<p) (h6_:∀ H' wa sh le,(∀ x u,H x=some u→x≠c→H' x=some u)→H wa=none→H sh=none→H le=none→sh≠le→wa≠sh→wa≠le→H' wa=some (.lst ((bp p n.toNat).map V.int))→H' sh=some (.lst [])→H' le=some (.lst [])→H' c=some (.ins CC dx (mK t a b wa sh le))→Q .non H'):jM C CC vs H Q E_
def kg (p n:Int) (ss:List Stp) (inp:LL) (st:LL×List jg) (crows:LL):LL×List jg :=
 (st.1++[bZ p n st.1 (aX p n ss inp st.1 crows (ss.getD st.1.length (.fix 0))) (ss.getD st.1.length (.fix 0))],st.2++j7 p n (st.1.length:Int) (bZ p n st.1 (aX p n ss inp st.1 crows (ss.getD st.1.length (.fix 0))) (ss.getD st.1.length (.fix 0))) (aX p n ss inp st.1 crows (ss.getD st.1.length (.fix 0))) (ss.getD st.1.length (.fix 0)))
def ja (p n:Int) (f:Nat) (ss:List Stp) (inp:LL) (ch:List Int) (i:Nat):LL×List jg:=((bA f n ch ss 0).take i).foldl (kg p n ss inp) ([],[])
theorem eQ {p n:Int}{f:Nat}{ss:List Stp}{inp:LL}{ch:List Int}{i:Nat}{z:Stp} (h:ss[i]?=some z):ja p n f ss inp ch (i+1)=kg p n ss inp (ja p n f ss inp ch i) (aN f ch (aT f n (ss.take i)) (z.dealers n).length):=by
 unfold ja
 rw [dg h,List.foldl_append]
 rfl
theorem ir {p n:Int}{f:Nat}{ss:List Stp}{inp:LL}{ch:List Int}:∀ {i:Nat},i≤ss.length→(ja p n f ss inp ch i).1.length=i
 | 0,_=>rfl
 | i+1,h=>by
  rw [eQ (rz (show i<ss.length by omega))]
  show (_++[_]).length=_
  rw [u7,ir (by omega)]
  rfl
theorem l0 {p n:Int} (hp:0<p) {f:Nat}{ss:List Stp}{inp:LL}{ch:List Int}:∀ {i:Nat},i≤ss.length→ShsOk p n (ja p n f ss inp ch i).1
 | 0,_=>⟨(fun r h=>nomatch h),(fun r h=>nomatch h)⟩
 | i+1,h=>by
  rw [eQ (rz (show i<ss.length by omega))]
  exact (l0 hp (by omega)).snoc (iC ..) (qg hp (fB hp ..) _)
def mJ (p n:Int) (f:Nat) (ss:List Stp) (inp:LL) (ch:List Int):LL×List jg:=ja p n f ss inp ch ss.length
theorem b7 (f:Nat) (ch:List Int) (u k:Nat):(aN f ch u k).length=k:=by unfold aN;rw [lH,vo]
theorem iI {f:Nat}{ch:List Int}{u k:Nat}:∀ r∈aN f ch u k,r.length≤f∧∀ v∈r,v∈ch:=fun r hr=>by
 unfold aN at hr
 obtain ⟨i,_,rfl⟩:=vP.mp hr
 refine ⟨by rw [vj];omega,fun v hv=>List.mem_of_mem_drop (List.mem_of_mem_take hv)⟩
inductive pN (C cS cI cC:Addr) (vs:List V) (H:Hp) (Q:VK) (E:XK):Prop
 | mk (t a b c:Addr) (p n f:Int) (ws:List V) (ss:List Stp) (is:List Addr) (inp:LL) (ch:List Int) (h0_:vs=[.ref t,.ref a,.ref b,.ref c]) (h1_:TabAt C H t p n f) (h2_:p∈primes9) (h3_:(3≤n∧n≤7)) (h4_:n<p) (h5_:(f=1∨f=2)) (h6_:2*f<n) (h7_:H a=some (.lst ws)) (h8_:StpsAt H ws ss) (h9_:H b=some (.lst (is.map V.ref))) (h10_:InsAt H is inp) (h11_:(∀ r∈inp,r.length≤1000)) (h12_:H c=some (.lst (ch.map V.int))) (h13_:ch.length≤1000) (h14_:(aR p n ss=true→eB p n ss inp=true→dW p f n ss ch=true→∀ d sh le oa (shs:List Addr) (lvs ovs:List V) H',Same H H'→H d=none→H sh=none→H le=none→H oa=none→sh≠le→sh≠oa→le≠oa→(∀ x∈shs,H x=none∧x≠sh∧x≠le∧x≠oa)→shs.Nodup→H' d=some (.tup [.ref sh,.ref le,.ref oa])→H' sh=some (.lst (shs.map V.ref))→InsAt H' shs (mJ p n f.toNat ss inp ch).1→H' le=some (.lst lvs)→LetsAt H' lvs (mJ p n f.toNat ss inp ch).2→H' oa=some (.lst ovs)→PtsAt H' ovs (rh p n ss (mJ p n f.toNat ss inp ch).1)→Q (.ref d) H')) (h15_:(aR p n ss=false→∀ H',Same H H'→E (.ref cS) none H')) (h16_:(aR p n ss=true→eB p n ss inp=false→∀ H',Same H H'→E (.ref cI) none H')) (h17_:(aR p n ss=true→eB p n ss inp=true→dW p f n ss ch=false→∀ H',Same H H'→E (.ref cC) none H')):pN C cS cI cC vs H Q E
end Veil
namespace Veil
open PySem L2
theorem gz {f:Str}{v:V}:∀ {fs:List (Str×V)},(∀ q∈fs,¬ q.1=f)→dP f v fs=fs++[(f,v)]
 | [],_=>rfl
 | (g,x)::r,h=>by
  show (if g=f then (g,v)::r else (g,x)::dP f v r)=_
  rw [if_neg (h (g,x) vb),gz fun q hq=>h q (vd _ hq)]
  rfl
theorem nsN {f:Str} (ks:List Str) (h:ks.all (fun k=>decide (¬ k=f))=true) {fs:List (Str×V)} (e:fs.map (·.1)=ks):∀ q∈fs,¬ q.1=f:=fun q hq=>by
 have:=vv.mp h q.1 (by rw [← e];exact List.mem_map_of_mem hq)
 exact of_decide_eq_true this
theorem crs_put (t a b wa sh le:Addr):dP "letters" (.ref le) (dP "shares" (.ref sh) (dP "parts" (.ref wa) (dP "inputs" (.ref b) (dP "steps" (.ref a) (dP "table" (.ref t) [])))))=mK t a b wa sh le:=by
 rw [show dP ("table":Str) (V.ref t) []=[(("table":Str),V.ref t)] from rfl]
 rw [gz (f:="steps") (nsN ["table"] (by decide +kernel) rfl)]
 rw [gz (f:="inputs") (nsN ["table","steps"] (by decide +kernel) rfl)]
 rw [gz (f:="parts") (nsN ["table","steps","inputs"] (by decide +kernel) rfl)]
 rw [gz (f:="shares") (nsN ["table","steps","inputs","parts"] (by decide +kernel) rfl)]
 rw [gz (f:="letters") (nsN ["table","steps","inputs","parts","shares"] (by decide +kernel) rfl)]
 rfl
theorem gl {f:Str}{v:V}{fs:List (Str×V)}{k:Nat} (h:fs.length≤k):(dP f v fs).length≤k+1:=vG (fK _ _ _) (by omega)
end Veil
namespace Veil
open PySem L2
theorem InsAt.sx {ex:List Addr}{H H':Hp} (s:SameX ex H H'):∀ {as:List Addr}{rs:LL},InsAt H as rs→(∀ b∈as,b∉ex)→InsAt H' as rs
 | _,_,.nil,_=>.nil
 | _,_,.cons z t,h=>.cons (s _ _ z (h _ vb)) (InsAt.sx s t fun b hb=>h b (vd _ hb))
theorem SameX.trans {ex:List Addr}{H H' H'':Hp} (a:SameX ex H H') (b:SameX ex H' H''):SameX ex H H'':=fun x u e n=>b _ _ (a _ _ e n) n
theorem iD {p n:Int} (hn:3≤n∧n≤7) (pl:Int) (made:List Int) (rows:LL) (z:Stp) (hr:∀ r∈rows,r.length≤10):(j7 p n pl made rows z).length≤100:=by
 have F:∀ (pl s:Int) (r:List Int),(jj pl s r).length≤r.length:=fun pl s r=>by
  unfold jj
  refine vG (List.length_filterMap_le _ _) ?_
  rw [vo]
  exact va _
 have G:∀ (pl:Int) (sd:List Int) (q:LL),(∀ r∈q,r.length≤10)→(aV pl sd q).length≤10*sd.length:=fun pl sd=>by
  induction sd with
  | nil=>intro q _;simp [aV]
  | cons s r ih =>
   intro q hb
   cases q with
   | nil=>simp [aV]
   | cons x y =>
    have:=ih y fun r hr=>hb r (vd _ hr)
    have h2:=F pl s x
    have h3:=hb x vb
    unfold aV at this ⊢
    rw [wQ,vV,vX,u7,vh]
    show (jj pl s x).length+_≤_
    omega
 have dl:=ce (n:=n) (by omega) (by omega) z
 have I:(aV pl (z.dealers n) rows).length≤100:=by have:=G pl (z.dealers n) rows hr;omega
 cases z with
 | opn a =>
  have:=G pl (bE n) (made.map fun v=>List.replicate n.toNat v) (fun r h=>by
   obtain ⟨v,_,rfl⟩:=vP.mp h
   rw [vK]
   omega)
  rw [bO] at this
  show (aV pl (bE n) (made.map fun v=>List.replicate n.toNat v)).length≤100
  omega
 | _=>exact I
end Veil
namespace Veil
open PySem L2
def OnR (p:Int) (n f:Nat) (g:Nat→Int) (v:Int):Prop:=∃ cs:List Int,cs.length=f+1∧(∀ k,k<n→g k%p=aL cs (1+(k:Int))%p)∧cs.headD 0%p=v%p
theorem OnR.cong {p:Int}{n f:Nat}{g g':Nat→Int}{v v':Int} (h:OnR p n f g v) (hg:∀ k,k<n→g' k%p=g k%p) (hv:v'%p=v%p):OnR p n f g' v':=by
 obtain ⟨cs,h1,h2,h3⟩:=h
 exact ⟨cs,h1,fun k hk=>(hg k hk).trans (h2 k hk),h3.trans hv.symm⟩
theorem OnR.fix {p:Int}{n f:Nat} (x:Int):OnR p n f (fun _=>x) x:=by
 refine ⟨x::List.replicate f 0,by simp,fun k _=>?_,rfl⟩
 show _=(x+(1+(k:Int))*aL (List.replicate f 0) (1+(k:Int)))%p
 rw [jS,wE,wA]
theorem rN {p t:Int}:∀ {as bs:List Int},as.length=bs.length→(kr p t as bs).headD 0%p=(as.headD 0+t*bs.headD 0)%p
 | [],[],_=>by simp [kr]
 | a::as,b::bs,_=>by
  show ((a+t*b)%p)%p=(a+t*b)%p
  exact vJ _ (wp p)
 | [],_::_,h=>by simp at h
 | _::_,[],h=>by simp at h
theorem OnR.lin {p:Int}{n f:Nat}{g1 g2:Nat→Int}{v1 v2:Int} (t:Int) (h1:OnR p n f g1 v1) (h2:OnR p n f g2 v2):OnR p n f (fun k=>g1 k+t*g2 k) (v1+t*v2):=by
 obtain ⟨q,U,I,R⟩:=h1
 obtain ⟨F,W,O,J⟩:=h2
 have e:q.length=F.length:=by omega
 refine ⟨kr p t q F,by rw [gC];omega,fun k G=>?_,?_⟩
 ·rw [eT _ _ _ e,wu,I k G,vL,O k G,← vL,← wu]
 ·rw [rN e,wu,R,vL,J,← vL,← wu]
theorem OnR.scale {p:Int}{n f:Nat}{g:Nat→Int}{v:Int} (t:Int) (h:OnR p n f g v):OnR p n f (fun k=>t*g k) (t*v) :=
 ((OnR.fix (p:=p) (n:=n) (f:=f) 0).lin t h).cong (fun k _=>by rw [wP]) (by rw [wP])
theorem OnR.dealt {p:Int}{n f:Nat}{x:Int}{ch:List Int} (h:ch.length=f):OnR p n f (fun k=>(cD p n x ch).getD k 0) x:=by
 refine ⟨x::ch,by rw [vh,h],fun k hk=>?_,rfl⟩
 show (cD p n x ch).getD k 0%p=_
 unfold cD
 rw [nn,u5,vN hk]
 show bH p (x::ch) (1+(k:Int))%p=_
 rw [bJ,vJ _ (wp p)]
theorem OnR.wsum {p:Int}{n f:Nat}:∀ {W:List Int}{rows:LL}{vs:List Int},Paired (fun r v=>OnR p n f (fun k=>r.getD k 0) v) rows vs→OnR p n f (fun k=>(List.zipWith (·*·) W (rows.map fun r=>r.getD k 0)).sum) (List.zipWith (·*·) W vs).sum
 | [],_,_,_=>(OnR.fix 0).cong (fun k _=>by simp) (by simp)
 | _::_,_,_,.nil=>(OnR.fix 0).cong (fun k _=>by simp) (by simp)
 | x::W,_,_,.cons h t=>by
  have q:=OnR.wsum (W:=W) t
  refine (q.lin x h).cong (fun k _=>?_) ?_
  ·congr 1
   simp only [vV,wB,List.sum_cons]
   omega
  ·congr 1
   simp only [wB,List.sum_cons]
   omega
theorem OnR.sum {p:Int}{n f:Nat}:∀ {rows:LL}{vs:List Int},Paired (fun r v=>OnR p n f (fun k=>r.getD k 0) v) rows vs→OnR p n f (fun k=>(rows.map fun r=>r.getD k 0).sum) vs.sum
 | _,_,.nil=>(OnR.fix 0).cong (fun k _=>by simp) (by simp)
 | _,_,.cons h t=>by
  have q:=OnR.sum t
  refine (q.lin 1 h).cong (fun k _=>?_) ?_
  ·congr 1
   simp only [vV,List.sum_cons]
   omega
  ·congr 1
   simp only [List.sum_cons]
   omega
def addP:List Int→List Int→List Int
 | [],b=>b
 | a,[]=>a
 | x::a,y::b=>(x+y)::addP a b
theorem kQ:∀ (a b:List Int) (z:Int),aL (addP a b) z=aL a z+aL b z
 | [],b,z=>by simp [addP,aL]
 | x::a,[],z=>by simp [addP,aL]
 | x::a,y::b,z=>by
  simp only [addP,aL,kQ a b z,wS]
  omega
theorem qG:∀ (a b:List Int),(addP a b).length=max a.length b.length
 | [],b=>by simp [addP]
 | x::a,[]=>by simp [addP]
 | x::a,y::b=>by
  simp only [addP,vh,qG a b]
  omega
def mulP:List Int→List Int→List Int
 | [],_=>[]
 | x::a,b=>addP (b.map (x*·)) (0::mulP a b)
theorem nq (x:Int):∀ (b:List Int) (z:Int),aL (b.map (x*·)) z=x*aL b z
 | [],z=>by simp [aL]
 | y::b,z=>by
  simp only [vV,aL,nq x b z,wS]
  rw [← wH z x,wO z x,wH x z]
theorem kP:∀ (a b:List Int) (z:Int),aL (mulP a b) z=aL a z*aL b z
 | [],b,z=>by simp [mulP,aL]
 | x::a,b,z=>by
  simp only [mulP,kQ,aL,nq,kP a b z,wP,Int.add_mul,wH]
theorem qf {b:List Int} (hb:1≤b.length):∀ (a:List Int),(mulP a b).length≤a.length+b.length - 1
 | []=>by simp [mulP]
 | x::a=>by
  have:=qf hb a
  simp only [mulP,qG,lH,vh] at this ⊢
  omega
theorem ud {a b:List Int} (ha:1≤a.length) (hb:1≤b.length):(mulP a b).headD 0=a.headD 0*b.headD 0:=by
 cases a with
 | nil=>simp at ha
 | cons x a =>
  cases b with
  | nil=>simp at hb
  | cons y b =>
   show x*y+0=x*y
   omega
theorem zipW_pre:∀ {W xs:List Int}{n:Nat},W.length=n→xs.length=n→(List.zipWith (·*·) W xs).sum=ix W (fun k=>xs.getD k 0) n:=by
 have snoc:∀ (W xs:List Int) (n:Nat),W.length=n→xs.length=n→(List.zipWith (·*·) W xs).sum=ix W (fun k=>xs.getD k 0) n:=fun W xs n=>by
  induction n generalizing W xs with
  | zero =>
   intro h1 h2
   rw [wy.mp h1]
   rfl
  | succ n ih =>
   intro h1 h2
   obtain ⟨q,a,rfl⟩:∃ q a,W=q++[a]:=⟨W.dropLast,W.getLast (by intro z;rw [z] at h1;cases h1),(List.dropLast_concat_getLast _).symm⟩
   obtain ⟨F,b,rfl⟩:∃ q a,xs=q++[a]:=⟨xs.dropLast,xs.getLast (by intro z;rw [z] at h2;cases h2),(List.dropLast_concat_getLast _).symm⟩
   have I:q.length=n:=by rw [u7] at h1;exact Nat.succ.inj h1
   have G:F.length=n:=by rw [u7] at h2;exact Nat.succ.inj h2
   rw [List.zipWith_append (by omega),List.sum_append,ih q F I G,ix]
   have J:ix (q++[a]) (fun k=>(F++[b]).getD k 0) n=ix q (fun k=>F.getD k 0) n:=by
    have:∀ m,m≤n→ix (q++[a]) (fun k=>(F++[b]).getD k 0) m=ix q (fun k=>F.getD k 0) m:=fun m=>by
     induction m with
     | zero=>intro _;rfl
     | succ m ihm =>
      intro O
      rw [ix,ix,ihm (by omega)]
      simp only [nn]
      rw [vS (by omega),vS (by omega)]
    exact this n (va n)
   rw [J]
   simp only [nn]
   rw [vR (by omega),vR (by omega),I,G,Nat.sub_self]
   simp
 exact fun {W xs n}=>snoc W xs n
section
variable {p:Int}{n f:Nat} (hp:p∈primes9) (h3:3≤n) (h7:n≤7) (hn:(n:Int)<p)
include hp h3 h7 hn
theorem w_poly {xs:List Int} (hx:xs.length=n) {r:List Int} (hr:r.length≤n) (e:∀ k,k<n→xs.getD k 0%p=aL r (1+(k:Int))%p):(List.zipWith (·*·) (bp p n) xs).sum%p=r.headD 0%p:=by
 rw [zipW_pre (fU p n) hx,← ws_row hp h3 h7 hn r hr]
 refine mi n fun k hk=>?_
 rw [e k hk,bJ,vJ _ (wp p)]
theorem OnR.opens {g:Nat→Int}{v:Int} (hf:2*f<n) (h:OnR p n f g v) {xs:List Int} (hx:xs.length=n) (e:∀ k,k<n→xs.getD k 0%p=g k%p):(List.zipWith (·*·) (bp p n) xs).sum%p=v%p:=by
 obtain ⟨cs,a,b,d⟩:=h
 rw [w_poly hp h3 h7 hn hx (by omega) fun k hk=>(e k hk).trans (b k hk)]
 exact d
theorem OnR.prod {g1 g2:Nat→Int}{v1 v2:Int} (hf:2*f<n) (h1:OnR p n f g1 v1) (h2:OnR p n f g2 v2) {xs:List Int} (hx:xs.length=n) (e:∀ k,k<n→xs.getD k 0%p=g1 k*g2 k%p):(List.zipWith (·*·) (bp p n) xs).sum%p=v1*v2%p:=by
 obtain ⟨F,U,I,R⟩:=h1
 obtain ⟨G,W,O,J⟩:=h2
 have hl:=qf (b:=G) (by omega) F
 rw [w_poly hp h3 h7 hn hx (r:=mulP F G) (by omega) fun k q=>?_]
 ·rw [ud (by omega) (by omega),vL,R,J,← vL]
 ·rw [e k q,kP,vL,I k q,O k q,← vL]
end
end Veil
namespace Veil
open PySem L2
theorem kM (f:Nat) (n:Int):∀ (a b:List Stp),aT f n (a++b)=aT f n a+aT f n b
 | [],b=>by simp [aT]
 | z::a,b=>by
  rw [List.cons_append,aT,aT,kM f n a b]
  omega
theorem gL (f:Nat) {n:Int} (hn:0≤n):∀ ss:List Stp,(aT f n ss:Int)=aY (f:Int) n ss
 | []=>by simp [aT,aY]
 | z::r=>by
  rw [aT,aY,← gL f hn r,← gY hn z]
  push_cast
  rw [wO]
theorem qu {f:Nat}{n:Int} (hn:0≤n) {ss:List Stp}{ch:List Int} (hc:(ch.length:Int)=aY (f:Int) n ss) {i:Nat}{z:Stp} (hz:ss[i]?=some z):∀ r∈aN f ch (aT f n (ss.take i)) (z.dealers n).length,r.length=f:=fun r hr=>by
 unfold aN at hr
 obtain ⟨k,q,rfl⟩:=vP.mp hr
 have q:=vH.mp q
 have h1:=gL f hn ss
 have h2:aT f n ss=aT f n (ss.take (i+1))+aT f n (ss.drop (i+1)):=by rw [← kM,List.take_append_drop]
 rw [dN hz] at h2
 have h3:(k+1)*f≤(z.dealers n).length*f:=Nat.mul_le_mul_right f (by omega)
 rw [Nat.add_mul,Nat.one_mul] at h3
 rw [vj,wt]
 omega
theorem bI {shares:LL}{k:Nat}{a:Nat}:(bP shares (1+(k:Int))).getD a 0=(shares.getD a []).getD k 0:=by
 unfold bP
 rw [nn,u5,nn (l:=shares)]
 cases shares[a]? with
 | none=>rfl
 | some r=>show r.getD (1+(k:Int) - 1).toNat 0=_;rw [show (1+(k:Int) - 1).toNat=k by omega];rfl
theorem fH {rows:LL}{k:Nat}:bP rows (1+(k:Int))=rows.map fun r=>r.getD k 0:=by
 unfold bP
 rw [show (1+(k:Int) - 1).toNat=k by omega]
theorem o8 {p n:Int} (hn:0≤n) {shares rows:LL}{z:Stp}{k:Nat} (hk:k<n.toNat):(bZ p n shares rows z).getD k 0=kJ p n shares rows z (1+(k:Int)):=by
 unfold bZ bE eS
 rw [nn,wX,u5,vN hk]
 rfl
theorem tD {p:Int}{n:Nat}{f:Nat}:∀ {nums:List Int}{crows:LL},crows.length=nums.length→(∀ r∈crows,r.length=f)→Paired (fun r v=>OnR p n f (fun k=>r.getD k 0) v) (List.zipWith (fun x ch=>cD p n x ch) nums crows) nums
 | [],[],_,_=>.nil
 | x::nums,c::crows,h,hf=>.cons (OnR.dealt (hf c vb)) (tD (by simpa using h) fun r hr=>hf r (vd _ hr))
 | [],_::_,h,_=>by simp at h
 | _::_,[],h,_=>by simp at h
def ShOn (p:Int) (n f:Nat) (shares:LL) (fd:List Int):Prop:=shares.length=fd.length∧∀ a,a<shares.length→OnR p n f (fun k=>(shares.getD a []).getD k 0) (fd.getD a 0)
theorem md {p x:Int}:x%p%p=x%p:=vJ _ (wp p)
theorem step_on {p n f:Int}{ss:List Stp}{inp rest:LL}{fd:List Int}{ch:List Int}{shares:LL}{i:Nat}{z:Stp} (PA:Par p n f ss inp) (hc:(ch.length:Int)=aY f n ss) (hz:ss[i]?=some z) (hi:shares.length=i) (S:PlSt p n ss inp i rest fd) (Rr:Rests n ss inp rest i) (O:ShOn p n.toNat f.toNat shares fd) :
  OnR p n.toNat f.toNat (fun k=>(bZ p n shares (aX p n ss inp shares (aN f.toNat ch (aT f.toNat n (ss.take i)) (z.dealers n).length) z) z).getD k 0) (jh p rest fd z):=by
 have hn:=PA.hn
 have np:=PA.np
 have fn:=PA.fn
 have hf:=PA.hf
 have pp:=jc PA.hp
 have q:=PA.R i z hz
 have ef:(f.toNat:Int)=f:=by omega
 have ai:(ch.length:Int)=aY (f.toNat:Int) n ss:=by rw [ef];exact hc
 have U:=qu (f:=f.toNat) (n:=n) (by omega) ai hz
 have Z:=b7 f.toNat ch (aT f.toNat n (ss.take i)) (z.dealers n).length
 generalize aN f.toNat ch (aT f.toNat n (ss.take i)) (z.dealers n).length=crows at U Z
 have nl:=cQ (p:=p) (n:=n) (by omega) ss inp shares z
 have PR:=tD (p:=p) (n:=n.toNat) (f:=f.toNat) (nums:=bo p n ss inp shares z) (crows:=crows) (by rw [Z,nl]) U
 have G:∀ (a:Int),0≤a→a<(i:Int)→OnR p n.toNat f.toNat (fun k=>(shares.getD a.toNat []).getD k 0) (fd.getD a.toNat 0):=fun a h0 h1=>O.2 a.toNat (by omega)
 have J:∀ {g:Nat→Int}{v:Int},OnR p n.toNat f.toNat g v→(∀ k,k<n.toNat→kJ p n shares (aX p n ss inp shares crows z) z (1+(k:Int))%p=g k%p)→jh p rest fd z%p=v%p→OnR p n.toNat f.toNat (fun k=>(bZ p n shares (aX p n ss inp shares crows z) z).getD k 0) (jh p rest fd z):=fun h e1 e2=>h.cong (fun k I=>by
  show (bZ p n shares (aX p n ss inp shares crows z) z).getD k 0%p=_
  rw [o8 (by omega) I]
  exact e1 k I) e2
 have F:∀ (Y:Stp),Y.dealers n=[]→bo p n ss inp shares Y=[]→∀ h,bP (aX p n ss inp shares crows Y) h=[]:=fun Y _ e h=>by
  unfold aX bP
  rw [e]
  rfl
 cases z with
 | ein h =>
  have e0:bo p n ss inp shares (.ein h)=[nY ss inp i h]:=by show [nY ss inp shares.length h]=_;rw [hi]
  rw [e0] at PR
  cases crows with
  | nil=>simp [Stp.dealers] at Z
  | cons c0 cr =>
   refine J (OnR.dealt (x:=nY ss inp i h) (U c0 vb)) (fun k I=>?_) (by rw [lC Rr q.1 q.2])
   show (bP (aX p n ss inp shares (c0::cr) (.ein h)) (1+(k:Int))).headD 0%p=_
   unfold aX
   rw [e0,fH]
   rfl
 | fix x =>
  refine J (OnR.fix x) (fun k I=>?_) rfl
  show (x+(bP (aX p n ss inp shares crows (.fix x)) (1+(k:Int))).sum)%p%p=_
  rw [F _ rfl rfl,md]
  simp
 | sum a b =>
  refine J ((G a q.1.1 q.1.2).lin 1 (G b q.2.1 q.2.2)) (fun k I=>?_) ?_
  ·show (((bP shares (1+(k:Int))).getD a.toNat 0+(bP shares (1+(k:Int))).getD b.toNat 0)%p+(bP (aX p n ss inp shares crows (.sum a b)) (1+(k:Int))).sum)%p%p=_
   rw [F _ rfl rfl,bI,bI,md]
   simp
  ·show (fd.getD a.toNat 0+fd.getD b.toNat 0)%p%p=_
   rw [md,Int.one_mul]
 | less a b =>
  refine J ((G a q.1.1 q.1.2).lin (-1) (G b q.2.1 q.2.2)) (fun k I=>?_) ?_
  ·show (((bP shares (1+(k:Int))).getD a.toNat 0 - (bP shares (1+(k:Int))).getD b.toNat 0)%p+(bP (aX p n ss inp shares crows (.less a b)) (1+(k:Int))).sum)%p%p=_
   rw [F _ rfl rfl,bI,bI,md]
   simp [Int.sub_eq_add_neg]
  ·show (fd.getD a.toNat 0 - fd.getD b.toNat 0)%p%p=_
   rw [md,Int.neg_mul,Int.one_mul,Int.sub_eq_add_neg]
 | bye a x =>
  refine J ((G a q.1.1 q.1.2).scale x) (fun k I=>?_) ?_
  ·show (((bP shares (1+(k:Int))).getD a.toNat 0*x)%p+(bP (aX p n ss inp shares crows (.bye a x)) (1+(k:Int))).sum)%p%p=_
   rw [F _ rfl rfl,bI,md]
   simp [wO]
  ·show fd.getD a.toNat 0*x%p%p=_
   rw [md,wO]
 | opn a =>
  refine J (G a q.1 q.2) (fun k I=>?_) rfl
  show ((bP shares (1+(k:Int))).getD a.toNat 0+(bP (aX p n ss inp shares crows (.opn a)) (1+(k:Int))).sum)%p%p=_
  rw [F _ rfl rfl,bI,md]
  simp
 | anew a =>
  refine J ((G a q.1 q.2).lin 1 (OnR.sum PR)) (fun k I=>?_) ?_
  ·show ((bP shares (1+(k:Int))).getD a.toNat 0+(bP (aX p n ss inp shares crows (.anew a)) (1+(k:Int))).sum)%p%p=_
   rw [bI,fH,md,Int.one_mul]
   rfl
  ·show fd.getD a.toNat 0%p=_
   have e:(bo p n ss inp shares (.anew a)).sum=0:=by
    show (List.replicate n.toNat (0:Int)).sum=0
    simp
   rw [e,wE,wA]
 | mul a b =>
  refine J (OnR.wsum (W:=bp p n.toNat) PR) (fun k I=>?_) ?_
  ·show (List.zipWith (·*·) (bp p n.toNat) (bP (aX p n ss inp shares crows (.mul a b)) (1+(k:Int)))).sum%p%p=_
   rw [fH,md]
   rfl
  ·show fd.getD a.toNat 0*fd.getD b.toNat 0%p%p=_
   rw [md]
   refine (OnR.prod PA.hp (by omega) (by omega) (by omega) (f:=f.toNat) (by omega) (G a q.1.1 q.1.2) (G b q.2.1 q.2.2) (xs:=bo p n ss inp shares (.mul a b)) (by rw [nl];exact bO n) fun k I=>?_).symm
   show ((bE n).map fun h=>recV p (bP shares h) (.mul a b)).getD k 0%p=_
   unfold bE eS
   rw [nn,wX,u5,vN I]
   show (bP shares (1+(k:Int))).getD a.toNat 0*(bP shares (1+(k:Int))).getD b.toNat 0%p%p=_
   rw [bI,bI,md]
theorem tq {p n f:Int}{ss:List Stp}{inp:LL}{ch:List Int} (PA:Par p n f ss inp) (hc:(ch.length:Int)=aY f n ss):∀ i,i≤ss.length→∃ rest fd,PlSt p n ss inp i rest fd∧Rests n ss inp rest i∧ShOn p n.toNat f.toNat (ja p n f.toNat ss inp ch i).1 fd
 | 0,_=>⟨inp,[],PlSt.start PA.io,Rests.start,rfl,fun a h=>by cases h⟩
 | i+1,h=>by
  have Z:=jc PA.hp
  obtain ⟨rest,fd,S,J,O⟩:=tq PA hc i (by omega)
  have q:ss[i]?=some ss[i]:=rz (show i<ss.length by omega)
  have F:=ir (p:=p) (n:=n) (f:=f.toNat) (ss:=ss) (inp:=inp) (ch:=ch) (i:=i) (by omega)
  refine ⟨_,_,S.next (by omega) q (PA.R i _ q),J.next (p:=p) S.ok.len q (PA.R i _ q),?_⟩
  have on:=step_on PA hc q F S J O
  rw [eQ q]
  have W:ss.getD (ja p n f.toNat ss inp ch i).1.length (.fix 0)=ss[i]:=by rw [F,nn,q];rfl
  unfold kg
  rw [W]
  refine ⟨by rw [u7,u7,O.1];rfl,fun a U=>?_⟩
  rw [u7,F] at U
  have fl:=S.fl
  by_cases e:a<i
  ·have G:((ja p n f.toNat ss inp ch i).1++[bZ p n (ja p n f.toNat ss inp ch i).1 (aX p n ss inp (ja p n f.toNat ss inp ch i).1 (aN f.toNat ch (aT f.toNat n (ss.take i)) ((ss[i]).dealers n).length) ss[i]) ss[i]]).getD a []=(ja p n f.toNat ss inp ch i).1.getD a []:=by
    rw [nn,vS (by omega),← nn]
   have I:(fd++[jh p rest fd ss[i]]).getD a 0=fd.getD a 0:=by
    rw [nn,vS (by omega),← nn]
   simp only [G,I]
   exact O.2 a (by omega)
  ·have Y:a=i:=by have:a<i+1:=U;omega
   subst Y
   have G:((ja p n f.toNat ss inp ch a).1++[bZ p n (ja p n f.toNat ss inp ch a).1 (aX p n ss inp (ja p n f.toNat ss inp ch a).1 (aN f.toNat ch (aT f.toNat n (ss.take a)) ((ss[a]).dealers n).length) ss[a]) ss[a]]).getD a []=bZ p n (ja p n f.toNat ss inp ch a).1 (aX p n ss inp (ja p n f.toNat ss inp ch a).1 (aN f.toNat ch (aT f.toNat n (ss.take a)) ((ss[a]).dealers n).length) ss[a]) ss[a]:=by
    rw [nn,vR (by omega),F,Nat.sub_self]
    rfl
   have I:(fd++[jh p rest fd ss[a]]).getD a 0=jh p rest fd ss[a]:=by
    rw [nn,vR (by omega),fl,Nat.sub_self]
    rfl
   simp only [G,I]
   exact on
end Veil
namespace Veil
open PySem L2
theorem runD_on {p n f:Int}{ss:List Stp}{inp:LL}{ch:List Int} (PA:Par p n f ss inp) (hc:(ch.length:Int)=aY f n ss):ShOn p n.toNat f.toNat (mJ p n f.toNat ss inp ch).1 (aD p ss inp)∧(∀ x∈aD p ss inp,0≤x∧x<p)∧(aD p ss inp).length=ss.length:=by
 obtain ⟨rest,fd,S,_,O⟩:=tq PA hc ss.length (va _)
 rw [← S.fin]
 exact ⟨O,S.fb,S.fl⟩
theorem wgh_on {p n f:Int}{ss:List Stp}{inp:LL} (PA:Par p n f ss inp) {row:List Int}{v:Int} (hl:row.length=n.toNat) (hv:0≤v∧v<p) (h:OnR p n.toNat f.toNat (fun k=>row.getD k 0) v):wgh p n row=v:=by
 have hn:=PA.hn
 have np:=PA.np
 have fn:=PA.fn
 have e:=OnR.opens PA.hp (n:=n.toNat) (by omega) (by omega) (by omega) (by omega) h hl (fun k _=>rfl)
 unfold wgh
 rw [e,vO hv.1 hv.2]
def opnI (nums:List Int) (i:Nat) (z:Stp):List (Int×Int):=match z with
 | .opn _=>[((i:Int),nums.getD i 0)]
 | _=>[]
def opnL (ss:List Stp) (nums:List Int):List (Int×Int):=((List.range ss.length).map fun i=>opnI nums i (ss.getD i (.fix 0))).flatten
theorem jZ {p n f:Int}{ss:List Stp}{inp:LL}{ch:List Int} (PA:Par p n f ss inp) (hc:(ch.length:Int)=aY f n ss):rh p n ss (mJ p n f.toNat ss inp ch).1=opnL ss (aD p ss inp):=by
 have J:=jc PA.hp
 obtain ⟨O,I,R⟩:=runD_on PA hc
 have F:=l0 (p:=p) (n:=n) (by omega) (f:=f.toNat) (ss:=ss) (inp:=inp) (ch:=ch) (i:=ss.length) (va _)
 have U:(mJ p n f.toNat ss inp ch).1.length=ss.length:=ir (va _)
 unfold rh opnL
 congr 1
 apply List.map_congr_left
 intro i hi
 have hi:=vH.mp hi
 cases ss.getD i (.fix 0) with
 | opn a =>
  show [((i:Int),wgh p n ((mJ p n f.toNat ss inp ch).1.getD i []))]=[((i:Int),(aD p ss inp).getD i 0)]
  have q:(mJ p n f.toNat ss inp ch).1[i]?=some (mJ p n f.toNat ss inp ch).1[i]:=rz (by omega)
  have o:=O.2 i (by omega)
  have G:0≤(aD p ss inp).getD i 0∧(aD p ss inp).getD i 0<p:=by
   rw [nn,rz (by omega)]
   exact I _ (v0 _)
  rw [wgh_on PA (v:=(aD p ss inp).getD i 0) ?_ G o]
  rw [nn,q]
  exact F.l _ (v0 _)
 | _=>rfl
end Veil
namespace Veil
open PySem L2
end Veil
namespace L2
open PySem PySem.Spec PyProof.Rows
theorem sl_listK {X:Cx} (K:PySem.W.Frag) (hK:X.K=K:=by rfl):SlR X (rSlL K):=by
 subst hK
 exact e9
theorem rj {X:Cx} (K:PySem.W.Frag) (hK:X.K=K:=by rfl):OpR X (compareOp .In) (rIn K false):=by
 subst hK
 exact gk
end L2
namespace Veil
open PySem L2
def jY (ss:List Stp) (inp:LL) (hs:List Int):LL:=hs.map fun h=>(bU inp h).take (aS ss h)
inductive dY (vs:List V) (H:Hp) (Q:VK) (E_:XK):Prop
 | mk (a b s:Addr) (n:Int) (ws:List V) (ss:List Stp) (is:List Addr) (inp:LL) (hs:List Int) (h0_:vs=[.ref a,.ref b,.ref s]) (h1_:H a=some (.lst ws)) (h2_:StpsAt H ws ss) (h3_:H b=some (.lst (is.map V.ref))) (h4_:InsAt H is inp) (h5_:(inp.length:Int)=n) (h6_:H s=some (.lst (hs.map V.int))) (h7_:hs.length≤100) (h8_:(∀ h∈hs,1≤h∧h≤n)) (h9_:NewIns H Q (jY ss inp hs)):dY vs H Q E_
def dw (hs ds:List Int) (rows:LL):List Int:=((ds.zip rows).map fun q=>if q.1∈hs then q.2 else []).flatten
def fQ (n:Int) (hs:List Int) (ss:List Stp) (L:List LL) (i:Nat):List Int:=(((ss.zip L).take i).map fun q=>dw hs (q.1.dealers n) q.2).flatten
def i4 (f:Nat) (n:Int) (ch hs:List Int) (ss:List Stp):List Int:=fQ n hs ss (bA f n ch ss 0) ss.length
theorem oi {hs ds:List Int}{rows:LL}{k:Nat}{d:Int}{r:List Int} (h1:ds[k]?=some d) (h2:rows[k]?=some r):dw hs (ds.take (k+1)) (rows.take (k+1))=dw hs (ds.take k) (rows.take k)++(if d∈hs then r else []):=by
 unfold dw
 have hz:(ds.zip rows)[k]?=some (d,r):=by rw [wD];exact ⟨h1,h2⟩
 rw [fT,fT,vn,hz,u6,wK]
 simp
theorem gp {n:Int}{hs:List Int}{ss:List Stp}{L:List LL}{i:Nat}{z:Stp}{rows:LL} (h1:ss[i]?=some z) (h2:L[i]?=some rows):fQ n hs ss L (i+1)=fQ n hs ss L i++dw hs (z.dealers n) rows:=by
 unfold fQ
 have hz:(ss.zip L)[i]?=some (z,rows):=by rw [wD];exact ⟨h1,h2⟩
 rw [vn,hz,u6,wK]
 simp
theorem i3 {f:Nat}{n:Int}{ch:List Int}{ss:List Stp}{i:Nat}{z:Stp} (h:ss[i]?=some z):(bA f n ch ss 0)[i]?=some (aN f ch (aT f n (ss.take i)) (z.dealers n).length):=by
 have il:i<ss.length:=(u3.mp h).1
 rw [eE,u5,vN il,Option.map_some,Nat.zero_add,nn,h]
 rfl
theorem kj {hs ds:List Int}{rows:LL}{f:Nat} (hr:∀ r∈rows,r.length≤f):(dw hs ds rows).length≤ds.length*f:=by
 unfold dw
 induction ds generalizing rows with
 | nil=>simp
 | cons d t ih =>
  cases rows with
  | nil=>simp
  | cons r rs =>
   rw [wQ,vV,vX,u7,vh,Nat.add_mul,Nat.one_mul]
   have h1:=ih (rows:=rs) fun q F=>hr q (.tail _ F)
   have h2:=hr r (.head _)
   have h3:(if d∈hs then r else []).length≤f:=by split;exact h2;exact vk _
   have G:(if (d,r).fst∈hs then (d,r).snd else [])=(if d∈hs then r else []):=rfl
   rw [G]
   omega
inductive fZ (C:Addr) (vs:List V) (H:Hp) (Q:VK) (E_:XK):Prop
 | mk (t a c s:Addr) (p n f:Int) (ws:List V) (ss:List Stp) (ch hs:List Int) (h0_:vs=[.ref t,.ref a,.ref c,.ref s]) (h1_:TabAt C H t p n f) (h2_:(0≤n∧n≤10)) (h3_:(0≤f∧f≤2)) (h4_:H a=some (.lst ws)) (h5_:StpsAt H ws ss) (h6_:ss.length≤100) (h7_:H c=some (.lst (ch.map V.int))) (h8_:H s=some (.lst (hs.map V.int))) (h9_:ox H Q ((i4 f.toNat n ch hs ss).map V.int)):fZ C vs H Q E_
def dm (hs:List Int) (ls:List jg):List jg:=ls.filter fun l=>decide (l.2.2.1∈hs)
def dlet (l:jg):PySem.W.Dat:=.tuple [.int l.1,.int l.2.1,.int l.2.2.1,.int l.2.2.2]
theorem LetsAt.rep {H:Hp}:∀ {vs:List V}{ls:List jg},LetsAt H vs ls→RepDs H vs (ls.map dlet)
 | _,_,.nil=>.nil
 | _,_,.cons ⟨a,e,z⟩ t=>by
  subst e
  exact .cons (.tup z (.cons (.int _) (.cons (.int _) (.cons (.int _) (.cons (.int _) .nil))))) (LetsAt.rep t)
theorem ni {p n:Int} (hp:0<p) (hn:3≤n∧n≤7) {f:Nat}{ss:List Stp}{inp:LL}{ch:List Int}:∀ {i:Nat},i≤ss.length→(ja p n f ss inp ch i).2.length≤100*i
 | 0,_=>va _
 | i+1,h=>by
  have F:ss[i]?=some ss[i]:=rz (by omega)
  rw [eQ F]
  have q:=ni hp hn (f:=f) (ss:=ss) (inp:=inp) (ch:=ch) (i:=i) (by omega)
  generalize ja p n f ss inp ch i=st at q
  unfold kg
  rw [u7]
  have:=iD (p:=p) hn (st.1.length:Int) (bZ p n st.1 (aX p n ss inp st.1 (aN f ch (aT f n (ss.take i)) ((ss[i]).dealers n).length) (ss.getD st.1.length (.fix 0))) (ss.getD st.1.length (.fix 0))) (aX p n ss inp st.1 (aN f ch (aT f n (ss.take i)) ((ss[i]).dealers n).length) (ss.getD st.1.length (.fix 0))) (ss.getD st.1.length (.fix 0)) (fun r hr=>by have:=(fB (p:=p) (n:=n) hp ss inp st.1 (aN f ch (aT f n (ss.take i)) ((ss[i]).dealers n).length) (ss.getD st.1.length (.fix 0))).l r hr;omega)
  omega
inductive oG (C cS cI cC cH:Addr) (vs:List V) (H:Hp) (Q:VK) (E:XK):Prop
 | mk (t a b c s:Addr) (p n f:Int) (ws:List V) (ss:List Stp) (is:List Addr) (inp:LL) (ch hs:List Int) (h0_:vs=[.ref t,.ref a,.ref b,.ref c,.ref s]) (h1_:TabAt C H t p n f) (h2_:p∈primes9) (h3_:(3≤n∧n≤7)) (h4_:n<p) (h5_:(f=1∨f=2)) (h6_:2*f<n) (h7_:H a=some (.lst ws)) (h8_:StpsAt H ws ss) (h9_:H b=some (.lst (is.map V.ref))) (h10_:InsAt H is inp) (h11_:(∀ r∈inp,r.length≤1000)) (h12_:H c=some (.lst (ch.map V.int))) (h13_:ch.length≤1000) (h14_:H s=some (.lst (hs.map V.int))) (h15_:hs.length≤100) (h16_:(aR p n ss=true→eB p n ss inp=true→dW p f n ss ch=true→l6 n hs=true→∀ d oa ua la (os:List Addr) (lvs:List V) H',Same H H'→H d=none→H oa=none→H ua=none→H la=none→d≠oa→d≠ua→d≠la→oa≠ua→oa≠la→ua≠la→(∀ x∈os,H x=none∧x≠d∧x≠oa∧x≠ua∧x≠la)→os.Nodup→H' d=some (.tup [.ref oa,.ref ua,.ref la])→H' oa=some (.lst (os.map V.ref))→InsAt H' os (jY ss inp hs)→H' ua=some (.lst ((i4 f.toNat n ch hs ss).map V.int))→H' la=some (.lst lvs)→LetsAt H' lvs (dm hs (mJ p n f.toNat ss inp ch).2)→Q (.ref d) H')) (h17_:(aR p n ss=false→∀ H',Same H H'→E (.ref cS) none H')) (h18_:(aR p n ss=true→eB p n ss inp=false→∀ H',Same H H'→E (.ref cI) none H')) (h19_:(aR p n ss=true→eB p n ss inp=true→dW p f n ss ch=false→∀ H',Same H H'→E (.ref cC) none H')) (h20_:(aR p n ss=true→eB p n ss inp=true→dW p f n ss ch=true→l6 n hs=false→∀ H',Same H H'→E (.ref cH) none H')):oG C cS cI cC cH vs H Q E
end Veil
namespace Veil
open PySem L2
theorem ints_okk (k:Nat) (ns:List Int):PySem.W.kqdOk (k+2) (.list (ns.map PySem.W.Dat.int))=true:=by
 show (ns.map PySem.W.Dat.int).all (PySem.W.kqdOk (k+1))=true
 rw [wz]
 exact vv.mpr fun _ _=>rfl
theorem pf (inp:LL):PySem.W.kqdOk 7 (dU inp)=true:=by
 show (inp.map fun r=>PySem.W.Dat.list (r.map PySem.W.Dat.int)).all (PySem.W.kqdOk 6)=true
 rw [wz]
 exact vv.mpr fun r _=>ints_okk 4 r
end Veil
namespace L2
open PySem PySem.Spec PyProof.Rows
end L2
namespace Veil
open PySem L2
end Veil
namespace Veil
open PySem L2
structure Giv (H8:Hp) (g0 R gv:Addr) (H:Hp) (g2:Addr) (ss:List Stp) (inp:LL) (ch:List Int):Prop where
 s:Same H8 H
 v:H gv=some (.lst [.ref g0,.ref R,.ref g2])
 st:∃ ws,H g0=some (.lst ws)∧StpsAt H ws ss
 i:∃ as:List Addr,H R=some (.lst (as.map V.ref))∧InsAt H as inp∧∀ x∈as,x≠g0∧x≠R∧x≠gv
 c:H g2=some (.lst (ch.map V.int))
 n:g2≠g0∧g2≠R∧g2≠gv
structure GivN (H8:Hp) (g0 R gv:Addr):Prop where
 f:H8 g0=none∧H8 R=none∧H8 gv=none
 n:g0≠R∧g0≠gv∧R≠gv
end Veil
namespace Veil
open PySem L2
end Veil
namespace L2
open PySem PySem.Spec PyProof.Rows
section
variable {P:Program}{w:World}{K:PySem.W.Frag}{mg:Str→Option Value}{base:Heap}{N:List Str}{qual:Str}{scope:Scope}{f C:Addr}{cd:Value}{A:Around}{outer:List Env}{s0:Shared}{H0:Hp}{E:XK}{k j:Nat}{x:Str}{p pos:Pos}{e:Expr}{es:List Expr}{t:TA}{ps:List Str}{sp:Sp}
end
end L2
namespace Veil
open PySem L2
structure ClsIx (K:PySem.W.Frag) (mg:Str→Option Value) (cl:Nat→Addr) (bm:Nat→List Value) (cV:Addr):Prop where
 ec:∀ i,i<9→ExCls K (cl i)
 kt:∀ i j,i<9→j<9→PySem.W.kitOne K (.ref (cl i)) (.ref (cl j))=some (decide (i=j))
 kV:∀ i,i<9→PySem.W.kitOne K (.ref (cl i)) (.ref cV)=some true
 kE:∀ i,i<9→PySem.W.kitOne K (.ref (cl i)) (.type "ValueError")=some true
 ex:∀ i,i<9→∃ x,Exc K mg x (cl i) (bm i)
 inV:∀ i,i<9→(Value.ref (cl i)::bm i).contains (.ref cV)=true
end Veil
namespace Veil
open PySem L2
def opnF (q:Stp×Int):Option Int:=match q.1 with
 | .opn _=>some q.2
 | _=>none
def opnV (ss:List Stp) (nums:List Int):List Int:=(ss.zip nums).filterMap opnF
inductive fY (C:Addr) (vs:List V) (H:Hp) (Q:VK) (E_:XK):Prop
 | mk (t a b:Addr) (p n f:Int) (ws:List V) (ss:List Stp) (is:List Addr) (inp:LL) (h0_:vs=[.ref t,.ref a,.ref b]) (h1_:TabAt C H t p n f) (h2_:0<p∧p≤31) (h3_:0≤n∧n≤10) (h4_:H a=some (.lst ws)) (h5_:StpsAt H ws ss) (h6_:H b=some (.lst (is.map V.ref))) (h7_:InsAt H is inp) (h8_:∀ r∈inp,r.length≤1000) (h9_:aR p n ss=true) (h10_:eB p n ss inp=true) (h11_:ss.length≤24) (h12_:ox H Q ((opnV ss (aD p ss inp)).map V.int)):fY C vs H Q E_
def cT (p:Int) (ss:List Stp) (inp oth:LL) (hs:List Int):Bool:=decide (jY ss inp hs=jY ss oth hs) && decide (opnV ss (aD p ss inp)=opnV ss (aD p ss oth))
inductive lQ (C:Addr) (vs:List V) (H:Hp) (Q:VK) (E_:XK):Prop
 | mk (t a b o s:Addr) (p n f:Int) (ws:List V) (ss:List Stp) (is js:List Addr) (inp oth:LL) (hs:List Int) (h0_:vs=[.ref t,.ref a,.ref b,.ref o,.ref s]) (h1_:TabAt C H t p n f) (h2_:0<p∧p≤31) (h3_:0≤n∧n≤10) (h4_:H a=some (.lst ws)) (h5_:StpsAt H ws ss) (h6_:H b=some (.lst (is.map V.ref))) (h7_:InsAt H is inp) (h8_:∀ r∈inp,r.length≤1000) (h9_:H o=some (.lst (js.map V.ref))) (h10_:InsAt H js oth) (h11_:∀ r∈oth,r.length≤1000) (h12_:aR p n ss=true) (h13_:eB p n ss inp=true) (h14_:eB p n ss oth=true) (h15_:ss.length≤24) (h16_:H s=some (.lst (hs.map V.int))) (h17_:l6 n hs=true) (h18_:hs.length≤100) (h19_:cB H Q (.bl (cT p ss inp oth hs))):lQ C vs H Q E_
def cU (p:Int) (cover row:List Int) (d:Int):List Int:=List.zipWith (fun v c=>(v+c*d)%p) row (cover.drop 1)
inductive lG (C:Addr) (vs:List V) (H:Hp) (Q:VK) (E_:XK):Prop
 | mk (t co ro:Addr) (p n f d:Int) (cover row:List Int) (h0_:vs=[.ref t,.ref co,.ref ro,.int d]) (h1_:TabAt C H t p n f) (h2_:0<p∧p≤31) (h3_:H co=some (.lst (cover.map V.int))) (h4_:H ro=some (.lst (row.map V.int))) (h5_:∀ v∈cover,0≤v∧v<p) (h6_:row.length≤100) (h7_:ox H Q ((cU p cover row d).map V.int)):lG C vs H Q E_
theorem tJ {ss:List Stp}{nums:List Int}{i:Nat}{z:Stp}{v:Int} (h1:ss[i]?=some z) (h2:nums[i]?=some v):((ss.zip nums).take (i+1)).filterMap opnF=((ss.zip nums).take i).filterMap opnF++(match z with | .opn _=>[v] | _=>[]):=by
 have hz:(ss.zip nums)[i]?=some (z,v):=by rw [wD];exact ⟨h1,h2⟩
 rw [vn,hz,List.filterMap_append]
 congr 1
 cases z<;>rfl
theorem datIns_inj {a b:LL}:dU a=dU b↔a=b:=⟨fun h=>by
 unfold dU at h
 injection h with h
 exact (List.map_inj_right fun x y h=>by
  injection h with h
  exact (List.map_inj_right fun _ _ h=>by injection h).mp h).mp h,fun h=>by rw [h]⟩
end Veil
namespace Veil
open PySem L2
def fO (p:Int) (cover hs:List Int) (h:Int) (row:List Int) (b a:Int):List Int:=if h∈hs then row else cU p cover row (a - b)
def bj (p:Int) (cover hs hands:List Int) (crows:LL) (n1 n2:List Int):LL:=(List.range hands.length).map fun k=>fO p cover hs (hands.getD k 0) (crows.getD k []) (n1.getD k 0) (n2.getD k 0)
inductive lP (C CC:Addr) (vs:List V) (H:Hp) (Q:VK) (E_:XK):Prop
 | mk (co so ra c1 c2:Addr) (p n f:Int) (ss:List Stp) (inp oth sh1 sh2 crows:LL) (z:Stp) (cover hs:List Int) (rs:List Addr) (t a b wa sh le:Addr) (ws:List V) (is shs:List Addr) (h0_:vs=[.ref co,.ref so,.ref ra,.ref c1,.ref c2]) (h1_:CrsAt C CC H c1 p n f ss inp sh1 t a b wa sh le ws is shs) (h2_:CrsR C CC H c2 p n f ss oth sh2) (h3_:Par p n f ss inp) (h4_:Par p n f ss oth) (h5_:ShsOk p n sh1) (h6_:ShsOk p n sh2) (h7_:ss[sh1.length]?=some z) (h8_:sh2.length=sh1.length) (h9_:H co=some (.lst (cover.map V.int))) (h10_:∀ v∈cover,0≤v∧v<p) (h11_:H so=some (.lst (hs.map V.int))) (h12_:H ra=some (.lst (rs.map V.ref))) (h13_:InsAt H rs crows) (h14_:crows.length=(z.dealers n).length) (h15_:∀ r∈crows,r.length≤100)
  (h16_:∀ d ds H',Same H H'→H d=none→H' d=some (.lst (ds.map V.ref))→d∉ds→InsAt H' ds (bj p cover hs (z.dealers n) crows (bo p n ss inp sh1 z) (bo p n ss oth sh2 z))→(∀ x∈ds,H x=none∨x∈rs)→Q (.ref d) H'):lP C CC vs H Q E_
theorem pk {p:Int}{cover hs hands:List Int}{crows:LL}{n1 n2:List Int}{k:Nat}{h:Int}{row:List Int}{b a:Int} (h0:hands[k]?=some h) (h1:crows[k]?=some row) (h2:n1[k]?=some b) (h3:n2[k]?=some a):(bj p cover hs hands crows n1 n2).take (k+1)=(bj p cover hs hands crows n1 n2).take k++[fO p cover hs h row b a]:=by
 have q:k<hands.length:=(u3.mp h0).1
 rw [vn]
 unfold bj
 rw [u5,vN q]
 simp only [Option.map_some,nn,h0,h1,h2,h3,Option.getD_some]
 rfl
theorem bu {p:Int}{cover hs hands:List Int}{crows:LL}{n1 n2:List Int}:(bj p cover hs hands crows n1 n2).length=hands.length:=by unfold bj;rw [lH,vo]
theorem sx_upd {ex:List Addr}{H H':Hp} (s:SameX ex H H') {l:Addr}{o:HO} (h:l∈ex):SameX ex H (upd H' l o):=fun x u e hn=>by rw [az fun z=>hn (by rw [z];exact h)];exact s x u e hn
theorem lB {ex:List Addr}{H H':Hp} (s:SameX ex H H') {l:Addr} (h:H' l=none) (hn:l∉ex):H l=none:=by
 cases e:H l with
 | none=>rfl
 | some u=>rw [s l u e hn] at h;cases h
end Veil
namespace Veil
open PySem L2
structure ExSt where
 here:LL×List jg
 there:LL×List jg
 found:List Int
def bG (p n:Int) (f:Nat) (ss:List Stp) (inp oth:LL) (ch cover hs:List Int) (i:Nat) (s:ExSt):LL:=bj p cover hs ((ss.getD i (.fix 0)).dealers n) (aN f ch (aT f n (ss.take i)) ((ss.getD i (.fix 0)).dealers n).length) (bo p n ss inp s.here.1 (ss.getD i (.fix 0))) (bo p n ss oth s.there.1 (ss.getD i (.fix 0)))
def exI (p n:Int) (f:Nat) (ss:List Stp) (inp oth:LL) (ch cover hs:List Int):Nat→ExSt
 | 0=>⟨([],[]),([],[]),[]⟩
 | i+1=>⟨kg p n ss inp (exI p n f ss inp oth ch cover hs i).here (aN f ch (aT f n (ss.take i)) ((ss.getD i (.fix 0)).dealers n).length),kg p n ss oth (exI p n f ss inp oth ch cover hs i).there (bG p n f ss inp oth ch cover hs i (exI p n f ss inp oth ch cover hs i)),(exI p n f ss inp oth ch cover hs i).found++(bG p n f ss inp oth ch cover hs i (exI p n f ss inp oth ch cover hs i)).flatten⟩
def exD (p n:Int) (f:Nat) (ss:List Stp) (inp oth:LL) (ch hs:List Int):List Int:=(exI p n f ss inp oth ch (bv p f hs) hs ss.length).found
theorem goSt_len {p n:Int}{ss:List Stp}{inp:LL}{st:LL×List jg}{crows:LL}:(kg p n ss inp st crows).1.length=st.1.length+1:=by
 show (_++[_]).length=_
 rw [u7]
 rfl
theorem pA {p n:Int}{f:Nat}{ss:List Stp}{inp oth:LL}{ch cover hs:List Int}:∀ i,(exI p n f ss inp oth ch cover hs i).here.1.length=i∧(exI p n f ss inp oth ch cover hs i).there.1.length=i
 | 0=>⟨rfl,rfl⟩
 | i+1=>by
  have ih:=pA (p:=p) (n:=n) (f:=f) (ss:=ss) (inp:=inp) (oth:=oth) (ch:=ch) (cover:=cover) (hs:=hs) i
  exact ⟨goSt_len.trans (by rw [ih.1]),goSt_len.trans (by rw [ih.2])⟩
theorem uw {p n:Int} (hp:0<p) {ss:List Stp}{inp:LL}{st:LL×List jg}{crows:LL} (h:ShsOk p n st.1):ShsOk p n (kg p n ss inp st crows).1:=h.snoc (iC ..) (qg hp (fB hp ..) _)
theorem qq {p n:Int} (hp:0<p) {f:Nat}{ss:List Stp}{inp oth:LL}{ch cover hs:List Int}:∀ i,ShsOk p n (exI p n f ss inp oth ch cover hs i).here.1∧ShsOk p n (exI p n f ss inp oth ch cover hs i).there.1
 | 0=>⟨⟨(fun r h=>nomatch h),(fun r h=>nomatch h)⟩,⟨(fun r h=>nomatch h),(fun r h=>nomatch h)⟩⟩
 | i+1=>⟨uw hp (qq hp i).1,uw hp (qq hp i).2⟩
theorem jD {p n:Int}{f:Nat}{ss:List Stp}{inp oth:LL}{ch cover hs:List Int}:∀ i,i≤ss.length→(exI p n f ss inp oth ch cover hs i).here=ja p n f ss inp ch i
 | 0,_=>rfl
 | i+1,h=>by
  have e:ss[i]?=some ss[i]:=rz (by omega)
  rw [eQ e,← jD (oth:=oth) (cover:=cover) (hs:=hs) i (by omega)]
  show kg p n ss inp _ (aN f ch (aT f n (ss.take i)) ((ss.getD i (.fix 0)).dealers n).length)=_
  rw [show ss.getD i (.fix 0)=ss[i] by rw [nn,e];rfl]
inductive spExP (C cS cI cC cH cN:Addr) (vs:List V) (H:Hp) (Q:VK) (E:XK):Prop
 | mk (t a b o c s:Addr) (p n f:Int) (ws:List V) (ss:List Stp) (is js:List Addr) (inp oth:LL) (ch hs:List Int) (h0_:vs=[.ref t,.ref a,.ref b,.ref o,.ref c,.ref s]) (h1_:TabAt C H t p n f) (h2_:p∈primes9) (h3_:3≤n∧n≤7) (h4_:n<p) (h5_:f=1∨f=2) (h6_:2*f<n) (h7_:H a=some (.lst ws)) (h8_:StpsAt H ws ss) (h9_:H b=some (.lst (is.map V.ref))) (h10_:InsAt H is inp) (h11_:∀ r∈inp,r.length≤1000) (h12_:H o=some (.lst (js.map V.ref))) (h13_:InsAt H js oth) (h14_:∀ r∈oth,r.length≤1000) (h15_:H c=some (.lst (ch.map V.int))) (h16_:ch.length≤1000) (h17_:H s=some (.lst (hs.map V.int))) (h18_:hs.length≤100)
  (h19_:aR p n ss=true→eB p n ss inp=true→dW p f n ss ch=true→eB p n ss oth=true→l6 n hs=true→(hs.length:Int)≤f→cT p ss inp oth hs=true→ox H Q ((exD p n f.toNat ss inp oth ch hs).map V.int))
  (h20_:aR p n ss=false→∀ H',Same H H'→E (.ref cS) none H') (h21_:aR p n ss=true→eB p n ss inp=false→∀ H',Same H H'→E (.ref cI) none H') (h22_:aR p n ss=true→eB p n ss inp=true→dW p f n ss ch=false→∀ H',Same H H'→E (.ref cC) none H') (h23_:aR p n ss=true→eB p n ss inp=true→dW p f n ss ch=true→eB p n ss oth=false→∀ H',Same H H'→E (.ref cI) none H')
  (h24_:aR p n ss=true→eB p n ss inp=true→dW p f n ss ch=true→eB p n ss oth=true→l6 n hs=false→∀ H',Same H H'→E (.ref cH) none H') (h25_:aR p n ss=true→eB p n ss inp=true→dW p f n ss ch=true→eB p n ss oth=true→l6 n hs=true→f<(hs.length:Int)→∀ H',Same H H'→E (.ref cN) none H') (h26_:aR p n ss=true→eB p n ss inp=true→dW p f n ss ch=true→eB p n ss oth=true→l6 n hs=true→(hs.length:Int)≤f→cT p ss inp oth hs=false→∀ H',Same H H'→E (.ref cN) none H'):spExP C cS cI cC cH cN vs H Q E
end Veil
namespace Veil
open PySem L2
theorem CrsAt.sx {C CC:Addr}{ex:List Addr}{H H':Hp} (s:SameX ex H H') (hl:∀ y∈ex,∃ xs,H y=some (.lst xs)) {c:Addr}{p n f:Int}{ss:List Stp}{inp shares:LL}{t a b wa sh le:Addr}{ws:List V}{is shs:List Addr} (R:CrsAt C CC H c p n f ss inp shares t a b wa sh le ws is shs) (ha:a∉ex) (hb:b∉ex) (hw:wa∉ex) (hs:sh∉ex) (hi:∀ i∈is,i∉ex) (hj:∀ i∈shs,i∉ex):CrsAt C CC H' c p n f ss inp shares t a b wa sh le ws is shs:=by
 have F:∀ {x:Addr}{u:HO},H x=some u→(∀ xs,u≠.lst xs)→x∉ex:=fun e h m=>by
  obtain ⟨xs,I⟩:=hl _ m
  rw [e] at I
  exact h xs (vz I)
 obtain ⟨dx,hc⟩:=R.obj
 obtain ⟨U,G⟩:=R.tab
 exact ⟨⟨dx,s _ _ hc (F hc fun xs z=>nomatch z)⟩,⟨U,s _ _ G (F G fun xs z=>nomatch z)⟩,s _ _ R.ha ha,Paired.mapP R.st fun v q ⟨O,W,J⟩=>⟨O,W,s _ _ J (F J fun xs z=>nomatch z)⟩,s _ _ R.hb hb,InsAt.sx s R.hin hi,s _ _ R.hw hw,s _ _ R.hsh hs,InsAt.sx s R.hs hj⟩
theorem veil_b {p:Int} (hp:1<p) {f:Nat}{hs:List Int}:∀ v∈bv p f hs,0≤v∧v<p:=fun v hv=>by
 unfold bv at hv
 rcases vr.mp hv with h | h
 ·exact sE hp hs v h
 ·rw [List.eq_of_mem_replicate h]
  omega
theorem qo {k:Nat}:∀ {xs:LL},(∀ r∈xs,r.length≤k)→xs.flatten.length≤k*xs.length
 | [],_=>vk _
 | r::xs,h=>by
  have h1:=h r (vb ..)
  have h2:=qo (xs:=xs) fun y hy=>h y (vd _ hy)
  rw [vX,u7,vh,Nat.mul_succ]
  omega
theorem LetsAt.sx {ex:List Addr}{H H':Hp} (s:SameX ex H H') (hl:∀ y∈ex,∃ xs,H y=some (.lst xs)) {vs:List V}{ls:List jg} (h:LetsAt H vs ls):LetsAt H' vs ls:=Paired.mapP h fun v q ⟨a',e',z'⟩=>⟨a',e',s _ _ z' fun m=>by obtain ⟨xs,hx⟩:=hl _ m;rw [hx] at z';cases z'⟩
end Veil
namespace Veil
open PySem L2
section
variable {p n f:Int}{ss:List Stp}{inp oth:LL}{ch hs:List Int}
end
end Veil
namespace Veil
open PySem L2
def StA (H:Hp) (g x:Addr) (ss:List Stp):Prop:=x≠g∧∃ ws,H x=some (.lst ws)∧StpsAt H ws ss
def InA (H:Hp) (g x:Addr) (inp:LL):Prop:=x≠g∧∃ as:List Addr,H x=some (.lst (as.map V.ref))∧InsAt H as inp∧g∉as
def NuA (H:Hp) (g x:Addr) (l:List Int):Prop:=x≠g∧H x=some (.lst (l.map V.int))
structure GivX (H8:Hp) (gv:Addr) (H:Hp) (x0 x1 x2 x3 x4:Addr) (ss:List Stp) (inp oth:LL) (ch hs:List Int):Prop where
 s:Same H8 H
 v:H gv=some (.lst [.ref x0,.ref x1,.ref x2,.ref x3,.ref x4])
 a0:StA H gv x0 ss
 a1:InA H gv x1 inp
 a2:InA H gv x2 oth
 a3:NuA H gv x3 ch
 a4:NuA H gv x4 hs
end Veil
namespace Veil
open PySem L2
theorem qp (f:Nat) (ch:List Int) (u:Nat):∀ k,(aN f ch u k).flatten=(ch.drop u).take (k*f)
 | 0=>by simp [aN]
 | k+1=>by
  have ih:=qp f ch u k
  unfold aN at ih ⊢
  rw [wU,u6,wK,ih,Nat.succ_mul,List.take_add,List.drop_drop]
  simp
theorem cut_cons (f:Nat) (ch:List Int) (u k:Nat):aN f ch u (k+1)=(ch.drop u).take f::aN f ch (u+f) k:=by
 unfold aN
 rw [List.range_succ_eq_map,vV,wX]
 simp only [Nat.zero_mul,Nat.add_zero]
 congr 1
 refine List.map_congr_left fun i _=>?_
 show (ch.drop (u+(i+1)*f)).take f=_
 rw [Nat.succ_mul,show u+(i*f+f)=u+f+i*f by omega]
theorem qv {f:Nat}:∀ {R:LL}{A B:List Int},(∀ r∈R,r.length=f)→aN f (A++(R.flatten++B)) A.length R.length=R
 | [],A,B,_=>rfl
 | r::R,A,B,h=>by
  have hr:=h r (vb ..)
  have q:=qv (R:=R) (A:=A++r) (B:=B) fun x F=>h x (vd _ F)
  rw [u7,hr,wf] at q
  rw [vh,cut_cons,vX,wf r,q,List.drop_left,List.take_left' hr]
theorem pI {p d e:Int} (hd:d+e=0):∀ {row C:List Int},row.length≤C.length→(∀ v∈row,0≤v∧v<p)→List.zipWith (fun v c=>(v+c*e)%p) (List.zipWith (fun v c=>(v+c*d)%p) row C) C=row
 | [],_,_,_=>by simp
 | v::row,[],h,_=>by simp at h
 | v::row,c::C,h,hb=>by
  have q:=hb v (vb ..)
  rw [wB,wB,pI hd (by simpa using h) fun x F=>hb x (vd _ F)]
  congr 1
  rw [Int.emod_add_emod,Int.add_assoc,← wS,hd,wE,wA,vO q.1 q.2]
theorem sv {p:Int}:∀ {row C:List Int},row.length≤C.length→(∀ v∈row,0≤v∧v<p)→List.zipWith (fun v c=>(v+c*0)%p) row C=row
 | [],_,_,_=>by simp
 | v::row,[],h,_=>by simp at h
 | v::row,c::C,h,hb=>by
  have q:=hb v (vb ..)
  rw [wB,sv (by simpa using h) fun x F=>hb x (vd _ F)]
  congr 1
  rw [wE,wA,vO q.1 q.2]
section
variable {p:Int}{f:Nat}{cover hs:List Int} (hp:0<p) (hc:cover.length=f+1)
include hp hc
theorem uz {h b a:Int}{row:List Int} (hr:row.length=f):(fO p cover hs h row b a).length=f:=by
 unfold fO
 split
 ·exact hr
 ·unfold cU
  rw [vY,wt]
  omega
theorem exRow_b {h b a:Int}{row:List Int} (hb:∀ v∈row,0≤v∧v<p):∀ v∈fO p cover hs h row b a,0≤v∧v<p:=by
 unfold fO
 split
 ·exact hb
 ·intro v hv
  unfold cU at hv
  rw [List.mem_iff_getElem?] at hv
  obtain ⟨i,hi⟩:=hv
  rw [wm] at hi
  split at hi
  ·rw [← vz hi]
   exact ⟨vC _ (by omega),vw _ hp⟩
  ·cases hi
theorem rT {h b a:Int}{row:List Int} (hr:row.length=f) (hb:∀ v∈row,0≤v∧v<p):fO p cover hs h (fO p cover hs h row b a) a b=row:=by
 unfold fO
 split
 ·rfl
 ·exact pI (by omega) (by rw [wt];omega) hb
theorem rS {h b:Int}{row:List Int} (hr:row.length=f) (hb:∀ v∈row,0≤v∧v<p):fO p cover hs h row b b=row:=by
 unfold fO
 split
 ·rfl
 ·unfold cU
  rw [Int.sub_self]
  exact sv (by rw [wt];omega) hb
theorem rR {hands n1 n2:List Int}{crows:LL} (hl:crows.length=hands.length) (hr:∀ r∈crows,r.length=f∧∀ v∈r,0≤v∧v<p):∀ r∈bj p cover hs hands crows n1 n2,r.length=f∧∀ v∈r,0≤v∧v<p:=fun r h=>by
 unfold bj at h
 obtain ⟨k,q,rfl⟩:=vP.mp h
 have q:=vH.mp q
 have F:crows.getD k []∈crows:=by
  rw [nn,rz (by omega)]
  exact v0 _
 exact ⟨uz hp hc (hr _ F).1,exRow_b hp hc (hr _ F).2⟩
omit hp hc in
theorem gn {hands n1 n2:List Int}{crows:LL}{k:Nat} (hk:k<hands.length):(bj p cover hs hands crows n1 n2).getD k []=fO p cover hs (hands.getD k 0) (crows.getD k []) (n1.getD k 0) (n2.getD k 0):=by
 unfold bj
 rw [nn,u5,vN hk]
 rfl
theorem pz {hands n1 n2:List Int}{crows:LL} (hl:crows.length=hands.length) (hr:∀ r∈crows,r.length=f∧∀ v∈r,0≤v∧v<p):bj p cover hs hands (bj p cover hs hands crows n1 n2) n2 n1=crows:=by
 refine List.ext_getElem (by rw [bu,hl]) fun k h1 h2=>?_
 have F:(bj p cover hs hands (bj p cover hs hands crows n1 n2) n2 n1).getD k []=(bj p cover hs hands (bj p cover hs hands crows n1 n2) n2 n1)[k]:=by rw [nn,rz h1];rfl
 have G:crows.getD k []=crows[k]:=by rw [nn,rz h2];rfl
 have q:=hr _ (v0 h2)
 rw [← F,gn (by omega),gn (by omega),G,rT hp hc q.1 q.2]
theorem pq {hands ns:List Int}{crows:LL} (hl:crows.length=hands.length) (hr:∀ r∈crows,r.length=f∧∀ v∈r,0≤v∧v<p):bj p cover hs hands crows ns ns=crows:=by
 refine List.ext_getElem (by rw [bu,hl]) fun k h1 h2=>?_
 have F:(bj p cover hs hands crows ns ns).getD k []=(bj p cover hs hands crows ns ns)[k]:=by rw [nn,rz h1];rfl
 have G:crows.getD k []=crows[k]:=by rw [nn,rz h2];rfl
 have q:=hr _ (v0 h2)
 rw [← F,gn (by omega),G,rS hp hc q.1 q.2]
variable {n:Int}{ss:List Stp}{ch:List Int} (hn:0≤n) (hl:(ch.length:Int)=aY (f:Int) n ss) (hb:∀ v∈ch,0≤v∧v<p)
include hn hl hb
omit hp hc in
theorem uG {i:Nat} (hi:i<ss.length):∀ r∈aN f ch (aT f n (ss.take i)) ((ss.getD i (.fix 0)).dealers n).length,r.length=f∧∀ v∈r,0≤v∧v<p:=fun r hr=>by
 have e:ss[i]?=some (ss.getD i (.fix 0)):=by rw [nn,rz hi];rfl
 exact ⟨qu hn hl e r hr,fun v hv=>hb v ((iI r hr).2 v hv)⟩
theorem uA {inp oth:LL}{i:Nat} (hi:i<ss.length) (s:ExSt):∀ r∈bG p n f ss inp oth ch cover hs i s,r.length=f∧∀ v∈r,0≤v∧v<p:=rR hp hc (b7 ..) (uG hn hl hb hi)
theorem mF {inp oth:LL}:∀ i,i≤ss.length→(exI p n f ss inp oth ch cover hs i).found.length=aT f n (ss.take i)∧∀ v∈(exI p n f ss inp oth ch cover hs i).found,0≤v∧v<p
 | 0,_=>⟨rfl,fun v h=>nomatch h⟩
 | i+1,h=>by
  have q:=mF (inp:=inp) (oth:=oth) i (by omega)
  have e:ss[i]?=some (ss.getD i (.fix 0)):=by rw [nn,rz (by omega)];rfl
  have ok:=uA (hs:=hs) (inp:=inp) (oth:=oth) hp hc hn hl hb (show i<ss.length by omega) (exI p n f ss inp oth ch cover hs i)
  show ((exI p n f ss inp oth ch cover hs i).found++(bG p n f ss inp oth ch cover hs i (exI p n f ss inp oth ch cover hs i)).flatten).length=_∧∀ v∈(exI p n f ss inp oth ch cover hs i).found++(bG p n f ss inp oth ch cover hs i (exI p n f ss inp oth ch cover hs i)).flatten,_
  have G:∀ {R:LL},(∀ r∈R,r.length=f∧∀ v∈r,0≤v∧v<p)→R.flatten.length=R.length*f:=fun {R} hR=>by
   induction R with
   | nil=>simp
   | cons r R q =>
    rw [vX,u7,q fun x I=>hR x (vd _ I),(hR r (vb ..)).1,vh,Nat.succ_mul]
    omega
  refine ⟨?_,fun v F=>?_⟩
  ·rw [u7,q.1,G ok,dN e]
   unfold bG
   rw [bu]
  ·rcases vr.mp F with z | z
   ·exact q.2 v z
   ·obtain ⟨r,hr,F⟩:=List.mem_flatten.mp z
    exact (ok r hr).2 v F
omit hp hc hn hl hb in
theorem ex_pre {inp oth:LL}{i:Nat}:∀ j,i≤j→∃ B,(exI p n f ss inp oth ch cover hs j).found=(exI p n f ss inp oth ch cover hs i).found++B
 | 0,h=>by
  have:i=0:=by omega
  subst this
  exact ⟨[],(vT _).symm⟩
 | j+1,h=>by
  by_cases e:i=j+1
  ·subst e
   exact ⟨[],(vT _).symm⟩
  ·obtain ⟨B,q⟩:=ex_pre (inp:=inp) (oth:=oth) (i:=i) j (by omega)
   refine ⟨B++(bG p n f ss inp oth ch cover hs j (exI p n f ss inp oth ch cover hs j)).flatten,?_⟩
   show (exI p n f ss inp oth ch cover hs j).found++_=_
   rw [q,wf]
theorem ex_cut {inp oth:LL}{i:Nat} (hi:i<ss.length):aN f (exI p n f ss inp oth ch cover hs ss.length).found (aT f n (ss.take i)) ((ss.getD i (.fix 0)).dealers n).length=bG p n f ss inp oth ch cover hs i (exI p n f ss inp oth ch cover hs i):=by
 obtain ⟨B,q⟩:=ex_pre (p:=p) (f:=f) (cover:=cover) (hs:=hs) (n:=n) (ss:=ss) (ch:=ch) (inp:=inp) (oth:=oth) (i:=i+1) ss.length hi
 have q:_=((exI p n f ss inp oth ch cover hs i).found++(bG p n f ss inp oth ch cover hs i (exI p n f ss inp oth ch cover hs i)).flatten)++B:=q
 have F:=(mF (hs:=hs) (inp:=inp) (oth:=oth) hp hc hn hl hb i (by omega)).1
 have ok:=uA (hs:=hs) (inp:=inp) (oth:=oth) hp hc hn hl hb hi (exI p n f ss inp oth ch cover hs i)
 have G:(bG p n f ss inp oth ch cover hs i (exI p n f ss inp oth ch cover hs i)).length=((ss.getD i (.fix 0)).dealers n).length:=by unfold bG;exact bu
 rw [q,wf,← F,← G]
 exact qv fun r hr=>(ok r hr).1
theorem uy {inp oth:LL}:∀ i,i≤ss.length→(exI p n f ss oth inp (exI p n f ss inp oth ch cover hs ss.length).found cover hs i).here=(exI p n f ss inp oth ch cover hs i).there∧(exI p n f ss oth inp (exI p n f ss inp oth ch cover hs ss.length).found cover hs i).there=(exI p n f ss inp oth ch cover hs i).here∧(exI p n f ss oth inp (exI p n f ss inp oth ch cover hs ss.length).found cover hs i).found=ch.take (aT f n (ss.take i))
 | 0,_=>⟨rfl,rfl,rfl⟩
 | i+1,h=>by
  obtain ⟨h1,h2,h3⟩:=uy (inp:=inp) (oth:=oth) i (by omega)
  have hi:i<ss.length:=by omega
  have e:ss[i]?=some (ss.getD i (.fix 0)):=by rw [nn,rz hi];rfl
  have q:=ex_cut (hs:=hs) (inp:=inp) (oth:=oth) hp hc hn hl hb hi
  have bk:bG p n f ss oth inp (exI p n f ss inp oth ch cover hs ss.length).found cover hs i (exI p n f ss oth inp (exI p n f ss inp oth ch cover hs ss.length).found cover hs i)=aN f ch (aT f n (ss.take i)) ((ss.getD i (.fix 0)).dealers n).length:=by
   unfold bG
   rw [q,h1,h2]
   unfold bG
   exact pz hp hc (b7 ..) (uG hn hl hb hi)
  refine ⟨?_,?_,?_⟩
  ·show kg p n ss oth (exI p n f ss oth inp (exI p n f ss inp oth ch cover hs ss.length).found cover hs i).here (aN f (exI p n f ss inp oth ch cover hs ss.length).found (aT f n (ss.take i)) ((ss.getD i (.fix 0)).dealers n).length)=kg p n ss oth (exI p n f ss inp oth ch cover hs i).there (bG p n f ss inp oth ch cover hs i (exI p n f ss inp oth ch cover hs i))
   rw [q,h1]
  ·show kg p n ss inp (exI p n f ss oth inp (exI p n f ss inp oth ch cover hs ss.length).found cover hs i).there (bG p n f ss oth inp (exI p n f ss inp oth ch cover hs ss.length).found cover hs i (exI p n f ss oth inp (exI p n f ss inp oth ch cover hs ss.length).found cover hs i))=kg p n ss inp (exI p n f ss inp oth ch cover hs i).here (aN f ch (aT f n (ss.take i)) ((ss.getD i (.fix 0)).dealers n).length)
   rw [bk,h2]
  ·show (exI p n f ss oth inp (exI p n f ss inp oth ch cover hs ss.length).found cover hs i).found++(bG p n f ss oth inp (exI p n f ss inp oth ch cover hs ss.length).found cover hs i (exI p n f ss oth inp (exI p n f ss inp oth ch cover hs ss.length).found cover hs i)).flatten=_
   rw [bk,h3,qp,dN e,List.take_add]
end
theorem fW {p:Int}{f:Nat}{hs:List Int} (h:hs.length≤f):(bv p f hs).length=f+1:=by
 unfold bv
 rw [u7,jG,vK]
 omega
theorem chan_iff {p f n:Int}{ss:List Stp}{ch:List Int}:dW p f n ss ch=true↔(ch.length:Int)=aY f n ss∧∀ v∈ch,0≤v∧v<p:=by
 unfold dW
 rw [vx,decide_eq_true_eq]
 exact and_congr Iff.rfl nums_iff
section
variable {p f n:Int}{ss:List Stp}{ch hs:List Int}{inp oth:LL} (hp:0<p) (hf:0≤f) (hh:(hs.length:Int)≤f) (hn:0≤n) (hC:dW p f n ss ch=true)
include hp hf hh hn hC
theorem mG:dW p f n ss (exD p n f.toNat ss inp oth ch hs)=true:=by
 obtain ⟨h1,h2⟩:=chan_iff.mp hC
 have q:((f.toNat:Nat):Int)=f:=by omega
 have:=mF (f:=f.toNat) (cover:=bv p f.toNat hs) (hs:=hs) (inp:=inp) (oth:=oth) hp (fW (by omega)) hn (by rw [q];exact h1) h2 ss.length (va _)
 refine chan_iff.mpr ⟨?_,this.2⟩
 show ((exI p n f.toNat ss inp oth ch (bv p f.toNat hs) hs ss.length).found.length:Int)=_
 rw [this.1,vI,gL _ hn,q]
end
theorem nA {p:Int}{ss:List Stp}{inp oth:LL}:∀ (r:List Stp) (k:Nat),k+r.length≤ss.length→((dq p ss inp oth r k).all id=true↔opnV r ((aD p ss inp).drop k)=opnV r ((aD p ss oth).drop k))
 | [],k,_=>by simp [dq,opnV]
 | s::r,k,h=>by
  have h:k+(r.length+1)≤ss.length:=h
  have F:=nA (p:=p) (ss:=ss) (inp:=inp) (oth:=oth) r (k+1) (by omega)
  have e:∀ inp,(aD p ss inp).drop k=(aD p ss inp).getD k 0::(aD p ss inp).drop (k+1):=fun inp=>by
   have q:k<(aD p ss inp).length:=by rw [jT];omega
   rw [List.drop_eq_getElem_cons q,nn,rz q]
   rfl
  rw [e inp,e oth]
  show (eA p ss inp oth k s::dq p ss inp oth r (k+1)).all id=true↔_
  rw [wM,vx,F]
  unfold eA opnV
  rw [wQ,wQ]
  cases s with
  | opn j =>
   rw [List.filterMap_cons_some (f:=opnF) (b:=(aD p ss inp).getD k 0) (show opnF (Stp.opn j,(aD p ss inp).getD k 0)=some _ from rfl),List.filterMap_cons_some (f:=opnF) (b:=(aD p ss oth).getD k 0) (show opnF (Stp.opn j,(aD p ss oth).getD k 0)=some _ from rfl),List.cons.injEq]
   refine and_congr ?_ Iff.rfl
   show (!decide (("open":Str)="open") || decide _)=true↔_
   rw [decide_eq_true rfl,Bool.not_true,Bool.false_or,decide_eq_true_eq]
  | _ =>
   rw [List.filterMap_cons_none rfl,List.filterMap_cons_none rfl]
   refine ⟨fun z=>z.2,fun z=>⟨?_,z⟩⟩
   refine Bool.or_eq_true_iff.mpr (.inl ?_)
   rw [Bool.not_eq_true',decide_eq_false_iff_not]
   intro z
   simp only [Stp.word] at z
   exact absurd z (by decide +kernel)
theorem qE {p:Int}{ss:List Stp}{inp oth:LL}{hs:List Int}:cT p ss inp oth hs=kq p ss inp oth hs:=by
 have h1:jY ss inp hs=jY ss oth hs↔hs.all (gd ss inp oth)=true:=by
  unfold jY
  rw [List.map_inj_left,vv]
  exact ⟨fun h x q=>decide_eq_true (h x q),fun h x q=>of_decide_eq_true (h x q)⟩
 have h2:=nA (p:=p) (ss:=ss) (inp:=inp) (oth:=oth) ss 0 (by omega)
 rw [wW,wW] at h2
 rw [wI]
 unfold cT kq
 rw [vx,vx,decide_eq_true_eq,decide_eq_true_eq,h1,h2]
end Veil
namespace Veil
open PySem L2
inductive oK (K:PySem.W.Frag) (C:Addr) (vs:List V) (H:Hp) (Q:VK) (E_:XK):Prop
 | mk (a t:Addr) (ns:List Int) (m:Nat) (p n f:Int) (h0_:vs=[.ref a,.ref t,.int (m:Int)]) (h1_:SqL K H a (ns.map V.int)) (h2_:TabAt C H t p n f) (h3_:p∈primes9) (h4_:(f=1∨f=2)) (h5_:(3≤n∧n≤10)) (h6_:2*f<n) (h7_:(1≤m∧m≤30)) (h8_:∀ (d sa ia oa ea:Addr) (H':Hp) (ws:List V) (ss:List Stp) (is os:List Addr) (inp oth:List (List Int)) (sm wo:List Int),Same H H'→H d=none→H' d=some (.tup [.ref sa,.ref ia,.ref oa,.ref ea])→H' sa=some (.lst ws)→StpsAt H' ws ss→1≤ss.length→ss.length≤m+4→eF p n ss→H' ia=some (.lst (is.map V.ref))→InsAt H' is inp→InsOk p n ss inp→H' oa=some (.lst (os.map V.ref))→InsAt H' os oth→InsOk p n ss oth→H' ea=some (.lst (sm.map V.int))→uV n f wo sm→(∀ r∈inp,r.length≤200)→(∀ r∈oth,r.length≤200)→Q (.ref d) H'):oK K C vs H Q E_
end Veil
namespace Veil
open PySem L2
theorem gR (p:Int):∀ (ss:List Stp) (rest:LL) (fd:List Int),∃ B,fE p ss rest fd=fd++B
 | [],_,fd=>⟨[],(vT _).symm⟩
 | s::r,rest,fd=>by
  obtain ⟨B,hB⟩:=gR p r (eY rest s) (fd++[jh p rest fd s])
  exact ⟨jh p rest fd s::B,by rw [fE,hB,wf];rfl⟩
theorem p6 {p n:Int}{ss:List Stp}{inp:LL} (hp:0<p) (hR:eF p n ss) (IO:InsOk p n ss inp):∀ i,i≤ss.length→∃ rest fd,PlSt p n ss inp i rest fd∧Rests n ss inp rest i
 | 0,_=>⟨inp,[],PlSt.start IO,Rests.start⟩
 | i+1,h=>by
  obtain ⟨rest,fd,S,F⟩:=p6 hp hR IO i (by omega)
  have q:ss[i]?=some ss[i]:=rz (show i<ss.length by omega)
  exact ⟨_,_,S.next hp q (hR i _ q),F.next (p:=p) S.ok.len q (hR i _ q)⟩
theorem p7 {p n:Int}{ss:List Stp}{inp:LL} (hp:0<p) (hR:eF p n ss) (IO:InsOk p n ss inp) {i:Nat}{z:Stp} (hz:ss[i]?=some z):∃ rest,Rests n ss inp rest i∧(aD p ss inp).getD i 0=jh p rest ((aD p ss inp).take i) z:=by
 have hi:i<ss.length:=(u3.mp hz).1
 obtain ⟨rest,fd,S,q⟩:=p6 hp hR IO i (by omega)
 refine ⟨rest,q,?_⟩
 have go:=S.go
 have fl:=S.fl
 rw [List.drop_eq_getElem_cons hi,(u3.mp hz).2,fE] at go
 obtain ⟨B,F⟩:=gR p (ss.drop (i+1)) (eY rest z) (fd++[jh p rest fd z])
 rw [F] at go
 rw [← go,wf,List.take_left' fl,nn,vR (by omega),fl,Nat.sub_self]
 rfl
section
variable {p:Int}{f:Nat}{cover hs:List Int} (hp:0<p) (hc:cover.length=f+1) {n:Int}{ss:List Stp}{ch:List Int} (hn:0≤n) (hl:(ch.length:Int)=aY (f:Int) n ss) (hb:∀ v∈ch,0≤v∧v<p)
include hp hc hn hl hb
end
end Veil
namespace Veil
open PySem L2
def Cg (p x y:Int):Prop:=∃ q,y=x+p*q
section
variable {p a b c d:Int}
theorem Cg.refl (a:Int):Cg p a a:=⟨0,by omega⟩
theorem Cg.of_eq (h:a=b):Cg p a b:=⟨0,by omega⟩
theorem Cg.symm:Cg p a b→Cg p b a:=fun ⟨q,h⟩=>⟨-q,by rw [h,Int.mul_neg];omega⟩
theorem Cg.trans:Cg p a b→Cg p b c→Cg p a c:=fun ⟨q,h⟩ ⟨r,k⟩=>⟨q+r,by rw [k,h,wS];omega⟩
theorem Cg.add:Cg p a b→Cg p c d→Cg p (a+c) (b+d):=fun ⟨q,h⟩ ⟨r,k⟩=>⟨q+r,by rw [k,h,wS];omega⟩
theorem Cg.sub:Cg p a b→Cg p c d→Cg p (a - c) (b - d):=fun ⟨q,h⟩ ⟨r,k⟩=>⟨q - r,by rw [k,h,Int.mul_sub];omega⟩
theorem Cg.mul:Cg p a b→Cg p c d→Cg p (a*c) (b*d):=by
 rintro ⟨q,rfl⟩ ⟨r,rfl⟩
 exact ⟨a*r+q*c+p*q*r,by grind⟩
theorem Cg.mod (a:Int):Cg p (a%p) a:=⟨a / p,(Int.emod_add_mul_ediv a p).symm⟩
theorem Cg.emod:Cg p a b→a%p=b%p:=fun ⟨q,h⟩=>by rw [h,Int.add_mul_emod_self_left]
theorem Cg.of (h:a%p=b%p):Cg p a b:=(Cg.mod a).symm.trans ((Cg.of_eq h).trans (Cg.mod b))
theorem Cg.eq (h:Cg p a b) (ha:0≤a∧a<p) (hb:0≤b∧b<p):a=b:=by
 have:=h.emod
 rw [vO ha.1 ha.2,vO hb.1 hb.2] at this
 exact this
end
def se (p:Int) (n:Nat) (v:Nat→Int) (A B:List Int) (d:Int):Prop:=∀ k,k<n→Cg p (B.getD k 0) (A.getD k 0+d*v k)
theorem nk {p d:Int}:∀ {row C:List Int} (z:Int),row.length=C.length→Cg p (aL (List.zipWith (fun v c=>(v+c*d)%p) row C) z) (aL row z+d*aL C z)
 | [],[],z,_=>by
  show Cg p 0 (0+d*0)
  exact Cg.of_eq (by omega)
 | [],_::_,_,h=>by simp at h
 | _::_,[],_,h=>by simp at h
 | v::row,c::C,z,h=>by
  have q:=nk (p:=p) (d:=d) (row:=row) (C:=C) z (by simpa using h)
  show Cg p ((v+c*d)%p+z*aL _ z) (v+z*aL row z+d*(c+z*aL C z))
  exact ((Cg.mod _).add ((Cg.refl z).mul q)).trans (Cg.of_eq (by grind))
theorem qt {p:Int}{n k:Nat}{x:Int}{cs:List Int} (hk:k<n):(cD p n x cs).getD k 0=aL (x::cs) (1+(k:Int))%p:=by
 unfold cD
 rw [nn,u5,vN hk]
 exact bJ _ _
theorem uF {p:Int}{n f:Nat}{cover hs row:List Int}{h b a:Int} (hc:cover.length=f+1) (h1:cover.headD 0=1) (hr:row.length=f) (e:h∈hs→a=b):se p n (fun k=>aL cover (1+(k:Int))) (cD p n b row) (cD p n a (fO p cover hs h row b a)) (a - b):=fun k q=>by
 rw [qt q,qt q]
 unfold fO
 split
 ·rename_i F
  rw [e F]
  exact Cg.of_eq (by rw [Int.sub_self,Int.zero_mul,wA])
 ·obtain ⟨C,rfl⟩:∃ C,cover=1::C:=by
   cases cover with
   | nil=>simp at hc
   | cons x C=>exact ⟨C,by rw [show x=1 from h1]⟩
  have pv:=nk (p:=p) (d:=a - b) (row:=row) (C:=C) (1+(k:Int)) (by rw [hr];simpa using hc.symm)
  unfold cU
  show Cg p ((a+(1+(k:Int))*aL (List.zipWith (fun v c=>(v+c*(a - b))%p) row C) (1+(k:Int)))%p) ((b+(1+(k:Int))*aL row (1+(k:Int)))%p+(a - b)*(1+(1+(k:Int))*aL C (1+(k:Int))))
  refine ((Cg.mod _).trans ((Cg.refl a).add ((Cg.refl _).mul pv))).trans ?_
  refine Cg.trans (Cg.of_eq ?_) ((Cg.mod (b+(1+(k:Int))*aL row (1+(k:Int)))).symm.add (Cg.refl _))
  grind
theorem pJ {p v:Int}:∀ {W r r' N N':List Int},r'.length=r.length→N.length=r.length→N'.length=r.length→(∀ d,d<r.length→Cg p (r'.getD d 0) (r.getD d 0+(N'.getD d 0 - N.getD d 0)*v))→Cg p (List.zipWith (·*·) W r').sum ((List.zipWith (·*·) W r).sum+((List.zipWith (·*·) W N').sum - (List.zipWith (·*·) W N).sum)*v)
 | [],_,_,_,_,_,_,_,_=>by
  simp only [List.zipWith_nil_left,List.sum_nil]
  exact Cg.of_eq (by omega)
 | w::W,[],r',N,N',h1,h2,h3,_=>by
  rw [wy.mp h1,wy.mp h2,wy.mp h3]
  simp only [List.zipWith_nil_right,List.sum_nil]
  exact Cg.of_eq (by omega)
 | w::W,x::r,r',N,N',h1,h2,h3,h=>by
  match r',N,N',h1,h2,h3,h with
  | x'::r',y::N,y'::N',h1,h2,h3,h =>
   have q:=pJ (p:=p) (v:=v) (W:=W) (r:=r) (r':=r') (N:=N) (N':=N') (by simpa using h1) (by simpa using h2) (by simpa using h3) fun d G=>h (d+1) (by rw [vh];omega)
   have F:Cg p x' (x+(y' - y)*v):=h 0 (by rw [vh];omega)
   simp only [wB,List.sum_cons]
   exact (((Cg.refl w).mul F).add q).trans (Cg.of_eq (by grind))
theorem sD {p:Int} (hp:1<p) {f:Nat}{hs:List Int}:(bv p f hs).headD 0=1:=by
 have h:=qQ hp hs
 unfold bv
 cases e:fV p hs with
 | nil=>rw [e] at h;cases h
 | cons x r=>rw [e] at h;exact vz h
theorem re (l:List Int) (z:Int):∀ k,aL (l++List.replicate k 0) z=aL l z:=fun k=>by
 induction l with
 | nil =>
  induction k with
  | zero=>rfl
  | succ k ih=>rw [we];show 0+z*aL ([]++List.replicate k 0) z=0;rw [ih];show 0+z*0=0;omega
 | cons x l ih=>show x+z*aL (l++List.replicate k 0) z=x+z*aL l z;rw [ih]
theorem jF {p:Int} (hp:p∈primes9) {f:Nat}{hs:List Int} (hb:∀ h∈hs,1≤h∧h<p) {h:Int} (hm:h∈hs):Cg p 0 (aL (bv p f hs) h):=by
 refine Cg.of ?_
 unfold bv
 rw [re,qO hp hs hb h hm,Int.zero_emod]
theorem uU {p:Int}{ss:List Stp}{inp oth:LL}{hs:List Int} (A:cT p ss inp oth hs=true) {h:Int} (hm:h∈hs):(bU inp h).take (aS ss h)=(bU oth h).take (aS ss h):=by
 unfold cT at A
 rw [vx,decide_eq_true_eq] at A
 have:=A.1
 unfold jY at this
 exact List.map_inj_left.mp this h hm
theorem agree_in {p:Int}{ss:List Stp}{inp oth:LL}{hs:List Int} (A:cT p ss inp oth hs=true) {h:Int} (hm:h∈hs) {i:Nat} (hz:ss[i]?=some (.ein h)):nY ss inp i h=nY ss oth i h:=by
 have e:=uU A hm
 have lt:aS (ss.take i) h<aS ss h:=by
  have hi:=(u3.mp hz).1
  have h1:=pK (ss.take i) (ss.drop i) h
  rw [List.take_append_drop,List.drop_eq_getElem_cons hi,(u3.mp hz).2,cm,if_pos rfl] at h1
  omega
 unfold nY
 have g:=congrArg (fun l:List Int=>l[aS (ss.take i) h]?) e
 simp only [List.getElem?_take_of_lt lt] at g
 rw [nn,nn,g]
theorem nB {p:Int}{ss:List Stp}{inp oth:LL}:∀ {r:List Stp}{k i:Nat}{s:Stp},r[i]?=some s→(dq p ss inp oth r k)[i]?=some (eA p ss inp oth (k+i) s)
 | [],_,_,_,h=>by simp at h
 | x::r,k,0,s,h=>by
  have e:x=s:=by simpa using h
  subst e
  rfl
 | x::r,k,i+1,s,h=>by
  have:=nB (p:=p) (ss:=ss) (inp:=inp) (oth:=oth) (r:=r) (k:=k+1) (i:=i) (s:=s) (by simpa using h)
  rw [show k+(i+1)=k+1+i by omega,← this]
  rfl
theorem lg {p:Int}{ss:List Stp}{inp oth:LL}{hs:List Int} (A:cT p ss inp oth hs=true) {i:Nat}{a:Int} (hz:ss[i]?=some (.opn a)):(aD p ss inp).getD i 0=(aD p ss oth).getD i 0:=by
 rw [qE] at A
 unfold kq at A
 rw [vx] at A
 have:=vv.mp A.2 _ (u4 (nB (k:=0) hz))
 rw [Nat.zero_add] at this
 have this:(!decide (("open":Str)="open") || decide ((aD p ss inp).getD i 0=(aD p ss oth).getD i 0))=true:=this
 rw [decide_eq_true rfl,Bool.not_true,Bool.false_or,decide_eq_true_eq] at this
 exact this
structure Two (p n f:Int) (ss:List Stp) (inp oth:LL) (ch hs:List Int):Prop where
 A:Par p n f ss inp
 B:Par p n f ss oth
 C:dW p f n ss ch=true
 ris:∀ h∈hs,1≤h∧h≤n
 few:(hs.length:Int)≤f
 ag:cT p ss inp oth hs=true
theorem tE {p n:Int}{ss:List Stp}{inp shares crows:LL}{z:Stp}{k:Nat} (h1:k<(bo p n ss inp shares z).length) (h2:k<crows.length):(aX p n ss inp shares crows z).getD k []=cD p n.toNat ((bo p n ss inp shares z).getD k 0) (crows.getD k []):=by
 unfold aX
 rw [nn,wm,rz h1,rz h2,nn,rz h1,nn,rz h2]
 rfl
theorem rW {n:Int}{z:Stp}{k:Nat} (hk:k<(bE n).length):(bE n).getD k 0=1+(k:Int):=by
 rw [bO] at hk
 unfold bE eS
 rw [nn,u5,vN hk]
 rfl
theorem qe {p n:Int}{ss:List Stp}{inp shares:LL}{a b:Int}{k:Nat} (hk:k<n.toNat):(bo p n ss inp shares (.mul a b)).getD k 0=(shares.getD a.toNat []).getD k 0*(shares.getD b.toNat []).getD k 0%p:=by
 show ((bE n).map fun h=>recV p (bP shares h) (.mul a b)).getD k 0=_
 unfold bE eS
 rw [nn,wX,u5,vN hk]
 show (bP shares (1+(k:Int))).getD a.toNat 0*(bP shares (1+(k:Int))).getD b.toNat 0%p=_
 rw [bI,bI]
end Veil
namespace Veil
open PySem L2
theorem rg1 (a b c d e f v:Int):(a+(c - d)*v)+(b+(e - f)*v)=(a+b)+((c+e) - (d+f))*v:=by grind
theorem rg2 (a b c d e f v:Int):(a+(c - d)*v) - (b+(e - f)*v)=(a - b)+((c - e) - (d - f))*v:=by grind
theorem rg3 (a c d v x:Int):(a+(c - d)*v)*x=a*x+(c*x - d*x)*v:=by grind
theorem gW {p v M' M Yi Xi m' m y x:Int} (h1:Cg p M' m') (h2:Cg p M m) (h3:Cg p Yi y) (h4:Cg p Xi x) (h:Cg p m' (m+(y - x)*v)):Cg p M' (M+(Yi - Xi)*v):=h1.trans (h.trans ((h2.symm).add ((h3.symm.sub h4.symm).mul (Cg.refl v))))
def DifS (p:Int) (n:Nat) (v:Nat→Int) (S S':LL) (X Y:List Int) (i:Nat):Prop:=∀ j,j<i→se p n v (S.getD j []) (S'.getD j []) (Y.getD j 0 - X.getD j 0)
theorem sO {X:List Int}{i j:Nat} (h:j<i):(X.take i).getD j 0=X.getD j 0:=by rw [nn,nn,List.getElem?_take_of_lt h]
theorem tj {p n f:Int}{ss:List Stp}{inp:LL}{ch:List Int} (PA:Par p n f ss inp) (hc:(ch.length:Int)=aY f n ss) {i:Nat} (hi:i≤ss.length) {j:Nat} (hj:j<i):OnR p n.toNat f.toNat (fun k=>((ja p n f.toNat ss inp ch i).1.getD j []).getD k 0) ((aD p ss inp).getD j 0):=by
 obtain ⟨rest,fd,S,F,O⟩:=tq PA hc i hi
 obtain ⟨B,q⟩:=gR p (ss.drop i) rest fd
 rw [S.go] at q
 have fl:=S.fl
 have e:(aD p ss inp).getD j 0=fd.getD j 0:=by rw [q,nn,nn,vS (by omega)]
 rw [e]
 exact O.2 j (by rw [O.1];omega)
section
variable {p n f:Int}{ss:List Stp}{inp oth:LL}{ch hs:List Int} (T:Two p n f ss inp oth ch hs) {S S':LL}{i:Nat}{z:Stp} (hz:ss[i]?=some z) (L:S.length=i) (L':S'.length=i) (D:DifS p n.toNat (fun k=>aL (bv p f.toNat hs) (1+(k:Int))) S S' (aD p ss inp) (aD p ss oth) i)
include T hz L L' D
theorem tY {k:Nat} (hk:k<(z.dealers n).length) (hm:(z.dealers n).getD k 0∈hs):(bo p n ss oth S' z).getD k 0=(bo p n ss inp S z).getD k 0:=by
 have G:=T.A.R i z hz
 have np:=T.A.np
 cases z with
 | ein h =>
  have O:k=0:=by have:k<1:=hk;omega
  subst O
  show nY ss oth S'.length h=nY ss inp S.length h
  rw [L,L']
  exact (agree_in T.ag hm hz).symm
 | anew a=>rfl
 | mul a b =>
  have q:k<(bE n).length:=hk
  have F:k<n.toNat:=by rw [bO] at q;exact q
  have e:(bE n).getD k 0=1+(k:Int):=rW (z:=.fix 0) q
  have hm:(bE n).getD k 0∈hs:=hm
  rw [e] at hm
  have J:=jF T.A.hp (f:=f.toNat) (hs:=hs) (fun h hh=>⟨(T.ris h hh).1,by have:=(T.ris h hh).2;omega⟩) hm
  rw [qe F,qe F]
  have I:∀ c:Int,0≤c→c<(i:Int)→Cg p ((S'.getD c.toNat []).getD k 0) ((S.getD c.toNat []).getD k 0):=fun c W U=>(D c.toNat (by omega) k F).trans (((Cg.refl _).add ((Cg.refl _).mul J.symm)).trans (Cg.of_eq (by rw [wE,wA])))
  exact ((I a G.1.1 G.1.2).mul (I b G.2.1 G.2.2)).emod
 | fix x=>exact absurd hk (wF k)
 | bye a x=>exact absurd hk (wF k)
 | sum a b=>exact absurd hk (wF k)
 | less a b=>exact absurd hk (wF k)
 | opn a=>exact absurd hk (wF k)
theorem pV {crows:LL} (cl:crows.length=(z.dealers n).length) (cf:∀ r∈crows,r.length=f.toNat∧∀ v∈r,0≤v∧v<p) {k:Nat} (hk:k<(z.dealers n).length):se p n.toNat (fun k=>aL (bv p f.toNat hs) (1+(k:Int))) ((aX p n ss inp S crows z).getD k []) ((aX p n ss oth S' (bj p (bv p f.toNat hs) hs (z.dealers n) crows (bo p n ss inp S z) (bo p n ss oth S' z)) z).getD k []) ((bo p n ss oth S' z).getD k 0 - (bo p n ss inp S z).getD k 0):=by
 have hn:=T.A.hn
 have I:=jc T.A.hp
 have G:=T.few
 have hf:=T.A.hf
 have F:crows.getD k []∈crows:=by
  rw [nn,rz (by omega)]
  exact v0 _
 rw [tE (by rw [cQ (by omega)];exact hk) (by omega),tE (by rw [cQ (by omega)];exact hk) (by rw [bu];exact hk),gn hk]
 exact uF (f:=f.toNat) (fW (by omega)) (sD (by omega)) (cf _ F).1 fun q=>tY T hz L L' D hk q
theorem made_dif {crows:LL} (cl:crows.length=(z.dealers n).length) (cf:∀ r∈crows,r.length=f.toNat∧∀ v∈r,0≤v∧v<p)
  (O:∀ j,j<i→OnR p n.toNat f.toNat (fun k=>(S.getD j []).getD k 0) ((aD p ss inp).getD j 0)) (O':∀ j,j<i→OnR p n.toNat f.toNat (fun k=>(S'.getD j []).getD k 0) ((aD p ss oth).getD j 0)) :
  se p n.toNat (fun k=>aL (bv p f.toNat hs) (1+(k:Int))) (bZ p n S (aX p n ss inp S crows z) z) (bZ p n S' (aX p n ss oth S' (bj p (bv p f.toNat hs) hs (z.dealers n) crows (bo p n ss inp S z) (bo p n ss oth S' z)) z) z) ((aD p ss oth).getD i 0 - (aD p ss inp).getD i 0):=fun k Z=>by
 have hn:=T.A.hn
 have np:=T.A.np
 have pp:=jc T.A.hp
 have fw:=T.few
 have hf:=T.A.hf
 have fn:=T.A.fn
 have p0:0<p:=by omega
 have n0:0≤n:=by omega
 have a3:3≤n.toNat:=by omega
 have a7:n.toNat≤7:=by omega
 have ai:(n.toNat:Int)<p:=by omega
 have af:2*f.toNat<n.toNat:=by omega
 have a1:hs.length≤f.toNat:=by omega
 clear hn np pp fw hf fn
 have q:=T.A.R i z hz
 obtain ⟨rest,Rr,e⟩:=p7 p0 T.A.R T.A.io hz
 obtain ⟨Y,a4,e'⟩:=p7 p0 T.B.R T.B.io hz
 have RD:=fun d J=>pV T hz L L' D cl cf (k:=d) J k Z
 dsimp only at RD
 have as:(bv p f.toNat hs).length=f.toNat+1:=fW a1
 rw [o8 n0 Z,o8 n0 Z,e,e']
 have tk:∀ (c:Int) (X:List Int),0≤c→c<(i:Int)→(X.take i).getD c.toNat 0=X.getD c.toNat 0:=fun c X h0 h1=>sO (by omega)
 have I:∀ c:Int,0≤c→c<(i:Int)→Cg p ((S'.getD c.toNat []).getD k 0) ((S.getD c.toNat []).getD k 0+((aD p ss oth).getD c.toNat 0 - (aD p ss inp).getD c.toNat 0)*aL (bv p f.toNat hs) (1+(k:Int))):=fun c h0 h1=>D c.toNat (by omega) k Z
 have nl:=cQ (p:=p) (n:=n) n0 ss inp S z
 have U:=cQ (p:=p) (n:=n) n0 ss oth S' z
 have G:(aX p n ss inp S crows z).length=(z.dealers n).length:=by unfold aX;rw [vY,nl,cl];omega
 have F:(aX p n ss oth S' (bj p (bv p f.toNat hs) hs (z.dealers n) crows (bo p n ss inp S z) (bo p n ss oth S' z)) z).length=(z.dealers n).length:=by unfold aX;rw [vY,U,bu];omega
 dsimp only
 generalize hV:aL (bv p f.toNat hs) (1+(k:Int))=v at I RD ⊢
 have W:∀ (R:LL),R.length=0→(bP R (1+(k:Int))).sum=0:=fun R h=>by rw [wy.mp h];rfl
 have one:∀ {x:Int} (R:LL),R.length=0→Cg p ((x+(bP R (1+(k:Int))).sum)%p) x:=fun R h=>(Cg.mod _).trans (Cg.of_eq (by rw [W R h,wA]))
 cases z with
 | ein h =>
  have r0:=RD 0 (by show 0<1;decide)
  have e1:jh p rest ((aD p ss inp).take i) (.ein h)=(bo p n ss inp S (.ein h)).getD 0 0:=by
   rw [lC Rr q.1 q.2]
   show _=nY ss inp S.length h
   rw [L]
  have e2:jh p Y ((aD p ss oth).take i) (.ein h)=(bo p n ss oth S' (.ein h)).getD 0 0:=by
   rw [lC a4 q.1 q.2]
   show _=nY ss oth S'.length h
   rw [L']
  rw [e1,e2]
  have J:∀ R:LL,(bP R (1+(k:Int))).headD 0=(R.getD 0 []).getD k 0:=fun R=>by rw [fH];cases R<;>rfl
  simp only [kJ]
  rw [J,J]
  exact r0
 | fix x=>exact gW (one _ F) (one _ G) (Cg.refl _) (Cg.refl _) (Cg.of_eq (by show x=x+(x - x)*v;rw [Int.sub_self,Int.zero_mul,wA]))
 | sum a b =>
  show Cg p _ (_+((((aD p ss oth).take i).getD a.toNat 0+((aD p ss oth).take i).getD b.toNat 0)%p - (((aD p ss inp).take i).getD a.toNat 0+((aD p ss inp).take i).getD b.toNat 0)%p)*v)
  rw [tk a _ q.1.1 q.1.2,tk b _ q.2.1 q.2.2,tk a _ q.1.1 q.1.2,tk b _ q.2.1 q.2.2]
  have r:=fun (Q:LL)=>(Cg.mod (p:=p) ((bP Q (1+(k:Int))).getD a.toNat 0+(bP Q (1+(k:Int))).getD b.toNat 0))
  simp only [bI] at r
  refine gW ((one _ F).trans ?_) ((one _ G).trans ?_) (Cg.mod _) (Cg.mod _) (((I a q.1.1 q.1.2).add (I b q.2.1 q.2.2)).trans (Cg.of_eq (rg1 ..)))
  ·show Cg p (((bP S' (1+(k:Int))).getD a.toNat 0+(bP S' (1+(k:Int))).getD b.toNat 0)%p) _
   rw [bI,bI]
   exact r S'
  ·show Cg p (((bP S (1+(k:Int))).getD a.toNat 0+(bP S (1+(k:Int))).getD b.toNat 0)%p) _
   rw [bI,bI]
   exact r S
 | less a b =>
  show Cg p _ (_+((((aD p ss oth).take i).getD a.toNat 0 - ((aD p ss oth).take i).getD b.toNat 0)%p - (((aD p ss inp).take i).getD a.toNat 0 - ((aD p ss inp).take i).getD b.toNat 0)%p)*v)
  rw [tk a _ q.1.1 q.1.2,tk b _ q.2.1 q.2.2,tk a _ q.1.1 q.1.2,tk b _ q.2.1 q.2.2]
  have r:=fun (Q:LL)=>(Cg.mod (p:=p) ((bP Q (1+(k:Int))).getD a.toNat 0 - (bP Q (1+(k:Int))).getD b.toNat 0))
  simp only [bI] at r
  refine gW ((one _ F).trans ?_) ((one _ G).trans ?_) (Cg.mod _) (Cg.mod _) (((I a q.1.1 q.1.2).sub (I b q.2.1 q.2.2)).trans (Cg.of_eq (rg2 ..)))
  ·show Cg p (((bP S' (1+(k:Int))).getD a.toNat 0 - (bP S' (1+(k:Int))).getD b.toNat 0)%p) _
   rw [bI,bI]
   exact r S'
  ·show Cg p (((bP S (1+(k:Int))).getD a.toNat 0 - (bP S (1+(k:Int))).getD b.toNat 0)%p) _
   rw [bI,bI]
   exact r S
 | bye a x =>
  show Cg p _ (_+(((aD p ss oth).take i).getD a.toNat 0*x%p - ((aD p ss inp).take i).getD a.toNat 0*x%p)*v)
  rw [tk a _ q.1.1 q.1.2,tk a _ q.1.1 q.1.2]
  refine gW ((one _ F).trans ?_) ((one _ G).trans ?_) (Cg.mod _) (Cg.mod _) (((I a q.1.1 q.1.2).mul (Cg.refl x)).trans (Cg.of_eq (rg3 ..)))
  ·show Cg p ((bP S' (1+(k:Int))).getD a.toNat 0*x%p) _
   rw [bI]
   exact Cg.mod _
  ·show Cg p ((bP S (1+(k:Int))).getD a.toNat 0*x%p) _
   rw [bI]
   exact Cg.mod _
 | opn a =>
  show Cg p _ (_+(((aD p ss oth).take i).getD a.toNat 0 - ((aD p ss inp).take i).getD a.toNat 0)*v)
  rw [tk a _ q.1 q.2,tk a _ q.1 q.2]
  refine gW ((one _ F).trans (Cg.of_eq ?_)) ((one _ G).trans (Cg.of_eq ?_)) (Cg.refl _) (Cg.refl _) (I a q.1 q.2)
  ·show (bP S' (1+(k:Int))).getD a.toNat 0=_
   rw [bI]
  ·show (bP S (1+(k:Int))).getD a.toNat 0=_
   rw [bI]
 | anew a =>
  have er:bj p (bv p f.toNat hs) hs ((Stp.anew a).dealers n) crows (bo p n ss inp S (.anew a)) (bo p n ss oth S' (.anew a))=crows:=pq p0 as cl cf
  have eR:aX p n ss oth S' crows (.anew a)=aX p n ss inp S crows (.anew a):=rfl
  rw [er,eR]
  show Cg p (((bP S' (1+(k:Int))).getD a.toNat 0+(bP (aX p n ss inp S crows (.anew a)) (1+(k:Int))).sum)%p) (((bP S (1+(k:Int))).getD a.toNat 0+(bP (aX p n ss inp S crows (.anew a)) (1+(k:Int))).sum)%p+(((aD p ss oth).take i).getD a.toNat 0 - ((aD p ss inp).take i).getD a.toNat 0)*v)
  rw [tk a _ q.1 q.2,tk a _ q.1 q.2,bI,bI]
  exact gW (Cg.mod _) (Cg.mod _) (Cg.refl _) (Cg.refl _) (((I a q.1 q.2).add (Cg.refl _)).trans (Cg.of_eq (by omega)))
 | mul a b =>
  have dl:((Stp.mul a b).dealers n).length=n.toNat:=bO n
  have ra:0≤a∧a<(i:Int):=q.1
  have rb:0≤b∧b<(i:Int):=q.2
  have la:a.toNat<i:=by omega
  have lb:b.toNat<i:=by omega
  show Cg p ((List.zipWith (·*·) (bp p n.toNat) (bP _ (1+(k:Int)))).sum%p) ((List.zipWith (·*·) (bp p n.toNat) (bP _ (1+(k:Int)))).sum%p+(((aD p ss oth).take i).getD a.toNat 0*((aD p ss oth).take i).getD b.toNat 0%p - ((aD p ss inp).take i).getD a.toNat 0*((aD p ss inp).take i).getD b.toNat 0%p)*v)
  rw [tk a _ q.1.1 q.1.2,tk b _ q.2.1 q.2.2,tk a _ q.1.1 q.1.2,tk b _ q.2.1 q.2.2]
  have pr:=OnR.prod T.A.hp a3 a7 ai (f:=f.toNat) af (O a.toNat la) (O b.toNat lb) (xs:=bo p n ss inp S (.mul a b)) (by rw [nl,dl]) fun j hj=>by rw [qe hj,md]
  have a2:=OnR.prod T.A.hp a3 a7 ai (f:=f.toNat) af (O' a.toNat la) (O' b.toNat lb) (xs:=bo p n ss oth S' (.mul a b)) (by rw [U,dl]) fun j hj=>by rw [qe hj,md]
  refine gW (Cg.mod _) (Cg.mod _) ((Cg.mod _).trans (Cg.of a2.symm)) ((Cg.mod _).trans (Cg.of pr.symm)) (pJ ?_ ?_ ?_ fun d J=>?_)
  ·rw [fH,fH,lH,lH,G,F]
  ·rw [fH,lH,G,nl]
  ·rw [fH,lH,G,U]
  ·rw [fH,lH,G] at J
   rw [bI,bI]
   exact RD d J
end
end Veil
namespace Veil
open PySem L2
theorem qm {α β:Type}{g g':α→Option β}:∀ {l:List α},(∀ x∈l,g x=g' x)→l.filterMap g=l.filterMap g'
 | [],_=>rfl
 | x::l,h=>by rw [wC,wC,h x (vb ..),qm fun y hy=>h y (vd _ hy)]
theorem sV {hs:List Int}{pl s:Int}{row row':List Int} (hl:row'.length=row.length) (e:∀ k,k<row.length→1+(k:Int)∈hs→row'.getD k 0=row.getD k 0):dm hs (jj pl s row')=dm hs (jj pl s row):=by
 unfold dm jj
 rw [hl,List.filter_filterMap,List.filter_filterMap]
 refine qm fun k q=>?_
 have q:=vH.mp q
 split
 ·rfl
 ·by_cases F:1+(k:Int)∈hs
  ·rw [e k q F]
  ·show Option.filter _ (some _)=Option.filter _ (some _)
   rw [Option.filter_some_neg (by simpa using F),Option.filter_some_neg (by simpa using F)]
theorem nQ {hs:List Int}{pl:Int}:∀ {ds:List Int}{R R':LL},R'.length=R.length→(∀ d,d<R.length→(R'.getD d []).length=(R.getD d []).length∧∀ k,k<(R.getD d []).length→1+(k:Int)∈hs→(R'.getD d []).getD k 0=(R.getD d []).getD k 0)→dm hs (aV pl ds R')=dm hs (aV pl ds R)
 | [],_,_,_,_=>rfl
 | s::ds,[],R',h,_=>by rw [wy.mp h]
 | s::ds,r::R,[],h,_=>by simp at h
 | s::ds,r::R,r'::R',h,e=>by
  have F:=nQ (hs:=hs) (pl:=pl) (ds:=ds) (R:=R) (R':=R') (by simpa using h) fun d I=>e (d+1) (by rw [vh];omega)
  have G:=e 0 (by rw [vh];omega)
  have one:∀ (q:List Int) (Q:LL),aV pl (s::ds) (q::Q)=jj pl s q++aV pl ds Q:=fun q Q=>rfl
  rw [one,one]
  unfold dm at F ⊢
  rw [wG,wG,F]
  congr 1
  exact sV G.1 G.2
theorem qk {p n:Int}{R:LL} (h:ShsOk p n R) {d:Nat} (hd:d<R.length):(R.getD d []).length=n.toNat∧∀ v∈R.getD d [],0≤v∧v<p:=by
 have m:R.getD d []∈R:=by
  rw [nn,rz hd]
  exact v0 _
 exact ⟨h.l _ m,h.b _ m⟩
theorem mD {p:Int}{l:List Int} (h:∀ v∈l,0≤v∧v<p) {k:Nat} (hk:k<l.length):0≤l.getD k 0∧l.getD k 0<p:=h _ (by
 rw [nn,rz hk]
 exact v0 _)
theorem sG {p:Int}{cover hs ds n1 n2:List Int}{crows:LL} (hl:crows.length=ds.length):dw hs ds (bj p cover hs ds crows n1 n2)=dw hs ds crows:=by
 unfold dw
 congr 1
 refine List.ext_getElem (by simp [bu,hl]) fun k h1 h2=>?_
 rw [lH,List.length_zip,bu] at h1
 have q:k<ds.length:=by omega
 have F:(bj p cover hs ds crows n1 n2)[k]'(by rw [bu];exact q)=fO p cover hs (ds.getD k 0) (crows.getD k []) (n1.getD k 0) (n2.getD k 0):=by
  rw [← gn q,nn,rz (by rw [bu];exact q)]
  rfl
 rw [List.getElem_map,List.getElem_map,List.getElem_zip,List.getElem_zip,F]
 have G:ds.getD k 0=ds[k]:=by rw [nn,rz q];rfl
 have I:crows.getD k []=crows[k]'(by omega):=by rw [nn,rz (by omega)];rfl
 show (if ds[k]∈hs then _ else _)=(if ds[k]∈hs then _ else _)
 unfold fO
 rw [G,I]
 split<;>rfl
section
variable {p n f:Int}{ss:List Stp}{inp oth:LL}{ch hs:List Int} (T:Two p n f ss inp oth ch hs)
include T
theorem mR {i:Nat} (hi:i≤ss.length):(exI p n f.toNat ss inp oth ch (bv p f.toNat hs) hs i).there=ja p n f.toNat ss oth (exD p n f.toNat ss inp oth ch hs) i:=by
 have G:=jc T.A.hp
 have hn:=T.A.hn
 have hf:=T.A.hf
 have F:=T.few
 obtain ⟨h1,h2⟩:=chan_iff.mp T.C
 have q:((f.toNat:Nat):Int)=f:=by omega
 have:=(uy (p:=p) (n:=n) (ss:=ss) (ch:=ch) (f:=f.toNat) (cover:=bv p f.toNat hs) (hs:=hs) (inp:=inp) (oth:=oth) (by omega) (fW (by omega)) (by omega) (by rw [q];exact h1) h2 i hi).1
 rw [← this,jD i hi]
 rfl
theorem sI:∀ i,i≤ss.length→DifS p n.toNat (fun k=>aL (bv p f.toNat hs) (1+(k:Int))) (exI p n f.toNat ss inp oth ch (bv p f.toNat hs) hs i).here.1 (exI p n f.toNat ss inp oth ch (bv p f.toNat hs) hs i).there.1 (aD p ss inp) (aD p ss oth) i∧dm hs (exI p n f.toNat ss inp oth ch (bv p f.toNat hs) hs i).there.2=dm hs (exI p n f.toNat ss inp oth ch (bv p f.toNat hs) hs i).here.2
 | 0,_=>⟨fun j h=>absurd h (wF j),rfl⟩
 | i+1,h=>by
  obtain ⟨D,W⟩:=sI i (Nat.le_of_succ_le h)
  have pp:=jc T.A.hp
  have hn:=T.A.hn
  have np:=T.A.np
  have hf:=T.A.hf
  have fw:=T.few
  obtain ⟨h1,h2⟩:=chan_iff.mp T.C
  have fe:((f.toNat:Nat):Int)=f:=by omega
  have hi:i<ss.length:=by omega
  have G:i≤ss.length:=Nat.le_of_lt hi
  have I:0<p:=by omega
  have Z:0≤n:=by omega
  have f0:0≤f:=by omega
  have hz:ss[i]?=some (ss.getD i (.fix 0)):=by rw [nn,rz hi];rfl
  have q:=pA (p:=p) (n:=n) (f:=f.toNat) (ss:=ss) (inp:=inp) (oth:=oth) (ch:=ch) (cover:=bv p f.toNat hs) (hs:=hs) i
  have ai:=qq (p:=p) (n:=n) I (f:=f.toNat) (ss:=ss) (inp:=inp) (oth:=oth) (ch:=ch) (cover:=bv p f.toNat hs) (hs:=hs) i
  have cf:=uG (p:=p) (f:=f.toNat) (n:=n) (ss:=ss) (ch:=ch) Z (by rw [fe];exact h1) h2 hi
  have Y:=b7 f.toNat ch (aT f.toNat n (ss.take i)) ((ss.getD i (.fix 0)).dealers n).length
  have eh:=jD (p:=p) (n:=n) (f:=f.toNat) (ss:=ss) (inp:=inp) (oth:=oth) (ch:=ch) (cover:=bv p f.toNat hs) (hs:=hs) i G
  have et:=mR T (i:=i) G
  have O:∀ j,j<i→OnR p n.toNat f.toNat (fun k=>((exI p n f.toNat ss inp oth ch (bv p f.toNat hs) hs i).here.1.getD j []).getD k 0) ((aD p ss inp).getD j 0):=fun j hj=>by rw [eh];exact tj T.A h1 G hj
  have O':∀ j,j<i→OnR p n.toNat f.toNat (fun k=>((exI p n f.toNat ss inp oth ch (bv p f.toNat hs) hs i).there.1.getD j []).getD k 0) ((aD p ss oth).getD j 0):=fun j hj=>by rw [et];exact tj T.B (chan_iff.mp (mG (inp:=inp) (oth:=oth) I f0 fw Z T.C)).1 G hj
  have nx:(exI p n f.toNat ss inp oth ch (bv p f.toNat hs) hs (i+1)).here=kg p n ss inp (exI p n f.toNat ss inp oth ch (bv p f.toNat hs) hs i).here (aN f.toNat ch (aT f.toNat n (ss.take i)) ((ss.getD i (.fix 0)).dealers n).length):=rfl
  have a4:(exI p n f.toNat ss inp oth ch (bv p f.toNat hs) hs (i+1)).there=kg p n ss oth (exI p n f.toNat ss inp oth ch (bv p f.toNat hs) hs i).there (bj p (bv p f.toNat hs) hs ((ss.getD i (.fix 0)).dealers n) (aN f.toNat ch (aT f.toNat n (ss.take i)) ((ss.getD i (.fix 0)).dealers n).length) (bo p n ss inp (exI p n f.toNat ss inp oth ch (bv p f.toNat hs) hs i).here.1 (ss.getD i (.fix 0))) (bo p n ss oth (exI p n f.toNat ss inp oth ch (bv p f.toNat hs) hs i).there.1 (ss.getD i (.fix 0)))):=rfl
  rw [nx,a4]
  generalize (exI p n f.toNat ss inp oth ch (bv p f.toNat hs) hs i).here=st at D W q ai O
  generalize (exI p n f.toNat ss inp oth ch (bv p f.toNat hs) hs i).there=st' at D W q ai O'
  generalize aN f.toNat ch (aT f.toNat n (ss.take i)) ((ss.getD i (.fix 0)).dealers n).length=crows at cf Y
  have J:=made_dif T hz q.1 q.2 D Y cf O O'
  have RD:=fun d hd=>pV T hz q.1 q.2 D Y cf (k:=d) hd
  have nl:=cQ (p:=p) (n:=n) Z ss inp st.1 (ss.getD i (.fix 0))
  have al:=cQ (p:=p) (n:=n) Z ss oth st'.1 (ss.getD i (.fix 0))
  unfold kg
  rw [q.1,q.2]
  generalize co:ss.getD i (.fix 0)=z at hz Y J RD nl al
  have rl:(aX p n ss inp st.1 crows z).length=(z.dealers n).length:=by unfold aX;rw [vY,nl,Y];omega
  have an:(aX p n ss oth st'.1 (bj p (bv p f.toNat hs) hs (z.dealers n) crows (bo p n ss inp st.1 z) (bo p n ss oth st'.1 z)) z).length=(z.dealers n).length:=by unfold aX;rw [vY,al,bu];omega
  have U:=fB (p:=p) (n:=n) I ss inp st.1 crows z
  have F:=fB (p:=p) (n:=n) I ss oth st'.1 (bj p (bv p f.toNat hs) hs (z.dealers n) crows (bo p n ss inp st.1 z) (bo p n ss oth st'.1 z)) z
  generalize aX p n ss inp st.1 crows z=R at J RD rl U
  generalize aX p n ss oth st'.1 (bj p (bv p f.toNat hs) hs (z.dealers n) crows (bo p n ss inp st.1 z) (bo p n ss oth st'.1 z)) z=R' at J RD an F
  have ml:=iC (p:=p) (n:=n) st.1 R z
  have a3:=iC (p:=p) (n:=n) st'.1 R' z
  have mb:=qg (p:=p) (n:=n) I (shares:=st.1) U z
  have bl:=qg (p:=p) (n:=n) I (shares:=st'.1) F z
  refine ⟨fun j hj=>?_,?_⟩
  ·by_cases e:j<i
   ·have g:∀ (A:LL) (b:List Int),A.length=i→(A++[b]).getD j []=A.getD j []:=fun A b hA=>by rw [nn,vS (by omega),← nn]
    show se _ _ _ ((st.1++[_]).getD j []) ((st'.1++[_]).getD j []) _
    rw [g _ _ q.1,g _ _ q.2]
    exact D j e
   ·have ej:j=i:=by omega
    subst ej
    have g:∀ (A:LL) (b:List Int),A.length=j→(A++[b]).getD j []=b:=fun A b hA=>by rw [nn,vR (by omega),hA,Nat.sub_self];rfl
    show se _ _ _ ((st.1++[_]).getD j []) ((st'.1++[_]).getD j []) _
    rw [g _ _ q.1,g _ _ q.2]
    exact J
  ·show dm hs (st'.2++j7 p n (i:Int) (bZ p n st'.1 R' z) R' z)=dm hs (st.2++j7 p n (i:Int) (bZ p n st.1 R z) R z)
   have ap:∀ a b:List jg,dm hs (a++b)=dm hs a++dm hs b:=fun a b=>wG ..
   rw [ap,ap,W]
   congr 1
   have a7:dm hs (aV (i:Int) (z.dealers n) R')=dm hs (aV (i:Int) (z.dealers n) R):=by
    refine nQ (by rw [rl,an]) fun d hd=>?_
    have r1:=qk U hd
    have r2:=qk F (d:=d) (by omega)
    refine ⟨by rw [r1.1,r2.1],fun k hk hm=>?_⟩
    rw [r1.1] at hk
    have z0:=jF T.A.hp (f:=f.toNat) (hs:=hs) (fun h hh=>⟨(T.ris h hh).1,by have:=(T.ris h hh).2;omega⟩) hm
    have c:=(RD d (by omega) k hk).trans (((Cg.refl _).add ((Cg.refl _).mul z0.symm)).trans (Cg.of_eq (by rw [wE,wA])))
    exact c.eq (mD r2.2 (by omega)) (mD r1.2 (by omega))
   cases z with
   | opn a =>
    have eq:=lg T.ag hz
    have me:bZ p n st'.1 R' (.opn a)=bZ p n st.1 R (.opn a):=by
     refine List.ext_getElem (by rw [ml,a3]) fun k k1 k2=>?_
     have c:=J k (by omega)
     rw [eq,Int.sub_self,Int.zero_mul,wA] at c
     have c:=c.eq (mD bl k1) (mD mb k2)
     rw [nn,nn,rz k1,rz k2] at c
     exact c
    show dm hs (aV (i:Int) (bE n) ((bZ p n st'.1 R' (.opn a)).map fun v=>List.replicate n.toNat v))=dm hs (aV (i:Int) (bE n) ((bZ p n st.1 R (.opn a)).map fun v=>List.replicate n.toNat v))
    rw [me]
   | _=>exact a7
theorem two_sees:dm hs (mJ p n f.toNat ss oth (exD p n f.toNat ss inp oth ch hs)).2=dm hs (mJ p n f.toNat ss inp ch).2:=by
 have:=(sI T ss.length (va _)).2
 rw [mR T (va _),jD _ (va _)] at this
 exact this
theorem two_used:i4 f.toNat n (exD p n f.toNat ss inp oth ch hs) hs ss=i4 f.toNat n ch hs ss:=by
 have I:=jc T.A.hp
 have hn:=T.A.hn
 have hf:=T.A.hf
 have J:=T.few
 obtain ⟨h1,h2⟩:=chan_iff.mp T.C
 have F:((f.toNat:Nat):Int)=f:=by omega
 have q:∀ i,i≤ss.length→fQ n hs ss (bA f.toNat n (exD p n f.toNat ss inp oth ch hs) ss 0) i=fQ n hs ss (bA f.toNat n ch ss 0) i:=fun i=>by
  induction i with
  | zero=>intro _;rfl
  | succ i ih =>
   intro h
   have hi:i<ss.length:=by omega
   have hz:ss[i]?=some (ss.getD i (.fix 0)):=by rw [nn,rz hi];rfl
   rw [gp hz (i3 hz),gp hz (i3 hz),ih (by omega)]
   congr 1
   have G:=ex_cut (f:=f.toNat) (cover:=bv p f.toNat hs) (hs:=hs) (inp:=inp) (oth:=oth) (p:=p) (by omega) (fW (by omega)) (n:=n) (by omega) (by rw [F];exact h1) h2 hi
   show dw hs _ (aN f.toNat (exI p n f.toNat ss inp oth ch (bv p f.toNat hs) hs ss.length).found _ _)=_
   rw [G]
   exact sG (b7 ..)
 exact q ss.length (va _)
theorem two_own:jY ss oth hs=jY ss inp hs:=by
 have A:=T.ag
 unfold cT at A
 rw [vx,decide_eq_true_eq] at A
 exact A.1.symm
theorem two_open:rh p n ss (mJ p n f.toNat ss oth (exD p n f.toNat ss inp oth ch hs)).1=rh p n ss (mJ p n f.toNat ss inp ch).1:=by
 have q:=jc T.A.hp
 have hn:=T.A.hn
 have hf:=T.A.hf
 rw [jZ T.B (chan_iff.mp (mG (inp:=inp) (oth:=oth) (by omega) (by omega) T.few (by omega) T.C)).1,jZ T.A (chan_iff.mp T.C).1]
 unfold opnL
 congr 1
 refine List.map_congr_left fun i hi=>?_
 have hi:=vH.mp hi
 have hz:ss[i]?=some (ss.getD i (.fix 0)):=by rw [nn,rz hi];rfl
 generalize ss.getD i (.fix 0)=z at hz
 cases z with
 | opn a =>
  show [((i:Int),(aD p ss oth).getD i 0)]=[((i:Int),(aD p ss inp).getD i 0)]
  rw [lg T.ag hz]
 | _=>rfl
end
end Veil
namespace L2
open PySem PySem.Spec PyProof.Rows
variable {X:Cx}
theorem is_bool {M:Model}{A:Around}{E:Value→Shared→Prop}{s:Shared}{Q:Value→Shared→Prop}{a b:Bool} (h:Q (.bool (a == b)) s):wpAny M A (compareOp .Is (.bool a) (.bool b)) Q E s:=by
 have e:compareOp .Is (.bool a) (.bool b)=(do let r ← (pure (Value.bool a == Value.bool b):Sem Bool);pure (Value.bool r)):=by
  cases a<;>cases b<;>rfl
 have q:(Value.bool a == Value.bool b)=(a == b):=by cases a<;>cases b<;>rfl
 rw [e,q]
 exact wpAny_bind (wpAny_pure (wpAny_pure h))
theorem op_isB:OpR X (compareOp .Is) (fun x y H Q=>∃ a b:Bool,x=.bl a∧y=.bl b∧Q (.bl (a == b)) H):=by
 intro pins s σ H x y v u Q I rx ry h
 obtain ⟨a,b,rfl,rfl,q⟩:=h
 cases rx
 cases ry
 exact is_bool (bC I q rfl)
end L2
namespace Veil
open PySem L2
inductive sU (C:Addr) (vs:List V) (H:Hp) (Q:VK) (E_:XK):Prop
 | mk (t a b o c s:Addr) (p n f:Int) (ws:List V) (ss:List Stp) (is js:List Addr) (inp oth:LL) (ch hs:List Int) (h0_:vs=[.ref t,.ref a,.ref b,.ref o,.ref c,.ref s]) (h1_:TabAt C H t p n f) (h2_:p∈primes9) (h3_:3≤n∧n≤7) (h4_:n<p) (h5_:f=1∨f=2) (h6_:2*f<n) (h7_:H a=some (.lst ws)) (h8_:StpsAt H ws ss) (h9_:H b=some (.lst (is.map V.ref))) (h10_:InsAt H is inp) (h11_:∀ r∈inp,r.length≤200) (h12_:H o=some (.lst (js.map V.ref))) (h13_:InsAt H js oth) (h14_:∀ r∈oth,r.length≤200) (h15_:H c=some (.lst (ch.map V.int))) (h16_:ch.length≤1000) (h17_:H s=some (.lst (hs.map V.int))) (h18_:hs.length≤100)
  (k0_:aR p n ss=true) (k1_:eB p n ss inp=true) (k2_:dW p f n ss ch=true) (k3_:eB p n ss oth=true) (k4_:l6 n hs=true) (k5_:(hs.length:Int)≤f) (q1_:cT p ss inp oth hs=true→ox H Q ((exD p n f.toNat ss inp oth ch hs).map V.int)) (q2_:cT p ss inp oth hs=false→cB H Q (.bl true)):sU C vs H Q E_
theorem uv (inp oth:LL) (ch hs:List Int):PySem.W.kqdOk 8 (.list [dU inp,dU oth,.list (ch.map PySem.W.Dat.int),.list (hs.map PySem.W.Dat.int)])=true:=by
 show ([dU inp,dU oth,.list (ch.map PySem.W.Dat.int),.list (hs.map PySem.W.Dat.int)].all (PySem.W.kqdOk 7))=true
 simp only [wM,List.all_nil,Bool.and_true,vx]
 refine ⟨pf inp,pf oth,?_,?_⟩
 ·show (ch.map PySem.W.Dat.int).all (PySem.W.kqdOk 6)=true
  rw [wz]
  exact vv.mpr fun s _=>rfl
 ·show (hs.map PySem.W.Dat.int).all (PySem.W.kqdOk 6)=true
  rw [wz]
  exact vv.mpr fun s _=>rfl
def pG (own:LL) (used:List Int) (ls:List jg):PySem.W.Dat:=.tuple [dU own,.list (used.map PySem.W.Dat.int),.list (ls.map dlet)]
theorem sW (own:LL) (used:List Int) (ls:List jg):PySem.W.kqdOk 8 (pG own used ls)=true:=by
 show ([dU own,.list (used.map PySem.W.Dat.int),.list (ls.map dlet)].all (PySem.W.kqdOk 7))=true
 simp only [wM,List.all_nil,Bool.and_true,vx]
 refine ⟨pf own,?_,?_⟩
 ·show (used.map PySem.W.Dat.int).all (PySem.W.kqdOk 6)=true
  rw [wz]
  exact vv.mpr fun s _=>rfl
 ·show (ls.map dlet).all (PySem.W.kqdOk 6)=true
  rw [wz]
  exact vv.mpr fun s _=>rfl
end Veil
namespace L2
open PySem
theorem pX {X:Cx}{ss:List Stmt}:PSs X ss (fun D σ H=>∃ v,PSs X ss v∧v D σ H):=fun pins s σ H D I ⟨_,hv,q⟩=>hv pins s σ H D I q
theorem cml {i j p:Int} (h:0≤i∧i<p) (hp:p≤31):CMul i j:=.inl ⟨by omega,by omega⟩
end L2
namespace Veil
open PySem L2
open PySem.W (nsIn findIn kitOne codeIn keepIn fnOf isFn mg_of mg_none_of excIn)
seal L2.PSs L2.PS L2.PE L2.PT L2.PW L2.PA L2.PG L2.PGs L2.PI L2.PTs L2.PO L2.PH L2.PJ L2.OpR L2.CallR L2.IxR L2.UnR L2.TruR L2.SlR
def top (i:Nat):Stmt:=PySem.Challenge.pw_veilsum_k17_whole_the_same_sight.main.body.getD i (.Pass ⟨0,0,0,0⟩)
abbrev gx:Stmt:=top 12
abbrev gf:Stmt:=fN (top 13) 0
abbrev pU:Stmt:=top 14
abbrev lU:Stmt:=top 15
abbrev c8:Stmt:=top 16
abbrev cv:Stmt:=top 17
abbrev im:Stmt:=top 18
abbrev jy:Stmt:=top 19
abbrev ij:Stmt:=top 20
abbrev lY:Stmt:=top 22
abbrev fq:Stmt:=top 26
abbrev dH:Stmt:=top 27
abbrev pS:Stmt:=top 28
abbrev cM:Stmt:=top 29
abbrev lV:Stmt:=top 30
abbrev cY:Stmt:=top 31
abbrev fz:Stmt:=top 32
abbrev iq:Stmt:=top 33
abbrev lX:Stmt:=top 34
abbrev pQ:Stmt:=top 35
abbrev eu:Stmt:=top 36
abbrev cG:Stmt:=top 37
abbrev gy:Stmt:=top 38
abbrev gu:Stmt:=top 39
abbrev lW:Stmt:=top 40
abbrev cJ:Stmt:=top 42
abbrev dZ:Stmt:=top 43
abbrev cz:Stmt:=top 44
abbrev ik:Stmt:=top 45
abbrev ee:Stmt:=top 46
abbrev fA:Stmt:=fN (top 47) 0
abbrev cj:Stmt:=fN (top 47) 1
abbrev cA:Stmt:=fN (top 47) 2
abbrev bL:Stmt:=fN (top 47) 3
abbrev cO:Stmt:=fN (top 47) 4
abbrev bW:Stmt:=fN (top 47) 5
abbrev eI:Stmt:=fN (top 47) 6
abbrev dO:Stmt:=fN (top 47) 7
abbrev s_run:Stmt:=top 48
abbrev bV:Stmt:=top 50
abbrev cZ:Stmt:=top 51
abbrev dF:Stmt:=top 52
abbrev dG:Stmt:=top 53
abbrev pR:Stmt:=top 54
abbrev pP:Stmt:=top 55
abbrev cw:Stmt:=top 56
abbrev lZ:Stmt:=top 57
abbrev jz:Stmt:=top 58
abbrev cy:Stmt:=top 59
abbrev fu:Stmt:=top 60
abbrev dE:Stmt:=top 62
abbrev ip:Stmt:=top 63
abbrev fc:Stmt:=top 64
abbrev c9:Stmt:=top 65
abbrev dB:Stmt:=top 66
abbrev dc:Stmt:=top 67
abbrev gw:Stmt:=top 68
abbrev cK:Stmt:=top 69
abbrev fj:Stmt:=top 70
abbrev fh:Stmt:=top 71
abbrev fg:Stmt:=top 72
abbrev dC:Stmt:=top 73
abbrev dD:Stmt:=top 74
abbrev fk:Stmt:=top 75
abbrev cL:Stmt:=top 76
abbrev de:Stmt:=top 77
abbrev s_law:Stmt:=top 78
section
variable {P:Program}{w:World}{K:PySem.W.Frag}{mg:Str→Option Value}{base:Heap}{C pa:Addr}
theorem oS:ax ["prime","hands","few"] ["prime","hands","few"] (ao gx):=⟨rfl,rfl,rfl,by decide +kernel,rfl,by decide +kernel,by decide +kernel⟩
theorem oY (F:Src K mg "is_table" "is_table" gx ["prime","hands","few"]) (T:Pri K mg pa):Ok P w K mg base CX0 1 "is_table" ["prime","hands","few"] spIsT:=by
 refine F.ok oS (fun vs H Q E h=>?_) (fun f Y A outer s H vs Q E hr h=>?_)
 ·obtain ⟨p,n,f,rfl,_⟩:=h
  rfl
 obtain ⟨p,n,f,rfl,q⟩:=h
 refine ⟨_,(ah (bg (PW.pt (kB (aA gj (pv 0) (mo (v:=.ref _) rfl T.gPRIMES rfl) rfl) (iu (aA gj (pv 2) (ci (aa ae (aa ae ac))) rfl))))
   (ad (ay gS))
   aJ)
  (ad (ay (qa (iy nC nC ae (pv 1) ae) (qa (gi kC (pv 1) (pv 0) (aI _)) (p9 (gi kC (av bY ae (pv 2)) (pv 1) (aI _)))))))),?_⟩
 refine ⟨_,rfl,pa,_,rfl,.inr (T.sq H),rfl,by decide,_,rfl,?_⟩
 refine bB (fun G=>?_) (fun G=>?_)
 ·have G:(!inV (.int p) (primes9.map V.int))=true:=G
  refine oA ?_
  have e:isTB p n f=false:=by unfold isTB;rw [if_pos G]
  rw [← e]
  exact q H (Same.refl H)
 have G:¬ (!inV (.int p) (primes9.map V.int))=true:=G
 refine ⟨_,rfl,(by show 2≤sizeLine;decide),fun t W=>?_⟩
 refine ⟨t,_,rfl,.inr (SqT.of upd_same),rfl,by decide,_,rfl,?_⟩
 have U:Same H (upd H t (.tup [.int 1,.int 2])):=aj W _
 refine bB (fun I=>?_) (fun I=>?_)
 ·have I:(!inV (.int f) [.int 1,.int 2])=true:=I
  have e:isTB p n f=false:=by unfold isTB;rw [if_neg G,if_pos I]
  have d:=q _ U
  rw [e] at d
  exact d
 have I:¬ (!inV (.int f) [.int 1,.int 2])=true:=I
 have e:isTB p n f=((decide (3≤n) && decide (n≤7)) && (decide (n<p) && decide (2*f<n))):=by unfold isTB;rw [if_neg G,if_neg I]
 have d:=q _ U
 rw [e] at d
 refine ⟨_,rfl,_,_,rfl,rfl,_,rfl,?_⟩
 refine bB (fun J=>?_) (fun J=>?_)
 ·refine ⟨_,_,rfl,rfl,_,rfl,?_⟩
  refine bB (fun O=>?_) (fun O=>?_)
  ·refine ⟨_,rfl,_,rfl,_,_,rfl,rfl,_,rfl,?_⟩
   refine bB (fun R=>?_) (fun R=>?_)
   ·refine ⟨_,rfl,_,_,rfl,rfl,.inl ⟨by decide,by decide⟩,_,rfl,_,_,rfl,rfl,?_⟩
    rw [J,O,R] at d
    exact d
   ·rw [J,O,vq.mpr R] at d
    exact d
  ·rw [J,vq.mpr O] at d
   exact d
 ·refine ⟨_,rfl,uk ?_⟩
  rw [vq.mpr J] at d
  exact d
theorem lT:ax ["self","prime","hands","few"] ["self","prime","hands","few"] (ao gf):=⟨rfl,rfl,rfl,by decide +kernel,rfl,by decide +kernel,by decide +kernel⟩
theorem Bd {fI:Addr}{fd:FuncData} (F:Fun K "__init__" "Table.__init__" gf fI fd) (T:Tab K C) (Ao:Ok P w K mg base CX0 1 "is_table" ["prime","hands","few"] spIsT):ju P w K mg base CX0 2 fI fd ["self","prime","hands","few"] (mZ C):=by
 refine F.ok lT (fun vs H Q E h=>?_) (fun O A outer s H vs Q E hr h=>?_)
 ·obtain ⟨t,dx,p,n,f,rfl,_⟩:=h
  rfl
 obtain ⟨t,dx,p,n,f,rfl,J,I,q⟩:=h
 refine ⟨_,(ah (bg (gH (gG (ak Ao hr rfl (aa (pv 1) (aa (pv 2) (aa (pv 3) ac)))) (fun _=>rfl)))
   (ad l8)
   aJ)
  (ah (iw (pv 0) (pv 1) rfl)
  (ah (iw (pv 0) (pv 2) rfl)
  (ad (iw (pv 0) (pv 3) rfl))))),?_⟩
 refine ⟨_,rfl,_,rfl,_,rfl,p,n,f,rfl,fun H1 G=>⟨_,rfl,?_⟩⟩
 rw [I]
 refine uk ?_
 refine ⟨_,rfl,_,rfl,t,C,dx,[],rfl,G _ _ J,T.cl,T.nP,(by show 0<1000;decide),?_⟩
 refine ⟨_,rfl,_,rfl,t,C,dx,_,rfl,upd_same,T.cl,T.nH,(by show 1<1000;decide),?_⟩
 refine ⟨_,rfl,_,rfl,t,C,dx,_,rfl,upd_same,T.cl,T.nF,?_,?_⟩
 ·exact ww (fK _ _ _) (by show 2<1000;decide)
 ·refine q _ (fun b o e hb=>?_) ⟨dx,upd_same⟩
  rw [az hb,az hb,az hb]
  exact G _ _ e
theorem ym:ax ["table","row","at","total","number"] ["table","row","at"] (ao lU):=⟨rfl,rfl,rfl,by decide +kernel,rfl,by decide +kernel,by decide +kernel⟩
theorem AO (F:Src K mg "worth" "worth" lU ["table","row","at"]) (B:Blt mg) (T:Tab K C):Ok P w K mg base CX0 1 "worth" ["table","row","at"] (jI K C):=by
 refine F.ok ym (fun vs H Q E h=>?_) (fun f U A outer s H vs Q E hr h=>?_)
 ·obtain ⟨t,r,p,n,f,a,G,rfl,_⟩:=h
  rfl
 obtain ⟨t,r,p,n,f,a,G,rfl,⟨dx,R⟩,I,Y,O,q⟩:=h
 refine ⟨_,(ah (aB (i:=3) ym.nd rfl (Or.inl rfl) ae)
  (ah (bX PassesOwn.never rfl (pi_rev rfl B.reversed (aa (pv 1) ac)) (ar (i:=4) ym.nd rfl (Or.inl rfl))
   (ad (aB (i:=3) ym.nd rfl (Or.inl rfl) (av bh (av bi (av bY (pv 3) (pv 2)) (pv 4)) (aH (pv 0) rfl)))))
  (ad (ay (pv 3))))),?_⟩
 refine ⟨_,rfl,r,G.map V.int,rfl,O,for_rev (xs:=G.map V.int) (fun i σ H2=>H2=H∧i≤G.length∧∃ v:Option V,σ=[some (.ref t),some (.ref r),some (.int a),some (.int (bH p (G.drop (G.length - i)) a)),v]) ?_ ?_ ?_ ?_⟩
 ·refine ⟨rfl,vk _,none,?_⟩
  rw [Nat.sub_zero,List.drop_length]
  rfl
 ·rintro i σ H2 _ ⟨rfl,_⟩
  exact O
 ·rintro i x σ H2 J hi ⟨rfl,W,v,rfl⟩
  rw [lH] at J hi
  obtain ⟨z,rfl,hz⟩:=br J
  have hb:=lh I (G.drop (G.length - i)) a
  refine ⟨_,rfl,_,rfl,_,_,rfl,rfl,.inl ⟨by omega,by omega⟩,_,rfl,_,_,rfl,rfl,_,rfl,t,C,dx,_,_,rfl,R,T.cl,T.nP,i7 p n f,_,_,rfl,rfl,I,?_⟩
  refine ⟨rfl,hi,some (.int z),?_⟩
  have e:G.drop (G.length - (i+1))=z::G.drop (G.length - i):=by
   rw [show G.length - (i+1)=G.length - 1 - i by omega,iZ hz,show G.length - 1 - i+1=G.length - i by omega]
  rw [e]
  rfl
 ·rintro σ H2 ⟨rfl,_,v,rfl⟩
  rw [lH,Nat.sub_self,wW]
  exact ⟨_,rfl,q H2 (Same.refl _)⟩
theorem kx:ax ["script","k"] ["script","k"] (ao dE):=⟨rfl,rfl,rfl,by decide +kernel,rfl,by decide +kernel,by decide +kernel⟩
theorem Be (F:Src K mg "_law_cell_at" "_law_cell_at" dE ["script","k"]) (B:Blt mg):Ok P w K mg base CX0 1 "_law_cell_at" ["script","k"] (m4 K):=by
 refine F.ok kx (fun vs H Q E h=>?_) (fun f R A outer s H vs Q E hr h=>?_)
 ·obtain ⟨a,G,k,rfl,_⟩:=h
  rfl
 obtain ⟨a,G,k,rfl,J,U,q⟩:=h
 refine ⟨_,(ah (bg (aA kC (pv 1) (aK aG rfl B.len vE (aa (pv 0) ac)) (aI _))
   (ad (ay (aO aP (pv 0) (pv 1) (fun _ _=>rfl))))
   aJ)
  (ad (ay ae))),?_⟩
 refine ⟨_,rfl,_,rfl,a,_,rfl,.inl J,_,_,rfl,rfl,_,rfl,?_⟩
 have d:=q H (Same.refl H)
 unfold cg at d
 refine bB (fun c=>?_) (fun c=>?_)
 ·have I:k<(((G.map V.int).length:Nat):Int):=of_decide_eq_true c
  rw [lH] at I
  have O:k.toNat<G.length:=by omega
  rw [nn,rz O] at d
  refine ⟨_,rfl,_,rfl,a,_,_,_,rfl,rfl,J,?_,d⟩
  have e:atI (G.map V.int) ((k.toNat:Nat):Int)=some (.int G[k.toNat]):=kn (by rw [u5,rz O]<;>rfl)
  rw [show ((k.toNat:Nat):Int)=k by omega] at e
  exact e
 ·have I:¬ k<(((G.map V.int).length:Nat):Int):=of_decide_eq_false (vq.mpr c)
  rw [lH] at I
  rw [nn,vQ (by omega)] at d
  exact d
theorem qY:ax ["cell","k","many"] ["cell","k","many"] (ao ip):=⟨rfl,rfl,rfl,by decide +kernel,rfl,by decide +kernel,by decide +kernel⟩
theorem Bz (F:Src K mg "_law_mix" "_law_mix" ip ["cell","k","many"]):Ok P w K mg base CX0 1 "_law_mix" ["cell","k","many"] sS:=by
 refine F.ok qY (fun vs H Q E h=>?_) (fun f I A outer s H vs Q E hr h=>?_)
 ·obtain ⟨c,k,m,rfl,_⟩:=h
  rfl
 obtain ⟨c,k,m,rfl,G,q⟩:=h
 refine ⟨_,(ad (ay (av bh (av gT (av bh (av bY (av bi (av bh (pv 0) ae) ae) (av bi ae (av bY ae (pv 1)))) ae) ae) (pv 2)))),?_⟩
 have J:=vC c (show (2147483647:Int)≠0 by decide)
 have h1:=vw c (show (0:Int)<2147483647 by decide)
 refine ⟨_,rfl,_,_,rfl,rfl,(by show (0:Int)<2147483647;decide),_,_,rfl,rfl,_,rfl,_,_,rfl,rfl,.inl ⟨by decide,by decide⟩,_,_,rfl,rfl,_,_,rfl,rfl,.inl ⟨by omega,by omega⟩,_,_,rfl,rfl,(by show (0:Int)<1000000007;decide),_,_,rfl,rfl,⟨by decide,by decide⟩,_,rfl,_,_,rfl,rfl,G,?_⟩
 exact q H (Same.refl H)
theorem m7:ax ["found"] ["found"] (ao fc):=⟨rfl,rfl,rfl,by decide +kernel,rfl,by decide +kernel,by decide +kernel⟩
theorem AQ (F:Src K mg "_law_whole" "_law_whole" fc ["found"]) (B:Blt mg):Ok P w K mg base CX0 1 "_law_whole" ["found"] pL:=by
 refine F.ok m7 (fun vs H Q E h=>?_) (fun f G A outer s H vs Q E hr h=>?_)
 ·obtain ⟨i,rfl,_⟩:=h
  rfl
 obtain ⟨i,rfl,q⟩:=h
 refine ⟨_,(ad (ay (qa (aK g7 rfl B.isinstance PyProof.Rows.boot_isinstance (aa (pv 0) (aa (pe_ty rfl B.int PyProof.Rows.boot_int) ac))) (p9 (pe_not (aK g7 rfl B.isinstance PyProof.Rows.boot_isinstance (aa (pv 0) (aa (pe_ty rfl B.bool PyProof.Rows.boot_bool) ac)))))))),?_⟩
 refine ⟨_,rfl,_,_,_,_,true,rfl,.int i,rfl,pc K,_,rfl,oA ?_⟩
 refine ⟨_,rfl,_,_,_,_,false,rfl,.int i,rfl,nV K,_,rfl,?_⟩
 exact q H (Same.refl H)
theorem xn:ax ["cell","prime","hands","few"] ["cell"] (ao c9):=⟨rfl,rfl,rfl,by decide +kernel,rfl,by decide +kernel,by decide +kernel⟩
theorem oV (F:Src K mg "_law_table_by" "_law_table_by" c9 ["cell"]) (B:Blt mg) (Bf:MkOk P w K mg base CX0 2 "Table" C ["self","prime","hands","few"] (mZ C)):Ok P w K mg base CX0 4 "_law_table_by" ["cell"] (mX C):=by
 refine F.ok xn (fun vs H Q E h=>?_) (fun f ag A outer s H vs Q E hr h=>?_)
 ·obtain ⟨c,rfl,_⟩:=h
  rfl
 obtain ⟨c,rfl,q⟩:=h
 refine ⟨_,(ah (aB (i:=1) xn.nd rfl (Or.inl rfl) (aO aP (bd (aa ae (aa ae (aa ae (aa ae (aa ae (aa ae (aa ae (aa ae (aa ae ac)))))))))) (av bh (pv 0) ae) (fun _ _=>rfl)))
  (ah (aB (i:=2) xn.nd rfl (Or.inl rfl) (av bi ae (av bh (av gT (pv 0) ae) (av bD (aK (uN rfl) rfl B.min PyProof.Rows.boot_min (aa ae (aa (av bD (pv 1) ae) ac))) ae))))
  (ah (aB (i:=3) xn.nd rfl (Or.inl rfl) ae)
  (ah (bg (PW.pt (pw_and (aA op_gt (pv 2) ae (aI _)) (pw_and1 (aA bQ (av bh (av gT (pv 0) ae) ae) ae (aI _)))))
   (ad (aB (i:=3) xn.nd rfl (Or.inl rfl) ae))
   aJ)
  (ad (ay (jA Bf hr rfl (aa (pv 1) (aa (pv 2) (aa (pv 3) ac)))))))))),?_⟩
 have hP:=fX c
 refine ⟨(by show 9≤sizeLine;decide),fun l hl=>⟨_,rfl,_,_,rfl,rfl,(by show (0:Int)<9;decide),l,_,_,.int (tbP c),rfl,rfl,SqL.of upd_same,?_,?_⟩⟩
 ·have h0:=vC c (show (9:Int)≠0 by decide)
  have h1:=vw c (show (0:Int)<9 by decide)
  have e:atI (primes9.map V.int) (((c%9).toNat:Nat):Int)=some (.int (tbP c)):=kn (by
   have U:(c%9).toNat<primes9.length:=by show (c%9).toNat<9;omega
   rw [u5,rz U]
   unfold tbP
   rw [nn,rz U]
   rfl)
  rw [show (((c%9).toNat:Nat):Int)=c%9 by omega] at e
  exact e
 have W:Same H (upd H l (.lst (primes9.map V.int))):=aj hl _
 have hm:0<(if tbP c - 1<7 then tbP c - 1 else 7) - 2:=by split<;>omega
 refine ⟨_,rfl,_,_,rfl,rfl,⟨by decide,by decide⟩,_,rfl,_,_,rfl,rfl,7,tbP c - 1,rfl,_,_,rfl,rfl,_,_,rfl,rfl,hm,_,_,rfl,rfl,?_⟩
 refine ⟨_,rfl,_,_,rfl,rfl,_,rfl,?_⟩
 have fin:∀ f:Int,f=tbF c→(tMake C (mZ C) [] E0 (sQ (tVar 1) (sQ (tVar 2) (sQ (tVar 3) tNil)))) [some (.int c),some (.int (tbP c)),some (.int (tbN c)),some (.int f)] (upd H l (.lst (primes9.map V.int))) Q:=by
  rintro f rfl
  refine ⟨_,rfl,_,rfl,_,rfl,fun x dx R Y ai=>?_⟩
  refine ⟨x,dx,_,_,_,rfl,upd_same,isTB_tb c,fun H2 k2 Z=>⟨rfl,?_⟩⟩
  refine q x H2 (W.trans fun b o e=>?_) ?_ Z
  ·refine k2 b o ?_ (aq e R)
   rw [az (aq e R),az (aq e Y)]
   exact e
  ·exact W.free R
 refine bB (fun O=>?_) (fun O=>?_)
 ·have I:4<tbN c:=of_decide_eq_true O
  refine ⟨_,rfl,_,_,rfl,rfl,⟨by decide,by decide⟩,_,_,rfl,rfl,(by show (0:Int)<2;decide),rfl,_,rfl,?_⟩
  refine bB (fun J=>?_) (fun J=>?_)
  ·have G:V.int (c / 45%2)=V.int 1:=of_decide_eq_true J
   injection G with G
   exact fin 2 (by unfold tbF;rw [if_pos I,if_pos G])
  ·have G:¬ V.int (c / 45%2)=V.int 1:=of_decide_eq_false (vq.mpr J)
   exact fin 1 (by unfold tbF;rw [if_pos I,if_neg fun z=>G (congrArg V.int z)])
 ·have I:¬ 4<tbN c:=of_decide_eq_false (vq.mpr O)
  refine uk ?_
  exact fin 1 (by unfold tbF;rw [if_neg I])
end
section
variable {P:Program}{w:World}{K:PySem.W.Frag}{mg:Str→Option Value}{base:Heap}{C pa:Addr}
theorem Ax:ax ["table","number","other"] ["table","number"] (ao pU):=⟨rfl,rfl,rfl,by decide +kernel,rfl,by decide +kernel,by decide +kernel⟩
theorem back_at {p x:Int}{i:Nat} (hi:(1+(i:Int))<p) (h:x*(1+(i:Int))%p=1) (hn:∀ j:Nat,j<i→x*(1+(j:Int))%p≠1):bT p x=1+(i:Int):=by
 unfold bT
 have e:((List.range (p - 1).toNat).map fun i:Nat=>1+(i:Int)).find? (fun o=>decide (x*o%p=1))=some (1+(i:Int)):=by
  rw [List.find?_map,Option.map_eq_some_iff]
  refine ⟨i,?_,rfl⟩
  rw [List.find?_range_eq_some]
  refine ⟨?_,vH.mpr (by omega),fun j q=>?_⟩
  ·exact decide_eq_true h
  ·simpa using hn j q
 rw [e]
 rfl
theorem Bg (F:Src K mg "back" "back" pU ["table","number"]) (B:Blt mg) (T:Tab K C):Ok P w K mg base CX0 1 "back" ["table","number"] (pO C):=by
 refine F.ok Ax (fun vs H Q E h=>?_) (fun f U A outer s H vs Q E hr h=>?_)
 ·obtain ⟨t,p,n,f,x,rfl,_⟩:=h
  rfl
 obtain ⟨t,p,n,f,x,rfl,⟨dx,O⟩,hp,I,R,q⟩:=h
 have W:=jc hp
 refine ⟨_,(ah (bX PassesOwn.never rfl (eU rfl B.range (aa ae (aa (aH (pv 0) rfl) ac))) (ar (i:=2) Ax.nd rfl (Or.inl rfl))
   (ad (bg (aA bQ (av bh (av bY (pv 1) (pv 2)) (aH (pv 0) rfl)) ae (aI _))
   (ad (ay (pv 2)))
   aJ)))
  (ad l8)),?_⟩
 refine ⟨_,rfl,t,C,dx,_,_,rfl,O,T.cl,T.nP,i7 _ _ _,_,_,rfl,⟨by decide,by decide,by omega,by omega⟩,kh (fun i σ H2=>H2=H∧(∃ v:Option V,σ=[some (.ref t),some (.int x),v])∧∀ j:Nat,j<i→x*(1+(j:Int))%p≠1) ⟨rfl,⟨none,rfl⟩,fun j J=>absurd J (wF j)⟩ ?_ ?_⟩
 ·rintro i σ H2 hi ⟨rfl,⟨v,rfl⟩,hn⟩
  refine ⟨_,rfl,_,rfl,_,_,rfl,rfl,.inl ⟨by omega,by omega⟩,_,rfl,t,C,dx,_,_,rfl,O,T.cl,T.nP,i7 _ _ _,_,_,rfl,rfl,by omega,rfl,_,rfl,?_⟩
  refine bB (fun c=>?_) (fun c=>?_)
  ·have G:V.int (x*(1+(i:Int))%p)=V.int 1:=of_decide_eq_true c
   injection G with G
   refine ⟨_,rfl,?_⟩
   have d:=q H2 (Same.refl _)
   rw [back_at (by omega) G hn] at d
   exact d
  ·have G:¬ V.int (x*(1+(i:Int))%p)=V.int 1:=of_decide_eq_false (vq.mpr c)
   refine ⟨rfl,⟨_,rfl⟩,fun j J=>?_⟩
   rcases Nat.lt_succ_iff_lt_or_eq.mp J with z | z
   ·exact hn j z
   ·rw [z]
    exact fun e=>G (congrArg V.int e)
 ·rintro σ H2 ⟨rfl,⟨v,rfl⟩,hn⟩
  have hb:=gB hp (x:=x) (by rw [vO I.1 I.2];exact R)
  have:=hn (bT p x - 1).toNat (by omega)
  rw [show 1+((bT p x - 1).toNat:Int)=bT p x by omega] at this
  exact absurd hb.2 this
theorem xU:ax ["table","points","places"] ["table","points"] (ao c8):=⟨rfl,rfl,rfl,by decide +kernel,rfl,by decide +kernel,by decide +kernel⟩
theorem AR (F:Src K mg "refuse_alike" "refuse_alike" c8 ["table","points"]) (B:Blt mg) (T:Tab K C):Ok P w K mg base CX0 1 "refuse_alike" ["table","points"] (oO C):=by
 refine F.ok xU (fun vs H Q E h=>?_) (fun f al A outer s H vs Q E hr h=>?_)
 ·obtain ⟨t,r,p,n,f,U,J,rfl,_⟩:=h
  rfl
 obtain ⟨t,r,p,n,f,U,J,rfl,⟨dx,ht⟩,hp,R,O,an,nd,q⟩:=h
 have p5:=jc hp
 refine ⟨_,(ah (b8 2 ["point"] [("table",0)] xU.nd  (bn (pv 1)) rfl (fun C s0 H0 ex=>by exact (ar (i:=0) (show List.Nodup [("point":Str),"table"] by decide +kernel) rfl (Or.inl rfl))) (fun C s0 H0 ex=>by exact bc) (fun C s0 H0 ex=>by exact (av bh (aO (iX K) (pv 0) ae (fun _ _=>rfl)) (dv K (pv 1) rfl))))
  (ad (bg (aA kC (aK uO rfl B.len vE (aa (dS (uM rfl) rfl B.set PyProof.Rows.boot_set (aa (pv 2) ac)) ac)) (aK aG rfl B.len vE (aa (pv 2) ac)) (aI _))
   (ad l8)
   aJ))),?_⟩
 refine ⟨_,rfl,r,rfl,⟨_,SqL.of R⟩,fun D Y=>?_⟩
 refine bF (K:=K) (a:=r) (xs:=U) (fun i ys H2=>i≤J.length∧ys=((J.take i).map fun q=>q.1%p).map V.int∧Same H H2) ⟨vk _,rfl,am (Same.refl _) Y⟩ ?_ ?_ ?_
 ·rintro i ys H2 _ ⟨_,_,I⟩
  exact SqL.of (I _ _ R)
 ·rintro i x ys H2 hx ⟨_,rfl,I⟩ G
  obtain ⟨a,z,rfl,hz,hq⟩:=(O.same I).get hx
  refine ⟨⟨rfl,rfl⟩,?_⟩
  refine ⟨_,rfl,a,_,_,.int z.1,rfl,rfl,SqT.of hz,rfl,_,rfl,t,C,dx,_,_,rfl,I _ _ ht,T.cl,T.nP,i7 _ _ _,_,_,rfl,rfl,by omega,G,?_,?_,?_,am I Y⟩
  ·rw [lH,lH,vj]
   exact au (by omega)
  ·exact (u3.mp hq).1
  ·rw [← dh hq,u6,u6]
   rfl
 ·rintro ys H2 ⟨_,rfl,I⟩ G
  have hl:U.length=J.length:=Paired.length O
  rw [hl,vI] at G
  have nl:(J.map fun q=>q.1%p).length=J.length:=lH _
  refine ⟨_,rfl,D,_,rfl,SqL.of G,by omega,fun u Z=>?_⟩
  refine ⟨u,_,_,rfl,upd_same,?_,?_⟩
  ·rw [gK nd]
   omega
  refine ⟨_,rfl,D,_,rfl,.inl (SqL.of (aj Z _ _ _ G)),_,_,rfl,rfl,_,rfl,?_⟩
  rw [gK nd,lH]
  refine bB (fun c=>?_) (fun c=>?_)
  ·have W:=of_decide_eq_true c
   rw [lH,nl] at W
   exact absurd W (Int.lt_irrefl _)
  ·exact q _ (I.trans (aj Z _))
theorem iO:ax ["table","row","at"] ["table","row","at"] (ao cv):=⟨rfl,rfl,rfl,by decide +kernel,rfl,by decide +kernel,by decide +kernel⟩
theorem tR (F:Src K mg "with_nought_at" "with_nought_at" cv ["table","row","at"]) (B:Blt mg) (T:Tab K C):Ok P w K mg base CX0 1 "with_nought_at" ["table","row","at"] (lL C):=by
 refine F.ok iO (fun vs H Q E h=>?_) (fun f bb A outer s H vs Q E hr h=>?_)
 ·obtain ⟨t,r,p,n,f,x,ss,rfl,_⟩:=h
  rfl
 obtain ⟨t,r,p,n,f,x,ss,rfl,⟨dx,ht⟩,hp,ab,a9,a2,q⟩:=h
 have p5:=jc hp
 refine ⟨_,(ad (ay (bw ["before","here"] [("table",0),("at",2)]  (gI rfl B.zip (aa (av gJ (bd (aa ae ac)) (pv 1)) (aa (av gJ (pv 1) (bd (aa ae ac))) ac))) rfl (fun C s0 H0 ex=>by exact (eJ K 2 rfl (aE (ar (i:=0) (show List.Nodup [("before":Str),"here","table","at"] by decide +kernel) rfl (Or.inl rfl)) (aE (ar (i:=1) (show List.Nodup [("before":Str),"here","table","at"] by decide +kernel) rfl (Or.inl rfl)) bM)))) (fun C s0 H0 ex=>by exact bc) (fun C s0 H0 ex=>by exact (av bh (av bD (pv 0) (av bY (pv 3) (pv 1))) (dv K (pv 2) rfl)))))),?_⟩
 have z1:1+(ss.map V.int).length≤sizeLine:=by rw [lH];exact small (by omega)
 have z2:(ss.map V.int).length+1≤sizeLine:=by rw [lH];exact small (by omega)
 refine ⟨(by show 1≤sizeLine;decide),fun l1 h1=>?_⟩
 have s1:=aj h1 (.lst [.int 0])
 refine ⟨_,rfl,l1,r,_,_,rfl,rfl,upd_same,s1 _ _ ab,z1,fun U h2=>?_⟩
 have R:=s1.trans (aj h2 (.lst ([.int 0]++ss.map V.int)))
 have e2:(upd (upd H l1 (.lst [.int 0])) U (.lst ([.int 0]++ss.map V.int))) U=some (.lst ((0::ss).map V.int)):=upd_same
 generalize upd (upd H l1 (.lst [.int 0])) U (.lst ([.int 0]++ss.map V.int))=H2 at R e2
 refine ⟨_,rfl,(by show 1≤sizeLine;decide),fun Y h3=>?_⟩
 have s3:=aj h3 (.lst [.int 0])
 refine ⟨r,Y,_,_,rfl,rfl,s3 _ _ (R _ _ ab),upd_same,z2,fun J h4=>?_⟩
 have I:Same H2 (upd (upd H2 Y (.lst [.int 0])) J (.lst (ss.map V.int++[.int 0]))):=s3.trans (aj h4 _)
 have e4:(upd (upd H2 Y (.lst [.int 0])) J (.lst (ss.map V.int++[.int 0]))) J=some (.lst ((ss++[0]).map V.int)):=by rw [upd_same,u6];rfl
 generalize upd (upd H2 Y (.lst [.int 0])) J (.lst (ss.map V.int++[.int 0]))=H4 at I e4
 refine ⟨U,J,_,_,rfl,SqL.of (I _ _ e2),SqL.of e4,fun D hD=>?_⟩
 refine fP (K:=K) (a:=U) (b:=J) (xs:=(0::ss).map V.int) (zs:=(ss++[0]).map V.int) (fun i ys W=>ys=((eK p x ss).take i).map V.int∧Same H4 W) ⟨rfl,am (Same.refl _) hD⟩ ?_ ?_ ?_
 ·rintro i ys W ⟨_,O⟩
  exact ⟨SqL.of (O _ _ (I _ _ e2)),SqL.of (O _ _ e4)⟩
 ·rintro i u v ys W c hu hv ⟨rfl,O⟩ G hc
  obtain ⟨u,rfl,as⟩:=br hu
  obtain ⟨v,rfl,Z⟩:=br hv
  have ba:0≤v∧v<p:=by
   rcases vr.mp (u4 Z) with z | z
   ·exact a2 v z
   ·have:v=0:=by simpa using z
    omega
  have s6:=O.trans (aj hc (.tup [.int u,.int v]))
  have hn:(eK p x ss)[i]?=some ((u - x*v)%p):=sy as Z
  refine ⟨c,_,rfl,SqT.of upd_same,rfl,_,_,rfl,_,_,rfl,rfl,⟨rfl,rfl⟩,?_⟩
  refine ⟨_,rfl,_,rfl,_,rfl,_,_,rfl,rfl,.inr ⟨by omega,by omega⟩,_,_,rfl,rfl,_,rfl,t,C,dx,_,_,rfl,s6 _ _ (I _ _ (R _ _ ht)),T.cl,T.nP,i7 _ _ _,_,_,rfl,rfl,by omega,?_,?_,?_,am s6 hD⟩
  ·exact aj hc _ _ _ G
  ·rw [lH,vj,iT]
   exact au (by omega)
  ·rw [← dh hn,u6]
   rfl
 ·rintro ys W ⟨rfl,O⟩ G
  have e:min ((0::ss).map V.int).length ((ss++[0]).map V.int).length=(eK p x ss).length:=by rw [lH,lH,iT];simp
  rw [e,vI] at G
  exact q D W (R.trans (I.trans O)) (R.free (I.free hD)) G
theorem xx:ax ["table","points","row","still","x","y","times"] ["table","points"] (ao im):=⟨rfl,rfl,rfl,by decide +kernel,rfl,by decide +kernel,by decide +kernel⟩
theorem rp (F:Src K mg "through" "through" im ["table","points"]) (B:Blt mg) (T:Tab K C) (yC:Ok P w K mg base CX0 1 "refuse_alike" ["table","points"] (oO C)) (yc:Ok P w K mg base CX0 1 "worth" ["table","row","at"] (jI K C))
  (Ay:Ok P w K mg base CX0 1 "back" ["table","number"] (pO C)) (yi:Ok P w K mg base CX0 1 "with_nought_at" ["table","row","at"] (lL C)):Ok P w K mg base CX0 2 "through" ["table","points"] (jK C):=by
 refine F.ok xx (fun vs H Q E h=>?_) (fun f da A outer s H vs Q E hr h=>?_)
 ·obtain ⟨t,r,p,n,f,rs,G,rfl,_⟩:=h
  rfl
 obtain ⟨t,r,p,n,f,rs,G,rfl,T1,hp,ap,ag,dd,nd,q⟩:=h
 have p5:=jc hp
 refine ⟨_,(ah (aW (ak yC hr rfl (aa (pv 0) (aa (pv 1) ac))))
  (ah (aB (i:=2) xx.nd rfl (Or.inl rfl) (bd ac))
  (ah (aB (i:=3) xx.nd rfl (Or.inl rfl) (bd (aa ae ac)))
  (ah (bX PassesOwn.never rfl (bn (pv 1)) (gh rfl (aE (ar (i:=4) xx.nd rfl (Or.inl rfl)) (aE (ar (i:=5) xx.nd rfl (Or.inl rfl)) bM)))
   (ah (aB (i:=6) xx.nd rfl (Or.inr rfl) (av bY (av bD (pv 5) (ak yc hr rfl (aa (pv 0) (aa (pv 2) (aa (pv 4) ac))))) (ak Ay hr rfl (aa (pv 0) (aa (ak yc hr rfl (aa (pv 0) (aa (pv 3) (aa (pv 4) ac)))) ac)))))
  (ah (b8 2 ["old","new"] [("table",0),("times",6)] xx.nd  (gI rfl B.zip (aa (av gJ (pv 2) (bd (aa ae ac))) (aa (pv 3) ac))) rfl (fun C s0 H0 ex=>by exact (eJ K 2 rfl (aE (ar (i:=0) (show List.Nodup [("old":Str),"new","table","times"] by decide +kernel) rfl (Or.inl rfl)) (aE (ar (i:=1) (show List.Nodup [("old":Str),"new","table","times"] by decide +kernel) rfl (Or.inl rfl)) bM)))) (fun C s0 H0 ex=>by exact bc) (fun C s0 H0 ex=>by exact (av bh (av bi (pv 0) (av bY (pv 3) (pv 1))) (dv K (pv 2) rfl))))
  (ad (aB (i:=3) xx.nd rfl (Or.inl rfl) (ak yi hr rfl (aa (pv 0) (aa (pv 3) (aa (pv 4) ac)))))))))
  (ad (ay (pv 2))))))),?_⟩
 refine ⟨_,rfl,_,rfl,t,r,p,n,f,rs,G,rfl,T1,hp,ap,ag,by omega,nd,fun H1 s1=>?_⟩
 refine ⟨(by show 0≤sizeLine;decide),fun la bb=>?_⟩
 refine ⟨(by show 1≤sizeLine;decide),fun lb as=>?_⟩
 have sb:Same H1 (upd (upd H1 la (.lst [])) lb (.lst [.int 1])):=(aj bb _).trans (aj as _)
 refine ⟨_,rfl,r,rfl,⟨_,SqL.of (sb _ _ (s1 _ _ ap))⟩,cR (K:=K) (a:=r) (xs:=rs) (fun i σ H2=>∃ (l1 l2:Addr) (v4 v5 v6:Option V),σ=[some (.ref t),some (.ref r),some (.ref l1),some (.ref l2),v4,v5,v6]∧Same H H2∧H l1=none ∧
  H2 l1=some (.lst ((dz p (G.take i)).1.map V.int))∧H2 l2=some (.lst ((dz p (G.take i)).2.map V.int))) ?_ ?_ ?_ ?_⟩
 ·refine ⟨la,lb,none,none,none,rfl,s1.trans sb,s1.free bb,?_,upd_same⟩
  rw [az (fun z=>?_),upd_same]
  ·rfl
  ·rw [z,upd_same] at as
   cases as
 ·rintro i σ H2 _ ⟨l1,l2,v4,v5,v6,_,I,_⟩
  exact SqL.of (I _ _ ap)
 ·rintro i v σ H2 hv ⟨l1,l2,v4,v5,v6,rfl,I,f1,Y,W⟩
  obtain ⟨a,⟨x,y⟩,rfl,ha,hq⟩:=(ag.same I).get hv
  have c7:i<G.length:=(u3.mp hq).1
  have O:G=G.take i++(x,y)::G.drop (i+1):=by rw [← iZ hq,List.take_append_drop]
  have cr:((G.take i).map fun q=>q.1%p).Nodup:=by
   rw [O,u6] at nd
   exact (List.nodup_append.mp nd).1
  have a7:∀ q∈G.take i,x%p≠q.1%p:=fun q hm z=>by
   rw [O,u6] at nd
   exact (List.nodup_append.mp nd).2.2 (q.1%p) (vP.mpr ⟨q,hm,rfl⟩) (x%p) (vP.mpr ⟨(x,y),vb,rfl⟩) z.symm
  have ok:=qU hp cr
  have J:dz p (G.take (i+1))=mU p (dz p (G.take i)) (x,y):=by
   unfold dz
   rw [← dh hq,List.foldl_append]
   rfl
  generalize c5:dz p (G.take i)=rs2 at Y W ok J
  have lt:(G.take i).length=i:=by rw [vj];omega
  have b0:=ok.l1
  have cc:=ok.l2
  rw [lt] at b0 cc
  refine ⟨a,_,rfl,SqT.of ha,rfl,_,_,rfl,_,_,rfl,rfl,?_⟩
  refine ⟨_,rfl,_,rfl,_,rfl,_,rfl,t,l1,p,n,f,x,rs2.1,rfl,T1.same I,by omega,p5.2,SqL.of Y,fun H3 s3=>?_⟩
  refine ⟨_,_,rfl,rfl,_,rfl,_,rfl,_,rfl,_,rfl,t,l2,p,n,f,x,rs2.2,rfl,(T1.same I).same s3,by omega,p5.2,SqL.of (s3 _ _ W),fun H4 s4=>?_⟩
  have wb:=lh (show 0<p by omega) rs2.2 x
  have wn:bH p rs2.2 x≠0:=by
   rw [bJ]
   exact ok.non x a7
  refine ⟨t,p,n,f,_,rfl,((T1.same I).same s3).same s4,hp,wb,wn,fun H5 s5=>?_⟩
  have bk:=gB hp (x:=bH p rs2.2 x) (by rw [vO wb.1 wb.2];exact wn)
  refine ⟨_,_,rfl,rfl,.inr ⟨by omega,by omega⟩,?_⟩
  dsimp only
  generalize co:(y - bH p rs2.1 x)*bT p (bH p rs2.2 x)=tm
  have a9:Same H2 H5:=s3.trans (s4.trans s5)
  refine ⟨_,rfl,(by show 1≤sizeLine;decide),fun l3 h3=>?_⟩
  have s6:=aj h3 (.lst [.int 0])
  refine ⟨l1,l3,_,_,rfl,rfl,s6 _ _ (a9 _ _ Y),upd_same,?_,fun l4 h4=>?_⟩
  ·rw [lH,List.length_singleton]
   exact small (by omega)
  have s7:Same H5 (upd (upd H5 l3 (.lst [.int 0])) l4 (.lst (rs2.1.map V.int++[.int 0]))):=s6.trans (aj h4 _)
  have e7:(upd (upd H5 l3 (.lst [.int 0])) l4 (.lst (rs2.1.map V.int++[.int 0]))) l4=some (.lst ((rs2.1++[0]).map V.int)):=by rw [upd_same,u6];rfl
  generalize upd (upd H5 l3 (.lst [.int 0])) l4 (.lst (rs2.1.map V.int++[.int 0]))=H7 at s7 e7
  have R:=a9.trans s7
  refine ⟨_,rfl,l4,l2,_,_,rfl,SqL.of e7,SqL.of (R _ _ W),fun D hD=>?_⟩
  obtain ⟨dx,ht⟩:=T1.same (I.trans R)
  refine fP (K:=K) (a:=l4) (b:=l2) (xs:=(rs2.1++[0]).map V.int) (zs:=rs2.2.map V.int) (fun j ys H8=>ys=((kr p tm (rs2.1++[0]) rs2.2).take j).map V.int∧Same H7 H8) ⟨rfl,am (Same.refl _) hD⟩ ?_ ?_ ?_
  ·rintro j ys H8 ⟨_,Z⟩
   exact ⟨SqL.of (Z _ _ e7),SqL.of (Z _ _ (R _ _ W))⟩
  ·rintro j u v ys H8 c hu hv ⟨rfl,Z⟩ U hc
   obtain ⟨u,rfl,ck⟩:=br hu
   obtain ⟨v,rfl,ba⟩:=br hv
   have c6:=ok.b2 v (u4 ba)
   have s9:=Z.trans (aj hc (.tup [.int u,.int v]))
   have hn:(kr p tm (rs2.1++[0]) rs2.2)[j]?=some ((u+tm*v)%p):=sy ck ba
   refine ⟨c,_,rfl,SqT.of upd_same,rfl,_,_,rfl,_,_,rfl,rfl,⟨rfl,rfl⟩,?_⟩
   refine ⟨_,rfl,_,rfl,_,rfl,_,_,rfl,rfl,.inr ⟨by omega,by omega⟩,_,_,rfl,rfl,_,rfl,t,C,dx,_,_,rfl,s9 _ _ ht,T.cl,T.nP,i7 _ _ _,_,_,rfl,rfl,by omega,?_,?_,?_,am s9 hD⟩
   ·exact aj hc _ _ _ U
   ·rw [lH,vj,gC]
    exact au (by simp;omega)
   ·rw [← dh hn,u6]
    rfl
  rintro ys H8 ⟨rfl,Z⟩ U
  have e:min ((rs2.1++[0]).map V.int).length (rs2.2.map V.int).length=(kr p tm (rs2.1++[0]) rs2.2).length:=by rw [lH,lH,gC]
  rw [e,vI] at U
  have al:=R.trans Z
  refine ⟨_,rfl,_,rfl,_,rfl,t,l2,p,n,f,x,rs2.2,rfl,T1.same (I.trans al),hp,al _ _ W,by omega,ok.b2,fun l5 H9 s9 db b3=>?_⟩
  refine ⟨D,l5,_,_,_,rfl,I.trans (al.trans s9),I.free (R.free hD),?_,?_⟩
  ·rw [J]
   have:(mU p rs2 (x,y)).1=kr p tm (rs2.1++[0]) rs2.2:=by rw [← co];rfl
   rw [this]
   exact s9 _ _ U
  ·rw [J]
   exact b3
 ·rintro σ H2 ⟨l1,l2,v4,v5,v6,rfl,I,f1,Y,W⟩
  have hl:rs.length=G.length:=Paired.length ag
  rw [hl,vI] at Y
  exact ⟨_,rfl,q l1 H2 I f1 Y⟩
end
section
variable {P:Program}{w:World}{K:PySem.W.Frag}{mg:Str→Option Value}{base:Heap}{C pa:Addr}
theorem yS:ax ["table","hand","points"] ["table","hand"] (ao jy):=⟨rfl,rfl,rfl,by decide +kernel,rfl,by decide +kernel,by decide +kernel⟩
theorem tM (F:Src K mg "weight" "weight" jy ["table","hand"]) (B:Blt mg) (T:Tab K C) (yc:Ok P w K mg base CX0 1 "worth" ["table","row","at"] (jI K C)) (Az:Ok P w K mg base CX0 2 "through" ["table","points"] (jK C)):Ok P w K mg base CX0 3 "weight" ["table","hand"] (lE C):=by
 refine F.ok yS (fun vs H Q E h=>?_) (fun f a1 A outer s H vs Q E hr h=>?_)
 ·obtain ⟨t,p,n,f,h,rfl,_⟩:=h
  rfl
 obtain ⟨t,p,n,f,h,rfl,Z,hp,a4,a2,as,q⟩:=h
 have p5:=jc hp
 obtain ⟨dx,ht⟩:=id Z
 refine ⟨_,(ah (b8 2 ["other"] [("hand",1)] yS.nd  (eU rfl B.range (aa ae (aa (av bi (aH (pv 0) rfl) ae) ac))) rfl (fun C s0 H0 ex=>by exact (ar (i:=0) (show List.Nodup [("other":Str),"hand"] by decide +kernel) rfl (Or.inl rfl))) (fun C s0 H0 ex=>by exact bc) (fun C s0 H0 ex=>by exact (ci (aa (pv 0) (aa (mn (aA bQ (pv 0) (pv 1) (aI _)) ae ae) ac)))))
  (ad (ay (ak yc hr rfl (aa (pv 0) (aa (ak Az hr rfl (aa (pv 0) (aa (pv 2) ac))) (aa ae ac))))))),?_⟩
 refine ⟨_,rfl,t,C,dx,_,_,rfl,ht,T.cl,T.nH,oy _ _ _,_,_,rfl,rfl,_,_,rfl,⟨by decide,by decide,by omega,by omega⟩,fun D hD=>?_⟩
 refine cE (fun i ys H2=>i≤n.toNat∧PtsAt H2 ys (si i h)∧ys.length=i∧Same H H2) ⟨vk _,.nil,rfl,am (Same.refl _) hD⟩ ?_ ?_
 ·rintro i ys H2 hi ⟨_,I,O,U⟩ R
  have af:i<n.toNat:=by omega
  have fin:∀ (y:Int) (c:Addr),y=(if 1+(i:Int)=h then 1 else 0)→H2 c=none→(upd H2 c (.tup [.int (1+(i:Int)),.int y])) D=some (.lst ys)∧ys.length<sizeLine∧i+1≤n.toNat ∧
    PtsAt (L2.upd (upd H2 c (.tup [.int (1+(i:Int)),.int y])) D (.lst (ys++[.ref c]))) (ys++[.ref c]) (si (i+1) h)∧(ys++[V.ref c]).length=i+1∧Same H (L2.upd (upd H2 c (.tup [.int (1+(i:Int)),.int y])) D (.lst (ys++[.ref c]))):=by
   rintro y c rfl hc
   have J:=aj hc (.tup [.int (1+(i:Int)),.int (if 1+(i:Int)=h then 1 else 0)])
   have W:=J _ _ R
   refine ⟨W,by rw [O];exact au (by omega),af,?_,by rw [u7,O];rfl,am (U.trans J) hD⟩
   rw [← sA]
   exact PtsAt.upd W (PtsAt.snoc (I.same J) upd_same)
  refine ⟨⟨rfl,rfl⟩,?_⟩
  refine ⟨_,rfl,_,rfl,_,rfl,rfl,_,rfl,?_⟩
  refine bB (fun Y=>?_) (fun Y=>?_)
  ·have G:V.int (1+(i:Int))=V.int h:=of_decide_eq_true Y
   injection G with G
   exact ⟨(by show 2≤sizeLine;decide),fun c hc=>fin 1 c (by rw [if_pos G]) hc⟩
  ·have G:¬ V.int (1+(i:Int))=V.int h:=of_decide_eq_false (vq.mpr Y)
   exact ⟨(by show 2≤sizeLine;decide),fun c hc=>fin 0 c (by rw [if_neg fun z=>G (congrArg V.int z)]) hc⟩
 ·rintro ys H2 ⟨_,I,O,U⟩ R
  rw [show (n+1 - 1).toNat=n.toNat by omega] at I
  refine ⟨_,rfl,_,rfl,_,rfl,t,D,p,n,f,ys,si n.toNat h,rfl,Z.same U,hp,R,I,by rw [wpts_len];omega,qK h (by omega),fun r H3 J a3 ab=>?_⟩
  refine ⟨t,r,p,n,f,0,lA p (si n.toNat h),rfl,Z.same (U.trans J),by omega,p5.2,SqL.of ab,fun H4 s4=>?_⟩
  exact q H4 (U.trans (J.trans s4))
theorem qW:ax ["table"] ["table"] (ao ij):=⟨rfl,rfl,rfl,by decide +kernel,rfl,by decide +kernel,by decide +kernel⟩
theorem rm (F:Src K mg "weights" "weights" ij ["table"]) (B:Blt mg) (T:Tab K C) (AS:Ok P w K mg base CX0 3 "weight" ["table","hand"] (lE C)):Ok P w K mg base CX0 4 "weights" ["table"] (jJ C):=by
 refine F.ok qW (fun vs H Q E h=>?_) (fun f af A outer s H vs Q E hr h=>?_)
 ·obtain ⟨t,p,n,f,rfl,_⟩:=h
  rfl
 obtain ⟨t,p,n,f,rfl,R,hp,Z,Y,W,q⟩:=h
 obtain ⟨dx,ht⟩:=id R
 refine ⟨_,(ad (ay (bw ["hand"] [("table",0)]  (eU rfl B.range (aa ae (aa (av bi (aH (pv 0) rfl) ae) ac))) rfl (fun C s0 H0 ex=>by exact (ar (i:=0) (show List.Nodup [("hand":Str),"table"] by decide +kernel) rfl (Or.inl rfl))) (fun C s0 H0 ex=>by exact bc) (fun C s0 H0 ex=>by exact (ak AS hr rfl (aa (pv 1) (aa (pv 0) ac))))))),?_⟩
 refine ⟨_,rfl,t,C,dx,_,_,rfl,ht,T.cl,T.nH,oy _ _ _,_,_,rfl,rfl,_,_,rfl,⟨by decide,by decide,by omega,by omega⟩,fun D J=>?_⟩
 refine cE (fun i ys H2=>i≤n.toNat∧ys=((List.range i).map fun j:Nat=>oC p n.toNat (1+(j:Int))).map V.int∧Same H H2) ⟨vk _,rfl,am (Same.refl _) J⟩ ?_ ?_
 ·rintro i ys H2 hi ⟨_,rfl,I⟩ G
  have U:i<n.toNat:=by omega
  refine ⟨⟨rfl,rfl⟩,?_⟩
  refine ⟨_,rfl,_,rfl,t,p,n,f,_,rfl,R.same I,hp,Z,Y,W,fun H3 O=>⟨O _ _ G,?_,U,?_,am (I.trans O) J⟩⟩
  ·rw [lH,lH,vo]
   exact au (by omega)
  ·rw [← map_take,u6]
   rfl
 ·rintro ys H2 ⟨_,rfl,I⟩ G
  rw [show (n+1 - 1).toNat=n.toNat by omega] at G
  exact q D H2 I J G
end
section
variable {P:Program}{w:World}{K:PySem.W.Frag}{mg:Str→Option Value}{base:Heap}{C pa:Addr}
theorem An:ax ["table","number","chance","row"] ["table","number","chance"] (ao lY):=⟨rfl,rfl,rfl,by decide +kernel,rfl,by decide +kernel,by decide +kernel⟩
theorem AT (F:Src K mg "dealt" "dealt" lY ["table","number","chance"]) (B:Blt mg) (T:Tab K C) (yc:Ok P w K mg base CX0 1 "worth" ["table","row","at"] (jI K C)):Ok P w K mg base CX0 2 "dealt" ["table","number","chance"] (oN C):=by
 refine F.ok An (fun vs H Q E h=>?_) (fun f a1 A outer s H vs Q E hr h=>?_)
 ·obtain ⟨t,r,p,n,f,x,G,rfl,_⟩:=h
  rfl
 obtain ⟨t,r,p,n,f,x,G,rfl,T1,Z,ab,a2,a3,al,as,q⟩:=h
 refine ⟨_,(ah (aB (i:=3) An.nd rfl (Or.inr rfl) (av gJ (bd (aa (pv 1) ac)) (pv 2)))
  (ad (ay (bw ["hand"] [("table",0),("row",3)]  (eU rfl B.range (aa ae (aa (av bi (aH (pv 0) rfl) ae) ac))) rfl (fun C s0 H0 ex=>(ar (i:=0) (show List.Nodup [("hand":Str),"table","row"] by decide +kernel) rfl (Or.inl rfl))) (fun C s0 H0 ex=>bc) (fun C s0 H0 ex=>(ak yc hr rfl (aa (pv 1) (aa (pv 2) (aa (pv 0) ac))))))))),?_⟩
 refine ⟨_,rfl,(by show 1≤sizeLine;decide),fun l hl=>?_⟩
 have s1:Same H (upd H l (.lst [.int x])):=aj hl _
 refine ⟨_,rfl,l,r,_,_,rfl,rfl,upd_same,s1 _ _ al,?_,fun m hm=>?_⟩
 ·rw [lH,List.length_singleton]
  exact small (by omega)
 have J:Same H (upd (upd H l (.lst [.int x])) m (.lst ([.int x]++G.map V.int))):=s1.trans (aj hm _)
 have U:(upd (upd H l (.lst [.int x])) m (.lst ([.int x]++G.map V.int))) m=some (.lst ((x::G).map V.int)):=upd_same
 generalize upd (upd H l (.lst [.int x])) m (.lst ([.int x]++G.map V.int))=H2 at J U
 obtain ⟨dx,ht⟩:=T1.same J
 refine ⟨_,rfl,t,C,dx,_,_,rfl,ht,T.cl,T.nH,oy _ _ _,_,_,rfl,rfl,_,_,rfl,⟨by decide,by decide,by omega,by omega⟩,fun D W=>?_⟩
 refine cE (fun i ys R=>i≤n.toNat∧ys=(cD p i x G).map V.int∧Same H2 R) ⟨vk _,rfl,am (Same.refl _) W⟩ ?_ ?_
 ·rintro i ys R hi ⟨_,rfl,O⟩ I
  have ag:i<n.toNat:=by omega
  refine ⟨⟨rfl,rfl⟩,?_⟩
  refine ⟨_,rfl,_,rfl,_,rfl,t,m,p,n,f,_,x::G,rfl,(T1.same J).same O,Z,ab,SqL.of (O _ _ U),fun H4 Y=>⟨Y _ _ I,?_,ag,pF p i x G,am (O.trans Y) W⟩⟩
  rw [lH,kZ]
  exact au (by omega)
 ·rintro ys R ⟨_,rfl,O⟩ I
  rw [show (n+1 - 1).toNat=n.toNat by omega] at I
  exact q D R (J.trans O) (J.free W) I
end
section
variable {P:Program}{w:World}{K:PySem.W.Frag}{mg:Str→Option Value}{base:Heap}{C pa:Addr}
theorem xk:ax ["cell","at","table","way","hand","one","two","number"] ["cell","at","table"] (ao dB):=⟨rfl,rfl,rfl,by decide +kernel,rfl,by decide +kernel,by decide +kernel⟩
theorem rq (F:Src K mg "_law_step_by" "_law_step_by" dB ["cell","at","table"]) (T:Tab K C) (xt:Ok P w K mg base CX0 1 "_law_mix" ["cell","k","many"] sS):Ok P w K mg base CX0 2 "_law_step_by" ["cell","at","table"] (jw C):=by
 refine F.ok xk (fun vs H Q E h=>?_) (fun f bl A outer s H vs Q E hr h=>?_)
 ·obtain ⟨t,c,J,p,n,f,rfl,_⟩:=h
  rfl
 obtain ⟨t,c,J,p,n,f,rfl,⟨dx,ht⟩,hp,hn,ha,q⟩:=h
 refine ⟨_,(ah (aB (i:=3) xk.nd rfl (Or.inl rfl) (ak xt hr rfl (aa (pv 0) (aa ae (aa ae ac)))))
  (ah (aB (i:=4) xk.nd rfl (Or.inl rfl) (av bi ae (ak xt hr rfl (aa (pv 0) (aa ae (aa (aH (pv 2) rfl) ac))))))
  (ah (bg (PW.pt (kB (aA bQ (pv 1) ae (aI _)) (iu (aA kC (pv 3) ae (aI _)))))
   (ad (ay (ci (aa aU (aa (pv 4) ac)))))
   aJ)
  (ah (aB (i:=5) xk.nd rfl (Or.inl rfl) (ak xt hr rfl (aa (pv 0) (aa ae (aa (pv 1) ac)))))
  (ah (aB (i:=6) xk.nd rfl (Or.inl rfl) (ak xt hr rfl (aa (pv 0) (aa ae (aa (pv 1) ac)))))
  (ah (aB (i:=7) xk.nd rfl (Or.inl rfl) (ak xt hr rfl (aa (pv 0) (aa ae (aa (aH (pv 2) rfl) ac)))))
  (ah (bg (aA bQ (pv 3) ae (aI _))
   (ad (ay (ci (aa aU (aa (pv 7) ac)))))
   aJ)
  (ah (bg (aA bQ (pv 3) ae (aI _))
   (ad (ay (ci (aa aU (aa (pv 5) (aa (pv 7) ac))))))
   aJ)
  (ah (bg (aA kC (pv 3) ae (aI _))
   (ad (ay (ci (aa (aO aP (bd (aa aU (aa aU ac))) (av bD (pv 3) ae) (fun _ _=>rfl)) (aa (pv 5) (aa (pv 6) ac))))))
   aJ)
  (ah (bg (aA bQ (pv 3) ae (aI _))
   (ad (ay (ci (aa aU (aa (pv 5) (aa (pv 6) ac))))))
   aJ)
  (ad (ay (ci (aa (aO aP (bd (aa aU (aa aU ac))) (av bD (pv 3) ae) (fun _ _=>rfl)) (aa (pv 5) ac))))))))))))))),?_⟩
 have fin:∀ (H':Hp) (vs:List V),Same H H'→(dj c J p n).vs=vs→vs.length≤sizeLine∧∀ d,H' d=none→Q (.ref d) (upd H' d (.tup vs)):=fun H' vs s' e=>by
  subst e
  refine ⟨?_,fun d hd=>q d _ (s'.trans (aj hd _)) (s'.free hd) upd_same⟩
  have:(dj c J p n).vs.length≤3:=by cases dj c J p n<;>simp [Stp.vs]
  exact small (by omega)
 refine ⟨_,rfl,_,_,_,rfl,(by decide),fun H1 s1=>?_⟩
 refine ⟨_,rfl,_,rfl,t,C,dx,_,_,rfl,s1 _ _ ht,T.cl,T.nH,oy _ _ _,_,_,_,rfl,hn,fun H2 s2=>⟨_,_,rfl,rfl,?_⟩⟩
 have g2:=s1.trans s2
 refine ⟨_,rfl,rfl,_,rfl,?_⟩
 refine bB (fun c1=>?_) (fun c1=>?_)
 ·have W:V.int J=V.int 0:=of_decide_eq_true c1
  injection W with W
  refine oA ⟨_,rfl,?_⟩
  exact fin H2 _ g2 (by unfold dj;rw [if_pos (.inl W)];rfl)
 have W:¬ V.int J=V.int 0:=of_decide_eq_false (vq.mpr c1)
 have a0:¬ J=0:=fun z=>W (by rw [z])
 have ap:0<J:=by omega
 have w9:=fJ (c:=c) (k:=1) (show (0:Int)<9 by decide)
 have w0:=bR (c:=c) (k:=1) (show (0:Int)<9 by decide)
 refine ⟨_,rfl,_,_,rfl,rfl,_,rfl,?_⟩
 refine bB (fun c2=>?_) (fun c2=>?_)
 ·have af:=of_decide_eq_true c2
  refine ⟨_,rfl,?_⟩
  exact fin H2 _ g2 (by unfold dj;rw [if_pos (.inr af)];rfl)
 have af:=of_decide_eq_false (vq.mpr c2)
 have R:¬ (J=0∨eW c 1 9<2):=fun z=>by rcases z with z | z<;>omega
 refine ⟨_,rfl,_,rfl,_,_,_,rfl,ap,fun H3 s3=>?_⟩
 refine ⟨_,rfl,_,rfl,_,_,_,rfl,ap,fun H4 s4=>?_⟩
 have g4:=g2.trans (s3.trans s4)
 refine ⟨_,rfl,_,rfl,t,C,dx,_,_,rfl,g4 _ _ ht,T.cl,T.nP,i7 _ _ _,_,_,_,rfl,hp,fun H5 s5=>?_⟩
 have Y:=g4.trans s5
 refine ⟨_,rfl,rfl,_,rfl,?_⟩
 refine bB (fun c3=>?_) (fun c3=>?_)
 ·have G:V.int (eW c 1 9)=V.int 2:=of_decide_eq_true c3
  injection G with G
  refine ⟨_,rfl,?_⟩
  exact fin H5 _ Y (by unfold dj;rw [if_neg R,if_pos G];rfl)
 have G:¬ eW c 1 9=2:=fun z=>(of_decide_eq_false (vq.mpr c3):¬ V.int (eW c 1 9)=V.int 2) (by rw [z])
 refine ⟨_,rfl,rfl,_,rfl,?_⟩
 refine bB (fun c4=>?_) (fun c4=>?_)
 ·have I:V.int (eW c 1 9)=V.int 3:=of_decide_eq_true c4
  injection I with I
  refine ⟨_,rfl,_,rfl,?_⟩
  exact fin H5 _ Y (by unfold dj;rw [if_neg R,if_neg G,if_pos I];rfl)
 have I:¬ eW c 1 9=3:=fun z=>(of_decide_eq_false (vq.mpr c4):¬ V.int (eW c 1 9)=V.int 3) (by rw [z])
 refine ⟨_,rfl,_,_,rfl,rfl,_,rfl,?_⟩
 refine bB (fun c5=>?_) (fun c5=>?_)
 ·have U:=of_decide_eq_true c5
  refine ⟨(by show 2≤sizeLine;decide),fun l hl=>?_⟩
  have s6:=aj hl (.lst [.str "sum",.str "less"])
  by_cases Z:eW c 1 9=4
  ·refine ⟨_,rfl,_,_,rfl,rfl,l,_,_,.str "sum",rfl,rfl,SqL.of upd_same,?_,_,rfl,_,rfl,?_⟩
   ·rw [Z]
    rfl
   exact fin _ _ (Y.trans s6) (by unfold dj;rw [if_neg R,if_neg G,if_neg I,if_pos U,if_pos Z];rfl)
  ·have O:eW c 1 9=5:=by omega
   refine ⟨_,rfl,_,_,rfl,rfl,l,_,_,.str "less",rfl,rfl,SqL.of upd_same,?_,_,rfl,_,rfl,?_⟩
   ·rw [O]
    rfl
   exact fin _ _ (Y.trans s6) (by unfold dj;rw [if_neg R,if_neg G,if_neg I,if_pos U,if_neg Z];rfl)
 have U:=of_decide_eq_false (vq.mpr c5)
 refine ⟨_,rfl,rfl,_,rfl,?_⟩
 refine bB (fun Z=>?_) (fun Z=>?_)
 ·have O:V.int (eW c 1 9)=V.int 6:=of_decide_eq_true Z
  injection O with O
  refine ⟨_,rfl,_,rfl,?_⟩
  exact fin H5 _ Y (by unfold dj;rw [if_neg R,if_neg G,if_neg I,if_neg U,if_pos O];rfl)
 have O:¬ eW c 1 9=6:=fun z=>(of_decide_eq_false (vq.mpr Z):¬ V.int (eW c 1 9)=V.int 6) (by rw [z])
 refine ⟨(by show 2≤sizeLine;decide),fun l hl=>?_⟩
 have s6:=aj hl (.lst [.str "anew",.str "open"])
 by_cases c7:eW c 1 9=7
 ·refine ⟨_,rfl,_,_,rfl,rfl,l,_,_,.str "anew",rfl,rfl,SqL.of upd_same,?_,_,rfl,?_⟩
  ·rw [c7]
   rfl
  exact fin _ _ (Y.trans s6) (by unfold dj;rw [if_neg R,if_neg G,if_neg I,if_neg U,if_neg O,if_pos c7];rfl)
 ·have a6:eW c 1 9=8:=by omega
  refine ⟨_,rfl,_,_,rfl,rfl,l,_,_,.str "open",rfl,rfl,SqL.of upd_same,?_,_,rfl,?_⟩
  ·rw [a6]
   rfl
  exact fin _ _ (Y.trans s6) (by unfold dj;rw [if_neg R,if_neg G,if_neg I,if_neg U,if_neg O,if_neg c7];rfl)
theorem jP:ax ["script","start","many","table"] ["script","start","many","table"] (ao dc):=⟨rfl,rfl,rfl,by decide +kernel,rfl,by decide +kernel,by decide +kernel⟩
theorem oW (F:Src K mg "_law_steps_by" "_law_steps_by" dc ["script","start","many","table"]) (B:Blt mg) (wZ:Ok P w K mg base CX0 1 "_law_cell_at" ["script","k"] (m4 K)) (xO:Ok P w K mg base CX0 2 "_law_step_by" ["cell","at","table"] (jw C)):Ok P w K mg base CX0 3 "_law_steps_by" ["script","start","many","table"] (jL K C):=by
 refine F.ok jP (fun vs H Q E h=>?_) (fun f an A outer s H vs Q E hr h=>?_)
 ·obtain ⟨a,t,R,st,m,p,n,f,rfl,_⟩:=h
  rfl
 obtain ⟨a,t,R,st,m,p,n,f,rfl,hS,al,ag,ai,T1,hp,hn,q⟩:=h
 refine ⟨_,(ad (ay (bw ["k"] [("table",3),("script",0),("start",1)]  (gg rfl B.range (aa (pv 2) ac)) rfl (fun C s0 H0 ex=>by exact (ar (i:=0) (show List.Nodup [("k":Str),"table","script","start"] by decide +kernel) rfl (Or.inl rfl))) (fun C s0 H0 ex=>by exact bc) (fun C s0 H0 ex=>by exact (ak xO hr rfl (aa (ak wZ hr rfl (aa (pv 2) (aa (av bi (pv 3) (pv 0)) ac))) (aa (pv 0) (aa (pv 1) ac)))))))),?_⟩
 refine ⟨_,rfl,m,rfl,by omega,by omega,fun D U=>?_⟩
 refine cE (fun i ys H2=>i≤m.toNat∧StpsAt H2 ys (eG R st i p n)∧Same H H2) ⟨vk _,.nil,am (Same.refl _) U⟩ ?_ ?_
 ·rintro i ys H2 hi ⟨_,G,O⟩ I
  have yl:ys.length=i:=by rw [Paired.length G];unfold eG;rw [lH,vo]
  refine ⟨⟨rfl,rfl⟩,?_⟩
  refine ⟨_,rfl,_,rfl,_,rfl,_,_,rfl,rfl,a,R,_,rfl,O.seq hS,by omega,fun H3 W=>?_⟩
  refine ⟨_,rfl,_,rfl,t,_,_,p,n,f,rfl,T1.same (O.trans W),hp,hn,by omega,fun d H4 Z ap Y=>?_⟩
  have J:=W.trans Z
  refine ⟨J _ _ I,au (by omega),by omega,?_,am (O.trans J) U⟩
  unfold eG at G ⊢
  rw [← map_take]
  refine StpsAt.upd (J _ _ I) (StpsAt.snoc (G.same J) ?_)
  rw [Y,wP]
 ·rintro ys H2 ⟨_,G,O⟩ I
  exact q D H2 ys O U I (by rw [← show (m - 0).toNat=m.toNat by omega];first | exact G | simpa using G)
theorem oQ:ax ["steps","hand"] ["steps","hand"] (ao gw):=⟨rfl,rfl,rfl,by decide +kernel,rfl,by decide +kernel,by decide +kernel⟩
theorem Bh (F:Src K mg "_law_used" "_law_used" gw ["steps","hand"]) (B:Blt mg):Ok P w K mg base CX0 1 "_law_used" ["steps","hand"] mW:=by
 refine F.ok oQ (fun vs H Q E h=>?_) (fun f ap A outer s H vs Q E hr h=>?_)
 ·obtain ⟨a,h,W,ss,rfl,_⟩:=h
  rfl
 obtain ⟨a,h,W,ss,rfl,ha,R,hl,q⟩:=h
 have wl:W.length=ss.length:=Paired.length R
 refine ⟨_,(ad (ay (aK aG rfl B.len vE (aa (bw ["step"] [("hand",1)]  (bn (pv 0)) rfl (fun C s0 H0 ex=>by exact (ar (i:=0) (show List.Nodup [("step":Str),"hand"] by decide +kernel) rfl (Or.inl rfl))) (fun C s0 H0 ex=>by exact (l7 (aA (op_eqD (hr.units)) (pv 0) (ci (aa aU (aa (pv 1) ac))) (aI _)))) (fun C s0 H0 ex=>by exact (pv 0))) ac)))),?_⟩
 refine ⟨_,rfl,a,rfl,⟨_,SqL.of ha⟩,fun D Z=>?_⟩
 refine bF (K:=K) (a:=a) (xs:=W) (fun i ys H2=>ys.length=aS (ss.take i) h∧Same H H2) ⟨rfl,am (Same.refl _) Z⟩ ?_ ?_ ?_
 ·rintro i ys H2 _ ⟨_,I⟩
  exact SqL.of (I _ _ ha)
 ·rintro i y ys H2 hy ⟨G,I⟩ J
  obtain ⟨b,z,rfl,hz,Y⟩:=(R.same I).get hy
  have ut:=jH (h:=h) Y
  have ul:=lr (ss.take i) h
  rw [vj] at ul
  refine ⟨⟨rfl,rfl⟩,?_⟩
  refine ⟨_,rfl,_,rfl,(by show 2≤sizeLine;decide),fun d hd=>?_⟩
  have O:=aj hd (.tup [.str "in",.int h])
  refine ⟨z.dat,(Stp.ein h).dat,decide (z=.ein h),Stp.rep (O _ _ hz),Stp.rep (s:=.ein h) upd_same,z.ok8,Stp.ok8 _,?_,_,rfl,?_⟩
  ·rw [decide_eq_true_iff,dat_ein]
  refine bB (fun c=>?_) (fun c=>?_)
  ·have U:=of_decide_eq_true c
   refine ⟨_,rfl,O _ _ J,au (by omega),?_,am (I.trans O) Z⟩
   rw [u7,G,ut,if_pos U]
   rfl
  ·have U:=of_decide_eq_false (vq.mpr c)
   refine ⟨O _ _ J,?_,I.trans O⟩
   rw [G,ut,if_neg U]
   rfl
 ·rintro ys H2 ⟨G,I⟩ J
  rw [wl,vI] at G
  refine ⟨D,_,rfl,.inl (SqL.of J),?_⟩
  rw [G]
  exact q H2 I
end
section
variable {P:Program}{w:World}{K:PySem.W.Frag}{mg:Str→Option Value}{base:Heap}{C pa:Addr}
theorem xG:ax ["steps","table","total","step"] ["steps","table"] (ao fj):=⟨rfl,rfl,rfl,by decide +kernel,rfl,by decide +kernel,by decide +kernel⟩
theorem AU (F:Src K mg "_law_needs" "_law_needs" fj ["steps","table"]) (T:Tab K C):Ok P w K mg base CX0 1 "_law_needs" ["steps","table"] (oM C):=by
 refine F.ok xG (fun vs H Q E h=>?_) (fun f ai A outer s H vs Q E hr h=>?_)
 ·obtain ⟨a,t,p,n,f,U,ss,rfl,_⟩:=h
  rfl
 obtain ⟨a,t,p,n,f,U,ss,rfl,⟨dx,O⟩,hf,hn,ha,I,q⟩:=h
 have wl:U.length=ss.length:=Paired.length I
 refine ⟨_,(ah (aB (i:=2) xG.nd rfl (Or.inl rfl) ae)
  (ah (bX PassesOwn.never rfl (bn (pv 0)) (ar (i:=3) xG.nd rfl (Or.inl rfl))
   (ad (aB (i:=2) xG.nd rfl (Or.inl rfl) (av bi (pv 2) (av bY (aH (pv 1) rfl) (pe_dget2 (hu_of hr) (pe_disp (mj aU ae (mj aU (aH (pv 1) rfl) (mj aU (aH (pv 1) rfl) pps_nil))) rfl rfl (by intro z;cases z) (by decide)) (aO aZ (pv 3) ae (fun _ _=>rfl)) ae ⟨rfl,rfl,rfl,rfl⟩))))))
  (ad (ay (pv 2))))),?_⟩
 refine ⟨_,rfl,a,rfl,⟨_,SqL.of ha⟩,cR (K:=K) (a:=a) (xs:=U) (fun i σ H2=>Same H H2∧∃ Y:Option V,σ=[some (.ref a),some (.ref t),some (.int (aY f n (ss.take i))),Y]) ⟨Same.refl _,none,rfl⟩ ?_ ?_ ?_⟩
 ·rintro i σ H2 _ ⟨G,_⟩
  exact SqL.of (G _ _ ha)
 ·rintro i y σ H2 hy ⟨G,Y,rfl⟩
  obtain ⟨b,z,rfl,hz,Z⟩:=(I.same G).get hy
  refine ⟨_,rfl,_,rfl,t,C,dx,_,_,rfl,G _ _ O,T.cl,T.nF,tf_f _ _ _,fun d W=>?_⟩
  have R:=G.trans (aj W (.dK []))
  refine ⟨_,rfl,t,C,dx,_,_,rfl,R _ _ O,T.cl,T.nH,oy _ _ _,_,rfl,t,C,dx,_,_,rfl,R _ _ O,T.cl,T.nH,oy _ _ _,upd_same,[(kIn,V.int 1),(pd,V.int n),(iW,V.int n)],rfl,(by show 3≤15;decide),d,rfl,.inl ⟨_,.inl upd_same⟩,?_⟩
  have J:b≠d:=aq hz W
  refine ⟨_,rfl,b,_,_,.str z.word,rfl,rfl,SqT.of (by rw [az J,az J];exact hz),z.at0,_,DGet.k (k:=Sum.inr z.word) upd_same,?_⟩
  rw [need_get]
  refine ⟨_,_,rfl,rfl,.inl ⟨by omega,by omega⟩,_,_,rfl,rfl,?_⟩
  refine ⟨am R (G.free W),some (.ref b),?_⟩
  rw [rE Z]
  rfl
 ·rintro σ H2 ⟨G,Y,rfl⟩
  refine ⟨_,rfl,?_⟩
  rw [wl,vI]
  exact q H2 G
theorem xv:ax ["cell","steps","table","found","hand","many"] ["cell","steps","table"] (ao cK):=⟨rfl,rfl,rfl,by decide +kernel,rfl,by decide +kernel,by decide +kernel⟩
theorem nG (F:Src K mg "_law_inputs_by" "_law_inputs_by" cK ["cell","steps","table"]) (B:Blt mg) (T:Tab K C) (xA:Ok P w K mg base CX0 1 "_law_used" ["steps","hand"] mW) (xt:Ok P w K mg base CX0 1 "_law_mix" ["cell","k","many"] sS):Ok P w K mg base CX0 2 "_law_inputs_by" ["cell","steps","table"] (iM C):=by
 refine F.ok xv (fun vs H Q E h=>?_) (fun f bz A outer s H vs Q E hr h=>?_)
 ·obtain ⟨a,t,c,p,n,f,ws,ss,rfl,_⟩:=h
  rfl
 obtain ⟨a,t,c,p,n,f,ws,ss,rfl,⟨dx,ht⟩,hp,hn,ha,a5,a7,q⟩:=h
 refine ⟨_,(ah (aB (i:=3) xv.nd rfl (Or.inl rfl) (bd ac))
  (ah (bX PassesOwn.never rfl (eU rfl B.range (aa ae (aa (av bi (aH (pv 2) rfl) ae) ac))) (ar (i:=4) xv.nd rfl (Or.inr rfl))
   (ah (aB (i:=5) xv.nd rfl (Or.inl rfl) (av bi (ak xA hr rfl (aa (pv 1) (aa (pv 4) ac))) (ak xt hr rfl (aa (pv 0) (aa (av bi ae (pv 4)) (aa ae ac))))))
  (ad (aW (dX vm vA vB bq (pv 3) (aa (bw ["k"] [("cell",0),("table",2),("hand",4)]  (gg rfl B.range (aa (pv 5) ac)) rfl (fun C s0 H0 ex=>by exact (ar (i:=0) (show List.Nodup [("k":Str),"cell","table","hand"] by decide +kernel) rfl (Or.inl rfl))) (fun C s0 H0 ex=>by exact bc) (fun C s0 H0 ex=>by exact (ak xt hr rfl (aa (pv 1) (aa (av bi (av bi ae (av bY ae (pv 3))) (pv 0)) (aa (dv K (pv 2) rfl) ac)))))) ac))))))
  (ad (ay (pv 3))))),?_⟩
 refine ⟨(by show 0≤sizeLine;decide),fun l hl=>?_⟩
 have s1:=aj hl (.lst [])
 refine ⟨_,rfl,t,C,dx,_,_,rfl,s1 _ _ ht,T.cl,T.nH,oy _ _ _,_,_,rfl,rfl,_,_,rfl,⟨by decide,by decide,by omega,by omega⟩,kh (fun i σ H2=>i≤n.toNat∧Same H H2∧∃ (G:List Addr) (v4 v5:Option V),σ=[some (.int c),some (.ref a),some (.ref t),some (.ref l),v4,v5]∧H2 l=some (.lst (G.map V.ref))∧G.Nodup∧l∉G∧(∀ b∈G,H b=none)∧InsAt H2 G (bt c p ss i)) ?_ ?_ ?_⟩
 ·exact ⟨vk _,s1,[],none,none,rfl,upd_same,.nil,(fun h=>nomatch h),(fun b h=>nomatch h),.nil⟩
 ·rintro i σ H2 hi ⟨_,R,G,v4,v5,rfl,ab,nd,af,W,I⟩
  have al:G.length=i:=by rw [Paired.length I];unfold bt;rw [lH,vo]
  refine ⟨_,rfl,_,rfl,a,_,ws,ss,rfl,R _ _ ha,a5.same R,a7,fun H3 s3=>?_⟩
  refine ⟨_,rfl,_,rfl,_,_,rfl,rfl,_,_,_,rfl,(by decide),fun H4 s4=>⟨_,_,rfl,rfl,?_⟩⟩
  have m0:=bR (c:=c) (k:=60+(1+(i:Int))) (show (0:Int)<2 by decide)
  have m1:=fJ (c:=c) (k:=60+(1+(i:Int))) (show (0:Int)<2 by decide)
  have ul:=lr ss (1+(i:Int))
  have g4:=R.trans (s3.trans s4)
  have Y:=s4 _ _ (s3 _ _ ab)
  have Z:=I.same (s3.trans s4)
  refine ⟨_,rfl,.inl ⟨rfl,_,SqL.of Y⟩,_,rfl,_,rfl,by omega,by omega,fun D O=>?_⟩
  refine cE (fun j ys H5=>j≤200∧ys=((List.range j).map fun k:Nat=>eW c (70+9*(1+(i:Int))+(k:Int)) p).map V.int∧Same H4 H5) ⟨vk _,rfl,am (Same.refl _) O⟩ ?_ ?_
  ·rintro j ys H5 hj ⟨_,rfl,J⟩ U
   refine ⟨⟨rfl,rfl⟩,?_⟩
   refine ⟨_,rfl,_,rfl,_,_,rfl,rfl,.inl ⟨by decide,by decide⟩,_,_,rfl,rfl,_,rfl,_,_,rfl,rfl,_,rfl,t,C,dx,_,_,rfl,J _ _ (g4 _ _ ht),T.cl,T.nP,i7 _ _ _,_,_,_,rfl,hp,fun H6 s6=>⟨s6 _ _ U,?_,by omega,?_,am (J.trans s6) O⟩⟩
   ·rw [lH,lH,vo]
    exact au (by omega)
   ·rw [← map_take,u6,wP]
    rfl
  rintro ys H5 ⟨_,rfl,J⟩ U
  have a6:=J _ _ Y
  have Dl:D≠l:=fun e=>by rw [e,Y] at O;cases O
  refine ⟨l,_,_,rfl,rfl,a6,by rw [lH,al];exact au (by omega),?_⟩
  have Da:=Z.there O
  have ag:l∉G++[D]:=fun h=>by
   rcases vr.mp h with h | h
   ·exact af h
   ·have e:l=D:=by simpa using h
    exact Dl e.symm
  refine ⟨by omega,am (g4.trans J) hl,G++[D],_,_,rfl,?_,eV nd Da,ag,fun b hb=>?_,?_⟩
  ·rw [upd_same,u6]
   rfl
  ·rcases vr.mp hb with h | h
   ·exact W b h
   ·have e:b=D:=by simpa using h
    rw [e]
    exact g4.free O
  ·have ei:bt c p ss (i+1)=bt c p ss i++[inBy c p ss (1+(i:Int))]:=by
    unfold bt
    rw [← map_take]
   rw [ei]
   refine InsAt.off (InsAt.snoc (Z.same J) ?_) ag
   unfold inBy
   rw [U]
 ·rintro σ H2 ⟨_,R,G,v4,v5,rfl,ab,nd,af,W,I⟩
  rw [show (n+1 - 1).toNat=n.toNat by omega] at I
  exact ⟨_,rfl,q l H2 G R hl ab nd af W I⟩
theorem nc:ax ["steps"] ["steps"] (ao fg):=⟨rfl,rfl,rfl,by decide +kernel,rfl,by decide +kernel,by decide +kernel⟩
theorem AV (F:Src K mg "_law_quiet" "_law_quiet" fg ["steps"]) (B:Blt mg):Ok P w K mg base CX0 1 "_law_quiet" ["steps"] oI:=by
 refine F.ok nc (fun vs H Q E h=>?_) (fun f an A outer s H vs Q E hr h=>?_)
 ·obtain ⟨a,Z,ss,rfl,_⟩:=h
  rfl
 obtain ⟨a,Z,ss,rfl,ha,Y,ap,q⟩:=h
 have wl:Z.length=ss.length:=Paired.length Y
 refine ⟨_,(ad (ay (bw ["step"] []  (bn (pv 0)) rfl (fun C s0 H0 ex=>by exact (ar (i:=0) (show List.Nodup [("step":Str)] by decide +kernel) rfl (Or.inl rfl))) (fun C s0 H0 ex=>by exact bc) (fun C s0 H0 ex=>by exact (mn (aA bQ (aO (iX K) (pv 0) ae (fun _ _=>rfl)) aU (aI _)) (ci (aa aU (aa (aO (iX K) (pv 0) ae (fun _ _=>rfl)) ac))) (pv 0)))))),?_⟩
 refine ⟨_,rfl,a,rfl,⟨_,SqL.of ha⟩,fun D U=>?_⟩
 refine bF (K:=K) (a:=a) (xs:=Z) (fun i ys H2=>StpsAt H2 ys ((ss.take i).map gF)∧Same H H2) ⟨.nil,am (Same.refl _) U⟩ ?_ ?_ ?_
 ·rintro i ys H2 _ ⟨_,J⟩
  exact SqL.of (J _ _ ha)
 ·rintro i y ys H2 hy ⟨G,J⟩ I
  obtain ⟨b,z,rfl,hz,W⟩:=(Y.same J).get hy
  have yl:ys.length≤100:=by
   rw [Paired.length G,lH,vj]
   omega
  refine ⟨⟨rfl,rfl⟩,?_⟩
  refine ⟨_,rfl,b,_,_,.str z.word,rfl,rfl,SqT.of hz,z.at0,rfl,_,rfl,?_⟩
  refine bB (fun c=>?_) (fun c=>?_)
  ·have O:V.str z.word=V.str "open":=of_decide_eq_true c
   injection O with O
   obtain ⟨x,rfl⟩:=(lj z).mp O
   refine ⟨_,rfl,b,_,_,.int x,rfl,rfl,SqT.of hz,rfl,(by show 2≤sizeLine;decide),fun d hd=>?_⟩
   have R:=aj hd (.tup [.str "anew",.int x])
   refine ⟨R _ _ I,au (by omega),?_,am (J.trans R) U⟩
   rw [← dh W,u6]
   exact StpsAt.upd (R _ _ I) (StpsAt.snoc (s:=.anew x) (G.same R) upd_same)
  ·have O:¬ V.str z.word=V.str "open":=of_decide_eq_false (vq.mpr c)
   have nz:¬ ∃ x,z=.opn x:=fun h=>O (by rw [(lj z).mpr h])
   refine ⟨_,rfl,I,au (by omega),?_,am J U⟩
   rw [← dh W,u6]
   refine StpsAt.upd I (StpsAt.snoc G ?_)
   rw [quiet_no nz]
   exact hz
 ·rintro ys H2 ⟨G,J⟩ I
  rw [wl,vI] at G
  exact q D H2 ys J U I G
theorem jn:ax ["cell","steps","table"] ["cell","steps","table"] (ao cL):=⟨rfl,rfl,rfl,by decide +kernel,rfl,by decide +kernel,by decide +kernel⟩
theorem nJ (F:Src K mg "_law_chance_by" "_law_chance_by" cL ["cell","steps","table"]) (B:Blt mg) (T:Tab K C) (zG:Ok P w K mg base CX0 1 "_law_needs" ["steps","table"] (oM C)) (xt:Ok P w K mg base CX0 1 "_law_mix" ["cell","k","many"] sS):Ok P w K mg base CX0 2 "_law_chance_by" ["cell","steps","table"] (iN C):=by
 refine F.ok jn (fun vs H Q E h=>?_) (fun f af A outer s H vs Q E hr h=>?_)
 ·obtain ⟨a,t,c,p,n,f,U,ss,rfl,_⟩:=h
  rfl
 obtain ⟨a,t,c,p,n,f,U,ss,rfl,Y,hp,hf,hn,ha,W,ag,q⟩:=h
 have nb:=o6 hf.1 hf.2 hn.1 hn.2 ss
 refine ⟨_,(ad (ay (bw ["k"] [("cell",0),("table",2)]  (gg rfl B.range (aa (ak zG hr rfl (aa (pv 1) (aa (pv 2) ac))) ac)) rfl (fun C s0 H0 ex=>by exact (ar (i:=0) (show List.Nodup [("k":Str),"cell","table"] by decide +kernel) rfl (Or.inl rfl))) (fun C s0 H0 ex=>by exact bc) (fun C s0 H0 ex=>by exact (ak xt hr rfl (aa (pv 1) (aa (av bi ae (pv 0)) (aa (dv K (pv 2) rfl) ac)))))))),?_⟩
 refine ⟨_,rfl,_,rfl,a,t,p,n,f,U,ss,rfl,Y,hf,hn,ha,W,fun H1 O=>?_⟩
 obtain ⟨dx,Z⟩:=Y
 refine ⟨_,rfl,by omega,by omega,fun D J=>?_⟩
 refine cE (fun j ys H2=>j≤1000∧ys=(dL c p j).map V.int∧Same H1 H2) ⟨vk _,rfl,am (Same.refl _) J⟩ ?_ ?_
 ·rintro j ys H2 hj ⟨_,rfl,I⟩ G
  refine ⟨⟨rfl,rfl⟩,?_⟩
  refine ⟨_,rfl,_,rfl,_,_,rfl,rfl,_,rfl,t,C,dx,_,_,rfl,I _ _ (O _ _ Z),T.cl,T.nP,i7 _ _ _,_,_,_,rfl,hp,fun H3 R=>⟨R _ _ G,?_,by omega,?_,am (I.trans R) J⟩⟩
  ·unfold dL
   rw [lH,lH,vo]
   exact au (by omega)
  ·unfold dL
   rw [← map_take,u6,wP]
   rfl
 ·rintro ys H2 ⟨_,rfl,I⟩ G
  exact q D H2 (O.trans I) (O.free J) G
end
section
variable {P:Program}{w:World}{K:PySem.W.Frag}{mg:Str→Option Value}{base:Heap}{C pa:Addr}
theorem word_ein {s:Stp} (h:s.word="in"):∃ a,s=.ein a:=by cases s<;>first | exact ⟨_,rfl⟩ | exact absurd h (by simp only [Stp.word];decide +kernel)
theorem word_fix {s:Stp} (h:s.word="fix"):∃ a,s=.fix a:=by cases s<;>first | exact ⟨_,rfl⟩ | exact absurd h (by simp only [Stp.word];decide +kernel)
theorem word_bye {s:Stp} (h:s.word="by"):∃ a x,s=.bye a x:=by cases s<;>first | exact ⟨_,_,rfl⟩ | exact absurd h (by simp only [Stp.word];decide +kernel)
theorem word_sum {s:Stp} (h:s.word="sum"):∃ a b,s=.sum a b:=by cases s<;>first | exact ⟨_,_,rfl⟩ | exact absurd h (by simp only [Stp.word];decide +kernel)
theorem sC {s:Stp} (h:s.word="less"):∃ a b,s=.less a b:=by cases s<;>first | exact ⟨_,_,rfl⟩ | exact absurd h (by simp only [Stp.word];decide +kernel)
theorem word_mul {s:Stp} (h:s.word="mul"):∃ a b,s=.mul a b:=by cases s<;>first | exact ⟨_,_,rfl⟩ | exact absurd h (by simp only [Stp.word];decide +kernel)
theorem sB {s:Stp} (h0:¬ s.word="in") (h1:¬ s.word="fix") (h2:¬ s.word="by") (h3:¬ s.word="sum") (h4:¬ s.word="less") (h5:¬ s.word="mul"):(∃ a,s=.anew a)∨∃ a,s=.opn a:=by
 cases s
 ·exact absurd rfl h0
 ·exact absurd rfl h1
 ·exact absurd rfl h2
 ·exact absurd rfl h3
 ·exact absurd rfl h4
 ·exact absurd rfl h5
 ·exact .inl ⟨_,rfl⟩
 ·exact .inr ⟨_,rfl⟩
theorem xH:ax ["prime","steps","inputs","rest","found","step"] ["prime","steps","inputs"] (ao fh):=⟨rfl,rfl,rfl,by decide +kernel,rfl,by decide +kernel,by decide +kernel⟩
theorem AW (F:Src K mg "_law_plain" "_law_plain" fh ["prime","steps","inputs"]) (B:Blt mg):Ok P w K mg base CX0 1 "_law_plain" ["prime","steps","inputs"] oJ:=by
 refine F.ok xH (fun vs H Q E h=>?_) (fun f d1 A outer s H vs Q E hr h=>?_)
 ·obtain ⟨a,b,p,n,ws,ss,is,inp,rfl,_⟩:=h
  rfl
 obtain ⟨a,ib,p,n,ws,ss,is,inp,rfl,hp,hn,ha,ba,d0,RR,bf,a7,IO,q⟩:=h
 have wl:ws.length=ss.length:=Paired.length ba
 have il:is.length=inp.length:=Paired.length a7
 have inl:inp.length≤10:=by rw [IO.len];omega
 refine ⟨_,(ah (b8 3 ["numbers"] [] xH.nd  (bn (pv 2)) rfl (fun C s0 H0 ex=>by exact (ar (i:=0) (show List.Nodup [("numbers":Str)] by decide +kernel) rfl (Or.inl rfl))) (fun C s0 H0 ex=>by exact bc) (fun C s0 H0 ex=>by exact (dS (fR K) rfl B.list wq (aa (pv 0) ac))))
  (ah (aB (i:=4) xH.nd rfl (Or.inl rfl) (bd ac))
  (ah (bX PassesOwn.never rfl (bn (pv 1)) (ar (i:=5) xH.nd rfl (Or.inl rfl))
   (ad (bg (aA bQ (aO aZ (pv 5) ae (fun _ _=>rfl)) aU (aI _))
   (ad (aW (dX vm vA vB bq (pv 4) (aa (dX vm PySem.F.slot_list_pop PySem.F.type_list_pop mt_popAt (aO aP (pv 3) (av bD (aO aZ (pv 5) ae (fun _ _=>rfl)) ae) (fun _ _=>rfl)) (aa ae ac)) ac))))
   (ad (bg (aA bQ (aO aZ (pv 5) ae (fun _ _=>rfl)) aU (aI _))
   (ad (aW (dX vm vA vB bq (pv 4) (aa (aO aZ (pv 5) ae (fun _ _=>rfl)) ac))))
   (ad (bg (aA bQ (aO aZ (pv 5) ae (fun _ _=>rfl)) aU (aI _))
   (ad (aW (dX vm vA vB bq (pv 4) (aa (av bh (av bY (aO aP (pv 4) (aO aZ (pv 5) ae (fun _ _=>rfl)) (fun _ _=>rfl)) (aO aZ (pv 5) ae (fun _ _=>rfl))) (pv 0)) ac))))
   (ad (bg (aA bQ (aO aZ (pv 5) ae (fun _ _=>rfl)) aU (aI _))
   (ad (aW (dX vm vA vB bq (pv 4) (aa (av bh (av bi (aO aP (pv 4) (aO aZ (pv 5) ae (fun _ _=>rfl)) (fun _ _=>rfl)) (aO aP (pv 4) (aO aZ (pv 5) ae (fun _ _=>rfl)) (fun _ _=>rfl))) (pv 0)) ac))))
   (ad (bg (aA bQ (aO aZ (pv 5) ae (fun _ _=>rfl)) aU (aI _))
   (ad (aW (dX vm vA vB bq (pv 4) (aa (av bh (av bD (aO aP (pv 4) (aO aZ (pv 5) ae (fun _ _=>rfl)) (fun _ _=>rfl)) (aO aP (pv 4) (aO aZ (pv 5) ae (fun _ _=>rfl)) (fun _ _=>rfl))) (pv 0)) ac))))
   (ad (bg (aA bQ (aO aZ (pv 5) ae (fun _ _=>rfl)) aU (aI _))
   (ad (aW (dX vm vA vB bq (pv 4) (aa (av bh (av bY (aO aP (pv 4) (aO aZ (pv 5) ae (fun _ _=>rfl)) (fun _ _=>rfl)) (aO aP (pv 4) (aO aZ (pv 5) ae (fun _ _=>rfl)) (fun _ _=>rfl))) (pv 0)) ac))))
   (ad (aW (dX vm vA vB bq (pv 4) (aa (aO aP (pv 4) (aO aZ (pv 5) ae (fun _ _=>rfl)) (fun _ _=>rfl)) ac)))))))))))))))))
  (ad (ay (pv 4)))))),?_⟩
 refine ⟨_,rfl,ib,rfl,⟨_,SqL.of bf⟩,fun R hR=>?_⟩
 refine bF (K:=K) (a:=ib) (xs:=is.map V.ref) (fun j ys H2=>Same H H2∧∃ O:List Addr,ys=O.map V.ref∧O.Nodup∧R∉O∧(∀ b∈O,H b=none)∧InsAt H2 O (inp.take j)) ⟨am (Same.refl _) hR,[],rfl,.nil,(fun h=>nomatch h),(fun b h=>nomatch h),.nil⟩ ?_ ?_ ?_
 ·rintro j ys H2 _ ⟨J,_⟩
  exact SqL.of (J _ _ bf)
 ·rintro j y ys H2 hy ⟨J,O,rfl,nd,a4,ap,Y⟩ Z
  obtain ⟨b,rfl,hb⟩:=cW hy
  obtain ⟨r,b5,cb⟩:=(a7.same J).get hb
  have al:O.length≤10:=by
   rw [Paired.length Y,vj]
   omega
  refine ⟨⟨rfl,rfl⟩,?_⟩
  refine ⟨_,rfl,b,_,rfl,.inl (SqL.of cb),fun d hd=>?_⟩
  have s3:=aj hd (.lst (r.map V.int))
  have cc:=Y.there hd
  have dR:d≠R:=fun e=>by rw [e,Z] at hd;cases hd
  have bm:R∉O++[d]:=fun h=>by
   rcases vr.mp h with h | h
   ·exact a4 h
   ·have e:R=d:=by simpa using h
    exact dR e.symm
  refine ⟨s3 _ _ Z,by rw [lH];exact au (by omega),am (J.trans s3) hR,O++[d],by rw [u6];rfl,eV nd cc,bm,fun b hb=>?_,?_⟩
  ·rcases vr.mp hb with h | h
   ·exact ap b h
   ·have e:b=d:=by simpa using h
    rw [e]
    exact J.free hd
  ·rw [← dh b5]
   exact InsAt.off (InsAt.snoc (Y.same s3) upd_same) bm
 rintro ys H1 ⟨s1,O,rfl,nd,a4,ap,ab⟩ bb
 rw [lH,il,vI] at ab
 have al:O.length=n.toNat:=by rw [Paired.length ab,IO.len]
 refine ⟨(by show 0≤sizeLine;decide),fun l hl=>?_⟩
 have a9:H l=none:=s1.free hl
 have a5:=ab.there hl
 have bl:R≠l:=aq bb hl
 have J:=aj hl (.lst [])
 refine ⟨_,rfl,a,rfl,⟨_,SqL.of (J _ _ (s1 _ _ ha))⟩,cR (K:=K) (a:=a) (xs:=ws) (fun i σ H2=>Same H H2∧∃ (rest:List (List Int)) (fd:List Int) (v5:Option V),σ=[some (.int p),some (.ref a),some (.ref ib),some (.ref R),some (.ref l),v5]∧H2 R=some (.lst (O.map V.ref))∧InsAt H2 O rest∧H2 l=some (.lst (fd.map V.int))∧PlSt p n ss inp i rest fd) ?_ ?_ ?_ ?_⟩
 ·exact ⟨s1.trans J,inp,[],none,rfl,J _ _ bb,ab.same J,upd_same,.start IO⟩
 ·rintro i σ H2 _ ⟨J,_⟩
  exact SqL.of (J _ _ ha)
 ·clear J
  rintro i y σ H2 hy ⟨J,rest,fd,v5,rfl,Z,Y,G,S⟩
  obtain ⟨b,z,rfl,hz,af⟩:=(ba.same J).get hy
  have I:=RR i z af
  have fl:=S.fl
  have hi:i<ss.length:=(u3.mp af).1
  have W:eY rest z=rest→∀ {v:Int},v=jh p rest fd z→Same H (upd H2 l (.lst (fd.map V.int++[.int v])))∧∃ (rest:List (List Int)) (fd':List Int) (v5:Option V),[some (.int p),some (.ref a),some (.ref ib),some (.ref R),some (.ref l),some (.ref b)]=[some (.int p),some (.ref a),some (.ref ib),some (.ref R),some (.ref l),v5]∧(upd H2 l (.lst (fd.map V.int++[.int v]))) R=some (.lst (O.map V.ref))∧InsAt (upd H2 l (.lst (fd.map V.int++[.int v]))) O rest∧(upd H2 l (.lst (fd.map V.int++[.int v]))) l=some (.lst (fd'.map V.int))∧PlSt p n ss inp (i+1) rest fd':=fun er v ev=>by
   have S':=S.next hp.1 af I
   rw [er,← ev] at S'
   refine ⟨am J a9,rest,_,_,rfl,?_,InsAt.off Y a5,?_,S'⟩
   ·rw [az bl]
    exact Z
   ·rw [upd_same,u6]
    rfl
  refine ⟨_,rfl,b,_,_,.str z.word,rfl,rfl,SqT.of hz,z.at0,rfl,_,rfl,?_⟩
  refine bB (fun c=>?_) (fun c0=>?_)
  ·obtain ⟨h,rfl⟩:=word_ein (V.str.inj (of_decide_eq_true c))
   have h1:=I.1
   have h2:=I.2
   have hk:(h - 1).toNat<O.length:=by rw [al];omega
   obtain ⟨e,he⟩:∃ e,O[(h - 1).toNat]?=some e:=⟨_,rz hk⟩
   obtain ⟨r0,cf,be⟩:=Y.get he
   obtain ⟨x,r,a6⟩:=S.head af h1 h2
   have er:r0=x::r:=by
    rw [← a6]
    unfold bU
    rw [nn,cf]
    rfl
   subst er
   have el:e≠l:=fun z=>a5 (by rw [← z];exact u4 he)
   have cp:atI (O.map V.ref) (h - 1)=some (.ref e):=by
    have q:atI (O.map V.ref) (((h - 1).toNat:Nat):Int)=some (.ref e):=kn (by rw [u5,he];rfl)
    rw [show (((h - 1).toNat:Nat):Int)=h - 1 by omega] at q
    exact q
   have cr:seqIndex? 0 ((x::r).map V.int).length=some 0:=(pe (j9 (k:=0) (by decide) (by rw [lH,vh];omega))).1
   have cl:(upd H2 e (.lst (((x::r).map V.int).eraseIdx 0))) l=some (.lst (fd.map V.int)):=by rw [az el.symm];exact G
   refine ⟨_,rfl,.inl ⟨rfl,_,SqL.of G⟩,_,rfl,_,rfl,b,_,_,.int h,rfl,rfl,SqT.of hz,rfl,_,_,rfl,rfl,R,_,_,.ref e,rfl,rfl,SqL.of Z,cp,.inl ⟨rfl,_,SqL.of be⟩,e,_,0,0,.int x,rfl,rfl,be,by decide,by decide,cr,rfl,l,_,_,rfl,rfl,cl,by rw [lH,fl];exact au (by omega),?_⟩
   have eR:e≠R:=fun z=>a4 (by rw [← z];exact u4 he)
   have S':=S.next hp.1 af I
   have ev:jh p rest fd (.ein h)=x:=by simp only [jh,a6,List.headD_cons]
   have es:eY rest (.ein h)=rest.set (h - 1).toNat r:=by simp only [eY,a6,List.tail_cons]
   rw [ev,es] at S'
   refine ⟨am (am J (ap e (u4 he))) a9,_,_,_,rfl,?_,?_,?_,S'⟩
   ·rw [az bl,az eR.symm]
    exact Z
   ·exact InsAt.off (InsAt.put (r:=r) Y nd he) a5
   ·rw [upd_same,u6]
    rfl
  refine ⟨_,rfl,b,_,_,.str z.word,rfl,rfl,SqT.of hz,z.at0,rfl,_,rfl,?_⟩
  refine bB (fun c=>?_) (fun c1=>?_)
  ·obtain ⟨x,rfl⟩:=word_fix (V.str.inj (of_decide_eq_true c))
   exact ⟨_,rfl,.inl ⟨rfl,_,SqL.of G⟩,_,rfl,b,_,_,.int x,rfl,rfl,SqT.of hz,rfl,l,_,_,rfl,rfl,G,by rw [lH,fl];exact au (by omega),W rfl rfl⟩
  refine ⟨_,rfl,b,_,_,.str z.word,rfl,rfl,SqT.of hz,z.at0,rfl,_,rfl,?_⟩
  refine bB (fun c=>?_) (fun c2=>?_)
  ·obtain ⟨U,x,rfl⟩:=word_bye (V.str.inj (of_decide_eq_true c))
   exact ⟨_,rfl,.inl ⟨rfl,_,SqL.of G⟩,_,rfl,_,rfl,b,_,_,.int U,rfl,rfl,SqT.of hz,rfl,l,_,_,.int (fd.getD U.toNat 0),rfl,rfl,SqL.of G,dr I.1.1 (by rw [fl];exact I.1.2),_,rfl,b,_,_,.int x,rfl,rfl,SqT.of hz,rfl,_,_,rfl,rfl,.inr ⟨by have:=I.2;omega,by have:=I.2;omega⟩,_,rfl,_,_,rfl,rfl,by omega,l,_,_,rfl,rfl,G,by rw [lH,fl];exact au (by omega),W rfl rfl⟩
  refine ⟨_,rfl,b,_,_,.str z.word,rfl,rfl,SqT.of hz,z.at0,rfl,_,rfl,?_⟩
  refine bB (fun c=>?_) (fun c3=>?_)
  ·obtain ⟨U,a2,rfl⟩:=word_sum (V.str.inj (of_decide_eq_true c))
   exact ⟨_,rfl,.inl ⟨rfl,_,SqL.of G⟩,_,rfl,_,rfl,b,_,_,.int U,rfl,rfl,SqT.of hz,rfl,l,_,_,.int (fd.getD U.toNat 0),rfl,rfl,SqL.of G,dr I.1.1 (by rw [fl];exact I.1.2),_,rfl,_,rfl,b,_,_,.int a2,rfl,rfl,SqT.of hz,rfl,l,_,_,.int (fd.getD a2.toNat 0),rfl,rfl,SqL.of G,dr I.2.1 (by rw [fl];exact I.2.2),_,_,rfl,rfl,_,rfl,_,_,rfl,rfl,by omega,l,_,_,rfl,rfl,G,by rw [lH,fl];exact au (by omega),W rfl rfl⟩
  refine ⟨_,rfl,b,_,_,.str z.word,rfl,rfl,SqT.of hz,z.at0,rfl,_,rfl,?_⟩
  refine bB (fun c=>?_) (fun c4=>?_)
  ·obtain ⟨U,a2,rfl⟩:=sC (V.str.inj (of_decide_eq_true c))
   exact ⟨_,rfl,.inl ⟨rfl,_,SqL.of G⟩,_,rfl,_,rfl,b,_,_,.int U,rfl,rfl,SqT.of hz,rfl,l,_,_,.int (fd.getD U.toNat 0),rfl,rfl,SqL.of G,dr I.1.1 (by rw [fl];exact I.1.2),_,rfl,_,rfl,b,_,_,.int a2,rfl,rfl,SqT.of hz,rfl,l,_,_,.int (fd.getD a2.toNat 0),rfl,rfl,SqL.of G,dr I.2.1 (by rw [fl];exact I.2.2),_,_,rfl,rfl,_,rfl,_,_,rfl,rfl,by omega,l,_,_,rfl,rfl,G,by rw [lH,fl];exact au (by omega),W rfl rfl⟩
  refine ⟨_,rfl,b,_,_,.str z.word,rfl,rfl,SqT.of hz,z.at0,rfl,_,rfl,?_⟩
  refine bB (fun c=>?_) (fun c5=>?_)
  ·obtain ⟨U,a2,rfl⟩:=word_mul (V.str.inj (of_decide_eq_true c))
   have gb:=iH S.fb I.1.1 (by rw [fl];exact I.1.2)
   exact ⟨_,rfl,.inl ⟨rfl,_,SqL.of G⟩,_,rfl,_,rfl,b,_,_,.int U,rfl,rfl,SqT.of hz,rfl,l,_,_,.int (fd.getD U.toNat 0),rfl,rfl,SqL.of G,dr I.1.1 (by rw [fl];exact I.1.2),_,rfl,_,rfl,b,_,_,.int a2,rfl,rfl,SqT.of hz,rfl,l,_,_,.int (fd.getD a2.toNat 0),rfl,rfl,SqL.of G,dr I.2.1 (by rw [fl];exact I.2.2),_,_,rfl,rfl,.inl ⟨by omega,by omega⟩,_,rfl,_,_,rfl,rfl,by omega,l,_,_,rfl,rfl,G,by rw [lH,fl];exact au (by omega),W rfl rfl⟩
  rcases sB (fun e=>c0 (decide_eq_true (congrArg V.str e))) (fun e=>c1 (decide_eq_true (congrArg V.str e))) (fun e=>c2 (decide_eq_true (congrArg V.str e))) (fun e=>c3 (decide_eq_true (congrArg V.str e))) (fun e=>c4 (decide_eq_true (congrArg V.str e))) (fun e=>c5 (decide_eq_true (congrArg V.str e))) with ⟨U,rfl⟩ | ⟨U,rfl⟩
  ·exact ⟨_,rfl,.inl ⟨rfl,_,SqL.of G⟩,_,rfl,_,rfl,b,_,_,.int U,rfl,rfl,SqT.of hz,rfl,l,_,_,.int (fd.getD U.toNat 0),rfl,rfl,SqL.of G,dr I.1 (by rw [fl];exact I.2),l,_,_,rfl,rfl,G,by rw [lH,fl];exact au (by omega),W rfl rfl⟩
  ·exact ⟨_,rfl,.inl ⟨rfl,_,SqL.of G⟩,_,rfl,_,rfl,b,_,_,.int U,rfl,rfl,SqT.of hz,rfl,l,_,_,.int (fd.getD U.toNat 0),rfl,rfl,SqL.of G,dr I.1 (by rw [fl];exact I.2),l,_,_,rfl,rfl,G,by rw [lH,fl];exact au (by omega),W rfl rfl⟩
 ·rintro σ H2 ⟨J,rest,fd,v5,rfl,Z,Y,G,S⟩
  rw [wl] at S
  rw [S.fin] at G
  exact ⟨_,rfl,q l H2 J a9 G⟩
end
section
variable {P:Program}{w:World}{K:PySem.W.Frag}{mg:Str→Option Value}{base:Heap}{C pa:Addr}
theorem xK:ax ["cell","table","without","hands","first"] ["cell","table","without"] (ao dC):=⟨rfl,rfl,rfl,by decide +kernel,rfl,by decide +kernel,by decide +kernel⟩
theorem rA (F:Src K mg "_law_some_by" "_law_some_by" dC ["cell","table","without"]) (B:Blt mg) (T:Tab K C):Ok P w K mg base CX0 1 "_law_some_by" ["cell","table","without"] (lI C):=by
 refine F.ok xK (fun vs H Q E h=>?_) (fun f c0 A outer s H vs Q E hr h=>?_)
 ·obtain ⟨t,a,c,p,n,f,wo,rfl,_⟩:=h
  rfl
 obtain ⟨t,a,c,p,n,f,wo,rfl,⟨dx,ht⟩,hf,hn,c5,ha,c6,q⟩:=h
 refine ⟨_,(ah (b8 3 ["hand"] [("without",2)] xK.nd  (eU rfl B.range (aa ae (aa (av bi (aH (pv 1) rfl) ae) ac))) rfl (fun C s0 H0 ex=>by exact (ar (i:=0) (show List.Nodup [("hand":Str),"without"] by decide +kernel) rfl (Or.inl rfl))) (fun C s0 H0 ex=>by exact (l7 (aA (mq K) (pv 0) (pv 1) rfl))) (fun C s0 H0 ex=>by exact (pv 0)))
  (ah (aB (i:=4) xK.nd rfl (Or.inl rfl) (av bh (av gT (pv 0) ae) (aK aG rfl B.len vE (aa (pv 3) ac))))
  (ah (bg (aA bQ (av bh (pv 0) ae) ae (aI _))
   (ad (ay (bd ac)))
   aJ)
  (ah (bg (PW.pt (kB (aA bQ (av bh (pv 0) ae) ae (aI _)) (kB (aA bQ (aH (pv 1) rfl) ae (aI _)) (iu (aA bQ (aK aG rfl B.len vE (aa (pv 3) ac)) ae (aI _))))))
   (ad (ay (bd (aa (aO aP (pv 3) (pv 4) (fun _ _=>rfl)) ac))))
   aJ)
  (ad (ay (aK oj rfl B.sorted PyProof.Rows.boot_sorted (aa (bd (aa (aO aP (pv 3) (pv 4) (fun _ _=>rfl)) (aa (aO aP (pv 3) (av bh (av bi (av bi (pv 4) ae) (av bh (av gT (pv 0) ae) (av bD (aK aG rfl B.len vE (aa (pv 3) ac)) ae))) (aK aG rfl B.len vE (aa (pv 3) ac))) (fun _ _=>rfl)) ac))) ac)))))))),?_⟩
 refine ⟨_,rfl,t,C,dx,_,_,rfl,ht,T.cl,T.nH,oy _ _ _,_,_,rfl,rfl,_,_,rfl,⟨by decide,by decide,by omega,by omega⟩,fun D hD=>?_⟩
 refine cE (fun i ys H2=>i≤n.toNat∧ys=(fS i wo).map V.int∧Same H H2) ⟨vk _,rfl,am (Same.refl _) hD⟩ ?_ ?_
 ·rintro i ys H2 hi ⟨_,rfl,J⟩ G
  have ap:=qj i wo
  refine ⟨⟨rfl,rfl⟩,?_⟩
  refine ⟨_,rfl,_,rfl,a,_,rfl,.inl (SqL.of (J _ _ ha)),rfl,gm wo,_,rfl,?_⟩
  refine bB (fun O=>?_) (fun O=>?_)
  ·have O:(!inV (.int (1+(i:Int))) (wo.map V.int))=true:=O
   rw [fM] at O
   refine ⟨_,rfl,G,by rw [lH];exact au (by omega),by omega,?_,am J hD⟩
   rw [iY,if_pos O,u6]
   rfl
  ·have O:¬ (!inV (.int (1+(i:Int))) (wo.map V.int))=true:=O
   rw [fM] at O
   refine ⟨G,by omega,?_,J⟩
   rw [iY,if_neg O,vT]
 rintro ys H2 ⟨_,rfl,J⟩ G
 rw [show (n+1 - 1).toNat=n.toNat by omega] at G
 have af:=rO n.toNat wo
 have ap:=qj n.toNat wo
 have Y:=ur (n:=n.toNat) (wo:=wo)
 have an:=kW n.toNat wo
 generalize fS n.toNat wo=hs at G af ap Y an
 have ba:=J _ _ ht
 have U:0<((hs.map V.int).length:Int):=by rw [lH];omega
 have one:∀ x∈hs,uV n f wo [x]:=fun x hx=>⟨List.pairwise_singleton _ _,fun y hy=>by
  have e:y=x:=by simpa using hy
  have:=Y x hx
  rw [e]
  exact ⟨this.1,by omega,this.2.2⟩,by show (1:Int)≤f;omega⟩
 refine ⟨_,rfl,_,_,rfl,rfl,⟨by decide,by decide⟩,_,rfl,D,_,rfl,.inl (SqL.of G),_,_,rfl,rfl,U,?_⟩
 have f0:=vC (c / 3) (show ((hs.map V.int).length:Int)≠0 by omega)
 have f1:=vw (c / 3) U
 dsimp only
 generalize c / 3%((hs.map V.int).length:Int)=fi at f0 f1
 rw [lH] at f1 U
 obtain ⟨I,al,ab⟩:=int_at f0 f1
 have Z:I∈hs:=u4 al
 refine ⟨_,rfl,_,_,rfl,rfl,(by show (0:Int)<3;decide),rfl,_,rfl,?_⟩
 refine bB (fun O=>?_) (fun O=>?_)
 ·exact ⟨(by show 0≤sizeLine;decide),fun l hl=>q l _ [] (J.trans (aj hl _)) (J.free hl) upd_same ⟨.nil,(fun h hm=>nomatch hm),by show (0:Int)≤f;omega⟩⟩
 have ct:∃ v,(some (V.ref D))=some v∧∃ v2,(some (V.int fi))=some v2∧True:=⟨_,rfl,_,rfl,trivial⟩
 refine ⟨_,rfl,_,_,rfl,rfl,(by show (0:Int)<3;decide),rfl,_,rfl,?_⟩
 refine bB (fun c2=>?_) (fun c2=>?_)
 ·refine oA ⟨_,rfl,_,rfl,D,_,_,.int I,rfl,rfl,SqL.of G,ab,(by show 1≤sizeLine;decide),fun l hl=>?_⟩
  exact q l _ [I] (J.trans (aj hl _)) (J.free hl) upd_same (one I Z)
 refine ⟨_,rfl,t,C,dx,_,_,rfl,ba,T.cl,T.nF,tf_f _ _ _,rfl,_,rfl,?_⟩
 refine bB (fun c3=>?_) (fun c3=>?_)
 ·refine oA ⟨_,rfl,_,rfl,D,_,_,.int I,rfl,rfl,SqL.of G,ab,(by show 1≤sizeLine;decide),fun l hl=>?_⟩
  exact q l _ [I] (J.trans (aj hl _)) (J.free hl) upd_same (one I Z)
 have bm:¬ V.int f=V.int 1:=of_decide_eq_false (vq.mpr c3)
 have f2:f=2:=by
  rcases hf with h | h
  ·exact absurd (by rw [h]) bm
  ·exact h
 refine ⟨_,rfl,D,_,rfl,.inl (SqL.of G),rfl,_,rfl,?_⟩
 refine bB (fun c4=>?_) (fun c4=>?_)
 ·refine ⟨_,rfl,_,rfl,D,_,_,.int I,rfl,rfl,SqL.of G,ab,(by show 1≤sizeLine;decide),fun l hl=>?_⟩
  exact q l _ [I] (J.trans (aj hl _)) (J.free hl) upd_same (one I Z)
 have h3:3≤hs.length:=by omega
 have ai:0<((hs.map V.int).length:Int) - 1:=by rw [lH];omega
 have W:0<((hs.map V.int).length:Int):=by rw [lH];omega
 have d0:=vC (c / 50) (show ((hs.map V.int).length:Int) - 1≠0 by omega)
 have d1:=vw (c / 50) ai
 have e0:=vC (fi+1+c / 50%(((hs.map V.int).length:Int) - 1)) (show ((hs.map V.int).length:Int)≠0 by omega)
 have e1:=vw (fi+1+c / 50%(((hs.map V.int).length:Int) - 1)) W
 have ne:(fi+1+c / 50%(((hs.map V.int).length:Int) - 1))%((hs.map V.int).length:Int)≠fi:=fun z=>by
  generalize c / 50%(((hs.map V.int).length:Int) - 1)=dd at d0 d1 z
  rw [lH] at d1 z
  by_cases a5:fi+1+dd<(hs.length:Int)
  ·rw [vO (by omega) a5] at z
   omega
  ·rw [← Int.sub_emod_right,vO (by omega) (by omega)] at z
   omega
 obtain ⟨R,ag,bb⟩:=int_at e0 (by rw [lH] at e1;rw [lH];exact e1)
 have b0:R∈hs:=u4 ag
 have bf:I≠R:=fun z=>by
  subst z
  obtain ⟨b1,g1⟩:=u3.mp al
  obtain ⟨b2,g2⟩:=u3.mp ag
  have nd:hs.Nodup:=an.imp fun h=>by omega
  have:=(List.getElem_inj (h₀:=b1) (h₁:=b2) nd).mp (by rw [g1,g2])
  omega
 refine ⟨_,rfl,_,rfl,D,_,_,.int I,rfl,rfl,SqL.of G,ab,_,rfl,_,rfl,_,_,rfl,rfl,_,rfl,_,_,rfl,rfl,⟨by decide,by decide⟩,_,rfl,D,_,rfl,.inl (SqL.of G),_,_,rfl,rfl,_,_,rfl,rfl,ai,_,_,rfl,rfl,_,rfl,D,_,rfl,.inl (SqL.of G),_,_,rfl,rfl,W,D,_,_,.int R,rfl,rfl,SqL.of G,bb,(by show 2≤sizeLine;decide),fun l hl=>?_⟩
 refine ⟨l,[I,R],rfl,SqL.of upd_same,(by show 2<64;decide),fun sp ms pm pw as=>?_⟩
 have s3:=J.trans (aj hl (.lst [.int I,.int R]))
 refine q sp _ ms (s3.trans (aj as _)) (s3.free as) upd_same ⟨?_,fun y hy=>?_,by rw [pm.length_eq,f2];show (2:Int)≤2;decide⟩
 ·have a7:ms.Nodup:=pm.symm.nodup (by simp [bf])
  exact (pw.and a7).imp fun h=>by omega
 ·have:=pm.mem_iff.mp hy
  have bz:y=I∨y=R:=by simpa using this
  rcases bz with e | e<;>rw [e]
  ·have:=Y I Z
   exact ⟨this.1,by omega,this.2.2⟩
  ·have:=Y R b0
   exact ⟨this.1,by omega,this.2.2⟩
end
section
variable {P:Program}{w:World}{K:PySem.W.Frag}{mg:Str→Option Value}{base:Heap}{C pa:Addr}
theorem xI:ax ["prime","steps","inputs","others","some","hand","ones","twos"] ["prime","steps","inputs","others","some"] (ao fk):=⟨rfl,rfl,rfl,by decide +kernel,rfl,by decide +kernel,by decide +kernel⟩
theorem AX (F:Src K mg "_law_agree" "_law_agree" fk ["prime","steps","inputs","others","some"]) (B:Blt mg) (xA:Ok P w K mg base CX0 1 "_law_used" ["steps","hand"] mW) (yp:Ok P w K mg base CX0 1 "_law_plain" ["prime","steps","inputs"] oJ):Ok P w K mg base CX0 2 "_law_agree" ["prime","steps","inputs","others","some"] oP:=by
 refine F.ok xI (fun vs H Q E h=>?_) (fun f c6 A outer s H vs Q E hr h=>?_)
 ·obtain ⟨a,b,d,e,p,n,Z,ss,is,os,inp,oth,sm,rfl,_⟩:=h
  rfl
 obtain ⟨a,ib,od,e,p,n,Z,ss,is,os,inp,oth,sm,rfl,hp,hn,ha,R,ab,RR,a6,a3,IO,a4,a7,OO,he,cf,q⟩:=h
 have wl:Z.length=ss.length:=Paired.length R
 refine ⟨_,(ah (bX PassesOwn.never rfl (bn (pv 4)) (ar (i:=5) xI.nd rfl (Or.inl rfl))
   (ad (bg (aA (op_neL (hr.units)) (df e9 (aO aP (pv 2) (av bD (pv 5) ae) (fun _ _=>rfl)) fD (dQ (ak xA hr rfl (aa (pv 1) (aa (pv 5) ac))))) (df e9 (aO aP (pv 3) (av bD (pv 5) ae) (fun _ _=>rfl)) fD (dQ (ak xA hr rfl (aa (pv 1) (aa (pv 5) ac))))) (aI _))
   (ad (ay gS))
   aJ)))
  (ah (aB (i:=6) xI.nd rfl (Or.inr rfl) (ak yp hr rfl (aa (pv 0) (aa (pv 1) (aa (pv 2) ac)))))
  (ah (aB (i:=7) xI.nd rfl (Or.inr rfl) (ak yp hr rfl (aa (pv 0) (aa (pv 1) (aa (pv 3) ac)))))
  (ad (ay (aK (gr rfl) rfl B.all wR (aa (bw ["at","step"] [("ones",6),("twos",7)]  (mm rfl B.enumerate (aa (pv 1) ac)) rfl (fun C s0 H0 ex=>by exact (eJ K 2 rfl (aE (ar (i:=0) (show List.Nodup [("at":Str),"step","ones","twos"] by decide +kernel) rfl (Or.inl rfl)) (aE (ar (i:=1) (show List.Nodup [("at":Str),"step","ones","twos"] by decide +kernel) rfl (Or.inl rfl)) bM)))) (fun C s0 H0 ex=>by exact bc) (fun C s0 H0 ex=>by exact (pe_or (gi oU (aO (iX K) (pv 1) ae (fun _ _=>rfl)) aU (aI _)) (p9 (gi bQ (aO (iF K) (pv 2) (pv 0) (fun _ _=>rfl)) (aO (iF K) (pv 3) (pv 0) (fun _ _=>rfl)) (aI _)))))) ac))))))),?_⟩
 refine ⟨_,rfl,e,rfl,⟨_,SqL.of he⟩,cR (K:=K) (a:=e) (xs:=sm.map V.int) (fun i σ H2=>Same H H2∧(sm.take i).all (gd ss inp oth)=true∧∃ v5:Option V,σ=[some (.int p),some (.ref a),some (.ref ib),some (.ref od),some (.ref e),v5,none,none]) ⟨Same.refl _,by simp,none,rfl⟩ ?_ ?_ ?_⟩
 ·rintro i σ H2 _ ⟨G,_⟩
  exact SqL.of (G _ _ he)
 ·rintro i y σ H2 hy ⟨G,U,v5,rfl⟩
  obtain ⟨h,rfl,hh⟩:=br hy
  have hb:=cf h (u4 hh)
  obtain ⟨e1,b5,_,z1⟩:=gU (a3.same G) IO.len hb.1 hb.2
  refine ⟨_,rfl,_,rfl,_,_,rfl,rfl,ib,_,_,.ref e1,rfl,rfl,SqL.of (G _ _ a6),b5,_,rfl,_,rfl,a,h,Z,ss,rfl,G _ _ ha,R.same G,ab,fun H3 s3=>⟨(aS ss h:Int),rfl,e1,_,rfl,SqL.of (s3 _ _ z1),fun o1 cl=>?_⟩⟩
  rw [took]
  have s4:=aj cl (.lst (((bU inp h).take (aS ss h)).map V.int))
  have a5:(upd H3 o1 (.lst (((bU inp h).take (aS ss h)).map V.int))) o1=some (.lst (((bU inp h).take (aS ss h)).map V.int)):=upd_same
  generalize upd H3 o1 (.lst (((bU inp h).take (aS ss h)).map V.int))=H4 at s4 a5
  have O:=G.trans (s3.trans s4)
  obtain ⟨e2,cc,_,z2⟩:=gU (a7.same O) OO.len hb.1 hb.2
  refine ⟨_,rfl,_,rfl,_,_,rfl,rfl,od,_,_,.ref e2,rfl,rfl,SqL.of (O _ _ a4),cc,_,rfl,_,rfl,a,h,Z,ss,rfl,O _ _ ha,R.same O,ab,fun H5 I=>⟨(aS ss h:Int),rfl,e2,_,rfl,SqL.of (I _ _ z2),fun o2 bx=>?_⟩⟩
  rw [took]
  have J:=aj bx (.lst (((bU oth h).take (aS ss h)).map V.int))
  refine ⟨o1,o2,_,_,rfl,rfl,SqL.of (J _ _ (I _ _ a5)),SqL.of upd_same,_,rfl,?_⟩
  have g6:=O.trans (I.trans J)
  refine bB (fun c=>?_) (fun c=>?_)
  ·have ne:gd ss inp oth h=false:=by
    unfold gd
    refine decide_eq_false fun z=>?_
    rw [z] at c
    simp at c
   have ag:kq p ss inp oth sm=false:=by
    unfold kq
    rw [show sm.all (gd ss inp oth)=false from by
     rw [vq]
     intro z
     have:=vv.mp z h (u4 hh)
     rw [ne] at this
     cases this]
    rfl
   have:=q _ g6
   rw [ag] at this
   exact this
  ·refine ⟨g6,?_,_,rfl⟩
   rw [← dh hh,List.all_append,U]
   have eq:gd ss inp oth h=true:=by
    unfold gd
    refine decide_eq_true (Classical.byContradiction fun z=>c ?_)
    simp [z]
   simp [eq]
 rintro σ H2 ⟨G,U,v5,rfl⟩
 rw [lH,vI] at U
 refine ⟨_,rfl,_,rfl,_,rfl,a,ib,p,n,Z,ss,is,inp,rfl,hp,hn,G _ _ ha,R.same G,ab,RR,G _ _ a6,a3.same G,IO,fun o1 H3 s3 c5 cp=>?_⟩
 have g3:=G.trans s3
 refine ⟨_,rfl,_,rfl,_,rfl,a,od,p,n,Z,ss,os,oth,rfl,hp,hn,g3 _ _ ha,R.same g3,ab,RR,g3 _ _ a4,a7.same g3,OO,fun o2 H4 s4 c4 cb=>?_⟩
 have O:=g3.trans s4
 have bz:=s4 _ _ cp
 have l1:=jT p ss inp
 have l2:=jT p ss oth
 refine ⟨_,rfl,a,_,rfl,SqL.of (O _ _ ha),fun D hD=>?_⟩
 refine n9 (K:=K) (a:=a) (xs:=Z) (k0:=0) (fun i ys H5=>ys=(dq p ss inp oth (ss.take i) 0).map V.bl∧Same H4 H5) ⟨rfl,am (Same.refl _) hD⟩ ?_ ?_ ?_
 ·rintro i ys H5 ⟨_,I⟩
  exact SqL.of (I _ _ (O _ _ ha))
 ·rintro i y ys H5 c hy ⟨rfl,I⟩ W hc
  obtain ⟨b,z,rfl,hz,a2⟩:=(R.same (O.trans I)).get hy
  have hi:i<ss.length:=(u3.mp a2).1
  have J:=aj hc (.tup [.int ((0+i:Nat):Int),.ref b])
  have ot:=kT (p:=p) (ss:=ss) (inp:=inp) (oth:=oth) ss 0 i z a2
  have yl:(dq p ss inp oth (ss.take i) 0).length≤100:=by rw [ny,vj];omega
  refine ⟨c,_,rfl,SqT.of upd_same,rfl,_,_,rfl,_,_,rfl,rfl,⟨rfl,rfl⟩,?_⟩
  have fin:∀ v:Bool,v=eA p ss inp oth (0+i) z→(dq p ss inp oth (ss.take i) 0).map V.bl++[V.bl v]=(dq p ss inp oth (ss.take (i+1)) 0).map V.bl:=fun v e=>by
   rw [ot,u6,e]
   rfl
  refine ⟨_,rfl,b,_,_,.str z.word,rfl,rfl,SqT.of (J _ _ hz),z.at0,rfl,_,rfl,?_⟩
  refine bB (fun Y=>?_) (fun Y=>?_)
  ·have Y:(!decide (V.str z.word=V.str "open"))=true:=Y
   have nw:¬ z.word="open":=fun e=>by rw [e] at Y;simp at Y
   refine ⟨J _ _ W,by rw [lH];exact au (by omega),fin true ?_,am (I.trans J) hD⟩
   unfold eA
   rw [decide_eq_false nw]
   rfl
  ·have Y:¬ (!decide (V.str z.word=V.str "open"))=true:=Y
   have yw:z.word="open":=Classical.byContradiction fun e=>Y (by
    have:¬ V.str z.word=V.str "open":=fun h=>e (by injection h)
    rw [decide_eq_false this]
    rfl)
   refine ⟨_,rfl,_,rfl,o1,_,_,.int ((aD p ss inp).getD i 0),rfl,rfl,SqL.of (J _ _ (I _ _ bz)),?_,_,rfl,_,rfl,o2,_,_,.int ((aD p ss oth).getD i 0),rfl,rfl,SqL.of (J _ _ (I _ _ cb)),?_,rfl,J _ _ W,by rw [lH];exact au (by omega),fin _ ?_,am (I.trans J) hD⟩
   ·have:=dr (fd:=aD p ss inp) (a:=((0+i:Nat):Int)) (by omega) (by omega)
    rw [this]
    simp
   ·have:=dr (fd:=aD p ss oth) (a:=((0+i:Nat):Int)) (by omega) (by omega)
    rw [this]
    simp
   ·unfold eA
    rw [decide_eq_true yw,Nat.zero_add]
    simp
 rintro ys H5 ⟨rfl,I⟩ W
 rw [wl,vI] at W
 refine ⟨D,_,rfl,SqL.of W,?_⟩
 have:=q H5 (O.trans I)
 unfold kq at this
 rw [U,Bool.true_and] at this
 exact this
end
section
variable {P:Program}{w:World}{K:PySem.W.Frag}{mg:Str→Option Value}{base:Heap}{C pa:Addr}
theorem wY:ax ["script","table","many","way","one","two","steps","without","head","some","inputs","others","hand","taken","place","far","near","first","second"] ["script","table","many"] (ao dD):=⟨rfl,rfl,rfl,by decide +kernel,rfl,by decide +kernel,by decide +kernel⟩
theorem rB (F:Src K mg "_law_pair_by" "_law_pair_by" dD ["script","table","many"]) (B:Blt mg) (T:Tab K C) (wZ:Ok P w K mg base CX0 1 "_law_cell_at" ["script","k"] (m4 K)) (xO:Ok P w K mg base CX0 2 "_law_step_by" ["cell","at","table"] (jw C)) (yD:Ok P w K mg base CX0 3 "_law_steps_by" ["script","start","many","table"] (jL K C)) (yq:Ok P w K mg base CX0 1 "_law_quiet" ["steps"] oI)
  (yH:Ok P w K mg base CX0 1 "_law_some_by" ["cell","table","without"] (lI C)) (xV:Ok P w K mg base CX0 2 "_law_inputs_by" ["cell","steps","table"] (iM C)) (xA:Ok P w K mg base CX0 1 "_law_used" ["steps","hand"] mW):Ok P w K mg base CX0 4 "_law_pair_by" ["script","table","many"] (oK K C):=by
 refine F.ok wY (fun vs H Q E h=>?_) (fun f qs A outer s H vs Q E hr h=>?_)
 ·obtain ⟨a,t,I,m,p,n,f,rfl,_⟩:=h
  rfl
 obtain ⟨a,t,I,m,p,n,f,rfl,hS,T1,hp,hf,hn,na,hm,q⟩:=h
 have p5:=jc hp
 have p0:0<p:=by omega
 have ap:0<n:=by omega
 have j1:0≤n:=by omega
 have j0:0≤n∧n≤10:=by omega
 have l3:p≠0:=by omega
 obtain ⟨dx,ht⟩:=id T1
 refine aw (aB (i:=3) wY.nd rfl (Or.inl rfl) (av bh (ak wZ hr rfl (aa (pv 0) (aa ae ac))) ae)) fun u G=>?_
 refine ⟨_,rfl,a,I,1,rfl,hS,by decide,fun H1 s1=>⟨_,_,rfl,rfl,(by show (0:Int)<4;decide),G _ _ ?_⟩⟩
 refine aw (aB (i:=4) wY.nd rfl (Or.inl rfl) (av bi ae (av bh (av gT (ak wZ hr rfl (aa (pv 0) (aa ae ac))) ae) (aH (pv 1) rfl)))) fun u G=>?_
 refine ⟨_,rfl,a,I,1,rfl,s1.seq hS,by decide,fun H2 s2=>⟨_,_,rfl,rfl,⟨by decide,by decide⟩,_,rfl,t,C,dx,_,_,rfl,s2 _ _ (s1 _ _ ht),T.cl,T.nH,oy _ _ _,_,_,rfl,rfl,ap,_,_,rfl,rfl,G _ _ ?_⟩⟩
 have g2:=s1.trans s2
 refine aw (aB (i:=5) wY.nd rfl (Or.inl rfl) (av bi ae (av bh (av gT (ak wZ hr rfl (aa (pv 0) (aa ae ac))) ae) (aH (pv 1) rfl)))) fun u G=>?_
 refine ⟨_,rfl,a,I,1,rfl,g2.seq hS,by decide,fun H3 s3=>⟨_,_,rfl,rfl,⟨by decide,by decide⟩,_,rfl,t,C,dx,_,_,rfl,s3 _ _ (g2 _ _ ht),T.cl,T.nH,oy _ _ _,_,_,rfl,rfl,ap,_,_,rfl,rfl,G _ _ ?_⟩⟩
 have g3:=g2.trans s3
 have w0:=vC (cg I 1) (show (4:Int)≠0 by decide)
 have w4:=vw (cg I 1) (show (0:Int)<4 by decide)
 have o0:=vC (cg I 1 / 4) (Int.ne_of_gt ap)
 have o1:=vw (cg I 1 / 4) ap
 have u0:=vC (cg I 1 / 32) (Int.ne_of_gt ap)
 have u1:=vw (cg I 1 / 32) ap
 dsimp only
 generalize cg I 1%4=way at w0 w4
 obtain ⟨one,fw⟩:∃ one,1+cg I 1 / 4%n=one:=⟨_,rfl⟩
 obtain ⟨two,gb⟩:∃ two,1+cg I 1 / 32%n=two:=⟨_,rfl⟩
 rw [fw,gb]
 have b1:1≤one∧one≤n:=by omega
 have b2:1≤two∧two≤n:=by omega
 clear fw gb o0 o1 u0 u1
 refine aw (aB (i:=6) wY.nd rfl (Or.inl rfl) (ak yD hr rfl (aa (pv 0) (aa ae (aa (pv 2) (aa (pv 1) ac)))))) fun u G=>?_
 refine ⟨_,rfl,_,rfl,_,rfl,a,t,I,10,_,p,n,f,rfl,g3.seq hS,by decide,by omega,by omega,T1.same g3,p0,ap,fun sa H4 ws s4 k2 ck a8=>G _ _ ?_⟩
 have g4:=g3.trans s4
 rw [show ((m:Int)).toNat=m by omega] at a8
 have rs:eF p n (eG I 10 m p n):=lD p0 ap
 have rl:(eG I 10 m p n).length=m:=by unfold eG;rw [lH,vo]
 generalize eG I 10 m p n=ss at a8 rs rl
 refine aw (aB (i:=7) wY.nd rfl (Or.inl rfl) (bd ac)) fun u G=>?_
 refine ⟨(by show 0≤sizeLine;decide),fun wa c0=>G _ _ ?_⟩
 have s5:=aj c0 (.lst [])
 have ed:(upd H4 wa (.lst [])) wa=some (.lst []):=upd_same
 generalize upd H4 wa (.lst [])=H5 at s5 ed
 have g5:=g4.trans s5
 refine aw (mf (bg (aA gk (pv 3) (ci (aa ae (aa ae ac))) rfl)
   pX
   aJ)) fun u G=>?_
 refine ⟨JP1 H p n (m+4) a t (m:Int) way one two,?_,?_⟩
 ·refine ⟨_,rfl,(by show 2≤sizeLine;decide),fun tw ms=>⟨tw,_,rfl,.inr (SqT.of upd_same),rfl,by decide,_,rfl,?_⟩⟩
  have s6:=aj ms (.tup [.int 1,.int 2])
  generalize upd H5 tw (.tup [.int 1,.int 2])=H6 at s6
  have g6:=g5.trans s6
  refine bB (fun c1=>?_) (fun c1=>?_)
  ·have c1:inV (.int way) ([1,2].map V.int)=true:=c1
   rw [fM] at c1
   have c1:way=1∨way=2:=by simpa using c1
   refine aw (aB (i:=8) wY.nd rfl (Or.inl rfl) (bd (aa (ci (aa aU (aa (pv 4) ac))) (aa (ci (aa aU (aa (pv 5) ac))) (aa (ci (aa (aO aP (bd (aa aU (aa aU ac))) (av bD (pv 3) ae) (fun _ _=>rfl)) (aa ae (aa ae ac)))) (aa (ci (aa aU (aa ae ac))) ac)))))) fun u G=>?_
   refine ⟨_,rfl,(by show 2≤sizeLine;decide),fun W m6=>?_⟩
   have q1:=aj m6 (.tup [.str "in",.int one])
   have z1:(upd H6 W (.tup [.str "in",.int one])) W=some (.tup (Stp.ein one).vs):=upd_same
   generalize upd H6 W (.tup [.str "in",.int one])=H7 at q1 z1
   refine ⟨_,rfl,(by show 2≤sizeLine;decide),fun Z no=>?_⟩
   have q2:=aj no (.tup [.str "in",.int two])
   have z2:(upd H7 Z (.tup [.str "in",.int two])) Z=some (.tup (Stp.ein two).vs):=upd_same
   generalize upd H7 Z (.tup [.str "in",.int two])=H8 at q2 z2
   have ls:∃ x,atI [V.str "sum",V.str "mul"] (way - 1)=some (.str x)∧[V.str x,V.int 0,V.int 1]=(if way=1 then Stp.sum 0 1 else Stp.mul 0 1).vs:=by
    rcases c1 with e | e<;>rw [e]
    ·exact ⟨"sum",rfl,rfl⟩
    ·exact ⟨"mul",rfl,rfl⟩
   obtain ⟨wx,m0,lx⟩:=ls
   refine ⟨(by show 2≤sizeLine;decide),fun l hl=>⟨_,rfl,_,_,rfl,rfl,l,_,_,.str wx,rfl,rfl,SqL.of upd_same,m0,(by show 3≤sizeLine;decide),fun Y nz=>?_⟩⟩
   have q3:=(aj hl (.lst [.str "sum",.str "mul"])).trans (aj nz (.tup [.str wx,.int 0,.int 1]))
   have z3:(upd (upd H8 l (.lst [.str "sum",.str "mul"])) Y (.tup [.str wx,.int 0,.int 1])) Y=some (.tup (if way=1 then Stp.sum 0 1 else Stp.mul 0 1).vs):=by rw [upd_same,lx]
   generalize upd (upd H8 l (.lst [.str "sum",.str "mul"])) Y (.tup [.str wx,.int 0,.int 1])=H9 at q3 z3
   refine ⟨(by show 2≤sizeLine;decide),fun U n7=>?_⟩
   have q4:=aj n7 (.tup [.str "open",.int 2])
   have z4:(upd H9 U (.tup [.str "open",.int 2])) U=some (.tup (Stp.opn 2).vs):=upd_same
   generalize upd H9 U (.tup [.str "open",.int 2])=e8 at q4 z4
   refine ⟨(by show 4≤sizeLine;decide),fun hA mu=>?_⟩
   have q5:=aj mu (.lst [V.ref W,V.ref Z,V.ref Y,V.ref U])
   have zA:(upd e8 hA (.lst [V.ref W,V.ref Z,V.ref Y,V.ref U])) hA=some (.lst [V.ref W,V.ref Z,V.ref Y,V.ref U]):=upd_same
   have iz:StpsAt (upd e8 hA (.lst [V.ref W,V.ref Z,V.ref Y,V.ref U])) [V.ref W,V.ref Z,V.ref Y,V.ref U] (headL way one two) :=
    .cons ⟨W,rfl,q5 _ _ (q4 _ _ (q3 _ _ (q2 _ _ z1)))⟩ (.cons ⟨Z,rfl,q5 _ _ (q4 _ _ (q3 _ _ z2))⟩ (.cons ⟨Y,rfl,q5 _ _ (q4 _ _ z3)⟩ (.cons ⟨U,rfl,q5 _ _ z4⟩ .nil)))
   have ba:=g6.trans (q1.trans (q2.trans (q3.trans (q4.trans q5))))
   generalize upd e8 hA (.lst [V.ref W,V.ref Z,V.ref Y,V.ref U])=co at q5 zA iz ba
   refine G _ _ ?_
   refine aw (aB (i:=6) wY.nd rfl (Or.inl rfl) (av gJ (pv 8) (bw ["k"] [("table",1),("script",0)]  (gg rfl B.range (aa (pv 2) ac)) rfl (fun C s0 H0 ex=>by exact (ar (i:=0) (show List.Nodup [("k":Str),"table","script"] by decide +kernel) rfl (Or.inl rfl))) (fun C s0 H0 ex=>by exact bc) (fun C s0 H0 ex=>by exact (ak xO hr rfl (aa (ak wZ hr rfl (aa (pv 2) (aa (av bi ae (pv 0)) ac))) (aa (av bi (pv 0) ae) (aa (pv 1) ac)))))))) fun u G=>?_
   refine ⟨_,rfl,_,rfl,(m:Int),rfl,by omega,by omega,fun D hD=>?_⟩
   refine cE (fun i ys bl=>i≤m∧StpsAt bl ys (j6 I p n i)∧Same co bl) ⟨vk _,.nil,am (Same.refl _) hD⟩ ?_ ?_
   ·rintro i ys bl hi ⟨_,a6,a9⟩ ep
    have yl:ys.length=i:=by rw [Paired.length a6];unfold j6;rw [lH,vo]
    refine ⟨⟨rfl,rfl⟩,?_⟩
    refine ⟨_,rfl,_,rfl,_,_,rfl,rfl,a,I,_,rfl,(ba.trans a9).seq hS,by omega,fun af J=>?_⟩
    refine ⟨_,rfl,_,_,rfl,rfl,_,rfl,t,_,_,p,n,f,rfl,T1.same (ba.trans (a9.trans J)),p0,ap,by omega,fun d cx O px lb=>?_⟩
    have ez:=J.trans O
    refine ⟨ez _ _ ep,au (by omega),by omega,?_,am (a9.trans ez) hD⟩
    unfold j6 at a6 ⊢
    rw [← map_take]
    refine StpsAt.upd (ez _ _ ep) (StpsAt.snoc (a6.same ez) ?_)
    rw [lb,wP]
   rintro ys bl ⟨_,a6,a9⟩ k7
   rw [show ((m:Int)).toNat=m by omega] at a6
   have yl:ys.length=m:=by rw [Paired.length a6];unfold j6;rw [lH,vo]
   have ml:(j6 I p n m).length=m:=by unfold j6;rw [lH,vo]
   refine ⟨hA,D,_,_,rfl,rfl,a9 _ _ zA,k7,small (by show 4+ys.length≤1000;omega),fun o1 ho=>?_⟩
   have J:=aj ho (.lst ([V.ref W,V.ref Z,V.ref Y,V.ref U]++ys))
   have zo:(upd bl o1 (.lst ([V.ref W,V.ref Z,V.ref Y,V.ref U]++ys))) o1=some (.lst ([V.ref W,V.ref Z,V.ref Y,V.ref U]++ys)):=upd_same
   generalize upd bl o1 (.lst ([V.ref W,V.ref Z,V.ref Y,V.ref U]++ys))=af at J zo
   refine G _ _ ?_
   refine aw (aB (i:=6) wY.nd rfl (Or.inl rfl) (av gJ (pv 8) (ak yq hr rfl (aa (df e9 (pv 6) (dQ ae) fD) ac)))) fun u G=>?_
   refine ⟨_,rfl,_,rfl,((4:Nat):Int),rfl,o1,_,rfl,SqL.of zo,fun o2 ga=>?_⟩
   rw [jE]
   have O:=aj ga (.lst (([V.ref W,V.ref Z,V.ref Y,V.ref U]++ys).drop 4))
   have j2:(upd af o2 (.lst (([V.ref W,V.ref Z,V.ref Y,V.ref U]++ys).drop 4))) o2=some (.lst ys):=upd_same
   generalize upd af o2 (.lst (([V.ref W,V.ref Z,V.ref Y,V.ref U]++ys).drop 4))=cx at O j2
   have ev:=a9.trans (J.trans O)
   refine ⟨o2,ys,j6 I p n m,rfl,j2,a6.same (J.trans O),by omega,fun D2 bz cu ag oc ep f4=>?_⟩
   have a2:=ev.trans ag
   have q6:cu.length=m:=by rw [Paired.length f4,lH];exact ml
   refine ⟨hA,D2,_,_,rfl,rfl,a2 _ _ zA,ep,small (by show 4+cu.length≤1000;omega),fun o3 ej=>?_⟩
   have bf:=aj ej (.lst ([V.ref W,V.ref Z,V.ref Y,V.ref U]++cu))
   have di:(upd bz o3 (.lst ([V.ref W,V.ref Z,V.ref Y,V.ref U]++cu))) o3=some (.lst ([V.ref W,V.ref Z,V.ref Y,V.ref U]++cu)):=upd_same
   generalize upd bz o3 (.lst ([V.ref W,V.ref Z,V.ref Y,V.ref U]++cu))=H16 at bf di
   refine G _ _ ?_
   refine ⟨_,(ad (aB (i:=7) wY.nd rfl (Or.inl rfl) (bd (aa (pv 4) (aa (pv 5) ac))))),?_⟩
   refine ⟨_,rfl,_,rfl,(by show 2≤sizeLine;decide),fun nx kl=>?_⟩
   have cp:=aj kl (.lst [.int one,.int two])
   refine ⟨ba.trans (a2.trans (bf.trans cp)),o3,nx,_,headL way one two++(j6 I p n m).map gF,[one,two],_,rfl,cp _ _ di,?_,?_,rM p0 ap b1 b2,upd_same,.inr ⟨rfl,heads_of _ _ _⟩⟩
   ·exact kS (iz.same (a2.trans (bf.trans cp))) (f4.same (bf.trans cp))
   ·rw [u7,lH,ml]
    show 1≤4+m∧4+m≤m+4
    omega
  ·exact ⟨g6,sa,wa,ws,ss,[],none,rfl,s6 _ _ (s5 _ _ ck),(a8.same s5).same s6,by omega,rs,s6 _ _ ed,.inl rfl⟩
 clear a8 rs rl ed ck k2
 rintro σ H6 ⟨g6,io,it,jl,kc,j5,v8,rfl,d7,d8,g9,ge,d6,ec⟩
 refine G _ _ ?_
 refine aw (mf (bg (aA bQ (pv 3) ae (aI _))
   (ad (aB (i:=6) wY.nd rfl (Or.inl rfl) (ak yq hr rfl (aa (pv 6) ac))))
   aJ)) fun u G=>?_
 refine ⟨JP1 H p n (m+4) a t (m:Int) way one two,?_,?_⟩
 ·refine ⟨_,rfl,rfl,_,rfl,?_⟩
  refine bB (fun c1=>?_) (fun c1=>?_)
  ·refine ⟨_,rfl,io,jl,kc,rfl,d7,d8,by omega,fun D H7 ys s7 pu me a6=>?_⟩
   refine ⟨g6.trans s7,D,it,ys,_,j5,v8,rfl,me,a6,by rw [lH];exact g9,nj ge,s7 _ _ d6,?_⟩
   rcases ec with h | ⟨h,hh⟩
   ·exact .inl h
   ·refine .inr ⟨h,?_⟩
    unfold uY
    rw [iL,iL]
    exact hh
  ·exact ⟨g6,io,it,jl,kc,j5,v8,rfl,d7,d8,g9,ge,d6,ec⟩
 clear g6 d7 d8 g9 ge d6 ec c0
 rintro σ H6 ⟨g6,sa,wa,ws,ss,wo,v8,rfl,ck,a8,ln,rs,c0,j3⟩
 refine G _ _ ?_
 have m8:wo.length≤2:=by rcases j3 with h | ⟨h,_⟩<;>rw [h]<;>simp
 refine aw (aB (i:=9) wY.nd rfl (Or.inl rfl) (ak yH hr rfl (aa (ak wZ hr rfl (aa (pv 0) (aa ae ac))) (aa (pv 1) (aa (pv 7) ac))))) fun u G=>?_
 refine ⟨_,rfl,a,I,2,rfl,g6.seq hS,by decide,fun H7 s7=>⟨_,rfl,_,rfl,t,wa,_,p,n,f,wo,rfl,T1.same (g6.trans s7),hf,hn,na,s7 _ _ c0,m8,fun ea H8 sm s8 k1 il SO=>G _ _ ?_⟩⟩
 have g8:=g6.trans (s7.trans s8)
 have bx:=s7.trans s8
 refine aw (aB (i:=10) wY.nd rfl (Or.inl rfl) (ak xV hr rfl (aa (ak wZ hr rfl (aa (pv 0) (aa ae ac))) (aa (pv 6) (aa (pv 1) ac))))) fun u G=>?_
 refine ⟨_,rfl,a,I,3,rfl,g8.seq hS,by decide,fun H9 s9=>⟨_,rfl,_,rfl,sa,t,_,p,n,f,ws,ss,rfl,T1.same (g8.trans s9),p0,j0,s9 _ _ (bx _ _ ck),a8.same (bx.trans s9),by omega,fun ia e8 is dt k4 js ly hw lz go=>G _ _ ?_⟩⟩
 have er:=g8.trans (s9.trans dt)
 have IO:InsOk p n ss (bt (cg I 3) p ss n.toNat):=kf p0 j1
 have IL:∀ r∈bt (cg I 3) p ss n.toNat,r.length≤200:=fun r hr=>by
  unfold bt at hr
  obtain ⟨i,_,rfl⟩:=vP.mp hr
  have:=(inBy_len (c:=cg I 3) (p:=p) (ss:=ss) (h:=1+(i:Int))).2
  omega
 generalize bt (cg I 3) p ss n.toNat=inp at go IO IL
 refine aw (aB (i:=11) wY.nd rfl (Or.inl rfl) (ak xV hr rfl (aa (ak wZ hr rfl (aa (pv 0) (aa ae ac))) (aa (pv 6) (aa (pv 1) ac))))) fun u G=>?_
 refine ⟨_,rfl,a,I,4,rfl,er.seq hS,by decide,fun co bm=>⟨_,rfl,_,rfl,sa,t,_,p,n,f,ws,ss,rfl,T1.same (er.trans bm),p0,j0,bm _ _ (dt _ _ (s9 _ _ (bx _ _ ck))),a8.same (bx.trans (s9.trans (dt.trans bm))),by omega,fun oa bl os a9 la b0 dp ei d0 a1=>G _ _ ?_⟩⟩
 have OO:InsOk p n ss (bt (cg I 4) p ss n.toNat):=kf p0 j1
 have OL:∀ r∈bt (cg I 4) p ss n.toNat,r.length≤200:=fun r hr=>by
  unfold bt at hr
  obtain ⟨i,_,rfl⟩:=vP.mp hr
  have:=(inBy_len (c:=cg I 4) (p:=p) (ss:=ss) (h:=1+(i:Int))).2
  omega
 generalize bt (cg I 4) p ss n.toNat=oth at a1 OO OL
 have ba:=er.trans bm
 have e7:=s9.trans (dt.trans bm)
 have e5:=e7 _ _ (bx _ _ ck)
 have ey:=a8.same (bx.trans e7)
 have hv:=e7 _ _ (bx _ _ c0)
 have c4:=e7 _ _ il
 have ca:=bm _ _ js
 have b5:=go.same bm
 have be:=ba _ _ ht
 have ha:OthSt co bl p n ss oa:=⟨a9,os,oth,b0,dp,ei,d0,a1,OO,OL⟩
 clear ck a8 c0 il js go bx s7 s8 s9 dt bm a9 g8 er b0 a1 OO OL dp ei d0 k1 k4 ly hw lz
 have q0:=lr ss
 have p4:ss.length≤34:=by omega
 refine aw (bX PassesOwn.never rfl (bn (pv 9)) (ar (i:=12) wY.nd rfl (Or.inl rfl))
   (ah (aB (i:=13) wY.nd rfl (Or.inl rfl) (ak xA hr rfl (aa (pv 6) (aa (pv 12) ac))))
  (ad (kO (av gJ (df e9 (aO aP (pv 10) (av bD (pv 12) ae) (fun _ _=>rfl)) fD (dQ (pv 13))) (df e9 (aO aP (pv 11) (av bD (pv 12) ae) (fun _ _=>rfl)) (dQ (pv 13)) fD)) (nu (pv 11) (av bD (pv 12) ae) ig))))) fun u G=>?_
 refine ⟨_,rfl,ea,rfl,⟨_,SqL.of (ha.1 _ _ c4)⟩,cR (K:=K) (a:=ea) (xs:=sm.map V.int) (fun i σ af=>OthSt co af p n ss oa∧∃ as an:Option V,σ=[some (.ref a),some (.ref t),some (.int (m:Int)),some (.int way),some (.int one),some (.int two),some (.ref sa),some (.ref wa),v8,some (.ref ea),some (.ref ia),some (.ref oa),as,an,none,none,none,none,none]) ⟨ha,none,none,rfl⟩ ?_ ?_ ?_⟩
 ·rintro i σ af _ ⟨⟨J,_⟩,_⟩
  exact SqL.of (J _ _ c4)
 ·rintro i y σ af hy ⟨⟨J,os,oth,b0,dp,ii,d0,a1,OO,OL⟩,as,an,rfl⟩
  obtain ⟨h,rfl,hh⟩:=br hy
  have hb:=SO.b h (u4 hh)
  refine ⟨_,rfl,_,rfl,sa,h,ws,ss,rfl,J _ _ e5,ey.same J,by omega,fun cx O=>?_⟩
  have ev:=J.trans O
  obtain ⟨e1,hg,_,z1⟩:=gU (b5.same ev) IO.len hb.1 hb.2.1
  refine ⟨_,rfl,_,rfl,_,_,rfl,rfl,ia,_,_,.ref e1,rfl,rfl,SqL.of (ev _ _ ca),hg,_,rfl,(aS ss h:Int),rfl,e1,_,rfl,SqL.of z1,fun o1 ho=>?_⟩
  rw [took]
  have ag:=aj ho (.lst (((bU inp h).take (aS ss h)).map V.int))
  have ka:(upd cx o1 (.lst (((bU inp h).take (aS ss h)).map V.int))) o1=some (.lst (((bU inp h).take (aS ss h)).map V.int)):=upd_same
  generalize upd cx o1 (.lst (((bU inp h).take (aS ss h)).map V.int))=bz at ag ka
  have eh:=O.trans ag
  obtain ⟨e2,hk,qn,z2⟩:=gU (a1.same eh) OO.len hb.1 hb.2.1
  refine ⟨_,rfl,_,rfl,_,_,rfl,rfl,oa,_,_,.ref e2,rfl,rfl,SqL.of (eh _ _ b0),hk,_,rfl,(aS ss h:Int),rfl,e2,_,rfl,SqL.of z2,fun o2 ga=>?_⟩
  rw [jE,← List.map_drop]
  have bf:=aj ga (.lst (((bU oth h).drop (aS ss h)).map V.int))
  have py:=IO.en h hb.1 hb.2.1
  have l4:=OO.en h hb.1 hb.2.1
  have lo:(bU oth h).length≤200:=OL _ (iG (by rw [OO.len];omega))
  have l9:((bU inp h).take (aS ss h)).length=aS ss h:=by rw [vj];omega
  have nl:((bU inp h).take (aS ss h)++(bU oth h).drop (aS ss h)).length=(bU oth h).length:=by rw [u7,l9,wt];omega
  refine ⟨o1,o2,_,_,rfl,rfl,bf _ _ ka,upd_same,?_,fun o3 ej=>?_⟩
  ·rw [← u7,← u6,lH,nl]
   exact small (by omega)
  rw [← u6]
  have cp:=bf.trans (aj ej (.lst (((bU inp h).take (aS ss h)++(bU oth h).drop (aS ss h)).map V.int)))
  have di:(upd (upd bz o2 (.lst (((bU oth h).drop (aS ss h)).map V.int))) o3 (.lst (((bU inp h).take (aS ss h)++(bU oth h).drop (aS ss h)).map V.int))) o3=some (.lst (((bU inp h).take (aS ss h)++(bU oth h).drop (aS ss h)).map V.int)):=upd_same
  have ek:=eh.trans cp
  have eo:af o3=none:=(eh.trans bf).free ej
  generalize upd (upd bz o2 (.lst (((bU oth h).drop (aS ss h)).map V.int))) o3 (.lst (((bU inp h).take (aS ss h)++(bU oth h).drop (aS ss h)).map V.int))=H17 at cp di ek
  have mc:os.length=n.toNat:=by rw [Paired.length a1,OO.len]
  refine ⟨_,rfl,_,rfl,_,_,rfl,rfl,oa,_,_,(h - 1).toNat,rfl,rfl,ek _ _ b0,?_,?_⟩
  ·rw [lH,mc,j9 (by omega) (by omega)]
  have es:(os.map V.ref).set (h - 1).toNat (.ref o3)=(os.set (h - 1).toNat o3).map V.ref:=by rw [List.map_set]
  rw [es]
  have m1:o3∉os:=a1.there eo
  have mb:oa≠o3:=fun e=>by rw [← e,b0] at eo;cases eo
  have f8:oa∉os.set (h - 1).toNat o3:=fun e=>by
   rcases vZ e with e | e
   ·exact ii e
   ·exact mb e
  refine ⟨⟨am (J.trans ek) la,_,_,upd_same,nM _ dp m1,f8,fun b lw=>?_,InsAt.off (kR _ (a1.same ek) di) f8,OO.put hb.1 hb.2.1 (fun x hx=>?_) (by rw [nl];exact l4),fun r hr=>?_⟩,_,_,rfl⟩
  ·rcases vZ lw with e | e
   ·exact d0 b e
   ·rw [e]
    exact J.free eo
  ·rcases vr.mp hx with e | e
   ·exact IO.at hb.1 hb.2.1 x (List.mem_of_mem_take e)
   ·exact OO.at hb.1 hb.2.1 x (List.mem_of_mem_drop e)
  ·rcases vZ hr with e | e
   ·exact OL r e
   ·rw [e,nl]
    exact lo
 rintro σ af ⟨he,as,an,rfl⟩
 refine G _ _ ?_
 clear ha
 refine aw (mf (bg (aA (op_neL (hr.units)) (pv 7) (bd ac) (aI _))
   pX
   aJ)) fun u G=>?_
 refine ⟨fun σ H'=>OthSt co H' p n ss oa∧∃ as an el ef et ew fa:Option V,σ=[some (.ref a),some (.ref t),some (.int (m:Int)),some (.int way),some (.int one),some (.int two),some (.ref sa),some (.ref wa),v8,some (.ref ea),some (.ref ia),some (.ref oa),as,an,el,ef,et,ew,fa],?_,?_⟩
 ·have J:=he.1
  refine ⟨_,rfl,(by show 0≤sizeLine;decide),fun le ma=>?_⟩
  have O:=aj ma (.lst [])
  refine ⟨wa,le,wo,[],rfl,rfl,SqL.of (O _ _ (J _ _ hv)),SqL.of upd_same,_,rfl,?_⟩
  have d5:OthSt co (upd af le (.lst [])) p n ss oa:=he.on O
  clear he
  have J:=d5.1
  generalize upd af le (.lst [])=cx at O d5 J
  refine bB (fun c1=>?_) (fun c1=>⟨d5,_,_,_,_,_,_,_,rfl⟩)
  have ke:wo=[one,two]∧uY ss one two:=by
   rcases j3 with h | h
   ·rw [h] at c1
    simp at c1
   ·exact h
  have hd:=ke.2
  refine aw (aB (i:=14) wY.nd rfl (Or.inl rfl) (dS uQ rfl B.int PyProof.Rows.boot_int (aa (gi bQ (pv 4) (pv 5) (aI _)) ac))) fun u G=>?_
  refine ⟨_,rfl,_,rfl,rfl,.inr ⟨_,rfl,G _ _ ?_⟩⟩
  obtain ⟨pl,fx⟩:∃ pl:Nat,(if decide (V.int one=V.int two) then (1:Int) else 0)=(pl:Int)∧pl≤1∧(pl=1→one=two):=by
   by_cases e:one=two
   ·exact ⟨1,by rw [e];simp,by omega,fun _=>e⟩
   ·refine ⟨0,?_,by omega,fun z=>by cases z⟩
    rw [if_neg (by intro z;have:=of_decide_eq_true z;injection this with this;exact e this)]
    rfl
  obtain ⟨fx,p3,l2⟩:=fx
  dsimp only
  rw [fx]
  have eg:1≤aS ss one:=by have:=hd.1;split at this<;>omega
  have e0:pl<aS ss two:=by
   have:=hd.2
   split at this
   ·omega
   ·rename_i ne
    have:pl≠1:=fun z=>ne (l2 z)
    omega
  refine aw (aB (i:=15) wY.nd rfl (Or.inl rfl) (av bi ae (av bh (ak wZ hr rfl (aa (pv 0) (aa ae ac))) (av bD (aH (pv 1) rfl) ae)))) fun u G=>?_
  refine ⟨_,rfl,a,I,5,rfl,(ba.trans J).seq hS,by decide,fun bz ag=>⟨_,rfl,t,C,dx,_,_,rfl,ag _ _ (J _ _ be),T.cl,T.nP,i7 _ _ _,_,_,rfl,rfl,_,_,rfl,rfl,by omega,_,_,rfl,rfl,G _ _ ?_⟩⟩
  have f0:=vC (cg I 5) (show p - 1≠0 by omega)
  have f1:=vw (cg I 5) (show 0<p - 1 by omega)
  dsimp only
  obtain ⟨R,lc⟩:∃ R,1+cg I 5%(p - 1)=R:=⟨_,rfl⟩
  rw [lc]
  have fb:1≤R∧R<p:=by omega
  have i1:=gB hp (x:=R) (by rw [vO (by omega) fb.2];omega)
  have f5:=d5.on ag
  clear d5
  have a5:=f5.1
  refine aw (aB (i:=16) wY.nd rfl (Or.inl rfl) ae) fun u G=>?_
  refine G _ _ ?_
  refine aw (ps_while PassesOwn.never (aA oU (av bh (av bY (pv 15) (pv 16)) (aH (pv 1) rfl)) ae (aI _))
   (ad (aB (i:=16) wY.nd rfl (Or.inl rfl) (av bi (pv 16) ae)))) fun u G=>?_
  refine ⟨fun k σ H'=>bz=H'∧∃ nr:Int,σ=[some (.ref a),some (.ref t),some (.int (m:Int)),some (.int way),some (.int one),some (.int two),some (.ref sa),some (.ref wa),v8,some (.ref ea),some (.ref ia),some (.ref oa),as,an,some (.int (pl:Int)),some (.int R),some (.int nr),none,none]∧1≤nr∧nr≤bT p R∧k=(bT p R - nr).toNat,⟨_,rfl,1,rfl,by decide,i1.1.1,rfl⟩,?_⟩
  rintro k σ H' ⟨rfl,nr,rfl,n1,n2,rfl⟩
  refine ⟨_,rfl,_,rfl,_,_,rfl,rfl,cml ⟨Int.le_trans (by decide) fb.1,fb.2⟩ p5.2,_,rfl,t,C,dx,_,_,rfl,a5 _ _ be,T.cl,T.nP,i7 _ _ _,_,_,rfl,rfl,p0,rfl,_,rfl,?_⟩
  refine bB (fun c2=>?_) (fun c2=>?_)
  ·have nb:nr≠bT p R:=fun z=>by
    have c2:(!decide (V.int (R*nr%p)=V.int 1))=true:=c2
    rw [z,i1.2] at c2
    simp at c2
   refine ⟨fun σ' H'=>bz=H'∧σ'=[some (.ref a),some (.ref t),some (.int (m:Int)),some (.int way),some (.int one),some (.int two),some (.ref sa),some (.ref wa),v8,some (.ref ea),some (.ref ia),some (.ref oa),as,an,some (.int (pl:Int)),some (.int R),some (.int (nr+1)),none,none],?_,?_⟩
   ·rintro σ' H' ⟨rfl,rfl⟩
    exact ⟨_,by omega,rfl,nr+1,rfl,by omega,by omega,rfl⟩
   ·exact ⟨_,rfl,_,_,rfl,rfl,rfl,rfl⟩
  refine G _ _ ?_
  obtain ⟨e1,hg,_,z1⟩:=gU (b5.same a5) IO.len b1.1 b1.2
  obtain ⟨e2,hk,_,z2⟩:=gU (b5.same a5) IO.len b2.1 b2.2
  have pw:=IO.en one b1.1 b1.2
  have p1:=IO.en two b2.1 b2.2
  have iv:=iH (IO.at b1.1 b1.2) (a:=0) (by decide) (by omega)
  have i2:=iH (IO.at b2.1 b2.2) (a:=(pl:Int)) (by omega) (by omega)
  have jo:=dr (fd:=bU inp one) (a:=0) (by decide) (by omega)
  have ih:=dr (fd:=bU inp two) (a:=(pl:Int)) (by omega) (by omega)
  generalize (bU inp one).getD (0:Int).toNat 0=x1 at iv jo
  generalize (bU inp two).getD (pl:Int).toNat 0=x2 at i2 ih
  refine aw (ps_par (i:=17) (j:=18) rfl wY.nd rfl rfl (by decide) rfl rfl (aa (aO aP (aO aP (pv 10) (av bD (pv 4) ae) (fun _ _=>rfl)) ae (fun _ _=>rfl)) (aa (aO aP (aO aP (pv 10) (av bD (pv 5) ae) (fun _ _=>rfl)) (pv 14) (fun _ _=>rfl)) ac)) rfl) fun u G=>?_
  refine ⟨_,rfl,_,rfl,_,_,rfl,rfl,ia,_,_,.ref e1,rfl,rfl,SqL.of (a5 _ _ ca),hg,e1,_,_,.int x1,rfl,rfl,SqL.of z1,jo,_,rfl,_,rfl,_,_,rfl,rfl,ia,_,_,.ref e2,rfl,rfl,SqL.of (a5 _ _ ca),hk,_,rfl,e2,_,_,.int x2,rfl,rfl,SqL.of z2,ih,_,_,rfl,G _ _ ?_⟩
  refine ⟨_,(ad (mf (bg (aA bQ (pv 3) ae (aI _))
   (ah (kO (av bh (av bi (pv 17) (pv 15)) (aH (pv 1) rfl)) (nu (aO aP (pv 11) (av bD (pv 4) ae) (fun _ _=>rfl)) ae ig))
  (ad (kO (av bh (av bD (pv 18) (pv 15)) (aH (pv 1) rfl)) (nu (aO aP (pv 11) (av bD (pv 5) ae) (fun _ _=>rfl)) (pv 14) ig))))
   (ah (kO (av bh (av bY (pv 17) (pv 15)) (aH (pv 1) rfl)) (nu (aO aP (pv 11) (av bD (pv 4) ae) (fun _ _=>rfl)) ae ig))
  (ad (kO (av bh (av bY (pv 18) (pv 16)) (aH (pv 1) rfl)) (nu (aO aP (pv 11) (av bD (pv 5) ae) (fun _ _=>rfl)) (pv 14) ig))))))),?_⟩
  refine ⟨fun σ H'=>OthSt co H' p n ss oa∧∃ as an el ef et ew fa:Option V,σ=[some (.ref a),some (.ref t),some (.int (m:Int)),some (.int way),some (.int one),some (.int two),some (.ref sa),some (.ref wa),v8,some (.ref ea),some (.ref ia),some (.ref oa),as,an,el,ef,et,ew,fa],?_,fun σ H' z=>z⟩
  have em:∀ x:Int,0≤x%p∧x%p<p:=fun x=>⟨vC _ l3,vw _ p0⟩
  refine ⟨_,rfl,rfl,_,rfl,?_⟩
  refine bB (fun c3=>?_) (fun c3=>?_)
  ·obtain ⟨e3,r3,o3,a3,eb,g0,n5,f3⟩:=qb f5 b1.1 b1.2 eg
   refine ⟨_,rfl,_,rfl,_,_,rfl,rfl,_,rfl,t,C,dx,_,_,rfl,a5 _ _ be,T.cl,T.nP,i7 _ _ _,_,_,rfl,rfl,p0,_,rfl,_,rfl,_,_,rfl,rfl,oa,_,_,.ref e3,rfl,rfl,SqL.of eb,a3,e3,_,_,0,rfl,rfl,g0,by rw [lH];exact j9 (k:=0) (by decide) (by omega),?_⟩
   have dy:=f3 ((x1+R)%p) (em _) 0
   have s4:=dy.1
   obtain ⟨e4,r4,o4,a4,d9,f9,n3,f6⟩:=qb dy b2.1 b2.2 e0
   refine ⟨_,rfl,_,rfl,_,_,rfl,rfl,_,rfl,t,C,dx,_,_,rfl,s4 _ _ be,T.cl,T.nP,i7 _ _ _,_,_,rfl,rfl,p0,_,rfl,_,rfl,_,_,rfl,rfl,oa,_,_,.ref e4,rfl,rfl,SqL.of d9,a4,_,rfl,e4,_,_,pl,rfl,rfl,f9,by rw [lH];exact j9 (k:=(pl:Int)) (by omega) (by omega),?_⟩
   exact ⟨f6 ((x2 - R)%p) (em _) pl,_,_,_,_,_,_,_,rfl⟩
  ·obtain ⟨e3,r3,o3,a3,eb,g0,n5,f3⟩:=qb f5 b1.1 b1.2 eg
   refine ⟨_,rfl,_,rfl,_,_,rfl,rfl,cml iv p5.2,_,rfl,t,C,dx,_,_,rfl,a5 _ _ be,T.cl,T.nP,i7 _ _ _,_,_,rfl,rfl,p0,_,rfl,_,rfl,_,_,rfl,rfl,oa,_,_,.ref e3,rfl,rfl,SqL.of eb,a3,e3,_,_,0,rfl,rfl,g0,by rw [lH];exact j9 (k:=0) (by decide) (by omega),?_⟩
   have dy:=f3 (x1*R%p) (em _) 0
   have s4:=dy.1
   obtain ⟨e4,r4,o4,a4,d9,f9,n3,f6⟩:=qb dy b2.1 b2.2 e0
   refine ⟨_,rfl,_,rfl,_,_,rfl,rfl,cml i2 p5.2,_,rfl,t,C,dx,_,_,rfl,s4 _ _ be,T.cl,T.nP,i7 _ _ _,_,_,rfl,rfl,p0,_,rfl,_,rfl,_,_,rfl,rfl,oa,_,_,.ref e4,rfl,rfl,SqL.of d9,a4,_,rfl,e4,_,_,pl,rfl,rfl,f9,by rw [lH];exact j9 (k:=(pl:Int)) (by omega) (by omega),?_⟩
   exact ⟨f6 (x2*nr%p) (em _) pl,_,_,_,_,_,_,_,rfl⟩
 rintro σ cx ⟨⟨O,os,oth,b0,dp,ii,d0,a1,OO,OL⟩,as,an,el,ef,et,ew,fa,rfl⟩
 refine G _ _ ?_
 refine ⟨_,(ad (ay (ci (aa (pv 6) (aa (pv 10) (aa (pv 11) (aa (pv 9) ac))))))),?_⟩
 refine ⟨_,rfl,_,rfl,_,rfl,_,rfl,(by show 4≤sizeLine;decide),fun d hd=>?_⟩
 have ag:=aj hd (.tup [.ref sa,.ref ia,.ref oa,.ref ea])
 have a2:=O.trans ag
 exact q d sa ia oa ea _ ws ss is os inp oth sm wo (ba.trans a2) ((ba.trans O).free hd) upd_same (a2 _ _ e5) (ey.same a2) ln.1 ln.2 rs (a2 _ _ ca) (b5.same a2) IO (ag _ _ b0) (a1.same ag) OO (a2 _ _ c4) SO IL OL
end
section
variable {P:Program}{w:World}{K:PySem.W.Frag}{mg:Str→Option Value}{base:Heap}{C pa:Addr}
theorem ng:ax ["table","value"] ["table","value"] (ao fq):=⟨rfl,rfl,rfl,by decide +kernel,rfl,by decide +kernel,by decide +kernel⟩
theorem nE (F:Src K mg "is_number" "is_number" fq ["table","value"]) (T:Tab K C):Ok P w K mg base CX0 1 "is_number" ["table","value"] (lO C):=by
 refine F.ok ng (fun vs H Q E h=>?_) (fun f O A outer s H vs Q E hr h=>?_)
 ·obtain ⟨t,p,n,f,v,rfl,_⟩:=h
  rfl
 obtain ⟨t,p,n,f,v,rfl,⟨dx,J⟩,q⟩:=h
 refine ⟨_,(ad (ay (iy nC kC ae (pv 1) (aH (pv 0) rfl)))),?_⟩
 refine ⟨_,rfl,_,_,rfl,rfl,_,rfl,?_⟩
 refine bB (fun I=>?_) (fun I=>?_)
 ·refine ⟨_,rfl,t,C,dx,_,_,rfl,J,T.cl,T.nP,i7 _ _ _,_,_,rfl,rfl,?_⟩
  have G:0≤v:=of_decide_eq_true I
  have e:kI p v=decide (v<p):=by unfold kI;simp [G]
  have:=q H (Same.refl H)
  rw [e] at this
  exact this
 ·have G:¬ 0≤v:=of_decide_eq_false (vq.mpr I)
  have e:kI p v=false:=by unfold kI;simp [G]
  have:=q H (Same.refl H)
  rw [e] at this
  exact this
theorem Bi:ax ["table","place","kind","value"] ["table","place","kind","value"] (ao pS):=⟨rfl,rfl,rfl,by decide +kernel,rfl,by decide +kernel,by decide +kernel⟩
theorem Bj (F:Src K mg "fits" "fits" pS ["table","place","kind","value"]) (T:Tab K C) (xZ:Ok P w K mg base CX0 1 "is_number" ["table","value"] (lO C)):Ok P w K mg base CX0 2 "fits" ["table","place","kind","value"] (sT C):=by
 refine F.ok Bi (fun vs H Q E h=>?_) (fun f W A outer s H vs Q E hr h=>?_)
 ·obtain ⟨t,p,n,f,R,v,k,rfl,_⟩:=h
  rfl
 obtain ⟨t,p,n,f,R,v,k,rfl,⟨dx,U⟩,q⟩:=h
 refine ⟨_,(ah (bg (aA bQ (pv 2) aU (aI _))
   (ad (ay (iy nC nC ae (pv 3) (aH (pv 0) rfl))))
   aJ)
  (ah (bg (aA bQ (pv 2) aU (aI _))
   (ad (ay (ak xZ hr rfl (aa (pv 0) (aa (pv 3) ac)))))
   aJ)
  (ad (ay (iy nC kC ae (pv 3) (pv 1)))))),?_⟩
 have d:=q H (Same.refl H)
 refine ⟨_,rfl,rfl,_,rfl,?_⟩
 refine bB (fun c=>?_) (fun c=>?_)
 ·have J:V.str k=V.str "hand":=of_decide_eq_true c
  injection J with J
  subst J
  rw [fit_h] at d
  refine ⟨_,rfl,_,_,rfl,rfl,_,rfl,?_⟩
  refine bB (fun I=>?_) (fun I=>?_)
  ·have G:1≤v:=of_decide_eq_true I
   refine ⟨_,rfl,t,C,dx,_,_,rfl,U,T.cl,T.nH,oy _ _ _,_,_,rfl,rfl,?_⟩
   simp only [G,true_and] at d
   exact d
  ·have G:¬ 1≤v:=of_decide_eq_false (vq.mpr I)
   simp only [G,false_and,decide_false] at d
   exact d
 have J:¬ k="hand":=fun z=>(of_decide_eq_false (vq.mpr c):¬ V.str k=V.str "hand") (by rw [z])
 refine ⟨_,rfl,rfl,_,rfl,?_⟩
 refine bB (fun c=>?_) (fun c=>?_)
 ·have O:V.str k=V.str "number":=of_decide_eq_true c
  injection O with O
  refine ⟨_,rfl,_,rfl,t,p,n,f,v,rfl,⟨dx,U⟩,fun H' s'=>?_⟩
  have e:pj p n R k v=kI p v:=by unfold pj;rw [if_neg J,if_pos O]
  have:=q H' s'
  rw [e] at this
  exact this
 have O:¬ k="number":=fun z=>(of_decide_eq_false (vq.mpr c):¬ V.str k=V.str "number") (by rw [z])
 have e:pj p n R k v=decide (0≤v∧v<R):=by unfold pj;rw [if_neg J,if_neg O]
 rw [e] at d
 refine ⟨_,rfl,_,_,rfl,rfl,_,rfl,?_⟩
 refine bB (fun I=>?_) (fun I=>?_)
 ·have G:0≤v:=of_decide_eq_true I
  refine ⟨_,rfl,_,_,rfl,rfl,?_⟩
  simp only [G,true_and] at d
  exact d
 ·have G:¬ 0≤v:=of_decide_eq_false (vq.mpr I)
  simp only [G,false_and,decide_false] at d
  exact d
theorem nh:ax ["table"] ["table"] (ao fz):=⟨rfl,rfl,rfl,by decide +kernel,rfl,by decide +kernel,by decide +kernel⟩
theorem nK (F:Src K mg "all_hands" "all_hands" fz ["table"]) (B:Blt mg) (T:Tab K C):Ok P w K mg base CX0 1 "all_hands" ["table"] (eP C):=by
 refine F.ok nh (fun vs H Q E h=>?_) (fun f I A outer s H vs Q E hr h=>?_)
 ·obtain ⟨t,p,n,f,rfl,_⟩:=h
  rfl
 obtain ⟨t,p,n,f,rfl,⟨dx,G⟩,hn,q⟩:=h
 refine ⟨_,(ad (ay (nv rfl rfl B.list rfl B.range (aa ae (aa (av bi (aH (pv 0) rfl) ae) ac))))),?_⟩
 refine ⟨_,rfl,t,C,dx,_,_,rfl,G,T.cl,T.nH,oy _ _ _,_,_,rfl,rfl,1,n+1,rfl,⟨by omega,by omega,by omega,by omega⟩,by omega,fun l hl=>?_⟩
 refine q l _ (aj hl _) hl ?_
 rw [upd_same]
 unfold bE
 rw [show (n+1 - 1).toNat=n.toNat by omega]
theorem qZ:ax ["table","step"] ["table","step"] (ao iq):=⟨rfl,rfl,rfl,by decide +kernel,rfl,by decide +kernel,by decide +kernel⟩
theorem rC (F:Src K mg "dealers" "dealers" iq ["table","step"]) (B:Blt mg) (xB:Ok P w K mg base CX0 1 "all_hands" ["table"] (eP C)):Ok P w K mg base CX0 2 "dealers" ["table","step"] (dk C):=by
 refine F.ok qZ (fun vs H Q E h=>?_) (fun f R A outer s H vs Q E hr h=>?_)
 ·obtain ⟨t,b,p,n,f,z,rfl,_⟩:=h
  rfl
 obtain ⟨t,b,p,n,f,z,rfl,J,hn,hz,q⟩:=h
 refine ⟨_,(ah (bg (aA bQ (aO aZ (pv 1) ae (fun _ _=>rfl)) aU (aI _))
   (ad (ay (bd (aa (aO aZ (pv 1) ae (fun _ _=>rfl)) ac))))
   aJ)
  (ah (bg (aA gk (aO aZ (pv 1) ae (fun _ _=>rfl)) (ci (aa aU (aa aU ac))) rfl)
   (ad (ay (ak xB hr rfl (aa (pv 0) ac))))
   aJ)
  (ad (ay (bd ac))))),?_⟩
 refine ⟨_,rfl,b,_,_,.str z.word,rfl,rfl,SqT.of hz,z.at0,rfl,_,rfl,?_⟩
 refine bB (fun c=>?_) (fun c=>?_)
 ·have I:V.str z.word=V.str "in":=of_decide_eq_true c
  injection I with I
  cases z with
  | ein h =>
   refine ⟨_,rfl,b,_,_,.int h,rfl,rfl,SqT.of hz,rfl,(by show 1≤sizeLine;decide),fun l hl=>?_⟩
   exact q l _ (aj hl _) hl upd_same
  | _=>exact absurd I (by simp only [Stp.word];decide +kernel)
 have I:¬ z.word="in":=fun e=>(of_decide_eq_false (vq.mpr c):¬ V.str z.word=V.str "in") (by rw [e])
 refine ⟨_,rfl,b,_,_,.str z.word,rfl,rfl,SqT.of hz,z.at0,(by show 2≤sizeLine;decide),fun tt O=>⟨tt,_,rfl,.inr (SqT.of upd_same),rfl,rfl,_,rfl,?_⟩⟩
 have G:=aj O (.tup [.str (Str.ofString "mul"),.str (Str.ofString "anew")])
 generalize upd H tt (.tup [.str (Str.ofString "mul"),.str (Str.ofString "anew")])=H1 at G
 cases z with
 | ein h=>exact absurd rfl I
 | mul a1 b1 =>
  refine bB (fun _=>?_) (fun c=>absurd (show inV (V.str (Str.ofString "mul")) [V.str (Str.ofString "mul"),V.str (Str.ofString "anew")]=true by decide +kernel) c)
  exact ⟨_,rfl,t,p,n,f,rfl,J.same G,hn,fun r H' s' hr h'=>q r H' (G.trans s') (G.free hr) h'⟩
 | anew a1 =>
  refine bB (fun _=>?_) (fun c=>absurd (show inV (V.str (Str.ofString "anew")) [V.str (Str.ofString "mul"),V.str (Str.ofString "anew")]=true by decide +kernel) c)
  exact ⟨_,rfl,t,p,n,f,rfl,J.same G,hn,fun r H' s' hr h'=>q r H' (G.trans s') (G.free hr) h'⟩
 | fix x =>
  refine bB (fun c=>absurd (show inV (V.str (Str.ofString "fix")) [V.str (Str.ofString "mul"),V.str (Str.ofString "anew")]=true from c) (by decide +kernel)) (fun _=>?_)
  exact ⟨(by show 0≤sizeLine;decide),fun l hl=>q l _ (G.trans (aj hl _)) (G.free hl) upd_same⟩
 | bye a1 x =>
  refine bB (fun c=>absurd (show inV (V.str (Str.ofString "by")) [V.str (Str.ofString "mul"),V.str (Str.ofString "anew")]=true from c) (by decide +kernel)) (fun _=>?_)
  exact ⟨(by show 0≤sizeLine;decide),fun l hl=>q l _ (G.trans (aj hl _)) (G.free hl) upd_same⟩
 | sum a1 x =>
  refine bB (fun c=>absurd (show inV (V.str (Str.ofString "sum")) [V.str (Str.ofString "mul"),V.str (Str.ofString "anew")]=true from c) (by decide +kernel)) (fun _=>?_)
  exact ⟨(by show 0≤sizeLine;decide),fun l hl=>q l _ (G.trans (aj hl _)) (G.free hl) upd_same⟩
 | less a1 x =>
  refine bB (fun c=>absurd (show inV (V.str (Str.ofString "less")) [V.str (Str.ofString "mul"),V.str (Str.ofString "anew")]=true from c) (by decide +kernel)) (fun _=>?_)
  exact ⟨(by show 0≤sizeLine;decide),fun l hl=>q l _ (G.trans (aj hl _)) (G.free hl) upd_same⟩
 | opn a1 =>
  refine bB (fun c=>absurd (show inV (V.str (Str.ofString "open")) [V.str (Str.ofString "mul"),V.str (Str.ofString "anew")]=true from c) (by decide +kernel)) (fun _=>?_)
  exact ⟨(by show 0≤sizeLine;decide),fun l hl=>q l _ (G.trans (aj hl _)) (G.free hl) upd_same⟩
theorem xS:ax ["table","place","step","kinds"] ["table","place","step"] (ao cM):=⟨rfl,rfl,rfl,by decide +kernel,rfl,by decide +kernel,by decide +kernel⟩
theorem jr {fa:Addr}{kvs:List (Key×V)} (F:Src K mg "is_right_step" "is_right_step" cM ["table","place","step"]) (B:Blt mg) (FR:Frm P w K mg fa kvs) (BA:Ok P w K mg base CX0 2 "fits" ["table","place","kind","value"] (sT C)):Ok P w K mg base CX0 3 "is_right_step" ["table","place","step"] (gN C):=by
 refine F.ok xS (fun vs H Q E h=>?_) (fun f ba A outer s H vs Q E hr h=>?_)
 ·obtain ⟨t,b,p,n,f,O,z,rfl,_⟩:=h
  rfl
 obtain ⟨t,b,p,n,f,O,z,rfl,T1,hz,q⟩:=h
 obtain ⟨J,an,U⟩:=FR.at_ z
 refine ⟨_,(ah (aB (i:=3) xS.nd rfl (Or.inl rfl) (pe_kget1 (mo (v:=.ref _) rfl FR.g rfl) (aO aZ (pv 2) ae (fun _ _=>rfl)) ⟨rfl,rfl,rfl,rfl⟩))
  (ah (bg (PW.pt (kB (aA op_isN (pv 3) pe_non (aI _)) (iu (aA oU (aK aG rfl B.len vE (aa (pv 2) ac)) (av bi (aK aG rfl B.len vE (aa (pv 3) ac)) ae) (aI _)))))
   (ad (ay gS))
   aJ)
  (ad (ay (aK (gr rfl) rfl B.all wR (aa (bw ["kind","value"] [("table",0),("place",1)]  (pi_zipT rfl B.zip (aa (pv 3) (aa (df sl_tup (pv 2) (dQ ae) fD) ac))) rfl (fun C s0 H0 ex=>by exact (eJ K 2 rfl (aE (ar (i:=0) (show List.Nodup [("kind":Str),"value","table","place"] by decide +kernel) rfl (Or.inl rfl)) (aE (ar (i:=1) (show List.Nodup [("kind":Str),"value","table","place"] by decide +kernel) rfl (Or.inl rfl)) bM)))) (fun C s0 H0 ex=>by exact bc) (fun C s0 H0 ex=>by exact (ak BA hr rfl (aa (pv 2) (aa (pv 3) (aa (pv 0) (aa (pv 1) ac))))))) ac)))))),?_⟩
 refine ⟨fa,kvs,rfl,FR.d,_,rfl,b,_,_,.str z.word,rfl,rfl,SqT.of hz,z.at0,Sum.inr z.word,rfl,?_⟩
 rw [an]
 refine ⟨_,rfl,rfl,_,rfl,?_⟩
 refine bB (fun c=>absurd (of_decide_eq_true c:V.ref J=V.non) (fun e=>nomatch e)) (fun _=>?_)
 have el:z.vs.length=z.kinds.length+1:=by rw [z.vs_eq,vh,lH,z.kinds_len]
 refine ⟨_,rfl,b,_,rfl,.inr (SqT.of hz),_,rfl,J,_,rfl,.inr (U H),_,_,rfl,rfl,rfl,_,rfl,?_⟩
 refine bB (fun c=>absurd c ?_) (fun _=>?_)
 ·rw [el,lH]
  simp
 have al:=z.args_len
 have kl:=z.kinds_len
 refine ⟨_,rfl,_,rfl,_,rfl,b,_,rfl,SqT.of hz,?_,fun d hd=>?_⟩
 ·intro e
  have:=e.1
  have h1:HT.sIx z.vs.length 0 (some 1)=1:=by
   rw [el]
   unfold HT.sIx
   simp
  rw [h1] at this
  cases this
 have af:kL z.vs (some 1) none=z.args.map V.int:=by
  have:=jE (xs:=z.vs) (k:=1)
  rw [show ((1:Nat):Int)=1 from rfl] at this
  rw [this,z.vs_eq]
  rfl
 rw [af]
 have s1:=aj hd (.tup (z.args.map V.int))
 have W:upd H d (.tup (z.args.map V.int)) d=some (.tup (z.args.map V.int)):=upd_same
 generalize upd H d (.tup (z.args.map V.int))=H1 at s1 W
 refine ⟨J,d,_,_,rfl,U H1,SqT.of W,fun D hD=>?_⟩
 have pr:∀ H2,Same H1 H2→Paired (SqS K H2) [(true,J),(true,d)] [z.kinds.map V.str,z.args.map V.int]:=fun H2 G=>.cons (show SqT K H2 J _ from U H2) (.cons (show SqT K H2 d _ from SqT.of (G _ _ W)) .nil)
 refine comp_zn (K:=K) (ss:=[(true,J),(true,d)]) (xss:=[z.kinds.map V.str,z.args.map V.int]) (n:=z.args.length) (fun i ys H2=>i≤z.args.length∧ys=(((z.kinds.zip z.args).take i).map fun I=>V.bl (pj p n O I.1 I.2))∧Same H1 H2) (by simp) ?_ ⟨vk _,rfl,am (Same.refl _) hD⟩ ?_ ?_ ?_
 ·intro xs hx
  simp only [u8,ve,or_false] at hx
  rcases hx with r | r<;>rw [r,lH]
  exact kl
 ·rintro i ys H2 ⟨_,_,G⟩
  exact pr H2 G
 ·rintro i zs ys H2 c ai ⟨hi,rfl,G⟩ R hc
  cases ai with
  | cons r1 r2 =>
  cases r2 with
  | cons r2 r3 =>
  cases r3
  rw [u5] at r1 r2
  cases hk:z.kinds[i]? with
  | none=>rw [hk] at r1;cases r1
  | some k =>
  cases Y:z.args[i]? with
  | none=>rw [Y] at r2;cases r2
  | some v =>
  rw [hk] at r1
  rw [Y] at r2
  cases r1
  cases r2
  have a3:i<z.args.length:=(u3.mp Y).1
  have s3:=aj hc (.tup [.str k,.int v])
  refine ⟨c,_,rfl,SqT.of upd_same,rfl,_,_,rfl,_,_,rfl,rfl,⟨rfl,rfl⟩,?_⟩
  refine ⟨_,rfl,_,rfl,_,rfl,_,rfl,t,p,n,f,O,v,k,rfl,T1.same (s1.trans (G.trans s3)),fun H4 s4=>?_⟩
  have Z:=s3.trans s4
  refine ⟨Z _ _ R,au (by rw [lH,vj];omega),a3,?_,am (G.trans Z) hD⟩
  have ap:(z.kinds.zip z.args)[i]?=some (k,v):=by rw [wD];exact ⟨hk,Y⟩
  rw [vn,ap,u6]
  rfl
 ·rintro ys H2 ⟨_,rfl,G⟩ R
  refine ⟨D,((z.kinds.zip z.args).take z.args.length).map (fun I=>pj p n O I.1 I.2),rfl,SqL.of (by rw [R,wX];rfl),?_⟩
  have e:(((z.kinds.zip z.args).take z.args.length).map (fun I=>pj p n O I.1 I.2)).all id=jb p n O z:=by
   rw [vi (by rw [List.length_zip];omega),wz]
   rfl
  rw [e]
  exact q H2 (s1.trans G)
theorem AY:ax ["table","steps"] ["table","steps"] (ao lV):=⟨rfl,rfl,rfl,by decide +kernel,rfl,by decide +kernel,by decide +kernel⟩
theorem AZ {tk:Tok} (F:Src K mg "right" "right" lV ["table","steps"]) (B:Blt mg) (gM:mg "MOST_STEPS"=some (.int 24 tk)) (yr:Ok P w K mg base CX0 3 "is_right_step" ["table","place","step"] (gN C)):Ok P w K mg base CX0 4 "right" ["table","steps"] (oH C):=by
 refine F.ok AY (fun vs H Q E h=>?_) (fun f a3 A outer s H vs Q E hr h=>?_)
 ·obtain ⟨t,a,p,n,f,G,ss,rfl,_⟩:=h
  rfl
 obtain ⟨t,a,p,n,f,G,ss,rfl,T1,O,U,q⟩:=h
 have wl:G.length=ss.length:=Paired.length U
 refine ⟨_,(ah (bg (PW.pt (kB (aA bQ (aK aG rfl B.len vE (aa (pv 1) ac)) ae (aI _)) (iu (aA op_gt (aK aG rfl B.len vE (aa (pv 1) ac)) (mo (v:=.int 24) rfl gM ⟨_,rfl⟩) (aI _)))))
   (ad (ay gS))
   aJ)
  (ad (ay (aK (gr rfl) rfl B.all wR (aa (bw ["place","step"] [("table",0)]  (mm rfl B.enumerate (aa (pv 1) ac)) rfl (fun C s0 H0 ex=>by exact (eJ K 2 rfl (aE (ar (i:=0) (show List.Nodup [("place":Str),"step","table"] by decide +kernel) rfl (Or.inl rfl)) (aE (ar (i:=1) (show List.Nodup [("place":Str),"step","table"] by decide +kernel) rfl (Or.inl rfl)) bM)))) (fun C s0 H0 ex=>by exact bc) (fun C s0 H0 ex=>by exact (ak yr hr rfl (aa (pv 2) (aa (pv 0) (aa (pv 1) ac)))))) ac))))),?_⟩
 have no:¬ (1≤ss.length∧ss.length≤24)→Q (.bl false) H:=fun hn=>by
  have:=q H (Same.refl H)
  rw [show aR p n ss=false by unfold aR;rw [decide_eq_false hn];rfl] at this
  exact this
 refine ⟨_,rfl,a,_,rfl,.inl (SqL.of O),rfl,_,rfl,?_⟩
 refine bB (fun c=>?_) (fun c=>?_)
 ·have Y:V.int (G.length:Int)=V.int 0:=of_decide_eq_true c
  injection Y with Y
  exact oA (no (by omega))
 have Y:¬ (G.length:Int)=0:=fun e=>(of_decide_eq_false (vq.mpr c):¬ V.int (G.length:Int)=V.int 0) (by rw [e])
 refine ⟨_,rfl,a,_,rfl,.inl (SqL.of O),_,_,rfl,rfl,_,rfl,?_⟩
 refine bB (fun Z=>?_) (fun Z=>?_)
 ·have af:(G.length:Int) > 24:=of_decide_eq_true Z
  exact no (by omega)
 have af:¬ (G.length:Int) > 24:=of_decide_eq_false (vq.mpr Z)
 have ag:1≤ss.length∧ss.length≤24:=by omega
 refine ⟨_,rfl,a,_,rfl,SqL.of O,fun D hD=>?_⟩
 refine n9 (K:=K) (a:=a) (xs:=G) (k0:=0) (fun i ys H2=>i≤ss.length∧ys=((List.range i).map fun j:Nat=>V.bl (jb p n (j:Int) (ss.getD j (.fix 0))))∧Same H H2) ⟨vk _,rfl,am (Same.refl _) hD⟩ ?_ ?_ ?_
 ·rintro i ys H2 ⟨_,_,I⟩
  exact SqL.of (I _ _ O)
 ·rintro i y ys H2 c hy ⟨hi,rfl,I⟩ J hc
  obtain ⟨b,z,rfl,hz,R⟩:=(U.same I).get hy
  have al:i<ss.length:=(u3.mp R).1
  have s3:=aj hc (.tup [.int ((0+i:Nat):Int),.ref b])
  refine ⟨c,_,rfl,SqT.of upd_same,rfl,_,_,rfl,_,_,rfl,rfl,⟨rfl,rfl⟩,?_⟩
  refine ⟨_,rfl,_,rfl,_,rfl,t,b,p,n,f,_,z,rfl,T1.same (I.trans s3),s3 _ _ hz,fun H4 s4=>?_⟩
  have W:=s3.trans s4
  refine ⟨W _ _ J,au (by rw [lH,vo];omega),al,?_,am (I.trans W) hD⟩
  rw [wU,u6,List.map_singleton,nn,R,Nat.zero_add]
  rfl
 ·rintro ys H2 ⟨_,rfl,I⟩ J
  rw [wl] at J
  refine ⟨D,(List.range ss.length).map (fun j:Nat=>jb p n (j:Int) (ss.getD j (.fix 0))),rfl,SqL.of (by rw [J,wX];rfl),?_⟩
  have e:((List.range ss.length).map (fun j:Nat=>jb p n (j:Int) (ss.getD j (.fix 0)))).all id=aR p n ss:=by
   unfold aR
   rw [wz,decide_eq_true ag]
   rfl
  rw [e]
  exact q H2 I
theorem jN:ax ["table","steps"] ["table","steps"] (ao cY):=⟨rfl,rfl,rfl,by decide +kernel,rfl,by decide +kernel,by decide +kernel⟩
theorem jp {cS:Addr}{bmS:List Value} (F:Src K mg "refuse_steps" "refuse_steps" cY ["table","steps"]) (Ap:Exc K mg "BadSteps" cS bmS) (Bk:Ok P w K mg base CX0 4 "right" ["table","steps"] (oH C)):Ok P w K mg base (CXE P w) 5 "refuse_steps" ["table","steps"] (cF C cS):=by
 refine F.okE jN (fun vs H Q E h=>?_) (fun f Y A outer s H vs Q E hr h=>?_)
 ·obtain ⟨t,a,p,n,f,q,ss,rfl,_⟩:=h
  rfl
 obtain ⟨t,a,p,n,f,q,ss,rfl,O,U,G,R,W⟩:=h
 refine ⟨_,(ad (bg (gH (gG (ak Bk hr rfl (aa (pv 0) (aa (pv 1) ac))) (fun _=>rfl)))
   (ad (gA Ap rfl aU))
   aJ)),?_⟩
 refine ⟨_,rfl,_,rfl,t,a,p,n,f,q,ss,rfl,O,U,G,fun H1 I=>?_⟩
 cases J:aR p n ss with
 | true=>exact ⟨_,rfl,uk (R J H1 I)⟩
 | false=>exact ⟨_,rfl,oA ⟨by decide,W J H1 I⟩⟩
theorem A0:ax ["table","steps"] ["table","steps"] (ao lX):=⟨rfl,rfl,rfl,by decide +kernel,rfl,by decide +kernel,by decide +kernel⟩
theorem tS {cS:Addr} (F:Src K mg "needs" "needs" lX ["table","steps"]) (B:Blt mg) (T:Tab K C) (xo:Ok P w K mg base (CXE P w) 5 "refuse_steps" ["table","steps"] (cF C cS)) (xp:Ok P w K mg base CX0 2 "dealers" ["table","step"] (dk C)):Ok P w K mg base (CXE P w) 6 "needs" ["table","steps"] (lN C cS):=by
 refine F.okE A0 (fun vs H Q E h=>?_) (fun f a3 A outer s H vs Q E hr h=>?_)
 ·obtain ⟨t,a,p,n,f,R,ss,rfl,_⟩:=h
  rfl
 obtain ⟨t,a,p,n,f,R,ss,rfl,T1,hn,hf,W,O,q1,q2⟩:=h
 have wl:R.length=ss.length:=Paired.length O
 refine ⟨_,(ah (aW (b9 xo hr rfl (aa (pv 0) (aa (pv 1) ac))))
  (ad (ay (av bY (aH (pv 0) rfl) (aK (km rfl) rfl B.sum PyProof.Rows.boot_sum (aa (bw ["step"] [("table",0)]  (bn (pv 1)) rfl (fun C s0 H0 ex=>by exact (ar (i:=0) (show List.Nodup [("step":Str),"table"] by decide +kernel) rfl (Or.inl rfl))) (fun C s0 H0 ex=>by exact bc) (fun C s0 H0 ex=>by exact (aK (uP K) rfl B.len vE (aa (ak xp hr rfl (aa (pv 1) (aa (pv 0) ac))) ac)))) ac)))))),?_⟩
 refine ⟨_,rfl,_,rfl,t,a,p,n,f,R,ss,rfl,T1,W,O,fun Z H1 J=>?_,q2⟩
 have a5:=(rightsB_iff.mp Z).1
 obtain ⟨dx,Y⟩:=T1
 refine ⟨_,rfl,t,C,dx,_,_,rfl,J _ _ Y,T.cl,T.nF,tf_f _ _ _,?_⟩
 refine ⟨_,rfl,a,rfl,⟨_,SqL.of (J _ _ W)⟩,fun D hD=>?_⟩
 refine bF (K:=K) (a:=a) (xs:=R) (fun i ys H2=>i≤ss.length∧ys=(((ss.take i).map fun z=>z.need n)).map V.int∧Same H1 H2) ⟨vk _,rfl,am (Same.refl _) hD⟩ ?_ ?_ ?_
 ·rintro i ys H2 _ ⟨_,_,G⟩
  exact SqL.of (G _ _ (J _ _ W))
 ·rintro i y ys H2 hy ⟨hi,rfl,G⟩ I
  obtain ⟨b,z,rfl,hz,U⟩:=(O.same (J.trans G)).get hy
  have af:i<ss.length:=(u3.mp U).1
  refine ⟨⟨rfl,rfl⟩,?_⟩
  refine ⟨_,rfl,_,rfl,t,b,p,n,f,z,rfl,⟨dx,G _ _ (J _ _ Y)⟩,hn,hz,fun r H4 s4 a4 ag=>?_⟩
  refine ⟨r,_,rfl,.inl (SqL.of ag),s4 _ _ I,au (by rw [lH,lH,vj];omega),af,?_,am (G.trans s4) hD⟩
  rw [vn,U,u6,u6,lH,gY hn.1]
  rfl
 ·rintro ys H2 ⟨_,rfl,G⟩ I
  rw [wl,vI] at I
  have hb:∀ v∈ss.map (fun z=>z.need n),0≤v∧v≤10:=fun v q=>by
   obtain ⟨z,_,rfl⟩:=vP.mp q
   exact t9 hn.1 hn.2 z
  refine ⟨D,ss.map (fun z=>z.need n),rfl,SqL.of I,by rw [lH];omega,fun v q=>⟨(hb v q).1,by have:=(hb v q).2;omega⟩,?_⟩
  have e:=nN f n ss
  have d:=q1 Z H2 (J.trans G)
  rw [e] at d
  have sb:=sum_b (ss.map fun z=>z.need n) fun v q=>⟨(hb v q).1,by have:=(hb v q).2;omega⟩
  rw [lH] at sb
  exact ⟨_,_,rfl,rfl,.inl ⟨by omega,by omega⟩,d⟩
end
section
variable {P:Program}{w:World}{K:PySem.W.Frag}{mg:Str→Option Value}{base:Heap}{C pa:Addr}
theorem kz:ax ["table","values"] ["table","values"] (ao dH):=⟨rfl,rfl,rfl,by decide +kernel,rfl,by decide +kernel,by decide +kernel⟩
theorem kH (F:Src K mg "are_numbers" "are_numbers" dH ["table","values"]) (B:Blt mg) (xZ:Ok P w K mg base CX0 1 "is_number" ["table","value"] (lO C)):Ok P w K mg base CX0 2 "are_numbers" ["table","values"] (ic C):=by
 refine F.ok kz (fun vs H Q E h=>?_) (fun f af A outer s H vs Q E hr h=>?_)
 ·obtain ⟨t,r,p,n,f,G,rfl,_⟩:=h
  rfl
 obtain ⟨t,r,p,n,f,G,rfl,T1,U,hl,q⟩:=h
 refine ⟨_,(ad (ay (aK (gr rfl) rfl B.all wR (aa (bw ["value"] [("table",0)]  (bn (pv 1)) rfl (fun C s0 H0 ex=>by exact (ar (i:=0) (show List.Nodup [("value":Str),"table"] by decide +kernel) rfl (Or.inl rfl))) (fun C s0 H0 ex=>by exact bc) (fun C s0 H0 ex=>by exact (ak xZ hr rfl (aa (pv 1) (aa (pv 0) ac))))) ac)))),?_⟩
 refine ⟨_,rfl,r,rfl,⟨_,SqL.of U⟩,fun D W=>?_⟩
 refine bF (K:=K) (a:=r) (xs:=G.map V.int) (fun i ys H2=>i≤G.length∧ys=((G.take i).map (kI p)).map V.bl∧Same H H2) ⟨vk _,rfl,am (Same.refl _) W⟩ ?_ ?_ ?_
 ·rintro i ys H2 _ ⟨_,_,J⟩
  exact SqL.of (J _ _ U)
 ·rintro i y ys H2 O ⟨hi,rfl,J⟩ I
  rw [u5] at O
  cases R:G[i]? with
  | none=>rw [R] at O;cases O
  | some v =>
  rw [R] at O
  cases O
  have Y:i<G.length:=(u3.mp R).1
  refine ⟨⟨rfl,rfl⟩,?_⟩
  refine ⟨_,rfl,_,rfl,t,p,n,f,v,rfl,T1.same J,fun H4 Z=>?_⟩
  refine ⟨Z _ _ I,au (by rw [lH,lH,vj];omega),Y,?_,am (J.trans Z) W⟩
  rw [vn,R,u6,u6]
  rfl
 ·rintro ys H2 ⟨_,rfl,J⟩ I
  rw [lH,vI] at I
  refine ⟨D,G.map (kI p),rfl,SqL.of I,?_⟩
  have:=q H2 J
  rw [wz]
  exact this
theorem Bl:ax ["steps","hand"] ["steps","hand"] (ao pQ):=⟨rfl,rfl,rfl,by decide +kernel,rfl,by decide +kernel,by decide +kernel⟩
theorem Bm (F:Src K mg "uses" "uses" pQ ["steps","hand"]):Ok P w K mg base CX0 1 "uses" ["steps","hand"] mV:=by
 refine F.ok Bl (fun vs H Q E h=>?_) (fun f W A outer s H vs Q E hr h=>?_)
 ·obtain ⟨a,h,I,ss,rfl,_⟩:=h
  rfl
 obtain ⟨a,h,I,ss,rfl,O,J,q⟩:=h
 refine ⟨_,(ad (ay (dX vm PySem.F.slot_list_count PySem.F.type_list_count (ue hr.units) (pv 0) (aa (ci (aa aU (aa (pv 1) ac))) ac)))),?_⟩
 refine ⟨_,rfl,.inl ⟨rfl,_,SqL.of O⟩,_,rfl,(by show 2≤sizeLine;decide),fun d U=>?_⟩
 have G:=aj U (.tup [.str "in",.int h])
 refine ⟨a,I,ss.map Stp.dat,.ref d,(Stp.ein h).dat,rfl,rfl,G _ _ O,(J.same G).rep,Stp.rep (s:=.ein h) upd_same,?_,Stp.ok8 _,?_⟩
 ·intro e R
  obtain ⟨z,_,rfl⟩:=vP.mp R
  exact z.ok8
 ·rw [qR]
  exact q _ G
theorem xP:ax ["table","steps","inputs","hand","own"] ["table","steps","inputs"] (ao eu):=⟨rfl,rfl,rfl,by decide +kernel,rfl,by decide +kernel,by decide +kernel⟩
theorem mv (F:Src K mg "are_inputs" "are_inputs" eu ["table","steps","inputs"]) (B:Blt mg) (T:Tab K C) (yT:Ok P w K mg base CX0 1 "uses" ["steps","hand"] mV) (xQ:Ok P w K mg base CX0 2 "are_numbers" ["table","values"] (ic C)):Ok P w K mg base CX0 3 "are_inputs" ["table","steps","inputs"] (gP C):=by
 refine F.ok xP (fun vs H Q E h=>?_) (fun f b4 A outer s H vs Q E hr h=>?_)
 ·obtain ⟨t,a,b,p,n,f,ws,ss,W,inp,rfl,_⟩:=h
  rfl
 obtain ⟨t,a,b,p,n,f,ws,ss,W,inp,rfl,⟨dx,ht⟩,ha,a8,hb,ag,an,q⟩:=h
 have il:W.length=inp.length:=Paired.length ag
 refine ⟨_,(ah (bg (aA oU (aK aG rfl B.len vE (aa (pv 2) ac)) (aH (pv 0) rfl) (aI _))
   (ad (ay gS))
   aJ)
  (ah (bX PassesOwn.never rfl (p8 rfl B.enumerate (aa (pv 2) ac) ae) (gh rfl (aE (ar (i:=3) xP.nd rfl (Or.inl rfl)) (aE (ar (i:=4) xP.nd rfl (Or.inl rfl)) bM)))
   (ad (bg (PW.pt (kB (aA kC (aK aG rfl B.len vE (aa (pv 4) ac)) (ak yT hr rfl (aa (pv 1) (aa (pv 3) ac))) (aI _)) (iu (gH (gG (ak xQ hr rfl (aa (pv 0) (aa (pv 4) ac))) (fun _=>rfl))))))
   (ad (ay gS))
   aJ)))
  (ad (ay gS)))),?_⟩
 have no:eB p n ss inp=false→∀ H',Same H H'→Q (.bl false) H':=fun hn H' s'=>by
  have:=q H' s'
  rw [hn] at this
  exact this
 refine ⟨_,rfl,b,_,rfl,.inl (SqL.of hb),_,rfl,t,C,dx,_,_,rfl,ht,T.cl,T.nH,oy _ _ _,rfl,_,rfl,?_⟩
 refine bB (fun c=>?_) (fun c=>?_)
 ·refine no ?_ H (Same.refl H)
  have U:¬ (inp.length:Int)=n:=fun e=>by
   have c':(!decide (V.int ((W.map V.ref).length:Int)=V.int n))=true:=c
   rw [lH,il,e] at c'
   simp at c'
  unfold eB
  rw [decide_eq_false U]
  rfl
 have ab:(inp.length:Int)=n:=Classical.byContradiction fun e=>c (by
  show (!decide (V.int ((W.map V.ref).length:Int)=V.int n))=true
  rw [lH,il,decide_eq_false (fun z=>e (by injection z))]
  rfl)
 refine ⟨_,rfl,b,_,1,rfl,rfl,by decide,SqL.of hb,?_⟩
 refine jC (K:=K) (a:=b) (xs:=W.map V.ref) (k0:=1) (fun i σ H2=>Same H H2∧i≤inp.length∧(∃ v3 v4:Option V,σ=[some (.ref t),some (.ref a),some (.ref b),v3,v4])∧∀ j<i,(decide (aS ss (1+(j:Int))≤(inp.getD j []).length) && (inp.getD j []).all (kI p))=true) ?_ ?_ ?_ ?_
 ·exact ⟨Same.refl _,vk _,⟨none,none,rfl⟩,fun j Y=>absurd Y (wF j)⟩
 ·rintro i σ H2 ⟨O,_⟩
  exact SqL.of (O _ _ hb)
 ·rintro i y σ H2 c hy ⟨O,hi,⟨v3,v4,rfl⟩,G⟩ hc
  obtain ⟨oa,rfl,a6⟩:=cW hy
  obtain ⟨r,Z,bm⟩:=(ag.same O).get a6
  have al:i<inp.length:=(u3.mp Z).1
  have rl:=an r (u4 Z)
  have eD:inp.getD i []=r:=by rw [nn,Z];rfl
  have s3:=aj hc (.tup [.int ((1+i:Nat):Int),.ref oa])
  refine ⟨c,_,rfl,SqT.of upd_same,rfl,_,_,rfl,_,_,rfl,rfl,?_⟩
  have I:=s3 _ _ bm
  have J:=O.trans s3
  generalize upd H2 c (.tup [.int ((1+i:Nat):Int),.ref oa])=H3 at s3 I J
  refine ⟨_,rfl,oa,_,rfl,.inl (SqL.of I),_,rfl,_,rfl,a,_,ws,ss,rfl,J _ _ ha,a8.same J,fun H4 R=>?_⟩
  have eh:((1+i:Nat):Int)=1+(i:Int):=by omega
  rw [lH,eh]
  have ai:(decide (aS ss (1+(i:Int))≤(inp.getD i []).length) && (inp.getD i []).all (kI p))=false→eB p n ss inp=false:=fun hb=>by
   cases hI:eB p n ss inp with
   | false=>rfl
   | true =>
    unfold eB at hI
    rw [vx,vv] at hI
    rw [hI.2 i (vH.mpr al)] at hb
    cases hb
  refine ⟨_,_,rfl,rfl,_,rfl,?_⟩
  refine bB (fun U=>?_) (fun U=>?_)
  ·have be:(r.length:Int)<(aS ss (1+(i:Int)):Int):=of_decide_eq_true U
   refine oA (no (ai ?_) H4 (J.trans R))
   rw [eD,decide_eq_false (by omega)]
   rfl
  have be:¬ (r.length:Int)<(aS ss (1+(i:Int)):Int):=of_decide_eq_false (vq.mpr U)
  refine ⟨_,rfl,_,rfl,t,oa,p,n,f,r,rfl,⟨dx,(J.trans R) _ _ ht⟩,R _ _ I,rl,fun H5 s5=>⟨_,rfl,?_⟩⟩
  cases hN:r.all (kI p) with
  | false =>
   refine no (ai ?_) H5 (J.trans (R.trans s5))
   rw [eD,hN,Bool.and_false]
  | true =>
   refine ⟨J.trans (R.trans s5),al,⟨_,_,rfl⟩,fun j Y=>?_⟩
   rcases Nat.lt_succ_iff_lt_or_eq.mp Y with g | g
   ·exact G j g
   ·rw [g,eD,hN,decide_eq_true (by omega)]
    rfl
 ·rintro σ H2 ⟨O,_,⟨v3,v4,rfl⟩,G⟩
  rw [lH,il] at G
  have:=q H2 O
  rw [show eB p n ss inp=true by
   unfold eB
   rw [decide_eq_true ab,Bool.true_and,vv]
   exact fun j Y=>G j (vH.mp Y)] at this
  exact this
theorem jk:ax ["table","steps","inputs"] ["table","steps","inputs"] (ao cG):=⟨rfl,rfl,rfl,by decide +kernel,rfl,by decide +kernel,by decide +kernel⟩
theorem iQ {cI:Addr}{bmI:List Value} (F:Src K mg "refuse_inputs" "refuse_inputs" cG ["table","steps","inputs"]) (zH:Exc K mg "BadInputs" cI bmI) (yU:Ok P w K mg base CX0 3 "are_inputs" ["table","steps","inputs"] (gP C)):Ok P w K mg base (CXE P w) 4 "refuse_inputs" ["table","steps","inputs"] (cn C cI):=by
 refine F.okE jk (fun vs H Q E h=>?_) (fun f af A outer s H vs Q E hr h=>?_)
 ·obtain ⟨t,a,b,p,n,f,G,ss,J,inp,rfl,_⟩:=h
  rfl
 obtain ⟨t,a,b,p,n,f,G,ss,J,inp,rfl,W,Z,I,hb,O,q,Y,q2⟩:=h
 refine ⟨_,(ad (bg (gH (gG (ak yU hr rfl (aa (pv 0) (aa (pv 1) (aa (pv 2) ac)))) (fun _=>rfl)))
   (ad (gA zH rfl aU))
   aJ)),?_⟩
 refine ⟨_,rfl,_,rfl,_,rfl,t,a,b,p,n,f,G,ss,J,inp,rfl,W,Z,I,hb,O,q,fun H1 R=>?_⟩
 cases U:eB p n ss inp with
 | true=>exact ⟨_,rfl,uk (Y U H1 R)⟩
 | false=>exact ⟨_,rfl,oA ⟨by decide,q2 U H1 R⟩⟩
theorem yt:ax ["steps","place","inputs","hand"] ["steps","place","inputs"] (ao gy):=⟨rfl,rfl,rfl,by decide +kernel,rfl,by decide +kernel,by decide +kernel⟩
theorem oZ (F:Src K mg "input_at" "input_at" gy ["steps","place","inputs"]) (yT:Ok P w K mg base CX0 1 "uses" ["steps","hand"] mV):Ok P w K mg base CX0 2 "input_at" ["steps","place","inputs"] hZ:=by
 refine F.ok yt (fun vs H Q E h=>?_) (fun f a1 A outer s H vs Q E hr h=>?_)
 ·obtain ⟨a,b,i,h,p,n,G,ss,I,inp,rfl,_⟩:=h
  rfl
 obtain ⟨a,b,i,h,p,n,G,ss,I,inp,rfl,ha,J,as,hi,hb,O,R,hh,q⟩:=h
 have wl:G.length=ss.length:=Paired.length J
 have il:i<ss.length:=(u3.mp hi).1
 have ap:I.length=n.toNat:=(Paired.length O).trans R.len
 refine ⟨_,(ah (aB (i:=3) yt.nd rfl (Or.inl rfl) (aO aZ (aO aP (pv 0) (pv 1) (fun _ _=>rfl)) ae (fun _ _=>rfl)))
  (ad (ay (aO aP (aO aP (pv 2) (av bD (pv 3) ae) (fun _ _=>rfl)) (ak yT hr rfl (aa (df e9 (pv 0) fD (dQ (pv 1))) (aa (pv 3) ac))) (fun _ _=>rfl))))),?_⟩
 obtain ⟨c,z,ec,hc,hz⟩:=J.get (rz (show i<G.length by omega))
 rw [hi] at hz
 cases hz
 have al:atI G (i:Int)=some (.ref c):=by
  unfold atI
  rw [show ixN G.length (i:Int)=some i by simpa using j9 (n:=G.length) (k:=(i:Int)) (by omega) (by omega),← ec]
  exact rz (by omega)
 refine ⟨_,rfl,_,rfl,a,_,_,.ref c,rfl,rfl,SqL.of ha,al,c,_,_,.int h,rfl,rfl,SqT.of hc,rfl,?_⟩
 have Z:(h - 1).toNat<I.length:=by omega
 obtain ⟨r,ai,ab⟩:=O.get (rz Z)
 have er:bU inp h=r:=by unfold bU;rw [nn,ai];rfl
 have U:atI (I.map V.ref) (h - 1)=some (.ref I[(h - 1).toNat]):=by
  unfold atI
  rw [j9 (by omega) (by rw [lH];omega)]
  show (I.map V.ref)[(h - 1).toNat]?=_
  rw [u5,rz Z]
  rfl
 refine ⟨_,rfl,_,rfl,_,_,rfl,rfl,b,_,_,.ref I[(h - 1).toNat],rfl,rfl,SqL.of hb,U,?_⟩
 refine ⟨_,rfl,_,rfl,_,rfl,a,_,rfl,SqL.of ha,fun l hl=>?_⟩
 rw [cut_to]
 have W:=aj hl (.lst (G.take i))
 refine ⟨_,rfl,l,h,G.take i,ss.take i,rfl,upd_same,jV i (J.same W),fun H2 Y=>?_⟩
 have ul:=mQ hi
 have en:=R.en h hh.1 hh.2
 rw [er] at en
 refine ⟨_,_,_,.int (nY ss inp i h),rfl,rfl,SqL.of (Y _ _ (W _ _ ab)),?_,q H2 (W.trans Y)⟩
 unfold nY
 rw [er]
 have:=dr (fd:=r) (a:=(aS (ss.take i) h:Int)) (by omega) (by omega)
 simpa using this
theorem x5:ax ["table","step","before","word","first"] ["table","step","before"] (ao gu):=⟨rfl,rfl,rfl,by decide +kernel,rfl,by decide +kernel,by decide +kernel⟩
theorem oX (F:Src K mg "reckoned" "reckoned" gu ["table","step","before"]) (T:Tab K C):Ok P w K mg base CX0 1 "reckoned" ["table","step","before"] (eO C):=by
 refine F.ok x5 (fun vs H Q E h=>?_) (fun f Y A outer s H vs Q E hr h=>?_)
 ·obtain ⟨t,b,r,p,n,f,z,fd,rfl,_⟩:=h
  rfl
 obtain ⟨t,b,r,p,n,f,z,fd,rfl,⟨dx,O⟩,hp,hz,I,R,U,J,q⟩:=h
 refine ⟨_,(ah (aB (i:=3) x5.nd rfl (Or.inl rfl) (aO aZ (pv 1) ae (fun _ _=>rfl)))
  (ah (bg (aA bQ (pv 3) aU (aI _))
   (ad (ay (aO aZ (pv 1) ae (fun _ _=>rfl))))
   aJ)
  (ah (aB (i:=4) x5.nd rfl (Or.inl rfl) (aO aP (pv 2) (aO aZ (pv 1) ae (fun _ _=>rfl)) (fun _ _=>rfl)))
  (ah (bg (aA bQ (pv 3) aU (aI _))
   (ad (ay (av bh (av bi (pv 4) (aO aP (pv 2) (aO aZ (pv 1) ae (fun _ _=>rfl)) (fun _ _=>rfl))) (aH (pv 0) rfl))))
   aJ)
  (ah (bg (aA bQ (pv 3) aU (aI _))
   (ad (ay (av bh (av bD (pv 4) (aO aP (pv 2) (aO aZ (pv 1) ae (fun _ _=>rfl)) (fun _ _=>rfl))) (aH (pv 0) rfl))))
   aJ)
  (ah (bg (aA bQ (pv 3) aU (aI _))
   (ad (ay (av bh (av bY (pv 4) (aO aZ (pv 1) ae (fun _ _=>rfl))) (aH (pv 0) rfl))))
   aJ)
  (ah (bg (aA bQ (pv 3) aU (aI _))
   (ad (ay (av bh (av bY (pv 4) (aO aP (pv 2) (aO aZ (pv 1) ae (fun _ _=>rfl)) (fun _ _=>rfl))) (aH (pv 0) rfl))))
   aJ)
  (ad (ay (pv 4)))))))))),?_⟩
 have d:=q H (Same.refl H)
 have G:∀ {x y:String}{α:Prop},decide (V.str (Str.ofString x)=V.str (Str.ofString y))=true→¬ Str.ofString x=Str.ofString y→α:=fun c h=>absurd (of_decide_eq_true c) (fun e=>h (by injection e))
 refine ⟨_,rfl,b,_,_,.str z.word,rfl,rfl,SqT.of hz,z.at0,?_⟩
 cases z with
 | ein h=>exact absurd rfl (U h)
 | fix x =>
  refine ⟨_,rfl,rfl,_,rfl,?_⟩
  refine bB (fun _=>?_) (fun c=>absurd (decide_eq_true (show V.str (Str.ofString "fix")=V.str (Str.ofString "fix") from rfl)) c)
  exact ⟨_,rfl,b,_,_,.int x,rfl,rfl,SqT.of hz,rfl,d⟩
 | sum a1 a2 =>
  have W:=iH J R.1.1 R.1.2
  have Z:=iH J R.2.1 R.2.2
  refine ⟨_,rfl,rfl,_,rfl,?_⟩
  refine bB (fun c=>G (x:="sum") (y:="fix") c (by decide +kernel)) (fun _=>?_)
  refine ⟨_,rfl,_,rfl,b,_,_,.int a1,rfl,rfl,SqT.of hz,rfl,r,_,_,_,rfl,rfl,SqL.of I,dr R.1.1 R.1.2,?_⟩
  refine ⟨_,rfl,rfl,_,rfl,?_⟩
  refine bB (fun _=>?_) (fun c=>absurd (decide_eq_true (show V.str (Str.ofString "sum")=V.str (Str.ofString "sum") from rfl)) c)
  refine ⟨_,rfl,_,rfl,_,rfl,b,_,_,.int a2,rfl,rfl,SqT.of hz,rfl,r,_,_,_,rfl,rfl,SqL.of I,dr R.2.1 R.2.2,_,_,rfl,rfl,?_⟩
  exact ⟨_,rfl,t,C,dx,_,_,rfl,O,T.cl,T.nP,i7 _ _ _,_,_,rfl,rfl,hp.1,d⟩
 | less a1 a2 =>
  refine ⟨_,rfl,rfl,_,rfl,?_⟩
  refine bB (fun c=>G (x:="less") (y:="fix") c (by decide +kernel)) (fun _=>?_)
  refine ⟨_,rfl,_,rfl,b,_,_,.int a1,rfl,rfl,SqT.of hz,rfl,r,_,_,_,rfl,rfl,SqL.of I,dr R.1.1 R.1.2,?_⟩
  refine ⟨_,rfl,rfl,_,rfl,?_⟩
  refine bB (fun c=>G (x:="less") (y:="sum") c (by decide +kernel)) (fun _=>?_)
  refine ⟨_,rfl,rfl,_,rfl,?_⟩
  refine bB (fun _=>?_) (fun c=>absurd (decide_eq_true (show V.str (Str.ofString "less")=V.str (Str.ofString "less") from rfl)) c)
  refine ⟨_,rfl,_,rfl,_,rfl,b,_,_,.int a2,rfl,rfl,SqT.of hz,rfl,r,_,_,_,rfl,rfl,SqL.of I,dr R.2.1 R.2.2,_,_,rfl,rfl,?_⟩
  exact ⟨_,rfl,t,C,dx,_,_,rfl,O,T.cl,T.nP,i7 _ _ _,_,_,rfl,rfl,hp.1,d⟩
 | bye a1 x =>
  have W:=iH J R.1.1 R.1.2
  refine ⟨_,rfl,rfl,_,rfl,?_⟩
  refine bB (fun c=>G (x:="by") (y:="fix") c (by decide +kernel)) (fun _=>?_)
  refine ⟨_,rfl,_,rfl,b,_,_,.int a1,rfl,rfl,SqT.of hz,rfl,r,_,_,_,rfl,rfl,SqL.of I,dr R.1.1 R.1.2,?_⟩
  refine ⟨_,rfl,rfl,_,rfl,?_⟩
  refine bB (fun c=>G (x:="by") (y:="sum") c (by decide +kernel)) (fun _=>?_)
  refine ⟨_,rfl,rfl,_,rfl,?_⟩
  refine bB (fun c=>G (x:="by") (y:="less") c (by decide +kernel)) (fun _=>?_)
  refine ⟨_,rfl,rfl,_,rfl,?_⟩
  refine bB (fun _=>?_) (fun c=>absurd (decide_eq_true (show V.str (Str.ofString "by")=V.str (Str.ofString "by") from rfl)) c)
  refine ⟨_,rfl,_,rfl,b,_,_,.int x,rfl,rfl,SqT.of hz,rfl,_,_,rfl,rfl,.inl ⟨by omega,by omega⟩,?_⟩
  exact ⟨_,rfl,t,C,dx,_,_,rfl,O,T.cl,T.nP,i7 _ _ _,_,_,rfl,rfl,hp.1,d⟩
 | mul a1 a2 =>
  have W:=iH J R.1.1 R.1.2
  refine ⟨_,rfl,rfl,_,rfl,?_⟩
  refine bB (fun c=>G (x:="mul") (y:="fix") c (by decide +kernel)) (fun _=>?_)
  refine ⟨_,rfl,_,rfl,b,_,_,.int a1,rfl,rfl,SqT.of hz,rfl,r,_,_,_,rfl,rfl,SqL.of I,dr R.1.1 R.1.2,?_⟩
  refine ⟨_,rfl,rfl,_,rfl,?_⟩
  refine bB (fun c=>G (x:="mul") (y:="sum") c (by decide +kernel)) (fun _=>?_)
  refine ⟨_,rfl,rfl,_,rfl,?_⟩
  refine bB (fun c=>G (x:="mul") (y:="less") c (by decide +kernel)) (fun _=>?_)
  refine ⟨_,rfl,rfl,_,rfl,?_⟩
  refine bB (fun c=>G (x:="mul") (y:="by") c (by decide +kernel)) (fun _=>?_)
  refine ⟨_,rfl,rfl,_,rfl,?_⟩
  refine bB (fun _=>?_) (fun c=>absurd (decide_eq_true (show V.str (Str.ofString "mul")=V.str (Str.ofString "mul") from rfl)) c)
  refine ⟨_,rfl,_,rfl,_,rfl,b,_,_,.int a2,rfl,rfl,SqT.of hz,rfl,r,_,_,_,rfl,rfl,SqL.of I,dr R.2.1 R.2.2,_,_,rfl,rfl,.inl ⟨by omega,by omega⟩,?_⟩
  exact ⟨_,rfl,t,C,dx,_,_,rfl,O,T.cl,T.nP,i7 _ _ _,_,_,rfl,rfl,hp.1,d⟩
 | anew a1 =>
  refine ⟨_,rfl,rfl,_,rfl,?_⟩
  refine bB (fun c=>G (x:="anew") (y:="fix") c (by decide +kernel)) (fun _=>?_)
  refine ⟨_,rfl,_,rfl,b,_,_,.int a1,rfl,rfl,SqT.of hz,rfl,r,_,_,_,rfl,rfl,SqL.of I,dr R.1 R.2,?_⟩
  refine ⟨_,rfl,rfl,_,rfl,?_⟩
  refine bB (fun c=>G (x:="anew") (y:="sum") c (by decide +kernel)) (fun _=>?_)
  refine ⟨_,rfl,rfl,_,rfl,?_⟩
  refine bB (fun c=>G (x:="anew") (y:="less") c (by decide +kernel)) (fun _=>?_)
  refine ⟨_,rfl,rfl,_,rfl,?_⟩
  refine bB (fun c=>G (x:="anew") (y:="by") c (by decide +kernel)) (fun _=>?_)
  refine ⟨_,rfl,rfl,_,rfl,?_⟩
  refine bB (fun c=>G (x:="anew") (y:="mul") c (by decide +kernel)) (fun _=>?_)
  exact ⟨_,rfl,d⟩
 | opn a1 =>
  refine ⟨_,rfl,rfl,_,rfl,?_⟩
  refine bB (fun c=>G (x:="open") (y:="fix") c (by decide +kernel)) (fun _=>?_)
  refine ⟨_,rfl,_,rfl,b,_,_,.int a1,rfl,rfl,SqT.of hz,rfl,r,_,_,_,rfl,rfl,SqL.of I,dr R.1 R.2,?_⟩
  refine ⟨_,rfl,rfl,_,rfl,?_⟩
  refine bB (fun c=>G (x:="open") (y:="sum") c (by decide +kernel)) (fun _=>?_)
  refine ⟨_,rfl,rfl,_,rfl,?_⟩
  refine bB (fun c=>G (x:="open") (y:="less") c (by decide +kernel)) (fun _=>?_)
  refine ⟨_,rfl,rfl,_,rfl,?_⟩
  refine bB (fun c=>G (x:="open") (y:="by") c (by decide +kernel)) (fun _=>?_)
  refine ⟨_,rfl,rfl,_,rfl,?_⟩
  refine bB (fun c=>G (x:="open") (y:="mul") c (by decide +kernel)) (fun _=>?_)
  exact ⟨_,rfl,d⟩
theorem yn:ax ["table","steps","inputs","made","place","step"] ["table","steps","inputs"] (ao lW):=⟨rfl,rfl,rfl,by decide +kernel,rfl,by decide +kernel,by decide +kernel⟩
theorem tP {cS cI:Addr} (F:Src K mg "plain" "plain" lW ["table","steps","inputs"]) (B:Blt mg) (xo:Ok P w K mg base (CXE P w) 5 "refuse_steps" ["table","steps"] (cF C cS)) (xi:Ok P w K mg base (CXE P w) 4 "refuse_inputs" ["table","steps","inputs"] (cn C cI))
  (yd:Ok P w K mg base CX0 2 "input_at" ["steps","place","inputs"] hZ) (xL:Ok P w K mg base CX0 1 "reckoned" ["table","step","before"] (eO C)):Ok P w K mg base (CXE P w) 6 "plain" ["table","steps","inputs"] (lK C cS cI):=by
 refine F.okE yn (fun vs H Q E h=>?_) (fun f cp A outer s H vs Q E hr h=>?_)
 ·obtain ⟨t,a,b,p,n,f,Z,ss,is,inp,rfl,_⟩:=h
  rfl
 obtain ⟨t,a,b,p,n,f,Z,ss,is,inp,rfl,T1,hp,hn,ha,I,hb,a1,a7,q1,q2,q3⟩:=h
 have wl:Z.length=ss.length:=Paired.length I
 refine ⟨_,(ah (aW (b9 xo hr rfl (aa (pv 0) (aa (pv 1) ac))))
  (ah (aW (b9 xi hr rfl (aa (pv 0) (aa (pv 1) (aa (pv 2) ac)))))
  (ah (aB (i:=3) yn.nd rfl (Or.inl rfl) (bd ac))
  (ah (PS.nox (bX PassesOwn.never rfl (mm rfl B.enumerate (aa (pv 1) ac)) (gh rfl (aE (ar (i:=4) yn.nd rfl (Or.inl rfl)) (aE (ar (i:=5) yn.nd rfl (Or.inl rfl)) bM)))
   (ad (bg (aA bQ (aO aZ (pv 5) ae (fun _ _=>rfl)) aU (aI _))
   (ad (aW (dX vm vA vB bq (pv 3) (aa (ak yd hr rfl (aa (pv 1) (aa (pv 4) (aa (pv 2) ac)))) ac))))
   (ad (aW (dX vm vA vB bq (pv 3) (aa (ak xL hr rfl (aa (pv 0) (aa (pv 5) (aa (pv 3) ac)))) ac))))))))
  (ad (ay (pv 3))))))),?_⟩
 refine ⟨_,rfl,_,rfl,t,a,p,n,f,Z,ss,rfl,T1,ha,I,fun hR H1 W=>?_,q2⟩
 refine ⟨_,rfl,_,rfl,_,rfl,t,a,b,p,n,f,Z,ss,is,inp,rfl,T1.same W,W _ _ ha,I.same W,W _ _ hb,a1.same W,a7,fun hI H2 s2=>?_,fun hI H' s'=>q3 hR hI H' (W.trans s')⟩
 obtain ⟨cl,b2⟩:=rightsB_iff.mp hR
 have a3:=(dI hn.1).mp hI
 have g2:=W.trans s2
 refine ⟨(by show 0≤sizeLine;decide),fun l hl=>?_⟩
 have a4:(upd H2 l (.lst [])) l=some (.lst (([]:List Int).map V.int)):=upd_same
 have g3:Same H (upd H2 l (.lst [])):=g2.trans (aj hl _)
 have Y:H l=none:=g2.free hl
 generalize upd H2 l (.lst [])=H3 at a4 g3
 refine ⟨_,rfl,a,_,rfl,SqL.of (g3 _ _ ha),?_⟩
 refine jC (K:=K) (a:=a) (xs:=Z) (k0:=0) (fun i σ R=>Same H R∧∃ (rest:List (List Int)) (fd:List Int) (v4 v5:Option V),σ=[some (.ref t),some (.ref a),some (.ref b),some (.ref l),v4,v5]∧R l=some (.lst (fd.map V.int))∧PlSt p n ss inp i rest fd∧Rests n ss inp rest i) ?_ ?_ ?_ ?_
 ·exact ⟨g3,inp,[],_,_,rfl,a4,PlSt.start a3,Rests.start⟩
 ·rintro i σ R ⟨s4,_⟩
  exact SqL.of (s4 _ _ ha)
 ·rintro i y σ R c hy ⟨s4,rest,fd,v4,v5,rfl,ai,S,Rr⟩ hc
  obtain ⟨d,z,rfl,hz,G⟩:=(I.same s4).get hy
  have co:i<ss.length:=(u3.mp G).1
  have Rz:=b2 i z G
  have s5:=aj hc (.tup [.int ((0+i:Nat):Int),.ref d])
  refine ⟨c,_,rfl,SqT.of upd_same,rfl,_,_,rfl,_,_,rfl,rfl,?_⟩
  have ag:=s5 _ _ hz
  have q:=s5 _ _ ai
  have O:=s4.trans s5
  generalize upd R c (.tup [.int ((0+i:Nat):Int),.ref d])=H5 at s5 ag q O
  have ei:((0+i:Nat):Int)=(i:Int):=by omega
  have fl:=S.fl
  have N:=S.next hp.1 G Rz
  have Nr:Rests n ss inp (eY rest z) (i+1):=Rr.next (p:=p) S.ok.len G Rz
  refine ⟨_,rfl,d,_,_,.str z.word,rfl,rfl,SqT.of ag,z.at0,rfl,_,rfl,?_⟩
  have a2:∀ (v:Int) (J:Hp),Same H5 J→jh p rest fd z=v→(((fd.map V.int).length<sizeLine)∧(Same H (upd J l (.lst (fd.map V.int++[.int v])))∧(upd J l (.lst (fd.map V.int++[.int v]))) l=some (.lst ((fd++[jh p rest fd z]).map V.int)))):=fun v J U e=>by
   refine ⟨au (by rw [lH];omega),am (O.trans U) Y,?_⟩
   rw [upd_same,u6,e]
   rfl
  refine bB (fun c1=>?_) (fun c1=>?_)
  ·have an:V.str z.word=V.str "in":=of_decide_eq_true c1
   injection an with an
   cases z with
   | ein h =>
    refine ⟨_,rfl,.inl ⟨rfl,_,SqL.of q⟩,_,rfl,_,rfl,_,rfl,a,b,i,h,p,n,Z,ss,is,inp,by rw [ei];rfl,O _ _ ha,I.same O,by omega,G,O _ _ hb,a1.same O,a3,Rz,fun J U=>?_⟩
    obtain ⟨w1,w2,w3⟩:=a2 (nY ss inp i h) J U (lC Rr Rz.1 Rz.2)
    exact ⟨l,_,_,rfl,rfl,U _ _ q,w1,w2,_,_,_,_,rfl,w3,N,Nr⟩
   | _=>exact absurd an (by simp only [Stp.word];decide +kernel)
  ·have a5:∀ h,z≠.ein h:=fun h e=>by
    subst e
    exact c1 (decide_eq_true rfl)
   have b1:z.Right p n (fd.length:Int):=by rw [fl];exact Rz
   refine ⟨_,rfl,.inl ⟨rfl,_,SqL.of q⟩,_,rfl,_,rfl,_,rfl,t,d,l,p,n,f,z,fd,rfl,T1.same O,hp,ag,q,b1,a5,S.fb,fun J U=>?_⟩
   obtain ⟨w1,w2,w3⟩:=a2 (recV p fd z) J U (stpV_rec a5)
   exact ⟨l,_,_,rfl,rfl,U _ _ q,w1,w2,_,_,_,_,rfl,w3,N,Nr⟩
 ·rintro σ R ⟨s4,rest,fd,v4,v5,rfl,ai,S,_⟩
  rw [wl] at S
  refine ⟨_,rfl,q1 hR hI l R s4 Y ?_⟩
  rw [ai,S.fin]
end
section
variable {P:Program}{w:World}{K:PySem.W.Frag}{mg:Str→Option Value}{base:Heap}{C pa:Addr}
theorem xf:ax ["table","some","last","hand"] ["table","some"] (ao bV):=⟨rfl,rfl,rfl,by decide +kernel,rfl,by decide +kernel,by decide +kernel⟩
theorem tO (F:Src K mg "are_rising_hands" "are_rising_hands" bV ["table","some"]) (T:Tab K C):Ok P w K mg base CX0 1 "are_rising_hands" ["table","some"] (lJ C):=by
 refine F.ok xf (fun vs H Q E h=>?_) (fun f ai A outer s H vs Q E hr h=>?_)
 ·obtain ⟨t,s,p,n,f,hs,rfl,_⟩:=h
  rfl
 obtain ⟨t,Z,p,n,f,hs,rfl,⟨dx,ht⟩,O,q⟩:=h
 refine ⟨_,(ah (aB (i:=2) xf.nd rfl (Or.inl rfl) ae)
  (ah (bX PassesOwn.never rfl (bn (pv 1)) (ar (i:=3) xf.nd rfl (Or.inl rfl))
   (ah (bg (PW.pt (kB (aA nC (pv 3) (pv 2) (aI _)) (iu (aA op_gt (pv 3) (aH (pv 0) rfl) (aI _)))))
   (ad (ay gS))
   aJ)
  (ad (aB (i:=2) xf.nd rfl (Or.inl rfl) (pv 3)))))
  (ad (ay gS)))),?_⟩
 have d:=q H (Same.refl H)
 refine ⟨_,rfl,Z,rfl,⟨_,SqL.of O⟩,?_⟩
 refine cR (K:=K) (a:=Z) (xs:=hs.map V.int) (fun i σ H2=>H2=H∧∃ (l:Int) (W:Option V),σ=[some (.ref t),some (.ref Z),some (.int l),W]∧oT n l (hs.drop i)=l6 n hs) ?_ ?_ ?_ ?_
 ·exact ⟨rfl,0,none,rfl,rfl⟩
 ·rintro i σ H2 _ ⟨rfl,_⟩
  exact SqL.of O
 ·rintro i y σ H2 I ⟨rfl,l,W,rfl,G⟩
  rw [u5] at I
  cases Y:hs[i]? with
  | none=>rw [Y] at I;cases I
  | some h =>
  rw [Y] at I
  cases I
  have ed:hs.drop i=h::hs.drop (i+1):=iZ Y
  rw [ed,oT] at G
  refine ⟨_,rfl,_,rfl,_,_,rfl,rfl,_,rfl,?_⟩
  refine bB (fun U=>?_) (fun U=>?_)
  ·have J:h≤l:=of_decide_eq_true U
   rw [if_pos (.inl J)] at G
   rw [← G] at d
   exact oA d
  have J:¬ h≤l:=of_decide_eq_false (vq.mpr U)
  refine ⟨_,rfl,_,rfl,t,C,dx,_,_,rfl,ht,T.cl,T.nH,oy _ _ _,_,_,rfl,rfl,_,rfl,?_⟩
  refine bB (fun R=>?_) (fun R=>?_)
  ·have ab:h > n:=of_decide_eq_true R
   rw [if_pos (.inr (by omega))] at G
   rw [← G] at d
   exact d
  have ab:¬ h > n:=of_decide_eq_false (vq.mpr R)
  rw [if_neg (by omega)] at G
  exact ⟨_,rfl,rfl,h,_,rfl,G⟩
 ·rintro σ H2 ⟨rfl,l,W,rfl,G⟩
  rw [lH,List.drop_length] at G
  rw [← G] at d
  exact d
theorem jO:ax ["table","some"] ["table","some"] (ao cZ):=⟨rfl,rfl,rfl,by decide +kernel,rfl,by decide +kernel,by decide +kernel⟩
theorem jq {cH:Addr}{bmH:List Value} (F:Src K mg "refuse_hands" "refuse_hands" cZ ["table","some"]) (Aq:Exc K mg "BadHands" cH bmH) (x8:Ok P w K mg base CX0 1 "are_rising_hands" ["table","some"] (lJ C)):Ok P w K mg base (CXE P w) 2 "refuse_hands" ["table","some"] (dA C cH):=by
 refine F.okE jO (fun vs H Q E h=>?_) (fun f W A outer s H vs Q E hr h=>?_)
 ·obtain ⟨t,s,p,n,f,hs,rfl,_⟩:=h
  rfl
 obtain ⟨t,R,p,n,f,hs,rfl,J,I,O,U⟩:=h
 refine ⟨_,(ad (bg (gH (gG (ak x8 hr rfl (aa (pv 0) (aa (pv 1) ac))) (fun _=>rfl)))
   (ad (gA Aq rfl aU))
   aJ)),?_⟩
 refine ⟨_,rfl,_,rfl,t,R,p,n,f,hs,rfl,J,I,fun H1 q=>?_⟩
 cases G:l6 n hs with
 | true=>exact ⟨_,rfl,uk (O G H1 q)⟩
 | false=>exact ⟨_,rfl,oA ⟨by decide,U G H1 q⟩⟩
theorem yu:ax ["table","some","row","hand","slope"] ["table","some"] (ao pP):=⟨rfl,rfl,rfl,by decide +kernel,rfl,by decide +kernel,by decide +kernel⟩
theorem A3 {cH cN:Addr}{bmN:List Value} (F:Src K mg "veil" "veil" pP ["table","some"]) (B:Blt mg) (T:Tab K C) (xY:Exc K mg "NoVeil" cN bmN) (xC:Ok P w K mg base (CXE P w) 2 "refuse_hands" ["table","some"] (dA C cH)) (Ay:Ok P w K mg base CX0 1 "back" ["table","number"] (pO C)):Ok P w K mg base (CXE P w) 3 "veil" ["table","some"] (oF C cH cN):=by
 refine F.okE yu (fun vs H Q E h=>?_) (fun f da A outer s H vs Q E hr h=>?_)
 ·obtain ⟨t,s,p,n,f,hs,rfl,_⟩:=h
  rfl
 obtain ⟨t,sa,p,n,f,hs,rfl,T1,hp,hn,hf,W,q1,q2,q3⟩:=h
 refine ⟨_,(ah (aW (b9 xC hr rfl (aa (pv 0) (aa (pv 1) ac))))
  (ah (bg (aA op_gt (aK aG rfl B.len vE (aa (pv 1) ac)) (aH (pv 0) rfl) (aI _))
   (ad (gA xY rfl aU))
   aJ)
  (ah (aB (i:=2) yu.nd rfl (Or.inl rfl) (bd (aa ae ac)))
  (ah (PS.nox (bX PassesOwn.never rfl (bn (pv 1)) (ar (i:=3) yu.nd rfl (Or.inl rfl))
   (ah (aB (i:=4) yu.nd rfl (Or.inr rfl) (ak Ay hr rfl (aa (pv 0) (aa (pv 3) ac))))
  (ad (b8 2 ["here","before"] [("table",0),("slope",4)] yu.nd  (gI rfl B.zip (aa (av gJ (pv 2) (bd (aa ae ac))) (aa (av gJ (bd (aa ae ac)) (pv 2)) ac))) rfl (fun C s0 H0 ex=>by exact (eJ K 2 rfl (aE (ar (i:=0) (show List.Nodup [("here":Str),"before","table","slope"] by decide +kernel) rfl (Or.inl rfl)) (aE (ar (i:=1) (show List.Nodup [("here":Str),"before","table","slope"] by decide +kernel) rfl (Or.inl rfl)) bM)))) (fun C s0 H0 ex=>by exact bc) (fun C s0 H0 ex=>by exact (av bh (av bD (pv 0) (av bY (pv 3) (pv 1))) (dv K (pv 2) rfl))))))))
  (ad (ay (av gJ (pv 2) (av tK (bd (aa ae ac)) (av bD (av bi (aH (pv 0) rfl) ae) (aK aG rfl B.len vE (aa (pv 2) ac))))))))))),?_⟩
 have pp:=jc hp
 refine ⟨_,rfl,_,rfl,t,sa,p,n,f,hs,rfl,T1,W,fun hR H1 s1=>?_,q2⟩
 have cf:=(risB_iff.mp hR).1
 obtain ⟨dx,ht⟩:=id T1
 refine ⟨_,rfl,sa,_,rfl,.inl (SqL.of (s1 _ _ W)),_,rfl,t,C,dx,_,_,rfl,s1 _ _ ht,T.cl,T.nF,tf_f _ _ _,_,_,rfl,rfl,_,rfl,?_⟩
 rw [lH]
 refine bB (fun c=>?_) (fun c=>?_)
 ·have c':(hs.length:Int) > f:=of_decide_eq_true c
  exact ⟨by decide,q3 hR (by omega) H1 s1⟩
 have c':¬ (hs.length:Int) > f:=of_decide_eq_false (vq.mpr c)
 refine ⟨(by show 1≤sizeLine;decide),fun r0 ct=>?_⟩
 have s2:=aj ct (.lst [.int 1])
 have a7:(upd H1 r0 (.lst [.int 1])) r0=some (.lst ((fV p (hs.take 0)).map V.int)):=upd_same
 generalize upd H1 r0 (.lst [.int 1])=H2 at s2 a7
 have g2:=s1.trans s2
 refine ⟨_,rfl,sa,rfl,⟨_,SqL.of (g2 _ _ W)⟩,?_⟩
 refine cR (K:=K) (a:=sa) (xs:=hs.map V.int) (fun i σ H3=>Same H H3∧∃ (I:Addr) (v3 v4:Option V),σ=[some (.ref t),some (.ref sa),some (.ref I),v3,v4]∧H3 I=some (.lst ((fV p (hs.take i)).map V.int))∧i≤hs.length) ?_ ?_ ?_ ?_
 ·exact ⟨g2,r0,none,none,rfl,a7,vk _⟩
 ·rintro i σ H3 _ ⟨O,_⟩
  exact SqL.of (O _ _ W)
 ·rintro i y σ H3 hy ⟨O,I,v3,v4,rfl,q,hi⟩
  rw [u5] at hy
  cases hv:hs[i]? with
  | none=>rw [hv] at hy;cases hy
  | some h =>
  rw [hv] at hy
  cases hy
  have hb:=cf h (u4 hv)
  have il:i<hs.length:=(u3.mp hv).1
  refine ⟨_,rfl,_,rfl,t,p,n,f,h,rfl,T1.same O,hp,⟨by omega,by omega⟩,by omega,fun H4 J=>?_⟩
  have rl:=jG p (hs.take i)
  rw [vj] at rl
  have rb:=sE (p:=p) (by omega) (hs.take i)
  generalize bf:fV p (hs.take i)=row at q rl rb
  have bk:=(gB hp (x:=h) (by rw [vO (by omega) (by omega)];omega)).1
  generalize b5:bT p h=sl at bk
  have al:=J _ _ q
  have g4:=O.trans J
  refine ⟨_,rfl,(by show 1≤sizeLine;decide),fun o1 a1=>?_⟩
  have U:=aj a1 (.lst [.int 0])
  refine ⟨I,o1,_,_,rfl,rfl,U _ _ al,upd_same,by rw [lH];exact small (by show _+1≤1000;omega),fun G af=>?_⟩
  have s6:=aj af (.lst (row.map V.int++[.int 0]))
  refine ⟨(by show 1≤sizeLine;decide),fun o3 cr=>?_⟩
  have s7:=aj cr (.lst [.int 0])
  refine ⟨_,rfl,o3,I,_,_,rfl,rfl,upd_same,s7 _ _ (s6 _ _ (U _ _ al)),by rw [lH];exact small (by show 1+_≤1000;omega),fun Z cs=>?_⟩
  have s8:=aj cs (.lst ([.int 0]++row.map V.int))
  have a9:=U.trans (s6.trans (s7.trans s8))
  have k2:=(s7.trans s8) _ _ (upd_same (H:=upd H4 o1 (.lst [.int 0])) (a:=G) (o:=.lst (row.map V.int++[.int 0])))
  have k4:(upd (upd (upd (upd H4 o1 (.lst [.int 0])) G (.lst (row.map V.int++[.int 0]))) o3 (.lst [.int 0])) Z (.lst ([.int 0]++row.map V.int))) Z=some (.lst ([.int 0]++row.map V.int)):=upd_same
  generalize (upd (upd (upd (upd H4 o1 (.lst [.int 0])) G (.lst (row.map V.int++[.int 0]))) o3 (.lst [.int 0])) Z (.lst ([.int 0]++row.map V.int)))=H8 at s8 a9 k2 k4
  have g8:=g4.trans a9
  have ba:H8 G=some (.lst ((row++[0]).map V.int)):=by rw [k2,u6];rfl
  have a8:H8 Z=some (.lst ((0::row).map V.int)):=k4
  refine ⟨G,Z,_,_,rfl,SqL.of ba,SqL.of a8,fun D hD=>?_⟩
  refine fP (K:=K) (a:=G) (b:=Z) (xs:=(row++[0]).map V.int) (zs:=(0::row).map V.int) (fun j ys H9=>j≤row.length+1∧ys=((gD p sl row).take j).map V.int∧Same H8 H9) ⟨vk _,rfl,am (Same.refl _) hD⟩ ?_ ?_ ?_
  ·rintro j ys H9 ⟨_,_,R⟩
   exact ⟨SqL.of (R _ _ ba),SqL.of (R _ _ a8)⟩
  ·rintro j x z ys H9 c hx hz ⟨hj,rfl,R⟩ Y hc
   rw [u5] at hx hz
   cases h1:(row++[0])[j]? with
   | none=>rw [h1] at hx;cases hx
   | some x1 =>
   cases h2:(0::row)[j]? with
   | none=>rw [h2] at hz;cases hz
   | some z1 =>
   rw [h1] at hx
   rw [h2] at hz
   cases hx
   cases hz
   have jl:j<row.length+1:=by have:=(u3.mp h2).1;simpa using this
   have as:=aj hc (.tup [.int x1,.int z1])
   refine ⟨c,_,rfl,SqT.of upd_same,rfl,_,_,rfl,_,_,rfl,rfl,⟨rfl,rfl⟩,?_⟩
   refine ⟨_,rfl,_,rfl,_,rfl,_,_,rfl,rfl,.inl ⟨by omega,by omega⟩,_,_,rfl,rfl,_,rfl,t,C,dx,_,_,rfl,(g8.trans (R.trans as)) _ _ ht,T.cl,T.nP,i7 _ _ _,_,_,rfl,rfl,by omega,?_⟩
   refine ⟨as _ _ Y,au (by rw [lH,vj];omega),jl,?_,am (R.trans as) hD⟩
   have cb:(gD p sl row)[j]?=some ((x1 - sl*z1)%p):=by
    unfold gD
    rw [wm,h1,h2]
   rw [vn,cb,u6]
   rfl
  ·rintro ys H9 ⟨_,rfl,R⟩ Y
   rw [vi (by rw [mM];simp)] at Y
   refine ⟨g8.trans R,D,_,_,rfl,?_,il⟩
   rw [Y,vn,hv]
   show _=some (HO.lst ((fV p (hs.take i++[h])).map V.int))
   rw [qP,bf,b5]
 ·rintro σ H3 ⟨O,I,v3,v4,rfl,q,_⟩
  rw [lH,vI] at q
  have rl:=jG p hs
  refine ⟨_,rfl,(by show 1≤sizeLine;decide),fun o1 a1=>?_⟩
  have J:=aj a1 (.lst [.int 0])
  refine ⟨_,rfl,t,C,dx,_,_,rfl,(O.trans J) _ _ ht,T.cl,T.nF,tf_f _ _ _,_,_,rfl,rfl,_,rfl,I,_,rfl,.inl (SqL.of (J _ _ q)),_,_,rfl,rfl,?_⟩
  rw [lH,rl]
  refine ⟨o1,_,_,rfl,rfl,upd_same,by omega,by omega,?_,fun G af=>?_⟩
  ·exact small (by show 1*_≤1000;omega)
  have U:=aj af (.lst (List.replicate (f+1 - ((hs.length+1:Nat):Int)).toNat [V.int 0]).flatten)
  refine ⟨I,G,_,_,rfl,rfl,U _ _ (J _ _ q),upd_same,?_,fun d hd=>?_⟩
  ·rw [ug,lH,rl]
   exact small (by show _+_*1≤1000;omega)
  ·refine q1 hR (by omega) d _ ((O.trans (J.trans U)).trans (aj hd _)) ((O.trans (J.trans U)).free hd) ?_
   rw [upd_same]
   unfold bv
   rw [u6,List.map_replicate]
   have e:(f+1 - ((hs.length+1:Nat):Int)).toNat=f.toNat+1 - (hs.length+1):=by omega
   rw [e]
   have fl:∀ k:Nat,(List.replicate k [V.int 0]).flatten=List.replicate k (V.int 0):=fun k=>by
    induction k with
    | zero=>rfl
    | succ k ih=>rw [we,vX,ih];rfl
   rw [fl]
end
section
variable {P:Program}{w:World}{K:PySem.W.Frag}{mg:Str→Option Value}{base:Heap}{C pa:Addr}
theorem jm:ax ["table","steps","chance"] ["table","steps","chance"] (ao cJ):=⟨rfl,rfl,rfl,by decide +kernel,rfl,by decide +kernel,by decide +kernel⟩
theorem iR {cS cC:Addr}{bmC:List Value} (F:Src K mg "refuse_chance" "refuse_chance" cJ ["table","steps","chance"]) (B:Blt mg) (zI:Exc K mg "BadChance" cC bmC) (Bn:Ok P w K mg base CX0 6 "needs" ["table","steps"] (fun vs H Q _=>lN C cS vs H Q E0)) (xQ:Ok P w K mg base CX0 2 "are_numbers" ["table","values"] (ic C)):Ok P w K mg base (CXE P w) 7 "refuse_chance" ["table","steps","chance"] (eH C cC):=by
 refine F.okE jm (fun vs H Q E h=>?_) (fun f ai A outer s H vs Q E hr h=>?_)
 ·obtain ⟨t,a,c,p,n,f,J,ss,ch,rfl,_⟩:=h
  rfl
 obtain ⟨t,a,c,p,n,f,J,ss,ch,rfl,U,hn,hf,ha,O,hc,I,hR,q1,Y⟩:=h
 refine ⟨_,(ad (bg (PW.pt (kB (aA oU (aK aG rfl B.len vE (aa (pv 2) ac)) (ak Bn hr rfl (aa (pv 0) (aa (pv 1) ac))) (aI _)) (iu (gH (gG (ak xQ hr rfl (aa (pv 0) (aa (pv 2) ac))) (fun _=>rfl))))))
   (ad (gA zI rfl aU))
   aJ)),?_⟩
 refine ⟨_,rfl,c,_,rfl,.inl (SqL.of hc),_,rfl,_,rfl,t,a,p,n,f,J,ss,rfl,U,hn,hf,ha,O,fun _ H1 q=>?_,fun z=>absurd (z.symm.trans hR) (by decide)⟩
 refine ⟨rfl,_,rfl,?_⟩
 rw [lH]
 refine bB (fun G=>?_) (fun G=>?_)
 ·refine oA ⟨by decide,Y (fun z=>?_) H1 q⟩
  rw [z.1] at G
  simp at G
 have R:(ch.length:Int)=aY f n ss:=Classical.byContradiction fun e=>G (by
  show (!decide (V.int (ch.length:Int)=V.int (aY f n ss)))=true
  rw [decide_eq_false (fun z=>e (by injection z))]
  rfl)
 refine ⟨_,rfl,_,rfl,t,c,p,n,f,ch,rfl,U.same q,q _ _ hc,I,fun H2 Z=>⟨_,rfl,?_⟩⟩
 cases W:ch.all (kI p) with
 | false=>exact ⟨by decide,Y (fun z=>absurd (z.2.symm.trans W) (by decide)) H2 (q.trans Z)⟩
 | true=>exact q1 R W H2 (q.trans Z)
theorem lS:ax ["table","steps","inputs","chance"] ["table","steps","inputs","chance"] (ao dZ):=⟨rfl,rfl,rfl,by decide +kernel,rfl,by decide +kernel,by decide +kernel⟩
theorem kD {cS cI cC:Addr} (F:Src K mg "refuse_run" "refuse_run" dZ ["table","steps","inputs","chance"]) (xo:Ok P w K mg base (CXE P w) 5 "refuse_steps" ["table","steps"] (cF C cS)) (xi:Ok P w K mg base (CXE P w) 4 "refuse_inputs" ["table","steps","inputs"] (cn C cI)) (yj:Ok P w K mg base (CXE P w) 7 "refuse_chance" ["table","steps","chance"] (eH C cC)):Ok P w K mg base (CXE P w) 8 "refuse_run" ["table","steps","inputs","chance"] (eZ C cS cI cC):=by
 refine F.okE lS (fun vs H Q E h=>?_) (fun f a5 A outer s H vs Q E hr h=>?_)
 ·obtain ⟨t,a,b,c,p,n,f,O,ss,is,inp,ch,rfl,_⟩:=h
  rfl
 obtain ⟨t,a,b,c,p,n,f,O,ss,is,inp,ch,rfl,Z,hn,hf,Y,I,hb,af,U,hc,ai,q1,q2,q3,q4⟩:=h
 refine ⟨_,(ah (aW (b9 xo hr rfl (aa (pv 0) (aa (pv 1) ac))))
  (ah (aW (b9 xi hr rfl (aa (pv 0) (aa (pv 1) (aa (pv 2) ac)))))
  (ad (aW (b9 yj hr rfl (aa (pv 0) (aa (pv 1) (aa (pv 3) ac)))))))),?_⟩
 refine ⟨_,rfl,_,rfl,t,a,p,n,f,O,ss,rfl,Z,Y,I,fun J H1 q=>?_,q2⟩
 refine ⟨_,rfl,_,rfl,_,rfl,t,a,b,p,n,f,O,ss,is,inp,rfl,Z.same q,q _ _ Y,I.same q,q _ _ hb,af.same q,U,fun R H2 s2=>?_,fun R H' s'=>q3 J R H' (q.trans s')⟩
 have G:=q.trans s2
 have hB:∀ b,dW p f n ss ch=b→(b=true↔((ch.length:Int)=aY f n ss∧ch.all (kI p)=true)):=fun b e=>by
  rw [← e]
  unfold dW
  rw [vx,decide_eq_true_eq]
 refine ⟨_,rfl,_,rfl,_,rfl,t,a,c,p,n,f,O,ss,ch,rfl,Z.same G,hn,hf,G _ _ Y,I.same G,G _ _ hc,ai,J,fun z1 z2 H3 W=>q1 J R ((hB _ rfl).mpr ⟨z1,z2⟩) H3 (G.trans W),fun z H3 W=>q4 J R ?_ H3 (G.trans W)⟩
 cases e:dW p f n ss ch with
 | false=>rfl
 | true=>exact absurd ((hB _ e).mp rfl) z
theorem qX:ax ["table","parts","numbers"] ["table","parts","numbers"] (ao ik):=⟨rfl,rfl,rfl,by decide +kernel,rfl,by decide +kernel,by decide +kernel⟩
theorem rn (F:Src K mg "weighed" "weighed" ik ["table","parts","numbers"]) (B:Blt mg) (T:Tab K C):Ok P w K mg base CX0 1 "weighed" ["table","parts","numbers"] (hW C):=by
 refine F.ok qX (fun vs H Q E h=>?_) (fun f as A outer s H vs Q E hr h=>?_)
 ·obtain ⟨t,a,b,p,n,f,xs,ys,rfl,_⟩:=h
  rfl
 obtain ⟨t,a,b,p,n,f,xs,ys,rfl,⟨dx,ht⟩,hp,ha,hb,hl,Y,hy,q⟩:=h
 refine ⟨_,(ad (ay (av bh (aK (km rfl) rfl B.sum PyProof.Rows.boot_sum (aa (bw ["part","number"] []  (gI rfl B.zip (aa (pv 1) (aa (pv 2) ac))) rfl (fun C s0 H0 ex=>by exact (eJ K 2 rfl (aE (ar (i:=0) (show List.Nodup [("part":Str),"number"] by decide +kernel) rfl (Or.inl rfl)) (aE (ar (i:=1) (show List.Nodup [("part":Str),"number"] by decide +kernel) rfl (Or.inl rfl)) bM)))) (fun C s0 H0 ex=>by exact bc) (fun C s0 H0 ex=>by exact (av bY (pv 0) (pv 1)))) ac)) (aH (pv 0) rfl)))),?_⟩
 refine ⟨_,rfl,_,rfl,a,b,_,_,rfl,SqL.of ha,SqL.of hb,fun D W=>?_⟩
 refine fP (K:=K) (a:=a) (b:=b) (xs:=xs.map V.int) (zs:=ys.map V.int) (fun j O H2=>j≤xs.length∧O=((List.zipWith (·*·) xs ys).take j).map V.int∧Same H H2) ⟨vk _,rfl,am (Same.refl _) W⟩ ?_ ?_ ?_
 ·rintro j O H2 ⟨_,_,G⟩
  exact ⟨SqL.of (G _ _ ha),SqL.of (G _ _ hb)⟩
 ·rintro j x z O H2 c ex J ⟨hj,rfl,G⟩ I hc
  rw [u5] at ex J
  cases h1:xs[j]? with
  | none=>rw [h1] at ex;cases ex
  | some x1 =>
  cases h2:ys[j]? with
  | none=>rw [h2] at J;cases J
  | some z1 =>
  rw [h1] at ex
  rw [h2] at J
  cases ex
  cases J
  have jl:j<xs.length:=(u3.mp h1).1
  have U:=Y x1 (u4 h1)
  have R:=aj hc (.tup [.int x1,.int z1])
  refine ⟨c,_,rfl,SqT.of upd_same,rfl,_,_,rfl,_,_,rfl,rfl,⟨rfl,rfl⟩,?_⟩
  refine ⟨_,rfl,_,rfl,_,_,rfl,rfl,.inl ⟨by omega,by omega⟩,?_⟩
  refine ⟨R _ _ I,au (by rw [lH,vj];omega),jl,?_,am (G.trans R) W⟩
  have Z:(List.zipWith (·*·) xs ys)[j]?=some (x1*z1):=by rw [wm,h1,h2]
  rw [vn,Z,u6]
  rfl
 ·rintro O H2 ⟨_,rfl,G⟩ I
  rw [vi (by rw [vY,lH,lH];exact va _)] at I
  have pb:∀ v∈List.zipWith (·*·) xs ys,0≤v∧v≤1000000:=fun v hv=>by
   obtain ⟨i,hi⟩:=vU hv
   rw [wm] at hi
   cases h1:xs[i]? with
   | none=>rw [h1] at hi;cases hi
   | some x1 =>
   cases h2:ys[i]? with
   | none=>rw [h1,h2] at hi;cases hi
   | some z1 =>
   rw [h1,h2] at hi
   have e:x1*z1=v:=by simpa using hi
   have U:=Y x1 (u4 h1)
   have bz:=hy z1 (u4 h2)
   rw [← e]
   exact ⟨Int.mul_nonneg U.1 bz.1,Int.le_trans (Int.mul_le_mul (show x1≤31 by omega) (show z1≤31 by omega) bz.1 (by decide)) (by decide)⟩
  refine ⟨D,_,rfl,SqL.of I,by rw [vY];omega,pb,?_⟩
  exact ⟨_,rfl,t,C,dx,_,_,rfl,G _ _ ht,T.cl,T.nP,i7 _ _ _,_,_,rfl,rfl,hp.1,q H2 G⟩
end
section
variable {P:Program}{w:World}{K:PySem.W.Frag}{mg:Str→Option Value}{base:Heap}{C pa:Addr}
theorem xa:ax ["table","steps","chance","found","used","step","rows","place","start"] ["table","steps","chance"] (ao cz):=⟨rfl,rfl,rfl,by decide +kernel,rfl,by decide +kernel,by decide +kernel⟩
theorem iS (F:Src K mg "chance_by_step" "chance_by_step" cz ["table","steps","chance"]) (B:Blt mg) (T:Tab K C) (xp:Ok P w K mg base CX0 2 "dealers" ["table","step"] (dk C)):Ok P w K mg base CX0 3 "chance_by_step" ["table","steps","chance"] (cq C):=by
 refine F.ok xa (fun vs H Q E h=>?_) (fun f c4 A outer s H vs Q E hr h=>?_)
 ·obtain ⟨t,a,c,p,n,f,ws,ss,ch,rfl,_⟩:=h
  rfl
 obtain ⟨t,a,c,p,n,f,ws,ss,ch,rfl,T1,hn,hf,ha,a6,c1,bx,q⟩:=h
 have wl:ws.length=ss.length:=Paired.length a6
 refine ⟨_,(ah (aB (i:=3) xa.nd rfl (Or.inl rfl) (bd ac))
  (ah (aB (i:=4) xa.nd rfl (Or.inl rfl) ae)
  (ah (bX PassesOwn.never rfl (bn (pv 1)) (ar (i:=5) xa.nd rfl (Or.inl rfl))
   (ah (aB (i:=6) xa.nd rfl (Or.inl rfl) (bd ac))
  (ah (bX PassesOwn.never rfl (gg rfl B.range (aa (aK aG rfl B.len vE (aa (ak xp hr rfl (aa (pv 0) (aa (pv 5) ac))) ac)) ac)) (ar (i:=7) xa.nd rfl (Or.inl rfl))
   (ah (aB (i:=8) xa.nd rfl (Or.inl rfl) (av bi (pv 4) (av bY (pv 7) (aH (pv 0) rfl))))
  (ad (aW (dX vm vA vB bq (pv 6) (aa (df e9 (pv 2) (dQ (pv 8)) (dQ (av bi (pv 8) (aH (pv 0) rfl)))) ac))))))
  (ah (ps_aug (i:=4) xa.nd rfl (Or.inl rfl) (av bY (aK aG rfl B.len vE (aa (pv 6) ac)) (aH (pv 0) rfl)) ip_add)
  (ad (aW (dX vm vA vB bq (pv 3) (aa (pv 6) ac))))))))
  (ad (ay (pv 3)))))),?_⟩
 obtain ⟨dx,ht⟩:=id T1
 obtain ⟨G,rfl⟩:∃ G:Nat,f=(G:Int):=⟨f.toNat,by omega⟩
 have ef:((G:Int)).toNat=G:=by omega
 rw [ef] at q
 refine ⟨(by show 0≤sizeLine;decide),fun l hl=>?_⟩
 have sb:=aj hl (.lst [])
 have a3:(upd H l (.lst [])) l=some (.lst []):=upd_same
 have hk:∀ x,H x=none→x≠l→(upd H l (.lst [])) x=none:=fun x e n=>by rw [az n];exact e
 generalize upd H l (.lst [])=Hb at sb a3 hk
 refine ⟨_,rfl,a,rfl,⟨_,SqL.of (sb _ _ ha)⟩,?_⟩
 refine cR (K:=K) (a:=a) (xs:=ws) (fun i σ H2=>Same H H2∧∃ (as:List Addr) (v5 v6 v7 v8:Option V),σ=[some (.ref t),some (.ref a),some (.ref c),some (.ref l),some (.int ((aT G n (ss.take i):Nat):Int)),v5,v6,v7,v8]∧H2 l=some (.lst (as.map V.ref))∧LLNew Hb H2 as ((bA G n ch ss 0).take i)) ?_ ?_ ?_ ?_
 ·exact ⟨sb,[],_,_,_,_,rfl,a3,.nil⟩
 ·rintro i σ H2 _ ⟨R,_⟩
  exact SqL.of (R _ _ ha)
 ·rintro i y σ H2 hy ⟨R,as,v5,v6,v7,v8,rfl,O,W⟩
  obtain ⟨d,z,rfl,hz,ai⟩:=(a6.same R).get hy
  have il:i<ss.length:=(u3.mp ai).1
  have c2:as.length≤100:=by
   rw [Paired.length W,vj]
   omega
  have dl:=ce hn.1 hn.2 z
  refine ⟨(by show 0≤sizeLine;decide),fun r Y=>?_⟩
  have s3:=aj Y (.lst [])
  have a7:(upd H2 r (.lst [])) r=some (.lst (([]:List Addr).map V.ref)):=upd_same
  have rl:r≠l:=fun e=>by rw [e,O] at Y;cases Y
  have rb:Hb r=none:=hk r (R.free Y) rl
  generalize upd H2 r (.lst [])=H3 at s3 a7
  have g3:=R.trans s3
  refine ⟨_,rfl,_,rfl,t,d,p,n,_,z,rfl,T1.same g3,hn,s3 _ _ hz,fun dd H4 s4 cs b5=>?_⟩
  refine ⟨dd,_,rfl,.inl (SqL.of b5),_,rfl,by omega,by rw [lH];omega,?_⟩
  rw [lH]
  generalize hU:aT G n (ss.take i)=U
  have b3:=s3.trans s4
  refine kh (fun k σ H5=>Same H2 H5∧∃ (bs:List Addr) (v7 v8:Option V),σ=[some (.ref t),some (.ref a),some (.ref c),some (.ref l),some (.int (U:Int)),some (.ref d),some (.ref r),v7,v8]∧H5 r=some (.lst (bs.map V.ref))∧InsAt H5 bs (aN G ch U k)∧(∀ b∈bs,Hb b=none)∧r∉bs∧k≤10) ⟨b3,[],_,_,rfl,s4 _ _ a7,.nil,(fun b h=>nomatch h),(fun h=>nomatch h),by decide⟩ ?_ ?_
  ·rintro k σ H5 c5 ⟨Z,bs,w7,w8,rfl,J,I,an,al,cb⟩
   have c3:k<(z.dealers n).length:=by omega
   have g5:=R.trans Z
   have bl:bs.length=k:=by rw [Paired.length I];unfold aN;rw [lH,vo]
   refine ⟨_,rfl,_,rfl,_,rfl,t,C,dx,_,_,rfl,g5 _ _ ht,T.cl,T.nF,tf_f _ _ _,_,_,rfl,rfl,.inl ⟨by omega,by omega⟩,_,_,rfl,rfl,?_⟩
   have e8:(U:Int)+(0+(k:Int))*(G:Int)=((U+k*G:Nat):Int):=by rw [wP];push_cast;rfl
   refine ⟨_,rfl,.inl ⟨rfl,_,SqL.of J⟩,_,rfl,_,rfl,_,rfl,_,rfl,_,rfl,t,C,dx,_,_,rfl,g5 _ _ ht,T.cl,T.nF,tf_f _ _ _,_,_,rfl,rfl,_,rfl,c,_,rfl,SqL.of (g5 _ _ bx),fun o ho=>?_⟩
   dsimp only
   rw [e8,cut_mid,← List.map_drop,← List.map_take]
   have s6:=aj ho (.lst (((ch.drop (U+k*G)).take G).map V.int))
   have or:o≠r:=fun e=>by rw [e,J] at ho;cases ho
   have ol:o≠l:=fun e=>by rw [e,Z _ _ O] at ho;cases ho
   refine ⟨r,_,_,rfl,rfl,s6 _ _ J,by rw [lH,bl];exact au (by omega),?_⟩
   refine ⟨am (Z.trans s6) Y,bs++[o],_,_,rfl,by rw [upd_same,u6];rfl,?_,fun b hb=>?_,fun h=>?_,by omega⟩
   ·rw [n6]
    refine InsAt.off (InsAt.snoc (I.same s6) upd_same) fun h=>?_
    rcases vr.mp h with h | h
    ·exact al h
    ·exact or (u9.mp h).symm
   ·rcases vr.mp hb with h | h
    ·exact an b h
    ·rw [u9.mp h]
     exact hk o (g5.free ho) ol
   ·rcases vr.mp h with h | h
    ·exact al h
    ·exact or (u9.mp h).symm
  ·rintro σ H5 ⟨Z,bs,w7,w8,rfl,J,I,an,al,_⟩
   have g5:=R.trans Z
   have ek:((((z.dealers n).length:Nat):Int)).toNat=(z.dealers n).length:=by omega
   rw [ek] at I
   have bl:bs.length=(z.dealers n).length:=by rw [Paired.length I];unfold aN;rw [lH,vo]
   refine ⟨_,rfl,_,rfl,r,_,rfl,.inl (SqL.of J),_,rfl,t,C,dx,_,_,rfl,g5 _ _ ht,T.cl,T.nF,tf_f _ _ _,_,_,rfl,rfl,.inl ⟨by omega,by rw [lH];omega⟩,_,_,rfl,rfl,?_⟩
   refine ⟨_,rfl,.inl ⟨rfl,_,SqL.of (Z _ _ O)⟩,_,rfl,l,_,_,rfl,rfl,Z _ _ O,by rw [lH];exact au (by omega),?_⟩
   refine ⟨am g5 hl,as++[r],some (.ref d),some (.ref r),w7,w8,?_,by rw [upd_same,u6];rfl,?_⟩
   ·rw [dN ai,hU,lH,bl]
    show [_,_,_,_,some (V.int ((U:Int)+((z.dealers n).length:Int)*(G:Int))),_,_,_,_]=_
    rw [show (((U+(z.dealers n).length*G:Nat)):Int)=(U:Int)+((z.dealers n).length:Int)*(G:Int) by push_cast;rfl]
   ·rw [dg ai]
    refine LLNew.off a3 (Paired.snoc (W.same Z) ⟨rb,bs,J,?_,an⟩)
    rw [hU]
    exact I
 ·rintro σ H2 ⟨R,as,v5,v6,v7,v8,rfl,O,W⟩
  rw [wl,vi (by rw [dJ];exact va _)] at W
  exact ⟨_,rfl,q l as H2 R hl O (W.older sb)⟩
theorem xq:ax ["place","senders","rows","found","sender","row","getter","number"] ["place","senders","rows"] (ao ee):=⟨rfl,rfl,rfl,by decide +kernel,rfl,by decide +kernel,by decide +kernel⟩
theorem mt (F:Src K mg "letters_of" "letters_of" ee ["place","senders","rows"]) (B:Blt mg):Ok P w K mg base CX0 1 "letters_of" ["place","senders","rows"] gO:=by
 refine F.ok xq (fun vs H Q E h=>?_) (fun f c5 A outer s H vs Q E hr h=>?_)
 ·obtain ⟨a,b,J,ss,bs,G,rfl,_⟩:=h
  rfl
 obtain ⟨a,b,J,ss,bs,G,rfl,ha,c2,hb,al,cc,q⟩:=h
 have bl:bs.length=G.length:=Paired.length al
 refine ⟨_,(ah (aB (i:=3) xq.nd rfl (Or.inl rfl) (bd ac))
  (ah (bX PassesOwn.never rfl (gI rfl B.zip (aa (pv 1) (aa (pv 2) ac))) (gh rfl (aE (ar (i:=4) xq.nd rfl (Or.inl rfl)) (aE (ar (i:=5) xq.nd rfl (Or.inl rfl)) bM)))
   (ad (bX PassesOwn.never rfl (p8 rfl B.enumerate (aa (pv 5) ac) ae) (gh rfl (aE (ar (i:=6) xq.nd rfl (Or.inl rfl)) (aE (ar (i:=7) xq.nd rfl (Or.inl rfl)) bM)))
   (ad (bg (aA oU (pv 6) (pv 4) (aI _))
   (ad (aW (dX vm vA vB bq (pv 3) (aa (ci (aa (pv 0) (aa (pv 4) (aa (pv 6) (aa (pv 7) ac))))) ac))))
   aJ)))))
  (ad (ay (pv 3))))),?_⟩
 refine ⟨(by show 0≤sizeLine;decide),fun l hl=>?_⟩
 have s1:=aj hl (.lst [])
 have bx:(upd H l (.lst [])) l=some (.lst []):=upd_same
 generalize upd H l (.lst [])=H1 at s1 bx
 refine ⟨_,rfl,_,rfl,a,b,_,_,rfl,SqL.of (s1 _ _ ha),SqL.of (s1 _ _ hb),?_⟩
 refine pi (K:=K) (a:=a) (b:=b) (xs:=ss.map V.int) (zs:=bs.map V.ref) (fun i σ H2=>Same H H2∧∃ (O:List V) (v4 v5 v6 v7:Option V),σ=[some (.int J),some (.ref a),some (.ref b),some (.ref l),v4,v5,v6,v7]∧H2 l=some (.lst O)∧LetsAt H2 O (aV J (ss.take i) (G.take i))∧O.length≤10*i∧i≤10) ?_ ?_ ?_ ?_
 ·exact ⟨s1,[],_,_,_,_,rfl,bx,.nil,vk _,by decide⟩
 ·rintro i σ H2 ⟨Z,_⟩
  exact ⟨SqL.of (Z _ _ ha),SqL.of (Z _ _ hb)⟩
 ·rintro i x z σ H2 c ex ez ⟨Z,O,v4,v5,v6,v7,rfl,a3,a7,c3,cx⟩ hc
  rw [u5] at ex
  cases h1:ss[i]? with
  | none=>rw [h1] at ex;cases ex
  | some sd =>
  rw [h1] at ex
  cases ex
  obtain ⟨ra,rfl,bm⟩:=cW ez
  obtain ⟨I,ap,co⟩:=(al.same Z).get bm
  have il:i<ss.length:=(u3.mp h1).1
  have rl:=cc I (u4 ap)
  have s3:=aj hc (.tup [.int sd,.ref ra])
  refine ⟨c,_,rfl,SqT.of upd_same,rfl,_,_,rfl,_,_,rfl,rfl,?_⟩
  have bz:=s3 _ _ a3
  have ag:=s3 _ _ co
  have g3:=Z.trans s3
  have a1:=a7.same s3
  generalize upd H2 c (.tup [.int sd,.ref ra])=H3 at s3 bz ag g3 a1
  refine ⟨_,rfl,ra,_,1,rfl,rfl,by decide,SqL.of ag,?_⟩
  have lz:aV J (ss.take (i+1)) (G.take (i+1))=aV J (ss.take i) (G.take i)++jj J sd I:=by
   unfold aV
   have e:(ss.take (i+1)).zip (G.take (i+1))=(ss.take i).zip (G.take i)++[(sd,I)]:=by
    have hz:(ss.zip G)[i]?=some (sd,I):=by rw [wD];exact ⟨h1,ap⟩
    rw [fT,fT,vn,hz]
    rfl
   rw [e,u6,wK]
   simp
  refine jC (K:=K) (a:=ra) (xs:=I.map V.int) (k0:=1) (fun j σ Y=>Same H Y∧Y ra=some (.lst (I.map V.int))∧∃ (W:List V) (v6 v7:Option V),σ=[some (.int J),some (.ref a),some (.ref b),some (.ref l),some (.int sd),some (.ref ra),v6,v7]∧Y l=some (.lst W)∧LetsAt Y W (aV J (ss.take i) (G.take i)++(List.range j).filterMap fun k:Nat=>if 1+(k:Int)=sd then none else some (J,sd,1+(k:Int),I.getD k 0))∧W.length≤10*i+j) ?_ ?_ ?_ ?_
  ·refine ⟨g3,ag,O,_,_,rfl,bz,?_,by omega⟩
   rw [List.range_zero,List.filterMap_nil,vT]
   exact a1
  ·rintro j σ Y ⟨_,h4,_⟩
   exact SqL.of h4
  ·rintro j y σ Y c4 hy ⟨s4,h4,W,w6,w7,rfl,a2,U,a8⟩ cb
   rw [u5] at hy
   cases h2:I[j]? with
   | none=>rw [h2] at hy;cases hy
   | some v =>
   rw [h2] at hy
   cases hy
   have jl:j<I.length:=(u3.mp h2).1
   have s5:=aj cb (.tup [.int ((1+j:Nat):Int),.int v])
   refine ⟨c4,_,rfl,SqT.of upd_same,rfl,_,_,rfl,_,_,rfl,rfl,?_⟩
   have R:=s5 _ _ a2
   have h5:=s5 _ _ h4
   have g5:=s4.trans s5
   have af:=U.same s5
   generalize upd Y c4 (.tup [.int ((1+j:Nat):Int),.int v])=H5 at s5 R h5 g5 af
   have ej:((1+j:Nat):Int)=1+(j:Int):=by omega
   refine ⟨_,rfl,_,rfl,rfl,_,rfl,?_⟩
   refine bB (fun c1=>?_) (fun c1=>?_)
   ·have a9:¬ 1+(j:Int)=sd:=fun e=>by
     have ai:(!decide (V.int ((1+j:Nat):Int)=V.int sd))=true:=c1
     rw [ej,e] at ai
     simp at ai
    refine ⟨_,rfl,.inl ⟨rfl,_,SqL.of R⟩,_,rfl,_,rfl,_,rfl,_,rfl,(by show 4≤sizeLine;decide),fun tt an=>?_⟩
    have s6:=aj an (.tup [.int J,.int sd,.int ((1+j:Nat):Int),.int v])
    have tl:tt≠l:=fun e=>by rw [e,R] at an;cases an
    refine ⟨l,_,_,rfl,rfl,s6 _ _ R,au (by omega),?_⟩
    have cf:ra≠l:=fun e=>by
     obtain ⟨_,_,z⟩:=al.get bm
     rw [e,hl] at z
     cases z
    refine ⟨am (g5.trans s6) hl,by rw [az cf];exact s6 _ _ h5,W++[.ref tt],_,_,rfl,upd_same,?_,by rw [u7];show _+1≤_;omega⟩
    rw [wU,List.filterMap_append,← wf]
    refine LetsAt.upd (s6 _ _ R) (Veil.Paired.append (af.same s6) ?_)
    have e:(List.filterMap (fun k:Nat=>if 1+(k:Int)=sd then none else some (J,sd,1+(k:Int),I.getD k 0)) [j])=[(J,sd,1+(j:Int),v)]:=by
     rw [wC,if_neg a9,nn,h2]
     rfl
    rw [e]
    refine .cons ⟨tt,rfl,?_⟩ .nil
    rw [upd_same,ej]
    rfl
   ·have a9:1+(j:Int)=sd:=Classical.byContradiction fun e=>c1 (by
     show (!decide (V.int ((1+j:Nat):Int)=V.int sd))=true
     rw [ej,decide_eq_false (fun z=>e (by injection z))]
     rfl)
    refine ⟨g5,h5,W,_,_,rfl,R,?_,by omega⟩
    rw [wU,List.filterMap_append]
    have e:(List.filterMap (fun k:Nat=>if 1+(k:Int)=sd then none else some (J,sd,1+(k:Int),I.getD k 0)) [j])=[]:=by
     rw [wC,if_pos a9]
     rfl
    rw [e,vT]
    exact af
  ·rintro σ Y ⟨s4,h4,W,w6,w7,rfl,a2,U,a8⟩
   rw [lH] at U a8
   refine ⟨s4,W,_,_,_,_,rfl,a2,?_,by omega,by omega⟩
   rw [lz]
   exact U
 ·rintro σ H2 ⟨Z,O,v4,v5,v6,v7,rfl,a3,a7,_⟩
  refine ⟨_,rfl,q l O H2 Z hl a3 ?_⟩
  have e:aV J ss G=aV J (ss.take (min (ss.map V.int).length (bs.map V.ref).length)) (G.take (min (ss.map V.int).length (bs.map V.ref).length)):=by
   unfold aV
   rw [fT,vi (by rw [List.length_zip,lH,lH,bl];exact va _)]
  rw [e]
  exact a7
end
section
variable {P:Program}{w:World}{K:PySem.W.Frag}{mg:Str→Option Value}{base:Heap}{C CC pa:Addr}
theorem gc:ax ["self"] ["self"] (ao cj):=⟨rfl,rfl,rfl,by decide +kernel,rfl,by decide +kernel,by decide +kernel⟩
theorem tU {g:Addr}{fd:FuncData} (F:Fun K "coming_step" "Course.coming_step" cj g fd) (B:Blt mg) (TC:sr K CC):ju P w K mg base CX0 1 g fd ["self"] (e6 C CC):=by
 refine F.ok gc (fun vs H Q E h=>?_) (fun Z A outer s H vs Q E hr h=>?_)
 ·obtain ⟨c,p,n,f,ss,inp,G,z,rfl,_⟩:=h
  rfl
 obtain ⟨c,p,n,f,ss,inp,G,z,rfl,⟨t,a,b,wa,sh,le,I,is,O,R⟩,ab,hz,q⟩:=h
 obtain ⟨dx,hc⟩:=R.obj
 refine ⟨_,(ad (ay (aO aP (aH (pv 0) rfl) (aK aG rfl B.len vE (aa (aH (pv 0) rfl) ac)) (fun _ _=>rfl)))),?_⟩
 have wl:I.length=ss.length:=Paired.length R.st
 have U:O.length=G.length:=Paired.length R.hs
 have il:G.length<ss.length:=(u3.mp hz).1
 obtain ⟨d,z',W,Y,J⟩:=R.st.get (rz (show G.length<I.length by omega))
 rw [hz] at J
 cases J
 refine ⟨_,rfl,c,CC,dx,_,_,rfl,hc,TC.cl,TC.nS,cf_a _ _ _ _ _ _,_,rfl,c,CC,dx,_,_,rfl,hc,TC.cl,TC.nH,cf_h _ _ _ _ _ _,sh,_,rfl,.inl (SqL.of R.hsh),a,_,_,.ref d,rfl,rfl,SqL.of R.ha,?_,q d H (Same.refl H) Y⟩
 rw [lH,U]
 unfold atI
 rw [show ixN I.length (G.length:Int)=some G.length by simpa using j9 (n:=I.length) (k:=(G.length:Int)) (by omega) (by omega),← W]
 exact rz (by omega)
theorem gE:ax ["self","hand"] ["self","hand"] (ao cA):=⟨rfl,rfl,rfl,by decide +kernel,rfl,by decide +kernel,by decide +kernel⟩
theorem BB {g:Addr}{fd:FuncData} (F:Fun K "own_shares" "Course.own_shares" cA g fd) (TC:sr K CC):ju P w K mg base CX0 1 g fd ["self","hand"] (sR C CC):=by
 refine F.ok gE (fun vs H Q E h=>?_) (fun an A outer s H vs Q E hr h=>?_)
 ·obtain ⟨c,p,n,f,h,ss,inp,G,rfl,_⟩:=h
  rfl
 obtain ⟨c,p,n,f,h,ss,inp,G,rfl,⟨t,a,b,wa,sh,le,ws,is,W,R⟩,ap,S,hh,q⟩:=h
 obtain ⟨dx,hc⟩:=R.obj
 refine ⟨_,(ad (ay (bw ["row"] [("hand",1)]  (bn (aH (pv 0) rfl)) rfl (fun C s0 H0 ex=>by exact (ar (i:=0) (show List.Nodup [("row":Str),"hand"] by decide +kernel) rfl (Or.inl rfl))) (fun C s0 H0 ex=>by exact bc) (fun C s0 H0 ex=>by exact (aO (iF K) (pv 0) (av bD (pv 1) ae) (fun _ _=>rfl)))))),?_⟩
 have sl:W.length=G.length:=Paired.length R.hs
 refine ⟨_,rfl,c,CC,dx,_,_,rfl,hc,TC.cl,TC.nH,cf_h _ _ _ _ _ _,sh,rfl,⟨_,SqL.of R.hsh⟩,fun D Y=>?_⟩
 refine bF (K:=K) (a:=sh) (xs:=W.map V.ref) (fun i ys H2=>i≤G.length∧ys=((bP G h).take i).map V.int∧Same H H2) ⟨vk _,rfl,am (Same.refl _) Y⟩ ?_ ?_ ?_
 ·rintro i ys H2 _ ⟨_,_,O⟩
  exact SqL.of (O _ _ R.hsh)
 ·rintro i y ys H2 hy ⟨hi,rfl,O⟩ J
  obtain ⟨ra,rfl,Z⟩:=cW hy
  obtain ⟨U,I,ab⟩:=(R.hs.same O).get Z
  have il:i<G.length:=(u3.mp I).1
  have rl:=S.l U (u4 I)
  refine ⟨⟨rfl,rfl⟩,?_⟩
  refine ⟨_,rfl,_,rfl,_,_,rfl,rfl,ra,_,_,.int (U.getD (h - 1).toNat 0),rfl,rfl,SqL.of ab,dr (by omega) (by omega),?_⟩
  refine ⟨J,au (by rw [lH,vj];omega),il,?_,am O Y⟩
  have e:(bP G h)[i]?=some (U.getD (h - 1).toNat 0):=by
   unfold bP
   rw [u5,I]
   rfl
  rw [vn,e,u6]
  rfl
 ·rintro ys H2 ⟨_,rfl,O⟩ J
  rw [vi (by unfold bP;rw [lH,lH,sl];exact va _)] at J
  exact q D H2 O Y J
theorem own_b {p n:Int} (hp:0<p) {shares:LL} (S:ShsOk p n shares) (h:Int):∀ v∈bP shares h,0≤v∧v<p:=fun v hv=>by
 obtain ⟨r,hr,rfl⟩:=vP.mp hv
 rw [nn]
 cases e:r[(h - 1).toNat]? with
 | none=>exact ⟨Int.le_refl _,hp⟩
 | some v=>exact S.b r hr v (u4 e)
theorem jX (shares:LL) (h:Int):(bP shares h).length=shares.length:=lH ..
theorem xu:ax ["self","step"] ["self"] (ao bL):=⟨rfl,rfl,rfl,by decide +kernel,rfl,by decide +kernel,by decide +kernel⟩
theorem Bo {g:Addr}{fd:FuncData} (F:Fun K "numbers_to_deal" "Course.numbers_to_deal" bL g fd) (B:Blt mg) (T:Tab K C) (TC:sr K CC) (xg:MOk P w K mg base CX0 1 CC "coming_step" ["self"] (e6 C CC)) (xW:MOk P w K mg base CX0 1 CC "own_shares" ["self","hand"] (sR C CC)) (yd:Ok P w K mg base CX0 2 "input_at" ["steps","place","inputs"] hZ) (xp:Ok P w K mg base CX0 2 "dealers" ["table","step"] (dk C)) (xL:Ok P w K mg base CX0 1 "reckoned" ["table","step","before"] (eO C)):ju P w K mg base CX0 3 g fd ["self"] (mY C CC):=by
 refine F.ok xu (fun vs H Q E h=>?_) (fun c3 A outer s H vs Q E hr h=>?_)
 ·obtain ⟨c,p,n,f,ss,inp,G,z,rfl,_⟩:=h
  rfl
 obtain ⟨c,p,n,f,ss,inp,G,z,rfl,⟨t,a,b,wa,sh,le,ws,is,as,R⟩,PA,S,hz,q⟩:=h
 refine ⟨_,(ah (aB (i:=1) xu.nd rfl (Or.inr rfl) (dn xg hr (pv 0)))
  (ah (bg (aA bQ (aO aZ (pv 1) ae (fun _ _=>rfl)) aU (aI _))
   (ad (ay (bd (aa (ak yd hr rfl (aa (aH (pv 0) rfl) (aa (aK aG rfl B.len vE (aa (aH (pv 0) rfl) ac)) (aa (aH (pv 0) rfl) ac)))) ac))))
   aJ)
  (ah (bg (aA bQ (aO aZ (pv 1) ae (fun _ _=>rfl)) aU (aI _))
   (ad (ay (av tK (bd (aa ae ac)) (aH (aH (pv 0) rfl) rfl))))
   aJ)
  (ad (ay (bw ["hand"] [("step",1),("self",0)]  (bn (ak xp hr rfl (aa (aH (pv 0) rfl) (aa (pv 1) ac)))) rfl (fun C s0 H0 ex=>by exact (ar (i:=0) (show List.Nodup [("hand":Str),"step","self"] by decide +kernel) rfl (Or.inl rfl))) (fun C s0 H0 ex=>by exact bc) (fun C s0 H0 ex=>by exact (ak xL hr rfl (aa (dv K (pv 2) rfl) (aa (pv 1) (aa (fG xW hr (pv 2) (aa (pv 0) ac)) ac))))))))))),?_⟩
 have pp:=jc PA.hp
 have bz:=pp.2
 have il:G.length<ss.length:=(u3.mp hz).1
 have c0:=PA.len
 have hn:=PA.hn
 have Rz:=PA.R _ z hz
 have sl:as.length=G.length:=Paired.length R.hs
 obtain ⟨dx,hc⟩:=R.obj
 refine ⟨_,rfl,c,dx,_,rfl,hc,gZ _ _ _ _ _ _ (by decide +kernel) (by decide +kernel) (by decide +kernel) (by decide +kernel) (by decide +kernel) (by decide +kernel),c,p,n,f,ss,inp,G,z,rfl,⟨t,a,b,wa,sh,le,ws,is,as,R⟩,by omega,hz,fun d H1 W hd=>?_⟩
 have U:=R.same W
 have J:=W _ _ hc
 refine ⟨_,rfl,d,_,_,.str z.word,rfl,rfl,SqT.of hd,z.at0,rfl,_,rfl,?_⟩
 refine bB (fun c1=>?_) (fun c1=>?_)
 ·have ai:V.str z.word=V.str "in":=of_decide_eq_true c1
  injection ai with ai
  cases z with
  | ein h =>
   refine ⟨_,rfl,c,CC,dx,_,_,rfl,J,TC.cl,TC.nS,cf_a _ _ _ _ _ _,_,rfl,c,CC,dx,_,_,rfl,J,TC.cl,TC.nH,cf_h _ _ _ _ _ _,sh,_,rfl,.inl (SqL.of U.hsh),_,rfl,c,CC,dx,_,_,rfl,J,TC.cl,TC.nI,cf_b _ _ _ _ _ _,a,b,G.length,h,p,n,ws,ss,is,inp,by rw [lH,sl];rfl,U.ha,U.st,by omega,hz,U.hb,U.hin,PA.io,Rz,fun H2 I=>?_⟩
   exact ⟨(by show 1≤sizeLine;decide),fun o ho=>q o _ ((W.trans I).trans (aj ho _)) ((W.trans I).free ho) upd_same⟩
  | _=>exact absurd ai (by simp only [Stp.word];decide +kernel)
 have al:∀ h,z≠.ein h:=fun h e=>by
  subst e
  exact c1 (decide_eq_true rfl)
 refine ⟨_,rfl,d,_,_,.str z.word,rfl,rfl,SqT.of hd,z.at0,rfl,_,rfl,?_⟩
 obtain ⟨dt,ht⟩:=U.tab
 refine bB (fun c2=>?_) (fun c2=>?_)
 ·have af:V.str z.word=V.str "anew":=of_decide_eq_true c2
  injection af with af
  cases z with
  | anew Y =>
   refine ⟨(by show 1≤sizeLine;decide),fun o1 b0=>?_⟩
   have I:=aj b0 (.lst [.int 0])
   refine ⟨_,rfl,c,CC,dx,_,_,rfl,I _ _ J,TC.cl,TC.nT,rY _ _ _ _ _ _,t,C,dt,_,_,rfl,I _ _ ht,T.cl,T.nH,oy _ _ _,o1,n,_,rfl,rfl,upd_same,by omega,by omega,small (by show 1*_≤1000;omega),fun o2 a4=>?_⟩
   refine q o2 _ ((W.trans I).trans (aj a4 _)) ((W.trans I).free a4) ?_
   rw [upd_same]
   show _=some (HO.lst ((List.replicate n.toNat (0:Int)).map V.int))
   have fl:∀ k:Nat,(List.replicate k [V.int 0]).flatten=(List.replicate k (0:Int)).map V.int:=fun k=>by
    induction k with
    | zero=>rfl
    | succ k ih=>rw [we,vX,ih];rfl
   rw [fl]
  | _=>exact absurd af (by simp only [Stp.word];decide +kernel)
 have bx:∀ Y,z≠.anew Y:=fun Y e=>by
  subst e
  exact c2 (decide_eq_true rfl)
 have eN:bo p n ss inp G z=(z.dealers n).map fun h=>recV p (bP G h) z:=by
  cases z with
  | ein h=>exact absurd rfl (al h)
  | anew Y=>exact absurd rfl (bx Y)
  | _=>rfl
 rw [eN] at q
 refine ⟨_,rfl,c,CC,dx,_,_,rfl,J,TC.cl,TC.nT,rY _ _ _ _ _ _,_,rfl,t,d,p,n,f,z,rfl,⟨dt,ht⟩,by omega,hd,fun da H2 I cx a5=>?_⟩
 have a6:=W.trans I
 have dl:=ce (n:=n) (by omega) (by omega) z
 have db:∀ h∈z.dealers n,1≤h∧h≤n:=fun h hh=>by
  have Z:∀ h∈bE n,1≤h∧h≤n:=fun h hh=>by
   unfold bE eS at hh
   obtain ⟨i,hi,rfl⟩:=vP.mp hh
   have:=vH.mp hi
   omega
  cases z with
  | ein h'=>exact absurd rfl (al h')
  | mul Y b1=>exact Z h hh
  | anew Y=>exact Z h hh
  | _=>cases hh
 refine ⟨da,rfl,⟨_,SqL.of a5⟩,fun D hD=>?_⟩
 refine bF (K:=K) (a:=da) (xs:=(z.dealers n).map V.int) (fun i ys H3=>i≤(z.dealers n).length∧ys=(((z.dealers n).take i).map fun h=>recV p (bP G h) z).map V.int∧Same H2 H3) ⟨vk _,rfl,am (Same.refl _) hD⟩ ?_ ?_ ?_
 ·rintro i ys H3 _ ⟨_,_,O⟩
  exact SqL.of (O _ _ a5)
 ·rintro i y ys H3 hy ⟨hi,rfl,O⟩ ab
  rw [u5] at hy
  cases hv:(z.dealers n)[i]? with
  | none=>rw [hv] at hy;cases hy
  | some h =>
  rw [hv] at hy
  cases hy
  have ii:i<(z.dealers n).length:=(u3.mp hv).1
  have R3:=U.same (I.trans O)
  have hb:=db h (u4 hv)
  refine ⟨⟨rfl,rfl⟩,?_⟩
  refine ⟨_,rfl,c,CC,dx,_,_,rfl,(I.trans O) _ _ J,TC.cl,TC.nT,rY _ _ _ _ _ _,_,rfl,_,rfl,c,dx,_,rfl,(I.trans O) _ _ J,gZ _ _ _ _ _ _ (by decide +kernel) (by decide +kernel) (by decide +kernel) (by decide +kernel) (by decide +kernel) (by decide +kernel),_,rfl,c,p,n,f,h,ss,inp,G,rfl,⟨t,a,b,wa,sh,le,ws,is,as,R3⟩,by omega,S,hb,fun oa H4 s4 ct be=>?_⟩
  have R4:=R3.same s4
  refine ⟨t,d,oa,p,n,f,z,bP G h,rfl,R4.tab,⟨by omega,bz⟩,(I.trans (O.trans s4)) _ _ hd,be,by rw [jX];exact Rz,al,own_b (by omega) S h,fun H5 s5=>?_⟩
  refine ⟨(s4.trans s5) _ _ ab,au (by rw [lH,lH,vj];omega),ii,?_,am (O.trans (s4.trans s5)) hD⟩
  rw [vn,hv,u6,u6]
  rfl
 ·rintro ys H3 ⟨_,rfl,O⟩ ab
  rw [lH,vI] at ab
  exact q D H3 (a6.trans O) (a6.free hD) ab
end
section
variable {P:Program}{w:World}{K:PySem.W.Frag}{mg:Str→Option Value}{base:Heap}{C CC pa:Addr}
theorem xh:ax ["self","hand","rows","step","got","old"] ["self","hand","rows"] (ao cO):=⟨rfl,rfl,rfl,by decide +kernel,rfl,by decide +kernel,by decide +kernel⟩
theorem A4 {g:Addr}{fd:FuncData} (F:Fun K "new_share" "Course.new_share" cO g fd) (B:Blt mg) (T:Tab K C) (TC:sr K CC) (xg:MOk P w K mg base CX0 1 CC "coming_step" ["self"] (e6 C CC)) (xW:MOk P w K mg base CX0 1 CC "own_shares" ["self","hand"] (sR C CC)) (yx:Ok P w K mg base CX0 1 "weighed" ["table","parts","numbers"] (hW C)) (xL:Ok P w K mg base CX0 1 "reckoned" ["table","step","before"] (eO C)):ju P w K mg base CX0 2 g fd ["self","hand","rows"] (lM C CC):=by
 refine F.ok xh (fun vs H Q E h=>?_) (fun c7 A outer s H vs Q E hr h=>?_)
 ·obtain ⟨c,ra,p,n,f,h,ss,inp,I,G,z,rs,rfl,_⟩:=h
  rfl
 obtain ⟨c,ra,p,n,f,h,ss,inp,I,G,z,rs,rfl,⟨t,a,b,wa,sh,le,ws,is,a9,R⟩,PA,S,hz,a6,a5,Sr,a7,hh,q⟩:=h
 refine ⟨_,(ah (aB (i:=3) xh.nd rfl (Or.inl rfl) (dn xg hr (pv 0)))
  (ah (b8 4 ["row"] [("hand",1)] xh.nd  (bn (pv 2)) rfl (fun C s0 H0 ex=>by exact (ar (i:=0) (show List.Nodup [("row":Str),"hand"] by decide +kernel) rfl (Or.inl rfl))) (fun C s0 H0 ex=>by exact bc) (fun C s0 H0 ex=>by exact (aO (iF K) (pv 0) (av bD (pv 1) ae) (fun _ _=>rfl))))
  (ah (bg (aA bQ (aO aZ (pv 3) ae (fun _ _=>rfl)) aU (aI _))
   (ad (ay (aO aP (pv 4) ae (fun _ _=>rfl))))
   aJ)
  (ah (bg (aA bQ (aO aZ (pv 3) ae (fun _ _=>rfl)) aU (aI _))
   (ad (ay (ak yx hr rfl (aa (aH (pv 0) rfl) (aa (aH (pv 0) rfl) (aa (pv 4) ac))))))
   aJ)
  (ah (aB (i:=5) xh.nd rfl (Or.inl rfl) (ak xL hr rfl (aa (aH (pv 0) rfl) (aa (pv 3) (aa (fG xW hr (pv 0) (aa (pv 1) ac)) ac)))))
  (ad (ay (av bh (av bi (pv 5) (aK (km rfl) rfl B.sum PyProof.Rows.boot_sum (aa (pv 4) ac))) (aH (aH (pv 0) rfl) rfl))))))))),?_⟩
 have pp:=jc PA.hp
 have il:I.length<ss.length:=(u3.mp hz).1
 have c6:=PA.len
 have hn:=PA.hn
 have Rz:=PA.R _ z hz
 have dl:=ce (n:=n) (by omega) (by omega) z
 have b2:rs.length=G.length:=Paired.length a5
 obtain ⟨dx,hc⟩:=R.obj
 refine ⟨_,rfl,c,dx,_,rfl,hc,gZ _ _ _ _ _ _ (by decide +kernel) (by decide +kernel) (by decide +kernel) (by decide +kernel) (by decide +kernel) (by decide +kernel),c,p,n,f,ss,inp,I,z,rfl,⟨t,a,b,wa,sh,le,ws,is,a9,R⟩,by omega,hz,fun d H1 s1 hd=>?_⟩
 refine ⟨_,rfl,ra,rfl,⟨_,SqL.of (s1 _ _ a6)⟩,fun D hD=>?_⟩
 refine bF (K:=K) (a:=ra) (xs:=rs.map V.ref) (fun i ys H2=>i≤G.length∧ys=((bP G h).take i).map V.int∧Same H1 H2) ⟨vk _,rfl,am (Same.refl _) hD⟩ ?_ ?_ ?_
 ·rintro i ys H2 _ ⟨_,_,W⟩
  exact SqL.of ((s1.trans W) _ _ a6)
 ·rintro i y ys H2 hy ⟨hi,rfl,W⟩ J
  obtain ⟨oa,rfl,ab⟩:=cW hy
  obtain ⟨ai,U,cb⟩:=(a5.same (s1.trans W)).get ab
  have ii:i<G.length:=(u3.mp U).1
  have rl:=Sr.l ai (u4 U)
  refine ⟨⟨rfl,rfl⟩,?_⟩
  refine ⟨_,rfl,_,rfl,_,_,rfl,rfl,oa,_,_,.int (ai.getD (h - 1).toNat 0),rfl,rfl,SqL.of cb,dr (by omega) (by omega),?_⟩
  refine ⟨J,au (by rw [lH,vj];omega),ii,?_,am W hD⟩
  have e:(bP G h)[i]?=some (ai.getD (h - 1).toNat 0):=by
   unfold bP
   rw [u5,U]
   rfl
  rw [vn,e,u6]
  rfl
 rintro ys H2 ⟨_,rfl,W⟩ J
 rw [vi (by rw [jX,lH,b2];exact va _)] at J
 have g2:=s1.trans W
 have R2:=R.same g2
 have O:=g2 _ _ hc
 have ag:=W _ _ hd
 have gb:=own_b (by omega) Sr h
 refine ⟨_,rfl,d,_,_,.str z.word,rfl,rfl,SqT.of ag,z.at0,rfl,_,rfl,?_⟩
 refine bB (fun c1=>?_) (fun c1=>?_)
 ·have as:V.str z.word=V.str "in":=of_decide_eq_true c1
  injection as with as
  cases z with
  | ein h' =>
   have Y:(bP G h).length=1:=by rw [jX,a7];rfl
   cases eo:bP G h with
   | nil=>rw [eo] at Y;cases Y
   | cons v r =>
    have er:r=[]:=by
     rw [eo] at Y
     cases r with
     | nil=>rfl
     | cons x y=>simp at Y
    refine ⟨_,rfl,D,_,_,.int v,rfl,rfl,SqL.of J,by rw [eo,er];rfl,?_⟩
    have:=q H2 g2
    rw [show kJ p n I G (.ein h') h=v by show (bP G h).headD 0=v;rw [eo];rfl] at this
    exact this
  | _=>exact absurd as (by simp only [Stp.word];decide +kernel)
 have a8:∀ h,z≠.ein h:=fun h e=>by
  subst e
  exact c1 (decide_eq_true rfl)
 refine ⟨_,rfl,d,_,_,.str z.word,rfl,rfl,SqT.of ag,z.at0,rfl,_,rfl,?_⟩
 refine bB (fun c2=>?_) (fun c2=>?_)
 ·have af:V.str z.word=V.str "mul":=of_decide_eq_true c2
  injection af with af
  cases z with
  | mul a1 b1 =>
   have wk:=ws_ok PA.hp (n:=n.toNat) (by omega) (by omega) (by have:=PA.np;omega)
   exact ⟨_,rfl,c,CC,dx,_,_,rfl,O,TC.cl,TC.nT,rY _ _ _ _ _ _,_,rfl,c,CC,dx,_,_,rfl,O,TC.cl,TC.nP,cf_w _ _ _ _ _ _,_,rfl,t,wa,D,p,n,f,bp p n.toNat,bP G h,rfl,R2.tab,⟨by omega,pp.2⟩,R2.hw,J,by rw [fU];omega,wk.2,gb,fun H3 s3=>q H3 (g2.trans s3)⟩
  | _=>exact absurd af (by simp only [Stp.word];decide +kernel)
 have b3:∀ a1 b1,z≠.mul a1 b1:=fun a1 b1 e=>by
  subst e
  exact c2 (decide_eq_true rfl)
 have eN:kJ p n I G z h=(recV p (bP I h) z+(bP G h).sum)%p:=by
  cases z with
  | ein h'=>exact absurd rfl (a8 h')
  | mul a1 b1=>exact absurd rfl (b3 a1 b1)
  | _=>rfl
 rw [eN] at q
 refine ⟨_,rfl,c,CC,dx,_,_,rfl,O,TC.cl,TC.nT,rY _ _ _ _ _ _,_,rfl,_,rfl,c,dx,_,rfl,O,gZ _ _ _ _ _ _ (by decide +kernel) (by decide +kernel) (by decide +kernel) (by decide +kernel) (by decide +kernel) (by decide +kernel),_,rfl,c,p,n,f,h,ss,inp,I,rfl,⟨t,a,b,wa,sh,le,ws,is,a9,R2⟩,by omega,S,hh,fun oa H3 s3 cu ab=>?_⟩
 have R3:=R2.same s3
 refine ⟨t,d,oa,p,n,f,z,bP I h,rfl,R3.tab,⟨by omega,pp.2⟩,s3 _ _ ag,ab,by rw [jX];exact Rz,a8,own_b (by omega) S h,fun H4 s4=>?_⟩
 have Z:=s3.trans s4
 obtain ⟨dt,ht⟩:=(R2.same Z).tab
 refine ⟨_,rfl,_,rfl,D,_,rfl,SqL.of (Z _ _ J),by rw [jX,a7];omega,fun v hv=>⟨(gb v hv).1,by have:=(gb v hv).2;omega⟩,_,_,rfl,rfl,?_⟩
 exact ⟨_,rfl,c,CC,dx,_,_,rfl,Z _ _ O,TC.cl,TC.nT,rY _ _ _ _ _ _,t,C,dt,_,_,rfl,ht,T.cl,T.nP,i7 _ _ _,_,_,rfl,rfl,by omega,q H4 (g2.trans Z)⟩
theorem xm:ax ["self","step","made","rows","place","told"] ["self","step","made","rows"] (ao bW):=⟨rfl,rfl,rfl,by decide +kernel,rfl,by decide +kernel,by decide +kernel⟩
theorem Bp {g:Addr}{fd:FuncData} (F:Fun K "send_letters" "Course.send_letters" bW g fd) (B:Blt mg) (T:Tab K C) (TC:sr K CC) (ye:Ok P w K mg base CX0 1 "letters_of" ["place","senders","rows"] gO) (xB:Ok P w K mg base CX0 1 "all_hands" ["table"] (eP C)) (xp:Ok P w K mg base CX0 2 "dealers" ["table","step"] (dk C)):ju P w K mg base CX0 3 g fd ["self","step","made","rows"] (pM C CC):=by
 refine F.ok xm (fun vs H Q E h=>?_) (fun d5 A outer s H vs Q E hr h=>?_)
 ·obtain ⟨c,d,ma,ra,le,p,n,f,ss,inp,G,J,z,rs,made,bf,lets,t,a,b,wa,sh,ws,is,bl,rfl,_⟩:=h
  rfl
 obtain ⟨c,d,ma,ra,le,p,n,f,ss,inp,G,J,z,rs,made,bf,lets,t,a,b,wa,sh,ws,is,bl,rfl,R,PA,c3,hd,a7,d2,b3,b1,cf,ag,bb,d4,q⟩:=h
 refine ⟨_,(ah (aB (i:=4) xm.nd rfl (Or.inl rfl) (aK aG rfl B.len vE (aa (aH (pv 0) rfl) ac)))
  (ad (bg (aA bQ (aO aZ (pv 1) ae (fun _ _=>rfl)) aU (aI _))
   (ah (b8 5 ["share"] [("self",0)] xm.nd  (bn (pv 2)) rfl (fun C s0 H0 ex=>by exact (ar (i:=0) (show List.Nodup [("share":Str),"self"] by decide +kernel) rfl (Or.inl rfl))) (fun C s0 H0 ex=>by exact bc) (fun C s0 H0 ex=>by exact (av tK (bd (aa (pv 0) ac)) (dv K (dv K (pv 1) rfl) rfl))))
  (ad (aW (dX vm PySem.F.slot_list_extend PySem.F.type_list_extend iA (aH (pv 0) rfl) (aa (ak ye hr rfl (aa (pv 4) (aa (ak xB hr rfl (aa (aH (pv 0) rfl) ac)) (aa (pv 5) ac)))) ac)))))
   (ad (aW (dX vm PySem.F.slot_list_extend PySem.F.type_list_extend iA (aH (pv 0) rfl) (aa (ak ye hr rfl (aa (pv 4) (aa (ak xp hr rfl (aa (aH (pv 0) rfl) (aa (pv 1) ac))) (aa (pv 3) ac)))) ac))))))),?_⟩
 have hn:=PA.hn
 have sl:bl.length=G.length:=Paired.length R.hs
 obtain ⟨dx,hc⟩:=R.obj
 have fin:∀ (Y:List V) (o:Addr) (H2:Hp) (ls:List jg),Same H H2→H2 o=some (.lst Y)→LetsAt H2 Y ls→ls.length≤1000→j7 p n (G.length:Int) made J z=ls→(∃ (l b:Addr) (xs zs:List V),(V.ref le)=.ref l∧[V.ref o]=[.ref b]∧H2 l=some (.lst xs)∧H2 b=some (.lst zs)∧xs.length+zs.length≤sizeLine∧Q .non (upd H2 l (.lst (xs++zs)))):=fun Y o H2 ls I ho U d6 e=>by
  have ll:=Paired.length bb
  have d3:=Paired.length U
  refine ⟨le,o,bf,Y,rfl,rfl,I _ _ ag,ho,?_,?_⟩
  ·have:(11000:Nat)≤sizeLine:=by decide
   omega
  ·refine q _ _ (fun x u hx hn=>?_) upd_same ?_
   ·rw [az (fun e=>hn (by rw [e];exact u9.mpr rfl))]
    exact I _ _ hx
   ·rw [e]
    exact LetsAt.upd (I _ _ ag) (Veil.Paired.append (bb.same I) U)
 have ai:∀ (pl s:Int) (r:List Int),(jj pl s r).length≤r.length:=fun pl s r=>by
  unfold jj
  refine vG (List.length_filterMap_le _ _) ?_
  rw [vo]
  exact va _
 have ap:∀ (pl:Int) (sd:List Int) (Z:LL),(∀ r∈Z,r.length≤10)→(aV pl sd Z).length≤10*sd.length:=fun pl sd=>by
  induction sd with
  | nil=>intro Z _;simp [aV]
  | cons s r ih =>
   intro Z hb
   cases Z with
   | nil=>simp [aV]
   | cons x y =>
    have:=ih y fun r hr=>hb r (vd _ hr)
    have h2:=ai pl s x
    have h3:=hb x vb
    unfold aV at this ⊢
    rw [wQ,vV,vX,u7,vh]
    show (jj pl s x).length+_≤_
    omega
 refine ⟨_,rfl,c,CC,dx,_,_,rfl,hc,TC.cl,TC.nH,cf_h _ _ _ _ _ _,sh,_,rfl,.inl (SqL.of R.hsh),?_⟩
 rw [lH,sl]
 refine ⟨_,rfl,d,_,_,.str z.word,rfl,rfl,SqT.of hd,z.at0,rfl,_,rfl,?_⟩
 refine bB (fun c1=>?_) (fun c1=>?_)
 ·have a2:V.str z.word=V.str "open":=of_decide_eq_true c1
  injection a2 with a2
  cases z with
  | opn a1 =>
   refine ⟨_,rfl,ma,rfl,⟨_,SqL.of a7⟩,fun D hD=>?_⟩
   refine bF (K:=K) (a:=ma) (xs:=made.map V.int) (fun i ys H2=>i≤made.length∧Same H H2∧∃ ds:List Addr,ys=ds.map V.ref∧InsAt H2 ds ((made.take i).map fun v=>List.replicate n.toNat v)∧D∉ds) ⟨vk _,am (Same.refl _) hD,[],rfl,.nil,(fun h=>nomatch h)⟩ ?_ ?_ ?_
   ·rintro i ys H2 _ ⟨_,I,_⟩
    exact SqL.of (I _ _ a7)
   ·rintro i y ys H2 hy ⟨hi,I,ds,rfl,W,a8⟩ af
    rw [u5] at hy
    cases hv:made[i]? with
    | none=>rw [hv] at hy;cases hy
    | some v =>
    rw [hv] at hy
    cases hy
    have ii:i<made.length:=(u3.mp hv).1
    have dl:ds.length=i:=by rw [Paired.length W,lH,vj];omega
    obtain ⟨dt,ht⟩:=(R.same I).tab
    refine ⟨⟨rfl,rfl⟩,?_⟩
    refine ⟨_,rfl,(by show 1≤sizeLine;decide),fun o1 cp=>?_⟩
    have O:=aj cp (.lst [.int v])
    refine ⟨_,rfl,c,CC,dx,_,_,rfl,O _ _ (I _ _ hc),TC.cl,TC.nT,rY _ _ _ _ _ _,t,C,dt,_,_,rfl,O _ _ ht,T.cl,T.nH,oy _ _ _,o1,n,_,rfl,rfl,upd_same,by omega,by omega,small (by show 1*_≤1000;omega),fun o2 al=>?_⟩
    have fl:∀ k:Nat,(List.replicate k [V.int v]).flatten=(List.replicate k v).map V.int:=fun k=>by
     induction k with
     | zero=>rfl
     | succ k ih=>rw [we,vX,ih];rfl
    rw [fl]
    have s4:=aj al (.lst ((List.replicate n.toNat v).map V.int))
    have as:=O.trans s4
    have oD:o2≠D:=fun e=>by rw [e,O _ _ af] at al;cases al
    have nD:D∉ds++[o2]:=fun h=>by
     rcases vr.mp h with h | h
     ·exact a8 h
     ·exact oD (u9.mp h).symm
    refine ⟨as _ _ af,au (by rw [lH];omega),ii,am (I.trans as) hD,ds++[o2],by rw [u6];rfl,?_,nD⟩
    rw [vn,hv,u6]
    exact InsAt.off (InsAt.snoc (W.same as) upd_same) nD
   rintro ys H2 ⟨_,I,ds,rfl,W,a8⟩ af
   rw [lH,vI] at W
   have R2:=R.same I
   have a9:=I _ _ hc
   refine ⟨_,rfl,c,CC,dx,_,_,rfl,a9,TC.cl,TC.nL,cf_l _ _ _ _ _ _,.inl ⟨rfl,_,SqL.of (I _ _ ag)⟩,_,rfl,_,rfl,c,CC,dx,_,_,rfl,a9,TC.cl,TC.nT,rY _ _ _ _ _ _,t,p,n,f,rfl,R2.tab,by omega,fun co H3 O c6 cb=>?_⟩
   have ba:∀ r∈made.map fun v=>List.replicate n.toNat v,r.length≤10:=fun r hr=>by
    obtain ⟨v,_,rfl⟩:=vP.mp hr
    rw [vK]
    omega
   refine ⟨_,rfl,co,D,_,bE n,ds,_,rfl,cb,by rw [bO];omega,O _ _ af,W.same O,ba,fun o Y H4 s4 b5 ho U=>?_⟩
   exact fin Y o H4 _ (I.trans (O.trans s4)) ho U (by have:=ap (G.length:Int) (bE n) _ ba;rw [bO] at this;omega) rfl
  | _=>exact absurd a2 (by simp only [Stp.word];decide +kernel)
 have ck:∀ a1,z≠.opn a1:=fun a1 e=>by
  subst e
  exact c1 (decide_eq_true rfl)
 have eL:j7 p n (G.length:Int) made J z=aV (G.length:Int) (z.dealers n) J:=by
  cases z with
  | opn a1=>exact absurd rfl (ck a1)
  | _=>rfl
 have dl:=ce (n:=n) (by omega) (by omega) z
 refine ⟨_,rfl,c,CC,dx,_,_,rfl,hc,TC.cl,TC.nL,cf_l _ _ _ _ _ _,.inl ⟨rfl,_,SqL.of ag⟩,_,rfl,_,rfl,c,CC,dx,_,_,rfl,hc,TC.cl,TC.nT,rY _ _ _ _ _ _,_,rfl,t,d,p,n,f,z,rfl,R.tab,by omega,hd,fun da H2 I dy b4=>?_⟩
 have be:∀ r∈J,r.length≤10:=fun r hr=>by have:=cf r hr;omega
 refine ⟨_,rfl,da,ra,_,z.dealers n,rs,J,rfl,b4,dl,I _ _ b3,b1.same I,be,fun o Y H3 O b5 ho U=>?_⟩
 exact fin Y o H3 _ (I.trans O) ho U (by have:=ap (G.length:Int) (z.dealers n) J be;omega) eL
end
section
variable {P:Program}{w:World}{K:PySem.W.Frag}{mg:Str→Option Value}{base:Heap}{C CC pa:Addr}
theorem xD:ax ["self","chance_rows","rows","made"] ["self","chance_rows"] (ao eI):=⟨rfl,rfl,rfl,by decide +kernel,rfl,by decide +kernel,by decide +kernel⟩
theorem BG {g:Addr}{fd:FuncData} (F:Fun K "go_on" "Course.go_on" eI g fd) (B:Blt mg) (T:Tab K C) (TC:sr K CC) (xg:MOk P w K mg base CX0 1 CC "coming_step" ["self"] (e6 C CC)) (xr:MOk P w K mg base CX0 3 CC "numbers_to_deal" ["self"] (mY C CC)) (zJ:MOk P w K mg base CX0 2 CC "new_share" ["self","hand","rows"] (lM C CC)) (yE:MOk P w K mg base CX0 3 CC "send_letters" ["self","step","made","rows"] (pM C CC)) (Bq:Ok P w K mg base CX0 2 "dealt" ["table","number","chance"] (oN C)) (xB:Ok P w K mg base CX0 1 "all_hands" ["table"] (eP C)):ju P w K mg base CX0 4 g fd ["self","chance_rows"] (spGo C CC):=by
 refine F.ok xD (fun vs H Q E h=>?_) (fun e1 A outer s H vs Q E hr h=>?_)
 ·obtain ⟨c,ca,le,p,n,f,ss,inp,shares,G,z,cs,cb,lets,t,a,b,wa,sh,ws,is,I,rfl,_⟩:=h
  rfl
 obtain ⟨c,ca,le,p,n,f,ss,inp,shares,G,z,cs,cb,lets,t,a,b,wa,sh,ws,is,I,rfl,R,D0,PA,S,hz,bz,cx,cr,d3,as,d9,d0,q⟩:=h
 have pp:=jc PA.hp
 have hn:=PA.hn
 have np:=PA.np
 have ez:=PA.len
 have il:shares.length<ss.length:=(u3.mp hz).1
 have dl:=ce (n:=n) (by omega) (by omega) z
 have ea:cs.length=G.length:=Paired.length cx
 have nl:=cQ (p:=p) (n:=n) (by omega) ss inp shares z
 obtain ⟨dx,hc⟩:=R.obj
 refine aw (aB (i:=2) xD.nd rfl (Or.inr rfl) (bw ["number","row"] [("self",0)]  (gI rfl B.zip (aa (dn xr hr (pv 0)) (aa (pv 1) ac))) rfl (fun C s0 H0 ex=>by exact (eJ K 2 rfl (aE (ar (i:=0) (show List.Nodup [("number":Str),"row","self"] by decide +kernel) rfl (Or.inl rfl)) (aE (ar (i:=1) (show List.Nodup [("number":Str),"row","self"] by decide +kernel) rfl (Or.inl rfl)) bM)))) (fun C s0 H0 ex=>by exact bc) (fun C s0 H0 ex=>by exact (ak Bq hr rfl (aa (dv K (pv 2) rfl) (aa (pv 0) (aa (pv 1) ac))))))) fun u hu=>?_
 refine ⟨_,rfl,c,dx,_,rfl,hc,gZ _ _ _ _ _ _ (by decide +kernel) (by decide +kernel) (by decide +kernel) (by decide +kernel) (by decide +kernel) (by decide +kernel),c,p,n,f,ss,inp,shares,z,rfl,⟨t,a,b,wa,sh,le,ws,is,I,R⟩,PA,S,hz,fun na H1 s1 ev c0=>?_⟩
 refine ⟨_,rfl,na,ca,_,_,rfl,SqL.of c0,SqL.of (s1 _ _ bz),fun ra a8=>?_⟩
 refine fP (K:=K) (a:=na) (b:=ca) (xs:=(bo p n ss inp shares z).map V.int) (zs:=cs.map V.ref) (fun i ys H2=>i≤(z.dealers n).length∧Same H1 H2∧∃ ds:List Addr,ys=ds.map V.ref∧InsAt H2 ds ((aX p n ss inp shares G z).take i)∧ra∉ds) ⟨vk _,am (Same.refl _) a8,[],rfl,.nil,(fun h=>nomatch h)⟩ ?_ ?_ ?_
 ·rintro i ys H2 ⟨_,Y,_⟩
  exact ⟨SqL.of (Y _ _ c0),SqL.of ((s1.trans Y) _ _ bz)⟩
 ·rintro i x y ys H2 cc ex ey ⟨hi,Y,ds,rfl,bx,ec⟩ cu d2
  rw [u5] at ex
  cases h1:(bo p n ss inp shares z)[i]? with
  | none=>rw [h1] at ex;cases ex
  | some x1 =>
  rw [h1] at ex
  cases ex
  obtain ⟨oa,rfl,d5⟩:=cW ey
  obtain ⟨a9,a5,b2⟩:=(cx.same (s1.trans Y)).get d5
  have ii:i<(z.dealers n).length:=by rw [← nl];exact (u3.mp h1).1
  have ew:ds.length≤10:=by rw [Paired.length bx,vj];omega
  have U:=aj d2 (.tup [.int x1,.ref oa])
  refine ⟨cc,_,rfl,SqT.of upd_same,rfl,_,_,rfl,_,_,rfl,rfl,⟨rfl,rfl⟩,?_⟩
  have R3:=R.same (s1.trans (Y.trans U))
  refine ⟨_,rfl,c,CC,dx,_,_,rfl,(s1.trans (Y.trans U)) _ _ hc,TC.cl,TC.nT,rY _ _ _ _ _ _,_,rfl,_,rfl,t,oa,p,n,f,x1,a9,rfl,R3.tab,by omega,pp.2,by omega,by omega,U _ _ b2,d3 a9 (u4 a5),fun o H4 Z b0 ho=>?_⟩
  have O:=U.trans Z
  have oR:o≠ra:=fun e=>by rw [e,U _ _ cu] at b0;cases b0
  have nD:ra∉ds++[o]:=fun h=>by
   rcases vr.mp h with h | h
   ·exact ec h
   ·exact oR (u9.mp h).symm
  refine ⟨O _ _ cu,au (by rw [lH];omega),ii,am (Y.trans O) a8,ds++[o],by rw [u6];rfl,?_,nD⟩
  have e:(aX p n ss inp shares G z)[i]?=some (cD p n.toNat x1 a9):=by
   unfold aX
   rw [wm,h1,a5]
  rw [vn,e]
  exact InsAt.off (InsAt.snoc (bx.same O) ho) nD
 rintro ys H2 ⟨_,Y,rs,rfl,ap,b2⟩ co
 refine hu _ _ ?_
 have al:=rows_len (p:=p) (n:=n) (by omega) (ss:=ss) (inp:=inp) (shares:=shares) cr
 rw [vi (by rw [al,lH,lH,nl,ea,cr];omega)] at ap
 have Sr:=fB (p:=p) (n:=n) (by omega) ss inp shares G z
 generalize aX p n ss inp shares G z=rows at ap al Sr q
 have g2:=s1.trans Y
 have R2:=R.same g2
 have b4:=g2 _ _ hc
 refine aw (b8 3 ["hand"] [("rows",2),("self",0)] xD.nd  (bn (ak xB hr rfl (aa (aH (pv 0) rfl) ac))) rfl (fun C s0 H0 ex=>by exact (ar (i:=0) (show List.Nodup [("hand":Str),"rows","self"] by decide +kernel) rfl (Or.inl rfl))) (fun C s0 H0 ex=>by exact bc) (fun C s0 H0 ex=>by exact (fG zJ hr (pv 2) (aa (pv 0) (aa (pv 1) ac))))) fun u hu=>?_
 refine ⟨_,rfl,c,CC,dx,_,_,rfl,b4,TC.cl,TC.nT,rY _ _ _ _ _ _,t,p,n,f,rfl,R2.tab,by omega,fun b5 H3 U er b3=>?_⟩
 refine ⟨b5,rfl,⟨_,SqL.of b3⟩,fun ma ag=>?_⟩
 refine bF (K:=K) (a:=b5) (xs:=(bE n).map V.int) (fun i ys H4=>i≤n.toNat∧ys=(((bE n).take i).map fun h=>kJ p n shares rows z h).map V.int∧Same H3 H4) ⟨vk _,rfl,am (Same.refl _) ag⟩ ?_ ?_ ?_
 ·rintro i ys H4 _ ⟨_,_,Z⟩
  exact SqL.of (Z _ _ b3)
 ·rintro i y ys H4 hy ⟨hi,rfl,Z⟩ d6
  rw [u5] at hy
  cases hv:(bE n)[i]? with
  | none=>rw [hv] at hy;cases hy
  | some h =>
  rw [hv] at hy
  cases hy
  have ii:i<n.toNat:=by rw [← bO];exact (u3.mp hv).1
  have hb:1≤h∧h≤n:=by
   have hm:=u4 hv
   unfold bE eS at hm
   obtain ⟨k,hk,rfl⟩:=vP.mp hm
   have:=vH.mp hk
   omega
  have O:=U.trans Z
  refine ⟨⟨rfl,rfl⟩,?_⟩
  refine ⟨_,rfl,c,dx,_,rfl,O _ _ b4,gZ _ _ _ _ _ _ (by decide +kernel) (by decide +kernel) (by decide +kernel) (by decide +kernel) (by decide +kernel) (by decide +kernel),_,rfl,_,rfl,c,ra,p,n,f,h,ss,inp,shares,rows,z,rs,rfl,⟨t,a,b,wa,sh,le,ws,is,I,R2.same O⟩,PA,S,hz,O _ _ co,ap.same O,Sr,al,hb,fun H5 s5=>?_⟩
  refine ⟨s5 _ _ d6,au (by rw [lH,lH,vj];omega),ii,?_,am (Z.trans s5) ag⟩
  rw [vn,hv,u6,u6]
  rfl
 rintro ys H4 ⟨_,rfl,Z⟩ W
 refine hu _ _ ?_
 rw [lH,vI] at W
 have W:H4 ma=some (.lst ((bZ p n shares rows z).map V.int)):=W
 have ml:=iC p n shares rows z
 generalize bZ p n shares rows z=made at W ml q
 have g4:=g2.trans (U.trans Z)
 have R4:=R.same g4
 have ct:=g4 _ _ hc
 refine aw (aW (fG yE hr (pv 0) (aa (dn xg hr (pv 0)) (aa (pv 3) (aa (pv 2) ac))))) fun u hu=>?_
 refine ⟨_,rfl,c,dx,_,rfl,ct,gZ _ _ _ _ _ _ (by decide +kernel) (by decide +kernel) (by decide +kernel) (by decide +kernel) (by decide +kernel) (by decide +kernel),_,rfl,c,dx,_,rfl,ct,gZ _ _ _ _ _ _ (by decide +kernel) (by decide +kernel) (by decide +kernel) (by decide +kernel) (by decide +kernel) (by decide +kernel),c,p,n,f,ss,inp,shares,z,rfl,⟨t,a,b,wa,sh,le,ws,is,I,R4⟩,by omega,hz,fun d H5 s5 d8=>?_⟩
 have g5:=g4.trans s5
 have R5:=R.same g5
 have cp:=U.trans (Z.trans s5)
 refine ⟨_,rfl,_,rfl,c,d,ma,ra,le,p,n,f,ss,inp,shares,rows,z,rs,made,cb,lets,t,a,b,wa,sh,ws,is,I,rfl,R5,PA,by omega,d8,s5 _ _ W,ml,cp _ _ co,ap.same cp,Sr.l,g5 _ _ as,d9.same g5,d0,fun H6 c3 x6 c5 c4=>hu _ _ ?_⟩
 have J:H ma=none:=(g2.trans U).free ag
 have ne:∀ x,x≠le→x∉[le]:=fun x h e=>h (u9.mp e)
 have ck:ma≠le:=fun e=>by rw [e,as] at J;cases J
 have cf:ma≠sh:=fun e=>by rw [e,R.hsh] at J;cases J
 have dt:H6 c=some (.ins CC dx (mK t a b wa sh le)):=x6 _ _ (g5 _ _ hc) (ne _ fun e=>by rw [e,as] at hc;cases hc)
 have ai:H6 sh=some (.lst (I.map V.ref)):=x6 _ _ (g5 _ _ R.hsh) (ne _ D0.sl)
 have da:=x6 _ _ (s5 _ _ W) (ne _ ck)
 have e0:I.length=shares.length:=Paired.length R.hs
 refine ⟨_,(ad (aW (dX vm vA vB bq (aH (pv 0) rfl) (aa (pv 3) ac)))),?_⟩
 refine ⟨_,rfl,c,CC,dx,_,_,rfl,dt,TC.cl,TC.nH,cf_h _ _ _ _ _ _,.inl ⟨rfl,_,SqL.of ai⟩,_,rfl,sh,_,_,rfl,rfl,ai,by rw [lH];exact au (by omega),?_⟩
 have SX:SameX [sh,le] H (upd H6 sh (.lst (I.map V.ref++[.ref ma]))):=fun x u hx hn=>by
  rw [az fun e=>hn (by rw [e];exact vb)]
  exact x6 _ _ (g5 _ _ hx) (ne _ fun e=>hn (by rw [e];simp))
 have AP:Apt a b wa sh le is (I++[ma]):=⟨D0.sl,D0.a1,D0.b1,D0.w1,D0.i1,fun i hi=>by
  rcases vr.mp hi with h | h
  ·exact D0.s1 i h
  ·rw [u9.mp h];exact ⟨cf,ck⟩⟩
 refine q _ ma c3 SX J (CrsAt.next R D0 as SX (by rw [upd_same,u6];rfl) (by rw [az cf];exact da)) AP (by rw [az D0.sl.symm];exact c5) (LetsAt.upd ai c4)
end
section
variable {P:Program}{w:World}{K:PySem.W.Frag}{mg:Str→Option Value}{base:Heap}{C CC pa:Addr}
theorem kA:ax ["self","table","steps","inputs"] ["self","table","steps","inputs"] (ao fA):=⟨rfl,rfl,rfl,by decide +kernel,rfl,by decide +kernel,by decide +kernel⟩
theorem A5 {g:Addr}{fd:FuncData} (F:Fun K "__init__" "Course.__init__" fA g fd) (TC:sr K CC) (AA:Ok P w K mg base CX0 4 "weights" ["table"] (jJ C)):ju P w K mg base CX0 5 g fd ["self","table","steps","inputs"] (jM C CC):=by
 refine F.ok kA (fun vs H Q E h=>?_) (fun a8 A outer s H vs Q E hr h=>?_)
 ·obtain ⟨c,dx,t,a,b,p,n,f,rfl,_⟩:=h
  rfl
 obtain ⟨c,dx,t,a,b,p,n,f,rfl,hc,T1,hp,hn,np,q⟩:=h
 refine ⟨_,(ah (iw (pv 0) (pv 1) rfl)
  (ah (iw (pv 0) (pv 2) rfl)
  (ah (iw (pv 0) (pv 3) rfl)
  (ah (iw (pv 0) (ak AA hr rfl (aa (pv 1) ac)) rfl)
  (ah (iw (pv 0) (bd ac) rfl)
  (ad (iw (pv 0) (bd ac) rfl))))))),?_⟩
 refine ⟨_,rfl,_,rfl,c,CC,dx,_,rfl,hc,TC.cl,TC.nT,(by show 0<1000;decide),?_⟩
 refine ⟨_,rfl,_,rfl,c,CC,dx,_,rfl,upd_same,TC.cl,TC.nS,(by show 1<1000;decide),?_⟩
 refine ⟨_,rfl,_,rfl,c,CC,dx,_,rfl,upd_same,TC.cl,TC.nI,ww (gl (k:=1) (gl (k:=0) (va 0))) (by decide),?_⟩
 rw [sH,sH]
 have R:∀ x u,H x=some u→x≠c→(upd H c (.ins CC dx (dP "inputs" (.ref b) (dP "steps" (.ref a) (dP "table" (.ref t) []))))) x=some u:=fun x u e hx=>by rw [az hx];exact e
 have Y:(upd H c (.ins CC dx (dP "inputs" (.ref b) (dP "steps" (.ref a) (dP "table" (.ref t) []))))) c=some (.ins CC dx (dP "inputs" (.ref b) (dP "steps" (.ref a) (dP "table" (.ref t) [])))):=upd_same
 have tc:t≠c:=fun e=>by
  obtain ⟨dt,ht⟩:=T1
  rw [e,hc] at ht
  have h1:=vz ht
  injection h1 with _ _ h3
  unfold tf at h3
  cases h3
 have fr:∀ x,(upd H c (.ins CC dx (dP "inputs" (.ref b) (dP "steps" (.ref a) (dP "table" (.ref t) []))))) x=none→H x=none:=fun x e=>by
  by_cases hx:x=c
  ·rw [hx,Y] at e
   cases e
  ·rw [az hx] at e
   exact e
 generalize (upd H c (.ins CC dx (dP "inputs" (.ref b) (dP "steps" (.ref a) (dP "table" (.ref t) [])))))=H3 at R Y fr
 have T3:TabAt C H3 t p n f:=let ⟨dt,ht⟩:=T1;⟨dt,R _ _ ht tc⟩
 refine ⟨_,rfl,t,p,n,f,rfl,T3,hp,hn.1,hn.2,np,fun wa H4 s4 O J=>?_⟩
 have l3:(dP "inputs" (V.ref b) (dP "steps" (.ref a) (dP "table" (.ref t) []))).length≤3:=gl (k:=2) (gl (k:=1) (gl (k:=0) (va 0)))
 refine ⟨_,rfl,c,CC,dx,_,rfl,s4 _ _ Y,TC.cl,TC.nP,ww l3 (by decide),?_⟩
 have wc:wa≠c:=fun e=>by rw [e,Y] at O;cases O
 refine ⟨(by show 0≤sizeLine;decide),fun sh I=>?_⟩
 have sc:sh≠c:=fun e=>by rw [e,upd_same] at I;cases I
 have W:H4 sh=none:=by rw [az sc] at I;exact I
 have sw:wa≠sh:=fun e=>by rw [e,W] at J;cases J
 refine ⟨_,rfl,c,CC,dx,_,rfl,(az sc.symm).trans upd_same,TC.cl,TC.nH,ww (gl l3) (by decide),?_⟩
 refine ⟨(by show 0≤sizeLine;decide),fun le G=>?_⟩
 have lc:le≠c:=fun e=>by rw [e,upd_same] at G;cases G
 have ls:sh≠le:=fun e=>by
  rw [← e,az sc,upd_same] at G
  cases G
 have U:H4 le=none:=by
  rw [az lc,az ls.symm,az lc] at G
  exact G
 have lw:wa≠le:=fun e=>by rw [e,U] at J;cases J
 refine ⟨_,rfl,c,CC,dx,_,rfl,(az lc.symm).trans upd_same,TC.cl,TC.nL,ww (gl (gl l3)) (by decide),?_⟩
 refine q _ wa sh le (fun x u hx Z=>?_) (fr _ O) (fr _ (s4.free W)) (fr _ (s4.free U)) ls sw lw ?_ ?_ ?_ ?_
 ·have h4:=s4 _ _ (R x u hx Z)
  rw [az Z,az (fun e=>by rw [e,U] at h4;cases h4),az Z,az (fun e=>by rw [e,W] at h4;cases h4),az Z]
  exact h4
 ·rw [az wc,az lw,az wc,az sw,az wc]
  exact J
 ·rw [az sc,az ls,az sc]
  exact upd_same
 ·rw [az lc]
  exact upd_same
 ·rw [upd_same,crs_put]
theorem xw:ax ["self","found","place","step"] ["self"] (ao dO):=⟨rfl,rfl,rfl,by decide +kernel,rfl,by decide +kernel,by decide +kernel⟩
theorem tQ {g:Addr}{fd:FuncData} (F:Fun K "opened" "Course.opened" dO g fd) (B:Blt mg) (TC:sr K CC) (yx:Ok P w K mg base CX0 1 "weighed" ["table","parts","numbers"] (hW C)):ju P w K mg base CX0 2 g fd ["self"] (jx C CC):=by
 refine F.ok xw (fun vs H Q E h=>?_) (fun b5 A outer s H vs Q E hr h=>?_)
 ·obtain ⟨c,p,n,f,ss,inp,G,rfl,_⟩:=h
  rfl
 obtain ⟨c,p,n,f,ss,inp,G,rfl,⟨t,a,b,wa,sh,le,ws,is,I,R⟩,PA,S,bl,q⟩:=h
 refine ⟨_,(ah (aB (i:=1) xw.nd rfl (Or.inl rfl) (bd ac))
  (ah (bX PassesOwn.never rfl (mm rfl B.enumerate (aa (aH (pv 0) rfl) ac)) (gh rfl (aE (ar (i:=2) xw.nd rfl (Or.inl rfl)) (aE (ar (i:=3) xw.nd rfl (Or.inl rfl)) bM)))
   (ad (bg (aA bQ (aO aZ (pv 3) ae (fun _ _=>rfl)) aU (aI _))
   (ad (aW (dX vm vA vB bq (pv 1) (aa (ci (aa (pv 2) (aa (ak yx hr rfl (aa (aH (pv 0) rfl) (aa (aH (pv 0) rfl) (aa (aO aP (aH (pv 0) rfl) (pv 2) (fun _ _=>rfl)) ac)))) ac))) ac))))
   aJ)))
  (ad (ay (pv 1))))),?_⟩
 have pp:=jc PA.hp
 have hn:=PA.hn
 have np:=PA.np
 have b3:=PA.len
 have wl:ws.length=ss.length:=Paired.length R.st
 have b4:I.length=G.length:=Paired.length R.hs
 have wk:=ws_ok PA.hp (n:=n.toNat) (by omega) (by omega) (by omega)
 obtain ⟨dx,hc⟩:=R.obj
 refine ⟨(by show 0≤sizeLine;decide),fun l hl=>?_⟩
 have s1:=aj hl (.lst [])
 have a2:(upd H l (.lst [])) l=some (.lst []):=upd_same
 generalize upd H l (.lst [])=H1 at s1 a2
 refine ⟨_,rfl,c,CC,dx,_,_,rfl,s1 _ _ hc,TC.cl,TC.nS,cf_a _ _ _ _ _ _,a,_,rfl,SqL.of (s1 _ _ R.ha),?_⟩
 refine jC (K:=K) (a:=a) (xs:=ws) (k0:=0) (fun i σ H2=>Same H H2∧∃ (vs:List V) (v2 v3:Option V),σ=[some (.ref c),some (.ref l),v2,v3]∧H2 l=some (.lst vs)∧PtsAt H2 vs ((List.range i).map fun i=>rg p n G i (ss.getD i (.fix 0))).flatten∧vs.length≤i) ?_ ?_ ?_ ?_
 ·exact ⟨s1,[],_,_,rfl,a2,.nil,vk _⟩
 ·rintro i σ H2 ⟨Z,_⟩
  exact SqL.of (Z _ _ R.ha)
 ·rintro i y σ H2 cc hy ⟨Z,vs,v2,v3,rfl,ai,W,ca⟩ be
  obtain ⟨d,z,rfl,hz,ab⟩:=(R.st.same Z).get hy
  have ii:i<ss.length:=(u3.mp ab).1
  have s3:=aj be (.tup [.int ((0+i:Nat):Int),.ref d])
  refine ⟨cc,_,rfl,SqT.of upd_same,rfl,_,_,rfl,_,_,rfl,rfl,?_⟩
  have a3:=s3 _ _ hz
  have J:=s3 _ _ ai
  have U:=Z.trans s3
  have O:PtsAt _ vs _:=W.same s3
  generalize upd H2 cc (.tup [.int ((0+i:Nat):Int),.ref d])=H3 at s3 a3 J U O
  have ei:((0+i:Nat):Int)=(i:Int):=by omega
  rw [ei]
  refine ⟨_,rfl,d,_,_,.str z.word,rfl,rfl,SqT.of a3,z.at0,rfl,_,rfl,?_⟩
  refine bB (fun c1=>?_) (fun c1=>?_)
  ·have an:V.str z.word=V.str "open":=of_decide_eq_true c1
   injection an with an
   cases z with
   | opn a1 =>
    have R3:=R.same U
    obtain ⟨ag,af,ba⟩:=R3.hs.get (rz (show i<I.length by omega))
    have bb:atI (I.map V.ref) (i:Int)=some (.ref I[i]):=by
     unfold atI
     rw [show ixN (I.map V.ref).length (i:Int)=some i by simpa using j9 (n:=(I.map V.ref).length) (k:=(i:Int)) (by omega) (by rw [lH];omega)]
     show (I.map V.ref)[i]?=_
     rw [u5,rz (show i<I.length by omega)]
     rfl
    refine ⟨_,rfl,.inl ⟨rfl,_,SqL.of J⟩,_,rfl,_,rfl,c,CC,dx,_,_,rfl,U _ _ hc,TC.cl,TC.nT,rY _ _ _ _ _ _,_,rfl,c,CC,dx,_,_,rfl,U _ _ hc,TC.cl,TC.nP,cf_w _ _ _ _ _ _,_,rfl,c,CC,dx,_,_,rfl,U _ _ hc,TC.cl,TC.nH,cf_h _ _ _ _ _ _,_,rfl,sh,_,_,.ref I[i],rfl,rfl,SqL.of R3.hsh,bb,t,wa,I[i],p,n,f,bp p n.toNat,ag,rfl,R3.tab,⟨by omega,pp.2⟩,R3.hw,ba,by rw [fU];omega,wk.2,S.b ag (u4 af),fun H4 s4=>⟨(by show 2≤sizeLine;decide),fun tt a8=>?_⟩⟩
    have s5:=aj a8 (.tup [.int (i:Int),.int (wgh p n ag)])
    have Y:=s4.trans s5
    refine ⟨l,_,_,rfl,rfl,Y _ _ J,au (by omega),?_⟩
    refine ⟨am (U.trans Y) hl,vs++[.ref tt],_,_,rfl,upd_same,?_,by rw [u7];show _+1≤_;omega⟩
    rw [kU ab]
    refine PtsAt.upd (Y _ _ J) (Veil.Paired.append (O.same Y) ?_)
    show Paired _ [V.ref tt] [((i:Int),wgh p n (G.getD i []))]
    rw [nn,af]
    exact .cons ⟨tt,rfl,upd_same⟩ .nil
   | _=>exact absurd an (by simp only [Stp.word];decide +kernel)
  ·refine ⟨U,vs,_,_,rfl,J,?_,by omega⟩
   rw [kU ab]
   have e:rg p n G i z=[]:=by
    cases z with
    | opn a1=>exact absurd (decide_eq_true rfl) c1
    | _=>rfl
   rw [e,vT]
   exact O
 ·rintro σ H2 ⟨Z,vs,v2,v3,rfl,ai,W,_⟩
  rw [wl] at W
  exact ⟨_,rfl,q l vs H2 Z hl ai W⟩
end
section
variable {P:Program}{w:World}{K:PySem.W.Frag}{mg:Str→Option Value}{base:Heap}{C CC pa:Addr}
theorem AB:ax ["table","steps","inputs","chance","course","rows"] ["table","steps","inputs","chance"] (ao s_run):=⟨rfl,rfl,rfl,by decide +kernel,rfl,by decide +kernel,by decide +kernel⟩
theorem Br {cS cI cC:Addr} (F:Src K mg "run" "run" s_run ["table","steps","inputs","chance"]) (B:Blt mg) (TC:sr K CC) (xR:Ok P w K mg base (CXE P w) 8 "refuse_run" ["table","steps","inputs","chance"] (eZ C cS cI cC)) (yo:MkOk P w K mg base CX0 5 "Course" CC ["self","table","steps","inputs"] (jM C CC)) (xj:Ok P w K mg base CX0 3 "chance_by_step" ["table","steps","chance"] (cq C)) (yI:MOk P w K mg base CX0 4 CC "go_on" ["self","chance_rows"] (spGo C CC)) (A6:MOk P w K mg base CX0 2 CC "opened" ["self"] (jx C CC)):Ok P w K mg base (CXE P w) 9 "run" ["table","steps","inputs","chance"] (pN C cS cI cC):=by
 refine F.okE AB (fun vs H Q E h=>?_) (fun f fl A outer s H vs Q E hr h=>?_)
 ·obtain ⟨t,a,b,c,p,n,f,ws,ss,is,inp,ch,rfl,_⟩:=h
  rfl
 obtain ⟨t,a,b,c,p,n,f,ws,ss,is,inp,ch,rfl,T1,hp,hn,np,hf,fn,ha,a5,hb,ba,c2,b4,cu,q1,q2,q3,q4⟩:=h
 have pp:=jc hp
 refine aw (aW (b9 xR hr rfl (aa (pv 0) (aa (pv 1) (aa (pv 2) (aa (pv 3) ac)))))) fun u hu=>?_
 refine ⟨_,rfl,_,rfl,_,rfl,_,rfl,t,a,b,c,p,n,f,ws,ss,is,inp,ch,rfl,T1,by omega,by omega,ha,a5,hb,ba,c2,b4,cu,fun hR hI hC H1 s1=>hu _ _ ?_,q2,q3,q4⟩
 have q1:=q1 hR hI hC
 obtain ⟨ed,d0⟩:=rightsB_iff.mp hR
 have ej:=(dI (by omega)).mp hI
 have PA:Par p n f ss inp:=⟨hp,hn,np,hf,fn,ed,d0,ej⟩
 refine aw (aB (i:=4) AB.nd rfl (Or.inl rfl) (jA yo hr rfl (aa (pv 0) (aa (pv 1) (aa (pv 2) ac))))) fun u hu=>?_
 refine ⟨_,rfl,_,rfl,_,rfl,fun x dx hx dl fm=>?_⟩
 have sM:Same H1 (upd (upd H1 dx (.own x)) x (.ins CC dx [])):=fun y u e=>by
  rw [az (aq e hx),az (aq e dl)]
  exact e
 have cc:(upd (upd H1 dx (.own x)) x (.ins CC dx [])) x=some (.ins CC dx []):=upd_same
 have a9:∀ y,(upd (upd H1 dx (.own x)) x (.ins CC dx [])) y=none→H1 y=none:=fun y e=>sM.free e
 generalize upd (upd H1 dx (.own x)) x (.ins CC dx [])=HM at sM cc a9
 refine ⟨x,dx,t,a,b,p,n,f,rfl,cc,(T1.same s1).same sM,hp,by omega,np,fun H2 wa sh le c3 ey c4 c6 ca ef d3 ek hsh cf d7=>⟨rfl,hu _ _ ?_⟩⟩
 have el:Same H1 H2:=fun y u e=>c3 y u (sM _ _ e) (aq e hx)
 have g2:=s1.trans el
 have cr:H sh=none:=s1.free (a9 _ c4)
 have cp:H le=none:=s1.free (a9 _ c6)
 refine aw (PS.nox (bX PassesOwn.never rfl (bn (ak xj hr rfl (aa (pv 0) (aa (pv 1) (aa (pv 3) ac))))) (ar (i:=5) AB.nd rfl (Or.inl rfl))
   (ad (aW (fG yI hr (pv 4) (aa (pv 5) ac)))))) fun u hu=>?_
 refine ⟨_,rfl,_,rfl,_,rfl,t,a,c,p,n,f,ws,ss,ch,rfl,T1.same g2,by omega,by omega,g2 _ _ ha,a5.same g2,by omega,g2 _ _ b4,fun d as H3 s3 d8 hd co=>?_⟩
 have g3:=g2.trans s3
 have cb:as.length=ss.length:=by rw [Paired.length co,dJ]
 have be:∀ y,H2 y=none→y∉[sh,le]:=fun y e h=>by
  rcases u8.mp h with z | z
  ·rw [z,hsh] at e;cases e
  ·rw [u9.mp z,cf] at e;cases e
 have a3:∀ y,H y≠none→y≠sh∧y≠le:=fun y e=>⟨fun z=>e (by rw [z];exact cr),fun z=>e (by rw [z];exact cp)⟩
 have di:Apt a b wa sh le is []:=⟨ca,a3 a (by rw [ha];exact fun z=>nomatch z),a3 b (by rw [hb];exact fun z=>nomatch z),⟨ef,d3⟩,fun i hi=>by
  obtain ⟨k,hk⟩:=vU hi
  obtain ⟨r,_,hr⟩:=ba.get hk
  exact a3 i (by rw [hr];exact fun z=>nomatch z),(fun i hi=>nomatch hi)⟩
 refine ⟨d,rfl,⟨_,SqL.of hd⟩,?_⟩
 refine cR (K:=K) (a:=d) (xs:=as.map V.ref) (fun i σ H'=>SameX [sh,le] H3 H'∧∃ (G:List Addr) (O:List V) (v5:Option V),σ=[some (.ref t),some (.ref a),some (.ref b),some (.ref c),some (.ref x),v5]∧CrsAt C CC H' x p n f ss inp (ja p n f.toNat ss inp ch i).1 t a b wa sh le ws is G∧Apt a b wa sh le is G∧H' le=some (.lst O)∧LetsAt H' O (ja p n f.toNat ss inp ch i).2∧(∀ m∈G,H3 m=none)∧G.Nodup∧O.length≤100*i∧i≤ss.length) ?_ ?_ ?_ ?_
 ·refine ⟨fun y u e _=>e,[],[],none,rfl,⟨⟨dx,s3 _ _ d7⟩,T1.same g3,g3 _ _ ha,a5.same g3,g3 _ _ hb,ba.same g3,s3 _ _ ek,s3 _ _ hsh,.nil⟩,di,s3 _ _ cf,.nil,(fun m h=>nomatch h),.nil,vk _,vk _⟩
 ·rintro i σ H' _ ⟨sX,_⟩
  exact SqL.of (sX _ _ hd (be d d8))
 ·rintro i y σ H' hy ⟨sX,G,O,v5,rfl,R,AP,J,W,bb,nd,em,hi⟩
  obtain ⟨ai,rfl,ck⟩:=cW hy
  have il:i<ss.length:=by rw [← cb];exact (u3.mp ck).1
  obtain ⟨q,b0,ct,bs,ei,er,dt⟩:=cX co ck
  have ez:ss[i]?=some ss[i]:=rz il
  have Y:q=aN f.toNat ch (aT f.toNat n (ss.take i)) ((ss[i]).dealers n).length:=by
   have h1:=dg (f:=f.toNat) (n:=n) (ch:=ch) ez
   rw [vn,b0] at h1
   have:=List.append_cancel_left h1
   simpa using this
  have al:=eQ (p:=p) (n:=n) (f:=f.toNat) (inp:=inp) (ch:=ch) ez
  have rl:=ir (p:=p) (n:=n) (f:=f.toNat) (ss:=ss) (inp:=inp) (ch:=ch) (i:=i) (by omega)
  have a2:=l0 (p:=p) (n:=n) (by omega) (f:=f.toNat) (ss:=ss) (inp:=inp) (ch:=ch) (i:=i) (by omega)
  have ll:=Paired.length W
  rw [← Y] at al
  generalize ja p n f.toNat ss inp ch i=st at al rl a2 R W ll
  have ev:InsAt H' bs q:=InsAt.sx sX er fun b hb=>be b (dt b hb)
  have eb:=sX _ _ ei (be ai ct)
  have hz:ss[st.1.length]?=some ss[i]:=by rw [rl];exact ez
  have eg:ss.getD st.1.length (.fix 0)=ss[i]:=by rw [nn,hz];rfl
  have cs:ja p n f.toNat ss inp ch (i+1)=(st.1++[bZ p n st.1 (aX p n ss inp st.1 q ss[i]) ss[i]],st.2++j7 p n (st.1.length:Int) (bZ p n st.1 (aX p n ss inp st.1 q ss[i]) ss[i]) (aX p n ss inp st.1 q ss[i]) ss[i]):=by
   rw [al]
   unfold kg
   rw [eg]
  obtain ⟨af,ab⟩:=R.obj
  have et:∀ r∈q,r.length≤100:=fun r hr=>by
   rw [Y] at hr
   have:=(iI r hr).1
   omega
  have Sr:=fB (p:=p) (n:=n) (by omega) ss inp st.1 q ss[i]
  have lb:=iD (p:=p) hn (st.1.length:Int) (bZ p n st.1 (aX p n ss inp st.1 q ss[i]) ss[i]) (aX p n ss inp st.1 q ss[i]) ss[i] (fun r hr=>by have:=Sr.l r hr;omega)
  refine ⟨_,rfl,x,af,_,rfl,ab,gZ _ _ _ _ _ _ (by decide +kernel) (by decide +kernel) (by decide +kernel) (by decide +kernel) (by decide +kernel) (by decide +kernel),_,rfl,x,ai,le,p,n,f,ss,inp,st.1,q,ss[i],bs,O,st.2,t,a,b,wa,sh,ws,is,G,rfl,R,AP,PA,a2,hz,eb,ev,by rw [Y,b7],et,J,W,by omega,fun H6 m c0 x6 U R6 d9 c5 a7=>?_⟩
  have ew:=Paired.length a7
  rw [u7] at ew
  have ea:m∉G:=fun h=>by
   obtain ⟨k,hk⟩:=vU h
   obtain ⟨_,_,z⟩:=R.hs.get hk
   rw [U] at z
   cases z
  have m3:H3 m=none:=by
   cases e:H3 m with
   | none=>rfl
   | some u =>
    exfalso
    by_cases z:m∈[sh,le]
    ·rcases u8.mp z with w | w
     ·rw [w,R.hsh] at U;cases U
     ·rw [u9.mp w,J] at U;cases U
    ·rw [sX _ _ e z] at U
     cases U
  refine ⟨sX.trans x6,G++[m],c0,_,rfl,?_,d9,c5,?_,fun k hk=>?_,eV nd ea,by omega,by omega⟩
  ·rw [cs];exact R6
  ·rw [cs];exact a7
  ·rcases vr.mp hk with h | h
   ·exact bb k h
   ·rw [u9.mp h];exact m3
 ·rintro σ H' ⟨sX,G,O,v5,rfl,R,AP,J,W,bb,nd,em,_⟩
  refine hu _ _ ?_
  refine ⟨_,(ad (ay (ci (aa (aH (pv 4) rfl) (aa (aH (pv 4) rfl) (aa (dn A6 hr (pv 4)) ac)))))),?_⟩
  rw [lH,cb] at R W
  have a2:=l0 (p:=p) (n:=n) (by omega) (f:=f.toNat) (ss:=ss) (inp:=inp) (ch:=ch) (i:=ss.length) (va _)
  have rl:=ir (p:=p) (n:=n) (f:=f.toNat) (ss:=ss) (inp:=inp) (ch:=ch) (i:=ss.length) (va _)
  obtain ⟨af,ab⟩:=R.obj
  have gX:Same H H':=fun y u e=>sX _ _ (g3 _ _ e) fun h=>by
   have o:=a3 y (by rw [e];exact fun z=>nomatch z)
   rcases u8.mp h with z | z
   ·exact o.1 z
   ·exact o.2 (u9.mp z)
  refine ⟨_,rfl,x,CC,af,_,_,rfl,ab,TC.cl,TC.nH,cf_h _ _ _ _ _ _,_,rfl,x,CC,af,_,_,rfl,ab,TC.cl,TC.nL,cf_l _ _ _ _ _ _,_,rfl,x,af,_,rfl,ab,gZ _ _ _ _ _ _ (by decide +kernel) (by decide +kernel) (by decide +kernel) (by decide +kernel) (by decide +kernel) (by decide +kernel),x,p,n,f,ss,inp,_,rfl,⟨t,a,b,wa,sh,le,ws,is,G,R⟩,PA,a2,rl,fun oa en H7 s7 I ep ec=>⟨(by show 3≤sizeLine;decide),fun dd b5=>?_⟩⟩
  have s8:=aj b5 (.tup [.ref sh,.ref le,.ref oa])
  have Z:=s7.trans s8
  have dp:sh≠oa:=fun e=>by rw [← e,R.hsh] at I;cases I
  have dy:le≠oa:=fun e=>by rw [← e,J] at I;cases I
  refine q1 dd sh le oa G O en _ (gX.trans Z) (gX.free (s7.free b5)) cr cp (gX.free I) ca dp dy (fun m hm=>⟨g3.free (bb m hm),(AP.s1 m hm).1,(AP.s1 m hm).2,fun e=>?_⟩) nd upd_same (Z _ _ R.hsh) (R.hs.same Z) (Z _ _ J) (W.same Z) (s8 _ _ ep) (ec.same s8)
  obtain ⟨k,hk⟩:=vU hm
  obtain ⟨_,_,z⟩:=R.hs.get hk
  rw [e,I] at z
  cases z
end
section
variable {P:Program}{w:World}{K:PySem.W.Frag}{mg:Str→Option Value}{base:Heap}{C pa:Addr}
theorem ky:ax ["steps","inputs","some"] ["steps","inputs","some"] (ao dF):=⟨rfl,rfl,rfl,by decide +kernel,rfl,by decide +kernel,by decide +kernel⟩
theorem kF (F:Src K mg "inputs_used" "inputs_used" dF ["steps","inputs","some"]) (yT:Ok P w K mg base CX0 1 "uses" ["steps","hand"] mV):Ok P w K mg base CX0 2 "inputs_used" ["steps","inputs","some"] dY:=by
 refine F.ok ky (fun vs H Q E h=>?_) (fun f b0 A outer s H vs Q E hr h=>?_)
 ·obtain ⟨a,b,s,n,ws,ss,J,inp,hs,rfl,_⟩:=h
  rfl
 obtain ⟨a,b,sa,n,ws,ss,J,inp,hs,rfl,ha,a4,hb,ai,hn,al,hl,hh,q⟩:=h
 have il:J.length=inp.length:=Paired.length ai
 refine ⟨_,(ad (ay (bw ["hand"] [("inputs",1),("steps",0)]  (bn (pv 2)) rfl (fun C s0 H0 ex=>by exact (ar (i:=0) (show List.Nodup [("hand":Str),"inputs","steps"] by decide +kernel) rfl (Or.inl rfl))) (fun C s0 H0 ex=>by exact bc) (fun C s0 H0 ex=>by exact (df (sl_listK K) (aO (iF K) (pv 1) (av bD (pv 0) ae) (fun _ _=>rfl)) fD (dQ (ak yT hr rfl (aa (pv 2) (aa (pv 0) ac))))))))),?_⟩
 refine ⟨_,rfl,sa,rfl,⟨_,SqL.of al⟩,fun D hD=>?_⟩
 refine bF (K:=K) (a:=sa) (xs:=hs.map V.int) (fun j ys H2=>Same H H2∧∃ G:List Addr,ys=G.map V.ref∧G.Nodup∧D∉G∧(∀ b∈G,H b=none)∧InsAt H2 G ((jY ss inp hs).take j)) ⟨am (Same.refl _) hD,[],rfl,.nil,(fun h=>nomatch h),(fun b h=>nomatch h),.nil⟩ ?_ ?_ ?_
 ·rintro j ys H2 _ ⟨I,_⟩
  exact SqL.of (I _ _ al)
 ·rintro j y ys H2 hy ⟨I,G,rfl,nd,R,fr,U⟩ O
  rw [u5] at hy
  cases W:hs[j]? with
  | none=>rw [W] at hy;cases hy
  | some h =>
  rw [W] at hy
  cases hy
  have jl:j<hs.length:=(u3.mp W).1
  have bz:=hh h (u4 W)
  have bx:G.length≤100:=by
   rw [Paired.length U,vj]
   unfold jY
   rw [lH]
   omega
  have an:(h - 1).toNat<J.length:=by omega
  obtain ⟨Z,a1,ba⟩:=(ai.same I).get (rz an)
  have bb:atI (J.map V.ref) (h - 1)=some (.ref J[(h - 1).toNat]):=by
   unfold atI
   rw [show ixN (J.map V.ref).length (h - 1)=some (h - 1).toNat from j9 (n:=(J.map V.ref).length) (k:=h - 1) (by omega) (by rw [lH];omega)]
   show (J.map V.ref)[(h - 1).toNat]?=_
   rw [u5,rz an]
   rfl
  have ap:bU inp h=Z:=by unfold bU;rw [nn,a1];rfl
  refine ⟨⟨rfl,rfl⟩,?_⟩
  refine ⟨_,rfl,_,rfl,_,_,rfl,rfl,b,_,_,.ref J[(h - 1).toNat],rfl,rfl,SqL.of (I _ _ hb),bb,_,rfl,_,rfl,a,h,ws,ss,rfl,I _ _ ha,a4.same I,fun H3 s3=>?_⟩
  refine ⟨_,rfl,_,_,rfl,SqL.of (s3 _ _ ba),fun o Y=>?_⟩
  have s4:=aj Y (.lst (kL (Z.map V.int) none (some (aS ss h:Int))))
  have ab:=s3.trans s4
  have oD:o≠D:=fun e=>by rw [e,s3 _ _ O] at Y;cases Y
  have a7:o∉G:=fun z=>by
   obtain ⟨k,hk⟩:=vU z
   obtain ⟨_,_,zz⟩:=(U.same s3).get hk
   rw [Y] at zz
   cases zz
  refine ⟨ab _ _ O,au (by rw [lH];omega),am (I.trans ab) hD,G++[o],by rw [u6];rfl,eV nd a7,fun z=>?_,fun x hx=>?_,?_⟩
  ·rcases vr.mp z with z | z
   ·exact R z
   ·exact oD (u9.mp z).symm
  ·rcases vr.mp hx with z | z
   ·exact fr x z
   ·rw [u9.mp z]
    exact (I.trans s3).free Y
  ·have e:(jY ss inp hs)[j]?=some (Z.take (aS ss h)):=by unfold jY;rw [u5,W,Option.map_some,ap]
   rw [vn,e]
   refine InsAt.off (InsAt.snoc (U.same ab) ?_) fun z=>?_
   ·rw [upd_same,took]
   ·rcases vr.mp z with z | z
    ·exact R z
    ·exact oD (u9.mp z).symm
 ·rintro ys H2 ⟨I,G,rfl,nd,R,fr,U⟩ O
  rw [lH,vi (by unfold jY;rw [lH];exact va _)] at U
  exact q D H2 G I hD O nd R fr U
theorem xl:ax ["table","steps","chance","some","found","step","rows","hand","row"] ["table","steps","chance","some"] (ao dG):=⟨rfl,rfl,rfl,by decide +kernel,rfl,by decide +kernel,by decide +kernel⟩
theorem kG (F:Src K mg "chance_used" "chance_used" dG ["table","steps","chance","some"]) (B:Blt mg) (xj:Ok P w K mg base CX0 3 "chance_by_step" ["table","steps","chance"] (cq C)) (xp:Ok P w K mg base CX0 2 "dealers" ["table","step"] (dk C)):Ok P w K mg base CX0 4 "chance_used" ["table","steps","chance","some"] (fZ C):=by
 refine F.ok xl (fun vs H Q E h=>?_) (fun f e3 A outer s H vs Q E hr h=>?_)
 ·obtain ⟨t,a,c,s,p,n,f,ws,ss,ch,hs,rfl,_⟩:=h
  rfl
 obtain ⟨t,a,c,sa,p,n,f,ws,ss,ch,hs,rfl,T1,hn,hf,ha,a5,d1,di,a6,q⟩:=h
 have wl:ws.length=ss.length:=Paired.length a5
 refine ⟨_,(ah (aB (i:=4) xl.nd rfl (Or.inl rfl) (bd ac))
  (ah (bX PassesOwn.never rfl (gI rfl B.zip (aa (pv 1) (aa (ak xj hr rfl (aa (pv 0) (aa (pv 1) (aa (pv 2) ac)))) ac))) (gh rfl (aE (ar (i:=5) xl.nd rfl (Or.inl rfl)) (aE (ar (i:=6) xl.nd rfl (Or.inl rfl)) bM)))
   (ad (bX PassesOwn.never rfl (gI rfl B.zip (aa (ak xp hr rfl (aa (pv 0) (aa (pv 5) ac))) (aa (pv 6) ac))) (gh rfl (aE (ar (i:=7) xl.nd rfl (Or.inl rfl)) (aE (ar (i:=8) xl.nd rfl (Or.inl rfl)) bM)))
   (ad (bg (aA gk (pv 7) (pv 3) rfl)
   (ad (aW (dX vm PySem.F.slot_list_extend PySem.F.type_list_extend iA (pv 4) (aa (pv 8) ac))))
   aJ)))))
  (ad (ay (pv 4))))),?_⟩
 refine ⟨(by show 0≤sizeLine;decide),fun l hl=>?_⟩
 have s1:=aj hl (.lst [])
 have U:(upd H l (.lst [])) l=some (.lst (([]:List Int).map V.int)):=upd_same
 generalize upd H l (.lst [])=H1 at s1 U
 refine ⟨_,rfl,_,rfl,_,rfl,_,rfl,t,a,c,p,n,f,ws,ss,ch,rfl,T1.same s1,hn,hf,s1 _ _ ha,a5.same s1,d1,s1 _ _ di,fun d as H2 s2 cf hd ck=>?_⟩
 have g2:=s1.trans s2
 have d2:as.length=ss.length:=by rw [Paired.length ck,dJ]
 have dl:d≠l:=fun e=>by rw [e,U] at cf;cases cf
 have stay:∀ {I:Hp}{y:Addr}{u:HO},SameX [l] H2 I→H2 y=some u→y≠l→I y=some u:=fun sx e G=>sx _ _ e (fun h=>G (u9.mp h))
 refine ⟨a,d,_,_,rfl,SqL.of (g2 _ _ ha),SqL.of hd,?_⟩
 have al:a≠l:=aq ha hl
 have tl:t≠l:=by obtain ⟨dx,ht⟩:=id T1;exact aq ht hl
 refine pi (K:=K) (a:=a) (b:=d) (xs:=ws) (zs:=as.map V.ref) (fun i σ I=>SameX [l] H2 I∧∃ (v5 v6 v7 v8:Option V),σ=[some (.ref t),some (.ref a),some (.ref c),some (.ref sa),some (.ref l),v5,v6,v7,v8]∧I l=some (.lst ((fQ n hs ss (bA f.toNat n ch ss 0) i).map V.int))∧(fQ n hs ss (bA f.toNat n ch ss 0) i).length≤20*i∧i≤ss.length) ?_ ?_ ?_ ?_
 ·exact ⟨fun y u e _=>e,_,_,_,_,rfl,s2 _ _ U,vk _,vk _⟩
 ·rintro i σ I ⟨sx,_⟩
  exact ⟨SqL.of (stay sx (g2 _ _ ha) al),SqL.of (stay sx hd dl)⟩
 ·rintro i x z σ I cc ex ez ⟨sx,v5,v6,v7,v8,rfl,J,cl,hi⟩ bf
  obtain ⟨zd,z,rfl,hz,bm⟩:=(a5.same g2).get ex
  obtain ⟨ra,rfl,d8⟩:=cW ez
  have il:i<ss.length:=(u3.mp bm).1
  obtain ⟨rows,Z,a7,bs,d0,cp,cb⟩:=cX ck d8
  have er:=i3 (f:=f.toNat) (n:=n) (ch:=ch) bm
  have e2:rows=aN f.toNat ch (aT f.toNat n (ss.take i)) (z.dealers n).length:=vz (Z.symm.trans er)
  have ew:=ce hn.1 hn.2 z
  have rl:rows.length=(z.dealers n).length:=by rw [e2,b7]
  have bz:∀ r∈rows,r.length≤2:=fun r hr=>by
   rw [e2] at hr
   have:=(iI r hr).1
   omega
  have bl:bs.length=rows.length:=Paired.length cp
  have zl:zd≠l:=fun e=>by rw [e,s2 _ _ U] at hz;cases hz
  have l1:∀ y,H1 y=none→y≠l:=fun y e1 e2=>by rw [e2,U] at e1;cases e1
  have ec:=stay sx hz zl
  have a4:=stay sx d0 (l1 _ a7)
  have c4:InsAt I bs rows:=InsAt.sx sx cp fun b hb h=>l1 b (cb b hb) (u9.mp h)
  have T3:TabAt C I t p n f:=by obtain ⟨dx,ht⟩:=id T1;exact ⟨dx,stay sx (g2 _ _ ht) tl⟩
  have c7:=stay sx (g2 _ _ a6) (aq a6 hl)
  have s4:=aj bf (.tup [.ref zd,.ref ra])
  refine ⟨cc,_,rfl,SqT.of upd_same,rfl,_,_,rfl,_,_,rfl,rfl,?_⟩
  have lc:cc≠l:=fun e=>by rw [e,J] at bf;cases bf
  generalize upd I cc (.tup [.ref zd,.ref ra])=H4 at s4
  have d9:SameX [l] H2 H4:=fun y u e G=>s4 _ _ (sx y u e G)
  refine ⟨_,rfl,_,rfl,t,zd,p,n,f,z,rfl,T3.same s4,hn,s4 _ _ ec,fun da H5 s5 a9 cr=>?_⟩
  have O:=s4.trans s5
  have ea:SameX [l] H2 H5:=fun y u e G=>s5 _ _ (d9 y u e G)
  have dt:da≠l:=fun e=>by rw [e,s4 _ _ J] at a9;cases a9
  refine ⟨_,rfl,da,ra,_,_,rfl,SqL.of cr,SqL.of (O _ _ a4),?_⟩
  rw [gp bm Z]
  generalize fQ n hs ss (bA f.toNat n ch ss 0) i=pre at J cl
  refine pi (K:=K) (a:=da) (b:=ra) (xs:=(z.dealers n).map V.int) (zs:=bs.map V.ref) (fun k σ H6=>SameX [l] H5 H6∧∃ (v7 v8:Option V),σ=[some (.ref t),some (.ref a),some (.ref c),some (.ref sa),some (.ref l),some (.ref zd),some (.ref ra),v7,v8]∧H6 l=some (.lst ((pre++dw hs ((z.dealers n).take k) (rows.take k)).map V.int))∧k≤10) ?_ ?_ ?_ ?_
  ·refine ⟨fun y u e _=>e,_,_,rfl,?_,by decide⟩
   rw [List.take_zero,List.take_zero]
   show H5 l=some (.lst ((pre++[]).map V.int))
   rw [vT]
   exact O _ _ J
  ·rintro k σ H6 ⟨R,_⟩
   exact ⟨SqL.of (R _ _ cr fun h=>dt (u9.mp h)),SqL.of (R _ _ (O _ _ a4) fun h=>l1 _ a7 (u9.mp h))⟩
  ·rintro k x y σ H6 cx ex ey ⟨R,w7,w8,rfl,Y,en⟩ d4
   rw [u5] at ex
   cases hv:(z.dealers n)[k]? with
   | none=>rw [hv] at ex;cases ex
   | some h =>
   rw [hv] at ex
   cases ex
   obtain ⟨ba,rfl,co⟩:=cW ey
   obtain ⟨d7,ap,dp⟩:=(c4.same O).get co
   have eb:ba≠l:=l1 ba (cb ba (u4 co))
   have kl:k<(z.dealers n).length:=(u3.mp hv).1
   have s7:=aj d4 (.tup [.int h,.ref ba])
   have be:=s7 _ _ (R _ _ dp fun h=>eb (u9.mp h))
   have W:=s7 _ _ Y
   have a1:=s7 _ _ (R _ _ (O _ _ c7) fun h=>aq a6 hl (u9.mp h))
   have e0:=bz d7 (u4 ap)
   have pl:=kj (hs:=hs) (ds:=(z.dealers n).take k) (rows:=rows.take k) (f:=2) fun r hr=>bz r (List.mem_of_mem_take hr)
   rw [vj] at pl
   refine ⟨cx,_,rfl,SqT.of upd_same,rfl,_,_,rfl,_,_,rfl,rfl,?_⟩
   generalize upd H6 cx (.tup [.int h,.ref ba])=H7 at s7 be W a1
   have cs:SameX [l] H5 H7:=fun y u e G=>s7 _ _ (R y u e G)
   refine ⟨_,rfl,_,rfl,sa,_,rfl,.inl (SqL.of a1),rfl,gm _,_,rfl,?_⟩
   show if (inV (V.int h) (hs.map V.int))=true then _ else _
   rw [fM,oi hv ap]
   refine bB (fun c1=>?_) (fun c1=>?_)
   ·have b0:h∈hs:=of_decide_eq_true c1
    rw [if_pos b0]
    refine ⟨_,rfl,.inl ⟨rfl,_,SqL.of W⟩,_,rfl,l,ba,_,_,rfl,rfl,W,be,?_,?_⟩
    ·rw [lH,lH,u7]
     exact vG (show _≤5000 by omega) (by decide)
    ·refine ⟨fun y u e G=>?_,_,_,rfl,?_,by omega⟩
     ·rw [az fun e=>G (u9.mpr e)]
      exact cs y u e G
     ·rw [upd_same,← u6,wf]
   ·have b0:¬ h∈hs:=fun e=>c1 (decide_eq_true e)
    rw [if_neg b0,vT]
    exact ⟨cs,_,_,rfl,W,by omega⟩
  ·rintro σ H6 ⟨R,w7,w8,rfl,Y,_⟩
   rw [lH,lH,bl,rl,Nat.min_self,vi (va _),vi (by omega)] at Y
   have pl:=kj (hs:=hs) (ds:=z.dealers n) (rows:=rows) (f:=2) bz
   exact ⟨fun y u e G=>R y u (ea y u e G) G,_,_,_,_,rfl,Y,by rw [u7];omega,by omega⟩
 ·rintro σ I ⟨sx,v5,v6,v7,v8,rfl,J,cl,_⟩
  rw [lH,wl,d2,Nat.min_self] at J
  refine ⟨_,rfl,q l I (fun y u e=>sx _ _ (g2 _ _ e) fun h=>?_) hl J⟩
  exact aq e hl (u9.mp h)
end
section
variable {P:Program}{w:World}{K:PySem.W.Frag}{mg:Str→Option Value}{base:Heap}{C pa:Addr}
theorem yJ:ax ["table","steps","inputs","chance","some","letters","own","used"] ["table","steps","inputs","chance","some"] (ao pR):=⟨rfl,rfl,rfl,by decide +kernel,rfl,by decide +kernel,by decide +kernel⟩
theorem A7 {cS cI cC cH:Addr} (F:Src K mg "seen" "seen" pR ["table","steps","inputs","chance","some"]) (BC:Ok P w K mg base (CXE P w) 9 "run" ["table","steps","inputs","chance"] (pN C cS cI cC)) (xC:Ok P w K mg base (CXE P w) 2 "refuse_hands" ["table","some"] (dA C cH)) (xz:Ok P w K mg base CX0 2 "inputs_used" ["steps","inputs","some"] dY) (yK:Ok P w K mg base CX0 4 "chance_used" ["table","steps","chance","some"] (fZ C)):Ok P w K mg base (CXE P w) 10 "seen" ["table","steps","inputs","chance","some"] (oG C cS cI cC cH):=by
 refine F.okE yJ (fun vs H Q E h=>?_) (fun f ed A outer s H vs Q E hr h=>?_)
 ·obtain ⟨t,a,b,c,s,p,n,f,ws,ss,is,inp,ch,hs,rfl,_⟩:=h
  rfl
 obtain ⟨t,a,b,c,sa,p,n,f,ws,ss,is,inp,ch,hs,rfl,T1,hp,hn,np,hf,fn,ha,an,hb,bb,b1,ba,bx,af,cp,q1,q2,q3,q4,q5⟩:=h
 refine ⟨_,(ah (aB (i:=5) yJ.nd rfl (Or.inl rfl) (aO aZ (b9 BC hr rfl (aa (pv 0) (aa (pv 1) (aa (pv 2) (aa (pv 3) ac))))) ae (fun _ _=>rfl)))
  (ah (aW (b9 xC hr rfl (aa (pv 0) (aa (pv 4) ac))))
  (ah (PS.nox (aB (i:=6) yJ.nd rfl (Or.inl rfl) (ak xz hr rfl (aa (pv 1) (aa (pv 2) (aa (pv 4) ac))))))
  (ah (PS.nox (aB (i:=7) yJ.nd rfl (Or.inl rfl) (ak yK hr rfl (aa (pv 0) (aa (pv 1) (aa (pv 3) (aa (pv 4) ac)))))))
  (ad (PS.nox (ay (ci (aa (pv 6) (aa (pv 7) (aa (bw ["letter"] [("some",4)]  (bn (pv 5)) rfl (fun C s0 H0 ex=>by exact (ar (i:=0) (show List.Nodup [("letter":Str),"some"] by decide +kernel) rfl (Or.inl rfl))) (fun C s0 H0 ex=>by exact (l7 (aA (rj K) (aO (iX K) (pv 0) ae (fun _ _=>rfl)) (pv 1) rfl))) (fun C s0 H0 ex=>by exact (pv 0))) ac))))))))))),?_⟩
 have pp:=jc hp
 refine ⟨_,rfl,_,rfl,_,rfl,_,rfl,t,a,b,c,p,n,f,ws,ss,is,inp,ch,rfl,T1,hp,hn,np,hf,fn,ha,an,hb,bb,b1,ba,bx,fun hR hI hC d sh le oa d5 ag eb H1 s1 d7 dl d0 d4 n1 n2 n3 ea nd hd d6 c6 cs c5 ec d8=>?_,q2,q3,q4⟩
 have q1:=q1 hR hI hC
 have q5:=q5 hR hI hC
 refine ⟨d,_,_,.ref le,rfl,rfl,SqT.of hd,rfl,?_⟩
 refine ⟨_,rfl,_,rfl,t,sa,p,n,f,hs,rfl,T1.same s1,s1 _ _ af,fun hH H2 s2=>?_,fun hH H2 s2=>q5 hH H2 (s1.trans s2)⟩
 have q1:=q1 hH
 have W:=s1.trans s2
 have c4:∀ h∈hs,1≤h∧h≤n:=fun h hm=>by
  have:=(risGo_iff.mp hH).1 h hm
  omega
 have cu:=(dI (by omega)).mp hI
 refine ⟨_,rfl,_,rfl,_,rfl,a,b,sa,n,ws,ss,is,inp,hs,rfl,W _ _ ha,an.same W,W _ _ hb,bb.same W,(by have:=cu.len;omega),W _ _ af,cp,c4,fun bf H3 os s3 a7 O cr b0 ct ap=>?_⟩
 have g3:=W.trans s3
 have d9:=(rightsB_iff.mp hR).1
 refine ⟨_,rfl,_,rfl,_,rfl,_,rfl,t,a,c,sa,p,n,f,ws,ss,ch,hs,rfl,T1.same g3,by omega,by omega,g3 _ _ ha,an.same g3,by omega,g3 _ _ ba,g3 _ _ af,fun ua H4 U G a1=>?_⟩
 have g4:=g3.trans U
 have as:=(s2.trans (s3.trans U)) _ _ cs
 have Z:=c5.same (s2.trans (s3.trans U))
 refine ⟨_,rfl,_,rfl,_,rfl,le,rfl,⟨_,SqL.of as⟩,fun D R=>?_⟩
 have cx:(mJ p n f.toNat ss inp ch).2.length≤2400:=vG (ni (by omega) hn (va _)) (by omega)
 generalize (mJ p n f.toNat ss inp ch).2=lets at Z q1 cx
 have ll:ag.length=lets.length:=Paired.length Z
 refine bF (K:=K) (a:=le) (xs:=ag) (fun j ys H2=>Same H4 H2∧LetsAt H2 ys (dm hs (lets.take j))∧ys.length≤j∧j≤ag.length) ⟨am (Same.refl _) R,.nil,vk _,vk _⟩ ?_ ?_ ?_
 ·rintro j ys H5 _ ⟨q,_⟩
  exact SqL.of (q _ _ as)
 ·rintro j y ys H5 hy ⟨q,Y,yl,jl⟩ I
  obtain ⟨l,hl,ya,rfl,bm⟩:=cX (Z.same q) hy
  have bl:j<ag.length:=(u3.mp hy).1
  have et:dm hs (lets.take (j+1))=dm hs (lets.take j)++(if l.2.2.1∈hs then [l] else []):=by
   unfold dm
   rw [vn,hl,wG]
   congr 1
   show List.filter _ [l]=_
   rw [wV,List.filter_nil]
   simp
  refine ⟨⟨rfl,rfl⟩,?_⟩
  refine ⟨_,rfl,ya,_,_,.int l.2.2.1,rfl,rfl,SqT.of bm,rfl,_,rfl,sa,_,rfl,.inl (SqL.of (q _ _ (g4 _ _ af))),rfl,gm _,_,rfl,?_⟩
  show if (inV (V.int l.2.2.1) (hs.map V.int))=true then _ else _
  rw [fM,et]
  refine bB (fun c1=>?_) (fun c1=>?_)
  ·rw [if_pos (of_decide_eq_true c1)]
   refine ⟨_,rfl,I,?_,am q R,?_,by rw [u7];show _+1≤_;omega,bl⟩
   ·exact ww (show _≤2400 by omega) (by decide)
   ·refine LetsAt.upd I (Veil.Paired.append Y (.cons ⟨ya,rfl,bm⟩ .nil))
  ·rw [if_neg fun e=>c1 (decide_eq_true e),vT]
   exact ⟨I,q,Y,by omega,bl⟩
 ·rintro ys H5 ⟨q,Y,_,_⟩ I
  rw [ll,vi (va _)] at Y
  refine ⟨(by show 3≤sizeLine;decide),fun dd J=>?_⟩
  have s6:=aj J (.tup [.ref bf,.ref ua,.ref D])
  have a3:=q.trans s6
  have be:=U.trans a3
  have a2:∀ {y:Addr}{u:HO},H5 y=some u→dd≠y:=fun e z=>by rw [z,e] at J;cases J
  refine q1 dd bf ua D os ys _ (g4.trans a3) (g4.free (q.free J)) (W.free a7) (g3.free G) (g4.free R) (a2 ((U.trans q) _ _ O)) (a2 (q _ _ a1)) (a2 I) (fun e=>?_) (fun e=>?_) (fun e=>?_) (fun x hx=>⟨W.free (ct x hx),?_⟩) cr upd_same (be _ _ O) (ap.same be) (a3 _ _ a1) (s6 _ _ I) (Y.same s6)
  ·rw [← e,O] at G;cases G
  ·rw [← e,U _ _ O] at R;cases R
  ·rw [← e,a1] at R;cases R
  ·obtain ⟨k,hk⟩:=vU hx
   obtain ⟨_,_,z⟩:=ap.get hk
   refine ⟨fun e=>?_,fun e=>?_,fun e=>?_,fun e=>?_⟩
   ·rw [← e,(U.trans q) _ _ z] at J;cases J
   ·exact b0 (e▸hx)
   ·rw [← e,z] at G;cases G
   ·rw [← e,U _ _ z] at R;cases R
end
section
variable {P:Program}{w:World}{K:PySem.W.Frag}{mg:Str→Option Value}{base:Heap}{C pa:Addr}
theorem iP:ax ["table","steps","inputs"] ["table","steps","inputs"] (ao cw):=⟨rfl,rfl,rfl,by decide +kernel,rfl,by decide +kernel,by decide +kernel⟩
theorem mr {cS cI:Addr} (F:Src K mg "numbers_opened" "numbers_opened" cw ["table","steps","inputs"]) (B:Blt mg) (Bs:Ok P w K mg base CX0 6 "plain" ["table","steps","inputs"] (fun vs H Q _=>lK C cS cI vs H Q E0)):Ok P w K mg base CX0 7 "numbers_opened" ["table","steps","inputs"] (fY C):=by
 refine F.ok iP (fun vs H Q E h=>?_) (fun f bf A outer s H vs Q E hr h=>?_)
 ·obtain ⟨t,a,b,p,n,f,W,ss,is,inp,rfl,_⟩:=h
  rfl
 obtain ⟨t,a,b,p,n,f,W,ss,is,inp,rfl,T1,hp,hn,Z,J,hb,af,il,hR,hI,be,q⟩:=h
 refine ⟨_,(ad (ay (bw ["step","number"] []  (gI rfl B.zip (aa (pv 1) (aa (ak Bs hr rfl (aa (pv 0) (aa (pv 1) (aa (pv 2) ac)))) ac))) rfl (fun C s0 H0 ex=>by exact (eJ K 2 rfl (aE (ar (i:=0) (show List.Nodup [("step":Str),"number"] by decide +kernel) rfl (Or.inl rfl)) (aE (ar (i:=1) (show List.Nodup [("step":Str),"number"] by decide +kernel) rfl (Or.inl rfl)) bM)))) (fun C s0 H0 ex=>by exact (l7 (aA bQ (aO (iX K) (pv 0) ae (fun _ _=>rfl)) aU (aI _)))) (fun C s0 H0 ex=>by exact (pv 1))))),?_⟩
 have wl:W.length=ss.length:=Paired.length J
 refine ⟨_,rfl,_,rfl,_,rfl,_,rfl,t,a,b,p,n,f,W,ss,is,inp,rfl,T1,hp,hn,Z,J,hb,af,il,fun _ _ na H1 U a8 R=>?_,fun z=>absurd (z.symm.trans hR) (by decide),fun _ z=>absurd (z.symm.trans hI) (by decide)⟩
 generalize aD p ss inp=nums at R q
 refine ⟨a,na,_,_,rfl,SqL.of (U _ _ Z),SqL.of R,fun D hD=>?_⟩
 refine fP (K:=K) (a:=a) (b:=na) (xs:=W) (zs:=nums.map V.int) (fun i ys H2=>ys=(((ss.zip nums).take i).filterMap opnF).map V.int∧Same H1 H2) ⟨rfl,am (Same.refl _) hD⟩ ?_ ?_ ?_
 ·rintro i ys H2 ⟨_,I⟩
  exact ⟨SqL.of ((U.trans I) _ _ Z),SqL.of (I _ _ R)⟩
 ·rintro i x y ys H2 cc ex ey ⟨rfl,I⟩ G ap
  obtain ⟨zd,z,rfl,hz,Y⟩:=(J.same (U.trans I)).get ex
  obtain ⟨v,rfl,hv⟩:=br ey
  have bb:i<ss.length:=(u3.mp Y).1
  have O:=aj ap (.tup [.ref zd,.int v])
  have et:=tJ Y hv
  refine ⟨cc,_,rfl,SqT.of upd_same,rfl,_,_,rfl,_,_,rfl,rfl,⟨rfl,rfl⟩,?_⟩
  refine ⟨_,rfl,zd,_,_,.str z.word,rfl,rfl,SqT.of (O _ _ hz),z.at0,rfl,_,rfl,?_⟩
  refine bB (fun c=>?_) (fun c=>?_)
  ·obtain ⟨a1,rfl⟩:=(lj z).mp (V.str.inj (of_decide_eq_true c))
   refine ⟨_,rfl,O _ _ G,au ?_,?_,am (I.trans O) hD⟩
   ·rw [lH]
    refine vG (List.length_filterMap_le _ _) ?_
    rw [vj]
    omega
   ·rw [et,u6]
    rfl
  ·refine ⟨O _ _ G,?_,I.trans O⟩
   rw [et]
   cases z with
   | opn a1=>exact absurd (decide_eq_true rfl) c
   | _=>rw [vT]
 ·rintro ys H2 ⟨rfl,I⟩ G
  rw [vi (by rw [List.length_zip,lH,wl];exact va _)] at G
  exact q D H2 (U.trans I) (U.free hD) G
theorem A8:ax ["table","steps","inputs","others","some"] ["table","steps","inputs","others","some"] (ao lZ):=⟨rfl,rfl,rfl,by decide +kernel,rfl,by decide +kernel,by decide +kernel⟩
theorem tV (F:Src K mg "agree" "agree" lZ ["table","steps","inputs","others","some"]) (xz:Ok P w K mg base CX0 2 "inputs_used" ["steps","inputs","some"] dY) (xT:Ok P w K mg base CX0 7 "numbers_opened" ["table","steps","inputs"] (fY C)):Ok P w K mg base CX0 8 "agree" ["table","steps","inputs","others","some"] (lQ C):=by
 refine F.ok A8 (fun vs H Q E h=>?_) (fun f b3 A outer s H vs Q E hr h=>?_)
 ·obtain ⟨t,a,b,o,s,p,n,f,R,ss,is,js,inp,oth,hs,rfl,_⟩:=h
  rfl
 obtain ⟨t,a,b,o,s,p,n,f,R,ss,is,js,inp,oth,hs,rfl,T1,hp,hn,U,J,hb,W,il,ho,af,jl,hR,hI,hJ,Y,Z,a1,ag,q⟩:=h
 have io:=(dI hn.1).mp hI
 have jo:=(dI hn.1).mp hJ
 have b4:=io.len
 have b2:=jo.len
 have ab:∀ h∈hs,1≤h∧h≤n:=fun h hm=>by
  have:=(risGo_iff.mp a1).1 h hm
  omega
 refine ⟨_,(ah (bg (aA (tL (hr.units)) (ak xz hr rfl (aa (pv 1) (aa (pv 2) (aa (pv 4) ac)))) (ak xz hr rfl (aa (pv 1) (aa (pv 3) (aa (pv 4) ac)))) (aI _))
   (ad (ay gS))
   aJ)
  (ad (ay (gi (op_eqL (hr.units)) (ak xT hr rfl (aa (pv 0) (aa (pv 1) (aa (pv 2) ac)))) (ak xT hr rfl (aa (pv 0) (aa (pv 1) (aa (pv 3) ac)))) (aI _))))),?_⟩
 refine ⟨_,rfl,_,rfl,_,rfl,a,b,s,n,R,ss,is,inp,hs,rfl,U,J,hb,W,by omega,Z,ag,ab,fun d1 H1 b5 O _ a9 _ _ _ ai=>?_⟩
 refine ⟨_,rfl,_,rfl,_,rfl,a,o,s,n,R,ss,js,oth,hs,rfl,O _ _ U,J.same O,O _ _ ho,af.same O,by omega,O _ _ Z,ag,ab,fun d2 H2 ca s2 _ a3 _ _ _ al=>?_⟩
 refine ⟨_,_,decide (jY ss inp hs=jY ss oth hs),.lst (s2 _ _ a9) (ai.same s2).rep,.lst a3 al.rep,ins_ok _,ins_ok _,?_,_,rfl,?_⟩
 ·rw [decide_eq_true_iff]
  exact datIns_inj.symm
 have G:=O.trans s2
 refine bB (fun c=>?_) (fun c=>?_)
 ·have e:cT p ss inp oth hs=false:=by
   unfold cT
   rw [show decide (jY ss inp hs=jY ss oth hs)=false by simpa using c]
   rfl
  rw [e] at q
  exact q _ G
 have e:cT p ss inp oth hs=decide (opnV ss (aD p ss inp)=opnV ss (aD p ss oth)):=by
  unfold cT
  rw [show decide (jY ss inp hs=jY ss oth hs)=true by simpa using c]
  rfl
 rw [e] at q
 refine ⟨_,rfl,_,rfl,_,rfl,t,a,b,p,n,f,R,ss,is,inp,rfl,T1.same G,hp,hn,G _ _ U,J.same G,G _ _ hb,W.same G,il,hR,hI,Y,fun r1 H3 s3 _ bb=>?_⟩
 have I:=G.trans s3
 refine ⟨_,rfl,_,rfl,_,rfl,t,a,o,p,n,f,R,ss,js,oth,rfl,T1.same I,hp,hn,I _ _ U,J.same I,I _ _ ho,af.same I,jl,hR,hJ,Y,fun r2 H4 s4 _ a2=>?_⟩
 exact ⟨r1,r2,_,_,rfl,rfl,SqL.of (s4 _ _ bb),SqL.of a2,q _ (I.trans s4)⟩
theorem sZ:ax ["table","cover","row","difference"] ["table","cover","row","difference"] (ao jz):=⟨rfl,rfl,rfl,by decide +kernel,rfl,by decide +kernel,by decide +kernel⟩
theorem tN (F:Src K mg "veiled" "veiled" jz ["table","cover","row","difference"]) (B:Blt mg) (T:Tab K C):Ok P w K mg base CX0 1 "veiled" ["table","cover","row","difference"] (lG C):=by
 refine F.ok sZ (fun vs H Q E h=>?_) (fun f a5 A outer s H vs Q E hr h=>?_)
 ·obtain ⟨t,co,ro,p,n,f,d,cover,G,rfl,_⟩:=h
  rfl
 obtain ⟨t,co,ro,p,n,f,d,cover,G,rfl,T1,hp,ai,W,an,a4,q⟩:=h
 obtain ⟨dx,ht⟩:=id T1
 refine ⟨_,(ad (ay (bw ["number","part"] [("table",0),("difference",3)]  (gI rfl B.zip (aa (pv 2) (aa (df e9 (pv 1) (dQ ae) fD) ac))) rfl (fun C s0 H0 ex=>by exact (eJ K 2 rfl (aE (ar (i:=0) (show List.Nodup [("number":Str),"part","table","difference"] by decide +kernel) rfl (Or.inl rfl)) (aE (ar (i:=1) (show List.Nodup [("number":Str),"part","table","difference"] by decide +kernel) rfl (Or.inl rfl)) bM)))) (fun C s0 H0 ex=>by exact bc) (fun C s0 H0 ex=>by exact (av bh (av bi (pv 0) (av bY (pv 1) (pv 3))) (dv K (pv 2) rfl)))))),?_⟩
 have e1:kL (cover.map V.int) (some 1) none=(cover.drop 1).map V.int:=by rw [show (1:Int)=((1:Nat):Int) from rfl,jE,List.map_drop]
 refine ⟨_,rfl,_,rfl,_,rfl,co,_,rfl,SqL.of ai,fun l hl=>?_⟩
 have O:=aj hl (.lst (kL (cover.map V.int) (some 1) none))
 have U:(upd H l (.lst (kL (cover.map V.int) (some 1) none))) l=some (.lst ((cover.drop 1).map V.int)):=upd_same.trans (congrArg (fun z=>some (HO.lst z)) e1)
 refine ⟨ro,l,_,_,rfl,SqL.of (O _ _ W),SqL.of U,fun D R=>?_⟩
 have R:(upd H l (.lst (kL (cover.map V.int) (some 1) none))) D=none:=R
 have qH:Same H (upd H l (.lst (kL (cover.map V.int) (some 1) none))):=O
 refine fP (K:=K) (a:=ro) (b:=l) (xs:=G.map V.int) (zs:=(cover.drop 1).map V.int) (fun i ys H2=>ys=((cU p cover G d).take i).map V.int∧Same (upd H l (.lst (kL (cover.map V.int) (some 1) none))) H2) ⟨rfl,am (Same.refl _) R⟩ ?_ ?_ ?_
 ·rintro i ys H2 ⟨_,I⟩
  exact ⟨SqL.of ((O.trans I) _ _ W),SqL.of (I _ _ U)⟩
 ·rintro i x y ys H2 cc ex ey ⟨rfl,I⟩ J al
  obtain ⟨v,rfl,hv⟩:=br ex
  obtain ⟨u,rfl,Y⟩:=br ey
  have ub:=an u (List.mem_of_mem_drop (u4 Y))
  have il:i<G.length:=(u3.mp hv).1
  have Z:=aj al (.tup [.int v,.int u])
  refine ⟨cc,_,rfl,SqT.of upd_same,rfl,_,_,rfl,_,_,rfl,rfl,⟨rfl,rfl⟩,?_⟩
  refine ⟨_,rfl,_,rfl,_,rfl,_,_,rfl,rfl,.inl ⟨by omega,by omega⟩,_,_,rfl,rfl,_,rfl,t,C,dx,_,_,rfl,(O.trans (I.trans Z)) _ _ ht,T.cl,T.nP,i7 _ _ _,_,_,rfl,rfl,by omega,Z _ _ J,au (by rw [lH,vj];omega),?_,am (I.trans Z) R⟩
  rw [show (cU p cover G d).take (i+1)=(cU p cover G d).take i++[(v+u*d)%p] by unfold cU;rw [vn,wm,hv,Y];rfl,u6]
  rfl
 ·rintro ys H2 ⟨rfl,I⟩ J
  rw [vi (by unfold cU;rw [vY,lH,lH];exact va _)] at J
  exact q D H2 (O.trans I) (O.free R) J
end
section
variable {P:Program}{w:World}{K:PySem.W.Frag}{mg:Str→Option Value}{base:Heap}{C CC pa:Addr}
theorem xb:ax ["cover","some","rows","here","there","table","hands","found","hand","row","before","after"] ["cover","some","rows","here","there"] (ao cy):=⟨rfl,rfl,rfl,by decide +kernel,rfl,by decide +kernel,by decide +kernel⟩
theorem tT (F:Src K mg "exchanged_rows" "exchanged_rows" cy ["cover","some","rows","here","there"]) (B:Blt mg) (TC:sr K CC) (xg:MOk P w K mg base CX0 1 CC "coming_step" ["self"] (e6 C CC)) (xr:MOk P w K mg base CX0 3 CC "numbers_to_deal" ["self"] (mY C CC)) (xp:Ok P w K mg base CX0 2 "dealers" ["table","step"] (dk C)) (A9:Ok P w K mg base CX0 1 "veiled" ["table","cover","row","difference"] (lG C)):Ok P w K mg base CX0 4 "exchanged_rows" ["cover","some","rows","here","there"] (lP C CC):=by
 refine F.ok xb (fun vs H Q E h=>?_) (fun f f7 A outer s H vs Q E hr h=>?_)
 ·obtain ⟨co,so,ra,c1,c2,p,n,f,ss,inp,oth,ag,as,Z,z,cover,hs,rs,t,a,b,wa,sh,le,ws,is,bl,rfl,_⟩:=h
  rfl
 obtain ⟨co,so,ra,c1,c2,p,n,f,ss,inp,oth,ag,as,Z,z,cover,hs,rs,t,a,b,wa,sh,le,ws,is,bl,rfl,R1,R2,PA,PB,S1,S2,hz,er,dy,e5,c6,db,bz,f3,fb,q⟩:=h
 have pp:=jc PA.hp
 have hn:=PA.hn
 have fl:=PA.len
 have rl:rs.length=Z.length:=Paired.length bz
 have f1:=cQ (p:=p) (n:=n) (by omega) ss inp ag z
 have f5:=cQ (p:=p) (n:=n) (by omega) ss oth as z
 have dl:=ce (n:=n) (by omega) (by omega) z
 obtain ⟨dx,cp⟩:=R1.obj
 obtain ⟨t2,a2,b2,fa,d7,e8,ez,ew,d3,c7⟩:=id R2
 obtain ⟨ff,eo⟩:=c7.obj
 refine aw (aB (i:=5) xb.nd rfl (Or.inl rfl) (aH (pv 3) rfl)) fun u hu=>?_
 refine ⟨_,rfl,c1,CC,dx,_,_,rfl,cp,TC.cl,TC.nT,rY _ _ _ _ _ _,hu _ _ ?_⟩
 refine aw (aB (i:=6) xb.nd rfl (Or.inl rfl) (ak xp hr rfl (aa (pv 5) (aa (dn xg hr (pv 3)) ac)))) fun u hu=>?_
 refine ⟨_,rfl,_,rfl,c1,dx,_,rfl,cp,gZ _ _ _ _ _ _ (by decide +kernel) (by decide +kernel) (by decide +kernel) (by decide +kernel) (by decide +kernel) (by decide +kernel),c1,p,n,f,ss,inp,ag,z,rfl,⟨t,a,b,wa,sh,le,ws,is,bl,R1⟩,by omega,hz,fun d H1 s1 hd=>?_⟩
 refine ⟨t,d,p,n,f,z,rfl,R1.tab.same s1,by omega,hd,fun ha H2 s2 _ da=>hu _ _ ?_⟩
 have di:=s1.trans s2
 refine aw (aB (i:=7) xb.nd rfl (Or.inl rfl) (bd ac)) fun u hu=>?_
 refine ⟨(by show 0≤sizeLine;decide),fun l hl=>hu _ _ ?_⟩
 have s3:=aj hl (.lst [])
 have a1:(upd H2 l (.lst [])) l=some (.lst []):=upd_same
 generalize upd H2 l (.lst [])=H3 at s3 a1
 have cf:=di.trans s3
 refine aw (bX PassesOwn.never rfl (pi_zip4 rfl B.zip (aa (pv 6) (aa (pv 2) (aa (dn xr hr (pv 3)) (aa (dn xr hr (pv 4)) ac))))) (gh rfl (aE (ar (i:=8) xb.nd rfl (Or.inl rfl)) (aE (ar (i:=9) xb.nd rfl (Or.inl rfl)) (aE (ar (i:=10) xb.nd rfl (Or.inl rfl)) (aE (ar (i:=11) xb.nd rfl (Or.inl rfl)) bM)))))
   (ad (aW (dX vm vA vB bq (pv 7) (aa (mn (aA gk (pv 8) (pv 1) rfl) (pv 9) (ak A9 hr rfl (aa (pv 5) (aa (pv 0) (aa (pv 9) (aa (av bD (pv 11) (pv 10)) ac)))))) ac))))) fun u hu=>?_
 refine ⟨_,rfl,_,rfl,_,rfl,c1,dx,_,rfl,cf _ _ cp,gZ _ _ _ _ _ _ (by decide +kernel) (by decide +kernel) (by decide +kernel) (by decide +kernel) (by decide +kernel) (by decide +kernel),c1,p,n,f,ss,inp,ag,z,rfl,⟨t,a,b,wa,sh,le,ws,is,bl,R1.same cf⟩,PA,S1,hz,fun n1 H4 s4 bb ej=>?_⟩
 have cr:=cf.trans s4
 refine ⟨_,rfl,c2,ff,_,rfl,cr _ _ eo,gZ _ _ _ _ _ _ (by decide +kernel) (by decide +kernel) (by decide +kernel) (by decide +kernel) (by decide +kernel) (by decide +kernel),c2,p,n,f,ss,oth,as,z,rfl,⟨t2,a2,b2,fa,d7,e8,ez,ew,d3,c7.same cr⟩,PB,S2,by rw [er];exact hz,fun n2 H5 s5 b4 c4=>?_⟩
 have O:=cr.trans s5
 have dd:=s4.trans s5
 generalize f2:bo p n ss inp ag z=nu1 at *
 generalize f6:bo p n ss oth as z=nu2 at *
 generalize f4:z.dealers n=hands at *
 have be:=(s3.trans dd) _ _ da
 have ba:=O _ _ db
 have cb:=s5 _ _ ej
 have em:=dd _ _ a1
 have I:H l=none:=di.free hl
 have ef:l≠ha:=fun e=>by rw [e,da] at hl;cases hl
 have eh:l≠ra:=fun e=>by rw [e,db] at I;cases I
 have et:l≠n1:=fun e=>by rw [← e,a1] at bb;cases bb
 have ek:l≠n2:=fun e=>by rw [← e,s4 _ _ a1] at b4;cases b4
 refine ⟨ha,ra,n1,n2,_,_,_,_,rfl,SqL.of be,SqL.of ba,SqL.of cb,SqL.of c4,?_⟩
 refine for_zn (K:=K) (ss:=[(false,ha),(false,ra),(false,n1),(false,n2)]) (xss:=[hands.map V.int,rs.map V.ref,nu1.map V.int,nu2.map V.int]) (n:=hands.length) (fun k σ H'=>SameX [l] H5 H'∧k≤hands.length∧∃ (ds:List Addr) (v8 v9 b0 bx:Option V),σ=[some (.ref co),some (.ref so),some (.ref ra),some (.ref c1),some (.ref c2),some (.ref t),some (.ref ha),some (.ref l),v8,v9,b0,bx]∧H' l=some (.lst (ds.map V.ref))∧l∉ds∧InsAt H' ds ((bj p cover hs hands Z nu1 nu2).take k)∧∀ x∈ds,H x=none∨x∈rs) (by simp) (fun xs hx=>?_) ⟨fun _ _ e _=>e,vk _,[],_,_,_,_,rfl,em,(fun h=>nomatch h),.nil,fun x h=>nomatch h⟩ ?_ ?_ ?_
 ·simp only [u8,ve,or_false] at hx
  rcases hx with rfl | rfl | rfl | rfl<;>rw [lH]<;>omega
 ·rintro k σ H' ⟨sx,_⟩
  exact .cons (SqL.of (sx _ _ be (by simp [ef.symm]))) (.cons (SqL.of (sx _ _ ba (by simp [eh.symm]))) (.cons (SqL.of (sx _ _ cb (by simp [et.symm]))) (.cons (SqL.of (sx _ _ c4 (by simp [ek.symm]))) .nil)))
 ·rintro k zs σ H' cc e7 ⟨sx,hk,ds,v8,v9,b0,bx,rfl,ck,nl,J,a3⟩ ey
  cases e7 with
  | cons e1 r =>
  cases r with
  | cons e2 r =>
  cases r with
  | cons e3 r =>
  cases r with
  | cons e4 r =>
  cases r
  obtain ⟨h,rfl,hh⟩:=br e1
  obtain ⟨rk,rfl,b3⟩:=cW e2
  obtain ⟨Y,rfl,ei⟩:=br e3
  obtain ⟨W,rfl,eg⟩:=br e4
  have kl:k<hands.length:=(u3.mp hh).1
  obtain ⟨U,a9,c5⟩:=(bz.same O).get b3
  have a4:l≠rk:=fun e=>by rw [e] at I;obtain ⟨_,_,z⟩:=bz.get b3;rw [z] at I;cases I
  have ex:=pk (p:=p) (cover:=cover) (hs:=hs) hh a9 ei eg
  have s6:=aj ey (.tup [.int h,.ref rk,.int Y,.int W])
  refine ⟨cc,_,rfl,SqT.of upd_same,rfl,_,_,rfl,_,_,rfl,_,_,rfl,_,_,rfl,rfl,?_⟩
  have G:∀ {x u},H5 x=some u→x≠l→(upd H' cc (.tup [.int h,.ref rk,.int Y,.int W])) x=some u:=fun e ai=>s6 _ _ (sx _ _ e (by simp [ai]))
  have R:=s6 _ _ ck
  have an:=J.same s6
  have c3:∀ x,(upd H' cc (.tup [.int h,.ref rk,.int Y,.int W])) x=none→H x=none:=fun x e=>by
   refine O.free (lB sx (s6.free e) fun m=>?_)
   rw [u9.mp m,R] at e;cases e
  have b5:SameX [l] H5 (upd H' cc (.tup [.int h,.ref rk,.int Y,.int W])):=fun x u e ai=>s6 _ _ (sx x u e ai)
  generalize upd H' cc (.tup [.int h,.ref rk,.int Y,.int W])=H6 at s6 G R an c3 b5
  have ev:so≠l:=fun e=>by rw [← e,c6] at I;cases I
  have en:co≠l:=fun e=>by rw [← e,dy] at I;cases I
  have f0:ds.length=k:=by rw [Paired.length J,vj,bu];omega
  refine ⟨_,rfl,.inl ⟨rfl,_,SqL.of R⟩,_,rfl,_,rfl,so,_,rfl,.inl (SqL.of (G (O _ _ c6) ev)),rfl,gm hs,_,rfl,?_⟩
  show if (inV (V.int h) (hs.map V.int))=true then _ else _
  rw [fM]
  refine bB (fun c=>?_) (fun c=>?_)
  ·have c':=of_decide_eq_true c
   refine ⟨_,rfl,l,_,_,rfl,rfl,R,au (by rw [lH];omega),?_⟩
   refine ⟨sx_upd b5 (u9.mpr rfl),kl,ds++[rk],_,_,_,_,rfl,by rw [upd_same,u6];rfl,?_,?_,?_⟩
   ·intro m
    rcases vr.mp m with m | m
    ·exact nl m
    ·exact a4 (u9.mp m)
   ·rw [ex,show fO p cover hs h U Y W=U from if_pos c']
    refine InsAt.off (InsAt.snoc an (G c5 a4.symm)) fun m=>?_
    rcases vr.mp m with m | m
    ·exact nl m
    ·exact a4 (u9.mp m)
   ·intro x hx
    rcases vr.mp hx with m | m
    ·exact a3 x m
    ·exact .inr (u9.mp m▸u4 b3)
  ·have c':¬ h∈hs:=fun m=>c (decide_eq_true m)
   have tl:t≠l:=fun e=>by obtain ⟨dt,z⟩:=R1.tab;rw [← e,z] at I;cases I
   obtain ⟨dt,el⟩:=R1.tab
   refine ⟨_,rfl,_,rfl,_,rfl,_,rfl,_,rfl,_,_,rfl,rfl,t,co,rk,p,n,f,W - Y,cover,U,rfl,⟨dt,G (O _ _ el) tl⟩,by omega,G (O _ _ dy) en,G c5 a4.symm,e5,fb U (u4 a9),fun r H7 s7 b1 e0=>?_⟩
   have dp:r≠l:=fun e=>by rw [e,R] at b1;cases b1
   refine ⟨l,_,_,rfl,rfl,s7 _ _ R,au (by rw [lH];omega),?_⟩
   refine ⟨sx_upd (fun x u e ai=>s7 _ _ (b5 x u e ai)) (u9.mpr rfl),kl,ds++[r],_,_,_,_,rfl,by rw [upd_same,u6];rfl,?_,?_,?_⟩
   ·intro m
    rcases vr.mp m with m | m
    ·exact nl m
    ·exact dp (u9.mp m).symm
   ·rw [ex,show fO p cover hs h U Y W=cU p cover U (W - Y) from if_neg c']
    refine InsAt.off (InsAt.snoc (an.same s7) e0) fun m=>?_
    rcases vr.mp m with m | m
    ·exact nl m
    ·exact dp (u9.mp m).symm
   ·intro x hx
    rcases vr.mp hx with m | m
    ·exact a3 x m
    ·exact .inl (u9.mp m▸c3 r b1)
 ·rintro σ H' ⟨sx,_,ds,v8,v9,b0,bx,rfl,ck,nl,J,a3⟩
  refine hu _ _ ?_
  refine ⟨_,(ad (ay (pv 7))),?_⟩
  rw [vi (by rw [bu];exact va _)] at J
  exact ⟨_,rfl,q l ds H' (fun x u e=>sx _ _ (O _ _ e) fun m=>by rw [u9.mp m,I] at e;cases e) I ck nl J a3⟩
end
section
variable {P:Program}{w:World}{K:PySem.W.Frag}{mg:Str→Option Value}{base:Heap}{C CC pa:Addr}
theorem xc:ax ["table","steps","inputs","others","chance","some","cover","here","there","found","rows","changed","row"] ["table","steps","inputs","others","chance","some"] (ao fu):=⟨rfl,rfl,rfl,by decide +kernel,rfl,by decide +kernel,by decide +kernel⟩
theorem BD {cS cI cC cH cN:Addr}{bmN:List Value} (F:Src K mg "exchanged" "exchanged" fu ["table","steps","inputs","others","chance","some"]) (B:Blt mg) (TC:sr K CC) (xY:Exc K mg "NoVeil" cN bmN) (xR:Ok P w K mg base (CXE P w) 8 "refuse_run" ["table","steps","inputs","chance"] (eZ C cS cI cC)) (xi:Ok P w K mg base (CXE P w) 4 "refuse_inputs" ["table","steps","inputs"] (cn C cI)) (Bt:Ok P w K mg base (CXE P w) 3 "veil" ["table","some"] (oF C cH cN)) (Bu:Ok P w K mg base CX0 8 "agree" ["table","steps","inputs","others","some"] (lQ C)) (yo:MkOk P w K mg base CX0 5 "Course" CC ["self","table","steps","inputs"] (jM C CC)) (xj:Ok P w K mg base CX0 3 "chance_by_step" ["table","steps","chance"] (cq C)) (yk:Ok P w K mg base CX0 4 "exchanged_rows" ["cover","some","rows","here","there"] (lP C CC)) (yI:MOk P w K mg base CX0 4 CC "go_on" ["self","chance_rows"] (spGo C CC)):Ok P w K mg base (CXE P w) 9 "exchanged" ["table","steps","inputs","others","chance","some"] (spExP C cS cI cC cH cN):=by
 refine F.okE xc (fun vs H Q E h=>?_) (fun f sb A outer s H vs Q E hr h=>?_)
 ·obtain ⟨t,a,b,o,c,s,p,n,f,ws,ss,is,js,inp,oth,ch,hs,rfl,_⟩:=h
  rfl
 obtain ⟨t,a,b,o,c,so,p,n,f,ws,ss,is,js,inp,oth,ch,hs,rfl,T1,hp,hn,np,hf,fn,ha,cu,hb,ev,fw,ho,ep,ft,j1,mc,fx,o2,q0,qS,qI,qC,qJ,qH,qN,qA⟩:=h
 have pp:=jc hp
 have cx:0≤n∧n≤10:=by omega
 have f7:0≤f∧f≤2:=by omega
 have q5:0<p:=by omega
 refine aw (aW (b9 xR hr rfl (aa (pv 0) (aa (pv 1) (aa (pv 2) (aa (pv 4) ac)))))) fun u hu=>?_
 refine ⟨_,rfl,_,rfl,_,rfl,_,rfl,t,a,b,c,p,n,f,ws,ss,is,inp,ch,rfl,T1,cx,f7,ha,cu,hb,ev,fw,j1,mc,fun hR hI hC H1 s1=>hu _ _ ?_,qS,qI,qC⟩
 have q0:=q0 hR hI hC
 have qJ:=qJ hR hI hC
 have qH:=qH hR hI hC
 have qN:=qN hR hI hC
 have qA:=qA hR hI hC
 obtain ⟨k3,kd⟩:=rightsB_iff.mp hR
 refine aw (aW (b9 xi hr rfl (aa (pv 0) (aa (pv 1) (aa (pv 3) ac))))) fun u hu=>?_
 refine ⟨_,rfl,_,rfl,_,rfl,t,a,o,p,n,f,ws,ss,js,oth,rfl,T1.same s1,s1 _ _ ha,cu.same s1,s1 _ _ ho,ep.same s1,ft,fun hJ H2 s2=>hu _ _ ?_,fun hJ H2 s2=>qJ hJ H2 (s1.trans s2)⟩
 have q0:=q0 hJ
 have qH:=qH hJ
 have qN:=qN hJ
 have qA:=qA hJ
 have dp:=s1.trans s2
 refine aw (aB (i:=6) xc.nd rfl (Or.inl rfl) (b9 Bt hr rfl (aa (pv 0) (aa (pv 5) ac)))) fun u hu=>?_
 refine ⟨_,rfl,_,rfl,t,so,p,n,f,hs,rfl,T1.same dp,hp,⟨cx.1,np⟩,f7,dp _ _ fx,fun ga jo co H3 s3 ru ls=>hu _ _ ?_,fun z H3 s3=>qH z H3 (dp.trans s3),fun z z2 H3 s3=>qN z z2 H3 (dp.trans s3)⟩
 have q0:=q0 ga jo
 have qA:=qA ga jo
 have a7:=dp.trans s3
 have p5:=(dI (by omega)).mp hI
 have pm:=(dI (by omega)).mp hJ
 have PA:Par p n f ss inp:=⟨hp,hn,np,hf,fn,k3,kd,p5⟩
 have PB:Par p n f ss oth:=⟨hp,hn,np,hf,fn,k3,kd,pm⟩
 refine aw (bg (gH (gG (ak Bu hr rfl (aa (pv 0) (aa (pv 1) (aa (pv 2) (aa (pv 3) (aa (pv 5) ac)))))) (fun _=>rfl)))
   (ad (gA xY rfl aU))
   aJ) fun u hu=>?_
 refine ⟨_,rfl,_,rfl,_,rfl,_,rfl,_,rfl,t,a,b,o,so,p,n,f,ws,ss,is,js,inp,oth,hs,rfl,T1.same a7,⟨q5,pp.2⟩,cx,a7 _ _ ha,cu.same a7,a7 _ _ hb,ev.same a7,fw,a7 _ _ ho,ep.same a7,ft,hR,hI,hJ,by omega,a7 _ _ fx,ga,o2,fun H4 s4=>⟨_,rfl,?_⟩⟩
 have a1:=a7.trans s4
 refine bB (fun z=>?_) (fun z=>hu _ _ ?_)
 ·exact ⟨by decide,qA (by simpa using z) H4 a1⟩
 have q:=q0 (by simpa using z)
 have kt:∀ v∈bv p f.toNat hs,0≤v∧v<p:=veil_b (by omega)
 generalize nf:bv p f.toNat hs=cover at ls kt
 have fe:=s4 _ _ ls
 refine aw (aB (i:=7) xc.nd rfl (Or.inl rfl) (jA yo hr rfl (aa (pv 0) (aa (pv 1) (aa (pv 2) ac))))) fun u hu=>?_
 refine ⟨_,rfl,_,rfl,_,rfl,fun x dx hx ol sc=>?_⟩
 have sM:Same H4 (upd (upd H4 dx (.own x)) x (.ins CC dx [])):=fun y u e=>by
  rw [az (aq e hx),az (aq e ol)]
  exact e
 have cf:(upd (upd H4 dx (.own x)) x (.ins CC dx [])) x=some (.ins CC dx []):=upd_same
 have ag:∀ y,(upd (upd H4 dx (.own x)) x (.ins CC dx [])) y=none→H4 y=none:=fun y e=>sM.free e
 generalize upd (upd H4 dx (.own x)) x (.ins CC dx [])=HM at sM cf ag
 refine ⟨x,dx,t,a,b,p,n,f,rfl,cf,(T1.same a1).same sM,hp,⟨cx.1,hn.2⟩,np,fun H5 a5 O J f0 l3 ms nl l5 f9 ge c1 a8 bb q9=>⟨rfl,hu _ _ ?_⟩⟩
 have d0:Same H4 H5:=fun y u e=>f0 y u (sM _ _ e) (aq e hx)
 have lp:=a1.trans d0
 have r7:=ag _ l3
 have n0:=ag _ ms
 have nx:=ag _ nl
 clear f0 sM cf ag
 refine aw (aB (i:=8) xc.nd rfl (Or.inl rfl) (jA yo hr rfl (aa (pv 0) (aa (pv 1) (aa (pv 3) ac))))) fun u hu=>?_
 refine ⟨_,rfl,_,rfl,_,rfl,fun y dy hy pw r0=>?_⟩
 have sM:Same H5 (upd (upd H5 dy (.own y)) y (.ins CC dy [])):=fun z u e=>by
  rw [az (aq e hy),az (aq e pw)]
  exact e
 have cf:(upd (upd H5 dy (.own y)) y (.ins CC dy [])) y=some (.ins CC dy []):=upd_same
 have ag:∀ z,(upd (upd H5 dy (.own y)) y (.ins CC dy [])) z=none→H5 z=none:=fun z e=>sM.free e
 generalize upd (upd H5 dy (.own y)) y (.ins CC dy [])=HN at sM cf ag
 refine ⟨y,dy,t,a,o,p,n,f,rfl,cf,(T1.same lp).same sM,hp,⟨cx.1,hn.2⟩,np,fun H6 ap I G en ht ii hv l2 gv go fm ei eb pb=>⟨rfl,hu _ _ ?_⟩⟩
 have c0:Same H5 H6:=fun z u e=>en z u (sM _ _ e) (aq e hy)
 have j5:=lp.trans c0
 have ld:=ag _ ht
 have c5:=ag _ ii
 have db:=ag _ hv
 clear en sM cf ag
 refine aw (aB (i:=9) xc.nd rfl (Or.inl rfl) (bd ac)) fun u hu=>?_
 refine ⟨(by show 0≤sizeLine;decide),fun l hl=>hu _ _ ?_⟩
 have a4:=aj hl (.lst [])
 have fo:(upd H6 l (.lst [])) l=some (.lst []):=upd_same
 generalize upd H6 l (.lst [])=H7 at a4 fo
 have d3:=j5.trans a4
 have ca:=c0.trans a4
 have oc:=d0.trans ca
 refine aw (PS.nox (bX PassesOwn.never rfl (bn (ak xj hr rfl (aa (pv 0) (aa (pv 1) (aa (pv 4) ac))))) (ar (i:=10) xc.nd rfl (Or.inl rfl))
   (ah (aB (i:=11) xc.nd rfl (Or.inl rfl) (ak yk hr rfl (aa (pv 6) (aa (pv 5) (aa (pv 10) (aa (pv 7) (aa (pv 8) ac)))))))
  (ah (aW (fG yI hr (pv 7) (aa (pv 10) ac)))
  (ah (aW (fG yI hr (pv 8) (aa (pv 11) ac)))
  (ad (bX PassesOwn.never rfl (bn (pv 11)) (ar (i:=12) xc.nd rfl (Or.inl rfl))
   (ad (aW (dX vm PySem.F.slot_list_extend PySem.F.type_list_extend iA (pv 9) (aa (pv 12) ac))))))))))) fun u hu=>?_
 refine ⟨_,rfl,_,rfl,_,rfl,t,a,c,p,n,f,ws,ss,ch,rfl,T1.same d3,cx,f7,d3 _ _ ha,cu.same d3,by omega,d3 _ _ j1,fun d as H8 s8 po hd k5=>?_⟩
 have an:=d3.trans s8
 have kv:=oc.trans s8
 have kp:as.length=ss.length:=by rw [Paired.length k5,dJ]
 have ka:H8 O=some (.lst []):=(ca.trans s8) _ _ a8
 have kl:H8 J=some (.lst []):=(ca.trans s8) _ _ bb
 have la:H8 I=some (.lst []):=(a4.trans s8) _ _ ei
 have j3:H8 G=some (.lst []):=(a4.trans s8) _ _ eb
 have li:H8 l=some (.lst []):=s8 _ _ fo
 have h5:∀ z∈[O,J,I,G,l],∃ xs,H8 z=some (.lst xs):=fun z hz=>by
  simp only [u8,ve,or_false] at hz
  rcases hz with r | r | r | r | r<;>rw [r]
  ·exact ⟨_,ka⟩
  ·exact ⟨_,kl⟩
  ·exact ⟨_,la⟩
  ·exact ⟨_,j3⟩
  ·exact ⟨_,li⟩
 have R:∀ {z u},H4 z=some u→z∉[O,J,I,G,l]:=fun {z u} e hz=>by
  have n1:z≠O:=aq e n0
  have n2:z≠J:=aq e nx
  have n3:z≠I:=aq (d0 _ _ e) c5
  have n4:z≠G:=aq (d0 _ _ e) db
  have n5:z≠l:=aq ((d0.trans c0) _ _ e) hl
  simp only [u8,ve,or_false] at hz
  rcases hz with r | r | r | r | r
  ·exact n1 r
  ·exact n2 r
  ·exact n3 r
  ·exact n4 r
  ·exact n5 r
 have c2:∀ {z},H7 z=none→z∉[O,J,I,G,l]:=fun {z} e hz=>by
  simp only [u8,ve,or_false] at hz
  rcases hz with r | r | r | r | r<;>rw [r] at e
  ·rw [ca _ _ a8] at e;cases e
  ·rw [ca _ _ bb] at e;cases e
  ·rw [a4 _ _ ei] at e;cases e
  ·rw [a4 _ _ eb] at e;cases e
  ·rw [fo] at e;cases e
 have bm:=a1 _ _ ha
 have e5:=a1 _ _ hb
 have e8:=a1 _ _ ho
 have mb:=ev.same a1
 have mu:=ep.same a1
 have ew:∀ i∈is,i∉[O,J,I,G,l]:=fun i hi=>by
  obtain ⟨k,hk⟩:=vU hi
  obtain ⟨_,_,z⟩:=mb.get hk
  exact R z
 have ey:∀ i∈js,i∉[O,J,I,G,l]:=fun i hi=>by
  obtain ⟨k,hk⟩:=vU hi
  obtain ⟨_,_,z⟩:=mu.get hk
  exact R z
 have ab:∀ {z},z∉[O,J,I,G,l]→z≠O∧z≠J∧z≠I∧z≠G∧z≠l:=fun h=>by
  simp only [u8,ve,or_false,not_or] at h
  exact h
 have lu:a5∉[O,J,I,G,l]:=fun hz=>by
  have n3:a5≠I:=aq c1 c5
  have n4:a5≠G:=aq c1 db
  have n5:a5≠l:=aq (c0 _ _ c1) hl
  simp only [u8,ve,or_false] at hz
  rcases hz with r | r | r | r | r
  ·exact f9 r
  ·exact ge r
  ·exact n3 r
  ·exact n4 r
  ·exact n5 r
 have lx:ap∉[O,J,I,G,l]:=fun hz=>by
  have n1:ap≠O:=(aq a8 ld).symm
  have n2:ap≠J:=(aq bb ld).symm
  have n5:ap≠l:=aq fm hl
  simp only [u8,ve,or_false] at hz
  rcases hz with r | r | r | r | r
  ·exact n1 r
  ·exact n2 r
  ·exact gv r
  ·exact go r
  ·exact n5 r
 have kk:O≠I:=aq a8 c5
 have k2:O≠G:=aq a8 db
 have k6:J≠I:=aq bb c5
 have j2:J≠G:=aq bb db
 have lc:O≠l:=aq (c0 _ _ a8) hl
 have kw:J≠l:=aq (c0 _ _ bb) hl
 have j0:I≠l:=aq ei hl
 have lb:G≠l:=aq eb hl
 have od:Apt a b a5 O J is []:=⟨l5,⟨(ab (R bm)).1,(ab (R bm)).2.1⟩,⟨(ab (R e5)).1,(ab (R e5)).2.1⟩,⟨f9,ge⟩,fun i hi=>⟨(ab (ew i hi)).1,(ab (ew i hi)).2.1⟩,fun i hi=>nomatch hi⟩
 have ov:Apt a o ap I G js []:=⟨l2,⟨(ab (R bm)).2.2.1,(ab (R bm)).2.2.2.1⟩,⟨(ab (R e8)).2.2.1,(ab (R e8)).2.2.2.1⟩,⟨gv,go⟩,fun i hi=>⟨(ab (ey i hi)).2.2.1,(ab (ey i hi)).2.2.2.1⟩,fun i hi=>nomatch hi⟩
 have T8:=T1.same an
 refine ⟨d,rfl,⟨_,SqL.of hd⟩,?_⟩
 refine cR (K:=K) (a:=d) (xs:=as.map V.ref) (fun i σ H'=>SameX [O,J,I,G,l] H8 H'∧i≤ss.length∧∃ (Z:List Addr) (b5:List V) (Y:List Addr) (ck:List V) (f4 fy di:Option V),σ=[some (.ref t),some (.ref a),some (.ref b),some (.ref o),some (.ref c),some (.ref so),some (.ref co),some (.ref x),some (.ref y),some (.ref l),f4,fy,di]∧CrsAt C CC H' x p n f ss inp (exI p n f.toNat ss inp oth ch cover hs i).here.1 t a b a5 O J ws is Z∧Apt a b a5 O J is Z∧H' J=some (.lst b5)∧LetsAt H' b5 (exI p n f.toNat ss inp oth ch cover hs i).here.2∧CrsAt C CC H' y p n f ss oth (exI p n f.toNat ss inp oth ch cover hs i).there.1 t a o ap I G ws js Y∧Apt a o ap I G js Y∧H' G=some (.lst ck)∧LetsAt H' ck (exI p n f.toNat ss inp oth ch cover hs i).there.2∧(∀ m∈Z,H8 m=none)∧(∀ m∈Y,H8 m=none)∧H' l=some (.lst ((exI p n f.toNat ss inp oth ch cover hs i).found.map V.int))∧(exI p n f.toNat ss inp oth ch cover hs i).here.2.length≤100*i∧(exI p n f.toNat ss inp oth ch cover hs i).there.2.length≤100*i∧(exI p n f.toNat ss inp oth ch cover hs i).found.length≤100*i) ?_ ?_ ?_ ?_
 ·exact ⟨fun _ _ e _=>e,vk _,[],[],[],[],none,none,none,rfl,⟨⟨dx,(ca.trans s8) _ _ q9⟩,T8,an _ _ ha,cu.same an,an _ _ hb,ev.same an,(ca.trans s8) _ _ c1,ka,.nil⟩,od,kl,.nil,⟨⟨dy,(a4.trans s8) _ _ pb⟩,T8,an _ _ ha,cu.same an,an _ _ ho,ep.same an,(a4.trans s8) _ _ fm,la,.nil⟩,ov,j3,.nil,(fun m h=>nomatch h),(fun m h=>nomatch h),li,vk _,vk _,vk _⟩
 ·rintro i σ H' _ ⟨sX,_⟩
  exact SqL.of (sX _ _ hd (c2 po))
 ·rintro i yv σ H' g8 ⟨sX,hi,Z,b5,Y,ck,f4,fy,di,rfl,R1,A1,e7,ek,R2,A2,fb,e4,k8,gb,ct,b1,b2,b3⟩
  obtain ⟨ai,rfl,k0⟩:=cW g8
  have il:i<ss.length:=by rw [← kp];exact (u3.mp k0).1
  obtain ⟨U,ih,lz,bs,p3,q2,kc⟩:=cX k5 k0
  have ez:ss[i]?=some ss[i]:=rz il
  have da:U=aN f.toNat ch (aT f.toNat n (ss.take i)) ((ss[i]).dealers n).length:=by
   have h1:=dg (f:=f.toNat) (n:=n) (ch:=ch) ez
   rw [vn,ih] at h1
   have:=List.append_cancel_left h1
   simpa using this
  have eg:ss.getD i (.fix 0)=ss[i]:=by rw [nn,ez];rfl
  have el:=pA (p:=p) (n:=n) (f:=f.toNat) (ss:=ss) (inp:=inp) (oth:=oth) (ch:=ch) (cover:=cover) (hs:=hs) i
  have eo:=qq (p:=p) (n:=n) q5 (f:=f.toNat) (ss:=ss) (inp:=inp) (oth:=oth) (ch:=ch) (cover:=cover) (hs:=hs) i
  have ext:exI p n f.toNat ss inp oth ch cover hs (i+1)=⟨kg p n ss inp (exI p n f.toNat ss inp oth ch cover hs i).here U,kg p n ss oth (exI p n f.toNat ss inp oth ch cover hs i).there (bj p cover hs ((ss[i]).dealers n) U (bo p n ss inp (exI p n f.toNat ss inp oth ch cover hs i).here.1 ss[i]) (bo p n ss oth (exI p n f.toNat ss inp oth ch cover hs i).there.1 ss[i])),(exI p n f.toNat ss inp oth ch cover hs i).found++(bj p cover hs ((ss[i]).dealers n) U (bo p n ss inp (exI p n f.toNat ss inp oth ch cover hs i).here.1 ss[i]) (bo p n ss oth (exI p n f.toNat ss inp oth ch cover hs i).there.1 ss[i])).flatten⟩:=by
   show (⟨_,_,_⟩:ExSt)=_
   unfold bG
   rw [eg,← da]
  generalize exI p n f.toNat ss inp oth ch cover hs i=X at R1 R2 ek e4 ct b1 b2 b3 el eo ext
  have c6:∀ {z},H8 z=none→z∉[O,J,I,G,l]:=fun e hz=>by
   obtain ⟨xs,hx⟩:=h5 _ hz
   rw [e] at hx;cases hx
  have lv:InsAt H' bs U:=InsAt.sx sX q2 fun b hb=>c2 (kc b hb)
  have k1:=sX _ _ p3 (c2 lz)
  have ke:ss[X.here.1.length]?=some ss[i]:=by rw [el.1];exact ez
  have o0:ss[X.there.1.length]?=some ss[i]:=by rw [el.2];exact ez
  have r3:=ce (n:=n) (by omega) (by omega) ss[i]
  have rl:U.length=((ss[i]).dealers n).length:=by rw [da,b7]
  have he:∀ r∈U,r.length≤2:=fun r hr=>by
   rw [da] at hr
   have:=(iI r hr).1
   omega
  have g9:=a1 _ _ fx
  refine ⟨_,rfl,_,rfl,_,rfl,_,rfl,_,rfl,co,so,ai,x,y,p,n,f,ss,inp,oth,X.here.1,X.there.1,U,ss[i],cover,hs,bs,t,a,b,a5,O,J,ws,is,Z,rfl,R1,⟨t,a,o,ap,I,G,ws,js,Y,R2⟩,PA,PB,eo.1,eo.2,ke,by rw [el.1,el.2],sX _ _ (kv _ _ fe) (R fe),kt,sX _ _ (kv _ _ g9) (R g9),k1,lv,rl,(fun r hr=>by have:=he r hr;omega),fun d2 ds H9 s9 ed q4 r8 fi ot=>?_⟩
  have cl:(bj p cover hs ((ss[i]).dealers n) U (bo p n ss inp X.here.1 ss[i]) (bo p n ss oth X.there.1 ss[i])).length=((ss[i]).dealers n).length:=bu
  have cb:∀ r∈bj p cover hs ((ss[i]).dealers n) U (bo p n ss inp X.here.1 ss[i]) (bo p n ss oth X.there.1 ss[i]),r.length≤2:=fun r hr=>by
   unfold bj at hr
   obtain ⟨k,hk,rfl⟩:=vP.mp hr
   have hk:=vH.mp hk
   have rk:(U.getD k []).length≤2:=he _ (by rw [nn,rz (by omega)];exact v0 _)
   unfold fO
   split
   ·exact rk
   ·unfold cU
    rw [vY]
    omega
  generalize bj p cover hs ((ss[i]).dealers n) U (bo p n ss inp X.here.1 ss[i]) (bo p n ss oth X.there.1 ss[i])=chg at fi cl cb ext
  obtain ⟨q7,pg⟩:=R1.obj
  obtain ⟨ln,k7⟩:=R2.obj
  have e1:=Paired.length ek
  have e2:=Paired.length e4
  refine ⟨_,rfl,x,q7,_,rfl,s9 _ _ pg,gZ _ _ _ _ _ _ (by decide +kernel) (by decide +kernel) (by decide +kernel) (by decide +kernel) (by decide +kernel) (by decide +kernel),_,rfl,x,ai,J,p,n,f,ss,inp,X.here.1,U,ss[i],bs,b5,X.here.2,t,a,b,a5,O,ws,is,Z,rfl,R1.same s9,A1,PA,eo.1,ke,s9 _ _ k1,lv.same s9,rl,(fun r hr=>by have:=he r hr;omega),s9 _ _ e7,ek.same s9,by omega,fun lw m1 l1 a6 m3 g4 ly em h4=>?_⟩
  have l9:∀ z∈[O,J],∃ xs,H9 z=some (.lst xs):=fun z hz=>by
   simp only [u8,ve,or_false] at hz
   rcases hz with r | r<;>rw [r]
   ·exact ⟨_,s9 _ _ R1.hsh⟩
   ·exact ⟨_,s9 _ _ e7⟩
  have bl:∀ {z},z∉[O,J,I,G,l]→z∉[O,J]:=fun h m=>h (by
   simp only [u8,ve,or_false] at m ⊢
   rcases m with r | r
   ·exact .inl r
   ·exact .inr (.inl r))
  have bf:∀ {z},z∉[O,J,I,G,l]→z∉[I,G]:=fun h m=>h (by
   simp only [u8,ve,or_false] at m ⊢
   rcases m with r | r
   ·exact .inr (.inr (.inl r))
   ·exact .inr (.inr (.inr (.inl r))))
  have al:∀ {z},H' z=none→z∉[O,J,I,G,l]:=fun e hz=>by
   simp only [u8,ve,or_false] at hz
   rcases hz with r | r | r | r | r<;>rw [r] at e
   ·rw [R1.hsh] at e;cases e
   ·rw [e7] at e;cases e
   ·rw [R2.hsh] at e;cases e
   ·rw [fb] at e;cases e
   ·rw [ct] at e;cases e
  have hg:=CrsAt.sx a6 l9 (R2.same s9) (bl (R bm)) (bl (R e8)) (bl lx) (by simp [kk.symm,k6.symm]) (fun j hj=>bl (ey j hj)) (fun j hj=>bl (c6 (gb j hj)))
  have g5:∀ z∈ds,z∉[O,J,I,G,l]:=fun z hz=>(ot z hz).elim al fun m=>c2 (kc z m)
  have fv:=a6 _ _ q4 (bl (al ed))
  have e0:=InsAt.sx a6 fi fun z hz=>bl (g5 z hz)
  have er:=a6 _ _ (s9 _ _ fb) (by simp [k2.symm,j2.symm])
  have jl:=LetsAt.sx a6 l9 (e4.same s9)
  have io:lw y=some (.ins CC ln (mK t a o ap I G)):=a6 _ _ (s9 _ _ k7) fun m=>by obtain ⟨xs,hx⟩:=l9 _ m;rw [s9 _ _ k7] at hx;cases hx
  refine ⟨_,rfl,y,ln,_,rfl,io,gZ _ _ _ _ _ _ (by decide +kernel) (by decide +kernel) (by decide +kernel) (by decide +kernel) (by decide +kernel) (by decide +kernel),_,rfl,y,d2,G,p,n,f,ss,oth,X.there.1,chg,ss[i],ds,ck,X.there.2,t,a,o,ap,I,ws,js,Y,rfl,hg,A2,PB,eo.2,o0,fv,e0,cl,(fun r hr=>by have:=cb r hr;omega),er,jl,by omega,fun et m2 nb bz a9 n8 nw hq iv=>?_⟩
  have lm:∀ z∈[I,G],∃ xs,lw z=some (.lst xs):=fun z hz=>by
   simp only [u8,ve,or_false] at hz
   rcases hz with r | r<;>rw [r]
   ·exact ⟨_,hg.hsh⟩
   ·exact ⟨_,er⟩
  have f1:=s9.free m3
  have f2:=s9.free (lB a6 a9 fun m=>by
   simp only [u8,ve,or_false] at m
   rcases m with r | r<;>rw [r] at a9
   ·rw [g4.hsh] at a9;cases a9
   ·rw [em] at a9;cases a9)
  have qs:=lB sX f1 (al f1)
  have p1:=lB sX f2 (al f2)
  have d7:∀ m∈Z++[m1],H8 m=none:=fun m hm=>(vr.mp hm).elim (k8 m) fun h=>by rw [u9.mp h];exact qs
  have g0:∀ m∈Y++[m2],H8 m=none:=fun m hm=>(vr.mp hm).elim (gb m) fun h=>by rw [u9.mp h];exact p1
  have m8:=CrsAt.sx bz lm g4 (bf (R bm)) (bf (R e5)) (bf lu) (by simp [kk,k2]) (fun j hj=>bf (ew j hj)) (fun j hj=>bf (c6 (d7 j hj)))
  have h8:=bz _ _ em (by simp [k6,j2])
  have h0:=LetsAt.sx bz lm h4
  have e3:=bz _ _ (a6 _ _ (s9 _ _ ct) (by simp [lc.symm,kw.symm])) (by simp [j0.symm,lb.symm])
  have f3:=bz _ _ fv (bf (al ed))
  have h6:=InsAt.sx bz e0 fun z hz=>bf (g5 z hz)
  have W:∀ {z},z∉[O,J,I,G,l]→z∉[l]:=fun h m=>h (by
   simp only [u8,ve,or_false] at m ⊢
   exact .inr (.inr (.inr (.inr m))))
  have no:SameX [O,J,I,G,l] H8 et:=fun z u e h=>bz _ _ (a6 _ _ (s9 _ _ (sX _ _ e h)) (bl h)) (bf h)
  have g1:kg p n ss inp X.here U=(X.here.1++[bZ p n X.here.1 (aX p n ss inp X.here.1 U ss[i]) ss[i]],X.here.2++j7 p n (X.here.1.length:Int) (bZ p n X.here.1 (aX p n ss inp X.here.1 U ss[i]) ss[i]) (aX p n ss inp X.here.1 U ss[i]) ss[i]):=by
   unfold kg
   rw [el.1,eg]
  have g2:kg p n ss oth X.there chg=(X.there.1++[bZ p n X.there.1 (aX p n ss oth X.there.1 chg ss[i]) ss[i]],X.there.2++j7 p n (X.there.1.length:Int) (bZ p n X.there.1 (aX p n ss oth X.there.1 chg ss[i]) ss[i]) (aX p n ss oth X.there.1 chg ss[i]) ss[i]):=by
   unfold kg
   rw [el.2,eg]
  have d1:=iD (p:=p) hn (X.here.1.length:Int) (bZ p n X.here.1 (aX p n ss inp X.here.1 U ss[i]) ss[i]) (aX p n ss inp X.here.1 U ss[i]) ss[i] (fun r hr=>by have:=(fB (p:=p) (n:=n) q5 ss inp X.here.1 U ss[i]).l r hr;omega)
  have sa:=iD (p:=p) hn (X.there.1.length:Int) (bZ p n X.there.1 (aX p n ss oth X.there.1 chg ss[i]) ss[i]) (aX p n ss oth X.there.1 chg ss[i]) ss[i] (fun r hr=>by have:=(fB (p:=p) (n:=n) q5 ss oth X.there.1 chg ss[i]).l r hr;omega)
  rw [g1,g2] at ext
  rw [ext]
  have fl:∀ k,((chg.take k).flatten).length≤2*chg.length:=fun k=>vG (qo fun r hr=>cb r (List.mem_of_mem_take hr)) (by rw [vj];omega)
  refine ⟨_,rfl,d2,rfl,⟨_,SqL.of f3⟩,?_⟩
  refine cR (K:=K) (a:=d2) (xs:=ds.map V.ref) (fun k σ dd=>SameX [l] et dd∧∃ di:Option V,σ=[some (.ref t),some (.ref a),some (.ref b),some (.ref o),some (.ref c),some (.ref so),some (.ref co),some (.ref x),some (.ref y),some (.ref l),some (.ref ai),some (.ref d2),di]∧dd l=some (.lst ((X.found++(chg.take k).flatten).map V.int))) ?_ ?_ ?_ ?_
  ·refine ⟨fun _ _ e _=>e,_,rfl,?_⟩
   show et l=some (.lst ((X.found++[]).map V.int))
   rw [vT]
   exact e3
  ·rintro k σ dd _ ⟨sk,_⟩
   exact SqL.of (sk _ _ f3 (W (al ed)))
  ·rintro k yv σ dd g8 ⟨sk,nr,rfl,cp⟩
   obtain ⟨ba,rfl,lk⟩:=cW g8
   obtain ⟨k4,ff,oz⟩:=h6.get lk
   have ib:=sk _ _ oz (W (g5 ba (u4 lk)))
   have r5:=cb k4 (u4 ff)
   have r4:=fl k
   refine ⟨_,rfl,.inl ⟨rfl,_,SqL.of cp⟩,_,rfl,l,ba,_,_,rfl,rfl,cp,ib,?_,?_⟩
   ·rw [lH,lH,u7]
    exact vG (show _≤5000 by omega) (by decide)
   ·refine ⟨fun y u e ne=>?_,_,rfl,?_⟩
    ·rw [az fun e=>ne (u9.mpr e)]
     exact sk y u e ne
    ·rw [upd_same,← u6,wf,vn,ff,wK]
     show _=some (HO.lst ((X.found++((chg.take k).flatten++(k4++[]))).map V.int))
     rw [vT]
  ·rintro σ dd ⟨sk,nr,rfl,cp⟩
   have oe:ds.length=chg.length:=Paired.length fi
   rw [lH,oe,vi (va _)] at cp
   have py:=fl chg.length
   rw [vi (va _)] at py
   have ll:∀ z∈[l],∃ xs,et z=some (.lst xs):=fun z hz=>by rw [u9.mp hz];exact ⟨_,e3⟩
   refine ⟨fun z u e h=>sk _ _ (no z u e h) (W h),il,Z++[m1],l1,Y++[m2],nb,_,_,_,rfl,CrsAt.sx sk ll m8 (W (R bm)) (W (R e5)) (W lu) (by simp [lc]) (fun j hj=>W (ew j hj)) (fun j hj=>W (c6 (d7 j hj))),ly,sk _ _ h8 (by simp [kw]),LetsAt.sx sk ll h0,CrsAt.sx sk ll n8 (W (R bm)) (W (R e8)) (W lx) (by simp [j0]) (fun j hj=>W (ey j hj)) (fun j hj=>W (c6 (g0 j hj))),nw,sk _ _ hq (by simp [lb]),LetsAt.sx sk ll iv,d7,g0,cp,?_,?_,?_⟩
   ·refine vG (Nat.le_of_eq u7) ?_
    omega
   ·refine vG (Nat.le_of_eq u7) ?_
    omega
   ·refine vG (Nat.le_of_eq u7) ?_
    omega
 ·rintro σ H' ⟨sX,_,Z,b5,Y,ck,f4,fy,di,rfl,R1,A1,e7,ek,R2,A2,fb,e4,k8,gb,ct,_,_,_⟩
  refine hu _ _ ?_
  refine ⟨_,(ad (ay (pv 9))),?_⟩
  rw [lH,kp] at ct
  rw [show (exI p n f.toNat ss inp oth ch cover hs ss.length).found=exD p n f.toNat ss inp oth ch hs by rw [← nf];rfl] at ct
  have pn:Same H H':=fun z u e=>sX _ _ (an _ _ e) (R (a1 _ _ e))
  exact ⟨_,rfl,q l H' pn ((j5).free hl) ct⟩
end
section
variable {P:Program}{w:World}{K:PySem.W.Frag}{mg:Str→Option Value}{base:Heap}{C pa:Addr}
theorem xX:ax ["table","steps","inputs","others","chance","some","e"] ["table","steps","inputs","others","chance","some"] (ao de):=⟨rfl,rfl,rfl,by decide +kernel,rfl,by decide +kernel,by decide +kernel⟩
theorem Bv {cS cI cC cH cN cV:Addr}{bmN bmV:List Value} (F:Src K mg "_law_exchange" "_law_exchange" de ["table","steps","inputs","others","chance","some"]) (B:Blt mg) (xY:Exc K mg "NoVeil" cN bmN) (zK:Exc K mg "VeilError" cV bmV) (hin_:(Value.ref cN::bmN).contains (.ref cN)=true) (hkt:PySem.W.kitOne K (.ref cN) (.ref cV)=some true)
  (yV:Ok P w K mg base (CXE P w) 9 "exchanged" ["table","steps","inputs","others","chance","some"] (spExP C cS cI cC cH cN)):Ok P w K mg base CX0 10 "_law_exchange" ["table","steps","inputs","others","chance","some"] (sU C):=by
 refine F.ok xX (fun vs H Q E h=>?_) (fun f bf A outer s H vs Q E hr h=>?_)
 ·obtain ⟨t,a,b,o,c,s,p,n,f,ws,ss,is,js,inp,oth,ch,hs,rfl,_⟩:=h
  rfl
 obtain ⟨t,a,b,o,c,so,p,n,f,ws,ss,is,js,inp,oth,ch,hs,rfl,T1,hp,hn,np,hf,fn,ha,O,hb,U,q,ho,al,J,Z,G,R,Y,k0,k1,k2,k3,k4,k5,q1,q2⟩:=h
 refine ⟨_,(ad (ps_try rfl rfl (fun pins E2 Ek sg hc=>by exact (ad (ay (pe_callT yV hr hc rfl (aa (pv 0) (aa (pv 1) (aa (pv 2) (aa (pv 3) (aa (pv 4) (aa (pv 5) ac)))))))))) (ph_as xY rfl xX.nd (i:=6) rfl rfl (fun a=>by exact (ad (ay (aK (mI K) rfl B.isinstance PyProof.Rows.boot_isinstance (aa (pv 6) (aa (mo (v:=.ref _) rfl zK.bound rfl) ac)))))) ph_nil))),?_⟩
 refine ⟨rfl,_,rfl,_,rfl,_,rfl,_,rfl,_,rfl,_,rfl,t,a,b,o,c,so,p,n,f,ws,ss,is,js,inp,oth,ch,hs,rfl,T1,hp,hn,np,hf,fn,ha,O,hb,U,fun r h=>vG (q r h) (by decide),ho,al,fun r h=>vG (J r h) (by decide),Z,G,R,Y,fun _ _ _ _ _ _ I=>q1 I,fun z=>absurd (k0.symm.trans z) (by decide),fun _ z=>absurd (k1.symm.trans z) (by decide),fun _ _ z=>absurd (k2.symm.trans z) (by decide),fun _ _ _ z=>absurd (k3.symm.trans z) (by decide),fun _ _ _ _ z=>absurd (k4.symm.trans z) (by decide),fun _ _ _ _ _ z=>absurd z (by omega),fun _ _ _ _ _ _ I H1 s1=>⟨cN,rfl,fun _ _=>⟨_,bmN,true,xY,hin_,oA fun a' ag=>?_⟩⟩⟩
 have e1:=aj ag (ExAt a' cN)
 exact ⟨_,rfl,a',cN,_,_,rfl,upd_same,rfl,hkt,q2 I _ (s1.trans e1)⟩
end
section
variable {P:Program}{w:World}{K:PySem.W.Frag}{mg:Str→Option Value}{base:Heap}{C pa:Addr}
theorem x9:ax ["script","table","steps","inputs","others","some","chance","handed","found"] ["script"] (ao s_law):=⟨rfl,rfl,rfl,by decide +kernel,rfl,by decide +kernel,by decide +kernel⟩
theorem BE {e cS cI cC cH:Addr}{ed:FuncData} (F:Fun K "law" "law" s_law e ed) (B:Blt mg) (T:Tab K C) (yF:Ok P w K mg base CX0 4 "_law_table_by" ["cell"] (mX C)) (wZ:Ok P w K mg base CX0 1 "_law_cell_at" ["script","k"] (m4 K)) (yL:Ok P w K mg base CX0 4 "_law_pair_by" ["script","table","many"] (oK K C))
  (yy:Ok P w K mg base CX0 2 "_law_chance_by" ["cell","steps","table"] (iN C)) (zL:Ok P w K mg base CX0 2 "_law_agree" ["prime","steps","inputs","others","some"] oP) (zM:Ok P w K mg base CX0 1 "_law_whole" ["found"] pL) (yG:Ok P w K mg base CX0 10 "_law_exchange" ["table","steps","inputs","others","chance","some"] (sU C)) (Bc:Ok P w K mg base CX0 10 "seen" ["table","steps","inputs","chance","some"] (fun vs H Q _=>oG C cS cI cC cH vs H Q E0)) (BF:Ok P w K mg base CX0 9 "run" ["table","steps","inputs","chance"] (fun vs H Q _=>pN C cS cI cC vs H Q E0)):ju P w K mg base CX0 12 e ed ["script"] (spLaw K):=by
 refine F.ok x9 (fun vs H Q E h=>?_) (fun lp A outer s H vs Q E hr h=>?_)
 ·obtain ⟨a,ns,rfl,_⟩:=h
  rfl
 obtain ⟨a,ns,rfl,hS,k4,q⟩:=h
 refine aw (aB (i:=1) x9.nd rfl (Or.inr rfl) (ak yF hr rfl (aa (ak wZ hr rfl (aa (pv 0) (aa ae ac))) ac))) fun u O=>?_
 refine ⟨_,rfl,a,ns,0,rfl,hS,Int.le_refl 0,fun H1 s1=>⟨_,rfl,fun t H2 s2 j0 T2=>O _ _ ?_⟩⟩
 generalize hc:cg ns 0=c at T2
 have hp:=sN c
 have p0:=Bw c
 have p1:=Bx c
 have n1:=AN c
 have Y:=By c
 have dp:Same H H2:=s1.trans s2
 have q0:0<tbP c:=by omega
 have n0:0≤tbN c:=by omega
 have iz:0≤tbN c∧tbN c≤10:=by omega
 have f0:0≤tbF c:=by omega
 have m0:=vC (cg ns 6) (show (8:Int)≠0 by decide)
 have m1:=vw (cg ns 6) (show (0:Int)<8 by decide)
 obtain ⟨m,hm⟩:∃ m:Nat,1+cg ns 6%8=(m:Int):=⟨(1+cg ns 6%8).toNat,by omega⟩
 refine aw (kO (ak yL hr rfl (aa (pv 0) (aa (pv 1) (aa (av bi ae (av bh (ak wZ hr rfl (aa (pv 0) (aa ae ac))) ae)) ac)))) (gh rfl (aE (ar (i:=2) x9.nd rfl (Or.inl rfl)) (aE (ar (i:=3) x9.nd rfl (Or.inl rfl)) (aE (ar (i:=4) x9.nd rfl (Or.inl rfl)) (aE (ar (i:=5) x9.nd rfl (Or.inl rfl)) bM)))))) fun u O=>?_
 refine ⟨_,rfl,_,rfl,_,rfl,a,ns,6,rfl,dp.seq hS,by decide,fun H3 s3=>⟨_,_,rfl,rfl,(by show (0:Int)<8;decide),_,_,rfl,rfl,a,t,ns,m,_,_,_,(by show [V.ref a,V.ref t,V.int (1+cg ns 6%8)]=_;rw [hm]),(dp.trans s3).seq hS,T2.same s3,hp,Y.1,by omega,Y.2,by omega,fun d sa ia oa ea H4 ws ss is os inp oth I wo s4 ii hd ab Z l1 l2 hR a8 a6 IO ba a9 OO a4 SO il ol=>⟨d,_,rfl,SqT.of hd,rfl,_,_,rfl,_,_,rfl,_,_,rfl,_,_,rfl,rfl,O _ _ ?_⟩⟩⟩
 have g4:=s3.trans s4
 have T4:=T2.same g4
 have d4:=(dp.trans g4).seq hS
 have c4:aR (tbP c) (tbN c) ss=true:=rightsB_iff.mpr ⟨by omega,hR⟩
 have eg:eB (tbP c) (tbN c) ss inp=true:=(dI n0).mpr IO
 have en:eB (tbP c) (tbN c) ss oth=true:=(dI n0).mpr OO
 have ep:l6 (tbN c) I=true:=risB_iff.mpr ⟨fun h hm=>⟨(SO.b h hm).1,(SO.b h hm).2.1⟩,SO.rise⟩
 have ek:=SO.few
 have nb:=o6 (f:=tbF c) (n:=tbN c) (by omega) (by omega) (by omega) (by omega) ss
 clear s1 s2 s3 s4 g4 dp T2 hS hd ii j0
 refine aw (aB (i:=6) x9.nd rfl (Or.inl rfl) (ak yy hr rfl (aa (ak wZ hr rfl (aa (pv 0) (aa ae ac))) (aa (pv 2) (aa (pv 1) ac))))) fun u O=>?_
 refine ⟨_,rfl,a,ns,7,rfl,d4,by decide,fun H5 s5=>⟨_,rfl,_,rfl,sa,t,_,_,_,_,ws,ss,rfl,T4.same s5,by omega,by omega,by omega,s5 _ _ ab,Z.same s5,by omega,fun ca H6 s6 g3 al=>O _ _ ?_⟩⟩
 have f5:((dL (cg ns 7) (tbP c) (aY (tbF c) (tbN c) ss).toNat).length:Int)=aY (tbF c) (tbN c) ss:=by unfold dL;rw [lH,vo];omega
 have b0:dW (tbP c) (tbF c) (tbN c) ss (dL (cg ns 7) (tbP c) (aY (tbF c) (tbN c) ss).toNat)=true:=by
  refine chan_iff.mpr ⟨f5,fun x hx=>?_⟩
  unfold dL at hx
  obtain ⟨i,_,rfl⟩:=vP.mp hx
  exact ⟨bR q0,fJ q0⟩
 generalize dL (cg ns 7) (tbP c) (aY (tbF c) (tbN c) ss).toNat=ch at al f5 b0
 have af:=s5.trans s6
 have ef:=af _ _ ab
 have d0:=Z.same af
 have b5:=af _ _ a8
 have db:=a6.same af
 have b3:=af _ _ ba
 have da:=a9.same af
 have dd:=af _ _ a4
 have T6:=T4.same af
 have la:=af.seq d4
 obtain ⟨dx,fn⟩:=id T6
 clear ab Z a8 a6 ba a9 a4 T4 d4 s5 s6 af g3
 have n7:=AN c
 have a3:3≤tbN c∧tbN c≤7:=by omega
 have a7:tbN c<tbP c:=by omega
 have fe:1≤ss.length∧ss.length≤24:=by omega
 have cl:ch.length≤1000:=by omega
 have c5:I.length≤100:=by omega
 refine aw (aB (i:=7) x9.nd rfl (Or.inl rfl) (bd (aa (bw ["row"] []  (bn (pv 3)) rfl (fun C s0 H0 ex=>by exact (ar (i:=0) (show List.Nodup [("row":Str)] by decide +kernel) rfl (Or.inl rfl))) (fun C s0 H0 ex=>by exact bc) (fun C s0 H0 ex=>by exact (dS (fR K) rfl B.list wq (aa (pv 0) ac)))) (aa (bw ["row"] []  (bn (pv 4)) rfl (fun C s0 H0 ex=>by exact (ar (i:=0) (show List.Nodup [("row":Str)] by decide +kernel) rfl (Or.inl rfl))) (fun C s0 H0 ex=>by exact bc) (fun C s0 H0 ex=>by exact (dS (fR K) rfl B.list wq (aa (pv 0) ac)))) (aa (dS gq rfl B.list wq (aa (pv 6) ac)) (aa (dS gq rfl B.list wq (aa (pv 5) ac)) ac)))))) fun u O=>?_
 refine ⟨_,rfl,ia,rfl,⟨_,SqL.of b5⟩,fun R f2=>?_⟩
 refine og b5 db (by rw [IO.len];omega) f2 fun H7 as s7 i1 ih ge cr dl=>?_
 refine ⟨_,rfl,oa,rfl,⟨_,SqL.of (s7 _ _ b3)⟩,fun R2 d3=>?_⟩
 refine og (s7 _ _ b3) (da.same s7) (by rw [OO.len];omega) d3 fun H8 bs s8 iv j5 gv cf di=>?_
 have g8:=s7.trans s8
 refine ⟨_,rfl,ca,_,rfl,.inl (SqL.of (g8 _ _ al)),fun c2 eo=>?_⟩
 have s9:=aj eo (.lst (ch.map V.int))
 have cx:(upd H8 c2 (.lst (ch.map V.int))) c2=some (.lst (ch.map V.int)):=upd_same
 generalize upd H8 c2 (.lst (ch.map V.int))=H9 at s9 cx
 have g9:=g8.trans s9
 refine ⟨_,rfl,ea,_,rfl,.inl (SqL.of (g9 _ _ dd)),fun e2 d9=>?_⟩
 have bz:=aj d9 (.lst (I.map V.int))
 have cu:(upd H9 e2 (.lst (I.map V.int))) e2=some (.lst (I.map V.int)):=upd_same
 generalize upd H9 e2 (.lst (I.map V.int))=H10 at bz cu
 refine ⟨(by show 4≤sizeLine;decide),fun ha ej=>O _ _ ?_⟩
 have a5:=aj ej (.lst [.ref R,.ref R2,.ref c2,.ref e2])
 have bx:(upd H10 ha (.lst [.ref R,.ref R2,.ref c2,.ref e2])) ha=some (.lst [.ref R,.ref R2,.ref c2,.ref e2]):=upd_same
 generalize upd H10 ha (.lst [.ref R,.ref R2,.ref c2,.ref e2])=H11 at a5 bx
 have U:=g9.trans (bz.trans a5)
 have k7:=s8.trans (s9.trans (bz.trans a5))
 have k8:=s9.trans (bz.trans a5)
 replace dl:=k7 _ _ dl
 replace cr:=cr.same k7
 replace di:=k8 _ _ di
 replace cf:=cf.same k8
 replace cx:=(bz.trans a5) _ _ cx
 replace cu:=a5 _ _ cu
 have al:=U _ _ al
 have ab:=U _ _ ef
 have Z:=d0.same U
 have a8:=U _ _ b5
 have a6:=db.same U
 have ba:=U _ _ b3
 have a9:=da.same U
 have a4:=U _ _ dd
 have c3:=T6.same U
 have d8:=U _ _ fn
 clear ef d0 b5 db b3 da dd T6 fn s7 s8 s9 bz a5 g8 g9 U k7 k8 f2 d3 eo d9 ej ge gv ih j5 i1 iv
 refine aw (aB (i:=8) x9.nd rfl (Or.inl rfl) (ak yG hr rfl (aa (pv 1) (aa (pv 2) (aa (aO aP (pv 7) ae (fun _ _=>rfl)) (aa (aO aP (pv 7) ae (fun _ _=>rfl)) (aa (aO aP (pv 7) ae (fun _ _=>rfl)) (aa (aO aP (pv 7) ae (fun _ _=>rfl)) ac)))))))) fun u O=>?_
 have next:∀ (vf:V) (an:Hp),Same H11 an→((cT (tbP c) ss inp oth I=false∧vf=.bl true)∨(cT (tbP c) ss inp oth I=true∧∃ fo,vf=.ref fo∧an fo=some (.lst ((exD (tbP c) (tbN c) (tbF c).toNat ss inp oth ch I).map V.int))))→u [some (.ref a),some (.ref t),some (.ref sa),some (.ref ia),some (.ref oa),some (.ref ea),some (.ref ca),some (.ref ha),some vf] an:=by
  intro vf an c0 j1
  refine O _ _ ?_
  refine aw (bg (aA (tL (hr.units)) (pv 7) (bd (aa (pv 3) (aa (pv 4) (aa (pv 6) (aa (pv 5) ac))))) (aI _))
   (ad (ay gS))
   aJ) fun u O=>?_
  refine ⟨_,rfl,_,rfl,_,rfl,_,rfl,_,rfl,(by show 4≤sizeLine;decide),fun lb g0=>?_⟩
  have el:=aj g0 (.lst [.ref ia,.ref oa,.ref ca,.ref ea])
  have ff:(upd an lb (.lst [.ref ia,.ref oa,.ref ca,.ref ea])) lb=some (.lst [.ref ia,.ref oa,.ref ca,.ref ea]):=upd_same
  generalize upd an lb (.lst [.ref ia,.ref oa,.ref ca,.ref ea])=H13 at el ff
  have G:=c0.trans el
  have e1:RepD H13 (.ref ha) (.list [dU inp,dU oth,.list (ch.map PySem.W.Dat.int),.list (I.map PySem.W.Dat.int)]):=.lst (G _ _ bx) (.cons (.lst (G _ _ dl) (cr.same G).rep) (.cons (.lst (G _ _ di) (cf.same G).rep) (.cons (.lst (G _ _ cx) (RepDs.ints _)) (.cons (.lst (G _ _ cu) (RepDs.ints _)) .nil))))
  have e2:RepD H13 (.ref lb) (.list [dU inp,dU oth,.list (ch.map PySem.W.Dat.int),.list (I.map PySem.W.Dat.int)]):=.lst ff (.cons (.lst (G _ _ a8) (a6.same G).rep) (.cons (.lst (G _ _ ba) (a9.same G).rep) (.cons (.lst (G _ _ al) (RepDs.ints _)) (.cons (.lst (G _ _ a4) (RepDs.ints _)) .nil))))
  refine ⟨_,_,true,e1,e2,uv inp oth ch I,uv inp oth ch I,by simp,_,rfl,uk (O _ _ ?_)⟩
  clear e1 e2
  refine aw (bg (gH (gG (ak zL hr rfl (aa (aH (pv 1) rfl) (aa (pv 2) (aa (pv 3) (aa (pv 4) (aa (pv 5) ac)))))) (fun _=>rfl)))
   (ad (ay (gi op_isB (pv 8) gS (aI _))))
   aJ) fun u O=>?_
  refine ⟨_,rfl,t,C,dx,_,_,rfl,G _ _ d8,T.cl,T.nP,i7 _ _ _,_,rfl,_,rfl,_,rfl,_,rfl,⟨sa,ia,oa,ea,_,tbN c,ws,ss,is,os,inp,oth,I,rfl,by omega,iz,G _ _ ab,Z.same G,by omega,hR,G _ _ a8,a6.same G,IO,G _ _ ba,a9.same G,OO,G _ _ a4,fun h hm=>⟨(SO.b h hm).1,(SO.b h hm).2.1⟩,fun h6 f6=>⟨_,rfl,?_⟩⟩⟩
  rw [← qE]
  rcases j1 with ⟨ap,rfl⟩ | ⟨ap,fo,rfl,J⟩
  ·rw [ap]
   exact oA ⟨_,rfl,true,true,rfl,rfl,q _⟩
  rw [ap]
  refine uk (O _ _ ?_)
  have ei:=G.trans f6
  have ck:=mG (inp:=inp) (oth:=oth) q0 f0 ek n0 b0
  have TW:Two (tbP c) (tbN c) (tbF c) ss inp oth ch I:=⟨⟨hp,a3,a7,Y.1,Y.2,fe,hR,IO⟩,⟨hp,a3,a7,Y.1,Y.2,fe,hR,OO⟩,b0,fun h hm=>⟨(SO.b h hm).1,(SO.b h hm).2.1⟩,ek,ap⟩
  have t1:=two_sees TW
  have t2:=two_used TW
  have t3:=two_own TW
  have t4:=two_open TW
  replace J:=(el.trans f6) _ _ J
  generalize exD (tbP c) (tbN c) (tbF c).toNat ss inp oth ch I=fL at J ck t1 t2 t4
  have j2:=chan_iff.mp ck
  have fw:fL.length=ch.length:=by omega
  have fb:fL.length≤1000:=by rw [fw];exact cl
  refine aw (bg (PW.pt (kB (gH (gG (aK g7 rfl B.isinstance PyProof.Rows.boot_isinstance (aa (pv 8) (aa (pe_ty rfl B.list wq) ac))) (fun _=>rfl))) (iu (aA oU (aK aG rfl B.len vE (aa (pv 8) ac)) (aK aG rfl B.len vE (aa (pv 6) ac)) (aI _)))))
   (ad (ay gS))
   aJ) fun u O=>?_
  refine ⟨_,rfl,_,_,_,_,true,rfl,.lst J,rfl,my K,_,rfl,uk ?_⟩
  refine ⟨_,rfl,fo,_,rfl,.inl (SqL.of J),_,rfl,ca,_,rfl,.inl (SqL.of (ei _ _ al)),rfl,_,rfl,iteNS (by rw [lH,lH,fw]) (O _ _ ?_)⟩
  refine aw (bg (gH (gG (aK (gr rfl) rfl B.all wR (aa (bw ["x"] [("table",1)]  (bn (pv 8)) rfl (fun C s0 H0 ex=>by exact (ar (i:=0) (show List.Nodup [("x":Str),"table"] by decide +kernel) rfl (Or.inl rfl))) (fun C s0 H0 ex=>by exact bc) (fun C s0 H0 ex=>by exact (qa (ak zM hr rfl (aa (pv 0) ac)) (p9 (iy nC kC ae (pv 0) (dv K (pv 1) rfl)))))) ac)) (fun _=>rfl)))
   (ad (ay gS))
   aJ) fun u O=>?_
  refine ⟨_,rfl,fo,rfl,⟨_,SqL.of J⟩,fun D hD=>?_⟩
  refine bF (K:=K) (a:=fo) (xs:=fL.map V.int) (fun i ys H4=>ys=(List.replicate i true).map V.bl∧i≤fL.length∧Same h6 H4) ⟨rfl,vk _,am (Same.refl _) hD⟩ ?_ ?_ ?_
  ·rintro i ys H4 _ ⟨_,_,s4⟩
   exact SqL.of (s4 _ _ J)
  ·rintro i x ys H4 hx ⟨rfl,_,s4⟩ js
   obtain ⟨v,rfl,hv⟩:=br hx
   have hb:=j2.2 v (u4 hv)
   have hi:i<fL.length:=(u3.mp hv).1
   refine ⟨⟨rfl,rfl⟩,?_⟩
   refine ⟨_,rfl,_,rfl,fun H5 s5=>⟨_,rfl,oA ?_⟩⟩
   refine ⟨_,rfl,_,_,rfl,rfl,_,rfl,?_⟩
   rw [decide_eq_true hb.1]
   refine oA ⟨_,rfl,t,C,dx,_,_,rfl,(ei.trans (s4.trans s5)) _ _ d8,T.cl,T.nP,i7 _ _ _,_,_,rfl,rfl,s5 _ _ js,?_,?_,hi,am (s4.trans s5) hD⟩
   ·rw [lH,vK]
    exact au (by omega)
   ·show (List.replicate i true).map V.bl++[V.bl (decide (v<tbP c))]=_
    rw [decide_eq_true hb.2,List.replicate_succ',u6]
    rfl
  rintro ys li ⟨rfl,_,f3⟩ go
  refine ⟨D,_,rfl,SqL.of go,_,rfl,?_⟩
  refine bB (fun z=>absurd z (by simp)) (fun _=>O _ _ ?_)
  have bb:=ei.trans f3
  replace J:=f3 _ _ J
  have e7:∀ r∈inp,r.length≤1000:=fun r h=>vG (il r h) (by decide)
  have ft:∀ r∈oth,r.length≤1000:=fun r h=>vG (ol r h) (by decide)
  refine aw (bg (aA (tL (hr.units)) (ak Bc hr rfl (aa (pv 1) (aa (pv 2) (aa (pv 4) (aa (pv 8) (aa (pv 5) ac)))))) (ak Bc hr rfl (aa (pv 1) (aa (pv 2) (aa (pv 3) (aa (pv 6) (aa (pv 5) ac)))))) (aI _))
   (ad (ay gS))
   aJ) fun u O=>?_
  refine ⟨_,rfl,_,rfl,_,rfl,_,rfl,_,rfl,t,sa,oa,fo,ea,_,_,_,ws,ss,os,oth,fL,I,rfl,c3.same bb,hp,a3,a7,Y.1,Y.2,bb _ _ ab,Z.same bb,bb _ _ ba,a9.same bb,ft,J,fb,bb _ _ a4,c5,fun _ _ _ _ d1 o1 u1 l1 lu k2 k3 fa _ _ _ _ _ _ _ _ _ _ _ _ dt f7 d7 d5 f4 eh=>?_,fun z=>absurd (c4.symm.trans z) (by decide),fun _ z=>absurd (en.symm.trans z) (by decide),fun _ _ z=>absurd (ck.symm.trans z) (by decide),fun _ _ _ z=>absurd (ep.symm.trans z) (by decide)⟩
  have a1:=bb.trans fa
  refine ⟨_,rfl,_,rfl,_,rfl,_,rfl,_,rfl,t,sa,ia,ca,ea,_,_,_,ws,ss,is,inp,ch,I,rfl,c3.same a1,hp,a3,a7,Y.1,Y.2,a1 _ _ ab,Z.same a1,a1 _ _ a8,a6.same a1,e7,a1 _ _ al,cl,a1 _ _ a4,c5,fun _ _ _ _ d2 o2 u2 l2 k5 lm fl a2 _ _ _ _ _ _ _ _ _ _ _ _ dy fv fy fi fx e8=>?_,fun z=>absurd (c4.symm.trans z) (by decide),fun _ z=>absurd (eg.symm.trans z) (by decide),fun _ _ z=>absurd (b0.symm.trans z) (by decide),fun _ _ _ z=>absurd (ep.symm.trans z) (by decide)⟩
  have b1:=a1.trans a2
  rw [t1] at eh
  rw [t2] at d5
  rw [t3] at d7
  have e1:RepD fl (.ref d1) (pG (jY ss inp I) (i4 (tbF c).toNat (tbN c) ch I ss) (dm I (mJ (tbP c) (tbN c) (tbF c).toNat ss inp ch).2)):=.tup (a2 _ _ dt) (.cons (.lst (a2 _ _ f7) (d7.same a2).rep) (.cons (.lst (a2 _ _ d5) (RepDs.ints _)) (.cons (.lst (a2 _ _ f4) (eh.same a2).rep) .nil)))
  have e2:RepD fl (.ref d2) (pG (jY ss inp I) (i4 (tbF c).toNat (tbN c) ch I ss) (dm I (mJ (tbP c) (tbN c) (tbF c).toNat ss inp ch).2)):=.tup dy (.cons (.lst fv fy.rep) (.cons (.lst fi (RepDs.ints _)) (.cons (.lst fx e8.rep) .nil)))
  refine ⟨_,_,true,e1,e2,sW _ _ _,sW _ _ _,by simp,_,rfl,uk (O _ _ ?_)⟩
  clear e1 e2 dt f7 d7 d5 f4 eh dy fv fy fi fx e8
  replace J:=(fa.trans a2) _ _ J
  refine ⟨_,(ad (ay (gi (op_eqD (hr.units)) (aO aZ (ak BF hr rfl (aa (pv 1) (aa (pv 2) (aa (pv 4) (aa (pv 8) ac))))) ae (fun _ _=>rfl)) (aO aZ (ak BF hr rfl (aa (pv 1) (aa (pv 2) (aa (pv 3) (aa (pv 6) ac))))) ae (fun _ _=>rfl)) (aI _)))),?_⟩
  refine ⟨_,rfl,_,rfl,_,rfl,_,rfl,t,sa,oa,fo,_,_,_,ws,ss,os,oth,fL,rfl,c3.same b1,hp,a3,a7,Y.1,Y.2,b1 _ _ ab,Z.same b1,b1 _ _ ba,a9.same b1,ft,J,fb,fun _ _ _ d1 ls ll ka ke kk k1 lc h0 _ _ _ _ _ _ _ _ _ dt _ _ _ _ ht er=>?_,fun z=>absurd (c4.symm.trans z) (by decide),fun _ z=>absurd (en.symm.trans z) (by decide),fun _ _ z=>absurd (ck.symm.trans z) (by decide)⟩
  have bm:=b1.trans h0
  refine ⟨d1,_,_,.ref ka,rfl,rfl,SqT.of dt,rfl,?_⟩
  refine ⟨_,rfl,_,rfl,_,rfl,_,rfl,t,sa,ia,ca,_,_,_,ws,ss,is,inp,ch,rfl,c3.same bm,hp,a3,a7,Y.1,Y.2,bm _ _ ab,Z.same bm,bm _ _ a8,a6.same bm,e7,bm _ _ al,cl,fun _ _ _ d2 ld ln h4 kc kw k6 lk fm _ _ _ _ _ _ _ _ _ dy _ _ _ _ g6 hj=>?_,fun z=>absurd (c4.symm.trans z) (by decide),fun _ z=>absurd (eg.symm.trans z) (by decide),fun _ _ z=>absurd (b0.symm.trans z) (by decide)⟩
  refine ⟨d2,_,_,.ref h4,rfl,rfl,SqT.of dy,rfl,?_⟩
  rw [t4] at er
  refine ⟨_,_,true,.lst (fm _ _ ht) (er.same fm).rep,.lst g6 hj.rep,dpt_ok _,dpt_ok _,by simp,q _⟩
 refine ⟨_,rfl,_,rfl,_,rfl,ha,_,_,.ref R,rfl,rfl,SqL.of bx,rfl,_,rfl,ha,_,_,.ref R2,rfl,rfl,SqL.of bx,rfl,_,rfl,ha,_,_,.ref c2,rfl,rfl,SqL.of bx,rfl,_,rfl,ha,_,_,.ref e2,rfl,rfl,SqL.of bx,rfl,?_⟩
 exact ⟨t,sa,R,R2,c2,e2,_,_,_,ws,ss,as,bs,inp,oth,ch,I,rfl,c3,hp,a3,a7,Y.1,Y.2,ab,Z,dl,cr,il,di,cf,ol,cx,cl,cu,c5,c4,eg,b0,en,ep,ek,fun ap fo an c0 _ J=>next _ _ c0 (.inr ⟨ap,fo,rfl,J⟩),fun ap an c0=>next _ _ c0 (.inl ⟨ap,rfl⟩)⟩
end
theorem len1 {P:List Value→Prop} (h:∀ a,P [a]):∀ us:List Value,us.length=1→P us
 | [a],_=>h a
theorem mx {P:List Value→Prop} (h:∀ a b,P [a,b]):∀ us:List Value,us.length=2→P us
 | [a,b],_=>h a b
theorem jB {P:List Value→Prop} (h:∀ a b c,P [a,b,c]):∀ us:List Value,us.length=3→P us
 | [a,b,c],_=>h a b c
theorem len4 {P:List Value→Prop} (h:∀ a b c d,P [a,b,c,d]):∀ us:List Value,us.length=4→P us
 | [a,b,c,d],_=>h a b c d
theorem len5 {P:List Value→Prop} (h:∀ a b c d e,P [a,b,c,d,e]):∀ us:List Value,us.length=5→P us
 | [a,b,c,d,e],_=>h a b c d e
theorem len6 {P:List Value→Prop} (h:∀ a b c d e f,P [a,b,c,d,e,f]):∀ us:List Value,us.length=6→P us
 | [a,b,c,d,e,f],_=>h a b c d e f
def FA (K:PySem.W.Frag) (f:Addr) (x q:Str) (st:Stmt):Prop:=∃ fd,Fun K x q st f fd
theorem aQ {K:PySem.W.Frag}{mg:Str→Option Value}{x q:Str}{st:Stmt}{ps:List Str}{f:Addr} (h:FA K f x q st) (b:∀ (kV doc pm:Value) (an:Option Addr) (cdv ct:Value) (us:List Value),us.length=ps.length→bindArgs (fnOf x q (pE st) (i0 st) (ao st) .none kV doc pm an cdv ct) ⟨us,[]⟩=pure (ps.zip us)) (m:mg x=some (.ref f)):Src K mg x q st ps:=let ⟨_,F⟩:=h;⟨f,_,F,F.binds b,m⟩
theorem uh {K:PySem.W.Frag}{f:Addr}{fd:FuncData} (F:Fun K "law" "law" s_law f fd) (s:Shared) (v:Value):BindsTo s fd ⟨[v],[]⟩ [("script",v)]:=by
 obtain ⟨_,_,_,_,_,_,_,_,_,rfl,_,_⟩:=F.ex
 exact .of_eq rfl
theorem all_mk {l:PySem.W.OpenLaw}{w:World}{K:PySem.W.Frag}{h:Heap}{mg:Str→Option Value}{fa C CC pa f1 f2 f3 f4 f5 f6 f7 f8 f9 f10 f11 f12 f13 f14 f15 f16 f17 f18 f19 f20 f21 f22 f23 f24 f25 f26 f27 f28 f29 f30 f31 f32 f33 f34 f35 f36 f37 f38 f39 f40 f41 f42 f43 f44 f45 f46 f47 f48 f49 f50 f51 f52 f53 f54 f55 f56 f57 f58 f59 f60 f61 f62 f63 f64 f65 f66 f67:Addr} (X:K.In h) (G:h.Ns mainGlobals mg) (hfa:mg "law"=some (.ref fa))
  {fF tu1 tu2 tu3 tu4 tu5 tu6 tu7 tu8:Addr}{tkM tk1 tk2 tk3 tk4 tk5 tk6 tk7 tk8:Tok}{dt1:Option Addr}{it1:Array Value}{nt1:Nat}{st1:Array (Option Value)}{dt2:Option Addr}{it2:Array Value}{nt2:Nat}{st2:Array (Option Value)}{dt3:Option Addr}{it3:Array Value}{nt3:Nat}{st3:Array (Option Value)}{dt4:Option Addr}{it4:Array Value}{nt4:Nat}{st4:Array (Option Value)}{dt5:Option Addr}{it5:Array Value}{nt5:Nat}{st5:Array (Option Value)}{dt6:Option Addr}{it6:Array Value}{nt6:Nat}{st6:Array (Option Value)}{dt7:Option Addr}{it7:Array Value}{nt7:Nat}{st7:Array (Option Value)}{dt8:Option Addr}{it8:Array Value}{nt8:Nat}{st8:Array (Option Value)}
  {zN xy:Addr}{yW zO:Str}{yX yf yM:List Value}{yY yZ:Bool}{y0:List Str}{yN:Option Bool}{y1:Option Addr}{y2 y3 y4 y6 y8:Option Value}
  {Ar xM:Addr}{zP As:Str}{zQ yz y9:List Value}{zR zS:Bool}{zT:List Str}{za:Option Bool}{zU:Option Addr}{zV zW zX zY zZ:Option Value}
  {z5 xE:Addr}{zb z9:Str}{zc yg yO:List Value}{ze zf:Bool}{zg:List Str}{yP:Option Bool}{zh:Option Addr}{zi zj zk zm zn:Option Value}
  {Aa xF:Addr}{zp Ab:Str}{zq yh yQ:List Value}{zr zt:Bool}{zu:List Str}{yR:Option Bool}{zw:Option Addr}{zx zy zB zC zD:Option Value}
  {At xN:Addr}{Ac Au:Str}{Ad yA zE:List Value}{Ae Af:Bool}{Ag:List Str}{zF:Option Bool}{Ah:Option Addr}{Ai Aj Ak Al Am:Option Value}
  {Ba xJ:Addr}{AC Bb:Str}{AD yB Av:List Value}{AE AF:Bool}{AG:List Str}{Aw:Option Bool}{AH:Option Addr}{AI AJ AK AL AM:Option Value}
  {ddp:Option Addr}{its:Array Value}{np:Nat}{slp:Array (Option Value)}
  (a1:nsIn K mainGlobals "is_table"=some (some (.ref f1)))
  (h1:FA K f1 "is_table" "is_table" gx)
  (a2:nsIn K mainGlobals "back"=some (some (.ref f2)))
  (h2:FA K f2 "back" "back" pU)
  (a3:nsIn K mainGlobals "worth"=some (some (.ref f3)))
  (h3:FA K f3 "worth" "worth" lU)
  (a4:nsIn K mainGlobals "refuse_alike"=some (some (.ref f4)))
  (h4:FA K f4 "refuse_alike" "refuse_alike" c8)
  (a5:nsIn K mainGlobals "with_nought_at"=some (some (.ref f5)))
  (h5:FA K f5 "with_nought_at" "with_nought_at" cv)
  (a6:nsIn K mainGlobals "through"=some (some (.ref f6)))
  (h6:FA K f6 "through" "through" im)
  (a7:nsIn K mainGlobals "weight"=some (some (.ref f7)))
  (h7:FA K f7 "weight" "weight" jy)
  (a8:nsIn K mainGlobals "weights"=some (some (.ref f8)))
  (h8:FA K f8 "weights" "weights" ij)
  (a9:nsIn K mainGlobals "dealt"=some (some (.ref f9)))
  (h9:FA K f9 "dealt" "dealt" lY)
  (a10:nsIn K mainGlobals "is_number"=some (some (.ref f10)))
  (h10:FA K f10 "is_number" "is_number" fq)
  (a11:nsIn K mainGlobals "are_numbers"=some (some (.ref f11)))
  (h11:FA K f11 "are_numbers" "are_numbers" dH)
  (a12:nsIn K mainGlobals "fits"=some (some (.ref f12)))
  (h12:FA K f12 "fits" "fits" pS)
  (a13:nsIn K mainGlobals "is_right_step"=some (some (.ref f13)))
  (h13:FA K f13 "is_right_step" "is_right_step" cM)
  (a14:nsIn K mainGlobals "right"=some (some (.ref f14)))
  (h14:FA K f14 "right" "right" lV)
  (a15:nsIn K mainGlobals "refuse_steps"=some (some (.ref f15)))
  (h15:FA K f15 "refuse_steps" "refuse_steps" cY)
  (a16:nsIn K mainGlobals "all_hands"=some (some (.ref f16)))
  (h16:FA K f16 "all_hands" "all_hands" fz)
  (a17:nsIn K mainGlobals "dealers"=some (some (.ref f17)))
  (h17:FA K f17 "dealers" "dealers" iq)
  (a18:nsIn K mainGlobals "needs"=some (some (.ref f18)))
  (h18:FA K f18 "needs" "needs" lX)
  (a19:nsIn K mainGlobals "uses"=some (some (.ref f19)))
  (h19:FA K f19 "uses" "uses" pQ)
  (a20:nsIn K mainGlobals "are_inputs"=some (some (.ref f20)))
  (h20:FA K f20 "are_inputs" "are_inputs" eu)
  (a21:nsIn K mainGlobals "refuse_inputs"=some (some (.ref f21)))
  (h21:FA K f21 "refuse_inputs" "refuse_inputs" cG)
  (a22:nsIn K mainGlobals "input_at"=some (some (.ref f22)))
  (h22:FA K f22 "input_at" "input_at" gy)
  (a23:nsIn K mainGlobals "reckoned"=some (some (.ref f23)))
  (h23:FA K f23 "reckoned" "reckoned" gu)
  (a24:nsIn K mainGlobals "plain"=some (some (.ref f24)))
  (h24:FA K f24 "plain" "plain" lW)
  (a25:nsIn K mainGlobals "refuse_chance"=some (some (.ref f25)))
  (h25:FA K f25 "refuse_chance" "refuse_chance" cJ)
  (a26:nsIn K mainGlobals "refuse_run"=some (some (.ref f26)))
  (h26:FA K f26 "refuse_run" "refuse_run" dZ)
  (a27:nsIn K mainGlobals "chance_by_step"=some (some (.ref f27)))
  (h27:FA K f27 "chance_by_step" "chance_by_step" cz)
  (a28:nsIn K mainGlobals "weighed"=some (some (.ref f28)))
  (h28:FA K f28 "weighed" "weighed" ik)
  (a29:nsIn K mainGlobals "letters_of"=some (some (.ref f29)))
  (h29:FA K f29 "letters_of" "letters_of" ee)
  (a30:nsIn K mainGlobals "run"=some (some (.ref f30)))
  (h30:FA K f30 "run" "run" s_run)
  (a31:nsIn K mainGlobals "are_rising_hands"=some (some (.ref f31)))
  (h31:FA K f31 "are_rising_hands" "are_rising_hands" bV)
  (a32:nsIn K mainGlobals "refuse_hands"=some (some (.ref f32)))
  (h32:FA K f32 "refuse_hands" "refuse_hands" cZ)
  (a33:nsIn K mainGlobals "inputs_used"=some (some (.ref f33)))
  (h33:FA K f33 "inputs_used" "inputs_used" dF)
  (a34:nsIn K mainGlobals "chance_used"=some (some (.ref f34)))
  (h34:FA K f34 "chance_used" "chance_used" dG)
  (a35:nsIn K mainGlobals "seen"=some (some (.ref f35)))
  (h35:FA K f35 "seen" "seen" pR)
  (a36:nsIn K mainGlobals "veil"=some (some (.ref f36)))
  (h36:FA K f36 "veil" "veil" pP)
  (a37:nsIn K mainGlobals "numbers_opened"=some (some (.ref f37)))
  (h37:FA K f37 "numbers_opened" "numbers_opened" cw)
  (a38:nsIn K mainGlobals "agree"=some (some (.ref f38)))
  (h38:FA K f38 "agree" "agree" lZ)
  (a39:nsIn K mainGlobals "veiled"=some (some (.ref f39)))
  (h39:FA K f39 "veiled" "veiled" jz)
  (a40:nsIn K mainGlobals "exchanged_rows"=some (some (.ref f40)))
  (h40:FA K f40 "exchanged_rows" "exchanged_rows" cy)
  (a41:nsIn K mainGlobals "exchanged"=some (some (.ref f41)))
  (h41:FA K f41 "exchanged" "exchanged" fu)
  (a42:nsIn K mainGlobals "_law_cell_at"=some (some (.ref f42)))
  (h42:FA K f42 "_law_cell_at" "_law_cell_at" dE)
  (a43:nsIn K mainGlobals "_law_mix"=some (some (.ref f43)))
  (h43:FA K f43 "_law_mix" "_law_mix" ip)
  (a44:nsIn K mainGlobals "_law_whole"=some (some (.ref f44)))
  (h44:FA K f44 "_law_whole" "_law_whole" fc)
  (a45:nsIn K mainGlobals "_law_table_by"=some (some (.ref f45)))
  (h45:FA K f45 "_law_table_by" "_law_table_by" c9)
  (a46:nsIn K mainGlobals "_law_step_by"=some (some (.ref f46)))
  (h46:FA K f46 "_law_step_by" "_law_step_by" dB)
  (a47:nsIn K mainGlobals "_law_steps_by"=some (some (.ref f47)))
  (h47:FA K f47 "_law_steps_by" "_law_steps_by" dc)
  (a48:nsIn K mainGlobals "_law_used"=some (some (.ref f48)))
  (h48:FA K f48 "_law_used" "_law_used" gw)
  (a49:nsIn K mainGlobals "_law_inputs_by"=some (some (.ref f49)))
  (h49:FA K f49 "_law_inputs_by" "_law_inputs_by" cK)
  (a50:nsIn K mainGlobals "_law_needs"=some (some (.ref f50)))
  (h50:FA K f50 "_law_needs" "_law_needs" fj)
  (a51:nsIn K mainGlobals "_law_plain"=some (some (.ref f51)))
  (h51:FA K f51 "_law_plain" "_law_plain" fh)
  (a52:nsIn K mainGlobals "_law_quiet"=some (some (.ref f52)))
  (h52:FA K f52 "_law_quiet" "_law_quiet" fg)
  (a53:nsIn K mainGlobals "_law_some_by"=some (some (.ref f53)))
  (h53:FA K f53 "_law_some_by" "_law_some_by" dC)
  (a54:nsIn K mainGlobals "_law_pair_by"=some (some (.ref f54)))
  (h54:FA K f54 "_law_pair_by" "_law_pair_by" dD)
  (a55:nsIn K mainGlobals "_law_agree"=some (some (.ref f55)))
  (h55:FA K f55 "_law_agree" "_law_agree" fk)
  (a56:nsIn K mainGlobals "_law_chance_by"=some (some (.ref f56)))
  (h56:FA K f56 "_law_chance_by" "_law_chance_by" cL)
  (a57:nsIn K mainGlobals "_law_exchange"=some (some (.ref f57)))
  (h57:FA K f57 "_law_exchange" "_law_exchange" de)
  (a58:nsIn K mainGlobals "law"=some (some (.ref f58)))
  (h58:FA K f58 "law" "law" s_law)
  (aC:nsIn K mainGlobals "Table"=some (some (.ref C)))
  (a59:findIn K (.ref C) "__init__"=some (some (.ref f59))) (i59:isFn K (.ref f59)=true)
  (h59:FA K f59 "__init__" "Table.__init__" gf)
  (aCC:nsIn K mainGlobals "Course"=some (some (.ref CC)))
  (a60:findIn K (.ref CC) "__init__"=some (some (.ref f60))) (i60:isFn K (.ref f60)=true)
  (h60:FA K f60 "__init__" "Course.__init__" fA)
  (a61:findIn K (.ref CC) "coming_step"=some (some (.ref f61))) (i61:isFn K (.ref f61)=true)
  (h61:FA K f61 "coming_step" "Course.coming_step" cj)
  (a62:findIn K (.ref CC) "own_shares"=some (some (.ref f62))) (i62:isFn K (.ref f62)=true)
  (h62:FA K f62 "own_shares" "Course.own_shares" cA)
  (a63:findIn K (.ref CC) "numbers_to_deal"=some (some (.ref f63))) (i63:isFn K (.ref f63)=true)
  (h63:FA K f63 "numbers_to_deal" "Course.numbers_to_deal" bL)
  (a64:findIn K (.ref CC) "new_share"=some (some (.ref f64))) (i64:isFn K (.ref f64)=true)
  (h64:FA K f64 "new_share" "Course.new_share" cO)
  (a65:findIn K (.ref CC) "send_letters"=some (some (.ref f65))) (i65:isFn K (.ref f65)=true)
  (h65:FA K f65 "send_letters" "Course.send_letters" bW)
  (a66:findIn K (.ref CC) "go_on"=some (some (.ref f66))) (i66:isFn K (.ref f66)=true)
  (h66:FA K f66 "go_on" "Course.go_on" eI)
  (a67:findIn K (.ref CC) "opened"=some (some (.ref f67))) (i67:isFn K (.ref f67)=true)
  (h67:FA K f67 "opened" "Course.opened" dO)
  (pg:PySem.W.plainGet K C Str.empty=true) (hd:PySem.W.hasDictIn K C=true) (po:PySem.W.plainOver K C=true) (sa:findIn K (.ref C) "__setattr__"=some (some (.builtin "object.__setattr__"))) (mk:PySem.W.makesIn K C=true) (kc:keepIn K (.ref C)=true)
  (nP:findIn K (.ref C) "prime"=some none) (nH:findIn K (.ref C) "hands"=some none) (nF:findIn K (.ref C) "few"=some none)
  (ap:nsIn K mainGlobals "PRIMES"=some (some (.ref pa))) (lp:K.lookup pa=some ⟨.type "tuple",ddp,.seq its np,slp⟩) (vp:Vals (primes9.map V.int) its.toList)
  (cpg:PySem.W.plainGet K CC Str.empty=true) (chd:PySem.W.hasDictIn K CC=true) (cpo:PySem.W.plainOver K CC=true) (csa:findIn K (.ref CC) "__setattr__"=some (some (.builtin "object.__setattr__"))) (cmk:PySem.W.makesIn K CC=true) (ckc:keepIn K (.ref CC)=true)
  (cn_table:findIn K (.ref CC) "table"=some none)
  (cn_steps:findIn K (.ref CC) "steps"=some none)
  (cn_inputs:findIn K (.ref CC) "inputs"=some none)
  (cn_parts:findIn K (.ref CC) "parts"=some none)
  (cn_shares:findIn K (.ref CC) "shares"=some none)
  (cn_letters:findIn K (.ref CC) "letters"=some none)
  (aF:nsIn K mainGlobals "FORMS"=some (some (.ref fF))) (lF:K.lookup fF=some { cls:=.type "dict",data:=.dict #[{ hash:=PyData.keyHash w.params (Str.ofString "in"),key:=.str (Str.ofString "in") tk1,val:=.ref tu1 },{ hash:=PyData.keyHash w.params (Str.ofString "fix"),key:=.str (Str.ofString "fix") tk2,val:=.ref tu2 },{ hash:=PyData.keyHash w.params (Str.ofString "sum"),key:=.str (Str.ofString "sum") tk3,val:=.ref tu3 },{ hash:=PyData.keyHash w.params (Str.ofString "less"),key:=.str (Str.ofString "less") tk4,val:=.ref tu4 },{ hash:=PyData.keyHash w.params (Str.ofString "by"),key:=.str (Str.ofString "by") tk5,val:=.ref tu5 },{ hash:=PyData.keyHash w.params (Str.ofString "mul"),key:=.str (Str.ofString "mul") tk6,val:=.ref tu6 },{ hash:=PyData.keyHash w.params (Str.ofString "anew"),key:=.str (Str.ofString "anew") tk7,val:=.ref tu7 },{ hash:=PyData.keyHash w.params (Str.ofString "open"),key:=.str (Str.ofString "open") tk8,val:=.ref tu8 }] 8 }) (sF:(fF == sysModules)=false)
  (lt1:K.lookup tu1=some ⟨.type "tuple",dt1,.seq it1 nt1,st1⟩) (vt1:Vals [V.str "hand"] it1.toList)
  (lt2:K.lookup tu2=some ⟨.type "tuple",dt2,.seq it2 nt2,st2⟩) (vt2:Vals [V.str "number"] it2.toList)
  (lt3:K.lookup tu3=some ⟨.type "tuple",dt3,.seq it3 nt3,st3⟩) (vt3:Vals [V.str "step",V.str "step"] it3.toList)
  (lt4:K.lookup tu4=some ⟨.type "tuple",dt4,.seq it4 nt4,st4⟩) (vt4:Vals [V.str "step",V.str "step"] it4.toList)
  (lt5:K.lookup tu5=some ⟨.type "tuple",dt5,.seq it5 nt5,st5⟩) (vt5:Vals [V.str "step",V.str "number"] it5.toList)
  (lt6:K.lookup tu6=some ⟨.type "tuple",dt6,.seq it6 nt6,st6⟩) (vt6:Vals [V.str "step",V.str "step"] it6.toList)
  (lt7:K.lookup tu7=some ⟨.type "tuple",dt7,.seq it7 nt7,st7⟩) (vt7:Vals [V.str "step"] it7.toList)
  (lt8:K.lookup tu8=some ⟨.type "tuple",dt8,.seq it8 nt8,st8⟩) (vt8:Vals [V.str "step"] it8.toList)
  (aM:nsIn K mainGlobals "MOST_STEPS"=some (some (.int 24 tkM)))
  (x_VeilError:nsIn K mainGlobals "VeilError"=some (some (.ref xy))) (o_VeilError:K.lookup xy=some (PySem.excClassObj yW zO xy zN yX yf yY y0 yM yZ yN y1 y2 y3 y4 y6 y8 "ValueError.__new__"))
  (e_VeilError:excIn K xy vErr "ValueError.__new__"=true)
  (x_BadSteps:nsIn K mainGlobals "BadSteps"=some (some (.ref xM))) (o_BadSteps:K.lookup xM=some (PySem.excClassObj zP As xM Ar zQ yz zR zT y9 zS za zU zV zW zX zY zZ "ValueError.__new__"))
  (e_BadSteps:excIn K xM vErr "ValueError.__new__"=true)
  (x_BadInputs:nsIn K mainGlobals "BadInputs"=some (some (.ref xE))) (o_BadInputs:K.lookup xE=some (PySem.excClassObj zb z9 xE z5 zc yg ze zg yO zf yP zh zi zj zk zm zn "ValueError.__new__"))
  (e_BadInputs:excIn K xE vErr "ValueError.__new__"=true)
  (x_BadChance:nsIn K mainGlobals "BadChance"=some (some (.ref xF))) (o_BadChance:K.lookup xF=some (PySem.excClassObj zp Ab xF Aa zq yh zr zu yQ zt yR zw zx zy zB zC zD "ValueError.__new__"))
  (e_BadChance:excIn K xF vErr "ValueError.__new__"=true)
  (x_BadHands:nsIn K mainGlobals "BadHands"=some (some (.ref xN))) (o_BadHands:K.lookup xN=some (PySem.excClassObj Ac Au xN At Ad yA Ae Ag zE Af zF Ah Ai Aj Ak Al Am "ValueError.__new__"))
  (e_BadHands:excIn K xN vErr "ValueError.__new__"=true)
  (x_NoVeil:nsIn K mainGlobals "NoVeil"=some (some (.ref xJ))) (o_NoVeil:K.lookup xJ=some (PySem.excClassObj AC Bb xJ Ba AD yB AE AG Av AF Aw AH AI AJ AK AL AM "ValueError.__new__"))
  (e_NoVeil:excIn K xJ vErr "ValueError.__new__"=true)
  (kt_NoVeil_VeilError:kitOne K (.ref xJ) (.ref xy)=some true)
  (in_NoVeil_NoVeil:(Value.ref xJ::yB).contains (.ref xJ)=true)
  (z_len:nsIn K mainGlobals "len"=some none)
  (z_range:nsIn K mainGlobals "range"=some none)
  (z_isinstance:nsIn K mainGlobals "isinstance"=some none)
  (z_min:nsIn K mainGlobals "min"=some none)
  (z_list:nsIn K mainGlobals "list"=some none)
  (z_int:nsIn K mainGlobals "int"=some none)
  (z_bool:nsIn K mainGlobals "bool"=some none)
  (z_tuple:nsIn K mainGlobals "tuple"=some none)
  (z_reversed:nsIn K mainGlobals "reversed"=some none)
  (z_zip:nsIn K mainGlobals "zip"=some none)
  (z_set:nsIn K mainGlobals "set"=some none)
  (z_all:nsIn K mainGlobals "all"=some none)
  (z_sum:nsIn K mainGlobals "sum"=some none)
  (z_sorted:nsIn K mainGlobals "sorted"=some none)
  (z_enumerate:nsIn K mainGlobals "enumerate"=some none) :
  ∃ fd:FuncData,(∀ (s:Shared) (v:Value),BindsTo s fd ⟨[v],[]⟩ [("script",v)])∧∀ base:Heap,K.In base→base.Ns mainGlobals mg→ju l.prog w K mg base CX0 12 fa fd ["script"] (spLaw K):=by
 have e:=hfa.symm.trans (mg_of X G a58)
 cases e
 have e5:Src K mg "is_table" "is_table" gx ["prime","hands","few"]:=aQ h1 (fun _ _ _ _ _ _=>jB fun _ _ _=>rfl) (mg_of X G a1)
 have iv:Src K mg "back" "back" pU ["table","number"]:=aQ h2 (fun _ _ _ _ _ _=>mx fun _ _=>rfl) (mg_of X G a2)
 have hy:Src K mg "worth" "worth" lU ["table","row","at"]:=aQ h3 (fun _ _ _ _ _ _=>jB fun _ _ _=>rfl) (mg_of X G a3)
 have c5:Src K mg "refuse_alike" "refuse_alike" c8 ["table","points"]:=aQ h4 (fun _ _ _ _ _ _=>mx fun _ _=>rfl) (mg_of X G a4)
 have cb:Src K mg "with_nought_at" "with_nought_at" cv ["table","row","at"]:=aQ h5 (fun _ _ _ _ _ _=>jB fun _ _ _=>rfl) (mg_of X G a5)
 have fx:Src K mg "through" "through" im ["table","points"]:=aQ h6 (fun _ _ _ _ _ _=>mx fun _ _=>rfl) (mg_of X G a6)
 have g6:Src K mg "weight" "weight" jy ["table","hand"]:=aQ h7 (fun _ _ _ _ _ _=>mx fun _ _=>rfl) (mg_of X G a7)
 have fo:Src K mg "weights" "weights" ij ["table"]:=aQ h8 (fun _ _ _ _ _ _=>len1 fun _=>rfl) (mg_of X G a8)
 have h0:Src K mg "dealt" "dealt" lY ["table","number","chance"]:=aQ h9 (fun _ _ _ _ _ _=>jB fun _ _ _=>rfl) (mg_of X G a9)
 have ek:Src K mg "is_number" "is_number" fq ["table","value"]:=aQ h10 (fun _ _ _ _ _ _=>mx fun _ _=>rfl) (mg_of X G a10)
 have di:Src K mg "are_numbers" "are_numbers" dH ["table","values"]:=aQ h11 (fun _ _ _ _ _ _=>mx fun _ _=>rfl) (mg_of X G a11)
 have is:Src K mg "fits" "fits" pS ["table","place","kind","value"]:=aQ h12 (fun _ _ _ _ _ _=>len4 fun _ _ _ _=>rfl) (mg_of X G a12)
 have cu:Src K mg "is_right_step" "is_right_step" cM ["table","place","step"]:=aQ h13 (fun _ _ _ _ _ _=>jB fun _ _ _=>rfl) (mg_of X G a13)
 have hr:Src K mg "right" "right" lV ["table","steps"]:=aQ h14 (fun _ _ _ _ _ _=>mx fun _ _=>rfl) (mg_of X G a14)
 have c4:Src K mg "refuse_steps" "refuse_steps" cY ["table","steps"]:=aQ h15 (fun _ _ _ _ _ _=>mx fun _ _=>rfl) (mg_of X G a15)
 have et:Src K mg "all_hands" "all_hands" fz ["table"]:=aQ h16 (fun _ _ _ _ _ _=>len1 fun _=>rfl) (mg_of X G a16)
 have fv:Src K mg "dealers" "dealers" iq ["table","step"]:=aQ h17 (fun _ _ _ _ _ _=>mx fun _ _=>rfl) (mg_of X G a17)
 have hk:Src K mg "needs" "needs" lX ["table","steps"]:=aQ h18 (fun _ _ _ _ _ _=>mx fun _ _=>rfl) (mg_of X G a18)
 have i1:Src K mg "uses" "uses" pQ ["steps","hand"]:=aQ h19 (fun _ _ _ _ _ _=>mx fun _ _=>rfl) (mg_of X G a19)
 have eb:Src K mg "are_inputs" "are_inputs" eu ["table","steps","inputs"]:=aQ h20 (fun _ _ _ _ _ _=>jB fun _ _ _=>rfl) (mg_of X G a20)
 have cx:Src K mg "refuse_inputs" "refuse_inputs" cG ["table","steps","inputs"]:=aQ h21 (fun _ _ _ _ _ _=>jB fun _ _ _=>rfl) (mg_of X G a21)
 have e7:Src K mg "input_at" "input_at" gy ["steps","place","inputs"]:=aQ h22 (fun _ _ _ _ _ _=>jB fun _ _ _=>rfl) (mg_of X G a22)
 have e8:Src K mg "reckoned" "reckoned" gu ["table","step","before"]:=aQ h23 (fun _ _ _ _ _ _=>jB fun _ _ _=>rfl) (mg_of X G a23)
 have hq:Src K mg "plain" "plain" lW ["table","steps","inputs"]:=aQ h24 (fun _ _ _ _ _ _=>jB fun _ _ _=>rfl) (mg_of X G a24)
 have ct:Src K mg "refuse_chance" "refuse_chance" cJ ["table","steps","chance"]:=aQ h25 (fun _ _ _ _ _ _=>jB fun _ _ _=>rfl) (mg_of X G a25)
 have d8:Src K mg "refuse_run" "refuse_run" dZ ["table","steps","inputs","chance"]:=aQ h26 (fun _ _ _ _ _ _=>len4 fun _ _ _ _=>rfl) (mg_of X G a26)
 have ck:Src K mg "chance_by_step" "chance_by_step" cz ["table","steps","chance"]:=aQ h27 (fun _ _ _ _ _ _=>jB fun _ _ _=>rfl) (mg_of X G a27)
 have fb:Src K mg "weighed" "weighed" ik ["table","parts","numbers"]:=aQ h28 (fun _ _ _ _ _ _=>jB fun _ _ _=>rfl) (mg_of X G a28)
 have d6:Src K mg "letters_of" "letters_of" ee ["place","senders","rows"]:=aQ h29 (fun _ _ _ _ _ _=>jB fun _ _ _=>rfl) (mg_of X G a29)
 have i2:Src K mg "run" "run" s_run ["table","steps","inputs","chance"]:=aQ h30 (fun _ _ _ _ _ _=>len4 fun _ _ _ _=>rfl) (mg_of X G a30)
 have b1:Src K mg "are_rising_hands" "are_rising_hands" bV ["table","some"]:=aQ h31 (fun _ _ _ _ _ _=>mx fun _ _=>rfl) (mg_of X G a31)
 have da:Src K mg "refuse_hands" "refuse_hands" cZ ["table","some"]:=aQ h32 (fun _ _ _ _ _ _=>mx fun _ _=>rfl) (mg_of X G a32)
 have d4:Src K mg "inputs_used" "inputs_used" dF ["steps","inputs","some"]:=aQ h33 (fun _ _ _ _ _ _=>jB fun _ _ _=>rfl) (mg_of X G a33)
 have dt:Src K mg "chance_used" "chance_used" dG ["table","steps","chance","some"]:=aQ h34 (fun _ _ _ _ _ _=>len4 fun _ _ _ _=>rfl) (mg_of X G a34)
 have io:Src K mg "seen" "seen" pR ["table","steps","inputs","chance","some"]:=aQ h35 (fun _ _ _ _ _ _=>len5 fun _ _ _ _ _=>rfl) (mg_of X G a35)
 have ib:Src K mg "veil" "veil" pP ["table","some"]:=aQ h36 (fun _ _ _ _ _ _=>mx fun _ _=>rfl) (mg_of X G a36)
 have cf:Src K mg "numbers_opened" "numbers_opened" cw ["table","steps","inputs"]:=aQ h37 (fun _ _ _ _ _ _=>jB fun _ _ _=>rfl) (mg_of X G a37)
 have ia:Src K mg "agree" "agree" lZ ["table","steps","inputs","others","some"]:=aQ h38 (fun _ _ _ _ _ _=>len5 fun _ _ _ _ _=>rfl) (mg_of X G a38)
 have g5:Src K mg "veiled" "veiled" jz ["table","cover","row","difference"]:=aQ h39 (fun _ _ _ _ _ _=>len4 fun _ _ _ _=>rfl) (mg_of X G a39)
 have cc:Src K mg "exchanged_rows" "exchanged_rows" cy ["cover","some","rows","here","there"]:=aQ h40 (fun _ _ _ _ _ _=>len5 fun _ _ _ _ _=>rfl) (mg_of X G a40)
 have ej:Src K mg "exchanged" "exchanged" fu ["table","steps","inputs","others","chance","some"]:=aQ h41 (fun _ _ _ _ _ _=>len6 fun _ _ _ _ _ _=>rfl) (mg_of X G a41)
 have d3:Src K mg "_law_cell_at" "_law_cell_at" dE ["script","k"]:=aQ h42 (fun _ _ _ _ _ _=>mx fun _ _=>rfl) (mg_of X G a42)
 have ft:Src K mg "_law_mix" "_law_mix" ip ["cell","k","many"]:=aQ h43 (fun _ _ _ _ _ _=>jB fun _ _ _=>rfl) (mg_of X G a43)
 have ei:Src K mg "_law_whole" "_law_whole" fc ["found"]:=aQ h44 (fun _ _ _ _ _ _=>len1 fun _=>rfl) (mg_of X G a44)
 have c0:Src K mg "_law_table_by" "_law_table_by" c9 ["cell"]:=aQ h45 (fun _ _ _ _ _ _=>len1 fun _=>rfl) (mg_of X G a45)
 have d1:Src K mg "_law_step_by" "_law_step_by" dB ["cell","at","table"]:=aQ h46 (fun _ _ _ _ _ _=>jB fun _ _ _=>rfl) (mg_of X G a46)
 have c2:Src K mg "_law_steps_by" "_law_steps_by" dc ["script","start","many","table"]:=aQ h47 (fun _ _ _ _ _ _=>len4 fun _ _ _ _=>rfl) (mg_of X G a47)
 have e0:Src K mg "_law_used" "_law_used" gw ["steps","hand"]:=aQ h48 (fun _ _ _ _ _ _=>mx fun _ _=>rfl) (mg_of X G a48)
 have cr:Src K mg "_law_inputs_by" "_law_inputs_by" cK ["cell","steps","table"]:=aQ h49 (fun _ _ _ _ _ _=>jB fun _ _ _=>rfl) (mg_of X G a49)
 have em:Src K mg "_law_needs" "_law_needs" fj ["steps","table"]:=aQ h50 (fun _ _ _ _ _ _=>mx fun _ _=>rfl) (mg_of X G a50)
 have el:Src K mg "_law_plain" "_law_plain" fh ["prime","steps","inputs"]:=aQ h51 (fun _ _ _ _ _ _=>jB fun _ _ _=>rfl) (mg_of X G a51)
 have eo:Src K mg "_law_quiet" "_law_quiet" fg ["steps"]:=aQ h52 (fun _ _ _ _ _ _=>len1 fun _=>rfl) (mg_of X G a52)
 have dl:Src K mg "_law_some_by" "_law_some_by" dC ["cell","table","without"]:=aQ h53 (fun _ _ _ _ _ _=>jB fun _ _ _=>rfl) (mg_of X G a53)
 have d2:Src K mg "_law_pair_by" "_law_pair_by" dD ["script","table","many"]:=aQ h54 (fun _ _ _ _ _ _=>jB fun _ _ _=>rfl) (mg_of X G a54)
 have eg:Src K mg "_law_agree" "_law_agree" fk ["prime","steps","inputs","others","some"]:=aQ h55 (fun _ _ _ _ _ _=>len5 fun _ _ _ _ _=>rfl) (mg_of X G a55)
 have cl:Src K mg "_law_chance_by" "_law_chance_by" cL ["cell","steps","table"]:=aQ h56 (fun _ _ _ _ _ _=>jB fun _ _ _=>rfl) (mg_of X G a56)
 have c7:Src K mg "_law_exchange" "_law_exchange" de ["table","steps","inputs","others","chance","some"]:=aQ h57 (fun _ _ _ _ _ _=>len6 fun _ _ _ _ _ _=>rfl) (mg_of X G a57)
 obtain ⟨js,g8⟩:=h58
 obtain ⟨_,fe⟩:=h59
 have it:=fe.binds (ps:=["self","prime","hands","few"]) fun _ _ _ _ _ _=>len4 fun _ _ _ _=>rfl
 have TT:Tab K C:=⟨⟨pg,hd,po,sa⟩,nP,nH,nF⟩
 have M:Mk K C f59:=⟨mk,a59,i59,kc⟩
 have mC:=mg_of X G aC
 have TP:Pri K mg pa:=pri_mk (mg_of X G ap) lp vp
 have TC:sr K CC:=⟨⟨cpg,chd,cpo,csa⟩,cn_table,cn_steps,cn_inputs,cn_parts,cn_shares,cn_letters⟩
 have jo:=mg_of X G aCC
 obtain ⟨_,bf⟩:=h60
 have dy:=bf.binds (ps:=["self","table","steps","inputs"]) fun _ _ _ _ _ _=>len4 fun _ _ _ _=>rfl
 have MC:Mk K CC f60:=⟨cmk,a60,i60,ckc⟩
 obtain ⟨_,I⟩:=h61
 have ba:=I.binds (ps:=["self"]) fun _ _ _ _ _ _=>len1 fun _=>rfl
 have d0:uW K CC "coming_step" f61:=⟨a61,i61,I.kp⟩
 obtain ⟨_,J⟩:=h62
 have bz:=J.binds (ps:=["self","hand"]) fun _ _ _ _ _ _=>mx fun _ _=>rfl
 have ed:uW K CC "own_shares" f62:=⟨a62,i62,J.kp⟩
 obtain ⟨_,q⟩:=h63
 have ag:=q.binds (ps:=["self"]) fun _ _ _ _ _ _=>len1 fun _=>rfl
 have b2:uW K CC "numbers_to_deal" f63:=⟨a63,i63,q.kp⟩
 obtain ⟨_,O⟩:=h64
 have b0:=O.binds (ps:=["self","hand","rows"]) fun _ _ _ _ _ _=>jB fun _ _ _=>rfl
 have eh:uW K CC "new_share" f64:=⟨a64,i64,O.kp⟩
 obtain ⟨_,F⟩:=h65
 have an:=F.binds (ps:=["self","step","made","rows"]) fun _ _ _ _ _ _=>len4 fun _ _ _ _=>rfl
 have c1:uW K CC "send_letters" f65:=⟨a65,i65,F.kp⟩
 obtain ⟨_,af⟩:=h66
 have c6:=af.binds (ps:=["self","chance_rows"]) fun _ _ _ _ _ _=>mx fun _ _=>rfl
 have ho:uW K CC "go_on" f66:=⟨a66,i66,af.kp⟩
 obtain ⟨_,ab⟩:=h67
 have cp:=ab.binds (ps:=["self"]) fun _ _ _ _ _ _=>len1 fun _=>rfl
 have go:uW K CC "opened" f67:=⟨a67,i67,ab.kp⟩
 have FR:Frm l.prog w K mg fF (ql tu1 tu2 tu3 tu4 tu5 tu6 tu7 tu8):=frm_mk (mg_of X G aF) sF lF (fun H=>i6 lt1 vt1 (by decide) H) (fun H=>i6 lt2 vt2 (by decide) H) (fun H=>i6 lt3 vt3 (by decide) H) (fun H=>i6 lt4 vt4 (by decide) H) (fun H=>i6 lt5 vt5 (by decide) H) (fun H=>i6 lt6 vt6 (by decide) H) (fun H=>i6 lt7 vt7 (by decide) H) (fun H=>i6 lt8 vt8 (by decide) H)
 have gM:mg "MOST_STEPS"=some (.int 24 tkM):=mg_of X G aM
 have B:Blt mg:=⟨mg_none_of X G z_len,mg_none_of X G z_range,mg_none_of X G z_isinstance,mg_none_of X G z_min,mg_none_of X G z_list,mg_none_of X G z_int,mg_none_of X G z_bool,mg_none_of X G z_tuple,mg_none_of X G z_reversed,mg_none_of X G z_zip,mg_none_of X G z_set,mg_none_of X G z_all,mg_none_of X G z_sum,mg_none_of X G z_sorted,mg_none_of X G z_enumerate⟩
 have ev:Exc K mg "VeilError" xy yf:=kY (mg_of X G x_VeilError) o_VeilError e_VeilError
 have e1:Exc K mg "BadSteps" xM yz:=kY (mg_of X G x_BadSteps) o_BadSteps e_BadSteps
 have ep:Exc K mg "BadInputs" xE yg:=kY (mg_of X G x_BadInputs) o_BadInputs e_BadInputs
 have er:Exc K mg "BadChance" xF yh:=kY (mg_of X G x_BadChance) o_BadChance e_BadChance
 have e3:Exc K mg "BadHands" xN yA:=kY (mg_of X G x_BadHands) o_BadHands e_BadHands
 have ca:Exc K mg "NoVeil" xJ yB:=kY (mg_of X G x_NoVeil) o_NoVeil e_NoVeil
 refine ⟨js,fun s v=>uh g8 s v,fun base _ _=>?_⟩
 have ez:=oY (P:=l.prog) (w:=w) (base:=base) e5 TP
 have hw:MkOk l.prog w K mg base CX0 2 "Table" C ["self","prime","hands","few"] (mZ C):=⟨_,_,M,Bd fe TT ez,it,mC⟩
 have b3:=nE (P:=l.prog) (w:=w) (base:=base) ek TT
 have iz:=Bj is TT b3
 have cs:=jr cu B FR iz
 have hx:=AZ hr B gM cs
 have Z:=jp c4 e1 hx
 have al:=nK (P:=l.prog) (w:=w) (base:=base) et B TT
 have Y:=rC fv B al
 have f0:=tS hk B TT Z Y
 have bm:=kH di B b3
 have d7:=Bm (P:=l.prog) (w:=w) (base:=base) i1
 have d9:=mv eb B TT d7 bm
 have U:=iQ cx ep d9
 have co:=oZ e7 d7
 have bb:=oX (P:=l.prog) (w:=w) (base:=base) e8 TT
 have b4:=iR ct B er f0.calm bm
 have be:=kD d8 Z U b4
 have R:=iS ck B TT Y
 have db:=rn (P:=l.prog) (w:=w) (base:=base) fb B TT
 have d5:=mt (P:=l.prog) (w:=w) (base:=base) d6 B
 have c3:=AO (P:=l.prog) (w:=w) (base:=base) hy B TT
 have fm:=Bg (P:=l.prog) (w:=w) (base:=base) iv B TT
 have ha:=AR (P:=l.prog) (w:=w) (base:=base) c5 B TT
 have g3:=tR (P:=l.prog) (w:=w) (base:=base) cb B TT
 have ff:=rp fx B TT ha c3 fm g3
 have gt:=tM g6 B TT c3 ff
 have fw:=rm fo B TT gt
 have hm:=AT h0 B TT c3
 have as:MOk l.prog w K mg base CX0 1 CC "coming_step" ["self"] (e6 C CC):=⟨_,_,TC.1,d0,tU I B TC,ba⟩
 have g9:MOk l.prog w K mg base CX0 1 CC "own_shares" ["self","hand"] (sR C CC):=⟨_,_,TC.1,ed,BB J TC,bz⟩
 have fi:MOk l.prog w K mg base CX0 3 CC "numbers_to_deal" ["self"] (mY C CC):=⟨_,_,TC.1,b2,Bo q B TT TC as g9 co Y bb,ag⟩
 have ht:MOk l.prog w K mg base CX0 2 CC "new_share" ["self","hand","rows"] (lM C CC):=⟨_,_,TC.1,eh,A4 O B TT TC as g9 db bb,b0⟩
 have il:MOk l.prog w K mg base CX0 3 CC "send_letters" ["self","step","made","rows"] (pM C CC):=⟨_,_,TC.1,c1,Bp F B TT TC d5 al Y,an⟩
 have ih:MOk l.prog w K mg base CX0 4 CC "go_on" ["self","chance_rows"] (spGo C CC):=⟨_,_,TC.1,ho,BG af B TT TC as fi ht il hm al,c6⟩
 have g0:MOk l.prog w K mg base CX0 2 CC "opened" ["self"] (jx C CC):=⟨_,_,TC.1,go,tQ ab B TC db,cp⟩
 have ef:MkOk l.prog w K mg base CX0 5 "Course" CC ["self","table","steps","inputs"] (jM C CC):=⟨_,_,MC,A5 bf TC fw,dy,jo⟩
 have fl:=Br i2 B TC be ef R ih g0
 have g1:=tO (P:=l.prog) (w:=w) (base:=base) b1 TT
 have ai:=jq da e3 g1
 have bl:=kF d4 d7
 have dp:=kG dt B R Y
 have hj:=A7 io fl ai bl dp
 have hv:=A3 ib B TT ca ai fm
 have gv:=tP hq B Z U co bb
 have b5:=mr cf B gv.calm
 have gb:=tV ia bl b5
 have ga:=tN (P:=l.prog) (w:=w) (base:=base) g5 B TT
 have ge:=tT cc B TC as fi Y ga
 have jl:=BD ej B TC ca be U hv gb ef R ge ih
 have ec:=Be (P:=l.prog) (w:=w) (base:=base) d3 B
 have e4:=Bz (P:=l.prog) (w:=w) (base:=base) ft
 have ey:=oV c0 B hw
 have dd:=rq d1 TT e4
 have e2:=oW c2 B ec dd
 have ea:=Bh (P:=l.prog) (w:=w) (base:=base) e0 B
 have ew:=nG cr B TT ea e4
 have g4:=AU (P:=l.prog) (w:=w) (base:=base) em TT
 have en:=nJ cl B TT g4 e4
 have hg:=AV (P:=l.prog) (w:=w) (base:=base) eo B
 have fy:=rA (P:=l.prog) (w:=w) (base:=base) dl B TT
 have fn:=rB d2 B TT ec dd e2 hg fy ew ea
 have g2:=AW (P:=l.prog) (w:=w) (base:=base) el B
 have hu:=AX eg B ea g2
 have he:=AQ (P:=l.prog) (w:=w) (base:=base) ei B
 have ii:=Bv c7 B ca ev in_NoVeil_NoVeil kt_NoVeil_VeilError jl
 exact BE g8 B TT ey ec fn en hu he ii hj.calm fl.calm
theorem walk {l:PySem.W.OpenLaw}{q:Program}{loose:List Str}{XP:(Str→Option Value)→Heap→Prop}{YP:World→Heap→Prop}{d:DefRec}{K:Params→PySem.W.Frag} (hn:l.most=some 63) (hdf:d.params.defaults=[])
  (hY:∀ (w:World) (h:Heap),YP w h→(K w.params).In h)
  (F:∀ (w:World) (mg:Str→Option Value) (fa:Addr) (h:Heap),(K w.params).In h→h.Ns mainGlobals mg→mg d.name=some (.ref fa) →
   ∃ fd:FuncData,(∀ (s:Shared) (u:Value),BindsTo s fd ⟨[u],[]⟩ [("script",u)])∧∀ base:Heap,(K w.params).In base→base.Ns mainGlobals mg→ju l.prog w (K w.params) mg base CX0 12 fa fd ["script"] (spLaw (K w.params))) :
  PySem.W.WalkO q loose XP YP l.row.toRowW d [] (fun f vs=>PySem.call f vs) :=
 L2.walk_of (n:=63) (k:=12) (x:="script") (CX:=fun _=>CX0) (sp:=fun w=>spLaw (K w.params)) hn (by decide) hdf ⟨rfl,by decide,by decide⟩ hY F (fun _ _ a I hl _ G=>⟨a,I,rfl,G,hl,fun _=>rfl⟩) fun _ _ _ _ _ z=>z
end Veil
namespace PySem.W.Fast
def tw7284789140532327242 := 0
def tw722825724609839762 := 0
def tw2429039580186088360 := 0
def tw14788108609665434196 := 0
def tw13931864230682169849 := 0
def tw806766135459104023 := 0
def tw5647464010431584070 := 0
def tw15044077745791474400 := 0
def tw5104874244741326958 := 0
def tw17228939242672703064 := 0
def tw3532931030149726190 := 0
def tw14478889746907947967 := 0
def tw7390338462818252275 := 0
def tw297371679943766858 := 0
def tw638542276926484922 := 0
def tw18102298684166779940 := 0
def tw2394187353775614373 := 0
def tw10224361156988231912 := 0
def tw11683076561629706839 := 0
def tw1543130545297200957 := 0
def tw241046984841813058 := 0
def tw8707618349911201567 := 0
def tw3409937809001806897 := 0
def tw18100196596817170450 := 0
def tw4511673240937766376 := 0
def tw2690614748488298477 := 0
def tw16596964180604710172 := 0
def tw8187547932504062939 := 0
def tw5304926372408063987 := 0
def tw7410098770568532799 := 0
def tw5365785811146483889 := 0
def tw7945775450618505700 := 0
def tw9501562921906137452 := 0
def tw10536949268297751448 := 0
def tw6258612282693033083 := 0
def tw11908005868171359918 := 0
def tw17897798207038212305 := 0
def tw17423061238233091043 := 0
def tw18071828823287303052 := 0
def tw5859089430101087633 := 0
def tw16550595585427165874 := 0
def tw12333379283672059074 := 0
def tw18643764796672800 := 0
def tw2639122077899230421 := 0
def tw2236751931765729978 := 0
def tw16329188987795344848 := 0
def tw16460802315524775684 := 0
def tw1319845703851357563 := 0
def tw746158053055563939 := 0
def tw404385157442059030 := 0
def tw1661840136992794030 := 0
def tw12052319200367592111 := 0
def tw1301973751310188248 := 0
def tw9945714405978316796 := 0
def tw16127805598253704517 := 0
def tw508002627278535716 := 0
def tw6556776122089398675 := 0
def tw13855334495729488928 := 0
def tw11901253051749069018 := 0
def tw4896588924758351432 := 0
def tw18148698758437609039 := 0
def tw12973223074040245799 := 0
def tw9643631282955372828 := 0
def tw6079542050395187802 := 0
def tw6528380793925135352 := 0
def tw2182211003688282391 := 0
def tw5877354235712564637 := 0
def tw15754716462416045630 := 0
def tw16476644182565399100 := 0
def tw16015507564196026054 := 0
def tw6492705816837414937 := 0
def tw8940980531931507555 := 0
def tw14861066278722140318 := 0
def tw8367192954304292171 := 0
def tw4780680373533357249 := 0
def tw8644308909625346972 := 0
def tw17407090573757197919 := 0
def tw3418877606157928721 := 0
def tw11233701541893700901 := 0
def tw1864264241921824765 := 0
def tw10355619054720433651 := 0
def tw1384276085421113221 := 0
def tw11134935343621042442 := 0
def tw9954740298475658309 := 0
def tw5422323095324697111 := 0
def tw3982622404045775912 := 0
def tw7721296319400683703 := 0
def tw1155378740328081628 := 0
def tw12082674635639062297 := 0
def tw15995955479058262643 := 0
def tw92962284783747703 := 0
def tw5166311733608422016 := 0
def tw15351112137967341965 := 0
def tw18049330223019769264 := 0
def tw13789515463253481120 := 0
def tw3470721609306446631 := 0
def tw2802769313875662348 := 0
def tw5276736212294664667 := 0
def tw17514714560869561707 := 0
def tw7495258574454240892 := 0
def tw7159587438026817564 := 0
def tw2575052569043005472 := 0
def tw13459407088526270163 := 0
def tw11724945719367085596 := 0
def tw15245280833443446127 := 0
def tw10737540606122812839 := 0
def tw9411815989372137864 := 0
def tw17354606637000457347 := 0
def tw16807413221330402816 := 0
def tw14858738595572297246 := 0
def tw13893373086145732047 := 0
def tw5401505823310215385 := 0
def tw677167382967468905 := 0
def tw6736377576120726483 := 0
def tw5362733471068711463 := 0
def tw6158834669908691913 := 0
def tw1639490327827356903 := 0
def tw8849732022305524613 := 0
def tw12055216635789014166 := 0
def tw203824951784321701 := 0
def tw6511311072194278332 := 0
def tw5465114945752870823 := 0
def tw15855406793948046566 := 0
def tw11321064712436164411 := 0
def tw17102977175721078152 := 0
def tw18018380903106403594 := 0
def tw1012703585149441023 := 0
def tw18404918925024589498 := 0
def tw14084713424547359928 := 0
def tw6210980840051465688 := 0
def tw6575698544838124592 := 0
def tw18275015182784118110 := 0
def tw12698109060629652385 := 0
def tw18430926160192725146 := 0
def tw13374134040851698186 := 0
def tw7416973644106106725 := 0
def tw4825718969007373141 := 0
def tw3246567045870252385 := 0
def tw4511688965983923512 := 0
def tw11399210264106016098 := 0
def tw7377423146970004945 := 0
def tw10992462095281198279 := 0
def tw6123746777310532082 := 0
def tw16727294005875608545 := 0
def tw12205419604990450262 := 0
def tw5356023052656159350 := 0
def tw12680332899688473147 := 0
def tw12458689425013025062 := 0
def tw15843739228054183804 := 0
def tw1107275287535653561 := 0
def tw10365831321218638976 := 0
def tw7847183606525752741 := 0
def tw7153433293194124418 := 0
def tw6525475745718322967 := 0
def tw5637148777295575809 := 0
def tw17024281245110001334 := 0
def tw4229436785892382716 := 0
def tw1258718290947189205 := 0
def tw7864739826787047014 := 0
def tw10841436983478670267 := 0
def tw17897881640989608826 := 0
def tw11514993165092377164 := 0
def tw12480044408131332977 := 0
def tw17941122017265619181 := 0
def tw15819178477722187209 := 0
def tw17596853512597302101 := 0
def tw15900974457254090801 := 0
def tw4368122703216894963 := 0
def tw17395463532895675403 := 0
def tw13175853177893849038 := 0
def tw16768065317962357322 := 0
def tw9004083250180574523 := 0
def tw15412058991801151873 := 0
def tw297302096424047370 := 0
def tw17680362252831465225 := 0
def tw3332554452680427579 := 0
def tw10717780343840237885 := 0
def tw1099505003689205174 := 0
def tw7749545689070133900 := 0
def tw2534004134219188015 := 0
def tw7234309354841285444 := 0
def tw5481890517632725173 := 0
def tw4207236619045009287 := 0
def tw12023948939635186759 := 0
def tw6647790546980923628 := 0
def tw3923788520597670897 := 0
def tw12536153046832642115 := 0
def tw9398161384638720176 := 0
def tw152639601331525830 := 0
def tw14475731781370487999 := 0
def tw8766685483116092482 := 0
def tw13959795814626269008 := 0
def tw10851424659308036357 := 0
def tw15218871380656496124 := 0
def tw5535499275728580310 := 0
def tw129638009949627238 := 0
def tw10134187850801445162 := 0
def tw2637448654506935332 := 0
def tw9592652585686936239 := 0
def tw8698638248933720461 := 0
def tw9522314172884220645 := 0
def tw15491019904972649636 := 0
def tw9001788241744623856 := 0
def tw8133412703617558914 := 0
def tw4541126800592237912 := 0
def tw17184805804380386081 := 0
def tw16726023645081470929 := 0
def tw15453321439050221777 := 0
def tw15057687748063000702 := 0
def tw11348335289928430526 := 0
def tw10097575420907068001 := 0
def tw5051210846564264839 := 0
def tw15351841444323685231 := 0
def tw8731073697651584845 := 0
def tw13259846356262262625 := 0
def tw21395311746001884 := 0
def tw9340685694566467682 := 0
def tw11612905045552148307 := 0
def tw9260854006338105991 := 0
def tw4684200949053078243 := 0
def tw15890601889407068439 := 0
def tw8149710825825858759 := 0
def tw333364634371459275 := 0
def tw10764042452903236983 := 0
def tw1121868629516492887 := 0
def tw7642090408610261630 := 0
def tw13994121170898929364 := 0
def tw2152883566543898385 := 0
def tw14591472376118599034 := 0
def tw11929714451161929017 := 0
def tw158599805041638225 := 0
def tw15061645105486805963 := 0
def tw8445801022411708263 := 0
def tw2584478090123018294 := 0
def tw16915617864458215584 := 0
def tw14966711853913259050 := 0
def tw9283441713925988031 := 0
def tw3564214666836706270 := 0
def tw12687106116604692050 := 0
def tw8310225668575645220 := 0
def tw2660450359053209979 := 0
def tw618504509572797042 := 0
def tw1761522728592402004 := 0
def tw9932140194112718572 := 0
def tw4500568168369912262 := 0
def tw4085033008315068411 := 0
def tw9988098083873468088 := 0
def tw8447264553486265599 := 0
def tw8007438157306538887 := 0
def tw8851869145824356891 := 0
def tw15511546425744220658 := 0
def tw15908282786309059809 := 0
def tw7876324467067430777 := 0
def tw4077485504068560180 := 0
def tw11888888924530277674 := 0
def tw16869489903313215077 := 0
def tw8848331301278533405 := 0
def tw6374255781994740574 := 0
def tw10363746174798084561 := 0
def tw15388630914658411652 := 0
def tw14568741385283005870 := 0
def tw17525660571728483107 := 0
def tw1282309356412231247 := 0
def tw742389842248918278 := 0
def tw6009666357080719542 := 0
def tw12884642664611857413 := 0
def tw8865620137129164478 := 0
def tw9358354218197982667 := 0
def tw9000958220926516921 := 0
def tw10097591555416331566 := 0
def tw8826053637376025994 := 0
def tw17044668137219371385 := 0
def tw15620222658520986060 := 0
def tw15863881419193311585 := 0
def tw12655345418387153208 := 0
def tw2548764102808900288 := 0
def tw12765069991034536561 := 0
def tw3349382445091525356 := 0
def tw1963528054498210045 := 0
def tw6956384354228943320 := 0
def tw1546548455972591714 := 0
def tw16865108229888700042 := 0
def tw12488674007020036592 := 0
def tw8579568513618716174 := 0
def tw1139110676082103267 := 0
def tw7873660360767890805 := 0
def tw6693191336533007245 := 0
def tw9566004101310497886 := 0
def tw8157685325828780517 := 0
def tw3576354535041315395 := 0
def tw8869485894301976955 := 0
def tw7699293922241795941 := 0
def tw4188302143128277631 := 0
def tw2910392964317934941 := 0
def tw1832487062040707380 := 0
def tw17958383187205338864 := 0
def tw15945463067175611382 := 0
def tw11242932834587410876 := 0
def tw10801796065291810721 := 0
def tw460207248635256110 := 0
def tw3856669225816642354 := 0
def tw8162537845865768880 := 0
def tw17669875570702265260 := 0
def tw9522670852275234639 := 0
def tw5121222622115346473 := 0
def tw4780852060724215130 := 0
def tw12019075887300566256 := 0
def tw14031277913482485906 := 0
def tw16803613561164357807 := 0
def tw2292321214664676578 := 0
def tw14699321919781326277 := 0
def tw10361669205427232300 := 0
def tw17074317030752035269 := 0
def tw16755777605431500532 := 0
def tw12997060489071642353 := 0
def tw11031445747388694837 := 0
def tw10120059061765627084 := 0
def tw5945515281893557096 := 0
def tw12948828367005475360 := 0
def tw12651237931152043168 := 0
def tw13387995691955095929 := 0
def tw15633471055976163823 := 0
def tw3899563225538183682 := 0
def tw15299216676904630346 := 0
def tw11343881556152287671 := 0
def tw11247645036443410655 := 0
end PySem.W.Fast
open PySem PySem.W PyProof.Rows
set_option maxRecDepth 100000 in
set_option maxHeartbeats 0 in
theorem PySem.Challenge.cw_veilsum_k17_whole_the_same_sight_holds : PySem.Challenge.rw_veilsum_k17_whole_the_same_sight.Holds := by
 w_on; o_law; k_head; (case hw => w_witness2)
 k_fill
 refine Veil.walk (l := PySem.Challenge.rw_veilsum_k17_whole_the_same_sight) rfl rfl (fun w h Y => PySem.W.kIn_of Y) ?F
 case F =>
  intro w mg fa h KX G hmg
  refine' Veil.all_mk KX G hmg ?a1 ?h1 ?a2 ?h2 ?a3 ?h3 ?a4 ?h4 ?a5 ?h5 ?a6 ?h6 ?a7 ?h7 ?a8 ?h8 ?a9 ?h9 ?a10 ?h10 ?a11 ?h11 ?a12 ?h12 ?a13 ?h13 ?a14 ?h14 ?a15 ?h15 ?a16 ?h16 ?a17 ?h17 ?a18 ?h18 ?a19 ?h19 ?a20 ?h20 ?a21 ?h21 ?a22 ?h22 ?a23 ?h23 ?a24 ?h24 ?a25 ?h25 ?a26 ?h26 ?a27 ?h27 ?a28 ?h28 ?a29 ?h29 ?a30 ?h30 ?a31 ?h31 ?a32 ?h32 ?a33 ?h33 ?a34 ?h34 ?a35 ?h35 ?a36 ?h36 ?a37 ?h37 ?a38 ?h38 ?a39 ?h39 ?a40 ?h40 ?a41 ?h41 ?a42 ?h42 ?a43 ?h43 ?a44 ?h44 ?a45 ?h45 ?a46 ?h46 ?a47 ?h47 ?a48 ?h48 ?a49 ?h49 ?a50 ?h50 ?a51 ?h51 ?a52 ?h52 ?a53 ?h53 ?a54 ?h54 ?a55 ?h55 ?a56 ?h56 ?a57 ?h57 ?a58 ?h58 ?aC ?a59 ?i59 ?h59 ?aCC ?a60 ?i60 ?h60 ?a61 ?i61 ?h61 ?a62 ?i62 ?h62 ?a63 ?i63 ?h63 ?a64 ?i64 ?h64 ?a65 ?i65 ?h65 ?a66 ?i66 ?h66 ?a67 ?i67 ?h67 ?pg ?hd ?po ?sa ?mk ?kc ?nP ?nH ?nF ?ap ?lp ?vp ?cpg ?chd ?cpo ?csa ?cmk ?ckc ?cn_table ?cn_steps ?cn_inputs ?cn_parts ?cn_shares ?cn_letters ?aF ?lF ?sF ?lt1 ?vt1 ?lt2 ?vt2 ?lt3 ?vt3 ?lt4 ?vt4 ?lt5 ?vt5 ?lt6 ?vt6 ?lt7 ?vt7 ?lt8 ?vt8 ?aM ?x_VeilError ?o_VeilError ?e_VeilError ?x_BadSteps ?o_BadSteps ?e_BadSteps ?x_BadInputs ?o_BadInputs ?e_BadInputs ?x_BadChance ?o_BadChance ?e_BadChance ?x_BadHands ?o_BadHands ?e_BadHands ?x_NoVeil ?o_NoVeil ?e_NoVeil ?kt_NoVeil_VeilError ?in_NoVeil_NoVeil ?z_len ?z_range ?z_isinstance ?z_min ?z_list ?z_int ?z_bool ?z_tuple ?z_reversed ?z_zip ?z_set ?z_all ?z_sum ?z_sorted ?z_enumerate
  (case a1|a2|a3|a4|a5|a6|a7|a8|a9|a10|a11|a12|a13|a14|a15|a16|a17|a18|a19|a20|a21|a22|a23|a24|a25|a26|a27|a28|a29|a30|a31|a32|a33|a34|a35|a36|a37|a38|a39|a40|a41|a42|a43|a44|a45|a46|a47|a48|a49|a50|a51|a52|a53|a54|a55|a56|a57|a58|aC|a59|i59|aCC|a60|i60|a61|i61|a62|i62|a63|i63|a64|i64|a65|i65|a66|i66|a67|i67|pg|hd|po|sa|mk|kc|nP|nH|nF|ap|lp|cpg|chd|cpo|csa|cmk|ckc|cn_table|cn_steps|cn_inputs|cn_parts|cn_shares|cn_letters|aF|lF|lt1|lt2|lt3|lt4|lt5|lt6|lt7|lt8|aM|x_VeilError|o_VeilError|x_BadSteps|o_BadSteps|x_BadInputs|o_BadInputs|x_BadChance|o_BadChance|x_BadHands|o_BadHands|x_NoVeil|o_NoVeil|z_len|z_range|z_isinstance|z_min|z_list|z_int|z_bool|z_tuple|z_reversed|z_zip|z_set|z_all|z_sum|z_sorted|z_enumerate => k_is)
  (case h1|h2|h3|h4|h5|h6|h7|h8|h9|h10|h11|h12|h13|h14|h15|h16|h17|h18|h19|h20|h21|h22|h23|h24|h25|h26|h27|h28|h29|h30|h31|h32|h33|h34|h35|h36|h37|h38|h39|h40|h41|h42|h43|h44|h45|h46|h47|h48|h49|h50|h51|h52|h53|h54|h55|h56|h57|h58|h59|h60|h61|h62|h63|h64|h65|h66|h67 => exact ⟨_, ⟨_, _, _, _, _, _, _, _, _, rfl, by k_is, by k_is⟩, by k_is⟩)
  (case vp => exact (.cons ⟨_, rfl⟩ (.cons ⟨_, rfl⟩ (.cons ⟨_, rfl⟩ (.cons ⟨_, rfl⟩ (.cons ⟨_, rfl⟩ (.cons ⟨_, rfl⟩ (.cons ⟨_, rfl⟩ (.cons ⟨_, rfl⟩ (.cons ⟨_, rfl⟩ .nil))))))))))
  (case sF => rfl)
  (case vt1|vt2|vt7|vt8 => exact (.cons ⟨_, rfl⟩ .nil))
  (case vt3|vt4|vt5|vt6 => exact (.cons ⟨_, rfl⟩ (.cons ⟨_, rfl⟩ .nil)))
  (case e_VeilError|e_BadSteps|e_BadInputs|e_BadChance|e_BadHands|e_NoVeil => k_exc)
  (case kt_NoVeil_VeilError => kit_is)
  (case in_NoVeil_NoVeil => first | rfl | decide)
#print axioms PySem.Challenge.cw_veilsum_k17_whole_the_same_sight_holds