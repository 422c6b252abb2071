import PyProof.Rows.All
import Wide.All
import OpenK.AllK
import Wide.FinOn
import Lean
import PyProof.EqAt
import PyProof.EqKinds
import PyProof.TupleCall
import PySem.Challenge.RW_veilsum_k20_which_exchange
set_option Elab.async false
set_option linter.all false
set_option maxRecDepth 100000
namespace L2
open PySem PySem.Spec PyProof.Rows
abbrev Key := Sum Int Str
def pk:Key→Value→Bool
  | .inl k,v=>Value.isInt k v
  | .inr x,v=>Value.isStrOf x v
def keyH (w : World) : Key → Int
  | .inl k => hashInt k
  | .inr x => hashStr w x
theorem bK:∀ {k:Key}{v:Value},pk k v=true→(∃ i t,k=Sum.inl i∧v=Value.int i t)∨(∃ x t,k=Sum.inr x∧v=Value.str x t)
  | .inl i,v,h=>by
    obtain ⟨t,e⟩:=Value.isInt_shape (k:=i) (v:=v) h
    exact .inl ⟨i,t,rfl,e⟩
  | .inr x,v,h=>by
    obtain ⟨t,e⟩:=Value.isStrOf_shape (x:=x) (v:=v) h
    exact .inr ⟨x,t,rfl,e⟩
theorem qR (i:Int) (t:Tok):pk (.inl i) (.int i t)=true:=by simp [pk,Value.isInt]
theorem qQ (x:Str) (t:Tok):pk (.inr x) (.str x t)=true:=by simp [pk,Value.isStrOf]
theorem key_ll (a b : Int) : decide ((Sum.inl a : Key) = Sum.inl b) = (a == b) := by
  by_cases e : a = b
  · subst e; simp
  · have h : ¬ (Sum.inl a : Key) = Sum.inl b := fun q => e (Sum.inl.inj q)
    rw [decide_eq_false h]
    exact (beq_eq_false_iff_ne.mpr e).symm
theorem key_rr (a b : Str) : decide ((Sum.inr a : Key) = Sum.inr b) = decide (a = b) := by
  by_cases e : a = b
  · subst e; simp
  · have h : ¬ (Sum.inr a : Key) = Sum.inr b := fun q => e (Sum.inr.inj q)
    rw [decide_eq_false h, decide_eq_false e]
theorem key_lr (a : Int) (b : Str) : decide ((Sum.inl a : Key) = Sum.inr b) = false := decide_eq_false (fun q => nomatch q)
theorem key_rl (a : Str) (b : Int) : decide ((Sum.inr a : Key) = Sum.inl b) = false := decide_eq_false (fun q => nomatch q)
def bI (prog:Program) (w:World):PySem.KeyKind prog w Key where
  is:=pk
  hash:=keyH w
  inj:=fun v a b ha hb=>by
    rcases bK ha with ⟨i,t,rfl,rfl⟩ | ⟨x,t,rfl,rfl⟩
    · rcases bK hb with ⟨j,u,rfl,e⟩ | ⟨y,u,rfl,e⟩
      · injection e with e1 _;rw [e1]
      · exact nomatch e
    · rcases bK hb with ⟨j,u,rfl,e⟩ | ⟨y,u,rfl,e⟩
      · exact nomatch e
      · injection e with e1 _;rw [e1]
  byValue:=fun k v h=>by
    rcases bK h with ⟨i,t,rfl,rfl⟩ | ⟨x,t,rfl,rfl⟩<;>rfl
  pyHash:=fun hv h=>by
    rcases bK hv with ⟨i,t,rfl,rfl⟩ | ⟨x,t,rfl,rfl⟩
    · exact wpAny_pyHash_int h
    · exact wpAny_pyHash_str h
  eqBool:=fun hu hv h=>by
    rcases bK hu with ⟨i,t,rfl,rfl⟩ | ⟨x,t,rfl,rfl⟩
    · rcases bK hv with ⟨j,u,rfl,rfl⟩ | ⟨y,u,rfl,rfl⟩
      · rw [key_ll] at h;exact wpAny_eqBool_int h
      · rw [key_lr] at h;exact SeqAt.EqAt.int_str i t y u _ _ _ _ h
    · rcases bK hv with ⟨j,u,rfl,rfl⟩ | ⟨y,u,rfl,rfl⟩
      · rw [key_rl] at h;exact SeqAt.EqAt.str_int x t j u _ _ _ _ h
      · rw [key_rr] at h;exact wpAny_eqBool_str h
  «strs»:=fun k x t v h=>by
    rcases bK h with ⟨i,u,rfl,e⟩ | ⟨y,u,rfl,e⟩
    · exact nomatch e
    · injection e with e1 _
      subst e1
      cases v<;>rfl
theorem nj (prog:Program) (w:World) (i:Int) (t:Tok):(bI prog w).is (.inl i) (.int i t)=true:=qR i t
theorem bA (prog:Program) (w:World) (x:Str) (t:Tok):(bI prog w).is (.inr x) (.str x t)=true:=qQ x t
end L2
namespace L2
open PySem PySem.Spec PyProof.Rows
inductive V where
  | non | bl (b:Bool) | int (i:Int) | str (x:Str) | byt (b:Array UInt8) | flt (b:UInt64) | ref (a:Addr) | ty (n:String)
  deriving DecidableEq
def RelV : V → Value → Prop
  | .non, u => u = Value.none
  | .bl b, u => u = Value.bool b
  | .int i, u => ∃ t, u = Value.int i t
  | .str x, u => ∃ t, u = Value.str x t
  | .byt b, u => ∃ t, u = Value.bytes b t
  | .flt b, u => ∃ t, u = Value.float b t
  | .ref a, u => u = Value.ref a
  | .ty n, u => u = Value.type n
abbrev Vals : List V → List Value → Prop := Paired RelV
theorem Vals.length {xs : List V} {us : List Value} (r : Vals xs us) : xs.length = us.length := Paired.length r
theorem Vals.get : ∀ {xs : List V} {us : List Value} {i : Nat} {x : V}, Vals xs us → xs[i]? = some x → ∃ u, us[i]? = some u ∧ RelV x u
  | _, _, _, _, .nil, e => by simp at e
  | _, _, 0, _, .cons r _, e => by simp at e; subst e; exact ⟨_, rfl, r⟩
  | _, _, i + 1, x, .cons _ t, e => by
    obtain ⟨u, h1, h2⟩ := Vals.get (i := i) (x := x) t (by simpa using e)
    exact ⟨u, by simpa using h1, h2⟩
theorem Vals.set {x : V} {u : Value} (r : RelV x u) : ∀ {xs : List V} {us : List Value} (i : Nat), Vals xs us → Vals (xs.set i x) (us.set i u)
  | _, _, _, .nil => .nil
  | _, _, 0, .cons _ t => .cons r t
  | _, _, i + 1, .cons q t => .cons q (Vals.set r i t)
theorem Vals.append : ∀ {xs ys : List V} {us ws : List Value}, Vals xs us → Vals ys ws → Vals (xs ++ ys) (us ++ ws)
  | _, _, _, _, .nil, s => s
  | _, _, _, _, .cons r t, s => .cons r (Vals.append t s)
theorem Vals.take : ∀ {xs : List V} {us : List Value} (n : Nat), Vals xs us → Vals (xs.take n) (us.take n)
  | _, _, 0, _ => .nil
  | _, _, _ + 1, .nil => .nil
  | _, _, n + 1, .cons r t => .cons r (Vals.take n t)
theorem Vals.drop : ∀ {xs : List V} {us : List Value} (n : Nat), Vals xs us → Vals (xs.drop n) (us.drop n)
  | _, _, 0, r => r
  | _, _, _ + 1, .nil => .nil
  | _, _, n + 1, .cons _ t => Vals.drop n t
def RelO : Option V → Option Value → Prop
  | some v, some u => RelV v u
  | none, none => True
  | _, _ => False
def KV {κ : Type} : List (κ × V) → List (κ × Value) → Prop := Paired fun (p : κ × V) (q : κ × Value) => p.1 = q.1 ∧ RelV p.2 q.2
def kV:Key→V
  | .inl i=>.int i
  | .inr x=>.str x
inductive HO where
  /-- a list -/
  | lst (xs:List V)
  /-- a tuple (never changes) -/
  | tup (xs:List V)
  /-- a dict whose keys are ints and texts;one whose keys are tuples of ints and texts (the empty one is both) -/
  | dK (kvs:List (Key×V)) | dT (kvs:List (List Key×V))
  /-- a set of ints: its members,its size -/
  | set (S:Int→Bool) (n:Nat)
  /-- an instance of the class at C,its dict at dx,its attributes -/
  | ins (C dx:Addr) (fs:List (Str×V))
  /-- the dict of the instance at x -/
  | own (x:Addr)
  /-- the dict of an exception -/
  | xd (fs:List (Str×V))
  /-- a bound method,f of x -/
  | met (f x:Addr)
  /-- a range object lo,lo+1,.. below hi -/
  | rng (lo hi:Int)
  /-- a thing that is known to the object (the script;a dict while a loop walks it): read,never written while it is so -/
  | frz (o:Obj) (u:HO)
  /-- a code object's table -/
  | tbl (ps:Array Value)
  /-- any other thing,by what is true of its one object (a def of one's own: SetO a S n:=HO.ext fun h=>..) -/
  | ext (φ:Heap→Prop)
abbrev Hp := Addr → Option HO
def upd (H : Hp) (a : Addr) (o : HO) : Hp := fun b => if b = a then some o else H b
theorem upd_same {H : Hp} {a : Addr} {o : HO} : upd H a o a = some o := by unfold upd; rw [if_pos rfl]
theorem aB {H:Hp}{a b:Addr}{o:HO} (h:b≠a):upd H a o b=H b:=by unfold upd;rw [if_neg h]
theorem pY {H:Hp}{a:Addr}{o u:HO}:upd (upd H a o) a u=upd H a u:=by
  funext b;unfold upd;split<;>rfl
theorem ne_of {H : Hp} {a b : Addr} {o u : HO} (h : H a = some o) (h' : H b = some u) (d : o ≠ u) : a ≠ b := by
  intro e; subst e; rw [h] at h'; exact d (Option.some.inj h')
theorem aw {H:Hp}{a b:Addr}{o:HO} (h:H a=some o) (h':H b=none):a≠b:=by
  intro e;subst e;rw [h] at h';cases h'
section
variable (P : Program) (w : World)
def ObjOk (H : Hp) (h : Heap) (a : Addr) : HO → Prop
  | .lst xs => xs.length ≤ sizeLine ∧ ∃ (its : List Value) (n : Nat), Vals xs its ∧ h.get? a = some { cls := .type "list", data := .seq its.toArray n }
  | .tup xs => xs.length ≤ sizeLine ∧ ∃ its : List Value, Vals xs its ∧ IsTup h a its.toArray
  | .dK kvs => kvs.length ≤ sizeLine ∧ (a == sysModules) = false ∧ ∃ vs, KV kvs vs ∧ h.DictOf (bI P w) a vs
  | .dT kvs => kvs.length ≤ sizeLine ∧ (a == sysModules) = false ∧ ∃ xs : List (List Key × Addr × Value),
      Paired (fun (p : List Key × V) (q : List Key × Addr × Value) => p.1 = q.1 ∧ H q.2.1 = some (.tup (p.1.map kV)) ∧ RelV p.2 q.2.2) kvs xs ∧
      ∃ o es ep, h.get? a = some o ∧ o.ExactDict ∧ o.data = .dict es ep ∧ es.toList = xs.map (entryOfKey (tupleKind (bI P w))) ∧ (xs.map (·.1)).Nodup
  | .set S n => h.SetOf (intKind P w) a S n
  | .ins C dx fs => H dx = some (.own a) ∧ fs.length ≤ 1000 ∧ dx ≠ a ∧ h.get? a = some (PySem.W.instObj C dx) ∧
      ∃ mA, h.Ns1 dx mA ∧ (∀ f, RelO (fs.lookup f) (mA f)) ∧ PySem.Within mA (fs.map (·.1))
  | .own _ => ∃ o, h.get? a = some o
  | .xd fs => ∃ mA, h.Ns1 a mA ∧ ∀ f, RelO (fs.lookup f) (mA f)
  | .rng lo hi => ∃ t u v, h.get? a = some { cls := .type "range", data := .fields #[.int lo t, .int hi u, .int 1 v] }
  | .frz o u => h.get? a = some o ∧ ObjOk H h a u
  | .tbl ps => h.get? a = some { cls := .none, data := .fields ps }
  | .met f x => h.get? a = some (PySem.W.methodObj (.ref f) (.ref x))
  | .ext φ => φ h ∧ (∃ o, h.get? a = some o) ∧ ∀ h1 h2 : Heap, φ h1 → (∀ o, h1.get? a = some o → h2.get? a = some o) → φ h2
def HOk (H : Hp) (h : Heap) : Prop := ∀ a o, H a = some o → ObjOk P w H h a o
end
section
variable {P : Program} {w : World} {H H' : Hp} {h h' : Heap} {a : Addr} {o : HO}
theorem ObjOk.lt (x : ObjOk P w H h a o) : a < h.objs.size := by
  cases o with
  | lst xs => obtain ⟨_, _, _, _, e⟩ := x; exact Heap.lt_size e
  | tup xs => obtain ⟨_, _, _, p⟩ := x; exact p.lt
  | dK kvs => obtain ⟨_, _, _, _, o, _, _, e, _⟩ := x; exact Heap.lt_size e
  | dT kvs => obtain ⟨_, _, _, _, o, _, _, e, _⟩ := x; exact Heap.lt_size e
  | set S n => obtain ⟨o, _, _, _, e, _⟩ := x; exact Heap.lt_size e
  | ins C dx fs => obtain ⟨_, _, _, e, _⟩ := x; exact Heap.lt_size e
  | own y => obtain ⟨_, e⟩ := x; exact Heap.lt_size e
  | xd fs => obtain ⟨_, ⟨_, _, _, e, _⟩, _⟩ := x; exact Heap.lt_size e
  | rng lo hi => obtain ⟨_, _, _, e⟩ := x; exact Heap.lt_size e
  | frz ob u => obtain ⟨e, _⟩ := x; exact Heap.lt_size e
  | tbl ps => exact Heap.lt_size (show h.get? a = some _ from x)
  | met f y => exact Heap.lt_size (show h.get? a = some _ from x)
  | ext φ => obtain ⟨_, ⟨_, e⟩, _⟩ := x; exact Heap.lt_size e
theorem Paired.mapP {α β : Type} {F G : α → β → Prop} : ∀ {l₁ : List α} {l₂ : List β}, Paired F l₁ l₂ → (∀ a b, F a b → G a b) → Paired G l₁ l₂
  | _, _, .nil, _ => .nil
  | _, _, .cons r t, f => .cons (f _ _ r) (Paired.mapP t f)
theorem ObjOk.stay (x : ObjOk P w H h a o) (k : ∀ b u, (b = a ∨ H b = some (.own a)) → h.get? b = some u → h'.get? b = some u)
    (ho : ∀ b, H b = some (.own a) → H' b = some (.own a)) (ht : ∀ b xs, H b = some (.tup xs) → H' b = some (.tup xs)) : ObjOk P w H' h' a o := by
  induction o with
  | lst xs => obtain ⟨z, its, n, r, e⟩ := x; exact ⟨z, its, n, r, k _ _ (.inl rfl) e⟩
  | tup xs => obtain ⟨z, its, r, ob, e, c⟩ := x; exact ⟨z, its, r, ob, k _ _ (.inl rfl) e, c⟩
  | dK kvs => obtain ⟨z, y, vs, r, ob, es, ep, e, c⟩ := x; exact ⟨z, y, vs, r, ob, es, ep, k _ _ (.inl rfl) e, c⟩
  | dT kvs =>
    obtain ⟨z, y, xs, r, ob, es, ep, e, c⟩ := x
    exact ⟨z, y, xs, Paired.mapP r fun p q z => ⟨z.1, ht _ _ z.2.1, z.2.2⟩, ob, es, ep, k _ _ (.inl rfl) e, c⟩
  | set S n => obtain ⟨ob, es, ep, t, e, c⟩ := x; exact ⟨ob, es, ep, t, k _ _ (.inl rfl) e, c⟩
  | ins C dx fs =>
    obtain ⟨d, z, ne, e, mA, ⟨od, es, ep, e2, c⟩, r⟩ := x
    exact ⟨ho _ d, z, ne, k _ _ (.inl rfl) e, mA, ⟨od, es, ep, k _ _ (.inr d) e2, c⟩, r⟩
  | own y => obtain ⟨ob, e⟩ := x; exact ⟨ob, k _ _ (.inl rfl) e⟩
  | xd fs => obtain ⟨mA, ⟨od, es, ep, e, c⟩, r⟩ := x; exact ⟨mA, ⟨od, es, ep, k _ _ (.inl rfl) e, c⟩, r⟩
  | rng lo hi => obtain ⟨t, u, v, e⟩ := x; exact ⟨t, u, v, k _ _ (.inl rfl) e⟩
  | frz ob u ih => obtain ⟨e, q⟩ := x; exact ⟨k _ _ (.inl rfl) e, ih q⟩
  | tbl ps =>
    have e : h.get? a = some { cls := .none, data := .fields ps } := x
    show h'.get? a = some { cls := .none, data := .fields ps }
    exact k a _ (.inl rfl) e
  | met f y =>
    have e : h.get? a = some (PySem.W.methodObj (.ref f) (.ref y)) := x
    show h'.get? a = some (PySem.W.methodObj (.ref f) (.ref y))
    exact k a _ (.inl rfl) e
  | ext φ => obtain ⟨p, ⟨o, e⟩, st⟩ := x; exact ⟨st _ _ p fun o q => k _ _ (.inl rfl) q, ⟨o, k _ _ (.inl rfl) e⟩, st⟩
theorem HOk.lt (x : HOk P w H h) (e : H a = some o) : a < h.objs.size := (x a o e).lt
theorem HOk.fresh (x : HOk P w H h) (e : h.objs.size ≤ a) : H a = none := by
  cases q : H a with
  | none => rfl
  | some u => exact absurd (Nat.lt_of_lt_of_le (x.lt q) e) (Nat.lt_irrefl _)
theorem HOk.kept (x : HOk P w H h) (k : ∀ b u, h.get? b = some u → h'.get? b = some u) : HOk P w H h' := fun a o e =>
  (x a o e).stay (fun b u _ q => k b u q) (fun _ q => q) fun _ _ q => q
theorem HOk.laid (x : HOk P w H h) (k : ∀ b u, h.get? b = some u → h'.get? b = some u) (hp : h.objs.size ≤ a) (new : ObjOk P w (upd H a o) h' a o) : HOk P w (upd H a o) h' := fun b u e => by
  have hn := x.fresh hp
  by_cases hb : b = a
  · subst hb; rw [upd_same] at e; cases e; exact new
  · rw [aB hb] at e
    exact (x b u e).stay (fun c v _ q => k c v q) (fun c q => by rw [aB (aw q hn)]; exact q) fun c xs q => by rw [aB (aw q hn)]; exact q
end
def Rd (H : Hp) (a : Addr) (u : HO) : Prop := H a = some u ∨ ∃ o, H a = some (.frz o u)
theorem Rd.ok {P : Program} {w : World} {H : Hp} {h : Heap} {a : Addr} {u : HO} (r : Rd H a u) (x : HOk P w H h) : ObjOk P w H h a u := by
  rcases r with r | ⟨o, r⟩
  · exact x a u r
  · obtain ⟨_, q⟩ := x a _ r
    exact q
def Mut : Option HO → Prop
  | some (.lst _) => True
  | some (.dK _) => True
  | some (.dT _) => True
  | some (.set _ _) => True
  | some (.ins _ _ _) => True
  | some (.ext _) => True
  | _ => False
section
variable {P : Program} {w : World} {H : Hp} {h h' : Heap} {x e : Addr} {o' : HO}
theorem HOk.write (ok : HOk P w H h) (mu : Mut (H x)) (he : e = x ∨ H e = some (.own x)) (k : ∀ b u, b ≠ e → h.get? b = some u → h'.get? b = some u) (heo : ∃ u, h'.get? e = some u)
    (new : ObjOk P w (upd H x o') h' x o') : HOk P w (upd H x o') h' := fun b u q => by
  have nown : ∀ c y, H c = some (.own y) → c ≠ x := fun c y r z => by subst z; rw [r] at mu; exact mu
  have ntup : ∀ c xs, H c = some (.tup xs) → c ≠ x := fun c xs r z => by subst z; rw [r] at mu; exact mu
  by_cases hb : b = x
  · subst hb; rw [upd_same] at q; cases q; exact new
  · rw [aB hb] at q
    by_cases hbe : b = e
    · have q' : H b = some (.own x) := by
        rcases he with z | z
        · exact absurd (hbe.trans z) hb
        · rw [hbe]; exact z
      rw [q] at q'; cases q'
      obtain ⟨v, hv⟩ := heo
      exact ⟨v, by rw [hbe]; exact hv⟩
    · refine (ok b u q).stay (fun c v hc r => k c v ?_ r) (fun c r => by rw [aB (nown c b r)]; exact r) fun c xs r => by rw [aB (ntup c xs r)]; exact r
      rcases hc with rfl | hc
      · exact hbe
      · rintro rfl
        rcases he with z | z
        · exact nown c b hc z
        · rw [hc] at z; cases z; exact hb rfl
end
structure Un (fs ex : List Addr) (H H' : Hp) (h h' : Heap) : Prop where
  keep : ∀ b o, h.get? b = some o → H b = none → b ∉ fs → b ∉ ex → h'.get? b = some o
  slot : ∀ b o, h.get? b = some o → H b = none → b ∈ fs → b ∉ ex → ∃ sl, h'.get? b = some { o with slots := sl }
  free : ∀ b o, h.get? b = some o → H b = none → b ∉ ex → H' b = none
  there : ∀ b o, h.get? b = some o → b ∉ ex → ∃ o', h'.get? b = some o'
  tups : ∀ b xs, H b = some (.tup xs) → H' b = some (.tup xs)
  frzs : ∀ b o u, H b = some (.frz o u) → H' b = some (.frz o u)
  tbls : ∀ b ps, H b = some (.tbl ps) → ∃ more, H' b = some (.tbl (ps ++ more))
section
variable {fs fs' ex ex' : List Addr} {H H1 H2 : Hp} {h h1 h2 h' : Heap} {a x e : Addr} {o : HO}
theorem Un.any (u : Un fs ex H H1 h h1) {b : Addr} {ob : Obj} (q : h.get? b = some ob) (n : H b = none) (hx : b ∉ ex) : ∃ sl, h1.get? b = some { ob with slots := sl } := by
  by_cases hb : b ∈ fs
  · exact u.slot b ob q n hb hx
  · exact ⟨ob.slots, u.keep b ob q n hb hx⟩
theorem Un.kept (k : ∀ b u, h.get? b = some u → h'.get? b = some u) : Un fs ex H H h h' :=
  ⟨fun b ob q _ _ _ => k b ob q, fun b ob q _ _ _ => ⟨ob.slots, k b ob q⟩, fun _ _ _ n _ => n, fun b ob q _ => ⟨ob, k b ob q⟩, fun _ _ q => q, fun _ _ _ q => q, fun _ ps q => ⟨#[], by rw [q]; simp⟩⟩
theorem Un.refl : Un fs ex H H h h := Un.kept fun _ _ q => q
theorem Un.laid (k : ∀ b u, h.get? b = some u → h'.get? b = some u) (hp : h.objs.size ≤ a) (hn : H a = none) : Un fs ex H (upd H a o) h h' where
  keep := fun b u q _ _ _ => k b u q
  slot := fun b u q _ _ _ => ⟨u.slots, k b u q⟩
  free := fun b u q n _ => by rw [aB (Nat.ne_of_lt (Nat.lt_of_lt_of_le (Heap.lt_size q) hp))]; exact n
  there := fun b u q _ => ⟨u, k b u q⟩
  tups := fun b xs q => by rw [aB (aw q hn)]; exact q
  frzs := fun b u xs q => by rw [aB (aw q hn)]; exact q
  tbls := fun b ps q => ⟨#[], by rw [aB (aw q hn), q]; simp⟩
theorem Un.write (mu : Mut (H x)) (he : e = x ∨ H e = some (.own x)) (k : ∀ b u, b ≠ e → h.get? b = some u → h'.get? b = some u) (heo : ∃ u, h'.get? e = some u) : Un fs ex H (upd H x o) h h' := by
  have hx : ∀ b, H b = none → b ≠ x := fun b n z => by subst z; rw [n] at mu; exact mu
  have hb : ∀ b, H b = none → b ≠ e := fun b n z => by
    subst z
    rcases he with r | r
    · exact hx b n r
    · rw [n] at r; cases r
  have hm : ∀ b u, H b = some u → ¬ Mut (some u) → b ≠ x := fun b u q nm z => by subst z; rw [q] at mu; exact nm mu
  refine ⟨fun b u q n _ _ => k b u (hb b n) q, fun b u q n _ _ => ⟨u.slots, k b u (hb b n) q⟩, fun b u q n _ => by rw [aB (hx b n)]; exact n, fun b u q _ => ?_,
    fun b xs q => by rw [aB (hm b _ q fun z => z)]; exact q, fun b u xs q => by rw [aB (hm b _ q fun z => z)]; exact q, fun b ps q => ⟨#[], by rw [aB (hm b _ q fun z => z), q]; simp⟩⟩
  by_cases hbe : b = e
  · subst hbe; exact heo
  · exact ⟨u, k b u hbe q⟩
end
def trk (h : Heap) (H : Hp) : List Addr := (List.range h.objs.size).filter fun a => (H a).isSome
def hidT (h : Heap) (H : Hp) : Heap := PySem.W.hideAll h (trk h H)
theorem qU (h:Heap) (H:Hp):(hidT h H).objs.size=h.objs.size:=PySem.W.hideAll_size _ _
theorem hidT_get {h : Heap} {H : Hp} {b : Addr} {o : Obj} (e : h.get? b = some o) (n : H b = none) : (hidT h H).get? b = some o :=
  PySem.W.hideAll_get _ e fun hm => by
    have q : (H b).isSome = true := (List.mem_filter.mp hm).2
    rw [n] at q; simp at q
theorem of_hidT {h : Heap} {H : Hp} {b : Addr} {o : Obj} (e : (hidT h H).get? b = some o) : h.get? b = some o ∧ H b = none := by
  have e' : h.get? b = some o := PySem.W.of_hideAll (trk h H) e
  refine ⟨e', ?_⟩
  cases q : H b with
  | none => rfl
  | some x =>
    have hm : b ∈ trk h H := List.mem_filter.mpr ⟨List.mem_range.mpr (Heap.lt_size e'), by simp [q]⟩
    have z : (hidT h H).get? b = none := PySem.W.hideAll_none (trk h H) hm
    rw [z] at e; cases e
def allNews (g h : Heap) (L : Addr) : List (Addr × Obj) := (List.range h.objs.size).filterMap fun a => if a = L ∨ (g.get? a).isSome = true then none else (h.get? a).map fun o => (a, o)
def rest (g h : Heap) (L d : Addr) : List (Addr × Obj) := (allNews g h L).filter fun p => decide (p.1 ≠ d)
end L2
namespace L2
open PySem PySem.Spec PyProof.Rows
structure Mod (K : PySem.W.Frag) (mg : Str → Option Value) (base : Heap) : Prop where
  kin : K.In base
  glob : base.Ns mainGlobals mg
  blt : ∃ mb, base.Ns builtinsNs mb ∧ ∀ x : Str, x ≠ "__name__" → mb x = bootBuiltins x
  nolimit : base.NoLimit
structure Cx where
  prog:Program
  w:World
  K:PySem.W.Frag
  mg:Str→Option Value
  base:Heap
  A:Around
  N:List Str
  s₀:Shared
  H₀:Hp
  env:Env
  outer:List Env
  stack:List Env
  ex:List Addr
  fn:Str→Bool
  calm:Bool
  pn:List (Addr×Obj)
  xe:Value→Shared→Prop
def frs (l : List Env) : List Addr := l.filterMap (·.frame)
abbrev Cx.fs (X : Cx) : List Addr := frs X.outer
def Vis (sc : Scope) (x : Str) : Prop := sc.names.lookup x = some .local ∨ sc.names.lookup x = some .cell ∨ sc.names.lookup x = some .free
def Loc (sc : Scope) (x : Str) : Prop := sc.names.lookup x = some .local ∨ sc.names.lookup x = some .cell
def Look (env : Env) (h : Heap) (m : Str → Option Value) (x : Str) (u : Value) : Prop :=
  (env.kindOf x = some .local ∧ m x = some u) ∨ ((env.kindOf x = some .cell ∨ env.kindOf x = some .free) ∧ ∃ c, env.cells.lookup x = some c ∧ h.IsCell c (some u))
structure Cx.Ok (X : Cx) : Prop where
  mod : Mod X.K X.mg X.base
  kind : X.env.scope.kind = .function
  glob : X.env.globals = mainGlobals
  blt : X.env.builtins = builtinsNs
  above : X.s₀.heap.objs.size ≤ X.env.locals
  inj : ∀ x y c, X.env.cells.lookup x = some c → X.env.cells.lookup y = some c → x = y
  has : ∀ x, (X.env.kindOf x = some .cell ∨ X.env.kindOf x = some .free) → ∃ c, X.env.cells.lookup x = some c
  cab : ∀ x c, X.fn x = true → X.env.cells.lookup x = some c → X.s₀.heap.objs.size ≤ c
  hd : X.calm = true → X.A.handled = none
  frames : X.A.frames = some X.stack
  stk : X.stack = X.outer ∨ (X.stack = X.env :: X.outer ∧ X.env.frame = some X.env.locals)
  exf : ∀ b ∈ X.ex, b ≠ X.env.locals ∧ ∀ x c, X.env.cells.lookup x = some c → c ≠ b
  bs : ∀ b o, X.base.get? b = some o → X.s₀.heap.get? b = some o ∧ X.H₀ b = none
  bsz : X.base.objs.size ≤ X.s₀.heap.objs.size
  noex : ∀ b o, X.base.get? b = some o → b ∉ X.ex
  exfs : ∀ b ∈ X.ex, b ∉ X.fs
  funs : X.s₀.heap.FunFrames X.base X.outer
  frf : ∀ b ∈ X.fs, X.H₀ b = none
structure Inv (X : Cx) (pins : List (Addr × Obj)) (σ : List (Option V)) (H : Hp) (s : Shared) : Prop where
  ok : X.Ok
  os : s.os = X.s₀.os
  bare : AllBare s.gens
  base : Un X.fs X.ex X.H₀ H X.s₀.heap s.heap
  loc : ∃ m, s.heap.Ns X.env.locals m ∧ ∀ (i : Nat) (x : Str) (v : V), X.N[i]? = some x → σ[i]? = some (some v) → Vis X.env.scope x → ∃ u, RelV v u ∧ Look X.env s.heap m x u
  cell : ∀ x c, X.env.cells.lookup x = some c → ∃ v, s.heap.IsCell c v
  free : H X.env.locals = none
  freeC : ∀ x c, X.env.cells.lookup x = some c → H c = none
  pin : ∀ p ∈ X.pn ++ pins, s.heap.get? p.1 = some p.2 ∧ H p.1 = none ∧ p.1 ≠ X.env.locals ∧ p.1 ∉ X.fs ∧ ∀ v, p.2.data ≠ .cell v
  hok : HOk X.prog X.w H s.heap
  len : σ.length = X.N.length
section
variable {X : Cx} {pins : List (Addr × Obj)} {σ : List (Option V)} {H H' : Hp} {s : Shared} {h' : Heap}
theorem Cx.Ok.nofr (ok : X.Ok) {b : Addr} {o : Obj} (e : X.base.get? b = some o) : b ∉ X.fs := fun hb => by
  have := (ok.funs.mem hb).1
  rw [e] at this; cases this
theorem Inv.bs (I : Inv X pins σ H s) : ∀ b o, X.base.get? b = some o → s.heap.get? b = some o ∧ H b = none := fun b o e =>
  ⟨I.base.keep b o (I.ok.bs b o e).1 (I.ok.bs b o e).2 (I.ok.nofr e) (I.ok.noex b o e), I.base.free b o (I.ok.bs b o e).1 (I.ok.bs b o e).2 (I.ok.noex b o e)⟩
theorem Inv.bk (I : Inv X pins σ H s) : ∀ b o, X.base.get? b = some o → s.heap.get? b = some o := fun b o e => (I.bs b o e).1
theorem Inv.mod (I : Inv X pins σ H s) : Mod X.K X.mg X.base := I.ok.mod
theorem Inv.kIn (I : Inv X pins σ H s) : X.K.In s.heap := I.ok.mod.kin.keeps I.bk
theorem Inv.fr (I : Inv X pins σ H s) : ∃ m, Fr X.base X.env.locals s.heap m :=
  let ⟨m, hn, _⟩ := I.loc
  ⟨m, hn, I.bk, Nat.le_trans I.ok.bsz I.ok.above⟩
theorem Inv.lt (I : Inv X pins σ H s) : X.env.locals < s.heap.objs.size := let ⟨_, hn, _⟩ := I.loc; hn.lt
theorem Inv.sz (I : Inv X pins σ H s) : X.s₀.heap.objs.size ≤ s.heap.objs.size := Nat.le_trans I.ok.above (Nat.le_of_lt I.lt)
theorem Inv.nofs (I : Inv X pins σ H s) {a : Addr} (h : s.heap.objs.size ≤ a) : a ∉ X.fs := fun hb => by
  obtain ⟨_, o, ho, _⟩ := I.ok.funs.mem hb
  exact absurd (Nat.lt_of_lt_of_le (Heap.lt_size ho) (Nat.le_trans I.sz h)) (Nat.lt_irrefl _)
theorem Inv.cne (I : Inv X pins σ H s) : ∀ x c, X.env.cells.lookup x = some c → c ≠ X.env.locals := fun x c e z => by
  obtain ⟨v, o, ho, hd⟩ := I.cell x c e
  obtain ⟨m, ⟨o', es, ep, ho', hd', _⟩, _⟩ := I.loc
  rw [z, ho'] at ho; cases ho; rw [hd'] at hd; cases hd
theorem Inv.funs (I : Inv X pins σ H s) : s.heap.FunFrames X.base X.outer := by
  have all : ∀ (l : List Env), (∀ b ∈ frs l, b ∈ X.fs) → X.s₀.heap.FunFrames X.base l → s.heap.FunFrames X.base l := by
    intro l
    induction l with
    | nil => intro _ _; trivial
    | cons env r ih =>
      intro hs hl
      obtain ⟨hk, ⟨L, o, hf, hn, ho, hd⟩, hr⟩ := hl
      have hL : L ∈ X.fs := hs L (by unfold frs; rw [List.filterMap_cons, hf]; exact List.mem_cons_self)
      obtain ⟨sl, e⟩ := I.base.slot L o ho (I.ok.frf L hL) hL fun z => I.ok.exfs L z hL
      exact ⟨hk, ⟨L, _, hf, hn, e, hd⟩, ih (fun b hb => hs b (by unfold frs; rw [List.filterMap_cons, hf]; exact List.mem_cons_of_mem _ hb)) hr⟩
  exact all X.outer (fun _ hb => hb) I.ok.funs
theorem Inv.stack (I : Inv X pins σ H s) : s.heap.FunFrames X.base X.stack := by
  rcases I.ok.stk with e | ⟨e, hf⟩
  · rw [e]; exact I.funs
  · rw [e]
    obtain ⟨m, hn, _⟩ := I.loc
    refine .cons (by rw [I.ok.kind]; decide) hf hn ?_ I.funs
    exact Heap.get?_none_of_le (Nat.le_trans I.ok.bsz I.ok.above)
theorem Inv.stkSub (I : Inv X pins σ H s) : ∀ b ∈ frs X.stack, b ∈ X.env.locals :: X.fs := fun b hb => by
  rcases I.ok.stk with e | ⟨e, hf⟩
  · rw [e] at hb; exact List.mem_cons_of_mem _ hb
  · rw [e] at hb
    unfold frs at hb
    rw [List.filterMap_cons, hf] at hb
    exact hb
theorem Inv.stkFree (I : Inv X pins σ H s) : ∀ b ∈ frs X.stack, H b = none := fun b hb => by
  rcases List.mem_cons.mp (I.stkSub b hb) with e | hb
  · rw [e]; exact I.free
  · obtain ⟨_, o, ho, _⟩ := I.ok.funs.mem hb
    exact I.base.free b o ho (I.ok.frf b hb) fun z => I.ok.exfs b z hb
theorem Inv.step {g' : Array GenState} {t' : Nat} {d' : Drawn} {ch : List Addr} (I : Inv X pins σ H s)
    (hch : ∀ b ∈ ch, (b ∈ X.ex ∨ X.s₀.heap.objs.size ≤ b) ∧ b ≠ X.env.locals ∧ (∀ x c, X.env.cells.lookup x = some c → c ≠ b) ∧ ∀ p ∈ X.pn ++ pins, p.1 ≠ b)
    (keep : ∀ b o, b ≠ X.env.locals → b ∉ X.fs → b ∉ ch → s.heap.get? b = some o → H b = none → h'.get? b = some o)
    (slot : ∀ b o, b ≠ X.env.locals → b ∈ X.fs → b ∉ ch → s.heap.get? b = some o → H b = none → ∃ sl, h'.get? b = some { o with slots := sl }) (free : ∀ b o, b ∉ ch → s.heap.get? b = some o → H b = none → H' b = none)
    (there : ∀ b o, b ∉ ch → s.heap.get? b = some o → ∃ o', h'.get? b = some o')
    (tups : ∀ b xs, H b = some (.tup xs) → H' b = some (.tup xs)) (frzs : ∀ b o u, H b = some (.frz o u) → H' b = some (.frz o u)) (tbls : ∀ b ps, H b = some (.tbl ps) → ∃ more, H' b = some (.tbl (ps ++ more)))
    (ns : ∀ m, s.heap.Ns X.env.locals m → h'.Ns X.env.locals m) (hok : HOk X.prog X.w H' h') (hg : AllBare g') :
    Inv X pins σ H' { s with heap := h', gens := g', drawn := d', toks := t' } := by
  have neL : ∀ b o, X.s₀.heap.get? b = some o → b ≠ X.env.locals := fun b o e => Nat.ne_of_lt (Nat.lt_of_lt_of_le (Heap.lt_size e) I.ok.above)
  have neC : ∀ b o, X.s₀.heap.get? b = some o → b ∉ X.ex → b ∉ ch := fun b o e hx hb => by
    rcases (hch b hb).1 with z | z
    · exact hx z
    · exact absurd (Nat.lt_of_lt_of_le (Heap.lt_size e) z) (Nat.lt_irrefl _)
  have cellK : ∀ x c, X.env.cells.lookup x = some c → ∀ v, s.heap.IsCell c v → h'.IsCell c v := fun x c e v ⟨o, ho, hd⟩ => by
    have nch : c ∉ ch := fun z => (hch c z).2.2.1 x c e rfl
    by_cases hc : c ∈ X.fs
    · obtain ⟨sl, q⟩ := slot c o (I.cne x c e) hc nch ho (I.freeC x c e)
      exact ⟨_, q, hd⟩
    · exact ⟨o, keep c o (I.cne x c e) hc nch ho (I.freeC x c e), hd⟩
  refine ⟨I.ok, I.os, hg, ⟨fun b o e n hb hx => ?_, fun b o e n hb hx => ?_, fun b o e n hx => ?_, fun b o e hx => ?_, fun b xs e => tups b xs (I.base.tups b xs e), fun b o xs e => frzs b o xs (I.base.frzs b o xs e), fun b ps e => ?_⟩, ?_, fun x c e => ?_, ?_, fun x c e => ?_, fun p hp => ?_, hok, I.len⟩
  · exact keep b o (neL b o e) hb (neC b o e hx) (I.base.keep b o e n hb hx) (I.base.free b o e n hx)
  · obtain ⟨sl, e1⟩ := I.base.slot b o e n hb hx
    obtain ⟨sl', e2⟩ := slot b _ (neL b o e) hb (neC b o e hx) e1 (I.base.free b o e n hx)
    exact ⟨sl', e2⟩
  · obtain ⟨o', e1⟩ := I.base.there b o e hx
    exact free b o' (neC b o e hx) e1 (I.base.free b o e n hx)
  · obtain ⟨o', e1⟩ := I.base.there b o e hx
    exact there b o' (neC b o e hx) e1
  · obtain ⟨m1, e1⟩ := I.base.tbls b ps e
    obtain ⟨m2, e2⟩ := tbls b _ e1
    exact ⟨m1 ++ m2, by rw [e2, Array.append_assoc]⟩
  · obtain ⟨m, hn, hl⟩ := I.loc
    refine ⟨m, ns m hn, fun i x v e1 e2 e3 => ?_⟩
    obtain ⟨u, r, l⟩ := hl i x v e1 e2 e3
    refine ⟨u, r, ?_⟩
    rcases l with l | ⟨k, c, e, z⟩
    · exact .inl l
    · exact .inr ⟨k, c, e, cellK x c e _ z⟩
  · obtain ⟨v, z⟩ := I.cell x c e
    exact ⟨v, cellK x c e v z⟩
  · obtain ⟨m, ⟨o, _, _, ho, _⟩, _⟩ := I.loc
    exact free _ o (fun z => (hch _ z).2.1 rfl) ho I.free
  · obtain ⟨v, o, ho, hd⟩ := I.cell x c e
    exact free c o (fun z => (hch c z).2.2.1 x c e rfl) ho (I.freeC x c e)
  · obtain ⟨e, n, ne, nf, d⟩ := I.pin p hp
    have nch : p.1 ∉ ch := fun z => (hch p.1 z).2.2.2 p hp rfl
    exact ⟨keep p.1 p.2 ne nf nch e n, free p.1 p.2 nch e n, ne, nf, d⟩
theorem Inv.un {t' : Nat} (I : Inv X pins σ H s) (u : Un X.fs [] H H' s.heap h') (hok : HOk X.prog X.w H' h') : Inv X pins σ H' { s with heap := h', toks := t' } := by
  obtain ⟨m, ⟨o, es, ep, ho, r⟩, _⟩ := id I.loc
  obtain ⟨sl, hL⟩ := u.any ho I.free (by simp)
  exact I.step (g' := s.gens) (d' := s.drawn) (ch := []) (fun _ z => nomatch z) (fun b o _ hb _ e n => u.keep b o e n hb (by simp)) (fun b o _ hb _ e n => u.slot b o e n hb (by simp)) (fun b o _ e n => u.free b o e n (by simp)) (fun b o _ e => u.there b o e (by simp)) u.tups u.frzs u.tbls (fun m' hm => by
    obtain ⟨o', es', ep', ho', r'⟩ := hm
    rw [ho] at ho'; cases ho'
    exact ⟨_, es', ep', hL, r'⟩) hok I.bare
theorem Inv.call {g' : Array GenState} {t' : Nat} {d' : Drawn} {ch : List Addr} (I : Inv X pins σ H s) (u : Un (frs X.stack) ch H H' s.heap h') (hok : HOk X.prog X.w H' h') (hg : AllBare g')
    (hch : ∀ b ∈ ch, (b ∈ X.ex ∨ X.s₀.heap.objs.size ≤ b) ∧ b ≠ X.env.locals ∧ (∀ x c, X.env.cells.lookup x = some c → c ≠ b) ∧ ∀ p ∈ X.pn ++ pins, p.1 ≠ b) :
    Inv X pins σ H' { s with heap := h', gens := g', drawn := d', toks := t' } := by
  obtain ⟨m, ⟨o, es, ep, ho, r⟩, _⟩ := id I.loc
  obtain ⟨sl, hL⟩ := u.any ho I.free fun z => (hch _ z).2.1 rfl
  exact I.step (ch := ch) hch (fun b o hL hb hc e n => u.keep b o e n (fun z => (List.mem_cons.mp (I.stkSub b z)).elim hL hb) hc) (fun b o _ _ hc e n => u.any e n hc) (fun b o hc e n => u.free b o e n hc) (fun b o hc e => u.there b o e hc) u.tups u.frzs u.tbls (fun m' hm => by
    obtain ⟨o', es', ep', ho', r'⟩ := hm
    rw [ho] at ho'; cases ho'
    exact ⟨_, es', ep', hL, r'⟩) hok hg
theorem Inv.turned {t' : Nat} {it : Addr} (I : Inv X pins σ H s) (k : ∀ b o, b ≠ it → s.heap.get? b = some o → h'.get? b = some o) (hn : H it = none) (hL : it ≠ X.env.locals)
    (h1 : it ∈ X.ex ∨ X.s₀.heap.objs.size ≤ it) (h2 : ∀ x c, X.env.cells.lookup x = some c → c ≠ it) (h3 : ∀ p ∈ X.pn ++ pins, p.1 ≠ it) : Inv X pins σ H { s with heap := h', toks := t' } := by
  have nit : ∀ b u, H b = some u → b ≠ it := fun b u e z => by rw [z, hn] at e; cases e
  refine I.step (g' := s.gens) (d' := s.drawn) (ch := [it]) (fun b hb => ?_) (fun b o _ _ hc e _ => k b o (fun z => hc (by simp [z])) e) (fun b o _ _ hc e _ => ⟨o.slots, k b o (fun z => hc (by simp [z])) e⟩) (fun _ _ _ _ n => n)
    (fun b o hc e => ⟨o, k b o (fun z => hc (by simp [z])) e⟩) (fun _ _ e => e) (fun _ _ _ e => e) (fun b ps e => ⟨#[], by rw [e]; simp⟩) (fun m hm => ?_) (fun b u e => ?_) I.bare
  · have e : b = it := by simpa using hb
    subst e
    exact ⟨h1, hL, h2, h3⟩
  · obtain ⟨o, es, ep, ho, r⟩ := hm
    exact ⟨o, es, ep, k _ o (Ne.symm hL) ho, r⟩
  · refine (I.hok b u e).stay (fun c v hc q => k c v ?_ q) (fun _ q => q) fun _ _ q => q
    rcases hc with z | z
    · rw [z]; exact nit b u e
    · exact nit c _ z
theorem Inv.tok (I : Inv X pins σ H s) (t : Nat) : Inv X pins σ H { s with toks := t } := I.un (h' := s.heap) (t' := t) Un.refl I.hok
theorem Inv.kept {t' : Nat} (I : Inv X pins σ H s) (k : ∀ b u, s.heap.get? b = some u → h'.get? b = some u) : Inv X pins σ H { s with heap := h', toks := t' } := I.un (Un.kept k) (I.hok.kept k)
theorem Inv.laid {a : Addr} {o : HO} {t' : Nat} (I : Inv X pins σ H s) (k : ∀ b u, s.heap.get? b = some u → h'.get? b = some u) (hp : s.heap.objs.size ≤ a) (new : ObjOk X.prog X.w (upd H a o) h' a o) :
    Inv X pins σ (upd H a o) { s with heap := h', toks := t' } := I.un (Un.laid k hp (I.hok.fresh hp)) (I.hok.laid k hp new)
theorem Inv.write {x e : Addr} {o : HO} {t' : Nat} (I : Inv X pins σ H s) (mu : Mut (H x)) (he : e = x ∨ H e = some (.own x)) (k : ∀ b u, b ≠ e → s.heap.get? b = some u → h'.get? b = some u) (heo : ∃ u, h'.get? e = some u)
    (new : ObjOk X.prog X.w (upd H x o) h' x o) : Inv X pins σ (upd H x o) { s with heap := h', toks := t' } := I.un (Un.write mu he k heo) (I.hok.write mu he k heo new)
theorem Inv.weak {σ' : List (Option V)} (I : Inv X pins σ H s) (hl : σ'.length = σ.length) (w : ∀ (i : Nat) v, σ'[i]? = some (some v) → σ[i]? = some (some v)) : Inv X pins σ' H s :=
  ⟨I.ok, I.os, I.bare, I.base, let ⟨m, hn, hl'⟩ := I.loc; ⟨m, hn, fun i x v e1 e2 e3 => hl' i x v e1 (w i v e2) e3⟩, I.cell, I.free, I.freeC, I.pin, I.hok, hl.trans I.len⟩
theorem Inv.pins_of {pins' : List (Addr × Obj)} (I : Inv X pins σ H s) (h : ∀ p ∈ pins', s.heap.get? p.1 = some p.2 ∧ H p.1 = none ∧ p.1 ≠ X.env.locals ∧ p.1 ∉ X.fs ∧ ∀ v, p.2.data ≠ .cell v) : Inv X pins' σ H s :=
  ⟨I.ok, I.os, I.bare, I.base, I.loc, I.cell, I.free, I.freeC, fun p hp => (List.mem_append.mp hp).elim (fun z => I.pin p (List.mem_append_left _ z)) (h p), I.hok, I.len⟩
theorem oh {N:List Str} (hN:N.Nodup) {i j:Nat}{x:Str} (a:N[i]?=some x) (b:N[j]?=some x):i=j:=by
  obtain ⟨h1,e1⟩:=List.getElem?_eq_some_iff.mp a
  obtain ⟨h2,e2⟩:=List.getElem?_eq_some_iff.mp b
  exact (List.getElem_inj hN).mp (e1.trans e2.symm)
theorem lr {M:Model}{A:Around}{E:Value→Shared→Prop}{i:Nat}{x:Str}{v:V}{u:Value}{Q:Unit→Shared→Prop} (I:Inv X pins σ H s) (hN:X.N.Nodup) (hi:X.N[i]?=some x) (hx:Loc X.env.scope x) (r:RelV v u)
    (h:∀ s',Inv X pins (σ.set i (some v)) H s'→(∃ a,Heap.SameBut a s.heap s'.heap∧(a=X.env.locals∨X.env.cells.lookup x=some a))→Q () s') (hf:X.fn x=true∨X.env.scope.names.lookup x=some .local:=by first | exact .inl rfl | exact .inr rfl | assumption):wpAny M A (storeName X.env x u) Q E s:=by
  obtain ⟨m,hn,hl⟩:=id I.loc
  have hcls:(X.env.scope.kind == .class || (X.env.scope.kind == .module && X.env.locals != X.env.globals))=false:=by rw [I.ok.kind];rfl
  have hiσ:i<σ.length:=by rw [I.len];exact (List.getElem?_eq_some_iff.mp hi).1
  have cne:=I.cne
  have tracked:∀ {a:Addr}{h':Heap},(∃ o,s.heap.get? a=some o∧H a=none)→Heap.SameBut a s.heap h'→HOk X.prog X.w H h':=fun {a h'} ha hs b ob e=>by
    obtain ⟨_,_,hfree⟩:=ha
    refine (I.hok b ob e).stay (fun c w' hc q=>(hs.2 c ?_).trans q) (fun _ q=>q) fun _ _ q=>q
    rintro rfl
    rcases hc with rfl | hc
    · rw [hfree] at e;cases e
    · rw [hfree] at hc;cases hc
  rcases hx with hk | hk
  · refine wpAny_storeName_local hk hn (fun h' hn' hs=>?_) hcls
    obtain ⟨oL,_,_,hoL,_⟩:=id hn
    refine h _ ⟨I.ok,I.os,I.bare,⟨fun b o e n hb hx=>?_,fun b o e n hb hx=>?_,I.base.free,fun b o e hx=>?_,I.base.tups,I.base.frzs,I.base.tbls⟩,⟨_,hn',fun j y v' e1 e2 e3=>?_⟩,fun y c e=>?_,I.free,I.freeC,fun p hp=>?_,tracked ⟨oL,hoL,I.free⟩ hs,by simpa using I.len⟩ ⟨_,hs,.inl rfl⟩
    · exact (hs.2 b (Nat.ne_of_lt (Nat.lt_of_lt_of_le (Heap.lt_size e) I.ok.above))).trans (I.base.keep b o e n hb hx)
    · obtain ⟨sl,e1⟩:=I.base.slot b o e n hb hx
      exact ⟨sl,(hs.2 b (Nat.ne_of_lt (Nat.lt_of_lt_of_le (Heap.lt_size e) I.ok.above))).trans e1⟩
    · obtain ⟨o',e1⟩:=I.base.there b o e hx
      exact ⟨o',(hs.2 b (Nat.ne_of_lt (Nat.lt_of_lt_of_le (Heap.lt_size e) I.ok.above))).trans e1⟩
    · by_cases hj:j=i
      · subst hj
        rw [hi] at e1;cases e1
        rw [List.getElem?_set_self hiσ] at e2
        cases e2
        exact ⟨u,r,.inl ⟨hk,by simp⟩⟩
      · rw [List.getElem?_set_ne (Ne.symm hj)] at e2
        obtain ⟨u',r',q⟩:=hl j y v' e1 e2 e3
        refine ⟨u',r',?_⟩
        rcases q with ⟨k,e⟩ | ⟨k,c,e,z⟩
        · refine .inl ⟨k,?_⟩
          have:y≠x:=fun e=>hj (oh hN e1 (e▸hi))
          simp [this,e]
        · exact .inr ⟨k,c,e,z.sameBut hs (cne y c e)⟩
    · obtain ⟨w',z⟩:=I.cell y c e
      exact ⟨w',z.sameBut hs (cne y c e)⟩
    · obtain ⟨e,n,ne,nf,d⟩:=I.pin p hp
      exact ⟨(hs.2 p.1 ne).trans e,n,ne,nf,d⟩
  · have hfn:X.fn x=true:=by
      rcases hf with z | z
      · exact z
      · rw [z] at hk;cases hk
    obtain ⟨c,hc⟩:=I.ok.has x (.inl hk)
    obtain ⟨w',z⟩:=I.cell x c hc
    refine wpAny_storeName_cell I.ok.kind hk hc z (fun h' hc' hs=>?_)
    obtain ⟨oc,hoc,hocd⟩:=id z
    refine h { s with heap:=h' } ⟨I.ok,I.os,I.bare,⟨fun b o e n hb hx=>?_,fun b o e n hb hx=>?_,I.base.free,fun b o e hx=>?_,I.base.tups,I.base.frzs,I.base.tbls⟩,⟨m,hn.sameBut hs (Ne.symm (cne x c hc)),fun j y v' e1 e2 e3=>?_⟩,fun y c' e=>?_,I.free,I.freeC,fun p hp=>?_,tracked ⟨oc,hoc,I.freeC x c hc⟩ hs,by simpa using I.len⟩ ⟨c,hs,.inr hc⟩
    · exact (hs.2 b (Nat.ne_of_lt (Nat.lt_of_lt_of_le (Heap.lt_size e) (I.ok.cab x c hfn hc)))).trans (I.base.keep b o e n hb hx)
    · obtain ⟨sl,e1⟩:=I.base.slot b o e n hb hx
      exact ⟨sl,(hs.2 b (Nat.ne_of_lt (Nat.lt_of_lt_of_le (Heap.lt_size e) (I.ok.cab x c hfn hc)))).trans e1⟩
    · obtain ⟨o',e1⟩:=I.base.there b o e hx
      exact ⟨o',(hs.2 b (Nat.ne_of_lt (Nat.lt_of_lt_of_le (Heap.lt_size e) (I.ok.cab x c hfn hc)))).trans e1⟩
    · by_cases hj:j=i
      · subst hj
        rw [hi] at e1;cases e1
        rw [List.getElem?_set_self hiσ] at e2
        cases e2
        exact ⟨u,r,.inr ⟨.inl hk,c,hc,hc'⟩⟩
      · rw [List.getElem?_set_ne (Ne.symm hj)] at e2
        obtain ⟨u',r',q⟩:=hl j y v' e1 e2 e3
        refine ⟨u',r',?_⟩
        rcases q with q | ⟨k,c',e,z'⟩
        · exact .inl q
        · refine .inr ⟨k,c',e,z'.sameBut hs ?_⟩
          rintro rfl
          exact hj (oh hN e1 (I.ok.inj _ _ _ e hc▸hi))
    · by_cases hcc:c'=c
      · subst hcc;exact ⟨_,hc'⟩
      · obtain ⟨w2,z2⟩:=I.cell y c' e
        exact ⟨w2,z2.sameBut hs hcc⟩
    · obtain ⟨e,n,ne,nf,d⟩:=I.pin p hp
      refine ⟨(hs.2 p.1 ?_).trans e,n,ne,nf,d⟩
      intro q
      rw [q,hoc] at e
      have q':oc=p.2:=Option.some.inj e
      exact d w' (by rw [← q'];exact hocd)
theorem gn {M:Model}{A:Around}{E:Value→Shared→Prop}{i:Nat}{x:Str}{v:V}{u:Value}{Q:Unit→Shared→Prop} (I:Inv X pins σ H s) (hN:X.N.Nodup) (hi:X.N[i]?=some x) (hx:Loc X.env.scope x) (r:RelV v u)
    (h:∀ s',Inv X pins (σ.set i (some v)) H s'→Q () s') (hf:X.fn x=true∨X.env.scope.names.lookup x=some .local:=by first | exact .inl rfl | exact .inr rfl | assumption):wpAny M A (storeName X.env x u) Q E s :=
  lr I hN hi hx r (fun s' I' _=>h s' I') hf
theorem Inv.call' {s' : Shared} {ch : List Addr} (I : Inv X pins σ H s) (ho : s'.os = s.os) (u : Un (frs X.stack) ch H H' s.heap s'.heap) (hok : HOk X.prog X.w H' s'.heap) (hg : AllBare s'.gens)
    (hch : ∀ b ∈ ch, (b ∈ X.ex ∨ X.s₀.heap.objs.size ≤ b) ∧ b ≠ X.env.locals ∧ (∀ x c, X.env.cells.lookup x = some c → c ≠ b) ∧ ∀ p ∈ X.pn ++ pins, p.1 ≠ b) : Inv X pins σ H' s' := by
  obtain ⟨h', g', d', t', o'⟩ := s'
  have e : o' = s.os := ho
  subst e
  exact I.call (g' := g') (t' := t') (d' := d') u hok hg hch
end
abbrev XK := Value → Option Addr → Hp → Prop
abbrev St := List (Option V)
abbrev VK := V → Hp → Prop
abbrev TE := St → Hp → VK → Prop
abbrev TT := St → Hp → (Bool → Hp → Prop) → Prop
abbrev TA := St → Hp → (List V → Hp → Prop) → Prop
structure oI where
  nx:St→Hp→Prop
  rt:VK
  bk:St→Hp→Prop:=fun _ _=>False
  ct:St→Hp→Prop:=fun _ _=>False
abbrev TS:=oI→St→Hp→Prop
def EP (X : Cx) (pins : List (Addr × Obj)) (σ : St) (Q : VK) (u : Value) (s' : Shared) : Prop := ∃ v H', Inv X pins σ H' s' ∧ RelV v u ∧ Q v H'
def TP (X : Cx) (pins : List (Addr × Obj)) (σ : St) (Q : Bool → Hp → Prop) (b : Bool) (s' : Shared) : Prop := ∃ H', Inv X pins σ H' s' ∧ Q b H'
def AP (X : Cx) (pins : List (Addr × Obj)) (σ : St) (Q : List V → Hp → Prop) (us : List Value) (s' : Shared) : Prop := ∃ vs H', Inv X pins σ H' s' ∧ Vals vs us ∧ Q vs H'
def SP (X:Cx) (pins:List (Addr×Obj)) (D:oI) (f:Flow) (s':Shared):Prop :=
  match f with
  | .next=>∃ σ' H',Inv X pins σ' H' s'∧D.nx σ' H'
  | .brk=>∃ σ' H',Inv X pins σ' H' s'∧D.bk σ' H'
  | .cont=>∃ σ' H',Inv X pins σ' H' s'∧D.ct σ' H'
  | .ret u=>∃ v σ' H',Inv X pins σ' H' s'∧RelV v u∧D.rt v H'
def PE (X : Cx) (e : Expr) (t : TE) : Prop :=
  ∀ (pins : List (Addr × Obj)) (s : Shared) (σ : St) (H : Hp) (Q : VK), Inv X pins σ H s → t σ H Q → wpAny (model X.prog X.w) X.A (eval e X.env) (EP X pins σ Q) X.xe s
def PT (X : Cx) (e : Expr) (t : TT) : Prop :=
  ∀ (pins : List (Addr × Obj)) (s : Shared) (σ : St) (H : Hp) (Q : Bool → Hp → Prop), Inv X pins σ H s → t σ H Q → wpAny (model X.prog X.w) X.A (isTrue e X.env (eval e X.env)) (TP X pins σ Q) X.xe s
def PW (X : Cx) (e : Expr) (t : TT) : Prop :=
  ∀ (whole : Sem Value) (pins : List (Addr × Obj)) (s : Shared) (σ : St) (H : Hp) (Q : Bool → Hp → Prop), Inv X pins σ H s → t σ H Q → wpAny (model X.prog X.w) X.A (isTrue e X.env whole) (TP X pins σ Q) X.xe s
theorem PW.pt {X : Cx} {e : Expr} {t : TT} (h : PW X e t) : PT X e t := h _
def PA (X : Cx) (es : List Expr) (t : TA) : Prop :=
  ∀ (pos : Pos) (pins : List (Addr × Obj)) (s : Shared) (σ : St) (H : Hp) (Q : List V → Hp → Prop), Inv X pins σ H s → t σ H Q → wpAny (model X.prog X.w) X.A (spliced (backTo pos (starEach es X.env))) (AP X pins σ Q) X.xe s
def PS (X : Cx) (st : Stmt) (t : TS) : Prop :=
  ∀ (pins : List (Addr × Obj)) (s : Shared) (σ : St) (H : Hp) (D : oI), Inv X pins σ H s → t D σ H → wpAny (model X.prog X.w) X.A (exec st X.env) (SP X pins D) X.xe s
def PSs (X : Cx) (st : List Stmt) (t : TS) : Prop :=
  ∀ (pins : List (Addr × Obj)) (s : Shared) (σ : St) (H : Hp) (D : oI), Inv X pins σ H s → t D σ H → wpAny (model X.prog X.w) X.A (execs st X.env) (SP X pins D) X.xe s
theorem thn {α : Type} {t : Sem α} {Q Q' : α → Shared → Prop} {M : Model} {A : Around} {E : Value → Shared → Prop} {s : Shared} (h : wpAny M A t Q E s) (hQ : ∀ a s, Q a s → Q' a s) : wpAny M A t Q' E s := wpAny_mono h hQ fun _ _ x => x
end L2
namespace L2
open PySem PySem.Spec PyProof.Rows
section
variable {X:Cx}
def tVar (i : Nat) : TE := fun σ H Q => ∃ v, σ[i]? = some (some v) ∧ Q v H
def tC (v : V) : TE := fun _ H Q => Q v H
theorem pe_var {i : Nat} {x : Str} {pos : Pos} (hN : X.N[i]? = some x) (hv : Vis X.env.scope x) (hd : (x == ("__debug__" : Str)) = false := by decide) (hcd : (x == ("__classdict__" : Str)) = false := by decide) : PE X (.Name x pos) (tVar i) := by
  intro pins s σ H Q I h
  obtain ⟨v, e, h⟩ := h
  obtain ⟨m, hn, hl⟩ := I.loc
  obtain ⟨u, r, l⟩ := hl i x v hN e hv
  have fin : EP X pins σ Q u s := ⟨v, H, I, r, h⟩
  rcases l with ⟨hk, hm⟩ | ⟨hk, c, hc, hcell⟩
  · exact wpAny_Name (wpAny_loadName_local I.ok.kind hk hn hm fin) hd
  · rcases hk with hk | hk
    · exact wpAny_Name (wpAny_loadName_cell I.ok.kind hk hc hcell fin) hd
    · exact wpAny_Name (wpAny_loadName_free I.ok.kind hk hc hcell fin hcd) hd
theorem ae {i j pos}:PE X (.Constant (.int i) j pos) (tC (.int i)):=fun _ _ _ H _ I h=>wpAny_Constant_int ⟨.int i,H,I.tok _,⟨_,rfl⟩,h⟩
theorem eV {b j pos}:PE X (.Constant (.bool b) j pos) (tC (.bl b)):=fun _ _ _ H _ I h=>Constant_bool ⟨.bl b,H,I,rfl,h⟩
theorem pe_non {j pos} : PE X (.Constant .none j pos) (tC .non) := fun _ _ _ H _ I h => Constant_none ⟨.non, H, I, rfl, h⟩
theorem aP {x j pos}:PE X (.Constant (.str x) j pos) (tC (.str x)):=fun _ _ _ H _ I h=>Calls.Constant_str ⟨.str x,H,I.tok _,⟨_,rfl⟩,h⟩
def Gl (X : Cx) (x : Str) : Prop := X.env.kindOf x = some .globalImplicit
theorem kQ {E:Value→Shared→Prop}{pins:List (Addr×Obj)}{s:Shared}{σ:St}{H:Hp}{x:Str}{u:Value}{pos:Pos}{Q:Value→Shared→Prop} (I:Inv X pins σ H s) (hg:Gl X x) (hm:X.mg x=some u) (h:Q u s)
    (hd:(x == ("__debug__":Str))=false:=by decide):wpAny (model X.prog X.w) X.A (eval (.Name x pos) X.env) Q E s :=
  Calls.Name_function_global I.ok.kind hg (Calls.loadGlobal_global (by rw [I.ok.glob];exact I.mod.glob.keeps I.bk) hm h) hd
theorem eT {E:Value→Shared→Prop}{pins:List (Addr×Obj)}{s:Shared}{σ:St}{H:Hp}{x:Str}{u:Value}{pos:Pos}{Q:Value→Shared→Prop} (I:Inv X pins σ H s) (hg:Gl X x) (hm:X.mg x=none) (hv:bootBuiltins x=some u) (h:Q u s)
    (hn:x≠"__name__":=by decide) (hd:(x == ("__debug__":Str))=false:=by decide):wpAny (model X.prog X.w) X.A (eval (.Name x pos) X.env) Q E s:=by
  obtain ⟨mb,h1,h2⟩:=I.mod.blt
  exact Calls.Name_function_global I.ok.kind hg (Calls.loadGlobal_builtin (by rw [I.ok.glob];exact I.mod.glob.keeps I.bk) hm (by rw [I.ok.blt];exact h1.keeps I.bk) ((h2 x hn).trans hv) h) hd
theorem m4 {x:Str}{v:V}{u:Value}{pos:Pos} (hg:Gl X x) (hm:X.mg x=some u) (r:RelV v u) (hd:(x == ("__debug__":Str))=false:=by decide):PE X (.Name x pos) (tC v) :=
  fun _ _ _ H _ I h=>kQ I hg hm ⟨v,H,I,r,h⟩ hd
variable {a b : Expr} {ta tb : TE} {pos : Pos}
def tB (t : TE) : TT := fun σ H Q => t σ H fun x H1 => ∃ c, x = .bl c ∧ Q c H1
theorem gC {e:Expr}{t:TE} (h:PE X e t) (he:∀ whole,isTrue e X.env whole=(do let v ← whole;standAt e.pos;holding [v] (truthy v)):=by intro _;rfl):PT X e (tB t):=by
  intro pins s σ H Q I hw
  refine isTrue_plain (thn (h pins s σ H _ I hw) fun v s1 ⟨x,H1,I1,r1,q1⟩=>?_) (he _)
  obtain ⟨d,rfl,q⟩:=q1
  cases r1
  exact wpAny_truthy_bool ⟨H1,I1,q⟩
variable {tA tB' : TT} {rest : List Expr}
def tAnd (t u : TT) : TT := fun σ H Q => t σ H fun c H1 => if c = true then u σ H1 Q else Q false H1
def tOr (t u : TT) : TT := fun σ H Q => t σ H fun c H1 => if c = true then Q true H1 else u σ H1 Q
def tNot (t : TT) : TT := fun σ H Q => t σ H fun c H1 => Q (!c) H1
theorem pw_and1 (ha : PT X a tA) : PW X (.BoolOp .And [a] pos) tA := by
  intro wh pins s σ H Q I h
  refine isTrue_and (thn (ha pins s σ H Q I h) fun c s1 e => ?_)
  cases c with
  | true => exact isTrue_and_nil e
  | false => exact e
theorem gB (ha:PT X a tA):PW X (.BoolOp .Or [a] pos) tA:=by
  intro wh pins s σ H Q I h
  refine isTrue_or (thn (ha pins s σ H Q I h) fun c s1 e=>?_)
  cases c with
  | false=>exact isTrue_or_nil e
  | true=>exact e
theorem pw_and (ha : PT X a tA) (hb : PW X (.BoolOp .And (b :: rest) pos) tB') : PW X (.BoolOp .And (a :: b :: rest) pos) (tAnd tA tB') := by
  intro wh pins s σ H Q I h
  refine isTrue_and (thn (ha pins s σ H _ I h) fun c s1 ⟨H1, I1, q1⟩ => ?_)
  cases c with
  | true => exact hb wh pins s1 σ H1 Q I1 q1
  | false => exact ⟨H1, I1, q1⟩
theorem jE (ha:PT X a tA) (hb:PW X (.BoolOp .Or (b::rest) pos) tB'):PW X (.BoolOp .Or (a::b::rest) pos) (tOr tA tB'):=by
  intro wh pins s σ H Q I h
  refine isTrue_or (thn (ha pins s σ H _ I h) fun c s1 ⟨H1,I1,q1⟩=>?_)
  cases c with
  | true=>exact ⟨H1,I1,q1⟩
  | false=>exact hb wh pins s1 σ H1 Q I1 q1
theorem gD (ha:PT X a tA):PT X (.UnaryOp .Not a pos) (tNot tA):=by
  intro pins s σ H Q I h
  exact isTrue_not (ha pins s σ H (fun c H1=>Q (!c) H1) I h)
def tAndV (ta tb : TE) : TE := fun σ H Q => ta σ H fun x H1 => ∃ c, x = .bl c ∧ if c = true then tb σ H1 Q else Q (.bl false) H1
def tOrV (ta tb : TE) : TE := fun σ H Q => ta σ H fun x H1 => ∃ c, x = .bl c ∧ if c = true then Q (.bl true) H1 else tb σ H1 Q
theorem pe_one {op} {t : TE} (h : PE X a t) : PE X (.BoolOp op [a] pos) t := fun pins s σ H Q I hw => BoolOp_one (h pins s σ H Q I hw)
theorem pe_and (ha : PE X a ta) (hb : PE X (.BoolOp .And (b :: rest) pos) tb) : PE X (.BoolOp .And (a :: b :: rest) pos) (tAndV ta tb) := by
  intro pins s σ H Q I h
  refine BoolOp_and (thn (ha pins s σ H _ I h) fun v s1 ⟨x, H1, I1, r1, q1⟩ => ?_)
  obtain ⟨c, rfl, q1⟩ := q1
  cases r1
  refine wpAny_truthy_bool ?_
  cases c with
  | true => exact hb pins s1 σ H1 Q I1 q1
  | false => exact ⟨.bl false, H1, I1, rfl, q1⟩
theorem pe_or (ha : PE X a ta) (hb : PE X (.BoolOp .Or (b :: rest) pos) tb) : PE X (.BoolOp .Or (a :: b :: rest) pos) (tOrV ta tb) := by
  intro pins s σ H Q I h
  refine BoolOp_or (thn (ha pins s σ H _ I h) fun v s1 ⟨x, H1, I1, r1, q1⟩ => ?_)
  obtain ⟨c, rfl, q1⟩ := q1
  cases r1
  refine wpAny_truthy_bool ?_
  cases c with
  | false => exact hb pins s1 σ H1 Q I1 q1
  | true => exact ⟨.bl true, H1, I1, rfl, q1⟩
def tIf (t : TT) (ta tb : TE) : TE := fun σ H Q => t σ H fun c H1 => if c = true then ta σ H1 Q else tb σ H1 Q
theorem kJ {c:Expr} (hc:PT X c tA) (ha:PE X a ta) (hb:PE X b tb):PE X (.IfExp c a b pos) (tIf tA ta tb):=by
  intro pins s σ H Q I h
  refine wpAny_IfExp (thn (hc pins s σ H _ I h) fun d s1 ⟨H1,I1,q1⟩=>?_)
  cases d with
  | true=>exact ha pins s1 σ H1 Q I1 q1
  | false=>exact hb pins s1 σ H1 Q I1 q1
end
end L2
namespace L2
open PySem PySem.Spec PyProof.Rows
def SqL (K : PySem.W.Frag) (H : Hp) (a : Addr) (xs : List V) : Prop :=
  Rd H a (.lst xs) ∨
    ∃ (o : Obj) (its : Array Value) (n : Nat), K.lookup a = some o ∧ o.cls = .type "list" ∧ o.dict = none ∧ o.data = .seq its n ∧ its.size ≤ sizeLine ∧ Vals xs its.toList
def SqT (K : PySem.W.Frag) (H : Hp) (a : Addr) (xs : List V) : Prop :=
  Rd H a (.tup xs) ∨
    ∃ (o : Obj) (its : Array Value) (n : Nat), K.lookup a = some o ∧ o.cls = .type "tuple" ∧ o.data = .seq its n ∧ its.size ≤ sizeLine ∧ Vals xs its.toList
def absV : Value → Option V
  | .none => some .non
  | .bool b => some (.bl b)
  | .int i _ => some (.int i)
  | .str x _ => some (.str x)
  | .bytes b _ => some (.byt b)
  | .float b _ => some (.flt b)
  | .ref a => some (.ref a)
  | .type n => some (.ty n)
  | _ => none
theorem RelV.abs {x : V} {u : Value} (r : RelV x u) : absV u = some x := by
  cases x with
  | non => cases r; rfl
  | bl _ => cases r; rfl
  | int _ => obtain ⟨t, rfl⟩ := r; rfl
  | str _ => obtain ⟨t, rfl⟩ := r; rfl
  | byt _ => obtain ⟨t, rfl⟩ := r; rfl
  | flt _ => obtain ⟨t, rfl⟩ := r; rfl
  | ref _ => cases r; rfl
  | ty _ => cases r; rfl
theorem RelV.inj {x y : V} {u : Value} (r : RelV x u) (q : RelV y u) : x = y := Option.some.inj (r.abs.symm.trans q.abs)
theorem Vals.inj : ∀ {xs ys : List V} {us : List Value}, Vals xs us → Vals ys us → xs = ys
  | _, _, _, .nil, .nil => rfl
  | _, _, _, .cons r t, .cons r' t' => by rw [r.inj r', Vals.inj t t']
section
variable {X : Cx} {pins : List (Addr × Obj)} {σ : St} {H : Hp} {s : Shared} {a : Addr} {xs ys : List V}
theorem SqL.of {K : PySem.W.Frag} (h : H a = some (.lst xs)) : SqL K H a xs := .inl (.inl h)
theorem SqT.of {K : PySem.W.Frag} (h : H a = some (.tup xs)) : SqT K H a xs := .inl (.inl h)
theorem Inv.list (I : Inv X pins σ H s) (h : SqL X.K H a xs) : ∃ its : List Value, Vals xs its ∧ PlainL s.heap a its.toArray ∧ xs.length ≤ sizeLine := by
  rcases h with h | ⟨o, its, n, hk, hc, hd, hs, hz, r⟩
  · obtain ⟨z, its, n, r, e⟩ := h.ok I.hok
    exact ⟨its, r, ⟨_, n, e, rfl, rfl, rfl⟩, z⟩
  · refine ⟨its.toList, r, ⟨o, n, I.kIn a o hk, hc, hd, by simpa using hs⟩, ?_⟩
    have e := r.length
    simp only [Array.length_toList] at e
    omega
theorem Inv.tuple (I : Inv X pins σ H s) (h : SqT X.K H a xs) : ∃ its : List Value, Vals xs its ∧ IsTup s.heap a its.toArray ∧ xs.length ≤ sizeLine := by
  rcases h with h | ⟨o, its, n, hk, hc, hs, hz, r⟩
  · obtain ⟨z, its, r, p⟩ := h.ok I.hok
    exact ⟨its, r, p, z⟩
  · refine ⟨its.toList, r, ⟨o, I.kIn a o hk, hc, n, by simpa using hs⟩, ?_⟩
    have e := r.length
    simp only [Array.length_toList] at e
    omega
theorem Inv.list_inj (I : Inv X pins σ H s) (h : SqL X.K H a xs) (h' : SqL X.K H a ys) : xs = ys := by
  obtain ⟨its, r, ⟨o, n, e, _, _, d⟩, _⟩ := I.list h
  obtain ⟨its', r', ⟨o', n', e', _, _, d'⟩, _⟩ := I.list h'
  rw [e] at e'; cases e'
  rw [d] at d'
  injection d' with d1 _
  have : its = its' := by simpa using congrArg Array.toList d1
  subst this
  exact r.inj r'
end
abbrev Cx.wish (X : Cx) (E : Value → Shared → Prop) : Cx := { X with xe := E }
abbrev Cx.nox (X : Cx) : Cx := X.wish fun _ _ => False
theorem Cx.Ok.wish {X : Cx} (ok : X.Ok) (E : Value → Shared → Prop) : (X.wish E).Ok :=
  ⟨ok.mod, ok.kind, ok.glob, ok.blt, ok.above, ok.inj, ok.has, ok.cab, ok.hd, ok.frames, ok.stk, ok.exf, ok.bs, ok.bsz, ok.noex, ok.exfs, ok.funs, ok.frf⟩
theorem Cx.Ok.unwish {X : Cx} {E : Value → Shared → Prop} (ok : (X.wish E).Ok) : X.Ok :=
  ⟨ok.mod, ok.kind, ok.glob, ok.blt, ok.above, ok.inj, ok.has, ok.cab, ok.hd, ok.frames, ok.stk, ok.exf, ok.bs, ok.bsz, ok.noex, ok.exfs, ok.funs, ok.frf⟩
section
variable {X : Cx} {pins : List (Addr × Obj)} {σ : St} {H : Hp} {s : Shared} {E : Value → Shared → Prop}
theorem Inv.wish (I : Inv X pins σ H s) (E : Value → Shared → Prop) : Inv (X.wish E) pins σ H s := ⟨I.ok.wish E, I.os, I.bare, I.base, I.loc, I.cell, I.free, I.freeC, I.pin, I.hok, I.len⟩
theorem Inv.unwish (I : Inv (X.wish E) pins σ H s) : Inv X pins σ H s := ⟨I.ok.unwish, I.os, I.bare, I.base, I.loc, I.cell, I.free, I.freeC, I.pin, I.hok, I.len⟩
theorem SP.unwish {D:oI}{f:Flow}{s':Shared} (h:SP (X.wish E) pins D f s'):SP X pins D f s':=by
  cases f with
  | next=>obtain ⟨σ',H',I,q⟩:=h;exact ⟨σ',H',I.unwish,q⟩
  | brk=>obtain ⟨σ',H',I,q⟩:=h;exact ⟨σ',H',I.unwish,q⟩
  | cont=>obtain ⟨σ',H',I,q⟩:=h;exact ⟨σ',H',I.unwish,q⟩
  | ret u=>obtain ⟨v,σ',H',I,r,q⟩:=h;exact ⟨v,σ',H',I.unwish,r,q⟩
theorem PSs.nox {st : List Stmt} {t : TS} (h : PSs X.nox st t) : PSs X st t := fun pins s σ H D I hw =>
  wpAny_mono (h pins s σ H D (I.wish _) hw) (fun _ _ q => q.unwish) fun _ _ z => False.elim z
end
section
variable {X : Cx} {st : Stmt} {rest : List Stmt} {t u : TS} {e : Expr} {te : TE} {pos : Pos}
def tNext : TS := fun D σ H => D.nx σ H
def tSeq (t u : TS) : TS := fun D σ H => t { D with nx := u D } σ H
theorem aI:PSs X [] tNext:=fun _ _ σ H _ I h=>wpAny_execs_nil ⟨σ,H,I,h⟩
theorem ad (h1:PS X st t) (h2:PSs X rest u):PSs X (st::rest) (tSeq t u):=by
  intro pins s σ H D I h
  refine wpAny_execs_cons (thn (h1 pins s σ H { D with nx:=u D } I h) fun f s1 q=>?_)
  cases f with
  | next =>
    obtain ⟨σ',H',I',q⟩:=q
    exact h2 pins s1 σ' H' D I' q
  | ret v=>exact q
  | brk=>exact q
  | cont=>exact q
theorem ah (h1:PS X st t):PSs X [st] t:=by
  intro pins s σ H D I h
  refine wpAny_execs_cons (thn (h1 pins s σ H D I h) fun f s1 q=>?_)
  cases f with
  | next=>exact wpAny_execs_nil q
  | ret v=>exact q
  | brk=>exact q
  | cont=>exact q
theorem Inv.quiet {pins : List (Addr × Obj)} {σ : St} {H : Hp} {s : Shared} (I : Inv X pins σ H s) : interactive X.env = false := by simp [interactive, I.ok.kind]
def tDrop (te : TE) : TS := fun D σ H => te σ H fun _ H1 => D.nx σ H1
theorem bc (he:PE X e te) (hs:swapsWith e none pos.line X.env=pure false:=by rfl):PS X (.Expr e pos) (tDrop te):=by
  intro pins s σ H D I h
  exact wpAny_Expr_any (thn (he pins s σ H _ I h) fun v s1 ⟨x,H1,I1,r1,q1⟩=>⟨σ,H1,I1,q1⟩) I.quiet hs
def tRet (te : TE) : TS := fun D σ H => te σ H D.rt
theorem aA (he:PE X e te):PS X (.Return (some e) pos) (tRet te):=by
  intro pins s σ H D I h
  exact wpAny_Return_some (thn (he pins s σ H _ I h) fun v s1 ⟨x,H1,I1,r1,q1⟩=>⟨x,σ,H1,I1,r1,q1⟩)
def tIfS (c : TT) (t u : TS) : TS := fun D σ H => c σ H fun b H1 => if b = true then t D σ H1 else u D σ H1
theorem bd {c:Expr}{a b:List Stmt}{tc:TT} (hc:PT X c tc) (ha:PSs X a t) (hb:PSs X b u):PS X (.If c a b pos) (tIfS tc t u):=by
  intro pins s σ H D I h
  refine wpAny_If (thn (hc pins s σ H _ I h) fun d s1 ⟨H1,I1,q1⟩=>?_)
  cases d with
  | true=>exact ha pins s1 σ H1 D I1 q1
  | false=>exact hb pins s1 σ H1 D I1 q1
def tNever : TS := fun _ _ _ => False
theorem kD:PS X st tNever:=fun _ _ _ _ _ _ h=>h.elim
end
abbrev TG := V → St → Hp → (St → Hp → Prop) → Prop
abbrev TGs := List V → St → Hp → (St → Hp → Prop) → Prop
def PG (X : Cx) (target : Expr) (t : TG) : Prop :=
  ∀ (pins : List (Addr × Obj)) (s : Shared) (σ : St) (H : Hp) (v : V) (u : Value) (Q : St → Hp → Prop), Inv X pins σ H s → RelV v u → t v σ H Q →
    wpAny (model X.prog X.w) X.A (assign target X.env u) (fun _ s' => ∃ σ' H', Inv X pins σ' H' s' ∧ Q σ' H') X.xe s
def PGs (X : Cx) (ts : List Expr) (t : TGs) : Prop :=
  ∀ (pins : List (Addr × Obj)) (s : Shared) (σ : St) (H : Hp) (vs : List V) (us : List Value) (Q : St → Hp → Prop), Inv X pins σ H s → Vals vs us → t vs σ H Q →
    wpAny (model X.prog X.w) X.A (assignInOrder ((assignEach ts X.env).map (·.2)) us) (fun _ s' => ∃ σ' H', Inv X pins σ' H' s' ∧ Q σ' H') X.xe s
abbrev TSet := V → V → V → Hp → (Hp → Prop) → Prop
def PSet (X : Cx) (t : TSet) : Prop :=
  ∀ (pins : List (Addr × Obj)) (s : Shared) (σ : St) (H : Hp) (o i v : V) (ov iv u : Value) (Q : Hp → Prop), Inv X pins σ H s → RelV o ov → RelV i iv → RelV v u → t o i v H Q →
    wpAny (model X.prog X.w) X.A (setItem ov iv u) (fun _ s' => ∃ H', Inv X pins σ H' s' ∧ Q H') X.xe s
abbrev TIp := V → V → Hp → VK → Prop
def PIp (X : Cx) (op : Operator) (t : TIp) : Prop :=
  ∀ (pins : List (Addr × Obj)) (s : Shared) (σ : St) (H : Hp) (x y : V) (v u : Value) (Q : VK), Inv X pins σ H s → RelV x v → RelV y u → t x y H Q →
    wpAny (model X.prog X.w) X.A (inplaceOp op v u) (EP X pins σ Q) X.xe s
section
variable {X : Cx} {pos : Pos}
def gName (i : Nat) : TG := fun v σ H Q => Q (σ.set i (some v)) H
theorem ar {i:Nat}{x:Str} (hN:X.N.Nodup) (hi:X.N[i]?=some x) (hx:Loc X.env.scope x) (hf:X.fn x=true∨X.env.scope.names.lookup x=some .local:=by first | exact .inl rfl | exact .inr rfl | assumption):PG X (.Name x pos) (gName i):=by
  intro pins s σ H v u Q I r h
  exact wpAny_assign_Name (gn I hN hi hx r (fun s' I'=>⟨_,H,I',h⟩) hf)
def gNil : TGs := fun vs σ H Q => vs = [] ∧ Q σ H
def gCons (t : TG) (u : TGs) : TGs := fun vs σ H Q => ∃ v r, vs = v :: r ∧ t v σ H fun σ' H' => u r σ' H' Q
theorem bF:PGs X [] gNil:=by
  intro pins s σ H vs us Q I r h
  obtain ⟨e,h⟩:=h
  subst e
  cases r
  exact assignInOrder_nil ⟨σ,H,I,h⟩
theorem aE {e:Expr}{es:List Expr}{t:TG}{u:TGs} (h1:PG X e t) (h2:PGs X es u)
    (hs:(assignEach (e::es) X.env).map (·.2)=assign e X.env::(assignEach es X.env).map (·.2):=by rfl):PGs X (e::es) (gCons t u):=by
  intro pins s σ H vs us Q I r h
  obtain ⟨v,vr,e1,h⟩:=h
  subst e1
  cases r with
  | cons r rr =>
    rw [hs]
    refine assignInOrder_cons (thn (h1 pins s σ H _ _ _ I r h) fun _ s1 ⟨σ1,H1,I1,q1⟩=>?_)
    exact h2 pins s1 σ1 H1 _ _ Q I1 rr q1
def gTup (K : PySem.W.Frag) (n : Nat) (t : TGs) : TG := fun v σ H Q => ∃ a xs, v = .ref a ∧ SqT K H a xs ∧ xs.length = n ∧ t xs σ H Q
theorem fS {es:List Expr}{k:Nat}{t:TGs}{n:Nat} (hc:X.calm=true) (h:PGs X es t)
    (hn:(assignEach es X.env).length=n:=by rfl) (hst:(assignEach es X.env).findIdx? (·.1)=none:=by rfl):PG X (.Tuple es k pos) (gTup X.K n t):=by
  intro pins s σ H v u Q I r hw
  obtain ⟨a,xs,e1,hq,hl,hw⟩:=hw
  subst e1
  cases r
  obtain ⟨its,rv,ht,hz⟩:=I.tuple hq
  refine assign_Tuple_tuple (I.ok.hd hc) ht (by simp [hn,← hl,rv.length]) hst fun h' hx=>?_
  have I1:Inv X pins σ H { s with heap:=h' }:=I.kept (t':=s.toks) fun b o e=>hx b o (Nat.ne_of_lt (Heap.lt_size e)) e
  exact h pins _ σ H xs _ Q I1 (by simpa using rv) hw
def gSub (to ti : TE) (t : TSet) : TG := fun v σ H Q => to σ H fun o H1 => ti σ H1 fun i H2 => t o i v H2 fun H3 => Q σ H3
theorem lS {o i:Expr}{to ti:TE}{t:TSet} (ho:PE X o to) (hi:PE X i ti) (hs:PSet X t)
    (ha:∀ v,assign (.Subscript o i pos) X.env v=(do
      let ov ← holding [v] (eval o X.env)
      let iv ← holding [v,ov] (eval i X.env)
      standAt pos
      holding [v,ov,iv] (setItem ov iv v)
      release [v,ov,iv] []):=by intro _;rfl):PG X (.Subscript o i pos) (gSub to ti t):=by
  intro pins s σ H v u Q I r h
  rw [ha]
  refine wpAny_bind (wpAny_holding (thn (ho pins s σ H _ I h) fun ov s1 ⟨x,H1,I1,r1,q1⟩=>?_))
  refine wpAny_bind (wpAny_holding (thn (hi pins s1 σ H1 _ I1 q1) fun iv s2 ⟨y,H2,I2,r2,q2⟩=>?_))
  refine wpAny_bind (wpAny_standAt (wpAny_bind (wpAny_holding (thn (hs pins s2 σ H2 x y v ov iv u _ I2 r1 r2 r q2) fun _ s3 ⟨H3,I3,q3⟩=>?_))))
  exact wpAny_release ⟨σ,H3,I3,q3⟩
def tAsg (te : TE) (g : TG) : TS := fun D σ H => te σ H fun x H1 => g x σ H1 D.nx
theorem jc {tg e:Expr}{te:TE}{g:TG} (he:PE X e te) (hg:PG X tg g) (hs:swapsWithSole [tg] e pos.line X.env=pure false:=by rfl) (hw:swappedStores [tg] e X.env=pure none:=by rfl)
    (h1:(assignEach [tg] X.env).map (·.2)=[assign tg X.env]:=by rfl):PS X (.Assign [tg] e pos) (tAsg te g):=by
  intro pins s σ H D I h
  refine wpAny_Assign_stores (thn (he pins s σ H _ I h) fun v s1 ⟨x,H1,I1,r1,q1⟩=>?_) hs hw
  rw [h1]
  exact thn (hg pins s1 σ H1 x v _ I1 r1 q1) fun _ s2 q=>q
theorem aD {i:Nat}{x:Str}{e:Expr}{te:TE}{pos':Pos} (hN:X.N.Nodup) (hi:X.N[i]?=some x) (hx:Loc X.env.scope x) (he:PE X e te) (hs:swapsWith e (some (.Name x pos')) pos.line X.env=pure false:=by rfl) (hf:X.fn x=true∨X.env.scope.names.lookup x=some .local:=by first | exact .inl rfl | exact .inr rfl | assumption) :
    PS X (.Assign [.Name x pos'] e pos) (tAsg te (gName i)):=by
  intro pins s σ H D I h
  refine wpAny_Assign_Name (thn (he pins s σ H _ I h) fun v s1 ⟨y,H1,I1,r1,q1⟩=>?_) hs
  exact gn I1 hN hi hx r1 (fun s2 I2=>⟨_,H1,I2,q1⟩) hf
def tPar (i j : Nat) (ta : TA) : TS := fun D σ H => ta σ H fun vs H1 => ∃ v w, vs = [v, w] ∧ D.nx ((σ.set i (some v)).set j (some w)) H1
theorem ps_par {i j : Nat} {x y : Str} {a b : Expr} {ta : TA} {px py pt : Pos} {kt k2 pt2} (hc : X.calm = true) (hN : X.N.Nodup) (hi : X.N[i]? = some x) (hj : X.N[j]? = some y) (hij : i ≠ j)
    (hx : X.env.scope.names.lookup x = some .local) (hy : X.env.scope.names.lookup y = some .local) (ha : PA X [a, b] ta)
    (hw : swappedStores [.Tuple [.Name x px, .Name y py] kt pt] (.Tuple [a, b] k2 pt2) X.env = pure (some [x, y]))
    (hs : swapsWithSole [.Tuple [.Name x px, .Name y py] kt pt] (.Tuple [a, b] k2 pt2) pos.line X.env = pure false := by rfl) :
    PS X (.Assign [.Tuple [.Name x px, .Name y py] kt pt] (.Tuple [a, b] k2 pt2) pos) (tPar i j ta) := by
  intro pins s σ H D I h
  rw [exec_Assign_arm]
  refine wpAny_bind (wpAny_standAt ?_)
  rw [hs]
  refine wpAny_bind (wpAny_pure ?_)
  rw [if_neg (by decide)]
  refine wpAny_bind (Tuple_ (thn (ha _ pins s σ H _ I h) fun us s1 ⟨vs, H1, I1, r1, q1⟩ => ?_))
  obtain ⟨v, w, e1, q1⟩ := q1
  subst e1
  obtain ⟨u1, u2, rfl, rv, rw'⟩ : ∃ u1 u2, us = [u1, u2] ∧ RelV v u1 ∧ RelV w u2 := by
    cases r1 with
    | cons p q =>
      cases q with
      | cons p' q' =>
        cases q'
        exact ⟨_, _, rfl, p, p'⟩
  refine wpAny_newObj_type ?_ (by show 2 ≤ sizeLine; decide)
  have I2 : Inv X pins σ H1 { s1 with heap := s1.heap.push { cls := .type "tuple", data := .seq [u1, u2].toArray } } := I1.kept (t' := s1.toks) fun b o e => Heap.get?_push_of_some _ e
  rw [hw]
  refine wpAny_bind (wpAny_pure ?_)
  show wpAny (model X.prog X.w) X.A (do rule "assign.swapped-stores"; let items ← unpackItems (.ref s1.heap.objs.size) 2 none; assignInOrder [fun v => bindName X.env y v, fun v => bindName X.env x v] items.reverse; pure Flow.next) _ _ _
  refine wpAny_bind (wpAny_rule (wpAny_bind (unpackItems_tuple (items := #[u1, u2]) (I.ok.hd hc) (IsTup.new s1.heap _) fun h' hx' => ?_)))
  have I3 := I2.kept (h' := h') (t' := s1.toks) fun b o e => hx' b o (Nat.ne_of_lt (Heap.lt_size e)) e
  show wpAny _ _ (assignInOrder [fun v => bindName X.env y v, fun v => bindName X.env x v] [u2, u1] >>= fun _ => pure Flow.next) _ _ _
  refine wpAny_bind (assignInOrder_cons (wpAny_bindName (gn I3 hN hj (.inl hy) rw' (fun s2 I4 => ?_) (.inr hy))))
  refine assignInOrder_cons (wpAny_bindName (gn I4 hN hi (.inl hx) rv (fun s3 I5 => assignInOrder_nil (wpAny_pure ?_)) (.inr hx)))
  rw [List.set_comm _ _ (Ne.symm hij)] at I5
  exact ⟨_, H1, I5, q1⟩
def tAug (i : Nat) (te : TE) (ti : TIp) : TS := fun D σ H => ∃ x, σ[i]? = some (some x) ∧ te σ H fun y H1 => ti x y H1 fun z H2 => D.nx (σ.set i (some z)) H2
theorem ps_aug {i : Nat} {x : Str} {e : Expr} {te : TE} {op : Operator} {ti : TIp} {pos' : Pos} (hN : X.N.Nodup) (hi : X.N[i]? = some x) (hx : Loc X.env.scope x) (he : PE X e te) (ho : PIp X op ti) (hf : X.fn x = true ∨ X.env.scope.names.lookup x = some .local := by first | exact .inl rfl | exact .inr rfl | assumption) :
    PS X (.AugAssign (.Name x pos') op e pos) (tAug i te ti) := by
  intro pins s σ H D I h
  obtain ⟨v, e1, h⟩ := h
  obtain ⟨m, hn, hl⟩ := I.loc
  have vis : Vis X.env.scope x := by rcases hx with k | k; exact .inl k; exact .inr (.inl k)
  obtain ⟨u, r, l⟩ := hl i x v hi e1 vis
  refine wpAny_AugAssign_Name ?_
  have go : wpAny (model X.prog X.w) X.A (eval e X.env) (fun w s₂ => wpAny (model X.prog X.w) X.A (inplaceOp op u w) (fun r s₃ => wpAny (model X.prog X.w) X.A (storeName X.env x r) (fun _ => SP X pins D .next) X.xe s₃) X.xe s₂) X.xe s := by
    refine thn (he pins s σ H _ I h) fun w s1 ⟨y, H1, I1, r1, q1⟩ => ?_
    refine thn (ho pins s1 σ H1 v y u w _ I1 r r1 q1) fun z s2 ⟨zv, H2, I2, r2, q2⟩ => ?_
    exact gn I2 hN hi hx r2 (fun s3 I3 => ⟨_, H2, I3, q2⟩) hf
  rcases l with ⟨hk, hm⟩ | ⟨hk, c, hc, hcell⟩
  · exact wpAny_loadName_local I.ok.kind hk hn hm go
  · rcases hk with hk | hk
    · exact wpAny_loadName_cell I.ok.kind hk hc hcell go
    · rcases hx with k | k
      · have : X.env.scope.names.lookup x = some .free := hk
        rw [k] at this; cases this
      · have : X.env.scope.names.lookup x = some .free := hk
        rw [k] at this; cases this
def ipI (f : Int → Int → Int) : TIp := fun x y H Q => ∃ i j, x = .int i ∧ y = .int j ∧ Q (.int (f i j)) H
theorem ip_add : PIp X .Add (ipI fun i j => i + j) := by
  intro pins s σ H x y v u Q I r1 r2 h
  obtain ⟨i, j, e1, e2, q⟩ := h
  subst e1; subst e2
  obtain ⟨t, rfl⟩ := r1
  obtain ⟨t', rfl⟩ := r2
  exact iadd_int ⟨.int _, H, I.tok _, ⟨_, rfl⟩, q⟩
end
section
variable {X : Cx} {pos : Pos}
def tWhile (c : TT) (tb : TS) : TS := fun D σ H => ∃ W : Nat → St → Hp → Prop, (∃ m, W m σ H) ∧ ∀ m σ H, W m σ H →
  c σ H fun b H1 => if b = true then ∃ N : St → Hp → Prop, (∀ σ' H', N σ' H' → ∃ m', m' < m ∧ W m' σ' H') ∧ tb { D with nx := N, ct := N, bk := D.nx } σ H1 else D.nx σ H1
theorem nX {c:Expr}{body:List Stmt}{tc:TT}{tb:TS} (hp:PassesOwn (model X.prog X.w) X.A X.env X.xe) (hc:PT X c tc) (hb:PSs X body tb):PS X (.While c body [] pos) (tWhile tc tb):=by
  intro pins s σ H D I h
  obtain ⟨W,⟨m0,w0⟩,turn⟩:=h
  refine wpAny_While (codeAny_whileLoop (fun n s'=>∃ σ' H',Inv X pins σ' H' s'∧W n σ' H') ?_ m0 ⟨σ,H,I,w0⟩)
  rintro n s1 ⟨σ1,H1,I1,w1⟩
  refine wpAny_passesOwn hp (thn (hc pins s1 σ1 H1 _ I1 (turn n σ1 H1 w1)) fun b s2 ⟨H2,I2,q2⟩=>?_)
  cases b with
  | true =>
    obtain ⟨N,hN,q2⟩:=q2
    rw [if_pos rfl]
    refine wpAny_passesOwn hp (thn (hb pins s2 σ1 H2 _ I2 q2) fun f s3 q3=>?_)
    cases f with
    | next =>
      obtain ⟨σ3,H3,I3,n3⟩:=q3
      obtain ⟨m',hm,w3⟩:=hN σ3 H3 n3
      exact ⟨m',hm,σ3,H3,I3,w3⟩
    | cont =>
      obtain ⟨σ3,H3,I3,n3⟩:=q3
      obtain ⟨m',hm,w3⟩:=hN σ3 H3 n3
      exact ⟨m',hm,σ3,H3,I3,w3⟩
    | brk=>exact q3
    | ret v=>exact q3
  | false =>
    rw [if_neg Bool.false_ne_true]
    exact wpAny_execs_nil ⟨σ1,H2,I2,q2⟩
end
structure It where
  go:Nat→Hp→Prop
  yld:Nat→Hp→V→Hp→Prop
  stop:Nat→Hp→Prop
def mI (X:Cx) (pins:List (Addr×Obj)) (H:Hp) (b:Addr):Prop :=
  H b=none∧b≠X.env.locals∧b∉X.fs∧(b∈X.ex∨X.s₀.heap.objs.size≤b)∧(∀ x c,X.env.cells.lookup x=some c→c≠b)∧∀ p∈X.pn++pins,p.1≠b
theorem Inv.fpOk {X:Cx}{pins:List (Addr×Obj)}{σ:St}{H H':Hp}{s:Shared}{b:Addr} (I:Inv X pins σ H s) (hb:s.heap.objs.size≤b) (hn:H' b=none):mI X pins H' b:=by
  refine ⟨hn,Nat.ne_of_gt (Nat.lt_of_lt_of_le I.lt hb),I.nofs hb,.inr (Nat.le_trans I.sz hb),fun x c e z=>?_,fun p hp z=>?_⟩
  · obtain ⟨v,q⟩:=I.cell x c e
    exact absurd (Nat.lt_of_lt_of_le q.lt (by rw [z];exact hb)) (Nat.lt_irrefl _)
  · exact absurd (Nat.lt_of_lt_of_le (Heap.lt_size (I.pin p hp).1) (by rw [z];exact hb)) (Nat.lt_irrefl _)
structure Turn (P : Program) (w : World) (K : PySem.W.Frag) (tg : Expr) (J : It) (fp : List Addr) (it : Addr) (tn : Nat → Heap → Prop) : Prop where
  mem : it ∈ fp
  obj : ∀ i h, tn i h → ∀ b ∈ fp, ∃ o, h.get? b = some o ∧ ∀ v, o.data ≠ .cell v
  keep : ∀ i h h', tn i h → (∀ b ∈ fp, ∀ o, h.get? b = some o → h'.get? b = some o) → tn i h'
  item : ∀ (X : Cx), X.prog = P → X.w = w → X.K = K → X.calm = true → ∀ (i : Nat) (pins : List (Addr × Obj)) (s : Shared) (σ : St) (H : Hp) (E : Value → Shared → Prop), Inv X pins σ H s → (∀ b ∈ fp, mI X pins H b) → tn i s.heap → J.go i H →
    wpAny (model P w) X.A (pyNext (.ref it)) (fun r s1 => ∃ u, r = some u ∧
      wpAny (model P w) X.A (letOwnedTupleGo tg (.ref it) u) (fun _ s2 => ∃ x H', Inv X pins σ H' s2 ∧ RelV x u ∧ J.yld i H x H' ∧ tn (i + 1) s2.heap ∧ ∀ b ∈ fp, H' b = none) E s1) E s
  done : ∀ (X : Cx), X.prog = P → X.w = w → X.K = K → X.calm = true → ∀ (i : Nat) (pins : List (Addr × Obj)) (s : Shared) (σ : St) (H : Hp) (E : Value → Shared → Prop), Inv X pins σ H s → (∀ b ∈ fp, mI X pins H b) → tn i s.heap → J.stop i H →
    wpAny (model P w) X.A (pyNext (.ref it)) (fun r s1 => r = none ∧ Inv X pins σ H s1) E s
  self : ∀ (A : Around) (i : Nat) (s : Shared) (Q : Value → Shared → Prop) (E : Value → Shared → Prop), tn i s.heap → Q (.ref it) s → wpAny (model P w) A (pyIter (.ref it)) Q E s
abbrev TI := St → Hp → (It → Hp → Prop) → Prop
def PIE (X : Cx) (pins : List (Addr × Obj)) (σ : St) (tg : Expr) (R : It → Hp → Prop) (itv : Value) (s2 : Shared) : Prop :=
  ∃ (it : Addr) (fp : List Addr) (tn : Nat → Heap → Prop) (J : It) (H' : Hp), itv = .ref it ∧ Inv X pins σ H' s2 ∧ Turn X.prog X.w X.K tg J fp it tn ∧ tn 0 s2.heap ∧ (∀ b ∈ fp, mI X pins H' b) ∧ R J H'
def PI (X : Cx) (tg iter : Expr) (wi : TI) : Prop :=
  ∀ (pins : List (Addr × Obj)) (s : Shared) (σ : St) (H : Hp) (R : It → Hp → Prop), Inv X pins σ H s → wi σ H R →
    wpAny (model X.prog X.w) X.A (eval iter X.env) (fun v s1 => wpAny (model X.prog X.w) X.A (pyIter v) (PIE X pins σ tg R) X.xe s1) X.xe s
theorem go_of {M : Model} {A : Around} {E : Value → Shared → Prop} {s : Shared} {tg : Expr} {it : Addr} {u : Value} {o : Obj} {n : String} {vs : Array Value} {Q : Unit → Shared → Prop} (ho : s.heap.get? it = some o) (hc : o.cls = .type n) (hd : o.data = .fields vs)
    (hn : ["enumerate", "zip", "dict_itemiterator", "dict_reverseitemiterator", "odict_iterator", "itertools.zip_longest", "itertools.pairwise"].contains n = false) (hQ : Q () s) : wpAny M A (letOwnedTupleGo tg (.ref it) u) Q E s := by
  unfold letOwnedTupleGo
  cases tg <;> first
    | exact wpAny_pure hQ
    | (cases u <;> first
        | exact wpAny_pure hQ
        | (refine wpAny_bind (wpAny_load ho ?_)
           rw [hc, hd]
           show wpAny M A (if (["enumerate", "zip", "dict_itemiterator", "dict_reverseitemiterator", "odict_iterator", "itertools.zip_longest", "itertools.pairwise"].contains n && vs[0]? == some (rawInt _)) = true then _ else _) Q E s
           rw [if_neg (by intro h; rw [hn, Bool.false_and] at h; cases h)]
           exact wpAny_pure hQ))
def Itl (K : PySem.W.Frag) (a : Addr) : It :=
  ⟨fun i H => ∃ xs x, SqL K H a xs ∧ xs[i]? = some x, fun i H x H' => H' = H ∧ ∀ xs, SqL K H a xs → xs[i]? = some x, fun i H => ∃ xs, SqL K H a xs ∧ xs.length ≤ i⟩
def Itr (lo : Int) (n : Nat) : It := ⟨fun i _ => i < n, fun i H x H' => H' = H ∧ x = .int (lo + i), fun i _ => n ≤ i⟩
theorem p6 {P:Program}{w:World}{K:PySem.W.Frag}{tg:Expr} (a it:Addr):Turn P w K tg (Itl K a) [it] it (fun i h=>h.IsListIter it a i) where
  mem:=by simp
  obj:=fun i h st b hb=>by
    have e:b=it:=by simpa using hb
    subst e
    obtain ⟨o,e,c,d⟩:=st
    exact ⟨o,e,fun v z=>by rw [d] at z;cases z⟩
  keep:=fun i h h' st k=>st.at fun o e=>k it (by simp) o e
  item:=by
    intro X hP hw hK hc i pins s σ H E I hf st hg
    subst hP hw hK
    obtain ⟨xs,x,hq,hx⟩:=hg
    obtain ⟨its,rv,p,hz⟩:=I.list hq
    obtain ⟨u,hu,ru⟩:=rv.get hx
    obtain ⟨f0,f1,f2,f3,f4,f5⟩:=hf it (by simp)
    refine wpAny_pyNext_list_item st p.isList (x:=u) (by simpa using hu) fun h' st' sb=>?_
    have I1:Inv X pins σ H { s with heap:=h' }:=I.turned (t':=s.toks) (fun b o hb e=>(sb.2 b hb).trans e) f0 f1 f3 f4 f5
    obtain ⟨o,e,c,d⟩:=id st'
    exact ⟨u,rfl,go_of (s:={ s with heap:=h' }) e c d (by decide) ⟨x,H,I1,ru,⟨rfl,fun ys hy=>by rw [I.list_inj hy hq];exact hx⟩,st',fun b hb=>(hf b hb).1⟩⟩
  done:=by
    intro X hP hw hK hc i pins s σ H E I hf st hg
    subst hP hw hK
    obtain ⟨xs,hq,hx⟩:=hg
    obtain ⟨its,rv,p,hz⟩:=I.list hq
    obtain ⟨f0,f1,f2,f3,f4,f5⟩:=hf it (by simp)
    have hl:=rv.length
    exact wpAny_pyNext_list_end (I.ok.hd hc) st p.isList (by simp;omega) fun h' eb=>⟨rfl,I.turned (t':=s.toks) (fun b o hb e=>eb b o hb e) f0 f1 f3 f4 f5⟩
  self:=fun _ _ _ _ _ st h=>wpAny_pyIter_listiter st h
theorem oN {P:Program}{w:World}{K:PySem.W.Frag}{tg:Expr} (it:Addr) (lo:Int) (n:Nat):Turn P w K tg (Itr lo n) [it] it (fun i h=>IsRangeIter h it (lo+(i:Nat)*1) ((n:Int) - (i:Nat)) 1) where
  mem:=by simp
  obj:=fun i h st b hb=>by
    have e:b=it:=by simpa using hb
    subst e
    exact ⟨_,st,fun v z=>by
      have z':Data.fields _=Data.cell v:=z
      cases z'⟩
  keep:=fun i h h' st k=>k it (by simp) _ st
  item:=by
    intro X hP hw hK hc i pins s σ H E I hf st hg
    subst hP hw hK
    obtain ⟨f0,f1,f2,f3,f4,f5⟩:=hf it (by simp)
    have W:=Walks.range (prog:=X.prog) (w:=X.w) (I.ok.hd hc) it lo 1 n
    refine W.item i s _ _ hg st fun v h' tk hv st' kk=>?_
    obtain ⟨t,rfl⟩:=hv
    have I1:Inv X pins σ H { s with heap:=h',toks:=tk }:=I.turned (fun b o hb e=>kk b o (by simpa using hb) e) f0 f1 f3 f4 f5
    refine ⟨_,rfl,go_of (s:={ s with heap:=h',toks:=tk }) (n:="range_iterator") st' rfl rfl (by decide) ⟨.int (lo+i),H,I1,⟨t,?_⟩,⟨rfl,rfl⟩,st',fun b hb=>(hf b hb).1⟩⟩
    rw [Int.mul_one]
  done:=by
    intro X hP hw hK hc i pins s σ H E I hf st hg
    subst hP hw hK
    obtain ⟨f0,f1,f2,f3,f4,f5⟩:=hf it (by simp)
    exact wpAny_pyNext_range_end (I.ok.hd hc) st (by have:n≤i:=hg;omega) fun h' eb=>⟨rfl,I.turned (t':=s.toks) (fun b o hb e=>eb b o hb e) f0 f1 f3 f4 f5⟩
  self:=fun _ _ _ _ _ st h=>wpAny_pyIter_rangeiter st h
end L2
namespace L2
open PySem PySem.Spec PyProof.Rows
section
variable {X : Cx} {tg : Expr}
def iList (K : PySem.W.Frag) (tl : TE) : TI := fun σ H R => tl σ H fun x H1 => ∃ a, x = .ref a ∧ (∃ xs, SqL K H1 a xs) ∧ R (Itl K a) H1
theorem bn {l:Expr}{tl:TE} (hl:PE X l tl):PI X tg l (iList X.K tl):=by
  intro pins s σ H R I h
  refine thn (hl pins s σ H _ I h) fun v s1 ⟨x,H1,I1,r1,q1⟩=>?_
  obtain ⟨a,e,⟨xs,hq⟩,q⟩:=q1
  subst e
  cases r1
  obtain ⟨its,rv,p,hz⟩:=I1.list hq
  refine wpAny_pyIter_list p.isList ?_
  refine ⟨s1.heap.objs.size,[s1.heap.objs.size],_,_,H1,rfl,I1.kept (t':=s1.toks) fun b o e=>Heap.get?_push_of_some _ e,p6 a _,⟨_,Heap.get?_push_size _ rfl,rfl,rfl⟩,fun b hb=>?_,q⟩
  have e:b=s1.heap.objs.size:=by simpa using hb
  subst e
  exact I1.fpOk (Nat.le_refl _) (I1.hok.fresh (Nat.le_refl _))
theorem nW {pins:List (Addr×Obj)}{σ:St}{H:Hp}{s:Shared}{R:It→Hp→Prop}{E:Value→Shared→Prop}{lo hi:Int}{t u v:Tok}{tk:Nat} (I:Inv X pins σ H s) (h1 : -(2 ^ 62)≤lo) (h2:lo<2 ^ 62) (h3 : -(2 ^ 62)≤hi) (h4:hi<2 ^ 62)
    (q:R (Itr lo (hi - lo).toNat) H):wpAny (model X.prog X.w) X.A (pyIter (.ref s.heap.objs.size)) (PIE X pins σ tg R) E { s with heap:=s.heap.push { cls:=.type "range",data:=.fields #[.int lo t,.int hi u,.int 1 v] },toks:=tk }:=by
  refine wpAny_pyIter_range (IsRange.new ..) (small_one h1 h2 h3 h4) ?_
  have I1:Inv X pins σ H { s with heap:=s.heap.push { cls:=.type "range",data:=.fields #[.int lo t,.int hi u,.int 1 v] },toks:=tk }:=I.kept fun b o e=>Heap.get?_push_of_some _ e
  refine ⟨(s.heap.push { cls:=.type "range",data:=.fields #[.int lo t,.int hi u,.int 1 v] }).objs.size,[(s.heap.push { cls:=.type "range",data:=.fields #[.int lo t,.int hi u,.int 1 v] }).objs.size],_,_,H,rfl,
    I1.kept (t':=tk) fun b o e=>Heap.get?_push_of_some _ e,oN _ lo (hi - lo).toNat,?_,fun b hb=>?_,q⟩
  · have e1:lo+((0:Nat):Int)*1=lo:=by simp
    have e2:(((hi - lo).toNat:Nat):Int) - ((0:Nat):Int)=Builtin.Range.rangeSize lo hi 1:=by rw [rangeSize_one];split<;>omega
    show IsRangeIter _ _ (lo+((0:Nat):Int)*1) ((((hi - lo).toNat:Nat):Int) - ((0:Nat):Int)) 1
    rw [e1,e2]
    exact Heap.get?_push_size _ rfl
  · have e:b=(s.heap.push { cls:=.type "range",data:=.fields #[.int lo t,.int hi u,.int 1 v] }).objs.size:=by simpa using hb
    subst e
    exact I1.fpOk (Nat.le_refl _) (I1.hok.fresh (Nat.le_refl _))
def iRng1 (ta : TA) : TI := fun σ H R => ta σ H fun vs H1 => ∃ j : Int, vs = [.int j] ∧ -(2 ^ 62) ≤ j ∧ j < 2 ^ 62 ∧ R (Itr 0 j.toNat) H1
def iRng2 (ta : TA) : TI := fun σ H R => ta σ H fun vs H1 => ∃ i j : Int, vs = [.int i, .int j] ∧ (-(2 ^ 62) ≤ i ∧ i < 2 ^ 62 ∧ -(2 ^ 62) ≤ j ∧ j < 2 ^ 62) ∧ R (Itr i (j - i).toNat) H1
theorem dr {a:Expr}{ta:TA}{p pos:Pos} (hg:Gl X "range") (hm:X.mg "range"=none) (ha:PA X [a] ta) (hs:starEach [a] X.env=[(false,eval a X.env)]:=by rfl):PI X tg (.Call (.Name "range" p) [a] [] pos) (iRng1 ta):=by
  intro pins s σ H R I h
  refine Call_ (eT I hg hm boot_range (PyProof.Rows.callWith_type1 (thn (ha pos pins s σ H _ I h) fun us s1 ⟨vs,H1,I1,r1,q1⟩=>?_) hs rfl))
  obtain ⟨j,e,q1,q2,q⟩:=q1
  subst e
  cases r1 with
  | cons r rr =>
    cases rr
    obtain ⟨t,rfl⟩:=r
    exact call_range_1 (nW I1 (by omega) (by omega) q1 q2 (by simpa using q))
theorem dN {a b:Expr}{ta:TA}{p pos:Pos} (hg:Gl X "range") (hm:X.mg "range"=none) (ha:PA X [a,b] ta) (hs:starEach [a,b] X.env=[(false,eval a X.env),(false,eval b X.env)]:=by rfl) (hs2:starEach [b] X.env=[(false,eval b X.env)]:=by rfl) :
    PI X tg (.Call (.Name "range" p) [a,b] [] pos) (iRng2 ta):=by
  intro pins s σ H R I h
  refine Call_ (eT I hg hm boot_range (PyProof.Rows.callWith_type1 (thn (ha pos pins s σ H _ I h) fun us s1 ⟨vs,H1,I1,r1,q1⟩=>?_) (by rw [hs,hs2]) (by rw [hs2];rfl)))
  obtain ⟨i,j,e,⟨q1,q2,q3,q4⟩,q⟩:=q1
  subst e
  cases r1 with
  | cons r rr =>
    cases rr with
    | cons r' rr =>
      cases rr
      obtain ⟨t,rfl⟩:=r
      obtain ⟨t',rfl⟩:=r'
      exact call_range_2 (nW I1 q1 q2 q3 q4 q)
def tFor (wi : TI) (g : TG) (tb : TS) : TS := fun D σ H => wi σ H fun J H1 => ∃ W : Nat → Nat → St → Hp → Prop, (∃ m, W 0 m σ H1) ∧ ∀ i m σ H, W i m σ H →
  (J.stop i H ∧ D.nx σ H) ∨ (J.go i H ∧ ∃ N : St → Hp → Prop, (∀ σ' H', N σ' H' → ∃ m', m' < m ∧ W (i + 1) m' σ' H') ∧ ∀ x H', J.yld i H x H' → g x σ H' fun σ2 H2 => tb { D with nx := N, ct := N, bk := D.nx } σ2 H2)
def lR (fp:List Addr) (h:Heap):List (Addr×Obj):=fp.filterMap fun b=>(h.get? b).map fun o=>(b,o)
theorem ig {fp:List Addr}{h:Heap}{b:Addr}{o:Obj} (hb:b∈fp) (e:h.get? b=some o):(b,o)∈lR fp h:=List.mem_filterMap.mpr ⟨b,hb,by rw [e];rfl⟩
theorem qB {fp:List Addr}{h:Heap}{p:Addr×Obj} (hp:p∈lR fp h):p.1∈fp∧h.get? p.1=some p.2:=by
  obtain ⟨b,hb,e⟩:=List.mem_filterMap.mp hp
  cases q:h.get? b with
  | none=>rw [q] at e;cases e
  | some o =>
    rw [q] at e
    have e':(b,o)=p:=Option.some.inj e
    subst e'
    exact ⟨hb,q⟩
theorem Inv.pinned {pins:List (Addr×Obj)}{σ:St}{H:Hp}{s:Shared}{fp:List Addr} (I:Inv X pins σ H s) (hf:∀ b∈fp,mI X pins H b) (ho:∀ b∈fp,∃ o,s.heap.get? b=some o∧∀ v,o.data≠.cell v):Inv X (pins++lR fp s.heap) σ H s :=
  I.pins_of fun p hp=>(List.mem_append.mp hp).elim (fun z=>I.pin p (List.mem_append_right _ z)) fun z=>by
    obtain ⟨hb,e⟩:=qB z
    obtain ⟨f0,f1,f2,_⟩:=hf p.1 hb
    obtain ⟨o,e',d⟩:=ho p.1 hb
    rw [e] at e';cases e'
    exact ⟨e,f0,f1,f2,d⟩
theorem Inv.unpinned {pins pl : List (Addr × Obj)} {σ : St} {H : Hp} {s : Shared} (I : Inv X (pins ++ pl) σ H s) : Inv X pins σ H s := I.pins_of fun p hp => I.pin p (List.mem_append_right _ (List.mem_append_left _ hp))
theorem bP {iter:Expr}{body:List Stmt}{wi:TI}{g:TG}{tb:TS}{pos:Pos} (hp:PassesOwn (model X.prog X.w) X.A X.env X.xe) (hc:X.calm=true) (hi:PI X tg iter wi) (hg:PG X tg g) (hb:PSs X body tb)
    (hs:∀ x,foldedSetIterable iter X.env x=pure x:=by intro _;rfl):PS X (.For tg iter body [] pos) (tFor wi g tb):=by
  intro pins s σ H D I h
  refine wpAny_For (thn (hi pins s σ H _ I h) fun v s1 h1=>thn h1 fun itv s2 h2=>?_) hs
  obtain ⟨it,fp,tn,J,H2,e,I2,T,st2,f2,W,⟨m0,w0⟩,turn⟩:=h2
  subst e
  have stat:∀ {H':Hp},(∀ b∈fp,H' b=none)→∀ b∈fp,mI X pins H' b:=fun hn b hb=>⟨hn b hb,(f2 b hb).2⟩
  refine codeAny_forLoop_any (fun n s'=>∃ i σ' H',Inv X pins σ' H' s'∧tn i s'.heap∧(∀ b∈fp,H' b=none)∧W i n σ' H') ?_ m0 ⟨0,σ,H2,I2,st2,fun b hb=>(f2 b hb).1,w0⟩
  rintro n s3 ⟨i,σ3,H3,I3,st3,fr3,w3⟩
  rcases turn i n σ3 H3 w3 with ⟨stop,qn⟩ | ⟨go,N,hN,step⟩
  · refine wpAny_passesOwn hp (thn (T.done X rfl rfl rfl hc i pins s3 σ3 H3 X.xe I3 (stat fr3) st3 stop) fun r s4 ⟨hr,I4⟩=>?_)
    subst hr
    exact wpAny_execs_nil ⟨σ3,H3,I4,qn⟩
  · refine wpAny_passesOwn hp (thn (T.item X rfl rfl rfl hc i pins s3 σ3 H3 X.xe I3 (stat fr3) st3 go) fun r s4 ⟨u,hr,h4⟩=>?_)
    subst hr
    refine wpAny_passesOwn hp (thn h4 fun _ s5 ⟨x,H5,I5,r5,y5,st5,fr5⟩=>?_)
    have I5':=I5.pinned (stat fr5) (T.obj _ _ st5)
    refine wpAny_passesOwn hp (thn (hg _ s5 σ3 H5 x u _ I5' r5 (step x H5 y5)) fun _ s6 ⟨σ6,H6,I6,q6⟩=>?_)
    refine wpAny_passesOwn hp (thn (hb _ s6 σ6 H6 _ I6 q6) fun f s7 q7=>?_)
    have again:∀ {σ7:St}{H7:Hp},Inv X (pins++lR fp s5.heap) σ7 H7 s7→N σ7 H7→∃ m,m<n∧∃ i σ' H',Inv X pins σ' H' s7∧tn i s7.heap∧(∀ b∈fp,H' b=none)∧W i m σ' H':=fun {σ7 H7} I7 n7=>by
      obtain ⟨m',hm,w7⟩:=hN σ7 H7 n7
      refine ⟨m',hm,i+1,σ7,H7,I7.unpinned,T.keep _ _ _ st5 fun b hb o e=>(I7.pin (b,o) (List.mem_append_right _ (List.mem_append_right _ (ig hb e)))).1,fun b hb=>?_,w7⟩
      obtain ⟨o,e,d⟩:=T.obj _ _ st5 b hb
      exact (I7.pin (b,o) (List.mem_append_right _ (List.mem_append_right _ (ig hb e)))).2.1
    cases f with
    | next=>obtain ⟨σ7,H7,I7,n7⟩:=q7;exact again I7 n7
    | cont=>obtain ⟨σ7,H7,I7,n7⟩:=q7;exact again I7 n7
    | brk=>obtain ⟨σ7,H7,I7,q7⟩:=q7;exact ⟨σ7,H7,I7.unpinned,q7⟩
    | ret v=>obtain ⟨x7,σ7,H7,I7,r7,q7⟩:=q7;exact ⟨x7,σ7,H7,I7.unpinned,r7,q7⟩
end
theorem b8 {K:PySem.W.Frag}{a:Addr}{xs:List V}{g:TG}{tb:TS}{D:oI}{σ:St}{H:Hp} (Pv:Nat→St→Hp→Prop) (h0:Pv 0 σ H) (hl:∀ i σ H,i≤xs.length→Pv i σ H→SqL K H a xs)
    (hs:∀ i x σ H,xs[i]?=some x→Pv i σ H→g x σ H fun σ2 H2=>tb { D with nx:=Pv (i+1),ct:=Pv (i+1),bk:=D.nx } σ2 H2) (hd:∀ σ H,Pv xs.length σ H→D.nx σ H) :
    ∃ W:Nat→Nat→St→Hp→Prop,(∃ m,W 0 m σ H)∧∀ i m σ H,W i m σ H →
      ((Itl K a).stop i H∧D.nx σ H)∨((Itl K a).go i H∧∃ N:St→Hp→Prop,(∀ σ' H',N σ' H'→∃ m',m'<m∧W (i+1) m' σ' H')∧∀ x H',(Itl K a).yld i H x H'→g x σ H' fun σ2 H2=>tb { D with nx:=N,ct:=N,bk:=D.nx } σ2 H2):=by
  refine ⟨fun i m σ H=>m=xs.length - i∧i≤xs.length∧Pv i σ H,⟨xs.length,by simp,Nat.zero_le _,h0⟩,?_⟩
  rintro i m σ H ⟨rfl,hi,p⟩
  have q:=hl i σ H hi p
  by_cases hlt:i<xs.length
  · refine .inr ⟨⟨xs,xs[i],q,by simp [hlt]⟩,Pv (i+1),fun σ' H' p'=>⟨xs.length - (i+1),by omega,rfl,hlt,p'⟩,fun x H' y=>?_⟩
    obtain ⟨e,y⟩:=y
    subst e
    exact hs i x σ _ (y xs q) p
  · have e:i=xs.length:=by omega
    subst e
    exact .inl ⟨⟨xs,q,Nat.le_refl _⟩,hd σ H p⟩
theorem gL {lo:Int}{n:Nat}{g:TG}{tb:TS}{D:oI}{σ:St}{H:Hp} (Pv:Nat→St→Hp→Prop) (h0:Pv 0 σ H)
    (hs:∀ i σ H,i<n→Pv i σ H→g (.int (lo+i)) σ H fun σ2 H2=>tb { D with nx:=Pv (i+1),ct:=Pv (i+1),bk:=D.nx } σ2 H2) (hd:∀ σ H,Pv n σ H→D.nx σ H) :
    ∃ W:Nat→Nat→St→Hp→Prop,(∃ m,W 0 m σ H)∧∀ i m σ H,W i m σ H →
      ((Itr lo n).stop i H∧D.nx σ H)∨((Itr lo n).go i H∧∃ N:St→Hp→Prop,(∀ σ' H',N σ' H'→∃ m',m'<m∧W (i+1) m' σ' H')∧∀ x H',(Itr lo n).yld i H x H'→g x σ H' fun σ2 H2=>tb { D with nx:=N,ct:=N,bk:=D.nx } σ2 H2):=by
  refine ⟨fun i m σ H=>m=n - i∧i≤n∧Pv i σ H,⟨n,by simp,Nat.zero_le _,h0⟩,?_⟩
  rintro i m σ H ⟨rfl,hi,p⟩
  by_cases hlt:i<n
  · refine .inr ⟨hlt,Pv (i+1),fun σ' H' p'=>⟨n - (i+1),by omega,rfl,hlt,p'⟩,fun x H' y=>?_⟩
    obtain ⟨e,y⟩:=y
    subst e y
    exact hs i σ _ hlt p
  · have e:i=n:=by omega
    subst e
    exact .inl ⟨Nat.le_refl _,hd σ H p⟩
end L2
namespace L2
open PySem PySem.Spec PyProof.Rows
abbrev R2 := V → V → Hp → VK → Prop
def OpR (X : Cx) (f : Value → Value → Sem Value) (r : R2) : Prop :=
  ∀ (pins : List (Addr × Obj)) (s : Shared) (σ : St) (H : Hp) (x y : V) (v u : Value) (Q : VK), Inv X pins σ H s → RelV x v → RelV y u → r x y H Q →
    wpAny (model X.prog X.w) X.A (f v u) (EP X pins σ Q) X.xe s
def UnR (X : Cx) (f : Value → Sem Value) (r : V → Hp → VK → Prop) : Prop :=
  ∀ (pins : List (Addr × Obj)) (s : Shared) (σ : St) (H : Hp) (x : V) (v : Value) (Q : VK), Inv X pins σ H s → RelV x v → r x H Q →
    wpAny (model X.prog X.w) X.A (f v) (EP X pins σ Q) X.xe s
def CallR (X : Cx) (f : Value) (r : List V → Hp → VK → Prop) : Prop :=
  ∀ (pins : List (Addr × Obj)) (s : Shared) (σ : St) (H : Hp) (xs : List V) (us : List Value) (Q : VK), Inv X pins σ H s → Vals xs us → r xs H Q →
    wpAny (model X.prog X.w) X.A (call f us) (EP X pins σ Q) X.xe s
def TruR (X : Cx) (r : V → Hp → (Bool → Hp → Prop) → Prop) : Prop :=
  ∀ (pins : List (Addr × Obj)) (s : Shared) (σ : St) (H : Hp) (x : V) (v : Value) (Q : Bool → Hp → Prop), Inv X pins σ H s → RelV x v → r x H Q →
    wpAny (model X.prog X.w) X.A (truthy v) (TP X pins σ Q) X.xe s
def tOp (r : R2) (ta tb : TE) : TE := fun σ H Q => ta σ H fun x H1 => tb σ H1 fun y H2 => r x y H2 Q
def tUn (r : V → Hp → VK → Prop) (ta : TE) : TE := fun σ H Q => ta σ H fun x H1 => r x H1 Q
def rI (C : Int → Int → Prop) (g : Int → Int → V) : R2 := fun x y H Q => ∃ i j, x = .int i ∧ y = .int j ∧ C i j ∧ Q (g i j) H
def rI0 (g : Int → Int → V) : R2 := fun x y H Q => ∃ i j, x = .int i ∧ y = .int j ∧ Q (g i j) H
def rU (g : Int → V) : V → Hp → VK → Prop := fun x H Q => ∃ i, x = .int i ∧ Q (g i) H
section
variable {X : Cx} {a b c : Expr} {ta tb tc : TE} {pos : Pos}
theorem binT (ha : PE X a ta) (hb : PE X b tb) {pins : List (Addr × Obj)} {s : Shared} {σ : St} {H : Hp} {R : V → V → Hp → Prop} (I : Inv X pins σ H s)
    (h : ta σ H fun x H1 => tb σ H1 fun y H2 => R x y H2) {Q : Value → Shared → Prop} {f : Value → Value → Sem Value}
    (hf : ∀ v u s2 x y H2, Inv X pins σ H2 s2 → RelV x v → RelV y u → R x y H2 → wpAny (model X.prog X.w) X.A (f v u) Q X.xe s2) :
    wpAny (model X.prog X.w) X.A (eval a X.env) (fun v s₁ => wpAny (model X.prog X.w) X.A (eval b X.env) (fun u s₂ => wpAny (model X.prog X.w) X.A (f v u) Q X.xe s₂) X.xe s₁) X.xe s := by
  refine thn (ha pins s σ H _ I h) fun v s1 ⟨x, H1, I1, r1, q1⟩ => ?_
  refine thn (hb pins s1 σ H1 _ I1 q1) fun u s2 ⟨y, H2, I2, r2, q2⟩ => ?_
  exact hf v u s2 x y H2 I2 r1 r2 q2
theorem aq {op:Operator}{r:R2} (ho:OpR X (binaryOp op) r) (ha:PE X a ta) (hb:PE X b tb):PE X (.BinOp a op b pos) (tOp r ta tb):=by
  intro pins s σ H Q I h
  exact wpAny_BinOp (binT ha hb I h fun v u s2 x y H2 I2 rx ry q=>ho pins s2 σ H2 x y v u Q I2 rx ry q)
theorem pe_un {op : UnaryOp} {r : V → Hp → VK → Prop} (ho : UnR X (unaryOp op) r) (ha : PE X a ta) : PE X (.UnaryOp op a pos) (tUn r ta) := by
  intro pins s σ H Q I h
  exact UnaryOp_ (thn (ha pins s σ H _ I h) fun v s1 ⟨x, H1, I1, r1, q1⟩ => ho pins s1 σ H1 x v Q I1 r1 q1)
theorem opI {f : Value → Value → Sem Value} {C : Int → Int → Prop} {g : Int → Int → Int}
    (rule : ∀ (i j : Int) (t u : Tok) (s : Shared) (Q : Value → Shared → Prop) (E : Value → Shared → Prop), C i j → Q (.int (g i j) s.toks) { s with toks := s.toks + 1 } → wpAny (model X.prog X.w) X.A (f (.int i t) (.int j u)) Q E s) :
    OpR X f (rI C fun i j => .int (g i j)) := by
  intro pins s σ H x y v u Q I rx ry h
  obtain ⟨i, j, rfl, rfl, hc, q⟩ := h
  obtain ⟨t, rfl⟩ := rx
  obtain ⟨t', rfl⟩ := ry
  exact rule i j t t' s _ _ hc ⟨.int (g i j), H, I.tok _, ⟨_, rfl⟩, q⟩
theorem opI0 {f : Value → Value → Sem Value} {g : Int → Int → Int}
    (rule : ∀ (i j : Int) (t u : Tok) (s : Shared) (Q : Value → Shared → Prop) (E : Value → Shared → Prop), Q (.int (g i j) s.toks) { s with toks := s.toks + 1 } → wpAny (model X.prog X.w) X.A (f (.int i t) (.int j u)) Q E s) :
    OpR X f (rI0 fun i j => .int (g i j)) := by
  intro pins s σ H x y v u Q I rx ry h
  obtain ⟨i, j, rfl, rfl, q⟩ := h
  obtain ⟨t, rfl⟩ := rx
  obtain ⟨t', rfl⟩ := ry
  exact rule i j t t' s _ _ ⟨.int (g i j), H, I.tok _, ⟨_, rfl⟩, q⟩
theorem opB0 {f : Value → Value → Sem Value} {g : Int → Int → Bool}
    (rule : ∀ (i j : Int) (t u : Tok) (s : Shared) (Q : Value → Shared → Prop) (E : Value → Shared → Prop), Q (.bool (g i j)) s → wpAny (model X.prog X.w) X.A (f (.int i t) (.int j u)) Q E s) :
    OpR X f (rI0 fun i j => .bl (g i j)) := by
  intro pins s σ H x y v u Q I rx ry h
  obtain ⟨i, j, rfl, rfl, q⟩ := h
  obtain ⟨t, rfl⟩ := rx
  obtain ⟨t', rfl⟩ := ry
  exact rule i j t t' s _ _ ⟨.bl (g i j), H, I, rfl, q⟩
def CDiv (i j : Int) : Prop := 0 < j ∧ j < 1073741824
def CMul (i j : Int) : Prop := (-(2 ^ 64) < i ∧ i < 2 ^ 64) ∨ (-(2 ^ 64) < j ∧ j < 2 ^ 64)
theorem CMul.ok {i j : Int} (h : CMul i j) : IntMulOk i j := by
  rcases h with ⟨h1, h2⟩ | ⟨h1, h2⟩
  · exact .of_left (intBits_le_64 h1 h2)
  · exact .of_right (intBits_le_64 h1 h2)
theorem aX:OpR X (binaryOp .Add) (rI0 fun i j=>.int (i+j)):=opI0 fun _ _ _ _ _ _ _ q=>add_int q
theorem bo:OpR X (binaryOp .Sub) (rI0 fun i j=>.int (i - j)):=opI0 fun _ _ _ _ _ _ _ q=>sub_int q
theorem bG:OpR X (binaryOp .Mult) (rI CMul fun i j=>.int (i*j)):=opI fun _ _ _ _ _ _ _ hc q=>mul_int q hc.ok
theorem gd:OpR X (binaryOp .FloorDiv) (rI CDiv fun i j=>.int (i / j)):=opI fun i j _ _ _ _ _ hc q=>by
  have h1:(0:Int)<j:=hc.1
  have h2:j<1073741824:=hc.2
  exact floordiv_int (by omega) (by rw [Int.fdiv_eq_ediv_of_nonneg i (by omega)];exact q) (.inl (PyProof.noPylong_small (by omega)))
theorem aV:OpR X (binaryOp .Mod) (rI (fun _ j=>0<j) fun i j=>.int (i%j)):=opI fun i j _ _ _ _ _ hc q=>by
  have h1:(0:Int)<j:=hc
  exact mod_int' (by omega) (by rw [Int.fmod_eq_emod_of_nonneg i (by omega)];exact q)
theorem unI {f : Value → Sem Value} {g : Int → Int}
    (rule : ∀ (i : Int) (t : Tok) (s : Shared) (Q : Value → Shared → Prop) (E : Value → Shared → Prop), Q (.int (g i) s.toks) { s with toks := s.toks + 1 } → wpAny (model X.prog X.w) X.A (f (.int i t)) Q E s) :
    UnR X f (rU fun i => .int (g i)) := by
  intro pins s σ H x v Q I rx h
  obtain ⟨i, rfl, q⟩ := h
  obtain ⟨t, rfl⟩ := rx
  exact rule i t s _ _ ⟨.int (g i), H, I.tok _, ⟨_, rfl⟩, q⟩
theorem un_neg : UnR X (unaryOp .USub) (rU fun i => .int (-i)) := unI fun _ _ _ _ _ q => neg_int q
end
def scal : V → V → Bool
  | .non, .non => true | .non, .int _ => true | .int _, .non => true | .non, .bl _ => true | .bl _, .non => true | .non, .str _ => true | .str _, .non => true
  | .int _, .int _ => true | .bl _, .bl _ => true | .str _, .str _ => true | .byt _, .byt _ => true
  | .int _, .str _ => true | .str _, .int _ => true | .bl _, .str _ => true | .str _, .bl _ => true
  | _, _ => false
def rEq : R2 := fun x y H Q => scal x y = true ∧ Q (.bl (decide (x = y))) H
def rNe : R2 := fun x y H Q => scal x y = true ∧ Q (.bl (!decide (x = y))) H
theorem rg {i j:Int}:decide (V.int i=V.int j)=(i == j):=by
  rw [Bool.eq_iff_iff]
  simp
theorem dec_bl {i j : Bool} : decide (V.bl i = V.bl j) = (i == j) := by
  rw [Bool.eq_iff_iff]
  simp
theorem rf {i j:Str}:decide (V.str i=V.str j)=(i == j):=by
  rw [Bool.eq_iff_iff]
  simp
theorem rh {i j:Array UInt8}:decide (V.byt i=V.byt j)=(i.toList == j.toList):=by
  rw [Bool.eq_iff_iff]
  cases i
  cases j
  simp
section
variable {X : Cx} {a b c : Expr} {ta tb tc : TE} {pos : Pos}
theorem bu {pins:List (Addr×Obj)}{σ:St}{H:Hp}{s:Shared}{Q:VK}{k k':Bool} (I:Inv X pins σ H s) (q:Q (.bl k) H) (e:k=k'):EP X pins σ Q (.bool k') s:=by
  subst e
  exact ⟨.bl k,H,I,rfl,q⟩
theorem bH:OpR X (compareOp .Eq) rEq:=by
  intro pins s σ H x y v u Q I rx ry h
  obtain ⟨hs,q⟩:=h
  cases x with
  | non =>
    cases rx
    cases y with
    | non=>cases ry;exact PySem.EqNone.eq_none_none (bu I q (by simp))
    | bl j=>cases ry;exact PySem.EqNone.eq_none_bool (bu I q (by simp))
    | int j=>obtain ⟨t',rfl⟩:=ry;exact PySem.EqNone.eq_none_int (bu I q (by simp))
    | str j=>obtain ⟨t',rfl⟩:=ry;exact PySem.EqNone.eq_none_str (bu I q (by simp))
    | _=>exact absurd (show false=true from hs) Bool.false_ne_true
  | bl i =>
    cases rx
    cases y with
    | non=>cases ry;exact PySem.EqNone.eq_bool_none (bu I q (by simp))
    | bl j=>cases ry;exact eq_bool (bu I q dec_bl)
    | str j=>obtain ⟨t',rfl⟩:=ry;exact PySem.EqMixed.eq_bool_str (bu I q (by simp))
    | _=>exact absurd (show false=true from hs) Bool.false_ne_true
  | int i =>
    obtain ⟨t,rfl⟩:=rx
    cases y with
    | non=>cases ry;exact PySem.EqNone.eq_int_none (bu I q (by simp))
    | int j=>obtain ⟨t',rfl⟩:=ry;exact eq_int (bu I q rg)
    | str j=>obtain ⟨t',rfl⟩:=ry;exact PySem.EqMixed.eq_int_str (bu I q (by simp))
    | _=>exact absurd (show false=true from hs) Bool.false_ne_true
  | str i =>
    obtain ⟨t,rfl⟩:=rx
    cases y with
    | non=>cases ry;exact PySem.EqNone.eq_str_none (bu I q (by simp))
    | bl j=>cases ry;exact PySem.EqMixed.eq_str_bool (bu I q (by simp))
    | int j=>obtain ⟨t',rfl⟩:=ry;exact PySem.EqMixed.eq_str_int (bu I q (by simp))
    | str j=>obtain ⟨t',rfl⟩:=ry;exact eq_str (bu I q rf)
    | _=>exact absurd (show false=true from hs) Bool.false_ne_true
  | byt i =>
    obtain ⟨t,rfl⟩:=rx
    cases y with
    | byt j=>obtain ⟨t',rfl⟩:=ry;exact PySem.W.eq_bytes (bu I q rh)
    | _=>exact absurd (show false=true from hs) Bool.false_ne_true
  | _=>cases y<;>exact absurd (show false=true from hs) Bool.false_ne_true
theorem lX:OpR X (compareOp .NotEq) rNe:=by
  intro pins s σ H x y v u Q I rx ry h
  obtain ⟨hs,q⟩:=h
  cases x with
  | non =>
    cases rx
    cases y with
    | non=>cases ry;exact PySem.EqNone.ne_none_none (bu I q (by simp))
    | bl j=>cases ry;exact PySem.EqNone.ne_none_bool (bu I q (by simp))
    | int j=>obtain ⟨t',rfl⟩:=ry;exact PySem.EqNone.ne_none_int (bu I q (by simp))
    | str j=>obtain ⟨t',rfl⟩:=ry;exact PySem.EqNone.ne_none_str (bu I q (by simp))
    | _=>exact absurd (show false=true from hs) Bool.false_ne_true
  | bl i =>
    cases rx
    cases y with
    | non=>cases ry;exact PySem.EqNone.ne_bool_none (bu I q (by simp))
    | bl j=>cases ry;exact ne_bool (bu I q (congrArg not dec_bl))
    | str j=>obtain ⟨t',rfl⟩:=ry;exact PySem.EqMixed.ne_bool_str (bu I q (by simp))
    | _=>exact absurd (show false=true from hs) Bool.false_ne_true
  | int i =>
    obtain ⟨t,rfl⟩:=rx
    cases y with
    | non=>cases ry;exact PySem.EqNone.ne_int_none (bu I q (by simp))
    | int j=>obtain ⟨t',rfl⟩:=ry;exact ne_int (bu I q (congrArg not rg))
    | str j=>obtain ⟨t',rfl⟩:=ry;exact PySem.EqMixed.ne_int_str (bu I q (by simp))
    | _=>exact absurd (show false=true from hs) Bool.false_ne_true
  | str i =>
    obtain ⟨t,rfl⟩:=rx
    cases y with
    | non=>cases ry;exact PySem.EqNone.ne_str_none (bu I q (by simp))
    | bl j=>cases ry;exact PySem.EqMixed.ne_str_bool (bu I q (by simp))
    | int j=>obtain ⟨t',rfl⟩:=ry;exact PySem.EqMixed.ne_str_int (bu I q (by simp))
    | str j=>obtain ⟨t',rfl⟩:=ry;exact ne_str (bu I q (congrArg not rf))
    | _=>exact absurd (show false=true from hs) Bool.false_ne_true
  | byt i =>
    obtain ⟨t,rfl⟩:=rx
    cases y with
    | byt j=>obtain ⟨t',rfl⟩:=ry;exact PySem.W.ne_bytes (bu I q (congrArg not rh))
    | _=>exact absurd (show false=true from hs) Bool.false_ne_true
  | _=>cases y<;>exact absurd (show false=true from hs) Bool.false_ne_true
theorem kL:OpR X (compareOp .Lt) (rI0 fun i j=>.bl (decide (i<j))):=opB0 fun _ _ _ _ _ _ _ q=>lt_int q
theorem m5:OpR X (compareOp .LtE) (rI0 fun i j=>.bl (decide (i≤j))):=opB0 fun _ _ _ _ _ _ _ q=>le_int q
theorem op_gt : OpR X (compareOp .Gt) (rI0 fun i j => .bl (decide (j < i))) := opB0 fun _ _ _ _ _ _ _ q => gt_int q
theorem op_isN : OpR X (compareOp .Is) (fun x y H Q => y = .non ∧ Q (.bl (decide (x = .non))) H) := by
  intro pins s σ H x y v u Q I rx ry h
  obtain ⟨rfl, q⟩ := h
  cases ry
  refine is_none_gen (bu I q ?_)
  cases x <;> first
    | (cases rx; rfl)
    | (obtain ⟨t, rfl⟩ := rx; rfl)
theorem aH (b:Expr) {op:CmpOp} (h:op≠.In:=by decide) (h2:op≠.NotIn:=by decide):behindInMarks op b=false:=by
  have e1:(op == CmpOp.In)=false:=by cases op<;>first | rfl | exact absurd rfl h
  have e2:(op == CmpOp.NotIn)=false:=by cases op<;>first | rfl | exact absurd rfl h2
  cases b<;>simp [behindInMarks,e1,e2]
theorem hV {op:CmpOp}{r:R2} (ho:OpR X (compareOp op) r) (ha:PE X a ta) (hb:PE X b tb) (hm:behindInMarks op b=false):PE X (.Compare a [op] [b] pos) (tOp r ta tb):=by
  intro pins s σ H Q I h
  exact wpAny_Compare1 (binT ha hb I h fun v u s2 x y H2 I2 rx ry q=>ho pins s2 σ H2 x y v u Q I2 rx ry q) hm
def tTest (t : TE) : TT := fun σ H Q => t σ H fun x H' => ∃ k, x = .bl k ∧ Q k H'
theorem av {op:CmpOp}{r:R2} (ho:OpR X (compareOp op) r) (ha:PE X a ta) (hb:PE X b tb) (hm:behindInMarks op b=false):PT X (.Compare a [op] [b] pos) (tTest (tOp r ta tb)):=by
  intro pins s σ H Q I h
  refine wpAny_isTrue_Compare1 (thn (ha pins s σ H _ I h) fun v s1 ⟨x,H1,I1,r1,q1⟩=>thn (hb pins s1 σ H1 _ I1 q1) fun u s2 ⟨y,H2,I2,r2,q2⟩ =>
    thn (ho pins s2 σ H2 x y v u _ I2 r1 r2 q2) fun c s3 ⟨z,H3,I3,r3,k,e,q3⟩=>?_) hm
  subst e
  cases r3
  exact wpAny_truthy_bool ⟨H3,I3,q3⟩
def tChain (r r' : R2) (ta tb tc : TE) : TE := fun σ H Q => ta σ H fun x H1 => tb σ H1 fun y H2 => r x y H2 fun z H3 => ∃ k, z = .bl k ∧
  (if k = true then tc σ H3 fun w' H4 => r' y w' H4 Q else Q (.bl false) H3)
theorem iR {op op':CmpOp}{r r':R2} (ho:OpR X (compareOp op) r) (ho':OpR X (compareOp op') r') (ha:PE X a ta) (hb:PE X b tb) (hc:PE X c tc)
    (hm:lastMarks [op,op'] [b,c]=false:=by with_unfolding_all rfl):PE X (.Compare a [op,op'] [b,c] pos) (tChain r r' ta tb tc):=by
  intro pins s σ H Q I h
  refine Compare_chain (thn (ha pins s σ H _ I h) fun v s1 ⟨x,H1,I1,r1,q1⟩=>chain_link (thn (hb pins s1 σ H1 _ I1 q1) fun u s2 ⟨y,H2,I2,r2,q2⟩ =>
    thn (ho pins s2 σ H2 x y v u _ I2 r1 r2 q2) fun d s3 ⟨z,H3,I3,r3,k,e,q3⟩=>?_)) hm
  subst e
  cases r3
  refine wpAny_truthy_bool ?_
  cases k with
  | false=>exact ite_ff ⟨.bl false,H3,I3,rfl,q3⟩
  | true=>exact ite_tt (chain_last (thn (hc pins s3 σ H3 _ I3 q3) fun w' s4 ⟨z',H4,I4,r4,q4⟩=>ho' pins s4 σ H4 y z' u w' Q I4 r2 r4 q4))
theorem oj:(sizeLine:Nat)<2 ^ 63:=by rw [sizeLine_eq];decide
theorem vals1 {x : V} {us : List Value} (r : Vals [x] us) : ∃ u, us = [u] ∧ RelV x u := by
  cases r with
  | cons r1 r2 => cases r2; exact ⟨_, rfl, r1⟩
theorem vals2 {x y : V} {us : List Value} (r : Vals [x, y] us) : ∃ u w', us = [u, w'] ∧ RelV x u ∧ RelV y w' := by
  cases r with
  | cons r1 r2 =>
    cases r2 with
    | cons r3 r4 => cases r4; exact ⟨_, _, rfl, r1, r3⟩
theorem rC (hc:X.calm=true):CallR X (.builtin "min") (fun xs H Q=>∃ i j,xs=[.int i,.int j]∧Q (.int (if j<i then j else i)) H):=by
  intro pins s σ H xs us Q I r h
  obtain ⟨i,j,rfl,q⟩:=h
  obtain ⟨u,w',rfl,⟨t,rfl⟩,⟨t',rfl⟩⟩:=vals2 r
  refine min_two_ints (I.ok.hd hc) fun h' tk k=>⟨_,H,I.kept k,?_,q⟩
  by_cases hj:j<i
  · rw [if_pos hj,if_pos hj];exact ⟨_,rfl⟩
  · rw [if_neg hj,if_neg hj];exact ⟨_,rfl⟩
theorem rF:CallR X (.type "int") (fun xs H Q=>(∃ i,xs=[.int i]∧Q (.int i) H)∨∃ k,xs=[.bl k]∧Q (.int (if k then 1 else 0)) H):=by
  intro pins s σ H xs us Q I r h
  rcases h with ⟨i,rfl,q⟩ | ⟨k,rfl,q⟩
  · obtain ⟨u,rfl,t,rfl⟩:=vals1 r
    exact call_int_int ⟨.int i,H,I,⟨_,rfl⟩,q⟩
  · obtain ⟨u,rfl,r1⟩:=vals1 r
    cases r1
    exact call_int_bool ⟨.int (if k then 1 else 0),H,I.tok _,⟨_,rfl⟩,q⟩
end
end L2
namespace L2
open PySem PySem.Spec PyProof.Rows
structure ObjM (h : Heap) (x dx C : Addr) (mA : Str → Option Value) : Prop where
  obj : h.get? x = some (PySem.W.instObj C dx)
  ns : h.Ns1 dx mA
  ne : dx ≠ x
theorem qM {h:Heap}{dx:Addr}{mA:Str→Option Value} (n:h.Ns1 dx mA):∃ od,h.get? dx=some od∧∀ name,PySem.W.lookIn name od=some (mA name):=by
  obtain ⟨o,es,ep,ho,hd,hk,_,hm⟩:=n
  refine ⟨o,ho,fun name=>?_⟩
  have e:=hm name
  unfold nsFind findBy at e
  rw [← Array.find?_toList] at e
  unfold PySem.W.lookIn
  rw [hd]
  dsimp only
  split
  · rename_i y q
    rw [q] at e
    exact congrArg some e
  · rename_i q
    rw [q] at e
    have a:es.toList.any (·.refKey)=false:=by
      rw [List.any_eq_false]
      intro y hy
      obtain ⟨z,t,hkey⟩:=hk y (Array.mem_toList_iff.mp hy)
      simp [DictEntry.refKey,hkey]
    have a':¬ es.toList.any (·.refKey)=true:=by rw [a];exact Bool.false_ne_true
    rw [if_neg a']
    exact congrArg some e
theorem ObjM.look {h : Heap} {x dx C : Addr} {mA : Str → Option Value} (I : ObjM h x dx C mA) : ∃ od, PySem.W.InstAt h x (PySem.W.instObj C dx) C (some od) ∧ ∀ name, PySem.W.lookIn name od = some (mA name) :=
  let ⟨od, ho, hl⟩ := qM I.ns
  ⟨od, ⟨I.obj, rfl, rfl, ho⟩, hl⟩
section
variable {prog : Program} {w : World} {A : Around} {E : Value → Shared → Prop} {s : Shared} {K : PySem.W.Frag} {x dx C f : Addr} {mA : Str → Option Value} {name : Str} {v : Value}
theorem get_map {expr : Bool} {Q : Value → Shared → Prop} (X : K.In s.heap) (I : ObjM s.heap x dx C mA) (hg : PySem.W.plainGet K C name = true) (hh : PySem.W.hasDictIn K C = true)
    (ha : PySem.W.findIn K (.ref C) name = some none) (hv : mA name = some v) (hv' : PySem.W.handedIn v = true) (h : Q v { s with toks := s.toks + 1 }) :
    wpAny (model prog w) A (getAttr (.ref x) name expr) Q E s := by
  obtain ⟨od, J, hl⟩ := I.look
  exact PySem.W.get_value X J (PySem.W.plainGet_of hg).1 (PySem.W.findObj_own hh ha rfl (by rw [hl, hv])) hv' h
theorem get_meth {pl : Sem Bool} {Q : Value × List Value → Shared → Prop} (X : K.In s.heap) (I : ObjM s.heap x dx C mA) (hg : PySem.W.plainGet K C name = true)
    (hf : PySem.W.findIn K (.ref C) name = some (some (.ref f))) (ht : PySem.W.isFn K (.ref f) = true) (hv : mA name = none) (h : Q (.ref f, [.ref x]) s) :
    wpAny (model prog w) A (getMethod (.ref x) name pl) Q E s := by
  obtain ⟨od, J, hl⟩ := I.look
  exact PySem.W.method_fn X J (PySem.W.plainGet_of hg).1 (PySem.W.plainGet_of hg).2 hf (beq_iff_eq.mp ht) (by show (PySem.W.lookIn name od).map (·.isSome) = some false; rw [hl, hv]; rfl) h
theorem set_map {ns : List Str} {Q : Unit → Shared → Prop} (X : K.In s.heap) (I : ObjM s.heap x dx C mA)
    (hs : PySem.W.findIn K (.ref C) "__setattr__" = some (some (.builtin "object.__setattr__"))) (hp : PySem.W.plainOver K C = true) (ht : PySem.W.takerIn K C name = some none) (hh : PySem.W.hasDictIn K C = true)
    (hw : PySem.Within mA ns) (hsz : ns.length ≤ sizeLine)
    (h : ∀ h', ObjM h' x dx C (fun y => if y = name then some v else mA y) → Heap.SameBut dx s.heap h' → Q () { s with heap := h', toks := s.toks + 2 }) :
    wpAny (model prog w) A (setAttr (.ref x) name v) Q E s := by
  obtain ⟨od, J, hl⟩ := I.look
  refine PySem.W.set_plain X J hs (PySem.W.osa_open (s := { s with toks := s.toks + 1 }) (r := none) X J hp ht fun b => ?_)
  obtain ⟨cd, hc, hd'⟩ := PySem.W.any_some hh
  have hx : s.heap.get? x = some ⟨.ref C, some dx, .plain, #[]⟩ := I.obj
  refine wpAny_bind (wpAny_pure (wpAny_bind (wpAny_bind (wpAny_loadPart hx (wpAny_bind (PySem.W.Looks.here (s := { s with toks := s.toks + 1 }) (PySem.W.looks_clsIn X hc) ?_))))))
  rw [hd']
  refine wpAny_pure (a := some dx) (wpAny_bind (wpAny_pure (wpAny_bind ?_)))
  refine wpAny_nsSet1 (s := { s with toks := s.toks + 1 }) I.ns fun h' hn2 hs2 => ?_
  obtain ⟨oD, esD, epD, hoD, hdD, hcD⟩ := hn2.count (PySem.Within.cons name v hw)
  refine wpAny_bind (wpAny_lookBehind hoD (by rw [hdD]; exact pastItsLine_dict (Nat.le_trans hcD (by rw [List.length_cons]; omega))) ?_)
  exact wpAny_pure (h _ ⟨(hs2.2 _ (Ne.symm I.ne)).trans I.obj, hn2, I.ne⟩ hs2)
theorem make_map {R : Result → Shared → Prop} {vs : List Value} {kw : List (Str × Value)} (X : K.In s.heap) (hm : PySem.W.makesIn K C = true)
    (hi : PySem.W.findIn K (.ref C) "__init__" = some (some (.ref f))) (hf : PySem.W.typeIn K (.ref f) = some (.type "function"))
    (h : codeAny (model prog w) (A.under (.builtin "type.__call__" ⟨.ref C :: vs, kw⟩)) (.call (.ref f) ⟨.ref (s.heap.objs.size + 1) :: vs, kw⟩) (PySem.W.InitBack (s.heap.objs.size + 1) R)
      { s with heap := (s.heap.push PySem.W.emptyDict).push (PySem.W.instObj C s.heap.objs.size) }) :
    codeAny (model prog w) A (.call (.ref C) ⟨vs, kw⟩) R s := by
  obtain ⟨hh, g, d, t, os⟩ := s
  exact PySem.W.make_core (PySem.W.makes_of X hm) (PySem.W.looks_findIn X hi) (fun self => PySem.W.bind_fn X self hf) (.inl rfl) h
end
def dq (f:Str) (v:V):List (Str×V)→List (Str×V)
  | []=>[(f,v)]
  | (g,x)::r=>if g=f then (g,v)::r else (g,x)::dq f v r
theorem bQ (f g:Str) (v:V):∀ fs:List (Str×V),(dq f v fs).lookup g=if g=f then some v else fs.lookup g
  | []=>by
    show List.lookup g [(f,v)]=_
    by_cases h:g=f
    · have hb:(g == f)=true:=beq_iff_eq.mpr h
      simp only [List.lookup,hb,if_pos h]
    · have hb:(g == f)=false:=beq_eq_false_iff_ne.mpr h
      simp only [List.lookup,hb,if_neg h]
  | (k,x)::r=>by
    have ih:=bQ f g v r
    rw [show dq f v ((k,x)::r)=(if k=f then (k,v)::r else (k,x)::dq f v r) from rfl]
    by_cases hk:k=f
    · rw [if_pos hk]
      by_cases h:g=k
      · have hb:(g == k)=true:=beq_iff_eq.mpr h
        simp only [List.lookup,hb,if_pos (h.trans hk)]
      · have hb:(g == k)=false:=beq_eq_false_iff_ne.mpr h
        simp only [List.lookup,hb,if_neg (fun e:g=f=>h (e.trans hk.symm))]
    · rw [if_neg hk]
      by_cases h:g=k
      · have hb:(g == k)=true:=beq_iff_eq.mpr h
        simp only [List.lookup,hb,if_neg (fun e:g=f=>hk (h.symm.trans e))]
      · have hb:(g == k)=false:=beq_eq_false_iff_ne.mpr h
        simp only [List.lookup,hb]
        exact ih
theorem jn (f:Str) (v:V):∀ fs:List (Str×V),f∈(dq f v fs).map (·.1)∧∀ g,g∈fs.map (·.1)→g∈(dq f v fs).map (·.1)
  | []=>⟨by simp [dq],fun g h=>by simp at h⟩
  | (k,x)::r=>by
    obtain ⟨i1,i2⟩:=jn f v r
    rw [show dq f v ((k,x)::r)=(if k=f then (k,v)::r else (k,x)::dq f v r) from rfl]
    by_cases hk:k=f
    · rw [if_pos hk]
      subst hk
      exact ⟨by simp,fun g h=>by simpa using h⟩
    · rw [if_neg hk]
      refine ⟨?_,fun g h=>?_⟩
      · rw [List.map_cons]
        exact List.mem_cons_of_mem _ i1
      · rw [List.map_cons] at h ⊢
        rcases List.mem_cons.mp h with e | e
        · exact List.mem_cons.mpr (.inl e)
        · exact List.mem_cons_of_mem _ (i2 g e)
theorem eM (f:Str) (v:V):∀ fs:List (Str×V),(dq f v fs).length≤fs.length+1
  | []=>by simp [dq]
  | (k,x)::r=>by
    have ih:=eM f v r
    rw [show dq f v ((k,x)::r)=(if k=f then (k,v)::r else (k,x)::dq f v r) from rfl]
    by_cases hk:k=f
    · rw [if_pos hk,List.length_cons,List.length_cons];omega
    · rw [if_neg hk,List.length_cons,List.length_cons];omega
theorem RelO.some_of {v : V} {o : Option Value} (r : RelO (some v) o) : ∃ u, o = some u ∧ RelV v u := by
  cases o with
  | none => exact (show False from r).elim
  | some u => exact ⟨u, rfl, r⟩
theorem RelO.none_of {o : Option Value} (r : RelO none o) : o = none := by
  cases o with
  | none => rfl
  | some u => exact (show False from r).elim
theorem qW {v:V}{u:Value} (r:RelV v u):PySem.W.handedIn u=true:=by
  cases v with
  | non=>cases (show u=Value.none from r);rfl
  | bl b=>cases (show u=Value.bool b from r);rfl
  | int i=>obtain ⟨t,e⟩:=(show ∃ t,u=Value.int i t from r);cases e;rfl
  | str x=>obtain ⟨t,e⟩:=(show ∃ t,u=Value.str x t from r);cases e;rfl
  | byt b=>obtain ⟨t,e⟩:=(show ∃ t,u=Value.bytes b t from r);cases e;rfl
  | flt b=>obtain ⟨t,e⟩:=(show ∃ t,u=Value.float b t from r);cases e;rfl
  | ref a=>cases (show u=Value.ref a from r);rfl
  | ty n=>cases (show u=Value.type n from r);rfl
section
variable {P : Program} {w : World} {H H' : Hp} {h h' : Heap} {a C dx : Addr} {fs fs' : List (Str × V)}
theorem nu (hok:HOk P w H h) (e:H a=some (.ins C dx fs)):∃ mA,ObjM h a dx C mA∧(∀ f,RelO (fs.lookup f) (mA f))∧PySem.Within mA (fs.map (·.1))∧fs.length≤1000∧H dx=some (.own a):=by
  obtain ⟨d,z,ne,ob,mA,n,r,q⟩:=(show ObjOk P w H h a (.ins C dx fs) from hok a _ e)
  exact ⟨mA,⟨ob,n,ne⟩,r,q,z,d⟩
end
structure Cls (K : PySem.W.Frag) (C : Addr) : Prop where
  pg : PySem.W.plainGet K C Str.empty = true
  hd : PySem.W.hasDictIn K C = true
  po : PySem.W.plainOver K C = true
  sa : PySem.W.findIn K (.ref C) "__setattr__" = some (some (.builtin "object.__setattr__"))
theorem Cls.get {K : PySem.W.Frag} {C : Addr} (c : Cls K C) (f : Str) : PySem.W.plainGet K C f = true := c.pg
def NoAttr (K : PySem.W.Frag) (C : Addr) (f : Str) : Prop := PySem.W.findIn K (.ref C) f = some none
theorem NoAttr.taker {K : PySem.W.Frag} {C : Addr} {f : Str} (n : NoAttr K C f) : PySem.W.takerIn K C f = some none := by
  unfold PySem.W.takerIn
  rw [show PySem.W.findIn K (.ref C) f = some none from n]
  rfl
structure Con (K : PySem.W.Frag) (C : Addr) (f : Str) (v : V) (u : Value) : Prop where
  at_ : PySem.W.findIn K (.ref C) f = some (some u)
  rel : RelV v u
  get : PySem.W.specialIn K u "__get__" = some none
  cp : PySem.W.copiedNames.contains f = false
structure Meth (K : PySem.W.Frag) (C : Addr) (m : Str) (f : Addr) : Prop where
  at_ : PySem.W.findIn K (.ref C) m = some (some (.ref f))
  fn : PySem.W.isFn K (.ref f) = true
  kp : PySem.W.keepIn K (.ref f) = true
section
variable {X : Cx} {pins : List (Addr × Obj)} {σ : St} {H : Hp} {s : Shared} {a C dx : Addr} {fs : List (Str × V)} {f : Str} {v : V} {A : Around} {E : Value → Shared → Prop}
theorem pA {b:Bool}{Q:Value→Shared→Prop} (I:Inv X pins σ H s) (e:H a=some (.ins C dx fs)) (c:Cls X.K C) (n:NoAttr X.K C f) (l:fs.lookup f=some v)
    (h:∀ u s',Inv X pins σ H s'→RelV v u→Q u s'):wpAny (model X.prog X.w) A (getAttr (.ref a) f b) Q E s:=by
  obtain ⟨mA,O,r,_,_,_⟩:=nu I.hok e
  obtain ⟨u,hu,ru⟩:=RelO.some_of (v:=v) (o:=mA f) (by rw [← l];exact r f)
  exact get_map I.kIn O (c.get f) c.hd n hu (qW ru) (h u _ (I.tok _) ru)
theorem jT {m:Str}{g:Addr}{pl:Sem Bool}{Q:Value×List Value→Shared→Prop} (I:Inv X pins σ H s) (e:H a=some (.ins C dx fs)) (c:Cls X.K C) (k:Meth X.K C m g) (l:fs.lookup m=none)
    (h:Q (.ref g,[.ref a]) s):wpAny (model X.prog X.w) A (getMethod (.ref a) m pl) Q E s:=by
  obtain ⟨mA,O,r,_,_,_⟩:=nu I.hok e
  have hn:mA m=none:=RelO.none_of (by rw [← l];exact r m)
  exact get_meth I.kIn O (c.get m) k.at_ k.fn hn h
theorem oP {y:V}{u:Value}{Q:Unit→Shared→Prop} (I:Inv X pins σ H s) (e:H a=some (.ins C dx fs)) (c:Cls X.K C) (n:NoAttr X.K C f) (hl:fs.length<1000) (ry:RelV y u)
    (h:∀ s',Inv X pins σ (upd H a (.ins C dx (dq f y fs))) s'→Q () s'):wpAny (model X.prog X.w) A (setAttr (.ref a) f u) Q E s:=by
  obtain ⟨mA,O,r,wi,_,ho⟩:=nu I.hok e
  have hz:(fs.map (·.1)).length≤sizeLine:=by rw [List.length_map,sizeLine_eq];omega
  refine set_map I.kIn O c.sa c.po n.taker c.hd wi hz fun h' O' sb=>h _ ?_
  have hd:∃ o,h'.get? dx=some o:=let ⟨o,_,_,e',_⟩:=O'.ns;⟨o,e'⟩
  refine I.write (x:=a) (e:=dx) (by rw [e];exact True.intro) (.inr ho) (fun b q hb z=>(sb.2 b hb).trans z) hd ?_
  refine ⟨by rw [aB O.ne];exact ho,?_,O.ne,O'.obj,_,O'.ns,fun g=>?_,fun g hg=>?_⟩
  · have:=eM f y fs;omega
  · show RelO ((dq f y fs).lookup g) (if g=f then some u else mA g)
    rw [bQ]
    by_cases q:g=f
    · rw [if_pos q,if_pos q];exact ry
    · rw [if_neg q,if_neg q];exact r g
  · by_cases q:g=f
    · rw [q];exact (jn f y fs).1
    · refine (jn f y fs).2 g (wi g fun z=>hg ?_)
      show (if g=f then some u else mA g)=none
      rw [if_neg q];exact z
theorem Inv.made (I : Inv X pins σ H s) : Inv X pins σ (upd (upd H s.heap.objs.size (.own (s.heap.objs.size + 1))) (s.heap.objs.size + 1) (.ins C s.heap.objs.size []))
    { s with heap := (s.heap.push PySem.W.emptyDict).push (PySem.W.instObj C s.heap.objs.size) } := by
  have e1 : (s.heap.push PySem.W.emptyDict).get? s.heap.objs.size = some PySem.W.emptyDict := Heap.get?_push_size s.heap rfl
  have e2 : ((s.heap.push PySem.W.emptyDict).push (PySem.W.instObj C s.heap.objs.size)).get? (s.heap.objs.size + 1) = some (PySem.W.instObj C s.heap.objs.size) := by
    have := Heap.get?_push_size (s.heap.push PySem.W.emptyDict) (o := PySem.W.instObj C s.heap.objs.size) rfl
    rwa [Heap.size_push] at this
  have e3 : (s.heap.push PySem.W.emptyDict).Ns s.heap.objs.size (fun _ => none) := ⟨PySem.W.emptyDict, #[], _, e1, rfl, (fun e he => absurd he (by simp)), fun _ => rfl⟩
  have I1 := I.laid (a := s.heap.objs.size) (o := .own (s.heap.objs.size + 1)) (h' := s.heap.push PySem.W.emptyDict) (t' := s.toks) (fun b u q => Heap.get?_push_of_some _ q) (Nat.le_refl _) ⟨_, e1⟩
  refine I1.laid (a := s.heap.objs.size + 1) (o := .ins C s.heap.objs.size []) (t' := s.toks) (fun b u q => Heap.get?_push_of_some _ q) (Nat.le_of_eq (Heap.size_push _ _)) ?_
  have ne : s.heap.objs.size ≠ s.heap.objs.size + 1 := Nat.ne_of_lt (Nat.lt_succ_self _)
  refine ⟨by rw [aB ne, upd_same], Nat.zero_le _, ne, e2, fun _ => none, (Heap.Ns1.of_empty e3).at fun o q => Heap.get?_push_of_some _ q, fun _ => True.intro, fun y hy => absurd rfl hy⟩
theorem attr_of {prog : Program} {w : World} {env : Env} {e : Expr} {f : Str} {pos : Pos} {s : Shared} {Q : Value → Shared → Prop} (hb : attributeBase e f env (eval e env) = eval e env)
    (h : wpAny (model prog w) A (eval e env) (fun o s₁ => wpAny (model prog w) A (getAttr o f true) Q E s₁) E s) : wpAny (model prog w) A (eval (.Attribute e f pos) env) Q E s :=
  Attribute_any_ h (by rw [arm_eval_Attribute, hb])
end
def tFld (K : PySem.W.Frag) (ta : TE) (f : Str) : TE := fun σ H Q => ta σ H fun x H1 => ∃ a C dx fs v, x = .ref a ∧ H1 a = some (.ins C dx fs) ∧ Cls K C ∧ NoAttr K C f ∧ fs.lookup f = some v ∧ Q v H1
def sFld (K : PySem.W.Frag) (ta tv : TE) (f : Str) : TS := fun D σ H => tv σ H fun y H1 => ta σ H1 fun x H2 => ∃ a C dx fs, x = .ref a ∧ H2 a = some (.ins C dx fs) ∧ Cls K C ∧ NoAttr K C f ∧ fs.length < 1000 ∧
  D.nx σ (upd H2 a (.ins C dx (dq f y fs)))
section
variable {X : Cx} {o e value : Expr} {f : Str} {pos pos' tpos : Pos} {ta tv : TE}
theorem aJ (he:PE X e ta) (hb:attributeBase e f X.env (eval e X.env)=eval e X.env):PE X (.Attribute e f pos) (tFld X.K ta f):=by
  intro pins s σ H Q I h
  refine attr_of hb (thn (he pins s σ H _ I h) fun u s1 ⟨x,H1,I1,rx,a,C,dx,fs,v,ex,ea,c,n,l,q⟩=>?_)
  subst ex
  obtain rfl:u=Value.ref a:=rx
  exact pA I1 ea c n l fun u' s2 I2 ru=>⟨v,H1,I2,ru,q⟩
theorem gE (ha:PE X o ta) (hv:PE X value tv) (hs:swapsWith value (some (.Attribute o f pos')) pos.line X.env=pure false):PS X (.Assign [.Attribute o f pos'] value pos) (sFld X.K ta tv f):=by
  intro pins s σ H D I h
  refine plainObj_wpAny_Assign_Attribute (thn (hv pins s σ H _ I h) fun u s1 ⟨y,H1,I1,ry,q⟩=>thn (ha pins s1 σ H1 _ I1 q) fun ov s2 ⟨x,H2,I2,rx,a,C,dx,fs,ex,ea,c,n,l,q2⟩=>?_) hs
  subst ex
  obtain rfl:ov=Value.ref a:=rx
  exact oP I2 ea c n l ry fun s3 I3=>⟨σ,_,I3,q2⟩
end
section
variable {X : Cx} {pins : List (Addr × Obj)} {σ : St} {H : Hp} {s : Shared} {A : Around} {E : Value → Shared → Prop} {Q : Value → Shared → Prop} {c : Value} {b : Bool}
end
end L2
namespace L2
open PySem PySem.Spec PyProof.Rows
structure Room (k : Nat) (A : Around) : Prop where
  hd : A.handled = none
  dp : A.depth + 3 * k + 5 < recursionLimit
  un : A.units + 16 * k + 200 < cLine
theorem Room.mono {j k : Nat} {A : Around} (r : Room k A) (h : j ≤ k) : Room j A := ⟨r.hd, by have := r.dp; omega, by have := r.un; omega⟩
theorem Room.deeper {k : Nat} {A : Around} (r : Room (k + 1) A) (env : Env) : Room k (A.deeper env) :=
  ⟨r.hd, by have := r.dp; show A.depth + 1 + 3 * k + 5 < _; omega, by have := r.un; show A.units + 3 + 16 * k + 200 < _; omega⟩
theorem pj {A:Around}{C:Addr}{us:List Value}{kw:List (Str×Value)}:(A.under (.builtin "type.__call__" ⟨.ref C::us,kw⟩)).depth=A.depth+1:=by
  first | rfl | simp [Around.under,Code.weight,Code.isCreation,Code.isGuard,Code.isCaller,Code.frames,Code.isFrame,guardIds]
theorem pi {A:Around}{C:Addr}{us:List Value}{kw:List (Str×Value)}:(A.under (.builtin "type.__call__" ⟨.ref C::us,kw⟩)).units=A.units+1:=by
  first | rfl | simp [Around.under,Code.cUnits,Code.frames,Code.isFrame]
theorem Room.make {k : Nat} {A : Around} (r : Room (k + 1) A) (C : Addr) (us : List Value) (kw : List (Str × Value)) : Room k (A.under (.builtin "type.__call__" ⟨.ref C :: us, kw⟩)) :=
  ⟨r.hd, by have := r.dp; rw [pj]; omega, by have := r.un; rw [pi]; omega⟩
theorem Room.depth {k : Nat} {A : Around} (r : Room k A) : A.depth < recursionLimit := by have := r.dp; omega
theorem Room.units {k : Nat} {A : Around} (r : Room k A) : A.units + 64 < cLine := by have := r.un; omega
def tNil : TA := fun _ H Q => Q [] H
def tCons (ta : TE) (tr : TA) : TA := fun σ H Q => ta σ H fun x H1 => tr σ H1 fun xs H2 => Q (x :: xs) H2
section
variable {X : Cx} {e : Expr} {es : List Expr} {te : TE} {t : TA} {pos : Pos}
theorem ac:PA X [] tNil:=fun _ _ _ _ H Q I h=>Calls.spliced_nil ⟨[],H,I,.nil,h⟩
theorem aa (ha:PE X e te) (hr:PA X es t) (hs:starEach (e::es) X.env=(false,eval e X.env)::starEach es X.env:=by rfl):PA X (e::es) (tCons te t):=by
  intro pos pins s σ H Q I h
  rw [hs]
  show wpAny _ _ (spliced ((false,eval e X.env)::backTo pos (starEach es X.env))) _ _ s
  refine Calls.spliced_cons (thn (ha pins s σ H _ I h) fun u s1 ⟨x,H1,I1,r1,q1⟩=>?_)
  exact thn (hr pos pins s1 σ H1 _ I1 q1) fun us s2 ⟨xs,H2,I2,r2,q2⟩=>⟨x::xs,H2,I2,.cons r1 r2,q2⟩
def tTup (t : TA) : TE := fun σ H Q => t σ H fun xs H1 => xs.length ≤ sizeLine ∧ ∀ p, H1 p = none → Q (.ref p) (upd H1 p (.tup xs))
def tLst (t : TA) : TE := fun σ H Q => t σ H fun xs H1 => xs.length ≤ sizeLine ∧ ∀ p, H1 p = none → Q (.ref p) (upd H1 p (.lst xs))
theorem bX {x1} (h:PA X es t):PE X (.Tuple es x1 pos) (tTup t):=by
  intro pins s σ H Q I hq
  refine wpAny_Tuple_spliced (thn (h pos pins s σ H _ I hq) fun us s1 ⟨xs,H1,I1,r,z,q⟩=>⟨by rw [← r.length];exact z,?_⟩)
  have hf:H1 s1.heap.objs.size=none:=I1.hok.fresh (Nat.le_refl _)
  refine ⟨.ref s1.heap.objs.size,upd H1 s1.heap.objs.size (.tup xs),I1.laid (t':=s1.toks) (fun b u e=>Heap.get?_push_of_some _ e) (Nat.le_refl _) ?_,rfl,q _ hf⟩
  exact ⟨z,us,r,⟨_,Heap.get?_push_size _ rfl,rfl,_,rfl⟩⟩
theorem aW (h:PA X es t):PE X (.List es pos) (tLst t):=by
  intro pins s σ H Q I hq
  refine wpAny_List_spliced (thn (h pos pins s σ H _ I hq) fun us s1 ⟨xs,H1,I1,r,z,q⟩=>⟨by rw [← r.length];exact z,?_⟩)
  have hf:H1 s1.heap.objs.size=none:=I1.hok.fresh (Nat.le_refl _)
  refine ⟨.ref s1.heap.objs.size,upd H1 s1.heap.objs.size (.lst xs),I1.laid (t':=s1.toks) (fun b u e=>Heap.get?_push_of_some _ e) (Nat.le_refl _) ?_,rfl,q _ hf⟩
  exact ⟨z,us,0,r,Heap.get?_push_size _ rfl⟩
end
abbrev Sp := List V → Hp → VK → XK → Prop
abbrev CXT := List Env → Hp → Shared → XK → Value → Shared → Prop
structure Env0 (P : Program) (w : World) (K : PySem.W.Frag) (mg : Str → Option Value) (base : Heap) (A : Around) (outer : List Env) (s : Shared) (H : Hp) : Prop where
  frames : A.frames = some outer
  mod : Mod K mg base
  bs : ∀ b o, base.get? b = some o → s.heap.get? b = some o ∧ H b = none
  bsz : base.objs.size ≤ s.heap.objs.size
  funs : s.heap.FunFrames base outer
  frf : ∀ b ∈ frs outer, H b = none
  hok : HOk P w H s.heap
  bare : AllBare s.gens
def CE (outer : List Env) (P : Program) (w : World) (H : Hp) (s : Shared) (Q : VK) (u : Value) (s' : Shared) : Prop :=
  ∃ v H', s'.os = s.os ∧ AllBare s'.gens ∧ Un (frs outer) [] H H' s.heap s'.heap ∧ HOk P w H' s'.heap ∧ RelV v u ∧ Q v H'
def CR (CX : CXT) (outer : List Env) (P : Program) (w : World) (H : Hp) (s : Shared) (Q : VK) (E : XK) (r : Result) (s' : Shared) : Prop :=
  match r with
  | .ok (.ret u) => CE outer P w H s Q u s'
  | .ok _ => False
  | .error e => CX outer H s E e s'
structure iU (P:Program) (w:World) (K:PySem.W.Frag) (mg:Str→Option Value) (base:Heap) (CX:CXT) (k:Nat) (f:Addr) (fd:FuncData) (ps:List Str) (sp:Sp):Prop where
  len:∀ vs H Q E,sp vs H Q E→vs.length=ps.length
  run:∀ (A:Around) (outer:List Env) (s:Shared) (H:Hp) (args:Args) (us:List Value) (vs:List V) (Q:VK) (E:XK),Room k A→Env0 P w K mg base A outer s H→BindsTo s fd args (ps.zip us)→Vals vs us→sp vs H Q E →
    codeAny (model P w) A (.call (.ref f) args) (CR CX outer P w H s Q E) s
theorem Env0.make {P : Program} {w : World} {K : PySem.W.Frag} {mg : Str → Option Value} {base : Heap} {A : Around} {outer : List Env} {s : Shared} {H : Hp} (e : Env0 P w K mg base A outer s H) (C : Addr) (us : List Value) (kw : List (Str × Value)) :
    Env0 P w K mg base (A.under (.builtin "type.__call__" ⟨.ref C :: us, kw⟩)) outer s H := ⟨by first | exact e.frames | (simpa [Around.under, Code.envs, Code.isFrame, pushEnvs] using e.frames), e.mod, e.bs, e.bsz, e.funs, e.frf, e.hok, e.bare⟩
section
variable {X : Cx} {pins : List (Addr × Obj)} {σ : St} {H : Hp} {s s' : Shared}
theorem Inv.env0 (I : Inv X pins σ H s) : Env0 X.prog X.w X.K X.mg X.base X.A X.stack s H :=
  ⟨I.ok.frames, I.ok.mod, I.bs, Nat.le_trans I.ok.bsz I.sz, I.stack, I.stkFree, I.hok, I.bare⟩
theorem Inv.after {Q : VK} {u : Value} (I : Inv X pins σ H s) (h : CE X.stack X.prog X.w H s Q u s') : EP X pins σ Q u s' := by
  obtain ⟨v, H', os, bare, un, hok, r, q⟩ := h
  obtain ⟨hh, g, d, t, os'⟩ := s'
  obtain rfl : os' = s.os := os
  exact ⟨v, H', I.call (h' := hh) (g' := g) (d' := d) (t' := t) (ch := []) un hok bare (fun b z => absurd z (by simp)), r, q⟩
end
def tCall (sp : Sp) (dvs : List V) (E : XK) (t : TA) : TE := fun σ H Q => t σ H fun vs H1 => sp (vs ++ dvs) H1 Q E
def tMeth (C : Addr) (m : Str) (sp : Sp) (dvs : List V) (E : XK) (ta : TE) (t : TA) : TE := fun σ H Q => ta σ H fun x H1 => ∃ a dx fs, x = .ref a ∧ H1 a = some (.ins C dx fs) ∧ fs.lookup m = none ∧
  t σ H1 fun vs H2 => sp (x :: (vs ++ dvs)) H2 Q E
def tMake (C : Addr) (sp : Sp) (dvs : List V) (E : XK) (t : TA) : TE := fun σ H Q => t σ H fun vs H1 => ∀ x dx, H1 x = none → H1 dx = none → dx ≠ x →
  sp (.ref x :: (vs ++ dvs)) (upd (upd H1 dx (.own x)) x (.ins C dx [])) (fun v H2 => v = .non ∧ Q (.ref x) H2) E
def Binds (K : PySem.W.Frag) (fd : FuncData) (ps : List Str) (ds : List Value) : Prop :=
  ∀ (s : Shared) (us : List Value), K.In s.heap → (us ++ ds).length = ps.length → BindsTo s fd ⟨us, []⟩ (ps.zip (us ++ ds))
theorem Binds.all {K : PySem.W.Frag} {fd : FuncData} {ps : List Str} (h : ∀ us : List Value, us.length = ps.length → bindArgs fd ⟨us, []⟩ = pure (ps.zip us)) : Binds K fd ps [] := fun s us _ hl => by
  rw [List.append_nil] at hl ⊢
  exact .of_eq (h us hl)
def iC (CX:CXT) (X:Cx) (E:XK):Prop:=∀ (pins:List (Addr×Obj)) (σ:St) (H:Hp) (s:Shared) (e:Value) (s':Shared),Inv X pins σ H s→CX X.stack H s E e s'→X.xe e s'
section
variable {X : Cx} {CX : CXT} {k : Nat} {f C : Addr} {fd : FuncData} {ps : List Str} {sp : Sp} {dvs : List V} {ds : List Value} {E : XK} {x m : Str} {p pos apos : Pos} {e o : Expr} {es : List Expr} {ta : TE} {t : TA}
theorem qi {pins:List (Addr×Obj)}{σ:St}{H:Hp}{s:Shared}{Q:VK}{us:List Value}{vs:List V} (F:iU X.prog X.w X.K X.mg X.base CX k f fd ps sp) (hr:Room k X.A) (hb:Binds X.K fd ps ds) (hd:Vals dvs ds) (hx:iC CX X E)
    (I:Inv X pins σ H s) (r:Vals vs us) (h:sp (vs++dvs) H Q E):wpAny (model X.prog X.w) X.A (call (.ref f) us) (EP X pins σ Q) X.xe s:=by
  have r2:Vals (vs++dvs) (us++ds):=r.append hd
  have hl:(us++ds).length=ps.length:=by rw [← r2.length];exact F.len _ _ _ _ h
  refine wpAny_call (codeAny_mono (F.run X.A X.stack s H ⟨us,[]⟩ (us++ds) (vs++dvs) Q E hr I.env0 (hb s us I.kIn hl) r2 h) fun r s' hq=>?_)
  cases r with
  | error e=>exact hx pins σ H s e s' I hq
  | ok fl =>
    cases fl with
    | ret u=>exact I.after hq
    | next=>exact False.elim hq
    | brk=>exact False.elim hq
    | cont=>exact False.elim hq
theorem ql (F:iU X.prog X.w X.K X.mg X.base CX k f fd ps sp) (hr:Room k X.A) (hg:Gl X x) (hm:X.mg x=some (.ref f)) (hk:PySem.W.keepIn X.K (.ref f)=true) (hb:Binds X.K fd ps ds) (hd:Vals dvs ds) (hx:iC CX X E)
    (ha:PA X (e::es) t) (hdb:(x == ("__debug__":Str))=false:=by decide) (he:starEach (e::es) X.env=(false,eval e X.env)::starEach es X.env:=by rfl) (hpl:(backTo pos (starEach es X.env)).any (·.1)=false:=by rfl) :
    PE X (.Call (.Name x p) (e::es) [] pos) (tCall sp dvs E t):=by
  intro pins s σ H Q I h
  refine wpAny_Call_Name_kw (kQ I hg hm ?_ hdb)
  refine PySem.W.callWith_K (h₀:=X.base) I.ok.mod.kin hk (thn (ha pos pins s σ H _ I h) fun us s1 ⟨vs,H1,I1,r,q⟩=>⟨I1.kIn,?_⟩) he hpl
  exact qi F hr hb hd hx I1 r q
theorem pe_meth {pl:Sem Bool} (he:PE X o ta) (c:Cls X.K C) (hm:Meth X.K C m f) (F:iU X.prog X.w X.K X.mg X.base CX k f fd ps sp) (hr:Room k X.A) (hb:Binds X.K fd ps ds) (hd:Vals dvs ds) (hx:iC CX X E) (ha:PA X (e::es) t)
    (hst:starEach (e::es) X.env=(false,eval e X.env)::starEach es X.env:=by rfl) (hpl:(backTo pos (starEach es X.env)).any (·.1)=false:=by rfl)
    (ht:eval (.Call (.Attribute o m apos) (e::es) [] pos) X.env=(do
      let ov ← eval o X.env
      standAt apos.atName
      let (f,first) ← holding [ov] (getMethod ov m pl)
      callWith pos f first (backTo pos (starEach (e::es) X.env)) (backToKw pos (keywordEach [] X.env))):=by rfl) :
    PE X (.Call (.Attribute o m apos) (e::es) [] pos) (tMeth C m sp dvs E ta t):=by
  intro pins s σ H Q I h
  refine PySem.W.methodCall_KW (pl:=pl) (thn (he pins s σ H _ I h) fun u s1 ⟨x,H1,I1,rx,a,dx,fs,ex,ea,l,q⟩=>?_) ht
  subst ex
  obtain rfl:u=Value.ref a:=rx
  refine jT I1 ea c hm l ?_
  refine PySem.W.callWith_K (first:=[.ref a]) (h₀:=X.base) I.ok.mod.kin hm.kp (thn (ha pos pins s1 σ H1 _ I1 q) fun us s2 ⟨vs,H2,I2,r,q2⟩=>⟨I2.kIn,?_⟩) hst hpl
  exact qi (us:=.ref a::us) (vs:=.ref a::vs) F hr hb hd hx I2 (.cons rfl r) q2
theorem pe_meth0 {pl:Sem Bool} (he:PE X o ta) (c:Cls X.K C) (hm:Meth X.K C m f) (F:iU X.prog X.w X.K X.mg X.base CX k f fd ps sp) (hr:Room k X.A) (hb:Binds X.K fd ps ds) (hd:Vals dvs ds) (hx:iC CX X E)
    (ht:eval (.Call (.Attribute o m apos) [] [] pos) X.env=(do
      let ov ← eval o X.env
      standAt apos.atName
      let (f,first) ← holding [ov] (getMethod ov m pl)
      callWith pos f first (backTo pos (starEach [] X.env)) (backToKw pos (keywordEach [] X.env))):=by rfl) :
    PE X (.Call (.Attribute o m apos) [] [] pos) (tMeth C m sp dvs E ta tNil):=by
  intro pins s σ H Q I h
  refine PySem.W.methodCall_KW (pl:=pl) (thn (he pins s σ H _ I h) fun u s1 ⟨x,H1,I1,rx,a,dx,fs,ex,ea,l,q⟩=>?_) ht
  subst ex
  obtain rfl:u=Value.ref a:=rx
  refine jT I1 ea c hm l ?_
  exact PySem.W.callWith_K0 (first:=[.ref a]) I1.kIn hm.kp (qi (us:=[.ref a]) (vs:=[.ref a]) F hr hb hd hx I1 (.cons rfl .nil) q)
structure Mk (K : PySem.W.Frag) (C f : Addr) : Prop where
  makes : PySem.W.makesIn K C = true
  init : PySem.W.findIn K (.ref C) "__init__" = some (some (.ref f))
  fn : PySem.W.isFn K (.ref f) = true
  kp : PySem.W.keepIn K (.ref C) = true
theorem run_make {pins:List (Addr×Obj)}{σ:St}{H:Hp}{s:Shared}{Q:VK}{us:List Value}{vs:List V} (M:Mk X.K C f) (F:iU X.prog X.w X.K X.mg X.base CX k f fd ps sp) (hr:Room (k+1) X.A) (hb:Binds X.K fd ps ds) (hd:Vals dvs ds)
    (hx:iC CX X E) (I:Inv X pins σ H s) (r:Vals vs us)
    (h:∀ x dx,H x=none→H dx=none→dx≠x→sp (.ref x::(vs++dvs)) (upd (upd H dx (.own x)) x (.ins C dx [])) (fun v H2=>v=.non∧Q (.ref x) H2) E) :
    wpAny (model X.prog X.w) X.A (call (.ref C) us) (EP X pins σ Q) X.xe s:=by
  have hq:=h (s.heap.objs.size+1) s.heap.objs.size (I.hok.fresh (Nat.le_succ _)) (I.hok.fresh (Nat.le_refl _)) (Nat.ne_of_lt (Nat.lt_succ_self _))
  have I2:=Inv.made (C:=C) I
  have r2:Vals (V.ref (s.heap.objs.size+1)::(vs++dvs)) (Value.ref (s.heap.objs.size+1)::(us++ds)):=.cons rfl (r.append hd)
  have hl:(Value.ref (s.heap.objs.size+1)::us++ds).length=ps.length:=by
    have e:=r2.length
    rw [F.len _ _ _ _ hq] at e
    exact e.symm
  refine wpAny_call (make_map (f:=f) I.kIn M.makes M.init (beq_iff_eq.mp M.fn) (codeAny_mono (F.run _ X.stack _ _ ⟨Value.ref (s.heap.objs.size+1)::us,[]⟩ (Value.ref (s.heap.objs.size+1)::(us++ds)) _ _ E (hr.make C us [])
    (I2.env0.make C us []) (hb _ (Value.ref (s.heap.objs.size+1)::us) I2.kIn hl) r2 hq) fun r s' hq'=>?_))
  cases r with
  | error e=>exact hx pins σ _ _ e s' I2 hq'
  | ok fl =>
    cases fl with
    | ret u =>
      obtain ⟨v,H',I3,rv,ev,q3⟩:=I2.after hq'
      subst ev
      exact ⟨rv,⟨V.ref (s.heap.objs.size+1),H',I3,rfl,q3⟩⟩
    | next=>exact False.elim hq'
    | brk=>exact False.elim hq'
    | cont=>exact False.elim hq'
theorem pe_make (M:Mk X.K C f) (F:iU X.prog X.w X.K X.mg X.base CX k f fd ps sp) (hr:Room (k+1) X.A) (hg:Gl X x) (hm:X.mg x=some (.ref C)) (hb:Binds X.K fd ps ds) (hd:Vals dvs ds) (hx:iC CX X E)
    (ha:PA X (e::es) t) (hdb:(x == ("__debug__":Str))=false:=by decide) (he:starEach (e::es) X.env=(false,eval e X.env)::starEach es X.env:=by rfl) (hpl:(backTo pos (starEach es X.env)).any (·.1)=false:=by rfl) :
    PE X (.Call (.Name x p) (e::es) [] pos) (tMake C sp dvs E t):=by
  intro pins s σ H Q I h
  refine wpAny_Call_Name_kw (kQ I hg hm ?_ hdb)
  refine PySem.W.callWith_K (h₀:=X.base) I.ok.mod.kin M.kp (thn (ha pos pins s σ H _ I h) fun us s1 ⟨vs,H1,I1,r,q⟩=>⟨I1.kIn,?_⟩) he hpl
  exact run_make M F hr hb hd hx I1 r q
end
section
variable {X : Cx} {CX : CXT} {k : Nat} {f C : Addr} {fd : FuncData} {ps ks : List Str} {sp : Sp} {E : XK} {x m : Str} {p pos apos kpos : Pos} {e o : Expr} {es : List Expr} {kws : List Keyword} {te ta : TE} {t tk : TA} {nm : Option Str}
structure KBinds (K : PySem.W.Frag) (fd : FuncData) (ps ks : List Str) (g : List Value → List Value → List Value) (gV : List V → List V → List V) : Prop where
  to : ∀ (s : Shared) (us ws : List Value), K.In s.heap → (g us ws).length = ps.length → BindsTo s fd ⟨us, ks.zip ws⟩ (ps.zip (g us ws))
  rel : ∀ {vs : List V} {us : List Value} {zs : List V} {ws : List Value}, Vals vs us → Vals zs ws → Vals (gV vs zs) (g us ws)
variable {g : List Value → List Value → List Value} {gV : List V → List V → List V}
end
structure az (N P:List Str) (sc:Scope):Prop where
  kind:sc.kind=.function
  co:sc.isCoroutine=false
  gen:sc.isGenerator=false
  nd:N.Nodup
  pre:N.take P.length=P
  par:∀ x∈P,sc.names.lookup x=some .local∨sc.names.lookup x=some .cell
  nofree:∀ y∈sc.names,y.2≠.free
theorem mz {kindOf:Str→Option NameKind}{x:Str}:∀ {binds:List (Str×Value)}{m:Str→Option Value},(∀ v,(x,v)∉binds)→bindL kindOf binds m x=m x
  | [],_,_=>rfl
  | (n,v)::r,m,h=>by
    unfold bindL
    rw [mz fun w hw=>h w (List.mem_cons_of_mem _ hw)]
    split
    · have:x≠n:=by rintro rfl;exact h v List.mem_cons_self
      simp [this]
    · rfl
theorem mE {kindOf:Str→Option NameKind}{x:Str}:∀ {binds:List (Str×Value)}{m:Str→Option Value},(∀ v,(x,v)∉binds)→bindC kindOf binds m x=m x
  | [],_,_=>rfl
  | (n,v)::r,m,h=>by
    unfold bindC
    rw [mE fun w hw=>h w (List.mem_cons_of_mem _ hw)]
    split
    · rfl
    · have:x≠n:=by rintro rfl;exact h v List.mem_cons_self
      simp [this]
theorem mD {kindOf:Str→Option NameKind}{x:Str}{v:Value}:∀ {P:List Str}{vs:List Value}{i:Nat}{m:Str→Option Value},P.Nodup→P[i]?=some x→vs[i]?=some v→kindOf x=some .local →
    bindL kindOf (P.zip vs) m x=some v
  | [],_,_,_,_,h,_,_=>by simp at h
  | _::_,[],_,_,_,_,h,_=>by simp at h
  | p::P,w::vs,0,m,nd,h1,h2,hk=>by
    simp at h1 h2;subst h1;subst h2
    show bindL kindOf ((p,w)::P.zip vs) m p=_
    unfold bindL
    rw [mz fun v hv=>(List.nodup_cons.mp nd).1 (List.of_mem_zip hv).1,if_pos hk]
    simp
  | p::P,w::vs,i+1,m,nd,h1,h2,hk=>by
    show bindL kindOf ((p,w)::P.zip vs) m x=_
    unfold bindL
    exact mD (i:=i) (List.nodup_cons.mp nd).2 (by simpa using h1) (by simpa using h2) hk
theorem mF {kindOf:Str→Option NameKind}{x:Str}{v:Value}:∀ {P:List Str}{vs:List Value}{i:Nat}{m:Str→Option Value},P.Nodup→P[i]?=some x→vs[i]?=some v→kindOf x≠some .local →
    bindC kindOf (P.zip vs) m x=some v
  | [],_,_,_,_,h,_,_=>by simp at h
  | _::_,[],_,_,_,_,h,_=>by simp at h
  | p::P,w::vs,0,m,nd,h1,h2,hk=>by
    simp at h1 h2;subst h1;subst h2
    show bindC kindOf ((p,w)::P.zip vs) m p=_
    unfold bindC
    rw [mE fun v hv=>(List.nodup_cons.mp nd).1 (List.of_mem_zip hv).1,if_neg hk]
    simp
  | p::P,w::vs,i+1,m,nd,h1,h2,hk=>by
    show bindC kindOf ((p,w)::P.zip vs) m x=_
    unfold bindC
    exact mF (i:=i) (List.nodup_cons.mp nd).2 (by simpa using h1) (by simpa using h2) hk
def start (N : List Str) (vs : List V) : St := vs.map some ++ List.replicate (N.length - vs.length) none
def iM (CX:CXT) (P:Program) (w:World) (K:PySem.W.Frag) (mg:Str→Option Value) (base:Heap) (N:List Str) (qual:Str) (scope:Scope) (f:Addr) (cd:Value) (A:Around) (outer:List Env) (s:Shared) (H:Hp) (E:XK):Cx where
  prog:=P
  w:=w
  K:=K
  mg:=mg
  base:=base
  A:=A.deeper (envOfC qual scope s.heap.objs.size f cd)
  N:=N
  s₀:=s
  H₀:=H
  env:=envOfC qual scope s.heap.objs.size f cd
  outer:=outer
  stack:=envOfC qual scope s.heap.objs.size f cd::outer
  ex:=[]
  calm:=true
  fn:=fun _=>true
  pn:=[]
  xe:=fun e s'=>wpAny (model P w) (A.deeper (envOfC qual scope s.heap.objs.size f cd)) (leaving (envOfC qual scope s.heap.objs.size f cd) e) (fun _ s''=>CX outer H s E e s'') (fun e' s''=>CX outer H s E e' s'') s'
theorem oF {sc:Scope}{n:Nat}{x:Str} (h:sc.names.lookup x=some .cell):∃ c,(cellsFrom n sc.names []).lookup x=some c:=by
  have q:=PySem.W.cellsFrom_some sc.names n [] (.inl h)
  exact Option.isSome_iff_exists.mp q
theorem qT {CX:CXT}{P:Program}{w:World}{K:PySem.W.Frag}{mg:Str→Option Value}{base:Heap}{N ps:List Str}{qual:Str}{scope:Scope}{f:Addr}{cd:Value}{A:Around}{outer:List Env}{s s1:Shared}{H:Hp}{E:XK}{us:List Value}{vs:List V}
    (S:az N ps scope) (hd:A.handled=none) (e0:Env0 P w K mg base A outer s H) (hl:vs.length=ps.length) (r:Vals vs us)
    (x:InCallC s s.heap.objs.size (bindL (envOfC qual scope s.heap.objs.size f cd).kindOf (ps.zip us) fun _=>none) (cellsFrom (s.heap.objs.size+1) scope.names []) (bindC (envOfC qual scope s.heap.objs.size f cd).kindOf (ps.zip us) fun _=>none) s1) :
    Inv (iM CX P w K mg base N qual scope f cd A outer s H E) [] (start N vs) H s1:=by
  have hpl:ps.length≤N.length:=by have:=congrArg List.length S.pre;rw [List.length_take] at this;omega
  obtain ⟨h1,tk,rfl,hk⟩:=x.done
  have noA:∀ b:Addr,b∉(iM CX P w K mg base N qual scope f cd A outer s H E).ex:=fun b z=>absurd (show b∈([]:List Addr) from z) (by simp)
  refine ⟨⟨e0.mod,S.kind,rfl,rfl,Nat.le_refl _,fun y z c h1 h2=>?_,fun y hy=>?_,fun y c _ h=>?_,fun _=>hd,Around.frames_deeper e0.frames,.inr ⟨rfl,rfl⟩,fun b z=>absurd z (noA b),e0.bs,e0.bsz,fun b _ _=>noA b,fun b z=>absurd z (noA b),e0.funs,e0.frf⟩,
    rfl,e0.bare,Un.kept hk,⟨_,x.toInCall.ns,fun i y v h1 h2 h3=>?_⟩,fun y c h=>⟨_,x.cell y c h⟩,e0.hok.fresh (Nat.le_refl _),fun y c h=>?_,fun p hp=>absurd (show p∈([]:List (Addr×Obj)) from hp) (by simp),e0.hok.kept hk,?_⟩
  · exact name_of_addr x.apart (PySem.mem_of_lookup h1) (PySem.mem_of_lookup h2)
  · have hy:scope.names.lookup y=some .cell∨scope.names.lookup y=some .free:=hy
    rcases hy with hy | hy
    · exact oF hy
    · exact absurd rfl (S.nofree _ (PySem.mem_of_lookup hy))
  · exact Nat.le_of_lt (x.above y c (PySem.mem_of_lookup h))
  · have hi:i<vs.length:=by
      unfold start at h2
      by_cases hi:i<vs.length
      · exact hi
      · rw [List.getElem?_append_right (by simpa using hi)] at h2
        rw [List.getElem?_replicate] at h2
        split at h2<;>cases h2
    have ha:vs[i]?=some v:=by
      unfold start at h2
      rw [List.getElem?_append_left (by simpa using hi),List.getElem?_map] at h2
      cases e:vs[i]? with
      | none=>rw [e] at h2;cases h2
      | some a=>rw [e] at h2;cases h2;rfl
    obtain ⟨u,hu,rv⟩:=r.get ha
    have hp:ps[i]?=some y:=by
      rw [← S.pre,List.getElem?_take_of_lt (by omega)];exact h1
    have ndP:ps.Nodup:=by rw [← S.pre];exact S.nd.sublist (List.take_sublist _ _)
    refine ⟨u,rv,?_⟩
    rcases S.par y (List.mem_of_getElem? hp) with k | k
    · exact .inl ⟨k,mD ndP hp hu k⟩
    · obtain ⟨c,e⟩:=oF (n:=s.heap.objs.size+1) k
      refine .inr ⟨.inl k,c,e,?_⟩
      have q:=x.cell y c e
      rw [mF ndP hp hu (by show scope.names.lookup y≠_;rw [k];decide)] at q
      exact q
  · exact e0.hok.fresh (Nat.le_of_lt (x.above y c (PySem.mem_of_lookup h)))
  · unfold start
    show _=N.length
    rw [List.length_append,List.length_map,List.length_replicate]
    omega
theorem fn_of {CX : CXT} {P : Program} {w : World} {K : PySem.W.Frag} {mg : Str → Option Value} {base : Heap} {k : Nat} {f : Addr} {name qual : Str} {params : Arguments} {body : List Stmt} {scope : Scope} {dV kV doc pm cdv ct oc : Value} {an od : Option Addr}
    {osl : Array (Option Value)} {N ps : List Str} {sp : Sp} (lk : K.lookup f = some ⟨oc, od, .func (PySem.W.fnOf name qual params body scope dV kV doc pm an cdv ct), osl⟩) (hcd : PySem.W.codeIn K cdv qual = true) (S : az N ps scope)
    (len : ∀ vs H Q E, sp vs H Q E → vs.length = ps.length)
    (hbody : ∀ (A : Around) (outer : List Env) (s : Shared) (H : Hp) (vs : List V) (Q : VK) (E : XK), Room k (A.deeper (envOfC qual scope s.heap.objs.size f cdv)) → sp vs H Q E →
      ∃ t, PSs (iM CX P w K mg base N qual scope f cdv A outer s H E) body t ∧ t { nx := fun _ H' => Q .non H', rt := Q } (start N vs) H) :
    iU P w K mg base CX (k + 1) f (PySem.W.fnOf name qual params body scope dV kV doc pm an cdv ct) ps sp := by
  refine ⟨len, fun A outer s H args us vs Q E hr e0 hb r hsp => ?_⟩
  have hl := len _ _ _ _ hsp
  have KX : K.In s.heap := e0.mod.kin.keeps fun b o e => (e0.bs b o e).1
  have lim : s.heap.NoLimit := e0.mod.nolimit.keeps fun b o e => (e0.bs b o e).1
  have hkind : ∀ y ∈ ps.zip us, scope.names.lookup y.1 = some .local ∨ (scope.names.lookup y.1 = some .cell ∧ ((cellsFrom (s.heap.objs.size + 1) scope.names []).lookup y.1).isSome = true) := fun ⟨n, v⟩ hy => by
    rcases S.par n (List.of_mem_zip hy).1 with q | q
    · exact .inl q
    · exact .inr ⟨q, PySem.W.cellsFrom_some _ _ _ (.inl q)⟩
  refine codeAny_call_function hr.depth (KX _ _ lk) rfl S.co S.gen rfl (PySem.W.codeRec_of KX hcd) (hb _ _ _ _ ?_)
  refine wpAny_newFunctionEnv_cells S.kind hkind fun env he s1 x => ?_
  subst he
  refine ⟨lim.keeps x.toInCall.keep, codeAny_func ?_⟩
  obtain ⟨t, ht, hq⟩ := hbody A outer s H vs Q E (hr.deeper _) hsp
  have I : Inv (iM CX P w K mg base N qual scope f cdv A outer s H E) [] (start N vs) H s1 := qT S hr.hd e0 hl r x
  refine wpAny_mono (ht [] s1 (start N vs) H _ I hq) (fun fl s' hs => ?_) fun e s' hs => hs
  have fin : ∀ {σ' : St} {H' : Hp} {v : V} {u : Value}, Inv (iM CX P w K mg base N qual scope f cdv A outer s H E) [] σ' H' s' → RelV v u → Q v H' → CE outer P w H s Q u s' :=
    fun {σ' H' v u} J rv q => ⟨v, H', J.os, J.bare, J.base, J.hok, rv, q⟩
  cases fl with
  | ret u =>
    obtain ⟨v, σ', H', J, rv, q⟩ := hs
    exact fin J rv q
  | next =>
    obtain ⟨σ', H', J, q⟩ := hs
    exact fin (v := V.non) (u := Value.none) J rfl q
  | brk =>
    obtain ⟨_, _, _, q⟩ := hs
    exact False.elim q
  | cont =>
    obtain ⟨_, _, _, q⟩ := hs
    exact False.elim q
end L2
namespace L2
open PySem PySem.Spec PyProof.Rows
section
variable {X : Cx} {x : Str} {p pos : Pos} {e : Expr} {es : List Expr} {t : TA} {id T : String} {r : List V → Hp → VK → Prop}
def tCB (r : List V → Hp → VK → Prop) (t : TA) : TE := fun σ H Q => t σ H fun vs H1 => r vs H1 Q
theorem aN (hc:CallR X (.builtin id) r) (hg:Gl X x) (hm:X.mg x=none) (hv:bootBuiltins x=some (.builtin id)) (ha:PA X (e::es) t) (hn:x≠"__name__":=by decide) (hdb:(x == ("__debug__":Str))=false:=by decide)
    (he:starEach (e::es) X.env=(false,eval e X.env)::starEach es X.env:=by rfl) (hpl:(backTo pos (starEach es X.env)).any (·.1)=false:=by rfl):PE X (.Call (.Name x p) (e::es) [] pos) (tCB r t):=by
  intro pins s σ H Q I h
  refine wpAny_Call_Name_kw (eT I hg hm hv ?_ hn hdb)
  exact PyProof.Rows.callWith_builtin1 (thn (ha pos pins s σ H _ I h) fun us s1 ⟨vs,H1,I1,r1,q1⟩=>hc pins s1 σ H1 vs us Q I1 r1 q1) he hpl
theorem jf (hc:CallR X (.type T) r) (hg:Gl X x) (hm:X.mg x=none) (hv:bootBuiltins x=some (.type T)) (ha:PA X (e::es) t) (hn:x≠"__name__":=by decide) (hdb:(x == ("__debug__":Str))=false:=by decide)
    (he:starEach (e::es) X.env=(false,eval e X.env)::starEach es X.env:=by rfl) (hpl:(backTo pos (starEach es X.env)).any (·.1)=false:=by rfl):PE X (.Call (.Name x p) (e::es) [] pos) (tCB r t):=by
  intro pins s σ H Q I h
  refine wpAny_Call_Name_kw (eT I hg hm hv ?_ hn hdb)
  exact PyProof.Rows.callWith_type1 (thn (ha pos pins s σ H _ I h) fun us s1 ⟨vs,H1,I1,r1,q1⟩=>hc pins s1 σ H1 vs us Q I1 r1 q1) he hpl
end
end L2
namespace HT
open PySem PyProof.Rows
section
open PySem.SeqAt
open PySem.AutoSeq1 (wpAny_loadPart')
open PySem.MeetsSeq PySem.MeetsSeq2 PySem.MeetsSeq3
end
section
variable {prog : Program} {w : World} {A : Around} {E : Value → Shared → Prop} {s : Shared}
def sIx (n d : Nat) : Option Int → Nat
  | none => d
  | some v => if v < 0 then (v + (n : Int)).toNat else min v.toNat n
theorem sIx_none (n d : Nat) : sIx n d none = d := rfl
theorem sIx_nat (n d k : Nat) : sIx n d (some (k : Int)) = min k n := by
  show (if (k : Int) < 0 then ((k : Int) + (n : Int)).toNat else min (k : Int).toNat n) = min k n
  rw [if_neg (by omega), Int.toNat_natCast]
theorem sIx_le (n d : Nat) (hd : d ≤ n) (o : Option Int) : sIx n d o ≤ n := by
  cases o with
  | none => exact hd
  | some v =>
    show (if v < 0 then (v + (n : Int)).toNat else min v.toNat n) ≤ n
    by_cases hv : v < 0
    · rw [if_pos hv]; omega
    · rw [if_neg hv]; exact Nat.min_le_right _ _
theorem rp (v:Int) (n d:Nat):(if v<0 then max (v+(n:Int)) 0 else min v (n:Int))=((sIx n d (some v):Nat):Int):=by
  show (if v<0 then max (v+(n:Int)) 0 else min v (n:Int))=(((if v<0 then (v+(n:Int)).toNat else min v.toNat n):Nat):Int)
  by_cases hv:v<0
  · simp only [if_pos hv];omega
  · simp only [if_neg hv];omega
theorem pG (lo hi:Option Int) (n:Nat):Builtin.Slice.sliceAdjust lo hi 1 (n:Int)=(((sIx n 0 lo:Nat):Int),((sIx n n hi:Nat):Int)):=by
  have h1:¬ ((1:Int)<0):=by omega
  unfold Builtin.Slice.sliceAdjust
  simp only [h1,if_false]
  refine Prod.ext ?_ ?_
  · cases lo with
    | none=>rfl
    | some v=>exact rp v n 0
  · cases hi with
    | none=>rfl
    | some v=>exact rp v n n
theorem oW (i j:Nat):Builtin.Slice.slicePlaces (i:Int) (j:Int) 1=j - i:=by
  unfold Builtin.Slice.slicePlaces
  have h1:(1:Int) > 0:=by omega
  simp only [h1,if_true,Int.ediv_one]
  split<;>omega
theorem jN {v:Value}{o:Option Int}{Q:Option Int→Shared→Prop} (p:IsPart v o) (h:Q o s):wpAny (model prog w) A (Builtin.Slice.slicePartIndex v) Q E s:=by
  cases p with
  | none=>exact slicePart_none h
  | int i t=>exact slicePart_int h
theorem iE {sl:Addr}{vl vu:Value}{lo hi:Option Int}{n:Nat}{Q:Int×Int×Nat→Shared→Prop} (hs:s.heap.IsSliceOf sl vl vu .none) (pl:IsPart vl lo) (pu:IsPart vu hi)
    (h:Q (((sIx n 0 lo:Nat):Int),1,sIx n n hi - sIx n 0 lo) s):wpAny (model prog w) A (Builtin.Slice.sliceApplied (.ref sl) (pure (n:Int))) Q E s:=by
  obtain ⟨os,hos,hcs,hds⟩:=id hs
  unfold Builtin.Slice.sliceApplied Builtin.Slice.sliceFields
  refine wpAny_bind (wpAny_bind (wpAny_field hos hds (x:=vl) rfl (wpAny_bind (wpAny_field hos hds (x:=vu) rfl (wpAny_bind (wpAny_field hos hds (x:=.none) rfl (wpAny_pure ?_)))))))
  refine wpAny_bind (slicePart_none ?_)
  show wpAny _ _ (if ((1:Int) == 0)=true then _ else _) _ _ s
  rw [if_neg (by decide)]
  refine wpAny_bind (jN pl (wpAny_bind (jN pu (wpAny_bind (wpAny_pure ?_)))))
  show wpAny _ _ (match Builtin.Slice.sliceAdjust lo hi 1 (n:Int) with | (lo,hi)=>pure (lo,(1:Int),Builtin.Slice.slicePlaces lo hi 1)) _ _ s
  rw [pG lo hi n]
  show wpAny _ _ (pure (((sIx n 0 lo:Nat):Int),(1:Int),Builtin.Slice.slicePlaces ((sIx n 0 lo:Nat):Int) ((sIx n n hi:Nat):Int) 1)) _ _ s
  rw [oW]
  exact wpAny_pure h
theorem pick_gen (xs : Array Value) (i k : Nat) : ((List.range k).filterMap fun (m : Nat) => xs[((i : Int) + (m : Int) * 1).toNat]?).toArray = ((xs.toList.drop i).take k).toArray := by
  have e : (fun (m : Nat) => xs[((i : Int) + (m : Int) * 1).toNat]?) = fun m => xs[i + m]? := by
    funext m
    have : ((i : Int) + (m : Int) * 1).toNat = i + m := by omega
    rw [this]
  rw [e]
  have := pick_run xs i k
  rw [List.filterMap_map] at this
  have e2 : ((fun x => xs[x]?) ∘ fun x => i + x) = fun m => xs[i + m]? := rfl
  rw [e2] at this
  rw [this]
theorem getItem_tuple_cut {t sl : Addr} {items : Array Value} {vl vu : Value} {lo hi : Option Int} {Q : Value → Shared → Prop} (ht : IsTup s.heap t items) (hs : s.heap.IsSliceOf sl vl vu .none) (pl : IsPart vl lo) (pu : IsPart vu hi)
    (hw : ¬ (sIx items.size 0 lo = 0 ∧ sIx items.size items.size hi = items.size))
    (h : Q (.ref s.heap.objs.size) { s with heap := s.heap.push { cls := .type "tuple", data := .seq ((items.toList.drop (sIx items.size 0 lo)).take (sIx items.size items.size hi - sIx items.size 0 lo)).toArray } })
    (hsz : items.size ≤ sizeLine) : wpAny (model prog w) A (getItem (.ref t) (.ref sl)) Q E s := by
  have htake : sizeOk (.seq ((items.toList.drop (sIx items.size 0 lo)).take (sIx items.size items.size hi - sIx items.size 0 lo)).toArray) := by
    show ((items.toList.drop (sIx items.size 0 lo)).take (sIx items.size items.size hi - sIx items.size 0 lo)).toArray.size ≤ sizeLine
    rw [List.size_toArray, List.length_take, List.length_drop, Array.length_toList]
    omega
  have hj : sIx items.size items.size hi ≤ items.size := sIx_le _ _ (Nat.le_refl _) hi
  obtain ⟨os, hos, hcs, hds⟩ := id hs
  have hTs : s.TypeIs (.ref sl) "slice" := ⟨os, hos, hcs⟩
  unfold getItem
  try with_reducible refine wpAny_holding ?_
  first | refine wpAny_bind (wpAny_pure ?_) | skip
  refine wpAny_bind (wpAny_sequenceKey ht.typeIs (by decide) ?_)
  refine wpAny_bind (wpAny_callSpecial?_slot (name := Str.ofString "__getitem__") ht.typeIs PyProof.Rows.slot_tuple_getitem
    (wpAny_call_entry PyProof.Rows.slot_tuple_getitem ht.typeIs entry_tuple_getitem ?_ (args_tuple_getitem _ _)))
  show wpAny _ _ (Builtin.Tuple.tupleItemsOf (.ref t) >>= _) _ _ s
  refine wpAny_bind (tupleItemsOf_ ht ?_)
  refine wpAny_bind (wpAny_typeOf hTs ?_)
  rw [if_pos (by decide)]
  refine wpAny_bind (iE hs pl pu ?_)
  have hno : ¬ ((((sIx items.size 0 lo : Nat) : Int) == 0 && (1 : Int) == 1 && (sIx items.size items.size hi - sIx items.size 0 lo) == items.size) = true) := by
    intro q
    rw [Bool.and_eq_true, Bool.and_eq_true] at q
    have q1 : ((sIx items.size 0 lo : Nat) : Int) = 0 := eq_of_beq q.1.1
    have q2 : sIx items.size items.size hi - sIx items.size 0 lo = items.size := eq_of_beq q.2
    exact hw ⟨by omega, by omega⟩
  show wpAny _ _ (if (((sIx items.size 0 lo : Nat) : Int) == 0 && (1 : Int) == 1 && (sIx items.size items.size hi - sIx items.size 0 lo) == items.size) = true then _ else _) _ _ s
  rw [if_neg hno, pick_gen]
  first
    | exact wpAny_bind (m := Builtin.Tuple.tupleExact _) (wpAny_newObj_type (wpAny_pure ⟨_, rfl, wpAny_pure h⟩) htake)
    | exact wpAny_bind (m := Builtin.Tuple.tupleExact _) (wpAny_newObj_type (wpAny_bind (wpAny_pure (wpAny_pure ⟨_, rfl, wpAny_pure h⟩))) htake)
    | exact wpAny_bind (wpAny_bind (m := Builtin.Tuple.tupleExact _) (wpAny_newObj_type (wpAny_pure (wpAny_pure ⟨_, rfl, wpAny_pure h⟩)) htake))
    | exact wpAny_bind (wpAny_bind (m := Builtin.Tuple.tupleExact _) (wpAny_newObj_type (wpAny_pure ⟨_, rfl, wpAny_pure h⟩) htake))
end
end HT
namespace L2
open PySem PySem.Spec PyProof.Rows
abbrev TO := St → Hp → (Option Int → Hp → Prop) → Prop
def PO (X : Cx) (e : Option Expr) (t : TO) : Prop :=
  ∀ (pins : List (Addr × Obj)) (s : Shared) (σ : St) (H : Hp) (Q : Option Int → Hp → Prop), Inv X pins σ H s → t σ H Q →
    wpAny (model X.prog X.w) X.A (evalPart e X.env) (fun u s' => ∃ o H', Inv X pins σ H' s' ∧ IsPart u o ∧ Q o H') X.xe s
def tNoPart : TO := fun _ H Q => Q none H
def tPart (t : TE) : TO := fun σ H Q => t σ H fun x H1 => ∃ i, x = .int i ∧ Q (some i) H1
theorem dk {ns:List Int}:∀ {us:List Value},Vals (ns.map V.int) us→IntsAre us ns:=by
  induction ns with
  | nil=>intro us r;rw [List.map_nil] at r;cases r;exact .nil
  | cons n ns ih =>
    intro us r
    rw [List.map_cons] at r
    cases r with
    | cons r1 r2 =>
      obtain ⟨t,e⟩:=r1
      subst e
      exact .cons n t (ih r2)
section
variable {X : Cx} {e : Expr} {te : TE} {lo hi : Option Expr} {tl th : TO} {pos p2 : Pos}
theorem cW:PO X none tNoPart:=by
  intro pins s σ H Q I h
  rw [evalPart_none]
  exact wpAny_pure ⟨none,H,I,.none,h⟩
theorem cz (h:PE X e te):PO X (some e) (tPart te):=by
  intro pins s σ H Q I hw
  rw [evalPart_some]
  refine thn (h pins s σ H _ I hw) fun u s1 ⟨x,H1,I1,r1,q1⟩=>?_
  obtain ⟨i,rfl,q⟩:=q1
  obtain ⟨t,rfl⟩:=r1
  exact ⟨some i,H1,I1,.int i t,q⟩
def SlR (X : Cx) (r : V → Option Int → Option Int → Hp → VK → Prop) : Prop :=
  ∀ (pins : List (Addr × Obj)) (s : Shared) (σ : St) (H : Hp) (x : V) (v vl vu : Value) (lo hi : Option Int) (sl : Addr) (Q : VK), Inv X pins σ H s → RelV x v → s.heap.IsSliceOf sl vl vu .none → IsPart vl lo → IsPart vu hi → r x lo hi H Q →
    ∃ T id, typeLookup (.type T) "__getitem__" = pure (some (.builtin id)) ∧ s.TypeIs v T ∧ wpAny (model X.prog X.w) X.A (getItem v (.ref sl)) (EP X pins σ Q) X.xe s
def tSl (r : V → Option Int → Option Int → Hp → VK → Prop) (te : TE) (tl th : TO) : TE := fun σ H Q => te σ H fun x H1 => tl σ H1 fun l H2 => th σ H2 fun u H3 => r x l u H3 Q
theorem bR {r:V→Option Int→Option Int→Hp→VK→Prop} (hr:SlR X r) (he:PE X e te) (hl:PO X lo tl) (hu:PO X hi th):PE X (.Subscript e (.Slice lo hi none p2) pos) (tSl r te tl th):=by
  intro pins s σ H Q I h
  refine Subscript_ (thn (he pins s σ H _ I h) fun v s1 ⟨x,H1,I1,r1,q1⟩=>?_)
  refine wpAny_Slice (thn (hl pins s1 σ H1 _ I1 q1) fun vl s2 ⟨l,H2,I2,pl,q2⟩=>thn (hu pins s2 σ H2 _ I2 q2) fun vu s3 ⟨u,H3,I3,pu,q3⟩=>?_)
  rw [evalPart_none]
  refine wpAny_pure ?_
  have I4:Inv X pins σ H3 { s3 with heap:=s3.heap.push { cls:=.type "slice",data:=.fields #[vl,vu,.none] } }:=I3.kept (t':=s3.toks) fun b ob q=>Heap.get?_push_of_some _ q
  obtain ⟨T,id,hT,ht,hg⟩:=hr pins { s3 with heap:=s3.heap.push { cls:=.type "slice",data:=.fields #[vl,vu,.none] } } σ H3 x v vl vu l u s3.heap.objs.size Q I4 r1 (Heap.IsSliceOf.new ..) pl pu q3
  show wpAny (model X.prog X.w) X.A (subscriptTail e (.Slice lo hi none p2) v (.ref s3.heap.objs.size)) (EP X pins σ Q) X.xe { s3 with heap:=s3.heap.push { cls:=.type "slice",data:=.fields #[vl,vu,.none] } }
  exact tail_any (ops:=[.ref s3.heap.objs.size,v]) ht hT hg (by with_unfolding_all rfl)
def ju (xs:List V) (lo hi:Option Int):List V:=(xs.drop (HT.sIx xs.length 0 lo)).take (HT.sIx xs.length xs.length hi - HT.sIx xs.length 0 lo)
theorem jt (xs:List V) (lo hi:Option Int):(ju xs lo hi).length≤xs.length:=by
  unfold ju
  rw [List.length_take,List.length_drop]
  omega
def rSlT (K : PySem.W.Frag) : V → Option Int → Option Int → Hp → VK → Prop := fun x lo hi H Q => ∃ a xs, x = .ref a ∧ SqT K H a xs ∧
  ¬ (HT.sIx xs.length 0 lo = 0 ∧ HT.sIx xs.length xs.length hi = xs.length) ∧ ∀ p, H p = none → Q (.ref p) (upd H p (.tup (ju xs lo hi)))
theorem sl_tup : SlR X (rSlT X.K) := by
  intro pins s σ H x v vl vu lo hi sl Q I rx hs pl pu h
  obtain ⟨a, xs, rfl, hx, hw, q⟩ := h
  cases rx
  obtain ⟨its, r, ht, hz⟩ := I.tuple hx
  have hlen : its.toArray.size = xs.length := by rw [List.size_toArray]; exact r.length.symm
  refine ⟨"tuple", _, PyProof.Rows.slot_tuple_getitem.lookup, ht.typeIs, ?_⟩
  refine HT.getItem_tuple_cut ht hs pl pu (by rw [hlen]; exact hw) ?_ (by rw [hlen]; exact hz)
  rw [hlen]
  refine ⟨.ref s.heap.objs.size, _, I.laid (t' := s.toks) (o := .tup (ju xs lo hi)) (fun b ob q => Heap.get?_push_of_some _ q) (Nat.le_refl _) ?_, rfl, q _ (I.hok.fresh (Nat.le_refl _))⟩
  exact ⟨Nat.le_trans (jt xs lo hi) hz, _, (r.drop (HT.sIx xs.length 0 lo)).take (HT.sIx xs.length xs.length hi - HT.sIx xs.length 0 lo), IsTup.new _ _⟩
end
end L2
namespace L2
open PySem PySem.Spec PyProof.Rows
def ixN (n : Nat) (i : Int) : Option Nat := if 0 ≤ i then (if i < n then some i.toNat else none) else if -(n : Int) ≤ i then some (i + n).toNat else none
def atI {α : Type} (xs : List α) (i : Int) : Option α := (ixN xs.length i).bind fun j => xs[j]?
theorem nt {n:Nat}{i:Int}{j:Nat} (h:ixN n i=some j):seqIndex? i n=some j∧j<n∧-(n:Int)≤i∧i<n:=by
  unfold ixN at h
  by_cases h0:0≤i
  · rw [if_pos h0] at h
    by_cases h1:i<n
    · rw [if_pos h1] at h
      have e:i.toNat=j:=Option.some.inj h
      exact ⟨by rw [seqIndex_of h0 h1,e],by omega,by omega,h1⟩
    · rw [if_neg h1] at h;cases h
  · rw [if_neg h0] at h
    by_cases h1 : -(n:Int)≤i
    · rw [if_pos h1] at h
      have e:(i+n).toNat=j:=Option.some.inj h
      exact ⟨by rw [seqIndex_neg (by omega) h1,e],by omega,h1,by omega⟩
    · rw [if_neg h1] at h;cases h
theorem rK {α:Type}{xs:List α}{i:Int}{v:α} (h:atI xs i=some v):∃ j,seqIndex? i xs.length=some j∧xs[j]?=some v∧j<xs.length∧-(xs.length:Int)≤i∧i<xs.length:=by
  unfold atI at h
  cases e:ixN xs.length i with
  | none=>rw [e] at h;cases h
  | some j =>
    rw [e] at h
    obtain ⟨h1,h2,h3,h4⟩:=nt e
    exact ⟨j,h1,h,h2,h3,h4⟩
theorem jw {α:Type}{xs:List α}{j:Nat}{v:α} (h:xs[j]?=some v):atI xs (j:Int)=some v:=by
  have hj:j<xs.length:=(List.getElem?_eq_some_iff.mp h).1
  have e:ixN xs.length (j:Int)=some j:=by
    unfold ixN
    rw [if_pos (by omega),if_pos (by omega)];simp
  unfold atI;rw [e];exact h
def PlainIx (b : Expr) : Prop := ∀ o i, subscripted b false o i = operate [o, i] (getItem o i)
def IxR (X : Cx) (r : R2) : Prop :=
  ∀ (value slice : Expr) (pins : List (Addr × Obj)) (s : Shared) (σ : St) (H : Hp) (x y : V) (v u : Value) (Q : VK), Inv X pins σ H s → RelV x v → RelV y u → r x y H Q →
    subscripted slice false v u = operate [v, u] (getItem v u) → wpAny (model X.prog X.w) X.A (subscriptTail value slice v u) (EP X pins σ Q) X.xe s
def MtR (X : Cx) (id : String) (r : V → List V → Hp → VK → Prop) : Prop :=
  ∀ (pins : List (Addr × Obj)) (s : Shared) (σ : St) (H : Hp) (x : V) (xs : List V) (v : Value) (us : List Value) (Q : VK), Inv X pins σ H s → RelV x v → Vals xs us → r x xs H Q →
    wpAny (model X.prog X.w) X.A (call (.builtin id) (v :: us)) (EP X pins σ Q) X.xe s
section
variable {X : Cx} {a b : Expr} {ta tb : TE} {pos : Pos}
theorem aK {r:R2} (hr:IxR X r) (ha:PE X a ta) (hb:PE X b tb) (hs:PlainIx b):PE X (.Subscript a b pos) (tOp r ta tb):=by
  intro pins s σ H Q I h
  exact Subscript_ (binT ha hb I h fun v u s2 x y H2 I2 rx ry q=>hr a b pins s2 σ H2 x y v u Q I2 rx ry q (hs _ _))
def rIxL (K : PySem.W.Frag) : R2 := fun x y H Q => ∃ p xs i v, x = .ref p ∧ y = .int i ∧ SqL K H p xs ∧ atI xs i = some v ∧ Q v H
def rIxT (K : PySem.W.Frag) : R2 := fun x y H Q => ∃ p xs i v, x = .ref p ∧ y = .int i ∧ SqT K H p xs ∧ atI xs i = some v ∧ Q v H
theorem aQ:IxR X (rIxL X.K):=by
  intro value slice pins s σ H x y v u Q I rx ry h hs
  obtain ⟨p,xs,i,z,rfl,rfl,hq,he,q⟩:=h
  cases rx
  obtain ⟨t,rfl⟩:=ry
  obtain ⟨its,r,pl,hz⟩:=I.list hq
  obtain ⟨j,h1,h2,h3,h4,h5⟩:=rK he
  obtain ⟨w,ew,rw'⟩:=r.get h2
  have hl:=r.length
  have hn:=oj
  have fin:EP X pins σ Q w s:=⟨z,H,I,rw',q⟩
  by_cases h0:0≤i
  · have hj:i.toNat=j:=by
      rw [seqIndex_of h0 h5] at h1
      exact Option.some.inj h1
    exact item_listR pl.isList h0 (by omega) (by rw [hj];simpa using ew) fin hs
  · have hj:(i+(its.toArray.size:Int)).toNat=j:=by
      rw [seqIndex_neg (by omega) h4] at h1
      rw [List.size_toArray,← hl]
      exact Option.some.inj h1
    exact subscriptTail_builtinR (x:=w) pl.isList.typeIs slot_list_getitem.lookup
      (wpAny_getItem_list_neg (Q:=fun r s'=>r=w∧EP X pins σ Q r s') pl.isList (by omega) (by rw [List.size_toArray]<;>omega) (by omega) (by rw [hj];simpa using ew) ⟨rfl,fin⟩) hs
theorem aY:IxR X (rIxT X.K):=by
  intro value slice pins s σ H x y v u Q I rx ry h hs
  obtain ⟨p,xs,i,z,rfl,rfl,hq,he,q⟩:=h
  cases rx
  obtain ⟨t,rfl⟩:=ry
  obtain ⟨its,r,pl,hz⟩:=I.tuple hq
  obtain ⟨j,h1,h2,h3,h4,h5⟩:=rK he
  obtain ⟨w,ew,rw'⟩:=r.get h2
  have hl:=r.length
  have hn:=oj
  have fin:EP X pins σ Q w s:=⟨z,H,I,rw',q⟩
  exact subscriptTail_builtinR (x:=w) pl.typeIs slot_tuple_getitem.lookup
    (getItem_tuple (j:=j) (Q:=fun r s'=>r=w∧EP X pins σ Q r s') pl (by omega) (by omega) (by rw [List.size_toArray,← hl];exact h1) (by simpa using ew) ⟨rfl,fin⟩) hs
theorem ph (its:List Value) (n j:Nat) (u:Value):Obj.mapSeq (·.setIfInBounds j u) { cls:=.type "list",data:=.seq its.toArray n }={ cls:=.type "list",data:=.seq (its.set j u).toArray n }:=by
  simp [Obj.mapSeq]
theorem Inv.lst {pins : List (Addr × Obj)} {σ : St} {H : Hp} {s : Shared} {p : Addr} {xs : List V} (I : Inv X pins σ H s) (h : H p = some (.lst xs)) :
    ∃ (its : List Value) (n : Nat), Vals xs its ∧ s.heap.get? p = some { cls := .type "list", data := .seq its.toArray n } ∧ xs.length ≤ sizeLine := by
  obtain ⟨z, its, n, r, e⟩ := I.hok p _ h
  exact ⟨its, n, r, e, z⟩
theorem Inv.lstUpd {pins : List (Addr × Obj)} {σ : St} {H : Hp} {s : Shared} {p : Addr} {xs ys : List V} {its its' : List Value} {n n' : Nat} {f : Obj → Obj} (I : Inv X pins σ H s) (h : H p = some (.lst xs))
    (ho : s.heap.get? p = some { cls := .type "list", data := .seq its.toArray n }) (hf : f { cls := .type "list", data := .seq its.toArray n } = { cls := .type "list", data := .seq its'.toArray n' }) (r : Vals ys its') (hz : ys.length ≤ sizeLine) (t : Nat) :
    Inv X pins σ (upd H p (.lst ys)) { s with heap := s.heap.update p f, toks := t } := by
  have e : (s.heap.update p f).get? p = some { cls := .type "list", data := .seq its'.toArray n' } := by
    rw [Heap.get?_update_self f ho (by rw [hf] <;> rfl), hf]
  refine I.write (x := p) (e := p) (by rw [h]; trivial) (.inl rfl) (fun b u hb q => (Heap.get?_update_other _ _ (Ne.symm hb)).trans q) ⟨_, e⟩ ?_
  exact ⟨hz, its', n', r, e⟩
def rSetL : V → V → V → Hp → (Hp → Prop) → Prop := fun o i v H Q => ∃ p xs k j, o = .ref p ∧ i = .int k ∧ H p = some (.lst xs) ∧ ixN xs.length k = some j ∧ Q (upd H p (.lst (xs.set j v)))
theorem gu:PSet X rSetL:=by
  intro pins s σ H o i v ov iv u Q I ro ri rv h
  obtain ⟨p,xs,k,j,rfl,rfl,hp,hj,q⟩:=h
  cases ro
  obtain ⟨t,rfl⟩:=ri
  obtain ⟨its,n,r,ho,hz⟩:=I.lst hp
  obtain ⟨h1,h2,h3,h4⟩:=nt hj
  have hl:=r.length
  have hn:=oj
  have I':Inv X pins σ (upd H p (.lst (xs.set j v))) { s with heap:=s.heap.update p (Obj.mapSeq (·.setIfInBounds j u)) } :=
    I.lstUpd hp ho (ph its n j u) (r.set rv j) (by rw [List.length_set];exact hz) s.toks
  by_cases h0:0≤k
  · have hk:k.toNat=j:=by
      rw [seqIndex_of h0 h4] at h1
      exact Option.some.inj h1
    exact PySem.W.ki_setAt ho h0 (by omega) (by rw [List.size_toArray,← hl];exact h4) (by rw [hk];exact ⟨_,I',q⟩)
  · have hk:(k+(its.toArray.size:Int)).toNat=j:=by
      rw [seqIndex_neg (by omega) h3] at h1
      rw [List.size_toArray,← hl]
      exact Option.some.inj h1
    exact PySem.W.ki_setBack ho (by omega) (by rw [List.size_toArray,← hl];exact h3) (by omega) (by rw [hk];exact ⟨_,I',q⟩)
theorem lJ (lo hi:Option Int) (n:Nat):(sliceBounds lo hi none n).1=((HT.sIx n 0 lo:Nat):Int)∧(sliceBounds lo hi none n).2.1=((HT.sIx n n hi:Nat):Int)∧(sliceBounds lo hi none n).2.2=1:=by
  refine ⟨?_,?_,rfl⟩
  · cases lo with
    | none=>simp [sliceBounds,HT.sIx]
    | some i =>
      simp only [sliceBounds,HT.sIx,Option.getD_none,show (1:Int) > 0 by decide,if_true]
      by_cases h:i<0
      · simp only [h,if_true]<;>omega
      · simp only [h,if_false]<;>omega
  · cases hi with
    | none=>simp [sliceBounds,HT.sIx]
    | some i =>
      simp only [sliceBounds,HT.sIx,Option.getD_none,show (1:Int) > 0 by decide,if_true]
      by_cases h:i<0
      · simp only [h,if_true]<;>omega
      · simp only [h,if_false]<;>omega
theorem ko (its:List Value) (lo hi:Option Int):slicePick its.toArray lo hi none=((its.drop (HT.sIx its.length 0 lo)).take (HT.sIx its.length its.length hi - HT.sIx its.length 0 lo)).toArray:=by
  obtain ⟨h1,h2,h3⟩:=lJ lo hi its.toArray.size
  unfold slicePick
  rw [h1,h2,h3]
  simp only [sliceRange_one,pick_run,List.size_toArray]<;>rfl
def rSlL (K:PySem.W.Frag):V→Option Int→Option Int→Hp→VK→Prop:=fun x lo hi H Q=>∃ a xs,x=.ref a∧SqL K H a xs∧∀ p,H p=none→Q (.ref p) (upd H p (.lst (ju xs lo hi)))
theorem cU:SlR X (rSlL X.K):=by
  intro pins s σ H x v vl vu lo hi sl Q I rx hs pl pu h
  obtain ⟨a,xs,rfl,hx,q⟩:=h
  cases rx
  obtain ⟨its,r,ht,hz⟩:=I.list hx
  have hlen:=r.length
  refine ⟨"list",_,slot_list_getitem.lookup,ht.isList.typeIs,?_⟩
  refine wpAny_getItem_list_slice ht.isList hs pl pu .none (by simp) ?_ (by rw [List.size_toArray]<;>omega)
  rw [ko,← hlen]
  refine ⟨.ref s.heap.objs.size,_,I.laid (t':=s.toks) (o:=.lst (ju xs lo hi)) (fun b ob q=>Heap.get?_push_of_some _ q) (Nat.le_refl _) ?_,rfl,q _ (I.hok.fresh (Nat.le_refl _))⟩
  exact ⟨Nat.le_trans (jt xs lo hi) hz,_,0,(r.drop (HT.sIx xs.length 0 lo)).take (HT.sIx xs.length xs.length hi - HT.sIx xs.length 0 lo),Heap.get?_push_size _ rfl⟩
def kR:V→Bool
  | .non=>true
  | .bl _=>true
  | .int _=>true
  | .str _=>true
  | _=>false
def eqV : V → V → Bool
  | .non, .non => true
  | .bl a, .bl b => a == b
  | .bl a, .int b => (if a then 1 else 0) == b
  | .int a, .bl b => a == (if b then 1 else 0)
  | .int a, .int b => a == b
  | .str a, .str b => a == b
  | _, _ => false
theorem eqAt_V {A:Around}{s:Shared}{y x:V}{u v:Value} (ry:RelV y u) (rx:RelV x v) (fy:kR y=true) (fx:kR x=true):SeqAt.EqAt A s u v (eqV y x):=by
  cases y with
  | non =>
    cases ry
    cases x with
    | non=>cases rx;exact SeqAt.EqAt.same _
    | bl b=>cases rx;exact SeqAt.EqAt.none_bool b
    | int b=>obtain ⟨t,rfl⟩:=rx;exact SeqAt.EqAt.none_int b t
    | str b=>obtain ⟨t,rfl⟩:=rx;exact SeqAt.EqAt.none_str b t
    | _=>exact absurd (show false=true from fx) Bool.false_ne_true
  | bl a =>
    cases ry
    cases x with
    | non=>cases rx;exact SeqAt.EqAt.bool_none a
    | bl b=>cases rx;exact SeqAt.EqAt.bool_bool a b
    | int b=>obtain ⟨t,rfl⟩:=rx;exact SeqAt.EqAt.bool_int a b t
    | str b=>obtain ⟨t,rfl⟩:=rx;exact SeqAt.EqAt.bool_str a b t
    | _=>exact absurd (show false=true from fx) Bool.false_ne_true
  | int a =>
    obtain ⟨t',rfl⟩:=ry
    cases x with
    | non=>cases rx;exact SeqAt.EqAt.int_none a t'
    | bl b=>cases rx;exact SeqAt.EqAt.int_bool a t' b
    | int b=>obtain ⟨t,rfl⟩:=rx;exact SeqAt.EqAt.int_int a t' b t
    | str b=>obtain ⟨t,rfl⟩:=rx;exact SeqAt.EqAt.int_str a t' b t
    | _=>exact absurd (show false=true from fx) Bool.false_ne_true
  | str a =>
    obtain ⟨t',rfl⟩:=ry
    cases x with
    | non=>cases rx;exact SeqAt.EqAt.str_none a t'
    | bl b=>cases rx;exact SeqAt.EqAt.str_bool a t' b
    | int b=>obtain ⟨t,rfl⟩:=rx;exact SeqAt.EqAt.str_int a t' b t
    | str b=>obtain ⟨t,rfl⟩:=rx;exact SeqAt.EqAt.str_str a t' b t
    | _=>exact absurd (show false=true from fx) Bool.false_ne_true
  | _=>exact absurd (show false=true from fy) Bool.false_ne_true
def eqU (x : V) (u : Value) : Bool := match u with
  | .none => eqV .non x
  | .bool b => eqV (.bl b) x
  | .int i _ => eqV (.int i) x
  | .str z _ => eqV (.str z) x
  | _ => false
theorem eqU_of {x y:V}{u:Value} (r:RelV y u) (f:kR y=true):eqU x u=eqV y x:=by
  cases y with
  | non=>cases r;rfl
  | bl b=>cases r;rfl
  | int i=>obtain ⟨t,rfl⟩:=r;rfl
  | str z=>obtain ⟨t,rfl⟩:=r;rfl
  | _=>exact absurd (show false=true from f) Bool.false_ne_true
theorem jx {x:V}:∀ {xs:List V}{us:List Value},Vals xs us→xs.all kR=true→us.any (eqU x)=xs.any fun y=>eqV y x
  | _,_,.nil,_=>rfl
  | y::xs,u::us,.cons r t,f=>by
    rw [List.all_cons,Bool.and_eq_true] at f
    rw [List.any_cons,List.any_cons,eqU_of r f.1,jx t f.2]
theorem gH {A:Around}{s:Shared}{x:V}{v:Value} (rx:RelV x v) (fx:kR x=true):∀ {xs:List V}{us:List Value},Vals xs us→xs.all kR=true→∀ u∈us,SeqAt.EqAt A s u v (eqU x u)
  | _,_,.nil,_=>fun u hu=>by cases hu
  | y::xs,u::us,.cons r t,f=>fun u' hu=>by
    rw [List.all_cons,Bool.and_eq_true] at f
    rcases List.mem_cons.mp hu with rfl | hu
    · rw [eqU_of r f.1];exact eqAt_V r rx f.1 fx
    · exact gH rx fx t f.2 u' hu
def inV (x : V) (xs : List V) : Bool := xs.any fun y => eqV y x
def rIn (K:PySem.W.Frag) (neg:Bool):R2:=fun x y H Q=>∃ p xs,y=.ref p∧(SqL K H p xs∨SqT K H p xs)∧kR x=true∧xs.all kR=true∧Q (.bl (if neg then !inV x xs else inV x xs)) H
theorem fk:OpR X (compareOp .In) (rIn X.K false):=by
  intro pins s σ H x y v u Q I rx ry h
  obtain ⟨p,xs,rfl,hq,fx,fs,q⟩:=h
  cases ry
  rcases hq with hq | hq
  · obtain ⟨its,r,pl,hz⟩:=I.list hq
    refine SeqAt.in_listAt (eqU x) pl.isList (fun w hw=>gH rx fx r fs w (by simpa using hw)) ⟨.bl _,H,I,rfl,?_⟩
    rw [show its.toArray.any (eqU x)=its.any (eqU x) by simp,jx r fs]
    exact q
  · obtain ⟨its,r,pl,hz⟩:=I.tuple hq
    refine SeqAt.in_tupleAt (eqU x) pl (fun w hw=>gH rx fx r fs w (by simpa using hw)) ⟨.bl _,H,I,rfl,?_⟩
    rw [show its.toArray.any (eqU x)=its.any (eqU x) by simp,jx r fs]
    exact q
theorem fj:OpR X (compareOp .NotIn) (rIn X.K true):=by
  intro pins s σ H x y v u Q I rx ry h
  obtain ⟨p,xs,rfl,hq,fx,fs,q⟩:=h
  cases ry
  rcases hq with hq | hq
  · obtain ⟨its,r,pl,hz⟩:=I.list hq
    refine SeqAt.notIn_listAt (eqU x) pl.isList (fun w hw=>gH rx fx r fs w (by simpa using hw)) ⟨.bl _,H,I,rfl,?_⟩
    rw [show its.toArray.any (eqU x)=its.any (eqU x) by simp,jx r fs]
    exact q
  · obtain ⟨its,r,pl,hz⟩:=I.tuple hq
    refine SeqAt.notIn_tupleAt (eqU x) pl (fun w hw=>gH rx fx r fs w (by simpa using hw)) ⟨.bl _,H,I,rfl,?_⟩
    rw [show its.toArray.any (eqU x)=its.any (eqU x) by simp,jx r fs]
    exact q
theorem aG:CallR X (.builtin "len") (fun xs H Q=>∃ p ys,xs=[.ref p]∧(SqL X.K H p ys∨SqT X.K H p ys)∧Q (.int ys.length) H):=by
  intro pins s σ H xs us Q I r h
  obtain ⟨p,ys,rfl,hq,q⟩:=h
  obtain ⟨u,rfl,rx⟩:=vals1 r
  cases rx
  have hn:=oj
  rcases hq with hq | hq
  · obtain ⟨its,r',pl,hz⟩:=I.list hq
    have hlen:=r'.length
    exact Calls.call_len_list pl.isList (by simp only [List.size_toArray]<;>omega) ⟨.int ys.length,H,I.tok _,⟨s.toks+1,by rw [List.size_toArray,hlen]⟩,q⟩
  · obtain ⟨its,r',pl,hz⟩:=I.tuple hq
    have hlen:=r'.length
    exact len_tuple pl (by simp only [List.size_toArray]<;>omega) ⟨.int ys.length,H,I.tok _,⟨s.toks+1,by rw [List.size_toArray,hlen]⟩,q⟩
theorem my:CallR X (.type "list") (fun xs H Q=>∃ p ys,xs=[.ref p]∧(SqL X.K H p ys∨SqT X.K H p ys)∧∀ l,H l=none→Q (.ref l) (upd H l (.lst ys))):=by
  intro pins s σ H xs us Q I r h
  obtain ⟨p,ys,rfl,hq,q⟩:=h
  obtain ⟨u,rfl,rx⟩:=vals1 r
  cases rx
  have fin:∀ (its:List Value),Vals ys its→ys.length≤sizeLine→∀ (h':Heap) (c':Nat),(∀ b o',s.heap.get? b=some o'→h'.get? b=some o') →
      h'.get? s.heap.objs.size=some { cls:=.type "list",dict:=none,data:=.seq its.toArray c',slots:=#[] }→EP X pins σ Q (.ref s.heap.objs.size) { s with heap:=h' }:=fun its r' hz h' c' kp e =>
    ⟨.ref s.heap.objs.size,_,I.laid (t':=s.toks) kp (Nat.le_refl _) (show ObjOk X.prog X.w _ h' _ (.lst ys) from ⟨hz,its,c',r',e⟩),rfl,q _ (I.hok.fresh (Nat.le_refl _))⟩
  rcases hq with hq | hq
  · obtain ⟨its,r',pl,hz⟩:=I.list hq
    have hlen:=r'.length
    obtain ⟨o,ho,hc,n,hd⟩:=pl.isList
    exact call_list_seq p (.inl rfl) ho hc hd (fun h' c' kp e=>fin its r' hz h' c' kp e) (by simp only [List.size_toArray]<;>omega)
  · obtain ⟨its,r',pl,hz⟩:=I.tuple hq
    have hlen:=r'.length
    obtain ⟨o,ho,hc,n,hd⟩:=pl
    exact call_list_seq p (.inr rfl) ho hc hd (fun h' c' kp e=>fin its r' hz h' c' kp e) (by simp only [List.size_toArray]<;>omega)
def tyV (K : PySem.W.Frag) (T : String) (x : V) (H : Hp) : Prop := match x with
  | .str _ => T = "str"
  | .int _ => T = "int"
  | .ref p => (T = "list" ∧ ∃ xs, SqL K H p xs) ∨ (T = "tuple" ∧ ∃ o, K.lookup p = some o ∧ o.cls = .type "tuple" ∧ o.dict = none) ∨
      (T = "dict" ∧ ((∃ kvs, H p = some (.dK kvs)) ∨ ∃ kvs, H p = some (.dT kvs))) ∨ (T = "set" ∧ ∃ S n, H p = some (.set S n))
  | _ => False
theorem tyV_is {pins : List (Addr × Obj)} {σ : St} {H : Hp} {s : Shared} {T : String} {x : V} {v : Value} (I : Inv X pins σ H s) (r : RelV x v) (ty : tyV X.K T x H) :
    s.TypeIs v T ∧ ∀ a, v = .ref a → ∃ ob, s.heap.get? a = some ob ∧ ob.dict = none := by
  cases x with
  | str z =>
    obtain ⟨t, rfl⟩ := r
    cases (show T = "str" from ty)
    exact ⟨typeIs_str s z t, fun _ e => nomatch e⟩
  | int i =>
    obtain ⟨t, rfl⟩ := r
    cases (show T = "int" from ty)
    exact ⟨typeIs_int s i t, fun _ e => nomatch e⟩
  | ref p =>
    cases r
    rcases ty with ⟨rfl, xs, hq⟩ | ⟨rfl, o, hk, hc, hd⟩ | ⟨rfl, hk⟩ | ⟨rfl, S, n, hk⟩
    · obtain ⟨its, _, pl, _⟩ := I.list hq
      refine ⟨pl.isList.typeIs, fun a e => ?_⟩
      cases e
      obtain ⟨o, n, e, c, hd, _⟩ := pl
      exact ⟨o, e, hd⟩
    · refine ⟨⟨o, I.kIn p o hk, hc⟩, fun a e => ?_⟩
      cases e
      exact ⟨o, I.kIn _ o hk, hd⟩
    · have z : ∃ o, s.heap.get? p = some o ∧ o.ExactDict := by
        rcases hk with ⟨kvs, hk⟩ | ⟨kvs, hk⟩
        · obtain ⟨_, _, _, _, o, _, _, e, ex, _⟩ := I.hok p _ hk
          exact ⟨o, e, ex⟩
        · obtain ⟨_, _, _, _, o, _, _, e, ex, _⟩ := I.hok p _ hk
          exact ⟨o, e, ex⟩
      obtain ⟨o, e, ex⟩ := z
      refine ⟨⟨o, e, ex.1⟩, fun a e2 => ?_⟩
      cases e2
      exact ⟨o, e, ex.2.1⟩
    · obtain ⟨o, _, _, _, e, ex, _⟩ := I.hok p _ hk
      refine ⟨⟨o, e, ex.1⟩, fun a e2 => ?_⟩
      cases e2
      exact ⟨o, e, ex.2.1⟩
  | _ => exact False.elim ty
def tBM (K : PySem.W.Frag) (T : String) (r : V → List V → Hp → VK → Prop) (to : TE) (t : TA) : TE := fun σ H Q => to σ H fun x H1 => tyV K T x H1 ∧ t σ H1 fun xs H2 => r x xs H2 Q
variable {o e : Expr} {es : List Expr} {to : TE} {t : TA} {name : Str} {apos cpos : Pos} {T id : String} {r : V → List V → Hp → VK → Prop}
theorem dO (pa:PlainAttrs T) (slot:Slot T name id) (hty:typeOf (.builtin id)=pure (.type "method_descriptor")) (hm:MtR X id r) (ho:PE X o to) (ha:PA X (e::es) t)
    (hbase:attributeBase o name X.env (eval o X.env)=eval o X.env:=by rfl)
    (hfew:((backTo cpos (starEach (e::es) X.env)).all (fun x=>!x.1) && (backToKw cpos (keywordEach [] X.env)).all (fun x=>x.1.isSome)
      && decide ((e::es).length+([]:List Keyword).length+(if ([]:List Keyword).isEmpty then 0 else 1)<30))=true:=by rfl)
    (hline:(apos.endLine == cpos.line)=true:=by rfl) (hs:starEach (e::es) X.env=(false,eval e X.env)::starEach es X.env:=by rfl) (hplain:(backTo cpos (starEach es X.env)).any (·.1)=false:=by rfl) :
    PE X (.Call (.Attribute o name apos) (e::es) [] cpos) (tBM X.K T r to t):=by
  intro pins s σ H Q I h
  refine wpAny_Call_method_late hbase hfew hline rfl (thn (ho pins s σ H _ I h) fun v s1 ⟨x,H1,I1,r1,ty,q1⟩=>?_)
  obtain ⟨h1,h2⟩:=tyV_is I1 r1 ty
  refine ⟨T,id,pa,slot,hty,h1,h2,?_⟩
  have hA:=ha cpos pins s1 σ H1 _ I1 q1
  rw [hs] at hA ⊢
  refine Calls.callWith_builtin (by show (false || (backTo cpos (starEach es X.env)).any (·.1))=false;rw [hplain]<;>rfl) (Calls.evalArgs_plain ?_)
  exact thn hA fun us s2 ⟨vs,H2,I2,r2,q2⟩=>hm pins s2 σ H2 x vs v us Q I2 r1 r2 q2
end
end L2
namespace L2
open PySem PySem.Spec PyProof.Rows
def MtM (X : Cx) (id : String) (r : V → List V → Hp → VK → Prop) : Prop :=
  ∀ (pins : List (Addr × Obj)) (s : Shared) (σ : St) (H : Hp) (x : V) (xs : List V) (v : Value) (us : List Value) (Q : VK), Inv X pins σ H s → RelV x v → Vals xs us → r x xs H Q →
    wpAny (model X.prog X.w) X.A (call (.builtin id) (v :: us)) (EP X pins σ Q) X.xe s
theorem Vals.one : ∀ {x : V} {us : List Value}, Vals [x] us → ∃ u, us = [u] ∧ RelV x u
  | _, _, .cons r .nil => ⟨_, rfl, r⟩
theorem Vals.two : ∀ {x y : V} {us : List Value}, Vals [x, y] us → ∃ u v, us = [u, v] ∧ RelV x u ∧ RelV y v
  | _, _, _, .cons r (.cons q .nil) => ⟨_, _, rfl, r, q⟩
theorem Vals.eraseIdx : ∀ {xs : List V} {us : List Value} (i : Nat), Vals xs us → Vals (xs.eraseIdx i) (us.eraseIdx i)
  | _, _, _, .nil => .nil
  | _, _, 0, .cons _ t => t
  | _, _, i + 1, .cons r t => .cons r (Vals.eraseIdx i t)
theorem Vals.rep {xs : List V} {us : List Value} (h : Vals xs us) : ∀ k : Nat, Vals (List.replicate k xs).flatten (List.replicate k us).flatten
  | 0 => .nil
  | k + 1 => by
    rw [List.replicate_succ, List.replicate_succ, List.flatten_cons, List.flatten_cons]
    exact Vals.append h (Vals.rep h k)
theorem mj {α:Type}:∀ (l:List α) (i:Nat),(l.eraseIdx i).length≤l.length
  | [],_=>Nat.le_refl _
  | _::_,0=>Nat.le_succ _
  | _::r,i+1=>Nat.succ_le_succ (mj r i)
theorem mq (its:List Value):∀ (k:Nat) (acc:List Value),
    List.foldl (fun x1 x2=>x1++x2) acc.toArray (List.replicate k its.toArray)=(acc++(List.replicate k its).flatten).toArray
  | 0,acc=>by simp
  | k+1,acc=>by
    have e:acc.toArray++its.toArray=(acc++its).toArray:=by simp
    have e2:(acc++its)++(List.replicate k its).flatten=acc++(List.replicate (k+1) its).flatten:=by
      rw [List.replicate_succ,List.flatten_cons,List.append_assoc]
    rw [← e2,← mq its k (acc++its),← e,List.replicate_succ,List.foldl_cons]
section
variable {X : Cx} {pins : List (Addr × Obj)} {σ : St} {H : Hp} {s : Shared} {l b : Addr} {xs ys zs : List V}
theorem Inv.lset {its its' : List Value} {n : Nat} {f : Array Value → Array Value} {t' : Nat} (I : Inv X pins σ H s) (hH : H l = some (.lst xs))
    (e : s.heap.get? l = some { cls := .type "list", data := .seq its.toArray n }) (hf : f its.toArray = its'.toArray) (hv : Vals ys its') (hz : ys.length ≤ sizeLine) :
    Inv X pins σ (upd H l (.lst ys)) { s with heap := s.heap.update l (Obj.mapSeq f), toks := t' } := by
  have q := PySem.IsL.update e f
  rw [hf] at q
  refine I.write (x := l) (e := l) (by rw [hH]; exact trivial) (.inl rfl) (fun b' u hb hu => (Heap.get?_update_other s.heap (Obj.mapSeq f) (Ne.symm hb)).trans hu) ⟨_, q⟩ ?_
  exact ⟨hz, its', _, hv, q⟩
theorem Inv.lnew {its : List Value} {t' : Nat} (I : Inv X pins σ H s) (hv : Vals ys its) (hz : ys.length ≤ sizeLine) :
    Inv X pins σ (upd H s.heap.objs.size (.lst ys)) { s with heap := s.heap.push { cls := .type "list", data := .seq its.toArray }, toks := t' } :=
  I.laid (fun _ _ q => Heap.get?_push_of_some _ q) (Nat.le_refl _) ⟨hz, its, 0, hv, Heap.get?_push_size _ rfl⟩
theorem Inv.fresh (I : Inv X pins σ H s) : H s.heap.objs.size = none := I.hok.fresh (Nat.le_refl _)
theorem Inv.lstM (I : Inv X pins σ H s) (hH : H l = some (.lst xs)) : xs.length ≤ sizeLine ∧ ∃ (its : List Value) (n : Nat), Vals xs its ∧ xs.length = its.length ∧ s.heap.get? l = some { cls := .type "list", data := .seq its.toArray n } := by
  obtain ⟨z, its, n, r, e⟩ := I.hok l _ hH
  exact ⟨z, its, n, r, r.length, e⟩
theorem og {n:Nat} (h:n≤sizeLine):Builtin.List.listTooLong n=false:=by
  unfold Builtin.List.listTooLong
  exact decide_eq_false (by omega)
end
section
variable {X:Cx}
def rAppend : V → List V → Hp → VK → Prop := fun x vs H Q => ∃ l xs y, x = .ref l ∧ vs = [y] ∧ H l = some (.lst xs) ∧ xs.length < sizeLine ∧ Q .non (upd H l (.lst (xs ++ [y])))
theorem br:MtM X "list.append" rAppend:=by
  intro pins s σ H x vs v us Q I rx rv h
  obtain ⟨l,xs,y,rfl,rfl,hH,hz,q⟩:=h
  cases rx
  obtain ⟨u,rfl,ru⟩:=rv.one
  obtain ⟨z,its,n,r,hl,e⟩:=I.lstM hH
  refine call_meets F.slot_list_append ⟨_,e,rfl⟩ F.entry_list_append (F.args_list_append_2 _ _) (PySem.list_append l its.toArray n u (by rw [List.size_toArray];omega)) ⟨e,?_⟩
  refine ⟨.non,_,I.lset (its':=its++[u]) hH e (by simp) (r.append (.cons ru .nil)) ?_,rfl,q⟩
  rw [List.length_append,List.length_singleton]
  omega
def rExtend : V → List V → Hp → VK → Prop := fun x vs H Q => ∃ l b xs zs, x = .ref l ∧ vs = [.ref b] ∧ H l = some (.lst xs) ∧ H b = some (.lst zs) ∧ xs.length + zs.length ≤ sizeLine ∧ Q .non (upd H l (.lst (xs ++ zs)))
theorem jk:MtM X "list.extend" rExtend:=by
  intro pins s σ H x vs v us Q I rx rv h
  obtain ⟨l,b,xs,zs,rfl,rfl,hH,hB,hz,q⟩:=h
  cases rx
  obtain ⟨u,rfl,ru⟩:=rv.one
  cases ru
  obtain ⟨z,its,n,r,hl,e⟩:=I.lstM hH
  obtain ⟨z2,its2,n2,r2,hl2,e2⟩:=I.lstM hB
  have hsz:its.toArray.size+its2.toArray.size≤sizeLine:=by rw [List.size_toArray,List.size_toArray];omega
  have hlong:¬ (!its.toArray.isEmpty && Builtin.List.listTooLong (its.toArray.size+its2.toArray.size))=true:=by
    rw [og hsz,Bool.and_false]
    exact Bool.false_ne_true
  refine call_meets F.slot_list_extend ⟨_,e,rfl⟩ F.entry_list_extend (F.args_list_extend_2 _ _)
    (AutoSeq1.list_extend_list_list_0 l its.toArray n b its2.toArray n2 hlong (by rw [List.size_toArray];omega) (by omega)) ⟨e,e2,?_⟩
  refine ⟨.non,_,I.lset (its':=its++its2) hH e (by simp) (r.append r2) ?_,rfl,q⟩
  rw [List.length_append]
  omega
def rPopAt : V → List V → Hp → VK → Prop := fun x vs H Q => ∃ l xs i k y, x = .ref l ∧ vs = [.int i] ∧ H l = some (.lst xs) ∧ -(2 ^ 63) ≤ i ∧ i < 2 ^ 63 ∧ seqIndex? i xs.length = some k ∧ xs[k]? = some y ∧ Q y (upd H l (.lst (xs.eraseIdx k)))
theorem mt_popAt : MtM X "list.pop" rPopAt := by
  intro pins s σ H x vs v us Q I rx rv h
  obtain ⟨l, xs, i, k, y, rfl, rfl, hH, h1, h2, hk, hy, q⟩ := h
  cases rx
  obtain ⟨u, rfl, ru⟩ := rv.one
  obtain ⟨t, rfl⟩ := ru
  obtain ⟨z, its, n, r, hl, e⟩ := I.lstM hH
  obtain ⟨w, hw, rw'⟩ := r.get hy
  refine call_meets F.slot_list_pop ⟨_, e, rfl⟩ F.entry_list_pop (F.args_list_pop_2 _ _)
    (MeetsSeq.list_pop_at l its.toArray n i t k w (fitsIndex_both h1 h2) (by rw [List.size_toArray, ← hl]; exact hk) (by rw [← Array.getElem?_toList]; exact hw) (by rw [List.size_toArray]; omega)) ⟨e, ?_⟩
  refine ⟨y, _, I.lset (its' := its.eraseIdx k) hH e ?_ (r.eraseIdx k) ?_, rw', q⟩
  · show its.toArray.eraseIdxIfInBounds k = (its.eraseIdx k).toArray
    rw [List.eraseIdxIfInBounds_toArray]
  · have := mj xs k
    omega
def rCat : R2 := fun x y H Q => ∃ l b xs zs, x = .ref l ∧ y = .ref b ∧ H l = some (.lst xs) ∧ H b = some (.lst zs) ∧ xs.length + zs.length ≤ sizeLine ∧ ∀ p, H p = none → Q (.ref p) (upd H p (.lst (xs ++ zs)))
theorem eS:OpR X (binaryOp .Add) rCat:=by
  intro pins s σ H x y v u Q I rx ry h
  obtain ⟨l,b,xs,zs,rfl,rfl,hH,hB,hz,q⟩:=h
  cases rx
  cases ry
  obtain ⟨z,its,n,r,hl,e⟩:=I.lstM hH
  obtain ⟨z2,its2,n2,r2,hl2,e2⟩:=I.lstM hB
  refine PySem.P.add_list e e2 ?_ (by rw [List.size_toArray,List.size_toArray];omega)
  have ea:its.toArray++its2.toArray=(its++its2).toArray:=by simp
  rw [ea]
  exact ⟨.ref _,_,I.lnew (t':=s.toks) (r.append r2) (by rw [List.length_append];omega),rfl,q _ I.fresh⟩
def rRep : R2 := fun x y H Q => ∃ l k xs, x = .ref l ∧ y = .int k ∧ H l = some (.lst xs) ∧ -(2 ^ 63) ≤ k ∧ k < 2 ^ 63 ∧ xs.length * k.toNat ≤ sizeLine ∧
  ∀ p, H p = none → Q (.ref p) (upd H p (.lst (List.replicate k.toNat xs).flatten))
theorem qO {α:Type} (xs:List α) (k:Nat):(List.replicate k xs).flatten.length=k*xs.length:=by
  induction k with
  | zero=>simp
  | succ k ih=>rw [List.replicate_succ,List.flatten_cons,List.length_append,ih,Nat.succ_mul,Nat.add_comm]
theorem lW:OpR X (binaryOp .Mult) rRep:=by
  intro pins s σ H x y v u Q I rx ry h
  obtain ⟨l,k,xs,rfl,rfl,hH,h1,h2,hz,q⟩:=h
  cases rx
  obtain ⟨t,rfl⟩:=ry
  obtain ⟨z,its,n,r,hl,e⟩:=I.lstM hH
  have hlen:its.toArray.size*k.toNat≤sizeLine:=by rw [List.size_toArray,← hl];exact hz
  have hcap:¬ its.toArray.size*k.toNat > (2 ^ 63 - 1) / 8:=by
    have:(sizeLine:Nat)≤(2 ^ 63 - 1) / 8:=by decide
    omega
  have hfit:¬ (!Builtin.List.listFitsIndex k)=true:=by
    rw [fitsIndex_both h1 h2]
    exact Bool.false_ne_true
  have hlong:¬ Builtin.List.listTooLong (its.toArray.size*k.toNat)=true:=by
    rw [og hlen]
    exact Bool.false_ne_true
  have hnew:List.foldl (fun x1 x2=>x1++x2) #[] (List.replicate (if its.toArray.isEmpty=true then 0 else k.toNat) its.toArray)=(List.replicate k.toNat its).flatten.toArray:=by
    have f0:∀ m:Nat,List.foldl (fun x1 x2=>x1++x2) #[] (List.replicate m its.toArray)=(List.replicate m its).flatten.toArray:=fun m=>by
      have:=mq its m []
      rw [List.nil_append] at this
      exact this
    rw [f0]
    cases its with
    | nil=>simp
    | cons a r'=>rw [if_neg (by simp)]
  refine wpAny_binaryOp_repeat_ref (T:="list") (U:="int") (by decide) ⟨_,e,rfl⟩ (fun s'=>typeIs_int s' k t) noFill_list_mul F.fills_int_mul F.slot_int_rmul repeat_list F.slot_int_index.lookup
    (call_meets F.slot_int_rmul (typeIs_int s k t) F.entry_int_rmul (F.args_int_rmul_2 _ _) (int___rmul___int_list k t l its.toArray n)
      ⟨e,rfl,⟨_,e,rfl⟩,call_meets F.slot_list_mul ⟨_,e,rfl⟩ F.entry_list_mul (F.args_list_mul_2 _ _) (AutoListH.list___mul___list_int_3 l its.toArray n k t hfit hcap hlong) ⟨e,?_⟩⟩)
  rw [hnew]
  exact ⟨.ref _,_,I.lnew (t':=s.toks) (r.rep k.toNat) (by rw [qO,Nat.mul_comm];exact hz),rfl,q _ I.fresh⟩
end
section
variable {prog : Program} {w : World} {A : Around} {E : Value → Shared → Prop} {s : Shared}
set_option maxRecDepth 100000 in
end
section
variable {X:Cx}
end
end L2
namespace Att
open PySem PySem.W PySem.Calls PyProof.Rows
theorem jq {P:Params}{h:Heap}:∀ (ns:List Int) (vs:List Value),WellAll P h vs (ns.map WData.int)→IntsAre vs ns:=by
  intro ns
  induction ns with
  | nil =>
    intro vs w
    rw [List.map_nil] at w
    cases w
    exact .nil
  | cons n ns ih =>
    intro vs w
    rw [List.map_cons] at w
    cases w with
    | cons a b =>
      cases a
      exact .cons _ _ (ih _ b)
theorem qg {l:OpenLaw}{n:Nat} (hn:l.most=some n) {P:Params}{h:Heap}{args:List WData}{vals:List Value}
    (hpre:l.row.toRowW.claim.pre args=true) (hwl:WellAll P h vals args) :
    ∃ a vs ns,vals=[Value.ref a]∧args=[WData.list (ns.map WData.int)]∧h.get? a=some { cls:=.type "list",data:=.seq vs.toArray }∧IntsAre vs ns∧ns.length≤n:=by
  have hsh:WShape.hasAll [] args [.list .int]=true:=(pre_splitW hpre).1
  have hc:l.pre.holds [] { args:=args }=true:=(pre_splitW hpre).2
  obtain ⟨d,r,rfl,h1,h2⟩:=hasAllW_cons hsh
  obtain rfl:=hasAllW_nil h2
  obtain ⟨xs,rfl,h3⟩:=hasW_list h1
  obtain ⟨ns,rfl⟩:=items_int h3
  have hlen:ns.length≤n:=by
    unfold OpenLaw.pre at hc
    have h4:(WTm.not (.lt (.lit (.int (n:Int))) (.len (.arg 0)))).holds [] { args:=[.list (ns.map .int)] }=true:=by
      have h4:=(holds_andW hc).1
      rw [hn] at h4
      exact h4
    have h5:=condW_of h4 (w_not (w_lt w_lit (w_len_list (w_arg rfl))))
    rw [List.length_map] at h5
    refine Nat.le_of_not_lt fun q=>?_
    have q':(n:Int)<((ns.length:Nat):Int):=by omega
    first
      | (rw [decide_eq_true q'] at h5;exact absurd h5 (by decide))
      | (simp at h5;omega)
  cases hwl with
  | cons w1 w2 =>
    cases w2
    cases w1 with
    | list ho hall=>exact ⟨_,_,ns,rfl,rfl,ho,jq ns _ hall,hlen⟩
theorem qk (l:OpenLaw) (args:List WData):l.row.toRowW.claim.post args (.bool true) args=true :=
  postW_of (r:=l.row.toRowW) (X:=(true == true))
    (show WShape.has [] (.bool true) .bool=true by first | rfl | decide | simp [WShape.has,WShape.arms,WShape.armsAll])
    (show (WTm.eq .res (.lit (.bool true))).value [] { args:=args,res:=some (.bool true),after:=args }=some (.bool (true == true)) from w_eq_bool (w_res rfl) w_lit) rfl
theorem attach_call {l : OpenLaw} {n : Nat} {q : Program} {loose : List Str} {XP : (Str → Option Value) → Heap → Prop} {YP : World → Heap → Prop} {d : DefRec}
    (hn : l.most = some n) (hdf : d.params.defaults = [])
    (call : ∀ (w : World) (s₀ s₁ : Shared) (mg mb : Str → Option Value) (fa : Addr) (o : Obj) (pm cd doc : Value) (a : Addr) (vs : List Value) (ns : List Int),
      Ground q loose [] XP w s₀ mg mb s₁.heap → YP w s₁.heap →
      s₁.heap.get? fa = some o → o.data = .func (docDef d.name d.params d.body d.scope pm cd doc) → s₁.heap.CodeRec cd d.name → mg d.name = some (.ref fa) →
      s₁.heap.get? a = some { cls := .type "list", data := .seq vs.toArray } → IntsAre vs ns → ns.length ≤ n → s₁.gens = #[] →
      codeAny (model l.prog w) callerA (.call (.ref fa) ⟨[.ref a], []⟩) (fun r s' => r = .ok (.ret (.bool true)) ∧ OldK s₁.heap s'.heap ∧ s'.os = s₁.os ∧ AllBare s'.gens) s₁) :
    WalkO q loose XP YP l.row.toRowW d [] (fun f vs => PySem.call f vs) := by
  intro w s₀ s₁ mg mb G Y fa o pm cd doc dV kV ho hd hcd hD hmg hg args vals as hpre hlay hrd hwl hlo
  obtain rfl : dV = .none := Dflts.none hD hdf
  obtain rfl : kV = .none := Dflts.noKw hD
  obtain ⟨a, vs, ns, rfl, rfl, hobj, hints, hlen⟩ := qg hn hpre hwl
  refine enter_call (codeAny_mono (call w s₀ s₁ mg mb fa o pm cd doc a vs ns G Y ho (fd_plain hd) hcd hmg hobj hints hlen hg) fun r s' hq => ?_)
  obtain ⟨rfl, h2, h3, h4⟩ := hq
  exact ⟨.inl ⟨.bool true, .bool true, [], rfl, fun _ => rfl, .bool true, qk l _, fun _ => ⟨List.Pairwise.nil, fun _ hm => (nomatch hm)⟩⟩, h2, h3, h4⟩
section
variable {prog : Program} {w : World} {A : Around} {E : Value → Shared → Prop} {s : Shared} {K : Frag}
def ledger (h : Heap) (L d : Addr) : List (Addr × Obj) := (List.range h.objs.size).filterMap fun a => if a = L ∨ a = d then none else (h.get? a).map fun o => (a, o)
end
end Att
namespace L2
open PySem PySem.Spec PyProof.Rows
theorem lg:∀ {vs:List Value}{ns:List Int},IntsAre vs ns→Vals (ns.map V.int) vs
  | _,_,.nil=>.nil
  | _,_,.cons n t h=>.cons ⟨t,rfl⟩ (lg h)
def Only (H : Hp) : Prop := ∀ b, H b = none ∨ ∃ o xs, H b = some (.frz o (.lst xs))
theorem law_call {P : Program} {w : World} {K : PySem.W.Frag} {mg mb : Str → Option Value} {CX : CXT} {k : Nat} {fa a : Addr} {fd : FuncData} {x : Str} {sp : Sp} {s₁ : Shared} {vs : List Value} {ns : List Int}
    (KX : K.In s₁.heap) (hns : s₁.heap.Ns mainGlobals mg) (hb : s₁.heap.Ns builtinsNs mb) (hbb : ∀ x : Str, x ≠ "__name__" → mb x = bootBuiltins x) (hlim : s₁.heap.NoLimit) (hg : s₁.gens = #[])
    (ha : s₁.heap.get? a = some { cls := .type "list", data := .seq vs.toArray }) (hi : IntsAre vs ns) (hl : ns.length ≤ sizeLine) (hr : Room k callerA)
    (F : ∀ base : Heap, K.In base → base.Ns mainGlobals mg → iU P w K mg base CX k fa fd [x] sp) (hbind : ∀ (s : Shared) (u : Value), BindsTo s fd ⟨[u], []⟩ [(x, u)])
    (hsp : ∀ H : Hp, Only H → SqL K H a (ns.map V.int) → sp [.ref a] H (fun v _ => v = .bl true) fun _ _ _ => False)
    (hCX : ∀ H e s', CX [] H s₁ (fun _ _ _ => False) e s' → False) :
    codeAny (model P w) callerA (.call (.ref fa) ⟨[.ref a], []⟩) (fun r s' => r = .ok (.ret (.bool true)) ∧ OldK s₁.heap s'.heap ∧ s'.os = s₁.os ∧ AllBare s'.gens) s₁ := by
  have rv := lg hi
  have lenV := hi.length
  have core : ∀ H : Hp, Only H → SqL K H a (ns.map V.int) → HOk P w H s₁.heap → (∀ b, H b ≠ none → b = a) → (H a ≠ none → K.lookup a = none) →
      codeAny (model P w) callerA (.call (.ref fa) ⟨[.ref a], []⟩) (fun r s' => r = .ok (.ret (.bool true)) ∧ OldK s₁.heap s'.heap ∧ s'.os = s₁.os ∧ AllBare s'.gens) s₁ := by
    intro H hO hS hok hA hK
    have base_of : ∀ {b : Addr} {o : Obj}, s₁.heap.get? b = some o → H b = none → (hidT s₁.heap H).get? b = some o := fun e n => hidT_get e n
    have noA : ∀ {b : Addr} {o : Obj} {es : Array DictEntry} {ep : Nat}, s₁.heap.get? b = some o → o.data = .dict es ep → H b = none := fun {b o es ep} e d => by
      cases q : H b with
      | none => rfl
      | some u =>
        have e' : b = a := hA b (by rw [q]; simp)
        subst e'
        rw [ha] at e; cases e
        have d' : Data.seq vs.toArray _ = Data.dict es ep := d
        cases d'
    have nsK : ∀ {b : Addr} {m : Str → Option Value}, s₁.heap.Ns b m → (hidT s₁.heap H).Ns b m := fun {b m} ⟨o, es, ep, e, d, r⟩ => ⟨o, es, ep, base_of e (noA e d), d, r⟩
    have hKb : K.In (hidT s₁.heap H) := fun b o e => base_of (KX b o e) (by
      cases q : H b with
      | none => rfl
      | some u =>
        have e' : b = a := hA b (by rw [q]; simp)
        subst e'
        rw [hK (by rw [q]; simp)] at e; cases e)
    have hM : Mod K mg (hidT s₁.heap H) := ⟨hKb, nsK hns, ⟨mb, nsK hb, hbb⟩, let ⟨mc, h1, h2⟩ := hlim; ⟨mc, nsK h1, h2⟩⟩
    have e0 : Env0 P w K mg (hidT s₁.heap H) callerA [] s₁ H := ⟨rfl, hM, fun b o e => of_hidT e, Nat.le_of_eq (qU _ _), trivial, fun b hb => absurd (show b ∈ ([] : List Addr) from hb) (by simp), hok, .of_eq hg⟩
    refine codeAny_mono ((F _ hKb (nsK hns)).run callerA [] s₁ H ⟨[.ref a], []⟩ [.ref a] [.ref a] _ _ hr e0 (hbind s₁ (.ref a)) (.cons rfl .nil) (hsp H hO hS)) fun r s' h => ?_
    cases r with
    | error e => exact (hCX H e s' h).elim
    | ok fl =>
      cases fl with
      | next => exact False.elim h
      | brk => exact False.elim h
      | cont => exact False.elim h
      | ret u =>
        obtain ⟨v, H', os, bare, un, hok', r', q⟩ := h
        have q' : v = .bl true := q
        subst q'
        obtain rfl : u = Value.bool true := r'
        refine ⟨rfl, OldK.of_keep fun b o e => ?_, os, bare⟩
        cases q : H b with
        | none => exact un.keep b o e q (by intro z; exact absurd (show b ∈ ([] : List Addr) from z) (by simp)) (by simp)
        | some u =>
          rcases hO b with z | ⟨ob, xs, z⟩
          · rw [q] at z; cases z
          · have z2 := un.frzs b ob _ z
            obtain ⟨e1, _⟩ := hok b _ z
            obtain ⟨e2, _⟩ := hok' b _ z2
            rw [e] at e1; cases e1
            exact e2
  cases hk : K.lookup a with
  | some o =>
    have e := KX a o hk
    rw [ha] at e
    cases e
    refine core (fun _ => none) (fun _ => .inl rfl) (.inr ⟨_, vs.toArray, _, hk, rfl, rfl, rfl, by rw [List.size_toArray, lenV]; exact hl, by simpa using rv⟩) (fun b u z => by have z' : (none : Option HO) = some u := z; cases z') (fun b z => absurd rfl z) fun z => absurd rfl z
  | none =>
    refine core (fun b => if b = a then some (.frz { cls := .type "list", data := .seq vs.toArray } (.lst (ns.map V.int))) else none) (fun b => ?_) (.inl (.inr ⟨{ cls := .type "list", data := .seq vs.toArray }, if_pos rfl⟩)) (fun b u z => ?_) (fun b z => ?_) fun _ => hk
    · by_cases hb : b = a
      · exact .inr ⟨_, _, if_pos hb⟩
      · exact .inl (if_neg hb)
    · by_cases hb : b = a
      · have z' := (if_pos hb).symm.trans z
        cases z'
        subst hb
        exact ⟨ha, by rw [List.length_map]; exact hl, vs, _, rv, ha⟩
      · have z' := (if_neg hb).symm.trans z
        cases z'
    · by_cases hb : b = a
      · exact hb
      · exact absurd (if_neg hb) z
end L2
namespace L2
open PySem PySem.Spec PyProof.Rows
abbrev KOf {K : PySem.W.Frag} {h : Heap} (_ : K.In h) : PySem.W.Frag := K
theorem walk_of {l : PySem.W.OpenLaw} {n k : Nat} {q : Program} {loose : List Str} {XP : (Str → Option Value) → Heap → Prop} {YP : World → Heap → Prop} {d : DefRec} {K : Params → PySem.W.Frag} {CX : World → CXT} {sp : World → Sp} {x : Str}
    (hn : l.most = some n) (hn2 : n ≤ sizeLine) (hdf : d.params.defaults = []) (hr : Room k callerA)
    (hY : ∀ (w : World) (h : Heap), YP w h → (K w.params).In h)
    (F : ∀ (w : World) (mg : Str → Option Value) (fa : Addr) (h : Heap), (K w.params).In h → h.Ns mainGlobals mg → mg d.name = some (.ref fa) →
      ∃ fd : FuncData, (∀ (s : Shared) (u : Value), BindsTo s fd ⟨[u], []⟩ [(x, u)]) ∧
        ∀ base : Heap, (K w.params).In base → base.Ns mainGlobals mg → iU l.prog w (K w.params) mg base (CX w) k fa fd [x] (sp w))
    (hsp : ∀ (w : World) (H : Hp) (a : Addr) (ns : List Int), ns.length ≤ n → Only H → SqL (K w.params) H a (ns.map V.int) → sp w [.ref a] H (fun v _ => v = .bl true) fun _ _ _ => False)
    (hCX : ∀ (w : World) (H : Hp) (s : Shared) (e : Value) (s' : Shared), CX w [] H s (fun _ _ _ => False) e s' → False) :
    PySem.W.WalkO q loose XP YP l.row.toRowW d [] (fun f vs => PySem.call f vs) := by
  refine Att.attach_call hn hdf fun w s₀ s₁ mg mb fa o pm cd doc a vs ns G Y ho hd hcd hmg hobj hints hlen hg => ?_
  have KX := hY w _ Y
  obtain ⟨fd, hb, hF⟩ := F w mg fa _ KX G.T.g hmg
  exact law_call KX G.T.g G.T.b G.T.builtins G.T.nolimit hg hobj hints (Nat.le_trans hlen hn2) hr hF hb (fun H hO hS => hsp w H a ns hlen hO hS) fun H e s' => hCX w H s₁ e s'
end L2
namespace L2
open PySem PySem.Spec PyProof.Rows
def fu (s:Stmt) (j:Nat):Stmt:=match s with
  | .ClassDef _ _ _ body _ _ _ _ _ _ _=>body.getD j (.Pass ⟨0,0,0,0⟩)
  | _=>.Pass ⟨0,0,0,0⟩
def nJ (s:Stmt):Arguments:=match s with
  | .FunctionDef _ a _ _ _ _ _ _ _ _=>a
  | _=>{ posonlyargs:=[],args:=[],vararg:=none,kwonlyargs:=[],kw_defaults:=[],kwarg:=none,defaults:=[] }
def ip (s:Stmt):List Stmt:=match s with
  | .FunctionDef _ _ b _ _ _ _ _ _ _=>b
  | _=>[]
def ao (s:Stmt):Scope:=match s with
  | .FunctionDef _ _ _ _ _ _ sc _ _ _=>sc
  | _=>{ kind:=.function,names:=[],isGenerator:=false,isCoroutine:=false }
abbrev CX0 : CXT := fun _ _ _ _ _ _ => False
abbrev E0 : XK := fun _ _ _ => False
theorem pass0 {X:Cx}:iC CX0 X E0:=fun _ _ _ _ _ _ _ h=>h.elim
structure Fun (K : PySem.W.Frag) (x qual : Str) (st : Stmt) (f : Addr) (fd : FuncData) : Prop where
  ex : ∃ (oc : Value) (od : Option Addr) (kV doc pm : Value) (an : Option Addr) (cdv ct : Value) (osl : Array (Option Value)),
    fd = PySem.W.fnOf x qual (nJ st) (ip st) (ao st) .none kV doc pm an cdv ct ∧ K.lookup f = some ⟨oc, od, .func fd, osl⟩ ∧ PySem.W.codeIn K cdv qual = true
  kp : PySem.W.keepIn K (.ref f) = true
section
variable {P : Program} {w : World} {K : PySem.W.Frag} {mg : Str → Option Value} {base : Heap}
theorem Fun.ok {x qual:Str}{st:Stmt}{f:Addr}{fd:FuncData}{N ps:List Str}{k:Nat}{sp:Sp} (F:Fun K x qual st f fd) (S:az N ps (ao st)) (len:∀ vs H Q E,sp vs H Q E→vs.length=ps.length)
    (hbody:∀ (cdv:Value) (A:Around) (outer:List Env) (s:Shared) (H:Hp) (vs:List V) (Q:VK) (E:XK),Room k (A.deeper (envOfC qual (ao st) s.heap.objs.size f cdv))→sp vs H Q E →
      ∃ t,PSs (iM CX0 P w K mg base N qual (ao st) f cdv A outer s H E).nox (ip st) t∧t { nx:=fun _ H'=>Q .non H',rt:=Q } (start N vs) H):iU P w K mg base CX0 (k+1) f fd ps sp:=by
  obtain ⟨oc,od,kV,doc,pm,an,cdv,ct,osl,rfl,lk,hcd⟩:=F.ex
  refine fn_of lk hcd S len fun A outer s H vs Q E hr hsp=>?_
  obtain ⟨t,h,q⟩:=hbody cdv A outer s H vs Q E hr hsp
  exact ⟨t,h.nox,q⟩
theorem Fun.binds {x qual : Str} {st : Stmt} {f : Addr} {fd : FuncData} {ps : List Str} (F : Fun K x qual st f fd)
    (h : ∀ (kV doc pm : Value) (an : Option Addr) (cdv ct : Value) (us : List Value), us.length = ps.length → bindArgs (PySem.W.fnOf x qual (nJ st) (ip st) (ao st) .none kV doc pm an cdv ct) ⟨us, []⟩ = pure (ps.zip us)) : Binds K fd ps [] := by
  obtain ⟨oc, od, kV, doc, pm, an, cdv, ct, osl, rfl, lk, hcd⟩ := F.ex
  exact .all (h kV doc pm an cdv ct)
end
theorem hu_of {A : Around} {k : Nat} (hr : Room k A) : A.units + 1 < cLine := Nat.lt_of_le_of_lt (Nat.add_le_add_left (by decide : 1 ≤ 64) _) hr.units
theorem au {n:Nat} (h:n≤1000):n<sizeLine:=Nat.lt_of_le_of_lt h (by decide)
section
variable {X:Cx}
theorem pv (i : Nat) {x : Str} {pos : Pos} (hN : X.N[i]? = some x := by rfl) (hv : Vis X.env.scope x := by first | exact Or.inl rfl | exact Or.inr (Or.inl rfl) | exact Or.inr (Or.inr rfl)) (hd : (x == ("__debug__" : Str)) = false := by decide)
    (hcd : (x == ("__classdict__" : Str)) = false := by decide) : PE X (.Name x pos) (tVar i) := pe_var hN hv hd hcd
end
theorem iteF {A B : Prop} (h : B) : if false = true then A else B := by
  rw [if_neg Bool.false_ne_true]
  exact h
theorem pL {A B:Prop} (h:A):if true=true then A else B:=by
  rw [if_pos rfl]
  exact h
theorem bi {c A B:Prop} [Decidable c] (h1:c→A) (h2:¬ c→B):if c then A else B:=by
  by_cases h:c
  · rw [if_pos h]
    exact h1 h
  · rw [if_neg h]
    exact h2 h
def Same (H H' : Hp) : Prop := ∀ b o, H b = some o → H' b = some o
theorem Same.refl (H : Hp) : Same H H := fun _ _ h => h
theorem Same.trans {H H1 H2 : Hp} (a : Same H H1) (b : Same H1 H2) : Same H H2 := fun c o h => b c o (a c o h)
theorem Same.free {H H' : Hp} (e : Same H H') {l : Addr} (h : H' l = Option.none) : H l = Option.none := by
  cases q : H l with
  | none => rfl
  | some o =>
    rw [e l o q] at h
    cases h
theorem Same.seq {K : PySem.W.Frag} {H H' : Hp} {a : Addr} {xs : List V} (e : Same H H') (h : SqL K H a xs) : SqL K H' a xs := by
  rcases h with (h | ⟨o, h⟩) | h
  · exact .inl (.inl (e _ _ h))
  · exact .inl (.inr ⟨o, e _ _ h⟩)
  · exact .inr h
end L2
set_option maxHeartbeats 4000000
namespace L2
open PySem PySem.Spec PyProof.Rows
section
variable {κ : Type} [DecidableEq κ]
def mK (kvs:List (κ×V)) (k:κ):Option V:=(kvs.find? fun kv=>decide (kv.1=k)).map (·.2)
def pK (kvs:List (κ×V)) (k:κ) (v:V):List (κ×V) :=
  if (kvs.any fun kv=>decide (kv.1=k))=true then kvs.map (fun kv=>if kv.1=k then (kv.1,v) else kv) else kvs++[(k,v)]
theorem iN {p:κ×V}{r:List (κ×V)}{k:κ} (e:p.1=k):mK (p::r) k=some p.2:=by simp [mK,List.find?_cons,e]
theorem jZ {p:κ×V}{r:List (κ×V)}{k:κ} (e:¬ p.1=k):mK (p::r) k=mK r k:=by simp [mK,List.find?_cons,e]
theorem nk (kvs:List (κ×V)) (k:κ) (v:V):(pK kvs k v).length≤kvs.length+1:=by
  unfold pK
  split
  · rw [List.length_map];omega
  · rw [List.length_append,List.length_cons,List.length_nil];omega
theorem RelO.getD {o : Option V} {u : Option Value} {d : V} {d' : Value} (r : RelO o u) (rd : RelV d d') : RelV (o.getD d) (u.getD d') := by
  cases o with
  | none => cases u with
    | none => exact rd
    | some _ => exact (show False from r).elim
  | some _ => cases u with
    | none => exact (show False from r).elim
    | some _ => exact r
theorem KV.val {kvs:List (κ×V)}{vs:List (κ×Value)} (r:KV kvs vs) (k:κ):RelO (mK kvs k) (valueAt vs k):=by
  unfold KV at r
  induction r with
  | nil=>exact True.intro
  | @cons p q ps qs h t ih =>
    obtain ⟨h1,h2⟩:=h
    by_cases e:p.1=k
    · have e':q.1=k:=h1.symm.trans e
      have b:valueAt (q::qs) k=some q.2:=by simp [valueAt,List.find?_cons,e']
      rw [iN e,b];exact h2
    · have e':¬ q.1=k:=fun z=>e (h1.trans z)
      have b:valueAt (q::qs) k=valueAt qs k:=by simp [valueAt,List.find?_cons,e']
      rw [jZ e,b];exact ih
theorem KV.any {kvs : List (κ × V)} {vs : List (κ × Value)} (r : KV kvs vs) (k : κ) : (kvs.any fun kv => decide (kv.1 = k)) = vs.any fun kv => decide (kv.1 = k) := by
  unfold KV at r
  induction r with
  | nil => rfl
  | cons h t ih => rw [List.any_cons, List.any_cons, ih, h.1]
theorem KV.repl {kvs : List (κ × V)} {vs : List (κ × Value)} (r : KV kvs vs) (k : κ) {y : V} {u : Value} (ry : RelV y u) :
    KV (kvs.map fun kv => if kv.1 = k then (kv.1, y) else kv) (vs.map fun kv => if kv.1 = k then (kv.1, u) else kv) := by
  unfold KV at r ⊢
  induction r with
  | nil => exact .nil
  | @cons p q ps qs h t ih =>
    rw [List.map_cons, List.map_cons]
    refine .cons ?_ ih
    obtain ⟨h1, h2⟩ := h
    by_cases e : p.1 = k
    · rw [if_pos e, if_pos (h1.symm.trans e)]; exact ⟨h1, ry⟩
    · rw [if_neg e, if_neg (fun z => e (h1.trans z))]; exact ⟨h1, h2⟩
theorem KV.put {kvs:List (κ×V)}{vs:List (κ×Value)} (r:KV kvs vs) (k:κ) {y:V}{u:Value} (ry:RelV y u):KV (pK kvs k y) (stored vs k u):=by
  unfold pK stored
  rw [r.any k]
  by_cases e:(vs.any fun kv=>decide (kv.1=k))=true
  · rw [if_pos e,if_pos e];exact r.repl k ry
  · rw [if_neg e,if_neg e];exact Paired.snoc r ⟨rfl,ry⟩
end
theorem kV_is {P:Program}{w:World}{k:Key}{u:Value} (r:RelV (kV k) u):(bI P w).is k u=true:=by
  cases k with
  | inl i=>obtain ⟨t,e⟩:=(show ∃ t,u=Value.int i t from r);subst e;exact nj P w i t
  | inr x=>obtain ⟨t,e⟩:=(show ∃ t,u=Value.str x t from r);subst e;exact bA P w x t
theorem mn {P:Program}{w:World}:∀ {ks:List Key}{us:List Value},Vals (ks.map kV) us→ItemsAre (bI P w) ks us
  | [],_,r=>by rw [List.map_nil] at r;cases r;exact .nil
  | k::ks,_,r=>by
    rw [List.map_cons] at r
    cases r with
    | cons h t=>exact .cons (kV_is h) (mn t)
abbrev KT (H : Hp) : List (List Key × V) → List (List Key × Addr × Value) → Prop := Paired fun p q => p.1 = q.1 ∧ H q.2.1 = some (.tup (p.1.map kV)) ∧ RelV p.2 q.2.2
theorem KT.val {H:Hp}{kvs:List (List Key×V)}{xs:List (List Key×Addr×Value)} (r:KT H kvs xs) (k:List Key):RelO (mK kvs k) ((atKey xs k).map (·.2)):=by
  induction r with
  | nil=>exact True.intro
  | @cons p q ps qs h t ih =>
    obtain ⟨h1,_,h2⟩:=h
    by_cases e:p.1=k
    · have e':q.1=k:=h1.symm.trans e
      have b:atKey (q::qs) k=some q.2:=by simp [atKey,List.find?_cons,e']
      rw [iN e,b];exact h2
    · have e':¬ q.1=k:=fun z=>e (h1.trans z)
      have b:atKey (q::qs) k=atKey qs k:=by simp [atKey,List.find?_cons,e']
      rw [jZ e,b];exact ih
section
variable {P : Program} {w : World} {H : Hp} {h : Heap} {a : Addr}
theorem rd_of {u : HO} (ok : HOk P w H h) (e : Rd H a u) : ObjOk P w H h a u := e.ok ok
theorem dk_rd {kvs:List (Key×V)} (ok:HOk P w H h) (e:Rd H a (.dK kvs)):kvs.length≤sizeLine∧(a == sysModules)=false∧∃ vs,KV kvs vs∧h.DictOf (bI P w) a vs :=
  show ObjOk P w H h a (.dK kvs) from rd_of ok e
theorem dk_of {kvs:List (Key×V)} (ok:HOk P w H h) (e:H a=some (.dK kvs)):kvs.length≤sizeLine∧(a == sysModules)=false∧∃ vs,KV kvs vs∧h.DictOf (bI P w) a vs:=dk_rd ok (.inl e)
theorem key_of {ks:List Key} (ok:HOk P w H h) (e:H a=some (.tup (ks.map kV))):(tupleKind (bI P w)).is h ks a:=by
  obtain ⟨_,its,r,o,h1,h2,n,h3⟩:=(show ObjOk P w H h a (.tup (ks.map kV)) from ok a _ e)
  exact ⟨o,its.toArray,n,h1,h2,h3,by simpa using mn r⟩
theorem dt_rd {kvs : List (List Key × V)} (ok : HOk P w H h) (e : Rd H a (.dT kvs)) : kvs.length ≤ sizeLine ∧ (a == sysModules) = false ∧
    ∃ xs, KT H kvs xs ∧ h.DictOfH (tupleKind (bI P w)) a xs := by
  obtain ⟨z, y, xs, r, o, es, ep, h1, h2, h3, h4, h5⟩ := (show ObjOk P w H h a (.dT kvs) from rd_of ok e)
  refine ⟨z, y, xs, r, o, es, ep, h1, h2, h3, h4, fun x hx => ?_, h5⟩
  have all : ∀ {l : List (List Key × V)} {m : List (List Key × Addr × Value)}, KT H l m → ∀ x ∈ m, (tupleKind (bI P w)).is h x.1 x.2.1 := by
    intro l m q
    induction q with
    | nil => intro x hx; exact nomatch hx
    | @cons p q ps qs hq t ih =>
      intro x hx
      rcases List.mem_cons.mp hx with e | hx
      · subst e
        exact key_of ok (by rw [← hq.1]; exact hq.2.1)
      · exact ih x hx
  exact all r x hx
end
def DGet (H : Hp) (a : Addr) (y : V) (r : Option V) : Prop :=
  (∃ kvs k, Rd H a (.dK kvs) ∧ y = kV k ∧ r = mK kvs k) ∨ ∃ kvs k b, Rd H a (.dT kvs) ∧ y = .ref b ∧ H b = some (.tup (k.map kV)) ∧ r = mK kvs k
theorem DGet.k {H:Hp}{a:Addr}{kvs:List (Key×V)}{k:Key} (e:H a=some (.dK kvs)):DGet H a (kV k) (mK kvs k):=.inl ⟨kvs,k,.inl e,rfl,rfl⟩
section
variable {X : Cx} {pins : List (Addr × Obj)} {σ : St} {H : Hp} {s : Shared} {a : Addr} {y v : V} {u r : Value} {o : Option V} {A : Around} {E : Value → Shared → Prop}
theorem Inv.big (I : Inv X pins σ H s) : sysModules < s.heap.objs.size := by
  have h : mainGlobals < s.heap.objs.size := (I.mod.glob.keeps I.bk).lt
  exact Nat.lt_trans (by decide) h
theorem d_write {h' : Heap} {t' : Nat} {ob : HO} (I : Inv X pins σ H s) (mu : Mut (H a)) (hs : Heap.SameBut a s.heap h') (he : ∃ q, h'.get? a = some q) (new : ObjOk X.prog X.w (upd H a ob) h' a ob) :
    Inv X pins σ (upd H a ob) { s with heap := h', toks := t' } :=
  I.write (x := a) (e := a) mu (.inl rfl) (fun b q hb z => (hs.2 b hb).trans z) he new
theorem dk_new {P:Program}{w:World}{H':Hp}{h':Heap}{kvs:List (Key×V)}{vs:List (Key×Value)} (z:kvs.length≤sizeLine) (hd:(a == sysModules)=false) (rel:KV kvs vs) (dd:h'.DictOf (bI P w) a vs) :
    ObjOk P w H' h' a (.dK kvs):=⟨z,hd,vs,rel,dd⟩
end
section
variable {X : Cx} {pins : List (Addr × Obj)} {σ : St} {H : Hp} {s : Shared} {a : Addr} {kvs : List (Key × V)} {k : Key} {u : Value} {A : Around} {E : Value → Shared → Prop}
end
section
variable {X : Cx} {o i e value : Expr} {pos pos' tpos : Pos} {td ty tv : TE}
end
theorem dk_empty {P : Program} {w : World} {H : Hp} (h : Heap) (hb : sysModules < h.objs.size) : ObjOk P w H (h.push { cls := .type "dict", data := .dict #[] }) h.objs.size (.dK []) :=
  ⟨Nat.zero_le _, beq_eq_false_iff_ne.mpr (Ne.symm (Nat.ne_of_lt hb)), [], .nil, Heap.DictOf.new h⟩
section
variable {X : Cx} {pos : Pos}
end
def qb:List (TE×TE)→St→Hp→(List (V×V)→Hp→Prop)→Prop
  | [],_,H,Q=>Q [] H
  | (tk,tv)::r,σ,H,Q=>tk σ H fun x H1=>tv σ H1 fun y H2=>qb r σ H2 fun ps H3=>Q ((x,y)::ps) H3
abbrev VV : List (V × V) → List (Value × Value) → Prop := Paired fun p q => RelV p.1 q.1 ∧ RelV p.2 q.2
def PPs (X : Cx) (pos : Pos) (keys : List (Option Expr)) (values : List Expr) (trs : List (TE × TE)) : Prop :=
  ∀ (pins : List (Addr × Obj)) (s : Shared) (σ : St) (H : Hp) (Q : List (V × V) → Hp → Prop), Inv X pins σ H s → qb trs σ H Q →
    wpAny (model X.prog X.w) X.A (evalPairs (pairTrees keys values X.env pos)) (fun vs s' => ∃ ps H', Inv X pins σ H' s' ∧ VV ps vs ∧ Q ps H') X.xe s
theorem pps_nil {X : Cx} {pos : Pos} : PPs X pos [] [] [] := fun pins s σ H Q I h => pairTrees_nil_walk ⟨[], H, I, .nil, h⟩
theorem kG {X:Cx}{pos:Pos}{k v:Expr}{ks:List (Option Expr)}{vs:List Expr}{tk tv:TE}{trs:List (TE×TE)} (hk:PE X k tk) (hv:PE X v tv) (hr:PPs X pos ks vs trs) :
    PPs X pos (some k::ks) (v::vs) ((tk,tv)::trs):=fun pins s σ H Q I h =>
  pairTrees_cons_walk (thn (hk pins s σ H _ I h) fun u s1 ⟨x,H1,I1,rx,q1⟩=>thn (hv pins s1 σ H1 _ I1 q1) fun w2 s2 ⟨y,H2,I2,ry,q2⟩ =>
    thn (hr pins s2 σ H2 _ I2 q2) fun ws s3 ⟨ps,H3,I3,rel,q3⟩=>⟨(x,y)::ps,H3,I3,.cons ⟨rx,ry⟩ rel,q3⟩)
def iB (kvs more:List (Key×V)):List (Key×V):=more.foldl (fun acc kv=>pK acc kv.1 kv.2) kvs
theorem KV.merge:∀ {more:List (Key×V)}{rs:List (Key×Value)}{kvs:List (Key×V)}{vs:List (Key×Value)},KV more rs→KV kvs vs→KV (iB kvs more) (merged vs rs):=by
  intro more rs kvs vs r
  unfold KV at r
  induction r generalizing kvs vs with
  | nil=>intro q;exact q
  | @cons p q ps qs h t ih =>
    intro r0
    have e:KV (pK kvs p.1 p.2) (stored vs q.1 q.2):=by
      have:=r0.put p.1 h.2
      rw [← h.1];exact this
    exact ih e
theorem gI:∀ (more kvs:List (Key×V)),(iB kvs more).length≤kvs.length+more.length
  | [],kvs=>by show kvs.length≤kvs.length+0;omega
  | p::r,kvs=>by
    have h1:=gI r (pK kvs p.1 p.2)
    have h2:=nk kvs p.1 p.2
    show (iB (pK kvs p.1 p.2) r).length≤_
    rw [List.length_cons];omega
theorem jW {P:Program}{w:World}:∀ {kvs:List (Key×V)}{ws:List (Value×Value)},VV (kvs.map fun kv=>(kV kv.1,kv.2)) ws→∃ rs,Carries (bI P w) ws rs∧KV kvs rs
  | [],_,r=>by rw [List.map_nil] at r;cases r;exact ⟨[],True.intro,.nil⟩
  | p::kvs,_,r=>by
    rw [List.map_cons] at r
    cases r with
    | @cons a b as bs h t =>
      obtain ⟨rs,c,q⟩:=jW (P:=P) (w:=w) t
      obtain ⟨b1,b2⟩:=b
      exact ⟨(p.1,b2)::rs,⟨kV_is h.1,rfl,c⟩,.cons ⟨rfl,h.2⟩ q⟩
def tDisp (trs:List (TE×TE)):TE:=fun σ H Q=>∀ p,H p=none→qb trs σ (upd H p (.dK [])) fun ps H2=>H2 p=some (.dK [])∧∃ kvs:List (Key×V),ps=kvs.map (fun kv=>(kV kv.1,kv.2))∧kvs.length≤15∧Q (.ref p) (upd H2 p (.dK (iB [] kvs)))
theorem pe_disp {X : Cx} {pos : Pos} {keys : List (Option Expr)} {values : List Expr} {trs : List (TE × TE)} (h : PPs X pos keys values trs) (hall : keys.all (·.isSome) = true) (hl : keys.length = values.length) (h0 : keys ≠ [])
    (h15 : keys.length ≤ 15) : PE X (.Dict keys values pos) (tDisp trs) := by
  intro pins s σ H Q I q
  have hn := I.hok.fresh (Nat.le_refl s.heap.objs.size)
  have I1 := I.laid (a := s.heap.objs.size) (o := .dK []) (h' := s.heap.push { cls := .type "dict", data := .dict #[] }) (t' := s.toks) (fun _ _ q => Heap.get?_push_of_some _ q) (Nat.le_refl _) (dk_empty s.heap I.big)
  refine wpAny_Dict_walk (knd := bI X.prog X.w) hall hl h0 h15 (thn (h pins _ σ _ _ I1 (q _ hn)) fun ws s2 ⟨ps, H2, I2, rel, e, kvs, ep, lk, q2⟩ => ?_)
  subst ep
  obtain ⟨rs, c, rk⟩ := jW (P := X.prog) (w := X.w) rel
  obtain ⟨z, hd, vs0, r0, dd⟩ := dk_of I2.hok e
  cases r0
  refine ⟨rs, c, dd, fun h' dd' hs => ⟨.ref s.heap.objs.size, _, ?_, rfl, q2⟩⟩
  have hz : (iB [] kvs).length ≤ sizeLine := by
    have h1 := gI kvs []
    rw [List.length_nil] at h1
    rw [sizeLine_eq]; omega
  have he : ∃ q, h'.get? s.heap.objs.size = some q := let ⟨q, _, _, hq, _⟩ := dd'; ⟨q, hq⟩
  exact d_write I2 (by rw [e]; exact True.intro) hs he (dk_new hz hd (rk.merge .nil) dd')
structure M1 (X : Cx) (o : Expr) (m : Str) (apos : Pos) (e : Expr) (cpos : Pos) : Prop where
  base : attributeBase o m X.env (eval o X.env) = eval o X.env
  few : ((backTo cpos (starEach [e] X.env)).all (fun x => !x.1) && (backToKw cpos (keywordEach [] X.env)).all (fun x => x.1.isSome)
    && decide (([e] : List Expr).length + ([] : List Keyword).length + (if ([] : List Keyword).isEmpty then 0 else 1) < 30)) = true
  line : (apos.endLine == cpos.line) = true
  trees : backTo cpos (starEach [e] X.env) = [(false, eval e X.env)]
structure M2 (X : Cx) (o : Expr) (m : Str) (apos : Pos) (e f : Expr) (cpos : Pos) : Prop where
  base : attributeBase o m X.env (eval o X.env) = eval o X.env
  few : ((backTo cpos (starEach [e, f] X.env)).all (fun x => !x.1) && (backToKw cpos (keywordEach [] X.env)).all (fun x => x.1.isSome)
    && decide (([e, f] : List Expr).length + ([] : List Keyword).length + (if ([] : List Keyword).isEmpty then 0 else 1) < 30)) = true
  line : (apos.endLine == cpos.line) = true
  trees : backTo cpos (starEach [e, f] X.env) = [(false, eval e X.env), (false, eval f X.env)]
def IsD (H : Hp) (a : Addr) : Prop := (∃ kvs, Rd H a (.dK kvs)) ∨ ∃ kvs, Rd H a (.dT kvs)
theorem isD_at {X : Cx} {pins : List (Addr × Obj)} {σ : St} {H : Hp} {s : Shared} {a : Addr} (I : Inv X pins σ H s) (d : IsD H a) :
    s.TypeIs (.ref a) "dict" ∧ (∀ b, Value.ref a = .ref b → ∃ ob, s.heap.get? b = some ob ∧ ob.dict = none) ∧ (a == sysModules) = false := by
  rcases d with ⟨kvs, e⟩ | ⟨kvs, e⟩
  · obtain ⟨_, hd, vs, _, dd⟩ := dk_rd I.hok e
    refine ⟨dd.typeIs, fun b q => ?_, hd⟩
    cases q
    obtain ⟨ob, _, _, h1, h2, _⟩ := dd
    exact ⟨ob, h1, h2.2.1⟩
  · obtain ⟨_, hd, xs, _, dd⟩ := dt_rd I.hok e
    refine ⟨dd.typeIs, fun b q => ?_, hd⟩
    cases q
    obtain ⟨ob, _, _, h1, h2, _⟩ := dd
    exact ⟨ob, h1, h2.2.1⟩
section
variable {X : Cx} {pins : List (Addr × Obj)} {σ : St} {H : Hp} {s : Shared} {a : Addr} {y d : V} {u r : Value} {o : Option V} {A : Around} {E : Value → Shared → Prop}
theorem d_get2 {Q : Value → Shared → Prop} (hu : A.units + 1 < cLine) (I : Inv X pins σ H s) (g : DGet H a y o) (ry : RelV y u) (rd : RelV d r) (h : ∀ w' s', Inv X pins σ H s' → RelV (o.getD d) w' → Q w' s') :
    wpAny (model X.prog X.w) A (call (.builtin "dict.get") [.ref a, u, r]) Q E s := by
  rcases g with ⟨kvs, k, e, ey, l⟩ | ⟨kvs, k, b, e, ey, eb, l⟩
  · subst ey
    obtain ⟨z, hd, vs, rel, dd⟩ := dk_rd I.hok e
    refine call_meetsIn PySem.F.slot_dict_get dd.typeIs PySem.F.entry_dict_get (PySem.F.args_dict_get_3 _ _ _) (meets_dict_get_default (bI X.prog X.w) a (kV_is ry) hd r) ⟨_, dd.mapOf, h _ _ (I.tok _) ?_⟩
    rw [l]
    exact (rel.val k).getD rd
  · subst ey
    cases (show u = Value.ref b from ry)
    obtain ⟨z, hd, xs, rel, dd⟩ := dt_rd I.hok e
    refine call_meetsIn PySem.F.slot_dict_get dd.typeIs PySem.F.entry_dict_get (PySem.F.args_dict_get_3 _ _ _) (meetsH_dict_get_default (tupleKind (bI X.prog X.w)) a b hd r) ⟨tupleKind_room_in1 hu, k, xs, key_of I.hok eb, dd, h _ _ (I.tok _) ?_⟩
    rw [l]
    exact (rel.val k).getD rd
end
def tDGet2 (td ty tx : TE) : TE := fun σ H Q => td σ H fun x H1 => ∃ a, x = .ref a ∧ IsD H1 a ∧ ty σ H1 fun y H2 => tx σ H2 fun z H3 => ∃ o, DGet H3 a y o ∧ Q (o.getD z) H3
section
variable {X : Cx} {o e f : Expr} {apos cpos : Pos} {td ty tx : TE}
theorem pe_dget2 (hu : X.A.units + 1 < cLine) (ho : PE X o td) (he : PE X e ty) (hf : PE X f tx) (m : M2 X o "get" apos e f cpos) : PE X (.Call (.Attribute o "get" apos) [e, f] [] cpos) (tDGet2 td ty tx) := by
  intro pins s σ H Q I h
  refine wpAny_Call_method m.base m.few m.line PySem.F.plainAttrs_dict PySem.F.slot_dict_get PySem.F.type_dict_get (thn (ho pins s σ H _ I h) fun u s1 ⟨x, H1, I1, rx, a, ex, d, q1⟩ => ?_)
  subst ex
  obtain rfl : u = Value.ref a := rx
  obtain ⟨t1, t2, _⟩ := isD_at I1 d
  refine ⟨t1, t2, ?_⟩
  rw [m.trees]
  refine Calls.callWith_builtin rfl (Calls.evalArgs_plain (Calls.spliced_cons (thn (he pins s1 σ H1 _ I1 q1) fun iv s2 ⟨y, H2, I2, ry, q2⟩ =>
    Calls.spliced_cons (thn (hf pins s2 σ H2 _ I2 q2) fun fv s3 ⟨z, H3, I3, rz, ov, g, q3⟩ => Calls.spliced_nil ?_))))
  exact d_get2 hu I3 g ry rz fun w' s4 I4 rw' => ⟨_, H3, I4, rw', q3⟩
end
section
variable {X : Cx} {pins : List (Addr × Obj)} {σ : St} {H : Hp} {s : Shared} {a : Addr} {kvs : List (Key × V)} {A : Around} {E : Value → Shared → Prop}
end
section
variable {X : Cx} {pins : List (Addr × Obj)} {σ : St} {H : Hp} {s : Shared} {a : Addr} {y : V} {u : Value} {A : Around} {E : Value → Shared → Prop}
end
end L2
namespace L2
open PySem PySem.Spec PyProof.Rows
section
variable {P:Program}{w:World}{H:Hp}{h h':Heap}{p:Addr}{o:HO}{ch:List Addr}
theorem HOk.keptBut (x:HOk P w H h) (k:∀ b u,b∉ch→h.get? b=some u→h'.get? b=some u) (hn:∀ b∈ch,H b=none):HOk P w H h':=fun b u e =>
 (x b u e).stay (fun c v hc q=>k c v (fun hm=>by
  rcases hc with z | z
  ·rw [z] at hm;rw [hn _ hm] at e;cases e
  ·rw [hn c hm] at z;cases z) q) (fun _ q=>q) fun _ _ q=>q
theorem HOk.laidBut (x:HOk P w H h) (k:∀ b u,b∉ch→h.get? b=some u→h'.get? b=some u) (hn:∀ b∈ch,H b=none) (hp:h.objs.size≤p) (new:ObjOk P w (upd H p o) h' p o):HOk P w (upd H p o) h':=fun b u e=>by
 have hnp:=x.fresh hp
 by_cases hb:b=p
 ·subst hb;rw [upd_same] at e;cases e;exact new
 ·rw [aB hb] at e
  refine (x b u e).stay (fun c v hc q=>k c v (fun hm=>?_) q) (fun c q=>by rw [aB (aw q hnp)];exact q) fun c xs q=>by rw [aB (aw q hnp)];exact q
  rcases hc with z | z
  ·rw [z] at hm;rw [hn _ hm] at e;cases e
  ·rw [hn c hm] at z;cases z
end
section
variable {X:Cx}{pins:List (Addr×Obj)}{σ:St}{H H':Hp}{s:Shared}{h':Heap}
theorem Inv.turnedL {t':Nat}{ch:List Addr} (I:Inv X pins σ H s) (hf:∀ b∈ch,mI X pins H b) (k:∀ b u,b∉ch→s.heap.get? b=some u→h'.get? b=some u)
  (hH:∀ b u,H b=some u→H' b=some u) (hfree:∀ b u,s.heap.get? b=some u→H b=none→H' b=none) (hok:HOk X.prog X.w H' h'):Inv X pins σ H' { s with heap:=h',toks:=t' }:=by
 refine I.step (g':=s.gens) (d':=s.drawn) (ch:=ch) (fun b hb=>?_) (fun b u _ _ hc e _=>k b u hc e) (fun b u _ _ hc e _=>⟨u.slots,k b u hc e⟩) (fun b u _ e n=>hfree b u e n)
  (fun b u hc e=>⟨u,k b u hc e⟩) (fun b xs e=>hH _ _ e) (fun b u v e=>hH _ _ e) (fun b ps e=>⟨#[],by rw [hH _ _ e];simp⟩) (fun m hm=>?_) hok I.bare
 ·obtain ⟨f0,f1,f2,f3,f4,f5⟩:=hf b hb
  exact ⟨f3,f1,f4,f5⟩
 ·obtain ⟨u,es,ep,ho,r⟩:=hm
  exact ⟨u,es,ep,k _ u (fun z=>(hf _ z).2.1 rfl) ho,r⟩
theorem Inv.turnedK {t':Nat}{ch:List Addr} (I:Inv X pins σ H s) (hf:∀ b∈ch,mI X pins H b) (k:∀ b u,b∉ch→s.heap.get? b=some u→h'.get? b=some u):Inv X pins σ H { s with heap:=h',toks:=t' } :=
 I.turnedL hf k (fun _ _ e=>e) (fun _ _ _ e=>e) (I.hok.keptBut k fun b hb=>(hf b hb).1)
theorem Inv.turnedN {t':Nat}{ch:List Addr}{p:Addr}{o:HO} (I:Inv X pins σ H s) (hf:∀ b∈ch,mI X pins H b) (k:∀ b u,b∉ch→s.heap.get? b=some u→h'.get? b=some u)
  (hp:s.heap.objs.size≤p) (new:ObjOk X.prog X.w (upd H p o) h' p o):Inv X pins σ (upd H p o) { s with heap:=h',toks:=t' } :=
 I.turnedL hf k (fun b u e=>by rw [aB (aw e (I.hok.fresh hp))];exact e)
  (fun b u e n=>by rw [aB (Nat.ne_of_lt (Nat.lt_of_lt_of_le (Heap.lt_size e) hp))];exact n) (I.hok.laidBut k (fun b hb=>(hf b hb).1) hp new)
end
theorem on1 {p:Addr→Prop}{a:Addr} (h:p a):∀ b∈[a],p b:=fun b hb=>by
 rw [show b=a by simpa using hb]
 exact h
def rM (K:PySem.W.Frag) (a:Addr) (n:Nat):It :=
 ⟨fun i H=>i<n∧∃ xs,SqL K H a xs∧xs.length=n,fun i H x H'=>H'=H∧∀ xs,SqL K H a xs→xs.length=n→xs[n - 1 - i]?=some x,fun i _=>i=n⟩
theorem turn_rev {P:Program}{w:World}{K:PySem.W.Frag}{tg:Expr} (a it:Addr) (n:Nat):Turn P w K tg (rM K a n) [it] it (fun i h=>h.IsRevIter it a ((n:Int) - 1 - (i:Nat))) where
 mem:=by simp
 obj:=fun i h st b hb=>by
  have e:b=it:=by simpa using hb
  subst e
  obtain ⟨o,e,c,d⟩:=st
  exact ⟨o,e,fun v z=>by rw [d] at z;cases z⟩
 keep:=fun i h h' st k=>st.at fun o e=>k it (by simp) o e
 item:=by
  intro X hP hw hK hc i pins s σ H E I hf st hg
  subst hP hw hK
  obtain ⟨hin,xs,hq,hl⟩:=hg
  obtain ⟨its,rv,p,hz⟩:=I.list hq
  have hj:n - 1 - i<xs.length:=by omega
  have hx:xs[n - 1 - i]?=some xs[n - 1 - i]:=List.getElem?_eq_getElem hj
  obtain ⟨u,hu,ru⟩:=rv.get hx
  have f:=hf it (by simp)
  have e1:(n:Int) - 1 - (i:Nat)=((n - 1 - i:Nat):Int):=by omega
  have e2:((n - 1 - i:Nat):Int) - 1=(n:Int) - 1 - ((i+1:Nat):Int):=by omega
  have st1:=st
  rw [e1] at st1
  refine wpAny_pyNext_rev_item st1 p.isList (x:=u) (by simpa using hu) fun h' st' sb=>?_
  rw [e2] at st'
  have I1:Inv X pins σ H { s with heap:=h' }:=I.turnedK (t':=s.toks) (ch:=[it]) (on1 f) fun b o hb e=>(sb.2 b (by simpa using hb)).trans e
  obtain ⟨o,e,c,d⟩:=id st'
  exact ⟨u,rfl,go_of (s:={ s with heap:=h' }) e c d (by decide) ⟨xs[n - 1 - i],H,I1,ru,⟨rfl,fun ys hy _=>by rw [I.list_inj hy hq];exact hx⟩,st',fun b hb=>(hf b hb).1⟩⟩
 done:=by
  intro X hP hw hK hc i pins s σ H E I hf st hg
  subst hP hw hK
  have hin:i=n:=hg
  subst hin
  have f:=hf it (by simp)
  have st1:=st
  rw [show (i:Int) - 1 - (i:Nat) = -1 by omega] at st1
  exact wpAny_pyNext_rev_end (I.ok.hd hc) st1 fun h' eb=>⟨rfl,I.turnedK (t':=s.toks) (ch:=[it]) (on1 f) fun b o hb e=>eb b o (by simpa using hb) e⟩
 self:=fun _ _ _ _ _ st h=>wpAny_pyIter_revIter st h
def iRev (K:PySem.W.Frag) (ta:TA):TI:=fun σ H R=>ta σ H fun vs H1=>∃ l xs,vs=[.ref l]∧SqL K H1 l xs∧R (rM K l xs.length) H1
section
variable {X : Cx} {tg : Expr}
theorem pB {pins:List (Addr×Obj)}{σ:St}{H H':Hp}{s:Shared} (I:Inv X pins σ H s) (hH:∀ b,s.heap.objs.size≤b→H' b=none) {fp:List Addr} (h:∀ b∈fp,s.heap.objs.size≤b):∀ b∈fp,mI X pins H' b :=
 fun b hb=>I.fpOk (h b hb) (hH b (h b hb))
theorem pi_rev {a:Expr}{ta:TA}{p pos:Pos} (hg:Gl X "reversed") (hm:X.mg "reversed"=none) (ha:PA X [a] ta) (hs:starEach [a] X.env=[(false,eval a X.env)]:=by rfl):PI X tg (.Call (.Name "reversed" p) [a] [] pos) (iRev X.K ta):=by
 intro pins s σ H R I h
 refine Call_ (eT I hg hm boot_reversed (PyProof.Rows.callWith_type1 (thn (ha pos pins s σ H _ I h) fun us s1 ⟨vs,H1,I1,r1,q1⟩=>?_) hs rfl))
 obtain ⟨l,xs,e,hq,q⟩:=q1
 subst e
 obtain ⟨u,rfl,ru⟩:=r1.one
 cases ru
 obtain ⟨its,rv,pl,hz⟩:=I1.list hq
 refine call_reversed_list pl.isList ?_
 have st:Heap.IsRevIter (s1.heap.push (revObj l ((its.toArray.size:Int) - 1))) s1.heap.objs.size l ((xs.length:Int) - 1 - ((0:Nat):Int)):=by
  refine ⟨_,Heap.get?_push_size _ rfl,rfl,?_⟩
  have e:((its.toArray.size:Nat):Int) - 1=(xs.length:Int) - 1 - ((0:Nat):Int):=by rw [List.size_toArray,← rv.length];omega
  rw [← e]
  rfl
 refine wpAny_pyIter_revIter st ?_
 refine ⟨s1.heap.objs.size,[s1.heap.objs.size],_,_,H1,rfl,I1.kept (t':=s1.toks) fun b o e=>Heap.get?_push_of_some _ e,turn_rev l _ xs.length,st,?_,q⟩
 exact pB I1 (fun b hb=>I1.hok.fresh hb) (on1 (p:=fun b=>s1.heap.objs.size≤b) (Nat.le_refl _))
end
def Itz (K:PySem.W.Frag) (a b:Addr):It :=
  ⟨fun i H=>∃ xs ys x y,SqL K H a xs∧SqL K H b ys∧xs[i]?=some x∧ys[i]?=some y,
   fun i H v H'=>∃ p,H p=none∧v=.ref p∧∀ xs ys x y,SqL K H a xs→SqL K H b ys→xs[i]?=some x→ys[i]?=some y→H'=upd H p (.tup [x,y]),
   fun i H=>∃ xs ys,SqL K H a xs∧SqL K H b ys∧(xs.length≤i∨ys.length≤i)⟩
section
variable {X:Cx}{pins:List (Addr×Obj)}{σ:St}{H:Hp}{s:Shared}
theorem Inv.list_apart (I:Inv X pins σ H s) {a b:Addr}{xs:List V} (h:SqL X.K H a xs) {o:Obj} (e:s.heap.get? b=some o) (hc:o.cls≠.type "list"):a≠b:=by
 intro z
 obtain ⟨its,rv,p,hz⟩:=I.list h
 obtain ⟨o',e',c',_⟩:=p.isList
 rw [z,e] at e'
 cases e'
 exact hc c'
end
theorem turn_zip {P:Program}{w:World}{K:PySem.W.Frag}{elts:List Expr}{k1:Nat}{tp:Pos} (a b z TI TO i1 i2:Addr)
  (d1:TI≠z) (d2:TO≠z) (d3:i1≠z) (d4:i2≠z) (d5:TI≠TO) (d6:TI≠i1) (d7:TI≠i2) (d8:TO≠i1) (d9:TO≠i2) (d10:i1≠i2) :
  Turn P w K (.Tuple elts k1 tp) (Itz K a b) [z,TI,TO,i1,i2] z (fun i h=>IsZip h z TI TO .none∧IsPair h TI (.ref i1) (.ref i2)∧(∃ u v,IsPair h TO u v)∧h.IsListIter i1 a i∧h.IsListIter i2 b i) where
 mem:=by simp
 obj:=fun i h st c hb=>by
  obtain ⟨s1,s2,⟨u,v,s3⟩,⟨o4,s4,_,t4⟩,⟨o5,s5,_,t5⟩⟩:=st
  simp only [List.mem_cons,List.not_mem_nil,or_false] at hb
  rcases hb with rfl | rfl | rfl | rfl | rfl
  ·exact ⟨_,s1,fun v z=>by cases z⟩
  ·exact ⟨_,s2,fun v z=>by cases z⟩
  ·exact ⟨_,s3,fun v z=>by cases z⟩
  ·exact ⟨_,s4,fun v z=>by rw [t4] at z;cases z⟩
  ·exact ⟨_,s5,fun v z=>by rw [t5] at z;cases z⟩
 keep:=fun i h h' st k=>by
  obtain ⟨s1,s2,⟨u,v,s3⟩,s4,s5⟩:=st
  exact ⟨k z (by simp) _ s1,k TI (by simp) _ s2,⟨u,v,k TO (by simp) _ s3⟩,s4.at fun o e=>k i1 (by simp) o e,s5.at fun o e=>k i2 (by simp) o e⟩
 item:=by
  intro X hP hw hK hc i pins s σ H E I hf st hg
  subst hP hw hK
  obtain ⟨xs,ys,x,y,hqa,hqb,hx,hy⟩:=hg
  obtain ⟨s1,s2,⟨u,v,s3⟩,s4,s5⟩:=st
  obtain ⟨its1,rv1,p1,z1⟩:=I.list hqa
  obtain ⟨its2,rv2,p2,z2⟩:=I.list hqb
  obtain ⟨u1,hu1,ru1⟩:=rv1.get hx
  obtain ⟨u2,hu2,ru2⟩:=rv2.get hy
  have e4:=s4
  have e5:=s5
  obtain ⟨o4,q4,c4,_⟩:=e4
  obtain ⟨o5,q5,c5,_⟩:=e5
  have n4:o4.cls≠.type "list":=by rw [c4];decide
  have n5:o5.cls≠.type "list":=by rw [c5];decide
  have D:ZipApart z TI TO i1 i2 a b:=⟨d1,d2,d3,d4,d5,d6,d7,d8,d9,d10,
   I.list_apart hqa s1 (show Value.type "zip"≠Value.type "list" by decide),I.list_apart hqa s3 (show Value.type "tuple"≠Value.type "list" by decide),I.list_apart hqa q4 n4,I.list_apart hqa q5 n5,
   I.list_apart hqb s1 (show Value.type "zip"≠Value.type "list" by decide),I.list_apart hqb s3 (show Value.type "tuple"≠Value.type "list" by decide),I.list_apart hqb q4 n4,I.list_apart hqb q5 n5⟩
  refine wpAny_pyNext_zip_item D s1 s2 s3 s4 s5 p1.isList p2.isList (x:=u1) (y:=u2) (by simpa using hu1) (by simpa using hu2) fun h' a1 a2 a3 a4 a5 a6 a7=>?_
  refine ⟨_,rfl,?_⟩
  refine wpAny_letOwnedTupleGo_zip (s:={ s with heap:=h' }) a1 fun h2 hz2 hs2=>?_
  have lt:∀ {c:Addr}{o:Obj},s.heap.get? c=some o→s.heap.objs.size≠c:=fun e=>Nat.ne_of_gt (Heap.lt_size e)
  have kk:∀ c o,c∉[z,TO,i1,i2]→s.heap.get? c=some o→h2.get? c=some o:=fun c o hm e=>by
   simp only [List.mem_cons,List.not_mem_nil,or_false,not_or] at hm
   exact (hs2.2 c hm.1).trans (a7 c o hm.1 hm.2.1 hm.2.2.1 hm.2.2.2 e)
  have pT:h2.get? s.heap.objs.size=some { cls:=.type "tuple",data:=.seq #[u1,u2] }:=(hs2.2 _ (lt s1)).trans a5
  have I2:Inv X pins σ (upd H s.heap.objs.size (.tup [x,y])) { s with heap:=h2 }:=I.turnedN (t':=s.toks) (ch:=[z,TO,i1,i2]) (p:=s.heap.objs.size) (o:=.tup [x,y]) (fun c hm=>hf c (by
   simp only [List.mem_cons,List.not_mem_nil,or_false] at hm ⊢
   rcases hm with r | r | r | r<;>simp [r])) kk (Nat.le_refl _) ⟨(by show 2≤sizeLine;decide),[u1,u2],.cons ru1 (.cons ru2 .nil),⟨_,pT,rfl,_,rfl⟩⟩
  have fr:H s.heap.objs.size=none:=I.fresh
  refine ⟨.ref s.heap.objs.size,_,I2,rfl,⟨_,fr,rfl,fun xs' ys' x' y' q1 q2 q3 q4=>?_⟩,⟨hz2,?_,⟨_,_,(hs2.2 TO d2).trans a2⟩,a3.at fun o e=>(hs2.2 i1 d3).trans e,a4.at fun o e=>(hs2.2 i2 d4).trans e⟩,fun c hm=>?_⟩
  ·rw [I.list_inj q1 hqa] at q3
   rw [I.list_inj q2 hqb] at q4
   rw [hx] at q3
   rw [hy] at q4
   cases q3
   cases q4
   rfl
  ·exact kk TI _ (by simp only [List.mem_cons,List.not_mem_nil,or_false,not_or];exact ⟨d1,d5,d6,d7⟩) s2
  ·have hne:c≠s.heap.objs.size:=by
    simp only [List.mem_cons,List.not_mem_nil,or_false] at hm
    rcases hm with rfl | rfl | rfl | rfl | rfl
    ·exact (lt s1).symm
    ·exact (lt s2).symm
    ·exact (lt s3).symm
    ·exact (lt q4).symm
    ·exact (lt q5).symm
   rw [aB hne]
   exact (hf c hm).1
 done:=by
  intro X hP hw hK hc i pins s σ H E I hf st hg
  subst hP hw hK
  obtain ⟨xs,ys,hqa,hqb,hend⟩:=hg
  obtain ⟨s1,s2,⟨u,v,s3⟩,s4,s5⟩:=st
  obtain ⟨its1,rv1,p1,z1⟩:=I.list hqa
  obtain ⟨its2,rv2,p2,z2⟩:=I.list hqb
  have e4:=s4
  have e5:=s5
  obtain ⟨o4,q4,c4,_⟩:=e4
  obtain ⟨o5,q5,c5,_⟩:=e5
  have n4:o4.cls≠.type "list":=by rw [c4];decide
  have n5:o5.cls≠.type "list":=by rw [c5];decide
  have D:ZipApart z TI TO i1 i2 a b:=⟨d1,d2,d3,d4,d5,d6,d7,d8,d9,d10,
   I.list_apart hqa s1 (show Value.type "zip"≠Value.type "list" by decide),I.list_apart hqa s3 (show Value.type "tuple"≠Value.type "list" by decide),I.list_apart hqa q4 n4,I.list_apart hqa q5 n5,
   I.list_apart hqb s1 (show Value.type "zip"≠Value.type "list" by decide),I.list_apart hqb s3 (show Value.type "tuple"≠Value.type "list" by decide),I.list_apart hqb q4 n4,I.list_apart hqb q5 n5⟩
  have l1:=rv1.length
  have l2:=rv2.length
  have hend':its1.toArray[i]?=none∨its2.toArray[i]?=none:=by
   rcases hend with r | r
   ·exact .inl (Array.getElem?_eq_none (by rw [List.size_toArray];omega))
   ·exact .inr (Array.getElem?_eq_none (by rw [List.size_toArray];omega))
  refine wpAny_pyNext_zip_end (I.ok.hd hc) D s1 s2 s3 s4 s5 p1.isList p2.isList hend' fun h' k=>⟨rfl,?_⟩
  exact I.turnedK (t':=s.toks) (ch:=[z,TO,i1,i2]) (fun c hm=>hf c (by
   simp only [List.mem_cons,List.not_mem_nil,or_false] at hm ⊢
   rcases hm with r | r | r | r<;>simp [r])) fun c o hm e=>by
    simp only [List.mem_cons,List.not_mem_nil,or_false,not_or] at hm
    exact k c o hm.1 hm.2.1 hm.2.2.1 hm.2.2.2 e
 self:=fun _ _ _ _ _ st h=>wpAny_pyIter_zip st.1 h
def iZip (K:PySem.W.Frag) (ta:TA):TI:=fun σ H R=>ta σ H fun vs H1=>∃ a b xs ys,vs=[.ref a,.ref b]∧SqL K H1 a xs∧SqL K H1 b ys∧R (Itz K a b) H1
section
variable {X:Cx}
theorem gF {elts:List Expr}{k1:Nat}{tp:Pos}{a b:Expr}{ta:TA}{p pos:Pos} (hg:Gl X "zip") (hm:X.mg "zip"=none) (ha:PA X [a,b] ta)
  (hs:starEach [a,b] X.env=[(false,eval a X.env),(false,eval b X.env)]:=by rfl) (hs2:starEach [b] X.env=[(false,eval b X.env)]:=by rfl):PI X (.Tuple elts k1 tp) (.Call (.Name "zip" p) [a,b] [] pos) (iZip X.K ta):=by
 intro pins s σ H R I h
 refine Call_ (eT I hg hm boot_zip (PyProof.Rows.callWith_type1 (thn (ha pos pins s σ H _ I h) fun us s1 ⟨vs,H1,I1,r1,q1⟩=>?_) (by rw [hs,hs2]) (by rw [hs2];rfl)))
 obtain ⟨l1,l2,xs,ys,e,hq1,hq2,q⟩:=q1
 subst e
 obtain ⟨u1,u2,rfl,ru1,ru2⟩:=r1.two
 cases ru1
 cases ru2
 obtain ⟨its1,rv1,p1,z1⟩:=I1.list hq1
 obtain ⟨its2,rv2,p2,z2⟩:=I1.list hq2
 refine call_zip_2 p1.isList p2.isList fun h' a1 a2 a3 a4 a5 a6 a7=>?_
 refine wpAny_pyIter_zip (s:={ s1 with heap:=h' }) a1 ?_
 have big:∀ k:Nat,s1.heap.objs.size≤s1.heap.objs.size+k:=fun k=>Nat.le_add_right _ _
 refine ⟨_,[s1.heap.objs.size+4,s1.heap.objs.size+2,s1.heap.objs.size+3,s1.heap.objs.size,s1.heap.objs.size+1],_,_,H1,rfl,I1.kept (t':=s1.toks) fun c o e=>a7 c o e,
  turn_zip l1 l2 _ _ _ _ _ (by simp) (by simp) (by simp) (by simp) (by simp) (by simp) (by simp) (by simp) (by simp) (by simp),⟨a1,a2,⟨_,_,a3⟩,a4,a5⟩,?_,q⟩
 refine pB I1 (fun c hc=>I1.hok.fresh hc) fun c hc=>?_
 simp only [List.mem_cons,List.not_mem_nil,or_false] at hc
 rcases hc with r | r | r | r | r<;>rw [r]
 ·exact big 4
 ·exact big 2
 ·exact big 3
 ·exact Nat.le_refl _
 ·exact big 1
end
def rA (env:Env):List (Str×NameKind)→List (Str×Addr)→List (Str×Addr)
 | [],acc=>acc
 | (n,k)::r,acc=>rA env r (if k == .free then (n,(env.cells.lookup n).getD 0)::acc else acc)
theorem rq (env:Env):∀ (ns:List (Str×NameKind)) (acc:List (Str×Addr)),(∀ n,(n,NameKind.free)∈ns→∃ c,env.cells.lookup n=some c) →
  (forIn ns acc (fun (x:Str×NameKind) (cs:List (Str×Addr))=>(if (x.2 == NameKind.free)=true then (do let c ← cellOf env x.1;pure (ForInStep.yield ((x.1,c)::cs))) else pure (ForInStep.yield cs):Sem (ForInStep (List (Str×Addr))))))=(pure (rA env ns acc):Sem _)
 | [],acc,_=>rfl
 | (n,k)::r,acc,h=>by
  have ih:=rq env r (if k == .free then (n,(env.cells.lookup n).getD 0)::acc else acc) fun m hm=>h m (List.mem_cons_of_mem _ hm)
  rw [List.forIn_cons]
  cases hk:(k == NameKind.free) with
  | false =>
   simp only [hk,Bool.false_eq_true,if_false,pure_bind] at ih ⊢
   rw [ih]
   show _=(pure (rA env r (if (k == NameKind.free)=true then _ else acc)):Sem _)
   rw [hk]
   rfl
  | true =>
   have ek:k=.free:=by simpa using hk
   obtain ⟨c,e⟩:=h n (by rw [ek];exact List.mem_cons_self)
   have ec:cellOf env n=pure c:=by unfold cellOf;rw [e]
   simp only [hk,if_true,ec,pure_bind,e,Option.getD_some] at ih ⊢
   rw [ih]
   show _=(pure (rA env r (if (k == NameKind.free)=true then (n,(env.cells.lookup n).getD 0)::acc else acc)):Sem _)
   rw [hk,e]
   rfl
theorem oE (env:Env):∀ (ns:List (Str×NameKind)) (acc:List (Str×Addr)),(∀ n,(n,NameKind.free)∈ns→∃ c,env.cells.lookup n=some c)→(∀ p∈acc,env.cells.lookup p.1=some p.2)→∀ p∈rA env ns acc,env.cells.lookup p.1=some p.2
 | [],_,_,ha=>ha
 | (n,k)::r,acc,h,ha=>by
  refine oE env r _ (fun m hm=>h m (List.mem_cons_of_mem _ hm)) fun p hp=>?_
  cases hk:(k == NameKind.free) with
  | false =>
   rw [hk] at hp
   exact ha p hp
  | true =>
   have ek:k=.free:=by simpa using hk
   obtain ⟨c,e⟩:=h n (by rw [ek];exact List.mem_cons_self)
   rw [hk,e] at hp
   rcases List.mem_cons.mp hp with z | z
   ·rw [z]
    exact e
   ·exact ha p z
theorem kT (env:Env) {x:Str}:∀ (ns:List (Str×NameKind)) (acc:List (Str×Addr)),((x,NameKind.free)∈ns∨∃ c,(x,c)∈acc)→∃ c,(x,c)∈rA env ns acc
 | [],acc,h=>by
  rcases h with h | h
  ·cases h
  ·exact h
 | (n,k)::r,acc,h=>by
  refine kT env r _ ?_
  rcases h with h | ⟨c,h⟩
  ·rcases List.mem_cons.mp h with z | z
   ·cases z
    exact .inr ⟨_,List.mem_cons_self⟩
   ·exact .inl z
  ·refine .inr ⟨c,?_⟩
   split
   ·exact List.mem_cons_of_mem _ h
   ·exact h
theorem dJ {α:Type}{x:Str}:∀ {l:List (Str×α)}{c:α},(x,c)∈l→∃ d,l.lookup x=some d
 | (n,d)::r,c,h=>by
  by_cases e:x=n
  ·exact ⟨d,by rw [List.lookup_cons];simp [e]⟩
  ·have hb:(x == n)=false:=beq_eq_false_iff_ne.mpr e
   rcases List.mem_cons.mp h with z | z
   ·exact absurd (congrArg Prod.fst z) e
   ·obtain ⟨d',q⟩:=dJ z
    exact ⟨d',by rw [List.lookup_cons,hb];exact q⟩
def oC (N:List Str) (sc scope:Scope) (own:List Str) (caps:List (Str×Nat)):Bool :=
 decide (scope.kind=.function) && scope.names.all (fun y=>decide (y.2≠.cell)) && scope.names.all (fun y=>decide (y.2=.local→scope.names.lookup y.1=some .local)) &&
 scope.names.all (fun y=>decide (y.2=.free→(sc.names.lookup y.1=some .cell∨sc.names.lookup y.1=some .free))) &&
 caps.all (fun p=>decide (N[p.2]?=some p.1∧scope.names.lookup p.1=some .free)) && decide (own++caps.map (·.1)).Nodup
def cQ (X:Cx) (N:List Str) (scope:Scope) (C:Addr) (s₀:Shared) (H₀:Hp) (ex:List Addr):Cx :=
 { X with N:=N,s₀:=s₀,H₀:=H₀,env:=compEnvC scope (rA X.env scope.names []) C X.env,outer:=X.stack,stack:=X.stack,ex:=ex,fn:=fun _=>false,pn:=[],xe:=fun _ _=>False }
theorem ja {scope:Scope}{env:Env}{x:Str}{k:NameKind} (hc:∀ y∈scope.names,y.2≠.cell) (h:(relabel scope env).names.lookup x=some k) (hk:k=.cell∨k=.free):(x,NameKind.free)∈scope.names:=by
 have hm:=PySem.mem_of_lookup h
 obtain ⟨⟨n,k'⟩,h1,h2⟩:=List.mem_map.mp hm
 dsimp only at h2
 split at h2
 ·rename_i c
  have ek:k'=.free:=by
   simp only [Bool.and_eq_true] at c
   simpa using c.1.1
  cases h2
  rw [ek] at h1
  exact h1
 ·cases h2
  rcases hk with z | z
  ·exact absurd z (hc _ h1)
  ·rw [z] at h1
   exact h1
structure pI (N:List Str) (sc scope:Scope) (own:List Str) (caps:List (Str×Nat)):Prop where
 kind:scope.kind=.function
 nocell:∀ y∈scope.names,y.2≠.cell
 loc:∀ y∈scope.names,y.2=.local→scope.names.lookup y.1=some .local
 fre:∀ y∈scope.names,y.2=.free→(sc.names.lookup y.1=some .cell∨sc.names.lookup y.1=some .free)
 cap:∀ p∈caps,N[p.2]?=some p.1∧scope.names.lookup p.1=some .free
 nd:(own++caps.map (·.1)).Nodup
theorem oB {N:List Str}{sc scope:Scope}{own:List Str}{caps:List (Str×Nat)} (h:oC N sc scope own caps=true):pI N sc scope own caps:=by
 simp only [oC,Bool.and_eq_true,List.all_eq_true,decide_eq_true_eq] at h
 obtain ⟨⟨⟨⟨⟨h1,h2⟩,h3⟩,h4⟩,h5⟩,h6⟩:=h
 exact ⟨h1,h2,h3,h4,h5,h6⟩
def capV (caps:List (Str×Nat)) (σ:St):St:=caps.map fun p=>(σ[p.2]?).join
section
variable {X:Cx}{pins:List (Addr×Obj)}{σ:St}{H:Hp}{s:Shared}{scope:Scope}{own:List Str}{caps:List (Str×Nat)}{fp:List Addr}
theorem oA (ok:X.Ok) (S:pI X.N X.env.scope scope own caps):∀ n,(n,NameKind.free)∈scope.names→∃ c,X.env.cells.lookup n=some c:=fun n hn=>ok.has n (S.fre _ hn rfl)
theorem mw (ok:X.Ok) (S:pI X.N X.env.scope scope own caps):closureFor scope X.env=pure (rA X.env scope.names []):=by
 unfold closureFor
 have q:=rq X.env scope.names [] (oA ok S)
 show (forIn scope.names [] _ >>= fun r=>pure r)=_
 rw [bind_pure]
 exact q
theorem pF (ok:X.Ok) (S:pI X.N X.env.scope scope own caps) {x:Str}{c:Addr} (h:(rA X.env scope.names []).lookup x=some c):X.env.cells.lookup x=some c :=
 oE X.env scope.names [] (oA ok S) (fun _ z=>nomatch z) _ (PySem.mem_of_lookup h)
theorem comp_inv (I:Inv X pins σ H s) (S:pI X.N X.env.scope scope own caps) (hf:∀ b∈fp,mI X pins H b) (hb:∀ b∈fp,b<s.heap.objs.size) {C:Addr} (hC:s.heap.objs.size≤C) {h₁:Heap}{tk:Nat}{m:Str→Option Value}
  (hn:h₁.Ns C m) (kk:∀ b o,s.heap.get? b=some o→h₁.get? b=some o) :
  Inv (cQ X (own++caps.map (·.1)) scope C s H fp) [] (List.replicate own.length none++capV caps σ) H { s with heap:=h₁,toks:=tk }:=by
 have ok:=I.ok
 have cells:=fun {x:Str}{c:Addr}=>pF (x:=x) (c:=c) ok S
 have keepC:∀ {x:Str}{c:Addr}{v:Option Value},s.heap.IsCell c v→h₁.IsCell c v:=fun ⟨o,ho,hd⟩=>⟨o,kk _ _ ho,hd⟩
 refine ⟨⟨ok.mod,S.kind,ok.glob,ok.blt,hC,fun x y c h1 h2=>ok.inj x y c (cells h1) (cells h2),fun x hx=>?_,(fun x c hx=>nomatch hx),ok.hd,ok.frames,.inl rfl,fun b hb'=>⟨?_,fun x c e=>?_⟩,I.bs,Nat.le_trans ok.bsz I.sz,fun b o e hb'=>?_,fun b hb' hs=>?_,I.stack,I.stkFree⟩,
  rfl,I.bare,Un.kept kk,⟨m,hn,fun i x v e1 e2 e3=>?_⟩,fun x c e=>?_,I.hok.fresh hC,fun x c e=>I.freeC x c (cells e),(fun p hp=>nomatch hp),I.hok.kept kk,?_⟩
 ·have hm:(x,NameKind.free)∈scope.names:=by
   rcases hx with z | z
   ·exact ja S.nocell z (.inl rfl)
   ·exact ja S.nocell z (.inr rfl)
  obtain ⟨c,hc⟩:=kT X.env scope.names [] (.inl hm)
  exact dJ hc
 ·exact Nat.ne_of_lt (Nat.lt_of_lt_of_le (hb b hb') hC)
 ·exact (hf b hb').2.2.2.2.1 x c (cells e)
 ·rcases (hf b hb').2.2.2.1 with z | z
  ·exact ok.noex b o e z
  ·exact absurd (Nat.lt_of_lt_of_le (Heap.lt_size e) (Nat.le_trans ok.bsz z)) (Nat.lt_irrefl _)
 ·rcases List.mem_cons.mp (I.stkSub b hs) with z | z
  ·exact (hf b hb').2.1 z
  ·exact (hf b hb').2.2.1 z
 ·by_cases hi:i<own.length
  ·rw [List.getElem?_append_left (by rw [List.length_replicate];exact hi),List.getElem?_replicate,if_pos hi] at e2
   cases e2
  ·have hi':own.length≤i:=Nat.le_of_not_lt hi
   have e1:(own++caps.map (·.1))[i]?=some x:=e1
   rw [List.getElem?_append_right hi',List.getElem?_map] at e1
   rw [List.getElem?_append_right (by rw [List.length_replicate];exact hi'),List.length_replicate] at e2
   unfold capV at e2
   rw [List.getElem?_map] at e2
   cases ec:caps[i - own.length]? with
   | none=>rw [ec] at e1;cases e1
   | some p =>
    rw [ec] at e1 e2
    have ex:p.1=x:=Option.some.inj e1
    have ev:(σ[p.2]?).join=some v:=Option.some.inj e2
    have es:σ[p.2]?=some (some v):=by
     cases q:σ[p.2]? with
     | none=>rw [q] at ev;cases ev
     | some w'=>rw [q] at ev;exact congrArg some ev
    obtain ⟨c1,c2⟩:=S.cap p (List.mem_of_getElem? ec)
    rw [ex] at c1 c2
    have fm:(x,NameKind.free)∈scope.names:=PySem.mem_of_lookup c2
    have vis:Vis X.env.scope x:=by
     rcases S.fre _ fm rfl with z | z
     ·exact .inr (.inl z)
     ·exact .inr (.inr z)
    obtain ⟨m0,hn0,hl0⟩:=id I.loc
    obtain ⟨u,ru,lk⟩:=hl0 p.2 x v c1 es vis
    refine ⟨u,ru,.inr ⟨?_,?_⟩⟩
    ·have e3:Vis (relabel scope X.env) x:=e3
     rcases e3 with z | z | z
     ·exfalso
      have hm:=PySem.mem_of_lookup z
      obtain ⟨⟨n,k'⟩,h1,h2⟩:=List.mem_map.mp hm
      dsimp only at h2
      split at h2
      ·cases h2
      ·cases h2
       have:=S.loc _ h1 rfl
       rw [c2] at this
       cases this
     ·exact .inl z
     ·exact .inr z
    ·rcases lk with ⟨z,_⟩ | ⟨_,c,hc,hcell⟩
     ·exfalso
      have z:X.env.scope.names.lookup x=some .local:=z
      rcases S.fre _ fm rfl with z' | z'<;>rw [z] at z'<;>cases z'
     ·obtain ⟨c',hc'⟩:=kT X.env scope.names [] (.inl fm)
      obtain ⟨d,hd⟩:=dJ hc'
      have:=cells hd
      rw [hc] at this
      cases this
      exact ⟨c,hd,keepC (x:=x) hcell⟩
 ·obtain ⟨v,q⟩:=I.cell x c (cells e)
  exact ⟨v,keepC (x:=x) q⟩
 ·show (List.replicate own.length none++capV caps σ).length=(own++caps.map (·.1)).length
  unfold capV
  rw [List.length_append,List.length_append,List.length_replicate,List.length_map,List.length_map]
theorem rn (I:Inv X pins σ H s) (hf:∀ b∈fp,mI X pins H b) {C:Addr}{N:List Str}{σ':St}{H':Hp}{s':Shared}{pins':List (Addr×Obj)} (I':Inv (cQ X N scope C s H fp) pins' σ' H' s'):Inv X pins σ H' s' :=
 I.call' I'.os I'.base I'.hok I'.bare fun b hb=>⟨(hf b hb).2.2.2.1,(hf b hb).2.1,(hf b hb).2.2.2.2.1,(hf b hb).2.2.2.2.2⟩
end
def PTs (X:Cx) (ifs:List Expr) (t:TT):Prop :=
 ∀ (pins:List (Addr×Obj)) (s:Shared) (σ:St) (H:Hp) (Q:Bool→Hp→Prop),Inv X pins σ H s→t σ H Q →
  wpAny (model X.prog X.w) X.A (forIn ifs true fun c r=>if r=true then do let ok ← isTrue c X.env (eval c X.env);pure (ForInStep.yield ok) else pure (ForInStep.yield r)) (TP X pins σ Q) X.xe s
def tYes:TT:=fun _ H Q=>Q true H
theorem aZ {X:Cx}:PTs X [] tYes:=fun _ _ _ H _ I h=>wpAny_tests_nil ⟨H,I,h⟩
theorem mZ {X:Cx}{c:Expr}{t:TT} (h:PT X c t):PTs X [c] t:=fun pins s σ H Q I q=>wpAny_tests_one (h pins s σ H Q I q)
theorem rm {prog:Program}{w:World}{A:Around}{elt tg iter:Expr}{ifs:List Expr}{scope:Scope}{pos:Pos}{it acc:Value}{env:Env}{R:Result→Shared→Prop}{s:Shared} (J:Nat→Shared→Prop)
  (turn:∀ n s,J n s→wpAny (model prog w) A (pyNext it) (fun r s₁=>match r with
   | none=>R (.ok .next) s₁
   | some v=>wpAny (model prog w) A (letOwnedTupleGo tg it v) (fun _ s₂=>wpAny (model prog w) A (assign tg env v) (fun _ s₃ =>
     wpAny (model prog w) A (forIn ifs true fun c r=>if r=true then do let ok ← isTrue c env (eval c env);pure (ForInStep.yield ok) else pure (ForInStep.yield r)) (fun ok s₄ =>
      if ok=true then wpAny (model prog w) A (eval elt env) (fun x s₅=>wpAny (model prog w) A (call (.builtin "list.append") [acc,x]) (fun _ s₆=>∃ m,m<n∧J m s₆) (fun _ _=>False) s₅) (fun _ _=>False) s₄
      else ∃ m,m<n∧J m s₄) (fun _ _=>False) s₃) (fun _ _=>False) s₂) (fun _ _=>False) s₁) (fun _ _=>False) s)
  (n:Nat) (h:J n s):codeAny (model prog w) A (.compLoop (.ListComp elt [⟨tg,iter,ifs,0⟩] scope pos) 0 it acc env) R s:=by
 refine codeAny_loop rfl J (fun n s hJ=>?_) n h
 refine wpAny_noted (m:=compTurn (.ListComp elt [⟨tg,iter,ifs,0⟩] scope pos) 0 it acc env) ?_
 rw [compTurn_list]
 have ff:∀ {E:Value→Shared→Prop} (e:Value) (s':Shared),False→E e s':=fun _ _ f=>f.elim
 refine wpAny_bind (wpAny_standAt (wpAny_bind (wpAny_mono (turn n s hJ) (fun r s₁ h₁=>?_) ff)))
 cases r with
 | none=>exact wpAny_pure h₁
 | some v =>
  refine wpAny_bind (wpAny_mono h₁ (fun _ s₂ h₂=>?_) ff)
  refine wpAny_bind (wpAny_mono h₂ (fun _ s₃ h₃=>wpAny_bind (wpAny_mono h₃ (fun b s₄ h₄=>?_) ff)) ff)
  cases b with
  | false=>exact wpAny_pure ⟨rfl,h₄⟩
  | true =>
   refine wpAny_bind (wpAny_bind (wpAny_mono h₄ (fun x s₅ h₅=>wpAny_bind (wpAny_mono h₅ (fun _ s₆ h₆=>?_) ff)) ff))
   exact wpAny_pure (wpAny_pure ⟨rfl,h₆⟩)
def iZ (k:Nat) (J:It) (g:TG) (tt:TT) (te:TE) (tl:St) (D:Addr) (Q:Hp→Prop) (W:Nat→Nat→List V→Hp→Prop):Prop :=
 ∀ i m ys H,W i m ys H→H D=some (.lst ys)→(J.stop i H∧Q H) ∨
  (J.go i H∧∃ N:List V→Hp→Prop,(∀ ys' H',N ys' H'→∃ m',m'<m∧W (i+1) m' ys' H')∧∀ x H1,J.yld i H x H1→g x (List.replicate k none++tl) H1 fun σ2 H2=>(σ2.length=k+tl.length∧σ2.drop k=tl) ∧
   tt σ2 H2 fun b H3=>if b=true then te σ2 H3 fun v H4=>H4 D=some (.lst ys)∧ys.length<sizeLine∧N (ys++[v]) (upd H4 D (.lst (ys++[v])))
    else H3 D=some (.lst ys)∧N ys H3)
def tComp (own:List Str) (caps:List (Str×Nat)) (wi:TI) (g:TG) (tt:TT) (te:TE):TE:=fun σ H Q=>wi σ H fun J H1=>∀ D,H1 D=none →
 ∃ W:Nat→Nat→List V→Hp→Prop,(∃ m,W 0 m [] (upd H1 D (.lst [])))∧iZ own.length J g tt te (capV caps σ) D (fun H'=>Q (.ref D) H') W
section
variable {X:Cx}{tg iter elt:Expr}{ifs:List Expr}{scope:Scope}{pos:Pos}{own:List Str}{caps:List (Str×Nat)}{wi:TI}{g:TG}{tt:TT}{te:TE}
theorem jV (S:pI X.N X.env.scope scope own caps) (hc:X.calm=true)
  (hg:∀ C s₀ H₀ ex,PG (cQ X (own++caps.map (·.1)) scope C s₀ H₀ ex) tg g) (ht:∀ C s₀ H₀ ex,PTs (cQ X (own++caps.map (·.1)) scope C s₀ H₀ ex) ifs tt) (he:∀ C s₀ H₀ ex,PE (cQ X (own++caps.map (·.1)) scope C s₀ H₀ ex) elt te)
  {pins:List (Addr×Obj)}{σ:St}{H:Hp}{s:Shared} (I:Inv X pins σ H s) {it:Addr}{fp:List Addr}{tn:Nat→Heap→Prop}{J:It} (T:Turn X.prog X.w X.K tg J fp it tn) (st:tn 0 s.heap) (hf:∀ b∈fp,mI X pins H b) {Q:VK}
  (hR:∀ D,H D=none→∃ W:Nat→Nat→List V→Hp→Prop,(∃ m,W 0 m [] (upd H D (.lst [])))∧iZ own.length J g tt te (capV caps σ) D (fun H'=>Q (.ref D) H') W)
  {RR:Value→Addr→Result→Shared→Prop}{E:Value→Shared→Prop}
  (hRR:∀ D C m H' s',Inv X pins σ H' s'→s'.heap.Ns C m→mI X pins H' C→Q (.ref D) H'→RR (.ref D) C (.ok .next) s') :
  wpAny (model X.prog X.w) X.A (newList []) (fun acc s₃=>wpAny (model X.prog X.w) X.A (newFunctionEnv scope X.env.globals (rA X.env scope.names []) [] X.env.qual none .none (some X.env)) (fun cenv s₄ =>
   codeAny (model X.prog X.w) X.A (.compStart (.ListComp elt [⟨tg,iter,ifs,0⟩] scope pos) 0 (.ref it) acc { cenv with scope:=relabel scope X.env }) (RR acc cenv.locals) s₄) E s₃) E s:=by
 refine wpAny_newObj_type (wpAny_newFunctionEnv S.nocell (fun y hy=>nomatch hy) (fun h₁ hns hsb=>?_) S.kind)
 have I3:Inv X pins σ (upd H s.heap.objs.size (.lst [])) { s with heap:=s.heap.push { cls:=.type "list",data:=.seq ([]:List Value).toArray },toks:=s.toks }:=I.lnew (ys:=[]) (its:=[]) .nil (Nat.zero_le _)
 have hob:=T.obj 0 _ st
 have hlt:∀ b∈fp,b<s.heap.objs.size:=fun b hb=>let ⟨o,e,_⟩:=hob b hb;Heap.lt_size e
 have hf3:∀ b∈fp,mI X pins (upd H s.heap.objs.size (.lst [])) b:=fun b hb=>⟨by rw [aB (Nat.ne_of_lt (hlt b hb))];exact (hf b hb).1,(hf b hb).2⟩
 have hlt3:∀ b∈fp,b<(s.heap.push { cls:=.type "list",data:=.seq ([]:List Value).toArray }).objs.size:=fun b hb=>by rw [Heap.size_push];exact Nat.lt_succ_of_lt (hlt b hb)
 generalize hD:s.heap.objs.size=D at I3 hf3
 generalize hs3:s.heap.push { cls:=.type "list",data:=.seq ([]:List Value).toArray }=h3 at I3 hlt3 hns hsb
 have kk:∀ b o,h3.get? b=some o→h₁.get? b=some o:=fun b o e=>(hsb.2 b (Nat.ne_of_lt (Heap.lt_size e))).trans (Heap.get?_push_of_some _ e)
 have st1:tn 0 h₁:=T.keep _ _ _ st fun b hb o e=>kk b o (by rw [← hs3];exact Heap.get?_push_of_some _ e)
 obtain ⟨W,⟨m0,w0⟩,turn⟩:=hR D (by rw [← hD];exact I.fresh)
 have I4:=comp_inv (tk:=s.toks+0) I3 S hf3 hlt3 (Nat.le_refl _) hns kk
 have frp:∀ b∈fp,(upd H D (.lst [])) b=none:=fun b hb=>(hf3 b hb).1
 have loop:codeAny (model X.prog X.w) X.A (.compLoop (.ListComp elt [⟨tg,iter,ifs,0⟩] scope pos) 0 (.ref it) (.ref D) (compEnvC scope (rA X.env scope.names []) h3.objs.size X.env)) (RR (.ref D) h3.objs.size) { s with heap:=h₁,toks:=s.toks+0 }:=by
  refine rm (fun n s'=>∃ i ys H',Inv (cQ X (own++caps.map (·.1)) scope h3.objs.size { s with heap:=h3,toks:=s.toks } (upd H D (.lst [])) fp) [] (List.replicate own.length none++capV caps σ) H' s'∧tn i s'.heap∧(∀ b∈fp,H' b=none)∧H' D=some (.lst ys)∧W i n ys H') ?_ m0
   ⟨0,[],_,I4,st1,frp,upd_same,w0⟩
  rintro n s5 ⟨i,ys,H5,I5,st5,fr5,hD5,w5⟩
  have stat:∀ {H':Hp},(∀ b∈fp,H' b=none)→∀ b∈fp,mI (cQ X (own++caps.map (·.1)) scope h3.objs.size { s with heap:=h3,toks:=s.toks } (upd H D (.lst [])) fp) [] H' b:=fun hn b hb =>
   ⟨hn b hb,(I4.ok.exf b hb).1,I4.ok.exfs b hb,.inl hb,(I4.ok.exf b hb).2,fun p hp=>nomatch hp⟩
  rcases turn i n ys H5 w5 hD5 with ⟨stop,qn⟩ | ⟨go,N,hN,step⟩
  ·refine thn (T.done (cQ X (own++caps.map (·.1)) scope h3.objs.size { s with heap:=h3,toks:=s.toks } (upd H D (.lst [])) fp) rfl rfl rfl hc i [] s5 _ H5 _ I5 (stat fr5) st5 stop) fun r s6 ⟨hr,I6⟩=>?_
   subst hr
   obtain ⟨m6,hn6,_⟩:=id I6.loc
   exact hRR D _ m6 H5 s6 (rn I3 hf3 I6) hn6 (I3.fpOk (Nat.le_refl _) I6.free) qn
  ·refine thn (T.item (cQ X (own++caps.map (·.1)) scope h3.objs.size { s with heap:=h3,toks:=s.toks } (upd H D (.lst [])) fp) rfl rfl rfl hc i [] s5 _ H5 _ I5 (stat fr5) st5 go) fun r s6 ⟨u,hr,h6⟩=>?_
   subst hr
   refine thn h6 fun _ s7 ⟨x,H7,I7,r7,y7,st7,fr7⟩=>?_
   have I7':=I7.pinned (stat fr7) (T.obj _ _ st7)
   refine thn (hg _ _ _ _ _ s7 _ H7 x u _ I7' r7 (step x H7 y7)) fun _ s8 ⟨σ8,H8,I8,⟨hl8,hd8⟩,q8⟩=>?_
   have again:∀ {H9:Hp}{s9:Shared}{ys9:List V},Inv (cQ X (own++caps.map (·.1)) scope h3.objs.size { s with heap:=h3,toks:=s.toks } (upd H D (.lst [])) fp) ([]++lR fp s7.heap) σ8 H9 s9→H9 D=some (.lst ys9)→N ys9 H9 →
     ∃ m,m<n∧∃ i ys H',Inv (cQ X (own++caps.map (·.1)) scope h3.objs.size { s with heap:=h3,toks:=s.toks } (upd H D (.lst [])) fp) [] (List.replicate own.length none++capV caps σ) H' s9∧tn i s9.heap∧(∀ b∈fp,H' b=none)∧H' D=some (.lst ys)∧W i m ys H':=fun {H9 s9 ys9} I9 d9 w9=>by
    obtain ⟨m',hm,w9⟩:=hN _ _ w9
    have pin:=fun b (hb:b∈fp) o (e:s7.heap.get? b=some o)=>I9.pin (b,o) (List.mem_append_right _ (List.mem_append_right _ (ig hb e)))
    refine ⟨m',hm,i+1,ys9,H9,(I9.unpinned (pins:=[])).weak ?_ fun j v e=>?_,T.keep _ _ _ st7 fun b hb o e=>(pin b hb o e).1,fun b hb=>?_,d9,w9⟩
    ·rw [hl8,List.length_append,List.length_replicate]
    ·by_cases hj:j<own.length
     ·rw [List.getElem?_append_left (by rw [List.length_replicate];exact hj),List.getElem?_replicate,if_pos hj] at e
      cases e
     ·rw [List.getElem?_append_right (by rw [List.length_replicate];exact Nat.le_of_not_lt hj),List.length_replicate,← hd8,List.getElem?_drop] at e
      rw [show own.length+(j - own.length)=j by omega] at e
      exact e
    ·obtain ⟨o,e,d⟩:=T.obj _ _ st7 b hb
     exact (pin b hb o e).2.1
   refine thn (ht _ _ _ _ _ s8 σ8 H8 _ I8 q8) fun b s9 ⟨H9,I9,q9⟩=>?_
   cases b with
   | false =>
    rw [if_neg Bool.false_ne_true] at q9 ⊢
    exact again I9 q9.1 q9.2
   | true =>
    rw [if_pos rfl] at q9 ⊢
    refine thn (he _ _ _ _ _ s9 σ8 H9 _ I9 q9) fun v s10 ⟨y,H10,I10,r10,d10,z10,w10⟩=>?_
    refine thn (br _ s10 σ8 H10 (.ref D) [y] (.ref D) [v] (fun _ H'=>H'=upd H10 D (.lst (ys++[y]))) I10 rfl (.cons r10 .nil) ⟨D,ys,y,rfl,rfl,d10,z10,rfl⟩) fun _ s11 ⟨_,H11,I11,_,e11⟩=>?_
    subst e11
    exact again I11 upd_same w10
 have e0:({ s with heap:=h₁,toks:=s.toks+([]:List (Str×Value)).length }:Shared)={ s with heap:=h₁,toks:=s.toks+0 }:=rfl
 exact codeAny_compStart_list loop (T.self _ 0 _ _ _ st1 loop)
theorem bt (own:List Str) (caps:List (Str×Nat)) (hi:PI X tg iter wi) (hc:X.calm=true)
  (hg:∀ C s₀ H₀ ex,PG (cQ X (own++caps.map (·.1)) scope C s₀ H₀ ex) tg g) (ht:∀ C s₀ H₀ ex,PTs (cQ X (own++caps.map (·.1)) scope C s₀ H₀ ex) ifs tt) (he:∀ C s₀ H₀ ex,PE (cQ X (own++caps.map (·.1)) scope C s₀ H₀ ex) elt te)
  (hS:oC X.N X.env.scope scope own caps=true:=by kernel_rfl) (hs:∀ x,foldedSetIterable iter X.env x=pure x:=by intro _;rfl) :
  PE X (.ListComp elt [⟨tg,iter,ifs,0⟩] scope pos) (tComp own caps wi g tt te):=by
 intro pins s σ H Q I h
 have S:=oB hS
 rw [eval_ListComp]
 refine wpAny_comprehension_free (use:=none) rfl hs (mw I.ok S) S.kind S.loc (thn (hi pins s σ H _ I h) fun v s1 h1=>thn h1 fun itv s2 h2=>?_)
 obtain ⟨it,fp,tn,J,H2,e,I2,T,st2,f2,hR⟩:=h2
 subst e
 refine jV S hc hg ht he I2 T st2 f2 (Q:=Q) hR fun D C m H' s' I' hn hC q=>?_
 refine ⟨m,hn,fun h' hs'=>?_⟩
 exact ⟨.ref D,H',I'.turnedK (t':=s'.toks) (ch:=[C]) (fun b hb=>by rw [show b=C by simpa using hb];exact hC) fun b o hb e=>(hs'.2 b (by simpa using hb)).trans e,rfl,q⟩
theorem bD {y:Str}{py spos:Pos} (j:Nat) (own:List Str) (caps:List (Str×Nat)) (hN:X.N.Nodup) (hi:PI X tg iter wi) (hc:X.calm=true)
  (hg:∀ C s₀ H₀ ex,PG (cQ X (own++caps.map (·.1)) scope C s₀ H₀ ex) tg g) (ht:∀ C s₀ H₀ ex,PTs (cQ X (own++caps.map (·.1)) scope C s₀ H₀ ex) ifs tt) (he:∀ C s₀ H₀ ex,PE (cQ X (own++caps.map (·.1)) scope C s₀ H₀ ex) elt te)
  (hj:X.N[j]?=some y:=by rfl) (hy:Loc X.env.scope y:=by first | exact Or.inl rfl | exact Or.inr rfl)
  (hsw:swapsWith (.ListComp elt [⟨tg,iter,ifs,0⟩] scope pos) (some (.Name y py)) spos.line X.env=pure true:=by rfl)
  (hS:oC X.N X.env.scope scope own caps=true:=by kernel_rfl) (hs:∀ x,foldedSetIterable iter X.env x=pure x:=by intro _;rfl) (hf:X.fn y=true∨X.env.scope.names.lookup y=some .local:=by first | exact .inl rfl | exact .inr rfl) :
  PS X (.Assign [.Name y py] (.ListComp elt [⟨tg,iter,ifs,0⟩] scope pos) spos) (tAsg (tComp own caps wi g tt te) (gName j)):=by
 intro pins s σ H D0 I h
 have S:=oB hS
 rw [exec_Assign_Name_used _ _ _ _ hsw]
 refine wpAny_bind (wpAny_standAt (wpAny_bind ?_))
 refine wpAny_mono (t:=do let _ ← comprehension (.ListComp elt [⟨tg,iter,ifs,0⟩] scope pos) scope X.env (firstIterPos [⟨tg,iter,ifs,0⟩] pos) (newList []) false (eval iter X.env) (some (assign (.Name y py) X.env))) (Q:=fun _ s'=>SP X pins D0 .next s') ?_ (fun _ s' q=>wpAny_pure q) fun _ _ q=>q
 refine wpAny_bind (wpAny_mono (wpAny_comprehension_free (use:=some (assign (.Name y py) X.env)) (Q:=fun _ s'=>SP X pins D0 .next s') rfl hs (mw I.ok S) S.kind S.loc
  (thn (hi pins s σ H _ I h) fun v s1 h1=>thn h1 fun itv s2 h2=>?_)) (fun _ s' q=>wpAny_pure q) fun _ _ q=>q)
 obtain ⟨it,fp,tn,J,H2,e,I2,T,st2,f2,hR⟩:=h2
 subst e
 refine jV S hc hg ht he I2 T st2 f2 (Q:=fun x H1=>gName j x σ H1 D0.nx) hR fun D C m H' s' I' hn hC q=>?_
 refine wpAny_assign_Name (lr I' hN hj hy (v:=.ref D) (u:=.ref D) rfl (fun s5 I5 ⟨a,sb,ha⟩=>?_) hf)
 have hCa:C≠a:=by
  rcases ha with z | z
  ·rw [z];exact hC.2.1
  ·exact fun e=>hC.2.2.2.2.1 y a z e.symm
 refine ⟨m,hn.sameBut sb hCa,fun h' hs'=>?_⟩
 refine ⟨_,H',I5.turnedK (t':=s5.toks) (ch:=[C]) (fun b hb=>by rw [show b=C by simpa using hb];exact hC) fun b o hb e=>(hs'.2 b (by simpa using hb)).trans e,q⟩
end
end L2
namespace L2
open PySem PySem.Spec PyProof.Rows
def Ok (P:Program) (w:World) (K:PySem.W.Frag) (mg:Str→Option Value) (base:Heap) (CX:CXT) (k:Nat) (x:Str) (ps:List Str) (sp:Sp):Prop :=
 ∃ f fd,iU P w K mg base CX k f fd ps sp∧Binds K fd ps []∧PySem.W.keepIn K (.ref f)=true∧mg x=some (.ref f)
def Src (K:PySem.W.Frag) (mg:Str→Option Value) (x qual:Str) (st:Stmt) (ps:List Str):Prop:=∃ f fd,Fun K x qual st f fd∧Binds K fd ps []∧mg x=some (.ref f)
section
variable {P : Program} {w : World} {K : PySem.W.Frag} {mg : Str → Option Value} {base : Heap}
theorem Src.ok {x qual:Str}{st:Stmt}{N ps:List Str}{k:Nat}{sp:Sp} (F:Src K mg x qual st ps) (S:az N ps (ao st)) (len:∀ vs H Q E,sp vs H Q E→vs.length=ps.length)
  (hbody:∀ (f:Addr) (cdv:Value) (A:Around) (outer:List Env) (s:Shared) (H:Hp) (vs:List V) (Q:VK) (E:XK),Room k (A.deeper (envOfC qual (ao st) s.heap.objs.size f cdv))→sp vs H Q E →
   ∃ t,PSs (iM CX0 P w K mg base N qual (ao st) f cdv A outer s H E).nox (ip st) t∧t { nx:=fun _ H'=>Q .non H',rt:=Q } (start N vs) H):Ok P w K mg base CX0 (k+1) x ps sp:=by
 obtain ⟨f,fd,F,b,m⟩:=F
 exact ⟨f,fd,F.ok S len fun cdv A outer s H vs Q E hr hsp=>hbody f cdv A outer s H vs Q E hr hsp,b,F.kp,m⟩
def MkOk (P:Program) (w:World) (K:PySem.W.Frag) (mg:Str→Option Value) (base:Heap) (CX:CXT) (k:Nat) (x:Str) (C:Addr) (ps:List Str) (sp:Sp):Prop :=
 ∃ f fd,Mk K C f∧iU P w K mg base CX k f fd ps sp∧Binds K fd ps []∧mg x=some (.ref C)
end
section
variable {X:Cx}{CX:CXT}{k j:Nat}{x:Str}{p pos:Pos}{e:Expr}{es:List Expr}{t:TA}{ps:List Str}{sp:Sp}{C:Addr}
theorem ak (O:Ok X.prog X.w X.K X.mg X.base CX0 k x ps sp) (hr:Room j X.A) (hg:Gl X x) (ha:PA X (e::es) t) (hle:k≤j:=by decide) (hdb:(x == ("__debug__":Str))=false:=by decide)
  (he:starEach (e::es) X.env=(false,eval e X.env)::starEach es X.env:=by rfl) (hpl:(backTo pos (starEach es X.env)).any (·.1)=false:=by rfl):PE X (.Call (.Name x p) (e::es) [] pos) (tCall sp [] E0 t):=by
 obtain ⟨f,fd,F,b,kp,m⟩:=O
 exact ql F (hr.mono hle) hg m kp b .nil pass0 ha hdb he hpl
theorem kI (O:MkOk X.prog X.w X.K X.mg X.base CX0 k x C ps sp) (hr:Room j X.A) (hg:Gl X x) (ha:PA X (e::es) t) (hle:k+1≤j:=by decide) (hdb:(x == ("__debug__":Str))=false:=by decide)
  (he:starEach (e::es) X.env=(false,eval e X.env)::starEach es X.env:=by rfl) (hpl:(backTo pos (starEach es X.env)).any (·.1)=false:=by rfl):PE X (.Call (.Name x p) (e::es) [] pos) (tMake C sp [] E0 t):=by
 obtain ⟨f,fd,M,F,b,m⟩:=O
 exact pe_make M F (hr.mono hle) hg m b .nil pass0 ha hdb he hpl
end
section
variable {X:Cx}
theorem op_eqL (hu:X.A.units+64<cLine):OpR X (compareOp .Eq) (fun x y H Q=>∃ (a b:Addr) (ns ms:List Int),x=.ref a∧y=.ref b∧SqL X.K H a (ns.map V.int)∧SqL X.K H b (ms.map V.int)∧Q (.bl (decide (ns=ms))) H):=by
 intro pins s σ H x y v u Q I rx ry h
 obtain ⟨a,b,ns,ms,rfl,rfl,ha,hb,q⟩:=h
 cases rx
 cases ry
 obtain ⟨i1,r1,p1,z1⟩:=I.list ha
 obtain ⟨i2,r2,p2,z2⟩:=I.list hb
 exact PySem.W.ke_eq_ints p1.isList p2.isList (dk r1) (dk r2) hu ⟨.bl _,H,I,rfl,q⟩
theorem n9 (hu:X.A.units+64<cLine):OpR X (compareOp .NotEq) (fun x y H Q=>∃ (a b:Addr) (ns ms:List Int),x=.ref a∧y=.ref b∧SqL X.K H a (ns.map V.int)∧SqL X.K H b (ms.map V.int)∧Q (.bl (!decide (ns=ms))) H):=by
 intro pins s σ H x y v u Q I rx ry h
 obtain ⟨a,b,ns,ms,rfl,rfl,ha,hb,q⟩:=h
 cases rx
 cases ry
 obtain ⟨i1,r1,p1,z1⟩:=I.list ha
 obtain ⟨i2,r2,p2,z2⟩:=I.list hb
 exact PySem.W.ke_ne_ints p1.isList p2.isList (dk r1) (dk r2) hu ⟨.bl _,H,I,rfl,q⟩
end
theorem for_rev {K:PySem.W.Frag}{a:Addr}{xs:List V}{g:TG}{tb:TS}{D:oI}{σ:St}{H:Hp} (Pv:Nat→St→Hp→Prop) (h0:Pv 0 σ H) (hl:∀ i σ H,i≤xs.length→Pv i σ H→SqL K H a xs)
  (hs:∀ i x σ H,xs[xs.length - 1 - i]?=some x→i<xs.length→Pv i σ H→g x σ H fun σ2 H2=>tb { D with nx:=Pv (i+1),ct:=Pv (i+1),bk:=D.nx } σ2 H2) (hd:∀ σ H,Pv xs.length σ H→D.nx σ H) :
  ∃ W:Nat→Nat→St→Hp→Prop,(∃ m,W 0 m σ H)∧∀ i m σ H,W i m σ H →
   ((rM K a xs.length).stop i H∧D.nx σ H)∨((rM K a xs.length).go i H∧∃ N:St→Hp→Prop,(∀ σ' H',N σ' H'→∃ m',m'<m∧W (i+1) m' σ' H')∧∀ x H',(rM K a xs.length).yld i H x H'→g x σ H' fun σ2 H2=>tb { D with nx:=N,ct:=N,bk:=D.nx } σ2 H2):=by
 refine ⟨fun i m σ H=>m=xs.length - i∧i≤xs.length∧Pv i σ H,⟨xs.length,by simp,Nat.zero_le _,h0⟩,?_⟩
 rintro i m σ H ⟨rfl,hi,p⟩
 by_cases hlt:i<xs.length
 ·refine .inr ⟨⟨hlt,xs,hl i σ H hi p,rfl⟩,Pv (i+1),fun σ' H' p'=>⟨xs.length - (i+1),by omega,rfl,hlt,p'⟩,fun x H' y=>?_⟩
  obtain ⟨e,y⟩:=y
  subst e
  exact hs i x σ _ (y xs (hl i σ _ hi p) rfl) hlt p
 ·have e:i=xs.length:=by omega
  exact .inl ⟨e,hd σ H (by rw [← e];exact p)⟩
theorem bS {k:Nat}{lo:Int}{n:Nat}{g:TG}{tt:TT}{te:TE}{tl:St}{D:Addr}{Q:Hp→Prop}{H0:Hp} (Pv:Nat→List V→Hp→Prop) (h0:Pv 0 [] (upd H0 D (.lst [])))
  (hs:∀ i ys H,i<n→Pv i ys H→H D=some (.lst ys)→g (.int (lo+i)) (List.replicate k none++tl) H fun σ2 H2=>(σ2.length=k+tl.length∧σ2.drop k=tl) ∧
   tt σ2 H2 fun b H3=>if b=true then te σ2 H3 fun v H4=>H4 D=some (.lst ys)∧ys.length<sizeLine∧Pv (i+1) (ys++[v]) (upd H4 D (.lst (ys++[v]))) else H3 D=some (.lst ys)∧Pv (i+1) ys H3)
  (hd:∀ ys H,Pv n ys H→H D=some (.lst ys)→Q H) :
  ∃ W:Nat→Nat→List V→Hp→Prop,(∃ m,W 0 m [] (upd H0 D (.lst [])))∧iZ k (Itr lo n) g tt te tl D Q W:=by
 refine ⟨fun i m ys H=>m=n - i∧i≤n∧Pv i ys H,⟨n,by simp,Nat.zero_le _,h0⟩,?_⟩
 rintro i m ys H ⟨rfl,hi,p⟩ hD
 by_cases hlt:i<n
 ·refine .inr ⟨hlt,Pv (i+1),fun ys' H' q=>⟨n - (i+1),by omega,rfl,hlt,q⟩,fun x H1 y=>?_⟩
  obtain ⟨e,y⟩:=y
  subst e y
  exact hs i ys _ hlt p hD
 ·have e:i=n:=by omega
  exact .inl ⟨Nat.le_of_not_lt hlt,hd ys H (by rw [← e];exact p) hD⟩
theorem bv {K:PySem.W.Frag}{a:Addr}{xs:List V}{k:Nat}{g:TG}{tt:TT}{te:TE}{tl:St}{D:Addr}{Q:Hp→Prop}{H0:Hp} (Pv:Nat→List V→Hp→Prop) (h0:Pv 0 [] (upd H0 D (.lst []))) (hl:∀ i ys H,i≤xs.length→Pv i ys H→SqL K H a xs)
  (hs:∀ i x ys H,xs[i]?=some x→Pv i ys H→H D=some (.lst ys)→g x (List.replicate k none++tl) H fun σ2 H2=>(σ2.length=k+tl.length∧σ2.drop k=tl) ∧
   tt σ2 H2 fun b H3=>if b=true then te σ2 H3 fun v H4=>H4 D=some (.lst ys)∧ys.length<sizeLine∧Pv (i+1) (ys++[v]) (upd H4 D (.lst (ys++[v]))) else H3 D=some (.lst ys)∧Pv (i+1) ys H3)
  (hd:∀ ys H,Pv xs.length ys H→H D=some (.lst ys)→Q H) :
  ∃ W:Nat→Nat→List V→Hp→Prop,(∃ m,W 0 m [] (upd H0 D (.lst [])))∧iZ k (Itl K a) g tt te tl D Q W:=by
 refine ⟨fun i m ys H=>m=xs.length - i∧i≤xs.length∧Pv i ys H,⟨xs.length,by simp,Nat.zero_le _,h0⟩,?_⟩
 rintro i m ys H ⟨rfl,hi,p⟩ hD
 have q:=hl i ys H hi p
 by_cases hlt:i<xs.length
 ·refine .inr ⟨⟨xs,xs[i],q,by simp [hlt]⟩,Pv (i+1),fun ys' H' q'=>⟨xs.length - (i+1),by omega,rfl,hlt,q'⟩,fun x H1 y=>?_⟩
  obtain ⟨e,y⟩:=y
  subst e
  exact hs i x ys _ (y xs q) p hD
 ·have e:i=xs.length:=by omega
  subst e
  exact .inl ⟨⟨xs,q,Nat.le_refl _⟩,hd ys H p hD⟩
theorem dC {K:PySem.W.Frag}{a b:Addr}{xs zs:List V}{k:Nat}{g:TG}{tt:TT}{te:TE}{tl:St}{D:Addr}{Q:Hp→Prop}{H0:Hp} (Pv:Nat→List V→Hp→Prop) (h0:Pv 0 [] (upd H0 D (.lst []))) (hl:∀ i ys H,Pv i ys H→SqL K H a xs∧SqL K H b zs)
  (hs:∀ i x z ys H p,xs[i]?=some x→zs[i]?=some z→Pv i ys H→H D=some (.lst ys)→H p=none→g (.ref p) (List.replicate k none++tl) (upd H p (.tup [x,z])) fun σ2 H2=>(σ2.length=k+tl.length∧σ2.drop k=tl) ∧
   tt σ2 H2 fun b H3=>if b=true then te σ2 H3 fun v H4=>H4 D=some (.lst ys)∧ys.length<sizeLine∧Pv (i+1) (ys++[v]) (upd H4 D (.lst (ys++[v]))) else H3 D=some (.lst ys)∧Pv (i+1) ys H3)
  (hd:∀ ys H,Pv (min xs.length zs.length) ys H→H D=some (.lst ys)→Q H) :
  ∃ W:Nat→Nat→List V→Hp→Prop,(∃ m,W 0 m [] (upd H0 D (.lst [])))∧iZ k (Itz K a b) g tt te tl D Q W:=by
 refine ⟨fun i m ys H=>m=min xs.length zs.length - i∧i≤min xs.length zs.length∧Pv i ys H,⟨min xs.length zs.length,by simp,Nat.zero_le _,h0⟩,?_⟩
 rintro i m ys H ⟨rfl,hi,p⟩ hD
 obtain ⟨q1,q2⟩:=hl i ys H p
 by_cases hlt:i<min xs.length zs.length
 ·have h1:i<xs.length:=by omega
  have h2:i<zs.length:=by omega
  refine .inr ⟨⟨xs,zs,xs[i],zs[i],q1,q2,by simp [h1],by simp [h2]⟩,Pv (i+1),fun ys' H' q'=>⟨min xs.length zs.length - (i+1),by omega,rfl,hlt,q'⟩,fun x H1 y=>?_⟩
  obtain ⟨c,hc,e,y⟩:=y
  have e1:=y xs zs xs[i] zs[i] q1 q2 (by simp [h1]) (by simp [h2])
  subst e e1
  exact hs i xs[i] zs[i] ys H c (by simp [h1]) (by simp [h2]) p hD hc
 ·have e:i=min xs.length zs.length:=by omega
  refine .inl ⟨⟨xs,zs,q1,q2,?_⟩,hd ys H (by rw [← e];exact p) hD⟩
  omega
theorem for_zip {K:PySem.W.Frag}{a b:Addr}{xs zs:List V}{g:TG}{tb:TS}{D:oI}{σ:St}{H:Hp} (Pv:Nat→St→Hp→Prop) (h0:Pv 0 σ H) (hl:∀ i σ H,Pv i σ H→SqL K H a xs∧SqL K H b zs)
  (hs:∀ i x z σ H p,xs[i]?=some x→zs[i]?=some z→Pv i σ H→H p=none→g (.ref p) σ (upd H p (.tup [x,z])) fun σ2 H2=>tb { D with nx:=Pv (i+1),ct:=Pv (i+1),bk:=D.nx } σ2 H2) (hd:∀ σ H,Pv (min xs.length zs.length) σ H→D.nx σ H) :
  ∃ W:Nat→Nat→St→Hp→Prop,(∃ m,W 0 m σ H)∧∀ i m σ H,W i m σ H →
   ((Itz K a b).stop i H∧D.nx σ H)∨((Itz K a b).go i H∧∃ N:St→Hp→Prop,(∀ σ' H',N σ' H'→∃ m',m'<m∧W (i+1) m' σ' H')∧∀ x H',(Itz K a b).yld i H x H'→g x σ H' fun σ2 H2=>tb { D with nx:=N,ct:=N,bk:=D.nx } σ2 H2):=by
 refine ⟨fun i m σ H=>m=min xs.length zs.length - i∧i≤min xs.length zs.length∧Pv i σ H,⟨min xs.length zs.length,by simp,Nat.zero_le _,h0⟩,?_⟩
 rintro i m σ H ⟨rfl,hi,p⟩
 obtain ⟨q1,q2⟩:=hl i σ H p
 by_cases hlt:i<min xs.length zs.length
 ·have h1:i<xs.length:=by omega
  have h2:i<zs.length:=by omega
  refine .inr ⟨⟨xs,zs,xs[i],zs[i],q1,q2,by simp [h1],by simp [h2]⟩,Pv (i+1),fun σ' H' p'=>⟨min xs.length zs.length - (i+1),by omega,rfl,hlt,p'⟩,fun x H' y=>?_⟩
  obtain ⟨c,hc,e,y⟩:=y
  have e1:=y xs zs xs[i] zs[i] q1 q2 (by simp [h1]) (by simp [h2])
  subst e e1
  exact hs i xs[i] zs[i] σ H c (by simp [h1]) (by simp [h2]) p hc
 ·have e:i=min xs.length zs.length:=by omega
  refine .inl ⟨⟨xs,zs,q1,q2,?_⟩,hd σ H (by rw [← e];exact p)⟩
  omega
section
variable {X:Cx}{e a b:Expr}{ta tb:TE}{f:Str}{pos:Pos}
theorem cX (K:PySem.W.Frag) (he:PE X e ta) (hb:attributeBase e f X.env (eval e X.env)=eval e X.env) (hK:X.K=K:=by rfl):PE X (.Attribute e f pos) (tFld K ta f):=by
 subst hK
 exact aJ he hb
theorem dh (K:PySem.W.Frag) (hK:X.K=K:=by rfl):IxR X (rIxL K):=by
 subst hK
 exact aQ
theorem jp (K:PySem.W.Frag) (hK:X.K=K:=by rfl):IxR X (rIxT K):=by
 subst hK
 exact aY
theorem rE (K:PySem.W.Frag) (hK:X.K=K:=by rfl):CallR X (.builtin "len") (fun xs H Q=>∃ p ys,xs=[.ref p]∧(SqL K H p ys∨SqT K H p ys)∧Q (.int ys.length) H):=by
 subst hK
 exact aG
theorem du (K:PySem.W.Frag) (n:Nat) {es:List Expr}{k:Nat}{t:TGs} (hc:X.calm=true) (h:PGs X es t) (hn:(assignEach es X.env).length=n:=by rfl) (hst:(assignEach es X.env).findIdx? (·.1)=none:=by rfl) (hK:X.K=K:=by rfl):PG X (.Tuple es k pos) (gTup K n t):=by
 subst hK
 exact fS hc h hn hst
end
end L2
namespace L2
open PySem PySem.Spec PyProof.Rows
theorem pE {P:Program}{w:World}{A:Around} (hh:A.handled=none) (it l:Addr) (hne:l≠it) (items:Array Value) (k0:Nat) :
  Draws P w A.in1 it [it,l] (k0+items.size) (fun i x=>items[i - k0]?=some x) (fun i h=>k0≤i∧h.IsListIter it l (i - k0)∧h.IsList l items) where
 live:=fun i h st=>let ⟨o,e,_⟩:=st.2.1;⟨o,e⟩
 frame:=fun i h h' st k=>⟨st.1,st.2.1.at fun o e=>k it (by simp) o e,st.2.2.at fun o e=>k l (by simp) o e⟩
 item:=fun i s Q E hi st hQ=>by
  obtain ⟨s1,s2,s3⟩:=st
  have hx:items[i - k0]?=some (items[i - k0]'(by omega)):=Array.getElem?_eq_getElem (by omega)
  refine wpAny_nextOf_list_item s2 s3 hx fun h' st' sb=>?_
  rw [show i - k0+1=i+1 - k0 by omega] at st'
  exact hQ _ h' s.toks hx ⟨by omega,st',s3.at fun o e=>(sb.2 l hne).trans e⟩ sb
 done:=fun s Q E st hE=>by
  obtain ⟨s1,s2,s3⟩:=st
  exact wpAny_nextOf_list_end (show A.in1.handled=none from hh) s2 s3 (Array.getElem?_eq_none (by omega)) hE
def Ite (K:PySem.W.Frag) (a:Addr) (k0:Nat):It :=
  ⟨fun i H=>∃ xs x,SqL K H a xs∧xs[i]?=some x,
   fun i H v H'=>∃ p,H p=none∧v=.ref p∧∀ xs x,SqL K H a xs→xs[i]?=some x→H'=upd H p (.tup [.int ((k0+i:Nat):Int),x]),
   fun i H=>∃ xs,SqL K H a xs∧xs.length≤i⟩
theorem lj {P:Program}{w:World}{K:PySem.W.Frag}{elts:List Expr}{k1:Nat}{tp:Pos} (a e it:Addr) (k0:Nat) (d1:e≠it) :
  Turn P w K (.Tuple elts k1 tp) (Ite K a k0) [e,it] e (fun i h=>(∃ old,IsEnum h e it ((k0+i:Nat):Int) old)∧h.IsListIter it a i) where
 mem:=by simp
 obj:=fun i h st c hb=>by
  obtain ⟨⟨old,s1⟩,o2,s2,_,t2⟩:=st
  simp only [List.mem_cons,List.not_mem_nil,or_false] at hb
  rcases hb with rfl | rfl
  ·exact ⟨_,s1,fun v z=>by cases z⟩
  ·exact ⟨_,s2,fun v z=>by rw [t2] at z;cases z⟩
 keep:=fun i h h' st k=>by
  obtain ⟨⟨old,s1⟩,s2⟩:=st
  exact ⟨⟨old,k e (by simp) _ s1⟩,s2.at fun o q=>k it (by simp) o q⟩
 item:=by
  intro X hP hw hK hc i pins s σ H E I hf st hg
  subst hP hw hK
  obtain ⟨xs,x,hqa,hx⟩:=hg
  obtain ⟨⟨old,s1⟩,s2⟩:=st
  obtain ⟨its1,rv1,p1,z1⟩:=I.list hqa
  obtain ⟨u1,hu1,ru1⟩:=rv1.get hx
  have e2:=s2
  obtain ⟨o2,q2,c2,_⟩:=e2
  have n2:o2.cls≠.type "list":=by rw [c2];decide
  have a1:a≠e:=I.list_apart hqa s1 (show Value.type "enumerate"≠Value.type "list" by decide)
  have a2:a≠it:=I.list_apart hqa q2 n2
  have hi:i<its1.length:=(List.getElem?_eq_some_iff.mp hu1).1
  have D:=pE (P:=X.prog) (w:=X.w) (I.ok.hd hc) it a a2 its1.toArray k0
  refine wpAny_pyNext_enum_itemD (i:=k0+i) D s1 ⟨by omega,by rw [show k0+i - k0=i by omega];exact s2,p1.isList⟩ (by rw [List.size_toArray];omega) d1 (by simp only [List.mem_cons,List.not_mem_nil,or_false,not_or];exact ⟨d1,fun z=>a1 z.symm⟩) fun y h' tk hy b1 b2 b3 b4 b5=>?_
  rw [show k0+i - k0=i by omega] at hy
  have ey:y=u1:=by
   have:its1.toArray[i]?=some u1:=by simpa using hu1
   rw [this] at hy
   exact (Option.some.inj hy).symm
  subst ey
  refine ⟨_,rfl,?_⟩
  refine wpAny_letOwnedTupleGo_enum (s:={ s with heap:=h',toks:=tk+1 }) b1 fun h2 hz2 hs2=>?_
  have lt:∀ {c:Addr}{o:Obj},s.heap.get? c=some o→s.heap.objs.size≠c:=fun q=>Nat.ne_of_gt (Heap.lt_size q)
  have kk:∀ c o,c∉[e,it]→s.heap.get? c=some o→h2.get? c=some o:=fun c o hm q=>by
   simp only [List.mem_cons,List.not_mem_nil,or_false,not_or] at hm
   exact (hs2.2 c hm.1).trans (b5 c o hm.1 hm.2 q)
  have pT:h2.get? s.heap.objs.size=some { cls:=.type "tuple",data:=.seq #[.int ((k0+i:Nat):Int) tk,y] }:=(hs2.2 _ (lt s1)).trans b3
  have I2:Inv X pins σ (upd H s.heap.objs.size (.tup [.int ((k0+i:Nat):Int),x])) { s with heap:=h2,toks:=tk+1 }:=I.turnedN (t':=tk+1) (ch:=[e,it]) (p:=s.heap.objs.size) (o:=.tup [.int ((k0+i:Nat):Int),x]) hf kk (Nat.le_refl _)
   ⟨(by show 2≤sizeLine;decide),[.int ((k0+i:Nat):Int) tk,y],.cons ⟨_,rfl⟩ (.cons ru1 .nil),⟨_,pT,rfl,_,rfl⟩⟩
  refine ⟨.ref s.heap.objs.size,_,I2,rfl,⟨_,I.fresh,rfl,fun xs' x' w1 w2=>?_⟩,⟨⟨y,?_⟩,?_⟩,fun c hm=>?_⟩
  ·rw [I.list_inj w1 hqa,hx] at w2
   cases w2
   rfl
  ·have:=hz2
   rw [show ((k0+i:Nat):Int)+1=((k0+(i+1):Nat):Int) by omega] at this
   exact this
  ·have:=b2.2.1
   rw [show k0+i+1 - k0=i+1 by omega] at this
   exact this.at fun o q=>(hs2.2 it d1.symm).trans q
  ·have hne:c≠s.heap.objs.size:=by
    simp only [List.mem_cons,List.not_mem_nil,or_false] at hm
    rcases hm with rfl | rfl
    ·exact (lt s1).symm
    ·exact (lt q2).symm
   rw [aB hne]
   exact (hf c hm).1
 done:=by
  intro X hP hw hK hc i pins s σ H E I hf st hg
  subst hP hw hK
  obtain ⟨xs,hqa,hx⟩:=hg
  obtain ⟨⟨old,s1⟩,s2⟩:=st
  obtain ⟨its1,rv1,p1,z1⟩:=I.list hqa
  have l1:=rv1.length
  have hT:s.TypeIs (.ref e) "enumerate":=⟨_,s1,rfl⟩
  unfold pyNext
  refine wpAny_bind (wpAny_attempt (wpAny_callSpecial?_slot (name:=Str.ofString "__next__") hT F.slot_enumerate_next (wpAny_call_entry F.slot_enumerate_next hT F.entry_enumerate_next ?_ (F.args_enumerate_next_1 _))))
  show wpAny _ _ (field (.ref e) 2 >>= _) _ _ _
  refine wpAny_bind (wpAny_field s1 rfl (x:=.ref it) rfl ?_)
  refine wpAny_bind (wpAny_nextOf_list_end (I.ok.hd hc) s2 p1.isList (by rw [List.getElem?_toArray];exact List.getElem?_eq_none (by omega)) fun h' y he' hx'=>?_)
  obtain ⟨o,ho,hcl⟩:=hx'
  refine wpAny_bind (wpAny_isInstance (T:="StopIteration") (b:=true) ⟨o,ho,hcl⟩ isSubtype_stop (wpAny_pure ⟨rfl,?_⟩))
  exact I.turnedK (t':=s.toks) (ch:=[it]) (on1 (hf it (by simp))) fun c o hm q=>he' c o (by simpa using hm) q
 self:=fun _ _ _ _ _ st h=>let ⟨_,q⟩:=st.1;wpAny_pyIter_enum q h
def iEnum (K:PySem.W.Frag) (ta:TA):TI:=fun σ H R=>ta σ H fun vs H1=>∃ a xs,vs=[.ref a]∧SqL K H1 a xs∧R (Ite K a 0) H1
section
variable {X:Cx}
theorem kH {elts:List Expr}{k1:Nat}{tp:Pos}{a:Expr}{ta:TA}{p pos:Pos} (hg:Gl X "enumerate") (hm:X.mg "enumerate"=none) (ha:PA X [a] ta) (hs:starEach [a] X.env=[(false,eval a X.env)]:=by rfl) :
  PI X (.Tuple elts k1 tp) (.Call (.Name "enumerate" p) [a] [] pos) (iEnum X.K ta):=by
 intro pins s σ H R I h
 refine Call_ (eT I hg hm boot_enumerate (PyProof.Rows.callWith_type1 (thn (ha pos pins s σ H _ I h) fun us s1 ⟨vs,H1,I1,r1,q1⟩=>?_) hs rfl))
 obtain ⟨l,xs,e,hq,q⟩:=q1
 subst e
 obtain ⟨u,rfl,ru⟩:=r1.one
 cases ru
 obtain ⟨its,rv,pl,hz⟩:=I1.list hq
 refine call_enumerate_list pl.isList fun h' a1 a2 a3 a4=>?_
 refine wpAny_pyIter_enum (s:={ s1 with heap:=h' }) a1 ?_
 refine ⟨_,[s1.heap.objs.size+1,s1.heap.objs.size],_,_,H1,rfl,I1.kept (t':=s1.toks) fun c o e=>a4 c o e,lj l _ _ 0 (by simp),⟨⟨_,a1⟩,a2⟩,?_,q⟩
 refine pB I1 (fun c hc=>I1.hok.fresh hc) fun c hc=>?_
 simp only [List.mem_cons,List.not_mem_nil,or_false] at hc
 rcases hc with r | r<;>rw [r]
 ·exact Nat.le_add_right _ _
 ·exact Nat.le_refl _
end
section
variable {X:Cx}
theorem rB (hc:X.calm=true):CallR X (.type "set") (fun xs H Q=>∃ (l:Addr) (ns:List Int),xs=[.ref l]∧SqL X.K H l (ns.map V.int)∧ns.length≤1000∧∀ p,H p=none→Q (.ref p) (upd H p (.set (fun k=>(firstMet (fun i=>ns.getD i 0) ns.length).any (· == k)) (firstMet (fun i=>ns.getD i 0) ns.length).length))):=by
 intro pins s σ H xs us Q I r h
 obtain ⟨l,ns,rfl,hq,hl,q⟩:=h
 obtain ⟨u,rfl,ru⟩:=r.one
 cases ru
 obtain ⟨its,rv,pl,hz⟩:=I.list hq
 have ll:its.length=ns.length:=by have:=rv.length;rw [List.length_map] at this;exact this.symm
 refine call_set_list (I.ok.hd hc) pl.isList (ns:=ns) (by simpa using dk rv) (by rw [List.size_toArray,ll];show _<4096;omega) fun h' tk st kk=>?_
 have es:its.toArray.size=ns.length:=by rw [List.size_toArray,ll]
 rw [es] at st
 exact ⟨.ref s.heap.objs.size,_,I.laid (o:=.set (fun k=>(firstMet (fun i=>ns.getD i 0) ns.length).any (· == k)) (firstMet (fun i=>ns.getD i 0) ns.length).length) (t':=tk) (fun b o e=>kk b o (Heap.lt_size e) e) (Nat.le_refl _) st,rfl,q _ I.fresh⟩
theorem rD:CallR X (.builtin "len") (fun xs H Q=>∃ p S n,xs=[.ref p]∧H p=some (.set S n)∧n≤1000∧Q (.int n) H):=by
  intro pins s σ H xs us Q I r h
  obtain ⟨p,S,n,rfl,hp,hn,q⟩:=h
  obtain ⟨u,rfl,ru⟩:=r.one
  cases ru
  have st:s.heap.SetOf (intKind X.prog X.w) p S n:=I.hok p _ hp
  obtain ⟨o,es,ep,t,h1,h2,h3,_,_,h6,h7,h8⟩:=st
  subst h8
  exact call_len_set h1 h2 h3 h7 (by have:es.size<4096:=h6
                                     omega) ⟨.int es.size,H,I.tok _,⟨_,rfl⟩,q⟩
end
section
variable {X:Cx}
theorem oG:∀ (bs:List Bool),(List.range bs.length).all (fun i=>bs.getD i false)=bs.all id
 | []=>rfl
 | b::r=>by
  rw [List.length_cons,List.range_succ_eq_map,List.all_cons,List.all_map,List.all_cons]
  have e:((fun i=>(b::r).getD i false) ∘ Nat.succ)=fun i=>r.getD i false:=by funext i;rfl
  rw [e,oG r]
  rfl
theorem gQ (hc:X.calm=true):CallR X (.builtin "all") (fun xs H Q=>∃ (l:Addr) (bs:List Bool),xs=[.ref l]∧SqL X.K H l (bs.map V.bl)∧Q (.bl (bs.all id)) H):=by
 intro pins s σ H xs us Q I r h
 obtain ⟨l,bs,rfl,hq,q⟩:=h
 obtain ⟨u,rfl,ru⟩:=r.one
 cases ru
 obtain ⟨its,rv,pl,hz⟩:=I.list hq
 have ll:its.length=bs.length:=by have:=rv.length;rw [List.length_map] at this;exact this.symm
 have hh:X.A.in1.handled=none:=I.ok.hd hc
 have lt:l<s.heap.objs.size:=by obtain ⟨o,_,e,_⟩:=pl;exact Heap.lt_size e
 refine call_all_walk (wpAny_pyIter_list pl.isList ?_)
 refine ⟨s.heap.objs.size,_,_,_,_,_,fun i=>bs.getD i false,rfl,Walks.list hh s.heap.objs.size l (Nat.ne_of_lt lt) its.toArray,⟨⟨_,Heap.get?_push_size _ rfl,rfl,rfl⟩,pl.isList.at fun o e=>Heap.get?_push_of_some _ e⟩,fun i v s' Q' E' hv hQ=>?_,fun h' tk kk=>?_⟩
 ·have hv':its[i]?=some v:=by simpa using hv
  have hi:i<bs.length:=by rw [← ll];exact (List.getElem?_eq_some_iff.mp hv').1
  obtain ⟨u,hu,ru⟩:=rv.get (i:=i) (x:=.bl bs[i]) (by rw [List.getElem?_map,List.getElem?_eq_getElem hi];rfl)
  rw [hv'] at hu
  cases hu
  cases ru
  have hQ:Q' (bs.getD i false) s':=hQ
  rw [List.getD_eq_getElem?_getD,List.getElem?_eq_getElem hi] at hQ
  exact wpAny_truthy_bool hQ
 ·have e:(List.range its.toArray.size).all (fun i=>bs.getD i false)=bs.all id:=by rw [List.size_toArray,ll,oG]
  rw [e]
  exact ⟨.bl _,H,I.kept (t':=tk) fun b o eb=>kk b o (by simpa using Nat.ne_of_lt (Heap.lt_size eb)) (Heap.get?_push_of_some _ eb),rfl,q⟩
theorem fZ (ns:List Int):∀ i,preSum (fun i=>ns.getD i 0) i=(ns.take i).sum
 | 0=>by simp [preSum]
 | i+1=>by
  rw [preSum,fZ ns i]
  by_cases h:i<ns.length
  ·rw [List.take_add_one,List.getElem?_eq_getElem h,List.sum_append,List.getD_eq_getElem?_getD,List.getElem?_eq_getElem h]
   simp
  ·rw [List.getD_eq_getElem?_getD,List.getElem?_eq_none (by omega),List.take_of_length_le (by omega),List.take_of_length_le (by omega)]
   simp
theorem sum_b:∀ (ns:List Int),(∀ v∈ns,0≤v∧v≤1000000)→0≤ns.sum∧ns.sum≤1000000*ns.length
 | [],_=>by simp
 | v::r,h=>by
  have h1:=h v List.mem_cons_self
  have h2:=sum_b r fun w hw=>h w (List.mem_cons_of_mem _ hw)
  rw [List.sum_cons,List.length_cons]
  omega
theorem jv (hc:X.calm=true):CallR X (.builtin "sum") (fun xs H Q=>∃ (l:Addr) (ns:List Int),xs=[.ref l]∧SqL X.K H l (ns.map V.int)∧ns.length≤1000∧(∀ v∈ns,0≤v∧v≤1000000)∧Q (.int ns.sum) H):=by
 intro pins s σ H xs us Q I r h
 obtain ⟨l,ns,rfl,hq,hl,hb,q⟩:=h
 obtain ⟨u,rfl,ru⟩:=r.one
 cases ru
 obtain ⟨its,rv,pl,hz⟩:=I.list hq
 have ll:its.length=ns.length:=by have:=rv.length;rw [List.length_map] at this;exact this.symm
 have hh:X.A.in1.handled=none:=I.ok.hd hc
 have lt:l<s.heap.objs.size:=by obtain ⟨o,_,e,_⟩:=pl;exact Heap.lt_size e
 refine call_sum_walk (wpAny_pyIter_list pl.isList ?_)
 refine ⟨s.heap.objs.size,_,_,_,_,_,fun i=>ns.getD i 0,rfl,Walks.list hh s.heap.objs.size l (Nat.ne_of_lt lt) its.toArray,⟨⟨_,Heap.get?_push_size _ rfl,rfl,rfl⟩,pl.isList.at fun o e=>Heap.get?_push_of_some _ e⟩,fun b hb'=>?_,fun i v hv=>?_,fun j hj=>?_,fun h' tk t' kk=>?_⟩
 ·show b<(s.heap.push _).objs.size
  rw [Heap.size_push]
  simp only [List.mem_cons,List.not_mem_nil,or_false] at hb'
  rcases hb' with z | z
  ·rw [z]
   exact Nat.lt_succ_self _
  ·rw [z]
   exact Nat.lt_succ_of_lt lt
 ·have hv':its[i]?=some v:=by simpa using hv
  have hi:i<ns.length:=by rw [← ll];exact (List.getElem?_eq_some_iff.mp hv').1
  obtain ⟨u,hu,ru⟩:=rv.get (i:=i) (x:=.int ns[i]) (by rw [List.getElem?_map,List.getElem?_eq_getElem hi];rfl)
  rw [hv'] at hu
  cases hu
  obtain ⟨t,rfl⟩:=ru
  refine ⟨t,?_⟩
  show Value.int ns[i] t=Value.int (ns.getD i 0) t
  rw [List.getD_eq_getElem?_getD,List.getElem?_eq_getElem hi]
  rfl
 ·have hj':j<ns.length:=by rw [← ll];simpa using hj
  have b1:=hb ns[j] (List.getElem_mem hj')
  have b2:=sum_b (ns.take (j+1)) fun v hv=>hb v (List.mem_of_mem_take hv)
  rw [List.length_take] at b2
  rw [fZ]
  refine ⟨?_,?_⟩
  ·show InLong (ns.getD j 0)
   rw [List.getD_eq_getElem?_getD,List.getElem?_eq_getElem hj']
   show -(2 ^ 63)≤ns[j]∧ns[j]<2 ^ 63
   omega
  ·show -(2 ^ 63)≤(ns.take (j+1)).sum∧(ns.take (j+1)).sum<2 ^ 63
   omega
 ·have e:preSum (fun i=>ns.getD i 0) its.toArray.size=ns.sum:=by rw [List.size_toArray,ll,fZ,List.take_length]
  rw [e]
  exact ⟨.int _,H,I.kept (t':=tk) fun b o eb=>kk b o (by simpa using Nat.ne_of_lt (Heap.lt_size eb)) (Heap.get?_push_of_some _ eb),⟨_,rfl⟩,q⟩
end
theorem iT {K:PySem.W.Frag}{a:Addr}{xs:List V}{k0:Nat}{g:TG}{tb:TS}{D:oI}{σ:St}{H:Hp} (Pv:Nat→St→Hp→Prop) (h0:Pv 0 σ H) (hl:∀ i σ H,Pv i σ H→SqL K H a xs)
  (hs:∀ i x σ H p,xs[i]?=some x→Pv i σ H→H p=none→g (.ref p) σ (upd H p (.tup [.int ((k0+i:Nat):Int),x])) fun σ2 H2=>tb { D with nx:=Pv (i+1),ct:=Pv (i+1),bk:=D.nx } σ2 H2) (hd:∀ σ H,Pv xs.length σ H→D.nx σ H) :
  ∃ W:Nat→Nat→St→Hp→Prop,(∃ m,W 0 m σ H)∧∀ i m σ H,W i m σ H →
   ((Ite K a k0).stop i H∧D.nx σ H)∨((Ite K a k0).go i H∧∃ N:St→Hp→Prop,(∀ σ' H',N σ' H'→∃ m',m'<m∧W (i+1) m' σ' H')∧∀ x H',(Ite K a k0).yld i H x H'→g x σ H' fun σ2 H2=>tb { D with nx:=N,ct:=N,bk:=D.nx } σ2 H2):=by
 refine ⟨fun i m σ H=>m=xs.length - i∧i≤xs.length∧Pv i σ H,⟨xs.length,by simp,Nat.zero_le _,h0⟩,?_⟩
 rintro i m σ H ⟨rfl,hi,p⟩
 have q1:=hl i σ H p
 by_cases hlt:i<xs.length
 ·refine .inr ⟨⟨xs,xs[i],q1,by simp [hlt]⟩,Pv (i+1),fun σ' H' p'=>⟨xs.length - (i+1),by omega,rfl,hlt,p'⟩,fun x H' y=>?_⟩
  obtain ⟨c,hc,e,y⟩:=y
  have e1:=y xs xs[i] q1 (by simp [hlt])
  subst e e1
  exact hs i xs[i] σ H c (by simp [hlt]) p hc
 ·have e:i=xs.length:=by omega
  exact .inl ⟨⟨xs,q1,by omega⟩,hd σ H (by rw [← e];exact p)⟩
theorem mv {K:PySem.W.Frag}{a:Addr}{xs:List V}{k0 k:Nat}{g:TG}{tt:TT}{te:TE}{tl:St}{D:Addr}{Q:Hp→Prop}{H0:Hp} (Pv:Nat→List V→Hp→Prop) (h0:Pv 0 [] (upd H0 D (.lst []))) (hl:∀ i ys H,Pv i ys H→SqL K H a xs)
  (hs:∀ i x ys H p,xs[i]?=some x→Pv i ys H→H D=some (.lst ys)→H p=none→g (.ref p) (List.replicate k none++tl) (upd H p (.tup [.int ((k0+i:Nat):Int),x])) fun σ2 H2=>(σ2.length=k+tl.length∧σ2.drop k=tl) ∧
   tt σ2 H2 fun b H3=>if b=true then te σ2 H3 fun v H4=>H4 D=some (.lst ys)∧ys.length<sizeLine∧Pv (i+1) (ys++[v]) (upd H4 D (.lst (ys++[v]))) else H3 D=some (.lst ys)∧Pv (i+1) ys H3)
  (hd:∀ ys H,Pv xs.length ys H→H D=some (.lst ys)→Q H) :
  ∃ W:Nat→Nat→List V→Hp→Prop,(∃ m,W 0 m [] (upd H0 D (.lst [])))∧iZ k (Ite K a k0) g tt te tl D Q W:=by
 refine ⟨fun i m ys H=>m=xs.length - i∧i≤xs.length∧Pv i ys H,⟨xs.length,by simp,Nat.zero_le _,h0⟩,?_⟩
 rintro i m ys H ⟨rfl,hi,p⟩ hD
 have q1:=hl i ys H p
 by_cases hlt:i<xs.length
 ·refine .inr ⟨⟨xs,xs[i],q1,by simp [hlt]⟩,Pv (i+1),fun ys' H' q'=>⟨xs.length - (i+1),by omega,rfl,hlt,q'⟩,fun x H1 y=>?_⟩
  obtain ⟨c,hc,e,y⟩:=y
  have e1:=y xs xs[i] q1 (by simp [hlt])
  subst e e1
  exact hs i xs[i] ys H c (by simp [hlt]) p hD hc
 ·have e:i=xs.length:=by omega
  exact .inl ⟨⟨xs,q1,by omega⟩,hd ys H (by rw [← e];exact p) hD⟩
end L2
namespace L2
open PySem PySem.Spec PyProof.Rows
theorem HOk.inB {P:Program}{w:World}{H:Hp}{h h' B:Heap} (x:HOk P w H h) (t:∀ b u,H b=some u→∃ o,B.get? b=some o) (k:B.StaysIn h) (k':B.StaysIn h'):HOk P w H h':=fun a o e =>
 (x a o e).stay (fun b u hb q=>by
  have hv:∃ v,H b=some v:=by
   rcases hb with z | z
   ·exact ⟨o,by rw [z];exact e⟩
   ·exact ⟨_,z⟩
  obtain ⟨v,hv⟩:=hv
  obtain ⟨ob,hob⟩:=t b v hv
  have:=k b ob hob
  rw [q] at this
  cases this
  exact k' b _ hob) (fun _ q=>q) fun _ _ q=>q
structure Flies (P:Program) (w:World) (outer:List Env) (H:Hp) (s:Shared) (a:Addr) (B:Heap) (H':Hp) (s':Shared):Prop where
 os:s'.os=s.os
 bare:AllBare s'.gens
 new:s.heap.get? a=none
 un:Un (frs outer) [] H H' s.heap s'.heap
 hok:HOk P w H' s'.heap
 inB:∀ b o,s.heap.get? b=some o→b∉frs outer→∃ o',B.get? b=some o'∧(H b=none→o'=o)
 trk:∀ b u,H' b=some u→∃ o,B.get? b=some o
 st:B.StaysIn s'.heap
theorem Flies.on {P:Program}{w:World}{outer:List Env}{H H':Hp}{s s':Shared}{a:Addr}{B h':Heap} (F:Flies P w outer H s a B H' s') (hfr:∀ b∈frs outer,H b=none∧∃ o,s.heap.get? b=some o∧∀ vs,o.data≠.fields vs)
  (k:B.StaysIn h') (sm:s'.heap.UpToSlots h'):Flies P w outer H s a B H' { s' with heap:=h' }:=by
 have fr:∀ b o,s.heap.get? b=some o→b∈frs outer→∃ sl,h'.get? b=some { o with slots:=sl }:=fun b o e hb=>by
  obtain ⟨n,ob,e',nf⟩:=hfr b hb
  rw [e] at e'
  cases e'
  obtain ⟨sl,q⟩:=F.un.any e n (by simp)
  obtain ⟨sl',q'⟩:=sm b _ q nf
  exact ⟨sl',q'⟩
 refine ⟨F.os,F.bare,F.new,⟨fun b o e n hb _=>?_,fun b o e n hb _=>fr b o e hb,F.un.free,fun b o e _=>?_,F.un.tups,F.un.frzs,F.un.tbls⟩,F.hok.inB F.trk F.st k,F.inB,F.trk,k⟩
 ·obtain ⟨o',q,z⟩:=F.inB b o e hb
  rw [z n] at q
  exact k b o q
 ·by_cases hb:b∈frs outer
  ·obtain ⟨sl,q⟩:=fr b o e hb
   exact ⟨_,q⟩
  ·obtain ⟨o',q,_⟩:=F.inB b o e hb
   exact ⟨o',k b o' q⟩
section
variable {X:Cx}{pins:List (Addr×Obj)}{σ:St}{H H':Hp}{s s':Shared}{a:Addr}{B:Heap}
theorem Inv.frOk (I:Inv X pins σ H s):∀ b∈frs X.stack,H b=none∧∃ o,s.heap.get? b=some o∧∀ vs,o.data≠.fields vs:=fun b hb=>⟨I.stkFree b hb,(I.stack.mem hb).2⟩
theorem Inv.offStack (I:Inv X pins σ H s) {b:Addr}{o:Obj} (e:X.s₀.heap.get? b=some o) (hb:b∉X.fs):b∉frs X.stack:=fun hm=>by
 rcases List.mem_cons.mp (I.stkSub b hm) with z | z
 ·exact absurd (Heap.lt_size e) (by rw [z];exact Nat.not_lt.mpr I.ok.above)
 ·exact hb z
theorem Flies.left (F:Flies X.prog X.w X.stack H s a B H' s') (I:Inv X pins σ H s) (hex:X.ex=[]):Flies X.prog X.w X.outer X.H₀ X.s₀ a B H' s':=by
 have noex:∀ b,b∉X.ex:=fun b=>by rw [hex];simp
 have news:X.s₀.heap.get? a=none:=by
  cases q:X.s₀.heap.get? a with
  | none=>rfl
  | some o =>
   obtain ⟨o',e⟩:=I.base.there a o q (noex a)
   rw [F.new] at e
   cases e
 refine ⟨F.os.trans I.os,F.bare,news,⟨fun b o e n hb _=>?_,fun b o e n hb _=>?_,fun b o e n _=>?_,fun b o e _=>?_,fun b xs q=>F.un.tups b xs (I.base.tups b xs q),fun b o xs q=>F.un.frzs b o xs (I.base.frzs b o xs q),fun b ps q=>?_⟩,F.hok,fun b o e hb=>?_,F.trk,F.st⟩
 ·exact F.un.keep b o (I.base.keep b o e n hb (noex b)) (I.base.free b o e n (noex b)) (I.offStack e hb) (by simp)
 ·obtain ⟨sl,e1⟩:=I.base.slot b o e n hb (noex b)
  obtain ⟨sl',e2⟩:=F.un.any e1 (I.base.free b o e n (noex b)) (by simp)
  exact ⟨sl',e2⟩
 ·obtain ⟨o',e1⟩:=I.base.there b o e (noex b)
  exact F.un.free b o' e1 (I.base.free b o e n (noex b)) (by simp)
 ·obtain ⟨o',e1⟩:=I.base.there b o e (noex b)
  exact F.un.there b o' e1 (by simp)
 ·obtain ⟨m1,e1⟩:=I.base.tbls b ps q
  obtain ⟨m2,e2⟩:=F.un.tbls b _ e1
  exact ⟨m1++m2,by rw [e2,Array.append_assoc]⟩
 ·obtain ⟨o1,e1⟩:=I.base.there b o e (noex b)
  obtain ⟨o',q,z⟩:=F.inB b o1 e1 (I.offStack e hb)
  refine ⟨o',q,fun n=>?_⟩
  have e2:=I.base.keep b o e n hb (noex b)
  rw [e1] at e2
  cases e2
  exact z (I.base.free b _ e n (noex b))
theorem Inv.flies {h':Heap}{cls:Value}{vs:List Value} (I:Inv X pins σ H s) (hx:Heap.MadeExcOf s.heap h' a cls vs):Flies X.prog X.w X.stack H s a (PySem.W.hideAll s.heap (frs X.stack)) H { s with heap:=h' }:=by
 have inb:∀ b o,s.heap.get? b=some o→b∉frs X.stack→(PySem.W.hideAll s.heap (frs X.stack)).get? b=some o:=fun b o e hb=>PySem.W.hideAll_get _ e hb
 refine ⟨rfl,I.bare,hx.new,Un.kept hx.keeps,I.hok.kept hx.keeps,fun b o e hb=>⟨o,inb b o e hb,fun _=>rfl⟩,fun b u e=>?_,fun b o e=>hx.keeps b o (PySem.W.of_hideAll _ e)⟩
 obtain ⟨o,q⟩:∃ o,s.heap.get? b=some o:=by
  have:=I.hok.lt e
  have hk:=I.hok b u e
  cases u with
  | lst xs=>obtain ⟨_,_,_,_,q⟩:=hk;exact ⟨_,q⟩
  | tup xs=>obtain ⟨_,_,_,o,q,_⟩:=hk;exact ⟨_,q⟩
  | dK kvs=>obtain ⟨_,_,_,_,o,_,_,q,_⟩:=hk;exact ⟨_,q⟩
  | dT kvs=>obtain ⟨_,_,_,_,o,_,_,q,_⟩:=hk;exact ⟨_,q⟩
  | set S n=>obtain ⟨o,_,_,_,q,_⟩:=hk;exact ⟨_,q⟩
  | ins C dx fs=>obtain ⟨_,_,_,q,_⟩:=hk;exact ⟨_,q⟩
  | own y=>exact hk
  | xd fs=>obtain ⟨_,⟨o,_,_,q,_⟩,_⟩:=hk;exact ⟨_,q⟩
  | rng lo hi=>obtain ⟨_,_,_,q⟩:=hk;exact ⟨_,q⟩
  | frz ob u=>obtain ⟨q,_⟩:=hk;exact ⟨_,q⟩
  | tbl ps=>exact ⟨_,(show s.heap.get? b=some _ from hk)⟩
  | met f y=>exact ⟨_,(show s.heap.get? b=some _ from hk)⟩
  | ext φ=>obtain ⟨_,q,_⟩:=hk;exact q
 refine ⟨o,inb b o q fun hm=>?_⟩
 rw [I.stkFree b hm] at e
 cases e
end
def CXE (P:Program) (w:World):CXT:=fun outer H s E e s'=>∃ (a C:Addr) (a0:Value) (B:Heap) (H':Hp),e=.ref a∧Flies P w outer H s a B H' s'∧Heap.FlyingW B outer a (.ref C) a0 s'.heap∧E (.ref C) none H'
section
variable {P:Program}{w:World}{K:PySem.W.Frag}{mg:Str→Option Value}{base:Heap}{N:List Str}{qual:Str}{scope:Scope}{f:Addr}{cd:Value}{A:Around}{outer:List Env}{s0:Shared}{H0:Hp}{E:XK}
theorem passE:iC (CXE P w) (iM (CXE P w) P w K mg base N qual scope f cd A outer s0 H0 E) E:=by
 intro pins σ H s e s' I hx
 obtain ⟨a,C,a0,B,H',e1,F,fl,hE⟩:=hx
 subst e1
 show wpAny (model P w) (A.deeper (envOfC qual scope s0.heap.objs.size f cd)) (leaving (envOfC qual scope s0.heap.objs.size f cd) (.ref a)) _ _ s'
 refine wpAny_leaves_onW (L:=s0.heap.objs.size) I.ok.frames rfl fl fun h' fl' sm=>?_
 exact ⟨a,C,a0,B,H',rfl,(F.on I.frOk fl'.1 sm).left I rfl,fl',hE⟩
theorem raisedE {pins:List (Addr×Obj)}{σ:St}{H:Hp}{s:Shared}{h':Heap}{a C:Addr}{vs:List Value} (I:Inv (iM (CXE P w) P w K mg base N qual scope f cd A outer s0 H0 E) pins σ H s) (hx:Heap.MadeExcOf s.heap h' a (.ref C) vs) (hE:E (.ref C) none H) :
  (iM (CXE P w) P w K mg base N qual scope f cd A outer s0 H0 E).xe (.ref a) { s with heap:=h' }:=by
 show wpAny (model P w) (A.deeper (envOfC qual scope s0.heap.objs.size f cd)) (leaving (envOfC qual scope s0.heap.objs.size f cd) (.ref a)) _ _ { s with heap:=h' }
 have F:=I.flies hx
 refine wpAny_leaves_madeW (L:=s0.heap.objs.size) (base:=PySem.W.hideAll s.heap (frs (envOfC qual scope s0.heap.objs.size f cd::outer))) (h:=s.heap) I.ok.frames rfl (fun b o q=>PySem.W.of_hideAll _ q)
  (PySem.W.funFrames_hide I.stack fun env he b hb=>List.mem_filterMap.mpr ⟨env,he,hb⟩) hx fun h'' t fl _ _ sm=>?_
 exact ⟨a,C,_,_,H,rfl,(F.on I.frOk fl.1 sm).left I rfl,fl,hE⟩
end
abbrev pX:List Value:=[.type "ValueError",.type "Exception",.type "BaseException",.type "object"]
structure Exc (K:PySem.W.Frag) (mg:Str→Option Value) (x:Str) (C:Addr) (bm:List Value):Prop where
 bound:mg x=some (.ref C)
 obj:∃ (N:Addr) (nm q:Str) (bs:List Value) (hdct:Bool) (sn:List Str) (sub:List Value) (ab:Bool) (col:Option Bool) (dd:Option Addr) (k0 k1 k2 k3 k5:Option Value),
  K.lookup C=some (excClassObj nm q C N bs bm hdct sn sub ab col dd k0 k1 k2 k3 k5 "ValueError.__new__")∧PySem.W.nsOkIn K N=true∧PySem.W.nsIn K N "__init__"=some none∧PySem.W.tailIn K pX bm=true
theorem Exc.base {K:PySem.W.Frag}{mg:Str→Option Value}{x:Str}{C:Addr}{bm:List Value} (O:Exc K mg x C bm) {h:Heap} (X:K.In h):bm.contains (.type "BaseException")=true:=by
 obtain ⟨N,nm,q,bs,hdct,sn,sub,ab,col,dd,k0,k1,k2,k3,k5,lk,n1,n2,tl⟩:=O.obj
 exact (PySem.W.tail_of_in X tl).hasType PySem.F.excBase_ValueError.hasBase
theorem gO {K:PySem.W.Frag}{mg:Str→Option Value}{x:Str}{C N:Addr}{nm q:Str}{bs bm sub:List Value}{hdct ab:Bool}{sn:List Str}{col:Option Bool}{dd:Option Addr}{k0 k1 k2 k3 k5:Option Value} (b:mg x=some (.ref C))
  (lk:K.lookup C=some (excClassObj nm q C N bs bm hdct sn sub ab col dd k0 k1 k2 k3 k5 "ValueError.__new__")) (h:PySem.W.excIn K C pX "ValueError.__new__"=true):Exc K mg x C bm:=by
 unfold PySem.W.excIn at h
 rw [lk] at h
 simp only [Bool.and_eq_true,beq_iff_eq] at h
 obtain ⟨⟨⟨_,h1⟩,h2⟩,h3⟩:=h
 exact ⟨b,N,nm,q,bs,hdct,sn,sub,ab,col,dd,k0,k1,k2,k3,k5,lk,h2,h3,h1⟩
def tRaise (te:TE) (C:Addr) (E:XK):TS:=fun _ σ H=>te σ H fun _ H1=>1≤sizeLine∧E (.ref C) none H1
section
variable {P:Program}{w:World}{K:PySem.W.Frag}{mg:Str→Option Value}{base:Heap}{N:List Str}{qual:Str}{scope:Scope}{f:Addr}{cd:Value}{A:Around}{outer:List Env}{s0:Shared}{H0:Hp}{E:XK}
theorem fK {x:Str}{C:Addr}{bm:List Value}{e:Expr}{te:TE}{np cpos pos:Pos} (O:Exc K mg x C bm) (hg:Gl (iM (CXE P w) P w K mg base N qual scope f cd A outer s0 H0 E) x)
  (he:PE (iM (CXE P w) P w K mg base N qual scope f cd A outer s0 H0 E) e te) (hdb:(x == ("__debug__":Str))=false:=by decide)
  (hs:starEach [e] (iM (CXE P w) P w K mg base N qual scope f cd A outer s0 H0 E).env=[(false,eval e (iM (CXE P w) P w K mg base N qual scope f cd A outer s0 H0 E).env)]:=by rfl) :
  PS (iM (CXE P w) P w K mg base N qual scope f cd A outer s0 H0 E) (.Raise (some (.Call (.Name x np) [e] [] cpos)) none pos) (tRaise te C E):=by
 intro pins s σ H D I h
 have KX:=I.kIn
 obtain ⟨Nn,nm,q,bs,hdct,sn,sub,ab,col,dd,k0,k1,k2,k3,k5,lk,n1,n2,tl⟩:=O.obj
 have hbase:=O.base KX
 have ns0:base.Ns Nn (base.nsMap Nn):=.of_isNs (PySem.W.isNs_of_in I.ok.mod.kin n1)
 refine wpAny_Raise_call_subT (nm:=nm) (q:=q) (C:=C) (N:=Nn) (bs:=bs) (bm:=bm) (hdct:=hdct) (sn:=sn) (sub:=sub) (ab:=ab) (col:=col) (dd:=dd) (k0:=k0) (k1:=k1) (k2:=k2) (k3:=k3) (k5:=k5) (mN:=base.nsMap Nn)
  PySem.F.excBase_ValueError hbase (I.ok.hd rfl) (by rw [hs];rfl) (PySem.W.nsMap_none_of_in I.ok.mod.kin n1 n2) (kQ I hg O.bound ⟨rfl,?_⟩ hdb)
 have ha:=aa he (ac (X:=iM (CXE P w) P w K mg base N qual scope f cd A outer s0 H0 E)) hs
 have hz:=ha cpos pins s σ H (fun vs H1=>vs.length≤sizeLine∧E (.ref C) none H1) I h
 rw [hs] at hz ⊢
 refine Calls.evalArgs_plain (thn hz fun us s2 ⟨vs,H1,I1,r1,hl,q1⟩=>?_)
 exact ⟨rfl,by rw [← r1.length];exact hl,I1.kIn _ _ lk,ns0.keeps I1.bk,PySem.W.tail_of_in I1.kIn tl,fun h' a hx=>raisedE I1 hx q1⟩
end
def PJ (X:Cx) (es:List Expr) (n:Nat) (t:St→Hp→(Hp→Prop)→Prop):Prop:=∀ (pins:List (Addr×Obj)) (s:Shared) (σ:St) (H:Hp) (Q:Hp→Prop) (out:Str),Inv X pins σ H s→out.length+n≤sizeLine→t σ H Q →
 wpAny (model X.prog X.w) X.A (joinParts out (evalEach es X.env)) (fun u s'=>∃ x tk H',u=Value.str x tk∧Inv X pins σ H' s'∧Q H') X.xe s
section
variable {X:Cx}{n:Nat}{es:List Expr}{t:St→Hp→(Hp→Prop)→Prop}
end
section
variable {X:Cx}{pins pins':List (Addr×Obj)}{σ:St}{H H':Hp}{s s':Shared}{E':Value→Shared→Prop}{a C:Addr}{a0:Value}{B:Heap}
def Landed (X:Cx) (pins:List (Addr×Obj)) (σ:St) (a C:Addr) (H':Hp) (s':Shared):Prop :=
 ∃ (H:Hp) (s:Shared) (a0:Value) (B:Heap),Inv X pins σ H s∧Flies X.prog X.w X.stack H s a B H' s'∧Heap.FlyingW B X.stack a (.ref C) a0 s'.heap
end
section
variable {X:Cx}{pins:List (Addr×Obj)}{E':Value→Shared→Prop}{Ek:XK}{σ0:St}{k j:Nat}{x:Str}{p pos:Pos}{e:Expr}{es:List Expr}{t:TA}{ps:List Str}{sp:Sp}
end
abbrev TH:=Addr→Addr→oI→St→Hp→Prop
def PH (X:Cx) (hs:List ExceptHandler) (t:TH):Prop:=∀ (pins:List (Addr×Obj)) (σ:St) (H':Hp) (s':Shared) (a C:Addr) (D:oI),Landed X pins σ a C H' s'→t C a D σ H'→wpAny (model X.prog X.w) X.A (handleBy (.ref a) X.env hs) (SP X pins D) X.xe s'
section
variable {M:Model}{A:Around}{E:Value→Shared→Prop}{h:Heap}{g:Array GenState}{d:Drawn}{t:Nat}{os:OsState}
end
section
variable {X:Cx}{i:Nat}{x n y:Str}{np pos:Pos}{b₀:Stmt}{suite:List Stmt}{rest:List ExceptHandler}{ts:TS}{tr:TH}
theorem PS.nox {X:Cx}{st:Stmt}{t:TS} (h:PS X.nox st t):PS X st t:=fun pins s σ H D I hw =>
 wpAny_mono (h pins s σ H D (I.wish _) hw) (fun _ _ q=>q.unwish) fun _ _ z=>z.elim
end
section
variable {P : Program} {w : World} {K : PySem.W.Frag} {mg : Str → Option Value} {base : Heap}
theorem Src.okE {x qual:Str}{st:Stmt}{N ps:List Str}{k:Nat}{sp:Sp} (F:Src K mg x qual st ps) (S:az N ps (ao st)) (len:∀ vs H Q E,sp vs H Q E→vs.length=ps.length)
  (hbody:∀ (f:Addr) (cdv:Value) (A:Around) (outer:List Env) (s:Shared) (H:Hp) (vs:List V) (Q:VK) (E:XK),Room k (A.deeper (envOfC qual (ao st) s.heap.objs.size f cdv))→sp vs H Q E →
   ∃ t,PSs (iM (CXE P w) P w K mg base N qual (ao st) f cdv A outer s H E) (ip st) t∧t { nx:=fun _ H'=>Q .non H',rt:=Q } (start N vs) H):Ok P w K mg base (CXE P w) (k+1) x ps sp:=by
 obtain ⟨f,fd,F,b,m⟩:=F
 obtain ⟨oc,od,kV,doc,pm,an,cdv,ct,osl,rfl,lk,hcd⟩:=F.ex
 exact ⟨f,_,fn_of lk hcd S len fun A outer s H vs Q E hr hsp=>hbody f cdv A outer s H vs Q E hr hsp,b,F.kp,m⟩
end
section
variable {P:Program}{w:World}{K:PySem.W.Frag}{mg:Str→Option Value}{base:Heap}{N:List Str}{qual:Str}{scope:Scope}{f:Addr}{cd:Value}{A:Around}{outer:List Env}{s0:Shared}{H0:Hp}{E:XK}{k j:Nat}{x:Str}{p pos:Pos}{e:Expr}{es:List Expr}{t:TA}{ps:List Str}{sp:Sp}
theorem cM (O:Ok P w K mg base (CXE P w) k x ps sp) (hr:Room j (iM (CXE P w) P w K mg base N qual scope f cd A outer s0 H0 E).A) (hg:Gl (iM (CXE P w) P w K mg base N qual scope f cd A outer s0 H0 E) x) (ha:PA (iM (CXE P w) P w K mg base N qual scope f cd A outer s0 H0 E) (e::es) t)
  (hle:k≤j:=by decide) (hdb:(x == ("__debug__":Str))=false:=by decide) (he:starEach (e::es) (iM (CXE P w) P w K mg base N qual scope f cd A outer s0 H0 E).env=(false,eval e (iM (CXE P w) P w K mg base N qual scope f cd A outer s0 H0 E).env)::starEach es (iM (CXE P w) P w K mg base N qual scope f cd A outer s0 H0 E).env:=by rfl)
  (hpl:(backTo pos (starEach es (iM (CXE P w) P w K mg base N qual scope f cd A outer s0 H0 E).env)).any (·.1)=false:=by rfl) :
  PE (iM (CXE P w) P w K mg base N qual scope f cd A outer s0 H0 E) (.Call (.Name x p) (e::es) [] pos) (tCall sp [] E t):=by
 obtain ⟨g,fd,F,b,kp,m⟩:=O
 exact ql F (hr.mono hle) hg m kp b .nil passE ha hdb he hpl
end
end L2
namespace L2
open PySem PySem.Spec PyProof.Rows
def tJoin (t:TS):TS:=fun D σ H=>∃ J:St→Hp→Prop,t { D with nx:=J } σ H∧∀ σ' H',J σ' H'→D.nx σ' H'
theorem kF {X:Cx}{st:Stmt}{t:TS} (h:PS X st t):PS X st (tJoin t):=by
 intro pins s σ H D I ⟨J,h1,h2⟩
 refine thn (h pins s σ H _ I h1) fun f s1 q=>?_
 cases f with
 | next =>
  obtain ⟨σ',H',I',q⟩:=q
  exact ⟨σ',H',I',h2 _ _ q⟩
 | ret v=>exact q
 | brk=>exact q
 | cont=>exact q
theorem valsI {ns:List Int}:∀ {us:List Value},IntsAre us ns→Vals (ns.map V.int) us:=by
 induction ns with
 | nil=>intro us r;cases r;exact .nil
 | cons n ns ih=>intro us r;cases r;exact .cons ⟨_,rfl⟩ (ih (by assumption))
section
variable {X:Cx}
theorem mx:CallR X (.builtin "sorted") (fun xs H Q=>∃ (l:Addr) (ns:List Int),xs=[.ref l]∧SqL X.K H l (ns.map V.int)∧ns.length<64∧∀ (p:Addr) (ms:List Int),ms.Perm ns→ms.Pairwise (·≤·)→H p=none→Q (.ref p) (upd H p (.lst (ms.map V.int)))):=by
 intro pins s σ H xs us Q I r h
 obtain ⟨l,ns,rfl,hq,hl,q⟩:=h
 obtain ⟨u,rfl,ru⟩:=r.one
 cases ru
 obtain ⟨its,rv,pl,hz⟩:=I.list hq
 have ll:its.length=ns.length:=by have:=rv.length;rw [List.length_map] at this;exact this.symm
 refine sorted_ints pl.isList (dk rv) (by omega) fun out ms a1 a2 a3=>?_
 obtain ⟨e,he⟩:=sortedAll_at s.heap its out
 have lm:ms.length=ns.length:=a2.length_eq
 refine ⟨.ref (s.heap.objs.size+1),_,I.laid (a:=s.heap.objs.size+1) (o:=.lst (ms.map V.int)) (t':=s.toks) (fun b u q=>sortedAll_old q) (Nat.le_succ _) ⟨by rw [List.length_map];exact Nat.le_of_lt (au (by omega)),out.toList,e,valsI a1,?_⟩,rfl,q _ ms a2 a3 (I.hok.fresh (Nat.le_succ _))⟩
 exact he
end
end L2
namespace L2
open PySem
theorem aL {X:Cx}{st:Stmt}{rest:List Stmt}{t:TS}{D:oI}{σ:St}{H:Hp} (h1:PS X st t) (h:∀ u:St→Hp→Prop,(∀ σ H,(∃ v,PSs X rest v∧v D σ H)→u σ H)→t { D with nx:=u } σ H):∃ v,PSs X (st::rest) v∧v D σ H :=
 ⟨tSeq t fun D σ H=>∃ v,PSs X rest v∧v D σ H,ad h1 fun pins s σ H D I ⟨_,hv,q⟩=>hv pins s σ H D I q,h _ fun _ _ x=>x⟩
end L2
namespace L2
open PySem PySem.Spec PyProof.Rows
open PySem.W (Dat kqdP kqdPs kqdOk)
mutual
inductive RepD (H:Hp):V→Dat→Prop
 | non:RepD H .non .none
 | int (i:Int):RepD H (.int i) (.int i)
 | str (x:Str):RepD H (.str x) (.str x)
 | bl (b:Bool):RepD H (.bl b) (.bool b)
 | lst {a:Addr}{xs:List V}{ds:List Dat} (e:H a=some (.lst xs)) (r:RepDs H xs ds):RepD H (.ref a) (.list ds)
 | tup {a:Addr}{xs:List V}{ds:List Dat} (e:H a=some (.tup xs)) (r:RepDs H xs ds):RepD H (.ref a) (.tuple ds)
inductive RepDs (H:Hp):List V→List Dat→Prop
 | nil:RepDs H [] []
 | cons {x:V}{d:Dat}{xs:List V}{ds:List Dat} (h:RepD H x d) (t:RepDs H xs ds):RepDs H (x::xs) (d::ds)
end
mutual
theorem RepD.same {H H':Hp} (s:Same H H'):∀ {x:V}{d:Dat},RepD H x d→RepD H' x d
 | _,_,.non=>.non
 | _,_,.int i=>.int i
 | _,_,.str x=>.str x
 | _,_,.bl b=>.bl b
 | _,_,.lst e r=>.lst (s _ _ e) (RepDs.same s r)
 | _,_,.tup e r=>.tup (s _ _ e) (RepDs.same s r)
theorem RepDs.same {H H':Hp} (s:Same H H'):∀ {xs:List V}{ds:List Dat},RepDs H xs ds→RepDs H' xs ds
 | _,_,.nil=>.nil
 | _,_,.cons h t=>.cons (RepD.same s h) (RepDs.same s t)
end
theorem RepDs.ints {H:Hp}:∀ (ns:List Int),RepDs H (ns.map V.int) (ns.map Dat.int)
 | []=>.nil
 | n::ns=>.cons (.int n) (RepDs.ints ns)
section
variable {X:Cx}{pins:List (Addr×Obj)}{σ:St}{H:Hp}{s:Shared}
mutual
theorem RepD.reads (I:Inv X pins σ H s):∀ {x:V}{d:Dat}{u:Value} (n:Nat),RepD H x d→RelV x u→kqdOk n d=true→∃ as,Reads s.heap u (kqdP d) as
 | _,_,_,_,.non,r,_=>⟨_,by cases (show _=Value.none from r);exact Reads.none⟩
 | _,_,_,_,.int i,r,_=>by obtain ⟨t,rfl⟩:=r;exact ⟨_,Reads.int i t⟩
 | _,_,_,_,.str x,r,_=>by obtain ⟨t,rfl⟩:=r;exact ⟨_,Reads.str x t⟩
 | _,_,_,n,.bl b,_,hk=>by cases n<;>simp [kqdOk] at hk
 | _,_,_,0,.lst _ _,_,hk=>by simp [kqdOk] at hk
 | _,_,_,0,.tup _ _,_,hk=>by simp [kqdOk] at hk
 | _,_,_,n+1,.lst (a:=a) (xs:=xs) e q,r,hk=>by
  cases (show _=Value.ref a from r)
  obtain ⟨_,its,m,rv,hg⟩:=(show ObjOk X.prog X.w H s.heap a (.lst xs) from I.hok a _ e)
  obtain ⟨as,p⟩:=RepDs.reads I n q rv (by simpa [kqdOk] using hk)
  rw [kqdP]
  exact ⟨_,Reads.list hg rfl rfl (by simpa using p)⟩
 | _,_,_,n+1,.tup (a:=a) (xs:=xs) e q,r,hk=>by
  cases (show _=Value.ref a from r)
  obtain ⟨_,its,rv,o,hg,hc,m,hd⟩:=(show ObjOk X.prog X.w H s.heap a (.tup xs) from I.hok a _ e)
  obtain ⟨as,p⟩:=RepDs.reads I n q rv (by simpa [kqdOk] using hk)
  rw [kqdP]
  exact ⟨_,Reads.tuple hg hc hd (by simpa using p)⟩
theorem RepDs.reads (I:Inv X pins σ H s):∀ {xs:List V}{ds:List Dat}{us:List Value} (n:Nat),RepDs H xs ds→Vals xs us→(∀ d∈ds,kqdOk n d=true)→∃ as,ReadsAll s.heap us (kqdPs ds) as
 | _,_,_,_,.nil,.nil,_=>⟨_,ReadsAll.nil⟩
 | _,_,_,n,.cons h t,.cons r rs,hk=>by
  obtain ⟨as,q⟩:=RepD.reads I n h r (hk _ (.head _))
  obtain ⟨bs,p⟩:=RepDs.reads I n t rs fun d hm=>hk d (.tail _ hm)
  rw [kqdPs]
  exact ⟨_,ReadsAll.cons q p⟩
end
theorem gs {d:Dat}{n:Nat} (h:kqdOk n d=true) (hn:n≤9):SeqAt.shaped (kqdP d)=true:=by
 have l:=PySem.W.kqd_lay n d h
 unfold SeqAt.shaped
 rw [l.1,Bool.true_and]
 exact decide_eq_true (Nat.le_trans l.2 (Nat.le_trans hn (by decide)))
theorem op_eqD (hu:X.A.units+64<cLine):OpR X (compareOp .Eq) (fun x y H Q=>∃ d e b,RepD H x d∧RepD H y e∧kqdOk 8 d=true∧kqdOk 8 e=true∧(b=true↔d=e)∧Q (.bl b) H):=by
 intro pins s σ H x y v u Q I rx ry h
 obtain ⟨d,e,b,hx,hy,kd,ke,hb,q⟩:=h
 obtain ⟨as,ra⟩:=hx.reads I 8 rx kd
 obtain ⟨bs,rb⟩:=hy.reads I 8 ry ke
 have eb:PyData.eqv (kqdP d) (kqdP e)=b:=Bool.eq_iff_iff.mpr ((PySem.W.kqd_eqv 8 d e 8 kd ke).trans hb.symm)
 exact eq_dataH ra rb (gs kd (by decide)) (gs ke (by decide)) hu (by rw [eb];exact ⟨.bl b,H,I,rfl,q⟩)
theorem op_neD (hu:X.A.units+64<cLine):OpR X (compareOp .NotEq) (fun x y H Q=>∃ d e b,RepD H x d∧RepD H y e∧kqdOk 8 d=true∧kqdOk 8 e=true∧(b=true↔d=e)∧Q (.bl !b) H):=by
 intro pins s σ H x y v u Q I rx ry h
 obtain ⟨d,e,b,hx,hy,kd,ke,hb,q⟩:=h
 obtain ⟨as,ra⟩:=hx.reads I 8 rx kd
 obtain ⟨bs,rb⟩:=hy.reads I 8 ry ke
 have eb:PyData.eqv (kqdP d) (kqdP e)=b:=Bool.eq_iff_iff.mpr ((PySem.W.kqd_eqv 8 d e 8 kd ke).trans hb.symm)
 exact ne_dataH ra rb (gs kd (by decide)) (gs ke (by decide)) hu (by rw [eb];exact ⟨.bl !b,H,I,rfl,q⟩)
end
end L2
namespace L2
open PySem PySem.Spec PyProof.Rows
theorem pD (l:Addr) (items:Array Value) (n:Nat) (k:Int) (tk:Tok) (hk : -(2 ^ 63)≤k∧k<2 ^ 63) (dct:Option Addr) (sl:Array (Option Value)) :
  Meets (Builtin.«enumerate.__new__» ⟨[.type "enumerate",.ref l],[("start",.int k tk)]⟩) (fun _ R s=>s.heap.get? l=some { cls:=.type "list",dict:=dct,data:=.seq items n,slots:=sl } ∧
   R (.ok (.ret (.ref (s.heap.push { cls:=.type "list_iterator",data:=.fields #[.ref l,.int 0 0] }).objs.size)))
    { s with heap:=(s.heap.push { cls:=.type "list_iterator",data:=.fields #[.ref l,.int 0 0] }).push { cls:=.type "enumerate",data:=.fields #[.none,.bool false,.ref s.heap.objs.size,rawInt k,.none,.none] } }) :=
 .of_wp fun prog w A R s h=>by
  obtain ⟨hp,g,d,tk0,os⟩:=s
  obtain ⟨hl,h⟩:=h
  have hsub:=sub_enumerate
  have hL:Heap.IsList (Shared.heap ⟨hp,g,d,tk0,os⟩) l items:=⟨_,hl,rfl,n,rfl⟩
  have hfit:¬ ((!Builtin.SmallTypes.fitsIndex k)=true):=by
   unfold Builtin.SmallTypes.fitsIndex
   simp
   omega
  wp_walk using AutoSeq1.wpAny_loadPart' hl
  refine wpAny_stack_any fun st=>wpAny_pure ?_
  split
  ·rename_i c _ _ _ _ _
   cases (c == Value.type "enumerate")
   ·wp_walk using AutoSeq1.wpAny_loadPart' hl,wpAny_pyIter_list hL
    exact ⟨_,rfl,h⟩
   ·wp_walk using AutoSeq1.wpAny_loadPart' hl,wpAny_pyIter_list hL
    exact ⟨_,rfl,h⟩
  ·wp_walk using AutoSeq1.wpAny_loadPart' hl,wpAny_pyIter_list hL
   exact ⟨_,rfl,h⟩
theorem nC (a v:Value):checkTypeCall "enumerate" ⟨[a],[("start",v)]⟩=pure ():=by kernel_rfl
theorem nE (a v:Value):checkBuiltinCall "enumerate.__new__" ⟨[.type "enumerate",a],[("start",v)]⟩=pure ():=by kernel_rfl
theorem nG (a b v:Value):argsOk "object.__init__" ⟨[a,b],[("start",v)]⟩:=by
 unfold argsOk
 rw [signature?_of (n:=['_','_','t','i','n','i','_','_']) (o:=['t','c','e','j','b','o']) (id:="object.__init__") (by kernel_rfl) F.owner_object]
 kernel_rfl
theorem qD (self a:Value) (kw:List (Str×Value)) (hl:typeLookup (.type "enumerate") "__init__"=pure (some (.builtin "object.__init__"))) (hm:Bind.madeBy (.type "enumerate")=pure (some "enumerate.__new__")) :
  Meets (Builtin.«object.__init__» ⟨[self,a],kw⟩) (fun _ R s=>s.TypeIs self "enumerate"∧R (.ok (.ret .none)) s):=by
 refine Meets.of_wp fun prog w A R s hs=>?_
 obtain ⟨hT,hq⟩:=hs
 have hne:(some "enumerate.__new__" != some "object.__new__")=true:=by decide
 repeat (any_goals (first | assumption | wp_step))
 exact ⟨_,rfl,hq⟩
section
variable {prog : Program} {w : World} {A : Around} {E : Value → Shared → Prop} {s : Shared}
theorem nM {l:Addr}{items:Array Value}{k:Int}{tk:Tok}{Q:Value→Shared→Prop} (hk : -(2 ^ 63)≤k∧k<2 ^ 63) (hL:s.heap.IsList l items)
  (h:∀ h',IsEnum h' (s.heap.objs.size+1) s.heap.objs.size k .none→h'.IsListIter s.heap.objs.size l 0→(∀ b o,s.heap.get? b=some o→h'.get? b=some o)→Q (.ref (s.heap.objs.size+1)) { s with heap:=h' }) :
  wpAny (model prog w) A (call (.type "enumerate") [.ref l] [("start",.int k tk)]) Q E s:=by
 obtain ⟨⟨c,dct,dt,sl⟩,hl,hc,n,hd⟩:=hL
 replace hc:c=.type "list":=hc
 replace hd:dt=.seq items n:=hd
 subst hc hd
 have ft:=F.called_enumerate
 obtain ⟨c0,tl,hmro⟩:=ft.mro
 have hmade:=ft.made
 have hsub:=ft.sub
 have hct:=nC (.ref l) (.int k tk)
 refine wpAny_call (codeAny_of_tree ?_)
 show wpAny _ _ (callAny (.type "enumerate") _) _ _ _
 refine wpAny_pure ⟨Code.quiet_builtin _ (by decide +kernel),codeAny_builtin F.entry_type_call ?_⟩
 rw [Around.under_plain (weight_type_call_type "enumerate" [.ref l] [("start",.int k tk)]) (units_type_call_type "enumerate" [.ref l] [("start",.int k tk)])]
 have h1:=ft.notType
 have h2:=ft.canCreate
 repeat (any_goals (first | assumption | wp_step))
 refine codeAny_mono (codeAny_call_builtin ft.plain F.entry_enumerate_new (wpAny_of_eq (nE (.ref l) (.int k tk)) (pD l items n k tk hk dct sl prog w A.in1 (wants (fun obj s1=>s1.TypeIs obj "enumerate"∧Q obj s1) E) s ⟨hl,?_⟩))) fun r s1 hr=>?_
 ·have hz:(s.heap.push { cls:=.type "list_iterator",data:=.fields #[.ref l,.int 0 0] }).objs.size=s.heap.objs.size+1:=Heap.size_push ..
  show _∧_
  rw [hz]
  have he:IsEnum ((s.heap.push { cls:=.type "list_iterator",data:=.fields #[.ref l,.int 0 0] }).push { cls:=.type "enumerate",data:=.fields #[.none,.bool false,.ref s.heap.objs.size,rawInt k,.none,.none] }) (s.heap.objs.size+1) s.heap.objs.size k .none:=by
   have z:=Heap.get?_push_size (s.heap.push { cls:=.type "list_iterator",data:=.fields #[.ref l,.int 0 0] }) (o:={ cls:=.type "enumerate",data:=.fields #[.none,.bool false,.ref s.heap.objs.size,rawInt k,.none,.none] }) rfl
   rw [hz] at z
   exact z
  exact ⟨⟨_,he,rfl⟩,h _ he ⟨_,Heap.get?_push_of_some _ (Heap.get?_push_size _ rfl),rfl,rfl⟩ fun b o x=>Heap.get?_push_of_some _ (Heap.get?_push_of_some _ x)⟩
 ·cases r with
  | error e=>exact hr
  | ok fl =>
   cases fl with
   | ret obj =>
    obtain ⟨hT,hQ⟩:=hr
    have hli:=ft.init.lookup
    have hbi:=ft.init.bind obj
    repeat (any_goals (first | assumption | wp_step))
    refine codeAny_mono (codeAny_call_builtin ft.init.plain F.entry_object_init (ft.init.check _ _ _ _ _ _ _ _ hT (nG obj (.ref l) (.int k tk)) (qD obj (.ref l) [("start",.int k tk)] hli hmade prog w A.in1 (wants (fun r s2=>r=.none∧Q obj s2) E) s1 ⟨hT,rfl,hQ⟩))) fun r2 s2 hr2=>?_
    cases r2 with
    | error e=>exact hr2
    | ok fl2 =>
     cases fl2 with
     | ret r3 =>
      obtain ⟨e3,hq3⟩:=hr2
      subst e3
      repeat (any_goals (first | assumption | wp_step))
     | _=>exact hr2.elim
   | _=>exact hr.elim
end
def iEnumK (K:PySem.W.Frag) (ta:TA) (tk:TE):TI:=fun σ H R=>ta σ H fun vs H1=>tk σ H1 fun v H2=>∃ a xs,∃ k:Nat,vs=[.ref a]∧v=.int (k:Int)∧k<1000∧SqL K H2 a xs∧R (Ite K a k) H2
section
variable {X:Cx}
theorem n0 {elts:List Expr}{k1:Nat}{tp:Pos}{a e:Expr}{ta:TA}{te:TE}{p pos kp:Pos} (hg:Gl X "enumerate") (hm:X.mg "enumerate"=none) (ha:PA X [a] ta) (he:PE X e te) (hs:starEach [a] X.env=[(false,eval a X.env)]:=by rfl) :
  PI X (.Tuple elts k1 tp) (.Call (.Name "enumerate" p) [a] [⟨some "start",e,kp⟩] pos) (iEnumK X.K ta te):=by
 intro pins s σ H R I h
 have hz0:=ha pos pins s σ H _ I h
 rw [hs] at hz0
 refine wpAny_Call_Name_kw (eT I hg hm boot_enumerate ?_)
 rw [hs]
 unfold callWith
 refine wpAny_bind (wpAny_holding (evalArgs_kwB rfl (thn hz0 fun us s1 hq1=>?_)))
 obtain ⟨vs,H1,I1,r1,q1⟩:=hq1
 refine kws_cons (thn (he pins s1 σ H1 _ I1 q1) fun u s2 hq2=>kws_nil ?_)
 obtain ⟨v,H2,I2,r2,l,xs,k,e1,e2,hk,hq,q⟩:=hq2
 subst e1 e2
 obtain ⟨u1,rfl,ru⟩:=r1.one
 cases ru
 obtain ⟨tk,rfl⟩:=r2
 obtain ⟨its,rv,pl,hz⟩:=I2.list hq
 refine wpAny_bind (wpAny_standAt ?_)
 refine wpAny_bind (wpAny_pure ?_)
 refine wpAny_bind (nM (k:=(k:Int)) ⟨by omega,by omega⟩ pl.isList fun h' a1 a2 a4=>?_)
 refine wpAny_bind (wpAny_holding (wpAny_point (wpAny_pure ?_)))
 refine wpAny_pyIter_enum (s:={ s2 with heap:=h' }) a1 ?_
 refine ⟨_,[s2.heap.objs.size+1,s2.heap.objs.size],_,_,H2,rfl,I2.kept (t':=s2.toks) fun c o z=>a4 c o z,lj l _ _ k (by simp),⟨⟨_,a1⟩,a2⟩,?_,q⟩
 refine pB I2 (fun c hc=>I2.hok.fresh hc) fun c hc=>?_
 simp only [List.mem_cons,List.not_mem_nil,or_false] at hc
 rcases hc with z | z<;>rw [z]
 ·exact Nat.le_add_right _ _
 ·exact Nat.le_refl _
end
end L2
namespace L2
open PySem PySem.Spec PyProof.Rows
section
variable {P : Program} {w : World} {K : PySem.W.Frag} {mg : Str → Option Value} {base : Heap}
end
section
variable {X:Cx}{j k:Nat}{x:Str}{p pos:Pos}{e:Expr}{es:List Expr}{t:TA}{ps:List Str}{sp:Sp}
variable {pins:List (Addr×Obj)}{E':Value→Shared→Prop}{Ek:XK}{σ0:St}{C:Addr}
end
end L2
namespace L2
open PySem PySem.Spec PyProof.Rows
end L2
namespace Veil
open PySem L2
def primes9:List Int:=[5,7,11,13,17,19,23,29,31]
def bT (ns:List Int) (k:Int):Int:=ns.getD k.toNat 0
def dP (c k m:Int):Int:=(c%2147483647+12345)*(48271+6*k)%1000000007 / 7%m
theorem bJ {c k m:Int} (h:0<m):0≤dP c k m:=Int.emod_nonneg _ (by omega)
theorem eK {c k m:Int} (h:0<m):dP c k m<m:=Int.emod_lt_of_pos _ h
def tbP (c:Int):Int:=primes9.getD (c%9).toNat 0
def tbN (c:Int):Int:=3+c / 9%((if tbP c - 1<7 then tbP c - 1 else 7) - 2)
def tbF (c:Int):Int:=if 4<tbN c then (if c / 45%2=1 then 2 else 1) else 1
theorem p9 (c:Int):tbP c∈primes9:=by
 have h0:=Int.emod_nonneg c (show (9:Int)≠0 by decide)
 have h1:=Int.emod_lt_of_pos c (show (0:Int)<9 by decide)
 unfold tbP
 have h:(c%9).toNat<9:=by omega
 generalize (c%9).toNat=k at h
 match k,h with
 | 0,_ | 1,_ | 2,_ | 3,_ | 4,_ | 5,_ | 6,_ | 7,_ | 8,_=>decide
theorem eX (c:Int):tbP c=5∨tbP c=7∨tbP c=11∨tbP c=13∨tbP c=17∨tbP c=19∨tbP c=23∨tbP c=29∨tbP c=31:=by
 have h:=p9 c
 simpa [primes9] using h
theorem tbP_lo (c:Int):5≤tbP c:=by have:=eX c;omega
theorem tbP_hi (c:Int):tbP c≤31:=by have:=eX c;omega
theorem tbN_b (c:Int):3≤tbN c∧tbN c≤7∧tbN c<tbP c:=by
 have h:=eX c
 unfold tbN
 generalize hm:(if tbP c - 1<7 then tbP c - 1 else 7) - 2=m
 have hb:0<m∧m≤5∧m≤tbP c - 3:=by
  rw [← hm]
  split<;>omega
 have h0:=Int.emod_nonneg (c / 9) (show m≠0 by omega)
 have h1:=Int.emod_lt_of_pos (c / 9) hb.1
 omega
theorem tbF_b (c:Int):(tbF c=1∨tbF c=2)∧2*tbF c<tbN c:=by
 have h:=tbN_b c
 unfold tbF
 split
 ·split<;>omega
 ·omega
def isTB (p n f:Int):Bool :=
 if (!inV (.int p) (primes9.map V.int))=true then false else if (!inV (.int f) [.int 1,.int 2])=true then false else (decide (3≤n) && decide (n≤7)) && (decide (n<p) && decide (2*f<n))
theorem isTB_tb (c:Int):isTB (tbP c) (tbN c) (tbF c)=true:=by
 have h1:=tbN_b c
 obtain ⟨h2,h3⟩:=tbF_b c
 have e1:inV (.int (tbP c)) (primes9.map V.int)=true:=by
  rcases eX c with h | h | h | h | h | h | h | h | h<;>rw [h]<;>decide
 have e2:inV (.int (tbF c)) [.int 1,.int 2]=true:=by
  rcases h2 with h | h<;>rw [h]<;>decide
 unfold isTB
 rw [e1,e2]
 simp only [Bool.not_true,Bool.false_eq_true,if_false,Bool.and_eq_true,decide_eq_true_eq]
 omega
def bE:List Int→Int→Int
 | [],_=>0
 | r::rs,a=>r+a*bE rs a
def bB (p:Int):List Int→Int→Int
 | [],_=>0
 | r::rs,a=>(bB p rs a*a+r)%p
theorem cD {p:Int}:∀ (ns:List Int) (a:Int),bB p ns a=bE ns a%p
 | [],_=>by simp [bB,bE]
 | r::rs,a=>by
  rw [bB,cD rs a,bE,Int.add_emod,Int.mul_emod,Int.emod_emod_of_dvd _ (Int.dvd_refl p),← Int.mul_emod,← Int.add_emod,Int.mul_comm,Int.add_comm]
theorem jX {p:Int} (hp:0<p) (ns:List Int) (a:Int):0≤bB p ns a∧bB p ns a<p:=by
 rw [cD]
 exact ⟨Int.emod_nonneg _ (by omega),Int.emod_lt_of_pos _ hp⟩
end Veil
namespace Veil
open PySem L2
structure Blt (mg:Str→Option Value):Prop where
 len:mg "len"=none
 range:mg "range"=none
 isinstance:mg "isinstance"=none
 min:mg "min"=none
 list:mg "list"=none
 int:mg "int"=none
 bool:mg "bool"=none
 tuple:mg "tuple"=none
 reversed:mg "reversed"=none
 zip:mg "zip"=none
 set:mg "set"=none
 all:mg "all"=none
 sum:mg "sum"=none
 sorted:mg "sorted"=none
 enumerate:mg "enumerate"=none
structure Tab (K:PySem.W.Frag) (C:Addr):Prop where
 cl:Cls K C
 nP:NoAttr K C "prime"
 nH:NoAttr K C "hands"
 nF:NoAttr K C "few"
structure Pri (K:PySem.W.Frag) (mg:Str→Option Value) (pa:Addr):Prop where
 gPRIMES:mg "PRIMES"=some (.ref pa)
 sq:∀ H,SqT K H pa (primes9.map V.int)
theorem pri_mk {K:PySem.W.Frag}{mg:Str→Option Value}{pa:Addr}{dd:Option Addr}{its:Array Value}{n:Nat}{sl:Array (Option Value)} (g:mg "PRIMES"=some (.ref pa)) (l:K.lookup pa=some ⟨.type "tuple",dd,.seq its n,sl⟩)
  (v:Vals (primes9.map V.int) its.toList):Pri K mg pa:=⟨g,fun H=>.inr ⟨_,its,n,l,rfl,rfl,by have:=v.length;simp only [Array.length_toList] at this;rw [← this];decide,v⟩⟩
theorem nq1:¬ (("prime":Str)="few"):=by decide +kernel
theorem nq2:¬ (("prime":Str)="hands"):=by decide +kernel
theorem nq3:¬ (("hands":Str)="few"):=by decide +kernel
def tf (p n f:Int):List (Str×V):=dq "few" (.int f) (dq "hands" (.int n) (dq "prime" (.int p) []))
theorem gW (p n f:Int):(tf p n f).lookup ("prime":Str)=some (.int p):=by
 unfold tf
 rw [bQ,if_neg nq1,bQ,if_neg nq2,bQ,if_pos rfl]
theorem kX (p n f:Int):(tf p n f).lookup ("hands":Str)=some (.int n):=by
 unfold tf
 rw [bQ,if_neg nq3,bQ,if_pos rfl]
theorem tf_f (p n f:Int):(tf p n f).lookup ("few":Str)=some (.int f):=by
 unfold tf
 rw [bQ,if_pos rfl]
def TabAt (C:Addr) (H:Hp) (t:Addr) (p n f:Int):Prop:=∃ dx,H t=some (.ins C dx (tf p n f))
theorem TabAt.same {C:Addr}{H H':Hp}{t:Addr}{p n f:Int} (h:TabAt C H t p n f) (s:Same H H'):TabAt C H' t p n f:=let ⟨dx,e⟩:=h;⟨dx,s _ _ e⟩
theorem aj {H:Hp}{p:Addr} (h:H p=none) (o:HO):Same H (upd H p o):=fun b u q=>by rw [aB (aw q h)];exact q
theorem am {H H':Hp} (s:Same H H') {D:Addr}{o:HO} (h:H D=none):Same H (upd H' D o):=fun b u e=>by rw [aB (aw e h)];exact s b u e
theorem small {n:Nat} (h:n≤1000):n≤sizeLine:=Nat.le_of_lt (au h)
def ci (H:Hp) (Q:VK) (v:V):Prop:=∀ H',Same H H'→Q v H'
def mG (H:Hp) (Q:VK) (xs:List V):Prop:=∀ r H',Same H H'→H r=none→H' r=some (.lst xs)→Q (.ref r) H'
inductive spIsT (vs:List V) (H:Hp) (Q:VK) (E_:XK):Prop
 | mk (p n f:Int) (h0_:vs=[.int p,.int n,.int f]) (h1_:ci H Q (.bl (isTB p n f))):spIsT vs H Q E_
inductive lG (C:Addr) (vs:List V) (H:Hp) (Q:VK) (E_:XK):Prop
 | mk (t dx:Addr) (p n f:Int) (h0_:vs=[.ref t,.int p,.int n,.int f]) (h1_:H t=some (.ins C dx [])) (h2_:isTB p n f=true) (h3_:∀ H',(∀ b o,H b=some o→b≠t→H' b=some o)→TabAt C H' t p n f→Q .non H'):lG C vs H Q E_
inductive i0 (K:PySem.W.Frag) (C:Addr) (vs:List V) (H:Hp) (Q:VK) (E_:XK):Prop
 | mk (t r:Addr) (p n f a:Int) (ns:List Int) (h0_:vs=[.ref t,.ref r,.int a]) (h1_:TabAt C H t p n f) (h2_:0<p) (h3_:p≤31) (h4_:SqL K H r (ns.map V.int)) (h5_:ci H Q (.int (bB p ns a))):i0 K C vs H Q E_
inductive lI (K:PySem.W.Frag) (vs:List V) (H:Hp) (Q:VK) (E_:XK):Prop
 | mk (a:Addr) (ns:List Int) (k:Int) (h0_:vs=[.ref a,.int k]) (h1_:SqL K H a (ns.map V.int)) (h2_:0≤k) (h3_:ci H Q (.int (bT ns k))):lI K vs H Q E_
inductive qe (vs:List V) (H:Hp) (Q:VK) (E_:XK):Prop
 | mk (c k m:Int) (h0_:vs=[.int c,.int k,.int m]) (h1_:0<m) (h2_:ci H Q (.int (dP c k m))):qe vs H Q E_
def lD (C:Addr):Sp:=fun vs H Q _=>∃ c:Int,vs=[.int c]∧∀ t H',Same H H'→H t=none→TabAt C H' t (tbP c) (tbN c) (tbF c)→Q (.ref t) H'
def spLaw (K:PySem.W.Frag):Sp:=fun vs H Q _=>∃ (a:Addr) (ns:List Int),vs=[.ref a]∧SqL K H a (ns.map V.int)∧ns.length≤63∧∀ H',Q (.bl true) H'
theorem map_take {α:Type} (f:Nat→α) (n:Nat):((List.range n).map f)++[f n]=(List.range (n+1)).map f:=by rw [List.range_succ,List.map_append];rfl
theorem im {α:Type}{l:List α}{k:Nat}{x:α} (h:l[k]?=some x):l.drop k=x::l.drop (k+1):=by
 obtain ⟨h1,h2⟩:=List.getElem?_eq_some_iff.mp h
 rw [List.drop_eq_getElem_cons h1,h2]
theorem aT {ns:List Int}{i:Nat}{x:V} (h:(ns.map V.int)[i]?=some x):∃ v,x=.int v∧ns[i]?=some v:=by
 rw [List.getElem?_map] at h
 cases e:ns[i]? with
 | none=>rw [e] at h;cases h
 | some v=>rw [e] at h;exact ⟨v,(Option.some.inj h).symm,rfl⟩
def fw (p:Int) (n:Nat) (x:Int) (cs:List Int):List Int:=(List.range n).map fun i:Nat=>bB p (x::cs) (1+(i:Int))
theorem jU (p:Int) (n:Nat) (x:Int) (cs:List Int):(fw p n x cs).length=n:=by unfold fw;rw [List.length_map,List.length_range]
theorem nK (p:Int) (n:Nat) (x:Int) (cs:List Int):(fw p n x cs).map V.int++[.int (bB p (x::cs) (1+(n:Int)))]=(fw p (n+1) x cs).map V.int:=by
 unfold fw
 rw [← map_take,List.map_append]
 rfl
inductive mT (C:Addr) (vs:List V) (H:Hp) (Q:VK) (E_:XK):Prop
 | mk (t r:Addr) (p n f x:Int) (cs:List Int) (h0_:vs=[.ref t,.int x,.ref r]) (h1_:TabAt C H t p n f) (h2_:0<p) (h3_:p≤31) (h4_:0≤n) (h5_:n≤10) (h6_:H r=some (.lst (cs.map V.int))) (h7_:cs.length≤100) (h8_:mG H Q ((fw p n.toNat x cs).map V.int)):mT C vs H Q E_
end Veil
namespace Veil
open PySem L2
theorem qj:∀ p∈primes9,∀ a b:Nat,a<p.toNat→b<p.toNat→(a*b:Int)%p=0→a=0∨b=0:=by
 have h:(primes9.all fun p=>(List.range p.toNat).all fun a=>(List.range p.toNat).all fun b=>!(((a:Int)*(b:Int))%p == 0) || (a == 0 || b == 0))=true:=by decide +kernel
 intro p hp a b ha hb e
 have h1:=List.all_eq_true.mp (List.all_eq_true.mp (List.all_eq_true.mp h p hp) a (List.mem_range.mpr ha)) b (List.mem_range.mpr hb)
 rw [show (((a:Int)*(b:Int))%p == 0)=true from beq_iff_eq.mpr e,Bool.not_true,Bool.false_or,Bool.or_eq_true] at h1
 rcases h1 with h1 | h1
 ·exact .inl (beq_iff_eq.mp h1)
 ·exact .inr (beq_iff_eq.mp h1)
def bw (p x:Int):Int:=(((List.range (p - 1).toNat).map fun i:Nat=>1+(i:Int)).find? fun o=>decide (x*o%p=1)).getD 0
theorem rG:∀ p∈primes9,∀ a:Nat,a<p.toNat→a≠0→(1≤bw p a∧bw p a<p)∧(a:Int)*bw p a%p=1:=by
 have h:(primes9.all fun p=>(List.range p.toNat).all fun a=>(a == 0) || (decide (1≤bw p (a:Int)) && decide (bw p (a:Int)<p) && decide ((a:Int)*bw p (a:Int)%p=1)))=true:=by decide +kernel
 intro p hp a ha h0
 have h1:=List.all_eq_true.mp (List.all_eq_true.mp h p hp) a (List.mem_range.mpr ha)
 rw [show (a == 0)=false from beq_eq_false_iff_ne.mpr h0,Bool.false_or] at h1
 simp only [Bool.and_eq_true,decide_eq_true_eq] at h1
 exact ⟨⟨h1.1.1,h1.1.2⟩,h1.2⟩
theorem rJ (p x:Int):bw p (x%p)=bw p x:=by
 unfold bw
 congr 2
 funext o
 rw [Int.mul_emod,Int.emod_emod_of_dvd _ (Int.dvd_refl p),← Int.mul_emod]
theorem eQ {p x:Int} (hp:p∈primes9) (hx:x%p≠0):(1≤bw p x∧bw p x<p)∧x*bw p x%p=1:=by
 have p5:0<p:=by
  have:(primes9.all fun q=>decide (0<q))=true:=by decide +kernel
  exact of_decide_eq_true (List.all_eq_true.mp this p hp)
 have h0:=Int.emod_nonneg x (show p≠0 by omega)
 have h1:=Int.emod_lt_of_pos x p5
 have e:((x%p).toNat:Int)=x%p:=by omega
 have q:=rG p hp (x%p).toNat (by omega) (by omega)
 rw [e,rJ] at q
 have e2:x%p*bw p x%p=x*bw p x%p:=by rw [Int.mul_emod,Int.emod_emod_of_dvd _ (Int.dvd_refl p),← Int.mul_emod]
 rw [e2] at q
 exact q
theorem dom {p a b:Int} (hp:p∈primes9) (h:a*b%p=0):a%p=0∨b%p=0:=by
 have p5:0<p:=by
  have:(primes9.all fun q=>decide (0<q))=true:=by decide +kernel
  exact of_decide_eq_true (List.all_eq_true.mp this p hp)
 have a0:=Int.emod_nonneg a (show p≠0 by omega)
 have a1:=Int.emod_lt_of_pos a p5
 have b0:=Int.emod_nonneg b (show p≠0 by omega)
 have b1:=Int.emod_lt_of_pos b p5
 have q:=qj p hp (a%p).toNat (b%p).toNat (by omega) (by omega) (by
  rw [show ((a%p).toNat:Int)=a%p by omega,show ((b%p).toNat:Int)=b%p by omega,← Int.mul_emod]
  exact h)
 omega
def kW (p t:Int) (as bs:List Int):List Int:=List.zipWith (fun a b=>(a+t*b)%p) as bs
def dI (p x:Int) (s:List Int):List Int:=List.zipWith (fun b h=>(b - x*h)%p) (0::s) (s++[0])
def lA (p:Int) (rs:List Int×List Int) (q:Int×Int):List Int×List Int :=
 (kW p ((q.2 - bB p rs.1 q.1)*bw p (bB p rs.2 q.1)) (rs.1++[0]) rs.2,dI p q.1 rs.2)
def cZ (p:Int) (pts:List (Int×Int)):List Int×List Int:=pts.foldl (lA p) ([],[1])
def j1 (p:Int) (pts:List (Int×Int)):List Int:=(cZ p pts).1
theorem gc:∀ (s:List Int) (z:Int),bE (s++[0]) z=bE s z
 | [],z=>by simp [bE]
 | r::rs,z=>by simp only [List.cons_append,bE];rw [gc rs z]
theorem hG {p t:Int}:∀ (as bs:List Int) (z:Int),as.length=bs.length→bE (kW p t as bs) z%p=(bE as z+t*bE bs z)%p
 | [],[],z,_=>by simp [kW,bE]
 | a::as,b::bs,z,h=>by
  have ih:=hG (p:=p) (t:=t) as bs z (by simpa using h)
  show ((a+t*b)%p+z*bE (kW p t as bs) z)%p=_
  rw [Int.add_emod,Int.mul_emod,ih,← Int.mul_emod,Int.emod_emod_of_dvd _ (Int.dvd_refl p),← Int.add_emod]
  congr 1
  simp only [bE]
  rw [Int.mul_add,Int.mul_add,← Int.mul_assoc z t,Int.mul_comm z t,Int.mul_assoc t z]
  omega
 | [],_::_,_,h=>by simp at h
 | _::_,[],_,h=>by simp at h
theorem gj (p x:Int) (s:List Int):dI p x s=kW p (-x) (0::s) (s++[0]):=by
 unfold dI kW
 congr 1
 funext b h
 rw [Int.neg_mul,Int.sub_eq_add_neg]
theorem iy {p x:Int} (s:List Int) (z:Int):bE (dI p x s) z%p=(z - x)*bE s z%p:=by
 rw [gj,hG _ _ _ (by simp),gc]
 congr 1
 simp only [bE]
 rw [Int.zero_add,Int.neg_mul,Int.sub_mul]
 omega
theorem oH {p t:Int} (hp:0<p):∀ (as bs:List Int),∀ v∈kW p t as bs,0≤v∧v<p
 | [],_,v,h=>by simp [kW] at h
 | _::_,[],v,h=>by simp [kW] at h
 | a::as,b::bs,v,h=>by
  rcases List.mem_cons.mp (show v∈(a+t*b)%p::kW p t as bs from h) with e | e
  ·rw [e]
   exact ⟨Int.emod_nonneg _ (by omega),Int.emod_lt_of_pos _ hp⟩
  ·exact oH hp as bs v e
theorem gS {p t:Int} (as bs:List Int):(kW p t as bs).length=min as.length bs.length:=by unfold kW;rw [List.length_zipWith]
theorem ic (p x:Int) (s:List Int):(dI p x s).length=s.length+1:=by rw [gj,gS];simp
structure pH (p:Int) (pts:List (Int×Int)) (rs:List Int×List Int):Prop where
 l1:rs.1.length=pts.length
 l2:rs.2.length=pts.length+1
 b1:∀ v∈rs.1,0≤v∧v<p
 b2:∀ v∈rs.2,0≤v∧v<p
 row:∀ q∈pts,bE rs.1 q.1%p=q.2%p
 zer:∀ q∈pts,bE rs.2 q.1%p=0
 non:∀ z:Int,(∀ q∈pts,z%p≠q.1%p)→bE rs.2 z%p≠0
theorem p8 {p:Int} (hp:1<p):pH p [] ([],[1]) where
 l1:=rfl
 l2:=rfl
 b1:=fun v h=>nomatch h
 b2:=fun v h=>by
  have e:v=1:=by simpa using h
  omega
 row:=fun q h=>nomatch h
 zer:=fun q h=>nomatch h
 non:=fun z _=>by
  simp only [bE,Int.mul_zero,Int.add_zero]
  rw [Int.emod_eq_of_lt (by decide) hp]
  decide
theorem m3 {p:Int} (hp:p∈primes9):5≤p∧p≤31:=by
 have:(primes9.all fun q=>decide (5≤q) && decide (q≤31))=true:=by decide +kernel
 have h:=List.all_eq_true.mp this p hp
 simpa using h
theorem thr_step {p:Int} (hp:p∈primes9) {pts:List (Int×Int)}{rs:List Int×List Int} (h:pH p pts rs) {x y:Int} (hx:∀ q∈pts,x%p≠q.1%p):pH p (pts++[(x,y)]) (lA p rs (x,y)):=by
 have p5:=m3 hp
 have hlen:(rs.1++[0]).length=rs.2.length:=by rw [List.length_append,h.l1,h.l2];rfl
 have hw:bB p rs.2 x%p≠0:=by
  rw [cD,Int.emod_emod_of_dvd _ (Int.dvd_refl p)]
  exact h.non x hx
 have hbk:=eQ hp hw
 generalize ht:(y - bB p rs.1 x)*bw p (bB p rs.2 x)=t
 have e1:(lA p rs (x,y)).1=kW p t (rs.1++[0]) rs.2:=by rw [← ht];rfl
 have e2:(lA p rs (x,y)).2=dI p x rs.2:=rfl
 have er:∀ z,bE (lA p rs (x,y)).1 z%p=(bE rs.1 z+t*bE rs.2 z)%p:=fun z=>by rw [e1,hG _ _ _ hlen,gc]
 refine ⟨?_,?_,?_,?_,?_,?_,?_⟩
 ·rw [e1,gS,hlen,Nat.min_self,h.l2,List.length_append]
  rfl
 ·rw [e2,ic,h.l2,List.length_append]
  rfl
 ·rw [e1]
  exact oH (by omega) _ _
 ·rw [e2,gj]
  exact oH (by omega) _ _
 ·intro q hq
  rw [er]
  rcases List.mem_append.mp hq with hq | hq
  ·rw [Int.add_emod,Int.mul_emod,h.zer q hq,Int.mul_zero,Int.zero_emod,Int.add_zero,Int.emod_emod_of_dvd _ (Int.dvd_refl p)]
   exact h.row q hq
  ·have e:q=(x,y):=by simpa using hq
   subst e
   show (bE rs.1 x+t*bE rs.2 x)%p=y%p
   have w1:bB p rs.1 x=bE rs.1 x%p:=cD _ _
   have w2:bB p rs.2 x=bE rs.2 x%p:=cD _ _
   have k1:t*bE rs.2 x%p=(y - bB p rs.1 x)%p:=by
    rw [← ht,Int.mul_assoc,Int.mul_emod]
    have:bw p (bB p rs.2 x)*bE rs.2 x%p=1:=by
     have z:bE rs.2 x%p*bw p (bB p rs.2 x)%p=bE rs.2 x*bw p (bB p rs.2 x)%p:=by rw [Int.mul_emod,Int.emod_emod_of_dvd _ (Int.dvd_refl p),← Int.mul_emod]
     rw [Int.mul_comm,← z,← w2]
     exact hbk.2
    rw [this,Int.mul_one,Int.emod_emod_of_dvd _ (Int.dvd_refl p)]
   rw [Int.add_emod,k1,w1,← Int.add_emod]
   have:(bE rs.1 x+(y - bE rs.1 x%p))=y+(bE rs.1 x - bE rs.1 x%p):=by omega
   rw [this,show bE rs.1 x - bE rs.1 x%p=p*(bE rs.1 x / p) by have:=Int.emod_add_mul_ediv (bE rs.1 x) p;omega,Int.add_mul_emod_self_left]
 ·intro q hq
  rw [e2,iy]
  rcases List.mem_append.mp hq with hq | hq
  ·rw [Int.mul_emod,h.zer q hq,Int.mul_zero,Int.zero_emod]
  ·have e:q=(x,y):=by simpa using hq
   subst e
   show (x - x)*bE rs.2 x%p=0
   rw [Int.sub_self,Int.zero_mul,Int.zero_emod]
 ·intro z hz e
  rw [e2,iy] at e
  rcases dom hp e with e | e
  ·have hzx:=hz (x,y) (List.mem_append_right _ (List.mem_singleton.mpr rfl))
   exact hzx (Int.emod_eq_emod_iff_emod_sub_eq_zero.mpr e)
  ·exact h.non z (fun q hq=>hz q (List.mem_append_left _ hq)) e
theorem thr_ok {p:Int} (hp:p∈primes9):∀ (pre pts:List (Int×Int)) (rs:List Int×List Int),pH p pre rs→((pre++pts).map fun q=>q.1%p).Nodup→pH p (pre++pts) (pts.foldl (lA p) rs)
 | pre,[],rs,h,_=>by rw [List.append_nil];exact h
 | pre,(x,y)::r,rs,h,nd=>by
  have e:pre++(x,y)::r=(pre++[(x,y)])++r:=by simp
  rw [e] at nd ⊢
  refine thr_ok hp (pre++[(x,y)]) r _ (thr_step hp h fun q hq z=>?_) nd
  rw [List.map_append,List.map_append,List.append_assoc] at nd
  have:=List.nodup_append.mp nd
  exact this.2.2 (q.1%p) (List.mem_map.mpr ⟨q,hq,rfl⟩) (x%p) (List.mem_append_left _ (List.mem_map.mpr ⟨(x,y),List.mem_singleton.mpr rfl,rfl⟩)) z.symm
theorem oO {p:Int} (hp:p∈primes9) {pts:List (Int×Int)} (nd:(pts.map fun q=>q.1%p).Nodup):pH p pts (cZ p pts):=by
 have:=thr_ok hp [] pts ([],[1]) (p8 (by have:=m3 hp;omega)) nd
 unfold cZ
 simpa using this
end Veil
namespace Veil
open PySem L2
def PtsAt (H:Hp):List V→List (Int×Int)→Prop:=Paired fun v q=>∃ a,v=.ref a∧H a=some (.tup [.int q.1,.int q.2])
theorem PtsAt.same {H H':Hp} (s:Same H H') {vs:List V}{qs:List (Int×Int)} (h:PtsAt H vs qs):PtsAt H' vs qs:=Paired.mapP h fun v q ⟨a,e,z⟩=>⟨a,e,s _ _ z⟩
theorem PtsAt.get {H:Hp}:∀ {vs:List V}{qs:List (Int×Int)}{i:Nat}{x:V},PtsAt H vs qs→vs[i]?=some x→∃ a q,x=.ref a∧H a=some (.tup [.int q.1,.int q.2])∧qs[i]?=some q
 | _,_,_,_,.nil,e=>by simp at e
 | _,_,0,_,.cons ⟨a,r,z⟩ _,e=>by simp at e;subst e;exact ⟨a,_,r,z,rfl⟩
 | _,_,i+1,x,.cons _ t,e=>by
  obtain ⟨a,q,h1,h2,h3⟩:=PtsAt.get (i:=i) (x:=x) t (by simpa using e)
  exact ⟨a,q,h1,h2,by simpa using h3⟩
inductive nO (C:Addr) (vs:List V) (H:Hp) (Q:VK) (E_:XK):Prop
 | mk (t:Addr) (p n f x:Int) (h0_:vs=[.ref t,.int x]) (h1_:TabAt C H t p n f) (h2_:p∈primes9) (h3_:(0≤x∧x<p)) (h4_:x≠0) (h5_:ci H Q (.int (bw p x))):nO C vs H Q E_
inductive mU (C:Addr) (vs:List V) (H:Hp) (Q:VK) (E_:XK):Prop
 | mk (t r:Addr) (p n f:Int) (rs:List V) (qs:List (Int×Int)) (h0_:vs=[.ref t,.ref r]) (h1_:TabAt C H t p n f) (h2_:p∈primes9) (h3_:H r=some (.lst rs)) (h4_:PtsAt H rs qs) (h5_:qs.length≤100) (h6_:(qs.map fun q=>q.1%p).Nodup) (h7_:ci H Q .non):mU C vs H Q E_
inductive kf (C:Addr) (vs:List V) (H:Hp) (Q:VK) (E_:XK):Prop
 | mk (t r:Addr) (p n f x:Int) (ss:List Int) (h0_:vs=[.ref t,.ref r,.int x]) (h1_:TabAt C H t p n f) (h2_:p∈primes9) (h3_:H r=some (.lst (ss.map V.int))) (h4_:ss.length≤100) (h5_:(∀ v∈ss,0≤v∧v<p)) (h6_:mG H Q ((dI p x ss).map V.int)):kf C vs H Q E_
inductive i5 (C:Addr) (vs:List V) (H:Hp) (Q:VK) (E_:XK):Prop
 | mk (t r:Addr) (p n f:Int) (rs:List V) (qs:List (Int×Int)) (h0_:vs=[.ref t,.ref r]) (h1_:TabAt C H t p n f) (h2_:p∈primes9) (h3_:H r=some (.lst rs)) (h4_:PtsAt H rs qs) (h5_:qs.length≤50) (h6_:(qs.map fun q=>q.1%p).Nodup) (h7_:mG H Q ((j1 p qs).map V.int)):i5 C vs H Q E_
theorem ow:∀ (acc ns:List Int),(acc++ns).Nodup→ns.foldl PyProof.Rows.step_dedup acc=acc++ns
 | acc,[],_=>by simp
 | acc,x::r,h=>by
  have hx:¬ x∈acc:=fun hm=>by
   have:=(List.nodup_append.mp h).2.2 x hm x List.mem_cons_self
   exact this rfl
  have e:PyProof.Rows.step_dedup acc x=acc++[x]:=by
   unfold PyProof.Rows.step_dedup
   rw [if_neg]
   simpa using hx
  rw [List.foldl_cons,e,ow (acc++[x]) r (by simpa using h)]
  simp
theorem oV (ns:List Int):(List.range ns.length).map (fun i=>ns.getD i 0)=ns:=by
 apply List.ext_getElem?
 intro i
 rw [List.getElem?_map]
 by_cases h:i<ns.length
 ·rw [List.getElem?_range h]
  simp [List.getElem?_eq_getElem h]
 ·rw [List.getElem?_eq_none (by simpa using h),List.getElem?_eq_none (by simpa using h)]
  rfl
theorem fT {ns:List Int} (h:ns.Nodup):(PyProof.Rows.firstMet (fun i=>ns.getD i 0) ns.length).length=ns.length:=by
 unfold PyProof.Rows.firstMet
 rw [oV,ow [] ns (by simpa using h)]
 simp
theorem pO {α β γ:Type}{f:α→β→γ}:∀ {as:List α}{bs:List β}{i:Nat}{a:α}{b:β},as[i]?=some a→bs[i]?=some b→(List.zipWith f as bs)[i]?=some (f a b):=by
 intro as bs i a b h1 h2
 rw [List.getElem?_zipWith,h1,h2]
theorem cO {α:Type}{l:List α}{i:Nat}{x:α} (h:l[i]?=some x):l.take i++[x]=l.take (i+1):=by
 rw [List.take_add_one,h]
 rfl
end Veil
namespace Veil
open PySem L2
def pJ (n:Nat) (h:Int):List (Int×Int):=(List.range n).map fun i:Nat=>(1+(i:Int),if 1+(i:Int)=h then 1 else 0)
def mJ (p:Int) (n:Nat) (h:Int):Int:=bB p (j1 p (pJ n h)) 0
def cj (p:Int) (n:Nat):List Int:=(List.range n).map fun i:Nat=>mJ p n (1+(i:Int))
def preS (W:List Int) (g:Nat→Int):Nat→Int
 | 0=>0
 | i+1=>preS W g i+W.getD i 0*g i
def powsOk (p:Int) (n:Nat) (W:List Int):Bool:=(List.range n).all fun j=>decide (preS W (fun k=>(1+(k:Int)) ^ j) n%p=if j=0 then 1 else 0)
theorem kZ:(primes9.all fun p=>[3,4,5,6,7].all fun n:Nat=>!decide ((n:Int)<p) || (powsOk p n (cj p n) && (cj p n).all fun v=>decide (0≤v) && decide (v<p)))=true:=by decide +kernel
theorem ws_ok {p:Int}{n:Nat} (hp:p∈primes9) (h3:3≤n) (h7:n≤7) (hn:(n:Int)<p):powsOk p n (cj p n)=true∧∀ v∈cj p n,0≤v∧v<p:=by
 have h1:=List.all_eq_true.mp (List.all_eq_true.mp kZ p hp) n (by
  match n,h3,h7 with
  | 3,_,_ | 4,_,_ | 5,_,_ | 6,_,_ | 7,_,_=>simp)
 rw [decide_eq_true hn,Bool.not_true,Bool.false_or,Bool.and_eq_true] at h1
 refine ⟨h1.1,fun v hv=>?_⟩
 have:=List.all_eq_true.mp h1.2 v hv
 simpa using this
theorem k9 (p:Int) (n:Nat):(cj p n).length=n:=by unfold cj;rw [List.length_map,List.length_range]
theorem oJ {p:Int}{n:Nat} (h:Int) (hn:(n:Int)<p):((pJ n h).map fun q=>q.1%p).Nodup:=by
 unfold pJ
 rw [List.map_map]
 show List.Pairwise (·≠·) _
 rw [List.pairwise_map]
 refine List.Pairwise.imp_of_mem ?_ (show List.Pairwise (·≠·) (List.range n) from List.nodup_range)
 intro i j hi hj hne e
 have hi:=List.mem_range.mp hi
 have hj:=List.mem_range.mp hj
 have e:(1+(i:Int))%p=(1+(j:Int))%p:=e
 rw [Int.emod_eq_of_lt (by omega) (by omega),Int.emod_eq_of_lt (by omega) (by omega)] at e
 exact hne (by omega)
theorem wpts_len (n:Nat) (h:Int):(pJ n h).length=n:=by unfold pJ;rw [List.length_map,List.length_range]
theorem pP (n:Nat) (h:Int):pJ n h++[(1+(n:Int),if 1+(n:Int)=h then 1 else 0)]=pJ (n+1) h:=by unfold pJ;rw [← map_take]
theorem PtsAt.upd {H:Hp}{D:Addr}{o:HO}{ys:List V} (hD:H D=some (.lst ys)) {vs:List V}{qs:List (Int×Int)} (h:PtsAt H vs qs):PtsAt (L2.upd H D o) vs qs :=
 Paired.mapP h fun v q ⟨a,e,z⟩=>⟨a,e,by rw [aB (ne_of z hD (by intro w;cases w))];exact z⟩
theorem PtsAt.snoc {H:Hp}{vs:List V}{qs:List (Int×Int)} (h:PtsAt H vs qs) {a:Addr}{q:Int×Int} (z:H a=some (.tup [.int q.1,.int q.2])):PtsAt H (vs++[.ref a]) (qs++[q]):=Paired.snoc h ⟨a,rfl,z⟩
inductive j4 (C:Addr) (vs:List V) (H:Hp) (Q:VK) (E_:XK):Prop
 | mk (t:Addr) (p n f h:Int) (h0_:vs=[.ref t,.int h]) (h1_:TabAt C H t p n f) (h2_:p∈primes9) (h3_:0≤n) (h4_:n≤7) (h5_:n<p) (h6_:ci H Q (.int (mJ p n.toNat h))):j4 C vs H Q E_
inductive i3 (C:Addr) (vs:List V) (H:Hp) (Q:VK) (E_:XK):Prop
 | mk (t:Addr) (p n f:Int) (h0_:vs=[.ref t]) (h1_:TabAt C H t p n f) (h2_:p∈primes9) (h3_:0≤n) (h4_:n≤7) (h5_:n<p) (h6_:mG H Q ((cj p n.toNat).map V.int)):i3 C vs H Q E_
end Veil
namespace Veil
structure PtsOk (p:Int) (pts:List (Int×Int)):Prop where
 nd:(pts.map fun q=>q.1%p).Nodup
 yb:∀ q∈pts,0≤q.2∧q.2<p
end Veil
namespace Veil
end Veil
namespace Veil
end Veil
namespace Veil
structure LieSt (p:Int) (n:Nat) (row li:List Int) (os:List (Option Int)):Prop where
 len:os.length=n
 nd:li.Nodup
 lb:∀ h∈li,1≤h∧h≤n
 lie:∀ h∈li,∃ y,os[(h - 1).toNat]?=some (some y)∧(0≤y∧y<p)∧y≠bB p row h
 hon:∀ i:Nat,i<n→(1+(i:Int))∉li→os[i]?=some none∨os[i]?=some (some (bB p row (1+(i:Int))))
end Veil
namespace Veil
open PySem L2
end Veil
namespace Veil
open PySem L2
end Veil
namespace Veil
open PySem L2
theorem cut_to {xs:List V}{k:Nat}:ju xs none (some (k:Int))=xs.take k:=by
 unfold ju
 rw [HT.sIx_none,HT.sIx_nat,List.drop_zero,Nat.sub_zero]
 rcases Nat.le_total k xs.length with h | h
 ·rw [Nat.min_eq_left h]
 ·rw [Nat.min_eq_right h,List.take_length,List.take_of_length_le h]
theorem fO {xs:List V}{k:Nat}:ju xs (some (k:Int)) none=xs.drop k:=by
 unfold ju
 rw [HT.sIx_none,HT.sIx_nat]
 rcases Nat.le_total k xs.length with h | h
 ·rw [Nat.min_eq_left h,List.take_of_length_le (by rw [List.length_drop];exact Nat.le_refl _)]
 ·rw [Nat.min_eq_right h,List.drop_length,List.drop_eq_nil_of_le h,List.take_nil]
end Veil
namespace Veil
open PySem L2
def sd:Option Int→PySem.W.Dat
 | none=>.none
 | some i=>.int i
theorem jP {α β:Type}{R:α→β→Prop}:∀ {a b:List α}{c d:List β},Paired R a c→Paired R b d→Paired R (a++b) (c++d)
 | _,_,_,_,.nil,g=>g
 | _,_,_,_,.cons h t,g=>.cons h (jP t g)
theorem fN {α β:Type}{R:α→β→Prop}:∀ {a:List α}{c:List β}{i:Nat}{x:α},Paired R a c→a[i]?=some x→∃ y,c[i]?=some y∧R x y
 | _,_,_,_,.nil,e=>by simp at e
 | _,_,0,_,.cons h _,e=>by simp at e;subst e;exact ⟨_,rfl,h⟩
 | _,_,i+1,x,.cons _ t,e=>by
  obtain ⟨y,h1,h2⟩:=fN (i:=i) (x:=x) t (by simpa using e)
  exact ⟨y,by simpa using h1,h2⟩
theorem eP (x:Int):∀ (li:List Int),inV (.int x) (li.map V.int)=decide (x∈li)
 | []=>by simp [inV]
 | y::r=>by
  have ih:=eP x r
  unfold inV at ih ⊢
  rw [List.map_cons,List.any_cons,ih]
  have e:eqV (.int y) (.int x)=decide (y=x):=by
   show (y == x)=decide (y=x)
   by_cases h:y=x<;>simp [h]
  rw [e]
  by_cases h:y=x
  ·simp [h]
  ·have h':¬ x=y:=fun z=>h z.symm
   simp [h,h']
theorem gN:∀ (li:List Int),(li.map V.int).all kR=true
 | []=>rfl
 | _::r=>by rw [List.map_cons,List.all_cons,gN r];rfl
theorem jJ {n:Nat}{k:Int} (h0:0≤k) (h1:k<n):ixN n k=some k.toNat:=by
 unfold ixN
 rw [if_pos h0,if_pos h1]
end Veil
namespace Veil
end Veil
namespace L2
open PySem PySem.Spec PyProof.Rows
open PySem.W (Dat kqdP kqdPs kqdOk)
section
variable {X:Cx}
theorem kK (K:PySem.W.Frag) (hK:X.K=K:=by rfl):OpR X (compareOp .NotIn) (rIn K true):=by
 subst hK
 exact fj
theorem kU (K:PySem.W.Frag) (hK:X.K=K:=by rfl):CallR X (.type "list") (fun xs H Q=>∃ (p:Addr) (ys:List V),xs=[.ref p]∧(SqL K H p ys∨SqT K H p ys)∧∀ l:Addr,H l=none→Q (.ref l) (upd H l (.lst ys))):=by
 subst hK
 exact my
end
end L2
namespace Veil
open PySem L2
theorem jg {α β:Type}{R:α→β→Prop}:∀ {a:List α}{b:List β} (n:Nat),Paired R a b→Paired R (a.take n) (b.take n)
 | _,_,0,_=>by simp only [List.take_zero];exact .nil
 | _,_,_+1,.nil=>by simp only [List.take_nil];exact .nil
 | _,_,n+1,.cons h t=>by simp only [List.take_succ_cons];exact .cons h (jg n t)
structure OsOk (p n:Int) (os:List (Option Int)):Prop where
 len:os.length=n.toNat
 b:∀ (i:Nat) (y:Int),os[i]?=some (some y)→0≤y∧y<p
theorem took (xs:List Int) (k:Nat):ju (xs.map V.int) none (some (k:Int))=(xs.take k).map V.int:=by rw [cut_to,List.map_take]
end Veil
namespace Veil
open PySem L2
inductive Stp where
 | ein (h:Int)
 | fix (x:Int)
 | bye (a x:Int)
 | sum (a b:Int)
 | less (a b:Int)
 | mul (a b:Int)
 | anew (a:Int)
 | opn (a:Int)
 deriving DecidableEq
def Stp.vs:Stp→List V
 | .ein h=>[.str "in",.int h]
 | .fix x=>[.str "fix",.int x]
 | .bye a x=>[.str "by",.int a,.int x]
 | .sum a b=>[.str "sum",.int a,.int b]
 | .less a b=>[.str "less",.int a,.int b]
 | .mul a b=>[.str "mul",.int a,.int b]
 | .anew a=>[.str "anew",.int a]
 | .opn a=>[.str "open",.int a]
def Stp.dat:Stp→PySem.W.Dat
 | .ein h=>.tuple [.str "in",.int h]
 | .fix x=>.tuple [.str "fix",.int x]
 | .bye a x=>.tuple [.str "by",.int a,.int x]
 | .sum a b=>.tuple [.str "sum",.int a,.int b]
 | .less a b=>.tuple [.str "less",.int a,.int b]
 | .mul a b=>.tuple [.str "mul",.int a,.int b]
 | .anew a=>.tuple [.str "anew",.int a]
 | .opn a=>.tuple [.str "open",.int a]
theorem Stp.ok (s:Stp):PySem.W.kqdOk 7 s.dat=true:=by cases s<;>simp [Stp.dat,PySem.W.kqdOk]<;>decide +kernel
theorem Stp.ok8 (s:Stp):PySem.W.kqdOk 8 s.dat=true:=by cases s<;>simp [Stp.dat,PySem.W.kqdOk]<;>decide +kernel
theorem Stp.rep {H:Hp}{a:Addr}{s:Stp} (h:H a=some (.tup s.vs)):RepD H (.ref a) s.dat:=by
 cases s
 case ein=>exact .tup h (.cons (.str _) (.cons (.int _) .nil))
 case fix=>exact .tup h (.cons (.str _) (.cons (.int _) .nil))
 case bye=>exact .tup h (.cons (.str _) (.cons (.int _) (.cons (.int _) .nil)))
 case sum=>exact .tup h (.cons (.str _) (.cons (.int _) (.cons (.int _) .nil)))
 case less=>exact .tup h (.cons (.str _) (.cons (.int _) (.cons (.int _) .nil)))
 case mul=>exact .tup h (.cons (.str _) (.cons (.int _) (.cons (.int _) .nil)))
 case anew=>exact .tup h (.cons (.str _) (.cons (.int _) .nil))
 case opn=>exact .tup h (.cons (.str _) (.cons (.int _) .nil))
theorem dat_ein {s:Stp}{h:Int}:s.dat=(Stp.ein h).dat↔s=.ein h:=by
 constructor
 ·intro e
  cases s
  case ein x =>
   injection e with e
   injection e with _ e
   injection e with e _
   injection e with e
   rw [e]
  all_goals
   exfalso
   injection e with e
   injection e with e _
   injection e with e
   revert e
   decide +kernel
 ·rintro rfl
  rfl
def StpsAt (H:Hp):List V→List Stp→Prop:=Paired fun v s=>∃ a,v=.ref a∧H a=some (.tup s.vs)
theorem StpsAt.same {H H':Hp} (s:Same H H') {vs:List V}{ss:List Stp} (h:StpsAt H vs ss):StpsAt H' vs ss:=Paired.mapP h fun v q ⟨a,e,z⟩=>⟨a,e,s _ _ z⟩
theorem StpsAt.get {H:Hp}{vs:List V}{ss:List Stp}{i:Nat}{x:V} (h:StpsAt H vs ss) (e:vs[i]?=some x):∃ a s,x=.ref a∧H a=some (.tup s.vs)∧ss[i]?=some s:=by
 obtain ⟨s,h1,a,h2,h3⟩:=fN h e
 exact ⟨a,s,h2,h3,h1⟩
theorem StpsAt.snoc {H:Hp}{vs:List V}{ss:List Stp} (h:StpsAt H vs ss) {a:Addr}{s:Stp} (z:H a=some (.tup s.vs)):StpsAt H (vs++[.ref a]) (ss++[s]):=Paired.snoc h ⟨a,rfl,z⟩
theorem StpsAt.upd {H:Hp}{l:Addr}{c c':List V} (hl:H l=some (.lst c)) {vs:List V}{ss:List Stp} (h:StpsAt H vs ss):StpsAt (L2.upd H l (.lst c')) vs ss:=Paired.mapP h fun v q ⟨a,e,z⟩=>⟨a,e,by
 rw [aB fun y=>by rw [y,hl] at z;cases z]
 exact z⟩
theorem StpsAt.rep {H:Hp}:∀ {vs:List V}{ss:List Stp},StpsAt H vs ss→RepDs H vs (ss.map Stp.dat)
 | _,_,.nil=>.nil
 | _,_,.cons ⟨_,e,z⟩ t=>by rw [e];exact .cons (Stp.rep z) (StpsAt.rep t)
def cP (c at_ p n:Int):Stp :=
 if at_=0∨dP c 1 9<2 then .ein (1+dP c 2 n)
 else if dP c 1 9=2 then .fix (dP c 5 p)
 else if dP c 1 9=3 then .bye (dP c 3 at_) (dP c 5 p)
 else if dP c 1 9<6 then (if dP c 1 9=4 then .sum (dP c 3 at_) (dP c 4 at_) else .less (dP c 3 at_) (dP c 4 at_))
 else if dP c 1 9=6 then .mul (dP c 3 at_) (dP c 4 at_)
 else if dP c 1 9=7 then .anew (dP c 3 at_) else .opn (dP c 3 at_)
def Stp.Right (p n k:Int):Stp→Prop
 | .ein h=>1≤h∧h≤n
 | .fix x=>0≤x∧x<p
 | .bye a x=>(0≤a∧a<k)∧0≤x∧x<p
 | .sum a b=>(0≤a∧a<k)∧0≤b∧b<k
 | .less a b=>(0≤a∧a<k)∧0≤b∧b<k
 | .mul a b=>(0≤a∧a<k)∧0≤b∧b<k
 | .anew a=>0≤a∧a<k
 | .opn a=>0≤a∧a<k
theorem iw {c at_ p n:Int} (hp:0<p) (hn:0<n) (ha:0≤at_):(cP c at_ p n).Right p n at_:=by
 unfold cP
 have h2:=bJ (c:=c) (k:=2) hn
 have h2':=eK (c:=c) (k:=2) hn
 by_cases h:at_=0∨dP c 1 9<2
 ·rw [if_pos h]
  exact ⟨by omega,by omega⟩
 rw [if_neg h]
 have a0:0<at_:=by omega
 have h3:=bJ (c:=c) (k:=3) a0
 have h3':=eK (c:=c) (k:=3) a0
 have h4:=bJ (c:=c) (k:=4) a0
 have h4':=eK (c:=c) (k:=4) a0
 have h5:=bJ (c:=c) (k:=5) hp
 have h5':=eK (c:=c) (k:=5) hp
 repeat' split
 all_goals simp only [Stp.Right];omega
inductive iO (C:Addr) (vs:List V) (H:Hp) (Q:VK) (E_:XK):Prop
 | mk (t:Addr) (c at_ p n f:Int) (h0_:vs=[.int c,.int at_,.ref t]) (h1_:TabAt C H t p n f) (h2_:0<p) (h3_:0<n) (h4_:0≤at_) (h5_:∀ d H',Same H H'→H d=none→H' d=some (.tup (cP c at_ p n).vs)→Q (.ref d) H'):iO C vs H Q E_
def dE (ns:List Int) (st:Int) (k:Nat) (p n:Int):List Stp:=(List.range k).map fun i:Nat=>cP (bT ns (st+(i:Int))) (i:Int) p n
inductive i6 (K:PySem.W.Frag) (C:Addr) (vs:List V) (H:Hp) (Q:VK) (E_:XK):Prop
 | mk (a t:Addr) (ns:List Int) (st m p n f:Int) (h0_:vs=[.ref a,.int st,.int m,.ref t]) (h1_:SqL K H a (ns.map V.int)) (h2_:0≤st) (h3_:0≤m) (h4_:m≤100) (h5_:TabAt C H t p n f) (h6_:0<p) (h7_:0<n) (h8_:∀ d H' ws,Same H H'→H d=none→H' d=some (.lst ws)→StpsAt H' ws (dE ns st m.toNat p n)→Q (.ref d) H'):i6 K C vs H Q E_
def aR (ss:List Stp) (h:Int):Nat:=(ss.filter fun s=>decide (s=.ein h)).length
inductive lC (vs:List V) (H:Hp) (Q:VK) (E_:XK):Prop
 | mk (a:Addr) (h:Int) (ws:List V) (ss:List Stp) (h0_:vs=[.ref a,.int h]) (h1_:H a=some (.lst ws)) (h2_:StpsAt H ws ss) (h3_:ss.length≤100) (h4_:ci H Q (.int (aR ss h:Int))):lC vs H Q E_
theorem iY {ss:List Stp}{h:Int}{i:Nat}{s:Stp} (e:ss[i]?=some s):aR (ss.take (i+1)) h=aR (ss.take i) h+(if s=.ein h then 1 else 0):=by
 unfold aR
 rw [List.take_add_one,e,List.filter_append,List.length_append]
 congr 1
 by_cases c:s=.ein h<;>simp [c]
theorem j0 (ss:List Stp) (h:Int):aR ss h≤ss.length:=List.length_filter_le _ _
end Veil
namespace Veil
open PySem L2
def Stp.word:Stp→Str
 | .ein _=>"in"
 | .fix _=>"fix"
 | .bye _ _=>"by"
 | .sum _ _=>"sum"
 | .less _ _=>"less"
 | .mul _ _=>"mul"
 | .anew _=>"anew"
 | .opn _=>"open"
theorem Stp.at0 (s:Stp):atI s.vs 0=some (.str s.word):=by cases s<;>rfl
theorem jY (s:Stp):s.word="open"↔∃ a,s=.opn a:=by
 cases s
 case opn a=>exact ⟨fun _=>⟨a,rfl⟩,fun _=>rfl⟩
 all_goals exact ⟨fun h=>absurd h (by simp only [Stp.word];decide +kernel),fun ⟨_,h⟩=>nomatch h⟩
def Stp.need (n:Int):Stp→Int
 | .ein _=>1
 | .mul _ _=>n
 | .anew _=>n
 | _=>0
theorem qG {n:Int} (h0:0≤n) (h1:n≤10) (s:Stp):0≤s.need n∧s.need n≤10:=by cases s<;>simp only [Stp.need]<;>omega
abbrev kIn:Key:=Sum.inr (Str.ofString "in")
abbrev nq:Key:=Sum.inr (Str.ofString "mul")
abbrev ij:Key:=Sum.inr (Str.ofString "anew")
theorem need_get {n:Int} (s:Stp):(mK (iB [] [(kIn,V.int 1),(nq,V.int n),(ij,V.int n)]) (Sum.inr s.word:Key)).getD (.int 0)=.int (s.need n):=by
 have e:iB [] [(kIn,V.int 1),(nq,V.int n),(ij,V.int n)]=[(kIn,V.int 1),(nq,V.int n),(ij,V.int n)]:=by
  unfold iB
  simp only [List.foldl_cons,List.foldl_nil]
  rw [show pK ([]:List (Key×V)) (kIn) (V.int 1)=[(kIn,V.int 1)] from rfl]
  rw [show pK [(kIn,V.int 1)] (nq) (V.int n)=[(kIn,V.int 1),(nq,V.int n)] by unfold pK;rw [if_neg (by simp only [List.any_cons,List.any_nil];decide +kernel)];rfl]
  unfold pK
  rw [if_neg (by
   show ¬ (decide (kIn=ij) || (decide (nq=ij) || false))=true
   clear n
   decide +kernel)]
  rfl
 rw [e]
 have ne1:¬ (kIn=nq):=by decide +kernel
 have ne2:¬ (kIn=ij):=by decide +kernel
 have ne3:¬ (nq=ij):=by decide +kernel
 unfold mK
 have look:∀ k:Key,List.find? (fun kv=>decide (kv.1=k)) [(kIn,V.int 1),(nq,V.int n),(ij,V.int n)]=if kIn=k then some (kIn,V.int 1) else if nq=k then some (nq,V.int n) else if ij=k then some (ij,V.int n) else none:=fun k=>by
  simp only [List.find?_cons,List.find?_nil]
  by_cases h1:kIn=k
  ·simp [h1]
  by_cases h2:nq=k
  ·simp [h1,h2]
  by_cases h3:ij=k
  ·simp [h1,h2,h3]
  ·simp [h1,h2,h3]
 rw [look]
 cases s
 case ein=>rw [if_pos (show kIn=Sum.inr (Stp.word (.ein _)) from rfl)];rfl
 case mul=>rw [if_neg (show ¬ kIn=Sum.inr (Stp.word (.mul _ _)) from ne1),if_pos (show nq=Sum.inr (Stp.word (.mul _ _)) from rfl)];rfl
 case anew=>rw [if_neg (show ¬ kIn=Sum.inr (Stp.word (.anew _)) from ne2),if_neg (show ¬ nq=Sum.inr (Stp.word (.anew _)) from ne3),if_pos (show ij=Sum.inr (Stp.word (.anew _)) from rfl)];rfl
 all_goals
  rw [if_neg (by simp only [Stp.word];decide +kernel),if_neg (by simp only [Stp.word];decide +kernel),if_neg (by simp only [Stp.word];decide +kernel)]
  rfl
def bg (f n:Int):List Stp→Int
 | []=>0
 | s::r=>f*s.need n+bg f n r
theorem me (f n:Int):∀ (a b:List Stp),bg f n (a++b)=bg f n a+bg f n b
 | [],b=>by simp [bg]
 | s::a,b=>by
  rw [List.cons_append,bg,bg,me f n a b]
  omega
theorem pd {f n:Int}{ss:List Stp}{i:Nat}{s:Stp} (e:ss[i]?=some s):bg f n (ss.take (i+1))=bg f n (ss.take i)+f*s.need n:=by
 rw [List.take_add_one,e,me]
 simp [bg]
theorem ni {f n:Int} (hf:0≤f) (hf2:f≤2) (h0:0≤n) (h1:n≤10):∀ ss:List Stp,0≤bg f n ss∧bg f n ss≤20*ss.length
 | []=>by simp [bg]
 | s::r=>by
  have ih:=ni hf hf2 h0 h1 r
  have hb:=qG h0 h1 s
  rw [bg,List.length_cons]
  have h2:0≤f*s.need n:=Int.mul_nonneg hf hb.1
  have h3:f*s.need n≤2*10:=Int.mul_le_mul hf2 hb.2 hb.1 (by decide)
  omega
inductive mS (C:Addr) (vs:List V) (H:Hp) (Q:VK) (E_:XK):Prop
 | mk (a t:Addr) (p n f:Int) (ws:List V) (ss:List Stp) (h0_:vs=[.ref a,.ref t]) (h1_:TabAt C H t p n f) (h2_:(0≤f∧f≤2)) (h3_:(0≤n∧n≤10)) (h4_:H a=some (.lst ws)) (h5_:StpsAt H ws ss) (h6_:ci H Q (.int (bg f n ss))):mS C vs H Q E_
def fR:Stp→Stp
 | .opn a=>.anew a
 | s=>s
theorem quiet_no {s:Stp} (h:¬ ∃ a,s=.opn a):fR s=s:=by
 cases s
 case opn a=>exact absurd ⟨a,rfl⟩ h
 all_goals rfl
def NewStps (H:Hp) (Q:VK) (ss:List Stp):Prop:=∀ d H' ws,Same H H'→H d=none→H' d=some (.lst ws)→StpsAt H' ws ss→Q (.ref d) H'
inductive mQ (vs:List V) (H:Hp) (Q:VK) (E_:XK):Prop
 | mk (a:Addr) (ws:List V) (ss:List Stp) (h0_:vs=[.ref a]) (h1_:H a=some (.lst ws)) (h2_:StpsAt H ws ss) (h3_:ss.length≤100) (h4_:NewStps H Q (ss.map fR)):mQ vs H Q E_
def dj (c p:Int) (k:Nat):List Int:=(List.range k).map fun i:Nat=>dP c (200+(i:Int)) p
inductive gY (C:Addr) (vs:List V) (H:Hp) (Q:VK) (E_:XK):Prop
 | mk (a t:Addr) (c p n f:Int) (ws:List V) (ss:List Stp) (h0_:vs=[.int c,.ref a,.ref t]) (h1_:TabAt C H t p n f) (h2_:0<p) (h3_:(0≤f∧f≤2)) (h4_:(0≤n∧n≤10)) (h5_:H a=some (.lst ws)) (h6_:StpsAt H ws ss) (h7_:ss.length≤40) (h8_:mG H Q ((dj c p (bg f n ss).toNat).map V.int)):gY C vs H Q E_
def InsAt (H:Hp):List Addr→List (List Int)→Prop:=Paired fun a r=>H a=some (.lst (r.map V.int))
theorem InsAt.same {H H':Hp} (s:Same H H') {as:List Addr}{rs:List (List Int)} (h:InsAt H as rs):InsAt H' as rs:=Paired.mapP h fun a r z=>s _ _ z
theorem InsAt.there {H:Hp}:∀ {as:List Addr}{rs:List (List Int)}{l:Addr},InsAt H as rs→H l=none→l∉as
 | _,_,_,.nil,_,h=>nomatch h
 | _,_,l,.cons z t,hl,h=>by
  rcases List.mem_cons.mp h with e | e
  ·rw [← e,hl] at z
   cases z
  ·exact InsAt.there t hl e
theorem InsAt.off {H:Hp}{l:Addr}{o:HO}:∀ {as:List Addr}{rs:List (List Int)},InsAt H as rs→l∉as→InsAt (L2.upd H l o) as rs
 | _,_,.nil,_=>.nil
 | _,_,.cons z t,h=>.cons (by rw [aB (fun e=>h (by rw [e];exact List.mem_cons_self))];exact z) (InsAt.off t fun e=>h (List.mem_cons_of_mem _ e))
theorem InsAt.snoc {H:Hp}{as:List Addr}{rs:List (List Int)} (h:InsAt H as rs) {a:Addr}{r:List Int} (z:H a=some (.lst (r.map V.int))):InsAt H (as++[a]) (rs++[r]):=Paired.snoc h z
theorem ie {α:Type}{as:List α}{a:α} (h:as.Nodup) (n:a∉as):(as++[a]).Nodup:=by
 refine List.nodup_append.mpr ⟨h,by simp,fun x hx y hy e=>?_⟩
 have:y=a:=by simpa using hy
 rw [e,this] at hx
 exact n hx
def inBy (c p:Int) (ss:List Stp) (h:Int):List Int:=(List.range ((aR ss h:Int)+dP c (60+h) 2).toNat).map fun k:Nat=>dP c (70+9*h+(k:Int)) p
def bp (c p:Int) (ss:List Stp) (n:Nat):List (List Int):=(List.range n).map fun i:Nat=>inBy c p ss (1+(i:Int))
def NewIns (H:Hp) (Q:VK) (rs:List (List Int)):Prop:=∀ d H' as,Same H H'→H d=none→H' d=some (.lst (as.map V.ref))→as.Nodup→d∉as→(∀ a∈as,H a=none)→InsAt H' as rs→Q (.ref d) H'
inductive gX (C:Addr) (vs:List V) (H:Hp) (Q:VK) (E_:XK):Prop
 | mk (a t:Addr) (c p n f:Int) (ws:List V) (ss:List Stp) (h0_:vs=[.int c,.ref a,.ref t]) (h1_:TabAt C H t p n f) (h2_:0<p) (h3_:(0≤n∧n≤10)) (h4_:H a=some (.lst ws)) (h5_:StpsAt H ws ss) (h6_:ss.length≤100) (h7_:NewIns H Q (bp c p ss n.toNat)):gX C vs H Q E_
end Veil
namespace Veil
open PySem L2
def bL (rest:List (List Int)) (h:Int):List Int:=rest.getD (h - 1).toNat []
def lq (p:Int) (rest:List (List Int)) (fd:List Int):Stp→Int
 | .ein h=>(bL rest h).headD 0
 | .fix x=>x
 | .bye a x=>fd.getD a.toNat 0*x%p
 | .sum a b=>(fd.getD a.toNat 0+fd.getD b.toNat 0)%p
 | .less a b=>(fd.getD a.toNat 0 - fd.getD b.toNat 0)%p
 | .mul a b=>fd.getD a.toNat 0*fd.getD b.toNat 0%p
 | .anew a=>fd.getD a.toNat 0
 | .opn a=>fd.getD a.toNat 0
def dU (rest:List (List Int)):Stp→List (List Int)
 | .ein h=>rest.set (h - 1).toNat (bL rest h).tail
 | _=>rest
def eI (p:Int):List Stp→List (List Int)→List Int→List Int
 | [],_,fd=>fd
 | s::r,rest,fd=>eI p r (dU rest s) (fd++[lq p rest fd s])
def bq (p:Int) (ss:List Stp) (inp:List (List Int)):List Int:=eI p ss inp []
def dw (p n:Int) (ss:List Stp):Prop:=∀ (i:Nat) (s:Stp),ss[i]?=some s→s.Right p n (i:Int)
structure InsOk (p n:Int) (ss:List Stp) (inp:List (List Int)):Prop where
 len:inp.length=n.toNat
 b:∀ r∈inp,∀ x∈r,0≤x∧x<p
 en:∀ h,1≤h→h≤n→aR ss h≤(bL inp h).length
structure PlSt (p n:Int) (ss:List Stp) (inp:List (List Int)) (i:Nat) (rest:List (List Int)) (fd:List Int):Prop where
 ok:InsOk p n (ss.drop i) rest
 fl:fd.length=i
 fb:∀ x∈fd,0≤x∧x<p
 go:eI p (ss.drop i) rest fd=bq p ss inp
theorem PlSt.start {p n:Int}{ss:List Stp}{inp:List (List Int)} (h:InsOk p n ss inp):PlSt p n ss inp 0 inp []:=⟨by rw [List.drop_zero];exact h,rfl,(fun x hx=>nomatch hx),by rw [List.drop_zero];rfl⟩
theorem ck (s:Stp) (r:List Stp) (h:Int):aR (s::r) h=(if s=.ein h then 1 else 0)+aR r h:=by
 unfold aR
 rw [List.filter_cons]
 by_cases e:s=.ein h
 ·rw [if_pos (decide_eq_true e),if_pos e,List.length_cons]
  omega
 ·rw [if_neg (by simp [e]),if_neg e]
  omega
theorem gK {p:Int}{fd:List Int} (h:∀ x∈fd,0≤x∧x<p) {a:Int} (h0:0≤a) (h1:a<fd.length):0≤fd.getD a.toNat 0∧fd.getD a.toNat 0<p:=by
 have hl:a.toNat<fd.length:=by omega
 rw [List.getD_eq_getElem?_getD,List.getElem?_eq_getElem hl]
 exact h _ (List.getElem_mem hl)
theorem PlSt.head {p n:Int}{ss:List Stp}{inp rest:List (List Int)}{i:Nat}{fd:List Int} (S:PlSt p n ss inp i rest fd) {h:Int} (hs:ss[i]?=some (.ein h)) (h1:1≤h) (h2:h≤n):∃ x r,bL rest h=x::r:=by
 have:=S.ok.en h h1 h2
 rw [im hs,ck,if_pos rfl] at this
 cases e:bL rest h with
 | nil=>rw [e] at this;simp at this
 | cons x r=>exact ⟨x,r,rfl⟩
theorem gJ {rest:List (List Int)}{h:Int} (hl:(h - 1).toNat<rest.length):bL rest h∈rest:=by
 unfold bL
 rw [List.getD_eq_getElem?_getD,List.getElem?_eq_getElem hl]
 exact List.getElem_mem hl
theorem PlSt.val {p n:Int}{ss:List Stp}{inp rest:List (List Int)}{i:Nat}{fd:List Int} (S:PlSt p n ss inp i rest fd) (hp:0<p) {s:Stp} (hs:ss[i]?=some s) (R:s.Right p n (i:Int)):0≤lq p rest fd s∧lq p rest fd s<p:=by
 have fl:=S.fl
 cases s with
 | ein h =>
  obtain ⟨x,r,e⟩:=S.head hs R.1 R.2
  simp only [lq,e,List.headD_cons]
  have hl:(h - 1).toNat<rest.length:=by rw [S.ok.len];have:=R.1;have:=R.2;omega
  exact S.ok.b _ (gJ hl) x (by rw [e];exact List.mem_cons_self)
 | fix x=>exact R
 | bye a x=>exact ⟨Int.emod_nonneg _ (by omega),Int.emod_lt_of_pos _ hp⟩
 | sum a b=>exact ⟨Int.emod_nonneg _ (by omega),Int.emod_lt_of_pos _ hp⟩
 | less a b=>exact ⟨Int.emod_nonneg _ (by omega),Int.emod_lt_of_pos _ hp⟩
 | mul a b=>exact ⟨Int.emod_nonneg _ (by omega),Int.emod_lt_of_pos _ hp⟩
 | anew a=>exact gK S.fb R.1 (by rw [fl];exact R.2)
 | opn a=>exact gK S.fb R.1 (by rw [fl];exact R.2)
theorem PlSt.next {p n:Int}{ss:List Stp}{inp rest:List (List Int)}{i:Nat}{fd:List Int} (S:PlSt p n ss inp i rest fd) (hp:0<p) {s:Stp} (hs:ss[i]?=some s) (R:s.Right p n (i:Int)) :
  PlSt p n ss inp (i+1) (dU rest s) (fd++[lq p rest fd s]):=by
 have hv:=S.val hp hs R
 refine ⟨?_,by rw [List.length_append,S.fl];rfl,fun x hx=>?_,?_⟩
 ·have ok:=S.ok
  rw [im hs] at ok
  have other:(∀ h,s≠.ein h)→InsOk p n (ss.drop (i+1)) rest:=fun hne=>⟨ok.len,ok.b,fun h h1 h2=>by
   have:=ok.en h h1 h2
   rw [ck,if_neg (hne h)] at this
   omega⟩
  cases s with
  | ein h =>
   have hl:(h - 1).toNat<rest.length:=by rw [S.ok.len];have:=R.1;have:=R.2;omega
   refine ⟨by show (rest.set _ _).length=_;rw [List.length_set];exact ok.len,fun r hr x hx=>?_,fun h' h1 h2=>?_⟩
   ·have hr:r∈rest.set (h - 1).toNat (bL rest h).tail:=hr
    rcases List.mem_or_eq_of_mem_set hr with e | e
    ·exact ok.b r e x hx
    ·rw [e] at hx
     exact ok.b _ (gJ hl) x (List.mem_of_mem_tail hx)
   ·have e1:=ok.en h' h1 h2
    rw [ck] at e1
    show _≤(bL (rest.set (h - 1).toNat (bL rest h).tail) h').length
    by_cases e:h'=h
    ·subst e
     rw [if_pos rfl] at e1
     have:bL (rest.set (h' - 1).toNat (bL rest h').tail) h'=(bL rest h').tail:=by
      show (rest.set (h' - 1).toNat (bL rest h').tail).getD (h' - 1).toNat []=_
      rw [List.getD_eq_getElem?_getD,List.getElem?_set_self hl]
      rfl
     rw [this,List.length_tail]
     omega
    ·have hne:(h - 1).toNat≠(h' - 1).toNat:=by have:=R.1;omega
     have:bL (rest.set (h - 1).toNat (bL rest h).tail) h'=bL rest h':=by
      unfold bL
      rw [List.getD_eq_getElem?_getD,List.getElem?_set_ne hne,← List.getD_eq_getElem?_getD]
     rw [this]
     split at e1<;>omega
  | fix x=>exact other fun h z=>nomatch z
  | bye a x=>exact other fun h z=>nomatch z
  | sum a b=>exact other fun h z=>nomatch z
  | less a b=>exact other fun h z=>nomatch z
  | mul a b=>exact other fun h z=>nomatch z
  | anew a=>exact other fun h z=>nomatch z
  | opn a=>exact other fun h z=>nomatch z
 ·rcases List.mem_append.mp hx with h | h
  ·exact S.fb x h
  ·have e:x=lq p rest fd s:=by simpa using h
   rw [e]
   exact hv
 ·have go:=S.go
  rw [im hs,eI] at go
  exact go
theorem PlSt.fin {p n:Int}{ss:List Stp}{inp rest:List (List Int)}{fd:List Int} (S:PlSt p n ss inp ss.length rest fd):fd=bq p ss inp:=by
 have go:=S.go
 rw [List.drop_length] at go
 exact go
inductive kb (vs:List V) (H:Hp) (Q:VK) (E_:XK):Prop
 | mk (a b:Addr) (p n:Int) (ws:List V) (ss:List Stp) (is:List Addr) (inp:List (List Int)) (h0_:vs=[.int p,.ref a,.ref b]) (h1_:(0<p∧p≤31)) (h2_:(0≤n∧n≤10)) (h3_:H a=some (.lst ws)) (h4_:StpsAt H ws ss) (h5_:ss.length≤100) (h6_:dw p n ss) (h7_:H b=some (.lst (is.map V.ref))) (h8_:InsAt H is inp) (h9_:InsOk p n ss inp) (h10_:mG H Q ((bq p ss inp).map V.int)):kb vs H Q E_
theorem InsAt.get {H:Hp}{as:List Addr}{rs:List (List Int)}{i:Nat}{a:Addr} (h:InsAt H as rs) (e:as[i]?=some a):∃ r,rs[i]?=some r∧H a=some (.lst (r.map V.int)):=fN h e
theorem InsAt.put {H:Hp}:∀ {as:List Addr}{rs:List (List Int)}{i:Nat}{a:Addr}{r:List Int},InsAt H as rs→as.Nodup→as[i]?=some a→InsAt (L2.upd H a (.lst (r.map V.int))) as (rs.set i r)
 | _,_,_,_,_,.nil,_,e=>by simp at e
 | _,_,0,a,r,.cons z t,nd,e=>by
  simp at e
  subst e
  rw [List.nodup_cons] at nd
  exact .cons upd_same (InsAt.off t nd.1)
 | b::as,_,i+1,a,r,.cons z t,nd,e=>by
  rw [List.nodup_cons] at nd
  have e:as[i]?=some a:=by simpa using e
  exact .cons (by rw [aB fun h=>nd.1 (by rw [h];exact List.mem_of_getElem? e)];exact z) (InsAt.put t nd.2 e)
theorem eH {as:List Addr}{i:Nat}{x:V} (h:(as.map V.ref)[i]?=some x):∃ a,x=.ref a∧as[i]?=some a:=by
 rw [List.getElem?_map] at h
 cases e:as[i]? with
 | none=>rw [e] at h;cases h
 | some v=>rw [e] at h;exact ⟨v,(Option.some.inj h).symm,rfl⟩
theorem cg {fd:List Int}{a:Int} (h0:0≤a) (h1:a<fd.length):atI (fd.map V.int) a=some (.int (fd.getD a.toNat 0)):=by
 have hl:a.toNat<fd.length:=by omega
 have e:atI (fd.map V.int) ((a.toNat:Nat):Int)=some (.int (fd.getD a.toNat 0)):=jw (by rw [List.getElem?_map,List.getD_eq_getElem?_getD,List.getElem?_eq_getElem hl];rfl)
 rw [show ((a.toNat:Nat):Int)=a by omega] at e
 exact e
end Veil
namespace Veil
open PySem L2
def eU (n:Nat) (wo:List Int):List Int:=((List.range n).map fun i:Nat=>1+(i:Int)).filter fun h=>!decide (h∈wo)
theorem ik (k:Nat) (wo:List Int):eU (k+1) wo=eU k wo++(if (!decide (1+(k:Int)∈wo))=true then [1+(k:Int)] else []):=by
 unfold eU
 rw [← map_take,List.filter_append]
 congr 1
 simp only [List.filter_cons,List.filter_nil]
theorem qV {n:Nat}{wo:List Int}:∀ h∈eU n wo,1≤h∧h≤n∧h∉wo:=fun h hm=>by
 unfold eU at hm
 obtain ⟨h1,h2⟩:=List.mem_filter.mp hm
 obtain ⟨i,hi,rfl⟩:=List.mem_map.mp h1
 have:=List.mem_range.mp hi
 exact ⟨by omega,by omega,by simpa using h2⟩
theorem jR:∀ (n:Nat) (wo:List Int),(eU n wo).Pairwise (·<·)
 | 0,_=>by simp [eU]
 | k+1,wo=>by
  rw [ik]
  refine List.pairwise_append.mpr ⟨jR k wo,by split<;>simp,fun a ha b hb=>?_⟩
  have h1:=qV a ha
  have e:b=1+(k:Int):=by
   split at hb
   ·simpa using hb
   ·simp at hb
  omega
theorem oo (n:Nat) (wo:List Int):(eU n wo).length≤n:=by
 unfold eU
 refine Nat.le_trans (List.length_filter_le _ _) ?_
 rw [List.length_map,List.length_range]
 exact Nat.le_refl _
theorem ne_all {x:Int}:∀ L:List Int,x∉L→(L.filter fun h=>!decide (h=x))=L
 | [],_=>rfl
 | y::L,h=>by
  have h1:¬ y=x:=fun e=>h (by rw [e];exact List.mem_cons_self)
  rw [List.filter_cons,if_pos (by simp [h1]),ne_all L fun e=>h (List.mem_cons_of_mem _ e)]
theorem qK {x:Int}:∀ L:List Int,L.Nodup→L.length≤(L.filter fun h=>!decide (h=x)).length+1
 | [],_=>by simp
 | y::L,nd=>by
  rw [List.nodup_cons] at nd
  by_cases e:y=x
  ·subst e
   rw [List.filter_cons,if_neg (by simp),ne_all L nd.1]
   simp
  ·have ih:=qK (x:=x) L nd.2
   rw [List.filter_cons,if_pos (by simp [e]),List.length_cons,List.length_cons]
   omega
theorem jj {L:List Int} (nd:L.Nodup):∀ wo:List Int,L.length≤(L.filter fun h=>!decide (h∈wo)).length+wo.length
 | []=>by
  rw [show (L.filter fun h=>!decide (h∈([]:List Int)))=L from List.filter_eq_self.mpr fun a _=>by simp]
  exact Nat.le_refl _
 | x::wo=>by
  have ih:=jj nd wo
  have e:(L.filter fun h=>!decide (h∈x::wo))=(L.filter fun h=>!decide (h∈wo)).filter fun h=>!decide (h=x):=by
   rw [List.filter_filter]
   refine List.filter_congr fun h _=>?_
   by_cases h1:h=x<;>by_cases h2:h∈wo<;>simp [h1,h2]
  have nd2:(L.filter fun h=>!decide (h∈wo)).Nodup:=nd.sublist List.filter_sublist
  have:=qK (x:=x) _ nd2
  rw [e,List.length_cons]
  omega
theorem pz (n:Nat) (wo:List Int):n≤(eU n wo).length+wo.length:=by
 have nd:((List.range n).map fun i:Nat=>1+(i:Int)).Nodup:=List.pairwise_map.mpr ((List.nodup_range (n:=n)).imp fun {a b} h e=>h (by omega))
 have h:=jj nd wo
 rw [List.length_map,List.length_range] at h
 exact h
structure rL (n f:Int) (wo some:List Int):Prop where
 rise:some.Pairwise (·<·)
 b:∀ h∈some,1≤h∧h≤n∧h∉wo
 few:(some.length:Int)≤f
inductive j7 (C:Addr) (vs:List V) (H:Hp) (Q:VK) (E_:XK):Prop
 | mk (t a:Addr) (c p n f:Int) (wo:List Int) (h0_:vs=[.int c,.ref t,.ref a]) (h1_:TabAt C H t p n f) (h2_:(f=1∨f=2)) (h3_:(3≤n∧n≤10)) (h4_:2*f<n) (h5_:H a=some (.lst (wo.map V.int))) (h6_:wo.length≤2) (h7_:∀ d H' sm,Same H H'→H d=none→H' d=some (.lst (sm.map V.int))→rL n f wo sm→Q (.ref d) H'):j7 C vs H Q E_
theorem int_at {xs:List Int}{k:Int} (h0:0≤k) (h1:k<xs.length):∃ x,xs[k.toNat]?=some x∧atI (xs.map V.int) k=some (.int x):=by
 have hl:k.toNat<xs.length:=by omega
 refine ⟨xs[k.toNat],List.getElem?_eq_getElem hl,?_⟩
 have e:=cg (fd:=xs) h0 h1
 rw [List.getD_eq_getElem?_getD,List.getElem?_eq_getElem hl] at e
 exact e
end Veil
namespace Veil
open PySem L2
def fc (ss:List Stp) (inp oth:List (List Int)) (h:Int):Bool:=decide ((bL inp h).take (aR ss h)=(bL oth h).take (aR ss h))
def eJ (p:Int) (ss:List Stp) (inp oth:List (List Int)) (k:Nat) (s:Stp):Bool:=!decide (s.word="open") || decide ((bq p ss inp).getD k 0=(bq p ss oth).getD k 0)
def cY (p:Int) (ss:List Stp) (inp oth:List (List Int)):List Stp→Nat→List Bool
 | [],_=>[]
 | s::r,k=>eJ p ss inp oth k s::cY p ss inp oth r (k+1)
def jy (p:Int) (ss:List Stp) (inp oth:List (List Int)) (sm:List Int):Bool:=sm.all (fc ss inp oth) && (cY p ss inp oth ss 0).all id
theorem jQ {p:Int}{ss:List Stp}{inp oth:List (List Int)}:∀ (r:List Stp) (k i:Nat) (s:Stp),r[i]?=some s→cY p ss inp oth (r.take (i+1)) k=cY p ss inp oth (r.take i) k++[eJ p ss inp oth (k+i) s]
 | [],_,_,_,h=>by simp at h
 | x::r,k,0,s,h=>by
  have e:x=s:=by simpa using h
  subst e
  simp [cY]
 | x::r,k,i+1,s,h=>by
  have ih:=jQ (p:=p) (ss:=ss) (inp:=inp) (oth:=oth) r (k+1) i s (by simpa using h)
  rw [List.take_succ_cons,List.take_succ_cons,cY,cY,ih,List.cons_append,show k+1+i=k+(i+1) by omega]
theorem lU {p:Int}{ss:List Stp}{inp oth:List (List Int)}:∀ (r:List Stp) (k:Nat),(cY p ss inp oth r k).length=r.length
 | [],_=>rfl
 | x::r,k=>by rw [cY,List.length_cons,List.length_cons,lU r]
theorem je (p:Int):∀ (ss:List Stp) (rest:List (List Int)) (fd:List Int),(eI p ss rest fd).length=fd.length+ss.length
 | [],_,fd=>rfl
 | s::r,rest,fd=>by
  rw [eI,je p r,List.length_append,List.length_cons]
  simp
  omega
theorem fh (p:Int) (ss:List Stp) (inp:List (List Int)):(bq p ss inp).length=ss.length:=by
 unfold bq
 rw [je]
 simp
inductive mV (vs:List V) (H:Hp) (Q:VK) (E_:XK):Prop
 | mk (a b d e:Addr) (p n:Int) (ws:List V) (ss:List Stp) (is os:List Addr) (inp oth:List (List Int)) (sm:List Int) (h0_:vs=[.int p,.ref a,.ref b,.ref d,.ref e]) (h1_:(0<p∧p≤31)) (h2_:(0≤n∧n≤10)) (h3_:H a=some (.lst ws)) (h4_:StpsAt H ws ss) (h5_:ss.length≤100) (h6_:dw p n ss) (h7_:H b=some (.lst (is.map V.ref))) (h8_:InsAt H is inp) (h9_:InsOk p n ss inp) (h10_:H d=some (.lst (os.map V.ref))) (h11_:InsAt H os oth) (h12_:InsOk p n ss oth) (h13_:H e=some (.lst (sm.map V.int))) (h14_:(∀ h∈sm,1≤h∧h≤n)) (h15_:ci H Q (.bl (jy p ss inp oth sm))):mV vs H Q E_
theorem gg {H:Hp}{is:List Addr}{inp:List (List Int)} (h:InsAt H is inp) {n x:Int} (hl:inp.length=n.toNat) (h1:1≤x) (h2:x≤n):∃ e,atI (is.map V.ref) (x - 1)=some (.ref e)∧is[(x - 1).toNat]?=some e∧H e=some (.lst ((bL inp x).map V.int)):=by
 have il:is.length=inp.length:=Paired.length h
 have hk:(x - 1).toNat<is.length:=by omega
 refine ⟨is[(x - 1).toNat],?_,List.getElem?_eq_getElem hk,?_⟩
 ·have q:atI (is.map V.ref) (((x - 1).toNat:Nat):Int)=some (.ref is[(x - 1).toNat]):=jw (by rw [List.getElem?_map,List.getElem?_eq_getElem hk];rfl)
  rw [show (((x - 1).toNat:Nat):Int)=x - 1 by omega] at q
  exact q
 ·obtain ⟨r,hr,z⟩:=h.get (List.getElem?_eq_getElem hk)
  unfold bL
  rw [List.getD_eq_getElem?_getD,hr]
  exact z
end Veil
namespace Veil
open PySem L2
theorem j3 {ns:List Int}{st p n:Int}{k:Nat} (hp:0<p) (hn:0<n):dw p n (dE ns st k p n):=fun i s h=>by
 unfold dE at h
 rw [List.getElem?_map] at h
 by_cases hi:i<k
 ·rw [List.getElem?_range hi] at h
  have e:=Option.some.inj h
  rw [← e]
  exact iw hp hn (by omega)
 ·rw [List.getElem?_eq_none (by rw [List.length_range];omega)] at h
  cases h
theorem jb {p n k:Int}{s:Stp} (r:s.Right p n k):(fR s).Right p n k:=by
 cases s<;>exact r
theorem lQ {p n:Int}{ss:List Stp} (h:dw p n ss):dw p n (ss.map fR):=fun i s e=>by
 rw [List.getElem?_map] at e
 cases q:ss[i]? with
 | none=>rw [q] at e;cases e
 | some z =>
  rw [q] at e
  rw [← Option.some.inj e]
  exact jb (h i z q)
theorem gT (h:Int):∀ ss:List Stp,aR (ss.map fR) h=aR ss h
 | []=>rfl
 | s::r=>by
  rw [List.map_cons,ck,ck,gT h r]
  congr 1
  cases s<;>simp [fR]
theorem used_app (a b:List Stp) (h:Int):aR (a++b) h=aR a h+aR b h:=by
 unfold aR
 rw [List.filter_append,List.length_append]
theorem mo (c p:Int) (ss:List Stp) (n:Nat):(bp c p ss n).length=n:=by
 unfold bp
 rw [List.length_map,List.length_range]
theorem nv {c p:Int}{ss:List Stp}{n:Nat}{h:Int} (h1:1≤h) (h2:h≤n):bL (bp c p ss n) h=inBy c p ss h:=by
 unfold bL bp
 rw [List.getD_eq_getElem?_getD,List.getElem?_map,List.getElem?_range (by omega)]
 show inBy c p ss (1+((h - 1).toNat:Int))=_
 rw [show 1+((h - 1).toNat:Int)=h by omega]
theorem inBy_len {c p:Int}{ss:List Stp}{h:Int}:aR ss h≤(inBy c p ss h).length∧(inBy c p ss h).length≤ss.length+2:=by
 unfold inBy
 rw [List.length_map,List.length_range]
 have m0:=bJ (c:=c) (k:=60+h) (show (0:Int)<2 by decide)
 have m1:=eK (c:=c) (k:=60+h) (show (0:Int)<2 by decide)
 have:=j0 ss h
 omega
theorem jr {c p n:Int}{ss:List Stp} (hp:0<p) (hn:0≤n):InsOk p n ss (bp c p ss n.toNat):=by
 refine ⟨mo _ _ _ _,fun r hr x hx=>?_,fun h h1 h2=>?_⟩
 ·unfold bp at hr
  obtain ⟨i,_,rfl⟩:=List.mem_map.mp hr
  unfold inBy at hx
  obtain ⟨k,_,rfl⟩:=List.mem_map.mp hx
  exact ⟨bJ hp,eK hp⟩
 ·rw [nv h1 (by omega)]
  exact inBy_len.1
theorem om {rest:List (List Int)}{h h':Int}{r:List Int} (h1:1≤h) (h1':1≤h') (hl:(h - 1).toNat<rest.length):bL (rest.set (h - 1).toNat r) h'=if h'=h then r else bL rest h':=by
 unfold bL
 by_cases e:h'=h
 ·subst e
  rw [if_pos rfl,List.getD_eq_getElem?_getD,List.getElem?_set_self hl]
  rfl
 ·rw [if_neg e,List.getD_eq_getElem?_getD,List.getElem?_set_ne (by omega),← List.getD_eq_getElem?_getD]
theorem InsOk.put {p n:Int}{ss:List Stp}{inp:List (List Int)} (O:InsOk p n ss inp) {h:Int} (h1:1≤h) (h2:h≤n) {r:List Int} (hb:∀ x∈r,0≤x∧x<p) (hl:aR ss h≤r.length):InsOk p n ss (inp.set (h - 1).toNat r):=by
 have hk:(h - 1).toNat<inp.length:=by rw [O.len];omega
 refine ⟨by rw [List.length_set];exact O.len,fun r' hr x hx=>?_,fun h' h1' h2'=>?_⟩
 ·rcases List.mem_or_eq_of_mem_set hr with e | e
  ·exact O.b r' e x hx
  ·rw [e] at hx
   exact hb x hx
 ·rw [om h1 h1' hk]
  split
  ·rename_i e
   rw [e]
   exact hl
  ·exact O.en h' h1' h2'
theorem InsOk.at {p n:Int}{ss:List Stp}{inp:List (List Int)} (O:InsOk p n ss inp) {h:Int} (h1:1≤h) (h2:h≤n):∀ x∈bL inp h,0≤x∧x<p:=O.b _ (gJ (by rw [O.len];omega))
def rN (ss:List Stp) (one two:Int):Prop:=aR ss one ≥ (if one=two then 2 else 1)∧aR ss two ≥ (if one=two then 2 else 1)
theorem heads_of (one two:Int) (r:List Stp):rN (.ein one::.ein two::r) one two:=by
 unfold rN
 rw [ck,ck,ck,ck,if_pos rfl,if_pos (c:=Stp.ein two=Stp.ein two) rfl]
 by_cases e:one=two
 ·subst e
  rw [if_pos rfl,if_pos rfl]
  omega
 ·rw [if_neg e]
  refine ⟨by omega,by omega⟩
end Veil
namespace Veil
open PySem L2
theorem jO {α β:Type}{R:α→β→Prop}:∀ {a:List α}{b:List β} (i:Nat) {x:α}{y:β},Paired R a b→R x y→Paired R (a.set i x) (b.set i y)
 | _,_,_,_,_,.nil,_=>by simp only [List.set_nil];exact .nil
 | _,_,0,_,_,.cons _ t,h=>by simp only [List.set_cons_zero];exact .cons h t
 | _,_,i+1,_,_,.cons g t,h=>by simp only [List.set_cons_succ];exact .cons g (jO i t h)
theorem l7 {α:Type}:∀ {as:List α} (i:Nat) {x:α},as.Nodup→x∉as→(as.set i x).Nodup
 | [],_,_,_,_=>by simp
 | a::as,0,x,nd,h=>by
  rw [List.set_cons_zero]
  rw [List.nodup_cons] at nd ⊢
  exact ⟨fun e=>h (List.mem_cons_of_mem _ e),nd.2⟩
 | a::as,i+1,x,nd,h=>by
  rw [List.set_cons_succ]
  rw [List.nodup_cons] at nd ⊢
  refine ⟨fun e=>?_,l7 i nd.2 fun e=>h (List.mem_cons_of_mem _ e)⟩
  rcases List.mem_or_eq_of_mem_set e with e | e
  ·exact nd.1 e
  ·exact h (by rw [e];exact List.mem_cons_self)
def jm (ns:List Int) (p n:Int) (k:Nat):List Stp:=(List.range k).map fun i:Nat=>cP (bT ns (10+(i:Int))) ((i:Int)+4) p n
def headL (way one two:Int):List Stp:=[.ein one,.ein two,if way=1 then .sum 0 1 else .mul 0 1,.opn 2]
theorem pq {ns:List Int}{p n way one two:Int}{k:Nat} (hp:0<p) (hn:0<n) (h1:1≤one∧one≤n) (h2:1≤two∧two≤n):dw p n (headL way one two++(jm ns p n k).map fR):=fun i s h=>by
 match i,h with
 | 0,h=>rw [← Option.some.inj h];exact h1
 | 1,h=>rw [← Option.some.inj h];exact h2
 | 2,h =>
  have e:=Option.some.inj h
  rw [← e]
  show Stp.Right p n 2 (if way=1 then .sum 0 1 else .mul 0 1)
  split<;>simp [Stp.Right]
 | 3,h =>
  rw [← Option.some.inj h]
  simp [Stp.Right]
 | i+4,h =>
  have h:((jm ns p n k).map fR)[i]?=some s:=by
   unfold headL at h
   simpa using h
  unfold jm at h
  rw [List.getElem?_map,List.getElem?_map] at h
  by_cases hi:i<k
  ·rw [List.getElem?_range hi] at h
   rw [← Option.some.inj h]
   have:=jb (iw (c:=bT ns (10+(i:Int))) (at_:=(i:Int)+4) hp hn (by omega))
   rw [Int.natCast_add]
   exact this
  ·rw [List.getElem?_eq_none (by rw [List.length_range];omega)] at h
   cases h
def JP1 (H:Hp) (p n:Int) (M:Nat) (a t:Addr) (m:Int) (way one two:Int) (σ:St) (H':Hp):Prop:=Same H H'∧∃ (sa wa:Addr) (ws:List V) (ss:List Stp) (wo:List Int) (v8:Option V),
 σ=[some (.ref a),some (.ref t),some (.int m),some (.int way),some (.int one),some (.int two),some (.ref sa),some (.ref wa),v8,none,none,none,none,none,none,none,none,none,none]∧H' sa=some (.lst ws)∧StpsAt H' ws ss∧(1≤ss.length∧ss.length≤M)∧dw p n ss∧H' wa=some (.lst (wo.map V.int))∧(wo=[]∨(wo=[one,two]∧rN ss one two))
def OthSt (H5 H':Hp) (p n:Int) (ss:List Stp) (oa:Addr):Prop:=Same H5 H'∧∃ (os:List Addr) (oth:List (List Int)),H' oa=some (.lst (os.map V.ref))∧os.Nodup∧oa∉os∧(∀ b∈os,H5 b=none)∧InsAt H' os oth∧InsOk p n ss oth∧∀ r∈oth,r.length≤200
theorem OthSt.on {H5 H H':Hp}{p n:Int}{ss:List Stp}{oa:Addr} (h:OthSt H5 H p n ss oa) (s:Same H H'):OthSt H5 H' p n ss oa:=by
 obtain ⟨s0,os,oth,h1,h2,h3,h4,h5,h6,h7⟩:=h
 exact ⟨s0.trans s,os,oth,s _ _ h1,h2,h3,h4,h5.same s,h6,h7⟩
theorem n6 {H5 H:Hp}{p n:Int}{ss:List Stp}{oa:Addr} (st:OthSt H5 H p n ss oa) {h:Int} (h1:1≤h) (h2:h≤n) {j:Nat} (hj:j<aR ss h):∃ (e:Addr) (r:List Int) (os:List Addr),atI (os.map V.ref) (h - 1)=some (.ref e)∧H oa=some (.lst (os.map V.ref))∧H e=some (.lst (r.map V.int))∧j<r.length ∧
  ∀ v:Int,0≤v∧v<p→∀ k:Nat,OthSt H5 (L2.upd H e (.lst ((r.map V.int).set k (.int v)))) p n ss oa:=by
 obtain ⟨s0,os,oth,hoa,nd,oan,fr,ins,ok,ln⟩:=st
 obtain ⟨e,at1,ge,z⟩:=gg ins ok.len h1 h2
 have en:=ok.en h h1 h2
 refine ⟨e,bL oth h,os,at1,hoa,z,by omega,fun v hv k=>?_⟩
 have em:e∈os:=List.mem_of_getElem? ge
 have eoa:oa≠e:=fun y=>oan (by rw [y];exact em)
 rw [show ((bL oth h).map V.int).set k (.int v)=((bL oth h).set k v).map V.int by rw [List.map_set]]
 refine ⟨am s0 (fr e em),os,oth.set (h - 1).toNat ((bL oth h).set k v),by rw [aB eoa];exact hoa,nd,oan,fr,InsAt.put ins nd ge,ok.put h1 h2 (fun x hx=>?_) (by rw [List.length_set];exact en),fun r hr=>?_⟩
 ·rcases List.mem_or_eq_of_mem_set hx with y | y
  ·exact ok.at h1 h2 x y
  ·rw [y]
   exact hv
 ·rcases List.mem_or_eq_of_mem_set hr with y | y
  ·exact ln r y
  ·rw [y,List.length_set]
   exact ln _ (gJ (by rw [ok.len];omega))
end Veil
namespace Veil
open PySem L2
end Veil
namespace L2
open PySem PySem.Spec PyProof.Rows
def KDict (P:Program) (w:World) (K:PySem.W.Frag) (a:Addr) (kvs:List (Key×V)):Prop:=(a == sysModules)=false∧∃ (o:Obj) (vs:List (Key×Value)),K.lookup a=some o∧o.IsDictOf (bI P w) vs∧KV kvs vs
def tKGet1 (P:Program) (w:World) (K:PySem.W.Frag) (td ty:TE):TE:=fun σ H Q=>td σ H fun x H1=>∃ a kvs,x=.ref a∧KDict P w K a kvs∧ty σ H1 fun y H2=>∃ k,y=kV k∧Q ((mK kvs k).getD .non) H2
theorem pe_kget1 {X:Cx}{o e:Expr}{td ty:TE}{apos cpos:Pos} (ho:PE X o td) (he:PE X e ty) (m:M1 X o "get" apos e cpos):PE X (.Call (.Attribute o "get" apos) [e] [] cpos) (tKGet1 X.prog X.w X.K td ty):=by
 intro pins s σ H Q I h
 refine wpAny_Call_method m.base m.few m.line PySem.F.plainAttrs_dict PySem.F.slot_dict_get PySem.F.type_dict_get (thn (ho pins s σ H _ I h) fun u s1 ⟨x,H1,I1,rx,a,kvs,ex,d,q1⟩=>?_)
 subst ex
 obtain rfl:u=Value.ref a:=rx
 obtain ⟨hd,ob,vs,lk,di,rel⟩:=d
 have dd:s1.heap.DictOf (bI X.prog X.w) a vs:=Heap.dictOf_iff.mpr ⟨ob,I1.kIn a ob lk,di⟩
 refine ⟨dd.typeIs,fun b q=>?_,?_⟩
 ·cases q
  obtain ⟨es,ep,h2,_⟩:=di
  exact ⟨ob,I1.kIn a ob lk,h2.2.1⟩
 rw [m.trees]
 refine Calls.callWith_builtin rfl (Calls.evalArgs_plain (Calls.spliced_cons (thn (he pins s1 σ H1 _ I1 q1) fun iv s2 ⟨y,H2,I2,ry,k,ey,q2⟩=>Calls.spliced_nil ?_)))
 subst ey
 have dd2:s2.heap.DictOf (bI X.prog X.w) a vs:=Heap.dictOf_iff.mpr ⟨ob,I2.kIn a ob lk,di⟩
 refine call_meetsIn PySem.F.slot_dict_get dd2.typeIs PySem.F.entry_dict_get (PySem.F.args_dict_get_2 _ _) (meets_dict_get (bI X.prog X.w) a (kV_is ry) hd) ⟨_,dd2.mapOf,_,H2,I2.tok _,?_,q2⟩
 exact (rel.val k).getD rfl
theorem Ok.calm {P:Program}{w:World}{K:PySem.W.Frag}{mg:Str→Option Value}{base:Heap}{x:Str}{ps:List Str}{sp:Sp}{k:Nat} (O:Ok P w K mg base (CXE P w) k x ps sp):Ok P w K mg base CX0 k x ps (fun vs H Q _=>sp vs H Q E0):=by
 obtain ⟨f,fd,⟨len,run⟩,hb,m⟩:=O
 refine ⟨f,fd,⟨fun vs H Q E h=>len vs H Q E0 h,fun A outer s H args us vs Q E hr e0 hbd r hsp=>?_⟩,hb,m⟩
 refine codeAny_mono (run A outer s H args us vs Q E0 hr e0 hbd r hsp) fun r s' hq=>?_
 cases r with
 | error e =>
  obtain ⟨_,_,_,_,_,_,_,_,z⟩:=hq
  exact z.elim
 | ok fl=>cases fl<;>exact hq
end L2
namespace L2
open PySem PySem.Spec PyProof.Rows
def Fed (b:Bool) (h:Heap) (it l:Addr) (i:Nat):Prop:=if b=true then h.IsTupleIter it l i else h.IsListIter it l i
def Bas (b:Bool) (h:Heap) (l:Addr) (xs:Array Value):Prop:=if b=true then h.IsTuple l xs else h.IsList l xs
theorem Fed.ext {b:Bool}{h h':Heap}{it l c:Addr}{i:Nat} (x:Fed b h it l i) (hs:Heap.ExtBut c h h') (n:it≠c):Fed b h' it l i:=by
 cases b
 ·exact Heap.IsListIter.extBut (show h.IsListIter it l i from x) hs n
 ·exact Heap.IsTupleIter.extBut (show h.IsTupleIter it l i from x) hs n
theorem Bas.ext {b:Bool}{h h':Heap}{l c:Addr}{xs:Array Value} (x:Bas b h l xs) (hs:Heap.ExtBut c h h') (n:l≠c):Bas b h' l xs:=by
 cases b
 ·exact Heap.IsList.extBut (show h.IsList l xs from x) hs n
 ·exact Heap.IsTuple.extBut (show h.IsTuple l xs from x) hs n
theorem Fed.obj {b:Bool}{h:Heap}{it l:Addr}{i:Nat} (x:Fed b h it l i):∃ o,h.get? it=some o∧(∃ vs,o.data=.fields vs)∧∀ h':Heap,h'.get? it=some o→Fed b h' it l i:=by
 cases b
 ·obtain ⟨o,e,c,d⟩:=(show h.IsListIter it l i from x)
  exact ⟨o,e,⟨_,d⟩,fun h' e'=>⟨o,e',c,d⟩⟩
 ·obtain ⟨o,e,c,d⟩:=(show h.IsTupleIter it l i from x)
  exact ⟨o,e,⟨_,d⟩,fun h' e'=>⟨o,e',c,d⟩⟩
section
variable {prog : Program} {w : World} {A : Around} {E : Value → Shared → Prop} {s : Shared}
theorem pc {it t:Addr}{i:Nat}{items:Array Value}{x:Value}{Q:Value→Shared→Prop} (hit:s.heap.IsTupleIter it t i) (ht:s.heap.IsTuple t items) (hx:items[i]?=some x)
  (hQ:∀ h',h'.IsTupleIter it t (i+1)→Heap.SameBut it s.heap h'→Q x { s with heap:=h' }):wpAny (model prog w) A (Builtin.SmallTypes.nextOf (.ref it)) Q E s:=by
 obtain ⟨o,e1,e2,e3⟩:=id hit
 obtain ⟨ob,f1,_,nn,f2⟩:=ht
 unfold Builtin.SmallTypes.nextOf
 refine wpAny_bind (wpAny_callSpecial?_slot (name:=Str.ofString "__next__") hit.typeIs F.slot_tuple_iterator_next (wpAny_call_entry F.slot_tuple_iterator_next hit.typeIs F.entry_tuple_iterator_next ?_ (F.args_tuple_iterator_next_1 _)))
 (show wpAny _ _ (field (.ref it) 0 >>= _) _ _ s);refine wpAny_bind (wpAny_field e1 e3 (x:=.ref t) rfl ?_)
 (show wpAny _ _ (if (Value.ref t == Value.none)=true then _ else _) _ _ s);rw [if_neg (show ¬ ((Value.ref t == Value.none)=true) from Bool.false_ne_true)]
 (show wpAny _ _ (field (.ref it) 1 >>= _) _ _ s);refine wpAny_bind (wpAny_field e1 e3 (x:=.int i 0) rfl ?_)
 (show wpAny _ _ (seqItems? (.ref t) >>= _) _ _ s);refine wpAny_bind (wpAny_seqItems f1 f2 ?_)
 simp only [Int.toNat_natCast,hx]
 refine wpAny_bind (wpAny_setField e1 e3 (by simp) (wpAny_pure ⟨x,rfl,wpAny_pure (hQ _ ?_ (Heap.SameBut.update ..))⟩))
 exact ⟨_,Heap.get?_update_self _ e1 (Obj.isFreed_of_fields (Obj.data_mapFields e3 _)),(Obj.cls_mapFields ..).trans e2,by rw [Obj.data_mapFields e3];simp [rawInt]⟩
theorem qF {it t:Addr}{i:Nat}{items:Array Value}{Q:Value→Shared→Prop} (hh:A.handled=none) (hit:s.heap.IsTupleIter it t i) (ht:s.heap.IsTuple t items) (hx:items[i]?=none)
  (hE:∀ h' e,Heap.ExtBut it s.heap h'→(∃ o,h'.get? e=some o∧o.cls=.type "StopIteration")→E (.ref e) { s with heap:=h' }):wpAny (model prog w) A (Builtin.SmallTypes.nextOf (.ref it)) Q E s:=by
 obtain ⟨o,e1,e2,e3⟩:=id hit
 obtain ⟨ob,f1,_,nn,f2⟩:=ht
 unfold Builtin.SmallTypes.nextOf
 refine wpAny_bind (wpAny_callSpecial?_slot (name:=Str.ofString "__next__") hit.typeIs F.slot_tuple_iterator_next (wpAny_call_entry F.slot_tuple_iterator_next hit.typeIs F.entry_tuple_iterator_next ?_ (F.args_tuple_iterator_next_1 _)))
 (show wpAny _ _ (field (.ref it) 0 >>= _) _ _ s);refine wpAny_bind (wpAny_field e1 e3 (x:=.ref t) rfl ?_)
 (show wpAny _ _ (if (Value.ref t == Value.none)=true then _ else _) _ _ s);rw [if_neg (show ¬ ((Value.ref t == Value.none)=true) from Bool.false_ne_true)]
 (show wpAny _ _ (field (.ref it) 1 >>= _) _ _ s);refine wpAny_bind (wpAny_field e1 e3 (x:=.int i 0) rfl ?_)
 (show wpAny _ _ (seqItems? (.ref t) >>= _) _ _ s);refine wpAny_bind (wpAny_seqItems f1 f2 ?_)
 simp only [Int.toNat_natCast,hx]
 refine wpAny_bind (wpAny_rule (wpAny_bind (wpAny_setField e1 e3 (by simp) ?_)))
 (show wpAny _ _ (newExc (.type "StopIteration") [] >>= _) _ _ _);refine wpAny_bind ?_
 simp only [newExc,newTuple]
 refine wpAny_bind (wpAny_newObj_type ?_ (by size_fits));refine wpAny_bind (m:=firstArgMember _ _) (wpAny_of_eq (a:=Value.none) (by first | rfl | (simp only [firstArgMember];rfl)) ?_)
 refine wpAny_newObj_type ?_ (by size_fits);simp only [raiseNew]
 refine wpAny_bind (wpAny_handled ?_);first | rw [show A.in1.handled=none from hh] | rw [hh]
 refine wpAny_bind (wpAny_pure (wpAny_throw ?_));exact hE _ _ (((Heap.SameBut.update ..).extBut.push _).push _) ⟨_,Heap.get?_push_size _ rfl,rfl⟩
theorem qE {b:Bool}{it t:Addr}{i:Nat}{items:Array Value}{x:Value}{Q:Value→Shared→Prop} (hit:Fed b s.heap it t i) (ht:Bas b s.heap t items) (hx:items[i]?=some x)
  (hQ:∀ h',Fed b h' it t (i+1)→Heap.SameBut it s.heap h'→Q x { s with heap:=h' }):wpAny (model prog w) A (Builtin.SmallTypes.nextOf (.ref it)) Q E s:=by
 cases b
 ·exact wpAny_nextOf_list_item (show s.heap.IsListIter it t i from hit) (show s.heap.IsList t items from ht) hx hQ
 ·exact pc (show s.heap.IsTupleIter it t i from hit) (show s.heap.IsTuple t items from ht) hx hQ
theorem next_end {b:Bool}{it t:Addr}{i:Nat}{items:Array Value}{Q:Value→Shared→Prop} (hh:A.handled=none) (hit:Fed b s.heap it t i) (ht:Bas b s.heap t items) (hx:items[i]?=none)
  (hE:∀ h' e,Heap.ExtBut it s.heap h'→(∃ o,h'.get? e=some o∧o.cls=.type "StopIteration")→E (.ref e) { s with heap:=h' }):wpAny (model prog w) A (Builtin.SmallTypes.nextOf (.ref it)) Q E s:=by
 cases b
 ·exact wpAny_nextOf_list_end hh (show s.heap.IsListIter it t i from hit) (show s.heap.IsList t items from ht) hx hE
 ·exact qF hh (show s.heap.IsTupleIter it t i from hit) (show s.heap.IsTuple t items from ht) hx hE
end
end L2
namespace L2
open PySem PySem.Spec PyProof.Rows
def ir (xs:Array Value):Obj:={ cls:=.type "tuple",data:=.seq xs }
def Feeds (h:Heap) (ss:List (Bool×Addr)) (is:List Addr) (k j:Nat):Prop:=∀ (i:Nat) (q:Bool×Addr) (it:Addr),ss[i]?=some q→is[i]?=some it→Fed q.1 h it q.2 (if i<j then k+1 else k)
def Bases (h:Heap) (ss:List (Bool×Addr)) (xss:List (Array Value)):Prop:=∀ (i:Nat) (q:Bool×Addr) (xs:Array Value),ss[i]?=some q→xss[i]?=some xs→Bas q.1 h q.2 xs
def Keeps (z TO:Addr) (is:List Addr) (h h':Heap):Prop:=∀ c o,c≠z→c≠TO→c∉is→h.get? c=some o→h'.get? c=some o
structure ZAp (z TI TO:Addr) (ss:List (Bool×Addr)) (is:List Addr):Prop where
 nd:is.Nodup
 tz:TI≠z
 oz:TO≠z
 to:TI≠TO
 iz:∀ i∈is,i≠z∧i≠TI∧i≠TO
 src:∀ q∈ss,q.2≠z∧q.2≠TO∧q.2∉is
theorem nd_get {is:List Addr} (h:is.Nodup) {i j:Nat}{a b:Addr} (e1:is[i]?=some a) (e2:is[j]?=some b) (ne:i≠j):a≠b:=fun e=>by
 subst e
 obtain ⟨l1,r1⟩:=List.getElem?_eq_some_iff.mp e1
 obtain ⟨l2,r2⟩:=List.getElem?_eq_some_iff.mp e2
 have hp:=List.pairwise_iff_getElem.mp h
 rcases Nat.lt_or_gt_of_ne ne with g | g
 ·exact hp i j l1 l2 g (r1.trans r2.symm)
 ·exact hp j i l2 l1 g (r2.trans r1.symm)
section
variable {prog : Program} {w : World} {A : Around} {E : Value → Shared → Prop} {s : Shared}
theorem pN {z TI TO:Addr}{ss:List (Bool×Addr)}{is:List Addr}{k:Nat}{arr:Array Value}{xss:List (Array Value)}{Q:Value→Shared→Prop} (hh:A.handled=none) (D:ZAp z TI TO ss is)
  (ne:is≠[]) (hn:is.length≤100) (l1:ss.length=is.length) (l2:xss.length=is.length) (l3:arr.size=is.length)
  (hz:IsZip s.heap z TI TO .none) (hTI:s.heap.get? TI=some (ir (is.map Value.ref).toArray)) (hTO:s.heap.get? TO=some (ir arr))
  (hf:Feeds s.heap ss is k 0) (hb:Bases s.heap ss xss)
  (hQ:∀ (h':Heap) (ys:List Value),ys.length=is.length→(∀ (i:Nat) xs y,xss[i]?=some xs→ys[i]?=some y→xs[k]?=some y)→IsZip h' z TI TO (rawInt s.heap.objs.size)→(∃ arr',h'.get? TO=some (ir arr')∧arr'.size=is.length) →
   Feeds h' ss is (k+1) 0→h'.get? s.heap.objs.size=some (ir ys.toArray)→h'.objs.size=s.heap.objs.size+1→Keeps z TO is s.heap h'→Q (.ref s.heap.objs.size) { s with heap:=h' })
  (hE:(∃ (i:Nat) (xs:Array Value),xss[i]?=some xs∧xs[k]?=none)→∀ h' e,Keeps z TO is s.heap h'→(∃ o,h'.get? e=some o∧o.cls=.type "StopIteration")→E (.ref e) { s with heap:=h' }) :
  wpAny (model prog w) A (Builtin.«zip.__next__» ⟨[.ref z],[]⟩) (fun fin s'=>∃ v,fin=.done (.ret v)∧Q v s') E s:=by
 (show wpAny _ _ (field (.ref z) 2 >>= _) _ _ _);refine wpAny_bind (wpAny_field hz rfl (x:=.bool false) rfl ?_)
 (show wpAny _ _ (field (.ref z) 3 >>= _) _ _ _);refine wpAny_bind (wpAny_field hz rfl (x:=.ref TI) rfl (wpAny_bind (wpAny_seqItems hTI rfl ?_)))
 have emp:(is.map Value.ref).toArray.isEmpty=false:=by
  cases is with
  | nil=>exact absurd rfl ne
  | cons a r=>rfl
 simp only [emp,Bool.false_eq_true,if_false]
 refine wpAny_bind ?_
 unfold Builtin.SmallTypes.ownedTupleIsFree
 refine wpAny_bind (wpAny_field hz rfl (x:=.none) rfl (wpAny_pure ?_));simp only [if_true]
 refine wpAny_bind (wpAny_rule ?_);refine wpAny_bind (wpAny_field hz rfl (x:=.ref TO) rfl ?_)
 refine wpAny_bind (wpAny_setField_rec hz (by simp) fun h1 hz1 hs1=>?_)
 have hz1:IsZip h1 z TI TO .ellipsis:=hz1
 refine wpAny_bind ?_
 refine wpAny_forIn_list _ (fun rest r s'=>r.1=none∧∃ (j:Nat) (h:Heap) (ys:List Value) (arr':Array Value),rest=((is.map Value.ref).zipIdx).drop j∧j≤is.length∧s'={ s with heap:=h }∧h.objs.size=s.heap.objs.size∧IsZip h z TI TO .ellipsis ∧
   h.get? TO=some (ir arr')∧arr'.size=is.length∧ys.length=j∧arr'.toList.take j=ys∧(∀ (i:Nat) xs y,xss[i]?=some xs→ys[i]?=some y→xs[k]?=some y)∧Feeds h ss is k j∧Bases h ss xss∧Keeps z TO is s.heap h) _ ?_ ?_ _ _ ⟨rfl,0,h1,[],arr,by rw [List.drop_zero],Nat.zero_le _,rfl,hs1.1,hz1,hs1.extBut _ _ D.oz hTO,l3,rfl,rfl,(fun i xs y _ e=>by simp at e),?_,?_,?_⟩
 ·rintro x rest r s' ⟨hr,j,h,ys,arr',er,hj,es,sz,hz',hTO',la,ly,ty,vy,fe,ba,kp⟩
  subst es
  have hxj:((is.map Value.ref).zipIdx)[j]?=some x:=by
   have:=congrArg (fun l=>l[0]?) er
   simpa using this.symm
  have hrest:rest=((is.map Value.ref).zipIdx).drop (j+1):=by
   have:=congrArg List.tail er
   simpa using this
  have hjl:j<is.length:=by
   have:=(List.getElem?_eq_some_iff.mp hxj).1
   simpa using this
  obtain ⟨it,hit⟩:∃ it,is[j]?=some it:=⟨_,List.getElem?_eq_getElem hjl⟩
  obtain ⟨q,hq⟩:∃ q,ss[j]?=some q:=⟨_,List.getElem?_eq_getElem (by omega)⟩
  obtain ⟨xs,hxs⟩:∃ xs,xss[j]?=some xs:=⟨_,List.getElem?_eq_getElem (by omega)⟩
  have hx:x=(Value.ref it,j):=by
   rw [List.getElem?_zipIdx,List.getElem?_map,hit] at hxj
   simpa using hxj.symm
  subst hx
  have hm:it∈is:=List.mem_of_getElem? hit
  have hF:=fe j q it hq hit
  rw [if_neg (Nat.lt_irrefl j)] at hF
  have hB:=ba j q xs hq hxs
  dsimp only
  refine wpAny_bind (wpAny_onRaise ?_)
  (show wpAny _ _ (Builtin.SmallTypes.nextOf (.ref it) >>= _) _ _ _);refine wpAny_bind ?_
  cases hv:xs[k]? with
  | none =>
   refine next_end hh hF hB hv fun h2 e hs2 he=>?_
   obtain ⟨oe,hoe,hce⟩:=he
   have z2:IsZip h2 z TI TO .ellipsis:=hs2 _ _ (D.iz it hm).1.symm hz'
   have hez:e≠z:=fun x=>by subst x;rw [z2] at hoe;cases hoe;simp at hce
   refine wpAny_setField_rec z2 (by simp) fun h3 _ hs3=>hE ⟨j,xs,hxs,hv⟩ h3 e (fun c o c1 c2 c3 x=>hs3.extBut _ _ c1 (hs2 _ _ (fun z=>c3 (by rw [z];exact hm)) (kp c o c1 c2 c3 x))) ⟨oe,hs3.extBut _ _ hez hoe,hce⟩
  | some y =>
   refine qE hF hB hv fun h2 f2 hs2=>wpAny_pure ?_
   have t2:h2.get? TO=some (ir arr'):=hs2.extBut _ _ (D.iz it hm).2.2.symm hTO'
   refine wpAny_bind (wpAny_seqItems t2 rfl ?_)
   refine wpAny_bind (wpAny_updateSeq t2 rfl ?_ (by rw [la];exact Veil.small (by omega)) (by rw [Array.size_setIfInBounds,la];exact Nat.le_succ_of_le (Veil.small (by omega))))
   have hs3:Heap.SameBut TO h2 (h2.update TO (Obj.mapSeq fun x_2=>x_2.setIfInBounds j y)):=Heap.SameBut.update ..
   have t3:(h2.update TO (Obj.mapSeq fun x_2=>x_2.setIfInBounds j y)).get? TO=some (ir (arr'.setIfInBounds j y)):=by
    rw [Heap.get?_update_self _ t2 rfl]
    simp [Obj.mapSeq,ir]
   generalize h2.update TO (Obj.mapSeq fun x_2=>x_2.setIfInBounds j y)=h3 at hs3 t3
   refine wpAny_bind (wpAny_letGo (wpAny_pure ⟨rfl,j+1,h3,ys++[y],arr'.setIfInBounds j y,hrest,hjl,rfl,?_,?_,t3,?_,?_,?_,?_,?_,?_,?_⟩))
   ·rw [hs3.1,hs2.1,sz]
   ·exact hs3.extBut _ _ D.oz.symm (hs2.extBut _ _ (D.iz it hm).1.symm hz')
   ·rw [Array.size_setIfInBounds,la]
   ·rw [List.length_append,ly];rfl
   ·rw [Array.toList_setIfInBounds,List.take_add_one,List.take_set_of_le (Nat.le_refl j),ty,List.getElem?_set_self (by rw [Array.length_toList,la];exact hjl)]
    rfl
   ·intro i xs' y' h1 h2
    rcases Nat.lt_trichotomy i j with g | g | g
    ·rw [List.getElem?_append_left (by omega)] at h2
     exact vy i xs' y' h1 h2
    ·subst g
     rw [← ly,List.getElem?_concat_length] at h2
     rw [hxs] at h1
     cases h1
     cases h2
     exact hv
    ·rw [List.getElem?_eq_none (by rw [List.length_append,ly];simp;omega)] at h2
     cases h2
   ·intro i q' it' h1 h2
    by_cases g:i=j
    ·subst g
     rw [hq] at h1
     rw [hit] at h2
     cases h1
     cases h2
     rw [if_pos (Nat.lt_succ_self i)]
     exact f2.ext hs3.extBut (D.iz it hm).2.2
    ·have:=fe i q' it' h1 h2
     rw [show (if i<j+1 then k+1 else k)=(if i<j then k+1 else k) by
      by_cases g2:i<j
      ·rw [if_pos g2,if_pos (by omega)]
      ·rw [if_neg g2,if_neg (by omega)]]
     exact (this.ext hs2.extBut (nd_get D.nd h2 hit g)).ext hs3.extBut (D.iz it' (List.mem_of_getElem? h2)).2.2
   ·intro i q' xs' h1 h2
    have hs':=D.src q' (List.mem_of_getElem? h1)
    exact ((ba i q' xs' h1 h2).ext hs2.extBut (fun z=>hs'.2.2 (by rw [z];exact hm))).ext hs3.extBut hs'.2.1
   ·exact fun c o c1 c2 c3 e=>hs3.extBut _ _ c2 (hs2.extBut _ _ (fun z=>c3 (by rw [z];exact hm)) (kp c o c1 c2 c3 e))
 ·rintro r s' ⟨hr,j,h,ys,arr',er,hj,es,sz,hz',hTO',la,ly,ty,vy,fe,ba,kp⟩
  subst es
  have hjl:j=is.length:=by
   have:=congrArg List.length er
   simp at this
   omega
  have ea:arr'.toList=ys:=by
   rw [← ty,List.take_of_length_le (by rw [Array.length_toList,la];omega)]
  obtain ⟨r1,r2⟩:=r
  cases (show r1=none from hr)
  dsimp only
  refine wpAny_bind (wpAny_seqItems hTO' rfl ?_)
  refine wpAny_bind (wpAny_newTuple ?_ (by rw [Array.length_toList,la];exact Veil.small (by omega)))
  have hzlt:z<h.objs.size:=Heap.lt_size hz'
  (show wpAny _ _ (Builtin.SmallTypes.ownedTupleHandOut (.ref z) (.ref h.objs.size) >>= _) _ _ _);refine wpAny_bind ?_
  unfold Builtin.SmallTypes.ownedTupleHandOut
  have z6:IsZip (h.push (ir arr'.toList.toArray)) z TI TO .ellipsis:=Heap.get?_push_of_some _ hz'
  refine wpAny_bind (wpAny_setField_rec z6 (by simp) fun h7 z7 s7=>?_)
  have z7:IsZip h7 z TI TO (rawInt h.objs.size):=z7
  refine wpAny_setField_rec z7 (by simp) fun h8 z8 s8=>?_
  have z8:IsZip h8 z TI TO (rawInt h.objs.size):=z8
  have up:∀ c o,c≠z→h.get? c=some o→h8.get? c=some o:=fun c o c1 e=>s8.extBut _ _ c1 (s7.extBut _ _ c1 (Heap.get?_push_of_some _ e))
  have t8:h8.get? h.objs.size=some (ir ys.toArray):=by
   rw [← ea]
   exact s8.extBut _ _ (Nat.ne_of_gt hzlt) (s7.extBut _ _ (Nat.ne_of_gt hzlt) (Heap.get?_push_size _ rfl))
  have n8:h8.objs.size=h.objs.size+1:=by rw [s8.1,s7.1,Heap.size_push]
  rw [sz] at z8 t8 n8
  refine wpAny_pure ⟨_,rfl,?_⟩
  show Q (.ref h.objs.size) _
  rw [sz]
  refine hQ h8 ys (by omega) vy z8 ⟨arr',up _ _ D.oz hTO',la⟩ ?_ t8 n8 fun c o c1 c2 c3 e=>up c o c1 (kp c o c1 c2 c3 e)
  intro i q it h1 h2
  have:=fe i q it h1 h2
  rw [if_pos (by rw [hjl];exact (List.getElem?_eq_some_iff.mp h2).1)] at this
  rw [if_neg (Nat.not_lt_zero i)]
  obtain ⟨o,eo,_,kk⟩:=this.obj
  exact kk h8 (up _ _ (D.iz it (List.mem_of_getElem? h2)).1 eo)
 ·intro i q it h1' h2'
  exact (hf i q it h1' h2').ext hs1.extBut (D.iz it (List.mem_of_getElem? h2')).1
 ·intro i q xs h1' h2'
  exact (hb i q xs h1' h2').ext hs1.extBut (D.src q (List.mem_of_getElem? h1')).1
 ·exact fun c o c1 c2 c3 e=>hs1.extBut _ _ c1 e
end
end L2
namespace L2
open PySem PySem.Spec PyProof.Rows
def SqS (K:PySem.W.Frag) (H:Hp) (q:Bool×Addr) (xs:List V):Prop:=if q.1=true then SqT K H q.2 xs else SqL K H q.2 xs
def Itn (K:PySem.W.Frag) (ss:List (Bool×Addr)):It :=
  ⟨fun i H=>∃ xss ys,Paired (SqS K H) ss xss∧Paired (fun (xs:List V) y=>xs[i]?=some y) xss ys,
   fun i H v H'=>∃ p,H p=none∧v=.ref p∧∀ xss ys,Paired (SqS K H) ss xss→Paired (fun (xs:List V) y=>xs[i]?=some y) xss ys→H'=upd H p (.tup ys),
   fun i H=>∃ xss,Paired (SqS K H) ss xss∧∃ xs∈xss,xs.length≤i⟩
section
variable {X:Cx}{pins:List (Addr×Obj)}{σ:St}{H:Hp}{s:Shared}
theorem Inv.sqs (I:Inv X pins σ H s) {q:Bool×Addr}{xs:List V} (h:SqS X.K H q xs):∃ its:List Value,Vals xs its∧Bas q.1 s.heap q.2 its.toArray∧xs.length≤sizeLine:=by
 obtain ⟨b,a⟩:=q
 cases b
 ·obtain ⟨its,r,p,z⟩:=I.list (show SqL X.K H a xs from h)
  exact ⟨its,r,p.isList,z⟩
 ·obtain ⟨its,r,p,z⟩:=I.tuple (show SqT X.K H a xs from h)
  exact ⟨its,r,p,z⟩
theorem Inv.sqs_inj (I:Inv X pins σ H s) {q:Bool×Addr}{xs ys:List V} (h:SqS X.K H q xs) (h':SqS X.K H q ys):xs=ys:=by
 obtain ⟨b,a⟩:=q
 cases b
 ·exact I.list_inj (show SqL X.K H a xs from h) h'
 ·obtain ⟨its,r,⟨o,e,_,n,d⟩,_⟩:=I.tuple (show SqT X.K H a xs from h)
  obtain ⟨its',r',⟨o',e',_,n',d'⟩,_⟩:=I.tuple (show SqT X.K H a ys from h')
  rw [e] at e'
  cases e'
  rw [d] at d'
  injection d' with d' _
  have:its=its':=by simpa using d'
  rw [← this] at r'
  exact r.inj r'
theorem cA {α β:Type}{R:α→β→Prop}{a:List α}{b:List β} (h:Paired R a b) {i:Nat}{x:α}{y:β} (ex:a[i]?=some x) (ey:b[i]?=some y):R x y:=by
 induction h generalizing i with
 | nil=>simp at ex
 | cons r t ih =>
  cases i with
  | zero =>
   simp at ex ey
   rw [← ex,← ey]
   exact r
  | succ j=>exact ih (by simpa using ex) (by simpa using ey)
theorem Inv.srcs (I:Inv X pins σ H s):∀ {ss:List (Bool×Addr)}{xss:List (List V)},Paired (SqS X.K H) ss xss→∃ vss:List (List Value),Paired Vals xss vss∧Bases s.heap ss (vss.map List.toArray)
 | _,_,.nil=>⟨[],.nil,fun i q xs e _=>by simp at e⟩
 | _,_,.cons h t=>by
  obtain ⟨its,r,b,_⟩:=I.sqs h
  obtain ⟨vss,p,bs⟩:=Inv.srcs I t
  refine ⟨its::vss,.cons r p,fun i q xs e1 e2=>?_⟩
  cases i with
  | zero =>
   simp at e1 e2
   rw [← e1,← e2]
   exact b
  | succ j=>exact bs j q xs (by simpa using e1) (by simpa using e2)
end
theorem jh {α β:Type}{R:α→β→Prop}:∀ {a:List α}{b:List β},a.length=b.length→(∀ (i:Nat) x y,a[i]?=some x→b[i]?=some y→R x y)→Paired R a b
 | [],[],_,_=>.nil
 | x::a,y::b,hl,h=>.cons (h 0 x y rfl rfl) (jh (by simpa using hl) fun i u v e1 e2=>h (i+1) u v (by simpa using e1) (by simpa using e2))
 | [],_::_,hl,_=>by simp at hl
 | _::_,[],hl,_=>by simp at hl
theorem pZ {P:Program}{w:World}{K:PySem.W.Frag}{elts:List Expr}{k1:Nat}{tp:Pos} (z TI TO:Addr) (ss:List (Bool×Addr)) (is:List Addr) (D:ZAp z TI TO ss is) (ne:is≠[]) (hn:is.length≤100) (l1:ss.length=is.length) :
  Turn P w K (.Tuple elts k1 tp) (Itn K ss) (z::TI::TO::is) z (fun i h=>IsZip h z TI TO .none∧h.get? TI=some (ir (is.map Value.ref).toArray)∧(∃ arr,h.get? TO=some (ir arr)∧arr.size=is.length)∧Feeds h ss is i 0) where
 mem:=by simp
 obj:=fun i h st c hb=>by
  obtain ⟨s1,s2,⟨arr,s3,_⟩,s4⟩:=st
  rcases List.mem_cons.mp hb with r | hb
  ·exact ⟨_,by rw [r];exact s1,fun v z=>by cases z⟩
  rcases List.mem_cons.mp hb with r | hb
  ·exact ⟨_,by rw [r];exact s2,fun v z=>by cases z⟩
  rcases List.mem_cons.mp hb with r | hb
  ·exact ⟨_,by rw [r];exact s3,fun v z=>by cases z⟩
  obtain ⟨j,hj⟩:=List.getElem?_of_mem hb
  obtain ⟨q,hq⟩:∃ q,ss[j]?=some q:=⟨_,List.getElem?_eq_getElem (by rw [l1];exact (List.getElem?_eq_some_iff.mp hj).1)⟩
  obtain ⟨o,eo,⟨vs,ed⟩,_⟩:=(s4 j q c hq hj).obj
  exact ⟨o,eo,fun v z=>by rw [ed] at z;cases z⟩
 keep:=fun i h h' st k=>by
  obtain ⟨s1,s2,⟨arr,s3,s3'⟩,s4⟩:=st
  refine ⟨k z (by simp) _ s1,k TI (by simp) _ s2,⟨arr,k TO (by simp) _ s3,s3'⟩,fun j q it e1 e2=>?_⟩
  obtain ⟨o,eo,_,kk⟩:=(s4 j q it e1 e2).obj
  exact kk h' (k it (by simp [List.mem_of_getElem? e2]) o eo)
 item:=by
  intro X hP hw hK hc i pins s σ H E I hf st hg
  subst hP hw hK
  obtain ⟨xss,ys,hs,hy⟩:=hg
  obtain ⟨s1,s2,⟨arr,s3,s3'⟩,s4⟩:=st
  obtain ⟨vss,pv,bs⟩:=I.srcs hs
  have lx:xss.length=is.length:=by rw [← l1];exact (Paired.length hs).symm
  have lv:vss.length=is.length:=by rw [← lx];exact (Paired.length pv).symm
  have ly:ys.length=is.length:=by rw [← lx];exact (Paired.length hy).symm
  have hT:s.TypeIs (.ref z) "zip":=⟨_,s1,rfl⟩
  have lt:∀ {c:Addr}{o:Obj},s.heap.get? c=some o→s.heap.objs.size≠c:=fun e=>Nat.ne_of_gt (Heap.lt_size e)
  unfold pyNext
  refine wpAny_bind (wpAny_attempt (wpAny_callSpecial?_slot (name:=Str.ofString "__next__") hT F.slot_zip_next (wpAny_call_entry F.slot_zip_next hT F.entry_zip_next ?_ (F.args_zip_next_1 _))))
  refine pN (I.ok.hd hc) D ne hn l1 (by rw [List.length_map];exact lv) s3' s1 s2 s3 s4 bs (fun h' us lu hu a1 a2 a3 a4 a5 a7=>wpAny_pure ?_) (fun ⟨j,xs,e1,e2⟩=>?_)
  ·refine ⟨_,rfl,?_⟩
   refine wpAny_letOwnedTupleGo_zip (s:={ s with heap:=h' }) a1 fun h2 hz2 hs2=>?_
   have kk:∀ c o,c∉z::TO::is→s.heap.get? c=some o→h2.get? c=some o:=fun c o hm e=>by
    simp only [List.mem_cons,not_or] at hm
    exact (hs2.2 c hm.1).trans (a7 c o hm.1 hm.2.1 hm.2.2 e)
   have pT:h2.get? s.heap.objs.size=some (ir us.toArray):=(hs2.2 _ (lt s1)).trans a4
   have vals:Vals ys us:=jh (by omega) fun j y u e1 e2=>by
    have hj:j<is.length:=by rw [← lu];exact (List.getElem?_eq_some_iff.mp e2).1
    obtain ⟨xs,hx⟩:∃ xs,xss[j]?=some xs:=⟨_,List.getElem?_eq_getElem (by omega)⟩
    obtain ⟨vs,hv⟩:∃ vs,vss[j]?=some vs:=⟨_,List.getElem?_eq_getElem (by omega)⟩
    have r:=cA pv hx hv
    have r1:xs[i]?=some y:=cA hy hx e1
    have r2:=hu j vs.toArray u (by rw [List.getElem?_map,hv];rfl) e2
    obtain ⟨u',hu',ru⟩:=r.get r1
    have:u'=u:=by
     rw [List.getElem?_toArray,hu'] at r2
     exact Option.some.inj r2
    rw [← this]
    exact ru
   have I2:Inv X pins σ (upd H s.heap.objs.size (.tup ys)) { s with heap:=h2 }:=I.turnedN (t':=s.toks) (ch:=z::TO::is) (p:=s.heap.objs.size) (o:=.tup ys) (fun c hm=>hf c (by
    simp only [List.mem_cons] at hm ⊢
    rcases hm with r | r | r
    ·exact .inl r
    ·exact .inr (.inr (.inl r))
    ·exact .inr (.inr (.inr r)))) kk (Nat.le_refl _) ⟨Veil.small (by omega),us,vals,⟨_,pT,rfl,_,rfl⟩⟩
   have fr:H s.heap.objs.size=none:=I.fresh
   refine ⟨.ref s.heap.objs.size,_,I2,rfl,⟨_,fr,rfl,fun xss' ys' q1 q2=>?_⟩,⟨hz2,?_,?_,?_⟩,fun c hm=>?_⟩
   ·have ex:xss'=xss:=List.ext_getElem? fun j=>by
     by_cases hj:j<is.length
     ·obtain ⟨q,hq⟩:∃ q,ss[j]?=some q:=⟨_,List.getElem?_eq_getElem (by omega)⟩
      obtain ⟨xs,hx⟩:∃ xs,xss[j]?=some xs:=⟨_,List.getElem?_eq_getElem (by omega)⟩
      obtain ⟨xs',hx'⟩:∃ xs,xss'[j]?=some xs:=⟨_,List.getElem?_eq_getElem (by rw [← Paired.length q1];omega)⟩
      rw [hx,hx',I.sqs_inj (cA q1 hq hx') (cA hs hq hx)]
     ·rw [List.getElem?_eq_none (by rw [← Paired.length q1];omega),List.getElem?_eq_none (by omega)]
    subst ex
    have ey:ys'=ys:=List.ext_getElem? fun j=>by
     by_cases hj:j<is.length
     ·obtain ⟨xs,hx⟩:∃ xs,xss'[j]?=some xs:=⟨_,List.getElem?_eq_getElem (by omega)⟩
      obtain ⟨y,h1⟩:∃ y,ys[j]?=some y:=⟨_,List.getElem?_eq_getElem (by omega)⟩
      obtain ⟨y',h2⟩:∃ y,ys'[j]?=some y:=⟨_,List.getElem?_eq_getElem (by rw [← Paired.length q2];omega)⟩
      have r1:xs[i]?=some y:=cA hy hx h1
      have r2:xs[i]?=some y':=cA q2 hx h2
      rw [h1,h2,← r1,← r2]
     ·rw [List.getElem?_eq_none (by rw [← Paired.length q2];omega),List.getElem?_eq_none (by omega)]
    rw [ey]
   ·exact kk TI _ (by
     simp only [List.mem_cons,not_or]
     exact ⟨D.tz,D.to,fun h=>(D.iz TI h).2.1 rfl⟩) s2
   ·obtain ⟨arr',e,ea⟩:=a2
    exact ⟨arr',(hs2.2 TO D.oz).trans e,ea⟩
   ·intro j q it e1 e2
    obtain ⟨o,eo,_,kk'⟩:=(a3 j q it e1 e2).obj
    exact kk' h2 ((hs2.2 it (D.iz it (List.mem_of_getElem? e2)).1).trans eo)
   ·have hne:c≠s.heap.objs.size:=by
     rcases List.mem_cons.mp hm with r | hb
     ·rw [r];exact (lt s1).symm
     rcases List.mem_cons.mp hb with r | hb
     ·rw [r];exact (lt s2).symm
     rcases List.mem_cons.mp hb with r | hb
     ·rw [r];exact (lt s3).symm
     obtain ⟨j,hj⟩:=List.getElem?_of_mem hb
     obtain ⟨q,hq⟩:∃ q,ss[j]?=some q:=⟨_,List.getElem?_eq_getElem (by rw [l1];exact (List.getElem?_eq_some_iff.mp hj).1)⟩
     obtain ⟨o,eo,_⟩:=(s4 j q c hq hj).obj
     exact (lt eo).symm
    rw [aB hne]
    exact (hf c hm).1
  ·exfalso
   rw [List.getElem?_map] at e1
   cases hv:vss[j]? with
   | none=>rw [hv] at e1;cases e1
   | some vs =>
    rw [hv] at e1
    cases e1
    have hj:j<is.length:=by rw [← lv];exact (List.getElem?_eq_some_iff.mp hv).1
    obtain ⟨xs,hx⟩:∃ xs,xss[j]?=some xs:=⟨_,List.getElem?_eq_getElem (by omega)⟩
    obtain ⟨y,h1⟩:∃ y,ys[j]?=some y:=⟨_,List.getElem?_eq_getElem (by omega)⟩
    obtain ⟨u',hu',_⟩:=(cA pv hx hv).get (cA hy hx h1:xs[i]?=some y)
    rw [List.getElem?_toArray,hu'] at e2
    cases e2
 done:=by
  intro X hP hw hK hc i pins s σ H E I hf st hg
  subst hP hw hK
  obtain ⟨xss,hs,xs,hxm,hend⟩:=hg
  obtain ⟨s1,s2,⟨arr,s3,s3'⟩,s4⟩:=st
  obtain ⟨vss,pv,bs⟩:=I.srcs hs
  have lx:xss.length=is.length:=by rw [← l1];exact (Paired.length hs).symm
  have lv:vss.length=is.length:=by rw [← lx];exact (Paired.length pv).symm
  have hT:s.TypeIs (.ref z) "zip":=⟨_,s1,rfl⟩
  obtain ⟨j,hx⟩:=List.getElem?_of_mem hxm
  have hj:j<is.length:=by rw [← lx];exact (List.getElem?_eq_some_iff.mp hx).1
  obtain ⟨vs,hv⟩:∃ vs,vss[j]?=some vs:=⟨_,List.getElem?_eq_getElem (by omega)⟩
  have lvs:=(cA pv hx hv).length
  have no:vs.toArray[i]?=none:=Array.getElem?_eq_none (by rw [List.size_toArray];omega)
  have hjv:(vss.map List.toArray)[j]?=some vs.toArray:=by rw [List.getElem?_map,hv];rfl
  unfold pyNext
  refine wpAny_bind (wpAny_attempt (wpAny_callSpecial?_slot (name:=Str.ofString "__next__") hT F.slot_zip_next (wpAny_call_entry F.slot_zip_next hT F.entry_zip_next ?_ (F.args_zip_next_1 _))))
  refine pN (I.ok.hd hc) D ne hn l1 (by rw [List.length_map];exact lv) s3' s1 s2 s3 s4 bs (fun h' us lu hu _ _ _ _ _ _=>?_) (fun _ h' e kp he=>?_)
  ·exfalso
   obtain ⟨u,h1⟩:∃ u,us[j]?=some u:=⟨_,List.getElem?_eq_getElem (by omega)⟩
   have:=hu j _ u hjv h1
   rw [no] at this
   cases this
  ·obtain ⟨o,ho,hcl⟩:=he
   refine wpAny_bind (wpAny_isInstance (T:="StopIteration") (b:=true) ⟨o,ho,hcl⟩ isSubtype_stop (wpAny_pure ⟨rfl,?_⟩))
   exact I.turnedK (t':=s.toks) (ch:=z::TO::is) (fun c hm=>hf c (by
    simp only [List.mem_cons] at hm ⊢
    rcases hm with r | r | r
    ·exact .inl r
    ·exact .inr (.inr (.inl r))
    ·exact .inr (.inr (.inr r)))) fun c o hm e=>by
     simp only [List.mem_cons,not_or] at hm
     exact kp c o hm.1 hm.2.1 hm.2.2 e
 self:=fun _ _ _ _ _ st h=>wpAny_pyIter_zip st.1 h
end L2
namespace L2
open PySem PySem.Spec PyProof.Rows
def itT (l:Addr):Obj:={ cls:=.type "tuple_iterator",data:=.fields #[.ref l,.int 0 0] }
def itL (l:Addr):Obj:={ cls:=.type "list_iterator",data:=.fields #[.ref l,.int 0 0] }
def zipO (n m:Addr):Obj:={ cls:=.type "zip",data:=.fields #[.none,.bool false,.bool false,.ref n,.ref m] }
def zT5 (h:Heap) (l1 l2:Addr):Heap:=((((h.push (itT l1)).push (itT l2)).push (ir #[.ref h.objs.size,.ref (h.objs.size+1)])).push (ir #[.none,.none])).push (zipO (h.objs.size+2) (h.objs.size+3))
theorem pe (l1 l2:Addr) (xs ys:Array Value):Meets (Builtin.«zip.__new__» ⟨[.type "zip",.ref l1,.ref l2],[]⟩) (fun _ R s=>s.heap.IsTuple l1 xs∧s.heap.IsTuple l2 ys∧R (.ok (.ret (.ref (s.heap.objs.size+4)))) { s with heap:=zT5 s.heap l1 l2 }) :=
 .of_wp fun prog w A R s h=>by
  obtain ⟨hp,g,d,tk,os⟩:=s
  obtain ⟨e1,e2,h⟩:=h
  have hsub:=sub_zip
  have a1:Heap.IsTuple (Shared.heap ⟨hp,g,d,tk,os⟩) l1 xs:=e1
  have a2:Heap.IsTuple (Shared.heap ⟨hp.push { cls:=.type "tuple_iterator",data:=.fields #[.ref l1,.int 0 0] },g,d,tk,os⟩) l2 ys:=Heap.IsTuple.push e2 _
  wp_walk using wpAny_pyIter_tuple a1,wpAny_pyIter_tuple a2
  refine ⟨_,rfl,?_⟩
  simp only [Heap.size_push]
  exact h
theorem zap2 (N l1 l2:Nat) (b:Bool) (h1:l1<N) (h2:l2<N):ZAp (N+4) (N+2) (N+3) [(b,l1),(b,l2)] [N,N+1]:=by
 refine ⟨?_,(show (N+2:Nat)≠N+4 by omega),(show (N+3:Nat)≠N+4 by omega),(show (N+2:Nat)≠N+3 by omega),?_,?_⟩
 ·exact List.nodup_cons.mpr ⟨fun h=>(show ¬ (N:Nat)=N+1 by omega) (List.mem_singleton.mp h),(by simp)⟩
 ·intro i hi
  simp only [List.mem_cons,List.not_mem_nil,or_false] at hi
  rcases hi with r | r
  ·rw [r]
   exact ⟨(show (N:Nat)≠N+4 by omega),(show (N:Nat)≠N+2 by omega),(show (N:Nat)≠N+3 by omega)⟩
  ·rw [r]
   exact ⟨(show (N+1:Nat)≠N+4 by omega),(show (N+1:Nat)≠N+2 by omega),(show (N+1:Nat)≠N+3 by omega)⟩
 ·have lo:∀ l:Nat,l<N→(l:Addr)≠N+4∧(l:Addr)≠N+3∧(l:Addr)∉[N,N+1]:=fun l h=>⟨(show (l:Nat)≠N+4 by omega),(show (l:Nat)≠N+3 by omega),fun z=>by
   rcases List.mem_cons.mp z with z | z
   ·exact (show ¬ (l:Nat)=N by omega) z
   ·exact (show ¬ (l:Nat)=N+1 by omega) (List.mem_singleton.mp z)⟩
  intro q hq
  simp only [List.mem_cons,List.not_mem_nil,or_false] at hq
  rcases hq with r | r
  ·rw [r];exact lo l1 h1
  ·rw [r];exact lo l2 h2
section
variable {X:Cx}
def iZipT (K:PySem.W.Frag) (ta:TA):TI:=fun σ H R=>ta σ H fun vs H1=>∃ a b xs ys,vs=[.ref a,.ref b]∧SqT K H1 a xs∧SqT K H1 b ys∧R (Itn K [(true,a),(true,b)]) H1
theorem pi_zipT {elts:List Expr}{k1:Nat}{tp:Pos}{a b:Expr}{ta:TA}{p pos:Pos} (hg:Gl X "zip") (hm:X.mg "zip"=none) (ha:PA X [a,b] ta)
  (hs:starEach [a,b] X.env=[(false,eval a X.env),(false,eval b X.env)]:=by rfl) (hs2:starEach [b] X.env=[(false,eval b X.env)]:=by rfl):PI X (.Tuple elts k1 tp) (.Call (.Name "zip" p) [a,b] [] pos) (iZipT X.K ta):=by
 intro pins s σ H R I h
 refine Call_ (eT I hg hm boot_zip (PyProof.Rows.callWith_type1 (thn (ha pos pins s σ H _ I h) fun us s1 ⟨vs,H1,I1,r1,q1⟩=>?_) (by rw [hs,hs2]) (by rw [hs2];rfl)))
 obtain ⟨l1,l2,xs,ys,e,hq1,hq2,q⟩:=q1
 subst e
 obtain ⟨u1,u2,rfl,ru1,ru2⟩:=r1.two
 cases ru1
 cases ru2
 obtain ⟨its1,rv1,p1,z1⟩:=I1.tuple hq1
 obtain ⟨its2,rv2,p2,z2⟩:=I1.tuple hq2
 refine callType_new F.called_zip (by decide) (F.typeCall_zip_2 _ _) (F.newCall_zip_2 _ _) (fun obj=>F.args_object_init_3 obj _ _) F.entry_zip_new (pe l1 l2 _ _) ⟨p1,p2,?_⟩
 have lt1:l1<s1.heap.objs.size:=by obtain ⟨o,e,_⟩:=p1;exact Heap.lt_size e
 have lt2:l2<s1.heap.objs.size:=by obtain ⟨o,e,_⟩:=p2;exact Heap.lt_size e
 have g0:(zT5 s1.heap l1 l2).get? s1.heap.objs.size=some (itT l1):=Heap.get?_push_of_some _ (Heap.get?_push_of_some _ (Heap.get?_push_of_some _ (Heap.get?_push_of_some _ (Heap.get?_push_size _ rfl))))
 have g1:(zT5 s1.heap l1 l2).get? (s1.heap.objs.size+1)=some (itT l2):=by
  have e:s1.heap.objs.size+1=(s1.heap.push (itT l1)).objs.size:=(Heap.size_push ..).symm
  rw [e]
  exact Heap.get?_push_of_some _ (Heap.get?_push_of_some _ (Heap.get?_push_of_some _ (Heap.get?_push_size _ rfl)))
 have g2:(zT5 s1.heap l1 l2).get? (s1.heap.objs.size+2)=some (ir #[.ref s1.heap.objs.size,.ref (s1.heap.objs.size+1)]):=by
  have e:s1.heap.objs.size+2=((s1.heap.push (itT l1)).push (itT l2)).objs.size:=by rw [Heap.size_push,Heap.size_push]
  rw [e]
  exact Heap.get?_push_of_some _ (Heap.get?_push_of_some _ (Heap.get?_push_size _ rfl))
 have g3:(zT5 s1.heap l1 l2).get? (s1.heap.objs.size+3)=some (ir #[.none,.none]):=by
  have e:s1.heap.objs.size+3=(((s1.heap.push (itT l1)).push (itT l2)).push (ir #[.ref s1.heap.objs.size,.ref (s1.heap.objs.size+1)])).objs.size:=by rw [Heap.size_push,Heap.size_push,Heap.size_push]
  rw [e]
  exact Heap.get?_push_of_some _ (Heap.get?_push_size _ rfl)
 have g4:(zT5 s1.heap l1 l2).get? (s1.heap.objs.size+4)=some (zipO (s1.heap.objs.size+2) (s1.heap.objs.size+3)):=by
  have e:s1.heap.objs.size+4=((((s1.heap.push (itT l1)).push (itT l2)).push (ir #[.ref s1.heap.objs.size,.ref (s1.heap.objs.size+1)])).push (ir #[.none,.none])).objs.size:=by rw [Heap.size_push,Heap.size_push,Heap.size_push,Heap.size_push]
  rw [e]
  exact Heap.get?_push_size _ rfl
 have kp:∀ c o,s1.heap.get? c=some o→(zT5 s1.heap l1 l2).get? c=some o:=fun c o e=>Heap.get?_push_of_some _ (Heap.get?_push_of_some _ (Heap.get?_push_of_some _ (Heap.get?_push_of_some _ (Heap.get?_push_of_some _ e))))
 refine ⟨⟨_,g4,rfl⟩,?_⟩
 refine wpAny_pyIter_zip (s:={ s1 with heap:=zT5 s1.heap l1 l2 }) g4 ?_
 refine ⟨s1.heap.objs.size+4,(s1.heap.objs.size+4)::(s1.heap.objs.size+2)::(s1.heap.objs.size+3)::[s1.heap.objs.size,s1.heap.objs.size+1],_,_,H1,rfl,I1.kept (t':=s1.toks) kp,
  pZ (s1.heap.objs.size+4) (s1.heap.objs.size+2) (s1.heap.objs.size+3) [(true,l1),(true,l2)] [s1.heap.objs.size,s1.heap.objs.size+1] (zap2 _ _ _ _ lt1 lt2) (by simp) (by simp) rfl,⟨g4,g2,⟨_,g3,rfl⟩,?_⟩,?_,q⟩
 ·intro i q it e1 e2
  match i,e1,e2 with
  | 0,e1,e2 =>
   cases e1
   cases e2
   exact ⟨_,g0,rfl,rfl⟩
  | 1,e1,e2 =>
   cases e1
   cases e2
   exact ⟨_,g1,rfl,rfl⟩
  | n+2,e1,e2=>simp at e1
 ·refine pB I1 (fun c hc=>I1.hok.fresh hc) fun c hc=>?_
  simp only [List.mem_cons,List.not_mem_nil,or_false] at hc
  rcases hc with r | r | r | r | r<;>rw [r]<;>first | exact Nat.le_refl _ | exact Nat.le_add_right _ _
end
end L2
namespace L2
open PySem PySem.Spec PyProof.Rows
theorem comp_zn {K:PySem.W.Frag}{ss:List (Bool×Addr)}{xss:List (List V)}{n:Nat}{k:Nat}{g:TG}{tt:TT}{te:TE}{tl:St}{D:Addr}{Q:Hp→Prop}{H0:Hp} (Pv:Nat→List V→Hp→Prop) (ne:ss≠[]) (hn:∀ xs∈xss,xs.length=n) (h0:Pv 0 [] (upd H0 D (.lst []))) (hl:∀ i ys H,Pv i ys H→Paired (SqS K H) ss xss)
  (hs:∀ i zs ys H p,Paired (fun (xs:List V) y=>xs[i]?=some y) xss zs→Pv i ys H→H D=some (.lst ys)→H p=none→g (.ref p) (List.replicate k none++tl) (upd H p (.tup zs)) fun σ2 H2=>(σ2.length=k+tl.length∧σ2.drop k=tl) ∧
   tt σ2 H2 fun b H3=>if b=true then te σ2 H3 fun v H4=>H4 D=some (.lst ys)∧ys.length<sizeLine∧Pv (i+1) (ys++[v]) (upd H4 D (.lst (ys++[v]))) else H3 D=some (.lst ys)∧Pv (i+1) ys H3)
  (hd:∀ ys H,Pv n ys H→H D=some (.lst ys)→Q H) :
  ∃ W:Nat→Nat→List V→Hp→Prop,(∃ m,W 0 m [] (upd H0 D (.lst [])))∧iZ k (Itn K ss) g tt te tl D Q W:=by
 refine ⟨fun i m ys H=>m=n - i∧i≤n∧Pv i ys H,⟨n,by simp,Nat.zero_le _,h0⟩,?_⟩
 rintro i m ys H ⟨rfl,hi,p⟩ hD
 have q1:=hl i ys H p
 by_cases hlt:i<n
 ·have all:∀ {xss:List (List V)},(∀ xs∈xss,xs.length=n)→∃ zs,Paired (fun (xs:List V) y=>xs[i]?=some y) xss zs:=fun {xss}=>by
   induction xss with
   | nil=>exact fun _=>⟨[],.nil⟩
   | cons xs r ih =>
    intro h
    obtain ⟨zs,hz⟩:=ih fun x hx=>h x (List.mem_cons_of_mem _ hx)
    have:i<xs.length:=by rw [h xs List.mem_cons_self];exact hlt
    exact ⟨xs[i]::zs,.cons (by simp [this]) hz⟩
  obtain ⟨zs,hz⟩:=all hn
  refine .inr ⟨⟨xss,zs,q1,hz⟩,Pv (i+1),fun ys' H' q'=>⟨n - (i+1),by omega,rfl,hlt,q'⟩,fun x H1 y=>?_⟩
  obtain ⟨c,hc,e,y⟩:=y
  have e1:=y xss zs q1 hz
  subst e e1
  exact hs i zs ys H c hz p hD hc
 ·have e:i=n:=by omega
  refine .inl ⟨⟨xss,q1,?_⟩,hd ys H (by rw [← e];exact p) hD⟩
  cases q1 with
  | nil=>exact absurd rfl ne
  | cons r t=>exact ⟨_,List.mem_cons_self,by rw [hn _ List.mem_cons_self];omega⟩
theorem for_zn {K:PySem.W.Frag}{ss:List (Bool×Addr)}{xss:List (List V)}{n:Nat}{g:TG}{tb:TS}{D:oI}{σ:St}{H:Hp} (Pv:Nat→St→Hp→Prop) (ne:ss≠[]) (hn:∀ xs∈xss,xs.length=n) (h0:Pv 0 σ H) (hl:∀ i σ H,Pv i σ H→Paired (SqS K H) ss xss)
  (hs:∀ i zs σ H p,Paired (fun (xs:List V) y=>xs[i]?=some y) xss zs→Pv i σ H→H p=none→g (.ref p) σ (upd H p (.tup zs)) fun σ2 H2=>tb { D with nx:=Pv (i+1),ct:=Pv (i+1),bk:=D.nx } σ2 H2) (hd:∀ σ H,Pv n σ H→D.nx σ H) :
  ∃ W:Nat→Nat→St→Hp→Prop,(∃ m,W 0 m σ H)∧∀ i m σ H,W i m σ H →
   ((Itn K ss).stop i H∧D.nx σ H)∨((Itn K ss).go i H∧∃ N:St→Hp→Prop,(∀ σ' H',N σ' H'→∃ m',m'<m∧W (i+1) m' σ' H')∧∀ x H',(Itn K ss).yld i H x H'→g x σ H' fun σ2 H2=>tb { D with nx:=N,ct:=N,bk:=D.nx } σ2 H2):=by
 refine ⟨fun i m σ H=>m=n - i∧i≤n∧Pv i σ H,⟨n,by simp,Nat.zero_le _,h0⟩,?_⟩
 rintro i m σ H ⟨rfl,hi,p⟩
 have q1:=hl i σ H p
 by_cases hlt:i<n
 ·have all:∀ {xss:List (List V)},(∀ xs∈xss,xs.length=n)→∃ zs,Paired (fun (xs:List V) y=>xs[i]?=some y) xss zs:=fun {xss}=>by
   induction xss with
   | nil=>exact fun _=>⟨[],.nil⟩
   | cons xs r ih =>
    intro h
    obtain ⟨zs,hz⟩:=ih fun x hx=>h x (List.mem_cons_of_mem _ hx)
    have:i<xs.length:=by rw [h xs List.mem_cons_self];exact hlt
    exact ⟨xs[i]::zs,.cons (by simp [this]) hz⟩
  obtain ⟨zs,hz⟩:=all hn
  refine .inr ⟨⟨xss,zs,q1,hz⟩,Pv (i+1),fun σ' H' q'=>⟨n - (i+1),by omega,rfl,hlt,q'⟩,fun x H1 y=>?_⟩
  obtain ⟨c,hc,e,y⟩:=y
  have e1:=y xss zs q1 hz
  subst e e1
  exact hs i zs σ H c hz p hc
 ·have e:i=n:=by omega
  refine .inl ⟨⟨xss,q1,?_⟩,hd σ H (by rw [← e];exact p)⟩
  cases q1 with
  | nil=>exact absurd rfl ne
  | cons r t=>exact ⟨_,List.mem_cons_self,by rw [hn _ List.mem_cons_self];omega⟩
end L2
namespace L2
open PySem PySem.Spec PyProof.Rows
theorem jz (a b c d:Value):checkTypeCall "zip" ⟨[a,b,c,d],[]⟩=pure ():=by kernel_rfl
theorem kP (a b c d:Value):checkBuiltinCall "zip.__new__" ⟨[.type "zip",a,b,c,d],[]⟩=pure ():=by kernel_rfl
theorem gR (a b c d e:Value):argsOk "object.__init__" ⟨[a,b,c,d,e],[]⟩:=by
 have sg:=signature?_of (o:='t'::'c'::'e'::['j','b','o']) (n:='_'::'_'::'t'::['i','n','i','_','_']) (id:="object.__init__") (by kernel_rfl) F.owner_object
 unfold argsOk
 rw [sg]
 kernel_rfl
def zL7 (h:Heap) (l1 l2 l3 l4:Addr):Heap:=((((((h.push (itL l1)).push (itL l2)).push (itL l3)).push (itL l4)).push (ir #[.ref h.objs.size,.ref (h.objs.size+1),.ref (h.objs.size+2),.ref (h.objs.size+3)])).push (ir #[.none,.none,.none,.none])).push (zipO (h.objs.size+4) (h.objs.size+5))
theorem pf (l1 l2 l3 l4:Addr) (x1 x2 x3 x4:Array Value):Meets (Builtin.«zip.__new__» ⟨[.type "zip",.ref l1,.ref l2,.ref l3,.ref l4],[]⟩) (fun _ R s=>s.heap.IsList l1 x1∧s.heap.IsList l2 x2∧s.heap.IsList l3 x3∧s.heap.IsList l4 x4∧R (.ok (.ret (.ref (s.heap.objs.size+6)))) { s with heap:=zL7 s.heap l1 l2 l3 l4 }) :=
 .of_wp fun prog w A R s h=>by
  obtain ⟨hp,g,d,tk,os⟩:=s
  obtain ⟨e1,e2,e3,e4,h⟩:=h
  have hsub:=sub_zip
  have a1:Heap.IsList (Shared.heap ⟨hp,g,d,tk,os⟩) l1 x1:=e1
  have a2:Heap.IsList (Shared.heap ⟨hp.push { cls:=.type "list_iterator",data:=.fields #[.ref l1,.int 0 0] },g,d,tk,os⟩) l2 x2:=Heap.IsList.push e2 _
  have a3:Heap.IsList (Shared.heap ⟨(hp.push { cls:=.type "list_iterator",data:=.fields #[.ref l1,.int 0 0] }).push { cls:=.type "list_iterator",data:=.fields #[.ref l2,.int 0 0] },g,d,tk,os⟩) l3 x3:=Heap.IsList.push (Heap.IsList.push e3 _) _
  have a4:Heap.IsList (Shared.heap ⟨((hp.push { cls:=.type "list_iterator",data:=.fields #[.ref l1,.int 0 0] }).push { cls:=.type "list_iterator",data:=.fields #[.ref l2,.int 0 0] }).push { cls:=.type "list_iterator",data:=.fields #[.ref l3,.int 0 0] },g,d,tk,os⟩) l4 x4:=Heap.IsList.push (Heap.IsList.push (Heap.IsList.push e4 _) _) _
  wp_walk using wpAny_pyIter_list a1,wpAny_pyIter_list a2,wpAny_pyIter_list a3,wpAny_pyIter_list a4
  refine ⟨_,rfl,?_⟩
  simp only [Heap.size_push]
  exact h
theorem zap4 (N l1 l2 l3 l4:Nat) (h1:l1<N) (h2:l2<N) (h3:l3<N) (h4:l4<N):ZAp (N+6) (N+4) (N+5) [(false,l1),(false,l2),(false,l3),(false,l4)] [N,N+1,N+2,N+3]:=by
 have nin:∀ x:Nat,(x<N∨N+3<x)→(x:Addr)∉([N,N+1,N+2,N+3]:List Nat):=fun x h z=>by
  simp only [List.mem_cons,List.not_mem_nil,or_false] at z
  rcases z with z | z | z | z<;>omega
 refine ⟨?_,(show (N+4:Nat)≠N+6 by omega),(show (N+5:Nat)≠N+6 by omega),(show (N+4:Nat)≠N+5 by omega),?_,?_⟩
 ·show List.Nodup ([N,N+1,N+2,N+3]:List Nat)
  simp
 ·intro i hi
  simp only [List.mem_cons,List.not_mem_nil,or_false] at hi
  rcases hi with r | r | r | r<;>rw [r]
  ·exact ⟨(show (N+0:Nat)≠N+6 by omega),(show (N+0:Nat)≠N+4 by omega),(show (N+0:Nat)≠N+5 by omega)⟩
  ·exact ⟨(show (N+1:Nat)≠N+6 by omega),(show (N+1:Nat)≠N+4 by omega),(show (N+1:Nat)≠N+5 by omega)⟩
  ·exact ⟨(show (N+2:Nat)≠N+6 by omega),(show (N+2:Nat)≠N+4 by omega),(show (N+2:Nat)≠N+5 by omega)⟩
  ·exact ⟨(show (N+3:Nat)≠N+6 by omega),(show (N+3:Nat)≠N+4 by omega),(show (N+3:Nat)≠N+5 by omega)⟩
 ·intro q hq
  have lo:∀ l:Nat,l<N→(l:Addr)≠N+6∧(l:Addr)≠N+5∧(l:Addr)∉([N,N+1,N+2,N+3]:List Nat):=fun l h=>⟨(show (l:Nat)≠N+6 by omega),(show (l:Nat)≠N+5 by omega),nin l (.inl h)⟩
  simp only [List.mem_cons,List.not_mem_nil,or_false] at hq
  rcases hq with r | r | r | r<;>rw [r]
  ·exact lo l1 h1
  ·exact lo l2 h2
  ·exact lo l3 h3
  ·exact lo l4 h4
section
variable {X:Cx}
def iZip4 (K:PySem.W.Frag) (ta:TA):TI:=fun σ H R=>ta σ H fun vs H1=>∃ a b c d x1 x2 x3 x4,vs=[.ref a,.ref b,.ref c,.ref d]∧SqL K H1 a x1∧SqL K H1 b x2∧SqL K H1 c x3∧SqL K H1 d x4∧R (Itn K [(false,a),(false,b),(false,c),(false,d)]) H1
theorem pi_zip4 {elts:List Expr}{k1:Nat}{tp:Pos}{a b c d:Expr}{ta:TA}{p pos:Pos} (hg:Gl X "zip") (hm:X.mg "zip"=none) (ha:PA X [a,b,c,d] ta)
  (hs:starEach [a,b,c,d] X.env=[(false,eval a X.env),(false,eval b X.env),(false,eval c X.env),(false,eval d X.env)]:=by rfl) (hs2:starEach [b,c,d] X.env=[(false,eval b X.env),(false,eval c X.env),(false,eval d X.env)]:=by rfl):PI X (.Tuple elts k1 tp) (.Call (.Name "zip" p) [a,b,c,d] [] pos) (iZip4 X.K ta):=by
 intro pins s σ H R I h
 refine Call_ (eT I hg hm boot_zip (PyProof.Rows.callWith_type1 (thn (ha pos pins s σ H _ I h) fun us s1 ⟨vs,H1,I1,r1,q1⟩=>?_) (by rw [hs,hs2]) (by rw [hs2];rfl)))
 obtain ⟨l1,l2,l3,l4,x1,x2,x3,x4,e,hq1,hq2,hq3,hq4,q⟩:=q1
 subst e
 cases r1 with
 | cons ru1 r1 =>
 cases r1 with
 | cons ru2 r1 =>
 cases r1 with
 | cons ru3 r1 =>
 cases r1 with
 | cons ru4 r1 =>
 cases r1
 cases ru1
 cases ru2
 cases ru3
 cases ru4
 obtain ⟨its1,rv1,p1,z1⟩:=I1.list hq1
 obtain ⟨its2,rv2,p2,z2⟩:=I1.list hq2
 obtain ⟨its3,rv3,p3,z3⟩:=I1.list hq3
 obtain ⟨its4,rv4,p4,z4⟩:=I1.list hq4
 refine callType_new F.called_zip (by decide) (jz _ _ _ _) (kP _ _ _ _) (fun obj=>gR obj _ _ _ _) F.entry_zip_new (pf l1 l2 l3 l4 _ _ _ _) ⟨p1.isList,p2.isList,p3.isList,p4.isList,?_⟩
 have lt1:l1<s1.heap.objs.size:=by obtain ⟨o,e,_⟩:=p1.isList;exact Heap.lt_size e
 have lt2:l2<s1.heap.objs.size:=by obtain ⟨o,e,_⟩:=p2.isList;exact Heap.lt_size e
 have lt3:l3<s1.heap.objs.size:=by obtain ⟨o,e,_⟩:=p3.isList;exact Heap.lt_size e
 have lt4:l4<s1.heap.objs.size:=by obtain ⟨o,e,_⟩:=p4.isList;exact Heap.lt_size e
 have g0:(zL7 s1.heap l1 l2 l3 l4).get? s1.heap.objs.size=some (itL l1):=Heap.get?_push_of_some _ (Heap.get?_push_of_some _ (Heap.get?_push_of_some _ (Heap.get?_push_of_some _ (Heap.get?_push_of_some _ (Heap.get?_push_of_some _ (Heap.get?_push_size _ rfl))))))
 have g1:(zL7 s1.heap l1 l2 l3 l4).get? (s1.heap.objs.size+1)=some (itL l2):=by
  have e:s1.heap.objs.size+1=(s1.heap.push (itL l1)).objs.size:=by simp only [Heap.size_push]
  rw [e]
  exact Heap.get?_push_of_some _ (Heap.get?_push_of_some _ (Heap.get?_push_of_some _ (Heap.get?_push_of_some _ (Heap.get?_push_of_some _ (Heap.get?_push_size _ rfl)))))
 have g2:(zL7 s1.heap l1 l2 l3 l4).get? (s1.heap.objs.size+2)=some (itL l3):=by
  have e:s1.heap.objs.size+2=((s1.heap.push (itL l1)).push (itL l2)).objs.size:=by simp only [Heap.size_push]
  rw [e]
  exact Heap.get?_push_of_some _ (Heap.get?_push_of_some _ (Heap.get?_push_of_some _ (Heap.get?_push_of_some _ (Heap.get?_push_size _ rfl))))
 have g3:(zL7 s1.heap l1 l2 l3 l4).get? (s1.heap.objs.size+3)=some (itL l4):=by
  have e:s1.heap.objs.size+3=(((s1.heap.push (itL l1)).push (itL l2)).push (itL l3)).objs.size:=by simp only [Heap.size_push]
  rw [e]
  exact Heap.get?_push_of_some _ (Heap.get?_push_of_some _ (Heap.get?_push_of_some _ (Heap.get?_push_size _ rfl)))
 have g4:(zL7 s1.heap l1 l2 l3 l4).get? (s1.heap.objs.size+4)=some (ir #[.ref s1.heap.objs.size,.ref (s1.heap.objs.size+1),.ref (s1.heap.objs.size+2),.ref (s1.heap.objs.size+3)]):=by
  have e:s1.heap.objs.size+4=((((s1.heap.push (itL l1)).push (itL l2)).push (itL l3)).push (itL l4)).objs.size:=by simp only [Heap.size_push]
  rw [e]
  exact Heap.get?_push_of_some _ (Heap.get?_push_of_some _ (Heap.get?_push_size _ rfl))
 have g5:(zL7 s1.heap l1 l2 l3 l4).get? (s1.heap.objs.size+5)=some (ir #[.none,.none,.none,.none]):=by
  have e:s1.heap.objs.size+5=(((((s1.heap.push (itL l1)).push (itL l2)).push (itL l3)).push (itL l4)).push (ir #[.ref s1.heap.objs.size,.ref (s1.heap.objs.size+1),.ref (s1.heap.objs.size+2),.ref (s1.heap.objs.size+3)])).objs.size:=by simp only [Heap.size_push]
  rw [e]
  exact Heap.get?_push_of_some _ (Heap.get?_push_size _ rfl)
 have g6:(zL7 s1.heap l1 l2 l3 l4).get? (s1.heap.objs.size+6)=some (zipO (s1.heap.objs.size+4) (s1.heap.objs.size+5)):=by
  have e:s1.heap.objs.size+6=((((((s1.heap.push (itL l1)).push (itL l2)).push (itL l3)).push (itL l4)).push (ir #[.ref s1.heap.objs.size,.ref (s1.heap.objs.size+1),.ref (s1.heap.objs.size+2),.ref (s1.heap.objs.size+3)])).push (ir #[.none,.none,.none,.none])).objs.size:=by simp only [Heap.size_push]
  rw [e]
  exact Heap.get?_push_size _ rfl
 have kp:∀ c o,s1.heap.get? c=some o→(zL7 s1.heap l1 l2 l3 l4).get? c=some o:=fun c o e=>Heap.get?_push_of_some _ (Heap.get?_push_of_some _ (Heap.get?_push_of_some _ (Heap.get?_push_of_some _ (Heap.get?_push_of_some _ (Heap.get?_push_of_some _ (Heap.get?_push_of_some _ e))))))
 refine ⟨⟨_,g6,rfl⟩,?_⟩
 refine wpAny_pyIter_zip (s:={ s1 with heap:=zL7 s1.heap l1 l2 l3 l4 }) g6 ?_
 refine ⟨s1.heap.objs.size+6,(s1.heap.objs.size+6)::(s1.heap.objs.size+4)::(s1.heap.objs.size+5)::[s1.heap.objs.size,s1.heap.objs.size+1,s1.heap.objs.size+2,s1.heap.objs.size+3],_,_,H1,rfl,I1.kept (t':=s1.toks) kp,
  pZ (s1.heap.objs.size+6) (s1.heap.objs.size+4) (s1.heap.objs.size+5) [(false,l1),(false,l2),(false,l3),(false,l4)] [s1.heap.objs.size,s1.heap.objs.size+1,s1.heap.objs.size+2,s1.heap.objs.size+3] (zap4 _ _ _ _ _ lt1 lt2 lt3 lt4) (by simp) (by simp) rfl,⟨g6,g4,⟨_,g5,rfl⟩,?_⟩,?_,q⟩
 ·intro i q it e1 e2
  match i,e1,e2 with
  | 0,e1,e2=>cases e1;cases e2;exact ⟨_,g0,rfl,rfl⟩
  | 1,e1,e2=>cases e1;cases e2;exact ⟨_,g1,rfl,rfl⟩
  | 2,e1,e2=>cases e1;cases e2;exact ⟨_,g2,rfl,rfl⟩
  | 3,e1,e2=>cases e1;cases e2;exact ⟨_,g3,rfl,rfl⟩
  | n+4,e1,e2=>simp at e1
 ·refine pB I1 (fun c hc=>I1.hok.fresh hc) fun c hc=>?_
  simp only [List.mem_cons,List.not_mem_nil,or_false] at hc
  rcases hc with r | r | r | r | r | r | r<;>rw [r]<;>first | exact Nat.le_refl _ | exact Nat.le_add_right _ _
end
end L2
namespace L2
open PySem PySem.Spec PyProof.Rows
def fQ (a:Int) (n:Nat):List Int:=(List.range n).map fun i:Nat=>a+(i:Int)
def tLR (ta:TA):TE:=fun σ H Q=>ta σ H fun vs H1=>∃ i j:Int,vs=[.int i,.int j]∧(-(2 ^ 62)≤i∧i<2 ^ 62∧-(2 ^ 62)≤j∧j<2 ^ 62)∧(j - i).toNat≤1000∧∀ l,H1 l=none→Q (.ref l) (upd H1 l (.lst ((fQ i (j - i).toNat).map V.int)))
theorem iA {X:Cx}{a b:Expr}{ta:TA}{p p2 pos pos2:Pos} (hc:X.calm=true) (hgL:Gl X "list") (hmL:X.mg "list"=none) (hg:Gl X "range") (hm:X.mg "range"=none) (ha:PA X [a,b] ta)
  (hs:starEach [a,b] X.env=[(false,eval a X.env),(false,eval b X.env)]:=by rfl) (hs2:starEach [b] X.env=[(false,eval b X.env)]:=by rfl)
  (hs3:starEach [.Call (.Name "range" p2) [a,b] [] pos2] X.env=[(false,eval (.Call (.Name "range" p2) [a,b] [] pos2) X.env)]:=by rfl) :
  PE X (.Call (.Name "list" p) [.Call (.Name "range" p2) [a,b] [] pos2] [] pos) (tLR ta):=by
 intro pins s σ H Q I h
 refine wpAny_Call_Name_kw (eT I hgL hmL PyProof.Rows.boot_list ?_)
 refine PyProof.Rows.callWith_type1 ?_ hs3 rfl
 rw [hs3]
 show wpAny _ _ (spliced ((false,eval (.Call (.Name "range" p2) [a,b] [] pos2) X.env)::backTo pos [])) _ _ s
 refine Calls.spliced_cons ?_
 refine Call_ (eT I hg hm boot_range (PyProof.Rows.callWith_type1 (thn (ha pos2 pins s σ H _ I h) fun us s1 ⟨vs,H1,I1,r1,q1⟩=>?_) (by rw [hs,hs2]) (by rw [hs2];rfl)))
 obtain ⟨i,j,e,⟨b1,b2,b3,b4⟩,hl,q⟩:=q1
 subst e
 cases r1 with
 | cons r rr =>
  cases rr with
  | cons r' rr =>
   cases rr
   obtain ⟨t,rfl⟩:=r
   obtain ⟨t',rfl⟩:=r'
   refine call_range_2 ?_
   refine Calls.spliced_nil ?_
   have I2:Inv X pins σ H1 { s1 with heap:=s1.heap.push { cls:=.type "range",data:=.fields #[.int i t,.int j t',.int 1 s1.toks] },toks:=s1.toks+1 }:=I1.kept fun b o e=>Heap.get?_push_of_some _ e
   generalize hs1:({ s1 with heap:=s1.heap.push { cls:=.type "range",data:=.fields #[.int i t,.int j t',.int 1 s1.toks] },toks:=s1.toks+1 }:Shared)=s2 at I2
   have hr:IsRange s2.heap s1.heap.objs.size i j 1 t t' s1.toks:=by rw [← hs1];exact IsRange.new ..
   refine call_list_range (n:=(j - i).toNat) (I2.ok.hd hc) hr (small_one b1 b2 b3 b4) (by rw [rangeSize_one];split<;>omega) (by omega) fun h' tk acc c kp e it=>?_
   refine ⟨.ref s2.heap.objs.size,_,I2.laid (t':=tk) kp (Nat.le_refl _) (show ObjOk X.prog X.w _ h' _ (.lst ((fQ i (j - i).toNat).map V.int)) from ⟨?_,acc.toList,c,?_,by simpa using e⟩),rfl,q _ (I2.hok.fresh (Nat.le_refl _))⟩
   ·unfold fQ
    rw [List.length_map,List.length_map,List.length_range]
    exact Veil.small (by omega)
   ·refine jh ?_ fun k x u e1 e2=>?_
    ·unfold fQ
     rw [List.length_map,List.length_map,List.length_range,Array.length_toList,it.1]
    ·obtain ⟨tt,ht⟩:=it.2 k u (by rw [← e2,Array.getElem?_toList])
     unfold fQ at e1
     rw [List.getElem?_map,List.getElem?_map] at e1
     by_cases hk:k<(j - i).toNat
     ·rw [List.getElem?_range hk] at e1
      cases e1
      refine ⟨tt,?_⟩
      rw [ht,Int.mul_one]
     ·rw [List.getElem?_eq_none (by simpa using hk)] at e1
      cases e1
end L2
namespace Veil
open PySem L2
def jI (p v:Int):Bool:=decide (0≤v∧v<p)
inductive ki (C:Addr) (vs:List V) (H:Hp) (Q:VK) (E_:XK):Prop
 | mk (t:Addr) (p n f v:Int) (h0_:vs=[.ref t,.int v]) (h1_:TabAt C H t p n f) (h2_:ci H Q (.bl (jI p v))):ki C vs H Q E_
def ny (p n pl:Int) (k:Str) (v:Int):Bool:=if k="hand" then decide (1≤v∧v≤n) else if k="number" then jI p v else decide (0≤v∧v<pl)
inductive qf (C:Addr) (vs:List V) (H:Hp) (Q:VK) (E_:XK):Prop
 | mk (t:Addr) (p n f pl v:Int) (k:Str) (h0_:vs=[.ref t,.int pl,.str k,.int v]) (h1_:TabAt C H t p n f) (h2_:ci H Q (.bl (ny p n pl k v))):qf C vs H Q E_
def Stp.kinds:Stp→List Str
 | .ein _=>["hand"]
 | .fix _=>["number"]
 | .bye _ _=>["step","number"]
 | .sum _ _=>["step","step"]
 | .less _ _=>["step","step"]
 | .mul _ _=>["step","step"]
 | .anew _=>["step"]
 | .opn _=>["step"]
def Stp.args:Stp→List Int
 | .ein h=>[h]
 | .fix x=>[x]
 | .bye a x=>[a,x]
 | .sum a b=>[a,b]
 | .less a b=>[a,b]
 | .mul a b=>[a,b]
 | .anew a=>[a]
 | .opn a=>[a]
theorem Stp.vs_eq (s:Stp):s.vs=.str s.word::s.args.map V.int:=by cases s<;>rfl
theorem Stp.kinds_len (s:Stp):s.kinds.length=s.args.length:=by cases s<;>rfl
theorem Stp.args_len (s:Stp):1≤s.args.length∧s.args.length≤2:=by cases s<;>simp [Stp.args]
def ix (p n pl:Int) (s:Stp):Bool:=(s.kinds.zip s.args).all fun kv=>ny p n pl kv.1 kv.2
theorem fit_h (p n pl v:Int):ny p n pl "hand" v=decide (1≤v∧v≤n):=by unfold ny;rw [if_pos rfl]
theorem fit_n (p n pl v:Int):ny p n pl "number" v=decide (0≤v∧v<p):=by
 unfold ny
 rw [if_neg (by decide +kernel),if_pos rfl]
 rfl
theorem fit_s (p n pl v:Int):ny p n pl "step" v=decide (0≤v∧v<pl):=by
 unfold ny
 rw [if_neg (by decide +kernel),if_neg (by decide +kernel)]
theorem rightB_iff {p n pl:Int}{s:Stp}:ix p n pl s=true↔s.Right p n pl:=by
 cases s<;>simp only [ix,Stp.kinds,Stp.args,List.zip_cons_cons,List.zip_nil_left,List.zip_nil_right,List.all_cons,List.all_nil,Bool.and_true,fit_h,fit_n,fit_s,Stp.Right,Bool.and_eq_true,decide_eq_true_eq]
structure Frm (P:Program) (w:World) (K:PySem.W.Frag) (mg:Str→Option Value) (fa:Addr) (kvs:List (Key×V)):Prop where
 g:mg "FORMS"=some (.ref fa)
 d:KDict P w K fa kvs
 at_:∀ s:Stp,∃ t,mK kvs (Sum.inr s.word:Key)=some (.ref t)∧∀ H,SqT K H t (s.kinds.map V.str)
inductive fV (C:Addr) (vs:List V) (H:Hp) (Q:VK) (E_:XK):Prop
 | mk (t b:Addr) (p n f pl:Int) (z:Stp) (h0_:vs=[.ref t,.int pl,.ref b]) (h1_:TabAt C H t p n f) (h2_:H b=some (.tup z.vs)) (h3_:ci H Q (.bl (ix p n pl z))):fV C vs H Q E_
def aU (p n:Int) (ss:List Stp):Bool:=decide (1≤ss.length∧ss.length≤24) && (List.range ss.length).all fun i=>ix p n (i:Int) (ss.getD i (.fix 0))
theorem rightsB_iff {p n:Int}{ss:List Stp}:aU p n ss=true↔(1≤ss.length∧ss.length≤24)∧dw p n ss:=by
 unfold aU dw
 rw [Bool.and_eq_true,decide_eq_true_eq,List.all_eq_true]
 refine and_congr_right fun hl=>⟨fun h i s e=>?_,fun h i hi=>?_⟩
 ·obtain ⟨hi,e'⟩:=List.getElem?_eq_some_iff.mp e
  have:=h i (List.mem_range.mpr hi)
  rw [List.getD_eq_getElem?_getD,e] at this
  exact rightB_iff.mp this
 ·have hi':=List.mem_range.mp hi
  rw [List.getD_eq_getElem?_getD,List.getElem?_eq_getElem hi']
  exact rightB_iff.mpr (h i _ (List.getElem?_eq_getElem hi'))
inductive mP (C:Addr) (vs:List V) (H:Hp) (Q:VK) (E_:XK):Prop
 | mk (t a:Addr) (p n f:Int) (ws:List V) (ss:List Stp) (h0_:vs=[.ref t,.ref a]) (h1_:TabAt C H t p n f) (h2_:H a=some (.lst ws)) (h3_:StpsAt H ws ss) (h4_:ci H Q (.bl (aU p n ss))):mP C vs H Q E_
inductive cm (C cS:Addr) (vs:List V) (H:Hp) (Q:VK) (E:XK):Prop
 | mk (t a:Addr) (p n f:Int) (ws:List V) (ss:List Stp) (h0_:vs=[.ref t,.ref a]) (h1_:TabAt C H t p n f) (h2_:H a=some (.lst ws)) (h3_:StpsAt H ws ss) (h4_:(aU p n ss=true→ci H Q .non)) (h5_:(aU p n ss=false→∀ H',Same H H'→E (.ref cS) none H')):cm C cS vs H Q E
def ce (n:Int):List Int:=fQ 1 n.toNat
def Stp.dealers (n:Int):Stp→List Int
 | .ein h=>[h]
 | .mul _ _=>ce n
 | .anew _=>ce n
 | _=>[]
inductive dM (C:Addr) (vs:List V) (H:Hp) (Q:VK) (E_:XK):Prop
 | mk (t:Addr) (p n f:Int) (h0_:vs=[.ref t]) (h1_:TabAt C H t p n f) (h2_:(0≤n∧n≤10)) (h3_:mG H Q ((ce n).map V.int)):dM C vs H Q E_
inductive cn (C:Addr) (vs:List V) (H:Hp) (Q:VK) (E_:XK):Prop
 | mk (t b:Addr) (p n f:Int) (z:Stp) (h0_:vs=[.ref t,.ref b]) (h1_:TabAt C H t p n f) (h2_:(0≤n∧n≤10)) (h3_:H b=some (.tup z.vs)) (h4_:mG H Q ((z.dealers n).map V.int)):cn C vs H Q E_
theorem cE (n:Int):(ce n).length=n.toNat:=by unfold ce fQ;rw [List.length_map,List.length_range]
theorem gh {n:Int} (h:0≤n) (z:Stp):((z.dealers n).length:Int)=z.need n:=by
 cases z<;>simp only [Stp.dealers,Stp.need,cE,List.length_cons,List.length_nil]<;>omega
theorem l8 (f n:Int):∀ ss:List Stp,bg f n ss=f*(ss.map fun z=>z.need n).sum
 | []=>by simp [bg]
 | z::r=>by rw [bg,l8 f n r,List.map_cons,List.sum_cons,Int.mul_add]
inductive kh (C cS:Addr) (vs:List V) (H:Hp) (Q:VK) (E:XK):Prop
 | mk (t a:Addr) (p n f:Int) (ws:List V) (ss:List Stp) (h0_:vs=[.ref t,.ref a]) (h1_:TabAt C H t p n f) (h2_:(0≤n∧n≤10)) (h3_:(0≤f∧f≤2)) (h4_:H a=some (.lst ws)) (h5_:StpsAt H ws ss) (h6_:(aU p n ss=true→ci H Q (.int (bg f n ss)))) (h7_:(aU p n ss=false→∀ H',Same H H'→E (.ref cS) none H')):kh C cS vs H Q E
end Veil
namespace Veil
open PySem L2
end Veil
namespace Veil
open PySem L2
def oq (t1 t2 t3 t4 t5 t6 t7 t8:Addr):List (Key×V):=[((Sum.inr (Str.ofString "in"):Key),V.ref t1),((Sum.inr (Str.ofString "fix"):Key),V.ref t2),((Sum.inr (Str.ofString "sum"):Key),V.ref t3),((Sum.inr (Str.ofString "less"):Key),V.ref t4),((Sum.inr (Str.ofString "by"):Key),V.ref t5),((Sum.inr (Str.ofString "mul"):Key),V.ref t6),((Sum.inr (Str.ofString "anew"):Key),V.ref t7),((Sum.inr (Str.ofString "open"):Key),V.ref t8)]
theorem iu {K:PySem.W.Frag}{t:Addr}{dd:Option Addr}{its:Array Value}{n:Nat}{sl:Array (Option Value)}{xs:List V} (l:K.lookup t=some ⟨.type "tuple",dd,.seq its n,sl⟩) (v:Vals xs its.toList) (hl:xs.length≤100) (H:Hp):SqT K H t xs:=.inr ⟨_,its,n,l,rfl,rfl,by have:=v.length;simp only [Array.length_toList] at this;rw [← this];exact small (by omega),v⟩
theorem frm_mk {P:Program}{w:World}{K:PySem.W.Frag}{mg:Str→Option Value}{fa t1 t2 t3 t4 t5 t6 t7 t8:Addr}{k1 k2 k3 k4 k5 k6 k7 k8:Tok} (g:mg "FORMS"=some (.ref fa)) (sF:(fa == sysModules)=false) (lk:K.lookup fa=some { cls:=.type "dict",data:=.dict #[{ hash:=PyData.keyHash w.params (Str.ofString "in"),key:=.str (Str.ofString "in") k1,val:=.ref t1 },{ hash:=PyData.keyHash w.params (Str.ofString "fix"),key:=.str (Str.ofString "fix") k2,val:=.ref t2 },{ hash:=PyData.keyHash w.params (Str.ofString "sum"),key:=.str (Str.ofString "sum") k3,val:=.ref t3 },{ hash:=PyData.keyHash w.params (Str.ofString "less"),key:=.str (Str.ofString "less") k4,val:=.ref t4 },{ hash:=PyData.keyHash w.params (Str.ofString "by"),key:=.str (Str.ofString "by") k5,val:=.ref t5 },{ hash:=PyData.keyHash w.params (Str.ofString "mul"),key:=.str (Str.ofString "mul") k6,val:=.ref t6 },{ hash:=PyData.keyHash w.params (Str.ofString "anew"),key:=.str (Str.ofString "anew") k7,val:=.ref t7 },{ hash:=PyData.keyHash w.params (Str.ofString "open"),key:=.str (Str.ofString "open") k8,val:=.ref t8 }] 8 })
  (h1:∀ H,SqT K H t1 [.str "hand"]) (h2:∀ H,SqT K H t2 [.str "number"]) (h3:∀ H,SqT K H t3 [.str "step",.str "step"]) (h4:∀ H,SqT K H t4 [.str "step",.str "step"]) (h5:∀ H,SqT K H t5 [.str "step",.str "number"]) (h6:∀ H,SqT K H t6 [.str "step",.str "step"]) (h7:∀ H,SqT K H t7 [.str "step"]) (h8:∀ H,SqT K H t8 [.str "step"]):Frm P w K mg fa (oq t1 t2 t3 t4 t5 t6 t7 t8):=by
 refine ⟨g,⟨sF,_,[((Sum.inr (Str.ofString "in"):Key),Value.ref t1),((Sum.inr (Str.ofString "fix"):Key),Value.ref t2),((Sum.inr (Str.ofString "sum"):Key),Value.ref t3),((Sum.inr (Str.ofString "less"):Key),Value.ref t4),((Sum.inr (Str.ofString "by"):Key),Value.ref t5),((Sum.inr (Str.ofString "mul"):Key),Value.ref t6),((Sum.inr (Str.ofString "anew"):Key),Value.ref t7),((Sum.inr (Str.ofString "open"):Key),Value.ref t8)],lk,⟨_,_,⟨rfl,rfl,rfl⟩,rfl,?_,?_,?_⟩,?_⟩,fun s=>?_⟩
 ·intro e he
  simp only [List.mem_toArray,List.mem_cons,List.not_mem_nil,or_false] at he
  rcases he with r | r | r | r | r | r | r | r<;>rw [r]<;>exact ⟨_,bA P w _ _,rfl⟩
 ·exact .cons (bA P w _ _) rfl (.cons (bA P w _ _) rfl (.cons (bA P w _ _) rfl (.cons (bA P w _ _) rfl (.cons (bA P w _ _) rfl (.cons (bA P w _ _) rfl (.cons (bA P w _ _) rfl (.cons (bA P w _ _) rfl (.nil))))))))
 ·show List.Nodup [(Sum.inr (Str.ofString "in"):Key),(Sum.inr (Str.ofString "fix"):Key),(Sum.inr (Str.ofString "sum"):Key),(Sum.inr (Str.ofString "less"):Key),(Sum.inr (Str.ofString "by"):Key),(Sum.inr (Str.ofString "mul"):Key),(Sum.inr (Str.ofString "anew"):Key),(Sum.inr (Str.ofString "open"):Key)]
  clear lk h1 h2 h3 h4 h5 h6 h7 h8 g sF
  decide +kernel
 ·exact .cons ⟨rfl,rfl⟩ (.cons ⟨rfl,rfl⟩ (.cons ⟨rfl,rfl⟩ (.cons ⟨rfl,rfl⟩ (.cons ⟨rfl,rfl⟩ (.cons ⟨rfl,rfl⟩ (.cons ⟨rfl,rfl⟩ (.cons ⟨rfl,rfl⟩ (.nil))))))))
 ·have look:∀ k:Key,mK (oq t1 t2 t3 t4 t5 t6 t7 t8) k=if (Sum.inr (Str.ofString "in"):Key)=k then some (V.ref t1) else if (Sum.inr (Str.ofString "fix"):Key)=k then some (V.ref t2) else if (Sum.inr (Str.ofString "sum"):Key)=k then some (V.ref t3) else if (Sum.inr (Str.ofString "less"):Key)=k then some (V.ref t4) else if (Sum.inr (Str.ofString "by"):Key)=k then some (V.ref t5) else if (Sum.inr (Str.ofString "mul"):Key)=k then some (V.ref t6) else if (Sum.inr (Str.ofString "anew"):Key)=k then some (V.ref t7) else if (Sum.inr (Str.ofString "open"):Key)=k then some (V.ref t8) else none:=fun k=>by
   unfold oq
   repeat' split
   all_goals first
    | (rw [iN (by assumption)])
    | skip
   all_goals repeat (first | rw [iN (by assumption)] | rw [jZ (by assumption)])
   all_goals rfl
  cases s
  case ein=>exact ⟨t1,by have e:=look (Sum.inr (Str.ofString "in"));rw [if_pos rfl] at e;exact e,h1⟩
  case fix=>exact ⟨t2,by have e:=look (Sum.inr (Str.ofString "fix"));rw [if_neg (show ¬ (Sum.inr (Str.ofString "in"):Key)=Sum.inr (Str.ofString "fix") by decide +kernel)] at e;rw [if_pos rfl] at e;exact e,h2⟩
  case bye=>exact ⟨t5,by have e:=look (Sum.inr (Str.ofString "by"));rw [if_neg (show ¬ (Sum.inr (Str.ofString "in"):Key)=Sum.inr (Str.ofString "by") by decide +kernel)] at e;rw [if_neg (show ¬ (Sum.inr (Str.ofString "fix"):Key)=Sum.inr (Str.ofString "by") by decide +kernel)] at e;rw [if_neg (show ¬ (Sum.inr (Str.ofString "sum"):Key)=Sum.inr (Str.ofString "by") by decide +kernel)] at e;rw [if_neg (show ¬ (Sum.inr (Str.ofString "less"):Key)=Sum.inr (Str.ofString "by") by decide +kernel)] at e;rw [if_pos rfl] at e;exact e,h5⟩
  case sum=>exact ⟨t3,by have e:=look (Sum.inr (Str.ofString "sum"));rw [if_neg (show ¬ (Sum.inr (Str.ofString "in"):Key)=Sum.inr (Str.ofString "sum") by decide +kernel)] at e;rw [if_neg (show ¬ (Sum.inr (Str.ofString "fix"):Key)=Sum.inr (Str.ofString "sum") by decide +kernel)] at e;rw [if_pos rfl] at e;exact e,h3⟩
  case less=>exact ⟨t4,by have e:=look (Sum.inr (Str.ofString "less"));rw [if_neg (show ¬ (Sum.inr (Str.ofString "in"):Key)=Sum.inr (Str.ofString "less") by decide +kernel)] at e;rw [if_neg (show ¬ (Sum.inr (Str.ofString "fix"):Key)=Sum.inr (Str.ofString "less") by decide +kernel)] at e;rw [if_neg (show ¬ (Sum.inr (Str.ofString "sum"):Key)=Sum.inr (Str.ofString "less") by decide +kernel)] at e;rw [if_pos rfl] at e;exact e,h4⟩
  case mul=>exact ⟨t6,by have e:=look (Sum.inr (Str.ofString "mul"));rw [if_neg (show ¬ (Sum.inr (Str.ofString "in"):Key)=Sum.inr (Str.ofString "mul") by decide +kernel)] at e;rw [if_neg (show ¬ (Sum.inr (Str.ofString "fix"):Key)=Sum.inr (Str.ofString "mul") by decide +kernel)] at e;rw [if_neg (show ¬ (Sum.inr (Str.ofString "sum"):Key)=Sum.inr (Str.ofString "mul") by decide +kernel)] at e;rw [if_neg (show ¬ (Sum.inr (Str.ofString "less"):Key)=Sum.inr (Str.ofString "mul") by decide +kernel)] at e;rw [if_neg (show ¬ (Sum.inr (Str.ofString "by"):Key)=Sum.inr (Str.ofString "mul") by decide +kernel)] at e;rw [if_pos rfl] at e;exact e,h6⟩
  case anew=>exact ⟨t7,by have e:=look (Sum.inr (Str.ofString "anew"));rw [if_neg (show ¬ (Sum.inr (Str.ofString "in"):Key)=Sum.inr (Str.ofString "anew") by decide +kernel)] at e;rw [if_neg (show ¬ (Sum.inr (Str.ofString "fix"):Key)=Sum.inr (Str.ofString "anew") by decide +kernel)] at e;rw [if_neg (show ¬ (Sum.inr (Str.ofString "sum"):Key)=Sum.inr (Str.ofString "anew") by decide +kernel)] at e;rw [if_neg (show ¬ (Sum.inr (Str.ofString "less"):Key)=Sum.inr (Str.ofString "anew") by decide +kernel)] at e;rw [if_neg (show ¬ (Sum.inr (Str.ofString "by"):Key)=Sum.inr (Str.ofString "anew") by decide +kernel)] at e;rw [if_neg (show ¬ (Sum.inr (Str.ofString "mul"):Key)=Sum.inr (Str.ofString "anew") by decide +kernel)] at e;rw [if_pos rfl] at e;exact e,h7⟩
  case opn=>exact ⟨t8,by have e:=look (Sum.inr (Str.ofString "open"));rw [if_neg (show ¬ (Sum.inr (Str.ofString "in"):Key)=Sum.inr (Str.ofString "open") by decide +kernel)] at e;rw [if_neg (show ¬ (Sum.inr (Str.ofString "fix"):Key)=Sum.inr (Str.ofString "open") by decide +kernel)] at e;rw [if_neg (show ¬ (Sum.inr (Str.ofString "sum"):Key)=Sum.inr (Str.ofString "open") by decide +kernel)] at e;rw [if_neg (show ¬ (Sum.inr (Str.ofString "less"):Key)=Sum.inr (Str.ofString "open") by decide +kernel)] at e;rw [if_neg (show ¬ (Sum.inr (Str.ofString "by"):Key)=Sum.inr (Str.ofString "open") by decide +kernel)] at e;rw [if_neg (show ¬ (Sum.inr (Str.ofString "mul"):Key)=Sum.inr (Str.ofString "open") by decide +kernel)] at e;rw [if_neg (show ¬ (Sum.inr (Str.ofString "anew"):Key)=Sum.inr (Str.ofString "open") by decide +kernel)] at e;rw [if_pos rfl] at e;exact e,h8⟩
end Veil
namespace L2
open PySem PySem.Spec PyProof.Rows
open PySem.W (Dat kqdP kqdPs kqdOk)
def rCountD:V→List V→Hp→VK→Prop:=fun x vs H Q=>∃ (a:Addr) (xs:List V) (ds:List Dat) (y:V) (d:Dat),x=.ref a∧vs=[y]∧H a=some (.lst xs)∧RepDs H xs ds∧RepD H y d∧(∀ e∈ds,kqdOk 8 e=true)∧kqdOk 8 d=true∧Q (.int ((ds.countP fun e=>PyData.eqv (kqdP e) (kqdP d):Nat):Int)) H
theorem mm:∀ ds:List Dat,kqdPs ds=ds.map kqdP
 | []=>rfl
 | d::ds=>by rw [kqdPs,mm ds];rfl
theorem qL {X:Cx} (hu:X.A.units+64<cLine):MtR X "list.count" rCountD:=by
 intro pins s σ H x vs v us Q I rx rv h
 obtain ⟨a,xs,ds,y,d,rfl,rfl,ha,hxs,hy,ka,kd,q⟩:=h
 cases rx
 obtain ⟨u,rfl,ru⟩:=rv.one
 obtain ⟨_,its,m,rvs,hg⟩:=(show ObjOk X.prog X.w H s.heap a (.lst xs) from I.hok a _ ha)
 obtain ⟨as,ra⟩:=RepDs.reads I 8 hxs rvs ka
 obtain ⟨bs,rx'⟩:=hy.reads I 8 ru kd
 have l:=PySem.W.kqd_layL ka
 have ld:=PySem.W.kqd_lay 8 d kd
 have ra':ReadsAll s.heap its.toArray.toList (kqdPs ds) as:=by simpa using ra
 refine call_meets F.slot_list_count ⟨_,hg,rfl⟩ F.entry_list_count (F.args_list_count_2 _ _) (SeqAt.list_countAt a its.toArray m none #[] u (fun z=>PyData.eqv (SeqAt.readOf s.heap z) (kqdP d))) ⟨hg,SeqAt.items_eqAt ra' rx' l.1 ld.1 ?_,?_⟩
 ·have:=Nat.min_le_right (PyData.depthAll (kqdPs ds)) (kqdP d).depth
  have h2:=ld.2
  omega
 ·refine ⟨.int _,H,I.tok _,⟨_,rfl⟩,?_⟩
  have e:its.toArray.toList.countP (fun z=>PyData.eqv (SeqAt.readOf s.heap z) (kqdP d))=ds.countP (fun e=>PyData.eqv (kqdP e) (kqdP d)):=by
   have e1:=SeqAt.readsAll_map (kqdPs ds) _ _ l.1 ra'
   rw [mm] at e1
   have e2:=congrArg (List.countP fun z=>PyData.eqv z (kqdP d)) e1
   rw [List.countP_map,List.countP_map] at e2
   exact e2
  rw [e]
  exact q
theorem eqv_iff {e d:Dat} (he:kqdOk 8 e=true) (hd:kqdOk 8 d=true):PyData.eqv (kqdP e) (kqdP d)=true↔e=d:=by
 have:=PySem.W.kqd_any [e] d (fun x hx=>by rw [List.mem_singleton.mp hx];exact he) hd
 simp only [kqdPs,List.any_cons,List.any_nil,Bool.or_false,List.mem_singleton] at this
 rw [this]
 exact eq_comm
end L2
namespace Veil
open PySem L2
open PySem.W (Dat kqdP kqdPs kqdOk)
inductive gq (C:Addr) (vs:List V) (H:Hp) (Q:VK) (E_:XK):Prop
 | mk (t r:Addr) (p n f:Int) (ns:List Int) (h0_:vs=[.ref t,.ref r]) (h1_:TabAt C H t p n f) (h2_:H r=some (.lst (ns.map V.int))) (h3_:ns.length≤1000) (h4_:ci H Q (.bl (ns.all (jI p)))):gq C vs H Q E_
theorem nums_iff {p:Int}{ns:List Int}:ns.all (jI p)=true↔∀ x∈ns,0≤x∧x<p:=by
 rw [List.all_eq_true]
 exact forall_congr' fun x=>forall_congr' fun _=>by unfold jI;rw [decide_eq_true_eq]
inductive lB (vs:List V) (H:Hp) (Q:VK) (E_:XK):Prop
 | mk (a:Addr) (h:Int) (ws:List V) (ss:List Stp) (h0_:vs=[.ref a,.int h]) (h1_:H a=some (.lst ws)) (h2_:StpsAt H ws ss) (h3_:ci H Q (.int (aR ss h:Int))):lB vs H Q E_
theorem oM (ss:List Stp) (h:Int):(ss.map Stp.dat).countP (fun e=>PyData.eqv (kqdP e) (kqdP (Stp.ein h).dat))=aR ss h:=by
 unfold aR
 rw [List.countP_map,List.countP_eq_length_filter]
 congr 1
 apply List.filter_congr
 intro s _
 show PyData.eqv (kqdP s.dat) (kqdP (Stp.ein h).dat)=_
 exact Bool.eq_iff_iff.mpr ((eqv_iff s.ok8 (Stp.ein h).ok8).trans (dat_ein.trans decide_eq_true_iff.symm))
def eW (p n:Int) (ss:List Stp) (inp:List (List Int)):Bool:=decide ((inp.length:Int)=n) && (List.range inp.length).all fun i=>decide (aR ss (1+(i:Int))≤(inp.getD i []).length) && (inp.getD i []).all (jI p)
theorem eO {p n:Int}{ss:List Stp}{inp:List (List Int)} (hn:0≤n):eW p n ss inp=true↔InsOk p n ss inp:=by
 unfold eW
 rw [Bool.and_eq_true,decide_eq_true_eq,List.all_eq_true]
 constructor
 ·rintro ⟨hl,h⟩
  have hl':inp.length=n.toNat:=by omega
  refine ⟨hl',fun r hr x hx=>?_,fun k h1 h2=>?_⟩
  ·obtain ⟨i,hi⟩:=List.getElem?_of_mem hr
   have il:=(List.getElem?_eq_some_iff.mp hi).1
   have:=h i (List.mem_range.mpr il)
   rw [Bool.and_eq_true,List.getD_eq_getElem?_getD,hi] at this
   exact nums_iff.mp this.2 x hx
  ·have:=h (k - 1).toNat (List.mem_range.mpr (by omega))
   rw [Bool.and_eq_true,decide_eq_true_eq,show 1+(((k - 1).toNat:Nat):Int)=k by omega] at this
   exact this.1
 ·rintro ⟨hl,hb,he⟩
  refine ⟨by omega,fun i hi=>?_⟩
  have il:=List.mem_range.mp hi
  rw [Bool.and_eq_true,decide_eq_true_eq]
  have e:bL inp (1+(i:Int))=inp.getD i []:=by unfold bL;rw [show (1+(i:Int) - 1).toNat=i by omega]
  refine ⟨?_,nums_iff.mpr fun x hx=>?_⟩
  ·rw [← e]
   exact he _ (by omega) (by omega)
  ·rw [List.getD_eq_getElem?_getD,List.getElem?_eq_getElem il] at hx
   exact hb _ (List.getElem_mem il) x hx
inductive fY (C:Addr) (vs:List V) (H:Hp) (Q:VK) (E_:XK):Prop
 | mk (t a b:Addr) (p n f:Int) (ws:List V) (ss:List Stp) (is:List Addr) (inp:List (List Int)) (h0_:vs=[.ref t,.ref a,.ref b]) (h1_:TabAt C H t p n f) (h2_:H a=some (.lst ws)) (h3_:StpsAt H ws ss) (h4_:H b=some (.lst (is.map V.ref))) (h5_:InsAt H is inp) (h6_:(∀ r∈inp,r.length≤1000)) (h7_:ci H Q (.bl (eW p n ss inp))):fY C vs H Q E_
inductive bW (C cI:Addr) (vs:List V) (H:Hp) (Q:VK) (E:XK):Prop
 | mk (t a b:Addr) (p n f:Int) (ws:List V) (ss:List Stp) (is:List Addr) (inp:List (List Int)) (h0_:vs=[.ref t,.ref a,.ref b]) (h1_:TabAt C H t p n f) (h2_:H a=some (.lst ws)) (h3_:StpsAt H ws ss) (h4_:H b=some (.lst (is.map V.ref))) (h5_:InsAt H is inp) (h6_:(∀ r∈inp,r.length≤1000)) (h7_:(eW p n ss inp=true→ci H Q .non)) (h8_:(eW p n ss inp=false→∀ H',Same H H'→E (.ref cI) none H')):bW C cI vs H Q E
def inV1 (ss:List Stp) (inp:List (List Int)) (i:Nat) (h:Int):Int:=(bL inp h).getD (aR (ss.take i) h) 0
inductive gp (vs:List V) (H:Hp) (Q:VK) (E_:XK):Prop
 | mk (a b:Addr) (i:Nat) (h p n:Int) (ws:List V) (ss:List Stp) (is:List Addr) (inp:List (List Int)) (h0_:vs=[.ref a,.int (i:Int),.ref b]) (h1_:H a=some (.lst ws)) (h2_:StpsAt H ws ss) (h3_:ss.length≤100) (h4_:ss[i]?=some (.ein h)) (h5_:H b=some (.lst (is.map V.ref))) (h6_:InsAt H is inp) (h7_:InsOk p n ss inp) (h8_:(1≤h∧h≤n)) (h9_:ci H Q (.int (inV1 ss inp i h))):gp vs H Q E_
def recV (p:Int) (fd:List Int):Stp→Int
 | .ein _=>0
 | .fix x=>x
 | .bye a x=>fd.getD a.toNat 0*x%p
 | .sum a b=>(fd.getD a.toNat 0+fd.getD b.toNat 0)%p
 | .less a b=>(fd.getD a.toNat 0 - fd.getD b.toNat 0)%p
 | .mul a b=>fd.getD a.toNat 0*fd.getD b.toNat 0%p
 | .anew a=>fd.getD a.toNat 0
 | .opn a=>fd.getD a.toNat 0
inductive dL (C:Addr) (vs:List V) (H:Hp) (Q:VK) (E_:XK):Prop
 | mk (t b r:Addr) (p n f:Int) (z:Stp) (fd:List Int) (h0_:vs=[.ref t,.ref b,.ref r]) (h1_:TabAt C H t p n f) (h2_:(0<p∧p≤31)) (h3_:H b=some (.tup z.vs)) (h4_:H r=some (.lst (fd.map V.int))) (h5_:z.Right p n (fd.length:Int)) (h6_:(∀ h,z≠.ein h)) (h7_:(∀ x∈fd,0≤x∧x<p)) (h8_:ci H Q (.int (recV p fd z))):dL C vs H Q E_
theorem lh {ss:List Stp}{i:Nat}{h:Int} (hs:ss[i]?=some (.ein h)):aR (ss.take i) h<aR ss h:=by
 have e1:=iY (h:=h) hs
 rw [if_pos rfl] at e1
 have e2:aR ss h=aR (ss.take (i+1)) h+aR (ss.drop (i+1)) h:=by
  rw [← used_app,List.take_append_drop]
 omega
def Rests (n:Int) (ss:List Stp) (inp rest:List (List Int)) (i:Nat):Prop:=∀ h,1≤h→h≤n→bL rest h=(bL inp h).drop (aR (ss.take i) h)
theorem Rests.start {n:Int}{ss:List Stp}{inp:List (List Int)}:Rests n ss inp inp 0:=fun h _ _=>by simp [aR]
theorem Rests.next {p n:Int}{ss:List Stp}{inp rest:List (List Int)}{i:Nat} (R:Rests n ss inp rest i) (hl:rest.length=n.toNat) {s:Stp} (hs:ss[i]?=some s) (hr:s.Right p n (i:Int)):Rests n ss inp (dU rest s) (i+1):=by
 intro h h1 h2
 rw [iY hs]
 cases s with
 | ein k =>
  show bL (rest.set (k - 1).toNat (bL rest k).tail) h=_
  have hk:=hr.1
  have hk2:=hr.2
  rw [om hk h1 (by omega)]
  by_cases e:h=k
  ·subst e
   rw [if_pos rfl,if_pos rfl,R h h1 h2,List.tail_drop]
  ·rw [if_neg e,if_neg (fun z=>e (by injection z with z;exact z.symm)),Nat.add_zero]
   exact R h h1 h2
 | _=>rw [if_neg (fun z=>nomatch z),Nat.add_zero];exact R h h1 h2
theorem qc {p n:Int}{ss:List Stp}{inp rest:List (List Int)}{i:Nat}{fd:List Int} (R:Rests n ss inp rest i) {h:Int} (h1:1≤h) (h2:h≤n):lq p rest fd (.ein h)=inV1 ss inp i h:=by
 show (bL rest h).headD 0=_
 unfold inV1
 rw [R h h1 h2,List.getD_eq_getElem?_getD]
 rw [List.headD_eq_head?_getD,List.head?_drop]
theorem stpV_rec {p:Int}{rest:List (List Int)}{fd:List Int}{s:Stp} (h:∀ k,s≠.ein k):lq p rest fd s=recV p fd s:=by
 cases s with
 | ein k=>exact absurd rfl (h k)
 | _=>rfl
inductive j9 (C cS cI:Addr) (vs:List V) (H:Hp) (Q:VK) (E:XK):Prop
 | mk (t a b:Addr) (p n f:Int) (ws:List V) (ss:List Stp) (is:List Addr) (inp:List (List Int)) (h0_:vs=[.ref t,.ref a,.ref b]) (h1_:TabAt C H t p n f) (h2_:(0<p∧p≤31)) (h3_:(0≤n∧n≤10)) (h4_:H a=some (.lst ws)) (h5_:StpsAt H ws ss) (h6_:H b=some (.lst (is.map V.ref))) (h7_:InsAt H is inp) (h8_:(∀ r∈inp,r.length≤1000)) (h9_:(aU p n ss=true→eW p n ss inp=true→mG H Q ((bq p ss inp).map V.int))) (h10_:(aU p n ss=false→∀ H',Same H H'→E (.ref cS) none H')) (h11_:(aU p n ss=true→eW p n ss inp=false→∀ H',Same H H'→E (.ref cI) none H')):j9 C cS cI vs H Q E
end Veil
namespace L2
open PySem PySem.Spec PyProof.Rows
open PySem.W (Looks looks_findIn looks_mroIn findIn mroIn)
section
variable {prog:Program}{w:World}{A:Around}{hh:Heap}{g:Array GenState}{d:Drawn}{t:Nat}{os:OsState}{a C:Addr}
end
structure jK (K:PySem.W.Frag) (C:Addr):Prop where
 ga:findIn K (.ref C) "__getattribute__"=some (some (.builtin "BaseException.__getattribute__"))
 gt:findIn K (.ref C) "__getattr__"=some none
 cl:findIn K (.ref C) "__class__"=some (some (.builtin "object.__class__"))
 mB:mroIn K C (.type "BaseException")=some true
 mO:mroIn K C (.type "object")=some true
end L2
namespace L2
open PySem PySem.Spec PyProof.Rows
end L2
namespace Veil
open PySem L2
end Veil
namespace Veil
open PySem L2
theorem Paired.append {α β:Type}{R:α→β→Prop}:∀ {a c:List α}{b d:List β},Paired R a b→Paired R c d→Paired R (a++c) (b++d)
 | _,_,_,_,.nil,h=>h
 | _,_,_,_,.cons r t,h=>.cons r (Veil.Paired.append t h)
end Veil
namespace Veil
open PySem L2
open PySem.W (Dat kqdP kqdPs kqdOk)
def ox (inp:List (List Int)):Dat:=.list (inp.map fun r=>.list (r.map Dat.int))
theorem InsAt.rep {H:Hp}:∀ {as:List Addr}{inp:List (List Int)},InsAt H as inp→RepDs H (as.map V.ref) (inp.map fun r=>.list (r.map Dat.int))
 | _,_,.nil=>.nil
 | _,_,.cons z t=>.cons (.lst z (RepDs.ints _)) (InsAt.rep t)
theorem ins_ok (inp:List (List Int)):kqdOk 8 (ox inp)=true:=by
 show (inp.map fun r=>Dat.list (r.map Dat.int)).all (kqdOk 7)=true
 rw [List.all_map]
 refine List.all_eq_true.mpr fun r _=>?_
 show (r.map Dat.int).all (kqdOk 6)=true
 rw [List.all_map]
 exact List.all_eq_true.mpr fun x _=>rfl
end Veil
namespace L2
open PySem PySem.Spec PyProof.Rows
end L2
namespace Veil
open PySem L2
def mY (n:Int):Int→List Int→Bool
 | _,[]=>true
 | l,h::r=>if h≤l∨n<h then false else mY n h r
def lP (n:Int) (hs:List Int):Bool:=mY n 0 hs
theorem risGo_iff {n:Int}:∀ {hs:List Int}{l:Int},mY n l hs=true↔(∀ h∈hs,l<h∧h≤n)∧hs.Pairwise (·<·)
 | [],l=>by simp [mY]
 | h::r,l=>by
  unfold mY
  by_cases c:h≤l∨n<h
  ·rw [if_pos c]
   refine ⟨fun z=>(nomatch z),fun z=>?_⟩
   have:=z.1 h List.mem_cons_self
   omega
  ·rw [if_neg c,risGo_iff (hs:=r) (l:=h),List.pairwise_cons]
   constructor
   ·rintro ⟨h1,h2⟩
    refine ⟨fun k hk=>?_,fun k hk=>(h1 k hk).1,h2⟩
    rcases List.mem_cons.mp hk with e | e
    ·subst e;omega
    ·have:=h1 k e;omega
   ·rintro ⟨h1,h2,h3⟩
    exact ⟨fun k hk=>⟨h2 k hk,(h1 k (List.mem_cons_of_mem _ hk)).2⟩,h3⟩
theorem risB_iff {n:Int}{hs:List Int}:lP n hs=true↔(∀ h∈hs,1≤h∧h≤n)∧hs.Pairwise (·<·):=by
 unfold lP
 rw [risGo_iff]
 exact and_congr_left fun _=>forall_congr' fun h=>forall_congr' fun _=>by omega
inductive j8 (C:Addr) (vs:List V) (H:Hp) (Q:VK) (E_:XK):Prop
 | mk (t s:Addr) (p n f:Int) (hs:List Int) (h0_:vs=[.ref t,.ref s]) (h1_:TabAt C H t p n f) (h2_:H s=some (.lst (hs.map V.int))) (h3_:ci H Q (.bl (lP n hs))):j8 C vs H Q E_
inductive dW (C cH:Addr) (vs:List V) (H:Hp) (Q:VK) (E:XK):Prop
 | mk (t s:Addr) (p n f:Int) (hs:List Int) (h0_:vs=[.ref t,.ref s]) (h1_:TabAt C H t p n f) (h2_:H s=some (.lst (hs.map V.int))) (h3_:(lP n hs=true→ci H Q .non)) (h4_:(lP n hs=false→∀ H',Same H H'→E (.ref cH) none H')):dW C cH vs H Q E
def iD (p sl:Int) (row:List Int):List Int:=List.zipWith (fun h b=>(h - sl*b)%p) (row++[0]) (0::row)
theorem jL (p sl:Int) (row:List Int):iD p sl row=kW p (-sl) (row++[0]) (0::row):=by
 unfold iD kW
 congr 1
 funext b h
 rw [Int.neg_mul,Int.sub_eq_add_neg]
theorem lf (p sl:Int) (row:List Int):(iD p sl row).length=row.length+1:=by rw [jL,gS];simp
theorem veilS_b {p sl:Int} (hp:0<p) (row:List Int):∀ v∈iD p sl row,0≤v∧v<p:=by rw [jL];exact oH hp _ _
def gm (p:Int) (hs:List Int):List Int:=hs.foldl (fun row h=>iD p (bw p h) row) [1]
theorem jM (p:Int) (hs:List Int) (h:Int):gm p (hs++[h])=iD p (bw p h) (gm p hs):=by unfold gm;rw [List.foldl_append];rfl
theorem gl (p:Int) (hs:List Int):(gm p hs).length=hs.length+1:=by
 unfold gm
 have:∀ (hs row:List Int),(hs.foldl (fun row h=>iD p (bw p h) row) row).length=row.length+hs.length:=fun hs=>by
  induction hs with
  | nil=>intro row;rfl
  | cons h r ih=>intro row;rw [List.foldl_cons,ih,lf,List.length_cons];omega
 rw [this]
 simp
 omega
theorem pU {p:Int} (hp:1<p):∀ (hs:List Int),∀ v∈gm p hs,0≤v∧v<p:=by
 unfold gm
 have:∀ (hs row:List Int),(∀ v∈row,0≤v∧v<p)→∀ v∈hs.foldl (fun row h=>iD p (bw p h) row) row,0≤v∧v<p:=fun hs=>by
  induction hs with
  | nil=>intro row h;exact h
  | cons h r ih=>intro row _;exact ih _ (veilS_b (by omega) row)
 exact fun hs=>this hs [1] (fun v hv=>by rw [List.mem_singleton.mp hv];omega)
def dD (p:Int) (f:Nat) (hs:List Int):List Int:=gm p hs++List.replicate (f+1 - (hs.length+1)) 0
inductive mM (C cH cN:Addr) (vs:List V) (H:Hp) (Q:VK) (E:XK):Prop
 | mk (t s:Addr) (p n f:Int) (hs:List Int) (h0_:vs=[.ref t,.ref s]) (h1_:TabAt C H t p n f) (h2_:p∈primes9) (h3_:(0≤n∧n<p)) (h4_:(0≤f∧f≤2)) (h5_:H s=some (.lst (hs.map V.int))) (h6_:(lP n hs=true→(hs.length:Int)≤f→mG H Q ((dD p f.toNat hs).map V.int))) (h7_:(lP n hs=false→∀ H',Same H H'→E (.ref cH) none H')) (h8_:(lP n hs=true→f<(hs.length:Int)→∀ H',Same H H'→E (.ref cN) none H')):mM C cH cN vs H Q E
end Veil
namespace Veil
open PySem L2
end Veil
namespace L2
open PySem PySem.Spec PyProof.Rows
def MOk (P:Program) (w:World) (K:PySem.W.Frag) (mg:Str→Option Value) (base:Heap) (CX:CXT) (k:Nat) (C:Addr) (m:Str) (ps:List Str) (sp:Sp):Prop:=∃ f fd,Cls K C∧Meth K C m f∧iU P w K mg base CX k f fd ps sp∧Binds K fd ps []
section
variable {X:Cx}{k j:Nat}{C:Addr}{m:Str}{ps:List Str}{sp:Sp}{o e:Expr}{es:List Expr}{ta:TE}{t:TA}{apos pos:Pos}
theorem fM {pl:Sem Bool} (O:MOk X.prog X.w X.K X.mg X.base CX0 k C m ps sp) (hr:Room j X.A) (he:PE X o ta) (ha:PA X (e::es) t) (hle:k≤j:=by decide)
  (hst:starEach (e::es) X.env=(false,eval e X.env)::starEach es X.env:=by rfl) (hpl:(backTo pos (starEach es X.env)).any (·.1)=false:=by rfl)
  (ht:eval (.Call (.Attribute o m apos) (e::es) [] pos) X.env=(do let ov ← eval o X.env;standAt apos.atName;let (f,first) ← holding [ov] (getMethod ov m pl);callWith pos f first (backTo pos (starEach (e::es) X.env)) (backToKw pos (keywordEach [] X.env))):=by rfl) :
  PE X (.Call (.Attribute o m apos) (e::es) [] pos) (tMeth C m sp [] E0 ta t):=by
 obtain ⟨f,fd,c,hm,F,b⟩:=O
 exact pe_meth he c hm F (hr.mono hle) b .nil pass0 ha hst hpl ht
theorem dv {pl:Sem Bool} (O:MOk X.prog X.w X.K X.mg X.base CX0 k C m ps sp) (hr:Room j X.A) (he:PE X o ta) (hle:k≤j:=by decide)
  (ht:eval (.Call (.Attribute o m apos) [] [] pos) X.env=(do let ov ← eval o X.env;standAt apos.atName;let (f,first) ← holding [ov] (getMethod ov m pl);callWith pos f first (backTo pos (starEach [] X.env)) (backToKw pos (keywordEach [] X.env))):=by rfl) :
  PE X (.Call (.Attribute o m apos) [] [] pos) (tMeth C m sp [] E0 ta tNil):=by
 obtain ⟨f,fd,c,hm,F,b⟩:=O
 exact pe_meth0 he c hm F (hr.mono hle) b .nil pass0 ht
end
end L2
namespace Veil
open PySem L2
abbrev LL:=List (List Int)
abbrev mH:=Int×Int×Int×Int
def letV (l:mH):List V:=[.int l.1,.int l.2.1,.int l.2.2.1,.int l.2.2.2]
def LetsAt (H:Hp):List V→List mH→Prop:=Paired fun v l=>∃ a,v=.ref a∧H a=some (.tup (letV l))
theorem LetsAt.same {H H':Hp} (s:Same H H') {vs:List V}{ls:List mH} (h:LetsAt H vs ls):LetsAt H' vs ls:=Paired.mapP h fun v q ⟨a,e,z⟩=>⟨a,e,s _ _ z⟩
def gk (ex:List Addr) (H H':Hp):Prop:=∀ x u,H x=some u→x∉ex→H' x=some u
def bh (f:Nat) (ch:List Int) (used k:Nat):LL:=(List.range k).map fun i:Nat=>(ch.drop (used+i*f)).take f
def cR (f:Nat) (n:Int) (ch:List Int):List Stp→Nat→List LL
 | [],_=>[]
 | z::r,used=>bh f ch used (z.dealers n).length::cR f n ch r (used+(z.dealers n).length*f)
def LLNew (H0 H:Hp):List Addr→List LL→Prop:=Paired fun a rows=>H0 a=none∧∃ bs:List Addr,H a=some (.lst (bs.map V.ref))∧InsAt H bs rows∧∀ b∈bs,H0 b=none
inductive dG (C:Addr) (vs:List V) (H:Hp) (Q:VK) (E_:XK):Prop
 | mk (t a c:Addr) (p n f:Int) (ws:List V) (ss:List Stp) (ch:List Int) (h0_:vs=[.ref t,.ref a,.ref c]) (h1_:TabAt C H t p n f) (h2_:(0≤n∧n≤10)) (h3_:(0≤f∧f≤2)) (h4_:H a=some (.lst ws)) (h5_:StpsAt H ws ss) (h6_:ss.length≤100) (h7_:H c=some (.lst (ch.map V.int))) (h8_:∀ d as H',Same H H'→H d=none→H' d=some (.lst (as.map V.ref))→LLNew H H' as (cR f.toNat n ch ss 0)→Q (.ref d) H'):dG C vs H Q E_
inductive i4 (C:Addr) (vs:List V) (H:Hp) (Q:VK) (E_:XK):Prop
 | mk (t a b:Addr) (p n f:Int) (xs ys:List Int) (h0_:vs=[.ref t,.ref a,.ref b]) (h1_:TabAt C H t p n f) (h2_:(0<p∧p≤31)) (h3_:H a=some (.lst (xs.map V.int))) (h4_:H b=some (.lst (ys.map V.int))) (h5_:xs.length≤100) (h6_:(∀ v∈xs,0≤v∧v<p)) (h7_:(∀ v∈ys,0≤v∧v<p)) (h8_:ci H Q (.int ((List.zipWith (·*·) xs ys).sum%p))):i4 C vs H Q E_
def lK (pl s:Int) (row:List Int):List mH:=(List.range row.length).filterMap fun i:Nat=>if 1+(i:Int)=s then none else some (pl,s,1+(i:Int),row.getD i 0)
def bj (pl:Int) (ss:List Int) (rows:LL):List mH:=((ss.zip rows).map fun q=>lK pl q.1 q.2).flatten
inductive fX (vs:List V) (H:Hp) (Q:VK) (E_:XK):Prop
 | mk (a b:Addr) (pl:Int) (ss:List Int) (bs:List Addr) (rows:LL) (h0_:vs=[.int pl,.ref a,.ref b]) (h1_:H a=some (.lst (ss.map V.int))) (h2_:ss.length≤10) (h3_:H b=some (.lst (bs.map V.ref))) (h4_:InsAt H bs rows) (h5_:(∀ r∈rows,r.length≤10)) (h6_:∀ d lvs H',Same H H'→H d=none→H' d=some (.lst lvs)→LetsAt H' lvs (bj pl ss rows)→Q (.ref d) H'):fX vs H Q E_
inductive dF (C cC:Addr) (vs:List V) (H:Hp) (Q:VK) (E:XK):Prop
 | mk (t a c:Addr) (p n f:Int) (ws:List V) (ss:List Stp) (ch:List Int) (h0_:vs=[.ref t,.ref a,.ref c]) (h1_:TabAt C H t p n f) (h2_:(0≤n∧n≤10)) (h3_:(0≤f∧f≤2)) (h4_:H a=some (.lst ws)) (h5_:StpsAt H ws ss) (h6_:H c=some (.lst (ch.map V.int))) (h7_:ch.length≤1000) (h8_:aU p n ss=true) (h9_:((ch.length:Int)=bg f n ss→ch.all (jI p)=true→ci H Q .non)) (h10_:(¬ ((ch.length:Int)=bg f n ss∧ch.all (jI p)=true)→∀ H',Same H H'→E (.ref cC) none H')):dF C cC vs H Q E
def fA (p f n:Int) (ss:List Stp) (ch:List Int):Bool:=decide ((ch.length:Int)=bg f n ss) && ch.all (jI p)
inductive fW (C cS cI cC:Addr) (vs:List V) (H:Hp) (Q:VK) (E:XK):Prop
 | mk (t a b c:Addr) (p n f:Int) (ws:List V) (ss:List Stp) (is:List Addr) (inp:LL) (ch:List Int) (h0_:vs=[.ref t,.ref a,.ref b,.ref c]) (h1_:TabAt C H t p n f) (h2_:(0≤n∧n≤10)) (h3_:(0≤f∧f≤2)) (h4_:H a=some (.lst ws)) (h5_:StpsAt H ws ss) (h6_:H b=some (.lst (is.map V.ref))) (h7_:InsAt H is inp) (h8_:(∀ r∈inp,r.length≤1000)) (h9_:H c=some (.lst (ch.map V.int))) (h10_:ch.length≤1000) (h11_:(aU p n ss=true→eW p n ss inp=true→fA p f n ss ch=true→ci H Q .non)) (h12_:(aU p n ss=false→∀ H',Same H H'→E (.ref cS) none H')) (h13_:(aU p n ss=true→eW p n ss inp=false→∀ H',Same H H'→E (.ref cI) none H')) (h14_:(aU p n ss=true→eW p n ss inp=true→fA p f n ss ch=false→∀ H',Same H H'→E (.ref cC) none H')):fW C cS cI cC vs H Q E
end Veil
namespace Veil
open PySem L2
theorem mr (f:Nat) (ch:List Int) (used k:Nat):bh f ch used (k+1)=bh f ch used k++[(ch.drop (used+k*f)).take f]:=by
 unfold bh
 rw [List.range_succ,List.map_append]
 rfl
theorem cut_mid {xs:List V}{a k:Nat}:ju xs (some (a:Int)) (some ((a:Int)+(k:Int)))=(xs.drop a).take k:=by
 unfold ju HT.sIx
 by_cases h:a≤xs.length
 ·have e1:¬ ((a:Int)<0):=by omega
  have e2:¬ ((a:Int)+(k:Int)<0):=by omega
  simp only [e1,e2,if_false]
  have e3:min (a:Int).toNat xs.length=a:=by omega
  simp only [e3]
  by_cases h2:a+k≤xs.length
  ·have e4:min ((a:Int)+(k:Int)).toNat xs.length=a+k:=by omega
   rw [e4]
   congr 1
   omega
  ·have e4:min ((a:Int)+(k:Int)).toNat xs.length=xs.length:=by omega
   rw [e4,List.take_of_length_le (by rw [List.length_drop];exact Nat.le_refl _),List.take_of_length_le (by rw [List.length_drop];omega)]
 ·have e1:¬ ((a:Int)<0):=by omega
  simp only [e1,if_false]
  have e3:min (a:Int).toNat xs.length=xs.length:=by omega
  simp only [e3]
  rw [List.drop_length,List.drop_of_length_le (by omega)]
  simp
def aS (f:Nat) (n:Int):List Stp→Nat
 | []=>0
 | z::r=>(z.dealers n).length*f+aS f n r
theorem dm {f:Nat}{n:Int}:∀ {ss:List Stp}{i:Nat}{z:Stp},ss[i]?=some z→aS f n (ss.take (i+1))=aS f n (ss.take i)+(z.dealers n).length*f
 | [],i,z,h=>by simp at h
 | y::r,0,z,h=>by
  simp at h
  subst h
  simp [aS]
 | y::r,i+1,z,h=>by
  rw [List.take_succ_cons,List.take_succ_cons,aS,aS,dm (ss:=r) (i:=i) (by simpa using h)]
  omega
theorem fz (f:Nat) (n:Int) (ch:List Int):∀ (ss:List Stp) (u:Nat),cR f n ch ss u=(List.range ss.length).map fun i=>bh f ch (u+aS f n (ss.take i)) ((ss.getD i (.fix 0)).dealers n).length
 | [],u=>rfl
 | z::r,u=>by
  rw [cR,fz f n ch r,List.length_cons,List.range_succ_eq_map,List.map_cons,List.map_map]
  congr 1
  apply List.map_congr_left
  intro i _
  simp only [Function.comp,List.take_succ_cons,aS,List.getD_cons_succ]
  congr 1
  omega
theorem fU {f:Nat}{n:Int}{ch:List Int}{ss:List Stp}{i:Nat}{z:Stp} (h:ss[i]?=some z):(cR f n ch ss 0).take (i+1)=(cR f n ch ss 0).take i++[bh f ch (aS f n (ss.take i)) (z.dealers n).length]:=by
 have il:i<ss.length:=(List.getElem?_eq_some_iff.mp h).1
 rw [List.take_add_one]
 congr 1
 rw [fz,List.getElem?_map,List.getElem?_range il,Option.map_some,Nat.zero_add,List.getD_eq_getElem?_getD,h]
 rfl
theorem gP (f:Nat) (n:Int) (ch:List Int) (ss:List Stp) (u:Nat):(cR f n ch ss u).length=ss.length:=by
 rw [fz,List.length_map,List.length_range]
theorem LLNew.same {H0 H H':Hp} (s:Same H H') {as:List Addr}{rs:List LL} (h:LLNew H0 H as rs):LLNew H0 H' as rs:=Paired.mapP h fun a r ⟨z,bs,e,i,f⟩=>⟨z,bs,s _ _ e,i.same s,f⟩
theorem cf {n:Int} (h0:0≤n) (h1:n≤10) (z:Stp):(z.dealers n).length≤10:=by
 have:=gh h0 z
 have:=qG h0 h1 z
 omega
end Veil
namespace Veil
open PySem L2
theorem InsAt.offN {H0 H:Hp}{l:Addr}{o u:HO} (hl:H0 l=some u) {as:List Addr}{rs:List (List Int)} (h:InsAt H as rs) (fr:∀ b∈as,H0 b=none):InsAt (L2.upd H l o) as rs:=InsAt.off h fun z=>by have:=fr l z;rw [hl] at this;cases this
theorem LLNew.off {H0 H:Hp}{l:Addr}{o u:HO} (hl:H0 l=some u) {as:List Addr}{rs:List LL} (h:LLNew H0 H as rs):LLNew H0 (L2.upd H l o) as rs:=Paired.mapP h fun a r ⟨z,bs,e,i,f⟩=>⟨z,bs,by rw [aB fun w=>by rw [w,hl] at z;cases z];exact e,InsAt.offN hl i f,f⟩
theorem LLNew.older {H0 H1 H:Hp} (s:Same H0 H1) {as:List Addr}{rs:List LL} (h:LLNew H1 H as rs):LLNew H0 H as rs:=Paired.mapP h fun a r ⟨z,bs,e,i,f⟩=>⟨s.free z,bs,e,i,fun b hb=>s.free (f b hb)⟩
end Veil
namespace Veil
open PySem L2
theorem LetsAt.upd {H:Hp}{l:Addr}{c c':List V} (hl:H l=some (.lst c)) {vs:List V}{ls:List mH} (h:LetsAt H vs ls):LetsAt (L2.upd H l (.lst c')) vs ls:=Paired.mapP h fun v q ⟨a,e,z⟩=>⟨a,e,by
 rw [aB fun y=>by rw [y,hl] at z;cases z]
 exact z⟩
theorem iV {α β:Type} (a:List α) (b:List β) (k:Nat):(a.take k).zip (b.take k)=(a.zip b).take k:=by
 unfold List.zip
 rw [List.take_zipWith]
end Veil
namespace Veil
open PySem L2
structure CrsC (K:PySem.W.Frag) (CC:Addr):Prop where
 cl:Cls K CC
 nT:NoAttr K CC "table"
 nS:NoAttr K CC "steps"
 nI:NoAttr K CC "inputs"
 nP:NoAttr K CC "parts"
 nH:NoAttr K CC "shares"
 nL:NoAttr K CC "letters"
def kY (t a b wa sh le:Addr):List (Str×V):=[("table",.ref t),("steps",.ref a),("inputs",.ref b),("parts",.ref wa),("shares",.ref sh),("letters",.ref le)]
section
variable (t a b wa sh le:Addr)
theorem pM:(kY t a b wa sh le).lookup ("table":Str)=some (V.ref t):=rfl
theorem cf_a:(kY t a b wa sh le).lookup ("steps":Str)=some (V.ref a):=by
 unfold kY
 rw [List.lookup_cons,show (("steps":Str) == "table")=false by decide +kernel]
 rfl
theorem cf_b:(kY t a b wa sh le).lookup ("inputs":Str)=some (V.ref b):=by
 unfold kY
 rw [List.lookup_cons,show (("inputs":Str) == "table")=false by decide +kernel]
 simp only
 rw [List.lookup_cons,show (("inputs":Str) == "steps")=false by decide +kernel]
 rfl
theorem cf_w:(kY t a b wa sh le).lookup ("parts":Str)=some (V.ref wa):=by
 unfold kY
 rw [List.lookup_cons,show (("parts":Str) == "table")=false by decide +kernel]
 simp only
 rw [List.lookup_cons,show (("parts":Str) == "steps")=false by decide +kernel]
 simp only
 rw [List.lookup_cons,show (("parts":Str) == "inputs")=false by decide +kernel]
 rfl
theorem cf_h:(kY t a b wa sh le).lookup ("shares":Str)=some (V.ref sh):=by
 unfold kY
 rw [List.lookup_cons,show (("shares":Str) == "table")=false by decide +kernel]
 simp only
 rw [List.lookup_cons,show (("shares":Str) == "steps")=false by decide +kernel]
 simp only
 rw [List.lookup_cons,show (("shares":Str) == "inputs")=false by decide +kernel]
 simp only
 rw [List.lookup_cons,show (("shares":Str) == "parts")=false by decide +kernel]
 rfl
theorem cf_l:(kY t a b wa sh le).lookup ("letters":Str)=some (V.ref le):=by
 unfold kY
 rw [List.lookup_cons,show (("letters":Str) == "table")=false by decide +kernel]
 simp only
 rw [List.lookup_cons,show (("letters":Str) == "steps")=false by decide +kernel]
 simp only
 rw [List.lookup_cons,show (("letters":Str) == "inputs")=false by decide +kernel]
 simp only
 rw [List.lookup_cons,show (("letters":Str) == "parts")=false by decide +kernel]
 simp only
 rw [List.lookup_cons,show (("letters":Str) == "shares")=false by decide +kernel]
 rfl
theorem iq {m:Str} (h1:(m == "table")=false) (h2:(m == "steps")=false) (h3:(m == "inputs")=false) (h4:(m == "parts")=false) (h5:(m == "shares")=false) (h6:(m == "letters")=false):(kY t a b wa sh le).lookup m=none:=by
 unfold kY
 rw [List.lookup_cons,h1]
 simp only
 rw [List.lookup_cons,h2]
 simp only
 rw [List.lookup_cons,h3]
 simp only
 rw [List.lookup_cons,h4]
 simp only
 rw [List.lookup_cons,h5]
 simp only
 rw [List.lookup_cons,h6]
 rfl
end
structure Par (p n f:Int) (ss:List Stp) (inp:LL):Prop where
 hp:p∈primes9
 hn:3≤n∧n≤7
 np:n<p
 hf:f=1∨f=2
 fn:2*f<n
 len:1≤ss.length∧ss.length≤24
 R:dw p n ss
 io:InsOk p n ss inp
structure ShsOk (p n:Int) (shares:LL):Prop where
 l:∀ r∈shares,r.length=n.toNat
 b:∀ r∈shares,∀ v∈r,0≤v∧v<p
structure CrsAt (C CC:Addr) (H:Hp) (c:Addr) (p n f:Int) (ss:List Stp) (inp shares:LL) (t a b wa sh le:Addr) (ws:List V) (is shs:List Addr):Prop where
 obj:∃ dx,H c=some (.ins CC dx (kY t a b wa sh le))
 tab:TabAt C H t p n f
 ha:H a=some (.lst ws)
 st:StpsAt H ws ss
 hb:H b=some (.lst (is.map V.ref))
 hin:InsAt H is inp
 hw:H wa=some (.lst ((cj p n.toNat).map V.int))
 hsh:H sh=some (.lst (shs.map V.ref))
 hs:InsAt H shs shares
theorem CrsAt.same {C CC:Addr}{H H':Hp} (s:Same H H') {c:Addr}{p n f:Int}{ss:List Stp}{inp shares:LL}{t a b wa sh le:Addr}{ws:List V}{is shs:List Addr} (h:CrsAt C CC H c p n f ss inp shares t a b wa sh le ws is shs):CrsAt C CC H' c p n f ss inp shares t a b wa sh le ws is shs :=
 ⟨let ⟨dx,e⟩:=h.obj;⟨dx,s _ _ e⟩,h.tab.same s,s _ _ h.ha,h.st.same s,s _ _ h.hb,h.hin.same s,s _ _ h.hw,s _ _ h.hsh,h.hs.same s⟩
def CrsR (C CC:Addr) (H:Hp) (c:Addr) (p n f:Int) (ss:List Stp) (inp shares:LL):Prop:=∃ t a b wa sh le ws is shs,CrsAt C CC H c p n f ss inp shares t a b wa sh le ws is shs
inductive dX (C CC:Addr) (vs:List V) (H:Hp) (Q:VK) (E_:XK):Prop
 | mk (c:Addr) (p n f:Int) (ss:List Stp) (inp shares:LL) (z:Stp) (h0_:vs=[.ref c]) (h1_:CrsR C CC H c p n f ss inp shares) (h2_:ss.length≤100) (h3_:ss[shares.length]?=some z) (h4_:∀ d H',Same H H'→H' d=some (.tup z.vs)→Q (.ref d) H'):dX C CC vs H Q E_
def gG (shares:LL) (h:Int):List Int:=shares.map fun r=>r.getD (h - 1).toNat 0
inductive qd (C CC:Addr) (vs:List V) (H:Hp) (Q:VK) (E_:XK):Prop
 | mk (c:Addr) (p n f h:Int) (ss:List Stp) (inp shares:LL) (h0_:vs=[.ref c,.int h]) (h1_:CrsR C CC H c p n f ss inp shares) (h2_:shares.length≤100) (h3_:ShsOk p n shares) (h4_:(1≤h∧h≤n)) (h5_:mG H Q ((gG shares h).map V.int)):qd C CC vs H Q E_
def bV (p n:Int) (ss:List Stp) (inp shares:LL) (z:Stp):List Int:=match z with
 | .ein h=>[inV1 ss inp shares.length h]
 | .anew _=>List.replicate n.toNat 0
 | z=>(z.dealers n).map fun h=>recV p (gG shares h) z
inductive lE (C CC:Addr) (vs:List V) (H:Hp) (Q:VK) (E_:XK):Prop
 | mk (c:Addr) (p n f:Int) (ss:List Stp) (inp shares:LL) (z:Stp) (h0_:vs=[.ref c]) (h1_:CrsR C CC H c p n f ss inp shares) (h2_:Par p n f ss inp) (h3_:ShsOk p n shares) (h4_:ss[shares.length]?=some z) (h5_:mG H Q ((bV p n ss inp shares z).map V.int)):lE C CC vs H Q E_
def nh (p n:Int) (shares rows:LL) (z:Stp) (h:Int):Int:=match z with
 | .ein _=>(gG rows h).headD 0
 | .mul _ _=>(List.zipWith (·*·) (cj p n.toNat) (gG rows h)).sum%p
 | z=>(recV p (gG shares h) z+(gG rows h).sum)%p
inductive kg (C CC:Addr) (vs:List V) (H:Hp) (Q:VK) (E_:XK):Prop
 | mk (c ra:Addr) (p n f h:Int) (ss:List Stp) (inp shares rows:LL) (z:Stp) (rs:List Addr) (h0_:vs=[.ref c,.int h,.ref ra]) (h1_:CrsR C CC H c p n f ss inp shares) (h2_:Par p n f ss inp) (h3_:ShsOk p n shares) (h4_:ss[shares.length]?=some z) (h5_:H ra=some (.lst (rs.map V.ref))) (h6_:InsAt H rs rows) (h7_:ShsOk p n rows) (h8_:rows.length=(z.dealers n).length) (h9_:(1≤h∧h≤n)) (h10_:ci H Q (.int (nh p n shares rows z h))):kg C CC vs H Q E_
def mi (p n:Int) (pl:Int) (made:List Int) (rows:LL) (z:Stp):List mH:=match z with
 | .opn _=>bj pl (ce n) (made.map fun v=>List.replicate n.toNat v)
 | z=>bj pl (z.dealers n) rows
inductive nN (C CC:Addr) (vs:List V) (H:Hp) (Q:VK) (E_:XK):Prop
 | mk (c d ma ra le:Addr) (p n f:Int) (ss:List Stp) (inp shares rows:LL) (z:Stp) (rs:List Addr) (made:List Int) (lvs:List V) (lets:List mH) (t a b wa sh:Addr) (ws:List V) (is shs:List Addr) (h0_:vs=[.ref c,.ref d,.ref ma,.ref ra]) (h1_:CrsAt C CC H c p n f ss inp shares t a b wa sh le ws is shs) (h2_:Par p n f ss inp) (h3_:shares.length≤24) (h4_:H d=some (.tup z.vs)) (h5_:H ma=some (.lst (made.map V.int))) (h6_:made.length=n.toNat) (h7_:H ra=some (.lst (rs.map V.ref))) (h8_:InsAt H rs rows) (h9_:(∀ r∈rows,r.length=n.toNat)) (h10_:H le=some (.lst lvs)) (h11_:LetsAt H lvs lets) (h12_:lets.length≤10000) (h13_:∀ H' lvs',gk [le] H H'→H' le=some (.lst lvs')→LetsAt H' lvs' (lets++mi p n (shares.length:Int) made rows z)→Q .non H'):nN C CC vs H Q E_
end Veil
namespace Veil
open PySem L2
structure Apt (a b wa sh le:Addr) (is shs:List Addr):Prop where
 sl:sh≠le
 a1:a≠sh∧a≠le
 b1:b≠sh∧b≠le
 w1:wa≠sh∧wa≠le
 i1:∀ i∈is,i≠sh∧i≠le
 s1:∀ i∈shs,i≠sh∧i≠le
theorem CrsAt.next {C CC:Addr}{H H':Hp}{c:Addr}{p n f:Int}{ss:List Stp}{inp shares:LL}{t a b wa sh le m:Addr}{ws:List V}{is shs:List Addr}{made:List Int}{lvs:List V} (R:CrsAt C CC H c p n f ss inp shares t a b wa sh le ws is shs) (D:Apt a b wa sh le is shs) (hle:H le=some (.lst lvs)) (s:gk [sh,le] H H') (h1:H' sh=some (.lst ((shs++[m]).map V.ref))) (h2:H' m=some (.lst (made.map V.int))):CrsAt C CC H' c p n f ss inp (shares++[made]) t a b wa sh le ws is (shs++[m]):=by
 have out:∀ x,x≠sh→x≠le→x∉[sh,le]:=fun x h1 h2 h=>by
  rcases List.mem_cons.mp h with e | e
  ·exact h1 e
  ·exact h2 (List.mem_singleton.mp e)
 have tup:∀ x xs,H x=some (.tup xs)→x∉[sh,le]:=fun x xs h=>out x (fun e=>by rw [e,R.hsh] at h;cases h) (fun e=>by rw [e,hle] at h;cases h)
 have ins:∀ x C dx fs,H x=some (.ins C dx fs)→x∉[sh,le]:=fun x C dx fs h=>out x (fun e=>by rw [e,R.hsh] at h;cases h) (fun e=>by rw [e,hle] at h;cases h)
 have lst:∀ {as:List Addr}{rs:LL},InsAt H as rs→(∀ i∈as,i≠sh∧i≠le)→InsAt H' as rs:=fun {as rs} h ne=>by
  induction h with
  | nil=>exact .nil
  | cons r t ih=>exact .cons (s _ _ r (out _ (ne _ List.mem_cons_self).1 (ne _ List.mem_cons_self).2)) (ih fun i hi=>ne i (List.mem_cons_of_mem _ hi))
 obtain ⟨dx,hc⟩:=R.obj
 obtain ⟨dt,ht⟩:=R.tab
 exact ⟨⟨dx,s _ _ hc (ins _ _ _ _ hc)⟩,⟨dt,s _ _ ht (ins _ _ _ _ ht)⟩,s _ _ R.ha (out _ D.a1.1 D.a1.2),Paired.mapP R.st fun v q ⟨x,e,z⟩=>⟨x,e,s _ _ z (tup _ _ z)⟩,s _ _ R.hb (out _ D.b1.1 D.b1.2),lst R.hin D.i1,s _ _ R.hw (out _ D.w1.1 D.w1.2),h1,InsAt.snoc (lst R.hs D.s1) h2⟩
def dn (p n:Int) (ss:List Stp) (inp shares crows:LL) (z:Stp):LL:=List.zipWith (fun x ch=>fw p n.toNat x ch) (bV p n ss inp shares z) crows
def gf (p n:Int) (shares rows:LL) (z:Stp):List Int:=(ce n).map fun h=>nh p n shares rows z h
theorem iS {p n:Int} (hn:0≤n) (ss:List Stp) (inp shares:LL) (z:Stp):(bV p n ss inp shares z).length=(z.dealers n).length:=by
 cases z<;>simp only [bV,Stp.dealers,List.length_cons,List.length_nil,List.length_replicate,List.length_map,cE]
theorem dealtL_b {p:Int} (hp:0<p) (n:Nat) (x:Int) (cs:List Int):∀ v∈fw p n x cs,0≤v∧v<p:=fun v hv=>by
 obtain ⟨i,_,rfl⟩:=List.mem_map.mp hv
 exact jX hp _ _
theorem kC {p n:Int} (hp:0<p) (ss:List Stp) (inp shares crows:LL) (z:Stp):ShsOk p n (dn p n ss inp shares crows z):=by
 have all:∀ (xs:List Int) (cs:LL),ShsOk p n (List.zipWith (fun x ch=>fw p n.toNat x ch) xs cs):=fun xs=>by
  induction xs with
  | nil=>intro cs;exact ⟨fun r h=>by simp at h,fun r h=>by simp at h⟩
  | cons x r ih =>
   intro cs
   cases cs with
   | nil=>exact ⟨fun r h=>by simp at h,fun r h=>by simp at h⟩
   | cons y q =>
    have i:=ih q
    refine ⟨fun r h=>?_,fun r h=>?_⟩
    ·rcases List.mem_cons.mp h with e | e
     ·rw [e,jU]
     ·exact i.l r e
    ·rcases List.mem_cons.mp h with e | e
     ·rw [e];exact dealtL_b hp _ _ _
     ·exact i.b r e
 exact all _ _
theorem rows_len {p n:Int} (hn:0≤n) {ss:List Stp}{inp shares crows:LL}{z:Stp} (h:crows.length=(z.dealers n).length):(dn p n ss inp shares crows z).length=(z.dealers n).length:=by
 unfold dn
 rw [List.length_zipWith,iS hn,h,Nat.min_self]
theorem oi (p n:Int) (shares rows:LL) (z:Stp):(gf p n shares rows z).length=n.toNat:=by unfold gf;rw [List.length_map,cE]
theorem own_b2 {p n:Int} (hp:0<p) {shares:LL} (S:ShsOk p n shares) (h:Int):∀ v∈gG shares h,0≤v∧v<p:=fun v hv=>by
 obtain ⟨r,hr,rfl⟩:=List.mem_map.mp hv
 rw [List.getD_eq_getElem?_getD]
 cases e:r[(h - 1).toNat]? with
 | none=>exact ⟨Int.le_refl _,hp⟩
 | some v=>exact S.b r hr v (List.mem_of_getElem? e)
theorem newSh_b {p n:Int} (hp:0<p) {shares rows:LL} (S:ShsOk p n rows) (z:Stp) (h:Int):0≤nh p n shares rows z h∧nh p n shares rows z h<p:=by
 have md:∀ x:Int,0≤x%p∧x%p<p:=fun x=>⟨Int.emod_nonneg _ (by omega),Int.emod_lt_of_pos _ hp⟩
 cases z with
 | ein k =>
  show 0≤(gG rows h).headD 0∧(gG rows h).headD 0<p
  cases e:gG rows h with
  | nil=>exact ⟨Int.le_refl _,hp⟩
  | cons v r=>exact own_b2 hp S h v (by rw [e];exact List.mem_cons_self)
 | _=>exact md _
theorem made_b {p n:Int} (hp:0<p) {shares rows:LL} (S:ShsOk p n rows) (z:Stp):∀ v∈gf p n shares rows z,0≤v∧v<p:=fun v hv=>by
 obtain ⟨h,_,rfl⟩:=List.mem_map.mp hv
 exact newSh_b hp S z h
theorem ShsOk.snoc {p n:Int}{shares:LL} (S:ShsOk p n shares) {r:List Int} (h1:r.length=n.toNat) (h2:∀ v∈r,0≤v∧v<p):ShsOk p n (shares++[r]):=by
 refine ⟨fun x hx=>?_,fun x hx=>?_⟩<;>rcases List.mem_append.mp hx with e | e
 ·exact S.l x e
 ·rw [List.mem_singleton.mp e];exact h1
 ·exact S.b x e
 ·rw [List.mem_singleton.mp e];exact h2
inductive spGo (C CC:Addr) (vs:List V) (H:Hp) (Q:VK) (E_:XK):Prop
 | mk (c ca le:Addr) (p n f:Int) (ss:List Stp) (inp shares crows:LL) (z:Stp) (cs:List Addr) (lvs:List V) (lets:List mH) (t a b wa sh:Addr) (ws:List V) (is shs:List Addr) (h0_:vs=[.ref c,.ref ca]) (h1_:CrsAt C CC H c p n f ss inp shares t a b wa sh le ws is shs) (h2_:Apt a b wa sh le is shs) (h3_:Par p n f ss inp) (h4_:ShsOk p n shares) (h5_:ss[shares.length]?=some z) (h6_:H ca=some (.lst (cs.map V.ref))) (h7_:InsAt H cs crows) (h8_:crows.length=(z.dealers n).length) (h9_:(∀ r∈crows,r.length≤100)) (h10_:H le=some (.lst lvs)) (h11_:LetsAt H lvs lets) (h12_:lets.length≤10000) (h13_:∀ H' m lvs',gk [sh,le] H H'→H m=none→CrsAt C CC H' c p n f ss inp (shares++[gf p n shares (dn p n ss inp shares crows z) z]) t a b wa sh le ws is (shs++[m])→Apt a b wa sh le is (shs++[m])→H' le=some (.lst lvs')→LetsAt H' lvs' (lets++mi p n (shares.length:Int) (gf p n shares (dn p n ss inp shares crows z) z) (dn p n ss inp shares crows z) z)→Q .non H'):spGo C CC vs H Q E_
end Veil
namespace Veil
open PySem L2
inductive km (C CC:Addr) (vs:List V) (H:Hp) (Q:VK) (E_:XK):Prop
 | mk (c dx t a b:Addr) (p n f:Int) (h0_:vs=[.ref c,.ref t,.ref a,.ref b]) (h1_:H c=some (.ins CC dx [])) (h2_:TabAt C H t p n f) (h3_:p∈primes9) (h4_:(0≤n∧n≤7)) (h5_:n<p) (h6_:∀ H' wa sh le,(∀ x u,H x=some u→x≠c→H' x=some u)→H wa=none→H sh=none→H le=none→sh≠le→wa≠sh→wa≠le→H' wa=some (.lst ((cj p n.toNat).map V.int))→H' sh=some (.lst [])→H' le=some (.lst [])→H' c=some (.ins CC dx (kY t a b wa sh le))→Q .non H'):km C CC vs H Q E_
def goSt (p n:Int) (ss:List Stp) (inp:LL) (st:LL×List mH) (crows:LL):LL×List mH :=
 (st.1++[gf p n st.1 (dn p n ss inp st.1 crows (ss.getD st.1.length (.fix 0))) (ss.getD st.1.length (.fix 0))],st.2++mi p n (st.1.length:Int) (gf p n st.1 (dn p n ss inp st.1 crows (ss.getD st.1.length (.fix 0))) (ss.getD st.1.length (.fix 0))) (dn p n ss inp st.1 crows (ss.getD st.1.length (.fix 0))) (ss.getD st.1.length (.fix 0)))
theorem gi (f:Nat) (ch:List Int) (u k:Nat):(bh f ch u k).length=k:=by unfold bh;rw [List.length_map,List.length_range]
theorem mt {f:Nat}{ch:List Int}{u k:Nat}:∀ r∈bh f ch u k,r.length≤f∧∀ v∈r,v∈ch:=fun r hr=>by
 unfold bh at hr
 obtain ⟨i,_,rfl⟩:=List.mem_map.mp hr
 refine ⟨by rw [List.length_take];omega,fun v hv=>List.mem_of_mem_drop (List.mem_of_mem_take hv)⟩
end Veil
namespace Veil
open PySem L2
theorem fJ {f:Str}{v:V}:∀ {fs:List (Str×V)},(∀ q∈fs,¬ q.1=f)→dq f v fs=fs++[(f,v)]
 | [],_=>rfl
 | (g,x)::r,h=>by
  show (if g=f then (g,v)::r else (g,x)::dq f v r)=_
  rw [if_neg (h (g,x) List.mem_cons_self),fJ fun q hq=>h q (List.mem_cons_of_mem _ hq)]
  rfl
theorem nsN {f:Str} (ks:List Str) (h:ks.all (fun k=>decide (¬ k=f))=true) {fs:List (Str×V)} (e:fs.map (·.1)=ks):∀ q∈fs,¬ q.1=f:=fun q hq=>by
 have:=List.all_eq_true.mp h q.1 (by rw [← e];exact List.mem_map_of_mem hq)
 exact of_decide_eq_true this
theorem crs_put (t a b wa sh le:Addr):dq "letters" (.ref le) (dq "shares" (.ref sh) (dq "parts" (.ref wa) (dq "inputs" (.ref b) (dq "steps" (.ref a) (dq "table" (.ref t) [])))))=kY t a b wa sh le:=by
 rw [show dq ("table":Str) (V.ref t) []=[(("table":Str),V.ref t)] from rfl]
 rw [fJ (f:="steps") (nsN ["table"] (by decide +kernel) rfl)]
 rw [fJ (f:="inputs") (nsN ["table","steps"] (by decide +kernel) rfl)]
 rw [fJ (f:="parts") (nsN ["table","steps","inputs"] (by decide +kernel) rfl)]
 rw [fJ (f:="shares") (nsN ["table","steps","inputs","parts"] (by decide +kernel) rfl)]
 rw [fJ (f:="letters") (nsN ["table","steps","inputs","parts","shares"] (by decide +kernel) rfl)]
 rfl
theorem fq {f:Str}{v:V}{fs:List (Str×V)}{k:Nat} (h:fs.length≤k):(dq f v fs).length≤k+1:=Nat.le_trans (eM _ _ _) (by omega)
end Veil
namespace Veil
open PySem L2
theorem InsAt.sx {ex:List Addr}{H H':Hp} (s:gk ex H H'):∀ {as:List Addr}{rs:LL},InsAt H as rs→(∀ b∈as,b∉ex)→InsAt H' as rs
 | _,_,.nil,_=>.nil
 | _,_,.cons z t,h=>.cons (s _ _ z (h _ List.mem_cons_self)) (InsAt.sx s t fun b hb=>h b (List.mem_cons_of_mem _ hb))
theorem mh {p n:Int} (hn:3≤n∧n≤7) (pl:Int) (made:List Int) (rows:LL) (z:Stp) (hr:∀ r∈rows,r.length≤10):(mi p n pl made rows z).length≤100:=by
 have sent_le:∀ (pl s:Int) (r:List Int),(lK pl s r).length≤r.length:=fun pl s r=>by
  unfold lK
  refine Nat.le_trans (List.length_filterMap_le _ _) ?_
  rw [List.length_range]
  exact Nat.le_refl _
 have letl:∀ (pl:Int) (sd:List Int) (rw_:LL),(∀ r∈rw_,r.length≤10)→(bj pl sd rw_).length≤10*sd.length:=fun pl sd=>by
  induction sd with
  | nil=>intro rw_ _;simp [bj]
  | cons s r ih =>
   intro rw_ hb
   cases rw_ with
   | nil=>simp [bj]
   | cons x y =>
    have:=ih y fun r hr=>hb r (List.mem_cons_of_mem _ hr)
    have h2:=sent_le pl s x
    have h3:=hb x List.mem_cons_self
    unfold bj at this ⊢
    rw [List.zip_cons_cons,List.map_cons,List.flatten_cons,List.length_append,List.length_cons]
    show (lK pl s x).length+_≤_
    omega
 have dl:=cf (n:=n) (by omega) (by omega) z
 have other:(bj pl (z.dealers n) rows).length≤100:=by have:=letl pl (z.dealers n) rows hr;omega
 cases z with
 | opn a =>
  have:=letl pl (ce n) (made.map fun v=>List.replicate n.toNat v) (fun r h=>by
   obtain ⟨v,_,rfl⟩:=List.mem_map.mp h
   rw [List.length_replicate]
   omega)
  rw [cE] at this
  show (bj pl (ce n) (made.map fun v=>List.replicate n.toNat v)).length≤100
  omega
 | _=>exact other
end Veil
namespace Veil
open PySem L2
section
variable {p:Int}{n f:Nat} (hp:p∈primes9) (h3:3≤n) (h7:n≤7) (hn:(n:Int)<p)
include hp h3 h7 hn
end
end Veil
namespace Veil
open PySem L2
theorem gU (f:Nat) (n:Int):∀ (a b:List Stp),aS f n (a++b)=aS f n a+aS f n b
 | [],b=>by simp [aS]
 | z::a,b=>by
  rw [List.cons_append,aS,aS,gU f n a b]
  omega
theorem dS (f:Nat) {n:Int} (hn:0≤n):∀ ss:List Stp,(aS f n ss:Int)=bg (f:Int) n ss
 | []=>by simp [aS,bg]
 | z::r=>by
  rw [aS,bg,← dS f hn r,← gh hn z]
  push_cast
  rw [Int.mul_comm]
theorem cut_full {f:Nat}{n:Int} (hn:0≤n) {ss:List Stp}{ch:List Int} (hc:(ch.length:Int)=bg (f:Int) n ss) {i:Nat}{z:Stp} (hz:ss[i]?=some z):∀ r∈bh f ch (aS f n (ss.take i)) (z.dealers n).length,r.length=f:=fun r hr=>by
 unfold bh at hr
 obtain ⟨k,hk,rfl⟩:=List.mem_map.mp hr
 have hk:=List.mem_range.mp hk
 have h1:=dS f hn ss
 have h2:aS f n ss=aS f n (ss.take (i+1))+aS f n (ss.drop (i+1)):=by rw [← gU,List.take_append_drop]
 rw [dm hz] at h2
 have h3:(k+1)*f≤(z.dealers n).length*f:=Nat.mul_le_mul_right f (by omega)
 rw [Nat.add_mul,Nat.one_mul] at h3
 rw [List.length_take,List.length_drop]
 omega
theorem md {p x:Int}:x%p%p=x%p:=Int.emod_emod_of_dvd _ (Int.dvd_refl p)
end Veil
namespace Veil
open PySem L2
end Veil
namespace Veil
open PySem L2
end Veil
namespace L2
open PySem PySem.Spec PyProof.Rows
theorem sl_listK {X:Cx} (K:PySem.W.Frag) (hK:X.K=K:=by rfl):SlR X (rSlL K):=by
 subst hK
 exact cU
end L2
namespace Veil
open PySem L2
def lT (ss:List Stp) (inp:LL) (hs:List Int):LL:=hs.map fun h=>(bL inp h).take (aR ss h)
inductive eZ (vs:List V) (H:Hp) (Q:VK) (E_:XK):Prop
 | mk (a b s:Addr) (n:Int) (ws:List V) (ss:List Stp) (is:List Addr) (inp:LL) (hs:List Int) (h0_:vs=[.ref a,.ref b,.ref s]) (h1_:H a=some (.lst ws)) (h2_:StpsAt H ws ss) (h3_:H b=some (.lst (is.map V.ref))) (h4_:InsAt H is inp) (h5_:(inp.length:Int)=n) (h6_:H s=some (.lst (hs.map V.int))) (h7_:hs.length≤100) (h8_:(∀ h∈hs,1≤h∧h≤n)) (h9_:NewIns H Q (lT ss inp hs)):eZ vs H Q E_
end Veil
namespace Veil
open PySem L2
end Veil
namespace L2
open PySem PySem.Spec PyProof.Rows
end L2
namespace Veil
open PySem L2
end Veil
namespace Veil
open PySem L2
structure Giv (H8:Hp) (g0 R gv:Addr) (H:Hp) (g2:Addr) (ss:List Stp) (inp:LL) (ch:List Int):Prop where
 s:Same H8 H
 v:H gv=some (.lst [.ref g0,.ref R,.ref g2])
 st:∃ ws,H g0=some (.lst ws)∧StpsAt H ws ss
 i:∃ as:List Addr,H R=some (.lst (as.map V.ref))∧InsAt H as inp∧∀ x∈as,x≠g0∧x≠R∧x≠gv
 c:H g2=some (.lst (ch.map V.int))
 n:g2≠g0∧g2≠R∧g2≠gv
structure GivN (H8:Hp) (g0 R gv:Addr):Prop where
 f:H8 g0=none∧H8 R=none∧H8 gv=none
 n:g0≠R∧g0≠gv∧R≠gv
end Veil
namespace Veil
open PySem L2
end Veil
namespace L2
open PySem PySem.Spec PyProof.Rows
section
variable {P:Program}{w:World}{K:PySem.W.Frag}{mg:Str→Option Value}{base:Heap}{N:List Str}{qual:Str}{scope:Scope}{f C:Addr}{cd:Value}{A:Around}{outer:List Env}{s0:Shared}{H0:Hp}{E:XK}{k j:Nat}{x:Str}{p pos:Pos}{e:Expr}{es:List Expr}{t:TA}{ps:List Str}{sp:Sp}
end
end L2
namespace Veil
open PySem L2
structure ClsIx (K:PySem.W.Frag) (mg:Str→Option Value) (cl:Nat→Addr) (bm:Nat→List Value) (cV:Addr):Prop where
 ec:∀ i,i<9→jK K (cl i)
 kt:∀ i j,i<9→j<9→PySem.W.kitOne K (.ref (cl i)) (.ref (cl j))=some (decide (i=j))
 kV:∀ i,i<9→PySem.W.kitOne K (.ref (cl i)) (.ref cV)=some true
 kE:∀ i,i<9→PySem.W.kitOne K (.ref (cl i)) (.type "ValueError")=some true
 ex:∀ i,i<9→∃ x,Exc K mg x (cl i) (bm i)
 inV:∀ i,i<9→(Value.ref (cl i)::bm i).contains (.ref cV)=true
end Veil
namespace Veil
open PySem L2
def opnF (q:Stp×Int):Option Int:=match q.1 with
 | .opn _=>some q.2
 | _=>none
def opnV (ss:List Stp) (nums:List Int):List Int:=(ss.zip nums).filterMap opnF
inductive eY (C:Addr) (vs:List V) (H:Hp) (Q:VK) (E_:XK):Prop
 | mk (t a b:Addr) (p n f:Int) (ws:List V) (ss:List Stp) (is:List Addr) (inp:LL) (h0_:vs=[.ref t,.ref a,.ref b]) (h1_:TabAt C H t p n f) (h2_:0<p∧p≤31) (h3_:0≤n∧n≤10) (h4_:H a=some (.lst ws)) (h5_:StpsAt H ws ss) (h6_:H b=some (.lst (is.map V.ref))) (h7_:InsAt H is inp) (h8_:∀ r∈inp,r.length≤1000) (h9_:aU p n ss=true) (h10_:eW p n ss inp=true) (h11_:ss.length≤24) (h12_:mG H Q ((opnV ss (bq p ss inp)).map V.int)):eY C vs H Q E_
def fB (p:Int) (ss:List Stp) (inp oth:LL) (hs:List Int):Bool:=decide (lT ss inp hs=lT ss oth hs) && decide (opnV ss (bq p ss inp)=opnV ss (bq p ss oth))
inductive kn (C:Addr) (vs:List V) (H:Hp) (Q:VK) (E_:XK):Prop
 | mk (t a b o s:Addr) (p n f:Int) (ws:List V) (ss:List Stp) (is js:List Addr) (inp oth:LL) (hs:List Int) (h0_:vs=[.ref t,.ref a,.ref b,.ref o,.ref s]) (h1_:TabAt C H t p n f) (h2_:0<p∧p≤31) (h3_:0≤n∧n≤10) (h4_:H a=some (.lst ws)) (h5_:StpsAt H ws ss) (h6_:H b=some (.lst (is.map V.ref))) (h7_:InsAt H is inp) (h8_:∀ r∈inp,r.length≤1000) (h9_:H o=some (.lst (js.map V.ref))) (h10_:InsAt H js oth) (h11_:∀ r∈oth,r.length≤1000) (h12_:aU p n ss=true) (h13_:eW p n ss inp=true) (h14_:eW p n ss oth=true) (h15_:ss.length≤24) (h16_:H s=some (.lst (hs.map V.int))) (h17_:lP n hs=true) (h18_:hs.length≤100) (h19_:ci H Q (.bl (fB p ss inp oth hs))):kn C vs H Q E_
def cT (p:Int) (cover row:List Int) (d:Int):List Int:=List.zipWith (fun v c=>(v+c*d)%p) row (cover.drop 1)
inductive j5 (C:Addr) (vs:List V) (H:Hp) (Q:VK) (E_:XK):Prop
 | mk (t co ro:Addr) (p n f d:Int) (cover row:List Int) (h0_:vs=[.ref t,.ref co,.ref ro,.int d]) (h1_:TabAt C H t p n f) (h2_:0<p∧p≤31) (h3_:H co=some (.lst (cover.map V.int))) (h4_:H ro=some (.lst (row.map V.int))) (h5_:∀ v∈cover,0≤v∧v<p) (h6_:row.length≤100) (h7_:mG H Q ((cT p cover row d).map V.int)):j5 C vs H Q E_
theorem qm {ss:List Stp}{nums:List Int}{i:Nat}{z:Stp}{v:Int} (h1:ss[i]?=some z) (h2:nums[i]?=some v):((ss.zip nums).take (i+1)).filterMap opnF=((ss.zip nums).take i).filterMap opnF++(match z with | .opn _=>[v] | _=>[]):=by
 have hz:(ss.zip nums)[i]?=some (z,v):=by rw [List.getElem?_zip_eq_some];exact ⟨h1,h2⟩
 rw [List.take_add_one,hz,List.filterMap_append]
 congr 1
 cases z<;>rfl
theorem datIns_inj {a b:LL}:ox a=ox b↔a=b:=⟨fun h=>by
 unfold ox at h
 injection h with h
 exact (List.map_inj_right fun x y h=>by
  injection h with h
  exact (List.map_inj_right fun _ _ h=>by injection h).mp h).mp h,fun h=>by rw [h]⟩
end Veil
namespace Veil
open PySem L2
def iL (p:Int) (cover hs:List Int) (h:Int) (row:List Int) (b a:Int):List Int:=if h∈hs then row else cT p cover row (a - b)
def cB (p:Int) (cover hs hands:List Int) (crows:LL) (n1 n2:List Int):LL:=(List.range hands.length).map fun k=>iL p cover hs (hands.getD k 0) (crows.getD k []) (n1.getD k 0) (n2.getD k 0)
inductive kj (C CC:Addr) (vs:List V) (H:Hp) (Q:VK) (E_:XK):Prop
 | mk (co so ra c1 c2:Addr) (p n f:Int) (ss:List Stp) (inp oth sh1 sh2 crows:LL) (z:Stp) (cover hs:List Int) (rs:List Addr) (t a b wa sh le:Addr) (ws:List V) (is shs:List Addr) (h0_:vs=[.ref co,.ref so,.ref ra,.ref c1,.ref c2]) (h1_:CrsAt C CC H c1 p n f ss inp sh1 t a b wa sh le ws is shs) (h2_:CrsR C CC H c2 p n f ss oth sh2) (h3_:Par p n f ss inp) (h4_:Par p n f ss oth) (h5_:ShsOk p n sh1) (h6_:ShsOk p n sh2) (h7_:ss[sh1.length]?=some z) (h8_:sh2.length=sh1.length) (h9_:H co=some (.lst (cover.map V.int))) (h10_:∀ v∈cover,0≤v∧v<p) (h11_:H so=some (.lst (hs.map V.int))) (h12_:H ra=some (.lst (rs.map V.ref))) (h13_:InsAt H rs crows) (h14_:crows.length=(z.dealers n).length) (h15_:∀ r∈crows,r.length≤100)
  (h16_:∀ d ds H',Same H H'→H d=none→H' d=some (.lst (ds.map V.ref))→d∉ds→InsAt H' ds (cB p cover hs (z.dealers n) crows (bV p n ss inp sh1 z) (bV p n ss oth sh2 z))→(∀ x∈ds,H x=none∨x∈rs)→Q (.ref d) H'):kj C CC vs H Q E_
theorem nA {p:Int}{cover hs hands:List Int}{crows:LL}{n1 n2:List Int}{k:Nat}{h:Int}{row:List Int}{b a:Int} (h0:hands[k]?=some h) (h1:crows[k]?=some row) (h2:n1[k]?=some b) (h3:n2[k]?=some a):(cB p cover hs hands crows n1 n2).take (k+1)=(cB p cover hs hands crows n1 n2).take k++[iL p cover hs h row b a]:=by
 have hk:k<hands.length:=(List.getElem?_eq_some_iff.mp h0).1
 rw [List.take_add_one]
 unfold cB
 rw [List.getElem?_map,List.getElem?_range hk]
 simp only [Option.map_some,List.getD_eq_getElem?_getD,h0,h1,h2,h3,Option.getD_some]
 rfl
theorem dQ {p:Int}{cover hs hands:List Int}{crows:LL}{n1 n2:List Int}:(cB p cover hs hands crows n1 n2).length=hands.length:=by unfold cB;rw [List.length_map,List.length_range]
theorem sx_upd {ex:List Addr}{H H':Hp} (s:gk ex H H') {l:Addr}{o:HO} (h:l∈ex):gk ex H (upd H' l o):=fun x u e hn=>by rw [aB fun z=>hn (by rw [z];exact h)];exact s x u e hn
theorem j2 {ex:List Addr}{H H':Hp} (s:gk ex H H') {l:Addr} (h:H' l=none) (hn:l∉ex):H l=none:=by
 cases e:H l with
 | none=>rfl
 | some u=>rw [s l u e hn] at h;cases h
end Veil
namespace Veil
open PySem L2
structure ExSt where
 here:LL×List mH
 there:LL×List mH
 found:List Int
def bN (p n:Int) (f:Nat) (ss:List Stp) (inp oth:LL) (ch cover hs:List Int) (i:Nat) (s:ExSt):LL:=cB p cover hs ((ss.getD i (.fix 0)).dealers n) (bh f ch (aS f n (ss.take i)) ((ss.getD i (.fix 0)).dealers n).length) (bV p n ss inp s.here.1 (ss.getD i (.fix 0))) (bV p n ss oth s.there.1 (ss.getD i (.fix 0)))
def exI (p n:Int) (f:Nat) (ss:List Stp) (inp oth:LL) (ch cover hs:List Int):Nat→ExSt
 | 0=>⟨([],[]),([],[]),[]⟩
 | i+1=>⟨goSt p n ss inp (exI p n f ss inp oth ch cover hs i).here (bh f ch (aS f n (ss.take i)) ((ss.getD i (.fix 0)).dealers n).length),goSt p n ss oth (exI p n f ss inp oth ch cover hs i).there (bN p n f ss inp oth ch cover hs i (exI p n f ss inp oth ch cover hs i)),(exI p n f ss inp oth ch cover hs i).found++(bN p n f ss inp oth ch cover hs i (exI p n f ss inp oth ch cover hs i)).flatten⟩
def exD (p n:Int) (f:Nat) (ss:List Stp) (inp oth:LL) (ch hs:List Int):List Int:=(exI p n f ss inp oth ch (dD p f hs) hs ss.length).found
theorem goSt_len {p n:Int}{ss:List Stp}{inp:LL}{st:LL×List mH}{crows:LL}:(goSt p n ss inp st crows).1.length=st.1.length+1:=by
 show (_++[_]).length=_
 rw [List.length_append]
 rfl
theorem nB {p n:Int}{f:Nat}{ss:List Stp}{inp oth:LL}{ch cover hs:List Int}:∀ i,(exI p n f ss inp oth ch cover hs i).here.1.length=i∧(exI p n f ss inp oth ch cover hs i).there.1.length=i
 | 0=>⟨rfl,rfl⟩
 | i+1=>by
  have ih:=nB (p:=p) (n:=n) (f:=f) (ss:=ss) (inp:=inp) (oth:=oth) (ch:=ch) (cover:=cover) (hs:=hs) i
  exact ⟨goSt_len.trans (by rw [ih.1]),goSt_len.trans (by rw [ih.2])⟩
theorem qX {p n:Int} (hp:0<p) {ss:List Stp}{inp:LL}{st:LL×List mH}{crows:LL} (h:ShsOk p n st.1):ShsOk p n (goSt p n ss inp st crows).1:=h.snoc (oi ..) (made_b hp (kC hp ..) _)
theorem rc {p n:Int} (hp:0<p) {f:Nat}{ss:List Stp}{inp oth:LL}{ch cover hs:List Int}:∀ i,ShsOk p n (exI p n f ss inp oth ch cover hs i).here.1∧ShsOk p n (exI p n f ss inp oth ch cover hs i).there.1
 | 0=>⟨⟨(fun r h=>nomatch h),(fun r h=>nomatch h)⟩,⟨(fun r h=>nomatch h),(fun r h=>nomatch h)⟩⟩
 | i+1=>⟨qX hp (rc hp i).1,qX hp (rc hp i).2⟩
inductive spExP (C cS cI cC cH cN:Addr) (vs:List V) (H:Hp) (Q:VK) (E:XK):Prop
 | mk (t a b o c s:Addr) (p n f:Int) (ws:List V) (ss:List Stp) (is js:List Addr) (inp oth:LL) (ch hs:List Int) (h0_:vs=[.ref t,.ref a,.ref b,.ref o,.ref c,.ref s]) (h1_:TabAt C H t p n f) (h2_:p∈primes9) (h3_:3≤n∧n≤7) (h4_:n<p) (h5_:f=1∨f=2) (h6_:2*f<n) (h7_:H a=some (.lst ws)) (h8_:StpsAt H ws ss) (h9_:H b=some (.lst (is.map V.ref))) (h10_:InsAt H is inp) (h11_:∀ r∈inp,r.length≤1000) (h12_:H o=some (.lst (js.map V.ref))) (h13_:InsAt H js oth) (h14_:∀ r∈oth,r.length≤1000) (h15_:H c=some (.lst (ch.map V.int))) (h16_:ch.length≤1000) (h17_:H s=some (.lst (hs.map V.int))) (h18_:hs.length≤100)
  (h19_:aU p n ss=true→eW p n ss inp=true→fA p f n ss ch=true→eW p n ss oth=true→lP n hs=true→(hs.length:Int)≤f→fB p ss inp oth hs=true→mG H Q ((exD p n f.toNat ss inp oth ch hs).map V.int))
  (h20_:aU p n ss=false→∀ H',Same H H'→E (.ref cS) none H') (h21_:aU p n ss=true→eW p n ss inp=false→∀ H',Same H H'→E (.ref cI) none H') (h22_:aU p n ss=true→eW p n ss inp=true→fA p f n ss ch=false→∀ H',Same H H'→E (.ref cC) none H') (h23_:aU p n ss=true→eW p n ss inp=true→fA p f n ss ch=true→eW p n ss oth=false→∀ H',Same H H'→E (.ref cI) none H')
  (h24_:aU p n ss=true→eW p n ss inp=true→fA p f n ss ch=true→eW p n ss oth=true→lP n hs=false→∀ H',Same H H'→E (.ref cH) none H') (h25_:aU p n ss=true→eW p n ss inp=true→fA p f n ss ch=true→eW p n ss oth=true→lP n hs=true→f<(hs.length:Int)→∀ H',Same H H'→E (.ref cN) none H') (h26_:aU p n ss=true→eW p n ss inp=true→fA p f n ss ch=true→eW p n ss oth=true→lP n hs=true→(hs.length:Int)≤f→fB p ss inp oth hs=false→∀ H',Same H H'→E (.ref cN) none H'):spExP C cS cI cC cH cN vs H Q E
end Veil
namespace Veil
open PySem L2
theorem CrsAt.sx {C CC:Addr}{ex:List Addr}{H H':Hp} (s:gk ex H H') (hl:∀ y∈ex,∃ xs,H y=some (.lst xs)) {c:Addr}{p n f:Int}{ss:List Stp}{inp shares:LL}{t a b wa sh le:Addr}{ws:List V}{is shs:List Addr} (R:CrsAt C CC H c p n f ss inp shares t a b wa sh le ws is shs) (ha:a∉ex) (hb:b∉ex) (hw:wa∉ex) (hs:sh∉ex) (hi:∀ i∈is,i∉ex) (hj:∀ i∈shs,i∉ex):CrsAt C CC H' c p n f ss inp shares t a b wa sh le ws is shs:=by
 have no:∀ {x:Addr}{u:HO},H x=some u→(∀ xs,u≠.lst xs)→x∉ex:=fun e h m=>by
  obtain ⟨xs,hx⟩:=hl _ m
  rw [e] at hx
  exact h xs (Option.some.inj hx)
 obtain ⟨dx,hc⟩:=R.obj
 obtain ⟨dt,ht⟩:=R.tab
 exact ⟨⟨dx,s _ _ hc (no hc fun xs z=>nomatch z)⟩,⟨dt,s _ _ ht (no ht fun xs z=>nomatch z)⟩,s _ _ R.ha ha,Paired.mapP R.st fun v q ⟨a',e',z'⟩=>⟨a',e',s _ _ z' (no z' fun xs z=>nomatch z)⟩,s _ _ R.hb hb,InsAt.sx s R.hin hi,s _ _ R.hw hw,s _ _ R.hsh hs,InsAt.sx s R.hs hj⟩
theorem veil_b {p:Int} (hp:1<p) {f:Nat}{hs:List Int}:∀ v∈dD p f hs,0≤v∧v<p:=fun v hv=>by
 unfold dD at hv
 rcases List.mem_append.mp hv with h | h
 ·exact pU hp hs v h
 ·rw [List.eq_of_mem_replicate h]
  omega
theorem ou {k:Nat}:∀ {xs:LL},(∀ r∈xs,r.length≤k)→xs.flatten.length≤k*xs.length
 | [],_=>Nat.zero_le _
 | r::xs,h=>by
  have h1:=h r (List.mem_cons_self ..)
  have h2:=ou (xs:=xs) fun y hy=>h y (List.mem_cons_of_mem _ hy)
  rw [List.flatten_cons,List.length_append,List.length_cons,Nat.mul_succ]
  omega
theorem LetsAt.sx {ex:List Addr}{H H':Hp} (s:gk ex H H') (hl:∀ y∈ex,∃ xs,H y=some (.lst xs)) {vs:List V}{ls:List mH} (h:LetsAt H vs ls):LetsAt H' vs ls:=Paired.mapP h fun v q ⟨a',e',z'⟩=>⟨a',e',s _ _ z' fun m=>by obtain ⟨xs,hx⟩:=hl _ m;rw [hx] at z';cases z'⟩
end Veil
namespace Veil
open PySem L2
section
variable {p n f:Int}{ss:List Stp}{inp oth:LL}{ch hs:List Int}
end
end Veil
namespace Veil
open PySem L2
def StA (H:Hp) (g x:Addr) (ss:List Stp):Prop:=x≠g∧∃ ws,H x=some (.lst ws)∧StpsAt H ws ss
def InA (H:Hp) (g x:Addr) (inp:LL):Prop:=x≠g∧∃ as:List Addr,H x=some (.lst (as.map V.ref))∧InsAt H as inp∧g∉as
def NuA (H:Hp) (g x:Addr) (l:List Int):Prop:=x≠g∧H x=some (.lst (l.map V.int))
structure GivX (H8:Hp) (gv:Addr) (H:Hp) (x0 x1 x2 x3 x4:Addr) (ss:List Stp) (inp oth:LL) (ch hs:List Int):Prop where
 s:Same H8 H
 v:H gv=some (.lst [.ref x0,.ref x1,.ref x2,.ref x3,.ref x4])
 a0:StA H gv x0 ss
 a1:InA H gv x1 inp
 a2:InA H gv x2 oth
 a3:NuA H gv x3 ch
 a4:NuA H gv x4 hs
end Veil
namespace Veil
open PySem L2
theorem cut_cons (f:Nat) (ch:List Int) (u k:Nat):bh f ch u (k+1)=(ch.drop u).take f::bh f ch (u+f) k:=by
 unfold bh
 rw [List.range_succ_eq_map,List.map_cons,List.map_map]
 simp only [Nat.zero_mul,Nat.add_zero]
 congr 1
 refine List.map_congr_left fun i _=>?_
 show (ch.drop (u+(i+1)*f)).take f=_
 rw [Nat.succ_mul,show u+(i*f+f)=u+f+i*f by omega]
theorem oy {f:Nat}:∀ {R:LL}{A B:List Int},(∀ r∈R,r.length=f)→bh f (A++(R.flatten++B)) A.length R.length=R
 | [],A,B,_=>rfl
 | r::R,A,B,h=>by
  have hr:=h r (List.mem_cons_self ..)
  have ih:=oy (R:=R) (A:=A++r) (B:=B) fun x hx=>h x (List.mem_cons_of_mem _ hx)
  rw [List.length_append,hr,List.append_assoc] at ih
  rw [List.length_cons,cut_cons,List.flatten_cons,List.append_assoc r,ih,List.drop_left,List.take_left' hr]
section
variable {p:Int}{f:Nat}{cover hs:List Int} (hp:0<p) (hc:cover.length=f+1)
include hp hc
theorem qZ {h b a:Int}{row:List Int} (hr:row.length=f):(iL p cover hs h row b a).length=f:=by
 unfold iL
 split
 ·exact hr
 ·unfold cT
  rw [List.length_zipWith,List.length_drop]
  omega
theorem exRow_b {h b a:Int}{row:List Int} (hb:∀ v∈row,0≤v∧v<p):∀ v∈iL p cover hs h row b a,0≤v∧v<p:=by
 unfold iL
 split
 ·exact hb
 ·intro v hv
  unfold cT at hv
  rw [List.mem_iff_getElem?] at hv
  obtain ⟨i,hi⟩:=hv
  rw [List.getElem?_zipWith] at hi
  split at hi
  ·rw [← Option.some.inj hi]
   exact ⟨Int.emod_nonneg _ (by omega),Int.emod_lt_of_pos _ hp⟩
  ·cases hi
theorem pC {hands n1 n2:List Int}{crows:LL} (hl:crows.length=hands.length) (hr:∀ r∈crows,r.length=f∧∀ v∈r,0≤v∧v<p):∀ r∈cB p cover hs hands crows n1 n2,r.length=f∧∀ v∈r,0≤v∧v<p:=fun r h=>by
 unfold cB at h
 obtain ⟨k,hk,rfl⟩:=List.mem_map.mp h
 have hk:=List.mem_range.mp hk
 have hm:crows.getD k []∈crows:=by
  rw [List.getD_eq_getElem?_getD,List.getElem?_eq_getElem (by omega)]
  exact List.getElem_mem _
 exact ⟨qZ hp hc (hr _ hm).1,exRow_b hp hc (hr _ hm).2⟩
omit hp hc in
theorem qY {hands n1 n2:List Int}{crows:LL}{k:Nat} (hk:k<hands.length):(cB p cover hs hands crows n1 n2).getD k []=iL p cover hs (hands.getD k 0) (crows.getD k []) (n1.getD k 0) (n2.getD k 0):=by
 unfold cB
 rw [List.getD_eq_getElem?_getD,List.getElem?_map,List.getElem?_range hk]
 rfl
variable {n:Int}{ss:List Stp}{ch:List Int} (hn:0≤n) (hl:(ch.length:Int)=bg (f:Int) n ss) (hb:∀ v∈ch,0≤v∧v<p)
include hn hl hb
omit hp hc in
theorem cut_ok {i:Nat} (hi:i<ss.length):∀ r∈bh f ch (aS f n (ss.take i)) ((ss.getD i (.fix 0)).dealers n).length,r.length=f∧∀ v∈r,0≤v∧v<p:=fun r hr=>by
 have e:ss[i]?=some (ss.getD i (.fix 0)):=by rw [List.getD_eq_getElem?_getD,List.getElem?_eq_getElem hi];rfl
 exact ⟨cut_full hn hl e r hr,fun v hv=>hb v ((mt r hr).2 v hv)⟩
theorem re {inp oth:LL}{i:Nat} (hi:i<ss.length) (s:ExSt):∀ r∈bN p n f ss inp oth ch cover hs i s,r.length=f∧∀ v∈r,0≤v∧v<p:=pC hp hc (gi ..) (cut_ok hn hl hb hi)
theorem kS {inp oth:LL}:∀ i,i≤ss.length→(exI p n f ss inp oth ch cover hs i).found.length=aS f n (ss.take i)∧∀ v∈(exI p n f ss inp oth ch cover hs i).found,0≤v∧v<p
 | 0,_=>⟨rfl,fun v h=>nomatch h⟩
 | i+1,h=>by
  have ih:=kS (inp:=inp) (oth:=oth) i (by omega)
  have e:ss[i]?=some (ss.getD i (.fix 0)):=by rw [List.getD_eq_getElem?_getD,List.getElem?_eq_getElem (by omega)];rfl
  have ok:=re (hs:=hs) (inp:=inp) (oth:=oth) hp hc hn hl hb (show i<ss.length by omega) (exI p n f ss inp oth ch cover hs i)
  show ((exI p n f ss inp oth ch cover hs i).found++(bN p n f ss inp oth ch cover hs i (exI p n f ss inp oth ch cover hs i)).flatten).length=_∧∀ v∈(exI p n f ss inp oth ch cover hs i).found++(bN p n f ss inp oth ch cover hs i (exI p n f ss inp oth ch cover hs i)).flatten,_
  have fl:∀ {R:LL},(∀ r∈R,r.length=f∧∀ v∈r,0≤v∧v<p)→R.flatten.length=R.length*f:=fun {R} hR=>by
   induction R with
   | nil=>simp
   | cons r R ih =>
    rw [List.flatten_cons,List.length_append,ih fun x hx=>hR x (List.mem_cons_of_mem _ hx),(hR r (List.mem_cons_self ..)).1,List.length_cons,Nat.succ_mul]
    omega
  refine ⟨?_,fun v hv=>?_⟩
  ·rw [List.length_append,ih.1,fl ok,dm e]
   unfold bN
   rw [dQ]
  ·rcases List.mem_append.mp hv with z | z
   ·exact ih.2 v z
   ·obtain ⟨r,hr,hv⟩:=List.mem_flatten.mp z
    exact (ok r hr).2 v hv
omit hp hc hn hl hb in
theorem ex_pre {inp oth:LL}{i:Nat}:∀ j,i≤j→∃ B,(exI p n f ss inp oth ch cover hs j).found=(exI p n f ss inp oth ch cover hs i).found++B
 | 0,h=>by
  have:i=0:=by omega
  subst this
  exact ⟨[],(List.append_nil _).symm⟩
 | j+1,h=>by
  by_cases e:i=j+1
  ·subst e
   exact ⟨[],(List.append_nil _).symm⟩
  ·obtain ⟨B,hB⟩:=ex_pre (inp:=inp) (oth:=oth) (i:=i) j (by omega)
   refine ⟨B++(bN p n f ss inp oth ch cover hs j (exI p n f ss inp oth ch cover hs j)).flatten,?_⟩
   show (exI p n f ss inp oth ch cover hs j).found++_=_
   rw [hB,List.append_assoc]
theorem ex_cut {inp oth:LL}{i:Nat} (hi:i<ss.length):bh f (exI p n f ss inp oth ch cover hs ss.length).found (aS f n (ss.take i)) ((ss.getD i (.fix 0)).dealers n).length=bN p n f ss inp oth ch cover hs i (exI p n f ss inp oth ch cover hs i):=by
 obtain ⟨B,hB⟩:=ex_pre (p:=p) (f:=f) (cover:=cover) (hs:=hs) (n:=n) (ss:=ss) (ch:=ch) (inp:=inp) (oth:=oth) (i:=i+1) ss.length hi
 have hB:_=((exI p n f ss inp oth ch cover hs i).found++(bN p n f ss inp oth ch cover hs i (exI p n f ss inp oth ch cover hs i)).flatten)++B:=hB
 have fl:=(kS (hs:=hs) (inp:=inp) (oth:=oth) hp hc hn hl hb i (by omega)).1
 have ok:=re (hs:=hs) (inp:=inp) (oth:=oth) hp hc hn hl hb hi (exI p n f ss inp oth ch cover hs i)
 have ln:(bN p n f ss inp oth ch cover hs i (exI p n f ss inp oth ch cover hs i)).length=((ss.getD i (.fix 0)).dealers n).length:=by unfold bN;exact dQ
 rw [hB,List.append_assoc,← fl,← ln]
 exact oy fun r hr=>(ok r hr).1
end
theorem iW {p:Int}{f:Nat}{hs:List Int} (h:hs.length≤f):(dD p f hs).length=f+1:=by
 unfold dD
 rw [List.length_append,gl,List.length_replicate]
 omega
theorem chan_iff {p f n:Int}{ss:List Stp}{ch:List Int}:fA p f n ss ch=true↔(ch.length:Int)=bg f n ss∧∀ v∈ch,0≤v∧v<p:=by
 unfold fA
 rw [Bool.and_eq_true,decide_eq_true_eq]
 exact and_congr Iff.rfl nums_iff
section
variable {p f n:Int}{ss:List Stp}{ch hs:List Int}{inp oth:LL} (hp:0<p) (hf:0≤f) (hh:(hs.length:Int)≤f) (hn:0≤n) (hC:fA p f n ss ch=true)
include hp hf hh hn hC
theorem exD_chan:fA p f n ss (exD p n f.toNat ss inp oth ch hs)=true:=by
 obtain ⟨h1,h2⟩:=chan_iff.mp hC
 have fe:((f.toNat:Nat):Int)=f:=by omega
 have:=kS (f:=f.toNat) (cover:=dD p f.toNat hs) (hs:=hs) (inp:=inp) (oth:=oth) hp (iW (by omega)) hn (by rw [fe];exact h1) h2 ss.length (Nat.le_refl _)
 refine chan_iff.mpr ⟨?_,this.2⟩
 show ((exI p n f.toNat ss inp oth ch (dD p f.toNat hs) hs ss.length).found.length:Int)=_
 rw [this.1,List.take_length,dS _ hn,fe]
end
theorem lV {p:Int}{ss:List Stp}{inp oth:LL}:∀ (r:List Stp) (k:Nat),k+r.length≤ss.length→((cY p ss inp oth r k).all id=true↔opnV r ((bq p ss inp).drop k)=opnV r ((bq p ss oth).drop k))
 | [],k,_=>by simp [cY,opnV]
 | s::r,k,h=>by
  have h:k+(r.length+1)≤ss.length:=h
  have ih:=lV (p:=p) (ss:=ss) (inp:=inp) (oth:=oth) r (k+1) (by omega)
  have e:∀ inp,(bq p ss inp).drop k=(bq p ss inp).getD k 0::(bq p ss inp).drop (k+1):=fun inp=>by
   have hk:k<(bq p ss inp).length:=by rw [fh];omega
   rw [List.drop_eq_getElem_cons hk,List.getD_eq_getElem?_getD,List.getElem?_eq_getElem hk]
   rfl
  rw [e inp,e oth]
  show (eJ p ss inp oth k s::cY p ss inp oth r (k+1)).all id=true↔_
  rw [List.all_cons,Bool.and_eq_true,ih]
  unfold eJ opnV
  rw [List.zip_cons_cons,List.zip_cons_cons]
  cases s with
  | opn j =>
   rw [List.filterMap_cons_some (f:=opnF) (b:=(bq p ss inp).getD k 0) (show opnF (Stp.opn j,(bq p ss inp).getD k 0)=some _ from rfl),List.filterMap_cons_some (f:=opnF) (b:=(bq p ss oth).getD k 0) (show opnF (Stp.opn j,(bq p ss oth).getD k 0)=some _ from rfl),List.cons.injEq]
   refine and_congr ?_ Iff.rfl
   show (!decide (("open":Str)="open") || decide _)=true↔_
   rw [decide_eq_true rfl,Bool.not_true,Bool.false_or,decide_eq_true_eq]
  | _ =>
   rw [List.filterMap_cons_none rfl,List.filterMap_cons_none rfl]
   refine ⟨fun z=>z.2,fun z=>⟨?_,z⟩⟩
   refine Bool.or_eq_true_iff.mpr (.inl ?_)
   rw [Bool.not_eq_true',decide_eq_false_iff_not]
   intro z
   simp only [Stp.word] at z
   exact absurd z (by decide +kernel)
theorem agree_eq {p:Int}{ss:List Stp}{inp oth:LL}{hs:List Int}:fB p ss inp oth hs=jy p ss inp oth hs:=by
 have h1:lT ss inp hs=lT ss oth hs↔hs.all (fc ss inp oth)=true:=by
  unfold lT
  rw [List.map_inj_left,List.all_eq_true]
  exact ⟨fun h x hx=>decide_eq_true (h x hx),fun h x hx=>of_decide_eq_true (h x hx)⟩
 have h2:=lV (p:=p) (ss:=ss) (inp:=inp) (oth:=oth) ss 0 (by omega)
 rw [List.drop_zero,List.drop_zero] at h2
 rw [Bool.eq_iff_iff]
 unfold fB jy
 rw [Bool.and_eq_true,Bool.and_eq_true,decide_eq_true_eq,decide_eq_true_eq,h1,h2]
end Veil
namespace Veil
open PySem L2
inductive mR (K:PySem.W.Frag) (C:Addr) (vs:List V) (H:Hp) (Q:VK) (E_:XK):Prop
 | mk (a t:Addr) (ns:List Int) (m:Nat) (p n f:Int) (h0_:vs=[.ref a,.ref t,.int (m:Int)]) (h1_:SqL K H a (ns.map V.int)) (h2_:TabAt C H t p n f) (h3_:p∈primes9) (h4_:(f=1∨f=2)) (h5_:(3≤n∧n≤10)) (h6_:2*f<n) (h7_:(1≤m∧m≤30)) (h8_:∀ (d sa ia oa ea:Addr) (H':Hp) (ws:List V) (ss:List Stp) (is os:List Addr) (inp oth:List (List Int)) (sm wo:List Int),Same H H'→H d=none→H' d=some (.tup [.ref sa,.ref ia,.ref oa,.ref ea])→H' sa=some (.lst ws)→StpsAt H' ws ss→1≤ss.length→ss.length≤m+4→dw p n ss→H' ia=some (.lst (is.map V.ref))→InsAt H' is inp→InsOk p n ss inp→H' oa=some (.lst (os.map V.ref))→InsAt H' os oth→InsOk p n ss oth→H' ea=some (.lst (sm.map V.int))→rL n f wo sm→(∀ r∈inp,r.length≤200)→(∀ r∈oth,r.length≤200)→Q (.ref d) H'):mR K C vs H Q E_
theorem exP_good {C cS cI cC cH cN t a b o c s:Addr}{H:Hp}{Q:VK}{p n f:Int}{ws:List V}{ss:List Stp}{is js:List Addr}{inp oth:LL}{ch hs:List Int} (T1:TabAt C H t p n f) (hp:p∈primes9) (hn:3≤n∧n≤7) (np:n<p) (hf:f=1∨f=2) (fn:2*f<n) (ha:H a=some (.lst ws)) (hss:StpsAt H ws ss) (hb:H b=some (.lst (is.map V.ref))) (hin:InsAt H is inp) (il:∀ r∈inp,r.length≤200) (ho:H o=some (.lst (js.map V.ref))) (hjn:InsAt H js oth) (jl:∀ r∈oth,r.length≤200) (hc:H c=some (.lst (ch.map V.int))) (cl:ch.length≤1000) (hs_:H s=some (.lst (hs.map V.int))) (hl:hs.length≤100) (k0:aU p n ss=true) (k1:eW p n ss inp=true) (k2:fA p f n ss ch=true) (k3:eW p n ss oth=true) (k4:lP n hs=true) (k5:(hs.length:Int)≤f) (k6:fB p ss inp oth hs=true) (q:mG H Q ((exD p n f.toNat ss inp oth ch hs).map V.int)):spExP C cS cI cC cH cN [.ref t,.ref a,.ref b,.ref o,.ref c,.ref s] H Q E0 :=
 ⟨t,a,b,o,c,s,p,n,f,ws,ss,is,js,inp,oth,ch,hs,rfl,T1,hp,hn,np,hf,fn,ha,hss,hb,hin,fun r h=>Nat.le_trans (il r h) (by decide),ho,hjn,fun r h=>Nat.le_trans (jl r h) (by decide),hc,cl,hs_,hl,fun _ _ _ _ _ _ _=>q,fun z=>absurd (k0.symm.trans z) (by decide),fun _ z=>absurd (k1.symm.trans z) (by decide),fun _ _ z=>absurd (k2.symm.trans z) (by decide),fun _ _ _ z=>absurd (k3.symm.trans z) (by decide),fun _ _ _ _ z=>absurd (k4.symm.trans z) (by decide),fun _ _ _ _ _ z=>absurd z (by omega),fun _ _ _ _ _ _ z=>absurd (k6.symm.trans z) (by decide)⟩
end Veil
namespace Veil
open PySem L2
theorem jd (p:Int):∀ (ss:List Stp) (rest:LL) (fd:List Int),∃ B,eI p ss rest fd=fd++B
 | [],_,fd=>⟨[],(List.append_nil _).symm⟩
 | s::r,rest,fd=>by
  obtain ⟨B,hB⟩:=jd p r (dU rest s) (fd++[lq p rest fd s])
  exact ⟨lq p rest fd s::B,by rw [eI,hB,List.append_assoc];rfl⟩
theorem nY {p n:Int}{ss:List Stp}{inp:LL} (hp:0<p) (hR:dw p n ss) (IO:InsOk p n ss inp):∀ i,i≤ss.length→∃ rest fd,PlSt p n ss inp i rest fd∧Rests n ss inp rest i
 | 0,_=>⟨inp,[],PlSt.start IO,Rests.start⟩
 | i+1,h=>by
  obtain ⟨rest,fd,S,Rr⟩:=nY hp hR IO i (by omega)
  have ez:ss[i]?=some ss[i]:=List.getElem?_eq_getElem (show i<ss.length by omega)
  exact ⟨_,_,S.next hp ez (hR i _ ez),Rr.next (p:=p) S.ok.len ez (hR i _ ez)⟩
theorem plain_at {p n:Int}{ss:List Stp}{inp:LL} (hp:0<p) (hR:dw p n ss) (IO:InsOk p n ss inp) {i:Nat}{z:Stp} (hz:ss[i]?=some z):∃ rest,Rests n ss inp rest i∧(bq p ss inp).getD i 0=lq p rest ((bq p ss inp).take i) z:=by
 have hi:i<ss.length:=(List.getElem?_eq_some_iff.mp hz).1
 obtain ⟨rest,fd,S,Rr⟩:=nY hp hR IO i (by omega)
 refine ⟨rest,Rr,?_⟩
 have go:=S.go
 have fl:=S.fl
 rw [List.drop_eq_getElem_cons hi,(List.getElem?_eq_some_iff.mp hz).2,eI] at go
 obtain ⟨B,hB⟩:=jd p (ss.drop (i+1)) (dU rest z) (fd++[lq p rest fd z])
 rw [hB] at go
 rw [← go,List.append_assoc,List.take_left' fl,List.getD_eq_getElem?_getD,List.getElem?_append_right (by omega),fl,Nat.sub_self]
 rfl
theorem nZ {p n:Int}{ss:List Stp}{inp:LL} (hp:0<p) (hR:dw p n ss) (IO:InsOk p n ss inp) {i:Nat}{h:Int} (hz:ss[i]?=some (.ein h)):(bq p ss inp).getD i 0=inV1 ss inp i h:=by
 obtain ⟨rest,Rr,e⟩:=plain_at hp hR IO hz
 have Rz:=hR i _ hz
 rw [e,qc Rr Rz.1 Rz.2]
theorem rj {f:Nat}{ch:List Int}{u K k:Nat} (hk:k<K):(bh f ch u K).getD k []=(ch.drop (u+k*f)).take f:=by
 unfold bh
 rw [List.getD_eq_getElem?_getD,List.getElem?_map,List.getElem?_range hk]
 rfl
theorem qa {l:List Int}{a f j:Nat} (hj:j<f):((l.drop a).take f).getD j 0=l.getD (a+j) 0:=by
 rw [List.getD_eq_getElem?_getD,List.getD_eq_getElem?_getD,List.getElem?_take_of_lt hj,List.getElem?_drop]
def jS (p:Int) (f:Nat) (found ch:List Int) (pl:Nat):List Int:=(List.range f).map fun j=>(found.getD (pl+j) 0 - ch.getD (pl+j) 0)%p
theorem pS {p d:Int}:∀ {row C:List Int}{j:Nat},j<row.length→j<C.length→(List.zipWith (fun v c=>(v+c*d)%p) row C).getD j 0=(row.getD j 0+C.getD j 0*d)%p:=fun {row C j} h1 h2=>by
 rw [List.getD_eq_getElem?_getD,List.getD_eq_getElem?_getD,List.getD_eq_getElem?_getD,List.getElem?_zipWith,List.getElem?_eq_getElem h1,List.getElem?_eq_getElem h2]
 rfl
theorem mf {l:List Int}{f:Nat} (hl:l.length=f) (g:Int→Int):(List.range f).map (fun j=>g (l.getD j 0))=l.map g:=by
 refine List.ext_getElem (by rw [List.length_map,List.length_map,List.length_range,hl]) fun j h1 h2=>?_
 rw [List.length_map] at h2
 rw [List.getElem_map,List.getElem_map,List.getElem_range,List.getD_eq_getElem?_getD,List.getElem?_eq_getElem h2]
 rfl
section
variable {p:Int}{f:Nat}{cover hs:List Int} (hp:0<p) (hc:cover.length=f+1) {n:Int}{ss:List Stp}{ch:List Int} (hn:0≤n) (hl:(ch.length:Int)=bg (f:Int) n ss) (hb:∀ v∈ch,0≤v∧v<p)
include hp hc hn hl hb
theorem grown_eq {inp oth:LL}{i k:Nat} (hi:i<ss.length) (hk:k<((ss.getD i (.fix 0)).dealers n).length):jS p f (exI p n f ss inp oth ch cover hs ss.length).found ch (aS f n (ss.take i)+k*f) =
  if ((ss.getD i (.fix 0)).dealers n).getD k 0∈hs then List.replicate f 0 else (cover.drop 1).map fun x=>(((bV p n ss oth (exI p n f ss inp oth ch cover hs i).there.1 (ss.getD i (.fix 0))).getD k 0 - (bV p n ss inp (exI p n f ss inp oth ch cover hs i).here.1 (ss.getD i (.fix 0))).getD k 0)*x)%p:=by
 have cu:=ex_cut (hs:=hs) (inp:=inp) (oth:=oth) hp hc hn hl hb hi
 have e1:=(congrArg (fun r=>r.getD k []) cu).symm
 have e1:(bN p n f ss inp oth ch cover hs i (exI p n f ss inp oth ch cover hs i)).getD k []=_:=e1.trans (rj hk)
 unfold bN at e1
 rw [qY hk,rj hk] at e1
 have crl:=(cut_ok hn hl hb hi ((ch.drop (aS f n (ss.take i)+k*f)).take f) (by
  have h9:k<(bh f ch (aS f n (ss.take i)) ((ss.getD i (.fix 0)).dealers n).length).length:=by rw [gi];exact hk
  have e9:(bh f ch (aS f n (ss.take i)) ((ss.getD i (.fix 0)).dealers n).length).getD k []=(bh f ch (aS f n (ss.take i)) ((ss.getD i (.fix 0)).dealers n).length)[k]:=by rw [List.getD_eq_getElem?_getD,List.getElem?_eq_getElem h9];rfl
  rw [← rj hk,e9]
  exact List.getElem_mem _)).1
 unfold jS
 have g:∀ j,j<f→((exI p n f ss inp oth ch cover hs ss.length).found.getD (aS f n (ss.take i)+k*f+j) 0 - ch.getD (aS f n (ss.take i)+k*f+j) 0)%p=((iL p cover hs (((ss.getD i (.fix 0)).dealers n).getD k 0) ((ch.drop (aS f n (ss.take i)+k*f)).take f) ((bV p n ss inp (exI p n f ss inp oth ch cover hs i).here.1 (ss.getD i (.fix 0))).getD k 0) ((bV p n ss oth (exI p n f ss inp oth ch cover hs i).there.1 (ss.getD i (.fix 0))).getD k 0)).getD j 0 - ((ch.drop (aS f n (ss.take i)+k*f)).take f).getD j 0)%p:=fun j hj=>by rw [e1,qa hj,qa hj]
 rw [List.map_congr_left fun j hj=>g j (List.mem_range.mp hj)]
 generalize (ch.drop (aS f n (ss.take i)+k*f)).take f=row at crl
 generalize (bV p n ss inp (exI p n f ss inp oth ch cover hs i).here.1 (ss.getD i (.fix 0))).getD k 0=b
 generalize (bV p n ss oth (exI p n f ss inp oth ch cover hs i).there.1 (ss.getD i (.fix 0))).getD k 0=a
 generalize ((ss.getD i (.fix 0)).dealers n).getD k 0=h
 unfold iL
 split
 ·refine List.eq_replicate_iff.mpr ⟨by rw [List.length_map,List.length_range],fun x hx=>?_⟩
  obtain ⟨j,_,rfl⟩:=List.mem_map.mp hx
  rw [Int.sub_self,Int.zero_emod]
 ·have cl:(cover.drop 1).length=f:=by rw [List.length_drop];omega
  rw [← mf cl (fun x=>(a - b)*x%p)]
  refine List.map_congr_left fun j hj=>?_
  have hj:=List.mem_range.mp hj
  unfold cT
  rw [pS (by omega) (by omega),Int.sub_eq_add_neg,Int.emod_add_emod]
  generalize row.getD j 0=v
  rw [show v+(cover.drop 1).getD j 0*(a - b) + -v=(cover.drop 1).getD j 0*(a - b) by omega,Int.mul_comm]
end
theorem zero_map {p:Int}{f:Nat}{l:List Int} (hl:l.length=f):l.map (fun x=>((0:Int) - 0)*x%p)=List.replicate f 0:=List.eq_replicate_iff.mpr ⟨by rw [List.length_map,hl],fun x hx=>by
 obtain ⟨j,_,rfl⟩:=List.mem_map.mp hx
 rw [Int.sub_self,Int.zero_mul,Int.zero_emod]⟩
theorem p7 {p d:Int} (l:List Int):l.map (fun x=>d*x%p)=l.map (fun x=>(d%p)*x%p):=List.map_congr_left fun x _=>by rw [Int.mul_emod (d%p) x p,md,← Int.mul_emod]
def iX (p:Int) (f:Nat) (hs:List Int) (i:Nat):List Int:=gm p (hs.take i)++List.replicate (f - i) 0
theorem oK {p:Int} (hp:1<p) {f:Nat}{hs:List Int}{i:Nat}{h:Int} (hh:hs[i]?=some h) (hi:i<f):List.zipWith (fun a b=>(a - b*bw p h)%p) (iX p f hs i) (0::(iX p f hs i).dropLast)=iX p f hs (i+1):=by
 obtain ⟨m,hm⟩:∃ m,f - i=m+1:=⟨f - i - 1,by omega⟩
 unfold iX
 rw [show f - (i+1)=m by omega,hm]
 rw [show hs.take (i+1)=hs.take i++[h] by rw [List.take_add_one,hh];rfl,jM]
 generalize gm p (hs.take i)=R
 rw [show R++List.replicate (m+1) 0=(R++[0])++List.replicate m (0:Int) by rw [List.replicate_succ,List.append_assoc];rfl]
 have e2:(0:Int)::List.dropLast ((R++[0])++List.replicate m (0:Int))=(0::R)++List.replicate m (0:Int):=by
  rw [List.append_assoc,show [(0:Int)]++List.replicate m 0=List.replicate m 0++[0] by rw [← List.replicate_succ'];rfl,← List.append_assoc,List.dropLast_concat]
  rfl
 rw [e2]
 rw [List.zipWith_append (by simp)]
 congr 1
 ·unfold iD
  congr 1
  funext a b
  rw [Int.mul_comm]
 ·rw [List.zipWith_replicate',Int.zero_mul,Int.sub_zero,Int.zero_emod]
theorem pV {p:Int}{f:Nat}{hs:List Int}{i:Nat} (hi:i≤hs.length) (hf:i≤f):(iX p f hs i).length=f+1:=by
 unfold iX
 rw [List.length_append,gl,List.length_take,List.length_replicate]
 omega
theorem pW {p:Int}{f:Nat}{hs:List Int}:iX p f hs hs.length=dD p f hs:=by
 unfold iX dD
 rw [List.take_length,show f+1 - (hs.length+1)=f - hs.length by omega]
inductive mL (C:Addr) (vs:List V) (H:Hp) (Q:VK) (E_:XK):Prop
 | mk (t s:Addr) (p n f:Int) (hs:List Int) (h0_:vs=[.ref t,.ref s]) (h1_:TabAt C H t p n f) (h2_:p∈primes9) (h3_:f=1∨f=2) (h4_:H s=some (.lst (hs.map V.int))) (h5_:∀ h∈hs,1≤h∧h<p) (h6_:(hs.length:Int)≤f) (h7_:mG H Q ((dD p f.toNat hs).map V.int)):mL C vs H Q E_
inductive j6 (vs:List V) (H:Hp) (Q:VK) (E_:XK):Prop
 | mk (r g:Addr) (p d:Int) (row:List Int) (h0_:vs=[.int p,.ref r,.ref g]) (h1_:0<p∧p≤31) (h2_:H r=some (.lst (row.map V.int))) (h3_:row.length≤100) (h4_:H g=some (.lst (((row.drop 1).map fun x=>d*x%p).map V.int))) (h5_:0≤d∧d<p) (h6_:ci H Q (.bl true)):j6 vs H Q E_
theorem rep0:∀ k:Nat,(List.replicate k [V.int 0]).flatten=(List.replicate k (0:Int)).map V.int
 | 0=>rfl
 | k+1=>by rw [List.replicate_succ,List.flatten_cons,rep0 k];rfl
theorem rH {p x y:Int} (hp:p∈primes9) (hx:1≤x∧x<p) (hy:0≤y∧y<p) (e:y*x%p=1):y=bw p x:=by
 obtain ⟨⟨b0,b1⟩,b2⟩:=eQ hp (x:=x) (by rw [Int.emod_eq_of_lt (by omega) hx.2];omega)
 have h:y%p=bw p x%p:=by
  have e1:y*(x*bw p x)%p=y%p:=by rw [Int.mul_emod,b2,Int.mul_one,md]
  have e2:y*(x*bw p x)%p=bw p x%p:=by rw [← Int.mul_assoc,Int.mul_emod,e,Int.one_mul,md]
  rw [← e1,e2]
 rw [Int.emod_eq_of_lt hy.1 hy.2,Int.emod_eq_of_lt (by omega) b1] at h
 exact h
theorem cut_last {xs:List V}:ju xs none (some (-1))=xs.dropLast:=by
 unfold ju
 rw [HT.sIx_none,List.drop_zero,Nat.sub_zero]
 show xs.take (-1+(xs.length:Int)).toNat=_
 rw [List.dropLast_eq_take,show (-1+(xs.length:Int)).toNat=xs.length - 1 by omega]
end Veil
namespace Veil
open PySem L2
open PySem.W (nsIn findIn kitOne codeIn keepIn fnOf isFn mg_of mg_none_of excIn)
seal L2.PSs L2.PS L2.PE L2.PT L2.PW L2.PA L2.PG L2.PGs L2.PI L2.PTs L2.PO L2.PH L2.PJ L2.OpR L2.CallR L2.IxR L2.UnR L2.TruR L2.SlR
def top (i:Nat):Stmt:=PySem.Challenge.pw_veilsum_k20_which_exchange.main.body.getD i (.Pass ⟨0,0,0,0⟩)
abbrev s_wall:Stmt:=top 0
abbrev fG:Stmt:=top 13
abbrev fg:Stmt:=fu (top 14) 0
abbrev nV:Stmt:=top 15
abbrev ku:Stmt:=top 16
abbrev cJ:Stmt:=top 17
abbrev bY:Stmt:=top 18
abbrev gy:Stmt:=top 19
abbrev iP:Stmt:=top 20
abbrev gw:Stmt:=top 21
abbrev kA:Stmt:=top 23
abbrev eC:Stmt:=top 27
abbrev dg:Stmt:=top 28
abbrev nU:Stmt:=top 29
abbrev cx:Stmt:=top 30
abbrev kx:Stmt:=top 31
abbrev cF:Stmt:=top 32
abbrev eF:Stmt:=top 33
abbrev gA:Stmt:=top 34
abbrev kz:Stmt:=top 35
abbrev nR:Stmt:=top 36
abbrev dB:Stmt:=top 37
abbrev cq:Stmt:=top 38
abbrev fH:Stmt:=top 39
abbrev fC:Stmt:=top 40
abbrev ky:Stmt:=top 41
abbrev cr:Stmt:=top 43
abbrev dz:Stmt:=top 44
abbrev b7:Stmt:=top 45
abbrev gx:Stmt:=top 46
abbrev dA:Stmt:=top 47
abbrev eG:Stmt:=fu (top 48) 0
abbrev bU:Stmt:=fu (top 48) 1
abbrev b9:Stmt:=fu (top 48) 2
abbrev bC:Stmt:=fu (top 48) 3
abbrev cy:Stmt:=fu (top 48) 4
abbrev bO:Stmt:=fu (top 48) 5
abbrev dH:Stmt:=fu (top 48) 6
abbrev bM:Stmt:=top 50
abbrev cG:Stmt:=top 51
abbrev df:Stmt:=top 52
abbrev nQ:Stmt:=top 53
abbrev bZ:Stmt:=top 54
abbrev kB:Stmt:=top 55
abbrev iQ:Stmt:=top 56
abbrev b6:Stmt:=top 57
abbrev eE:Stmt:=top 58
abbrev de:Stmt:=top 60
abbrev gz:Stmt:=top 61
abbrev cK:Stmt:=top 62
abbrev c8:Stmt:=top 63
abbrev cL:Stmt:=top 64
abbrev fE:Stmt:=top 65
abbrev cv:Stmt:=top 66
abbrev eu:Stmt:=top 67
abbrev ee:Stmt:=top 68
abbrev dZ:Stmt:=top 69
abbrev c9:Stmt:=top 70
abbrev dc:Stmt:=top 71
abbrev eB:Stmt:=top 72
abbrev cw:Stmt:=top 73
abbrev fD:Stmt:=top 74
abbrev eA:Stmt:=top 75
abbrev dY:Stmt:=top 76
abbrev s_law:Stmt:=top 77
section
variable {P:Program}{w:World}{K:PySem.W.Frag}{mg:Str→Option Value}{base:Heap}{C pa:Addr}
theorem mX:az ["prime","hands","few"] ["prime","hands","few"] (ao fG):=⟨rfl,rfl,rfl,by decide +kernel,rfl,by decide +kernel,by decide +kernel⟩
theorem nc (F:Src K mg "is_table" "is_table" fG ["prime","hands","few"]) (T:Pri K mg pa):Ok P w K mg base CX0 1 "is_table" ["prime","hands","few"] spIsT:=by
 refine F.ok mX (fun vs H Q E h=>?_) (fun f cdv A outer s H vs Q E hr h=>?_)
 ·obtain ⟨p,n,f,rfl,_⟩:=h
  rfl
 obtain ⟨p,n,f,rfl,q⟩:=h
 refine ⟨_,(ad (bd (PW.pt (jE (av fj (pv 0) (m4 (v:=.ref _) rfl T.gPRIMES rfl) rfl) (gB (av fj (pv 2) (bX (aa ae (aa ae ac))) rfl))))
   (ah (aA eV))
   aI)
  (ah (aA (pe_and (iR m5 m5 ae (pv 1) ae) (pe_and (hV kL (pv 1) (pv 0) (aH _)) (pe_one (hV kL (aq bG ae (pv 2)) (pv 1) (aH _)))))))),?_⟩
 refine ⟨_,rfl,pa,_,rfl,.inr (T.sq H),rfl,by decide,_,rfl,?_⟩
 refine bi (fun c1=>?_) (fun c1=>?_)
 ·have c1:(!inV (.int p) (primes9.map V.int))=true:=c1
  refine pL ?_
  have e:isTB p n f=false:=by unfold isTB;rw [if_pos c1]
  rw [← e]
  exact q H (Same.refl H)
 have c1:¬ (!inV (.int p) (primes9.map V.int))=true:=c1
 refine ⟨_,rfl,(by show 2≤sizeLine;decide),fun t ht=>?_⟩
 refine ⟨t,_,rfl,.inr (SqT.of upd_same),rfl,by decide,_,rfl,?_⟩
 have s1:Same H (upd H t (.tup [.int 1,.int 2])):=aj ht _
 refine bi (fun c2=>?_) (fun c2=>?_)
 ·have c2:(!inV (.int f) [.int 1,.int 2])=true:=c2
  have e:isTB p n f=false:=by unfold isTB;rw [if_neg c1,if_pos c2]
  have d:=q _ s1
  rw [e] at d
  exact d
 have c2:¬ (!inV (.int f) [.int 1,.int 2])=true:=c2
 have e:isTB p n f=((decide (3≤n) && decide (n≤7)) && (decide (n<p) && decide (2*f<n))):=by unfold isTB;rw [if_neg c1,if_neg c2]
 have d:=q _ s1
 rw [e] at d
 refine ⟨_,rfl,_,_,rfl,rfl,_,rfl,?_⟩
 refine bi (fun c3=>?_) (fun c3=>?_)
 ·refine ⟨_,_,rfl,rfl,_,rfl,?_⟩
  refine bi (fun c4=>?_) (fun c4=>?_)
  ·refine ⟨_,rfl,_,rfl,_,_,rfl,rfl,_,rfl,?_⟩
   refine bi (fun c5=>?_) (fun c5=>?_)
   ·refine ⟨_,rfl,_,_,rfl,rfl,.inl ⟨by decide,by decide⟩,_,rfl,_,_,rfl,rfl,?_⟩
    rw [c3,c4,c5] at d
    exact d
   ·rw [c3,c4,Bool.eq_false_iff.mpr c5] at d
    exact d
  ·rw [c3,Bool.eq_false_iff.mpr c4] at d
   exact d
 ·refine ⟨_,rfl,iteF ?_⟩
  rw [Bool.eq_false_iff.mpr c3] at d
  exact d
theorem kr:az ["self","prime","hands","few"] ["self","prime","hands","few"] (ao fg):=⟨rfl,rfl,rfl,by decide +kernel,rfl,by decide +kernel,by decide +kernel⟩
theorem ok_init {fI:Addr}{fd:FuncData} (F:Fun K "__init__" "Table.__init__" fg fI fd) (T:Tab K C) (O_is_table:Ok P w K mg base CX0 1 "is_table" ["prime","hands","few"] spIsT):iU P w K mg base CX0 2 fI fd ["self","prime","hands","few"] (lG C):=by
 refine F.ok kr (fun vs H Q E h=>?_) (fun cdv A outer s H vs Q E hr h=>?_)
 ·obtain ⟨t,dx,p,n,f,rfl,_⟩:=h
  rfl
 obtain ⟨t,dx,p,n,f,rfl,ht,hok,q⟩:=h
 refine ⟨_,(ad (bd (gD (gC (ak O_is_table hr rfl (aa (pv 1) (aa (pv 2) (aa (pv 3) ac)))) (fun _=>rfl)))
   (ah kD)
   aI)
  (ad (gE (pv 0) (pv 1) rfl)
  (ad (gE (pv 0) (pv 2) rfl)
  (ah (gE (pv 0) (pv 3) rfl))))),?_⟩
 refine ⟨_,rfl,_,rfl,_,rfl,p,n,f,rfl,fun H1 s1=>⟨_,rfl,?_⟩⟩
 rw [hok]
 refine iteF ?_
 refine ⟨_,rfl,_,rfl,t,C,dx,[],rfl,s1 _ _ ht,T.cl,T.nP,(by show 0<1000;decide),?_⟩
 refine ⟨_,rfl,_,rfl,t,C,dx,_,rfl,upd_same,T.cl,T.nH,(by show 1<1000;decide),?_⟩
 refine ⟨_,rfl,_,rfl,t,C,dx,_,rfl,upd_same,T.cl,T.nF,?_,?_⟩
 ·exact Nat.lt_of_le_of_lt (eM _ _ _) (by show 2<1000;decide)
 ·refine q _ (fun b o e hb=>?_) ⟨dx,upd_same⟩
  rw [aB hb,aB hb,aB hb]
  exact s1 _ _ e
theorem sc_worth:az ["table","row","at","total","number"] ["table","row","at"] (ao ku):=⟨rfl,rfl,rfl,by decide +kernel,rfl,by decide +kernel,by decide +kernel⟩
theorem ok_worth (F:Src K mg "worth" "worth" ku ["table","row","at"]) (B:Blt mg) (T:Tab K C):Ok P w K mg base CX0 1 "worth" ["table","row","at"] (i0 K C):=by
 refine F.ok sc_worth (fun vs H Q E h=>?_) (fun f cdv A outer s H vs Q E hr h=>?_)
 ·obtain ⟨t,r,p,n,f,a,ns,rfl,_⟩:=h
  rfl
 obtain ⟨t,r,p,n,f,a,ns,rfl,⟨dx,ht⟩,hp0,hp1,hq,q⟩:=h
 refine ⟨_,(ad (aD (i:=3) sc_worth.nd rfl (Or.inl rfl) ae)
  (ad (bP PassesOwn.never rfl (pi_rev rfl B.reversed (aa (pv 1) ac)) (ar (i:=4) sc_worth.nd rfl (Or.inl rfl))
   (ah (aD (i:=3) sc_worth.nd rfl (Or.inl rfl) (aq aV (aq aX (aq bG (pv 3) (pv 2)) (pv 4)) (aJ (pv 0) rfl)))))
  (ah (aA (pv 3))))),?_⟩
 refine ⟨_,rfl,r,ns.map V.int,rfl,hq,for_rev (xs:=ns.map V.int) (fun i σ H2=>H2=H∧i≤ns.length∧∃ v:Option V,σ=[some (.ref t),some (.ref r),some (.int a),some (.int (bB p (ns.drop (ns.length - i)) a)),v]) ?_ ?_ ?_ ?_⟩
 ·refine ⟨rfl,Nat.zero_le _,none,?_⟩
  rw [Nat.sub_zero,List.drop_length]
  rfl
 ·rintro i σ H2 _ ⟨rfl,_⟩
  exact hq
 ·rintro i x σ H2 hx hi ⟨rfl,hi2,v,rfl⟩
  rw [List.length_map] at hx hi
  obtain ⟨z,rfl,hz⟩:=aT hx
  have hb:=jX hp0 (ns.drop (ns.length - i)) a
  refine ⟨_,rfl,_,rfl,_,_,rfl,rfl,.inl ⟨by omega,by omega⟩,_,rfl,_,_,rfl,rfl,_,rfl,t,C,dx,_,_,rfl,ht,T.cl,T.nP,gW p n f,_,_,rfl,rfl,hp0,?_⟩
  refine ⟨rfl,hi,some (.int z),?_⟩
  have e:ns.drop (ns.length - (i+1))=z::ns.drop (ns.length - i):=by
   rw [show ns.length - (i+1)=ns.length - 1 - i by omega,im hz,show ns.length - 1 - i+1=ns.length - i by omega]
  rw [e]
  rfl
 ·rintro σ H2 ⟨rfl,_,v,rfl⟩
  rw [List.length_map,Nat.sub_self,List.drop_zero]
  exact ⟨_,rfl,q H2 (Same.refl _)⟩
theorem jA:az ["script","k"] ["script","k"] (ao de):=⟨rfl,rfl,rfl,by decide +kernel,rfl,by decide +kernel,by decide +kernel⟩
theorem ok_cell (F:Src K mg "_law_cell_at" "_law_cell_at" de ["script","k"]) (B:Blt mg):Ok P w K mg base CX0 1 "_law_cell_at" ["script","k"] (lI K):=by
 refine F.ok jA (fun vs H Q E h=>?_) (fun f cdv A outer s H vs Q E hr h=>?_)
 ·obtain ⟨a,ns,k,rfl,_⟩:=h
  rfl
 obtain ⟨a,ns,k,rfl,hS,h0,q⟩:=h
 refine ⟨_,(ad (bd (av kL (pv 1) (aN aG rfl B.len PySem.boot_len (aa (pv 0) ac)) (aH _))
   (ah (aA (aK aQ (pv 0) (pv 1) (fun _ _=>rfl))))
   aI)
  (ah (aA ae))),?_⟩
 refine ⟨_,rfl,_,rfl,a,_,rfl,.inl hS,_,_,rfl,rfl,_,rfl,?_⟩
 have d:=q H (Same.refl H)
 unfold bT at d
 refine bi (fun c=>?_) (fun c=>?_)
 ·have c':k<(((ns.map V.int).length:Nat):Int):=of_decide_eq_true c
  rw [List.length_map] at c'
  have hk:k.toNat<ns.length:=by omega
  rw [List.getD_eq_getElem?_getD,List.getElem?_eq_getElem hk] at d
  refine ⟨_,rfl,_,rfl,a,_,_,_,rfl,rfl,hS,?_,d⟩
  have e:atI (ns.map V.int) ((k.toNat:Nat):Int)=some (.int ns[k.toNat]):=jw (by rw [List.getElem?_map,List.getElem?_eq_getElem hk]<;>rfl)
  rw [show ((k.toNat:Nat):Int)=k by omega] at e
  exact e
 ·have c':¬ k<(((ns.map V.int).length:Nat):Int):=of_decide_eq_false (Bool.eq_false_iff.mpr c)
  rw [List.length_map] at c'
  rw [List.getD_eq_getElem?_getD,List.getElem?_eq_none (by omega)] at d
  exact d
theorem oT:az ["cell","k","many"] ["cell","k","many"] (ao gz):=⟨rfl,rfl,rfl,by decide +kernel,rfl,by decide +kernel,by decide +kernel⟩
theorem ok_mix (F:Src K mg "_law_mix" "_law_mix" gz ["cell","k","many"]):Ok P w K mg base CX0 1 "_law_mix" ["cell","k","many"] qe:=by
 refine F.ok oT (fun vs H Q E h=>?_) (fun f cdv A outer s H vs Q E hr h=>?_)
 ·obtain ⟨c,k,m,rfl,_⟩:=h
  rfl
 obtain ⟨c,k,m,rfl,hm,q⟩:=h
 refine ⟨_,(ah (aA (aq aV (aq gd (aq aV (aq bG (aq aX (aq aV (pv 0) ae) ae) (aq aX ae (aq bG ae (pv 1)))) ae) ae) (pv 2)))),?_⟩
 have h0:=Int.emod_nonneg c (show (2147483647:Int)≠0 by decide)
 have h1:=Int.emod_lt_of_pos c (show (0:Int)<2147483647 by decide)
 refine ⟨_,rfl,_,_,rfl,rfl,(by show (0:Int)<2147483647;decide),_,_,rfl,rfl,_,rfl,_,_,rfl,rfl,.inl ⟨by decide,by decide⟩,_,_,rfl,rfl,_,_,rfl,rfl,.inl ⟨by omega,by omega⟩,_,_,rfl,rfl,(by show (0:Int)<1000000007;decide),_,_,rfl,rfl,⟨by decide,by decide⟩,_,rfl,_,_,rfl,rfl,hm,?_⟩
 exact q H (Same.refl H)
theorem sc_law_table_by:az ["cell","prime","hands","few"] ["cell"] (ao cK):=⟨rfl,rfl,rfl,by decide +kernel,rfl,by decide +kernel,by decide +kernel⟩
theorem m7 (F:Src K mg "_law_table_by" "_law_table_by" cK ["cell"]) (B:Blt mg) (O_Table:MkOk P w K mg base CX0 2 "Table" C ["self","prime","hands","few"] (lG C)):Ok P w K mg base CX0 4 "_law_table_by" ["cell"] (lD C):=by
 refine F.ok sc_law_table_by (fun vs H Q E h=>?_) (fun f cdv A outer s H vs Q E hr h=>?_)
 ·obtain ⟨c,rfl,_⟩:=h
  rfl
 obtain ⟨c,rfl,q⟩:=h
 refine ⟨_,(ad (aD (i:=1) sc_law_table_by.nd rfl (Or.inl rfl) (aK aQ (aW (aa ae (aa ae (aa ae (aa ae (aa ae (aa ae (aa ae (aa ae (aa ae ac)))))))))) (aq aV (pv 0) ae) (fun _ _=>rfl)))
  (ad (aD (i:=2) sc_law_table_by.nd rfl (Or.inl rfl) (aq aX ae (aq aV (aq gd (pv 0) ae) (aq bo (aN (rC rfl) rfl B.min PyProof.Rows.boot_min (aa ae (aa (aq bo (pv 1) ae) ac))) ae))))
  (ad (aD (i:=3) sc_law_table_by.nd rfl (Or.inl rfl) ae)
  (ad (bd (PW.pt (pw_and (av op_gt (pv 2) ae (aH _)) (pw_and1 (av bH (aq aV (aq gd (pv 0) ae) ae) ae (aH _)))))
   (ah (aD (i:=3) sc_law_table_by.nd rfl (Or.inl rfl) ae))
   aI)
  (ah (aA (kI O_Table hr rfl (aa (pv 1) (aa (pv 2) (aa (pv 3) ac)))))))))),?_⟩
 have hP:=eX c
 refine ⟨(by show 9≤sizeLine;decide),fun l hl=>⟨_,rfl,_,_,rfl,rfl,(by show (0:Int)<9;decide),l,_,_,.int (tbP c),rfl,rfl,SqL.of upd_same,?_,?_⟩⟩
 ·have h0:=Int.emod_nonneg c (show (9:Int)≠0 by decide)
  have h1:=Int.emod_lt_of_pos c (show (0:Int)<9 by decide)
  have e:atI (primes9.map V.int) (((c%9).toNat:Nat):Int)=some (.int (tbP c)):=jw (by
   have h9:(c%9).toNat<primes9.length:=by show (c%9).toNat<9;omega
   rw [List.getElem?_map,List.getElem?_eq_getElem h9]
   unfold tbP
   rw [List.getD_eq_getElem?_getD,List.getElem?_eq_getElem h9]
   rfl)
  rw [show (((c%9).toNat:Nat):Int)=c%9 by omega] at e
  exact e
 have s1:Same H (upd H l (.lst (primes9.map V.int))):=aj hl _
 have hm:0<(if tbP c - 1<7 then tbP c - 1 else 7) - 2:=by split<;>omega
 refine ⟨_,rfl,_,_,rfl,rfl,⟨by decide,by decide⟩,_,rfl,_,_,rfl,rfl,7,tbP c - 1,rfl,_,_,rfl,rfl,_,_,rfl,rfl,hm,_,_,rfl,rfl,?_⟩
 refine ⟨_,rfl,_,_,rfl,rfl,_,rfl,?_⟩
 have fin:∀ f:Int,f=tbF c→(tMake C (lG C) [] E0 (tCons (tVar 1) (tCons (tVar 2) (tCons (tVar 3) tNil)))) [some (.int c),some (.int (tbP c)),some (.int (tbN c)),some (.int f)] (upd H l (.lst (primes9.map V.int))) Q:=by
  rintro f rfl
  refine ⟨_,rfl,_,rfl,_,rfl,fun x dx hx hdx hne=>?_⟩
  refine ⟨x,dx,_,_,_,rfl,upd_same,isTB_tb c,fun H2 k2 t2=>⟨rfl,?_⟩⟩
  refine q x H2 (s1.trans fun b o e=>?_) ?_ t2
  ·refine k2 b o ?_ (aw e hx)
   rw [aB (aw e hx),aB (aw e hdx)]
   exact e
  ·exact s1.free hx
 refine bi (fun c1=>?_) (fun c1=>?_)
 ·have c1':4<tbN c:=of_decide_eq_true c1
  refine ⟨_,rfl,_,_,rfl,rfl,⟨by decide,by decide⟩,_,_,rfl,rfl,(by show (0:Int)<2;decide),rfl,_,rfl,?_⟩
  refine bi (fun c2=>?_) (fun c2=>?_)
  ·have c2':V.int (c / 45%2)=V.int 1:=of_decide_eq_true c2
   injection c2' with c2'
   exact fin 2 (by unfold tbF;rw [if_pos c1',if_pos c2'])
  ·have c2':¬ V.int (c / 45%2)=V.int 1:=of_decide_eq_false (Bool.eq_false_iff.mpr c2)
   exact fin 1 (by unfold tbF;rw [if_pos c1',if_neg fun z=>c2' (congrArg V.int z)])
 ·have c1':¬ 4<tbN c:=of_decide_eq_false (Bool.eq_false_iff.mpr c1)
  refine iteF ?_
  exact fin 1 (by unfold tbF;rw [if_neg c1'])
end
section
variable {P:Program}{w:World}{K:PySem.W.Frag}{mg:Str→Option Value}{base:Heap}{C pa:Addr}
theorem sc_back:az ["table","number","other"] ["table","number"] (ao nV):=⟨rfl,rfl,rfl,by decide +kernel,rfl,by decide +kernel,by decide +kernel⟩
theorem back_at {p x:Int}{i:Nat} (hi:(1+(i:Int))<p) (h:x*(1+(i:Int))%p=1) (hn:∀ j:Nat,j<i→x*(1+(j:Int))%p≠1):bw p x=1+(i:Int):=by
 unfold bw
 have e:((List.range (p - 1).toNat).map fun i:Nat=>1+(i:Int)).find? (fun o=>decide (x*o%p=1))=some (1+(i:Int)):=by
  rw [List.find?_map,Option.map_eq_some_iff]
  refine ⟨i,?_,rfl⟩
  rw [List.find?_range_eq_some]
  refine ⟨?_,List.mem_range.mpr (by omega),fun j hj=>?_⟩
  ·exact decide_eq_true h
  ·simpa using hn j hj
 rw [e]
 rfl
theorem ok_back (F:Src K mg "back" "back" nV ["table","number"]) (B:Blt mg) (T:Tab K C):Ok P w K mg base CX0 1 "back" ["table","number"] (nO C):=by
 refine F.ok sc_back (fun vs H Q E h=>?_) (fun f cdv A outer s H vs Q E hr h=>?_)
 ·obtain ⟨t,p,n,f,x,rfl,_⟩:=h
  rfl
 obtain ⟨t,p,n,f,x,rfl,⟨dx,ht⟩,hp,hxb,hx0,q⟩:=h
 have p5:=m3 hp
 refine ⟨_,(ad (bP PassesOwn.never rfl (dN rfl B.range (aa ae (aa (aJ (pv 0) rfl) ac))) (ar (i:=2) sc_back.nd rfl (Or.inl rfl))
   (ah (bd (av bH (aq aV (aq bG (pv 1) (pv 2)) (aJ (pv 0) rfl)) ae (aH _))
   (ah (aA (pv 2)))
   aI)))
  (ah kD)),?_⟩
 refine ⟨_,rfl,t,C,dx,_,_,rfl,ht,T.cl,T.nP,gW _ _ _,_,_,rfl,⟨by decide,by decide,by omega,by omega⟩,gL (fun i σ H2=>H2=H∧(∃ v:Option V,σ=[some (.ref t),some (.int x),v])∧∀ j:Nat,j<i→x*(1+(j:Int))%p≠1) ⟨rfl,⟨none,rfl⟩,fun j hj=>absurd hj (Nat.not_lt_zero j)⟩ ?_ ?_⟩
 ·rintro i σ H2 hi ⟨rfl,⟨v,rfl⟩,hn⟩
  refine ⟨_,rfl,_,rfl,_,_,rfl,rfl,.inl ⟨by omega,by omega⟩,_,rfl,t,C,dx,_,_,rfl,ht,T.cl,T.nP,gW _ _ _,_,_,rfl,rfl,by omega,rfl,_,rfl,?_⟩
  refine bi (fun c=>?_) (fun c=>?_)
  ·have c':V.int (x*(1+(i:Int))%p)=V.int 1:=of_decide_eq_true c
   injection c' with c'
   refine ⟨_,rfl,?_⟩
   have d:=q H2 (Same.refl _)
   rw [back_at (by omega) c' hn] at d
   exact d
  ·have c':¬ V.int (x*(1+(i:Int))%p)=V.int 1:=of_decide_eq_false (Bool.eq_false_iff.mpr c)
   refine ⟨rfl,⟨_,rfl⟩,fun j hj=>?_⟩
   rcases Nat.lt_succ_iff_lt_or_eq.mp hj with z | z
   ·exact hn j z
   ·rw [z]
    exact fun e=>c' (congrArg V.int e)
 ·rintro σ H2 ⟨rfl,⟨v,rfl⟩,hn⟩
  have hb:=eQ hp (x:=x) (by rw [Int.emod_eq_of_lt hxb.1 hxb.2];exact hx0)
  have:=hn (bw p x - 1).toNat (by omega)
  rw [show 1+((bw p x - 1).toNat:Int)=bw p x by omega] at this
  exact absurd hb.2 this
theorem sc_refuse_alike:az ["table","points","places"] ["table","points"] (ao cJ):=⟨rfl,rfl,rfl,by decide +kernel,rfl,by decide +kernel,by decide +kernel⟩
theorem ok_alike (F:Src K mg "refuse_alike" "refuse_alike" cJ ["table","points"]) (B:Blt mg) (T:Tab K C):Ok P w K mg base CX0 1 "refuse_alike" ["table","points"] (mU C):=by
 refine F.ok sc_refuse_alike (fun vs H Q E h=>?_) (fun f cdv A outer s H vs Q E hr h=>?_)
 ·obtain ⟨t,r,p,n,f,rs,qs,rfl,_⟩:=h
  rfl
 obtain ⟨t,r,p,n,f,rs,qs,rfl,⟨dx,ht⟩,hp,hr1,hpt,hql,nd,q⟩:=h
 have p5:=m3 hp
 refine ⟨_,(ad (bD 2 ["point"] [("table",0)] sc_refuse_alike.nd  (bn (pv 1)) rfl (fun C s0 H0 ex=>by exact (ar (i:=0) (show List.Nodup [("point":Str),"table"] by decide +kernel) rfl (Or.inl rfl))) (fun C s0 H0 ex=>by exact aZ) (fun C s0 H0 ex=>by exact (aq aV (aK (jp K) (pv 0) ae (fun _ _=>rfl)) (cX K (pv 1) rfl))))
  (ah (bd (av kL (aN rD rfl B.len PySem.boot_len (aa (jf (rB rfl) rfl B.set PyProof.Rows.boot_set (aa (pv 2) ac)) ac)) (aN aG rfl B.len PySem.boot_len (aa (pv 2) ac)) (aH _))
   (ah kD)
   aI))),?_⟩
 refine ⟨_,rfl,r,rfl,⟨_,SqL.of hr1⟩,fun D hD=>?_⟩
 refine bv (K:=K) (a:=r) (xs:=rs) (fun i ys H2=>i≤qs.length∧ys=((qs.take i).map fun q=>q.1%p).map V.int∧Same H H2) ⟨Nat.zero_le _,rfl,am (Same.refl _) hD⟩ ?_ ?_ ?_
 ·rintro i ys H2 _ ⟨_,_,s2⟩
  exact SqL.of (s2 _ _ hr1)
 ·rintro i x ys H2 hx ⟨_,rfl,s2⟩ hD2
  obtain ⟨a,z,rfl,hz,hq⟩:=(hpt.same s2).get hx
  refine ⟨⟨rfl,rfl⟩,?_⟩
  refine ⟨_,rfl,a,_,_,.int z.1,rfl,rfl,SqT.of hz,rfl,_,rfl,t,C,dx,_,_,rfl,s2 _ _ ht,T.cl,T.nP,gW _ _ _,_,_,rfl,rfl,by omega,hD2,?_,?_,?_,am s2 hD⟩
  ·rw [List.length_map,List.length_map,List.length_take]
   exact au (by omega)
  ·exact (List.getElem?_eq_some_iff.mp hq).1
  ·rw [← cO hq,List.map_append,List.map_append]
   rfl
 ·rintro ys H2 ⟨_,rfl,s2⟩ hD2
  have hl:rs.length=qs.length:=Paired.length hpt
  rw [hl,List.take_length] at hD2
  have nl:(qs.map fun q=>q.1%p).length=qs.length:=List.length_map _
  refine ⟨_,rfl,D,_,rfl,SqL.of hD2,by omega,fun u hu=>?_⟩
  refine ⟨u,_,_,rfl,upd_same,?_,?_⟩
  ·rw [fT nd]
   omega
  refine ⟨_,rfl,D,_,rfl,.inl (SqL.of (aj hu _ _ _ hD2)),_,_,rfl,rfl,_,rfl,?_⟩
  rw [fT nd,List.length_map]
  refine bi (fun c=>?_) (fun c=>?_)
  ·have c':=of_decide_eq_true c
   rw [List.length_map,nl] at c'
   exact absurd c' (Int.lt_irrefl _)
  ·exact q _ (s2.trans (aj hu _))
theorem gZ:az ["table","row","at"] ["table","row","at"] (ao bY):=⟨rfl,rfl,rfl,by decide +kernel,rfl,by decide +kernel,by decide +kernel⟩
theorem qu (F:Src K mg "with_nought_at" "with_nought_at" bY ["table","row","at"]) (B:Blt mg) (T:Tab K C):Ok P w K mg base CX0 1 "with_nought_at" ["table","row","at"] (kf C):=by
 refine F.ok gZ (fun vs H Q E h=>?_) (fun f cdv A outer s H vs Q E hr h=>?_)
 ·obtain ⟨t,r,p,n,f,x,ss,rfl,_⟩:=h
  rfl
 obtain ⟨t,r,p,n,f,x,ss,rfl,⟨dx,ht⟩,hp,hr1,hsl,hsb,q⟩:=h
 have p5:=m3 hp
 refine ⟨_,(ah (aA (bt ["before","here"] [("table",0),("at",2)]  (gF rfl B.zip (aa (aq eS (aW (aa ae ac)) (pv 1)) (aa (aq eS (pv 1) (aW (aa ae ac))) ac))) rfl (fun C s0 H0 ex=>by exact (du K 2 rfl (aE (ar (i:=0) (show List.Nodup [("before":Str),"here","table","at"] by decide +kernel) rfl (Or.inl rfl)) (aE (ar (i:=1) (show List.Nodup [("before":Str),"here","table","at"] by decide +kernel) rfl (Or.inl rfl)) bF)))) (fun C s0 H0 ex=>by exact aZ) (fun C s0 H0 ex=>by exact (aq aV (aq bo (pv 0) (aq bG (pv 3) (pv 1))) (cX K (pv 2) rfl)))))),?_⟩
 have z1:1+(ss.map V.int).length≤sizeLine:=by rw [List.length_map];exact small (by omega)
 have z2:(ss.map V.int).length+1≤sizeLine:=by rw [List.length_map];exact small (by omega)
 refine ⟨(by show 1≤sizeLine;decide),fun l1 h1=>?_⟩
 have s1:=aj h1 (.lst [.int 0])
 refine ⟨_,rfl,l1,r,_,_,rfl,rfl,upd_same,s1 _ _ hr1,z1,fun l2 h2=>?_⟩
 have s2:=s1.trans (aj h2 (.lst ([.int 0]++ss.map V.int)))
 have e2:(upd (upd H l1 (.lst [.int 0])) l2 (.lst ([.int 0]++ss.map V.int))) l2=some (.lst ((0::ss).map V.int)):=upd_same
 generalize upd (upd H l1 (.lst [.int 0])) l2 (.lst ([.int 0]++ss.map V.int))=H2 at s2 e2
 refine ⟨_,rfl,(by show 1≤sizeLine;decide),fun l3 h3=>?_⟩
 have s3:=aj h3 (.lst [.int 0])
 refine ⟨r,l3,_,_,rfl,rfl,s3 _ _ (s2 _ _ hr1),upd_same,z2,fun l4 h4=>?_⟩
 have s4:Same H2 (upd (upd H2 l3 (.lst [.int 0])) l4 (.lst (ss.map V.int++[.int 0]))):=s3.trans (aj h4 _)
 have e4:(upd (upd H2 l3 (.lst [.int 0])) l4 (.lst (ss.map V.int++[.int 0]))) l4=some (.lst ((ss++[0]).map V.int)):=by rw [upd_same,List.map_append];rfl
 generalize upd (upd H2 l3 (.lst [.int 0])) l4 (.lst (ss.map V.int++[.int 0]))=H4 at s4 e4
 refine ⟨l2,l4,_,_,rfl,SqL.of (s4 _ _ e2),SqL.of e4,fun D hD=>?_⟩
 refine dC (K:=K) (a:=l2) (b:=l4) (xs:=(0::ss).map V.int) (zs:=(ss++[0]).map V.int) (fun i ys H5=>ys=((dI p x ss).take i).map V.int∧Same H4 H5) ⟨rfl,am (Same.refl _) hD⟩ ?_ ?_ ?_
 ·rintro i ys H5 ⟨_,s5⟩
  exact ⟨SqL.of (s5 _ _ (s4 _ _ e2)),SqL.of (s5 _ _ e4)⟩
 ·rintro i u v ys H5 c hu hv ⟨rfl,s5⟩ hD5 hc
  obtain ⟨u,rfl,hu'⟩:=aT hu
  obtain ⟨v,rfl,hv'⟩:=aT hv
  have hvb:0≤v∧v<p:=by
   rcases List.mem_append.mp (List.mem_of_getElem? hv') with z | z
   ·exact hsb v z
   ·have:v=0:=by simpa using z
    omega
  have s6:=s5.trans (aj hc (.tup [.int u,.int v]))
  have hn:(dI p x ss)[i]?=some ((u - x*v)%p):=pO hu' hv'
  refine ⟨c,_,rfl,SqT.of upd_same,rfl,_,_,rfl,_,_,rfl,rfl,⟨rfl,rfl⟩,?_⟩
  refine ⟨_,rfl,_,rfl,_,rfl,_,_,rfl,rfl,.inr ⟨by omega,by omega⟩,_,_,rfl,rfl,_,rfl,t,C,dx,_,_,rfl,s6 _ _ (s4 _ _ (s2 _ _ ht)),T.cl,T.nP,gW _ _ _,_,_,rfl,rfl,by omega,?_,?_,?_,am s6 hD⟩
  ·exact aj hc _ _ _ hD5
  ·rw [List.length_map,List.length_take,ic]
   exact au (by omega)
  ·rw [← cO hn,List.map_append]
   rfl
 ·rintro ys H5 ⟨rfl,s5⟩ hD5
  have e:min ((0::ss).map V.int).length ((ss++[0]).map V.int).length=(dI p x ss).length:=by rw [List.length_map,List.length_map,ic];simp
  rw [e,List.take_length] at hD5
  exact q D H5 (s2.trans (s4.trans s5)) (s2.free (s4.free hD)) hD5
theorem sc_through:az ["table","points","row","still","x","y","times"] ["table","points"] (ao gy):=⟨rfl,rfl,rfl,by decide +kernel,rfl,by decide +kernel,by decide +kernel⟩
theorem oZ (F:Src K mg "through" "through" gy ["table","points"]) (B:Blt mg) (T:Tab K C) (O_refuse_alike:Ok P w K mg base CX0 1 "refuse_alike" ["table","points"] (mU C)) (O_worth:Ok P w K mg base CX0 1 "worth" ["table","row","at"] (i0 K C))
  (O_back:Ok P w K mg base CX0 1 "back" ["table","number"] (nO C)) (O_with_nought_at:Ok P w K mg base CX0 1 "with_nought_at" ["table","row","at"] (kf C)):Ok P w K mg base CX0 2 "through" ["table","points"] (i5 C):=by
 refine F.ok sc_through (fun vs H Q E h=>?_) (fun f cdv A outer s H vs Q E hr h=>?_)
 ·obtain ⟨t,r,p,n,f,rs,qs,rfl,_⟩:=h
  rfl
 obtain ⟨t,r,p,n,f,rs,qs,rfl,T1,hp,hr1,hpt,hql,nd,q⟩:=h
 have p5:=m3 hp
 refine ⟨_,(ad (bc (ak O_refuse_alike hr rfl (aa (pv 0) (aa (pv 1) ac))))
  (ad (aD (i:=2) sc_through.nd rfl (Or.inl rfl) (aW ac))
  (ad (aD (i:=3) sc_through.nd rfl (Or.inl rfl) (aW (aa ae ac)))
  (ad (bP PassesOwn.never rfl (bn (pv 1)) (fS rfl (aE (ar (i:=4) sc_through.nd rfl (Or.inl rfl)) (aE (ar (i:=5) sc_through.nd rfl (Or.inl rfl)) bF)))
   (ad (aD (i:=6) sc_through.nd rfl (Or.inr rfl) (aq bG (aq bo (pv 5) (ak O_worth hr rfl (aa (pv 0) (aa (pv 2) (aa (pv 4) ac))))) (ak O_back hr rfl (aa (pv 0) (aa (ak O_worth hr rfl (aa (pv 0) (aa (pv 3) (aa (pv 4) ac)))) ac)))))
  (ad (bD 2 ["old","new"] [("table",0),("times",6)] sc_through.nd  (gF rfl B.zip (aa (aq eS (pv 2) (aW (aa ae ac))) (aa (pv 3) ac))) rfl (fun C s0 H0 ex=>by exact (du K 2 rfl (aE (ar (i:=0) (show List.Nodup [("old":Str),"new","table","times"] by decide +kernel) rfl (Or.inl rfl)) (aE (ar (i:=1) (show List.Nodup [("old":Str),"new","table","times"] by decide +kernel) rfl (Or.inl rfl)) bF)))) (fun C s0 H0 ex=>by exact aZ) (fun C s0 H0 ex=>by exact (aq aV (aq aX (pv 0) (aq bG (pv 3) (pv 1))) (cX K (pv 2) rfl))))
  (ah (aD (i:=3) sc_through.nd rfl (Or.inl rfl) (ak O_with_nought_at hr rfl (aa (pv 0) (aa (pv 3) (aa (pv 4) ac)))))))))
  (ah (aA (pv 2))))))),?_⟩
 refine ⟨_,rfl,_,rfl,t,r,p,n,f,rs,qs,rfl,T1,hp,hr1,hpt,by omega,nd,fun H1 s1=>?_⟩
 refine ⟨(by show 0≤sizeLine;decide),fun la hla=>?_⟩
 refine ⟨(by show 1≤sizeLine;decide),fun lb hlb=>?_⟩
 have sb:Same H1 (upd (upd H1 la (.lst [])) lb (.lst [.int 1])):=(aj hla _).trans (aj hlb _)
 refine ⟨_,rfl,r,rfl,⟨_,SqL.of (sb _ _ (s1 _ _ hr1))⟩,b8 (K:=K) (a:=r) (xs:=rs) (fun i σ H2=>∃ (l1 l2:Addr) (v4 v5 v6:Option V),σ=[some (.ref t),some (.ref r),some (.ref l1),some (.ref l2),v4,v5,v6]∧Same H H2∧H l1=none ∧
  H2 l1=some (.lst ((cZ p (qs.take i)).1.map V.int))∧H2 l2=some (.lst ((cZ p (qs.take i)).2.map V.int))) ?_ ?_ ?_ ?_⟩
 ·refine ⟨la,lb,none,none,none,rfl,s1.trans sb,s1.free hla,?_,upd_same⟩
  rw [aB (fun z=>?_),upd_same]
  ·rfl
  ·rw [z,upd_same] at hlb
   cases hlb
 ·rintro i σ H2 _ ⟨l1,l2,v4,v5,v6,_,s2,_⟩
  exact SqL.of (s2 _ _ hr1)
 ·rintro i v σ H2 hv ⟨l1,l2,v4,v5,v6,rfl,s2,f1,e1,e2⟩
  obtain ⟨a,⟨x,y⟩,rfl,ha,hq⟩:=(hpt.same s2).get hv
  have hiq:i<qs.length:=(List.getElem?_eq_some_iff.mp hq).1
  have hsplit:qs=qs.take i++(x,y)::qs.drop (i+1):=by rw [← im hq,List.take_append_drop]
  have ndi:((qs.take i).map fun q=>q.1%p).Nodup:=by
   rw [hsplit,List.map_append] at nd
   exact (List.nodup_append.mp nd).1
  have hdiff:∀ q∈qs.take i,x%p≠q.1%p:=fun q hm z=>by
   rw [hsplit,List.map_append] at nd
   exact (List.nodup_append.mp nd).2.2 (q.1%p) (List.mem_map.mpr ⟨q,hm,rfl⟩) (x%p) (List.mem_map.mpr ⟨(x,y),List.mem_cons_self,rfl⟩) z.symm
  have ok:=oO hp ndi
  have hstep:cZ p (qs.take (i+1))=lA p (cZ p (qs.take i)) (x,y):=by
   unfold cZ
   rw [← cO hq,List.foldl_append]
   rfl
  generalize hrs:cZ p (qs.take i)=rs2 at e1 e2 ok hstep
  have lt:(qs.take i).length=i:=by rw [List.length_take];omega
  have l1':=ok.l1
  have l2':=ok.l2
  rw [lt] at l1' l2'
  refine ⟨a,_,rfl,SqT.of ha,rfl,_,_,rfl,_,_,rfl,rfl,?_⟩
  refine ⟨_,rfl,_,rfl,_,rfl,_,rfl,t,l1,p,n,f,x,rs2.1,rfl,T1.same s2,by omega,p5.2,SqL.of e1,fun H3 s3=>?_⟩
  refine ⟨_,_,rfl,rfl,_,rfl,_,rfl,_,rfl,_,rfl,t,l2,p,n,f,x,rs2.2,rfl,(T1.same s2).same s3,by omega,p5.2,SqL.of (s3 _ _ e2),fun H4 s4=>?_⟩
  have wb:=jX (show 0<p by omega) rs2.2 x
  have wn:bB p rs2.2 x≠0:=by
   rw [cD]
   exact ok.non x hdiff
  refine ⟨t,p,n,f,_,rfl,((T1.same s2).same s3).same s4,hp,wb,wn,fun H5 s5=>?_⟩
  have bk:=eQ hp (x:=bB p rs2.2 x) (by rw [Int.emod_eq_of_lt wb.1 wb.2];exact wn)
  refine ⟨_,_,rfl,rfl,.inr ⟨by omega,by omega⟩,?_⟩
  dsimp only
  generalize htm:(y - bB p rs2.1 x)*bw p (bB p rs2.2 x)=tm
  have s25:Same H2 H5:=s3.trans (s4.trans s5)
  refine ⟨_,rfl,(by show 1≤sizeLine;decide),fun l3 h3=>?_⟩
  have s6:=aj h3 (.lst [.int 0])
  refine ⟨l1,l3,_,_,rfl,rfl,s6 _ _ (s25 _ _ e1),upd_same,?_,fun l4 h4=>?_⟩
  ·rw [List.length_map,List.length_singleton]
   exact small (by omega)
  have s7:Same H5 (upd (upd H5 l3 (.lst [.int 0])) l4 (.lst (rs2.1.map V.int++[.int 0]))):=s6.trans (aj h4 _)
  have e7:(upd (upd H5 l3 (.lst [.int 0])) l4 (.lst (rs2.1.map V.int++[.int 0]))) l4=some (.lst ((rs2.1++[0]).map V.int)):=by rw [upd_same,List.map_append];rfl
  generalize upd (upd H5 l3 (.lst [.int 0])) l4 (.lst (rs2.1.map V.int++[.int 0]))=H7 at s7 e7
  have s27:=s25.trans s7
  refine ⟨_,rfl,l4,l2,_,_,rfl,SqL.of e7,SqL.of (s27 _ _ e2),fun D hD=>?_⟩
  obtain ⟨dx,ht⟩:=T1.same (s2.trans s27)
  refine dC (K:=K) (a:=l4) (b:=l2) (xs:=(rs2.1++[0]).map V.int) (zs:=rs2.2.map V.int) (fun j ys H8=>ys=((kW p tm (rs2.1++[0]) rs2.2).take j).map V.int∧Same H7 H8) ⟨rfl,am (Same.refl _) hD⟩ ?_ ?_ ?_
  ·rintro j ys H8 ⟨_,s8⟩
   exact ⟨SqL.of (s8 _ _ e7),SqL.of (s8 _ _ (s27 _ _ e2))⟩
  ·rintro j u v ys H8 c hu hv ⟨rfl,s8⟩ hD8 hc
   obtain ⟨u,rfl,hu'⟩:=aT hu
   obtain ⟨v,rfl,hv'⟩:=aT hv
   have hvb:=ok.b2 v (List.mem_of_getElem? hv')
   have s9:=s8.trans (aj hc (.tup [.int u,.int v]))
   have hn:(kW p tm (rs2.1++[0]) rs2.2)[j]?=some ((u+tm*v)%p):=pO hu' hv'
   refine ⟨c,_,rfl,SqT.of upd_same,rfl,_,_,rfl,_,_,rfl,rfl,⟨rfl,rfl⟩,?_⟩
   refine ⟨_,rfl,_,rfl,_,rfl,_,_,rfl,rfl,.inr ⟨by omega,by omega⟩,_,_,rfl,rfl,_,rfl,t,C,dx,_,_,rfl,s9 _ _ ht,T.cl,T.nP,gW _ _ _,_,_,rfl,rfl,by omega,?_,?_,?_,am s9 hD⟩
   ·exact aj hc _ _ _ hD8
   ·rw [List.length_map,List.length_take,gS]
    exact au (by simp;omega)
   ·rw [← cO hn,List.map_append]
    rfl
  rintro ys H8 ⟨rfl,s8⟩ hD8
  have e:min ((rs2.1++[0]).map V.int).length (rs2.2.map V.int).length=(kW p tm (rs2.1++[0]) rs2.2).length:=by rw [List.length_map,List.length_map,gS]
  rw [e,List.take_length] at hD8
  have s28:=s27.trans s8
  refine ⟨_,rfl,_,rfl,_,rfl,t,l2,p,n,f,x,rs2.2,rfl,T1.same (s2.trans s28),hp,s28 _ _ e2,by omega,ok.b2,fun l5 H9 s9 h50 h59=>?_⟩
  refine ⟨D,l5,_,_,_,rfl,s2.trans (s28.trans s9),s2.free (s27.free hD),?_,?_⟩
  ·rw [hstep]
   have:(lA p rs2 (x,y)).1=kW p tm (rs2.1++[0]) rs2.2:=by rw [← htm];rfl
   rw [this]
   exact s9 _ _ hD8
  ·rw [hstep]
   exact h59
 ·rintro σ H2 ⟨l1,l2,v4,v5,v6,rfl,s2,f1,e1,e2⟩
  have hl:rs.length=qs.length:=Paired.length hpt
  rw [hl,List.take_length] at e1
  exact ⟨_,rfl,q l1 H2 s2 f1 e1⟩
end
section
variable {P:Program}{w:World}{K:PySem.W.Frag}{mg:Str→Option Value}{base:Heap}{C pa:Addr}
theorem sc_weight:az ["table","hand","points"] ["table","hand"] (ao iP):=⟨rfl,rfl,rfl,by decide +kernel,rfl,by decide +kernel,by decide +kernel⟩
theorem qo (F:Src K mg "weight" "weight" iP ["table","hand"]) (B:Blt mg) (T:Tab K C) (O_worth:Ok P w K mg base CX0 1 "worth" ["table","row","at"] (i0 K C)) (O_through:Ok P w K mg base CX0 2 "through" ["table","points"] (i5 C)):Ok P w K mg base CX0 3 "weight" ["table","hand"] (j4 C):=by
 refine F.ok sc_weight (fun vs H Q E h=>?_) (fun f cdv A outer s H vs Q E hr h=>?_)
 ·obtain ⟨t,p,n,f,h,rfl,_⟩:=h
  rfl
 obtain ⟨t,p,n,f,h,rfl,T1,hp,hn0,hn7,hnp,q⟩:=h
 have p5:=m3 hp
 obtain ⟨dx,ht⟩:=id T1
 refine ⟨_,(ad (bD 2 ["other"] [("hand",1)] sc_weight.nd  (dN rfl B.range (aa ae (aa (aq aX (aJ (pv 0) rfl) ae) ac))) rfl (fun C s0 H0 ex=>by exact (ar (i:=0) (show List.Nodup [("other":Str),"hand"] by decide +kernel) rfl (Or.inl rfl))) (fun C s0 H0 ex=>by exact aZ) (fun C s0 H0 ex=>by exact (bX (aa (pv 0) (aa (kJ (av bH (pv 0) (pv 1) (aH _)) ae ae) ac)))))
  (ah (aA (ak O_worth hr rfl (aa (pv 0) (aa (ak O_through hr rfl (aa (pv 0) (aa (pv 2) ac))) (aa ae ac))))))),?_⟩
 refine ⟨_,rfl,t,C,dx,_,_,rfl,ht,T.cl,T.nH,kX _ _ _,_,_,rfl,rfl,_,_,rfl,⟨by decide,by decide,by omega,by omega⟩,fun D hD=>?_⟩
 refine bS (fun i ys H2=>i≤n.toNat∧PtsAt H2 ys (pJ i h)∧ys.length=i∧Same H H2) ⟨Nat.zero_le _,.nil,rfl,am (Same.refl _) hD⟩ ?_ ?_
 ·rintro i ys H2 hi ⟨_,hpt,hyl,s2⟩ hD2
  have hi':i<n.toNat:=by omega
  have fin:∀ (y:Int) (c:Addr),y=(if 1+(i:Int)=h then 1 else 0)→H2 c=none→(upd H2 c (.tup [.int (1+(i:Int)),.int y])) D=some (.lst ys)∧ys.length<sizeLine∧i+1≤n.toNat ∧
    PtsAt (L2.upd (upd H2 c (.tup [.int (1+(i:Int)),.int y])) D (.lst (ys++[.ref c]))) (ys++[.ref c]) (pJ (i+1) h)∧(ys++[V.ref c]).length=i+1∧Same H (L2.upd (upd H2 c (.tup [.int (1+(i:Int)),.int y])) D (.lst (ys++[.ref c]))):=by
   rintro y c rfl hc
   have s3:=aj hc (.tup [.int (1+(i:Int)),.int (if 1+(i:Int)=h then 1 else 0)])
   have hD3:=s3 _ _ hD2
   refine ⟨hD3,by rw [hyl];exact au (by omega),hi',?_,by rw [List.length_append,hyl];rfl,am (s2.trans s3) hD⟩
   rw [← pP]
   exact PtsAt.upd hD3 (PtsAt.snoc (hpt.same s3) upd_same)
  refine ⟨⟨rfl,rfl⟩,?_⟩
  refine ⟨_,rfl,_,rfl,_,rfl,rfl,_,rfl,?_⟩
  refine bi (fun c1=>?_) (fun c1=>?_)
  ·have c1':V.int (1+(i:Int))=V.int h:=of_decide_eq_true c1
   injection c1' with c1'
   exact ⟨(by show 2≤sizeLine;decide),fun c hc=>fin 1 c (by rw [if_pos c1']) hc⟩
  ·have c1':¬ V.int (1+(i:Int))=V.int h:=of_decide_eq_false (Bool.eq_false_iff.mpr c1)
   exact ⟨(by show 2≤sizeLine;decide),fun c hc=>fin 0 c (by rw [if_neg fun z=>c1' (congrArg V.int z)]) hc⟩
 ·rintro ys H2 ⟨_,hpt,hyl,s2⟩ hD2
  rw [show (n+1 - 1).toNat=n.toNat by omega] at hpt
  refine ⟨_,rfl,_,rfl,_,rfl,t,D,p,n,f,ys,pJ n.toNat h,rfl,T1.same s2,hp,hD2,hpt,by rw [wpts_len];omega,oJ h (by omega),fun r H3 s3 hr0 hr3=>?_⟩
  refine ⟨t,r,p,n,f,0,j1 p (pJ n.toNat h),rfl,T1.same (s2.trans s3),by omega,p5.2,SqL.of hr3,fun H4 s4=>?_⟩
  exact q H4 (s2.trans (s3.trans s4))
theorem oQ:az ["table"] ["table"] (ao gw):=⟨rfl,rfl,rfl,by decide +kernel,rfl,by decide +kernel,by decide +kernel⟩
theorem oX (F:Src K mg "weights" "weights" gw ["table"]) (B:Blt mg) (T:Tab K C) (O_weight:Ok P w K mg base CX0 3 "weight" ["table","hand"] (j4 C)):Ok P w K mg base CX0 4 "weights" ["table"] (i3 C):=by
 refine F.ok oQ (fun vs H Q E h=>?_) (fun f cdv A outer s H vs Q E hr h=>?_)
 ·obtain ⟨t,p,n,f,rfl,_⟩:=h
  rfl
 obtain ⟨t,p,n,f,rfl,T1,hp,hn0,hn7,hnp,q⟩:=h
 obtain ⟨dx,ht⟩:=id T1
 refine ⟨_,(ah (aA (bt ["hand"] [("table",0)]  (dN rfl B.range (aa ae (aa (aq aX (aJ (pv 0) rfl) ae) ac))) rfl (fun C s0 H0 ex=>by exact (ar (i:=0) (show List.Nodup [("hand":Str),"table"] by decide +kernel) rfl (Or.inl rfl))) (fun C s0 H0 ex=>by exact aZ) (fun C s0 H0 ex=>by exact (ak O_weight hr rfl (aa (pv 1) (aa (pv 0) ac))))))),?_⟩
 refine ⟨_,rfl,t,C,dx,_,_,rfl,ht,T.cl,T.nH,kX _ _ _,_,_,rfl,rfl,_,_,rfl,⟨by decide,by decide,by omega,by omega⟩,fun D hD=>?_⟩
 refine bS (fun i ys H2=>i≤n.toNat∧ys=((List.range i).map fun j:Nat=>mJ p n.toNat (1+(j:Int))).map V.int∧Same H H2) ⟨Nat.zero_le _,rfl,am (Same.refl _) hD⟩ ?_ ?_
 ·rintro i ys H2 hi ⟨_,rfl,s2⟩ hD2
  have hi':i<n.toNat:=by omega
  refine ⟨⟨rfl,rfl⟩,?_⟩
  refine ⟨_,rfl,_,rfl,t,p,n,f,_,rfl,T1.same s2,hp,hn0,hn7,hnp,fun H3 s3=>⟨s3 _ _ hD2,?_,hi',?_,am (s2.trans s3) hD⟩⟩
  ·rw [List.length_map,List.length_map,List.length_range]
   exact au (by omega)
  ·rw [← map_take,List.map_append]
   rfl
 ·rintro ys H2 ⟨_,rfl,s2⟩ hD2
  rw [show (n+1 - 1).toNat=n.toNat by omega] at hD2
  exact q D H2 s2 hD hD2
end
section
variable {P:Program}{w:World}{K:PySem.W.Frag}{mg:Str→Option Value}{base:Heap}{C pa:Addr}
theorem sc_dealt:az ["table","number","chance","row"] ["table","number","chance"] (ao kA):=⟨rfl,rfl,rfl,by decide +kernel,rfl,by decide +kernel,by decide +kernel⟩
theorem ok_dealt (F:Src K mg "dealt" "dealt" kA ["table","number","chance"]) (B:Blt mg) (T:Tab K C) (O_worth:Ok P w K mg base CX0 1 "worth" ["table","row","at"] (i0 K C)):Ok P w K mg base CX0 2 "dealt" ["table","number","chance"] (mT C):=by
 refine F.ok sc_dealt (fun vs H Q E h=>?_) (fun f cdv A outer s H vs Q E hr h=>?_)
 ·obtain ⟨t,r,p,n,f,x,cs,rfl,_⟩:=h
  rfl
 obtain ⟨t,r,p,n,f,x,cs,rfl,T1,hp0,hp1,hn0,hn1,hr1,hcs,q⟩:=h
 refine ⟨_,(ad (aD (i:=3) sc_dealt.nd rfl (Or.inr rfl) (aq eS (aW (aa (pv 1) ac)) (pv 2)))
  (ah (aA (bt ["hand"] [("table",0),("row",3)]  (dN rfl B.range (aa ae (aa (aq aX (aJ (pv 0) rfl) ae) ac))) rfl (fun C s0 H0 ex=>(ar (i:=0) (show List.Nodup [("hand":Str),"table","row"] by decide +kernel) rfl (Or.inl rfl))) (fun C s0 H0 ex=>aZ) (fun C s0 H0 ex=>(ak O_worth hr rfl (aa (pv 1) (aa (pv 2) (aa (pv 0) ac))))))))),?_⟩
 refine ⟨_,rfl,(by show 1≤sizeLine;decide),fun l hl=>?_⟩
 have s1:Same H (upd H l (.lst [.int x])):=aj hl _
 refine ⟨_,rfl,l,r,_,_,rfl,rfl,upd_same,s1 _ _ hr1,?_,fun m hm=>?_⟩
 ·rw [List.length_map,List.length_singleton]
  exact small (by omega)
 have s2:Same H (upd (upd H l (.lst [.int x])) m (.lst ([.int x]++cs.map V.int))):=s1.trans (aj hm _)
 have hm2:(upd (upd H l (.lst [.int x])) m (.lst ([.int x]++cs.map V.int))) m=some (.lst ((x::cs).map V.int)):=upd_same
 generalize upd (upd H l (.lst [.int x])) m (.lst ([.int x]++cs.map V.int))=H2 at s2 hm2
 obtain ⟨dx,ht⟩:=T1.same s2
 refine ⟨_,rfl,t,C,dx,_,_,rfl,ht,T.cl,T.nH,kX _ _ _,_,_,rfl,rfl,_,_,rfl,⟨by decide,by decide,by omega,by omega⟩,fun D hD=>?_⟩
 refine bS (fun i ys H3=>i≤n.toNat∧ys=(fw p i x cs).map V.int∧Same H2 H3) ⟨Nat.zero_le _,rfl,am (Same.refl _) hD⟩ ?_ ?_
 ·rintro i ys H3 hi ⟨_,rfl,s3⟩ hD3
  have hi':i<n.toNat:=by omega
  refine ⟨⟨rfl,rfl⟩,?_⟩
  refine ⟨_,rfl,_,rfl,_,rfl,t,m,p,n,f,_,x::cs,rfl,(T1.same s2).same s3,hp0,hp1,SqL.of (s3 _ _ hm2),fun H4 s4=>⟨s4 _ _ hD3,?_,hi',nK p i x cs,am (s3.trans s4) hD⟩⟩
  rw [List.length_map,jU]
  exact au (by omega)
 ·rintro ys H3 ⟨_,rfl,s3⟩ hD3
  rw [show (n+1 - 1).toNat=n.toNat by omega] at hD3
  exact q D H3 (s2.trans s3) (s2.free hD) hD3
end
section
variable {P:Program}{w:World}{K:PySem.W.Frag}{mg:Str→Option Value}{base:Heap}{C pa:Addr}
theorem sc_law_step_by:az ["cell","at","table","way","hand","one","two","number"] ["cell","at","table"] (ao c8):=⟨rfl,rfl,rfl,by decide +kernel,rfl,by decide +kernel,by decide +kernel⟩
theorem o6 (F:Src K mg "_law_step_by" "_law_step_by" c8 ["cell","at","table"]) (T:Tab K C) (O_law_mix:Ok P w K mg base CX0 1 "_law_mix" ["cell","k","many"] qe):Ok P w K mg base CX0 2 "_law_step_by" ["cell","at","table"] (iO C):=by
 refine F.ok sc_law_step_by (fun vs H Q E h=>?_) (fun f cdv A outer s H vs Q E hr h=>?_)
 ·obtain ⟨t,c,at_,p,n,f,rfl,_⟩:=h
  rfl
 obtain ⟨t,c,at_,p,n,f,rfl,⟨dx,ht⟩,hp,hn,ha,q⟩:=h
 refine ⟨_,(ad (aD (i:=3) sc_law_step_by.nd rfl (Or.inl rfl) (ak O_law_mix hr rfl (aa (pv 0) (aa ae (aa ae ac)))))
  (ad (aD (i:=4) sc_law_step_by.nd rfl (Or.inl rfl) (aq aX ae (ak O_law_mix hr rfl (aa (pv 0) (aa ae (aa (aJ (pv 2) rfl) ac))))))
  (ad (bd (PW.pt (jE (av bH (pv 1) ae (aH _)) (gB (av kL (pv 3) ae (aH _)))))
   (ah (aA (bX (aa aP (aa (pv 4) ac)))))
   aI)
  (ad (aD (i:=5) sc_law_step_by.nd rfl (Or.inl rfl) (ak O_law_mix hr rfl (aa (pv 0) (aa ae (aa (pv 1) ac)))))
  (ad (aD (i:=6) sc_law_step_by.nd rfl (Or.inl rfl) (ak O_law_mix hr rfl (aa (pv 0) (aa ae (aa (pv 1) ac)))))
  (ad (aD (i:=7) sc_law_step_by.nd rfl (Or.inl rfl) (ak O_law_mix hr rfl (aa (pv 0) (aa ae (aa (aJ (pv 2) rfl) ac)))))
  (ad (bd (av bH (pv 3) ae (aH _))
   (ah (aA (bX (aa aP (aa (pv 7) ac)))))
   aI)
  (ad (bd (av bH (pv 3) ae (aH _))
   (ah (aA (bX (aa aP (aa (pv 5) (aa (pv 7) ac))))))
   aI)
  (ad (bd (av kL (pv 3) ae (aH _))
   (ah (aA (bX (aa (aK aQ (aW (aa aP (aa aP ac))) (aq bo (pv 3) ae) (fun _ _=>rfl)) (aa (pv 5) (aa (pv 6) ac))))))
   aI)
  (ad (bd (av bH (pv 3) ae (aH _))
   (ah (aA (bX (aa aP (aa (pv 5) (aa (pv 6) ac))))))
   aI)
  (ah (aA (bX (aa (aK aQ (aW (aa aP (aa aP ac))) (aq bo (pv 3) ae) (fun _ _=>rfl)) (aa (pv 5) ac))))))))))))))),?_⟩
 have fin:∀ (H':Hp) (vs:List V),Same H H'→(cP c at_ p n).vs=vs→vs.length≤sizeLine∧∀ d,H' d=none→Q (.ref d) (upd H' d (.tup vs)):=fun H' vs s' e=>by
  subst e
  refine ⟨?_,fun d hd=>q d _ (s'.trans (aj hd _)) (s'.free hd) upd_same⟩
  have:(cP c at_ p n).vs.length≤3:=by cases cP c at_ p n<;>simp [Stp.vs]
  exact small (by omega)
 refine ⟨_,rfl,_,_,_,rfl,(by decide),fun H1 s1=>?_⟩
 refine ⟨_,rfl,_,rfl,t,C,dx,_,_,rfl,s1 _ _ ht,T.cl,T.nH,kX _ _ _,_,_,_,rfl,hn,fun H2 s2=>⟨_,_,rfl,rfl,?_⟩⟩
 have g2:=s1.trans s2
 refine ⟨_,rfl,rfl,_,rfl,?_⟩
 refine bi (fun c1=>?_) (fun c1=>?_)
 ·have c1':V.int at_=V.int 0:=of_decide_eq_true c1
  injection c1' with c1'
  refine pL ⟨_,rfl,?_⟩
  exact fin H2 _ g2 (by unfold cP;rw [if_pos (.inl c1')];rfl)
 have c1':¬ V.int at_=V.int 0:=of_decide_eq_false (Bool.eq_false_iff.mpr c1)
 have a0:¬ at_=0:=fun z=>c1' (by rw [z])
 have ap:0<at_:=by omega
 have w9:=eK (c:=c) (k:=1) (show (0:Int)<9 by decide)
 have w0:=bJ (c:=c) (k:=1) (show (0:Int)<9 by decide)
 refine ⟨_,rfl,_,_,rfl,rfl,_,rfl,?_⟩
 refine bi (fun c2=>?_) (fun c2=>?_)
 ·have c2':=of_decide_eq_true c2
  refine ⟨_,rfl,?_⟩
  exact fin H2 _ g2 (by unfold cP;rw [if_pos (.inr c2')];rfl)
 have c2':=of_decide_eq_false (Bool.eq_false_iff.mpr c2)
 have hno:¬ (at_=0∨dP c 1 9<2):=fun z=>by rcases z with z | z<;>omega
 refine ⟨_,rfl,_,rfl,_,_,_,rfl,ap,fun H3 s3=>?_⟩
 refine ⟨_,rfl,_,rfl,_,_,_,rfl,ap,fun H4 s4=>?_⟩
 have g4:=g2.trans (s3.trans s4)
 refine ⟨_,rfl,_,rfl,t,C,dx,_,_,rfl,g4 _ _ ht,T.cl,T.nP,gW _ _ _,_,_,_,rfl,hp,fun H5 s5=>?_⟩
 have g5:=g4.trans s5
 refine ⟨_,rfl,rfl,_,rfl,?_⟩
 refine bi (fun c3=>?_) (fun c3=>?_)
 ·have c3':V.int (dP c 1 9)=V.int 2:=of_decide_eq_true c3
  injection c3' with c3'
  refine ⟨_,rfl,?_⟩
  exact fin H5 _ g5 (by unfold cP;rw [if_neg hno,if_pos c3'];rfl)
 have c3':¬ dP c 1 9=2:=fun z=>(of_decide_eq_false (Bool.eq_false_iff.mpr c3):¬ V.int (dP c 1 9)=V.int 2) (by rw [z])
 refine ⟨_,rfl,rfl,_,rfl,?_⟩
 refine bi (fun c4=>?_) (fun c4=>?_)
 ·have c4':V.int (dP c 1 9)=V.int 3:=of_decide_eq_true c4
  injection c4' with c4'
  refine ⟨_,rfl,_,rfl,?_⟩
  exact fin H5 _ g5 (by unfold cP;rw [if_neg hno,if_neg c3',if_pos c4'];rfl)
 have c4':¬ dP c 1 9=3:=fun z=>(of_decide_eq_false (Bool.eq_false_iff.mpr c4):¬ V.int (dP c 1 9)=V.int 3) (by rw [z])
 refine ⟨_,rfl,_,_,rfl,rfl,_,rfl,?_⟩
 refine bi (fun c5=>?_) (fun c5=>?_)
 ·have c5':=of_decide_eq_true c5
  refine ⟨(by show 2≤sizeLine;decide),fun l hl=>?_⟩
  have s6:=aj hl (.lst [.str "sum",.str "less"])
  by_cases c6:dP c 1 9=4
  ·refine ⟨_,rfl,_,_,rfl,rfl,l,_,_,.str "sum",rfl,rfl,SqL.of upd_same,?_,_,rfl,_,rfl,?_⟩
   ·rw [c6]
    rfl
   exact fin _ _ (g5.trans s6) (by unfold cP;rw [if_neg hno,if_neg c3',if_neg c4',if_pos c5',if_pos c6];rfl)
  ·have c6':dP c 1 9=5:=by omega
   refine ⟨_,rfl,_,_,rfl,rfl,l,_,_,.str "less",rfl,rfl,SqL.of upd_same,?_,_,rfl,_,rfl,?_⟩
   ·rw [c6']
    rfl
   exact fin _ _ (g5.trans s6) (by unfold cP;rw [if_neg hno,if_neg c3',if_neg c4',if_pos c5',if_neg c6];rfl)
 have c5':=of_decide_eq_false (Bool.eq_false_iff.mpr c5)
 refine ⟨_,rfl,rfl,_,rfl,?_⟩
 refine bi (fun c6=>?_) (fun c6=>?_)
 ·have c6':V.int (dP c 1 9)=V.int 6:=of_decide_eq_true c6
  injection c6' with c6'
  refine ⟨_,rfl,_,rfl,?_⟩
  exact fin H5 _ g5 (by unfold cP;rw [if_neg hno,if_neg c3',if_neg c4',if_neg c5',if_pos c6'];rfl)
 have c6':¬ dP c 1 9=6:=fun z=>(of_decide_eq_false (Bool.eq_false_iff.mpr c6):¬ V.int (dP c 1 9)=V.int 6) (by rw [z])
 refine ⟨(by show 2≤sizeLine;decide),fun l hl=>?_⟩
 have s6:=aj hl (.lst [.str "anew",.str "open"])
 by_cases c7:dP c 1 9=7
 ·refine ⟨_,rfl,_,_,rfl,rfl,l,_,_,.str "anew",rfl,rfl,SqL.of upd_same,?_,_,rfl,?_⟩
  ·rw [c7]
   rfl
  exact fin _ _ (g5.trans s6) (by unfold cP;rw [if_neg hno,if_neg c3',if_neg c4',if_neg c5',if_neg c6',if_pos c7];rfl)
 ·have c7':dP c 1 9=8:=by omega
  refine ⟨_,rfl,_,_,rfl,rfl,l,_,_,.str "open",rfl,rfl,SqL.of upd_same,?_,_,rfl,?_⟩
  ·rw [c7']
   rfl
  exact fin _ _ (g5.trans s6) (by unfold cP;rw [if_neg hno,if_neg c3',if_neg c4',if_neg c5',if_neg c6',if_neg c7];rfl)
theorem i9:az ["script","start","many","table"] ["script","start","many","table"] (ao cL):=⟨rfl,rfl,rfl,by decide +kernel,rfl,by decide +kernel,by decide +kernel⟩
theorem m8 (F:Src K mg "_law_steps_by" "_law_steps_by" cL ["script","start","many","table"]) (B:Blt mg) (O_law_cell_at:Ok P w K mg base CX0 1 "_law_cell_at" ["script","k"] (lI K)) (O_law_step_by:Ok P w K mg base CX0 2 "_law_step_by" ["cell","at","table"] (iO C)):Ok P w K mg base CX0 3 "_law_steps_by" ["script","start","many","table"] (i6 K C):=by
 refine F.ok i9 (fun vs H Q E h=>?_) (fun f cdv A outer s H vs Q E hr h=>?_)
 ·obtain ⟨a,t,ns,st,m,p,n,f,rfl,_⟩:=h
  rfl
 obtain ⟨a,t,ns,st,m,p,n,f,rfl,hS,hst,hm0,hm1,T1,hp,hn,q⟩:=h
 refine ⟨_,(ah (aA (bt ["k"] [("table",3),("script",0),("start",1)]  (dr rfl B.range (aa (pv 2) ac)) rfl (fun C s0 H0 ex=>by exact (ar (i:=0) (show List.Nodup [("k":Str),"table","script","start"] by decide +kernel) rfl (Or.inl rfl))) (fun C s0 H0 ex=>by exact aZ) (fun C s0 H0 ex=>by exact (ak O_law_step_by hr rfl (aa (ak O_law_cell_at hr rfl (aa (pv 2) (aa (aq aX (pv 3) (pv 0)) ac))) (aa (pv 0) (aa (pv 1) ac)))))))),?_⟩
 refine ⟨_,rfl,m,rfl,by omega,by omega,fun D hD=>?_⟩
 refine bS (fun i ys H2=>i≤m.toNat∧StpsAt H2 ys (dE ns st i p n)∧Same H H2) ⟨Nat.zero_le _,.nil,am (Same.refl _) hD⟩ ?_ ?_
 ·rintro i ys H2 hi ⟨_,hys,s2⟩ hD2
  have yl:ys.length=i:=by rw [Paired.length hys];unfold dE;rw [List.length_map,List.length_range]
  refine ⟨⟨rfl,rfl⟩,?_⟩
  refine ⟨_,rfl,_,rfl,_,rfl,_,_,rfl,rfl,a,ns,_,rfl,s2.seq hS,by omega,fun H3 s3=>?_⟩
  refine ⟨_,rfl,_,rfl,t,_,_,p,n,f,rfl,T1.same (s2.trans s3),hp,hn,by omega,fun d H4 s4 hd0 hd4=>?_⟩
  have s34:=s3.trans s4
  refine ⟨s34 _ _ hD2,au (by omega),by omega,?_,am (s2.trans s34) hD⟩
  unfold dE at hys ⊢
  rw [← map_take]
  refine StpsAt.upd (s34 _ _ hD2) (StpsAt.snoc (hys.same s34) ?_)
  rw [hd4,Int.zero_add]
 ·rintro ys H2 ⟨_,hys,s2⟩ hD2
  exact q D H2 ys s2 hD hD2 (by rw [← show (m - 0).toNat=m.toNat by omega];first | exact hys | simpa using hys)
theorem mW:az ["steps","hand"] ["steps","hand"] (ao fE):=⟨rfl,rfl,rfl,by decide +kernel,rfl,by decide +kernel,by decide +kernel⟩
theorem ok_used (F:Src K mg "_law_used" "_law_used" fE ["steps","hand"]) (B:Blt mg):Ok P w K mg base CX0 1 "_law_used" ["steps","hand"] lC:=by
 refine F.ok mW (fun vs H Q E h=>?_) (fun f cdv A outer s H vs Q E hr h=>?_)
 ·obtain ⟨a,h,ws,ss,rfl,_⟩:=h
  rfl
 obtain ⟨a,h,ws,ss,rfl,ha,hss,hl,q⟩:=h
 have wl:ws.length=ss.length:=Paired.length hss
 refine ⟨_,(ah (aA (aN aG rfl B.len PySem.boot_len (aa (bt ["step"] [("hand",1)]  (bn (pv 0)) rfl (fun C s0 H0 ex=>by exact (ar (i:=0) (show List.Nodup [("step":Str),"hand"] by decide +kernel) rfl (Or.inl rfl))) (fun C s0 H0 ex=>by exact (mZ (av (op_eqD (hr.units)) (pv 0) (bX (aa aP (aa (pv 1) ac))) (aH _)))) (fun C s0 H0 ex=>by exact (pv 0))) ac)))),?_⟩
 refine ⟨_,rfl,a,rfl,⟨_,SqL.of ha⟩,fun D hD=>?_⟩
 refine bv (K:=K) (a:=a) (xs:=ws) (fun i ys H2=>ys.length=aR (ss.take i) h∧Same H H2) ⟨rfl,am (Same.refl _) hD⟩ ?_ ?_ ?_
 ·rintro i ys H2 _ ⟨_,s2⟩
  exact SqL.of (s2 _ _ ha)
 ·rintro i y ys H2 hy ⟨hys,s2⟩ hD2
  obtain ⟨b,z,rfl,hz,hzs⟩:=(hss.same s2).get hy
  have ut:=iY (h:=h) hzs
  have ul:=j0 (ss.take i) h
  rw [List.length_take] at ul
  refine ⟨⟨rfl,rfl⟩,?_⟩
  refine ⟨_,rfl,_,rfl,(by show 2≤sizeLine;decide),fun d hd=>?_⟩
  have s3:=aj hd (.tup [.str "in",.int h])
  refine ⟨z.dat,(Stp.ein h).dat,decide (z=.ein h),Stp.rep (s3 _ _ hz),Stp.rep (s:=.ein h) upd_same,z.ok8,Stp.ok8 _,?_,_,rfl,?_⟩
  ·rw [decide_eq_true_iff,dat_ein]
  refine bi (fun c=>?_) (fun c=>?_)
  ·have c':=of_decide_eq_true c
   refine ⟨_,rfl,s3 _ _ hD2,au (by omega),?_,am (s2.trans s3) hD⟩
   rw [List.length_append,hys,ut,if_pos c']
   rfl
  ·have c':=of_decide_eq_false (Bool.eq_false_iff.mpr c)
   refine ⟨s3 _ _ hD2,?_,s2.trans s3⟩
   rw [hys,ut,if_neg c']
   rfl
 ·rintro ys H2 ⟨hys,s2⟩ hD2
  rw [wl,List.take_length] at hys
  refine ⟨D,_,rfl,.inl (SqL.of hD2),?_⟩
  rw [hys]
  exact q H2 s2
end
section
variable {P:Program}{w:World}{K:PySem.W.Frag}{mg:Str→Option Value}{base:Heap}{C pa:Addr}
theorem sc_law_needs:az ["steps","table","total","step"] ["steps","table"] (ao eu):=⟨rfl,rfl,rfl,by decide +kernel,rfl,by decide +kernel,by decide +kernel⟩
theorem ok_needs (F:Src K mg "_law_needs" "_law_needs" eu ["steps","table"]) (T:Tab K C):Ok P w K mg base CX0 1 "_law_needs" ["steps","table"] (mS C):=by
 refine F.ok sc_law_needs (fun vs H Q E h=>?_) (fun f cdv A outer s H vs Q E hr h=>?_)
 ·obtain ⟨a,t,p,n,f,ws,ss,rfl,_⟩:=h
  rfl
 obtain ⟨a,t,p,n,f,ws,ss,rfl,⟨dx,ht⟩,hf,hn,ha,hss,q⟩:=h
 have wl:ws.length=ss.length:=Paired.length hss
 refine ⟨_,(ad (aD (i:=2) sc_law_needs.nd rfl (Or.inl rfl) ae)
  (ad (bP PassesOwn.never rfl (bn (pv 0)) (ar (i:=3) sc_law_needs.nd rfl (Or.inl rfl))
   (ah (aD (i:=2) sc_law_needs.nd rfl (Or.inl rfl) (aq aX (pv 2) (aq bG (aJ (pv 1) rfl) (pe_dget2 (hu_of hr) (pe_disp (kG aP ae (kG aP (aJ (pv 1) rfl) (kG aP (aJ (pv 1) rfl) pps_nil))) rfl rfl (by intro z;cases z) (by decide)) (aK aY (pv 3) ae (fun _ _=>rfl)) ae ⟨rfl,rfl,rfl,rfl⟩))))))
  (ah (aA (pv 2))))),?_⟩
 refine ⟨_,rfl,a,rfl,⟨_,SqL.of ha⟩,b8 (K:=K) (a:=a) (xs:=ws) (fun i σ H2=>Same H H2∧∃ v3:Option V,σ=[some (.ref a),some (.ref t),some (.int (bg f n (ss.take i))),v3]) ⟨Same.refl _,none,rfl⟩ ?_ ?_ ?_⟩
 ·rintro i σ H2 _ ⟨s2,_⟩
  exact SqL.of (s2 _ _ ha)
 ·rintro i y σ H2 hy ⟨s2,v3,rfl⟩
  obtain ⟨b,z,rfl,hz,hzs⟩:=(hss.same s2).get hy
  refine ⟨_,rfl,_,rfl,t,C,dx,_,_,rfl,s2 _ _ ht,T.cl,T.nF,tf_f _ _ _,fun d hd=>?_⟩
  have s3:=s2.trans (aj hd (.dK []))
  refine ⟨_,rfl,t,C,dx,_,_,rfl,s3 _ _ ht,T.cl,T.nH,kX _ _ _,_,rfl,t,C,dx,_,_,rfl,s3 _ _ ht,T.cl,T.nH,kX _ _ _,upd_same,[(kIn,V.int 1),(nq,V.int n),(ij,V.int n)],rfl,(by show 3≤15;decide),d,rfl,.inl ⟨_,.inl upd_same⟩,?_⟩
  have hbd:b≠d:=aw hz hd
  refine ⟨_,rfl,b,_,_,.str z.word,rfl,rfl,SqT.of (by rw [aB hbd,aB hbd];exact hz),z.at0,_,DGet.k (k:=Sum.inr z.word) upd_same,?_⟩
  rw [need_get]
  refine ⟨_,_,rfl,rfl,.inl ⟨by omega,by omega⟩,_,_,rfl,rfl,?_⟩
  refine ⟨am s3 (s2.free hd),some (.ref b),?_⟩
  rw [pd hzs]
  rfl
 ·rintro σ H2 ⟨s2,v3,rfl⟩
  refine ⟨_,rfl,?_⟩
  rw [wl,List.take_length]
  exact q H2 s2
theorem sc_law_inputs_by:az ["cell","steps","table","found","hand","many"] ["cell","steps","table"] (ao cv):=⟨rfl,rfl,rfl,by decide +kernel,rfl,by decide +kernel,by decide +kernel⟩
theorem lZ (F:Src K mg "_law_inputs_by" "_law_inputs_by" cv ["cell","steps","table"]) (B:Blt mg) (T:Tab K C) (O_law_used:Ok P w K mg base CX0 1 "_law_used" ["steps","hand"] lC) (O_law_mix:Ok P w K mg base CX0 1 "_law_mix" ["cell","k","many"] qe):Ok P w K mg base CX0 2 "_law_inputs_by" ["cell","steps","table"] (gX C):=by
 refine F.ok sc_law_inputs_by (fun vs H Q E h=>?_) (fun f cdv A outer s H vs Q E hr h=>?_)
 ·obtain ⟨a,t,c,p,n,f,ws,ss,rfl,_⟩:=h
  rfl
 obtain ⟨a,t,c,p,n,f,ws,ss,rfl,⟨dx,ht⟩,hp,hn,ha,hss,hsl,q⟩:=h
 refine ⟨_,(ad (aD (i:=3) sc_law_inputs_by.nd rfl (Or.inl rfl) (aW ac))
  (ad (bP PassesOwn.never rfl (dN rfl B.range (aa ae (aa (aq aX (aJ (pv 2) rfl) ae) ac))) (ar (i:=4) sc_law_inputs_by.nd rfl (Or.inr rfl))
   (ad (aD (i:=5) sc_law_inputs_by.nd rfl (Or.inl rfl) (aq aX (ak O_law_used hr rfl (aa (pv 1) (aa (pv 4) ac))) (ak O_law_mix hr rfl (aa (pv 0) (aa (aq aX ae (pv 4)) (aa ae ac))))))
  (ah (bc (dO PySem.F.plainAttrs_list PySem.F.slot_list_append PySem.F.type_list_append br (pv 3) (aa (bt ["k"] [("cell",0),("table",2),("hand",4)]  (dr rfl B.range (aa (pv 5) ac)) rfl (fun C s0 H0 ex=>by exact (ar (i:=0) (show List.Nodup [("k":Str),"cell","table","hand"] by decide +kernel) rfl (Or.inl rfl))) (fun C s0 H0 ex=>by exact aZ) (fun C s0 H0 ex=>by exact (ak O_law_mix hr rfl (aa (pv 1) (aa (aq aX (aq aX ae (aq bG ae (pv 3))) (pv 0)) (aa (cX K (pv 2) rfl) ac)))))) ac))))))
  (ah (aA (pv 3))))),?_⟩
 refine ⟨(by show 0≤sizeLine;decide),fun l hl=>?_⟩
 have s1:=aj hl (.lst [])
 refine ⟨_,rfl,t,C,dx,_,_,rfl,s1 _ _ ht,T.cl,T.nH,kX _ _ _,_,_,rfl,rfl,_,_,rfl,⟨by decide,by decide,by omega,by omega⟩,gL (fun i σ H2=>i≤n.toNat∧Same H H2∧∃ (as:List Addr) (v4 v5:Option V),σ=[some (.int c),some (.ref a),some (.ref t),some (.ref l),v4,v5]∧H2 l=some (.lst (as.map V.ref))∧as.Nodup∧l∉as∧(∀ b∈as,H b=none)∧InsAt H2 as (bp c p ss i)) ?_ ?_ ?_⟩
 ·exact ⟨Nat.zero_le _,s1,[],none,none,rfl,upd_same,.nil,(fun h=>nomatch h),(fun b h=>nomatch h),.nil⟩
 ·rintro i σ H2 hi ⟨_,s2,as,v4,v5,rfl,hl2,nd,hla,hfr,hin⟩
  have al:as.length=i:=by rw [Paired.length hin];unfold bp;rw [List.length_map,List.length_range]
  refine ⟨_,rfl,_,rfl,a,_,ws,ss,rfl,s2 _ _ ha,hss.same s2,hsl,fun H3 s3=>?_⟩
  refine ⟨_,rfl,_,rfl,_,_,rfl,rfl,_,_,_,rfl,(by decide),fun H4 s4=>⟨_,_,rfl,rfl,?_⟩⟩
  have m0:=bJ (c:=c) (k:=60+(1+(i:Int))) (show (0:Int)<2 by decide)
  have m1:=eK (c:=c) (k:=60+(1+(i:Int))) (show (0:Int)<2 by decide)
  have ul:=j0 ss (1+(i:Int))
  have g4:=s2.trans (s3.trans s4)
  have hl4:=s4 _ _ (s3 _ _ hl2)
  have hin4:=hin.same (s3.trans s4)
  refine ⟨_,rfl,.inl ⟨rfl,_,SqL.of hl4⟩,_,rfl,_,rfl,by omega,by omega,fun D hD=>?_⟩
  refine bS (fun j ys H5=>j≤200∧ys=((List.range j).map fun k:Nat=>dP c (70+9*(1+(i:Int))+(k:Int)) p).map V.int∧Same H4 H5) ⟨Nat.zero_le _,rfl,am (Same.refl _) hD⟩ ?_ ?_
  ·rintro j ys H5 hj ⟨_,rfl,s5⟩ hD5
   refine ⟨⟨rfl,rfl⟩,?_⟩
   refine ⟨_,rfl,_,rfl,_,_,rfl,rfl,.inl ⟨by decide,by decide⟩,_,_,rfl,rfl,_,rfl,_,_,rfl,rfl,_,rfl,t,C,dx,_,_,rfl,s5 _ _ (g4 _ _ ht),T.cl,T.nP,gW _ _ _,_,_,_,rfl,hp,fun H6 s6=>⟨s6 _ _ hD5,?_,by omega,?_,am (s5.trans s6) hD⟩⟩
   ·rw [List.length_map,List.length_map,List.length_range]
    exact au (by omega)
   ·rw [← map_take,List.map_append,Int.zero_add]
    rfl
  rintro ys H5 ⟨_,rfl,s5⟩ hD5
  have hl5:=s5 _ _ hl4
  have Dl:D≠l:=fun e=>by rw [e,hl4] at hD;cases hD
  refine ⟨l,_,_,rfl,rfl,hl5,by rw [List.length_map,al];exact au (by omega),?_⟩
  have Da:=hin4.there hD
  have lna:l∉as++[D]:=fun h=>by
   rcases List.mem_append.mp h with h | h
   ·exact hla h
   ·have e:l=D:=by simpa using h
    exact Dl e.symm
  refine ⟨by omega,am (g4.trans s5) hl,as++[D],_,_,rfl,?_,ie nd Da,lna,fun b hb=>?_,?_⟩
  ·rw [upd_same,List.map_append]
   rfl
  ·rcases List.mem_append.mp hb with h | h
   ·exact hfr b h
   ·have e:b=D:=by simpa using h
    rw [e]
    exact g4.free hD
  ·have ei:bp c p ss (i+1)=bp c p ss i++[inBy c p ss (1+(i:Int))]:=by
    unfold bp
    rw [← map_take]
   rw [ei]
   refine InsAt.off (InsAt.snoc (hin4.same s5) ?_) lna
   unfold inBy
   rw [hD5]
 ·rintro σ H2 ⟨_,s2,as,v4,v5,rfl,hl2,nd,hla,hfr,hin⟩
  rw [show (n+1 - 1).toNat=n.toNat by omega] at hin
  exact ⟨_,rfl,q l H2 as s2 hl hl2 nd hla hfr hin⟩
theorem lL:az ["steps"] ["steps"] (ao dZ):=⟨rfl,rfl,rfl,by decide +kernel,rfl,by decide +kernel,by decide +kernel⟩
theorem ok_quiet (F:Src K mg "_law_quiet" "_law_quiet" dZ ["steps"]) (B:Blt mg):Ok P w K mg base CX0 1 "_law_quiet" ["steps"] mQ:=by
 refine F.ok lL (fun vs H Q E h=>?_) (fun f cdv A outer s H vs Q E hr h=>?_)
 ·obtain ⟨a,ws,ss,rfl,_⟩:=h
  rfl
 obtain ⟨a,ws,ss,rfl,ha,hss,hsl,q⟩:=h
 have wl:ws.length=ss.length:=Paired.length hss
 refine ⟨_,(ah (aA (bt ["step"] []  (bn (pv 0)) rfl (fun C s0 H0 ex=>by exact (ar (i:=0) (show List.Nodup [("step":Str)] by decide +kernel) rfl (Or.inl rfl))) (fun C s0 H0 ex=>by exact aZ) (fun C s0 H0 ex=>by exact (kJ (av bH (aK (jp K) (pv 0) ae (fun _ _=>rfl)) aP (aH _)) (bX (aa aP (aa (aK (jp K) (pv 0) ae (fun _ _=>rfl)) ac))) (pv 0)))))),?_⟩
 refine ⟨_,rfl,a,rfl,⟨_,SqL.of ha⟩,fun D hD=>?_⟩
 refine bv (K:=K) (a:=a) (xs:=ws) (fun i ys H2=>StpsAt H2 ys ((ss.take i).map fR)∧Same H H2) ⟨.nil,am (Same.refl _) hD⟩ ?_ ?_ ?_
 ·rintro i ys H2 _ ⟨_,s2⟩
  exact SqL.of (s2 _ _ ha)
 ·rintro i y ys H2 hy ⟨hys,s2⟩ hD2
  obtain ⟨b,z,rfl,hz,hzs⟩:=(hss.same s2).get hy
  have yl:ys.length≤100:=by
   rw [Paired.length hys,List.length_map,List.length_take]
   omega
  refine ⟨⟨rfl,rfl⟩,?_⟩
  refine ⟨_,rfl,b,_,_,.str z.word,rfl,rfl,SqT.of hz,z.at0,rfl,_,rfl,?_⟩
  refine bi (fun c=>?_) (fun c=>?_)
  ·have c':V.str z.word=V.str "open":=of_decide_eq_true c
   injection c' with c'
   obtain ⟨x,rfl⟩:=(jY z).mp c'
   refine ⟨_,rfl,b,_,_,.int x,rfl,rfl,SqT.of hz,rfl,(by show 2≤sizeLine;decide),fun d hd=>?_⟩
   have s3:=aj hd (.tup [.str "anew",.int x])
   refine ⟨s3 _ _ hD2,au (by omega),?_,am (s2.trans s3) hD⟩
   rw [← cO hzs,List.map_append]
   exact StpsAt.upd (s3 _ _ hD2) (StpsAt.snoc (s:=.anew x) (hys.same s3) upd_same)
  ·have c':¬ V.str z.word=V.str "open":=of_decide_eq_false (Bool.eq_false_iff.mpr c)
   have nz:¬ ∃ x,z=.opn x:=fun h=>c' (by rw [(jY z).mpr h])
   refine ⟨_,rfl,hD2,au (by omega),?_,am s2 hD⟩
   rw [← cO hzs,List.map_append]
   refine StpsAt.upd hD2 (StpsAt.snoc hys ?_)
   rw [quiet_no nz]
   exact hz
 ·rintro ys H2 ⟨hys,s2⟩ hD2
  rw [wl,List.take_length] at hys
  exact q D H2 ys s2 hD hD2 hys
theorem iH:az ["cell","steps","table"] ["cell","steps","table"] (ao cw):=⟨rfl,rfl,rfl,by decide +kernel,rfl,by decide +kernel,by decide +kernel⟩
theorem l0 (F:Src K mg "_law_chance_by" "_law_chance_by" cw ["cell","steps","table"]) (B:Blt mg) (T:Tab K C) (O_law_needs:Ok P w K mg base CX0 1 "_law_needs" ["steps","table"] (mS C)) (O_law_mix:Ok P w K mg base CX0 1 "_law_mix" ["cell","k","many"] qe):Ok P w K mg base CX0 2 "_law_chance_by" ["cell","steps","table"] (gY C):=by
 refine F.ok iH (fun vs H Q E h=>?_) (fun f cdv A outer s H vs Q E hr h=>?_)
 ·obtain ⟨a,t,c,p,n,f,ws,ss,rfl,_⟩:=h
  rfl
 obtain ⟨a,t,c,p,n,f,ws,ss,rfl,T1,hp,hf,hn,ha,hss,hsl,q⟩:=h
 have nb:=ni hf.1 hf.2 hn.1 hn.2 ss
 refine ⟨_,(ah (aA (bt ["k"] [("cell",0),("table",2)]  (dr rfl B.range (aa (ak O_law_needs hr rfl (aa (pv 1) (aa (pv 2) ac))) ac)) rfl (fun C s0 H0 ex=>by exact (ar (i:=0) (show List.Nodup [("k":Str),"cell","table"] by decide +kernel) rfl (Or.inl rfl))) (fun C s0 H0 ex=>by exact aZ) (fun C s0 H0 ex=>by exact (ak O_law_mix hr rfl (aa (pv 1) (aa (aq aX ae (pv 0)) (aa (cX K (pv 2) rfl) ac)))))))),?_⟩
 refine ⟨_,rfl,_,rfl,a,t,p,n,f,ws,ss,rfl,T1,hf,hn,ha,hss,fun H1 s1=>?_⟩
 obtain ⟨dx,ht⟩:=T1
 refine ⟨_,rfl,by omega,by omega,fun D hD=>?_⟩
 refine bS (fun j ys H2=>j≤1000∧ys=(dj c p j).map V.int∧Same H1 H2) ⟨Nat.zero_le _,rfl,am (Same.refl _) hD⟩ ?_ ?_
 ·rintro j ys H2 hj ⟨_,rfl,s2⟩ hD2
  refine ⟨⟨rfl,rfl⟩,?_⟩
  refine ⟨_,rfl,_,rfl,_,_,rfl,rfl,_,rfl,t,C,dx,_,_,rfl,s2 _ _ (s1 _ _ ht),T.cl,T.nP,gW _ _ _,_,_,_,rfl,hp,fun H3 s3=>⟨s3 _ _ hD2,?_,by omega,?_,am (s2.trans s3) hD⟩⟩
  ·unfold dj
   rw [List.length_map,List.length_map,List.length_range]
   exact au (by omega)
  ·unfold dj
   rw [← map_take,List.map_append,Int.zero_add]
   rfl
 ·rintro ys H2 ⟨_,rfl,s2⟩ hD2
  exact q D H2 (s1.trans s2) (s1.free hD) hD2
end
section
variable {P:Program}{w:World}{K:PySem.W.Frag}{mg:Str→Option Value}{base:Heap}{C pa:Addr}
theorem word_ein {s:Stp} (h:s.word="in"):∃ a,s=.ein a:=by cases s<;>first | exact ⟨_,rfl⟩ | exact absurd h (by simp only [Stp.word];decide +kernel)
theorem word_fix {s:Stp} (h:s.word="fix"):∃ a,s=.fix a:=by cases s<;>first | exact ⟨_,rfl⟩ | exact absurd h (by simp only [Stp.word];decide +kernel)
theorem word_bye {s:Stp} (h:s.word="by"):∃ a x,s=.bye a x:=by cases s<;>first | exact ⟨_,_,rfl⟩ | exact absurd h (by simp only [Stp.word];decide +kernel)
theorem word_sum {s:Stp} (h:s.word="sum"):∃ a b,s=.sum a b:=by cases s<;>first | exact ⟨_,_,rfl⟩ | exact absurd h (by simp only [Stp.word];decide +kernel)
theorem pR {s:Stp} (h:s.word="less"):∃ a b,s=.less a b:=by cases s<;>first | exact ⟨_,_,rfl⟩ | exact absurd h (by simp only [Stp.word];decide +kernel)
theorem word_mul {s:Stp} (h:s.word="mul"):∃ a b,s=.mul a b:=by cases s<;>first | exact ⟨_,_,rfl⟩ | exact absurd h (by simp only [Stp.word];decide +kernel)
theorem pQ {s:Stp} (h0:¬ s.word="in") (h1:¬ s.word="fix") (h2:¬ s.word="by") (h3:¬ s.word="sum") (h4:¬ s.word="less") (h5:¬ s.word="mul"):(∃ a,s=.anew a)∨∃ a,s=.opn a:=by
 cases s
 ·exact absurd rfl h0
 ·exact absurd rfl h1
 ·exact absurd rfl h2
 ·exact absurd rfl h3
 ·exact absurd rfl h4
 ·exact absurd rfl h5
 ·exact .inl ⟨_,rfl⟩
 ·exact .inr ⟨_,rfl⟩
theorem sc_law_plain:az ["prime","steps","inputs","rest","found","step"] ["prime","steps","inputs"] (ao ee):=⟨rfl,rfl,rfl,by decide +kernel,rfl,by decide +kernel,by decide +kernel⟩
theorem ok_plain (F:Src K mg "_law_plain" "_law_plain" ee ["prime","steps","inputs"]) (B:Blt mg):Ok P w K mg base CX0 1 "_law_plain" ["prime","steps","inputs"] kb:=by
 refine F.ok sc_law_plain (fun vs H Q E h=>?_) (fun f cdv A outer s H vs Q E hr h=>?_)
 ·obtain ⟨a,b,p,n,ws,ss,is,inp,rfl,_⟩:=h
  rfl
 obtain ⟨a,ib,p,n,ws,ss,is,inp,rfl,hp,hn,ha,hss,hsl,RR,hib,hin0,IO,q⟩:=h
 have wl:ws.length=ss.length:=Paired.length hss
 have il:is.length=inp.length:=Paired.length hin0
 have inl:inp.length≤10:=by rw [IO.len];omega
 refine ⟨_,(ad (bD 3 ["numbers"] [] sc_law_plain.nd  (bn (pv 2)) rfl (fun C s0 H0 ex=>by exact (ar (i:=0) (show List.Nodup [("numbers":Str)] by decide +kernel) rfl (Or.inl rfl))) (fun C s0 H0 ex=>by exact aZ) (fun C s0 H0 ex=>by exact (jf (kU K) rfl B.list PyProof.Rows.boot_list (aa (pv 0) ac))))
  (ad (aD (i:=4) sc_law_plain.nd rfl (Or.inl rfl) (aW ac))
  (ad (bP PassesOwn.never rfl (bn (pv 1)) (ar (i:=5) sc_law_plain.nd rfl (Or.inl rfl))
   (ah (bd (av bH (aK aY (pv 5) ae (fun _ _=>rfl)) aP (aH _))
   (ah (bc (dO PySem.F.plainAttrs_list PySem.F.slot_list_append PySem.F.type_list_append br (pv 4) (aa (dO PySem.F.plainAttrs_list PySem.F.slot_list_pop PySem.F.type_list_pop mt_popAt (aK aQ (pv 3) (aq bo (aK aY (pv 5) ae (fun _ _=>rfl)) ae) (fun _ _=>rfl)) (aa ae ac)) ac))))
   (ah (bd (av bH (aK aY (pv 5) ae (fun _ _=>rfl)) aP (aH _))
   (ah (bc (dO PySem.F.plainAttrs_list PySem.F.slot_list_append PySem.F.type_list_append br (pv 4) (aa (aK aY (pv 5) ae (fun _ _=>rfl)) ac))))
   (ah (bd (av bH (aK aY (pv 5) ae (fun _ _=>rfl)) aP (aH _))
   (ah (bc (dO PySem.F.plainAttrs_list PySem.F.slot_list_append PySem.F.type_list_append br (pv 4) (aa (aq aV (aq bG (aK aQ (pv 4) (aK aY (pv 5) ae (fun _ _=>rfl)) (fun _ _=>rfl)) (aK aY (pv 5) ae (fun _ _=>rfl))) (pv 0)) ac))))
   (ah (bd (av bH (aK aY (pv 5) ae (fun _ _=>rfl)) aP (aH _))
   (ah (bc (dO PySem.F.plainAttrs_list PySem.F.slot_list_append PySem.F.type_list_append br (pv 4) (aa (aq aV (aq aX (aK aQ (pv 4) (aK aY (pv 5) ae (fun _ _=>rfl)) (fun _ _=>rfl)) (aK aQ (pv 4) (aK aY (pv 5) ae (fun _ _=>rfl)) (fun _ _=>rfl))) (pv 0)) ac))))
   (ah (bd (av bH (aK aY (pv 5) ae (fun _ _=>rfl)) aP (aH _))
   (ah (bc (dO PySem.F.plainAttrs_list PySem.F.slot_list_append PySem.F.type_list_append br (pv 4) (aa (aq aV (aq bo (aK aQ (pv 4) (aK aY (pv 5) ae (fun _ _=>rfl)) (fun _ _=>rfl)) (aK aQ (pv 4) (aK aY (pv 5) ae (fun _ _=>rfl)) (fun _ _=>rfl))) (pv 0)) ac))))
   (ah (bd (av bH (aK aY (pv 5) ae (fun _ _=>rfl)) aP (aH _))
   (ah (bc (dO PySem.F.plainAttrs_list PySem.F.slot_list_append PySem.F.type_list_append br (pv 4) (aa (aq aV (aq bG (aK aQ (pv 4) (aK aY (pv 5) ae (fun _ _=>rfl)) (fun _ _=>rfl)) (aK aQ (pv 4) (aK aY (pv 5) ae (fun _ _=>rfl)) (fun _ _=>rfl))) (pv 0)) ac))))
   (ah (bc (dO PySem.F.plainAttrs_list PySem.F.slot_list_append PySem.F.type_list_append br (pv 4) (aa (aK aQ (pv 4) (aK aY (pv 5) ae (fun _ _=>rfl)) (fun _ _=>rfl)) ac)))))))))))))))))
  (ah (aA (pv 4)))))),?_⟩
 refine ⟨_,rfl,ib,rfl,⟨_,SqL.of hib⟩,fun R hR=>?_⟩
 refine bv (K:=K) (a:=ib) (xs:=is.map V.ref) (fun j ys H2=>Same H H2∧∃ as:List Addr,ys=as.map V.ref∧as.Nodup∧R∉as∧(∀ b∈as,H b=none)∧InsAt H2 as (inp.take j)) ⟨am (Same.refl _) hR,[],rfl,.nil,(fun h=>nomatch h),(fun b h=>nomatch h),.nil⟩ ?_ ?_ ?_
 ·rintro j ys H2 _ ⟨s2,_⟩
  exact SqL.of (s2 _ _ hib)
 ·rintro j y ys H2 hy ⟨s2,as,rfl,nd,hRa,hfr,hin⟩ hR2
  obtain ⟨b,rfl,hb⟩:=eH hy
  obtain ⟨r,hr',hbr⟩:=(hin0.same s2).get hb
  have al:as.length≤10:=by
   rw [Paired.length hin,List.length_take]
   omega
  refine ⟨⟨rfl,rfl⟩,?_⟩
  refine ⟨_,rfl,b,_,rfl,.inl (SqL.of hbr),fun d hd=>?_⟩
  have s3:=aj hd (.lst (r.map V.int))
  have hda:=hin.there hd
  have dR:d≠R:=fun e=>by rw [e,hR2] at hd;cases hd
  have lna:R∉as++[d]:=fun h=>by
   rcases List.mem_append.mp h with h | h
   ·exact hRa h
   ·have e:R=d:=by simpa using h
    exact dR e.symm
  refine ⟨s3 _ _ hR2,by rw [List.length_map];exact au (by omega),am (s2.trans s3) hR,as++[d],by rw [List.map_append];rfl,ie nd hda,lna,fun b hb=>?_,?_⟩
  ·rcases List.mem_append.mp hb with h | h
   ·exact hfr b h
   ·have e:b=d:=by simpa using h
    rw [e]
    exact s2.free hd
  ·rw [← cO hr']
   exact InsAt.off (InsAt.snoc (hin.same s3) upd_same) lna
 rintro ys H1 ⟨s1,as,rfl,nd,hRa,hfr,hin1⟩ hR1
 rw [List.length_map,il,List.take_length] at hin1
 have al:as.length=n.toNat:=by rw [Paired.length hin1,IO.len]
 refine ⟨(by show 0≤sizeLine;decide),fun l hl=>?_⟩
 have hlH:H l=none:=s1.free hl
 have hla:=hin1.there hl
 have hRl:R≠l:=aw hR1 hl
 have s2:=aj hl (.lst [])
 refine ⟨_,rfl,a,rfl,⟨_,SqL.of (s2 _ _ (s1 _ _ ha))⟩,b8 (K:=K) (a:=a) (xs:=ws) (fun i σ H2=>Same H H2∧∃ (rest:List (List Int)) (fd:List Int) (v5:Option V),σ=[some (.int p),some (.ref a),some (.ref ib),some (.ref R),some (.ref l),v5]∧H2 R=some (.lst (as.map V.ref))∧InsAt H2 as rest∧H2 l=some (.lst (fd.map V.int))∧PlSt p n ss inp i rest fd) ?_ ?_ ?_ ?_⟩
 ·exact ⟨s1.trans s2,inp,[],none,rfl,s2 _ _ hR1,hin1.same s2,upd_same,.start IO⟩
 ·rintro i σ H2 _ ⟨s2,_⟩
  exact SqL.of (s2 _ _ ha)
 ·clear s2
  rintro i y σ H2 hy ⟨s2,rest,fd,v5,rfl,hR2,hin,hl2,S⟩
  obtain ⟨b,z,rfl,hz,hzs⟩:=(hss.same s2).get hy
  have R0:=RR i z hzs
  have fl:=S.fl
  have hi:i<ss.length:=(List.getElem?_eq_some_iff.mp hzs).1
  have finO:dU rest z=rest→∀ {v:Int},v=lq p rest fd z→Same H (upd H2 l (.lst (fd.map V.int++[.int v])))∧∃ (rest:List (List Int)) (fd':List Int) (v5:Option V),[some (.int p),some (.ref a),some (.ref ib),some (.ref R),some (.ref l),some (.ref b)]=[some (.int p),some (.ref a),some (.ref ib),some (.ref R),some (.ref l),v5]∧(upd H2 l (.lst (fd.map V.int++[.int v]))) R=some (.lst (as.map V.ref))∧InsAt (upd H2 l (.lst (fd.map V.int++[.int v]))) as rest∧(upd H2 l (.lst (fd.map V.int++[.int v]))) l=some (.lst (fd'.map V.int))∧PlSt p n ss inp (i+1) rest fd':=fun er v ev=>by
   have S':=S.next hp.1 hzs R0
   rw [er,← ev] at S'
   refine ⟨am s2 hlH,rest,_,_,rfl,?_,InsAt.off hin hla,?_,S'⟩
   ·rw [aB hRl]
    exact hR2
   ·rw [upd_same,List.map_append]
    rfl
  refine ⟨_,rfl,b,_,_,.str z.word,rfl,rfl,SqT.of hz,z.at0,rfl,_,rfl,?_⟩
  refine bi (fun c=>?_) (fun c0=>?_)
  ·obtain ⟨h,rfl⟩:=word_ein (V.str.inj (of_decide_eq_true c))
   have h1:=R0.1
   have h2:=R0.2
   have hk:(h - 1).toNat<as.length:=by rw [al];omega
   obtain ⟨e,he⟩:∃ e,as[(h - 1).toNat]?=some e:=⟨_,List.getElem?_eq_getElem hk⟩
   obtain ⟨r0,hr0,her⟩:=hin.get he
   obtain ⟨x,r,exr⟩:=S.head hzs h1 h2
   have er:r0=x::r:=by
    rw [← exr]
    unfold bL
    rw [List.getD_eq_getElem?_getD,hr0]
    rfl
   subst er
   have el:e≠l:=fun z=>hla (by rw [← z];exact List.mem_of_getElem? he)
   have hat:atI (as.map V.ref) (h - 1)=some (.ref e):=by
    have q:atI (as.map V.ref) (((h - 1).toNat:Nat):Int)=some (.ref e):=jw (by rw [List.getElem?_map,he];rfl)
    rw [show (((h - 1).toNat:Nat):Int)=h - 1 by omega] at q
    exact q
   have hix:seqIndex? 0 ((x::r).map V.int).length=some 0:=(nt (jJ (k:=0) (by decide) (by rw [List.length_map,List.length_cons];omega))).1
   have hl3:(upd H2 e (.lst (((x::r).map V.int).eraseIdx 0))) l=some (.lst (fd.map V.int)):=by rw [aB el.symm];exact hl2
   refine ⟨_,rfl,.inl ⟨rfl,_,SqL.of hl2⟩,_,rfl,_,rfl,b,_,_,.int h,rfl,rfl,SqT.of hz,rfl,_,_,rfl,rfl,R,_,_,.ref e,rfl,rfl,SqL.of hR2,hat,.inl ⟨rfl,_,SqL.of her⟩,e,_,0,0,.int x,rfl,rfl,her,by decide,by decide,hix,rfl,l,_,_,rfl,rfl,hl3,by rw [List.length_map,fl];exact au (by omega),?_⟩
   have eR:e≠R:=fun z=>hRa (by rw [← z];exact List.mem_of_getElem? he)
   have S':=S.next hp.1 hzs R0
   have ev:lq p rest fd (.ein h)=x:=by simp only [lq,exr,List.headD_cons]
   have es:dU rest (.ein h)=rest.set (h - 1).toNat r:=by simp only [dU,exr,List.tail_cons]
   rw [ev,es] at S'
   refine ⟨am (am s2 (hfr e (List.mem_of_getElem? he))) hlH,_,_,_,rfl,?_,?_,?_,S'⟩
   ·rw [aB hRl,aB eR.symm]
    exact hR2
   ·exact InsAt.off (InsAt.put (r:=r) hin nd he) hla
   ·rw [upd_same,List.map_append]
    rfl
  refine ⟨_,rfl,b,_,_,.str z.word,rfl,rfl,SqT.of hz,z.at0,rfl,_,rfl,?_⟩
  refine bi (fun c=>?_) (fun c1=>?_)
  ·obtain ⟨x,rfl⟩:=word_fix (V.str.inj (of_decide_eq_true c))
   exact ⟨_,rfl,.inl ⟨rfl,_,SqL.of hl2⟩,_,rfl,b,_,_,.int x,rfl,rfl,SqT.of hz,rfl,l,_,_,rfl,rfl,hl2,by rw [List.length_map,fl];exact au (by omega),finO rfl rfl⟩
  refine ⟨_,rfl,b,_,_,.str z.word,rfl,rfl,SqT.of hz,z.at0,rfl,_,rfl,?_⟩
  refine bi (fun c=>?_) (fun c2=>?_)
  ·obtain ⟨a1,x,rfl⟩:=word_bye (V.str.inj (of_decide_eq_true c))
   exact ⟨_,rfl,.inl ⟨rfl,_,SqL.of hl2⟩,_,rfl,_,rfl,b,_,_,.int a1,rfl,rfl,SqT.of hz,rfl,l,_,_,.int (fd.getD a1.toNat 0),rfl,rfl,SqL.of hl2,cg R0.1.1 (by rw [fl];exact R0.1.2),_,rfl,b,_,_,.int x,rfl,rfl,SqT.of hz,rfl,_,_,rfl,rfl,.inr ⟨by have:=R0.2;omega,by have:=R0.2;omega⟩,_,rfl,_,_,rfl,rfl,by omega,l,_,_,rfl,rfl,hl2,by rw [List.length_map,fl];exact au (by omega),finO rfl rfl⟩
  refine ⟨_,rfl,b,_,_,.str z.word,rfl,rfl,SqT.of hz,z.at0,rfl,_,rfl,?_⟩
  refine bi (fun c=>?_) (fun c3=>?_)
  ·obtain ⟨a1,a2,rfl⟩:=word_sum (V.str.inj (of_decide_eq_true c))
   exact ⟨_,rfl,.inl ⟨rfl,_,SqL.of hl2⟩,_,rfl,_,rfl,b,_,_,.int a1,rfl,rfl,SqT.of hz,rfl,l,_,_,.int (fd.getD a1.toNat 0),rfl,rfl,SqL.of hl2,cg R0.1.1 (by rw [fl];exact R0.1.2),_,rfl,_,rfl,b,_,_,.int a2,rfl,rfl,SqT.of hz,rfl,l,_,_,.int (fd.getD a2.toNat 0),rfl,rfl,SqL.of hl2,cg R0.2.1 (by rw [fl];exact R0.2.2),_,_,rfl,rfl,_,rfl,_,_,rfl,rfl,by omega,l,_,_,rfl,rfl,hl2,by rw [List.length_map,fl];exact au (by omega),finO rfl rfl⟩
  refine ⟨_,rfl,b,_,_,.str z.word,rfl,rfl,SqT.of hz,z.at0,rfl,_,rfl,?_⟩
  refine bi (fun c=>?_) (fun c4=>?_)
  ·obtain ⟨a1,a2,rfl⟩:=pR (V.str.inj (of_decide_eq_true c))
   exact ⟨_,rfl,.inl ⟨rfl,_,SqL.of hl2⟩,_,rfl,_,rfl,b,_,_,.int a1,rfl,rfl,SqT.of hz,rfl,l,_,_,.int (fd.getD a1.toNat 0),rfl,rfl,SqL.of hl2,cg R0.1.1 (by rw [fl];exact R0.1.2),_,rfl,_,rfl,b,_,_,.int a2,rfl,rfl,SqT.of hz,rfl,l,_,_,.int (fd.getD a2.toNat 0),rfl,rfl,SqL.of hl2,cg R0.2.1 (by rw [fl];exact R0.2.2),_,_,rfl,rfl,_,rfl,_,_,rfl,rfl,by omega,l,_,_,rfl,rfl,hl2,by rw [List.length_map,fl];exact au (by omega),finO rfl rfl⟩
  refine ⟨_,rfl,b,_,_,.str z.word,rfl,rfl,SqT.of hz,z.at0,rfl,_,rfl,?_⟩
  refine bi (fun c=>?_) (fun c5=>?_)
  ·obtain ⟨a1,a2,rfl⟩:=word_mul (V.str.inj (of_decide_eq_true c))
   have gb:=gK S.fb R0.1.1 (by rw [fl];exact R0.1.2)
   exact ⟨_,rfl,.inl ⟨rfl,_,SqL.of hl2⟩,_,rfl,_,rfl,b,_,_,.int a1,rfl,rfl,SqT.of hz,rfl,l,_,_,.int (fd.getD a1.toNat 0),rfl,rfl,SqL.of hl2,cg R0.1.1 (by rw [fl];exact R0.1.2),_,rfl,_,rfl,b,_,_,.int a2,rfl,rfl,SqT.of hz,rfl,l,_,_,.int (fd.getD a2.toNat 0),rfl,rfl,SqL.of hl2,cg R0.2.1 (by rw [fl];exact R0.2.2),_,_,rfl,rfl,.inl ⟨by omega,by omega⟩,_,rfl,_,_,rfl,rfl,by omega,l,_,_,rfl,rfl,hl2,by rw [List.length_map,fl];exact au (by omega),finO rfl rfl⟩
  rcases pQ (fun e=>c0 (decide_eq_true (congrArg V.str e))) (fun e=>c1 (decide_eq_true (congrArg V.str e))) (fun e=>c2 (decide_eq_true (congrArg V.str e))) (fun e=>c3 (decide_eq_true (congrArg V.str e))) (fun e=>c4 (decide_eq_true (congrArg V.str e))) (fun e=>c5 (decide_eq_true (congrArg V.str e))) with ⟨a1,rfl⟩ | ⟨a1,rfl⟩
  ·exact ⟨_,rfl,.inl ⟨rfl,_,SqL.of hl2⟩,_,rfl,_,rfl,b,_,_,.int a1,rfl,rfl,SqT.of hz,rfl,l,_,_,.int (fd.getD a1.toNat 0),rfl,rfl,SqL.of hl2,cg R0.1 (by rw [fl];exact R0.2),l,_,_,rfl,rfl,hl2,by rw [List.length_map,fl];exact au (by omega),finO rfl rfl⟩
  ·exact ⟨_,rfl,.inl ⟨rfl,_,SqL.of hl2⟩,_,rfl,_,rfl,b,_,_,.int a1,rfl,rfl,SqT.of hz,rfl,l,_,_,.int (fd.getD a1.toNat 0),rfl,rfl,SqL.of hl2,cg R0.1 (by rw [fl];exact R0.2),l,_,_,rfl,rfl,hl2,by rw [List.length_map,fl];exact au (by omega),finO rfl rfl⟩
 ·rintro σ H2 ⟨s2,rest,fd,v5,rfl,hR2,hin,hl2,S⟩
  rw [wl] at S
  rw [S.fin] at hl2
  exact ⟨_,rfl,q l H2 s2 hlH hl2⟩
end
section
variable {P:Program}{w:World}{K:PySem.W.Frag}{mg:Str→Option Value}{base:Heap}{C pa:Addr}
theorem sc_law_some_by:az ["cell","table","without","hands","first"] ["cell","table","without"] (ao c9):=⟨rfl,rfl,rfl,by decide +kernel,rfl,by decide +kernel,by decide +kernel⟩
theorem o7 (F:Src K mg "_law_some_by" "_law_some_by" c9 ["cell","table","without"]) (B:Blt mg) (T:Tab K C):Ok P w K mg base CX0 1 "_law_some_by" ["cell","table","without"] (j7 C):=by
 refine F.ok sc_law_some_by (fun vs H Q E h=>?_) (fun f cdv A outer s H vs Q E hr h=>?_)
 ·obtain ⟨t,a,c,p,n,f,wo,rfl,_⟩:=h
  rfl
 obtain ⟨t,a,c,p,n,f,wo,rfl,⟨dx,ht⟩,hf,hn,h2f,ha,hwo,q⟩:=h
 refine ⟨_,(ad (bD 3 ["hand"] [("without",2)] sc_law_some_by.nd  (dN rfl B.range (aa ae (aa (aq aX (aJ (pv 1) rfl) ae) ac))) rfl (fun C s0 H0 ex=>by exact (ar (i:=0) (show List.Nodup [("hand":Str),"without"] by decide +kernel) rfl (Or.inl rfl))) (fun C s0 H0 ex=>by exact (mZ (av (kK K) (pv 0) (pv 1) rfl))) (fun C s0 H0 ex=>by exact (pv 0)))
  (ad (aD (i:=4) sc_law_some_by.nd rfl (Or.inl rfl) (aq aV (aq gd (pv 0) ae) (aN aG rfl B.len PySem.boot_len (aa (pv 3) ac))))
  (ad (bd (av bH (aq aV (pv 0) ae) ae (aH _))
   (ah (aA (aW ac)))
   aI)
  (ad (bd (PW.pt (jE (av bH (aq aV (pv 0) ae) ae (aH _)) (jE (av bH (aJ (pv 1) rfl) ae (aH _)) (gB (av bH (aN aG rfl B.len PySem.boot_len (aa (pv 3) ac)) ae (aH _))))))
   (ah (aA (aW (aa (aK aQ (pv 3) (pv 4) (fun _ _=>rfl)) ac))))
   aI)
  (ah (aA (aN mx rfl B.sorted PyProof.Rows.boot_sorted (aa (aW (aa (aK aQ (pv 3) (pv 4) (fun _ _=>rfl)) (aa (aK aQ (pv 3) (aq aV (aq aX (aq aX (pv 4) ae) (aq aV (aq gd (pv 0) ae) (aq bo (aN aG rfl B.len PySem.boot_len (aa (pv 3) ac)) ae))) (aN aG rfl B.len PySem.boot_len (aa (pv 3) ac))) (fun _ _=>rfl)) ac))) ac)))))))),?_⟩
 refine ⟨_,rfl,t,C,dx,_,_,rfl,ht,T.cl,T.nH,kX _ _ _,_,_,rfl,rfl,_,_,rfl,⟨by decide,by decide,by omega,by omega⟩,fun D hD=>?_⟩
 refine bS (fun i ys H2=>i≤n.toNat∧ys=(eU i wo).map V.int∧Same H H2) ⟨Nat.zero_le _,rfl,am (Same.refl _) hD⟩ ?_ ?_
 ·rintro i ys H2 hi ⟨_,rfl,s2⟩ hD2
  have hle:=oo i wo
  refine ⟨⟨rfl,rfl⟩,?_⟩
  refine ⟨_,rfl,_,rfl,a,_,rfl,.inl (SqL.of (s2 _ _ ha)),rfl,gN wo,_,rfl,?_⟩
  refine bi (fun c1=>?_) (fun c1=>?_)
  ·have c1:(!inV (.int (1+(i:Int))) (wo.map V.int))=true:=c1
   rw [eP] at c1
   refine ⟨_,rfl,hD2,by rw [List.length_map];exact au (by omega),by omega,?_,am s2 hD⟩
   rw [ik,if_pos c1,List.map_append]
   rfl
  ·have c1:¬ (!inV (.int (1+(i:Int))) (wo.map V.int))=true:=c1
   rw [eP] at c1
   refine ⟨hD2,by omega,?_,s2⟩
   rw [ik,if_neg c1,List.append_nil]
 rintro ys H2 ⟨_,rfl,s2⟩ hD2
 rw [show (n+1 - 1).toNat=n.toNat by omega] at hD2
 have hmany:=pz n.toNat wo
 have hle:=oo n.toNat wo
 have hbb:=qV (n:=n.toNat) (wo:=wo)
 have hri:=jR n.toNat wo
 generalize eU n.toNat wo=hs at hD2 hmany hle hbb hri
 have ht2:=s2 _ _ ht
 have hpos:0<((hs.map V.int).length:Int):=by rw [List.length_map];omega
 have one:∀ x∈hs,rL n f wo [x]:=fun x hx=>⟨List.pairwise_singleton _ _,fun y hy=>by
  have e:y=x:=by simpa using hy
  have:=hbb x hx
  rw [e]
  exact ⟨this.1,by omega,this.2.2⟩,by show (1:Int)≤f;omega⟩
 refine ⟨_,rfl,_,_,rfl,rfl,⟨by decide,by decide⟩,_,rfl,D,_,rfl,.inl (SqL.of hD2),_,_,rfl,rfl,hpos,?_⟩
 have f0:=Int.emod_nonneg (c / 3) (show ((hs.map V.int).length:Int)≠0 by omega)
 have f1:=Int.emod_lt_of_pos (c / 3) hpos
 dsimp only
 generalize c / 3%((hs.map V.int).length:Int)=fi at f0 f1
 rw [List.length_map] at f1 hpos
 obtain ⟨x1,hx1,ax1⟩:=int_at f0 f1
 have mx1:x1∈hs:=List.mem_of_getElem? hx1
 refine ⟨_,rfl,_,_,rfl,rfl,(by show (0:Int)<3;decide),rfl,_,rfl,?_⟩
 refine bi (fun c1=>?_) (fun c1=>?_)
 ·exact ⟨(by show 0≤sizeLine;decide),fun l hl=>q l _ [] (s2.trans (aj hl _)) (s2.free hl) upd_same ⟨.nil,(fun h hm=>nomatch hm),by show (0:Int)≤f;omega⟩⟩
 have fin1:∃ v,(some (V.ref D))=some v∧∃ v2,(some (V.int fi))=some v2∧True:=⟨_,rfl,_,rfl,trivial⟩
 refine ⟨_,rfl,_,_,rfl,rfl,(by show (0:Int)<3;decide),rfl,_,rfl,?_⟩
 refine bi (fun c2=>?_) (fun c2=>?_)
 ·refine pL ⟨_,rfl,_,rfl,D,_,_,.int x1,rfl,rfl,SqL.of hD2,ax1,(by show 1≤sizeLine;decide),fun l hl=>?_⟩
  exact q l _ [x1] (s2.trans (aj hl _)) (s2.free hl) upd_same (one x1 mx1)
 refine ⟨_,rfl,t,C,dx,_,_,rfl,ht2,T.cl,T.nF,tf_f _ _ _,rfl,_,rfl,?_⟩
 refine bi (fun c3=>?_) (fun c3=>?_)
 ·refine pL ⟨_,rfl,_,rfl,D,_,_,.int x1,rfl,rfl,SqL.of hD2,ax1,(by show 1≤sizeLine;decide),fun l hl=>?_⟩
  exact q l _ [x1] (s2.trans (aj hl _)) (s2.free hl) upd_same (one x1 mx1)
 have c3':¬ V.int f=V.int 1:=of_decide_eq_false (Bool.eq_false_iff.mpr c3)
 have f2:f=2:=by
  rcases hf with h | h
  ·exact absurd (by rw [h]) c3'
  ·exact h
 refine ⟨_,rfl,D,_,rfl,.inl (SqL.of hD2),rfl,_,rfl,?_⟩
 refine bi (fun c4=>?_) (fun c4=>?_)
 ·refine ⟨_,rfl,_,rfl,D,_,_,.int x1,rfl,rfl,SqL.of hD2,ax1,(by show 1≤sizeLine;decide),fun l hl=>?_⟩
  exact q l _ [x1] (s2.trans (aj hl _)) (s2.free hl) upd_same (one x1 mx1)
 have h3:3≤hs.length:=by omega
 have hm1:0<((hs.map V.int).length:Int) - 1:=by rw [List.length_map];omega
 have hpos':0<((hs.map V.int).length:Int):=by rw [List.length_map];omega
 have d0:=Int.emod_nonneg (c / 50) (show ((hs.map V.int).length:Int) - 1≠0 by omega)
 have d1:=Int.emod_lt_of_pos (c / 50) hm1
 have e0:=Int.emod_nonneg (fi+1+c / 50%(((hs.map V.int).length:Int) - 1)) (show ((hs.map V.int).length:Int)≠0 by omega)
 have e1:=Int.emod_lt_of_pos (fi+1+c / 50%(((hs.map V.int).length:Int) - 1)) hpos'
 have ne:(fi+1+c / 50%(((hs.map V.int).length:Int) - 1))%((hs.map V.int).length:Int)≠fi:=fun z=>by
  generalize c / 50%(((hs.map V.int).length:Int) - 1)=dd at d0 d1 z
  rw [List.length_map] at d1 z
  by_cases hlt:fi+1+dd<(hs.length:Int)
  ·rw [Int.emod_eq_of_lt (by omega) hlt] at z
   omega
  ·rw [← Int.sub_emod_right,Int.emod_eq_of_lt (by omega) (by omega)] at z
   omega
 obtain ⟨x2,hx2,ax2⟩:=int_at e0 (by rw [List.length_map] at e1;rw [List.length_map];exact e1)
 have mx2:x2∈hs:=List.mem_of_getElem? hx2
 have x12:x1≠x2:=fun z=>by
  subst z
  obtain ⟨b1,g1⟩:=List.getElem?_eq_some_iff.mp hx1
  obtain ⟨b2,g2⟩:=List.getElem?_eq_some_iff.mp hx2
  have nd:hs.Nodup:=hri.imp fun h=>by omega
  have:=(List.getElem_inj (h₀:=b1) (h₁:=b2) nd).mp (by rw [g1,g2])
  omega
 refine ⟨_,rfl,_,rfl,D,_,_,.int x1,rfl,rfl,SqL.of hD2,ax1,_,rfl,_,rfl,_,_,rfl,rfl,_,rfl,_,_,rfl,rfl,⟨by decide,by decide⟩,_,rfl,D,_,rfl,.inl (SqL.of hD2),_,_,rfl,rfl,_,_,rfl,rfl,hm1,_,_,rfl,rfl,_,rfl,D,_,rfl,.inl (SqL.of hD2),_,_,rfl,rfl,hpos',D,_,_,.int x2,rfl,rfl,SqL.of hD2,ax2,(by show 2≤sizeLine;decide),fun l hl=>?_⟩
 refine ⟨l,[x1,x2],rfl,SqL.of upd_same,(by show 2<64;decide),fun sp ms pm pw hsp=>?_⟩
 have s3:=s2.trans (aj hl (.lst [.int x1,.int x2]))
 refine q sp _ ms (s3.trans (aj hsp _)) (s3.free hsp) upd_same ⟨?_,fun y hy=>?_,by rw [pm.length_eq,f2];show (2:Int)≤2;decide⟩
 ·have ndm:ms.Nodup:=pm.symm.nodup (by simp [x12])
  exact (pw.and ndm).imp fun h=>by omega
 ·have:=pm.mem_iff.mp hy
  have hy2:y=x1∨y=x2:=by simpa using this
  rcases hy2 with e | e<;>rw [e]
  ·have:=hbb x1 mx1
   exact ⟨this.1,by omega,this.2.2⟩
  ·have:=hbb x2 mx2
   exact ⟨this.1,by omega,this.2.2⟩
end
section
variable {P:Program}{w:World}{K:PySem.W.Frag}{mg:Str→Option Value}{base:Heap}{C pa:Addr}
theorem sc_law_agree:az ["prime","steps","inputs","others","some","hand","ones","twos"] ["prime","steps","inputs","others","some"] (ao eB):=⟨rfl,rfl,rfl,by decide +kernel,rfl,by decide +kernel,by decide +kernel⟩
theorem ok_agree (F:Src K mg "_law_agree" "_law_agree" eB ["prime","steps","inputs","others","some"]) (B:Blt mg) (O_law_used:Ok P w K mg base CX0 1 "_law_used" ["steps","hand"] lC) (O_law_plain:Ok P w K mg base CX0 1 "_law_plain" ["prime","steps","inputs"] kb):Ok P w K mg base CX0 2 "_law_agree" ["prime","steps","inputs","others","some"] mV:=by
 refine F.ok sc_law_agree (fun vs H Q E h=>?_) (fun f cdv A outer s H vs Q E hr h=>?_)
 ·obtain ⟨a,b,d,e,p,n,ws,ss,is,os,inp,oth,sm,rfl,_⟩:=h
  rfl
 obtain ⟨a,ib,od,e,p,n,ws,ss,is,os,inp,oth,sm,rfl,hp,hn,ha,hss,hsl,RR,hib,hin,IO,hod,hot,OO,he,hsm,q⟩:=h
 have wl:ws.length=ss.length:=Paired.length hss
 refine ⟨_,(ad (bP PassesOwn.never rfl (bn (pv 4)) (ar (i:=5) sc_law_agree.nd rfl (Or.inl rfl))
   (ah (bd (av (n9 (hr.units)) (bR cU (aK aQ (pv 2) (aq bo (pv 5) ae) (fun _ _=>rfl)) cW (cz (ak O_law_used hr rfl (aa (pv 1) (aa (pv 5) ac))))) (bR cU (aK aQ (pv 3) (aq bo (pv 5) ae) (fun _ _=>rfl)) cW (cz (ak O_law_used hr rfl (aa (pv 1) (aa (pv 5) ac))))) (aH _))
   (ah (aA eV))
   aI)))
  (ad (aD (i:=6) sc_law_agree.nd rfl (Or.inr rfl) (ak O_law_plain hr rfl (aa (pv 0) (aa (pv 1) (aa (pv 2) ac)))))
  (ad (aD (i:=7) sc_law_agree.nd rfl (Or.inr rfl) (ak O_law_plain hr rfl (aa (pv 0) (aa (pv 1) (aa (pv 3) ac)))))
  (ah (aA (aN (gQ rfl) rfl B.all PyProof.Rows.boot_all (aa (bt ["at","step"] [("ones",6),("twos",7)]  (kH rfl B.enumerate (aa (pv 1) ac)) rfl (fun C s0 H0 ex=>by exact (du K 2 rfl (aE (ar (i:=0) (show List.Nodup [("at":Str),"step","ones","twos"] by decide +kernel) rfl (Or.inl rfl)) (aE (ar (i:=1) (show List.Nodup [("at":Str),"step","ones","twos"] by decide +kernel) rfl (Or.inl rfl)) bF)))) (fun C s0 H0 ex=>by exact aZ) (fun C s0 H0 ex=>by exact (pe_or (hV lX (aK (jp K) (pv 1) ae (fun _ _=>rfl)) aP (aH _)) (pe_one (hV bH (aK (dh K) (pv 2) (pv 0) (fun _ _=>rfl)) (aK (dh K) (pv 3) (pv 0) (fun _ _=>rfl)) (aH _)))))) ac))))))),?_⟩
 refine ⟨_,rfl,e,rfl,⟨_,SqL.of he⟩,b8 (K:=K) (a:=e) (xs:=sm.map V.int) (fun i σ H2=>Same H H2∧(sm.take i).all (fc ss inp oth)=true∧∃ v5:Option V,σ=[some (.int p),some (.ref a),some (.ref ib),some (.ref od),some (.ref e),v5,none,none]) ⟨Same.refl _,by simp,none,rfl⟩ ?_ ?_ ?_⟩
 ·rintro i σ H2 _ ⟨s2,_⟩
  exact SqL.of (s2 _ _ he)
 ·rintro i y σ H2 hy ⟨s2,hall,v5,rfl⟩
  obtain ⟨h,rfl,hh⟩:=aT hy
  have hb:=hsm h (List.mem_of_getElem? hh)
  obtain ⟨e1,at1,_,z1⟩:=gg (hin.same s2) IO.len hb.1 hb.2
  refine ⟨_,rfl,_,rfl,_,_,rfl,rfl,ib,_,_,.ref e1,rfl,rfl,SqL.of (s2 _ _ hib),at1,_,rfl,_,rfl,a,h,ws,ss,rfl,s2 _ _ ha,hss.same s2,hsl,fun H3 s3=>⟨(aR ss h:Int),rfl,e1,_,rfl,SqL.of (s3 _ _ z1),fun o1 ho1=>?_⟩⟩
  rw [took]
  have s4:=aj ho1 (.lst (((bL inp h).take (aR ss h)).map V.int))
  have hz4:(upd H3 o1 (.lst (((bL inp h).take (aR ss h)).map V.int))) o1=some (.lst (((bL inp h).take (aR ss h)).map V.int)):=upd_same
  generalize upd H3 o1 (.lst (((bL inp h).take (aR ss h)).map V.int))=H4 at s4 hz4
  have g4:=s2.trans (s3.trans s4)
  obtain ⟨e2,at2,_,z2⟩:=gg (hot.same g4) OO.len hb.1 hb.2
  refine ⟨_,rfl,_,rfl,_,_,rfl,rfl,od,_,_,.ref e2,rfl,rfl,SqL.of (g4 _ _ hod),at2,_,rfl,_,rfl,a,h,ws,ss,rfl,g4 _ _ ha,hss.same g4,hsl,fun H5 s5=>⟨(aR ss h:Int),rfl,e2,_,rfl,SqL.of (s5 _ _ z2),fun o2 ho2=>?_⟩⟩
  rw [took]
  have s6:=aj ho2 (.lst (((bL oth h).take (aR ss h)).map V.int))
  refine ⟨o1,o2,_,_,rfl,rfl,SqL.of (s6 _ _ (s5 _ _ hz4)),SqL.of upd_same,_,rfl,?_⟩
  have g6:=g4.trans (s5.trans s6)
  refine bi (fun c=>?_) (fun c=>?_)
  ·have ne:fc ss inp oth h=false:=by
    unfold fc
    refine decide_eq_false fun z=>?_
    rw [z] at c
    simp at c
   have ag:jy p ss inp oth sm=false:=by
    unfold jy
    rw [show sm.all (fc ss inp oth)=false from by
     rw [Bool.eq_false_iff]
     intro z
     have:=List.all_eq_true.mp z h (List.mem_of_getElem? hh)
     rw [ne] at this
     cases this]
    rfl
   have:=q _ g6
   rw [ag] at this
   exact this
  ·refine ⟨g6,?_,_,rfl⟩
   rw [← cO hh,List.all_append,hall]
   have eq:fc ss inp oth h=true:=by
    unfold fc
    refine decide_eq_true (Classical.byContradiction fun z=>c ?_)
    simp [z]
   simp [eq]
 rintro σ H2 ⟨s2,hall,v5,rfl⟩
 rw [List.length_map,List.take_length] at hall
 refine ⟨_,rfl,_,rfl,_,rfl,a,ib,p,n,ws,ss,is,inp,rfl,hp,hn,s2 _ _ ha,hss.same s2,hsl,RR,s2 _ _ hib,hin.same s2,IO,fun o1 H3 s3 h10 h13=>?_⟩
 have g3:=s2.trans s3
 refine ⟨_,rfl,_,rfl,_,rfl,a,od,p,n,ws,ss,os,oth,rfl,hp,hn,g3 _ _ ha,hss.same g3,hsl,RR,g3 _ _ hod,hot.same g3,OO,fun o2 H4 s4 h20 h24=>?_⟩
 have g4:=g3.trans s4
 have h14:=s4 _ _ h13
 have l1:=fh p ss inp
 have l2:=fh p ss oth
 refine ⟨_,rfl,a,_,rfl,SqL.of (g4 _ _ ha),fun D hD=>?_⟩
 refine mv (K:=K) (a:=a) (xs:=ws) (k0:=0) (fun i ys H5=>ys=(cY p ss inp oth (ss.take i) 0).map V.bl∧Same H4 H5) ⟨rfl,am (Same.refl _) hD⟩ ?_ ?_ ?_
 ·rintro i ys H5 ⟨_,s5⟩
  exact SqL.of (s5 _ _ (g4 _ _ ha))
 ·rintro i y ys H5 c hy ⟨rfl,s5⟩ hD5 hc
  obtain ⟨b,z,rfl,hz,hzs⟩:=(hss.same (g4.trans s5)).get hy
  have hi:i<ss.length:=(List.getElem?_eq_some_iff.mp hzs).1
  have s6:=aj hc (.tup [.int ((0+i:Nat):Int),.ref b])
  have ot:=jQ (p:=p) (ss:=ss) (inp:=inp) (oth:=oth) ss 0 i z hzs
  have yl:(cY p ss inp oth (ss.take i) 0).length≤100:=by rw [lU,List.length_take];omega
  refine ⟨c,_,rfl,SqT.of upd_same,rfl,_,_,rfl,_,_,rfl,rfl,⟨rfl,rfl⟩,?_⟩
  have fin:∀ v:Bool,v=eJ p ss inp oth (0+i) z→(cY p ss inp oth (ss.take i) 0).map V.bl++[V.bl v]=(cY p ss inp oth (ss.take (i+1)) 0).map V.bl:=fun v e=>by
   rw [ot,List.map_append,e]
   rfl
  refine ⟨_,rfl,b,_,_,.str z.word,rfl,rfl,SqT.of (s6 _ _ hz),z.at0,rfl,_,rfl,?_⟩
  refine bi (fun c1=>?_) (fun c1=>?_)
  ·have c1:(!decide (V.str z.word=V.str "open"))=true:=c1
   have nw:¬ z.word="open":=fun e=>by rw [e] at c1;simp at c1
   refine ⟨s6 _ _ hD5,by rw [List.length_map];exact au (by omega),fin true ?_,am (s5.trans s6) hD⟩
   unfold eJ
   rw [decide_eq_false nw]
   rfl
  ·have c1:¬ (!decide (V.str z.word=V.str "open"))=true:=c1
   have yw:z.word="open":=Classical.byContradiction fun e=>c1 (by
    have:¬ V.str z.word=V.str "open":=fun h=>e (by injection h)
    rw [decide_eq_false this]
    rfl)
   refine ⟨_,rfl,_,rfl,o1,_,_,.int ((bq p ss inp).getD i 0),rfl,rfl,SqL.of (s6 _ _ (s5 _ _ h14)),?_,_,rfl,_,rfl,o2,_,_,.int ((bq p ss oth).getD i 0),rfl,rfl,SqL.of (s6 _ _ (s5 _ _ h24)),?_,rfl,s6 _ _ hD5,by rw [List.length_map];exact au (by omega),fin _ ?_,am (s5.trans s6) hD⟩
   ·have:=cg (fd:=bq p ss inp) (a:=((0+i:Nat):Int)) (by omega) (by omega)
    rw [this]
    simp
   ·have:=cg (fd:=bq p ss oth) (a:=((0+i:Nat):Int)) (by omega) (by omega)
    rw [this]
    simp
   ·unfold eJ
    rw [decide_eq_true yw,Nat.zero_add]
    simp
 rintro ys H5 ⟨rfl,s5⟩ hD5
 rw [wl,List.take_length] at hD5
 refine ⟨D,_,rfl,SqL.of hD5,?_⟩
 have:=q H5 (g4.trans s5)
 unfold jy at this
 rw [hall,Bool.true_and] at this
 exact this
end
section
variable {P:Program}{w:World}{K:PySem.W.Frag}{mg:Str→Option Value}{base:Heap}{C pa:Addr}
theorem sc_law_pair_by:az ["script","table","many","way","one","two","steps","without","head","some","inputs","others","hand","taken","place","far","near","first","second"] ["script","table","many"] (ao dc):=⟨rfl,rfl,rfl,by decide +kernel,rfl,by decide +kernel,by decide +kernel⟩
theorem o8 (F:Src K mg "_law_pair_by" "_law_pair_by" dc ["script","table","many"]) (B:Blt mg) (T:Tab K C) (O_law_cell_at:Ok P w K mg base CX0 1 "_law_cell_at" ["script","k"] (lI K)) (O_law_step_by:Ok P w K mg base CX0 2 "_law_step_by" ["cell","at","table"] (iO C)) (O_law_steps_by:Ok P w K mg base CX0 3 "_law_steps_by" ["script","start","many","table"] (i6 K C)) (O_law_quiet:Ok P w K mg base CX0 1 "_law_quiet" ["steps"] mQ)
  (O_law_some_by:Ok P w K mg base CX0 1 "_law_some_by" ["cell","table","without"] (j7 C)) (O_law_inputs_by:Ok P w K mg base CX0 2 "_law_inputs_by" ["cell","steps","table"] (gX C)) (O_law_used:Ok P w K mg base CX0 1 "_law_used" ["steps","hand"] lC):Ok P w K mg base CX0 4 "_law_pair_by" ["script","table","many"] (mR K C):=by
 refine F.ok sc_law_pair_by (fun vs H Q E h=>?_) (fun f cdv A outer s H vs Q E hr h=>?_)
 ·obtain ⟨a,t,ns,m,p,n,f,rfl,_⟩:=h
  rfl
 obtain ⟨a,t,ns,m,p,n,f,rfl,hS,T1,hp,hf,hn,h2f,hm,q⟩:=h
 have p5:=m3 hp
 obtain ⟨dx,ht⟩:=id T1
 refine ⟨_,(ad (aD (i:=3) sc_law_pair_by.nd rfl (Or.inl rfl) (aq aV (ak O_law_cell_at hr rfl (aa (pv 0) (aa ae ac))) ae))
  (ad (aD (i:=4) sc_law_pair_by.nd rfl (Or.inl rfl) (aq aX ae (aq aV (aq gd (ak O_law_cell_at hr rfl (aa (pv 0) (aa ae ac))) ae) (aJ (pv 1) rfl))))
  (ad (aD (i:=5) sc_law_pair_by.nd rfl (Or.inl rfl) (aq aX ae (aq aV (aq gd (ak O_law_cell_at hr rfl (aa (pv 0) (aa ae ac))) ae) (aJ (pv 1) rfl))))
  (ad (aD (i:=6) sc_law_pair_by.nd rfl (Or.inl rfl) (ak O_law_steps_by hr rfl (aa (pv 0) (aa ae (aa (pv 2) (aa (pv 1) ac))))))
  (ad (aD (i:=7) sc_law_pair_by.nd rfl (Or.inl rfl) (aW ac))
  (ad (kF (bd (av fk (pv 3) (bX (aa ae (aa ae ac))) rfl)
   (ad (aD (i:=8) sc_law_pair_by.nd rfl (Or.inl rfl) (aW (aa (bX (aa aP (aa (pv 4) ac))) (aa (bX (aa aP (aa (pv 5) ac))) (aa (bX (aa (aK aQ (aW (aa aP (aa aP ac))) (aq bo (pv 3) ae) (fun _ _=>rfl)) (aa ae (aa ae ac)))) (aa (bX (aa aP (aa ae ac))) ac))))))
  (ad (aD (i:=6) sc_law_pair_by.nd rfl (Or.inl rfl) (aq eS (pv 8) (bt ["k"] [("table",1),("script",0)]  (dr rfl B.range (aa (pv 2) ac)) rfl (fun C s0 H0 ex=>by exact (ar (i:=0) (show List.Nodup [("k":Str),"table","script"] by decide +kernel) rfl (Or.inl rfl))) (fun C s0 H0 ex=>by exact aZ) (fun C s0 H0 ex=>by exact (ak O_law_step_by hr rfl (aa (ak O_law_cell_at hr rfl (aa (pv 2) (aa (aq aX ae (pv 0)) ac))) (aa (aq aX (pv 0) ae) (aa (pv 1) ac))))))))
  (ad (aD (i:=6) sc_law_pair_by.nd rfl (Or.inl rfl) (aq eS (pv 8) (ak O_law_quiet hr rfl (aa (bR cU (pv 6) (cz ae) cW) ac))))
  (ah (aD (i:=7) sc_law_pair_by.nd rfl (Or.inl rfl) (aW (aa (pv 4) (aa (pv 5) ac))))))))
   aI))
  (ad (kF (bd (av bH (pv 3) ae (aH _))
   (ah (aD (i:=6) sc_law_pair_by.nd rfl (Or.inl rfl) (ak O_law_quiet hr rfl (aa (pv 6) ac))))
   aI))
  (ad (aD (i:=9) sc_law_pair_by.nd rfl (Or.inl rfl) (ak O_law_some_by hr rfl (aa (ak O_law_cell_at hr rfl (aa (pv 0) (aa ae ac))) (aa (pv 1) (aa (pv 7) ac)))))
  (ad (aD (i:=10) sc_law_pair_by.nd rfl (Or.inl rfl) (ak O_law_inputs_by hr rfl (aa (ak O_law_cell_at hr rfl (aa (pv 0) (aa ae ac))) (aa (pv 6) (aa (pv 1) ac)))))
  (ad (aD (i:=11) sc_law_pair_by.nd rfl (Or.inl rfl) (ak O_law_inputs_by hr rfl (aa (ak O_law_cell_at hr rfl (aa (pv 0) (aa ae ac))) (aa (pv 6) (aa (pv 1) ac)))))
  (ad (bP PassesOwn.never rfl (bn (pv 9)) (ar (i:=12) sc_law_pair_by.nd rfl (Or.inl rfl))
   (ad (aD (i:=13) sc_law_pair_by.nd rfl (Or.inl rfl) (ak O_law_used hr rfl (aa (pv 6) (aa (pv 12) ac))))
  (ah (jc (aq eS (bR cU (aK aQ (pv 10) (aq bo (pv 12) ae) (fun _ _=>rfl)) cW (cz (pv 13))) (bR cU (aK aQ (pv 11) (aq bo (pv 12) ae) (fun _ _=>rfl)) (cz (pv 13)) cW)) (lS (pv 11) (aq bo (pv 12) ae) gu)))))
  (ad (kF (bd (av (n9 (hr.units)) (pv 7) (aW ac) (aH _))
   (ad (aD (i:=14) sc_law_pair_by.nd rfl (Or.inl rfl) (jf rF rfl B.int PyProof.Rows.boot_int (aa (hV bH (pv 4) (pv 5) (aH _)) ac)))
  (ad (aD (i:=15) sc_law_pair_by.nd rfl (Or.inl rfl) (aq aX ae (aq aV (ak O_law_cell_at hr rfl (aa (pv 0) (aa ae ac))) (aq bo (aJ (pv 1) rfl) ae))))
  (ad (aD (i:=16) sc_law_pair_by.nd rfl (Or.inl rfl) ae)
  (ad (nX PassesOwn.never (av lX (aq aV (aq bG (pv 15) (pv 16)) (aJ (pv 1) rfl)) ae (aH _))
   (ah (aD (i:=16) sc_law_pair_by.nd rfl (Or.inl rfl) (aq aX (pv 16) ae))))
  (ad (ps_par (i:=17) (j:=18) rfl sc_law_pair_by.nd rfl rfl (by decide) rfl rfl (aa (aK aQ (aK aQ (pv 10) (aq bo (pv 4) ae) (fun _ _=>rfl)) ae (fun _ _=>rfl)) (aa (aK aQ (aK aQ (pv 10) (aq bo (pv 5) ae) (fun _ _=>rfl)) (pv 14) (fun _ _=>rfl)) ac)) rfl)
  (ah (kF (bd (av bH (pv 3) ae (aH _))
   (ad (jc (aq aV (aq aX (pv 17) (pv 15)) (aJ (pv 1) rfl)) (lS (aK aQ (pv 11) (aq bo (pv 4) ae) (fun _ _=>rfl)) ae gu))
  (ah (jc (aq aV (aq bo (pv 18) (pv 15)) (aJ (pv 1) rfl)) (lS (aK aQ (pv 11) (aq bo (pv 5) ae) (fun _ _=>rfl)) (pv 14) gu))))
   (ad (jc (aq aV (aq bG (pv 17) (pv 15)) (aJ (pv 1) rfl)) (lS (aK aQ (pv 11) (aq bo (pv 4) ae) (fun _ _=>rfl)) ae gu))
  (ah (jc (aq aV (aq bG (pv 18) (pv 16)) (aJ (pv 1) rfl)) (lS (aK aQ (pv 11) (aq bo (pv 5) ae) (fun _ _=>rfl)) (pv 14) gu))))))))))))
   aI))
  (ah (aA (bX (aa (pv 6) (aa (pv 10) (aa (pv 11) (aa (pv 9) ac))))))))))))))))))),?_⟩
 refine ⟨_,rfl,a,ns,1,rfl,hS,by decide,fun H1 s1=>⟨_,_,rfl,rfl,(by show (0:Int)<4;decide),?_⟩⟩
 refine ⟨_,rfl,a,ns,1,rfl,s1.seq hS,by decide,fun H2 s2=>⟨_,_,rfl,rfl,⟨by decide,by decide⟩,_,rfl,t,C,dx,_,_,rfl,s2 _ _ (s1 _ _ ht),T.cl,T.nH,kX _ _ _,_,_,rfl,rfl,by omega,_,_,rfl,rfl,?_⟩⟩
 have g2:=s1.trans s2
 refine ⟨_,rfl,a,ns,1,rfl,g2.seq hS,by decide,fun H3 s3=>⟨_,_,rfl,rfl,⟨by decide,by decide⟩,_,rfl,t,C,dx,_,_,rfl,s3 _ _ (g2 _ _ ht),T.cl,T.nH,kX _ _ _,_,_,rfl,rfl,by omega,_,_,rfl,rfl,?_⟩⟩
 have g3:=g2.trans s3
 have w0:=Int.emod_nonneg (bT ns 1) (show (4:Int)≠0 by decide)
 have w4:=Int.emod_lt_of_pos (bT ns 1) (show (0:Int)<4 by decide)
 have o0:=Int.emod_nonneg (bT ns 1 / 4) (show n≠0 by omega)
 have o1:=Int.emod_lt_of_pos (bT ns 1 / 4) (show 0<n by omega)
 have u0:=Int.emod_nonneg (bT ns 1 / 32) (show n≠0 by omega)
 have u1:=Int.emod_lt_of_pos (bT ns 1 / 32) (show 0<n by omega)
 dsimp only
 generalize bT ns 1%4=way at w0 w4
 obtain ⟨one,hone⟩:∃ one,1+bT ns 1 / 4%n=one:=⟨_,rfl⟩
 obtain ⟨two,htwo⟩:∃ two,1+bT ns 1 / 32%n=two:=⟨_,rfl⟩
 rw [hone,htwo]
 have b1:1≤one∧one≤n:=by omega
 have b2:1≤two∧two≤n:=by omega
 clear hone htwo o0 o1 u0 u1
 refine ⟨_,rfl,_,rfl,_,rfl,a,t,ns,10,_,p,n,f,rfl,g3.seq hS,by decide,by omega,by omega,T1.same g3,by omega,by omega,fun sa H4 ws s4 hsa0 hsa hws=>?_⟩
 have g4:=g3.trans s4
 rw [show ((m:Int)).toNat=m by omega] at hws
 have rs:dw p n (dE ns 10 m p n):=j3 (by omega) (by omega)
 have rl:(dE ns 10 m p n).length=m:=by unfold dE;rw [List.length_map,List.length_range]
 generalize dE ns 10 m p n=ss at hws rs rl
 refine ⟨(by show 0≤sizeLine;decide),fun wa hwa=>?_⟩
 have s5:=aj hwa (.lst [])
 have hwa5:(upd H4 wa (.lst [])) wa=some (.lst []):=upd_same
 generalize upd H4 wa (.lst [])=H5 at s5 hwa5
 have g5:=g4.trans s5
 refine ⟨JP1 H p n (m+4) a t (m:Int) way one two,?_,?_⟩
 ·refine ⟨_,rfl,(by show 2≤sizeLine;decide),fun tw htw=>⟨tw,_,rfl,.inr (SqT.of upd_same),rfl,by decide,_,rfl,?_⟩⟩
  have s6:=aj htw (.tup [.int 1,.int 2])
  generalize upd H5 tw (.tup [.int 1,.int 2])=H6 at s6
  have g6:=g5.trans s6
  refine bi (fun c1=>?_) (fun c1=>?_)
  ·have c1:inV (.int way) ([1,2].map V.int)=true:=c1
   rw [eP] at c1
   have c1:way=1∨way=2:=by simpa using c1
   refine ⟨_,rfl,(by show 2≤sizeLine;decide),fun d1 hd1=>?_⟩
   have q1:=aj hd1 (.tup [.str "in",.int one])
   have z1:(upd H6 d1 (.tup [.str "in",.int one])) d1=some (.tup (Stp.ein one).vs):=upd_same
   generalize upd H6 d1 (.tup [.str "in",.int one])=H7 at q1 z1
   refine ⟨_,rfl,(by show 2≤sizeLine;decide),fun d2 hd2=>?_⟩
   have q2:=aj hd2 (.tup [.str "in",.int two])
   have z2:(upd H7 d2 (.tup [.str "in",.int two])) d2=some (.tup (Stp.ein two).vs):=upd_same
   generalize upd H7 d2 (.tup [.str "in",.int two])=H8 at q2 z2
   have hw3:∃ x,atI [V.str "sum",V.str "mul"] (way - 1)=some (.str x)∧[V.str x,V.int 0,V.int 1]=(if way=1 then Stp.sum 0 1 else Stp.mul 0 1).vs:=by
    rcases c1 with e | e<;>rw [e]
    ·exact ⟨"sum",rfl,rfl⟩
    ·exact ⟨"mul",rfl,rfl⟩
   obtain ⟨wx,hwx,hwv⟩:=hw3
   refine ⟨(by show 2≤sizeLine;decide),fun l hl=>⟨_,rfl,_,_,rfl,rfl,l,_,_,.str wx,rfl,rfl,SqL.of upd_same,hwx,(by show 3≤sizeLine;decide),fun d3 hd3=>?_⟩⟩
   have q3:=(aj hl (.lst [.str "sum",.str "mul"])).trans (aj hd3 (.tup [.str wx,.int 0,.int 1]))
   have z3:(upd (upd H8 l (.lst [.str "sum",.str "mul"])) d3 (.tup [.str wx,.int 0,.int 1])) d3=some (.tup (if way=1 then Stp.sum 0 1 else Stp.mul 0 1).vs):=by rw [upd_same,hwv]
   generalize upd (upd H8 l (.lst [.str "sum",.str "mul"])) d3 (.tup [.str wx,.int 0,.int 1])=H9 at q3 z3
   refine ⟨(by show 2≤sizeLine;decide),fun d4 hd4=>?_⟩
   have q4:=aj hd4 (.tup [.str "open",.int 2])
   have z4:(upd H9 d4 (.tup [.str "open",.int 2])) d4=some (.tup (Stp.opn 2).vs):=upd_same
   generalize upd H9 d4 (.tup [.str "open",.int 2])=H10 at q4 z4
   refine ⟨(by show 4≤sizeLine;decide),fun hA hhA=>?_⟩
   have q5:=aj hhA (.lst [V.ref d1,V.ref d2,V.ref d3,V.ref d4])
   have zA:(upd H10 hA (.lst [V.ref d1,V.ref d2,V.ref d3,V.ref d4])) hA=some (.lst [V.ref d1,V.ref d2,V.ref d3,V.ref d4]):=upd_same
   have hdS:StpsAt (upd H10 hA (.lst [V.ref d1,V.ref d2,V.ref d3,V.ref d4])) [V.ref d1,V.ref d2,V.ref d3,V.ref d4] (headL way one two) :=
    .cons ⟨d1,rfl,q5 _ _ (q4 _ _ (q3 _ _ (q2 _ _ z1)))⟩ (.cons ⟨d2,rfl,q5 _ _ (q4 _ _ (q3 _ _ z2))⟩ (.cons ⟨d3,rfl,q5 _ _ (q4 _ _ z3)⟩ (.cons ⟨d4,rfl,q5 _ _ z4⟩ .nil)))
   have g11:=g6.trans (q1.trans (q2.trans (q3.trans (q4.trans q5))))
   generalize upd H10 hA (.lst [V.ref d1,V.ref d2,V.ref d3,V.ref d4])=H11 at q5 zA hdS g11
   refine ⟨_,rfl,_,rfl,(m:Int),rfl,by omega,by omega,fun D hD=>?_⟩
   refine bS (fun i ys H12=>i≤m∧StpsAt H12 ys (jm ns p n i)∧Same H11 H12) ⟨Nat.zero_le _,.nil,am (Same.refl _) hD⟩ ?_ ?_
   ·rintro i ys H12 hi ⟨_,hys,s12⟩ hD2
    have yl:ys.length=i:=by rw [Paired.length hys];unfold jm;rw [List.length_map,List.length_range]
    refine ⟨⟨rfl,rfl⟩,?_⟩
    refine ⟨_,rfl,_,rfl,_,_,rfl,rfl,a,ns,_,rfl,(g11.trans s12).seq hS,by omega,fun H13 s13=>?_⟩
    refine ⟨_,rfl,_,_,rfl,rfl,_,rfl,t,_,_,p,n,f,rfl,T1.same (g11.trans (s12.trans s13)),by omega,by omega,by omega,fun d H14 s14 hd0 hd14=>?_⟩
    have s34:=s13.trans s14
    refine ⟨s34 _ _ hD2,au (by omega),by omega,?_,am (s12.trans s34) hD⟩
    unfold jm at hys ⊢
    rw [← map_take]
    refine StpsAt.upd (s34 _ _ hD2) (StpsAt.snoc (hys.same s34) ?_)
    rw [hd14,Int.zero_add]
   rintro ys H12 ⟨_,hys,s12⟩ hD12
   rw [show ((m:Int)).toNat=m by omega] at hys
   have yl:ys.length=m:=by rw [Paired.length hys];unfold jm;rw [List.length_map,List.length_range]
   have ml:(jm ns p n m).length=m:=by unfold jm;rw [List.length_map,List.length_range]
   refine ⟨hA,D,_,_,rfl,rfl,s12 _ _ zA,hD12,small (by show 4+ys.length≤1000;omega),fun o1 ho1=>?_⟩
   have s13:=aj ho1 (.lst ([V.ref d1,V.ref d2,V.ref d3,V.ref d4]++ys))
   have zo:(upd H12 o1 (.lst ([V.ref d1,V.ref d2,V.ref d3,V.ref d4]++ys))) o1=some (.lst ([V.ref d1,V.ref d2,V.ref d3,V.ref d4]++ys)):=upd_same
   generalize upd H12 o1 (.lst ([V.ref d1,V.ref d2,V.ref d3,V.ref d4]++ys))=H13 at s13 zo
   refine ⟨_,rfl,_,rfl,((4:Nat):Int),rfl,o1,_,rfl,SqL.of zo,fun o2 ho2=>?_⟩
   rw [fO]
   have s14:=aj ho2 (.lst (([V.ref d1,V.ref d2,V.ref d3,V.ref d4]++ys).drop 4))
   have zo2:(upd H13 o2 (.lst (([V.ref d1,V.ref d2,V.ref d3,V.ref d4]++ys).drop 4))) o2=some (.lst ys):=upd_same
   generalize upd H13 o2 (.lst (([V.ref d1,V.ref d2,V.ref d3,V.ref d4]++ys).drop 4))=H14 at s14 zo2
   have g14:=s12.trans (s13.trans s14)
   refine ⟨o2,ys,jm ns p n m,rfl,zo2,hys.same (s13.trans s14),by omega,fun D2 H15 ys2 s15 hD20 hD2 hys2=>?_⟩
   have g15:=g14.trans s15
   have y2l:ys2.length=m:=by rw [Paired.length hys2,List.length_map];exact ml
   refine ⟨hA,D2,_,_,rfl,rfl,g15 _ _ zA,hD2,small (by show 4+ys2.length≤1000;omega),fun o3 ho3=>?_⟩
   have s16:=aj ho3 (.lst ([V.ref d1,V.ref d2,V.ref d3,V.ref d4]++ys2))
   have zo3:(upd H15 o3 (.lst ([V.ref d1,V.ref d2,V.ref d3,V.ref d4]++ys2))) o3=some (.lst ([V.ref d1,V.ref d2,V.ref d3,V.ref d4]++ys2)):=upd_same
   generalize upd H15 o3 (.lst ([V.ref d1,V.ref d2,V.ref d3,V.ref d4]++ys2))=H16 at s16 zo3
   refine ⟨_,rfl,_,rfl,(by show 2≤sizeLine;decide),fun wa2 hwa2=>?_⟩
   have s17:=aj hwa2 (.lst [.int one,.int two])
   refine ⟨g11.trans (g15.trans (s16.trans s17)),o3,wa2,_,headL way one two++(jm ns p n m).map fR,[one,two],_,rfl,s17 _ _ zo3,?_,?_,pq (by omega) (by omega) b1 b2,upd_same,.inr ⟨rfl,heads_of _ _ _⟩⟩
   ·exact jP (hdS.same (g15.trans (s16.trans s17))) (hys2.same (s16.trans s17))
   ·rw [List.length_append,List.length_map,ml]
    show 1≤4+m∧4+m≤m+4
    omega
  ·exact ⟨g6,sa,wa,ws,ss,[],none,rfl,s6 _ _ (s5 _ _ hsa),(hws.same s5).same s6,by omega,rs,s6 _ _ hwa5,.inl rfl⟩
 clear hws rs rl hwa5 hsa hsa0
 rintro σ H6 ⟨g6,sa1,wa1,ws1,ss1,wo1,v8,rfl,hsa1,hws1,ln1,rs1,hwa1,hwo1⟩
 refine ⟨JP1 H p n (m+4) a t (m:Int) way one two,?_,?_⟩
 ·refine ⟨_,rfl,rfl,_,rfl,?_⟩
  refine bi (fun c1=>?_) (fun c1=>?_)
  ·refine ⟨_,rfl,sa1,ws1,ss1,rfl,hsa1,hws1,by omega,fun D H7 ys s7 hD0 hD7 hys=>?_⟩
   refine ⟨g6.trans s7,D,wa1,ys,_,wo1,v8,rfl,hD7,hys,by rw [List.length_map];exact ln1,lQ rs1,s7 _ _ hwa1,?_⟩
   rcases hwo1 with h | ⟨h,hh⟩
   ·exact .inl h
   ·refine .inr ⟨h,?_⟩
    unfold rN
    rw [gT,gT]
    exact hh
  ·exact ⟨g6,sa1,wa1,ws1,ss1,wo1,v8,rfl,hsa1,hws1,ln1,rs1,hwa1,hwo1⟩
 clear g6 hsa1 hws1 ln1 rs1 hwa1 hwo1 hwa
 rintro σ H6 ⟨g6,sa,wa,ws,ss,wo,v8,rfl,hsa,hws,ln,rs,hwa,hwo⟩
 have wol:wo.length≤2:=by rcases hwo with h | ⟨h,_⟩<;>rw [h]<;>simp
 refine ⟨_,rfl,a,ns,2,rfl,g6.seq hS,by decide,fun H7 s7=>⟨_,rfl,_,rfl,t,wa,_,p,n,f,wo,rfl,T1.same (g6.trans s7),hf,hn,h2f,s7 _ _ hwa,wol,fun ea H8 sm s8 hea0 hea SO=>?_⟩⟩
 have g8:=g6.trans (s7.trans s8)
 have s78:=s7.trans s8
 refine ⟨_,rfl,a,ns,3,rfl,g8.seq hS,by decide,fun H9 s9=>⟨_,rfl,_,rfl,sa,t,_,p,n,f,ws,ss,rfl,T1.same (g8.trans s9),by omega,by omega,s9 _ _ (s78 _ _ hsa),hws.same (s78.trans s9),by omega,fun ia H10 is s10 hia0 hia isn hiais isf hin=>?_⟩⟩
 have g10:=g8.trans (s9.trans s10)
 have IO:InsOk p n ss (bp (bT ns 3) p ss n.toNat):=jr (by omega) (by omega)
 have IL:∀ r∈bp (bT ns 3) p ss n.toNat,r.length≤200:=fun r hr=>by
  unfold bp at hr
  obtain ⟨i,_,rfl⟩:=List.mem_map.mp hr
  have:=(inBy_len (c:=bT ns 3) (p:=p) (ss:=ss) (h:=1+(i:Int))).2
  omega
 generalize bp (bT ns 3) p ss n.toNat=inp at hin IO IL
 refine ⟨_,rfl,a,ns,4,rfl,g10.seq hS,by decide,fun H11 s11=>⟨_,rfl,_,rfl,sa,t,_,p,n,f,ws,ss,rfl,T1.same (g10.trans s11),by omega,by omega,s11 _ _ (s10 _ _ (s9 _ _ (s78 _ _ hsa))),hws.same (s78.trans (s9.trans (s10.trans s11))),by omega,fun oa H12 os s12 hoa0 hoa osn hoaos osf hot=>?_⟩⟩
 have OO:InsOk p n ss (bp (bT ns 4) p ss n.toNat):=jr (by omega) (by omega)
 have OL:∀ r∈bp (bT ns 4) p ss n.toNat,r.length≤200:=fun r hr=>by
  unfold bp at hr
  obtain ⟨i,_,rfl⟩:=List.mem_map.mp hr
  have:=(inBy_len (c:=bT ns 4) (p:=p) (ss:=ss) (h:=1+(i:Int))).2
  omega
 generalize bp (bT ns 4) p ss n.toNat=oth at hot OO OL
 have g11:=g10.trans s11
 have t11:=s9.trans (s10.trans s11)
 have hsa11:=t11 _ _ (s78 _ _ hsa)
 have hws11:=hws.same (s78.trans t11)
 have hwa11:=t11 _ _ (s78 _ _ hwa)
 have hea11:=t11 _ _ hea
 have hia11:=s11 _ _ hia
 have hin11:=hin.same s11
 have ht11:=g11 _ _ ht
 have st0:OthSt H11 H12 p n ss oa:=⟨s12,os,oth,hoa,osn,hoaos,osf,hot,OO,OL⟩
 clear hsa hws hwa hea hia hin s78 s7 s8 s9 s10 s11 s12 g8 g10 hoa hot OO OL osn hoaos osf hea0 hia0 isn hiais isf
 have usl:=j0 ss
 have ssl:ss.length≤34:=by omega
 refine ⟨_,rfl,ea,rfl,⟨_,SqL.of (st0.1 _ _ hea11)⟩,b8 (K:=K) (a:=ea) (xs:=sm.map V.int) (fun i σ H13=>OthSt H11 H13 p n ss oa∧∃ v12 v13:Option V,σ=[some (.ref a),some (.ref t),some (.int (m:Int)),some (.int way),some (.int one),some (.int two),some (.ref sa),some (.ref wa),v8,some (.ref ea),some (.ref ia),some (.ref oa),v12,v13,none,none,none,none,none]) ⟨st0,none,none,rfl⟩ ?_ ?_ ?_⟩
 ·rintro i σ H13 _ ⟨⟨s13,_⟩,_⟩
  exact SqL.of (s13 _ _ hea11)
 ·rintro i y σ H13 hy ⟨⟨s13,os,oth,hoa,osn,oan,osf,hot,OO,OL⟩,v12,v13,rfl⟩
  obtain ⟨h,rfl,hh⟩:=aT hy
  have hb:=SO.b h (List.mem_of_getElem? hh)
  refine ⟨_,rfl,_,rfl,sa,h,ws,ss,rfl,s13 _ _ hsa11,hws11.same s13,by omega,fun H14 s14=>?_⟩
  have g14:=s13.trans s14
  obtain ⟨e1,at1,_,z1⟩:=gg (hin11.same g14) IO.len hb.1 hb.2.1
  refine ⟨_,rfl,_,rfl,_,_,rfl,rfl,ia,_,_,.ref e1,rfl,rfl,SqL.of (g14 _ _ hia11),at1,_,rfl,(aR ss h:Int),rfl,e1,_,rfl,SqL.of z1,fun o1 ho1=>?_⟩
  rw [took]
  have s15:=aj ho1 (.lst (((bL inp h).take (aR ss h)).map V.int))
  have zo1:(upd H14 o1 (.lst (((bL inp h).take (aR ss h)).map V.int))) o1=some (.lst (((bL inp h).take (aR ss h)).map V.int)):=upd_same
  generalize upd H14 o1 (.lst (((bL inp h).take (aR ss h)).map V.int))=H15 at s15 zo1
  have t15:=s14.trans s15
  obtain ⟨e2,at2,ox2,z2⟩:=gg (hot.same t15) OO.len hb.1 hb.2.1
  refine ⟨_,rfl,_,rfl,_,_,rfl,rfl,oa,_,_,.ref e2,rfl,rfl,SqL.of (t15 _ _ hoa),at2,_,rfl,(aR ss h:Int),rfl,e2,_,rfl,SqL.of z2,fun o2 ho2=>?_⟩
  rw [fO,← List.map_drop]
  have s16:=aj ho2 (.lst (((bL oth h).drop (aR ss h)).map V.int))
  have eni:=IO.en h hb.1 hb.2.1
  have eno:=OO.en h hb.1 hb.2.1
  have lo:(bL oth h).length≤200:=OL _ (gJ (by rw [OO.len];omega))
  have ltk:((bL inp h).take (aR ss h)).length=aR ss h:=by rw [List.length_take];omega
  have nl:((bL inp h).take (aR ss h)++(bL oth h).drop (aR ss h)).length=(bL oth h).length:=by rw [List.length_append,ltk,List.length_drop];omega
  refine ⟨o1,o2,_,_,rfl,rfl,s16 _ _ zo1,upd_same,?_,fun o3 ho3=>?_⟩
  ·rw [← List.length_append,← List.map_append,List.length_map,nl]
   exact small (by omega)
  rw [← List.map_append]
  have s17:=s16.trans (aj ho3 (.lst (((bL inp h).take (aR ss h)++(bL oth h).drop (aR ss h)).map V.int)))
  have zo3:(upd (upd H15 o2 (.lst (((bL oth h).drop (aR ss h)).map V.int))) o3 (.lst (((bL inp h).take (aR ss h)++(bL oth h).drop (aR ss h)).map V.int))) o3=some (.lst (((bL inp h).take (aR ss h)++(bL oth h).drop (aR ss h)).map V.int)):=upd_same
  have t17:=t15.trans s17
  have o3H:H13 o3=none:=(t15.trans s16).free ho3
  generalize upd (upd H15 o2 (.lst (((bL oth h).drop (aR ss h)).map V.int))) o3 (.lst (((bL inp h).take (aR ss h)++(bL oth h).drop (aR ss h)).map V.int))=H17 at s17 zo3 t17
  have osl:os.length=n.toNat:=by rw [Paired.length hot,OO.len]
  refine ⟨_,rfl,_,rfl,_,_,rfl,rfl,oa,_,_,(h - 1).toNat,rfl,rfl,t17 _ _ hoa,?_,?_⟩
  ·rw [List.length_map,osl,jJ (by omega) (by omega)]
  have es:(os.map V.ref).set (h - 1).toNat (.ref o3)=(os.set (h - 1).toNat o3).map V.ref:=by rw [List.map_set]
  rw [es]
  have o3n:o3∉os:=hot.there o3H
  have o3a:oa≠o3:=fun e=>by rw [← e,hoa] at o3H;cases o3H
  have oan':oa∉os.set (h - 1).toNat o3:=fun e=>by
   rcases List.mem_or_eq_of_mem_set e with e | e
   ·exact oan e
   ·exact o3a e
  refine ⟨⟨am (s13.trans t17) hoa0,_,_,upd_same,l7 _ osn o3n,oan',fun b hb'=>?_,InsAt.off (jO _ (hot.same t17) zo3) oan',OO.put hb.1 hb.2.1 (fun x hx=>?_) (by rw [nl];exact eno),fun r hr=>?_⟩,_,_,rfl⟩
  ·rcases List.mem_or_eq_of_mem_set hb' with e | e
   ·exact osf b e
   ·rw [e]
    exact s13.free o3H
  ·rcases List.mem_append.mp hx with e | e
   ·exact IO.at hb.1 hb.2.1 x (List.mem_of_mem_take e)
   ·exact OO.at hb.1 hb.2.1 x (List.mem_of_mem_drop e)
  ·rcases List.mem_or_eq_of_mem_set hr with e | e
   ·exact OL r e
   ·rw [e,nl]
    exact lo
 rintro σ H13 ⟨st1,v12,v13,rfl⟩
 clear st0
 refine ⟨fun σ H'=>OthSt H11 H' p n ss oa∧∃ v12 v13 v14 v15 v16 v17 v18:Option V,σ=[some (.ref a),some (.ref t),some (.int (m:Int)),some (.int way),some (.int one),some (.int two),some (.ref sa),some (.ref wa),v8,some (.ref ea),some (.ref ia),some (.ref oa),v12,v13,v14,v15,v16,v17,v18],?_,?_⟩
 ·have s13:=st1.1
  refine ⟨_,rfl,(by show 0≤sizeLine;decide),fun le hle=>?_⟩
  have s14:=aj hle (.lst [])
  refine ⟨wa,le,wo,[],rfl,rfl,SqL.of (s14 _ _ (s13 _ _ hwa11)),SqL.of upd_same,_,rfl,?_⟩
  have st2:OthSt H11 (upd H13 le (.lst [])) p n ss oa:=st1.on s14
  clear st1
  have s13:=st2.1
  generalize upd H13 le (.lst [])=H14 at s14 st2 s13
  refine bi (fun c1=>?_) (fun c1=>⟨st2,_,_,_,_,_,_,_,rfl⟩)
  have hwo':wo=[one,two]∧rN ss one two:=by
   rcases hwo with h | h
   ·rw [h] at c1
    simp at c1
   ·exact h
  have hd:=hwo'.2
  refine ⟨_,rfl,_,rfl,rfl,.inr ⟨_,rfl,?_⟩⟩
  obtain ⟨pl,hpl⟩:∃ pl:Nat,(if decide (V.int one=V.int two) then (1:Int) else 0)=(pl:Int)∧pl≤1∧(pl=1→one=two):=by
   by_cases e:one=two
   ·exact ⟨1,by rw [e];simp,by omega,fun _=>e⟩
   ·refine ⟨0,?_,by omega,fun z=>by cases z⟩
    rw [if_neg (by intro z;have:=of_decide_eq_true z;injection this with this;exact e this)]
    rfl
  obtain ⟨hpl,pl1,plo⟩:=hpl
  dsimp only
  rw [hpl]
  have used1:1≤aR ss one:=by have:=hd.1;split at this<;>omega
  have used2:pl<aR ss two:=by
   have:=hd.2
   split at this
   ·omega
   ·rename_i ne
    have:pl≠1:=fun z=>ne (plo z)
    omega
  refine ⟨_,rfl,a,ns,5,rfl,(g11.trans s13).seq hS,by decide,fun H15 s15=>⟨_,rfl,t,C,dx,_,_,rfl,s15 _ _ (s13 _ _ ht11),T.cl,T.nP,gW _ _ _,_,_,rfl,rfl,_,_,rfl,rfl,by omega,_,_,rfl,rfl,?_⟩⟩
  have f0:=Int.emod_nonneg (bT ns 5) (show p - 1≠0 by omega)
  have f1:=Int.emod_lt_of_pos (bT ns 5) (show 0<p - 1 by omega)
  dsimp only
  obtain ⟨far,hfar⟩:∃ far,1+bT ns 5%(p - 1)=far:=⟨_,rfl⟩
  rw [hfar]
  have fb:1≤far∧far<p:=by omega
  have hbk:=eQ hp (x:=far) (by rw [Int.emod_eq_of_lt (by omega) fb.2];omega)
  have st3:=st2.on s15
  clear st2
  have s15':=st3.1
  refine ⟨fun k σ H'=>H15=H'∧∃ nr:Int,σ=[some (.ref a),some (.ref t),some (.int (m:Int)),some (.int way),some (.int one),some (.int two),some (.ref sa),some (.ref wa),v8,some (.ref ea),some (.ref ia),some (.ref oa),v12,v13,some (.int (pl:Int)),some (.int far),some (.int nr),none,none]∧1≤nr∧nr≤bw p far∧k=(bw p far - nr).toNat,⟨_,rfl,1,rfl,by decide,hbk.1.1,rfl⟩,?_⟩
  rintro k σ H' ⟨rfl,nr,rfl,n1,n2,rfl⟩
  refine ⟨_,rfl,_,rfl,_,_,rfl,rfl,.inl ⟨by omega,by omega⟩,_,rfl,t,C,dx,_,_,rfl,s15' _ _ ht11,T.cl,T.nP,gW _ _ _,_,_,rfl,rfl,by omega,rfl,_,rfl,?_⟩
  refine bi (fun c2=>?_) (fun c2=>?_)
  ·have nb:nr≠bw p far:=fun z=>by
    have c2:(!decide (V.int (far*nr%p)=V.int 1))=true:=c2
    rw [z,hbk.2] at c2
    simp at c2
   refine ⟨fun σ' H'=>H15=H'∧σ'=[some (.ref a),some (.ref t),some (.int (m:Int)),some (.int way),some (.int one),some (.int two),some (.ref sa),some (.ref wa),v8,some (.ref ea),some (.ref ia),some (.ref oa),v12,v13,some (.int (pl:Int)),some (.int far),some (.int (nr+1)),none,none],?_,?_⟩
   ·rintro σ' H' ⟨rfl,rfl⟩
    exact ⟨_,by omega,rfl,nr+1,rfl,by omega,by omega,rfl⟩
   ·exact ⟨_,rfl,_,_,rfl,rfl,rfl,rfl⟩
  obtain ⟨e1,at1,_,z1⟩:=gg (hin11.same s15') IO.len b1.1 b1.2
  obtain ⟨e2,at2,_,z2⟩:=gg (hin11.same s15') IO.len b2.1 b2.2
  have en1:=IO.en one b1.1 b1.2
  have en2:=IO.en two b2.1 b2.2
  have x1b:=gK (IO.at b1.1 b1.2) (a:=0) (by decide) (by omega)
  have x2b:=gK (IO.at b2.1 b2.2) (a:=(pl:Int)) (by omega) (by omega)
  have ax1:=cg (fd:=bL inp one) (a:=0) (by decide) (by omega)
  have ax2:=cg (fd:=bL inp two) (a:=(pl:Int)) (by omega) (by omega)
  generalize (bL inp one).getD (0:Int).toNat 0=x1 at x1b ax1
  generalize (bL inp two).getD (pl:Int).toNat 0=x2 at x2b ax2
  refine ⟨_,rfl,_,rfl,_,_,rfl,rfl,ia,_,_,.ref e1,rfl,rfl,SqL.of (s15' _ _ hia11),at1,e1,_,_,.int x1,rfl,rfl,SqL.of z1,ax1,_,rfl,_,rfl,_,_,rfl,rfl,ia,_,_,.ref e2,rfl,rfl,SqL.of (s15' _ _ hia11),at2,_,rfl,e2,_,_,.int x2,rfl,rfl,SqL.of z2,ax2,_,_,rfl,?_⟩
  refine ⟨fun σ H'=>OthSt H11 H' p n ss oa∧∃ v12 v13 v14 v15 v16 v17 v18:Option V,σ=[some (.ref a),some (.ref t),some (.int (m:Int)),some (.int way),some (.int one),some (.int two),some (.ref sa),some (.ref wa),v8,some (.ref ea),some (.ref ia),some (.ref oa),v12,v13,v14,v15,v16,v17,v18],?_,fun σ H' z=>z⟩
  have em:∀ x:Int,0≤x%p∧x%p<p:=fun x=>⟨Int.emod_nonneg _ (by omega),Int.emod_lt_of_pos _ (by omega)⟩
  refine ⟨_,rfl,rfl,_,rfl,?_⟩
  refine bi (fun c3=>?_) (fun c3=>?_)
  ·obtain ⟨e3,r3,o3,a3,hoa3,he3,hk3,hn3⟩:=n6 st3 b1.1 b1.2 used1
   refine ⟨_,rfl,_,rfl,_,_,rfl,rfl,_,rfl,t,C,dx,_,_,rfl,s15' _ _ ht11,T.cl,T.nP,gW _ _ _,_,_,rfl,rfl,by omega,_,rfl,_,rfl,_,_,rfl,rfl,oa,_,_,.ref e3,rfl,rfl,SqL.of hoa3,a3,e3,_,_,0,rfl,rfl,he3,by rw [List.length_map];exact jJ (k:=0) (by decide) (by omega),?_⟩
   have st4:=hn3 ((x1+far)%p) (em _) 0
   have s4:=st4.1
   obtain ⟨e4,r4,o4,a4,hoa4,he4,hk4,hn4⟩:=n6 st4 b2.1 b2.2 used2
   refine ⟨_,rfl,_,rfl,_,_,rfl,rfl,_,rfl,t,C,dx,_,_,rfl,s4 _ _ ht11,T.cl,T.nP,gW _ _ _,_,_,rfl,rfl,by omega,_,rfl,_,rfl,_,_,rfl,rfl,oa,_,_,.ref e4,rfl,rfl,SqL.of hoa4,a4,_,rfl,e4,_,_,pl,rfl,rfl,he4,by rw [List.length_map];exact jJ (k:=(pl:Int)) (by omega) (by omega),?_⟩
   exact ⟨hn4 ((x2 - far)%p) (em _) pl,_,_,_,_,_,_,_,rfl⟩
  ·obtain ⟨e3,r3,o3,a3,hoa3,he3,hk3,hn3⟩:=n6 st3 b1.1 b1.2 used1
   refine ⟨_,rfl,_,rfl,_,_,rfl,rfl,.inl ⟨by omega,by omega⟩,_,rfl,t,C,dx,_,_,rfl,s15' _ _ ht11,T.cl,T.nP,gW _ _ _,_,_,rfl,rfl,by omega,_,rfl,_,rfl,_,_,rfl,rfl,oa,_,_,.ref e3,rfl,rfl,SqL.of hoa3,a3,e3,_,_,0,rfl,rfl,he3,by rw [List.length_map];exact jJ (k:=0) (by decide) (by omega),?_⟩
   have st4:=hn3 (x1*far%p) (em _) 0
   have s4:=st4.1
   obtain ⟨e4,r4,o4,a4,hoa4,he4,hk4,hn4⟩:=n6 st4 b2.1 b2.2 used2
   refine ⟨_,rfl,_,rfl,_,_,rfl,rfl,.inl ⟨by omega,by omega⟩,_,rfl,t,C,dx,_,_,rfl,s4 _ _ ht11,T.cl,T.nP,gW _ _ _,_,_,rfl,rfl,by omega,_,rfl,_,rfl,_,_,rfl,rfl,oa,_,_,.ref e4,rfl,rfl,SqL.of hoa4,a4,_,rfl,e4,_,_,pl,rfl,rfl,he4,by rw [List.length_map];exact jJ (k:=(pl:Int)) (by omega) (by omega),?_⟩
   exact ⟨hn4 (x2*nr%p) (em _) pl,_,_,_,_,_,_,_,rfl⟩
 rintro σ H14 ⟨⟨s14,os,oth,hoa,osn,oan,osf,hot,OO,OL⟩,v12,v13,v14,v15,v16,v17,v18,rfl⟩
 refine ⟨_,rfl,_,rfl,_,rfl,_,rfl,(by show 4≤sizeLine;decide),fun d hd=>?_⟩
 have s15:=aj hd (.tup [.ref sa,.ref ia,.ref oa,.ref ea])
 have g15:=s14.trans s15
 exact q d sa ia oa ea _ ws ss is os inp oth sm wo (g11.trans g15) ((g11.trans s14).free hd) upd_same (g15 _ _ hsa11) (hws11.same g15) ln.1 ln.2 rs (g15 _ _ hia11) (hin11.same g15) IO (s15 _ _ hoa) (hot.same s15) OO (g15 _ _ hea11) SO IL OL
end
section
variable {P:Program}{w:World}{K:PySem.W.Frag}{mg:Str→Option Value}{base:Heap}{C pa:Addr}
theorem lN:az ["table","value"] ["table","value"] (ao eC):=⟨rfl,rfl,rfl,by decide +kernel,rfl,by decide +kernel,by decide +kernel⟩
theorem lY (F:Src K mg "is_number" "is_number" eC ["table","value"]) (T:Tab K C):Ok P w K mg base CX0 1 "is_number" ["table","value"] (ki C):=by
 refine F.ok lN (fun vs H Q E h=>?_) (fun f cdv A outer s H vs Q E hr h=>?_)
 ·obtain ⟨t,p,n,f,v,rfl,_⟩:=h
  rfl
 obtain ⟨t,p,n,f,v,rfl,⟨dx,ht⟩,q⟩:=h
 refine ⟨_,(ah (aA (iR m5 kL ae (pv 1) (aJ (pv 0) rfl)))),?_⟩
 refine ⟨_,rfl,_,_,rfl,rfl,_,rfl,?_⟩
 refine bi (fun c1=>?_) (fun c1=>?_)
 ·refine ⟨_,rfl,t,C,dx,_,_,rfl,ht,T.cl,T.nP,gW _ _ _,_,_,rfl,rfl,?_⟩
  have c1':0≤v:=of_decide_eq_true c1
  have e:jI p v=decide (v<p):=by unfold jI;simp [c1']
  have:=q H (Same.refl H)
  rw [e] at this
  exact this
 ·have c1':¬ 0≤v:=of_decide_eq_false (Bool.eq_false_iff.mpr c1)
  have e:jI p v=false:=by unfold jI;simp [c1']
  have:=q H (Same.refl H)
  rw [e] at this
  exact this
theorem sc_fits:az ["table","place","kind","value"] ["table","place","kind","value"] (ao nU):=⟨rfl,rfl,rfl,by decide +kernel,rfl,by decide +kernel,by decide +kernel⟩
theorem ok_fits (F:Src K mg "fits" "fits" nU ["table","place","kind","value"]) (T:Tab K C) (O_is_number:Ok P w K mg base CX0 1 "is_number" ["table","value"] (ki C)):Ok P w K mg base CX0 2 "fits" ["table","place","kind","value"] (qf C):=by
 refine F.ok sc_fits (fun vs H Q E h=>?_) (fun f cdv A outer s H vs Q E hr h=>?_)
 ·obtain ⟨t,p,n,f,pl,v,k,rfl,_⟩:=h
  rfl
 obtain ⟨t,p,n,f,pl,v,k,rfl,⟨dx,ht⟩,q⟩:=h
 refine ⟨_,(ad (bd (av bH (pv 2) aP (aH _))
   (ah (aA (iR m5 m5 ae (pv 3) (aJ (pv 0) rfl))))
   aI)
  (ad (bd (av bH (pv 2) aP (aH _))
   (ah (aA (ak O_is_number hr rfl (aa (pv 0) (aa (pv 3) ac)))))
   aI)
  (ah (aA (iR m5 kL ae (pv 3) (pv 1)))))),?_⟩
 have d:=q H (Same.refl H)
 refine ⟨_,rfl,rfl,_,rfl,?_⟩
 refine bi (fun c=>?_) (fun c=>?_)
 ·have c':V.str k=V.str "hand":=of_decide_eq_true c
  injection c' with c'
  subst c'
  rw [fit_h] at d
  refine ⟨_,rfl,_,_,rfl,rfl,_,rfl,?_⟩
  refine bi (fun c1=>?_) (fun c1=>?_)
  ·have c1':1≤v:=of_decide_eq_true c1
   refine ⟨_,rfl,t,C,dx,_,_,rfl,ht,T.cl,T.nH,kX _ _ _,_,_,rfl,rfl,?_⟩
   simp only [c1',true_and] at d
   exact d
  ·have c1':¬ 1≤v:=of_decide_eq_false (Bool.eq_false_iff.mpr c1)
   simp only [c1',false_and,decide_false] at d
   exact d
 have c':¬ k="hand":=fun z=>(of_decide_eq_false (Bool.eq_false_iff.mpr c):¬ V.str k=V.str "hand") (by rw [z])
 refine ⟨_,rfl,rfl,_,rfl,?_⟩
 refine bi (fun c=>?_) (fun c=>?_)
 ·have c2:V.str k=V.str "number":=of_decide_eq_true c
  injection c2 with c2
  refine ⟨_,rfl,_,rfl,t,p,n,f,v,rfl,⟨dx,ht⟩,fun H' s'=>?_⟩
  have e:ny p n pl k v=jI p v:=by unfold ny;rw [if_neg c',if_pos c2]
  have:=q H' s'
  rw [e] at this
  exact this
 have c2:¬ k="number":=fun z=>(of_decide_eq_false (Bool.eq_false_iff.mpr c):¬ V.str k=V.str "number") (by rw [z])
 have e:ny p n pl k v=decide (0≤v∧v<pl):=by unfold ny;rw [if_neg c',if_neg c2]
 rw [e] at d
 refine ⟨_,rfl,_,_,rfl,rfl,_,rfl,?_⟩
 refine bi (fun c1=>?_) (fun c1=>?_)
 ·have c1':0≤v:=of_decide_eq_true c1
  refine ⟨_,rfl,_,_,rfl,rfl,?_⟩
  simp only [c1',true_and] at d
  exact d
 ·have c1':¬ 0≤v:=of_decide_eq_false (Bool.eq_false_iff.mpr c1)
  simp only [c1',false_and,decide_false] at d
  exact d
theorem lO:az ["table"] ["table"] (ao eF):=⟨rfl,rfl,rfl,by decide +kernel,rfl,by decide +kernel,by decide +kernel⟩
theorem l6 (F:Src K mg "all_hands" "all_hands" eF ["table"]) (B:Blt mg) (T:Tab K C):Ok P w K mg base CX0 1 "all_hands" ["table"] (dM C):=by
 refine F.ok lO (fun vs H Q E h=>?_) (fun f cdv A outer s H vs Q E hr h=>?_)
 ·obtain ⟨t,p,n,f,rfl,_⟩:=h
  rfl
 obtain ⟨t,p,n,f,rfl,⟨dx,ht⟩,hn,q⟩:=h
 refine ⟨_,(ah (aA (iA rfl rfl B.list rfl B.range (aa ae (aa (aq aX (aJ (pv 0) rfl) ae) ac))))),?_⟩
 refine ⟨_,rfl,t,C,dx,_,_,rfl,ht,T.cl,T.nH,kX _ _ _,_,_,rfl,rfl,1,n+1,rfl,⟨by omega,by omega,by omega,by omega⟩,by omega,fun l hl=>?_⟩
 refine q l _ (aj hl _) hl ?_
 rw [upd_same]
 unfold ce
 rw [show (n+1 - 1).toNat=n.toNat by omega]
theorem oU:az ["table","step"] ["table","step"] (ao gA):=⟨rfl,rfl,rfl,by decide +kernel,rfl,by decide +kernel,by decide +kernel⟩
theorem o9 (F:Src K mg "dealers" "dealers" gA ["table","step"]) (B:Blt mg) (O_all_hands:Ok P w K mg base CX0 1 "all_hands" ["table"] (dM C)):Ok P w K mg base CX0 2 "dealers" ["table","step"] (cn C):=by
 refine F.ok oU (fun vs H Q E h=>?_) (fun f cdv A outer s H vs Q E hr h=>?_)
 ·obtain ⟨t,b,p,n,f,z,rfl,_⟩:=h
  rfl
 obtain ⟨t,b,p,n,f,z,rfl,T1,hn,hz,q⟩:=h
 refine ⟨_,(ad (bd (av bH (aK aY (pv 1) ae (fun _ _=>rfl)) aP (aH _))
   (ah (aA (aW (aa (aK aY (pv 1) ae (fun _ _=>rfl)) ac))))
   aI)
  (ad (bd (av fk (aK aY (pv 1) ae (fun _ _=>rfl)) (bX (aa aP (aa aP ac))) rfl)
   (ah (aA (ak O_all_hands hr rfl (aa (pv 0) ac))))
   aI)
  (ah (aA (aW ac))))),?_⟩
 refine ⟨_,rfl,b,_,_,.str z.word,rfl,rfl,SqT.of hz,z.at0,rfl,_,rfl,?_⟩
 refine bi (fun c=>?_) (fun c=>?_)
 ·have c':V.str z.word=V.str "in":=of_decide_eq_true c
  injection c' with c'
  cases z with
  | ein h =>
   refine ⟨_,rfl,b,_,_,.int h,rfl,rfl,SqT.of hz,rfl,(by show 1≤sizeLine;decide),fun l hl=>?_⟩
   exact q l _ (aj hl _) hl upd_same
  | _=>exact absurd c' (by simp only [Stp.word];decide +kernel)
 have c':¬ z.word="in":=fun e=>(of_decide_eq_false (Bool.eq_false_iff.mpr c):¬ V.str z.word=V.str "in") (by rw [e])
 refine ⟨_,rfl,b,_,_,.str z.word,rfl,rfl,SqT.of hz,z.at0,(by show 2≤sizeLine;decide),fun tt htt=>⟨tt,_,rfl,.inr (SqT.of upd_same),rfl,rfl,_,rfl,?_⟩⟩
 have s1:=aj htt (.tup [.str (Str.ofString "mul"),.str (Str.ofString "anew")])
 generalize upd H tt (.tup [.str (Str.ofString "mul"),.str (Str.ofString "anew")])=H1 at s1
 cases z with
 | ein h=>exact absurd rfl c'
 | mul a1 b1 =>
  refine bi (fun _=>?_) (fun c=>absurd (show inV (V.str (Str.ofString "mul")) [V.str (Str.ofString "mul"),V.str (Str.ofString "anew")]=true by decide +kernel) c)
  exact ⟨_,rfl,t,p,n,f,rfl,T1.same s1,hn,fun r H' s' hr h'=>q r H' (s1.trans s') (s1.free hr) h'⟩
 | anew a1 =>
  refine bi (fun _=>?_) (fun c=>absurd (show inV (V.str (Str.ofString "anew")) [V.str (Str.ofString "mul"),V.str (Str.ofString "anew")]=true by decide +kernel) c)
  exact ⟨_,rfl,t,p,n,f,rfl,T1.same s1,hn,fun r H' s' hr h'=>q r H' (s1.trans s') (s1.free hr) h'⟩
 | fix x =>
  refine bi (fun c=>absurd (show inV (V.str (Str.ofString "fix")) [V.str (Str.ofString "mul"),V.str (Str.ofString "anew")]=true from c) (by decide +kernel)) (fun _=>?_)
  exact ⟨(by show 0≤sizeLine;decide),fun l hl=>q l _ (s1.trans (aj hl _)) (s1.free hl) upd_same⟩
 | bye a1 x =>
  refine bi (fun c=>absurd (show inV (V.str (Str.ofString "by")) [V.str (Str.ofString "mul"),V.str (Str.ofString "anew")]=true from c) (by decide +kernel)) (fun _=>?_)
  exact ⟨(by show 0≤sizeLine;decide),fun l hl=>q l _ (s1.trans (aj hl _)) (s1.free hl) upd_same⟩
 | sum a1 x =>
  refine bi (fun c=>absurd (show inV (V.str (Str.ofString "sum")) [V.str (Str.ofString "mul"),V.str (Str.ofString "anew")]=true from c) (by decide +kernel)) (fun _=>?_)
  exact ⟨(by show 0≤sizeLine;decide),fun l hl=>q l _ (s1.trans (aj hl _)) (s1.free hl) upd_same⟩
 | less a1 x =>
  refine bi (fun c=>absurd (show inV (V.str (Str.ofString "less")) [V.str (Str.ofString "mul"),V.str (Str.ofString "anew")]=true from c) (by decide +kernel)) (fun _=>?_)
  exact ⟨(by show 0≤sizeLine;decide),fun l hl=>q l _ (s1.trans (aj hl _)) (s1.free hl) upd_same⟩
 | opn a1 =>
  refine bi (fun c=>absurd (show inV (V.str (Str.ofString "open")) [V.str (Str.ofString "mul"),V.str (Str.ofString "anew")]=true from c) (by decide +kernel)) (fun _=>?_)
  exact ⟨(by show 0≤sizeLine;decide),fun l hl=>q l _ (s1.trans (aj hl _)) (s1.free hl) upd_same⟩
theorem sc_is_right_step:az ["table","place","step","kinds"] ["table","place","step"] (ao cx):=⟨rfl,rfl,rfl,by decide +kernel,rfl,by decide +kernel,by decide +kernel⟩
theorem iK {fa:Addr}{kvs:List (Key×V)} (F:Src K mg "is_right_step" "is_right_step" cx ["table","place","step"]) (B:Blt mg) (FR:Frm P w K mg fa kvs) (O_fits:Ok P w K mg base CX0 2 "fits" ["table","place","kind","value"] (qf C)):Ok P w K mg base CX0 3 "is_right_step" ["table","place","step"] (fV C):=by
 refine F.ok sc_is_right_step (fun vs H Q E h=>?_) (fun f cdv A outer s H vs Q E hr h=>?_)
 ·obtain ⟨t,b,p,n,f,pl,z,rfl,_⟩:=h
  rfl
 obtain ⟨t,b,p,n,f,pl,z,rfl,T1,hz,q⟩:=h
 obtain ⟨kt,hkt,hks⟩:=FR.at_ z
 refine ⟨_,(ad (aD (i:=3) sc_is_right_step.nd rfl (Or.inl rfl) (pe_kget1 (m4 (v:=.ref _) rfl FR.g rfl) (aK aY (pv 2) ae (fun _ _=>rfl)) ⟨rfl,rfl,rfl,rfl⟩))
  (ad (bd (PW.pt (jE (av op_isN (pv 3) pe_non (aH _)) (gB (av lX (aN aG rfl B.len PySem.boot_len (aa (pv 2) ac)) (aq aX (aN aG rfl B.len PySem.boot_len (aa (pv 3) ac)) ae) (aH _)))))
   (ah (aA eV))
   aI)
  (ah (aA (aN (gQ rfl) rfl B.all PyProof.Rows.boot_all (aa (bt ["kind","value"] [("table",0),("place",1)]  (pi_zipT rfl B.zip (aa (pv 3) (aa (bR sl_tup (pv 2) (cz ae) cW) ac))) rfl (fun C s0 H0 ex=>by exact (du K 2 rfl (aE (ar (i:=0) (show List.Nodup [("kind":Str),"value","table","place"] by decide +kernel) rfl (Or.inl rfl)) (aE (ar (i:=1) (show List.Nodup [("kind":Str),"value","table","place"] by decide +kernel) rfl (Or.inl rfl)) bF)))) (fun C s0 H0 ex=>by exact aZ) (fun C s0 H0 ex=>by exact (ak O_fits hr rfl (aa (pv 2) (aa (pv 3) (aa (pv 0) (aa (pv 1) ac))))))) ac)))))),?_⟩
 refine ⟨fa,kvs,rfl,FR.d,_,rfl,b,_,_,.str z.word,rfl,rfl,SqT.of hz,z.at0,Sum.inr z.word,rfl,?_⟩
 rw [hkt]
 refine ⟨_,rfl,rfl,_,rfl,?_⟩
 refine bi (fun c=>absurd (of_decide_eq_true c:V.ref kt=V.non) (fun e=>nomatch e)) (fun _=>?_)
 have el:z.vs.length=z.kinds.length+1:=by rw [z.vs_eq,List.length_cons,List.length_map,z.kinds_len]
 refine ⟨_,rfl,b,_,rfl,.inr (SqT.of hz),_,rfl,kt,_,rfl,.inr (hks H),_,_,rfl,rfl,rfl,_,rfl,?_⟩
 refine bi (fun c=>absurd c ?_) (fun _=>?_)
 ·rw [el,List.length_map]
  simp
 have al:=z.args_len
 have kl:=z.kinds_len
 refine ⟨_,rfl,_,rfl,_,rfl,b,_,rfl,SqT.of hz,?_,fun d hd=>?_⟩
 ·intro e
  have:=e.1
  have h1:HT.sIx z.vs.length 0 (some 1)=1:=by
   rw [el]
   unfold HT.sIx
   simp
  rw [h1] at this
  cases this
 have ecut:ju z.vs (some 1) none=z.args.map V.int:=by
  have:=fO (xs:=z.vs) (k:=1)
  rw [show ((1:Nat):Int)=1 from rfl] at this
  rw [this,z.vs_eq]
  rfl
 rw [ecut]
 have s1:=aj hd (.tup (z.args.map V.int))
 have hd1:upd H d (.tup (z.args.map V.int)) d=some (.tup (z.args.map V.int)):=upd_same
 generalize upd H d (.tup (z.args.map V.int))=H1 at s1 hd1
 refine ⟨kt,d,_,_,rfl,hks H1,SqT.of hd1,fun D hD=>?_⟩
 have pr:∀ H2,Same H1 H2→Paired (SqS K H2) [(true,kt),(true,d)] [z.kinds.map V.str,z.args.map V.int]:=fun H2 s2=>.cons (show SqT K H2 kt _ from hks H2) (.cons (show SqT K H2 d _ from SqT.of (s2 _ _ hd1)) .nil)
 refine comp_zn (K:=K) (ss:=[(true,kt),(true,d)]) (xss:=[z.kinds.map V.str,z.args.map V.int]) (n:=z.args.length) (fun i ys H2=>i≤z.args.length∧ys=(((z.kinds.zip z.args).take i).map fun kv=>V.bl (ny p n pl kv.1 kv.2))∧Same H1 H2) (by simp) ?_ ⟨Nat.zero_le _,rfl,am (Same.refl _) hD⟩ ?_ ?_ ?_
 ·intro xs hx
  simp only [List.mem_cons,List.not_mem_nil,or_false] at hx
  rcases hx with r | r<;>rw [r,List.length_map]
  exact kl
 ·rintro i ys H2 ⟨_,_,s2⟩
  exact pr H2 s2
 ·rintro i zs ys H2 c hzs ⟨hi,rfl,s2⟩ hD2 hc
  cases hzs with
  | cons r1 r2 =>
  cases r2 with
  | cons r2 r3 =>
  cases r3
  rw [List.getElem?_map] at r1 r2
  cases hk:z.kinds[i]? with
  | none=>rw [hk] at r1;cases r1
  | some k =>
  cases hv:z.args[i]? with
  | none=>rw [hv] at r2;cases r2
  | some v =>
  rw [hk] at r1
  rw [hv] at r2
  cases r1
  cases r2
  have hil:i<z.args.length:=(List.getElem?_eq_some_iff.mp hv).1
  have s3:=aj hc (.tup [.str k,.int v])
  refine ⟨c,_,rfl,SqT.of upd_same,rfl,_,_,rfl,_,_,rfl,rfl,⟨rfl,rfl⟩,?_⟩
  refine ⟨_,rfl,_,rfl,_,rfl,_,rfl,t,p,n,f,pl,v,k,rfl,T1.same (s1.trans (s2.trans s3)),fun H4 s4=>?_⟩
  have s34:=s3.trans s4
  refine ⟨s34 _ _ hD2,au (by rw [List.length_map,List.length_take];omega),hil,?_,am (s2.trans s34) hD⟩
  have hz2:(z.kinds.zip z.args)[i]?=some (k,v):=by rw [List.getElem?_zip_eq_some];exact ⟨hk,hv⟩
  rw [List.take_add_one,hz2,List.map_append]
  rfl
 ·rintro ys H2 ⟨_,rfl,s2⟩ hD2
  refine ⟨D,((z.kinds.zip z.args).take z.args.length).map (fun kv=>ny p n pl kv.1 kv.2),rfl,SqL.of (by rw [hD2,List.map_map];rfl),?_⟩
  have e:(((z.kinds.zip z.args).take z.args.length).map (fun kv=>ny p n pl kv.1 kv.2)).all id=ix p n pl z:=by
   rw [List.take_of_length_le (by rw [List.length_zip];omega),List.all_map]
   rfl
  rw [e]
  exact q H2 (s1.trans s2)
theorem sc_right:az ["table","steps"] ["table","steps"] (ao kx):=⟨rfl,rfl,rfl,by decide +kernel,rfl,by decide +kernel,by decide +kernel⟩
theorem ok_right {tk:Tok} (F:Src K mg "right" "right" kx ["table","steps"]) (B:Blt mg) (gM:mg "MOST_STEPS"=some (.int 24 tk)) (O_is_right_step:Ok P w K mg base CX0 3 "is_right_step" ["table","place","step"] (fV C)):Ok P w K mg base CX0 4 "right" ["table","steps"] (mP C):=by
 refine F.ok sc_right (fun vs H Q E h=>?_) (fun f cdv A outer s H vs Q E hr h=>?_)
 ·obtain ⟨t,a,p,n,f,ws,ss,rfl,_⟩:=h
  rfl
 obtain ⟨t,a,p,n,f,ws,ss,rfl,T1,ha,hss,q⟩:=h
 have wl:ws.length=ss.length:=Paired.length hss
 refine ⟨_,(ad (bd (PW.pt (jE (av bH (aN aG rfl B.len PySem.boot_len (aa (pv 1) ac)) ae (aH _)) (gB (av op_gt (aN aG rfl B.len PySem.boot_len (aa (pv 1) ac)) (m4 (v:=.int 24) rfl gM ⟨_,rfl⟩) (aH _)))))
   (ah (aA eV))
   aI)
  (ah (aA (aN (gQ rfl) rfl B.all PyProof.Rows.boot_all (aa (bt ["place","step"] [("table",0)]  (kH rfl B.enumerate (aa (pv 1) ac)) rfl (fun C s0 H0 ex=>by exact (du K 2 rfl (aE (ar (i:=0) (show List.Nodup [("place":Str),"step","table"] by decide +kernel) rfl (Or.inl rfl)) (aE (ar (i:=1) (show List.Nodup [("place":Str),"step","table"] by decide +kernel) rfl (Or.inl rfl)) bF)))) (fun C s0 H0 ex=>by exact aZ) (fun C s0 H0 ex=>by exact (ak O_is_right_step hr rfl (aa (pv 2) (aa (pv 0) (aa (pv 1) ac)))))) ac))))),?_⟩
 have no:¬ (1≤ss.length∧ss.length≤24)→Q (.bl false) H:=fun hn=>by
  have:=q H (Same.refl H)
  rw [show aU p n ss=false by unfold aU;rw [decide_eq_false hn];rfl] at this
  exact this
 refine ⟨_,rfl,a,_,rfl,.inl (SqL.of ha),rfl,_,rfl,?_⟩
 refine bi (fun c=>?_) (fun c=>?_)
 ·have c':V.int (ws.length:Int)=V.int 0:=of_decide_eq_true c
  injection c' with c'
  exact pL (no (by omega))
 have c':¬ (ws.length:Int)=0:=fun e=>(of_decide_eq_false (Bool.eq_false_iff.mpr c):¬ V.int (ws.length:Int)=V.int 0) (by rw [e])
 refine ⟨_,rfl,a,_,rfl,.inl (SqL.of ha),_,_,rfl,rfl,_,rfl,?_⟩
 refine bi (fun c2=>?_) (fun c2=>?_)
 ·have c2':(ws.length:Int) > 24:=of_decide_eq_true c2
  exact no (by omega)
 have c2':¬ (ws.length:Int) > 24:=of_decide_eq_false (Bool.eq_false_iff.mpr c2)
 have hin:1≤ss.length∧ss.length≤24:=by omega
 refine ⟨_,rfl,a,_,rfl,SqL.of ha,fun D hD=>?_⟩
 refine mv (K:=K) (a:=a) (xs:=ws) (k0:=0) (fun i ys H2=>i≤ss.length∧ys=((List.range i).map fun j:Nat=>V.bl (ix p n (j:Int) (ss.getD j (.fix 0))))∧Same H H2) ⟨Nat.zero_le _,rfl,am (Same.refl _) hD⟩ ?_ ?_ ?_
 ·rintro i ys H2 ⟨_,_,s2⟩
  exact SqL.of (s2 _ _ ha)
 ·rintro i y ys H2 c hy ⟨hi,rfl,s2⟩ hD2 hc
  obtain ⟨b,z,rfl,hz,hzs⟩:=(hss.same s2).get hy
  have hil:i<ss.length:=(List.getElem?_eq_some_iff.mp hzs).1
  have s3:=aj hc (.tup [.int ((0+i:Nat):Int),.ref b])
  refine ⟨c,_,rfl,SqT.of upd_same,rfl,_,_,rfl,_,_,rfl,rfl,⟨rfl,rfl⟩,?_⟩
  refine ⟨_,rfl,_,rfl,_,rfl,t,b,p,n,f,_,z,rfl,T1.same (s2.trans s3),s3 _ _ hz,fun H4 s4=>?_⟩
  have s34:=s3.trans s4
  refine ⟨s34 _ _ hD2,au (by rw [List.length_map,List.length_range];omega),hil,?_,am (s2.trans s34) hD⟩
  rw [List.range_succ,List.map_append,List.map_singleton,List.getD_eq_getElem?_getD,hzs,Nat.zero_add]
  rfl
 ·rintro ys H2 ⟨_,rfl,s2⟩ hD2
  rw [wl] at hD2
  refine ⟨D,(List.range ss.length).map (fun j:Nat=>ix p n (j:Int) (ss.getD j (.fix 0))),rfl,SqL.of (by rw [hD2,List.map_map];rfl),?_⟩
  have e:((List.range ss.length).map (fun j:Nat=>ix p n (j:Int) (ss.getD j (.fix 0)))).all id=aU p n ss:=by
   unfold aU
   rw [List.all_map,decide_eq_true hin]
   rfl
  rw [e]
  exact q H2 s2
theorem i7:az ["table","steps"] ["table","steps"] (ao cF):=⟨rfl,rfl,rfl,by decide +kernel,rfl,by decide +kernel,by decide +kernel⟩
theorem iI {cS:Addr}{bmS:List Value} (F:Src K mg "refuse_steps" "refuse_steps" cF ["table","steps"]) (E_BadSteps:Exc K mg "BadSteps" cS bmS) (O_right:Ok P w K mg base CX0 4 "right" ["table","steps"] (mP C)):Ok P w K mg base (CXE P w) 5 "refuse_steps" ["table","steps"] (cm C cS):=by
 refine F.okE i7 (fun vs H Q E h=>?_) (fun f cdv A outer s H vs Q E hr h=>?_)
 ·obtain ⟨t,a,p,n,f,ws,ss,rfl,_⟩:=h
  rfl
 obtain ⟨t,a,p,n,f,ws,ss,rfl,T1,ha,hss,q1,q2⟩:=h
 refine ⟨_,(ah (bd (gD (gC (ak O_right hr rfl (aa (pv 0) (aa (pv 1) ac))) (fun _=>rfl)))
   (ah (fK E_BadSteps rfl aP))
   aI)),?_⟩
 refine ⟨_,rfl,_,rfl,t,a,p,n,f,ws,ss,rfl,T1,ha,hss,fun H1 s1=>?_⟩
 cases hR:aU p n ss with
 | true=>exact ⟨_,rfl,iteF (q1 hR H1 s1)⟩
 | false=>exact ⟨_,rfl,pL ⟨by decide,q2 hR H1 s1⟩⟩
theorem sc_needs:az ["table","steps"] ["table","steps"] (ao kz):=⟨rfl,rfl,rfl,by decide +kernel,rfl,by decide +kernel,by decide +kernel⟩
theorem qv {cS:Addr} (F:Src K mg "needs" "needs" kz ["table","steps"]) (B:Blt mg) (T:Tab K C) (O_refuse_stepsE:Ok P w K mg base (CXE P w) 5 "refuse_steps" ["table","steps"] (cm C cS)) (O_dealers:Ok P w K mg base CX0 2 "dealers" ["table","step"] (cn C)):Ok P w K mg base (CXE P w) 6 "needs" ["table","steps"] (kh C cS):=by
 refine F.okE sc_needs (fun vs H Q E h=>?_) (fun f cdv A outer s H vs Q E hr h=>?_)
 ·obtain ⟨t,a,p,n,f,ws,ss,rfl,_⟩:=h
  rfl
 obtain ⟨t,a,p,n,f,ws,ss,rfl,T1,hn,hf,ha,hss,q1,q2⟩:=h
 have wl:ws.length=ss.length:=Paired.length hss
 refine ⟨_,(ad (bc (cM O_refuse_stepsE hr rfl (aa (pv 0) (aa (pv 1) ac))))
  (ah (aA (aq bG (aJ (pv 0) rfl) (aN (jv rfl) rfl B.sum PyProof.Rows.boot_sum (aa (bt ["step"] [("table",0)]  (bn (pv 1)) rfl (fun C s0 H0 ex=>by exact (ar (i:=0) (show List.Nodup [("step":Str),"table"] by decide +kernel) rfl (Or.inl rfl))) (fun C s0 H0 ex=>by exact aZ) (fun C s0 H0 ex=>by exact (aN (rE K) rfl B.len PySem.boot_len (aa (ak O_dealers hr rfl (aa (pv 1) (aa (pv 0) ac))) ac)))) ac)))))),?_⟩
 refine ⟨_,rfl,_,rfl,t,a,p,n,f,ws,ss,rfl,T1,ha,hss,fun hR H1 s1=>?_,q2⟩
 have hR':=(rightsB_iff.mp hR).1
 obtain ⟨dx,ht⟩:=T1
 refine ⟨_,rfl,t,C,dx,_,_,rfl,s1 _ _ ht,T.cl,T.nF,tf_f _ _ _,?_⟩
 refine ⟨_,rfl,a,rfl,⟨_,SqL.of (s1 _ _ ha)⟩,fun D hD=>?_⟩
 refine bv (K:=K) (a:=a) (xs:=ws) (fun i ys H2=>i≤ss.length∧ys=(((ss.take i).map fun z=>z.need n)).map V.int∧Same H1 H2) ⟨Nat.zero_le _,rfl,am (Same.refl _) hD⟩ ?_ ?_ ?_
 ·rintro i ys H2 _ ⟨_,_,s2⟩
  exact SqL.of (s2 _ _ (s1 _ _ ha))
 ·rintro i y ys H2 hy ⟨hi,rfl,s2⟩ hD2
  obtain ⟨b,z,rfl,hz,hzs⟩:=(hss.same (s1.trans s2)).get hy
  have hil:i<ss.length:=(List.getElem?_eq_some_iff.mp hzs).1
  refine ⟨⟨rfl,rfl⟩,?_⟩
  refine ⟨_,rfl,_,rfl,t,b,p,n,f,z,rfl,⟨dx,s2 _ _ (s1 _ _ ht)⟩,hn,hz,fun r H4 s4 hr0 hr4=>?_⟩
  refine ⟨r,_,rfl,.inl (SqL.of hr4),s4 _ _ hD2,au (by rw [List.length_map,List.length_map,List.length_take];omega),hil,?_,am (s2.trans s4) hD⟩
  rw [List.take_add_one,hzs,List.map_append,List.map_append,List.length_map,gh hn.1]
  rfl
 ·rintro ys H2 ⟨_,rfl,s2⟩ hD2
  rw [wl,List.take_length] at hD2
  have hb:∀ v∈ss.map (fun z=>z.need n),0≤v∧v≤10:=fun v hv=>by
   obtain ⟨z,_,rfl⟩:=List.mem_map.mp hv
   exact qG hn.1 hn.2 z
  refine ⟨D,ss.map (fun z=>z.need n),rfl,SqL.of hD2,by rw [List.length_map];omega,fun v hv=>⟨(hb v hv).1,by have:=(hb v hv).2;omega⟩,?_⟩
  have e:=l8 f n ss
  have d:=q1 hR H2 (s1.trans s2)
  rw [e] at d
  have sb:=sum_b (ss.map fun z=>z.need n) fun v hv=>⟨(hb v hv).1,by have:=(hb v hv).2;omega⟩
  rw [List.length_map] at sb
  exact ⟨_,_,rfl,rfl,.inl ⟨by omega,by omega⟩,d⟩
end
section
variable {P:Program}{w:World}{K:PySem.W.Frag}{mg:Str→Option Value}{base:Heap}{C pa:Addr}
theorem jC:az ["table","values"] ["table","values"] (ao dg):=⟨rfl,rfl,rfl,by decide +kernel,rfl,by decide +kernel,by decide +kernel⟩
theorem jH (F:Src K mg "are_numbers" "are_numbers" dg ["table","values"]) (B:Blt mg) (O_is_number:Ok P w K mg base CX0 1 "is_number" ["table","value"] (ki C)):Ok P w K mg base CX0 2 "are_numbers" ["table","values"] (gq C):=by
 refine F.ok jC (fun vs H Q E h=>?_) (fun f cdv A outer s H vs Q E hr h=>?_)
 ·obtain ⟨t,r,p,n,f,ns,rfl,_⟩:=h
  rfl
 obtain ⟨t,r,p,n,f,ns,rfl,T1,hr1,hl,q⟩:=h
 refine ⟨_,(ah (aA (aN (gQ rfl) rfl B.all PyProof.Rows.boot_all (aa (bt ["value"] [("table",0)]  (bn (pv 1)) rfl (fun C s0 H0 ex=>by exact (ar (i:=0) (show List.Nodup [("value":Str),"table"] by decide +kernel) rfl (Or.inl rfl))) (fun C s0 H0 ex=>by exact aZ) (fun C s0 H0 ex=>by exact (ak O_is_number hr rfl (aa (pv 1) (aa (pv 0) ac))))) ac)))),?_⟩
 refine ⟨_,rfl,r,rfl,⟨_,SqL.of hr1⟩,fun D hD=>?_⟩
 refine bv (K:=K) (a:=r) (xs:=ns.map V.int) (fun i ys H2=>i≤ns.length∧ys=((ns.take i).map (jI p)).map V.bl∧Same H H2) ⟨Nat.zero_le _,rfl,am (Same.refl _) hD⟩ ?_ ?_ ?_
 ·rintro i ys H2 _ ⟨_,_,s2⟩
  exact SqL.of (s2 _ _ hr1)
 ·rintro i y ys H2 hy ⟨hi,rfl,s2⟩ hD2
  rw [List.getElem?_map] at hy
  cases hv:ns[i]? with
  | none=>rw [hv] at hy;cases hy
  | some v =>
  rw [hv] at hy
  cases hy
  have hil:i<ns.length:=(List.getElem?_eq_some_iff.mp hv).1
  refine ⟨⟨rfl,rfl⟩,?_⟩
  refine ⟨_,rfl,_,rfl,t,p,n,f,v,rfl,T1.same s2,fun H4 s4=>?_⟩
  refine ⟨s4 _ _ hD2,au (by rw [List.length_map,List.length_map,List.length_take];omega),hil,?_,am (s2.trans s4) hD⟩
  rw [List.take_add_one,hv,List.map_append,List.map_append]
  rfl
 ·rintro ys H2 ⟨_,rfl,s2⟩ hD2
  rw [List.length_map,List.take_length] at hD2
  refine ⟨D,ns.map (jI p),rfl,SqL.of hD2,?_⟩
  have:=q H2 s2
  rw [List.all_map]
  exact this
theorem sc_uses:az ["steps","hand"] ["steps","hand"] (ao nR):=⟨rfl,rfl,rfl,by decide +kernel,rfl,by decide +kernel,by decide +kernel⟩
theorem ok_uses (F:Src K mg "uses" "uses" nR ["steps","hand"]):Ok P w K mg base CX0 1 "uses" ["steps","hand"] lB:=by
 refine F.ok sc_uses (fun vs H Q E h=>?_) (fun f cdv A outer s H vs Q E hr h=>?_)
 ·obtain ⟨a,h,ws,ss,rfl,_⟩:=h
  rfl
 obtain ⟨a,h,ws,ss,rfl,ha,hss,q⟩:=h
 refine ⟨_,(ah (aA (dO PySem.F.plainAttrs_list PySem.F.slot_list_count PySem.F.type_list_count (qL hr.units) (pv 0) (aa (bX (aa aP (aa (pv 1) ac))) ac)))),?_⟩
 refine ⟨_,rfl,.inl ⟨rfl,_,SqL.of ha⟩,_,rfl,(by show 2≤sizeLine;decide),fun d hd=>?_⟩
 have s1:=aj hd (.tup [.str "in",.int h])
 refine ⟨a,ws,ss.map Stp.dat,.ref d,(Stp.ein h).dat,rfl,rfl,s1 _ _ ha,(hss.same s1).rep,Stp.rep (s:=.ein h) upd_same,?_,Stp.ok8 _,?_⟩
 ·intro e he
  obtain ⟨z,_,rfl⟩:=List.mem_map.mp he
  exact z.ok8
 ·rw [oM]
  exact q _ s1
theorem sc_are_inputs:az ["table","steps","inputs","hand","own"] ["table","steps","inputs"] (ao dB):=⟨rfl,rfl,rfl,by decide +kernel,rfl,by decide +kernel,by decide +kernel⟩
theorem kO (F:Src K mg "are_inputs" "are_inputs" dB ["table","steps","inputs"]) (B:Blt mg) (T:Tab K C) (O_uses:Ok P w K mg base CX0 1 "uses" ["steps","hand"] lB) (O_are_numbers:Ok P w K mg base CX0 2 "are_numbers" ["table","values"] (gq C)):Ok P w K mg base CX0 3 "are_inputs" ["table","steps","inputs"] (fY C):=by
 refine F.ok sc_are_inputs (fun vs H Q E h=>?_) (fun f cdv A outer s H vs Q E hr h=>?_)
 ·obtain ⟨t,a,b,p,n,f,ws,ss,is,inp,rfl,_⟩:=h
  rfl
 obtain ⟨t,a,b,p,n,f,ws,ss,is,inp,rfl,⟨dx,ht⟩,ha,hss,hb,hin,hlen,q⟩:=h
 have il:is.length=inp.length:=Paired.length hin
 refine ⟨_,(ad (bd (av lX (aN aG rfl B.len PySem.boot_len (aa (pv 2) ac)) (aJ (pv 0) rfl) (aH _))
   (ah (aA eV))
   aI)
  (ad (bP PassesOwn.never rfl (n0 rfl B.enumerate (aa (pv 2) ac) ae) (fS rfl (aE (ar (i:=3) sc_are_inputs.nd rfl (Or.inl rfl)) (aE (ar (i:=4) sc_are_inputs.nd rfl (Or.inl rfl)) bF)))
   (ah (bd (PW.pt (jE (av kL (aN aG rfl B.len PySem.boot_len (aa (pv 4) ac)) (ak O_uses hr rfl (aa (pv 1) (aa (pv 3) ac))) (aH _)) (gB (gD (gC (ak O_are_numbers hr rfl (aa (pv 0) (aa (pv 4) ac))) (fun _=>rfl))))))
   (ah (aA eV))
   aI)))
  (ah (aA eV)))),?_⟩
 have no:eW p n ss inp=false→∀ H',Same H H'→Q (.bl false) H':=fun hn H' s'=>by
  have:=q H' s'
  rw [hn] at this
  exact this
 refine ⟨_,rfl,b,_,rfl,.inl (SqL.of hb),_,rfl,t,C,dx,_,_,rfl,ht,T.cl,T.nH,kX _ _ _,rfl,_,rfl,?_⟩
 refine bi (fun c=>?_) (fun c=>?_)
 ·refine no ?_ H (Same.refl H)
  have c1:¬ (inp.length:Int)=n:=fun e=>by
   have c':(!decide (V.int ((is.map V.ref).length:Int)=V.int n))=true:=c
   rw [List.length_map,il,e] at c'
   simp at c'
  unfold eW
  rw [decide_eq_false c1]
  rfl
 have hlenN:(inp.length:Int)=n:=Classical.byContradiction fun e=>c (by
  show (!decide (V.int ((is.map V.ref).length:Int)=V.int n))=true
  rw [List.length_map,il,decide_eq_false (fun z=>e (by injection z))]
  rfl)
 refine ⟨_,rfl,b,_,1,rfl,rfl,by decide,SqL.of hb,?_⟩
 refine iT (K:=K) (a:=b) (xs:=is.map V.ref) (k0:=1) (fun i σ H2=>Same H H2∧i≤inp.length∧(∃ v3 v4:Option V,σ=[some (.ref t),some (.ref a),some (.ref b),v3,v4])∧∀ j<i,(decide (aR ss (1+(j:Int))≤(inp.getD j []).length) && (inp.getD j []).all (jI p))=true) ?_ ?_ ?_ ?_
 ·exact ⟨Same.refl _,Nat.zero_le _,⟨none,none,rfl⟩,fun j hj=>absurd hj (Nat.not_lt_zero j)⟩
 ·rintro i σ H2 ⟨s2,_⟩
  exact SqL.of (s2 _ _ hb)
 ·rintro i y σ H2 c hy ⟨s2,hi,⟨v3,v4,rfl⟩,hall⟩ hc
  obtain ⟨oa,rfl,hoa⟩:=eH hy
  obtain ⟨r,hr1,hor⟩:=(hin.same s2).get hoa
  have hil:i<inp.length:=(List.getElem?_eq_some_iff.mp hr1).1
  have rl:=hlen r (List.mem_of_getElem? hr1)
  have eD:inp.getD i []=r:=by rw [List.getD_eq_getElem?_getD,hr1];rfl
  have s3:=aj hc (.tup [.int ((1+i:Nat):Int),.ref oa])
  refine ⟨c,_,rfl,SqT.of upd_same,rfl,_,_,rfl,_,_,rfl,rfl,?_⟩
  have hor3:=s3 _ _ hor
  have g3:=s2.trans s3
  generalize upd H2 c (.tup [.int ((1+i:Nat):Int),.ref oa])=H3 at s3 hor3 g3
  refine ⟨_,rfl,oa,_,rfl,.inl (SqL.of hor3),_,rfl,_,rfl,a,_,ws,ss,rfl,g3 _ _ ha,hss.same g3,fun H4 s4=>?_⟩
  have eh:((1+i:Nat):Int)=1+(i:Int):=by omega
  rw [List.length_map,eh]
  have bad:(decide (aR ss (1+(i:Int))≤(inp.getD i []).length) && (inp.getD i []).all (jI p))=false→eW p n ss inp=false:=fun hb=>by
   cases hI:eW p n ss inp with
   | false=>rfl
   | true =>
    unfold eW at hI
    rw [Bool.and_eq_true,List.all_eq_true] at hI
    rw [hI.2 i (List.mem_range.mpr hil)] at hb
    cases hb
  refine ⟨_,_,rfl,rfl,_,rfl,?_⟩
  refine bi (fun c1=>?_) (fun c1=>?_)
  ·have c1':(r.length:Int)<(aR ss (1+(i:Int)):Int):=of_decide_eq_true c1
   refine pL (no (bad ?_) H4 (g3.trans s4))
   rw [eD,decide_eq_false (by omega)]
   rfl
  have c1':¬ (r.length:Int)<(aR ss (1+(i:Int)):Int):=of_decide_eq_false (Bool.eq_false_iff.mpr c1)
  refine ⟨_,rfl,_,rfl,t,oa,p,n,f,r,rfl,⟨dx,(g3.trans s4) _ _ ht⟩,s4 _ _ hor3,rl,fun H5 s5=>⟨_,rfl,?_⟩⟩
  cases hN:r.all (jI p) with
  | false =>
   refine no (bad ?_) H5 (g3.trans (s4.trans s5))
   rw [eD,hN,Bool.and_false]
  | true =>
   refine ⟨g3.trans (s4.trans s5),hil,⟨_,_,rfl⟩,fun j hj=>?_⟩
   rcases Nat.lt_succ_iff_lt_or_eq.mp hj with g | g
   ·exact hall j g
   ·rw [g,eD,hN,decide_eq_true (by omega)]
    rfl
 ·rintro σ H2 ⟨s2,_,⟨v3,v4,rfl⟩,hall⟩
  rw [List.length_map,il] at hall
  have:=q H2 s2
  rw [show eW p n ss inp=true by
   unfold eW
   rw [decide_eq_true hlenN,Bool.true_and,List.all_eq_true]
   exact fun j hj=>hall j (List.mem_range.mp hj)] at this
  exact this
theorem iF:az ["table","steps","inputs"] ["table","steps","inputs"] (ao cq):=⟨rfl,rfl,rfl,by decide +kernel,rfl,by decide +kernel,by decide +kernel⟩
theorem hW {cI:Addr}{bmI:List Value} (F:Src K mg "refuse_inputs" "refuse_inputs" cq ["table","steps","inputs"]) (E_BadInputs:Exc K mg "BadInputs" cI bmI) (O_are_inputs:Ok P w K mg base CX0 3 "are_inputs" ["table","steps","inputs"] (fY C)):Ok P w K mg base (CXE P w) 4 "refuse_inputs" ["table","steps","inputs"] (bW C cI):=by
 refine F.okE iF (fun vs H Q E h=>?_) (fun f cdv A outer s H vs Q E hr h=>?_)
 ·obtain ⟨t,a,b,p,n,f,ws,ss,is,inp,rfl,_⟩:=h
  rfl
 obtain ⟨t,a,b,p,n,f,ws,ss,is,inp,rfl,T1,ha,hss,hb,hin,hlen,q1,q2⟩:=h
 refine ⟨_,(ah (bd (gD (gC (ak O_are_inputs hr rfl (aa (pv 0) (aa (pv 1) (aa (pv 2) ac)))) (fun _=>rfl)))
   (ah (fK E_BadInputs rfl aP))
   aI)),?_⟩
 refine ⟨_,rfl,_,rfl,_,rfl,t,a,b,p,n,f,ws,ss,is,inp,rfl,T1,ha,hss,hb,hin,hlen,fun H1 s1=>?_⟩
 cases hR:eW p n ss inp with
 | true=>exact ⟨_,rfl,iteF (q1 hR H1 s1)⟩
 | false=>exact ⟨_,rfl,pL ⟨by decide,q2 hR H1 s1⟩⟩
theorem sc_input_at:az ["steps","place","inputs","hand"] ["steps","place","inputs"] (ao fH):=⟨rfl,rfl,rfl,by decide +kernel,rfl,by decide +kernel,by decide +kernel⟩
theorem ng (F:Src K mg "input_at" "input_at" fH ["steps","place","inputs"]) (O_uses:Ok P w K mg base CX0 1 "uses" ["steps","hand"] lB):Ok P w K mg base CX0 2 "input_at" ["steps","place","inputs"] gp:=by
 refine F.ok sc_input_at (fun vs H Q E h=>?_) (fun f cdv A outer s H vs Q E hr h=>?_)
 ·obtain ⟨a,b,i,h,p,n,ws,ss,is,inp,rfl,_⟩:=h
  rfl
 obtain ⟨a,b,i,h,p,n,ws,ss,is,inp,rfl,ha,hss,hsl,hi,hb,hin,iok,hh,q⟩:=h
 have wl:ws.length=ss.length:=Paired.length hss
 have il:i<ss.length:=(List.getElem?_eq_some_iff.mp hi).1
 have isl:is.length=n.toNat:=(Paired.length hin).trans iok.len
 refine ⟨_,(ad (aD (i:=3) sc_input_at.nd rfl (Or.inl rfl) (aK aY (aK aQ (pv 0) (pv 1) (fun _ _=>rfl)) ae (fun _ _=>rfl)))
  (ah (aA (aK aQ (aK aQ (pv 2) (aq bo (pv 3) ae) (fun _ _=>rfl)) (ak O_uses hr rfl (aa (bR cU (pv 0) cW (cz (pv 1))) (aa (pv 3) ac))) (fun _ _=>rfl))))),?_⟩
 obtain ⟨c,z,ec,hc,hz⟩:=hss.get (List.getElem?_eq_getElem (show i<ws.length by omega))
 rw [hi] at hz
 cases hz
 have eat:atI ws (i:Int)=some (.ref c):=by
  unfold atI
  rw [show ixN ws.length (i:Int)=some i by simpa using jJ (n:=ws.length) (k:=(i:Int)) (by omega) (by omega),← ec]
  exact List.getElem?_eq_getElem (by omega)
 refine ⟨_,rfl,_,rfl,a,_,_,.ref c,rfl,rfl,SqL.of ha,eat,c,_,_,.int h,rfl,rfl,SqT.of hc,rfl,?_⟩
 have hx:(h - 1).toNat<is.length:=by omega
 obtain ⟨r,hr1,hro⟩:=hin.get (List.getElem?_eq_getElem hx)
 have er:bL inp h=r:=by unfold bL;rw [List.getD_eq_getElem?_getD,hr1];rfl
 have eat2:atI (is.map V.ref) (h - 1)=some (.ref is[(h - 1).toNat]):=by
  unfold atI
  rw [jJ (by omega) (by rw [List.length_map];omega)]
  show (is.map V.ref)[(h - 1).toNat]?=_
  rw [List.getElem?_map,List.getElem?_eq_getElem hx]
  rfl
 refine ⟨_,rfl,_,rfl,_,_,rfl,rfl,b,_,_,.ref is[(h - 1).toNat],rfl,rfl,SqL.of hb,eat2,?_⟩
 refine ⟨_,rfl,_,rfl,_,rfl,a,_,rfl,SqL.of ha,fun l hl=>?_⟩
 rw [cut_to]
 have s1:=aj hl (.lst (ws.take i))
 refine ⟨_,rfl,l,h,ws.take i,ss.take i,rfl,upd_same,jg i (hss.same s1),fun H2 s2=>?_⟩
 have ul:=lh hi
 have en:=iok.en h hh.1 hh.2
 rw [er] at en
 refine ⟨_,_,_,.int (inV1 ss inp i h),rfl,rfl,SqL.of (s2 _ _ (s1 _ _ hro)),?_,q H2 (s1.trans s2)⟩
 unfold inV1
 rw [er]
 have:=cg (fd:=r) (a:=(aR (ss.take i) h:Int)) (by omega) (by omega)
 simpa using this
theorem sc_reckoned:az ["table","step","before","word","first"] ["table","step","before"] (ao fC):=⟨rfl,rfl,rfl,by decide +kernel,rfl,by decide +kernel,by decide +kernel⟩
theorem m9 (F:Src K mg "reckoned" "reckoned" fC ["table","step","before"]) (T:Tab K C):Ok P w K mg base CX0 1 "reckoned" ["table","step","before"] (dL C):=by
 refine F.ok sc_reckoned (fun vs H Q E h=>?_) (fun f cdv A outer s H vs Q E hr h=>?_)
 ·obtain ⟨t,b,r,p,n,f,z,fd,rfl,_⟩:=h
  rfl
 obtain ⟨t,b,r,p,n,f,z,fd,rfl,⟨dx,ht⟩,hp,hz,hr1,R,hne,hfb,q⟩:=h
 refine ⟨_,(ad (aD (i:=3) sc_reckoned.nd rfl (Or.inl rfl) (aK aY (pv 1) ae (fun _ _=>rfl)))
  (ad (bd (av bH (pv 3) aP (aH _))
   (ah (aA (aK aY (pv 1) ae (fun _ _=>rfl))))
   aI)
  (ad (aD (i:=4) sc_reckoned.nd rfl (Or.inl rfl) (aK aQ (pv 2) (aK aY (pv 1) ae (fun _ _=>rfl)) (fun _ _=>rfl)))
  (ad (bd (av bH (pv 3) aP (aH _))
   (ah (aA (aq aV (aq aX (pv 4) (aK aQ (pv 2) (aK aY (pv 1) ae (fun _ _=>rfl)) (fun _ _=>rfl))) (aJ (pv 0) rfl))))
   aI)
  (ad (bd (av bH (pv 3) aP (aH _))
   (ah (aA (aq aV (aq bo (pv 4) (aK aQ (pv 2) (aK aY (pv 1) ae (fun _ _=>rfl)) (fun _ _=>rfl))) (aJ (pv 0) rfl))))
   aI)
  (ad (bd (av bH (pv 3) aP (aH _))
   (ah (aA (aq aV (aq bG (pv 4) (aK aY (pv 1) ae (fun _ _=>rfl))) (aJ (pv 0) rfl))))
   aI)
  (ad (bd (av bH (pv 3) aP (aH _))
   (ah (aA (aq aV (aq bG (pv 4) (aK aQ (pv 2) (aK aY (pv 1) ae (fun _ _=>rfl)) (fun _ _=>rfl))) (aJ (pv 0) rfl))))
   aI)
  (ah (aA (pv 4)))))))))),?_⟩
 have d:=q H (Same.refl H)
 have no:∀ {x y:String}{α:Prop},decide (V.str (Str.ofString x)=V.str (Str.ofString y))=true→¬ Str.ofString x=Str.ofString y→α:=fun c h=>absurd (of_decide_eq_true c) (fun e=>h (by injection e))
 refine ⟨_,rfl,b,_,_,.str z.word,rfl,rfl,SqT.of hz,z.at0,?_⟩
 cases z with
 | ein h=>exact absurd rfl (hne h)
 | fix x =>
  refine ⟨_,rfl,rfl,_,rfl,?_⟩
  refine bi (fun _=>?_) (fun c=>absurd (decide_eq_true (show V.str (Str.ofString "fix")=V.str (Str.ofString "fix") from rfl)) c)
  exact ⟨_,rfl,b,_,_,.int x,rfl,rfl,SqT.of hz,rfl,d⟩
 | sum a1 a2 =>
  have ba:=gK hfb R.1.1 R.1.2
  have bb:=gK hfb R.2.1 R.2.2
  refine ⟨_,rfl,rfl,_,rfl,?_⟩
  refine bi (fun c=>no (x:="sum") (y:="fix") c (by decide +kernel)) (fun _=>?_)
  refine ⟨_,rfl,_,rfl,b,_,_,.int a1,rfl,rfl,SqT.of hz,rfl,r,_,_,_,rfl,rfl,SqL.of hr1,cg R.1.1 R.1.2,?_⟩
  refine ⟨_,rfl,rfl,_,rfl,?_⟩
  refine bi (fun _=>?_) (fun c=>absurd (decide_eq_true (show V.str (Str.ofString "sum")=V.str (Str.ofString "sum") from rfl)) c)
  refine ⟨_,rfl,_,rfl,_,rfl,b,_,_,.int a2,rfl,rfl,SqT.of hz,rfl,r,_,_,_,rfl,rfl,SqL.of hr1,cg R.2.1 R.2.2,_,_,rfl,rfl,?_⟩
  exact ⟨_,rfl,t,C,dx,_,_,rfl,ht,T.cl,T.nP,gW _ _ _,_,_,rfl,rfl,hp.1,d⟩
 | less a1 a2 =>
  refine ⟨_,rfl,rfl,_,rfl,?_⟩
  refine bi (fun c=>no (x:="less") (y:="fix") c (by decide +kernel)) (fun _=>?_)
  refine ⟨_,rfl,_,rfl,b,_,_,.int a1,rfl,rfl,SqT.of hz,rfl,r,_,_,_,rfl,rfl,SqL.of hr1,cg R.1.1 R.1.2,?_⟩
  refine ⟨_,rfl,rfl,_,rfl,?_⟩
  refine bi (fun c=>no (x:="less") (y:="sum") c (by decide +kernel)) (fun _=>?_)
  refine ⟨_,rfl,rfl,_,rfl,?_⟩
  refine bi (fun _=>?_) (fun c=>absurd (decide_eq_true (show V.str (Str.ofString "less")=V.str (Str.ofString "less") from rfl)) c)
  refine ⟨_,rfl,_,rfl,_,rfl,b,_,_,.int a2,rfl,rfl,SqT.of hz,rfl,r,_,_,_,rfl,rfl,SqL.of hr1,cg R.2.1 R.2.2,_,_,rfl,rfl,?_⟩
  exact ⟨_,rfl,t,C,dx,_,_,rfl,ht,T.cl,T.nP,gW _ _ _,_,_,rfl,rfl,hp.1,d⟩
 | bye a1 x =>
  have ba:=gK hfb R.1.1 R.1.2
  refine ⟨_,rfl,rfl,_,rfl,?_⟩
  refine bi (fun c=>no (x:="by") (y:="fix") c (by decide +kernel)) (fun _=>?_)
  refine ⟨_,rfl,_,rfl,b,_,_,.int a1,rfl,rfl,SqT.of hz,rfl,r,_,_,_,rfl,rfl,SqL.of hr1,cg R.1.1 R.1.2,?_⟩
  refine ⟨_,rfl,rfl,_,rfl,?_⟩
  refine bi (fun c=>no (x:="by") (y:="sum") c (by decide +kernel)) (fun _=>?_)
  refine ⟨_,rfl,rfl,_,rfl,?_⟩
  refine bi (fun c=>no (x:="by") (y:="less") c (by decide +kernel)) (fun _=>?_)
  refine ⟨_,rfl,rfl,_,rfl,?_⟩
  refine bi (fun _=>?_) (fun c=>absurd (decide_eq_true (show V.str (Str.ofString "by")=V.str (Str.ofString "by") from rfl)) c)
  refine ⟨_,rfl,_,rfl,b,_,_,.int x,rfl,rfl,SqT.of hz,rfl,_,_,rfl,rfl,.inl ⟨by omega,by omega⟩,?_⟩
  exact ⟨_,rfl,t,C,dx,_,_,rfl,ht,T.cl,T.nP,gW _ _ _,_,_,rfl,rfl,hp.1,d⟩
 | mul a1 a2 =>
  have ba:=gK hfb R.1.1 R.1.2
  refine ⟨_,rfl,rfl,_,rfl,?_⟩
  refine bi (fun c=>no (x:="mul") (y:="fix") c (by decide +kernel)) (fun _=>?_)
  refine ⟨_,rfl,_,rfl,b,_,_,.int a1,rfl,rfl,SqT.of hz,rfl,r,_,_,_,rfl,rfl,SqL.of hr1,cg R.1.1 R.1.2,?_⟩
  refine ⟨_,rfl,rfl,_,rfl,?_⟩
  refine bi (fun c=>no (x:="mul") (y:="sum") c (by decide +kernel)) (fun _=>?_)
  refine ⟨_,rfl,rfl,_,rfl,?_⟩
  refine bi (fun c=>no (x:="mul") (y:="less") c (by decide +kernel)) (fun _=>?_)
  refine ⟨_,rfl,rfl,_,rfl,?_⟩
  refine bi (fun c=>no (x:="mul") (y:="by") c (by decide +kernel)) (fun _=>?_)
  refine ⟨_,rfl,rfl,_,rfl,?_⟩
  refine bi (fun _=>?_) (fun c=>absurd (decide_eq_true (show V.str (Str.ofString "mul")=V.str (Str.ofString "mul") from rfl)) c)
  refine ⟨_,rfl,_,rfl,_,rfl,b,_,_,.int a2,rfl,rfl,SqT.of hz,rfl,r,_,_,_,rfl,rfl,SqL.of hr1,cg R.2.1 R.2.2,_,_,rfl,rfl,.inl ⟨by omega,by omega⟩,?_⟩
  exact ⟨_,rfl,t,C,dx,_,_,rfl,ht,T.cl,T.nP,gW _ _ _,_,_,rfl,rfl,hp.1,d⟩
 | anew a1 =>
  refine ⟨_,rfl,rfl,_,rfl,?_⟩
  refine bi (fun c=>no (x:="anew") (y:="fix") c (by decide +kernel)) (fun _=>?_)
  refine ⟨_,rfl,_,rfl,b,_,_,.int a1,rfl,rfl,SqT.of hz,rfl,r,_,_,_,rfl,rfl,SqL.of hr1,cg R.1 R.2,?_⟩
  refine ⟨_,rfl,rfl,_,rfl,?_⟩
  refine bi (fun c=>no (x:="anew") (y:="sum") c (by decide +kernel)) (fun _=>?_)
  refine ⟨_,rfl,rfl,_,rfl,?_⟩
  refine bi (fun c=>no (x:="anew") (y:="less") c (by decide +kernel)) (fun _=>?_)
  refine ⟨_,rfl,rfl,_,rfl,?_⟩
  refine bi (fun c=>no (x:="anew") (y:="by") c (by decide +kernel)) (fun _=>?_)
  refine ⟨_,rfl,rfl,_,rfl,?_⟩
  refine bi (fun c=>no (x:="anew") (y:="mul") c (by decide +kernel)) (fun _=>?_)
  exact ⟨_,rfl,d⟩
 | opn a1 =>
  refine ⟨_,rfl,rfl,_,rfl,?_⟩
  refine bi (fun c=>no (x:="open") (y:="fix") c (by decide +kernel)) (fun _=>?_)
  refine ⟨_,rfl,_,rfl,b,_,_,.int a1,rfl,rfl,SqT.of hz,rfl,r,_,_,_,rfl,rfl,SqL.of hr1,cg R.1 R.2,?_⟩
  refine ⟨_,rfl,rfl,_,rfl,?_⟩
  refine bi (fun c=>no (x:="open") (y:="sum") c (by decide +kernel)) (fun _=>?_)
  refine ⟨_,rfl,rfl,_,rfl,?_⟩
  refine bi (fun c=>no (x:="open") (y:="less") c (by decide +kernel)) (fun _=>?_)
  refine ⟨_,rfl,rfl,_,rfl,?_⟩
  refine bi (fun c=>no (x:="open") (y:="by") c (by decide +kernel)) (fun _=>?_)
  refine ⟨_,rfl,rfl,_,rfl,?_⟩
  refine bi (fun c=>no (x:="open") (y:="mul") c (by decide +kernel)) (fun _=>?_)
  exact ⟨_,rfl,d⟩
theorem sc_plain:az ["table","steps","inputs","made","place","step"] ["table","steps","inputs"] (ao ky):=⟨rfl,rfl,rfl,by decide +kernel,rfl,by decide +kernel,by decide +kernel⟩
theorem qt {cS cI:Addr} (F:Src K mg "plain" "plain" ky ["table","steps","inputs"]) (B:Blt mg) (O_refuse_stepsE:Ok P w K mg base (CXE P w) 5 "refuse_steps" ["table","steps"] (cm C cS)) (O_refuse_inputsE:Ok P w K mg base (CXE P w) 4 "refuse_inputs" ["table","steps","inputs"] (bW C cI))
  (O_input_at:Ok P w K mg base CX0 2 "input_at" ["steps","place","inputs"] gp) (O_reckoned:Ok P w K mg base CX0 1 "reckoned" ["table","step","before"] (dL C)):Ok P w K mg base (CXE P w) 6 "plain" ["table","steps","inputs"] (j9 C cS cI):=by
 refine F.okE sc_plain (fun vs H Q E h=>?_) (fun f cdv A outer s H vs Q E hr h=>?_)
 ·obtain ⟨t,a,b,p,n,f,ws,ss,is,inp,rfl,_⟩:=h
  rfl
 obtain ⟨t,a,b,p,n,f,ws,ss,is,inp,rfl,T1,hp,hn,ha,hss,hb,hin,hlen,q1,q2,q3⟩:=h
 have wl:ws.length=ss.length:=Paired.length hss
 refine ⟨_,(ad (bc (cM O_refuse_stepsE hr rfl (aa (pv 0) (aa (pv 1) ac))))
  (ad (bc (cM O_refuse_inputsE hr rfl (aa (pv 0) (aa (pv 1) (aa (pv 2) ac)))))
  (ad (aD (i:=3) sc_plain.nd rfl (Or.inl rfl) (aW ac))
  (ad (PS.nox (bP PassesOwn.never rfl (kH rfl B.enumerate (aa (pv 1) ac)) (fS rfl (aE (ar (i:=4) sc_plain.nd rfl (Or.inl rfl)) (aE (ar (i:=5) sc_plain.nd rfl (Or.inl rfl)) bF)))
   (ah (bd (av bH (aK aY (pv 5) ae (fun _ _=>rfl)) aP (aH _))
   (ah (bc (dO PySem.F.plainAttrs_list PySem.F.slot_list_append PySem.F.type_list_append br (pv 3) (aa (ak O_input_at hr rfl (aa (pv 1) (aa (pv 4) (aa (pv 2) ac)))) ac))))
   (ah (bc (dO PySem.F.plainAttrs_list PySem.F.slot_list_append PySem.F.type_list_append br (pv 3) (aa (ak O_reckoned hr rfl (aa (pv 0) (aa (pv 5) (aa (pv 3) ac)))) ac))))))))
  (ah (aA (pv 3))))))),?_⟩
 refine ⟨_,rfl,_,rfl,t,a,p,n,f,ws,ss,rfl,T1,ha,hss,fun hR H1 s1=>?_,q2⟩
 refine ⟨_,rfl,_,rfl,_,rfl,t,a,b,p,n,f,ws,ss,is,inp,rfl,T1.same s1,s1 _ _ ha,hss.same s1,s1 _ _ hb,hin.same s1,hlen,fun hI H2 s2=>?_,fun hI H' s'=>q3 hR hI H' (s1.trans s')⟩
 obtain ⟨hlR,hRi⟩:=rightsB_iff.mp hR
 have iok:=(eO hn.1).mp hI
 have g2:=s1.trans s2
 refine ⟨(by show 0≤sizeLine;decide),fun l hl=>?_⟩
 have hl3:(upd H2 l (.lst [])) l=some (.lst (([]:List Int).map V.int)):=upd_same
 have g3:Same H (upd H2 l (.lst [])):=g2.trans (aj hl _)
 have lfree:H l=none:=g2.free hl
 generalize upd H2 l (.lst [])=H3 at hl3 g3
 refine ⟨_,rfl,a,_,rfl,SqL.of (g3 _ _ ha),?_⟩
 refine iT (K:=K) (a:=a) (xs:=ws) (k0:=0) (fun i σ H4=>Same H H4∧∃ (rest:List (List Int)) (fd:List Int) (v4 v5:Option V),σ=[some (.ref t),some (.ref a),some (.ref b),some (.ref l),v4,v5]∧H4 l=some (.lst (fd.map V.int))∧PlSt p n ss inp i rest fd∧Rests n ss inp rest i) ?_ ?_ ?_ ?_
 ·exact ⟨g3,inp,[],_,_,rfl,hl3,PlSt.start iok,Rests.start⟩
 ·rintro i σ H4 ⟨s4,_⟩
  exact SqL.of (s4 _ _ ha)
 ·rintro i y σ H4 c hy ⟨s4,rest,fd,v4,v5,rfl,hl4,S,Rr⟩ hc
  obtain ⟨d,z,rfl,hz,hzs⟩:=(hss.same s4).get hy
  have hil:i<ss.length:=(List.getElem?_eq_some_iff.mp hzs).1
  have Rz:=hRi i z hzs
  have s5:=aj hc (.tup [.int ((0+i:Nat):Int),.ref d])
  refine ⟨c,_,rfl,SqT.of upd_same,rfl,_,_,rfl,_,_,rfl,rfl,?_⟩
  have hz5:=s5 _ _ hz
  have hl5:=s5 _ _ hl4
  have g5:=s4.trans s5
  generalize upd H4 c (.tup [.int ((0+i:Nat):Int),.ref d])=H5 at s5 hz5 hl5 g5
  have ei:((0+i:Nat):Int)=(i:Int):=by omega
  have fl:=S.fl
  have N:=S.next hp.1 hzs Rz
  have Nr:Rests n ss inp (dU rest z) (i+1):=Rr.next (p:=p) S.ok.len hzs Rz
  refine ⟨_,rfl,d,_,_,.str z.word,rfl,rfl,SqT.of hz5,z.at0,rfl,_,rfl,?_⟩
  have app:∀ (v:Int) (H6:Hp),Same H5 H6→lq p rest fd z=v→(((fd.map V.int).length<sizeLine)∧(Same H (upd H6 l (.lst (fd.map V.int++[.int v])))∧(upd H6 l (.lst (fd.map V.int++[.int v]))) l=some (.lst ((fd++[lq p rest fd z]).map V.int)))):=fun v H6 s6 e=>by
   refine ⟨au (by rw [List.length_map];omega),am (g5.trans s6) lfree,?_⟩
   rw [upd_same,List.map_append,e]
   rfl
  refine bi (fun c1=>?_) (fun c1=>?_)
  ·have c1':V.str z.word=V.str "in":=of_decide_eq_true c1
   injection c1' with c1'
   cases z with
   | ein h =>
    refine ⟨_,rfl,.inl ⟨rfl,_,SqL.of hl5⟩,_,rfl,_,rfl,_,rfl,a,b,i,h,p,n,ws,ss,is,inp,by rw [ei];rfl,g5 _ _ ha,hss.same g5,by omega,hzs,g5 _ _ hb,hin.same g5,iok,Rz,fun H6 s6=>?_⟩
    obtain ⟨w1,w2,w3⟩:=app (inV1 ss inp i h) H6 s6 (qc Rr Rz.1 Rz.2)
    exact ⟨l,_,_,rfl,rfl,s6 _ _ hl5,w1,w2,_,_,_,_,rfl,w3,N,Nr⟩
   | _=>exact absurd c1' (by simp only [Stp.word];decide +kernel)
  ·have hne:∀ h,z≠.ein h:=fun h e=>by
    subst e
    exact c1 (decide_eq_true rfl)
   have Rz':z.Right p n (fd.length:Int):=by rw [fl];exact Rz
   refine ⟨_,rfl,.inl ⟨rfl,_,SqL.of hl5⟩,_,rfl,_,rfl,_,rfl,t,d,l,p,n,f,z,fd,rfl,T1.same g5,hp,hz5,hl5,Rz',hne,S.fb,fun H6 s6=>?_⟩
   obtain ⟨w1,w2,w3⟩:=app (recV p fd z) H6 s6 (stpV_rec hne)
   exact ⟨l,_,_,rfl,rfl,s6 _ _ hl5,w1,w2,_,_,_,_,rfl,w3,N,Nr⟩
 ·rintro σ H4 ⟨s4,rest,fd,v4,v5,rfl,hl4,S,_⟩
  rw [wl] at S
  refine ⟨_,rfl,q1 hR hI l H4 s4 lfree ?_⟩
  rw [hl4,S.fin]
end
section
variable {P:Program}{w:World}{K:PySem.W.Frag}{mg:Str→Option Value}{base:Heap}{C pa:Addr}
theorem sc_are_rising_hands:az ["table","some","last","hand"] ["table","some"] (ao bM):=⟨rfl,rfl,rfl,by decide +kernel,rfl,by decide +kernel,by decide +kernel⟩
theorem qr (F:Src K mg "are_rising_hands" "are_rising_hands" bM ["table","some"]) (T:Tab K C):Ok P w K mg base CX0 1 "are_rising_hands" ["table","some"] (j8 C):=by
 refine F.ok sc_are_rising_hands (fun vs H Q E h=>?_) (fun f cdv A outer s H vs Q E hr h=>?_)
 ·obtain ⟨t,s,p,n,f,hs,rfl,_⟩:=h
  rfl
 obtain ⟨t,sa,p,n,f,hs,rfl,⟨dx,ht⟩,hsa,q⟩:=h
 refine ⟨_,(ad (aD (i:=2) sc_are_rising_hands.nd rfl (Or.inl rfl) ae)
  (ad (bP PassesOwn.never rfl (bn (pv 1)) (ar (i:=3) sc_are_rising_hands.nd rfl (Or.inl rfl))
   (ad (bd (PW.pt (jE (av m5 (pv 3) (pv 2) (aH _)) (gB (av op_gt (pv 3) (aJ (pv 0) rfl) (aH _)))))
   (ah (aA eV))
   aI)
  (ah (aD (i:=2) sc_are_rising_hands.nd rfl (Or.inl rfl) (pv 3)))))
  (ah (aA eV)))),?_⟩
 have d:=q H (Same.refl H)
 refine ⟨_,rfl,sa,rfl,⟨_,SqL.of hsa⟩,?_⟩
 refine b8 (K:=K) (a:=sa) (xs:=hs.map V.int) (fun i σ H2=>H2=H∧∃ (l:Int) (v3:Option V),σ=[some (.ref t),some (.ref sa),some (.int l),v3]∧mY n l (hs.drop i)=lP n hs) ?_ ?_ ?_ ?_
 ·exact ⟨rfl,0,none,rfl,rfl⟩
 ·rintro i σ H2 _ ⟨rfl,_⟩
  exact SqL.of hsa
 ·rintro i y σ H2 hy ⟨rfl,l,v3,rfl,hg⟩
  rw [List.getElem?_map] at hy
  cases hv:hs[i]? with
  | none=>rw [hv] at hy;cases hy
  | some h =>
  rw [hv] at hy
  cases hy
  have ed:hs.drop i=h::hs.drop (i+1):=im hv
  rw [ed,mY] at hg
  refine ⟨_,rfl,_,rfl,_,_,rfl,rfl,_,rfl,?_⟩
  refine bi (fun c1=>?_) (fun c1=>?_)
  ·have c1':h≤l:=of_decide_eq_true c1
   rw [if_pos (.inl c1')] at hg
   rw [← hg] at d
   exact pL d
  have c1':¬ h≤l:=of_decide_eq_false (Bool.eq_false_iff.mpr c1)
  refine ⟨_,rfl,_,rfl,t,C,dx,_,_,rfl,ht,T.cl,T.nH,kX _ _ _,_,_,rfl,rfl,_,rfl,?_⟩
  refine bi (fun c2=>?_) (fun c2=>?_)
  ·have c2':h > n:=of_decide_eq_true c2
   rw [if_pos (.inr (by omega))] at hg
   rw [← hg] at d
   exact d
  have c2':¬ h > n:=of_decide_eq_false (Bool.eq_false_iff.mpr c2)
  rw [if_neg (by omega)] at hg
  exact ⟨_,rfl,rfl,h,_,rfl,hg⟩
 ·rintro σ H2 ⟨rfl,l,v3,rfl,hg⟩
  rw [List.length_map,List.drop_length] at hg
  rw [← hg] at d
  exact d
theorem i8:az ["table","some"] ["table","some"] (ao cG):=⟨rfl,rfl,rfl,by decide +kernel,rfl,by decide +kernel,by decide +kernel⟩
theorem iJ {cH:Addr}{bmH:List Value} (F:Src K mg "refuse_hands" "refuse_hands" cG ["table","some"]) (E_BadHands:Exc K mg "BadHands" cH bmH) (O_are_rising_hands:Ok P w K mg base CX0 1 "are_rising_hands" ["table","some"] (j8 C)):Ok P w K mg base (CXE P w) 2 "refuse_hands" ["table","some"] (dW C cH):=by
 refine F.okE i8 (fun vs H Q E h=>?_) (fun f cdv A outer s H vs Q E hr h=>?_)
 ·obtain ⟨t,s,p,n,f,hs,rfl,_⟩:=h
  rfl
 obtain ⟨t,sa,p,n,f,hs,rfl,T1,hsa,q1,q2⟩:=h
 refine ⟨_,(ah (bd (gD (gC (ak O_are_rising_hands hr rfl (aa (pv 0) (aa (pv 1) ac))) (fun _=>rfl)))
   (ah (fK E_BadHands rfl aP))
   aI)),?_⟩
 refine ⟨_,rfl,_,rfl,t,sa,p,n,f,hs,rfl,T1,hsa,fun H1 s1=>?_⟩
 cases hR:lP n hs with
 | true=>exact ⟨_,rfl,iteF (q1 hR H1 s1)⟩
 | false=>exact ⟨_,rfl,pL ⟨by decide,q2 hR H1 s1⟩⟩
theorem sc_veil:az ["table","some","row","hand","slope"] ["table","some"] (ao nQ):=⟨rfl,rfl,rfl,by decide +kernel,rfl,by decide +kernel,by decide +kernel⟩
theorem ok_veilE {cH cN:Addr}{bmN:List Value} (F:Src K mg "veil" "veil" nQ ["table","some"]) (B:Blt mg) (T:Tab K C) (E_NoVeil:Exc K mg "NoVeil" cN bmN) (O_refuse_handsE:Ok P w K mg base (CXE P w) 2 "refuse_hands" ["table","some"] (dW C cH)) (O_back:Ok P w K mg base CX0 1 "back" ["table","number"] (nO C)):Ok P w K mg base (CXE P w) 3 "veil" ["table","some"] (mM C cH cN):=by
 refine F.okE sc_veil (fun vs H Q E h=>?_) (fun f cdv A outer s H vs Q E hr h=>?_)
 ·obtain ⟨t,s,p,n,f,hs,rfl,_⟩:=h
  rfl
 obtain ⟨t,sa,p,n,f,hs,rfl,T1,hp,hn,hf,hsa,q1,q2,q3⟩:=h
 refine ⟨_,(ad (bc (cM O_refuse_handsE hr rfl (aa (pv 0) (aa (pv 1) ac))))
  (ad (bd (av op_gt (aN aG rfl B.len PySem.boot_len (aa (pv 1) ac)) (aJ (pv 0) rfl) (aH _))
   (ah (fK E_NoVeil rfl aP))
   aI)
  (ad (aD (i:=2) sc_veil.nd rfl (Or.inl rfl) (aW (aa ae ac)))
  (ad (PS.nox (bP PassesOwn.never rfl (bn (pv 1)) (ar (i:=3) sc_veil.nd rfl (Or.inl rfl))
   (ad (aD (i:=4) sc_veil.nd rfl (Or.inr rfl) (ak O_back hr rfl (aa (pv 0) (aa (pv 3) ac))))
  (ah (bD 2 ["here","before"] [("table",0),("slope",4)] sc_veil.nd  (gF rfl B.zip (aa (aq eS (pv 2) (aW (aa ae ac))) (aa (aq eS (aW (aa ae ac)) (pv 2)) ac))) rfl (fun C s0 H0 ex=>by exact (du K 2 rfl (aE (ar (i:=0) (show List.Nodup [("here":Str),"before","table","slope"] by decide +kernel) rfl (Or.inl rfl)) (aE (ar (i:=1) (show List.Nodup [("here":Str),"before","table","slope"] by decide +kernel) rfl (Or.inl rfl)) bF)))) (fun C s0 H0 ex=>by exact aZ) (fun C s0 H0 ex=>by exact (aq aV (aq bo (pv 0) (aq bG (pv 3) (pv 1))) (cX K (pv 2) rfl))))))))
  (ah (aA (aq eS (pv 2) (aq lW (aW (aa ae ac)) (aq bo (aq aX (aJ (pv 0) rfl) ae) (aN aG rfl B.len PySem.boot_len (aa (pv 2) ac))))))))))),?_⟩
 have pp:=m3 hp
 refine ⟨_,rfl,_,rfl,t,sa,p,n,f,hs,rfl,T1,hsa,fun hR H1 s1=>?_,q2⟩
 have hsr:=(risB_iff.mp hR).1
 obtain ⟨dx,ht⟩:=id T1
 refine ⟨_,rfl,sa,_,rfl,.inl (SqL.of (s1 _ _ hsa)),_,rfl,t,C,dx,_,_,rfl,s1 _ _ ht,T.cl,T.nF,tf_f _ _ _,_,_,rfl,rfl,_,rfl,?_⟩
 rw [List.length_map]
 refine bi (fun c=>?_) (fun c=>?_)
 ·have c':(hs.length:Int) > f:=of_decide_eq_true c
  exact ⟨by decide,q3 hR (by omega) H1 s1⟩
 have c':¬ (hs.length:Int) > f:=of_decide_eq_false (Bool.eq_false_iff.mpr c)
 refine ⟨(by show 1≤sizeLine;decide),fun r0 hr0=>?_⟩
 have s2:=aj hr0 (.lst [.int 1])
 have hr2:(upd H1 r0 (.lst [.int 1])) r0=some (.lst ((gm p (hs.take 0)).map V.int)):=upd_same
 generalize upd H1 r0 (.lst [.int 1])=H2 at s2 hr2
 have g2:=s1.trans s2
 refine ⟨_,rfl,sa,rfl,⟨_,SqL.of (g2 _ _ hsa)⟩,?_⟩
 refine b8 (K:=K) (a:=sa) (xs:=hs.map V.int) (fun i σ H3=>Same H H3∧∃ (ra:Addr) (v3 v4:Option V),σ=[some (.ref t),some (.ref sa),some (.ref ra),v3,v4]∧H3 ra=some (.lst ((gm p (hs.take i)).map V.int))∧i≤hs.length) ?_ ?_ ?_ ?_
 ·exact ⟨g2,r0,none,none,rfl,hr2,Nat.zero_le _⟩
 ·rintro i σ H3 _ ⟨s3,_⟩
  exact SqL.of (s3 _ _ hsa)
 ·rintro i y σ H3 hy ⟨s3,ra,v3,v4,rfl,hra,hi⟩
  rw [List.getElem?_map] at hy
  cases hv:hs[i]? with
  | none=>rw [hv] at hy;cases hy
  | some h =>
  rw [hv] at hy
  cases hy
  have hb:=hsr h (List.mem_of_getElem? hv)
  have il:i<hs.length:=(List.getElem?_eq_some_iff.mp hv).1
  refine ⟨_,rfl,_,rfl,t,p,n,f,h,rfl,T1.same s3,hp,⟨by omega,by omega⟩,by omega,fun H4 s4=>?_⟩
  have rl:=gl p (hs.take i)
  rw [List.length_take] at rl
  have rb:=pU (p:=p) (by omega) (hs.take i)
  generalize hrow:gm p (hs.take i)=row at hra rl rb
  have bk:=(eQ hp (x:=h) (by rw [Int.emod_eq_of_lt (by omega) (by omega)];omega)).1
  generalize hsl:bw p h=sl at bk
  have hra4:=s4 _ _ hra
  have g4:=s3.trans s4
  refine ⟨_,rfl,(by show 1≤sizeLine;decide),fun o1 ho1=>?_⟩
  have s5:=aj ho1 (.lst [.int 0])
  refine ⟨ra,o1,_,_,rfl,rfl,s5 _ _ hra4,upd_same,by rw [List.length_map];exact small (by show _+1≤1000;omega),fun o2 ho2=>?_⟩
  have s6:=aj ho2 (.lst (row.map V.int++[.int 0]))
  refine ⟨(by show 1≤sizeLine;decide),fun o3 ho3=>?_⟩
  have s7:=aj ho3 (.lst [.int 0])
  refine ⟨_,rfl,o3,ra,_,_,rfl,rfl,upd_same,s7 _ _ (s6 _ _ (s5 _ _ hra4)),by rw [List.length_map];exact small (by show 1+_≤1000;omega),fun o4 ho4=>?_⟩
  have s8:=aj ho4 (.lst ([.int 0]++row.map V.int))
  have s48:=s5.trans (s6.trans (s7.trans s8))
  have k2:=(s7.trans s8) _ _ (upd_same (H:=upd H4 o1 (.lst [.int 0])) (a:=o2) (o:=.lst (row.map V.int++[.int 0])))
  have k4:(upd (upd (upd (upd H4 o1 (.lst [.int 0])) o2 (.lst (row.map V.int++[.int 0]))) o3 (.lst [.int 0])) o4 (.lst ([.int 0]++row.map V.int))) o4=some (.lst ([.int 0]++row.map V.int)):=upd_same
  generalize (upd (upd (upd (upd H4 o1 (.lst [.int 0])) o2 (.lst (row.map V.int++[.int 0]))) o3 (.lst [.int 0])) o4 (.lst ([.int 0]++row.map V.int)))=H8 at s8 s48 k2 k4
  have g8:=g4.trans s48
  have k2':H8 o2=some (.lst ((row++[0]).map V.int)):=by rw [k2,List.map_append];rfl
  have k4':H8 o4=some (.lst ((0::row).map V.int)):=k4
  refine ⟨o2,o4,_,_,rfl,SqL.of k2',SqL.of k4',fun D hD=>?_⟩
  refine dC (K:=K) (a:=o2) (b:=o4) (xs:=(row++[0]).map V.int) (zs:=(0::row).map V.int) (fun j ys H9=>j≤row.length+1∧ys=((iD p sl row).take j).map V.int∧Same H8 H9) ⟨Nat.zero_le _,rfl,am (Same.refl _) hD⟩ ?_ ?_ ?_
  ·rintro j ys H9 ⟨_,_,s9⟩
   exact ⟨SqL.of (s9 _ _ k2'),SqL.of (s9 _ _ k4')⟩
  ·rintro j x z ys H9 c hx hz ⟨hj,rfl,s9⟩ hD9 hc
   rw [List.getElem?_map] at hx hz
   cases h1:(row++[0])[j]? with
   | none=>rw [h1] at hx;cases hx
   | some x1 =>
   cases h2:(0::row)[j]? with
   | none=>rw [h2] at hz;cases hz
   | some z1 =>
   rw [h1] at hx
   rw [h2] at hz
   cases hx
   cases hz
   have jl:j<row.length+1:=by have:=(List.getElem?_eq_some_iff.mp h2).1;simpa using this
   have s10:=aj hc (.tup [.int x1,.int z1])
   refine ⟨c,_,rfl,SqT.of upd_same,rfl,_,_,rfl,_,_,rfl,rfl,⟨rfl,rfl⟩,?_⟩
   refine ⟨_,rfl,_,rfl,_,rfl,_,_,rfl,rfl,.inl ⟨by omega,by omega⟩,_,_,rfl,rfl,_,rfl,t,C,dx,_,_,rfl,(g8.trans (s9.trans s10)) _ _ ht,T.cl,T.nP,gW _ _ _,_,_,rfl,rfl,by omega,?_⟩
   refine ⟨s10 _ _ hD9,au (by rw [List.length_map,List.length_take];omega),jl,?_,am (s9.trans s10) hD⟩
   have hv2:(iD p sl row)[j]?=some ((x1 - sl*z1)%p):=by
    unfold iD
    rw [List.getElem?_zipWith,h1,h2]
   rw [List.take_add_one,hv2,List.map_append]
   rfl
  ·rintro ys H9 ⟨_,rfl,s9⟩ hD9
   rw [List.take_of_length_le (by rw [lf];simp)] at hD9
   refine ⟨g8.trans s9,D,_,_,rfl,?_,il⟩
   rw [hD9,List.take_add_one,hv]
   show _=some (HO.lst ((gm p (hs.take i++[h])).map V.int))
   rw [jM,hrow,hsl]
 ·rintro σ H3 ⟨s3,ra,v3,v4,rfl,hra,_⟩
  rw [List.length_map,List.take_length] at hra
  have rl:=gl p hs
  refine ⟨_,rfl,(by show 1≤sizeLine;decide),fun o1 ho1=>?_⟩
  have s4:=aj ho1 (.lst [.int 0])
  refine ⟨_,rfl,t,C,dx,_,_,rfl,(s3.trans s4) _ _ ht,T.cl,T.nF,tf_f _ _ _,_,_,rfl,rfl,_,rfl,ra,_,rfl,.inl (SqL.of (s4 _ _ hra)),_,_,rfl,rfl,?_⟩
  rw [List.length_map,rl]
  refine ⟨o1,_,_,rfl,rfl,upd_same,by omega,by omega,?_,fun o2 ho2=>?_⟩
  ·exact small (by show 1*_≤1000;omega)
  have s5:=aj ho2 (.lst (List.replicate (f+1 - ((hs.length+1:Nat):Int)).toNat [V.int 0]).flatten)
  refine ⟨ra,o2,_,_,rfl,rfl,s5 _ _ (s4 _ _ hra),upd_same,?_,fun d hd=>?_⟩
  ·rw [qO,List.length_map,rl]
   exact small (by show _+_*1≤1000;omega)
  ·refine q1 hR (by omega) d _ ((s3.trans (s4.trans s5)).trans (aj hd _)) ((s3.trans (s4.trans s5)).free hd) ?_
   rw [upd_same]
   unfold dD
   rw [List.map_append,List.map_replicate]
   have e:(f+1 - ((hs.length+1:Nat):Int)).toNat=f.toNat+1 - (hs.length+1):=by omega
   rw [e]
   have fl:∀ k:Nat,(List.replicate k [V.int 0]).flatten=List.replicate k (V.int 0):=fun k=>by
    induction k with
    | zero=>rfl
    | succ k ih=>rw [List.replicate_succ,List.flatten_cons,ih];rfl
   rw [fl]
end
section
variable {P:Program}{w:World}{K:PySem.W.Frag}{mg:Str→Option Value}{base:Heap}{C pa:Addr}
theorem iG:az ["table","steps","chance"] ["table","steps","chance"] (ao cr):=⟨rfl,rfl,rfl,by decide +kernel,rfl,by decide +kernel,by decide +kernel⟩
theorem hX {cS cC:Addr}{bmC:List Value} (F:Src K mg "refuse_chance" "refuse_chance" cr ["table","steps","chance"]) (B:Blt mg) (E_BadChance:Exc K mg "BadChance" cC bmC) (O_needs:Ok P w K mg base CX0 6 "needs" ["table","steps"] (fun vs H Q _=>kh C cS vs H Q E0)) (O_are_numbers:Ok P w K mg base CX0 2 "are_numbers" ["table","values"] (gq C)):Ok P w K mg base (CXE P w) 7 "refuse_chance" ["table","steps","chance"] (dF C cC):=by
 refine F.okE iG (fun vs H Q E h=>?_) (fun f cdv A outer s H vs Q E hr h=>?_)
 ·obtain ⟨t,a,c,p,n,f,ws,ss,ch,rfl,_⟩:=h
  rfl
 obtain ⟨t,a,c,p,n,f,ws,ss,ch,rfl,T1,hn,hf,ha,hss,hc,hcl,hR,q1,q2⟩:=h
 refine ⟨_,(ah (bd (PW.pt (jE (av lX (aN aG rfl B.len PySem.boot_len (aa (pv 2) ac)) (ak O_needs hr rfl (aa (pv 0) (aa (pv 1) ac))) (aH _)) (gB (gD (gC (ak O_are_numbers hr rfl (aa (pv 0) (aa (pv 2) ac))) (fun _=>rfl))))))
   (ah (fK E_BadChance rfl aP))
   aI)),?_⟩
 refine ⟨_,rfl,c,_,rfl,.inl (SqL.of hc),_,rfl,_,rfl,t,a,p,n,f,ws,ss,rfl,T1,hn,hf,ha,hss,fun _ H1 s1=>?_,fun z=>absurd (z.symm.trans hR) (by decide)⟩
 refine ⟨rfl,_,rfl,?_⟩
 rw [List.length_map]
 refine bi (fun c1=>?_) (fun c1=>?_)
 ·refine pL ⟨by decide,q2 (fun z=>?_) H1 s1⟩
  rw [z.1] at c1
  simp at c1
 have c1':(ch.length:Int)=bg f n ss:=Classical.byContradiction fun e=>c1 (by
  show (!decide (V.int (ch.length:Int)=V.int (bg f n ss)))=true
  rw [decide_eq_false (fun z=>e (by injection z))]
  rfl)
 refine ⟨_,rfl,_,rfl,t,c,p,n,f,ch,rfl,T1.same s1,s1 _ _ hc,hcl,fun H2 s2=>⟨_,rfl,?_⟩⟩
 cases hN:ch.all (jI p) with
 | false=>exact ⟨by decide,q2 (fun z=>absurd (z.2.symm.trans hN) (by decide)) H2 (s1.trans s2)⟩
 | true=>exact q1 c1' hN H2 (s1.trans s2)
theorem kq:az ["table","steps","inputs","chance"] ["table","steps","inputs","chance"] (ao dz):=⟨rfl,rfl,rfl,by decide +kernel,rfl,by decide +kernel,by decide +kernel⟩
theorem jF {cS cI cC:Addr} (F:Src K mg "refuse_run" "refuse_run" dz ["table","steps","inputs","chance"]) (O_refuse_stepsE:Ok P w K mg base (CXE P w) 5 "refuse_steps" ["table","steps"] (cm C cS)) (O_refuse_inputsE:Ok P w K mg base (CXE P w) 4 "refuse_inputs" ["table","steps","inputs"] (bW C cI)) (O_refuse_chanceE:Ok P w K mg base (CXE P w) 7 "refuse_chance" ["table","steps","chance"] (dF C cC)):Ok P w K mg base (CXE P w) 8 "refuse_run" ["table","steps","inputs","chance"] (fW C cS cI cC):=by
 refine F.okE kq (fun vs H Q E h=>?_) (fun f cdv A outer s H vs Q E hr h=>?_)
 ·obtain ⟨t,a,b,c,p,n,f,ws,ss,is,inp,ch,rfl,_⟩:=h
  rfl
 obtain ⟨t,a,b,c,p,n,f,ws,ss,is,inp,ch,rfl,T1,hn,hf,ha,hss,hb,hin,hlen,hc,hcl,q1,q2,q3,q4⟩:=h
 refine ⟨_,(ad (bc (cM O_refuse_stepsE hr rfl (aa (pv 0) (aa (pv 1) ac))))
  (ad (bc (cM O_refuse_inputsE hr rfl (aa (pv 0) (aa (pv 1) (aa (pv 2) ac)))))
  (ah (bc (cM O_refuse_chanceE hr rfl (aa (pv 0) (aa (pv 1) (aa (pv 3) ac)))))))),?_⟩
 refine ⟨_,rfl,_,rfl,t,a,p,n,f,ws,ss,rfl,T1,ha,hss,fun hR H1 s1=>?_,q2⟩
 refine ⟨_,rfl,_,rfl,_,rfl,t,a,b,p,n,f,ws,ss,is,inp,rfl,T1.same s1,s1 _ _ ha,hss.same s1,s1 _ _ hb,hin.same s1,hlen,fun hI H2 s2=>?_,fun hI H' s'=>q3 hR hI H' (s1.trans s')⟩
 have g2:=s1.trans s2
 have hB:∀ b,fA p f n ss ch=b→(b=true↔((ch.length:Int)=bg f n ss∧ch.all (jI p)=true)):=fun b e=>by
  rw [← e]
  unfold fA
  rw [Bool.and_eq_true,decide_eq_true_eq]
 refine ⟨_,rfl,_,rfl,_,rfl,t,a,c,p,n,f,ws,ss,ch,rfl,T1.same g2,hn,hf,g2 _ _ ha,hss.same g2,g2 _ _ hc,hcl,hR,fun z1 z2 H3 s3=>q1 hR hI ((hB _ rfl).mpr ⟨z1,z2⟩) H3 (g2.trans s3),fun z H3 s3=>q4 hR hI ?_ H3 (g2.trans s3)⟩
 cases e:fA p f n ss ch with
 | false=>rfl
 | true=>exact absurd ((hB _ e).mp rfl) z
theorem oS:az ["table","parts","numbers"] ["table","parts","numbers"] (ao gx):=⟨rfl,rfl,rfl,by decide +kernel,rfl,by decide +kernel,by decide +kernel⟩
theorem oY (F:Src K mg "weighed" "weighed" gx ["table","parts","numbers"]) (B:Blt mg) (T:Tab K C):Ok P w K mg base CX0 1 "weighed" ["table","parts","numbers"] (i4 C):=by
 refine F.ok oS (fun vs H Q E h=>?_) (fun f cdv A outer s H vs Q E hr h=>?_)
 ·obtain ⟨t,a,b,p,n,f,xs,ys,rfl,_⟩:=h
  rfl
 obtain ⟨t,a,b,p,n,f,xs,ys,rfl,⟨dx,ht⟩,hp,ha,hb,hl,hx,hy,q⟩:=h
 refine ⟨_,(ah (aA (aq aV (aN (jv rfl) rfl B.sum PyProof.Rows.boot_sum (aa (bt ["part","number"] []  (gF rfl B.zip (aa (pv 1) (aa (pv 2) ac))) rfl (fun C s0 H0 ex=>by exact (du K 2 rfl (aE (ar (i:=0) (show List.Nodup [("part":Str),"number"] by decide +kernel) rfl (Or.inl rfl)) (aE (ar (i:=1) (show List.Nodup [("part":Str),"number"] by decide +kernel) rfl (Or.inl rfl)) bF)))) (fun C s0 H0 ex=>by exact aZ) (fun C s0 H0 ex=>by exact (aq bG (pv 0) (pv 1)))) ac)) (aJ (pv 0) rfl)))),?_⟩
 refine ⟨_,rfl,_,rfl,a,b,_,_,rfl,SqL.of ha,SqL.of hb,fun D hD=>?_⟩
 refine dC (K:=K) (a:=a) (b:=b) (xs:=xs.map V.int) (zs:=ys.map V.int) (fun j us H2=>j≤xs.length∧us=((List.zipWith (·*·) xs ys).take j).map V.int∧Same H H2) ⟨Nat.zero_le _,rfl,am (Same.refl _) hD⟩ ?_ ?_ ?_
 ·rintro j us H2 ⟨_,_,s2⟩
  exact ⟨SqL.of (s2 _ _ ha),SqL.of (s2 _ _ hb)⟩
 ·rintro j x z us H2 c ex ez ⟨hj,rfl,s2⟩ hD2 hc
  rw [List.getElem?_map] at ex ez
  cases h1:xs[j]? with
  | none=>rw [h1] at ex;cases ex
  | some x1 =>
  cases h2:ys[j]? with
  | none=>rw [h2] at ez;cases ez
  | some z1 =>
  rw [h1] at ex
  rw [h2] at ez
  cases ex
  cases ez
  have jl:j<xs.length:=(List.getElem?_eq_some_iff.mp h1).1
  have bx:=hx x1 (List.mem_of_getElem? h1)
  have s3:=aj hc (.tup [.int x1,.int z1])
  refine ⟨c,_,rfl,SqT.of upd_same,rfl,_,_,rfl,_,_,rfl,rfl,⟨rfl,rfl⟩,?_⟩
  refine ⟨_,rfl,_,rfl,_,_,rfl,rfl,.inl ⟨by omega,by omega⟩,?_⟩
  refine ⟨s3 _ _ hD2,au (by rw [List.length_map,List.length_take];omega),jl,?_,am (s2.trans s3) hD⟩
  have hv2:(List.zipWith (·*·) xs ys)[j]?=some (x1*z1):=by rw [List.getElem?_zipWith,h1,h2]
  rw [List.take_add_one,hv2,List.map_append]
  rfl
 ·rintro us H2 ⟨_,rfl,s2⟩ hD2
  rw [List.take_of_length_le (by rw [List.length_zipWith,List.length_map,List.length_map];exact Nat.le_refl _)] at hD2
  have pb:∀ v∈List.zipWith (·*·) xs ys,0≤v∧v≤1000000:=fun v hv=>by
   obtain ⟨i,hi⟩:=List.getElem?_of_mem hv
   rw [List.getElem?_zipWith] at hi
   cases h1:xs[i]? with
   | none=>rw [h1] at hi;cases hi
   | some x1 =>
   cases h2:ys[i]? with
   | none=>rw [h1,h2] at hi;cases hi
   | some z1 =>
   rw [h1,h2] at hi
   have e:x1*z1=v:=by simpa using hi
   have bx:=hx x1 (List.mem_of_getElem? h1)
   have bz:=hy z1 (List.mem_of_getElem? h2)
   rw [← e]
   exact ⟨Int.mul_nonneg bx.1 bz.1,Int.le_trans (Int.mul_le_mul (show x1≤31 by omega) (show z1≤31 by omega) bz.1 (by decide)) (by decide)⟩
  refine ⟨D,_,rfl,SqL.of hD2,by rw [List.length_zipWith];omega,pb,?_⟩
  exact ⟨_,rfl,t,C,dx,_,_,rfl,s2 _ _ ht,T.cl,T.nP,gW _ _ _,_,_,rfl,rfl,hp.1,q H2 s2⟩
end
section
variable {P:Program}{w:World}{K:PySem.W.Frag}{mg:Str→Option Value}{base:Heap}{C pa:Addr}
theorem sc_chance_by_step:az ["table","steps","chance","found","used","step","rows","place","start"] ["table","steps","chance"] (ao b7):=⟨rfl,rfl,rfl,by decide +kernel,rfl,by decide +kernel,by decide +kernel⟩
theorem hZ (F:Src K mg "chance_by_step" "chance_by_step" b7 ["table","steps","chance"]) (B:Blt mg) (T:Tab K C) (O_dealers:Ok P w K mg base CX0 2 "dealers" ["table","step"] (cn C)):Ok P w K mg base CX0 3 "chance_by_step" ["table","steps","chance"] (dG C):=by
 refine F.ok sc_chance_by_step (fun vs H Q E h=>?_) (fun f cdv A outer s H vs Q E hr h=>?_)
 ·obtain ⟨t,a,c,p,n,f,ws,ss,ch,rfl,_⟩:=h
  rfl
 obtain ⟨t,a,c,p,n,f,ws,ss,ch,rfl,T1,hn,hf,ha,hss,hsl,hch,q⟩:=h
 have wl:ws.length=ss.length:=Paired.length hss
 refine ⟨_,(ad (aD (i:=3) sc_chance_by_step.nd rfl (Or.inl rfl) (aW ac))
  (ad (aD (i:=4) sc_chance_by_step.nd rfl (Or.inl rfl) ae)
  (ad (bP PassesOwn.never rfl (bn (pv 1)) (ar (i:=5) sc_chance_by_step.nd rfl (Or.inl rfl))
   (ad (aD (i:=6) sc_chance_by_step.nd rfl (Or.inl rfl) (aW ac))
  (ad (bP PassesOwn.never rfl (dr rfl B.range (aa (aN aG rfl B.len PySem.boot_len (aa (ak O_dealers hr rfl (aa (pv 0) (aa (pv 5) ac))) ac)) ac)) (ar (i:=7) sc_chance_by_step.nd rfl (Or.inl rfl))
   (ad (aD (i:=8) sc_chance_by_step.nd rfl (Or.inl rfl) (aq aX (pv 4) (aq bG (pv 7) (aJ (pv 0) rfl))))
  (ah (bc (dO PySem.F.plainAttrs_list PySem.F.slot_list_append PySem.F.type_list_append br (pv 6) (aa (bR cU (pv 2) (cz (pv 8)) (cz (aq aX (pv 8) (aJ (pv 0) rfl)))) ac))))))
  (ad (ps_aug (i:=4) sc_chance_by_step.nd rfl (Or.inl rfl) (aq bG (aN aG rfl B.len PySem.boot_len (aa (pv 6) ac)) (aJ (pv 0) rfl)) ip_add)
  (ah (bc (dO PySem.F.plainAttrs_list PySem.F.slot_list_append PySem.F.type_list_append br (pv 3) (aa (pv 6) ac))))))))
  (ah (aA (pv 3)))))),?_⟩
 obtain ⟨dx,ht⟩:=id T1
 obtain ⟨f',rfl⟩:∃ f':Nat,f=(f':Int):=⟨f.toNat,by omega⟩
 have ef:((f':Int)).toNat=f':=by omega
 rw [ef] at q
 refine ⟨(by show 0≤sizeLine;decide),fun l hl=>?_⟩
 have sb:=aj hl (.lst [])
 have hbl:(upd H l (.lst [])) l=some (.lst []):=upd_same
 have hk:∀ x,H x=none→x≠l→(upd H l (.lst [])) x=none:=fun x e n=>by rw [aB n];exact e
 generalize upd H l (.lst [])=Hb at sb hbl hk
 refine ⟨_,rfl,a,rfl,⟨_,SqL.of (sb _ _ ha)⟩,?_⟩
 refine b8 (K:=K) (a:=a) (xs:=ws) (fun i σ H2=>Same H H2∧∃ (as:List Addr) (v5 v6 v7 v8:Option V),σ=[some (.ref t),some (.ref a),some (.ref c),some (.ref l),some (.int ((aS f' n (ss.take i):Nat):Int)),v5,v6,v7,v8]∧H2 l=some (.lst (as.map V.ref))∧LLNew Hb H2 as ((cR f' n ch ss 0).take i)) ?_ ?_ ?_ ?_
 ·exact ⟨sb,[],_,_,_,_,rfl,hbl,.nil⟩
 ·rintro i σ H2 _ ⟨s2,_⟩
  exact SqL.of (s2 _ _ ha)
 ·rintro i y σ H2 hy ⟨s2,as,v5,v6,v7,v8,rfl,hl2,has⟩
  obtain ⟨d,z,rfl,hz,hzs⟩:=(hss.same s2).get hy
  have il:i<ss.length:=(List.getElem?_eq_some_iff.mp hzs).1
  have asl:as.length≤100:=by
   rw [Paired.length has,List.length_take]
   omega
  have dl:=cf hn.1 hn.2 z
  refine ⟨(by show 0≤sizeLine;decide),fun r hr0=>?_⟩
  have s3:=aj hr0 (.lst [])
  have hr3:(upd H2 r (.lst [])) r=some (.lst (([]:List Addr).map V.ref)):=upd_same
  have rl:r≠l:=fun e=>by rw [e,hl2] at hr0;cases hr0
  have rb:Hb r=none:=hk r (s2.free hr0) rl
  generalize upd H2 r (.lst [])=H3 at s3 hr3
  have g3:=s2.trans s3
  refine ⟨_,rfl,_,rfl,t,d,p,n,_,z,rfl,T1.same g3,hn,s3 _ _ hz,fun dd H4 s4 hdd0 hdd=>?_⟩
  refine ⟨dd,_,rfl,.inl (SqL.of hdd),_,rfl,by omega,by rw [List.length_map];omega,?_⟩
  rw [List.length_map]
  generalize hU:aS f' n (ss.take i)=U
  have s24:=s3.trans s4
  refine gL (fun k σ H5=>Same H2 H5∧∃ (bs:List Addr) (v7 v8:Option V),σ=[some (.ref t),some (.ref a),some (.ref c),some (.ref l),some (.int (U:Int)),some (.ref d),some (.ref r),v7,v8]∧H5 r=some (.lst (bs.map V.ref))∧InsAt H5 bs (bh f' ch U k)∧(∀ b∈bs,Hb b=none)∧r∉bs∧k≤10) ⟨s24,[],_,_,rfl,s4 _ _ hr3,.nil,(fun b h=>nomatch h),(fun h=>nomatch h),by decide⟩ ?_ ?_
  ·rintro k σ H5 hk5 ⟨s5,bs,w7,w8,rfl,hr5,hin5,hfr,hrb,hk10⟩
   have hkl:k<(z.dealers n).length:=by omega
   have g5:=s2.trans s5
   have bl:bs.length=k:=by rw [Paired.length hin5];unfold bh;rw [List.length_map,List.length_range]
   refine ⟨_,rfl,_,rfl,_,rfl,t,C,dx,_,_,rfl,g5 _ _ ht,T.cl,T.nF,tf_f _ _ _,_,_,rfl,rfl,.inl ⟨by omega,by omega⟩,_,_,rfl,rfl,?_⟩
   have e8:(U:Int)+(0+(k:Int))*(f':Int)=((U+k*f':Nat):Int):=by rw [Int.zero_add];push_cast;rfl
   refine ⟨_,rfl,.inl ⟨rfl,_,SqL.of hr5⟩,_,rfl,_,rfl,_,rfl,_,rfl,_,rfl,t,C,dx,_,_,rfl,g5 _ _ ht,T.cl,T.nF,tf_f _ _ _,_,_,rfl,rfl,_,rfl,c,_,rfl,SqL.of (g5 _ _ hch),fun o ho=>?_⟩
   dsimp only
   rw [e8,cut_mid,← List.map_drop,← List.map_take]
   have s6:=aj ho (.lst (((ch.drop (U+k*f')).take f').map V.int))
   have or:o≠r:=fun e=>by rw [e,hr5] at ho;cases ho
   have ol:o≠l:=fun e=>by rw [e,s5 _ _ hl2] at ho;cases ho
   refine ⟨r,_,_,rfl,rfl,s6 _ _ hr5,by rw [List.length_map,bl];exact au (by omega),?_⟩
   refine ⟨am (s5.trans s6) hr0,bs++[o],_,_,rfl,by rw [upd_same,List.map_append];rfl,?_,fun b hb=>?_,fun h=>?_,by omega⟩
   ·rw [mr]
    refine InsAt.off (InsAt.snoc (hin5.same s6) upd_same) fun h=>?_
    rcases List.mem_append.mp h with h | h
    ·exact hrb h
    ·exact or (List.mem_singleton.mp h).symm
   ·rcases List.mem_append.mp hb with h | h
    ·exact hfr b h
    ·rw [List.mem_singleton.mp h]
     exact hk o (g5.free ho) ol
   ·rcases List.mem_append.mp h with h | h
    ·exact hrb h
    ·exact or (List.mem_singleton.mp h).symm
  ·rintro σ H5 ⟨s5,bs,w7,w8,rfl,hr5,hin5,hfr,hrb,_⟩
   have g5:=s2.trans s5
   have ek:((((z.dealers n).length:Nat):Int)).toNat=(z.dealers n).length:=by omega
   rw [ek] at hin5
   have bl:bs.length=(z.dealers n).length:=by rw [Paired.length hin5];unfold bh;rw [List.length_map,List.length_range]
   refine ⟨_,rfl,_,rfl,r,_,rfl,.inl (SqL.of hr5),_,rfl,t,C,dx,_,_,rfl,g5 _ _ ht,T.cl,T.nF,tf_f _ _ _,_,_,rfl,rfl,.inl ⟨by omega,by rw [List.length_map];omega⟩,_,_,rfl,rfl,?_⟩
   refine ⟨_,rfl,.inl ⟨rfl,_,SqL.of (s5 _ _ hl2)⟩,_,rfl,l,_,_,rfl,rfl,s5 _ _ hl2,by rw [List.length_map];exact au (by omega),?_⟩
   refine ⟨am g5 hl,as++[r],some (.ref d),some (.ref r),w7,w8,?_,by rw [upd_same,List.map_append];rfl,?_⟩
   ·rw [dm hzs,hU,List.length_map,bl]
    show [_,_,_,_,some (V.int ((U:Int)+((z.dealers n).length:Int)*(f':Int))),_,_,_,_]=_
    rw [show (((U+(z.dealers n).length*f':Nat)):Int)=(U:Int)+((z.dealers n).length:Int)*(f':Int) by push_cast;rfl]
   ·rw [fU hzs]
    refine LLNew.off hbl (Paired.snoc (has.same s5) ⟨rb,bs,hr5,?_,hfr⟩)
    rw [hU]
    exact hin5
 ·rintro σ H2 ⟨s2,as,v5,v6,v7,v8,rfl,hl2,has⟩
  rw [wl,List.take_of_length_le (by rw [gP];exact Nat.le_refl _)] at has
  exact ⟨_,rfl,q l as H2 s2 hl hl2 (has.older sb)⟩
theorem sc_letters_of:az ["place","senders","rows","found","sender","row","getter","number"] ["place","senders","rows"] (ao dA):=⟨rfl,rfl,rfl,by decide +kernel,rfl,by decide +kernel,by decide +kernel⟩
theorem kN (F:Src K mg "letters_of" "letters_of" dA ["place","senders","rows"]) (B:Blt mg):Ok P w K mg base CX0 1 "letters_of" ["place","senders","rows"] fX:=by
 refine F.ok sc_letters_of (fun vs H Q E h=>?_) (fun f cdv A outer s H vs Q E hr h=>?_)
 ·obtain ⟨a,b,pl,ss,bs,rows,rfl,_⟩:=h
  rfl
 obtain ⟨a,b,pl,ss,bs,rows,rfl,ha,hsl,hb,hin,hrl,q⟩:=h
 have bl:bs.length=rows.length:=Paired.length hin
 refine ⟨_,(ad (aD (i:=3) sc_letters_of.nd rfl (Or.inl rfl) (aW ac))
  (ad (bP PassesOwn.never rfl (gF rfl B.zip (aa (pv 1) (aa (pv 2) ac))) (fS rfl (aE (ar (i:=4) sc_letters_of.nd rfl (Or.inl rfl)) (aE (ar (i:=5) sc_letters_of.nd rfl (Or.inl rfl)) bF)))
   (ah (bP PassesOwn.never rfl (n0 rfl B.enumerate (aa (pv 5) ac) ae) (fS rfl (aE (ar (i:=6) sc_letters_of.nd rfl (Or.inl rfl)) (aE (ar (i:=7) sc_letters_of.nd rfl (Or.inl rfl)) bF)))
   (ah (bd (av lX (pv 6) (pv 4) (aH _))
   (ah (bc (dO PySem.F.plainAttrs_list PySem.F.slot_list_append PySem.F.type_list_append br (pv 3) (aa (bX (aa (pv 0) (aa (pv 4) (aa (pv 6) (aa (pv 7) ac))))) ac))))
   aI)))))
  (ah (aA (pv 3))))),?_⟩
 refine ⟨(by show 0≤sizeLine;decide),fun l hl=>?_⟩
 have s1:=aj hl (.lst [])
 have hl1:(upd H l (.lst [])) l=some (.lst []):=upd_same
 generalize upd H l (.lst [])=H1 at s1 hl1
 refine ⟨_,rfl,_,rfl,a,b,_,_,rfl,SqL.of (s1 _ _ ha),SqL.of (s1 _ _ hb),?_⟩
 refine for_zip (K:=K) (a:=a) (b:=b) (xs:=ss.map V.int) (zs:=bs.map V.ref) (fun i σ H2=>Same H H2∧∃ (lvs:List V) (v4 v5 v6 v7:Option V),σ=[some (.int pl),some (.ref a),some (.ref b),some (.ref l),v4,v5,v6,v7]∧H2 l=some (.lst lvs)∧LetsAt H2 lvs (bj pl (ss.take i) (rows.take i))∧lvs.length≤10*i∧i≤10) ?_ ?_ ?_ ?_
 ·exact ⟨s1,[],_,_,_,_,rfl,hl1,.nil,Nat.zero_le _,by decide⟩
 ·rintro i σ H2 ⟨s2,_⟩
  exact ⟨SqL.of (s2 _ _ ha),SqL.of (s2 _ _ hb)⟩
 ·rintro i x z σ H2 c ex ez ⟨s2,lvs,v4,v5,v6,v7,rfl,hl2,hlv,hll,hi10⟩ hc
  rw [List.getElem?_map] at ex
  cases h1:ss[i]? with
  | none=>rw [h1] at ex;cases ex
  | some sd =>
  rw [h1] at ex
  cases ex
  obtain ⟨ra,rfl,hra⟩:=eH ez
  obtain ⟨row,hrow,hrr⟩:=(hin.same s2).get hra
  have il:i<ss.length:=(List.getElem?_eq_some_iff.mp h1).1
  have rl:=hrl row (List.mem_of_getElem? hrow)
  have s3:=aj hc (.tup [.int sd,.ref ra])
  refine ⟨c,_,rfl,SqT.of upd_same,rfl,_,_,rfl,_,_,rfl,rfl,?_⟩
  have hl3:=s3 _ _ hl2
  have hrr3:=s3 _ _ hrr
  have g3:=s2.trans s3
  have hlv3:=hlv.same s3
  generalize upd H2 c (.tup [.int sd,.ref ra])=H3 at s3 hl3 hrr3 g3 hlv3
  refine ⟨_,rfl,ra,_,1,rfl,rfl,by decide,SqL.of hrr3,?_⟩
  have lz:bj pl (ss.take (i+1)) (rows.take (i+1))=bj pl (ss.take i) (rows.take i)++lK pl sd row:=by
   unfold bj
   have e:(ss.take (i+1)).zip (rows.take (i+1))=(ss.take i).zip (rows.take i)++[(sd,row)]:=by
    have hz:(ss.zip rows)[i]?=some (sd,row):=by rw [List.getElem?_zip_eq_some];exact ⟨h1,hrow⟩
    rw [iV,iV,List.take_add_one,hz]
    rfl
   rw [e,List.map_append,List.flatten_append]
   simp
  refine iT (K:=K) (a:=ra) (xs:=row.map V.int) (k0:=1) (fun j σ H4=>Same H H4∧H4 ra=some (.lst (row.map V.int))∧∃ (lv:List V) (v6 v7:Option V),σ=[some (.int pl),some (.ref a),some (.ref b),some (.ref l),some (.int sd),some (.ref ra),v6,v7]∧H4 l=some (.lst lv)∧LetsAt H4 lv (bj pl (ss.take i) (rows.take i)++(List.range j).filterMap fun k:Nat=>if 1+(k:Int)=sd then none else some (pl,sd,1+(k:Int),row.getD k 0))∧lv.length≤10*i+j) ?_ ?_ ?_ ?_
  ·refine ⟨g3,hrr3,lvs,_,_,rfl,hl3,?_,by omega⟩
   rw [List.range_zero,List.filterMap_nil,List.append_nil]
   exact hlv3
  ·rintro j σ H4 ⟨_,h4,_⟩
   exact SqL.of h4
  ·rintro j y σ H4 c4 hy ⟨s4,h4,lv,w6,w7,rfl,hl4,hlv4,hll4⟩ hc4
   rw [List.getElem?_map] at hy
   cases h2:row[j]? with
   | none=>rw [h2] at hy;cases hy
   | some v =>
   rw [h2] at hy
   cases hy
   have jl:j<row.length:=(List.getElem?_eq_some_iff.mp h2).1
   have s5:=aj hc4 (.tup [.int ((1+j:Nat):Int),.int v])
   refine ⟨c4,_,rfl,SqT.of upd_same,rfl,_,_,rfl,_,_,rfl,rfl,?_⟩
   have hl5:=s5 _ _ hl4
   have h5:=s5 _ _ h4
   have g5:=s4.trans s5
   have hlv5:=hlv4.same s5
   generalize upd H4 c4 (.tup [.int ((1+j:Nat):Int),.int v])=H5 at s5 hl5 h5 g5 hlv5
   have ej:((1+j:Nat):Int)=1+(j:Int):=by omega
   refine ⟨_,rfl,_,rfl,rfl,_,rfl,?_⟩
   refine bi (fun c1=>?_) (fun c1=>?_)
   ·have c1':¬ 1+(j:Int)=sd:=fun e=>by
     have c1'':(!decide (V.int ((1+j:Nat):Int)=V.int sd))=true:=c1
     rw [ej,e] at c1''
     simp at c1''
    refine ⟨_,rfl,.inl ⟨rfl,_,SqL.of hl5⟩,_,rfl,_,rfl,_,rfl,_,rfl,(by show 4≤sizeLine;decide),fun tt htt=>?_⟩
    have s6:=aj htt (.tup [.int pl,.int sd,.int ((1+j:Nat):Int),.int v])
    have tl:tt≠l:=fun e=>by rw [e,hl5] at htt;cases htt
    refine ⟨l,_,_,rfl,rfl,s6 _ _ hl5,au (by omega),?_⟩
    have rl2:ra≠l:=fun e=>by
     obtain ⟨_,_,z⟩:=hin.get hra
     rw [e,hl] at z
     cases z
    refine ⟨am (g5.trans s6) hl,by rw [aB rl2];exact s6 _ _ h5,lv++[.ref tt],_,_,rfl,upd_same,?_,by rw [List.length_append];show _+1≤_;omega⟩
    rw [List.range_succ,List.filterMap_append,← List.append_assoc]
    refine LetsAt.upd (s6 _ _ hl5) (Veil.Paired.append (hlv5.same s6) ?_)
    have e:(List.filterMap (fun k:Nat=>if 1+(k:Int)=sd then none else some (pl,sd,1+(k:Int),row.getD k 0)) [j])=[(pl,sd,1+(j:Int),v)]:=by
     rw [List.filterMap_cons,if_neg c1',List.getD_eq_getElem?_getD,h2]
     rfl
    rw [e]
    refine .cons ⟨tt,rfl,?_⟩ .nil
    rw [upd_same,ej]
    rfl
   ·have c1':1+(j:Int)=sd:=Classical.byContradiction fun e=>c1 (by
     show (!decide (V.int ((1+j:Nat):Int)=V.int sd))=true
     rw [ej,decide_eq_false (fun z=>e (by injection z))]
     rfl)
    refine ⟨g5,h5,lv,_,_,rfl,hl5,?_,by omega⟩
    rw [List.range_succ,List.filterMap_append]
    have e:(List.filterMap (fun k:Nat=>if 1+(k:Int)=sd then none else some (pl,sd,1+(k:Int),row.getD k 0)) [j])=[]:=by
     rw [List.filterMap_cons,if_pos c1']
     rfl
    rw [e,List.append_nil]
    exact hlv5
  ·rintro σ H4 ⟨s4,h4,lv,w6,w7,rfl,hl4,hlv4,hll4⟩
   rw [List.length_map] at hlv4 hll4
   refine ⟨s4,lv,_,_,_,_,rfl,hl4,?_,by omega,by omega⟩
   rw [lz]
   exact hlv4
 ·rintro σ H2 ⟨s2,lvs,v4,v5,v6,v7,rfl,hl2,hlv,_⟩
  refine ⟨_,rfl,q l lvs H2 s2 hl hl2 ?_⟩
  have e:bj pl ss rows=bj pl (ss.take (min (ss.map V.int).length (bs.map V.ref).length)) (rows.take (min (ss.map V.int).length (bs.map V.ref).length)):=by
   unfold bj
   rw [iV,List.take_of_length_le (by rw [List.length_zip,List.length_map,List.length_map,bl];exact Nat.le_refl _)]
  rw [e]
  exact hlv
end
section
variable {P:Program}{w:World}{K:PySem.W.Frag}{mg:Str→Option Value}{base:Heap}{C CC pa:Addr}
theorem e6:az ["self"] ["self"] (ao bU):=⟨rfl,rfl,rfl,by decide +kernel,rfl,by decide +kernel,by decide +kernel⟩
theorem qy {g:Addr}{fd:FuncData} (F:Fun K "coming_step" "Course.coming_step" bU g fd) (B:Blt mg) (TC:CrsC K CC):iU P w K mg base CX0 1 g fd ["self"] (dX C CC):=by
 refine F.ok e6 (fun vs H Q E h=>?_) (fun cdv A outer s H vs Q E hr h=>?_)
 ·obtain ⟨c,p,n,f,ss,inp,shares,z,rfl,_⟩:=h
  rfl
 obtain ⟨c,p,n,f,ss,inp,shares,z,rfl,⟨t,a,b,wa,sh,le,ws,is,shs,R⟩,hsl,hz,q⟩:=h
 obtain ⟨dx,hc⟩:=R.obj
 refine ⟨_,(ah (aA (aK aQ (aJ (pv 0) rfl) (aN aG rfl B.len PySem.boot_len (aa (aJ (pv 0) rfl) ac)) (fun _ _=>rfl)))),?_⟩
 have wl:ws.length=ss.length:=Paired.length R.st
 have sl:shs.length=shares.length:=Paired.length R.hs
 have il:shares.length<ss.length:=(List.getElem?_eq_some_iff.mp hz).1
 obtain ⟨d,z',ed,hd,hz'⟩:=R.st.get (List.getElem?_eq_getElem (show shares.length<ws.length by omega))
 rw [hz] at hz'
 cases hz'
 refine ⟨_,rfl,c,CC,dx,_,_,rfl,hc,TC.cl,TC.nS,cf_a _ _ _ _ _ _,_,rfl,c,CC,dx,_,_,rfl,hc,TC.cl,TC.nH,cf_h _ _ _ _ _ _,sh,_,rfl,.inl (SqL.of R.hsh),a,_,_,.ref d,rfl,rfl,SqL.of R.ha,?_,q d H (Same.refl H) hd⟩
 rw [List.length_map,sl]
 unfold atI
 rw [show ixN ws.length (shares.length:Int)=some shares.length by simpa using jJ (n:=ws.length) (k:=(shares.length:Int)) (by omega) (by omega),← ed]
 exact List.getElem?_eq_getElem (by omega)
theorem fP:az ["self","hand"] ["self","hand"] (ao b9):=⟨rfl,rfl,rfl,by decide +kernel,rfl,by decide +kernel,by decide +kernel⟩
theorem ok_own {g:Addr}{fd:FuncData} (F:Fun K "own_shares" "Course.own_shares" b9 g fd) (TC:CrsC K CC):iU P w K mg base CX0 1 g fd ["self","hand"] (qd C CC):=by
 refine F.ok fP (fun vs H Q E h=>?_) (fun cdv A outer s H vs Q E hr h=>?_)
 ·obtain ⟨c,p,n,f,h,ss,inp,shares,rfl,_⟩:=h
  rfl
 obtain ⟨c,p,n,f,h,ss,inp,shares,rfl,⟨t,a,b,wa,sh,le,ws,is,shs,R⟩,hsl,S,hh,q⟩:=h
 obtain ⟨dx,hc⟩:=R.obj
 refine ⟨_,(ah (aA (bt ["row"] [("hand",1)]  (bn (aJ (pv 0) rfl)) rfl (fun C s0 H0 ex=>by exact (ar (i:=0) (show List.Nodup [("row":Str),"hand"] by decide +kernel) rfl (Or.inl rfl))) (fun C s0 H0 ex=>by exact aZ) (fun C s0 H0 ex=>by exact (aK (dh K) (pv 0) (aq bo (pv 1) ae) (fun _ _=>rfl)))))),?_⟩
 have sl:shs.length=shares.length:=Paired.length R.hs
 refine ⟨_,rfl,c,CC,dx,_,_,rfl,hc,TC.cl,TC.nH,cf_h _ _ _ _ _ _,sh,rfl,⟨_,SqL.of R.hsh⟩,fun D hD=>?_⟩
 refine bv (K:=K) (a:=sh) (xs:=shs.map V.ref) (fun i ys H2=>i≤shares.length∧ys=((gG shares h).take i).map V.int∧Same H H2) ⟨Nat.zero_le _,rfl,am (Same.refl _) hD⟩ ?_ ?_ ?_
 ·rintro i ys H2 _ ⟨_,_,s2⟩
  exact SqL.of (s2 _ _ R.hsh)
 ·rintro i y ys H2 hy ⟨hi,rfl,s2⟩ hD2
  obtain ⟨ra,rfl,hra⟩:=eH hy
  obtain ⟨row,hrow,hrr⟩:=(R.hs.same s2).get hra
  have il:i<shares.length:=(List.getElem?_eq_some_iff.mp hrow).1
  have rl:=S.l row (List.mem_of_getElem? hrow)
  refine ⟨⟨rfl,rfl⟩,?_⟩
  refine ⟨_,rfl,_,rfl,_,_,rfl,rfl,ra,_,_,.int (row.getD (h - 1).toNat 0),rfl,rfl,SqL.of hrr,cg (by omega) (by omega),?_⟩
  refine ⟨hD2,au (by rw [List.length_map,List.length_take];omega),il,?_,am s2 hD⟩
  have e:(gG shares h)[i]?=some (row.getD (h - 1).toNat 0):=by
   unfold gG
   rw [List.getElem?_map,hrow]
   rfl
  rw [List.take_add_one,e,List.map_append]
  rfl
 ·rintro ys H2 ⟨_,rfl,s2⟩ hD2
  rw [List.take_of_length_le (by unfold gG;rw [List.length_map,List.length_map,sl];exact Nat.le_refl _)] at hD2
  exact q D H2 s2 hD hD2
theorem own_b {p n:Int} (hp:0<p) {shares:LL} (S:ShsOk p n shares) (h:Int):∀ v∈gG shares h,0≤v∧v<p:=fun v hv=>by
 obtain ⟨r,hr,rfl⟩:=List.mem_map.mp hv
 rw [List.getD_eq_getElem?_getD]
 cases e:r[(h - 1).toNat]? with
 | none=>exact ⟨Int.le_refl _,hp⟩
 | some v=>exact S.b r hr v (List.mem_of_getElem? e)
theorem ji (shares:LL) (h:Int):(gG shares h).length=shares.length:=List.length_map ..
theorem sc_Course_numbers_to_deal:az ["self","step"] ["self"] (ao bC):=⟨rfl,rfl,rfl,by decide +kernel,rfl,by decide +kernel,by decide +kernel⟩
theorem ok_nums {g:Addr}{fd:FuncData} (F:Fun K "numbers_to_deal" "Course.numbers_to_deal" bC g fd) (B:Blt mg) (T:Tab K C) (TC:CrsC K CC) (M_coming_step:MOk P w K mg base CX0 1 CC "coming_step" ["self"] (dX C CC)) (M_own_shares:MOk P w K mg base CX0 1 CC "own_shares" ["self","hand"] (qd C CC)) (O_input_at:Ok P w K mg base CX0 2 "input_at" ["steps","place","inputs"] gp) (O_dealers:Ok P w K mg base CX0 2 "dealers" ["table","step"] (cn C)) (O_reckoned:Ok P w K mg base CX0 1 "reckoned" ["table","step","before"] (dL C)):iU P w K mg base CX0 3 g fd ["self"] (lE C CC):=by
 refine F.ok sc_Course_numbers_to_deal (fun vs H Q E h=>?_) (fun cdv A outer s H vs Q E hr h=>?_)
 ·obtain ⟨c,p,n,f,ss,inp,shares,z,rfl,_⟩:=h
  rfl
 obtain ⟨c,p,n,f,ss,inp,shares,z,rfl,⟨t,a,b,wa,sh,le,ws,is,shs,R⟩,PA,S,hz,q⟩:=h
 refine ⟨_,(ad (aD (i:=1) sc_Course_numbers_to_deal.nd rfl (Or.inr rfl) (dv M_coming_step hr (pv 0)))
  (ad (bd (av bH (aK aY (pv 1) ae (fun _ _=>rfl)) aP (aH _))
   (ah (aA (aW (aa (ak O_input_at hr rfl (aa (aJ (pv 0) rfl) (aa (aN aG rfl B.len PySem.boot_len (aa (aJ (pv 0) rfl) ac)) (aa (aJ (pv 0) rfl) ac)))) ac))))
   aI)
  (ad (bd (av bH (aK aY (pv 1) ae (fun _ _=>rfl)) aP (aH _))
   (ah (aA (aq lW (aW (aa ae ac)) (aJ (aJ (pv 0) rfl) rfl))))
   aI)
  (ah (aA (bt ["hand"] [("step",1),("self",0)]  (bn (ak O_dealers hr rfl (aa (aJ (pv 0) rfl) (aa (pv 1) ac)))) rfl (fun C s0 H0 ex=>by exact (ar (i:=0) (show List.Nodup [("hand":Str),"step","self"] by decide +kernel) rfl (Or.inl rfl))) (fun C s0 H0 ex=>by exact aZ) (fun C s0 H0 ex=>by exact (ak O_reckoned hr rfl (aa (cX K (pv 2) rfl) (aa (pv 1) (aa (fM M_own_shares hr (pv 2) (aa (pv 0) ac)) ac))))))))))),?_⟩
 have pp:=m3 PA.hp
 have p31:=pp.2
 have il:shares.length<ss.length:=(List.getElem?_eq_some_iff.mp hz).1
 have hsl:=PA.len
 have hn:=PA.hn
 have Rz:=PA.R _ z hz
 have sl:shs.length=shares.length:=Paired.length R.hs
 obtain ⟨dx,hc⟩:=R.obj
 refine ⟨_,rfl,c,dx,_,rfl,hc,iq _ _ _ _ _ _ (by decide +kernel) (by decide +kernel) (by decide +kernel) (by decide +kernel) (by decide +kernel) (by decide +kernel),c,p,n,f,ss,inp,shares,z,rfl,⟨t,a,b,wa,sh,le,ws,is,shs,R⟩,by omega,hz,fun d H1 s1 hd=>?_⟩
 have R1:=R.same s1
 have hc1:=s1 _ _ hc
 refine ⟨_,rfl,d,_,_,.str z.word,rfl,rfl,SqT.of hd,z.at0,rfl,_,rfl,?_⟩
 refine bi (fun c1=>?_) (fun c1=>?_)
 ·have c1':V.str z.word=V.str "in":=of_decide_eq_true c1
  injection c1' with c1'
  cases z with
  | ein h =>
   refine ⟨_,rfl,c,CC,dx,_,_,rfl,hc1,TC.cl,TC.nS,cf_a _ _ _ _ _ _,_,rfl,c,CC,dx,_,_,rfl,hc1,TC.cl,TC.nH,cf_h _ _ _ _ _ _,sh,_,rfl,.inl (SqL.of R1.hsh),_,rfl,c,CC,dx,_,_,rfl,hc1,TC.cl,TC.nI,cf_b _ _ _ _ _ _,a,b,shares.length,h,p,n,ws,ss,is,inp,by rw [List.length_map,sl];rfl,R1.ha,R1.st,by omega,hz,R1.hb,R1.hin,PA.io,Rz,fun H2 s2=>?_⟩
   exact ⟨(by show 1≤sizeLine;decide),fun o ho=>q o _ ((s1.trans s2).trans (aj ho _)) ((s1.trans s2).free ho) upd_same⟩
  | _=>exact absurd c1' (by simp only [Stp.word];decide +kernel)
 have hne:∀ h,z≠.ein h:=fun h e=>by
  subst e
  exact c1 (decide_eq_true rfl)
 refine ⟨_,rfl,d,_,_,.str z.word,rfl,rfl,SqT.of hd,z.at0,rfl,_,rfl,?_⟩
 obtain ⟨dt,ht⟩:=R1.tab
 refine bi (fun c2=>?_) (fun c2=>?_)
 ·have c2':V.str z.word=V.str "anew":=of_decide_eq_true c2
  injection c2' with c2'
  cases z with
  | anew a1 =>
   refine ⟨(by show 1≤sizeLine;decide),fun o1 ho1=>?_⟩
   have s2:=aj ho1 (.lst [.int 0])
   refine ⟨_,rfl,c,CC,dx,_,_,rfl,s2 _ _ hc1,TC.cl,TC.nT,pM _ _ _ _ _ _,t,C,dt,_,_,rfl,s2 _ _ ht,T.cl,T.nH,kX _ _ _,o1,n,_,rfl,rfl,upd_same,by omega,by omega,small (by show 1*_≤1000;omega),fun o2 ho2=>?_⟩
   refine q o2 _ ((s1.trans s2).trans (aj ho2 _)) ((s1.trans s2).free ho2) ?_
   rw [upd_same]
   show _=some (HO.lst ((List.replicate n.toNat (0:Int)).map V.int))
   have fl:∀ k:Nat,(List.replicate k [V.int 0]).flatten=(List.replicate k (0:Int)).map V.int:=fun k=>by
    induction k with
    | zero=>rfl
    | succ k ih=>rw [List.replicate_succ,List.flatten_cons,ih];rfl
   rw [fl]
  | _=>exact absurd c2' (by simp only [Stp.word];decide +kernel)
 have hna:∀ a1,z≠.anew a1:=fun a1 e=>by
  subst e
  exact c2 (decide_eq_true rfl)
 have eN:bV p n ss inp shares z=(z.dealers n).map fun h=>recV p (gG shares h) z:=by
  cases z with
  | ein h=>exact absurd rfl (hne h)
  | anew a1=>exact absurd rfl (hna a1)
  | _=>rfl
 rw [eN] at q
 refine ⟨_,rfl,c,CC,dx,_,_,rfl,hc1,TC.cl,TC.nT,pM _ _ _ _ _ _,_,rfl,t,d,p,n,f,z,rfl,⟨dt,ht⟩,by omega,hd,fun da H2 s2 hda0 hda=>?_⟩
 have s12:=s1.trans s2
 have dl:=cf (n:=n) (by omega) (by omega) z
 have db:∀ h∈z.dealers n,1≤h∧h≤n:=fun h hh=>by
  have hands:∀ h∈ce n,1≤h∧h≤n:=fun h hh=>by
   unfold ce fQ at hh
   obtain ⟨i,hi,rfl⟩:=List.mem_map.mp hh
   have:=List.mem_range.mp hi
   omega
  cases z with
  | ein h'=>exact absurd rfl (hne h')
  | mul a1 b1=>exact hands h hh
  | anew a1=>exact hands h hh
  | _=>cases hh
 refine ⟨da,rfl,⟨_,SqL.of hda⟩,fun D hD=>?_⟩
 refine bv (K:=K) (a:=da) (xs:=(z.dealers n).map V.int) (fun i ys H3=>i≤(z.dealers n).length∧ys=(((z.dealers n).take i).map fun h=>recV p (gG shares h) z).map V.int∧Same H2 H3) ⟨Nat.zero_le _,rfl,am (Same.refl _) hD⟩ ?_ ?_ ?_
 ·rintro i ys H3 _ ⟨_,_,s3⟩
  exact SqL.of (s3 _ _ hda)
 ·rintro i y ys H3 hy ⟨hi,rfl,s3⟩ hD3
  rw [List.getElem?_map] at hy
  cases hv:(z.dealers n)[i]? with
  | none=>rw [hv] at hy;cases hy
  | some h =>
  rw [hv] at hy
  cases hy
  have ii:i<(z.dealers n).length:=(List.getElem?_eq_some_iff.mp hv).1
  have R3:=R1.same (s2.trans s3)
  have hb:=db h (List.mem_of_getElem? hv)
  refine ⟨⟨rfl,rfl⟩,?_⟩
  refine ⟨_,rfl,c,CC,dx,_,_,rfl,(s2.trans s3) _ _ hc1,TC.cl,TC.nT,pM _ _ _ _ _ _,_,rfl,_,rfl,c,dx,_,rfl,(s2.trans s3) _ _ hc1,iq _ _ _ _ _ _ (by decide +kernel) (by decide +kernel) (by decide +kernel) (by decide +kernel) (by decide +kernel) (by decide +kernel),_,rfl,c,p,n,f,h,ss,inp,shares,rfl,⟨t,a,b,wa,sh,le,ws,is,shs,R3⟩,by omega,S,hb,fun oa H4 s4 hoa0 hoa=>?_⟩
  have R4:=R3.same s4
  refine ⟨t,d,oa,p,n,f,z,gG shares h,rfl,R4.tab,⟨by omega,p31⟩,(s2.trans (s3.trans s4)) _ _ hd,hoa,by rw [ji];exact Rz,hne,own_b (by omega) S h,fun H5 s5=>?_⟩
  refine ⟨(s4.trans s5) _ _ hD3,au (by rw [List.length_map,List.length_map,List.length_take];omega),ii,?_,am (s3.trans (s4.trans s5)) hD⟩
  rw [List.take_add_one,hv,List.map_append,List.map_append]
  rfl
 ·rintro ys H3 ⟨_,rfl,s3⟩ hD3
  rw [List.length_map,List.take_length] at hD3
  exact q D H3 (s12.trans s3) (s12.free hD) hD3
end
section
variable {P:Program}{w:World}{K:PySem.W.Frag}{mg:Str→Option Value}{base:Heap}{C CC pa:Addr}
theorem sc_Course_new_share:az ["self","hand","rows","step","got","old"] ["self","hand","rows"] (ao cy):=⟨rfl,rfl,rfl,by decide +kernel,rfl,by decide +kernel,by decide +kernel⟩
theorem ok_newsh {g:Addr}{fd:FuncData} (F:Fun K "new_share" "Course.new_share" cy g fd) (B:Blt mg) (T:Tab K C) (TC:CrsC K CC) (M_coming_step:MOk P w K mg base CX0 1 CC "coming_step" ["self"] (dX C CC)) (M_own_shares:MOk P w K mg base CX0 1 CC "own_shares" ["self","hand"] (qd C CC)) (O_weighed:Ok P w K mg base CX0 1 "weighed" ["table","parts","numbers"] (i4 C)) (O_reckoned:Ok P w K mg base CX0 1 "reckoned" ["table","step","before"] (dL C)):iU P w K mg base CX0 2 g fd ["self","hand","rows"] (kg C CC):=by
 refine F.ok sc_Course_new_share (fun vs H Q E h=>?_) (fun cdv A outer s H vs Q E hr h=>?_)
 ·obtain ⟨c,ra,p,n,f,h,ss,inp,shares,rows,z,rs,rfl,_⟩:=h
  rfl
 obtain ⟨c,ra,p,n,f,h,ss,inp,shares,rows,z,rs,rfl,⟨t,a,b,wa,sh,le,ws,is,shs,R⟩,PA,S,hz,hra,hin,Sr,hrl,hh,q⟩:=h
 refine ⟨_,(ad (aD (i:=3) sc_Course_new_share.nd rfl (Or.inl rfl) (dv M_coming_step hr (pv 0)))
  (ad (bD 4 ["row"] [("hand",1)] sc_Course_new_share.nd  (bn (pv 2)) rfl (fun C s0 H0 ex=>by exact (ar (i:=0) (show List.Nodup [("row":Str),"hand"] by decide +kernel) rfl (Or.inl rfl))) (fun C s0 H0 ex=>by exact aZ) (fun C s0 H0 ex=>by exact (aK (dh K) (pv 0) (aq bo (pv 1) ae) (fun _ _=>rfl))))
  (ad (bd (av bH (aK aY (pv 3) ae (fun _ _=>rfl)) aP (aH _))
   (ah (aA (aK aQ (pv 4) ae (fun _ _=>rfl))))
   aI)
  (ad (bd (av bH (aK aY (pv 3) ae (fun _ _=>rfl)) aP (aH _))
   (ah (aA (ak O_weighed hr rfl (aa (aJ (pv 0) rfl) (aa (aJ (pv 0) rfl) (aa (pv 4) ac))))))
   aI)
  (ad (aD (i:=5) sc_Course_new_share.nd rfl (Or.inl rfl) (ak O_reckoned hr rfl (aa (aJ (pv 0) rfl) (aa (pv 3) (aa (fM M_own_shares hr (pv 0) (aa (pv 1) ac)) ac)))))
  (ah (aA (aq aV (aq aX (pv 5) (aN (jv rfl) rfl B.sum PyProof.Rows.boot_sum (aa (pv 4) ac))) (aJ (aJ (pv 0) rfl) rfl))))))))),?_⟩
 have pp:=m3 PA.hp
 have il:shares.length<ss.length:=(List.getElem?_eq_some_iff.mp hz).1
 have hsl:=PA.len
 have hn:=PA.hn
 have Rz:=PA.R _ z hz
 have dl:=cf (n:=n) (by omega) (by omega) z
 have rsl:rs.length=rows.length:=Paired.length hin
 obtain ⟨dx,hc⟩:=R.obj
 refine ⟨_,rfl,c,dx,_,rfl,hc,iq _ _ _ _ _ _ (by decide +kernel) (by decide +kernel) (by decide +kernel) (by decide +kernel) (by decide +kernel) (by decide +kernel),c,p,n,f,ss,inp,shares,z,rfl,⟨t,a,b,wa,sh,le,ws,is,shs,R⟩,by omega,hz,fun d H1 s1 hd=>?_⟩
 refine ⟨_,rfl,ra,rfl,⟨_,SqL.of (s1 _ _ hra)⟩,fun D hD=>?_⟩
 refine bv (K:=K) (a:=ra) (xs:=rs.map V.ref) (fun i ys H2=>i≤rows.length∧ys=((gG rows h).take i).map V.int∧Same H1 H2) ⟨Nat.zero_le _,rfl,am (Same.refl _) hD⟩ ?_ ?_ ?_
 ·rintro i ys H2 _ ⟨_,_,s2⟩
  exact SqL.of ((s1.trans s2) _ _ hra)
 ·rintro i y ys H2 hy ⟨hi,rfl,s2⟩ hD2
  obtain ⟨oa,rfl,hoa⟩:=eH hy
  obtain ⟨row,hrow,hrr⟩:=(hin.same (s1.trans s2)).get hoa
  have ii:i<rows.length:=(List.getElem?_eq_some_iff.mp hrow).1
  have rl:=Sr.l row (List.mem_of_getElem? hrow)
  refine ⟨⟨rfl,rfl⟩,?_⟩
  refine ⟨_,rfl,_,rfl,_,_,rfl,rfl,oa,_,_,.int (row.getD (h - 1).toNat 0),rfl,rfl,SqL.of hrr,cg (by omega) (by omega),?_⟩
  refine ⟨hD2,au (by rw [List.length_map,List.length_take];omega),ii,?_,am s2 hD⟩
  have e:(gG rows h)[i]?=some (row.getD (h - 1).toNat 0):=by
   unfold gG
   rw [List.getElem?_map,hrow]
   rfl
  rw [List.take_add_one,e,List.map_append]
  rfl
 rintro ys H2 ⟨_,rfl,s2⟩ hD2
 rw [List.take_of_length_le (by rw [ji,List.length_map,rsl];exact Nat.le_refl _)] at hD2
 have g2:=s1.trans s2
 have R2:=R.same g2
 have hc2:=g2 _ _ hc
 have hd2:=s2 _ _ hd
 have gb:=own_b (by omega) Sr h
 refine ⟨_,rfl,d,_,_,.str z.word,rfl,rfl,SqT.of hd2,z.at0,rfl,_,rfl,?_⟩
 refine bi (fun c1=>?_) (fun c1=>?_)
 ·have c1':V.str z.word=V.str "in":=of_decide_eq_true c1
  injection c1' with c1'
  cases z with
  | ein h' =>
   have hl1:(gG rows h).length=1:=by rw [ji,hrl];rfl
   cases eo:gG rows h with
   | nil=>rw [eo] at hl1;cases hl1
   | cons v r =>
    have er:r=[]:=by
     rw [eo] at hl1
     cases r with
     | nil=>rfl
     | cons x y=>simp at hl1
    refine ⟨_,rfl,D,_,_,.int v,rfl,rfl,SqL.of hD2,by rw [eo,er];rfl,?_⟩
    have:=q H2 g2
    rw [show nh p n shares rows (.ein h') h=v by show (gG rows h).headD 0=v;rw [eo];rfl] at this
    exact this
  | _=>exact absurd c1' (by simp only [Stp.word];decide +kernel)
 have hne:∀ h,z≠.ein h:=fun h e=>by
  subst e
  exact c1 (decide_eq_true rfl)
 refine ⟨_,rfl,d,_,_,.str z.word,rfl,rfl,SqT.of hd2,z.at0,rfl,_,rfl,?_⟩
 refine bi (fun c2=>?_) (fun c2=>?_)
 ·have c2':V.str z.word=V.str "mul":=of_decide_eq_true c2
  injection c2' with c2'
  cases z with
  | mul a1 b1 =>
   have wk:=ws_ok PA.hp (n:=n.toNat) (by omega) (by omega) (by have:=PA.np;omega)
   exact ⟨_,rfl,c,CC,dx,_,_,rfl,hc2,TC.cl,TC.nT,pM _ _ _ _ _ _,_,rfl,c,CC,dx,_,_,rfl,hc2,TC.cl,TC.nP,cf_w _ _ _ _ _ _,_,rfl,t,wa,D,p,n,f,cj p n.toNat,gG rows h,rfl,R2.tab,⟨by omega,pp.2⟩,R2.hw,hD2,by rw [k9];omega,wk.2,gb,fun H3 s3=>q H3 (g2.trans s3)⟩
  | _=>exact absurd c2' (by simp only [Stp.word];decide +kernel)
 have hnm:∀ a1 b1,z≠.mul a1 b1:=fun a1 b1 e=>by
  subst e
  exact c2 (decide_eq_true rfl)
 have eN:nh p n shares rows z h=(recV p (gG shares h) z+(gG rows h).sum)%p:=by
  cases z with
  | ein h'=>exact absurd rfl (hne h')
  | mul a1 b1=>exact absurd rfl (hnm a1 b1)
  | _=>rfl
 rw [eN] at q
 refine ⟨_,rfl,c,CC,dx,_,_,rfl,hc2,TC.cl,TC.nT,pM _ _ _ _ _ _,_,rfl,_,rfl,c,dx,_,rfl,hc2,iq _ _ _ _ _ _ (by decide +kernel) (by decide +kernel) (by decide +kernel) (by decide +kernel) (by decide +kernel) (by decide +kernel),_,rfl,c,p,n,f,h,ss,inp,shares,rfl,⟨t,a,b,wa,sh,le,ws,is,shs,R2⟩,by omega,S,hh,fun oa H3 s3 hoa0 hoa=>?_⟩
 have R3:=R2.same s3
 refine ⟨t,d,oa,p,n,f,z,gG shares h,rfl,R3.tab,⟨by omega,pp.2⟩,s3 _ _ hd2,hoa,by rw [ji];exact Rz,hne,own_b (by omega) S h,fun H4 s4=>?_⟩
 have s24:=s3.trans s4
 obtain ⟨dt,ht⟩:=(R2.same s24).tab
 refine ⟨_,rfl,_,rfl,D,_,rfl,SqL.of (s24 _ _ hD2),by rw [ji,hrl];omega,fun v hv=>⟨(gb v hv).1,by have:=(gb v hv).2;omega⟩,_,_,rfl,rfl,?_⟩
 exact ⟨_,rfl,c,CC,dx,_,_,rfl,s24 _ _ hc2,TC.cl,TC.nT,pM _ _ _ _ _ _,t,C,dt,_,_,rfl,ht,T.cl,T.nP,gW _ _ _,_,_,rfl,rfl,by omega,q H4 (g2.trans s24)⟩
theorem sc_Course_send_letters:az ["self","step","made","rows","place","told"] ["self","step","made","rows"] (ao bO):=⟨rfl,rfl,rfl,by decide +kernel,rfl,by decide +kernel,by decide +kernel⟩
theorem ok_send {g:Addr}{fd:FuncData} (F:Fun K "send_letters" "Course.send_letters" bO g fd) (B:Blt mg) (T:Tab K C) (TC:CrsC K CC) (O_letters_of:Ok P w K mg base CX0 1 "letters_of" ["place","senders","rows"] fX) (O_all_hands:Ok P w K mg base CX0 1 "all_hands" ["table"] (dM C)) (O_dealers:Ok P w K mg base CX0 2 "dealers" ["table","step"] (cn C)):iU P w K mg base CX0 3 g fd ["self","step","made","rows"] (nN C CC):=by
 refine F.ok sc_Course_send_letters (fun vs H Q E h=>?_) (fun cdv A outer s H vs Q E hr h=>?_)
 ·obtain ⟨c,d,ma,ra,le,p,n,f,ss,inp,shares,rows,z,rs,made,lvs,lets,t,a,b,wa,sh,ws,is,shs,rfl,_⟩:=h
  rfl
 obtain ⟨c,d,ma,ra,le,p,n,f,ss,inp,shares,rows,z,rs,made,lvs,lets,t,a,b,wa,sh,ws,is,shs,rfl,R,PA,hs24,hd,hma,hml,hra,hin,hrl,hle,hlv,hll,q⟩:=h
 refine ⟨_,(ad (aD (i:=4) sc_Course_send_letters.nd rfl (Or.inl rfl) (aN aG rfl B.len PySem.boot_len (aa (aJ (pv 0) rfl) ac)))
  (ah (bd (av bH (aK aY (pv 1) ae (fun _ _=>rfl)) aP (aH _))
   (ad (bD 5 ["share"] [("self",0)] sc_Course_send_letters.nd  (bn (pv 2)) rfl (fun C s0 H0 ex=>by exact (ar (i:=0) (show List.Nodup [("share":Str),"self"] by decide +kernel) rfl (Or.inl rfl))) (fun C s0 H0 ex=>by exact aZ) (fun C s0 H0 ex=>by exact (aq lW (aW (aa (pv 0) ac)) (cX K (cX K (pv 1) rfl) rfl))))
  (ah (bc (dO PySem.F.plainAttrs_list PySem.F.slot_list_extend PySem.F.type_list_extend jk (aJ (pv 0) rfl) (aa (ak O_letters_of hr rfl (aa (pv 4) (aa (ak O_all_hands hr rfl (aa (aJ (pv 0) rfl) ac)) (aa (pv 5) ac)))) ac)))))
   (ah (bc (dO PySem.F.plainAttrs_list PySem.F.slot_list_extend PySem.F.type_list_extend jk (aJ (pv 0) rfl) (aa (ak O_letters_of hr rfl (aa (pv 4) (aa (ak O_dealers hr rfl (aa (aJ (pv 0) rfl) (aa (pv 1) ac))) (aa (pv 3) ac)))) ac))))))),?_⟩
 have hn:=PA.hn
 have sl:shs.length=shares.length:=Paired.length R.hs
 obtain ⟨dx,hc⟩:=R.obj
 have fin:∀ (l2:List V) (o:Addr) (H2:Hp) (ls:List mH),Same H H2→H2 o=some (.lst l2)→LetsAt H2 l2 ls→ls.length≤1000→mi p n (shares.length:Int) made rows z=ls→(∃ (l b:Addr) (xs zs:List V),(V.ref le)=.ref l∧[V.ref o]=[.ref b]∧H2 l=some (.lst xs)∧H2 b=some (.lst zs)∧xs.length+zs.length≤sizeLine∧Q .non (upd H2 l (.lst (xs++zs)))):=fun l2 o H2 ls s2 ho hl2 hln e=>by
  have ll:=Paired.length hlv
  have ll2:=Paired.length hl2
  refine ⟨le,o,lvs,l2,rfl,rfl,s2 _ _ hle,ho,?_,?_⟩
  ·have:(11000:Nat)≤sizeLine:=by decide
   omega
  ·refine q _ _ (fun x u hx hn=>?_) upd_same ?_
   ·rw [aB (fun e=>hn (by rw [e];exact List.mem_singleton.mpr rfl))]
    exact s2 _ _ hx
   ·rw [e]
    exact LetsAt.upd (s2 _ _ hle) (Veil.Paired.append (hlv.same s2) hl2)
 have sent_le:∀ (pl s:Int) (r:List Int),(lK pl s r).length≤r.length:=fun pl s r=>by
  unfold lK
  refine Nat.le_trans (List.length_filterMap_le _ _) ?_
  rw [List.length_range]
  exact Nat.le_refl _
 have letl:∀ (pl:Int) (sd:List Int) (rw_:LL),(∀ r∈rw_,r.length≤10)→(bj pl sd rw_).length≤10*sd.length:=fun pl sd=>by
  induction sd with
  | nil=>intro rw_ _;simp [bj]
  | cons s r ih =>
   intro rw_ hb
   cases rw_ with
   | nil=>simp [bj]
   | cons x y =>
    have:=ih y fun r hr=>hb r (List.mem_cons_of_mem _ hr)
    have h2:=sent_le pl s x
    have h3:=hb x List.mem_cons_self
    unfold bj at this ⊢
    rw [List.zip_cons_cons,List.map_cons,List.flatten_cons,List.length_append,List.length_cons]
    show (lK pl s x).length+_≤_
    omega
 refine ⟨_,rfl,c,CC,dx,_,_,rfl,hc,TC.cl,TC.nH,cf_h _ _ _ _ _ _,sh,_,rfl,.inl (SqL.of R.hsh),?_⟩
 rw [List.length_map,sl]
 refine ⟨_,rfl,d,_,_,.str z.word,rfl,rfl,SqT.of hd,z.at0,rfl,_,rfl,?_⟩
 refine bi (fun c1=>?_) (fun c1=>?_)
 ·have c1':V.str z.word=V.str "open":=of_decide_eq_true c1
  injection c1' with c1'
  cases z with
  | opn a1 =>
   refine ⟨_,rfl,ma,rfl,⟨_,SqL.of hma⟩,fun D hD=>?_⟩
   refine bv (K:=K) (a:=ma) (xs:=made.map V.int) (fun i ys H2=>i≤made.length∧Same H H2∧∃ ds:List Addr,ys=ds.map V.ref∧InsAt H2 ds ((made.take i).map fun v=>List.replicate n.toNat v)∧D∉ds) ⟨Nat.zero_le _,am (Same.refl _) hD,[],rfl,.nil,(fun h=>nomatch h)⟩ ?_ ?_ ?_
   ·rintro i ys H2 _ ⟨_,s2,_⟩
    exact SqL.of (s2 _ _ hma)
   ·rintro i y ys H2 hy ⟨hi,s2,ds,rfl,hds,hDd⟩ hD2
    rw [List.getElem?_map] at hy
    cases hv:made[i]? with
    | none=>rw [hv] at hy;cases hy
    | some v =>
    rw [hv] at hy
    cases hy
    have ii:i<made.length:=(List.getElem?_eq_some_iff.mp hv).1
    have dl:ds.length=i:=by rw [Paired.length hds,List.length_map,List.length_take];omega
    obtain ⟨dt,ht⟩:=(R.same s2).tab
    refine ⟨⟨rfl,rfl⟩,?_⟩
    refine ⟨_,rfl,(by show 1≤sizeLine;decide),fun o1 ho1=>?_⟩
    have s3:=aj ho1 (.lst [.int v])
    refine ⟨_,rfl,c,CC,dx,_,_,rfl,s3 _ _ (s2 _ _ hc),TC.cl,TC.nT,pM _ _ _ _ _ _,t,C,dt,_,_,rfl,s3 _ _ ht,T.cl,T.nH,kX _ _ _,o1,n,_,rfl,rfl,upd_same,by omega,by omega,small (by show 1*_≤1000;omega),fun o2 ho2=>?_⟩
    have fl:∀ k:Nat,(List.replicate k [V.int v]).flatten=(List.replicate k v).map V.int:=fun k=>by
     induction k with
     | zero=>rfl
     | succ k ih=>rw [List.replicate_succ,List.flatten_cons,ih];rfl
    rw [fl]
    have s4:=aj ho2 (.lst ((List.replicate n.toNat v).map V.int))
    have s34:=s3.trans s4
    have oD:o2≠D:=fun e=>by rw [e,s3 _ _ hD2] at ho2;cases ho2
    have nD:D∉ds++[o2]:=fun h=>by
     rcases List.mem_append.mp h with h | h
     ·exact hDd h
     ·exact oD (List.mem_singleton.mp h).symm
    refine ⟨s34 _ _ hD2,au (by rw [List.length_map];omega),ii,am (s2.trans s34) hD,ds++[o2],by rw [List.map_append];rfl,?_,nD⟩
    rw [List.take_add_one,hv,List.map_append]
    exact InsAt.off (InsAt.snoc (hds.same s34) upd_same) nD
   rintro ys H2 ⟨_,s2,ds,rfl,hds,hDd⟩ hD2
   rw [List.length_map,List.take_length] at hds
   have R2:=R.same s2
   have hc2:=s2 _ _ hc
   refine ⟨_,rfl,c,CC,dx,_,_,rfl,hc2,TC.cl,TC.nL,cf_l _ _ _ _ _ _,.inl ⟨rfl,_,SqL.of (s2 _ _ hle)⟩,_,rfl,_,rfl,c,CC,dx,_,_,rfl,hc2,TC.cl,TC.nT,pM _ _ _ _ _ _,t,p,n,f,rfl,R2.tab,by omega,fun ha' H3 s3 hha0 hha=>?_⟩
   have hdn:∀ r∈made.map fun v=>List.replicate n.toNat v,r.length≤10:=fun r hr=>by
    obtain ⟨v,_,rfl⟩:=List.mem_map.mp hr
    rw [List.length_replicate]
    omega
   refine ⟨_,rfl,ha',D,_,ce n,ds,_,rfl,hha,by rw [cE];omega,s3 _ _ hD2,hds.same s3,hdn,fun o l2 H4 s4 ho0 ho hl2=>?_⟩
   exact fin l2 o H4 _ (s2.trans (s3.trans s4)) ho hl2 (by have:=letl (shares.length:Int) (ce n) _ hdn;rw [cE] at this;omega) rfl
  | _=>exact absurd c1' (by simp only [Stp.word];decide +kernel)
 have hno:∀ a1,z≠.opn a1:=fun a1 e=>by
  subst e
  exact c1 (decide_eq_true rfl)
 have eL:mi p n (shares.length:Int) made rows z=bj (shares.length:Int) (z.dealers n) rows:=by
  cases z with
  | opn a1=>exact absurd rfl (hno a1)
  | _=>rfl
 have dl:=cf (n:=n) (by omega) (by omega) z
 refine ⟨_,rfl,c,CC,dx,_,_,rfl,hc,TC.cl,TC.nL,cf_l _ _ _ _ _ _,.inl ⟨rfl,_,SqL.of hle⟩,_,rfl,_,rfl,c,CC,dx,_,_,rfl,hc,TC.cl,TC.nT,pM _ _ _ _ _ _,_,rfl,t,d,p,n,f,z,rfl,R.tab,by omega,hd,fun da H2 s2 hda0 hda=>?_⟩
 have hrn:∀ r∈rows,r.length≤10:=fun r hr=>by have:=hrl r hr;omega
 refine ⟨_,rfl,da,ra,_,z.dealers n,rs,rows,rfl,hda,dl,s2 _ _ hra,hin.same s2,hrn,fun o l2 H3 s3 ho0 ho hl2=>?_⟩
 exact fin l2 o H3 _ (s2.trans s3) ho hl2 (by have:=letl (shares.length:Int) (z.dealers n) rows hrn;omega) eL
end
section
variable {P:Program}{w:World}{K:PySem.W.Frag}{mg:Str→Option Value}{base:Heap}{C CC pa:Addr}
theorem sc_Course_go_on:az ["self","chance_rows","rows","made"] ["self","chance_rows"] (ao dH):=⟨rfl,rfl,rfl,by decide +kernel,rfl,by decide +kernel,by decide +kernel⟩
theorem ok_go {g:Addr}{fd:FuncData} (F:Fun K "go_on" "Course.go_on" dH g fd) (B:Blt mg) (T:Tab K C) (TC:CrsC K CC) (M_coming_step:MOk P w K mg base CX0 1 CC "coming_step" ["self"] (dX C CC)) (M_numbers_to_deal:MOk P w K mg base CX0 3 CC "numbers_to_deal" ["self"] (lE C CC)) (M_new_share:MOk P w K mg base CX0 2 CC "new_share" ["self","hand","rows"] (kg C CC)) (M_send_letters:MOk P w K mg base CX0 3 CC "send_letters" ["self","step","made","rows"] (nN C CC)) (O_dealt:Ok P w K mg base CX0 2 "dealt" ["table","number","chance"] (mT C)) (O_all_hands:Ok P w K mg base CX0 1 "all_hands" ["table"] (dM C)):iU P w K mg base CX0 4 g fd ["self","chance_rows"] (spGo C CC):=by
 refine F.ok sc_Course_go_on (fun vs H Q E h=>?_) (fun cdv A outer s H vs Q E hr h=>?_)
 ·obtain ⟨c,ca,le,p,n,f,ss,inp,shares,crows,z,cs,lvs,lets,t,a,b,wa,sh,ws,is,shs,rfl,_⟩:=h
  rfl
 obtain ⟨c,ca,le,p,n,f,ss,inp,shares,crows,z,cs,lvs,lets,t,a,b,wa,sh,ws,is,shs,rfl,R,D0,PA,S,hz,hca,hcs,hcl,hcb,hle,hlv,hll,q⟩:=h
 have pp:=m3 PA.hp
 have hn:=PA.hn
 have np:=PA.np
 have hsl:=PA.len
 have il:shares.length<ss.length:=(List.getElem?_eq_some_iff.mp hz).1
 have dl:=cf (n:=n) (by omega) (by omega) z
 have csl:cs.length=crows.length:=Paired.length hcs
 have nl:=iS (p:=p) (n:=n) (by omega) ss inp shares z
 obtain ⟨dx,hc⟩:=R.obj
 refine aL (aD (i:=2) sc_Course_go_on.nd rfl (Or.inr rfl) (bt ["number","row"] [("self",0)]  (gF rfl B.zip (aa (dv M_numbers_to_deal hr (pv 0)) (aa (pv 1) ac))) rfl (fun C s0 H0 ex=>by exact (du K 2 rfl (aE (ar (i:=0) (show List.Nodup [("number":Str),"row","self"] by decide +kernel) rfl (Or.inl rfl)) (aE (ar (i:=1) (show List.Nodup [("number":Str),"row","self"] by decide +kernel) rfl (Or.inl rfl)) bF)))) (fun C s0 H0 ex=>by exact aZ) (fun C s0 H0 ex=>by exact (ak O_dealt hr rfl (aa (cX K (pv 2) rfl) (aa (pv 0) (aa (pv 1) ac))))))) fun u hu=>?_
 refine ⟨_,rfl,c,dx,_,rfl,hc,iq _ _ _ _ _ _ (by decide +kernel) (by decide +kernel) (by decide +kernel) (by decide +kernel) (by decide +kernel) (by decide +kernel),c,p,n,f,ss,inp,shares,z,rfl,⟨t,a,b,wa,sh,le,ws,is,shs,R⟩,PA,S,hz,fun na H1 s1 hna0 hna=>?_⟩
 refine ⟨_,rfl,na,ca,_,_,rfl,SqL.of hna,SqL.of (s1 _ _ hca),fun ra hra0=>?_⟩
 refine dC (K:=K) (a:=na) (b:=ca) (xs:=(bV p n ss inp shares z).map V.int) (zs:=cs.map V.ref) (fun i ys H2=>i≤(z.dealers n).length∧Same H1 H2∧∃ ds:List Addr,ys=ds.map V.ref∧InsAt H2 ds ((dn p n ss inp shares crows z).take i)∧ra∉ds) ⟨Nat.zero_le _,am (Same.refl _) hra0,[],rfl,.nil,(fun h=>nomatch h)⟩ ?_ ?_ ?_
 ·rintro i ys H2 ⟨_,s2,_⟩
  exact ⟨SqL.of (s2 _ _ hna),SqL.of ((s1.trans s2) _ _ hca)⟩
 ·rintro i x y ys H2 cc ex ey ⟨hi,s2,ds,rfl,hds,hrd⟩ hD2 hcc
  rw [List.getElem?_map] at ex
  cases h1:(bV p n ss inp shares z)[i]? with
  | none=>rw [h1] at ex;cases ex
  | some x1 =>
  rw [h1] at ex
  cases ex
  obtain ⟨oa,rfl,hoa⟩:=eH ey
  obtain ⟨row,hrow,hrr⟩:=(hcs.same (s1.trans s2)).get hoa
  have ii:i<(z.dealers n).length:=by rw [← nl];exact (List.getElem?_eq_some_iff.mp h1).1
  have dsl:ds.length≤10:=by rw [Paired.length hds,List.length_take];omega
  have s3:=aj hcc (.tup [.int x1,.ref oa])
  refine ⟨cc,_,rfl,SqT.of upd_same,rfl,_,_,rfl,_,_,rfl,rfl,⟨rfl,rfl⟩,?_⟩
  have R3:=R.same (s1.trans (s2.trans s3))
  refine ⟨_,rfl,c,CC,dx,_,_,rfl,(s1.trans (s2.trans s3)) _ _ hc,TC.cl,TC.nT,pM _ _ _ _ _ _,_,rfl,_,rfl,t,oa,p,n,f,x1,row,rfl,R3.tab,by omega,pp.2,by omega,by omega,s3 _ _ hrr,hcb row (List.mem_of_getElem? hrow),fun o H4 s4 ho0 ho=>?_⟩
  have s34:=s3.trans s4
  have oR:o≠ra:=fun e=>by rw [e,s3 _ _ hD2] at ho0;cases ho0
  have nD:ra∉ds++[o]:=fun h=>by
   rcases List.mem_append.mp h with h | h
   ·exact hrd h
   ·exact oR (List.mem_singleton.mp h).symm
  refine ⟨s34 _ _ hD2,au (by rw [List.length_map];omega),ii,am (s2.trans s34) hra0,ds++[o],by rw [List.map_append];rfl,?_,nD⟩
  have e:(dn p n ss inp shares crows z)[i]?=some (fw p n.toNat x1 row):=by
   unfold dn
   rw [List.getElem?_zipWith,h1,hrow]
  rw [List.take_add_one,e]
  exact InsAt.off (InsAt.snoc (hds.same s34) ho) nD
 rintro ys H2 ⟨_,s2,rs,rfl,hrs,hrr⟩ hra
 refine hu _ _ ?_
 have rlen:=rows_len (p:=p) (n:=n) (by omega) (ss:=ss) (inp:=inp) (shares:=shares) hcl
 rw [List.take_of_length_le (by rw [rlen,List.length_map,List.length_map,nl,csl,hcl];omega)] at hrs
 have Sr:=kC (p:=p) (n:=n) (by omega) ss inp shares crows z
 generalize dn p n ss inp shares crows z=rows at hrs rlen Sr q
 have g2:=s1.trans s2
 have R2:=R.same g2
 have hc2:=g2 _ _ hc
 refine aL (bD 3 ["hand"] [("rows",2),("self",0)] sc_Course_go_on.nd  (bn (ak O_all_hands hr rfl (aa (aJ (pv 0) rfl) ac))) rfl (fun C s0 H0 ex=>by exact (ar (i:=0) (show List.Nodup [("hand":Str),"rows","self"] by decide +kernel) rfl (Or.inl rfl))) (fun C s0 H0 ex=>by exact aZ) (fun C s0 H0 ex=>by exact (fM M_new_share hr (pv 2) (aa (pv 0) (aa (pv 1) ac))))) fun u hu=>?_
 refine ⟨_,rfl,c,CC,dx,_,_,rfl,hc2,TC.cl,TC.nT,pM _ _ _ _ _ _,t,p,n,f,rfl,R2.tab,by omega,fun ha' H3 s3 hha0 hha=>?_⟩
 refine ⟨ha',rfl,⟨_,SqL.of hha⟩,fun ma hma0=>?_⟩
 refine bv (K:=K) (a:=ha') (xs:=(ce n).map V.int) (fun i ys H4=>i≤n.toNat∧ys=(((ce n).take i).map fun h=>nh p n shares rows z h).map V.int∧Same H3 H4) ⟨Nat.zero_le _,rfl,am (Same.refl _) hma0⟩ ?_ ?_ ?_
 ·rintro i ys H4 _ ⟨_,_,s4⟩
  exact SqL.of (s4 _ _ hha)
 ·rintro i y ys H4 hy ⟨hi,rfl,s4⟩ hD4
  rw [List.getElem?_map] at hy
  cases hv:(ce n)[i]? with
  | none=>rw [hv] at hy;cases hy
  | some h =>
  rw [hv] at hy
  cases hy
  have ii:i<n.toNat:=by rw [← cE];exact (List.getElem?_eq_some_iff.mp hv).1
  have hb:1≤h∧h≤n:=by
   have hm:=List.mem_of_getElem? hv
   unfold ce fQ at hm
   obtain ⟨k,hk,rfl⟩:=List.mem_map.mp hm
   have:=List.mem_range.mp hk
   omega
  have s34:=s3.trans s4
  refine ⟨⟨rfl,rfl⟩,?_⟩
  refine ⟨_,rfl,c,dx,_,rfl,s34 _ _ hc2,iq _ _ _ _ _ _ (by decide +kernel) (by decide +kernel) (by decide +kernel) (by decide +kernel) (by decide +kernel) (by decide +kernel),_,rfl,_,rfl,c,ra,p,n,f,h,ss,inp,shares,rows,z,rs,rfl,⟨t,a,b,wa,sh,le,ws,is,shs,R2.same s34⟩,PA,S,hz,s34 _ _ hra,hrs.same s34,Sr,rlen,hb,fun H5 s5=>?_⟩
  refine ⟨s5 _ _ hD4,au (by rw [List.length_map,List.length_map,List.length_take];omega),ii,?_,am (s4.trans s5) hma0⟩
  rw [List.take_add_one,hv,List.map_append,List.map_append]
  rfl
 rintro ys H4 ⟨_,rfl,s4⟩ hma
 refine hu _ _ ?_
 rw [List.length_map,List.take_length] at hma
 have hma:H4 ma=some (.lst ((gf p n shares rows z).map V.int)):=hma
 have ml:=oi p n shares rows z
 generalize gf p n shares rows z=made at hma ml q
 have g4:=g2.trans (s3.trans s4)
 have R4:=R.same g4
 have hc4:=g4 _ _ hc
 refine aL (bc (fM M_send_letters hr (pv 0) (aa (dv M_coming_step hr (pv 0)) (aa (pv 3) (aa (pv 2) ac))))) fun u hu=>?_
 refine ⟨_,rfl,c,dx,_,rfl,hc4,iq _ _ _ _ _ _ (by decide +kernel) (by decide +kernel) (by decide +kernel) (by decide +kernel) (by decide +kernel) (by decide +kernel),_,rfl,c,dx,_,rfl,hc4,iq _ _ _ _ _ _ (by decide +kernel) (by decide +kernel) (by decide +kernel) (by decide +kernel) (by decide +kernel) (by decide +kernel),c,p,n,f,ss,inp,shares,z,rfl,⟨t,a,b,wa,sh,le,ws,is,shs,R4⟩,by omega,hz,fun d H5 s5 hd5=>?_⟩
 have g5:=g4.trans s5
 have R5:=R.same g5
 have s35:=s3.trans (s4.trans s5)
 refine ⟨_,rfl,_,rfl,c,d,ma,ra,le,p,n,f,ss,inp,shares,rows,z,rs,made,lvs,lets,t,a,b,wa,sh,ws,is,shs,rfl,R5,PA,by omega,hd5,s5 _ _ hma,ml,s35 _ _ hra,hrs.same s35,Sr.l,g5 _ _ hle,hlv.same g5,hll,fun H6 lvs' x6 hle6 hlv6=>hu _ _ ?_⟩
 have mfree:H ma=none:=(g2.trans s3).free hma0
 have ne:∀ x,x≠le→x∉[le]:=fun x h e=>h (List.mem_singleton.mp e)
 have mle:ma≠le:=fun e=>by rw [e,hle] at mfree;cases mfree
 have msh:ma≠sh:=fun e=>by rw [e,R.hsh] at mfree;cases mfree
 have hc6:H6 c=some (.ins CC dx (kY t a b wa sh le)):=x6 _ _ (g5 _ _ hc) (ne _ fun e=>by rw [e,hle] at hc;cases hc)
 have hsh6:H6 sh=some (.lst (shs.map V.ref)):=x6 _ _ (g5 _ _ R.hsh) (ne _ D0.sl)
 have hma6:=x6 _ _ (s5 _ _ hma) (ne _ mle)
 have shl:shs.length=shares.length:=Paired.length R.hs
 refine ⟨_,(ah (bc (dO PySem.F.plainAttrs_list PySem.F.slot_list_append PySem.F.type_list_append br (aJ (pv 0) rfl) (aa (pv 3) ac)))),?_⟩
 refine ⟨_,rfl,c,CC,dx,_,_,rfl,hc6,TC.cl,TC.nH,cf_h _ _ _ _ _ _,.inl ⟨rfl,_,SqL.of hsh6⟩,_,rfl,sh,_,_,rfl,rfl,hsh6,by rw [List.length_map];exact au (by omega),?_⟩
 have SX:gk [sh,le] H (upd H6 sh (.lst (shs.map V.ref++[.ref ma]))):=fun x u hx hn=>by
  rw [aB fun e=>hn (by rw [e];exact List.mem_cons_self)]
  exact x6 _ _ (g5 _ _ hx) (ne _ fun e=>hn (by rw [e];simp))
 have AP:Apt a b wa sh le is (shs++[ma]):=⟨D0.sl,D0.a1,D0.b1,D0.w1,D0.i1,fun i hi=>by
  rcases List.mem_append.mp hi with h | h
  ·exact D0.s1 i h
  ·rw [List.mem_singleton.mp h];exact ⟨msh,mle⟩⟩
 refine q _ ma lvs' SX mfree (CrsAt.next R D0 hle SX (by rw [upd_same,List.map_append];rfl) (by rw [aB msh];exact hma6)) AP (by rw [aB D0.sl.symm];exact hle6) (LetsAt.upd hsh6 hlv6)
end
section
variable {P:Program}{w:World}{K:PySem.W.Frag}{mg:Str→Option Value}{base:Heap}{C CC pa:Addr}
theorem jD:az ["self","table","steps","inputs"] ["self","table","steps","inputs"] (ao eG):=⟨rfl,rfl,rfl,by decide +kernel,rfl,by decide +kernel,by decide +kernel⟩
theorem ok_cinit {g:Addr}{fd:FuncData} (F:Fun K "__init__" "Course.__init__" eG g fd) (TC:CrsC K CC) (O_weights:Ok P w K mg base CX0 4 "weights" ["table"] (i3 C)):iU P w K mg base CX0 5 g fd ["self","table","steps","inputs"] (km C CC):=by
 refine F.ok jD (fun vs H Q E h=>?_) (fun cdv A outer s H vs Q E hr h=>?_)
 ·obtain ⟨c,dx,t,a,b,p,n,f,rfl,_⟩:=h
  rfl
 obtain ⟨c,dx,t,a,b,p,n,f,rfl,hc,T1,hp,hn,np,q⟩:=h
 refine ⟨_,(ad (gE (pv 0) (pv 1) rfl)
  (ad (gE (pv 0) (pv 2) rfl)
  (ad (gE (pv 0) (pv 3) rfl)
  (ad (gE (pv 0) (ak O_weights hr rfl (aa (pv 1) ac)) rfl)
  (ad (gE (pv 0) (aW ac) rfl)
  (ah (gE (pv 0) (aW ac) rfl))))))),?_⟩
 refine ⟨_,rfl,_,rfl,c,CC,dx,_,rfl,hc,TC.cl,TC.nT,(by show 0<1000;decide),?_⟩
 refine ⟨_,rfl,_,rfl,c,CC,dx,_,rfl,upd_same,TC.cl,TC.nS,(by show 1<1000;decide),?_⟩
 refine ⟨_,rfl,_,rfl,c,CC,dx,_,rfl,upd_same,TC.cl,TC.nI,Nat.lt_of_le_of_lt (fq (k:=1) (fq (k:=0) (Nat.le_refl 0))) (by decide),?_⟩
 rw [pY,pY]
 have keep:∀ x u,H x=some u→x≠c→(upd H c (.ins CC dx (dq "inputs" (.ref b) (dq "steps" (.ref a) (dq "table" (.ref t) []))))) x=some u:=fun x u e hx=>by rw [aB hx];exact e
 have hc3:(upd H c (.ins CC dx (dq "inputs" (.ref b) (dq "steps" (.ref a) (dq "table" (.ref t) []))))) c=some (.ins CC dx (dq "inputs" (.ref b) (dq "steps" (.ref a) (dq "table" (.ref t) [])))):=upd_same
 have tc:t≠c:=fun e=>by
  obtain ⟨dt,ht⟩:=T1
  rw [e,hc] at ht
  have h1:=Option.some.inj ht
  injection h1 with _ _ h3
  unfold tf at h3
  cases h3
 have fr:∀ x,(upd H c (.ins CC dx (dq "inputs" (.ref b) (dq "steps" (.ref a) (dq "table" (.ref t) []))))) x=none→H x=none:=fun x e=>by
  by_cases hx:x=c
  ·rw [hx,hc3] at e
   cases e
  ·rw [aB hx] at e
   exact e
 generalize (upd H c (.ins CC dx (dq "inputs" (.ref b) (dq "steps" (.ref a) (dq "table" (.ref t) [])))))=H3 at keep hc3 fr
 have T3:TabAt C H3 t p n f:=let ⟨dt,ht⟩:=T1;⟨dt,keep _ _ ht tc⟩
 refine ⟨_,rfl,t,p,n,f,rfl,T3,hp,hn.1,hn.2,np,fun wa H4 s4 hwa0 hwa=>?_⟩
 have l3:(dq "inputs" (V.ref b) (dq "steps" (.ref a) (dq "table" (.ref t) []))).length≤3:=fq (k:=2) (fq (k:=1) (fq (k:=0) (Nat.le_refl 0)))
 refine ⟨_,rfl,c,CC,dx,_,rfl,s4 _ _ hc3,TC.cl,TC.nP,Nat.lt_of_le_of_lt l3 (by decide),?_⟩
 have wc:wa≠c:=fun e=>by rw [e,hc3] at hwa0;cases hwa0
 refine ⟨(by show 0≤sizeLine;decide),fun sh hsh0=>?_⟩
 have sc:sh≠c:=fun e=>by rw [e,upd_same] at hsh0;cases hsh0
 have hsh4:H4 sh=none:=by rw [aB sc] at hsh0;exact hsh0
 have sw:wa≠sh:=fun e=>by rw [e,hsh4] at hwa;cases hwa
 refine ⟨_,rfl,c,CC,dx,_,rfl,(aB sc.symm).trans upd_same,TC.cl,TC.nH,Nat.lt_of_le_of_lt (fq l3) (by decide),?_⟩
 refine ⟨(by show 0≤sizeLine;decide),fun le hle0=>?_⟩
 have lc:le≠c:=fun e=>by rw [e,upd_same] at hle0;cases hle0
 have ls:sh≠le:=fun e=>by
  rw [← e,aB sc,upd_same] at hle0
  cases hle0
 have hle4:H4 le=none:=by
  rw [aB lc,aB ls.symm,aB lc] at hle0
  exact hle0
 have lw:wa≠le:=fun e=>by rw [e,hle4] at hwa;cases hwa
 refine ⟨_,rfl,c,CC,dx,_,rfl,(aB lc.symm).trans upd_same,TC.cl,TC.nL,Nat.lt_of_le_of_lt (fq (fq l3)) (by decide),?_⟩
 refine q _ wa sh le (fun x u hx hxc=>?_) (fr _ hwa0) (fr _ (s4.free hsh4)) (fr _ (s4.free hle4)) ls sw lw ?_ ?_ ?_ ?_
 ·have h4:=s4 _ _ (keep x u hx hxc)
  rw [aB hxc,aB (fun e=>by rw [e,hle4] at h4;cases h4),aB hxc,aB (fun e=>by rw [e,hsh4] at h4;cases h4),aB hxc]
  exact h4
 ·rw [aB wc,aB lw,aB wc,aB sw,aB wc]
  exact hwa
 ·rw [aB sc,aB ls,aB sc]
  exact upd_same
 ·rw [aB lc]
  exact upd_same
 ·rw [upd_same,crs_put]
end
section
variable {P:Program}{w:World}{K:PySem.W.Frag}{mg:Str→Option Value}{base:Heap}{C pa:Addr}
theorem jB:az ["steps","inputs","some"] ["steps","inputs","some"] (ao df):=⟨rfl,rfl,rfl,by decide +kernel,rfl,by decide +kernel,by decide +kernel⟩
theorem jG (F:Src K mg "inputs_used" "inputs_used" df ["steps","inputs","some"]) (O_uses:Ok P w K mg base CX0 1 "uses" ["steps","hand"] lB):Ok P w K mg base CX0 2 "inputs_used" ["steps","inputs","some"] eZ:=by
 refine F.ok jB (fun vs H Q E h=>?_) (fun f cdv A outer s H vs Q E hr h=>?_)
 ·obtain ⟨a,b,s,n,ws,ss,is,inp,hs,rfl,_⟩:=h
  rfl
 obtain ⟨a,b,sa,n,ws,ss,is,inp,hs,rfl,ha,hss,hb,hin,hn,hsa,hl,hh,q⟩:=h
 have il:is.length=inp.length:=Paired.length hin
 refine ⟨_,(ah (aA (bt ["hand"] [("inputs",1),("steps",0)]  (bn (pv 2)) rfl (fun C s0 H0 ex=>by exact (ar (i:=0) (show List.Nodup [("hand":Str),"inputs","steps"] by decide +kernel) rfl (Or.inl rfl))) (fun C s0 H0 ex=>by exact aZ) (fun C s0 H0 ex=>by exact (bR (sl_listK K) (aK (dh K) (pv 1) (aq bo (pv 0) ae) (fun _ _=>rfl)) cW (cz (ak O_uses hr rfl (aa (pv 2) (aa (pv 0) ac))))))))),?_⟩
 refine ⟨_,rfl,sa,rfl,⟨_,SqL.of hsa⟩,fun D hD=>?_⟩
 refine bv (K:=K) (a:=sa) (xs:=hs.map V.int) (fun j ys H2=>Same H H2∧∃ as:List Addr,ys=as.map V.ref∧as.Nodup∧D∉as∧(∀ b∈as,H b=none)∧InsAt H2 as ((lT ss inp hs).take j)) ⟨am (Same.refl _) hD,[],rfl,.nil,(fun h=>nomatch h),(fun b h=>nomatch h),.nil⟩ ?_ ?_ ?_
 ·rintro j ys H2 _ ⟨s2,_⟩
  exact SqL.of (s2 _ _ hsa)
 ·rintro j y ys H2 hy ⟨s2,as,rfl,nd,nin,fr,hI⟩ hD2
  rw [List.getElem?_map] at hy
  cases hv:hs[j]? with
  | none=>rw [hv] at hy;cases hy
  | some h =>
  rw [hv] at hy
  cases hy
  have jl:j<hs.length:=(List.getElem?_eq_some_iff.mp hv).1
  have hb1:=hh h (List.mem_of_getElem? hv)
  have asl:as.length≤100:=by
   rw [Paired.length hI,List.length_take]
   unfold lT
   rw [List.length_map]
   omega
  have hik:(h - 1).toNat<is.length:=by omega
  obtain ⟨row,hrow,hrr⟩:=(hin.same s2).get (List.getElem?_eq_getElem hik)
  have eat:atI (is.map V.ref) (h - 1)=some (.ref is[(h - 1).toNat]):=by
   unfold atI
   rw [show ixN (is.map V.ref).length (h - 1)=some (h - 1).toNat from jJ (n:=(is.map V.ref).length) (k:=h - 1) (by omega) (by rw [List.length_map];omega)]
   show (is.map V.ref)[(h - 1).toNat]?=_
   rw [List.getElem?_map,List.getElem?_eq_getElem hik]
   rfl
  have erow:bL inp h=row:=by unfold bL;rw [List.getD_eq_getElem?_getD,hrow];rfl
  refine ⟨⟨rfl,rfl⟩,?_⟩
  refine ⟨_,rfl,_,rfl,_,_,rfl,rfl,b,_,_,.ref is[(h - 1).toNat],rfl,rfl,SqL.of (s2 _ _ hb),eat,_,rfl,_,rfl,a,h,ws,ss,rfl,s2 _ _ ha,hss.same s2,fun H3 s3=>?_⟩
  refine ⟨_,rfl,_,_,rfl,SqL.of (s3 _ _ hrr),fun o ho=>?_⟩
  have s4:=aj ho (.lst (ju (row.map V.int) none (some (aR ss h:Int))))
  have s34:=s3.trans s4
  have oD:o≠D:=fun e=>by rw [e,s3 _ _ hD2] at ho;cases ho
  have oas:o∉as:=fun z=>by
   obtain ⟨k,hk⟩:=List.getElem?_of_mem z
   obtain ⟨_,_,zz⟩:=(hI.same s3).get hk
   rw [ho] at zz
   cases zz
  refine ⟨s34 _ _ hD2,au (by rw [List.length_map];omega),am (s2.trans s34) hD,as++[o],by rw [List.map_append];rfl,ie nd oas,fun z=>?_,fun x hx=>?_,?_⟩
  ·rcases List.mem_append.mp z with z | z
   ·exact nin z
   ·exact oD (List.mem_singleton.mp z).symm
  ·rcases List.mem_append.mp hx with z | z
   ·exact fr x z
   ·rw [List.mem_singleton.mp z]
    exact (s2.trans s3).free ho
  ·have e:(lT ss inp hs)[j]?=some (row.take (aR ss h)):=by unfold lT;rw [List.getElem?_map,hv,Option.map_some,erow]
   rw [List.take_add_one,e]
   refine InsAt.off (InsAt.snoc (hI.same s34) ?_) fun z=>?_
   ·rw [upd_same,took]
   ·rcases List.mem_append.mp z with z | z
    ·exact nin z
    ·exact oD (List.mem_singleton.mp z).symm
 ·rintro ys H2 ⟨s2,as,rfl,nd,nin,fr,hI⟩ hD2
  rw [List.length_map,List.take_of_length_le (by unfold lT;rw [List.length_map];exact Nat.le_refl _)] at hI
  exact q D H2 as s2 hD hD2 nd nin fr hI
end
section
variable {P:Program}{w:World}{K:PySem.W.Frag}{mg:Str→Option Value}{base:Heap}{C pa:Addr}
theorem g7:az ["table","steps","inputs"] ["table","steps","inputs"] (ao bZ):=⟨rfl,rfl,rfl,by decide +kernel,rfl,by decide +kernel,by decide +kernel⟩
theorem kM {cS cI:Addr} (F:Src K mg "numbers_opened" "numbers_opened" bZ ["table","steps","inputs"]) (B:Blt mg) (O_plain:Ok P w K mg base CX0 6 "plain" ["table","steps","inputs"] (fun vs H Q _=>j9 C cS cI vs H Q E0)):Ok P w K mg base CX0 7 "numbers_opened" ["table","steps","inputs"] (eY C):=by
 refine F.ok g7 (fun vs H Q E h=>?_) (fun f cdv A outer s H vs Q E hr h=>?_)
 ·obtain ⟨t,a,b,p,n,f,ws,ss,is,inp,rfl,_⟩:=h
  rfl
 obtain ⟨t,a,b,p,n,f,ws,ss,is,inp,rfl,T1,hp,hn,ha,hss,hb,hin,il,hR,hI,hsl,q⟩:=h
 refine ⟨_,(ah (aA (bt ["step","number"] []  (gF rfl B.zip (aa (pv 1) (aa (ak O_plain hr rfl (aa (pv 0) (aa (pv 1) (aa (pv 2) ac)))) ac))) rfl (fun C s0 H0 ex=>by exact (du K 2 rfl (aE (ar (i:=0) (show List.Nodup [("step":Str),"number"] by decide +kernel) rfl (Or.inl rfl)) (aE (ar (i:=1) (show List.Nodup [("step":Str),"number"] by decide +kernel) rfl (Or.inl rfl)) bF)))) (fun C s0 H0 ex=>by exact (mZ (av bH (aK (jp K) (pv 0) ae (fun _ _=>rfl)) aP (aH _)))) (fun C s0 H0 ex=>by exact (pv 1))))),?_⟩
 have wl:ws.length=ss.length:=Paired.length hss
 refine ⟨_,rfl,_,rfl,_,rfl,_,rfl,t,a,b,p,n,f,ws,ss,is,inp,rfl,T1,hp,hn,ha,hss,hb,hin,il,fun _ _ na H1 s1 hna0 hna=>?_,fun z=>absurd (z.symm.trans hR) (by decide),fun _ z=>absurd (z.symm.trans hI) (by decide)⟩
 generalize bq p ss inp=nums at hna q
 refine ⟨a,na,_,_,rfl,SqL.of (s1 _ _ ha),SqL.of hna,fun D hD=>?_⟩
 refine dC (K:=K) (a:=a) (b:=na) (xs:=ws) (zs:=nums.map V.int) (fun i ys H2=>ys=(((ss.zip nums).take i).filterMap opnF).map V.int∧Same H1 H2) ⟨rfl,am (Same.refl _) hD⟩ ?_ ?_ ?_
 ·rintro i ys H2 ⟨_,s2⟩
  exact ⟨SqL.of ((s1.trans s2) _ _ ha),SqL.of (s2 _ _ hna)⟩
 ·rintro i x y ys H2 cc ex ey ⟨rfl,s2⟩ hD2 hcc
  obtain ⟨zd,z,rfl,hz,hzs⟩:=(hss.same (s1.trans s2)).get ex
  obtain ⟨v,rfl,hv⟩:=aT ey
  have il':i<ss.length:=(List.getElem?_eq_some_iff.mp hzs).1
  have s3:=aj hcc (.tup [.ref zd,.int v])
  have et:=qm hzs hv
  refine ⟨cc,_,rfl,SqT.of upd_same,rfl,_,_,rfl,_,_,rfl,rfl,⟨rfl,rfl⟩,?_⟩
  refine ⟨_,rfl,zd,_,_,.str z.word,rfl,rfl,SqT.of (s3 _ _ hz),z.at0,rfl,_,rfl,?_⟩
  refine bi (fun c=>?_) (fun c=>?_)
  ·obtain ⟨a1,rfl⟩:=(jY z).mp (V.str.inj (of_decide_eq_true c))
   refine ⟨_,rfl,s3 _ _ hD2,au ?_,?_,am (s2.trans s3) hD⟩
   ·rw [List.length_map]
    refine Nat.le_trans (List.length_filterMap_le _ _) ?_
    rw [List.length_take]
    omega
   ·rw [et,List.map_append]
    rfl
  ·refine ⟨s3 _ _ hD2,?_,s2.trans s3⟩
   rw [et]
   cases z with
   | opn a1=>exact absurd (decide_eq_true rfl) c
   | _=>rw [List.append_nil]
 ·rintro ys H2 ⟨rfl,s2⟩ hD2
  rw [List.take_of_length_le (by rw [List.length_zip,List.length_map,wl];exact Nat.le_refl _)] at hD2
  exact q D H2 (s1.trans s2) (s1.free hD) hD2
theorem sc_agree:az ["table","steps","inputs","others","some"] ["table","steps","inputs","others","some"] (ao kB):=⟨rfl,rfl,rfl,by decide +kernel,rfl,by decide +kernel,by decide +kernel⟩
theorem qz (F:Src K mg "agree" "agree" kB ["table","steps","inputs","others","some"]) (O_inputs_used:Ok P w K mg base CX0 2 "inputs_used" ["steps","inputs","some"] eZ) (O_numbers_opened:Ok P w K mg base CX0 7 "numbers_opened" ["table","steps","inputs"] (eY C)):Ok P w K mg base CX0 8 "agree" ["table","steps","inputs","others","some"] (kn C):=by
 refine F.ok sc_agree (fun vs H Q E h=>?_) (fun f cdv A outer s H vs Q E hr h=>?_)
 ·obtain ⟨t,a,b,o,s,p,n,f,ws,ss,is,js,inp,oth,hs,rfl,_⟩:=h
  rfl
 obtain ⟨t,a,b,o,s,p,n,f,ws,ss,is,js,inp,oth,hs,rfl,T1,hp,hn,ha,hss,hb,hin,il,ho,hjn,jl,hR,hI,hJ,hsl,hsa,hris,hsb,q⟩:=h
 have io:=(eO hn.1).mp hI
 have jo:=(eO hn.1).mp hJ
 have iol:=io.len
 have jol:=jo.len
 have hb1:∀ h∈hs,1≤h∧h≤n:=fun h hm=>by
  have:=(risGo_iff.mp hris).1 h hm
  omega
 refine ⟨_,(ad (bd (av (op_neD (hr.units)) (ak O_inputs_used hr rfl (aa (pv 1) (aa (pv 2) (aa (pv 4) ac)))) (ak O_inputs_used hr rfl (aa (pv 1) (aa (pv 3) (aa (pv 4) ac)))) (aH _))
   (ah (aA eV))
   aI)
  (ah (aA (hV (op_eqL (hr.units)) (ak O_numbers_opened hr rfl (aa (pv 0) (aa (pv 1) (aa (pv 2) ac)))) (ak O_numbers_opened hr rfl (aa (pv 0) (aa (pv 1) (aa (pv 3) ac)))) (aH _))))),?_⟩
 refine ⟨_,rfl,_,rfl,_,rfl,a,b,s,n,ws,ss,is,inp,hs,rfl,ha,hss,hb,hin,by omega,hsa,hsb,hb1,fun d1 H1 as1 s1 _ hd1 _ _ _ hin1=>?_⟩
 refine ⟨_,rfl,_,rfl,_,rfl,a,o,s,n,ws,ss,js,oth,hs,rfl,s1 _ _ ha,hss.same s1,s1 _ _ ho,hjn.same s1,by omega,s1 _ _ hsa,hsb,hb1,fun d2 H2 as2 s2 _ hd2 _ _ _ hin2=>?_⟩
 refine ⟨_,_,decide (lT ss inp hs=lT ss oth hs),.lst (s2 _ _ hd1) (hin1.same s2).rep,.lst hd2 hin2.rep,ins_ok _,ins_ok _,?_,_,rfl,?_⟩
 ·rw [decide_eq_true_iff]
  exact datIns_inj.symm
 have s12:=s1.trans s2
 refine bi (fun c=>?_) (fun c=>?_)
 ·have e:fB p ss inp oth hs=false:=by
   unfold fB
   rw [show decide (lT ss inp hs=lT ss oth hs)=false by simpa using c]
   rfl
  rw [e] at q
  exact q _ s12
 have e:fB p ss inp oth hs=decide (opnV ss (bq p ss inp)=opnV ss (bq p ss oth)):=by
  unfold fB
  rw [show decide (lT ss inp hs=lT ss oth hs)=true by simpa using c]
  rfl
 rw [e] at q
 refine ⟨_,rfl,_,rfl,_,rfl,t,a,b,p,n,f,ws,ss,is,inp,rfl,T1.same s12,hp,hn,s12 _ _ ha,hss.same s12,s12 _ _ hb,hin.same s12,il,hR,hI,hsl,fun r1 H3 s3 _ hr1=>?_⟩
 have s13:=s12.trans s3
 refine ⟨_,rfl,_,rfl,_,rfl,t,a,o,p,n,f,ws,ss,js,oth,rfl,T1.same s13,hp,hn,s13 _ _ ha,hss.same s13,s13 _ _ ho,hjn.same s13,jl,hR,hJ,hsl,fun r2 H4 s4 _ hr2=>?_⟩
 exact ⟨r1,r2,_,_,rfl,rfl,SqL.of (s4 _ _ hr1),SqL.of hr2,q _ (s13.trans s4)⟩
theorem qh:az ["table","cover","row","difference"] ["table","cover","row","difference"] (ao iQ):=⟨rfl,rfl,rfl,by decide +kernel,rfl,by decide +kernel,by decide +kernel⟩
theorem qp (F:Src K mg "veiled" "veiled" iQ ["table","cover","row","difference"]) (B:Blt mg) (T:Tab K C):Ok P w K mg base CX0 1 "veiled" ["table","cover","row","difference"] (j5 C):=by
 refine F.ok qh (fun vs H Q E h=>?_) (fun f cdv A outer s H vs Q E hr h=>?_)
 ·obtain ⟨t,co,ro,p,n,f,d,cover,row,rfl,_⟩:=h
  rfl
 obtain ⟨t,co,ro,p,n,f,d,cover,row,rfl,T1,hp,hco,hro,hcb,hrl,q⟩:=h
 obtain ⟨dx,ht⟩:=id T1
 refine ⟨_,(ah (aA (bt ["number","part"] [("table",0),("difference",3)]  (gF rfl B.zip (aa (pv 2) (aa (bR cU (pv 1) (cz ae) cW) ac))) rfl (fun C s0 H0 ex=>by exact (du K 2 rfl (aE (ar (i:=0) (show List.Nodup [("number":Str),"part","table","difference"] by decide +kernel) rfl (Or.inl rfl)) (aE (ar (i:=1) (show List.Nodup [("number":Str),"part","table","difference"] by decide +kernel) rfl (Or.inl rfl)) bF)))) (fun C s0 H0 ex=>by exact aZ) (fun C s0 H0 ex=>by exact (aq aV (aq aX (pv 0) (aq bG (pv 1) (pv 3))) (cX K (pv 2) rfl)))))),?_⟩
 have e1:ju (cover.map V.int) (some 1) none=(cover.drop 1).map V.int:=by rw [show (1:Int)=((1:Nat):Int) from rfl,fO,List.map_drop]
 refine ⟨_,rfl,_,rfl,_,rfl,co,_,rfl,SqL.of hco,fun l hl=>?_⟩
 have s1:=aj hl (.lst (ju (cover.map V.int) (some 1) none))
 have hl1:(upd H l (.lst (ju (cover.map V.int) (some 1) none))) l=some (.lst ((cover.drop 1).map V.int)):=upd_same.trans (congrArg (fun z=>some (HO.lst z)) e1)
 refine ⟨ro,l,_,_,rfl,SqL.of (s1 _ _ hro),SqL.of hl1,fun D hD=>?_⟩
 have hD:(upd H l (.lst (ju (cover.map V.int) (some 1) none))) D=none:=hD
 have qH:Same H (upd H l (.lst (ju (cover.map V.int) (some 1) none))):=s1
 refine dC (K:=K) (a:=ro) (b:=l) (xs:=row.map V.int) (zs:=(cover.drop 1).map V.int) (fun i ys H2=>ys=((cT p cover row d).take i).map V.int∧Same (upd H l (.lst (ju (cover.map V.int) (some 1) none))) H2) ⟨rfl,am (Same.refl _) hD⟩ ?_ ?_ ?_
 ·rintro i ys H2 ⟨_,s2⟩
  exact ⟨SqL.of ((s1.trans s2) _ _ hro),SqL.of (s2 _ _ hl1)⟩
 ·rintro i x y ys H2 cc ex ey ⟨rfl,s2⟩ hD2 hcc
  obtain ⟨v,rfl,hv⟩:=aT ex
  obtain ⟨u,rfl,hu'⟩:=aT ey
  have ub:=hcb u (List.mem_of_mem_drop (List.mem_of_getElem? hu'))
  have il:i<row.length:=(List.getElem?_eq_some_iff.mp hv).1
  have s3:=aj hcc (.tup [.int v,.int u])
  refine ⟨cc,_,rfl,SqT.of upd_same,rfl,_,_,rfl,_,_,rfl,rfl,⟨rfl,rfl⟩,?_⟩
  refine ⟨_,rfl,_,rfl,_,rfl,_,_,rfl,rfl,.inl ⟨by omega,by omega⟩,_,_,rfl,rfl,_,rfl,t,C,dx,_,_,rfl,(s1.trans (s2.trans s3)) _ _ ht,T.cl,T.nP,gW _ _ _,_,_,rfl,rfl,by omega,s3 _ _ hD2,au (by rw [List.length_map,List.length_take];omega),?_,am (s2.trans s3) hD⟩
  rw [show (cT p cover row d).take (i+1)=(cT p cover row d).take i++[(v+u*d)%p] by unfold cT;rw [List.take_add_one,List.getElem?_zipWith,hv,hu'];rfl,List.map_append]
  rfl
 ·rintro ys H2 ⟨rfl,s2⟩ hD2
  rw [List.take_of_length_le (by unfold cT;rw [List.length_zipWith,List.length_map,List.length_map];exact Nat.le_refl _)] at hD2
  exact q D H2 (s1.trans s2) (s1.free hD) hD2
end
section
variable {P:Program}{w:World}{K:PySem.W.Frag}{mg:Str→Option Value}{base:Heap}{C CC pa:Addr}
theorem sc_exchanged_rows:az ["cover","some","rows","here","there","table","hands","found","hand","row","before","after"] ["cover","some","rows","here","there"] (ao b6):=⟨rfl,rfl,rfl,by decide +kernel,rfl,by decide +kernel,by decide +kernel⟩
theorem qx (F:Src K mg "exchanged_rows" "exchanged_rows" b6 ["cover","some","rows","here","there"]) (B:Blt mg) (TC:CrsC K CC) (M_coming_step:MOk P w K mg base CX0 1 CC "coming_step" ["self"] (dX C CC)) (M_numbers_to_deal:MOk P w K mg base CX0 3 CC "numbers_to_deal" ["self"] (lE C CC)) (O_dealers:Ok P w K mg base CX0 2 "dealers" ["table","step"] (cn C)) (O_veiled:Ok P w K mg base CX0 1 "veiled" ["table","cover","row","difference"] (j5 C)):Ok P w K mg base CX0 4 "exchanged_rows" ["cover","some","rows","here","there"] (kj C CC):=by
 refine F.ok sc_exchanged_rows (fun vs H Q E h=>?_) (fun f cdv A outer s H vs Q E hr h=>?_)
 ·obtain ⟨co,so,ra,c1,c2,p,n,f,ss,inp,oth,sh1,sh2,crows,z,cover,hs,rs,t,a,b,wa,sh,le,ws,is,shs,rfl,_⟩:=h
  rfl
 obtain ⟨co,so,ra,c1,c2,p,n,f,ss,inp,oth,sh1,sh2,crows,z,cover,hs,rs,t,a,b,wa,sh,le,ws,is,shs,rfl,R1,R2,PA,PB,S1,S2,hz,hl2,hco,hcb,hso,hra,hrs,hcl,hcr,q⟩:=h
 have pp:=m3 PA.hp
 have hn:=PA.hn
 have len24:=PA.len
 have rl:rs.length=crows.length:=Paired.length hrs
 have nl1:=iS (p:=p) (n:=n) (by omega) ss inp sh1 z
 have nl2:=iS (p:=p) (n:=n) (by omega) ss oth sh2 z
 have dl:=cf (n:=n) (by omega) (by omega) z
 obtain ⟨dx,hc1⟩:=R1.obj
 obtain ⟨t2,a2,b2,wa2,sh2a,le2,ws2,is2,shs2,R2'⟩:=id R2
 obtain ⟨dx2,hc2⟩:=R2'.obj
 refine aL (aD (i:=5) sc_exchanged_rows.nd rfl (Or.inl rfl) (aJ (pv 3) rfl)) fun u hu=>?_
 refine ⟨_,rfl,c1,CC,dx,_,_,rfl,hc1,TC.cl,TC.nT,pM _ _ _ _ _ _,hu _ _ ?_⟩
 refine aL (aD (i:=6) sc_exchanged_rows.nd rfl (Or.inl rfl) (ak O_dealers hr rfl (aa (pv 5) (aa (dv M_coming_step hr (pv 3)) ac)))) fun u hu=>?_
 refine ⟨_,rfl,_,rfl,c1,dx,_,rfl,hc1,iq _ _ _ _ _ _ (by decide +kernel) (by decide +kernel) (by decide +kernel) (by decide +kernel) (by decide +kernel) (by decide +kernel),c1,p,n,f,ss,inp,sh1,z,rfl,⟨t,a,b,wa,sh,le,ws,is,shs,R1⟩,by omega,hz,fun d H1 s1 hd=>?_⟩
 refine ⟨t,d,p,n,f,z,rfl,R1.tab.same s1,by omega,hd,fun ha H2 s2 _ hha=>hu _ _ ?_⟩
 have s12:=s1.trans s2
 refine aL (aD (i:=7) sc_exchanged_rows.nd rfl (Or.inl rfl) (aW ac)) fun u hu=>?_
 refine ⟨(by show 0≤sizeLine;decide),fun l hl=>hu _ _ ?_⟩
 have s3:=aj hl (.lst [])
 have hl3:(upd H2 l (.lst [])) l=some (.lst []):=upd_same
 generalize upd H2 l (.lst [])=H3 at s3 hl3
 have s13:=s12.trans s3
 refine aL (bP PassesOwn.never rfl (pi_zip4 rfl B.zip (aa (pv 6) (aa (pv 2) (aa (dv M_numbers_to_deal hr (pv 3)) (aa (dv M_numbers_to_deal hr (pv 4)) ac))))) (fS rfl (aE (ar (i:=8) sc_exchanged_rows.nd rfl (Or.inl rfl)) (aE (ar (i:=9) sc_exchanged_rows.nd rfl (Or.inl rfl)) (aE (ar (i:=10) sc_exchanged_rows.nd rfl (Or.inl rfl)) (aE (ar (i:=11) sc_exchanged_rows.nd rfl (Or.inl rfl)) bF)))))
   (ah (bc (dO PySem.F.plainAttrs_list PySem.F.slot_list_append PySem.F.type_list_append br (pv 7) (aa (kJ (av fk (pv 8) (pv 1) rfl) (pv 9) (ak O_veiled hr rfl (aa (pv 5) (aa (pv 0) (aa (pv 9) (aa (aq bo (pv 11) (pv 10)) ac)))))) ac))))) fun u hu=>?_
 refine ⟨_,rfl,_,rfl,_,rfl,c1,dx,_,rfl,s13 _ _ hc1,iq _ _ _ _ _ _ (by decide +kernel) (by decide +kernel) (by decide +kernel) (by decide +kernel) (by decide +kernel) (by decide +kernel),c1,p,n,f,ss,inp,sh1,z,rfl,⟨t,a,b,wa,sh,le,ws,is,shs,R1.same s13⟩,PA,S1,hz,fun n1 H4 s4 hn10 hn1=>?_⟩
 have s14:=s13.trans s4
 refine ⟨_,rfl,c2,dx2,_,rfl,s14 _ _ hc2,iq _ _ _ _ _ _ (by decide +kernel) (by decide +kernel) (by decide +kernel) (by decide +kernel) (by decide +kernel) (by decide +kernel),c2,p,n,f,ss,oth,sh2,z,rfl,⟨t2,a2,b2,wa2,sh2a,le2,ws2,is2,shs2,R2'.same s14⟩,PB,S2,by rw [hl2];exact hz,fun n2 H5 s5 hn20 hn2=>?_⟩
 have s15:=s14.trans s5
 have s35:=s4.trans s5
 generalize hN1:bV p n ss inp sh1 z=nu1 at *
 generalize hN2:bV p n ss oth sh2 z=nu2 at *
 generalize hDl:z.dealers n=hands at *
 have hha5:=(s3.trans s35) _ _ hha
 have hra5:=s15 _ _ hra
 have hn15:=s5 _ _ hn1
 have hl5:=s35 _ _ hl3
 have lH:H l=none:=s12.free hl
 have lha:l≠ha:=fun e=>by rw [e,hha] at hl;cases hl
 have lra:l≠ra:=fun e=>by rw [e,hra] at lH;cases lH
 have ln1:l≠n1:=fun e=>by rw [← e,hl3] at hn10;cases hn10
 have ln2:l≠n2:=fun e=>by rw [← e,s4 _ _ hl3] at hn20;cases hn20
 refine ⟨ha,ra,n1,n2,_,_,_,_,rfl,SqL.of hha5,SqL.of hra5,SqL.of hn15,SqL.of hn2,?_⟩
 refine for_zn (K:=K) (ss:=[(false,ha),(false,ra),(false,n1),(false,n2)]) (xss:=[hands.map V.int,rs.map V.ref,nu1.map V.int,nu2.map V.int]) (n:=hands.length) (fun k σ H'=>gk [l] H5 H'∧k≤hands.length∧∃ (ds:List Addr) (v8 v9 v10 v11:Option V),σ=[some (.ref co),some (.ref so),some (.ref ra),some (.ref c1),some (.ref c2),some (.ref t),some (.ref ha),some (.ref l),v8,v9,v10,v11]∧H' l=some (.lst (ds.map V.ref))∧l∉ds∧InsAt H' ds ((cB p cover hs hands crows nu1 nu2).take k)∧∀ x∈ds,H x=none∨x∈rs) (by simp) (fun xs hx=>?_) ⟨fun _ _ e _=>e,Nat.zero_le _,[],_,_,_,_,rfl,hl5,(fun h=>nomatch h),.nil,fun x h=>nomatch h⟩ ?_ ?_ ?_
 ·simp only [List.mem_cons,List.not_mem_nil,or_false] at hx
  rcases hx with rfl | rfl | rfl | rfl<;>rw [List.length_map]<;>omega
 ·rintro k σ H' ⟨sx,_⟩
  exact .cons (SqL.of (sx _ _ hha5 (by simp [lha.symm]))) (.cons (SqL.of (sx _ _ hra5 (by simp [lra.symm]))) (.cons (SqL.of (sx _ _ hn15 (by simp [ln1.symm]))) (.cons (SqL.of (sx _ _ hn2 (by simp [ln2.symm]))) .nil)))
 ·rintro k zs σ H' cc hzs ⟨sx,hk,ds,v8,v9,v10,v11,rfl,hl',nl,hin',hfr⟩ hcc
  cases hzs with
  | cons e1 r =>
  cases r with
  | cons e2 r =>
  cases r with
  | cons e3 r =>
  cases r with
  | cons e4 r =>
  cases r
  obtain ⟨h,rfl,hh⟩:=aT e1
  obtain ⟨rk,rfl,hrk⟩:=eH e2
  obtain ⟨bf,rfl,hbf⟩:=aT e3
  obtain ⟨af,rfl,haf⟩:=aT e4
  have kl:k<hands.length:=(List.getElem?_eq_some_iff.mp hh).1
  obtain ⟨row,hrow,hrr⟩:=(hrs.same s15).get hrk
  have lrk:l≠rk:=fun e=>by rw [e] at lH;obtain ⟨_,_,z⟩:=hrs.get hrk;rw [z] at lH;cases lH
  have ex:=nA (p:=p) (cover:=cover) (hs:=hs) hh hrow hbf haf
  have s6:=aj hcc (.tup [.int h,.ref rk,.int bf,.int af])
  refine ⟨cc,_,rfl,SqT.of upd_same,rfl,_,_,rfl,_,_,rfl,_,_,rfl,_,_,rfl,rfl,?_⟩
  have keep:∀ {x u},H5 x=some u→x≠l→(upd H' cc (.tup [.int h,.ref rk,.int bf,.int af])) x=some u:=fun e hne=>s6 _ _ (sx _ _ e (by simp [hne]))
  have hl6:=s6 _ _ hl'
  have hin6:=hin'.same s6
  have fr6:∀ x,(upd H' cc (.tup [.int h,.ref rk,.int bf,.int af])) x=none→H x=none:=fun x e=>by
   refine s15.free (j2 sx (s6.free e) fun m=>?_)
   rw [List.mem_singleton.mp m,hl6] at e;cases e
  have sx6:gk [l] H5 (upd H' cc (.tup [.int h,.ref rk,.int bf,.int af])):=fun x u e hne=>s6 _ _ (sx x u e hne)
  generalize upd H' cc (.tup [.int h,.ref rk,.int bf,.int af])=H6 at s6 keep hl6 hin6 fr6 sx6
  have lso:so≠l:=fun e=>by rw [← e,hso] at lH;cases lH
  have lco:co≠l:=fun e=>by rw [← e,hco] at lH;cases lH
  have dsl:ds.length=k:=by rw [Paired.length hin',List.length_take,dQ];omega
  refine ⟨_,rfl,.inl ⟨rfl,_,SqL.of hl6⟩,_,rfl,_,rfl,so,_,rfl,.inl (SqL.of (keep (s15 _ _ hso) lso)),rfl,gN hs,_,rfl,?_⟩
  show if (inV (V.int h) (hs.map V.int))=true then _ else _
  rw [eP]
  refine bi (fun c=>?_) (fun c=>?_)
  ·have c':=of_decide_eq_true c
   refine ⟨_,rfl,l,_,_,rfl,rfl,hl6,au (by rw [List.length_map];omega),?_⟩
   refine ⟨sx_upd sx6 (List.mem_singleton.mpr rfl),kl,ds++[rk],_,_,_,_,rfl,by rw [upd_same,List.map_append];rfl,?_,?_,?_⟩
   ·intro m
    rcases List.mem_append.mp m with m | m
    ·exact nl m
    ·exact lrk (List.mem_singleton.mp m)
   ·rw [ex,show iL p cover hs h row bf af=row from if_pos c']
    refine InsAt.off (InsAt.snoc hin6 (keep hrr lrk.symm)) fun m=>?_
    rcases List.mem_append.mp m with m | m
    ·exact nl m
    ·exact lrk (List.mem_singleton.mp m)
   ·intro x hx
    rcases List.mem_append.mp hx with m | m
    ·exact hfr x m
    ·exact .inr (List.mem_singleton.mp m▸List.mem_of_getElem? hrk)
  ·have c':¬ h∈hs:=fun m=>c (decide_eq_true m)
   have tl:t≠l:=fun e=>by obtain ⟨dt,z⟩:=R1.tab;rw [← e,z] at lH;cases lH
   obtain ⟨dt,hdt⟩:=R1.tab
   refine ⟨_,rfl,_,rfl,_,rfl,_,rfl,_,rfl,_,_,rfl,rfl,t,co,rk,p,n,f,af - bf,cover,row,rfl,⟨dt,keep (s15 _ _ hdt) tl⟩,by omega,keep (s15 _ _ hco) lco,keep hrr lrk.symm,hcb,hcr row (List.mem_of_getElem? hrow),fun r H7 s7 hr0 hr7=>?_⟩
   have rl':r≠l:=fun e=>by rw [e,hl6] at hr0;cases hr0
   refine ⟨l,_,_,rfl,rfl,s7 _ _ hl6,au (by rw [List.length_map];omega),?_⟩
   refine ⟨sx_upd (fun x u e hne=>s7 _ _ (sx6 x u e hne)) (List.mem_singleton.mpr rfl),kl,ds++[r],_,_,_,_,rfl,by rw [upd_same,List.map_append];rfl,?_,?_,?_⟩
   ·intro m
    rcases List.mem_append.mp m with m | m
    ·exact nl m
    ·exact rl' (List.mem_singleton.mp m).symm
   ·rw [ex,show iL p cover hs h row bf af=cT p cover row (af - bf) from if_neg c']
    refine InsAt.off (InsAt.snoc (hin6.same s7) hr7) fun m=>?_
    rcases List.mem_append.mp m with m | m
    ·exact nl m
    ·exact rl' (List.mem_singleton.mp m).symm
   ·intro x hx
    rcases List.mem_append.mp hx with m | m
    ·exact hfr x m
    ·exact .inl (List.mem_singleton.mp m▸fr6 r hr0)
 ·rintro σ H' ⟨sx,_,ds,v8,v9,v10,v11,rfl,hl',nl,hin',hfr⟩
  refine hu _ _ ?_
  refine ⟨_,(ah (aA (pv 7))),?_⟩
  rw [List.take_of_length_le (by rw [dQ];exact Nat.le_refl _)] at hin'
  exact ⟨_,rfl,q l ds H' (fun x u e=>sx _ _ (s15 _ _ e) fun m=>by rw [List.mem_singleton.mp m,lH] at e;cases e) lH hl' nl hin' hfr⟩
end
section
variable {P:Program}{w:World}{K:PySem.W.Frag}{mg:Str→Option Value}{base:Heap}{C CC pa:Addr}
theorem sc_exchanged:az ["table","steps","inputs","others","chance","some","cover","here","there","found","rows","changed","row"] ["table","steps","inputs","others","chance","some"] (ao eE):=⟨rfl,rfl,rfl,by decide +kernel,rfl,by decide +kernel,by decide +kernel⟩
theorem ok_exE {cS cI cC cH cN:Addr}{bmN:List Value} (F:Src K mg "exchanged" "exchanged" eE ["table","steps","inputs","others","chance","some"]) (B:Blt mg) (TC:CrsC K CC) (E_NoVeil:Exc K mg "NoVeil" cN bmN) (O_refuse_runE:Ok P w K mg base (CXE P w) 8 "refuse_run" ["table","steps","inputs","chance"] (fW C cS cI cC)) (O_refuse_inputsE:Ok P w K mg base (CXE P w) 4 "refuse_inputs" ["table","steps","inputs"] (bW C cI)) (O_veilE:Ok P w K mg base (CXE P w) 3 "veil" ["table","some"] (mM C cH cN)) (O_agree:Ok P w K mg base CX0 8 "agree" ["table","steps","inputs","others","some"] (kn C)) (O_Course:MkOk P w K mg base CX0 5 "Course" CC ["self","table","steps","inputs"] (km C CC)) (O_chance_by_step:Ok P w K mg base CX0 3 "chance_by_step" ["table","steps","chance"] (dG C)) (O_exchanged_rows:Ok P w K mg base CX0 4 "exchanged_rows" ["cover","some","rows","here","there"] (kj C CC)) (M_go_on:MOk P w K mg base CX0 4 CC "go_on" ["self","chance_rows"] (spGo C CC)):Ok P w K mg base (CXE P w) 9 "exchanged" ["table","steps","inputs","others","chance","some"] (spExP C cS cI cC cH cN):=by
 refine F.okE sc_exchanged (fun vs H Q E h=>?_) (fun f cdv A outer s H vs Q E hr h=>?_)
 ·obtain ⟨t,a,b,o,c,s,p,n,f,ws,ss,is,js,inp,oth,ch,hs,rfl,_⟩:=h
  rfl
 obtain ⟨t,a,b,o,c,so,p,n,f,ws,ss,is,js,inp,oth,ch,hs,rfl,T1,hp,hn,np,hf,fn,ha,hss,hb,hin,hlen,ho,hjn,jlen,hch,hchl,hso,hsl,q0,qS,qI,qC,qJ,qH,qN,qA⟩:=h
 have pp:=m3 hp
 refine aL (bc (cM O_refuse_runE hr rfl (aa (pv 0) (aa (pv 1) (aa (pv 2) (aa (pv 4) ac)))))) fun u hu=>?_
 refine ⟨_,rfl,_,rfl,_,rfl,_,rfl,t,a,b,c,p,n,f,ws,ss,is,inp,ch,rfl,T1,by omega,by omega,ha,hss,hb,hin,hlen,hch,hchl,fun hR hI hC H1 s1=>hu _ _ ?_,qS,qI,qC⟩
 have q0:=q0 hR hI hC
 have qJ:=qJ hR hI hC
 have qH:=qH hR hI hC
 have qN:=qN hR hI hC
 have qA:=qA hR hI hC
 obtain ⟨hlR,hRi⟩:=rightsB_iff.mp hR
 refine aL (bc (cM O_refuse_inputsE hr rfl (aa (pv 0) (aa (pv 1) (aa (pv 3) ac))))) fun u hu=>?_
 refine ⟨_,rfl,_,rfl,_,rfl,t,a,o,p,n,f,ws,ss,js,oth,rfl,T1.same s1,s1 _ _ ha,hss.same s1,s1 _ _ ho,hjn.same s1,jlen,fun hJ H2 s2=>hu _ _ ?_,fun hJ H2 s2=>qJ hJ H2 (s1.trans s2)⟩
 have q0:=q0 hJ
 have qH:=qH hJ
 have qN:=qN hJ
 have qA:=qA hJ
 have s12:=s1.trans s2
 refine aL (aD (i:=6) sc_exchanged.nd rfl (Or.inl rfl) (cM O_veilE hr rfl (aa (pv 0) (aa (pv 5) ac)))) fun u hu=>?_
 refine ⟨_,rfl,_,rfl,t,so,p,n,f,hs,rfl,T1.same s12,hp,by omega,by omega,s12 _ _ hso,fun hr1 hr2 co H3 s3 hco0 hco=>hu _ _ ?_,fun z H3 s3=>qH z H3 (s12.trans s3),fun z z2 H3 s3=>qN z z2 H3 (s12.trans s3)⟩
 have q0:=q0 hr1 hr2
 have qA:=qA hr1 hr2
 have s13:=s12.trans s3
 have iok:=(eO (by omega)).mp hI
 have jok:=(eO (by omega)).mp hJ
 have PA:Par p n f ss inp:=⟨hp,hn,np,hf,fn,hlR,hRi,iok⟩
 have PB:Par p n f ss oth:=⟨hp,hn,np,hf,fn,hlR,hRi,jok⟩
 refine aL (bd (gD (gC (ak O_agree hr rfl (aa (pv 0) (aa (pv 1) (aa (pv 2) (aa (pv 3) (aa (pv 5) ac)))))) (fun _=>rfl)))
   (ah (fK E_NoVeil rfl aP))
   aI) fun u hu=>?_
 refine ⟨_,rfl,_,rfl,_,rfl,_,rfl,_,rfl,t,a,b,o,so,p,n,f,ws,ss,is,js,inp,oth,hs,rfl,T1.same s13,by omega,by omega,s13 _ _ ha,hss.same s13,s13 _ _ hb,hin.same s13,hlen,s13 _ _ ho,hjn.same s13,jlen,hR,hI,hJ,by omega,s13 _ _ hso,hr1,hsl,fun H4 s4=>⟨_,rfl,?_⟩⟩
 have s14:=s13.trans s4
 refine bi (fun z=>?_) (fun z=>hu _ _ ?_)
 ·exact ⟨by decide,qA (by simpa using z) H4 s14⟩
 have q:=q0 (by simpa using z)
 have cvb:∀ v∈dD p f.toNat hs,0≤v∧v<p:=veil_b (by omega)
 generalize hcov:dD p f.toNat hs=cover at hco cvb
 have hco4:=s4 _ _ hco
 refine aL (aD (i:=7) sc_exchanged.nd rfl (Or.inl rfl) (kI O_Course hr rfl (aa (pv 0) (aa (pv 1) (aa (pv 2) ac))))) fun u hu=>?_
 refine ⟨_,rfl,_,rfl,_,rfl,fun x dx hx hdx hne=>?_⟩
 have sM:Same H4 (upd (upd H4 dx (.own x)) x (.ins CC dx [])):=fun y u e=>by
  rw [aB (aw e hx),aB (aw e hdx)]
  exact e
 have hxM:(upd (upd H4 dx (.own x)) x (.ins CC dx [])) x=some (.ins CC dx []):=upd_same
 have frM:∀ y,(upd (upd H4 dx (.own x)) x (.ins CC dx [])) y=none→H4 y=none:=fun y e=>sM.free e
 generalize upd (upd H4 dx (.own x)) x (.ins CC dx [])=HM at sM hxM frM
 refine ⟨x,dx,t,a,b,p,n,f,rfl,hxM,(T1.same s14).same sM,hp,by omega,np,fun H5 wa1 sh1 le1 keep hwa0 hsh0 hle0 hsl1 hws1 hwl1 hwa1 hsh1 hle1 hc1=>⟨rfl,hu _ _ ?_⟩⟩
 have s45:Same H4 H5:=fun y u e=>keep y u (sM _ _ e) (aw e hx)
 have s15:=s14.trans s45
 have fw1:=frM _ hwa0
 have fsh1:=frM _ hsh0
 have fle1:=frM _ hle0
 clear keep sM hxM frM
 refine aL (aD (i:=8) sc_exchanged.nd rfl (Or.inl rfl) (kI O_Course hr rfl (aa (pv 0) (aa (pv 1) (aa (pv 3) ac))))) fun u hu=>?_
 refine ⟨_,rfl,_,rfl,_,rfl,fun y dy hy hdy hne2=>?_⟩
 have sM:Same H5 (upd (upd H5 dy (.own y)) y (.ins CC dy [])):=fun z u e=>by
  rw [aB (aw e hy),aB (aw e hdy)]
  exact e
 have hxM:(upd (upd H5 dy (.own y)) y (.ins CC dy [])) y=some (.ins CC dy []):=upd_same
 have frM:∀ z,(upd (upd H5 dy (.own y)) y (.ins CC dy [])) z=none→H5 z=none:=fun z e=>sM.free e
 generalize upd (upd H5 dy (.own y)) y (.ins CC dy [])=HN at sM hxM frM
 refine ⟨y,dy,t,a,o,p,n,f,rfl,hxM,(T1.same s15).same sM,hp,by omega,np,fun H6 wa2 sh2 le2 keep2 hwa20 hsh20 hle20 hsl2 hws2 hwl2 hwa2 hsh2 hle2 hc2=>⟨rfl,hu _ _ ?_⟩⟩
 have s56:Same H5 H6:=fun z u e=>keep2 z u (sM _ _ e) (aw e hy)
 have s16:=s15.trans s56
 have fw2:=frM _ hwa20
 have fsh2:=frM _ hsh20
 have fle2:=frM _ hle20
 clear keep2 sM hxM frM
 refine aL (aD (i:=9) sc_exchanged.nd rfl (Or.inl rfl) (aW ac)) fun u hu=>?_
 refine ⟨(by show 0≤sizeLine;decide),fun l hl=>hu _ _ ?_⟩
 have s67:=aj hl (.lst [])
 have hl7:(upd H6 l (.lst [])) l=some (.lst []):=upd_same
 generalize upd H6 l (.lst [])=H7 at s67 hl7
 have s17:=s16.trans s67
 have s57:=s56.trans s67
 have s47:=s45.trans s57
 refine aL (PS.nox (bP PassesOwn.never rfl (bn (ak O_chance_by_step hr rfl (aa (pv 0) (aa (pv 1) (aa (pv 4) ac))))) (ar (i:=10) sc_exchanged.nd rfl (Or.inl rfl))
   (ad (aD (i:=11) sc_exchanged.nd rfl (Or.inl rfl) (ak O_exchanged_rows hr rfl (aa (pv 6) (aa (pv 5) (aa (pv 10) (aa (pv 7) (aa (pv 8) ac)))))))
  (ad (bc (fM M_go_on hr (pv 7) (aa (pv 10) ac)))
  (ad (bc (fM M_go_on hr (pv 8) (aa (pv 11) ac)))
  (ah (bP PassesOwn.never rfl (bn (pv 11)) (ar (i:=12) sc_exchanged.nd rfl (Or.inl rfl))
   (ah (bc (dO PySem.F.plainAttrs_list PySem.F.slot_list_extend PySem.F.type_list_extend jk (pv 9) (aa (pv 12) ac))))))))))) fun u hu=>?_
 refine ⟨_,rfl,_,rfl,_,rfl,t,a,c,p,n,f,ws,ss,ch,rfl,T1.same s17,by omega,by omega,s17 _ _ ha,hss.same s17,by omega,s17 _ _ hch,fun d as H8 s8 hd0 hd hLL=>?_⟩
 have s18:=s17.trans s8
 have s48:=s47.trans s8
 have asl:as.length=ss.length:=by rw [Paired.length hLL,gP]
 have h1s:H8 sh1=some (.lst []):=(s57.trans s8) _ _ hsh1
 have h1l:H8 le1=some (.lst []):=(s57.trans s8) _ _ hle1
 have h2s:H8 sh2=some (.lst []):=(s67.trans s8) _ _ hsh2
 have h2l:H8 le2=some (.lst []):=(s67.trans s8) _ _ hle2
 have hl8:H8 l=some (.lst []):=s8 _ _ hl7
 have hlist:∀ z∈[sh1,le1,sh2,le2,l],∃ xs,H8 z=some (.lst xs):=fun z hz=>by
  simp only [List.mem_cons,List.not_mem_nil,or_false] at hz
  rcases hz with r | r | r | r | r<;>rw [r]
  ·exact ⟨_,h1s⟩
  ·exact ⟨_,h1l⟩
  ·exact ⟨_,h2s⟩
  ·exact ⟨_,h2l⟩
  ·exact ⟨_,hl8⟩
 have out4:∀ {z u},H4 z=some u→z∉[sh1,le1,sh2,le2,l]:=fun {z u} e hz=>by
  have n1:z≠sh1:=aw e fsh1
  have n2:z≠le1:=aw e fle1
  have n3:z≠sh2:=aw (s45 _ _ e) fsh2
  have n4:z≠le2:=aw (s45 _ _ e) fle2
  have n5:z≠l:=aw ((s45.trans s56) _ _ e) hl
  simp only [List.mem_cons,List.not_mem_nil,or_false] at hz
  rcases hz with r | r | r | r | r
  ·exact n1 r
  ·exact n2 r
  ·exact n3 r
  ·exact n4 r
  ·exact n5 r
 have out7:∀ {z},H7 z=none→z∉[sh1,le1,sh2,le2,l]:=fun {z} e hz=>by
  simp only [List.mem_cons,List.not_mem_nil,or_false] at hz
  rcases hz with r | r | r | r | r<;>rw [r] at e
  ·rw [s57 _ _ hsh1] at e;cases e
  ·rw [s57 _ _ hle1] at e;cases e
  ·rw [s67 _ _ hsh2] at e;cases e
  ·rw [s67 _ _ hle2] at e;cases e
  ·rw [hl7] at e;cases e
 have ha4:=s14 _ _ ha
 have hb4:=s14 _ _ hb
 have ho4:=s14 _ _ ho
 have hin4:=hin.same s14
 have hjn4:=hjn.same s14
 have is4:∀ i∈is,i∉[sh1,le1,sh2,le2,l]:=fun i hi=>by
  obtain ⟨k,hk⟩:=List.getElem?_of_mem hi
  obtain ⟨_,_,z⟩:=hin4.get hk
  exact out4 z
 have js4:∀ i∈js,i∉[sh1,le1,sh2,le2,l]:=fun i hi=>by
  obtain ⟨k,hk⟩:=List.getElem?_of_mem hi
  obtain ⟨_,_,z⟩:=hjn4.get hk
  exact out4 z
 have ne5:∀ {z},z∉[sh1,le1,sh2,le2,l]→z≠sh1∧z≠le1∧z≠sh2∧z≠le2∧z≠l:=fun h=>by
  simp only [List.mem_cons,List.not_mem_nil,or_false,not_or] at h
  exact h
 have w1n:wa1∉[sh1,le1,sh2,le2,l]:=fun hz=>by
  have n3:wa1≠sh2:=aw hwa1 fsh2
  have n4:wa1≠le2:=aw hwa1 fle2
  have n5:wa1≠l:=aw (s56 _ _ hwa1) hl
  simp only [List.mem_cons,List.not_mem_nil,or_false] at hz
  rcases hz with r | r | r | r | r
  ·exact hws1 r
  ·exact hwl1 r
  ·exact n3 r
  ·exact n4 r
  ·exact n5 r
 have w2n:wa2∉[sh1,le1,sh2,le2,l]:=fun hz=>by
  have n1:wa2≠sh1:=(aw hsh1 fw2).symm
  have n2:wa2≠le1:=(aw hle1 fw2).symm
  have n5:wa2≠l:=aw hwa2 hl
  simp only [List.mem_cons,List.not_mem_nil,or_false] at hz
  rcases hz with r | r | r | r | r
  ·exact n1 r
  ·exact n2 r
  ·exact hws2 r
  ·exact hwl2 r
  ·exact n5 r
 have m12:sh1≠sh2:=aw hsh1 fsh2
 have m14:sh1≠le2:=aw hsh1 fle2
 have m32:le1≠sh2:=aw hle1 fsh2
 have m34:le1≠le2:=aw hle1 fle2
 have m1l:sh1≠l:=aw (s56 _ _ hsh1) hl
 have m2l:le1≠l:=aw (s56 _ _ hle1) hl
 have m3l:sh2≠l:=aw hsh2 hl
 have m4l:le2≠l:=aw hle2 hl
 have AP1:Apt a b wa1 sh1 le1 is []:=⟨hsl1,⟨(ne5 (out4 ha4)).1,(ne5 (out4 ha4)).2.1⟩,⟨(ne5 (out4 hb4)).1,(ne5 (out4 hb4)).2.1⟩,⟨hws1,hwl1⟩,fun i hi=>⟨(ne5 (is4 i hi)).1,(ne5 (is4 i hi)).2.1⟩,fun i hi=>nomatch hi⟩
 have AP2:Apt a o wa2 sh2 le2 js []:=⟨hsl2,⟨(ne5 (out4 ha4)).2.2.1,(ne5 (out4 ha4)).2.2.2.1⟩,⟨(ne5 (out4 ho4)).2.2.1,(ne5 (out4 ho4)).2.2.2.1⟩,⟨hws2,hwl2⟩,fun i hi=>⟨(ne5 (js4 i hi)).2.2.1,(ne5 (js4 i hi)).2.2.2.1⟩,fun i hi=>nomatch hi⟩
 have T8:=T1.same s18
 refine ⟨d,rfl,⟨_,SqL.of hd⟩,?_⟩
 refine b8 (K:=K) (a:=d) (xs:=as.map V.ref) (fun i σ H'=>gk [sh1,le1,sh2,le2,l] H8 H'∧i≤ss.length∧∃ (shs1:List Addr) (lvs1:List V) (shs2:List Addr) (lvs2:List V) (v10 v11 v12:Option V),σ=[some (.ref t),some (.ref a),some (.ref b),some (.ref o),some (.ref c),some (.ref so),some (.ref co),some (.ref x),some (.ref y),some (.ref l),v10,v11,v12]∧CrsAt C CC H' x p n f ss inp (exI p n f.toNat ss inp oth ch cover hs i).here.1 t a b wa1 sh1 le1 ws is shs1∧Apt a b wa1 sh1 le1 is shs1∧H' le1=some (.lst lvs1)∧LetsAt H' lvs1 (exI p n f.toNat ss inp oth ch cover hs i).here.2∧CrsAt C CC H' y p n f ss oth (exI p n f.toNat ss inp oth ch cover hs i).there.1 t a o wa2 sh2 le2 ws js shs2∧Apt a o wa2 sh2 le2 js shs2∧H' le2=some (.lst lvs2)∧LetsAt H' lvs2 (exI p n f.toNat ss inp oth ch cover hs i).there.2∧(∀ m∈shs1,H8 m=none)∧(∀ m∈shs2,H8 m=none)∧H' l=some (.lst ((exI p n f.toNat ss inp oth ch cover hs i).found.map V.int))∧(exI p n f.toNat ss inp oth ch cover hs i).here.2.length≤100*i∧(exI p n f.toNat ss inp oth ch cover hs i).there.2.length≤100*i∧(exI p n f.toNat ss inp oth ch cover hs i).found.length≤100*i) ?_ ?_ ?_ ?_
 ·exact ⟨fun _ _ e _=>e,Nat.zero_le _,[],[],[],[],none,none,none,rfl,⟨⟨dx,(s57.trans s8) _ _ hc1⟩,T8,s18 _ _ ha,hss.same s18,s18 _ _ hb,hin.same s18,(s57.trans s8) _ _ hwa1,h1s,.nil⟩,AP1,h1l,.nil,⟨⟨dy,(s67.trans s8) _ _ hc2⟩,T8,s18 _ _ ha,hss.same s18,s18 _ _ ho,hjn.same s18,(s67.trans s8) _ _ hwa2,h2s,.nil⟩,AP2,h2l,.nil,(fun m h=>nomatch h),(fun m h=>nomatch h),hl8,Nat.zero_le _,Nat.zero_le _,Nat.zero_le _⟩
 ·rintro i σ H' _ ⟨sX,_⟩
  exact SqL.of (sX _ _ hd (out7 hd0))
 ·rintro i yv σ H' hyv ⟨sX,hi,shs1,lvs1,shs2,lvs2,v10,v11,v12,rfl,R1,A1,hL1,hV1,R2,A2,hL2,hV2,hm1,hm2,hlF,b1,b2,b3⟩
  obtain ⟨ai,rfl,hai⟩:=eH hyv
  have il:i<ss.length:=by rw [← asl];exact (List.getElem?_eq_some_iff.mp hai).1
  obtain ⟨rows,hrows,hai0,bs,hab,hbs,hbf⟩:=fN hLL hai
  have ez:ss[i]?=some ss[i]:=List.getElem?_eq_getElem il
  have erows:rows=bh f.toNat ch (aS f.toNat n (ss.take i)) ((ss[i]).dealers n).length:=by
   have h1:=fU (f:=f.toNat) (n:=n) (ch:=ch) ez
   rw [List.take_add_one,hrows] at h1
   have:=List.append_cancel_left h1
   simpa using this
  have eg:ss.getD i (.fix 0)=ss[i]:=by rw [List.getD_eq_getElem?_getD,ez];rfl
  have el:=nB (p:=p) (n:=n) (f:=f.toNat) (ss:=ss) (inp:=inp) (oth:=oth) (ch:=ch) (cover:=cover) (hs:=hs) i
  have eo:=rc (p:=p) (n:=n) (by omega) (f:=f.toNat) (ss:=ss) (inp:=inp) (oth:=oth) (ch:=ch) (cover:=cover) (hs:=hs) i
  have ext:exI p n f.toNat ss inp oth ch cover hs (i+1)=⟨goSt p n ss inp (exI p n f.toNat ss inp oth ch cover hs i).here rows,goSt p n ss oth (exI p n f.toNat ss inp oth ch cover hs i).there (cB p cover hs ((ss[i]).dealers n) rows (bV p n ss inp (exI p n f.toNat ss inp oth ch cover hs i).here.1 ss[i]) (bV p n ss oth (exI p n f.toNat ss inp oth ch cover hs i).there.1 ss[i])),(exI p n f.toNat ss inp oth ch cover hs i).found++(cB p cover hs ((ss[i]).dealers n) rows (bV p n ss inp (exI p n f.toNat ss inp oth ch cover hs i).here.1 ss[i]) (bV p n ss oth (exI p n f.toNat ss inp oth ch cover hs i).there.1 ss[i])).flatten⟩:=by
   show (⟨_,_,_⟩:ExSt)=_
   unfold bN
   rw [eg,← erows]
  generalize exI p n f.toNat ss inp oth ch cover hs i=X at R1 R2 hV1 hV2 hlF b1 b2 b3 el eo ext
  have out8:∀ {z},H8 z=none→z∉[sh1,le1,sh2,le2,l]:=fun e hz=>by
   obtain ⟨xs,hx⟩:=hlist _ hz
   rw [e] at hx;cases hx
  have hbX:InsAt H' bs rows:=InsAt.sx sX hbs fun b hb=>out7 (hbf b hb)
  have haX:=sX _ _ hab (out7 hai0)
  have hz1:ss[X.here.1.length]?=some ss[i]:=by rw [el.1];exact ez
  have hz2:ss[X.there.1.length]?=some ss[i]:=by rw [el.2];exact ez
  have dle:=cf (n:=n) (by omega) (by omega) ss[i]
  have rl:rows.length=((ss[i]).dealers n).length:=by rw [erows,gi]
  have rb2:∀ r∈rows,r.length≤2:=fun r hr=>by
   rw [erows] at hr
   have:=(mt r hr).1
   omega
  have hso4:=s14 _ _ hso
  refine ⟨_,rfl,_,rfl,_,rfl,_,rfl,_,rfl,co,so,ai,x,y,p,n,f,ss,inp,oth,X.here.1,X.there.1,rows,ss[i],cover,hs,bs,t,a,b,wa1,sh1,le1,ws,is,shs1,rfl,R1,⟨t,a,o,wa2,sh2,le2,ws,js,shs2,R2⟩,PA,PB,eo.1,eo.2,hz1,by rw [el.1,el.2],sX _ _ (s48 _ _ hco4) (out4 hco4),cvb,sX _ _ (s48 _ _ hso4) (out4 hso4),haX,hbX,rl,(fun r hr=>by have:=rb2 r hr;omega),fun d2 ds H9 s9 hd20 hd2 nd2 hds hdf=>?_⟩
  have cl:(cB p cover hs ((ss[i]).dealers n) rows (bV p n ss inp X.here.1 ss[i]) (bV p n ss oth X.there.1 ss[i])).length=((ss[i]).dealers n).length:=dQ
  have cb:∀ r∈cB p cover hs ((ss[i]).dealers n) rows (bV p n ss inp X.here.1 ss[i]) (bV p n ss oth X.there.1 ss[i]),r.length≤2:=fun r hr=>by
   unfold cB at hr
   obtain ⟨k,hk,rfl⟩:=List.mem_map.mp hr
   have hk:=List.mem_range.mp hk
   have rk:(rows.getD k []).length≤2:=rb2 _ (by rw [List.getD_eq_getElem?_getD,List.getElem?_eq_getElem (by omega)];exact List.getElem_mem _)
   unfold iL
   split
   ·exact rk
   ·unfold cT
    rw [List.length_zipWith]
    omega
  generalize cB p cover hs ((ss[i]).dealers n) rows (bV p n ss inp X.here.1 ss[i]) (bV p n ss oth X.there.1 ss[i])=chg at hds cl cb ext
  obtain ⟨dx',hcx⟩:=R1.obj
  obtain ⟨dy',hcy⟩:=R2.obj
  have e1:=Paired.length hV1
  have e2:=Paired.length hV2
  refine ⟨_,rfl,x,dx',_,rfl,s9 _ _ hcx,iq _ _ _ _ _ _ (by decide +kernel) (by decide +kernel) (by decide +kernel) (by decide +kernel) (by decide +kernel) (by decide +kernel),_,rfl,x,ai,le1,p,n,f,ss,inp,X.here.1,rows,ss[i],bs,lvs1,X.here.2,t,a,b,wa1,sh1,ws,is,shs1,rfl,R1.same s9,A1,PA,eo.1,hz1,s9 _ _ haX,hbX.same s9,rl,(fun r hr=>by have:=rb2 r hr;omega),s9 _ _ hL1,hV1.same s9,by omega,fun H10 m1 lv1' x10 hm10 R110 A110 hL110 hV110=>?_⟩
  have l9:∀ z∈[sh1,le1],∃ xs,H9 z=some (.lst xs):=fun z hz=>by
   simp only [List.mem_cons,List.not_mem_nil,or_false] at hz
   rcases hz with r | r<;>rw [r]
   ·exact ⟨_,s9 _ _ R1.hsh⟩
   ·exact ⟨_,s9 _ _ hL1⟩
  have n12:∀ {z},z∉[sh1,le1,sh2,le2,l]→z∉[sh1,le1]:=fun h m=>h (by
   simp only [List.mem_cons,List.not_mem_nil,or_false] at m ⊢
   rcases m with r | r
   ·exact .inl r
   ·exact .inr (.inl r))
  have n34:∀ {z},z∉[sh1,le1,sh2,le2,l]→z∉[sh2,le2]:=fun h m=>h (by
   simp only [List.mem_cons,List.not_mem_nil,or_false] at m ⊢
   rcases m with r | r
   ·exact .inr (.inr (.inl r))
   ·exact .inr (.inr (.inr (.inl r))))
  have free':∀ {z},H' z=none→z∉[sh1,le1,sh2,le2,l]:=fun e hz=>by
   simp only [List.mem_cons,List.not_mem_nil,or_false] at hz
   rcases hz with r | r | r | r | r<;>rw [r] at e
   ·rw [R1.hsh] at e;cases e
   ·rw [hL1] at e;cases e
   ·rw [R2.hsh] at e;cases e
   ·rw [hL2] at e;cases e
   ·rw [hlF] at e;cases e
  have R210:=CrsAt.sx x10 l9 (R2.same s9) (n12 (out4 ha4)) (n12 (out4 ho4)) (n12 w2n) (by simp [m12.symm,m32.symm]) (fun j hj=>n12 (js4 j hj)) (fun j hj=>n12 (out8 (hm2 j hj)))
  have dsn:∀ z∈ds,z∉[sh1,le1,sh2,le2,l]:=fun z hz=>(hdf z hz).elim free' fun m=>out7 (hbf z m)
  have hd10:=x10 _ _ hd2 (n12 (free' hd20))
  have hds10:=InsAt.sx x10 hds fun z hz=>n12 (dsn z hz)
  have hL210:=x10 _ _ (s9 _ _ hL2) (by simp [m14.symm,m34.symm])
  have hV210:=LetsAt.sx x10 l9 (hV2.same s9)
  have hcy10:H10 y=some (.ins CC dy' (kY t a o wa2 sh2 le2)):=x10 _ _ (s9 _ _ hcy) fun m=>by obtain ⟨xs,hx⟩:=l9 _ m;rw [s9 _ _ hcy] at hx;cases hx
  refine ⟨_,rfl,y,dy',_,rfl,hcy10,iq _ _ _ _ _ _ (by decide +kernel) (by decide +kernel) (by decide +kernel) (by decide +kernel) (by decide +kernel) (by decide +kernel),_,rfl,y,d2,le2,p,n,f,ss,oth,X.there.1,chg,ss[i],ds,lvs2,X.there.2,t,a,o,wa2,sh2,ws,js,shs2,rfl,R210,A2,PB,eo.2,hz2,hd10,hds10,cl,(fun r hr=>by have:=cb r hr;omega),hL210,hV210,by omega,fun H11 m2 lv2' x11 hm20 R211 A211 hL211 hV211=>?_⟩
  have l10:∀ z∈[sh2,le2],∃ xs,H10 z=some (.lst xs):=fun z hz=>by
   simp only [List.mem_cons,List.not_mem_nil,or_false] at hz
   rcases hz with r | r<;>rw [r]
   ·exact ⟨_,R210.hsh⟩
   ·exact ⟨_,hL210⟩
  have f1:=s9.free hm10
  have f2:=s9.free (j2 x10 hm20 fun m=>by
   simp only [List.mem_cons,List.not_mem_nil,or_false] at m
   rcases m with r | r<;>rw [r] at hm20
   ·rw [R110.hsh] at hm20;cases hm20
   ·rw [hL110] at hm20;cases hm20)
  have f18:=j2 sX f1 (free' f1)
  have f28:=j2 sX f2 (free' f2)
  have hm1':∀ m∈shs1++[m1],H8 m=none:=fun m hm=>(List.mem_append.mp hm).elim (hm1 m) fun h=>by rw [List.mem_singleton.mp h];exact f18
  have hm2':∀ m∈shs2++[m2],H8 m=none:=fun m hm=>(List.mem_append.mp hm).elim (hm2 m) fun h=>by rw [List.mem_singleton.mp h];exact f28
  have R111:=CrsAt.sx x11 l10 R110 (n34 (out4 ha4)) (n34 (out4 hb4)) (n34 w1n) (by simp [m12,m14]) (fun j hj=>n34 (is4 j hj)) (fun j hj=>n34 (out8 (hm1' j hj)))
  have hL111:=x11 _ _ hL110 (by simp [m32,m34])
  have hV111:=LetsAt.sx x11 l10 hV110
  have hlF11:=x11 _ _ (x10 _ _ (s9 _ _ hlF) (by simp [m1l.symm,m2l.symm])) (by simp [m3l.symm,m4l.symm])
  have hd11:=x11 _ _ hd10 (n34 (free' hd20))
  have hds11:=InsAt.sx x11 hds10 fun z hz=>n34 (dsn z hz)
  have n5l:∀ {z},z∉[sh1,le1,sh2,le2,l]→z∉[l]:=fun h m=>h (by
   simp only [List.mem_cons,List.not_mem_nil,or_false] at m ⊢
   exact .inr (.inr (.inr (.inr m))))
  have sX11:gk [sh1,le1,sh2,le2,l] H8 H11:=fun z u e h=>x11 _ _ (x10 _ _ (s9 _ _ (sX _ _ e h)) (n12 h)) (n34 h)
  have g1:goSt p n ss inp X.here rows=(X.here.1++[gf p n X.here.1 (dn p n ss inp X.here.1 rows ss[i]) ss[i]],X.here.2++mi p n (X.here.1.length:Int) (gf p n X.here.1 (dn p n ss inp X.here.1 rows ss[i]) ss[i]) (dn p n ss inp X.here.1 rows ss[i]) ss[i]):=by
   unfold goSt
   rw [el.1,eg]
  have g2:goSt p n ss oth X.there chg=(X.there.1++[gf p n X.there.1 (dn p n ss oth X.there.1 chg ss[i]) ss[i]],X.there.2++mi p n (X.there.1.length:Int) (gf p n X.there.1 (dn p n ss oth X.there.1 chg ss[i]) ss[i]) (dn p n ss oth X.there.1 chg ss[i]) ss[i]):=by
   unfold goSt
   rw [el.2,eg]
  have d1:=mh (p:=p) hn (X.here.1.length:Int) (gf p n X.here.1 (dn p n ss inp X.here.1 rows ss[i]) ss[i]) (dn p n ss inp X.here.1 rows ss[i]) ss[i] (fun r hr=>by have:=(kC (p:=p) (n:=n) (by omega) ss inp X.here.1 rows ss[i]).l r hr;omega)
  have d2':=mh (p:=p) hn (X.there.1.length:Int) (gf p n X.there.1 (dn p n ss oth X.there.1 chg ss[i]) ss[i]) (dn p n ss oth X.there.1 chg ss[i]) ss[i] (fun r hr=>by have:=(kC (p:=p) (n:=n) (by omega) ss oth X.there.1 chg ss[i]).l r hr;omega)
  rw [g1,g2] at ext
  rw [ext]
  have fl:∀ k,((chg.take k).flatten).length≤2*chg.length:=fun k=>Nat.le_trans (ou fun r hr=>cb r (List.mem_of_mem_take hr)) (by rw [List.length_take];omega)
  refine ⟨_,rfl,d2,rfl,⟨_,SqL.of hd11⟩,?_⟩
  refine b8 (K:=K) (a:=d2) (xs:=ds.map V.ref) (fun k σ H12=>gk [l] H11 H12∧∃ v12:Option V,σ=[some (.ref t),some (.ref a),some (.ref b),some (.ref o),some (.ref c),some (.ref so),some (.ref co),some (.ref x),some (.ref y),some (.ref l),some (.ref ai),some (.ref d2),v12]∧H12 l=some (.lst ((X.found++(chg.take k).flatten).map V.int))) ?_ ?_ ?_ ?_
  ·refine ⟨fun _ _ e _=>e,_,rfl,?_⟩
   show H11 l=some (.lst ((X.found++[]).map V.int))
   rw [List.append_nil]
   exact hlF11
  ·rintro k σ H12 _ ⟨sk,_⟩
   exact SqL.of (sk _ _ hd11 (n5l (free' hd20)))
  ·rintro k yv σ H12 hyv ⟨sk,v12',rfl,hl12⟩
   obtain ⟨ba,rfl,hba⟩:=eH hyv
   obtain ⟨row,hrow,hrr⟩:=hds11.get hba
   have hba12:=sk _ _ hrr (n5l (dsn ba (List.mem_of_getElem? hba)))
   have rl2:=cb row (List.mem_of_getElem? hrow)
   have flk:=fl k
   refine ⟨_,rfl,.inl ⟨rfl,_,SqL.of hl12⟩,_,rfl,l,ba,_,_,rfl,rfl,hl12,hba12,?_,?_⟩
   ·rw [List.length_map,List.length_map,List.length_append]
    exact Nat.le_trans (show _≤5000 by omega) (by decide)
   ·refine ⟨fun y u e ne=>?_,_,rfl,?_⟩
    ·rw [aB fun e=>ne (List.mem_singleton.mpr e)]
     exact sk y u e ne
    ·rw [upd_same,← List.map_append,List.append_assoc,List.take_add_one,hrow,List.flatten_append]
     show _=some (HO.lst ((X.found++((chg.take k).flatten++(row++[]))).map V.int))
     rw [List.append_nil]
  ·rintro σ H12 ⟨sk,v12',rfl,hl12⟩
   have dsl:ds.length=chg.length:=Paired.length hds
   rw [List.length_map,dsl,List.take_of_length_le (Nat.le_refl _)] at hl12
   have fll:=fl chg.length
   rw [List.take_of_length_le (Nat.le_refl _)] at fll
   have ll:∀ z∈[l],∃ xs,H11 z=some (.lst xs):=fun z hz=>by rw [List.mem_singleton.mp hz];exact ⟨_,hlF11⟩
   refine ⟨fun z u e h=>sk _ _ (sX11 z u e h) (n5l h),il,shs1++[m1],lv1',shs2++[m2],lv2',_,_,_,rfl,CrsAt.sx sk ll R111 (n5l (out4 ha4)) (n5l (out4 hb4)) (n5l w1n) (by simp [m1l]) (fun j hj=>n5l (is4 j hj)) (fun j hj=>n5l (out8 (hm1' j hj))),A110,sk _ _ hL111 (by simp [m2l]),LetsAt.sx sk ll hV111,CrsAt.sx sk ll R211 (n5l (out4 ha4)) (n5l (out4 ho4)) (n5l w2n) (by simp [m3l]) (fun j hj=>n5l (js4 j hj)) (fun j hj=>n5l (out8 (hm2' j hj))),A211,sk _ _ hL211 (by simp [m4l]),LetsAt.sx sk ll hV211,hm1',hm2',hl12,?_,?_,?_⟩
   ·refine Nat.le_trans (Nat.le_of_eq List.length_append) ?_
    omega
   ·refine Nat.le_trans (Nat.le_of_eq List.length_append) ?_
    omega
   ·refine Nat.le_trans (Nat.le_of_eq List.length_append) ?_
    omega
 ·rintro σ H' ⟨sX,_,shs1,lvs1,shs2,lvs2,v10,v11,v12,rfl,R1,A1,hL1,hV1,R2,A2,hL2,hV2,hm1,hm2,hlF,_,_,_⟩
  refine hu _ _ ?_
  refine ⟨_,(ah (aA (pv 9))),?_⟩
  rw [List.length_map,asl] at hlF
  rw [show (exI p n f.toNat ss inp oth ch cover hs ss.length).found=exD p n f.toNat ss inp oth ch hs by rw [← hcov];rfl] at hlF
  have sHe:Same H H':=fun z u e=>sX _ _ (s18 _ _ e) (out4 (s14 _ _ e))
  exact ⟨_,rfl,q l H' sHe ((s16).free hl) hlF⟩
end
section
variable {P:Program}{w:World}{K:PySem.W.Frag}{mg:Str→Option Value}{base:Heap}{C pa:Addr}
theorem sc_law_veil:az ["table","some","row","hand","far"] ["table","some"] (ao fD):=⟨rfl,rfl,rfl,by decide +kernel,rfl,by decide +kernel,by decide +kernel⟩
theorem ok_veilX (F:Src K mg "_law_veil" "_law_veil" fD ["table","some"]) (B:Blt mg) (T:Tab K C):Ok P w K mg base CX0 1 "_law_veil" ["table","some"] (mL C):=by
 refine F.ok sc_law_veil (fun vs H Q E h=>?_) (fun f cdv A outer s H vs Q E hr h=>?_)
 ·obtain ⟨t,s,p,n,f,hs,rfl,_⟩:=h
  rfl
 obtain ⟨t,sa,p,n,f,hs,rfl,T1,hp,hf,hsa,hb,hl,q⟩:=h
 obtain ⟨dx,ht⟩:=id T1
 have pp:=m3 hp
 refine aL (aD (i:=2) sc_law_veil.nd rfl (Or.inl rfl) (aq eS (aW (aa ae ac)) (aq lW (aW (aa ae ac)) (aJ (pv 0) rfl)))) fun u hu=>?_
 refine ⟨(by show 1≤sizeLine;decide),fun o1 ho1=>?_⟩
 have s1:=aj ho1 (.lst [.int 1])
 have e1:(upd H o1 (.lst [.int 1])) o1=some (.lst [.int 1]):=upd_same
 generalize upd H o1 (.lst [.int 1])=H1 at s1 e1
 refine ⟨(by show 1≤sizeLine;decide),fun o2 ho2=>?_⟩
 have s2:=aj ho2 (.lst [.int 0])
 have e2:(upd H1 o2 (.lst [.int 0])) o2=some (.lst [.int 0]):=upd_same
 generalize upd H1 o2 (.lst [.int 0])=H2 at s2 e2
 refine ⟨_,rfl,t,C,dx,_,_,rfl,(s1.trans s2) _ _ ht,T.cl,T.nF,tf_f _ _ _,o2,_,_,rfl,rfl,e2,by omega,by omega,small (by show 1*_≤1000;omega),fun o3 ho3=>?_⟩
 rw [rep0]
 have s3:=aj ho3 (.lst ((List.replicate f.toNat (0:Int)).map V.int))
 have e3:(upd H2 o3 (.lst ((List.replicate f.toNat (0:Int)).map V.int))) o3=some (.lst ((List.replicate f.toNat (0:Int)).map V.int)):=upd_same
 generalize upd H2 o3 (.lst ((List.replicate f.toNat (0:Int)).map V.int))=H3 at s3 e3
 refine ⟨o1,o3,_,_,rfl,rfl,(s2.trans s3) _ _ e1,e3,small (by rw [List.length_map,List.length_replicate];show 1+_≤1000;omega),fun r0 hr0=>hu _ _ ?_⟩
 have s4:=aj hr0 (.lst ([.int 1]++(List.replicate f.toNat (0:Int)).map V.int))
 have e4:(upd H3 r0 (.lst ([.int 1]++(List.replicate f.toNat (0:Int)).map V.int))) r0=some (.lst ((iX p f.toNat hs 0).map V.int)):=upd_same
 generalize upd H3 r0 (.lst ([.int 1]++(List.replicate f.toNat (0:Int)).map V.int))=H4 at s4 e4
 have g3:=s1.trans (s2.trans s3)
 have g4:=g3.trans s4
 have r0H:H r0=none:=g3.free hr0
 refine aL (bP PassesOwn.never rfl (bn (pv 1)) (ar (i:=3) sc_law_veil.nd rfl (Or.inl rfl))
   (ad (aD (i:=4) sc_law_veil.nd rfl (Or.inr rfl) ae)
  (ad (nX PassesOwn.never (av lX (aq aV (aq bG (pv 4) (pv 3)) (aJ (pv 0) rfl)) ae (aH _))
   (ah (aD (i:=4) sc_law_veil.nd rfl (Or.inr rfl) (aq aX (pv 4) ae))))
  (ah (bD 2 ["a","b"] [("table",0),("far",4)] sc_law_veil.nd  (gF rfl B.zip (aa (pv 2) (aa (aq eS (aW (aa ae ac)) (bR cU (pv 2) cW (cz (pe_un un_neg ae)))) ac))) rfl (fun C s0 H0 ex=>by exact (du K 2 rfl (aE (ar (i:=0) (show List.Nodup [("a":Str),"b","table","far"] by decide +kernel) rfl (Or.inl rfl)) (aE (ar (i:=1) (show List.Nodup [("a":Str),"b","table","far"] by decide +kernel) rfl (Or.inl rfl)) bF)))) (fun C s0 H0 ex=>by exact aZ) (fun C s0 H0 ex=>by exact (aq aV (aq bo (pv 0) (aq bG (pv 1) (pv 3))) (cX K (pv 2) rfl)))))))) fun u hu=>?_
 refine ⟨_,rfl,sa,rfl,⟨_,SqL.of (g4 _ _ hsa)⟩,?_⟩
 refine b8 (K:=K) (a:=sa) (xs:=hs.map V.int) (fun i σ H3=>Same H H3∧∃ (ra:Addr) (v3 v4:Option V),σ=[some (.ref t),some (.ref sa),some (.ref ra),v3,v4]∧H ra=none∧H3 ra=some (.lst ((iX p f.toNat hs i).map V.int))∧i≤hs.length) ?_ ?_ ?_ ?_
 ·exact ⟨g4,r0,none,none,rfl,r0H,e4,Nat.zero_le _⟩
 ·rintro i σ H3 _ ⟨s3,_⟩
  exact SqL.of (s3 _ _ hsa)
 ·rintro i y σ H5 hy ⟨s5,ra,v3,v4,rfl,ra0,hra,hi⟩
  obtain ⟨h,rfl,hv⟩:=aT hy
  have hbb:=hb h (List.mem_of_getElem? hv)
  have il:i<hs.length:=(List.getElem?_eq_some_iff.mp hv).1
  have hbk:=eQ hp (x:=h) (by rw [Int.emod_eq_of_lt (by omega) hbb.2];omega)
  have ht5:=s5 _ _ ht
  refine ⟨fun k σ H'=>H5=H'∧∃ nr:Int,σ=[some (.ref t),some (.ref sa),some (.ref ra),some (.int h),some (.int nr)]∧1≤nr∧nr≤bw p h∧k=(bw p h - nr).toNat,⟨_,rfl,1,rfl,by decide,hbk.1.1,rfl⟩,?_⟩
  rintro k σ H' ⟨rfl,nr,rfl,n1,n2,rfl⟩
  refine ⟨_,rfl,_,rfl,_,_,rfl,rfl,.inl ⟨by omega,by omega⟩,_,rfl,t,C,dx,_,_,rfl,ht5,T.cl,T.nP,gW _ _ _,_,_,rfl,rfl,by omega,rfl,_,rfl,?_⟩
  refine bi (fun c2=>?_) (fun c2=>?_)
  ·have nb:nr≠bw p h:=fun z=>by
    have c2:(!decide (V.int (nr*h%p)=V.int 1))=true:=c2
    rw [z,Int.mul_comm,hbk.2] at c2
    simp at c2
   refine ⟨fun σ' H'=>H5=H'∧σ'=[some (.ref t),some (.ref sa),some (.ref ra),some (.int h),some (.int (nr+1))],?_,?_⟩
   ·rintro σ' H' ⟨rfl,rfl⟩
    exact ⟨_,by omega,rfl,nr+1,rfl,by omega,by omega,rfl⟩
   ·exact ⟨_,rfl,_,_,rfl,rfl,rfl,rfl⟩
  have nrb:nr=bw p h:=by
   have c2:¬ (!decide (V.int (nr*h%p)=V.int 1))=true:=c2
   refine rH hp ⟨hbb.1,hbb.2⟩ ⟨by omega,by omega⟩ ?_
   by_cases z:nr*h%p=1
   ·exact z
   ·exact absurd (by rw [decide_eq_false (fun y=>z (by injection y))];rfl) c2
  have rl:=pV (p:=p) (f:=f.toNat) (hs:=hs) (i:=i) hi (by omega)
  have nx:=oK (p:=p) (by omega) (f:=f.toNat) hv (by omega)
  rw [← nrb] at nx
  generalize iX p f.toNat hs i=row at hra rl nx
  refine ⟨_,rfl,(by show 1≤sizeLine;decide),fun o1 ho1=>?_⟩
  have s6:=aj ho1 (.lst [.int 0])
  have k1:(upd H5 o1 (.lst [.int 0])) o1=some (.lst [.int 0]):=upd_same
  generalize upd H5 o1 (.lst [.int 0])=H6 at s6 k1
  refine ⟨_,rfl,_,rfl,(-1:Int),rfl,ra,_,rfl,SqL.of (s6 _ _ hra),fun o2 ho2=>?_⟩
  rw [cut_last,← List.map_dropLast]
  have s7:=aj ho2 (.lst (row.dropLast.map V.int))
  have k2:(upd H6 o2 (.lst (row.dropLast.map V.int))) o2=some (.lst (row.dropLast.map V.int)):=upd_same
  generalize upd H6 o2 (.lst (row.dropLast.map V.int))=H7 at s7 k2
  have dl:row.dropLast.length=f.toNat:=by rw [List.length_dropLast,rl];rfl
  refine ⟨o1,o2,_,_,rfl,rfl,s7 _ _ k1,k2,small (by rw [List.length_map,dl];show 1+_≤1000;omega),fun o4 ho4=>?_⟩
  have s8:=aj ho4 (.lst ([.int 0]++row.dropLast.map V.int))
  have k4:(upd H7 o4 (.lst ([.int 0]++row.dropLast.map V.int))) o4=some (.lst ((0::row.dropLast).map V.int)):=upd_same
  generalize upd H7 o4 (.lst ([.int 0]++row.dropLast.map V.int))=H8 at s8 k4
  have s58:=s6.trans (s7.trans s8)
  have g8:=s5.trans s58
  have hra8:=s58 _ _ hra
  refine ⟨ra,o4,_,_,rfl,SqL.of hra8,SqL.of k4,fun D hD=>?_⟩
  refine dC (K:=K) (a:=ra) (b:=o4) (xs:=row.map V.int) (zs:=(0::row.dropLast).map V.int) (fun j ys H9=>j≤f.toNat+1∧ys=((List.zipWith (fun a b=>(a - b*nr)%p) row (0::row.dropLast)).take j).map V.int∧Same H8 H9) ⟨Nat.zero_le _,rfl,am (Same.refl _) hD⟩ ?_ ?_ ?_
  ·rintro j ys H9 ⟨_,_,s9⟩
   exact ⟨SqL.of (s9 _ _ hra8),SqL.of (s9 _ _ k4)⟩
  ·rintro j x z ys H9 c hx hz ⟨hj,rfl,s9⟩ hD9 hc
   obtain ⟨x1,rfl,h1⟩:=aT hx
   obtain ⟨z1,rfl,h2⟩:=aT hz
   have jl:j<row.length:=(List.getElem?_eq_some_iff.mp h1).1
   have s10:=aj hc (.tup [.int x1,.int z1])
   refine ⟨c,_,rfl,SqT.of upd_same,rfl,_,_,rfl,_,_,rfl,rfl,⟨rfl,rfl⟩,?_⟩
   refine ⟨_,rfl,_,rfl,_,rfl,_,_,rfl,rfl,.inr ⟨by omega,by omega⟩,_,_,rfl,rfl,_,rfl,t,C,dx,_,_,rfl,(g8.trans (s9.trans s10)) _ _ ht,T.cl,T.nP,gW _ _ _,_,_,rfl,rfl,by omega,?_⟩
   refine ⟨s10 _ _ hD9,au (by rw [List.length_map,List.length_take];omega),by omega,?_,am (s9.trans s10) hD⟩
   have hv2:(List.zipWith (fun a b=>(a - b*nr)%p) row (0::row.dropLast))[j]?=some ((x1 - z1*nr)%p):=by rw [List.getElem?_zipWith,h1,h2]
   rw [List.take_add_one,hv2,List.map_append]
   rfl
  ·rintro ys H9 ⟨_,rfl,s9⟩ hD9
   rw [List.take_of_length_le (by simp),nx] at hD9
   exact ⟨g8.trans s9,D,_,_,rfl,g8.free hD,hD9,il⟩
 ·rintro σ H3 ⟨s3,ra,v3,v4,rfl,ra0,hra,_⟩
  rw [List.length_map,pW] at hra
  refine hu _ _ ?_
  refine ⟨_,(ah (aA (pv 2))),?_⟩
  exact ⟨_,rfl,q ra H3 s3 ra0 hra⟩
theorem lM:az ["table","step"] ["table","step"] (ao eA):=⟨rfl,rfl,rfl,by decide +kernel,rfl,by decide +kernel,by decide +kernel⟩
theorem qw (F:Src K mg "_law_hands" "_law_hands" eA ["table","step"]) (B:Blt mg) (T:Tab K C):Ok P w K mg base CX0 1 "_law_hands" ["table","step"] (cn C):=by
 refine F.ok lM (fun vs H Q E h=>?_) (fun f cdv A outer s H vs Q E hr h=>?_)
 ·obtain ⟨t,b,p,n,f,z,rfl,_⟩:=h
  rfl
 obtain ⟨t,b,p,n,f,z,rfl,T1,hn,hz,q⟩:=h
 refine ⟨_,(ad (bd (av bH (aK aY (pv 1) ae (fun _ _=>rfl)) aP (aH _))
   (ah (aA (aW (aa (aK aY (pv 1) ae (fun _ _=>rfl)) ac))))
   aI)
  (ad (bd (av fk (aK aY (pv 1) ae (fun _ _=>rfl)) (bX (aa aP (aa aP ac))) rfl)
   (ah (aA (iA rfl rfl B.list rfl B.range (aa ae (aa (aq aX (aJ (pv 0) rfl) ae) ac)))))
   aI)
  (ah (aA (aW ac))))),?_⟩
 obtain ⟨dx,ht⟩:=id T1
 refine ⟨_,rfl,b,_,_,.str z.word,rfl,rfl,SqT.of hz,z.at0,rfl,_,rfl,?_⟩
 refine bi (fun c=>?_) (fun c=>?_)
 ·have c':V.str z.word=V.str "in":=of_decide_eq_true c
  injection c' with c'
  cases z with
  | ein h =>
   refine ⟨_,rfl,b,_,_,.int h,rfl,rfl,SqT.of hz,rfl,(by show 1≤sizeLine;decide),fun l hl=>?_⟩
   exact q l _ (aj hl _) hl upd_same
  | _=>exact absurd c' (by simp only [Stp.word];decide +kernel)
 have c':¬ z.word="in":=fun e=>(of_decide_eq_false (Bool.eq_false_iff.mpr c):¬ V.str z.word=V.str "in") (by rw [e])
 refine ⟨_,rfl,b,_,_,.str z.word,rfl,rfl,SqT.of hz,z.at0,(by show 2≤sizeLine;decide),fun tt htt=>⟨tt,_,rfl,.inr (SqT.of upd_same),rfl,rfl,_,rfl,?_⟩⟩
 have s1:=aj htt (.tup [.str (Str.ofString "mul"),.str (Str.ofString "anew")])
 generalize upd H tt (.tup [.str (Str.ofString "mul"),.str (Str.ofString "anew")])=H1 at s1
 have all_:∀ l,H1 l=none→(z.dealers n=ce n)→Q (.ref l) (upd H1 l (.lst ((fQ 1 (n+1 - 1).toNat).map V.int))):=fun l hl e=>by
  refine q l _ (s1.trans (aj hl _)) (s1.free hl) ?_
  rw [upd_same,e]
  unfold ce
  rw [show (n+1 - 1).toNat=n.toNat by omega]
 cases z with
 | ein h=>exact absurd rfl c'
 | mul a1 b1 =>
  refine bi (fun _=>?_) (fun c=>absurd (show inV (V.str (Str.ofString "mul")) [V.str (Str.ofString "mul"),V.str (Str.ofString "anew")]=true by decide +kernel) c)
  exact ⟨_,rfl,t,C,dx,_,_,rfl,s1 _ _ ht,T.cl,T.nH,kX _ _ _,_,_,rfl,rfl,1,n+1,rfl,⟨by omega,by omega,by omega,by omega⟩,by omega,fun l hl=>all_ l hl rfl⟩
 | anew a1 =>
  refine bi (fun _=>?_) (fun c=>absurd (show inV (V.str (Str.ofString "anew")) [V.str (Str.ofString "mul"),V.str (Str.ofString "anew")]=true by decide +kernel) c)
  exact ⟨_,rfl,t,C,dx,_,_,rfl,s1 _ _ ht,T.cl,T.nH,kX _ _ _,_,_,rfl,rfl,1,n+1,rfl,⟨by omega,by omega,by omega,by omega⟩,by omega,fun l hl=>all_ l hl rfl⟩
 | fix x =>
  refine bi (fun c=>absurd (show inV (V.str (Str.ofString "fix")) [V.str (Str.ofString "mul"),V.str (Str.ofString "anew")]=true from c) (by decide +kernel)) (fun _=>?_)
  exact ⟨(by show 0≤sizeLine;decide),fun l hl=>q l _ (s1.trans (aj hl _)) (s1.free hl) upd_same⟩
 | bye a1 x =>
  refine bi (fun c=>absurd (show inV (V.str (Str.ofString "by")) [V.str (Str.ofString "mul"),V.str (Str.ofString "anew")]=true from c) (by decide +kernel)) (fun _=>?_)
  exact ⟨(by show 0≤sizeLine;decide),fun l hl=>q l _ (s1.trans (aj hl _)) (s1.free hl) upd_same⟩
 | sum a1 x =>
  refine bi (fun c=>absurd (show inV (V.str (Str.ofString "sum")) [V.str (Str.ofString "mul"),V.str (Str.ofString "anew")]=true from c) (by decide +kernel)) (fun _=>?_)
  exact ⟨(by show 0≤sizeLine;decide),fun l hl=>q l _ (s1.trans (aj hl _)) (s1.free hl) upd_same⟩
 | less a1 x =>
  refine bi (fun c=>absurd (show inV (V.str (Str.ofString "less")) [V.str (Str.ofString "mul"),V.str (Str.ofString "anew")]=true from c) (by decide +kernel)) (fun _=>?_)
  exact ⟨(by show 0≤sizeLine;decide),fun l hl=>q l _ (s1.trans (aj hl _)) (s1.free hl) upd_same⟩
 | opn a1 =>
  refine bi (fun c=>absurd (show inV (V.str (Str.ofString "open")) [V.str (Str.ofString "mul"),V.str (Str.ofString "anew")]=true from c) (by decide +kernel)) (fun _=>?_)
  exact ⟨(by show 0≤sizeLine;decide),fun l hl=>q l _ (s1.trans (aj hl _)) (s1.free hl) upd_same⟩
theorem sc_law_times:az ["prime","row","grown","number"] ["prime","row","grown"] (ao dY):=⟨rfl,rfl,rfl,by decide +kernel,rfl,by decide +kernel,by decide +kernel⟩
theorem qq (F:Src K mg "_law_times" "_law_times" dY ["prime","row","grown"]) (B:Blt mg):Ok P w K mg base CX0 1 "_law_times" ["prime","row","grown"] j6:=by
 refine F.ok sc_law_times (fun vs H Q E h=>?_) (fun f cdv A outer s H vs Q E hr h=>?_)
 ·obtain ⟨r,g,p,d,row,rfl,_⟩:=h
  rfl
 obtain ⟨r,g,p,d,row,rfl,hp,hr_,hrl,hg,hd,q⟩:=h
 refine ⟨_,(ad (bP PassesOwn.never rfl (dr rfl B.range (aa (pv 0) ac)) (ar (i:=3) sc_law_times.nd rfl (Or.inr rfl))
   (ah (bd (av (op_eqL (hr.units)) (bt ["x"] [("prime",0),("number",3)]  (bn (bR cU (pv 1) (cz ae) cW)) rfl (fun C s0 H0 ex=>by exact (ar (i:=0) (show List.Nodup [("x":Str),"prime","number"] by decide +kernel) rfl (Or.inl rfl))) (fun C s0 H0 ex=>by exact aZ) (fun C s0 H0 ex=>by exact (aq aV (aq bG (pv 2) (pv 0)) (pv 1)))) (pv 2) (aH _))
   (ah (aA eV))
   aI)))
  (ah (aA eV))),?_⟩
 refine ⟨_,rfl,p,rfl,by omega,by omega,gL (fun i σ H1=>Same H H1∧(i:Int)≤d∧∃ v3:Option V,σ=[some (.int p),some (.ref r),some (.ref g),v3]) ⟨Same.refl _,hd.1,none,rfl⟩ ?_ ?_⟩
 ·rintro i σ H1 hi ⟨s1,hid,v3,rfl⟩
  refine ⟨_,rfl,((1:Nat):Int),rfl,r,_,rfl,SqL.of (s1 _ _ hr_),fun o1 ho1=>?_⟩
  rw [fO,← List.map_drop]
  have s2:=aj ho1 (.lst ((row.drop 1).map V.int))
  have k1:(upd H1 o1 (.lst ((row.drop 1).map V.int))) o1=some (.lst ((row.drop 1).map V.int)):=upd_same
  generalize upd H1 o1 (.lst ((row.drop 1).map V.int))=H2 at s2 k1
  refine ⟨o1,rfl,⟨_,SqL.of k1⟩,fun D hD=>?_⟩
  refine bv (K:=K) (a:=o1) (xs:=(row.drop 1).map V.int) (fun j ys H3=>ys=(((row.drop 1).take j).map fun x=>(0+(i:Int))*x%p).map V.int∧Same H2 H3) ⟨rfl,am (Same.refl _) hD⟩ ?_ ?_ ?_
  ·rintro j ys H3 _ ⟨_,s3⟩
   exact SqL.of (s3 _ _ k1)
  ·rintro j y ys H3 hy ⟨rfl,s3⟩ hD3
   obtain ⟨x,rfl,hx⟩:=aT hy
   have jl:j<(row.drop 1).length:=(List.getElem?_eq_some_iff.mp hx).1
   rw [List.length_drop] at jl
   refine ⟨⟨rfl,rfl⟩,?_⟩
   refine ⟨_,rfl,_,rfl,_,_,rfl,rfl,.inl ⟨by omega,by omega⟩,_,rfl,_,_,rfl,rfl,by omega,?_⟩
   refine ⟨hD3,au (by rw [List.length_map,List.length_map,List.length_take];omega),?_,am s3 hD⟩
   rw [List.take_add_one,hx,List.map_append,List.map_append]
   rfl
  ·rintro ys H3 ⟨rfl,s3⟩ hD3
   rw [List.length_map,List.take_length] at hD3
   have g3:=s1.trans (s2.trans s3)
   refine ⟨_,rfl,D,g,_,_,rfl,rfl,SqL.of hD3,SqL.of (g3 _ _ hg),_,rfl,?_⟩
   refine bi (fun _=>q _ g3) (fun c=>⟨g3,?_,_,rfl⟩)
   have:(i:Int)≠d:=fun z=>c (decide_eq_true (by rw [Int.zero_add,z]))
   omega
 ·rintro σ H1 ⟨s1,hid,v3,rfl⟩
  omega
end
section
variable {P:Program}{w:World}{K:PySem.W.Frag}{mg:Str→Option Value}{base:Heap}{C pa:Addr}
theorem sc_law:az ["script","table","prime","few","steps","inputs","others","some","chance","found","row","ones","twos","place","at","step","hand","grown"] ["script"] (ao s_law):=⟨rfl,rfl,rfl,by decide +kernel,rfl,by decide +kernel,by decide +kernel⟩
theorem ok_law {e cS cI cC cH cN:Addr}{ed:FuncData} (F:Fun K "law" "law" s_law e ed) (B:Blt mg) (T:Tab K C) (O_law_table_by:Ok P w K mg base CX0 4 "_law_table_by" ["cell"] (lD C)) (O_law_cell_at:Ok P w K mg base CX0 1 "_law_cell_at" ["script","k"] (lI K)) (O_law_pair_by:Ok P w K mg base CX0 4 "_law_pair_by" ["script","table","many"] (mR K C))
  (O_law_chance_by:Ok P w K mg base CX0 2 "_law_chance_by" ["cell","steps","table"] (gY C)) (O_law_agree:Ok P w K mg base CX0 2 "_law_agree" ["prime","steps","inputs","others","some"] mV) (O_law_plain:Ok P w K mg base CX0 1 "_law_plain" ["prime","steps","inputs"] kb) (O_law_veil:Ok P w K mg base CX0 1 "_law_veil" ["table","some"] (mL C)) (O_law_hands:Ok P w K mg base CX0 1 "_law_hands" ["table","step"] (cn C)) (O_law_times:Ok P w K mg base CX0 1 "_law_times" ["prime","row","grown"] j6) (O_exchanged:Ok P w K mg base CX0 9 "exchanged" ["table","steps","inputs","others","chance","some"] (fun vs H Q _=>spExP C cS cI cC cH cN vs H Q E0)):iU P w K mg base CX0 12 e ed ["script"] (spLaw K):=by
 refine F.ok sc_law (fun vs H Q E h=>?_) (fun cdv A outer s H vs Q E hr h=>?_)
 ·obtain ⟨a,ns,rfl,_⟩:=h
  rfl
 obtain ⟨a,ns,rfl,hS,h63,q⟩:=h
 refine aL (aD (i:=1) sc_law.nd rfl (Or.inl rfl) (ak O_law_table_by hr rfl (aa (ak O_law_cell_at hr rfl (aa (pv 0) (aa ae ac))) ac))) fun u hu=>?_
 refine ⟨_,rfl,a,ns,0,rfl,hS,Int.le_refl 0,fun H1 s1=>⟨_,rfl,fun t H2 s2 ht0 T2=>hu _ _ ?_⟩⟩
 generalize hc:bT ns 0=c at T2
 have hp:=p9 c
 have p0:=tbP_lo c
 have p1:=tbP_hi c
 have n1:=tbN_b c
 have f1:=tbF_b c
 have sH2:Same H H2:=s1.trans s2
 have m0:=Int.emod_nonneg (bT ns 6) (show (8:Int)≠0 by decide)
 have m1:=Int.emod_lt_of_pos (bT ns 6) (show (0:Int)<8 by decide)
 obtain ⟨m,hm⟩:∃ m:Nat,1+bT ns 6%8=(m:Int):=⟨(1+bT ns 6%8).toNat,by omega⟩
 refine aL (jc (bX (aa (aJ (pv 1) rfl) (aa (aJ (pv 1) rfl) ac))) (fS rfl (aE (ar (i:=2) sc_law.nd rfl (Or.inr rfl)) (aE (ar (i:=3) sc_law.nd rfl (Or.inl rfl)) bF)))) fun u hu=>?_
 obtain ⟨dy,hty⟩:=id T2
 refine ⟨_,rfl,t,C,dy,_,_,rfl,hty,T.cl,T.nP,gW _ _ _,_,rfl,t,C,dy,_,_,rfl,hty,T.cl,T.nF,tf_f _ _ _,(by show 2≤sizeLine;decide),fun d2 hd2=>⟨d2,_,rfl,SqT.of upd_same,rfl,_,_,rfl,_,_,rfl,rfl,hu _ _ ?_⟩⟩
 have sx:=aj hd2 (.tup [.int (tbP c),.int (tbF c)])
 generalize upd H2 d2 (.tup [.int (tbP c),.int (tbF c)])=Hx at sx
 replace sH2:=sH2.trans sx
 replace T2:=T2.same sx
 clear hty sx
 refine aL (jc (ak O_law_pair_by hr rfl (aa (pv 0) (aa (pv 1) (aa (aq aX ae (aq aV (ak O_law_cell_at hr rfl (aa (pv 0) (aa ae ac))) ae)) ac)))) (fS rfl (aE (ar (i:=4) sc_law.nd rfl (Or.inl rfl)) (aE (ar (i:=5) sc_law.nd rfl (Or.inl rfl)) (aE (ar (i:=6) sc_law.nd rfl (Or.inl rfl)) (aE (ar (i:=7) sc_law.nd rfl (Or.inl rfl)) bF)))))) fun u hu=>?_
 refine ⟨_,rfl,_,rfl,_,rfl,a,ns,6,rfl,sH2.seq hS,by decide,fun H3 s3=>⟨_,_,rfl,rfl,(by show (0:Int)<8;decide),_,_,rfl,rfl,a,t,ns,m,_,_,_,(by show [V.ref a,V.ref t,V.int (1+bT ns 6%8)]=_;rw [hm]),(sH2.trans s3).seq hS,T2.same s3,hp,f1.1,by omega,f1.2,by omega,fun d sa ia oa ea H4 ws ss is os inp oth sm wo s4 hd0 hd hsa hss l1 l2 hR hia hin IO hoa hot OO hea SO il ol=>⟨d,_,rfl,SqT.of hd,rfl,_,_,rfl,_,_,rfl,_,_,rfl,_,_,rfl,rfl,hu _ _ ?_⟩⟩⟩
 have g4:=s3.trans s4
 have T4:=T2.same g4
 have hS4:=(sH2.trans g4).seq hS
 have ok0:aU (tbP c) (tbN c) ss=true:=rightsB_iff.mpr ⟨by omega,hR⟩
 have okI:eW (tbP c) (tbN c) ss inp=true:=(eO (by omega)).mpr IO
 have okO:eW (tbP c) (tbN c) ss oth=true:=(eO (by omega)).mpr OO
 have okH:lP (tbN c) sm=true:=risB_iff.mpr ⟨fun h hm=>⟨(SO.b h hm).1,(SO.b h hm).2.1⟩,SO.rise⟩
 have sml:=SO.few
 have nb:=ni (f:=tbF c) (n:=tbN c) (by omega) (by omega) (by omega) (by omega) ss
 clear s1 s2 s3 s4 g4 sH2 T2 hS hd hd0 ht0
 refine aL (bd (gD (gC (ak O_law_agree hr rfl (aa (pv 2) (aa (pv 4) (aa (pv 5) (aa (pv 6) (aa (pv 7) ac)))))) (fun _=>rfl)))
   (ah (aA eV))
   aI) fun u hu=>?_
 refine ⟨_,rfl,_,rfl,_,rfl,_,rfl,_,rfl,⟨sa,ia,oa,ea,_,tbN c,ws,ss,is,os,inp,oth,sm,rfl,by omega,by omega,hsa,hss,by omega,hR,hia,hin,IO,hoa,hot,OO,hea,fun h hm=>⟨(SO.b h hm).1,(SO.b h hm).2.1⟩,fun H11 s11=>⟨_,rfl,?_⟩⟩⟩
 refine bi (fun _=>q _) (fun z=>hu _ _ ?_)
 have okA:fB (tbP c) ss inp oth sm=true:=by
  rw [agree_eq]
  cases e:jy (tbP c) ss inp oth sm with
  | true=>rfl
  | false=>exact absurd (by rw [e];rfl) z
 replace hsa:=s11 _ _ hsa
 replace hss:=hss.same s11
 replace hia:=s11 _ _ hia
 replace hin:=hin.same s11
 replace hoa:=s11 _ _ hoa
 replace hot:=hot.same s11
 replace hea:=s11 _ _ hea
 replace T4:=T4.same s11
 replace hS4:=s11.seq hS4
 clear s11 z
 refine aL (aD (i:=8) sc_law.nd rfl (Or.inr rfl) (ak O_law_chance_by hr rfl (aa (ak O_law_cell_at hr rfl (aa (pv 0) (aa ae ac))) (aa (pv 4) (aa (pv 1) ac))))) fun u hu=>?_
 refine ⟨_,rfl,a,ns,7,rfl,hS4,by decide,fun H5 s5=>⟨_,rfl,_,rfl,sa,t,_,_,_,_,ws,ss,rfl,T4.same s5,by omega,by omega,by omega,s5 _ _ hsa,hss.same s5,by omega,fun ca H6 s6 hca0 hca=>hu _ _ ?_⟩⟩
 have chl:((dj (bT ns 7) (tbP c) (bg (tbF c) (tbN c) ss).toNat).length:Int)=bg (tbF c) (tbN c) ss:=by unfold dj;rw [List.length_map,List.length_range];omega
 have okC:fA (tbP c) (tbF c) (tbN c) ss (dj (bT ns 7) (tbP c) (bg (tbF c) (tbN c) ss).toNat)=true:=by
  refine chan_iff.mpr ⟨chl,fun x hx=>?_⟩
  unfold dj at hx
  obtain ⟨i,_,rfl⟩:=List.mem_map.mp hx
  exact ⟨bJ (by omega),eK (by omega)⟩
 generalize dj (bT ns 7) (tbP c) (bg (tbF c) (tbN c) ss).toNat=ch at hca chl okC
 have s56:=s5.trans s6
 have hsa6:=s56 _ _ hsa
 have hss6:=hss.same s56
 have hia6:=s56 _ _ hia
 have hin6:=hin.same s56
 have hoa6:=s56 _ _ hoa
 have hot6:=hot.same s56
 have hea6:=s56 _ _ hea
 have T6:=T4.same s56
 have hS6:=s56.seq hS4
 obtain ⟨dx,ht6⟩:=id T6
 clear hsa hss hia hin hoa hot hea T4 hS4 s5 s6 s56 hca0
 have n7:=tbN_b c
 have cl:ch.length≤1000:=by omega
 have sml':sm.length≤100:=by omega
 refine aL (aD (i:=9) sc_law.nd rfl (Or.inr rfl) (ak O_exchanged hr rfl (aa (pv 1) (aa (pv 4) (aa (pv 5) (aa (pv 6) (aa (pv 8) (aa (pv 7) ac)))))))) fun u hu=>?_
 refine ⟨_,rfl,_,rfl,_,rfl,_,rfl,_,rfl,_,rfl,exP_good T6 hp (by omega) (by omega) f1.1 f1.2 hsa6 hss6 hia6 hin6 il hoa6 hot6 ol hca cl hea6 sml' ok0 okI okC okO okH sml okA fun fo H7 s7 hfo0 hfo=>hu _ _ ?_⟩
 have hchF:=exD_chan (inp:=inp) (oth:=oth) (by omega) (by omega) sml (by omega) okC
 have fe:(((tbF c).toNat:Nat):Int)=tbF c:=by omega
 have ub:(aS (tbF c).toNat (tbN c) ss:Int)=bg (tbF c) (tbN c) ss:=by rw [dS _ (by omega),fe]
 have grow:=fun (i k:Nat)=>grown_eq (p:=tbP c) (f:=(tbF c).toNat) (cover:=dD (tbP c) (tbF c).toNat sm) (hs:=sm) (inp:=inp) (oth:=oth) (i:=i) (k:=k) (by omega) (iW (by omega)) (n:=tbN c) (by omega) (by rw [fe];exact chl) (chan_iff.mp okC).2
 have elen:=fun i=>nB (p:=tbP c) (n:=tbN c) (f:=(tbF c).toNat) (ss:=ss) (inp:=inp) (oth:=oth) (ch:=ch) (cover:=dD (tbP c) (tbF c).toNat sm) (hs:=sm) i
 have fl:=(chan_iff.mp hchF).1
 change H7 fo=some (.lst ((exI (tbP c) (tbN c) (tbF c).toNat ss inp oth ch (dD (tbP c) (tbF c).toNat sm) sm ss.length).found.map V.int)) at hfo
 change (((exI (tbP c) (tbN c) (tbF c).toNat ss inp oth ch (dD (tbP c) (tbF c).toNat sm) sm ss.length).found.length:Nat):Int)=_ at fl
 generalize hfL:(exI (tbP c) (tbN c) (tbF c).toNat ss inp oth ch (dD (tbP c) (tbF c).toNat sm) sm ss.length).found=fL at hfo fl grow
 refine aL (bd (av lX (aN aG rfl B.len PySem.boot_len (aa (pv 9) ac)) (aN aG rfl B.len PySem.boot_len (aa (pv 8) ac)) (aH _))
   (ah (aA eV))
   aI) fun u hu=>?_
 refine ⟨_,rfl,fo,_,rfl,.inl (SqL.of hfo),_,rfl,ca,_,rfl,.inl (SqL.of (s7 _ _ hca)),rfl,_,rfl,?_⟩
 rw [List.length_map,List.length_map]
 refine bi (fun z=>absurd z (by rw [show (fL.length:Int)=(ch.length:Int) by omega,decide_eq_true rfl];decide)) (fun _=>hu _ _ ?_)
 refine aL (aD (i:=10) sc_law.nd rfl (Or.inl rfl) (ak O_law_veil hr rfl (aa (pv 1) (aa (pv 7) ac)))) fun u hu=>?_
 refine ⟨_,rfl,_,rfl,t,ea,_,_,_,sm,rfl,T6.same s7,hp,f1.1,s7 _ _ hea6,fun h hm=>⟨(SO.b h hm).1,by have:=(SO.b h hm).2.1;omega⟩,sml,fun ro H8 s8 hro0 hro=>hu _ _ ?_⟩
 have g8:=s7.trans s8
 have cvl:(dD (tbP c) (tbF c).toNat sm).length=(tbF c).toNat+1:=iW (by omega)
 have cvb:=veil_b (p:=tbP c) (by omega) (f:=(tbF c).toNat) (hs:=sm)
 generalize dD (tbP c) (tbF c).toNat sm=cover at hro cvl cvb grow elen hfL
 refine aL (aD (i:=11) sc_law.nd rfl (Or.inr rfl) (ak O_law_plain hr rfl (aa (pv 2) (aa (pv 4) (aa (pv 5) ac))))) fun u hu=>?_
 refine ⟨_,rfl,_,rfl,_,rfl,sa,ia,_,tbN c,ws,ss,is,inp,rfl,by omega,by omega,g8 _ _ hsa6,hss6.same g8,by omega,hR,g8 _ _ hia6,hin6.same g8,IO,fun on H9 s9 hon0 hon=>hu _ _ ?_⟩
 have g9:=g8.trans s9
 refine aL (aD (i:=12) sc_law.nd rfl (Or.inr rfl) (ak O_law_plain hr rfl (aa (pv 2) (aa (pv 4) (aa (pv 6) ac))))) fun u hu=>?_
 refine ⟨_,rfl,_,rfl,_,rfl,sa,oa,_,tbN c,ws,ss,os,oth,rfl,by omega,by omega,g9 _ _ hsa6,hss6.same g9,by omega,hR,g9 _ _ hoa6,hot6.same g9,OO,fun tw H10 s10 htw0 htw=>hu _ _ ?_⟩
 have g10:=g9.trans s10
 have hfo:=(s8.trans (s9.trans s10)) _ _ hfo
 have hro:=(s9.trans s10) _ _ hro
 have hon:=s10 _ _ hon
 have hca:=g10 _ _ hca
 have hsa:=g10 _ _ hsa6
 have hss:=hss6.same g10
 have hea:=g10 _ _ hea6
 have TT:=T6.same g10
 have pl1:=fh (tbP c) ss inp
 have pl2:=fh (tbP c) ss oth
 have pin1:=fun {i:Nat}{h:Int}=>nZ (p:=tbP c) (by omega) hR IO (i:=i) (h:=h)
 have pin2:=fun {i:Nat}{h:Int}=>nZ (p:=tbP c) (by omega) hR OO (i:=i) (h:=h)
 generalize bq (tbP c) ss inp=ones at hon pl1 pin1
 generalize bq (tbP c) ss oth=twos at htw pl2 pin2
 clear hsa6 hss6 hea6 T6 s7 s8 s9 s10 g8 g9 g10
 refine aL (aD (i:=13) sc_law.nd rfl (Or.inr rfl) ae) fun u hu=>?_
 refine hu _ _ ?_
 refine aL (bP PassesOwn.never rfl (kH rfl B.enumerate (aa (pv 4) ac)) (fS rfl (aE (ar (i:=14) sc_law.nd rfl (Or.inr rfl)) (aE (ar (i:=15) sc_law.nd rfl (Or.inl rfl)) bF)))
   (ah (bP PassesOwn.never rfl (bn (ak O_law_hands hr rfl (aa (pv 1) (aa (pv 15) ac)))) (ar (i:=16) sc_law.nd rfl (Or.inl rfl))
   (ad (bD 17 ["j"] [("prime",2),("found",9),("chance",8),("place",13)] sc_law.nd  (dr rfl B.range (aa (pv 3) ac)) rfl (fun C s0 H0 ex=>by exact (ar (i:=0) (show List.Nodup [("j":Str),"prime","found","chance","place"] by decide +kernel) rfl (Or.inl rfl))) (fun C s0 H0 ex=>by exact aZ) (fun C s0 H0 ex=>by exact (aq aV (aq bo (aK (dh K) (pv 2) (aq aX (pv 4) (pv 0)) (fun _ _=>rfl)) (aK (dh K) (pv 3) (aq aX (pv 4) (pv 0)) (fun _ _=>rfl))) (pv 1))))
  (ad (aD (i:=13) sc_law.nd rfl (Or.inr rfl) (aq aX (pv 13) (pv 3)))
  (ah (bd (PW.pt (jE (av fk (pv 16) (pv 7) rfl) (gB (av bH (aK aY (pv 15) ae (fun _ _=>rfl)) aP (aH _)))))
   (ah (bd (av (n9 (hr.units)) (pv 17) (aq lW (aW (aa ae ac)) (pv 3)) (aH _))
   (ah (aA eV))
   aI))
   (ah (bd (av bH (aK aY (pv 15) ae (fun _ _=>rfl)) aP (aH _))
   (ah (bd (av (n9 (hr.units)) (pv 17) (bt ["x"] [("prime",2),("twos",12),("at",14),("ones",11)]  (bn (bR cU (pv 10) (cz ae) cW)) rfl (fun C s0 H0 ex=>by exact (ar (i:=0) (show List.Nodup [("x":Str),"prime","twos","at","ones"] by decide +kernel) rfl (Or.inl rfl))) (fun C s0 H0 ex=>by exact aZ) (fun C s0 H0 ex=>by exact (aq aV (aq bG (aq bo (aK (dh K) (pv 2) (pv 3) (fun _ _=>rfl)) (aK (dh K) (pv 4) (pv 3) (fun _ _=>rfl))) (pv 0)) (pv 1)))) (aH _))
   (ah (aA eV))
   aI))
   (ah (bd (gD (gC (ak O_law_times hr rfl (aa (pv 2) (aa (pv 10) (aa (pv 17) ac)))) (fun _=>rfl)))
   (ah (aA eV))
   aI))))))))))) fun u hu=>?_
 refine ⟨_,rfl,sa,_,rfl,SqL.of hsa,?_⟩
 refine iT (K:=K) (a:=sa) (xs:=ws) (k0:=0) (fun i σ H'=>Same H10 H'∧∃ (v14 v15 v16 v17:Option V),σ=[some (.ref a),some (.ref t),some (.int (tbP c)),some (.int (tbF c)),some (.ref sa),some (.ref ia),some (.ref oa),some (.ref ea),some (.ref ca),some (.ref fo),some (.ref ro),some (.ref on),some (.ref tw),some (.int ((aS (tbF c).toNat (tbN c) (ss.take i):Nat):Int)),v14,v15,v16,v17]) ⟨Same.refl _,none,none,none,none,rfl⟩ ?_ ?_ ?_
 ·rintro i σ H' ⟨sx,_⟩
  exact SqL.of (sx _ _ hsa)
 ·rintro i y σ H' cc hy ⟨sx,v14,v15,v16,v17,rfl⟩ hcc
  obtain ⟨zd,z,rfl,hz,hzs⟩:=hss.get hy
  have ii:i<ss.length:=(List.getElem?_eq_some_iff.mp hzs).1
  have ez:ss.getD i (.fix 0)=z:=by rw [List.getD_eq_getElem?_getD,hzs];rfl
  have s15:=aj hcc (.tup [.int ((0+i:Nat):Int),.ref zd])
  refine ⟨cc,_,rfl,SqT.of upd_same,rfl,_,_,rfl,_,_,rfl,rfl,?_⟩
  generalize upd H' cc (.tup [.int ((0+i:Nat):Int),.ref zd])=H11 at s15
  have g11:=sx.trans s15
  rw [Nat.zero_add]
  have un:=dm (f:=(tbF c).toNat) (n:=tbN c) hzs
  have ut:aS (tbF c).toNat (tbN c) (ss.take (i+1))≤aS (tbF c).toNat (tbN c) ss:=by
   have:=gU (tbF c).toNat (tbN c) (ss.take (i+1)) (ss.drop (i+1))
   rw [List.take_append_drop] at this
   omega
  have grow:=fun k (hk:k<(z.dealers (tbN c)).length)=>grow i k ii (by rw [ez];exact hk)
  rw [ez] at grow
  refine ⟨_,rfl,_,rfl,t,zd,_,_,_,z,rfl,TT.same g11,by omega,g11 _ _ hz,fun hl H12 s12 hhl0 hhl=>?_⟩
  have g12:=g11.trans s12
  refine ⟨hl,rfl,⟨_,SqL.of hhl⟩,?_⟩
  refine b8 (K:=K) (a:=hl) (xs:=(z.dealers (tbN c)).map V.int) (fun k σ H'=>Same H12 H'∧∃ (v16 v17:Option V),σ=[some (.ref a),some (.ref t),some (.int (tbP c)),some (.int (tbF c)),some (.ref sa),some (.ref ia),some (.ref oa),some (.ref ea),some (.ref ca),some (.ref fo),some (.ref ro),some (.ref on),some (.ref tw),some (.int ((aS (tbF c).toNat (tbN c) (ss.take i)+k*(tbF c).toNat:Nat):Int)),some (.int (i:Int)),some (.ref zd),v16,v17]) ⟨Same.refl _,v16,v17,by rw [Nat.zero_mul,Nat.add_zero];rfl⟩ ?_ ?_ ?_
  ·rintro k σ H' _ ⟨s',_⟩
   exact SqL.of (s' _ _ hhl)
  ·rintro k y σ H13 hy ⟨s13,v16,v17,rfl⟩
   obtain ⟨h,rfl,hh⟩:=aT hy
   have hk:k<(z.dealers (tbN c)).length:=(List.getElem?_eq_some_iff.mp hh).1
   have eh:(z.dealers (tbN c)).getD k 0=h:=by rw [List.getD_eq_getElem?_getD,hh];rfl
   have g13:=g12.trans s13
   have hkm:(k+1)*(tbF c).toNat≤(z.dealers (tbN c)).length*(tbF c).toNat:=Nat.mul_le_mul_right _ hk
   rw [Nat.succ_mul] at hkm
   have gr:=grow k hk
   rw [eh] at gr
   have epl:((aS (tbF c).toNat (tbN c) (ss.take i)+k*(tbF c).toNat:Nat):Int)+tbF c=((aS (tbF c).toNat (tbN c) (ss.take i)+(k+1)*(tbF c).toNat:Nat):Int):=by rw [Nat.succ_mul];omega
   obtain ⟨pl,hpl⟩:∃ pl:Nat,aS (tbF c).toNat (tbN c) (ss.take i)+k*(tbF c).toNat=pl:=⟨_,rfl⟩
   rw [hpl] at gr epl ⊢
   have plb:pl+(tbF c).toNat≤ch.length:=by omega
   refine ⟨_,rfl,tbF c,rfl,by omega,by omega,fun D hD=>?_⟩
   refine bS (fun j ys H14=>j≤(tbF c).toNat∧ys=((jS (tbP c) (tbF c).toNat fL ch pl).take j).map V.int∧Same H13 H14) ⟨Nat.zero_le _,rfl,am (Same.refl _) hD⟩ ?_ ?_
   ·rintro j ys H14 hj ⟨_,rfl,s14⟩ hD14
    refine ⟨⟨rfl,rfl⟩,?_⟩
    have g14:=g13.trans s14
    have ax:=cg (fd:=fL) (a:=(pl:Int)+(0+(j:Int))) (by omega) (by omega)
    have ay:=cg (fd:=ch) (a:=(pl:Int)+(0+(j:Int))) (by omega) (by omega)
    refine ⟨_,rfl,_,rfl,_,rfl,_,_,rfl,rfl,fo,_,_,_,rfl,rfl,SqL.of (g14 _ _ hfo),ax,_,rfl,_,rfl,_,rfl,_,_,rfl,rfl,ca,_,_,_,rfl,rfl,SqL.of (g14 _ _ hca),ay,_,_,rfl,rfl,_,rfl,_,_,rfl,rfl,by omega,?_⟩
    refine ⟨hD14,au (by rw [List.length_map,List.length_take];omega),by omega,?_,am s14 hD⟩
    have e1:(jS (tbP c) (tbF c).toNat fL ch pl)[j]?=some ((fL.getD ((pl:Int)+(0+(j:Int))).toNat 0 - ch.getD ((pl:Int)+(0+(j:Int))).toNat 0)%tbP c):=by
     unfold jS
     rw [List.getElem?_map,List.getElem?_range hj,show ((pl:Int)+(0+(j:Int))).toNat=pl+j by omega]
     rfl
    rw [List.take_add_one,e1,List.map_append]
    rfl
   rintro ys H14 ⟨_,rfl,s14⟩ hD14
   rw [List.take_of_length_le (by unfold jS;rw [List.length_map,List.length_range];omega),gr] at hD14
   have g14:=g13.trans s14
   have fin:∀ {H'},Same H14 H'→(Same H12 H'∧∃ (w16 w17:Option V),[some (.ref a),some (.ref t),some (.int (tbP c)),some (.int (tbF c)),some (.ref sa),some (.ref ia),some (.ref oa),some (.ref ea),some (.ref ca),some (.ref fo),some (.ref ro),some (.ref on),some (.ref tw),some (.int ((pl:Int)+tbF c)),some (.int (i:Int)),some (.ref zd),some (.int h),some (.ref D)]=[some (.ref a),some (.ref t),some (.int (tbP c)),some (.int (tbF c)),some (.ref sa),some (.ref ia),some (.ref oa),some (.ref ea),some (.ref ca),some (.ref fo),some (.ref ro),some (.ref on),some (.ref tw),some (.int ((aS (tbF c).toNat (tbN c) (ss.take i)+(k+1)*(tbF c).toNat:Nat):Int)),some (.int (i:Int)),some (.ref zd),w16,w17]):=fun s'=>⟨s13.trans (s14.trans s'),_,_,by rw [epl]⟩
   refine ⟨_,rfl,_,rfl,_,_,rfl,rfl,?_⟩
   refine ⟨_,rfl,_,rfl,ea,_,rfl,.inl (SqL.of (g14 _ _ hea)),rfl,gN sm,_,rfl,?_⟩
   refine bi (fun c1=>?_) (fun c1=>?_)
   ·have c1:inV (.int h) (sm.map V.int)=true:=c1
    rw [eP] at c1
    rw [if_pos (of_decide_eq_true c1)] at hD14
    refine pL ⟨_,rfl,(by show 1≤sizeLine;decide),fun l hl'=>⟨_,rfl,l,_,_,rfl,rfl,upd_same,by omega,by omega,small (by show 1*_≤1000;omega),fun l2 hl2=>?_⟩⟩
    have u1:=aj hl' (.lst [.int 0])
    rw [rep0]
    have u2:=u1.trans (aj hl2 (.lst ((List.replicate (tbF c).toNat (0:Int)).map V.int)))
    refine ⟨D,l2,_,_,rfl,rfl,SqL.of (u2 _ _ hD14),SqL.of upd_same,_,rfl,?_⟩
    exact bi (fun z=>absurd z (by rw [decide_eq_true rfl];decide)) (fun _=>fin u2)
   have c1:¬ inV (.int h) (sm.map V.int)=true:=c1
   rw [eP,decide_eq_true_eq] at c1
   rw [if_neg c1] at hD14
   refine ⟨_,rfl,zd,_,_,.str z.word,rfl,rfl,SqT.of (g14 _ _ hz),z.at0,rfl,_,rfl,?_⟩
   refine bi (fun c2=>?_) (fun c2=>?_)
   ·have c2':V.str z.word=V.str "anew":=of_decide_eq_true c2
    injection c2' with c2'
    have e0:((cover.drop 1).map fun x=>(((bV (tbP c) (tbN c) ss oth (exI (tbP c) (tbN c) (tbF c).toNat ss inp oth ch cover sm i).there.1 z).getD k 0 - (bV (tbP c) (tbN c) ss inp (exI (tbP c) (tbN c) (tbF c).toNat ss inp oth ch cover sm i).here.1 z).getD k 0)*x)%tbP c)=List.replicate (tbF c).toNat 0:=by
     cases z with
     | anew a1 =>
      have e9:(List.replicate (tbN c).toNat (0:Int)).getD k 0=0:=by
       rw [List.getD_eq_getElem?_getD,List.getElem?_replicate]
       split<;>rfl
      show ((cover.drop 1).map fun x=>(((List.replicate (tbN c).toNat (0:Int)).getD k 0 - (List.replicate (tbN c).toNat (0:Int)).getD k 0)*x)%tbP c)=_
      rw [e9]
      exact zero_map (by rw [List.length_drop];omega)
     | _=>exact absurd c2' (by simp only [Stp.word];decide +kernel)
    rw [e0] at hD14
    refine ⟨_,rfl,(by show 1≤sizeLine;decide),fun l hl'=>⟨_,rfl,l,_,_,rfl,rfl,upd_same,by omega,by omega,small (by show 1*_≤1000;omega),fun l2 hl2=>?_⟩⟩
    have u1:=aj hl' (.lst [.int 0])
    rw [rep0]
    have u2:=u1.trans (aj hl2 (.lst ((List.replicate (tbF c).toNat (0:Int)).map V.int)))
    refine ⟨D,l2,_,_,rfl,rfl,SqL.of (u2 _ _ hD14),SqL.of upd_same,_,rfl,?_⟩
    exact bi (fun z=>absurd z (by rw [decide_eq_true rfl];decide)) (fun _=>fin u2)
   refine ⟨_,rfl,zd,_,_,.str z.word,rfl,rfl,SqT.of (g14 _ _ hz),z.at0,rfl,_,rfl,?_⟩
   refine bi (fun c3=>?_) (fun c3=>?_)
   ·have c3':V.str z.word=V.str "in":=of_decide_eq_true c3
    injection c3' with c3'
    have e0:((cover.drop 1).map fun x=>(((bV (tbP c) (tbN c) ss oth (exI (tbP c) (tbN c) (tbF c).toNat ss inp oth ch cover sm i).there.1 z).getD k 0 - (bV (tbP c) (tbN c) ss inp (exI (tbP c) (tbN c) (tbF c).toNat ss inp oth ch cover sm i).here.1 z).getD k 0)*x)%tbP c)=(cover.drop 1).map fun x=>((twos.getD i 0 - ones.getD i 0)*x)%tbP c:=by
     cases z with
     | ein h1 =>
      have k0:k=0:=by have:k<1:=hk;omega
      subst k0
      show ((cover.drop 1).map fun x=>((inV1 ss oth (exI (tbP c) (tbN c) (tbF c).toNat ss inp oth ch cover sm i).there.1.length h1 - inV1 ss inp (exI (tbP c) (tbN c) (tbF c).toNat ss inp oth ch cover sm i).here.1.length h1)*x)%tbP c)=_
      rw [(elen i).1,(elen i).2,pin1 hzs,pin2 hzs]
     | _=>exact absurd c3' (by simp only [Stp.word];decide +kernel)
    rw [e0] at hD14
    have ai1:=cg (fd:=ones) (a:=(i:Int)) (by omega) (by omega)
    have ai2:=cg (fd:=twos) (a:=(i:Int)) (by omega) (by omega)
    rw [Int.toNat_natCast] at ai1 ai2
    refine ⟨_,rfl,_,rfl,((1:Nat):Int),rfl,ro,_,rfl,SqL.of (g14 _ _ hro),fun o1 ho1=>?_⟩
    rw [fO,← List.map_drop]
    have s15:=aj ho1 (.lst ((cover.drop 1).map V.int))
    have k1:(upd H14 o1 (.lst ((cover.drop 1).map V.int))) o1=some (.lst ((cover.drop 1).map V.int)):=upd_same
    generalize upd H14 o1 (.lst ((cover.drop 1).map V.int))=H15 at s15 k1
    have g15:=g14.trans s15
    refine ⟨o1,rfl,⟨_,SqL.of k1⟩,fun D2 hD2=>?_⟩
    refine bv (K:=K) (a:=o1) (xs:=(cover.drop 1).map V.int) (fun j ys H16=>ys=(((cover.drop 1).take j).map fun x=>((twos.getD i 0 - ones.getD i 0)*x)%tbP c).map V.int∧Same H15 H16) ⟨rfl,am (Same.refl _) hD2⟩ ?_ ?_ ?_
    ·rintro j ys H16 _ ⟨_,s16⟩
     exact SqL.of (s16 _ _ k1)
    ·rintro j y ys H16 hy ⟨rfl,s16⟩ hD16
     obtain ⟨x,rfl,hx⟩:=aT hy
     have jl:j<(cover.drop 1).length:=(List.getElem?_eq_some_iff.mp hx).1
     rw [List.length_drop] at jl
     have g16:=g15.trans s16
     have xb:=cvb x (List.mem_of_mem_drop (List.mem_of_getElem? hx))
     refine ⟨⟨rfl,rfl⟩,?_⟩
     refine ⟨_,rfl,_,rfl,tw,_,_,_,rfl,rfl,SqL.of (g16 _ _ htw),ai2,_,rfl,_,rfl,on,_,_,_,rfl,rfl,SqL.of (g16 _ _ hon),ai1,_,_,rfl,rfl,_,rfl,_,_,rfl,rfl,.inr ⟨by omega,by omega⟩,_,rfl,_,_,rfl,rfl,by omega,?_⟩
     refine ⟨hD16,au (by rw [List.length_map,List.length_map,List.length_take];omega),?_,am s16 hD2⟩
     rw [List.take_add_one,hx,List.map_append,List.map_append]
     rfl
    ·rintro ys H16 ⟨rfl,s16⟩ hD16
     rw [List.length_map,List.take_length] at hD16
     have u2:=s15.trans s16
     refine ⟨D,D2,_,_,rfl,rfl,SqL.of (u2 _ _ hD14),SqL.of hD16,_,rfl,?_⟩
     exact bi (fun z=>absurd z (by rw [decide_eq_true rfl];decide)) (fun _=>fin u2)
   rw [p7] at hD14
   refine ⟨_,rfl,_,rfl,_,rfl,⟨ro,D,tbP c,_,cover,rfl,by omega,g14 _ _ hro,by omega,hD14,⟨Int.emod_nonneg _ (by omega),Int.emod_lt_of_pos _ (by omega)⟩,fun H15 s15=>⟨_,rfl,?_⟩⟩⟩
   exact bi (fun z=>absurd z (by decide)) (fun _=>fin s15)
  ·rintro σ H' ⟨s',v16,v17,rfl⟩
   rw [List.length_map,← un]
   exact ⟨g12.trans s',_,_,_,_,rfl⟩
 rintro σ H' ⟨s',v14,v15,v16,v17,rfl⟩
 refine hu _ _ ?_
 refine ⟨_,(ah (aA eV)),?_⟩
 exact q _
end
def FA (K:PySem.W.Frag) (f:Addr) (x q:Str) (st:Stmt):Prop:=∃ fd,Fun K x q st f fd
theorem aO {K:PySem.W.Frag}{mg:Str→Option Value}{x q:Str}{st:Stmt}{ps:List Str}{f:Addr} (h:FA K f x q st) (b:∀ (kV doc pm:Value) (an:Option Addr) (cdv ct:Value) (us:List Value),us.length=ps.length→bindArgs (fnOf x q (nJ st) (ip st) (ao st) .none kV doc pm an cdv ct) ⟨us,[]⟩=pure (ps.zip us)) (m:mg x=some (.ref f)):Src K mg x q st ps:=let ⟨_,F⟩:=h;⟨f,_,F,F.binds b,m⟩
theorem qP {K:PySem.W.Frag}{f:Addr}{fd:FuncData} (F:Fun K "law" "law" s_law f fd) (s:Shared) (v:Value):BindsTo s fd ⟨[v],[]⟩ [("script",v)]:=by
 obtain ⟨_,_,_,_,_,_,_,_,_,rfl,_,_⟩:=F.ex
 exact .of_eq rfl
theorem all_mk {l:PySem.W.OpenLaw}{w:World}{K:PySem.W.Frag}{h:Heap}{mg:Str→Option Value}{fa C CC pa f1 f2 f3 f4 f5 f6 f7 f8 f9 f10 f11 f12 f13 f14 f15 f16 f17 f18 f19 f20 f21 f22 f23 f24 f25 f26 f27 f28 f29 f30 f31 f32 f33 f34 f35 f36 f37 f38 f39 f40 f41 f42 f43 f44 f45 f46 f47 f48 f49 f50 f51 f52 f53 f54 f55 f56 f57 f58 f59 f60 f61 f62 f63 f64 f65:Addr} (X:K.In h) (G:h.Ns mainGlobals mg) (hfa:mg "law"=some (.ref fa))
  {fF tu1 tu2 tu3 tu4 tu5 tu6 tu7 tu8:Addr}{tkM tk1 tk2 tk3 tk4 tk5 tk6 tk7 tk8:Tok}{dt1:Option Addr}{it1:Array Value}{nt1:Nat}{st1:Array (Option Value)}{dt2:Option Addr}{it2:Array Value}{nt2:Nat}{st2:Array (Option Value)}{dt3:Option Addr}{it3:Array Value}{nt3:Nat}{st3:Array (Option Value)}{dt4:Option Addr}{it4:Array Value}{nt4:Nat}{st4:Array (Option Value)}{dt5:Option Addr}{it5:Array Value}{nt5:Nat}{st5:Array (Option Value)}{dt6:Option Addr}{it6:Array Value}{nt6:Nat}{st6:Array (Option Value)}{dt7:Option Addr}{it7:Array Value}{nt7:Nat}{st7:Array (Option Value)}{dt8:Option Addr}{it8:Array Value}{nt8:Nat}{st8:Array (Option Value)}
  {N_VeilError c_VeilError:Addr}{nm_VeilError q_VeilError:Str}{bs_VeilError bm_VeilError sub_VeilError:List Value}{hd_VeilError ab_VeilError:Bool}{sn_VeilError:List Str}{col_VeilError:Option Bool}{dd_VeilError:Option Addr}{k0_VeilError k1_VeilError k2_VeilError k3_VeilError k5_VeilError:Option Value}
  {N_BadTable c_BadTable:Addr}{nm_BadTable q_BadTable:Str}{bs_BadTable bm_BadTable sub_BadTable:List Value}{hd_BadTable ab_BadTable:Bool}{sn_BadTable:List Str}{col_BadTable:Option Bool}{dd_BadTable:Option Addr}{k0_BadTable k1_BadTable k2_BadTable k3_BadTable k5_BadTable:Option Value}
  {N_Nought c_Nought:Addr}{nm_Nought q_Nought:Str}{bs_Nought bm_Nought sub_Nought:List Value}{hd_Nought ab_Nought:Bool}{sn_Nought:List Str}{col_Nought:Option Bool}{dd_Nought:Option Addr}{k0_Nought k1_Nought k2_Nought k3_Nought k5_Nought:Option Value}
  {N_AlikePoints c_AlikePoints:Addr}{nm_AlikePoints q_AlikePoints:Str}{bs_AlikePoints bm_AlikePoints sub_AlikePoints:List Value}{hd_AlikePoints ab_AlikePoints:Bool}{sn_AlikePoints:List Str}{col_AlikePoints:Option Bool}{dd_AlikePoints:Option Addr}{k0_AlikePoints k1_AlikePoints k2_AlikePoints k3_AlikePoints k5_AlikePoints:Option Value}
  {N_BadSteps c_BadSteps:Addr}{nm_BadSteps q_BadSteps:Str}{bs_BadSteps bm_BadSteps sub_BadSteps:List Value}{hd_BadSteps ab_BadSteps:Bool}{sn_BadSteps:List Str}{col_BadSteps:Option Bool}{dd_BadSteps:Option Addr}{k0_BadSteps k1_BadSteps k2_BadSteps k3_BadSteps k5_BadSteps:Option Value}
  {N_BadInputs c_BadInputs:Addr}{nm_BadInputs q_BadInputs:Str}{bs_BadInputs bm_BadInputs sub_BadInputs:List Value}{hd_BadInputs ab_BadInputs:Bool}{sn_BadInputs:List Str}{col_BadInputs:Option Bool}{dd_BadInputs:Option Addr}{k0_BadInputs k1_BadInputs k2_BadInputs k3_BadInputs k5_BadInputs:Option Value}
  {N_BadChance c_BadChance:Addr}{nm_BadChance q_BadChance:Str}{bs_BadChance bm_BadChance sub_BadChance:List Value}{hd_BadChance ab_BadChance:Bool}{sn_BadChance:List Str}{col_BadChance:Option Bool}{dd_BadChance:Option Addr}{k0_BadChance k1_BadChance k2_BadChance k3_BadChance k5_BadChance:Option Value}
  {N_BadHands c_BadHands:Addr}{nm_BadHands q_BadHands:Str}{bs_BadHands bm_BadHands sub_BadHands:List Value}{hd_BadHands ab_BadHands:Bool}{sn_BadHands:List Str}{col_BadHands:Option Bool}{dd_BadHands:Option Addr}{k0_BadHands k1_BadHands k2_BadHands k3_BadHands k5_BadHands:Option Value}
  {N_NoVeil c_NoVeil:Addr}{nm_NoVeil q_NoVeil:Str}{bs_NoVeil bm_NoVeil sub_NoVeil:List Value}{hd_NoVeil ab_NoVeil:Bool}{sn_NoVeil:List Str}{col_NoVeil:Option Bool}{dd_NoVeil:Option Addr}{k0_NoVeil k1_NoVeil k2_NoVeil k3_NoVeil k5_NoVeil:Option Value}
  {ddp:Option Addr}{its:Array Value}{np:Nat}{slp:Array (Option Value)}
  (a1:nsIn K mainGlobals "_wall"=some (some (.ref f1)))
  (h1:FA K f1 "_wall" "_wall" s_wall)
  (a2:nsIn K mainGlobals "is_table"=some (some (.ref f2)))
  (h2:FA K f2 "is_table" "is_table" fG)
  (a3:nsIn K mainGlobals "back"=some (some (.ref f3)))
  (h3:FA K f3 "back" "back" nV)
  (a4:nsIn K mainGlobals "worth"=some (some (.ref f4)))
  (h4:FA K f4 "worth" "worth" ku)
  (a5:nsIn K mainGlobals "refuse_alike"=some (some (.ref f5)))
  (h5:FA K f5 "refuse_alike" "refuse_alike" cJ)
  (a6:nsIn K mainGlobals "with_nought_at"=some (some (.ref f6)))
  (h6:FA K f6 "with_nought_at" "with_nought_at" bY)
  (a7:nsIn K mainGlobals "through"=some (some (.ref f7)))
  (h7:FA K f7 "through" "through" gy)
  (a8:nsIn K mainGlobals "weight"=some (some (.ref f8)))
  (h8:FA K f8 "weight" "weight" iP)
  (a9:nsIn K mainGlobals "weights"=some (some (.ref f9)))
  (h9:FA K f9 "weights" "weights" gw)
  (a10:nsIn K mainGlobals "dealt"=some (some (.ref f10)))
  (h10:FA K f10 "dealt" "dealt" kA)
  (a11:nsIn K mainGlobals "is_number"=some (some (.ref f11)))
  (h11:FA K f11 "is_number" "is_number" eC)
  (a12:nsIn K mainGlobals "are_numbers"=some (some (.ref f12)))
  (h12:FA K f12 "are_numbers" "are_numbers" dg)
  (a13:nsIn K mainGlobals "fits"=some (some (.ref f13)))
  (h13:FA K f13 "fits" "fits" nU)
  (a14:nsIn K mainGlobals "is_right_step"=some (some (.ref f14)))
  (h14:FA K f14 "is_right_step" "is_right_step" cx)
  (a15:nsIn K mainGlobals "right"=some (some (.ref f15)))
  (h15:FA K f15 "right" "right" kx)
  (a16:nsIn K mainGlobals "refuse_steps"=some (some (.ref f16)))
  (h16:FA K f16 "refuse_steps" "refuse_steps" cF)
  (a17:nsIn K mainGlobals "all_hands"=some (some (.ref f17)))
  (h17:FA K f17 "all_hands" "all_hands" eF)
  (a18:nsIn K mainGlobals "dealers"=some (some (.ref f18)))
  (h18:FA K f18 "dealers" "dealers" gA)
  (a19:nsIn K mainGlobals "needs"=some (some (.ref f19)))
  (h19:FA K f19 "needs" "needs" kz)
  (a20:nsIn K mainGlobals "uses"=some (some (.ref f20)))
  (h20:FA K f20 "uses" "uses" nR)
  (a21:nsIn K mainGlobals "are_inputs"=some (some (.ref f21)))
  (h21:FA K f21 "are_inputs" "are_inputs" dB)
  (a22:nsIn K mainGlobals "refuse_inputs"=some (some (.ref f22)))
  (h22:FA K f22 "refuse_inputs" "refuse_inputs" cq)
  (a23:nsIn K mainGlobals "input_at"=some (some (.ref f23)))
  (h23:FA K f23 "input_at" "input_at" fH)
  (a24:nsIn K mainGlobals "reckoned"=some (some (.ref f24)))
  (h24:FA K f24 "reckoned" "reckoned" fC)
  (a25:nsIn K mainGlobals "plain"=some (some (.ref f25)))
  (h25:FA K f25 "plain" "plain" ky)
  (a26:nsIn K mainGlobals "refuse_chance"=some (some (.ref f26)))
  (h26:FA K f26 "refuse_chance" "refuse_chance" cr)
  (a27:nsIn K mainGlobals "refuse_run"=some (some (.ref f27)))
  (h27:FA K f27 "refuse_run" "refuse_run" dz)
  (a28:nsIn K mainGlobals "chance_by_step"=some (some (.ref f28)))
  (h28:FA K f28 "chance_by_step" "chance_by_step" b7)
  (a29:nsIn K mainGlobals "weighed"=some (some (.ref f29)))
  (h29:FA K f29 "weighed" "weighed" gx)
  (a30:nsIn K mainGlobals "letters_of"=some (some (.ref f30)))
  (h30:FA K f30 "letters_of" "letters_of" dA)
  (a31:nsIn K mainGlobals "are_rising_hands"=some (some (.ref f31)))
  (h31:FA K f31 "are_rising_hands" "are_rising_hands" bM)
  (a32:nsIn K mainGlobals "refuse_hands"=some (some (.ref f32)))
  (h32:FA K f32 "refuse_hands" "refuse_hands" cG)
  (a33:nsIn K mainGlobals "inputs_used"=some (some (.ref f33)))
  (h33:FA K f33 "inputs_used" "inputs_used" df)
  (a34:nsIn K mainGlobals "veil"=some (some (.ref f34)))
  (h34:FA K f34 "veil" "veil" nQ)
  (a35:nsIn K mainGlobals "numbers_opened"=some (some (.ref f35)))
  (h35:FA K f35 "numbers_opened" "numbers_opened" bZ)
  (a36:nsIn K mainGlobals "agree"=some (some (.ref f36)))
  (h36:FA K f36 "agree" "agree" kB)
  (a37:nsIn K mainGlobals "veiled"=some (some (.ref f37)))
  (h37:FA K f37 "veiled" "veiled" iQ)
  (a38:nsIn K mainGlobals "exchanged_rows"=some (some (.ref f38)))
  (h38:FA K f38 "exchanged_rows" "exchanged_rows" b6)
  (a39:nsIn K mainGlobals "exchanged"=some (some (.ref f39)))
  (h39:FA K f39 "exchanged" "exchanged" eE)
  (a40:nsIn K mainGlobals "_law_cell_at"=some (some (.ref f40)))
  (h40:FA K f40 "_law_cell_at" "_law_cell_at" de)
  (a41:nsIn K mainGlobals "_law_mix"=some (some (.ref f41)))
  (h41:FA K f41 "_law_mix" "_law_mix" gz)
  (a42:nsIn K mainGlobals "_law_table_by"=some (some (.ref f42)))
  (h42:FA K f42 "_law_table_by" "_law_table_by" cK)
  (a43:nsIn K mainGlobals "_law_step_by"=some (some (.ref f43)))
  (h43:FA K f43 "_law_step_by" "_law_step_by" c8)
  (a44:nsIn K mainGlobals "_law_steps_by"=some (some (.ref f44)))
  (h44:FA K f44 "_law_steps_by" "_law_steps_by" cL)
  (a45:nsIn K mainGlobals "_law_used"=some (some (.ref f45)))
  (h45:FA K f45 "_law_used" "_law_used" fE)
  (a46:nsIn K mainGlobals "_law_inputs_by"=some (some (.ref f46)))
  (h46:FA K f46 "_law_inputs_by" "_law_inputs_by" cv)
  (a47:nsIn K mainGlobals "_law_needs"=some (some (.ref f47)))
  (h47:FA K f47 "_law_needs" "_law_needs" eu)
  (a48:nsIn K mainGlobals "_law_plain"=some (some (.ref f48)))
  (h48:FA K f48 "_law_plain" "_law_plain" ee)
  (a49:nsIn K mainGlobals "_law_quiet"=some (some (.ref f49)))
  (h49:FA K f49 "_law_quiet" "_law_quiet" dZ)
  (a50:nsIn K mainGlobals "_law_some_by"=some (some (.ref f50)))
  (h50:FA K f50 "_law_some_by" "_law_some_by" c9)
  (a51:nsIn K mainGlobals "_law_pair_by"=some (some (.ref f51)))
  (h51:FA K f51 "_law_pair_by" "_law_pair_by" dc)
  (a52:nsIn K mainGlobals "_law_agree"=some (some (.ref f52)))
  (h52:FA K f52 "_law_agree" "_law_agree" eB)
  (a53:nsIn K mainGlobals "_law_chance_by"=some (some (.ref f53)))
  (h53:FA K f53 "_law_chance_by" "_law_chance_by" cw)
  (a54:nsIn K mainGlobals "_law_veil"=some (some (.ref f54)))
  (h54:FA K f54 "_law_veil" "_law_veil" fD)
  (a55:nsIn K mainGlobals "_law_hands"=some (some (.ref f55)))
  (h55:FA K f55 "_law_hands" "_law_hands" eA)
  (a56:nsIn K mainGlobals "_law_times"=some (some (.ref f56)))
  (h56:FA K f56 "_law_times" "_law_times" dY)
  (a57:nsIn K mainGlobals "law"=some (some (.ref f57)))
  (h57:FA K f57 "law" "law" s_law)
  (aC:nsIn K mainGlobals "Table"=some (some (.ref C)))
  (a58:findIn K (.ref C) "__init__"=some (some (.ref f58))) (i58:isFn K (.ref f58)=true)
  (h58:FA K f58 "__init__" "Table.__init__" fg)
  (aCC:nsIn K mainGlobals "Course"=some (some (.ref CC)))
  (a59:findIn K (.ref CC) "__init__"=some (some (.ref f59))) (i59:isFn K (.ref f59)=true)
  (h59:FA K f59 "__init__" "Course.__init__" eG)
  (a60:findIn K (.ref CC) "coming_step"=some (some (.ref f60))) (i60:isFn K (.ref f60)=true)
  (h60:FA K f60 "coming_step" "Course.coming_step" bU)
  (a61:findIn K (.ref CC) "own_shares"=some (some (.ref f61))) (i61:isFn K (.ref f61)=true)
  (h61:FA K f61 "own_shares" "Course.own_shares" b9)
  (a62:findIn K (.ref CC) "numbers_to_deal"=some (some (.ref f62))) (i62:isFn K (.ref f62)=true)
  (h62:FA K f62 "numbers_to_deal" "Course.numbers_to_deal" bC)
  (a63:findIn K (.ref CC) "new_share"=some (some (.ref f63))) (i63:isFn K (.ref f63)=true)
  (h63:FA K f63 "new_share" "Course.new_share" cy)
  (a64:findIn K (.ref CC) "send_letters"=some (some (.ref f64))) (i64:isFn K (.ref f64)=true)
  (h64:FA K f64 "send_letters" "Course.send_letters" bO)
  (a65:findIn K (.ref CC) "go_on"=some (some (.ref f65))) (i65:isFn K (.ref f65)=true)
  (h65:FA K f65 "go_on" "Course.go_on" dH)
  (pg:PySem.W.plainGet K C Str.empty=true) (hd:PySem.W.hasDictIn K C=true) (po:PySem.W.plainOver K C=true) (sa:findIn K (.ref C) "__setattr__"=some (some (.builtin "object.__setattr__"))) (mk:PySem.W.makesIn K C=true) (kc:keepIn K (.ref C)=true)
  (nP:findIn K (.ref C) "prime"=some none) (nH:findIn K (.ref C) "hands"=some none) (nF:findIn K (.ref C) "few"=some none)
  (ap:nsIn K mainGlobals "PRIMES"=some (some (.ref pa))) (lp:K.lookup pa=some ⟨.type "tuple",ddp,.seq its np,slp⟩) (vp:Vals (primes9.map V.int) its.toList)
  (cpg:PySem.W.plainGet K CC Str.empty=true) (chd:PySem.W.hasDictIn K CC=true) (cpo:PySem.W.plainOver K CC=true) (csa:findIn K (.ref CC) "__setattr__"=some (some (.builtin "object.__setattr__"))) (cmk:PySem.W.makesIn K CC=true) (ckc:keepIn K (.ref CC)=true)
  (cn_table:findIn K (.ref CC) "table"=some none)
  (cn_steps:findIn K (.ref CC) "steps"=some none)
  (cn_inputs:findIn K (.ref CC) "inputs"=some none)
  (cn_parts:findIn K (.ref CC) "parts"=some none)
  (cn_shares:findIn K (.ref CC) "shares"=some none)
  (cn_letters:findIn K (.ref CC) "letters"=some none)
  (aF:nsIn K mainGlobals "FORMS"=some (some (.ref fF))) (lF:K.lookup fF=some { cls:=.type "dict",data:=.dict #[{ hash:=PyData.keyHash w.params (Str.ofString "in"),key:=.str (Str.ofString "in") tk1,val:=.ref tu1 },{ hash:=PyData.keyHash w.params (Str.ofString "fix"),key:=.str (Str.ofString "fix") tk2,val:=.ref tu2 },{ hash:=PyData.keyHash w.params (Str.ofString "sum"),key:=.str (Str.ofString "sum") tk3,val:=.ref tu3 },{ hash:=PyData.keyHash w.params (Str.ofString "less"),key:=.str (Str.ofString "less") tk4,val:=.ref tu4 },{ hash:=PyData.keyHash w.params (Str.ofString "by"),key:=.str (Str.ofString "by") tk5,val:=.ref tu5 },{ hash:=PyData.keyHash w.params (Str.ofString "mul"),key:=.str (Str.ofString "mul") tk6,val:=.ref tu6 },{ hash:=PyData.keyHash w.params (Str.ofString "anew"),key:=.str (Str.ofString "anew") tk7,val:=.ref tu7 },{ hash:=PyData.keyHash w.params (Str.ofString "open"),key:=.str (Str.ofString "open") tk8,val:=.ref tu8 }] 8 }) (sF:(fF == sysModules)=false)
  (lt1:K.lookup tu1=some ⟨.type "tuple",dt1,.seq it1 nt1,st1⟩) (vt1:Vals [V.str "hand"] it1.toList)
  (lt2:K.lookup tu2=some ⟨.type "tuple",dt2,.seq it2 nt2,st2⟩) (vt2:Vals [V.str "number"] it2.toList)
  (lt3:K.lookup tu3=some ⟨.type "tuple",dt3,.seq it3 nt3,st3⟩) (vt3:Vals [V.str "step",V.str "step"] it3.toList)
  (lt4:K.lookup tu4=some ⟨.type "tuple",dt4,.seq it4 nt4,st4⟩) (vt4:Vals [V.str "step",V.str "step"] it4.toList)
  (lt5:K.lookup tu5=some ⟨.type "tuple",dt5,.seq it5 nt5,st5⟩) (vt5:Vals [V.str "step",V.str "number"] it5.toList)
  (lt6:K.lookup tu6=some ⟨.type "tuple",dt6,.seq it6 nt6,st6⟩) (vt6:Vals [V.str "step",V.str "step"] it6.toList)
  (lt7:K.lookup tu7=some ⟨.type "tuple",dt7,.seq it7 nt7,st7⟩) (vt7:Vals [V.str "step"] it7.toList)
  (lt8:K.lookup tu8=some ⟨.type "tuple",dt8,.seq it8 nt8,st8⟩) (vt8:Vals [V.str "step"] it8.toList)
  (aM:nsIn K mainGlobals "MOST_STEPS"=some (some (.int 24 tkM)))
  (x_VeilError:nsIn K mainGlobals "VeilError"=some (some (.ref c_VeilError))) (o_VeilError:K.lookup c_VeilError=some (PySem.excClassObj nm_VeilError q_VeilError c_VeilError N_VeilError bs_VeilError bm_VeilError hd_VeilError sn_VeilError sub_VeilError ab_VeilError col_VeilError dd_VeilError k0_VeilError k1_VeilError k2_VeilError k3_VeilError k5_VeilError "ValueError.__new__"))
  (e_VeilError:excIn K c_VeilError pX "ValueError.__new__"=true)
  (x_BadTable:nsIn K mainGlobals "BadTable"=some (some (.ref c_BadTable))) (o_BadTable:K.lookup c_BadTable=some (PySem.excClassObj nm_BadTable q_BadTable c_BadTable N_BadTable bs_BadTable bm_BadTable hd_BadTable sn_BadTable sub_BadTable ab_BadTable col_BadTable dd_BadTable k0_BadTable k1_BadTable k2_BadTable k3_BadTable k5_BadTable "ValueError.__new__"))
  (e_BadTable:excIn K c_BadTable pX "ValueError.__new__"=true)
  (x_Nought:nsIn K mainGlobals "Nought"=some (some (.ref c_Nought))) (o_Nought:K.lookup c_Nought=some (PySem.excClassObj nm_Nought q_Nought c_Nought N_Nought bs_Nought bm_Nought hd_Nought sn_Nought sub_Nought ab_Nought col_Nought dd_Nought k0_Nought k1_Nought k2_Nought k3_Nought k5_Nought "ValueError.__new__"))
  (e_Nought:excIn K c_Nought pX "ValueError.__new__"=true)
  (x_AlikePoints:nsIn K mainGlobals "AlikePoints"=some (some (.ref c_AlikePoints))) (o_AlikePoints:K.lookup c_AlikePoints=some (PySem.excClassObj nm_AlikePoints q_AlikePoints c_AlikePoints N_AlikePoints bs_AlikePoints bm_AlikePoints hd_AlikePoints sn_AlikePoints sub_AlikePoints ab_AlikePoints col_AlikePoints dd_AlikePoints k0_AlikePoints k1_AlikePoints k2_AlikePoints k3_AlikePoints k5_AlikePoints "ValueError.__new__"))
  (e_AlikePoints:excIn K c_AlikePoints pX "ValueError.__new__"=true)
  (x_BadSteps:nsIn K mainGlobals "BadSteps"=some (some (.ref c_BadSteps))) (o_BadSteps:K.lookup c_BadSteps=some (PySem.excClassObj nm_BadSteps q_BadSteps c_BadSteps N_BadSteps bs_BadSteps bm_BadSteps hd_BadSteps sn_BadSteps sub_BadSteps ab_BadSteps col_BadSteps dd_BadSteps k0_BadSteps k1_BadSteps k2_BadSteps k3_BadSteps k5_BadSteps "ValueError.__new__"))
  (e_BadSteps:excIn K c_BadSteps pX "ValueError.__new__"=true)
  (x_BadInputs:nsIn K mainGlobals "BadInputs"=some (some (.ref c_BadInputs))) (o_BadInputs:K.lookup c_BadInputs=some (PySem.excClassObj nm_BadInputs q_BadInputs c_BadInputs N_BadInputs bs_BadInputs bm_BadInputs hd_BadInputs sn_BadInputs sub_BadInputs ab_BadInputs col_BadInputs dd_BadInputs k0_BadInputs k1_BadInputs k2_BadInputs k3_BadInputs k5_BadInputs "ValueError.__new__"))
  (e_BadInputs:excIn K c_BadInputs pX "ValueError.__new__"=true)
  (x_BadChance:nsIn K mainGlobals "BadChance"=some (some (.ref c_BadChance))) (o_BadChance:K.lookup c_BadChance=some (PySem.excClassObj nm_BadChance q_BadChance c_BadChance N_BadChance bs_BadChance bm_BadChance hd_BadChance sn_BadChance sub_BadChance ab_BadChance col_BadChance dd_BadChance k0_BadChance k1_BadChance k2_BadChance k3_BadChance k5_BadChance "ValueError.__new__"))
  (e_BadChance:excIn K c_BadChance pX "ValueError.__new__"=true)
  (x_BadHands:nsIn K mainGlobals "BadHands"=some (some (.ref c_BadHands))) (o_BadHands:K.lookup c_BadHands=some (PySem.excClassObj nm_BadHands q_BadHands c_BadHands N_BadHands bs_BadHands bm_BadHands hd_BadHands sn_BadHands sub_BadHands ab_BadHands col_BadHands dd_BadHands k0_BadHands k1_BadHands k2_BadHands k3_BadHands k5_BadHands "ValueError.__new__"))
  (e_BadHands:excIn K c_BadHands pX "ValueError.__new__"=true)
  (x_NoVeil:nsIn K mainGlobals "NoVeil"=some (some (.ref c_NoVeil))) (o_NoVeil:K.lookup c_NoVeil=some (PySem.excClassObj nm_NoVeil q_NoVeil c_NoVeil N_NoVeil bs_NoVeil bm_NoVeil hd_NoVeil sn_NoVeil sub_NoVeil ab_NoVeil col_NoVeil dd_NoVeil k0_NoVeil k1_NoVeil k2_NoVeil k3_NoVeil k5_NoVeil "ValueError.__new__"))
  (e_NoVeil:excIn K c_NoVeil pX "ValueError.__new__"=true)
  (in_VeilError_VeilError:(Value.ref c_VeilError::bm_VeilError).contains (.ref c_VeilError)=true)
  (kt_VeilError_VeilError:kitOne K (.ref c_VeilError) (.ref c_VeilError)=some true)
  (in_VeilError_BadTable:(Value.ref c_VeilError::bm_VeilError).contains (.ref c_BadTable)=false)
  (in_VeilError_Nought:(Value.ref c_VeilError::bm_VeilError).contains (.ref c_Nought)=false)
  (in_VeilError_AlikePoints:(Value.ref c_VeilError::bm_VeilError).contains (.ref c_AlikePoints)=false)
  (in_VeilError_BadSteps:(Value.ref c_VeilError::bm_VeilError).contains (.ref c_BadSteps)=false)
  (in_VeilError_BadInputs:(Value.ref c_VeilError::bm_VeilError).contains (.ref c_BadInputs)=false)
  (in_VeilError_BadChance:(Value.ref c_VeilError::bm_VeilError).contains (.ref c_BadChance)=false)
  (in_VeilError_BadHands:(Value.ref c_VeilError::bm_VeilError).contains (.ref c_BadHands)=false)
  (in_VeilError_NoVeil:(Value.ref c_VeilError::bm_VeilError).contains (.ref c_NoVeil)=false)
  (ec_VeilError:jK K c_VeilError)
  (kn_VeilError_BadTable:kitOne K (.ref c_VeilError) (.ref c_BadTable)=some false)
  (kn_VeilError_Nought:kitOne K (.ref c_VeilError) (.ref c_Nought)=some false)
  (kn_VeilError_AlikePoints:kitOne K (.ref c_VeilError) (.ref c_AlikePoints)=some false)
  (kn_VeilError_BadSteps:kitOne K (.ref c_VeilError) (.ref c_BadSteps)=some false)
  (kn_VeilError_BadInputs:kitOne K (.ref c_VeilError) (.ref c_BadInputs)=some false)
  (kn_VeilError_BadChance:kitOne K (.ref c_VeilError) (.ref c_BadChance)=some false)
  (kn_VeilError_BadHands:kitOne K (.ref c_VeilError) (.ref c_BadHands)=some false)
  (kn_VeilError_NoVeil:kitOne K (.ref c_VeilError) (.ref c_NoVeil)=some false)
  (kv_VeilError:kitOne K (.ref c_VeilError) (.type "ValueError")=some true)
  (in_BadTable_VeilError:(Value.ref c_BadTable::bm_BadTable).contains (.ref c_VeilError)=true)
  (kt_BadTable_VeilError:kitOne K (.ref c_BadTable) (.ref c_VeilError)=some true)
  (in_BadTable_BadTable:(Value.ref c_BadTable::bm_BadTable).contains (.ref c_BadTable)=true)
  (kt_BadTable_BadTable:kitOne K (.ref c_BadTable) (.ref c_BadTable)=some true)
  (in_BadTable_Nought:(Value.ref c_BadTable::bm_BadTable).contains (.ref c_Nought)=false)
  (in_BadTable_AlikePoints:(Value.ref c_BadTable::bm_BadTable).contains (.ref c_AlikePoints)=false)
  (in_BadTable_BadSteps:(Value.ref c_BadTable::bm_BadTable).contains (.ref c_BadSteps)=false)
  (in_BadTable_BadInputs:(Value.ref c_BadTable::bm_BadTable).contains (.ref c_BadInputs)=false)
  (in_BadTable_BadChance:(Value.ref c_BadTable::bm_BadTable).contains (.ref c_BadChance)=false)
  (in_BadTable_BadHands:(Value.ref c_BadTable::bm_BadTable).contains (.ref c_BadHands)=false)
  (in_BadTable_NoVeil:(Value.ref c_BadTable::bm_BadTable).contains (.ref c_NoVeil)=false)
  (ec_BadTable:jK K c_BadTable)
  (kn_BadTable_Nought:kitOne K (.ref c_BadTable) (.ref c_Nought)=some false)
  (kn_BadTable_AlikePoints:kitOne K (.ref c_BadTable) (.ref c_AlikePoints)=some false)
  (kn_BadTable_BadSteps:kitOne K (.ref c_BadTable) (.ref c_BadSteps)=some false)
  (kn_BadTable_BadInputs:kitOne K (.ref c_BadTable) (.ref c_BadInputs)=some false)
  (kn_BadTable_BadChance:kitOne K (.ref c_BadTable) (.ref c_BadChance)=some false)
  (kn_BadTable_BadHands:kitOne K (.ref c_BadTable) (.ref c_BadHands)=some false)
  (kn_BadTable_NoVeil:kitOne K (.ref c_BadTable) (.ref c_NoVeil)=some false)
  (kv_BadTable:kitOne K (.ref c_BadTable) (.type "ValueError")=some true)
  (in_Nought_VeilError:(Value.ref c_Nought::bm_Nought).contains (.ref c_VeilError)=true)
  (kt_Nought_VeilError:kitOne K (.ref c_Nought) (.ref c_VeilError)=some true)
  (in_Nought_BadTable:(Value.ref c_Nought::bm_Nought).contains (.ref c_BadTable)=false)
  (in_Nought_Nought:(Value.ref c_Nought::bm_Nought).contains (.ref c_Nought)=true)
  (kt_Nought_Nought:kitOne K (.ref c_Nought) (.ref c_Nought)=some true)
  (in_Nought_AlikePoints:(Value.ref c_Nought::bm_Nought).contains (.ref c_AlikePoints)=false)
  (in_Nought_BadSteps:(Value.ref c_Nought::bm_Nought).contains (.ref c_BadSteps)=false)
  (in_Nought_BadInputs:(Value.ref c_Nought::bm_Nought).contains (.ref c_BadInputs)=false)
  (in_Nought_BadChance:(Value.ref c_Nought::bm_Nought).contains (.ref c_BadChance)=false)
  (in_Nought_BadHands:(Value.ref c_Nought::bm_Nought).contains (.ref c_BadHands)=false)
  (in_Nought_NoVeil:(Value.ref c_Nought::bm_Nought).contains (.ref c_NoVeil)=false)
  (ec_Nought:jK K c_Nought)
  (kn_Nought_BadTable:kitOne K (.ref c_Nought) (.ref c_BadTable)=some false)
  (kn_Nought_AlikePoints:kitOne K (.ref c_Nought) (.ref c_AlikePoints)=some false)
  (kn_Nought_BadSteps:kitOne K (.ref c_Nought) (.ref c_BadSteps)=some false)
  (kn_Nought_BadInputs:kitOne K (.ref c_Nought) (.ref c_BadInputs)=some false)
  (kn_Nought_BadChance:kitOne K (.ref c_Nought) (.ref c_BadChance)=some false)
  (kn_Nought_BadHands:kitOne K (.ref c_Nought) (.ref c_BadHands)=some false)
  (kn_Nought_NoVeil:kitOne K (.ref c_Nought) (.ref c_NoVeil)=some false)
  (kv_Nought:kitOne K (.ref c_Nought) (.type "ValueError")=some true)
  (in_AlikePoints_VeilError:(Value.ref c_AlikePoints::bm_AlikePoints).contains (.ref c_VeilError)=true)
  (kt_AlikePoints_VeilError:kitOne K (.ref c_AlikePoints) (.ref c_VeilError)=some true)
  (in_AlikePoints_BadTable:(Value.ref c_AlikePoints::bm_AlikePoints).contains (.ref c_BadTable)=false)
  (in_AlikePoints_Nought:(Value.ref c_AlikePoints::bm_AlikePoints).contains (.ref c_Nought)=false)
  (in_AlikePoints_AlikePoints:(Value.ref c_AlikePoints::bm_AlikePoints).contains (.ref c_AlikePoints)=true)
  (kt_AlikePoints_AlikePoints:kitOne K (.ref c_AlikePoints) (.ref c_AlikePoints)=some true)
  (in_AlikePoints_BadSteps:(Value.ref c_AlikePoints::bm_AlikePoints).contains (.ref c_BadSteps)=false)
  (in_AlikePoints_BadInputs:(Value.ref c_AlikePoints::bm_AlikePoints).contains (.ref c_BadInputs)=false)
  (in_AlikePoints_BadChance:(Value.ref c_AlikePoints::bm_AlikePoints).contains (.ref c_BadChance)=false)
  (in_AlikePoints_BadHands:(Value.ref c_AlikePoints::bm_AlikePoints).contains (.ref c_BadHands)=false)
  (in_AlikePoints_NoVeil:(Value.ref c_AlikePoints::bm_AlikePoints).contains (.ref c_NoVeil)=false)
  (ec_AlikePoints:jK K c_AlikePoints)
  (kn_AlikePoints_BadTable:kitOne K (.ref c_AlikePoints) (.ref c_BadTable)=some false)
  (kn_AlikePoints_Nought:kitOne K (.ref c_AlikePoints) (.ref c_Nought)=some false)
  (kn_AlikePoints_BadSteps:kitOne K (.ref c_AlikePoints) (.ref c_BadSteps)=some false)
  (kn_AlikePoints_BadInputs:kitOne K (.ref c_AlikePoints) (.ref c_BadInputs)=some false)
  (kn_AlikePoints_BadChance:kitOne K (.ref c_AlikePoints) (.ref c_BadChance)=some false)
  (kn_AlikePoints_BadHands:kitOne K (.ref c_AlikePoints) (.ref c_BadHands)=some false)
  (kn_AlikePoints_NoVeil:kitOne K (.ref c_AlikePoints) (.ref c_NoVeil)=some false)
  (kv_AlikePoints:kitOne K (.ref c_AlikePoints) (.type "ValueError")=some true)
  (in_BadSteps_VeilError:(Value.ref c_BadSteps::bm_BadSteps).contains (.ref c_VeilError)=true)
  (kt_BadSteps_VeilError:kitOne K (.ref c_BadSteps) (.ref c_VeilError)=some true)
  (in_BadSteps_BadTable:(Value.ref c_BadSteps::bm_BadSteps).contains (.ref c_BadTable)=false)
  (in_BadSteps_Nought:(Value.ref c_BadSteps::bm_BadSteps).contains (.ref c_Nought)=false)
  (in_BadSteps_AlikePoints:(Value.ref c_BadSteps::bm_BadSteps).contains (.ref c_AlikePoints)=false)
  (in_BadSteps_BadSteps:(Value.ref c_BadSteps::bm_BadSteps).contains (.ref c_BadSteps)=true)
  (kt_BadSteps_BadSteps:kitOne K (.ref c_BadSteps) (.ref c_BadSteps)=some true)
  (in_BadSteps_BadInputs:(Value.ref c_BadSteps::bm_BadSteps).contains (.ref c_BadInputs)=false)
  (in_BadSteps_BadChance:(Value.ref c_BadSteps::bm_BadSteps).contains (.ref c_BadChance)=false)
  (in_BadSteps_BadHands:(Value.ref c_BadSteps::bm_BadSteps).contains (.ref c_BadHands)=false)
  (in_BadSteps_NoVeil:(Value.ref c_BadSteps::bm_BadSteps).contains (.ref c_NoVeil)=false)
  (ec_BadSteps:jK K c_BadSteps)
  (kn_BadSteps_BadTable:kitOne K (.ref c_BadSteps) (.ref c_BadTable)=some false)
  (kn_BadSteps_Nought:kitOne K (.ref c_BadSteps) (.ref c_Nought)=some false)
  (kn_BadSteps_AlikePoints:kitOne K (.ref c_BadSteps) (.ref c_AlikePoints)=some false)
  (kn_BadSteps_BadInputs:kitOne K (.ref c_BadSteps) (.ref c_BadInputs)=some false)
  (kn_BadSteps_BadChance:kitOne K (.ref c_BadSteps) (.ref c_BadChance)=some false)
  (kn_BadSteps_BadHands:kitOne K (.ref c_BadSteps) (.ref c_BadHands)=some false)
  (kn_BadSteps_NoVeil:kitOne K (.ref c_BadSteps) (.ref c_NoVeil)=some false)
  (kv_BadSteps:kitOne K (.ref c_BadSteps) (.type "ValueError")=some true)
  (in_BadInputs_VeilError:(Value.ref c_BadInputs::bm_BadInputs).contains (.ref c_VeilError)=true)
  (kt_BadInputs_VeilError:kitOne K (.ref c_BadInputs) (.ref c_VeilError)=some true)
  (in_BadInputs_BadTable:(Value.ref c_BadInputs::bm_BadInputs).contains (.ref c_BadTable)=false)
  (in_BadInputs_Nought:(Value.ref c_BadInputs::bm_BadInputs).contains (.ref c_Nought)=false)
  (in_BadInputs_AlikePoints:(Value.ref c_BadInputs::bm_BadInputs).contains (.ref c_AlikePoints)=false)
  (in_BadInputs_BadSteps:(Value.ref c_BadInputs::bm_BadInputs).contains (.ref c_BadSteps)=false)
  (in_BadInputs_BadInputs:(Value.ref c_BadInputs::bm_BadInputs).contains (.ref c_BadInputs)=true)
  (kt_BadInputs_BadInputs:kitOne K (.ref c_BadInputs) (.ref c_BadInputs)=some true)
  (in_BadInputs_BadChance:(Value.ref c_BadInputs::bm_BadInputs).contains (.ref c_BadChance)=false)
  (in_BadInputs_BadHands:(Value.ref c_BadInputs::bm_BadInputs).contains (.ref c_BadHands)=false)
  (in_BadInputs_NoVeil:(Value.ref c_BadInputs::bm_BadInputs).contains (.ref c_NoVeil)=false)
  (ec_BadInputs:jK K c_BadInputs)
  (kn_BadInputs_BadTable:kitOne K (.ref c_BadInputs) (.ref c_BadTable)=some false)
  (kn_BadInputs_Nought:kitOne K (.ref c_BadInputs) (.ref c_Nought)=some false)
  (kn_BadInputs_AlikePoints:kitOne K (.ref c_BadInputs) (.ref c_AlikePoints)=some false)
  (kn_BadInputs_BadSteps:kitOne K (.ref c_BadInputs) (.ref c_BadSteps)=some false)
  (kn_BadInputs_BadChance:kitOne K (.ref c_BadInputs) (.ref c_BadChance)=some false)
  (kn_BadInputs_BadHands:kitOne K (.ref c_BadInputs) (.ref c_BadHands)=some false)
  (kn_BadInputs_NoVeil:kitOne K (.ref c_BadInputs) (.ref c_NoVeil)=some false)
  (kv_BadInputs:kitOne K (.ref c_BadInputs) (.type "ValueError")=some true)
  (in_BadChance_VeilError:(Value.ref c_BadChance::bm_BadChance).contains (.ref c_VeilError)=true)
  (kt_BadChance_VeilError:kitOne K (.ref c_BadChance) (.ref c_VeilError)=some true)
  (in_BadChance_BadTable:(Value.ref c_BadChance::bm_BadChance).contains (.ref c_BadTable)=false)
  (in_BadChance_Nought:(Value.ref c_BadChance::bm_BadChance).contains (.ref c_Nought)=false)
  (in_BadChance_AlikePoints:(Value.ref c_BadChance::bm_BadChance).contains (.ref c_AlikePoints)=false)
  (in_BadChance_BadSteps:(Value.ref c_BadChance::bm_BadChance).contains (.ref c_BadSteps)=false)
  (in_BadChance_BadInputs:(Value.ref c_BadChance::bm_BadChance).contains (.ref c_BadInputs)=false)
  (in_BadChance_BadChance:(Value.ref c_BadChance::bm_BadChance).contains (.ref c_BadChance)=true)
  (kt_BadChance_BadChance:kitOne K (.ref c_BadChance) (.ref c_BadChance)=some true)
  (in_BadChance_BadHands:(Value.ref c_BadChance::bm_BadChance).contains (.ref c_BadHands)=false)
  (in_BadChance_NoVeil:(Value.ref c_BadChance::bm_BadChance).contains (.ref c_NoVeil)=false)
  (ec_BadChance:jK K c_BadChance)
  (kn_BadChance_BadTable:kitOne K (.ref c_BadChance) (.ref c_BadTable)=some false)
  (kn_BadChance_Nought:kitOne K (.ref c_BadChance) (.ref c_Nought)=some false)
  (kn_BadChance_AlikePoints:kitOne K (.ref c_BadChance) (.ref c_AlikePoints)=some false)
  (kn_BadChance_BadSteps:kitOne K (.ref c_BadChance) (.ref c_BadSteps)=some false)
  (kn_BadChance_BadInputs:kitOne K (.ref c_BadChance) (.ref c_BadInputs)=some false)
  (kn_BadChance_BadHands:kitOne K (.ref c_BadChance) (.ref c_BadHands)=some false)
  (kn_BadChance_NoVeil:kitOne K (.ref c_BadChance) (.ref c_NoVeil)=some false)
  (kv_BadChance:kitOne K (.ref c_BadChance) (.type "ValueError")=some true)
  (in_BadHands_VeilError:(Value.ref c_BadHands::bm_BadHands).contains (.ref c_VeilError)=true)
  (kt_BadHands_VeilError:kitOne K (.ref c_BadHands) (.ref c_VeilError)=some true)
  (in_BadHands_BadTable:(Value.ref c_BadHands::bm_BadHands).contains (.ref c_BadTable)=false)
  (in_BadHands_Nought:(Value.ref c_BadHands::bm_BadHands).contains (.ref c_Nought)=false)
  (in_BadHands_AlikePoints:(Value.ref c_BadHands::bm_BadHands).contains (.ref c_AlikePoints)=false)
  (in_BadHands_BadSteps:(Value.ref c_BadHands::bm_BadHands).contains (.ref c_BadSteps)=false)
  (in_BadHands_BadInputs:(Value.ref c_BadHands::bm_BadHands).contains (.ref c_BadInputs)=false)
  (in_BadHands_BadChance:(Value.ref c_BadHands::bm_BadHands).contains (.ref c_BadChance)=false)
  (in_BadHands_BadHands:(Value.ref c_BadHands::bm_BadHands).contains (.ref c_BadHands)=true)
  (kt_BadHands_BadHands:kitOne K (.ref c_BadHands) (.ref c_BadHands)=some true)
  (in_BadHands_NoVeil:(Value.ref c_BadHands::bm_BadHands).contains (.ref c_NoVeil)=false)
  (ec_BadHands:jK K c_BadHands)
  (kn_BadHands_BadTable:kitOne K (.ref c_BadHands) (.ref c_BadTable)=some false)
  (kn_BadHands_Nought:kitOne K (.ref c_BadHands) (.ref c_Nought)=some false)
  (kn_BadHands_AlikePoints:kitOne K (.ref c_BadHands) (.ref c_AlikePoints)=some false)
  (kn_BadHands_BadSteps:kitOne K (.ref c_BadHands) (.ref c_BadSteps)=some false)
  (kn_BadHands_BadInputs:kitOne K (.ref c_BadHands) (.ref c_BadInputs)=some false)
  (kn_BadHands_BadChance:kitOne K (.ref c_BadHands) (.ref c_BadChance)=some false)
  (kn_BadHands_NoVeil:kitOne K (.ref c_BadHands) (.ref c_NoVeil)=some false)
  (kv_BadHands:kitOne K (.ref c_BadHands) (.type "ValueError")=some true)
  (in_NoVeil_VeilError:(Value.ref c_NoVeil::bm_NoVeil).contains (.ref c_VeilError)=true)
  (kt_NoVeil_VeilError:kitOne K (.ref c_NoVeil) (.ref c_VeilError)=some true)
  (in_NoVeil_BadTable:(Value.ref c_NoVeil::bm_NoVeil).contains (.ref c_BadTable)=false)
  (in_NoVeil_Nought:(Value.ref c_NoVeil::bm_NoVeil).contains (.ref c_Nought)=false)
  (in_NoVeil_AlikePoints:(Value.ref c_NoVeil::bm_NoVeil).contains (.ref c_AlikePoints)=false)
  (in_NoVeil_BadSteps:(Value.ref c_NoVeil::bm_NoVeil).contains (.ref c_BadSteps)=false)
  (in_NoVeil_BadInputs:(Value.ref c_NoVeil::bm_NoVeil).contains (.ref c_BadInputs)=false)
  (in_NoVeil_BadChance:(Value.ref c_NoVeil::bm_NoVeil).contains (.ref c_BadChance)=false)
  (in_NoVeil_BadHands:(Value.ref c_NoVeil::bm_NoVeil).contains (.ref c_BadHands)=false)
  (in_NoVeil_NoVeil:(Value.ref c_NoVeil::bm_NoVeil).contains (.ref c_NoVeil)=true)
  (kt_NoVeil_NoVeil:kitOne K (.ref c_NoVeil) (.ref c_NoVeil)=some true)
  (ec_NoVeil:jK K c_NoVeil)
  (kn_NoVeil_BadTable:kitOne K (.ref c_NoVeil) (.ref c_BadTable)=some false)
  (kn_NoVeil_Nought:kitOne K (.ref c_NoVeil) (.ref c_Nought)=some false)
  (kn_NoVeil_AlikePoints:kitOne K (.ref c_NoVeil) (.ref c_AlikePoints)=some false)
  (kn_NoVeil_BadSteps:kitOne K (.ref c_NoVeil) (.ref c_BadSteps)=some false)
  (kn_NoVeil_BadInputs:kitOne K (.ref c_NoVeil) (.ref c_BadInputs)=some false)
  (kn_NoVeil_BadChance:kitOne K (.ref c_NoVeil) (.ref c_BadChance)=some false)
  (kn_NoVeil_BadHands:kitOne K (.ref c_NoVeil) (.ref c_BadHands)=some false)
  (kv_NoVeil:kitOne K (.ref c_NoVeil) (.type "ValueError")=some true)
  (z_len:nsIn K mainGlobals "len"=some none)
  (z_range:nsIn K mainGlobals "range"=some none)
  (z_isinstance:nsIn K mainGlobals "isinstance"=some none)
  (z_min:nsIn K mainGlobals "min"=some none)
  (z_list:nsIn K mainGlobals "list"=some none)
  (z_int:nsIn K mainGlobals "int"=some none)
  (z_bool:nsIn K mainGlobals "bool"=some none)
  (z_tuple:nsIn K mainGlobals "tuple"=some none)
  (z_reversed:nsIn K mainGlobals "reversed"=some none)
  (z_zip:nsIn K mainGlobals "zip"=some none)
  (z_set:nsIn K mainGlobals "set"=some none)
  (z_all:nsIn K mainGlobals "all"=some none)
  (z_sum:nsIn K mainGlobals "sum"=some none)
  (z_sorted:nsIn K mainGlobals "sorted"=some none)
  (z_enumerate:nsIn K mainGlobals "enumerate"=some none) :
  ∃ fd:FuncData,(∀ (s:Shared) (v:Value),BindsTo s fd ⟨[v],[]⟩ [("script",v)])∧∀ base:Heap,K.In base→base.Ns mainGlobals mg→iU l.prog w K mg base CX0 12 fa fd ["script"] (spLaw K):=by
 have e:=hfa.symm.trans (mg_of X G a57)
 cases e
 have S_wall:Src K mg "_wall" "_wall" s_wall ["k"]:=aO h1 (fun _ _ _ _ _ _ us hl=>match us,hl with | [_],_=>rfl) (mg_of X G a1)
 have S_is_table:Src K mg "is_table" "is_table" fG ["prime","hands","few"]:=aO h2 (fun _ _ _ _ _ _ us hl=>match us,hl with | [_,_,_],_=>rfl) (mg_of X G a2)
 have S_back:Src K mg "back" "back" nV ["table","number"]:=aO h3 (fun _ _ _ _ _ _ us hl=>match us,hl with | [_,_],_=>rfl) (mg_of X G a3)
 have S_worth:Src K mg "worth" "worth" ku ["table","row","at"]:=aO h4 (fun _ _ _ _ _ _ us hl=>match us,hl with | [_,_,_],_=>rfl) (mg_of X G a4)
 have S_refuse_alike:Src K mg "refuse_alike" "refuse_alike" cJ ["table","points"]:=aO h5 (fun _ _ _ _ _ _ us hl=>match us,hl with | [_,_],_=>rfl) (mg_of X G a5)
 have S_with_nought_at:Src K mg "with_nought_at" "with_nought_at" bY ["table","row","at"]:=aO h6 (fun _ _ _ _ _ _ us hl=>match us,hl with | [_,_,_],_=>rfl) (mg_of X G a6)
 have S_through:Src K mg "through" "through" gy ["table","points"]:=aO h7 (fun _ _ _ _ _ _ us hl=>match us,hl with | [_,_],_=>rfl) (mg_of X G a7)
 have S_weight:Src K mg "weight" "weight" iP ["table","hand"]:=aO h8 (fun _ _ _ _ _ _ us hl=>match us,hl with | [_,_],_=>rfl) (mg_of X G a8)
 have S_weights:Src K mg "weights" "weights" gw ["table"]:=aO h9 (fun _ _ _ _ _ _ us hl=>match us,hl with | [_],_=>rfl) (mg_of X G a9)
 have S_dealt:Src K mg "dealt" "dealt" kA ["table","number","chance"]:=aO h10 (fun _ _ _ _ _ _ us hl=>match us,hl with | [_,_,_],_=>rfl) (mg_of X G a10)
 have S_is_number:Src K mg "is_number" "is_number" eC ["table","value"]:=aO h11 (fun _ _ _ _ _ _ us hl=>match us,hl with | [_,_],_=>rfl) (mg_of X G a11)
 have S_are_numbers:Src K mg "are_numbers" "are_numbers" dg ["table","values"]:=aO h12 (fun _ _ _ _ _ _ us hl=>match us,hl with | [_,_],_=>rfl) (mg_of X G a12)
 have S_fits:Src K mg "fits" "fits" nU ["table","place","kind","value"]:=aO h13 (fun _ _ _ _ _ _ us hl=>match us,hl with | [_,_,_,_],_=>rfl) (mg_of X G a13)
 have S_is_right_step:Src K mg "is_right_step" "is_right_step" cx ["table","place","step"]:=aO h14 (fun _ _ _ _ _ _ us hl=>match us,hl with | [_,_,_],_=>rfl) (mg_of X G a14)
 have S_right:Src K mg "right" "right" kx ["table","steps"]:=aO h15 (fun _ _ _ _ _ _ us hl=>match us,hl with | [_,_],_=>rfl) (mg_of X G a15)
 have S_refuse_steps:Src K mg "refuse_steps" "refuse_steps" cF ["table","steps"]:=aO h16 (fun _ _ _ _ _ _ us hl=>match us,hl with | [_,_],_=>rfl) (mg_of X G a16)
 have S_all_hands:Src K mg "all_hands" "all_hands" eF ["table"]:=aO h17 (fun _ _ _ _ _ _ us hl=>match us,hl with | [_],_=>rfl) (mg_of X G a17)
 have S_dealers:Src K mg "dealers" "dealers" gA ["table","step"]:=aO h18 (fun _ _ _ _ _ _ us hl=>match us,hl with | [_,_],_=>rfl) (mg_of X G a18)
 have S_needs:Src K mg "needs" "needs" kz ["table","steps"]:=aO h19 (fun _ _ _ _ _ _ us hl=>match us,hl with | [_,_],_=>rfl) (mg_of X G a19)
 have S_uses:Src K mg "uses" "uses" nR ["steps","hand"]:=aO h20 (fun _ _ _ _ _ _ us hl=>match us,hl with | [_,_],_=>rfl) (mg_of X G a20)
 have S_are_inputs:Src K mg "are_inputs" "are_inputs" dB ["table","steps","inputs"]:=aO h21 (fun _ _ _ _ _ _ us hl=>match us,hl with | [_,_,_],_=>rfl) (mg_of X G a21)
 have S_refuse_inputs:Src K mg "refuse_inputs" "refuse_inputs" cq ["table","steps","inputs"]:=aO h22 (fun _ _ _ _ _ _ us hl=>match us,hl with | [_,_,_],_=>rfl) (mg_of X G a22)
 have S_input_at:Src K mg "input_at" "input_at" fH ["steps","place","inputs"]:=aO h23 (fun _ _ _ _ _ _ us hl=>match us,hl with | [_,_,_],_=>rfl) (mg_of X G a23)
 have S_reckoned:Src K mg "reckoned" "reckoned" fC ["table","step","before"]:=aO h24 (fun _ _ _ _ _ _ us hl=>match us,hl with | [_,_,_],_=>rfl) (mg_of X G a24)
 have S_plain:Src K mg "plain" "plain" ky ["table","steps","inputs"]:=aO h25 (fun _ _ _ _ _ _ us hl=>match us,hl with | [_,_,_],_=>rfl) (mg_of X G a25)
 have S_refuse_chance:Src K mg "refuse_chance" "refuse_chance" cr ["table","steps","chance"]:=aO h26 (fun _ _ _ _ _ _ us hl=>match us,hl with | [_,_,_],_=>rfl) (mg_of X G a26)
 have S_refuse_run:Src K mg "refuse_run" "refuse_run" dz ["table","steps","inputs","chance"]:=aO h27 (fun _ _ _ _ _ _ us hl=>match us,hl with | [_,_,_,_],_=>rfl) (mg_of X G a27)
 have S_chance_by_step:Src K mg "chance_by_step" "chance_by_step" b7 ["table","steps","chance"]:=aO h28 (fun _ _ _ _ _ _ us hl=>match us,hl with | [_,_,_],_=>rfl) (mg_of X G a28)
 have S_weighed:Src K mg "weighed" "weighed" gx ["table","parts","numbers"]:=aO h29 (fun _ _ _ _ _ _ us hl=>match us,hl with | [_,_,_],_=>rfl) (mg_of X G a29)
 have S_letters_of:Src K mg "letters_of" "letters_of" dA ["place","senders","rows"]:=aO h30 (fun _ _ _ _ _ _ us hl=>match us,hl with | [_,_,_],_=>rfl) (mg_of X G a30)
 have S_are_rising_hands:Src K mg "are_rising_hands" "are_rising_hands" bM ["table","some"]:=aO h31 (fun _ _ _ _ _ _ us hl=>match us,hl with | [_,_],_=>rfl) (mg_of X G a31)
 have S_refuse_hands:Src K mg "refuse_hands" "refuse_hands" cG ["table","some"]:=aO h32 (fun _ _ _ _ _ _ us hl=>match us,hl with | [_,_],_=>rfl) (mg_of X G a32)
 have S_inputs_used:Src K mg "inputs_used" "inputs_used" df ["steps","inputs","some"]:=aO h33 (fun _ _ _ _ _ _ us hl=>match us,hl with | [_,_,_],_=>rfl) (mg_of X G a33)
 have S_veil:Src K mg "veil" "veil" nQ ["table","some"]:=aO h34 (fun _ _ _ _ _ _ us hl=>match us,hl with | [_,_],_=>rfl) (mg_of X G a34)
 have S_numbers_opened:Src K mg "numbers_opened" "numbers_opened" bZ ["table","steps","inputs"]:=aO h35 (fun _ _ _ _ _ _ us hl=>match us,hl with | [_,_,_],_=>rfl) (mg_of X G a35)
 have S_agree:Src K mg "agree" "agree" kB ["table","steps","inputs","others","some"]:=aO h36 (fun _ _ _ _ _ _ us hl=>match us,hl with | [_,_,_,_,_],_=>rfl) (mg_of X G a36)
 have S_veiled:Src K mg "veiled" "veiled" iQ ["table","cover","row","difference"]:=aO h37 (fun _ _ _ _ _ _ us hl=>match us,hl with | [_,_,_,_],_=>rfl) (mg_of X G a37)
 have S_exchanged_rows:Src K mg "exchanged_rows" "exchanged_rows" b6 ["cover","some","rows","here","there"]:=aO h38 (fun _ _ _ _ _ _ us hl=>match us,hl with | [_,_,_,_,_],_=>rfl) (mg_of X G a38)
 have S_exchanged:Src K mg "exchanged" "exchanged" eE ["table","steps","inputs","others","chance","some"]:=aO h39 (fun _ _ _ _ _ _ us hl=>match us,hl with | [_,_,_,_,_,_],_=>rfl) (mg_of X G a39)
 have S_law_cell_at:Src K mg "_law_cell_at" "_law_cell_at" de ["script","k"]:=aO h40 (fun _ _ _ _ _ _ us hl=>match us,hl with | [_,_],_=>rfl) (mg_of X G a40)
 have S_law_mix:Src K mg "_law_mix" "_law_mix" gz ["cell","k","many"]:=aO h41 (fun _ _ _ _ _ _ us hl=>match us,hl with | [_,_,_],_=>rfl) (mg_of X G a41)
 have S_law_table_by:Src K mg "_law_table_by" "_law_table_by" cK ["cell"]:=aO h42 (fun _ _ _ _ _ _ us hl=>match us,hl with | [_],_=>rfl) (mg_of X G a42)
 have S_law_step_by:Src K mg "_law_step_by" "_law_step_by" c8 ["cell","at","table"]:=aO h43 (fun _ _ _ _ _ _ us hl=>match us,hl with | [_,_,_],_=>rfl) (mg_of X G a43)
 have S_law_steps_by:Src K mg "_law_steps_by" "_law_steps_by" cL ["script","start","many","table"]:=aO h44 (fun _ _ _ _ _ _ us hl=>match us,hl with | [_,_,_,_],_=>rfl) (mg_of X G a44)
 have S_law_used:Src K mg "_law_used" "_law_used" fE ["steps","hand"]:=aO h45 (fun _ _ _ _ _ _ us hl=>match us,hl with | [_,_],_=>rfl) (mg_of X G a45)
 have S_law_inputs_by:Src K mg "_law_inputs_by" "_law_inputs_by" cv ["cell","steps","table"]:=aO h46 (fun _ _ _ _ _ _ us hl=>match us,hl with | [_,_,_],_=>rfl) (mg_of X G a46)
 have S_law_needs:Src K mg "_law_needs" "_law_needs" eu ["steps","table"]:=aO h47 (fun _ _ _ _ _ _ us hl=>match us,hl with | [_,_],_=>rfl) (mg_of X G a47)
 have S_law_plain:Src K mg "_law_plain" "_law_plain" ee ["prime","steps","inputs"]:=aO h48 (fun _ _ _ _ _ _ us hl=>match us,hl with | [_,_,_],_=>rfl) (mg_of X G a48)
 have S_law_quiet:Src K mg "_law_quiet" "_law_quiet" dZ ["steps"]:=aO h49 (fun _ _ _ _ _ _ us hl=>match us,hl with | [_],_=>rfl) (mg_of X G a49)
 have S_law_some_by:Src K mg "_law_some_by" "_law_some_by" c9 ["cell","table","without"]:=aO h50 (fun _ _ _ _ _ _ us hl=>match us,hl with | [_,_,_],_=>rfl) (mg_of X G a50)
 have S_law_pair_by:Src K mg "_law_pair_by" "_law_pair_by" dc ["script","table","many"]:=aO h51 (fun _ _ _ _ _ _ us hl=>match us,hl with | [_,_,_],_=>rfl) (mg_of X G a51)
 have S_law_agree:Src K mg "_law_agree" "_law_agree" eB ["prime","steps","inputs","others","some"]:=aO h52 (fun _ _ _ _ _ _ us hl=>match us,hl with | [_,_,_,_,_],_=>rfl) (mg_of X G a52)
 have S_law_chance_by:Src K mg "_law_chance_by" "_law_chance_by" cw ["cell","steps","table"]:=aO h53 (fun _ _ _ _ _ _ us hl=>match us,hl with | [_,_,_],_=>rfl) (mg_of X G a53)
 have S_law_veil:Src K mg "_law_veil" "_law_veil" fD ["table","some"]:=aO h54 (fun _ _ _ _ _ _ us hl=>match us,hl with | [_,_],_=>rfl) (mg_of X G a54)
 have S_law_hands:Src K mg "_law_hands" "_law_hands" eA ["table","step"]:=aO h55 (fun _ _ _ _ _ _ us hl=>match us,hl with | [_,_],_=>rfl) (mg_of X G a55)
 have S_law_times:Src K mg "_law_times" "_law_times" dY ["prime","row","grown"]:=aO h56 (fun _ _ _ _ _ _ us hl=>match us,hl with | [_,_,_],_=>rfl) (mg_of X G a56)
 obtain ⟨fdL,F_law⟩:=h57
 obtain ⟨_,F_init⟩:=h58
 have b_init:=F_init.binds (ps:=["self","prime","hands","few"]) fun _ _ _ _ _ _ us hl=>match us,hl with | [_,_,_,_],_=>rfl
 have TT:Tab K C:=⟨⟨pg,hd,po,sa⟩,nP,nH,nF⟩
 have M:Mk K C f58:=⟨mk,a58,i58,kc⟩
 have mC:=mg_of X G aC
 have TP:Pri K mg pa:=pri_mk (mg_of X G ap) lp vp
 have TC:CrsC K CC:=⟨⟨cpg,chd,cpo,csa⟩,cn_table,cn_steps,cn_inputs,cn_parts,cn_shares,cn_letters⟩
 have mCC:=mg_of X G aCC
 obtain ⟨_,F_Course_init⟩:=h59
 have b_Course_init:=F_Course_init.binds (ps:=["self","table","steps","inputs"]) fun _ _ _ _ _ _ us hl=>match us,hl with | [_,_,_,_],_=>rfl
 have MC:Mk K CC f59:=⟨cmk,a59,i59,ckc⟩
 obtain ⟨_,F_Course_coming_step⟩:=h60
 have b_Course_coming_step:=F_Course_coming_step.binds (ps:=["self"]) fun _ _ _ _ _ _ us hl=>match us,hl with | [_],_=>rfl
 have H_coming_step:Meth K CC "coming_step" f60:=⟨a60,i60,F_Course_coming_step.kp⟩
 obtain ⟨_,F_Course_own_shares⟩:=h61
 have b_Course_own_shares:=F_Course_own_shares.binds (ps:=["self","hand"]) fun _ _ _ _ _ _ us hl=>match us,hl with | [_,_],_=>rfl
 have H_own_shares:Meth K CC "own_shares" f61:=⟨a61,i61,F_Course_own_shares.kp⟩
 obtain ⟨_,F_Course_numbers_to_deal⟩:=h62
 have b_Course_numbers_to_deal:=F_Course_numbers_to_deal.binds (ps:=["self"]) fun _ _ _ _ _ _ us hl=>match us,hl with | [_],_=>rfl
 have H_numbers_to_deal:Meth K CC "numbers_to_deal" f62:=⟨a62,i62,F_Course_numbers_to_deal.kp⟩
 obtain ⟨_,F_Course_new_share⟩:=h63
 have b_Course_new_share:=F_Course_new_share.binds (ps:=["self","hand","rows"]) fun _ _ _ _ _ _ us hl=>match us,hl with | [_,_,_],_=>rfl
 have H_new_share:Meth K CC "new_share" f63:=⟨a63,i63,F_Course_new_share.kp⟩
 obtain ⟨_,F_Course_send_letters⟩:=h64
 have b_Course_send_letters:=F_Course_send_letters.binds (ps:=["self","step","made","rows"]) fun _ _ _ _ _ _ us hl=>match us,hl with | [_,_,_,_],_=>rfl
 have H_send_letters:Meth K CC "send_letters" f64:=⟨a64,i64,F_Course_send_letters.kp⟩
 obtain ⟨_,F_Course_go_on⟩:=h65
 have b_Course_go_on:=F_Course_go_on.binds (ps:=["self","chance_rows"]) fun _ _ _ _ _ _ us hl=>match us,hl with | [_,_],_=>rfl
 have H_go_on:Meth K CC "go_on" f65:=⟨a65,i65,F_Course_go_on.kp⟩
 have FR:Frm l.prog w K mg fF (oq tu1 tu2 tu3 tu4 tu5 tu6 tu7 tu8):=frm_mk (mg_of X G aF) sF lF (fun H=>iu lt1 vt1 (by decide) H) (fun H=>iu lt2 vt2 (by decide) H) (fun H=>iu lt3 vt3 (by decide) H) (fun H=>iu lt4 vt4 (by decide) H) (fun H=>iu lt5 vt5 (by decide) H) (fun H=>iu lt6 vt6 (by decide) H) (fun H=>iu lt7 vt7 (by decide) H) (fun H=>iu lt8 vt8 (by decide) H)
 have gM:mg "MOST_STEPS"=some (.int 24 tkM):=mg_of X G aM
 have B:Blt mg:=⟨mg_none_of X G z_len,mg_none_of X G z_range,mg_none_of X G z_isinstance,mg_none_of X G z_min,mg_none_of X G z_list,mg_none_of X G z_int,mg_none_of X G z_bool,mg_none_of X G z_tuple,mg_none_of X G z_reversed,mg_none_of X G z_zip,mg_none_of X G z_set,mg_none_of X G z_all,mg_none_of X G z_sum,mg_none_of X G z_sorted,mg_none_of X G z_enumerate⟩
 have E_VeilError:Exc K mg "VeilError" c_VeilError bm_VeilError:=gO (mg_of X G x_VeilError) o_VeilError e_VeilError
 have E_BadTable:Exc K mg "BadTable" c_BadTable bm_BadTable:=gO (mg_of X G x_BadTable) o_BadTable e_BadTable
 have E_Nought:Exc K mg "Nought" c_Nought bm_Nought:=gO (mg_of X G x_Nought) o_Nought e_Nought
 have E_AlikePoints:Exc K mg "AlikePoints" c_AlikePoints bm_AlikePoints:=gO (mg_of X G x_AlikePoints) o_AlikePoints e_AlikePoints
 have E_BadSteps:Exc K mg "BadSteps" c_BadSteps bm_BadSteps:=gO (mg_of X G x_BadSteps) o_BadSteps e_BadSteps
 have E_BadInputs:Exc K mg "BadInputs" c_BadInputs bm_BadInputs:=gO (mg_of X G x_BadInputs) o_BadInputs e_BadInputs
 have E_BadChance:Exc K mg "BadChance" c_BadChance bm_BadChance:=gO (mg_of X G x_BadChance) o_BadChance e_BadChance
 have E_BadHands:Exc K mg "BadHands" c_BadHands bm_BadHands:=gO (mg_of X G x_BadHands) o_BadHands e_BadHands
 have E_NoVeil:Exc K mg "NoVeil" c_NoVeil bm_NoVeil:=gO (mg_of X G x_NoVeil) o_NoVeil e_NoVeil
 refine ⟨fdL,fun s v=>qP F_law s v,fun base _ _=>?_⟩
 have O_is_table:=nc (P:=l.prog) (w:=w) (base:=base) S_is_table TP
 have O_Table:MkOk l.prog w K mg base CX0 2 "Table" C ["self","prime","hands","few"] (lG C):=⟨_,_,M,ok_init F_init TT O_is_table,b_init,mC⟩
 have O_is_number:=lY (P:=l.prog) (w:=w) (base:=base) S_is_number TT
 have O_fits:=ok_fits S_fits TT O_is_number
 have O_is_right_step:=iK S_is_right_step B FR O_fits
 have O_right:=ok_right S_right B gM O_is_right_step
 have O_refuse_stepsE:=iI S_refuse_steps E_BadSteps O_right
 have O_all_hands:=l6 (P:=l.prog) (w:=w) (base:=base) S_all_hands B TT
 have O_dealers:=o9 S_dealers B O_all_hands
 have O_needsE:=qv S_needs B TT O_refuse_stepsE O_dealers
 have O_are_numbers:=jH S_are_numbers B O_is_number
 have O_uses:=ok_uses (P:=l.prog) (w:=w) (base:=base) S_uses
 have O_are_inputs:=kO S_are_inputs B TT O_uses O_are_numbers
 have O_refuse_inputsE:=hW S_refuse_inputs E_BadInputs O_are_inputs
 have O_input_at:=ng S_input_at O_uses
 have O_reckoned:=m9 (P:=l.prog) (w:=w) (base:=base) S_reckoned TT
 have O_refuse_chanceE:=hX S_refuse_chance B E_BadChance O_needsE.calm O_are_numbers
 have O_refuse_runE:=jF S_refuse_run O_refuse_stepsE O_refuse_inputsE O_refuse_chanceE
 have O_chance_by_step:=hZ S_chance_by_step B TT O_dealers
 have O_weighed:=oY (P:=l.prog) (w:=w) (base:=base) S_weighed B TT
 have O_letters_of:=kN (P:=l.prog) (w:=w) (base:=base) S_letters_of B
 have O_worth:=ok_worth (P:=l.prog) (w:=w) (base:=base) S_worth B TT
 have O_back:=ok_back (P:=l.prog) (w:=w) (base:=base) S_back B TT
 have O_alike:=ok_alike (P:=l.prog) (w:=w) (base:=base) S_refuse_alike B TT
 have O_nought:=qu (P:=l.prog) (w:=w) (base:=base) S_with_nought_at B TT
 have O_through:=oZ S_through B TT O_alike O_worth O_back O_nought
 have O_weight:=qo S_weight B TT O_worth O_through
 have O_weights:=oX S_weights B TT O_weight
 have O_dealt:=ok_dealt S_dealt B TT O_worth
 have M_coming:MOk l.prog w K mg base CX0 1 CC "coming_step" ["self"] (dX C CC):=⟨_,_,TC.1,H_coming_step,qy F_Course_coming_step B TC,b_Course_coming_step⟩
 have M_own:MOk l.prog w K mg base CX0 1 CC "own_shares" ["self","hand"] (qd C CC):=⟨_,_,TC.1,H_own_shares,ok_own F_Course_own_shares TC,b_Course_own_shares⟩
 have M_nums:MOk l.prog w K mg base CX0 3 CC "numbers_to_deal" ["self"] (lE C CC):=⟨_,_,TC.1,H_numbers_to_deal,ok_nums F_Course_numbers_to_deal B TT TC M_coming M_own O_input_at O_dealers O_reckoned,b_Course_numbers_to_deal⟩
 have M_newsh:MOk l.prog w K mg base CX0 2 CC "new_share" ["self","hand","rows"] (kg C CC):=⟨_,_,TC.1,H_new_share,ok_newsh F_Course_new_share B TT TC M_coming M_own O_weighed O_reckoned,b_Course_new_share⟩
 have M_send:MOk l.prog w K mg base CX0 3 CC "send_letters" ["self","step","made","rows"] (nN C CC):=⟨_,_,TC.1,H_send_letters,ok_send F_Course_send_letters B TT TC O_letters_of O_all_hands O_dealers,b_Course_send_letters⟩
 have M_go:MOk l.prog w K mg base CX0 4 CC "go_on" ["self","chance_rows"] (spGo C CC):=⟨_,_,TC.1,H_go_on,ok_go F_Course_go_on B TT TC M_coming M_nums M_newsh M_send O_dealt O_all_hands,b_Course_go_on⟩
 have O_Course:MkOk l.prog w K mg base CX0 5 "Course" CC ["self","table","steps","inputs"] (km C CC):=⟨_,_,MC,ok_cinit F_Course_init TC O_weights,b_Course_init,mCC⟩
 have O_rising:=qr (P:=l.prog) (w:=w) (base:=base) S_are_rising_hands TT
 have O_refuse_handsE:=iJ S_refuse_hands E_BadHands O_rising
 have O_inputs_used:=jG S_inputs_used O_uses
 have O_veilE:=ok_veilE S_veil B TT E_NoVeil O_refuse_handsE O_back
 have O_plainE:=qt S_plain B O_refuse_stepsE O_refuse_inputsE O_input_at O_reckoned
 have O_numbers_opened:=kM S_numbers_opened B O_plainE.calm
 have O_agreeX:=qz S_agree O_inputs_used O_numbers_opened
 have O_veiled:=qp (P:=l.prog) (w:=w) (base:=base) S_veiled B TT
 have O_exRows:=qx S_exchanged_rows B TC M_coming M_nums O_dealers O_veiled
 have O_exE:=ok_exE S_exchanged B TC E_NoVeil O_refuse_runE O_refuse_inputsE O_veilE O_agreeX O_Course O_chance_by_step O_exRows M_go
 have O_cell:=ok_cell (P:=l.prog) (w:=w) (base:=base) S_law_cell_at B
 have O_mix:=ok_mix (P:=l.prog) (w:=w) (base:=base) S_law_mix
 have O_table_by:=m7 S_law_table_by B O_Table
 have O_step_by:=o6 S_law_step_by TT O_mix
 have O_steps_by:=m8 S_law_steps_by B O_cell O_step_by
 have O_used:=ok_used (P:=l.prog) (w:=w) (base:=base) S_law_used B
 have O_inputs_by:=lZ S_law_inputs_by B TT O_used O_mix
 have O_lneeds:=ok_needs (P:=l.prog) (w:=w) (base:=base) S_law_needs TT
 have O_chance_by:=l0 S_law_chance_by B TT O_lneeds O_mix
 have O_quiet:=ok_quiet (P:=l.prog) (w:=w) (base:=base) S_law_quiet B
 have O_some_by:=o7 (P:=l.prog) (w:=w) (base:=base) S_law_some_by B TT
 have O_pair_by:=o8 S_law_pair_by B TT O_cell O_step_by O_steps_by O_quiet O_some_by O_inputs_by O_used
 have O_lplain:=ok_plain (P:=l.prog) (w:=w) (base:=base) S_law_plain B
 have O_agree:=ok_agree S_law_agree B O_used O_lplain
 have O_veilX:=ok_veilX (P:=l.prog) (w:=w) (base:=base) S_law_veil B TT
 have O_handsX:=qw (P:=l.prog) (w:=w) (base:=base) S_law_hands B TT
 have O_timesX:=qq (P:=l.prog) (w:=w) (base:=base) S_law_times B
 exact ok_law F_law B TT O_table_by O_cell O_pair_by O_chance_by O_agree O_lplain O_veilX O_handsX O_timesX O_exE.calm
theorem walk {l:PySem.W.OpenLaw}{q:Program}{loose:List Str}{XP:(Str→Option Value)→Heap→Prop}{YP:World→Heap→Prop}{d:DefRec}{K:Params→PySem.W.Frag} (hn:l.most=some 63) (hdf:d.params.defaults=[])
  (hY:∀ (w:World) (h:Heap),YP w h→(K w.params).In h)
  (F:∀ (w:World) (mg:Str→Option Value) (fa:Addr) (h:Heap),(K w.params).In h→h.Ns mainGlobals mg→mg d.name=some (.ref fa) →
   ∃ fd:FuncData,(∀ (s:Shared) (u:Value),BindsTo s fd ⟨[u],[]⟩ [("script",u)])∧∀ base:Heap,(K w.params).In base→base.Ns mainGlobals mg→iU l.prog w (K w.params) mg base CX0 12 fa fd ["script"] (spLaw (K w.params))) :
  PySem.W.WalkO q loose XP YP l.row.toRowW d [] (fun f vs=>PySem.call f vs) :=
 L2.walk_of (n:=63) (k:=12) (x:="script") (CX:=fun _=>CX0) (sp:=fun w=>spLaw (K w.params)) hn (by decide) hdf ⟨rfl,by decide,by decide⟩ hY F (fun _ _ a ns hl _ hS=>⟨a,ns,rfl,hS,hl,fun _=>rfl⟩) fun _ _ _ _ _ z=>z
end Veil
namespace PySem.W.Fast
def tw13132914742337990627 := 0
def tw12925776332417665014 := 0
def tw6850914153151095113 := 0
def tw9523773824039879954 := 0
def tw15708701249992159893 := 0
def tw8671771343068692955 := 0
def tw14820202793015640105 := 0
def tw14280874751060037713 := 0
def tw12396439311208836064 := 0
def tw7727812200929797817 := 0
def tw240011300809331341 := 0
def tw5877902047086490368 := 0
def tw7994460519267534402 := 0
def tw14674132637592082332 := 0
def tw9197907798645678374 := 0
def tw9909216290973111424 := 0
def tw15438945444122129020 := 0
def tw13243041624705121045 := 0
def tw16442171162748581702 := 0
def tw1639431196086652234 := 0
def tw17769595977005840688 := 0
def tw2692893857988846799 := 0
def tw17017467291865504089 := 0
def tw3150262746725458407 := 0
def tw7278301255774301589 := 0
def tw3959764568665631373 := 0
def tw11621129229899001602 := 0
def tw2452972734564678119 := 0
def tw6061245409308651344 := 0
def tw11646207927607456260 := 0
def tw11084047205509010354 := 0
def tw2660983320648243519 := 0
def tw15720166099794379979 := 0
def tw14530996200616173286 := 0
def tw6195919545789306397 := 0
def tw6100987786338135183 := 0
def tw11539724142114929268 := 0
def tw16962536532948682857 := 0
def tw7559749580685927935 := 0
def tw8436704342992427033 := 0
def tw154220402800457212 := 0
def tw8135114654432259343 := 0
def tw3269068246108681383 := 0
def tw3030739016034014583 := 0
def tw10638948771123066912 := 0
def tw15349318783717339592 := 0
def tw14957451316312522235 := 0
def tw14351261495683887662 := 0
def tw8161841452740183369 := 0
def tw10944260120880266819 := 0
def tw16551024663153906076 := 0
def tw4068188289558678155 := 0
def tw10069335236713580917 := 0
def tw623373295009543855 := 0
def tw14820336334793999620 := 0
def tw15256849689565051764 := 0
def tw10748710539787594004 := 0
def tw13388968858707374075 := 0
def tw10492731561255547628 := 0
def tw11029226731450303808 := 0
def tw10903811669521736380 := 0
def tw9490079594231325984 := 0
def tw853706638302431436 := 0
def tw4683486691264315791 := 0
def tw8436047611108129975 := 0
def tw15543165966048203301 := 0
def tw4666871202513463772 := 0
def tw1664584824326401669 := 0
def tw9232976163245598261 := 0
def tw16469656911957529289 := 0
def tw17423038951531394060 := 0
def tw1992634264212329092 := 0
def tw10470913759078578392 := 0
def tw2898379191686318631 := 0
def tw2443441390624948092 := 0
def tw8841544626329183533 := 0
def tw6299412863583577521 := 0
def tw17080662848083311378 := 0
def tw5767475464685955580 := 0
def tw3984645039208140008 := 0
def tw11743994008473385146 := 0
def tw10520522054210642413 := 0
def tw16571272185049939831 := 0
def tw15021702870808006775 := 0
def tw13735528609981513975 := 0
def tw7325598850011996654 := 0
def tw13596576848787345012 := 0
def tw10583661079937309871 := 0
def tw4952857955736012055 := 0
def tw3878912654948850219 := 0
def tw6459897145536652763 := 0
def tw10443705829727849597 := 0
def tw14568138422485579500 := 0
def tw14079910169135836863 := 0
def tw346909951024820297 := 0
def tw9635681763460066457 := 0
def tw8416918009064535629 := 0
def tw1982923853988768523 := 0
def tw2062310015826867575 := 0
def tw4778809743043527658 := 0
def tw11847654247722952872 := 0
def tw1529205670504564389 := 0
def tw2568021555453192158 := 0
def tw11647931508997692216 := 0
def tw11233049122559579182 := 0
def tw12242071676722925247 := 0
def tw1363643385856828617 := 0
def tw13213405411081528897 := 0
def tw12125660316746544796 := 0
def tw16837153551661022987 := 0
def tw18245405399458246409 := 0
def tw12638165164165772752 := 0
def tw13558961301863153118 := 0
def tw12379237375261427202 := 0
def tw14041606430870211856 := 0
def tw14397515623283686457 := 0
def tw8501634391294706286 := 0
def tw10587970319068468500 := 0
def tw5857395683978608865 := 0
def tw8357804372932521598 := 0
def tw6916613416446539456 := 0
def tw3380148795447157640 := 0
def tw4154067624962132262 := 0
def tw13791494609639138914 := 0
def tw12619830753695998805 := 0
def tw5313361089703415465 := 0
def tw18265449926921271028 := 0
def tw3346141500488791008 := 0
def tw2561858576930689501 := 0
def tw12654638233786099486 := 0
def tw15404736367788744049 := 0
def tw16690130279228492910 := 0
def tw5084568333905174266 := 0
def tw14380917405535629963 := 0
def tw14638419382071193411 := 0
def tw12350195425054467091 := 0
def tw10255321499318558114 := 0
def tw1709046101782564704 := 0
def tw3090770037624917879 := 0
def tw13310572500934468054 := 0
def tw5252679846707580626 := 0
def tw8827034457107335398 := 0
def tw4801276959125767131 := 0
def tw18180325176077883601 := 0
def tw13697954468566715640 := 0
def tw16686070964435186492 := 0
def tw10217603447544288789 := 0
def tw11353435888389873007 := 0
def tw3602410530927060095 := 0
def tw13831931650426040134 := 0
def tw908095709836657666 := 0
def tw8473822267814800057 := 0
def tw11992260922070027586 := 0
def tw10440841462373284280 := 0
def tw5714725649524682553 := 0
def tw17860209261688606771 := 0
def tw3246011603971365561 := 0
def tw13782624819672665807 := 0
def tw18285759744268082517 := 0
def tw13047731620920902829 := 0
def tw547588042257131542 := 0
def tw16939625285849143429 := 0
def tw4585070585615133543 := 0
def tw9578853662187687199 := 0
def tw360802594014151612 := 0
def tw1456938104236447850 := 0
def tw12483095117682015115 := 0
def tw16401575833798826147 := 0
def tw13427037128718379709 := 0
def tw8806771277909481506 := 0
def tw8095525945312714866 := 0
def tw3297015435381802697 := 0
def tw1161228670103304588 := 0
def tw16125043408125564215 := 0
def tw9515463500709011044 := 0
def tw1885578307263084989 := 0
def tw10370694366773628706 := 0
def tw2772262755350718204 := 0
def tw9642256444251785715 := 0
def tw10122716921089371969 := 0
def tw5290650411457572610 := 0
def tw17707818920278753083 := 0
def tw10112649055755284869 := 0
def tw14646897993333273655 := 0
def tw3833846500708526139 := 0
def tw2720937545512371494 := 0
def tw8887696491113733843 := 0
def tw1797678339189450203 := 0
def tw6382508893645630571 := 0
def tw9890985212638542379 := 0
def tw2467650743844435021 := 0
def tw8019395886639656378 := 0
def tw13217558209996585191 := 0
def tw15730169682998164891 := 0
def tw11793573469118772240 := 0
def tw10728547959037243430 := 0
def tw2100231286113308275 := 0
def tw8940900315152983630 := 0
def tw8089153638393250679 := 0
def tw3836840800094962741 := 0
end PySem.W.Fast
open PySem PySem.W PyProof.Rows
set_option maxRecDepth 100000 in
set_option maxHeartbeats 0 in
theorem PySem.Challenge.cw_veilsum_k20_which_exchange_holds : PySem.Challenge.rw_veilsum_k20_which_exchange.Holds := by
 w_on; o_law; k_head; (case hw => w_witness2)
 k_fill
 refine Veil.walk (l := PySem.Challenge.rw_veilsum_k20_which_exchange) rfl rfl (fun w h Y => PySem.W.kIn_of Y) ?F
 case F =>
  intro w mg fa h KX G hmg
  refine' Veil.all_mk KX G hmg ?a1 ?h1 ?a2 ?h2 ?a3 ?h3 ?a4 ?h4 ?a5 ?h5 ?a6 ?h6 ?a7 ?h7 ?a8 ?h8 ?a9 ?h9 ?a10 ?h10 ?a11 ?h11 ?a12 ?h12 ?a13 ?h13 ?a14 ?h14 ?a15 ?h15 ?a16 ?h16 ?a17 ?h17 ?a18 ?h18 ?a19 ?h19 ?a20 ?h20 ?a21 ?h21 ?a22 ?h22 ?a23 ?h23 ?a24 ?h24 ?a25 ?h25 ?a26 ?h26 ?a27 ?h27 ?a28 ?h28 ?a29 ?h29 ?a30 ?h30 ?a31 ?h31 ?a32 ?h32 ?a33 ?h33 ?a34 ?h34 ?a35 ?h35 ?a36 ?h36 ?a37 ?h37 ?a38 ?h38 ?a39 ?h39 ?a40 ?h40 ?a41 ?h41 ?a42 ?h42 ?a43 ?h43 ?a44 ?h44 ?a45 ?h45 ?a46 ?h46 ?a47 ?h47 ?a48 ?h48 ?a49 ?h49 ?a50 ?h50 ?a51 ?h51 ?a52 ?h52 ?a53 ?h53 ?a54 ?h54 ?a55 ?h55 ?a56 ?h56 ?a57 ?h57 ?aC ?a58 ?i58 ?h58 ?aCC ?a59 ?i59 ?h59 ?a60 ?i60 ?h60 ?a61 ?i61 ?h61 ?a62 ?i62 ?h62 ?a63 ?i63 ?h63 ?a64 ?i64 ?h64 ?a65 ?i65 ?h65 ?pg ?hd ?po ?sa ?mk ?kc ?nP ?nH ?nF ?ap ?lp ?vp ?cpg ?chd ?cpo ?csa ?cmk ?ckc ?cn_table ?cn_steps ?cn_inputs ?cn_parts ?cn_shares ?cn_letters ?aF ?lF ?sF ?lt1 ?vt1 ?lt2 ?vt2 ?lt3 ?vt3 ?lt4 ?vt4 ?lt5 ?vt5 ?lt6 ?vt6 ?lt7 ?vt7 ?lt8 ?vt8 ?aM ?x_VeilError ?o_VeilError ?e_VeilError ?x_BadTable ?o_BadTable ?e_BadTable ?x_Nought ?o_Nought ?e_Nought ?x_AlikePoints ?o_AlikePoints ?e_AlikePoints ?x_BadSteps ?o_BadSteps ?e_BadSteps ?x_BadInputs ?o_BadInputs ?e_BadInputs ?x_BadChance ?o_BadChance ?e_BadChance ?x_BadHands ?o_BadHands ?e_BadHands ?x_NoVeil ?o_NoVeil ?e_NoVeil ?in_VeilError_VeilError ?kt_VeilError_VeilError ?in_VeilError_BadTable ?in_VeilError_Nought ?in_VeilError_AlikePoints ?in_VeilError_BadSteps ?in_VeilError_BadInputs ?in_VeilError_BadChance ?in_VeilError_BadHands ?in_VeilError_NoVeil ?ec_VeilError ?kn_VeilError_BadTable ?kn_VeilError_Nought ?kn_VeilError_AlikePoints ?kn_VeilError_BadSteps ?kn_VeilError_BadInputs ?kn_VeilError_BadChance ?kn_VeilError_BadHands ?kn_VeilError_NoVeil ?kv_VeilError ?in_BadTable_VeilError ?kt_BadTable_VeilError ?in_BadTable_BadTable ?kt_BadTable_BadTable ?in_BadTable_Nought ?in_BadTable_AlikePoints ?in_BadTable_BadSteps ?in_BadTable_BadInputs ?in_BadTable_BadChance ?in_BadTable_BadHands ?in_BadTable_NoVeil ?ec_BadTable ?kn_BadTable_Nought ?kn_BadTable_AlikePoints ?kn_BadTable_BadSteps ?kn_BadTable_BadInputs ?kn_BadTable_BadChance ?kn_BadTable_BadHands ?kn_BadTable_NoVeil ?kv_BadTable ?in_Nought_VeilError ?kt_Nought_VeilError ?in_Nought_BadTable ?in_Nought_Nought ?kt_Nought_Nought ?in_Nought_AlikePoints ?in_Nought_BadSteps ?in_Nought_BadInputs ?in_Nought_BadChance ?in_Nought_BadHands ?in_Nought_NoVeil ?ec_Nought ?kn_Nought_BadTable ?kn_Nought_AlikePoints ?kn_Nought_BadSteps ?kn_Nought_BadInputs ?kn_Nought_BadChance ?kn_Nought_BadHands ?kn_Nought_NoVeil ?kv_Nought ?in_AlikePoints_VeilError ?kt_AlikePoints_VeilError ?in_AlikePoints_BadTable ?in_AlikePoints_Nought ?in_AlikePoints_AlikePoints ?kt_AlikePoints_AlikePoints ?in_AlikePoints_BadSteps ?in_AlikePoints_BadInputs ?in_AlikePoints_BadChance ?in_AlikePoints_BadHands ?in_AlikePoints_NoVeil ?ec_AlikePoints ?kn_AlikePoints_BadTable ?kn_AlikePoints_Nought ?kn_AlikePoints_BadSteps ?kn_AlikePoints_BadInputs ?kn_AlikePoints_BadChance ?kn_AlikePoints_BadHands ?kn_AlikePoints_NoVeil ?kv_AlikePoints ?in_BadSteps_VeilError ?kt_BadSteps_VeilError ?in_BadSteps_BadTable ?in_BadSteps_Nought ?in_BadSteps_AlikePoints ?in_BadSteps_BadSteps ?kt_BadSteps_BadSteps ?in_BadSteps_BadInputs ?in_BadSteps_BadChance ?in_BadSteps_BadHands ?in_BadSteps_NoVeil ?ec_BadSteps ?kn_BadSteps_BadTable ?kn_BadSteps_Nought ?kn_BadSteps_AlikePoints ?kn_BadSteps_BadInputs ?kn_BadSteps_BadChance ?kn_BadSteps_BadHands ?kn_BadSteps_NoVeil ?kv_BadSteps ?in_BadInputs_VeilError ?kt_BadInputs_VeilError ?in_BadInputs_BadTable ?in_BadInputs_Nought ?in_BadInputs_AlikePoints ?in_BadInputs_BadSteps ?in_BadInputs_BadInputs ?kt_BadInputs_BadInputs ?in_BadInputs_BadChance ?in_BadInputs_BadHands ?in_BadInputs_NoVeil ?ec_BadInputs ?kn_BadInputs_BadTable ?kn_BadInputs_Nought ?kn_BadInputs_AlikePoints ?kn_BadInputs_BadSteps ?kn_BadInputs_BadChance ?kn_BadInputs_BadHands ?kn_BadInputs_NoVeil ?kv_BadInputs ?in_BadChance_VeilError ?kt_BadChance_VeilError ?in_BadChance_BadTable ?in_BadChance_Nought ?in_BadChance_AlikePoints ?in_BadChance_BadSteps ?in_BadChance_BadInputs ?in_BadChance_BadChance ?kt_BadChance_BadChance ?in_BadChance_BadHands ?in_BadChance_NoVeil ?ec_BadChance ?kn_BadChance_BadTable ?kn_BadChance_Nought ?kn_BadChance_AlikePoints ?kn_BadChance_BadSteps ?kn_BadChance_BadInputs ?kn_BadChance_BadHands ?kn_BadChance_NoVeil ?kv_BadChance ?in_BadHands_VeilError ?kt_BadHands_VeilError ?in_BadHands_BadTable ?in_BadHands_Nought ?in_BadHands_AlikePoints ?in_BadHands_BadSteps ?in_BadHands_BadInputs ?in_BadHands_BadChance ?in_BadHands_BadHands ?kt_BadHands_BadHands ?in_BadHands_NoVeil ?ec_BadHands ?kn_BadHands_BadTable ?kn_BadHands_Nought ?kn_BadHands_AlikePoints ?kn_BadHands_BadSteps ?kn_BadHands_BadInputs ?kn_BadHands_BadChance ?kn_BadHands_NoVeil ?kv_BadHands ?in_NoVeil_VeilError ?kt_NoVeil_VeilError ?in_NoVeil_BadTable ?in_NoVeil_Nought ?in_NoVeil_AlikePoints ?in_NoVeil_BadSteps ?in_NoVeil_BadInputs ?in_NoVeil_BadChance ?in_NoVeil_BadHands ?in_NoVeil_NoVeil ?kt_NoVeil_NoVeil ?ec_NoVeil ?kn_NoVeil_BadTable ?kn_NoVeil_Nought ?kn_NoVeil_AlikePoints ?kn_NoVeil_BadSteps ?kn_NoVeil_BadInputs ?kn_NoVeil_BadChance ?kn_NoVeil_BadHands ?kv_NoVeil ?z_len ?z_range ?z_isinstance ?z_min ?z_list ?z_int ?z_bool ?z_tuple ?z_reversed ?z_zip ?z_set ?z_all ?z_sum ?z_sorted ?z_enumerate
  (case a1|a2|a3|a4|a5|a6|a7|a8|a9|a10|a11|a12|a13|a14|a15|a16|a17|a18|a19|a20|a21|a22|a23|a24|a25|a26|a27|a28|a29|a30|a31|a32|a33|a34|a35|a36|a37|a38|a39|a40|a41|a42|a43|a44|a45|a46|a47|a48|a49|a50|a51|a52|a53|a54|a55|a56|a57|aC|a58|i58|aCC|a59|i59|a60|i60|a61|i61|a62|i62|a63|i63|a64|i64|a65|i65|pg|hd|po|sa|mk|kc|nP|nH|nF|ap|lp|cpg|chd|cpo|csa|cmk|ckc|cn_table|cn_steps|cn_inputs|cn_parts|cn_shares|cn_letters|aF|lF|lt1|lt2|lt3|lt4|lt5|lt6|lt7|lt8|aM|x_VeilError|o_VeilError|x_BadTable|o_BadTable|x_Nought|o_Nought|x_AlikePoints|o_AlikePoints|x_BadSteps|o_BadSteps|x_BadInputs|o_BadInputs|x_BadChance|o_BadChance|x_BadHands|o_BadHands|x_NoVeil|o_NoVeil|z_len|z_range|z_isinstance|z_min|z_list|z_int|z_bool|z_tuple|z_reversed|z_zip|z_set|z_all|z_sum|z_sorted|z_enumerate => k_is)
  (case h1|h2|h3|h4|h5|h6|h7|h8|h9|h10|h11|h12|h13|h14|h15|h16|h17|h18|h19|h20|h21|h22|h23|h24|h25|h26|h27|h28|h29|h30|h31|h32|h33|h34|h35|h36|h37|h38|h39|h40|h41|h42|h43|h44|h45|h46|h47|h48|h49|h50|h51|h52|h53|h54|h55|h56|h57|h58|h59|h60|h61|h62|h63|h64|h65 => exact ⟨_, ⟨_, _, _, _, _, _, _, _, _, rfl, by k_is, by k_is⟩, by k_is⟩)
  (case vp => exact (.cons ⟨_, rfl⟩ (.cons ⟨_, rfl⟩ (.cons ⟨_, rfl⟩ (.cons ⟨_, rfl⟩ (.cons ⟨_, rfl⟩ (.cons ⟨_, rfl⟩ (.cons ⟨_, rfl⟩ (.cons ⟨_, rfl⟩ (.cons ⟨_, rfl⟩ .nil))))))))))
  (case sF => rfl)
  (case vt1|vt2|vt7|vt8 => exact (.cons ⟨_, rfl⟩ .nil))
  (case vt3|vt4|vt5|vt6 => exact (.cons ⟨_, rfl⟩ (.cons ⟨_, rfl⟩ .nil)))
  (case e_VeilError|e_BadTable|e_Nought|e_AlikePoints|e_BadSteps|e_BadInputs|e_BadChance|e_BadHands|e_NoVeil => k_exc)
  (case in_VeilError_VeilError|in_VeilError_BadTable|in_VeilError_Nought|in_VeilError_AlikePoints|in_VeilError_BadSteps|in_VeilError_BadInputs|in_VeilError_BadChance|in_VeilError_BadHands|in_VeilError_NoVeil|in_BadTable_VeilError|in_BadTable_BadTable|in_BadTable_Nought|in_BadTable_AlikePoints|in_BadTable_BadSteps|in_BadTable_BadInputs|in_BadTable_BadChance|in_BadTable_BadHands|in_BadTable_NoVeil|in_Nought_VeilError|in_Nought_BadTable|in_Nought_Nought|in_Nought_AlikePoints|in_Nought_BadSteps|in_Nought_BadInputs|in_Nought_BadChance|in_Nought_BadHands|in_Nought_NoVeil|in_AlikePoints_VeilError|in_AlikePoints_BadTable|in_AlikePoints_Nought|in_AlikePoints_AlikePoints|in_AlikePoints_BadSteps|in_AlikePoints_BadInputs|in_AlikePoints_BadChance|in_AlikePoints_BadHands|in_AlikePoints_NoVeil|in_BadSteps_VeilError|in_BadSteps_BadTable|in_BadSteps_Nought|in_BadSteps_AlikePoints|in_BadSteps_BadSteps|in_BadSteps_BadInputs|in_BadSteps_BadChance|in_BadSteps_BadHands|in_BadSteps_NoVeil|in_BadInputs_VeilError|in_BadInputs_BadTable|in_BadInputs_Nought|in_BadInputs_AlikePoints|in_BadInputs_BadSteps|in_BadInputs_BadInputs|in_BadInputs_BadChance|in_BadInputs_BadHands|in_BadInputs_NoVeil|in_BadChance_VeilError|in_BadChance_BadTable|in_BadChance_Nought|in_BadChance_AlikePoints|in_BadChance_BadSteps|in_BadChance_BadInputs|in_BadChance_BadChance|in_BadChance_BadHands|in_BadChance_NoVeil|in_BadHands_VeilError|in_BadHands_BadTable|in_BadHands_Nought|in_BadHands_AlikePoints|in_BadHands_BadSteps|in_BadHands_BadInputs|in_BadHands_BadChance|in_BadHands_BadHands|in_BadHands_NoVeil|in_NoVeil_VeilError|in_NoVeil_BadTable|in_NoVeil_Nought|in_NoVeil_AlikePoints|in_NoVeil_BadSteps|in_NoVeil_BadInputs|in_NoVeil_BadChance|in_NoVeil_BadHands|in_NoVeil_NoVeil => first | rfl | decide)
  (case kt_VeilError_VeilError|kn_VeilError_BadTable|kn_VeilError_Nought|kn_VeilError_AlikePoints|kn_VeilError_BadSteps|kn_VeilError_BadInputs|kn_VeilError_BadChance|kn_VeilError_BadHands|kn_VeilError_NoVeil|kv_VeilError|kt_BadTable_VeilError|kt_BadTable_BadTable|kn_BadTable_Nought|kn_BadTable_AlikePoints|kn_BadTable_BadSteps|kn_BadTable_BadInputs|kn_BadTable_BadChance|kn_BadTable_BadHands|kn_BadTable_NoVeil|kv_BadTable|kt_Nought_VeilError|kt_Nought_Nought|kn_Nought_BadTable|kn_Nought_AlikePoints|kn_Nought_BadSteps|kn_Nought_BadInputs|kn_Nought_BadChance|kn_Nought_BadHands|kn_Nought_NoVeil|kv_Nought|kt_AlikePoints_VeilError|kt_AlikePoints_AlikePoints|kn_AlikePoints_BadTable|kn_AlikePoints_Nought|kn_AlikePoints_BadSteps|kn_AlikePoints_BadInputs|kn_AlikePoints_BadChance|kn_AlikePoints_BadHands|kn_AlikePoints_NoVeil|kv_AlikePoints|kt_BadSteps_VeilError|kt_BadSteps_BadSteps|kn_BadSteps_BadTable|kn_BadSteps_Nought|kn_BadSteps_AlikePoints|kn_BadSteps_BadInputs|kn_BadSteps_BadChance|kn_BadSteps_BadHands|kn_BadSteps_NoVeil|kv_BadSteps|kt_BadInputs_VeilError|kt_BadInputs_BadInputs|kn_BadInputs_BadTable|kn_BadInputs_Nought|kn_BadInputs_AlikePoints|kn_BadInputs_BadSteps|kn_BadInputs_BadChance|kn_BadInputs_BadHands|kn_BadInputs_NoVeil|kv_BadInputs|kt_BadChance_VeilError|kt_BadChance_BadChance|kn_BadChance_BadTable|kn_BadChance_Nought|kn_BadChance_AlikePoints|kn_BadChance_BadSteps|kn_BadChance_BadInputs|kn_BadChance_BadHands|kn_BadChance_NoVeil|kv_BadChance|kt_BadHands_VeilError|kt_BadHands_BadHands|kn_BadHands_BadTable|kn_BadHands_Nought|kn_BadHands_AlikePoints|kn_BadHands_BadSteps|kn_BadHands_BadInputs|kn_BadHands_BadChance|kn_BadHands_NoVeil|kv_BadHands|kt_NoVeil_VeilError|kt_NoVeil_NoVeil|kn_NoVeil_BadTable|kn_NoVeil_Nought|kn_NoVeil_AlikePoints|kn_NoVeil_BadSteps|kn_NoVeil_BadInputs|kn_NoVeil_BadChance|kn_NoVeil_BadHands|kv_NoVeil => kit_is)
  (case ec_VeilError|ec_BadTable|ec_Nought|ec_AlikePoints|ec_BadSteps|ec_BadInputs|ec_BadChance|ec_BadHands|ec_NoVeil => exact ⟨by k_is, by k_is, by k_is, by k_is, by k_is⟩)
#print axioms PySem.Challenge.cw_veilsum_k20_which_exchange_holds