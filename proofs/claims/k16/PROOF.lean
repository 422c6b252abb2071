import PyProof.Rows.All
import Wide.All
import OpenK.AllK
import Wide.FinOn
import Lean
import PyProof.EqAt
import PyProof.EqKinds
import PyProof.TupleCall
import PySem.Challenge.RW_veilsum_k16_veils
set_option Elab.async false
set_option linter.all false
set_option maxRecDepth 100000
/-! THE HAND LAYER, for ints, bools, texts, own classes, LISTS and tuples (index, slices, in, append, pop ..), calls, loops. Paste it whole ahead of your own text; what your proof does not reach may be deleted. -/
namespace L2
open PySem PySem.Spec PyProof.Rows
/-- a key: an int or a str -/
abbrev Key := Sum Int Str
def keyIs : Key → Value → Bool
  | .inl k, v => Value.isInt k v
  | .inr x, v => Value.isStrOf x v
def keyH (w : World) : Key → Int
  | .inl k => hashInt k
  | .inr x => hashStr w x
theorem keyIs_shape : ∀ {k : Key} {v : Value}, keyIs k v = true → (∃ i t, k = Sum.inl i ∧ v = Value.int i t) ∨ (∃ x t, k = Sum.inr x ∧ v = Value.str x t)
  | .inl i, v, h => by
    obtain ⟨t, e⟩ := Value.isInt_shape (k := i) (v := v) h
    exact .inl ⟨i, t, rfl, e⟩
  | .inr x, v, h => by
    obtain ⟨t, e⟩ := Value.isStrOf_shape (x := x) (v := v) h
    exact .inr ⟨x, t, rfl, e⟩
theorem key_ll (a b : Int) : decide ((Sum.inl a : Key) = Sum.inl b) = (a == b) := by
  by_cases e : a = b
  · subst e; simp
  · have h : ¬ (Sum.inl a : Key) = Sum.inl b := fun q => e (Sum.inl.inj q)
    rw [decide_eq_false h]
    exact (beq_eq_false_iff_ne.mpr e).symm
theorem key_rr (a b : Str) : decide ((Sum.inr a : Key) = Sum.inr b) = decide (a = b) := by
  by_cases e : a = b
  · subst e; simp
  · have h : ¬ (Sum.inr a : Key) = Sum.inr b := fun q => e (Sum.inr.inj q)
    rw [decide_eq_false h, decide_eq_false e]
theorem key_lr (a : Int) (b : Str) : decide ((Sum.inl a : Key) = Sum.inr b) = false := decide_eq_false (fun q => nomatch q)
theorem key_rl (a : Str) (b : Int) : decide ((Sum.inr a : Key) = Sum.inl b) = false := decide_eq_false (fun q => nomatch q)
def mixKind (prog : Program) (w : World) : PySem.KeyKind prog w Key where
  is := keyIs
  hash := keyH w
  inj := fun v a b ha hb => by
    rcases keyIs_shape ha with ⟨i, t, rfl, rfl⟩ | ⟨x, t, rfl, rfl⟩
    · rcases keyIs_shape hb with ⟨j, u, rfl, e⟩ | ⟨y, u, rfl, e⟩
      · injection e with e1 _; rw [e1]
      · exact nomatch e
    · rcases keyIs_shape hb with ⟨j, u, rfl, e⟩ | ⟨y, u, rfl, e⟩
      · exact nomatch e
      · injection e with e1 _; rw [e1]
  byValue := fun k v h => by
    rcases keyIs_shape h with ⟨i, t, rfl, rfl⟩ | ⟨x, t, rfl, rfl⟩ <;> rfl
  pyHash := fun hv h => by
    rcases keyIs_shape hv with ⟨i, t, rfl, rfl⟩ | ⟨x, t, rfl, rfl⟩
    · exact wpAny_pyHash_int h
    · exact wpAny_pyHash_str h
  eqBool := fun hu hv h => by
    rcases keyIs_shape hu with ⟨i, t, rfl, rfl⟩ | ⟨x, t, rfl, rfl⟩
    · rcases keyIs_shape hv with ⟨j, u, rfl, rfl⟩ | ⟨y, u, rfl, rfl⟩
      · rw [key_ll] at h; exact wpAny_eqBool_int h
      · rw [key_lr] at h; exact SeqAt.EqAt.int_str i t y u _ _ _ _ h
    · rcases keyIs_shape hv with ⟨j, u, rfl, rfl⟩ | ⟨y, u, rfl, rfl⟩
      · rw [key_rl] at h; exact SeqAt.EqAt.str_int x t j u _ _ _ _ h
      · rw [key_rr] at h; exact wpAny_eqBool_str h
  «strs» := fun k x t v h => by
    rcases keyIs_shape h with ⟨i, u, rfl, e⟩ | ⟨y, u, rfl, e⟩
    · exact nomatch e
    · injection e with e1 _
      subst e1
      cases v <;> rfl
end L2
namespace L2
open PySem PySem.Spec PyProof.Rows
/-- a value, without the heap -/
inductive V where
  | non | bl (b : Bool) | int (i : Int) | str (x : Str) | byt (b : Array UInt8) | flt (b : UInt64) | ref (a : Addr) | ty (n : String)
  deriving DecidableEq
def RelV : V → Value → Prop
  | .non, u => u = Value.none
  | .bl b, u => u = Value.bool b
  | .int i, u => ∃ t, u = Value.int i t
  | .str x, u => ∃ t, u = Value.str x t
  | .byt b, u => ∃ t, u = Value.bytes b t
  | .flt b, u => ∃ t, u = Value.float b t
  | .ref a, u => u = Value.ref a
  | .ty n, u => u = Value.type n
abbrev Vals : List V → List Value → Prop := Paired RelV
theorem Vals.length {xs : List V} {us : List Value} (r : Vals xs us) : xs.length = us.length := Paired.length r
theorem Vals.get : ∀ {xs : List V} {us : List Value} {i : Nat} {x : V}, Vals xs us → xs[i]? = some x → ∃ u, us[i]? = some u ∧ RelV x u
  | _, _, _, _, .nil, e => by simp at e
  | _, _, 0, _, .cons r _, e => by simp at e; subst e; exact ⟨_, rfl, r⟩
  | _, _, i + 1, x, .cons _ t, e => by
    obtain ⟨u, h1, h2⟩ := Vals.get (i := i) (x := x) t (by simpa using e)
    exact ⟨u, by simpa using h1, h2⟩
theorem Vals.set {x : V} {u : Value} (r : RelV x u) : ∀ {xs : List V} {us : List Value} (i : Nat), Vals xs us → Vals (xs.set i x) (us.set i u)
  | _, _, _, .nil => .nil
  | _, _, 0, .cons _ t => .cons r t
  | _, _, i + 1, .cons q t => .cons q (Vals.set r i t)
theorem Vals.append : ∀ {xs ys : List V} {us ws : List Value}, Vals xs us → Vals ys ws → Vals (xs ++ ys) (us ++ ws)
  | _, _, _, _, .nil, s => s
  | _, _, _, _, .cons r t, s => .cons r (Vals.append t s)
theorem Vals.take : ∀ {xs : List V} {us : List Value} (n : Nat), Vals xs us → Vals (xs.take n) (us.take n)
  | _, _, 0, _ => .nil
  | _, _, _ + 1, .nil => .nil
  | _, _, n + 1, .cons r t => .cons r (Vals.take n t)
theorem Vals.drop : ∀ {xs : List V} {us : List Value} (n : Nat), Vals xs us → Vals (xs.drop n) (us.drop n)
  | _, _, 0, r => r
  | _, _, _ + 1, .nil => .nil
  | _, _, n + 1, .cons _ t => Vals.drop n t
def RelO : Option V → Option Value → Prop
  | some v, some u => RelV v u
  | none, none => True
  | _, _ => False
def KV {κ : Type} : List (κ × V) → List (κ × Value) → Prop := Paired fun (p : κ × V) (q : κ × Value) => p.1 = q.1 ∧ RelV p.2 q.2
/-- a key of a dict (00_mix): an int or a text -/
def kV : Key → V
  | .inl i => .int i
  | .inr x => .str x
/-- what stands at a tracked address -/
inductive HO where
  /-- a list -/
  | lst (xs : List V)
  /-- a tuple (never changes) -/
  | tup (xs : List V)
  /-- a dict whose keys are ints and texts; one whose keys are tuples of ints and texts (the empty one is both) -/
  | dK (kvs : List (Key × V)) | dT (kvs : List (List Key × V))
  /-- a set of ints: its members, its size -/
  | set (S : Int → Bool) (n : Nat)
  /-- an instance of the class at C, its dict at dx, its attributes -/
  | ins (C dx : Addr) (fs : List (Str × V))
  /-- the dict of the instance at x -/
  | own (x : Addr)
  /-- the dict of an exception -/
  | xd (fs : List (Str × V))
  /-- a bound method, f of x -/
  | met (f x : Addr)
  /-- a range object lo, lo + 1, .. below hi -/
  | rng (lo hi : Int)
  /-- a thing that is known to the object (the script; a dict while a loop walks it): read, never written while it is so -/
  | frz (o : Obj) (u : HO)
  /-- a code object's table -/
  | tbl (ps : Array Value)
  /-- any other thing, by what is true of its one object (a def of one's own: SetO a S n := HO.ext fun h => ..) -/
  | ext (φ : Heap → Prop)
abbrev Hp := Addr → Option HO
def upd (H : Hp) (a : Addr) (o : HO) : Hp := fun b => if b = a then some o else H b
theorem upd_same {H : Hp} {a : Addr} {o : HO} : upd H a o a = some o := by unfold upd; rw [if_pos rfl]
theorem upd_ne {H : Hp} {a b : Addr} {o : HO} (h : b ≠ a) : upd H a o b = H b := by unfold upd; rw [if_neg h]
/-- two objects of different content stand apart -/
theorem ne_of {H : Hp} {a b : Addr} {o u : HO} (h : H a = some o) (h' : H b = some u) (d : o ≠ u) : a ≠ b := by
  intro e; subst e; rw [h] at h'; exact d (Option.some.inj h')
theorem ne_of_none {H : Hp} {a b : Addr} {o : HO} (h : H a = some o) (h' : H b = none) : a ≠ b := by
  intro e; subst e; rw [h] at h'; cases h'
section
variable (P : Program) (w : World)
def ObjOk (H : Hp) (h : Heap) (a : Addr) : HO → Prop
  | .lst xs => xs.length ≤ sizeLine ∧ ∃ (its : List Value) (n : Nat), Vals xs its ∧ h.get? a = some { cls := .type "list", data := .seq its.toArray n }
  | .tup xs => xs.length ≤ sizeLine ∧ ∃ its : List Value, Vals xs its ∧ IsTup h a its.toArray
  | .dK kvs => kvs.length ≤ sizeLine ∧ (a == sysModules) = false ∧ ∃ vs, KV kvs vs ∧ h.DictOf (mixKind P w) a vs
  | .dT kvs => kvs.length ≤ sizeLine ∧ (a == sysModules) = false ∧ ∃ xs : List (List Key × Addr × Value),
      Paired (fun (p : List Key × V) (q : List Key × Addr × Value) => p.1 = q.1 ∧ H q.2.1 = some (.tup (p.1.map kV)) ∧ RelV p.2 q.2.2) kvs xs ∧
      ∃ o es ep, h.get? a = some o ∧ o.ExactDict ∧ o.data = .dict es ep ∧ es.toList = xs.map (entryOfKey (tupleKind (mixKind P w))) ∧ (xs.map (·.1)).Nodup
  | .set S n => h.SetOf (intKind P w) a S n
  | .ins C dx fs => H dx = some (.own a) ∧ fs.length ≤ 1000 ∧ dx ≠ a ∧ h.get? a = some (PySem.W.instObj C dx) ∧
      ∃ mA, h.Ns1 dx mA ∧ (∀ f, RelO (fs.lookup f) (mA f)) ∧ PySem.Within mA (fs.map (·.1))
  | .own _ => ∃ o, h.get? a = some o
  | .xd fs => ∃ mA, h.Ns1 a mA ∧ ∀ f, RelO (fs.lookup f) (mA f)
  | .rng lo hi => ∃ t u v, h.get? a = some { cls := .type "range", data := .fields #[.int lo t, .int hi u, .int 1 v] }
  | .frz o u => h.get? a = some o ∧ ObjOk H h a u
  | .tbl ps => h.get? a = some { cls := .none, data := .fields ps }
  | .met f x => h.get? a = some (PySem.W.methodObj (.ref f) (.ref x))
  | .ext φ => φ h ∧ (∃ o, h.get? a = some o) ∧ ∀ h1 h2 : Heap, φ h1 → (∀ o, h1.get? a = some o → h2.get? a = some o) → φ h2
/-- the abstract heap is held -/
def HOk (H : Hp) (h : Heap) : Prop := ∀ a o, H a = some o → ObjOk P w H h a o
end
section
variable {P : Program} {w : World} {H H' : Hp} {h h' : Heap} {a : Addr} {o : HO}
theorem ObjOk.lt (x : ObjOk P w H h a o) : a < h.objs.size := by
  cases o with
  | lst xs => obtain ⟨_, _, _, _, e⟩ := x; exact Heap.lt_size e
  | tup xs => obtain ⟨_, _, _, p⟩ := x; exact p.lt
  | dK kvs => obtain ⟨_, _, _, _, o, _, _, e, _⟩ := x; exact Heap.lt_size e
  | dT kvs => obtain ⟨_, _, _, _, o, _, _, e, _⟩ := x; exact Heap.lt_size e
  | set S n => obtain ⟨o, _, _, _, e, _⟩ := x; exact Heap.lt_size e
  | ins C dx fs => obtain ⟨_, _, _, e, _⟩ := x; exact Heap.lt_size e
  | own y => obtain ⟨_, e⟩ := x; exact Heap.lt_size e
  | xd fs => obtain ⟨_, ⟨_, _, _, e, _⟩, _⟩ := x; exact Heap.lt_size e
  | rng lo hi => obtain ⟨_, _, _, e⟩ := x; exact Heap.lt_size e
  | frz ob u => obtain ⟨e, _⟩ := x; exact Heap.lt_size e
  | tbl ps => exact Heap.lt_size (show h.get? a = some _ from x)
  | met f y => exact Heap.lt_size (show h.get? a = some _ from x)
  | ext φ => obtain ⟨_, ⟨_, e⟩, _⟩ := x; exact Heap.lt_size e
theorem Paired.mapP {α β : Type} {F G : α → β → Prop} : ∀ {l₁ : List α} {l₂ : List β}, Paired F l₁ l₂ → (∀ a b, F a b → G a b) → Paired G l₁ l₂
  | _, _, .nil, _ => .nil
  | _, _, .cons r t, f => .cons (f _ _ r) (Paired.mapP t f)
/-- what an object's description leans on: its own object, its own dict, the tuples -/
theorem ObjOk.stay (x : ObjOk P w H h a o) (k : ∀ b u, (b = a ∨ H b = some (.own a)) → h.get? b = some u → h'.get? b = some u)
    (ho : ∀ b, H b = some (.own a) → H' b = some (.own a)) (ht : ∀ b xs, H b = some (.tup xs) → H' b = some (.tup xs)) : ObjOk P w H' h' a o := by
  induction o with
  | lst xs => obtain ⟨z, its, n, r, e⟩ := x; exact ⟨z, its, n, r, k _ _ (.inl rfl) e⟩
  | tup xs => obtain ⟨z, its, r, ob, e, c⟩ := x; exact ⟨z, its, r, ob, k _ _ (.inl rfl) e, c⟩
  | dK kvs => obtain ⟨z, y, vs, r, ob, es, ep, e, c⟩ := x; exact ⟨z, y, vs, r, ob, es, ep, k _ _ (.inl rfl) e, c⟩
  | dT kvs =>
    obtain ⟨z, y, xs, r, ob, es, ep, e, c⟩ := x
    exact ⟨z, y, xs, Paired.mapP r fun p q z => ⟨z.1, ht _ _ z.2.1, z.2.2⟩, ob, es, ep, k _ _ (.inl rfl) e, c⟩
  | set S n => obtain ⟨ob, es, ep, t, e, c⟩ := x; exact ⟨ob, es, ep, t, k _ _ (.inl rfl) e, c⟩
  | ins C dx fs =>
    obtain ⟨d, z, ne, e, mA, ⟨od, es, ep, e2, c⟩, r⟩ := x
    exact ⟨ho _ d, z, ne, k _ _ (.inl rfl) e, mA, ⟨od, es, ep, k _ _ (.inr d) e2, c⟩, r⟩
  | own y => obtain ⟨ob, e⟩ := x; exact ⟨ob, k _ _ (.inl rfl) e⟩
  | xd fs => obtain ⟨mA, ⟨od, es, ep, e, c⟩, r⟩ := x; exact ⟨mA, ⟨od, es, ep, k _ _ (.inl rfl) e, c⟩, r⟩
  | rng lo hi => obtain ⟨t, u, v, e⟩ := x; exact ⟨t, u, v, k _ _ (.inl rfl) e⟩
  | frz ob u ih => obtain ⟨e, q⟩ := x; exact ⟨k _ _ (.inl rfl) e, ih q⟩
  | tbl ps =>
    have e : h.get? a = some { cls := .none, data := .fields ps } := x
    show h'.get? a = some { cls := .none, data := .fields ps }
    exact k a _ (.inl rfl) e
  | met f y =>
    have e : h.get? a = some (PySem.W.methodObj (.ref f) (.ref y)) := x
    show h'.get? a = some (PySem.W.methodObj (.ref f) (.ref y))
    exact k a _ (.inl rfl) e
  | ext φ => obtain ⟨p, ⟨o, e⟩, st⟩ := x; exact ⟨st _ _ p fun o q => k _ _ (.inl rfl) q, ⟨o, k _ _ (.inl rfl) e⟩, st⟩
theorem HOk.lt (x : HOk P w H h) (e : H a = some o) : a < h.objs.size := (x a o e).lt
theorem HOk.fresh (x : HOk P w H h) (e : h.objs.size ≤ a) : H a = none := by
  cases q : H a with
  | none => rfl
  | some u => exact absurd (Nat.lt_of_lt_of_le (x.lt q) e) (Nat.lt_irrefl _)
/-- every object of the heap is kept -/
theorem HOk.kept (x : HOk P w H h) (k : ∀ b u, h.get? b = some u → h'.get? b = some u) : HOk P w H h' := fun a o e =>
  (x a o e).stay (fun b u _ q => k b u q) (fun _ q => q) fun _ _ q => q
/-- a new object is laid and tracked -/
theorem HOk.laid (x : HOk P w H h) (k : ∀ b u, h.get? b = some u → h'.get? b = some u) (hp : h.objs.size ≤ a) (new : ObjOk P w (upd H a o) h' a o) : HOk P w (upd H a o) h' := fun b u e => by
  have hn := x.fresh hp
  by_cases hb : b = a
  · subst hb; rw [upd_same] at e; cases e; exact new
  · rw [upd_ne hb] at e
    exact (x b u e).stay (fun c v _ q => k c v q) (fun c q => by rw [upd_ne (ne_of_none q hn)]; exact q) fun c xs q => by rw [upd_ne (ne_of_none q hn)]; exact q
end
/-- what may be read as u: it is u, or a known u -/
def Rd (H : Hp) (a : Addr) (u : HO) : Prop := H a = some u ∨ ∃ o, H a = some (.frz o u)
theorem Rd.of {H : Hp} {a : Addr} {u : HO} (h : H a = some u) : Rd H a u := .inl h
theorem Rd.ok {P : Program} {w : World} {H : Hp} {h : Heap} {a : Addr} {u : HO} (r : Rd H a u) (x : HOk P w H h) : ObjOk P w H h a u := by
  rcases r with r | ⟨o, r⟩
  · exact x a u r
  · obtain ⟨_, q⟩ := x a _ r
    exact q
/-- what may be written -/
def Mut : Option HO → Prop
  | some (.lst _) => True
  | some (.dK _) => True
  | some (.dT _) => True
  | some (.set _ _) => True
  | some (.ins _ _ _) => True
  | some (.ext _) => True
  | _ => False
section
variable {P : Program} {w : World} {H : Hp} {h h' : Heap} {x e : Addr} {o' : HO}
/-- the object at e is changed: x itself, or the dict of the instance x -/
theorem HOk.write (ok : HOk P w H h) (mu : Mut (H x)) (he : e = x ∨ H e = some (.own x)) (k : ∀ b u, b ≠ e → h.get? b = some u → h'.get? b = some u) (heo : ∃ u, h'.get? e = some u)
    (new : ObjOk P w (upd H x o') h' x o') : HOk P w (upd H x o') h' := fun b u q => by
  have nown : ∀ c y, H c = some (.own y) → c ≠ x := fun c y r z => by subst z; rw [r] at mu; exact mu
  have ntup : ∀ c xs, H c = some (.tup xs) → c ≠ x := fun c xs r z => by subst z; rw [r] at mu; exact mu
  by_cases hb : b = x
  · subst hb; rw [upd_same] at q; cases q; exact new
  · rw [upd_ne hb] at q
    by_cases hbe : b = e
    · have q' : H b = some (.own x) := by
        rcases he with z | z
        · exact absurd (hbe.trans z) hb
        · rw [hbe]; exact z
      rw [q] at q'; cases q'
      obtain ⟨v, hv⟩ := heo
      exact ⟨v, by rw [hbe]; exact hv⟩
    · refine (ok b u q).stay (fun c v hc r => k c v ?_ r) (fun c r => by rw [upd_ne (nown c b r)]; exact r) fun c xs r => by rw [upd_ne (ntup c xs r)]; exact r
      rcases hc with rfl | hc
      · exact hbe
      · rintro rfl
        rcases he with z | z
        · exact nown c b hc z
        · rw [hc] at z; cases z; exact hb rfl
end
/-! ### kept unless tracked; of the frames at fs (the callers') the slots may change (an exception that passes writes there); of the records at ex (iterators) nothing is said -/
structure Un (fs ex : List Addr) (H H' : Hp) (h h' : Heap) : Prop where
  keep : ∀ b o, h.get? b = some o → H b = none → b ∉ fs → b ∉ ex → h'.get? b = some o
  slot : ∀ b o, h.get? b = some o → H b = none → b ∈ fs → b ∉ ex → ∃ sl, h'.get? b = some { o with slots := sl }
  free : ∀ b o, h.get? b = some o → H b = none → b ∉ ex → H' b = none
  there : ∀ b o, h.get? b = some o → b ∉ ex → ∃ o', h'.get? b = some o'
  tups : ∀ b xs, H b = some (.tup xs) → H' b = some (.tup xs)
  frzs : ∀ b o u, H b = some (.frz o u) → H' b = some (.frz o u)
  tbls : ∀ b ps, H b = some (.tbl ps) → ∃ more, H' b = some (.tbl (ps ++ more))
section
variable {fs fs' ex ex' : List Addr} {H H1 H2 : Hp} {h h1 h2 h' : Heap} {a x e : Addr} {o : HO}
theorem Un.any (u : Un fs ex H H1 h h1) {b : Addr} {ob : Obj} (q : h.get? b = some ob) (n : H b = none) (hx : b ∉ ex) : ∃ sl, h1.get? b = some { ob with slots := sl } := by
  by_cases hb : b ∈ fs
  · exact u.slot b ob q n hb hx
  · exact ⟨ob.slots, u.keep b ob q n hb hx⟩
theorem Un.trans (a : Un fs ex H H1 h h1) (b : Un fs ex H1 H2 h1 h2) : Un fs ex H H2 h h2 where
  keep := fun c ob q n hc hx => b.keep c ob (a.keep c ob q n hc hx) (a.free c ob q n hx) hc hx
  slot := fun c ob q n hc hx => by
    obtain ⟨sl, e1⟩ := a.slot c ob q n hc hx
    obtain ⟨sl', e2⟩ := b.slot c _ e1 (a.free c ob q n hx) hc hx
    exact ⟨sl', e2⟩
  free := fun c ob q n hx => by
    obtain ⟨o', e1⟩ := a.there c ob q hx
    exact b.free c o' e1 (a.free c ob q n hx) hx
  there := fun c ob q hx => by
    obtain ⟨o', e1⟩ := a.there c ob q hx
    exact b.there c o' e1 hx
  tups := fun c xs q => b.tups c xs (a.tups c xs q)
  frzs := fun c ob xs q => b.frzs c ob xs (a.frzs c ob xs q)
  tbls := fun c ps q => by
    obtain ⟨m1, e1⟩ := a.tbls c ps q
    obtain ⟨m2, e2⟩ := b.tbls c _ e1
    exact ⟨m1 ++ m2, by rw [e2, Array.append_assoc]⟩
theorem Un.kept (k : ∀ b u, h.get? b = some u → h'.get? b = some u) : Un fs ex H H h h' :=
  ⟨fun b ob q _ _ _ => k b ob q, fun b ob q _ _ _ => ⟨ob.slots, k b ob q⟩, fun _ _ _ n _ => n, fun b ob q _ => ⟨ob, k b ob q⟩, fun _ _ q => q, fun _ _ _ q => q, fun _ ps q => ⟨#[], by rw [q]; simp⟩⟩
theorem Un.refl : Un fs ex H H h h := Un.kept fun _ _ q => q
theorem Un.laid (k : ∀ b u, h.get? b = some u → h'.get? b = some u) (hp : h.objs.size ≤ a) (hn : H a = none) : Un fs ex H (upd H a o) h h' where
  keep := fun b u q _ _ _ => k b u q
  slot := fun b u q _ _ _ => ⟨u.slots, k b u q⟩
  free := fun b u q n _ => by rw [upd_ne (Nat.ne_of_lt (Nat.lt_of_lt_of_le (Heap.lt_size q) hp))]; exact n
  there := fun b u q _ => ⟨u, k b u q⟩
  tups := fun b xs q => by rw [upd_ne (ne_of_none q hn)]; exact q
  frzs := fun b u xs q => by rw [upd_ne (ne_of_none q hn)]; exact q
  tbls := fun b ps q => ⟨#[], by rw [upd_ne (ne_of_none q hn), q]; simp⟩
theorem Un.write (mu : Mut (H x)) (he : e = x ∨ H e = some (.own x)) (k : ∀ b u, b ≠ e → h.get? b = some u → h'.get? b = some u) (heo : ∃ u, h'.get? e = some u) : Un fs ex H (upd H x o) h h' := by
  have hx : ∀ b, H b = none → b ≠ x := fun b n z => by subst z; rw [n] at mu; exact mu
  have hb : ∀ b, H b = none → b ≠ e := fun b n z => by
    subst z
    rcases he with r | r
    · exact hx b n r
    · rw [n] at r; cases r
  have hm : ∀ b u, H b = some u → ¬ Mut (some u) → b ≠ x := fun b u q nm z => by subst z; rw [q] at mu; exact nm mu
  refine ⟨fun b u q n _ _ => k b u (hb b n) q, fun b u q n _ _ => ⟨u.slots, k b u (hb b n) q⟩, fun b u q n _ => by rw [upd_ne (hx b n)]; exact n, fun b u q _ => ?_,
    fun b xs q => by rw [upd_ne (hm b _ q fun z => z)]; exact q, fun b u xs q => by rw [upd_ne (hm b _ q fun z => z)]; exact q, fun b ps q => ⟨#[], by rw [upd_ne (hm b _ q fun z => z), q]; simp⟩⟩
  by_cases hbe : b = e
  · subst hbe; exact heo
  · exact ⟨u, k b u hbe q⟩
theorem Un.mono (u : Un fs ex H H1 h h1) (hs : ∀ b ∈ fs, b ∈ fs') (hx : ∀ b ∈ ex, b ∈ ex') : Un fs' ex' H H1 h h1 :=
  ⟨fun b ob q n hb he => u.keep b ob q n (fun z => hb (hs b z)) fun z => he (hx b z), fun _ _ q n _ he => u.any q n fun z => he (hx _ z), fun b ob q n he => u.free b ob q n fun z => he (hx b z), fun b ob q he => u.there b ob q fun z => he (hx b z), u.tups, u.frzs, u.tbls⟩
end
/-! ### the heap without what is tracked -/
def trk (h : Heap) (H : Hp) : List Addr := (List.range h.objs.size).filter fun a => (H a).isSome
def hidT (h : Heap) (H : Hp) : Heap := PySem.W.hideAll h (trk h H)
theorem hidT_size (h : Heap) (H : Hp) : (hidT h H).objs.size = h.objs.size := PySem.W.hideAll_size _ _
theorem hidT_get {h : Heap} {H : Hp} {b : Addr} {o : Obj} (e : h.get? b = some o) (n : H b = none) : (hidT h H).get? b = some o :=
  PySem.W.hideAll_get _ e fun hm => by
    have q : (H b).isSome = true := (List.mem_filter.mp hm).2
    rw [n] at q; simp at q
theorem of_hidT {h : Heap} {H : Hp} {b : Addr} {o : Obj} (e : (hidT h H).get? b = some o) : h.get? b = some o ∧ H b = none := by
  have e' : h.get? b = some o := PySem.W.of_hideAll (trk h H) e
  refine ⟨e', ?_⟩
  cases q : H b with
  | none => rfl
  | some x =>
    have hm : b ∈ trk h H := List.mem_filter.mpr ⟨List.mem_range.mpr (Heap.lt_size e'), by simp [q]⟩
    have z : (hidT h H).get? b = none := PySem.W.hideAll_none (trk h H) hm
    rw [z] at e; cases e
/-! ### OpenK's ledger, filled with every new object but one -/
def allNews (g h : Heap) (L : Addr) : List (Addr × Obj) := (List.range h.objs.size).filterMap fun a => if a = L ∨ (g.get? a).isSome = true then none else (h.get? a).map fun o => (a, o)
def rest (g h : Heap) (L d : Addr) : List (Addr × Obj) := (allNews g h L).filter fun p => decide (p.1 ≠ d)
end L2
namespace L2
open PySem PySem.Spec PyProof.Rows
/-- the module's facts, over the base: the heap at the law's entry without what is tracked there -/
structure Mod (K : PySem.W.Frag) (mg : Str → Option Value) (base : Heap) : Prop where
  kin : K.In base
  glob : base.Ns mainGlobals mg
  blt : ∃ mb, base.Ns builtinsNs mb ∧ ∀ x : Str, x ≠ "__name__" → mb x = bootBuiltins x
  nolimit : base.NoLimit
/-- the context: a def's body (or a comprehension's block) running. base: fixed through the whole law; s₀, H₀: the entry; outer: the frames whose slots others may change (a def's callers); stack: all frames that run;
   ex: iterators that were made ahead of the entry and are walked here (a comprehension's); fn: the names whose cells were made at the entry (a def: all; a comprehension's block: its own); calm: not within an except suite; pn: pins that every state bears; xe: what is wanted of an exception that leaves the code -/
structure Cx where
  prog : Program
  w : World
  K : PySem.W.Frag
  mg : Str → Option Value
  base : Heap
  A : Around
  N : List Str
  s₀ : Shared
  H₀ : Hp
  env : Env
  outer : List Env
  stack : List Env
  ex : List Addr
  fn : Str → Bool
  calm : Bool
  pn : List (Addr × Obj)
  xe : Value → Shared → Prop
/-- the callers' frames -/
def frs (l : List Env) : List Addr := l.filterMap (·.frame)
abbrev Cx.fs (X : Cx) : List Addr := frs X.outer
def Vis (sc : Scope) (x : Str) : Prop := sc.names.lookup x = some .local ∨ sc.names.lookup x = some .cell ∨ sc.names.lookup x = some .free
def Loc (sc : Scope) (x : Str) : Prop := sc.names.lookup x = some .local ∨ sc.names.lookup x = some .cell
def Look (env : Env) (h : Heap) (m : Str → Option Value) (x : Str) (u : Value) : Prop :=
  (env.kindOf x = some .local ∧ m x = some u) ∨ ((env.kindOf x = some .cell ∨ env.kindOf x = some .free) ∧ ∃ c, env.cells.lookup x = some c ∧ h.IsCell c (some u))
structure Cx.Ok (X : Cx) : Prop where
  mod : Mod X.K X.mg X.base
  kind : X.env.scope.kind = .function
  glob : X.env.globals = mainGlobals
  blt : X.env.builtins = builtinsNs
  above : X.s₀.heap.objs.size ≤ X.env.locals
  inj : ∀ x y c, X.env.cells.lookup x = some c → X.env.cells.lookup y = some c → x = y
  has : ∀ x, (X.env.kindOf x = some .cell ∨ X.env.kindOf x = some .free) → ∃ c, X.env.cells.lookup x = some c
  cab : ∀ x c, X.fn x = true → X.env.cells.lookup x = some c → X.s₀.heap.objs.size ≤ c
  hd : X.calm = true → X.A.handled = none
  frames : X.A.frames = some X.stack
  stk : X.stack = X.outer ∨ (X.stack = X.env :: X.outer ∧ X.env.frame = some X.env.locals)
  exf : ∀ b ∈ X.ex, b ≠ X.env.locals ∧ ∀ x c, X.env.cells.lookup x = some c → c ≠ b
  bs : ∀ b o, X.base.get? b = some o → X.s₀.heap.get? b = some o ∧ X.H₀ b = none
  bsz : X.base.objs.size ≤ X.s₀.heap.objs.size
  noex : ∀ b o, X.base.get? b = some o → b ∉ X.ex
  exfs : ∀ b ∈ X.ex, b ∉ X.fs
  funs : X.s₀.heap.FunFrames X.base X.outer
  frf : ∀ b ∈ X.fs, X.H₀ b = none
structure Inv (X : Cx) (pins : List (Addr × Obj)) (σ : List (Option V)) (H : Hp) (s : Shared) : Prop where
  ok : X.Ok
  os : s.os = X.s₀.os
  bare : AllBare s.gens
  base : Un X.fs X.ex X.H₀ H X.s₀.heap s.heap
  loc : ∃ m, s.heap.Ns X.env.locals m ∧ ∀ (i : Nat) (x : Str) (v : V), X.N[i]? = some x → σ[i]? = some (some v) → Vis X.env.scope x → ∃ u, RelV v u ∧ Look X.env s.heap m x u
  cell : ∀ x c, X.env.cells.lookup x = some c → ∃ v, s.heap.IsCell c v
  free : H X.env.locals = none
  freeC : ∀ x c, X.env.cells.lookup x = some c → H c = none
  pin : ∀ p ∈ X.pn ++ pins, s.heap.get? p.1 = some p.2 ∧ H p.1 = none ∧ p.1 ≠ X.env.locals ∧ p.1 ∉ X.fs ∧ ∀ v, p.2.data ≠ .cell v
  hok : HOk X.prog X.w H s.heap
  len : σ.length = X.N.length
section
variable {X : Cx} {pins : List (Addr × Obj)} {σ : List (Option V)} {H H' : Hp} {s : Shared} {h' : Heap}
theorem Cx.Ok.nofr (ok : X.Ok) {b : Addr} {o : Obj} (e : X.base.get? b = some o) : b ∉ X.fs := fun hb => by
  have := (ok.funs.mem hb).1
  rw [e] at this; cases this
theorem Inv.bs (I : Inv X pins σ H s) : ∀ b o, X.base.get? b = some o → s.heap.get? b = some o ∧ H b = none := fun b o e =>
  ⟨I.base.keep b o (I.ok.bs b o e).1 (I.ok.bs b o e).2 (I.ok.nofr e) (I.ok.noex b o e), I.base.free b o (I.ok.bs b o e).1 (I.ok.bs b o e).2 (I.ok.noex b o e)⟩
theorem Inv.bk (I : Inv X pins σ H s) : ∀ b o, X.base.get? b = some o → s.heap.get? b = some o := fun b o e => (I.bs b o e).1
theorem Inv.mod (I : Inv X pins σ H s) : Mod X.K X.mg X.base := I.ok.mod
theorem Inv.kIn (I : Inv X pins σ H s) : X.K.In s.heap := I.ok.mod.kin.keeps I.bk
theorem Inv.nolimit (I : Inv X pins σ H s) : s.heap.NoLimit := I.ok.mod.nolimit.keeps I.bk
/-- the frame over the base: for OpenK's rules (K.In X.base is I.mod.kin) -/
theorem Inv.fr (I : Inv X pins σ H s) : ∃ m, Fr X.base X.env.locals s.heap m :=
  let ⟨m, hn, _⟩ := I.loc
  ⟨m, hn, I.bk, Nat.le_trans I.ok.bsz I.ok.above⟩
theorem Inv.lt (I : Inv X pins σ H s) : X.env.locals < s.heap.objs.size := let ⟨_, hn, _⟩ := I.loc; hn.lt
theorem Inv.sz (I : Inv X pins σ H s) : X.s₀.heap.objs.size ≤ s.heap.objs.size := Nat.le_trans I.ok.above (Nat.le_of_lt I.lt)
theorem Inv.nofs (I : Inv X pins σ H s) {a : Addr} (h : s.heap.objs.size ≤ a) : a ∉ X.fs := fun hb => by
  obtain ⟨_, o, ho, _⟩ := I.ok.funs.mem hb
  exact absurd (Nat.lt_of_lt_of_le (Heap.lt_size ho) (Nat.le_trans I.sz h)) (Nat.lt_irrefl _)
theorem Inv.cne (I : Inv X pins σ H s) : ∀ x c, X.env.cells.lookup x = some c → c ≠ X.env.locals := fun x c e z => by
  obtain ⟨v, o, ho, hd⟩ := I.cell x c e
  obtain ⟨m, ⟨o', es, ep, ho', hd', _⟩, _⟩ := I.loc
  rw [z, ho'] at ho; cases ho; rw [hd'] at hd; cases hd
theorem Inv.funs (I : Inv X pins σ H s) : s.heap.FunFrames X.base X.outer := by
  have all : ∀ (l : List Env), (∀ b ∈ frs l, b ∈ X.fs) → X.s₀.heap.FunFrames X.base l → s.heap.FunFrames X.base l := by
    intro l
    induction l with
    | nil => intro _ _; trivial
    | cons env r ih =>
      intro hs hl
      obtain ⟨hk, ⟨L, o, hf, hn, ho, hd⟩, hr⟩ := hl
      have hL : L ∈ X.fs := hs L (by unfold frs; rw [List.filterMap_cons, hf]; exact List.mem_cons_self)
      obtain ⟨sl, e⟩ := I.base.slot L o ho (I.ok.frf L hL) hL fun z => I.ok.exfs L z hL
      exact ⟨hk, ⟨L, _, hf, hn, e, hd⟩, ih (fun b hb => hs b (by unfold frs; rw [List.filterMap_cons, hf]; exact List.mem_cons_of_mem _ hb)) hr⟩
  exact all X.outer (fun _ hb => hb) I.ok.funs
/-- the frames that run, for a call -/
theorem Inv.stack (I : Inv X pins σ H s) : s.heap.FunFrames X.base X.stack := by
  rcases I.ok.stk with e | ⟨e, hf⟩
  · rw [e]; exact I.funs
  · rw [e]
    obtain ⟨m, hn, _⟩ := I.loc
    refine .cons (by rw [I.ok.kind]; decide) hf hn ?_ I.funs
    exact Heap.get?_none_of_le (Nat.le_trans I.ok.bsz I.ok.above)
theorem Inv.stkSub (I : Inv X pins σ H s) : ∀ b ∈ frs X.stack, b ∈ X.env.locals :: X.fs := fun b hb => by
  rcases I.ok.stk with e | ⟨e, hf⟩
  · rw [e] at hb; exact List.mem_cons_of_mem _ hb
  · rw [e] at hb
    unfold frs at hb
    rw [List.filterMap_cons, hf] at hb
    exact hb
theorem Inv.stkFree (I : Inv X pins σ H s) : ∀ b ∈ frs X.stack, H b = none := fun b hb => by
  rcases List.mem_cons.mp (I.stkSub b hb) with e | hb
  · rw [e]; exact I.free
  · obtain ⟨_, o, ho, _⟩ := I.ok.funs.mem hb
    exact I.base.free b o ho (I.ok.frf b hb) fun z => I.ok.exfs b z hb
/-- THE STEP: the untracked objects but the frame and the records at ch are kept (the callers' frames up to slots), the frame's map is kept, the new abstract heap is held -/
theorem Inv.step {g' : Array GenState} {t' : Nat} {d' : Drawn} {ch : List Addr} (I : Inv X pins σ H s)
    (hch : ∀ b ∈ ch, (b ∈ X.ex ∨ X.s₀.heap.objs.size ≤ b) ∧ b ≠ X.env.locals ∧ (∀ x c, X.env.cells.lookup x = some c → c ≠ b) ∧ ∀ p ∈ X.pn ++ pins, p.1 ≠ b)
    (keep : ∀ b o, b ≠ X.env.locals → b ∉ X.fs → b ∉ ch → s.heap.get? b = some o → H b = none → h'.get? b = some o)
    (slot : ∀ b o, b ≠ X.env.locals → b ∈ X.fs → b ∉ ch → s.heap.get? b = some o → H b = none → ∃ sl, h'.get? b = some { o with slots := sl }) (free : ∀ b o, b ∉ ch → s.heap.get? b = some o → H b = none → H' b = none)
    (there : ∀ b o, b ∉ ch → s.heap.get? b = some o → ∃ o', h'.get? b = some o')
    (tups : ∀ b xs, H b = some (.tup xs) → H' b = some (.tup xs)) (frzs : ∀ b o u, H b = some (.frz o u) → H' b = some (.frz o u)) (tbls : ∀ b ps, H b = some (.tbl ps) → ∃ more, H' b = some (.tbl (ps ++ more)))
    (ns : ∀ m, s.heap.Ns X.env.locals m → h'.Ns X.env.locals m) (hok : HOk X.prog X.w H' h') (hg : AllBare g') :
    Inv X pins σ H' { s with heap := h', gens := g', drawn := d', toks := t' } := by
  have neL : ∀ b o, X.s₀.heap.get? b = some o → b ≠ X.env.locals := fun b o e => Nat.ne_of_lt (Nat.lt_of_lt_of_le (Heap.lt_size e) I.ok.above)
  have neC : ∀ b o, X.s₀.heap.get? b = some o → b ∉ X.ex → b ∉ ch := fun b o e hx hb => by
    rcases (hch b hb).1 with z | z
    · exact hx z
    · exact absurd (Nat.lt_of_lt_of_le (Heap.lt_size e) z) (Nat.lt_irrefl _)
  have cellK : ∀ x c, X.env.cells.lookup x = some c → ∀ v, s.heap.IsCell c v → h'.IsCell c v := fun x c e v ⟨o, ho, hd⟩ => by
    have nch : c ∉ ch := fun z => (hch c z).2.2.1 x c e rfl
    by_cases hc : c ∈ X.fs
    · obtain ⟨sl, q⟩ := slot c o (I.cne x c e) hc nch ho (I.freeC x c e)
      exact ⟨_, q, hd⟩
    · exact ⟨o, keep c o (I.cne x c e) hc nch ho (I.freeC x c e), hd⟩
  refine ⟨I.ok, I.os, hg, ⟨fun b o e n hb hx => ?_, fun b o e n hb hx => ?_, fun b o e n hx => ?_, fun b o e hx => ?_, fun b xs e => tups b xs (I.base.tups b xs e), fun b o xs e => frzs b o xs (I.base.frzs b o xs e), fun b ps e => ?_⟩, ?_, fun x c e => ?_, ?_, fun x c e => ?_, fun p hp => ?_, hok, I.len⟩
  · exact keep b o (neL b o e) hb (neC b o e hx) (I.base.keep b o e n hb hx) (I.base.free b o e n hx)
  · obtain ⟨sl, e1⟩ := I.base.slot b o e n hb hx
    obtain ⟨sl', e2⟩ := slot b _ (neL b o e) hb (neC b o e hx) e1 (I.base.free b o e n hx)
    exact ⟨sl', e2⟩
  · obtain ⟨o', e1⟩ := I.base.there b o e hx
    exact free b o' (neC b o e hx) e1 (I.base.free b o e n hx)
  · obtain ⟨o', e1⟩ := I.base.there b o e hx
    exact there b o' (neC b o e hx) e1
  · obtain ⟨m1, e1⟩ := I.base.tbls b ps e
    obtain ⟨m2, e2⟩ := tbls b _ e1
    exact ⟨m1 ++ m2, by rw [e2, Array.append_assoc]⟩
  · obtain ⟨m, hn, hl⟩ := I.loc
    refine ⟨m, ns m hn, fun i x v e1 e2 e3 => ?_⟩
    obtain ⟨u, r, l⟩ := hl i x v e1 e2 e3
    refine ⟨u, r, ?_⟩
    rcases l with l | ⟨k, c, e, z⟩
    · exact .inl l
    · exact .inr ⟨k, c, e, cellK x c e _ z⟩
  · obtain ⟨v, z⟩ := I.cell x c e
    exact ⟨v, cellK x c e v z⟩
  · obtain ⟨m, ⟨o, _, _, ho, _⟩, _⟩ := I.loc
    exact free _ o (fun z => (hch _ z).2.1 rfl) ho I.free
  · obtain ⟨v, o, ho, hd⟩ := I.cell x c e
    exact free c o (fun z => (hch c z).2.2.1 x c e rfl) ho (I.freeC x c e)
  · obtain ⟨e, n, ne, nf, d⟩ := I.pin p hp
    have nch : p.1 ∉ ch := fun z => (hch p.1 z).2.2.2 p hp rfl
    exact ⟨keep p.1 p.2 ne nf nch e n, free p.1 p.2 nch e n, ne, nf, d⟩
/-- .. where the frame's own object is kept too -/
theorem Inv.un {t' : Nat} (I : Inv X pins σ H s) (u : Un X.fs [] H H' s.heap h') (hok : HOk X.prog X.w H' h') : Inv X pins σ H' { s with heap := h', toks := t' } := by
  obtain ⟨m, ⟨o, es, ep, ho, r⟩, _⟩ := id I.loc
  obtain ⟨sl, hL⟩ := u.any ho I.free (by simp)
  exact I.step (g' := s.gens) (d' := s.drawn) (ch := []) (fun _ z => nomatch z) (fun b o _ hb _ e n => u.keep b o e n hb (by simp)) (fun b o _ hb _ e n => u.slot b o e n hb (by simp)) (fun b o _ e n => u.free b o e n (by simp)) (fun b o _ e => u.there b o e (by simp)) u.tups u.frzs u.tbls (fun m' hm => by
    obtain ⟨o', es', ep', ho', r'⟩ := hm
    rw [ho] at ho'; cases ho'
    exact ⟨_, es', ep', hL, r'⟩) hok I.bare
/-- behind a call (or a comprehension's block): the slots of this frame may have changed too, the records at ch may have turned -/
theorem Inv.call {g' : Array GenState} {t' : Nat} {d' : Drawn} {ch : List Addr} (I : Inv X pins σ H s) (u : Un (frs X.stack) ch H H' s.heap h') (hok : HOk X.prog X.w H' h') (hg : AllBare g')
    (hch : ∀ b ∈ ch, (b ∈ X.ex ∨ X.s₀.heap.objs.size ≤ b) ∧ b ≠ X.env.locals ∧ (∀ x c, X.env.cells.lookup x = some c → c ≠ b) ∧ ∀ p ∈ X.pn ++ pins, p.1 ≠ b) :
    Inv X pins σ H' { s with heap := h', gens := g', drawn := d', toks := t' } := by
  obtain ⟨m, ⟨o, es, ep, ho, r⟩, _⟩ := id I.loc
  obtain ⟨sl, hL⟩ := u.any ho I.free fun z => (hch _ z).2.1 rfl
  exact I.step (ch := ch) hch (fun b o hL hb hc e n => u.keep b o e n (fun z => (List.mem_cons.mp (I.stkSub b z)).elim hL hb) hc) (fun b o _ _ hc e n => u.any e n hc) (fun b o hc e n => u.free b o e n hc) (fun b o hc e => u.there b o e hc) u.tups u.frzs u.tbls (fun m' hm => by
    obtain ⟨o', es', ep', ho', r'⟩ := hm
    rw [ho] at ho'; cases ho'
    exact ⟨_, es', ep', hL, r'⟩) hok hg
/-- an untracked record of ours (an iterator) has turned -/
theorem Inv.turned {t' : Nat} {it : Addr} (I : Inv X pins σ H s) (k : ∀ b o, b ≠ it → s.heap.get? b = some o → h'.get? b = some o) (hn : H it = none) (hL : it ≠ X.env.locals)
    (h1 : it ∈ X.ex ∨ X.s₀.heap.objs.size ≤ it) (h2 : ∀ x c, X.env.cells.lookup x = some c → c ≠ it) (h3 : ∀ p ∈ X.pn ++ pins, p.1 ≠ it) : Inv X pins σ H { s with heap := h', toks := t' } := by
  have nit : ∀ b u, H b = some u → b ≠ it := fun b u e z => by rw [z, hn] at e; cases e
  refine I.step (g' := s.gens) (d' := s.drawn) (ch := [it]) (fun b hb => ?_) (fun b o _ _ hc e _ => k b o (fun z => hc (by simp [z])) e) (fun b o _ _ hc e _ => ⟨o.slots, k b o (fun z => hc (by simp [z])) e⟩) (fun _ _ _ _ n => n)
    (fun b o hc e => ⟨o, k b o (fun z => hc (by simp [z])) e⟩) (fun _ _ e => e) (fun _ _ _ e => e) (fun b ps e => ⟨#[], by rw [e]; simp⟩) (fun m hm => ?_) (fun b u e => ?_) I.bare
  · have e : b = it := by simpa using hb
    subst e
    exact ⟨h1, hL, h2, h3⟩
  · obtain ⟨o, es, ep, ho, r⟩ := hm
    exact ⟨o, es, ep, k _ o (Ne.symm hL) ho, r⟩
  · refine (I.hok b u e).stay (fun c v hc q => k c v ?_ q) (fun _ q => q) fun _ _ q => q
    rcases hc with z | z
    · rw [z]; exact nit b u e
    · exact nit c _ z
theorem Inv.tok (I : Inv X pins σ H s) (t : Nat) : Inv X pins σ H { s with toks := t } := I.un (h' := s.heap) (t' := t) Un.refl I.hok
/-- all objects kept -/
theorem Inv.kept {t' : Nat} (I : Inv X pins σ H s) (k : ∀ b u, s.heap.get? b = some u → h'.get? b = some u) : Inv X pins σ H { s with heap := h', toks := t' } := I.un (Un.kept k) (I.hok.kept k)
/-- a new object laid and tracked -/
theorem Inv.laid {a : Addr} {o : HO} {t' : Nat} (I : Inv X pins σ H s) (k : ∀ b u, s.heap.get? b = some u → h'.get? b = some u) (hp : s.heap.objs.size ≤ a) (new : ObjOk X.prog X.w (upd H a o) h' a o) :
    Inv X pins σ (upd H a o) { s with heap := h', toks := t' } := I.un (Un.laid k hp (I.hok.fresh hp)) (I.hok.laid k hp new)
/-- an object written -/
theorem Inv.write {x e : Addr} {o : HO} {t' : Nat} (I : Inv X pins σ H s) (mu : Mut (H x)) (he : e = x ∨ H e = some (.own x)) (k : ∀ b u, b ≠ e → s.heap.get? b = some u → h'.get? b = some u) (heo : ∃ u, h'.get? e = some u)
    (new : ObjOk X.prog X.w (upd H x o) h' x o) : Inv X pins σ (upd H x o) { s with heap := h', toks := t' } := I.un (Un.write mu he k heo) (I.hok.write mu he k heo new)
/-- forgetting slots, pins -/
theorem Inv.weak {σ' : List (Option V)} (I : Inv X pins σ H s) (hl : σ'.length = σ.length) (w : ∀ (i : Nat) v, σ'[i]? = some (some v) → σ[i]? = some (some v)) : Inv X pins σ' H s :=
  ⟨I.ok, I.os, I.bare, I.base, let ⟨m, hn, hl'⟩ := I.loc; ⟨m, hn, fun i x v e1 e2 e3 => hl' i x v e1 (w i v e2) e3⟩, I.cell, I.free, I.freeC, I.pin, I.hok, hl.trans I.len⟩
theorem Inv.pins_of {pins' : List (Addr × Obj)} (I : Inv X pins σ H s) (h : ∀ p ∈ pins', s.heap.get? p.1 = some p.2 ∧ H p.1 = none ∧ p.1 ≠ X.env.locals ∧ p.1 ∉ X.fs ∧ ∀ v, p.2.data ≠ .cell v) : Inv X pins' σ H s :=
  ⟨I.ok, I.os, I.bare, I.base, I.loc, I.cell, I.free, I.freeC, fun p hp => (List.mem_append.mp hp).elim (fun z => I.pin p (List.mem_append_left _ z)) (h p), I.hok, I.len⟩
theorem nodup_ix {N : List Str} (hN : N.Nodup) {i j : Nat} {x : Str} (a : N[i]? = some x) (b : N[j]? = some x) : i = j := by
  obtain ⟨h1, e1⟩ := List.getElem?_eq_some_iff.mp a
  obtain ⟨h2, e2⟩ := List.getElem?_eq_some_iff.mp b
  exact (List.getElem_inj hN).mp (e1.trans e2.symm)
/-- a name is stored; what changed -/
theorem store_ok2 {M : Model} {A : Around} {E : Value → Shared → Prop} {i : Nat} {x : Str} {v : V} {u : Value} {Q : Unit → Shared → Prop} (I : Inv X pins σ H s) (hN : X.N.Nodup) (hi : X.N[i]? = some x) (hx : Loc X.env.scope x) (r : RelV v u)
    (h : ∀ s', Inv X pins (σ.set i (some v)) H s' → (∃ a, Heap.SameBut a s.heap s'.heap ∧ (a = X.env.locals ∨ X.env.cells.lookup x = some a)) → Q () s') (hf : X.fn x = true ∨ X.env.scope.names.lookup x = some .local := by first | exact .inl rfl | exact .inr rfl | assumption) : wpAny M A (storeName X.env x u) Q E s := by
  obtain ⟨m, hn, hl⟩ := id I.loc
  have hcls : (X.env.scope.kind == .class || (X.env.scope.kind == .module && X.env.locals != X.env.globals)) = false := by rw [I.ok.kind]; rfl
  have hiσ : i < σ.length := by rw [I.len]; exact (List.getElem?_eq_some_iff.mp hi).1
  have cne := I.cne
  have tracked : ∀ {a : Addr} {h' : Heap}, (∃ o, s.heap.get? a = some o ∧ H a = none) → Heap.SameBut a s.heap h' → HOk X.prog X.w H h' := fun {a h'} ha hs b ob e => by
    obtain ⟨_, _, hfree⟩ := ha
    refine (I.hok b ob e).stay (fun c w' hc q => (hs.2 c ?_).trans q) (fun _ q => q) fun _ _ q => q
    rintro rfl
    rcases hc with rfl | hc
    · rw [hfree] at e; cases e
    · rw [hfree] at hc; cases hc
  rcases hx with hk | hk
  · refine wpAny_storeName_local hk hn (fun h' hn' hs => ?_) hcls
    obtain ⟨oL, _, _, hoL, _⟩ := id hn
    refine h _ ⟨I.ok, I.os, I.bare, ⟨fun b o e n hb hx => ?_, fun b o e n hb hx => ?_, I.base.free, fun b o e hx => ?_, I.base.tups, I.base.frzs, I.base.tbls⟩, ⟨_, hn', fun j y v' e1 e2 e3 => ?_⟩, fun y c e => ?_, I.free, I.freeC, fun p hp => ?_, tracked ⟨oL, hoL, I.free⟩ hs, by simpa using I.len⟩ ⟨_, hs, .inl rfl⟩
    · exact (hs.2 b (Nat.ne_of_lt (Nat.lt_of_lt_of_le (Heap.lt_size e) I.ok.above))).trans (I.base.keep b o e n hb hx)
    · obtain ⟨sl, e1⟩ := I.base.slot b o e n hb hx
      exact ⟨sl, (hs.2 b (Nat.ne_of_lt (Nat.lt_of_lt_of_le (Heap.lt_size e) I.ok.above))).trans e1⟩
    · obtain ⟨o', e1⟩ := I.base.there b o e hx
      exact ⟨o', (hs.2 b (Nat.ne_of_lt (Nat.lt_of_lt_of_le (Heap.lt_size e) I.ok.above))).trans e1⟩
    · by_cases hj : j = i
      · subst hj
        rw [hi] at e1; cases e1
        rw [List.getElem?_set_self hiσ] at e2
        cases e2
        exact ⟨u, r, .inl ⟨hk, by simp⟩⟩
      · rw [List.getElem?_set_ne (Ne.symm hj)] at e2
        obtain ⟨u', r', q⟩ := hl j y v' e1 e2 e3
        refine ⟨u', r', ?_⟩
        rcases q with ⟨k, e⟩ | ⟨k, c, e, z⟩
        · refine .inl ⟨k, ?_⟩
          have : y ≠ x := fun e => hj (nodup_ix hN e1 (e ▸ hi))
          simp [this, e]
        · exact .inr ⟨k, c, e, z.sameBut hs (cne y c e)⟩
    · obtain ⟨w', z⟩ := I.cell y c e
      exact ⟨w', z.sameBut hs (cne y c e)⟩
    · obtain ⟨e, n, ne, nf, d⟩ := I.pin p hp
      exact ⟨(hs.2 p.1 ne).trans e, n, ne, nf, d⟩
  · have hfn : X.fn x = true := by
      rcases hf with z | z
      · exact z
      · rw [z] at hk; cases hk
    obtain ⟨c, hc⟩ := I.ok.has x (.inl hk)
    obtain ⟨w', z⟩ := I.cell x c hc
    refine wpAny_storeName_cell I.ok.kind hk hc z (fun h' hc' hs => ?_)
    obtain ⟨oc, hoc, hocd⟩ := id z
    refine h { s with heap := h' } ⟨I.ok, I.os, I.bare, ⟨fun b o e n hb hx => ?_, fun b o e n hb hx => ?_, I.base.free, fun b o e hx => ?_, I.base.tups, I.base.frzs, I.base.tbls⟩, ⟨m, hn.sameBut hs (Ne.symm (cne x c hc)), fun j y v' e1 e2 e3 => ?_⟩, fun y c' e => ?_, I.free, I.freeC, fun p hp => ?_, tracked ⟨oc, hoc, I.freeC x c hc⟩ hs, by simpa using I.len⟩ ⟨c, hs, .inr hc⟩
    · exact (hs.2 b (Nat.ne_of_lt (Nat.lt_of_lt_of_le (Heap.lt_size e) (I.ok.cab x c hfn hc)))).trans (I.base.keep b o e n hb hx)
    · obtain ⟨sl, e1⟩ := I.base.slot b o e n hb hx
      exact ⟨sl, (hs.2 b (Nat.ne_of_lt (Nat.lt_of_lt_of_le (Heap.lt_size e) (I.ok.cab x c hfn hc)))).trans e1⟩
    · obtain ⟨o', e1⟩ := I.base.there b o e hx
      exact ⟨o', (hs.2 b (Nat.ne_of_lt (Nat.lt_of_lt_of_le (Heap.lt_size e) (I.ok.cab x c hfn hc)))).trans e1⟩
    · by_cases hj : j = i
      · subst hj
        rw [hi] at e1; cases e1
        rw [List.getElem?_set_self hiσ] at e2
        cases e2
        exact ⟨u, r, .inr ⟨.inl hk, c, hc, hc'⟩⟩
      · rw [List.getElem?_set_ne (Ne.symm hj)] at e2
        obtain ⟨u', r', q⟩ := hl j y v' e1 e2 e3
        refine ⟨u', r', ?_⟩
        rcases q with q | ⟨k, c', e, z'⟩
        · exact .inl q
        · refine .inr ⟨k, c', e, z'.sameBut hs ?_⟩
          rintro rfl
          exact hj (nodup_ix hN e1 (I.ok.inj _ _ _ e hc ▸ hi))
    · by_cases hcc : c' = c
      · subst hcc; exact ⟨_, hc'⟩
      · obtain ⟨w2, z2⟩ := I.cell y c' e
        exact ⟨w2, z2.sameBut hs hcc⟩
    · obtain ⟨e, n, ne, nf, d⟩ := I.pin p hp
      refine ⟨(hs.2 p.1 ?_).trans e, n, ne, nf, d⟩
      intro q
      rw [q, hoc] at e
      have q' : oc = p.2 := Option.some.inj e
      exact d w' (by rw [← q']; exact hocd)
theorem store_ok {M : Model} {A : Around} {E : Value → Shared → Prop} {i : Nat} {x : Str} {v : V} {u : Value} {Q : Unit → Shared → Prop} (I : Inv X pins σ H s) (hN : X.N.Nodup) (hi : X.N[i]? = some x) (hx : Loc X.env.scope x) (r : RelV v u)
    (h : ∀ s', Inv X pins (σ.set i (some v)) H s' → Q () s') (hf : X.fn x = true ∨ X.env.scope.names.lookup x = some .local := by first | exact .inl rfl | exact .inr rfl | assumption) : wpAny M A (storeName X.env x u) Q E s :=
  store_ok2 I hN hi hx r (fun s' I' _ => h s' I') hf
/-- behind a call or a block, the state as it is -/
theorem Inv.call' {s' : Shared} {ch : List Addr} (I : Inv X pins σ H s) (ho : s'.os = s.os) (u : Un (frs X.stack) ch H H' s.heap s'.heap) (hok : HOk X.prog X.w H' s'.heap) (hg : AllBare s'.gens)
    (hch : ∀ b ∈ ch, (b ∈ X.ex ∨ X.s₀.heap.objs.size ≤ b) ∧ b ≠ X.env.locals ∧ (∀ x c, X.env.cells.lookup x = some c → c ≠ b) ∧ ∀ p ∈ X.pn ++ pins, p.1 ≠ b) : Inv X pins σ H' s' := by
  obtain ⟨h', g', d', t', o'⟩ := s'
  have e : o' = s.os := ho
  subst e
  exact I.call (g' := g') (t' := t') (d' := d') u hok hg hch
end
/-! ### the judgements -/
/-- an exception: its class, its own dict's address (where it has one), the abstract heap behind it -/
abbrev XK := Value → Option Addr → Hp → Prop
abbrev St := List (Option V)
abbrev VK := V → Hp → Prop
/-- an expression's reading; a test's; an argument list's -/
abbrev TE := St → Hp → VK → Prop
abbrev TT := St → Hp → (Bool → Hp → Prop) → Prop
abbrev TA := St → Hp → (List V → Hp → Prop) → Prop
/-- what is wanted behind a statement -/
structure Ends where
  nx : St → Hp → Prop
  rt : VK
  bk : St → Hp → Prop := fun _ _ => False
  ct : St → Hp → Prop := fun _ _ => False
abbrev TS := Ends → St → Hp → Prop
def EP (X : Cx) (pins : List (Addr × Obj)) (σ : St) (Q : VK) (u : Value) (s' : Shared) : Prop := ∃ v H', Inv X pins σ H' s' ∧ RelV v u ∧ Q v H'
def TP (X : Cx) (pins : List (Addr × Obj)) (σ : St) (Q : Bool → Hp → Prop) (b : Bool) (s' : Shared) : Prop := ∃ H', Inv X pins σ H' s' ∧ Q b H'
def AP (X : Cx) (pins : List (Addr × Obj)) (σ : St) (Q : List V → Hp → Prop) (us : List Value) (s' : Shared) : Prop := ∃ vs H', Inv X pins σ H' s' ∧ Vals vs us ∧ Q vs H'
def SP (X : Cx) (pins : List (Addr × Obj)) (D : Ends) (f : Flow) (s' : Shared) : Prop :=
  match f with
  | .next => ∃ σ' H', Inv X pins σ' H' s' ∧ D.nx σ' H'
  | .brk => ∃ σ' H', Inv X pins σ' H' s' ∧ D.bk σ' H'
  | .cont => ∃ σ' H', Inv X pins σ' H' s' ∧ D.ct σ' H'
  | .ret u => ∃ v σ' H', Inv X pins σ' H' s' ∧ RelV v u ∧ D.rt v H'
def PE (X : Cx) (e : Expr) (t : TE) : Prop :=
  ∀ (pins : List (Addr × Obj)) (s : Shared) (σ : St) (H : Hp) (Q : VK), Inv X pins σ H s → t σ H Q → wpAny (model X.prog X.w) X.A (eval e X.env) (EP X pins σ Q) X.xe s
def PT (X : Cx) (e : Expr) (t : TT) : Prop :=
  ∀ (pins : List (Addr × Obj)) (s : Shared) (σ : St) (H : Hp) (Q : Bool → Hp → Prop), Inv X pins σ H s → t σ H Q → wpAny (model X.prog X.w) X.A (isTrue e X.env (eval e X.env)) (TP X pins σ Q) X.xe s
/-- a test whatever its 'whole' is (and, or) -/
def PW (X : Cx) (e : Expr) (t : TT) : Prop :=
  ∀ (whole : Sem Value) (pins : List (Addr × Obj)) (s : Shared) (σ : St) (H : Hp) (Q : Bool → Hp → Prop), Inv X pins σ H s → t σ H Q → wpAny (model X.prog X.w) X.A (isTrue e X.env whole) (TP X pins σ Q) X.xe s
theorem PW.pt {X : Cx} {e : Expr} {t : TT} (h : PW X e t) : PT X e t := h _
/-- an argument list (no star), from the left -/
def PA (X : Cx) (es : List Expr) (t : TA) : Prop :=
  ∀ (pos : Pos) (pins : List (Addr × Obj)) (s : Shared) (σ : St) (H : Hp) (Q : List V → Hp → Prop), Inv X pins σ H s → t σ H Q → wpAny (model X.prog X.w) X.A (spliced (backTo pos (starEach es X.env))) (AP X pins σ Q) X.xe s
def PS (X : Cx) (st : Stmt) (t : TS) : Prop :=
  ∀ (pins : List (Addr × Obj)) (s : Shared) (σ : St) (H : Hp) (D : Ends), Inv X pins σ H s → t D σ H → wpAny (model X.prog X.w) X.A (exec st X.env) (SP X pins D) X.xe s
def PSs (X : Cx) (st : List Stmt) (t : TS) : Prop :=
  ∀ (pins : List (Addr × Obj)) (s : Shared) (σ : St) (H : Hp) (D : Ends), Inv X pins σ H s → t D σ H → wpAny (model X.prog X.w) X.A (execs st X.env) (SP X pins D) X.xe s
/-- weaken the end -/
theorem thn {α : Type} {t : Sem α} {Q Q' : α → Shared → Prop} {M : Model} {A : Around} {E : Value → Shared → Prop} {s : Shared} (h : wpAny M A t Q E s) (hQ : ∀ a s, Q a s → Q' a s) : wpAny M A t Q' E s := wpAny_mono h hQ fun _ _ x => x
end L2
namespace L2
open PySem PySem.Spec PyProof.Rows
section
variable {X : Cx}
/-! ### names and constants -/
def tVar (i : Nat) : TE := fun σ H Q => ∃ v, σ[i]? = some (some v) ∧ Q v H
def tC (v : V) : TE := fun _ H Q => Q v H
theorem pe_var {i : Nat} {x : Str} {pos : Pos} (hN : X.N[i]? = some x) (hv : Vis X.env.scope x) (hd : (x == ("__debug__" : Str)) = false := by decide) (hcd : (x == ("__classdict__" : Str)) = false := by decide) : PE X (.Name x pos) (tVar i) := by
  intro pins s σ H Q I h
  obtain ⟨v, e, h⟩ := h
  obtain ⟨m, hn, hl⟩ := I.loc
  obtain ⟨u, r, l⟩ := hl i x v hN e hv
  have fin : EP X pins σ Q u s := ⟨v, H, I, r, h⟩
  rcases l with ⟨hk, hm⟩ | ⟨hk, c, hc, hcell⟩
  · exact wpAny_Name (wpAny_loadName_local I.ok.kind hk hn hm fin) hd
  · rcases hk with hk | hk
    · exact wpAny_Name (wpAny_loadName_cell I.ok.kind hk hc hcell fin) hd
    · exact wpAny_Name (wpAny_loadName_free I.ok.kind hk hc hcell fin hcd) hd
theorem pe_int {i j pos} : PE X (.Constant (.int i) j pos) (tC (.int i)) := fun _ _ _ H _ I h => wpAny_Constant_int ⟨.int i, H, I.tok _, ⟨_, rfl⟩, h⟩
theorem pe_bl {b j pos} : PE X (.Constant (.bool b) j pos) (tC (.bl b)) := fun _ _ _ H _ I h => Constant_bool ⟨.bl b, H, I, rfl, h⟩
theorem pe_str {x j pos} : PE X (.Constant (.str x) j pos) (tC (.str x)) := fun _ _ _ H _ I h => Calls.Constant_str ⟨.str x, H, I.tok _, ⟨_, rfl⟩, h⟩
/-- a global name of the def -/
def Gl (X : Cx) (x : Str) : Prop := X.env.kindOf x = some .globalImplicit
theorem ld_glob {E : Value → Shared → Prop} {pins : List (Addr × Obj)} {s : Shared} {σ : St} {H : Hp} {x : Str} {u : Value} {pos : Pos} {Q : Value → Shared → Prop} (I : Inv X pins σ H s) (hg : Gl X x) (hm : X.mg x = some u) (h : Q u s)
    (hd : (x == ("__debug__" : Str)) = false := by decide) : wpAny (model X.prog X.w) X.A (eval (.Name x pos) X.env) Q E s :=
  Calls.Name_function_global I.ok.kind hg (Calls.loadGlobal_global (by rw [I.ok.glob]; exact I.mod.glob.keeps I.bk) hm h) hd
theorem ld_blt {E : Value → Shared → Prop} {pins : List (Addr × Obj)} {s : Shared} {σ : St} {H : Hp} {x : Str} {u : Value} {pos : Pos} {Q : Value → Shared → Prop} (I : Inv X pins σ H s) (hg : Gl X x) (hm : X.mg x = none) (hv : bootBuiltins x = some u) (h : Q u s)
    (hn : x ≠ "__name__" := by decide) (hd : (x == ("__debug__" : Str)) = false := by decide) : wpAny (model X.prog X.w) X.A (eval (.Name x pos) X.env) Q E s := by
  obtain ⟨mb, h1, h2⟩ := I.mod.blt
  exact Calls.Name_function_global I.ok.kind hg (Calls.loadGlobal_builtin (by rw [I.ok.glob]; exact I.mod.glob.keeps I.bk) hm (by rw [I.ok.blt]; exact h1.keeps I.bk) ((h2 x hn).trans hv) h) hd
/-- a module's constant, a class, a function, as a value -/
theorem pe_glob {x : Str} {v : V} {u : Value} {pos : Pos} (hg : Gl X x) (hm : X.mg x = some u) (r : RelV v u) (hd : (x == ("__debug__" : Str)) = false := by decide) : PE X (.Name x pos) (tC v) :=
  fun _ _ _ H _ I h => ld_glob I hg hm ⟨v, H, I, r, h⟩ hd
theorem pe_bltn {x : Str} {v : V} {u : Value} {pos : Pos} (hg : Gl X x) (hm : X.mg x = none) (hv : bootBuiltins x = some u) (r : RelV v u) (hn : x ≠ "__name__" := by decide) (hd : (x == ("__debug__" : Str)) = false := by decide) : PE X (.Name x pos) (tC v) :=
  fun _ _ _ H _ I h => ld_blt I hg hm hv ⟨v, H, I, r, h⟩ hn hd
/-! ### arithmetic -/
variable {a b : Expr} {ta tb : TE} {pos : Pos}
/-! ### comparisons -/
/-- a comparison as a value, as a test -/
def tB (t : TE) : TT := fun σ H Q => t σ H fun x H1 => ∃ c, x = .bl c ∧ Q c H1
/-- an expression whose value is a bool, as a test -/
theorem pt_val {e : Expr} {t : TE} (h : PE X e t) (he : ∀ whole, isTrue e X.env whole = (do let v ← whole; standAt e.pos; holding [v] (truthy v)) := by intro _; rfl) : PT X e (tB t) := by
  intro pins s σ H Q I hw
  refine isTrue_plain (thn (h pins s σ H _ I hw) fun v s1 ⟨x, H1, I1, r1, q1⟩ => ?_) (he _)
  obtain ⟨d, rfl, q⟩ := q1
  cases r1
  exact wpAny_truthy_bool ⟨H1, I1, q⟩
/-! ### and, or, not -/
variable {tA tB' : TT} {rest : List Expr}
def tAnd (t u : TT) : TT := fun σ H Q => t σ H fun c H1 => if c = true then u σ H1 Q else Q false H1
def tOr (t u : TT) : TT := fun σ H Q => t σ H fun c H1 => if c = true then Q true H1 else u σ H1 Q
def tNot (t : TT) : TT := fun σ H Q => t σ H fun c H1 => Q (!c) H1
theorem pw_and1 (ha : PT X a tA) : PW X (.BoolOp .And [a] pos) tA := by
  intro wh pins s σ H Q I h
  refine isTrue_and (thn (ha pins s σ H Q I h) fun c s1 e => ?_)
  cases c with
  | true => exact isTrue_and_nil e
  | false => exact e
theorem pw_or1 (ha : PT X a tA) : PW X (.BoolOp .Or [a] pos) tA := by
  intro wh pins s σ H Q I h
  refine isTrue_or (thn (ha pins s σ H Q I h) fun c s1 e => ?_)
  cases c with
  | false => exact isTrue_or_nil e
  | true => exact e
theorem pw_and (ha : PT X a tA) (hb : PW X (.BoolOp .And (b :: rest) pos) tB') : PW X (.BoolOp .And (a :: b :: rest) pos) (tAnd tA tB') := by
  intro wh pins s σ H Q I h
  refine isTrue_and (thn (ha pins s σ H _ I h) fun c s1 ⟨H1, I1, q1⟩ => ?_)
  cases c with
  | true => exact hb wh pins s1 σ H1 Q I1 q1
  | false => exact ⟨H1, I1, q1⟩
theorem pw_or (ha : PT X a tA) (hb : PW X (.BoolOp .Or (b :: rest) pos) tB') : PW X (.BoolOp .Or (a :: b :: rest) pos) (tOr tA tB') := by
  intro wh pins s σ H Q I h
  refine isTrue_or (thn (ha pins s σ H _ I h) fun c s1 ⟨H1, I1, q1⟩ => ?_)
  cases c with
  | true => exact ⟨H1, I1, q1⟩
  | false => exact hb wh pins s1 σ H1 Q I1 q1
theorem pt_not (ha : PT X a tA) : PT X (.UnaryOp .Not a pos) (tNot tA) := by
  intro pins s σ H Q I h
  exact isTrue_not (ha pins s σ H (fun c H1 => Q (!c) H1) I h)
/-- .. as values (bools) -/
def tAndV (ta tb : TE) : TE := fun σ H Q => ta σ H fun x H1 => ∃ c, x = .bl c ∧ if c = true then tb σ H1 Q else Q (.bl false) H1
def tNotV (ta : TE) : TE := fun σ H Q => ta σ H fun x H1 => ∃ c, x = .bl c ∧ Q (.bl (!c)) H1
theorem pe_one {op} {t : TE} (h : PE X a t) : PE X (.BoolOp op [a] pos) t := fun pins s σ H Q I hw => BoolOp_one (h pins s σ H Q I hw)
theorem pe_and (ha : PE X a ta) (hb : PE X (.BoolOp .And (b :: rest) pos) tb) : PE X (.BoolOp .And (a :: b :: rest) pos) (tAndV ta tb) := by
  intro pins s σ H Q I h
  refine BoolOp_and (thn (ha pins s σ H _ I h) fun v s1 ⟨x, H1, I1, r1, q1⟩ => ?_)
  obtain ⟨c, rfl, q1⟩ := q1
  cases r1
  refine wpAny_truthy_bool ?_
  cases c with
  | true => exact hb pins s1 σ H1 Q I1 q1
  | false => exact ⟨.bl false, H1, I1, rfl, q1⟩
theorem pe_not (ha : PE X a ta) : PE X (.UnaryOp .Not a pos) (tNotV ta) := by
  intro pins s σ H Q I h
  refine UnaryOp_ (thn (ha pins s σ H _ I h) fun v s1 ⟨x, H1, I1, r1, q1⟩ => ?_)
  obtain ⟨c, rfl, q1⟩ := q1
  cases r1
  exact not_of (wpAny_truthy_bool ⟨.bl (!c), H1, I1, rfl, q1⟩)
end
end L2
namespace L2
open PySem PySem.Spec PyProof.Rows
/-! ### a list, a tuple that is read: tracked, frozen, or an object of the module -/
def SqL (K : PySem.W.Frag) (H : Hp) (a : Addr) (xs : List V) : Prop :=
  Rd H a (.lst xs) ∨
    ∃ (o : Obj) (its : Array Value) (n : Nat), K.lookup a = some o ∧ o.cls = .type "list" ∧ o.dict = none ∧ o.data = .seq its n ∧ its.size ≤ sizeLine ∧ Vals xs its.toList
def SqT (K : PySem.W.Frag) (H : Hp) (a : Addr) (xs : List V) : Prop :=
  Rd H a (.tup xs) ∨
    ∃ (o : Obj) (its : Array Value) (n : Nat), K.lookup a = some o ∧ o.cls = .type "tuple" ∧ o.data = .seq its n ∧ its.size ≤ sizeLine ∧ Vals xs its.toList
def absV : Value → Option V
  | .none => some .non
  | .bool b => some (.bl b)
  | .int i _ => some (.int i)
  | .str x _ => some (.str x)
  | .bytes b _ => some (.byt b)
  | .float b _ => some (.flt b)
  | .ref a => some (.ref a)
  | .type n => some (.ty n)
  | _ => none
theorem RelV.abs {x : V} {u : Value} (r : RelV x u) : absV u = some x := by
  cases x with
  | non => cases r; rfl
  | bl _ => cases r; rfl
  | int _ => obtain ⟨t, rfl⟩ := r; rfl
  | str _ => obtain ⟨t, rfl⟩ := r; rfl
  | byt _ => obtain ⟨t, rfl⟩ := r; rfl
  | flt _ => obtain ⟨t, rfl⟩ := r; rfl
  | ref _ => cases r; rfl
  | ty _ => cases r; rfl
theorem RelV.inj {x y : V} {u : Value} (r : RelV x u) (q : RelV y u) : x = y := Option.some.inj (r.abs.symm.trans q.abs)
theorem Vals.inj : ∀ {xs ys : List V} {us : List Value}, Vals xs us → Vals ys us → xs = ys
  | _, _, _, .nil, .nil => rfl
  | _, _, _, .cons r t, .cons r' t' => by rw [r.inj r', Vals.inj t t']
section
variable {X : Cx} {pins : List (Addr × Obj)} {σ : St} {H : Hp} {s : Shared} {a : Addr} {xs ys : List V}
theorem SqL.of {K : PySem.W.Frag} (h : H a = some (.lst xs)) : SqL K H a xs := .inl (.inl h)
theorem SqT.of {K : PySem.W.Frag} (h : H a = some (.tup xs)) : SqT K H a xs := .inl (.inl h)
theorem Inv.list (I : Inv X pins σ H s) (h : SqL X.K H a xs) : ∃ its : List Value, Vals xs its ∧ PlainL s.heap a its.toArray ∧ xs.length ≤ sizeLine := by
  rcases h with h | ⟨o, its, n, hk, hc, hd, hs, hz, r⟩
  · obtain ⟨z, its, n, r, e⟩ := h.ok I.hok
    exact ⟨its, r, ⟨_, n, e, rfl, rfl, rfl⟩, z⟩
  · refine ⟨its.toList, r, ⟨o, n, I.kIn a o hk, hc, hd, by simpa using hs⟩, ?_⟩
    have e := r.length
    simp only [Array.length_toList] at e
    omega
theorem Inv.tuple (I : Inv X pins σ H s) (h : SqT X.K H a xs) : ∃ its : List Value, Vals xs its ∧ IsTup s.heap a its.toArray ∧ xs.length ≤ sizeLine := by
  rcases h with h | ⟨o, its, n, hk, hc, hs, hz, r⟩
  · obtain ⟨z, its, r, p⟩ := h.ok I.hok
    exact ⟨its, r, p, z⟩
  · refine ⟨its.toList, r, ⟨o, I.kIn a o hk, hc, n, by simpa using hs⟩, ?_⟩
    have e := r.length
    simp only [Array.length_toList] at e
    omega
theorem Inv.list_inj (I : Inv X pins σ H s) (h : SqL X.K H a xs) (h' : SqL X.K H a ys) : xs = ys := by
  obtain ⟨its, r, ⟨o, n, e, _, _, d⟩, _⟩ := I.list h
  obtain ⟨its', r', ⟨o', n', e', _, _, d'⟩, _⟩ := I.list h'
  rw [e] at e'; cases e'
  rw [d] at d'
  injection d' with d1 _
  have : its = its' := by simpa using congrArg Array.toList d1
  subst this
  exact r.inj r'
end
/-! ### another wish about exceptions -/
abbrev Cx.wish (X : Cx) (E : Value → Shared → Prop) : Cx := { X with xe := E }
/-- no exception leaves -/
abbrev Cx.nox (X : Cx) : Cx := X.wish fun _ _ => False
theorem Cx.Ok.wish {X : Cx} (ok : X.Ok) (E : Value → Shared → Prop) : (X.wish E).Ok :=
  ⟨ok.mod, ok.kind, ok.glob, ok.blt, ok.above, ok.inj, ok.has, ok.cab, ok.hd, ok.frames, ok.stk, ok.exf, ok.bs, ok.bsz, ok.noex, ok.exfs, ok.funs, ok.frf⟩
theorem Cx.Ok.unwish {X : Cx} {E : Value → Shared → Prop} (ok : (X.wish E).Ok) : X.Ok :=
  ⟨ok.mod, ok.kind, ok.glob, ok.blt, ok.above, ok.inj, ok.has, ok.cab, ok.hd, ok.frames, ok.stk, ok.exf, ok.bs, ok.bsz, ok.noex, ok.exfs, ok.funs, ok.frf⟩
section
variable {X : Cx} {pins : List (Addr × Obj)} {σ : St} {H : Hp} {s : Shared} {E : Value → Shared → Prop}
theorem Inv.wish (I : Inv X pins σ H s) (E : Value → Shared → Prop) : Inv (X.wish E) pins σ H s := ⟨I.ok.wish E, I.os, I.bare, I.base, I.loc, I.cell, I.free, I.freeC, I.pin, I.hok, I.len⟩
theorem Inv.unwish (I : Inv (X.wish E) pins σ H s) : Inv X pins σ H s := ⟨I.ok.unwish, I.os, I.bare, I.base, I.loc, I.cell, I.free, I.freeC, I.pin, I.hok, I.len⟩
theorem SP.unwish {D : Ends} {f : Flow} {s' : Shared} (h : SP (X.wish E) pins D f s') : SP X pins D f s' := by
  cases f with
  | next => obtain ⟨σ', H', I, q⟩ := h; exact ⟨σ', H', I.unwish, q⟩
  | brk => obtain ⟨σ', H', I, q⟩ := h; exact ⟨σ', H', I.unwish, q⟩
  | cont => obtain ⟨σ', H', I, q⟩ := h; exact ⟨σ', H', I.unwish, q⟩
  | ret u => obtain ⟨v, σ', H', I, r, q⟩ := h; exact ⟨v, σ', H', I.unwish, r, q⟩
theorem PE.nox {e : Expr} {t : TE} (h : PE X.nox e t) : PE X e t := fun pins s σ H Q I hw =>
  wpAny_mono (h pins s σ H Q (I.wish _) hw) (fun _ _ ⟨v, H', I', r, q⟩ => ⟨v, H', I'.unwish, r, q⟩) fun _ _ z => False.elim z
theorem PT.nox {e : Expr} {t : TT} (h : PT X.nox e t) : PT X e t := fun pins s σ H Q I hw =>
  wpAny_mono (h pins s σ H Q (I.wish _) hw) (fun _ _ ⟨H', I', q⟩ => ⟨H', I'.unwish, q⟩) fun _ _ z => False.elim z
theorem PSs.nox {st : List Stmt} {t : TS} (h : PSs X.nox st t) : PSs X st t := fun pins s σ H D I hw =>
  wpAny_mono (h pins s σ H D (I.wish _) hw) (fun _ _ q => q.unwish) fun _ _ z => False.elim z
end
/-! ### blocks and small statements -/
section
variable {X : Cx} {st : Stmt} {rest : List Stmt} {t u : TS} {e : Expr} {te : TE} {pos : Pos}
def tNext : TS := fun D σ H => D.nx σ H
def tSeq (t u : TS) : TS := fun D σ H => t { D with nx := u D } σ H
theorem pss_nil : PSs X [] tNext := fun _ _ σ H _ I h => wpAny_execs_nil ⟨σ, H, I, h⟩
theorem pss_cons (h1 : PS X st t) (h2 : PSs X rest u) : PSs X (st :: rest) (tSeq t u) := by
  intro pins s σ H D I h
  refine wpAny_execs_cons (thn (h1 pins s σ H { D with nx := u D } I h) fun f s1 q => ?_)
  cases f with
  | next =>
    obtain ⟨σ', H', I', q⟩ := q
    exact h2 pins s1 σ' H' D I' q
  | ret v => exact q
  | brk => exact q
  | cont => exact q
theorem pss_one (h1 : PS X st t) : PSs X [st] t := by
  intro pins s σ H D I h
  refine wpAny_execs_cons (thn (h1 pins s σ H D I h) fun f s1 q => ?_)
  cases f with
  | next => exact wpAny_execs_nil q
  | ret v => exact q
  | brk => exact q
  | cont => exact q
/-- in a def's body nothing is shown -/
theorem Inv.quiet {pins : List (Addr × Obj)} {σ : St} {H : Hp} {s : Shared} (I : Inv X pins σ H s) : interactive X.env = false := by simp [interactive, I.ok.kind]
/-- an expression whose value is dropped -/
def tDrop (te : TE) : TS := fun D σ H => te σ H fun _ H1 => D.nx σ H1
theorem ps_expr (he : PE X e te) (hs : swapsWith e none pos.line X.env = pure false := by rfl) : PS X (.Expr e pos) (tDrop te) := by
  intro pins s σ H D I h
  exact wpAny_Expr_any (thn (he pins s σ H _ I h) fun v s1 ⟨x, H1, I1, r1, q1⟩ => ⟨σ, H1, I1, q1⟩) I.quiet hs
def tRet (te : TE) : TS := fun D σ H => te σ H D.rt
theorem ps_ret (he : PE X e te) : PS X (.Return (some e) pos) (tRet te) := by
  intro pins s σ H D I h
  exact wpAny_Return_some (thn (he pins s σ H _ I h) fun v s1 ⟨x, H1, I1, r1, q1⟩ => ⟨x, σ, H1, I1, r1, q1⟩)
def tIfS (c : TT) (t u : TS) : TS := fun D σ H => c σ H fun b H1 => if b = true then t D σ H1 else u D σ H1
theorem ps_if {c : Expr} {a b : List Stmt} {tc : TT} (hc : PT X c tc) (ha : PSs X a t) (hb : PSs X b u) : PS X (.If c a b pos) (tIfS tc t u) := by
  intro pins s σ H D I h
  refine wpAny_If (thn (hc pins s σ H _ I h) fun d s1 ⟨H1, I1, q1⟩ => ?_)
  cases d with
  | true => exact ha pins s1 σ H1 D I1 q1
  | false => exact hb pins s1 σ H1 D I1 q1
/-- code that the proof never comes to -/
def tNever : TS := fun _ _ _ => False
theorem ps_never : PS X st tNever := fun _ _ _ _ _ _ h => h.elim
end
/-! ### targets -/
abbrev TG := V → St → Hp → (St → Hp → Prop) → Prop
abbrev TGs := List V → St → Hp → (St → Hp → Prop) → Prop
def PG (X : Cx) (target : Expr) (t : TG) : Prop :=
  ∀ (pins : List (Addr × Obj)) (s : Shared) (σ : St) (H : Hp) (v : V) (u : Value) (Q : St → Hp → Prop), Inv X pins σ H s → RelV v u → t v σ H Q →
    wpAny (model X.prog X.w) X.A (assign target X.env u) (fun _ s' => ∃ σ' H', Inv X pins σ' H' s' ∧ Q σ' H') X.xe s
/-- several targets, one after another -/
def PGs (X : Cx) (ts : List Expr) (t : TGs) : Prop :=
  ∀ (pins : List (Addr × Obj)) (s : Shared) (σ : St) (H : Hp) (vs : List V) (us : List Value) (Q : St → Hp → Prop), Inv X pins σ H s → Vals vs us → t vs σ H Q →
    wpAny (model X.prog X.w) X.A (assignInOrder ((assignEach ts X.env).map (·.2)) us) (fun _ s' => ∃ σ' H', Inv X pins σ' H' s' ∧ Q σ' H') X.xe s
section
variable {X : Cx} {pos : Pos}
def gName (i : Nat) : TG := fun v σ H Q => Q (σ.set i (some v)) H
theorem pg_name {i : Nat} {x : Str} (hN : X.N.Nodup) (hi : X.N[i]? = some x) (hx : Loc X.env.scope x) (hf : X.fn x = true ∨ X.env.scope.names.lookup x = some .local := by first | exact .inl rfl | exact .inr rfl | assumption) : PG X (.Name x pos) (gName i) := by
  intro pins s σ H v u Q I r h
  exact wpAny_assign_Name (store_ok I hN hi hx r (fun s' I' => ⟨_, H, I', h⟩) hf)
def gNil : TGs := fun vs σ H Q => vs = [] ∧ Q σ H
def gCons (t : TG) (u : TGs) : TGs := fun vs σ H Q => ∃ v r, vs = v :: r ∧ t v σ H fun σ' H' => u r σ' H' Q
theorem pgs_nil : PGs X [] gNil := by
  intro pins s σ H vs us Q I r h
  obtain ⟨e, h⟩ := h
  subst e
  cases r
  exact assignInOrder_nil ⟨σ, H, I, h⟩
theorem pgs_cons {e : Expr} {es : List Expr} {t : TG} {u : TGs} (h1 : PG X e t) (h2 : PGs X es u)
    (hs : (assignEach (e :: es) X.env).map (·.2) = assign e X.env :: (assignEach es X.env).map (·.2) := by rfl) : PGs X (e :: es) (gCons t u) := by
  intro pins s σ H vs us Q I r h
  obtain ⟨v, vr, e1, h⟩ := h
  subst e1
  cases r with
  | cons r rr =>
    rw [hs]
    refine assignInOrder_cons (thn (h1 pins s σ H _ _ _ I r h) fun _ s1 ⟨σ1, H1, I1, q1⟩ => ?_)
    exact h2 pins s1 σ1 H1 _ _ Q I1 rr q1
/-- (a, b, ..) = a tuple of that length -/
def gTup (K : PySem.W.Frag) (n : Nat) (t : TGs) : TG := fun v σ H Q => ∃ a xs, v = .ref a ∧ SqT K H a xs ∧ xs.length = n ∧ t xs σ H Q
theorem pg_tup {es : List Expr} {k : Nat} {t : TGs} {n : Nat} (hc : X.calm = true) (h : PGs X es t)
    (hn : (assignEach es X.env).length = n := by rfl) (hst : (assignEach es X.env).findIdx? (·.1) = none := by rfl) : PG X (.Tuple es k pos) (gTup X.K n t) := by
  intro pins s σ H v u Q I r hw
  obtain ⟨a, xs, e1, hq, hl, hw⟩ := hw
  subst e1
  cases r
  obtain ⟨its, rv, ht, hz⟩ := I.tuple hq
  refine assign_Tuple_tuple (I.ok.hd hc) ht (by simp [hn, ← hl, rv.length]) hst fun h' hx => ?_
  have I1 : Inv X pins σ H { s with heap := h' } := I.kept (t' := s.toks) fun b o e => hx b o (Nat.ne_of_lt (Heap.lt_size e)) e
  exact h pins _ σ H xs _ Q I1 (by simpa using rv) hw
/-- target = value -/
def tAsg (te : TE) (g : TG) : TS := fun D σ H => te σ H fun x H1 => g x σ H1 D.nx
/-- name = value -/
theorem ps_set {i : Nat} {x : Str} {e : Expr} {te : TE} {pos' : Pos} (hN : X.N.Nodup) (hi : X.N[i]? = some x) (hx : Loc X.env.scope x) (he : PE X e te) (hs : swapsWith e (some (.Name x pos')) pos.line X.env = pure false := by rfl) (hf : X.fn x = true ∨ X.env.scope.names.lookup x = some .local := by first | exact .inl rfl | exact .inr rfl | assumption) :
    PS X (.Assign [.Name x pos'] e pos) (tAsg te (gName i)) := by
  intro pins s σ H D I h
  refine wpAny_Assign_Name (thn (he pins s σ H _ I h) fun v s1 ⟨y, H1, I1, r1, q1⟩ => ?_) hs
  exact store_ok I1 hN hi hx r1 (fun s2 I2 => ⟨_, H1, I2, q1⟩) hf
end
/-! ### while -/
section
variable {X : Cx} {pos : Pos}
end
/-! ### what a loop or a comprehension walks -/
/-- at turn i: it yields x (the heap may grow), or it stops -/
structure It where
  go : Nat → Hp → Prop
  yld : Nat → Hp → V → Hp → Prop
  stop : Nat → Hp → Prop
/-- the iterator's own objects may turn: they are not the frame's, not pinned, younger than the entry (or a comprehension's own) -/
def FpOk (X : Cx) (pins : List (Addr × Obj)) (H : Hp) (b : Addr) : Prop :=
  H b = none ∧ b ≠ X.env.locals ∧ b ∉ X.fs ∧ (b ∈ X.ex ∨ X.s₀.heap.objs.size ≤ b) ∧ (∀ x c, X.env.cells.lookup x = some c → c ≠ b) ∧ ∀ p ∈ X.pn ++ pins, p.1 ≠ b
theorem Inv.fpOk {X : Cx} {pins : List (Addr × Obj)} {σ : St} {H H' : Hp} {s : Shared} {b : Addr} (I : Inv X pins σ H s) (hb : s.heap.objs.size ≤ b) (hn : H' b = none) : FpOk X pins H' b := by
  refine ⟨hn, Nat.ne_of_gt (Nat.lt_of_lt_of_le I.lt hb), I.nofs hb, .inr (Nat.le_trans I.sz hb), fun x c e z => ?_, fun p hp z => ?_⟩
  · obtain ⟨v, q⟩ := I.cell x c e
    exact absurd (Nat.lt_of_lt_of_le q.lt (by rw [z]; exact hb)) (Nat.lt_irrefl _)
  · exact absurd (Nat.lt_of_lt_of_le (Heap.lt_size (I.pin p hp).1) (by rw [z]; exact hb)) (Nat.lt_irrefl _)
structure Turn (P : Program) (w : World) (K : PySem.W.Frag) (tg : Expr) (J : It) (fp : List Addr) (it : Addr) (tn : Nat → Heap → Prop) : Prop where
  mem : it ∈ fp
  obj : ∀ i h, tn i h → ∀ b ∈ fp, ∃ o, h.get? b = some o ∧ ∀ v, o.data ≠ .cell v
  keep : ∀ i h h', tn i h → (∀ b ∈ fp, ∀ o, h.get? b = some o → h'.get? b = some o) → tn i h'
  item : ∀ (X : Cx), X.prog = P → X.w = w → X.K = K → X.calm = true → ∀ (i : Nat) (pins : List (Addr × Obj)) (s : Shared) (σ : St) (H : Hp) (E : Value → Shared → Prop), Inv X pins σ H s → (∀ b ∈ fp, FpOk X pins H b) → tn i s.heap → J.go i H →
    wpAny (model P w) X.A (pyNext (.ref it)) (fun r s1 => ∃ u, r = some u ∧
      wpAny (model P w) X.A (letOwnedTupleGo tg (.ref it) u) (fun _ s2 => ∃ x H', Inv X pins σ H' s2 ∧ RelV x u ∧ J.yld i H x H' ∧ tn (i + 1) s2.heap ∧ ∀ b ∈ fp, H' b = none) E s1) E s
  done : ∀ (X : Cx), X.prog = P → X.w = w → X.K = K → X.calm = true → ∀ (i : Nat) (pins : List (Addr × Obj)) (s : Shared) (σ : St) (H : Hp) (E : Value → Shared → Prop), Inv X pins σ H s → (∀ b ∈ fp, FpOk X pins H b) → tn i s.heap → J.stop i H →
    wpAny (model P w) X.A (pyNext (.ref it)) (fun r s1 => r = none ∧ Inv X pins σ H s1) E s
  self : ∀ (A : Around) (i : Nat) (s : Shared) (Q : Value → Shared → Prop) (E : Value → Shared → Prop), tn i s.heap → Q (.ref it) s → wpAny (model P w) A (pyIter (.ref it)) Q E s
abbrev TI := St → Hp → (It → Hp → Prop) → Prop
/-- an iterator has come -/
def PIE (X : Cx) (pins : List (Addr × Obj)) (σ : St) (tg : Expr) (R : It → Hp → Prop) (itv : Value) (s2 : Shared) : Prop :=
  ∃ (it : Addr) (fp : List Addr) (tn : Nat → Heap → Prop) (J : It) (H' : Hp), itv = .ref it ∧ Inv X pins σ H' s2 ∧ Turn X.prog X.w X.K tg J fp it tn ∧ tn 0 s2.heap ∧ (∀ b ∈ fp, FpOk X pins H' b) ∧ R J H'
def PI (X : Cx) (tg iter : Expr) (wi : TI) : Prop :=
  ∀ (pins : List (Addr × Obj)) (s : Shared) (σ : St) (H : Hp) (R : It → Hp → Prop), Inv X pins σ H s → wi σ H R →
    wpAny (model X.prog X.w) X.A (eval iter X.env) (fun v s1 => wpAny (model X.prog X.w) X.A (pyIter v) (PIE X pins σ tg R) X.xe s1) X.xe s
/-- the step ahead of the store is nothing for an iterator that keeps no tuple -/
theorem go_of {M : Model} {A : Around} {E : Value → Shared → Prop} {s : Shared} {tg : Expr} {it : Addr} {u : Value} {o : Obj} {n : String} {vs : Array Value} {Q : Unit → Shared → Prop} (ho : s.heap.get? it = some o) (hc : o.cls = .type n) (hd : o.data = .fields vs)
    (hn : ["enumerate", "zip", "dict_itemiterator", "dict_reverseitemiterator", "odict_iterator", "itertools.zip_longest", "itertools.pairwise"].contains n = false) (hQ : Q () s) : wpAny M A (letOwnedTupleGo tg (.ref it) u) Q E s := by
  unfold letOwnedTupleGo
  cases tg <;> first
    | exact wpAny_pure hQ
    | (cases u <;> first
        | exact wpAny_pure hQ
        | (refine wpAny_bind (wpAny_load ho ?_)
           rw [hc, hd]
           show wpAny M A (if (["enumerate", "zip", "dict_itemiterator", "dict_reverseitemiterator", "odict_iterator", "itertools.zip_longest", "itertools.pairwise"].contains n && vs[0]? == some (rawInt _)) = true then _ else _) Q E s
           rw [if_neg (by intro h; rw [hn, Bool.false_and] at h; cases h)]
           exact wpAny_pure hQ))
/-- the list at a, as it stands at each turn (a loop may append to it) -/
def Itl (K : PySem.W.Frag) (a : Addr) : It :=
  ⟨fun i H => ∃ xs x, SqL K H a xs ∧ xs[i]? = some x, fun i H x H' => H' = H ∧ ∀ xs, SqL K H a xs → xs[i]? = some x, fun i H => ∃ xs, SqL K H a xs ∧ xs.length ≤ i⟩
/-- lo, lo + 1, .. (n of them) -/
def Itr (lo : Int) (n : Nat) : It := ⟨fun i _ => i < n, fun i H x H' => H' = H ∧ x = .int (lo + i), fun i _ => n ≤ i⟩
theorem turn_list {P : Program} {w : World} {K : PySem.W.Frag} {tg : Expr} (a it : Addr) : Turn P w K tg (Itl K a) [it] it (fun i h => h.IsListIter it a i) where
  mem := by simp
  obj := fun i h st b hb => by
    have e : b = it := by simpa using hb
    subst e
    obtain ⟨o, e, c, d⟩ := st
    exact ⟨o, e, fun v z => by rw [d] at z; cases z⟩
  keep := fun i h h' st k => st.at fun o e => k it (by simp) o e
  item := by
    intro X hP hw hK hc i pins s σ H E I hf st hg
    subst hP hw hK
    obtain ⟨xs, x, hq, hx⟩ := hg
    obtain ⟨its, rv, p, hz⟩ := I.list hq
    obtain ⟨u, hu, ru⟩ := rv.get hx
    obtain ⟨f0, f1, f2, f3, f4, f5⟩ := hf it (by simp)
    refine wpAny_pyNext_list_item st p.isList (x := u) (by simpa using hu) fun h' st' sb => ?_
    have I1 : Inv X pins σ H { s with heap := h' } := I.turned (t' := s.toks) (fun b o hb e => (sb.2 b hb).trans e) f0 f1 f3 f4 f5
    obtain ⟨o, e, c, d⟩ := id st'
    exact ⟨u, rfl, go_of (s := { s with heap := h' }) e c d (by decide) ⟨x, H, I1, ru, ⟨rfl, fun ys hy => by rw [I.list_inj hy hq]; exact hx⟩, st', fun b hb => (hf b hb).1⟩⟩
  done := by
    intro X hP hw hK hc i pins s σ H E I hf st hg
    subst hP hw hK
    obtain ⟨xs, hq, hx⟩ := hg
    obtain ⟨its, rv, p, hz⟩ := I.list hq
    obtain ⟨f0, f1, f2, f3, f4, f5⟩ := hf it (by simp)
    have hl := rv.length
    exact wpAny_pyNext_list_end (I.ok.hd hc) st p.isList (by simp; omega) fun h' eb => ⟨rfl, I.turned (t' := s.toks) (fun b o hb e => eb b o hb e) f0 f1 f3 f4 f5⟩
  self := fun _ _ _ _ _ st h => wpAny_pyIter_listiter st h
theorem turn_range {P : Program} {w : World} {K : PySem.W.Frag} {tg : Expr} (it : Addr) (lo : Int) (n : Nat) : Turn P w K tg (Itr lo n) [it] it (fun i h => IsRangeIter h it (lo + (i : Nat) * 1) ((n : Int) - (i : Nat)) 1) where
  mem := by simp
  obj := fun i h st b hb => by
    have e : b = it := by simpa using hb
    subst e
    exact ⟨_, st, fun v z => by
      have z' : Data.fields _ = Data.cell v := z
      cases z'⟩
  keep := fun i h h' st k => k it (by simp) _ st
  item := by
    intro X hP hw hK hc i pins s σ H E I hf st hg
    subst hP hw hK
    obtain ⟨f0, f1, f2, f3, f4, f5⟩ := hf it (by simp)
    have W := Walks.range (prog := X.prog) (w := X.w) (I.ok.hd hc) it lo 1 n
    refine W.item i s _ _ hg st fun v h' tk hv st' kk => ?_
    obtain ⟨t, rfl⟩ := hv
    have I1 : Inv X pins σ H { s with heap := h', toks := tk } := I.turned (fun b o hb e => kk b o (by simpa using hb) e) f0 f1 f3 f4 f5
    refine ⟨_, rfl, go_of (s := { s with heap := h', toks := tk }) (n := "range_iterator") st' rfl rfl (by decide) ⟨.int (lo + i), H, I1, ⟨t, ?_⟩, ⟨rfl, rfl⟩, st', fun b hb => (hf b hb).1⟩⟩
    rw [Int.mul_one]
  done := by
    intro X hP hw hK hc i pins s σ H E I hf st hg
    subst hP hw hK
    obtain ⟨f0, f1, f2, f3, f4, f5⟩ := hf it (by simp)
    exact wpAny_pyNext_range_end (I.ok.hd hc) st (by have : n ≤ i := hg; omega) fun h' eb => ⟨rfl, I.turned (t' := s.toks) (fun b o hb e => eb b o hb e) f0 f1 f3 f4 f5⟩
  self := fun _ _ _ _ _ st h => wpAny_pyIter_rangeiter st h
end L2
namespace L2
open PySem PySem.Spec PyProof.Rows
section
variable {X : Cx} {tg : Expr}
def iList (K : PySem.W.Frag) (tl : TE) : TI := fun σ H R => tl σ H fun x H1 => ∃ a, x = .ref a ∧ (∃ xs, SqL K H1 a xs) ∧ R (Itl K a) H1
theorem pi_list {l : Expr} {tl : TE} (hl : PE X l tl) : PI X tg l (iList X.K tl) := by
  intro pins s σ H R I h
  refine thn (hl pins s σ H _ I h) fun v s1 ⟨x, H1, I1, r1, q1⟩ => ?_
  obtain ⟨a, e, ⟨xs, hq⟩, q⟩ := q1
  subst e
  cases r1
  obtain ⟨its, rv, p, hz⟩ := I1.list hq
  refine wpAny_pyIter_list p.isList ?_
  refine ⟨s1.heap.objs.size, [s1.heap.objs.size], _, _, H1, rfl, I1.kept (t' := s1.toks) fun b o e => Heap.get?_push_of_some _ e, turn_list a _, ⟨_, Heap.get?_push_size _ rfl, rfl, rfl⟩, fun b hb => ?_, q⟩
  have e : b = s1.heap.objs.size := by simpa using hb
  subst e
  exact I1.fpOk (Nat.le_refl _) (I1.hok.fresh (Nat.le_refl _))
/-- a range object just made, walked -/
theorem range_it {pins : List (Addr × Obj)} {σ : St} {H : Hp} {s : Shared} {R : It → Hp → Prop} {E : Value → Shared → Prop} {lo hi : Int} {t u v : Tok} {tk : Nat} (I : Inv X pins σ H s) (h1 : -(2 ^ 62) ≤ lo) (h2 : lo < 2 ^ 62) (h3 : -(2 ^ 62) ≤ hi) (h4 : hi < 2 ^ 62)
    (q : R (Itr lo (hi - lo).toNat) H) : wpAny (model X.prog X.w) X.A (pyIter (.ref s.heap.objs.size)) (PIE X pins σ tg R) E { s with heap := s.heap.push { cls := .type "range", data := .fields #[.int lo t, .int hi u, .int 1 v] }, toks := tk } := by
  refine wpAny_pyIter_range (IsRange.new ..) (small_one h1 h2 h3 h4) ?_
  have I1 : Inv X pins σ H { s with heap := s.heap.push { cls := .type "range", data := .fields #[.int lo t, .int hi u, .int 1 v] }, toks := tk } := I.kept fun b o e => Heap.get?_push_of_some _ e
  refine ⟨(s.heap.push { cls := .type "range", data := .fields #[.int lo t, .int hi u, .int 1 v] }).objs.size, [(s.heap.push { cls := .type "range", data := .fields #[.int lo t, .int hi u, .int 1 v] }).objs.size], _, _, H, rfl,
    I1.kept (t' := tk) fun b o e => Heap.get?_push_of_some _ e, turn_range _ lo (hi - lo).toNat, ?_, fun b hb => ?_, q⟩
  · have e1 : lo + ((0 : Nat) : Int) * 1 = lo := by simp
    have e2 : (((hi - lo).toNat : Nat) : Int) - ((0 : Nat) : Int) = Builtin.Range.rangeSize lo hi 1 := by rw [rangeSize_one]; split <;> omega
    show IsRangeIter _ _ (lo + ((0 : Nat) : Int) * 1) ((((hi - lo).toNat : Nat) : Int) - ((0 : Nat) : Int)) 1
    rw [e1, e2]
    exact Heap.get?_push_size _ rfl
  · have e : b = (s.heap.push { cls := .type "range", data := .fields #[.int lo t, .int hi u, .int 1 v] }).objs.size := by simpa using hb
    subst e
    exact I1.fpOk (Nat.le_refl _) (I1.hok.fresh (Nat.le_refl _))
def iRng2 (ta : TA) : TI := fun σ H R => ta σ H fun vs H1 => ∃ i j : Int, vs = [.int i, .int j] ∧ (-(2 ^ 62) ≤ i ∧ i < 2 ^ 62 ∧ -(2 ^ 62) ≤ j ∧ j < 2 ^ 62) ∧ R (Itr i (j - i).toNat) H1
theorem pi_range2 {a b : Expr} {ta : TA} {p pos : Pos} (hg : Gl X "range") (hm : X.mg "range" = none) (ha : PA X [a, b] ta) (hs : starEach [a, b] X.env = [(false, eval a X.env), (false, eval b X.env)] := by rfl) (hs2 : starEach [b] X.env = [(false, eval b X.env)] := by rfl) :
    PI X tg (.Call (.Name "range" p) [a, b] [] pos) (iRng2 ta) := by
  intro pins s σ H R I h
  refine Call_ (ld_blt I hg hm boot_range (PyProof.Rows.callWith_type1 (thn (ha pos pins s σ H _ I h) fun us s1 ⟨vs, H1, I1, r1, q1⟩ => ?_) (by rw [hs, hs2]) (by rw [hs2]; rfl)))
  obtain ⟨i, j, e, ⟨q1, q2, q3, q4⟩, q⟩ := q1
  subst e
  cases r1 with
  | cons r rr =>
    cases rr with
    | cons r' rr =>
      cases rr
      obtain ⟨t, rfl⟩ := r
      obtain ⟨t', rfl⟩ := r'
      exact call_range_2 (range_it I1 q1 q2 q3 q4 q)
/-! ### for -/
/-- W: the invariant by the turn and a measure; N: what the body is to reach -/
def tFor (wi : TI) (g : TG) (tb : TS) : TS := fun D σ H => wi σ H fun J H1 => ∃ W : Nat → Nat → St → Hp → Prop, (∃ m, W 0 m σ H1) ∧ ∀ i m σ H, W i m σ H →
  (J.stop i H ∧ D.nx σ H) ∨ (J.go i H ∧ ∃ N : St → Hp → Prop, (∀ σ' H', N σ' H' → ∃ m', m' < m ∧ W (i + 1) m' σ' H') ∧ ∀ x H', J.yld i H x H' → g x σ H' fun σ2 H2 => tb { D with nx := N, ct := N, bk := D.nx } σ2 H2)
/-- the records at fp as they stand -/
def pinsAt (fp : List Addr) (h : Heap) : List (Addr × Obj) := fp.filterMap fun b => (h.get? b).map fun o => (b, o)
theorem mem_pinsAt {fp : List Addr} {h : Heap} {b : Addr} {o : Obj} (hb : b ∈ fp) (e : h.get? b = some o) : (b, o) ∈ pinsAt fp h := List.mem_filterMap.mpr ⟨b, hb, by rw [e]; rfl⟩
theorem of_pinsAt {fp : List Addr} {h : Heap} {p : Addr × Obj} (hp : p ∈ pinsAt fp h) : p.1 ∈ fp ∧ h.get? p.1 = some p.2 := by
  obtain ⟨b, hb, e⟩ := List.mem_filterMap.mp hp
  cases q : h.get? b with
  | none => rw [q] at e; cases e
  | some o =>
    rw [q] at e
    have e' : (b, o) = p := Option.some.inj e
    subst e'
    exact ⟨hb, q⟩
theorem Inv.pinned {pins : List (Addr × Obj)} {σ : St} {H : Hp} {s : Shared} {fp : List Addr} (I : Inv X pins σ H s) (hf : ∀ b ∈ fp, FpOk X pins H b) (ho : ∀ b ∈ fp, ∃ o, s.heap.get? b = some o ∧ ∀ v, o.data ≠ .cell v) : Inv X (pins ++ pinsAt fp s.heap) σ H s :=
  I.pins_of fun p hp => (List.mem_append.mp hp).elim (fun z => I.pin p (List.mem_append_right _ z)) fun z => by
    obtain ⟨hb, e⟩ := of_pinsAt z
    obtain ⟨f0, f1, f2, _⟩ := hf p.1 hb
    obtain ⟨o, e', d⟩ := ho p.1 hb
    rw [e] at e'; cases e'
    exact ⟨e, f0, f1, f2, d⟩
theorem Inv.unpinned {pins pl : List (Addr × Obj)} {σ : St} {H : Hp} {s : Shared} (I : Inv X (pins ++ pl) σ H s) : Inv X pins σ H s := I.pins_of fun p hp => I.pin p (List.mem_append_right _ (List.mem_append_left _ hp))
theorem ps_for {iter : Expr} {body : List Stmt} {wi : TI} {g : TG} {tb : TS} {pos : Pos} (hp : PassesOwn (model X.prog X.w) X.A X.env X.xe) (hc : X.calm = true) (hi : PI X tg iter wi) (hg : PG X tg g) (hb : PSs X body tb)
    (hs : ∀ x, foldedSetIterable iter X.env x = pure x := by intro _; rfl) : PS X (.For tg iter body [] pos) (tFor wi g tb) := by
  intro pins s σ H D I h
  refine wpAny_For (thn (hi pins s σ H _ I h) fun v s1 h1 => thn h1 fun itv s2 h2 => ?_) hs
  obtain ⟨it, fp, tn, J, H2, e, I2, T, st2, f2, W, ⟨m0, w0⟩, turn⟩ := h2
  subst e
  -- what stays true of the iterator's objects through the loop
  have stat : ∀ {H' : Hp}, (∀ b ∈ fp, H' b = none) → ∀ b ∈ fp, FpOk X pins H' b := fun hn b hb => ⟨hn b hb, (f2 b hb).2⟩
  refine codeAny_forLoop_any (fun n s' => ∃ i σ' H', Inv X pins σ' H' s' ∧ tn i s'.heap ∧ (∀ b ∈ fp, H' b = none) ∧ W i n σ' H') ?_ m0 ⟨0, σ, H2, I2, st2, fun b hb => (f2 b hb).1, w0⟩
  rintro n s3 ⟨i, σ3, H3, I3, st3, fr3, w3⟩
  rcases turn i n σ3 H3 w3 with ⟨stop, qn⟩ | ⟨go, N, hN, step⟩
  · refine wpAny_passesOwn hp (thn (T.done X rfl rfl rfl hc i pins s3 σ3 H3 X.xe I3 (stat fr3) st3 stop) fun r s4 ⟨hr, I4⟩ => ?_)
    subst hr
    exact wpAny_execs_nil ⟨σ3, H3, I4, qn⟩
  · refine wpAny_passesOwn hp (thn (T.item X rfl rfl rfl hc i pins s3 σ3 H3 X.xe I3 (stat fr3) st3 go) fun r s4 ⟨u, hr, h4⟩ => ?_)
    subst hr
    refine wpAny_passesOwn hp (thn h4 fun _ s5 ⟨x, H5, I5, r5, y5, st5, fr5⟩ => ?_)
    have I5' := I5.pinned (stat fr5) (T.obj _ _ st5)
    refine wpAny_passesOwn hp (thn (hg _ s5 σ3 H5 x u _ I5' r5 (step x H5 y5)) fun _ s6 ⟨σ6, H6, I6, q6⟩ => ?_)
    refine wpAny_passesOwn hp (thn (hb _ s6 σ6 H6 _ I6 q6) fun f s7 q7 => ?_)
    have again : ∀ {σ7 : St} {H7 : Hp}, Inv X (pins ++ pinsAt fp s5.heap) σ7 H7 s7 → N σ7 H7 → ∃ m, m < n ∧ ∃ i σ' H', Inv X pins σ' H' s7 ∧ tn i s7.heap ∧ (∀ b ∈ fp, H' b = none) ∧ W i m σ' H' := fun {σ7 H7} I7 n7 => by
      obtain ⟨m', hm, w7⟩ := hN σ7 H7 n7
      refine ⟨m', hm, i + 1, σ7, H7, I7.unpinned, T.keep _ _ _ st5 fun b hb o e => (I7.pin (b, o) (List.mem_append_right _ (List.mem_append_right _ (mem_pinsAt hb e)))).1, fun b hb => ?_, w7⟩
      obtain ⟨o, e, d⟩ := T.obj _ _ st5 b hb
      exact (I7.pin (b, o) (List.mem_append_right _ (List.mem_append_right _ (mem_pinsAt hb e)))).2.1
    cases f with
    | next => obtain ⟨σ7, H7, I7, n7⟩ := q7; exact again I7 n7
    | cont => obtain ⟨σ7, H7, I7, n7⟩ := q7; exact again I7 n7
    | brk => obtain ⟨σ7, H7, I7, q7⟩ := q7; exact ⟨σ7, H7, I7.unpinned, q7⟩
    | ret v => obtain ⟨x7, σ7, H7, I7, r7, q7⟩ := q7; exact ⟨x7, σ7, H7, I7.unpinned, r7, q7⟩
end
/-! ### the forms one uses -/
/-- over a list that the body leaves as it is -/
theorem for_list {K : PySem.W.Frag} {a : Addr} {xs : List V} {g : TG} {tb : TS} {D : Ends} {σ : St} {H : Hp} (Pv : Nat → St → Hp → Prop) (h0 : Pv 0 σ H) (hl : ∀ i σ H, i ≤ xs.length → Pv i σ H → SqL K H a xs)
    (hs : ∀ i x σ H, xs[i]? = some x → Pv i σ H → g x σ H fun σ2 H2 => tb { D with nx := Pv (i + 1), ct := Pv (i + 1), bk := D.nx } σ2 H2) (hd : ∀ σ H, Pv xs.length σ H → D.nx σ H) :
    ∃ W : Nat → Nat → St → Hp → Prop, (∃ m, W 0 m σ H) ∧ ∀ i m σ H, W i m σ H →
      ((Itl K a).stop i H ∧ D.nx σ H) ∨ ((Itl K a).go i H ∧ ∃ N : St → Hp → Prop, (∀ σ' H', N σ' H' → ∃ m', m' < m ∧ W (i + 1) m' σ' H') ∧ ∀ x H', (Itl K a).yld i H x H' → g x σ H' fun σ2 H2 => tb { D with nx := N, ct := N, bk := D.nx } σ2 H2) := by
  refine ⟨fun i m σ H => m = xs.length - i ∧ i ≤ xs.length ∧ Pv i σ H, ⟨xs.length, by simp, Nat.zero_le _, h0⟩, ?_⟩
  rintro i m σ H ⟨rfl, hi, p⟩
  have q := hl i σ H hi p
  by_cases hlt : i < xs.length
  · refine .inr ⟨⟨xs, xs[i], q, by simp [hlt]⟩, Pv (i + 1), fun σ' H' p' => ⟨xs.length - (i + 1), by omega, rfl, hlt, p'⟩, fun x H' y => ?_⟩
    obtain ⟨e, y⟩ := y
    subst e
    exact hs i x σ _ (y xs q) p
  · have e : i = xs.length := by omega
    subst e
    exact .inl ⟨⟨xs, q, Nat.le_refl _⟩, hd σ H p⟩
theorem for_range {lo : Int} {n : Nat} {g : TG} {tb : TS} {D : Ends} {σ : St} {H : Hp} (Pv : Nat → St → Hp → Prop) (h0 : Pv 0 σ H)
    (hs : ∀ i σ H, i < n → Pv i σ H → g (.int (lo + i)) σ H fun σ2 H2 => tb { D with nx := Pv (i + 1), ct := Pv (i + 1), bk := D.nx } σ2 H2) (hd : ∀ σ H, Pv n σ H → D.nx σ H) :
    ∃ W : Nat → Nat → St → Hp → Prop, (∃ m, W 0 m σ H) ∧ ∀ i m σ H, W i m σ H →
      ((Itr lo n).stop i H ∧ D.nx σ H) ∨ ((Itr lo n).go i H ∧ ∃ N : St → Hp → Prop, (∀ σ' H', N σ' H' → ∃ m', m' < m ∧ W (i + 1) m' σ' H') ∧ ∀ x H', (Itr lo n).yld i H x H' → g x σ H' fun σ2 H2 => tb { D with nx := N, ct := N, bk := D.nx } σ2 H2) := by
  refine ⟨fun i m σ H => m = n - i ∧ i ≤ n ∧ Pv i σ H, ⟨n, by simp, Nat.zero_le _, h0⟩, ?_⟩
  rintro i m σ H ⟨rfl, hi, p⟩
  by_cases hlt : i < n
  · refine .inr ⟨hlt, Pv (i + 1), fun σ' H' p' => ⟨n - (i + 1), by omega, rfl, hlt, p'⟩, fun x H' y => ?_⟩
    obtain ⟨e, y⟩ := y
    subst e y
    exact hs i σ _ hlt p
  · have e : i = n := by omega
    subst e
    exact .inl ⟨Nat.le_refl _, hd σ H p⟩
end L2
namespace L2
open PySem PySem.Spec PyProof.Rows
abbrev R2 := V → V → Hp → VK → Prop
/-- a two-place operation on values: f is binaryOp op, inplaceOp op or compareOp op -/
def OpR (X : Cx) (f : Value → Value → Sem Value) (r : R2) : Prop :=
  ∀ (pins : List (Addr × Obj)) (s : Shared) (σ : St) (H : Hp) (x y : V) (v u : Value) (Q : VK), Inv X pins σ H s → RelV x v → RelV y u → r x y H Q →
    wpAny (model X.prog X.w) X.A (f v u) (EP X pins σ Q) X.xe s
/-- a one-place operation -/
def UnR (X : Cx) (f : Value → Sem Value) (r : V → Hp → VK → Prop) : Prop :=
  ∀ (pins : List (Addr × Obj)) (s : Shared) (σ : St) (H : Hp) (x : V) (v : Value) (Q : VK), Inv X pins σ H s → RelV x v → r x H Q →
    wpAny (model X.prog X.w) X.A (f v) (EP X pins σ Q) X.xe s
/-- a call of a value that is known (a builtin, a type) with values -/
def CallR (X : Cx) (f : Value) (r : List V → Hp → VK → Prop) : Prop :=
  ∀ (pins : List (Addr × Obj)) (s : Shared) (σ : St) (H : Hp) (xs : List V) (us : List Value) (Q : VK), Inv X pins σ H s → Vals xs us → r xs H Q →
    wpAny (model X.prog X.w) X.A (call f us) (EP X pins σ Q) X.xe s
/-- a value's truth -/
def TruR (X : Cx) (r : V → Hp → (Bool → Hp → Prop) → Prop) : Prop :=
  ∀ (pins : List (Addr × Obj)) (s : Shared) (σ : St) (H : Hp) (x : V) (v : Value) (Q : Bool → Hp → Prop), Inv X pins σ H s → RelV x v → r x H Q →
    wpAny (model X.prog X.w) X.A (truthy v) (TP X pins σ Q) X.xe s
def tOp (r : R2) (ta tb : TE) : TE := fun σ H Q => ta σ H fun x H1 => tb σ H1 fun y H2 => r x y H2 Q
def tUn (r : V → Hp → VK → Prop) (ta : TE) : TE := fun σ H Q => ta σ H fun x H1 => r x H1 Q
/-- ints in, under C, and a value out -/
def rI (C : Int → Int → Prop) (g : Int → Int → V) : R2 := fun x y H Q => ∃ i j, x = .int i ∧ y = .int j ∧ C i j ∧ Q (g i j) H
def rI0 (g : Int → Int → V) : R2 := fun x y H Q => ∃ i j, x = .int i ∧ y = .int j ∧ Q (g i j) H
def rU (g : Int → V) : V → Hp → VK → Prop := fun x H Q => ∃ i, x = .int i ∧ Q (g i) H
section
variable {X : Cx} {a b c : Expr} {ta tb tc : TE} {pos : Pos}
theorem binT (ha : PE X a ta) (hb : PE X b tb) {pins : List (Addr × Obj)} {s : Shared} {σ : St} {H : Hp} {R : V → V → Hp → Prop} (I : Inv X pins σ H s)
    (h : ta σ H fun x H1 => tb σ H1 fun y H2 => R x y H2) {Q : Value → Shared → Prop} {f : Value → Value → Sem Value}
    (hf : ∀ v u s2 x y H2, Inv X pins σ H2 s2 → RelV x v → RelV y u → R x y H2 → wpAny (model X.prog X.w) X.A (f v u) Q X.xe s2) :
    wpAny (model X.prog X.w) X.A (eval a X.env) (fun v s₁ => wpAny (model X.prog X.w) X.A (eval b X.env) (fun u s₂ => wpAny (model X.prog X.w) X.A (f v u) Q X.xe s₂) X.xe s₁) X.xe s := by
  refine thn (ha pins s σ H _ I h) fun v s1 ⟨x, H1, I1, r1, q1⟩ => ?_
  refine thn (hb pins s1 σ H1 _ I1 q1) fun u s2 ⟨y, H2, I2, r2, q2⟩ => ?_
  exact hf v u s2 x y H2 I2 r1 r2 q2
theorem pe_op {op : Operator} {r : R2} (ho : OpR X (binaryOp op) r) (ha : PE X a ta) (hb : PE X b tb) : PE X (.BinOp a op b pos) (tOp r ta tb) := by
  intro pins s σ H Q I h
  exact wpAny_BinOp (binT ha hb I h fun v u s2 x y H2 I2 rx ry q => ho pins s2 σ H2 x y v u Q I2 rx ry q)
theorem pe_un {op : UnaryOp} {r : V → Hp → VK → Prop} (ho : UnR X (unaryOp op) r) (ha : PE X a ta) : PE X (.UnaryOp op a pos) (tUn r ta) := by
  intro pins s σ H Q I h
  exact UnaryOp_ (thn (ha pins s σ H _ I h) fun v s1 ⟨x, H1, I1, r1, q1⟩ => ho pins s1 σ H1 x v Q I1 r1 q1)
/-! ### ints -/
theorem opI {f : Value → Value → Sem Value} {C : Int → Int → Prop} {g : Int → Int → Int}
    (rule : ∀ (i j : Int) (t u : Tok) (s : Shared) (Q : Value → Shared → Prop) (E : Value → Shared → Prop), C i j → Q (.int (g i j) s.toks) { s with toks := s.toks + 1 } → wpAny (model X.prog X.w) X.A (f (.int i t) (.int j u)) Q E s) :
    OpR X f (rI C fun i j => .int (g i j)) := by
  intro pins s σ H x y v u Q I rx ry h
  obtain ⟨i, j, rfl, rfl, hc, q⟩ := h
  obtain ⟨t, rfl⟩ := rx
  obtain ⟨t', rfl⟩ := ry
  exact rule i j t t' s _ _ hc ⟨.int (g i j), H, I.tok _, ⟨_, rfl⟩, q⟩
theorem opI0 {f : Value → Value → Sem Value} {g : Int → Int → Int}
    (rule : ∀ (i j : Int) (t u : Tok) (s : Shared) (Q : Value → Shared → Prop) (E : Value → Shared → Prop), Q (.int (g i j) s.toks) { s with toks := s.toks + 1 } → wpAny (model X.prog X.w) X.A (f (.int i t) (.int j u)) Q E s) :
    OpR X f (rI0 fun i j => .int (g i j)) := by
  intro pins s σ H x y v u Q I rx ry h
  obtain ⟨i, j, rfl, rfl, q⟩ := h
  obtain ⟨t, rfl⟩ := rx
  obtain ⟨t', rfl⟩ := ry
  exact rule i j t t' s _ _ ⟨.int (g i j), H, I.tok _, ⟨_, rfl⟩, q⟩
theorem opB0 {f : Value → Value → Sem Value} {g : Int → Int → Bool}
    (rule : ∀ (i j : Int) (t u : Tok) (s : Shared) (Q : Value → Shared → Prop) (E : Value → Shared → Prop), Q (.bool (g i j)) s → wpAny (model X.prog X.w) X.A (f (.int i t) (.int j u)) Q E s) :
    OpR X f (rI0 fun i j => .bl (g i j)) := by
  intro pins s σ H x y v u Q I rx ry h
  obtain ⟨i, j, rfl, rfl, q⟩ := h
  obtain ⟨t, rfl⟩ := rx
  obtain ⟨t', rfl⟩ := ry
  exact rule i j t t' s _ _ ⟨.bl (g i j), H, I, rfl, q⟩
def CDiv (i j : Int) : Prop := 0 < j ∧ j < 1073741824
def CMul (i j : Int) : Prop := (-(2 ^ 64) < i ∧ i < 2 ^ 64) ∨ (-(2 ^ 64) < j ∧ j < 2 ^ 64)
theorem CMul.ok {i j : Int} (h : CMul i j) : IntMulOk i j := by
  rcases h with ⟨h1, h2⟩ | ⟨h1, h2⟩
  · exact .of_left (intBits_le_64 h1 h2)
  · exact .of_right (intBits_le_64 h1 h2)
theorem op_add : OpR X (binaryOp .Add) (rI0 fun i j => .int (i + j)) := opI0 fun _ _ _ _ _ _ _ q => add_int q
theorem op_sub : OpR X (binaryOp .Sub) (rI0 fun i j => .int (i - j)) := opI0 fun _ _ _ _ _ _ _ q => sub_int q
theorem op_mul : OpR X (binaryOp .Mult) (rI CMul fun i j => .int (i * j)) := opI fun _ _ _ _ _ _ _ hc q => mul_int q hc.ok
/-- // by a positive divisor -/
theorem op_fdiv : OpR X (binaryOp .FloorDiv) (rI CDiv fun i j => .int (i / j)) := opI fun i j _ _ _ _ _ hc q => by
  have h1 : (0 : Int) < j := hc.1
  have h2 : j < 1073741824 := hc.2
  exact floordiv_int (by omega) (by rw [Int.fdiv_eq_ediv_of_nonneg i (by omega)]; exact q) (.inl (PyProof.noPylong_small (by omega)))
/-- % by a positive divisor of any size -/
theorem op_mod : OpR X (binaryOp .Mod) (rI (fun _ j => 0 < j) fun i j => .int (i % j)) := opI fun i j _ _ _ _ _ hc q => by
  have h1 : (0 : Int) < j := hc
  exact mod_int' (by omega) (by rw [Int.fmod_eq_emod_of_nonneg i (by omega)]; exact q)
theorem unI {f : Value → Sem Value} {g : Int → Int}
    (rule : ∀ (i : Int) (t : Tok) (s : Shared) (Q : Value → Shared → Prop) (E : Value → Shared → Prop), Q (.int (g i) s.toks) { s with toks := s.toks + 1 } → wpAny (model X.prog X.w) X.A (f (.int i t)) Q E s) :
    UnR X f (rU fun i => .int (g i)) := by
  intro pins s σ H x v Q I rx h
  obtain ⟨i, rfl, q⟩ := h
  obtain ⟨t, rfl⟩ := rx
  exact rule i t s _ _ ⟨.int (g i), H, I.tok _, ⟨_, rfl⟩, q⟩
theorem un_neg : UnR X (unaryOp .USub) (rU fun i => .int (-i)) := unI fun _ _ _ _ _ q => neg_int q
/-! ### bools among ints: n += (a < b) -/
end
/-! ### comparisons -/
/-- the scalars that == tells apart as data does -/
def scal : V → V → Bool
  | .non, .non => true | .non, .int _ => true | .int _, .non => true | .non, .bl _ => true | .bl _, .non => true | .non, .str _ => true | .str _, .non => true
  | .int _, .int _ => true | .bl _, .bl _ => true | .str _, .str _ => true | .byt _, .byt _ => true
  | .int _, .str _ => true | .str _, .int _ => true | .bl _, .str _ => true | .str _, .bl _ => true
  | _, _ => false
def rEq : R2 := fun x y H Q => scal x y = true ∧ Q (.bl (decide (x = y))) H
def rNe : R2 := fun x y H Q => scal x y = true ∧ Q (.bl (!decide (x = y))) H
theorem dec_int {i j : Int} : decide (V.int i = V.int j) = (i == j) := by
  rw [Bool.eq_iff_iff]
  simp
theorem dec_bl {i j : Bool} : decide (V.bl i = V.bl j) = (i == j) := by
  rw [Bool.eq_iff_iff]
  simp
theorem dec_str {i j : Str} : decide (V.str i = V.str j) = (i == j) := by
  rw [Bool.eq_iff_iff]
  simp
theorem dec_byt {i j : Array UInt8} : decide (V.byt i = V.byt j) = (i.toList == j.toList) := by
  rw [Bool.eq_iff_iff]
  cases i
  cases j
  simp
section
variable {X : Cx} {a b c : Expr} {ta tb tc : TE} {pos : Pos}
theorem fin_bl {pins : List (Addr × Obj)} {σ : St} {H : Hp} {s : Shared} {Q : VK} {k k' : Bool} (I : Inv X pins σ H s) (q : Q (.bl k) H) (e : k = k') : EP X pins σ Q (.bool k') s := by
  subst e
  exact ⟨.bl k, H, I, rfl, q⟩
theorem op_eq : OpR X (compareOp .Eq) rEq := by
  intro pins s σ H x y v u Q I rx ry h
  obtain ⟨hs, q⟩ := h
  cases x with
  | non =>
    cases rx
    cases y with
    | non => cases ry; exact PySem.EqNone.eq_none_none (fin_bl I q (by simp))
    | bl j => cases ry; exact PySem.EqNone.eq_none_bool (fin_bl I q (by simp))
    | int j => obtain ⟨t', rfl⟩ := ry; exact PySem.EqNone.eq_none_int (fin_bl I q (by simp))
    | str j => obtain ⟨t', rfl⟩ := ry; exact PySem.EqNone.eq_none_str (fin_bl I q (by simp))
    | _ => exact absurd (show false = true from hs) Bool.false_ne_true
  | bl i =>
    cases rx
    cases y with
    | non => cases ry; exact PySem.EqNone.eq_bool_none (fin_bl I q (by simp))
    | bl j => cases ry; exact eq_bool (fin_bl I q dec_bl)
    | str j => obtain ⟨t', rfl⟩ := ry; exact PySem.EqMixed.eq_bool_str (fin_bl I q (by simp))
    | _ => exact absurd (show false = true from hs) Bool.false_ne_true
  | int i =>
    obtain ⟨t, rfl⟩ := rx
    cases y with
    | non => cases ry; exact PySem.EqNone.eq_int_none (fin_bl I q (by simp))
    | int j => obtain ⟨t', rfl⟩ := ry; exact eq_int (fin_bl I q dec_int)
    | str j => obtain ⟨t', rfl⟩ := ry; exact PySem.EqMixed.eq_int_str (fin_bl I q (by simp))
    | _ => exact absurd (show false = true from hs) Bool.false_ne_true
  | str i =>
    obtain ⟨t, rfl⟩ := rx
    cases y with
    | non => cases ry; exact PySem.EqNone.eq_str_none (fin_bl I q (by simp))
    | bl j => cases ry; exact PySem.EqMixed.eq_str_bool (fin_bl I q (by simp))
    | int j => obtain ⟨t', rfl⟩ := ry; exact PySem.EqMixed.eq_str_int (fin_bl I q (by simp))
    | str j => obtain ⟨t', rfl⟩ := ry; exact eq_str (fin_bl I q dec_str)
    | _ => exact absurd (show false = true from hs) Bool.false_ne_true
  | byt i =>
    obtain ⟨t, rfl⟩ := rx
    cases y with
    | byt j => obtain ⟨t', rfl⟩ := ry; exact PySem.W.eq_bytes (fin_bl I q dec_byt)
    | _ => exact absurd (show false = true from hs) Bool.false_ne_true
  | _ => cases y <;> exact absurd (show false = true from hs) Bool.false_ne_true
theorem op_ne : OpR X (compareOp .NotEq) rNe := by
  intro pins s σ H x y v u Q I rx ry h
  obtain ⟨hs, q⟩ := h
  cases x with
  | non =>
    cases rx
    cases y with
    | non => cases ry; exact PySem.EqNone.ne_none_none (fin_bl I q (by simp))
    | bl j => cases ry; exact PySem.EqNone.ne_none_bool (fin_bl I q (by simp))
    | int j => obtain ⟨t', rfl⟩ := ry; exact PySem.EqNone.ne_none_int (fin_bl I q (by simp))
    | str j => obtain ⟨t', rfl⟩ := ry; exact PySem.EqNone.ne_none_str (fin_bl I q (by simp))
    | _ => exact absurd (show false = true from hs) Bool.false_ne_true
  | bl i =>
    cases rx
    cases y with
    | non => cases ry; exact PySem.EqNone.ne_bool_none (fin_bl I q (by simp))
    | bl j => cases ry; exact ne_bool (fin_bl I q (congrArg not dec_bl))
    | str j => obtain ⟨t', rfl⟩ := ry; exact PySem.EqMixed.ne_bool_str (fin_bl I q (by simp))
    | _ => exact absurd (show false = true from hs) Bool.false_ne_true
  | int i =>
    obtain ⟨t, rfl⟩ := rx
    cases y with
    | non => cases ry; exact PySem.EqNone.ne_int_none (fin_bl I q (by simp))
    | int j => obtain ⟨t', rfl⟩ := ry; exact ne_int (fin_bl I q (congrArg not dec_int))
    | str j => obtain ⟨t', rfl⟩ := ry; exact PySem.EqMixed.ne_int_str (fin_bl I q (by simp))
    | _ => exact absurd (show false = true from hs) Bool.false_ne_true
  | str i =>
    obtain ⟨t, rfl⟩ := rx
    cases y with
    | non => cases ry; exact PySem.EqNone.ne_str_none (fin_bl I q (by simp))
    | bl j => cases ry; exact PySem.EqMixed.ne_str_bool (fin_bl I q (by simp))
    | int j => obtain ⟨t', rfl⟩ := ry; exact PySem.EqMixed.ne_str_int (fin_bl I q (by simp))
    | str j => obtain ⟨t', rfl⟩ := ry; exact ne_str (fin_bl I q (congrArg not dec_str))
    | _ => exact absurd (show false = true from hs) Bool.false_ne_true
  | byt i =>
    obtain ⟨t, rfl⟩ := rx
    cases y with
    | byt j => obtain ⟨t', rfl⟩ := ry; exact PySem.W.ne_bytes (fin_bl I q (congrArg not dec_byt))
    | _ => exact absurd (show false = true from hs) Bool.false_ne_true
  | _ => cases y <;> exact absurd (show false = true from hs) Bool.false_ne_true
theorem op_lt : OpR X (compareOp .Lt) (rI0 fun i j => .bl (decide (i < j))) := opB0 fun _ _ _ _ _ _ _ q => lt_int q
theorem op_le : OpR X (compareOp .LtE) (rI0 fun i j => .bl (decide (i ≤ j))) := opB0 fun _ _ _ _ _ _ _ q => le_int q
theorem op_gt : OpR X (compareOp .Gt) (rI0 fun i j => .bl (decide (j < i))) := opB0 fun _ _ _ _ _ _ _ q => gt_int q
/-- two rules for one operation: by cases -/
theorem OpR.or {f : Value → Value → Sem Value} {r r' : R2} (h : OpR X f r) (h' : OpR X f r') : OpR X f (fun x y H Q => r x y H Q ∨ r' x y H Q) := by
  intro pins s σ H x y v u Q I rx ry q
  rcases q with q | q
  · exact h pins s σ H x y v u Q I rx ry q
  · exact h' pins s σ H x y v u Q I rx ry q
theorem nomark (b : Expr) {op : CmpOp} (h : op ≠ .In := by decide) (h2 : op ≠ .NotIn := by decide) : behindInMarks op b = false := by
  have e1 : (op == CmpOp.In) = false := by cases op <;> first | rfl | exact absurd rfl h
  have e2 : (op == CmpOp.NotIn) = false := by cases op <;> first | rfl | exact absurd rfl h2
  cases b <;> simp [behindInMarks, e1, e2]
/-- a comparison as a value; hm: nomark b, or (for in, not in) by with_unfolding_all rfl -/
theorem pe_cmpR {op : CmpOp} {r : R2} (ho : OpR X (compareOp op) r) (ha : PE X a ta) (hb : PE X b tb) (hm : behindInMarks op b = false) : PE X (.Compare a [op] [b] pos) (tOp r ta tb) := by
  intro pins s σ H Q I h
  exact wpAny_Compare1 (binT ha hb I h fun v u s2 x y H2 I2 rx ry q => ho pins s2 σ H2 x y v u Q I2 rx ry q) hm
/-- a reading of a value as a test -/
def tTest (t : TE) : TT := fun σ H Q => t σ H fun x H' => ∃ k, x = .bl k ∧ Q k H'
theorem pt_cmpR {op : CmpOp} {r : R2} (ho : OpR X (compareOp op) r) (ha : PE X a ta) (hb : PE X b tb) (hm : behindInMarks op b = false) : PT X (.Compare a [op] [b] pos) (tTest (tOp r ta tb)) := by
  intro pins s σ H Q I h
  refine wpAny_isTrue_Compare1 (thn (ha pins s σ H _ I h) fun v s1 ⟨x, H1, I1, r1, q1⟩ => thn (hb pins s1 σ H1 _ I1 q1) fun u s2 ⟨y, H2, I2, r2, q2⟩ =>
    thn (ho pins s2 σ H2 x y v u _ I2 r1 r2 q2) fun c s3 ⟨z, H3, I3, r3, k, e, q3⟩ => ?_) hm
  subst e
  cases r3
  exact wpAny_truthy_bool ⟨H3, I3, q3⟩
/-- a op1 b op2 c -/
def tChain (r r' : R2) (ta tb tc : TE) : TE := fun σ H Q => ta σ H fun x H1 => tb σ H1 fun y H2 => r x y H2 fun z H3 => ∃ k, z = .bl k ∧
  (if k = true then tc σ H3 fun w' H4 => r' y w' H4 Q else Q (.bl false) H3)
theorem pe_chain {op op' : CmpOp} {r r' : R2} (ho : OpR X (compareOp op) r) (ho' : OpR X (compareOp op') r') (ha : PE X a ta) (hb : PE X b tb) (hc : PE X c tc)
    (hm : lastMarks [op, op'] [b, c] = false := by with_unfolding_all rfl) : PE X (.Compare a [op, op'] [b, c] pos) (tChain r r' ta tb tc) := by
  intro pins s σ H Q I h
  refine Compare_chain (thn (ha pins s σ H _ I h) fun v s1 ⟨x, H1, I1, r1, q1⟩ => chain_link (thn (hb pins s1 σ H1 _ I1 q1) fun u s2 ⟨y, H2, I2, r2, q2⟩ =>
    thn (ho pins s2 σ H2 x y v u _ I2 r1 r2 q2) fun d s3 ⟨z, H3, I3, r3, k, e, q3⟩ => ?_)) hm
  subst e
  cases r3
  refine wpAny_truthy_bool ?_
  cases k with
  | false => exact ite_ff ⟨.bl false, H3, I3, rfl, q3⟩
  | true => exact ite_tt (chain_last (thn (hc pins s3 σ H3 _ I3 q3) fun w' s4 ⟨z', H4, I4, r4, q4⟩ => ho' pins s4 σ H4 y z' u w' Q I4 r2 r4 q4))
/-! ### truth -/
theorem line63 : (sizeLine : Nat) < 2 ^ 63 := by rw [sizeLine_eq]; decide
/-! ### strs and bytes -/
/-! ### scalar builtins, by CallR -/
theorem vals1 {x : V} {us : List Value} (r : Vals [x] us) : ∃ u, us = [u] ∧ RelV x u := by
  cases r with
  | cons r1 r2 => cases r2; exact ⟨_, rfl, r1⟩
theorem vals2 {x y : V} {us : List Value} (r : Vals [x, y] us) : ∃ u w', us = [u, w'] ∧ RelV x u ∧ RelV y w' := by
  cases r with
  | cons r1 r2 =>
    cases r2 with
    | cons r3 r4 => cases r4; exact ⟨_, _, rfl, r1, r3⟩
theorem call_min2 (hc : X.calm = true) : CallR X (.builtin "min") (fun xs H Q => ∃ i j, xs = [.int i, .int j] ∧ Q (.int (if j < i then j else i)) H) := by
  intro pins s σ H xs us Q I r h
  obtain ⟨i, j, rfl, q⟩ := h
  obtain ⟨u, w', rfl, ⟨t, rfl⟩, ⟨t', rfl⟩⟩ := vals2 r
  refine min_two_ints (I.ok.hd hc) fun h' tk k => ⟨_, H, I.kept k, ?_, q⟩
  by_cases hj : j < i
  · rw [if_pos hj, if_pos hj]; exact ⟨_, rfl⟩
  · rw [if_neg hj, if_neg hj]; exact ⟨_, rfl⟩
end
end L2
namespace L2
open PySem PySem.Spec PyProof.Rows
/-! ### an instance, its attributes a map -/
structure ObjM (h : Heap) (x dx C : Addr) (mA : Str → Option Value) : Prop where
  obj : h.get? x = some (PySem.W.instObj C dx)
  ns : h.Ns1 dx mA
  ne : dx ≠ x
theorem lookIn_ns {h : Heap} {dx : Addr} {mA : Str → Option Value} (n : h.Ns1 dx mA) : ∃ od, h.get? dx = some od ∧ ∀ name, PySem.W.lookIn name od = some (mA name) := by
  obtain ⟨o, es, ep, ho, hd, hk, _, hm⟩ := n
  refine ⟨o, ho, fun name => ?_⟩
  have e := hm name
  unfold nsFind findBy at e
  rw [← Array.find?_toList] at e
  unfold PySem.W.lookIn
  rw [hd]
  dsimp only
  split
  · rename_i y q
    rw [q] at e
    exact congrArg some e
  · rename_i q
    rw [q] at e
    have a : es.toList.any (·.refKey) = false := by
      rw [List.any_eq_false]
      intro y hy
      obtain ⟨z, t, hkey⟩ := hk y (Array.mem_toList_iff.mp hy)
      simp [DictEntry.refKey, hkey]
    have a' : ¬ es.toList.any (·.refKey) = true := by rw [a]; exact Bool.false_ne_true
    rw [if_neg a']
    exact congrArg some e
theorem ObjM.look {h : Heap} {x dx C : Addr} {mA : Str → Option Value} (I : ObjM h x dx C mA) : ∃ od, PySem.W.InstAt h x (PySem.W.instObj C dx) C (some od) ∧ ∀ name, PySem.W.lookIn name od = some (mA name) :=
  let ⟨od, ho, hl⟩ := lookIn_ns I.ns
  ⟨od, ⟨I.obj, rfl, rfl, ho⟩, hl⟩
section
variable {prog : Program} {w : World} {A : Around} {E : Value → Shared → Prop} {s : Shared} {K : PySem.W.Frag} {x dx C f : Addr} {mA : Str → Option Value} {name : Str} {v : Value}
theorem get_map {expr : Bool} {Q : Value → Shared → Prop} (X : K.In s.heap) (I : ObjM s.heap x dx C mA) (hg : PySem.W.plainGet K C name = true) (hh : PySem.W.hasDictIn K C = true)
    (ha : PySem.W.findIn K (.ref C) name = some none) (hv : mA name = some v) (hv' : PySem.W.handedIn v = true) (h : Q v { s with toks := s.toks + 1 }) :
    wpAny (model prog w) A (getAttr (.ref x) name expr) Q E s := by
  obtain ⟨od, J, hl⟩ := I.look
  exact PySem.W.get_value X J (PySem.W.plainGet_of hg).1 (PySem.W.findObj_own hh ha rfl (by rw [hl, hv])) hv' h
theorem set_map {ns : List Str} {Q : Unit → Shared → Prop} (X : K.In s.heap) (I : ObjM s.heap x dx C mA)
    (hs : PySem.W.findIn K (.ref C) "__setattr__" = some (some (.builtin "object.__setattr__"))) (hp : PySem.W.plainOver K C = true) (ht : PySem.W.takerIn K C name = some none) (hh : PySem.W.hasDictIn K C = true)
    (hw : PySem.Within mA ns) (hsz : ns.length ≤ sizeLine)
    (h : ∀ h', ObjM h' x dx C (fun y => if y = name then some v else mA y) → Heap.SameBut dx s.heap h' → Q () { s with heap := h', toks := s.toks + 2 }) :
    wpAny (model prog w) A (setAttr (.ref x) name v) Q E s := by
  obtain ⟨od, J, hl⟩ := I.look
  refine PySem.W.set_plain X J hs (PySem.W.osa_open (s := { s with toks := s.toks + 1 }) (r := none) X J hp ht fun b => ?_)
  obtain ⟨cd, hc, hd'⟩ := PySem.W.any_some hh
  have hx : s.heap.get? x = some ⟨.ref C, some dx, .plain, #[]⟩ := I.obj
  refine wpAny_bind (wpAny_pure (wpAny_bind (wpAny_bind (wpAny_loadPart hx (wpAny_bind (PySem.W.Looks.here (s := { s with toks := s.toks + 1 }) (PySem.W.looks_clsIn X hc) ?_))))))
  rw [hd']
  refine wpAny_pure (a := some dx) (wpAny_bind (wpAny_pure (wpAny_bind ?_)))
  refine wpAny_nsSet1 (s := { s with toks := s.toks + 1 }) I.ns fun h' hn2 hs2 => ?_
  obtain ⟨oD, esD, epD, hoD, hdD, hcD⟩ := hn2.count (PySem.Within.cons name v hw)
  refine wpAny_bind (wpAny_lookBehind hoD (by rw [hdD]; exact pastItsLine_dict (Nat.le_trans hcD (by rw [List.length_cons]; omega))) ?_)
  exact wpAny_pure (h _ ⟨(hs2.2 _ (Ne.symm I.ne)).trans I.obj, hn2, I.ne⟩ hs2)
/-- C(..): the dict at the heap's end, the instance behind it; then its __init__ -/
theorem make_map {R : Result → Shared → Prop} {vs : List Value} {kw : List (Str × Value)} (X : K.In s.heap) (hm : PySem.W.makesIn K C = true)
    (hi : PySem.W.findIn K (.ref C) "__init__" = some (some (.ref f))) (hf : PySem.W.typeIn K (.ref f) = some (.type "function"))
    (h : codeAny (model prog w) (A.under (.builtin "type.__call__" ⟨.ref C :: vs, kw⟩)) (.call (.ref f) ⟨.ref (s.heap.objs.size + 1) :: vs, kw⟩) (PySem.W.InitBack (s.heap.objs.size + 1) R)
      { s with heap := (s.heap.push PySem.W.emptyDict).push (PySem.W.instObj C s.heap.objs.size) }) :
    codeAny (model prog w) A (.call (.ref C) ⟨vs, kw⟩) R s := by
  obtain ⟨hh, g, d, t, os⟩ := s
  exact PySem.W.make_core (PySem.W.makes_of X hm) (PySem.W.looks_findIn X hi) (fun self => PySem.W.bind_fn X self hf) (.inl rfl) h
end
/-! ### the attributes as a list of pairs -/
def putF (f : Str) (v : V) : List (Str × V) → List (Str × V)
  | [] => [(f, v)]
  | (g, x) :: r => if g = f then (g, v) :: r else (g, x) :: putF f v r
theorem lookup_putF (f g : Str) (v : V) : ∀ fs : List (Str × V), (putF f v fs).lookup g = if g = f then some v else fs.lookup g
  | [] => by
    show List.lookup g [(f, v)] = _
    by_cases h : g = f
    · have hb : (g == f) = true := beq_iff_eq.mpr h
      simp only [List.lookup, hb, if_pos h]
    · have hb : (g == f) = false := beq_eq_false_iff_ne.mpr h
      simp only [List.lookup, hb, if_neg h]
  | (k, x) :: r => by
    have ih := lookup_putF f g v r
    rw [show putF f v ((k, x) :: r) = (if k = f then (k, v) :: r else (k, x) :: putF f v r) from rfl]
    by_cases hk : k = f
    · rw [if_pos hk]
      by_cases h : g = k
      · have hb : (g == k) = true := beq_iff_eq.mpr h
        simp only [List.lookup, hb, if_pos (h.trans hk)]
      · have hb : (g == k) = false := beq_eq_false_iff_ne.mpr h
        simp only [List.lookup, hb, if_neg (fun e : g = f => h (e.trans hk.symm))]
    · rw [if_neg hk]
      by_cases h : g = k
      · have hb : (g == k) = true := beq_iff_eq.mpr h
        simp only [List.lookup, hb, if_neg (fun e : g = f => hk (h.symm.trans e))]
      · have hb : (g == k) = false := beq_eq_false_iff_ne.mpr h
        simp only [List.lookup, hb]
        exact ih
theorem keys_putF (f : Str) (v : V) : ∀ fs : List (Str × V), f ∈ (putF f v fs).map (·.1) ∧ ∀ g, g ∈ fs.map (·.1) → g ∈ (putF f v fs).map (·.1)
  | [] => ⟨by simp [putF], fun g h => by simp at h⟩
  | (k, x) :: r => by
    obtain ⟨i1, i2⟩ := keys_putF f v r
    rw [show putF f v ((k, x) :: r) = (if k = f then (k, v) :: r else (k, x) :: putF f v r) from rfl]
    by_cases hk : k = f
    · rw [if_pos hk]
      subst hk
      exact ⟨by simp, fun g h => by simpa using h⟩
    · rw [if_neg hk]
      refine ⟨?_, fun g h => ?_⟩
      · rw [List.map_cons]
        exact List.mem_cons_of_mem _ i1
      · rw [List.map_cons] at h ⊢
        rcases List.mem_cons.mp h with e | e
        · exact List.mem_cons.mpr (.inl e)
        · exact List.mem_cons_of_mem _ (i2 g e)
theorem length_putF (f : Str) (v : V) : ∀ fs : List (Str × V), (putF f v fs).length ≤ fs.length + 1
  | [] => by simp [putF]
  | (k, x) :: r => by
    have ih := length_putF f v r
    rw [show putF f v ((k, x) :: r) = (if k = f then (k, v) :: r else (k, x) :: putF f v r) from rfl]
    by_cases hk : k = f
    · rw [if_pos hk, List.length_cons, List.length_cons]; omega
    · rw [if_neg hk, List.length_cons, List.length_cons]; omega
theorem RelO.some_of {v : V} {o : Option Value} (r : RelO (some v) o) : ∃ u, o = some u ∧ RelV v u := by
  cases o with
  | none => exact (show False from r).elim
  | some u => exact ⟨u, rfl, r⟩
theorem handed_of {v : V} {u : Value} (r : RelV v u) : PySem.W.handedIn u = true := by
  cases v with
  | non => cases (show u = Value.none from r); rfl
  | bl b => cases (show u = Value.bool b from r); rfl
  | int i => obtain ⟨t, e⟩ := (show ∃ t, u = Value.int i t from r); cases e; rfl
  | str x => obtain ⟨t, e⟩ := (show ∃ t, u = Value.str x t from r); cases e; rfl
  | byt b => obtain ⟨t, e⟩ := (show ∃ t, u = Value.bytes b t from r); cases e; rfl
  | flt b => obtain ⟨t, e⟩ := (show ∃ t, u = Value.float b t from r); cases e; rfl
  | ref a => cases (show u = Value.ref a from r); rfl
  | ty n => cases (show u = Value.type n from r); rfl
section
variable {P : Program} {w : World} {H H' : Hp} {h h' : Heap} {a C dx : Addr} {fs fs' : List (Str × V)}
theorem ins_get (hok : HOk P w H h) (e : H a = some (.ins C dx fs)) : ∃ mA, ObjM h a dx C mA ∧ (∀ f, RelO (fs.lookup f) (mA f)) ∧ PySem.Within mA (fs.map (·.1)) ∧ fs.length ≤ 1000 ∧ H dx = some (.own a) := by
  obtain ⟨d, z, ne, ob, mA, n, r, q⟩ := (show ObjOk P w H h a (.ins C dx fs) from hok a _ e)
  exact ⟨mA, ⟨ob, n, ne⟩, r, q, z, d⟩
end
/-! ### what of the text a class must have -/
structure Cls (K : PySem.W.Frag) (C : Addr) : Prop where
  pg : PySem.W.plainGet K C Str.empty = true
  hd : PySem.W.hasDictIn K C = true
  po : PySem.W.plainOver K C = true
  sa : PySem.W.findIn K (.ref C) "__setattr__" = some (some (.builtin "object.__setattr__"))
theorem Cls.get {K : PySem.W.Frag} {C : Addr} (c : Cls K C) (f : Str) : PySem.W.plainGet K C f = true := c.pg
/-- no class of it has the name -/
def NoAttr (K : PySem.W.Frag) (C : Addr) (f : Str) : Prop := PySem.W.findIn K (.ref C) f = some none
theorem NoAttr.taker {K : PySem.W.Frag} {C : Addr} {f : Str} (n : NoAttr K C f) : PySem.W.takerIn K C f = some none := by
  unfold PySem.W.takerIn
  rw [show PySem.W.findIn K (.ref C) f = some none from n]
  rfl
/-- a constant of the class -/
structure Con (K : PySem.W.Frag) (C : Addr) (f : Str) (v : V) (u : Value) : Prop where
  at_ : PySem.W.findIn K (.ref C) f = some (some u)
  rel : RelV v u
  get : PySem.W.specialIn K u "__get__" = some none
  cp : PySem.W.copiedNames.contains f = false
/-- a method: a plain def of the class or of one above it -/
structure Meth (K : PySem.W.Frag) (C : Addr) (m : Str) (f : Addr) : Prop where
  at_ : PySem.W.findIn K (.ref C) m = some (some (.ref f))
  fn : PySem.W.isFn K (.ref f) = true
  kp : PySem.W.keepIn K (.ref f) = true
section
variable {X : Cx} {pins : List (Addr × Obj)} {σ : St} {H : Hp} {s : Shared} {a C dx : Addr} {fs : List (Str × V)} {f : Str} {v : V} {A : Around} {E : Value → Shared → Prop}
theorem getattr_ok {b : Bool} {Q : Value → Shared → Prop} (I : Inv X pins σ H s) (e : H a = some (.ins C dx fs)) (c : Cls X.K C) (n : NoAttr X.K C f) (l : fs.lookup f = some v)
    (h : ∀ u s', Inv X pins σ H s' → RelV v u → Q u s') : wpAny (model X.prog X.w) A (getAttr (.ref a) f b) Q E s := by
  obtain ⟨mA, O, r, _, _, _⟩ := ins_get I.hok e
  obtain ⟨u, hu, ru⟩ := RelO.some_of (v := v) (o := mA f) (by rw [← l]; exact r f)
  exact get_map I.kIn O (c.get f) c.hd n hu (handed_of ru) (h u _ (I.tok _) ru)
theorem setattr_ok {y : V} {u : Value} {Q : Unit → Shared → Prop} (I : Inv X pins σ H s) (e : H a = some (.ins C dx fs)) (c : Cls X.K C) (n : NoAttr X.K C f) (hl : fs.length < 1000) (ry : RelV y u)
    (h : ∀ s', Inv X pins σ (upd H a (.ins C dx (putF f y fs))) s' → Q () s') : wpAny (model X.prog X.w) A (setAttr (.ref a) f u) Q E s := by
  obtain ⟨mA, O, r, wi, _, ho⟩ := ins_get I.hok e
  have hz : (fs.map (·.1)).length ≤ sizeLine := by rw [List.length_map, sizeLine_eq]; omega
  refine set_map I.kIn O c.sa c.po n.taker c.hd wi hz fun h' O' sb => h _ ?_
  have hd : ∃ o, h'.get? dx = some o := let ⟨o, _, _, e', _⟩ := O'.ns; ⟨o, e'⟩
  refine I.write (x := a) (e := dx) (by rw [e]; exact True.intro) (.inr ho) (fun b q hb z => (sb.2 b hb).trans z) hd ?_
  refine ⟨by rw [upd_ne O.ne]; exact ho, ?_, O.ne, O'.obj, _, O'.ns, fun g => ?_, fun g hg => ?_⟩
  · have := length_putF f y fs; omega
  · show RelO ((putF f y fs).lookup g) (if g = f then some u else mA g)
    rw [lookup_putF]
    by_cases q : g = f
    · rw [if_pos q, if_pos q]; exact ry
    · rw [if_neg q, if_neg q]; exact r g
  · by_cases q : g = f
    · rw [q]; exact (keys_putF f y fs).1
    · refine (keys_putF f y fs).2 g (wi g fun z => hg ?_)
      show (if g = f then some u else mA g) = none
      rw [if_neg q]; exact z
/-- a new instance, tracked, without attributes -/
theorem Inv.made (I : Inv X pins σ H s) : Inv X pins σ (upd (upd H s.heap.objs.size (.own (s.heap.objs.size + 1))) (s.heap.objs.size + 1) (.ins C s.heap.objs.size []))
    { s with heap := (s.heap.push PySem.W.emptyDict).push (PySem.W.instObj C s.heap.objs.size) } := by
  have e1 : (s.heap.push PySem.W.emptyDict).get? s.heap.objs.size = some PySem.W.emptyDict := Heap.get?_push_size s.heap rfl
  have e2 : ((s.heap.push PySem.W.emptyDict).push (PySem.W.instObj C s.heap.objs.size)).get? (s.heap.objs.size + 1) = some (PySem.W.instObj C s.heap.objs.size) := by
    have := Heap.get?_push_size (s.heap.push PySem.W.emptyDict) (o := PySem.W.instObj C s.heap.objs.size) rfl
    rwa [Heap.size_push] at this
  have e3 : (s.heap.push PySem.W.emptyDict).Ns s.heap.objs.size (fun _ => none) := ⟨PySem.W.emptyDict, #[], _, e1, rfl, (fun e he => absurd he (by simp)), fun _ => rfl⟩
  have I1 := I.laid (a := s.heap.objs.size) (o := .own (s.heap.objs.size + 1)) (h' := s.heap.push PySem.W.emptyDict) (t' := s.toks) (fun b u q => Heap.get?_push_of_some _ q) (Nat.le_refl _) ⟨_, e1⟩
  refine I1.laid (a := s.heap.objs.size + 1) (o := .ins C s.heap.objs.size []) (t' := s.toks) (fun b u q => Heap.get?_push_of_some _ q) (Nat.le_of_eq (Heap.size_push _ _)) ?_
  have ne : s.heap.objs.size ≠ s.heap.objs.size + 1 := Nat.ne_of_lt (Nat.lt_succ_self _)
  refine ⟨by rw [upd_ne ne, upd_same], Nat.zero_le _, ne, e2, fun _ => none, (Heap.Ns1.of_empty e3).at fun o q => Heap.get?_push_of_some _ q, fun _ => True.intro, fun y hy => absurd rfl hy⟩
/-- e.f where nothing but the object is asked: through attributeBase (super) and the last hold -/
theorem attr_of {prog : Program} {w : World} {env : Env} {e : Expr} {f : Str} {pos : Pos} {s : Shared} {Q : Value → Shared → Prop} (hb : attributeBase e f env (eval e env) = eval e env)
    (h : wpAny (model prog w) A (eval e env) (fun o s₁ => wpAny (model prog w) A (getAttr o f true) Q E s₁) E s) : wpAny (model prog w) A (eval (.Attribute e f pos) env) Q E s :=
  Attribute_any_ h (by rw [arm_eval_Attribute, hb])
end
/-! ### readings and rules -/
/-- e.f, an attribute of the instance -/
def tFld (K : PySem.W.Frag) (ta : TE) (f : Str) : TE := fun σ H Q => ta σ H fun x H1 => ∃ a C dx fs v, x = .ref a ∧ H1 a = some (.ins C dx fs) ∧ Cls K C ∧ NoAttr K C f ∧ fs.lookup f = some v ∧ Q v H1
/-- e.f = value -/
def sFld (K : PySem.W.Frag) (ta tv : TE) (f : Str) : TS := fun D σ H => tv σ H fun y H1 => ta σ H1 fun x H2 => ∃ a C dx fs, x = .ref a ∧ H2 a = some (.ins C dx fs) ∧ Cls K C ∧ NoAttr K C f ∧ fs.length < 1000 ∧
  D.nx σ (upd H2 a (.ins C dx (putF f y fs)))
section
variable {X : Cx} {o e value : Expr} {f : Str} {pos pos' tpos : Pos} {ta tv : TE}
theorem pe_fld (he : PE X e ta) (hb : attributeBase e f X.env (eval e X.env) = eval e X.env) : PE X (.Attribute e f pos) (tFld X.K ta f) := by
  intro pins s σ H Q I h
  refine attr_of hb (thn (he pins s σ H _ I h) fun u s1 ⟨x, H1, I1, rx, a, C, dx, fs, v, ex, ea, c, n, l, q⟩ => ?_)
  subst ex
  obtain rfl : u = Value.ref a := rx
  exact getattr_ok I1 ea c n l fun u' s2 I2 ru => ⟨v, H1, I2, ru, q⟩
theorem ps_fld (ha : PE X o ta) (hv : PE X value tv) (hs : swapsWith value (some (.Attribute o f pos')) pos.line X.env = pure false) : PS X (.Assign [.Attribute o f pos'] value pos) (sFld X.K ta tv f) := by
  intro pins s σ H D I h
  refine plainObj_wpAny_Assign_Attribute (thn (hv pins s σ H _ I h) fun u s1 ⟨y, H1, I1, ry, q⟩ => thn (ha pins s1 σ H1 _ I1 q) fun ov s2 ⟨x, H2, I2, rx, a, C, dx, fs, ex, ea, c, n, l, q2⟩ => ?_) hs
  subst ex
  obtain rfl : ov = Value.ref a := rx
  exact setattr_ok I2 ea c n l ry fun s3 I3 => ⟨σ, _, I3, q2⟩
end
/-! ### isinstance -/
section
variable {X : Cx} {pins : List (Addr × Obj)} {σ : St} {H : Hp} {s : Shared} {A : Around} {E : Value → Shared → Prop} {Q : Value → Shared → Prop} {c : Value} {b : Bool}
/-- the type of a value, as the fragment's deciders take it; for an instance its class -/
inductive TyOf (K : PySem.W.Frag) (H : Hp) : V → Value → Prop where
  | non : TyOf K H .non (.type "NoneType")
  | bl (x : Bool) : TyOf K H (.bl x) (.type "bool")
  | int (i : Int) : TyOf K H (.int i) (.type "int")
  | str (x : Str) : TyOf K H (.str x) (.type "str")
  | flt (x : UInt64) : TyOf K H (.flt x) (.type "float")
  | lst {a : Addr} {xs : List V} (e : H a = some (.lst xs)) : TyOf K H (.ref a) (.type "list")
  | frz {a : Addr} {o : Obj} {xs : List V} (e : H a = some (.frz o (.lst xs))) : TyOf K H (.ref a) (.type "list")
  | tup {a : Addr} {xs : List V} (e : H a = some (.tup xs)) : TyOf K H (.ref a) (.type "tuple")
  | dK {a : Addr} {kvs : List (Key × V)} (e : H a = some (.dK kvs)) : TyOf K H (.ref a) (.type "dict")
  | dT {a : Addr} {kvs : List (List Key × V)} (e : H a = some (.dT kvs)) : TyOf K H (.ref a) (.type "dict")
  | ins {a C dx : Addr} {fs : List (Str × V)} (e : H a = some (.ins C dx fs)) (cl : Cls K C) (ha : PySem.W.findIn K (.ref C) "__class__" = some (some (.builtin "object.__class__")))
      (hn : PySem.W.specialIn K (.builtin "object.__class__") "__get__" = some (some (.builtin "getset_descriptor.__get__"))) (htk : PySem.W.takesIn K (.builtin "object.__class__") = some true)
      (hm : PySem.W.mroIn K C (.type "object") = some true) : TyOf K H (.ref a) (.ref C)
/-- isinstance(x, c) for one class c, a built-in or an own one: kitOne's answer -/
theorem isinst_ok {x : V} {u t : Value} (I : Inv X pins σ H s) (rx : RelV x u) (ty : TyOf X.K H x t) (e : PySem.W.kitOne X.K t c = some b) (h : ∀ tk, Q (.bool b) { s with toks := tk }) :
    wpAny (model X.prog X.w) A (call (.builtin "isinstance") [u, c]) Q E s := by
  cases ty with
  | non => cases (show u = Value.none from rx); exact PySem.W.kia_one PySem.W.kitx_none I.kIn True.intro e (fun z => nomatch z) h
  | bl y => cases (show u = Value.bool y from rx); exact PySem.W.kia_one PySem.W.kitx_bool I.kIn True.intro e (fun z => nomatch z) h
  | int i => obtain ⟨t, q⟩ := (show ∃ t, u = Value.int i t from rx); cases q; exact PySem.W.kia_one PySem.W.kitx_int I.kIn True.intro e (fun z => nomatch z) h
  | str y => obtain ⟨t, q⟩ := (show ∃ t, u = Value.str y t from rx); cases q; exact PySem.W.kia_one PySem.W.kitx_str I.kIn True.intro e (fun z => nomatch z) h
  | flt y => obtain ⟨t, q⟩ := (show ∃ t, u = Value.float y t from rx); cases q; exact PySem.W.kia_one PySem.W.kitx_float I.kIn True.intro e (fun z => nomatch z) h
  | @lst a xs ea =>
    cases (show u = Value.ref a from rx)
    obtain ⟨_, _, n, _, h1⟩ := (show ObjOk X.prog X.w H s.heap a (.lst xs) from I.hok a _ ea)
    exact PySem.W.kia_one PySem.W.kitx_list I.kIn ⟨_, h1, rfl⟩ e (fun z => nomatch z) h
  | @frz a ob xs ea =>
    cases (show u = Value.ref a from rx)
    obtain ⟨_, _, _, n, _, h1⟩ := (show ObjOk X.prog X.w H s.heap a (.frz ob (.lst xs)) from I.hok a _ ea)
    exact PySem.W.kia_one PySem.W.kitx_list I.kIn ⟨_, h1, rfl⟩ e (fun z => nomatch z) h
  | @tup a xs ea =>
    cases (show u = Value.ref a from rx)
    obtain ⟨_, _, _, p⟩ := (show ObjOk X.prog X.w H s.heap a (.tup xs) from I.hok a _ ea)
    obtain ⟨o, h1, h2, _⟩ := p
    exact PySem.W.kia_one PySem.W.kitx_tuple I.kIn ⟨o, h1, h2⟩ e (fun z => nomatch z) h
  | @dK a kvs ea =>
    cases (show u = Value.ref a from rx)
    obtain ⟨_, _, vs, _, p⟩ := (show ObjOk X.prog X.w H s.heap a (.dK kvs) from I.hok a _ ea)
    obtain ⟨o, es, ep, h1, h2, _⟩ := p
    exact PySem.W.kia_one PySem.W.kitx_dict I.kIn ⟨o, h1, h2.1⟩ e (fun z => nomatch z) h
  | @dT a kvs ea =>
    cases (show u = Value.ref a from rx)
    obtain ⟨_, _, xs, _, o, es, ep, h1, h2, _⟩ := (show ObjOk X.prog X.w H s.heap a (.dT kvs) from I.hok a _ ea)
    exact PySem.W.kia_one PySem.W.kitx_dict I.kIn ⟨o, h1, h2.1⟩ e (fun z => nomatch z) h
  | @ins a C dx fs ea cl ha hn htk hm =>
    cases (show u = Value.ref a from rx)
    obtain ⟨mA, O, _⟩ := ins_get I.hok ea
    obtain ⟨od, J, _⟩ := O.look
    exact PySem.W.kia_one (PySem.W.kitx_own (cl.get _) cl.hd ha hn htk hm) I.kIn J e (fun z => nomatch z) h
end
end L2
namespace L2
open PySem PySem.Spec PyProof.Rows
/-! ### room -/
structure Room (k : Nat) (A : Around) : Prop where
  hd : A.handled = none
  dp : A.depth + 3 * k + 5 < recursionLimit
  un : A.units + 16 * k + 200 < cLine
theorem Room.mono {j k : Nat} {A : Around} (r : Room k A) (h : j ≤ k) : Room j A := ⟨r.hd, by have := r.dp; omega, by have := r.un; omega⟩
theorem Room.deeper {k : Nat} {A : Around} (r : Room (k + 1) A) (env : Env) : Room k (A.deeper env) :=
  ⟨r.hd, by have := r.dp; show A.depth + 1 + 3 * k + 5 < _; omega, by have := r.un; show A.units + 3 + 16 * k + 200 < _; omega⟩
theorem Room.in1 {k : Nat} {A : Around} (r : Room (k + 1) A) : Room k A.in1 :=
  ⟨r.hd, by have := r.dp; show A.depth + 3 * k + 5 < _; omega, by have := r.un; show A.units + 1 + 16 * k + 200 < _; omega⟩
theorem make_depth {A : Around} {C : Addr} {us : List Value} {kw : List (Str × Value)} : (A.under (.builtin "type.__call__" ⟨.ref C :: us, kw⟩)).depth = A.depth + 1 := by
  first | rfl | simp [Around.under, Code.weight, Code.isCreation, Code.isGuard, Code.isCaller, Code.frames, Code.isFrame, guardIds]
theorem make_units {A : Around} {C : Addr} {us : List Value} {kw : List (Str × Value)} : (A.under (.builtin "type.__call__" ⟨.ref C :: us, kw⟩)).units = A.units + 1 := by
  first | rfl | simp [Around.under, Code.cUnits, Code.frames, Code.isFrame]
theorem Room.make {k : Nat} {A : Around} (r : Room (k + 1) A) (C : Addr) (us : List Value) (kw : List (Str × Value)) : Room k (A.under (.builtin "type.__call__" ⟨.ref C :: us, kw⟩)) :=
  ⟨r.hd, by have := r.dp; rw [make_depth]; omega, by have := r.un; rw [make_units]; omega⟩
theorem Room.depth {k : Nat} {A : Around} (r : Room k A) : A.depth < recursionLimit := by have := r.dp; omega
theorem Room.units {k : Nat} {A : Around} (r : Room k A) : A.units + 64 < cLine := by have := r.un; omega
/-! ### argument lists and displays -/
def tNil : TA := fun _ H Q => Q [] H
def tCons (ta : TE) (tr : TA) : TA := fun σ H Q => ta σ H fun x H1 => tr σ H1 fun xs H2 => Q (x :: xs) H2
section
variable {X : Cx} {e : Expr} {es : List Expr} {te : TE} {t : TA} {pos : Pos}
theorem pa_nil : PA X [] tNil := fun _ _ _ _ H Q I h => Calls.spliced_nil ⟨[], H, I, .nil, h⟩
theorem pa_cons (ha : PE X e te) (hr : PA X es t) (hs : starEach (e :: es) X.env = (false, eval e X.env) :: starEach es X.env := by rfl) : PA X (e :: es) (tCons te t) := by
  intro pos pins s σ H Q I h
  rw [hs]
  show wpAny _ _ (spliced ((false, eval e X.env) :: backTo pos (starEach es X.env))) _ _ s
  refine Calls.spliced_cons (thn (ha pins s σ H _ I h) fun u s1 ⟨x, H1, I1, r1, q1⟩ => ?_)
  exact thn (hr pos pins s1 σ H1 _ I1 q1) fun us s2 ⟨xs, H2, I2, r2, q2⟩ => ⟨x :: xs, H2, I2, .cons r1 r2, q2⟩
/-- a tuple, a list of written items -/
def tTup (t : TA) : TE := fun σ H Q => t σ H fun xs H1 => xs.length ≤ sizeLine ∧ ∀ p, H1 p = none → Q (.ref p) (upd H1 p (.tup xs))
def tLst (t : TA) : TE := fun σ H Q => t σ H fun xs H1 => xs.length ≤ sizeLine ∧ ∀ p, H1 p = none → Q (.ref p) (upd H1 p (.lst xs))
theorem pe_tup {x1} (h : PA X es t) : PE X (.Tuple es x1 pos) (tTup t) := by
  intro pins s σ H Q I hq
  refine wpAny_Tuple_spliced (thn (h pos pins s σ H _ I hq) fun us s1 ⟨xs, H1, I1, r, z, q⟩ => ⟨by rw [← r.length]; exact z, ?_⟩)
  have hf : H1 s1.heap.objs.size = none := I1.hok.fresh (Nat.le_refl _)
  refine ⟨.ref s1.heap.objs.size, upd H1 s1.heap.objs.size (.tup xs), I1.laid (t' := s1.toks) (fun b u e => Heap.get?_push_of_some _ e) (Nat.le_refl _) ?_, rfl, q _ hf⟩
  exact ⟨z, us, r, ⟨_, Heap.get?_push_size _ rfl, rfl, _, rfl⟩⟩
theorem pe_lst (h : PA X es t) : PE X (.List es pos) (tLst t) := by
  intro pins s σ H Q I hq
  refine wpAny_List_spliced (thn (h pos pins s σ H _ I hq) fun us s1 ⟨xs, H1, I1, r, z, q⟩ => ⟨by rw [← r.length]; exact z, ?_⟩)
  have hf : H1 s1.heap.objs.size = none := I1.hok.fresh (Nat.le_refl _)
  refine ⟨.ref s1.heap.objs.size, upd H1 s1.heap.objs.size (.lst xs), I1.laid (t' := s1.toks) (fun b u e => Heap.get?_push_of_some _ e) (Nat.le_refl _) ?_, rfl, q _ hf⟩
  exact ⟨z, us, 0, r, Heap.get?_push_size _ rfl⟩
end
/-! ### what a def promises -/
/-- a def's promise: the bound arguments in the parameters' order, the heap, the wanted end, the wanted exception -/
abbrev Sp := List V → Hp → VK → XK → Prop
/-- how an exception lies behind a call (file 08 gives it): the callers' frames, abstract heap and state ahead of the call, the wish, the exception, the state -/
abbrev CXT := List Env → Hp → Shared → XK → Value → Shared → Prop
/-- the state at a call -/
structure Env0 (P : Program) (w : World) (K : PySem.W.Frag) (mg : Str → Option Value) (base : Heap) (A : Around) (outer : List Env) (s : Shared) (H : Hp) : Prop where
  frames : A.frames = some outer
  mod : Mod K mg base
  bs : ∀ b o, base.get? b = some o → s.heap.get? b = some o ∧ H b = none
  bsz : base.objs.size ≤ s.heap.objs.size
  funs : s.heap.FunFrames base outer
  frf : ∀ b ∈ frs outer, H b = none
  hok : HOk P w H s.heap
  bare : AllBare s.gens
/-- a call's end -/
def CE (outer : List Env) (P : Program) (w : World) (H : Hp) (s : Shared) (Q : VK) (u : Value) (s' : Shared) : Prop :=
  ∃ v H', s'.os = s.os ∧ AllBare s'.gens ∧ Un (frs outer) [] H H' s.heap s'.heap ∧ HOk P w H' s'.heap ∧ RelV v u ∧ Q v H'
def CR (CX : CXT) (outer : List Env) (P : Program) (w : World) (H : Hp) (s : Shared) (Q : VK) (E : XK) (r : Result) (s' : Shared) : Prop :=
  match r with
  | .ok (.ret u) => CE outer P w H s Q u s'
  | .ok _ => False
  | .error e => CX outer H s E e s'
structure FnOk (P : Program) (w : World) (K : PySem.W.Frag) (mg : Str → Option Value) (base : Heap) (CX : CXT) (k : Nat) (f : Addr) (fd : FuncData) (ps : List Str) (sp : Sp) : Prop where
  len : ∀ vs H Q E, sp vs H Q E → vs.length = ps.length
  run : ∀ (A : Around) (outer : List Env) (s : Shared) (H : Hp) (args : Args) (us : List Value) (vs : List V) (Q : VK) (E : XK), Room k A → Env0 P w K mg base A outer s H → BindsTo s fd args (ps.zip us) → Vals vs us → sp vs H Q E →
    codeAny (model P w) A (.call (.ref f) args) (CR CX outer P w H s Q E) s
theorem FnOk.mono {P : Program} {w : World} {K : PySem.W.Frag} {mg : Str → Option Value} {base : Heap} {CX : CXT} {j k : Nat} {f : Addr} {fd : FuncData} {ps : List Str} {sp : Sp} (F : FnOk P w K mg base CX j f fd ps sp) (h : j ≤ k) :
    FnOk P w K mg base CX k f fd ps sp := ⟨F.len, fun A outer s H args us vs Q E hr => F.run A outer s H args us vs Q E (hr.mono h)⟩
/-- a weaker promise -/
theorem FnOk.imp {P : Program} {w : World} {K : PySem.W.Frag} {mg : Str → Option Value} {base : Heap} {CX : CXT} {k : Nat} {f : Addr} {fd : FuncData} {ps : List Str} {sp sp' : Sp} (F : FnOk P w K mg base CX k f fd ps sp)
    (h : ∀ vs H Q E, sp' vs H Q E → sp vs H Q E) : FnOk P w K mg base CX k f fd ps sp' :=
  ⟨fun vs H Q E q => F.len vs H Q E (h _ _ _ _ q), fun A outer s H args us vs Q E hr he hb hv hs => F.run A outer s H args us vs Q E hr he hb hv (h _ _ _ _ hs)⟩
theorem Env0.make {P : Program} {w : World} {K : PySem.W.Frag} {mg : Str → Option Value} {base : Heap} {A : Around} {outer : List Env} {s : Shared} {H : Hp} (e : Env0 P w K mg base A outer s H) (C : Addr) (us : List Value) (kw : List (Str × Value)) :
    Env0 P w K mg base (A.under (.builtin "type.__call__" ⟨.ref C :: us, kw⟩)) outer s H := ⟨by first | exact e.frames | (simpa [Around.under, Code.envs, Code.isFrame, pushEnvs] using e.frames), e.mod, e.bs, e.bsz, e.funs, e.frf, e.hok, e.bare⟩
theorem Env0.in1 {P : Program} {w : World} {K : PySem.W.Frag} {mg : Str → Option Value} {base : Heap} {A : Around} {outer : List Env} {s : Shared} {H : Hp} (e : Env0 P w K mg base A outer s H) :
    Env0 P w K mg base A.in1 outer s H := ⟨e.frames, e.mod, e.bs, e.bsz, e.funs, e.frf, e.hok, e.bare⟩
section
variable {X : Cx} {pins : List (Addr × Obj)} {σ : St} {H : Hp} {s s' : Shared}
/-- from a body: what a callee wants -/
theorem Inv.env0 (I : Inv X pins σ H s) : Env0 X.prog X.w X.K X.mg X.base X.A X.stack s H :=
  ⟨I.ok.frames, I.ok.mod, I.bs, Nat.le_trans I.ok.bsz I.sz, I.stack, I.stkFree, I.hok, I.bare⟩
/-- behind a call -/
theorem Inv.after {Q : VK} {u : Value} (I : Inv X pins σ H s) (h : CE X.stack X.prog X.w H s Q u s') : EP X pins σ Q u s' := by
  obtain ⟨v, H', os, bare, un, hok, r, q⟩ := h
  obtain ⟨hh, g, d, t, os'⟩ := s'
  obtain rfl : os' = s.os := os
  exact ⟨v, H', I.call (h' := hh) (g' := g) (d' := d) (t' := t) (ch := []) un hok bare (fun b z => absurd z (by simp)), r, q⟩
end
/-! ### calls -/
/-- f(..): the written arguments, then the defaults dvs; E: what is wanted of an exception -/
def tCall (sp : Sp) (dvs : List V) (E : XK) (t : TA) : TE := fun σ H Q => t σ H fun vs H1 => sp (vs ++ dvs) H1 Q E
/-- C(..): a new instance and its dict, then __init__ -/
def tMake (C : Addr) (sp : Sp) (dvs : List V) (E : XK) (t : TA) : TE := fun σ H Q => t σ H fun vs H1 => ∀ x dx, H1 x = none → H1 dx = none → dx ≠ x →
  sp (.ref x :: (vs ++ dvs)) (upd (upd H1 dx (.own x)) x (.ins C dx [])) (fun v H2 => v = .non ∧ Q (.ref x) H2) E
/-- how the parameters are bound: us the positional arguments, kw the keywords' values by name, ds the defaults that fill up -/
def Binds (K : PySem.W.Frag) (fd : FuncData) (ps : List Str) (ds : List Value) : Prop :=
  ∀ (s : Shared) (us : List Value), K.In s.heap → (us ++ ds).length = ps.length → BindsTo s fd ⟨us, []⟩ (ps.zip (us ++ ds))
/-- every parameter is given -/
theorem Binds.all {K : PySem.W.Frag} {fd : FuncData} {ps : List Str} (h : ∀ us : List Value, us.length = ps.length → bindArgs fd ⟨us, []⟩ = pure (ps.zip us)) : Binds K fd ps [] := fun s us _ hl => by
  rw [List.append_nil] at hl ⊢
  exact .of_eq (h us hl)
/-- an exception of a callee reaches what this body wants of exceptions -/
def Passes (CX : CXT) (X : Cx) (E : XK) : Prop := ∀ (pins : List (Addr × Obj)) (σ : St) (H : Hp) (s : Shared) (e : Value) (s' : Shared), Inv X pins σ H s → CX X.stack H s E e s' → X.xe e s'
section
variable {X : Cx} {CX : CXT} {k : Nat} {f C : Addr} {fd : FuncData} {ps : List Str} {sp : Sp} {dvs : List V} {ds : List Value} {E : XK} {x m : Str} {p pos apos : Pos} {e o : Expr} {es : List Expr} {ta : TE} {t : TA}
/-- the callee runs -/
theorem run_fn {pins : List (Addr × Obj)} {σ : St} {H : Hp} {s : Shared} {Q : VK} {us : List Value} {vs : List V} (F : FnOk X.prog X.w X.K X.mg X.base CX k f fd ps sp) (hr : Room k X.A) (hb : Binds X.K fd ps ds) (hd : Vals dvs ds) (hx : Passes CX X E)
    (I : Inv X pins σ H s) (r : Vals vs us) (h : sp (vs ++ dvs) H Q E) : wpAny (model X.prog X.w) X.A (call (.ref f) us) (EP X pins σ Q) X.xe s := by
  have r2 : Vals (vs ++ dvs) (us ++ ds) := r.append hd
  have hl : (us ++ ds).length = ps.length := by rw [← r2.length]; exact F.len _ _ _ _ h
  refine wpAny_call (codeAny_mono (F.run X.A X.stack s H ⟨us, []⟩ (us ++ ds) (vs ++ dvs) Q E hr I.env0 (hb s us I.kIn hl) r2 h) fun r s' hq => ?_)
  cases r with
  | error e => exact hx pins σ H s e s' I hq
  | ok fl =>
    cases fl with
    | ret u => exact I.after hq
    | next => exact False.elim hq
    | brk => exact False.elim hq
    | cont => exact False.elim hq
theorem pe_call (F : FnOk X.prog X.w X.K X.mg X.base CX k f fd ps sp) (hr : Room k X.A) (hg : Gl X x) (hm : X.mg x = some (.ref f)) (hk : PySem.W.keepIn X.K (.ref f) = true) (hb : Binds X.K fd ps ds) (hd : Vals dvs ds) (hx : Passes CX X E)
    (ha : PA X (e :: es) t) (hdb : (x == ("__debug__" : Str)) = false := by decide) (he : starEach (e :: es) X.env = (false, eval e X.env) :: starEach es X.env := by rfl) (hpl : (backTo pos (starEach es X.env)).any (·.1) = false := by rfl) :
    PE X (.Call (.Name x p) (e :: es) [] pos) (tCall sp dvs E t) := by
  intro pins s σ H Q I h
  refine wpAny_Call_Name_kw (ld_glob I hg hm ?_ hdb)
  refine PySem.W.callWith_K (h₀ := X.base) I.ok.mod.kin hk (thn (ha pos pins s σ H _ I h) fun us s1 ⟨vs, H1, I1, r, q⟩ => ⟨I1.kIn, ?_⟩) he hpl
  exact run_fn F hr hb hd hx I1 r q
/-- what a class must have to be made -/
structure Mk (K : PySem.W.Frag) (C f : Addr) : Prop where
  makes : PySem.W.makesIn K C = true
  init : PySem.W.findIn K (.ref C) "__init__" = some (some (.ref f))
  fn : PySem.W.isFn K (.ref f) = true
  kp : PySem.W.keepIn K (.ref C) = true
theorem run_make {pins : List (Addr × Obj)} {σ : St} {H : Hp} {s : Shared} {Q : VK} {us : List Value} {vs : List V} (M : Mk X.K C f) (F : FnOk X.prog X.w X.K X.mg X.base CX k f fd ps sp) (hr : Room (k + 1) X.A) (hb : Binds X.K fd ps ds) (hd : Vals dvs ds)
    (hx : Passes CX X E) (I : Inv X pins σ H s) (r : Vals vs us)
    (h : ∀ x dx, H x = none → H dx = none → dx ≠ x → sp (.ref x :: (vs ++ dvs)) (upd (upd H dx (.own x)) x (.ins C dx [])) (fun v H2 => v = .non ∧ Q (.ref x) H2) E) :
    wpAny (model X.prog X.w) X.A (call (.ref C) us) (EP X pins σ Q) X.xe s := by
  have hq := h (s.heap.objs.size + 1) s.heap.objs.size (I.hok.fresh (Nat.le_succ _)) (I.hok.fresh (Nat.le_refl _)) (Nat.ne_of_lt (Nat.lt_succ_self _))
  have I2 := Inv.made (C := C) I
  have r2 : Vals (V.ref (s.heap.objs.size + 1) :: (vs ++ dvs)) (Value.ref (s.heap.objs.size + 1) :: (us ++ ds)) := .cons rfl (r.append hd)
  have hl : (Value.ref (s.heap.objs.size + 1) :: us ++ ds).length = ps.length := by
    have e := r2.length
    rw [F.len _ _ _ _ hq] at e
    exact e.symm
  refine wpAny_call (make_map (f := f) I.kIn M.makes M.init (beq_iff_eq.mp M.fn) (codeAny_mono (F.run _ X.stack _ _ ⟨Value.ref (s.heap.objs.size + 1) :: us, []⟩ (Value.ref (s.heap.objs.size + 1) :: (us ++ ds)) _ _ E (hr.make C us [])
    (I2.env0.make C us []) (hb _ (Value.ref (s.heap.objs.size + 1) :: us) I2.kIn hl) r2 hq) fun r s' hq' => ?_))
  cases r with
  | error e => exact hx pins σ _ _ e s' I2 hq'
  | ok fl =>
    cases fl with
    | ret u =>
      obtain ⟨v, H', I3, rv, ev, q3⟩ := I2.after hq'
      subst ev
      exact ⟨rv, ⟨V.ref (s.heap.objs.size + 1), H', I3, rfl, q3⟩⟩
    | next => exact False.elim hq'
    | brk => exact False.elim hq'
    | cont => exact False.elim hq'
theorem pe_make (M : Mk X.K C f) (F : FnOk X.prog X.w X.K X.mg X.base CX k f fd ps sp) (hr : Room (k + 1) X.A) (hg : Gl X x) (hm : X.mg x = some (.ref C)) (hb : Binds X.K fd ps ds) (hd : Vals dvs ds) (hx : Passes CX X E)
    (ha : PA X (e :: es) t) (hdb : (x == ("__debug__" : Str)) = false := by decide) (he : starEach (e :: es) X.env = (false, eval e X.env) :: starEach es X.env := by rfl) (hpl : (backTo pos (starEach es X.env)).any (·.1) = false := by rfl) :
    PE X (.Call (.Name x p) (e :: es) [] pos) (tMake C sp dvs E t) := by
  intro pins s σ H Q I h
  refine wpAny_Call_Name_kw (ld_glob I hg hm ?_ hdb)
  refine PySem.W.callWith_K (h₀ := X.base) I.ok.mod.kin M.kp (thn (ha pos pins s σ H _ I h) fun us s1 ⟨vs, H1, I1, r, q⟩ => ⟨I1.kIn, ?_⟩) he hpl
  exact run_make M F hr hb hd hx I1 r q
end
/-! ### keywords -/
section
variable {X : Cx} {CX : CXT} {k : Nat} {f C : Addr} {fd : FuncData} {ps ks : List Str} {sp : Sp} {E : XK} {x m : Str} {p pos apos kpos : Pos} {e o : Expr} {es : List Expr} {kws : List Keyword} {te ta : TE} {t tk : TA} {nm : Option Str}
/-- how a call with keywords binds: g puts the positional values us and the keywords' values ws (names ks) in the parameters' order, defaults among them -/
structure KBinds (K : PySem.W.Frag) (fd : FuncData) (ps ks : List Str) (g : List Value → List Value → List Value) (gV : List V → List V → List V) : Prop where
  to : ∀ (s : Shared) (us ws : List Value), K.In s.heap → (g us ws).length = ps.length → BindsTo s fd ⟨us, ks.zip ws⟩ (ps.zip (g us ws))
  rel : ∀ {vs : List V} {us : List Value} {zs : List V} {ws : List Value}, Vals vs us → Vals zs ws → Vals (gV vs zs) (g us ws)
variable {g : List Value → List Value → List Value} {gV : List V → List V → List V}
end
/-! ### a def's body keeps its promise -/
/-- names: the parameters first -/
structure FnScope (N P : List Str) (sc : Scope) : Prop where
  kind : sc.kind = .function
  co : sc.isCoroutine = false
  gen : sc.isGenerator = false
  nd : N.Nodup
  pre : N.take P.length = P
  par : ∀ x ∈ P, sc.names.lookup x = some .local ∨ sc.names.lookup x = some .cell
  nofree : ∀ y ∈ sc.names, y.2 ≠ .free
theorem bindL_out {kindOf : Str → Option NameKind} {x : Str} : ∀ {binds : List (Str × Value)} {m : Str → Option Value}, (∀ v, (x, v) ∉ binds) → bindL kindOf binds m x = m x
  | [], _, _ => rfl
  | (n, v) :: r, m, h => by
    unfold bindL
    rw [bindL_out fun w hw => h w (List.mem_cons_of_mem _ hw)]
    split
    · have : x ≠ n := by rintro rfl; exact h v List.mem_cons_self
      simp [this]
    · rfl
theorem bindC_out {kindOf : Str → Option NameKind} {x : Str} : ∀ {binds : List (Str × Value)} {m : Str → Option Value}, (∀ v, (x, v) ∉ binds) → bindC kindOf binds m x = m x
  | [], _, _ => rfl
  | (n, v) :: r, m, h => by
    unfold bindC
    rw [bindC_out fun w hw => h w (List.mem_cons_of_mem _ hw)]
    split
    · rfl
    · have : x ≠ n := by rintro rfl; exact h v List.mem_cons_self
      simp [this]
theorem bindL_get {kindOf : Str → Option NameKind} {x : Str} {v : Value} : ∀ {P : List Str} {vs : List Value} {i : Nat} {m : Str → Option Value}, P.Nodup → P[i]? = some x → vs[i]? = some v → kindOf x = some .local →
    bindL kindOf (P.zip vs) m x = some v
  | [], _, _, _, _, h, _, _ => by simp at h
  | _ :: _, [], _, _, _, _, h, _ => by simp at h
  | p :: P, w :: vs, 0, m, nd, h1, h2, hk => by
    simp at h1 h2; subst h1; subst h2
    show bindL kindOf ((p, w) :: P.zip vs) m p = _
    unfold bindL
    rw [bindL_out fun v hv => (List.nodup_cons.mp nd).1 (List.of_mem_zip hv).1, if_pos hk]
    simp
  | p :: P, w :: vs, i + 1, m, nd, h1, h2, hk => by
    show bindL kindOf ((p, w) :: P.zip vs) m x = _
    unfold bindL
    exact bindL_get (i := i) (List.nodup_cons.mp nd).2 (by simpa using h1) (by simpa using h2) hk
theorem bindC_get {kindOf : Str → Option NameKind} {x : Str} {v : Value} : ∀ {P : List Str} {vs : List Value} {i : Nat} {m : Str → Option Value}, P.Nodup → P[i]? = some x → vs[i]? = some v → kindOf x ≠ some .local →
    bindC kindOf (P.zip vs) m x = some v
  | [], _, _, _, _, h, _, _ => by simp at h
  | _ :: _, [], _, _, _, _, h, _ => by simp at h
  | p :: P, w :: vs, 0, m, nd, h1, h2, hk => by
    simp at h1 h2; subst h1; subst h2
    show bindC kindOf ((p, w) :: P.zip vs) m p = _
    unfold bindC
    rw [bindC_out fun v hv => (List.nodup_cons.mp nd).1 (List.of_mem_zip hv).1, if_neg hk]
    simp
  | p :: P, w :: vs, i + 1, m, nd, h1, h2, hk => by
    show bindC kindOf ((p, w) :: P.zip vs) m x = _
    unfold bindC
    exact bindC_get (i := i) (List.nodup_cons.mp nd).2 (by simpa using h1) (by simpa using h2) hk
/-- the names' values at the entry -/
def start (N : List Str) (vs : List V) : St := vs.map some ++ List.replicate (N.length - vs.length) none
/-- the context of a def's body, at its entry; an exception leaves the frame, then lies as CX says -/
def cxOf (CX : CXT) (P : Program) (w : World) (K : PySem.W.Frag) (mg : Str → Option Value) (base : Heap) (N : List Str) (qual : Str) (scope : Scope) (f : Addr) (cd : Value) (A : Around) (outer : List Env) (s : Shared) (H : Hp) (E : XK) : Cx where
  prog := P
  w := w
  K := K
  mg := mg
  base := base
  A := A.deeper (envOfC qual scope s.heap.objs.size f cd)
  N := N
  s₀ := s
  H₀ := H
  env := envOfC qual scope s.heap.objs.size f cd
  outer := outer
  stack := envOfC qual scope s.heap.objs.size f cd :: outer
  ex := []
  calm := true
  fn := fun _ => true
  pn := []
  xe := fun e s' => wpAny (model P w) (A.deeper (envOfC qual scope s.heap.objs.size f cd)) (leaving (envOfC qual scope s.heap.objs.size f cd) e) (fun _ s'' => CX outer H s E e s'') (fun e' s'' => CX outer H s E e' s'') s'
theorem cell_has {sc : Scope} {n : Nat} {x : Str} (h : sc.names.lookup x = some .cell) : ∃ c, (cellsFrom n sc.names []).lookup x = some c := by
  have q := PySem.W.cellsFrom_some sc.names n [] (.inl h)
  exact Option.isSome_iff_exists.mp q
theorem inv_start {CX : CXT} {P : Program} {w : World} {K : PySem.W.Frag} {mg : Str → Option Value} {base : Heap} {N ps : List Str} {qual : Str} {scope : Scope} {f : Addr} {cd : Value} {A : Around} {outer : List Env} {s s1 : Shared} {H : Hp} {E : XK} {us : List Value} {vs : List V}
    (S : FnScope N ps scope) (hd : A.handled = none) (e0 : Env0 P w K mg base A outer s H) (hl : vs.length = ps.length) (r : Vals vs us)
    (x : InCallC s s.heap.objs.size (bindL (envOfC qual scope s.heap.objs.size f cd).kindOf (ps.zip us) fun _ => none) (cellsFrom (s.heap.objs.size + 1) scope.names []) (bindC (envOfC qual scope s.heap.objs.size f cd).kindOf (ps.zip us) fun _ => none) s1) :
    Inv (cxOf CX P w K mg base N qual scope f cd A outer s H E) [] (start N vs) H s1 := by
  have hpl : ps.length ≤ N.length := by have := congrArg List.length S.pre; rw [List.length_take] at this; omega
  obtain ⟨h1, tk, rfl, hk⟩ := x.done
  have noA : ∀ b : Addr, b ∉ (cxOf CX P w K mg base N qual scope f cd A outer s H E).ex := fun b z => absurd (show b ∈ ([] : List Addr) from z) (by simp)
  refine ⟨⟨e0.mod, S.kind, rfl, rfl, Nat.le_refl _, fun y z c h1 h2 => ?_, fun y hy => ?_, fun y c _ h => ?_, fun _ => hd, Around.frames_deeper e0.frames, .inr ⟨rfl, rfl⟩, fun b z => absurd z (noA b), e0.bs, e0.bsz, fun b _ _ => noA b, fun b z => absurd z (noA b), e0.funs, e0.frf⟩,
    rfl, e0.bare, Un.kept hk, ⟨_, x.toInCall.ns, fun i y v h1 h2 h3 => ?_⟩, fun y c h => ⟨_, x.cell y c h⟩, e0.hok.fresh (Nat.le_refl _), fun y c h => ?_, fun p hp => absurd (show p ∈ ([] : List (Addr × Obj)) from hp) (by simp), e0.hok.kept hk, ?_⟩
  · exact name_of_addr x.apart (PySem.mem_of_lookup h1) (PySem.mem_of_lookup h2)
  · have hy : scope.names.lookup y = some .cell ∨ scope.names.lookup y = some .free := hy
    rcases hy with hy | hy
    · exact cell_has hy
    · exact absurd rfl (S.nofree _ (PySem.mem_of_lookup hy))
  · exact Nat.le_of_lt (x.above y c (PySem.mem_of_lookup h))
  · have hi : i < vs.length := by
      unfold start at h2
      by_cases hi : i < vs.length
      · exact hi
      · rw [List.getElem?_append_right (by simpa using hi)] at h2
        rw [List.getElem?_replicate] at h2
        split at h2 <;> cases h2
    have ha : vs[i]? = some v := by
      unfold start at h2
      rw [List.getElem?_append_left (by simpa using hi), List.getElem?_map] at h2
      cases e : vs[i]? with
      | none => rw [e] at h2; cases h2
      | some a => rw [e] at h2; cases h2; rfl
    obtain ⟨u, hu, rv⟩ := r.get ha
    have hp : ps[i]? = some y := by
      rw [← S.pre, List.getElem?_take_of_lt (by omega)]; exact h1
    have ndP : ps.Nodup := by rw [← S.pre]; exact S.nd.sublist (List.take_sublist _ _)
    refine ⟨u, rv, ?_⟩
    rcases S.par y (List.mem_of_getElem? hp) with k | k
    · exact .inl ⟨k, bindL_get ndP hp hu k⟩
    · obtain ⟨c, e⟩ := cell_has (n := s.heap.objs.size + 1) k
      refine .inr ⟨.inl k, c, e, ?_⟩
      have q := x.cell y c e
      rw [bindC_get ndP hp hu (by show scope.names.lookup y ≠ _; rw [k]; decide)] at q
      exact q
  · exact e0.hok.fresh (Nat.le_of_lt (x.above y c (PySem.mem_of_lookup h)))
  · unfold start
    show _ = N.length
    rw [List.length_append, List.length_map, List.length_replicate]
    omega
/-- THE RULE: a def (or a method) of the text, by its body. The body's reading t is chosen for each entry; it is run at the parameters' values -/
theorem fn_of {CX : CXT} {P : Program} {w : World} {K : PySem.W.Frag} {mg : Str → Option Value} {base : Heap} {k : Nat} {f : Addr} {name qual : Str} {params : Arguments} {body : List Stmt} {scope : Scope} {dV kV doc pm cdv ct oc : Value} {an od : Option Addr}
    {osl : Array (Option Value)} {N ps : List Str} {sp : Sp} (lk : K.lookup f = some ⟨oc, od, .func (PySem.W.fnOf name qual params body scope dV kV doc pm an cdv ct), osl⟩) (hcd : PySem.W.codeIn K cdv qual = true) (S : FnScope N ps scope)
    (len : ∀ vs H Q E, sp vs H Q E → vs.length = ps.length)
    (hbody : ∀ (A : Around) (outer : List Env) (s : Shared) (H : Hp) (vs : List V) (Q : VK) (E : XK), Room k (A.deeper (envOfC qual scope s.heap.objs.size f cdv)) → sp vs H Q E →
      ∃ t, PSs (cxOf CX P w K mg base N qual scope f cdv A outer s H E) body t ∧ t { nx := fun _ H' => Q .non H', rt := Q } (start N vs) H) :
    FnOk P w K mg base CX (k + 1) f (PySem.W.fnOf name qual params body scope dV kV doc pm an cdv ct) ps sp := by
  refine ⟨len, fun A outer s H args us vs Q E hr e0 hb r hsp => ?_⟩
  have hl := len _ _ _ _ hsp
  have KX : K.In s.heap := e0.mod.kin.keeps fun b o e => (e0.bs b o e).1
  have lim : s.heap.NoLimit := e0.mod.nolimit.keeps fun b o e => (e0.bs b o e).1
  have hkind : ∀ y ∈ ps.zip us, scope.names.lookup y.1 = some .local ∨ (scope.names.lookup y.1 = some .cell ∧ ((cellsFrom (s.heap.objs.size + 1) scope.names []).lookup y.1).isSome = true) := fun ⟨n, v⟩ hy => by
    rcases S.par n (List.of_mem_zip hy).1 with q | q
    · exact .inl q
    · exact .inr ⟨q, PySem.W.cellsFrom_some _ _ _ (.inl q)⟩
  refine codeAny_call_function hr.depth (KX _ _ lk) rfl S.co S.gen rfl (PySem.W.codeRec_of KX hcd) (hb _ _ _ _ ?_)
  refine wpAny_newFunctionEnv_cells S.kind hkind fun env he s1 x => ?_
  subst he
  refine ⟨lim.keeps x.toInCall.keep, codeAny_func ?_⟩
  obtain ⟨t, ht, hq⟩ := hbody A outer s H vs Q E (hr.deeper _) hsp
  have I : Inv (cxOf CX P w K mg base N qual scope f cdv A outer s H E) [] (start N vs) H s1 := inv_start S hr.hd e0 hl r x
  refine wpAny_mono (ht [] s1 (start N vs) H _ I hq) (fun fl s' hs => ?_) fun e s' hs => hs
  have fin : ∀ {σ' : St} {H' : Hp} {v : V} {u : Value}, Inv (cxOf CX P w K mg base N qual scope f cdv A outer s H E) [] σ' H' s' → RelV v u → Q v H' → CE outer P w H s Q u s' :=
    fun {σ' H' v u} J rv q => ⟨v, H', J.os, J.bare, J.base, J.hok, rv, q⟩
  cases fl with
  | ret u =>
    obtain ⟨v, σ', H', J, rv, q⟩ := hs
    exact fin J rv q
  | next =>
    obtain ⟨σ', H', J, q⟩ := hs
    exact fin (v := V.non) (u := Value.none) J rfl q
  | brk =>
    obtain ⟨_, _, _, q⟩ := hs
    exact False.elim q
  | cont =>
    obtain ⟨_, _, _, q⟩ := hs
    exact False.elim q
end L2
namespace L2
open PySem PySem.Spec PyProof.Rows
section
variable {X : Cx} {x : Str} {p pos : Pos} {e : Expr} {es : List Expr} {t : TA} {id T : String} {r : List V → Hp → VK → Prop}
def tCB (r : List V → Hp → VK → Prop) (t : TA) : TE := fun σ H Q => t σ H fun vs H1 => r vs H1 Q
/-- f(e, ..), f a built-in function -/
theorem pe_callB (hc : CallR X (.builtin id) r) (hg : Gl X x) (hm : X.mg x = none) (hv : bootBuiltins x = some (.builtin id)) (ha : PA X (e :: es) t) (hn : x ≠ "__name__" := by decide) (hdb : (x == ("__debug__" : Str)) = false := by decide)
    (he : starEach (e :: es) X.env = (false, eval e X.env) :: starEach es X.env := by rfl) (hpl : (backTo pos (starEach es X.env)).any (·.1) = false := by rfl) : PE X (.Call (.Name x p) (e :: es) [] pos) (tCB r t) := by
  intro pins s σ H Q I h
  refine wpAny_Call_Name_kw (ld_blt I hg hm hv ?_ hn hdb)
  exact PyProof.Rows.callWith_builtin1 (thn (ha pos pins s σ H _ I h) fun us s1 ⟨vs, H1, I1, r1, q1⟩ => hc pins s1 σ H1 vs us Q I1 r1 q1) he hpl
/-- T(e, ..), T a built-in type -/
theorem pe_callTy (hc : CallR X (.type T) r) (hg : Gl X x) (hm : X.mg x = none) (hv : bootBuiltins x = some (.type T)) (ha : PA X (e :: es) t) (hn : x ≠ "__name__" := by decide) (hdb : (x == ("__debug__" : Str)) = false := by decide)
    (he : starEach (e :: es) X.env = (false, eval e X.env) :: starEach es X.env := by rfl) (hpl : (backTo pos (starEach es X.env)).any (·.1) = false := by rfl) : PE X (.Call (.Name x p) (e :: es) [] pos) (tCB r t) := by
  intro pins s σ H Q I h
  refine wpAny_Call_Name_kw (ld_blt I hg hm hv ?_ hn hdb)
  exact PyProof.Rows.callWith_type1 (thn (ha pos pins s σ H _ I h) fun us s1 ⟨vs, H1, I1, r1, q1⟩ => hc pins s1 σ H1 vs us Q I1 r1 q1) he hpl
end
end L2
namespace HT
open PySem PyProof.Rows
section
open PySem.SeqAt
open PySem.AutoSeq1 (wpAny_loadPart')
open PySem.MeetsSeq PySem.MeetsSeq2 PySem.MeetsSeq3
end
section
variable {prog : Program} {w : World} {A : Around} {E : Value → Shared → Prop} {s : Shared}
/-! ### t[a:b], not the whole -/
/-- a slice's bound as a place among n (d where it is left out) -/
def sIx (n d : Nat) : Option Int → Nat
  | none => d
  | some v => if v < 0 then (v + (n : Int)).toNat else min v.toNat n
theorem sIx_none (n d : Nat) : sIx n d none = d := rfl
theorem sIx_nat (n d k : Nat) : sIx n d (some (k : Int)) = min k n := by
  show (if (k : Int) < 0 then ((k : Int) + (n : Int)).toNat else min (k : Int).toNat n) = min k n
  rw [if_neg (by omega), Int.toNat_natCast]
end
end HT
namespace L2
open PySem PySem.Spec PyProof.Rows
/-! ### the parts of a slice -/
abbrev TO := St → Hp → (Option Int → Hp → Prop) → Prop
/-- a slice's part (left out, or an int) -/
def PO (X : Cx) (e : Option Expr) (t : TO) : Prop :=
  ∀ (pins : List (Addr × Obj)) (s : Shared) (σ : St) (H : Hp) (Q : Option Int → Hp → Prop), Inv X pins σ H s → t σ H Q →
    wpAny (model X.prog X.w) X.A (evalPart e X.env) (fun u s' => ∃ o H', Inv X pins σ H' s' ∧ IsPart u o ∧ Q o H') X.xe s
def tNoPart : TO := fun _ H Q => Q none H
def tPart (t : TE) : TO := fun σ H Q => t σ H fun x H1 => ∃ i, x = .int i ∧ Q (some i) H1
theorem intsAre_of {ns : List Int} : ∀ {us : List Value}, Vals (ns.map V.int) us → IntsAre us ns := by
  induction ns with
  | nil => intro us r; rw [List.map_nil] at r; cases r; exact .nil
  | cons n ns ih =>
    intro us r
    rw [List.map_cons] at r
    cases r with
    | cons r1 r2 =>
      obtain ⟨t, e⟩ := r1
      subst e
      exact .cons n t (ih r2)
section
variable {X : Cx} {e : Expr} {te : TE} {lo hi : Option Expr} {tl th : TO} {pos p2 : Pos}
theorem po_none : PO X none tNoPart := by
  intro pins s σ H Q I h
  rw [evalPart_none]
  exact wpAny_pure ⟨none, H, I, .none, h⟩
theorem po_some (h : PE X e te) : PO X (some e) (tPart te) := by
  intro pins s σ H Q I hw
  rw [evalPart_some]
  refine thn (h pins s σ H _ I hw) fun u s1 ⟨x, H1, I1, r1, q1⟩ => ?_
  obtain ⟨i, rfl, q⟩ := q1
  obtain ⟨t, rfl⟩ := r1
  exact ⟨some i, H1, I1, .int i t, q⟩
/-- what a slice of a value is, by values: the slice object stands at sl -/
def SlR (X : Cx) (r : V → Option Int → Option Int → Hp → VK → Prop) : Prop :=
  ∀ (pins : List (Addr × Obj)) (s : Shared) (σ : St) (H : Hp) (x : V) (v vl vu : Value) (lo hi : Option Int) (sl : Addr) (Q : VK), Inv X pins σ H s → RelV x v → s.heap.IsSliceOf sl vl vu .none → IsPart vl lo → IsPart vu hi → r x lo hi H Q →
    ∃ T id, typeLookup (.type T) "__getitem__" = pure (some (.builtin id)) ∧ s.TypeIs v T ∧ wpAny (model X.prog X.w) X.A (getItem v (.ref sl)) (EP X pins σ Q) X.xe s
theorem SlR.or {r r' : V → Option Int → Option Int → Hp → VK → Prop} (h : SlR X r) (h' : SlR X r') : SlR X (fun x lo hi H Q => r x lo hi H Q ∨ r' x lo hi H Q) := by
  intro pins s σ H x v vl vu lo hi sl Q I rx hs pl pu q
  rcases q with q | q
  · exact h pins s σ H x v vl vu lo hi sl Q I rx hs pl pu q
  · exact h' pins s σ H x v vl vu lo hi sl Q I rx hs pl pu q
def tSl (r : V → Option Int → Option Int → Hp → VK → Prop) (te : TE) (tl th : TO) : TE := fun σ H Q => te σ H fun x H1 => tl σ H1 fun l H2 => th σ H2 fun u H3 => r x l u H3 Q
/-- a[lo:hi], any a -/
theorem pe_slice {r : V → Option Int → Option Int → Hp → VK → Prop} (hr : SlR X r) (he : PE X e te) (hl : PO X lo tl) (hu : PO X hi th) : PE X (.Subscript e (.Slice lo hi none p2) pos) (tSl r te tl th) := by
  intro pins s σ H Q I h
  refine Subscript_ (thn (he pins s σ H _ I h) fun v s1 ⟨x, H1, I1, r1, q1⟩ => ?_)
  refine wpAny_Slice (thn (hl pins s1 σ H1 _ I1 q1) fun vl s2 ⟨l, H2, I2, pl, q2⟩ => thn (hu pins s2 σ H2 _ I2 q2) fun vu s3 ⟨u, H3, I3, pu, q3⟩ => ?_)
  rw [evalPart_none]
  refine wpAny_pure ?_
  have I4 : Inv X pins σ H3 { s3 with heap := s3.heap.push { cls := .type "slice", data := .fields #[vl, vu, .none] } } := I3.kept (t' := s3.toks) fun b ob q => Heap.get?_push_of_some _ q
  obtain ⟨T, id, hT, ht, hg⟩ := hr pins { s3 with heap := s3.heap.push { cls := .type "slice", data := .fields #[vl, vu, .none] } } σ H3 x v vl vu l u s3.heap.objs.size Q I4 r1 (Heap.IsSliceOf.new ..) pl pu q3
  show wpAny (model X.prog X.w) X.A (subscriptTail e (.Slice lo hi none p2) v (.ref s3.heap.objs.size)) (EP X pins σ Q) X.xe { s3 with heap := s3.heap.push { cls := .type "slice", data := .fields #[vl, vu, .none] } }
  exact tail_any (ops := [.ref s3.heap.objs.size, v]) ht hT hg (by with_unfolding_all rfl)
/-- the items of xs[lo:hi] -/
def cutV (xs : List V) (lo hi : Option Int) : List V := (xs.drop (HT.sIx xs.length 0 lo)).take (HT.sIx xs.length xs.length hi - HT.sIx xs.length 0 lo)
theorem cutV_length (xs : List V) (lo hi : Option Int) : (cutV xs lo hi).length ≤ xs.length := by
  unfold cutV
  rw [List.length_take, List.length_drop]
  omega
/-! ### t < u, t + u -/
end
end L2
namespace L2
open PySem PySem.Spec PyProof.Rows
/-! ### places -/
/-- the place that an index of any sign means -/
def ixN (n : Nat) (i : Int) : Option Nat := if 0 ≤ i then (if i < n then some i.toNat else none) else if -(n : Int) ≤ i then some (i + n).toNat else none
def atI {α : Type} (xs : List α) (i : Int) : Option α := (ixN xs.length i).bind fun j => xs[j]?
theorem ixN_seq {n : Nat} {i : Int} {j : Nat} (h : ixN n i = some j) : seqIndex? i n = some j ∧ j < n ∧ -(n : Int) ≤ i ∧ i < n := by
  unfold ixN at h
  by_cases h0 : 0 ≤ i
  · rw [if_pos h0] at h
    by_cases h1 : i < n
    · rw [if_pos h1] at h
      have e : i.toNat = j := Option.some.inj h
      exact ⟨by rw [seqIndex_of h0 h1, e], by omega, by omega, h1⟩
    · rw [if_neg h1] at h; cases h
  · rw [if_neg h0] at h
    by_cases h1 : -(n : Int) ≤ i
    · rw [if_pos h1] at h
      have e : (i + n).toNat = j := Option.some.inj h
      exact ⟨by rw [seqIndex_neg (by omega) h1, e], by omega, h1, by omega⟩
    · rw [if_neg h1] at h; cases h
theorem atI_get {α : Type} {xs : List α} {i : Int} {v : α} (h : atI xs i = some v) : ∃ j, seqIndex? i xs.length = some j ∧ xs[j]? = some v ∧ j < xs.length ∧ -(xs.length : Int) ≤ i ∧ i < xs.length := by
  unfold atI at h
  cases e : ixN xs.length i with
  | none => rw [e] at h; cases h
  | some j =>
    rw [e] at h
    obtain ⟨h1, h2, h3, h4⟩ := ixN_seq e
    exact ⟨j, h1, h, h2, h3, h4⟩
theorem atI_nat {α : Type} {xs : List α} {j : Nat} {v : α} (h : xs[j]? = some v) : atI xs (j : Int) = some v := by
  have hj : j < xs.length := (List.getElem?_eq_some_iff.mp h).1
  have e : ixN xs.length (j : Int) = some j := by
    unfold ixN
    rw [if_pos (by omega), if_pos (by omega)]; simp
  unfold atI; rw [e]; exact h
/-! ### what may be subscripted -/
/-- what stands as an index of a plain subscript -/
def PlainIx (b : Expr) : Prop := ∀ o i, subscripted b false o i = operate [o, i] (getItem o i)
/-- a subscript by values -/
def IxR (X : Cx) (r : R2) : Prop :=
  ∀ (value slice : Expr) (pins : List (Addr × Obj)) (s : Shared) (σ : St) (H : Hp) (x y : V) (v u : Value) (Q : VK), Inv X pins σ H s → RelV x v → RelV y u → r x y H Q →
    subscripted slice false v u = operate [v, u] (getItem v u) → wpAny (model X.prog X.w) X.A (subscriptTail value slice v u) (EP X pins σ Q) X.xe s
/-- a call of a builtin's method by values: the receiver, the arguments -/
def MtR (X : Cx) (id : String) (r : V → List V → Hp → VK → Prop) : Prop :=
  ∀ (pins : List (Addr × Obj)) (s : Shared) (σ : St) (H : Hp) (x : V) (xs : List V) (v : Value) (us : List Value) (Q : VK), Inv X pins σ H s → RelV x v → Vals xs us → r x xs H Q →
    wpAny (model X.prog X.w) X.A (call (.builtin id) (v :: us)) (EP X pins σ Q) X.xe s
section
variable {X : Cx} {a b : Expr} {ta tb : TE} {pos : Pos}
theorem IxR.or {r r' : R2} (h : IxR X r) (h' : IxR X r') : IxR X (fun x y H Q => r x y H Q ∨ r' x y H Q) := by
  intro value slice pins s σ H x y v u Q I rx ry q hs
  rcases q with q | q
  · exact h value slice pins s σ H x y v u Q I rx ry q hs
  · exact h' value slice pins s σ H x y v u Q I rx ry q hs
theorem MtR.or {id : String} {r r' : V → List V → Hp → VK → Prop} (h : MtR X id r) (h' : MtR X id r') : MtR X id (fun x xs H Q => r x xs H Q ∨ r' x xs H Q) := by
  intro pins s σ H x xs v us Q I rx rs q
  rcases q with q | q
  · exact h pins s σ H x xs v us Q I rx rs q
  · exact h' pins s σ H x xs v us Q I rx rs q
/-- a[b] -/
theorem pe_ix {r : R2} (hr : IxR X r) (ha : PE X a ta) (hb : PE X b tb) (hs : PlainIx b) : PE X (.Subscript a b pos) (tOp r ta tb) := by
  intro pins s σ H Q I h
  exact Subscript_ (binT ha hb I h fun v u s2 x y H2 I2 rx ry q => hr a b pins s2 σ H2 x y v u Q I2 rx ry q (hs _ _))
def rIxL (K : PySem.W.Frag) : R2 := fun x y H Q => ∃ p xs i v, x = .ref p ∧ y = .int i ∧ SqL K H p xs ∧ atI xs i = some v ∧ Q v H
def rIxT (K : PySem.W.Frag) : R2 := fun x y H Q => ∃ p xs i v, x = .ref p ∧ y = .int i ∧ SqT K H p xs ∧ atI xs i = some v ∧ Q v H
theorem ix_list : IxR X (rIxL X.K) := by
  intro value slice pins s σ H x y v u Q I rx ry h hs
  obtain ⟨p, xs, i, z, rfl, rfl, hq, he, q⟩ := h
  cases rx
  obtain ⟨t, rfl⟩ := ry
  obtain ⟨its, r, pl, hz⟩ := I.list hq
  obtain ⟨j, h1, h2, h3, h4, h5⟩ := atI_get he
  obtain ⟨w, ew, rw'⟩ := r.get h2
  have hl := r.length
  have hn := line63
  have fin : EP X pins σ Q w s := ⟨z, H, I, rw', q⟩
  by_cases h0 : 0 ≤ i
  · have hj : i.toNat = j := by
      rw [seqIndex_of h0 h5] at h1
      exact Option.some.inj h1
    exact item_listR pl.isList h0 (by omega) (by rw [hj]; simpa using ew) fin hs
  · have hj : (i + (its.toArray.size : Int)).toNat = j := by
      rw [seqIndex_neg (by omega) h4] at h1
      rw [List.size_toArray, ← hl]
      exact Option.some.inj h1
    exact subscriptTail_builtinR (x := w) pl.isList.typeIs slot_list_getitem.lookup
      (wpAny_getItem_list_neg (Q := fun r s' => r = w ∧ EP X pins σ Q r s') pl.isList (by omega) (by rw [List.size_toArray] <;> omega) (by omega) (by rw [hj]; simpa using ew) ⟨rfl, fin⟩) hs
theorem ix_tup : IxR X (rIxT X.K) := by
  intro value slice pins s σ H x y v u Q I rx ry h hs
  obtain ⟨p, xs, i, z, rfl, rfl, hq, he, q⟩ := h
  cases rx
  obtain ⟨t, rfl⟩ := ry
  obtain ⟨its, r, pl, hz⟩ := I.tuple hq
  obtain ⟨j, h1, h2, h3, h4, h5⟩ := atI_get he
  obtain ⟨w, ew, rw'⟩ := r.get h2
  have hl := r.length
  have hn := line63
  have fin : EP X pins σ Q w s := ⟨z, H, I, rw', q⟩
  exact subscriptTail_builtinR (x := w) pl.typeIs slot_tuple_getitem.lookup
    (getItem_tuple (j := j) (Q := fun r s' => r = w ∧ EP X pins σ Q r s') pl (by omega) (by omega) (by rw [List.size_toArray, ← hl]; exact h1) (by simpa using ew) ⟨rfl, fin⟩) hs
/-! ### xs[i] = v, any sign -/
theorem Inv.lst {pins : List (Addr × Obj)} {σ : St} {H : Hp} {s : Shared} {p : Addr} {xs : List V} (I : Inv X pins σ H s) (h : H p = some (.lst xs)) :
    ∃ (its : List Value) (n : Nat), Vals xs its ∧ s.heap.get? p = some { cls := .type "list", data := .seq its.toArray n } ∧ xs.length ≤ sizeLine := by
  obtain ⟨z, its, n, r, e⟩ := I.hok p _ h
  exact ⟨its, n, r, e, z⟩
/-! ### slices -/
theorem slice_bounds (lo hi : Option Int) (n : Nat) : (sliceBounds lo hi none n).1 = ((HT.sIx n 0 lo : Nat) : Int) ∧ (sliceBounds lo hi none n).2.1 = ((HT.sIx n n hi : Nat) : Int) ∧ (sliceBounds lo hi none n).2.2 = 1 := by
  refine ⟨?_, ?_, rfl⟩
  · cases lo with
    | none => simp [sliceBounds, HT.sIx]
    | some i =>
      simp only [sliceBounds, HT.sIx, Option.getD_none, show (1 : Int) > 0 by decide, if_true]
      by_cases h : i < 0
      · simp only [h, if_true] <;> omega
      · simp only [h, if_false] <;> omega
  · cases hi with
    | none => simp [sliceBounds, HT.sIx]
    | some i =>
      simp only [sliceBounds, HT.sIx, Option.getD_none, show (1 : Int) > 0 by decide, if_true]
      by_cases h : i < 0
      · simp only [h, if_true] <;> omega
      · simp only [h, if_false] <;> omega
theorem slicePick_cut (its : List Value) (lo hi : Option Int) : slicePick its.toArray lo hi none = ((its.drop (HT.sIx its.length 0 lo)).take (HT.sIx its.length its.length hi - HT.sIx its.length 0 lo)).toArray := by
  obtain ⟨h1, h2, h3⟩ := slice_bounds lo hi its.toArray.size
  unfold slicePick
  rw [h1, h2, h3]
  simp only [sliceRange_one, pick_run, List.size_toArray] <;> rfl
/-- xs[lo:hi] of a list: a new list -/
def rSlL (K : PySem.W.Frag) : V → Option Int → Option Int → Hp → VK → Prop := fun x lo hi H Q => ∃ a xs, x = .ref a ∧ SqL K H a xs ∧ ∀ p, H p = none → Q (.ref p) (upd H p (.lst (cutV xs lo hi)))
theorem sl_list : SlR X (rSlL X.K) := by
  intro pins s σ H x v vl vu lo hi sl Q I rx hs pl pu h
  obtain ⟨a, xs, rfl, hx, q⟩ := h
  cases rx
  obtain ⟨its, r, ht, hz⟩ := I.list hx
  have hlen := r.length
  refine ⟨"list", _, slot_list_getitem.lookup, ht.isList.typeIs, ?_⟩
  refine wpAny_getItem_list_slice ht.isList hs pl pu .none (by simp) ?_ (by rw [List.size_toArray] <;> omega)
  rw [slicePick_cut, ← hlen]
  refine ⟨.ref s.heap.objs.size, _, I.laid (t' := s.toks) (o := .lst (cutV xs lo hi)) (fun b ob q => Heap.get?_push_of_some _ q) (Nat.le_refl _) ?_, rfl, q _ (I.hok.fresh (Nat.le_refl _))⟩
  exact ⟨Nat.le_trans (cutV_length xs lo hi) hz, _, 0, (r.drop (HT.sIx xs.length 0 lo)).take (HT.sIx xs.length xs.length hi - HT.sIx xs.length 0 lo), Heap.get?_push_size _ rfl⟩
/-! ### in, not in: flat items -/
def flatV : V → Bool
  | .non => true
  | .bl _ => true
  | .int _ => true
  | .str _ => true
  | _ => false
/-- == of flat values -/
def eqV : V → V → Bool
  | .non, .non => true
  | .bl a, .bl b => a == b
  | .bl a, .int b => (if a then 1 else 0) == b
  | .int a, .bl b => a == (if b then 1 else 0)
  | .int a, .int b => a == b
  | .str a, .str b => a == b
  | _, _ => false
theorem eqAt_V {A : Around} {s : Shared} {y x : V} {u v : Value} (ry : RelV y u) (rx : RelV x v) (fy : flatV y = true) (fx : flatV x = true) : SeqAt.EqAt A s u v (eqV y x) := by
  cases y with
  | non =>
    cases ry
    cases x with
    | non => cases rx; exact SeqAt.EqAt.same _
    | bl b => cases rx; exact SeqAt.EqAt.none_bool b
    | int b => obtain ⟨t, rfl⟩ := rx; exact SeqAt.EqAt.none_int b t
    | str b => obtain ⟨t, rfl⟩ := rx; exact SeqAt.EqAt.none_str b t
    | _ => exact absurd (show false = true from fx) Bool.false_ne_true
  | bl a =>
    cases ry
    cases x with
    | non => cases rx; exact SeqAt.EqAt.bool_none a
    | bl b => cases rx; exact SeqAt.EqAt.bool_bool a b
    | int b => obtain ⟨t, rfl⟩ := rx; exact SeqAt.EqAt.bool_int a b t
    | str b => obtain ⟨t, rfl⟩ := rx; exact SeqAt.EqAt.bool_str a b t
    | _ => exact absurd (show false = true from fx) Bool.false_ne_true
  | int a =>
    obtain ⟨t', rfl⟩ := ry
    cases x with
    | non => cases rx; exact SeqAt.EqAt.int_none a t'
    | bl b => cases rx; exact SeqAt.EqAt.int_bool a t' b
    | int b => obtain ⟨t, rfl⟩ := rx; exact SeqAt.EqAt.int_int a t' b t
    | str b => obtain ⟨t, rfl⟩ := rx; exact SeqAt.EqAt.int_str a t' b t
    | _ => exact absurd (show false = true from fx) Bool.false_ne_true
  | str a =>
    obtain ⟨t', rfl⟩ := ry
    cases x with
    | non => cases rx; exact SeqAt.EqAt.str_none a t'
    | bl b => cases rx; exact SeqAt.EqAt.str_bool a t' b
    | int b => obtain ⟨t, rfl⟩ := rx; exact SeqAt.EqAt.str_int a t' b t
    | str b => obtain ⟨t, rfl⟩ := rx; exact SeqAt.EqAt.str_str a t' b t
    | _ => exact absurd (show false = true from fx) Bool.false_ne_true
  | _ => exact absurd (show false = true from fy) Bool.false_ne_true
/-- the items' answers, read off the values (a value's own answer does not lean on its token) -/
def eqU (x : V) (u : Value) : Bool := match u with
  | .none => eqV .non x
  | .bool b => eqV (.bl b) x
  | .int i _ => eqV (.int i) x
  | .str z _ => eqV (.str z) x
  | _ => false
theorem eqU_of {x y : V} {u : Value} (r : RelV y u) (f : flatV y = true) : eqU x u = eqV y x := by
  cases y with
  | non => cases r; rfl
  | bl b => cases r; rfl
  | int i => obtain ⟨t, rfl⟩ := r; rfl
  | str z => obtain ⟨t, rfl⟩ := r; rfl
  | _ => exact absurd (show false = true from f) Bool.false_ne_true
theorem any_eqU {x : V} : ∀ {xs : List V} {us : List Value}, Vals xs us → xs.all flatV = true → us.any (eqU x) = xs.any fun y => eqV y x
  | _, _, .nil, _ => rfl
  | y :: xs, u :: us, .cons r t, f => by
    rw [List.all_cons, Bool.and_eq_true] at f
    rw [List.any_cons, List.any_cons, eqU_of r f.1, any_eqU t f.2]
theorem mem_eqAt {A : Around} {s : Shared} {x : V} {v : Value} (rx : RelV x v) (fx : flatV x = true) : ∀ {xs : List V} {us : List Value}, Vals xs us → xs.all flatV = true → ∀ u ∈ us, SeqAt.EqAt A s u v (eqU x u)
  | _, _, .nil, _ => fun u hu => by cases hu
  | y :: xs, u :: us, .cons r t, f => fun u' hu => by
    rw [List.all_cons, Bool.and_eq_true] at f
    rcases List.mem_cons.mp hu with rfl | hu
    · rw [eqU_of r f.1]; exact eqAt_V r rx f.1 fx
    · exact mem_eqAt rx fx t f.2 u' hu
def inV (x : V) (xs : List V) : Bool := xs.any fun y => eqV y x
/-- x in a list or tuple of flat items -/
def rIn (K : PySem.W.Frag) (neg : Bool) : R2 := fun x y H Q => ∃ p xs, y = .ref p ∧ (SqL K H p xs ∨ SqT K H p xs) ∧ flatV x = true ∧ xs.all flatV = true ∧ Q (.bl (if neg then !inV x xs else inV x xs)) H
theorem op_notIn_seq : OpR X (compareOp .NotIn) (rIn X.K true) := by
  intro pins s σ H x y v u Q I rx ry h
  obtain ⟨p, xs, rfl, hq, fx, fs, q⟩ := h
  cases ry
  rcases hq with hq | hq
  · obtain ⟨its, r, pl, hz⟩ := I.list hq
    refine SeqAt.notIn_listAt (eqU x) pl.isList (fun w hw => mem_eqAt rx fx r fs w (by simpa using hw)) ⟨.bl _, H, I, rfl, ?_⟩
    rw [show its.toArray.any (eqU x) = its.any (eqU x) by simp, any_eqU r fs]
    exact q
  · obtain ⟨its, r, pl, hz⟩ := I.tuple hq
    refine SeqAt.notIn_tupleAt (eqU x) pl (fun w hw => mem_eqAt rx fx r fs w (by simpa using hw)) ⟨.bl _, H, I, rfl, ?_⟩
    rw [show its.toArray.any (eqU x) = its.any (eqU x) by simp, any_eqU r fs]
    exact q
/-! ### len, list(x), tuple(x) of any list or tuple that is read -/
theorem call_len_seq : CallR X (.builtin "len") (fun xs H Q => ∃ p ys, xs = [.ref p] ∧ (SqL X.K H p ys ∨ SqT X.K H p ys) ∧ Q (.int ys.length) H) := by
  intro pins s σ H xs us Q I r h
  obtain ⟨p, ys, rfl, hq, q⟩ := h
  obtain ⟨u, rfl, rx⟩ := vals1 r
  cases rx
  have hn := line63
  rcases hq with hq | hq
  · obtain ⟨its, r', pl, hz⟩ := I.list hq
    have hlen := r'.length
    exact Calls.call_len_list pl.isList (by simp only [List.size_toArray] <;> omega) ⟨.int ys.length, H, I.tok _, ⟨s.toks + 1, by rw [List.size_toArray, hlen]⟩, q⟩
  · obtain ⟨its, r', pl, hz⟩ := I.tuple hq
    have hlen := r'.length
    exact len_tuple pl (by simp only [List.size_toArray] <;> omega) ⟨.int ys.length, H, I.tok _, ⟨s.toks + 1, by rw [List.size_toArray, hlen]⟩, q⟩
theorem CallR.or {f : Value} {r r' : List V → Hp → VK → Prop} (h : CallR X f r) (h' : CallR X f r') : CallR X f (fun xs H Q => r xs H Q ∨ r' xs H Q) := by
  intro pins s σ H xs us Q I rs q
  rcases q with q | q
  · exact h pins s σ H xs us Q I rs q
  · exact h' pins s σ H xs us Q I rs q
theorem call_list_of : CallR X (.type "list") (fun xs H Q => ∃ p ys, xs = [.ref p] ∧ (SqL X.K H p ys ∨ SqT X.K H p ys) ∧ ∀ l, H l = none → Q (.ref l) (upd H l (.lst ys))) := by
  intro pins s σ H xs us Q I r h
  obtain ⟨p, ys, rfl, hq, q⟩ := h
  obtain ⟨u, rfl, rx⟩ := vals1 r
  cases rx
  have fin : ∀ (its : List Value), Vals ys its → ys.length ≤ sizeLine → ∀ (h' : Heap) (c' : Nat), (∀ b o', s.heap.get? b = some o' → h'.get? b = some o') →
      h'.get? s.heap.objs.size = some { cls := .type "list", dict := none, data := .seq its.toArray c', slots := #[] } → EP X pins σ Q (.ref s.heap.objs.size) { s with heap := h' } := fun its r' hz h' c' kp e =>
    ⟨.ref s.heap.objs.size, _, I.laid (t' := s.toks) kp (Nat.le_refl _) (show ObjOk X.prog X.w _ h' _ (.lst ys) from ⟨hz, its, c', r', e⟩), rfl, q _ (I.hok.fresh (Nat.le_refl _))⟩
  rcases hq with hq | hq
  · obtain ⟨its, r', pl, hz⟩ := I.list hq
    have hlen := r'.length
    obtain ⟨o, ho, hc, n, hd⟩ := pl.isList
    exact call_list_seq p (.inl rfl) ho hc hd (fun h' c' kp e => fin its r' hz h' c' kp e) (by simp only [List.size_toArray] <;> omega)
  · obtain ⟨its, r', pl, hz⟩ := I.tuple hq
    have hlen := r'.length
    obtain ⟨o, ho, hc, n, hd⟩ := pl
    exact call_list_seq p (.inr rfl) ho hc hd (fun h' c' kp e => fin its r' hz h' c' kp e) (by simp only [List.size_toArray] <;> omega)
/-! ### the call of a builtin's method: o.m(..) -/
variable {o e : Expr} {es : List Expr} {to : TE} {t : TA} {name : Str} {apos cpos : Pos} {T id : String} {r : V → List V → Hp → VK → Prop}
/- xs.append(e), list.index on a module's tuple .. are MtR facts of 06m -/
end
end L2
namespace L2
open PySem PySem.Spec PyProof.Rows
def MtM (X : Cx) (id : String) (r : V → List V → Hp → VK → Prop) : Prop :=
  ∀ (pins : List (Addr × Obj)) (s : Shared) (σ : St) (H : Hp) (x : V) (xs : List V) (v : Value) (us : List Value) (Q : VK), Inv X pins σ H s → RelV x v → Vals xs us → r x xs H Q →
    wpAny (model X.prog X.w) X.A (call (.builtin id) (v :: us)) (EP X pins σ Q) X.xe s
/-! ### lists of values -/
theorem Vals.one : ∀ {x : V} {us : List Value}, Vals [x] us → ∃ u, us = [u] ∧ RelV x u
  | _, _, .cons r .nil => ⟨_, rfl, r⟩
theorem Vals.two : ∀ {x y : V} {us : List Value}, Vals [x, y] us → ∃ u v, us = [u, v] ∧ RelV x u ∧ RelV y v
  | _, _, _, .cons r (.cons q .nil) => ⟨_, _, rfl, r, q⟩
theorem Vals.zero : ∀ {us : List Value}, Vals [] us → us = []
  | _, .nil => rfl
theorem Vals.dropLast {xs : List V} {us : List Value} (h : Vals xs us) : Vals xs.dropLast us.dropLast := by
  induction h with
  | nil => exact .nil
  | cons r t ih =>
    cases t with
    | nil => exact .nil
    | cons q t' => exact .cons r ih
theorem Vals.rep {xs : List V} {us : List Value} (h : Vals xs us) : ∀ k : Nat, Vals (List.replicate k xs).flatten (List.replicate k us).flatten
  | 0 => .nil
  | k + 1 => by
    rw [List.replicate_succ, List.replicate_succ, List.flatten_cons, List.flatten_cons]
    exact Vals.append h (Vals.rep h k)
theorem foldl_rep (its : List Value) : ∀ (k : Nat) (acc : List Value),
    List.foldl (fun x1 x2 => x1 ++ x2) acc.toArray (List.replicate k its.toArray) = (acc ++ (List.replicate k its).flatten).toArray
  | 0, acc => by simp
  | k + 1, acc => by
    have e : acc.toArray ++ its.toArray = (acc ++ its).toArray := by simp
    have e2 : (acc ++ its) ++ (List.replicate k its).flatten = acc ++ (List.replicate (k + 1) its).flatten := by
      rw [List.replicate_succ, List.flatten_cons, List.append_assoc]
    rw [← e2, ← foldl_rep its k (acc ++ its), ← e, List.replicate_succ, List.foldl_cons]
section
variable {X : Cx} {pins : List (Addr × Obj)} {σ : St} {H : Hp} {s : Shared} {l b : Addr} {xs ys zs : List V}
/-! ### the two steps: a tracked list is rewritten, a new list is laid -/
theorem Inv.lset {its its' : List Value} {n : Nat} {f : Array Value → Array Value} {t' : Nat} (I : Inv X pins σ H s) (hH : H l = some (.lst xs))
    (e : s.heap.get? l = some { cls := .type "list", data := .seq its.toArray n }) (hf : f its.toArray = its'.toArray) (hv : Vals ys its') (hz : ys.length ≤ sizeLine) :
    Inv X pins σ (upd H l (.lst ys)) { s with heap := s.heap.update l (Obj.mapSeq f), toks := t' } := by
  have q := PySem.IsL.update e f
  rw [hf] at q
  refine I.write (x := l) (e := l) (by rw [hH]; exact trivial) (.inl rfl) (fun b' u hb hu => (Heap.get?_update_other s.heap (Obj.mapSeq f) (Ne.symm hb)).trans hu) ⟨_, q⟩ ?_
  exact ⟨hz, its', _, hv, q⟩
theorem Inv.lnew {its : List Value} {t' : Nat} (I : Inv X pins σ H s) (hv : Vals ys its) (hz : ys.length ≤ sizeLine) :
    Inv X pins σ (upd H s.heap.objs.size (.lst ys)) { s with heap := s.heap.push { cls := .type "list", data := .seq its.toArray }, toks := t' } :=
  I.laid (fun _ _ q => Heap.get?_push_of_some _ q) (Nat.le_refl _) ⟨hz, its, 0, hv, Heap.get?_push_size _ rfl⟩
theorem Inv.fresh (I : Inv X pins σ H s) : H s.heap.objs.size = none := I.hok.fresh (Nat.le_refl _)
theorem Inv.lstM (I : Inv X pins σ H s) (hH : H l = some (.lst xs)) : xs.length ≤ sizeLine ∧ ∃ (its : List Value) (n : Nat), Vals xs its ∧ xs.length = its.length ∧ s.heap.get? l = some { cls := .type "list", data := .seq its.toArray n } := by
  obtain ⟨z, its, n, r, e⟩ := I.hok l _ hH
  exact ⟨z, its, n, r, r.length, e⟩
theorem notLongL {n : Nat} (h : n ≤ sizeLine) : Builtin.List.listTooLong n = false := by
  unfold Builtin.List.listTooLong
  exact decide_eq_false (by omega)
end
section
variable {X : Cx}
/-! ### methods -/
def rAppend : V → List V → Hp → VK → Prop := fun x vs H Q => ∃ l xs y, x = .ref l ∧ vs = [y] ∧ H l = some (.lst xs) ∧ xs.length < sizeLine ∧ Q .non (upd H l (.lst (xs ++ [y])))
theorem mt_append : MtM X "list.append" rAppend := by
  intro pins s σ H x vs v us Q I rx rv h
  obtain ⟨l, xs, y, rfl, rfl, hH, hz, q⟩ := h
  cases rx
  obtain ⟨u, rfl, ru⟩ := rv.one
  obtain ⟨z, its, n, r, hl, e⟩ := I.lstM hH
  refine call_meets F.slot_list_append ⟨_, e, rfl⟩ F.entry_list_append (F.args_list_append_2 _ _) (PySem.list_append l its.toArray n u (by rw [List.size_toArray]; omega)) ⟨e, ?_⟩
  refine ⟨.non, _, I.lset (its' := its ++ [u]) hH e (by simp) (r.append (.cons ru .nil)) ?_, rfl, q⟩
  rw [List.length_append, List.length_singleton]
  omega
/-! ### list + list, list += list, list * int -/
def rCat : R2 := fun x y H Q => ∃ l b xs zs, x = .ref l ∧ y = .ref b ∧ H l = some (.lst xs) ∧ H b = some (.lst zs) ∧ xs.length + zs.length ≤ sizeLine ∧ ∀ p, H p = none → Q (.ref p) (upd H p (.lst (xs ++ zs)))
theorem op_cat : OpR X (binaryOp .Add) rCat := by
  intro pins s σ H x y v u Q I rx ry h
  obtain ⟨l, b, xs, zs, rfl, rfl, hH, hB, hz, q⟩ := h
  cases rx
  cases ry
  obtain ⟨z, its, n, r, hl, e⟩ := I.lstM hH
  obtain ⟨z2, its2, n2, r2, hl2, e2⟩ := I.lstM hB
  refine PySem.P.add_list e e2 ?_ (by rw [List.size_toArray, List.size_toArray]; omega)
  have ea : its.toArray ++ its2.toArray = (its ++ its2).toArray := by simp
  rw [ea]
  exact ⟨.ref _, _, I.lnew (t' := s.toks) (r.append r2) (by rw [List.length_append]; omega), rfl, q _ I.fresh⟩
/-- a list times an int (a negative one is nothing) -/
def rRep : R2 := fun x y H Q => ∃ l k xs, x = .ref l ∧ y = .int k ∧ H l = some (.lst xs) ∧ -(2 ^ 63) ≤ k ∧ k < 2 ^ 63 ∧ xs.length * k.toNat ≤ sizeLine ∧
  ∀ p, H p = none → Q (.ref p) (upd H p (.lst (List.replicate k.toNat xs).flatten))
theorem len_rep {α : Type} (xs : List α) (k : Nat) : (List.replicate k xs).flatten.length = k * xs.length := by
  induction k with
  | zero => simp
  | succ k ih => rw [List.replicate_succ, List.flatten_cons, List.length_append, ih, Nat.succ_mul, Nat.add_comm]
theorem op_rep : OpR X (binaryOp .Mult) rRep := by
  intro pins s σ H x y v u Q I rx ry h
  obtain ⟨l, k, xs, rfl, rfl, hH, h1, h2, hz, q⟩ := h
  cases rx
  obtain ⟨t, rfl⟩ := ry
  obtain ⟨z, its, n, r, hl, e⟩ := I.lstM hH
  have hlen : its.toArray.size * k.toNat ≤ sizeLine := by rw [List.size_toArray, ← hl]; exact hz
  have hcap : ¬ its.toArray.size * k.toNat > (2 ^ 63 - 1) / 8 := by
    have : (sizeLine : Nat) ≤ (2 ^ 63 - 1) / 8 := by decide
    omega
  have hfit : ¬ (!Builtin.List.listFitsIndex k) = true := by
    rw [fitsIndex_both h1 h2]
    exact Bool.false_ne_true
  have hlong : ¬ Builtin.List.listTooLong (its.toArray.size * k.toNat) = true := by
    rw [notLongL hlen]
    exact Bool.false_ne_true
  have hnew : List.foldl (fun x1 x2 => x1 ++ x2) #[] (List.replicate (if its.toArray.isEmpty = true then 0 else k.toNat) its.toArray) = (List.replicate k.toNat its).flatten.toArray := by
    have f0 : ∀ m : Nat, List.foldl (fun x1 x2 => x1 ++ x2) #[] (List.replicate m its.toArray) = (List.replicate m its).flatten.toArray := fun m => by
      have := foldl_rep its m []
      rw [List.nil_append] at this
      exact this
    rw [f0]
    cases its with
    | nil => simp
    | cons a r' => rw [if_neg (by simp)]
  refine wpAny_binaryOp_repeat_ref (T := "list") (U := "int") (by decide) ⟨_, e, rfl⟩ (fun s' => typeIs_int s' k t) noFill_list_mul F.fills_int_mul F.slot_int_rmul repeat_list F.slot_int_index.lookup
    (call_meets F.slot_int_rmul (typeIs_int s k t) F.entry_int_rmul (F.args_int_rmul_2 _ _) (int___rmul___int_list k t l its.toArray n)
      ⟨e, rfl, ⟨_, e, rfl⟩, call_meets F.slot_list_mul ⟨_, e, rfl⟩ F.entry_list_mul (F.args_list_mul_2 _ _) (AutoListH.list___mul___list_int_3 l its.toArray n k t hfit hcap hlong) ⟨e, ?_⟩⟩)
  rw [hnew]
  exact ⟨.ref _, _, I.lnew (t' := s.toks) (r.rep k.toNat) (by rw [len_rep, Nat.mul_comm]; exact hz), rfl, q _ I.fresh⟩
/-! ### del xs[i] -/
end
/-! ### xs[a:b] = ys -/
section
variable {prog : Program} {w : World} {A : Around} {E : Value → Shared → Prop} {s : Shared}
set_option maxRecDepth 100000 in
end
section
variable {X : Cx}
end
end L2
namespace Att
open PySem PySem.W PySem.Calls PyProof.Rows
/-! ### the script -/
theorem ints_of_wellAll {P : Params} {h : Heap} : ∀ (ns : List Int) (vs : List Value), WellAll P h vs (ns.map WData.int) → IntsAre vs ns := by
  intro ns
  induction ns with
  | nil =>
    intro vs w
    rw [List.map_nil] at w
    cases w
    exact .nil
  | cons n ns ih =>
    intro vs w
    rw [List.map_cons] at w
    cases w with
    | cons a b =>
      cases a
      exact .cons _ _ (ih _ b)
theorem script_of {l : OpenLaw} {n : Nat} (hn : l.most = some n) {P : Params} {h : Heap} {args : List WData} {vals : List Value}
    (hpre : l.row.toRowW.claim.pre args = true) (hwl : WellAll P h vals args) :
    ∃ a vs ns, vals = [Value.ref a] ∧ args = [WData.list (ns.map WData.int)] ∧ h.get? a = some { cls := .type "list", data := .seq vs.toArray } ∧ IntsAre vs ns ∧ ns.length ≤ n := by
  have hsh : WShape.hasAll [] args [.list .int] = true := (pre_splitW hpre).1
  have hc : l.pre.holds [] { args := args } = true := (pre_splitW hpre).2
  obtain ⟨d, r, rfl, h1, h2⟩ := hasAllW_cons hsh
  obtain rfl := hasAllW_nil h2
  obtain ⟨xs, rfl, h3⟩ := hasW_list h1
  obtain ⟨ns, rfl⟩ := items_int h3
  have hlen : ns.length ≤ n := by
    unfold OpenLaw.pre at hc
    have h4 : (WTm.not (.lt (.lit (.int (n : Int))) (.len (.arg 0)))).holds [] { args := [.list (ns.map .int)] } = true := by
      have h4 := (holds_andW hc).1
      rw [hn] at h4
      exact h4
    have h5 := condW_of h4 (w_not (w_lt w_lit (w_len_list (w_arg rfl))))
    rw [List.length_map] at h5
    refine Nat.le_of_not_lt fun q => ?_
    have q' : (n : Int) < ((ns.length : Nat) : Int) := by omega
    first
      | (rw [decide_eq_true q'] at h5; exact absurd h5 (by decide))
      | (simp at h5; omega)
  cases hwl with
  | cons w1 w2 =>
    cases w2
    cases w1 with
    | list ho hall => exact ⟨_, _, ns, rfl, rfl, ho, ints_of_wellAll ns _ hall, hlen⟩
theorem post_true (l : OpenLaw) (args : List WData) : l.row.toRowW.claim.post args (.bool true) args = true :=
  postW_of (r := l.row.toRowW) (X := (true == true))
    (show WShape.has [] (.bool true) .bool = true by first | rfl | decide | simp [WShape.has, WShape.arms, WShape.armsAll])
    (show (WTm.eq .res (.lit (.bool true))).value [] { args := args, res := some (.bool true), after := args } = some (.bool (true == true)) from w_eq_bool (w_res rfl) w_lit) rfl
/-! ### the attachment: holds_open's last premise (the goal 'hc' behind k_head) from a wpAny of the law's body -/
/-- the same from a codeAny of the CALL (for a layer whose function contracts speak of calls) -/
theorem attach_call {l : OpenLaw} {n : Nat} {q : Program} {loose : List Str} {XP : (Str → Option Value) → Heap → Prop} {YP : World → Heap → Prop} {d : DefRec}
    (hn : l.most = some n) (hdf : d.params.defaults = [])
    (call : ∀ (w : World) (s₀ s₁ : Shared) (mg mb : Str → Option Value) (fa : Addr) (o : Obj) (pm cd doc : Value) (a : Addr) (vs : List Value) (ns : List Int),
      Ground q loose [] XP w s₀ mg mb s₁.heap → YP w s₁.heap →
      s₁.heap.get? fa = some o → o.data = .func (docDef d.name d.params d.body d.scope pm cd doc) → s₁.heap.CodeRec cd d.name → mg d.name = some (.ref fa) →
      s₁.heap.get? a = some { cls := .type "list", data := .seq vs.toArray } → IntsAre vs ns → ns.length ≤ n → s₁.gens = #[] →
      codeAny (model l.prog w) callerA (.call (.ref fa) ⟨[.ref a], []⟩) (fun r s' => r = .ok (.ret (.bool true)) ∧ OldK s₁.heap s'.heap ∧ s'.os = s₁.os ∧ AllBare s'.gens) s₁) :
    WalkO q loose XP YP l.row.toRowW d [] (fun f vs => PySem.call f vs) := by
  intro w s₀ s₁ mg mb G Y fa o pm cd doc dV kV ho hd hcd hD hmg hg args vals as hpre hlay hrd hwl hlo
  obtain rfl : dV = .none := Dflts.none hD hdf
  obtain rfl : kV = .none := Dflts.noKw hD
  obtain ⟨a, vs, ns, rfl, rfl, hobj, hints, hlen⟩ := script_of hn hpre hwl
  refine enter_call (codeAny_mono (call w s₀ s₁ mg mb fa o pm cd doc a vs ns G Y ho (fd_plain hd) hcd hmg hobj hints hlen hg) fun r s' hq => ?_)
  obtain ⟨rfl, h2, h3, h4⟩ := hq
  exact ⟨.inl ⟨.bool true, .bool true, [], rfl, fun _ => rfl, .bool true, post_true l _, fun _ => ⟨List.Pairwise.nil, fun _ hm => (nomatch hm)⟩⟩, h2, h3, h4⟩
/-! ### rules over ANY heap (no ledger) from facts about the written part K: the library's own take a ledger (News) for what they write -/
section
variable {prog : Program} {w : World} {A : Around} {E : Value → Shared → Prop} {s : Shared} {K : Frag}
/-! the whole heap as the ledger: makes every rule that writes through a ledger a rule over any heap -/
def ledger (h : Heap) (L d : Addr) : List (Addr × Obj) := (List.range h.objs.size).filterMap fun a => if a = L ∨ a = d then none else (h.get? a).map fun o => (a, o)
end
end Att
namespace L2
open PySem PySem.Spec PyProof.Rows
theorem vals_ints : ∀ {vs : List Value} {ns : List Int}, IntsAre vs ns → Vals (ns.map V.int) vs
  | _, _, .nil => .nil
  | _, _, .cons n t h => .cons ⟨t, rfl⟩ (vals_ints h)
/-- nothing is tracked but the script, known to the object (or it is an object of the module) -/
def Only (H : Hp) : Prop := ∀ b, H b = none ∨ ∃ o xs, H b = some (.frz o (.lst xs))
/-- THE HEAD: the law's promise, at the heap behind the top. F, the promise of the law's def, may use that base is part of the heap (so K.In base, base.Ns mainGlobals mg stand in Mod) -/
theorem law_call {P : Program} {w : World} {K : PySem.W.Frag} {mg mb : Str → Option Value} {CX : CXT} {k : Nat} {fa a : Addr} {fd : FuncData} {x : Str} {sp : Sp} {s₁ : Shared} {vs : List Value} {ns : List Int}
    (KX : K.In s₁.heap) (hns : s₁.heap.Ns mainGlobals mg) (hb : s₁.heap.Ns builtinsNs mb) (hbb : ∀ x : Str, x ≠ "__name__" → mb x = bootBuiltins x) (hlim : s₁.heap.NoLimit) (hg : s₁.gens = #[])
    (ha : s₁.heap.get? a = some { cls := .type "list", data := .seq vs.toArray }) (hi : IntsAre vs ns) (hl : ns.length ≤ sizeLine) (hr : Room k callerA)
    (F : ∀ base : Heap, K.In base → base.Ns mainGlobals mg → FnOk P w K mg base CX k fa fd [x] sp) (hbind : ∀ (s : Shared) (u : Value), BindsTo s fd ⟨[u], []⟩ [(x, u)])
    (hsp : ∀ H : Hp, Only H → SqL K H a (ns.map V.int) → sp [.ref a] H (fun v _ => v = .bl true) fun _ _ _ => False)
    (hCX : ∀ H e s', CX [] H s₁ (fun _ _ _ => False) e s' → False) :
    codeAny (model P w) callerA (.call (.ref fa) ⟨[.ref a], []⟩) (fun r s' => r = .ok (.ret (.bool true)) ∧ OldK s₁.heap s'.heap ∧ s'.os = s₁.os ∧ AllBare s'.gens) s₁ := by
  have rv := vals_ints hi
  have lenV := hi.length
  -- from an abstract heap in which nothing but the script may be tracked
  have core : ∀ H : Hp, Only H → SqL K H a (ns.map V.int) → HOk P w H s₁.heap → (∀ b, H b ≠ none → b = a) → (H a ≠ none → K.lookup a = none) →
      codeAny (model P w) callerA (.call (.ref fa) ⟨[.ref a], []⟩) (fun r s' => r = .ok (.ret (.bool true)) ∧ OldK s₁.heap s'.heap ∧ s'.os = s₁.os ∧ AllBare s'.gens) s₁ := by
    intro H hO hS hok hA hK
    have base_of : ∀ {b : Addr} {o : Obj}, s₁.heap.get? b = some o → H b = none → (hidT s₁.heap H).get? b = some o := fun e n => hidT_get e n
    have noA : ∀ {b : Addr} {o : Obj} {es : Array DictEntry} {ep : Nat}, s₁.heap.get? b = some o → o.data = .dict es ep → H b = none := fun {b o es ep} e d => by
      cases q : H b with
      | none => rfl
      | some u =>
        have e' : b = a := hA b (by rw [q]; simp)
        subst e'
        rw [ha] at e; cases e
        have d' : Data.seq vs.toArray _ = Data.dict es ep := d
        cases d'
    have nsK : ∀ {b : Addr} {m : Str → Option Value}, s₁.heap.Ns b m → (hidT s₁.heap H).Ns b m := fun {b m} ⟨o, es, ep, e, d, r⟩ => ⟨o, es, ep, base_of e (noA e d), d, r⟩
    have hKb : K.In (hidT s₁.heap H) := fun b o e => base_of (KX b o e) (by
      cases q : H b with
      | none => rfl
      | some u =>
        have e' : b = a := hA b (by rw [q]; simp)
        subst e'
        rw [hK (by rw [q]; simp)] at e; cases e)
    have hM : Mod K mg (hidT s₁.heap H) := ⟨hKb, nsK hns, ⟨mb, nsK hb, hbb⟩, let ⟨mc, h1, h2⟩ := hlim; ⟨mc, nsK h1, h2⟩⟩
    have e0 : Env0 P w K mg (hidT s₁.heap H) callerA [] s₁ H := ⟨rfl, hM, fun b o e => of_hidT e, Nat.le_of_eq (hidT_size _ _), trivial, fun b hb => absurd (show b ∈ ([] : List Addr) from hb) (by simp), hok, .of_eq hg⟩
    refine codeAny_mono ((F _ hKb (nsK hns)).run callerA [] s₁ H ⟨[.ref a], []⟩ [.ref a] [.ref a] _ _ hr e0 (hbind s₁ (.ref a)) (.cons rfl .nil) (hsp H hO hS)) fun r s' h => ?_
    cases r with
    | error e => exact (hCX H e s' h).elim
    | ok fl =>
      cases fl with
      | next => exact False.elim h
      | brk => exact False.elim h
      | cont => exact False.elim h
      | ret u =>
        obtain ⟨v, H', os, bare, un, hok', r', q⟩ := h
        have q' : v = .bl true := q
        subst q'
        obtain rfl : u = Value.bool true := r'
        refine ⟨rfl, OldK.of_keep fun b o e => ?_, os, bare⟩
        cases q : H b with
        | none => exact un.keep b o e q (by intro z; exact absurd (show b ∈ ([] : List Addr) from z) (by simp)) (by simp)
        | some u =>
          rcases hO b with z | ⟨ob, xs, z⟩
          · rw [q] at z; cases z
          · have z2 := un.frzs b ob _ z
            obtain ⟨e1, _⟩ := hok b _ z
            obtain ⟨e2, _⟩ := hok' b _ z2
            rw [e] at e1; cases e1
            exact e2
  cases hk : K.lookup a with
  | some o =>
    -- the script is one of the module's own objects
    have e := KX a o hk
    rw [ha] at e
    cases e
    refine core (fun _ => none) (fun _ => .inl rfl) (.inr ⟨_, vs.toArray, _, hk, rfl, rfl, rfl, by rw [List.size_toArray, lenV]; exact hl, by simpa using rv⟩) (fun b u z => by have z' : (none : Option HO) = some u := z; cases z') (fun b z => absurd rfl z) fun z => absurd rfl z
  | none =>
    refine core (fun b => if b = a then some (.frz { cls := .type "list", data := .seq vs.toArray } (.lst (ns.map V.int))) else none) (fun b => ?_) (.inl (.inr ⟨{ cls := .type "list", data := .seq vs.toArray }, if_pos rfl⟩)) (fun b u z => ?_) (fun b z => ?_) fun _ => hk
    · by_cases hb : b = a
      · exact .inr ⟨_, _, if_pos hb⟩
      · exact .inl (if_neg hb)
    · by_cases hb : b = a
      · have z' := (if_pos hb).symm.trans z
        cases z'
        subst hb
        exact ⟨ha, by rw [List.length_map]; exact hl, vs, _, rv, ha⟩
      · have z' := (if_neg hb).symm.trans z
        cases z'
    · by_cases hb : b = a
      · exact hb
      · exact absurd (if_neg hb) z
end L2
namespace L2
open PySem PySem.Spec PyProof.Rows
abbrev KOf {K : PySem.W.Frag} {h : Heap} (_ : K.In h) : PySem.W.Frag := K
/-- the goal that k_head leaves (case hc), from the law's promise. F gives the function object fd (K's own) once, then the promise over every base -/
theorem walk_of {l : PySem.W.OpenLaw} {n k : Nat} {q : Program} {loose : List Str} {XP : (Str → Option Value) → Heap → Prop} {YP : World → Heap → Prop} {d : DefRec} {K : Params → PySem.W.Frag} {CX : World → CXT} {sp : World → Sp} {x : Str}
    (hn : l.most = some n) (hn2 : n ≤ sizeLine) (hdf : d.params.defaults = []) (hr : Room k callerA)
    (hY : ∀ (w : World) (h : Heap), YP w h → (K w.params).In h)
    (F : ∀ (w : World) (mg : Str → Option Value) (fa : Addr) (h : Heap), (K w.params).In h → h.Ns mainGlobals mg → mg d.name = some (.ref fa) →
      ∃ fd : FuncData, (∀ (s : Shared) (u : Value), BindsTo s fd ⟨[u], []⟩ [(x, u)]) ∧
        ∀ base : Heap, (K w.params).In base → base.Ns mainGlobals mg → FnOk l.prog w (K w.params) mg base (CX w) k fa fd [x] (sp w))
    (hsp : ∀ (w : World) (H : Hp) (a : Addr) (ns : List Int), ns.length ≤ n → Only H → SqL (K w.params) H a (ns.map V.int) → sp w [.ref a] H (fun v _ => v = .bl true) fun _ _ _ => False)
    (hCX : ∀ (w : World) (H : Hp) (s : Shared) (e : Value) (s' : Shared), CX w [] H s (fun _ _ _ => False) e s' → False) :
    PySem.W.WalkO q loose XP YP l.row.toRowW d [] (fun f vs => PySem.call f vs) := by
  refine Att.attach_call hn hdf fun w s₀ s₁ mg mb fa o pm cd doc a vs ns G Y ho hd hcd hmg hobj hints hlen hg => ?_
  have KX := hY w _ Y
  obtain ⟨fd, hb, hF⟩ := F w mg fa _ KX G.T.g hmg
  exact law_call KX G.T.g G.T.b G.T.builtins G.T.nolimit hg hobj hints (Nat.le_trans hlen hn2) hr hF hb (fun H hO hS => hsp w H a ns hlen hO hS) fun H e s' => hCX w H s₁ e s'
end L2
/- THE LAST THEOREM (shape; LID, My.* are yours):
   My.Adr: a structure of the addresses that your layer names (classes, functions); My.Txt K t: a structure (Prop) of the equations over K;
   My.txt_mk : {K} {implicit addresses ..} (e1 : nsIn K mainGlobals "law" = some (some (.ref f))) (e2 : K.lookup f = some ⟨oc, od, .func (fnOf "law" "law" params body scope dV kV doc pm an cdv ct), sl⟩) (e3 : codeIn K cdv "law" = true) .. : ∃ t, My.Txt K t
set_option maxRecDepth 100000 in
set_option maxHeartbeats 0 in
theorem PySem.Challenge.cw_LID_holds : PySem.Challenge.rw_LID.Holds := by
  w_on; o_law; k_head; (case hw => w_witness2)
  k_fill
  refine L2.walk_of (l := PySem.Challenge.rw_LID) (n := 63) (k := 40) (x := "script") (CX := fun w => ..) (sp := fun _ => My.sp_law) rfl (by decide) rfl ⟨rfl, by decide, by decide⟩ (fun w h Y => PySem.W.kIn_of Y) ?F ?S ?C
  case F =>
    intro w mg fa h KX G hmg
    have T : ∃ t, My.Txt (L2.KOf KX) t := by
      dsimp only [L2.KOf]                          -- K must stand as «<heap const> w.params» for k_is
      refine' My.txt_mk ?e1 ?e2 ?e3 ..
      (case e1 => PySem.W.k_is)                    -- in the order: a name -> its address -> its object -> its parts
      (case e2 => PySem.W.k_is)
      ..
    obtain ⟨t, T⟩ := T
    have e0 := hmg.symm.trans (PySem.W.mg_of KX G T.law)
    cases e0                                       -- fa is the law's own address
    exact ⟨_, fun s u => .of_eq rfl, fun base kb nb => My.law_fn T kb nb⟩     -- if «.of_eq rfl» comes too early: refine' ⟨_, ?b, fun base kb nb => My.law_fn T kb nb⟩; exact fun s u => .of_eq rfl
  case S => exact fun w H a ns hl hO hS => ..
  case C => exact ..
(the tactic k_is has no namespace: write k_is) -/
/-! SHORT WORDS over the layer: a def of the text, its body, what a loop and a test want. -/
namespace L2
open PySem PySem.Spec PyProof.Rows
/-! ### the text by places -/
/-- the j-th statement of a class's body -/
def inClass (s : Stmt) (j : Nat) : Stmt := match s with
  | .ClassDef _ _ _ body _ _ _ _ _ _ _ => body.getD j (.Pass ⟨0, 0, 0, 0⟩)
  | _ => .Pass ⟨0, 0, 0, 0⟩
def defArgs (s : Stmt) : Arguments := match s with
  | .FunctionDef _ a _ _ _ _ _ _ _ _ => a
  | _ => { posonlyargs := [], args := [], vararg := none, kwonlyargs := [], kw_defaults := [], kwarg := none, defaults := [] }
def defBody (s : Stmt) : List Stmt := match s with
  | .FunctionDef _ _ b _ _ _ _ _ _ _ => b
  | _ => []
def defScope (s : Stmt) : Scope := match s with
  | .FunctionDef _ _ _ _ _ _ sc _ _ _ => sc
  | _ => { kind := .function, names := [], isGenerator := false, isCoroutine := false }
/-! ### no exception leaves a def -/
abbrev CX0 : CXT := fun _ _ _ _ _ _ => False
abbrev E0 : XK := fun _ _ _ => False
theorem pass0 {X : Cx} : Passes CX0 X E0 := fun _ _ _ _ _ _ _ h => h.elim
/-! ### a def (or method) of the text as it stands behind the top -/
structure Fun (K : PySem.W.Frag) (x qual : Str) (st : Stmt) (f : Addr) (fd : FuncData) : Prop where
  ex : ∃ (oc : Value) (od : Option Addr) (kV doc pm : Value) (an : Option Addr) (cdv ct : Value) (osl : Array (Option Value)),
    fd = PySem.W.fnOf x qual (defArgs st) (defBody st) (defScope st) .none kV doc pm an cdv ct ∧ K.lookup f = some ⟨oc, od, .func fd, osl⟩ ∧ PySem.W.codeIn K cdv qual = true
  kp : PySem.W.keepIn K (.ref f) = true
section
variable {P : Program} {w : World} {K : PySem.W.Frag} {mg : Str → Option Value} {base : Heap}
/-- THE RULE for a def: its body as a term of rules, and the reading of that term -/
theorem Fun.ok {x qual : Str} {st : Stmt} {f : Addr} {fd : FuncData} {N ps : List Str} {k : Nat} {sp : Sp} (F : Fun K x qual st f fd) (S : FnScope N ps (defScope st)) (len : ∀ vs H Q E, sp vs H Q E → vs.length = ps.length)
    (hbody : ∀ (cdv : Value) (A : Around) (outer : List Env) (s : Shared) (H : Hp) (vs : List V) (Q : VK) (E : XK), Room k (A.deeper (envOfC qual (defScope st) s.heap.objs.size f cdv)) → sp vs H Q E →
      ∃ t, PSs (cxOf CX0 P w K mg base N qual (defScope st) f cdv A outer s H E).nox (defBody st) t ∧ t { nx := fun _ H' => Q .non H', rt := Q } (start N vs) H) : FnOk P w K mg base CX0 (k + 1) f fd ps sp := by
  obtain ⟨oc, od, kV, doc, pm, an, cdv, ct, osl, rfl, lk, hcd⟩ := F.ex
  refine fn_of lk hcd S len fun A outer s H vs Q E hr hsp => ?_
  obtain ⟨t, h, q⟩ := hbody cdv A outer s H vs Q E hr hsp
  exact ⟨t, h.nox, q⟩
/-- how its arguments bind (no defaults): h is «fun _ _ _ _ _ _ us hl => match us, hl with | [_, _], _ => rfl», one _ a parameter -/
theorem Fun.binds {x qual : Str} {st : Stmt} {f : Addr} {fd : FuncData} {ps : List Str} (F : Fun K x qual st f fd)
    (h : ∀ (kV doc pm : Value) (an : Option Addr) (cdv ct : Value) (us : List Value), us.length = ps.length → bindArgs (PySem.W.fnOf x qual (defArgs st) (defBody st) (defScope st) .none kV doc pm an cdv ct) ⟨us, []⟩ = pure (ps.zip us)) : Binds K fd ps [] := by
  obtain ⟨oc, od, kV, doc, pm, an, cdv, ct, osl, rfl, lk, hcd⟩ := F.ex
  exact .all (h kV doc pm an cdv ct)
theorem fun_mk {x qual : Str} {st : Stmt} {f : Addr} {oc : Value} {od an : Option Addr} {osl : Array (Option Value)} {kV doc pm cdv ct : Value} (l : K.lookup f = some ⟨oc, od, .func (PySem.W.fnOf x qual (defArgs st) (defBody st) (defScope st) .none kV doc pm an cdv ct), osl⟩)
    (c : PySem.W.codeIn K cdv qual = true) (k : PySem.W.keepIn K (.ref f) = true) : Fun K x qual st f (PySem.W.fnOf x qual (defArgs st) (defBody st) (defScope st) .none kV doc pm an cdv ct) := ⟨⟨oc, od, kV, doc, pm, an, cdv, ct, osl, rfl, l, c⟩, k⟩
end
theorem small1000 {n : Nat} (h : n ≤ 1000) : n < sizeLine := Nat.lt_of_le_of_lt h (by decide)
/-! ### expressions in short: the name that stands in the i-th slot -/
section
variable {X : Cx}
theorem pv (i : Nat) {x : Str} {pos : Pos} (hN : X.N[i]? = some x := by rfl) (hv : Vis X.env.scope x := by first | exact Or.inl rfl | exact Or.inr (Or.inl rfl) | exact Or.inr (Or.inr rfl)) (hd : (x == ("__debug__" : Str)) = false := by decide)
    (hcd : (x == ("__classdict__" : Str)) = false := by decide) : PE X (.Name x pos) (tVar i) := pe_var hN hv hd hcd
end
/-! ### tests -/
theorem iteF {A B : Prop} (h : B) : if false = true then A else B := by
  rw [if_neg Bool.false_ne_true]
  exact h
theorem iteT {A B : Prop} (h : A) : if true = true then A else B := by
  rw [if_pos rfl]
  exact h
theorem ite2 {c A B : Prop} [Decidable c] (h1 : c → A) (h2 : ¬ c → B) : if c then A else B := by
  by_cases h : c
  · rw [if_pos h]
    exact h1 h
  · rw [if_neg h]
    exact h2 h
/-! ### heaps -/
/-- all that was tracked is as it was -/
def Same (H H' : Hp) : Prop := ∀ b o, H b = some o → H' b = some o
theorem Same.refl (H : Hp) : Same H H := fun _ _ h => h
theorem Same.trans {H H1 H2 : Hp} (a : Same H H1) (b : Same H1 H2) : Same H H2 := fun c o h => b c o (a c o h)
theorem Same.free {H H' : Hp} (e : Same H H') {l : Addr} (h : H' l = Option.none) : H l = Option.none := by
  cases q : H l with
  | none => rfl
  | some o =>
    rw [e l o q] at h
    cases h
theorem Same.seq {K : PySem.W.Frag} {H H' : Hp} {a : Addr} {xs : List V} (e : Same H H') (h : SqL K H a xs) : SqL K H' a xs := by
  rcases h with (h | ⟨o, h⟩) | h
  · exact .inl (.inl (e _ _ h))
  · exact .inl (.inr ⟨o, e _ _ h⟩)
  · exact .inr h
end L2
set_option maxHeartbeats 4000000
namespace L2
open PySem PySem.Spec PyProof.Rows
/-! ### lists of pairs as tables -/
section
variable {κ : Type} [DecidableEq κ]
def valV (kvs : List (κ × V)) (k : κ) : Option V := (kvs.find? fun kv => decide (kv.1 = k)).map (·.2)
/-- in its place, or at the end -/
def putK (kvs : List (κ × V)) (k : κ) (v : V) : List (κ × V) :=
  if (kvs.any fun kv => decide (kv.1 = k)) = true then kvs.map (fun kv => if kv.1 = k then (kv.1, v) else kv) else kvs ++ [(k, v)]
def dropK (kvs : List (κ × V)) (k : κ) : List (κ × V) := kvs.filter fun kv => decide (kv.1 ≠ k)
theorem valV_pos {p : κ × V} {r : List (κ × V)} {k : κ} (e : p.1 = k) : valV (p :: r) k = some p.2 := by simp [valV, List.find?_cons, e]
theorem valV_neg {p : κ × V} {r : List (κ × V)} {k : κ} (e : ¬ p.1 = k) : valV (p :: r) k = valV r k := by simp [valV, List.find?_cons, e]
theorem valV_any (k : κ) : ∀ kvs : List (κ × V), (kvs.any fun kv => decide (kv.1 = k)) = (valV kvs k).isSome
  | [] => rfl
  | p :: r => by
    rw [List.any_cons]
    by_cases e : p.1 = k
    · simp only [valV_pos e, decide_eq_true e, Bool.true_or, Option.isSome_some]
    · rw [valV_neg e, decide_eq_false e, Bool.false_or]; exact valV_any k r
theorem RelO.isSome_eq {o : Option V} {u : Option Value} (r : RelO o u) : o.isSome = u.isSome := by
  cases o with
  | none => cases u with
    | none => rfl
    | some _ => exact (show False from r).elim
  | some _ => cases u with
    | none => exact (show False from r).elim
    | some _ => rfl
theorem RelO.getD {o : Option V} {u : Option Value} {d : V} {d' : Value} (r : RelO o u) (rd : RelV d d') : RelV (o.getD d) (u.getD d') := by
  cases o with
  | none => cases u with
    | none => exact rd
    | some _ => exact (show False from r).elim
  | some _ => cases u with
    | none => exact (show False from r).elim
    | some _ => exact r
/-- raw tables of the same keys -/
theorem KV.val {kvs : List (κ × V)} {vs : List (κ × Value)} (r : KV kvs vs) (k : κ) : RelO (valV kvs k) (valueAt vs k) := by
  unfold KV at r
  induction r with
  | nil => exact True.intro
  | @cons p q ps qs h t ih =>
    obtain ⟨h1, h2⟩ := h
    by_cases e : p.1 = k
    · have e' : q.1 = k := h1.symm.trans e
      have b : valueAt (q :: qs) k = some q.2 := by simp [valueAt, List.find?_cons, e']
      rw [valV_pos e, b]; exact h2
    · have e' : ¬ q.1 = k := fun z => e (h1.trans z)
      have b : valueAt (q :: qs) k = valueAt qs k := by simp [valueAt, List.find?_cons, e']
      rw [valV_neg e, b]; exact ih
theorem KV.any {kvs : List (κ × V)} {vs : List (κ × Value)} (r : KV kvs vs) (k : κ) : (kvs.any fun kv => decide (kv.1 = k)) = vs.any fun kv => decide (kv.1 = k) := by
  unfold KV at r
  induction r with
  | nil => rfl
  | cons h t ih => rw [List.any_cons, List.any_cons, ih, h.1]
theorem KV.repl {kvs : List (κ × V)} {vs : List (κ × Value)} (r : KV kvs vs) (k : κ) {y : V} {u : Value} (ry : RelV y u) :
    KV (kvs.map fun kv => if kv.1 = k then (kv.1, y) else kv) (vs.map fun kv => if kv.1 = k then (kv.1, u) else kv) := by
  unfold KV at r ⊢
  induction r with
  | nil => exact .nil
  | @cons p q ps qs h t ih =>
    rw [List.map_cons, List.map_cons]
    refine .cons ?_ ih
    obtain ⟨h1, h2⟩ := h
    by_cases e : p.1 = k
    · rw [if_pos e, if_pos (h1.symm.trans e)]; exact ⟨h1, ry⟩
    · rw [if_neg e, if_neg (fun z => e (h1.trans z))]; exact ⟨h1, h2⟩
theorem KV.put {kvs : List (κ × V)} {vs : List (κ × Value)} (r : KV kvs vs) (k : κ) {y : V} {u : Value} (ry : RelV y u) : KV (putK kvs k y) (stored vs k u) := by
  unfold putK stored
  rw [r.any k]
  by_cases e : (vs.any fun kv => decide (kv.1 = k)) = true
  · rw [if_pos e, if_pos e]; exact r.repl k ry
  · rw [if_neg e, if_neg e]; exact Paired.snoc r ⟨rfl, ry⟩
theorem KV.drop {kvs : List (κ × V)} {vs : List (κ × Value)} (r : KV kvs vs) (k : κ) : KV (dropK kvs k) (without vs k) := by
  unfold KV at r ⊢
  unfold dropK without
  induction r with
  | nil => exact .nil
  | @cons p q ps qs h t ih =>
    obtain ⟨h1, h2⟩ := h
    rw [List.filter_cons, List.filter_cons]
    by_cases e : p.1 = k
    · have a : ¬ decide (p.1 ≠ k) = true := by simp [e]
      have b : ¬ decide (q.1 ≠ k) = true := by simp [h1.symm.trans e]
      rw [if_neg a, if_neg b]; exact ih
    · have e' : ¬ q.1 = k := fun z => e (h1.trans z)
      have a : decide (p.1 ≠ k) = true := by simp [e]
      have b : decide (q.1 ≠ k) = true := by simp [e']
      rw [if_pos a, if_pos b]; exact .cons ⟨h1, h2⟩ ih
theorem KV.keys {kvs : List (κ × V)} {vs : List (κ × Value)} (r : KV kvs vs) : kvs.map (·.1) = vs.map (·.1) := by
  unfold KV at r
  induction r with
  | nil => rfl
  | cons h t ih => rw [List.map_cons, List.map_cons, ih, h.1]
theorem KV.length {kvs : List (κ × V)} {vs : List (κ × Value)} (r : KV kvs vs) : kvs.length = vs.length := Paired.length r
end
/-! ### a tracked dict, its keys ints and texts or tuples of these -/
/-- raw entries of a dict with tuple keys -/
abbrev KT (H : Hp) : List (List Key × V) → List (List Key × Addr × Value) → Prop := Paired fun p q => p.1 = q.1 ∧ H q.2.1 = some (.tup (p.1.map kV)) ∧ RelV p.2 q.2.2
theorem KT.val {H : Hp} {kvs : List (List Key × V)} {xs : List (List Key × Addr × Value)} (r : KT H kvs xs) (k : List Key) : RelO (valV kvs k) ((atKey xs k).map (·.2)) := by
  induction r with
  | nil => exact True.intro
  | @cons p q ps qs h t ih =>
    obtain ⟨h1, _, h2⟩ := h
    by_cases e : p.1 = k
    · have e' : q.1 = k := h1.symm.trans e
      have b : atKey (q :: qs) k = some q.2 := by simp [atKey, List.find?_cons, e']
      rw [valV_pos e, b]; exact h2
    · have e' : ¬ q.1 = k := fun z => e (h1.trans z)
      have b : atKey (q :: qs) k = atKey qs k := by simp [atKey, List.find?_cons, e']
      rw [valV_neg e, b]; exact ih
theorem KT.repl {H : Hp} {kvs : List (List Key × V)} {xs : List (List Key × Addr × Value)} (r : KT H kvs xs) (k : List Key) {y : V} {u : Value} (ry : RelV y u) :
    KT H (kvs.map fun kv => if kv.1 = k then (kv.1, y) else kv) (xs.map (putAt k u)) := by
  induction r with
  | nil => exact .nil
  | @cons p q ps qs h t ih =>
    rw [List.map_cons, List.map_cons]
    refine .cons ?_ ih
    obtain ⟨h1, h2, h3⟩ := h
    unfold putAt
    by_cases e : p.1 = k
    · rw [if_pos e, if_pos (h1.symm.trans e)]; exact ⟨h1, h2, ry⟩
    · rw [if_neg e, if_neg (fun z => e (h1.trans z))]; exact ⟨h1, h2, h3⟩
theorem KT.put {H : Hp} {kvs : List (List Key × V)} {xs : List (List Key × Addr × Value)} (r : KT H kvs xs) (k : List Key) {b : Addr} {y : V} {u : Value} (hb : H b = some (.tup (k.map kV))) (ry : RelV y u) :
    KT H (putK kvs k y) (storedH xs k b u) := by
  have e : (kvs.any fun kv => decide (kv.1 = k)) = (atKey xs k).isSome := by
    rw [valV_any, (r.val k).isSome_eq, Option.isSome_map]
  unfold putK storedH
  rw [e]
  by_cases q : (atKey xs k).isSome = true
  · rw [if_pos q, if_pos q]; exact r.repl k ry
  · rw [if_neg q, if_neg q]; exact Paired.snoc r ⟨rfl, hb, ry⟩
theorem KT.keeps {H H' : Hp} {kvs : List (List Key × V)} {xs : List (List Key × Addr × Value)} (r : KT H kvs xs) (ht : ∀ b ys, H b = some (.tup ys) → H' b = some (.tup ys)) : KT H' kvs xs :=
  Paired.mapP r fun _ _ z => ⟨z.1, ht _ _ z.2.1, z.2.2⟩
section
variable {P : Program} {w : World} {H : Hp} {h : Heap} {a : Addr}
end
/-- what the dict at a holds at the key y -/
def DGet (H : Hp) (a : Addr) (y : V) (r : Option V) : Prop :=
  (∃ kvs k, Rd H a (.dK kvs) ∧ y = kV k ∧ r = valV kvs k) ∨ ∃ kvs k b, Rd H a (.dT kvs) ∧ y = .ref b ∧ H b = some (.tup (k.map kV)) ∧ r = valV kvs k
/-- the heap behind a[y] = v -/
def DPut (H : Hp) (a : Addr) (y v : V) (H' : Hp) : Prop :=
  (∃ kvs k, H a = some (.dK kvs) ∧ y = kV k ∧ kvs.length < sizeLine ∧ H' = upd H a (.dK (putK kvs k v))) ∨
  ∃ kvs k b, H a = some (.dT kvs) ∧ y = .ref b ∧ H b = some (.tup (k.map kV)) ∧ kvs.length < sizeLine ∧ H' = upd H a (.dT (putK kvs k v))
theorem DGet.k {H : Hp} {a : Addr} {kvs : List (Key × V)} {k : Key} (e : H a = some (.dK kvs)) : DGet H a (kV k) (valV kvs k) := .inl ⟨kvs, k, .inl e, rfl, rfl⟩
theorem DGet.t {H : Hp} {a b : Addr} {kvs : List (List Key × V)} {k : List Key} (e : H a = some (.dT kvs)) (eb : H b = some (.tup (k.map kV))) : DGet H a (.ref b) (valV kvs k) := .inr ⟨kvs, k, b, .inl e, rfl, eb, rfl⟩
theorem DPut.k {H : Hp} {a : Addr} {kvs : List (Key × V)} {k : Key} {v : V} (e : H a = some (.dK kvs)) (hl : kvs.length < sizeLine) : DPut H a (kV k) v (upd H a (.dK (putK kvs k v))) := .inl ⟨kvs, k, e, rfl, hl, rfl⟩
theorem DPut.t {H : Hp} {a b : Addr} {kvs : List (List Key × V)} {k : List Key} {v : V} (e : H a = some (.dT kvs)) (eb : H b = some (.tup (k.map kV))) (hl : kvs.length < sizeLine) :
    DPut H a (.ref b) v (upd H a (.dT (putK kvs k v))) := .inr ⟨kvs, k, b, e, rfl, eb, hl, rfl⟩
section
variable {X : Cx} {pins : List (Addr × Obj)} {σ : St} {H : Hp} {s : Shared} {a : Addr} {y v : V} {u r : Value} {o : Option V} {A : Around} {E : Value → Shared → Prop}
theorem Inv.big (I : Inv X pins σ H s) : sysModules < s.heap.objs.size := by
  have h : mainGlobals < s.heap.objs.size := (I.mod.glob.keeps I.bk).lt
  exact Nat.lt_trans (by decide) h
end
section
variable {X : Cx} {pins : List (Addr × Obj)} {σ : St} {H : Hp} {s : Shared} {a : Addr} {kvs : List (Key × V)} {k : Key} {u : Value} {A : Around} {E : Value → Shared → Prop}
end
/-! ### readings and rules -/
section
variable {X : Cx} {o i e value : Expr} {pos pos' tpos : Pos} {td ty tv : TE}
end
/-! ### displays -/
section
variable {X : Cx} {pos : Pos}
end
/-! ### methods -/
/-- a method call o.m(e) of a built-in, with one argument: what must be seen of the text -/
structure M1 (X : Cx) (o : Expr) (m : Str) (apos : Pos) (e : Expr) (cpos : Pos) : Prop where
  base : attributeBase o m X.env (eval o X.env) = eval o X.env
  few : ((backTo cpos (starEach [e] X.env)).all (fun x => !x.1) && (backToKw cpos (keywordEach [] X.env)).all (fun x => x.1.isSome)
    && decide (([e] : List Expr).length + ([] : List Keyword).length + (if ([] : List Keyword).isEmpty then 0 else 1) < 30)) = true
  line : (apos.endLine == cpos.line) = true
  trees : backTo cpos (starEach [e] X.env) = [(false, eval e X.env)]
structure M2 (X : Cx) (o : Expr) (m : Str) (apos : Pos) (e f : Expr) (cpos : Pos) : Prop where
  base : attributeBase o m X.env (eval o X.env) = eval o X.env
  few : ((backTo cpos (starEach [e, f] X.env)).all (fun x => !x.1) && (backToKw cpos (keywordEach [] X.env)).all (fun x => x.1.isSome)
    && decide (([e, f] : List Expr).length + ([] : List Keyword).length + (if ([] : List Keyword).isEmpty then 0 else 1) < 30)) = true
  line : (apos.endLine == cpos.line) = true
  trees : backTo cpos (starEach [e, f] X.env) = [(false, eval e X.env), (false, eval f X.env)]
section
variable {X : Cx} {pins : List (Addr × Obj)} {σ : St} {H : Hp} {s : Shared} {a : Addr} {y d : V} {u r : Value} {o : Option V} {A : Around} {E : Value → Shared → Prop}
end
section
variable {X : Cx} {o e f : Expr} {apos cpos : Pos} {td ty tx : TE}
end
/-! ### dict(d): a copy -/
section
variable {X : Cx} {pins : List (Addr × Obj)} {σ : St} {H : Hp} {s : Shared} {a : Addr} {kvs : List (Key × V)} {A : Around} {E : Value → Shared → Prop}
end
section
variable {X : Cx} {pins : List (Addr × Obj)} {σ : St} {H : Hp} {s : Shared} {a : Addr} {y : V} {u : Value} {A : Around} {E : Value → Shared → Prop}
end
end L2
namespace L2
open PySem PySem.Spec PyProof.Rows
/-! ### V1. records of ours have turned; what is tracked is kept, perhaps one thing more -/
section
variable {P : Program} {w : World} {H : Hp} {h h' : Heap} {p : Addr} {o : HO} {ch : List Addr}
theorem HOk.keptBut (x : HOk P w H h) (k : ∀ b u, b ∉ ch → h.get? b = some u → h'.get? b = some u) (hn : ∀ b ∈ ch, H b = none) : HOk P w H h' := fun b u e =>
  (x b u e).stay (fun c v hc q => k c v (fun hm => by
    rcases hc with z | z
    · rw [z] at hm; rw [hn _ hm] at e; cases e
    · rw [hn c hm] at z; cases z) q) (fun _ q => q) fun _ _ q => q
theorem HOk.laidBut (x : HOk P w H h) (k : ∀ b u, b ∉ ch → h.get? b = some u → h'.get? b = some u) (hn : ∀ b ∈ ch, H b = none) (hp : h.objs.size ≤ p) (new : ObjOk P w (upd H p o) h' p o) : HOk P w (upd H p o) h' := fun b u e => by
  have hnp := x.fresh hp
  by_cases hb : b = p
  · subst hb; rw [upd_same] at e; cases e; exact new
  · rw [upd_ne hb] at e
    refine (x b u e).stay (fun c v hc q => k c v (fun hm => ?_) q) (fun c q => by rw [upd_ne (ne_of_none q hnp)]; exact q) fun c xs q => by rw [upd_ne (ne_of_none q hnp)]; exact q
    rcases hc with z | z
    · rw [z] at hm; rw [hn _ hm] at e; cases e
    · rw [hn c hm] at z; cases z
end
section
variable {X : Cx} {pins : List (Addr × Obj)} {σ : St} {H H' : Hp} {s : Shared} {h' : Heap}
theorem Inv.turnedL {t' : Nat} {ch : List Addr} (I : Inv X pins σ H s) (hf : ∀ b ∈ ch, FpOk X pins H b) (k : ∀ b u, b ∉ ch → s.heap.get? b = some u → h'.get? b = some u)
    (hH : ∀ b u, H b = some u → H' b = some u) (hfree : ∀ b u, s.heap.get? b = some u → H b = none → H' b = none) (hok : HOk X.prog X.w H' h') : Inv X pins σ H' { s with heap := h', toks := t' } := by
  refine I.step (g' := s.gens) (d' := s.drawn) (ch := ch) (fun b hb => ?_) (fun b u _ _ hc e _ => k b u hc e) (fun b u _ _ hc e _ => ⟨u.slots, k b u hc e⟩) (fun b u _ e n => hfree b u e n)
    (fun b u hc e => ⟨u, k b u hc e⟩) (fun b xs e => hH _ _ e) (fun b u v e => hH _ _ e) (fun b ps e => ⟨#[], by rw [hH _ _ e]; simp⟩) (fun m hm => ?_) hok I.bare
  · obtain ⟨f0, f1, f2, f3, f4, f5⟩ := hf b hb
    exact ⟨f3, f1, f4, f5⟩
  · obtain ⟨u, es, ep, ho, r⟩ := hm
    exact ⟨u, es, ep, k _ u (fun z => (hf _ z).2.1 rfl) ho, r⟩
theorem Inv.turnedK {t' : Nat} {ch : List Addr} (I : Inv X pins σ H s) (hf : ∀ b ∈ ch, FpOk X pins H b) (k : ∀ b u, b ∉ ch → s.heap.get? b = some u → h'.get? b = some u) : Inv X pins σ H { s with heap := h', toks := t' } :=
  I.turnedL hf k (fun _ _ e => e) (fun _ _ _ e => e) (I.hok.keptBut k fun b hb => (hf b hb).1)
theorem Inv.turnedN {t' : Nat} {ch : List Addr} {p : Addr} {o : HO} (I : Inv X pins σ H s) (hf : ∀ b ∈ ch, FpOk X pins H b) (k : ∀ b u, b ∉ ch → s.heap.get? b = some u → h'.get? b = some u)
    (hp : s.heap.objs.size ≤ p) (new : ObjOk X.prog X.w (upd H p o) h' p o) : Inv X pins σ (upd H p o) { s with heap := h', toks := t' } :=
  I.turnedL hf k (fun b u e => by rw [upd_ne (ne_of_none e (I.hok.fresh hp))]; exact e)
    (fun b u e n => by rw [upd_ne (Nat.ne_of_lt (Nat.lt_of_lt_of_le (Heap.lt_size e) hp))]; exact n) (I.hok.laidBut k (fun b hb => (hf b hb).1) hp new)
end
/-! ### V2. reversed(a list) -/
section
variable {X : Cx} {tg : Expr}
theorem fpNew {pins : List (Addr × Obj)} {σ : St} {H H' : Hp} {s : Shared} (I : Inv X pins σ H s) (hH : ∀ b, s.heap.objs.size ≤ b → H' b = none) {fp : List Addr} (h : ∀ b ∈ fp, s.heap.objs.size ≤ b) : ∀ b ∈ fp, FpOk X pins H' b :=
  fun b hb => I.fpOk (h b hb) (hH b (h b hb))
end
/-! ### V3. zip of two lists, where the target is a tuple: each turn a new pair -/
def Itz (K : PySem.W.Frag) (a b : Addr) : It :=
  ⟨fun i H => ∃ xs ys x y, SqL K H a xs ∧ SqL K H b ys ∧ xs[i]? = some x ∧ ys[i]? = some y,
   fun i H v H' => ∃ p, H p = none ∧ v = .ref p ∧ ∀ xs ys x y, SqL K H a xs → SqL K H b ys → xs[i]? = some x → ys[i]? = some y → H' = upd H p (.tup [x, y]),
   fun i H => ∃ xs ys, SqL K H a xs ∧ SqL K H b ys ∧ (xs.length ≤ i ∨ ys.length ≤ i)⟩
section
variable {X : Cx} {pins : List (Addr × Obj)} {σ : St} {H : Hp} {s : Shared}
/-- an untracked record is not a list that can be read -/
theorem Inv.list_apart (I : Inv X pins σ H s) {a b : Addr} {xs : List V} (h : SqL X.K H a xs) {o : Obj} (e : s.heap.get? b = some o) (hc : o.cls ≠ .type "list") : a ≠ b := by
  intro z
  obtain ⟨its, rv, p, hz⟩ := I.list h
  obtain ⟨o', e', c', _⟩ := p.isList
  rw [z, e] at e'
  cases e'
  exact hc c'
end
theorem turn_zip {P : Program} {w : World} {K : PySem.W.Frag} {elts : List Expr} {k1 : Nat} {tp : Pos} (a b z TI TO i1 i2 : Addr)
    (d1 : TI ≠ z) (d2 : TO ≠ z) (d3 : i1 ≠ z) (d4 : i2 ≠ z) (d5 : TI ≠ TO) (d6 : TI ≠ i1) (d7 : TI ≠ i2) (d8 : TO ≠ i1) (d9 : TO ≠ i2) (d10 : i1 ≠ i2) :
    Turn P w K (.Tuple elts k1 tp) (Itz K a b) [z, TI, TO, i1, i2] z (fun i h => IsZip h z TI TO .none ∧ IsPair h TI (.ref i1) (.ref i2) ∧ (∃ u v, IsPair h TO u v) ∧ h.IsListIter i1 a i ∧ h.IsListIter i2 b i) where
  mem := by simp
  obj := fun i h st c hb => by
    obtain ⟨s1, s2, ⟨u, v, s3⟩, ⟨o4, s4, _, t4⟩, ⟨o5, s5, _, t5⟩⟩ := st
    simp only [List.mem_cons, List.not_mem_nil, or_false] at hb
    rcases hb with rfl | rfl | rfl | rfl | rfl
    · exact ⟨_, s1, fun v z => by cases z⟩
    · exact ⟨_, s2, fun v z => by cases z⟩
    · exact ⟨_, s3, fun v z => by cases z⟩
    · exact ⟨_, s4, fun v z => by rw [t4] at z; cases z⟩
    · exact ⟨_, s5, fun v z => by rw [t5] at z; cases z⟩
  keep := fun i h h' st k => by
    obtain ⟨s1, s2, ⟨u, v, s3⟩, s4, s5⟩ := st
    exact ⟨k z (by simp) _ s1, k TI (by simp) _ s2, ⟨u, v, k TO (by simp) _ s3⟩, s4.at fun o e => k i1 (by simp) o e, s5.at fun o e => k i2 (by simp) o e⟩
  item := by
    intro X hP hw hK hc i pins s σ H E I hf st hg
    subst hP hw hK
    obtain ⟨xs, ys, x, y, hqa, hqb, hx, hy⟩ := hg
    obtain ⟨s1, s2, ⟨u, v, s3⟩, s4, s5⟩ := st
    obtain ⟨its1, rv1, p1, z1⟩ := I.list hqa
    obtain ⟨its2, rv2, p2, z2⟩ := I.list hqb
    obtain ⟨u1, hu1, ru1⟩ := rv1.get hx
    obtain ⟨u2, hu2, ru2⟩ := rv2.get hy
    have e4 := s4
    have e5 := s5
    obtain ⟨o4, q4, c4, _⟩ := e4
    obtain ⟨o5, q5, c5, _⟩ := e5
    have n4 : o4.cls ≠ .type "list" := by rw [c4]; decide
    have n5 : o5.cls ≠ .type "list" := by rw [c5]; decide
    have D : ZipApart z TI TO i1 i2 a b := ⟨d1, d2, d3, d4, d5, d6, d7, d8, d9, d10,
      I.list_apart hqa s1 (show Value.type "zip" ≠ Value.type "list" by decide), I.list_apart hqa s3 (show Value.type "tuple" ≠ Value.type "list" by decide), I.list_apart hqa q4 n4, I.list_apart hqa q5 n5,
      I.list_apart hqb s1 (show Value.type "zip" ≠ Value.type "list" by decide), I.list_apart hqb s3 (show Value.type "tuple" ≠ Value.type "list" by decide), I.list_apart hqb q4 n4, I.list_apart hqb q5 n5⟩
    refine wpAny_pyNext_zip_item D s1 s2 s3 s4 s5 p1.isList p2.isList (x := u1) (y := u2) (by simpa using hu1) (by simpa using hu2) fun h' a1 a2 a3 a4 a5 a6 a7 => ?_
    refine ⟨_, rfl, ?_⟩
    refine wpAny_letOwnedTupleGo_zip (s := { s with heap := h' }) a1 fun h2 hz2 hs2 => ?_
    have lt : ∀ {c : Addr} {o : Obj}, s.heap.get? c = some o → s.heap.objs.size ≠ c := fun e => Nat.ne_of_gt (Heap.lt_size e)
    have kk : ∀ c o, c ∉ [z, TO, i1, i2] → s.heap.get? c = some o → h2.get? c = some o := fun c o hm e => by
      simp only [List.mem_cons, List.not_mem_nil, or_false, not_or] at hm
      exact (hs2.2 c hm.1).trans (a7 c o hm.1 hm.2.1 hm.2.2.1 hm.2.2.2 e)
    have pT : h2.get? s.heap.objs.size = some { cls := .type "tuple", data := .seq #[u1, u2] } := (hs2.2 _ (lt s1)).trans a5
    have I2 : Inv X pins σ (upd H s.heap.objs.size (.tup [x, y])) { s with heap := h2 } := I.turnedN (t' := s.toks) (ch := [z, TO, i1, i2]) (p := s.heap.objs.size) (o := .tup [x, y]) (fun c hm => hf c (by
      simp only [List.mem_cons, List.not_mem_nil, or_false] at hm ⊢
      rcases hm with r | r | r | r <;> simp [r])) kk (Nat.le_refl _) ⟨(by show 2 ≤ sizeLine; decide), [u1, u2], .cons ru1 (.cons ru2 .nil), ⟨_, pT, rfl, _, rfl⟩⟩
    have fr : H s.heap.objs.size = none := I.fresh
    refine ⟨.ref s.heap.objs.size, _, I2, rfl, ⟨_, fr, rfl, fun xs' ys' x' y' q1 q2 q3 q4 => ?_⟩, ⟨hz2, ?_, ⟨_, _, (hs2.2 TO d2).trans a2⟩, a3.at fun o e => (hs2.2 i1 d3).trans e, a4.at fun o e => (hs2.2 i2 d4).trans e⟩, fun c hm => ?_⟩
    · rw [I.list_inj q1 hqa] at q3
      rw [I.list_inj q2 hqb] at q4
      rw [hx] at q3
      rw [hy] at q4
      cases q3
      cases q4
      rfl
    · exact kk TI _ (by simp only [List.mem_cons, List.not_mem_nil, or_false, not_or]; exact ⟨d1, d5, d6, d7⟩) s2
    · have hne : c ≠ s.heap.objs.size := by
        simp only [List.mem_cons, List.not_mem_nil, or_false] at hm
        rcases hm with rfl | rfl | rfl | rfl | rfl
        · exact (lt s1).symm
        · exact (lt s2).symm
        · exact (lt s3).symm
        · exact (lt q4).symm
        · exact (lt q5).symm
      rw [upd_ne hne]
      exact (hf c hm).1
  done := by
    intro X hP hw hK hc i pins s σ H E I hf st hg
    subst hP hw hK
    obtain ⟨xs, ys, hqa, hqb, hend⟩ := hg
    obtain ⟨s1, s2, ⟨u, v, s3⟩, s4, s5⟩ := st
    obtain ⟨its1, rv1, p1, z1⟩ := I.list hqa
    obtain ⟨its2, rv2, p2, z2⟩ := I.list hqb
    have e4 := s4
    have e5 := s5
    obtain ⟨o4, q4, c4, _⟩ := e4
    obtain ⟨o5, q5, c5, _⟩ := e5
    have n4 : o4.cls ≠ .type "list" := by rw [c4]; decide
    have n5 : o5.cls ≠ .type "list" := by rw [c5]; decide
    have D : ZipApart z TI TO i1 i2 a b := ⟨d1, d2, d3, d4, d5, d6, d7, d8, d9, d10,
      I.list_apart hqa s1 (show Value.type "zip" ≠ Value.type "list" by decide), I.list_apart hqa s3 (show Value.type "tuple" ≠ Value.type "list" by decide), I.list_apart hqa q4 n4, I.list_apart hqa q5 n5,
      I.list_apart hqb s1 (show Value.type "zip" ≠ Value.type "list" by decide), I.list_apart hqb s3 (show Value.type "tuple" ≠ Value.type "list" by decide), I.list_apart hqb q4 n4, I.list_apart hqb q5 n5⟩
    have l1 := rv1.length
    have l2 := rv2.length
    have hend' : its1.toArray[i]? = none ∨ its2.toArray[i]? = none := by
      rcases hend with r | r
      · exact .inl (Array.getElem?_eq_none (by rw [List.size_toArray]; omega))
      · exact .inr (Array.getElem?_eq_none (by rw [List.size_toArray]; omega))
    refine wpAny_pyNext_zip_end (I.ok.hd hc) D s1 s2 s3 s4 s5 p1.isList p2.isList hend' fun h' k => ⟨rfl, ?_⟩
    exact I.turnedK (t' := s.toks) (ch := [z, TO, i1, i2]) (fun c hm => hf c (by
      simp only [List.mem_cons, List.not_mem_nil, or_false] at hm ⊢
      rcases hm with r | r | r | r <;> simp [r])) fun c o hm e => by
        simp only [List.mem_cons, List.not_mem_nil, or_false, not_or] at hm
        exact k c o hm.1 hm.2.1 hm.2.2.1 hm.2.2.2 e
  self := fun _ _ _ _ _ st h => wpAny_pyIter_zip st.1 h
def iZip (K : PySem.W.Frag) (ta : TA) : TI := fun σ H R => ta σ H fun vs H1 => ∃ a b xs ys, vs = [.ref a, .ref b] ∧ SqL K H1 a xs ∧ SqL K H1 b ys ∧ R (Itz K a b) H1
section
variable {X : Cx}
theorem pi_zip {elts : List Expr} {k1 : Nat} {tp : Pos} {a b : Expr} {ta : TA} {p pos : Pos} (hg : Gl X "zip") (hm : X.mg "zip" = none) (ha : PA X [a, b] ta)
    (hs : starEach [a, b] X.env = [(false, eval a X.env), (false, eval b X.env)] := by rfl) (hs2 : starEach [b] X.env = [(false, eval b X.env)] := by rfl) : PI X (.Tuple elts k1 tp) (.Call (.Name "zip" p) [a, b] [] pos) (iZip X.K ta) := by
  intro pins s σ H R I h
  refine Call_ (ld_blt I hg hm boot_zip (PyProof.Rows.callWith_type1 (thn (ha pos pins s σ H _ I h) fun us s1 ⟨vs, H1, I1, r1, q1⟩ => ?_) (by rw [hs, hs2]) (by rw [hs2]; rfl)))
  obtain ⟨l1, l2, xs, ys, e, hq1, hq2, q⟩ := q1
  subst e
  obtain ⟨u1, u2, rfl, ru1, ru2⟩ := r1.two
  cases ru1
  cases ru2
  obtain ⟨its1, rv1, p1, z1⟩ := I1.list hq1
  obtain ⟨its2, rv2, p2, z2⟩ := I1.list hq2
  refine call_zip_2 p1.isList p2.isList fun h' a1 a2 a3 a4 a5 a6 a7 => ?_
  refine wpAny_pyIter_zip (s := { s1 with heap := h' }) a1 ?_
  have big : ∀ k : Nat, s1.heap.objs.size ≤ s1.heap.objs.size + k := fun k => Nat.le_add_right _ _
  refine ⟨_, [s1.heap.objs.size + 4, s1.heap.objs.size + 2, s1.heap.objs.size + 3, s1.heap.objs.size, s1.heap.objs.size + 1], _, _, H1, rfl, I1.kept (t' := s1.toks) fun c o e => a7 c o e,
    turn_zip l1 l2 _ _ _ _ _ (by simp) (by simp) (by simp) (by simp) (by simp) (by simp) (by simp) (by simp) (by simp) (by simp), ⟨a1, a2, ⟨_, _, a3⟩, a4, a5⟩, ?_, q⟩
  refine fpNew I1 (fun c hc => I1.hok.fresh hc) fun c hc => ?_
  simp only [List.mem_cons, List.not_mem_nil, or_false] at hc
  rcases hc with r | r | r | r | r <;> rw [r]
  · exact big 4
  · exact big 2
  · exact big 3
  · exact Nat.le_refl _
  · exact big 1
end
/-! ### V4. a comprehension of one clause -/
/-- the cells that the block takes along -/
def clGo (env : Env) : List (Str × NameKind) → List (Str × Addr) → List (Str × Addr)
  | [], acc => acc
  | (n, k) :: r, acc => clGo env r (if k == .free then (n, (env.cells.lookup n).getD 0) :: acc else acc)
theorem clGo_ok (env : Env) : ∀ (ns : List (Str × NameKind)) (acc : List (Str × Addr)), (∀ n, (n, NameKind.free) ∈ ns → ∃ c, env.cells.lookup n = some c) →
    (forIn ns acc (fun (x : Str × NameKind) (cs : List (Str × Addr)) => (if (x.2 == NameKind.free) = true then (do let c ← cellOf env x.1; pure (ForInStep.yield ((x.1, c) :: cs))) else pure (ForInStep.yield cs) : Sem (ForInStep (List (Str × Addr)))))) = (pure (clGo env ns acc) : Sem _)
  | [], acc, _ => rfl
  | (n, k) :: r, acc, h => by
    have ih := clGo_ok env r (if k == .free then (n, (env.cells.lookup n).getD 0) :: acc else acc) fun m hm => h m (List.mem_cons_of_mem _ hm)
    rw [List.forIn_cons]
    cases hk : (k == NameKind.free) with
    | false =>
      simp only [hk, Bool.false_eq_true, if_false, pure_bind] at ih ⊢
      rw [ih]
      show _ = (pure (clGo env r (if (k == NameKind.free) = true then _ else acc)) : Sem _)
      rw [hk]
      rfl
    | true =>
      have ek : k = .free := by simpa using hk
      obtain ⟨c, e⟩ := h n (by rw [ek]; exact List.mem_cons_self)
      have ec : cellOf env n = pure c := by unfold cellOf; rw [e]
      simp only [hk, if_true, ec, pure_bind, e, Option.getD_some] at ih ⊢
      rw [ih]
      show _ = (pure (clGo env r (if (k == NameKind.free) = true then (n, (env.cells.lookup n).getD 0) :: acc else acc)) : Sem _)
      rw [hk, e]
      rfl
theorem clGo_mem (env : Env) : ∀ (ns : List (Str × NameKind)) (acc : List (Str × Addr)), (∀ n, (n, NameKind.free) ∈ ns → ∃ c, env.cells.lookup n = some c) → (∀ p ∈ acc, env.cells.lookup p.1 = some p.2) → ∀ p ∈ clGo env ns acc, env.cells.lookup p.1 = some p.2
  | [], _, _, ha => ha
  | (n, k) :: r, acc, h, ha => by
    refine clGo_mem env r _ (fun m hm => h m (List.mem_cons_of_mem _ hm)) fun p hp => ?_
    cases hk : (k == NameKind.free) with
    | false =>
      rw [hk] at hp
      exact ha p hp
    | true =>
      have ek : k = .free := by simpa using hk
      obtain ⟨c, e⟩ := h n (by rw [ek]; exact List.mem_cons_self)
      rw [hk, e] at hp
      rcases List.mem_cons.mp hp with z | z
      · rw [z]
        exact e
      · exact ha p z
theorem clGo_has (env : Env) {x : Str} : ∀ (ns : List (Str × NameKind)) (acc : List (Str × Addr)), ((x, NameKind.free) ∈ ns ∨ ∃ c, (x, c) ∈ acc) → ∃ c, (x, c) ∈ clGo env ns acc
  | [], acc, h => by
    rcases h with h | h
    · cases h
    · exact h
  | (n, k) :: r, acc, h => by
    refine clGo_has env r _ ?_
    rcases h with h | ⟨c, h⟩
    · rcases List.mem_cons.mp h with z | z
      · cases z
        exact .inr ⟨_, List.mem_cons_self⟩
      · exact .inl z
    · refine .inr ⟨c, ?_⟩
      split
      · exact List.mem_cons_of_mem _ h
      · exact h
theorem lookup_of_memS {α : Type} {x : Str} : ∀ {l : List (Str × α)} {c : α}, (x, c) ∈ l → ∃ d, l.lookup x = some d
  | (n, d) :: r, c, h => by
    by_cases e : x = n
    · exact ⟨d, by rw [List.lookup_cons]; simp [e]⟩
    · have hb : (x == n) = false := beq_eq_false_iff_ne.mpr e
      rcases List.mem_cons.mp h with z | z
      · exact absurd (congrArg Prod.fst z) e
      · obtain ⟨d', q⟩ := lookup_of_memS z
        exact ⟨d', by rw [List.lookup_cons, hb]; exact q⟩
/-- what is asked of the two scopes: own: the block's own names; caps: the names that it takes along, with their slots outside -/
def compOk (N : List Str) (sc scope : Scope) (own : List Str) (caps : List (Str × Nat)) : Bool :=
  decide (scope.kind = .function) && scope.names.all (fun y => decide (y.2 ≠ .cell)) && scope.names.all (fun y => decide (y.2 = .local → scope.names.lookup y.1 = some .local)) &&
  scope.names.all (fun y => decide (y.2 = .free → (sc.names.lookup y.1 = some .cell ∨ sc.names.lookup y.1 = some .free))) &&
  caps.all (fun p => decide (N[p.2]? = some p.1 ∧ scope.names.lookup p.1 = some .free)) && decide (own ++ caps.map (·.1)).Nodup
def cxComp (X : Cx) (N : List Str) (scope : Scope) (C : Addr) (s₀ : Shared) (H₀ : Hp) (ex : List Addr) : Cx :=
  { X with N := N, s₀ := s₀, H₀ := H₀, env := compEnvC scope (clGo X.env scope.names []) C X.env, outer := X.stack, stack := X.stack, ex := ex, fn := fun _ => false, pn := [], xe := fun _ _ => False }
theorem relabel_out {scope : Scope} {env : Env} {x : Str} {k : NameKind} (hc : ∀ y ∈ scope.names, y.2 ≠ .cell) (h : (relabel scope env).names.lookup x = some k) (hk : k = .cell ∨ k = .free) : (x, NameKind.free) ∈ scope.names := by
  have hm := PySem.mem_of_lookup h
  obtain ⟨⟨n, k'⟩, h1, h2⟩ := List.mem_map.mp hm
  dsimp only at h2
  split at h2
  · rename_i c
    have ek : k' = .free := by
      simp only [Bool.and_eq_true] at c
      simpa using c.1.1
    cases h2
    rw [ek] at h1
    exact h1
  · cases h2
    rcases hk with z | z
    · exact absurd z (hc _ h1)
    · rw [z] at h1
      exact h1
structure CompS (N : List Str) (sc scope : Scope) (own : List Str) (caps : List (Str × Nat)) : Prop where
  kind : scope.kind = .function
  nocell : ∀ y ∈ scope.names, y.2 ≠ .cell
  loc : ∀ y ∈ scope.names, y.2 = .local → scope.names.lookup y.1 = some .local
  fre : ∀ y ∈ scope.names, y.2 = .free → (sc.names.lookup y.1 = some .cell ∨ sc.names.lookup y.1 = some .free)
  cap : ∀ p ∈ caps, N[p.2]? = some p.1 ∧ scope.names.lookup p.1 = some .free
  nd : (own ++ caps.map (·.1)).Nodup
theorem compS_of {N : List Str} {sc scope : Scope} {own : List Str} {caps : List (Str × Nat)} (h : compOk N sc scope own caps = true) : CompS N sc scope own caps := by
  simp only [compOk, Bool.and_eq_true, List.all_eq_true, decide_eq_true_eq] at h
  obtain ⟨⟨⟨⟨⟨h1, h2⟩, h3⟩, h4⟩, h5⟩, h6⟩ := h
  exact ⟨h1, h2, h3, h4, h5, h6⟩
/-- the values that it takes along -/
def capV (caps : List (Str × Nat)) (σ : St) : St := caps.map fun p => (σ[p.2]?).join
section
variable {X : Cx} {pins : List (Addr × Obj)} {σ : St} {H : Hp} {s : Shared} {scope : Scope} {own : List Str} {caps : List (Str × Nat)} {fp : List Addr}
theorem comp_fre (ok : X.Ok) (S : CompS X.N X.env.scope scope own caps) : ∀ n, (n, NameKind.free) ∈ scope.names → ∃ c, X.env.cells.lookup n = some c := fun n hn => ok.has n (S.fre _ hn rfl)
theorem comp_clos (ok : X.Ok) (S : CompS X.N X.env.scope scope own caps) : closureFor scope X.env = pure (clGo X.env scope.names []) := by
  unfold closureFor
  have q := clGo_ok X.env scope.names [] (comp_fre ok S)
  show (forIn scope.names [] _ >>= fun r => pure r) = _
  rw [bind_pure]
  exact q
theorem comp_cells (ok : X.Ok) (S : CompS X.N X.env.scope scope own caps) {x : Str} {c : Addr} (h : (clGo X.env scope.names []).lookup x = some c) : X.env.cells.lookup x = some c :=
  clGo_mem X.env scope.names [] (comp_fre ok S) (fun _ z => nomatch z) _ (PySem.mem_of_lookup h)
theorem comp_inv (I : Inv X pins σ H s) (S : CompS X.N X.env.scope scope own caps) (hf : ∀ b ∈ fp, FpOk X pins H b) (hb : ∀ b ∈ fp, b < s.heap.objs.size) {C : Addr} (hC : s.heap.objs.size ≤ C) {h₁ : Heap} {tk : Nat} {m : Str → Option Value}
    (hn : h₁.Ns C m) (kk : ∀ b o, s.heap.get? b = some o → h₁.get? b = some o) :
    Inv (cxComp X (own ++ caps.map (·.1)) scope C s H fp) [] (List.replicate own.length none ++ capV caps σ) H { s with heap := h₁, toks := tk } := by
  have ok := I.ok
  have cells := fun {x : Str} {c : Addr} => comp_cells (x := x) (c := c) ok S
  have keepC : ∀ {x : Str} {c : Addr} {v : Option Value}, s.heap.IsCell c v → h₁.IsCell c v := fun ⟨o, ho, hd⟩ => ⟨o, kk _ _ ho, hd⟩
  refine ⟨⟨ok.mod, S.kind, ok.glob, ok.blt, hC, fun x y c h1 h2 => ok.inj x y c (cells h1) (cells h2), fun x hx => ?_, (fun x c hx => nomatch hx), ok.hd, ok.frames, .inl rfl, fun b hb' => ⟨?_, fun x c e => ?_⟩, I.bs, Nat.le_trans ok.bsz I.sz, fun b o e hb' => ?_, fun b hb' hs => ?_, I.stack, I.stkFree⟩,
    rfl, I.bare, Un.kept kk, ⟨m, hn, fun i x v e1 e2 e3 => ?_⟩, fun x c e => ?_, I.hok.fresh hC, fun x c e => I.freeC x c (cells e), (fun p hp => nomatch hp), I.hok.kept kk, ?_⟩
  · have hm : (x, NameKind.free) ∈ scope.names := by
      rcases hx with z | z
      · exact relabel_out S.nocell z (.inl rfl)
      · exact relabel_out S.nocell z (.inr rfl)
    obtain ⟨c, hc⟩ := clGo_has X.env scope.names [] (.inl hm)
    exact lookup_of_memS hc
  · exact Nat.ne_of_lt (Nat.lt_of_lt_of_le (hb b hb') hC)
  · exact (hf b hb').2.2.2.2.1 x c (cells e)
  · rcases (hf b hb').2.2.2.1 with z | z
    · exact ok.noex b o e z
    · exact absurd (Nat.lt_of_lt_of_le (Heap.lt_size e) (Nat.le_trans ok.bsz z)) (Nat.lt_irrefl _)
  · rcases List.mem_cons.mp (I.stkSub b hs) with z | z
    · exact (hf b hb').2.1 z
    · exact (hf b hb').2.2.1 z
  · by_cases hi : i < own.length
    · rw [List.getElem?_append_left (by rw [List.length_replicate]; exact hi), List.getElem?_replicate, if_pos hi] at e2
      cases e2
    · have hi' : own.length ≤ i := Nat.le_of_not_lt hi
      have e1 : (own ++ caps.map (·.1))[i]? = some x := e1
      rw [List.getElem?_append_right hi', List.getElem?_map] at e1
      rw [List.getElem?_append_right (by rw [List.length_replicate]; exact hi'), List.length_replicate] at e2
      unfold capV at e2
      rw [List.getElem?_map] at e2
      cases ec : caps[i - own.length]? with
      | none => rw [ec] at e1; cases e1
      | some p =>
        rw [ec] at e1 e2
        have ex : p.1 = x := Option.some.inj e1
        have ev : (σ[p.2]?).join = some v := Option.some.inj e2
        have es : σ[p.2]? = some (some v) := by
          cases q : σ[p.2]? with
          | none => rw [q] at ev; cases ev
          | some w' => rw [q] at ev; exact congrArg some ev
        obtain ⟨c1, c2⟩ := S.cap p (List.mem_of_getElem? ec)
        rw [ex] at c1 c2
        have fm : (x, NameKind.free) ∈ scope.names := PySem.mem_of_lookup c2
        have vis : Vis X.env.scope x := by
          rcases S.fre _ fm rfl with z | z
          · exact .inr (.inl z)
          · exact .inr (.inr z)
        obtain ⟨m0, hn0, hl0⟩ := id I.loc
        obtain ⟨u, ru, lk⟩ := hl0 p.2 x v c1 es vis
        refine ⟨u, ru, .inr ⟨?_, ?_⟩⟩
        · have e3 : Vis (relabel scope X.env) x := e3
          rcases e3 with z | z | z
          · exfalso
            have hm := PySem.mem_of_lookup z
            obtain ⟨⟨n, k'⟩, h1, h2⟩ := List.mem_map.mp hm
            dsimp only at h2
            split at h2
            · cases h2
            · cases h2
              have := S.loc _ h1 rfl
              rw [c2] at this
              cases this
          · exact .inl z
          · exact .inr z
        · rcases lk with ⟨z, _⟩ | ⟨_, c, hc, hcell⟩
          · exfalso
            have z : X.env.scope.names.lookup x = some .local := z
            rcases S.fre _ fm rfl with z' | z' <;> rw [z] at z' <;> cases z'
          · obtain ⟨c', hc'⟩ := clGo_has X.env scope.names [] (.inl fm)
            obtain ⟨d, hd⟩ := lookup_of_memS hc'
            have := cells hd
            rw [hc] at this
            cases this
            exact ⟨c, hd, keepC (x := x) hcell⟩
  · obtain ⟨v, q⟩ := I.cell x c (cells e)
    exact ⟨v, keepC (x := x) q⟩
  · show (List.replicate own.length none ++ capV caps σ).length = (own ++ caps.map (·.1)).length
    unfold capV
    rw [List.length_append, List.length_append, List.length_replicate, List.length_map, List.length_map]
/-- back outside -/
theorem comp_back (I : Inv X pins σ H s) (hf : ∀ b ∈ fp, FpOk X pins H b) {C : Addr} {N : List Str} {σ' : St} {H' : Hp} {s' : Shared} {pins' : List (Addr × Obj)} (I' : Inv (cxComp X N scope C s H fp) pins' σ' H' s') : Inv X pins σ H' s' :=
  I.call' I'.os I'.base I'.hok I'.bare fun b hb => ⟨(hf b hb).2.2.2.1, (hf b hb).2.1, (hf b hb).2.2.2.2.1, (hf b hb).2.2.2.2.2⟩
end
/-- the tests of a clause -/
def PTs (X : Cx) (ifs : List Expr) (t : TT) : Prop :=
  ∀ (pins : List (Addr × Obj)) (s : Shared) (σ : St) (H : Hp) (Q : Bool → Hp → Prop), Inv X pins σ H s → t σ H Q →
    wpAny (model X.prog X.w) X.A (forIn ifs true fun c r => if r = true then do let ok ← isTrue c X.env (eval c X.env); pure (ForInStep.yield ok) else pure (ForInStep.yield r)) (TP X pins σ Q) X.xe s
def tYes : TT := fun _ H Q => Q true H
theorem pts_nil {X : Cx} : PTs X [] tYes := fun _ _ _ H _ I h => wpAny_tests_nil ⟨H, I, h⟩
theorem pts_one {X : Cx} {c : Expr} {t : TT} (h : PT X c t) : PTs X [c] t := fun pins s σ H Q I q => wpAny_tests_one (h pins s σ H Q I q)
theorem comp_loop {prog : Program} {w : World} {A : Around} {elt tg iter : Expr} {ifs : List Expr} {scope : Scope} {pos : Pos} {it acc : Value} {env : Env} {R : Result → Shared → Prop} {s : Shared} (J : Nat → Shared → Prop)
    (turn : ∀ n s, J n s → wpAny (model prog w) A (pyNext it) (fun r s₁ => match r with
      | none => R (.ok .next) s₁
      | some v => wpAny (model prog w) A (letOwnedTupleGo tg it v) (fun _ s₂ => wpAny (model prog w) A (assign tg env v) (fun _ s₃ =>
          wpAny (model prog w) A (forIn ifs true fun c r => if r = true then do let ok ← isTrue c env (eval c env); pure (ForInStep.yield ok) else pure (ForInStep.yield r)) (fun ok s₄ =>
            if ok = true then wpAny (model prog w) A (eval elt env) (fun x s₅ => wpAny (model prog w) A (call (.builtin "list.append") [acc, x]) (fun _ s₆ => ∃ m, m < n ∧ J m s₆) (fun _ _ => False) s₅) (fun _ _ => False) s₄
            else ∃ m, m < n ∧ J m s₄) (fun _ _ => False) s₃) (fun _ _ => False) s₂) (fun _ _ => False) s₁) (fun _ _ => False) s)
    (n : Nat) (h : J n s) : codeAny (model prog w) A (.compLoop (.ListComp elt [⟨tg, iter, ifs, 0⟩] scope pos) 0 it acc env) R s := by
  refine codeAny_loop rfl J (fun n s hJ => ?_) n h
  refine wpAny_noted (m := compTurn (.ListComp elt [⟨tg, iter, ifs, 0⟩] scope pos) 0 it acc env) ?_
  rw [compTurn_list]
  have ff : ∀ {E : Value → Shared → Prop} (e : Value) (s' : Shared), False → E e s' := fun _ _ f => f.elim
  refine wpAny_bind (wpAny_standAt (wpAny_bind (wpAny_mono (turn n s hJ) (fun r s₁ h₁ => ?_) ff)))
  cases r with
  | none => exact wpAny_pure h₁
  | some v =>
    refine wpAny_bind (wpAny_mono h₁ (fun _ s₂ h₂ => ?_) ff)
    refine wpAny_bind (wpAny_mono h₂ (fun _ s₃ h₃ => wpAny_bind (wpAny_mono h₃ (fun b s₄ h₄ => ?_) ff)) ff)
    cases b with
    | false => exact wpAny_pure ⟨rfl, h₄⟩
    | true =>
      refine wpAny_bind (wpAny_bind (wpAny_mono h₄ (fun x s₅ h₅ => wpAny_bind (wpAny_mono h₅ (fun _ s₆ h₆ => ?_) ff)) ff))
      exact wpAny_pure (wpAny_pure ⟨rfl, h₆⟩)
/-- THE READING: W i m ys H: ahead of turn i, with the measure m, the list at D holds ys -/
def tCompG (k : Nat) (J : It) (g : TG) (tt : TT) (te : TE) (tl : St) (D : Addr) (Q : Hp → Prop) (W : Nat → Nat → List V → Hp → Prop) : Prop :=
  ∀ i m ys H, W i m ys H → H D = some (.lst ys) → (J.stop i H ∧ Q H) ∨
    (J.go i H ∧ ∃ N : List V → Hp → Prop, (∀ ys' H', N ys' H' → ∃ m', m' < m ∧ W (i + 1) m' ys' H') ∧ ∀ x H1, J.yld i H x H1 → g x (List.replicate k none ++ tl) H1 fun σ2 H2 => (σ2.length = k + tl.length ∧ σ2.drop k = tl) ∧
      tt σ2 H2 fun b H3 => if b = true then te σ2 H3 fun v H4 => H4 D = some (.lst ys) ∧ ys.length < sizeLine ∧ N (ys ++ [v]) (upd H4 D (.lst (ys ++ [v])))
        else H3 D = some (.lst ys) ∧ N ys H3)
def tComp (own : List Str) (caps : List (Str × Nat)) (wi : TI) (g : TG) (tt : TT) (te : TE) : TE := fun σ H Q => wi σ H fun J H1 => ∀ D, H1 D = none →
  ∃ W : Nat → Nat → List V → Hp → Prop, (∃ m, W 0 m [] (upd H1 D (.lst []))) ∧ tCompG own.length J g tt te (capV caps σ) D (fun H' => Q (.ref D) H') W
section
variable {X : Cx} {tg iter elt : Expr} {ifs : List Expr} {scope : Scope} {pos : Pos} {own : List Str} {caps : List (Str × Nat)} {wi : TI} {g : TG} {tt : TT} {te : TE}
theorem comp_block (S : CompS X.N X.env.scope scope own caps) (hc : X.calm = true)
    (hg : ∀ C s₀ H₀ ex, PG (cxComp X (own ++ caps.map (·.1)) scope C s₀ H₀ ex) tg g) (ht : ∀ C s₀ H₀ ex, PTs (cxComp X (own ++ caps.map (·.1)) scope C s₀ H₀ ex) ifs tt) (he : ∀ C s₀ H₀ ex, PE (cxComp X (own ++ caps.map (·.1)) scope C s₀ H₀ ex) elt te)
    {pins : List (Addr × Obj)} {σ : St} {H : Hp} {s : Shared} (I : Inv X pins σ H s) {it : Addr} {fp : List Addr} {tn : Nat → Heap → Prop} {J : It} (T : Turn X.prog X.w X.K tg J fp it tn) (st : tn 0 s.heap) (hf : ∀ b ∈ fp, FpOk X pins H b) {Q : VK}
    (hR : ∀ D, H D = none → ∃ W : Nat → Nat → List V → Hp → Prop, (∃ m, W 0 m [] (upd H D (.lst []))) ∧ tCompG own.length J g tt te (capV caps σ) D (fun H' => Q (.ref D) H') W)
    {RR : Value → Addr → Result → Shared → Prop} {E : Value → Shared → Prop}
    (hRR : ∀ D C m H' s', Inv X pins σ H' s' → s'.heap.Ns C m → FpOk X pins H' C → Q (.ref D) H' → RR (.ref D) C (.ok .next) s') :
    wpAny (model X.prog X.w) X.A (newList []) (fun acc s₃ => wpAny (model X.prog X.w) X.A (newFunctionEnv scope X.env.globals (clGo X.env scope.names []) [] X.env.qual none .none (some X.env)) (fun cenv s₄ =>
      codeAny (model X.prog X.w) X.A (.compStart (.ListComp elt [⟨tg, iter, ifs, 0⟩] scope pos) 0 (.ref it) acc { cenv with scope := relabel scope X.env }) (RR acc cenv.locals) s₄) E s₃) E s := by
  refine wpAny_newObj_type (wpAny_newFunctionEnv S.nocell (fun y hy => nomatch hy) (fun h₁ hns hsb => ?_) S.kind)
  have I3 : Inv X pins σ (upd H s.heap.objs.size (.lst [])) { s with heap := s.heap.push { cls := .type "list", data := .seq ([] : List Value).toArray }, toks := s.toks } := I.lnew (ys := []) (its := []) .nil (Nat.zero_le _)
  have hob := T.obj 0 _ st
  have hlt : ∀ b ∈ fp, b < s.heap.objs.size := fun b hb => let ⟨o, e, _⟩ := hob b hb; Heap.lt_size e
  have hf3 : ∀ b ∈ fp, FpOk X pins (upd H s.heap.objs.size (.lst [])) b := fun b hb => ⟨by rw [upd_ne (Nat.ne_of_lt (hlt b hb))]; exact (hf b hb).1, (hf b hb).2⟩
  have hlt3 : ∀ b ∈ fp, b < (s.heap.push { cls := .type "list", data := .seq ([] : List Value).toArray }).objs.size := fun b hb => by rw [Heap.size_push]; exact Nat.lt_succ_of_lt (hlt b hb)
  generalize hD : s.heap.objs.size = D at I3 hf3
  generalize hs3 : s.heap.push { cls := .type "list", data := .seq ([] : List Value).toArray } = h3 at I3 hlt3 hns hsb
  have kk : ∀ b o, h3.get? b = some o → h₁.get? b = some o := fun b o e => (hsb.2 b (Nat.ne_of_lt (Heap.lt_size e))).trans (Heap.get?_push_of_some _ e)
  have st1 : tn 0 h₁ := T.keep _ _ _ st fun b hb o e => kk b o (by rw [← hs3]; exact Heap.get?_push_of_some _ e)
  obtain ⟨W, ⟨m0, w0⟩, turn⟩ := hR D (by rw [← hD]; exact I.fresh)
  have I4 := comp_inv (tk := s.toks + 0) I3 S hf3 hlt3 (Nat.le_refl _) hns kk
  have frp : ∀ b ∈ fp, (upd H D (.lst [])) b = none := fun b hb => (hf3 b hb).1
  have loop : codeAny (model X.prog X.w) X.A (.compLoop (.ListComp elt [⟨tg, iter, ifs, 0⟩] scope pos) 0 (.ref it) (.ref D) (compEnvC scope (clGo X.env scope.names []) h3.objs.size X.env)) (RR (.ref D) h3.objs.size) { s with heap := h₁, toks := s.toks + 0 } := by
    refine comp_loop (fun n s' => ∃ i ys H', Inv (cxComp X (own ++ caps.map (·.1)) scope h3.objs.size { s with heap := h3, toks := s.toks } (upd H D (.lst [])) fp) [] (List.replicate own.length none ++ capV caps σ) H' s' ∧ tn i s'.heap ∧ (∀ b ∈ fp, H' b = none) ∧ H' D = some (.lst ys) ∧ W i n ys H') ?_ m0
      ⟨0, [], _, I4, st1, frp, upd_same, w0⟩
    rintro n s5 ⟨i, ys, H5, I5, st5, fr5, hD5, w5⟩
    have stat : ∀ {H' : Hp}, (∀ b ∈ fp, H' b = none) → ∀ b ∈ fp, FpOk (cxComp X (own ++ caps.map (·.1)) scope h3.objs.size { s with heap := h3, toks := s.toks } (upd H D (.lst [])) fp) [] H' b := fun hn b hb =>
      ⟨hn b hb, (I4.ok.exf b hb).1, I4.ok.exfs b hb, .inl hb, (I4.ok.exf b hb).2, fun p hp => nomatch hp⟩
    rcases turn i n ys H5 w5 hD5 with ⟨stop, qn⟩ | ⟨go, N, hN, step⟩
    · refine thn (T.done (cxComp X (own ++ caps.map (·.1)) scope h3.objs.size { s with heap := h3, toks := s.toks } (upd H D (.lst [])) fp) rfl rfl rfl hc i [] s5 _ H5 _ I5 (stat fr5) st5 stop) fun r s6 ⟨hr, I6⟩ => ?_
      subst hr
      obtain ⟨m6, hn6, _⟩ := id I6.loc
      exact hRR D _ m6 H5 s6 (comp_back I3 hf3 I6) hn6 (I3.fpOk (Nat.le_refl _) I6.free) qn
    · refine thn (T.item (cxComp X (own ++ caps.map (·.1)) scope h3.objs.size { s with heap := h3, toks := s.toks } (upd H D (.lst [])) fp) rfl rfl rfl hc i [] s5 _ H5 _ I5 (stat fr5) st5 go) fun r s6 ⟨u, hr, h6⟩ => ?_
      subst hr
      refine thn h6 fun _ s7 ⟨x, H7, I7, r7, y7, st7, fr7⟩ => ?_
      have I7' := I7.pinned (stat fr7) (T.obj _ _ st7)
      refine thn (hg _ _ _ _ _ s7 _ H7 x u _ I7' r7 (step x H7 y7)) fun _ s8 ⟨σ8, H8, I8, ⟨hl8, hd8⟩, q8⟩ => ?_
      have again : ∀ {H9 : Hp} {s9 : Shared} {ys9 : List V}, Inv (cxComp X (own ++ caps.map (·.1)) scope h3.objs.size { s with heap := h3, toks := s.toks } (upd H D (.lst [])) fp) ([] ++ pinsAt fp s7.heap) σ8 H9 s9 → H9 D = some (.lst ys9) → N ys9 H9 →
          ∃ m, m < n ∧ ∃ i ys H', Inv (cxComp X (own ++ caps.map (·.1)) scope h3.objs.size { s with heap := h3, toks := s.toks } (upd H D (.lst [])) fp) [] (List.replicate own.length none ++ capV caps σ) H' s9 ∧ tn i s9.heap ∧ (∀ b ∈ fp, H' b = none) ∧ H' D = some (.lst ys) ∧ W i m ys H' := fun {H9 s9 ys9} I9 d9 w9 => by
        obtain ⟨m', hm, w9⟩ := hN _ _ w9
        have pin := fun b (hb : b ∈ fp) o (e : s7.heap.get? b = some o) => I9.pin (b, o) (List.mem_append_right _ (List.mem_append_right _ (mem_pinsAt hb e)))
        refine ⟨m', hm, i + 1, ys9, H9, (I9.unpinned (pins := [])).weak ?_ fun j v e => ?_, T.keep _ _ _ st7 fun b hb o e => (pin b hb o e).1, fun b hb => ?_, d9, w9⟩
        · rw [hl8, List.length_append, List.length_replicate]
        · by_cases hj : j < own.length
          · rw [List.getElem?_append_left (by rw [List.length_replicate]; exact hj), List.getElem?_replicate, if_pos hj] at e
            cases e
          · rw [List.getElem?_append_right (by rw [List.length_replicate]; exact Nat.le_of_not_lt hj), List.length_replicate, ← hd8, List.getElem?_drop] at e
            rw [show own.length + (j - own.length) = j by omega] at e
            exact e
        · obtain ⟨o, e, d⟩ := T.obj _ _ st7 b hb
          exact (pin b hb o e).2.1
      refine thn (ht _ _ _ _ _ s8 σ8 H8 _ I8 q8) fun b s9 ⟨H9, I9, q9⟩ => ?_
      cases b with
      | false =>
        rw [if_neg Bool.false_ne_true] at q9 ⊢
        exact again I9 q9.1 q9.2
      | true =>
        rw [if_pos rfl] at q9 ⊢
        refine thn (he _ _ _ _ _ s9 σ8 H9 _ I9 q9) fun v s10 ⟨y, H10, I10, r10, d10, z10, w10⟩ => ?_
        refine thn (mt_append _ s10 σ8 H10 (.ref D) [y] (.ref D) [v] (fun _ H' => H' = upd H10 D (.lst (ys ++ [y]))) I10 rfl (.cons r10 .nil) ⟨D, ys, y, rfl, rfl, d10, z10, rfl⟩) fun _ s11 ⟨_, H11, I11, _, e11⟩ => ?_
        subst e11
        exact again I11 upd_same w10
  have e0 : ({ s with heap := h₁, toks := s.toks + ([] : List (Str × Value)).length } : Shared) = { s with heap := h₁, toks := s.toks + 0 } := rfl
  exact codeAny_compStart_list loop (T.self _ 0 _ _ _ st1 loop)
theorem pe_comp (own : List Str) (caps : List (Str × Nat)) (hi : PI X tg iter wi) (hc : X.calm = true)
    (hg : ∀ C s₀ H₀ ex, PG (cxComp X (own ++ caps.map (·.1)) scope C s₀ H₀ ex) tg g) (ht : ∀ C s₀ H₀ ex, PTs (cxComp X (own ++ caps.map (·.1)) scope C s₀ H₀ ex) ifs tt) (he : ∀ C s₀ H₀ ex, PE (cxComp X (own ++ caps.map (·.1)) scope C s₀ H₀ ex) elt te)
    (hS : compOk X.N X.env.scope scope own caps = true := by kernel_rfl) (hs : ∀ x, foldedSetIterable iter X.env x = pure x := by intro _; rfl) :
    PE X (.ListComp elt [⟨tg, iter, ifs, 0⟩] scope pos) (tComp own caps wi g tt te) := by
  intro pins s σ H Q I h
  have S := compS_of hS
  rw [eval_ListComp]
  refine wpAny_comprehension_free (use := none) rfl hs (comp_clos I.ok S) S.kind S.loc (thn (hi pins s σ H _ I h) fun v s1 h1 => thn h1 fun itv s2 h2 => ?_)
  obtain ⟨it, fp, tn, J, H2, e, I2, T, st2, f2, hR⟩ := h2
  subst e
  refine comp_block S hc hg ht he I2 T st2 f2 (Q := Q) hR fun D C m H' s' I' hn hC q => ?_
  refine ⟨m, hn, fun h' hs' => ?_⟩
  exact ⟨.ref D, H', I'.turnedK (t' := s'.toks) (ch := [C]) (fun b hb => by rw [show b = C by simpa using hb]; exact hC) fun b o hb e => (hs'.2 b (by simpa using hb)).trans e, rfl, q⟩
theorem ps_setComp {y : Str} {py spos : Pos} (j : Nat) (own : List Str) (caps : List (Str × Nat)) (hN : X.N.Nodup) (hi : PI X tg iter wi) (hc : X.calm = true)
    (hg : ∀ C s₀ H₀ ex, PG (cxComp X (own ++ caps.map (·.1)) scope C s₀ H₀ ex) tg g) (ht : ∀ C s₀ H₀ ex, PTs (cxComp X (own ++ caps.map (·.1)) scope C s₀ H₀ ex) ifs tt) (he : ∀ C s₀ H₀ ex, PE (cxComp X (own ++ caps.map (·.1)) scope C s₀ H₀ ex) elt te)
    (hj : X.N[j]? = some y := by rfl) (hy : Loc X.env.scope y := by first | exact Or.inl rfl | exact Or.inr rfl)
    (hsw : swapsWith (.ListComp elt [⟨tg, iter, ifs, 0⟩] scope pos) (some (.Name y py)) spos.line X.env = pure true := by rfl)
    (hS : compOk X.N X.env.scope scope own caps = true := by kernel_rfl) (hs : ∀ x, foldedSetIterable iter X.env x = pure x := by intro _; rfl) (hf : X.fn y = true ∨ X.env.scope.names.lookup y = some .local := by first | exact .inl rfl | exact .inr rfl) :
    PS X (.Assign [.Name y py] (.ListComp elt [⟨tg, iter, ifs, 0⟩] scope pos) spos) (tAsg (tComp own caps wi g tt te) (gName j)) := by
  intro pins s σ H D0 I h
  have S := compS_of hS
  rw [exec_Assign_Name_used _ _ _ _ hsw]
  refine wpAny_bind (wpAny_standAt (wpAny_bind ?_))
  refine wpAny_mono (t := do let _ ← comprehension (.ListComp elt [⟨tg, iter, ifs, 0⟩] scope pos) scope X.env (firstIterPos [⟨tg, iter, ifs, 0⟩] pos) (newList []) false (eval iter X.env) (some (assign (.Name y py) X.env))) (Q := fun _ s' => SP X pins D0 .next s') ?_ (fun _ s' q => wpAny_pure q) fun _ _ q => q
  refine wpAny_bind (wpAny_mono (wpAny_comprehension_free (use := some (assign (.Name y py) X.env)) (Q := fun _ s' => SP X pins D0 .next s') rfl hs (comp_clos I.ok S) S.kind S.loc
    (thn (hi pins s σ H _ I h) fun v s1 h1 => thn h1 fun itv s2 h2 => ?_)) (fun _ s' q => wpAny_pure q) fun _ _ q => q)
  obtain ⟨it, fp, tn, J, H2, e, I2, T, st2, f2, hR⟩ := h2
  subst e
  refine comp_block S hc hg ht he I2 T st2 f2 (Q := fun x H1 => gName j x σ H1 D0.nx) hR fun D C m H' s' I' hn hC q => ?_
  refine wpAny_assign_Name (store_ok2 I' hN hj hy (v := .ref D) (u := .ref D) rfl (fun s5 I5 ⟨a, sb, ha⟩ => ?_) hf)
  have hCa : C ≠ a := by
    rcases ha with z | z
    · rw [z]; exact hC.2.1
    · exact fun e => hC.2.2.2.2.1 y a z e.symm
  refine ⟨m, hn.sameBut sb hCa, fun h' hs' => ?_⟩
  refine ⟨_, H', I5.turnedK (t' := s5.toks) (ch := [C]) (fun b hb => by rw [show b = C by simpa using hb]; exact hC) fun b o hb e => (hs'.2 b (by simpa using hb)).trans e, q⟩
end
end L2
namespace L2
open PySem PySem.Spec PyProof.Rows
/-! ### V5. calls in short: a def of the text with its promise -/
def Ok (P : Program) (w : World) (K : PySem.W.Frag) (mg : Str → Option Value) (base : Heap) (CX : CXT) (k : Nat) (x : Str) (ps : List Str) (sp : Sp) : Prop :=
  ∃ f fd, FnOk P w K mg base CX k f fd ps sp ∧ Binds K fd ps [] ∧ PySem.W.keepIn K (.ref f) = true ∧ mg x = some (.ref f)
def Src (K : PySem.W.Frag) (mg : Str → Option Value) (x qual : Str) (st : Stmt) (ps : List Str) : Prop := ∃ f fd, Fun K x qual st f fd ∧ Binds K fd ps [] ∧ mg x = some (.ref f)
section
variable {P : Program} {w : World} {K : PySem.W.Frag} {mg : Str → Option Value} {base : Heap}
theorem Src.ok {x qual : Str} {st : Stmt} {N ps : List Str} {k : Nat} {sp : Sp} (F : Src K mg x qual st ps) (S : FnScope N ps (defScope st)) (len : ∀ vs H Q E, sp vs H Q E → vs.length = ps.length)
    (hbody : ∀ (f : Addr) (cdv : Value) (A : Around) (outer : List Env) (s : Shared) (H : Hp) (vs : List V) (Q : VK) (E : XK), Room k (A.deeper (envOfC qual (defScope st) s.heap.objs.size f cdv)) → sp vs H Q E →
      ∃ t, PSs (cxOf CX0 P w K mg base N qual (defScope st) f cdv A outer s H E).nox (defBody st) t ∧ t { nx := fun _ H' => Q .non H', rt := Q } (start N vs) H) : Ok P w K mg base CX0 (k + 1) x ps sp := by
  obtain ⟨f, fd, F, b, m⟩ := F
  exact ⟨f, fd, F.ok S len fun cdv A outer s H vs Q E hr hsp => hbody f cdv A outer s H vs Q E hr hsp, b, F.kp, m⟩
theorem Ok.imp {CX : CXT} {k : Nat} {x : Str} {ps : List Str} {sp sp' : Sp} (O : Ok P w K mg base CX k x ps sp) (h : ∀ vs H Q E, sp' vs H Q E → sp vs H Q E) : Ok P w K mg base CX k x ps sp' :=
  let ⟨f, fd, F, b, kp, m⟩ := O
  ⟨f, fd, F.imp h, b, kp, m⟩
/-- a class with its __init__ -/
def MkOk (P : Program) (w : World) (K : PySem.W.Frag) (mg : Str → Option Value) (base : Heap) (CX : CXT) (k : Nat) (x : Str) (C : Addr) (ps : List Str) (sp : Sp) : Prop :=
  ∃ f fd, Mk K C f ∧ FnOk P w K mg base CX k f fd ps sp ∧ Binds K fd ps [] ∧ mg x = some (.ref C)
end
section
variable {X : Cx} {CX : CXT} {k j : Nat} {x : Str} {p pos : Pos} {e : Expr} {es : List Expr} {t : TA} {ps : List Str} {sp : Sp} {C : Addr}
theorem pe_callO (O : Ok X.prog X.w X.K X.mg X.base CX0 k x ps sp) (hr : Room j X.A) (hg : Gl X x) (ha : PA X (e :: es) t) (hle : k ≤ j := by decide) (hdb : (x == ("__debug__" : Str)) = false := by decide)
    (he : starEach (e :: es) X.env = (false, eval e X.env) :: starEach es X.env := by rfl) (hpl : (backTo pos (starEach es X.env)).any (·.1) = false := by rfl) : PE X (.Call (.Name x p) (e :: es) [] pos) (tCall sp [] E0 t) := by
  obtain ⟨f, fd, F, b, kp, m⟩ := O
  exact pe_call F (hr.mono hle) hg m kp b .nil pass0 ha hdb he hpl
theorem pe_makeO (O : MkOk X.prog X.w X.K X.mg X.base CX0 k x C ps sp) (hr : Room j X.A) (hg : Gl X x) (ha : PA X (e :: es) t) (hle : k + 1 ≤ j := by decide) (hdb : (x == ("__debug__" : Str)) = false := by decide)
    (he : starEach (e :: es) X.env = (false, eval e X.env) :: starEach es X.env := by rfl) (hpl : (backTo pos (starEach es X.env)).any (·.1) = false := by rfl) : PE X (.Call (.Name x p) (e :: es) [] pos) (tMake C sp [] E0 t) := by
  obtain ⟨f, fd, M, F, b, m⟩ := O
  exact pe_make M F (hr.mono hle) hg m b .nil pass0 ha hdb he hpl
end
/-! ### V6. more built-ins -/
section
variable {X : Cx}
theorem pe_ty {x : Str} {T : String} {pos : Pos} (hg : Gl X x) (hm : X.mg x = none) (hv : bootBuiltins x = some (.type T)) (hn : x ≠ "__name__" := by decide) (hdb : (x == ("__debug__" : Str)) = false := by decide) : PE X (.Name x pos) (tC (.ty T)) :=
  pe_bltn hg hm hv rfl hn hdb
def tyV? : V → Option Value
  | .ty T => some (.type T)
  | .ref C => some (.ref C)
  | _ => none
theorem call_isinst : CallR X (.builtin "isinstance") (fun xs H Q => ∃ x c t v b, xs = [x, c] ∧ TyOf X.K H x t ∧ tyV? c = some v ∧ PySem.W.kitOne X.K t v = some b ∧ Q (.bl b) H) := by
  intro pins s σ H xs us Q I r h
  obtain ⟨x, c, t, v, b, rfl, ty, hc, hk, q⟩ := h
  obtain ⟨u1, u2, rfl, r1, r2⟩ := r.two
  have e2 : u2 = v := by
    cases c with
    | ty T => cases hc; exact r2
    | ref C => cases hc; exact r2
    | _ => cases hc
  subst e2
  exact isinst_ok I r1 ty hk fun tk => ⟨.bl b, H, I.tok tk, rfl, q⟩
theorem kit_int_int (K : PySem.W.Frag) : PySem.W.kitOne K (.type "int") (.type "int") = some true := by kernel_rfl
theorem kit_int_bool (K : PySem.W.Frag) : PySem.W.kitOne K (.type "int") (.type "bool") = some false := by kernel_rfl
theorem kit_list_list (K : PySem.W.Frag) : PySem.W.kitOne K (.type "list") (.type "list") = some true := by kernel_rfl
theorem op_eqL (hu : X.A.units + 64 < cLine) : OpR X (compareOp .Eq) (fun x y H Q => ∃ (a b : Addr) (ns ms : List Int), x = .ref a ∧ y = .ref b ∧ SqL X.K H a (ns.map V.int) ∧ SqL X.K H b (ms.map V.int) ∧ Q (.bl (decide (ns = ms))) H) := by
  intro pins s σ H x y v u Q I rx ry h
  obtain ⟨a, b, ns, ms, rfl, rfl, ha, hb, q⟩ := h
  cases rx
  cases ry
  obtain ⟨i1, r1, p1, z1⟩ := I.list ha
  obtain ⟨i2, r2, p2, z2⟩ := I.list hb
  exact PySem.W.ke_eq_ints p1.isList p2.isList (intsAre_of r1) (intsAre_of r2) hu ⟨.bl _, H, I, rfl, q⟩
theorem op_neL (hu : X.A.units + 64 < cLine) : OpR X (compareOp .NotEq) (fun x y H Q => ∃ (a b : Addr) (ns ms : List Int), x = .ref a ∧ y = .ref b ∧ SqL X.K H a (ns.map V.int) ∧ SqL X.K H b (ms.map V.int) ∧ Q (.bl (!decide (ns = ms))) H) := by
  intro pins s σ H x y v u Q I rx ry h
  obtain ⟨a, b, ns, ms, rfl, rfl, ha, hb, q⟩ := h
  cases rx
  cases ry
  obtain ⟨i1, r1, p1, z1⟩ := I.list ha
  obtain ⟨i2, r2, p2, z2⟩ := I.list hb
  exact PySem.W.ke_ne_ints p1.isList p2.isList (intsAre_of r1) (intsAre_of r2) hu ⟨.bl _, H, I, rfl, q⟩
end
/-! ### V7. the forms one uses -/
/-- a comprehension over a range: Pv i ys H ahead of turn i -/
theorem comp_range {k : Nat} {lo : Int} {n : Nat} {g : TG} {tt : TT} {te : TE} {tl : St} {D : Addr} {Q : Hp → Prop} {H0 : Hp} (Pv : Nat → List V → Hp → Prop) (h0 : Pv 0 [] (upd H0 D (.lst [])))
    (hs : ∀ i ys H, i < n → Pv i ys H → H D = some (.lst ys) → g (.int (lo + i)) (List.replicate k none ++ tl) H fun σ2 H2 => (σ2.length = k + tl.length ∧ σ2.drop k = tl) ∧
      tt σ2 H2 fun b H3 => if b = true then te σ2 H3 fun v H4 => H4 D = some (.lst ys) ∧ ys.length < sizeLine ∧ Pv (i + 1) (ys ++ [v]) (upd H4 D (.lst (ys ++ [v]))) else H3 D = some (.lst ys) ∧ Pv (i + 1) ys H3)
    (hd : ∀ ys H, Pv n ys H → H D = some (.lst ys) → Q H) :
    ∃ W : Nat → Nat → List V → Hp → Prop, (∃ m, W 0 m [] (upd H0 D (.lst []))) ∧ tCompG k (Itr lo n) g tt te tl D Q W := by
  refine ⟨fun i m ys H => m = n - i ∧ i ≤ n ∧ Pv i ys H, ⟨n, by simp, Nat.zero_le _, h0⟩, ?_⟩
  rintro i m ys H ⟨rfl, hi, p⟩ hD
  by_cases hlt : i < n
  · refine .inr ⟨hlt, Pv (i + 1), fun ys' H' q => ⟨n - (i + 1), by omega, rfl, hlt, q⟩, fun x H1 y => ?_⟩
    obtain ⟨e, y⟩ := y
    subst e y
    exact hs i ys _ hlt p hD
  · have e : i = n := by omega
    exact .inl ⟨Nat.le_of_not_lt hlt, hd ys H (by rw [← e]; exact p) hD⟩
/-- .. over a list -/
theorem comp_list {K : PySem.W.Frag} {a : Addr} {xs : List V} {k : Nat} {g : TG} {tt : TT} {te : TE} {tl : St} {D : Addr} {Q : Hp → Prop} {H0 : Hp} (Pv : Nat → List V → Hp → Prop) (h0 : Pv 0 [] (upd H0 D (.lst []))) (hl : ∀ i ys H, i ≤ xs.length → Pv i ys H → SqL K H a xs)
    (hs : ∀ i x ys H, xs[i]? = some x → Pv i ys H → H D = some (.lst ys) → g x (List.replicate k none ++ tl) H fun σ2 H2 => (σ2.length = k + tl.length ∧ σ2.drop k = tl) ∧
      tt σ2 H2 fun b H3 => if b = true then te σ2 H3 fun v H4 => H4 D = some (.lst ys) ∧ ys.length < sizeLine ∧ Pv (i + 1) (ys ++ [v]) (upd H4 D (.lst (ys ++ [v]))) else H3 D = some (.lst ys) ∧ Pv (i + 1) ys H3)
    (hd : ∀ ys H, Pv xs.length ys H → H D = some (.lst ys) → Q H) :
    ∃ W : Nat → Nat → List V → Hp → Prop, (∃ m, W 0 m [] (upd H0 D (.lst []))) ∧ tCompG k (Itl K a) g tt te tl D Q W := by
  refine ⟨fun i m ys H => m = xs.length - i ∧ i ≤ xs.length ∧ Pv i ys H, ⟨xs.length, by simp, Nat.zero_le _, h0⟩, ?_⟩
  rintro i m ys H ⟨rfl, hi, p⟩ hD
  have q := hl i ys H hi p
  by_cases hlt : i < xs.length
  · refine .inr ⟨⟨xs, xs[i], q, by simp [hlt]⟩, Pv (i + 1), fun ys' H' q' => ⟨xs.length - (i + 1), by omega, rfl, hlt, q'⟩, fun x H1 y => ?_⟩
    obtain ⟨e, y⟩ := y
    subst e
    exact hs i x ys _ (y xs q) p hD
  · have e : i = xs.length := by omega
    subst e
    exact .inl ⟨⟨xs, q, Nat.le_refl _⟩, hd ys H p hD⟩
/-- .. over the pairs of two lists -/
theorem comp_zip {K : PySem.W.Frag} {a b : Addr} {xs zs : List V} {k : Nat} {g : TG} {tt : TT} {te : TE} {tl : St} {D : Addr} {Q : Hp → Prop} {H0 : Hp} (Pv : Nat → List V → Hp → Prop) (h0 : Pv 0 [] (upd H0 D (.lst []))) (hl : ∀ i ys H, Pv i ys H → SqL K H a xs ∧ SqL K H b zs)
    (hs : ∀ i x z ys H p, xs[i]? = some x → zs[i]? = some z → Pv i ys H → H D = some (.lst ys) → H p = none → g (.ref p) (List.replicate k none ++ tl) (upd H p (.tup [x, z])) fun σ2 H2 => (σ2.length = k + tl.length ∧ σ2.drop k = tl) ∧
      tt σ2 H2 fun b H3 => if b = true then te σ2 H3 fun v H4 => H4 D = some (.lst ys) ∧ ys.length < sizeLine ∧ Pv (i + 1) (ys ++ [v]) (upd H4 D (.lst (ys ++ [v]))) else H3 D = some (.lst ys) ∧ Pv (i + 1) ys H3)
    (hd : ∀ ys H, Pv (min xs.length zs.length) ys H → H D = some (.lst ys) → Q H) :
    ∃ W : Nat → Nat → List V → Hp → Prop, (∃ m, W 0 m [] (upd H0 D (.lst []))) ∧ tCompG k (Itz K a b) g tt te tl D Q W := by
  refine ⟨fun i m ys H => m = min xs.length zs.length - i ∧ i ≤ min xs.length zs.length ∧ Pv i ys H, ⟨min xs.length zs.length, by simp, Nat.zero_le _, h0⟩, ?_⟩
  rintro i m ys H ⟨rfl, hi, p⟩ hD
  obtain ⟨q1, q2⟩ := hl i ys H p
  by_cases hlt : i < min xs.length zs.length
  · have h1 : i < xs.length := by omega
    have h2 : i < zs.length := by omega
    refine .inr ⟨⟨xs, zs, xs[i], zs[i], q1, q2, by simp [h1], by simp [h2]⟩, Pv (i + 1), fun ys' H' q' => ⟨min xs.length zs.length - (i + 1), by omega, rfl, hlt, q'⟩, fun x H1 y => ?_⟩
    obtain ⟨c, hc, e, y⟩ := y
    have e1 := y xs zs xs[i] zs[i] q1 q2 (by simp [h1]) (by simp [h2])
    subst e e1
    exact hs i xs[i] zs[i] ys H c (by simp [h1]) (by simp [h2]) p hD hc
  · have e : i = min xs.length zs.length := by omega
    refine .inl ⟨⟨xs, zs, q1, q2, ?_⟩, hd ys H (by rw [← e]; exact p) hD⟩
    omega
/-! ### V7b. the same with the written part named: inside a comprehension's block -/
section
variable {X : Cx} {e a b : Expr} {ta tb : TE} {f : Str} {pos : Pos}
theorem pe_fldK (K : PySem.W.Frag) (he : PE X e ta) (hb : attributeBase e f X.env (eval e X.env) = eval e X.env) (hK : X.K = K := by rfl) : PE X (.Attribute e f pos) (tFld K ta f) := by
  subst hK
  exact pe_fld he hb
theorem pg_tupK (K : PySem.W.Frag) (n : Nat) {es : List Expr} {k : Nat} {t : TGs} (hc : X.calm = true) (h : PGs X es t) (hn : (assignEach es X.env).length = n := by rfl) (hst : (assignEach es X.env).findIdx? (·.1) = none := by rfl) (hK : X.K = K := by rfl) : PG X (.Tuple es k pos) (gTup K n t) := by
  subst hK
  exact pg_tup hc h hn hst
end
end L2
namespace L2
open PySem PySem.Spec PyProof.Rows
/-! ### V8. enumerate of a list, from k0 on, where the target is a tuple -/
section
variable {X : Cx}
end
/-! ### V9. set, all, sum, sorted of a list -/
section
variable {X : Cx}
end
section
variable {X : Cx}
theorem all_getD : ∀ (bs : List Bool), (List.range bs.length).all (fun i => bs.getD i false) = bs.all id
  | [] => rfl
  | b :: r => by
    rw [List.length_cons, List.range_succ_eq_map, List.all_cons, List.all_map, List.all_cons]
    have e : ((fun i => (b :: r).getD i false) ∘ Nat.succ) = fun i => r.getD i false := by funext i; rfl
    rw [e, all_getD r]
    rfl
theorem call_allB (hc : X.calm = true) : CallR X (.builtin "all") (fun xs H Q => ∃ (l : Addr) (bs : List Bool), xs = [.ref l] ∧ SqL X.K H l (bs.map V.bl) ∧ Q (.bl (bs.all id)) H) := by
  intro pins s σ H xs us Q I r h
  obtain ⟨l, bs, rfl, hq, q⟩ := h
  obtain ⟨u, rfl, ru⟩ := r.one
  cases ru
  obtain ⟨its, rv, pl, hz⟩ := I.list hq
  have ll : its.length = bs.length := by have := rv.length; rw [List.length_map] at this; exact this.symm
  have hh : X.A.in1.handled = none := I.ok.hd hc
  have lt : l < s.heap.objs.size := by obtain ⟨o, _, e, _⟩ := pl; exact Heap.lt_size e
  refine call_all_walk (wpAny_pyIter_list pl.isList ?_)
  refine ⟨s.heap.objs.size, _, _, _, _, _, fun i => bs.getD i false, rfl, Walks.list hh s.heap.objs.size l (Nat.ne_of_lt lt) its.toArray, ⟨⟨_, Heap.get?_push_size _ rfl, rfl, rfl⟩, pl.isList.at fun o e => Heap.get?_push_of_some _ e⟩, fun i v s' Q' E' hv hQ => ?_, fun h' tk kk => ?_⟩
  · have hv' : its[i]? = some v := by simpa using hv
    have hi : i < bs.length := by rw [← ll]; exact (List.getElem?_eq_some_iff.mp hv').1
    obtain ⟨u, hu, ru⟩ := rv.get (i := i) (x := .bl bs[i]) (by rw [List.getElem?_map, List.getElem?_eq_getElem hi]; rfl)
    rw [hv'] at hu
    cases hu
    cases ru
    have hQ : Q' (bs.getD i false) s' := hQ
    rw [List.getD_eq_getElem?_getD, List.getElem?_eq_getElem hi] at hQ
    exact wpAny_truthy_bool hQ
  · have e : (List.range its.toArray.size).all (fun i => bs.getD i false) = bs.all id := by rw [List.size_toArray, ll, all_getD]
    rw [e]
    exact ⟨.bl _, H, I.kept (t' := tk) fun b o eb => kk b o (by simpa using Nat.ne_of_lt (Heap.lt_size eb)) (Heap.get?_push_of_some _ eb), rfl, q⟩
end
end L2
namespace L2
open PySem PySem.Spec PyProof.Rows
/-! ### V10. an exception of an own class on its way -/
theorem HOk.inB {P : Program} {w : World} {H : Hp} {h h' B : Heap} (x : HOk P w H h) (t : ∀ b u, H b = some u → ∃ o, B.get? b = some o) (k : B.StaysIn h) (k' : B.StaysIn h') : HOk P w H h' := fun a o e =>
  (x a o e).stay (fun b u hb q => by
    have hv : ∃ v, H b = some v := by
      rcases hb with z | z
      · exact ⟨o, by rw [z]; exact e⟩
      · exact ⟨_, z⟩
    obtain ⟨v, hv⟩ := hv
    obtain ⟨ob, hob⟩ := t b v hv
    have := k b ob hob
    rw [q] at this
    cases this
    exact k' b _ hob) (fun _ q => q) fun _ _ q => q
/-- a: the exception, B: what stays beside the frames -/
structure Flies (P : Program) (w : World) (outer : List Env) (H : Hp) (s : Shared) (a : Addr) (B : Heap) (H' : Hp) (s' : Shared) : Prop where
  os : s'.os = s.os
  bare : AllBare s'.gens
  new : s.heap.get? a = none
  un : Un (frs outer) [] H H' s.heap s'.heap
  hok : HOk P w H' s'.heap
  inB : ∀ b o, s.heap.get? b = some o → b ∉ frs outer → ∃ o', B.get? b = some o' ∧ (H b = none → o' = o)
  trk : ∀ b u, H' b = some u → ∃ o, B.get? b = some o
  st : B.StaysIn s'.heap
theorem Flies.on {P : Program} {w : World} {outer : List Env} {H H' : Hp} {s s' : Shared} {a : Addr} {B h' : Heap} (F : Flies P w outer H s a B H' s') (hfr : ∀ b ∈ frs outer, H b = none ∧ ∃ o, s.heap.get? b = some o ∧ ∀ vs, o.data ≠ .fields vs)
    (k : B.StaysIn h') (sm : s'.heap.UpToSlots h') : Flies P w outer H s a B H' { s' with heap := h' } := by
  have fr : ∀ b o, s.heap.get? b = some o → b ∈ frs outer → ∃ sl, h'.get? b = some { o with slots := sl } := fun b o e hb => by
    obtain ⟨n, ob, e', nf⟩ := hfr b hb
    rw [e] at e'
    cases e'
    obtain ⟨sl, q⟩ := F.un.any e n (by simp)
    obtain ⟨sl', q'⟩ := sm b _ q nf
    exact ⟨sl', q'⟩
  refine ⟨F.os, F.bare, F.new, ⟨fun b o e n hb _ => ?_, fun b o e n hb _ => fr b o e hb, F.un.free, fun b o e _ => ?_, F.un.tups, F.un.frzs, F.un.tbls⟩, F.hok.inB F.trk F.st k, F.inB, F.trk, k⟩
  · obtain ⟨o', q, z⟩ := F.inB b o e hb
    rw [z n] at q
    exact k b o q
  · by_cases hb : b ∈ frs outer
    · obtain ⟨sl, q⟩ := fr b o e hb
      exact ⟨_, q⟩
    · obtain ⟨o', q, _⟩ := F.inB b o e hb
      exact ⟨o', k b o' q⟩
section
variable {X : Cx} {pins : List (Addr × Obj)} {σ : St} {H H' : Hp} {s s' : Shared} {a : Addr} {B : Heap}
theorem Inv.frOk (I : Inv X pins σ H s) : ∀ b ∈ frs X.stack, H b = none ∧ ∃ o, s.heap.get? b = some o ∧ ∀ vs, o.data ≠ .fields vs := fun b hb => ⟨I.stkFree b hb, (I.stack.mem hb).2⟩
theorem Inv.offStack (I : Inv X pins σ H s) {b : Addr} {o : Obj} (e : X.s₀.heap.get? b = some o) (hb : b ∉ X.fs) : b ∉ frs X.stack := fun hm => by
  rcases List.mem_cons.mp (I.stkSub b hm) with z | z
  · exact absurd (Heap.lt_size e) (by rw [z]; exact Nat.not_lt.mpr I.ok.above)
  · exact hb z
/-- seen from where the body began -/
theorem Flies.left (F : Flies X.prog X.w X.stack H s a B H' s') (I : Inv X pins σ H s) (hex : X.ex = []) : Flies X.prog X.w X.outer X.H₀ X.s₀ a B H' s' := by
  have noex : ∀ b, b ∉ X.ex := fun b => by rw [hex]; simp
  have news : X.s₀.heap.get? a = none := by
    cases q : X.s₀.heap.get? a with
    | none => rfl
    | some o =>
      obtain ⟨o', e⟩ := I.base.there a o q (noex a)
      rw [F.new] at e
      cases e
  refine ⟨F.os.trans I.os, F.bare, news, ⟨fun b o e n hb _ => ?_, fun b o e n hb _ => ?_, fun b o e n _ => ?_, fun b o e _ => ?_, fun b xs q => F.un.tups b xs (I.base.tups b xs q), fun b o xs q => F.un.frzs b o xs (I.base.frzs b o xs q), fun b ps q => ?_⟩, F.hok, fun b o e hb => ?_, F.trk, F.st⟩
  · exact F.un.keep b o (I.base.keep b o e n hb (noex b)) (I.base.free b o e n (noex b)) (I.offStack e hb) (by simp)
  · obtain ⟨sl, e1⟩ := I.base.slot b o e n hb (noex b)
    obtain ⟨sl', e2⟩ := F.un.any e1 (I.base.free b o e n (noex b)) (by simp)
    exact ⟨sl', e2⟩
  · obtain ⟨o', e1⟩ := I.base.there b o e (noex b)
    exact F.un.free b o' e1 (I.base.free b o e n (noex b)) (by simp)
  · obtain ⟨o', e1⟩ := I.base.there b o e (noex b)
    exact F.un.there b o' e1 (by simp)
  · obtain ⟨m1, e1⟩ := I.base.tbls b ps q
    obtain ⟨m2, e2⟩ := F.un.tbls b _ e1
    exact ⟨m1 ++ m2, by rw [e2, Array.append_assoc]⟩
  · obtain ⟨o1, e1⟩ := I.base.there b o e (noex b)
    obtain ⟨o', q, z⟩ := F.inB b o1 e1 (I.offStack e hb)
    refine ⟨o', q, fun n => ?_⟩
    have e2 := I.base.keep b o e n hb (noex b)
    rw [e1] at e2
    cases e2
    exact z (I.base.free b _ e n (noex b))
/-- at the raise -/
theorem Inv.flies {h' : Heap} {cls : Value} {vs : List Value} (I : Inv X pins σ H s) (hx : Heap.MadeExcOf s.heap h' a cls vs) : Flies X.prog X.w X.stack H s a (PySem.W.hideAll s.heap (frs X.stack)) H { s with heap := h' } := by
  have inb : ∀ b o, s.heap.get? b = some o → b ∉ frs X.stack → (PySem.W.hideAll s.heap (frs X.stack)).get? b = some o := fun b o e hb => PySem.W.hideAll_get _ e hb
  refine ⟨rfl, I.bare, hx.new, Un.kept hx.keeps, I.hok.kept hx.keeps, fun b o e hb => ⟨o, inb b o e hb, fun _ => rfl⟩, fun b u e => ?_, fun b o e => hx.keeps b o (PySem.W.of_hideAll _ e)⟩
  obtain ⟨o, q⟩ : ∃ o, s.heap.get? b = some o := by
    have := I.hok.lt e
    have hk := I.hok b u e
    cases u with
    | lst xs => obtain ⟨_, _, _, _, q⟩ := hk; exact ⟨_, q⟩
    | tup xs => obtain ⟨_, _, _, o, q, _⟩ := hk; exact ⟨_, q⟩
    | dK kvs => obtain ⟨_, _, _, _, o, _, _, q, _⟩ := hk; exact ⟨_, q⟩
    | dT kvs => obtain ⟨_, _, _, _, o, _, _, q, _⟩ := hk; exact ⟨_, q⟩
    | set S n => obtain ⟨o, _, _, _, q, _⟩ := hk; exact ⟨_, q⟩
    | ins C dx fs => obtain ⟨_, _, _, q, _⟩ := hk; exact ⟨_, q⟩
    | own y => exact hk
    | xd fs => obtain ⟨_, ⟨o, _, _, q, _⟩, _⟩ := hk; exact ⟨_, q⟩
    | rng lo hi => obtain ⟨_, _, _, q⟩ := hk; exact ⟨_, q⟩
    | frz ob u => obtain ⟨q, _⟩ := hk; exact ⟨_, q⟩
    | tbl ps => exact ⟨_, (show s.heap.get? b = some _ from hk)⟩
    | met f y => exact ⟨_, (show s.heap.get? b = some _ from hk)⟩
    | ext φ => obtain ⟨_, q, _⟩ := hk; exact q
  refine ⟨o, inb b o q fun hm => ?_⟩
  rw [I.stkFree b hm] at e
  cases e
end
def CXE (P : Program) (w : World) : CXT := fun outer H s E e s' => ∃ (a C : Addr) (a0 : Value) (B : Heap) (H' : Hp), e = .ref a ∧ Flies P w outer H s a B H' s' ∧ Heap.FlyingW B outer a (.ref C) a0 s'.heap ∧ E (.ref C) none H'
section
variable {P : Program} {w : World} {K : PySem.W.Frag} {mg : Str → Option Value} {base : Heap} {N : List Str} {qual : Str} {scope : Scope} {f : Addr} {cd : Value} {A : Around} {outer : List Env} {s0 : Shared} {H0 : Hp} {E : XK}
/-- a callee's exception goes on -/
theorem passE : Passes (CXE P w) (cxOf (CXE P w) P w K mg base N qual scope f cd A outer s0 H0 E) E := by
  intro pins σ H s e s' I hx
  obtain ⟨a, C, a0, B, H', e1, F, fl, hE⟩ := hx
  subst e1
  show wpAny (model P w) (A.deeper (envOfC qual scope s0.heap.objs.size f cd)) (leaving (envOfC qual scope s0.heap.objs.size f cd) (.ref a)) _ _ s'
  refine wpAny_leaves_onW (L := s0.heap.objs.size) I.ok.frames rfl fl fun h' fl' sm => ?_
  exact ⟨a, C, a0, B, H', rfl, (F.on I.frOk fl'.1 sm).left I rfl, fl', hE⟩
/-- an exception that was made here leaves -/
theorem raisedE {pins : List (Addr × Obj)} {σ : St} {H : Hp} {s : Shared} {h' : Heap} {a C : Addr} {vs : List Value} (I : Inv (cxOf (CXE P w) P w K mg base N qual scope f cd A outer s0 H0 E) pins σ H s) (hx : Heap.MadeExcOf s.heap h' a (.ref C) vs) (hE : E (.ref C) none H) :
    (cxOf (CXE P w) P w K mg base N qual scope f cd A outer s0 H0 E).xe (.ref a) { s with heap := h' } := by
  show wpAny (model P w) (A.deeper (envOfC qual scope s0.heap.objs.size f cd)) (leaving (envOfC qual scope s0.heap.objs.size f cd) (.ref a)) _ _ { s with heap := h' }
  have F := I.flies hx
  refine wpAny_leaves_madeW (L := s0.heap.objs.size) (base := PySem.W.hideAll s.heap (frs (envOfC qual scope s0.heap.objs.size f cd :: outer))) (h := s.heap) I.ok.frames rfl (fun b o q => PySem.W.of_hideAll _ q)
    (PySem.W.funFrames_hide I.stack fun env he b hb => List.mem_filterMap.mpr ⟨env, he, hb⟩) hx fun h'' t fl _ _ sm => ?_
  exact ⟨a, C, _, _, H, rfl, (F.on I.frOk fl.1 sm).left I rfl, fl, hE⟩
end
/-! ### V11. the program's own error classes -/
abbrev vErr : List Value := [.type "ValueError", .type "Exception", .type "BaseException", .type "object"]
structure Exc (K : PySem.W.Frag) (mg : Str → Option Value) (x : Str) (C : Addr) (bm : List Value) : Prop where
  bound : mg x = some (.ref C)
  obj : ∃ (N : Addr) (nm q : Str) (bs : List Value) (hdct : Bool) (sn : List Str) (sub : List Value) (ab : Bool) (col : Option Bool) (dd : Option Addr) (k0 k1 k2 k3 k5 : Option Value),
    K.lookup C = some (excClassObj nm q C N bs bm hdct sn sub ab col dd k0 k1 k2 k3 k5 "ValueError.__new__") ∧ PySem.W.nsOkIn K N = true ∧ PySem.W.nsIn K N "__init__" = some none ∧ PySem.W.tailIn K vErr bm = true
theorem Exc.base {K : PySem.W.Frag} {mg : Str → Option Value} {x : Str} {C : Addr} {bm : List Value} (O : Exc K mg x C bm) {h : Heap} (X : K.In h) : bm.contains (.type "BaseException") = true := by
  obtain ⟨N, nm, q, bs, hdct, sn, sub, ab, col, dd, k0, k1, k2, k3, k5, lk, n1, n2, tl⟩ := O.obj
  exact (PySem.W.tail_of_in X tl).hasType PySem.F.excBase_ValueError.hasBase
theorem exc_mk {K : PySem.W.Frag} {mg : Str → Option Value} {x : Str} {C N : Addr} {nm q : Str} {bs bm sub : List Value} {hdct ab : Bool} {sn : List Str} {col : Option Bool} {dd : Option Addr} {k0 k1 k2 k3 k5 : Option Value} (b : mg x = some (.ref C))
    (lk : K.lookup C = some (excClassObj nm q C N bs bm hdct sn sub ab col dd k0 k1 k2 k3 k5 "ValueError.__new__")) (h : PySem.W.excIn K C vErr "ValueError.__new__" = true) : Exc K mg x C bm := by
  unfold PySem.W.excIn at h
  rw [lk] at h
  simp only [Bool.and_eq_true, beq_iff_eq] at h
  obtain ⟨⟨⟨_, h1⟩, h2⟩, h3⟩ := h
  exact ⟨b, N, nm, q, bs, hdct, sn, sub, ab, col, dd, k0, k1, k2, k3, k5, lk, h2, h3, h1⟩
def tRaise (te : TE) (C : Addr) (E : XK) : TS := fun _ σ H => te σ H fun _ H1 => 1 ≤ sizeLine ∧ E (.ref C) none H1
section
variable {P : Program} {w : World} {K : PySem.W.Frag} {mg : Str → Option Value} {base : Heap} {N : List Str} {qual : Str} {scope : Scope} {f : Addr} {cd : Value} {A : Around} {outer : List Env} {s0 : Shared} {H0 : Hp} {E : XK}
theorem ps_raise {x : Str} {C : Addr} {bm : List Value} {e : Expr} {te : TE} {np cpos pos : Pos} (O : Exc K mg x C bm) (hg : Gl (cxOf (CXE P w) P w K mg base N qual scope f cd A outer s0 H0 E) x)
    (he : PE (cxOf (CXE P w) P w K mg base N qual scope f cd A outer s0 H0 E) e te) (hdb : (x == ("__debug__" : Str)) = false := by decide)
    (hs : starEach [e] (cxOf (CXE P w) P w K mg base N qual scope f cd A outer s0 H0 E).env = [(false, eval e (cxOf (CXE P w) P w K mg base N qual scope f cd A outer s0 H0 E).env)] := by rfl) :
    PS (cxOf (CXE P w) P w K mg base N qual scope f cd A outer s0 H0 E) (.Raise (some (.Call (.Name x np) [e] [] cpos)) none pos) (tRaise te C E) := by
  intro pins s σ H D I h
  have KX := I.kIn
  obtain ⟨Nn, nm, q, bs, hdct, sn, sub, ab, col, dd, k0, k1, k2, k3, k5, lk, n1, n2, tl⟩ := O.obj
  have hbase := O.base KX
  have ns0 : base.Ns Nn (base.nsMap Nn) := .of_isNs (PySem.W.isNs_of_in I.ok.mod.kin n1)
  refine wpAny_Raise_call_subT (nm := nm) (q := q) (C := C) (N := Nn) (bs := bs) (bm := bm) (hdct := hdct) (sn := sn) (sub := sub) (ab := ab) (col := col) (dd := dd) (k0 := k0) (k1 := k1) (k2 := k2) (k3 := k3) (k5 := k5) (mN := base.nsMap Nn)
    PySem.F.excBase_ValueError hbase (I.ok.hd rfl) (by rw [hs]; rfl) (PySem.W.nsMap_none_of_in I.ok.mod.kin n1 n2) (ld_glob I hg O.bound ⟨rfl, ?_⟩ hdb)
  have ha := pa_cons he (pa_nil (X := cxOf (CXE P w) P w K mg base N qual scope f cd A outer s0 H0 E)) hs
  have hz := ha cpos pins s σ H (fun vs H1 => vs.length ≤ sizeLine ∧ E (.ref C) none H1) I h
  rw [hs] at hz ⊢
  refine Calls.evalArgs_plain (thn hz fun us s2 ⟨vs, H1, I1, r1, hl, q1⟩ => ?_)
  exact ⟨rfl, by rw [← r1.length]; exact hl, I1.kIn _ _ lk, ns0.keeps I1.bk, PySem.W.tail_of_in I1.kIn tl, fun h' a hx => raisedE I1 hx q1⟩
end
/-! ### V12. texts put together of words and ints -/
def PJ (X : Cx) (es : List Expr) (n : Nat) (t : St → Hp → (Hp → Prop) → Prop) : Prop := ∀ (pins : List (Addr × Obj)) (s : Shared) (σ : St) (H : Hp) (Q : Hp → Prop) (out : Str), Inv X pins σ H s → out.length + n ≤ sizeLine → t σ H Q →
  wpAny (model X.prog X.w) X.A (joinParts out (evalEach es X.env)) (fun u s' => ∃ x tk H', u = Value.str x tk ∧ Inv X pins σ H' s' ∧ Q H') X.xe s
section
variable {X : Cx} {n : Nat} {es : List Expr} {t : St → Hp → (Hp → Prop) → Prop}
end
/-! ### V13. try, except C as n -/
def Cx.tried (X : Cx) (pins : List (Addr × Obj)) (E' : Value → Shared → Prop) : Cx := { X with pn := X.pn ++ pins, xe := E' }
def Cx.caught (X : Cx) (a : Addr) : Cx := { X with A := X.A.mark (some (.ref a)), calm := false, xe := fun _ _ => False }
def ExAt (a C : Addr) : HO := .ext fun h => ∃ o, h.get? a = some o ∧ o.cls = .ref C
section
variable {X : Cx} {pins pins' : List (Addr × Obj)} {σ : St} {H H' : Hp} {s s' : Shared} {E' : Value → Shared → Prop} {a C : Addr} {a0 : Value} {B : Heap}
theorem Cx.Ok.tried (ok : X.Ok) : (X.tried pins E').Ok := ⟨ok.mod, ok.kind, ok.glob, ok.blt, ok.above, ok.inj, ok.has, ok.cab, ok.hd, ok.frames, ok.stk, ok.exf, ok.bs, ok.bsz, ok.noex, ok.exfs, ok.funs, ok.frf⟩
theorem Cx.Ok.untried (ok : (X.tried pins E').Ok) : X.Ok := ⟨ok.mod, ok.kind, ok.glob, ok.blt, ok.above, ok.inj, ok.has, ok.cab, ok.hd, ok.frames, ok.stk, ok.exf, ok.bs, ok.bsz, ok.noex, ok.exfs, ok.funs, ok.frf⟩
theorem Cx.Ok.caught (ok : X.Ok) : (X.caught a).Ok := ⟨ok.mod, ok.kind, ok.glob, ok.blt, ok.above, ok.inj, ok.has, ok.cab, fun z => (nomatch z), ok.frames, ok.stk, ok.exf, ok.bs, ok.bsz, ok.noex, ok.exfs, ok.funs, ok.frf⟩
theorem Inv.tried (I : Inv X pins σ H s) : Inv (X.tried pins E') [] σ H s := ⟨I.ok.tried, I.os, I.bare, I.base, I.loc, I.cell, I.free, I.freeC, fun p hp => I.pin p (by simpa [Cx.tried] using hp), I.hok, I.len⟩
theorem Inv.untried (I : Inv (X.tried pins E') pins' σ H s) : Inv X pins σ H s := ⟨I.ok.untried, I.os, I.bare, I.base, I.loc, I.cell, I.free, I.freeC, fun p hp => I.pin p (List.mem_append_left _ hp), I.hok, I.len⟩
theorem Inv.caught (I : Inv X pins σ H s) : Inv (X.caught a) pins σ H s := ⟨I.ok.caught, I.os, I.bare, I.base, I.loc, I.cell, I.free, I.freeC, I.pin, I.hok, I.len⟩
theorem Inv.uncaught (I : Inv (X.caught a) pins σ H s) (ok : X.Ok) : Inv X pins σ H s := ⟨ok, I.os, I.bare, I.base, I.loc, I.cell, I.free, I.freeC, I.pin, I.hok, I.len⟩
theorem SP.untried {D : Ends} {f : Flow} (h : SP (X.tried pins E') [] D f s') : SP X pins D f s' := by
  cases f with
  | next => obtain ⟨σ', H', I, q⟩ := h; exact ⟨σ', H', I.untried, q⟩
  | brk => obtain ⟨σ', H', I, q⟩ := h; exact ⟨σ', H', I.untried, q⟩
  | cont => obtain ⟨σ', H', I, q⟩ := h; exact ⟨σ', H', I.untried, q⟩
  | ret u => obtain ⟨v, σ', H', I, r, q⟩ := h; exact ⟨v, σ', H', I.untried, r, q⟩
/-- an exception has come to the frame that catches it -/
def Landed (X : Cx) (pins : List (Addr × Obj)) (σ : St) (a C : Addr) (H' : Hp) (s' : Shared) : Prop :=
  ∃ (H : Hp) (s : Shared) (a0 : Value) (B : Heap), Inv X pins σ H s ∧ Flies X.prog X.w X.stack H s a B H' s' ∧ Heap.FlyingW B X.stack a (.ref C) a0 s'.heap
theorem Flies.fresh (F : Flies X.prog X.w X.stack H s a B H' s') (fl : Heap.FlyingW B X.stack a (.ref C) a0 s'.heap) : H' a = none := by
  cases q : H' a with
  | none => rfl
  | some u =>
    obtain ⟨o, e⟩ := F.trk a u q
    rw [fl.2.1] at e
    cases e
theorem Landed.fresh (L : Landed X pins σ a C H' s') : H' a = none := let ⟨_, _, _, _, _, F, fl⟩ := L; F.fresh fl
theorem Landed.inv (L : Landed X pins σ a C H' s') : Inv X pins σ (upd H' a (ExAt a C)) s' := by
  have na := L.fresh
  obtain ⟨H, s, a0, B, I, F, fl⟩ := L
  have ne : ∀ b o, s.heap.get? b = some o → b ≠ a := fun b o e z => by rw [z, F.new] at e; cases e
  refine I.call' (ch := []) F.os ⟨F.un.keep, F.un.slot, fun b o e n hx => ?_, F.un.there, fun b xs e => ?_, fun b o xs e => ?_, fun b ps e => ?_⟩ (fun b o e => ?_) F.bare (fun b z => absurd z (by simp))
  · rw [upd_ne (ne b o e)]
    exact F.un.free b o e n hx
  · have q := F.un.tups b xs e
    rw [upd_ne (ne_of_none q na)]
    exact q
  · have q := F.un.frzs b o xs e
    rw [upd_ne (ne_of_none q na)]
    exact q
  · obtain ⟨m, q⟩ := F.un.tbls b ps e
    exact ⟨m, by rw [upd_ne (ne_of_none q na)]; exact q⟩
  · by_cases hb : b = a
    · subst hb
      rw [upd_same] at e
      cases e
      obtain ⟨ob, h1, h2⟩ := fl.there
      exact ⟨⟨ob, h1, h2⟩, ⟨ob, h1⟩, fun g1 g2 ⟨o, e1, e2⟩ k => ⟨o, k o e1, e2⟩⟩
    · rw [upd_ne hb] at e
      exact (F.hok b o e).stay (fun _ _ _ q => q) (fun c q => by rw [upd_ne (ne_of_none q na)]; exact q) fun c xs q => by rw [upd_ne (ne_of_none q na)]; exact q
theorem Landed.on {h' : Heap} (L : Landed X pins σ a C H' s') (h : ∀ (B : Heap) (a0 : Value), Heap.FlyingW B X.stack a (.ref C) a0 s'.heap → Heap.FlyingW B X.stack a (.ref C) a0 h') (sm : s'.heap.UpToSlots h') : Landed X pins σ a C H' { s' with heap := h' } := by
  obtain ⟨H, s, a0, B, I, F, fl⟩ := L
  have fl' := h B a0 fl
  exact ⟨H, s, a0, B, I, F.on I.frOk fl'.1 sm, fl'⟩
def Catches (X : Cx) (pins : List (Addr × Obj)) (E' : Value → Shared → Prop) (Ek : XK) (σ : St) : Prop := ∀ H a C H' s' (s : Shared) (a0 : Value) (B : Heap), Inv X pins σ H s → Flies X.prog X.w X.stack H s a B H' s' → Heap.FlyingW B X.stack a (.ref C) a0 s'.heap → Ek (.ref C) none H' → E' (.ref a) s'
end
/-- a call that may raise, straight in a try -/
def tCallT (sp : Sp) (σ0 : St) (Ek : XK) (t : TA) : TE := fun σ H Q => σ = σ0 ∧ t σ H fun vs H1 => sp vs H1 Q Ek
section
variable {X : Cx} {pins : List (Addr × Obj)} {E' : Value → Shared → Prop} {Ek : XK} {σ0 : St} {k j : Nat} {x : Str} {p pos : Pos} {e : Expr} {es : List Expr} {t : TA} {ps : List Str} {sp : Sp}
theorem pe_callT (O : Ok X.prog X.w X.K X.mg X.base (CXE X.prog X.w) k x ps sp) (hr : Room j X.A) (hc : Catches X pins E' Ek σ0) (hg : Gl (X.tried pins E') x) (ha : PA (X.tried pins E') (e :: es) t) (hle : k ≤ j := by decide) (hdb : (x == ("__debug__" : Str)) = false := by decide)
    (he : starEach (e :: es) (X.tried pins E').env = (false, eval e (X.tried pins E').env) :: starEach es (X.tried pins E').env := by rfl) (hpl : (backTo pos (starEach es (X.tried pins E').env)).any (·.1) = false := by rfl) :
    PE (X.tried pins E') (.Call (.Name x p) (e :: es) [] pos) (tCallT sp σ0 Ek t) := by
  intro pins' s σ H Q I h
  obtain ⟨f, fd, F, b, kp, m⟩ := O
  obtain ⟨eσ, h⟩ := h
  subst eσ
  refine wpAny_Call_Name_kw (ld_glob I hg m ?_ hdb)
  refine PySem.W.callWith_K (h₀ := X.base) I.ok.mod.kin kp (thn (ha pos pins' s σ H _ I h) fun us s1 ⟨vs, H1, I1, r, q⟩ => ⟨I1.kIn, ?_⟩) he hpl
  have hl : us.length = ps.length := by rw [← r.length]; exact F.len _ _ _ _ q
  have hbd : BindsTo s1 fd ⟨us, []⟩ (ps.zip us) := by
    have := b s1 us I1.kIn (by rw [List.append_nil]; exact hl)
    rw [List.append_nil] at this
    exact this
  refine wpAny_call (codeAny_mono (F.run X.A X.stack s1 H1 ⟨us, []⟩ us vs Q Ek (hr.mono hle) I1.env0 hbd r q) fun r s' hq => ?_)
  cases r with
  | error ev =>
    obtain ⟨a, C, a0, B, H', e1, Fl, fl, hE⟩ := hq
    subst e1
    exact hc H1 a C H' s' s1 a0 B I1.untried Fl fl hE
  | ok fl =>
    cases fl with
    | ret u => exact I1.after hq
    | next => exact False.elim hq
    | brk => exact False.elim hq
    | cont => exact False.elim hq
end
/-- a name of the frame goes; nothing is said of the others -/
theorem Inv.forget {X : Cx} {pins : List (Addr × Obj)} {σ : St} {H : Hp} {s : Shared} {h' : Heap} {m' : Str → Option Value} {t' : Nat} (I : Inv X pins σ H s) (hn : h'.Ns X.env.locals m') (sb : Heap.SameBut X.env.locals s.heap h') : Inv X pins (List.replicate X.N.length none) H { s with heap := h', toks := t' } := by
  have ne0 : ∀ b o, X.s₀.heap.get? b = some o → b ≠ X.env.locals := fun b o e => Nat.ne_of_lt (Nat.lt_of_lt_of_le (Heap.lt_size e) I.ok.above)
  refine ⟨I.ok, I.os, I.bare, ⟨fun b o e n hb hx => (sb.2 b (ne0 b o e)).trans (I.base.keep b o e n hb hx), fun b o e n hb hx => ?_, I.base.free, fun b o e hx => ?_, I.base.tups, I.base.frzs, I.base.tbls⟩, ⟨m', hn, fun j y v e1 e2 e3 => ?_⟩, fun y c e => ?_, I.free, I.freeC, fun p hp => ?_, fun b ob e => ?_, by simp⟩
  · obtain ⟨sl, q⟩ := I.base.slot b o e n hb hx
    exact ⟨sl, (sb.2 b (ne0 b o e)).trans q⟩
  · obtain ⟨o', q⟩ := I.base.there b o e hx
    exact ⟨o', (sb.2 b (ne0 b o e)).trans q⟩
  · rw [List.getElem?_replicate] at e2
    split at e2 <;> cases e2
  · obtain ⟨v, z⟩ := I.cell y c e
    exact ⟨v, z.sameBut sb (I.cne y c e)⟩
  · obtain ⟨e, n, ne, nf, dd⟩ := I.pin p hp
    exact ⟨(sb.2 p.1 ne).trans e, n, ne, nf, dd⟩
  · refine (I.hok b ob e).stay (fun c u hc q => (sb.2 c fun z => ?_).trans q) (fun _ q => q) fun _ _ q => q
    rcases hc with hc | hc
    · rw [← hc, z, I.free] at e
      cases e
    · rw [z, I.free] at hc
      cases hc
/-- the clauses; C: the exception's class, a: where it stands -/
abbrev TH := Addr → Addr → Ends → St → Hp → Prop
def PH (X : Cx) (hs : List ExceptHandler) (t : TH) : Prop := ∀ (pins : List (Addr × Obj)) (σ : St) (H' : Hp) (s' : Shared) (a C : Addr) (D : Ends), Landed X pins σ a C H' s' → t C a D σ H' → wpAny (model X.prog X.w) X.A (handleBy (.ref a) X.env hs) (SP X pins D) X.xe s'
def noClause : TH := fun _ _ _ _ _ => False
theorem ph_nil {X : Cx} : PH X [] noClause := fun _ _ _ _ _ _ _ _ h => h.elim
section
variable {M : Model} {A : Around} {E : Value → Shared → Prop} {h : Heap} {g : Array GenState} {d : Drawn} {t : Nat} {os : OsState}
theorem excMatches_own {nm q nm' q' : Str} {C N D N' : Addr} {bs bm bs' bm' : List Value} {hdct hdct' : Bool} {sn sn' : List Str} {sub sub' : List Value} {ab ab' : Bool} {col col' : Option Bool} {dd dd' : Option Addr} {k0 k1 k2 k3 k5 j0 j1 j2 j3 j5 : Option Value} {newId newId' : String}
    {e : Addr} {oe : Obj} {Q : Bool → Shared → Prop} (hC : h.get? C = some (excClassObj nm q C N bs bm hdct sn sub ab col dd k0 k1 k2 k3 k5 newId)) (hD : h.get? D = some (excClassObj nm' q' D N' bs' bm' hdct' sn' sub' ab' col' dd' j0 j1 j2 j3 j5 newId'))
    (he : h.get? e = some oe) (hcls : oe.cls = .ref C) (hbase : bm'.contains (.type "BaseException") = true) {b : Bool} (hb : (Value.ref C :: bm).contains (.ref D) = b) (hq : Q b ⟨h, g, d, t, os⟩) : wpAny M A (excMatches (.ref e) (.ref D)) Q E ⟨h, g, d, t, os⟩ := by
  have hcB : (Value.ref D :: bm').contains (.type "BaseException") = true := by rw [List.contains_cons, hbase, Bool.or_true]
  have f := tc_notTuple
  unfold excMatches
  repeat (first | (with_reducible refine wpAny_loadPart_at he ?_; rw [hcls]) | with_reducible refine wpAny_loadPart_at hD ?_ | (with_reducible refine wpAny_isSubtype_exc hD ?_; rw [hcB]) | (with_reducible refine wpAny_isSubtype_exc hC ?_; rw [hb]) | wp_step)
  cases b <;> (repeat wp_step) <;> exact hq
end
/-- what the handler's suite is to end with: only a return -/
def Ends.only (D : Ends) : Ends := { nx := fun _ _ => False, rt := D.rt }
section
variable {X : Cx} {i : Nat} {x n y : Str} {np pos : Pos} {b₀ : Stmt} {suite : List Stmt} {rest : List ExceptHandler} {ts : TS} {tr : TH}
def tClause (K : PySem.W.Frag) (mg : Str → Option Value) (Dc : Addr) (i : Nat) (ts : TS) (tr : TH) : TH := fun C a D σ H => ∃ (y : Str) (bm : List Value) (b : Bool), Exc K mg y C bm ∧ (Value.ref C :: bm).contains (.ref Dc) = b ∧
  if b = true then (∀ a, H a = none → ts D.only (σ.set i (some (.ref a))) (upd H a (ExAt a C))) else tr C a D σ H
theorem ph_as {Dc : Addr} {bmD : List Value} (O : Exc X.K X.mg x Dc bmD) (hg : Gl X x) (hN : X.N.Nodup) (hi : X.N[i]? = some n) (hl : X.env.scope.names.lookup n = some .local) (hs : ∀ a, PSs (X.caught a) (b₀ :: suite) ts) (hr : PH X rest tr)
    (hk : X.env.kindOf n = some .local := by rfl) (hdb : (x == ("__debug__" : Str)) = false := by decide) : PH X (.ExceptHandler (some (.Name x np)) (some n) (b₀ :: suite) pos :: rest) (tClause X.K X.mg Dc i ts tr) := by
  intro pins σ H' s' a C D L h
  obtain ⟨y, bm, b, OC, hb, h⟩ := h
  have I := L.inv
  have ok := I.ok
  obtain ⟨Nn, nm, q, bs, hdct, sn, sub, ab, col, dd, k0, k1, k2, k3, k5, lkD, _, _, _⟩ := O.obj
  obtain ⟨Nn', nm', q', bs', hdct', sn', sub', ab', col', dd', j0, j1, j2, j3, j5, lkC, _, _, _⟩ := OC.obj
  have hbase := O.base I.kIn
  refine wpAny_handleBy_cons (codeAny_handlers_test (ld_glob (X := X.caught a) (I.caught (a := a)) hg O.bound ?_ hdb)) (by intro z; cases z)
  obtain ⟨oe, he, hcls⟩ : ∃ o, s'.heap.get? a = some o ∧ o.cls = .ref C := (I.hok a _ upd_same).1
  have hC := I.kIn _ _ lkC
  have hD := I.kIn _ _ lkD
  obtain ⟨hp, g, d, tk, os⟩ := s'
  refine excMatches_own hC hD he hcls hbase hb ?_
  cases b with
  | false => exact hr pins σ H' _ a C D L h
  | true =>
    have h : ∀ a, H' a = none → ts D.only (σ.set i (some (.ref a))) (upd H' a (ExAt a C)) := h
    refine codeAny_handlers_suite_as ?_
    obtain ⟨H0, s0, a0, B, I0, F0, fl0⟩ := id L
    refine lands_againW fl0 fun h6 fl6 sm6 => ?_
    have L6 : Landed X pins σ a C H' ⟨h6, g, d, tk, os⟩ := ⟨H0, s0, a0, B, I0, F0.on I0.frOk fl6.1 sm6, fl6⟩
    refine store_ok (X := X) (v := .ref a) L6.inv hN hi (.inl hl) rfl (fun s7 I7 => ?_) (.inr hl)
    refine wpAny_mono (hs a pins s7 _ _ D.only I7.caught (h a L.fresh)) (fun f s8 q8 => ?_) (fun _ _ z => False.elim z)
    cases f with
    | next => obtain ⟨_, _, _, z⟩ := q8; exact False.elim z
    | brk => obtain ⟨_, _, _, z⟩ := q8; exact False.elim z
    | cont => obtain ⟨_, _, _, z⟩ := q8; exact False.elim z
    | ret u =>
      obtain ⟨v, σ8, H8, I8, r8, q8⟩ := q8
      obtain ⟨m8, ns8, _⟩ := I8.loc
      refine wpAny_nameGoes hk ns8 (by rw [ok.kind]; rfl) fun h9 m9 ns9 sb9 => ?_
      exact ⟨v, _, H8, (I8.uncaught ok).forget ns9 sb9, r8, q8⟩
def tTry (tb : XK → St → TS) (th : TH) : TS := fun D σ H => tb (fun c _ H' => ∃ C, c = .ref C ∧ ∀ a, H' a = none → th C a D σ H') σ D σ H
theorem ps_try {body : List Stmt} {h₀ : ExceptHandler} {hs : List ExceptHandler} {tb : XK → St → TS} {th : TH} (hX : X.stack = X.env :: X.outer) (hf : X.env.frame = some X.env.locals)
    (hb : ∀ (pins : List (Addr × Obj)) (E' : Value → Shared → Prop) (Ek : XK) (σ0 : St), Catches X pins E' Ek σ0 → PSs (X.tried pins E') body (tb Ek σ0)) (hh : PH X (h₀ :: hs) th) : PS X (.Try body (h₀ :: hs) [] [] pos) (tTry tb th) := by
  intro pins s σ H D I h
  refine wpAny_Try_except (wpAny_mono (hb pins _ _ σ (fun H1 a C H' s' s1 a0 B I1 F fl hE => ?_) [] s σ H D I.tried h) (fun f s1 q => ?_) fun _ _ z => z)
  · obtain ⟨C', eC, hth⟩ := hE
    cases eC
    have fl1 := fl
    rw [hX] at fl1
    have hfr : X.A.frames = some (X.env :: X.outer) := by rw [I.ok.frames, hX]
    refine wpAny_looks_onW hfr hf fl1 fun h4 held sm4 => ?_
    refine wpAny_landsW held fun h5 fl5 sm5 => ?_
    rw [← hX] at fl5
    exact hh pins σ H' _ a C D ⟨H1, s1, a0, B, I1, F.on I1.frOk fl5.1 (sm4.trans sm5), fl5⟩ (hth a (F.fresh fl))
  · cases f with
    | next => exact wpAny_execs_nil (SP.untried (f := .next) q)
    | brk => exact SP.untried (f := .brk) q
    | cont => exact SP.untried (f := .cont) q
    | ret u => exact SP.untried (f := .ret u) q
theorem PS.nox {X : Cx} {st : Stmt} {t : TS} (h : PS X.nox st t) : PS X st t := fun pins s σ H D I hw =>
  wpAny_mono (h pins s σ H D (I.wish _) hw) (fun _ _ q => q.unwish) fun _ _ z => z.elim
end
section
variable {P : Program} {w : World} {K : PySem.W.Frag} {mg : Str → Option Value} {base : Heap}
/-- a def that may raise -/
theorem Src.okE {x qual : Str} {st : Stmt} {N ps : List Str} {k : Nat} {sp : Sp} (F : Src K mg x qual st ps) (S : FnScope N ps (defScope st)) (len : ∀ vs H Q E, sp vs H Q E → vs.length = ps.length)
    (hbody : ∀ (f : Addr) (cdv : Value) (A : Around) (outer : List Env) (s : Shared) (H : Hp) (vs : List V) (Q : VK) (E : XK), Room k (A.deeper (envOfC qual (defScope st) s.heap.objs.size f cdv)) → sp vs H Q E →
      ∃ t, PSs (cxOf (CXE P w) P w K mg base N qual (defScope st) f cdv A outer s H E) (defBody st) t ∧ t { nx := fun _ H' => Q .non H', rt := Q } (start N vs) H) : Ok P w K mg base (CXE P w) (k + 1) x ps sp := by
  obtain ⟨f, fd, F, b, m⟩ := F
  obtain ⟨oc, od, kV, doc, pm, an, cdv, ct, osl, rfl, lk, hcd⟩ := F.ex
  exact ⟨f, _, fn_of lk hcd S len fun A outer s H vs Q E hr hsp => hbody f cdv A outer s H vs Q E hr hsp, b, F.kp, m⟩
end
/-! a raising def called in a def that lets the exception pass -/
section
variable {P : Program} {w : World} {K : PySem.W.Frag} {mg : Str → Option Value} {base : Heap} {N : List Str} {qual : Str} {scope : Scope} {f : Addr} {cd : Value} {A : Around} {outer : List Env} {s0 : Shared} {H0 : Hp} {E : XK} {k j : Nat} {x : Str} {p pos : Pos} {e : Expr} {es : List Expr} {t : TA} {ps : List Str} {sp : Sp}
theorem pe_callP (O : Ok P w K mg base (CXE P w) k x ps sp) (hr : Room j (cxOf (CXE P w) P w K mg base N qual scope f cd A outer s0 H0 E).A) (hg : Gl (cxOf (CXE P w) P w K mg base N qual scope f cd A outer s0 H0 E) x) (ha : PA (cxOf (CXE P w) P w K mg base N qual scope f cd A outer s0 H0 E) (e :: es) t)
    (hle : k ≤ j := by decide) (hdb : (x == ("__debug__" : Str)) = false := by decide) (he : starEach (e :: es) (cxOf (CXE P w) P w K mg base N qual scope f cd A outer s0 H0 E).env = (false, eval e (cxOf (CXE P w) P w K mg base N qual scope f cd A outer s0 H0 E).env) :: starEach es (cxOf (CXE P w) P w K mg base N qual scope f cd A outer s0 H0 E).env := by rfl)
    (hpl : (backTo pos (starEach es (cxOf (CXE P w) P w K mg base N qual scope f cd A outer s0 H0 E).env)).any (·.1) = false := by rfl) :
    PE (cxOf (CXE P w) P w K mg base N qual scope f cd A outer s0 H0 E) (.Call (.Name x p) (e :: es) [] pos) (tCall sp [] E t) := by
  obtain ⟨g, fd, F, b, kp, m⟩ := O
  exact pe_call F (hr.mono hle) hg m kp b .nil passE ha hdb he hpl
end
/-! ### V14. isinstance of an exception -/
theorem exAnswers {K : PySem.W.Frag} {a C : Addr} {c : Value} (e : PySem.W.kitOne K (.ref C) c = some true) : Answers (fun s => K.In s.heap ∧ ∃ o, s.heap.get? a = some o ∧ o.cls = .ref C) (.ref a) c true := by
  intro dep tk prog w A R s ⟨⟨X, o, h1, h2⟩, hq⟩
  obtain ⟨hp, g, d, tt, os⟩ := s
  have LT : PySem.W.Looks (model prog w) hp (typeOf (.ref a)) (.ref C) := h2 ▸ (PySem.W.Looks.ld h1).andThen .now
  unfold PySem.W.kitOne at e
  unfold Builtin.«isinstance.nested»
  refine wpAny_bind (LT.at ?_)
  by_cases q : (Value.ref C == c) = true
  · rw [if_pos q]
    first | exact wpAny_bind (wpAny_rule (hq tt)) | exact wpAny_bind (wpAny_rule (wpAny_pure (hq tt)))
  · rw [if_neg q] at e ⊢
    obtain ⟨z1, z2, z3⟩ := PySem.W.kit_cls (M := model prog w) X e
    refine wpAny_bind (z1.at ?_)
    rw [if_pos (by decide)]
    k_delta "plainIsInstance"
    have LI : PySem.W.Looks (model prog w) hp (isInstance (.ref a) c) true := LT.andThen z3
    refine wpAny_bind (wpAny_bind (z2.at ?_))
    simp only [Bool.not_true, Bool.false_eq_true, if_false]
    refine wpAny_bind (LI.at ?_)
    first
      | exact wpAny_pure (wpAny_pure (hq tt))
      | (simp only [if_true]; first | exact wpAny_pure (wpAny_pure (hq tt)) | exact wpAny_pure (hq tt))
theorem call_isinstX {X : Cx} : CallR X (.builtin "isinstance") (fun xs H Q => ∃ (a C : Addr) (vc : V) (v : Value), xs = [.ref a, vc] ∧ H a = some (ExAt a C) ∧ tyV? vc = some v ∧ PySem.W.kitOne X.K (.ref C) v = some true ∧ Q (.bl true) H) := by
  intro pins s σ H xs us Q I r h
  obtain ⟨a, C, vc, v, rfl, ha, hc, hk, q⟩ := h
  obtain ⟨u1, u2, rfl, r1, r2⟩ := r.two
  cases r1
  have e2 : u2 = v := by
    cases vc with
    | ty T => cases hc; exact r2
    | ref D => cases hc; exact r2
    | _ => cases hc
  subst e2
  have he : ∃ o, s.heap.get? a = some o ∧ o.cls = .ref C := (I.hok a _ ha).1
  exact call_isinstance (S := fun _ R s => (X.K.In s.heap ∧ ∃ o, s.heap.get? a = some o ∧ o.cls = .ref C) ∧ ∀ tk, R (.ok (.ret (.bool true))) { s with toks := tk })
    (fun prog w A R s hs => isinstance_outer (exAnswers hk 0 _ prog w A R s hs) (by intro z; cases z)) ⟨⟨I.kIn, he⟩, fun tk => ⟨.bl true, H, I.tok tk, rfl, q⟩⟩
theorem call_isinstXK {X : Cx} (K : PySem.W.Frag) (hK : X.K = K := by rfl) : CallR X (.builtin "isinstance") (fun xs H Q => ∃ (a C : Addr) (vc : V) (v : Value), xs = [.ref a, vc] ∧ H a = some (ExAt a C) ∧ tyV? vc = some v ∧ PySem.W.kitOne K (.ref C) v = some true ∧ Q (.bl true) H) := by
  subst hK
  exact call_isinstX
end L2
namespace L2
open PySem PySem.Spec PyProof.Rows
/-! ### V15. ways that meet: J is what holds where they do -/
section
variable {X : Cx}
end
end L2
namespace L2
open PySem PySem.Spec PyProof.Rows
open PySem.W (Dat kqdP kqdPs kqdOk)
/-! ### V16. values as data: lists and tuples to any depth -/
mutual
inductive RepD (H : Hp) : V → Dat → Prop
  | non : RepD H .non .none
  | int (i : Int) : RepD H (.int i) (.int i)
  | str (x : Str) : RepD H (.str x) (.str x)
  | bl (b : Bool) : RepD H (.bl b) (.bool b)
  | lst {a : Addr} {xs : List V} {ds : List Dat} (e : H a = some (.lst xs)) (r : RepDs H xs ds) : RepD H (.ref a) (.list ds)
  | tup {a : Addr} {xs : List V} {ds : List Dat} (e : H a = some (.tup xs)) (r : RepDs H xs ds) : RepD H (.ref a) (.tuple ds)
inductive RepDs (H : Hp) : List V → List Dat → Prop
  | nil : RepDs H [] []
  | cons {x : V} {d : Dat} {xs : List V} {ds : List Dat} (h : RepD H x d) (t : RepDs H xs ds) : RepDs H (x :: xs) (d :: ds)
end
mutual
theorem RepD.same {H H' : Hp} (s : Same H H') : ∀ {x : V} {d : Dat}, RepD H x d → RepD H' x d
  | _, _, .non => .non
  | _, _, .int i => .int i
  | _, _, .str x => .str x
  | _, _, .bl b => .bl b
  | _, _, .lst e r => .lst (s _ _ e) (RepDs.same s r)
  | _, _, .tup e r => .tup (s _ _ e) (RepDs.same s r)
theorem RepDs.same {H H' : Hp} (s : Same H H') : ∀ {xs : List V} {ds : List Dat}, RepDs H xs ds → RepDs H' xs ds
  | _, _, .nil => .nil
  | _, _, .cons h t => .cons (RepD.same s h) (RepDs.same s t)
end
theorem RepDs.ints {H : Hp} : ∀ (ns : List Int), RepDs H (ns.map V.int) (ns.map Dat.int)
  | [] => .nil
  | n :: ns => .cons (.int n) (RepDs.ints ns)
theorem RepDs.len {H : Hp} : ∀ {xs : List V} {ds : List Dat}, RepDs H xs ds → xs.length = ds.length
  | _, _, .nil => rfl
  | _, _, .cons _ t => by rw [List.length_cons, List.length_cons, RepDs.len t]
theorem RepDs.snoc {H : Hp} {x : V} {d : Dat} (h : RepD H x d) : ∀ {xs : List V} {ds : List Dat}, RepDs H xs ds → RepDs H (xs ++ [x]) (ds ++ [d])
  | _, _, .nil => .cons h .nil
  | _, _, .cons g t => .cons g (RepDs.snoc h t)
theorem RepDs.get {H : Hp} : ∀ {xs : List V} {ds : List Dat} {i : Nat} {x : V}, RepDs H xs ds → xs[i]? = some x → ∃ d, ds[i]? = some d ∧ RepD H x d
  | _, _, _, _, .nil, e => by simp at e
  | _, _, 0, _, .cons h _, e => by simp at e; subst e; exact ⟨_, rfl, h⟩
  | _, _, i + 1, x, .cons _ t, e => by
    obtain ⟨d, h1, h2⟩ := RepDs.get (i := i) (x := x) t (by simpa using e)
    exact ⟨d, by simpa using h1, h2⟩
section
variable {X : Cx} {pins : List (Addr × Obj)} {σ : St} {H : Hp} {s : Shared}
mutual
theorem RepD.reads (I : Inv X pins σ H s) : ∀ {x : V} {d : Dat} {u : Value} (n : Nat), RepD H x d → RelV x u → kqdOk n d = true → ∃ as, Reads s.heap u (kqdP d) as
  | _, _, _, _, .non, r, _ => ⟨_, by cases (show _ = Value.none from r); exact Reads.none⟩
  | _, _, _, _, .int i, r, _ => by obtain ⟨t, rfl⟩ := r; exact ⟨_, Reads.int i t⟩
  | _, _, _, _, .str x, r, _ => by obtain ⟨t, rfl⟩ := r; exact ⟨_, Reads.str x t⟩
  | _, _, _, n, .bl b, _, hk => by cases n <;> simp [kqdOk] at hk
  | _, _, _, 0, .lst _ _, _, hk => by simp [kqdOk] at hk
  | _, _, _, 0, .tup _ _, _, hk => by simp [kqdOk] at hk
  | _, _, _, n + 1, .lst (a := a) (xs := xs) e q, r, hk => by
    cases (show _ = Value.ref a from r)
    obtain ⟨_, its, m, rv, hg⟩ := (show ObjOk X.prog X.w H s.heap a (.lst xs) from I.hok a _ e)
    obtain ⟨as, p⟩ := RepDs.reads I n q rv (by simpa [kqdOk] using hk)
    rw [kqdP]
    exact ⟨_, Reads.list hg rfl rfl (by simpa using p)⟩
  | _, _, _, n + 1, .tup (a := a) (xs := xs) e q, r, hk => by
    cases (show _ = Value.ref a from r)
    obtain ⟨_, its, rv, o, hg, hc, m, hd⟩ := (show ObjOk X.prog X.w H s.heap a (.tup xs) from I.hok a _ e)
    obtain ⟨as, p⟩ := RepDs.reads I n q rv (by simpa [kqdOk] using hk)
    rw [kqdP]
    exact ⟨_, Reads.tuple hg hc hd (by simpa using p)⟩
theorem RepDs.reads (I : Inv X pins σ H s) : ∀ {xs : List V} {ds : List Dat} {us : List Value} (n : Nat), RepDs H xs ds → Vals xs us → (∀ d ∈ ds, kqdOk n d = true) → ∃ as, ReadsAll s.heap us (kqdPs ds) as
  | _, _, _, _, .nil, .nil, _ => ⟨_, ReadsAll.nil⟩
  | _, _, _, n, .cons h t, .cons r rs, hk => by
    obtain ⟨as, q⟩ := RepD.reads I n h r (hk _ (.head _))
    obtain ⟨bs, p⟩ := RepDs.reads I n t rs fun d hm => hk d (.tail _ hm)
    rw [kqdPs]
    exact ⟨_, ReadsAll.cons q p⟩
end
end
end L2
namespace L2
open PySem PySem.Spec PyProof.Rows
/-! ### V17. enumerate(a list, start = an int) -/
section
variable {prog : Program} {w : World} {A : Around} {E : Value → Shared → Prop} {s : Shared}
end
section
variable {X : Cx}
end
end L2
namespace L2
open PySem PySem.Spec PyProof.Rows
/-! ### V17. a def that is called within an except suite -/
def QOk (P : Program) (w : World) (K : PySem.W.Frag) (mg : Str → Option Value) (base : Heap) (x : Str) (ps : List Str) (sp : Sp) : Prop :=
  ∃ f fd, ((∀ vs H Q E, sp vs H Q E → vs.length = ps.length) ∧ ∀ (A : Around) (outer : List Env) (s : Shared) (H : Hp) (args : Args) (us : List Value) (vs : List V) (Q : VK), A.depth < recursionLimit → Env0 P w K mg base A outer s H → BindsTo s fd args (ps.zip us) → Vals vs us → sp vs H Q E0 →
    codeAny (model P w) A (.call (.ref f) args) (CR CX0 outer P w H s Q E0) s) ∧ Binds K fd ps [] ∧ PySem.W.keepIn K (.ref f) = true ∧ mg x = some (.ref f)
section
variable {P : Program} {w : World} {K : PySem.W.Frag} {mg : Str → Option Value} {base : Heap}
/-- a method that may raise -/
theorem Fun.okE {x qual : Str} {st : Stmt} {f : Addr} {fd : FuncData} {N ps : List Str} {k : Nat} {sp : Sp} (F : Fun K x qual st f fd) (S : FnScope N ps (defScope st)) (len : ∀ vs H Q E, sp vs H Q E → vs.length = ps.length)
    (hbody : ∀ (cdv : Value) (A : Around) (outer : List Env) (s : Shared) (H : Hp) (vs : List V) (Q : VK) (E : XK), Room k (A.deeper (envOfC qual (defScope st) s.heap.objs.size f cdv)) → sp vs H Q E →
      ∃ t, PSs (cxOf (CXE P w) P w K mg base N qual (defScope st) f cdv A outer s H E) (defBody st) t ∧ t { nx := fun _ H' => Q .non H', rt := Q } (start N vs) H) : FnOk P w K mg base (CXE P w) (k + 1) f fd ps sp := by
  obtain ⟨oc, od, kV, doc, pm, an, cdv, ct, osl, rfl, lk, hcd⟩ := F.ex
  exact fn_of lk hcd S len fun A outer s H vs Q E hr hsp => hbody cdv A outer s H vs Q E hr hsp
end
section
variable {X : Cx} {j k : Nat} {x : Str} {p pos : Pos} {e : Expr} {es : List Expr} {t : TA} {ps : List Str} {sp : Sp}
variable {pins : List (Addr × Obj)} {E' : Value → Shared → Prop} {Ek : XK} {σ0 : St} {C : Addr}
end
end L2
namespace L2
open PySem PySem.Spec PyProof.Rows
/-- what holds within an except suite holds elsewhere -/
theorem QOk.ok {P : Program} {w : World} {K : PySem.W.Frag} {mg : Str → Option Value} {base : Heap} {x : Str} {ps : List Str} {sp : Sp} {k : Nat} (O : QOk P w K mg base x ps sp) (h : ∀ vs H Q E, sp vs H Q E → sp vs H Q E0) : Ok P w K mg base CX0 k x ps sp := by
  obtain ⟨f, fd, ⟨len, run⟩, hb, kp, m⟩ := O
  refine ⟨f, fd, ⟨len, fun A outer s H args us vs Q E hr e0 hbd r hsp => ?_⟩, hb, kp, m⟩
  refine codeAny_mono (run A outer s H args us vs Q hr.depth e0 hbd r (h _ _ _ _ hsp)) fun r s' hq => ?_
  cases r with
  | error e => exact hq
  | ok fl => cases fl <;> exact hq
end L2
namespace Veil
open PySem L2
/-! ### M1. what the text reckons, as functions over plain numbers and lists -/
def primes9 : List Int := [5, 7, 11, 13, 17, 19, 23, 29, 31]
def cellN (ns : List Int) (k : Int) : Int := ns.getD k.toNat 0
def mixI (c k m : Int) : Int := (c % 2147483647 + 12345) * (48271 + 6 * k) % 1000000007 / 7 % m
def tbP (c : Int) : Int := primes9.getD (c % 9).toNat 0
def tbN (c : Int) : Int := 3 + c / 9 % ((if tbP c - 1 < 7 then tbP c - 1 else 7) - 2)
def tbF (c : Int) : Int := if 4 < tbN c then (if c / 45 % 2 = 1 then 2 else 1) else 1
theorem tbP_mem (c : Int) : tbP c ∈ primes9 := by
  have h0 := Int.emod_nonneg c (show (9 : Int) ≠ 0 by decide)
  have h1 := Int.emod_lt_of_pos c (show (0 : Int) < 9 by decide)
  unfold tbP
  have h : (c % 9).toNat < 9 := by omega
  generalize (c % 9).toNat = k at h
  match k, h with
  | 0, _ | 1, _ | 2, _ | 3, _ | 4, _ | 5, _ | 6, _ | 7, _ | 8, _ => decide
theorem tbP_cases (c : Int) : tbP c = 5 ∨ tbP c = 7 ∨ tbP c = 11 ∨ tbP c = 13 ∨ tbP c = 17 ∨ tbP c = 19 ∨ tbP c = 23 ∨ tbP c = 29 ∨ tbP c = 31 := by
  have h := tbP_mem c
  simpa [primes9] using h
theorem tbP_lo (c : Int) : 5 ≤ tbP c := by have := tbP_cases c; omega
theorem tbP_hi (c : Int) : tbP c ≤ 31 := by have := tbP_cases c; omega
theorem tbN_b (c : Int) : 3 ≤ tbN c ∧ tbN c ≤ 7 ∧ tbN c < tbP c := by
  have h := tbP_cases c
  unfold tbN
  generalize hm : (if tbP c - 1 < 7 then tbP c - 1 else 7) - 2 = m
  have hb : 0 < m ∧ m ≤ 5 ∧ m ≤ tbP c - 3 := by
    rw [← hm]
    split <;> omega
  have h0 := Int.emod_nonneg (c / 9) (show m ≠ 0 by omega)
  have h1 := Int.emod_lt_of_pos (c / 9) hb.1
  omega
theorem tbF_b (c : Int) : (tbF c = 1 ∨ tbF c = 2) ∧ 2 * tbF c < tbN c := by
  have h := tbN_b c
  unfold tbF
  split
  · split <;> omega
  · omega
def isTB (p n f : Int) : Bool :=
  if (!inV (.int p) (primes9.map V.int)) = true then false else if (!inV (.int f) [.int 1, .int 2]) = true then false else (decide (3 ≤ n) && decide (n ≤ 7)) && (decide (n < p) && decide (2 * f < n))
theorem isTB_tb (c : Int) : isTB (tbP c) (tbN c) (tbF c) = true := by
  have h1 := tbN_b c
  obtain ⟨h2, h3⟩ := tbF_b c
  have e1 : inV (.int (tbP c)) (primes9.map V.int) = true := by
    rcases tbP_cases c with h | h | h | h | h | h | h | h | h <;> rw [h] <;> decide
  have e2 : inV (.int (tbF c)) [.int 1, .int 2] = true := by
    rcases h2 with h | h <;> rw [h] <;> decide
  unfold isTB
  rw [e1, e2]
  simp only [Bool.not_true, Bool.false_eq_true, if_false, Bool.and_eq_true, decide_eq_true_eq]
  omega
/-! ### M2. rows by a number -/
def polyV : List Int → Int → Int
  | [], _ => 0
  | r :: rs, a => r + a * polyV rs a
def worthL (p : Int) : List Int → Int → Int
  | [], _ => 0
  | r :: rs, a => (worthL p rs a * a + r) % p
def lawW (p a : Int) : List Int → Int → Int → Int
  | [], t, _ => t
  | r :: rs, t, q => lawW p a rs ((t + r * q) % p) (q * a % p)
theorem worthL_poly {p : Int} : ∀ (ns : List Int) (a : Int), worthL p ns a = polyV ns a % p
  | [], _ => by simp [worthL, polyV]
  | r :: rs, a => by
    rw [worthL, worthL_poly rs a, polyV, Int.add_emod, Int.mul_emod, Int.emod_emod_of_dvd _ (Int.dvd_refl p), ← Int.mul_emod, ← Int.add_emod, Int.mul_comm, Int.add_comm]
theorem lawW_poly {p a : Int} : ∀ (ns : List Int) (t q : Int), lawW p a ns t q % p = (t + q * polyV ns a) % p
  | [], t, q => by simp [lawW, polyV]
  | r :: rs, t, q => by
    rw [lawW, lawW_poly rs, polyV]
    have e1 : ((t + r * q) % p + q * a % p * polyV rs a) % p = ((t + r * q) + q * a * polyV rs a) % p := by
      rw [Int.add_emod, Int.emod_emod_of_dvd _ (Int.dvd_refl p), Int.mul_emod, Int.emod_emod_of_dvd _ (Int.dvd_refl p), ← Int.mul_emod, ← Int.add_emod]
    rw [e1]
    congr 1
    rw [Int.mul_add, Int.mul_assoc, Int.mul_comm r q]
    omega
theorem lawW_mod {p a : Int} (hp : 0 < p) : ∀ (ns : List Int) (t q : Int), (0 ≤ t ∧ t < p) → 0 ≤ lawW p a ns t q ∧ lawW p a ns t q < p
  | [], t, q, h => h
  | r :: rs, t, q, _ => lawW_mod hp rs _ _ ⟨Int.emod_nonneg _ (by omega), Int.emod_lt_of_pos _ hp⟩
theorem lawW_eq {p a : Int} (hp : 0 < p) (ns : List Int) : lawW p a ns 0 1 = worthL p ns a := by
  have h := lawW_poly (p := p) (a := a) ns 0 1
  have hb := lawW_mod (a := a) hp ns 0 1 ⟨Int.le_refl _, hp⟩
  rw [Int.emod_eq_of_lt hb.1 hb.2, Int.one_mul, Int.zero_add] at h
  rw [h, worthL_poly]
theorem worthL_b {p : Int} (hp : 0 < p) (ns : List Int) (a : Int) : 0 ≤ worthL p ns a ∧ worthL p ns a < p := by
  rw [worthL_poly]
  exact ⟨Int.emod_nonneg _ (by omega), Int.emod_lt_of_pos _ hp⟩
end Veil
namespace Veil
open PySem L2
/-! ### S1. what the top leaves -/
structure Blt (mg : Str → Option Value) : Prop where
  len : mg "len" = none
  range : mg "range" = none
  isinstance : mg "isinstance" = none
  min : mg "min" = none
  list : mg "list" = none
  int : mg "int" = none
  bool : mg "bool" = none
  tuple : mg "tuple" = none
  reversed : mg "reversed" = none
  zip : mg "zip" = none
  set : mg "set" = none
  all : mg "all" = none
  sum : mg "sum" = none
  sorted : mg "sorted" = none
  enumerate : mg "enumerate" = none
structure Tab (K : PySem.W.Frag) (C : Addr) : Prop where
  cl : Cls K C
  nP : NoAttr K C "prime"
  nH : NoAttr K C "hands"
  nF : NoAttr K C "few"
structure Pri (K : PySem.W.Frag) (mg : Str → Option Value) (pa : Addr) : Prop where
  gPRIMES : mg "PRIMES" = some (.ref pa)
  sq : ∀ H, SqT K H pa (primes9.map V.int)
theorem pri_mk {K : PySem.W.Frag} {mg : Str → Option Value} {pa : Addr} {dd : Option Addr} {its : Array Value} {n : Nat} {sl : Array (Option Value)} (g : mg "PRIMES" = some (.ref pa)) (l : K.lookup pa = some ⟨.type "tuple", dd, .seq its n, sl⟩)
    (v : Vals (primes9.map V.int) its.toList) : Pri K mg pa := ⟨g, fun H => .inr ⟨_, its, n, l, rfl, rfl, by have := v.length; simp only [Array.length_toList] at this; rw [← this]; decide, v⟩⟩
/-! ### S2. a table -/
theorem nq1 : ¬ (("prime" : Str) = "few") := by decide +kernel
theorem nq2 : ¬ (("prime" : Str) = "hands") := by decide +kernel
theorem nq3 : ¬ (("hands" : Str) = "few") := by decide +kernel
def tf (p n f : Int) : List (Str × V) := putF "few" (.int f) (putF "hands" (.int n) (putF "prime" (.int p) []))
theorem tf_p (p n f : Int) : (tf p n f).lookup ("prime" : Str) = some (.int p) := by
  unfold tf
  rw [lookup_putF, if_neg nq1, lookup_putF, if_neg nq2, lookup_putF, if_pos rfl]
theorem tf_n (p n f : Int) : (tf p n f).lookup ("hands" : Str) = some (.int n) := by
  unfold tf
  rw [lookup_putF, if_neg nq3, lookup_putF, if_pos rfl]
theorem tf_f (p n f : Int) : (tf p n f).lookup ("few" : Str) = some (.int f) := by
  unfold tf
  rw [lookup_putF, if_pos rfl]
def TabAt (C : Addr) (H : Hp) (t : Addr) (p n f : Int) : Prop := ∃ dx, H t = some (.ins C dx (tf p n f))
theorem TabAt.same {C : Addr} {H H' : Hp} {t : Addr} {p n f : Int} (h : TabAt C H t p n f) (s : Same H H') : TabAt C H' t p n f := let ⟨dx, e⟩ := h; ⟨dx, s _ _ e⟩
theorem same_new {H : Hp} {p : Addr} (h : H p = none) (o : HO) : Same H (upd H p o) := fun b u q => by rw [upd_ne (ne_of_none q h)]; exact q
theorem same_upd {H H' : Hp} (s : Same H H') {D : Addr} {o : HO} (h : H D = none) : Same H (upd H' D o) := fun b u e => by rw [upd_ne (ne_of_none e h)]; exact s b u e
theorem small {n : Nat} (h : n ≤ 1000) : n ≤ sizeLine := Nat.le_of_lt (small1000 h)
/-! ### S3. promises -/
/-- a plain value comes back, what was tracked stays -/
def PureQ (H : Hp) (Q : VK) (v : V) : Prop := ∀ H', Same H H' → Q v H'
/-- a new list of ints comes back -/
def NewQ (H : Hp) (Q : VK) (xs : List V) : Prop := ∀ r H', Same H H' → H r = none → H' r = some (.lst xs) → Q (.ref r) H'
def spIsT : Sp := fun vs H Q _ => ∃ p n f : Int, vs = [.int p, .int n, .int f] ∧ PureQ H Q (.bl (isTB p n f))
def spInit (C : Addr) : Sp := fun vs H Q _ => ∃ (t dx : Addr) (p n f : Int), vs = [.ref t, .int p, .int n, .int f] ∧ H t = some (.ins C dx []) ∧ isTB p n f = true ∧
  ∀ H', (∀ b o, H b = some o → b ≠ t → H' b = some o) → TabAt C H' t p n f → Q .non H'
def spCell (K : PySem.W.Frag) : Sp := fun vs H Q _ => ∃ (a : Addr) (ns : List Int) (k : Int), vs = [.ref a, .int k] ∧ SqL K H a (ns.map V.int) ∧ 0 ≤ k ∧ PureQ H Q (.int (cellN ns k))
def spMix : Sp := fun vs H Q _ => ∃ c k m : Int, vs = [.int c, .int k, .int m] ∧ 0 < m ∧ PureQ H Q (.int (mixI c k m))
def spWholeI : Sp := fun vs H Q _ => ∃ i : Int, vs = [.int i] ∧ PureQ H Q (.bl true)
def spTableBy (C : Addr) : Sp := fun vs H Q _ => ∃ c : Int, vs = [.int c] ∧ ∀ t H', Same H H' → H t = none → TabAt C H' t (tbP c) (tbN c) (tbF c) → Q (.ref t) H'
def spLawW (K : PySem.W.Frag) : Sp := fun vs H Q _ => ∃ (r : Addr) (p a : Int) (ns : List Int), vs = [.int p, .ref r, .int a] ∧ 0 < p ∧ p ≤ 31 ∧ SqL K H r (ns.map V.int) ∧ PureQ H Q (.int (worthL p ns a))
def spLaw (K : PySem.W.Frag) : Sp := fun vs H Q _ => ∃ (a : Addr) (ns : List Int), vs = [.ref a] ∧ SqL K H a (ns.map V.int) ∧ ns.length ≤ 63 ∧ ∀ H', Q (.bl true) H'
theorem drop_at {α : Type} {l : List α} {k : Nat} {x : α} (h : l[k]? = some x) : l.drop k = x :: l.drop (k + 1) := by
  obtain ⟨h1, h2⟩ := List.getElem?_eq_some_iff.mp h
  rw [List.drop_eq_getElem_cons h1, h2]
theorem map_int_at {ns : List Int} {i : Nat} {x : V} (h : (ns.map V.int)[i]? = some x) : ∃ v, x = .int v ∧ ns[i]? = some v := by
  rw [List.getElem?_map] at h
  cases e : ns[i]? with
  | none => rw [e] at h; cases h
  | some v => rw [e] at h; exact ⟨v, (Option.some.inj h).symm, rfl⟩
/-! ### S4. shares -/
end Veil
namespace Veil
open PySem L2
/-! ### M3. by a prime -/
def backI (p x : Int) : Int := (((List.range (p - 1).toNat).map fun i : Nat => 1 + (i : Int)).find? fun o => decide (x * o % p = 1)).getD 0
theorem back_some : ∀ p ∈ primes9, ∀ a : Nat, a < p.toNat → a ≠ 0 → (1 ≤ backI p a ∧ backI p a < p) ∧ (a : Int) * backI p a % p = 1 := by
  have h : (primes9.all fun p => (List.range p.toNat).all fun a => (a == 0) || (decide (1 ≤ backI p (a : Int)) && decide (backI p (a : Int) < p) && decide ((a : Int) * backI p (a : Int) % p = 1))) = true := by decide +kernel
  intro p hp a ha h0
  have h1 := List.all_eq_true.mp (List.all_eq_true.mp h p hp) a (List.mem_range.mpr ha)
  rw [show (a == 0) = false from beq_eq_false_iff_ne.mpr h0, Bool.false_or] at h1
  simp only [Bool.and_eq_true, decide_eq_true_eq] at h1
  exact ⟨⟨h1.1.1, h1.1.2⟩, h1.2⟩
theorem backI_mod (p x : Int) : backI p (x % p) = backI p x := by
  unfold backI
  congr 2
  funext o
  rw [Int.mul_emod, Int.emod_emod_of_dvd _ (Int.dvd_refl p), ← Int.mul_emod]
theorem backI_ok {p x : Int} (hp : p ∈ primes9) (hx : x % p ≠ 0) : (1 ≤ backI p x ∧ backI p x < p) ∧ x * backI p x % p = 1 := by
  have p5 : 0 < p := by
    have : (primes9.all fun q => decide (0 < q)) = true := by decide +kernel
    exact of_decide_eq_true (List.all_eq_true.mp this p hp)
  have h0 := Int.emod_nonneg x (show p ≠ 0 by omega)
  have h1 := Int.emod_lt_of_pos x p5
  have e : ((x % p).toNat : Int) = x % p := by omega
  have q := back_some p hp (x % p).toNat (by omega) (by omega)
  rw [e, backI_mod] at q
  have e2 : x % p * backI p x % p = x * backI p x % p := by rw [Int.mul_emod, Int.emod_emod_of_dvd _ (Int.dvd_refl p), ← Int.mul_emod]
  rw [e2] at q
  exact q
/-! ### M4. rows through points -/
def addT (p t : Int) (as bs : List Int) : List Int := List.zipWith (fun a b => (a + t * b) % p) as bs
theorem polyV_snoc0 : ∀ (s : List Int) (z : Int), polyV (s ++ [0]) z = polyV s z
  | [], z => by simp [polyV]
  | r :: rs, z => by simp only [List.cons_append, polyV]; rw [polyV_snoc0 rs z]
theorem polyV_addT {p t : Int} : ∀ (as bs : List Int) (z : Int), as.length = bs.length → polyV (addT p t as bs) z % p = (polyV as z + t * polyV bs z) % p
  | [], [], z, _ => by simp [addT, polyV]
  | a :: as, b :: bs, z, h => by
    have ih := polyV_addT (p := p) (t := t) as bs z (by simpa using h)
    show ((a + t * b) % p + z * polyV (addT p t as bs) z) % p = _
    rw [Int.add_emod, Int.mul_emod, ih, ← Int.mul_emod, Int.emod_emod_of_dvd _ (Int.dvd_refl p), ← Int.add_emod]
    congr 1
    simp only [polyV]
    rw [Int.mul_add, Int.mul_add, ← Int.mul_assoc z t, Int.mul_comm z t, Int.mul_assoc t z]
    omega
  | [], _ :: _, _, h => by simp at h
  | _ :: _, [], _, h => by simp at h
theorem addT_b {p t : Int} (hp : 0 < p) : ∀ (as bs : List Int), ∀ v ∈ addT p t as bs, 0 ≤ v ∧ v < p
  | [], _, v, h => by simp [addT] at h
  | _ :: _, [], v, h => by simp [addT] at h
  | a :: as, b :: bs, v, h => by
    rcases List.mem_cons.mp (show v ∈ (a + t * b) % p :: addT p t as bs from h) with e | e
    · rw [e]
      exact ⟨Int.emod_nonneg _ (by omega), Int.emod_lt_of_pos _ hp⟩
    · exact addT_b hp as bs v e
theorem addT_len {p t : Int} (as bs : List Int) : (addT p t as bs).length = min as.length bs.length := by unfold addT; rw [List.length_zipWith]
/-- what holds behind the first points -/
structure ThrOk (p : Int) (pts : List (Int × Int)) (rs : List Int × List Int) : Prop where
  l1 : rs.1.length = pts.length
  l2 : rs.2.length = pts.length + 1
  b1 : ∀ v ∈ rs.1, 0 ≤ v ∧ v < p
  b2 : ∀ v ∈ rs.2, 0 ≤ v ∧ v < p
  row : ∀ q ∈ pts, polyV rs.1 q.1 % p = q.2 % p
  zer : ∀ q ∈ pts, polyV rs.2 q.1 % p = 0
  non : ∀ z : Int, (∀ q ∈ pts, z % p ≠ q.1 % p) → polyV rs.2 z % p ≠ 0
theorem pos9 {p : Int} (hp : p ∈ primes9) : 5 ≤ p ∧ p ≤ 31 := by
  have : (primes9.all fun q => decide (5 ≤ q) && decide (q ≤ 31)) = true := by decide +kernel
  have h := List.all_eq_true.mp this p hp
  simpa using h
end Veil
namespace Veil
open PySem L2
/-! ### S5. points: a list of pairs -/
def PtsAt (H : Hp) : List V → List (Int × Int) → Prop := Paired fun v q => ∃ a, v = .ref a ∧ H a = some (.tup [.int q.1, .int q.2])
theorem PtsAt.same {H H' : Hp} (s : Same H H') {vs : List V} {qs : List (Int × Int)} (h : PtsAt H vs qs) : PtsAt H' vs qs := Paired.mapP h fun v q ⟨a, e, z⟩ => ⟨a, e, s _ _ z⟩
theorem PtsAt.get {H : Hp} : ∀ {vs : List V} {qs : List (Int × Int)} {i : Nat} {x : V}, PtsAt H vs qs → vs[i]? = some x → ∃ a q, x = .ref a ∧ H a = some (.tup [.int q.1, .int q.2]) ∧ qs[i]? = some q
  | _, _, _, _, .nil, e => by simp at e
  | _, _, 0, _, .cons ⟨a, r, z⟩ _, e => by simp at e; subst e; exact ⟨a, _, r, z, rfl⟩
  | _, _, i + 1, x, .cons _ t, e => by
    obtain ⟨a, q, h1, h2, h3⟩ := PtsAt.get (i := i) (x := x) t (by simpa using e)
    exact ⟨a, q, h1, h2, by simpa using h3⟩
def spBack (C : Addr) : Sp := fun vs H Q _ => ∃ (t : Addr) (p n f x : Int), vs = [.ref t, .int x] ∧ TabAt C H t p n f ∧ p ∈ primes9 ∧ (0 ≤ x ∧ x < p) ∧ x ≠ 0 ∧ PureQ H Q (.int (backI p x))
end Veil
namespace Veil
open PySem L2
/-! ### M5. weights -/
theorem PtsAt.upd {H : Hp} {D : Addr} {o : HO} {ys : List V} (hD : H D = some (.lst ys)) {vs : List V} {qs : List (Int × Int)} (h : PtsAt H vs qs) : PtsAt (L2.upd H D o) vs qs :=
  Paired.mapP h fun v q ⟨a, e, z⟩ => ⟨a, e, by rw [upd_ne (ne_of z hD (by intro w; cases w))]; exact z⟩
theorem PtsAt.snoc {H : Hp} {vs : List V} {qs : List (Int × Int)} (h : PtsAt H vs qs) {a : Addr} {q : Int × Int} (z : H a = some (.tup [.int q.1, .int q.2])) : PtsAt H (vs ++ [.ref a]) (qs ++ [q]) := Paired.snoc h ⟨a, rfl, z⟩
end Veil
namespace Veil
/-! ### M6. a row is told by as many worths as it has numbers -/
/-! ### M7. choices, and mending -/
structure PtsOk (p : Int) (pts : List (Int × Int)) : Prop where
  nd : (pts.map fun q => q.1 % p).Nodup
  yb : ∀ q ∈ pts, 0 ≤ q.2 ∧ q.2 < p
end Veil
namespace Veil
/-! ### M8. all rows of chance, and their exchange -/
theorem polyV_pad : ∀ (r : List Int) (k : Nat) (z : Int), polyV (r ++ List.replicate k 0) z = polyV r z
  | r, 0, z => by simp
  | r, k + 1, z => by
    rw [List.replicate_succ', ← List.append_assoc, polyV_snoc0, polyV_pad r k z]
end Veil
namespace Veil
/-! ### M9. a row's worth by the sum of products (the law's own way) -/
end Veil
namespace Veil
/-! ### M10. shares that came -/
/-! ### M11. shares with wrong ones at li -/
structure LieSt (p : Int) (n : Nat) (row li : List Int) (os : List (Option Int)) : Prop where
  len : os.length = n
  nd : li.Nodup
  lb : ∀ h ∈ li, 1 ≤ h ∧ h ≤ n
  lie : ∀ h ∈ li, ∃ y, os[(h - 1).toNat]? = some (some y) ∧ (0 ≤ y ∧ y < p) ∧ y ≠ worthL p row h
  hon : ∀ i : Nat, i < n → (1 + (i : Int)) ∉ li → os[i]? = some none ∨ os[i]? = some (some (worthL p row (1 + (i : Int))))
theorem LieSt.start {p : Int} {n : Nat} {row : List Int} : LieSt p n row [] ((List.range n).map fun i : Nat => some (worthL p row (1 + (i : Int)))) where
  len := by simp
  nd := List.nodup_nil
  lb := fun h hm => nomatch hm
  lie := fun h hm => nomatch hm
  hon := fun i hi _ => .inr (by rw [List.getElem?_map, List.getElem?_range hi]; rfl)
theorem LieSt.more {p : Int} {n : Nat} {row li : List Int} {os : List (Option Int)} (L : LieSt p n row li os) {k : Nat} (hk : k < n) (hn : (1 + (k : Int)) ∉ li) {y : Int} (hy : 0 ≤ y ∧ y < p) (hne : y ≠ worthL p row (1 + (k : Int))) : LieSt p n row (li ++ [1 + (k : Int)]) (os.set k (some y)) where
  len := by rw [List.length_set, L.len]
  nd := by
    refine List.nodup_append.mpr ⟨L.nd, by simp, fun a ha b hb e => ?_⟩
    have e2 : b = 1 + (k : Int) := by simpa using hb
    exact hn (by rw [← e2, ← e]; exact ha)
  lb := fun h hm => by
    rcases List.mem_append.mp hm with hm | hm
    · exact L.lb h hm
    · have e : h = 1 + (k : Int) := by simpa using hm
      omega
  lie := fun h hm => by
    rcases List.mem_append.mp hm with hm | hm
    · have hb := L.lb h hm
      have hne2 : k ≠ (h - 1).toNat := fun e => hn (by rw [show 1 + (k : Int) = h by omega]; exact hm)
      obtain ⟨z, h1, h2⟩ := L.lie h hm
      exact ⟨z, by rw [List.getElem?_set_ne hne2]; exact h1, h2⟩
    · have e : h = 1 + (k : Int) := by simpa using hm
      subst e
      refine ⟨y, ?_, hy, hne⟩
      rw [show (1 + (k : Int) - 1).toNat = k by omega, List.getElem?_set_self (by rw [L.len]; exact hk)]
  hon := fun i hi hm => by
    have h1 : (1 + (i : Int)) ∉ li := fun z => hm (List.mem_append_left _ z)
    have h2 : k ≠ i := fun e => hm (List.mem_append_right _ (by rw [e]; exact List.mem_singleton.mpr rfl))
    rw [List.getElem?_set_ne h2]
    exact L.hon i hi h1
theorem LieSt.b {p : Int} (hp : 0 < p) {n : Nat} {row li : List Int} {os : List (Option Int)} (L : LieSt p n row li os) (i : Nat) (y : Int) (h : os[i]? = some (some y)) : 0 ≤ y ∧ y < p := by
  have hi : i < n := by rw [← L.len]; exact (List.getElem?_eq_some_iff.mp h).1
  by_cases hm : (1 + (i : Int)) ∈ li
  · obtain ⟨z, h1, h2, _⟩ := L.lie _ hm
    rw [show (1 + (i : Int) - 1).toNat = i by omega, h] at h1
    cases h1
    exact h2
  · rcases L.hon i hi hm with z | z
    · rw [h] at z
      cases z
    · rw [h] at z
      cases z
      exact worthL_b hp _ _
end Veil
namespace Veil
open PySem L2
/-! ### S7. a list of rows; l: an address that none of them has -/
def LLAt (l : Addr) (H : Hp) : List V → List (List Int) → Prop := Paired fun v r => ∃ a, v = .ref a ∧ a ≠ l ∧ H a = some (.lst (r.map V.int))
theorem LLAt.same {l : Addr} {H H' : Hp} (s : Same H H') {vs : List V} {rs : List (List Int)} (h : LLAt l H vs rs) : LLAt l H' vs rs := Paired.mapP h fun v r ⟨a, e, n, z⟩ => ⟨a, e, n, s _ _ z⟩
theorem LLAt.upd {l : Addr} {H : Hp} {o : HO} {vs : List V} {rs : List (List Int)} (h : LLAt l H vs rs) : LLAt l (L2.upd H l o) vs rs := Paired.mapP h fun v r ⟨a, e, n, z⟩ => ⟨a, e, n, by rw [upd_ne n]; exact z⟩
theorem LLAt.to {l d : Addr} {H : Hp} (hd : H d = none) {vs : List V} {rs : List (List Int)} (h : LLAt l H vs rs) : LLAt d H vs rs := Paired.mapP h fun v r ⟨a, e, n, z⟩ => ⟨a, e, ne_of_none z hd, z⟩
theorem LLAt.len {l : Addr} {H : Hp} {vs : List V} {rs : List (List Int)} (h : LLAt l H vs rs) : vs.length = rs.length := Paired.length h
theorem LLAt.snoc {l : Addr} {H : Hp} {vs : List V} {rs : List (List Int)} (h : LLAt l H vs rs) {a : Addr} {r : List Int} (n : a ≠ l) (z : H a = some (.lst (r.map V.int))) : LLAt l H (vs ++ [.ref a]) (rs ++ [r]) := Paired.snoc h ⟨a, rfl, n, z⟩
theorem LLAt.get {l : Addr} {H : Hp} : ∀ {vs : List V} {rs : List (List Int)} {i : Nat} {x : V}, LLAt l H vs rs → vs[i]? = some x → ∃ a r, x = .ref a ∧ a ≠ l ∧ H a = some (.lst (r.map V.int)) ∧ rs[i]? = some r
  | _, _, _, _, .nil, e => by simp at e
  | _, _, 0, _, .cons ⟨a, r, n, z⟩ _, e => by simp at e; subst e; exact ⟨a, _, r, n, z, rfl⟩
  | _, _, i + 1, x, .cons _ t, e => by
    obtain ⟨a, q, h1, n, h2, h3⟩ := LLAt.get (i := i) (x := x) t (by simpa using e)
    exact ⟨a, q, h1, n, h2, by simpa using h3⟩
end Veil
namespace Veil
open PySem L2
/-! ### S10. refusals -/
end Veil
namespace Veil
open PySem L2
/-! ### S4b. points at unlike places, and one place twice -/
def dpt (q : Int × Int) : PySem.W.Dat := .tuple [.int q.1, .int q.2]
theorem PtsAt.rep {H : Hp} : ∀ {vs : List V} {qs : List (Int × Int)}, PtsAt H vs qs → RepDs H vs (qs.map dpt)
  | _, _, .nil => .nil
  | _, _, .cons ⟨a, e, z⟩ t => by subst e; exact .cons (.tup z (.cons (.int _) (.cons (.int _) .nil))) (PtsAt.rep t)
theorem cut_from {xs : List V} {k : Nat} : cutV xs (some (k : Int)) none = xs.drop k := by
  unfold cutV
  rw [HT.sIx_none, HT.sIx_nat]
  rcases Nat.le_total k xs.length with h | h
  · rw [Nat.min_eq_left h, List.take_of_length_le (by rw [List.length_drop]; exact Nat.le_refl _)]
  · rw [Nat.min_eq_right h, List.drop_length, List.drop_eq_nil_of_le h, List.take_nil]
theorem PtsAt.take {H : Hp} : ∀ {vs : List V} {qs : List (Int × Int)} (k : Nat), PtsAt H vs qs → PtsAt H (vs.take k) (qs.take k)
  | _, _, 0, _ => .nil
  | _, _, _ + 1, .nil => .nil
  | _, _, k + 1, .cons h t => .cons h (PtsAt.take k t)
theorem PtsAt.drop {H : Hp} : ∀ {vs : List V} {qs : List (Int × Int)} (k : Nat), PtsAt H vs qs → PtsAt H (vs.drop k) (qs.drop k)
  | _, _, 0, h => h
  | _, _, _ + 1, .nil => .nil
  | _, _, k + 1, .cons _ t => PtsAt.drop k t
end Veil
namespace Veil
open PySem L2
/-! ### S8. shares, choices, mending -/
/-- a list of lists that are not of the heap H0; l: an address that none of them has -/
def LVAt (l : Addr) (H0 H : Hp) : List V → List (List V) → Prop := Paired fun v c => ∃ a, v = .ref a ∧ a ≠ l ∧ H0 a = none ∧ H a = some (.lst c)
theorem LVAt.same {l : Addr} {H0 H H' : Hp} (s : Same H H') {vs : List V} {cs : List (List V)} (h : LVAt l H0 H vs cs) : LVAt l H0 H' vs cs := Paired.mapP h fun v r ⟨a, e, n, f, z⟩ => ⟨a, e, n, f, s _ _ z⟩
theorem LVAt.upd {l : Addr} {H0 H : Hp} {o : HO} {vs : List V} {cs : List (List V)} (h : LVAt l H0 H vs cs) : LVAt l H0 (L2.upd H l o) vs cs := Paired.mapP h fun v r ⟨a, e, n, f, z⟩ => ⟨a, e, n, f, by rw [upd_ne n]; exact z⟩
theorem LVAt.off {d l : Addr} {H0 H : Hp} {o u : HO} (hl : H0 l = some u) {vs : List V} {cs : List (List V)} (h : LVAt d H0 H vs cs) : LVAt d H0 (L2.upd H l o) vs cs := Paired.mapP h fun v r ⟨a, e, n, f, z⟩ => ⟨a, e, n, f, by rw [upd_ne (fun q => by rw [q, hl] at f; cases f)]; exact z⟩
theorem LVAt.len {l : Addr} {H0 H : Hp} {vs : List V} {cs : List (List V)} (h : LVAt l H0 H vs cs) : vs.length = cs.length := Paired.length h
theorem LVAt.snoc {l : Addr} {H0 H : Hp} {vs : List V} {cs : List (List V)} (h : LVAt l H0 H vs cs) {a : Addr} {c : List V} (n : a ≠ l) (f : H0 a = none) (z : H a = some (.lst c)) : LVAt l H0 H (vs ++ [.ref a]) (cs ++ [c]) := Paired.snoc h ⟨a, rfl, n, f, z⟩
theorem LVAt.get {l : Addr} {H0 H : Hp} : ∀ {vs : List V} {cs : List (List V)} {i : Nat} {x : V}, LVAt l H0 H vs cs → vs[i]? = some x → ∃ a c, x = .ref a ∧ a ≠ l ∧ H0 a = none ∧ H a = some (.lst c) ∧ cs[i]? = some c
  | _, _, _, _, .nil, e => by simp at e
  | _, _, 0, _, .cons ⟨a, r, n, f, z⟩ _, e => by simp at e; subst e; exact ⟨a, _, r, n, f, z, rfl⟩
  | _, _, i + 1, x, .cons _ t, e => by
    obtain ⟨a, q, h1, n, f, h2, h3⟩ := LVAt.get (i := i) (x := x) t (by simpa using e)
    exact ⟨a, q, h1, n, f, h2, by simpa using h3⟩
theorem paired_get {α β : Type} {R : α → β → Prop} : ∀ {a : List α} {c : List β} {i : Nat} {x : α}, Paired R a c → a[i]? = some x → ∃ y, c[i]? = some y ∧ R x y
  | _, _, _, _, .nil, e => by simp at e
  | _, _, 0, _, .cons h _, e => by simp at e; subst e; exact ⟨_, rfl, h⟩
  | _, _, i + 1, x, .cons _ t, e => by
    obtain ⟨y, h1, h2⟩ := paired_get (i := i) (x := x) t (by simpa using e)
    exact ⟨y, by simpa using h1, h2⟩
theorem ix_in {n : Nat} {k : Int} (h0 : 0 ≤ k) (h1 : k < n) : ixN n k = some k.toNat := by
  unfold ixN
  rw [if_pos h0, if_pos h1]
end Veil
namespace Veil
/-! ### M11. mended or not, by the law's own way -/
end Veil
namespace L2
open PySem PySem.Spec PyProof.Rows
open PySem.W (Dat kqdP kqdPs kqdOk)
section
variable {X : Cx}
/-! ### V18. not in, of values as data -/
end
end L2
namespace Veil
open PySem L2
/-! ### S9. mended or not -/
structure OsOk (p n : Int) (os : List (Option Int)) : Prop where
  len : os.length = n.toNat
  b : ∀ (i : Nat) (y : Int), os[i]? = some (some y) → 0 ≤ y ∧ y < p
theorem OsOk.put {p n : Int} {os : List (Option Int)} (h : OsOk p n os) (k : Nat) {o : Option Int} (ho : ∀ y, o = some y → 0 ≤ y ∧ y < p) : OsOk p n (os.set k o) := by
  refine ⟨by rw [List.length_set]; exact h.len, fun i y hy => ?_⟩
  by_cases e : k = i
  · subst e
    by_cases hk : k < os.length
    · rw [List.getElem?_set_self hk] at hy
      exact ho y (Option.some.inj hy)
    · rw [List.set_eq_of_length_le (by omega)] at hy
      exact h.b k y hy
  · rw [List.getElem?_set_ne e] at hy
    exact h.b i y hy
theorem OsOk.ints {p n : Int} {xs : List Int} (hl : xs.length = n.toNat) (hb : ∀ v ∈ xs, 0 ≤ v ∧ v < p) : OsOk p n (xs.map some) := by
  refine ⟨by rw [List.length_map]; exact hl, fun i y hy => ?_⟩
  rw [List.getElem?_map] at hy
  cases e : xs[i]? with
  | none => rw [e] at hy; cases hy
  | some v =>
    rw [e] at hy
    have e2 : v = y := by simpa using hy
    rw [← e2]
    exact hb v (List.mem_of_getElem? e)
end Veil
namespace Veil
open PySem L2
/-! ### S12. steps -/
inductive Stp where
  | ein (h : Int)
  | fix (x : Int)
  | bye (a x : Int)
  | sum (a b : Int)
  | less (a b : Int)
  | mul (a b : Int)
  | anew (a : Int)
  | opn (a : Int)
  deriving DecidableEq
def Stp.vs : Stp → List V
  | .ein h => [.str "in", .int h]
  | .fix x => [.str "fix", .int x]
  | .bye a x => [.str "by", .int a, .int x]
  | .sum a b => [.str "sum", .int a, .int b]
  | .less a b => [.str "less", .int a, .int b]
  | .mul a b => [.str "mul", .int a, .int b]
  | .anew a => [.str "anew", .int a]
  | .opn a => [.str "open", .int a]
def Stp.dat : Stp → PySem.W.Dat
  | .ein h => .tuple [.str "in", .int h]
  | .fix x => .tuple [.str "fix", .int x]
  | .bye a x => .tuple [.str "by", .int a, .int x]
  | .sum a b => .tuple [.str "sum", .int a, .int b]
  | .less a b => .tuple [.str "less", .int a, .int b]
  | .mul a b => .tuple [.str "mul", .int a, .int b]
  | .anew a => .tuple [.str "anew", .int a]
  | .opn a => .tuple [.str "open", .int a]
theorem Stp.ok (s : Stp) : PySem.W.kqdOk 7 s.dat = true := by cases s <;> simp [Stp.dat, PySem.W.kqdOk] <;> decide +kernel
theorem Stp.rep {H : Hp} {a : Addr} {s : Stp} (h : H a = some (.tup s.vs)) : RepD H (.ref a) s.dat := by
  cases s
  case ein => exact .tup h (.cons (.str _) (.cons (.int _) .nil))
  case fix => exact .tup h (.cons (.str _) (.cons (.int _) .nil))
  case bye => exact .tup h (.cons (.str _) (.cons (.int _) (.cons (.int _) .nil)))
  case sum => exact .tup h (.cons (.str _) (.cons (.int _) (.cons (.int _) .nil)))
  case less => exact .tup h (.cons (.str _) (.cons (.int _) (.cons (.int _) .nil)))
  case mul => exact .tup h (.cons (.str _) (.cons (.int _) (.cons (.int _) .nil)))
  case anew => exact .tup h (.cons (.str _) (.cons (.int _) .nil))
  case opn => exact .tup h (.cons (.str _) (.cons (.int _) .nil))
/-- a list of steps on the heap -/
def StpsAt (H : Hp) : List V → List Stp → Prop := Paired fun v s => ∃ a, v = .ref a ∧ H a = some (.tup s.vs)
theorem StpsAt.same {H H' : Hp} (s : Same H H') {vs : List V} {ss : List Stp} (h : StpsAt H vs ss) : StpsAt H' vs ss := Paired.mapP h fun v q ⟨a, e, z⟩ => ⟨a, e, s _ _ z⟩
theorem StpsAt.get {H : Hp} {vs : List V} {ss : List Stp} {i : Nat} {x : V} (h : StpsAt H vs ss) (e : vs[i]? = some x) : ∃ a s, x = .ref a ∧ H a = some (.tup s.vs) ∧ ss[i]? = some s := by
  obtain ⟨s, h1, a, h2, h3⟩ := paired_get h e
  exact ⟨a, s, h2, h3, h1⟩
theorem StpsAt.snoc {H : Hp} {vs : List V} {ss : List Stp} (h : StpsAt H vs ss) {a : Addr} {s : Stp} (z : H a = some (.tup s.vs)) : StpsAt H (vs ++ [.ref a]) (ss ++ [s]) := Paired.snoc h ⟨a, rfl, z⟩
/-- a list that isn't a tuple may be changed -/
theorem StpsAt.upd {H : Hp} {l : Addr} {c c' : List V} (hl : H l = some (.lst c)) {vs : List V} {ss : List Stp} (h : StpsAt H vs ss) : StpsAt (L2.upd H l (.lst c')) vs ss := Paired.mapP h fun v q ⟨a, e, z⟩ => ⟨a, e, by
  rw [upd_ne fun y => by rw [y, hl] at z; cases z]
  exact z⟩
theorem StpsAt.rep {H : Hp} : ∀ {vs : List V} {ss : List Stp}, StpsAt H vs ss → RepDs H vs (ss.map Stp.dat)
  | _, _, .nil => .nil
  | _, _, .cons ⟨_, e, z⟩ t => by rw [e]; exact .cons (Stp.rep z) (StpsAt.rep t)
/-! the law's own steps -/
/-- right, as the k-th step -/
def Stp.Right (p n k : Int) : Stp → Prop
  | .ein h => 1 ≤ h ∧ h ≤ n
  | .fix x => 0 ≤ x ∧ x < p
  | .bye a x => (0 ≤ a ∧ a < k) ∧ 0 ≤ x ∧ x < p
  | .sum a b => (0 ≤ a ∧ a < k) ∧ 0 ≤ b ∧ b < k
  | .less a b => (0 ≤ a ∧ a < k) ∧ 0 ≤ b ∧ b < k
  | .mul a b => (0 ≤ a ∧ a < k) ∧ 0 ≤ b ∧ b < k
  | .anew a => 0 ≤ a ∧ a < k
  | .opn a => 0 ≤ a ∧ a < k
def usedN (ss : List Stp) (h : Int) : Nat := (ss.filter fun s => decide (s = .ein h)).length
theorem used_take {ss : List Stp} {h : Int} {i : Nat} {s : Stp} (e : ss[i]? = some s) : usedN (ss.take (i + 1)) h = usedN (ss.take i) h + (if s = .ein h then 1 else 0) := by
  unfold usedN
  rw [List.take_add_one, e, List.filter_append, List.length_append]
  congr 1
  by_cases c : s = .ein h <;> simp [c]
end Veil
namespace Veil
open PySem L2
/-! ### S13. needs, inputs, quiet steps, chance -/
def Stp.word : Stp → Str
  | .ein _ => "in"
  | .fix _ => "fix"
  | .bye _ _ => "by"
  | .sum _ _ => "sum"
  | .less _ _ => "less"
  | .mul _ _ => "mul"
  | .anew _ => "anew"
  | .opn _ => "open"
abbrev kIn : Key := Sum.inr (Str.ofString "in")
/-- inputs: lists of their own -/
def InsAt (H : Hp) : List Addr → List (List Int) → Prop := Paired fun a r => H a = some (.lst (r.map V.int))
theorem InsAt.same {H H' : Hp} (s : Same H H') {as : List Addr} {rs : List (List Int)} (h : InsAt H as rs) : InsAt H' as rs := Paired.mapP h fun a r z => s _ _ z
theorem InsAt.there {H : Hp} : ∀ {as : List Addr} {rs : List (List Int)} {l : Addr}, InsAt H as rs → H l = none → l ∉ as
  | _, _, _, .nil, _, h => nomatch h
  | _, _, l, .cons z t, hl, h => by
    rcases List.mem_cons.mp h with e | e
    · rw [← e, hl] at z
      cases z
    · exact InsAt.there t hl e
theorem InsAt.off {H : Hp} {l : Addr} {o : HO} : ∀ {as : List Addr} {rs : List (List Int)}, InsAt H as rs → l ∉ as → InsAt (L2.upd H l o) as rs
  | _, _, .nil, _ => .nil
  | _, _, .cons z t, h => .cons (by rw [upd_ne (fun e => h (by rw [e]; exact List.mem_cons_self))]; exact z) (InsAt.off t fun e => h (List.mem_cons_of_mem _ e))
theorem InsAt.snoc {H : Hp} {as : List Addr} {rs : List (List Int)} (h : InsAt H as rs) {a : Addr} {r : List Int} (z : H a = some (.lst (r.map V.int))) : InsAt H (as ++ [a]) (rs ++ [r]) := Paired.snoc h z
end Veil
namespace Veil
open PySem L2
/-! ### S14. the plain reckoning -/
def inAt (rest : List (List Int)) (h : Int) : List Int := rest.getD (h - 1).toNat []
def stpV (p : Int) (rest : List (List Int)) (fd : List Int) : Stp → Int
  | .ein h => (inAt rest h).headD 0
  | .fix x => x
  | .bye a x => fd.getD a.toNat 0 * x % p
  | .sum a b => (fd.getD a.toNat 0 + fd.getD b.toNat 0) % p
  | .less a b => (fd.getD a.toNat 0 - fd.getD b.toNat 0) % p
  | .mul a b => fd.getD a.toNat 0 * fd.getD b.toNat 0 % p
  | .anew a => fd.getD a.toNat 0
  | .opn a => fd.getD a.toNat 0
def stpRest (rest : List (List Int)) : Stp → List (List Int)
  | .ein h => rest.set (h - 1).toNat (inAt rest h).tail
  | _ => rest
def plainGo (p : Int) : List Stp → List (List Int) → List Int → List Int
  | [], _, fd => fd
  | s :: r, rest, fd => plainGo p r (stpRest rest s) (fd ++ [stpV p rest fd s])
def plainL (p : Int) (ss : List Stp) (inp : List (List Int)) : List Int := plainGo p ss inp []
structure InsOk (p n : Int) (ss : List Stp) (inp : List (List Int)) : Prop where
  len : inp.length = n.toNat
  b : ∀ r ∈ inp, ∀ x ∈ r, 0 ≤ x ∧ x < p
  en : ∀ h, 1 ≤ h → h ≤ n → usedN ss h ≤ (inAt inp h).length
structure PlSt (p n : Int) (ss : List Stp) (inp : List (List Int)) (i : Nat) (rest : List (List Int)) (fd : List Int) : Prop where
  ok : InsOk p n (ss.drop i) rest
  fl : fd.length = i
  fb : ∀ x ∈ fd, 0 ≤ x ∧ x < p
  go : plainGo p (ss.drop i) rest fd = plainL p ss inp
theorem PlSt.start {p n : Int} {ss : List Stp} {inp : List (List Int)} (h : InsOk p n ss inp) : PlSt p n ss inp 0 inp [] := ⟨by rw [List.drop_zero]; exact h, rfl, (fun x hx => nomatch hx), by rw [List.drop_zero]; rfl⟩
theorem used_cons (s : Stp) (r : List Stp) (h : Int) : usedN (s :: r) h = (if s = .ein h then 1 else 0) + usedN r h := by
  unfold usedN
  rw [List.filter_cons]
  by_cases e : s = .ein h
  · rw [if_pos (decide_eq_true e), if_pos e, List.length_cons]
    omega
  · rw [if_neg (by simp [e]), if_neg e]
    omega
theorem getD_b {p : Int} {fd : List Int} (h : ∀ x ∈ fd, 0 ≤ x ∧ x < p) {a : Int} (h0 : 0 ≤ a) (h1 : a < fd.length) : 0 ≤ fd.getD a.toNat 0 ∧ fd.getD a.toNat 0 < p := by
  have hl : a.toNat < fd.length := by omega
  rw [List.getD_eq_getElem?_getD, List.getElem?_eq_getElem hl]
  exact h _ (List.getElem_mem hl)
theorem PlSt.head {p n : Int} {ss : List Stp} {inp rest : List (List Int)} {i : Nat} {fd : List Int} (S : PlSt p n ss inp i rest fd) {h : Int} (hs : ss[i]? = some (.ein h)) (h1 : 1 ≤ h) (h2 : h ≤ n) : ∃ x r, inAt rest h = x :: r := by
  have := S.ok.en h h1 h2
  rw [drop_at hs, used_cons, if_pos rfl] at this
  cases e : inAt rest h with
  | nil => rw [e] at this; simp at this
  | cons x r => exact ⟨x, r, rfl⟩
theorem inAt_mem {rest : List (List Int)} {h : Int} (hl : (h - 1).toNat < rest.length) : inAt rest h ∈ rest := by
  unfold inAt
  rw [List.getD_eq_getElem?_getD, List.getElem?_eq_getElem hl]
  exact List.getElem_mem hl
theorem PlSt.val {p n : Int} {ss : List Stp} {inp rest : List (List Int)} {i : Nat} {fd : List Int} (S : PlSt p n ss inp i rest fd) (hp : 0 < p) {s : Stp} (hs : ss[i]? = some s) (R : s.Right p n (i : Int)) : 0 ≤ stpV p rest fd s ∧ stpV p rest fd s < p := by
  have fl := S.fl
  cases s with
  | ein h =>
    obtain ⟨x, r, e⟩ := S.head hs R.1 R.2
    simp only [stpV, e, List.headD_cons]
    have hl : (h - 1).toNat < rest.length := by rw [S.ok.len]; have := R.1; have := R.2; omega
    exact S.ok.b _ (inAt_mem hl) x (by rw [e]; exact List.mem_cons_self)
  | fix x => exact R
  | bye a x => exact ⟨Int.emod_nonneg _ (by omega), Int.emod_lt_of_pos _ hp⟩
  | sum a b => exact ⟨Int.emod_nonneg _ (by omega), Int.emod_lt_of_pos _ hp⟩
  | less a b => exact ⟨Int.emod_nonneg _ (by omega), Int.emod_lt_of_pos _ hp⟩
  | mul a b => exact ⟨Int.emod_nonneg _ (by omega), Int.emod_lt_of_pos _ hp⟩
  | anew a => exact getD_b S.fb R.1 (by rw [fl]; exact R.2)
  | opn a => exact getD_b S.fb R.1 (by rw [fl]; exact R.2)
theorem PlSt.next {p n : Int} {ss : List Stp} {inp rest : List (List Int)} {i : Nat} {fd : List Int} (S : PlSt p n ss inp i rest fd) (hp : 0 < p) {s : Stp} (hs : ss[i]? = some s) (R : s.Right p n (i : Int)) :
    PlSt p n ss inp (i + 1) (stpRest rest s) (fd ++ [stpV p rest fd s]) := by
  have hv := S.val hp hs R
  refine ⟨?_, by rw [List.length_append, S.fl]; rfl, fun x hx => ?_, ?_⟩
  · have ok := S.ok
    rw [drop_at hs] at ok
    have other : (∀ h, s ≠ .ein h) → InsOk p n (ss.drop (i + 1)) rest := fun hne => ⟨ok.len, ok.b, fun h h1 h2 => by
      have := ok.en h h1 h2
      rw [used_cons, if_neg (hne h)] at this
      omega⟩
    cases s with
    | ein h =>
      have hl : (h - 1).toNat < rest.length := by rw [S.ok.len]; have := R.1; have := R.2; omega
      refine ⟨by show (rest.set _ _).length = _; rw [List.length_set]; exact ok.len, fun r hr x hx => ?_, fun h' h1 h2 => ?_⟩
      · have hr : r ∈ rest.set (h - 1).toNat (inAt rest h).tail := hr
        rcases List.mem_or_eq_of_mem_set hr with e | e
        · exact ok.b r e x hx
        · rw [e] at hx
          exact ok.b _ (inAt_mem hl) x (List.mem_of_mem_tail hx)
      · have e1 := ok.en h' h1 h2
        rw [used_cons] at e1
        show _ ≤ (inAt (rest.set (h - 1).toNat (inAt rest h).tail) h').length
        by_cases e : h' = h
        · subst e
          rw [if_pos rfl] at e1
          have : inAt (rest.set (h' - 1).toNat (inAt rest h').tail) h' = (inAt rest h').tail := by
            show (rest.set (h' - 1).toNat (inAt rest h').tail).getD (h' - 1).toNat [] = _
            rw [List.getD_eq_getElem?_getD, List.getElem?_set_self hl]
            rfl
          rw [this, List.length_tail]
          omega
        · have hne : (h - 1).toNat ≠ (h' - 1).toNat := by have := R.1; omega
          have : inAt (rest.set (h - 1).toNat (inAt rest h).tail) h' = inAt rest h' := by
            unfold inAt
            rw [List.getD_eq_getElem?_getD, List.getElem?_set_ne hne, ← List.getD_eq_getElem?_getD]
          rw [this]
          split at e1 <;> omega
    | fix x => exact other fun h z => nomatch z
    | bye a x => exact other fun h z => nomatch z
    | sum a b => exact other fun h z => nomatch z
    | less a b => exact other fun h z => nomatch z
    | mul a b => exact other fun h z => nomatch z
    | anew a => exact other fun h z => nomatch z
    | opn a => exact other fun h z => nomatch z
  · rcases List.mem_append.mp hx with h | h
    · exact S.fb x h
    · have e : x = stpV p rest fd s := by simpa using h
      rw [e]
      exact hv
  · have go := S.go
    rw [drop_at hs, plainGo] at go
    exact go
theorem PlSt.fin {p n : Int} {ss : List Stp} {inp rest : List (List Int)} {fd : List Int} (S : PlSt p n ss inp ss.length rest fd) : fd = plainL p ss inp := by
  have go := S.go
  rw [List.drop_length] at go
  exact go
theorem InsAt.get {H : Hp} {as : List Addr} {rs : List (List Int)} {i : Nat} {a : Addr} (h : InsAt H as rs) (e : as[i]? = some a) : ∃ r, rs[i]? = some r ∧ H a = some (.lst (r.map V.int)) := paired_get h e
theorem InsAt.put {H : Hp} : ∀ {as : List Addr} {rs : List (List Int)} {i : Nat} {a : Addr} {r : List Int}, InsAt H as rs → as.Nodup → as[i]? = some a → InsAt (L2.upd H a (.lst (r.map V.int))) as (rs.set i r)
  | _, _, _, _, _, .nil, _, e => by simp at e
  | _, _, 0, a, r, .cons z t, nd, e => by
    simp at e
    subst e
    rw [List.nodup_cons] at nd
    exact .cons upd_same (InsAt.off t nd.1)
  | b :: as, _, i + 1, a, r, .cons z t, nd, e => by
    rw [List.nodup_cons] at nd
    have e : as[i]? = some a := by simpa using e
    exact .cons (by rw [upd_ne fun h => nd.1 (by rw [h]; exact List.mem_of_getElem? e)]; exact z) (InsAt.put t nd.2 e)
end Veil
namespace Veil
open PySem L2
/-! ### S15. some hands -/
/-- hands that may look -/
structure SomeOk (n f : Int) (wo some : List Int) : Prop where
  rise : some.Pairwise (· < ·)
  b : ∀ h ∈ some, 1 ≤ h ∧ h ≤ n ∧ h ∉ wo
  few : (some.length : Int) ≤ f
end Veil
namespace Veil
open PySem L2
/-! ### S16. whether two rows of inputs agree -/
end Veil
namespace Veil
open PySem L2
/-! ### S17. pairs of inputs -/
theorem Stp.Right.more {p n k k' : Int} (h : k ≤ k') {s : Stp} (r : s.Right p n k) : s.Right p n k' := by
  cases s <;> simp only [Stp.Right] at r ⊢ <;> omega
theorem inAt_set {rest : List (List Int)} {h h' : Int} {r : List Int} (h1 : 1 ≤ h) (h1' : 1 ≤ h') (hl : (h - 1).toNat < rest.length) : inAt (rest.set (h - 1).toNat r) h' = if h' = h then r else inAt rest h' := by
  unfold inAt
  by_cases e : h' = h
  · subst e
    rw [if_pos rfl, List.getD_eq_getElem?_getD, List.getElem?_set_self hl]
    rfl
  · rw [if_neg e, List.getD_eq_getElem?_getD, List.getElem?_set_ne (by omega), ← List.getD_eq_getElem?_getD]
theorem InsOk.put {p n : Int} {ss : List Stp} {inp : List (List Int)} (O : InsOk p n ss inp) {h : Int} (h1 : 1 ≤ h) (h2 : h ≤ n) {r : List Int} (hb : ∀ x ∈ r, 0 ≤ x ∧ x < p) (hl : usedN ss h ≤ r.length) : InsOk p n ss (inp.set (h - 1).toNat r) := by
  have hk : (h - 1).toNat < inp.length := by rw [O.len]; omega
  refine ⟨by rw [List.length_set]; exact O.len, fun r' hr x hx => ?_, fun h' h1' h2' => ?_⟩
  · rcases List.mem_or_eq_of_mem_set hr with e | e
    · exact O.b r' e x hx
    · rw [e] at hx
      exact hb x hx
  · rw [inAt_set h1 h1' hk]
    split
    · rename_i e
      rw [e]
      exact hl
    · exact O.en h' h1' h2'
theorem InsOk.at {p n : Int} {ss : List Stp} {inp : List (List Int)} (O : InsOk p n ss inp) {h : Int} (h1 : 1 ≤ h) (h2 : h ≤ n) : ∀ x ∈ inAt inp h, 0 ≤ x ∧ x < p := O.b _ (inAt_mem (by rw [O.len]; omega))
end Veil
namespace Veil
open PySem L2
def OthSt (H5 H' : Hp) (p n : Int) (ss : List Stp) (oa : Addr) : Prop := Same H5 H' ∧ ∃ (os : List Addr) (oth : List (List Int)), H' oa = some (.lst (os.map V.ref)) ∧ os.Nodup ∧ oa ∉ os ∧ (∀ b ∈ os, H5 b = none) ∧ InsAt H' os oth ∧ InsOk p n ss oth ∧ ∀ r ∈ oth, r.length ≤ 200
theorem OthSt.on {H5 H H' : Hp} {p n : Int} {ss : List Stp} {oa : Addr} (h : OthSt H5 H p n ss oa) (s : Same H H') : OthSt H5 H' p n ss oa := by
  obtain ⟨s0, os, oth, h1, h2, h3, h4, h5, h6, h7⟩ := h
  exact ⟨s0.trans s, os, oth, s _ _ h1, h2, h3, h4, h5.same s, h6, h7⟩
end Veil
namespace Veil
open PySem L2
/-! ### S18. a step that is spoilt (k10) -/
end Veil
namespace L2
open PySem PySem.Spec PyProof.Rows
/-! ### V19. a dict of the module -/
def KDict (P : Program) (w : World) (K : PySem.W.Frag) (a : Addr) (kvs : List (Key × V)) : Prop := (a == sysModules) = false ∧ ∃ (o : Obj) (vs : List (Key × Value)), K.lookup a = some o ∧ o.IsDictOf (mixKind P w) vs ∧ KV kvs vs
/-- where a def that may raise doesn't -/
theorem Ok.calm {P : Program} {w : World} {K : PySem.W.Frag} {mg : Str → Option Value} {base : Heap} {x : Str} {ps : List Str} {sp : Sp} {k : Nat} (O : Ok P w K mg base (CXE P w) k x ps sp) : Ok P w K mg base CX0 k x ps (fun vs H Q _ => sp vs H Q E0) := by
  obtain ⟨f, fd, ⟨len, run⟩, hb, m⟩ := O
  refine ⟨f, fd, ⟨fun vs H Q E h => len vs H Q E0 h, fun A outer s H args us vs Q E hr e0 hbd r hsp => ?_⟩, hb, m⟩
  refine codeAny_mono (run A outer s H args us vs Q E0 hr e0 hbd r hsp) fun r s' hq => ?_
  cases r with
  | error e =>
    obtain ⟨_, _, _, _, _, _, _, _, z⟩ := hq
    exact z.elim
  | ok fl => cases fl <;> exact hq
end L2
namespace L2
open PySem PySem.Spec PyProof.Rows
/-! ### V20. zip of several lists and tuples -/
def Fed (b : Bool) (h : Heap) (it l : Addr) (i : Nat) : Prop := if b = true then h.IsTupleIter it l i else h.IsListIter it l i
def Bas (b : Bool) (h : Heap) (l : Addr) (xs : Array Value) : Prop := if b = true then h.IsTuple l xs else h.IsList l xs
theorem Fed.ext {b : Bool} {h h' : Heap} {it l c : Addr} {i : Nat} (x : Fed b h it l i) (hs : Heap.ExtBut c h h') (n : it ≠ c) : Fed b h' it l i := by
  cases b
  · exact Heap.IsListIter.extBut (show h.IsListIter it l i from x) hs n
  · exact Heap.IsTupleIter.extBut (show h.IsTupleIter it l i from x) hs n
theorem Bas.ext {b : Bool} {h h' : Heap} {l c : Addr} {xs : Array Value} (x : Bas b h l xs) (hs : Heap.ExtBut c h h') (n : l ≠ c) : Bas b h' l xs := by
  cases b
  · exact Heap.IsList.extBut (show h.IsList l xs from x) hs n
  · exact Heap.IsTuple.extBut (show h.IsTuple l xs from x) hs n
theorem Fed.obj {b : Bool} {h : Heap} {it l : Addr} {i : Nat} (x : Fed b h it l i) : ∃ o, h.get? it = some o ∧ (∃ vs, o.data = .fields vs) ∧ ∀ h' : Heap, h'.get? it = some o → Fed b h' it l i := by
  cases b
  · obtain ⟨o, e, c, d⟩ := (show h.IsListIter it l i from x)
    exact ⟨o, e, ⟨_, d⟩, fun h' e' => ⟨o, e', c, d⟩⟩
  · obtain ⟨o, e, c, d⟩ := (show h.IsTupleIter it l i from x)
    exact ⟨o, e, ⟨_, d⟩, fun h' e' => ⟨o, e', c, d⟩⟩
section
variable {prog : Program} {w : World} {A : Around} {E : Value → Shared → Prop} {s : Shared}
end
end L2
namespace L2
open PySem PySem.Spec PyProof.Rows
structure ZAp (z TI TO : Addr) (ss : List (Bool × Addr)) (is : List Addr) : Prop where
  nd : is.Nodup
  tz : TI ≠ z
  oz : TO ≠ z
  to : TI ≠ TO
  iz : ∀ i ∈ is, i ≠ z ∧ i ≠ TI ∧ i ≠ TO
  src : ∀ q ∈ ss, q.2 ≠ z ∧ q.2 ≠ TO ∧ q.2 ∉ is
section
variable {prog : Program} {w : World} {A : Around} {E : Value → Shared → Prop} {s : Shared}
end
end L2
namespace L2
open PySem PySem.Spec PyProof.Rows
section
variable {X : Cx} {pins : List (Addr × Obj)} {σ : St} {H : Hp} {s : Shared}
end
end L2
namespace L2
open PySem PySem.Spec PyProof.Rows
section
variable {X : Cx}
end
end L2
namespace L2
open PySem PySem.Spec PyProof.Rows
end L2
namespace L2
open PySem PySem.Spec PyProof.Rows
/-! ### V21. list(range(a, b)) -/
end L2
namespace Veil
open PySem L2
/-! ### S20. right steps, as the program tells them -/
def Stp.kinds : Stp → List Str
  | .ein _ => ["hand"]
  | .fix _ => ["number"]
  | .bye _ _ => ["step", "number"]
  | .sum _ _ => ["step", "step"]
  | .less _ _ => ["step", "step"]
  | .mul _ _ => ["step", "step"]
  | .anew _ => ["step"]
  | .opn _ => ["step"]
def Stp.args : Stp → List Int
  | .ein h => [h]
  | .fix x => [x]
  | .bye a x => [a, x]
  | .sum a b => [a, b]
  | .less a b => [a, b]
  | .mul a b => [a, b]
  | .anew a => [a]
  | .opn a => [a]
structure Frm (P : Program) (w : World) (K : PySem.W.Frag) (mg : Str → Option Value) (fa : Addr) (kvs : List (Key × V)) : Prop where
  g : mg "FORMS" = some (.ref fa)
  d : KDict P w K fa kvs
  at_ : ∀ s : Stp, ∃ t, valV kvs (Sum.inr s.word : Key) = some (.ref t) ∧ ∀ H, SqT K H t (s.kinds.map V.str)
end Veil
namespace Veil
open PySem L2
end Veil
namespace Veil
open PySem L2
end Veil
namespace L2
open PySem PySem.Spec PyProof.Rows
open PySem.W (Dat kqdP kqdPs kqdOk)
/-! ### V22. a.count(x), of values as data -/
end L2
namespace Veil
open PySem L2
open PySem.W (Dat kqdP kqdPs kqdOk)
/-! ### S21. inputs and the plain reckoning, as the program tells them -/
/-- the rests: what is left of the inputs -/
def Rests (n : Int) (ss : List Stp) (inp rest : List (List Int)) (i : Nat) : Prop := ∀ h, 1 ≤ h → h ≤ n → inAt rest h = (inAt inp h).drop (usedN (ss.take i) h)
theorem Rests.start {n : Int} {ss : List Stp} {inp : List (List Int)} : Rests n ss inp inp 0 := fun h _ _ => by simp [usedN]
theorem Rests.next {p n : Int} {ss : List Stp} {inp rest : List (List Int)} {i : Nat} (R : Rests n ss inp rest i) (hl : rest.length = n.toNat) {s : Stp} (hs : ss[i]? = some s) (hr : s.Right p n (i : Int)) : Rests n ss inp (stpRest rest s) (i + 1) := by
  intro h h1 h2
  rw [used_take hs]
  cases s with
  | ein k =>
    show inAt (rest.set (k - 1).toNat (inAt rest k).tail) h = _
    have hk := hr.1
    have hk2 := hr.2
    rw [inAt_set hk h1 (by omega)]
    by_cases e : h = k
    · subst e
      rw [if_pos rfl, if_pos rfl, R h h1 h2, List.tail_drop]
    · rw [if_neg e, if_neg (fun z => e (by injection z with z; exact z.symm)), Nat.add_zero]
      exact R h h1 h2
  | _ => rw [if_neg (fun z => nomatch z), Nat.add_zero]; exact R h h1 h2
end Veil
namespace L2
open PySem PySem.Spec PyProof.Rows
open PySem.W (Looks looks_findIn looks_mroIn findIn mroIn)
section
variable {prog : Program} {w : World} {A : Around} {hh : Heap} {g : Array GenState} {d : Drawn} {t : Nat} {os : OsState} {a C : Addr}
theorem exc_get {R : Result → Shared → Prop} {tp : Value} (L0 : Looks (model prog w) hh (typeOf (.ref a)) (.ref C)) (L5 : Looks (model prog w) hh (isSubtype (.ref C) (.type "object")) true) (h : R (.ok (.ret (.ref C))) ⟨hh, g, d, t, os⟩) :
    codeAny (model prog w) A (.call (.builtin "getset_descriptor.__get__") ⟨[.builtin "object.__class__", .ref a, tp], []⟩) R ⟨hh, g, d, t, os⟩ := by
  have hT5 : (⟨hh, g, d, t, os⟩ : Shared).TypeIs (.builtin "object.__class__") "getset_descriptor" := F.typeOf_object_class
  have LI : Looks (model prog w) hh (isInstance (.ref a) (.type "object")) true := L0.andThen L5
  have ow : (".".intercalate ("object.__class__".cutAt '.').dropLast) = "object" := congrArg Prod.fst PySem.W.KF.owner_class
  have L5' : Looks (model prog w) hh (isSubtype (.ref C) (.type (".".intercalate ("object.__class__".cutAt '.').dropLast))) true := by rw [ow]; exact L5
  refine codeAny_call_builtin F.slot_gs_get.plain F.entry_gs_get (F.slot_gs_get.check _ _ _ _ _ _ _ _ hT5 (F.args_gs_get _ _ _) ?_)
  repeat (any_goals (first | assumption | with_reducible refine Looks.at L0 ?_ | with_reducible refine Looks.at L5 ?_ | with_reducible refine Looks.at L5' ?_ | wp_step))
  refine ⟨Code.quiet_builtin _ (by decide +kernel), codeAny_builtin PySem.W.KF.entry_class ?_⟩
  unfold Builtin.«object.__class__»
  repeat (any_goals (first | assumption | with_reducible refine Looks.at L0 ?_ | wp_step))
theorem exc_entry {E : Value → Shared → Prop} {Q : Fin → Shared → Prop} {tk : Tok} (L0 : Looks (model prog w) hh (typeOf (.ref a)) (.ref C)) (L3 : Looks (model prog w) hh (typeLookup (.ref C) "__class__") (some (.builtin "object.__class__"))) (L5 : Looks (model prog w) hh (isSubtype (.ref C) (.type "object")) true)
    (h : Q (.done (.ret (.ref C))) ⟨hh, g, d, t, os⟩) : wpAny (model prog w) A (Builtin.«object.__getattribute__» ⟨[.ref a, .str "__class__" tk], []⟩) Q E ⟨hh, g, d, t, os⟩ := by
  have f5 := F.typeOf_object_class
  have f6 := F.slot_gs_get.lookup
  have f7 := F.slot_gs_set.lookup
  repeat (any_goals (first | assumption | with_reducible refine Looks.at L0 ?_ | with_reducible refine Looks.at L3 ?_ | wp_step))
  exact exc_get L0 L5 (wpAny_pure h)
theorem exc_call {R : Result → Shared → Prop} {tk : Tok} (L0 : Looks (model prog w) hh (typeOf (.ref a)) (.ref C)) (L3 : Looks (model prog w) hh (typeLookup (.ref C) "__class__") (some (.builtin "object.__class__"))) (L4 : Looks (model prog w) hh (isSubtype (.ref C) (.type "BaseException")) true) (L5 : Looks (model prog w) hh (isSubtype (.ref C) (.type "object")) true)
    (h : R (.ok (.ret (.ref C))) ⟨hh, g, d, t, os⟩) : codeAny (model prog w) A (.call (.builtin "BaseException.__getattribute__") ⟨[.ref a, .str "__class__" tk], []⟩) R ⟨hh, g, d, t, os⟩ := by
  refine codeAny_call_builtin PySem.F.attrBase_ValueError.ga.plain F.entry_bexc_ga ?_
  have hk : builtinKind "BaseException.__getattribute__" = some .slot := by decide +kernel
  have hsp : splitId "BaseException.__getattribute__" = some ("BaseException", "__getattribute__") := by decide +kernel
  have hargs := F.args_bexc_ga (.ref a) (.str (Str.ofString "__class__") tk)
  have LI : Looks (model prog w) hh (isInstance (.ref a) (.type "BaseException")) true := L0.andThen L4
  simp only [checkBuiltinCall, hk, hsp]
  refine wpAny_bind (LI.at ?_)
  repeat (first | with_reducible exact exc_entry L0 L3 L5 h | wp_step)
end
theorem ex_class {K : PySem.W.Frag} {prog : Program} {w : World} {A : Around} {E : Value → Shared → Prop} {Q : Option Value → Shared → Prop} {s : Shared} {a C : Addr} (X : K.In s.heap) (hx : ∃ o, s.heap.get? a = some o ∧ o.cls = .ref C)
    (hga : findIn K (.ref C) "__getattribute__" = some (some (.builtin "BaseException.__getattribute__"))) (hgt : findIn K (.ref C) "__getattr__" = some none) (ha : findIn K (.ref C) "__class__" = some (some (.builtin "object.__class__")))
    (hmB : mroIn K C (.type "BaseException") = some true) (hmO : mroIn K C (.type "object") = some true) (h : Q (some (.ref C)) { s with toks := s.toks + 1 }) : wpAny (model prog w) A (getAttr? (.ref a) "__class__") Q E s := by
  obtain ⟨hh, g, d, t, os⟩ := s
  obtain ⟨o, h1, h2⟩ := hx
  have L0 : Looks (model prog w) hh (typeOf (.ref a)) (.ref C) := h2 ▸ (Looks.ld h1).andThen .now
  have L1 := looks_findIn (M := model prog w) X hga
  have L2 := looks_findIn (M := model prog w) X hgt
  have L3 := looks_findIn (M := model prog w) X ha
  have L4 := looks_mroIn (M := model prog w) X hmB
  have L5 := looks_mroIn (M := model prog w) X hmO
  unfold getAttr? getAttrBy? getAttrBy
  refine wpAny_bind (wpAny_mkText (wpAny_bind (wpAny_attempt (wpAny_holding (wpAny_bind (L0.at (wpAny_bind (L1.at ?_)))))))); dsimp only
  rw [if_neg (by rw [show (Value.builtin "BaseException.__getattribute__" == Value.builtin "object.__getattribute__") = false by decide +kernel, Bool.and_false]; decide)]
  unfold getAttrByItsOwn hookBefore
  rw [if_pos (show onTheHeap (Value.ref C) = true from rfl)]
  refine wpAny_bind (L2.at (wpAny_bind (wpAny_attempt (wpAny_holding ?_))))
  (show wpAny _ _ (boundAndCalled _ _ _) _ _ _); unfold boundAndCalled
  have fb := PySem.F.attrBase_ValueError.ga.bind (.ref a)
  rw [fb]
  refine wpAny_bind (wpAny_pure (wpAny_call (exc_call L0 L3 L4 L5 ?_)))
  show wpAny _ _ (handedOut (.ref C)) _ _ _
  exact PySem.W.handed_on rfl (wpAny_pure h)
structure ExCls (K : PySem.W.Frag) (C : Addr) : Prop where
  ga : findIn K (.ref C) "__getattribute__" = some (some (.builtin "BaseException.__getattribute__"))
  gt : findIn K (.ref C) "__getattr__" = some none
  cl : findIn K (.ref C) "__class__" = some (some (.builtin "object.__class__"))
  mB : mroIn K C (.type "BaseException") = some true
  mO : mroIn K C (.type "object") = some true
theorem ExCls.is {K : PySem.W.Frag} {C : Addr} (O : ExCls K C) : (PySem.W.clsIn K C).isSome = true := by
  have z := O.mO
  unfold mroIn at z
  cases e : PySem.W.clsIn K C with
  | none => rw [e] at z; cases z
  | some cd => rfl
theorem kitx_exc {K : PySem.W.Frag} {a C : Addr} (O : ExCls K C) : PySem.W.KitX K (.ref a) (.ref C) (fun h => ∃ o, h.get? a = some o ∧ o.cls = .ref C) where
  ty := fun _ _ _ ⟨o, h1, h2⟩ => h2 ▸ (Looks.ld h1).andThen .now
  it := fun _ _ X _ => by
    have z := O.is
    unfold PySem.W.clsIn at z
    split at z
    · rename_i c' d' cd' sl' ho
      intro A' Q' E' s' k q
      unfold isType loadHead; exact wpAny_bind (wpAny_loadPart (k _ _ (X _ _ ho)) (wpAny_pure q))
    · cases z
  ne := fun h tp dd its n sl X htp => by
    refine Bool.eq_false_iff.mpr fun q => ?_
    have e : C = tp := Value.ref.inj (beq_iff_eq.mp q)
    subst e
    have z := O.is
    unfold PySem.W.clsIn at z
    split at z
    · rename_i c' d' cd' sl' ho
      have := (X _ _ ho).symm.trans htp
      cases this
    · cases z
  ca := fun X p k => ex_class X p O.ga O.gt O.cl O.mB O.mO k
theorem call_isinstB {X : Cx} (K : PySem.W.Frag) (hK : X.K = K := by rfl) : CallR X (.builtin "isinstance") (fun xs H Q => ∃ (a C : Addr) (vc : V) (v : Value) (b : Bool), xs = [.ref a, vc] ∧ H a = some (ExAt a C) ∧ ExCls K C ∧ tyV? vc = some v ∧ PySem.W.kitOne K (.ref C) v = some b ∧ Q (.bl b) H) := by
  subst hK
  intro pins s σ H xs us Q I r h
  obtain ⟨a, C, vc, v, b, rfl, ha, O, hc, hk, q⟩ := h
  obtain ⟨u1, u2, rfl, r1, r2⟩ := r.two
  cases r1
  have e2 : u2 = v := by
    cases vc with
    | ty T => cases hc; exact r2
    | ref D => cases hc; exact r2
    | _ => cases hc
  subst e2
  exact PySem.W.kia_one (kitx_exc O) I.kIn (I.hok a _ ha).1 hk (by intro z; cases z) fun tk => ⟨.bl b, H, I.tok tk, rfl, q⟩
end L2
namespace L2
open PySem PySem.Spec PyProof.Rows
/-! ### V24. a.insert(i, x) -/
end L2
namespace Veil
open PySem L2
/-! ### S22. inputs copied, inputs spoilt -/
end Veil
namespace Veil
open PySem L2
theorem Paired.append {α β : Type} {R : α → β → Prop} : ∀ {a c : List α} {b d : List β}, Paired R a b → Paired R c d → Paired R (a ++ c) (b ++ d)
  | _, _, _, _, .nil, h => h
  | _, _, _, _, .cons r t, h => .cons r (Veil.Paired.append t h)
end Veil
namespace Veil
open PySem L2
open PySem.W (Dat kqdP kqdPs kqdOk)
theorem InsAt.rep {H : Hp} : ∀ {as : List Addr} {inp : List (List Int)}, InsAt H as inp → RepDs H (as.map V.ref) (inp.map fun r => .list (r.map Dat.int))
  | _, _, .nil => .nil
  | _, _, .cons z t => .cons (.lst z (RepDs.ints _)) (InsAt.rep t)
end Veil
namespace L2
open PySem PySem.Spec PyProof.Rows
/-! ### V25. == of two pairs of a number and a truth -/
theorem op_eqIB {X : Cx} (hu : X.A.units + 64 < cLine) : OpR X (compareOp .Eq) (fun x y H Q => ∃ (a b : Addr) (i : Int) (u : Bool), x = .ref a ∧ y = .ref b ∧ H a = some (.tup [.int i, .bl u]) ∧ H b = some (.tup [.int i, .bl u]) ∧ Q (.bl true) H) := by
  intro pins s σ H x y v w Q I rx ry h
  obtain ⟨a, b, i, u, rfl, rfl, ha, hb, q⟩ := h
  cases rx
  cases ry
  have rd : ∀ c, H c = some (.tup [.int i, .bl u]) → ∃ as, Reads s.heap (.ref c) (.tuple [.int i, .bool u]) as := fun c hc => by
    obtain ⟨_, its, rv, o, hg, hcl, m, hd⟩ := (show ObjOk X.prog X.w H s.heap c (.tup [.int i, .bl u]) from I.hok c _ hc)
    obtain ⟨u1, u2, rfl, r1, r2⟩ := rv.two
    obtain ⟨t, rfl⟩ := r1
    cases (show u2 = Value.bool u from r2)
    exact ⟨_, Reads.tuple hg hcl hd (.cons (.int i t) (.cons (.bool u) .nil))⟩
  obtain ⟨as, ra⟩ := rd a ha
  obtain ⟨bs, rb⟩ := rd b hb
  have sh : SeqAt.shaped (.tuple [.int i, .bool u]) = true := by
    cases u <;> rfl
  have eq : PyData.eqv (.tuple [.int i, .bool u]) (.tuple [.int i, .bool u]) = true := by
    cases u <;> simp [PyData.eqv, PyData.eqvAll]
  exact eq_dataH ra rb sh sh hu (by rw [eq]; exact ⟨.bl true, H, I, rfl, q⟩)
end L2
namespace Veil
open PySem L2
/-! ### S23. hands that look, and their veil -/
def risGo (n : Int) : Int → List Int → Bool
  | _, [] => true
  | l, h :: r => if h ≤ l ∨ n < h then false else risGo n h r
def risB (n : Int) (hs : List Int) : Bool := risGo n 0 hs
theorem risGo_iff {n : Int} : ∀ {hs : List Int} {l : Int}, risGo n l hs = true ↔ (∀ h ∈ hs, l < h ∧ h ≤ n) ∧ hs.Pairwise (· < ·)
  | [], l => by simp [risGo]
  | h :: r, l => by
    unfold risGo
    by_cases c : h ≤ l ∨ n < h
    · rw [if_pos c]
      refine ⟨fun z => (nomatch z), fun z => ?_⟩
      have := z.1 h List.mem_cons_self
      omega
    · rw [if_neg c, risGo_iff (hs := r) (l := h), List.pairwise_cons]
      constructor
      · rintro ⟨h1, h2⟩
        refine ⟨fun k hk => ?_, fun k hk => (h1 k hk).1, h2⟩
        rcases List.mem_cons.mp hk with e | e
        · subst e; omega
        · have := h1 k e; omega
      · rintro ⟨h1, h2, h3⟩
        exact ⟨fun k hk => ⟨h2 k hk, (h1 k (List.mem_cons_of_mem _ hk)).2⟩, h3⟩
theorem risB_iff {n : Int} {hs : List Int} : risB n hs = true ↔ (∀ h ∈ hs, 1 ≤ h ∧ h ≤ n) ∧ hs.Pairwise (· < ·) := by
  unfold risB
  rw [risGo_iff]
  exact and_congr_left fun _ => forall_congr' fun h => forall_congr' fun _ => by omega
def spRising (C : Addr) : Sp := fun vs H Q _ => ∃ (t s : Addr) (p n f : Int) (hs : List Int), vs = [.ref t, .ref s] ∧ TabAt C H t p n f ∧ H s = some (.lst (hs.map V.int)) ∧ PureQ H Q (.bl (risB n hs))
def spRefuseHands (C cH : Addr) : Sp := fun vs H Q E => ∃ (t s : Addr) (p n f : Int) (hs : List Int), vs = [.ref t, .ref s] ∧ TabAt C H t p n f ∧ H s = some (.lst (hs.map V.int)) ∧ (risB n hs = true → PureQ H Q .non) ∧ (risB n hs = false → ∀ H', Same H H' → E (.ref cH) none H')
def veilS (p sl : Int) (row : List Int) : List Int := List.zipWith (fun h b => (h - sl * b) % p) (row ++ [0]) (0 :: row)
theorem veilS_addT (p sl : Int) (row : List Int) : veilS p sl row = addT p (-sl) (row ++ [0]) (0 :: row) := by
  unfold veilS addT
  congr 1
  funext b h
  rw [Int.neg_mul, Int.sub_eq_add_neg]
theorem veilS_len (p sl : Int) (row : List Int) : (veilS p sl row).length = row.length + 1 := by rw [veilS_addT, addT_len]; simp
theorem veilS_b {p sl : Int} (hp : 0 < p) (row : List Int) : ∀ v ∈ veilS p sl row, 0 ≤ v ∧ v < p := by rw [veilS_addT]; exact addT_b hp _ _
theorem veilS_poly {p sl : Int} (row : List Int) (z : Int) : polyV (veilS p sl row) z % p = (1 - sl * z) * polyV row z % p := by
  rw [veilS_addT, polyV_addT _ _ _ (by simp), polyV_snoc0]
  congr 1
  simp only [polyV]
  rw [Int.zero_add, Int.neg_mul, Int.sub_mul, Int.one_mul, Int.mul_assoc]
  omega
theorem veilS_head {p sl : Int} {r : Int} {row : List Int} (h : 0 ≤ r ∧ r < p) : (veilS p sl (r :: row)).head? = some r := by
  show some ((r - sl * 0) % p) = _
  rw [Int.mul_zero, Int.sub_zero, Int.emod_eq_of_lt h.1 h.2]
def veilR (p : Int) (hs : List Int) : List Int := hs.foldl (fun row h => veilS p (backI p h) row) [1]
theorem veilR_snoc (p : Int) (hs : List Int) (h : Int) : veilR p (hs ++ [h]) = veilS p (backI p h) (veilR p hs) := by unfold veilR; rw [List.foldl_append]; rfl
theorem veilR_len (p : Int) (hs : List Int) : (veilR p hs).length = hs.length + 1 := by
  unfold veilR
  have : ∀ (hs row : List Int), (hs.foldl (fun row h => veilS p (backI p h) row) row).length = row.length + hs.length := fun hs => by
    induction hs with
    | nil => intro row; rfl
    | cons h r ih => intro row; rw [List.foldl_cons, ih, veilS_len, List.length_cons]; omega
  rw [this]
  simp
  omega
theorem veilR_b {p : Int} (hp : 1 < p) : ∀ (hs : List Int), ∀ v ∈ veilR p hs, 0 ≤ v ∧ v < p := by
  unfold veilR
  have : ∀ (hs row : List Int), (∀ v ∈ row, 0 ≤ v ∧ v < p) → ∀ v ∈ hs.foldl (fun row h => veilS p (backI p h) row) row, 0 ≤ v ∧ v < p := fun hs => by
    induction hs with
    | nil => intro row h; exact h
    | cons h r ih => intro row _; exact ih _ (veilS_b (by omega) row)
  exact fun hs => this hs [1] (fun v hv => by rw [List.mem_singleton.mp hv]; omega)
theorem veilR_head {p : Int} (hp : 1 < p) (hs : List Int) : (veilR p hs).head? = some 1 := by
  unfold veilR
  have : ∀ (hs row : List Int), (∃ r, row = 1 :: r) → (hs.foldl (fun row h => veilS p (backI p h) row) row).head? = some 1 := fun hs => by
    induction hs with
    | nil => rintro row ⟨r, rfl⟩; rfl
    | cons h r ih =>
      rintro row ⟨r', rfl⟩
      refine ih _ ?_
      have e := veilS_head (p := p) (sl := backI p h) (r := 1) (row := r') ⟨by omega, hp⟩
      cases ev : veilS p (backI p h) (1 :: r') with
      | nil => rw [ev] at e; cases e
      | cons a b => rw [ev] at e; cases e; exact ⟨b, ev⟩
  exact this hs [1] ⟨[], rfl⟩
theorem veilR_zero {p : Int} (hp : p ∈ primes9) : ∀ (hs : List Int), (∀ h ∈ hs, 1 ≤ h ∧ h < p) → ∀ h ∈ hs, polyV (veilR p hs) h % p = 0 := by
  unfold veilR
  have : ∀ (hs row : List Int) (z : Int), (∀ h ∈ hs, 1 ≤ h ∧ h < p) → (polyV row z % p = 0 ∨ z ∈ hs) → polyV (hs.foldl (fun row h => veilS p (backI p h) row) row) z % p = 0 := fun hs => by
    induction hs with
    | nil => intro row z _ h; rcases h with h | h; exact h; cases h
    | cons h r ih =>
      intro row z hb hz
      refine ih _ z (fun k hk => hb k (List.mem_cons_of_mem _ hk)) ?_
      by_cases e : z ∈ r
      · exact .inr e
      refine .inl ?_
      rw [veilS_poly]
      rcases hz with hz | hz
      · rw [Int.mul_emod, hz, Int.mul_zero, Int.zero_emod]
      · rcases List.mem_cons.mp hz with e' | e'
        · subst e'
          have hb1 := hb z List.mem_cons_self
          have bk := (backI_ok hp (x := z) (by rw [Int.emod_eq_of_lt (by omega) hb1.2]; omega)).2
          have e1 : (1 - backI p z * z) % p = 0 := by
            rw [Int.sub_emod, Int.mul_comm, bk]
            have : (1 : Int) % p = 1 := Int.emod_eq_of_lt (by decide) (by omega)
            rw [this]
            rfl
          rw [Int.mul_emod, e1, Int.zero_mul, Int.zero_emod]
        · exact absurd e' e
  exact fun hs hb h hh => this hs [1] h hb (.inr hh)
def veilL (p : Int) (f : Nat) (hs : List Int) : List Int := veilR p hs ++ List.replicate (f + 1 - (hs.length + 1)) 0
def spVeilP (C cH cN : Addr) : Sp := fun vs H Q E => ∃ (t s : Addr) (p n f : Int) (hs : List Int), vs = [.ref t, .ref s] ∧ TabAt C H t p n f ∧ p ∈ primes9 ∧ (0 ≤ n ∧ n < p) ∧ (0 ≤ f ∧ f ≤ 2) ∧ H s = some (.lst (hs.map V.int)) ∧
  (risB n hs = true → (hs.length : Int) ≤ f → NewQ H Q ((veilL p f.toNat hs).map V.int)) ∧ (risB n hs = false → ∀ H', Same H H' → E (.ref cH) none H') ∧ (risB n hs = true → f < (hs.length : Int) → ∀ H', Same H H' → E (.ref cN) none H')
end Veil
namespace Veil
open PySem L2
def spMet (C : Addr) : Sp := fun vs H Q _ => ∃ (t s : Addr) (p n f : Int) (hs : List Int), vs = [.ref t, .ref s] ∧ TabAt C H t p n f ∧ p ∈ primes9 ∧ (0 ≤ n ∧ n < p) ∧ (0 ≤ f ∧ f ≤ 2) ∧ H s = some (.lst (hs.map V.int)) ∧
  (risB n hs = true → (hs.length : Int) ≤ f → ∀ d r H', Same H H' → H' d = some (.tup [.int 0, .ref r]) → H' r = some (.lst ((veilL p f.toNat hs).map V.int)) → Q (.ref d) H') ∧ (risB n hs = false → ∀ d H', Same H H' → H' d = some (.tup [.int 1, .bl true]) → Q (.ref d) H') ∧ (risB n hs = true → f < (hs.length : Int) → ∀ d H', Same H H' → H' d = some (.tup [.int 2, .bl true]) → Q (.ref d) H')
def someBy (c : Int) (n : Nat) : List Int := ((List.range n).map fun i : Nat => 1 + (i : Int)).filter fun h => decide (mixI c h 4 = 0)
theorem someBy_ris (c : Int) {n : Int} (hn : 0 ≤ n) : risB n (someBy c n.toNat) = true := by
  refine risB_iff.mpr ⟨fun h hm => ?_, ?_⟩
  · obtain ⟨i, hi, rfl⟩ := List.mem_map.mp (List.mem_filter.mp hm).1
    have := List.mem_range.mp hi
    omega
  · refine List.Pairwise.filter _ (List.pairwise_map.mpr ?_)
    exact List.Pairwise.imp (fun {a b} h => by omega) List.pairwise_lt_range
theorem someBy_len (c : Int) (n : Nat) : (someBy c n).length ≤ n := by
  refine Nat.le_trans (List.length_filter_le _ _) ?_
  rw [List.length_map, List.length_range]
  exact Nat.le_refl _
theorem someBy_next (c : Int) (k : Nat) : someBy c (k + 1) = someBy c k ++ (if mixI c (1 + (k : Int)) 4 = 0 then [1 + (k : Int)] else []) := by
  unfold someBy
  rw [List.range_succ, List.map_append, List.filter_append]
  congr 1
  by_cases h : mixI c (1 + (k : Int)) 4 = 0 <;> simp [h]
end Veil
namespace Veil
open PySem L2
seal L2.PSs L2.PS L2.PE L2.PT L2.PW L2.PA L2.PG L2.PGs L2.PI L2.PTs L2.PO L2.PH L2.PJ L2.OpR L2.CallR L2.IxR L2.UnR L2.TruR L2.SlR
def top (i : Nat) : Stmt := PySem.Challenge.pw_veilsum_k16_veils.main.body.getD i (.Pass ⟨0, 0, 0, 0⟩)
abbrev s_is_table : Stmt := top 8
abbrev s_Table_init : Stmt := inClass (top 9) 0
abbrev s_back : Stmt := top 10
abbrev s_are_rising_hands : Stmt := top 12
abbrev s_refuse_hands : Stmt := top 13
abbrev s_veil : Stmt := top 14
abbrev s_law_cell_at : Stmt := top 16
abbrev s_law_mix : Stmt := top 17
abbrev s_law_whole : Stmt := top 18
abbrev s_law_table_by : Stmt := top 19
abbrev s_law_worth : Stmt := top 20
abbrev s_law_met : Stmt := top 21
abbrev s_law : Stmt := top 22
section
variable {P : Program} {w : World} {K : PySem.W.Frag} {mg : Str → Option Value} {base : Heap} {C pa : Addr}
/-! ### D1. the defs -/
theorem sc_is_table : FnScope ["prime", "hands", "few"] ["prime", "hands", "few"] (defScope s_is_table) := ⟨rfl, rfl, rfl, by decide +kernel, rfl, by decide +kernel, by decide +kernel⟩
theorem ok_is_table (F : Src K mg "is_table" "is_table" s_is_table ["prime", "hands", "few"]) (T : Pri K mg pa) : Ok P w K mg base CX0 1 "is_table" ["prime", "hands", "few"] spIsT := by
  refine F.ok sc_is_table (fun vs H Q E h => ?_) (fun f cdv A outer s H vs Q E hr h => ?_)
  · obtain ⟨p, n, f, rfl, _⟩ := h
    rfl
  obtain ⟨p, n, f, rfl, q⟩ := h
  refine ⟨_, (pss_cons (ps_if (PW.pt (pw_or (pt_cmpR op_notIn_seq (pv 0) (pe_glob (v := .ref _) rfl T.gPRIMES rfl) rfl) (pw_or1 (pt_cmpR op_notIn_seq (pv 2) (pe_tup (pa_cons pe_int (pa_cons pe_int pa_nil))) rfl))))
      (pss_one (ps_ret pe_bl))
      pss_nil)
    (pss_one (ps_ret (pe_and (pe_chain op_le op_le pe_int (pv 1) pe_int) (pe_and (pe_cmpR op_lt (pv 1) (pv 0) (nomark _)) (pe_one (pe_cmpR op_lt (pe_op op_mul pe_int (pv 2)) (pv 1) (nomark _)))))))), ?_⟩
  refine ⟨_, rfl, pa, _, rfl, .inr (T.sq H), rfl, by decide, _, rfl, ?_⟩
  refine ite2 (fun c1 => ?_) (fun c1 => ?_)
  · have c1 : (!inV (.int p) (primes9.map V.int)) = true := c1
    refine iteT ?_
    have e : isTB p n f = false := by unfold isTB; rw [if_pos c1]
    rw [← e]
    exact q H (Same.refl H)
  have c1 : ¬ (!inV (.int p) (primes9.map V.int)) = true := c1
  refine ⟨_, rfl, (by show 2 ≤ sizeLine; decide), fun t ht => ?_⟩
  refine ⟨t, _, rfl, .inr (SqT.of upd_same), rfl, by decide, _, rfl, ?_⟩
  have s1 : Same H (upd H t (.tup [.int 1, .int 2])) := same_new ht _
  refine ite2 (fun c2 => ?_) (fun c2 => ?_)
  · have c2 : (!inV (.int f) [.int 1, .int 2]) = true := c2
    have e : isTB p n f = false := by unfold isTB; rw [if_neg c1, if_pos c2]
    have d := q _ s1
    rw [e] at d
    exact d
  have c2 : ¬ (!inV (.int f) [.int 1, .int 2]) = true := c2
  have e : isTB p n f = ((decide (3 ≤ n) && decide (n ≤ 7)) && (decide (n < p) && decide (2 * f < n))) := by unfold isTB; rw [if_neg c1, if_neg c2]
  have d := q _ s1
  rw [e] at d
  refine ⟨_, rfl, _, _, rfl, rfl, _, rfl, ?_⟩
  refine ite2 (fun c3 => ?_) (fun c3 => ?_)
  · refine ⟨_, _, rfl, rfl, _, rfl, ?_⟩
    refine ite2 (fun c4 => ?_) (fun c4 => ?_)
    · refine ⟨_, rfl, _, rfl, _, _, rfl, rfl, _, rfl, ?_⟩
      refine ite2 (fun c5 => ?_) (fun c5 => ?_)
      · refine ⟨_, rfl, _, _, rfl, rfl, .inl ⟨by decide, by decide⟩, _, rfl, _, _, rfl, rfl, ?_⟩
        rw [c3, c4, c5] at d
        exact d
      · rw [c3, c4, Bool.eq_false_iff.mpr c5] at d
        exact d
    · rw [c3, Bool.eq_false_iff.mpr c4] at d
      exact d
  · refine ⟨_, rfl, iteF ?_⟩
    rw [Bool.eq_false_iff.mpr c3] at d
    exact d
theorem sc_Table_init : FnScope ["self", "prime", "hands", "few"] ["self", "prime", "hands", "few"] (defScope s_Table_init) := ⟨rfl, rfl, rfl, by decide +kernel, rfl, by decide +kernel, by decide +kernel⟩
theorem ok_init {fI : Addr} {fd : FuncData} (F : Fun K "__init__" "Table.__init__" s_Table_init fI fd) (T : Tab K C) (O_is_table : Ok P w K mg base CX0 1 "is_table" ["prime", "hands", "few"] spIsT) : FnOk P w K mg base CX0 2 fI fd ["self", "prime", "hands", "few"] (spInit C) := by
  refine F.ok sc_Table_init (fun vs H Q E h => ?_) (fun cdv A outer s H vs Q E hr h => ?_)
  · obtain ⟨t, dx, p, n, f, rfl, _⟩ := h
    rfl
  obtain ⟨t, dx, p, n, f, rfl, ht, hok, q⟩ := h
  refine ⟨_, (pss_cons (ps_if (pt_not (pt_val (pe_callO O_is_table hr rfl (pa_cons (pv 1) (pa_cons (pv 2) (pa_cons (pv 3) pa_nil)))) (fun _ => rfl)))
      (pss_one ps_never)
      pss_nil)
    (pss_cons (ps_fld (pv 0) (pv 1) rfl)
    (pss_cons (ps_fld (pv 0) (pv 2) rfl)
    (pss_one (ps_fld (pv 0) (pv 3) rfl))))), ?_⟩
  refine ⟨_, rfl, _, rfl, _, rfl, p, n, f, rfl, fun H1 s1 => ⟨_, rfl, ?_⟩⟩
  rw [hok]
  refine iteF ?_
  refine ⟨_, rfl, _, rfl, t, C, dx, [], rfl, s1 _ _ ht, T.cl, T.nP, (by show 0 < 1000; decide), ?_⟩
  refine ⟨_, rfl, _, rfl, t, C, dx, _, rfl, upd_same, T.cl, T.nH, (by show 1 < 1000; decide), ?_⟩
  refine ⟨_, rfl, _, rfl, t, C, dx, _, rfl, upd_same, T.cl, T.nF, ?_, ?_⟩
  · exact Nat.lt_of_le_of_lt (length_putF _ _ _) (by show 2 < 1000; decide)
  · refine q _ (fun b o e hb => ?_) ⟨dx, upd_same⟩
    rw [upd_ne hb, upd_ne hb, upd_ne hb]
    exact s1 _ _ e
theorem sc_law_cell_at : FnScope ["script", "k"] ["script", "k"] (defScope s_law_cell_at) := ⟨rfl, rfl, rfl, by decide +kernel, rfl, by decide +kernel, by decide +kernel⟩
theorem ok_cell (F : Src K mg "_law_cell_at" "_law_cell_at" s_law_cell_at ["script", "k"]) (B : Blt mg) : Ok P w K mg base CX0 1 "_law_cell_at" ["script", "k"] (spCell K) := by
  refine F.ok sc_law_cell_at (fun vs H Q E h => ?_) (fun f cdv A outer s H vs Q E hr h => ?_)
  · obtain ⟨a, ns, k, rfl, _⟩ := h
    rfl
  obtain ⟨a, ns, k, rfl, hS, h0, q⟩ := h
  refine ⟨_, (pss_cons (ps_if (pt_cmpR op_lt (pv 1) (pe_callB call_len_seq rfl B.len PySem.boot_len (pa_cons (pv 0) pa_nil)) (nomark _))
      (pss_one (ps_ret (pe_ix ix_list (pv 0) (pv 1) (fun _ _ => rfl))))
      pss_nil)
    (pss_one (ps_ret pe_int))), ?_⟩
  refine ⟨_, rfl, _, rfl, a, _, rfl, .inl hS, _, _, rfl, rfl, _, rfl, ?_⟩
  have d := q H (Same.refl H)
  unfold cellN at d
  refine ite2 (fun c => ?_) (fun c => ?_)
  · have c' : k < (((ns.map V.int).length : Nat) : Int) := of_decide_eq_true c
    rw [List.length_map] at c'
    have hk : k.toNat < ns.length := by omega
    rw [List.getD_eq_getElem?_getD, List.getElem?_eq_getElem hk] at d
    refine ⟨_, rfl, _, rfl, a, _, _, _, rfl, rfl, hS, ?_, d⟩
    have e : atI (ns.map V.int) ((k.toNat : Nat) : Int) = some (.int ns[k.toNat]) := atI_nat (by rw [List.getElem?_map, List.getElem?_eq_getElem hk] <;> rfl)
    rw [show ((k.toNat : Nat) : Int) = k by omega] at e
    exact e
  · have c' : ¬ k < (((ns.map V.int).length : Nat) : Int) := of_decide_eq_false (Bool.eq_false_iff.mpr c)
    rw [List.length_map] at c'
    rw [List.getD_eq_getElem?_getD, List.getElem?_eq_none (by omega)] at d
    exact d
theorem sc_law_mix : FnScope ["cell", "k", "many"] ["cell", "k", "many"] (defScope s_law_mix) := ⟨rfl, rfl, rfl, by decide +kernel, rfl, by decide +kernel, by decide +kernel⟩
theorem ok_mix (F : Src K mg "_law_mix" "_law_mix" s_law_mix ["cell", "k", "many"]) : Ok P w K mg base CX0 1 "_law_mix" ["cell", "k", "many"] spMix := by
  refine F.ok sc_law_mix (fun vs H Q E h => ?_) (fun f cdv A outer s H vs Q E hr h => ?_)
  · obtain ⟨c, k, m, rfl, _⟩ := h
    rfl
  obtain ⟨c, k, m, rfl, hm, q⟩ := h
  refine ⟨_, (pss_one (ps_ret (pe_op op_mod (pe_op op_fdiv (pe_op op_mod (pe_op op_mul (pe_op op_add (pe_op op_mod (pv 0) pe_int) pe_int) (pe_op op_add pe_int (pe_op op_mul pe_int (pv 1)))) pe_int) pe_int) (pv 2)))), ?_⟩
  have h0 := Int.emod_nonneg c (show (2147483647 : Int) ≠ 0 by decide)
  have h1 := Int.emod_lt_of_pos c (show (0 : Int) < 2147483647 by decide)
  refine ⟨_, rfl, _, _, rfl, rfl, (by show (0 : Int) < 2147483647; decide), _, _, rfl, rfl, _, rfl, _, _, rfl, rfl, .inl ⟨by decide, by decide⟩, _, _, rfl, rfl, _, _, rfl, rfl, .inl ⟨by omega, by omega⟩, _, _, rfl, rfl, (by show (0 : Int) < 1000000007; decide), _, _, rfl, rfl, ⟨by decide, by decide⟩, _, rfl, _, _, rfl, rfl, hm, ?_⟩
  exact q H (Same.refl H)
theorem sc_law_whole : FnScope ["found"] ["found"] (defScope s_law_whole) := ⟨rfl, rfl, rfl, by decide +kernel, rfl, by decide +kernel, by decide +kernel⟩
theorem ok_whole (F : Src K mg "_law_whole" "_law_whole" s_law_whole ["found"]) (B : Blt mg) : Ok P w K mg base CX0 1 "_law_whole" ["found"] spWholeI := by
  refine F.ok sc_law_whole (fun vs H Q E h => ?_) (fun f cdv A outer s H vs Q E hr h => ?_)
  · obtain ⟨i, rfl, _⟩ := h
    rfl
  obtain ⟨i, rfl, q⟩ := h
  refine ⟨_, (pss_one (ps_ret (pe_and (pe_callB call_isinst rfl B.isinstance PyProof.Rows.boot_isinstance (pa_cons (pv 0) (pa_cons (pe_ty rfl B.int PyProof.Rows.boot_int) pa_nil))) (pe_one (pe_not (pe_callB call_isinst rfl B.isinstance PyProof.Rows.boot_isinstance (pa_cons (pv 0) (pa_cons (pe_ty rfl B.bool PyProof.Rows.boot_bool) pa_nil)))))))), ?_⟩
  refine ⟨_, rfl, _, _, _, _, true, rfl, .int i, rfl, kit_int_int K, _, rfl, iteT ?_⟩
  refine ⟨_, rfl, _, _, _, _, false, rfl, .int i, rfl, kit_int_bool K, _, rfl, ?_⟩
  exact q H (Same.refl H)
theorem sc_law_table_by : FnScope ["cell", "prime", "hands", "few"] ["cell"] (defScope s_law_table_by) := ⟨rfl, rfl, rfl, by decide +kernel, rfl, by decide +kernel, by decide +kernel⟩
theorem ok_table_by (F : Src K mg "_law_table_by" "_law_table_by" s_law_table_by ["cell"]) (B : Blt mg) (O_Table : MkOk P w K mg base CX0 2 "Table" C ["self", "prime", "hands", "few"] (spInit C)) : Ok P w K mg base CX0 4 "_law_table_by" ["cell"] (spTableBy C) := by
  refine F.ok sc_law_table_by (fun vs H Q E h => ?_) (fun f cdv A outer s H vs Q E hr h => ?_)
  · obtain ⟨c, rfl, _⟩ := h
    rfl
  obtain ⟨c, rfl, q⟩ := h
  refine ⟨_, (pss_cons (ps_set (i := 1) sc_law_table_by.nd rfl (Or.inl rfl) (pe_ix ix_list (pe_lst (pa_cons pe_int (pa_cons pe_int (pa_cons pe_int (pa_cons pe_int (pa_cons pe_int (pa_cons pe_int (pa_cons pe_int (pa_cons pe_int (pa_cons pe_int pa_nil)))))))))) (pe_op op_mod (pv 0) pe_int) (fun _ _ => rfl)))
    (pss_cons (ps_set (i := 2) sc_law_table_by.nd rfl (Or.inl rfl) (pe_op op_add pe_int (pe_op op_mod (pe_op op_fdiv (pv 0) pe_int) (pe_op op_sub (pe_callB (call_min2 rfl) rfl B.min PyProof.Rows.boot_min (pa_cons pe_int (pa_cons (pe_op op_sub (pv 1) pe_int) pa_nil))) pe_int))))
    (pss_cons (ps_set (i := 3) sc_law_table_by.nd rfl (Or.inl rfl) pe_int)
    (pss_cons (ps_if (PW.pt (pw_and (pt_cmpR op_gt (pv 2) pe_int (nomark _)) (pw_and1 (pt_cmpR op_eq (pe_op op_mod (pe_op op_fdiv (pv 0) pe_int) pe_int) pe_int (nomark _)))))
      (pss_one (ps_set (i := 3) sc_law_table_by.nd rfl (Or.inl rfl) pe_int))
      pss_nil)
    (pss_one (ps_ret (pe_makeO O_Table hr rfl (pa_cons (pv 1) (pa_cons (pv 2) (pa_cons (pv 3) pa_nil)))))))))), ?_⟩
  have hP := tbP_cases c
  refine ⟨(by show 9 ≤ sizeLine; decide), fun l hl => ⟨_, rfl, _, _, rfl, rfl, (by show (0 : Int) < 9; decide), l, _, _, .int (tbP c), rfl, rfl, SqL.of upd_same, ?_, ?_⟩⟩
  · have h0 := Int.emod_nonneg c (show (9 : Int) ≠ 0 by decide)
    have h1 := Int.emod_lt_of_pos c (show (0 : Int) < 9 by decide)
    have e : atI (primes9.map V.int) (((c % 9).toNat : Nat) : Int) = some (.int (tbP c)) := atI_nat (by
      have h9 : (c % 9).toNat < primes9.length := by show (c % 9).toNat < 9; omega
      rw [List.getElem?_map, List.getElem?_eq_getElem h9]
      unfold tbP
      rw [List.getD_eq_getElem?_getD, List.getElem?_eq_getElem h9]
      rfl)
    rw [show (((c % 9).toNat : Nat) : Int) = c % 9 by omega] at e
    exact e
  have s1 : Same H (upd H l (.lst (primes9.map V.int))) := same_new hl _
  have hm : 0 < (if tbP c - 1 < 7 then tbP c - 1 else 7) - 2 := by split <;> omega
  refine ⟨_, rfl, _, _, rfl, rfl, ⟨by decide, by decide⟩, _, rfl, _, _, rfl, rfl, 7, tbP c - 1, rfl, _, _, rfl, rfl, _, _, rfl, rfl, hm, _, _, rfl, rfl, ?_⟩
  refine ⟨_, rfl, _, _, rfl, rfl, _, rfl, ?_⟩
  have fin : ∀ f : Int, f = tbF c → (tMake C (spInit C) [] E0 (tCons (tVar 1) (tCons (tVar 2) (tCons (tVar 3) tNil)))) [some (.int c), some (.int (tbP c)), some (.int (tbN c)), some (.int f)] (upd H l (.lst (primes9.map V.int))) Q := by
    rintro f rfl
    refine ⟨_, rfl, _, rfl, _, rfl, fun x dx hx hdx hne => ?_⟩
    refine ⟨x, dx, _, _, _, rfl, upd_same, isTB_tb c, fun H2 k2 t2 => ⟨rfl, ?_⟩⟩
    refine q x H2 (s1.trans fun b o e => ?_) ?_ t2
    · refine k2 b o ?_ (ne_of_none e hx)
      rw [upd_ne (ne_of_none e hx), upd_ne (ne_of_none e hdx)]
      exact e
    · exact s1.free hx
  refine ite2 (fun c1 => ?_) (fun c1 => ?_)
  · have c1' : 4 < tbN c := of_decide_eq_true c1
    refine ⟨_, rfl, _, _, rfl, rfl, ⟨by decide, by decide⟩, _, _, rfl, rfl, (by show (0 : Int) < 2; decide), rfl, _, rfl, ?_⟩
    refine ite2 (fun c2 => ?_) (fun c2 => ?_)
    · have c2' : V.int (c / 45 % 2) = V.int 1 := of_decide_eq_true c2
      injection c2' with c2'
      exact fin 2 (by unfold tbF; rw [if_pos c1', if_pos c2'])
    · have c2' : ¬ V.int (c / 45 % 2) = V.int 1 := of_decide_eq_false (Bool.eq_false_iff.mpr c2)
      exact fin 1 (by unfold tbF; rw [if_pos c1', if_neg fun z => c2' (congrArg V.int z)])
  · have c1' : ¬ 4 < tbN c := of_decide_eq_false (Bool.eq_false_iff.mpr c1)
    refine iteF ?_
    exact fin 1 (by unfold tbF; rw [if_neg c1'])
theorem sc_law_worth : FnScope ["prime", "row", "at", "total", "power", "number"] ["prime", "row", "at"] (defScope s_law_worth) := ⟨rfl, rfl, rfl, by decide +kernel, rfl, by decide +kernel, by decide +kernel⟩
theorem ok_law_worth (F : Src K mg "_law_worth" "_law_worth" s_law_worth ["prime", "row", "at"]) : Ok P w K mg base CX0 1 "_law_worth" ["prime", "row", "at"] (spLawW K) := by
  refine F.ok sc_law_worth (fun vs H Q E h => ?_) (fun f cdv A outer s H vs Q E hr h => ?_)
  · obtain ⟨r, p, a, ns, rfl, _⟩ := h
    rfl
  obtain ⟨r, p, a, ns, rfl, hp0, hp1, hq, q⟩ := h
  refine ⟨_, (pss_cons (ps_set (i := 3) sc_law_worth.nd rfl (Or.inl rfl) pe_int)
    (pss_cons (ps_set (i := 4) sc_law_worth.nd rfl (Or.inl rfl) pe_int)
    (pss_cons (ps_for PassesOwn.never rfl (pi_list (pv 1)) (pg_name (i := 5) sc_law_worth.nd rfl (Or.inl rfl))
      (pss_cons (ps_set (i := 3) sc_law_worth.nd rfl (Or.inl rfl) (pe_op op_mod (pe_op op_add (pv 3) (pe_op op_mul (pv 5) (pv 4))) (pv 0)))
    (pss_one (ps_set (i := 4) sc_law_worth.nd rfl (Or.inl rfl) (pe_op op_mod (pe_op op_mul (pv 4) (pv 2)) (pv 0))))))
    (pss_one (ps_ret (pv 3)))))), ?_⟩
  refine ⟨_, rfl, r, rfl, ⟨_, hq⟩, for_list (K := K) (a := r) (xs := ns.map V.int) (fun i σ H2 => H2 = H ∧ ∃ (tt qq : Int) (v : Option V), σ = [some (.int p), some (.ref r), some (.int a), some (.int tt), some (.int qq), v] ∧ (0 ≤ qq ∧ qq ≤ 31) ∧ lawW p a (ns.drop i) tt qq = worthL p ns a) ?_ ?_ ?_ ?_⟩
  · exact ⟨rfl, 0, 1, none, rfl, ⟨by decide, by decide⟩, lawW_eq hp0 ns⟩
  · rintro i σ H2 _ ⟨rfl, _⟩
    exact hq
  · rintro i x σ H2 hx ⟨rfl, tt, qq, v, rfl, ⟨b0, b1⟩, hw⟩
    obtain ⟨z, rfl, hz⟩ := map_int_at hx
    refine ⟨_, rfl, _, rfl, _, rfl, _, _, rfl, rfl, .inr ⟨by omega, by omega⟩, _, _, rfl, rfl, _, rfl, _, _, rfl, rfl, hp0, ?_⟩
    refine ⟨_, rfl, _, rfl, _, _, rfl, rfl, .inl ⟨by omega, by omega⟩, _, rfl, _, _, rfl, rfl, hp0, ?_⟩
    refine ⟨rfl, _, _, _, rfl, ⟨Int.emod_nonneg _ (by omega), ?_⟩, ?_⟩
    · have := Int.emod_lt_of_pos (qq * a) hp0
      omega
    · rw [drop_at hz] at hw
      exact hw
  · rintro σ H2 ⟨rfl, tt, qq, v, rfl, _, hw⟩
    rw [List.length_map, List.drop_length] at hw
    refine ⟨_, rfl, ?_⟩
    have d := q H2 (Same.refl _)
    rw [← hw] at d
    exact d
end
section
variable {P : Program} {w : World} {K : PySem.W.Frag} {mg : Str → Option Value} {base : Heap} {C pa : Addr}
theorem sc_back : FnScope ["table", "number", "other"] ["table", "number"] (defScope s_back) := ⟨rfl, rfl, rfl, by decide +kernel, rfl, by decide +kernel, by decide +kernel⟩
theorem back_at {p x : Int} {i : Nat} (hi : (1 + (i : Int)) < p) (h : x * (1 + (i : Int)) % p = 1) (hn : ∀ j : Nat, j < i → x * (1 + (j : Int)) % p ≠ 1) : backI p x = 1 + (i : Int) := by
  unfold backI
  have e : ((List.range (p - 1).toNat).map fun i : Nat => 1 + (i : Int)).find? (fun o => decide (x * o % p = 1)) = some (1 + (i : Int)) := by
    rw [List.find?_map, Option.map_eq_some_iff]
    refine ⟨i, ?_, rfl⟩
    rw [List.find?_range_eq_some]
    refine ⟨?_, List.mem_range.mpr (by omega), fun j hj => ?_⟩
    · exact decide_eq_true h
    · simpa using hn j hj
  rw [e]
  rfl
theorem ok_back (F : Src K mg "back" "back" s_back ["table", "number"]) (B : Blt mg) (T : Tab K C) : Ok P w K mg base CX0 1 "back" ["table", "number"] (spBack C) := by
  refine F.ok sc_back (fun vs H Q E h => ?_) (fun f cdv A outer s H vs Q E hr h => ?_)
  · obtain ⟨t, p, n, f, x, rfl, _⟩ := h
    rfl
  obtain ⟨t, p, n, f, x, rfl, ⟨dx, ht⟩, hp, hxb, hx0, q⟩ := h
  have p5 := pos9 hp
  refine ⟨_, (pss_cons (ps_for PassesOwn.never rfl (pi_range2 rfl B.range (pa_cons pe_int (pa_cons (pe_fld (pv 0) rfl) pa_nil))) (pg_name (i := 2) sc_back.nd rfl (Or.inl rfl))
      (pss_one (ps_if (pt_cmpR op_eq (pe_op op_mod (pe_op op_mul (pv 1) (pv 2)) (pe_fld (pv 0) rfl)) pe_int (nomark _))
      (pss_one (ps_ret (pv 2)))
      pss_nil)))
    (pss_one ps_never)), ?_⟩
  refine ⟨_, rfl, t, C, dx, _, _, rfl, ht, T.cl, T.nP, tf_p _ _ _, _, _, rfl, ⟨by decide, by decide, by omega, by omega⟩, for_range (fun i σ H2 => H2 = H ∧ (∃ v : Option V, σ = [some (.ref t), some (.int x), v]) ∧ ∀ j : Nat, j < i → x * (1 + (j : Int)) % p ≠ 1) ⟨rfl, ⟨none, rfl⟩, fun j hj => absurd hj (Nat.not_lt_zero j)⟩ ?_ ?_⟩
  · rintro i σ H2 hi ⟨rfl, ⟨v, rfl⟩, hn⟩
    refine ⟨_, rfl, _, rfl, _, _, rfl, rfl, .inl ⟨by omega, by omega⟩, _, rfl, t, C, dx, _, _, rfl, ht, T.cl, T.nP, tf_p _ _ _, _, _, rfl, rfl, by omega, rfl, _, rfl, ?_⟩
    refine ite2 (fun c => ?_) (fun c => ?_)
    · have c' : V.int (x * (1 + (i : Int)) % p) = V.int 1 := of_decide_eq_true c
      injection c' with c'
      refine ⟨_, rfl, ?_⟩
      have d := q H2 (Same.refl _)
      rw [back_at (by omega) c' hn] at d
      exact d
    · have c' : ¬ V.int (x * (1 + (i : Int)) % p) = V.int 1 := of_decide_eq_false (Bool.eq_false_iff.mpr c)
      refine ⟨rfl, ⟨_, rfl⟩, fun j hj => ?_⟩
      rcases Nat.lt_succ_iff_lt_or_eq.mp hj with z | z
      · exact hn j z
      · rw [z]
        exact fun e => c' (congrArg V.int e)
  · rintro σ H2 ⟨rfl, ⟨v, rfl⟩, hn⟩
    have hb := backI_ok hp (x := x) (by rw [Int.emod_eq_of_lt hxb.1 hxb.2]; exact hx0)
    have := hn (backI p x - 1).toNat (by omega)
    rw [show 1 + ((backI p x - 1).toNat : Int) = backI p x by omega] at this
    exact absurd hb.2 this
end
section
variable {P : Program} {w : World} {K : PySem.W.Frag} {mg : Str → Option Value} {base : Heap} {C pa : Addr}
theorem sc_are_rising_hands : FnScope ["table", "some", "last", "hand"] ["table", "some"] (defScope s_are_rising_hands) := ⟨rfl, rfl, rfl, by decide +kernel, rfl, by decide +kernel, by decide +kernel⟩
theorem ok_rising (F : Src K mg "are_rising_hands" "are_rising_hands" s_are_rising_hands ["table", "some"]) (T : Tab K C) : Ok P w K mg base CX0 1 "are_rising_hands" ["table", "some"] (spRising C) := by
  refine F.ok sc_are_rising_hands (fun vs H Q E h => ?_) (fun f cdv A outer s H vs Q E hr h => ?_)
  · obtain ⟨t, s, p, n, f, hs, rfl, _⟩ := h
    rfl
  obtain ⟨t, sa, p, n, f, hs, rfl, ⟨dx, ht⟩, hsa, q⟩ := h
  refine ⟨_, (pss_cons (ps_set (i := 2) sc_are_rising_hands.nd rfl (Or.inl rfl) pe_int)
    (pss_cons (ps_for PassesOwn.never rfl (pi_list (pv 1)) (pg_name (i := 3) sc_are_rising_hands.nd rfl (Or.inl rfl))
      (pss_cons (ps_if (PW.pt (pw_or (pt_cmpR op_le (pv 3) (pv 2) (nomark _)) (pw_or1 (pt_cmpR op_gt (pv 3) (pe_fld (pv 0) rfl) (nomark _)))))
      (pss_one (ps_ret pe_bl))
      pss_nil)
    (pss_one (ps_set (i := 2) sc_are_rising_hands.nd rfl (Or.inl rfl) (pv 3)))))
    (pss_one (ps_ret pe_bl)))), ?_⟩
  have d := q H (Same.refl H)
  refine ⟨_, rfl, sa, rfl, ⟨_, SqL.of hsa⟩, ?_⟩
  refine for_list (K := K) (a := sa) (xs := hs.map V.int) (fun i σ H2 => H2 = H ∧ ∃ (l : Int) (v3 : Option V), σ = [some (.ref t), some (.ref sa), some (.int l), v3] ∧ risGo n l (hs.drop i) = risB n hs) ?_ ?_ ?_ ?_
  · exact ⟨rfl, 0, none, rfl, rfl⟩
  · rintro i σ H2 _ ⟨rfl, _⟩
    exact SqL.of hsa
  · rintro i y σ H2 hy ⟨rfl, l, v3, rfl, hg⟩
    rw [List.getElem?_map] at hy
    cases hv : hs[i]? with
    | none => rw [hv] at hy; cases hy
    | some h =>
    rw [hv] at hy
    cases hy
    have ed : hs.drop i = h :: hs.drop (i + 1) := drop_at hv
    rw [ed, risGo] at hg
    refine ⟨_, rfl, _, rfl, _, _, rfl, rfl, _, rfl, ?_⟩
    refine ite2 (fun c1 => ?_) (fun c1 => ?_)
    · have c1' : h ≤ l := of_decide_eq_true c1
      rw [if_pos (.inl c1')] at hg
      rw [← hg] at d
      exact iteT d
    have c1' : ¬ h ≤ l := of_decide_eq_false (Bool.eq_false_iff.mpr c1)
    refine ⟨_, rfl, _, rfl, t, C, dx, _, _, rfl, ht, T.cl, T.nH, tf_n _ _ _, _, _, rfl, rfl, _, rfl, ?_⟩
    refine ite2 (fun c2 => ?_) (fun c2 => ?_)
    · have c2' : h > n := of_decide_eq_true c2
      rw [if_pos (.inr (by omega))] at hg
      rw [← hg] at d
      exact d
    have c2' : ¬ h > n := of_decide_eq_false (Bool.eq_false_iff.mpr c2)
    rw [if_neg (by omega)] at hg
    exact ⟨_, rfl, rfl, h, _, rfl, hg⟩
  · rintro σ H2 ⟨rfl, l, v3, rfl, hg⟩
    rw [List.length_map, List.drop_length] at hg
    rw [← hg] at d
    exact d
theorem sc_refuse_hands : FnScope ["table", "some"] ["table", "some"] (defScope s_refuse_hands) := ⟨rfl, rfl, rfl, by decide +kernel, rfl, by decide +kernel, by decide +kernel⟩
theorem ok_refuse_handsE {cH : Addr} {bmH : List Value} (F : Src K mg "refuse_hands" "refuse_hands" s_refuse_hands ["table", "some"]) (E_BadHands : Exc K mg "BadHands" cH bmH) (O_are_rising_hands : Ok P w K mg base CX0 1 "are_rising_hands" ["table", "some"] (spRising C)) : Ok P w K mg base (CXE P w) 2 "refuse_hands" ["table", "some"] (spRefuseHands C cH) := by
  refine F.okE sc_refuse_hands (fun vs H Q E h => ?_) (fun f cdv A outer s H vs Q E hr h => ?_)
  · obtain ⟨t, s, p, n, f, hs, rfl, _⟩ := h
    rfl
  obtain ⟨t, sa, p, n, f, hs, rfl, T1, hsa, q1, q2⟩ := h
  refine ⟨_, (pss_one (ps_if (pt_not (pt_val (pe_callO O_are_rising_hands hr rfl (pa_cons (pv 0) (pa_cons (pv 1) pa_nil))) (fun _ => rfl)))
      (pss_one (ps_raise E_BadHands rfl pe_str))
      pss_nil)), ?_⟩
  refine ⟨_, rfl, _, rfl, t, sa, p, n, f, hs, rfl, T1, hsa, fun H1 s1 => ?_⟩
  cases hR : risB n hs with
  | true => exact ⟨_, rfl, iteF (q1 hR H1 s1)⟩
  | false => exact ⟨_, rfl, iteT ⟨by decide, q2 hR H1 s1⟩⟩
theorem sc_veil : FnScope ["table", "some", "row", "hand", "slope"] ["table", "some"] (defScope s_veil) := ⟨rfl, rfl, rfl, by decide +kernel, rfl, by decide +kernel, by decide +kernel⟩
theorem ok_veilE {cH cN : Addr} {bmN : List Value} (F : Src K mg "veil" "veil" s_veil ["table", "some"]) (B : Blt mg) (T : Tab K C) (E_NoVeil : Exc K mg "NoVeil" cN bmN) (O_refuse_handsE : Ok P w K mg base (CXE P w) 2 "refuse_hands" ["table", "some"] (spRefuseHands C cH)) (O_back : Ok P w K mg base CX0 1 "back" ["table", "number"] (spBack C)) : Ok P w K mg base (CXE P w) 3 "veil" ["table", "some"] (spVeilP C cH cN) := by
  refine F.okE sc_veil (fun vs H Q E h => ?_) (fun f cdv A outer s H vs Q E hr h => ?_)
  · obtain ⟨t, s, p, n, f, hs, rfl, _⟩ := h
    rfl
  obtain ⟨t, sa, p, n, f, hs, rfl, T1, hp, hn, hf, hsa, q1, q2, q3⟩ := h
  refine ⟨_, (pss_cons (ps_expr (pe_callP O_refuse_handsE hr rfl (pa_cons (pv 0) (pa_cons (pv 1) pa_nil))))
    (pss_cons (ps_if (pt_cmpR op_gt (pe_callB call_len_seq rfl B.len PySem.boot_len (pa_cons (pv 1) pa_nil)) (pe_fld (pv 0) rfl) (nomark _))
      (pss_one (ps_raise E_NoVeil rfl pe_str))
      pss_nil)
    (pss_cons (ps_set (i := 2) sc_veil.nd rfl (Or.inl rfl) (pe_lst (pa_cons pe_int pa_nil)))
    (pss_cons (PS.nox (ps_for PassesOwn.never rfl (pi_list (pv 1)) (pg_name (i := 3) sc_veil.nd rfl (Or.inl rfl))
      (pss_cons (ps_set (i := 4) sc_veil.nd rfl (Or.inr rfl) (pe_callO O_back hr rfl (pa_cons (pv 0) (pa_cons (pv 3) pa_nil))))
    (pss_one (ps_setComp 2 ["here", "before"] [("table", 0), ("slope", 4)] sc_veil.nd  (pi_zip rfl B.zip (pa_cons (pe_op op_cat (pv 2) (pe_lst (pa_cons pe_int pa_nil))) (pa_cons (pe_op op_cat (pe_lst (pa_cons pe_int pa_nil)) (pv 2)) pa_nil))) rfl (fun C s0 H0 ex => by exact (pg_tupK K 2 rfl (pgs_cons (pg_name (i := 0) (show List.Nodup [("here" : Str), "before", "table", "slope"] by decide +kernel) rfl (Or.inl rfl)) (pgs_cons (pg_name (i := 1) (show List.Nodup [("here" : Str), "before", "table", "slope"] by decide +kernel) rfl (Or.inl rfl)) pgs_nil)))) (fun C s0 H0 ex => by exact pts_nil) (fun C s0 H0 ex => by exact (pe_op op_mod (pe_op op_sub (pv 0) (pe_op op_mul (pv 3) (pv 1))) (pe_fldK K (pv 2) rfl))))))))
    (pss_one (ps_ret (pe_op op_cat (pv 2) (pe_op op_rep (pe_lst (pa_cons pe_int pa_nil)) (pe_op op_sub (pe_op op_add (pe_fld (pv 0) rfl) pe_int) (pe_callB call_len_seq rfl B.len PySem.boot_len (pa_cons (pv 2) pa_nil))))))))))), ?_⟩
  have pp := pos9 hp
  refine ⟨_, rfl, _, rfl, t, sa, p, n, f, hs, rfl, T1, hsa, fun hR H1 s1 => ?_, q2⟩
  have hsr := (risB_iff.mp hR).1
  obtain ⟨dx, ht⟩ := id T1
  refine ⟨_, rfl, sa, _, rfl, .inl (SqL.of (s1 _ _ hsa)), _, rfl, t, C, dx, _, _, rfl, s1 _ _ ht, T.cl, T.nF, tf_f _ _ _, _, _, rfl, rfl, _, rfl, ?_⟩
  rw [List.length_map]
  refine ite2 (fun c => ?_) (fun c => ?_)
  · have c' : (hs.length : Int) > f := of_decide_eq_true c
    exact ⟨by decide, q3 hR (by omega) H1 s1⟩
  have c' : ¬ (hs.length : Int) > f := of_decide_eq_false (Bool.eq_false_iff.mpr c)
  refine ⟨(by show 1 ≤ sizeLine; decide), fun r0 hr0 => ?_⟩
  have s2 := same_new hr0 (.lst [.int 1])
  have hr2 : (upd H1 r0 (.lst [.int 1])) r0 = some (.lst ((veilR p (hs.take 0)).map V.int)) := upd_same
  generalize upd H1 r0 (.lst [.int 1]) = H2 at s2 hr2
  have g2 := s1.trans s2
  refine ⟨_, rfl, sa, rfl, ⟨_, SqL.of (g2 _ _ hsa)⟩, ?_⟩
  refine for_list (K := K) (a := sa) (xs := hs.map V.int) (fun i σ H3 => Same H H3 ∧ ∃ (ra : Addr) (v3 v4 : Option V), σ = [some (.ref t), some (.ref sa), some (.ref ra), v3, v4] ∧ H3 ra = some (.lst ((veilR p (hs.take i)).map V.int)) ∧ i ≤ hs.length) ?_ ?_ ?_ ?_
  · exact ⟨g2, r0, none, none, rfl, hr2, Nat.zero_le _⟩
  · rintro i σ H3 _ ⟨s3, _⟩
    exact SqL.of (s3 _ _ hsa)
  · rintro i y σ H3 hy ⟨s3, ra, v3, v4, rfl, hra, hi⟩
    rw [List.getElem?_map] at hy
    cases hv : hs[i]? with
    | none => rw [hv] at hy; cases hy
    | some h =>
    rw [hv] at hy
    cases hy
    have hb := hsr h (List.mem_of_getElem? hv)
    have il : i < hs.length := (List.getElem?_eq_some_iff.mp hv).1
    refine ⟨_, rfl, _, rfl, t, p, n, f, h, rfl, T1.same s3, hp, ⟨by omega, by omega⟩, by omega, fun H4 s4 => ?_⟩
    have rl := veilR_len p (hs.take i)
    rw [List.length_take] at rl
    have rb := veilR_b (p := p) (by omega) (hs.take i)
    generalize hrow : veilR p (hs.take i) = row at hra rl rb
    have bk := (backI_ok hp (x := h) (by rw [Int.emod_eq_of_lt (by omega) (by omega)]; omega)).1
    generalize hsl : backI p h = sl at bk
    have hra4 := s4 _ _ hra
    have g4 := s3.trans s4
    refine ⟨_, rfl, (by show 1 ≤ sizeLine; decide), fun o1 ho1 => ?_⟩
    have s5 := same_new ho1 (.lst [.int 0])
    refine ⟨ra, o1, _, _, rfl, rfl, s5 _ _ hra4, upd_same, by rw [List.length_map]; exact small (by show _ + 1 ≤ 1000; omega), fun o2 ho2 => ?_⟩
    have s6 := same_new ho2 (.lst (row.map V.int ++ [.int 0]))
    refine ⟨(by show 1 ≤ sizeLine; decide), fun o3 ho3 => ?_⟩
    have s7 := same_new ho3 (.lst [.int 0])
    refine ⟨_, rfl, o3, ra, _, _, rfl, rfl, upd_same, s7 _ _ (s6 _ _ (s5 _ _ hra4)), by rw [List.length_map]; exact small (by show 1 + _ ≤ 1000; omega), fun o4 ho4 => ?_⟩
    have s8 := same_new ho4 (.lst ([.int 0] ++ row.map V.int))
    have s48 := s5.trans (s6.trans (s7.trans s8))
    have k2 := (s7.trans s8) _ _ (upd_same (H := upd H4 o1 (.lst [.int 0])) (a := o2) (o := .lst (row.map V.int ++ [.int 0])))
    have k4 : (upd (upd (upd (upd H4 o1 (.lst [.int 0])) o2 (.lst (row.map V.int ++ [.int 0]))) o3 (.lst [.int 0])) o4 (.lst ([.int 0] ++ row.map V.int))) o4 = some (.lst ([.int 0] ++ row.map V.int)) := upd_same
    generalize (upd (upd (upd (upd H4 o1 (.lst [.int 0])) o2 (.lst (row.map V.int ++ [.int 0]))) o3 (.lst [.int 0])) o4 (.lst ([.int 0] ++ row.map V.int))) = H8 at s8 s48 k2 k4
    have g8 := g4.trans s48
    have k2' : H8 o2 = some (.lst ((row ++ [0]).map V.int)) := by rw [k2, List.map_append]; rfl
    have k4' : H8 o4 = some (.lst ((0 :: row).map V.int)) := k4
    refine ⟨o2, o4, _, _, rfl, SqL.of k2', SqL.of k4', fun D hD => ?_⟩
    refine comp_zip (K := K) (a := o2) (b := o4) (xs := (row ++ [0]).map V.int) (zs := (0 :: row).map V.int) (fun j ys H9 => j ≤ row.length + 1 ∧ ys = ((veilS p sl row).take j).map V.int ∧ Same H8 H9) ⟨Nat.zero_le _, rfl, same_upd (Same.refl _) hD⟩ ?_ ?_ ?_
    · rintro j ys H9 ⟨_, _, s9⟩
      exact ⟨SqL.of (s9 _ _ k2'), SqL.of (s9 _ _ k4')⟩
    · rintro j x z ys H9 c hx hz ⟨hj, rfl, s9⟩ hD9 hc
      rw [List.getElem?_map] at hx hz
      cases h1 : (row ++ [0])[j]? with
      | none => rw [h1] at hx; cases hx
      | some x1 =>
      cases h2 : (0 :: row)[j]? with
      | none => rw [h2] at hz; cases hz
      | some z1 =>
      rw [h1] at hx
      rw [h2] at hz
      cases hx
      cases hz
      have jl : j < row.length + 1 := by have := (List.getElem?_eq_some_iff.mp h2).1; simpa using this
      have s10 := same_new hc (.tup [.int x1, .int z1])
      refine ⟨c, _, rfl, SqT.of upd_same, rfl, _, _, rfl, _, _, rfl, rfl, ⟨rfl, rfl⟩, ?_⟩
      refine ⟨_, rfl, _, rfl, _, rfl, _, _, rfl, rfl, .inl ⟨by omega, by omega⟩, _, _, rfl, rfl, _, rfl, t, C, dx, _, _, rfl, (g8.trans (s9.trans s10)) _ _ ht, T.cl, T.nP, tf_p _ _ _, _, _, rfl, rfl, by omega, ?_⟩
      refine ⟨s10 _ _ hD9, small1000 (by rw [List.length_map, List.length_take]; omega), jl, ?_, same_upd (s9.trans s10) hD⟩
      have hv2 : (veilS p sl row)[j]? = some ((x1 - sl * z1) % p) := by
        unfold veilS
        rw [List.getElem?_zipWith, h1, h2]
      rw [List.take_add_one, hv2, List.map_append]
      rfl
    · rintro ys H9 ⟨_, rfl, s9⟩ hD9
      rw [List.take_of_length_le (by rw [veilS_len]; simp)] at hD9
      refine ⟨g8.trans s9, D, _, _, rfl, ?_, il⟩
      rw [hD9, List.take_add_one, hv]
      show _ = some (HO.lst ((veilR p (hs.take i ++ [h])).map V.int))
      rw [veilR_snoc, hrow, hsl]
  · rintro σ H3 ⟨s3, ra, v3, v4, rfl, hra, _⟩
    rw [List.length_map, List.take_length] at hra
    have rl := veilR_len p hs
    refine ⟨_, rfl, (by show 1 ≤ sizeLine; decide), fun o1 ho1 => ?_⟩
    have s4 := same_new ho1 (.lst [.int 0])
    refine ⟨_, rfl, t, C, dx, _, _, rfl, (s3.trans s4) _ _ ht, T.cl, T.nF, tf_f _ _ _, _, _, rfl, rfl, _, rfl, ra, _, rfl, .inl (SqL.of (s4 _ _ hra)), _, _, rfl, rfl, ?_⟩
    rw [List.length_map, rl]
    refine ⟨o1, _, _, rfl, rfl, upd_same, by omega, by omega, ?_, fun o2 ho2 => ?_⟩
    · exact small (by show 1 * _ ≤ 1000; omega)
    have s5 := same_new ho2 (.lst (List.replicate (f + 1 - ((hs.length + 1 : Nat) : Int)).toNat [V.int 0]).flatten)
    refine ⟨ra, o2, _, _, rfl, rfl, s5 _ _ (s4 _ _ hra), upd_same, ?_, fun d hd => ?_⟩
    · rw [len_rep, List.length_map, rl]
      exact small (by show _ + _ * 1 ≤ 1000; omega)
    · refine q1 hR (by omega) d _ ((s3.trans (s4.trans s5)).trans (same_new hd _)) ((s3.trans (s4.trans s5)).free hd) ?_
      rw [upd_same]
      unfold veilL
      rw [List.map_append, List.map_replicate]
      have e : (f + 1 - ((hs.length + 1 : Nat) : Int)).toNat = f.toNat + 1 - (hs.length + 1) := by omega
      rw [e]
      have fl : ∀ k : Nat, (List.replicate k [V.int 0]).flatten = List.replicate k (V.int 0) := fun k => by
        induction k with
        | zero => rfl
        | succ k ih => rw [List.replicate_succ, List.flatten_cons, ih]; rfl
      rw [fl]
end
section
variable {P : Program} {w : World} {K : PySem.W.Frag} {mg : Str → Option Value} {base : Heap} {C pa : Addr}
theorem sc_law_met : FnScope ["table", "some", "e"] ["table", "some"] (defScope s_law_met) := ⟨rfl, rfl, rfl, by decide +kernel, rfl, by decide +kernel, by decide +kernel⟩
theorem ok_met {cH cN cV : Addr} {bmH bmN bmV : List Value} (F : Src K mg "_law_met" "_law_met" s_law_met ["table", "some"]) (B : Blt mg) (E_BadHands : Exc K mg "BadHands" cH bmH) (E_NoVeil : Exc K mg "NoVeil" cN bmN) (E_VeilError : Exc K mg "VeilError" cV bmV) (hinH : (Value.ref cH :: bmH).contains (.ref cH) = true) (hinN : (Value.ref cN :: bmN).contains (.ref cN) = true) (hinNH : (Value.ref cN :: bmN).contains (.ref cH) = false) (hktH : PySem.W.kitOne K (.ref cH) (.ref cV) = some true) (hktN : PySem.W.kitOne K (.ref cN) (.ref cV) = some true) (hec : ExCls K cH) (hkn : PySem.W.kitOne K (.ref cH) (.ref cN) = some false)
    (O_veilE : Ok P w K mg base (CXE P w) 3 "veil" ["table", "some"] (spVeilP C cH cN)) : Ok P w K mg base CX0 4 "_law_met" ["table", "some"] (spMet C) := by
  refine F.ok sc_law_met (fun vs H Q E h => ?_) (fun f cdv A outer s H vs Q E hr h => ?_)
  · obtain ⟨t, s, p, n, f, hs, rfl, _⟩ := h
    rfl
  obtain ⟨t, sa, p, n, f, hs, rfl, T1, hp, hn, hf, hsa, q1, q2, q3⟩ := h
  refine ⟨_, (pss_one (ps_try rfl rfl (fun pins E2 Ek sg hc => by exact (pss_one (ps_ret (pe_tup (pa_cons pe_int (pa_cons (pe_callT O_veilE hr hc rfl (pa_cons (pv 0) (pa_cons (pv 1) pa_nil))) pa_nil)))))) (ph_as E_BadHands rfl sc_law_met.nd (i := 2) rfl rfl (fun a => by exact (pss_one (ps_ret (pe_tup (pa_cons pe_int (pa_cons (pe_and (pe_callB (call_isinstXK K) rfl B.isinstance PyProof.Rows.boot_isinstance (pa_cons (pv 2) (pa_cons (pe_glob (v := .ref _) rfl E_VeilError.bound rfl) pa_nil))) (pe_one (pe_not (pe_callB (call_isinstB K) rfl B.isinstance PyProof.Rows.boot_isinstance (pa_cons (pv 2) (pa_cons (pe_glob (v := .ref _) rfl E_NoVeil.bound rfl) pa_nil)))))) pa_nil)))))) (ph_as E_NoVeil rfl sc_law_met.nd (i := 2) rfl rfl (fun a => by exact (pss_one (ps_ret (pe_tup (pa_cons pe_int (pa_cons (pe_callB (call_isinstXK K) rfl B.isinstance PyProof.Rows.boot_isinstance (pa_cons (pv 2) (pa_cons (pe_glob (v := .ref _) rfl E_VeilError.bound rfl) pa_nil))) pa_nil)))))) ph_nil)))), ?_⟩
  refine ⟨rfl, _, rfl, _, rfl, t, sa, p, n, f, hs, rfl, T1, hp, hn, hf, hsa, fun hR hl r H1 s1 hr0 hr1 => ?_, fun hR H1 s1 => ⟨cH, rfl, fun _ _ => ⟨_, bmH, true, E_BadHands, hinH, iteT fun a' ha' => ?_⟩⟩, fun hR hl H1 s1 => ⟨cN, rfl, fun a0 ha0 => ⟨_, bmN, false, E_NoVeil, hinNH, iteF ⟨_, bmN, true, E_NoVeil, hinN, iteT fun a' ha' => ?_⟩⟩⟩⟩
  · exact ⟨(by show 2 ≤ sizeLine; decide), fun d hd => q1 hR hl d r _ (s1.trans (same_new hd _)) upd_same (same_new hd _ _ _ hr1)⟩
  · refine ⟨_, rfl, a', cH, _, _, rfl, upd_same, rfl, hktH, _, rfl, iteT ?_⟩
    have e1 := same_new ha' (ExAt a' cH)
    exact ⟨_, rfl, a', cH, _, _, false, rfl, upd_same, hec, rfl, hkn, _, rfl, (by show 2 ≤ sizeLine; decide), fun d hd => q2 hR d _ (s1.trans (e1.trans (same_new hd _))) upd_same⟩
  · have e1 := same_new ha' (ExAt a' cN)
    exact ⟨_, rfl, a', cN, _, _, rfl, upd_same, rfl, hktN, (by show 2 ≤ sizeLine; decide), fun d hd => q3 hR hl d _ (s1.trans (e1.trans (same_new hd _))) upd_same⟩
end
section
variable {P : Program} {w : World} {K : PySem.W.Frag} {mg : Str → Option Value} {base : Heap} {C pa : Addr}
theorem sc_law : FnScope ["script", "table", "some", "bad", "handed", "found", "row"] ["script"] (defScope s_law) := ⟨rfl, rfl, rfl, by decide +kernel, rfl, by decide +kernel, by decide +kernel⟩
theorem ok_law {e : Addr} {ed : FuncData} (F : Fun K "law" "law" s_law e ed) (B : Blt mg) (T : Tab K C) (O_law_table_by : Ok P w K mg base CX0 4 "_law_table_by" ["cell"] (spTableBy C)) (O_law_cell_at : Ok P w K mg base CX0 1 "_law_cell_at" ["script", "k"] (spCell K)) (O_law_mix : Ok P w K mg base CX0 1 "_law_mix" ["cell", "k", "many"] spMix)
    (O_law_met : Ok P w K mg base CX0 4 "_law_met" ["table", "some"] (spMet C)) (O_law_whole : Ok P w K mg base CX0 1 "_law_whole" ["found"] spWholeI) (O_law_worth : Ok P w K mg base CX0 1 "_law_worth" ["prime", "row", "at"] (spLawW K)) : FnOk P w K mg base CX0 5 e ed ["script"] (spLaw K) := by
  refine F.ok sc_law (fun vs H Q E h => ?_) (fun cdv A outer s H vs Q E hr h => ?_)
  · obtain ⟨a, ns, rfl, _⟩ := h
    rfl
  obtain ⟨a, ns, rfl, hS, h63, q⟩ := h
  refine ⟨_, (pss_cons (ps_set (i := 1) sc_law.nd rfl (Or.inr rfl) (pe_callO O_law_table_by hr rfl (pa_cons (pe_callO O_law_cell_at hr rfl (pa_cons (pv 0) (pa_cons pe_int pa_nil))) pa_nil)))
    (pss_cons (ps_setComp 2 ["hand"] [("script", 0)] sc_law.nd  (pi_range2 rfl B.range (pa_cons pe_int (pa_cons (pe_op op_add (pe_fld (pv 1) rfl) pe_int) pa_nil))) rfl (fun C s0 H0 ex => by exact (pg_name (i := 0) (show List.Nodup [("hand" : Str), "script"] by decide +kernel) rfl (Or.inl rfl))) (fun C s0 H0 ex => by exact (pts_one (pt_cmpR op_eq (pe_callO O_law_mix hr rfl (pa_cons (pe_callO O_law_cell_at hr rfl (pa_cons (pv 1) (pa_cons pe_int pa_nil))) (pa_cons (pv 0) (pa_cons pe_int pa_nil)))) pe_int (nomark _)))) (fun C s0 H0 ex => by exact (pv 0)))
    (pss_cons (ps_if (pt_cmpR op_eq (pe_op op_mod (pe_callO O_law_cell_at hr rfl (pa_cons (pv 0) (pa_cons pe_int pa_nil))) pe_int) pe_int (nomark _))
      (pss_cons (ps_set (i := 3) sc_law.nd rfl (Or.inl rfl) (pe_ix ix_list (pe_lst (pa_cons (pe_lst (pa_cons pe_int pa_nil)) (pa_cons (pe_lst (pa_cons (pe_op op_add (pe_fld (pv 1) rfl) pe_int) pa_nil)) (pa_cons (pe_lst (pa_cons pe_int (pa_cons pe_int pa_nil))) (pa_cons (pe_lst (pa_cons pe_int (pa_cons pe_int pa_nil))) (pa_cons (pe_lst (pa_cons (pe_un un_neg pe_int) pa_nil)) pa_nil)))))) (pe_op op_mod (pe_op op_fdiv (pe_callO O_law_cell_at hr rfl (pa_cons (pv 0) (pa_cons pe_int pa_nil))) pe_int) pe_int) (fun _ _ => rfl)))
    (pss_one (ps_ret (pe_cmpR (op_eqIB (hr.units)) (pe_callO O_law_met hr rfl (pa_cons (pv 1) (pa_cons (pv 3) pa_nil))) (pe_tup (pa_cons pe_int (pa_cons pe_bl pa_nil))) (nomark _)))))
      pss_nil)
    (pss_cons (ps_set (i := 4) sc_law.nd rfl (Or.inl rfl) (pe_callTy call_list_of rfl B.list PyProof.Rows.boot_list (pa_cons (pv 2) pa_nil)))
    (pss_cons (ps_set (i := 5) sc_law.nd rfl (Or.inl rfl) (pe_callO O_law_met hr rfl (pa_cons (pv 1) (pa_cons (pv 4) pa_nil))))
    (pss_cons (ps_if (pt_cmpR op_gt (pe_callB call_len_seq rfl B.len PySem.boot_len (pa_cons (pv 2) pa_nil)) (pe_fld (pv 1) rfl) (nomark _))
      (pss_one (ps_ret (pe_cmpR (op_eqIB (hr.units)) (pv 5) (pe_tup (pa_cons pe_int (pa_cons pe_bl pa_nil))) (nomark _))))
      pss_nil)
    (pss_cons (ps_set (i := 6) sc_law.nd rfl (Or.inr rfl) (pe_ix ix_tup (pv 5) pe_int (fun _ _ => rfl)))
    (pss_cons (ps_if (PW.pt (pw_or (pt_cmpR op_ne (pe_ix ix_tup (pv 5) pe_int (fun _ _ => rfl)) pe_int (nomark _)) (pw_or (pt_cmpR (op_neL (hr.units)) (pv 4) (pv 2) (nomark _)) (pw_or (pt_not (pt_val (pe_callB call_isinst rfl B.isinstance PyProof.Rows.boot_isinstance (pa_cons (pv 6) (pa_cons (pe_ty rfl B.list PyProof.Rows.boot_list) pa_nil))) (fun _ => rfl))) (pw_or1 (pt_cmpR op_ne (pe_callB call_len_seq rfl B.len PySem.boot_len (pa_cons (pv 6) pa_nil)) (pe_op op_add (pe_fld (pv 1) rfl) pe_int) (nomark _)))))))
      (pss_one (ps_ret pe_bl))
      pss_nil)
    (pss_cons (ps_if (PW.pt (pw_or (pt_not (pt_val (pe_callB (call_allB rfl) rfl B.all PyProof.Rows.boot_all (pa_cons (pe_comp ["x"] [("table", 1)]  (pi_list (pv 6)) rfl (fun C s0 H0 ex => by exact (pg_name (i := 0) (show List.Nodup [("x" : Str), "table"] by decide +kernel) rfl (Or.inl rfl))) (fun C s0 H0 ex => by exact pts_nil) (fun C s0 H0 ex => by exact (pe_and (pe_callO O_law_whole hr rfl (pa_cons (pv 0) pa_nil)) (pe_one (pe_chain op_le op_lt pe_int (pv 0) (pe_fldK K (pv 1) rfl)))))) pa_nil)) (fun _ => rfl))) (pw_or1 (pt_cmpR op_ne (pe_ix ix_list (pv 6) pe_int (fun _ _ => rfl)) pe_int (nomark _)))))
      (pss_one (ps_ret pe_bl))
      pss_nil)
    (pss_cons (ps_if (pt_not (pt_val (pe_callB (call_allB rfl) rfl B.all PyProof.Rows.boot_all (pa_cons (pe_comp ["hand"] [("row", 6), ("table", 1)]  (pi_list (pv 2)) rfl (fun C s0 H0 ex => by exact (pg_name (i := 0) (show List.Nodup [("hand" : Str), "row", "table"] by decide +kernel) rfl (Or.inl rfl))) (fun C s0 H0 ex => by exact pts_nil) (fun C s0 H0 ex => by exact (pe_cmpR op_eq (pe_callO O_law_worth hr rfl (pa_cons (pe_fldK K (pv 2) rfl) (pa_cons (pv 1) (pa_cons (pv 0) pa_nil)))) pe_int (nomark _)))) pa_nil)) (fun _ => rfl)))
      (pss_one (ps_ret pe_bl))
      pss_nil)
    (pss_one (ps_ret (pe_cmpR (op_eqL (hr.units)) (pe_slice sl_list (pv 6) (po_some (pe_op op_add (pe_callB call_len_seq rfl B.len PySem.boot_len (pa_cons (pv 2) pa_nil)) pe_int)) po_none) (pe_op op_rep (pe_lst (pa_cons pe_int pa_nil)) (pe_op op_sub (pe_fld (pv 1) rfl) (pe_callB call_len_seq rfl B.len PySem.boot_len (pa_cons (pv 2) pa_nil)))) (nomark _)))))))))))))), ?_⟩
  refine ⟨_, rfl, a, ns, 0, rfl, hS, Int.le_refl 0, fun H1 s1 => ⟨_, rfl, fun t H2 s2 ht0 T2 => ?_⟩⟩
  generalize hc : cellN ns 0 = c at T2
  have hp := tbP_mem c
  have p0 := tbP_lo c
  have p1 := tbP_hi c
  have n1 := tbN_b c
  have f1 := tbF_b c
  have sH2 : Same H H2 := s1.trans s2
  obtain ⟨dx, ht⟩ := id T2
  refine ⟨_, rfl, t, C, dx, _, _, rfl, ht, T.cl, T.nH, tf_n _ _ _, _, _, rfl, rfl, _, _, rfl, ⟨by decide, by decide, by omega, by omega⟩, fun sa hsa0 => ?_⟩
  refine comp_range (fun i ys H3 => i ≤ (tbN c).toNat ∧ ys = (someBy (cellN ns 1) i).map V.int ∧ Same H2 H3) ⟨Nat.zero_le _, rfl, same_upd (Same.refl _) hsa0⟩ ?_ ?_
  · rintro i ys H3 hi ⟨_, rfl, s3⟩ hD3
    have hi' : i < (tbN c).toNat := by omega
    refine ⟨⟨rfl, rfl⟩, ?_⟩
    refine ⟨_, rfl, a, ns, 1, rfl, (sH2.trans s3).seq hS, by decide, fun H4 s4 => ⟨_, rfl, _, _, _, rfl, (by decide), fun H5 s5 => ⟨rfl, _, rfl, ?_⟩⟩⟩
    have s45 := s4.trans s5
    have sl := someBy_len (cellN ns 1) i
    refine ite2 (fun c1 => ?_) (fun c1 => ?_)
    · have c1' : V.int (mixI (cellN ns 1) (1 + (i : Int)) 4) = V.int 0 := of_decide_eq_true c1
      injection c1' with c1'
      refine ⟨_, rfl, s45 _ _ hD3, small1000 (by rw [List.length_map]; omega), hi', ?_, same_upd (s3.trans s45) hsa0⟩
      rw [someBy_next, if_pos c1', List.map_append]
      rfl
    · have c1' : ¬ mixI (cellN ns 1) (1 + (i : Int)) 4 = 0 := fun z => (of_decide_eq_false (Bool.eq_false_iff.mpr c1) : ¬ V.int (mixI (cellN ns 1) (1 + (i : Int)) 4) = V.int 0) (by rw [z])
      refine ⟨s45 _ _ hD3, hi', ?_, s3.trans s45⟩
      rw [someBy_next, if_neg c1', List.append_nil]
  rintro ys H3 ⟨_, rfl, s3⟩ hsa
  rw [show (tbN c + 1 - 1).toNat = (tbN c).toNat by omega] at hsa
  have hris := someBy_ris (cellN ns 1) (n := tbN c) (by omega)
  have hlen := someBy_len (cellN ns 1) (tbN c).toNat
  generalize someBy (cellN ns 1) (tbN c).toNat = hs at hsa hris hlen
  refine ⟨_, rfl, a, ns, 2, rfl, (sH2.trans s3).seq hS, by decide, fun H4 s4 => ⟨_, _, rfl, rfl, (by show (0 : Int) < 5; decide), rfl, _, rfl, ?_⟩⟩
  have g4 := s3.trans s4
  refine ite2 (fun c1 => ?_) (fun _ => ?_)
  · refine ⟨(by show 1 ≤ sizeLine; decide), fun l1 hl1 => ?_⟩
    have u1 := same_new hl1 (.lst [.int 0])
    refine ⟨_, rfl, t, C, dx, _, _, rfl, (g4.trans u1) _ _ ht, T.cl, T.nH, tf_n _ _ _, _, _, rfl, rfl, (by show 1 ≤ sizeLine; decide), fun l2 hl2 => ⟨(by show 2 ≤ sizeLine; decide), fun l3 hl3 => ⟨(by show 2 ≤ sizeLine; decide), fun l4 hl4 => ⟨_, rfl, (by show 1 ≤ sizeLine; decide), fun l5 hl5 => ⟨(by show 5 ≤ sizeLine; decide), fun lo hlo => ?_⟩⟩⟩⟩⟩
    have u2 := same_new hl2 (.lst [.int (tbN c + 1)])
    have u3 := same_new hl3 (.lst [.int 2, .int 1])
    have u4 := same_new hl4 (.lst [.int 3, .int 3])
    have u5 := same_new hl5 (.lst [.int (-1)])
    have u6 := same_new hlo (.lst [.ref l1, .ref l2, .ref l3, .ref l4, .ref l5])
    have k1 := (u2.trans (u3.trans (u4.trans (u5.trans u6)))) _ _ upd_same
    have k2 := (u3.trans (u4.trans (u5.trans u6))) _ _ upd_same
    have k3 := (u4.trans (u5.trans u6)) _ _ upd_same
    have k4 := (u5.trans u6) _ _ upd_same
    have k5 := u6 _ _ upd_same
    have u16 := u1.trans (u2.trans (u3.trans (u4.trans (u5.trans u6))))
    have e0 := Int.emod_nonneg (cellN ns 2 / 5) (show (5 : Int) ≠ 0 by decide)
    have e1 := Int.emod_lt_of_pos (cellN ns 2 / 5) (show (0 : Int) < 5 by decide)
    have nr : ∀ hs' : List Int, ¬ ((∀ h ∈ hs', 1 ≤ h ∧ h ≤ tbN c) ∧ hs'.Pairwise (· < ·)) → risB (tbN c) hs' = false := fun hs' h => by
      cases hB : risB (tbN c) hs' with
      | false => rfl
      | true => exact absurd (risB_iff.mp hB) h
    have pick : ∃ (wd : Addr) (hs' : List Int), atI [V.ref l1, .ref l2, .ref l3, .ref l4, .ref l5] (cellN ns 2 / 5 % 5) = some (.ref wd) ∧ risB (tbN c) hs' = false ∧ (upd (upd (upd (upd (upd (upd H4 l1 (.lst [.int 0])) l2 (.lst [.int (tbN c + 1)])) l3 (.lst [.int 2, .int 1])) l4 (.lst [.int 3, .int 3])) l5 (.lst [.int (-1)])) lo (.lst [.ref l1, .ref l2, .ref l3, .ref l4, .ref l5])) wd = some (.lst (hs'.map V.int)) := by
      rcases (show cellN ns 2 / 5 % 5 = 0 ∨ cellN ns 2 / 5 % 5 = 1 ∨ cellN ns 2 / 5 % 5 = 2 ∨ cellN ns 2 / 5 % 5 = 3 ∨ cellN ns 2 / 5 % 5 = 4 by omega) with z | z | z | z | z <;> rw [z]
      · exact ⟨l1, [0], rfl, nr _ fun h => by have := h.1 0 (by simp); omega, k1⟩
      · exact ⟨l2, [tbN c + 1], rfl, nr _ fun h => by have := h.1 (tbN c + 1) (by simp); omega, k2⟩
      · exact ⟨l3, [2, 1], rfl, nr _ fun h => by have := h.2; simp at this, k3⟩
      · exact ⟨l4, [3, 3], rfl, nr _ fun h => by have := h.2; simp at this, k4⟩
      · exact ⟨l5, [-1], rfl, nr _ fun h => by have := h.1 (-1) (by simp); omega, k5⟩
    obtain ⟨wd, hs', ew, hbad, hwd⟩ := pick
    refine ⟨_, rfl, a, ns, 2, rfl, (sH2.trans (g4.trans u16)).seq hS, by decide, fun H5 s5 => ⟨_, _, rfl, rfl, ⟨by decide, by decide⟩, _, _, rfl, rfl, (by show (0 : Int) < 5; decide), lo, _, _, .ref wd, rfl, rfl, SqL.of (s5 _ _ upd_same), ew, ?_⟩⟩
    refine ⟨_, rfl, _, rfl, t, wd, _, _, _, hs', rfl, T2.same (g4.trans (u16.trans s5)), hp, by omega, by omega, s5 _ _ hwd, fun z => absurd (z.symm.trans hbad) (by decide), fun _ d H6 s6 hd6 => ?_, fun z => absurd (z.symm.trans hbad) (by decide)⟩
    exact ⟨(by show 2 ≤ sizeLine; decide), fun tt htt => ⟨d, tt, 1, true, rfl, rfl, same_new htt _ _ _ hd6, upd_same, q _⟩⟩
  · refine ⟨_, rfl, sa, _, rfl, .inl (SqL.of (s4 _ _ hsa)), fun ha hha0 => ?_⟩
    have s5 := same_new hha0 (.lst (hs.map V.int))
    have hha : (upd H4 ha (.lst (hs.map V.int))) ha = some (.lst (hs.map V.int)) := upd_same
    generalize upd H4 ha (.lst (hs.map V.int)) = H5 at s5 hha
    have g5 := g4.trans s5
    by_cases big : tbF c < (hs.length : Int)
    · refine ⟨_, rfl, _, rfl, t, ha, _, _, _, hs, rfl, T2.same g5, hp, by omega, by omega, hha, fun _ z => absurd z (by omega), fun z => absurd (z.symm.trans hris) (by decide), fun _ _ d H6 s6 hd6 => ?_⟩
      have g6 := g5.trans s6
      refine ⟨_, rfl, sa, _, rfl, .inl (SqL.of ((s5.trans s6) _ _ (s4 _ _ hsa))), _, rfl, t, C, dx, _, _, rfl, g6 _ _ ht, T.cl, T.nF, tf_f _ _ _, _, _, rfl, rfl, _, rfl, ?_⟩
      rw [List.length_map]
      refine ite2 (fun _ => ?_) (fun z => absurd (decide_eq_true (show (hs.length : Int) > tbF c from big)) z)
      exact ⟨_, rfl, (by show 2 ≤ sizeLine; decide), fun tt htt => ⟨d, tt, 2, true, rfl, rfl, same_new htt _ _ _ hd6, upd_same, q _⟩⟩
    · refine ⟨_, rfl, _, rfl, t, ha, _, _, _, hs, rfl, T2.same g5, hp, by omega, by omega, hha, fun _ _ d r H6 s6 hd6 hr6 => ?_, fun z => absurd (z.symm.trans hris) (by decide), fun _ z => absurd z big⟩
      have g6 := g5.trans s6
      have hsa6 := (s5.trans s6) _ _ (s4 _ _ hsa)
      have rb := veilR_b (p := tbP c) (by omega) hs
      have rl := veilR_len (tbP c) hs
      have vl : (veilL (tbP c) (tbF c).toNat hs).length = (tbF c).toNat + 1 := by
        unfold veilL
        rw [List.length_append, rl, List.length_replicate]
        omega
      have vb : ∀ v ∈ veilL (tbP c) (tbF c).toNat hs, 0 ≤ v ∧ v < tbP c := fun v hv => by
        rcases List.mem_append.mp hv with h | h
        · exact rb v h
        · rw [(List.mem_replicate.mp h).2]
          omega
      have vh : (veilL (tbP c) (tbF c).toNat hs)[0]? = some 1 := by
        have e := veilR_head (p := tbP c) (by omega) hs
        unfold veilL
        rw [List.getElem?_append_left (by omega), ← List.head?_eq_getElem?]
        exact e
      have vz : ∀ h ∈ hs, worthL (tbP c) (veilL (tbP c) (tbF c).toNat hs) h = 0 := fun h hh => by
        rw [worthL_poly]
        unfold veilL
        rw [polyV_pad]
        exact veilR_zero hp hs (fun k hk => by have := (risB_iff.mp hris).1 k hk; omega) h hh
      have vd : (veilL (tbP c) (tbF c).toNat hs).drop (hs.length + 1) = List.replicate ((tbF c).toNat - hs.length) 0 := by
        unfold veilL
        rw [List.drop_append_of_le_length (by omega), List.drop_of_length_le (by omega), List.nil_append]
        congr 1
        omega
      generalize veilL (tbP c) (tbF c).toNat hs = row at hr6 vl vb vh vz vd
      refine ⟨_, rfl, sa, _, rfl, .inl (SqL.of hsa6), _, rfl, t, C, dx, _, _, rfl, g6 _ _ ht, T.cl, T.nF, tf_f _ _ _, _, _, rfl, rfl, _, rfl, ?_⟩
      rw [List.length_map]
      refine ite2 (fun z => absurd (of_decide_eq_true z : (hs.length : Int) > tbF c) big) (fun _ => ?_)
      refine ⟨_, rfl, d, _, _, .ref r, rfl, rfl, SqT.of hd6, rfl, ?_⟩
      refine ⟨_, rfl, d, _, _, .int 0, rfl, rfl, SqT.of hd6, rfl, rfl, _, rfl, ?_⟩
      refine ite2 (fun z => absurd z (by simp)) (fun _ => ?_)
      refine ⟨_, rfl, _, rfl, ha, sa, hs, hs, rfl, rfl, SqL.of (s6 _ _ hha), SqL.of hsa6, _, rfl, ?_⟩
      refine ite2 (fun z => absurd z (by simp)) (fun _ => ?_)
      refine ⟨_, rfl, _, _, _, _, true, rfl, .lst hr6, rfl, kit_list_list K, _, rfl, ?_⟩
      refine ⟨_, rfl, r, _, rfl, .inl (SqL.of hr6), _, rfl, t, C, dx, _, _, rfl, g6 _ _ ht, T.cl, T.nF, tf_f _ _ _, _, _, rfl, rfl, rfl, _, rfl, ?_⟩
      refine ite2 (fun z => absurd z ?_) (fun _ => ?_)
      · rw [List.length_map, vl]
        simp
        omega
      refine ⟨_, rfl, r, rfl, ⟨_, SqL.of hr6⟩, fun D hD => ?_⟩
      refine comp_list (K := K) (a := r) (xs := row.map V.int) (fun i ys H7 => i ≤ row.length ∧ ys = (List.replicate i true).map V.bl ∧ Same H6 H7) ⟨Nat.zero_le _, rfl, same_upd (Same.refl _) hD⟩ ?_ ?_ ?_
      · rintro i ys H7 _ ⟨_, _, s7⟩
        exact SqL.of (s7 _ _ hr6)
      · rintro i y ys H7 hy ⟨hi, rfl, s7⟩ hD7
        rw [List.getElem?_map] at hy
        cases hv : row[i]? with
        | none => rw [hv] at hy; cases hy
        | some v =>
        rw [hv] at hy
        cases hy
        have il : i < row.length := (List.getElem?_eq_some_iff.mp hv).1
        have vb' := vb v (List.mem_of_getElem? hv)
        refine ⟨⟨rfl, rfl⟩, ?_⟩
        refine ⟨_, rfl, _, rfl, fun H8 s8 => ⟨_, rfl, iteT ?_⟩⟩
        refine ⟨_, rfl, _, _, rfl, rfl, _, rfl, ?_⟩
        refine ite2 (fun _ => ?_) (fun z => absurd (decide_eq_true (show (0 : Int) ≤ v from vb'.1)) z)
        refine ⟨_, rfl, t, C, dx, _, _, rfl, (g6.trans (s7.trans s8)) _ _ ht, T.cl, T.nP, tf_p _ _ _, _, _, rfl, rfl, ?_⟩
        dsimp only
        rw [decide_eq_true vb'.2]
        refine ⟨s8 _ _ hD7, small1000 (by rw [List.length_map, List.length_replicate]; omega), il, ?_, same_upd (s7.trans s8) hD⟩
        rw [List.replicate_succ', List.map_append]
        rfl
      rintro ys H7 ⟨_, rfl, s7⟩ hD7
      refine ⟨D, List.replicate (row.map V.int).length true, rfl, SqL.of hD7, _, rfl, ?_⟩
      have all1 : ∀ k : Nat, (List.replicate k true).all id = true := fun k => by
        rw [List.all_eq_true]
        exact fun x hx => (List.mem_replicate.mp hx).2
      rw [all1]
      refine ⟨_, rfl, r, _, _, .int 1, rfl, rfl, SqL.of (s7 _ _ hr6), ?_, rfl, _, rfl, ?_⟩
      · unfold atI
        rw [ix_in (by decide) (by rw [List.length_map, vl]; omega)]
        show (row.map V.int)[0]? = _
        rw [List.getElem?_map, vh]
        rfl
      refine ite2 (fun z => absurd z (by simp)) (fun _ => ?_)
      have g7 := g6.trans s7
      have hsa7 := s7 _ _ hsa6
      refine ⟨_, rfl, sa, rfl, ⟨_, SqL.of hsa7⟩, fun D2 hD2 => ?_⟩
      refine comp_list (K := K) (a := sa) (xs := hs.map V.int) (fun i ys H8 => i ≤ hs.length ∧ ys = (List.replicate i true).map V.bl ∧ Same H7 H8) ⟨Nat.zero_le _, rfl, same_upd (Same.refl _) hD2⟩ ?_ ?_ ?_
      · rintro i ys H8 _ ⟨_, _, s8⟩
        exact SqL.of (s8 _ _ hsa7)
      · rintro i y ys H8 hy ⟨hi, rfl, s8⟩ hD8
        rw [List.getElem?_map] at hy
        cases hv : hs[i]? with
        | none => rw [hv] at hy; cases hy
        | some v =>
        rw [hv] at hy
        cases hy
        have il : i < hs.length := (List.getElem?_eq_some_iff.mp hv).1
        refine ⟨⟨rfl, rfl⟩, ?_⟩
        refine ⟨_, rfl, t, C, dx, _, _, rfl, (g7.trans s8) _ _ ht, T.cl, T.nP, tf_p _ _ _, _, rfl, _, rfl, r, _, _, row, rfl, by omega, p1, SqL.of ((s7.trans s8) _ _ hr6), fun H9 s9 => ⟨rfl, ?_⟩⟩
        rw [vz v (List.mem_of_getElem? hv)]
        refine ⟨s9 _ _ hD8, small1000 (by rw [List.length_map, List.length_replicate]; omega), il, ?_, same_upd (s8.trans s9) hD2⟩
        rw [List.replicate_succ', List.map_append]
        rfl
      rintro ys H8 ⟨_, rfl, s8⟩ hD8
      refine ⟨D2, List.replicate (hs.map V.int).length true, rfl, SqL.of hD8, _, rfl, ?_⟩
      rw [all1]
      have g8 := g7.trans s8
      refine ⟨_, rfl, _, rfl, sa, _, rfl, .inl (SqL.of (s8 _ _ hsa7)), _, _, rfl, rfl, _, rfl, r, _, rfl, SqL.of ((s7.trans s8) _ _ hr6), fun o1 ho1 => ?_⟩
      rw [List.length_map, show ((hs.length : Int) + 1) = ((hs.length + 1 : Nat) : Int) by omega, cut_from, ← List.map_drop, vd]
      have s9 := same_new ho1 (.lst ((List.replicate ((tbF c).toNat - hs.length) (0 : Int)).map V.int))
      refine ⟨(by show 1 ≤ sizeLine; decide), fun o2 ho2 => ?_⟩
      have s10 := same_new ho2 (.lst [.int 0])
      refine ⟨_, rfl, t, C, dx, _, _, rfl, (g8.trans (s9.trans s10)) _ _ ht, T.cl, T.nF, tf_f _ _ _, _, rfl, sa, _, rfl, .inl (SqL.of ((s8.trans (s9.trans s10)) _ _ hsa7)), _, _, rfl, rfl, ?_⟩
      rw [List.length_map]
      refine ⟨o2, _, _, rfl, rfl, upd_same, by omega, by omega, ?_, fun o3 ho3 => ?_⟩
      · exact small (by show 1 * _ ≤ 1000; omega)
      have fl : ∀ k : Nat, (List.replicate k [V.int 0]).flatten = (List.replicate k (0 : Int)).map V.int := fun k => by
        induction k with
        | zero => rfl
        | succ k ih => rw [List.replicate_succ, List.flatten_cons, ih]; rfl
      rw [fl, show (tbF c - (hs.length : Int)).toNat = (tbF c).toNat - hs.length by omega]
      refine ⟨o1, o3, _, _, rfl, rfl, SqL.of (same_new ho3 _ _ _ (s10 _ _ upd_same)), SqL.of upd_same, ?_⟩
      rw [decide_eq_true rfl]
      exact q _
end
/-! ### the top -/
theorem all_mk {l : PySem.W.OpenLaw} {w : World} {K : PySem.W.Frag} {h : Heap} {mg : Str → Option Value} {fa C pa f1 f2 f3 f4 f5 f6 f7 f8 f9 f10 f11 f12 f13 : Addr} (X : K.In h) (G : h.Ns mainGlobals mg) (hfa : mg "law" = some (.ref fa))
    {od1 an1 : Option Addr} {sl1 : Array (Option Value)} {oc1 kV1 dc1 pm1 cd1 ct1 : Value}
    {od2 an2 : Option Addr} {sl2 : Array (Option Value)} {oc2 kV2 dc2 pm2 cd2 ct2 : Value}
    {od3 an3 : Option Addr} {sl3 : Array (Option Value)} {oc3 kV3 dc3 pm3 cd3 ct3 : Value}
    {od4 an4 : Option Addr} {sl4 : Array (Option Value)} {oc4 kV4 dc4 pm4 cd4 ct4 : Value}
    {od5 an5 : Option Addr} {sl5 : Array (Option Value)} {oc5 kV5 dc5 pm5 cd5 ct5 : Value}
    {od6 an6 : Option Addr} {sl6 : Array (Option Value)} {oc6 kV6 dc6 pm6 cd6 ct6 : Value}
    {od7 an7 : Option Addr} {sl7 : Array (Option Value)} {oc7 kV7 dc7 pm7 cd7 ct7 : Value}
    {od8 an8 : Option Addr} {sl8 : Array (Option Value)} {oc8 kV8 dc8 pm8 cd8 ct8 : Value}
    {od9 an9 : Option Addr} {sl9 : Array (Option Value)} {oc9 kV9 dc9 pm9 cd9 ct9 : Value}
    {od10 an10 : Option Addr} {sl10 : Array (Option Value)} {oc10 kV10 dc10 pm10 cd10 ct10 : Value}
    {od11 an11 : Option Addr} {sl11 : Array (Option Value)} {oc11 kV11 dc11 pm11 cd11 ct11 : Value}
    {od12 an12 : Option Addr} {sl12 : Array (Option Value)} {oc12 kV12 dc12 pm12 cd12 ct12 : Value}
    {od13 an13 : Option Addr} {sl13 : Array (Option Value)} {oc13 kV13 dc13 pm13 cd13 ct13 : Value}
    {N_VeilError c_VeilError : Addr} {nm_VeilError q_VeilError : Str} {bs_VeilError bm_VeilError sub_VeilError : List Value} {hd_VeilError ab_VeilError : Bool} {sn_VeilError : List Str} {col_VeilError : Option Bool} {dd_VeilError : Option Addr} {k0_VeilError k1_VeilError k2_VeilError k3_VeilError k5_VeilError : Option Value}
    {N_BadTable c_BadTable : Addr} {nm_BadTable q_BadTable : Str} {bs_BadTable bm_BadTable sub_BadTable : List Value} {hd_BadTable ab_BadTable : Bool} {sn_BadTable : List Str} {col_BadTable : Option Bool} {dd_BadTable : Option Addr} {k0_BadTable k1_BadTable k2_BadTable k3_BadTable k5_BadTable : Option Value}
    {N_Nought c_Nought : Addr} {nm_Nought q_Nought : Str} {bs_Nought bm_Nought sub_Nought : List Value} {hd_Nought ab_Nought : Bool} {sn_Nought : List Str} {col_Nought : Option Bool} {dd_Nought : Option Addr} {k0_Nought k1_Nought k2_Nought k3_Nought k5_Nought : Option Value}
    {N_BadHands c_BadHands : Addr} {nm_BadHands q_BadHands : Str} {bs_BadHands bm_BadHands sub_BadHands : List Value} {hd_BadHands ab_BadHands : Bool} {sn_BadHands : List Str} {col_BadHands : Option Bool} {dd_BadHands : Option Addr} {k0_BadHands k1_BadHands k2_BadHands k3_BadHands k5_BadHands : Option Value}
    {N_NoVeil c_NoVeil : Addr} {nm_NoVeil q_NoVeil : Str} {bs_NoVeil bm_NoVeil sub_NoVeil : List Value} {hd_NoVeil ab_NoVeil : Bool} {sn_NoVeil : List Str} {col_NoVeil : Option Bool} {dd_NoVeil : Option Addr} {k0_NoVeil k1_NoVeil k2_NoVeil k3_NoVeil k5_NoVeil : Option Value}
    {ddp : Option Addr} {its : Array Value} {np : Nat} {slp : Array (Option Value)}
    (a1 : PySem.W.nsIn K mainGlobals "is_table" = some (some (.ref f1)))
    (l1 : K.lookup f1 = some ⟨oc1, od1, .func (PySem.W.fnOf "is_table" "is_table" (defArgs s_is_table) (defBody s_is_table) (defScope s_is_table) .none kV1 dc1 pm1 an1 cd1 ct1), sl1⟩) (c1 : PySem.W.codeIn K cd1 "is_table" = true) (k1 : PySem.W.keepIn K (.ref f1) = true)
    (a2 : PySem.W.nsIn K mainGlobals "back" = some (some (.ref f2)))
    (l2 : K.lookup f2 = some ⟨oc2, od2, .func (PySem.W.fnOf "back" "back" (defArgs s_back) (defBody s_back) (defScope s_back) .none kV2 dc2 pm2 an2 cd2 ct2), sl2⟩) (c2 : PySem.W.codeIn K cd2 "back" = true) (k2 : PySem.W.keepIn K (.ref f2) = true)
    (a3 : PySem.W.nsIn K mainGlobals "are_rising_hands" = some (some (.ref f3)))
    (l3 : K.lookup f3 = some ⟨oc3, od3, .func (PySem.W.fnOf "are_rising_hands" "are_rising_hands" (defArgs s_are_rising_hands) (defBody s_are_rising_hands) (defScope s_are_rising_hands) .none kV3 dc3 pm3 an3 cd3 ct3), sl3⟩) (c3 : PySem.W.codeIn K cd3 "are_rising_hands" = true) (k3 : PySem.W.keepIn K (.ref f3) = true)
    (a4 : PySem.W.nsIn K mainGlobals "refuse_hands" = some (some (.ref f4)))
    (l4 : K.lookup f4 = some ⟨oc4, od4, .func (PySem.W.fnOf "refuse_hands" "refuse_hands" (defArgs s_refuse_hands) (defBody s_refuse_hands) (defScope s_refuse_hands) .none kV4 dc4 pm4 an4 cd4 ct4), sl4⟩) (c4 : PySem.W.codeIn K cd4 "refuse_hands" = true) (k4 : PySem.W.keepIn K (.ref f4) = true)
    (a5 : PySem.W.nsIn K mainGlobals "veil" = some (some (.ref f5)))
    (l5 : K.lookup f5 = some ⟨oc5, od5, .func (PySem.W.fnOf "veil" "veil" (defArgs s_veil) (defBody s_veil) (defScope s_veil) .none kV5 dc5 pm5 an5 cd5 ct5), sl5⟩) (c5 : PySem.W.codeIn K cd5 "veil" = true) (k5 : PySem.W.keepIn K (.ref f5) = true)
    (a6 : PySem.W.nsIn K mainGlobals "_law_cell_at" = some (some (.ref f6)))
    (l6 : K.lookup f6 = some ⟨oc6, od6, .func (PySem.W.fnOf "_law_cell_at" "_law_cell_at" (defArgs s_law_cell_at) (defBody s_law_cell_at) (defScope s_law_cell_at) .none kV6 dc6 pm6 an6 cd6 ct6), sl6⟩) (c6 : PySem.W.codeIn K cd6 "_law_cell_at" = true) (k6 : PySem.W.keepIn K (.ref f6) = true)
    (a7 : PySem.W.nsIn K mainGlobals "_law_mix" = some (some (.ref f7)))
    (l7 : K.lookup f7 = some ⟨oc7, od7, .func (PySem.W.fnOf "_law_mix" "_law_mix" (defArgs s_law_mix) (defBody s_law_mix) (defScope s_law_mix) .none kV7 dc7 pm7 an7 cd7 ct7), sl7⟩) (c7 : PySem.W.codeIn K cd7 "_law_mix" = true) (k7 : PySem.W.keepIn K (.ref f7) = true)
    (a8 : PySem.W.nsIn K mainGlobals "_law_whole" = some (some (.ref f8)))
    (l8 : K.lookup f8 = some ⟨oc8, od8, .func (PySem.W.fnOf "_law_whole" "_law_whole" (defArgs s_law_whole) (defBody s_law_whole) (defScope s_law_whole) .none kV8 dc8 pm8 an8 cd8 ct8), sl8⟩) (c8 : PySem.W.codeIn K cd8 "_law_whole" = true) (k8 : PySem.W.keepIn K (.ref f8) = true)
    (a9 : PySem.W.nsIn K mainGlobals "_law_table_by" = some (some (.ref f9)))
    (l9 : K.lookup f9 = some ⟨oc9, od9, .func (PySem.W.fnOf "_law_table_by" "_law_table_by" (defArgs s_law_table_by) (defBody s_law_table_by) (defScope s_law_table_by) .none kV9 dc9 pm9 an9 cd9 ct9), sl9⟩) (c9 : PySem.W.codeIn K cd9 "_law_table_by" = true) (k9 : PySem.W.keepIn K (.ref f9) = true)
    (a10 : PySem.W.nsIn K mainGlobals "_law_worth" = some (some (.ref f10)))
    (l10 : K.lookup f10 = some ⟨oc10, od10, .func (PySem.W.fnOf "_law_worth" "_law_worth" (defArgs s_law_worth) (defBody s_law_worth) (defScope s_law_worth) .none kV10 dc10 pm10 an10 cd10 ct10), sl10⟩) (c10 : PySem.W.codeIn K cd10 "_law_worth" = true) (k10 : PySem.W.keepIn K (.ref f10) = true)
    (a11 : PySem.W.nsIn K mainGlobals "_law_met" = some (some (.ref f11)))
    (l11 : K.lookup f11 = some ⟨oc11, od11, .func (PySem.W.fnOf "_law_met" "_law_met" (defArgs s_law_met) (defBody s_law_met) (defScope s_law_met) .none kV11 dc11 pm11 an11 cd11 ct11), sl11⟩) (c11 : PySem.W.codeIn K cd11 "_law_met" = true) (k11 : PySem.W.keepIn K (.ref f11) = true)
    (a12 : PySem.W.nsIn K mainGlobals "law" = some (some (.ref f12)))
    (l12 : K.lookup f12 = some ⟨oc12, od12, .func (PySem.W.fnOf "law" "law" (defArgs s_law) (defBody s_law) (defScope s_law) .none kV12 dc12 pm12 an12 cd12 ct12), sl12⟩) (c12 : PySem.W.codeIn K cd12 "law" = true) (k12 : PySem.W.keepIn K (.ref f12) = true)
    (aC : PySem.W.nsIn K mainGlobals "Table" = some (some (.ref C)))
    (a13 : PySem.W.findIn K (.ref C) "__init__" = some (some (.ref f13))) (i13 : PySem.W.isFn K (.ref f13) = true)
    (l13 : K.lookup f13 = some ⟨oc13, od13, .func (PySem.W.fnOf "__init__" "Table.__init__" (defArgs s_Table_init) (defBody s_Table_init) (defScope s_Table_init) .none kV13 dc13 pm13 an13 cd13 ct13), sl13⟩) (c13 : PySem.W.codeIn K cd13 "Table.__init__" = true) (k13 : PySem.W.keepIn K (.ref f13) = true)
    (pg : PySem.W.plainGet K C Str.empty = true) (hd : PySem.W.hasDictIn K C = true) (po : PySem.W.plainOver K C = true) (sa : PySem.W.findIn K (.ref C) "__setattr__" = some (some (.builtin "object.__setattr__"))) (mk : PySem.W.makesIn K C = true) (kc : PySem.W.keepIn K (.ref C) = true)
    (nP : PySem.W.findIn K (.ref C) "prime" = some none) (nH : PySem.W.findIn K (.ref C) "hands" = some none) (nF : PySem.W.findIn K (.ref C) "few" = some none)
    (ap : PySem.W.nsIn K mainGlobals "PRIMES" = some (some (.ref pa))) (lp : K.lookup pa = some ⟨.type "tuple", ddp, .seq its np, slp⟩) (vp : Vals (primes9.map V.int) its.toList)
    (x_VeilError : PySem.W.nsIn K mainGlobals "VeilError" = some (some (.ref c_VeilError))) (o_VeilError : K.lookup c_VeilError = some (PySem.excClassObj nm_VeilError q_VeilError c_VeilError N_VeilError bs_VeilError bm_VeilError hd_VeilError sn_VeilError sub_VeilError ab_VeilError col_VeilError dd_VeilError k0_VeilError k1_VeilError k2_VeilError k3_VeilError k5_VeilError "ValueError.__new__"))
    (e_VeilError : PySem.W.excIn K c_VeilError vErr "ValueError.__new__" = true)
    (x_BadTable : PySem.W.nsIn K mainGlobals "BadTable" = some (some (.ref c_BadTable))) (o_BadTable : K.lookup c_BadTable = some (PySem.excClassObj nm_BadTable q_BadTable c_BadTable N_BadTable bs_BadTable bm_BadTable hd_BadTable sn_BadTable sub_BadTable ab_BadTable col_BadTable dd_BadTable k0_BadTable k1_BadTable k2_BadTable k3_BadTable k5_BadTable "ValueError.__new__"))
    (e_BadTable : PySem.W.excIn K c_BadTable vErr "ValueError.__new__" = true)
    (x_Nought : PySem.W.nsIn K mainGlobals "Nought" = some (some (.ref c_Nought))) (o_Nought : K.lookup c_Nought = some (PySem.excClassObj nm_Nought q_Nought c_Nought N_Nought bs_Nought bm_Nought hd_Nought sn_Nought sub_Nought ab_Nought col_Nought dd_Nought k0_Nought k1_Nought k2_Nought k3_Nought k5_Nought "ValueError.__new__"))
    (e_Nought : PySem.W.excIn K c_Nought vErr "ValueError.__new__" = true)
    (x_BadHands : PySem.W.nsIn K mainGlobals "BadHands" = some (some (.ref c_BadHands))) (o_BadHands : K.lookup c_BadHands = some (PySem.excClassObj nm_BadHands q_BadHands c_BadHands N_BadHands bs_BadHands bm_BadHands hd_BadHands sn_BadHands sub_BadHands ab_BadHands col_BadHands dd_BadHands k0_BadHands k1_BadHands k2_BadHands k3_BadHands k5_BadHands "ValueError.__new__"))
    (e_BadHands : PySem.W.excIn K c_BadHands vErr "ValueError.__new__" = true)
    (x_NoVeil : PySem.W.nsIn K mainGlobals "NoVeil" = some (some (.ref c_NoVeil))) (o_NoVeil : K.lookup c_NoVeil = some (PySem.excClassObj nm_NoVeil q_NoVeil c_NoVeil N_NoVeil bs_NoVeil bm_NoVeil hd_NoVeil sn_NoVeil sub_NoVeil ab_NoVeil col_NoVeil dd_NoVeil k0_NoVeil k1_NoVeil k2_NoVeil k3_NoVeil k5_NoVeil "ValueError.__new__"))
    (e_NoVeil : PySem.W.excIn K c_NoVeil vErr "ValueError.__new__" = true)
    (in_VeilError_VeilError : (Value.ref c_VeilError :: bm_VeilError).contains (.ref c_VeilError) = true)
    (kt_VeilError_VeilError : PySem.W.kitOne K (.ref c_VeilError) (.ref c_VeilError) = some true)
    (in_VeilError_BadTable : (Value.ref c_VeilError :: bm_VeilError).contains (.ref c_BadTable) = false)
    (in_VeilError_Nought : (Value.ref c_VeilError :: bm_VeilError).contains (.ref c_Nought) = false)
    (in_VeilError_BadHands : (Value.ref c_VeilError :: bm_VeilError).contains (.ref c_BadHands) = false)
    (in_VeilError_NoVeil : (Value.ref c_VeilError :: bm_VeilError).contains (.ref c_NoVeil) = false)
    (ec_VeilError : ExCls K c_VeilError)
    (kn_VeilError_BadTable : PySem.W.kitOne K (.ref c_VeilError) (.ref c_BadTable) = some false)
    (kn_VeilError_Nought : PySem.W.kitOne K (.ref c_VeilError) (.ref c_Nought) = some false)
    (kn_VeilError_BadHands : PySem.W.kitOne K (.ref c_VeilError) (.ref c_BadHands) = some false)
    (kn_VeilError_NoVeil : PySem.W.kitOne K (.ref c_VeilError) (.ref c_NoVeil) = some false)
    (kv_VeilError : PySem.W.kitOne K (.ref c_VeilError) (.type "ValueError") = some true)
    (in_BadTable_VeilError : (Value.ref c_BadTable :: bm_BadTable).contains (.ref c_VeilError) = true)
    (kt_BadTable_VeilError : PySem.W.kitOne K (.ref c_BadTable) (.ref c_VeilError) = some true)
    (in_BadTable_BadTable : (Value.ref c_BadTable :: bm_BadTable).contains (.ref c_BadTable) = true)
    (kt_BadTable_BadTable : PySem.W.kitOne K (.ref c_BadTable) (.ref c_BadTable) = some true)
    (in_BadTable_Nought : (Value.ref c_BadTable :: bm_BadTable).contains (.ref c_Nought) = false)
    (in_BadTable_BadHands : (Value.ref c_BadTable :: bm_BadTable).contains (.ref c_BadHands) = false)
    (in_BadTable_NoVeil : (Value.ref c_BadTable :: bm_BadTable).contains (.ref c_NoVeil) = false)
    (ec_BadTable : ExCls K c_BadTable)
    (kn_BadTable_Nought : PySem.W.kitOne K (.ref c_BadTable) (.ref c_Nought) = some false)
    (kn_BadTable_BadHands : PySem.W.kitOne K (.ref c_BadTable) (.ref c_BadHands) = some false)
    (kn_BadTable_NoVeil : PySem.W.kitOne K (.ref c_BadTable) (.ref c_NoVeil) = some false)
    (kv_BadTable : PySem.W.kitOne K (.ref c_BadTable) (.type "ValueError") = some true)
    (in_Nought_VeilError : (Value.ref c_Nought :: bm_Nought).contains (.ref c_VeilError) = true)
    (kt_Nought_VeilError : PySem.W.kitOne K (.ref c_Nought) (.ref c_VeilError) = some true)
    (in_Nought_BadTable : (Value.ref c_Nought :: bm_Nought).contains (.ref c_BadTable) = false)
    (in_Nought_Nought : (Value.ref c_Nought :: bm_Nought).contains (.ref c_Nought) = true)
    (kt_Nought_Nought : PySem.W.kitOne K (.ref c_Nought) (.ref c_Nought) = some true)
    (in_Nought_BadHands : (Value.ref c_Nought :: bm_Nought).contains (.ref c_BadHands) = false)
    (in_Nought_NoVeil : (Value.ref c_Nought :: bm_Nought).contains (.ref c_NoVeil) = false)
    (ec_Nought : ExCls K c_Nought)
    (kn_Nought_BadTable : PySem.W.kitOne K (.ref c_Nought) (.ref c_BadTable) = some false)
    (kn_Nought_BadHands : PySem.W.kitOne K (.ref c_Nought) (.ref c_BadHands) = some false)
    (kn_Nought_NoVeil : PySem.W.kitOne K (.ref c_Nought) (.ref c_NoVeil) = some false)
    (kv_Nought : PySem.W.kitOne K (.ref c_Nought) (.type "ValueError") = some true)
    (in_BadHands_VeilError : (Value.ref c_BadHands :: bm_BadHands).contains (.ref c_VeilError) = true)
    (kt_BadHands_VeilError : PySem.W.kitOne K (.ref c_BadHands) (.ref c_VeilError) = some true)
    (in_BadHands_BadTable : (Value.ref c_BadHands :: bm_BadHands).contains (.ref c_BadTable) = false)
    (in_BadHands_Nought : (Value.ref c_BadHands :: bm_BadHands).contains (.ref c_Nought) = false)
    (in_BadHands_BadHands : (Value.ref c_BadHands :: bm_BadHands).contains (.ref c_BadHands) = true)
    (kt_BadHands_BadHands : PySem.W.kitOne K (.ref c_BadHands) (.ref c_BadHands) = some true)
    (in_BadHands_NoVeil : (Value.ref c_BadHands :: bm_BadHands).contains (.ref c_NoVeil) = false)
    (ec_BadHands : ExCls K c_BadHands)
    (kn_BadHands_BadTable : PySem.W.kitOne K (.ref c_BadHands) (.ref c_BadTable) = some false)
    (kn_BadHands_Nought : PySem.W.kitOne K (.ref c_BadHands) (.ref c_Nought) = some false)
    (kn_BadHands_NoVeil : PySem.W.kitOne K (.ref c_BadHands) (.ref c_NoVeil) = some false)
    (kv_BadHands : PySem.W.kitOne K (.ref c_BadHands) (.type "ValueError") = some true)
    (in_NoVeil_VeilError : (Value.ref c_NoVeil :: bm_NoVeil).contains (.ref c_VeilError) = true)
    (kt_NoVeil_VeilError : PySem.W.kitOne K (.ref c_NoVeil) (.ref c_VeilError) = some true)
    (in_NoVeil_BadTable : (Value.ref c_NoVeil :: bm_NoVeil).contains (.ref c_BadTable) = false)
    (in_NoVeil_Nought : (Value.ref c_NoVeil :: bm_NoVeil).contains (.ref c_Nought) = false)
    (in_NoVeil_BadHands : (Value.ref c_NoVeil :: bm_NoVeil).contains (.ref c_BadHands) = false)
    (in_NoVeil_NoVeil : (Value.ref c_NoVeil :: bm_NoVeil).contains (.ref c_NoVeil) = true)
    (kt_NoVeil_NoVeil : PySem.W.kitOne K (.ref c_NoVeil) (.ref c_NoVeil) = some true)
    (ec_NoVeil : ExCls K c_NoVeil)
    (kn_NoVeil_BadTable : PySem.W.kitOne K (.ref c_NoVeil) (.ref c_BadTable) = some false)
    (kn_NoVeil_Nought : PySem.W.kitOne K (.ref c_NoVeil) (.ref c_Nought) = some false)
    (kn_NoVeil_BadHands : PySem.W.kitOne K (.ref c_NoVeil) (.ref c_BadHands) = some false)
    (kv_NoVeil : PySem.W.kitOne K (.ref c_NoVeil) (.type "ValueError") = some true)
    (z_len : PySem.W.nsIn K mainGlobals "len" = some none)
    (z_range : PySem.W.nsIn K mainGlobals "range" = some none)
    (z_isinstance : PySem.W.nsIn K mainGlobals "isinstance" = some none)
    (z_min : PySem.W.nsIn K mainGlobals "min" = some none)
    (z_list : PySem.W.nsIn K mainGlobals "list" = some none)
    (z_int : PySem.W.nsIn K mainGlobals "int" = some none)
    (z_bool : PySem.W.nsIn K mainGlobals "bool" = some none)
    (z_tuple : PySem.W.nsIn K mainGlobals "tuple" = some none)
    (z_reversed : PySem.W.nsIn K mainGlobals "reversed" = some none)
    (z_zip : PySem.W.nsIn K mainGlobals "zip" = some none)
    (z_set : PySem.W.nsIn K mainGlobals "set" = some none)
    (z_all : PySem.W.nsIn K mainGlobals "all" = some none)
    (z_sum : PySem.W.nsIn K mainGlobals "sum" = some none)
    (z_sorted : PySem.W.nsIn K mainGlobals "sorted" = some none)
    (z_enumerate : PySem.W.nsIn K mainGlobals "enumerate" = some none) :
    ∃ fd : FuncData, (∀ (s : Shared) (v : Value), BindsTo s fd ⟨[v], []⟩ [("script", v)]) ∧ ∀ base : Heap, K.In base → base.Ns mainGlobals mg → FnOk l.prog w K mg base CX0 5 fa fd ["script"] (spLaw K) := by
  have e := hfa.symm.trans (PySem.W.mg_of X G a12)
  cases e
  have S_is_table : Src K mg "is_table" "is_table" s_is_table ["prime", "hands", "few"] := ⟨f1, _, fun_mk (st := s_is_table) l1 c1 k1, (fun_mk (st := s_is_table) l1 c1 k1).binds fun _ _ _ _ _ _ us hl => match us, hl with | [_, _, _], _ => rfl, PySem.W.mg_of X G a1⟩
  have S_back : Src K mg "back" "back" s_back ["table", "number"] := ⟨f2, _, fun_mk (st := s_back) l2 c2 k2, (fun_mk (st := s_back) l2 c2 k2).binds fun _ _ _ _ _ _ us hl => match us, hl with | [_, _], _ => rfl, PySem.W.mg_of X G a2⟩
  have S_are_rising_hands : Src K mg "are_rising_hands" "are_rising_hands" s_are_rising_hands ["table", "some"] := ⟨f3, _, fun_mk (st := s_are_rising_hands) l3 c3 k3, (fun_mk (st := s_are_rising_hands) l3 c3 k3).binds fun _ _ _ _ _ _ us hl => match us, hl with | [_, _], _ => rfl, PySem.W.mg_of X G a3⟩
  have S_refuse_hands : Src K mg "refuse_hands" "refuse_hands" s_refuse_hands ["table", "some"] := ⟨f4, _, fun_mk (st := s_refuse_hands) l4 c4 k4, (fun_mk (st := s_refuse_hands) l4 c4 k4).binds fun _ _ _ _ _ _ us hl => match us, hl with | [_, _], _ => rfl, PySem.W.mg_of X G a4⟩
  have S_veil : Src K mg "veil" "veil" s_veil ["table", "some"] := ⟨f5, _, fun_mk (st := s_veil) l5 c5 k5, (fun_mk (st := s_veil) l5 c5 k5).binds fun _ _ _ _ _ _ us hl => match us, hl with | [_, _], _ => rfl, PySem.W.mg_of X G a5⟩
  have S_law_cell_at : Src K mg "_law_cell_at" "_law_cell_at" s_law_cell_at ["script", "k"] := ⟨f6, _, fun_mk (st := s_law_cell_at) l6 c6 k6, (fun_mk (st := s_law_cell_at) l6 c6 k6).binds fun _ _ _ _ _ _ us hl => match us, hl with | [_, _], _ => rfl, PySem.W.mg_of X G a6⟩
  have S_law_mix : Src K mg "_law_mix" "_law_mix" s_law_mix ["cell", "k", "many"] := ⟨f7, _, fun_mk (st := s_law_mix) l7 c7 k7, (fun_mk (st := s_law_mix) l7 c7 k7).binds fun _ _ _ _ _ _ us hl => match us, hl with | [_, _, _], _ => rfl, PySem.W.mg_of X G a7⟩
  have S_law_whole : Src K mg "_law_whole" "_law_whole" s_law_whole ["found"] := ⟨f8, _, fun_mk (st := s_law_whole) l8 c8 k8, (fun_mk (st := s_law_whole) l8 c8 k8).binds fun _ _ _ _ _ _ us hl => match us, hl with | [_], _ => rfl, PySem.W.mg_of X G a8⟩
  have S_law_table_by : Src K mg "_law_table_by" "_law_table_by" s_law_table_by ["cell"] := ⟨f9, _, fun_mk (st := s_law_table_by) l9 c9 k9, (fun_mk (st := s_law_table_by) l9 c9 k9).binds fun _ _ _ _ _ _ us hl => match us, hl with | [_], _ => rfl, PySem.W.mg_of X G a9⟩
  have S_law_worth : Src K mg "_law_worth" "_law_worth" s_law_worth ["prime", "row", "at"] := ⟨f10, _, fun_mk (st := s_law_worth) l10 c10 k10, (fun_mk (st := s_law_worth) l10 c10 k10).binds fun _ _ _ _ _ _ us hl => match us, hl with | [_, _, _], _ => rfl, PySem.W.mg_of X G a10⟩
  have S_law_met : Src K mg "_law_met" "_law_met" s_law_met ["table", "some"] := ⟨f11, _, fun_mk (st := s_law_met) l11 c11 k11, (fun_mk (st := s_law_met) l11 c11 k11).binds fun _ _ _ _ _ _ us hl => match us, hl with | [_, _], _ => rfl, PySem.W.mg_of X G a11⟩
  have F_law := fun_mk (st := s_law) l12 c12 k12
  have F_init := fun_mk (st := s_Table_init) l13 c13 k13
  have b_init := F_init.binds (ps := ["self", "prime", "hands", "few"]) fun _ _ _ _ _ _ us hl => match us, hl with | [_, _, _, _], _ => rfl
  have TT : Tab K C := ⟨⟨pg, hd, po, sa⟩, nP, nH, nF⟩
  have M : Mk K C f13 := ⟨mk, a13, i13, kc⟩
  have mC := PySem.W.mg_of X G aC
  have TP : Pri K mg pa := pri_mk (PySem.W.mg_of X G ap) lp vp
  have B : Blt mg := ⟨PySem.W.mg_none_of X G z_len, PySem.W.mg_none_of X G z_range, PySem.W.mg_none_of X G z_isinstance, PySem.W.mg_none_of X G z_min, PySem.W.mg_none_of X G z_list, PySem.W.mg_none_of X G z_int, PySem.W.mg_none_of X G z_bool, PySem.W.mg_none_of X G z_tuple, PySem.W.mg_none_of X G z_reversed, PySem.W.mg_none_of X G z_zip, PySem.W.mg_none_of X G z_set, PySem.W.mg_none_of X G z_all, PySem.W.mg_none_of X G z_sum, PySem.W.mg_none_of X G z_sorted, PySem.W.mg_none_of X G z_enumerate⟩
  have E_VeilError : Exc K mg "VeilError" c_VeilError bm_VeilError := exc_mk (PySem.W.mg_of X G x_VeilError) o_VeilError e_VeilError
  have E_BadTable : Exc K mg "BadTable" c_BadTable bm_BadTable := exc_mk (PySem.W.mg_of X G x_BadTable) o_BadTable e_BadTable
  have E_Nought : Exc K mg "Nought" c_Nought bm_Nought := exc_mk (PySem.W.mg_of X G x_Nought) o_Nought e_Nought
  have E_BadHands : Exc K mg "BadHands" c_BadHands bm_BadHands := exc_mk (PySem.W.mg_of X G x_BadHands) o_BadHands e_BadHands
  have E_NoVeil : Exc K mg "NoVeil" c_NoVeil bm_NoVeil := exc_mk (PySem.W.mg_of X G x_NoVeil) o_NoVeil e_NoVeil
  refine ⟨PySem.W.fnOf "law" "law" (defArgs s_law) (defBody s_law) (defScope s_law) .none kV12 dc12 pm12 an12 cd12 ct12, fun s v => .of_eq rfl, fun base _ _ => ?_⟩
  have O_is_table := ok_is_table (P := l.prog) (w := w) (base := base) S_is_table TP
  have O_Table : MkOk l.prog w K mg base CX0 2 "Table" C ["self", "prime", "hands", "few"] (spInit C) := ⟨_, _, M, ok_init F_init TT O_is_table, b_init, mC⟩
  have O_cell := ok_cell (P := l.prog) (w := w) (base := base) S_law_cell_at B
  have O_mix := ok_mix (P := l.prog) (w := w) (base := base) S_law_mix
  have O_whole := ok_whole (P := l.prog) (w := w) (base := base) S_law_whole B
  have O_table_by := ok_table_by S_law_table_by B O_Table
  have O_law_worth := ok_law_worth (P := l.prog) (w := w) (base := base) S_law_worth
  have O_back := ok_back (P := l.prog) (w := w) (base := base) S_back B TT
  have O_rising := ok_rising (P := l.prog) (w := w) (base := base) S_are_rising_hands TT
  have O_refuse_handsE := ok_refuse_handsE S_refuse_hands E_BadHands O_rising
  have O_veilE := ok_veilE S_veil B TT E_NoVeil O_refuse_handsE O_back
  have O_met := ok_met S_law_met B E_BadHands E_NoVeil E_VeilError in_BadHands_BadHands in_NoVeil_NoVeil in_NoVeil_BadHands kt_BadHands_VeilError kt_NoVeil_VeilError ec_BadHands kn_BadHands_NoVeil O_veilE
  exact ok_law F_law B TT O_table_by O_cell O_mix O_met O_whole O_law_worth
theorem walk {l : PySem.W.OpenLaw} {q : Program} {loose : List Str} {XP : (Str → Option Value) → Heap → Prop} {YP : World → Heap → Prop} {d : DefRec} {K : Params → PySem.W.Frag} (hn : l.most = some 63) (hdf : d.params.defaults = [])
    (hY : ∀ (w : World) (h : Heap), YP w h → (K w.params).In h)
    (F : ∀ (w : World) (mg : Str → Option Value) (fa : Addr) (h : Heap), (K w.params).In h → h.Ns mainGlobals mg → mg d.name = some (.ref fa) →
      ∃ fd : FuncData, (∀ (s : Shared) (u : Value), BindsTo s fd ⟨[u], []⟩ [("script", u)]) ∧ ∀ base : Heap, (K w.params).In base → base.Ns mainGlobals mg → FnOk l.prog w (K w.params) mg base CX0 5 fa fd ["script"] (spLaw (K w.params))) :
    PySem.W.WalkO q loose XP YP l.row.toRowW d [] (fun f vs => PySem.call f vs) :=
  L2.walk_of (n := 63) (k := 5) (x := "script") (CX := fun _ => CX0) (sp := fun w => spLaw (K w.params)) hn (by decide) hdf ⟨rfl, by decide, by decide⟩ hY F (fun _ _ a ns hl _ hS => ⟨a, ns, rfl, hS, hl, fun _ => rfl⟩) fun _ _ _ _ _ z => z
end Veil
open PySem PySem.W PyProof.Rows
set_option maxRecDepth 100000 in
set_option maxHeartbeats 0 in
theorem PySem.Challenge.cw_veilsum_k16_veils_holds : PySem.Challenge.rw_veilsum_k16_veils.Holds := by
  w_on; o_law; k_head; (case hw => w_witness2)
  k_fill
  refine Veil.walk (l := PySem.Challenge.rw_veilsum_k16_veils) rfl rfl (fun w h Y => PySem.W.kIn_of Y) ?F
  case F =>
    intro w mg fa h KX G hmg
    refine' Veil.all_mk KX G hmg ?a1 ?l1 ?c1 ?k1 ?a2 ?l2 ?c2 ?k2 ?a3 ?l3 ?c3 ?k3 ?a4 ?l4 ?c4 ?k4 ?a5 ?l5 ?c5 ?k5 ?a6 ?l6 ?c6 ?k6 ?a7 ?l7 ?c7 ?k7 ?a8 ?l8 ?c8 ?k8 ?a9 ?l9 ?c9 ?k9 ?a10 ?l10 ?c10 ?k10 ?a11 ?l11 ?c11 ?k11 ?a12 ?l12 ?c12 ?k12 ?aC ?a13 ?i13 ?l13 ?c13 ?k13 ?pg ?hd ?po ?sa ?mk ?kc ?nP ?nH ?nF ?ap ?lp ?vp ?x_VeilError ?o_VeilError ?e_VeilError ?x_BadTable ?o_BadTable ?e_BadTable ?x_Nought ?o_Nought ?e_Nought ?x_BadHands ?o_BadHands ?e_BadHands ?x_NoVeil ?o_NoVeil ?e_NoVeil ?in_VeilError_VeilError ?kt_VeilError_VeilError ?in_VeilError_BadTable ?in_VeilError_Nought ?in_VeilError_BadHands ?in_VeilError_NoVeil ?ec_VeilError ?kn_VeilError_BadTable ?kn_VeilError_Nought ?kn_VeilError_BadHands ?kn_VeilError_NoVeil ?kv_VeilError ?in_BadTable_VeilError ?kt_BadTable_VeilError ?in_BadTable_BadTable ?kt_BadTable_BadTable ?in_BadTable_Nought ?in_BadTable_BadHands ?in_BadTable_NoVeil ?ec_BadTable ?kn_BadTable_Nought ?kn_BadTable_BadHands ?kn_BadTable_NoVeil ?kv_BadTable ?in_Nought_VeilError ?kt_Nought_VeilError ?in_Nought_BadTable ?in_Nought_Nought ?kt_Nought_Nought ?in_Nought_BadHands ?in_Nought_NoVeil ?ec_Nought ?kn_Nought_BadTable ?kn_Nought_BadHands ?kn_Nought_NoVeil ?kv_Nought ?in_BadHands_VeilError ?kt_BadHands_VeilError ?in_BadHands_BadTable ?in_BadHands_Nought ?in_BadHands_BadHands ?kt_BadHands_BadHands ?in_BadHands_NoVeil ?ec_BadHands ?kn_BadHands_BadTable ?kn_BadHands_Nought ?kn_BadHands_NoVeil ?kv_BadHands ?in_NoVeil_VeilError ?kt_NoVeil_VeilError ?in_NoVeil_BadTable ?in_NoVeil_Nought ?in_NoVeil_BadHands ?in_NoVeil_NoVeil ?kt_NoVeil_NoVeil ?ec_NoVeil ?kn_NoVeil_BadTable ?kn_NoVeil_Nought ?kn_NoVeil_BadHands ?kv_NoVeil ?z_len ?z_range ?z_isinstance ?z_min ?z_list ?z_int ?z_bool ?z_tuple ?z_reversed ?z_zip ?z_set ?z_all ?z_sum ?z_sorted ?z_enumerate
    (case a1 => k_is)
    (case l1 => k_is)
    (case c1 => k_is)
    (case k1 => k_is)
    (case a2 => k_is)
    (case l2 => k_is)
    (case c2 => k_is)
    (case k2 => k_is)
    (case a3 => k_is)
    (case l3 => k_is)
    (case c3 => k_is)
    (case k3 => k_is)
    (case a4 => k_is)
    (case l4 => k_is)
    (case c4 => k_is)
    (case k4 => k_is)
    (case a5 => k_is)
    (case l5 => k_is)
    (case c5 => k_is)
    (case k5 => k_is)
    (case a6 => k_is)
    (case l6 => k_is)
    (case c6 => k_is)
    (case k6 => k_is)
    (case a7 => k_is)
    (case l7 => k_is)
    (case c7 => k_is)
    (case k7 => k_is)
    (case a8 => k_is)
    (case l8 => k_is)
    (case c8 => k_is)
    (case k8 => k_is)
    (case a9 => k_is)
    (case l9 => k_is)
    (case c9 => k_is)
    (case k9 => k_is)
    (case a10 => k_is)
    (case l10 => k_is)
    (case c10 => k_is)
    (case k10 => k_is)
    (case a11 => k_is)
    (case l11 => k_is)
    (case c11 => k_is)
    (case k11 => k_is)
    (case a12 => k_is)
    (case l12 => k_is)
    (case c12 => k_is)
    (case k12 => k_is)
    (case aC => k_is)
    (case a13 => k_is)
    (case i13 => k_is)
    (case l13 => k_is)
    (case c13 => k_is)
    (case k13 => k_is)
    (case pg => k_is)
    (case hd => k_is)
    (case po => k_is)
    (case sa => k_is)
    (case mk => k_is)
    (case kc => k_is)
    (case nP => k_is)
    (case nH => k_is)
    (case nF => k_is)
    (case ap => k_is)
    (case lp => k_is)
    (case vp => exact (.cons ⟨_, rfl⟩ (.cons ⟨_, rfl⟩ (.cons ⟨_, rfl⟩ (.cons ⟨_, rfl⟩ (.cons ⟨_, rfl⟩ (.cons ⟨_, rfl⟩ (.cons ⟨_, rfl⟩ (.cons ⟨_, rfl⟩ (.cons ⟨_, rfl⟩ .nil))))))))))
    (case x_VeilError => k_is)
    (case o_VeilError => k_is)
    (case e_VeilError => k_exc)
    (case x_BadTable => k_is)
    (case o_BadTable => k_is)
    (case e_BadTable => k_exc)
    (case x_Nought => k_is)
    (case o_Nought => k_is)
    (case e_Nought => k_exc)
    (case x_BadHands => k_is)
    (case o_BadHands => k_is)
    (case e_BadHands => k_exc)
    (case x_NoVeil => k_is)
    (case o_NoVeil => k_is)
    (case e_NoVeil => k_exc)
    (case in_VeilError_VeilError => first | rfl | decide)
    (case kt_VeilError_VeilError => kit_is)
    (case in_VeilError_BadTable => first | rfl | decide)
    (case in_VeilError_Nought => first | rfl | decide)
    (case in_VeilError_BadHands => first | rfl | decide)
    (case in_VeilError_NoVeil => first | rfl | decide)
    (case ec_VeilError => exact ⟨by k_is, by k_is, by k_is, by k_is, by k_is⟩)
    (case kn_VeilError_BadTable => kit_is)
    (case kn_VeilError_Nought => kit_is)
    (case kn_VeilError_BadHands => kit_is)
    (case kn_VeilError_NoVeil => kit_is)
    (case kv_VeilError => kit_is)
    (case in_BadTable_VeilError => first | rfl | decide)
    (case kt_BadTable_VeilError => kit_is)
    (case in_BadTable_BadTable => first | rfl | decide)
    (case kt_BadTable_BadTable => kit_is)
    (case in_BadTable_Nought => first | rfl | decide)
    (case in_BadTable_BadHands => first | rfl | decide)
    (case in_BadTable_NoVeil => first | rfl | decide)
    (case ec_BadTable => exact ⟨by k_is, by k_is, by k_is, by k_is, by k_is⟩)
    (case kn_BadTable_Nought => kit_is)
    (case kn_BadTable_BadHands => kit_is)
    (case kn_BadTable_NoVeil => kit_is)
    (case kv_BadTable => kit_is)
    (case in_Nought_VeilError => first | rfl | decide)
    (case kt_Nought_VeilError => kit_is)
    (case in_Nought_BadTable => first | rfl | decide)
    (case in_Nought_Nought => first | rfl | decide)
    (case kt_Nought_Nought => kit_is)
    (case in_Nought_BadHands => first | rfl | decide)
    (case in_Nought_NoVeil => first | rfl | decide)
    (case ec_Nought => exact ⟨by k_is, by k_is, by k_is, by k_is, by k_is⟩)
    (case kn_Nought_BadTable => kit_is)
    (case kn_Nought_BadHands => kit_is)
    (case kn_Nought_NoVeil => kit_is)
    (case kv_Nought => kit_is)
    (case in_BadHands_VeilError => first | rfl | decide)
    (case kt_BadHands_VeilError => kit_is)
    (case in_BadHands_BadTable => first | rfl | decide)
    (case in_BadHands_Nought => first | rfl | decide)
    (case in_BadHands_BadHands => first | rfl | decide)
    (case kt_BadHands_BadHands => kit_is)
    (case in_BadHands_NoVeil => first | rfl | decide)
    (case ec_BadHands => exact ⟨by k_is, by k_is, by k_is, by k_is, by k_is⟩)
    (case kn_BadHands_BadTable => kit_is)
    (case kn_BadHands_Nought => kit_is)
    (case kn_BadHands_NoVeil => kit_is)
    (case kv_BadHands => kit_is)
    (case in_NoVeil_VeilError => first | rfl | decide)
    (case kt_NoVeil_VeilError => kit_is)
    (case in_NoVeil_BadTable => first | rfl | decide)
    (case in_NoVeil_Nought => first | rfl | decide)
    (case in_NoVeil_BadHands => first | rfl | decide)
    (case in_NoVeil_NoVeil => first | rfl | decide)
    (case kt_NoVeil_NoVeil => kit_is)
    (case ec_NoVeil => exact ⟨by k_is, by k_is, by k_is, by k_is, by k_is⟩)
    (case kn_NoVeil_BadTable => kit_is)
    (case kn_NoVeil_Nought => kit_is)
    (case kn_NoVeil_BadHands => kit_is)
    (case kv_NoVeil => kit_is)
    (case z_len => k_is)
    (case z_range => k_is)
    (case z_isinstance => k_is)
    (case z_min => k_is)
    (case z_list => k_is)
    (case z_int => k_is)
    (case z_bool => k_is)
    (case z_tuple => k_is)
    (case z_reversed => k_is)
    (case z_zip => k_is)
    (case z_set => k_is)
    (case z_all => k_is)
    (case z_sum => k_is)
    (case z_sorted => k_is)
    (case z_enumerate => k_is)
#print axioms PySem.Challenge.cw_veilsum_k16_veils_holds
