import PyProof.Rows.All
import Wide.All
import OpenK.AllK
import Wide.FinOn
import Lean
import PyProof.EqAt
import PyProof.EqKinds
import PyProof.TupleCall
import PySem.Challenge.RW_veilsum_k09_whole_mended_or_not
set_option Elab.async false
set_option linter.all false
set_option maxRecDepth 100000
/-! THE HAND LAYER, for ints, bools, texts, own classes, LISTS and tuples (index, slices, in, append, pop ..), calls, loops. Paste it whole ahead of your own text; what your proof does not reach may be deleted. -/
namespace L2
open PySem PySem.Spec PyProof.Rows

/-- a key: an int or a str -/
abbrev Key := Sum Int Str
def keyIs : Key → Value → Bool
  | .inl k, v => Value.isInt k v
  | .inr x, v => Value.isStrOf x v
def keyH (w : World) : Key → Int
  | .inl k => hashInt k
  | .inr x => hashStr w x
theorem keyIs_shape : ∀ {k : Key} {v : Value}, keyIs k v = true → (∃ i t, k = Sum.inl i ∧ v = Value.int i t) ∨ (∃ x t, k = Sum.inr x ∧ v = Value.str x t)
  | .inl i, v, h => by
    obtain ⟨t, e⟩ := Value.isInt_shape (k := i) (v := v) h
    exact .inl ⟨i, t, rfl, e⟩
  | .inr x, v, h => by
    obtain ⟨t, e⟩ := Value.isStrOf_shape (x := x) (v := v) h
    exact .inr ⟨x, t, rfl, e⟩
theorem keyIs_int (i : Int) (t : Tok) : keyIs (.inl i) (.int i t) = true := by simp [keyIs, Value.isInt]
theorem keyIs_str (x : Str) (t : Tok) : keyIs (.inr x) (.str x t) = true := by simp [keyIs, Value.isStrOf]
theorem key_ll (a b : Int) : decide ((Sum.inl a : Key) = Sum.inl b) = (a == b) := by
  by_cases e : a = b
  · subst e; simp
  · have h : ¬ (Sum.inl a : Key) = Sum.inl b := fun q => e (Sum.inl.inj q)
    rw [decide_eq_false h]
    exact (beq_eq_false_iff_ne.mpr e).symm
theorem key_rr (a b : Str) : decide ((Sum.inr a : Key) = Sum.inr b) = decide (a = b) := by
  by_cases e : a = b
  · subst e; simp
  · have h : ¬ (Sum.inr a : Key) = Sum.inr b := fun q => e (Sum.inr.inj q)
    rw [decide_eq_false h, decide_eq_false e]
theorem key_lr (a : Int) (b : Str) : decide ((Sum.inl a : Key) = Sum.inr b) = false := decide_eq_false (fun q => nomatch q)
theorem key_rl (a : Str) (b : Int) : decide ((Sum.inr a : Key) = Sum.inl b) = false := decide_eq_false (fun q => nomatch q)

def mixKind (prog : Program) (w : World) : PySem.KeyKind prog w Key where
  is := keyIs
  hash := keyH w
  inj := fun v a b ha hb => by
    rcases keyIs_shape ha with ⟨i, t, rfl, rfl⟩ | ⟨x, t, rfl, rfl⟩
    · rcases keyIs_shape hb with ⟨j, u, rfl, e⟩ | ⟨y, u, rfl, e⟩
      · injection e with e1 _; rw [e1]
      · exact nomatch e
    · rcases keyIs_shape hb with ⟨j, u, rfl, e⟩ | ⟨y, u, rfl, e⟩
      · exact nomatch e
      · injection e with e1 _; rw [e1]
  byValue := fun k v h => by
    rcases keyIs_shape h with ⟨i, t, rfl, rfl⟩ | ⟨x, t, rfl, rfl⟩ <;> rfl
  pyHash := fun hv h => by
    rcases keyIs_shape hv with ⟨i, t, rfl, rfl⟩ | ⟨x, t, rfl, rfl⟩
    · exact wpAny_pyHash_int h
    · exact wpAny_pyHash_str h
  eqBool := fun hu hv h => by
    rcases keyIs_shape hu with ⟨i, t, rfl, rfl⟩ | ⟨x, t, rfl, rfl⟩
    · rcases keyIs_shape hv with ⟨j, u, rfl, rfl⟩ | ⟨y, u, rfl, rfl⟩
      · rw [key_ll] at h; exact wpAny_eqBool_int h
      · rw [key_lr] at h; exact SeqAt.EqAt.int_str i t y u _ _ _ _ h
    · rcases keyIs_shape hv with ⟨j, u, rfl, rfl⟩ | ⟨y, u, rfl, rfl⟩
      · rw [key_rl] at h; exact SeqAt.EqAt.str_int x t j u _ _ _ _ h
      · rw [key_rr] at h; exact wpAny_eqBool_str h
  «strs» := fun k x t v h => by
    rcases keyIs_shape h with ⟨i, u, rfl, e⟩ | ⟨y, u, rfl, e⟩
    · exact nomatch e
    · injection e with e1 _
      subst e1
      cases v <;> rfl

theorem mixKind_is (prog : Program) (w : World) (k : Key) (v : Value) : (mixKind prog w).is k v = keyIs k v := rfl
theorem mixKind_int (prog : Program) (w : World) (i : Int) (t : Tok) : (mixKind prog w).is (.inl i) (.int i t) = true := keyIs_int i t
theorem mixKind_str (prog : Program) (w : World) (x : Str) (t : Tok) : (mixKind prog w).is (.inr x) (.str x t) = true := keyIs_str x t
end L2

namespace L2
open PySem PySem.Spec PyProof.Rows

/-- a value, without the heap -/
inductive V where
  | non | bl (b : Bool) | int (i : Int) | str (x : Str) | byt (b : Array UInt8) | flt (b : UInt64) | ref (a : Addr) | ty (n : String)
  deriving DecidableEq

def RelV : V → Value → Prop
  | .non, u => u = Value.none
  | .bl b, u => u = Value.bool b
  | .int i, u => ∃ t, u = Value.int i t
  | .str x, u => ∃ t, u = Value.str x t
  | .byt b, u => ∃ t, u = Value.bytes b t
  | .flt b, u => ∃ t, u = Value.float b t
  | .ref a, u => u = Value.ref a
  | .ty n, u => u = Value.type n

abbrev Vals : List V → List Value → Prop := Paired RelV
theorem Vals.length {xs : List V} {us : List Value} (r : Vals xs us) : xs.length = us.length := Paired.length r
theorem Vals.get : ∀ {xs : List V} {us : List Value} {i : Nat} {x : V}, Vals xs us → xs[i]? = some x → ∃ u, us[i]? = some u ∧ RelV x u
  | _, _, _, _, .nil, e => by simp at e
  | _, _, 0, _, .cons r _, e => by simp at e; subst e; exact ⟨_, rfl, r⟩
  | _, _, i + 1, x, .cons _ t, e => by
    obtain ⟨u, h1, h2⟩ := Vals.get (i := i) (x := x) t (by simpa using e)
    exact ⟨u, by simpa using h1, h2⟩
theorem Vals.set {x : V} {u : Value} (r : RelV x u) : ∀ {xs : List V} {us : List Value} (i : Nat), Vals xs us → Vals (xs.set i x) (us.set i u)
  | _, _, _, .nil => .nil
  | _, _, 0, .cons _ t => .cons r t
  | _, _, i + 1, .cons q t => .cons q (Vals.set r i t)
theorem Vals.append : ∀ {xs ys : List V} {us ws : List Value}, Vals xs us → Vals ys ws → Vals (xs ++ ys) (us ++ ws)
  | _, _, _, _, .nil, s => s
  | _, _, _, _, .cons r t, s => .cons r (Vals.append t s)
theorem Vals.take : ∀ {xs : List V} {us : List Value} (n : Nat), Vals xs us → Vals (xs.take n) (us.take n)
  | _, _, 0, _ => .nil
  | _, _, _ + 1, .nil => .nil
  | _, _, n + 1, .cons r t => .cons r (Vals.take n t)
theorem Vals.drop : ∀ {xs : List V} {us : List Value} (n : Nat), Vals xs us → Vals (xs.drop n) (us.drop n)
  | _, _, 0, r => r
  | _, _, _ + 1, .nil => .nil
  | _, _, n + 1, .cons _ t => Vals.drop n t
theorem Vals.none_of : ∀ {xs : List V} {us : List Value} {i : Nat}, Vals xs us → xs[i]? = none → us[i]? = none := fun {xs us i} r e => by
  have h1 := r.length
  have h2 : xs.length ≤ i := List.getElem?_eq_none_iff.mp e
  exact List.getElem?_eq_none_iff.mpr (by omega)

def RelO : Option V → Option Value → Prop
  | some v, some u => RelV v u
  | none, none => True
  | _, _ => False
def KV {κ : Type} : List (κ × V) → List (κ × Value) → Prop := Paired fun (p : κ × V) (q : κ × Value) => p.1 = q.1 ∧ RelV p.2 q.2

/-- a key of a dict (00_mix): an int or a text -/
def kV : Key → V
  | .inl i => .int i
  | .inr x => .str x

/-- what stands at a tracked address -/
inductive HO where
  /-- a list -/
  | lst (xs : List V)
  /-- a tuple (never changes) -/
  | tup (xs : List V)
  /-- a dict whose keys are ints and texts; one whose keys are tuples of ints and texts (the empty one is both) -/
  | dK (kvs : List (Key × V)) | dT (kvs : List (List Key × V))
  /-- a set of ints: its members, its size -/
  | set (S : Int → Bool) (n : Nat)
  /-- an instance of the class at C, its dict at dx, its attributes -/
  | ins (C dx : Addr) (fs : List (Str × V))
  /-- the dict of the instance at x -/
  | own (x : Addr)
  /-- the dict of an exception -/
  | xd (fs : List (Str × V))
  /-- a bound method, f of x -/
  | met (f x : Addr)
  /-- a range object lo, lo + 1, .. below hi -/
  | rng (lo hi : Int)
  /-- a thing that is known to the object (the script; a dict while a loop walks it): read, never written while it is so -/
  | frz (o : Obj) (u : HO)
  /-- a code object's table -/
  | tbl (ps : Array Value)
  /-- any other thing, by what is true of its one object (a def of one's own: SetO a S n := HO.ext fun h => ..) -/
  | ext (φ : Heap → Prop)

abbrev Hp := Addr → Option HO
def upd (H : Hp) (a : Addr) (o : HO) : Hp := fun b => if b = a then some o else H b
theorem upd_same {H : Hp} {a : Addr} {o : HO} : upd H a o a = some o := by unfold upd; rw [if_pos rfl]
theorem upd_ne {H : Hp} {a b : Addr} {o : HO} (h : b ≠ a) : upd H a o b = H b := by unfold upd; rw [if_neg h]
theorem upd_upd {H : Hp} {a : Addr} {o u : HO} : upd (upd H a o) a u = upd H a u := by
  funext b; unfold upd; split <;> rfl
/-- two objects of different content stand apart -/
theorem ne_of {H : Hp} {a b : Addr} {o u : HO} (h : H a = some o) (h' : H b = some u) (d : o ≠ u) : a ≠ b := by
  intro e; subst e; rw [h] at h'; exact d (Option.some.inj h')
theorem ne_of_none {H : Hp} {a b : Addr} {o : HO} (h : H a = some o) (h' : H b = none) : a ≠ b := by
  intro e; subst e; rw [h] at h'; cases h'

section
variable (P : Program) (w : World)
def ObjOk (H : Hp) (h : Heap) (a : Addr) : HO → Prop
  | .lst xs => xs.length ≤ sizeLine ∧ ∃ (its : List Value) (n : Nat), Vals xs its ∧ h.get? a = some { cls := .type "list", data := .seq its.toArray n }
  | .tup xs => xs.length ≤ sizeLine ∧ ∃ its : List Value, Vals xs its ∧ IsTup h a its.toArray
  | .dK kvs => kvs.length ≤ sizeLine ∧ (a == sysModules) = false ∧ ∃ vs, KV kvs vs ∧ h.DictOf (mixKind P w) a vs
  | .dT kvs => kvs.length ≤ sizeLine ∧ (a == sysModules) = false ∧ ∃ xs : List (List Key × Addr × Value),
      Paired (fun (p : List Key × V) (q : List Key × Addr × Value) => p.1 = q.1 ∧ H q.2.1 = some (.tup (p.1.map kV)) ∧ RelV p.2 q.2.2) kvs xs ∧
      ∃ o es ep, h.get? a = some o ∧ o.ExactDict ∧ o.data = .dict es ep ∧ es.toList = xs.map (entryOfKey (tupleKind (mixKind P w))) ∧ (xs.map (·.1)).Nodup
  | .set S n => h.SetOf (intKind P w) a S n
  | .ins C dx fs => H dx = some (.own a) ∧ fs.length ≤ 1000 ∧ dx ≠ a ∧ h.get? a = some (PySem.W.instObj C dx) ∧
      ∃ mA, h.Ns1 dx mA ∧ (∀ f, RelO (fs.lookup f) (mA f)) ∧ PySem.Within mA (fs.map (·.1))
  | .own _ => ∃ o, h.get? a = some o
  | .xd fs => ∃ mA, h.Ns1 a mA ∧ ∀ f, RelO (fs.lookup f) (mA f)
  | .rng lo hi => ∃ t u v, h.get? a = some { cls := .type "range", data := .fields #[.int lo t, .int hi u, .int 1 v] }
  | .frz o u => h.get? a = some o ∧ ObjOk H h a u
  | .tbl ps => h.get? a = some { cls := .none, data := .fields ps }
  | .met f x => h.get? a = some (PySem.W.methodObj (.ref f) (.ref x))
  | .ext φ => φ h ∧ (∃ o, h.get? a = some o) ∧ ∀ h1 h2 : Heap, φ h1 → (∀ o, h1.get? a = some o → h2.get? a = some o) → φ h2
/-- the abstract heap is held -/
def HOk (H : Hp) (h : Heap) : Prop := ∀ a o, H a = some o → ObjOk P w H h a o
end

section
variable {P : Program} {w : World} {H H' : Hp} {h h' : Heap} {a : Addr} {o : HO}
theorem ObjOk.lt (x : ObjOk P w H h a o) : a < h.objs.size := by
  cases o with
  | lst xs => obtain ⟨_, _, _, _, e⟩ := x; exact Heap.lt_size e
  | tup xs => obtain ⟨_, _, _, p⟩ := x; exact p.lt
  | dK kvs => obtain ⟨_, _, _, _, o, _, _, e, _⟩ := x; exact Heap.lt_size e
  | dT kvs => obtain ⟨_, _, _, _, o, _, _, e, _⟩ := x; exact Heap.lt_size e
  | set S n => obtain ⟨o, _, _, _, e, _⟩ := x; exact Heap.lt_size e
  | ins C dx fs => obtain ⟨_, _, _, e, _⟩ := x; exact Heap.lt_size e
  | own y => obtain ⟨_, e⟩ := x; exact Heap.lt_size e
  | xd fs => obtain ⟨_, ⟨_, _, _, e, _⟩, _⟩ := x; exact Heap.lt_size e
  | rng lo hi => obtain ⟨_, _, _, e⟩ := x; exact Heap.lt_size e
  | frz ob u => obtain ⟨e, _⟩ := x; exact Heap.lt_size e
  | tbl ps => exact Heap.lt_size (show h.get? a = some _ from x)
  | met f y => exact Heap.lt_size (show h.get? a = some _ from x)
  | ext φ => obtain ⟨_, ⟨_, e⟩, _⟩ := x; exact Heap.lt_size e
theorem Paired.mapP {α β : Type} {F G : α → β → Prop} : ∀ {l₁ : List α} {l₂ : List β}, Paired F l₁ l₂ → (∀ a b, F a b → G a b) → Paired G l₁ l₂
  | _, _, .nil, _ => .nil
  | _, _, .cons r t, f => .cons (f _ _ r) (Paired.mapP t f)
theorem Paired.imp' {α β : Type} {F G : α → β → Prop} (f : ∀ a b, F a b → G a b) {l₁ : List α} {l₂ : List β} (r : Paired F l₁ l₂) : Paired G l₁ l₂ := Paired.mapP r f
/-- what an object's description leans on: its own object, its own dict, the tuples -/
theorem ObjOk.stay (x : ObjOk P w H h a o) (k : ∀ b u, (b = a ∨ H b = some (.own a)) → h.get? b = some u → h'.get? b = some u)
    (ho : ∀ b, H b = some (.own a) → H' b = some (.own a)) (ht : ∀ b xs, H b = some (.tup xs) → H' b = some (.tup xs)) : ObjOk P w H' h' a o := by
  induction o with
  | lst xs => obtain ⟨z, its, n, r, e⟩ := x; exact ⟨z, its, n, r, k _ _ (.inl rfl) e⟩
  | tup xs => obtain ⟨z, its, r, ob, e, c⟩ := x; exact ⟨z, its, r, ob, k _ _ (.inl rfl) e, c⟩
  | dK kvs => obtain ⟨z, y, vs, r, ob, es, ep, e, c⟩ := x; exact ⟨z, y, vs, r, ob, es, ep, k _ _ (.inl rfl) e, c⟩
  | dT kvs =>
    obtain ⟨z, y, xs, r, ob, es, ep, e, c⟩ := x
    exact ⟨z, y, xs, Paired.mapP r fun p q z => ⟨z.1, ht _ _ z.2.1, z.2.2⟩, ob, es, ep, k _ _ (.inl rfl) e, c⟩
  | set S n => obtain ⟨ob, es, ep, t, e, c⟩ := x; exact ⟨ob, es, ep, t, k _ _ (.inl rfl) e, c⟩
  | ins C dx fs =>
    obtain ⟨d, z, ne, e, mA, ⟨od, es, ep, e2, c⟩, r⟩ := x
    exact ⟨ho _ d, z, ne, k _ _ (.inl rfl) e, mA, ⟨od, es, ep, k _ _ (.inr d) e2, c⟩, r⟩
  | own y => obtain ⟨ob, e⟩ := x; exact ⟨ob, k _ _ (.inl rfl) e⟩
  | xd fs => obtain ⟨mA, ⟨od, es, ep, e, c⟩, r⟩ := x; exact ⟨mA, ⟨od, es, ep, k _ _ (.inl rfl) e, c⟩, r⟩
  | rng lo hi => obtain ⟨t, u, v, e⟩ := x; exact ⟨t, u, v, k _ _ (.inl rfl) e⟩
  | frz ob u ih => obtain ⟨e, q⟩ := x; exact ⟨k _ _ (.inl rfl) e, ih q⟩
  | tbl ps =>
    have e : h.get? a = some { cls := .none, data := .fields ps } := x
    show h'.get? a = some { cls := .none, data := .fields ps }
    exact k a _ (.inl rfl) e
  | met f y =>
    have e : h.get? a = some (PySem.W.methodObj (.ref f) (.ref y)) := x
    show h'.get? a = some (PySem.W.methodObj (.ref f) (.ref y))
    exact k a _ (.inl rfl) e
  | ext φ => obtain ⟨p, ⟨o, e⟩, st⟩ := x; exact ⟨st _ _ p fun o q => k _ _ (.inl rfl) q, ⟨o, k _ _ (.inl rfl) e⟩, st⟩
theorem HOk.lt (x : HOk P w H h) (e : H a = some o) : a < h.objs.size := (x a o e).lt
theorem HOk.fresh (x : HOk P w H h) (e : h.objs.size ≤ a) : H a = none := by
  cases q : H a with
  | none => rfl
  | some u => exact absurd (Nat.lt_of_lt_of_le (x.lt q) e) (Nat.lt_irrefl _)
/-- every object of the heap is kept -/
theorem HOk.kept (x : HOk P w H h) (k : ∀ b u, h.get? b = some u → h'.get? b = some u) : HOk P w H h' := fun a o e =>
  (x a o e).stay (fun b u _ q => k b u q) (fun _ q => q) fun _ _ q => q
/-- a new object is laid and tracked -/
theorem HOk.laid (x : HOk P w H h) (k : ∀ b u, h.get? b = some u → h'.get? b = some u) (hp : h.objs.size ≤ a) (new : ObjOk P w (upd H a o) h' a o) : HOk P w (upd H a o) h' := fun b u e => by
  have hn := x.fresh hp
  by_cases hb : b = a
  · subst hb; rw [upd_same] at e; cases e; exact new
  · rw [upd_ne hb] at e
    exact (x b u e).stay (fun c v _ q => k c v q) (fun c q => by rw [upd_ne (ne_of_none q hn)]; exact q) fun c xs q => by rw [upd_ne (ne_of_none q hn)]; exact q
end

/-- what may be read as u: it is u, or a known u -/
def Rd (H : Hp) (a : Addr) (u : HO) : Prop := H a = some u ∨ ∃ o, H a = some (.frz o u)
theorem Rd.of {H : Hp} {a : Addr} {u : HO} (h : H a = some u) : Rd H a u := .inl h
theorem Rd.ok {P : Program} {w : World} {H : Hp} {h : Heap} {a : Addr} {u : HO} (r : Rd H a u) (x : HOk P w H h) : ObjOk P w H h a u := by
  rcases r with r | ⟨o, r⟩
  · exact x a u r
  · obtain ⟨_, q⟩ := x a _ r
    exact q
/-- what may be written -/
def Mut : Option HO → Prop
  | some (.lst _) => True
  | some (.dK _) => True
  | some (.dT _) => True
  | some (.set _ _) => True
  | some (.ins _ _ _) => True
  | some (.ext _) => True
  | _ => False
section
variable {P : Program} {w : World} {H : Hp} {h h' : Heap} {x e : Addr} {o' : HO}
/-- the object at e is changed: x itself, or the dict of the instance x -/
theorem HOk.write (ok : HOk P w H h) (mu : Mut (H x)) (he : e = x ∨ H e = some (.own x)) (k : ∀ b u, b ≠ e → h.get? b = some u → h'.get? b = some u) (heo : ∃ u, h'.get? e = some u)
    (new : ObjOk P w (upd H x o') h' x o') : HOk P w (upd H x o') h' := fun b u q => by
  have nown : ∀ c y, H c = some (.own y) → c ≠ x := fun c y r z => by subst z; rw [r] at mu; exact mu
  have ntup : ∀ c xs, H c = some (.tup xs) → c ≠ x := fun c xs r z => by subst z; rw [r] at mu; exact mu
  by_cases hb : b = x
  · subst hb; rw [upd_same] at q; cases q; exact new
  · rw [upd_ne hb] at q
    by_cases hbe : b = e
    · have q' : H b = some (.own x) := by
        rcases he with z | z
        · exact absurd (hbe.trans z) hb
        · rw [hbe]; exact z
      rw [q] at q'; cases q'
      obtain ⟨v, hv⟩ := heo
      exact ⟨v, by rw [hbe]; exact hv⟩
    · refine (ok b u q).stay (fun c v hc r => k c v ?_ r) (fun c r => by rw [upd_ne (nown c b r)]; exact r) fun c xs r => by rw [upd_ne (ntup c xs r)]; exact r
      rcases hc with rfl | hc
      · exact hbe
      · rintro rfl
        rcases he with z | z
        · exact nown c b hc z
        · rw [hc] at z; cases z; exact hb rfl
end

/-! ### kept unless tracked; of the frames at fs (the callers') the slots may change (an exception that passes writes there); of the records at ex (iterators) nothing is said -/
structure Un (fs ex : List Addr) (H H' : Hp) (h h' : Heap) : Prop where
  keep : ∀ b o, h.get? b = some o → H b = none → b ∉ fs → b ∉ ex → h'.get? b = some o
  slot : ∀ b o, h.get? b = some o → H b = none → b ∈ fs → b ∉ ex → ∃ sl, h'.get? b = some { o with slots := sl }
  free : ∀ b o, h.get? b = some o → H b = none → b ∉ ex → H' b = none
  there : ∀ b o, h.get? b = some o → b ∉ ex → ∃ o', h'.get? b = some o'
  tups : ∀ b xs, H b = some (.tup xs) → H' b = some (.tup xs)
  frzs : ∀ b o u, H b = some (.frz o u) → H' b = some (.frz o u)
  tbls : ∀ b ps, H b = some (.tbl ps) → ∃ more, H' b = some (.tbl (ps ++ more))
section
variable {fs fs' ex ex' : List Addr} {H H1 H2 : Hp} {h h1 h2 h' : Heap} {a x e : Addr} {o : HO}
theorem Un.any (u : Un fs ex H H1 h h1) {b : Addr} {ob : Obj} (q : h.get? b = some ob) (n : H b = none) (hx : b ∉ ex) : ∃ sl, h1.get? b = some { ob with slots := sl } := by
  by_cases hb : b ∈ fs
  · exact u.slot b ob q n hb hx
  · exact ⟨ob.slots, u.keep b ob q n hb hx⟩
theorem Un.trans (a : Un fs ex H H1 h h1) (b : Un fs ex H1 H2 h1 h2) : Un fs ex H H2 h h2 where
  keep := fun c ob q n hc hx => b.keep c ob (a.keep c ob q n hc hx) (a.free c ob q n hx) hc hx
  slot := fun c ob q n hc hx => by
    obtain ⟨sl, e1⟩ := a.slot c ob q n hc hx
    obtain ⟨sl', e2⟩ := b.slot c _ e1 (a.free c ob q n hx) hc hx
    exact ⟨sl', e2⟩
  free := fun c ob q n hx => by
    obtain ⟨o', e1⟩ := a.there c ob q hx
    exact b.free c o' e1 (a.free c ob q n hx) hx
  there := fun c ob q hx => by
    obtain ⟨o', e1⟩ := a.there c ob q hx
    exact b.there c o' e1 hx
  tups := fun c xs q => b.tups c xs (a.tups c xs q)
  frzs := fun c ob xs q => b.frzs c ob xs (a.frzs c ob xs q)
  tbls := fun c ps q => by
    obtain ⟨m1, e1⟩ := a.tbls c ps q
    obtain ⟨m2, e2⟩ := b.tbls c _ e1
    exact ⟨m1 ++ m2, by rw [e2, Array.append_assoc]⟩
theorem Un.kept (k : ∀ b u, h.get? b = some u → h'.get? b = some u) : Un fs ex H H h h' :=
  ⟨fun b ob q _ _ _ => k b ob q, fun b ob q _ _ _ => ⟨ob.slots, k b ob q⟩, fun _ _ _ n _ => n, fun b ob q _ => ⟨ob, k b ob q⟩, fun _ _ q => q, fun _ _ _ q => q, fun _ ps q => ⟨#[], by rw [q]; simp⟩⟩
theorem Un.refl : Un fs ex H H h h := Un.kept fun _ _ q => q
theorem Un.laid (k : ∀ b u, h.get? b = some u → h'.get? b = some u) (hp : h.objs.size ≤ a) (hn : H a = none) : Un fs ex H (upd H a o) h h' where
  keep := fun b u q _ _ _ => k b u q
  slot := fun b u q _ _ _ => ⟨u.slots, k b u q⟩
  free := fun b u q n _ => by rw [upd_ne (Nat.ne_of_lt (Nat.lt_of_lt_of_le (Heap.lt_size q) hp))]; exact n
  there := fun b u q _ => ⟨u, k b u q⟩
  tups := fun b xs q => by rw [upd_ne (ne_of_none q hn)]; exact q
  frzs := fun b u xs q => by rw [upd_ne (ne_of_none q hn)]; exact q
  tbls := fun b ps q => ⟨#[], by rw [upd_ne (ne_of_none q hn), q]; simp⟩
theorem Un.write (mu : Mut (H x)) (he : e = x ∨ H e = some (.own x)) (k : ∀ b u, b ≠ e → h.get? b = some u → h'.get? b = some u) (heo : ∃ u, h'.get? e = some u) : Un fs ex H (upd H x o) h h' := by
  have hx : ∀ b, H b = none → b ≠ x := fun b n z => by subst z; rw [n] at mu; exact mu
  have hb : ∀ b, H b = none → b ≠ e := fun b n z => by
    subst z
    rcases he with r | r
    · exact hx b n r
    · rw [n] at r; cases r
  have hm : ∀ b u, H b = some u → ¬ Mut (some u) → b ≠ x := fun b u q nm z => by subst z; rw [q] at mu; exact nm mu
  refine ⟨fun b u q n _ _ => k b u (hb b n) q, fun b u q n _ _ => ⟨u.slots, k b u (hb b n) q⟩, fun b u q n _ => by rw [upd_ne (hx b n)]; exact n, fun b u q _ => ?_,
    fun b xs q => by rw [upd_ne (hm b _ q fun z => z)]; exact q, fun b u xs q => by rw [upd_ne (hm b _ q fun z => z)]; exact q, fun b ps q => ⟨#[], by rw [upd_ne (hm b _ q fun z => z), q]; simp⟩⟩
  by_cases hbe : b = e
  · subst hbe; exact heo
  · exact ⟨u, k b u hbe q⟩
theorem Un.mono (u : Un fs ex H H1 h h1) (hs : ∀ b ∈ fs, b ∈ fs') (hx : ∀ b ∈ ex, b ∈ ex') : Un fs' ex' H H1 h h1 :=
  ⟨fun b ob q n hb he => u.keep b ob q n (fun z => hb (hs b z)) fun z => he (hx b z), fun _ _ q n _ he => u.any q n fun z => he (hx _ z), fun b ob q n he => u.free b ob q n fun z => he (hx b z), fun b ob q he => u.there b ob q fun z => he (hx b z), u.tups, u.frzs, u.tbls⟩
end

/-! ### the heap without what is tracked -/
def trk (h : Heap) (H : Hp) : List Addr := (List.range h.objs.size).filter fun a => (H a).isSome
def hidT (h : Heap) (H : Hp) : Heap := PySem.W.hideAll h (trk h H)
theorem hidT_size (h : Heap) (H : Hp) : (hidT h H).objs.size = h.objs.size := PySem.W.hideAll_size _ _
theorem hidT_get {h : Heap} {H : Hp} {b : Addr} {o : Obj} (e : h.get? b = some o) (n : H b = none) : (hidT h H).get? b = some o :=
  PySem.W.hideAll_get _ e fun hm => by
    have q : (H b).isSome = true := (List.mem_filter.mp hm).2
    rw [n] at q; simp at q
theorem of_hidT {h : Heap} {H : Hp} {b : Addr} {o : Obj} (e : (hidT h H).get? b = some o) : h.get? b = some o ∧ H b = none := by
  have e' : h.get? b = some o := PySem.W.of_hideAll (trk h H) e
  refine ⟨e', ?_⟩
  cases q : H b with
  | none => rfl
  | some x =>
    have hm : b ∈ trk h H := List.mem_filter.mpr ⟨List.mem_range.mpr (Heap.lt_size e'), by simp [q]⟩
    have z : (hidT h H).get? b = none := PySem.W.hideAll_none (trk h H) hm
    rw [z] at e; cases e

/-! ### OpenK's ledger, filled with every new object but one -/
def allNews (g h : Heap) (L : Addr) : List (Addr × Obj) := (List.range h.objs.size).filterMap fun a => if a = L ∨ (g.get? a).isSome = true then none else (h.get? a).map fun o => (a, o)
theorem mem_allNews {g h : Heap} {L a : Addr} {o : Obj} (h1 : a ≠ L) (h2 : g.get? a = none) (h3 : h.get? a = some o) : (a, o) ∈ allNews g h L :=
  List.mem_filterMap.mpr ⟨a, List.mem_range.mpr (Heap.lt_size h3), by simp [h1, h2, h3]⟩
theorem of_mem_allNews {g h : Heap} {L : Addr} {p : Addr × Obj} (hp : p ∈ allNews g h L) : p.1 ≠ L ∧ g.get? p.1 = none ∧ h.get? p.1 = some p.2 := by
  obtain ⟨b, _, e⟩ := List.mem_filterMap.mp hp
  split at e
  · cases e
  · rename_i hn
    cases q : h.get? b with
    | none => rw [q] at e; simp at e
    | some u =>
      rw [q] at e
      simp only [Option.map_some, Option.some.injEq] at e
      subst e
      refine ⟨fun z => hn (.inl z), ?_, q⟩
      show g.get? b = none
      cases r : g.get? b with
      | none => rfl
      | some v => exact (hn (.inr (by simp [r]))).elim
def rest (g h : Heap) (L d : Addr) : List (Addr × Obj) := (allNews g h L).filter fun p => decide (p.1 ≠ d)
theorem rest_ne {g h : Heap} {L d : Addr} : ∀ p ∈ rest g h L d, p.1 ≠ d := fun p hp => of_decide_eq_true (List.mem_filter.mp hp).2
theorem mem_rest {g h : Heap} {L d a : Addr} {o : Obj} (h1 : a ≠ L) (h2 : g.get? a = none) (h3 : h.get? a = some o) (h4 : a ≠ d) : (a, o) ∈ rest g h L d :=
  List.mem_filter.mpr ⟨mem_allNews h1 h2 h3, decide_eq_true h4⟩
theorem news_all {g h : Heap} {L : Addr} : News g L h (allNews g h L) := fun p hp => let ⟨a, b, c⟩ := of_mem_allNews hp; ⟨c, a, b⟩
theorem news_at {g h : Heap} {L d : Addr} {o : Obj} (h1 : d ≠ L) (h2 : g.get? d = none) (h3 : h.get? d = some o) : News g L h ((d, o) :: rest g h L d) := fun p hp => by
  rcases List.mem_cons.mp hp with rfl | hp
  · exact ⟨h3, h1, h2⟩
  · exact news_all p (List.mem_filter.mp hp).1
/-- behind a rule that changed d alone: all else but the frame is kept -/
theorem kept_of_news {g h h' : Heap} {L d : Addr} {m : Str → Option Value} (k : ∀ b o, g.get? b = some o → h.get? b = some o) (F : Fr g L h' m) (N : News g L h' (rest g h L d)) :
    ∀ b o, b ≠ L → b ≠ d → h.get? b = some o → h'.get? b = some o := fun b o h1 h2 e => by
  cases q : g.get? b with
  | some u =>
    have := k b u q
    rw [e] at this; cases this
    exact F.keep b _ q
  | none => exact (N (b, o) (mem_rest h1 q e h2)).1
end L2

namespace L2
open PySem PySem.Spec PyProof.Rows

/-- the module's facts, over the base: the heap at the law's entry without what is tracked there -/
structure Mod (K : PySem.W.Frag) (mg : Str → Option Value) (base : Heap) : Prop where
  kin : K.In base
  glob : base.Ns mainGlobals mg
  blt : ∃ mb, base.Ns builtinsNs mb ∧ ∀ x : Str, x ≠ "__name__" → mb x = bootBuiltins x
  nolimit : base.NoLimit

/-- the context: a def's body (or a comprehension's block) running. base: fixed through the whole law; s₀, H₀: the entry; outer: the frames whose slots others may change (a def's callers); stack: all frames that run;
   ex: iterators that were made ahead of the entry and are walked here (a comprehension's); fn: the names whose cells were made at the entry (a def: all; a comprehension's block: its own); calm: not within an except suite; pn: pins that every state bears; xe: what is wanted of an exception that leaves the code -/
structure Cx where
  prog : Program
  w : World
  K : PySem.W.Frag
  mg : Str → Option Value
  base : Heap
  A : Around
  N : List Str
  s₀ : Shared
  H₀ : Hp
  env : Env
  outer : List Env
  stack : List Env
  ex : List Addr
  fn : Str → Bool
  calm : Bool
  pn : List (Addr × Obj)
  xe : Value → Shared → Prop
/-- the callers' frames -/
def frs (l : List Env) : List Addr := l.filterMap (·.frame)
abbrev Cx.fs (X : Cx) : List Addr := frs X.outer

def Vis (sc : Scope) (x : Str) : Prop := sc.names.lookup x = some .local ∨ sc.names.lookup x = some .cell ∨ sc.names.lookup x = some .free
def Loc (sc : Scope) (x : Str) : Prop := sc.names.lookup x = some .local ∨ sc.names.lookup x = some .cell
def Look (env : Env) (h : Heap) (m : Str → Option Value) (x : Str) (u : Value) : Prop :=
  (env.kindOf x = some .local ∧ m x = some u) ∨ ((env.kindOf x = some .cell ∨ env.kindOf x = some .free) ∧ ∃ c, env.cells.lookup x = some c ∧ h.IsCell c (some u))

structure Cx.Ok (X : Cx) : Prop where
  mod : Mod X.K X.mg X.base
  kind : X.env.scope.kind = .function
  glob : X.env.globals = mainGlobals
  blt : X.env.builtins = builtinsNs
  above : X.s₀.heap.objs.size ≤ X.env.locals
  inj : ∀ x y c, X.env.cells.lookup x = some c → X.env.cells.lookup y = some c → x = y
  has : ∀ x, (X.env.kindOf x = some .cell ∨ X.env.kindOf x = some .free) → ∃ c, X.env.cells.lookup x = some c
  cab : ∀ x c, X.fn x = true → X.env.cells.lookup x = some c → X.s₀.heap.objs.size ≤ c
  hd : X.calm = true → X.A.handled = none
  frames : X.A.frames = some X.stack
  stk : X.stack = X.outer ∨ (X.stack = X.env :: X.outer ∧ X.env.frame = some X.env.locals)
  exf : ∀ b ∈ X.ex, b ≠ X.env.locals ∧ ∀ x c, X.env.cells.lookup x = some c → c ≠ b
  bs : ∀ b o, X.base.get? b = some o → X.s₀.heap.get? b = some o ∧ X.H₀ b = none
  bsz : X.base.objs.size ≤ X.s₀.heap.objs.size
  noex : ∀ b o, X.base.get? b = some o → b ∉ X.ex
  exfs : ∀ b ∈ X.ex, b ∉ X.fs
  funs : X.s₀.heap.FunFrames X.base X.outer
  frf : ∀ b ∈ X.fs, X.H₀ b = none

structure Inv (X : Cx) (pins : List (Addr × Obj)) (σ : List (Option V)) (H : Hp) (s : Shared) : Prop where
  ok : X.Ok
  os : s.os = X.s₀.os
  bare : AllBare s.gens
  base : Un X.fs X.ex X.H₀ H X.s₀.heap s.heap
  loc : ∃ m, s.heap.Ns X.env.locals m ∧ ∀ (i : Nat) (x : Str) (v : V), X.N[i]? = some x → σ[i]? = some (some v) → Vis X.env.scope x → ∃ u, RelV v u ∧ Look X.env s.heap m x u
  cell : ∀ x c, X.env.cells.lookup x = some c → ∃ v, s.heap.IsCell c v
  free : H X.env.locals = none
  freeC : ∀ x c, X.env.cells.lookup x = some c → H c = none
  pin : ∀ p ∈ X.pn ++ pins, s.heap.get? p.1 = some p.2 ∧ H p.1 = none ∧ p.1 ≠ X.env.locals ∧ p.1 ∉ X.fs ∧ ∀ v, p.2.data ≠ .cell v
  hok : HOk X.prog X.w H s.heap
  len : σ.length = X.N.length

section
variable {X : Cx} {pins : List (Addr × Obj)} {σ : List (Option V)} {H H' : Hp} {s : Shared} {h' : Heap}

theorem Cx.Ok.nofr (ok : X.Ok) {b : Addr} {o : Obj} (e : X.base.get? b = some o) : b ∉ X.fs := fun hb => by
  have := (ok.funs.mem hb).1
  rw [e] at this; cases this
theorem Inv.bs (I : Inv X pins σ H s) : ∀ b o, X.base.get? b = some o → s.heap.get? b = some o ∧ H b = none := fun b o e =>
  ⟨I.base.keep b o (I.ok.bs b o e).1 (I.ok.bs b o e).2 (I.ok.nofr e) (I.ok.noex b o e), I.base.free b o (I.ok.bs b o e).1 (I.ok.bs b o e).2 (I.ok.noex b o e)⟩
theorem Inv.bk (I : Inv X pins σ H s) : ∀ b o, X.base.get? b = some o → s.heap.get? b = some o := fun b o e => (I.bs b o e).1
theorem Inv.mod (I : Inv X pins σ H s) : Mod X.K X.mg X.base := I.ok.mod
theorem Inv.kIn (I : Inv X pins σ H s) : X.K.In s.heap := I.ok.mod.kin.keeps I.bk
theorem Inv.nolimit (I : Inv X pins σ H s) : s.heap.NoLimit := I.ok.mod.nolimit.keeps I.bk
/-- the frame over the base: for OpenK's rules (K.In X.base is I.mod.kin) -/
theorem Inv.fr (I : Inv X pins σ H s) : ∃ m, Fr X.base X.env.locals s.heap m :=
  let ⟨m, hn, _⟩ := I.loc
  ⟨m, hn, I.bk, Nat.le_trans I.ok.bsz I.ok.above⟩
theorem Inv.lt (I : Inv X pins σ H s) : X.env.locals < s.heap.objs.size := let ⟨_, hn, _⟩ := I.loc; hn.lt
theorem Inv.sz (I : Inv X pins σ H s) : X.s₀.heap.objs.size ≤ s.heap.objs.size := Nat.le_trans I.ok.above (Nat.le_of_lt I.lt)
theorem Inv.nofs (I : Inv X pins σ H s) {a : Addr} (h : s.heap.objs.size ≤ a) : a ∉ X.fs := fun hb => by
  obtain ⟨_, o, ho, _⟩ := I.ok.funs.mem hb
  exact absurd (Nat.lt_of_lt_of_le (Heap.lt_size ho) (Nat.le_trans I.sz h)) (Nat.lt_irrefl _)
theorem Inv.cne (I : Inv X pins σ H s) : ∀ x c, X.env.cells.lookup x = some c → c ≠ X.env.locals := fun x c e z => by
  obtain ⟨v, o, ho, hd⟩ := I.cell x c e
  obtain ⟨m, ⟨o', es, ep, ho', hd', _⟩, _⟩ := I.loc
  rw [z, ho'] at ho; cases ho; rw [hd'] at hd; cases hd
theorem Inv.funs (I : Inv X pins σ H s) : s.heap.FunFrames X.base X.outer := by
  have all : ∀ (l : List Env), (∀ b ∈ frs l, b ∈ X.fs) → X.s₀.heap.FunFrames X.base l → s.heap.FunFrames X.base l := by
    intro l
    induction l with
    | nil => intro _ _; trivial
    | cons env r ih =>
      intro hs hl
      obtain ⟨hk, ⟨L, o, hf, hn, ho, hd⟩, hr⟩ := hl
      have hL : L ∈ X.fs := hs L (by unfold frs; rw [List.filterMap_cons, hf]; exact List.mem_cons_self)
      obtain ⟨sl, e⟩ := I.base.slot L o ho (I.ok.frf L hL) hL fun z => I.ok.exfs L z hL
      exact ⟨hk, ⟨L, _, hf, hn, e, hd⟩, ih (fun b hb => hs b (by unfold frs; rw [List.filterMap_cons, hf]; exact List.mem_cons_of_mem _ hb)) hr⟩
  exact all X.outer (fun _ hb => hb) I.ok.funs

/-- the frames that run, for a call -/
theorem Inv.stack (I : Inv X pins σ H s) : s.heap.FunFrames X.base X.stack := by
  rcases I.ok.stk with e | ⟨e, hf⟩
  · rw [e]; exact I.funs
  · rw [e]
    obtain ⟨m, hn, _⟩ := I.loc
    refine .cons (by rw [I.ok.kind]; decide) hf hn ?_ I.funs
    exact Heap.get?_none_of_le (Nat.le_trans I.ok.bsz I.ok.above)
theorem Inv.stkSub (I : Inv X pins σ H s) : ∀ b ∈ frs X.stack, b ∈ X.env.locals :: X.fs := fun b hb => by
  rcases I.ok.stk with e | ⟨e, hf⟩
  · rw [e] at hb; exact List.mem_cons_of_mem _ hb
  · rw [e] at hb
    unfold frs at hb
    rw [List.filterMap_cons, hf] at hb
    exact hb
theorem Inv.stkFree (I : Inv X pins σ H s) : ∀ b ∈ frs X.stack, H b = none := fun b hb => by
  rcases List.mem_cons.mp (I.stkSub b hb) with e | hb
  · rw [e]; exact I.free
  · obtain ⟨_, o, ho, _⟩ := I.ok.funs.mem hb
    exact I.base.free b o ho (I.ok.frf b hb) fun z => I.ok.exfs b z hb

/-- THE STEP: the untracked objects but the frame and the records at ch are kept (the callers' frames up to slots), the frame's map is kept, the new abstract heap is held -/
theorem Inv.step {g' : Array GenState} {t' : Nat} {d' : Drawn} {ch : List Addr} (I : Inv X pins σ H s)
    (hch : ∀ b ∈ ch, (b ∈ X.ex ∨ X.s₀.heap.objs.size ≤ b) ∧ b ≠ X.env.locals ∧ (∀ x c, X.env.cells.lookup x = some c → c ≠ b) ∧ ∀ p ∈ X.pn ++ pins, p.1 ≠ b)
    (keep : ∀ b o, b ≠ X.env.locals → b ∉ X.fs → b ∉ ch → s.heap.get? b = some o → H b = none → h'.get? b = some o)
    (slot : ∀ b o, b ≠ X.env.locals → b ∈ X.fs → b ∉ ch → s.heap.get? b = some o → H b = none → ∃ sl, h'.get? b = some { o with slots := sl }) (free : ∀ b o, b ∉ ch → s.heap.get? b = some o → H b = none → H' b = none)
    (there : ∀ b o, b ∉ ch → s.heap.get? b = some o → ∃ o', h'.get? b = some o')
    (tups : ∀ b xs, H b = some (.tup xs) → H' b = some (.tup xs)) (frzs : ∀ b o u, H b = some (.frz o u) → H' b = some (.frz o u)) (tbls : ∀ b ps, H b = some (.tbl ps) → ∃ more, H' b = some (.tbl (ps ++ more)))
    (ns : ∀ m, s.heap.Ns X.env.locals m → h'.Ns X.env.locals m) (hok : HOk X.prog X.w H' h') (hg : AllBare g') :
    Inv X pins σ H' { s with heap := h', gens := g', drawn := d', toks := t' } := by
  have neL : ∀ b o, X.s₀.heap.get? b = some o → b ≠ X.env.locals := fun b o e => Nat.ne_of_lt (Nat.lt_of_lt_of_le (Heap.lt_size e) I.ok.above)
  have neC : ∀ b o, X.s₀.heap.get? b = some o → b ∉ X.ex → b ∉ ch := fun b o e hx hb => by
    rcases (hch b hb).1 with z | z
    · exact hx z
    · exact absurd (Nat.lt_of_lt_of_le (Heap.lt_size e) z) (Nat.lt_irrefl _)
  have cellK : ∀ x c, X.env.cells.lookup x = some c → ∀ v, s.heap.IsCell c v → h'.IsCell c v := fun x c e v ⟨o, ho, hd⟩ => by
    have nch : c ∉ ch := fun z => (hch c z).2.2.1 x c e rfl
    by_cases hc : c ∈ X.fs
    · obtain ⟨sl, q⟩ := slot c o (I.cne x c e) hc nch ho (I.freeC x c e)
      exact ⟨_, q, hd⟩
    · exact ⟨o, keep c o (I.cne x c e) hc nch ho (I.freeC x c e), hd⟩
  refine ⟨I.ok, I.os, hg, ⟨fun b o e n hb hx => ?_, fun b o e n hb hx => ?_, fun b o e n hx => ?_, fun b o e hx => ?_, fun b xs e => tups b xs (I.base.tups b xs e), fun b o xs e => frzs b o xs (I.base.frzs b o xs e), fun b ps e => ?_⟩, ?_, fun x c e => ?_, ?_, fun x c e => ?_, fun p hp => ?_, hok, I.len⟩
  · exact keep b o (neL b o e) hb (neC b o e hx) (I.base.keep b o e n hb hx) (I.base.free b o e n hx)
  · obtain ⟨sl, e1⟩ := I.base.slot b o e n hb hx
    obtain ⟨sl', e2⟩ := slot b _ (neL b o e) hb (neC b o e hx) e1 (I.base.free b o e n hx)
    exact ⟨sl', e2⟩
  · obtain ⟨o', e1⟩ := I.base.there b o e hx
    exact free b o' (neC b o e hx) e1 (I.base.free b o e n hx)
  · obtain ⟨o', e1⟩ := I.base.there b o e hx
    exact there b o' (neC b o e hx) e1
  · obtain ⟨m1, e1⟩ := I.base.tbls b ps e
    obtain ⟨m2, e2⟩ := tbls b _ e1
    exact ⟨m1 ++ m2, by rw [e2, Array.append_assoc]⟩
  · obtain ⟨m, hn, hl⟩ := I.loc
    refine ⟨m, ns m hn, fun i x v e1 e2 e3 => ?_⟩
    obtain ⟨u, r, l⟩ := hl i x v e1 e2 e3
    refine ⟨u, r, ?_⟩
    rcases l with l | ⟨k, c, e, z⟩
    · exact .inl l
    · exact .inr ⟨k, c, e, cellK x c e _ z⟩
  · obtain ⟨v, z⟩ := I.cell x c e
    exact ⟨v, cellK x c e v z⟩
  · obtain ⟨m, ⟨o, _, _, ho, _⟩, _⟩ := I.loc
    exact free _ o (fun z => (hch _ z).2.1 rfl) ho I.free
  · obtain ⟨v, o, ho, hd⟩ := I.cell x c e
    exact free c o (fun z => (hch c z).2.2.1 x c e rfl) ho (I.freeC x c e)
  · obtain ⟨e, n, ne, nf, d⟩ := I.pin p hp
    have nch : p.1 ∉ ch := fun z => (hch p.1 z).2.2.2 p hp rfl
    exact ⟨keep p.1 p.2 ne nf nch e n, free p.1 p.2 nch e n, ne, nf, d⟩
/-- .. where the frame's own object is kept too -/
theorem Inv.un {t' : Nat} (I : Inv X pins σ H s) (u : Un X.fs [] H H' s.heap h') (hok : HOk X.prog X.w H' h') : Inv X pins σ H' { s with heap := h', toks := t' } := by
  obtain ⟨m, ⟨o, es, ep, ho, r⟩, _⟩ := id I.loc
  obtain ⟨sl, hL⟩ := u.any ho I.free (by simp)
  exact I.step (g' := s.gens) (d' := s.drawn) (ch := []) (fun _ z => nomatch z) (fun b o _ hb _ e n => u.keep b o e n hb (by simp)) (fun b o _ hb _ e n => u.slot b o e n hb (by simp)) (fun b o _ e n => u.free b o e n (by simp)) (fun b o _ e => u.there b o e (by simp)) u.tups u.frzs u.tbls (fun m' hm => by
    obtain ⟨o', es', ep', ho', r'⟩ := hm
    rw [ho] at ho'; cases ho'
    exact ⟨_, es', ep', hL, r'⟩) hok I.bare
/-- behind a call (or a comprehension's block): the slots of this frame may have changed too, the records at ch may have turned -/
theorem Inv.call {g' : Array GenState} {t' : Nat} {d' : Drawn} {ch : List Addr} (I : Inv X pins σ H s) (u : Un (frs X.stack) ch H H' s.heap h') (hok : HOk X.prog X.w H' h') (hg : AllBare g')
    (hch : ∀ b ∈ ch, (b ∈ X.ex ∨ X.s₀.heap.objs.size ≤ b) ∧ b ≠ X.env.locals ∧ (∀ x c, X.env.cells.lookup x = some c → c ≠ b) ∧ ∀ p ∈ X.pn ++ pins, p.1 ≠ b) :
    Inv X pins σ H' { s with heap := h', gens := g', drawn := d', toks := t' } := by
  obtain ⟨m, ⟨o, es, ep, ho, r⟩, _⟩ := id I.loc
  obtain ⟨sl, hL⟩ := u.any ho I.free fun z => (hch _ z).2.1 rfl
  exact I.step (ch := ch) hch (fun b o hL hb hc e n => u.keep b o e n (fun z => (List.mem_cons.mp (I.stkSub b z)).elim hL hb) hc) (fun b o _ _ hc e n => u.any e n hc) (fun b o hc e n => u.free b o e n hc) (fun b o hc e => u.there b o e hc) u.tups u.frzs u.tbls (fun m' hm => by
    obtain ⟨o', es', ep', ho', r'⟩ := hm
    rw [ho] at ho'; cases ho'
    exact ⟨_, es', ep', hL, r'⟩) hok hg
/-- an untracked record of ours (an iterator) has turned -/
theorem Inv.turned {t' : Nat} {it : Addr} (I : Inv X pins σ H s) (k : ∀ b o, b ≠ it → s.heap.get? b = some o → h'.get? b = some o) (hn : H it = none) (hL : it ≠ X.env.locals)
    (h1 : it ∈ X.ex ∨ X.s₀.heap.objs.size ≤ it) (h2 : ∀ x c, X.env.cells.lookup x = some c → c ≠ it) (h3 : ∀ p ∈ X.pn ++ pins, p.1 ≠ it) : Inv X pins σ H { s with heap := h', toks := t' } := by
  have nit : ∀ b u, H b = some u → b ≠ it := fun b u e z => by rw [z, hn] at e; cases e
  refine I.step (g' := s.gens) (d' := s.drawn) (ch := [it]) (fun b hb => ?_) (fun b o _ _ hc e _ => k b o (fun z => hc (by simp [z])) e) (fun b o _ _ hc e _ => ⟨o.slots, k b o (fun z => hc (by simp [z])) e⟩) (fun _ _ _ _ n => n)
    (fun b o hc e => ⟨o, k b o (fun z => hc (by simp [z])) e⟩) (fun _ _ e => e) (fun _ _ _ e => e) (fun b ps e => ⟨#[], by rw [e]; simp⟩) (fun m hm => ?_) (fun b u e => ?_) I.bare
  · have e : b = it := by simpa using hb
    subst e
    exact ⟨h1, hL, h2, h3⟩
  · obtain ⟨o, es, ep, ho, r⟩ := hm
    exact ⟨o, es, ep, k _ o (Ne.symm hL) ho, r⟩
  · refine (I.hok b u e).stay (fun c v hc q => k c v ?_ q) (fun _ q => q) fun _ _ q => q
    rcases hc with z | z
    · rw [z]; exact nit b u e
    · exact nit c _ z
theorem Inv.tok (I : Inv X pins σ H s) (t : Nat) : Inv X pins σ H { s with toks := t } := I.un (h' := s.heap) (t' := t) Un.refl I.hok
/-- all objects kept -/
theorem Inv.kept {t' : Nat} (I : Inv X pins σ H s) (k : ∀ b u, s.heap.get? b = some u → h'.get? b = some u) : Inv X pins σ H { s with heap := h', toks := t' } := I.un (Un.kept k) (I.hok.kept k)
/-- a new object laid and tracked -/
theorem Inv.laid {a : Addr} {o : HO} {t' : Nat} (I : Inv X pins σ H s) (k : ∀ b u, s.heap.get? b = some u → h'.get? b = some u) (hp : s.heap.objs.size ≤ a) (new : ObjOk X.prog X.w (upd H a o) h' a o) :
    Inv X pins σ (upd H a o) { s with heap := h', toks := t' } := I.un (Un.laid k hp (I.hok.fresh hp)) (I.hok.laid k hp new)
/-- an object written -/
theorem Inv.write {x e : Addr} {o : HO} {t' : Nat} (I : Inv X pins σ H s) (mu : Mut (H x)) (he : e = x ∨ H e = some (.own x)) (k : ∀ b u, b ≠ e → s.heap.get? b = some u → h'.get? b = some u) (heo : ∃ u, h'.get? e = some u)
    (new : ObjOk X.prog X.w (upd H x o) h' x o) : Inv X pins σ (upd H x o) { s with heap := h', toks := t' } := I.un (Un.write mu he k heo) (I.hok.write mu he k heo new)
/-- forgetting slots, pins -/
theorem Inv.weak {σ' : List (Option V)} (I : Inv X pins σ H s) (hl : σ'.length = σ.length) (w : ∀ (i : Nat) v, σ'[i]? = some (some v) → σ[i]? = some (some v)) : Inv X pins σ' H s :=
  ⟨I.ok, I.os, I.bare, I.base, let ⟨m, hn, hl'⟩ := I.loc; ⟨m, hn, fun i x v e1 e2 e3 => hl' i x v e1 (w i v e2) e3⟩, I.cell, I.free, I.freeC, I.pin, I.hok, hl.trans I.len⟩
theorem Inv.pins_of {pins' : List (Addr × Obj)} (I : Inv X pins σ H s) (h : ∀ p ∈ pins', s.heap.get? p.1 = some p.2 ∧ H p.1 = none ∧ p.1 ≠ X.env.locals ∧ p.1 ∉ X.fs ∧ ∀ v, p.2.data ≠ .cell v) : Inv X pins' σ H s :=
  ⟨I.ok, I.os, I.bare, I.base, I.loc, I.cell, I.free, I.freeC, fun p hp => (List.mem_append.mp hp).elim (fun z => I.pin p (List.mem_append_left _ z)) (h p), I.hok, I.len⟩

theorem nodup_ix {N : List Str} (hN : N.Nodup) {i j : Nat} {x : Str} (a : N[i]? = some x) (b : N[j]? = some x) : i = j := by
  obtain ⟨h1, e1⟩ := List.getElem?_eq_some_iff.mp a
  obtain ⟨h2, e2⟩ := List.getElem?_eq_some_iff.mp b
  exact (List.getElem_inj hN).mp (e1.trans e2.symm)

/-- a name is stored; what changed -/
theorem store_ok2 {M : Model} {A : Around} {E : Value → Shared → Prop} {i : Nat} {x : Str} {v : V} {u : Value} {Q : Unit → Shared → Prop} (I : Inv X pins σ H s) (hN : X.N.Nodup) (hi : X.N[i]? = some x) (hx : Loc X.env.scope x) (r : RelV v u)
    (h : ∀ s', Inv X pins (σ.set i (some v)) H s' → (∃ a, Heap.SameBut a s.heap s'.heap ∧ (a = X.env.locals ∨ X.env.cells.lookup x = some a)) → Q () s') (hf : X.fn x = true ∨ X.env.scope.names.lookup x = some .local := by first | exact .inl rfl | exact .inr rfl | assumption) : wpAny M A (storeName X.env x u) Q E s := by
  obtain ⟨m, hn, hl⟩ := id I.loc
  have hcls : (X.env.scope.kind == .class || (X.env.scope.kind == .module && X.env.locals != X.env.globals)) = false := by rw [I.ok.kind]; rfl
  have hiσ : i < σ.length := by rw [I.len]; exact (List.getElem?_eq_some_iff.mp hi).1
  have cne := I.cne
  have tracked : ∀ {a : Addr} {h' : Heap}, (∃ o, s.heap.get? a = some o ∧ H a = none) → Heap.SameBut a s.heap h' → HOk X.prog X.w H h' := fun {a h'} ha hs b ob e => by
    obtain ⟨_, _, hfree⟩ := ha
    refine (I.hok b ob e).stay (fun c w' hc q => (hs.2 c ?_).trans q) (fun _ q => q) fun _ _ q => q
    rintro rfl
    rcases hc with rfl | hc
    · rw [hfree] at e; cases e
    · rw [hfree] at hc; cases hc
  rcases hx with hk | hk
  · refine wpAny_storeName_local hk hn (fun h' hn' hs => ?_) hcls
    obtain ⟨oL, _, _, hoL, _⟩ := id hn
    refine h _ ⟨I.ok, I.os, I.bare, ⟨fun b o e n hb hx => ?_, fun b o e n hb hx => ?_, I.base.free, fun b o e hx => ?_, I.base.tups, I.base.frzs, I.base.tbls⟩, ⟨_, hn', fun j y v' e1 e2 e3 => ?_⟩, fun y c e => ?_, I.free, I.freeC, fun p hp => ?_, tracked ⟨oL, hoL, I.free⟩ hs, by simpa using I.len⟩ ⟨_, hs, .inl rfl⟩
    · exact (hs.2 b (Nat.ne_of_lt (Nat.lt_of_lt_of_le (Heap.lt_size e) I.ok.above))).trans (I.base.keep b o e n hb hx)
    · obtain ⟨sl, e1⟩ := I.base.slot b o e n hb hx
      exact ⟨sl, (hs.2 b (Nat.ne_of_lt (Nat.lt_of_lt_of_le (Heap.lt_size e) I.ok.above))).trans e1⟩
    · obtain ⟨o', e1⟩ := I.base.there b o e hx
      exact ⟨o', (hs.2 b (Nat.ne_of_lt (Nat.lt_of_lt_of_le (Heap.lt_size e) I.ok.above))).trans e1⟩
    · by_cases hj : j = i
      · subst hj
        rw [hi] at e1; cases e1
        rw [List.getElem?_set_self hiσ] at e2
        cases e2
        exact ⟨u, r, .inl ⟨hk, by simp⟩⟩
      · rw [List.getElem?_set_ne (Ne.symm hj)] at e2
        obtain ⟨u', r', q⟩ := hl j y v' e1 e2 e3
        refine ⟨u', r', ?_⟩
        rcases q with ⟨k, e⟩ | ⟨k, c, e, z⟩
        · refine .inl ⟨k, ?_⟩
          have : y ≠ x := fun e => hj (nodup_ix hN e1 (e ▸ hi))
          simp [this, e]
        · exact .inr ⟨k, c, e, z.sameBut hs (cne y c e)⟩
    · obtain ⟨w', z⟩ := I.cell y c e
      exact ⟨w', z.sameBut hs (cne y c e)⟩
    · obtain ⟨e, n, ne, nf, d⟩ := I.pin p hp
      exact ⟨(hs.2 p.1 ne).trans e, n, ne, nf, d⟩
  · have hfn : X.fn x = true := by
      rcases hf with z | z
      · exact z
      · rw [z] at hk; cases hk
    obtain ⟨c, hc⟩ := I.ok.has x (.inl hk)
    obtain ⟨w', z⟩ := I.cell x c hc
    refine wpAny_storeName_cell I.ok.kind hk hc z (fun h' hc' hs => ?_)
    obtain ⟨oc, hoc, hocd⟩ := id z
    refine h { s with heap := h' } ⟨I.ok, I.os, I.bare, ⟨fun b o e n hb hx => ?_, fun b o e n hb hx => ?_, I.base.free, fun b o e hx => ?_, I.base.tups, I.base.frzs, I.base.tbls⟩, ⟨m, hn.sameBut hs (Ne.symm (cne x c hc)), fun j y v' e1 e2 e3 => ?_⟩, fun y c' e => ?_, I.free, I.freeC, fun p hp => ?_, tracked ⟨oc, hoc, I.freeC x c hc⟩ hs, by simpa using I.len⟩ ⟨c, hs, .inr hc⟩
    · exact (hs.2 b (Nat.ne_of_lt (Nat.lt_of_lt_of_le (Heap.lt_size e) (I.ok.cab x c hfn hc)))).trans (I.base.keep b o e n hb hx)
    · obtain ⟨sl, e1⟩ := I.base.slot b o e n hb hx
      exact ⟨sl, (hs.2 b (Nat.ne_of_lt (Nat.lt_of_lt_of_le (Heap.lt_size e) (I.ok.cab x c hfn hc)))).trans e1⟩
    · obtain ⟨o', e1⟩ := I.base.there b o e hx
      exact ⟨o', (hs.2 b (Nat.ne_of_lt (Nat.lt_of_lt_of_le (Heap.lt_size e) (I.ok.cab x c hfn hc)))).trans e1⟩
    · by_cases hj : j = i
      · subst hj
        rw [hi] at e1; cases e1
        rw [List.getElem?_set_self hiσ] at e2
        cases e2
        exact ⟨u, r, .inr ⟨.inl hk, c, hc, hc'⟩⟩
      · rw [List.getElem?_set_ne (Ne.symm hj)] at e2
        obtain ⟨u', r', q⟩ := hl j y v' e1 e2 e3
        refine ⟨u', r', ?_⟩
        rcases q with q | ⟨k, c', e, z'⟩
        · exact .inl q
        · refine .inr ⟨k, c', e, z'.sameBut hs ?_⟩
          rintro rfl
          exact hj (nodup_ix hN e1 (I.ok.inj _ _ _ e hc ▸ hi))
    · by_cases hcc : c' = c
      · subst hcc; exact ⟨_, hc'⟩
      · obtain ⟨w2, z2⟩ := I.cell y c' e
        exact ⟨w2, z2.sameBut hs hcc⟩
    · obtain ⟨e, n, ne, nf, d⟩ := I.pin p hp
      refine ⟨(hs.2 p.1 ?_).trans e, n, ne, nf, d⟩
      intro q
      rw [q, hoc] at e
      have q' : oc = p.2 := Option.some.inj e
      exact d w' (by rw [← q']; exact hocd)
theorem store_ok {M : Model} {A : Around} {E : Value → Shared → Prop} {i : Nat} {x : Str} {v : V} {u : Value} {Q : Unit → Shared → Prop} (I : Inv X pins σ H s) (hN : X.N.Nodup) (hi : X.N[i]? = some x) (hx : Loc X.env.scope x) (r : RelV v u)
    (h : ∀ s', Inv X pins (σ.set i (some v)) H s' → Q () s') (hf : X.fn x = true ∨ X.env.scope.names.lookup x = some .local := by first | exact .inl rfl | exact .inr rfl | assumption) : wpAny M A (storeName X.env x u) Q E s :=
  store_ok2 I hN hi hx r (fun s' I' _ => h s' I') hf
/-- behind a call or a block, the state as it is -/
theorem Inv.call' {s' : Shared} {ch : List Addr} (I : Inv X pins σ H s) (ho : s'.os = s.os) (u : Un (frs X.stack) ch H H' s.heap s'.heap) (hok : HOk X.prog X.w H' s'.heap) (hg : AllBare s'.gens)
    (hch : ∀ b ∈ ch, (b ∈ X.ex ∨ X.s₀.heap.objs.size ≤ b) ∧ b ≠ X.env.locals ∧ (∀ x c, X.env.cells.lookup x = some c → c ≠ b) ∧ ∀ p ∈ X.pn ++ pins, p.1 ≠ b) : Inv X pins σ H' s' := by
  obtain ⟨h', g', d', t', o'⟩ := s'
  have e : o' = s.os := ho
  subst e
  exact I.call (g' := g') (t' := t') (d' := d') u hok hg hch
end

/-! ### the judgements -/
/-- an exception: its class, its own dict's address (where it has one), the abstract heap behind it -/
abbrev XK := Value → Option Addr → Hp → Prop
abbrev St := List (Option V)
abbrev VK := V → Hp → Prop
/-- an expression's reading; a test's; an argument list's -/
abbrev TE := St → Hp → VK → Prop
abbrev TT := St → Hp → (Bool → Hp → Prop) → Prop
abbrev TA := St → Hp → (List V → Hp → Prop) → Prop
/-- what is wanted behind a statement -/
structure Ends where
  nx : St → Hp → Prop
  rt : VK
  bk : St → Hp → Prop := fun _ _ => False
  ct : St → Hp → Prop := fun _ _ => False
abbrev TS := Ends → St → Hp → Prop

def EP (X : Cx) (pins : List (Addr × Obj)) (σ : St) (Q : VK) (u : Value) (s' : Shared) : Prop := ∃ v H', Inv X pins σ H' s' ∧ RelV v u ∧ Q v H'
def TP (X : Cx) (pins : List (Addr × Obj)) (σ : St) (Q : Bool → Hp → Prop) (b : Bool) (s' : Shared) : Prop := ∃ H', Inv X pins σ H' s' ∧ Q b H'
def AP (X : Cx) (pins : List (Addr × Obj)) (σ : St) (Q : List V → Hp → Prop) (us : List Value) (s' : Shared) : Prop := ∃ vs H', Inv X pins σ H' s' ∧ Vals vs us ∧ Q vs H'
def SP (X : Cx) (pins : List (Addr × Obj)) (D : Ends) (f : Flow) (s' : Shared) : Prop :=
  match f with
  | .next => ∃ σ' H', Inv X pins σ' H' s' ∧ D.nx σ' H'
  | .brk => ∃ σ' H', Inv X pins σ' H' s' ∧ D.bk σ' H'
  | .cont => ∃ σ' H', Inv X pins σ' H' s' ∧ D.ct σ' H'
  | .ret u => ∃ v σ' H', Inv X pins σ' H' s' ∧ RelV v u ∧ D.rt v H'

def PE (X : Cx) (e : Expr) (t : TE) : Prop :=
  ∀ (pins : List (Addr × Obj)) (s : Shared) (σ : St) (H : Hp) (Q : VK), Inv X pins σ H s → t σ H Q → wpAny (model X.prog X.w) X.A (eval e X.env) (EP X pins σ Q) X.xe s
def PT (X : Cx) (e : Expr) (t : TT) : Prop :=
  ∀ (pins : List (Addr × Obj)) (s : Shared) (σ : St) (H : Hp) (Q : Bool → Hp → Prop), Inv X pins σ H s → t σ H Q → wpAny (model X.prog X.w) X.A (isTrue e X.env (eval e X.env)) (TP X pins σ Q) X.xe s
/-- a test whatever its 'whole' is (and, or) -/
def PW (X : Cx) (e : Expr) (t : TT) : Prop :=
  ∀ (whole : Sem Value) (pins : List (Addr × Obj)) (s : Shared) (σ : St) (H : Hp) (Q : Bool → Hp → Prop), Inv X pins σ H s → t σ H Q → wpAny (model X.prog X.w) X.A (isTrue e X.env whole) (TP X pins σ Q) X.xe s
theorem PW.pt {X : Cx} {e : Expr} {t : TT} (h : PW X e t) : PT X e t := h _
/-- an argument list (no star), from the left -/
def PA (X : Cx) (es : List Expr) (t : TA) : Prop :=
  ∀ (pos : Pos) (pins : List (Addr × Obj)) (s : Shared) (σ : St) (H : Hp) (Q : List V → Hp → Prop), Inv X pins σ H s → t σ H Q → wpAny (model X.prog X.w) X.A (spliced (backTo pos (starEach es X.env))) (AP X pins σ Q) X.xe s
def PS (X : Cx) (st : Stmt) (t : TS) : Prop :=
  ∀ (pins : List (Addr × Obj)) (s : Shared) (σ : St) (H : Hp) (D : Ends), Inv X pins σ H s → t D σ H → wpAny (model X.prog X.w) X.A (exec st X.env) (SP X pins D) X.xe s
def PSs (X : Cx) (st : List Stmt) (t : TS) : Prop :=
  ∀ (pins : List (Addr × Obj)) (s : Shared) (σ : St) (H : Hp) (D : Ends), Inv X pins σ H s → t D σ H → wpAny (model X.prog X.w) X.A (execs st X.env) (SP X pins D) X.xe s
/-- weaken the end -/
theorem thn {α : Type} {t : Sem α} {Q Q' : α → Shared → Prop} {M : Model} {A : Around} {E : Value → Shared → Prop} {s : Shared} (h : wpAny M A t Q E s) (hQ : ∀ a s, Q a s → Q' a s) : wpAny M A t Q' E s := wpAny_mono h hQ fun _ _ x => x
end L2

namespace L2
open PySem PySem.Spec PyProof.Rows
section
variable {X : Cx}

/-- two expressions in a row -/
theorem bin {a b : Expr} {ta tb : TE} (ha : PE X a ta) (hb : PE X b tb) {pins : List (Addr × Obj)} {s : Shared} {σ : St} {H : Hp} {R : V → V → Hp → Prop} (I : Inv X pins σ H s) (h : ta σ H fun x H1 => tb σ H1 fun y H2 => R x y H2)
    {α : Type} {Q : α → Shared → Prop} {f : Value → Value → Sem α}
    (hf : ∀ v u s2 x y H2, Inv X pins σ H2 s2 → RelV x v → RelV y u → R x y H2 → wpAny (model X.prog X.w) X.A (f v u) Q X.xe s2) :
    wpAny (model X.prog X.w) X.A (eval a X.env) (fun v s₁ => wpAny (model X.prog X.w) X.A (eval b X.env) (fun u s₂ => wpAny (model X.prog X.w) X.A (f v u) Q X.xe s₂) X.xe s₁) X.xe s := by
  refine thn (ha pins s σ H _ I h) fun v s1 ⟨x, H1, I1, r1, q1⟩ => ?_
  refine thn (hb pins s1 σ H1 _ I1 q1) fun u s2 ⟨y, H2, I2, r2, q2⟩ => ?_
  exact hf v u s2 x y H2 I2 r1 r2 q2

/-! ### names and constants -/
def tVar (i : Nat) : TE := fun σ H Q => ∃ v, σ[i]? = some (some v) ∧ Q v H
def tC (v : V) : TE := fun _ H Q => Q v H
theorem pe_var {i : Nat} {x : Str} {pos : Pos} (hN : X.N[i]? = some x) (hv : Vis X.env.scope x) (hd : (x == ("__debug__" : Str)) = false := by decide) (hcd : (x == ("__classdict__" : Str)) = false := by decide) : PE X (.Name x pos) (tVar i) := by
  intro pins s σ H Q I h
  obtain ⟨v, e, h⟩ := h
  obtain ⟨m, hn, hl⟩ := I.loc
  obtain ⟨u, r, l⟩ := hl i x v hN e hv
  have fin : EP X pins σ Q u s := ⟨v, H, I, r, h⟩
  rcases l with ⟨hk, hm⟩ | ⟨hk, c, hc, hcell⟩
  · exact wpAny_Name (wpAny_loadName_local I.ok.kind hk hn hm fin) hd
  · rcases hk with hk | hk
    · exact wpAny_Name (wpAny_loadName_cell I.ok.kind hk hc hcell fin) hd
    · exact wpAny_Name (wpAny_loadName_free I.ok.kind hk hc hcell fin hcd) hd
theorem pe_int {i j pos} : PE X (.Constant (.int i) j pos) (tC (.int i)) := fun _ _ _ H _ I h => wpAny_Constant_int ⟨.int i, H, I.tok _, ⟨_, rfl⟩, h⟩
theorem pe_bl {b j pos} : PE X (.Constant (.bool b) j pos) (tC (.bl b)) := fun _ _ _ H _ I h => Constant_bool ⟨.bl b, H, I, rfl, h⟩
theorem pe_non {j pos} : PE X (.Constant .none j pos) (tC .non) := fun _ _ _ H _ I h => Constant_none ⟨.non, H, I, rfl, h⟩
theorem pe_str {x j pos} : PE X (.Constant (.str x) j pos) (tC (.str x)) := fun _ _ _ H _ I h => Calls.Constant_str ⟨.str x, H, I.tok _, ⟨_, rfl⟩, h⟩

/-- a global name of the def -/
def Gl (X : Cx) (x : Str) : Prop := X.env.kindOf x = some .globalImplicit
theorem ld_glob {E : Value → Shared → Prop} {pins : List (Addr × Obj)} {s : Shared} {σ : St} {H : Hp} {x : Str} {u : Value} {pos : Pos} {Q : Value → Shared → Prop} (I : Inv X pins σ H s) (hg : Gl X x) (hm : X.mg x = some u) (h : Q u s)
    (hd : (x == ("__debug__" : Str)) = false := by decide) : wpAny (model X.prog X.w) X.A (eval (.Name x pos) X.env) Q E s :=
  Calls.Name_function_global I.ok.kind hg (Calls.loadGlobal_global (by rw [I.ok.glob]; exact I.mod.glob.keeps I.bk) hm h) hd
theorem ld_blt {E : Value → Shared → Prop} {pins : List (Addr × Obj)} {s : Shared} {σ : St} {H : Hp} {x : Str} {u : Value} {pos : Pos} {Q : Value → Shared → Prop} (I : Inv X pins σ H s) (hg : Gl X x) (hm : X.mg x = none) (hv : bootBuiltins x = some u) (h : Q u s)
    (hn : x ≠ "__name__" := by decide) (hd : (x == ("__debug__" : Str)) = false := by decide) : wpAny (model X.prog X.w) X.A (eval (.Name x pos) X.env) Q E s := by
  obtain ⟨mb, h1, h2⟩ := I.mod.blt
  exact Calls.Name_function_global I.ok.kind hg (Calls.loadGlobal_builtin (by rw [I.ok.glob]; exact I.mod.glob.keeps I.bk) hm (by rw [I.ok.blt]; exact h1.keeps I.bk) ((h2 x hn).trans hv) h) hd
/-- a module's constant, a class, a function, as a value -/
theorem pe_glob {x : Str} {v : V} {u : Value} {pos : Pos} (hg : Gl X x) (hm : X.mg x = some u) (r : RelV v u) (hd : (x == ("__debug__" : Str)) = false := by decide) : PE X (.Name x pos) (tC v) :=
  fun _ _ _ H _ I h => ld_glob I hg hm ⟨v, H, I, r, h⟩ hd
theorem pe_bltn {x : Str} {v : V} {u : Value} {pos : Pos} (hg : Gl X x) (hm : X.mg x = none) (hv : bootBuiltins x = some u) (r : RelV v u) (hn : x ≠ "__name__" := by decide) (hd : (x == ("__debug__" : Str)) = false := by decide) : PE X (.Name x pos) (tC v) :=
  fun _ _ _ H _ I h => ld_blt I hg hm hv ⟨v, H, I, r, h⟩ hn hd

/-! ### arithmetic -/
/-- two ints -/
def t2I (ta tb : TE) (k : Int → Int → Hp → Prop) : St → Hp → Prop := fun σ H => ta σ H fun x H1 => tb σ H1 fun y H2 => ∃ i j, x = .int i ∧ y = .int j ∧ k i j H2
def tAdd (ta tb : TE) : TE := fun σ H Q => t2I ta tb (fun i j H2 => Q (.int (i + j)) H2) σ H
def tSub (ta tb : TE) : TE := fun σ H Q => t2I ta tb (fun i j H2 => Q (.int (i - j)) H2) σ H
/-- the left factor below 2^64 -/
def tMul (ta tb : TE) : TE := fun σ H Q => t2I ta tb (fun i j H2 => (-(2 ^ 64) < i ∧ i < 2 ^ 64) ∧ Q (.int (i * j)) H2) σ H
variable {a b : Expr} {ta tb : TE} {pos : Pos}
theorem pe_add (ha : PE X a ta) (hb : PE X b tb) : PE X (.BinOp a .Add b pos) (tAdd ta tb) := by
  intro pins s σ H Q I h
  refine wpAny_BinOp (bin ha hb I h fun v u s2 x y H2 I2 rx ry q => ?_)
  obtain ⟨i, j, rfl, rfl, q⟩ := q
  obtain ⟨t, rfl⟩ := rx
  obtain ⟨t', rfl⟩ := ry
  exact add_int ⟨.int _, H2, I2.tok _, ⟨_, rfl⟩, q⟩
theorem pe_sub (ha : PE X a ta) (hb : PE X b tb) : PE X (.BinOp a .Sub b pos) (tSub ta tb) := by
  intro pins s σ H Q I h
  refine wpAny_BinOp (bin ha hb I h fun v u s2 x y H2 I2 rx ry q => ?_)
  obtain ⟨i, j, rfl, rfl, q⟩ := q
  obtain ⟨t, rfl⟩ := rx
  obtain ⟨t', rfl⟩ := ry
  exact sub_int ⟨.int _, H2, I2.tok _, ⟨_, rfl⟩, q⟩
theorem pe_mul (ha : PE X a ta) (hb : PE X b tb) : PE X (.BinOp a .Mult b pos) (tMul ta tb) := by
  intro pins s σ H Q I h
  refine wpAny_BinOp (bin ha hb I h fun v u s2 x y H2 I2 rx ry q => ?_)
  obtain ⟨i, j, rfl, rfl, ⟨q1, q2⟩, q⟩ := q
  obtain ⟨t, rfl⟩ := rx
  obtain ⟨t', rfl⟩ := ry
  exact mul_int ⟨.int _, H2, I2.tok _, ⟨_, rfl⟩, q⟩ (.of_left (intBits_le_64 q1 q2))

/-! ### comparisons -/
def PC (X : Cx) (op : CmpOp) (a b : Expr) (t : TE) : Prop :=
  ∀ (pins : List (Addr × Obj)) (s : Shared) (σ : St) (H : Hp) (Q : VK), Inv X pins σ H s → t σ H Q →
    wpAny (model X.prog X.w) X.A (eval a X.env) (fun v s₁ => wpAny (model X.prog X.w) X.A (eval b X.env) (fun u s₂ => wpAny (model X.prog X.w) X.A (compareOp op v u) (EP X pins σ Q) X.xe s₂) X.xe s₁) X.xe s
theorem nobehind (b : Expr) {op : CmpOp} (h : op ≠ .In) (h2 : op ≠ .NotIn) : behindInMarks op b = false := by
  have e1 : (op == CmpOp.In) = false := by cases op <;> first | rfl | exact absurd rfl h
  have e2 : (op == CmpOp.NotIn) = false := by cases op <;> first | rfl | exact absurd rfl h2
  cases b <;> simp [behindInMarks, e1, e2]
def tCmp (p : Int → Int → Bool) (ta tb : TE) : TE := fun σ H Q => t2I ta tb (fun i j H2 => Q (.bl (p i j)) H2) σ H
abbrev tLt : TE → TE → TE := tCmp fun i j => decide (i < j)
abbrev tLe : TE → TE → TE := tCmp fun i j => decide (i ≤ j)
abbrev tGt : TE → TE → TE := tCmp fun i j => decide (j < i)
abbrev tGe : TE → TE → TE := tCmp fun i j => decide (j ≤ i)
abbrev tEqI : TE → TE → TE := tCmp fun i j => decide (i = j)
abbrev tNeI : TE → TE → TE := tCmp fun i j => !decide (i = j)
/-- a comparison of two ints, by its rule -/
theorem pc_int {op : CmpOp} {p : Int → Int → Bool} (ha : PE X a ta) (hb : PE X b tb)
    (rule : ∀ (i j : Int) (t u : Tok) (Q : Value → Shared → Prop) (s : Shared), Q (.bool (p i j)) s → wpAny (model X.prog X.w) X.A (compareOp op (.int i t) (.int j u)) Q X.xe s) : PC X op a b (tCmp p ta tb) := by
  intro pins s σ H Q I h
  refine bin ha hb I h fun v u s2 x y H2 I2 rx ry q => ?_
  obtain ⟨i, j, rfl, rfl, q⟩ := q
  obtain ⟨t, rfl⟩ := rx
  obtain ⟨t', rfl⟩ := ry
  exact rule i j t t' _ s2 ⟨.bl _, H2, I2, rfl, q⟩
theorem pc_lt (ha : PE X a ta) (hb : PE X b tb) : PC X .Lt a b (tLt ta tb) := pc_int ha hb fun _ _ _ _ _ _ h => lt_int h
theorem pc_le (ha : PE X a ta) (hb : PE X b tb) : PC X .LtE a b (tLe ta tb) := pc_int ha hb fun _ _ _ _ _ _ h => le_int h
theorem pc_gt (ha : PE X a ta) (hb : PE X b tb) : PC X .Gt a b (tGt ta tb) := pc_int ha hb fun _ _ _ _ _ _ h => gt_int h
theorem pc_ge (ha : PE X a ta) (hb : PE X b tb) : PC X .GtE a b (tGe ta tb) := pc_int ha hb fun _ _ _ _ _ _ h => ge_int h
theorem pc_eqI (ha : PE X a ta) (hb : PE X b tb) : PC X .Eq a b (tEqI ta tb) := pc_int ha hb fun _ _ _ _ _ _ h => eq_int (by rw [Bool.beq_eq_decide_eq]; exact h)
theorem pc_neI (ha : PE X a ta) (hb : PE X b tb) : PC X .NotEq a b (tNeI ta tb) := pc_int ha hb fun _ _ _ _ _ _ h => ne_int (by rw [bne, Bool.beq_eq_decide_eq]; exact h)
/-- is None -/
def tIsN (ta : TE) : TE := fun σ H Q => ta σ H fun x H1 => Q (.bl (decide (x = .non))) H1
def tNotN (ta : TE) : TE := fun σ H Q => ta σ H fun x H1 => Q (.bl (!decide (x = .non))) H1
theorem RelV.none_iff {x : V} {v : Value} (r : RelV x v) : (v == Value.none) = decide (x = .non) := by
  cases x with
  | non => cases r; rfl
  | bl _ => cases r; rfl
  | int _ => obtain ⟨t, rfl⟩ := r; rfl
  | str _ => obtain ⟨t, rfl⟩ := r; rfl
  | byt _ => obtain ⟨t, rfl⟩ := r; rfl
  | flt _ => obtain ⟨t, rfl⟩ := r; rfl
  | ref _ => cases r; rfl
  | ty _ => cases r; rfl
theorem pc_isN {j pos'} (ha : PE X a ta) : PC X .Is a (.Constant .none j pos') (tIsN ta) := by
  intro pins s σ H Q I h
  refine thn (ha pins s σ H _ I h) fun v s1 ⟨x, H1, I1, r1, q1⟩ => ?_
  exact Constant_none (is_none_gen ⟨.bl _, H1, I1, by rw [r1.none_iff]; rfl, q1⟩)
theorem pc_notN {j pos'} (ha : PE X a ta) : PC X .IsNot a (.Constant .none j pos') (tNotN ta) := by
  intro pins s σ H Q I h
  refine thn (ha pins s σ H _ I h) fun v s1 ⟨x, H1, I1, r1, q1⟩ => ?_
  exact Constant_none (isnot_none_gen ⟨.bl _, H1, I1, by rw [r1.none_iff]; rfl, q1⟩)
/-- a comparison as a value, as a test -/
def tB (t : TE) : TT := fun σ H Q => t σ H fun x H1 => ∃ c, x = .bl c ∧ Q c H1
theorem pe_cmp {op : CmpOp} {t : TE} (h : PC X op a b t) (h1 : behindInMarks op b = false := by first | exact nobehind _ (by decide) (by decide) | rfl) : PE X (.Compare a [op] [b] pos) t := fun pins s σ H Q I hw => wpAny_Compare1 (h pins s σ H Q I hw) h1
theorem pt_cmp {op : CmpOp} {t : TE} (h : PC X op a b t) (h1 : behindInMarks op b = false := by first | exact nobehind _ (by decide) (by decide) | rfl) : PT X (.Compare a [op] [b] pos) (tB t) := by
  intro pins s σ H Q I hw
  refine wpAny_isTrue_Compare1 (thn (h pins s σ H _ I hw) fun v s1 h1 => thn h1 fun u s2 h2 => thn h2 fun c s3 ⟨x, H1, I1, r1, q1⟩ => ?_) h1
  obtain ⟨d, rfl, q⟩ := q1
  cases r1
  exact wpAny_truthy_bool ⟨H1, I1, q⟩
/-- an expression whose value is a bool, as a test -/
theorem pt_val {e : Expr} {t : TE} (h : PE X e t) (he : ∀ whole, isTrue e X.env whole = (do let v ← whole; standAt e.pos; holding [v] (truthy v)) := by intro _; rfl) : PT X e (tB t) := by
  intro pins s σ H Q I hw
  refine isTrue_plain (thn (h pins s σ H _ I hw) fun v s1 ⟨x, H1, I1, r1, q1⟩ => ?_) (he _)
  obtain ⟨d, rfl, q⟩ := q1
  cases r1
  exact wpAny_truthy_bool ⟨H1, I1, q⟩

/-! ### and, or, not -/
variable {tA tB' : TT} {rest : List Expr}
def tAnd (t u : TT) : TT := fun σ H Q => t σ H fun c H1 => if c = true then u σ H1 Q else Q false H1
def tOr (t u : TT) : TT := fun σ H Q => t σ H fun c H1 => if c = true then Q true H1 else u σ H1 Q
def tNot (t : TT) : TT := fun σ H Q => t σ H fun c H1 => Q (!c) H1
theorem pw_and1 (ha : PT X a tA) : PW X (.BoolOp .And [a] pos) tA := by
  intro wh pins s σ H Q I h
  refine isTrue_and (thn (ha pins s σ H Q I h) fun c s1 e => ?_)
  cases c with
  | true => exact isTrue_and_nil e
  | false => exact e
theorem pw_or1 (ha : PT X a tA) : PW X (.BoolOp .Or [a] pos) tA := by
  intro wh pins s σ H Q I h
  refine isTrue_or (thn (ha pins s σ H Q I h) fun c s1 e => ?_)
  cases c with
  | false => exact isTrue_or_nil e
  | true => exact e
theorem pw_and (ha : PT X a tA) (hb : PW X (.BoolOp .And (b :: rest) pos) tB') : PW X (.BoolOp .And (a :: b :: rest) pos) (tAnd tA tB') := by
  intro wh pins s σ H Q I h
  refine isTrue_and (thn (ha pins s σ H _ I h) fun c s1 ⟨H1, I1, q1⟩ => ?_)
  cases c with
  | true => exact hb wh pins s1 σ H1 Q I1 q1
  | false => exact ⟨H1, I1, q1⟩
theorem pw_or (ha : PT X a tA) (hb : PW X (.BoolOp .Or (b :: rest) pos) tB') : PW X (.BoolOp .Or (a :: b :: rest) pos) (tOr tA tB') := by
  intro wh pins s σ H Q I h
  refine isTrue_or (thn (ha pins s σ H _ I h) fun c s1 ⟨H1, I1, q1⟩ => ?_)
  cases c with
  | true => exact ⟨H1, I1, q1⟩
  | false => exact hb wh pins s1 σ H1 Q I1 q1
theorem pt_not (ha : PT X a tA) : PT X (.UnaryOp .Not a pos) (tNot tA) := by
  intro pins s σ H Q I h
  exact isTrue_not (ha pins s σ H (fun c H1 => Q (!c) H1) I h)
/-- .. as values (bools) -/
def tAndV (ta tb : TE) : TE := fun σ H Q => ta σ H fun x H1 => ∃ c, x = .bl c ∧ if c = true then tb σ H1 Q else Q (.bl false) H1
def tOrV (ta tb : TE) : TE := fun σ H Q => ta σ H fun x H1 => ∃ c, x = .bl c ∧ if c = true then Q (.bl true) H1 else tb σ H1 Q
def tNotV (ta : TE) : TE := fun σ H Q => ta σ H fun x H1 => ∃ c, x = .bl c ∧ Q (.bl (!c)) H1
theorem pe_one {op} {t : TE} (h : PE X a t) : PE X (.BoolOp op [a] pos) t := fun pins s σ H Q I hw => BoolOp_one (h pins s σ H Q I hw)
theorem pe_and (ha : PE X a ta) (hb : PE X (.BoolOp .And (b :: rest) pos) tb) : PE X (.BoolOp .And (a :: b :: rest) pos) (tAndV ta tb) := by
  intro pins s σ H Q I h
  refine BoolOp_and (thn (ha pins s σ H _ I h) fun v s1 ⟨x, H1, I1, r1, q1⟩ => ?_)
  obtain ⟨c, rfl, q1⟩ := q1
  cases r1
  refine wpAny_truthy_bool ?_
  cases c with
  | true => exact hb pins s1 σ H1 Q I1 q1
  | false => exact ⟨.bl false, H1, I1, rfl, q1⟩
theorem pe_or (ha : PE X a ta) (hb : PE X (.BoolOp .Or (b :: rest) pos) tb) : PE X (.BoolOp .Or (a :: b :: rest) pos) (tOrV ta tb) := by
  intro pins s σ H Q I h
  refine BoolOp_or (thn (ha pins s σ H _ I h) fun v s1 ⟨x, H1, I1, r1, q1⟩ => ?_)
  obtain ⟨c, rfl, q1⟩ := q1
  cases r1
  refine wpAny_truthy_bool ?_
  cases c with
  | false => exact hb pins s1 σ H1 Q I1 q1
  | true => exact ⟨.bl true, H1, I1, rfl, q1⟩
theorem pe_not (ha : PE X a ta) : PE X (.UnaryOp .Not a pos) (tNotV ta) := by
  intro pins s σ H Q I h
  refine UnaryOp_ (thn (ha pins s σ H _ I h) fun v s1 ⟨x, H1, I1, r1, q1⟩ => ?_)
  obtain ⟨c, rfl, q1⟩ := q1
  cases r1
  exact not_of (wpAny_truthy_bool ⟨.bl (!c), H1, I1, rfl, q1⟩)
/-- a if t else b -/
def tIf (t : TT) (ta tb : TE) : TE := fun σ H Q => t σ H fun c H1 => if c = true then ta σ H1 Q else tb σ H1 Q
theorem pe_ifExp {c : Expr} (hc : PT X c tA) (ha : PE X a ta) (hb : PE X b tb) : PE X (.IfExp c a b pos) (tIf tA ta tb) := by
  intro pins s σ H Q I h
  refine wpAny_IfExp (thn (hc pins s σ H _ I h) fun d s1 ⟨H1, I1, q1⟩ => ?_)
  cases d with
  | true => exact ha pins s1 σ H1 Q I1 q1
  | false => exact hb pins s1 σ H1 Q I1 q1
end
end L2

namespace L2
open PySem PySem.Spec PyProof.Rows

/-! ### a list, a tuple that is read: tracked, frozen, or an object of the module -/
def SqL (K : PySem.W.Frag) (H : Hp) (a : Addr) (xs : List V) : Prop :=
  Rd H a (.lst xs) ∨
    ∃ (o : Obj) (its : Array Value) (n : Nat), K.lookup a = some o ∧ o.cls = .type "list" ∧ o.dict = none ∧ o.data = .seq its n ∧ its.size ≤ sizeLine ∧ Vals xs its.toList
def SqT (K : PySem.W.Frag) (H : Hp) (a : Addr) (xs : List V) : Prop :=
  Rd H a (.tup xs) ∨
    ∃ (o : Obj) (its : Array Value) (n : Nat), K.lookup a = some o ∧ o.cls = .type "tuple" ∧ o.data = .seq its n ∧ its.size ≤ sizeLine ∧ Vals xs its.toList
def absV : Value → Option V
  | .none => some .non
  | .bool b => some (.bl b)
  | .int i _ => some (.int i)
  | .str x _ => some (.str x)
  | .bytes b _ => some (.byt b)
  | .float b _ => some (.flt b)
  | .ref a => some (.ref a)
  | .type n => some (.ty n)
  | _ => none
theorem RelV.abs {x : V} {u : Value} (r : RelV x u) : absV u = some x := by
  cases x with
  | non => cases r; rfl
  | bl _ => cases r; rfl
  | int _ => obtain ⟨t, rfl⟩ := r; rfl
  | str _ => obtain ⟨t, rfl⟩ := r; rfl
  | byt _ => obtain ⟨t, rfl⟩ := r; rfl
  | flt _ => obtain ⟨t, rfl⟩ := r; rfl
  | ref _ => cases r; rfl
  | ty _ => cases r; rfl
theorem RelV.inj {x y : V} {u : Value} (r : RelV x u) (q : RelV y u) : x = y := Option.some.inj (r.abs.symm.trans q.abs)
theorem Vals.inj : ∀ {xs ys : List V} {us : List Value}, Vals xs us → Vals ys us → xs = ys
  | _, _, _, .nil, .nil => rfl
  | _, _, _, .cons r t, .cons r' t' => by rw [r.inj r', Vals.inj t t']
section
variable {X : Cx} {pins : List (Addr × Obj)} {σ : St} {H : Hp} {s : Shared} {a : Addr} {xs ys : List V}
theorem SqL.of {K : PySem.W.Frag} (h : H a = some (.lst xs)) : SqL K H a xs := .inl (.inl h)
theorem SqT.of {K : PySem.W.Frag} (h : H a = some (.tup xs)) : SqT K H a xs := .inl (.inl h)
theorem Inv.list (I : Inv X pins σ H s) (h : SqL X.K H a xs) : ∃ its : List Value, Vals xs its ∧ PlainL s.heap a its.toArray ∧ xs.length ≤ sizeLine := by
  rcases h with h | ⟨o, its, n, hk, hc, hd, hs, hz, r⟩
  · obtain ⟨z, its, n, r, e⟩ := h.ok I.hok
    exact ⟨its, r, ⟨_, n, e, rfl, rfl, rfl⟩, z⟩
  · refine ⟨its.toList, r, ⟨o, n, I.kIn a o hk, hc, hd, by simpa using hs⟩, ?_⟩
    have e := r.length
    simp only [Array.length_toList] at e
    omega
theorem Inv.tuple (I : Inv X pins σ H s) (h : SqT X.K H a xs) : ∃ its : List Value, Vals xs its ∧ IsTup s.heap a its.toArray ∧ xs.length ≤ sizeLine := by
  rcases h with h | ⟨o, its, n, hk, hc, hs, hz, r⟩
  · obtain ⟨z, its, r, p⟩ := h.ok I.hok
    exact ⟨its, r, p, z⟩
  · refine ⟨its.toList, r, ⟨o, I.kIn a o hk, hc, n, by simpa using hs⟩, ?_⟩
    have e := r.length
    simp only [Array.length_toList] at e
    omega
theorem Inv.list_inj (I : Inv X pins σ H s) (h : SqL X.K H a xs) (h' : SqL X.K H a ys) : xs = ys := by
  obtain ⟨its, r, ⟨o, n, e, _, _, d⟩, _⟩ := I.list h
  obtain ⟨its', r', ⟨o', n', e', _, _, d'⟩, _⟩ := I.list h'
  rw [e] at e'; cases e'
  rw [d] at d'
  injection d' with d1 _
  have : its = its' := by simpa using congrArg Array.toList d1
  subst this
  exact r.inj r'
theorem Inv.tuple_inj (I : Inv X pins σ H s) (h : SqT X.K H a xs) (h' : SqT X.K H a ys) : xs = ys := by
  obtain ⟨its, r, ⟨o, e, _, n, d⟩, _⟩ := I.tuple h
  obtain ⟨its', r', ⟨o', e', _, n', d'⟩, _⟩ := I.tuple h'
  rw [e] at e'; cases e'
  rw [d] at d'
  injection d' with d1 _
  have : its = its' := by simpa using congrArg Array.toList d1
  subst this
  exact r.inj r'
end

/-! ### another wish about exceptions -/
abbrev Cx.wish (X : Cx) (E : Value → Shared → Prop) : Cx := { X with xe := E }
/-- no exception leaves -/
abbrev Cx.nox (X : Cx) : Cx := X.wish fun _ _ => False
theorem Cx.Ok.wish {X : Cx} (ok : X.Ok) (E : Value → Shared → Prop) : (X.wish E).Ok :=
  ⟨ok.mod, ok.kind, ok.glob, ok.blt, ok.above, ok.inj, ok.has, ok.cab, ok.hd, ok.frames, ok.stk, ok.exf, ok.bs, ok.bsz, ok.noex, ok.exfs, ok.funs, ok.frf⟩
theorem Cx.Ok.unwish {X : Cx} {E : Value → Shared → Prop} (ok : (X.wish E).Ok) : X.Ok :=
  ⟨ok.mod, ok.kind, ok.glob, ok.blt, ok.above, ok.inj, ok.has, ok.cab, ok.hd, ok.frames, ok.stk, ok.exf, ok.bs, ok.bsz, ok.noex, ok.exfs, ok.funs, ok.frf⟩
section
variable {X : Cx} {pins : List (Addr × Obj)} {σ : St} {H : Hp} {s : Shared} {E : Value → Shared → Prop}
theorem Inv.wish (I : Inv X pins σ H s) (E : Value → Shared → Prop) : Inv (X.wish E) pins σ H s := ⟨I.ok.wish E, I.os, I.bare, I.base, I.loc, I.cell, I.free, I.freeC, I.pin, I.hok, I.len⟩
theorem Inv.unwish (I : Inv (X.wish E) pins σ H s) : Inv X pins σ H s := ⟨I.ok.unwish, I.os, I.bare, I.base, I.loc, I.cell, I.free, I.freeC, I.pin, I.hok, I.len⟩
theorem SP.unwish {D : Ends} {f : Flow} {s' : Shared} (h : SP (X.wish E) pins D f s') : SP X pins D f s' := by
  cases f with
  | next => obtain ⟨σ', H', I, q⟩ := h; exact ⟨σ', H', I.unwish, q⟩
  | brk => obtain ⟨σ', H', I, q⟩ := h; exact ⟨σ', H', I.unwish, q⟩
  | cont => obtain ⟨σ', H', I, q⟩ := h; exact ⟨σ', H', I.unwish, q⟩
  | ret u => obtain ⟨v, σ', H', I, r, q⟩ := h; exact ⟨v, σ', H', I.unwish, r, q⟩
theorem PE.nox {e : Expr} {t : TE} (h : PE X.nox e t) : PE X e t := fun pins s σ H Q I hw =>
  wpAny_mono (h pins s σ H Q (I.wish _) hw) (fun _ _ ⟨v, H', I', r, q⟩ => ⟨v, H', I'.unwish, r, q⟩) fun _ _ z => False.elim z
theorem PT.nox {e : Expr} {t : TT} (h : PT X.nox e t) : PT X e t := fun pins s σ H Q I hw =>
  wpAny_mono (h pins s σ H Q (I.wish _) hw) (fun _ _ ⟨H', I', q⟩ => ⟨H', I'.unwish, q⟩) fun _ _ z => False.elim z
theorem PSs.nox {st : List Stmt} {t : TS} (h : PSs X.nox st t) : PSs X st t := fun pins s σ H D I hw =>
  wpAny_mono (h pins s σ H D (I.wish _) hw) (fun _ _ q => q.unwish) fun _ _ z => False.elim z
end

/-! ### blocks and small statements -/
section
variable {X : Cx} {st : Stmt} {rest : List Stmt} {t u : TS} {e : Expr} {te : TE} {pos : Pos}
def tNext : TS := fun D σ H => D.nx σ H
def tSeq (t u : TS) : TS := fun D σ H => t { D with nx := u D } σ H
theorem pss_nil : PSs X [] tNext := fun _ _ σ H _ I h => wpAny_execs_nil ⟨σ, H, I, h⟩
theorem pss_cons (h1 : PS X st t) (h2 : PSs X rest u) : PSs X (st :: rest) (tSeq t u) := by
  intro pins s σ H D I h
  refine wpAny_execs_cons (thn (h1 pins s σ H { D with nx := u D } I h) fun f s1 q => ?_)
  cases f with
  | next =>
    obtain ⟨σ', H', I', q⟩ := q
    exact h2 pins s1 σ' H' D I' q
  | ret v => exact q
  | brk => exact q
  | cont => exact q
theorem pss_one (h1 : PS X st t) : PSs X [st] t := by
  intro pins s σ H D I h
  refine wpAny_execs_cons (thn (h1 pins s σ H D I h) fun f s1 q => ?_)
  cases f with
  | next => exact wpAny_execs_nil q
  | ret v => exact q
  | brk => exact q
  | cont => exact q
def tBreak : TS := fun D σ H => D.bk σ H
def tCont : TS := fun D σ H => D.ct σ H
theorem ps_pass : PS X (.Pass pos) tNext := fun _ _ σ H _ I h => wpAny_Pass ⟨σ, H, I, h⟩
theorem ps_break : PS X (.Break pos) tBreak := fun _ _ σ H _ I h => wpAny_Break ⟨σ, H, I, h⟩
theorem ps_continue : PS X (.Continue pos) tCont := fun _ _ σ H _ I h => wpAny_Continue ⟨σ, H, I, h⟩
/-- in a def's body nothing is shown -/
theorem Inv.quiet {pins : List (Addr × Obj)} {σ : St} {H : Hp} {s : Shared} (I : Inv X pins σ H s) : interactive X.env = false := by simp [interactive, I.ok.kind]
/-- a docstring -/
theorem ps_doc {x j pos pos'} : PS X (.Expr (.Constant (.str x) j pos) pos') tNext := fun _ s σ H _ I h => wpAny_Expr (Calls.Constant_str (show SP X _ _ .next { s with toks := s.toks + 1 } from ⟨σ, H, I.tok _, h⟩)) I.quiet
/-- an expression whose value is dropped -/
def tDrop (te : TE) : TS := fun D σ H => te σ H fun _ H1 => D.nx σ H1
theorem ps_expr (he : PE X e te) (hs : swapsWith e none pos.line X.env = pure false := by rfl) : PS X (.Expr e pos) (tDrop te) := by
  intro pins s σ H D I h
  exact wpAny_Expr_any (thn (he pins s σ H _ I h) fun v s1 ⟨x, H1, I1, r1, q1⟩ => ⟨σ, H1, I1, q1⟩) I.quiet hs
def tRet (te : TE) : TS := fun D σ H => te σ H D.rt
theorem ps_ret (he : PE X e te) : PS X (.Return (some e) pos) (tRet te) := by
  intro pins s σ H D I h
  exact wpAny_Return_some (thn (he pins s σ H _ I h) fun v s1 ⟨x, H1, I1, r1, q1⟩ => ⟨x, σ, H1, I1, r1, q1⟩)
def tRetN : TS := fun D _ H => D.rt .non H
theorem ps_retN : PS X (.Return none pos) tRetN := fun _ _ σ H _ I h => wpAny_Return_none ⟨.non, σ, H, I, rfl, h⟩
def tIfS (c : TT) (t u : TS) : TS := fun D σ H => c σ H fun b H1 => if b = true then t D σ H1 else u D σ H1
theorem ps_if {c : Expr} {a b : List Stmt} {tc : TT} (hc : PT X c tc) (ha : PSs X a t) (hb : PSs X b u) : PS X (.If c a b pos) (tIfS tc t u) := by
  intro pins s σ H D I h
  refine wpAny_If (thn (hc pins s σ H _ I h) fun d s1 ⟨H1, I1, q1⟩ => ?_)
  cases d with
  | true => exact ha pins s1 σ H1 D I1 q1
  | false => exact hb pins s1 σ H1 D I1 q1
/-- code that the proof never comes to -/
def tNever : TS := fun _ _ _ => False
theorem ps_never : PS X st tNever := fun _ _ _ _ _ _ h => h.elim
theorem pss_never {sts : List Stmt} : PSs X sts tNever := fun _ _ _ _ _ _ h => h.elim
end

/-! ### targets -/
abbrev TG := V → St → Hp → (St → Hp → Prop) → Prop
abbrev TGs := List V → St → Hp → (St → Hp → Prop) → Prop
def PG (X : Cx) (target : Expr) (t : TG) : Prop :=
  ∀ (pins : List (Addr × Obj)) (s : Shared) (σ : St) (H : Hp) (v : V) (u : Value) (Q : St → Hp → Prop), Inv X pins σ H s → RelV v u → t v σ H Q →
    wpAny (model X.prog X.w) X.A (assign target X.env u) (fun _ s' => ∃ σ' H', Inv X pins σ' H' s' ∧ Q σ' H') X.xe s
/-- several targets, one after another -/
def PGs (X : Cx) (ts : List Expr) (t : TGs) : Prop :=
  ∀ (pins : List (Addr × Obj)) (s : Shared) (σ : St) (H : Hp) (vs : List V) (us : List Value) (Q : St → Hp → Prop), Inv X pins σ H s → Vals vs us → t vs σ H Q →
    wpAny (model X.prog X.w) X.A (assignInOrder ((assignEach ts X.env).map (·.2)) us) (fun _ s' => ∃ σ' H', Inv X pins σ' H' s' ∧ Q σ' H') X.xe s
/-- o[i] = v, by values -/
abbrev TSet := V → V → V → Hp → (Hp → Prop) → Prop
def PSet (X : Cx) (t : TSet) : Prop :=
  ∀ (pins : List (Addr × Obj)) (s : Shared) (σ : St) (H : Hp) (o i v : V) (ov iv u : Value) (Q : Hp → Prop), Inv X pins σ H s → RelV o ov → RelV i iv → RelV v u → t o i v H Q →
    wpAny (model X.prog X.w) X.A (setItem ov iv u) (fun _ s' => ∃ H', Inv X pins σ H' s' ∧ Q H') X.xe s
/-- a op= b, by values -/
abbrev TIp := V → V → Hp → VK → Prop
def PIp (X : Cx) (op : Operator) (t : TIp) : Prop :=
  ∀ (pins : List (Addr × Obj)) (s : Shared) (σ : St) (H : Hp) (x y : V) (v u : Value) (Q : VK), Inv X pins σ H s → RelV x v → RelV y u → t x y H Q →
    wpAny (model X.prog X.w) X.A (inplaceOp op v u) (EP X pins σ Q) X.xe s
section
variable {X : Cx} {pos : Pos}
def gName (i : Nat) : TG := fun v σ H Q => Q (σ.set i (some v)) H
theorem pg_name {i : Nat} {x : Str} (hN : X.N.Nodup) (hi : X.N[i]? = some x) (hx : Loc X.env.scope x) (hf : X.fn x = true ∨ X.env.scope.names.lookup x = some .local := by first | exact .inl rfl | exact .inr rfl | assumption) : PG X (.Name x pos) (gName i) := by
  intro pins s σ H v u Q I r h
  exact wpAny_assign_Name (store_ok I hN hi hx r (fun s' I' => ⟨_, H, I', h⟩) hf)
def gNil : TGs := fun vs σ H Q => vs = [] ∧ Q σ H
def gCons (t : TG) (u : TGs) : TGs := fun vs σ H Q => ∃ v r, vs = v :: r ∧ t v σ H fun σ' H' => u r σ' H' Q
theorem pgs_nil : PGs X [] gNil := by
  intro pins s σ H vs us Q I r h
  obtain ⟨e, h⟩ := h
  subst e
  cases r
  exact assignInOrder_nil ⟨σ, H, I, h⟩
theorem pgs_cons {e : Expr} {es : List Expr} {t : TG} {u : TGs} (h1 : PG X e t) (h2 : PGs X es u)
    (hs : (assignEach (e :: es) X.env).map (·.2) = assign e X.env :: (assignEach es X.env).map (·.2) := by rfl) : PGs X (e :: es) (gCons t u) := by
  intro pins s σ H vs us Q I r h
  obtain ⟨v, vr, e1, h⟩ := h
  subst e1
  cases r with
  | cons r rr =>
    rw [hs]
    refine assignInOrder_cons (thn (h1 pins s σ H _ _ _ I r h) fun _ s1 ⟨σ1, H1, I1, q1⟩ => ?_)
    exact h2 pins s1 σ1 H1 _ _ Q I1 rr q1
/-- (a, b, ..) = a tuple of that length -/
def gTup (K : PySem.W.Frag) (n : Nat) (t : TGs) : TG := fun v σ H Q => ∃ a xs, v = .ref a ∧ SqT K H a xs ∧ xs.length = n ∧ t xs σ H Q
theorem pg_tup {es : List Expr} {k : Nat} {t : TGs} {n : Nat} (hc : X.calm = true) (h : PGs X es t)
    (hn : (assignEach es X.env).length = n := by rfl) (hst : (assignEach es X.env).findIdx? (·.1) = none := by rfl) : PG X (.Tuple es k pos) (gTup X.K n t) := by
  intro pins s σ H v u Q I r hw
  obtain ⟨a, xs, e1, hq, hl, hw⟩ := hw
  subst e1
  cases r
  obtain ⟨its, rv, ht, hz⟩ := I.tuple hq
  refine assign_Tuple_tuple (I.ok.hd hc) ht (by simp [hn, ← hl, rv.length]) hst fun h' hx => ?_
  have I1 : Inv X pins σ H { s with heap := h' } := I.kept (t' := s.toks) fun b o e => hx b o (Nat.ne_of_lt (Heap.lt_size e)) e
  exact h pins _ σ H xs _ Q I1 (by simpa using rv) hw
/-- o[i] = .. -/
def gSub (to ti : TE) (t : TSet) : TG := fun v σ H Q => to σ H fun o H1 => ti σ H1 fun i H2 => t o i v H2 fun H3 => Q σ H3
theorem pg_sub {o i : Expr} {to ti : TE} {t : TSet} (ho : PE X o to) (hi : PE X i ti) (hs : PSet X t)
    (ha : ∀ v, assign (.Subscript o i pos) X.env v = (do
      let ov ← holding [v] (eval o X.env)
      let iv ← holding [v, ov] (eval i X.env)
      standAt pos
      holding [v, ov, iv] (setItem ov iv v)
      release [v, ov, iv] []) := by intro _; rfl) : PG X (.Subscript o i pos) (gSub to ti t) := by
  intro pins s σ H v u Q I r h
  rw [ha]
  refine wpAny_bind (wpAny_holding (thn (ho pins s σ H _ I h) fun ov s1 ⟨x, H1, I1, r1, q1⟩ => ?_))
  refine wpAny_bind (wpAny_holding (thn (hi pins s1 σ H1 _ I1 q1) fun iv s2 ⟨y, H2, I2, r2, q2⟩ => ?_))
  refine wpAny_bind (wpAny_standAt (wpAny_bind (wpAny_holding (thn (hs pins s2 σ H2 x y v ov iv u _ I2 r1 r2 r q2) fun _ s3 ⟨H3, I3, q3⟩ => ?_))))
  exact wpAny_release ⟨σ, H3, I3, q3⟩
/-- target = value -/
def tAsg (te : TE) (g : TG) : TS := fun D σ H => te σ H fun x H1 => g x σ H1 D.nx
theorem ps_asg {tg e : Expr} {te : TE} {g : TG} (he : PE X e te) (hg : PG X tg g) (hs : swapsWithSole [tg] e pos.line X.env = pure false := by rfl) (hw : swappedStores [tg] e X.env = pure none := by rfl)
    (h1 : (assignEach [tg] X.env).map (·.2) = [assign tg X.env] := by rfl) : PS X (.Assign [tg] e pos) (tAsg te g) := by
  intro pins s σ H D I h
  refine wpAny_Assign_stores (thn (he pins s σ H _ I h) fun v s1 ⟨x, H1, I1, r1, q1⟩ => ?_) hs hw
  rw [h1]
  exact thn (hg pins s1 σ H1 x v _ I1 r1 q1) fun _ s2 q => q
/-- name = value -/
theorem ps_set {i : Nat} {x : Str} {e : Expr} {te : TE} {pos' : Pos} (hN : X.N.Nodup) (hi : X.N[i]? = some x) (hx : Loc X.env.scope x) (he : PE X e te) (hs : swapsWith e (some (.Name x pos')) pos.line X.env = pure false := by rfl) (hf : X.fn x = true ∨ X.env.scope.names.lookup x = some .local := by first | exact .inl rfl | exact .inr rfl | assumption) :
    PS X (.Assign [.Name x pos'] e pos) (tAsg te (gName i)) := by
  intro pins s σ H D I h
  refine wpAny_Assign_Name (thn (he pins s σ H _ I h) fun v s1 ⟨y, H1, I1, r1, q1⟩ => ?_) hs
  exact store_ok I1 hN hi hx r1 (fun s2 I2 => ⟨_, H1, I2, q1⟩) hf
/-- a, b = x, y with plain local names: stored from the right; the pair itself is not tracked (the opening rows as in PyProof/Rows/TupAssign.lean:23) -/
def tPar (i j : Nat) (ta : TA) : TS := fun D σ H => ta σ H fun vs H1 => ∃ v w, vs = [v, w] ∧ D.nx ((σ.set i (some v)).set j (some w)) H1
theorem ps_par {i j : Nat} {x y : Str} {a b : Expr} {ta : TA} {px py pt : Pos} {kt k2 pt2} (hc : X.calm = true) (hN : X.N.Nodup) (hi : X.N[i]? = some x) (hj : X.N[j]? = some y) (hij : i ≠ j)
    (hx : X.env.scope.names.lookup x = some .local) (hy : X.env.scope.names.lookup y = some .local) (ha : PA X [a, b] ta)
    (hw : swappedStores [.Tuple [.Name x px, .Name y py] kt pt] (.Tuple [a, b] k2 pt2) X.env = pure (some [x, y]))
    (hs : swapsWithSole [.Tuple [.Name x px, .Name y py] kt pt] (.Tuple [a, b] k2 pt2) pos.line X.env = pure false := by rfl) :
    PS X (.Assign [.Tuple [.Name x px, .Name y py] kt pt] (.Tuple [a, b] k2 pt2) pos) (tPar i j ta) := by
  intro pins s σ H D I h
  rw [exec_Assign_arm]
  refine wpAny_bind (wpAny_standAt ?_)
  rw [hs]
  refine wpAny_bind (wpAny_pure ?_)
  rw [if_neg (by decide)]
  refine wpAny_bind (Tuple_ (thn (ha _ pins s σ H _ I h) fun us s1 ⟨vs, H1, I1, r1, q1⟩ => ?_))
  obtain ⟨v, w, e1, q1⟩ := q1
  subst e1
  obtain ⟨u1, u2, rfl, rv, rw'⟩ : ∃ u1 u2, us = [u1, u2] ∧ RelV v u1 ∧ RelV w u2 := by
    cases r1 with
    | cons p q =>
      cases q with
      | cons p' q' =>
        cases q'
        exact ⟨_, _, rfl, p, p'⟩
  refine wpAny_newObj_type ?_ (by show 2 ≤ sizeLine; decide)
  have I2 : Inv X pins σ H1 { s1 with heap := s1.heap.push { cls := .type "tuple", data := .seq [u1, u2].toArray } } := I1.kept (t' := s1.toks) fun b o e => Heap.get?_push_of_some _ e
  rw [hw]
  refine wpAny_bind (wpAny_pure ?_)
  show wpAny (model X.prog X.w) X.A (do rule "assign.swapped-stores"; let items ← unpackItems (.ref s1.heap.objs.size) 2 none; assignInOrder [fun v => bindName X.env y v, fun v => bindName X.env x v] items.reverse; pure Flow.next) _ _ _
  refine wpAny_bind (wpAny_rule (wpAny_bind (unpackItems_tuple (items := #[u1, u2]) (I.ok.hd hc) (IsTup.new s1.heap _) fun h' hx' => ?_)))
  have I3 := I2.kept (h' := h') (t' := s1.toks) fun b o e => hx' b o (Nat.ne_of_lt (Heap.lt_size e)) e
  show wpAny _ _ (assignInOrder [fun v => bindName X.env y v, fun v => bindName X.env x v] [u2, u1] >>= fun _ => pure Flow.next) _ _ _
  refine wpAny_bind (assignInOrder_cons (wpAny_bindName (store_ok I3 hN hj (.inl hy) rw' (fun s2 I4 => ?_) (.inr hy))))
  refine assignInOrder_cons (wpAny_bindName (store_ok I4 hN hi (.inl hx) rv (fun s3 I5 => assignInOrder_nil (wpAny_pure ?_)) (.inr hx)))
  rw [List.set_comm _ _ (Ne.symm hij)] at I5
  exact ⟨_, H1, I5, q1⟩
/-- name op= e -/
def tAug (i : Nat) (te : TE) (ti : TIp) : TS := fun D σ H => ∃ x, σ[i]? = some (some x) ∧ te σ H fun y H1 => ti x y H1 fun z H2 => D.nx (σ.set i (some z)) H2
theorem ps_aug {i : Nat} {x : Str} {e : Expr} {te : TE} {op : Operator} {ti : TIp} {pos' : Pos} (hN : X.N.Nodup) (hi : X.N[i]? = some x) (hx : Loc X.env.scope x) (he : PE X e te) (ho : PIp X op ti) (hf : X.fn x = true ∨ X.env.scope.names.lookup x = some .local := by first | exact .inl rfl | exact .inr rfl | assumption) :
    PS X (.AugAssign (.Name x pos') op e pos) (tAug i te ti) := by
  intro pins s σ H D I h
  obtain ⟨v, e1, h⟩ := h
  obtain ⟨m, hn, hl⟩ := I.loc
  have vis : Vis X.env.scope x := by rcases hx with k | k; exact .inl k; exact .inr (.inl k)
  obtain ⟨u, r, l⟩ := hl i x v hi e1 vis
  refine wpAny_AugAssign_Name ?_
  have go : wpAny (model X.prog X.w) X.A (eval e X.env) (fun w s₂ => wpAny (model X.prog X.w) X.A (inplaceOp op u w) (fun r s₃ => wpAny (model X.prog X.w) X.A (storeName X.env x r) (fun _ => SP X pins D .next) X.xe s₃) X.xe s₂) X.xe s := by
    refine thn (he pins s σ H _ I h) fun w s1 ⟨y, H1, I1, r1, q1⟩ => ?_
    refine thn (ho pins s1 σ H1 v y u w _ I1 r r1 q1) fun z s2 ⟨zv, H2, I2, r2, q2⟩ => ?_
    exact store_ok I2 hN hi hx r2 (fun s3 I3 => ⟨_, H2, I3, q2⟩) hf
  rcases l with ⟨hk, hm⟩ | ⟨hk, c, hc, hcell⟩
  · exact wpAny_loadName_local I.ok.kind hk hn hm go
  · rcases hk with hk | hk
    · exact wpAny_loadName_cell I.ok.kind hk hc hcell go
    · rcases hx with k | k
      · have : X.env.scope.names.lookup x = some .free := hk
        rw [k] at this; cases this
      · have : X.env.scope.names.lookup x = some .free := hk
        rw [k] at this; cases this
/-- o[i] op= e -/
def tAugS (to ti te : TE) (tget : V → V → Hp → VK → Prop) (tip : TIp) (tset : TSet) : TS := fun D σ H => to σ H fun o H1 => ti σ H1 fun i H2 => tget o i H2 fun x H3 => te σ H3 fun y H4 => tip x y H4 fun z H5 => tset o i z H5 fun H6 => D.nx σ H6
/-- o[i], by values -/
def PGet (X : Cx) (t : V → V → Hp → VK → Prop) : Prop :=
  ∀ (pins : List (Addr × Obj)) (s : Shared) (σ : St) (H : Hp) (o i : V) (ov iv : Value) (Q : VK), Inv X pins σ H s → RelV o ov → RelV i iv → t o i H Q →
    wpAny (model X.prog X.w) X.A (getItem ov iv) (EP X pins σ Q) X.xe s
theorem ps_augS {o i e : Expr} {to ti te : TE} {tget : V → V → Hp → VK → Prop} {tip : TIp} {tset : TSet} {op : Operator} {tpos : Pos} (ho : PE X o to) (hi : PE X i ti) (hg : PGet X tget) (he : PE X e te) (hp : PIp X op tip) (hs : PSet X tset)
    (ha : ∀ ov iv new, augStore i ov iv new = (do holding [new, ov, iv] (setItem ov iv new); release [new, ov, iv] []; pure .next) := by intros; rfl) : PS X (.AugAssign (.Subscript o i tpos) op e pos) (tAugS to ti te tget tip tset) := by
  intro pins s σ H D I h
  refine wpAny_AugAssign_SubscriptAny (thn (ho pins s σ H _ I h) fun ov s1 ⟨x1, H1, I1, r1, q1⟩ => ?_) ha
  refine thn (hi pins s1 σ H1 _ I1 q1) fun iv s2 ⟨x2, H2, I2, r2, q2⟩ => ?_
  refine thn (hg pins s2 σ H2 x1 x2 ov iv _ I2 r1 r2 q2) fun old s3 ⟨x3, H3, I3, r3, q3⟩ => ?_
  refine thn (he pins s3 σ H3 _ I3 q3) fun v s4 ⟨x4, H4, I4, r4, q4⟩ => ?_
  refine thn (hp pins s4 σ H4 x3 x4 old v _ I4 r3 r4 q4) fun new s5 ⟨x5, H5, I5, r5, q5⟩ => ?_
  exact thn (hs pins s5 σ H5 x1 x2 x5 ov iv new _ I5 r1 r2 r5 q5) fun _ s6 ⟨H6, I6, q6⟩ => ⟨σ, H6, I6, q6⟩
/-- ints -/
def ipI (f : Int → Int → Int) : TIp := fun x y H Q => ∃ i j, x = .int i ∧ y = .int j ∧ Q (.int (f i j)) H
theorem ip_add : PIp X .Add (ipI fun i j => i + j) := by
  intro pins s σ H x y v u Q I r1 r2 h
  obtain ⟨i, j, e1, e2, q⟩ := h
  subst e1; subst e2
  obtain ⟨t, rfl⟩ := r1
  obtain ⟨t', rfl⟩ := r2
  exact iadd_int ⟨.int _, H, I.tok _, ⟨_, rfl⟩, q⟩
theorem ip_sub : PIp X .Sub (ipI fun i j => i - j) := by
  intro pins s σ H x y v u Q I r1 r2 h
  obtain ⟨i, j, e1, e2, q⟩ := h
  subst e1; subst e2
  obtain ⟨t, rfl⟩ := r1
  obtain ⟨t', rfl⟩ := r2
  exact isub_int ⟨.int _, H, I.tok _, ⟨_, rfl⟩, q⟩
end

/-! ### while -/
section
variable {X : Cx} {pos : Pos}
/-- the invariant W with its measure -/
def tWhile (c : TT) (tb : TS) : TS := fun D σ H => ∃ W : Nat → St → Hp → Prop, (∃ m, W m σ H) ∧ ∀ m σ H, W m σ H →
  c σ H fun b H1 => if b = true then ∃ N : St → Hp → Prop, (∀ σ' H', N σ' H' → ∃ m', m' < m ∧ W m' σ' H') ∧ tb { D with nx := N, ct := N, bk := D.nx } σ H1 else D.nx σ H1
theorem ps_while {c : Expr} {body : List Stmt} {tc : TT} {tb : TS} (hp : PassesOwn (model X.prog X.w) X.A X.env X.xe) (hc : PT X c tc) (hb : PSs X body tb) : PS X (.While c body [] pos) (tWhile tc tb) := by
  intro pins s σ H D I h
  obtain ⟨W, ⟨m0, w0⟩, turn⟩ := h
  refine wpAny_While (codeAny_whileLoop (fun n s' => ∃ σ' H', Inv X pins σ' H' s' ∧ W n σ' H') ?_ m0 ⟨σ, H, I, w0⟩)
  rintro n s1 ⟨σ1, H1, I1, w1⟩
  refine wpAny_passesOwn hp (thn (hc pins s1 σ1 H1 _ I1 (turn n σ1 H1 w1)) fun b s2 ⟨H2, I2, q2⟩ => ?_)
  cases b with
  | true =>
    obtain ⟨N, hN, q2⟩ := q2
    rw [if_pos rfl]
    refine wpAny_passesOwn hp (thn (hb pins s2 σ1 H2 _ I2 q2) fun f s3 q3 => ?_)
    cases f with
    | next =>
      obtain ⟨σ3, H3, I3, n3⟩ := q3
      obtain ⟨m', hm, w3⟩ := hN σ3 H3 n3
      exact ⟨m', hm, σ3, H3, I3, w3⟩
    | cont =>
      obtain ⟨σ3, H3, I3, n3⟩ := q3
      obtain ⟨m', hm, w3⟩ := hN σ3 H3 n3
      exact ⟨m', hm, σ3, H3, I3, w3⟩
    | brk => exact q3
    | ret v => exact q3
  | false =>
    rw [if_neg Bool.false_ne_true]
    exact wpAny_execs_nil ⟨σ1, H2, I2, q2⟩
end

/-! ### what a loop or a comprehension walks -/
/-- at turn i: it yields x (the heap may grow), or it stops -/
structure It where
  go : Nat → Hp → Prop
  yld : Nat → Hp → V → Hp → Prop
  stop : Nat → Hp → Prop
/-- the iterator's own objects may turn: they are not the frame's, not pinned, younger than the entry (or a comprehension's own) -/
def FpOk (X : Cx) (pins : List (Addr × Obj)) (H : Hp) (b : Addr) : Prop :=
  H b = none ∧ b ≠ X.env.locals ∧ b ∉ X.fs ∧ (b ∈ X.ex ∨ X.s₀.heap.objs.size ≤ b) ∧ (∀ x c, X.env.cells.lookup x = some c → c ≠ b) ∧ ∀ p ∈ X.pn ++ pins, p.1 ≠ b
theorem Inv.fpOk {X : Cx} {pins : List (Addr × Obj)} {σ : St} {H H' : Hp} {s : Shared} {b : Addr} (I : Inv X pins σ H s) (hb : s.heap.objs.size ≤ b) (hn : H' b = none) : FpOk X pins H' b := by
  refine ⟨hn, Nat.ne_of_gt (Nat.lt_of_lt_of_le I.lt hb), I.nofs hb, .inr (Nat.le_trans I.sz hb), fun x c e z => ?_, fun p hp z => ?_⟩
  · obtain ⟨v, q⟩ := I.cell x c e
    exact absurd (Nat.lt_of_lt_of_le q.lt (by rw [z]; exact hb)) (Nat.lt_irrefl _)
  · exact absurd (Nat.lt_of_lt_of_le (Heap.lt_size (I.pin p hp).1) (by rw [z]; exact hb)) (Nat.lt_irrefl _)
structure Turn (P : Program) (w : World) (K : PySem.W.Frag) (tg : Expr) (J : It) (fp : List Addr) (it : Addr) (tn : Nat → Heap → Prop) : Prop where
  mem : it ∈ fp
  obj : ∀ i h, tn i h → ∀ b ∈ fp, ∃ o, h.get? b = some o ∧ ∀ v, o.data ≠ .cell v
  keep : ∀ i h h', tn i h → (∀ b ∈ fp, ∀ o, h.get? b = some o → h'.get? b = some o) → tn i h'
  item : ∀ (X : Cx), X.prog = P → X.w = w → X.K = K → X.calm = true → ∀ (i : Nat) (pins : List (Addr × Obj)) (s : Shared) (σ : St) (H : Hp) (E : Value → Shared → Prop), Inv X pins σ H s → (∀ b ∈ fp, FpOk X pins H b) → tn i s.heap → J.go i H →
    wpAny (model P w) X.A (pyNext (.ref it)) (fun r s1 => ∃ u, r = some u ∧
      wpAny (model P w) X.A (letOwnedTupleGo tg (.ref it) u) (fun _ s2 => ∃ x H', Inv X pins σ H' s2 ∧ RelV x u ∧ J.yld i H x H' ∧ tn (i + 1) s2.heap ∧ ∀ b ∈ fp, H' b = none) E s1) E s
  done : ∀ (X : Cx), X.prog = P → X.w = w → X.K = K → X.calm = true → ∀ (i : Nat) (pins : List (Addr × Obj)) (s : Shared) (σ : St) (H : Hp) (E : Value → Shared → Prop), Inv X pins σ H s → (∀ b ∈ fp, FpOk X pins H b) → tn i s.heap → J.stop i H →
    wpAny (model P w) X.A (pyNext (.ref it)) (fun r s1 => r = none ∧ Inv X pins σ H s1) E s
  self : ∀ (A : Around) (i : Nat) (s : Shared) (Q : Value → Shared → Prop) (E : Value → Shared → Prop), tn i s.heap → Q (.ref it) s → wpAny (model P w) A (pyIter (.ref it)) Q E s
abbrev TI := St → Hp → (It → Hp → Prop) → Prop
/-- an iterator has come -/
def PIE (X : Cx) (pins : List (Addr × Obj)) (σ : St) (tg : Expr) (R : It → Hp → Prop) (itv : Value) (s2 : Shared) : Prop :=
  ∃ (it : Addr) (fp : List Addr) (tn : Nat → Heap → Prop) (J : It) (H' : Hp), itv = .ref it ∧ Inv X pins σ H' s2 ∧ Turn X.prog X.w X.K tg J fp it tn ∧ tn 0 s2.heap ∧ (∀ b ∈ fp, FpOk X pins H' b) ∧ R J H'
def PI (X : Cx) (tg iter : Expr) (wi : TI) : Prop :=
  ∀ (pins : List (Addr × Obj)) (s : Shared) (σ : St) (H : Hp) (R : It → Hp → Prop), Inv X pins σ H s → wi σ H R →
    wpAny (model X.prog X.w) X.A (eval iter X.env) (fun v s1 => wpAny (model X.prog X.w) X.A (pyIter v) (PIE X pins σ tg R) X.xe s1) X.xe s

/-- the step ahead of the store is nothing for an iterator that keeps no tuple -/
theorem go_of {M : Model} {A : Around} {E : Value → Shared → Prop} {s : Shared} {tg : Expr} {it : Addr} {u : Value} {o : Obj} {n : String} {vs : Array Value} {Q : Unit → Shared → Prop} (ho : s.heap.get? it = some o) (hc : o.cls = .type n) (hd : o.data = .fields vs)
    (hn : ["enumerate", "zip", "dict_itemiterator", "dict_reverseitemiterator", "odict_iterator", "itertools.zip_longest", "itertools.pairwise"].contains n = false) (hQ : Q () s) : wpAny M A (letOwnedTupleGo tg (.ref it) u) Q E s := by
  unfold letOwnedTupleGo
  cases tg <;> first
    | exact wpAny_pure hQ
    | (cases u <;> first
        | exact wpAny_pure hQ
        | (refine wpAny_bind (wpAny_load ho ?_)
           rw [hc, hd]
           show wpAny M A (if (["enumerate", "zip", "dict_itemiterator", "dict_reverseitemiterator", "odict_iterator", "itertools.zip_longest", "itertools.pairwise"].contains n && vs[0]? == some (rawInt _)) = true then _ else _) Q E s
           rw [if_neg (by intro h; rw [hn, Bool.false_and] at h; cases h)]
           exact wpAny_pure hQ))

/-- the list at a, as it stands at each turn (a loop may append to it) -/
def Itl (K : PySem.W.Frag) (a : Addr) : It :=
  ⟨fun i H => ∃ xs x, SqL K H a xs ∧ xs[i]? = some x, fun i H x H' => H' = H ∧ ∀ xs, SqL K H a xs → xs[i]? = some x, fun i H => ∃ xs, SqL K H a xs ∧ xs.length ≤ i⟩
def Itt (K : PySem.W.Frag) (a : Addr) : It :=
  ⟨fun i H => ∃ xs x, SqT K H a xs ∧ xs[i]? = some x, fun i H x H' => H' = H ∧ ∀ xs, SqT K H a xs → xs[i]? = some x, fun i H => ∃ xs, SqT K H a xs ∧ xs.length ≤ i⟩
/-- lo, lo + 1, .. (n of them) -/
def Itr (lo : Int) (n : Nat) : It := ⟨fun i _ => i < n, fun i H x H' => H' = H ∧ x = .int (lo + i), fun i _ => n ≤ i⟩
theorem turn_list {P : Program} {w : World} {K : PySem.W.Frag} {tg : Expr} (a it : Addr) : Turn P w K tg (Itl K a) [it] it (fun i h => h.IsListIter it a i) where
  mem := by simp
  obj := fun i h st b hb => by
    have e : b = it := by simpa using hb
    subst e
    obtain ⟨o, e, c, d⟩ := st
    exact ⟨o, e, fun v z => by rw [d] at z; cases z⟩
  keep := fun i h h' st k => st.at fun o e => k it (by simp) o e
  item := by
    intro X hP hw hK hc i pins s σ H E I hf st hg
    subst hP hw hK
    obtain ⟨xs, x, hq, hx⟩ := hg
    obtain ⟨its, rv, p, hz⟩ := I.list hq
    obtain ⟨u, hu, ru⟩ := rv.get hx
    obtain ⟨f0, f1, f2, f3, f4, f5⟩ := hf it (by simp)
    refine wpAny_pyNext_list_item st p.isList (x := u) (by simpa using hu) fun h' st' sb => ?_
    have I1 : Inv X pins σ H { s with heap := h' } := I.turned (t' := s.toks) (fun b o hb e => (sb.2 b hb).trans e) f0 f1 f3 f4 f5
    obtain ⟨o, e, c, d⟩ := id st'
    exact ⟨u, rfl, go_of (s := { s with heap := h' }) e c d (by decide) ⟨x, H, I1, ru, ⟨rfl, fun ys hy => by rw [I.list_inj hy hq]; exact hx⟩, st', fun b hb => (hf b hb).1⟩⟩
  done := by
    intro X hP hw hK hc i pins s σ H E I hf st hg
    subst hP hw hK
    obtain ⟨xs, hq, hx⟩ := hg
    obtain ⟨its, rv, p, hz⟩ := I.list hq
    obtain ⟨f0, f1, f2, f3, f4, f5⟩ := hf it (by simp)
    have hl := rv.length
    exact wpAny_pyNext_list_end (I.ok.hd hc) st p.isList (by simp; omega) fun h' eb => ⟨rfl, I.turned (t' := s.toks) (fun b o hb e => eb b o hb e) f0 f1 f3 f4 f5⟩
  self := fun _ _ _ _ _ st h => wpAny_pyIter_listiter st h
theorem turn_tuple {P : Program} {w : World} {K : PySem.W.Frag} {tg : Expr} (a it : Addr) : Turn P w K tg (Itt K a) [it] it (fun i h => h.IsTupleIter it a i) where
  mem := by simp
  obj := fun i h st b hb => by
    have e : b = it := by simpa using hb
    subst e
    obtain ⟨o, e, c, d⟩ := st
    exact ⟨o, e, fun v z => by rw [d] at z; cases z⟩
  keep := fun i h h' st k => st.at fun o e => k it (by simp) o e
  item := by
    intro X hP hw hK hc i pins s σ H E I hf st hg
    subst hP hw hK
    obtain ⟨xs, x, hq, hx⟩ := hg
    obtain ⟨its, rv, p, hz⟩ := I.tuple hq
    obtain ⟨u, hu, ru⟩ := rv.get hx
    obtain ⟨f0, f1, f2, f3, f4, f5⟩ := hf it (by simp)
    refine wpAny_pyNext_tuple_item st (show s.heap.IsTuple a its.toArray from p) (x := u) (by simpa using hu) fun h' st' sb => ?_
    have I1 : Inv X pins σ H { s with heap := h' } := I.turned (t' := s.toks) (fun b o hb e => (sb.2 b hb).trans e) f0 f1 f3 f4 f5
    obtain ⟨o, e, c, d⟩ := id st'
    exact ⟨u, rfl, go_of (s := { s with heap := h' }) e c d (by decide) ⟨x, H, I1, ru, ⟨rfl, fun ys hy => by rw [I.tuple_inj hy hq]; exact hx⟩, st', fun b hb => (hf b hb).1⟩⟩
  done := by
    intro X hP hw hK hc i pins s σ H E I hf st hg
    subst hP hw hK
    obtain ⟨xs, hq, hx⟩ := hg
    obtain ⟨its, rv, p, hz⟩ := I.tuple hq
    obtain ⟨f0, f1, f2, f3, f4, f5⟩ := hf it (by simp)
    have hl := rv.length
    exact wpAny_pyNext_tuple_end (I.ok.hd hc) st (show s.heap.IsTuple a its.toArray from p) (by simp; omega) fun h' eb => ⟨rfl, I.turned (t' := s.toks) (fun b o hb e => eb b o hb e) f0 f1 f3 f4 f5⟩
  self := fun _ _ _ _ _ st h => wpAny_pyIter_tupleiter st h
theorem turn_range {P : Program} {w : World} {K : PySem.W.Frag} {tg : Expr} (it : Addr) (lo : Int) (n : Nat) : Turn P w K tg (Itr lo n) [it] it (fun i h => IsRangeIter h it (lo + (i : Nat) * 1) ((n : Int) - (i : Nat)) 1) where
  mem := by simp
  obj := fun i h st b hb => by
    have e : b = it := by simpa using hb
    subst e
    exact ⟨_, st, fun v z => by
      have z' : Data.fields _ = Data.cell v := z
      cases z'⟩
  keep := fun i h h' st k => k it (by simp) _ st
  item := by
    intro X hP hw hK hc i pins s σ H E I hf st hg
    subst hP hw hK
    obtain ⟨f0, f1, f2, f3, f4, f5⟩ := hf it (by simp)
    have W := Walks.range (prog := X.prog) (w := X.w) (I.ok.hd hc) it lo 1 n
    refine W.item i s _ _ hg st fun v h' tk hv st' kk => ?_
    obtain ⟨t, rfl⟩ := hv
    have I1 : Inv X pins σ H { s with heap := h', toks := tk } := I.turned (fun b o hb e => kk b o (by simpa using hb) e) f0 f1 f3 f4 f5
    refine ⟨_, rfl, go_of (s := { s with heap := h', toks := tk }) (n := "range_iterator") st' rfl rfl (by decide) ⟨.int (lo + i), H, I1, ⟨t, ?_⟩, ⟨rfl, rfl⟩, st', fun b hb => (hf b hb).1⟩⟩
    rw [Int.mul_one]
  done := by
    intro X hP hw hK hc i pins s σ H E I hf st hg
    subst hP hw hK
    obtain ⟨f0, f1, f2, f3, f4, f5⟩ := hf it (by simp)
    exact wpAny_pyNext_range_end (I.ok.hd hc) st (by have : n ≤ i := hg; omega) fun h' eb => ⟨rfl, I.turned (t' := s.toks) (fun b o hb e => eb b o hb e) f0 f1 f3 f4 f5⟩
  self := fun _ _ _ _ _ st h => wpAny_pyIter_rangeiter st h
end L2

namespace L2
open PySem PySem.Spec PyProof.Rows
section
variable {X : Cx} {tg : Expr}
def iList (K : PySem.W.Frag) (tl : TE) : TI := fun σ H R => tl σ H fun x H1 => ∃ a, x = .ref a ∧ (∃ xs, SqL K H1 a xs) ∧ R (Itl K a) H1
def iTup (K : PySem.W.Frag) (tl : TE) : TI := fun σ H R => tl σ H fun x H1 => ∃ a, x = .ref a ∧ (∃ xs, SqT K H1 a xs) ∧ R (Itt K a) H1
theorem pi_list {l : Expr} {tl : TE} (hl : PE X l tl) : PI X tg l (iList X.K tl) := by
  intro pins s σ H R I h
  refine thn (hl pins s σ H _ I h) fun v s1 ⟨x, H1, I1, r1, q1⟩ => ?_
  obtain ⟨a, e, ⟨xs, hq⟩, q⟩ := q1
  subst e
  cases r1
  obtain ⟨its, rv, p, hz⟩ := I1.list hq
  refine wpAny_pyIter_list p.isList ?_
  refine ⟨s1.heap.objs.size, [s1.heap.objs.size], _, _, H1, rfl, I1.kept (t' := s1.toks) fun b o e => Heap.get?_push_of_some _ e, turn_list a _, ⟨_, Heap.get?_push_size _ rfl, rfl, rfl⟩, fun b hb => ?_, q⟩
  have e : b = s1.heap.objs.size := by simpa using hb
  subst e
  exact I1.fpOk (Nat.le_refl _) (I1.hok.fresh (Nat.le_refl _))
theorem pi_tup {l : Expr} {tl : TE} (hl : PE X l tl) : PI X tg l (iTup X.K tl) := by
  intro pins s σ H R I h
  refine thn (hl pins s σ H _ I h) fun v s1 ⟨x, H1, I1, r1, q1⟩ => ?_
  obtain ⟨a, e, ⟨xs, hq⟩, q⟩ := q1
  subst e
  cases r1
  obtain ⟨its, rv, p, hz⟩ := I1.tuple hq
  refine wpAny_pyIter_tuple (show s1.heap.IsTuple a its.toArray from p) ?_
  refine ⟨s1.heap.objs.size, [s1.heap.objs.size], _, _, H1, rfl, I1.kept (t' := s1.toks) fun b o e => Heap.get?_push_of_some _ e, turn_tuple a _, ⟨_, Heap.get?_push_size _ rfl, rfl, rfl⟩, fun b hb => ?_, q⟩
  have e : b = s1.heap.objs.size := by simpa using hb
  subst e
  exact I1.fpOk (Nat.le_refl _) (I1.hok.fresh (Nat.le_refl _))
/-- a range object just made, walked -/
theorem range_it {pins : List (Addr × Obj)} {σ : St} {H : Hp} {s : Shared} {R : It → Hp → Prop} {E : Value → Shared → Prop} {lo hi : Int} {t u v : Tok} {tk : Nat} (I : Inv X pins σ H s) (h1 : -(2 ^ 62) ≤ lo) (h2 : lo < 2 ^ 62) (h3 : -(2 ^ 62) ≤ hi) (h4 : hi < 2 ^ 62)
    (q : R (Itr lo (hi - lo).toNat) H) : wpAny (model X.prog X.w) X.A (pyIter (.ref s.heap.objs.size)) (PIE X pins σ tg R) E { s with heap := s.heap.push { cls := .type "range", data := .fields #[.int lo t, .int hi u, .int 1 v] }, toks := tk } := by
  refine wpAny_pyIter_range (IsRange.new ..) (small_one h1 h2 h3 h4) ?_
  have I1 : Inv X pins σ H { s with heap := s.heap.push { cls := .type "range", data := .fields #[.int lo t, .int hi u, .int 1 v] }, toks := tk } := I.kept fun b o e => Heap.get?_push_of_some _ e
  refine ⟨(s.heap.push { cls := .type "range", data := .fields #[.int lo t, .int hi u, .int 1 v] }).objs.size, [(s.heap.push { cls := .type "range", data := .fields #[.int lo t, .int hi u, .int 1 v] }).objs.size], _, _, H, rfl,
    I1.kept (t' := tk) fun b o e => Heap.get?_push_of_some _ e, turn_range _ lo (hi - lo).toNat, ?_, fun b hb => ?_, q⟩
  · have e1 : lo + ((0 : Nat) : Int) * 1 = lo := by simp
    have e2 : (((hi - lo).toNat : Nat) : Int) - ((0 : Nat) : Int) = Builtin.Range.rangeSize lo hi 1 := by rw [rangeSize_one]; split <;> omega
    show IsRangeIter _ _ (lo + ((0 : Nat) : Int) * 1) ((((hi - lo).toNat : Nat) : Int) - ((0 : Nat) : Int)) 1
    rw [e1, e2]
    exact Heap.get?_push_size _ rfl
  · have e : b = (s.heap.push { cls := .type "range", data := .fields #[.int lo t, .int hi u, .int 1 v] }).objs.size := by simpa using hb
    subst e
    exact I1.fpOk (Nat.le_refl _) (I1.hok.fresh (Nat.le_refl _))
def iRng1 (ta : TA) : TI := fun σ H R => ta σ H fun vs H1 => ∃ j : Int, vs = [.int j] ∧ -(2 ^ 62) ≤ j ∧ j < 2 ^ 62 ∧ R (Itr 0 j.toNat) H1
def iRng2 (ta : TA) : TI := fun σ H R => ta σ H fun vs H1 => ∃ i j : Int, vs = [.int i, .int j] ∧ (-(2 ^ 62) ≤ i ∧ i < 2 ^ 62 ∧ -(2 ^ 62) ≤ j ∧ j < 2 ^ 62) ∧ R (Itr i (j - i).toNat) H1
theorem pi_range1 {a : Expr} {ta : TA} {p pos : Pos} (hg : Gl X "range") (hm : X.mg "range" = none) (ha : PA X [a] ta) (hs : starEach [a] X.env = [(false, eval a X.env)] := by rfl) : PI X tg (.Call (.Name "range" p) [a] [] pos) (iRng1 ta) := by
  intro pins s σ H R I h
  refine Call_ (ld_blt I hg hm boot_range (PyProof.Rows.callWith_type1 (thn (ha pos pins s σ H _ I h) fun us s1 ⟨vs, H1, I1, r1, q1⟩ => ?_) hs rfl))
  obtain ⟨j, e, q1, q2, q⟩ := q1
  subst e
  cases r1 with
  | cons r rr =>
    cases rr
    obtain ⟨t, rfl⟩ := r
    exact call_range_1 (range_it I1 (by omega) (by omega) q1 q2 (by simpa using q))
theorem pi_range2 {a b : Expr} {ta : TA} {p pos : Pos} (hg : Gl X "range") (hm : X.mg "range" = none) (ha : PA X [a, b] ta) (hs : starEach [a, b] X.env = [(false, eval a X.env), (false, eval b X.env)] := by rfl) (hs2 : starEach [b] X.env = [(false, eval b X.env)] := by rfl) :
    PI X tg (.Call (.Name "range" p) [a, b] [] pos) (iRng2 ta) := by
  intro pins s σ H R I h
  refine Call_ (ld_blt I hg hm boot_range (PyProof.Rows.callWith_type1 (thn (ha pos pins s σ H _ I h) fun us s1 ⟨vs, H1, I1, r1, q1⟩ => ?_) (by rw [hs, hs2]) (by rw [hs2]; rfl)))
  obtain ⟨i, j, e, ⟨q1, q2, q3, q4⟩, q⟩ := q1
  subst e
  cases r1 with
  | cons r rr =>
    cases rr with
    | cons r' rr =>
      cases rr
      obtain ⟨t, rfl⟩ := r
      obtain ⟨t', rfl⟩ := r'
      exact call_range_2 (range_it I1 q1 q2 q3 q4 q)

/-! ### for -/
/-- W: the invariant by the turn and a measure; N: what the body is to reach -/
def tFor (wi : TI) (g : TG) (tb : TS) : TS := fun D σ H => wi σ H fun J H1 => ∃ W : Nat → Nat → St → Hp → Prop, (∃ m, W 0 m σ H1) ∧ ∀ i m σ H, W i m σ H →
  (J.stop i H ∧ D.nx σ H) ∨ (J.go i H ∧ ∃ N : St → Hp → Prop, (∀ σ' H', N σ' H' → ∃ m', m' < m ∧ W (i + 1) m' σ' H') ∧ ∀ x H', J.yld i H x H' → g x σ H' fun σ2 H2 => tb { D with nx := N, ct := N, bk := D.nx } σ2 H2)
/-- the records at fp as they stand -/
def pinsAt (fp : List Addr) (h : Heap) : List (Addr × Obj) := fp.filterMap fun b => (h.get? b).map fun o => (b, o)
theorem mem_pinsAt {fp : List Addr} {h : Heap} {b : Addr} {o : Obj} (hb : b ∈ fp) (e : h.get? b = some o) : (b, o) ∈ pinsAt fp h := List.mem_filterMap.mpr ⟨b, hb, by rw [e]; rfl⟩
theorem of_pinsAt {fp : List Addr} {h : Heap} {p : Addr × Obj} (hp : p ∈ pinsAt fp h) : p.1 ∈ fp ∧ h.get? p.1 = some p.2 := by
  obtain ⟨b, hb, e⟩ := List.mem_filterMap.mp hp
  cases q : h.get? b with
  | none => rw [q] at e; cases e
  | some o =>
    rw [q] at e
    have e' : (b, o) = p := Option.some.inj e
    subst e'
    exact ⟨hb, q⟩
theorem Inv.pinned {pins : List (Addr × Obj)} {σ : St} {H : Hp} {s : Shared} {fp : List Addr} (I : Inv X pins σ H s) (hf : ∀ b ∈ fp, FpOk X pins H b) (ho : ∀ b ∈ fp, ∃ o, s.heap.get? b = some o ∧ ∀ v, o.data ≠ .cell v) : Inv X (pins ++ pinsAt fp s.heap) σ H s :=
  I.pins_of fun p hp => (List.mem_append.mp hp).elim (fun z => I.pin p (List.mem_append_right _ z)) fun z => by
    obtain ⟨hb, e⟩ := of_pinsAt z
    obtain ⟨f0, f1, f2, _⟩ := hf p.1 hb
    obtain ⟨o, e', d⟩ := ho p.1 hb
    rw [e] at e'; cases e'
    exact ⟨e, f0, f1, f2, d⟩
theorem Inv.unpinned {pins pl : List (Addr × Obj)} {σ : St} {H : Hp} {s : Shared} (I : Inv X (pins ++ pl) σ H s) : Inv X pins σ H s := I.pins_of fun p hp => I.pin p (List.mem_append_right _ (List.mem_append_left _ hp))
theorem ps_for {iter : Expr} {body : List Stmt} {wi : TI} {g : TG} {tb : TS} {pos : Pos} (hp : PassesOwn (model X.prog X.w) X.A X.env X.xe) (hc : X.calm = true) (hi : PI X tg iter wi) (hg : PG X tg g) (hb : PSs X body tb)
    (hs : ∀ x, foldedSetIterable iter X.env x = pure x := by intro _; rfl) : PS X (.For tg iter body [] pos) (tFor wi g tb) := by
  intro pins s σ H D I h
  refine wpAny_For (thn (hi pins s σ H _ I h) fun v s1 h1 => thn h1 fun itv s2 h2 => ?_) hs
  obtain ⟨it, fp, tn, J, H2, e, I2, T, st2, f2, W, ⟨m0, w0⟩, turn⟩ := h2
  subst e
  -- what stays true of the iterator's objects through the loop
  have stat : ∀ {H' : Hp}, (∀ b ∈ fp, H' b = none) → ∀ b ∈ fp, FpOk X pins H' b := fun hn b hb => ⟨hn b hb, (f2 b hb).2⟩
  refine codeAny_forLoop_any (fun n s' => ∃ i σ' H', Inv X pins σ' H' s' ∧ tn i s'.heap ∧ (∀ b ∈ fp, H' b = none) ∧ W i n σ' H') ?_ m0 ⟨0, σ, H2, I2, st2, fun b hb => (f2 b hb).1, w0⟩
  rintro n s3 ⟨i, σ3, H3, I3, st3, fr3, w3⟩
  rcases turn i n σ3 H3 w3 with ⟨stop, qn⟩ | ⟨go, N, hN, step⟩
  · refine wpAny_passesOwn hp (thn (T.done X rfl rfl rfl hc i pins s3 σ3 H3 X.xe I3 (stat fr3) st3 stop) fun r s4 ⟨hr, I4⟩ => ?_)
    subst hr
    exact wpAny_execs_nil ⟨σ3, H3, I4, qn⟩
  · refine wpAny_passesOwn hp (thn (T.item X rfl rfl rfl hc i pins s3 σ3 H3 X.xe I3 (stat fr3) st3 go) fun r s4 ⟨u, hr, h4⟩ => ?_)
    subst hr
    refine wpAny_passesOwn hp (thn h4 fun _ s5 ⟨x, H5, I5, r5, y5, st5, fr5⟩ => ?_)
    have I5' := I5.pinned (stat fr5) (T.obj _ _ st5)
    refine wpAny_passesOwn hp (thn (hg _ s5 σ3 H5 x u _ I5' r5 (step x H5 y5)) fun _ s6 ⟨σ6, H6, I6, q6⟩ => ?_)
    refine wpAny_passesOwn hp (thn (hb _ s6 σ6 H6 _ I6 q6) fun f s7 q7 => ?_)
    have again : ∀ {σ7 : St} {H7 : Hp}, Inv X (pins ++ pinsAt fp s5.heap) σ7 H7 s7 → N σ7 H7 → ∃ m, m < n ∧ ∃ i σ' H', Inv X pins σ' H' s7 ∧ tn i s7.heap ∧ (∀ b ∈ fp, H' b = none) ∧ W i m σ' H' := fun {σ7 H7} I7 n7 => by
      obtain ⟨m', hm, w7⟩ := hN σ7 H7 n7
      refine ⟨m', hm, i + 1, σ7, H7, I7.unpinned, T.keep _ _ _ st5 fun b hb o e => (I7.pin (b, o) (List.mem_append_right _ (List.mem_append_right _ (mem_pinsAt hb e)))).1, fun b hb => ?_, w7⟩
      obtain ⟨o, e, d⟩ := T.obj _ _ st5 b hb
      exact (I7.pin (b, o) (List.mem_append_right _ (List.mem_append_right _ (mem_pinsAt hb e)))).2.1
    cases f with
    | next => obtain ⟨σ7, H7, I7, n7⟩ := q7; exact again I7 n7
    | cont => obtain ⟨σ7, H7, I7, n7⟩ := q7; exact again I7 n7
    | brk => obtain ⟨σ7, H7, I7, q7⟩ := q7; exact ⟨σ7, H7, I7.unpinned, q7⟩
    | ret v => obtain ⟨x7, σ7, H7, I7, r7, q7⟩ := q7; exact ⟨x7, σ7, H7, I7.unpinned, r7, q7⟩
end

/-! ### the forms one uses -/
/-- over a list that the body leaves as it is -/
theorem for_list {K : PySem.W.Frag} {a : Addr} {xs : List V} {g : TG} {tb : TS} {D : Ends} {σ : St} {H : Hp} (Pv : Nat → St → Hp → Prop) (h0 : Pv 0 σ H) (hl : ∀ i σ H, i ≤ xs.length → Pv i σ H → SqL K H a xs)
    (hs : ∀ i x σ H, xs[i]? = some x → Pv i σ H → g x σ H fun σ2 H2 => tb { D with nx := Pv (i + 1), ct := Pv (i + 1), bk := D.nx } σ2 H2) (hd : ∀ σ H, Pv xs.length σ H → D.nx σ H) :
    ∃ W : Nat → Nat → St → Hp → Prop, (∃ m, W 0 m σ H) ∧ ∀ i m σ H, W i m σ H →
      ((Itl K a).stop i H ∧ D.nx σ H) ∨ ((Itl K a).go i H ∧ ∃ N : St → Hp → Prop, (∀ σ' H', N σ' H' → ∃ m', m' < m ∧ W (i + 1) m' σ' H') ∧ ∀ x H', (Itl K a).yld i H x H' → g x σ H' fun σ2 H2 => tb { D with nx := N, ct := N, bk := D.nx } σ2 H2) := by
  refine ⟨fun i m σ H => m = xs.length - i ∧ i ≤ xs.length ∧ Pv i σ H, ⟨xs.length, by simp, Nat.zero_le _, h0⟩, ?_⟩
  rintro i m σ H ⟨rfl, hi, p⟩
  have q := hl i σ H hi p
  by_cases hlt : i < xs.length
  · refine .inr ⟨⟨xs, xs[i], q, by simp [hlt]⟩, Pv (i + 1), fun σ' H' p' => ⟨xs.length - (i + 1), by omega, rfl, hlt, p'⟩, fun x H' y => ?_⟩
    obtain ⟨e, y⟩ := y
    subst e
    exact hs i x σ _ (y xs q) p
  · have e : i = xs.length := by omega
    subst e
    exact .inl ⟨⟨xs, q, Nat.le_refl _⟩, hd σ H p⟩
theorem for_tup {K : PySem.W.Frag} {a : Addr} {xs : List V} {g : TG} {tb : TS} {D : Ends} {σ : St} {H : Hp} (Pv : Nat → St → Hp → Prop) (h0 : Pv 0 σ H) (hl : ∀ i σ H, i ≤ xs.length → Pv i σ H → SqT K H a xs)
    (hs : ∀ i x σ H, xs[i]? = some x → Pv i σ H → g x σ H fun σ2 H2 => tb { D with nx := Pv (i + 1), ct := Pv (i + 1), bk := D.nx } σ2 H2) (hd : ∀ σ H, Pv xs.length σ H → D.nx σ H) :
    ∃ W : Nat → Nat → St → Hp → Prop, (∃ m, W 0 m σ H) ∧ ∀ i m σ H, W i m σ H →
      ((Itt K a).stop i H ∧ D.nx σ H) ∨ ((Itt K a).go i H ∧ ∃ N : St → Hp → Prop, (∀ σ' H', N σ' H' → ∃ m', m' < m ∧ W (i + 1) m' σ' H') ∧ ∀ x H', (Itt K a).yld i H x H' → g x σ H' fun σ2 H2 => tb { D with nx := N, ct := N, bk := D.nx } σ2 H2) := by
  refine ⟨fun i m σ H => m = xs.length - i ∧ i ≤ xs.length ∧ Pv i σ H, ⟨xs.length, by simp, Nat.zero_le _, h0⟩, ?_⟩
  rintro i m σ H ⟨rfl, hi, p⟩
  have q := hl i σ H hi p
  by_cases hlt : i < xs.length
  · refine .inr ⟨⟨xs, xs[i], q, by simp [hlt]⟩, Pv (i + 1), fun σ' H' p' => ⟨xs.length - (i + 1), by omega, rfl, hlt, p'⟩, fun x H' y => ?_⟩
    obtain ⟨e, y⟩ := y
    subst e
    exact hs i x σ _ (y xs q) p
  · have e : i = xs.length := by omega
    subst e
    exact .inl ⟨⟨xs, q, Nat.le_refl _⟩, hd σ H p⟩
theorem for_range {lo : Int} {n : Nat} {g : TG} {tb : TS} {D : Ends} {σ : St} {H : Hp} (Pv : Nat → St → Hp → Prop) (h0 : Pv 0 σ H)
    (hs : ∀ i σ H, i < n → Pv i σ H → g (.int (lo + i)) σ H fun σ2 H2 => tb { D with nx := Pv (i + 1), ct := Pv (i + 1), bk := D.nx } σ2 H2) (hd : ∀ σ H, Pv n σ H → D.nx σ H) :
    ∃ W : Nat → Nat → St → Hp → Prop, (∃ m, W 0 m σ H) ∧ ∀ i m σ H, W i m σ H →
      ((Itr lo n).stop i H ∧ D.nx σ H) ∨ ((Itr lo n).go i H ∧ ∃ N : St → Hp → Prop, (∀ σ' H', N σ' H' → ∃ m', m' < m ∧ W (i + 1) m' σ' H') ∧ ∀ x H', (Itr lo n).yld i H x H' → g x σ H' fun σ2 H2 => tb { D with nx := N, ct := N, bk := D.nx } σ2 H2) := by
  refine ⟨fun i m σ H => m = n - i ∧ i ≤ n ∧ Pv i σ H, ⟨n, by simp, Nat.zero_le _, h0⟩, ?_⟩
  rintro i m σ H ⟨rfl, hi, p⟩
  by_cases hlt : i < n
  · refine .inr ⟨hlt, Pv (i + 1), fun σ' H' p' => ⟨n - (i + 1), by omega, rfl, hlt, p'⟩, fun x H' y => ?_⟩
    obtain ⟨e, y⟩ := y
    subst e y
    exact hs i σ _ hlt p
  · have e : i = n := by omega
    subst e
    exact .inl ⟨Nat.le_refl _, hd σ H p⟩
/-- while, by a word and a measure of the state -/
theorem while_by {c : TT} {tb : TS} {D : Ends} {σ : St} {H : Hp} (Pv : St → Hp → Prop) (μ : St → Hp → Nat) (h0 : Pv σ H)
    (hs : ∀ σ H, Pv σ H → c σ H fun b H1 => if b = true then tb { D with nx := fun σ' H' => Pv σ' H' ∧ μ σ' H' < μ σ H, ct := fun σ' H' => Pv σ' H' ∧ μ σ' H' < μ σ H, bk := D.nx } σ H1 else D.nx σ H1)
    (mono : ∀ σ H Q Q', (∀ b H1, Q b H1 → Q' b H1) → c σ H Q → c σ H Q') : tWhile c tb D σ H := by
  refine ⟨fun m σ H => m = μ σ H ∧ Pv σ H, ⟨_, rfl, h0⟩, ?_⟩
  rintro m σ H ⟨rfl, p⟩
  refine mono σ H _ _ (fun b H1 q => ?_) (hs σ H p)
  cases b with
  | true => exact ⟨_, fun σ' H' ⟨p', l⟩ => ⟨_, l, rfl, p'⟩, q⟩
  | false => exact q
end L2

namespace L2
open PySem PySem.Spec PyProof.Rows

abbrev R2 := V → V → Hp → VK → Prop
/-- a two-place operation on values: f is binaryOp op, inplaceOp op or compareOp op -/
def OpR (X : Cx) (f : Value → Value → Sem Value) (r : R2) : Prop :=
  ∀ (pins : List (Addr × Obj)) (s : Shared) (σ : St) (H : Hp) (x y : V) (v u : Value) (Q : VK), Inv X pins σ H s → RelV x v → RelV y u → r x y H Q →
    wpAny (model X.prog X.w) X.A (f v u) (EP X pins σ Q) X.xe s
/-- a one-place operation -/
def UnR (X : Cx) (f : Value → Sem Value) (r : V → Hp → VK → Prop) : Prop :=
  ∀ (pins : List (Addr × Obj)) (s : Shared) (σ : St) (H : Hp) (x : V) (v : Value) (Q : VK), Inv X pins σ H s → RelV x v → r x H Q →
    wpAny (model X.prog X.w) X.A (f v) (EP X pins σ Q) X.xe s
/-- a call of a value that is known (a builtin, a type) with values -/
def CallR (X : Cx) (f : Value) (r : List V → Hp → VK → Prop) : Prop :=
  ∀ (pins : List (Addr × Obj)) (s : Shared) (σ : St) (H : Hp) (xs : List V) (us : List Value) (Q : VK), Inv X pins σ H s → Vals xs us → r xs H Q →
    wpAny (model X.prog X.w) X.A (call f us) (EP X pins σ Q) X.xe s
/-- a value's truth -/
def TruR (X : Cx) (r : V → Hp → (Bool → Hp → Prop) → Prop) : Prop :=
  ∀ (pins : List (Addr × Obj)) (s : Shared) (σ : St) (H : Hp) (x : V) (v : Value) (Q : Bool → Hp → Prop), Inv X pins σ H s → RelV x v → r x H Q →
    wpAny (model X.prog X.w) X.A (truthy v) (TP X pins σ Q) X.xe s

def tOp (r : R2) (ta tb : TE) : TE := fun σ H Q => ta σ H fun x H1 => tb σ H1 fun y H2 => r x y H2 Q
def tUn (r : V → Hp → VK → Prop) (ta : TE) : TE := fun σ H Q => ta σ H fun x H1 => r x H1 Q
/-- ints in, under C, and a value out -/
def rI (C : Int → Int → Prop) (g : Int → Int → V) : R2 := fun x y H Q => ∃ i j, x = .int i ∧ y = .int j ∧ C i j ∧ Q (g i j) H
def rI0 (g : Int → Int → V) : R2 := fun x y H Q => ∃ i j, x = .int i ∧ y = .int j ∧ Q (g i j) H
def rU (g : Int → V) : V → Hp → VK → Prop := fun x H Q => ∃ i, x = .int i ∧ Q (g i) H

section
variable {X : Cx} {a b c : Expr} {ta tb tc : TE} {pos : Pos}

theorem binT (ha : PE X a ta) (hb : PE X b tb) {pins : List (Addr × Obj)} {s : Shared} {σ : St} {H : Hp} {R : V → V → Hp → Prop} (I : Inv X pins σ H s)
    (h : ta σ H fun x H1 => tb σ H1 fun y H2 => R x y H2) {Q : Value → Shared → Prop} {f : Value → Value → Sem Value}
    (hf : ∀ v u s2 x y H2, Inv X pins σ H2 s2 → RelV x v → RelV y u → R x y H2 → wpAny (model X.prog X.w) X.A (f v u) Q X.xe s2) :
    wpAny (model X.prog X.w) X.A (eval a X.env) (fun v s₁ => wpAny (model X.prog X.w) X.A (eval b X.env) (fun u s₂ => wpAny (model X.prog X.w) X.A (f v u) Q X.xe s₂) X.xe s₁) X.xe s := by
  refine thn (ha pins s σ H _ I h) fun v s1 ⟨x, H1, I1, r1, q1⟩ => ?_
  refine thn (hb pins s1 σ H1 _ I1 q1) fun u s2 ⟨y, H2, I2, r2, q2⟩ => ?_
  exact hf v u s2 x y H2 I2 r1 r2 q2

theorem pe_op {op : Operator} {r : R2} (ho : OpR X (binaryOp op) r) (ha : PE X a ta) (hb : PE X b tb) : PE X (.BinOp a op b pos) (tOp r ta tb) := by
  intro pins s σ H Q I h
  exact wpAny_BinOp (binT ha hb I h fun v u s2 x y H2 I2 rx ry q => ho pins s2 σ H2 x y v u Q I2 rx ry q)
theorem pe_un {op : UnaryOp} {r : V → Hp → VK → Prop} (ho : UnR X (unaryOp op) r) (ha : PE X a ta) : PE X (.UnaryOp op a pos) (tUn r ta) := by
  intro pins s σ H Q I h
  exact UnaryOp_ (thn (ha pins s σ H _ I h) fun v s1 ⟨x, H1, I1, r1, q1⟩ => ho pins s1 σ H1 x v Q I1 r1 q1)
/-- a op= e at a name: the name's slot i -/
theorem augR {op : Operator} {r : R2} (ho : OpR X (inplaceOp op) r) {pins : List (Addr × Obj)} {s : Shared} {σ : St} {H : Hp} {x y : V} {v u : Value} {Q : VK} (I : Inv X pins σ H s)
    (rx : RelV x v) (ry : RelV y u) (q : r x y H Q) : wpAny (model X.prog X.w) X.A (inplaceOp op v u) (EP X pins σ Q) X.xe s := ho pins s σ H x y v u Q I rx ry q

/-! ### ints -/
theorem opI {f : Value → Value → Sem Value} {C : Int → Int → Prop} {g : Int → Int → Int}
    (rule : ∀ (i j : Int) (t u : Tok) (s : Shared) (Q : Value → Shared → Prop) (E : Value → Shared → Prop), C i j → Q (.int (g i j) s.toks) { s with toks := s.toks + 1 } → wpAny (model X.prog X.w) X.A (f (.int i t) (.int j u)) Q E s) :
    OpR X f (rI C fun i j => .int (g i j)) := by
  intro pins s σ H x y v u Q I rx ry h
  obtain ⟨i, j, rfl, rfl, hc, q⟩ := h
  obtain ⟨t, rfl⟩ := rx
  obtain ⟨t', rfl⟩ := ry
  exact rule i j t t' s _ _ hc ⟨.int (g i j), H, I.tok _, ⟨_, rfl⟩, q⟩
theorem opI0 {f : Value → Value → Sem Value} {g : Int → Int → Int}
    (rule : ∀ (i j : Int) (t u : Tok) (s : Shared) (Q : Value → Shared → Prop) (E : Value → Shared → Prop), Q (.int (g i j) s.toks) { s with toks := s.toks + 1 } → wpAny (model X.prog X.w) X.A (f (.int i t) (.int j u)) Q E s) :
    OpR X f (rI0 fun i j => .int (g i j)) := by
  intro pins s σ H x y v u Q I rx ry h
  obtain ⟨i, j, rfl, rfl, q⟩ := h
  obtain ⟨t, rfl⟩ := rx
  obtain ⟨t', rfl⟩ := ry
  exact rule i j t t' s _ _ ⟨.int (g i j), H, I.tok _, ⟨_, rfl⟩, q⟩
theorem opB0 {f : Value → Value → Sem Value} {g : Int → Int → Bool}
    (rule : ∀ (i j : Int) (t u : Tok) (s : Shared) (Q : Value → Shared → Prop) (E : Value → Shared → Prop), Q (.bool (g i j)) s → wpAny (model X.prog X.w) X.A (f (.int i t) (.int j u)) Q E s) :
    OpR X f (rI0 fun i j => .bl (g i j)) := by
  intro pins s σ H x y v u Q I rx ry h
  obtain ⟨i, j, rfl, rfl, q⟩ := h
  obtain ⟨t, rfl⟩ := rx
  obtain ⟨t', rfl⟩ := ry
  exact rule i j t t' s _ _ ⟨.bl (g i j), H, I, rfl, q⟩

def CDiv (i j : Int) : Prop := 0 < j ∧ j < 1073741824
def CDivN (i j : Int) : Prop := j ≠ 0 ∧ j.natAbs < 1073741824
def CPow (i j : Int) : Prop := 0 ≤ j ∧ j ≤ 1000000 ∧ i.natAbs < 2 ^ 64
def CMul (i j : Int) : Prop := (-(2 ^ 64) < i ∧ i < 2 ^ 64) ∨ (-(2 ^ 64) < j ∧ j < 2 ^ 64)
theorem CMul.ok {i j : Int} (h : CMul i j) : IntMulOk i j := by
  rcases h with ⟨h1, h2⟩ | ⟨h1, h2⟩
  · exact .of_left (intBits_le_64 h1 h2)
  · exact .of_right (intBits_le_64 h1 h2)
theorem two_pow_nn (k : Nat) : (0 : Int) ≤ 2 ^ k := by
  rw [two_pow_cast]
  exact Int.natCast_nonneg _

theorem op_add : OpR X (binaryOp .Add) (rI0 fun i j => .int (i + j)) := opI0 fun _ _ _ _ _ _ _ q => add_int q
theorem op_sub : OpR X (binaryOp .Sub) (rI0 fun i j => .int (i - j)) := opI0 fun _ _ _ _ _ _ _ q => sub_int q
theorem op_mul : OpR X (binaryOp .Mult) (rI CMul fun i j => .int (i * j)) := opI fun _ _ _ _ _ _ _ hc q => mul_int q hc.ok
/-- // by a positive divisor -/
theorem op_fdiv : OpR X (binaryOp .FloorDiv) (rI CDiv fun i j => .int (i / j)) := opI fun i j _ _ _ _ _ hc q => by
  have h1 : (0 : Int) < j := hc.1
  have h2 : j < 1073741824 := hc.2
  exact floordiv_int (by omega) (by rw [Int.fdiv_eq_ediv_of_nonneg i (by omega)]; exact q) (.inl (PyProof.noPylong_small (by omega)))
theorem op_fdivN : OpR X (binaryOp .FloorDiv) (rI CDivN fun i j => .int (i.fdiv j)) := opI fun _ _ _ _ _ _ _ hc q => floordiv_int hc.1 q (.inl (PyProof.noPylong_small hc.2))
/-- % by a positive divisor of any size -/
theorem op_mod : OpR X (binaryOp .Mod) (rI (fun _ j => 0 < j) fun i j => .int (i % j)) := opI fun i j _ _ _ _ _ hc q => by
  have h1 : (0 : Int) < j := hc
  exact mod_int' (by omega) (by rw [Int.fmod_eq_emod_of_nonneg i (by omega)]; exact q)
theorem op_modN : OpR X (binaryOp .Mod) (rI (fun _ j => j ≠ 0) fun i j => .int (i.fmod j)) := opI fun _ _ _ _ _ _ _ hc q => mod_int' hc q
theorem op_pow : OpR X (binaryOp .Pow) (rI CPow fun i j => .int (i ^ j.toNat)) := opI fun _ _ _ _ _ _ _ hc q => pow_int_small hc.1 hc.2.1 hc.2.2 q
theorem op_shl : OpR X (binaryOp .LShift) (rI CPow fun i j => .int (i * 2 ^ j.toNat)) := opI fun _ _ _ _ _ _ _ hc q => lshift_int_small hc.1 hc.2.1 hc.2.2 q
theorem op_shr : OpR X (binaryOp .RShift) (rI (fun _ j => 0 ≤ j) fun i j => .int (i / 2 ^ j.toNat)) := opI fun i j _ _ _ _ _ hc q =>
  rshift_int hc (by rw [Int.fdiv_eq_ediv_of_nonneg i (two_pow_nn _)]; exact q)
theorem op_and : OpR X (binaryOp .BitAnd) (rI0 fun i j => .int (Builtin.bitAnd i j)) := opI0 fun _ _ _ _ _ _ _ q => and_int q
theorem op_or : OpR X (binaryOp .BitOr) (rI0 fun i j => .int (Builtin.bitOr i j)) := opI0 fun _ _ _ _ _ _ _ q => or_int q
theorem op_xor : OpR X (binaryOp .BitXor) (rI0 fun i j => .int (Builtin.bitXor i j)) := opI0 fun _ _ _ _ _ _ _ q => xor_int q

theorem iop_add : OpR X (inplaceOp .Add) (rI0 fun i j => .int (i + j)) := opI0 fun _ _ _ _ _ _ _ q => iadd_int q
theorem iop_sub : OpR X (inplaceOp .Sub) (rI0 fun i j => .int (i - j)) := opI0 fun _ _ _ _ _ _ _ q => isub_int q
theorem iop_mul : OpR X (inplaceOp .Mult) (rI CMul fun i j => .int (i * j)) := opI fun _ _ _ _ _ _ _ hc q => imul_int q hc.ok
theorem iop_fdiv : OpR X (inplaceOp .FloorDiv) (rI CDiv fun i j => .int (i / j)) := opI fun i j _ _ _ _ _ hc q => by
  have h1 : (0 : Int) < j := hc.1
  have h2 : j < 1073741824 := hc.2
  exact ifloordiv_int (by omega) (by rw [Int.fdiv_eq_ediv_of_nonneg i (by omega)]; exact q) (.inl (PyProof.noPylong_small (by omega)))
theorem iop_mod : OpR X (inplaceOp .Mod) (rI (fun _ j => 0 < j) fun i j => .int (i % j)) := opI fun i j _ _ _ _ _ hc q => by
  have h1 : (0 : Int) < j := hc
  exact imod_int (by omega) (by rw [Int.fmod_eq_emod_of_nonneg i (by omega)]; exact q)
theorem iop_shl : OpR X (inplaceOp .LShift) (rI CPow fun i j => .int (i * 2 ^ j.toNat)) := opI fun _ _ _ _ _ _ _ hc q => ilshift_int_small hc.1 hc.2.1 hc.2.2 q
theorem iop_shr : OpR X (inplaceOp .RShift) (rI (fun _ j => 0 ≤ j) fun i j => .int (i / 2 ^ j.toNat)) := opI fun i j _ _ _ _ _ hc q =>
  irshift_int hc (by rw [Int.fdiv_eq_ediv_of_nonneg i (two_pow_nn _)]; exact q)
theorem iop_and : OpR X (inplaceOp .BitAnd) (rI0 fun i j => .int (Builtin.bitAnd i j)) := opI0 fun _ _ _ _ _ _ _ q => iand_int q
theorem iop_or : OpR X (inplaceOp .BitOr) (rI0 fun i j => .int (Builtin.bitOr i j)) := opI0 fun _ _ _ _ _ _ _ q => ior_int q
theorem iop_xor : OpR X (inplaceOp .BitXor) (rI0 fun i j => .int (Builtin.bitXor i j)) := opI0 fun _ _ _ _ _ _ _ q => ixor_int q

theorem unI {f : Value → Sem Value} {g : Int → Int}
    (rule : ∀ (i : Int) (t : Tok) (s : Shared) (Q : Value → Shared → Prop) (E : Value → Shared → Prop), Q (.int (g i) s.toks) { s with toks := s.toks + 1 } → wpAny (model X.prog X.w) X.A (f (.int i t)) Q E s) :
    UnR X f (rU fun i => .int (g i)) := by
  intro pins s σ H x v Q I rx h
  obtain ⟨i, rfl, q⟩ := h
  obtain ⟨t, rfl⟩ := rx
  exact rule i t s _ _ ⟨.int (g i), H, I.tok _, ⟨_, rfl⟩, q⟩
theorem un_neg : UnR X (unaryOp .USub) (rU fun i => .int (-i)) := unI fun _ _ _ _ _ q => neg_int q
theorem un_inv : UnR X (unaryOp .Invert) (rU fun i => .int (Builtin.bitNot i)) := unI fun _ _ _ _ _ q => invert_int q

/-! ### bools among ints: n += (a < b) -/
theorem op_add_ib : OpR X (binaryOp .Add) (fun x y H Q => ∃ i k, x = .int i ∧ y = .bl k ∧ Q (.int (i + b2i k)) H) := by
  intro pins s σ H x y v u Q I rx ry h
  obtain ⟨i, k, rfl, rfl, q⟩ := h
  obtain ⟨t, rfl⟩ := rx
  cases ry
  exact add_int_bool ⟨.int (i + b2i k), H, I.tok _, ⟨_, rfl⟩, q⟩
end

/-! ### comparisons -/
/-- the scalars that == tells apart as data does -/
def scal : V → V → Bool
  | .non, .non => true | .non, .int _ => true | .int _, .non => true | .non, .bl _ => true | .bl _, .non => true | .non, .str _ => true | .str _, .non => true
  | .int _, .int _ => true | .bl _, .bl _ => true | .str _, .str _ => true | .byt _, .byt _ => true
  | .int _, .str _ => true | .str _, .int _ => true | .bl _, .str _ => true | .str _, .bl _ => true
  | _, _ => false
def rEq : R2 := fun x y H Q => scal x y = true ∧ Q (.bl (decide (x = y))) H
def rNe : R2 := fun x y H Q => scal x y = true ∧ Q (.bl (!decide (x = y))) H

theorem dec_int {i j : Int} : decide (V.int i = V.int j) = (i == j) := by
  rw [Bool.eq_iff_iff]
  simp
theorem dec_bl {i j : Bool} : decide (V.bl i = V.bl j) = (i == j) := by
  rw [Bool.eq_iff_iff]
  simp
theorem dec_str {i j : Str} : decide (V.str i = V.str j) = (i == j) := by
  rw [Bool.eq_iff_iff]
  simp
theorem dec_byt {i j : Array UInt8} : decide (V.byt i = V.byt j) = (i.toList == j.toList) := by
  rw [Bool.eq_iff_iff]
  cases i
  cases j
  simp

section
variable {X : Cx} {a b c : Expr} {ta tb tc : TE} {pos : Pos}
theorem fin_bl {pins : List (Addr × Obj)} {σ : St} {H : Hp} {s : Shared} {Q : VK} {k k' : Bool} (I : Inv X pins σ H s) (q : Q (.bl k) H) (e : k = k') : EP X pins σ Q (.bool k') s := by
  subst e
  exact ⟨.bl k, H, I, rfl, q⟩
theorem op_eq : OpR X (compareOp .Eq) rEq := by
  intro pins s σ H x y v u Q I rx ry h
  obtain ⟨hs, q⟩ := h
  cases x with
  | non =>
    cases rx
    cases y with
    | non => cases ry; exact PySem.EqNone.eq_none_none (fin_bl I q (by simp))
    | bl j => cases ry; exact PySem.EqNone.eq_none_bool (fin_bl I q (by simp))
    | int j => obtain ⟨t', rfl⟩ := ry; exact PySem.EqNone.eq_none_int (fin_bl I q (by simp))
    | str j => obtain ⟨t', rfl⟩ := ry; exact PySem.EqNone.eq_none_str (fin_bl I q (by simp))
    | _ => exact absurd (show false = true from hs) Bool.false_ne_true
  | bl i =>
    cases rx
    cases y with
    | non => cases ry; exact PySem.EqNone.eq_bool_none (fin_bl I q (by simp))
    | bl j => cases ry; exact eq_bool (fin_bl I q dec_bl)
    | str j => obtain ⟨t', rfl⟩ := ry; exact PySem.EqMixed.eq_bool_str (fin_bl I q (by simp))
    | _ => exact absurd (show false = true from hs) Bool.false_ne_true
  | int i =>
    obtain ⟨t, rfl⟩ := rx
    cases y with
    | non => cases ry; exact PySem.EqNone.eq_int_none (fin_bl I q (by simp))
    | int j => obtain ⟨t', rfl⟩ := ry; exact eq_int (fin_bl I q dec_int)
    | str j => obtain ⟨t', rfl⟩ := ry; exact PySem.EqMixed.eq_int_str (fin_bl I q (by simp))
    | _ => exact absurd (show false = true from hs) Bool.false_ne_true
  | str i =>
    obtain ⟨t, rfl⟩ := rx
    cases y with
    | non => cases ry; exact PySem.EqNone.eq_str_none (fin_bl I q (by simp))
    | bl j => cases ry; exact PySem.EqMixed.eq_str_bool (fin_bl I q (by simp))
    | int j => obtain ⟨t', rfl⟩ := ry; exact PySem.EqMixed.eq_str_int (fin_bl I q (by simp))
    | str j => obtain ⟨t', rfl⟩ := ry; exact eq_str (fin_bl I q dec_str)
    | _ => exact absurd (show false = true from hs) Bool.false_ne_true
  | byt i =>
    obtain ⟨t, rfl⟩ := rx
    cases y with
    | byt j => obtain ⟨t', rfl⟩ := ry; exact PySem.W.eq_bytes (fin_bl I q dec_byt)
    | _ => exact absurd (show false = true from hs) Bool.false_ne_true
  | _ => cases y <;> exact absurd (show false = true from hs) Bool.false_ne_true
theorem op_ne : OpR X (compareOp .NotEq) rNe := by
  intro pins s σ H x y v u Q I rx ry h
  obtain ⟨hs, q⟩ := h
  cases x with
  | non =>
    cases rx
    cases y with
    | non => cases ry; exact PySem.EqNone.ne_none_none (fin_bl I q (by simp))
    | bl j => cases ry; exact PySem.EqNone.ne_none_bool (fin_bl I q (by simp))
    | int j => obtain ⟨t', rfl⟩ := ry; exact PySem.EqNone.ne_none_int (fin_bl I q (by simp))
    | str j => obtain ⟨t', rfl⟩ := ry; exact PySem.EqNone.ne_none_str (fin_bl I q (by simp))
    | _ => exact absurd (show false = true from hs) Bool.false_ne_true
  | bl i =>
    cases rx
    cases y with
    | non => cases ry; exact PySem.EqNone.ne_bool_none (fin_bl I q (by simp))
    | bl j => cases ry; exact ne_bool (fin_bl I q (congrArg not dec_bl))
    | str j => obtain ⟨t', rfl⟩ := ry; exact PySem.EqMixed.ne_bool_str (fin_bl I q (by simp))
    | _ => exact absurd (show false = true from hs) Bool.false_ne_true
  | int i =>
    obtain ⟨t, rfl⟩ := rx
    cases y with
    | non => cases ry; exact PySem.EqNone.ne_int_none (fin_bl I q (by simp))
    | int j => obtain ⟨t', rfl⟩ := ry; exact ne_int (fin_bl I q (congrArg not dec_int))
    | str j => obtain ⟨t', rfl⟩ := ry; exact PySem.EqMixed.ne_int_str (fin_bl I q (by simp))
    | _ => exact absurd (show false = true from hs) Bool.false_ne_true
  | str i =>
    obtain ⟨t, rfl⟩ := rx
    cases y with
    | non => cases ry; exact PySem.EqNone.ne_str_none (fin_bl I q (by simp))
    | bl j => cases ry; exact PySem.EqMixed.ne_str_bool (fin_bl I q (by simp))
    | int j => obtain ⟨t', rfl⟩ := ry; exact PySem.EqMixed.ne_str_int (fin_bl I q (by simp))
    | str j => obtain ⟨t', rfl⟩ := ry; exact ne_str (fin_bl I q (congrArg not dec_str))
    | _ => exact absurd (show false = true from hs) Bool.false_ne_true
  | byt i =>
    obtain ⟨t, rfl⟩ := rx
    cases y with
    | byt j => obtain ⟨t', rfl⟩ := ry; exact PySem.W.ne_bytes (fin_bl I q (congrArg not dec_byt))
    | _ => exact absurd (show false = true from hs) Bool.false_ne_true
  | _ => cases y <;> exact absurd (show false = true from hs) Bool.false_ne_true

theorem op_lt : OpR X (compareOp .Lt) (rI0 fun i j => .bl (decide (i < j))) := opB0 fun _ _ _ _ _ _ _ q => lt_int q
theorem op_le : OpR X (compareOp .LtE) (rI0 fun i j => .bl (decide (i ≤ j))) := opB0 fun _ _ _ _ _ _ _ q => le_int q
theorem op_gt : OpR X (compareOp .Gt) (rI0 fun i j => .bl (decide (j < i))) := opB0 fun _ _ _ _ _ _ _ q => gt_int q
theorem op_ge : OpR X (compareOp .GtE) (rI0 fun i j => .bl (decide (j ≤ i))) := opB0 fun _ _ _ _ _ _ _ q => ge_int q
theorem op_lt_str : OpR X (compareOp .Lt) (fun x y H Q => ∃ i j, x = .str i ∧ y = .str j ∧ Q (.bl (decide (i.cps.toList < j.cps.toList))) H) := by
  intro pins s σ H x y v u Q I rx ry h
  obtain ⟨i, j, rfl, rfl, q⟩ := h
  obtain ⟨t, rfl⟩ := rx
  obtain ⟨t', rfl⟩ := ry
  exact lt_str (fin_bl I q rfl)
/-- the one string within the other -/
theorem op_in_str : OpR X (compareOp .In) (fun x y H Q => ∃ i j, x = .str i ∧ y = .str j ∧ Q (.bl (!(Builtin.Str.occurrences j i 0 j.length 1).isEmpty)) H) := by
  intro pins s σ H x y v u Q I rx ry h
  obtain ⟨i, j, rfl, rfl, q⟩ := h
  obtain ⟨t, rfl⟩ := rx
  obtain ⟨t', rfl⟩ := ry
  exact in_str (fin_bl I q rfl)

/-- is None, is not None: the right side a value none -/
theorem op_isN : OpR X (compareOp .Is) (fun x y H Q => y = .non ∧ Q (.bl (decide (x = .non))) H) := by
  intro pins s σ H x y v u Q I rx ry h
  obtain ⟨rfl, q⟩ := h
  cases ry
  refine is_none_gen (fin_bl I q ?_)
  cases x <;> first
    | (cases rx; rfl)
    | (obtain ⟨t, rfl⟩ := rx; rfl)
theorem op_notN : OpR X (compareOp .IsNot) (fun x y H Q => y = .non ∧ Q (.bl (!decide (x = .non))) H) := by
  intro pins s σ H x y v u Q I rx ry h
  obtain ⟨rfl, q⟩ := h
  cases ry
  refine isnot_none_gen (fin_bl I q ?_)
  cases x <;> first
    | (cases rx; rfl)
    | (obtain ⟨t, rfl⟩ := rx; rfl)

theorem op_notin_str : OpR X (compareOp .NotIn) (fun x y H Q => ∃ i j, x = .str i ∧ y = .str j ∧ Q (.bl (!(!(Builtin.Str.occurrences j i 0 j.length 1).isEmpty))) H) := by
  intro pins s σ H x y v u Q I rx ry h
  obtain ⟨i, j, rfl, rfl, q⟩ := h
  obtain ⟨t, rfl⟩ := rx
  obtain ⟨t', rfl⟩ := ry
  exact notIn_str (fin_bl I q rfl)
/-- is, is not of two objects that are tracked lists or instances -/
def isObj : HO → Bool
  | .lst _ => true
  | .ins _ _ _ => true
  | _ => false
theorem obj_there {pins : List (Addr × Obj)} {s : Shared} {σ : St} {H : Hp} {a : Addr} {o : HO} (I : Inv X pins σ H s) (h : H a = some o) (p : isObj o = true) : ∃ ob, s.heap.get? a = some ob ∧ ob.cls ≠ .type "tuple" := by
  cases o with
  | lst xs =>
    obtain ⟨_, its, n, _, e⟩ : xs.length ≤ sizeLine ∧ ∃ (its : List Value) (n : Nat), Vals xs its ∧ s.heap.get? a = some { cls := .type "list", data := .seq its.toArray n } := I.hok a _ h
    exact ⟨_, e, (by show Value.type "list" ≠ .type "tuple"; decide +kernel)⟩
  | ins C dx fs =>
    have x := I.hok a _ h
    obtain ⟨_, _, _, e, _⟩ := x
    exact ⟨_, e, (by show Value.ref C ≠ .type "tuple"; exact fun z => by cases z)⟩
  | _ => exact absurd (show false = true from p) Bool.false_ne_true
theorem op_is_ref : OpR X (compareOp .Is) (fun x y H Q => ∃ a b oa ob, x = .ref a ∧ y = .ref b ∧ H a = some oa ∧ isObj oa = true ∧ H b = some ob ∧ isObj ob = true ∧ Q (.bl (decide (a = b))) H) := by
  intro pins s σ H x y v u Q I rx ry h
  obtain ⟨a, b, oa, ob, rfl, rfl, ha, pa, hb, pb, q⟩ := h
  cases rx
  cases ry
  obtain ⟨o1, e1, n1⟩ := obj_there I ha pa
  obtain ⟨o2, e2, _⟩ := obj_there I hb pb
  by_cases z : a = b
  · subst z
    exact wpAny_is_ref_self (fin_bl I q (by simp))
  · exact wpAny_is_ref_other z e1 e2 n1 (fin_bl I q (by simp [z]))
theorem op_isnot_ref : OpR X (compareOp .IsNot) (fun x y H Q => ∃ a b oa ob, x = .ref a ∧ y = .ref b ∧ H a = some oa ∧ isObj oa = true ∧ H b = some ob ∧ isObj ob = true ∧ Q (.bl (!decide (a = b))) H) := by
  intro pins s σ H x y v u Q I rx ry h
  obtain ⟨a, b, oa, ob, rfl, rfl, ha, pa, hb, pb, q⟩ := h
  cases rx
  cases ry
  obtain ⟨o1, e1, n1⟩ := obj_there I ha pa
  obtain ⟨o2, e2, _⟩ := obj_there I hb pb
  by_cases z : a = b
  · subst z
    exact wpAny_isNot_ref_self (fin_bl I q (by simp))
  · exact wpAny_isNot_ref_other z e1 e2 n1 (fin_bl I q (by simp [z]))

/-- two rules for one operation: by cases -/
theorem OpR.or {f : Value → Value → Sem Value} {r r' : R2} (h : OpR X f r) (h' : OpR X f r') : OpR X f (fun x y H Q => r x y H Q ∨ r' x y H Q) := by
  intro pins s σ H x y v u Q I rx ry q
  rcases q with q | q
  · exact h pins s σ H x y v u Q I rx ry q
  · exact h' pins s σ H x y v u Q I rx ry q

theorem nomark (b : Expr) {op : CmpOp} (h : op ≠ .In := by decide) (h2 : op ≠ .NotIn := by decide) : behindInMarks op b = false := by
  have e1 : (op == CmpOp.In) = false := by cases op <;> first | rfl | exact absurd rfl h
  have e2 : (op == CmpOp.NotIn) = false := by cases op <;> first | rfl | exact absurd rfl h2
  cases b <;> simp [behindInMarks, e1, e2]
/-- a comparison as a value; hm: nomark b, or (for in, not in) by with_unfolding_all rfl -/
theorem pe_cmpR {op : CmpOp} {r : R2} (ho : OpR X (compareOp op) r) (ha : PE X a ta) (hb : PE X b tb) (hm : behindInMarks op b = false) : PE X (.Compare a [op] [b] pos) (tOp r ta tb) := by
  intro pins s σ H Q I h
  exact wpAny_Compare1 (binT ha hb I h fun v u s2 x y H2 I2 rx ry q => ho pins s2 σ H2 x y v u Q I2 rx ry q) hm
/-- a reading of a value as a test -/
def tTest (t : TE) : TT := fun σ H Q => t σ H fun x H' => ∃ k, x = .bl k ∧ Q k H'
theorem pt_cmpR {op : CmpOp} {r : R2} (ho : OpR X (compareOp op) r) (ha : PE X a ta) (hb : PE X b tb) (hm : behindInMarks op b = false) : PT X (.Compare a [op] [b] pos) (tTest (tOp r ta tb)) := by
  intro pins s σ H Q I h
  refine wpAny_isTrue_Compare1 (thn (ha pins s σ H _ I h) fun v s1 ⟨x, H1, I1, r1, q1⟩ => thn (hb pins s1 σ H1 _ I1 q1) fun u s2 ⟨y, H2, I2, r2, q2⟩ =>
    thn (ho pins s2 σ H2 x y v u _ I2 r1 r2 q2) fun c s3 ⟨z, H3, I3, r3, k, e, q3⟩ => ?_) hm
  subst e
  cases r3
  exact wpAny_truthy_bool ⟨H3, I3, q3⟩
/-- a op1 b op2 c -/
def tChain (r r' : R2) (ta tb tc : TE) : TE := fun σ H Q => ta σ H fun x H1 => tb σ H1 fun y H2 => r x y H2 fun z H3 => ∃ k, z = .bl k ∧
  (if k = true then tc σ H3 fun w' H4 => r' y w' H4 Q else Q (.bl false) H3)
theorem pe_chain {op op' : CmpOp} {r r' : R2} (ho : OpR X (compareOp op) r) (ho' : OpR X (compareOp op') r') (ha : PE X a ta) (hb : PE X b tb) (hc : PE X c tc)
    (hm : lastMarks [op, op'] [b, c] = false := by with_unfolding_all rfl) : PE X (.Compare a [op, op'] [b, c] pos) (tChain r r' ta tb tc) := by
  intro pins s σ H Q I h
  refine Compare_chain (thn (ha pins s σ H _ I h) fun v s1 ⟨x, H1, I1, r1, q1⟩ => chain_link (thn (hb pins s1 σ H1 _ I1 q1) fun u s2 ⟨y, H2, I2, r2, q2⟩ =>
    thn (ho pins s2 σ H2 x y v u _ I2 r1 r2 q2) fun d s3 ⟨z, H3, I3, r3, k, e, q3⟩ => ?_)) hm
  subst e
  cases r3
  refine wpAny_truthy_bool ?_
  cases k with
  | false => exact ite_ff ⟨.bl false, H3, I3, rfl, q3⟩
  | true => exact ite_tt (chain_last (thn (hc pins s3 σ H3 _ I3 q3) fun w' s4 ⟨z', H4, I4, r4, q4⟩ => ho' pins s4 σ H4 y z' u w' Q I4 r2 r4 q4))
theorem pt_chain {op op' : CmpOp} {r r' : R2} (ho : OpR X (compareOp op) r) (ho' : OpR X (compareOp op') r') (ha : PE X a ta) (hb : PE X b tb) (hc : PE X c tc)
    (hm : lastMarks [op, op'] [b, c] = false := by with_unfolding_all rfl) : PT X (.Compare a [op, op'] [b, c] pos) (tTest (tChain r r' ta tb tc)) := by
  intro pins s σ H Q I h
  refine isTrue_chain (thn (ha pins s σ H _ I h) fun v s1 ⟨x, H1, I1, r1, q1⟩ => test_link (thn (hb pins s1 σ H1 _ I1 q1) fun u s2 ⟨y, H2, I2, r2, q2⟩ =>
    thn (ho pins s2 σ H2 x y v u _ I2 r1 r2 q2) fun d s3 ⟨z, H3, I3, r3, k, e, q3⟩ => ?_)) hm
  subst e
  cases r3
  refine wpAny_truthy_bool ?_
  cases k with
  | false =>
    obtain ⟨k', e', q'⟩ := q3
    cases e'
    exact ite_ff ⟨H3, I3, q'⟩
  | true =>
    refine ite_tt (test_last (thn (hc pins s3 σ H3 _ I3 q3) fun w' s4 ⟨z', H4, I4, r4, q4⟩ => thn (ho' pins s4 σ H4 y z' u w' _ I4 r2 r4 q4) fun d' s5 ⟨z2, H5, I5, r5, k2, e2, q5⟩ => ?_))
    subst e2
    cases r5
    exact wpAny_truthy_bool ⟨H5, I5, q5⟩

/-! ### truth -/
/-- a value's truth by the abstract heap -/
def TruV (K : PySem.W.Frag) (x : V) (H : Hp) (k : Bool) : Prop :=
  match x with
  | .non => k = false
  | .bl b => k = b
  | .int i => k = (i != 0)
  | .str y => y.length ≤ sizeLine ∧ k = ((y.length : Int) != 0)
  | .byt y => y.size ≤ sizeLine ∧ k = ((y.size : Int) != 0)
  | .ref p => (∃ xs, SqL K H p xs ∧ k = !xs.isEmpty) ∨ (∃ xs, SqT K H p xs ∧ k = !xs.isEmpty) ∨ ∃ kvs, H p = some (.dK kvs) ∧ k = !kvs.isEmpty
  | _ => False
theorem isEmpty_kv {κ : Type} {kvs : List (κ × V)} {vs : List (κ × Value)} (r : KV kvs vs) : (!vs.isEmpty) = !kvs.isEmpty := by
  cases r <;> rfl
theorem isEmpty_of {xs : List V} {its : List Value} (r : Vals xs its) : (!its.toArray.isEmpty) = !xs.isEmpty := by
  cases r <;> simp
theorem line63 : (sizeLine : Nat) < 2 ^ 63 := by rw [sizeLine_eq]; decide
theorem tru_ok : TruR X (fun x H Q => ∃ k, TruV X.K x H k ∧ Q k H) := by
  intro pins s σ H x v Q I rx h
  obtain ⟨k, e, q⟩ := h
  have hl := line63
  have hs : sizeLine = 16777216 := sizeLine_eq
  cases x with
  | non =>
    cases rx
    have e' : k = false := e
    subst e'
    exact truthy_none ⟨H, I, q⟩
  | bl b =>
    cases rx
    have e' : k = b := e
    subst e'
    exact wpAny_truthy_bool ⟨H, I, q⟩
  | int i =>
    obtain ⟨t, rfl⟩ := rx
    have e' : k = (i != 0) := e
    subst e'
    exact PySem.P.truthy_int ⟨H, I, q⟩
  | str y =>
    obtain ⟨t, rfl⟩ := rx
    obtain ⟨hy, e'⟩ : y.length ≤ sizeLine ∧ k = ((y.length : Int) != 0) := e
    subst e'
    exact PySem.P.truthy_str (by omega) ⟨H, I.tok _, q⟩
  | byt y =>
    obtain ⟨t, rfl⟩ := rx
    obtain ⟨hy, e'⟩ : y.size ≤ sizeLine ∧ k = ((y.size : Int) != 0) := e
    subst e'
    exact PySem.W.truthy_bytes (by omega) ⟨H, I.tok _, q⟩
  | ref p =>
    cases rx
    have e' : (∃ xs, SqL X.K H p xs ∧ k = !xs.isEmpty) ∨ (∃ xs, SqT X.K H p xs ∧ k = !xs.isEmpty) ∨ ∃ kvs, H p = some (.dK kvs) ∧ k = !kvs.isEmpty := e
    rcases e' with ⟨xs, hx, e'⟩ | ⟨xs, hx, e'⟩ | ⟨kvs, hx, e'⟩
    · subst e'
      obtain ⟨its, r, pl, hz⟩ := I.list hx
      have hlen := r.length
      exact wpAny_truthy_list pl.isList (by simp only [List.size_toArray]; omega) ⟨H, I.tok _, by rw [isEmpty_of r]; exact q⟩
    · subst e'
      obtain ⟨its, r, pl, hz⟩ := I.tuple hx
      have hlen := r.length
      exact truthy_tuple pl (by simp only [List.size_toArray]; omega) ⟨H, I.tok _, by rw [isEmpty_of r]; exact q⟩
    · subst e'
      obtain ⟨hz, hS, vs, r, m⟩ : kvs.length ≤ sizeLine ∧ (p == sysModules) = false ∧ ∃ vs, KV kvs vs ∧ s.heap.DictOf (mixKind X.prog X.w) p vs := I.hok p _ hx
      have hlen : kvs.length = vs.length := Paired.length r
      exact wpAny_truthy_dict hS m (by omega) ⟨H, I.tok _, by rw [isEmpty_kv r]; exact q⟩
  | _ => exact (show False from e).elim
/-- any expression whose test is its value's truth (a name, a call, a subscript, a field ..: he by fun _ => rfl) -/
theorem pt_truth (ha : PE X a ta) (he : ∀ whole, isTrue a X.env whole = (do let v ← whole; standAt a.pos; holding [v] (truthy v))) :
    PT X a (fun σ H Q => ta σ H fun x H' => ∃ k, TruV X.K x H' k ∧ Q k H') := by
  intro pins s σ H Q I h
  exact isTrue_plain (thn (ha pins s σ H _ I h) fun v s1 ⟨x, H1, I1, r1, q1⟩ => tru_ok pins s1 σ H1 x v Q I1 r1 q1) (he _)

/-! ### strs and bytes -/
theorem pe_byt {x : List UInt8} {k : Nat} : PE X (.Constant (.bytes x) k pos) (fun _ H Q => Q (.byt x.toArray) H) := fun _ _ _ H _ I h => PySem.W.Constant_bytes ⟨.byt x.toArray, H, I.tok _, ⟨_, rfl⟩, h⟩
theorem op_add_str : OpR X (binaryOp .Add) (fun x y H Q => ∃ i j, x = .str i ∧ y = .str j ∧ i.length + j.length ≤ sizeLine ∧ Q (.str (i ++ j)) H) := by
  intro pins s σ H x y v u Q I rx ry h
  obtain ⟨i, j, rfl, rfl, hz, q⟩ := h
  obtain ⟨t, rfl⟩ := rx
  obtain ⟨t', rfl⟩ := ry
  exact add_str (fun t' tk => ⟨.str (i ++ j), H, I.tok _, ⟨_, rfl⟩, q⟩) hz
theorem iop_add_str : OpR X (inplaceOp .Add) (fun x y H Q => ∃ i j, x = .str i ∧ y = .str j ∧ i.length + j.length ≤ sizeLine ∧ Q (.str (i ++ j)) H) := by
  intro pins s σ H x y v u Q I rx ry h
  obtain ⟨i, j, rfl, rfl, hz, q⟩ := h
  obtain ⟨t, rfl⟩ := rx
  obtain ⟨t', rfl⟩ := ry
  exact iadd_str (fun t' tk => ⟨.str (i ++ j), H, I.tok _, ⟨_, rfl⟩, q⟩) hz
theorem op_add_byt : OpR X (binaryOp .Add) (fun x y H Q => ∃ i j, x = .byt i ∧ y = .byt j ∧ i.size + j.size ≤ 16777216 ∧ Q (.byt (i ++ j)) H) := by
  intro pins s σ H x y v u Q I rx ry h
  obtain ⟨i, j, rfl, rfl, hz, q⟩ := h
  obtain ⟨t, rfl⟩ := rx
  obtain ⟨t', rfl⟩ := ry
  exact PySem.W.KBy.add_bytes hz (fun t' tk => ⟨.byt (i ++ j), H, I.tok _, ⟨_, rfl⟩, q⟩)

def PlainIxT (b : Expr) : Prop := ∀ o i, subscripted b false o i = operate [o, i] (getItem o i)
/-- s[i], 0 ≤ i < len -/
theorem pe_item_str (ha : PE X a ta) (hb : PE X b tb) (hs : PlainIxT b) :
    PE X (.Subscript a b pos) (tOp (fun x y H Q => ∃ z i c, x = .str z ∧ y = .int i ∧ 0 ≤ i ∧ i < 2 ^ 63 ∧ i < z.length ∧ z.cps[i.toNat]? = some c ∧ Q (.str ⟨#[c]⟩) H) ta tb) := by
  intro pins s σ H Q I h
  refine Subscript_ (binT ha hb I h fun v u s2 x y H2 I2 rx ry q => ?_)
  obtain ⟨z, i, c, rfl, rfl, h0, h63, h1, hc, q⟩ := q
  obtain ⟨t, rfl⟩ := rx
  obtain ⟨t', rfl⟩ := ry
  have e : seqIndex? i z.length = some i.toNat := PySem.StrLaws.seqIndex_nonneg h0 h1
  exact tail_any (typeIs_str s2 z t) slot_str_getitem.lookup (getItem_str (c := c) (by
    have e1 : decide (i < -(2 ^ 63 : Int)) = false := decide_eq_false (by omega)
    have e2 : decide (i ≥ 2 ^ 63) = false := decide_eq_false (by omega)
    rw [e1, e2] <;> rfl) (by rw [e]; exact hc) ⟨.str ⟨#[c]⟩, H2, I2.tok _, ⟨_, rfl⟩, q⟩) (hs _ _)
/-- b[i], 0 ≤ i < len -/
theorem pe_item_byt (ha : PE X a ta) (hb : PE X b tb) (hs : PlainIxT b) :
    PE X (.Subscript a b pos) (tOp (fun x y H Q => ∃ (z : List UInt8) (i : Int), x = .byt z.toArray ∧ y = .int i ∧ z.length ≤ sizeLine ∧ 0 ≤ i ∧ i < z.length ∧ Q (.int ((z.getD i.toNat 0).toNat : Nat)) H) ta tb) := by
  intro pins s σ H Q I h
  refine Subscript_ (binT ha hb I h fun v u s2 x y H2 I2 rx ry q => ?_)
  obtain ⟨z, i, rfl, rfl, hz, h0, h1, q⟩ := q
  obtain ⟨t, rfl⟩ := rx
  obtain ⟨t', rfl⟩ := ry
  have hl : sizeLine = 16777216 := sizeLine_eq
  exact tail_any (PySem.W.typeIs_bytes s2 z.toArray t) PySem.W.FB.slot_bytes_getitem.lookup (PySem.W.getItem_bytes (by omega) h0 h1 ⟨.int ((z.getD i.toNat 0).toNat : Nat), H2, I2.tok _, ⟨_, rfl⟩, q⟩) (hs _ _)

/-! ### scalar builtins, by CallR -/
theorem vals1 {x : V} {us : List Value} (r : Vals [x] us) : ∃ u, us = [u] ∧ RelV x u := by
  cases r with
  | cons r1 r2 => cases r2; exact ⟨_, rfl, r1⟩
theorem vals2 {x y : V} {us : List Value} (r : Vals [x, y] us) : ∃ u w', us = [u, w'] ∧ RelV x u ∧ RelV y w' := by
  cases r with
  | cons r1 r2 =>
    cases r2 with
    | cons r3 r4 => cases r4; exact ⟨_, _, rfl, r1, r3⟩
theorem call_abs : CallR X (.builtin "abs") (fun xs H Q => ∃ i, xs = [.int i] ∧ Q (.int (if i < 0 then -i else i)) H) := by
  intro pins s σ H xs us Q I r h
  obtain ⟨i, rfl, q⟩ := h
  obtain ⟨u, rfl, t, rfl⟩ := vals1 r
  exact call_abs_int fun u tk => ⟨.int (if i < 0 then -i else i), H, I.tok _, ⟨_, rfl⟩, q⟩
theorem call_max2 (hc : X.calm = true) : CallR X (.builtin "max") (fun xs H Q => ∃ i j, xs = [.int i, .int j] ∧ Q (.int (if j > i then j else i)) H) := by
  intro pins s σ H xs us Q I r h
  obtain ⟨i, j, rfl, q⟩ := h
  obtain ⟨u, w', rfl, ⟨t, rfl⟩, ⟨t', rfl⟩⟩ := vals2 r
  refine max_two_ints (I.ok.hd hc) fun h' tk k => ⟨_, H, I.kept k, ?_, q⟩
  by_cases hj : j > i
  · rw [if_pos hj, if_pos hj]; exact ⟨_, rfl⟩
  · rw [if_neg hj, if_neg hj]; exact ⟨_, rfl⟩
theorem call_min2 (hc : X.calm = true) : CallR X (.builtin "min") (fun xs H Q => ∃ i j, xs = [.int i, .int j] ∧ Q (.int (if j < i then j else i)) H) := by
  intro pins s σ H xs us Q I r h
  obtain ⟨i, j, rfl, q⟩ := h
  obtain ⟨u, w', rfl, ⟨t, rfl⟩, ⟨t', rfl⟩⟩ := vals2 r
  refine min_two_ints (I.ok.hd hc) fun h' tk k => ⟨_, H, I.kept k, ?_, q⟩
  by_cases hj : j < i
  · rw [if_pos hj, if_pos hj]; exact ⟨_, rfl⟩
  · rw [if_neg hj, if_neg hj]; exact ⟨_, rfl⟩
theorem call_int1 : CallR X (.type "int") (fun xs H Q => (∃ i, xs = [.int i] ∧ Q (.int i) H) ∨ ∃ k, xs = [.bl k] ∧ Q (.int (if k then 1 else 0)) H) := by
  intro pins s σ H xs us Q I r h
  rcases h with ⟨i, rfl, q⟩ | ⟨k, rfl, q⟩
  · obtain ⟨u, rfl, t, rfl⟩ := vals1 r
    exact call_int_int ⟨.int i, H, I, ⟨_, rfl⟩, q⟩
  · obtain ⟨u, rfl, r1⟩ := vals1 r
    cases r1
    exact call_int_bool ⟨.int (if k then 1 else 0), H, I.tok _, ⟨_, rfl⟩, q⟩
theorem call_bool1 : CallR X (.type "bool") (fun xs H Q => (∃ i, xs = [.int i] ∧ Q (.bl (i != 0)) H) ∨ ∃ k, xs = [.bl k] ∧ Q (.bl k) H) := by
  intro pins s σ H xs us Q I r h
  rcases h with ⟨i, rfl, q⟩ | ⟨k, rfl, q⟩
  · obtain ⟨u, rfl, t, rfl⟩ := vals1 r
    exact call_bool_int ⟨.bl (i != 0), H, I, rfl, q⟩
  · obtain ⟨u, rfl, r1⟩ := vals1 r
    cases r1
    exact call_bool_bool ⟨.bl k, H, I, rfl, q⟩
theorem call_str_int : CallR X (.type "str") (fun xs H Q => ∃ i, xs = [.int i] ∧ i.natAbs.log2 < 1920 ∧ Q (.str (toString i)) H) := by
  intro pins s σ H xs us Q I r h
  obtain ⟨i, rfl, hz, q⟩ := h
  obtain ⟨u, rfl, t, rfl⟩ := vals1 r
  exact PySem.P.str_of_int hz ⟨.str _, H, I.tok _, ⟨_, rfl⟩, q⟩
theorem call_ord : CallR X (.builtin "ord") (fun xs H Q => ∃ x, xs = [.str x] ∧ x.length = 1 ∧ Q (.int (x.cps.getD 0 0 : Nat)) H) := by
  intro pins s σ H xs us Q I r h
  obtain ⟨x, rfl, hz, q⟩ := h
  obtain ⟨u, rfl, t, rfl⟩ := vals1 r
  exact ord_of_one hz ⟨.int _, H, I.tok _, ⟨_, rfl⟩, q⟩
theorem call_chr : CallR X (.builtin "chr") (fun xs H Q => ∃ i, xs = [.int i] ∧ 0 ≤ i ∧ i ≤ 1114111 ∧ Q (.str ⟨#[i.toNat]⟩) H) := by
  intro pins s σ H xs us Q I r h
  obtain ⟨i, rfl, h0, h1, q⟩ := h
  obtain ⟨u, rfl, t, rfl⟩ := vals1 r
  exact chr_of_range h0 h1 ⟨.str _, H, I.tok _, ⟨_, rfl⟩, q⟩
/-- len of a str, a bytes, a list, a tuple -/
def LenV (K : PySem.W.Frag) (x : V) (H : Hp) (n : Nat) : Prop :=
  match x with
  | .str y => y.length ≤ sizeLine ∧ n = y.length
  | .byt y => y.size ≤ sizeLine ∧ n = y.size
  | .ref p => (∃ xs, SqL K H p xs ∧ n = xs.length) ∨ ∃ xs, SqT K H p xs ∧ n = xs.length
  | _ => False
theorem call_len : CallR X (.builtin "len") (fun xs H Q => ∃ x n, xs = [x] ∧ LenV X.K x H n ∧ Q (.int n) H) := by
  intro pins s σ H xs us Q I r h
  obtain ⟨x, n, rfl, e, q⟩ := h
  obtain ⟨u, rfl, rx⟩ := vals1 r
  have hl := line63
  have hs : sizeLine = 16777216 := sizeLine_eq
  cases x with
  | str y =>
    obtain ⟨t, rfl⟩ := rx
    obtain ⟨hy, e'⟩ : y.length ≤ sizeLine ∧ n = y.length := e
    subst e'
    exact len_str (by omega) ⟨.int _, H, I.tok _, ⟨_, rfl⟩, q⟩
  | byt y =>
    obtain ⟨t, rfl⟩ := rx
    obtain ⟨hy, e'⟩ : y.size ≤ sizeLine ∧ n = y.size := e
    subst e'
    exact PySem.W.len_bytes (by omega) ⟨.int _, H, I.tok _, ⟨_, rfl⟩, q⟩
  | ref p =>
    cases rx
    have e' : (∃ xs, SqL X.K H p xs ∧ n = xs.length) ∨ ∃ xs, SqT X.K H p xs ∧ n = xs.length := e
    rcases e' with ⟨xs, hx, e'⟩ | ⟨xs, hx, e'⟩
    · subst e'
      obtain ⟨its, r', pl, hz⟩ := I.list hx
      have hlen := r'.length
      exact Calls.call_len_list pl.isList (by simp only [List.size_toArray]; omega) ⟨.int xs.length, H, I.tok _, ⟨_, by simp only [List.size_toArray]; rw [hlen]⟩, q⟩
    · subst e'
      obtain ⟨its, r', pl, hz⟩ := I.tuple hx
      have hlen := r'.length
      exact len_tuple pl (by simp only [List.size_toArray]; omega) ⟨.int xs.length, H, I.tok _, ⟨_, by simp only [List.size_toArray]; rw [hlen]⟩, q⟩
  | _ => exact (show False from e).elim
/-- divmod: a new tuple -/
theorem call_divmod : CallR X (.builtin "divmod") (fun xs H Q => ∃ i j, xs = [.int i, .int j] ∧ CDiv i j ∧ ∀ p, H p = none → Q (.ref p) (upd H p (.tup [.int (i / j), .int (i % j)]))) := by
  intro pins s σ H xs us Q I r h
  obtain ⟨i, j, rfl, ⟨h1, h2⟩, q⟩ := h
  obtain ⟨u, w', rfl, ⟨t, rfl⟩, ⟨t', rfl⟩⟩ := vals2 r
  refine divmod_int (by omega) ?_ (.inl (PyProof.noPylong_small (by omega)))
  rw [Int.fdiv_eq_ediv_of_nonneg i (by omega), Int.fmod_eq_emod_of_nonneg i (by omega)]
  have hn : H s.heap.objs.size = none := I.hok.fresh (Nat.le_refl _)
  refine ⟨.ref s.heap.objs.size, _, ?_, rfl, q _ hn⟩
  refine I.laid (fun b o e => Heap.get?_push_of_some _ e) (Nat.le_refl _) ⟨by simp only [List.length_cons, List.length_nil]; rw [sizeLine_eq]; decide, [.int (i / j) s.toks, .int (i % j) (s.toks + 1)], .cons ⟨_, rfl⟩ (.cons ⟨_, rfl⟩ .nil), ?_⟩
  exact ⟨_, Heap.get?_push_size s.heap rfl, rfl, 0, rfl⟩
end
end L2

namespace L2
open PySem PySem.Spec PyProof.Rows

/-! ### an instance, its attributes a map -/
structure ObjM (h : Heap) (x dx C : Addr) (mA : Str → Option Value) : Prop where
  obj : h.get? x = some (PySem.W.instObj C dx)
  ns : h.Ns1 dx mA
  ne : dx ≠ x

theorem lookIn_ns {h : Heap} {dx : Addr} {mA : Str → Option Value} (n : h.Ns1 dx mA) : ∃ od, h.get? dx = some od ∧ ∀ name, PySem.W.lookIn name od = some (mA name) := by
  obtain ⟨o, es, ep, ho, hd, hk, _, hm⟩ := n
  refine ⟨o, ho, fun name => ?_⟩
  have e := hm name
  unfold nsFind findBy at e
  rw [← Array.find?_toList] at e
  unfold PySem.W.lookIn
  rw [hd]
  dsimp only
  split
  · rename_i y q
    rw [q] at e
    exact congrArg some e
  · rename_i q
    rw [q] at e
    have a : es.toList.any (·.refKey) = false := by
      rw [List.any_eq_false]
      intro y hy
      obtain ⟨z, t, hkey⟩ := hk y (Array.mem_toList_iff.mp hy)
      simp [DictEntry.refKey, hkey]
    have a' : ¬ es.toList.any (·.refKey) = true := by rw [a]; exact Bool.false_ne_true
    rw [if_neg a']
    exact congrArg some e

theorem ObjM.look {h : Heap} {x dx C : Addr} {mA : Str → Option Value} (I : ObjM h x dx C mA) : ∃ od, PySem.W.InstAt h x (PySem.W.instObj C dx) C (some od) ∧ ∀ name, PySem.W.lookIn name od = some (mA name) :=
  let ⟨od, ho, hl⟩ := lookIn_ns I.ns
  ⟨od, ⟨I.obj, rfl, rfl, ho⟩, hl⟩

section
variable {prog : Program} {w : World} {A : Around} {E : Value → Shared → Prop} {s : Shared} {K : PySem.W.Frag} {x dx C f : Addr} {mA : Str → Option Value} {name : Str} {v : Value}

theorem get_map {expr : Bool} {Q : Value → Shared → Prop} (X : K.In s.heap) (I : ObjM s.heap x dx C mA) (hg : PySem.W.plainGet K C name = true) (hh : PySem.W.hasDictIn K C = true)
    (ha : PySem.W.findIn K (.ref C) name = some none) (hv : mA name = some v) (hv' : PySem.W.handedIn v = true) (h : Q v { s with toks := s.toks + 1 }) :
    wpAny (model prog w) A (getAttr (.ref x) name expr) Q E s := by
  obtain ⟨od, J, hl⟩ := I.look
  exact PySem.W.get_value X J (PySem.W.plainGet_of hg).1 (PySem.W.findObj_own hh ha rfl (by rw [hl, hv])) hv' h

theorem get_const {expr : Bool} {a : Value} {Q : Value → Shared → Prop} (X : K.In s.heap) (I : ObjM s.heap x dx C mA) (hg : PySem.W.plainGet K C name = true) (hh : PySem.W.hasDictIn K C = true)
    (ha : PySem.W.findIn K (.ref C) name = some (some a)) (hn : PySem.W.specialIn K a "__get__" = some none) (hc : PySem.W.copiedNames.contains name = false) (hv : mA name = none) (hv' : PySem.W.handedIn a = true)
    (h : Q a { s with toks := s.toks + 1 }) : wpAny (model prog w) A (getAttr (.ref x) name expr) Q E s := by
  obtain ⟨od, J, hl⟩ := I.look
  exact PySem.W.get_value X J (PySem.W.plainGet_of hg).1 (PySem.W.findObj_cls hh ha hn hv' hc (by rw [hl, hv])) hv' h

theorem get_meth {pl : Sem Bool} {Q : Value × List Value → Shared → Prop} (X : K.In s.heap) (I : ObjM s.heap x dx C mA) (hg : PySem.W.plainGet K C name = true)
    (hf : PySem.W.findIn K (.ref C) name = some (some (.ref f))) (ht : PySem.W.isFn K (.ref f) = true) (hv : mA name = none) (h : Q (.ref f, [.ref x]) s) :
    wpAny (model prog w) A (getMethod (.ref x) name pl) Q E s := by
  obtain ⟨od, J, hl⟩ := I.look
  exact PySem.W.method_fn X J (PySem.W.plainGet_of hg).1 (PySem.W.plainGet_of hg).2 hf (beq_iff_eq.mp ht) (by show (PySem.W.lookIn name od).map (·.isSome) = some false; rw [hl, hv]; rfl) h

theorem set_map {ns : List Str} {Q : Unit → Shared → Prop} (X : K.In s.heap) (I : ObjM s.heap x dx C mA)
    (hs : PySem.W.findIn K (.ref C) "__setattr__" = some (some (.builtin "object.__setattr__"))) (hp : PySem.W.plainOver K C = true) (ht : PySem.W.takerIn K C name = some none) (hh : PySem.W.hasDictIn K C = true)
    (hw : PySem.Within mA ns) (hsz : ns.length ≤ sizeLine)
    (h : ∀ h', ObjM h' x dx C (fun y => if y = name then some v else mA y) → Heap.SameBut dx s.heap h' → Q () { s with heap := h', toks := s.toks + 2 }) :
    wpAny (model prog w) A (setAttr (.ref x) name v) Q E s := by
  obtain ⟨od, J, hl⟩ := I.look
  refine PySem.W.set_plain X J hs (PySem.W.osa_open (s := { s with toks := s.toks + 1 }) (r := none) X J hp ht fun b => ?_)
  obtain ⟨cd, hc, hd'⟩ := PySem.W.any_some hh
  have hx : s.heap.get? x = some ⟨.ref C, some dx, .plain, #[]⟩ := I.obj
  refine wpAny_bind (wpAny_pure (wpAny_bind (wpAny_bind (wpAny_loadPart hx (wpAny_bind (PySem.W.Looks.here (s := { s with toks := s.toks + 1 }) (PySem.W.looks_clsIn X hc) ?_))))))
  rw [hd']
  refine wpAny_pure (a := some dx) (wpAny_bind (wpAny_pure (wpAny_bind ?_)))
  refine wpAny_nsSet1 (s := { s with toks := s.toks + 1 }) I.ns fun h' hn2 hs2 => ?_
  obtain ⟨oD, esD, epD, hoD, hdD, hcD⟩ := hn2.count (PySem.Within.cons name v hw)
  refine wpAny_bind (wpAny_lookBehind hoD (by rw [hdD]; exact pastItsLine_dict (Nat.le_trans hcD (by rw [List.length_cons]; omega))) ?_)
  exact wpAny_pure (h _ ⟨(hs2.2 _ (Ne.symm I.ne)).trans I.obj, hn2, I.ne⟩ hs2)

/-- C(..): the dict at the heap's end, the instance behind it; then its __init__ -/
theorem make_map {R : Result → Shared → Prop} {vs : List Value} {kw : List (Str × Value)} (X : K.In s.heap) (hm : PySem.W.makesIn K C = true)
    (hi : PySem.W.findIn K (.ref C) "__init__" = some (some (.ref f))) (hf : PySem.W.typeIn K (.ref f) = some (.type "function"))
    (h : codeAny (model prog w) (A.under (.builtin "type.__call__" ⟨.ref C :: vs, kw⟩)) (.call (.ref f) ⟨.ref (s.heap.objs.size + 1) :: vs, kw⟩) (PySem.W.InitBack (s.heap.objs.size + 1) R)
      { s with heap := (s.heap.push PySem.W.emptyDict).push (PySem.W.instObj C s.heap.objs.size) }) :
    codeAny (model prog w) A (.call (.ref C) ⟨vs, kw⟩) R s := by
  obtain ⟨hh, g, d, t, os⟩ := s
  exact PySem.W.make_core (PySem.W.makes_of X hm) (PySem.W.looks_findIn X hi) (fun self => PySem.W.bind_fn X self hf) (.inl rfl) h
/-- C() where there is no __init__ but object's -/
theorem make_map0 {R : Result → Shared → Prop} (X : K.In s.heap) (hm : PySem.W.makesIn K C = true)
    (hi : PySem.W.findIn K (.ref C) "__init__" = some (some (.builtin "object.__init__")))
    (hb : ∀ self, PySem.W.Looks (model prog w) s.heap (bindSpecial (.builtin "object.__init__") self) (.builtin "object.__init__", [self]))
    (h : codeAny (model prog w) (A.under (.builtin "type.__call__" ⟨[.ref C], []⟩)) (.call (.builtin "object.__init__") ⟨[.ref (s.heap.objs.size + 1)], []⟩) (PySem.W.InitBack (s.heap.objs.size + 1) R)
      { s with heap := (s.heap.push PySem.W.emptyDict).push (PySem.W.instObj C s.heap.objs.size) }) :
    codeAny (model prog w) A (.call (.ref C) ⟨[], []⟩) R s := by
  obtain ⟨hh, g, d, t, os⟩ := s
  exact PySem.W.make_core (PySem.W.makes_of X hm) (PySem.W.looks_findIn X hi) hb (.inr ⟨rfl, rfl⟩) h
end

/-! ### the attributes as a list of pairs -/
def putF (f : Str) (v : V) : List (Str × V) → List (Str × V)
  | [] => [(f, v)]
  | (g, x) :: r => if g = f then (g, v) :: r else (g, x) :: putF f v r
theorem lookup_putF (f g : Str) (v : V) : ∀ fs : List (Str × V), (putF f v fs).lookup g = if g = f then some v else fs.lookup g
  | [] => by
    show List.lookup g [(f, v)] = _
    by_cases h : g = f
    · have hb : (g == f) = true := beq_iff_eq.mpr h
      simp only [List.lookup, hb, if_pos h]
    · have hb : (g == f) = false := beq_eq_false_iff_ne.mpr h
      simp only [List.lookup, hb, if_neg h]
  | (k, x) :: r => by
    have ih := lookup_putF f g v r
    rw [show putF f v ((k, x) :: r) = (if k = f then (k, v) :: r else (k, x) :: putF f v r) from rfl]
    by_cases hk : k = f
    · rw [if_pos hk]
      by_cases h : g = k
      · have hb : (g == k) = true := beq_iff_eq.mpr h
        simp only [List.lookup, hb, if_pos (h.trans hk)]
      · have hb : (g == k) = false := beq_eq_false_iff_ne.mpr h
        simp only [List.lookup, hb, if_neg (fun e : g = f => h (e.trans hk.symm))]
    · rw [if_neg hk]
      by_cases h : g = k
      · have hb : (g == k) = true := beq_iff_eq.mpr h
        simp only [List.lookup, hb, if_neg (fun e : g = f => hk (h.symm.trans e))]
      · have hb : (g == k) = false := beq_eq_false_iff_ne.mpr h
        simp only [List.lookup, hb]
        exact ih
theorem keys_putF (f : Str) (v : V) : ∀ fs : List (Str × V), f ∈ (putF f v fs).map (·.1) ∧ ∀ g, g ∈ fs.map (·.1) → g ∈ (putF f v fs).map (·.1)
  | [] => ⟨by simp [putF], fun g h => by simp at h⟩
  | (k, x) :: r => by
    obtain ⟨i1, i2⟩ := keys_putF f v r
    rw [show putF f v ((k, x) :: r) = (if k = f then (k, v) :: r else (k, x) :: putF f v r) from rfl]
    by_cases hk : k = f
    · rw [if_pos hk]
      subst hk
      exact ⟨by simp, fun g h => by simpa using h⟩
    · rw [if_neg hk]
      refine ⟨?_, fun g h => ?_⟩
      · rw [List.map_cons]
        exact List.mem_cons_of_mem _ i1
      · rw [List.map_cons] at h ⊢
        rcases List.mem_cons.mp h with e | e
        · exact List.mem_cons.mpr (.inl e)
        · exact List.mem_cons_of_mem _ (i2 g e)
theorem length_putF (f : Str) (v : V) : ∀ fs : List (Str × V), (putF f v fs).length ≤ fs.length + 1
  | [] => by simp [putF]
  | (k, x) :: r => by
    have ih := length_putF f v r
    rw [show putF f v ((k, x) :: r) = (if k = f then (k, v) :: r else (k, x) :: putF f v r) from rfl]
    by_cases hk : k = f
    · rw [if_pos hk, List.length_cons, List.length_cons]; omega
    · rw [if_neg hk, List.length_cons, List.length_cons]; omega

theorem RelO.some_of {v : V} {o : Option Value} (r : RelO (some v) o) : ∃ u, o = some u ∧ RelV v u := by
  cases o with
  | none => exact (show False from r).elim
  | some u => exact ⟨u, rfl, r⟩
theorem RelO.none_of {o : Option Value} (r : RelO none o) : o = none := by
  cases o with
  | none => rfl
  | some u => exact (show False from r).elim
theorem handed_of {v : V} {u : Value} (r : RelV v u) : PySem.W.handedIn u = true := by
  cases v with
  | non => cases (show u = Value.none from r); rfl
  | bl b => cases (show u = Value.bool b from r); rfl
  | int i => obtain ⟨t, e⟩ := (show ∃ t, u = Value.int i t from r); cases e; rfl
  | str x => obtain ⟨t, e⟩ := (show ∃ t, u = Value.str x t from r); cases e; rfl
  | byt b => obtain ⟨t, e⟩ := (show ∃ t, u = Value.bytes b t from r); cases e; rfl
  | flt b => obtain ⟨t, e⟩ := (show ∃ t, u = Value.float b t from r); cases e; rfl
  | ref a => cases (show u = Value.ref a from r); rfl
  | ty n => cases (show u = Value.type n from r); rfl

section
variable {P : Program} {w : World} {H H' : Hp} {h h' : Heap} {a C dx : Addr} {fs fs' : List (Str × V)}
theorem ins_get (hok : HOk P w H h) (e : H a = some (.ins C dx fs)) : ∃ mA, ObjM h a dx C mA ∧ (∀ f, RelO (fs.lookup f) (mA f)) ∧ PySem.Within mA (fs.map (·.1)) ∧ fs.length ≤ 1000 ∧ H dx = some (.own a) := by
  obtain ⟨d, z, ne, ob, mA, n, r, q⟩ := (show ObjOk P w H h a (.ins C dx fs) from hok a _ e)
  exact ⟨mA, ⟨ob, n, ne⟩, r, q, z, d⟩
end

/-! ### what of the text a class must have -/
structure Cls (K : PySem.W.Frag) (C : Addr) : Prop where
  pg : PySem.W.plainGet K C Str.empty = true
  hd : PySem.W.hasDictIn K C = true
  po : PySem.W.plainOver K C = true
  sa : PySem.W.findIn K (.ref C) "__setattr__" = some (some (.builtin "object.__setattr__"))
theorem Cls.get {K : PySem.W.Frag} {C : Addr} (c : Cls K C) (f : Str) : PySem.W.plainGet K C f = true := c.pg
/-- no class of it has the name -/
def NoAttr (K : PySem.W.Frag) (C : Addr) (f : Str) : Prop := PySem.W.findIn K (.ref C) f = some none
theorem NoAttr.taker {K : PySem.W.Frag} {C : Addr} {f : Str} (n : NoAttr K C f) : PySem.W.takerIn K C f = some none := by
  unfold PySem.W.takerIn
  rw [show PySem.W.findIn K (.ref C) f = some none from n]
  rfl
/-- a constant of the class -/
structure Con (K : PySem.W.Frag) (C : Addr) (f : Str) (v : V) (u : Value) : Prop where
  at_ : PySem.W.findIn K (.ref C) f = some (some u)
  rel : RelV v u
  get : PySem.W.specialIn K u "__get__" = some none
  cp : PySem.W.copiedNames.contains f = false
/-- a method: a plain def of the class or of one above it -/
structure Meth (K : PySem.W.Frag) (C : Addr) (m : Str) (f : Addr) : Prop where
  at_ : PySem.W.findIn K (.ref C) m = some (some (.ref f))
  fn : PySem.W.isFn K (.ref f) = true
  kp : PySem.W.keepIn K (.ref f) = true

section
variable {X : Cx} {pins : List (Addr × Obj)} {σ : St} {H : Hp} {s : Shared} {a C dx : Addr} {fs : List (Str × V)} {f : Str} {v : V} {A : Around} {E : Value → Shared → Prop}

theorem getattr_ok {b : Bool} {Q : Value → Shared → Prop} (I : Inv X pins σ H s) (e : H a = some (.ins C dx fs)) (c : Cls X.K C) (n : NoAttr X.K C f) (l : fs.lookup f = some v)
    (h : ∀ u s', Inv X pins σ H s' → RelV v u → Q u s') : wpAny (model X.prog X.w) A (getAttr (.ref a) f b) Q E s := by
  obtain ⟨mA, O, r, _, _, _⟩ := ins_get I.hok e
  obtain ⟨u, hu, ru⟩ := RelO.some_of (v := v) (o := mA f) (by rw [← l]; exact r f)
  exact get_map I.kIn O (c.get f) c.hd n hu (handed_of ru) (h u _ (I.tok _) ru)

theorem getcon_ok {b : Bool} {u : Value} {Q : Value → Shared → Prop} (I : Inv X pins σ H s) (e : H a = some (.ins C dx fs)) (c : Cls X.K C) (k : Con X.K C f v u) (l : fs.lookup f = none)
    (h : ∀ s', Inv X pins σ H s' → Q u s') : wpAny (model X.prog X.w) A (getAttr (.ref a) f b) Q E s := by
  obtain ⟨mA, O, r, _, _, _⟩ := ins_get I.hok e
  have hn : mA f = none := RelO.none_of (by rw [← l]; exact r f)
  exact get_const I.kIn O (c.get f) c.hd k.at_ k.get k.cp hn (handed_of k.rel) (h _ (I.tok _))

theorem getmeth_ok {m : Str} {g : Addr} {pl : Sem Bool} {Q : Value × List Value → Shared → Prop} (I : Inv X pins σ H s) (e : H a = some (.ins C dx fs)) (c : Cls X.K C) (k : Meth X.K C m g) (l : fs.lookup m = none)
    (h : Q (.ref g, [.ref a]) s) : wpAny (model X.prog X.w) A (getMethod (.ref a) m pl) Q E s := by
  obtain ⟨mA, O, r, _, _, _⟩ := ins_get I.hok e
  have hn : mA m = none := RelO.none_of (by rw [← l]; exact r m)
  exact get_meth I.kIn O (c.get m) k.at_ k.fn hn h

theorem setattr_ok {y : V} {u : Value} {Q : Unit → Shared → Prop} (I : Inv X pins σ H s) (e : H a = some (.ins C dx fs)) (c : Cls X.K C) (n : NoAttr X.K C f) (hl : fs.length < 1000) (ry : RelV y u)
    (h : ∀ s', Inv X pins σ (upd H a (.ins C dx (putF f y fs))) s' → Q () s') : wpAny (model X.prog X.w) A (setAttr (.ref a) f u) Q E s := by
  obtain ⟨mA, O, r, wi, _, ho⟩ := ins_get I.hok e
  have hz : (fs.map (·.1)).length ≤ sizeLine := by rw [List.length_map, sizeLine_eq]; omega
  refine set_map I.kIn O c.sa c.po n.taker c.hd wi hz fun h' O' sb => h _ ?_
  have hd : ∃ o, h'.get? dx = some o := let ⟨o, _, _, e', _⟩ := O'.ns; ⟨o, e'⟩
  refine I.write (x := a) (e := dx) (by rw [e]; exact True.intro) (.inr ho) (fun b q hb z => (sb.2 b hb).trans z) hd ?_
  refine ⟨by rw [upd_ne O.ne]; exact ho, ?_, O.ne, O'.obj, _, O'.ns, fun g => ?_, fun g hg => ?_⟩
  · have := length_putF f y fs; omega
  · show RelO ((putF f y fs).lookup g) (if g = f then some u else mA g)
    rw [lookup_putF]
    by_cases q : g = f
    · rw [if_pos q, if_pos q]; exact ry
    · rw [if_neg q, if_neg q]; exact r g
  · by_cases q : g = f
    · rw [q]; exact (keys_putF f y fs).1
    · refine (keys_putF f y fs).2 g (wi g fun z => hg ?_)
      show (if g = f then some u else mA g) = none
      rw [if_neg q]; exact z

/-- a new instance, tracked, without attributes -/
theorem Inv.made (I : Inv X pins σ H s) : Inv X pins σ (upd (upd H s.heap.objs.size (.own (s.heap.objs.size + 1))) (s.heap.objs.size + 1) (.ins C s.heap.objs.size []))
    { s with heap := (s.heap.push PySem.W.emptyDict).push (PySem.W.instObj C s.heap.objs.size) } := by
  have e1 : (s.heap.push PySem.W.emptyDict).get? s.heap.objs.size = some PySem.W.emptyDict := Heap.get?_push_size s.heap rfl
  have e2 : ((s.heap.push PySem.W.emptyDict).push (PySem.W.instObj C s.heap.objs.size)).get? (s.heap.objs.size + 1) = some (PySem.W.instObj C s.heap.objs.size) := by
    have := Heap.get?_push_size (s.heap.push PySem.W.emptyDict) (o := PySem.W.instObj C s.heap.objs.size) rfl
    rwa [Heap.size_push] at this
  have e3 : (s.heap.push PySem.W.emptyDict).Ns s.heap.objs.size (fun _ => none) := ⟨PySem.W.emptyDict, #[], _, e1, rfl, (fun e he => absurd he (by simp)), fun _ => rfl⟩
  have I1 := I.laid (a := s.heap.objs.size) (o := .own (s.heap.objs.size + 1)) (h' := s.heap.push PySem.W.emptyDict) (t' := s.toks) (fun b u q => Heap.get?_push_of_some _ q) (Nat.le_refl _) ⟨_, e1⟩
  refine I1.laid (a := s.heap.objs.size + 1) (o := .ins C s.heap.objs.size []) (t' := s.toks) (fun b u q => Heap.get?_push_of_some _ q) (Nat.le_of_eq (Heap.size_push _ _)) ?_
  have ne : s.heap.objs.size ≠ s.heap.objs.size + 1 := Nat.ne_of_lt (Nat.lt_succ_self _)
  refine ⟨by rw [upd_ne ne, upd_same], Nat.zero_le _, ne, e2, fun _ => none, (Heap.Ns1.of_empty e3).at fun o q => Heap.get?_push_of_some _ q, fun _ => True.intro, fun y hy => absurd rfl hy⟩

/-- e.f where nothing but the object is asked: through attributeBase (super) and the last hold -/
theorem attr_of {prog : Program} {w : World} {env : Env} {e : Expr} {f : Str} {pos : Pos} {s : Shared} {Q : Value → Shared → Prop} (hb : attributeBase e f env (eval e env) = eval e env)
    (h : wpAny (model prog w) A (eval e env) (fun o s₁ => wpAny (model prog w) A (getAttr o f true) Q E s₁) E s) : wpAny (model prog w) A (eval (.Attribute e f pos) env) Q E s :=
  Attribute_any_ h (by rw [arm_eval_Attribute, hb])
end

/-! ### readings and rules -/
/-- e.f, an attribute of the instance -/
def tFld (K : PySem.W.Frag) (ta : TE) (f : Str) : TE := fun σ H Q => ta σ H fun x H1 => ∃ a C dx fs v, x = .ref a ∧ H1 a = some (.ins C dx fs) ∧ Cls K C ∧ NoAttr K C f ∧ fs.lookup f = some v ∧ Q v H1
/-- e.f, a constant of the class -/
def tCon (K : PySem.W.Frag) (ta : TE) (f : Str) : TE := fun σ H Q => ta σ H fun x H1 => ∃ a C dx fs v u, x = .ref a ∧ H1 a = some (.ins C dx fs) ∧ Cls K C ∧ Con K C f v u ∧ fs.lookup f = none ∧ Q v H1
/-- e.f = value -/
def sFld (K : PySem.W.Frag) (ta tv : TE) (f : Str) : TS := fun D σ H => tv σ H fun y H1 => ta σ H1 fun x H2 => ∃ a C dx fs, x = .ref a ∧ H2 a = some (.ins C dx fs) ∧ Cls K C ∧ NoAttr K C f ∧ fs.length < 1000 ∧
  D.nx σ (upd H2 a (.ins C dx (putF f y fs)))
/-- an augmented operator on two values -/
def InOp (X : Cx) (op : Operator) (rd : V → V → Hp → VK → Prop) : Prop :=
  ∀ (pins : List (Addr × Obj)) (s : Shared) (σ : St) (H : Hp) (x y : V) (u v : Value) (Q : VK), Inv X pins σ H s → RelV x u → RelV y v → rd x y H Q → wpAny (model X.prog X.w) X.A (inplaceOp op u v) (EP X pins σ Q) X.xe s
/-- e.f op= value -/
def sFldAug (K : PySem.W.Frag) (ta tv : TE) (rd : V → V → Hp → VK → Prop) (f : Str) : TS := fun D σ H => ta σ H fun x H1 => ∃ a C dx fs v, x = .ref a ∧ H1 a = some (.ins C dx fs) ∧ Cls K C ∧ NoAttr K C f ∧ fs.lookup f = some v ∧
  tv σ H1 fun y H2 => rd v y H2 fun z H3 => ∃ dx' fs', H3 a = some (.ins C dx' fs') ∧ fs'.length < 1000 ∧ D.nx σ (upd H3 a (.ins C dx' (putF f z fs')))

section
variable {X : Cx} {o e value : Expr} {f : Str} {pos pos' tpos : Pos} {ta tv : TE}
theorem pe_fld (he : PE X e ta) (hb : attributeBase e f X.env (eval e X.env) = eval e X.env) : PE X (.Attribute e f pos) (tFld X.K ta f) := by
  intro pins s σ H Q I h
  refine attr_of hb (thn (he pins s σ H _ I h) fun u s1 ⟨x, H1, I1, rx, a, C, dx, fs, v, ex, ea, c, n, l, q⟩ => ?_)
  subst ex
  obtain rfl : u = Value.ref a := rx
  exact getattr_ok I1 ea c n l fun u' s2 I2 ru => ⟨v, H1, I2, ru, q⟩
theorem pe_con (he : PE X e ta) (hb : attributeBase e f X.env (eval e X.env) = eval e X.env) : PE X (.Attribute e f pos) (tCon X.K ta f) := by
  intro pins s σ H Q I h
  refine attr_of hb (thn (he pins s σ H _ I h) fun u s1 ⟨x, H1, I1, rx, a, C, dx, fs, v, u0, ex, ea, c, k, l, q⟩ => ?_)
  subst ex
  obtain rfl : u = Value.ref a := rx
  exact getcon_ok I1 ea c k l fun s2 I2 => ⟨v, H1, I2, k.rel, q⟩
theorem ps_fld (ha : PE X o ta) (hv : PE X value tv) (hs : swapsWith value (some (.Attribute o f pos')) pos.line X.env = pure false) : PS X (.Assign [.Attribute o f pos'] value pos) (sFld X.K ta tv f) := by
  intro pins s σ H D I h
  refine plainObj_wpAny_Assign_Attribute (thn (hv pins s σ H _ I h) fun u s1 ⟨y, H1, I1, ry, q⟩ => thn (ha pins s1 σ H1 _ I1 q) fun ov s2 ⟨x, H2, I2, rx, a, C, dx, fs, ex, ea, c, n, l, q2⟩ => ?_) hs
  subst ex
  obtain rfl : ov = Value.ref a := rx
  exact setattr_ok I2 ea c n l ry fun s3 I3 => ⟨σ, _, I3, q2⟩
theorem ps_fldaug {op : Operator} {rd : V → V → Hp → VK → Prop} (ha : PE X o ta) (hv : PE X value tv) (hop : InOp X op rd) : PS X (.AugAssign (.Attribute o f tpos) op value pos) (sFldAug X.K ta tv rd f) := by
  intro pins s σ H D I h
  refine wpAny_AugAssign_AttributeAny (thn (ha pins s σ H _ I h) fun ov s1 ⟨x, H1, I1, rx, a, C, dx, fs, v, ex, ea, c, n, l, q⟩ => ?_)
  subst ex
  obtain rfl : ov = Value.ref a := rx
  refine getattr_ok I1 ea c n l fun u s2 I2 ru => thn (hv pins s2 σ H1 _ I2 q) fun w3 s3 ⟨y, H2, I3, ry, q3⟩ => thn (hop pins s3 σ H2 v y u w3 _ I3 ru ry q3) fun w4 s4 ⟨z, H3, I4, rz, dx', fs', ea', l', q4⟩ => ?_
  exact setattr_ok I4 ea' c n l' rz fun s5 I5 => ⟨σ, _, I5, q4⟩
def rAdd : V → V → Hp → VK → Prop := fun x y H Q => ∃ i j, x = .int i ∧ y = .int j ∧ Q (.int (i + j)) H
def rSub : V → V → Hp → VK → Prop := fun x y H Q => ∃ i j, x = .int i ∧ y = .int j ∧ Q (.int (i - j)) H
theorem in_add : InOp X .Add rAdd := by
  rintro pins s σ H x y u v Q I rx ry ⟨i, j, rfl, rfl, q⟩
  obtain ⟨t, rfl⟩ := (show ∃ t, u = Value.int i t from rx)
  obtain ⟨t', rfl⟩ := (show ∃ t', v = Value.int j t' from ry)
  exact PyProof.Rows.iadd_int ⟨.int (i + j), H, I.tok _, ⟨_, rfl⟩, q⟩
theorem in_sub : InOp X .Sub rSub := by
  rintro pins s σ H x y u v Q I rx ry ⟨i, j, rfl, rfl, q⟩
  obtain ⟨t, rfl⟩ := (show ∃ t, u = Value.int i t from rx)
  obtain ⟨t', rfl⟩ := (show ∃ t', v = Value.int j t' from ry)
  exact PyProof.Rows.isub_int ⟨.int (i - j), H, I.tok _, ⟨_, rfl⟩, q⟩

/-- what is between an instance and its method: the tree of a method call -/
theorem methcall_of {pl : Sem Bool} {m : Str} {apos : Pos} {args : List Expr} {pins : List (Addr × Obj)} {s : Shared} {σ : St} {H : Hp} {Q : Value → Shared → Prop} {te : TE} (he : PE X e te) (I : Inv X pins σ H s)
    (h : te σ H fun x H1 => ∃ a C dx fs g, x = .ref a ∧ H1 a = some (.ins C dx fs) ∧ Cls X.K C ∧ Meth X.K C m g ∧ fs.lookup m = none ∧
      ∀ s1, Inv X pins σ H1 s1 → wpAny (model X.prog X.w) X.A (callWith pos (.ref g) [.ref a] (backTo pos (starEach args X.env)) (backToKw pos (keywordEach [] X.env))) Q X.xe s1)
    (ht : eval (.Call (.Attribute e m apos) args [] pos) X.env = (do
      let ov ← eval e X.env
      standAt apos.atName
      let (f, first) ← holding [ov] (getMethod ov m pl)
      callWith pos f first (backTo pos (starEach args X.env)) (backToKw pos (keywordEach [] X.env)))) :
    wpAny (model X.prog X.w) X.A (eval (.Call (.Attribute e m apos) args [] pos) X.env) Q X.xe s := by
  refine PySem.W.methodCall_KW (pl := pl) (thn (he pins s σ H _ I h) fun u s1 ⟨x, H1, I1, rx, a, C, dx, fs, g, ex, ea, c, k, l, q⟩ => ?_) ht
  subst ex
  obtain rfl : u = Value.ref a := rx
  exact getmeth_ok I1 ea c k l (q s1 I1)
end

/-! ### isinstance -/
section
variable {X : Cx} {pins : List (Addr × Obj)} {σ : St} {H : Hp} {s : Shared} {A : Around} {E : Value → Shared → Prop} {Q : Value → Shared → Prop} {c : Value} {b : Bool}
/-- the type of a value, as the fragment's deciders take it; for an instance its class -/
inductive TyOf (K : PySem.W.Frag) (H : Hp) : V → Value → Prop where
  | non : TyOf K H .non (.type "NoneType")
  | bl (x : Bool) : TyOf K H (.bl x) (.type "bool")
  | int (i : Int) : TyOf K H (.int i) (.type "int")
  | str (x : Str) : TyOf K H (.str x) (.type "str")
  | flt (x : UInt64) : TyOf K H (.flt x) (.type "float")
  | lst {a : Addr} {xs : List V} (e : H a = some (.lst xs)) : TyOf K H (.ref a) (.type "list")
  | frz {a : Addr} {o : Obj} {xs : List V} (e : H a = some (.frz o (.lst xs))) : TyOf K H (.ref a) (.type "list")
  | tup {a : Addr} {xs : List V} (e : H a = some (.tup xs)) : TyOf K H (.ref a) (.type "tuple")
  | dK {a : Addr} {kvs : List (Key × V)} (e : H a = some (.dK kvs)) : TyOf K H (.ref a) (.type "dict")
  | dT {a : Addr} {kvs : List (List Key × V)} (e : H a = some (.dT kvs)) : TyOf K H (.ref a) (.type "dict")
  | ins {a C dx : Addr} {fs : List (Str × V)} (e : H a = some (.ins C dx fs)) (cl : Cls K C) (ha : PySem.W.findIn K (.ref C) "__class__" = some (some (.builtin "object.__class__")))
      (hn : PySem.W.specialIn K (.builtin "object.__class__") "__get__" = some (some (.builtin "getset_descriptor.__get__"))) (htk : PySem.W.takesIn K (.builtin "object.__class__") = some true)
      (hm : PySem.W.mroIn K C (.type "object") = some true) : TyOf K H (.ref a) (.ref C)
/-- isinstance(x, c) for one class c, a built-in or an own one: kitOne's answer -/
theorem isinst_ok {x : V} {u t : Value} (I : Inv X pins σ H s) (rx : RelV x u) (ty : TyOf X.K H x t) (e : PySem.W.kitOne X.K t c = some b) (h : ∀ tk, Q (.bool b) { s with toks := tk }) :
    wpAny (model X.prog X.w) A (call (.builtin "isinstance") [u, c]) Q E s := by
  cases ty with
  | non => cases (show u = Value.none from rx); exact PySem.W.kia_one PySem.W.kitx_none I.kIn True.intro e (fun z => nomatch z) h
  | bl y => cases (show u = Value.bool y from rx); exact PySem.W.kia_one PySem.W.kitx_bool I.kIn True.intro e (fun z => nomatch z) h
  | int i => obtain ⟨t, q⟩ := (show ∃ t, u = Value.int i t from rx); cases q; exact PySem.W.kia_one PySem.W.kitx_int I.kIn True.intro e (fun z => nomatch z) h
  | str y => obtain ⟨t, q⟩ := (show ∃ t, u = Value.str y t from rx); cases q; exact PySem.W.kia_one PySem.W.kitx_str I.kIn True.intro e (fun z => nomatch z) h
  | flt y => obtain ⟨t, q⟩ := (show ∃ t, u = Value.float y t from rx); cases q; exact PySem.W.kia_one PySem.W.kitx_float I.kIn True.intro e (fun z => nomatch z) h
  | @lst a xs ea =>
    cases (show u = Value.ref a from rx)
    obtain ⟨_, _, n, _, h1⟩ := (show ObjOk X.prog X.w H s.heap a (.lst xs) from I.hok a _ ea)
    exact PySem.W.kia_one PySem.W.kitx_list I.kIn ⟨_, h1, rfl⟩ e (fun z => nomatch z) h
  | @frz a ob xs ea =>
    cases (show u = Value.ref a from rx)
    obtain ⟨_, _, _, n, _, h1⟩ := (show ObjOk X.prog X.w H s.heap a (.frz ob (.lst xs)) from I.hok a _ ea)
    exact PySem.W.kia_one PySem.W.kitx_list I.kIn ⟨_, h1, rfl⟩ e (fun z => nomatch z) h
  | @tup a xs ea =>
    cases (show u = Value.ref a from rx)
    obtain ⟨_, _, _, p⟩ := (show ObjOk X.prog X.w H s.heap a (.tup xs) from I.hok a _ ea)
    obtain ⟨o, h1, h2, _⟩ := p
    exact PySem.W.kia_one PySem.W.kitx_tuple I.kIn ⟨o, h1, h2⟩ e (fun z => nomatch z) h
  | @dK a kvs ea =>
    cases (show u = Value.ref a from rx)
    obtain ⟨_, _, vs, _, p⟩ := (show ObjOk X.prog X.w H s.heap a (.dK kvs) from I.hok a _ ea)
    obtain ⟨o, es, ep, h1, h2, _⟩ := p
    exact PySem.W.kia_one PySem.W.kitx_dict I.kIn ⟨o, h1, h2.1⟩ e (fun z => nomatch z) h
  | @dT a kvs ea =>
    cases (show u = Value.ref a from rx)
    obtain ⟨_, _, xs, _, o, es, ep, h1, h2, _⟩ := (show ObjOk X.prog X.w H s.heap a (.dT kvs) from I.hok a _ ea)
    exact PySem.W.kia_one PySem.W.kitx_dict I.kIn ⟨o, h1, h2.1⟩ e (fun z => nomatch z) h
  | @ins a C dx fs ea cl ha hn htk hm =>
    cases (show u = Value.ref a from rx)
    obtain ⟨mA, O, _⟩ := ins_get I.hok ea
    obtain ⟨od, J, _⟩ := O.look
    exact PySem.W.kia_one (PySem.W.kitx_own (cl.get _) cl.hd ha hn htk hm) I.kIn J e (fun z => nomatch z) h
end
end L2

namespace L2
open PySem PySem.Spec PyProof.Rows

/-! ### room -/
structure Room (k : Nat) (A : Around) : Prop where
  hd : A.handled = none
  dp : A.depth + 3 * k + 5 < recursionLimit
  un : A.units + 16 * k + 200 < cLine
theorem Room.mono {j k : Nat} {A : Around} (r : Room k A) (h : j ≤ k) : Room j A := ⟨r.hd, by have := r.dp; omega, by have := r.un; omega⟩
theorem Room.deeper {k : Nat} {A : Around} (r : Room (k + 1) A) (env : Env) : Room k (A.deeper env) :=
  ⟨r.hd, by have := r.dp; show A.depth + 1 + 3 * k + 5 < _; omega, by have := r.un; show A.units + 3 + 16 * k + 200 < _; omega⟩
theorem Room.in1 {k : Nat} {A : Around} (r : Room (k + 1) A) : Room k A.in1 :=
  ⟨r.hd, by have := r.dp; show A.depth + 3 * k + 5 < _; omega, by have := r.un; show A.units + 1 + 16 * k + 200 < _; omega⟩
theorem make_depth {A : Around} {C : Addr} {us : List Value} {kw : List (Str × Value)} : (A.under (.builtin "type.__call__" ⟨.ref C :: us, kw⟩)).depth = A.depth + 1 := by
  first | rfl | simp [Around.under, Code.weight, Code.isCreation, Code.isGuard, Code.isCaller, Code.frames, Code.isFrame, guardIds]
theorem make_units {A : Around} {C : Addr} {us : List Value} {kw : List (Str × Value)} : (A.under (.builtin "type.__call__" ⟨.ref C :: us, kw⟩)).units = A.units + 1 := by
  first | rfl | simp [Around.under, Code.cUnits, Code.frames, Code.isFrame]
theorem Room.make {k : Nat} {A : Around} (r : Room (k + 1) A) (C : Addr) (us : List Value) (kw : List (Str × Value)) : Room k (A.under (.builtin "type.__call__" ⟨.ref C :: us, kw⟩)) :=
  ⟨r.hd, by have := r.dp; rw [make_depth]; omega, by have := r.un; rw [make_units]; omega⟩
theorem Room.depth {k : Nat} {A : Around} (r : Room k A) : A.depth < recursionLimit := by have := r.dp; omega
theorem Room.units {k : Nat} {A : Around} (r : Room k A) : A.units + 64 < cLine := by have := r.un; omega
theorem Room.units0 {k : Nat} {A : Around} (r : Room k A) : A.units < cLine := by have := r.un; omega

/-! ### argument lists and displays -/
def tNil : TA := fun _ H Q => Q [] H
def tCons (ta : TE) (tr : TA) : TA := fun σ H Q => ta σ H fun x H1 => tr σ H1 fun xs H2 => Q (x :: xs) H2
section
variable {X : Cx} {e : Expr} {es : List Expr} {te : TE} {t : TA} {pos : Pos}
theorem pa_nil : PA X [] tNil := fun _ _ _ _ H Q I h => Calls.spliced_nil ⟨[], H, I, .nil, h⟩
theorem pa_cons (ha : PE X e te) (hr : PA X es t) (hs : starEach (e :: es) X.env = (false, eval e X.env) :: starEach es X.env := by rfl) : PA X (e :: es) (tCons te t) := by
  intro pos pins s σ H Q I h
  rw [hs]
  show wpAny _ _ (spliced ((false, eval e X.env) :: backTo pos (starEach es X.env))) _ _ s
  refine Calls.spliced_cons (thn (ha pins s σ H _ I h) fun u s1 ⟨x, H1, I1, r1, q1⟩ => ?_)
  exact thn (hr pos pins s1 σ H1 _ I1 q1) fun us s2 ⟨xs, H2, I2, r2, q2⟩ => ⟨x :: xs, H2, I2, .cons r1 r2, q2⟩

/-- a tuple, a list of written items -/
def tTup (t : TA) : TE := fun σ H Q => t σ H fun xs H1 => xs.length ≤ sizeLine ∧ ∀ p, H1 p = none → Q (.ref p) (upd H1 p (.tup xs))
def tLst (t : TA) : TE := fun σ H Q => t σ H fun xs H1 => xs.length ≤ sizeLine ∧ ∀ p, H1 p = none → Q (.ref p) (upd H1 p (.lst xs))
theorem pe_tup {x1} (h : PA X es t) : PE X (.Tuple es x1 pos) (tTup t) := by
  intro pins s σ H Q I hq
  refine wpAny_Tuple_spliced (thn (h pos pins s σ H _ I hq) fun us s1 ⟨xs, H1, I1, r, z, q⟩ => ⟨by rw [← r.length]; exact z, ?_⟩)
  have hf : H1 s1.heap.objs.size = none := I1.hok.fresh (Nat.le_refl _)
  refine ⟨.ref s1.heap.objs.size, upd H1 s1.heap.objs.size (.tup xs), I1.laid (t' := s1.toks) (fun b u e => Heap.get?_push_of_some _ e) (Nat.le_refl _) ?_, rfl, q _ hf⟩
  exact ⟨z, us, r, ⟨_, Heap.get?_push_size _ rfl, rfl, _, rfl⟩⟩
theorem pe_lst (h : PA X es t) : PE X (.List es pos) (tLst t) := by
  intro pins s σ H Q I hq
  refine wpAny_List_spliced (thn (h pos pins s σ H _ I hq) fun us s1 ⟨xs, H1, I1, r, z, q⟩ => ⟨by rw [← r.length]; exact z, ?_⟩)
  have hf : H1 s1.heap.objs.size = none := I1.hok.fresh (Nat.le_refl _)
  refine ⟨.ref s1.heap.objs.size, upd H1 s1.heap.objs.size (.lst xs), I1.laid (t' := s1.toks) (fun b u e => Heap.get?_push_of_some _ e) (Nat.le_refl _) ?_, rfl, q _ hf⟩
  exact ⟨z, us, 0, r, Heap.get?_push_size _ rfl⟩
end

/-! ### what a def promises -/
/-- a def's promise: the bound arguments in the parameters' order, the heap, the wanted end, the wanted exception -/
abbrev Sp := List V → Hp → VK → XK → Prop
/-- how an exception lies behind a call (file 08 gives it): the callers' frames, abstract heap and state ahead of the call, the wish, the exception, the state -/
abbrev CXT := List Env → Hp → Shared → XK → Value → Shared → Prop

/-- the state at a call -/
structure Env0 (P : Program) (w : World) (K : PySem.W.Frag) (mg : Str → Option Value) (base : Heap) (A : Around) (outer : List Env) (s : Shared) (H : Hp) : Prop where
  frames : A.frames = some outer
  mod : Mod K mg base
  bs : ∀ b o, base.get? b = some o → s.heap.get? b = some o ∧ H b = none
  bsz : base.objs.size ≤ s.heap.objs.size
  funs : s.heap.FunFrames base outer
  frf : ∀ b ∈ frs outer, H b = none
  hok : HOk P w H s.heap
  bare : AllBare s.gens
/-- a call's end -/
def CE (outer : List Env) (P : Program) (w : World) (H : Hp) (s : Shared) (Q : VK) (u : Value) (s' : Shared) : Prop :=
  ∃ v H', s'.os = s.os ∧ AllBare s'.gens ∧ Un (frs outer) [] H H' s.heap s'.heap ∧ HOk P w H' s'.heap ∧ RelV v u ∧ Q v H'
def CR (CX : CXT) (outer : List Env) (P : Program) (w : World) (H : Hp) (s : Shared) (Q : VK) (E : XK) (r : Result) (s' : Shared) : Prop :=
  match r with
  | .ok (.ret u) => CE outer P w H s Q u s'
  | .ok _ => False
  | .error e => CX outer H s E e s'
structure FnOk (P : Program) (w : World) (K : PySem.W.Frag) (mg : Str → Option Value) (base : Heap) (CX : CXT) (k : Nat) (f : Addr) (fd : FuncData) (ps : List Str) (sp : Sp) : Prop where
  len : ∀ vs H Q E, sp vs H Q E → vs.length = ps.length
  run : ∀ (A : Around) (outer : List Env) (s : Shared) (H : Hp) (args : Args) (us : List Value) (vs : List V) (Q : VK) (E : XK), Room k A → Env0 P w K mg base A outer s H → BindsTo s fd args (ps.zip us) → Vals vs us → sp vs H Q E →
    codeAny (model P w) A (.call (.ref f) args) (CR CX outer P w H s Q E) s
theorem FnOk.mono {P : Program} {w : World} {K : PySem.W.Frag} {mg : Str → Option Value} {base : Heap} {CX : CXT} {j k : Nat} {f : Addr} {fd : FuncData} {ps : List Str} {sp : Sp} (F : FnOk P w K mg base CX j f fd ps sp) (h : j ≤ k) :
    FnOk P w K mg base CX k f fd ps sp := ⟨F.len, fun A outer s H args us vs Q E hr => F.run A outer s H args us vs Q E (hr.mono h)⟩
/-- a weaker promise -/
theorem FnOk.imp {P : Program} {w : World} {K : PySem.W.Frag} {mg : Str → Option Value} {base : Heap} {CX : CXT} {k : Nat} {f : Addr} {fd : FuncData} {ps : List Str} {sp sp' : Sp} (F : FnOk P w K mg base CX k f fd ps sp)
    (h : ∀ vs H Q E, sp' vs H Q E → sp vs H Q E) : FnOk P w K mg base CX k f fd ps sp' :=
  ⟨fun vs H Q E q => F.len vs H Q E (h _ _ _ _ q), fun A outer s H args us vs Q E hr he hb hv hs => F.run A outer s H args us vs Q E hr he hb hv (h _ _ _ _ hs)⟩

theorem Env0.make {P : Program} {w : World} {K : PySem.W.Frag} {mg : Str → Option Value} {base : Heap} {A : Around} {outer : List Env} {s : Shared} {H : Hp} (e : Env0 P w K mg base A outer s H) (C : Addr) (us : List Value) (kw : List (Str × Value)) :
    Env0 P w K mg base (A.under (.builtin "type.__call__" ⟨.ref C :: us, kw⟩)) outer s H := ⟨by first | exact e.frames | (simpa [Around.under, Code.envs, Code.isFrame, pushEnvs] using e.frames), e.mod, e.bs, e.bsz, e.funs, e.frf, e.hok, e.bare⟩
theorem Env0.in1 {P : Program} {w : World} {K : PySem.W.Frag} {mg : Str → Option Value} {base : Heap} {A : Around} {outer : List Env} {s : Shared} {H : Hp} (e : Env0 P w K mg base A outer s H) :
    Env0 P w K mg base A.in1 outer s H := ⟨e.frames, e.mod, e.bs, e.bsz, e.funs, e.frf, e.hok, e.bare⟩

section
variable {X : Cx} {pins : List (Addr × Obj)} {σ : St} {H : Hp} {s s' : Shared}
/-- from a body: what a callee wants -/
theorem Inv.env0 (I : Inv X pins σ H s) : Env0 X.prog X.w X.K X.mg X.base X.A X.stack s H :=
  ⟨I.ok.frames, I.ok.mod, I.bs, Nat.le_trans I.ok.bsz I.sz, I.stack, I.stkFree, I.hok, I.bare⟩
/-- behind a call -/
theorem Inv.after {Q : VK} {u : Value} (I : Inv X pins σ H s) (h : CE X.stack X.prog X.w H s Q u s') : EP X pins σ Q u s' := by
  obtain ⟨v, H', os, bare, un, hok, r, q⟩ := h
  obtain ⟨hh, g, d, t, os'⟩ := s'
  obtain rfl : os' = s.os := os
  exact ⟨v, H', I.call (h' := hh) (g' := g) (d' := d) (t' := t) (ch := []) un hok bare (fun b z => absurd z (by simp)), r, q⟩
end

/-! ### calls -/
/-- f(..): the written arguments, then the defaults dvs; E: what is wanted of an exception -/
def tCall (sp : Sp) (dvs : List V) (E : XK) (t : TA) : TE := fun σ H Q => t σ H fun vs H1 => sp (vs ++ dvs) H1 Q E
/-- o.m(..) of an instance of the class at C -/
def tMeth (C : Addr) (m : Str) (sp : Sp) (dvs : List V) (E : XK) (ta : TE) (t : TA) : TE := fun σ H Q => ta σ H fun x H1 => ∃ a dx fs, x = .ref a ∧ H1 a = some (.ins C dx fs) ∧ fs.lookup m = none ∧
  t σ H1 fun vs H2 => sp (x :: (vs ++ dvs)) H2 Q E
/-- C(..): a new instance and its dict, then __init__ -/
def tMake (C : Addr) (sp : Sp) (dvs : List V) (E : XK) (t : TA) : TE := fun σ H Q => t σ H fun vs H1 => ∀ x dx, H1 x = none → H1 dx = none → dx ≠ x →
  sp (.ref x :: (vs ++ dvs)) (upd (upd H1 dx (.own x)) x (.ins C dx [])) (fun v H2 => v = .non ∧ Q (.ref x) H2) E

/-- how the parameters are bound: us the positional arguments, kw the keywords' values by name, ds the defaults that fill up -/
def Binds (K : PySem.W.Frag) (fd : FuncData) (ps : List Str) (ds : List Value) : Prop :=
  ∀ (s : Shared) (us : List Value), K.In s.heap → (us ++ ds).length = ps.length → BindsTo s fd ⟨us, []⟩ (ps.zip (us ++ ds))
/-- every parameter is given -/
theorem Binds.all {K : PySem.W.Frag} {fd : FuncData} {ps : List Str} (h : ∀ us : List Value, us.length = ps.length → bindArgs fd ⟨us, []⟩ = pure (ps.zip us)) : Binds K fd ps [] := fun s us _ hl => by
  rw [List.append_nil] at hl ⊢
  exact .of_eq (h us hl)

/-- an exception of a callee reaches what this body wants of exceptions -/
def Passes (CX : CXT) (X : Cx) (E : XK) : Prop := ∀ (pins : List (Addr × Obj)) (σ : St) (H : Hp) (s : Shared) (e : Value) (s' : Shared), Inv X pins σ H s → CX X.stack H s E e s' → X.xe e s'

section
variable {X : Cx} {CX : CXT} {k : Nat} {f C : Addr} {fd : FuncData} {ps : List Str} {sp : Sp} {dvs : List V} {ds : List Value} {E : XK} {x m : Str} {p pos apos : Pos} {e o : Expr} {es : List Expr} {ta : TE} {t : TA}

/-- the callee runs -/
theorem run_fn {pins : List (Addr × Obj)} {σ : St} {H : Hp} {s : Shared} {Q : VK} {us : List Value} {vs : List V} (F : FnOk X.prog X.w X.K X.mg X.base CX k f fd ps sp) (hr : Room k X.A) (hb : Binds X.K fd ps ds) (hd : Vals dvs ds) (hx : Passes CX X E)
    (I : Inv X pins σ H s) (r : Vals vs us) (h : sp (vs ++ dvs) H Q E) : wpAny (model X.prog X.w) X.A (call (.ref f) us) (EP X pins σ Q) X.xe s := by
  have r2 : Vals (vs ++ dvs) (us ++ ds) := r.append hd
  have hl : (us ++ ds).length = ps.length := by rw [← r2.length]; exact F.len _ _ _ _ h
  refine wpAny_call (codeAny_mono (F.run X.A X.stack s H ⟨us, []⟩ (us ++ ds) (vs ++ dvs) Q E hr I.env0 (hb s us I.kIn hl) r2 h) fun r s' hq => ?_)
  cases r with
  | error e => exact hx pins σ H s e s' I hq
  | ok fl =>
    cases fl with
    | ret u => exact I.after hq
    | next => exact False.elim hq
    | brk => exact False.elim hq
    | cont => exact False.elim hq

theorem pe_call (F : FnOk X.prog X.w X.K X.mg X.base CX k f fd ps sp) (hr : Room k X.A) (hg : Gl X x) (hm : X.mg x = some (.ref f)) (hk : PySem.W.keepIn X.K (.ref f) = true) (hb : Binds X.K fd ps ds) (hd : Vals dvs ds) (hx : Passes CX X E)
    (ha : PA X (e :: es) t) (hdb : (x == ("__debug__" : Str)) = false := by decide) (he : starEach (e :: es) X.env = (false, eval e X.env) :: starEach es X.env := by rfl) (hpl : (backTo pos (starEach es X.env)).any (·.1) = false := by rfl) :
    PE X (.Call (.Name x p) (e :: es) [] pos) (tCall sp dvs E t) := by
  intro pins s σ H Q I h
  refine wpAny_Call_Name_kw (ld_glob I hg hm ?_ hdb)
  refine PySem.W.callWith_K (h₀ := X.base) I.ok.mod.kin hk (thn (ha pos pins s σ H _ I h) fun us s1 ⟨vs, H1, I1, r, q⟩ => ⟨I1.kIn, ?_⟩) he hpl
  exact run_fn F hr hb hd hx I1 r q
theorem pe_call0 (F : FnOk X.prog X.w X.K X.mg X.base CX k f fd ps sp) (hr : Room k X.A) (hg : Gl X x) (hm : X.mg x = some (.ref f)) (hk : PySem.W.keepIn X.K (.ref f) = true) (hb : Binds X.K fd ps ds) (hd : Vals dvs ds) (hx : Passes CX X E)
    (hdb : (x == ("__debug__" : Str)) = false := by decide) : PE X (.Call (.Name x p) [] [] pos) (tCall sp dvs E tNil) := by
  intro pins s σ H Q I h
  refine wpAny_Call_Name_kw (ld_glob I hg hm ?_ hdb)
  exact PySem.W.callWith_K0 I.kIn hk (run_fn (us := []) F hr hb hd hx I .nil h)

/-- o.m(e, ..) -/
theorem pe_meth {pl : Sem Bool} (he : PE X o ta) (c : Cls X.K C) (hm : Meth X.K C m f) (F : FnOk X.prog X.w X.K X.mg X.base CX k f fd ps sp) (hr : Room k X.A) (hb : Binds X.K fd ps ds) (hd : Vals dvs ds) (hx : Passes CX X E) (ha : PA X (e :: es) t)
    (hst : starEach (e :: es) X.env = (false, eval e X.env) :: starEach es X.env := by rfl) (hpl : (backTo pos (starEach es X.env)).any (·.1) = false := by rfl)
    (ht : eval (.Call (.Attribute o m apos) (e :: es) [] pos) X.env = (do
      let ov ← eval o X.env
      standAt apos.atName
      let (f, first) ← holding [ov] (getMethod ov m pl)
      callWith pos f first (backTo pos (starEach (e :: es) X.env)) (backToKw pos (keywordEach [] X.env))) := by rfl) :
    PE X (.Call (.Attribute o m apos) (e :: es) [] pos) (tMeth C m sp dvs E ta t) := by
  intro pins s σ H Q I h
  refine PySem.W.methodCall_KW (pl := pl) (thn (he pins s σ H _ I h) fun u s1 ⟨x, H1, I1, rx, a, dx, fs, ex, ea, l, q⟩ => ?_) ht
  subst ex
  obtain rfl : u = Value.ref a := rx
  refine getmeth_ok I1 ea c hm l ?_
  refine PySem.W.callWith_K (first := [.ref a]) (h₀ := X.base) I.ok.mod.kin hm.kp (thn (ha pos pins s1 σ H1 _ I1 q) fun us s2 ⟨vs, H2, I2, r, q2⟩ => ⟨I2.kIn, ?_⟩) hst hpl
  exact run_fn (us := .ref a :: us) (vs := .ref a :: vs) F hr hb hd hx I2 (.cons rfl r) q2
/-- o.m() -/
theorem pe_meth0 {pl : Sem Bool} (he : PE X o ta) (c : Cls X.K C) (hm : Meth X.K C m f) (F : FnOk X.prog X.w X.K X.mg X.base CX k f fd ps sp) (hr : Room k X.A) (hb : Binds X.K fd ps ds) (hd : Vals dvs ds) (hx : Passes CX X E)
    (ht : eval (.Call (.Attribute o m apos) [] [] pos) X.env = (do
      let ov ← eval o X.env
      standAt apos.atName
      let (f, first) ← holding [ov] (getMethod ov m pl)
      callWith pos f first (backTo pos (starEach [] X.env)) (backToKw pos (keywordEach [] X.env))) := by rfl) :
    PE X (.Call (.Attribute o m apos) [] [] pos) (tMeth C m sp dvs E ta tNil) := by
  intro pins s σ H Q I h
  refine PySem.W.methodCall_KW (pl := pl) (thn (he pins s σ H _ I h) fun u s1 ⟨x, H1, I1, rx, a, dx, fs, ex, ea, l, q⟩ => ?_) ht
  subst ex
  obtain rfl : u = Value.ref a := rx
  refine getmeth_ok I1 ea c hm l ?_
  exact PySem.W.callWith_K0 (first := [.ref a]) I1.kIn hm.kp (run_fn (us := [.ref a]) (vs := [.ref a]) F hr hb hd hx I1 (.cons rfl .nil) q)

/-- what a class must have to be made -/
structure Mk (K : PySem.W.Frag) (C f : Addr) : Prop where
  makes : PySem.W.makesIn K C = true
  init : PySem.W.findIn K (.ref C) "__init__" = some (some (.ref f))
  fn : PySem.W.isFn K (.ref f) = true
  kp : PySem.W.keepIn K (.ref C) = true

theorem run_make {pins : List (Addr × Obj)} {σ : St} {H : Hp} {s : Shared} {Q : VK} {us : List Value} {vs : List V} (M : Mk X.K C f) (F : FnOk X.prog X.w X.K X.mg X.base CX k f fd ps sp) (hr : Room (k + 1) X.A) (hb : Binds X.K fd ps ds) (hd : Vals dvs ds)
    (hx : Passes CX X E) (I : Inv X pins σ H s) (r : Vals vs us)
    (h : ∀ x dx, H x = none → H dx = none → dx ≠ x → sp (.ref x :: (vs ++ dvs)) (upd (upd H dx (.own x)) x (.ins C dx [])) (fun v H2 => v = .non ∧ Q (.ref x) H2) E) :
    wpAny (model X.prog X.w) X.A (call (.ref C) us) (EP X pins σ Q) X.xe s := by
  have hq := h (s.heap.objs.size + 1) s.heap.objs.size (I.hok.fresh (Nat.le_succ _)) (I.hok.fresh (Nat.le_refl _)) (Nat.ne_of_lt (Nat.lt_succ_self _))
  have I2 := Inv.made (C := C) I
  have r2 : Vals (V.ref (s.heap.objs.size + 1) :: (vs ++ dvs)) (Value.ref (s.heap.objs.size + 1) :: (us ++ ds)) := .cons rfl (r.append hd)
  have hl : (Value.ref (s.heap.objs.size + 1) :: us ++ ds).length = ps.length := by
    have e := r2.length
    rw [F.len _ _ _ _ hq] at e
    exact e.symm
  refine wpAny_call (make_map (f := f) I.kIn M.makes M.init (beq_iff_eq.mp M.fn) (codeAny_mono (F.run _ X.stack _ _ ⟨Value.ref (s.heap.objs.size + 1) :: us, []⟩ (Value.ref (s.heap.objs.size + 1) :: (us ++ ds)) _ _ E (hr.make C us [])
    (I2.env0.make C us []) (hb _ (Value.ref (s.heap.objs.size + 1) :: us) I2.kIn hl) r2 hq) fun r s' hq' => ?_))
  cases r with
  | error e => exact hx pins σ _ _ e s' I2 hq'
  | ok fl =>
    cases fl with
    | ret u =>
      obtain ⟨v, H', I3, rv, ev, q3⟩ := I2.after hq'
      subst ev
      exact ⟨rv, ⟨V.ref (s.heap.objs.size + 1), H', I3, rfl, q3⟩⟩
    | next => exact False.elim hq'
    | brk => exact False.elim hq'
    | cont => exact False.elim hq'
theorem pe_make (M : Mk X.K C f) (F : FnOk X.prog X.w X.K X.mg X.base CX k f fd ps sp) (hr : Room (k + 1) X.A) (hg : Gl X x) (hm : X.mg x = some (.ref C)) (hb : Binds X.K fd ps ds) (hd : Vals dvs ds) (hx : Passes CX X E)
    (ha : PA X (e :: es) t) (hdb : (x == ("__debug__" : Str)) = false := by decide) (he : starEach (e :: es) X.env = (false, eval e X.env) :: starEach es X.env := by rfl) (hpl : (backTo pos (starEach es X.env)).any (·.1) = false := by rfl) :
    PE X (.Call (.Name x p) (e :: es) [] pos) (tMake C sp dvs E t) := by
  intro pins s σ H Q I h
  refine wpAny_Call_Name_kw (ld_glob I hg hm ?_ hdb)
  refine PySem.W.callWith_K (h₀ := X.base) I.ok.mod.kin M.kp (thn (ha pos pins s σ H _ I h) fun us s1 ⟨vs, H1, I1, r, q⟩ => ⟨I1.kIn, ?_⟩) he hpl
  exact run_make M F hr hb hd hx I1 r q
theorem pe_make0 (M : Mk X.K C f) (F : FnOk X.prog X.w X.K X.mg X.base CX k f fd ps sp) (hr : Room (k + 1) X.A) (hg : Gl X x) (hm : X.mg x = some (.ref C)) (hb : Binds X.K fd ps ds) (hd : Vals dvs ds) (hx : Passes CX X E)
    (hdb : (x == ("__debug__" : Str)) = false := by decide) : PE X (.Call (.Name x p) [] [] pos) (tMake C sp dvs E tNil) := by
  intro pins s σ H Q I h
  refine wpAny_Call_Name_kw (ld_glob I hg hm ?_ hdb)
  exact PySem.W.callWith_K0 I.kIn M.kp (run_make (us := []) M F hr hb hd hx I .nil h)
end

/-! ### keywords -/
/-- the values of the keywords, from the left -/
def PK (X : Cx) (kws : List Keyword) (t : TA) : Prop :=
  ∀ (pos : Pos) (pins : List (Addr × Obj)) (s : Shared) (σ : St) (H : Hp) (Q : List V → Hp → Prop), Inv X pins σ H s → t σ H Q → wpAny (model X.prog X.w) X.A (evalAll ((backToKw pos (keywordEach kws X.env)).map (·.2))) (AP X pins σ Q) X.xe s
section
variable {X : Cx} {CX : CXT} {k : Nat} {f C : Addr} {fd : FuncData} {ps ks : List Str} {sp : Sp} {E : XK} {x m : Str} {p pos apos kpos : Pos} {e o : Expr} {es : List Expr} {kws : List Keyword} {te ta : TE} {t tk : TA} {nm : Option Str}
theorem pk_nil : PK X [] tNil := fun _ _ _ _ H Q I h => wpAny_evalAll_nil ⟨[], H, I, .nil, h⟩
theorem pk_cons (ha : PE X e te) (hr : PK X kws t) : PK X (⟨nm, e, kpos⟩ :: kws) (tCons te t) := by
  intro pos pins s σ H Q I h
  show wpAny _ _ (evalAll ((do let v ← eval e X.env; standAt pos; pure v) :: (backToKw pos (keywordEach kws X.env)).map (·.2))) _ _ s
  refine wpAny_evalAll_cons (wpAny_bind (thn (ha pins s σ H _ I h) fun u s1 ⟨x, H1, I1, r1, q1⟩ => wpAny_bind (wpAny_standAt (wpAny_pure ?_))))
  exact thn (hr pos pins s1 σ H1 _ I1 q1) fun us s2 ⟨xs, H2, I2, r2, q2⟩ => ⟨x :: xs, H2, I2, .cons r1 r2, q2⟩

/-- how a call with keywords binds: g puts the positional values us and the keywords' values ws (names ks) in the parameters' order, defaults among them -/
structure KBinds (K : PySem.W.Frag) (fd : FuncData) (ps ks : List Str) (g : List Value → List Value → List Value) (gV : List V → List V → List V) : Prop where
  to : ∀ (s : Shared) (us ws : List Value), K.In s.heap → (g us ws).length = ps.length → BindsTo s fd ⟨us, ks.zip ws⟩ (ps.zip (g us ws))
  rel : ∀ {vs : List V} {us : List Value} {zs : List V} {ws : List Value}, Vals vs us → Vals zs ws → Vals (gV vs zs) (g us ws)
def tCallK (sp : Sp) (gV : List V → List V → List V) (E : XK) (t tk : TA) : TE := fun σ H Q => t σ H fun vs H1 => tk σ H1 fun zs H2 => sp (gV vs zs) H2 Q E
variable {g : List Value → List Value → List Value} {gV : List V → List V → List V}
theorem run_fnk {pins : List (Addr × Obj)} {σ : St} {H : Hp} {s : Shared} {Q : VK} {us ws : List Value} {vs zs : List V} (F : FnOk X.prog X.w X.K X.mg X.base CX k f fd ps sp) (hr : Room k X.A) (hb : KBinds X.K fd ps ks g gV) (hx : Passes CX X E)
    (I : Inv X pins σ H s) (r : Vals vs us) (rz : Vals zs ws) (h : sp (gV vs zs) H Q E) : wpAny (model X.prog X.w) X.A (call (.ref f) us (ks.zip ws)) (EP X pins σ Q) X.xe s := by
  have r2 := hb.rel r rz
  have hl : (g us ws).length = ps.length := by rw [← r2.length]; exact F.len _ _ _ _ h
  refine wpAny_call (codeAny_mono (F.run X.A X.stack s H ⟨us, ks.zip ws⟩ (g us ws) (gV vs zs) Q E hr I.env0 (hb.to s us ws I.kIn hl) r2 h) fun r s' hq => ?_)
  cases r with
  | error e => exact hx pins σ H s e s' I hq
  | ok fl =>
    cases fl with
    | ret u => exact I.after hq
    | next => exact False.elim hq
    | brk => exact False.elim hq
    | cont => exact False.elim hq
/-- f(e, .., k = v, ..) -/
theorem pe_callK (F : FnOk X.prog X.w X.K X.mg X.base CX k f fd ps sp) (hr : Room k X.A) (hg : Gl X x) (hm : X.mg x = some (.ref f)) (hk : PySem.W.keepIn X.K (.ref f) = true) (hb : KBinds X.K fd ps ks g gV) (hx : Passes CX X E)
    (ha : PA X (e :: es) t) (hkw : PK X kws tk) (hall : (backToKw pos (keywordEach kws X.env)).all (·.1.isSome) = true := by rfl) (hks : (backToKw pos (keywordEach kws X.env)).filterMap (·.1) = ks := by rfl)
    (hdb : (x == ("__debug__" : Str)) = false := by decide) (he : starEach (e :: es) X.env = (false, eval e X.env) :: starEach es X.env := by rfl)
    (hpl : ((backTo pos (starEach (e :: es) X.env)).any (·.1) || (backToKw pos (keywordEach kws X.env)).any (·.1.isNone)) = false := by rfl) :
    PE X (.Call (.Name x p) (e :: es) kws pos) (tCallK sp gV E t tk) := by
  intro pins s σ H Q I h
  refine wpAny_Call_Name_kw (ld_glob I hg hm ?_ hdb)
  refine PySem.W.callWith_KW (h₀ := X.base) I.ok.mod.kin hk hall (thn (ha pos pins s σ H _ I h) fun us s1 ⟨vs, H1, I1, r, q⟩ => ?_) hpl he
  refine thn (hkw pos pins s1 σ H1 _ I1 q) fun ws s2 ⟨zs, H2, I2, rz, q2⟩ => ⟨I2.kIn, ?_⟩
  rw [hks]
  exact run_fnk F hr hb hx I2 r rz q2
end

/-! ### a def's body keeps its promise -/
/-- names: the parameters first -/
structure FnScope (N P : List Str) (sc : Scope) : Prop where
  kind : sc.kind = .function
  co : sc.isCoroutine = false
  gen : sc.isGenerator = false
  nd : N.Nodup
  pre : N.take P.length = P
  par : ∀ x ∈ P, sc.names.lookup x = some .local ∨ sc.names.lookup x = some .cell
  nofree : ∀ y ∈ sc.names, y.2 ≠ .free

theorem bindL_out {kindOf : Str → Option NameKind} {x : Str} : ∀ {binds : List (Str × Value)} {m : Str → Option Value}, (∀ v, (x, v) ∉ binds) → bindL kindOf binds m x = m x
  | [], _, _ => rfl
  | (n, v) :: r, m, h => by
    unfold bindL
    rw [bindL_out fun w hw => h w (List.mem_cons_of_mem _ hw)]
    split
    · have : x ≠ n := by rintro rfl; exact h v List.mem_cons_self
      simp [this]
    · rfl
theorem bindC_out {kindOf : Str → Option NameKind} {x : Str} : ∀ {binds : List (Str × Value)} {m : Str → Option Value}, (∀ v, (x, v) ∉ binds) → bindC kindOf binds m x = m x
  | [], _, _ => rfl
  | (n, v) :: r, m, h => by
    unfold bindC
    rw [bindC_out fun w hw => h w (List.mem_cons_of_mem _ hw)]
    split
    · rfl
    · have : x ≠ n := by rintro rfl; exact h v List.mem_cons_self
      simp [this]
theorem bindL_get {kindOf : Str → Option NameKind} {x : Str} {v : Value} : ∀ {P : List Str} {vs : List Value} {i : Nat} {m : Str → Option Value}, P.Nodup → P[i]? = some x → vs[i]? = some v → kindOf x = some .local →
    bindL kindOf (P.zip vs) m x = some v
  | [], _, _, _, _, h, _, _ => by simp at h
  | _ :: _, [], _, _, _, _, h, _ => by simp at h
  | p :: P, w :: vs, 0, m, nd, h1, h2, hk => by
    simp at h1 h2; subst h1; subst h2
    show bindL kindOf ((p, w) :: P.zip vs) m p = _
    unfold bindL
    rw [bindL_out fun v hv => (List.nodup_cons.mp nd).1 (List.of_mem_zip hv).1, if_pos hk]
    simp
  | p :: P, w :: vs, i + 1, m, nd, h1, h2, hk => by
    show bindL kindOf ((p, w) :: P.zip vs) m x = _
    unfold bindL
    exact bindL_get (i := i) (List.nodup_cons.mp nd).2 (by simpa using h1) (by simpa using h2) hk
theorem bindC_get {kindOf : Str → Option NameKind} {x : Str} {v : Value} : ∀ {P : List Str} {vs : List Value} {i : Nat} {m : Str → Option Value}, P.Nodup → P[i]? = some x → vs[i]? = some v → kindOf x ≠ some .local →
    bindC kindOf (P.zip vs) m x = some v
  | [], _, _, _, _, h, _, _ => by simp at h
  | _ :: _, [], _, _, _, _, h, _ => by simp at h
  | p :: P, w :: vs, 0, m, nd, h1, h2, hk => by
    simp at h1 h2; subst h1; subst h2
    show bindC kindOf ((p, w) :: P.zip vs) m p = _
    unfold bindC
    rw [bindC_out fun v hv => (List.nodup_cons.mp nd).1 (List.of_mem_zip hv).1, if_neg hk]
    simp
  | p :: P, w :: vs, i + 1, m, nd, h1, h2, hk => by
    show bindC kindOf ((p, w) :: P.zip vs) m x = _
    unfold bindC
    exact bindC_get (i := i) (List.nodup_cons.mp nd).2 (by simpa using h1) (by simpa using h2) hk

/-- the names' values at the entry -/
def start (N : List Str) (vs : List V) : St := vs.map some ++ List.replicate (N.length - vs.length) none

/-- the context of a def's body, at its entry; an exception leaves the frame, then lies as CX says -/
def cxOf (CX : CXT) (P : Program) (w : World) (K : PySem.W.Frag) (mg : Str → Option Value) (base : Heap) (N : List Str) (qual : Str) (scope : Scope) (f : Addr) (cd : Value) (A : Around) (outer : List Env) (s : Shared) (H : Hp) (E : XK) : Cx where
  prog := P
  w := w
  K := K
  mg := mg
  base := base
  A := A.deeper (envOfC qual scope s.heap.objs.size f cd)
  N := N
  s₀ := s
  H₀ := H
  env := envOfC qual scope s.heap.objs.size f cd
  outer := outer
  stack := envOfC qual scope s.heap.objs.size f cd :: outer
  ex := []
  calm := true
  fn := fun _ => true
  pn := []
  xe := fun e s' => wpAny (model P w) (A.deeper (envOfC qual scope s.heap.objs.size f cd)) (leaving (envOfC qual scope s.heap.objs.size f cd) e) (fun _ s'' => CX outer H s E e s'') (fun e' s'' => CX outer H s E e' s'') s'

theorem cell_has {sc : Scope} {n : Nat} {x : Str} (h : sc.names.lookup x = some .cell) : ∃ c, (cellsFrom n sc.names []).lookup x = some c := by
  have q := PySem.W.cellsFrom_some sc.names n [] (.inl h)
  exact Option.isSome_iff_exists.mp q

theorem inv_start {CX : CXT} {P : Program} {w : World} {K : PySem.W.Frag} {mg : Str → Option Value} {base : Heap} {N ps : List Str} {qual : Str} {scope : Scope} {f : Addr} {cd : Value} {A : Around} {outer : List Env} {s s1 : Shared} {H : Hp} {E : XK} {us : List Value} {vs : List V}
    (S : FnScope N ps scope) (hd : A.handled = none) (e0 : Env0 P w K mg base A outer s H) (hl : vs.length = ps.length) (r : Vals vs us)
    (x : InCallC s s.heap.objs.size (bindL (envOfC qual scope s.heap.objs.size f cd).kindOf (ps.zip us) fun _ => none) (cellsFrom (s.heap.objs.size + 1) scope.names []) (bindC (envOfC qual scope s.heap.objs.size f cd).kindOf (ps.zip us) fun _ => none) s1) :
    Inv (cxOf CX P w K mg base N qual scope f cd A outer s H E) [] (start N vs) H s1 := by
  have hpl : ps.length ≤ N.length := by have := congrArg List.length S.pre; rw [List.length_take] at this; omega
  obtain ⟨h1, tk, rfl, hk⟩ := x.done
  have noA : ∀ b : Addr, b ∉ (cxOf CX P w K mg base N qual scope f cd A outer s H E).ex := fun b z => absurd (show b ∈ ([] : List Addr) from z) (by simp)
  refine ⟨⟨e0.mod, S.kind, rfl, rfl, Nat.le_refl _, fun y z c h1 h2 => ?_, fun y hy => ?_, fun y c _ h => ?_, fun _ => hd, Around.frames_deeper e0.frames, .inr ⟨rfl, rfl⟩, fun b z => absurd z (noA b), e0.bs, e0.bsz, fun b _ _ => noA b, fun b z => absurd z (noA b), e0.funs, e0.frf⟩,
    rfl, e0.bare, Un.kept hk, ⟨_, x.toInCall.ns, fun i y v h1 h2 h3 => ?_⟩, fun y c h => ⟨_, x.cell y c h⟩, e0.hok.fresh (Nat.le_refl _), fun y c h => ?_, fun p hp => absurd (show p ∈ ([] : List (Addr × Obj)) from hp) (by simp), e0.hok.kept hk, ?_⟩
  · exact name_of_addr x.apart (PySem.mem_of_lookup h1) (PySem.mem_of_lookup h2)
  · have hy : scope.names.lookup y = some .cell ∨ scope.names.lookup y = some .free := hy
    rcases hy with hy | hy
    · exact cell_has hy
    · exact absurd rfl (S.nofree _ (PySem.mem_of_lookup hy))
  · exact Nat.le_of_lt (x.above y c (PySem.mem_of_lookup h))
  · have hi : i < vs.length := by
      unfold start at h2
      by_cases hi : i < vs.length
      · exact hi
      · rw [List.getElem?_append_right (by simpa using hi)] at h2
        rw [List.getElem?_replicate] at h2
        split at h2 <;> cases h2
    have ha : vs[i]? = some v := by
      unfold start at h2
      rw [List.getElem?_append_left (by simpa using hi), List.getElem?_map] at h2
      cases e : vs[i]? with
      | none => rw [e] at h2; cases h2
      | some a => rw [e] at h2; cases h2; rfl
    obtain ⟨u, hu, rv⟩ := r.get ha
    have hp : ps[i]? = some y := by
      rw [← S.pre, List.getElem?_take_of_lt (by omega)]; exact h1
    have ndP : ps.Nodup := by rw [← S.pre]; exact S.nd.sublist (List.take_sublist _ _)
    refine ⟨u, rv, ?_⟩
    rcases S.par y (List.mem_of_getElem? hp) with k | k
    · exact .inl ⟨k, bindL_get ndP hp hu k⟩
    · obtain ⟨c, e⟩ := cell_has (n := s.heap.objs.size + 1) k
      refine .inr ⟨.inl k, c, e, ?_⟩
      have q := x.cell y c e
      rw [bindC_get ndP hp hu (by show scope.names.lookup y ≠ _; rw [k]; decide)] at q
      exact q
  · exact e0.hok.fresh (Nat.le_of_lt (x.above y c (PySem.mem_of_lookup h)))
  · unfold start
    show _ = N.length
    rw [List.length_append, List.length_map, List.length_replicate]
    omega

/-- THE RULE: a def (or a method) of the text, by its body. The body's reading t is chosen for each entry; it is run at the parameters' values -/
theorem fn_of {CX : CXT} {P : Program} {w : World} {K : PySem.W.Frag} {mg : Str → Option Value} {base : Heap} {k : Nat} {f : Addr} {name qual : Str} {params : Arguments} {body : List Stmt} {scope : Scope} {dV kV doc pm cdv ct oc : Value} {an od : Option Addr}
    {osl : Array (Option Value)} {N ps : List Str} {sp : Sp} (lk : K.lookup f = some ⟨oc, od, .func (PySem.W.fnOf name qual params body scope dV kV doc pm an cdv ct), osl⟩) (hcd : PySem.W.codeIn K cdv qual = true) (S : FnScope N ps scope)
    (len : ∀ vs H Q E, sp vs H Q E → vs.length = ps.length)
    (hbody : ∀ (A : Around) (outer : List Env) (s : Shared) (H : Hp) (vs : List V) (Q : VK) (E : XK), Room k (A.deeper (envOfC qual scope s.heap.objs.size f cdv)) → sp vs H Q E →
      ∃ t, PSs (cxOf CX P w K mg base N qual scope f cdv A outer s H E) body t ∧ t { nx := fun _ H' => Q .non H', rt := Q } (start N vs) H) :
    FnOk P w K mg base CX (k + 1) f (PySem.W.fnOf name qual params body scope dV kV doc pm an cdv ct) ps sp := by
  refine ⟨len, fun A outer s H args us vs Q E hr e0 hb r hsp => ?_⟩
  have hl := len _ _ _ _ hsp
  have KX : K.In s.heap := e0.mod.kin.keeps fun b o e => (e0.bs b o e).1
  have lim : s.heap.NoLimit := e0.mod.nolimit.keeps fun b o e => (e0.bs b o e).1
  have hkind : ∀ y ∈ ps.zip us, scope.names.lookup y.1 = some .local ∨ (scope.names.lookup y.1 = some .cell ∧ ((cellsFrom (s.heap.objs.size + 1) scope.names []).lookup y.1).isSome = true) := fun ⟨n, v⟩ hy => by
    rcases S.par n (List.of_mem_zip hy).1 with q | q
    · exact .inl q
    · exact .inr ⟨q, PySem.W.cellsFrom_some _ _ _ (.inl q)⟩
  refine codeAny_call_function hr.depth (KX _ _ lk) rfl S.co S.gen rfl (PySem.W.codeRec_of KX hcd) (hb _ _ _ _ ?_)
  refine wpAny_newFunctionEnv_cells S.kind hkind fun env he s1 x => ?_
  subst he
  refine ⟨lim.keeps x.toInCall.keep, codeAny_func ?_⟩
  obtain ⟨t, ht, hq⟩ := hbody A outer s H vs Q E (hr.deeper _) hsp
  have I : Inv (cxOf CX P w K mg base N qual scope f cdv A outer s H E) [] (start N vs) H s1 := inv_start S hr.hd e0 hl r x
  refine wpAny_mono (ht [] s1 (start N vs) H _ I hq) (fun fl s' hs => ?_) fun e s' hs => hs
  have fin : ∀ {σ' : St} {H' : Hp} {v : V} {u : Value}, Inv (cxOf CX P w K mg base N qual scope f cdv A outer s H E) [] σ' H' s' → RelV v u → Q v H' → CE outer P w H s Q u s' :=
    fun {σ' H' v u} J rv q => ⟨v, H', J.os, J.bare, J.base, J.hok, rv, q⟩
  cases fl with
  | ret u =>
    obtain ⟨v, σ', H', J, rv, q⟩ := hs
    exact fin J rv q
  | next =>
    obtain ⟨σ', H', J, q⟩ := hs
    exact fin (v := V.non) (u := Value.none) J rfl q
  | brk =>
    obtain ⟨_, _, _, q⟩ := hs
    exact False.elim q
  | cont =>
    obtain ⟨_, _, _, q⟩ := hs
    exact False.elim q
end L2

namespace L2
open PySem PySem.Spec PyProof.Rows
section
variable {X : Cx} {x : Str} {p pos : Pos} {e : Expr} {es : List Expr} {t : TA} {id T : String} {r : List V → Hp → VK → Prop}

def tCB (r : List V → Hp → VK → Prop) (t : TA) : TE := fun σ H Q => t σ H fun vs H1 => r vs H1 Q
/-- f(e, ..), f a built-in function -/
theorem pe_callB (hc : CallR X (.builtin id) r) (hg : Gl X x) (hm : X.mg x = none) (hv : bootBuiltins x = some (.builtin id)) (ha : PA X (e :: es) t) (hn : x ≠ "__name__" := by decide) (hdb : (x == ("__debug__" : Str)) = false := by decide)
    (he : starEach (e :: es) X.env = (false, eval e X.env) :: starEach es X.env := by rfl) (hpl : (backTo pos (starEach es X.env)).any (·.1) = false := by rfl) : PE X (.Call (.Name x p) (e :: es) [] pos) (tCB r t) := by
  intro pins s σ H Q I h
  refine wpAny_Call_Name_kw (ld_blt I hg hm hv ?_ hn hdb)
  exact PyProof.Rows.callWith_builtin1 (thn (ha pos pins s σ H _ I h) fun us s1 ⟨vs, H1, I1, r1, q1⟩ => hc pins s1 σ H1 vs us Q I1 r1 q1) he hpl
/-- T(e, ..), T a built-in type -/
theorem pe_callTy (hc : CallR X (.type T) r) (hg : Gl X x) (hm : X.mg x = none) (hv : bootBuiltins x = some (.type T)) (ha : PA X (e :: es) t) (hn : x ≠ "__name__" := by decide) (hdb : (x == ("__debug__" : Str)) = false := by decide)
    (he : starEach (e :: es) X.env = (false, eval e X.env) :: starEach es X.env := by rfl) (hpl : (backTo pos (starEach es X.env)).any (·.1) = false := by rfl) : PE X (.Call (.Name x p) (e :: es) [] pos) (tCB r t) := by
  intro pins s σ H Q I h
  refine wpAny_Call_Name_kw (ld_blt I hg hm hv ?_ hn hdb)
  exact PyProof.Rows.callWith_type1 (thn (ha pos pins s σ H _ I h) fun us s1 ⟨vs, H1, I1, r1, q1⟩ => hc pins s1 σ H1 vs us Q I1 r1 q1) he hpl
/-- T() -/
theorem pe_callTy0 (hc : CallR X (.type T) r) (hg : Gl X x) (hm : X.mg x = none) (hv : bootBuiltins x = some (.type T)) (hn : x ≠ "__name__" := by decide) (hdb : (x == ("__debug__" : Str)) = false := by decide) :
    PE X (.Call (.Name x p) [] [] pos) (tCB r tNil) := by
  intro pins s σ H Q I h
  refine wpAny_Call_Name_kw (ld_blt I hg hm hv ?_ hn hdb)
  exact PyProof.Rows.callWith_type0 (hc pins s σ H [] [] Q I .nil h)
end
end L2

namespace HT
open PySem PyProof.Rows

/-- t < u of tuples of ints -/
def lexLt : List Int → List Int → Bool
  | [], [] => false
  | [], _ :: _ => true
  | _ :: _, [] => false
  | x :: xs, y :: ys => if x = y then lexLt xs ys else decide (x < y)
theorem lexLt_cons (x y : Int) (xs ys : List Int) : lexLt (x :: xs) (y :: ys) = if x = y then lexLt xs ys else decide (x < y) := rfl
theorem lexLt_nil_nil : lexLt [] [] = false := rfl
theorem lexLt_nil_cons (y : Int) (ys : List Int) : lexLt [] (y :: ys) = true := rfl
theorem lexLt_cons_nil (x : Int) (xs : List Int) : lexLt (x :: xs) [] = false := rfl

theorem eqAt_int (A : Around) (s : Shared) (a : Int) (t : Tok) (c : Int) (u : Tok) : ∃ e, SeqAt.EqAt A s (.int a t) (.int c u) e ∧ (e = true ↔ a = c) :=
  ⟨(a == c), SeqAt.EqAt.int_int a t c u, by simp⟩
theorem rcLt_int (A : Around) (s : Shared) (a : Int) (t : Tok) (c : Int) (u : Tok) (prog : Program) (w : World) (E : Value → Shared → Prop) (Q : Value → Shared → Prop) (h : Q (.bool (decide (a < c))) s) :
    wpAny (model prog w) A (richCompare .Lt (.int a t) (.int c u)) Q E s :=
  (PyProof.Rows.lt_int h : wpAny (model prog w) A (compareOp .Lt (.int a t) (.int c u)) Q E s)

section
open PySem.SeqAt
open PySem.AutoSeq1 (wpAny_loadPart')
open PySem.MeetsSeq PySem.MeetsSeq2 PySem.MeetsSeq3

theorem tuple_lt_ints (l b : Addr) (items items2 : Array Value) (n n2 : Nat) (dd dd2 : Option Addr) (sl sl2 : Array (Option Value)) (ns ms : List Int) (hi : IntsAre items.toList ns) (hj : IntsAre items2.toList ms) :
    Meets (Builtin.«tuple.__lt__» ⟨[.ref l, .ref b], []⟩)
      (fun _ R s => s.heap.get? l = some { cls := .type "tuple", dict := dd, data := .seq items n, slots := sl } ∧ s.heap.get? b = some { cls := .type "tuple", dict := dd2, data := .seq items2 n2, slots := sl2 } ∧
        R (.ok (.ret (.bool (lexLt ns ms)))) s) :=
  .of_wp fun prog w A R s h => by
    obtain ⟨hp, g, d, tk, os⟩ := s; obtain ⟨hl, hb, h⟩ := h
    have f2 := AutoSeq1.sub_tuple_tuple
    have z1 : items.size = ns.length := by rw [← hi.length]; simp
    have z2 : items2.size = ms.length := by rw [← hj.length]; simp
    wp_walk using wpAny_loadPart' hl, wpAny_loadPart' hb, wpAny_forIn_list _ (fun rest b s' => b.1 = none ∧ s' = ⟨hp, g, d, tk, os⟩ ∧ ∃ (vs ws : List Value) (ns' ms' : List Int), rest = vs.zip ws ∧
      IntsAre vs ns' ∧ IntsAre ws ms' ∧ ns'.length + items2.size = ms'.length + items.size ∧ R (.ok (.ret (.bool (lexLt ns' ms')))) ⟨hp, g, d, tk, os⟩) _
    case turn =>
      rintro ⟨y, x⟩ rest b s' ⟨hb', rfl, vs, ws, ns', ms', hz, hvi, hwi, hlen, hR⟩
      cases hvi with
      | nil => rw [List.zip_nil_left] at hz; cases hz
      | cons a t hvi' =>
        cases hwi with
        | nil => rw [List.zip_nil_right] at hz; cases hz
        | cons c u hwi' =>
          rw [List.zip_cons_cons] at hz
          injection hz with hyx hrest
          injection hyx with hy hx
          subst hy hx
          rw [lexLt_cons] at hR
          simp only [List.length_cons] at hlen
          obtain ⟨e, he, hiff⟩ := eqAt_int A.in1 ⟨hp, g, d, tk, os⟩ a t c u
          refine wpAny_bind (he prog w _ _ ?_)
          cases e with
          | true =>
            rw [if_pos (hiff.mp rfl)] at hR
            wp_walk
            exact ⟨rfl, rfl, _, _, _, _, hrest, hvi', hwi', by omega, hR⟩
          | false =>
            rw [if_neg (fun q => absurd (hiff.mpr q) Bool.false_ne_true)] at hR
            have hri := rcLt_int A.in1 ⟨hp, g, d, tk, os⟩ a t c u prog w
            wp_walk using hri
            exact ⟨_, rfl, by simpa using hR⟩
    case fin =>
      rintro ⟨b1, b2⟩ s' ⟨hb', rfl, vs, ws, ns', ms', hz, hvi, hwi, hlen, hR⟩
      simp only at hb'
      subst hb'
      have hv : lexLt ns' ms' = decide (items.size < items2.size) := by
        cases hvi with
        | nil =>
          cases hwi with
          | nil =>
            simp only [List.length_nil] at hlen
            rw [lexLt_nil_nil]
            exact (decide_eq_false (by omega)).symm
          | cons c u hw =>
            simp only [List.length_nil, List.length_cons] at hlen
            rw [lexLt_nil_cons]
            exact (decide_eq_true (by omega)).symm
        | cons a t hv =>
          cases hwi with
          | nil =>
            simp only [List.length_nil, List.length_cons] at hlen
            rw [lexLt_cons_nil]
            exact (decide_eq_false (by omega)).symm
          | cons c u hw =>
            rw [List.zip_cons_cons] at hz
            cases hz
      rw [hv] at hR
      wp_walk
      exact ⟨_, rfl, by simpa [Builtin.Tuple.tupleCompareSizes] using hR⟩
    case h =>
      exact ⟨rfl, rfl, items.toList, items2.toList, ns, ms, rfl, hi, hj, by omega, h⟩
end

section
variable {prog : Program} {w : World} {A : Around} {E : Value → Shared → Prop} {s : Shared}

theorem lt_tupInts {l b : Addr} {items items2 : Array Value} {ns ms : List Int} {Q : Value → Shared → Prop} (hl : IsTup s.heap l items) (hb : IsTup s.heap b items2) (hi : IntsAre items.toList ns) (hj : IntsAre items2.toList ms)
    (hu : A.units < cLine) (h : Q (.bool (lexLt ns ms)) s) : wpAny (model prog w) A (compareOp .Lt (.ref l) (.ref b)) Q E s := by
  obtain ⟨⟨cls, dd, data, sl⟩, ho, hc, n, hd⟩ := id hl
  obtain ⟨⟨cls2, dd2, data2, sl2⟩, ho2, hc2, n2, hd2⟩ := id hb
  simp only at hc hd hc2 hd2
  subst hc hd hc2 hd2
  exact richCompare_meets_room (op := .Lt) ⟨_, ho, rfl⟩ ⟨_, ho2, rfl⟩ PySem.F.slot_tuple_lt PySem.F.entry_tuple_lt (PySem.F.args_tuple_lt_2 _ _) (tuple_lt_ints l b items items2 n n2 dd dd2 sl sl2 ns ms hi hj)
    ⟨ho, ho2, show Value.bool (lexLt ns ms) ≠ Value.notImplemented ∧ Q (.bool (lexLt ns ms)) s from ⟨(fun x => nomatch x), h⟩⟩ hu

/-- t + u, t not empty -/
theorem cat_tup {t b : Addr} {vs ws : List Value} {Q : Value → Shared → Prop} (ht : IsTup s.heap t vs.toArray) (hb : IsTup s.heap b ws.toArray) (hv : vs ≠ [])
    (h1 : ws = [] → Q (.ref t) s) (h2 : ws ≠ [] → Q (.ref s.heap.objs.size) { s with heap := s.heap.push { cls := .type "tuple", data := .seq (vs ++ ws).toArray } })
    (hsz : vs.length + ws.length ≤ sizeLine) : wpAny (model prog w) A (binaryOp .Add (.ref t) (.ref b)) Q E s := by
  obtain ⟨⟨cls, dd, data, sl⟩, ho, hc, n, hd⟩ := id ht
  obtain ⟨⟨cls2, dd2, data2, sl2⟩, ho2, hc2, n2, hd2⟩ := id hb
  simp only at hc hd hc2 hd2
  subst hc hd hc2 hd2
  have e : vs.toArray ++ ws.toArray = (vs ++ ws).toArray := by simp
  by_cases hw : ws = []
  · exact concat_meets ⟨_, ho, rfl⟩ ⟨_, ho2, rfl⟩ noFill_tuple_add seq_tuple_add PySem.F.slot_tuple_add PySem.F.entry_tuple_add (PySem.F.args_tuple_add_2 _ _)
      (tuple_addW1 t b vs.toArray ws.toArray n n2 dd dd2 sl sl2 (by simpa using hv) (by simp [hw])) ⟨ho, ho2, h1 hw⟩
  · refine concat_meets ⟨_, ho, rfl⟩ ⟨_, ho2, rfl⟩ noFill_tuple_add seq_tuple_add PySem.F.slot_tuple_add PySem.F.entry_tuple_add (PySem.F.args_tuple_add_2 _ _)
      (tuple_addW2 t b vs.toArray ws.toArray n n2 dd dd2 sl sl2 (by simpa using hv) (by simpa using hw) (by rw [List.size_toArray, List.size_toArray]; exact hsz)) ⟨ho, ho2, ?_⟩
    rw [e]
    exact h2 hw

/-! ### t[a:b], not the whole -/
/-- a slice's bound as a place among n (d where it is left out) -/
def sIx (n d : Nat) : Option Int → Nat
  | none => d
  | some v => if v < 0 then (v + (n : Int)).toNat else min v.toNat n
theorem sIx_none (n d : Nat) : sIx n d none = d := rfl
theorem sIx_nat (n d k : Nat) : sIx n d (some (k : Int)) = min k n := by
  show (if (k : Int) < 0 then ((k : Int) + (n : Int)).toNat else min (k : Int).toNat n) = min k n
  rw [if_neg (by omega), Int.toNat_natCast]
theorem sIx_le (n d : Nat) (hd : d ≤ n) (o : Option Int) : sIx n d o ≤ n := by
  cases o with
  | none => exact hd
  | some v =>
    show (if v < 0 then (v + (n : Int)).toNat else min v.toNat n) ≤ n
    by_cases hv : v < 0
    · rw [if_pos hv]; omega
    · rw [if_neg hv]; exact Nat.min_le_right _ _
theorem clip_eq (v : Int) (n d : Nat) : (if v < 0 then max (v + (n : Int)) 0 else min v (n : Int)) = ((sIx n d (some v) : Nat) : Int) := by
  show (if v < 0 then max (v + (n : Int)) 0 else min v (n : Int)) = (((if v < 0 then (v + (n : Int)).toNat else min v.toNat n) : Nat) : Int)
  by_cases hv : v < 0
  · simp only [if_pos hv]; omega
  · simp only [if_neg hv]; omega
theorem adjust_gen (lo hi : Option Int) (n : Nat) : Builtin.Slice.sliceAdjust lo hi 1 (n : Int) = (((sIx n 0 lo : Nat) : Int), ((sIx n n hi : Nat) : Int)) := by
  have h1 : ¬ ((1 : Int) < 0) := by omega
  unfold Builtin.Slice.sliceAdjust
  simp only [h1, if_false]
  refine Prod.ext ?_ ?_
  · cases lo with
    | none => rfl
    | some v => exact clip_eq v n 0
  · cases hi with
    | none => rfl
    | some v => exact clip_eq v n n
theorem places_gen (i j : Nat) : Builtin.Slice.slicePlaces (i : Int) (j : Int) 1 = j - i := by
  unfold Builtin.Slice.slicePlaces
  have h1 : (1 : Int) > 0 := by omega
  simp only [h1, if_true, Int.ediv_one]
  split <;> omega
theorem slicePart_ {v : Value} {o : Option Int} {Q : Option Int → Shared → Prop} (p : IsPart v o) (h : Q o s) : wpAny (model prog w) A (Builtin.Slice.slicePartIndex v) Q E s := by
  cases p with
  | none => exact slicePart_none h
  | int i t => exact slicePart_int h
theorem sliceApplied_gen {sl : Addr} {vl vu : Value} {lo hi : Option Int} {n : Nat} {Q : Int × Int × Nat → Shared → Prop} (hs : s.heap.IsSliceOf sl vl vu .none) (pl : IsPart vl lo) (pu : IsPart vu hi)
    (h : Q (((sIx n 0 lo : Nat) : Int), 1, sIx n n hi - sIx n 0 lo) s) : wpAny (model prog w) A (Builtin.Slice.sliceApplied (.ref sl) (pure (n : Int))) Q E s := by
  obtain ⟨os, hos, hcs, hds⟩ := id hs
  unfold Builtin.Slice.sliceApplied Builtin.Slice.sliceFields
  refine wpAny_bind (wpAny_bind (wpAny_field hos hds (x := vl) rfl (wpAny_bind (wpAny_field hos hds (x := vu) rfl (wpAny_bind (wpAny_field hos hds (x := .none) rfl (wpAny_pure ?_)))))))
  refine wpAny_bind (slicePart_none ?_)
  show wpAny _ _ (if ((1 : Int) == 0) = true then _ else _) _ _ s
  rw [if_neg (by decide)]
  refine wpAny_bind (slicePart_ pl (wpAny_bind (slicePart_ pu (wpAny_bind (wpAny_pure ?_)))))
  show wpAny _ _ (match Builtin.Slice.sliceAdjust lo hi 1 (n : Int) with | (lo, hi) => pure (lo, (1 : Int), Builtin.Slice.slicePlaces lo hi 1)) _ _ s
  rw [adjust_gen lo hi n]
  show wpAny _ _ (pure (((sIx n 0 lo : Nat) : Int), (1 : Int), Builtin.Slice.slicePlaces ((sIx n 0 lo : Nat) : Int) ((sIx n n hi : Nat) : Int) 1)) _ _ s
  rw [places_gen]
  exact wpAny_pure h
theorem pick_gen (xs : Array Value) (i k : Nat) : ((List.range k).filterMap fun (m : Nat) => xs[((i : Int) + (m : Int) * 1).toNat]?).toArray = ((xs.toList.drop i).take k).toArray := by
  have e : (fun (m : Nat) => xs[((i : Int) + (m : Int) * 1).toNat]?) = fun m => xs[i + m]? := by
    funext m
    have : ((i : Int) + (m : Int) * 1).toNat = i + m := by omega
    rw [this]
  rw [e]
  have := pick_run xs i k
  rw [List.filterMap_map] at this
  have e2 : ((fun x => xs[x]?) ∘ fun x => i + x) = fun m => xs[i + m]? := rfl
  rw [e2] at this
  rw [this]

theorem getItem_tuple_cut {t sl : Addr} {items : Array Value} {vl vu : Value} {lo hi : Option Int} {Q : Value → Shared → Prop} (ht : IsTup s.heap t items) (hs : s.heap.IsSliceOf sl vl vu .none) (pl : IsPart vl lo) (pu : IsPart vu hi)
    (hw : ¬ (sIx items.size 0 lo = 0 ∧ sIx items.size items.size hi = items.size))
    (h : Q (.ref s.heap.objs.size) { s with heap := s.heap.push { cls := .type "tuple", data := .seq ((items.toList.drop (sIx items.size 0 lo)).take (sIx items.size items.size hi - sIx items.size 0 lo)).toArray } })
    (hsz : items.size ≤ sizeLine) : wpAny (model prog w) A (getItem (.ref t) (.ref sl)) Q E s := by
  have htake : sizeOk (.seq ((items.toList.drop (sIx items.size 0 lo)).take (sIx items.size items.size hi - sIx items.size 0 lo)).toArray) := by
    show ((items.toList.drop (sIx items.size 0 lo)).take (sIx items.size items.size hi - sIx items.size 0 lo)).toArray.size ≤ sizeLine
    rw [List.size_toArray, List.length_take, List.length_drop, Array.length_toList]
    omega
  have hj : sIx items.size items.size hi ≤ items.size := sIx_le _ _ (Nat.le_refl _) hi
  obtain ⟨os, hos, hcs, hds⟩ := id hs
  have hTs : s.TypeIs (.ref sl) "slice" := ⟨os, hos, hcs⟩
  unfold getItem
  try with_reducible refine wpAny_holding ?_
  first | refine wpAny_bind (wpAny_pure ?_) | skip
  refine wpAny_bind (wpAny_sequenceKey ht.typeIs (by decide) ?_)
  refine wpAny_bind (wpAny_callSpecial?_slot (name := Str.ofString "__getitem__") ht.typeIs PyProof.Rows.slot_tuple_getitem
    (wpAny_call_entry PyProof.Rows.slot_tuple_getitem ht.typeIs entry_tuple_getitem ?_ (args_tuple_getitem _ _)))
  show wpAny _ _ (Builtin.Tuple.tupleItemsOf (.ref t) >>= _) _ _ s
  refine wpAny_bind (tupleItemsOf_ ht ?_)
  refine wpAny_bind (wpAny_typeOf hTs ?_)
  rw [if_pos (by decide)]
  refine wpAny_bind (sliceApplied_gen hs pl pu ?_)
  have hno : ¬ ((((sIx items.size 0 lo : Nat) : Int) == 0 && (1 : Int) == 1 && (sIx items.size items.size hi - sIx items.size 0 lo) == items.size) = true) := by
    intro q
    rw [Bool.and_eq_true, Bool.and_eq_true] at q
    have q1 : ((sIx items.size 0 lo : Nat) : Int) = 0 := eq_of_beq q.1.1
    have q2 : sIx items.size items.size hi - sIx items.size 0 lo = items.size := eq_of_beq q.2
    exact hw ⟨by omega, by omega⟩
  show wpAny _ _ (if (((sIx items.size 0 lo : Nat) : Int) == 0 && (1 : Int) == 1 && (sIx items.size items.size hi - sIx items.size 0 lo) == items.size) = true then _ else _) _ _ s
  rw [if_neg hno, pick_gen]
  first
    | exact wpAny_bind (m := Builtin.Tuple.tupleExact _) (wpAny_newObj_type (wpAny_pure ⟨_, rfl, wpAny_pure h⟩) htake)
    | exact wpAny_bind (m := Builtin.Tuple.tupleExact _) (wpAny_newObj_type (wpAny_bind (wpAny_pure (wpAny_pure ⟨_, rfl, wpAny_pure h⟩))) htake)
    | exact wpAny_bind (wpAny_bind (m := Builtin.Tuple.tupleExact _) (wpAny_newObj_type (wpAny_pure (wpAny_pure ⟨_, rfl, wpAny_pure h⟩)) htake))
    | exact wpAny_bind (wpAny_bind (m := Builtin.Tuple.tupleExact _) (wpAny_newObj_type (wpAny_pure ⟨_, rfl, wpAny_pure h⟩) htake))
end
end HT

namespace L2
open PySem PySem.Spec PyProof.Rows

/-! ### the parts of a slice -/
abbrev TO := St → Hp → (Option Int → Hp → Prop) → Prop
/-- a slice's part (left out, or an int) -/
def PO (X : Cx) (e : Option Expr) (t : TO) : Prop :=
  ∀ (pins : List (Addr × Obj)) (s : Shared) (σ : St) (H : Hp) (Q : Option Int → Hp → Prop), Inv X pins σ H s → t σ H Q →
    wpAny (model X.prog X.w) X.A (evalPart e X.env) (fun u s' => ∃ o H', Inv X pins σ H' s' ∧ IsPart u o ∧ Q o H') X.xe s
def tNoPart : TO := fun _ H Q => Q none H
def tPart (t : TE) : TO := fun σ H Q => t σ H fun x H1 => ∃ i, x = .int i ∧ Q (some i) H1

theorem intsAre_of {ns : List Int} : ∀ {us : List Value}, Vals (ns.map V.int) us → IntsAre us ns := by
  induction ns with
  | nil => intro us r; rw [List.map_nil] at r; cases r; exact .nil
  | cons n ns ih =>
    intro us r
    rw [List.map_cons] at r
    cases r with
    | cons r1 r2 =>
      obtain ⟨t, e⟩ := r1
      subst e
      exact .cons n t (ih r2)

section
variable {X : Cx} {e : Expr} {te : TE} {lo hi : Option Expr} {tl th : TO} {pos p2 : Pos}

theorem po_none : PO X none tNoPart := by
  intro pins s σ H Q I h
  rw [evalPart_none]
  exact wpAny_pure ⟨none, H, I, .none, h⟩
theorem po_some (h : PE X e te) : PO X (some e) (tPart te) := by
  intro pins s σ H Q I hw
  rw [evalPart_some]
  refine thn (h pins s σ H _ I hw) fun u s1 ⟨x, H1, I1, r1, q1⟩ => ?_
  obtain ⟨i, rfl, q⟩ := q1
  obtain ⟨t, rfl⟩ := r1
  exact ⟨some i, H1, I1, .int i t, q⟩

/-- what a slice of a value is, by values: the slice object stands at sl -/
def SlR (X : Cx) (r : V → Option Int → Option Int → Hp → VK → Prop) : Prop :=
  ∀ (pins : List (Addr × Obj)) (s : Shared) (σ : St) (H : Hp) (x : V) (v vl vu : Value) (lo hi : Option Int) (sl : Addr) (Q : VK), Inv X pins σ H s → RelV x v → s.heap.IsSliceOf sl vl vu .none → IsPart vl lo → IsPart vu hi → r x lo hi H Q →
    ∃ T id, typeLookup (.type T) "__getitem__" = pure (some (.builtin id)) ∧ s.TypeIs v T ∧ wpAny (model X.prog X.w) X.A (getItem v (.ref sl)) (EP X pins σ Q) X.xe s
theorem SlR.or {r r' : V → Option Int → Option Int → Hp → VK → Prop} (h : SlR X r) (h' : SlR X r') : SlR X (fun x lo hi H Q => r x lo hi H Q ∨ r' x lo hi H Q) := by
  intro pins s σ H x v vl vu lo hi sl Q I rx hs pl pu q
  rcases q with q | q
  · exact h pins s σ H x v vl vu lo hi sl Q I rx hs pl pu q
  · exact h' pins s σ H x v vl vu lo hi sl Q I rx hs pl pu q
def tSl (r : V → Option Int → Option Int → Hp → VK → Prop) (te : TE) (tl th : TO) : TE := fun σ H Q => te σ H fun x H1 => tl σ H1 fun l H2 => th σ H2 fun u H3 => r x l u H3 Q
/-- a[lo:hi], any a -/
theorem pe_slice {r : V → Option Int → Option Int → Hp → VK → Prop} (hr : SlR X r) (he : PE X e te) (hl : PO X lo tl) (hu : PO X hi th) : PE X (.Subscript e (.Slice lo hi none p2) pos) (tSl r te tl th) := by
  intro pins s σ H Q I h
  refine Subscript_ (thn (he pins s σ H _ I h) fun v s1 ⟨x, H1, I1, r1, q1⟩ => ?_)
  refine wpAny_Slice (thn (hl pins s1 σ H1 _ I1 q1) fun vl s2 ⟨l, H2, I2, pl, q2⟩ => thn (hu pins s2 σ H2 _ I2 q2) fun vu s3 ⟨u, H3, I3, pu, q3⟩ => ?_)
  rw [evalPart_none]
  refine wpAny_pure ?_
  have I4 : Inv X pins σ H3 { s3 with heap := s3.heap.push { cls := .type "slice", data := .fields #[vl, vu, .none] } } := I3.kept (t' := s3.toks) fun b ob q => Heap.get?_push_of_some _ q
  obtain ⟨T, id, hT, ht, hg⟩ := hr pins { s3 with heap := s3.heap.push { cls := .type "slice", data := .fields #[vl, vu, .none] } } σ H3 x v vl vu l u s3.heap.objs.size Q I4 r1 (Heap.IsSliceOf.new ..) pl pu q3
  show wpAny (model X.prog X.w) X.A (subscriptTail e (.Slice lo hi none p2) v (.ref s3.heap.objs.size)) (EP X pins σ Q) X.xe { s3 with heap := s3.heap.push { cls := .type "slice", data := .fields #[vl, vu, .none] } }
  exact tail_any (ops := [.ref s3.heap.objs.size, v]) ht hT hg (by with_unfolding_all rfl)

/-- the items of xs[lo:hi] -/
def cutV (xs : List V) (lo hi : Option Int) : List V := (xs.drop (HT.sIx xs.length 0 lo)).take (HT.sIx xs.length xs.length hi - HT.sIx xs.length 0 lo)
theorem cutV_length (xs : List V) (lo hi : Option Int) : (cutV xs lo hi).length ≤ xs.length := by
  unfold cutV
  rw [List.length_take, List.length_drop]
  omega
/-- t[lo:hi], not the whole of it (the whole would be t itself) -/
def rSlT (K : PySem.W.Frag) : V → Option Int → Option Int → Hp → VK → Prop := fun x lo hi H Q => ∃ a xs, x = .ref a ∧ SqT K H a xs ∧
  ¬ (HT.sIx xs.length 0 lo = 0 ∧ HT.sIx xs.length xs.length hi = xs.length) ∧ ∀ p, H p = none → Q (.ref p) (upd H p (.tup (cutV xs lo hi)))
theorem sl_tup : SlR X (rSlT X.K) := by
  intro pins s σ H x v vl vu lo hi sl Q I rx hs pl pu h
  obtain ⟨a, xs, rfl, hx, hw, q⟩ := h
  cases rx
  obtain ⟨its, r, ht, hz⟩ := I.tuple hx
  have hlen : its.toArray.size = xs.length := by rw [List.size_toArray]; exact r.length.symm
  refine ⟨"tuple", _, PyProof.Rows.slot_tuple_getitem.lookup, ht.typeIs, ?_⟩
  refine HT.getItem_tuple_cut ht hs pl pu (by rw [hlen]; exact hw) ?_ (by rw [hlen]; exact hz)
  rw [hlen]
  refine ⟨.ref s.heap.objs.size, _, I.laid (t' := s.toks) (o := .tup (cutV xs lo hi)) (fun b ob q => Heap.get?_push_of_some _ q) (Nat.le_refl _) ?_, rfl, q _ (I.hok.fresh (Nat.le_refl _))⟩
  exact ⟨Nat.le_trans (cutV_length xs lo hi) hz, _, (r.drop (HT.sIx xs.length 0 lo)).take (HT.sIx xs.length xs.length hi - HT.sIx xs.length 0 lo), IsTup.new _ _⟩

/-! ### t < u, t + u -/
def rLtT (K : PySem.W.Frag) : R2 := fun x y H Q => ∃ a b ns ms, x = .ref a ∧ y = .ref b ∧ SqT K H a (ns.map V.int) ∧ SqT K H b (ms.map V.int) ∧ Q (.bl (HT.lexLt ns ms)) H
theorem op_ltT (hu : X.A.units < cLine) : OpR X (compareOp .Lt) (rLtT X.K) := by
  intro pins s σ H x y v u Q I rx ry h
  obtain ⟨a, b, ns, ms, rfl, rfl, ha, hb, q⟩ := h
  cases rx
  cases ry
  obtain ⟨its, r1, p1, _⟩ := I.tuple ha
  obtain ⟨its2, r2, p2, _⟩ := I.tuple hb
  have i1 : IntsAre its.toArray.toList ns := intsAre_of r1
  have i2 : IntsAre its2.toArray.toList ms := intsAre_of r2
  exact HT.lt_tupInts p1 p2 i1 i2 hu ⟨.bl (HT.lexLt ns ms), H, I, rfl, q⟩
/-- t + u, t not empty: u empty gives t itself -/
def rCatT (K : PySem.W.Frag) : R2 := fun x y H Q => ∃ a b xs ys, x = .ref a ∧ y = .ref b ∧ SqT K H a xs ∧ SqT K H b ys ∧ xs ≠ [] ∧ xs.length + ys.length ≤ sizeLine ∧
  (ys = [] → Q (.ref a) H) ∧ (ys ≠ [] → ∀ p, H p = none → Q (.ref p) (upd H p (.tup (xs ++ ys))))
theorem Vals.nil_iff {xs : List V} {us : List Value} (r : Vals xs us) : us = [] ↔ xs = [] := by
  cases r with
  | nil => simp
  | cons _ _ => simp
theorem op_catT : OpR X (binaryOp .Add) (rCatT X.K) := by
  intro pins s σ H x y v u Q I rx ry h
  obtain ⟨a, b, xs, ys, rfl, rfl, ha, hb, hx, hz, q1, q2⟩ := h
  cases rx
  cases ry
  obtain ⟨its, r1, p1, _⟩ := I.tuple ha
  obtain ⟨its2, r2, p2, _⟩ := I.tuple hb
  refine HT.cat_tup p1 p2 (fun z => hx (r1.nil_iff.mp z)) (fun z => ⟨.ref a, H, I, rfl, q1 (r2.nil_iff.mp z)⟩) (fun z => ?_) (by rw [← r1.length, ← r2.length]; exact hz)
  refine ⟨.ref s.heap.objs.size, _, I.laid (t' := s.toks) (o := .tup (xs ++ ys)) (fun b ob q => Heap.get?_push_of_some _ q) (Nat.le_refl _) ?_, rfl, q2 (fun w => z (r2.nil_iff.mpr w)) _ (I.hok.fresh (Nat.le_refl _))⟩
  exact ⟨by rw [List.length_append]; exact hz, _, r1.append r2, IsTup.new _ _⟩
/-- tuple(t) -/
theorem call_tupleT : CallR X (.type "tuple") (fun xs H Q => ∃ a ys, xs = [.ref a] ∧ SqT X.K H a ys ∧ Q (.ref a) H) := by
  intro pins s σ H xs us Q I r h
  obtain ⟨a, ys, rfl, ha, q⟩ := h
  obtain ⟨u, rfl, ru⟩ := vals1 r
  cases ru
  obtain ⟨its, _, p1, _⟩ := I.tuple ha
  exact call_tuple_same (items := its.toArray) p1 ⟨.ref a, H, I, rfl, q⟩
end
end L2

namespace L2
open PySem PySem.Spec PyProof.Rows

/-! ### places -/
/-- the place that an index of any sign means -/
def ixN (n : Nat) (i : Int) : Option Nat := if 0 ≤ i then (if i < n then some i.toNat else none) else if -(n : Int) ≤ i then some (i + n).toNat else none
def atI {α : Type} (xs : List α) (i : Int) : Option α := (ixN xs.length i).bind fun j => xs[j]?
theorem ixN_seq {n : Nat} {i : Int} {j : Nat} (h : ixN n i = some j) : seqIndex? i n = some j ∧ j < n ∧ -(n : Int) ≤ i ∧ i < n := by
  unfold ixN at h
  by_cases h0 : 0 ≤ i
  · rw [if_pos h0] at h
    by_cases h1 : i < n
    · rw [if_pos h1] at h
      have e : i.toNat = j := Option.some.inj h
      exact ⟨by rw [seqIndex_of h0 h1, e], by omega, by omega, h1⟩
    · rw [if_neg h1] at h; cases h
  · rw [if_neg h0] at h
    by_cases h1 : -(n : Int) ≤ i
    · rw [if_pos h1] at h
      have e : (i + n).toNat = j := Option.some.inj h
      exact ⟨by rw [seqIndex_neg (by omega) h1, e], by omega, h1, by omega⟩
    · rw [if_neg h1] at h; cases h
theorem atI_get {α : Type} {xs : List α} {i : Int} {v : α} (h : atI xs i = some v) : ∃ j, seqIndex? i xs.length = some j ∧ xs[j]? = some v ∧ j < xs.length ∧ -(xs.length : Int) ≤ i ∧ i < xs.length := by
  unfold atI at h
  cases e : ixN xs.length i with
  | none => rw [e] at h; cases h
  | some j =>
    rw [e] at h
    obtain ⟨h1, h2, h3, h4⟩ := ixN_seq e
    exact ⟨j, h1, h, h2, h3, h4⟩
theorem atI_nat {α : Type} {xs : List α} {j : Nat} {v : α} (h : xs[j]? = some v) : atI xs (j : Int) = some v := by
  have hj : j < xs.length := (List.getElem?_eq_some_iff.mp h).1
  have e : ixN xs.length (j : Int) = some j := by
    unfold ixN
    rw [if_pos (by omega), if_pos (by omega)]; simp
  unfold atI; rw [e]; exact h
theorem atI_last {α : Type} (xs : List α) (v : α) : atI (xs ++ [v]) (-1) = some v := by
  have hl : (xs ++ [v]).length = xs.length + 1 := by simp
  have e : ixN (xs ++ [v]).length (-1) = some xs.length := by
    unfold ixN
    rw [hl, if_neg (by decide), if_pos (by omega)]
    congr 1
    omega
  unfold atI
  rw [e]
  show (xs ++ [v])[xs.length]? = some v
  simp

/-! ### what may be subscripted -/
/-- what stands as an index of a plain subscript -/
def PlainIx (b : Expr) : Prop := ∀ o i, subscripted b false o i = operate [o, i] (getItem o i)
/-- a subscript by values -/
def IxR (X : Cx) (r : R2) : Prop :=
  ∀ (value slice : Expr) (pins : List (Addr × Obj)) (s : Shared) (σ : St) (H : Hp) (x y : V) (v u : Value) (Q : VK), Inv X pins σ H s → RelV x v → RelV y u → r x y H Q →
    subscripted slice false v u = operate [v, u] (getItem v u) → wpAny (model X.prog X.w) X.A (subscriptTail value slice v u) (EP X pins σ Q) X.xe s
/-- a call of a builtin's method by values: the receiver, the arguments -/
def MtR (X : Cx) (id : String) (r : V → List V → Hp → VK → Prop) : Prop :=
  ∀ (pins : List (Addr × Obj)) (s : Shared) (σ : St) (H : Hp) (x : V) (xs : List V) (v : Value) (us : List Value) (Q : VK), Inv X pins σ H s → RelV x v → Vals xs us → r x xs H Q →
    wpAny (model X.prog X.w) X.A (call (.builtin id) (v :: us)) (EP X pins σ Q) X.xe s
section
variable {X : Cx} {a b : Expr} {ta tb : TE} {pos : Pos}
theorem IxR.or {r r' : R2} (h : IxR X r) (h' : IxR X r') : IxR X (fun x y H Q => r x y H Q ∨ r' x y H Q) := by
  intro value slice pins s σ H x y v u Q I rx ry q hs
  rcases q with q | q
  · exact h value slice pins s σ H x y v u Q I rx ry q hs
  · exact h' value slice pins s σ H x y v u Q I rx ry q hs
theorem MtR.or {id : String} {r r' : V → List V → Hp → VK → Prop} (h : MtR X id r) (h' : MtR X id r') : MtR X id (fun x xs H Q => r x xs H Q ∨ r' x xs H Q) := by
  intro pins s σ H x xs v us Q I rx rs q
  rcases q with q | q
  · exact h pins s σ H x xs v us Q I rx rs q
  · exact h' pins s σ H x xs v us Q I rx rs q
/-- a[b] -/
theorem pe_ix {r : R2} (hr : IxR X r) (ha : PE X a ta) (hb : PE X b tb) (hs : PlainIx b) : PE X (.Subscript a b pos) (tOp r ta tb) := by
  intro pins s σ H Q I h
  exact Subscript_ (binT ha hb I h fun v u s2 x y H2 I2 rx ry q => hr a b pins s2 σ H2 x y v u Q I2 rx ry q (hs _ _))

def rIxL (K : PySem.W.Frag) : R2 := fun x y H Q => ∃ p xs i v, x = .ref p ∧ y = .int i ∧ SqL K H p xs ∧ atI xs i = some v ∧ Q v H
def rIxT (K : PySem.W.Frag) : R2 := fun x y H Q => ∃ p xs i v, x = .ref p ∧ y = .int i ∧ SqT K H p xs ∧ atI xs i = some v ∧ Q v H
def rIxS : R2 := fun x y H Q => ∃ z i c, x = .str z ∧ y = .int i ∧ z.length ≤ sizeLine ∧ atI z.cps.toList i = some c ∧ Q (.str ⟨#[c]⟩) H
theorem ix_list : IxR X (rIxL X.K) := by
  intro value slice pins s σ H x y v u Q I rx ry h hs
  obtain ⟨p, xs, i, z, rfl, rfl, hq, he, q⟩ := h
  cases rx
  obtain ⟨t, rfl⟩ := ry
  obtain ⟨its, r, pl, hz⟩ := I.list hq
  obtain ⟨j, h1, h2, h3, h4, h5⟩ := atI_get he
  obtain ⟨w, ew, rw'⟩ := r.get h2
  have hl := r.length
  have hn := line63
  have fin : EP X pins σ Q w s := ⟨z, H, I, rw', q⟩
  by_cases h0 : 0 ≤ i
  · have hj : i.toNat = j := by
      rw [seqIndex_of h0 h5] at h1
      exact Option.some.inj h1
    exact item_listR pl.isList h0 (by omega) (by rw [hj]; simpa using ew) fin hs
  · have hj : (i + (its.toArray.size : Int)).toNat = j := by
      rw [seqIndex_neg (by omega) h4] at h1
      rw [List.size_toArray, ← hl]
      exact Option.some.inj h1
    exact subscriptTail_builtinR (x := w) pl.isList.typeIs slot_list_getitem.lookup
      (wpAny_getItem_list_neg (Q := fun r s' => r = w ∧ EP X pins σ Q r s') pl.isList (by omega) (by rw [List.size_toArray] <;> omega) (by omega) (by rw [hj]; simpa using ew) ⟨rfl, fin⟩) hs
theorem ix_tup : IxR X (rIxT X.K) := by
  intro value slice pins s σ H x y v u Q I rx ry h hs
  obtain ⟨p, xs, i, z, rfl, rfl, hq, he, q⟩ := h
  cases rx
  obtain ⟨t, rfl⟩ := ry
  obtain ⟨its, r, pl, hz⟩ := I.tuple hq
  obtain ⟨j, h1, h2, h3, h4, h5⟩ := atI_get he
  obtain ⟨w, ew, rw'⟩ := r.get h2
  have hl := r.length
  have hn := line63
  have fin : EP X pins σ Q w s := ⟨z, H, I, rw', q⟩
  exact subscriptTail_builtinR (x := w) pl.typeIs slot_tuple_getitem.lookup
    (getItem_tuple (j := j) (Q := fun r s' => r = w ∧ EP X pins σ Q r s') pl (by omega) (by omega) (by rw [List.size_toArray, ← hl]; exact h1) (by simpa using ew) ⟨rfl, fin⟩) hs
theorem ix_str : IxR X rIxS := by
  intro value slice pins s σ H x y v u Q I rx ry h hs
  obtain ⟨z, i, c, rfl, rfl, hz, he, q⟩ := h
  obtain ⟨t, rfl⟩ := rx
  obtain ⟨t', rfl⟩ := ry
  obtain ⟨j, h1, h2, h3, h4, h5⟩ := atI_get he
  have hl : z.cps.toList.length = z.length := by simp [Str.length]
  rw [hl] at h1 h4 h5
  have hn := line63
  exact tail_any (typeIs_str s z t) slot_str_getitem.lookup (getItem_str (c := c) (by
    have e1 : decide (i < -(2 ^ 63 : Int)) = false := decide_eq_false (by omega)
    have e2 : decide (i ≥ 2 ^ 63) = false := decide_eq_false (by omega)
    rw [e1, e2, Bool.or_false]) (by rw [h1]; simpa using h2) ⟨.str ⟨#[c]⟩, H, I.tok _, ⟨_, rfl⟩, q⟩) hs
/-- list, tuple or str -/
def rIx (K : PySem.W.Frag) : R2 := fun x y H Q => rIxL K x y H Q ∨ rIxT K x y H Q ∨ rIxS x y H Q
theorem ix_seq : IxR X (rIx X.K) := ix_list.or (ix_tup.or ix_str)

/-! ### xs[i] = v, any sign -/
/-- the list's object behind a store -/
theorem mapSeq_set (its : List Value) (n j : Nat) (u : Value) : Obj.mapSeq (·.setIfInBounds j u) { cls := .type "list", data := .seq its.toArray n } = { cls := .type "list", data := .seq (its.set j u).toArray n } := by
  simp [Obj.mapSeq]
theorem Inv.lst {pins : List (Addr × Obj)} {σ : St} {H : Hp} {s : Shared} {p : Addr} {xs : List V} (I : Inv X pins σ H s) (h : H p = some (.lst xs)) :
    ∃ (its : List Value) (n : Nat), Vals xs its ∧ s.heap.get? p = some { cls := .type "list", data := .seq its.toArray n } ∧ xs.length ≤ sizeLine := by
  obtain ⟨z, its, n, r, e⟩ := I.hok p _ h
  exact ⟨its, n, r, e, z⟩
/-- the list at p is written by an update of its object -/
theorem Inv.lstUpd {pins : List (Addr × Obj)} {σ : St} {H : Hp} {s : Shared} {p : Addr} {xs ys : List V} {its its' : List Value} {n n' : Nat} {f : Obj → Obj} (I : Inv X pins σ H s) (h : H p = some (.lst xs))
    (ho : s.heap.get? p = some { cls := .type "list", data := .seq its.toArray n }) (hf : f { cls := .type "list", data := .seq its.toArray n } = { cls := .type "list", data := .seq its'.toArray n' }) (r : Vals ys its') (hz : ys.length ≤ sizeLine) (t : Nat) :
    Inv X pins σ (upd H p (.lst ys)) { s with heap := s.heap.update p f, toks := t } := by
  have e : (s.heap.update p f).get? p = some { cls := .type "list", data := .seq its'.toArray n' } := by
    rw [Heap.get?_update_self f ho (by rw [hf] <;> rfl), hf]
  refine I.write (x := p) (e := p) (by rw [h]; trivial) (.inl rfl) (fun b u hb q => (Heap.get?_update_other _ _ (Ne.symm hb)).trans q) ⟨_, e⟩ ?_
  exact ⟨hz, its', n', r, e⟩
def rSetL : V → V → V → Hp → (Hp → Prop) → Prop := fun o i v H Q => ∃ p xs k j, o = .ref p ∧ i = .int k ∧ H p = some (.lst xs) ∧ ixN xs.length k = some j ∧ Q (upd H p (.lst (xs.set j v)))
theorem set_list : PSet X rSetL := by
  intro pins s σ H o i v ov iv u Q I ro ri rv h
  obtain ⟨p, xs, k, j, rfl, rfl, hp, hj, q⟩ := h
  cases ro
  obtain ⟨t, rfl⟩ := ri
  obtain ⟨its, n, r, ho, hz⟩ := I.lst hp
  obtain ⟨h1, h2, h3, h4⟩ := ixN_seq hj
  have hl := r.length
  have hn := line63
  have I' : Inv X pins σ (upd H p (.lst (xs.set j v))) { s with heap := s.heap.update p (Obj.mapSeq (·.setIfInBounds j u)) } :=
    I.lstUpd hp ho (mapSeq_set its n j u) (r.set rv j) (by rw [List.length_set]; exact hz) s.toks
  by_cases h0 : 0 ≤ k
  · have hk : k.toNat = j := by
      rw [seqIndex_of h0 h4] at h1
      exact Option.some.inj h1
    exact PySem.W.ki_setAt ho h0 (by omega) (by rw [List.size_toArray, ← hl]; exact h4) (by rw [hk]; exact ⟨_, I', q⟩)
  · have hk : (k + (its.toArray.size : Int)).toNat = j := by
      rw [seqIndex_neg (by omega) h3] at h1
      rw [List.size_toArray, ← hl]
      exact Option.some.inj h1
    exact PySem.W.ki_setBack ho (by omega) (by rw [List.size_toArray, ← hl]; exact h3) (by omega) (by rw [hk]; exact ⟨_, I', q⟩)

/-! ### slices -/
theorem slice_bounds (lo hi : Option Int) (n : Nat) : (sliceBounds lo hi none n).1 = ((HT.sIx n 0 lo : Nat) : Int) ∧ (sliceBounds lo hi none n).2.1 = ((HT.sIx n n hi : Nat) : Int) ∧ (sliceBounds lo hi none n).2.2 = 1 := by
  refine ⟨?_, ?_, rfl⟩
  · cases lo with
    | none => simp [sliceBounds, HT.sIx]
    | some i =>
      simp only [sliceBounds, HT.sIx, Option.getD_none, show (1 : Int) > 0 by decide, if_true]
      by_cases h : i < 0
      · simp only [h, if_true] <;> omega
      · simp only [h, if_false] <;> omega
  · cases hi with
    | none => simp [sliceBounds, HT.sIx]
    | some i =>
      simp only [sliceBounds, HT.sIx, Option.getD_none, show (1 : Int) > 0 by decide, if_true]
      by_cases h : i < 0
      · simp only [h, if_true] <;> omega
      · simp only [h, if_false] <;> omega
theorem slicePick_cut (its : List Value) (lo hi : Option Int) : slicePick its.toArray lo hi none = ((its.drop (HT.sIx its.length 0 lo)).take (HT.sIx its.length its.length hi - HT.sIx its.length 0 lo)).toArray := by
  obtain ⟨h1, h2, h3⟩ := slice_bounds lo hi its.toArray.size
  unfold slicePick
  rw [h1, h2, h3]
  simp only [sliceRange_one, pick_run, List.size_toArray] <;> rfl
/-- xs[lo:hi] of a list: a new list -/
def rSlL (K : PySem.W.Frag) : V → Option Int → Option Int → Hp → VK → Prop := fun x lo hi H Q => ∃ a xs, x = .ref a ∧ SqL K H a xs ∧ ∀ p, H p = none → Q (.ref p) (upd H p (.lst (cutV xs lo hi)))
theorem sl_list : SlR X (rSlL X.K) := by
  intro pins s σ H x v vl vu lo hi sl Q I rx hs pl pu h
  obtain ⟨a, xs, rfl, hx, q⟩ := h
  cases rx
  obtain ⟨its, r, ht, hz⟩ := I.list hx
  have hlen := r.length
  refine ⟨"list", _, slot_list_getitem.lookup, ht.isList.typeIs, ?_⟩
  refine wpAny_getItem_list_slice ht.isList hs pl pu .none (by simp) ?_ (by rw [List.size_toArray] <;> omega)
  rw [slicePick_cut, ← hlen]
  refine ⟨.ref s.heap.objs.size, _, I.laid (t' := s.toks) (o := .lst (cutV xs lo hi)) (fun b ob q => Heap.get?_push_of_some _ q) (Nat.le_refl _) ?_, rfl, q _ (I.hok.fresh (Nat.le_refl _))⟩
  exact ⟨Nat.le_trans (cutV_length xs lo hi) hz, _, 0, (r.drop (HT.sIx xs.length 0 lo)).take (HT.sIx xs.length xs.length hi - HT.sIx xs.length 0 lo), Heap.get?_push_size _ rfl⟩

/-! ### in, not in: flat items -/
def flatV : V → Bool
  | .non => true
  | .bl _ => true
  | .int _ => true
  | .str _ => true
  | _ => false
/-- == of flat values -/
def eqV : V → V → Bool
  | .non, .non => true
  | .bl a, .bl b => a == b
  | .bl a, .int b => (if a then 1 else 0) == b
  | .int a, .bl b => a == (if b then 1 else 0)
  | .int a, .int b => a == b
  | .str a, .str b => a == b
  | _, _ => false
theorem eqAt_V {A : Around} {s : Shared} {y x : V} {u v : Value} (ry : RelV y u) (rx : RelV x v) (fy : flatV y = true) (fx : flatV x = true) : SeqAt.EqAt A s u v (eqV y x) := by
  cases y with
  | non =>
    cases ry
    cases x with
    | non => cases rx; exact SeqAt.EqAt.same _
    | bl b => cases rx; exact SeqAt.EqAt.none_bool b
    | int b => obtain ⟨t, rfl⟩ := rx; exact SeqAt.EqAt.none_int b t
    | str b => obtain ⟨t, rfl⟩ := rx; exact SeqAt.EqAt.none_str b t
    | _ => exact absurd (show false = true from fx) Bool.false_ne_true
  | bl a =>
    cases ry
    cases x with
    | non => cases rx; exact SeqAt.EqAt.bool_none a
    | bl b => cases rx; exact SeqAt.EqAt.bool_bool a b
    | int b => obtain ⟨t, rfl⟩ := rx; exact SeqAt.EqAt.bool_int a b t
    | str b => obtain ⟨t, rfl⟩ := rx; exact SeqAt.EqAt.bool_str a b t
    | _ => exact absurd (show false = true from fx) Bool.false_ne_true
  | int a =>
    obtain ⟨t', rfl⟩ := ry
    cases x with
    | non => cases rx; exact SeqAt.EqAt.int_none a t'
    | bl b => cases rx; exact SeqAt.EqAt.int_bool a t' b
    | int b => obtain ⟨t, rfl⟩ := rx; exact SeqAt.EqAt.int_int a t' b t
    | str b => obtain ⟨t, rfl⟩ := rx; exact SeqAt.EqAt.int_str a t' b t
    | _ => exact absurd (show false = true from fx) Bool.false_ne_true
  | str a =>
    obtain ⟨t', rfl⟩ := ry
    cases x with
    | non => cases rx; exact SeqAt.EqAt.str_none a t'
    | bl b => cases rx; exact SeqAt.EqAt.str_bool a t' b
    | int b => obtain ⟨t, rfl⟩ := rx; exact SeqAt.EqAt.str_int a t' b t
    | str b => obtain ⟨t, rfl⟩ := rx; exact SeqAt.EqAt.str_str a t' b t
    | _ => exact absurd (show false = true from fx) Bool.false_ne_true
  | _ => exact absurd (show false = true from fy) Bool.false_ne_true
/-- the items' answers, read off the values (a value's own answer does not lean on its token) -/
def eqU (x : V) (u : Value) : Bool := match u with
  | .none => eqV .non x
  | .bool b => eqV (.bl b) x
  | .int i _ => eqV (.int i) x
  | .str z _ => eqV (.str z) x
  | _ => false
theorem eqU_of {x y : V} {u : Value} (r : RelV y u) (f : flatV y = true) : eqU x u = eqV y x := by
  cases y with
  | non => cases r; rfl
  | bl b => cases r; rfl
  | int i => obtain ⟨t, rfl⟩ := r; rfl
  | str z => obtain ⟨t, rfl⟩ := r; rfl
  | _ => exact absurd (show false = true from f) Bool.false_ne_true
theorem any_eqU {x : V} : ∀ {xs : List V} {us : List Value}, Vals xs us → xs.all flatV = true → us.any (eqU x) = xs.any fun y => eqV y x
  | _, _, .nil, _ => rfl
  | y :: xs, u :: us, .cons r t, f => by
    rw [List.all_cons, Bool.and_eq_true] at f
    rw [List.any_cons, List.any_cons, eqU_of r f.1, any_eqU t f.2]
theorem mem_eqAt {A : Around} {s : Shared} {x : V} {v : Value} (rx : RelV x v) (fx : flatV x = true) : ∀ {xs : List V} {us : List Value}, Vals xs us → xs.all flatV = true → ∀ u ∈ us, SeqAt.EqAt A s u v (eqU x u)
  | _, _, .nil, _ => fun u hu => by cases hu
  | y :: xs, u :: us, .cons r t, f => fun u' hu => by
    rw [List.all_cons, Bool.and_eq_true] at f
    rcases List.mem_cons.mp hu with rfl | hu
    · rw [eqU_of r f.1]; exact eqAt_V r rx f.1 fx
    · exact mem_eqAt rx fx t f.2 u' hu
def inV (x : V) (xs : List V) : Bool := xs.any fun y => eqV y x
/-- x in a list or tuple of flat items -/
def rIn (K : PySem.W.Frag) (neg : Bool) : R2 := fun x y H Q => ∃ p xs, y = .ref p ∧ (SqL K H p xs ∨ SqT K H p xs) ∧ flatV x = true ∧ xs.all flatV = true ∧ Q (.bl (if neg then !inV x xs else inV x xs)) H
theorem op_in_seq : OpR X (compareOp .In) (rIn X.K false) := by
  intro pins s σ H x y v u Q I rx ry h
  obtain ⟨p, xs, rfl, hq, fx, fs, q⟩ := h
  cases ry
  rcases hq with hq | hq
  · obtain ⟨its, r, pl, hz⟩ := I.list hq
    refine SeqAt.in_listAt (eqU x) pl.isList (fun w hw => mem_eqAt rx fx r fs w (by simpa using hw)) ⟨.bl _, H, I, rfl, ?_⟩
    rw [show its.toArray.any (eqU x) = its.any (eqU x) by simp, any_eqU r fs]
    exact q
  · obtain ⟨its, r, pl, hz⟩ := I.tuple hq
    refine SeqAt.in_tupleAt (eqU x) pl (fun w hw => mem_eqAt rx fx r fs w (by simpa using hw)) ⟨.bl _, H, I, rfl, ?_⟩
    rw [show its.toArray.any (eqU x) = its.any (eqU x) by simp, any_eqU r fs]
    exact q
theorem op_notIn_seq : OpR X (compareOp .NotIn) (rIn X.K true) := by
  intro pins s σ H x y v u Q I rx ry h
  obtain ⟨p, xs, rfl, hq, fx, fs, q⟩ := h
  cases ry
  rcases hq with hq | hq
  · obtain ⟨its, r, pl, hz⟩ := I.list hq
    refine SeqAt.notIn_listAt (eqU x) pl.isList (fun w hw => mem_eqAt rx fx r fs w (by simpa using hw)) ⟨.bl _, H, I, rfl, ?_⟩
    rw [show its.toArray.any (eqU x) = its.any (eqU x) by simp, any_eqU r fs]
    exact q
  · obtain ⟨its, r, pl, hz⟩ := I.tuple hq
    refine SeqAt.notIn_tupleAt (eqU x) pl (fun w hw => mem_eqAt rx fx r fs w (by simpa using hw)) ⟨.bl _, H, I, rfl, ?_⟩
    rw [show its.toArray.any (eqU x) = its.any (eqU x) by simp, any_eqU r fs]
    exact q
theorem op_notIn_str : OpR X (compareOp .NotIn) (fun x y H Q => ∃ i j, x = .str i ∧ y = .str j ∧ Q (.bl (!(!(Builtin.Str.occurrences j i 0 j.length 1).isEmpty))) H) := by
  intro pins s σ H x y v u Q I rx ry h
  obtain ⟨i, j, rfl, rfl, q⟩ := h
  obtain ⟨t, rfl⟩ := rx
  obtain ⟨t', rfl⟩ := ry
  exact notIn_str ⟨.bl _, H, I, rfl, q⟩

/-! ### len, list(x), tuple(x) of any list or tuple that is read -/
theorem call_len_seq : CallR X (.builtin "len") (fun xs H Q => ∃ p ys, xs = [.ref p] ∧ (SqL X.K H p ys ∨ SqT X.K H p ys) ∧ Q (.int ys.length) H) := by
  intro pins s σ H xs us Q I r h
  obtain ⟨p, ys, rfl, hq, q⟩ := h
  obtain ⟨u, rfl, rx⟩ := vals1 r
  cases rx
  have hn := line63
  rcases hq with hq | hq
  · obtain ⟨its, r', pl, hz⟩ := I.list hq
    have hlen := r'.length
    exact Calls.call_len_list pl.isList (by simp only [List.size_toArray] <;> omega) ⟨.int ys.length, H, I.tok _, ⟨s.toks + 1, by rw [List.size_toArray, hlen]⟩, q⟩
  · obtain ⟨its, r', pl, hz⟩ := I.tuple hq
    have hlen := r'.length
    exact len_tuple pl (by simp only [List.size_toArray] <;> omega) ⟨.int ys.length, H, I.tok _, ⟨s.toks + 1, by rw [List.size_toArray, hlen]⟩, q⟩
theorem call_len_str : CallR X (.builtin "len") (fun xs H Q => ∃ z, xs = [.str z] ∧ z.length ≤ sizeLine ∧ Q (.int z.length) H) := by
  intro pins s σ H xs us Q I r h
  obtain ⟨z, rfl, hz, q⟩ := h
  obtain ⟨u, rfl, t, rfl⟩ := vals1 r
  have hn := line63
  exact len_str (by omega) ⟨.int z.length, H, I.tok _, ⟨_, rfl⟩, q⟩
theorem CallR.or {f : Value} {r r' : List V → Hp → VK → Prop} (h : CallR X f r) (h' : CallR X f r') : CallR X f (fun xs H Q => r xs H Q ∨ r' xs H Q) := by
  intro pins s σ H xs us Q I rs q
  rcases q with q | q
  · exact h pins s σ H xs us Q I rs q
  · exact h' pins s σ H xs us Q I rs q
theorem call_list_of : CallR X (.type "list") (fun xs H Q => ∃ p ys, xs = [.ref p] ∧ (SqL X.K H p ys ∨ SqT X.K H p ys) ∧ ∀ l, H l = none → Q (.ref l) (upd H l (.lst ys))) := by
  intro pins s σ H xs us Q I r h
  obtain ⟨p, ys, rfl, hq, q⟩ := h
  obtain ⟨u, rfl, rx⟩ := vals1 r
  cases rx
  have fin : ∀ (its : List Value), Vals ys its → ys.length ≤ sizeLine → ∀ (h' : Heap) (c' : Nat), (∀ b o', s.heap.get? b = some o' → h'.get? b = some o') →
      h'.get? s.heap.objs.size = some { cls := .type "list", dict := none, data := .seq its.toArray c', slots := #[] } → EP X pins σ Q (.ref s.heap.objs.size) { s with heap := h' } := fun its r' hz h' c' kp e =>
    ⟨.ref s.heap.objs.size, _, I.laid (t' := s.toks) kp (Nat.le_refl _) (show ObjOk X.prog X.w _ h' _ (.lst ys) from ⟨hz, its, c', r', e⟩), rfl, q _ (I.hok.fresh (Nat.le_refl _))⟩
  rcases hq with hq | hq
  · obtain ⟨its, r', pl, hz⟩ := I.list hq
    have hlen := r'.length
    obtain ⟨o, ho, hc, n, hd⟩ := pl.isList
    exact call_list_seq p (.inl rfl) ho hc hd (fun h' c' kp e => fin its r' hz h' c' kp e) (by simp only [List.size_toArray] <;> omega)
  · obtain ⟨its, r', pl, hz⟩ := I.tuple hq
    have hlen := r'.length
    obtain ⟨o, ho, hc, n, hd⟩ := pl
    exact call_list_seq p (.inr rfl) ho hc hd (fun h' c' kp e => fin its r' hz h' c' kp e) (by simp only [List.size_toArray] <;> omega)
theorem call_tuple_of : CallR X (.type "tuple") (fun xs H Q => ∃ p ys, xs = [.ref p] ∧ ((SqL X.K H p ys ∧ ∀ l, H l = none → Q (.ref l) (upd H l (.tup ys))) ∨ (SqT X.K H p ys ∧ Q (.ref p) H))) := by
  intro pins s σ H xs us Q I r h
  obtain ⟨p, ys, rfl, h⟩ := h
  obtain ⟨u, rfl, rx⟩ := vals1 r
  cases rx
  rcases h with ⟨hq, q⟩ | ⟨hq, q⟩
  · obtain ⟨its, r', pl, hz⟩ := I.list hq
    have hlen := r'.length
    refine call_tuple_list pl.isList (fun h' kp => ?_) (by simp only [List.size_toArray] <;> omega)
    have I1 : Inv X pins σ H { s with heap := h' } := I.kept (t' := s.toks) kp
    have I2 : Inv X pins σ (upd H h'.objs.size (.tup ys)) { s with heap := h'.push { cls := .type "tuple", data := .seq its.toArray } } :=
      I1.laid (t' := s.toks) (fun b o e => Heap.get?_push_of_some _ e) (Nat.le_refl _) (show ObjOk X.prog X.w _ _ _ (.tup ys) from ⟨hz, its, r', IsTup.new _ _⟩)
    exact ⟨.ref h'.objs.size, _, I2, rfl, q _ (I1.hok.fresh (Nat.le_refl _))⟩
  · obtain ⟨its, r', pl, hz⟩ := I.tuple hq
    exact call_tuple_same pl ⟨.ref p, H, I, rfl, q⟩

/-! ### the call of a builtin's method: o.m(..) -/
/-- the value is of that builtin type -/
def tyV (K : PySem.W.Frag) (T : String) (x : V) (H : Hp) : Prop := match x with
  | .str _ => T = "str"
  | .int _ => T = "int"
  | .ref p => (T = "list" ∧ ∃ xs, SqL K H p xs) ∨ (T = "tuple" ∧ ∃ o, K.lookup p = some o ∧ o.cls = .type "tuple" ∧ o.dict = none) ∨
      (T = "dict" ∧ ((∃ kvs, H p = some (.dK kvs)) ∨ ∃ kvs, H p = some (.dT kvs))) ∨ (T = "set" ∧ ∃ S n, H p = some (.set S n))
  | _ => False
theorem tyV_is {pins : List (Addr × Obj)} {σ : St} {H : Hp} {s : Shared} {T : String} {x : V} {v : Value} (I : Inv X pins σ H s) (r : RelV x v) (ty : tyV X.K T x H) :
    s.TypeIs v T ∧ ∀ a, v = .ref a → ∃ ob, s.heap.get? a = some ob ∧ ob.dict = none := by
  cases x with
  | str z =>
    obtain ⟨t, rfl⟩ := r
    cases (show T = "str" from ty)
    exact ⟨typeIs_str s z t, fun _ e => nomatch e⟩
  | int i =>
    obtain ⟨t, rfl⟩ := r
    cases (show T = "int" from ty)
    exact ⟨typeIs_int s i t, fun _ e => nomatch e⟩
  | ref p =>
    cases r
    rcases ty with ⟨rfl, xs, hq⟩ | ⟨rfl, o, hk, hc, hd⟩ | ⟨rfl, hk⟩ | ⟨rfl, S, n, hk⟩
    · obtain ⟨its, _, pl, _⟩ := I.list hq
      refine ⟨pl.isList.typeIs, fun a e => ?_⟩
      cases e
      obtain ⟨o, n, e, c, hd, _⟩ := pl
      exact ⟨o, e, hd⟩
    · refine ⟨⟨o, I.kIn p o hk, hc⟩, fun a e => ?_⟩
      cases e
      exact ⟨o, I.kIn _ o hk, hd⟩
    · have z : ∃ o, s.heap.get? p = some o ∧ o.ExactDict := by
        rcases hk with ⟨kvs, hk⟩ | ⟨kvs, hk⟩
        · obtain ⟨_, _, _, _, o, _, _, e, ex, _⟩ := I.hok p _ hk
          exact ⟨o, e, ex⟩
        · obtain ⟨_, _, _, _, o, _, _, e, ex, _⟩ := I.hok p _ hk
          exact ⟨o, e, ex⟩
      obtain ⟨o, e, ex⟩ := z
      refine ⟨⟨o, e, ex.1⟩, fun a e2 => ?_⟩
      cases e2
      exact ⟨o, e, ex.2.1⟩
    · obtain ⟨o, _, _, _, e, ex, _⟩ := I.hok p _ hk
      refine ⟨⟨o, e, ex.1⟩, fun a e2 => ?_⟩
      cases e2
      exact ⟨o, e, ex.2.1⟩
  | _ => exact False.elim ty
def tBM0 (K : PySem.W.Frag) (T : String) (r : V → List V → Hp → VK → Prop) (to : TE) : TE := fun σ H Q => to σ H fun x H1 => tyV K T x H1 ∧ r x [] H1 Q
def tBM (K : PySem.W.Frag) (T : String) (r : V → List V → Hp → VK → Prop) (to : TE) (t : TA) : TE := fun σ H Q => to σ H fun x H1 => tyV K T x H1 ∧ t σ H1 fun xs H2 => r x xs H2 Q
variable {o e : Expr} {es : List Expr} {to : TE} {t : TA} {name : Str} {apos cpos : Pos} {T id : String} {r : V → List V → Hp → VK → Prop}
theorem pe_bm0 (pa : PlainAttrs T) (slot : Slot T name id) (hty : typeOf (.builtin id) = pure (.type "method_descriptor")) (hm : MtR X id r) (ho : PE X o to)
    (hbase : attributeBase o name X.env (eval o X.env) = eval o X.env := by rfl) (hline : (apos.endLine == cpos.line) = true := by rfl) : PE X (.Call (.Attribute o name apos) [] [] cpos) (tBM0 X.K T r to) := by
  intro pins s σ H Q I h
  refine wpAny_Call_method0_late hbase hline (thn (ho pins s σ H _ I h) fun v s1 ⟨x, H1, I1, r1, ty, q1⟩ => ?_)
  obtain ⟨h1, h2⟩ := tyV_is I1 r1 ty
  exact ⟨T, id, pa, slot, hty, h1, h2, Calls.callWith_builtin rfl (PySem.evalArgs_none (hm pins s1 σ H1 x [] v [] Q I1 r1 .nil q1))⟩
theorem pe_bm (pa : PlainAttrs T) (slot : Slot T name id) (hty : typeOf (.builtin id) = pure (.type "method_descriptor")) (hm : MtR X id r) (ho : PE X o to) (ha : PA X (e :: es) t)
    (hbase : attributeBase o name X.env (eval o X.env) = eval o X.env := by rfl)
    (hfew : ((backTo cpos (starEach (e :: es) X.env)).all (fun x => !x.1) && (backToKw cpos (keywordEach [] X.env)).all (fun x => x.1.isSome)
      && decide ((e :: es).length + ([] : List Keyword).length + (if ([] : List Keyword).isEmpty then 0 else 1) < 30)) = true := by rfl)
    (hline : (apos.endLine == cpos.line) = true := by rfl) (hs : starEach (e :: es) X.env = (false, eval e X.env) :: starEach es X.env := by rfl) (hplain : (backTo cpos (starEach es X.env)).any (·.1) = false := by rfl) :
    PE X (.Call (.Attribute o name apos) (e :: es) [] cpos) (tBM X.K T r to t) := by
  intro pins s σ H Q I h
  refine wpAny_Call_method_late hbase hfew hline rfl (thn (ho pins s σ H _ I h) fun v s1 ⟨x, H1, I1, r1, ty, q1⟩ => ?_)
  obtain ⟨h1, h2⟩ := tyV_is I1 r1 ty
  refine ⟨T, id, pa, slot, hty, h1, h2, ?_⟩
  have hA := ha cpos pins s1 σ H1 _ I1 q1
  rw [hs] at hA ⊢
  refine Calls.callWith_builtin (by show (false || (backTo cpos (starEach es X.env)).any (·.1)) = false; rw [hplain] <;> rfl) (Calls.evalArgs_plain ?_)
  exact thn hA fun us s2 ⟨vs, H2, I2, r2, q2⟩ => hm pins s2 σ H2 x vs v us Q I2 r1 r2 q2
/- xs.append(e), list.index on a module's tuple .. are MtR facts of 06m -/
end
end L2

namespace L2
open PySem PySem.Spec PyProof.Rows

def MtM (X : Cx) (id : String) (r : V → List V → Hp → VK → Prop) : Prop :=
  ∀ (pins : List (Addr × Obj)) (s : Shared) (σ : St) (H : Hp) (x : V) (xs : List V) (v : Value) (us : List Value) (Q : VK), Inv X pins σ H s → RelV x v → Vals xs us → r x xs H Q →
    wpAny (model X.prog X.w) X.A (call (.builtin id) (v :: us)) (EP X pins σ Q) X.xe s

/-! ### lists of values -/
theorem Vals.one : ∀ {x : V} {us : List Value}, Vals [x] us → ∃ u, us = [u] ∧ RelV x u
  | _, _, .cons r .nil => ⟨_, rfl, r⟩
theorem Vals.two : ∀ {x y : V} {us : List Value}, Vals [x, y] us → ∃ u v, us = [u, v] ∧ RelV x u ∧ RelV y v
  | _, _, _, .cons r (.cons q .nil) => ⟨_, _, rfl, r, q⟩
theorem Vals.zero : ∀ {us : List Value}, Vals [] us → us = []
  | _, .nil => rfl
theorem Vals.dropLast {xs : List V} {us : List Value} (h : Vals xs us) : Vals xs.dropLast us.dropLast := by
  induction h with
  | nil => exact .nil
  | cons r t ih =>
    cases t with
    | nil => exact .nil
    | cons q t' => exact .cons r ih
theorem Vals.eraseIdx : ∀ {xs : List V} {us : List Value} (i : Nat), Vals xs us → Vals (xs.eraseIdx i) (us.eraseIdx i)
  | _, _, _, .nil => .nil
  | _, _, 0, .cons _ t => t
  | _, _, i + 1, .cons r t => .cons r (Vals.eraseIdx i t)
theorem Vals.reverse {xs : List V} {us : List Value} (h : Vals xs us) : Vals xs.reverse us.reverse := by
  induction h with
  | nil => exact .nil
  | cons r t ih => rw [List.reverse_cons, List.reverse_cons]; exact Vals.append ih (.cons r .nil)
theorem Vals.rep {xs : List V} {us : List Value} (h : Vals xs us) : ∀ k : Nat, Vals (List.replicate k xs).flatten (List.replicate k us).flatten
  | 0 => .nil
  | k + 1 => by
    rw [List.replicate_succ, List.replicate_succ, List.flatten_cons, List.flatten_cons]
    exact Vals.append h (Vals.rep h k)
theorem erase_last {α : Type} (l : List α) : l.eraseIdx (l.length - 1) = l.dropLast := by
  induction l with
  | nil => rfl
  | cons a r ih =>
    cases r with
    | nil => rfl
    | cons b r =>
      have e : (a :: b :: r).length - 1 = ((b :: r).length - 1) + 1 := by
        have h1 : (a :: b :: r).length = r.length + 2 := rfl
        have h2 : (b :: r).length = r.length + 1 := rfl
        omega
      rw [e, List.eraseIdx_cons_succ, ih]
      all_goals rfl
theorem len_erase {α : Type} : ∀ (l : List α) (i : Nat), (l.eraseIdx i).length ≤ l.length
  | [], _ => Nat.le_refl _
  | _ :: _, 0 => Nat.le_succ _
  | _ :: r, i + 1 => Nat.succ_le_succ (len_erase r i)
theorem foldl_rep (its : List Value) : ∀ (k : Nat) (acc : List Value),
    List.foldl (fun x1 x2 => x1 ++ x2) acc.toArray (List.replicate k its.toArray) = (acc ++ (List.replicate k its).flatten).toArray
  | 0, acc => by simp
  | k + 1, acc => by
    have e : acc.toArray ++ its.toArray = (acc ++ its).toArray := by simp
    have e2 : (acc ++ its) ++ (List.replicate k its).flatten = acc ++ (List.replicate (k + 1) its).flatten := by
      rw [List.replicate_succ, List.flatten_cons, List.append_assoc]
    rw [← e2, ← foldl_rep its k (acc ++ its), ← e, List.replicate_succ, List.foldl_cons]

section
variable {X : Cx} {pins : List (Addr × Obj)} {σ : St} {H : Hp} {s : Shared} {l b : Addr} {xs ys zs : List V}

/-! ### the two steps: a tracked list is rewritten, a new list is laid -/
theorem Inv.lset {its its' : List Value} {n : Nat} {f : Array Value → Array Value} {t' : Nat} (I : Inv X pins σ H s) (hH : H l = some (.lst xs))
    (e : s.heap.get? l = some { cls := .type "list", data := .seq its.toArray n }) (hf : f its.toArray = its'.toArray) (hv : Vals ys its') (hz : ys.length ≤ sizeLine) :
    Inv X pins σ (upd H l (.lst ys)) { s with heap := s.heap.update l (Obj.mapSeq f), toks := t' } := by
  have q := PySem.IsL.update e f
  rw [hf] at q
  refine I.write (x := l) (e := l) (by rw [hH]; exact trivial) (.inl rfl) (fun b' u hb hu => (Heap.get?_update_other s.heap (Obj.mapSeq f) (Ne.symm hb)).trans hu) ⟨_, q⟩ ?_
  exact ⟨hz, its', _, hv, q⟩
theorem Inv.lnew {its : List Value} {t' : Nat} (I : Inv X pins σ H s) (hv : Vals ys its) (hz : ys.length ≤ sizeLine) :
    Inv X pins σ (upd H s.heap.objs.size (.lst ys)) { s with heap := s.heap.push { cls := .type "list", data := .seq its.toArray }, toks := t' } :=
  I.laid (fun _ _ q => Heap.get?_push_of_some _ q) (Nat.le_refl _) ⟨hz, its, 0, hv, Heap.get?_push_size _ rfl⟩
theorem Inv.fresh (I : Inv X pins σ H s) : H s.heap.objs.size = none := I.hok.fresh (Nat.le_refl _)
theorem Inv.lstM (I : Inv X pins σ H s) (hH : H l = some (.lst xs)) : xs.length ≤ sizeLine ∧ ∃ (its : List Value) (n : Nat), Vals xs its ∧ xs.length = its.length ∧ s.heap.get? l = some { cls := .type "list", data := .seq its.toArray n } := by
  obtain ⟨z, its, n, r, e⟩ := I.hok l _ hH
  exact ⟨z, its, n, r, r.length, e⟩

theorem notLongL {n : Nat} (h : n ≤ sizeLine) : Builtin.List.listTooLong n = false := by
  unfold Builtin.List.listTooLong
  exact decide_eq_false (by omega)
end

section
variable {X : Cx}

/-! ### methods -/
def rAppend : V → List V → Hp → VK → Prop := fun x vs H Q => ∃ l xs y, x = .ref l ∧ vs = [y] ∧ H l = some (.lst xs) ∧ xs.length < sizeLine ∧ Q .non (upd H l (.lst (xs ++ [y])))
theorem mt_append : MtM X "list.append" rAppend := by
  intro pins s σ H x vs v us Q I rx rv h
  obtain ⟨l, xs, y, rfl, rfl, hH, hz, q⟩ := h
  cases rx
  obtain ⟨u, rfl, ru⟩ := rv.one
  obtain ⟨z, its, n, r, hl, e⟩ := I.lstM hH
  refine call_meets F.slot_list_append ⟨_, e, rfl⟩ F.entry_list_append (F.args_list_append_2 _ _) (PySem.list_append l its.toArray n u (by rw [List.size_toArray]; omega)) ⟨e, ?_⟩
  refine ⟨.non, _, I.lset (its' := its ++ [u]) hH e (by simp) (r.append (.cons ru .nil)) ?_, rfl, q⟩
  rw [List.length_append, List.length_singleton]
  omega

def rExtend : V → List V → Hp → VK → Prop := fun x vs H Q => ∃ l b xs zs, x = .ref l ∧ vs = [.ref b] ∧ H l = some (.lst xs) ∧ H b = some (.lst zs) ∧ xs.length + zs.length ≤ sizeLine ∧ Q .non (upd H l (.lst (xs ++ zs)))
theorem mt_extend : MtM X "list.extend" rExtend := by
  intro pins s σ H x vs v us Q I rx rv h
  obtain ⟨l, b, xs, zs, rfl, rfl, hH, hB, hz, q⟩ := h
  cases rx
  obtain ⟨u, rfl, ru⟩ := rv.one
  cases ru
  obtain ⟨z, its, n, r, hl, e⟩ := I.lstM hH
  obtain ⟨z2, its2, n2, r2, hl2, e2⟩ := I.lstM hB
  have hsz : its.toArray.size + its2.toArray.size ≤ sizeLine := by rw [List.size_toArray, List.size_toArray]; omega
  have hlong : ¬ (!its.toArray.isEmpty && Builtin.List.listTooLong (its.toArray.size + its2.toArray.size)) = true := by
    rw [notLongL hsz, Bool.and_false]
    exact Bool.false_ne_true
  refine call_meets F.slot_list_extend ⟨_, e, rfl⟩ F.entry_list_extend (F.args_list_extend_2 _ _)
    (AutoSeq1.list_extend_list_list_0 l its.toArray n b its2.toArray n2 hlong (by rw [List.size_toArray]; omega) (by omega)) ⟨e, e2, ?_⟩
  refine ⟨.non, _, I.lset (its' := its ++ its2) hH e (by simp) (r.append r2) ?_, rfl, q⟩
  rw [List.length_append]
  omega

def rPop : V → List V → Hp → VK → Prop := fun x vs H Q => ∃ l xs y, x = .ref l ∧ vs = [] ∧ H l = some (.lst xs) ∧ xs[xs.length - 1]? = some y ∧ Q y (upd H l (.lst xs.dropLast))
theorem mt_pop : MtM X "list.pop" rPop := by
  intro pins s σ H x vs v us Q I rx rv h
  obtain ⟨l, xs, y, rfl, rfl, hH, hy, q⟩ := h
  cases rx
  have hus := rv.zero
  subst hus
  obtain ⟨z, its, n, r, hl, e⟩ := I.lstM hH
  obtain ⟨u, hu, ru⟩ := r.get hy
  have hy' : its.toArray[its.toArray.size - 1]? = some u := by
    show its.toArray[its.length - 1]? = some u
    rw [← Array.getElem?_toList, ← hl]
    exact hu
  refine call_meets F.slot_list_pop ⟨_, e, rfl⟩ F.entry_list_pop (F.args_list_pop_1 _) (MeetsSeq.list_pop_last l its.toArray n u hy' (by rw [List.size_toArray]; omega)) ⟨e, ?_⟩
  refine ⟨y, _, I.lset (its' := its.dropLast) hH e ?_ r.dropLast ?_, ru, q⟩
  · show its.toArray.eraseIdxIfInBounds (its.toArray.size - 1) = its.dropLast.toArray
    rw [List.size_toArray, List.eraseIdxIfInBounds_toArray, erase_last]
  · rw [List.length_dropLast]
    omega

def rPopAt : V → List V → Hp → VK → Prop := fun x vs H Q => ∃ l xs i k y, x = .ref l ∧ vs = [.int i] ∧ H l = some (.lst xs) ∧ -(2 ^ 63) ≤ i ∧ i < 2 ^ 63 ∧ seqIndex? i xs.length = some k ∧ xs[k]? = some y ∧ Q y (upd H l (.lst (xs.eraseIdx k)))
theorem mt_popAt : MtM X "list.pop" rPopAt := by
  intro pins s σ H x vs v us Q I rx rv h
  obtain ⟨l, xs, i, k, y, rfl, rfl, hH, h1, h2, hk, hy, q⟩ := h
  cases rx
  obtain ⟨u, rfl, ru⟩ := rv.one
  obtain ⟨t, rfl⟩ := ru
  obtain ⟨z, its, n, r, hl, e⟩ := I.lstM hH
  obtain ⟨w, hw, rw'⟩ := r.get hy
  refine call_meets F.slot_list_pop ⟨_, e, rfl⟩ F.entry_list_pop (F.args_list_pop_2 _ _)
    (MeetsSeq.list_pop_at l its.toArray n i t k w (fitsIndex_both h1 h2) (by rw [List.size_toArray, ← hl]; exact hk) (by rw [← Array.getElem?_toList]; exact hw) (by rw [List.size_toArray]; omega)) ⟨e, ?_⟩
  refine ⟨y, _, I.lset (its' := its.eraseIdx k) hH e ?_ (r.eraseIdx k) ?_, rw', q⟩
  · show its.toArray.eraseIdxIfInBounds k = (its.eraseIdx k).toArray
    rw [List.eraseIdxIfInBounds_toArray]
  · have := len_erase xs k
    omega

def rReverse : V → List V → Hp → VK → Prop := fun x vs H Q => ∃ l xs, x = .ref l ∧ vs = [] ∧ H l = some (.lst xs) ∧ Q .non (upd H l (.lst xs.reverse))
theorem mt_reverse : MtM X "list.reverse" rReverse := by
  intro pins s σ H x vs v us Q I rx rv h
  obtain ⟨l, xs, rfl, rfl, hH, q⟩ := h
  cases rx
  have hus := rv.zero
  subst hus
  obtain ⟨z, its, n, r, hl, e⟩ := I.lstM hH
  refine call_meets F.slot_list_reverse ⟨_, e, rfl⟩ F.entry_list_reverse (F.args_list_reverse_1 _) (AutoSeq1.list_reverse_list_0 l its.toArray n (by rw [List.size_toArray]; omega)) ⟨e, ?_⟩
  refine ⟨.non, _, I.lset (its' := its.reverse) hH e (by simp) r.reverse ?_, rfl, q⟩
  rw [List.length_reverse]
  omega

def rClear : V → List V → Hp → VK → Prop := fun x vs H Q => ∃ l xs, x = .ref l ∧ vs = [] ∧ H l = some (.lst xs) ∧ Q .non (upd H l (.lst []))
theorem mt_clear : MtM X "list.clear" rClear := by
  intro pins s σ H x vs v us Q I rx rv h
  obtain ⟨l, xs, rfl, rfl, hH, q⟩ := h
  cases rx
  have hus := rv.zero
  subst hus
  obtain ⟨z, its, n, r, hl, e⟩ := I.lstM hH
  refine call_meets F.slot_list_clear ⟨_, e, rfl⟩ F.entry_list_clear (F.args_list_clear_1 _) (AutoSeq1.list_clear_list_0 l its.toArray n (by rw [List.size_toArray]; omega)) ⟨e, ?_⟩
  exact ⟨.non, _, I.lset (its' := []) (ys := []) hH e rfl .nil (Nat.zero_le _), rfl, q⟩

/-! ### list + list, list += list, list * int -/
def rCat : R2 := fun x y H Q => ∃ l b xs zs, x = .ref l ∧ y = .ref b ∧ H l = some (.lst xs) ∧ H b = some (.lst zs) ∧ xs.length + zs.length ≤ sizeLine ∧ ∀ p, H p = none → Q (.ref p) (upd H p (.lst (xs ++ zs)))
theorem op_cat : OpR X (binaryOp .Add) rCat := by
  intro pins s σ H x y v u Q I rx ry h
  obtain ⟨l, b, xs, zs, rfl, rfl, hH, hB, hz, q⟩ := h
  cases rx
  cases ry
  obtain ⟨z, its, n, r, hl, e⟩ := I.lstM hH
  obtain ⟨z2, its2, n2, r2, hl2, e2⟩ := I.lstM hB
  refine PySem.P.add_list e e2 ?_ (by rw [List.size_toArray, List.size_toArray]; omega)
  have ea : its.toArray ++ its2.toArray = (its ++ its2).toArray := by simp
  rw [ea]
  exact ⟨.ref _, _, I.lnew (t' := s.toks) (r.append r2) (by rw [List.length_append]; omega), rfl, q _ I.fresh⟩
/-- a list times an int (a negative one is nothing) -/
def rRep : R2 := fun x y H Q => ∃ l k xs, x = .ref l ∧ y = .int k ∧ H l = some (.lst xs) ∧ -(2 ^ 63) ≤ k ∧ k < 2 ^ 63 ∧ xs.length * k.toNat ≤ sizeLine ∧
  ∀ p, H p = none → Q (.ref p) (upd H p (.lst (List.replicate k.toNat xs).flatten))
theorem len_rep {α : Type} (xs : List α) (k : Nat) : (List.replicate k xs).flatten.length = k * xs.length := by
  induction k with
  | zero => simp
  | succ k ih => rw [List.replicate_succ, List.flatten_cons, List.length_append, ih, Nat.succ_mul, Nat.add_comm]
theorem op_rep : OpR X (binaryOp .Mult) rRep := by
  intro pins s σ H x y v u Q I rx ry h
  obtain ⟨l, k, xs, rfl, rfl, hH, h1, h2, hz, q⟩ := h
  cases rx
  obtain ⟨t, rfl⟩ := ry
  obtain ⟨z, its, n, r, hl, e⟩ := I.lstM hH
  have hlen : its.toArray.size * k.toNat ≤ sizeLine := by rw [List.size_toArray, ← hl]; exact hz
  have hcap : ¬ its.toArray.size * k.toNat > (2 ^ 63 - 1) / 8 := by
    have : (sizeLine : Nat) ≤ (2 ^ 63 - 1) / 8 := by decide
    omega
  have hfit : ¬ (!Builtin.List.listFitsIndex k) = true := by
    rw [fitsIndex_both h1 h2]
    exact Bool.false_ne_true
  have hlong : ¬ Builtin.List.listTooLong (its.toArray.size * k.toNat) = true := by
    rw [notLongL hlen]
    exact Bool.false_ne_true
  have hnew : List.foldl (fun x1 x2 => x1 ++ x2) #[] (List.replicate (if its.toArray.isEmpty = true then 0 else k.toNat) its.toArray) = (List.replicate k.toNat its).flatten.toArray := by
    have f0 : ∀ m : Nat, List.foldl (fun x1 x2 => x1 ++ x2) #[] (List.replicate m its.toArray) = (List.replicate m its).flatten.toArray := fun m => by
      have := foldl_rep its m []
      rw [List.nil_append] at this
      exact this
    rw [f0]
    cases its with
    | nil => simp
    | cons a r' => rw [if_neg (by simp)]
  refine wpAny_binaryOp_repeat_ref (T := "list") (U := "int") (by decide) ⟨_, e, rfl⟩ (fun s' => typeIs_int s' k t) noFill_list_mul F.fills_int_mul F.slot_int_rmul repeat_list F.slot_int_index.lookup
    (call_meets F.slot_int_rmul (typeIs_int s k t) F.entry_int_rmul (F.args_int_rmul_2 _ _) (int___rmul___int_list k t l its.toArray n)
      ⟨e, rfl, ⟨_, e, rfl⟩, call_meets F.slot_list_mul ⟨_, e, rfl⟩ F.entry_list_mul (F.args_list_mul_2 _ _) (AutoListH.list___mul___list_int_3 l its.toArray n k t hfit hcap hlong) ⟨e, ?_⟩⟩)
  rw [hnew]
  exact ⟨.ref _, _, I.lnew (t' := s.toks) (r.rep k.toNat) (by rw [len_rep, Nat.mul_comm]; exact hz), rfl, q _ I.fresh⟩

/-! ### del xs[i] -/
theorem del_list {pins : List (Addr × Obj)} {s : Shared} {σ : St} {H : Hp} {l : Addr} {xs : List V} {i : Int} {t : Tok} {k : Nat} {Q : Unit → Shared → Prop} (I : Inv X pins σ H s) (hH : H l = some (.lst xs))
    (h1 : -(2 ^ 63) ≤ i) (h2 : i < 2 ^ 63) (hk : seqIndex? i xs.length = some k) (h : ∀ s', Inv X pins σ (upd H l (.lst (xs.eraseIdx k))) s' → Q () s') :
    wpAny (model X.prog X.w) X.A (delItem (.ref l) (.int i t)) Q X.xe s := by
  obtain ⟨z, its, n, r, hl, e⟩ := I.lstM hH
  refine PySem.P.delItem_list (k := k) e (fitsIndex_both h1 h2) (by rw [List.size_toArray, ← hl]; exact hk) (h _ ?_) (by rw [List.size_toArray]; omega)
  refine I.lset (its' := its.eraseIdx k) (t' := s.toks) hH e ?_ (r.eraseIdx k) ?_
  · show its.toArray.eraseIdxIfInBounds k = (its.eraseIdx k).toArray
    rw [List.eraseIdxIfInBounds_toArray]
  · have := len_erase xs k
    omega
end

/-! ### xs[a:b] = ys -/
section
variable {prog : Program} {w : World} {A : Around} {E : Value → Shared → Prop} {s : Shared}
theorem splice_eq (its its2 : List Value) (a c : Nat) : its.toArray.extract 0 a ++ its2.toArray ++ its.toArray.extract c its.toArray.size = (its.take a ++ its2 ++ its.drop c).toArray := by
  apply Array.toList_inj.mp
  first
    | (simp
       exact List.take_of_length_le (by simp))
    | simp [List.take_of_length_le]
    | simp
theorem bounds_run {a c n : Nat} (hac : a ≤ c) (hc : c ≤ n) : sliceBounds (some (a : Int)) (some (c : Int)) none n = ((a : Int), (c : Int), 1) := by
  simp only [sliceBounds, Option.getD_none]
  have h1 : ¬ ((a : Int) < 0) := by omega
  have h2 : ¬ ((c : Int) < 0) := by omega
  simp only [h1, h2, if_false, show (1 : Int) > 0 by decide, if_true]
  congr 1
  · omega
  · congr 1; omega
set_option maxRecDepth 100000 in
/-- list.__setitem__ with a slice of step one and another list -/
theorem setItem_slice {l b sl : Addr} {items new : Array Value} {n n2 : Nat} {vl vu : Value} {a c : Nat} {Q : Unit → Shared → Prop}
    (e : s.heap.get? l = some { cls := .type "list", data := .seq items n }) (e2 : s.heap.get? b = some { cls := .type "list", data := .seq new n2 }) (hne : l ≠ b)
    (hs : s.heap.IsSliceOf sl vl vu .none) (pl : IsPart vl (some (a : Int))) (pu : IsPart vu (some (c : Int))) (hac : a ≤ c) (hc : c ≤ items.size)
    (hsz : items.size + new.size ≤ sizeLine) (h : Q () { s with heap := s.heap.update l (Obj.mapSeq fun xs => xs.extract 0 a ++ new ++ xs.extract c xs.size) }) :
    wpAny (model prog w) A (setItem (.ref l) (.ref sl) (.ref b)) Q E s := by
  have hl : s.heap.IsList l items := PySem.IsL.isList e
  have hb : s.heap.IsList b new := PySem.IsL.isList e2
  obtain ⟨os, hos, hcs, hds⟩ := id hs
  have hTs : s.TypeIs (.ref sl) "slice" := ⟨os, hos, hcs⟩
  have hstep : ¬ ((rawPart none == rawInt 0) = true) := Bool.false_ne_true
  have hsame : Builtin.List.listSameRef (.ref l) (.ref b) = false := by
    unfold Builtin.List.listSameRef
    exact beq_eq_false_iff_ne.mpr hne
  have hmax : (max (a : Int) (c : Int)).toNat = c := by omega
  have hz' : ((fun xs : Array Value => xs.extract 0 a ++ new ++ xs.extract c xs.size) items).size ≤ sizeLine + 1 := by
    simp only [Array.size_append, Array.size_extract]
    omega
  unfold setItem
  try with_reducible refine wpAny_holding ?_
  first | refine wpAny_bind (wpAny_pure ?_) | skip
  refine wpAny_bind (wpAny_sequenceKey hl.typeIs (by decide) ?_)
  refine wpAny_bind (wpAny_callSpecial?_slot (name := Str.ofString "__setitem__") hl.typeIs slot_list_setitem
    (wpAny_call_entry slot_list_setitem hl.typeIs entry_list_setitem ?_ (args_list_setitem _ _ _)))
  show wpAny _ _ (Builtin.List.listSubscript? (.ref sl) >>= _) _ _ s
  refine wpAny_bind ?_
  unfold Builtin.List.listSubscript?
  refine wpAny_bind (wpAny_specialOf hTs slice_no_index ?_)
  simp only [Option.isNone_none, if_true]
  refine wpAny_pure ?_
  show wpAny _ _ (typeOf (.ref sl) >>= _) _ _ s
  refine wpAny_bind (wpAny_typeOf hTs ?_)
  first
    | rw [if_neg (by decide)]
    | refine PySem.W.KFB.if_not (by decide) ?_
  rw [listSliceParts_eq]
  refine wpAny_bind (wpAny_bind (wpAny_field hos hds (x := .none) rfl (wpAny_bind (wpAny_listPart .none ?_))))
  rw [if_neg hstep]
  refine wpAny_bind (wpAny_field hos hds (x := vl) rfl (wpAny_bind (wpAny_listPart pl ?_)))
  refine wpAny_bind (wpAny_field hos hds (x := vu) rfl (wpAny_bind (wpAny_listPart pu (wpAny_pure ?_))))
  first
    | simp only [hsame, Bool.false_eq_true, if_false]
    | refine PySem.W.KFB.if_not hsame ?_
    | (dsimp only
       rw [if_neg (by rw [hsame]; exact Bool.false_ne_true)])
  refine wpAny_bind (m := Builtin.List.listAllItems (.ref b) "must assign iterable to extended slice") ?_
  unfold Builtin.List.listAllItems
  refine wpAny_bind (wpAny_typeOf hb.typeIs ?_)
  first
    | refine PySem.W.KFB.if_so (by decide) ?_
    | rw [if_pos (by decide)]
    | simp only [beq_self_eq_true, Bool.true_or, if_true]
  unfold Builtin.List.listItems
  refine wpAny_bind (wpAny_seqItems e2 rfl (wpAny_pure ?_))
  refine wpAny_bind (wpAny_bind (wpAny_seqItems e rfl (wpAny_pure ?_)))
  refine wpAny_bind (wpAny_of_eq ((sliceIndices_raw (some (a : Int)) (some (c : Int)) none items.size (by simp)).trans (congrArg (pure : Int × Int × Int → Sem (Int × Int × Int)) (bounds_run hac hc))) ?_)
  show wpAny _ _ (if ((1 : Int) == 1) = true then _ else _) _ _ s
  rw [if_pos (by decide)]
  refine wpAny_bind (wpAny_rule ?_)
  first
    | simp only [notLongL hsz, Bool.false_eq_true, if_false]
    | refine PySem.W.KFB.if_not (notLongL hsz) ?_
  first | refine wpAny_bind (wpAny_pure ?_) | skip
  show wpAny _ _ (updateSeq l (fun xs => xs.extract 0 ((a : Int)).toNat ++ new ++ xs.extract (max (a : Int) (c : Int)).toNat xs.size) >>= _) _ _ s
  rw [hmax, Int.toNat_natCast]
  refine wpAny_bind (wpAny_updateSeq (hz := Nat.le_trans (Nat.le_add_right _ _) hsz) (_hz' := hz') e rfl ?_)
  refine wpAny_bind (wpAny_letGo ?_)
  first
    | exact wpAny_bind (wpAny_pure (wpAny_pure ⟨.none, rfl, wpAny_pure h⟩))
    | exact wpAny_pure ⟨.none, rfl, wpAny_pure h⟩
end

section
variable {X : Cx}
/-- xs[a:c] = ys of another list, at the value level: sl is the slice object that was just made -/
theorem set_slice {pins : List (Addr × Obj)} {s : Shared} {σ : St} {H : Hp} {l b sl : Addr} {xs ys : List V} {a c : Int} {vl vu : Value} {Q : Unit → Shared → Prop} (I : Inv X pins σ H s)
    (hH : H l = some (.lst xs)) (hB : H b = some (.lst ys)) (hne : l ≠ b) (hs : s.heap.IsSliceOf sl vl vu .none) (ra : RelV (.int a) vl) (rc : RelV (.int c) vu) (h0 : 0 ≤ a) (hac : a ≤ c) (hc : c ≤ xs.length)
    (hz : xs.length + ys.length ≤ sizeLine) (h : ∀ s', Inv X pins σ (upd H l (.lst (xs.take a.toNat ++ ys ++ xs.drop c.toNat))) s' → Q () s') :
    wpAny (model X.prog X.w) X.A (setItem (.ref l) (.ref sl) (.ref b)) Q X.xe s := by
  obtain ⟨ta, rfl⟩ := ra
  obtain ⟨tc, rfl⟩ := rc
  obtain ⟨z, its, n, r, hl, e⟩ := I.lstM hH
  obtain ⟨z2, its2, n2, r2, hl2, e2⟩ := I.lstM hB
  obtain ⟨a', rfl⟩ := Int.eq_ofNat_of_zero_le h0
  obtain ⟨c', rfl⟩ := Int.eq_ofNat_of_zero_le (Int.le_trans h0 hac)
  simp only [Int.toNat_natCast] at h
  refine setItem_slice (a := a') (c := c') e e2 hne hs (.int _ _) (.int _ _) (by omega) (by rw [List.size_toArray]; omega) (by rw [List.size_toArray, List.size_toArray]; omega) (h _ ?_)
  refine I.lset (its' := its.take a' ++ its2 ++ its.drop c') (t' := s.toks) hH e ?_ (Vals.append (Vals.append (r.take _) r2) (r.drop _)) ?_
  · exact splice_eq its its2 a' c'
  · rw [List.length_append, List.length_append, List.length_take, List.length_drop]
    omega
end
end L2

namespace Att
open PySem PySem.W PySem.Calls PyProof.Rows

/-! ### the script -/
theorem ints_of_wellAll {P : Params} {h : Heap} : ∀ (ns : List Int) (vs : List Value), WellAll P h vs (ns.map WData.int) → IntsAre vs ns := by
  intro ns
  induction ns with
  | nil =>
    intro vs w
    rw [List.map_nil] at w
    cases w
    exact .nil
  | cons n ns ih =>
    intro vs w
    rw [List.map_cons] at w
    cases w with
    | cons a b =>
      cases a
      exact .cons _ _ (ih _ b)

theorem script_of {l : OpenLaw} {n : Nat} (hn : l.most = some n) {P : Params} {h : Heap} {args : List WData} {vals : List Value}
    (hpre : l.row.toRowW.claim.pre args = true) (hwl : WellAll P h vals args) :
    ∃ a vs ns, vals = [Value.ref a] ∧ args = [WData.list (ns.map WData.int)] ∧ h.get? a = some { cls := .type "list", data := .seq vs.toArray } ∧ IntsAre vs ns ∧ ns.length ≤ n := by
  have hsh : WShape.hasAll [] args [.list .int] = true := (pre_splitW hpre).1
  have hc : l.pre.holds [] { args := args } = true := (pre_splitW hpre).2
  obtain ⟨d, r, rfl, h1, h2⟩ := hasAllW_cons hsh
  obtain rfl := hasAllW_nil h2
  obtain ⟨xs, rfl, h3⟩ := hasW_list h1
  obtain ⟨ns, rfl⟩ := items_int h3
  have hlen : ns.length ≤ n := by
    unfold OpenLaw.pre at hc
    have h4 : (WTm.not (.lt (.lit (.int (n : Int))) (.len (.arg 0)))).holds [] { args := [.list (ns.map .int)] } = true := by
      have h4 := (holds_andW hc).1
      rw [hn] at h4
      exact h4
    have h5 := condW_of h4 (w_not (w_lt w_lit (w_len_list (w_arg rfl))))
    rw [List.length_map] at h5
    refine Nat.le_of_not_lt fun q => ?_
    have q' : (n : Int) < ((ns.length : Nat) : Int) := by omega
    first
      | (rw [decide_eq_true q'] at h5; exact absurd h5 (by decide))
      | (simp at h5; omega)
  cases hwl with
  | cons w1 w2 =>
    cases w2
    cases w1 with
    | list ho hall => exact ⟨_, _, ns, rfl, rfl, ho, ints_of_wellAll ns _ hall, hlen⟩

theorem post_true (l : OpenLaw) (args : List WData) : l.row.toRowW.claim.post args (.bool true) args = true :=
  postW_of (r := l.row.toRowW) (X := (true == true))
    (show WShape.has [] (.bool true) .bool = true by first | rfl | decide | simp [WShape.has, WShape.arms, WShape.armsAll])
    (show (WTm.eq .res (.lit (.bool true))).value [] { args := args, res := some (.bool true), after := args } = some (.bool (true == true)) from w_eq_bool (w_res rfl) w_lit) rfl

/-! ### the attachment: holds_open's last premise (the goal 'hc' behind k_head) from a wpAny of the law's body -/
theorem attach {l : OpenLaw} {n : Nat} {q : Program} {loose : List Str} {XP : (Str → Option Value) → Heap → Prop} {YP : World → Heap → Prop} {d : DefRec} {x : Str}
    (hn : l.most = some n) (hdf : d.params.defaults = [])
    (hbind : ∀ pm cd doc v : Value, bindArgs (docDef d.name d.params d.body d.scope pm cd doc) ⟨[v], []⟩ = pure [(x, v)])
    (hx : d.scope.names.lookup x = some .local ∨ d.scope.names.lookup x = some .cell)
    (hk : d.scope.kind = .function) (hco : d.scope.isCoroutine = false) (hgen : d.scope.isGenerator = false)
    (body : ∀ (w : World) (s₀ s₁ s : Shared) (mg mb : Str → Option Value) (fa : Addr) (o : Obj) (pm cd doc : Value) (a : Addr) (vs : List Value) (ns : List Int),
      Ground q loose [] XP w s₀ mg mb s₁.heap → YP w s₁.heap →
      s₁.heap.get? fa = some o → o.data = .func (docDef d.name d.params d.body d.scope pm cd doc) → s₁.heap.CodeRec cd d.name → mg d.name = some (.ref fa) →
      s₁.heap.get? a = some { cls := .type "list", data := .seq vs.toArray } → IntsAre vs ns → ns.length ≤ n →
      s.gens = #[] → s.os = s₁.os →
      Fr s₁.heap s₁.heap.objs.size s.heap (bindL (envOfC d.name d.scope s₁.heap.objs.size fa cd).kindOf [(x, .ref a)] fun _ => none) →
      Cl s₁.heap.objs.size (cellsFrom (s₁.heap.objs.size + 1) d.scope.names []) s.heap (bindC (envOfC d.name d.scope s₁.heap.objs.size fa cd).kindOf [(x, .ref a)] fun _ => none) →
      wpAny (model l.prog w) (callerA.deeper (envOfC d.name d.scope s₁.heap.objs.size fa cd)) (execs d.body (envOfC d.name d.scope s₁.heap.objs.size fa cd))
        (fun f s' => f = .ret (.bool true) ∧ OldK s₁.heap s'.heap ∧ s'.os = s₁.os ∧ AllBare s'.gens) (fun _ _ => False) s) :
    WalkO q loose XP YP l.row.toRowW d [] (fun f vs => PySem.call f vs) := by
  intro w s₀ s₁ mg mb G Y fa o pm cd doc dV kV ho hd hcd hD hmg hg args vals as hpre hlay hrd hwl hlo
  obtain rfl : dV = .none := Dflts.none hD hdf
  obtain rfl : kV = .none := Dflts.noKw hD
  obtain ⟨a, vs, ns, rfl, rfl, hobj, hints, hlen⟩ := script_of hn hpre hwl
  refine enter_call ?_
  refine call_cells_ret (o := o) (by rw [depth_caller]; decide) ho (fd_plain hd) G.T.nolimit hcd (hbind pm cd doc (.ref a)) (fun y hy => ?_) (fun h₁ tk F X => ?_) hco hgen hk
  · obtain rfl : y = (x, Value.ref a) := List.mem_singleton.mp hy
    rcases hx with e | e
    · exact .inl e
    · exact .inr ⟨e, cellsFrom_some _ _ _ (.inl e)⟩
  · refine wpAny_mono (body w s₀ s₁ { s₁ with heap := h₁, toks := tk } mg mb fa o pm cd doc a vs ns G Y ho (fd_plain hd) hcd hmg hobj hints hlen hg rfl F X) (fun f s' hq => ?_) (fun _ _ hq => hq)
    obtain ⟨rfl, h2, h3, h4⟩ := hq
    exact ⟨.inl ⟨.bool true, .bool true, [], rfl, fun _ => rfl, .bool true, post_true l _, fun _ => ⟨List.Pairwise.nil, fun _ hm => (nomatch hm)⟩⟩, h2, h3, h4⟩

/-- the same from a codeAny of the CALL (for a layer whose function contracts speak of calls) -/
theorem attach_call {l : OpenLaw} {n : Nat} {q : Program} {loose : List Str} {XP : (Str → Option Value) → Heap → Prop} {YP : World → Heap → Prop} {d : DefRec}
    (hn : l.most = some n) (hdf : d.params.defaults = [])
    (call : ∀ (w : World) (s₀ s₁ : Shared) (mg mb : Str → Option Value) (fa : Addr) (o : Obj) (pm cd doc : Value) (a : Addr) (vs : List Value) (ns : List Int),
      Ground q loose [] XP w s₀ mg mb s₁.heap → YP w s₁.heap →
      s₁.heap.get? fa = some o → o.data = .func (docDef d.name d.params d.body d.scope pm cd doc) → s₁.heap.CodeRec cd d.name → mg d.name = some (.ref fa) →
      s₁.heap.get? a = some { cls := .type "list", data := .seq vs.toArray } → IntsAre vs ns → ns.length ≤ n → s₁.gens = #[] →
      codeAny (model l.prog w) callerA (.call (.ref fa) ⟨[.ref a], []⟩) (fun r s' => r = .ok (.ret (.bool true)) ∧ OldK s₁.heap s'.heap ∧ s'.os = s₁.os ∧ AllBare s'.gens) s₁) :
    WalkO q loose XP YP l.row.toRowW d [] (fun f vs => PySem.call f vs) := by
  intro w s₀ s₁ mg mb G Y fa o pm cd doc dV kV ho hd hcd hD hmg hg args vals as hpre hlay hrd hwl hlo
  obtain rfl : dV = .none := Dflts.none hD hdf
  obtain rfl : kV = .none := Dflts.noKw hD
  obtain ⟨a, vs, ns, rfl, rfl, hobj, hints, hlen⟩ := script_of hn hpre hwl
  refine enter_call (codeAny_mono (call w s₀ s₁ mg mb fa o pm cd doc a vs ns G Y ho (fd_plain hd) hcd hmg hobj hints hlen hg) fun r s' hq => ?_)
  obtain ⟨rfl, h2, h3, h4⟩ := hq
  exact ⟨.inl ⟨.bool true, .bool true, [], rfl, fun _ => rfl, .bool true, post_true l _, fun _ => ⟨List.Pairwise.nil, fun _ hm => (nomatch hm)⟩⟩, h2, h3, h4⟩

/-- the same where the top left finished generators (o_head chose holds_openN): nothing may have changed at all and no generator may be left -/
theorem attachN {l : OpenLaw} {n : Nat} {q : Program} {loose : List Str} {XP : (Str → Option Value) → Heap → Prop} {YP : World → Heap → Prop} {d : DefRec} {x : Str}
    (hn : l.most = some n) (hdf : d.params.defaults = [])
    (hbind : ∀ pm cd doc v : Value, bindArgs (docDef d.name d.params d.body d.scope pm cd doc) ⟨[v], []⟩ = pure [(x, v)])
    (hx : d.scope.names.lookup x = some .local ∨ d.scope.names.lookup x = some .cell)
    (hk : d.scope.kind = .function) (hco : d.scope.isCoroutine = false) (hgen : d.scope.isGenerator = false)
    (body : ∀ (w : World) (s₀ s₁ s : Shared) (mg mb : Str → Option Value) (fa : Addr) (o : Obj) (pm cd doc : Value) (a : Addr) (vs : List Value) (ns : List Int),
      Ground q loose [] XP w s₀ mg mb s₁.heap → YP w s₁.heap →
      s₁.heap.get? fa = some o → o.data = .func (docDef d.name d.params d.body d.scope pm cd doc) → s₁.heap.CodeRec cd d.name → mg d.name = some (.ref fa) →
      s₁.heap.get? a = some { cls := .type "list", data := .seq vs.toArray } → IntsAre vs ns → ns.length ≤ n →
      s.gens = #[] → s.os = s₁.os →
      Fr s₁.heap s₁.heap.objs.size s.heap (bindL (envOfC d.name d.scope s₁.heap.objs.size fa cd).kindOf [(x, .ref a)] fun _ => none) →
      Cl s₁.heap.objs.size (cellsFrom (s₁.heap.objs.size + 1) d.scope.names []) s.heap (bindC (envOfC d.name d.scope s₁.heap.objs.size fa cd).kindOf [(x, .ref a)] fun _ => none) →
      wpAny (model l.prog w) (callerA.deeper (envOfC d.name d.scope s₁.heap.objs.size fa cd)) (execs d.body (envOfC d.name d.scope s₁.heap.objs.size fa cd))
        (fun f s' => f = .ret (.bool true) ∧ (∀ b o, s₁.heap.get? b = some o → s'.heap.get? b = some o) ∧ s'.os = s₁.os ∧ s'.gens = #[]) (fun _ _ => False) s) :
    WalkN q loose XP YP l.row.toRowW d [] (fun f vs => PySem.call f vs) := by
  intro w s₀ s₁ mg mb G Y fa o pm cd doc dV kV ho hd hcd hD hmg hg args vals as hpre hlay hrd hwl hlo
  obtain rfl : dV = .none := Dflts.none hD hdf
  obtain rfl : kV = .none := Dflts.noKw hD
  obtain ⟨a, vs, ns, rfl, rfl, hobj, hints, hlen⟩ := script_of hn hpre hwl
  refine enter_callW ?_
  refine call_cells_ret (o := o) (by rw [depth_caller]; decide) ho (fd_plain hd) G.T.nolimit hcd (hbind pm cd doc (.ref a)) (fun y hy => ?_) (fun h₁ tk F X => ?_) hco hgen hk
  · obtain rfl : y = (x, Value.ref a) := List.mem_singleton.mp hy
    rcases hx with e | e
    · exact .inl e
    · exact .inr ⟨e, cellsFrom_some _ _ _ (.inl e)⟩
  · refine wpAny_mono (body w s₀ s₁ { s₁ with heap := h₁, toks := tk } mg mb fa o pm cd doc a vs ns G Y ho (fd_plain hd) hcd hmg hobj hints hlen hg rfl F X) (fun f s' hq => ?_) (fun _ _ hq => hq)
    obtain ⟨rfl, h2, h3, h4⟩ := hq
    exact ⟨.inl ⟨.bool true, .bool true, [], rfl, fun _ => rfl, .bool true, post_true l _, fun _ => ⟨List.Pairwise.nil, fun _ hm => (nomatch hm)⟩⟩, h2, h3, h4⟩

/-! ### rules over ANY heap (no ledger) from facts about the written part K: the library's own take a ledger (News) for what they write -/
section
variable {prog : Program} {w : World} {A : Around} {E : Value → Shared → Prop} {s : Shared} {K : Frag}

/-- a def of the module, or a method (qual 'C.m'), entered: the frame is the next address; cells behind it -/
theorem call_fn {R : Result → Shared → Prop} {name qual : Str} {params : Arguments} {body : List Stmt} {scope : Scope} {dV kV doc pm cdv ct oc : Value} {an od : Option Addr} {osl : Array (Option Value)} {f : Addr} {args : Args} {binds : List (Str × Value)}
    (X : K.In s.heap) (hlim : s.heap.NoLimit) (ho : K.lookup f = some ⟨oc, od, .func (fnOf name qual params body scope dV kV doc pm an cdv ct), osl⟩) (hcd : codeIn K cdv qual = true) (hroom : A.depth < recursionLimit)
    (hbind : BindsTo s (fnOf name qual params body scope dV kV doc pm an cdv ct) args binds)
    (hkind : (binds.all fun y => scope.names.lookup y.1 == some .local || scope.names.lookup y.1 == some .cell) = true)
    (h : ∀ s₁, InCallC s s.heap.objs.size (bindL (envOfC qual scope s.heap.objs.size f cdv).kindOf binds fun _ => none) (cellsFrom (s.heap.objs.size + 1) scope.names [])
        (bindC (envOfC qual scope s.heap.objs.size f cdv).kindOf binds fun _ => none) s₁ →
      wpAny (model prog w) (A.deeper (envOfC qual scope s.heap.objs.size f cdv)) (execs body (envOfC qual scope s.heap.objs.size f cdv))
        (fun fl s' => R (.ok (.ret (match fl with | .ret v => v | _ => .none))) s')
        (fun e s' => wpAny (model prog w) (A.deeper (envOfC qual scope s.heap.objs.size f cdv)) (leaving (envOfC qual scope s.heap.objs.size f cdv) e) (fun _ s'' => R (.error e) s'') (fun e' s'' => R (.error e') s'') s') s₁)
    (hco : scope.isCoroutine = false) (hgen : scope.isGenerator = false) (hk : scope.kind = .function) : codeAny (model prog w) A (.call (.ref f) args) R s := by
  refine codeAny_call_function hroom (X _ _ ho) rfl hco hgen rfl (codeRec_of X hcd) (hbind _ _ _ _ ?_)
  refine wpAny_newFunctionEnv_cells hk (kindsX hkind _) fun env he s₁ x => ?_
  subst he
  exact ⟨hlim.keeps x.toInCall.keep, codeAny_func (h s₁ x)⟩

/-- C(..): dict at size, instance at size + 1, then __init__ -/
theorem make_obj {R : Result → Shared → Prop} {C fI : Addr} {rest : List Value} {kw : List (Str × Value)}
    (X : K.In s.heap) (hm : makesIn K C = true) (hi : findIn K (.ref C) "__init__" = some (some (.ref fI))) (hf : isFn K (.ref fI) = true)
    (h : codeAny (model prog w) (A.under (.builtin "type.__call__" ⟨.ref C :: rest, kw⟩)) (.call (.ref fI) ⟨.ref (s.heap.objs.size + 1) :: rest, kw⟩) (InitBack (s.heap.objs.size + 1) R)
      { s with heap := (s.heap.push emptyDict).push (instObj C s.heap.objs.size) }) : codeAny (model prog w) A (.call (.ref C) ⟨rest, kw⟩) R s := by
  obtain ⟨hh, g, d, t, os⟩ := s
  exact make_core (makes_of X hm) (looks_findIn X hi) (fun self => bind_fn X self (beq_iff_eq.mp hf)) (.inl rfl) h

/-- x.name where the instance's dict holds the name and the class does not -/
theorem get_field {x C : Addr} {ox : Obj} {es : List DictEntry} {n : Nat} {name : Str} {expr : Bool} {v : Value} {Q : Value → Shared → Prop}
    (X : K.In s.heap) (I : PySem.W.InstAt s.heap x ox C (some (dictOf es n))) (hg : plainGet K C name = true) (hh : hasDictIn K C = true) (ha : findIn K (.ref C) name = some none)
    (hl : getL name es = some (some v)) (hv : handedIn v = true) (h : Q v { s with toks := s.toks + 1 }) : wpAny (model prog w) A (getAttr (.ref x) name expr) Q E s :=
  get_value X I (plainGet_of hg).1 (findObj_own hh ha rfl hl) hv h

/-- x.m(..): the method found in the class -/
theorem get_method {x C f : Addr} {ox : Obj} {es : List DictEntry} {n : Nat} {name : Str} {pl : Sem Bool} {Q : Value × List Value → Shared → Prop}
    (X : K.In s.heap) (I : PySem.W.InstAt s.heap x ox C (some (dictOf es n))) (hg : plainGet K C name = true) (hf : findIn K (.ref C) name = some (some (.ref f))) (ht : isFn K (.ref f) = true)
    (hl : getL name es = some none) (h : Q (.ref f, [.ref x]) s) : wpAny (model prog w) A (getMethod (.ref x) name pl) Q E s :=
  method_fn X I (plainGet_of hg).1 (plainGet_of hg).2 hf (beq_iff_eq.mp ht) (by show (lookIn name (dictOf es n)).map _ = _; rw [lookIn_dict, hl]; rfl) h

/-! the whole heap as the ledger: makes every rule that writes through a ledger a rule over any heap -/
def noObjs (h : Heap) : Heap := { h with objs := #[] }
theorem noObjs_get (h : Heap) (b : Addr) : (noObjs h).get? b = none := by
  cases e : (noObjs h).get? b with
  | none => rfl
  | some o => exact absurd (Heap.lt_size e) (Nat.not_lt_zero _)
def ledger (h : Heap) (L d : Addr) : List (Addr × Obj) := (List.range h.objs.size).filterMap fun a => if a = L ∨ a = d then none else (h.get? a).map fun o => (a, o)
theorem mem_ledger {h : Heap} {L d a : Addr} {o : Obj} : (a, o) ∈ ledger h L d ↔ a ≠ L ∧ a ≠ d ∧ h.get? a = some o := by
  unfold ledger
  rw [List.mem_filterMap]
  constructor
  · rintro ⟨b, _, e⟩
    split at e
    · cases e
    · rename_i hb
      obtain ⟨o', ho, e'⟩ := Option.map_eq_some_iff.mp e
      cases e'
      exact ⟨fun q => hb (.inl q), fun q => hb (.inr q), ho⟩
  · rintro ⟨n1, n2, ho⟩
    refine ⟨a, List.mem_range.mpr (Heap.lt_size ho), ?_⟩
    rw [if_neg (show ¬ (a = L ∨ a = d) from fun q => q.elim n1 n2), ho] <;> rfl
theorem news_ledger {h : Heap} {L d : Addr} {od : Obj} (hne : d ≠ L) (ho : h.get? d = some od) : News (noObjs h) L h ([] ++ (d, od) :: ledger h L d) := by
  rintro ⟨a, o⟩ hp
  rcases List.mem_cons.mp hp with e | hp
  · cases e
    exact ⟨ho, hne, noObjs_get _ _⟩
  · obtain ⟨n1, n2, e⟩ := mem_ledger.mp hp
    exact ⟨e, n1, noObjs_get _ _⟩
theorem fr_all {h : Heap} {L : Addr} {m : Str → Option Value} (n : h.Ns L m) : Fr (noObjs h) L h m :=
  ⟨n, fun b o e => (by rw [noObjs_get] at e; cases e), Nat.zero_le _⟩
/-- Upd of the head entry (for append_K, setItem_K ..) -/
theorem upd_ledger {h : Heap} {L d : Addr} {o o' : Obj} : Upd d o o' ((d, o) :: ledger h L d) ((d, o') :: ledger h L d) :=
  .head fun ⟨_, _⟩ hp => (mem_ledger.mp hp).2.1

/-- x.name = v over any heap: L is any namespace of the heap (the frame's, say): its map stays, its object is not told; all else but the dict stays -/
theorem set_field {x C dx L : Addr} {ox : Obj} {m : Str → Option Value} {es es' : List DictEntry} {n n' : Nat} {name : Str} {v : Value} {Q : Unit → Shared → Prop}
    (X : K.In s.heap) (I : PySem.W.InstAt s.heap x ox C (some (dictOf es n))) (hd : ox.dict = some dx) (hL : s.heap.Ns L m) (hne : dx ≠ L)
    (hs : findIn K (.ref C) "__setattr__" = some (some (.builtin "object.__setattr__"))) (hp : plainOver K C = true) (ht : takerIn K C name = some none) (hh : hasDictIn K C = true) (hl : (getL name es).isSome = true)
    (e : (putL name (PyData.keyHash w.params name) (.str name (s.toks + 1)) v es, putN name es n) = (es', n')) (hz : es'.length ≤ 1000)
    (h : ∀ h' : Heap, h'.Ns L m → h'.get? dx = some (dictOf es' n') → (∀ b o, b ≠ dx → b ≠ L → s.heap.get? b = some o → h'.get? b = some o) → Q () { s with heap := h', toks := s.toks + 2 }) :
    wpAny (model prog w) A (setAttr (.ref x) name v) Q E s := by
  obtain ⟨e1, e2⟩ := Prod.mk.inj e
  have hdx : s.heap.get? dx = some (dictOf es n) := by
    have := I.dict
    rw [hd] at this
    exact this
  refine set_plain X I hs (osa_dict (s := { s with toks := s.toks + 1 }) (h₀ := noObjs s.heap) (L := L) (m := m) (od := dictOf es n) (od' := dictOf es' n') (es := es') (n := n') (pre := []) (post := ledger s.heap L dx)
    (fr_all hL) (news_ledger hne hdx) X I hd hp ht hh hl (fun _ q => nomatch q) (fun ⟨_, _⟩ q => (mem_ledger.mp q).2.1) (by rw [putName_dict, e1, e2]) rfl hz fun h' F' N' => ?_)
  exact h h' F'.ns (N'.get (List.Mem.head _)) fun b o n1 n2 ho => N'.get (List.Mem.tail _ (mem_ledger.mpr ⟨n2, n1, ho⟩))
end
end Att

namespace L2
open PySem PySem.Spec PyProof.Rows

theorem vals_ints : ∀ {vs : List Value} {ns : List Int}, IntsAre vs ns → Vals (ns.map V.int) vs
  | _, _, .nil => .nil
  | _, _, .cons n t h => .cons ⟨t, rfl⟩ (vals_ints h)

/-- nothing is tracked but the script, known to the object (or it is an object of the module) -/
def Only (H : Hp) : Prop := ∀ b, H b = none ∨ ∃ o xs, H b = some (.frz o (.lst xs))

/-- THE HEAD: the law's promise, at the heap behind the top. F, the promise of the law's def, may use that base is part of the heap (so K.In base, base.Ns mainGlobals mg stand in Mod) -/
theorem law_call {P : Program} {w : World} {K : PySem.W.Frag} {mg mb : Str → Option Value} {CX : CXT} {k : Nat} {fa a : Addr} {fd : FuncData} {x : Str} {sp : Sp} {s₁ : Shared} {vs : List Value} {ns : List Int}
    (KX : K.In s₁.heap) (hns : s₁.heap.Ns mainGlobals mg) (hb : s₁.heap.Ns builtinsNs mb) (hbb : ∀ x : Str, x ≠ "__name__" → mb x = bootBuiltins x) (hlim : s₁.heap.NoLimit) (hg : s₁.gens = #[])
    (ha : s₁.heap.get? a = some { cls := .type "list", data := .seq vs.toArray }) (hi : IntsAre vs ns) (hl : ns.length ≤ sizeLine) (hr : Room k callerA)
    (F : ∀ base : Heap, K.In base → base.Ns mainGlobals mg → FnOk P w K mg base CX k fa fd [x] sp) (hbind : ∀ (s : Shared) (u : Value), BindsTo s fd ⟨[u], []⟩ [(x, u)])
    (hsp : ∀ H : Hp, Only H → SqL K H a (ns.map V.int) → sp [.ref a] H (fun v _ => v = .bl true) fun _ _ _ => False)
    (hCX : ∀ H e s', CX [] H s₁ (fun _ _ _ => False) e s' → False) :
    codeAny (model P w) callerA (.call (.ref fa) ⟨[.ref a], []⟩) (fun r s' => r = .ok (.ret (.bool true)) ∧ OldK s₁.heap s'.heap ∧ s'.os = s₁.os ∧ AllBare s'.gens) s₁ := by
  have rv := vals_ints hi
  have lenV := hi.length
  -- from an abstract heap in which nothing but the script may be tracked
  have core : ∀ H : Hp, Only H → SqL K H a (ns.map V.int) → HOk P w H s₁.heap → (∀ b, H b ≠ none → b = a) → (H a ≠ none → K.lookup a = none) →
      codeAny (model P w) callerA (.call (.ref fa) ⟨[.ref a], []⟩) (fun r s' => r = .ok (.ret (.bool true)) ∧ OldK s₁.heap s'.heap ∧ s'.os = s₁.os ∧ AllBare s'.gens) s₁ := by
    intro H hO hS hok hA hK
    have base_of : ∀ {b : Addr} {o : Obj}, s₁.heap.get? b = some o → H b = none → (hidT s₁.heap H).get? b = some o := fun e n => hidT_get e n
    have noA : ∀ {b : Addr} {o : Obj} {es : Array DictEntry} {ep : Nat}, s₁.heap.get? b = some o → o.data = .dict es ep → H b = none := fun {b o es ep} e d => by
      cases q : H b with
      | none => rfl
      | some u =>
        have e' : b = a := hA b (by rw [q]; simp)
        subst e'
        rw [ha] at e; cases e
        have d' : Data.seq vs.toArray _ = Data.dict es ep := d
        cases d'
    have nsK : ∀ {b : Addr} {m : Str → Option Value}, s₁.heap.Ns b m → (hidT s₁.heap H).Ns b m := fun {b m} ⟨o, es, ep, e, d, r⟩ => ⟨o, es, ep, base_of e (noA e d), d, r⟩
    have hKb : K.In (hidT s₁.heap H) := fun b o e => base_of (KX b o e) (by
      cases q : H b with
      | none => rfl
      | some u =>
        have e' : b = a := hA b (by rw [q]; simp)
        subst e'
        rw [hK (by rw [q]; simp)] at e; cases e)
    have hM : Mod K mg (hidT s₁.heap H) := ⟨hKb, nsK hns, ⟨mb, nsK hb, hbb⟩, let ⟨mc, h1, h2⟩ := hlim; ⟨mc, nsK h1, h2⟩⟩
    have e0 : Env0 P w K mg (hidT s₁.heap H) callerA [] s₁ H := ⟨rfl, hM, fun b o e => of_hidT e, Nat.le_of_eq (hidT_size _ _), trivial, fun b hb => absurd (show b ∈ ([] : List Addr) from hb) (by simp), hok, .of_eq hg⟩
    refine codeAny_mono ((F _ hKb (nsK hns)).run callerA [] s₁ H ⟨[.ref a], []⟩ [.ref a] [.ref a] _ _ hr e0 (hbind s₁ (.ref a)) (.cons rfl .nil) (hsp H hO hS)) fun r s' h => ?_
    cases r with
    | error e => exact (hCX H e s' h).elim
    | ok fl =>
      cases fl with
      | next => exact False.elim h
      | brk => exact False.elim h
      | cont => exact False.elim h
      | ret u =>
        obtain ⟨v, H', os, bare, un, hok', r', q⟩ := h
        have q' : v = .bl true := q
        subst q'
        obtain rfl : u = Value.bool true := r'
        refine ⟨rfl, OldK.of_keep fun b o e => ?_, os, bare⟩
        cases q : H b with
        | none => exact un.keep b o e q (by intro z; exact absurd (show b ∈ ([] : List Addr) from z) (by simp)) (by simp)
        | some u =>
          rcases hO b with z | ⟨ob, xs, z⟩
          · rw [q] at z; cases z
          · have z2 := un.frzs b ob _ z
            obtain ⟨e1, _⟩ := hok b _ z
            obtain ⟨e2, _⟩ := hok' b _ z2
            rw [e] at e1; cases e1
            exact e2
  cases hk : K.lookup a with
  | some o =>
    -- the script is one of the module's own objects
    have e := KX a o hk
    rw [ha] at e
    cases e
    refine core (fun _ => none) (fun _ => .inl rfl) (.inr ⟨_, vs.toArray, _, hk, rfl, rfl, rfl, by rw [List.size_toArray, lenV]; exact hl, by simpa using rv⟩) (fun b u z => by have z' : (none : Option HO) = some u := z; cases z') (fun b z => absurd rfl z) fun z => absurd rfl z
  | none =>
    refine core (fun b => if b = a then some (.frz { cls := .type "list", data := .seq vs.toArray } (.lst (ns.map V.int))) else none) (fun b => ?_) (.inl (.inr ⟨{ cls := .type "list", data := .seq vs.toArray }, if_pos rfl⟩)) (fun b u z => ?_) (fun b z => ?_) fun _ => hk
    · by_cases hb : b = a
      · exact .inr ⟨_, _, if_pos hb⟩
      · exact .inl (if_neg hb)
    · by_cases hb : b = a
      · have z' := (if_pos hb).symm.trans z
        cases z'
        subst hb
        exact ⟨ha, by rw [List.length_map]; exact hl, vs, _, rv, ha⟩
      · have z' := (if_neg hb).symm.trans z
        cases z'
    · by_cases hb : b = a
      · exact hb
      · exact absurd (if_neg hb) z
end L2

namespace L2
open PySem PySem.Spec PyProof.Rows

abbrev KOf {K : PySem.W.Frag} {h : Heap} (_ : K.In h) : PySem.W.Frag := K

/-- the goal that k_head leaves (case hc), from the law's promise. F gives the function object fd (K's own) once, then the promise over every base -/
theorem walk_of {l : PySem.W.OpenLaw} {n k : Nat} {q : Program} {loose : List Str} {XP : (Str → Option Value) → Heap → Prop} {YP : World → Heap → Prop} {d : DefRec} {K : Params → PySem.W.Frag} {CX : World → CXT} {sp : World → Sp} {x : Str}
    (hn : l.most = some n) (hn2 : n ≤ sizeLine) (hdf : d.params.defaults = []) (hr : Room k callerA)
    (hY : ∀ (w : World) (h : Heap), YP w h → (K w.params).In h)
    (F : ∀ (w : World) (mg : Str → Option Value) (fa : Addr) (h : Heap), (K w.params).In h → h.Ns mainGlobals mg → mg d.name = some (.ref fa) →
      ∃ fd : FuncData, (∀ (s : Shared) (u : Value), BindsTo s fd ⟨[u], []⟩ [(x, u)]) ∧
        ∀ base : Heap, (K w.params).In base → base.Ns mainGlobals mg → FnOk l.prog w (K w.params) mg base (CX w) k fa fd [x] (sp w))
    (hsp : ∀ (w : World) (H : Hp) (a : Addr) (ns : List Int), ns.length ≤ n → Only H → SqL (K w.params) H a (ns.map V.int) → sp w [.ref a] H (fun v _ => v = .bl true) fun _ _ _ => False)
    (hCX : ∀ (w : World) (H : Hp) (s : Shared) (e : Value) (s' : Shared), CX w [] H s (fun _ _ _ => False) e s' → False) :
    PySem.W.WalkO q loose XP YP l.row.toRowW d [] (fun f vs => PySem.call f vs) := by
  refine Att.attach_call hn hdf fun w s₀ s₁ mg mb fa o pm cd doc a vs ns G Y ho hd hcd hmg hobj hints hlen hg => ?_
  have KX := hY w _ Y
  obtain ⟨fd, hb, hF⟩ := F w mg fa _ KX G.T.g hmg
  exact law_call KX G.T.g G.T.b G.T.builtins G.T.nolimit hg hobj hints (Nat.le_trans hlen hn2) hr hF hb (fun H hO hS => hsp w H a ns hlen hO hS) fun H e s' => hCX w H s₁ e s'
/-- the same where the promise hangs on the written part alone: (sp := My.sp_law), no hole under a binder -/
theorem walk_ofK {l : PySem.W.OpenLaw} {n k : Nat} {q : Program} {loose : List Str} {XP : (Str → Option Value) → Heap → Prop} {YP : World → Heap → Prop} {d : DefRec} {K : Params → PySem.W.Frag} {CX : CXT} {sp : PySem.W.Frag → Sp} {x : Str}
    (hn : l.most = some n) (hn2 : n ≤ sizeLine) (hdf : d.params.defaults = []) (hr : Room k callerA)
    (hY : ∀ (w : World) (h : Heap), YP w h → (K w.params).In h)
    (F : ∀ (w : World) (mg : Str → Option Value) (fa : Addr) (h : Heap), (K w.params).In h → h.Ns mainGlobals mg → mg d.name = some (.ref fa) →
      ∃ fd : FuncData, (∀ (s : Shared) (u : Value), BindsTo s fd ⟨[u], []⟩ [(x, u)]) ∧
        ∀ base : Heap, (K w.params).In base → base.Ns mainGlobals mg → FnOk l.prog w (K w.params) mg base CX k fa fd [x] (sp (K w.params)))
    (hsp : ∀ (K : PySem.W.Frag) (H : Hp) (a : Addr) (ns : List Int), ns.length ≤ n → Only H → SqL K H a (ns.map V.int) → sp K [.ref a] H (fun v _ => v = .bl true) fun _ _ _ => False)
    (hCX : ∀ (H : Hp) (s : Shared) (e : Value) (s' : Shared), CX [] H s (fun _ _ _ => False) e s' → False) :
    PySem.W.WalkO q loose XP YP l.row.toRowW d [] (fun f vs => PySem.call f vs) :=
  walk_of (K := K) (CX := fun _ => CX) (sp := fun w => sp (K w.params)) hn hn2 hdf hr hY F (fun w H a ns h1 h2 h3 => hsp (K w.params) H a ns h1 h2 h3) fun _ H s e s' => hCX H s e s'
end L2

/- THE LAST THEOREM (shape; LID, My.* are yours):
   My.Adr: a structure of the addresses that your layer names (classes, functions); My.Txt K t: a structure (Prop) of the equations over K;
   My.txt_mk : {K} {implicit addresses ..} (e1 : nsIn K mainGlobals "law" = some (some (.ref f))) (e2 : K.lookup f = some ⟨oc, od, .func (fnOf "law" "law" params body scope dV kV doc pm an cdv ct), sl⟩) (e3 : codeIn K cdv "law" = true) .. : ∃ t, My.Txt K t

set_option maxRecDepth 100000 in
set_option maxHeartbeats 0 in
theorem PySem.Challenge.cw_LID_holds : PySem.Challenge.rw_LID.Holds := by
  w_on; o_law; k_head; (case hw => w_witness2)
  k_fill
  refine L2.walk_of (l := PySem.Challenge.rw_LID) (n := 63) (k := 40) (x := "script") (CX := fun w => ..) (sp := fun _ => My.sp_law) rfl (by decide) rfl ⟨rfl, by decide, by decide⟩ (fun w h Y => PySem.W.kIn_of Y) ?F ?S ?C
  case F =>
    intro w mg fa h KX G hmg
    have T : ∃ t, My.Txt (L2.KOf KX) t := by
      dsimp only [L2.KOf]                          -- K must stand as «<heap const> w.params» for k_is
      refine' My.txt_mk ?e1 ?e2 ?e3 ..
      (case e1 => PySem.W.k_is)                    -- in the order: a name -> its address -> its object -> its parts
      (case e2 => PySem.W.k_is)
      ..
    obtain ⟨t, T⟩ := T
    have e0 := hmg.symm.trans (PySem.W.mg_of KX G T.law)
    cases e0                                       -- fa is the law's own address
    exact ⟨_, fun s u => .of_eq rfl, fun base kb nb => My.law_fn T kb nb⟩     -- if «.of_eq rfl» comes too early: refine' ⟨_, ?b, fun base kb nb => My.law_fn T kb nb⟩; exact fun s u => .of_eq rfl
  case S => exact fun w H a ns hl hO hS => ..
  case C => exact ..
(the tactic k_is has no namespace: write k_is) -/

/-! SHORT WORDS over the layer: a def of the text, its body, what a loop and a test want. -/
namespace L2
open PySem PySem.Spec PyProof.Rows

/-! ### the text by places -/
/-- the j-th statement of a class's body -/
def inClass (s : Stmt) (j : Nat) : Stmt := match s with
  | .ClassDef _ _ _ body _ _ _ _ _ _ _ => body.getD j (.Pass ⟨0, 0, 0, 0⟩)
  | _ => .Pass ⟨0, 0, 0, 0⟩
def defArgs (s : Stmt) : Arguments := match s with
  | .FunctionDef _ a _ _ _ _ _ _ _ _ => a
  | _ => { posonlyargs := [], args := [], vararg := none, kwonlyargs := [], kw_defaults := [], kwarg := none, defaults := [] }
def defBody (s : Stmt) : List Stmt := match s with
  | .FunctionDef _ _ b _ _ _ _ _ _ _ => b
  | _ => []
def defScope (s : Stmt) : Scope := match s with
  | .FunctionDef _ _ _ _ _ _ sc _ _ _ => sc
  | _ => { kind := .function, names := [], isGenerator := false, isCoroutine := false }

/-! ### no exception leaves a def -/
abbrev CX0 : CXT := fun _ _ _ _ _ _ => False
abbrev E0 : XK := fun _ _ _ => False
theorem pass0 {X : Cx} : Passes CX0 X E0 := fun _ _ _ _ _ _ _ h => h.elim

/-! ### a def (or method) of the text as it stands behind the top -/
structure Fun (K : PySem.W.Frag) (x qual : Str) (st : Stmt) (f : Addr) (fd : FuncData) : Prop where
  ex : ∃ (oc : Value) (od : Option Addr) (kV doc pm : Value) (an : Option Addr) (cdv ct : Value) (osl : Array (Option Value)),
    fd = PySem.W.fnOf x qual (defArgs st) (defBody st) (defScope st) .none kV doc pm an cdv ct ∧ K.lookup f = some ⟨oc, od, .func fd, osl⟩ ∧ PySem.W.codeIn K cdv qual = true
  kp : PySem.W.keepIn K (.ref f) = true
section
variable {P : Program} {w : World} {K : PySem.W.Frag} {mg : Str → Option Value} {base : Heap}
/-- THE RULE for a def: its body as a term of rules, and the reading of that term -/
theorem Fun.ok {x qual : Str} {st : Stmt} {f : Addr} {fd : FuncData} {N ps : List Str} {k : Nat} {sp : Sp} (F : Fun K x qual st f fd) (S : FnScope N ps (defScope st)) (len : ∀ vs H Q E, sp vs H Q E → vs.length = ps.length)
    (hbody : ∀ (cdv : Value) (A : Around) (outer : List Env) (s : Shared) (H : Hp) (vs : List V) (Q : VK) (E : XK), Room k (A.deeper (envOfC qual (defScope st) s.heap.objs.size f cdv)) → sp vs H Q E →
      ∃ t, PSs (cxOf CX0 P w K mg base N qual (defScope st) f cdv A outer s H E).nox (defBody st) t ∧ t { nx := fun _ H' => Q .non H', rt := Q } (start N vs) H) : FnOk P w K mg base CX0 (k + 1) f fd ps sp := by
  obtain ⟨oc, od, kV, doc, pm, an, cdv, ct, osl, rfl, lk, hcd⟩ := F.ex
  refine fn_of lk hcd S len fun A outer s H vs Q E hr hsp => ?_
  obtain ⟨t, h, q⟩ := hbody cdv A outer s H vs Q E hr hsp
  exact ⟨t, h.nox, q⟩
/-- how its arguments bind (no defaults): h is «fun _ _ _ _ _ _ us hl => match us, hl with | [_, _], _ => rfl», one _ a parameter -/
theorem Fun.binds {x qual : Str} {st : Stmt} {f : Addr} {fd : FuncData} {ps : List Str} (F : Fun K x qual st f fd)
    (h : ∀ (kV doc pm : Value) (an : Option Addr) (cdv ct : Value) (us : List Value), us.length = ps.length → bindArgs (PySem.W.fnOf x qual (defArgs st) (defBody st) (defScope st) .none kV doc pm an cdv ct) ⟨us, []⟩ = pure (ps.zip us)) : Binds K fd ps [] := by
  obtain ⟨oc, od, kV, doc, pm, an, cdv, ct, osl, rfl, lk, hcd⟩ := F.ex
  exact .all (h kV doc pm an cdv ct)
theorem fun_mk {x qual : Str} {st : Stmt} {f : Addr} {oc : Value} {od an : Option Addr} {osl : Array (Option Value)} {kV doc pm cdv ct : Value} (l : K.lookup f = some ⟨oc, od, .func (PySem.W.fnOf x qual (defArgs st) (defBody st) (defScope st) .none kV doc pm an cdv ct), osl⟩)
    (c : PySem.W.codeIn K cdv qual = true) (k : PySem.W.keepIn K (.ref f) = true) : Fun K x qual st f (PySem.W.fnOf x qual (defArgs st) (defBody st) (defScope st) .none kV doc pm an cdv ct) := ⟨⟨oc, od, kV, doc, pm, an, cdv, ct, osl, rfl, l, c⟩, k⟩
end
theorem hu_of {A : Around} {k : Nat} (hr : Room k A) : A.units + 1 < cLine := Nat.lt_of_le_of_lt (Nat.add_le_add_left (by decide : 1 ≤ 64) _) hr.units
theorem small1000 {n : Nat} (h : n ≤ 1000) : n < sizeLine := Nat.lt_of_le_of_lt h (by decide)

/-! ### expressions in short: the name that stands in the i-th slot -/
section
variable {X : Cx}
theorem pv (i : Nat) {x : Str} {pos : Pos} (hN : X.N[i]? = some x := by rfl) (hv : Vis X.env.scope x := by first | exact Or.inl rfl | exact Or.inr (Or.inl rfl) | exact Or.inr (Or.inr rfl)) (hd : (x == ("__debug__" : Str)) = false := by decide)
    (hcd : (x == ("__classdict__" : Str)) = false := by decide) : PE X (.Name x pos) (tVar i) := pe_var hN hv hd hcd
end

/-! ### tests -/
theorem iteF {A B : Prop} (h : B) : if false = true then A else B := by
  rw [if_neg Bool.false_ne_true]
  exact h
theorem iteT {A B : Prop} (h : A) : if true = true then A else B := by
  rw [if_pos rfl]
  exact h
theorem ite2 {c A B : Prop} [Decidable c] (h1 : c → A) (h2 : ¬ c → B) : if c then A else B := by
  by_cases h : c
  · rw [if_pos h]
    exact h1 h
  · rw [if_neg h]
    exact h2 h
theorem iteNS {c A B : Prop} [Decidable c] (hc : c) (h : B) : if (!decide c) = true then A else B := by
  rw [decide_eq_true hc]
  exact iteF h

/-! ### heaps -/
/-- all that was tracked is as it was -/
def Same (H H' : Hp) : Prop := ∀ b o, H b = some o → H' b = some o
theorem Same.refl (H : Hp) : Same H H := fun _ _ h => h
theorem Same.trans {H H1 H2 : Hp} (a : Same H H1) (b : Same H1 H2) : Same H H2 := fun c o h => b c o (a c o h)
theorem Same.free {H H' : Hp} (e : Same H H') {l : Addr} (h : H' l = Option.none) : H l = Option.none := by
  cases q : H l with
  | none => rfl
  | some o =>
    rw [e l o q] at h
    cases h
theorem Same.seq {K : PySem.W.Frag} {H H' : Hp} {a : Addr} {xs : List V} (e : Same H H') (h : SqL K H a xs) : SqL K H' a xs := by
  rcases h with (h | ⟨o, h⟩) | h
  · exact .inl (.inl (e _ _ h))
  · exact .inl (.inr ⟨o, e _ _ h⟩)
  · exact .inr h

end L2

set_option maxHeartbeats 4000000
namespace L2
open PySem PySem.Spec PyProof.Rows

/-! ### V1. records of ours have turned; what is tracked is kept, perhaps one thing more -/
section
variable {P : Program} {w : World} {H : Hp} {h h' : Heap} {p : Addr} {o : HO} {ch : List Addr}
theorem HOk.keptBut (x : HOk P w H h) (k : ∀ b u, b ∉ ch → h.get? b = some u → h'.get? b = some u) (hn : ∀ b ∈ ch, H b = none) : HOk P w H h' := fun b u e =>
  (x b u e).stay (fun c v hc q => k c v (fun hm => by
    rcases hc with z | z
    · rw [z] at hm; rw [hn _ hm] at e; cases e
    · rw [hn c hm] at z; cases z) q) (fun _ q => q) fun _ _ q => q
theorem HOk.laidBut (x : HOk P w H h) (k : ∀ b u, b ∉ ch → h.get? b = some u → h'.get? b = some u) (hn : ∀ b ∈ ch, H b = none) (hp : h.objs.size ≤ p) (new : ObjOk P w (upd H p o) h' p o) : HOk P w (upd H p o) h' := fun b u e => by
  have hnp := x.fresh hp
  by_cases hb : b = p
  · subst hb; rw [upd_same] at e; cases e; exact new
  · rw [upd_ne hb] at e
    refine (x b u e).stay (fun c v hc q => k c v (fun hm => ?_) q) (fun c q => by rw [upd_ne (ne_of_none q hnp)]; exact q) fun c xs q => by rw [upd_ne (ne_of_none q hnp)]; exact q
    rcases hc with z | z
    · rw [z] at hm; rw [hn _ hm] at e; cases e
    · rw [hn c hm] at z; cases z
end
section
variable {X : Cx} {pins : List (Addr × Obj)} {σ : St} {H H' : Hp} {s : Shared} {h' : Heap}
theorem Inv.turnedL {t' : Nat} {ch : List Addr} (I : Inv X pins σ H s) (hf : ∀ b ∈ ch, FpOk X pins H b) (k : ∀ b u, b ∉ ch → s.heap.get? b = some u → h'.get? b = some u)
    (hH : ∀ b u, H b = some u → H' b = some u) (hfree : ∀ b u, s.heap.get? b = some u → H b = none → H' b = none) (hok : HOk X.prog X.w H' h') : Inv X pins σ H' { s with heap := h', toks := t' } := by
  refine I.step (g' := s.gens) (d' := s.drawn) (ch := ch) (fun b hb => ?_) (fun b u _ _ hc e _ => k b u hc e) (fun b u _ _ hc e _ => ⟨u.slots, k b u hc e⟩) (fun b u _ e n => hfree b u e n)
    (fun b u hc e => ⟨u, k b u hc e⟩) (fun b xs e => hH _ _ e) (fun b u v e => hH _ _ e) (fun b ps e => ⟨#[], by rw [hH _ _ e]; simp⟩) (fun m hm => ?_) hok I.bare
  · obtain ⟨f0, f1, f2, f3, f4, f5⟩ := hf b hb
    exact ⟨f3, f1, f4, f5⟩
  · obtain ⟨u, es, ep, ho, r⟩ := hm
    exact ⟨u, es, ep, k _ u (fun z => (hf _ z).2.1 rfl) ho, r⟩
theorem Inv.turnedK {t' : Nat} {ch : List Addr} (I : Inv X pins σ H s) (hf : ∀ b ∈ ch, FpOk X pins H b) (k : ∀ b u, b ∉ ch → s.heap.get? b = some u → h'.get? b = some u) : Inv X pins σ H { s with heap := h', toks := t' } :=
  I.turnedL hf k (fun _ _ e => e) (fun _ _ _ e => e) (I.hok.keptBut k fun b hb => (hf b hb).1)
theorem Inv.turnedN {t' : Nat} {ch : List Addr} {p : Addr} {o : HO} (I : Inv X pins σ H s) (hf : ∀ b ∈ ch, FpOk X pins H b) (k : ∀ b u, b ∉ ch → s.heap.get? b = some u → h'.get? b = some u)
    (hp : s.heap.objs.size ≤ p) (new : ObjOk X.prog X.w (upd H p o) h' p o) : Inv X pins σ (upd H p o) { s with heap := h', toks := t' } :=
  I.turnedL hf k (fun b u e => by rw [upd_ne (ne_of_none e (I.hok.fresh hp))]; exact e)
    (fun b u e n => by rw [upd_ne (Nat.ne_of_lt (Nat.lt_of_lt_of_le (Heap.lt_size e) hp))]; exact n) (I.hok.laidBut k (fun b hb => (hf b hb).1) hp new)
end

theorem on1 {p : Addr → Prop} {a : Addr} (h : p a) : ∀ b ∈ [a], p b := fun b hb => by
  rw [show b = a by simpa using hb]
  exact h

/-! ### V2. reversed(a list) -/
def Itrev (K : PySem.W.Frag) (a : Addr) (n : Nat) : It :=
  ⟨fun i H => i < n ∧ ∃ xs, SqL K H a xs ∧ xs.length = n, fun i H x H' => H' = H ∧ ∀ xs, SqL K H a xs → xs.length = n → xs[n - 1 - i]? = some x, fun i _ => i = n⟩
theorem turn_rev {P : Program} {w : World} {K : PySem.W.Frag} {tg : Expr} (a it : Addr) (n : Nat) : Turn P w K tg (Itrev K a n) [it] it (fun i h => h.IsRevIter it a ((n : Int) - 1 - (i : Nat))) where
  mem := by simp
  obj := fun i h st b hb => by
    have e : b = it := by simpa using hb
    subst e
    obtain ⟨o, e, c, d⟩ := st
    exact ⟨o, e, fun v z => by rw [d] at z; cases z⟩
  keep := fun i h h' st k => st.at fun o e => k it (by simp) o e
  item := by
    intro X hP hw hK hc i pins s σ H E I hf st hg
    subst hP hw hK
    obtain ⟨hin, xs, hq, hl⟩ := hg
    obtain ⟨its, rv, p, hz⟩ := I.list hq
    have hj : n - 1 - i < xs.length := by omega
    have hx : xs[n - 1 - i]? = some xs[n - 1 - i] := List.getElem?_eq_getElem hj
    obtain ⟨u, hu, ru⟩ := rv.get hx
    have f := hf it (by simp)
    have e1 : (n : Int) - 1 - (i : Nat) = ((n - 1 - i : Nat) : Int) := by omega
    have e2 : ((n - 1 - i : Nat) : Int) - 1 = (n : Int) - 1 - ((i + 1 : Nat) : Int) := by omega
    have st1 := st
    rw [e1] at st1
    refine wpAny_pyNext_rev_item st1 p.isList (x := u) (by simpa using hu) fun h' st' sb => ?_
    rw [e2] at st'
    have I1 : Inv X pins σ H { s with heap := h' } := I.turnedK (t' := s.toks) (ch := [it]) (on1 f) fun b o hb e => (sb.2 b (by simpa using hb)).trans e
    obtain ⟨o, e, c, d⟩ := id st'
    exact ⟨u, rfl, go_of (s := { s with heap := h' }) e c d (by decide) ⟨xs[n - 1 - i], H, I1, ru, ⟨rfl, fun ys hy _ => by rw [I.list_inj hy hq]; exact hx⟩, st', fun b hb => (hf b hb).1⟩⟩
  done := by
    intro X hP hw hK hc i pins s σ H E I hf st hg
    subst hP hw hK
    have hin : i = n := hg
    subst hin
    have f := hf it (by simp)
    have st1 := st
    rw [show (i : Int) - 1 - (i : Nat) = -1 by omega] at st1
    exact wpAny_pyNext_rev_end (I.ok.hd hc) st1 fun h' eb => ⟨rfl, I.turnedK (t' := s.toks) (ch := [it]) (on1 f) fun b o hb e => eb b o (by simpa using hb) e⟩
  self := fun _ _ _ _ _ st h => wpAny_pyIter_revIter st h
def iRev (K : PySem.W.Frag) (ta : TA) : TI := fun σ H R => ta σ H fun vs H1 => ∃ l xs, vs = [.ref l] ∧ SqL K H1 l xs ∧ R (Itrev K l xs.length) H1
section
variable {X : Cx} {tg : Expr}
theorem fpNew {pins : List (Addr × Obj)} {σ : St} {H H' : Hp} {s : Shared} (I : Inv X pins σ H s) (hH : ∀ b, s.heap.objs.size ≤ b → H' b = none) {fp : List Addr} (h : ∀ b ∈ fp, s.heap.objs.size ≤ b) : ∀ b ∈ fp, FpOk X pins H' b :=
  fun b hb => I.fpOk (h b hb) (hH b (h b hb))
theorem pi_rev {a : Expr} {ta : TA} {p pos : Pos} (hg : Gl X "reversed") (hm : X.mg "reversed" = none) (ha : PA X [a] ta) (hs : starEach [a] X.env = [(false, eval a X.env)] := by rfl) : PI X tg (.Call (.Name "reversed" p) [a] [] pos) (iRev X.K ta) := by
  intro pins s σ H R I h
  refine Call_ (ld_blt I hg hm boot_reversed (PyProof.Rows.callWith_type1 (thn (ha pos pins s σ H _ I h) fun us s1 ⟨vs, H1, I1, r1, q1⟩ => ?_) hs rfl))
  obtain ⟨l, xs, e, hq, q⟩ := q1
  subst e
  obtain ⟨u, rfl, ru⟩ := r1.one
  cases ru
  obtain ⟨its, rv, pl, hz⟩ := I1.list hq
  refine call_reversed_list pl.isList ?_
  have st : Heap.IsRevIter (s1.heap.push (revObj l ((its.toArray.size : Int) - 1))) s1.heap.objs.size l ((xs.length : Int) - 1 - ((0 : Nat) : Int)) := by
    refine ⟨_, Heap.get?_push_size _ rfl, rfl, ?_⟩
    have e : ((its.toArray.size : Nat) : Int) - 1 = (xs.length : Int) - 1 - ((0 : Nat) : Int) := by rw [List.size_toArray, ← rv.length]; omega
    rw [← e]
    rfl
  refine wpAny_pyIter_revIter st ?_
  refine ⟨s1.heap.objs.size, [s1.heap.objs.size], _, _, H1, rfl, I1.kept (t' := s1.toks) fun b o e => Heap.get?_push_of_some _ e, turn_rev l _ xs.length, st, ?_, q⟩
  exact fpNew I1 (fun b hb => I1.hok.fresh hb) (on1 (p := fun b => s1.heap.objs.size ≤ b) (Nat.le_refl _))
end

/-! ### V3. zip of two lists, where the target is a tuple: each turn a new pair -/
def Itz (K : PySem.W.Frag) (a b : Addr) : It :=
  ⟨fun i H => ∃ xs ys x y, SqL K H a xs ∧ SqL K H b ys ∧ xs[i]? = some x ∧ ys[i]? = some y,
   fun i H v H' => ∃ p, H p = none ∧ v = .ref p ∧ ∀ xs ys x y, SqL K H a xs → SqL K H b ys → xs[i]? = some x → ys[i]? = some y → H' = upd H p (.tup [x, y]),
   fun i H => ∃ xs ys, SqL K H a xs ∧ SqL K H b ys ∧ (xs.length ≤ i ∨ ys.length ≤ i)⟩
section
variable {X : Cx} {pins : List (Addr × Obj)} {σ : St} {H : Hp} {s : Shared}
/-- an untracked record is not a list that can be read -/
theorem Inv.list_apart (I : Inv X pins σ H s) {a b : Addr} {xs : List V} (h : SqL X.K H a xs) {o : Obj} (e : s.heap.get? b = some o) (hc : o.cls ≠ .type "list") : a ≠ b := by
  intro z
  obtain ⟨its, rv, p, hz⟩ := I.list h
  obtain ⟨o', e', c', _⟩ := p.isList
  rw [z, e] at e'
  cases e'
  exact hc c'
end
theorem turn_zip {P : Program} {w : World} {K : PySem.W.Frag} {elts : List Expr} {k1 : Nat} {tp : Pos} (a b z TI TO i1 i2 : Addr)
    (d1 : TI ≠ z) (d2 : TO ≠ z) (d3 : i1 ≠ z) (d4 : i2 ≠ z) (d5 : TI ≠ TO) (d6 : TI ≠ i1) (d7 : TI ≠ i2) (d8 : TO ≠ i1) (d9 : TO ≠ i2) (d10 : i1 ≠ i2) :
    Turn P w K (.Tuple elts k1 tp) (Itz K a b) [z, TI, TO, i1, i2] z (fun i h => IsZip h z TI TO .none ∧ IsPair h TI (.ref i1) (.ref i2) ∧ (∃ u v, IsPair h TO u v) ∧ h.IsListIter i1 a i ∧ h.IsListIter i2 b i) where
  mem := by simp
  obj := fun i h st c hb => by
    obtain ⟨s1, s2, ⟨u, v, s3⟩, ⟨o4, s4, _, t4⟩, ⟨o5, s5, _, t5⟩⟩ := st
    simp only [List.mem_cons, List.not_mem_nil, or_false] at hb
    rcases hb with rfl | rfl | rfl | rfl | rfl
    · exact ⟨_, s1, fun v z => by cases z⟩
    · exact ⟨_, s2, fun v z => by cases z⟩
    · exact ⟨_, s3, fun v z => by cases z⟩
    · exact ⟨_, s4, fun v z => by rw [t4] at z; cases z⟩
    · exact ⟨_, s5, fun v z => by rw [t5] at z; cases z⟩
  keep := fun i h h' st k => by
    obtain ⟨s1, s2, ⟨u, v, s3⟩, s4, s5⟩ := st
    exact ⟨k z (by simp) _ s1, k TI (by simp) _ s2, ⟨u, v, k TO (by simp) _ s3⟩, s4.at fun o e => k i1 (by simp) o e, s5.at fun o e => k i2 (by simp) o e⟩
  item := by
    intro X hP hw hK hc i pins s σ H E I hf st hg
    subst hP hw hK
    obtain ⟨xs, ys, x, y, hqa, hqb, hx, hy⟩ := hg
    obtain ⟨s1, s2, ⟨u, v, s3⟩, s4, s5⟩ := st
    obtain ⟨its1, rv1, p1, z1⟩ := I.list hqa
    obtain ⟨its2, rv2, p2, z2⟩ := I.list hqb
    obtain ⟨u1, hu1, ru1⟩ := rv1.get hx
    obtain ⟨u2, hu2, ru2⟩ := rv2.get hy
    have e4 := s4
    have e5 := s5
    obtain ⟨o4, q4, c4, _⟩ := e4
    obtain ⟨o5, q5, c5, _⟩ := e5
    have n4 : o4.cls ≠ .type "list" := by rw [c4]; decide
    have n5 : o5.cls ≠ .type "list" := by rw [c5]; decide
    have D : ZipApart z TI TO i1 i2 a b := ⟨d1, d2, d3, d4, d5, d6, d7, d8, d9, d10,
      I.list_apart hqa s1 (show Value.type "zip" ≠ Value.type "list" by decide), I.list_apart hqa s3 (show Value.type "tuple" ≠ Value.type "list" by decide), I.list_apart hqa q4 n4, I.list_apart hqa q5 n5,
      I.list_apart hqb s1 (show Value.type "zip" ≠ Value.type "list" by decide), I.list_apart hqb s3 (show Value.type "tuple" ≠ Value.type "list" by decide), I.list_apart hqb q4 n4, I.list_apart hqb q5 n5⟩
    refine wpAny_pyNext_zip_item D s1 s2 s3 s4 s5 p1.isList p2.isList (x := u1) (y := u2) (by simpa using hu1) (by simpa using hu2) fun h' a1 a2 a3 a4 a5 a6 a7 => ?_
    refine ⟨_, rfl, ?_⟩
    refine wpAny_letOwnedTupleGo_zip (s := { s with heap := h' }) a1 fun h2 hz2 hs2 => ?_
    have lt : ∀ {c : Addr} {o : Obj}, s.heap.get? c = some o → s.heap.objs.size ≠ c := fun e => Nat.ne_of_gt (Heap.lt_size e)
    have kk : ∀ c o, c ∉ [z, TO, i1, i2] → s.heap.get? c = some o → h2.get? c = some o := fun c o hm e => by
      simp only [List.mem_cons, List.not_mem_nil, or_false, not_or] at hm
      exact (hs2.2 c hm.1).trans (a7 c o hm.1 hm.2.1 hm.2.2.1 hm.2.2.2 e)
    have pT : h2.get? s.heap.objs.size = some { cls := .type "tuple", data := .seq #[u1, u2] } := (hs2.2 _ (lt s1)).trans a5
    have I2 : Inv X pins σ (upd H s.heap.objs.size (.tup [x, y])) { s with heap := h2 } := I.turnedN (t' := s.toks) (ch := [z, TO, i1, i2]) (p := s.heap.objs.size) (o := .tup [x, y]) (fun c hm => hf c (by
      simp only [List.mem_cons, List.not_mem_nil, or_false] at hm ⊢
      rcases hm with r | r | r | r <;> simp [r])) kk (Nat.le_refl _) ⟨(by show 2 ≤ sizeLine; decide), [u1, u2], .cons ru1 (.cons ru2 .nil), ⟨_, pT, rfl, _, rfl⟩⟩
    have fr : H s.heap.objs.size = none := I.fresh
    refine ⟨.ref s.heap.objs.size, _, I2, rfl, ⟨_, fr, rfl, fun xs' ys' x' y' q1 q2 q3 q4 => ?_⟩, ⟨hz2, ?_, ⟨_, _, (hs2.2 TO d2).trans a2⟩, a3.at fun o e => (hs2.2 i1 d3).trans e, a4.at fun o e => (hs2.2 i2 d4).trans e⟩, fun c hm => ?_⟩
    · rw [I.list_inj q1 hqa] at q3
      rw [I.list_inj q2 hqb] at q4
      rw [hx] at q3
      rw [hy] at q4
      cases q3
      cases q4
      rfl
    · exact kk TI _ (by simp only [List.mem_cons, List.not_mem_nil, or_false, not_or]; exact ⟨d1, d5, d6, d7⟩) s2
    · have hne : c ≠ s.heap.objs.size := by
        simp only [List.mem_cons, List.not_mem_nil, or_false] at hm
        rcases hm with rfl | rfl | rfl | rfl | rfl
        · exact (lt s1).symm
        · exact (lt s2).symm
        · exact (lt s3).symm
        · exact (lt q4).symm
        · exact (lt q5).symm
      rw [upd_ne hne]
      exact (hf c hm).1
  done := by
    intro X hP hw hK hc i pins s σ H E I hf st hg
    subst hP hw hK
    obtain ⟨xs, ys, hqa, hqb, hend⟩ := hg
    obtain ⟨s1, s2, ⟨u, v, s3⟩, s4, s5⟩ := st
    obtain ⟨its1, rv1, p1, z1⟩ := I.list hqa
    obtain ⟨its2, rv2, p2, z2⟩ := I.list hqb
    have e4 := s4
    have e5 := s5
    obtain ⟨o4, q4, c4, _⟩ := e4
    obtain ⟨o5, q5, c5, _⟩ := e5
    have n4 : o4.cls ≠ .type "list" := by rw [c4]; decide
    have n5 : o5.cls ≠ .type "list" := by rw [c5]; decide
    have D : ZipApart z TI TO i1 i2 a b := ⟨d1, d2, d3, d4, d5, d6, d7, d8, d9, d10,
      I.list_apart hqa s1 (show Value.type "zip" ≠ Value.type "list" by decide), I.list_apart hqa s3 (show Value.type "tuple" ≠ Value.type "list" by decide), I.list_apart hqa q4 n4, I.list_apart hqa q5 n5,
      I.list_apart hqb s1 (show Value.type "zip" ≠ Value.type "list" by decide), I.list_apart hqb s3 (show Value.type "tuple" ≠ Value.type "list" by decide), I.list_apart hqb q4 n4, I.list_apart hqb q5 n5⟩
    have l1 := rv1.length
    have l2 := rv2.length
    have hend' : its1.toArray[i]? = none ∨ its2.toArray[i]? = none := by
      rcases hend with r | r
      · exact .inl (Array.getElem?_eq_none (by rw [List.size_toArray]; omega))
      · exact .inr (Array.getElem?_eq_none (by rw [List.size_toArray]; omega))
    refine wpAny_pyNext_zip_end (I.ok.hd hc) D s1 s2 s3 s4 s5 p1.isList p2.isList hend' fun h' k => ⟨rfl, ?_⟩
    exact I.turnedK (t' := s.toks) (ch := [z, TO, i1, i2]) (fun c hm => hf c (by
      simp only [List.mem_cons, List.not_mem_nil, or_false] at hm ⊢
      rcases hm with r | r | r | r <;> simp [r])) fun c o hm e => by
        simp only [List.mem_cons, List.not_mem_nil, or_false, not_or] at hm
        exact k c o hm.1 hm.2.1 hm.2.2.1 hm.2.2.2 e
  self := fun _ _ _ _ _ st h => wpAny_pyIter_zip st.1 h
def iZip (K : PySem.W.Frag) (ta : TA) : TI := fun σ H R => ta σ H fun vs H1 => ∃ a b xs ys, vs = [.ref a, .ref b] ∧ SqL K H1 a xs ∧ SqL K H1 b ys ∧ R (Itz K a b) H1
section
variable {X : Cx}
theorem pi_zip {elts : List Expr} {k1 : Nat} {tp : Pos} {a b : Expr} {ta : TA} {p pos : Pos} (hg : Gl X "zip") (hm : X.mg "zip" = none) (ha : PA X [a, b] ta)
    (hs : starEach [a, b] X.env = [(false, eval a X.env), (false, eval b X.env)] := by rfl) (hs2 : starEach [b] X.env = [(false, eval b X.env)] := by rfl) : PI X (.Tuple elts k1 tp) (.Call (.Name "zip" p) [a, b] [] pos) (iZip X.K ta) := by
  intro pins s σ H R I h
  refine Call_ (ld_blt I hg hm boot_zip (PyProof.Rows.callWith_type1 (thn (ha pos pins s σ H _ I h) fun us s1 ⟨vs, H1, I1, r1, q1⟩ => ?_) (by rw [hs, hs2]) (by rw [hs2]; rfl)))
  obtain ⟨l1, l2, xs, ys, e, hq1, hq2, q⟩ := q1
  subst e
  obtain ⟨u1, u2, rfl, ru1, ru2⟩ := r1.two
  cases ru1
  cases ru2
  obtain ⟨its1, rv1, p1, z1⟩ := I1.list hq1
  obtain ⟨its2, rv2, p2, z2⟩ := I1.list hq2
  refine call_zip_2 p1.isList p2.isList fun h' a1 a2 a3 a4 a5 a6 a7 => ?_
  refine wpAny_pyIter_zip (s := { s1 with heap := h' }) a1 ?_
  have big : ∀ k : Nat, s1.heap.objs.size ≤ s1.heap.objs.size + k := fun k => Nat.le_add_right _ _
  refine ⟨_, [s1.heap.objs.size + 4, s1.heap.objs.size + 2, s1.heap.objs.size + 3, s1.heap.objs.size, s1.heap.objs.size + 1], _, _, H1, rfl, I1.kept (t' := s1.toks) fun c o e => a7 c o e,
    turn_zip l1 l2 _ _ _ _ _ (by simp) (by simp) (by simp) (by simp) (by simp) (by simp) (by simp) (by simp) (by simp) (by simp), ⟨a1, a2, ⟨_, _, a3⟩, a4, a5⟩, ?_, q⟩
  refine fpNew I1 (fun c hc => I1.hok.fresh hc) fun c hc => ?_
  simp only [List.mem_cons, List.not_mem_nil, or_false] at hc
  rcases hc with r | r | r | r | r <;> rw [r]
  · exact big 4
  · exact big 2
  · exact big 3
  · exact Nat.le_refl _
  · exact big 1
end

/-! ### V4. a comprehension of one clause -/
/-- the cells that the block takes along -/
def clGo (env : Env) : List (Str × NameKind) → List (Str × Addr) → List (Str × Addr)
  | [], acc => acc
  | (n, k) :: r, acc => clGo env r (if k == .free then (n, (env.cells.lookup n).getD 0) :: acc else acc)
theorem clGo_ok (env : Env) : ∀ (ns : List (Str × NameKind)) (acc : List (Str × Addr)), (∀ n, (n, NameKind.free) ∈ ns → ∃ c, env.cells.lookup n = some c) →
    (forIn ns acc (fun (x : Str × NameKind) (cs : List (Str × Addr)) => (if (x.2 == NameKind.free) = true then (do let c ← cellOf env x.1; pure (ForInStep.yield ((x.1, c) :: cs))) else pure (ForInStep.yield cs) : Sem (ForInStep (List (Str × Addr)))))) = (pure (clGo env ns acc) : Sem _)
  | [], acc, _ => rfl
  | (n, k) :: r, acc, h => by
    have ih := clGo_ok env r (if k == .free then (n, (env.cells.lookup n).getD 0) :: acc else acc) fun m hm => h m (List.mem_cons_of_mem _ hm)
    rw [List.forIn_cons]
    cases hk : (k == NameKind.free) with
    | false =>
      simp only [hk, Bool.false_eq_true, if_false, pure_bind] at ih ⊢
      rw [ih]
      show _ = (pure (clGo env r (if (k == NameKind.free) = true then _ else acc)) : Sem _)
      rw [hk]
      rfl
    | true =>
      have ek : k = .free := by simpa using hk
      obtain ⟨c, e⟩ := h n (by rw [ek]; exact List.mem_cons_self)
      have ec : cellOf env n = pure c := by unfold cellOf; rw [e]
      simp only [hk, if_true, ec, pure_bind, e, Option.getD_some] at ih ⊢
      rw [ih]
      show _ = (pure (clGo env r (if (k == NameKind.free) = true then (n, (env.cells.lookup n).getD 0) :: acc else acc)) : Sem _)
      rw [hk, e]
      rfl
theorem clGo_mem (env : Env) : ∀ (ns : List (Str × NameKind)) (acc : List (Str × Addr)), (∀ n, (n, NameKind.free) ∈ ns → ∃ c, env.cells.lookup n = some c) → (∀ p ∈ acc, env.cells.lookup p.1 = some p.2) → ∀ p ∈ clGo env ns acc, env.cells.lookup p.1 = some p.2
  | [], _, _, ha => ha
  | (n, k) :: r, acc, h, ha => by
    refine clGo_mem env r _ (fun m hm => h m (List.mem_cons_of_mem _ hm)) fun p hp => ?_
    cases hk : (k == NameKind.free) with
    | false =>
      rw [hk] at hp
      exact ha p hp
    | true =>
      have ek : k = .free := by simpa using hk
      obtain ⟨c, e⟩ := h n (by rw [ek]; exact List.mem_cons_self)
      rw [hk, e] at hp
      rcases List.mem_cons.mp hp with z | z
      · rw [z]
        exact e
      · exact ha p z
theorem clGo_has (env : Env) {x : Str} : ∀ (ns : List (Str × NameKind)) (acc : List (Str × Addr)), ((x, NameKind.free) ∈ ns ∨ ∃ c, (x, c) ∈ acc) → ∃ c, (x, c) ∈ clGo env ns acc
  | [], acc, h => by
    rcases h with h | h
    · cases h
    · exact h
  | (n, k) :: r, acc, h => by
    refine clGo_has env r _ ?_
    rcases h with h | ⟨c, h⟩
    · rcases List.mem_cons.mp h with z | z
      · cases z
        exact .inr ⟨_, List.mem_cons_self⟩
      · exact .inl z
    · refine .inr ⟨c, ?_⟩
      split
      · exact List.mem_cons_of_mem _ h
      · exact h
theorem lookup_of_memS {α : Type} {x : Str} : ∀ {l : List (Str × α)} {c : α}, (x, c) ∈ l → ∃ d, l.lookup x = some d
  | (n, d) :: r, c, h => by
    by_cases e : x = n
    · exact ⟨d, by rw [List.lookup_cons]; simp [e]⟩
    · have hb : (x == n) = false := beq_eq_false_iff_ne.mpr e
      rcases List.mem_cons.mp h with z | z
      · exact absurd (congrArg Prod.fst z) e
      · obtain ⟨d', q⟩ := lookup_of_memS z
        exact ⟨d', by rw [List.lookup_cons, hb]; exact q⟩
/-- what is asked of the two scopes: own: the block's own names; caps: the names that it takes along, with their slots outside -/
def compOk (N : List Str) (sc scope : Scope) (own : List Str) (caps : List (Str × Nat)) : Bool :=
  decide (scope.kind = .function) && scope.names.all (fun y => decide (y.2 ≠ .cell)) && scope.names.all (fun y => decide (y.2 = .local → scope.names.lookup y.1 = some .local)) &&
  scope.names.all (fun y => decide (y.2 = .free → (sc.names.lookup y.1 = some .cell ∨ sc.names.lookup y.1 = some .free))) &&
  caps.all (fun p => decide (N[p.2]? = some p.1 ∧ scope.names.lookup p.1 = some .free)) && decide (own ++ caps.map (·.1)).Nodup
def cxComp (X : Cx) (N : List Str) (scope : Scope) (C : Addr) (s₀ : Shared) (H₀ : Hp) (ex : List Addr) : Cx :=
  { X with N := N, s₀ := s₀, H₀ := H₀, env := compEnvC scope (clGo X.env scope.names []) C X.env, outer := X.stack, stack := X.stack, ex := ex, fn := fun _ => false, pn := [], xe := fun _ _ => False }
theorem relabel_out {scope : Scope} {env : Env} {x : Str} {k : NameKind} (hc : ∀ y ∈ scope.names, y.2 ≠ .cell) (h : (relabel scope env).names.lookup x = some k) (hk : k = .cell ∨ k = .free) : (x, NameKind.free) ∈ scope.names := by
  have hm := PySem.mem_of_lookup h
  obtain ⟨⟨n, k'⟩, h1, h2⟩ := List.mem_map.mp hm
  dsimp only at h2
  split at h2
  · rename_i c
    have ek : k' = .free := by
      simp only [Bool.and_eq_true] at c
      simpa using c.1.1
    cases h2
    rw [ek] at h1
    exact h1
  · cases h2
    rcases hk with z | z
    · exact absurd z (hc _ h1)
    · rw [z] at h1
      exact h1
structure CompS (N : List Str) (sc scope : Scope) (own : List Str) (caps : List (Str × Nat)) : Prop where
  kind : scope.kind = .function
  nocell : ∀ y ∈ scope.names, y.2 ≠ .cell
  loc : ∀ y ∈ scope.names, y.2 = .local → scope.names.lookup y.1 = some .local
  fre : ∀ y ∈ scope.names, y.2 = .free → (sc.names.lookup y.1 = some .cell ∨ sc.names.lookup y.1 = some .free)
  cap : ∀ p ∈ caps, N[p.2]? = some p.1 ∧ scope.names.lookup p.1 = some .free
  nd : (own ++ caps.map (·.1)).Nodup
theorem compS_of {N : List Str} {sc scope : Scope} {own : List Str} {caps : List (Str × Nat)} (h : compOk N sc scope own caps = true) : CompS N sc scope own caps := by
  simp only [compOk, Bool.and_eq_true, List.all_eq_true, decide_eq_true_eq] at h
  obtain ⟨⟨⟨⟨⟨h1, h2⟩, h3⟩, h4⟩, h5⟩, h6⟩ := h
  exact ⟨h1, h2, h3, h4, h5, h6⟩
/-- the values that it takes along -/
def capV (caps : List (Str × Nat)) (σ : St) : St := caps.map fun p => (σ[p.2]?).join
section
variable {X : Cx} {pins : List (Addr × Obj)} {σ : St} {H : Hp} {s : Shared} {scope : Scope} {own : List Str} {caps : List (Str × Nat)} {fp : List Addr}
theorem comp_fre (ok : X.Ok) (S : CompS X.N X.env.scope scope own caps) : ∀ n, (n, NameKind.free) ∈ scope.names → ∃ c, X.env.cells.lookup n = some c := fun n hn => ok.has n (S.fre _ hn rfl)
theorem comp_clos (ok : X.Ok) (S : CompS X.N X.env.scope scope own caps) : closureFor scope X.env = pure (clGo X.env scope.names []) := by
  unfold closureFor
  have q := clGo_ok X.env scope.names [] (comp_fre ok S)
  show (forIn scope.names [] _ >>= fun r => pure r) = _
  rw [bind_pure]
  exact q
theorem comp_cells (ok : X.Ok) (S : CompS X.N X.env.scope scope own caps) {x : Str} {c : Addr} (h : (clGo X.env scope.names []).lookup x = some c) : X.env.cells.lookup x = some c :=
  clGo_mem X.env scope.names [] (comp_fre ok S) (fun _ z => nomatch z) _ (PySem.mem_of_lookup h)
theorem comp_inv (I : Inv X pins σ H s) (S : CompS X.N X.env.scope scope own caps) (hf : ∀ b ∈ fp, FpOk X pins H b) (hb : ∀ b ∈ fp, b < s.heap.objs.size) {C : Addr} (hC : s.heap.objs.size ≤ C) {h₁ : Heap} {tk : Nat} {m : Str → Option Value}
    (hn : h₁.Ns C m) (kk : ∀ b o, s.heap.get? b = some o → h₁.get? b = some o) :
    Inv (cxComp X (own ++ caps.map (·.1)) scope C s H fp) [] (List.replicate own.length none ++ capV caps σ) H { s with heap := h₁, toks := tk } := by
  have ok := I.ok
  have cells := fun {x : Str} {c : Addr} => comp_cells (x := x) (c := c) ok S
  have keepC : ∀ {x : Str} {c : Addr} {v : Option Value}, s.heap.IsCell c v → h₁.IsCell c v := fun ⟨o, ho, hd⟩ => ⟨o, kk _ _ ho, hd⟩
  refine ⟨⟨ok.mod, S.kind, ok.glob, ok.blt, hC, fun x y c h1 h2 => ok.inj x y c (cells h1) (cells h2), fun x hx => ?_, (fun x c hx => nomatch hx), ok.hd, ok.frames, .inl rfl, fun b hb' => ⟨?_, fun x c e => ?_⟩, I.bs, Nat.le_trans ok.bsz I.sz, fun b o e hb' => ?_, fun b hb' hs => ?_, I.stack, I.stkFree⟩,
    rfl, I.bare, Un.kept kk, ⟨m, hn, fun i x v e1 e2 e3 => ?_⟩, fun x c e => ?_, I.hok.fresh hC, fun x c e => I.freeC x c (cells e), (fun p hp => nomatch hp), I.hok.kept kk, ?_⟩
  · have hm : (x, NameKind.free) ∈ scope.names := by
      rcases hx with z | z
      · exact relabel_out S.nocell z (.inl rfl)
      · exact relabel_out S.nocell z (.inr rfl)
    obtain ⟨c, hc⟩ := clGo_has X.env scope.names [] (.inl hm)
    exact lookup_of_memS hc
  · exact Nat.ne_of_lt (Nat.lt_of_lt_of_le (hb b hb') hC)
  · exact (hf b hb').2.2.2.2.1 x c (cells e)
  · rcases (hf b hb').2.2.2.1 with z | z
    · exact ok.noex b o e z
    · exact absurd (Nat.lt_of_lt_of_le (Heap.lt_size e) (Nat.le_trans ok.bsz z)) (Nat.lt_irrefl _)
  · rcases List.mem_cons.mp (I.stkSub b hs) with z | z
    · exact (hf b hb').2.1 z
    · exact (hf b hb').2.2.1 z
  · by_cases hi : i < own.length
    · rw [List.getElem?_append_left (by rw [List.length_replicate]; exact hi), List.getElem?_replicate, if_pos hi] at e2
      cases e2
    · have hi' : own.length ≤ i := Nat.le_of_not_lt hi
      have e1 : (own ++ caps.map (·.1))[i]? = some x := e1
      rw [List.getElem?_append_right hi', List.getElem?_map] at e1
      rw [List.getElem?_append_right (by rw [List.length_replicate]; exact hi'), List.length_replicate] at e2
      unfold capV at e2
      rw [List.getElem?_map] at e2
      cases ec : caps[i - own.length]? with
      | none => rw [ec] at e1; cases e1
      | some p =>
        rw [ec] at e1 e2
        have ex : p.1 = x := Option.some.inj e1
        have ev : (σ[p.2]?).join = some v := Option.some.inj e2
        have es : σ[p.2]? = some (some v) := by
          cases q : σ[p.2]? with
          | none => rw [q] at ev; cases ev
          | some w' => rw [q] at ev; exact congrArg some ev
        obtain ⟨c1, c2⟩ := S.cap p (List.mem_of_getElem? ec)
        rw [ex] at c1 c2
        have fm : (x, NameKind.free) ∈ scope.names := PySem.mem_of_lookup c2
        have vis : Vis X.env.scope x := by
          rcases S.fre _ fm rfl with z | z
          · exact .inr (.inl z)
          · exact .inr (.inr z)
        obtain ⟨m0, hn0, hl0⟩ := id I.loc
        obtain ⟨u, ru, lk⟩ := hl0 p.2 x v c1 es vis
        refine ⟨u, ru, .inr ⟨?_, ?_⟩⟩
        · have e3 : Vis (relabel scope X.env) x := e3
          rcases e3 with z | z | z
          · exfalso
            have hm := PySem.mem_of_lookup z
            obtain ⟨⟨n, k'⟩, h1, h2⟩ := List.mem_map.mp hm
            dsimp only at h2
            split at h2
            · cases h2
            · cases h2
              have := S.loc _ h1 rfl
              rw [c2] at this
              cases this
          · exact .inl z
          · exact .inr z
        · rcases lk with ⟨z, _⟩ | ⟨_, c, hc, hcell⟩
          · exfalso
            have z : X.env.scope.names.lookup x = some .local := z
            rcases S.fre _ fm rfl with z' | z' <;> rw [z] at z' <;> cases z'
          · obtain ⟨c', hc'⟩ := clGo_has X.env scope.names [] (.inl fm)
            obtain ⟨d, hd⟩ := lookup_of_memS hc'
            have := cells hd
            rw [hc] at this
            cases this
            exact ⟨c, hd, keepC (x := x) hcell⟩
  · obtain ⟨v, q⟩ := I.cell x c (cells e)
    exact ⟨v, keepC (x := x) q⟩
  · show (List.replicate own.length none ++ capV caps σ).length = (own ++ caps.map (·.1)).length
    unfold capV
    rw [List.length_append, List.length_append, List.length_replicate, List.length_map, List.length_map]
/-- back outside -/
theorem comp_back (I : Inv X pins σ H s) (hf : ∀ b ∈ fp, FpOk X pins H b) {C : Addr} {N : List Str} {σ' : St} {H' : Hp} {s' : Shared} {pins' : List (Addr × Obj)} (I' : Inv (cxComp X N scope C s H fp) pins' σ' H' s') : Inv X pins σ H' s' :=
  I.call' I'.os I'.base I'.hok I'.bare fun b hb => ⟨(hf b hb).2.2.2.1, (hf b hb).2.1, (hf b hb).2.2.2.2.1, (hf b hb).2.2.2.2.2⟩
end

/-- the tests of a clause -/
def PTs (X : Cx) (ifs : List Expr) (t : TT) : Prop :=
  ∀ (pins : List (Addr × Obj)) (s : Shared) (σ : St) (H : Hp) (Q : Bool → Hp → Prop), Inv X pins σ H s → t σ H Q →
    wpAny (model X.prog X.w) X.A (forIn ifs true fun c r => if r = true then do let ok ← isTrue c X.env (eval c X.env); pure (ForInStep.yield ok) else pure (ForInStep.yield r)) (TP X pins σ Q) X.xe s
def tYes : TT := fun _ H Q => Q true H
theorem pts_nil {X : Cx} : PTs X [] tYes := fun _ _ _ H _ I h => wpAny_tests_nil ⟨H, I, h⟩
theorem pts_one {X : Cx} {c : Expr} {t : TT} (h : PT X c t) : PTs X [c] t := fun pins s σ H Q I q => wpAny_tests_one (h pins s σ H Q I q)

theorem comp_loop {prog : Program} {w : World} {A : Around} {elt tg iter : Expr} {ifs : List Expr} {scope : Scope} {pos : Pos} {it acc : Value} {env : Env} {R : Result → Shared → Prop} {s : Shared} (J : Nat → Shared → Prop)
    (turn : ∀ n s, J n s → wpAny (model prog w) A (pyNext it) (fun r s₁ => match r with
      | none => R (.ok .next) s₁
      | some v => wpAny (model prog w) A (letOwnedTupleGo tg it v) (fun _ s₂ => wpAny (model prog w) A (assign tg env v) (fun _ s₃ =>
          wpAny (model prog w) A (forIn ifs true fun c r => if r = true then do let ok ← isTrue c env (eval c env); pure (ForInStep.yield ok) else pure (ForInStep.yield r)) (fun ok s₄ =>
            if ok = true then wpAny (model prog w) A (eval elt env) (fun x s₅ => wpAny (model prog w) A (call (.builtin "list.append") [acc, x]) (fun _ s₆ => ∃ m, m < n ∧ J m s₆) (fun _ _ => False) s₅) (fun _ _ => False) s₄
            else ∃ m, m < n ∧ J m s₄) (fun _ _ => False) s₃) (fun _ _ => False) s₂) (fun _ _ => False) s₁) (fun _ _ => False) s)
    (n : Nat) (h : J n s) : codeAny (model prog w) A (.compLoop (.ListComp elt [⟨tg, iter, ifs, 0⟩] scope pos) 0 it acc env) R s := by
  refine codeAny_loop rfl J (fun n s hJ => ?_) n h
  refine wpAny_noted (m := compTurn (.ListComp elt [⟨tg, iter, ifs, 0⟩] scope pos) 0 it acc env) ?_
  rw [compTurn_list]
  have ff : ∀ {E : Value → Shared → Prop} (e : Value) (s' : Shared), False → E e s' := fun _ _ f => f.elim
  refine wpAny_bind (wpAny_standAt (wpAny_bind (wpAny_mono (turn n s hJ) (fun r s₁ h₁ => ?_) ff)))
  cases r with
  | none => exact wpAny_pure h₁
  | some v =>
    refine wpAny_bind (wpAny_mono h₁ (fun _ s₂ h₂ => ?_) ff)
    refine wpAny_bind (wpAny_mono h₂ (fun _ s₃ h₃ => wpAny_bind (wpAny_mono h₃ (fun b s₄ h₄ => ?_) ff)) ff)
    cases b with
    | false => exact wpAny_pure ⟨rfl, h₄⟩
    | true =>
      refine wpAny_bind (wpAny_bind (wpAny_mono h₄ (fun x s₅ h₅ => wpAny_bind (wpAny_mono h₅ (fun _ s₆ h₆ => ?_) ff)) ff))
      exact wpAny_pure (wpAny_pure ⟨rfl, h₆⟩)

/-- THE READING: W i m ys H: ahead of turn i, with the measure m, the list at D holds ys -/
def tCompG (k : Nat) (J : It) (g : TG) (tt : TT) (te : TE) (tl : St) (D : Addr) (Q : Hp → Prop) (W : Nat → Nat → List V → Hp → Prop) : Prop :=
  ∀ i m ys H, W i m ys H → H D = some (.lst ys) → (J.stop i H ∧ Q H) ∨
    (J.go i H ∧ ∃ N : List V → Hp → Prop, (∀ ys' H', N ys' H' → ∃ m', m' < m ∧ W (i + 1) m' ys' H') ∧ ∀ x H1, J.yld i H x H1 → g x (List.replicate k none ++ tl) H1 fun σ2 H2 => (σ2.length = k + tl.length ∧ σ2.drop k = tl) ∧
      tt σ2 H2 fun b H3 => if b = true then te σ2 H3 fun v H4 => H4 D = some (.lst ys) ∧ ys.length < sizeLine ∧ N (ys ++ [v]) (upd H4 D (.lst (ys ++ [v])))
        else H3 D = some (.lst ys) ∧ N ys H3)
def tComp (own : List Str) (caps : List (Str × Nat)) (wi : TI) (g : TG) (tt : TT) (te : TE) : TE := fun σ H Q => wi σ H fun J H1 => ∀ D, H1 D = none →
  ∃ W : Nat → Nat → List V → Hp → Prop, (∃ m, W 0 m [] (upd H1 D (.lst []))) ∧ tCompG own.length J g tt te (capV caps σ) D (fun H' => Q (.ref D) H') W

section
variable {X : Cx} {tg iter elt : Expr} {ifs : List Expr} {scope : Scope} {pos : Pos} {own : List Str} {caps : List (Str × Nat)} {wi : TI} {g : TG} {tt : TT} {te : TE}
theorem comp_block (S : CompS X.N X.env.scope scope own caps) (hc : X.calm = true)
    (hg : ∀ C s₀ H₀ ex, PG (cxComp X (own ++ caps.map (·.1)) scope C s₀ H₀ ex) tg g) (ht : ∀ C s₀ H₀ ex, PTs (cxComp X (own ++ caps.map (·.1)) scope C s₀ H₀ ex) ifs tt) (he : ∀ C s₀ H₀ ex, PE (cxComp X (own ++ caps.map (·.1)) scope C s₀ H₀ ex) elt te)
    {pins : List (Addr × Obj)} {σ : St} {H : Hp} {s : Shared} (I : Inv X pins σ H s) {it : Addr} {fp : List Addr} {tn : Nat → Heap → Prop} {J : It} (T : Turn X.prog X.w X.K tg J fp it tn) (st : tn 0 s.heap) (hf : ∀ b ∈ fp, FpOk X pins H b) {Q : VK}
    (hR : ∀ D, H D = none → ∃ W : Nat → Nat → List V → Hp → Prop, (∃ m, W 0 m [] (upd H D (.lst []))) ∧ tCompG own.length J g tt te (capV caps σ) D (fun H' => Q (.ref D) H') W)
    {RR : Value → Addr → Result → Shared → Prop} {E : Value → Shared → Prop}
    (hRR : ∀ D C m H' s', Inv X pins σ H' s' → s'.heap.Ns C m → FpOk X pins H' C → Q (.ref D) H' → RR (.ref D) C (.ok .next) s') :
    wpAny (model X.prog X.w) X.A (newList []) (fun acc s₃ => wpAny (model X.prog X.w) X.A (newFunctionEnv scope X.env.globals (clGo X.env scope.names []) [] X.env.qual none .none (some X.env)) (fun cenv s₄ =>
      codeAny (model X.prog X.w) X.A (.compStart (.ListComp elt [⟨tg, iter, ifs, 0⟩] scope pos) 0 (.ref it) acc { cenv with scope := relabel scope X.env }) (RR acc cenv.locals) s₄) E s₃) E s := by
  refine wpAny_newObj_type (wpAny_newFunctionEnv S.nocell (fun y hy => nomatch hy) (fun h₁ hns hsb => ?_) S.kind)
  have I3 : Inv X pins σ (upd H s.heap.objs.size (.lst [])) { s with heap := s.heap.push { cls := .type "list", data := .seq ([] : List Value).toArray }, toks := s.toks } := I.lnew (ys := []) (its := []) .nil (Nat.zero_le _)
  have hob := T.obj 0 _ st
  have hlt : ∀ b ∈ fp, b < s.heap.objs.size := fun b hb => let ⟨o, e, _⟩ := hob b hb; Heap.lt_size e
  have hf3 : ∀ b ∈ fp, FpOk X pins (upd H s.heap.objs.size (.lst [])) b := fun b hb => ⟨by rw [upd_ne (Nat.ne_of_lt (hlt b hb))]; exact (hf b hb).1, (hf b hb).2⟩
  have hlt3 : ∀ b ∈ fp, b < (s.heap.push { cls := .type "list", data := .seq ([] : List Value).toArray }).objs.size := fun b hb => by rw [Heap.size_push]; exact Nat.lt_succ_of_lt (hlt b hb)
  generalize hD : s.heap.objs.size = D at I3 hf3
  generalize hs3 : s.heap.push { cls := .type "list", data := .seq ([] : List Value).toArray } = h3 at I3 hlt3 hns hsb
  have kk : ∀ b o, h3.get? b = some o → h₁.get? b = some o := fun b o e => (hsb.2 b (Nat.ne_of_lt (Heap.lt_size e))).trans (Heap.get?_push_of_some _ e)
  have st1 : tn 0 h₁ := T.keep _ _ _ st fun b hb o e => kk b o (by rw [← hs3]; exact Heap.get?_push_of_some _ e)
  obtain ⟨W, ⟨m0, w0⟩, turn⟩ := hR D (by rw [← hD]; exact I.fresh)
  have I4 := comp_inv (tk := s.toks + 0) I3 S hf3 hlt3 (Nat.le_refl _) hns kk
  have frp : ∀ b ∈ fp, (upd H D (.lst [])) b = none := fun b hb => (hf3 b hb).1
  have loop : codeAny (model X.prog X.w) X.A (.compLoop (.ListComp elt [⟨tg, iter, ifs, 0⟩] scope pos) 0 (.ref it) (.ref D) (compEnvC scope (clGo X.env scope.names []) h3.objs.size X.env)) (RR (.ref D) h3.objs.size) { s with heap := h₁, toks := s.toks + 0 } := by
    refine comp_loop (fun n s' => ∃ i ys H', Inv (cxComp X (own ++ caps.map (·.1)) scope h3.objs.size { s with heap := h3, toks := s.toks } (upd H D (.lst [])) fp) [] (List.replicate own.length none ++ capV caps σ) H' s' ∧ tn i s'.heap ∧ (∀ b ∈ fp, H' b = none) ∧ H' D = some (.lst ys) ∧ W i n ys H') ?_ m0
      ⟨0, [], _, I4, st1, frp, upd_same, w0⟩
    rintro n s5 ⟨i, ys, H5, I5, st5, fr5, hD5, w5⟩
    have stat : ∀ {H' : Hp}, (∀ b ∈ fp, H' b = none) → ∀ b ∈ fp, FpOk (cxComp X (own ++ caps.map (·.1)) scope h3.objs.size { s with heap := h3, toks := s.toks } (upd H D (.lst [])) fp) [] H' b := fun hn b hb =>
      ⟨hn b hb, (I4.ok.exf b hb).1, I4.ok.exfs b hb, .inl hb, (I4.ok.exf b hb).2, fun p hp => nomatch hp⟩
    rcases turn i n ys H5 w5 hD5 with ⟨stop, qn⟩ | ⟨go, N, hN, step⟩
    · refine thn (T.done (cxComp X (own ++ caps.map (·.1)) scope h3.objs.size { s with heap := h3, toks := s.toks } (upd H D (.lst [])) fp) rfl rfl rfl hc i [] s5 _ H5 _ I5 (stat fr5) st5 stop) fun r s6 ⟨hr, I6⟩ => ?_
      subst hr
      obtain ⟨m6, hn6, _⟩ := id I6.loc
      exact hRR D _ m6 H5 s6 (comp_back I3 hf3 I6) hn6 (I3.fpOk (Nat.le_refl _) I6.free) qn
    · refine thn (T.item (cxComp X (own ++ caps.map (·.1)) scope h3.objs.size { s with heap := h3, toks := s.toks } (upd H D (.lst [])) fp) rfl rfl rfl hc i [] s5 _ H5 _ I5 (stat fr5) st5 go) fun r s6 ⟨u, hr, h6⟩ => ?_
      subst hr
      refine thn h6 fun _ s7 ⟨x, H7, I7, r7, y7, st7, fr7⟩ => ?_
      have I7' := I7.pinned (stat fr7) (T.obj _ _ st7)
      refine thn (hg _ _ _ _ _ s7 _ H7 x u _ I7' r7 (step x H7 y7)) fun _ s8 ⟨σ8, H8, I8, ⟨hl8, hd8⟩, q8⟩ => ?_
      have again : ∀ {H9 : Hp} {s9 : Shared} {ys9 : List V}, Inv (cxComp X (own ++ caps.map (·.1)) scope h3.objs.size { s with heap := h3, toks := s.toks } (upd H D (.lst [])) fp) ([] ++ pinsAt fp s7.heap) σ8 H9 s9 → H9 D = some (.lst ys9) → N ys9 H9 →
          ∃ m, m < n ∧ ∃ i ys H', Inv (cxComp X (own ++ caps.map (·.1)) scope h3.objs.size { s with heap := h3, toks := s.toks } (upd H D (.lst [])) fp) [] (List.replicate own.length none ++ capV caps σ) H' s9 ∧ tn i s9.heap ∧ (∀ b ∈ fp, H' b = none) ∧ H' D = some (.lst ys) ∧ W i m ys H' := fun {H9 s9 ys9} I9 d9 w9 => by
        obtain ⟨m', hm, w9⟩ := hN _ _ w9
        have pin := fun b (hb : b ∈ fp) o (e : s7.heap.get? b = some o) => I9.pin (b, o) (List.mem_append_right _ (List.mem_append_right _ (mem_pinsAt hb e)))
        refine ⟨m', hm, i + 1, ys9, H9, (I9.unpinned (pins := [])).weak ?_ fun j v e => ?_, T.keep _ _ _ st7 fun b hb o e => (pin b hb o e).1, fun b hb => ?_, d9, w9⟩
        · rw [hl8, List.length_append, List.length_replicate]
        · by_cases hj : j < own.length
          · rw [List.getElem?_append_left (by rw [List.length_replicate]; exact hj), List.getElem?_replicate, if_pos hj] at e
            cases e
          · rw [List.getElem?_append_right (by rw [List.length_replicate]; exact Nat.le_of_not_lt hj), List.length_replicate, ← hd8, List.getElem?_drop] at e
            rw [show own.length + (j - own.length) = j by omega] at e
            exact e
        · obtain ⟨o, e, d⟩ := T.obj _ _ st7 b hb
          exact (pin b hb o e).2.1
      refine thn (ht _ _ _ _ _ s8 σ8 H8 _ I8 q8) fun b s9 ⟨H9, I9, q9⟩ => ?_
      cases b with
      | false =>
        rw [if_neg Bool.false_ne_true] at q9 ⊢
        exact again I9 q9.1 q9.2
      | true =>
        rw [if_pos rfl] at q9 ⊢
        refine thn (he _ _ _ _ _ s9 σ8 H9 _ I9 q9) fun v s10 ⟨y, H10, I10, r10, d10, z10, w10⟩ => ?_
        refine thn (mt_append _ s10 σ8 H10 (.ref D) [y] (.ref D) [v] (fun _ H' => H' = upd H10 D (.lst (ys ++ [y]))) I10 rfl (.cons r10 .nil) ⟨D, ys, y, rfl, rfl, d10, z10, rfl⟩) fun _ s11 ⟨_, H11, I11, _, e11⟩ => ?_
        subst e11
        exact again I11 upd_same w10
  have e0 : ({ s with heap := h₁, toks := s.toks + ([] : List (Str × Value)).length } : Shared) = { s with heap := h₁, toks := s.toks + 0 } := rfl
  exact codeAny_compStart_list loop (T.self _ 0 _ _ _ st1 loop)

theorem pe_comp (own : List Str) (caps : List (Str × Nat)) (hi : PI X tg iter wi) (hc : X.calm = true)
    (hg : ∀ C s₀ H₀ ex, PG (cxComp X (own ++ caps.map (·.1)) scope C s₀ H₀ ex) tg g) (ht : ∀ C s₀ H₀ ex, PTs (cxComp X (own ++ caps.map (·.1)) scope C s₀ H₀ ex) ifs tt) (he : ∀ C s₀ H₀ ex, PE (cxComp X (own ++ caps.map (·.1)) scope C s₀ H₀ ex) elt te)
    (hS : compOk X.N X.env.scope scope own caps = true := by kernel_rfl) (hs : ∀ x, foldedSetIterable iter X.env x = pure x := by intro _; rfl) :
    PE X (.ListComp elt [⟨tg, iter, ifs, 0⟩] scope pos) (tComp own caps wi g tt te) := by
  intro pins s σ H Q I h
  have S := compS_of hS
  rw [eval_ListComp]
  refine wpAny_comprehension_free (use := none) rfl hs (comp_clos I.ok S) S.kind S.loc (thn (hi pins s σ H _ I h) fun v s1 h1 => thn h1 fun itv s2 h2 => ?_)
  obtain ⟨it, fp, tn, J, H2, e, I2, T, st2, f2, hR⟩ := h2
  subst e
  refine comp_block S hc hg ht he I2 T st2 f2 (Q := Q) hR fun D C m H' s' I' hn hC q => ?_
  refine ⟨m, hn, fun h' hs' => ?_⟩
  exact ⟨.ref D, H', I'.turnedK (t' := s'.toks) (ch := [C]) (fun b hb => by rw [show b = C by simpa using hb]; exact hC) fun b o hb e => (hs'.2 b (by simpa using hb)).trans e, rfl, q⟩
theorem ps_setComp {y : Str} {py spos : Pos} (j : Nat) (own : List Str) (caps : List (Str × Nat)) (hN : X.N.Nodup) (hi : PI X tg iter wi) (hc : X.calm = true)
    (hg : ∀ C s₀ H₀ ex, PG (cxComp X (own ++ caps.map (·.1)) scope C s₀ H₀ ex) tg g) (ht : ∀ C s₀ H₀ ex, PTs (cxComp X (own ++ caps.map (·.1)) scope C s₀ H₀ ex) ifs tt) (he : ∀ C s₀ H₀ ex, PE (cxComp X (own ++ caps.map (·.1)) scope C s₀ H₀ ex) elt te)
    (hj : X.N[j]? = some y := by rfl) (hy : Loc X.env.scope y := by first | exact Or.inl rfl | exact Or.inr rfl)
    (hsw : swapsWith (.ListComp elt [⟨tg, iter, ifs, 0⟩] scope pos) (some (.Name y py)) spos.line X.env = pure true := by rfl)
    (hS : compOk X.N X.env.scope scope own caps = true := by kernel_rfl) (hs : ∀ x, foldedSetIterable iter X.env x = pure x := by intro _; rfl) (hf : X.fn y = true ∨ X.env.scope.names.lookup y = some .local := by first | exact .inl rfl | exact .inr rfl) :
    PS X (.Assign [.Name y py] (.ListComp elt [⟨tg, iter, ifs, 0⟩] scope pos) spos) (tAsg (tComp own caps wi g tt te) (gName j)) := by
  intro pins s σ H D0 I h
  have S := compS_of hS
  rw [exec_Assign_Name_used _ _ _ _ hsw]
  refine wpAny_bind (wpAny_standAt (wpAny_bind ?_))
  refine wpAny_mono (t := do let _ ← comprehension (.ListComp elt [⟨tg, iter, ifs, 0⟩] scope pos) scope X.env (firstIterPos [⟨tg, iter, ifs, 0⟩] pos) (newList []) false (eval iter X.env) (some (assign (.Name y py) X.env))) (Q := fun _ s' => SP X pins D0 .next s') ?_ (fun _ s' q => wpAny_pure q) fun _ _ q => q
  refine wpAny_bind (wpAny_mono (wpAny_comprehension_free (use := some (assign (.Name y py) X.env)) (Q := fun _ s' => SP X pins D0 .next s') rfl hs (comp_clos I.ok S) S.kind S.loc
    (thn (hi pins s σ H _ I h) fun v s1 h1 => thn h1 fun itv s2 h2 => ?_)) (fun _ s' q => wpAny_pure q) fun _ _ q => q)
  obtain ⟨it, fp, tn, J, H2, e, I2, T, st2, f2, hR⟩ := h2
  subst e
  refine comp_block S hc hg ht he I2 T st2 f2 (Q := fun x H1 => gName j x σ H1 D0.nx) hR fun D C m H' s' I' hn hC q => ?_
  refine wpAny_assign_Name (store_ok2 I' hN hj hy (v := .ref D) (u := .ref D) rfl (fun s5 I5 ⟨a, sb, ha⟩ => ?_) hf)
  have hCa : C ≠ a := by
    rcases ha with z | z
    · rw [z]; exact hC.2.1
    · exact fun e => hC.2.2.2.2.1 y a z e.symm
  refine ⟨m, hn.sameBut sb hCa, fun h' hs' => ?_⟩
  refine ⟨_, H', I5.turnedK (t' := s5.toks) (ch := [C]) (fun b hb => by rw [show b = C by simpa using hb]; exact hC) fun b o hb e => (hs'.2 b (by simpa using hb)).trans e, q⟩
end
end L2

namespace L2
open PySem PySem.Spec PyProof.Rows

/-! ### V5. calls in short: a def of the text with its promise -/
def Ok (P : Program) (w : World) (K : PySem.W.Frag) (mg : Str → Option Value) (base : Heap) (CX : CXT) (k : Nat) (x : Str) (ps : List Str) (sp : Sp) : Prop :=
  ∃ f fd, FnOk P w K mg base CX k f fd ps sp ∧ Binds K fd ps [] ∧ PySem.W.keepIn K (.ref f) = true ∧ mg x = some (.ref f)
def Src (K : PySem.W.Frag) (mg : Str → Option Value) (x qual : Str) (st : Stmt) (ps : List Str) : Prop := ∃ f fd, Fun K x qual st f fd ∧ Binds K fd ps [] ∧ mg x = some (.ref f)
section
variable {P : Program} {w : World} {K : PySem.W.Frag} {mg : Str → Option Value} {base : Heap}
theorem Src.ok {x qual : Str} {st : Stmt} {N ps : List Str} {k : Nat} {sp : Sp} (F : Src K mg x qual st ps) (S : FnScope N ps (defScope st)) (len : ∀ vs H Q E, sp vs H Q E → vs.length = ps.length)
    (hbody : ∀ (f : Addr) (cdv : Value) (A : Around) (outer : List Env) (s : Shared) (H : Hp) (vs : List V) (Q : VK) (E : XK), Room k (A.deeper (envOfC qual (defScope st) s.heap.objs.size f cdv)) → sp vs H Q E →
      ∃ t, PSs (cxOf CX0 P w K mg base N qual (defScope st) f cdv A outer s H E).nox (defBody st) t ∧ t { nx := fun _ H' => Q .non H', rt := Q } (start N vs) H) : Ok P w K mg base CX0 (k + 1) x ps sp := by
  obtain ⟨f, fd, F, b, m⟩ := F
  exact ⟨f, fd, F.ok S len fun cdv A outer s H vs Q E hr hsp => hbody f cdv A outer s H vs Q E hr hsp, b, F.kp, m⟩
theorem Ok.imp {CX : CXT} {k : Nat} {x : Str} {ps : List Str} {sp sp' : Sp} (O : Ok P w K mg base CX k x ps sp) (h : ∀ vs H Q E, sp' vs H Q E → sp vs H Q E) : Ok P w K mg base CX k x ps sp' :=
  let ⟨f, fd, F, b, kp, m⟩ := O
  ⟨f, fd, F.imp h, b, kp, m⟩
/-- a class with its __init__ -/
def MkOk (P : Program) (w : World) (K : PySem.W.Frag) (mg : Str → Option Value) (base : Heap) (CX : CXT) (k : Nat) (x : Str) (C : Addr) (ps : List Str) (sp : Sp) : Prop :=
  ∃ f fd, Mk K C f ∧ FnOk P w K mg base CX k f fd ps sp ∧ Binds K fd ps [] ∧ mg x = some (.ref C)
end
section
variable {X : Cx} {CX : CXT} {k j : Nat} {x : Str} {p pos : Pos} {e : Expr} {es : List Expr} {t : TA} {ps : List Str} {sp : Sp} {C : Addr}
theorem pe_callO (O : Ok X.prog X.w X.K X.mg X.base CX0 k x ps sp) (hr : Room j X.A) (hg : Gl X x) (ha : PA X (e :: es) t) (hle : k ≤ j := by decide) (hdb : (x == ("__debug__" : Str)) = false := by decide)
    (he : starEach (e :: es) X.env = (false, eval e X.env) :: starEach es X.env := by rfl) (hpl : (backTo pos (starEach es X.env)).any (·.1) = false := by rfl) : PE X (.Call (.Name x p) (e :: es) [] pos) (tCall sp [] E0 t) := by
  obtain ⟨f, fd, F, b, kp, m⟩ := O
  exact pe_call F (hr.mono hle) hg m kp b .nil pass0 ha hdb he hpl
theorem pe_makeO (O : MkOk X.prog X.w X.K X.mg X.base CX0 k x C ps sp) (hr : Room j X.A) (hg : Gl X x) (ha : PA X (e :: es) t) (hle : k + 1 ≤ j := by decide) (hdb : (x == ("__debug__" : Str)) = false := by decide)
    (he : starEach (e :: es) X.env = (false, eval e X.env) :: starEach es X.env := by rfl) (hpl : (backTo pos (starEach es X.env)).any (·.1) = false := by rfl) : PE X (.Call (.Name x p) (e :: es) [] pos) (tMake C sp [] E0 t) := by
  obtain ⟨f, fd, M, F, b, m⟩ := O
  exact pe_make M F (hr.mono hle) hg m b .nil pass0 ha hdb he hpl
end

/-! ### V6. more built-ins -/
section
variable {X : Cx}
theorem pe_ty {x : Str} {T : String} {pos : Pos} (hg : Gl X x) (hm : X.mg x = none) (hv : bootBuiltins x = some (.type T)) (hn : x ≠ "__name__" := by decide) (hdb : (x == ("__debug__" : Str)) = false := by decide) : PE X (.Name x pos) (tC (.ty T)) :=
  pe_bltn hg hm hv rfl hn hdb
def tyV? : V → Option Value
  | .ty T => some (.type T)
  | .ref C => some (.ref C)
  | _ => none
theorem call_isinst : CallR X (.builtin "isinstance") (fun xs H Q => ∃ x c t v b, xs = [x, c] ∧ TyOf X.K H x t ∧ tyV? c = some v ∧ PySem.W.kitOne X.K t v = some b ∧ Q (.bl b) H) := by
  intro pins s σ H xs us Q I r h
  obtain ⟨x, c, t, v, b, rfl, ty, hc, hk, q⟩ := h
  obtain ⟨u1, u2, rfl, r1, r2⟩ := r.two
  have e2 : u2 = v := by
    cases c with
    | ty T => cases hc; exact r2
    | ref C => cases hc; exact r2
    | _ => cases hc
  subst e2
  exact isinst_ok I r1 ty hk fun tk => ⟨.bl b, H, I.tok tk, rfl, q⟩
theorem kit_int_int (K : PySem.W.Frag) : PySem.W.kitOne K (.type "int") (.type "int") = some true := by kernel_rfl
theorem kit_int_bool (K : PySem.W.Frag) : PySem.W.kitOne K (.type "int") (.type "bool") = some false := by kernel_rfl
theorem kit_list_list (K : PySem.W.Frag) : PySem.W.kitOne K (.type "list") (.type "list") = some true := by kernel_rfl
theorem kit_tuple_tuple (K : PySem.W.Frag) : PySem.W.kitOne K (.type "tuple") (.type "tuple") = some true := by kernel_rfl
theorem op_eqL (hu : X.A.units + 64 < cLine) : OpR X (compareOp .Eq) (fun x y H Q => ∃ (a b : Addr) (ns ms : List Int), x = .ref a ∧ y = .ref b ∧ SqL X.K H a (ns.map V.int) ∧ SqL X.K H b (ms.map V.int) ∧ Q (.bl (decide (ns = ms))) H) := by
  intro pins s σ H x y v u Q I rx ry h
  obtain ⟨a, b, ns, ms, rfl, rfl, ha, hb, q⟩ := h
  cases rx
  cases ry
  obtain ⟨i1, r1, p1, z1⟩ := I.list ha
  obtain ⟨i2, r2, p2, z2⟩ := I.list hb
  exact PySem.W.ke_eq_ints p1.isList p2.isList (intsAre_of r1) (intsAre_of r2) hu ⟨.bl _, H, I, rfl, q⟩
theorem op_neL (hu : X.A.units + 64 < cLine) : OpR X (compareOp .NotEq) (fun x y H Q => ∃ (a b : Addr) (ns ms : List Int), x = .ref a ∧ y = .ref b ∧ SqL X.K H a (ns.map V.int) ∧ SqL X.K H b (ms.map V.int) ∧ Q (.bl (!decide (ns = ms))) H) := by
  intro pins s σ H x y v u Q I rx ry h
  obtain ⟨a, b, ns, ms, rfl, rfl, ha, hb, q⟩ := h
  cases rx
  cases ry
  obtain ⟨i1, r1, p1, z1⟩ := I.list ha
  obtain ⟨i2, r2, p2, z2⟩ := I.list hb
  exact PySem.W.ke_ne_ints p1.isList p2.isList (intsAre_of r1) (intsAre_of r2) hu ⟨.bl _, H, I, rfl, q⟩
end

/-! ### V7. the forms one uses -/
theorem for_rev {K : PySem.W.Frag} {a : Addr} {xs : List V} {g : TG} {tb : TS} {D : Ends} {σ : St} {H : Hp} (Pv : Nat → St → Hp → Prop) (h0 : Pv 0 σ H) (hl : ∀ i σ H, i ≤ xs.length → Pv i σ H → SqL K H a xs)
    (hs : ∀ i x σ H, xs[xs.length - 1 - i]? = some x → i < xs.length → Pv i σ H → g x σ H fun σ2 H2 => tb { D with nx := Pv (i + 1), ct := Pv (i + 1), bk := D.nx } σ2 H2) (hd : ∀ σ H, Pv xs.length σ H → D.nx σ H) :
    ∃ W : Nat → Nat → St → Hp → Prop, (∃ m, W 0 m σ H) ∧ ∀ i m σ H, W i m σ H →
      ((Itrev K a xs.length).stop i H ∧ D.nx σ H) ∨ ((Itrev K a xs.length).go i H ∧ ∃ N : St → Hp → Prop, (∀ σ' H', N σ' H' → ∃ m', m' < m ∧ W (i + 1) m' σ' H') ∧ ∀ x H', (Itrev K a xs.length).yld i H x H' → g x σ H' fun σ2 H2 => tb { D with nx := N, ct := N, bk := D.nx } σ2 H2) := by
  refine ⟨fun i m σ H => m = xs.length - i ∧ i ≤ xs.length ∧ Pv i σ H, ⟨xs.length, by simp, Nat.zero_le _, h0⟩, ?_⟩
  rintro i m σ H ⟨rfl, hi, p⟩
  by_cases hlt : i < xs.length
  · refine .inr ⟨⟨hlt, xs, hl i σ H hi p, rfl⟩, Pv (i + 1), fun σ' H' p' => ⟨xs.length - (i + 1), by omega, rfl, hlt, p'⟩, fun x H' y => ?_⟩
    obtain ⟨e, y⟩ := y
    subst e
    exact hs i x σ _ (y xs (hl i σ _ hi p) rfl) hlt p
  · have e : i = xs.length := by omega
    exact .inl ⟨e, hd σ H (by rw [← e]; exact p)⟩
/-- a comprehension over a range: Pv i ys H ahead of turn i -/
theorem comp_range {k : Nat} {lo : Int} {n : Nat} {g : TG} {tt : TT} {te : TE} {tl : St} {D : Addr} {Q : Hp → Prop} {H0 : Hp} (Pv : Nat → List V → Hp → Prop) (h0 : Pv 0 [] (upd H0 D (.lst [])))
    (hs : ∀ i ys H, i < n → Pv i ys H → H D = some (.lst ys) → g (.int (lo + i)) (List.replicate k none ++ tl) H fun σ2 H2 => (σ2.length = k + tl.length ∧ σ2.drop k = tl) ∧
      tt σ2 H2 fun b H3 => if b = true then te σ2 H3 fun v H4 => H4 D = some (.lst ys) ∧ ys.length < sizeLine ∧ Pv (i + 1) (ys ++ [v]) (upd H4 D (.lst (ys ++ [v]))) else H3 D = some (.lst ys) ∧ Pv (i + 1) ys H3)
    (hd : ∀ ys H, Pv n ys H → H D = some (.lst ys) → Q H) :
    ∃ W : Nat → Nat → List V → Hp → Prop, (∃ m, W 0 m [] (upd H0 D (.lst []))) ∧ tCompG k (Itr lo n) g tt te tl D Q W := by
  refine ⟨fun i m ys H => m = n - i ∧ i ≤ n ∧ Pv i ys H, ⟨n, by simp, Nat.zero_le _, h0⟩, ?_⟩
  rintro i m ys H ⟨rfl, hi, p⟩ hD
  by_cases hlt : i < n
  · refine .inr ⟨hlt, Pv (i + 1), fun ys' H' q => ⟨n - (i + 1), by omega, rfl, hlt, q⟩, fun x H1 y => ?_⟩
    obtain ⟨e, y⟩ := y
    subst e y
    exact hs i ys _ hlt p hD
  · have e : i = n := by omega
    exact .inl ⟨Nat.le_of_not_lt hlt, hd ys H (by rw [← e]; exact p) hD⟩
/-- .. over a list -/
theorem comp_list {K : PySem.W.Frag} {a : Addr} {xs : List V} {k : Nat} {g : TG} {tt : TT} {te : TE} {tl : St} {D : Addr} {Q : Hp → Prop} {H0 : Hp} (Pv : Nat → List V → Hp → Prop) (h0 : Pv 0 [] (upd H0 D (.lst []))) (hl : ∀ i ys H, i ≤ xs.length → Pv i ys H → SqL K H a xs)
    (hs : ∀ i x ys H, xs[i]? = some x → Pv i ys H → H D = some (.lst ys) → g x (List.replicate k none ++ tl) H fun σ2 H2 => (σ2.length = k + tl.length ∧ σ2.drop k = tl) ∧
      tt σ2 H2 fun b H3 => if b = true then te σ2 H3 fun v H4 => H4 D = some (.lst ys) ∧ ys.length < sizeLine ∧ Pv (i + 1) (ys ++ [v]) (upd H4 D (.lst (ys ++ [v]))) else H3 D = some (.lst ys) ∧ Pv (i + 1) ys H3)
    (hd : ∀ ys H, Pv xs.length ys H → H D = some (.lst ys) → Q H) :
    ∃ W : Nat → Nat → List V → Hp → Prop, (∃ m, W 0 m [] (upd H0 D (.lst []))) ∧ tCompG k (Itl K a) g tt te tl D Q W := by
  refine ⟨fun i m ys H => m = xs.length - i ∧ i ≤ xs.length ∧ Pv i ys H, ⟨xs.length, by simp, Nat.zero_le _, h0⟩, ?_⟩
  rintro i m ys H ⟨rfl, hi, p⟩ hD
  have q := hl i ys H hi p
  by_cases hlt : i < xs.length
  · refine .inr ⟨⟨xs, xs[i], q, by simp [hlt]⟩, Pv (i + 1), fun ys' H' q' => ⟨xs.length - (i + 1), by omega, rfl, hlt, q'⟩, fun x H1 y => ?_⟩
    obtain ⟨e, y⟩ := y
    subst e
    exact hs i x ys _ (y xs q) p hD
  · have e : i = xs.length := by omega
    subst e
    exact .inl ⟨⟨xs, q, Nat.le_refl _⟩, hd ys H p hD⟩
/-- .. over the pairs of two lists -/
theorem comp_zip {K : PySem.W.Frag} {a b : Addr} {xs zs : List V} {k : Nat} {g : TG} {tt : TT} {te : TE} {tl : St} {D : Addr} {Q : Hp → Prop} {H0 : Hp} (Pv : Nat → List V → Hp → Prop) (h0 : Pv 0 [] (upd H0 D (.lst []))) (hl : ∀ i ys H, Pv i ys H → SqL K H a xs ∧ SqL K H b zs)
    (hs : ∀ i x z ys H p, xs[i]? = some x → zs[i]? = some z → Pv i ys H → H D = some (.lst ys) → H p = none → g (.ref p) (List.replicate k none ++ tl) (upd H p (.tup [x, z])) fun σ2 H2 => (σ2.length = k + tl.length ∧ σ2.drop k = tl) ∧
      tt σ2 H2 fun b H3 => if b = true then te σ2 H3 fun v H4 => H4 D = some (.lst ys) ∧ ys.length < sizeLine ∧ Pv (i + 1) (ys ++ [v]) (upd H4 D (.lst (ys ++ [v]))) else H3 D = some (.lst ys) ∧ Pv (i + 1) ys H3)
    (hd : ∀ ys H, Pv (min xs.length zs.length) ys H → H D = some (.lst ys) → Q H) :
    ∃ W : Nat → Nat → List V → Hp → Prop, (∃ m, W 0 m [] (upd H0 D (.lst []))) ∧ tCompG k (Itz K a b) g tt te tl D Q W := by
  refine ⟨fun i m ys H => m = min xs.length zs.length - i ∧ i ≤ min xs.length zs.length ∧ Pv i ys H, ⟨min xs.length zs.length, by simp, Nat.zero_le _, h0⟩, ?_⟩
  rintro i m ys H ⟨rfl, hi, p⟩ hD
  obtain ⟨q1, q2⟩ := hl i ys H p
  by_cases hlt : i < min xs.length zs.length
  · have h1 : i < xs.length := by omega
    have h2 : i < zs.length := by omega
    refine .inr ⟨⟨xs, zs, xs[i], zs[i], q1, q2, by simp [h1], by simp [h2]⟩, Pv (i + 1), fun ys' H' q' => ⟨min xs.length zs.length - (i + 1), by omega, rfl, hlt, q'⟩, fun x H1 y => ?_⟩
    obtain ⟨c, hc, e, y⟩ := y
    have e1 := y xs zs xs[i] zs[i] q1 q2 (by simp [h1]) (by simp [h2])
    subst e e1
    exact hs i xs[i] zs[i] ys H c (by simp [h1]) (by simp [h2]) p hD hc
  · have e : i = min xs.length zs.length := by omega
    refine .inl ⟨⟨xs, zs, q1, q2, ?_⟩, hd ys H (by rw [← e]; exact p) hD⟩
    omega
theorem for_zip {K : PySem.W.Frag} {a b : Addr} {xs zs : List V} {g : TG} {tb : TS} {D : Ends} {σ : St} {H : Hp} (Pv : Nat → St → Hp → Prop) (h0 : Pv 0 σ H) (hl : ∀ i σ H, Pv i σ H → SqL K H a xs ∧ SqL K H b zs)
    (hs : ∀ i x z σ H p, xs[i]? = some x → zs[i]? = some z → Pv i σ H → H p = none → g (.ref p) σ (upd H p (.tup [x, z])) fun σ2 H2 => tb { D with nx := Pv (i + 1), ct := Pv (i + 1), bk := D.nx } σ2 H2) (hd : ∀ σ H, Pv (min xs.length zs.length) σ H → D.nx σ H) :
    ∃ W : Nat → Nat → St → Hp → Prop, (∃ m, W 0 m σ H) ∧ ∀ i m σ H, W i m σ H →
      ((Itz K a b).stop i H ∧ D.nx σ H) ∨ ((Itz K a b).go i H ∧ ∃ N : St → Hp → Prop, (∀ σ' H', N σ' H' → ∃ m', m' < m ∧ W (i + 1) m' σ' H') ∧ ∀ x H', (Itz K a b).yld i H x H' → g x σ H' fun σ2 H2 => tb { D with nx := N, ct := N, bk := D.nx } σ2 H2) := by
  refine ⟨fun i m σ H => m = min xs.length zs.length - i ∧ i ≤ min xs.length zs.length ∧ Pv i σ H, ⟨min xs.length zs.length, by simp, Nat.zero_le _, h0⟩, ?_⟩
  rintro i m σ H ⟨rfl, hi, p⟩
  obtain ⟨q1, q2⟩ := hl i σ H p
  by_cases hlt : i < min xs.length zs.length
  · have h1 : i < xs.length := by omega
    have h2 : i < zs.length := by omega
    refine .inr ⟨⟨xs, zs, xs[i], zs[i], q1, q2, by simp [h1], by simp [h2]⟩, Pv (i + 1), fun σ' H' p' => ⟨min xs.length zs.length - (i + 1), by omega, rfl, hlt, p'⟩, fun x H' y => ?_⟩
    obtain ⟨c, hc, e, y⟩ := y
    have e1 := y xs zs xs[i] zs[i] q1 q2 (by simp [h1]) (by simp [h2])
    subst e e1
    exact hs i xs[i] zs[i] σ H c (by simp [h1]) (by simp [h2]) p hc
  · have e : i = min xs.length zs.length := by omega
    refine .inl ⟨⟨xs, zs, q1, q2, ?_⟩, hd σ H (by rw [← e]; exact p)⟩
    omega
/-! ### V7b. the same with the written part named: inside a comprehension's block -/
section
variable {X : Cx} {e a b : Expr} {ta tb : TE} {f : Str} {pos : Pos}
theorem pe_fldK (K : PySem.W.Frag) (he : PE X e ta) (hb : attributeBase e f X.env (eval e X.env) = eval e X.env) (hK : X.K = K := by rfl) : PE X (.Attribute e f pos) (tFld K ta f) := by
  subst hK
  exact pe_fld he hb
theorem ix_listK (K : PySem.W.Frag) (hK : X.K = K := by rfl) : IxR X (rIxL K) := by
  subst hK
  exact ix_list
theorem ix_tupK (K : PySem.W.Frag) (hK : X.K = K := by rfl) : IxR X (rIxT K) := by
  subst hK
  exact ix_tup
theorem op_inK (K : PySem.W.Frag) (hK : X.K = K := by rfl) : OpR X (compareOp .In) (rIn K false) := by
  subst hK
  exact op_in_seq
theorem op_notInK (K : PySem.W.Frag) (hK : X.K = K := by rfl) : OpR X (compareOp .NotIn) (rIn K true) := by
  subst hK
  exact op_notIn_seq
theorem call_lenK (K : PySem.W.Frag) (hK : X.K = K := by rfl) : CallR X (.builtin "len") (fun xs H Q => ∃ p ys, xs = [.ref p] ∧ (SqL K H p ys ∨ SqT K H p ys) ∧ Q (.int ys.length) H) := by
  subst hK
  exact call_len_seq
theorem pg_tupK (K : PySem.W.Frag) (n : Nat) {es : List Expr} {k : Nat} {t : TGs} (hc : X.calm = true) (h : PGs X es t) (hn : (assignEach es X.env).length = n := by rfl) (hst : (assignEach es X.env).findIdx? (·.1) = none := by rfl) (hK : X.K = K := by rfl) : PG X (.Tuple es k pos) (gTup K n t) := by
  subst hK
  exact pg_tup hc h hn hst
theorem call_isinstK (K : PySem.W.Frag) (hK : X.K = K := by rfl) : CallR X (.builtin "isinstance") (fun xs H Q => ∃ x c t v b, xs = [x, c] ∧ TyOf K H x t ∧ tyV? c = some v ∧ PySem.W.kitOne K t v = some b ∧ Q (.bl b) H) := by
  subst hK
  exact call_isinst
end
end L2

namespace L2
open PySem PySem.Spec PyProof.Rows

/-! ### V8. enumerate of a list, from k0 on, where the target is a tuple -/
theorem draws_from {P : Program} {w : World} {A : Around} (hh : A.handled = none) (it l : Addr) (hne : l ≠ it) (items : Array Value) (k0 : Nat) :
    Draws P w A.in1 it [it, l] (k0 + items.size) (fun i x => items[i - k0]? = some x) (fun i h => k0 ≤ i ∧ h.IsListIter it l (i - k0) ∧ h.IsList l items) where
  live := fun i h st => let ⟨o, e, _⟩ := st.2.1; ⟨o, e⟩
  frame := fun i h h' st k => ⟨st.1, st.2.1.at fun o e => k it (by simp) o e, st.2.2.at fun o e => k l (by simp) o e⟩
  item := fun i s Q E hi st hQ => by
    obtain ⟨s1, s2, s3⟩ := st
    have hx : items[i - k0]? = some (items[i - k0]'(by omega)) := Array.getElem?_eq_getElem (by omega)
    refine wpAny_nextOf_list_item s2 s3 hx fun h' st' sb => ?_
    rw [show i - k0 + 1 = i + 1 - k0 by omega] at st'
    exact hQ _ h' s.toks hx ⟨by omega, st', s3.at fun o e => (sb.2 l hne).trans e⟩ sb
  done := fun s Q E st hE => by
    obtain ⟨s1, s2, s3⟩ := st
    exact wpAny_nextOf_list_end (show A.in1.handled = none from hh) s2 s3 (Array.getElem?_eq_none (by omega)) hE
def Ite (K : PySem.W.Frag) (a : Addr) (k0 : Nat) : It :=
  ⟨fun i H => ∃ xs x, SqL K H a xs ∧ xs[i]? = some x,
   fun i H v H' => ∃ p, H p = none ∧ v = .ref p ∧ ∀ xs x, SqL K H a xs → xs[i]? = some x → H' = upd H p (.tup [.int ((k0 + i : Nat) : Int), x]),
   fun i H => ∃ xs, SqL K H a xs ∧ xs.length ≤ i⟩
theorem turn_enum {P : Program} {w : World} {K : PySem.W.Frag} {elts : List Expr} {k1 : Nat} {tp : Pos} (a e it : Addr) (k0 : Nat) (d1 : e ≠ it) :
    Turn P w K (.Tuple elts k1 tp) (Ite K a k0) [e, it] e (fun i h => (∃ old, IsEnum h e it ((k0 + i : Nat) : Int) old) ∧ h.IsListIter it a i) where
  mem := by simp
  obj := fun i h st c hb => by
    obtain ⟨⟨old, s1⟩, o2, s2, _, t2⟩ := st
    simp only [List.mem_cons, List.not_mem_nil, or_false] at hb
    rcases hb with rfl | rfl
    · exact ⟨_, s1, fun v z => by cases z⟩
    · exact ⟨_, s2, fun v z => by rw [t2] at z; cases z⟩
  keep := fun i h h' st k => by
    obtain ⟨⟨old, s1⟩, s2⟩ := st
    exact ⟨⟨old, k e (by simp) _ s1⟩, s2.at fun o q => k it (by simp) o q⟩
  item := by
    intro X hP hw hK hc i pins s σ H E I hf st hg
    subst hP hw hK
    obtain ⟨xs, x, hqa, hx⟩ := hg
    obtain ⟨⟨old, s1⟩, s2⟩ := st
    obtain ⟨its1, rv1, p1, z1⟩ := I.list hqa
    obtain ⟨u1, hu1, ru1⟩ := rv1.get hx
    have e2 := s2
    obtain ⟨o2, q2, c2, _⟩ := e2
    have n2 : o2.cls ≠ .type "list" := by rw [c2]; decide
    have a1 : a ≠ e := I.list_apart hqa s1 (show Value.type "enumerate" ≠ Value.type "list" by decide)
    have a2 : a ≠ it := I.list_apart hqa q2 n2
    have hi : i < its1.length := (List.getElem?_eq_some_iff.mp hu1).1
    have D := draws_from (P := X.prog) (w := X.w) (I.ok.hd hc) it a a2 its1.toArray k0
    refine wpAny_pyNext_enum_itemD (i := k0 + i) D s1 ⟨by omega, by rw [show k0 + i - k0 = i by omega]; exact s2, p1.isList⟩ (by rw [List.size_toArray]; omega) d1 (by simp only [List.mem_cons, List.not_mem_nil, or_false, not_or]; exact ⟨d1, fun z => a1 z.symm⟩) fun y h' tk hy b1 b2 b3 b4 b5 => ?_
    rw [show k0 + i - k0 = i by omega] at hy
    have ey : y = u1 := by
      have : its1.toArray[i]? = some u1 := by simpa using hu1
      rw [this] at hy
      exact (Option.some.inj hy).symm
    subst ey
    refine ⟨_, rfl, ?_⟩
    refine wpAny_letOwnedTupleGo_enum (s := { s with heap := h', toks := tk + 1 }) b1 fun h2 hz2 hs2 => ?_
    have lt : ∀ {c : Addr} {o : Obj}, s.heap.get? c = some o → s.heap.objs.size ≠ c := fun q => Nat.ne_of_gt (Heap.lt_size q)
    have kk : ∀ c o, c ∉ [e, it] → s.heap.get? c = some o → h2.get? c = some o := fun c o hm q => by
      simp only [List.mem_cons, List.not_mem_nil, or_false, not_or] at hm
      exact (hs2.2 c hm.1).trans (b5 c o hm.1 hm.2 q)
    have pT : h2.get? s.heap.objs.size = some { cls := .type "tuple", data := .seq #[.int ((k0 + i : Nat) : Int) tk, y] } := (hs2.2 _ (lt s1)).trans b3
    have I2 : Inv X pins σ (upd H s.heap.objs.size (.tup [.int ((k0 + i : Nat) : Int), x])) { s with heap := h2, toks := tk + 1 } := I.turnedN (t' := tk + 1) (ch := [e, it]) (p := s.heap.objs.size) (o := .tup [.int ((k0 + i : Nat) : Int), x]) hf kk (Nat.le_refl _)
      ⟨(by show 2 ≤ sizeLine; decide), [.int ((k0 + i : Nat) : Int) tk, y], .cons ⟨_, rfl⟩ (.cons ru1 .nil), ⟨_, pT, rfl, _, rfl⟩⟩
    refine ⟨.ref s.heap.objs.size, _, I2, rfl, ⟨_, I.fresh, rfl, fun xs' x' w1 w2 => ?_⟩, ⟨⟨y, ?_⟩, ?_⟩, fun c hm => ?_⟩
    · rw [I.list_inj w1 hqa, hx] at w2
      cases w2
      rfl
    · have := hz2
      rw [show ((k0 + i : Nat) : Int) + 1 = ((k0 + (i + 1) : Nat) : Int) by omega] at this
      exact this
    · have := b2.2.1
      rw [show k0 + i + 1 - k0 = i + 1 by omega] at this
      exact this.at fun o q => (hs2.2 it d1.symm).trans q
    · have hne : c ≠ s.heap.objs.size := by
        simp only [List.mem_cons, List.not_mem_nil, or_false] at hm
        rcases hm with rfl | rfl
        · exact (lt s1).symm
        · exact (lt q2).symm
      rw [upd_ne hne]
      exact (hf c hm).1
  done := by
    intro X hP hw hK hc i pins s σ H E I hf st hg
    subst hP hw hK
    obtain ⟨xs, hqa, hx⟩ := hg
    obtain ⟨⟨old, s1⟩, s2⟩ := st
    obtain ⟨its1, rv1, p1, z1⟩ := I.list hqa
    have l1 := rv1.length
    have hT : s.TypeIs (.ref e) "enumerate" := ⟨_, s1, rfl⟩
    unfold pyNext
    refine wpAny_bind (wpAny_attempt (wpAny_callSpecial?_slot (name := Str.ofString "__next__") hT F.slot_enumerate_next (wpAny_call_entry F.slot_enumerate_next hT F.entry_enumerate_next ?_ (F.args_enumerate_next_1 _))))
    show wpAny _ _ (field (.ref e) 2 >>= _) _ _ _
    refine wpAny_bind (wpAny_field s1 rfl (x := .ref it) rfl ?_)
    refine wpAny_bind (wpAny_nextOf_list_end (I.ok.hd hc) s2 p1.isList (by rw [List.getElem?_toArray]; exact List.getElem?_eq_none (by omega)) fun h' y he' hx' => ?_)
    obtain ⟨o, ho, hcl⟩ := hx'
    refine wpAny_bind (wpAny_isInstance (T := "StopIteration") (b := true) ⟨o, ho, hcl⟩ isSubtype_stop (wpAny_pure ⟨rfl, ?_⟩))
    exact I.turnedK (t' := s.toks) (ch := [it]) (on1 (hf it (by simp))) fun c o hm q => he' c o (by simpa using hm) q
  self := fun _ _ _ _ _ st h => let ⟨_, q⟩ := st.1; wpAny_pyIter_enum q h
def iEnum (K : PySem.W.Frag) (ta : TA) : TI := fun σ H R => ta σ H fun vs H1 => ∃ a xs, vs = [.ref a] ∧ SqL K H1 a xs ∧ R (Ite K a 0) H1
section
variable {X : Cx}
theorem pi_enum {elts : List Expr} {k1 : Nat} {tp : Pos} {a : Expr} {ta : TA} {p pos : Pos} (hg : Gl X "enumerate") (hm : X.mg "enumerate" = none) (ha : PA X [a] ta) (hs : starEach [a] X.env = [(false, eval a X.env)] := by rfl) :
    PI X (.Tuple elts k1 tp) (.Call (.Name "enumerate" p) [a] [] pos) (iEnum X.K ta) := by
  intro pins s σ H R I h
  refine Call_ (ld_blt I hg hm boot_enumerate (PyProof.Rows.callWith_type1 (thn (ha pos pins s σ H _ I h) fun us s1 ⟨vs, H1, I1, r1, q1⟩ => ?_) hs rfl))
  obtain ⟨l, xs, e, hq, q⟩ := q1
  subst e
  obtain ⟨u, rfl, ru⟩ := r1.one
  cases ru
  obtain ⟨its, rv, pl, hz⟩ := I1.list hq
  refine call_enumerate_list pl.isList fun h' a1 a2 a3 a4 => ?_
  refine wpAny_pyIter_enum (s := { s1 with heap := h' }) a1 ?_
  refine ⟨_, [s1.heap.objs.size + 1, s1.heap.objs.size], _, _, H1, rfl, I1.kept (t' := s1.toks) fun c o e => a4 c o e, turn_enum l _ _ 0 (by simp), ⟨⟨_, a1⟩, a2⟩, ?_, q⟩
  refine fpNew I1 (fun c hc => I1.hok.fresh hc) fun c hc => ?_
  simp only [List.mem_cons, List.not_mem_nil, or_false] at hc
  rcases hc with r | r <;> rw [r]
  · exact Nat.le_add_right _ _
  · exact Nat.le_refl _
end

/-! ### V9. set, all, sum, sorted of a list -/
section
variable {X : Cx}
theorem call_setI (hc : X.calm = true) : CallR X (.type "set") (fun xs H Q => ∃ (l : Addr) (ns : List Int), xs = [.ref l] ∧ SqL X.K H l (ns.map V.int) ∧ ns.length ≤ 1000 ∧ ∀ p, H p = none → Q (.ref p) (upd H p (.set (fun k => (firstMet (fun i => ns.getD i 0) ns.length).any (· == k)) (firstMet (fun i => ns.getD i 0) ns.length).length))) := by
  intro pins s σ H xs us Q I r h
  obtain ⟨l, ns, rfl, hq, hl, q⟩ := h
  obtain ⟨u, rfl, ru⟩ := r.one
  cases ru
  obtain ⟨its, rv, pl, hz⟩ := I.list hq
  have ll : its.length = ns.length := by have := rv.length; rw [List.length_map] at this; exact this.symm
  refine call_set_list (I.ok.hd hc) pl.isList (ns := ns) (by simpa using intsAre_of rv) (by rw [List.size_toArray, ll]; show _ < 4096; omega) fun h' tk st kk => ?_
  have es : its.toArray.size = ns.length := by rw [List.size_toArray, ll]
  rw [es] at st
  exact ⟨.ref s.heap.objs.size, _, I.laid (o := .set (fun k => (firstMet (fun i => ns.getD i 0) ns.length).any (· == k)) (firstMet (fun i => ns.getD i 0) ns.length).length) (t' := tk) (fun b o e => kk b o (Heap.lt_size e) e) (Nat.le_refl _) st, rfl, q _ I.fresh⟩
theorem call_lenS : CallR X (.builtin "len") (fun xs H Q => ∃ p S n, xs = [.ref p] ∧ H p = some (.set S n) ∧ n ≤ 1000 ∧ Q (.int n) H) := by
  intro pins s σ H xs us Q I r h
  obtain ⟨p, S, n, rfl, hp, hn, q⟩ := h
  obtain ⟨u, rfl, ru⟩ := r.one
  cases ru
  have st : s.heap.SetOf (intKind X.prog X.w) p S n := I.hok p _ hp
  obtain ⟨o, es, ep, t, h1, h2, h3, _, _, h6, h7, h8⟩ := st
  subst h8
  exact call_len_set h1 h2 h3 h7 (by have : es.size < 4096 := h6
                                     omega) ⟨.int es.size, H, I.tok _, ⟨_, rfl⟩, q⟩
end
section
variable {X : Cx}
theorem all_getD : ∀ (bs : List Bool), (List.range bs.length).all (fun i => bs.getD i false) = bs.all id
  | [] => rfl
  | b :: r => by
    rw [List.length_cons, List.range_succ_eq_map, List.all_cons, List.all_map, List.all_cons]
    have e : ((fun i => (b :: r).getD i false) ∘ Nat.succ) = fun i => r.getD i false := by funext i; rfl
    rw [e, all_getD r]
    rfl
theorem call_allB (hc : X.calm = true) : CallR X (.builtin "all") (fun xs H Q => ∃ (l : Addr) (bs : List Bool), xs = [.ref l] ∧ SqL X.K H l (bs.map V.bl) ∧ Q (.bl (bs.all id)) H) := by
  intro pins s σ H xs us Q I r h
  obtain ⟨l, bs, rfl, hq, q⟩ := h
  obtain ⟨u, rfl, ru⟩ := r.one
  cases ru
  obtain ⟨its, rv, pl, hz⟩ := I.list hq
  have ll : its.length = bs.length := by have := rv.length; rw [List.length_map] at this; exact this.symm
  have hh : X.A.in1.handled = none := I.ok.hd hc
  have lt : l < s.heap.objs.size := by obtain ⟨o, _, e, _⟩ := pl; exact Heap.lt_size e
  refine call_all_walk (wpAny_pyIter_list pl.isList ?_)
  refine ⟨s.heap.objs.size, _, _, _, _, _, fun i => bs.getD i false, rfl, Walks.list hh s.heap.objs.size l (Nat.ne_of_lt lt) its.toArray, ⟨⟨_, Heap.get?_push_size _ rfl, rfl, rfl⟩, pl.isList.at fun o e => Heap.get?_push_of_some _ e⟩, fun i v s' Q' E' hv hQ => ?_, fun h' tk kk => ?_⟩
  · have hv' : its[i]? = some v := by simpa using hv
    have hi : i < bs.length := by rw [← ll]; exact (List.getElem?_eq_some_iff.mp hv').1
    obtain ⟨u, hu, ru⟩ := rv.get (i := i) (x := .bl bs[i]) (by rw [List.getElem?_map, List.getElem?_eq_getElem hi]; rfl)
    rw [hv'] at hu
    cases hu
    cases ru
    have hQ : Q' (bs.getD i false) s' := hQ
    rw [List.getD_eq_getElem?_getD, List.getElem?_eq_getElem hi] at hQ
    exact wpAny_truthy_bool hQ
  · have e : (List.range its.toArray.size).all (fun i => bs.getD i false) = bs.all id := by rw [List.size_toArray, ll, all_getD]
    rw [e]
    exact ⟨.bl _, H, I.kept (t' := tk) fun b o eb => kk b o (by simpa using Nat.ne_of_lt (Heap.lt_size eb)) (Heap.get?_push_of_some _ eb), rfl, q⟩
theorem preSum_take (ns : List Int) : ∀ i, preSum (fun i => ns.getD i 0) i = (ns.take i).sum
  | 0 => by simp [preSum]
  | i + 1 => by
    rw [preSum, preSum_take ns i]
    by_cases h : i < ns.length
    · rw [List.take_add_one, List.getElem?_eq_getElem h, List.sum_append, List.getD_eq_getElem?_getD, List.getElem?_eq_getElem h]
      simp
    · rw [List.getD_eq_getElem?_getD, List.getElem?_eq_none (by omega), List.take_of_length_le (by omega), List.take_of_length_le (by omega)]
      simp
theorem sum_b : ∀ (ns : List Int), (∀ v ∈ ns, 0 ≤ v ∧ v ≤ 1000000) → 0 ≤ ns.sum ∧ ns.sum ≤ 1000000 * ns.length
  | [], _ => by simp
  | v :: r, h => by
    have h1 := h v List.mem_cons_self
    have h2 := sum_b r fun w hw => h w (List.mem_cons_of_mem _ hw)
    rw [List.sum_cons, List.length_cons]
    omega
theorem call_sumI (hc : X.calm = true) : CallR X (.builtin "sum") (fun xs H Q => ∃ (l : Addr) (ns : List Int), xs = [.ref l] ∧ SqL X.K H l (ns.map V.int) ∧ ns.length ≤ 1000 ∧ (∀ v ∈ ns, 0 ≤ v ∧ v ≤ 1000000) ∧ Q (.int ns.sum) H) := by
  intro pins s σ H xs us Q I r h
  obtain ⟨l, ns, rfl, hq, hl, hb, q⟩ := h
  obtain ⟨u, rfl, ru⟩ := r.one
  cases ru
  obtain ⟨its, rv, pl, hz⟩ := I.list hq
  have ll : its.length = ns.length := by have := rv.length; rw [List.length_map] at this; exact this.symm
  have hh : X.A.in1.handled = none := I.ok.hd hc
  have lt : l < s.heap.objs.size := by obtain ⟨o, _, e, _⟩ := pl; exact Heap.lt_size e
  refine call_sum_walk (wpAny_pyIter_list pl.isList ?_)
  refine ⟨s.heap.objs.size, _, _, _, _, _, fun i => ns.getD i 0, rfl, Walks.list hh s.heap.objs.size l (Nat.ne_of_lt lt) its.toArray, ⟨⟨_, Heap.get?_push_size _ rfl, rfl, rfl⟩, pl.isList.at fun o e => Heap.get?_push_of_some _ e⟩, fun b hb' => ?_, fun i v hv => ?_, fun j hj => ?_, fun h' tk t' kk => ?_⟩
  · show b < (s.heap.push _).objs.size
    rw [Heap.size_push]
    simp only [List.mem_cons, List.not_mem_nil, or_false] at hb'
    rcases hb' with z | z
    · rw [z]
      exact Nat.lt_succ_self _
    · rw [z]
      exact Nat.lt_succ_of_lt lt
  · have hv' : its[i]? = some v := by simpa using hv
    have hi : i < ns.length := by rw [← ll]; exact (List.getElem?_eq_some_iff.mp hv').1
    obtain ⟨u, hu, ru⟩ := rv.get (i := i) (x := .int ns[i]) (by rw [List.getElem?_map, List.getElem?_eq_getElem hi]; rfl)
    rw [hv'] at hu
    cases hu
    obtain ⟨t, rfl⟩ := ru
    refine ⟨t, ?_⟩
    show Value.int ns[i] t = Value.int (ns.getD i 0) t
    rw [List.getD_eq_getElem?_getD, List.getElem?_eq_getElem hi]
    rfl
  · have hj' : j < ns.length := by rw [← ll]; simpa using hj
    have b1 := hb ns[j] (List.getElem_mem hj')
    have b2 := sum_b (ns.take (j + 1)) fun v hv => hb v (List.mem_of_mem_take hv)
    rw [List.length_take] at b2
    rw [preSum_take]
    refine ⟨?_, ?_⟩
    · show InLong (ns.getD j 0)
      rw [List.getD_eq_getElem?_getD, List.getElem?_eq_getElem hj']
      show -(2 ^ 63) ≤ ns[j] ∧ ns[j] < 2 ^ 63
      omega
    · show -(2 ^ 63) ≤ (ns.take (j + 1)).sum ∧ (ns.take (j + 1)).sum < 2 ^ 63
      omega
  · have e : preSum (fun i => ns.getD i 0) its.toArray.size = ns.sum := by rw [List.size_toArray, ll, preSum_take, List.take_length]
    rw [e]
    exact ⟨.int _, H, I.kept (t' := tk) fun b o eb => kk b o (by simpa using Nat.ne_of_lt (Heap.lt_size eb)) (Heap.get?_push_of_some _ eb), ⟨_, rfl⟩, q⟩
end
/-- loops and comprehensions over enumerate -/
theorem for_enum {K : PySem.W.Frag} {a : Addr} {xs : List V} {k0 : Nat} {g : TG} {tb : TS} {D : Ends} {σ : St} {H : Hp} (Pv : Nat → St → Hp → Prop) (h0 : Pv 0 σ H) (hl : ∀ i σ H, Pv i σ H → SqL K H a xs)
    (hs : ∀ i x σ H p, xs[i]? = some x → Pv i σ H → H p = none → g (.ref p) σ (upd H p (.tup [.int ((k0 + i : Nat) : Int), x])) fun σ2 H2 => tb { D with nx := Pv (i + 1), ct := Pv (i + 1), bk := D.nx } σ2 H2) (hd : ∀ σ H, Pv xs.length σ H → D.nx σ H) :
    ∃ W : Nat → Nat → St → Hp → Prop, (∃ m, W 0 m σ H) ∧ ∀ i m σ H, W i m σ H →
      ((Ite K a k0).stop i H ∧ D.nx σ H) ∨ ((Ite K a k0).go i H ∧ ∃ N : St → Hp → Prop, (∀ σ' H', N σ' H' → ∃ m', m' < m ∧ W (i + 1) m' σ' H') ∧ ∀ x H', (Ite K a k0).yld i H x H' → g x σ H' fun σ2 H2 => tb { D with nx := N, ct := N, bk := D.nx } σ2 H2) := by
  refine ⟨fun i m σ H => m = xs.length - i ∧ i ≤ xs.length ∧ Pv i σ H, ⟨xs.length, by simp, Nat.zero_le _, h0⟩, ?_⟩
  rintro i m σ H ⟨rfl, hi, p⟩
  have q1 := hl i σ H p
  by_cases hlt : i < xs.length
  · refine .inr ⟨⟨xs, xs[i], q1, by simp [hlt]⟩, Pv (i + 1), fun σ' H' p' => ⟨xs.length - (i + 1), by omega, rfl, hlt, p'⟩, fun x H' y => ?_⟩
    obtain ⟨c, hc, e, y⟩ := y
    have e1 := y xs xs[i] q1 (by simp [hlt])
    subst e e1
    exact hs i xs[i] σ H c (by simp [hlt]) p hc
  · have e : i = xs.length := by omega
    exact .inl ⟨⟨xs, q1, by omega⟩, hd σ H (by rw [← e]; exact p)⟩
theorem comp_enum {K : PySem.W.Frag} {a : Addr} {xs : List V} {k0 k : Nat} {g : TG} {tt : TT} {te : TE} {tl : St} {D : Addr} {Q : Hp → Prop} {H0 : Hp} (Pv : Nat → List V → Hp → Prop) (h0 : Pv 0 [] (upd H0 D (.lst []))) (hl : ∀ i ys H, Pv i ys H → SqL K H a xs)
    (hs : ∀ i x ys H p, xs[i]? = some x → Pv i ys H → H D = some (.lst ys) → H p = none → g (.ref p) (List.replicate k none ++ tl) (upd H p (.tup [.int ((k0 + i : Nat) : Int), x])) fun σ2 H2 => (σ2.length = k + tl.length ∧ σ2.drop k = tl) ∧
      tt σ2 H2 fun b H3 => if b = true then te σ2 H3 fun v H4 => H4 D = some (.lst ys) ∧ ys.length < sizeLine ∧ Pv (i + 1) (ys ++ [v]) (upd H4 D (.lst (ys ++ [v]))) else H3 D = some (.lst ys) ∧ Pv (i + 1) ys H3)
    (hd : ∀ ys H, Pv xs.length ys H → H D = some (.lst ys) → Q H) :
    ∃ W : Nat → Nat → List V → Hp → Prop, (∃ m, W 0 m [] (upd H0 D (.lst []))) ∧ tCompG k (Ite K a k0) g tt te tl D Q W := by
  refine ⟨fun i m ys H => m = xs.length - i ∧ i ≤ xs.length ∧ Pv i ys H, ⟨xs.length, by simp, Nat.zero_le _, h0⟩, ?_⟩
  rintro i m ys H ⟨rfl, hi, p⟩ hD
  have q1 := hl i ys H p
  by_cases hlt : i < xs.length
  · refine .inr ⟨⟨xs, xs[i], q1, by simp [hlt]⟩, Pv (i + 1), fun ys' H' q' => ⟨xs.length - (i + 1), by omega, rfl, hlt, q'⟩, fun x H1 y => ?_⟩
    obtain ⟨c, hc, e, y⟩ := y
    have e1 := y xs xs[i] q1 (by simp [hlt])
    subst e e1
    exact hs i xs[i] ys H c (by simp [hlt]) p hD hc
  · have e : i = xs.length := by omega
    exact .inl ⟨⟨xs, q1, by omega⟩, hd ys H (by rw [← e]; exact p) hD⟩
end L2

namespace L2
open PySem PySem.Spec PyProof.Rows

/-! ### V10. an exception of an own class on its way -/
theorem HOk.inB {P : Program} {w : World} {H : Hp} {h h' B : Heap} (x : HOk P w H h) (t : ∀ b u, H b = some u → ∃ o, B.get? b = some o) (k : B.StaysIn h) (k' : B.StaysIn h') : HOk P w H h' := fun a o e =>
  (x a o e).stay (fun b u hb q => by
    have hv : ∃ v, H b = some v := by
      rcases hb with z | z
      · exact ⟨o, by rw [z]; exact e⟩
      · exact ⟨_, z⟩
    obtain ⟨v, hv⟩ := hv
    obtain ⟨ob, hob⟩ := t b v hv
    have := k b ob hob
    rw [q] at this
    cases this
    exact k' b _ hob) (fun _ q => q) fun _ _ q => q
/-- a: the exception, B: what stays beside the frames -/
structure Flies (P : Program) (w : World) (outer : List Env) (H : Hp) (s : Shared) (a : Addr) (B : Heap) (H' : Hp) (s' : Shared) : Prop where
  os : s'.os = s.os
  bare : AllBare s'.gens
  new : s.heap.get? a = none
  un : Un (frs outer) [] H H' s.heap s'.heap
  hok : HOk P w H' s'.heap
  inB : ∀ b o, s.heap.get? b = some o → b ∉ frs outer → ∃ o', B.get? b = some o' ∧ (H b = none → o' = o)
  trk : ∀ b u, H' b = some u → ∃ o, B.get? b = some o
  st : B.StaysIn s'.heap
theorem Flies.on {P : Program} {w : World} {outer : List Env} {H H' : Hp} {s s' : Shared} {a : Addr} {B h' : Heap} (F : Flies P w outer H s a B H' s') (hfr : ∀ b ∈ frs outer, H b = none ∧ ∃ o, s.heap.get? b = some o ∧ ∀ vs, o.data ≠ .fields vs)
    (k : B.StaysIn h') (sm : s'.heap.UpToSlots h') : Flies P w outer H s a B H' { s' with heap := h' } := by
  have fr : ∀ b o, s.heap.get? b = some o → b ∈ frs outer → ∃ sl, h'.get? b = some { o with slots := sl } := fun b o e hb => by
    obtain ⟨n, ob, e', nf⟩ := hfr b hb
    rw [e] at e'
    cases e'
    obtain ⟨sl, q⟩ := F.un.any e n (by simp)
    obtain ⟨sl', q'⟩ := sm b _ q nf
    exact ⟨sl', q'⟩
  refine ⟨F.os, F.bare, F.new, ⟨fun b o e n hb _ => ?_, fun b o e n hb _ => fr b o e hb, F.un.free, fun b o e _ => ?_, F.un.tups, F.un.frzs, F.un.tbls⟩, F.hok.inB F.trk F.st k, F.inB, F.trk, k⟩
  · obtain ⟨o', q, z⟩ := F.inB b o e hb
    rw [z n] at q
    exact k b o q
  · by_cases hb : b ∈ frs outer
    · obtain ⟨sl, q⟩ := fr b o e hb
      exact ⟨_, q⟩
    · obtain ⟨o', q, _⟩ := F.inB b o e hb
      exact ⟨o', k b o' q⟩
section
variable {X : Cx} {pins : List (Addr × Obj)} {σ : St} {H H' : Hp} {s s' : Shared} {a : Addr} {B : Heap}
theorem Inv.frOk (I : Inv X pins σ H s) : ∀ b ∈ frs X.stack, H b = none ∧ ∃ o, s.heap.get? b = some o ∧ ∀ vs, o.data ≠ .fields vs := fun b hb => ⟨I.stkFree b hb, (I.stack.mem hb).2⟩
theorem Inv.offStack (I : Inv X pins σ H s) {b : Addr} {o : Obj} (e : X.s₀.heap.get? b = some o) (hb : b ∉ X.fs) : b ∉ frs X.stack := fun hm => by
  rcases List.mem_cons.mp (I.stkSub b hm) with z | z
  · exact absurd (Heap.lt_size e) (by rw [z]; exact Nat.not_lt.mpr I.ok.above)
  · exact hb z
/-- seen from where the body began -/
theorem Flies.left (F : Flies X.prog X.w X.stack H s a B H' s') (I : Inv X pins σ H s) (hex : X.ex = []) : Flies X.prog X.w X.outer X.H₀ X.s₀ a B H' s' := by
  have noex : ∀ b, b ∉ X.ex := fun b => by rw [hex]; simp
  have news : X.s₀.heap.get? a = none := by
    cases q : X.s₀.heap.get? a with
    | none => rfl
    | some o =>
      obtain ⟨o', e⟩ := I.base.there a o q (noex a)
      rw [F.new] at e
      cases e
  refine ⟨F.os.trans I.os, F.bare, news, ⟨fun b o e n hb _ => ?_, fun b o e n hb _ => ?_, fun b o e n _ => ?_, fun b o e _ => ?_, fun b xs q => F.un.tups b xs (I.base.tups b xs q), fun b o xs q => F.un.frzs b o xs (I.base.frzs b o xs q), fun b ps q => ?_⟩, F.hok, fun b o e hb => ?_, F.trk, F.st⟩
  · exact F.un.keep b o (I.base.keep b o e n hb (noex b)) (I.base.free b o e n (noex b)) (I.offStack e hb) (by simp)
  · obtain ⟨sl, e1⟩ := I.base.slot b o e n hb (noex b)
    obtain ⟨sl', e2⟩ := F.un.any e1 (I.base.free b o e n (noex b)) (by simp)
    exact ⟨sl', e2⟩
  · obtain ⟨o', e1⟩ := I.base.there b o e (noex b)
    exact F.un.free b o' e1 (I.base.free b o e n (noex b)) (by simp)
  · obtain ⟨o', e1⟩ := I.base.there b o e (noex b)
    exact F.un.there b o' e1 (by simp)
  · obtain ⟨m1, e1⟩ := I.base.tbls b ps q
    obtain ⟨m2, e2⟩ := F.un.tbls b _ e1
    exact ⟨m1 ++ m2, by rw [e2, Array.append_assoc]⟩
  · obtain ⟨o1, e1⟩ := I.base.there b o e (noex b)
    obtain ⟨o', q, z⟩ := F.inB b o1 e1 (I.offStack e hb)
    refine ⟨o', q, fun n => ?_⟩
    have e2 := I.base.keep b o e n hb (noex b)
    rw [e1] at e2
    cases e2
    exact z (I.base.free b _ e n (noex b))
/-- at the raise -/
theorem Inv.flies {h' : Heap} {cls : Value} {vs : List Value} (I : Inv X pins σ H s) (hx : Heap.MadeExcOf s.heap h' a cls vs) : Flies X.prog X.w X.stack H s a (PySem.W.hideAll s.heap (frs X.stack)) H { s with heap := h' } := by
  have inb : ∀ b o, s.heap.get? b = some o → b ∉ frs X.stack → (PySem.W.hideAll s.heap (frs X.stack)).get? b = some o := fun b o e hb => PySem.W.hideAll_get _ e hb
  refine ⟨rfl, I.bare, hx.new, Un.kept hx.keeps, I.hok.kept hx.keeps, fun b o e hb => ⟨o, inb b o e hb, fun _ => rfl⟩, fun b u e => ?_, fun b o e => hx.keeps b o (PySem.W.of_hideAll _ e)⟩
  obtain ⟨o, q⟩ : ∃ o, s.heap.get? b = some o := by
    have := I.hok.lt e
    have hk := I.hok b u e
    cases u with
    | lst xs => obtain ⟨_, _, _, _, q⟩ := hk; exact ⟨_, q⟩
    | tup xs => obtain ⟨_, _, _, o, q, _⟩ := hk; exact ⟨_, q⟩
    | dK kvs => obtain ⟨_, _, _, _, o, _, _, q, _⟩ := hk; exact ⟨_, q⟩
    | dT kvs => obtain ⟨_, _, _, _, o, _, _, q, _⟩ := hk; exact ⟨_, q⟩
    | set S n => obtain ⟨o, _, _, _, q, _⟩ := hk; exact ⟨_, q⟩
    | ins C dx fs => obtain ⟨_, _, _, q, _⟩ := hk; exact ⟨_, q⟩
    | own y => exact hk
    | xd fs => obtain ⟨_, ⟨o, _, _, q, _⟩, _⟩ := hk; exact ⟨_, q⟩
    | rng lo hi => obtain ⟨_, _, _, q⟩ := hk; exact ⟨_, q⟩
    | frz ob u => obtain ⟨q, _⟩ := hk; exact ⟨_, q⟩
    | tbl ps => exact ⟨_, (show s.heap.get? b = some _ from hk)⟩
    | met f y => exact ⟨_, (show s.heap.get? b = some _ from hk)⟩
    | ext φ => obtain ⟨_, q, _⟩ := hk; exact q
  refine ⟨o, inb b o q fun hm => ?_⟩
  rw [I.stkFree b hm] at e
  cases e
end
def CXE (P : Program) (w : World) : CXT := fun outer H s E e s' => ∃ (a C : Addr) (a0 : Value) (B : Heap) (H' : Hp), e = .ref a ∧ Flies P w outer H s a B H' s' ∧ Heap.FlyingW B outer a (.ref C) a0 s'.heap ∧ E (.ref C) none H'
section
variable {P : Program} {w : World} {K : PySem.W.Frag} {mg : Str → Option Value} {base : Heap} {N : List Str} {qual : Str} {scope : Scope} {f : Addr} {cd : Value} {A : Around} {outer : List Env} {s0 : Shared} {H0 : Hp} {E : XK}
/-- a callee's exception goes on -/
theorem passE : Passes (CXE P w) (cxOf (CXE P w) P w K mg base N qual scope f cd A outer s0 H0 E) E := by
  intro pins σ H s e s' I hx
  obtain ⟨a, C, a0, B, H', e1, F, fl, hE⟩ := hx
  subst e1
  show wpAny (model P w) (A.deeper (envOfC qual scope s0.heap.objs.size f cd)) (leaving (envOfC qual scope s0.heap.objs.size f cd) (.ref a)) _ _ s'
  refine wpAny_leaves_onW (L := s0.heap.objs.size) I.ok.frames rfl fl fun h' fl' sm => ?_
  exact ⟨a, C, a0, B, H', rfl, (F.on I.frOk fl'.1 sm).left I rfl, fl', hE⟩
/-- an exception that was made here leaves -/
theorem raisedE {pins : List (Addr × Obj)} {σ : St} {H : Hp} {s : Shared} {h' : Heap} {a C : Addr} {vs : List Value} (I : Inv (cxOf (CXE P w) P w K mg base N qual scope f cd A outer s0 H0 E) pins σ H s) (hx : Heap.MadeExcOf s.heap h' a (.ref C) vs) (hE : E (.ref C) none H) :
    (cxOf (CXE P w) P w K mg base N qual scope f cd A outer s0 H0 E).xe (.ref a) { s with heap := h' } := by
  show wpAny (model P w) (A.deeper (envOfC qual scope s0.heap.objs.size f cd)) (leaving (envOfC qual scope s0.heap.objs.size f cd) (.ref a)) _ _ { s with heap := h' }
  have F := I.flies hx
  refine wpAny_leaves_madeW (L := s0.heap.objs.size) (base := PySem.W.hideAll s.heap (frs (envOfC qual scope s0.heap.objs.size f cd :: outer))) (h := s.heap) I.ok.frames rfl (fun b o q => PySem.W.of_hideAll _ q)
    (PySem.W.funFrames_hide I.stack fun env he b hb => List.mem_filterMap.mpr ⟨env, he, hb⟩) hx fun h'' t fl _ _ sm => ?_
  exact ⟨a, C, _, _, H, rfl, (F.on I.frOk fl.1 sm).left I rfl, fl, hE⟩
end
/-! ### V11. the program's own error classes -/
abbrev vErr : List Value := [.type "ValueError", .type "Exception", .type "BaseException", .type "object"]
structure Exc (K : PySem.W.Frag) (mg : Str → Option Value) (x : Str) (C : Addr) (bm : List Value) : Prop where
  bound : mg x = some (.ref C)
  obj : ∃ (N : Addr) (nm q : Str) (bs : List Value) (hdct : Bool) (sn : List Str) (sub : List Value) (ab : Bool) (col : Option Bool) (dd : Option Addr) (k0 k1 k2 k3 k5 : Option Value),
    K.lookup C = some (excClassObj nm q C N bs bm hdct sn sub ab col dd k0 k1 k2 k3 k5 "ValueError.__new__") ∧ PySem.W.nsOkIn K N = true ∧ PySem.W.nsIn K N "__init__" = some none ∧ PySem.W.tailIn K vErr bm = true
theorem Exc.base {K : PySem.W.Frag} {mg : Str → Option Value} {x : Str} {C : Addr} {bm : List Value} (O : Exc K mg x C bm) {h : Heap} (X : K.In h) : bm.contains (.type "BaseException") = true := by
  obtain ⟨N, nm, q, bs, hdct, sn, sub, ab, col, dd, k0, k1, k2, k3, k5, lk, n1, n2, tl⟩ := O.obj
  exact (PySem.W.tail_of_in X tl).hasType PySem.F.excBase_ValueError.hasBase
theorem exc_mk {K : PySem.W.Frag} {mg : Str → Option Value} {x : Str} {C N : Addr} {nm q : Str} {bs bm sub : List Value} {hdct ab : Bool} {sn : List Str} {col : Option Bool} {dd : Option Addr} {k0 k1 k2 k3 k5 : Option Value} (b : mg x = some (.ref C))
    (lk : K.lookup C = some (excClassObj nm q C N bs bm hdct sn sub ab col dd k0 k1 k2 k3 k5 "ValueError.__new__")) (h : PySem.W.excIn K C vErr "ValueError.__new__" = true) : Exc K mg x C bm := by
  unfold PySem.W.excIn at h
  rw [lk] at h
  simp only [Bool.and_eq_true, beq_iff_eq] at h
  obtain ⟨⟨⟨_, h1⟩, h2⟩, h3⟩ := h
  exact ⟨b, N, nm, q, bs, hdct, sn, sub, ab, col, dd, k0, k1, k2, k3, k5, lk, h2, h3, h1⟩
def tRaise (te : TE) (C : Addr) (E : XK) : TS := fun _ σ H => te σ H fun _ H1 => 1 ≤ sizeLine ∧ E (.ref C) none H1
section
variable {P : Program} {w : World} {K : PySem.W.Frag} {mg : Str → Option Value} {base : Heap} {N : List Str} {qual : Str} {scope : Scope} {f : Addr} {cd : Value} {A : Around} {outer : List Env} {s0 : Shared} {H0 : Hp} {E : XK}
theorem ps_raise {x : Str} {C : Addr} {bm : List Value} {e : Expr} {te : TE} {np cpos pos : Pos} (O : Exc K mg x C bm) (hg : Gl (cxOf (CXE P w) P w K mg base N qual scope f cd A outer s0 H0 E) x)
    (he : PE (cxOf (CXE P w) P w K mg base N qual scope f cd A outer s0 H0 E) e te) (hdb : (x == ("__debug__" : Str)) = false := by decide)
    (hs : starEach [e] (cxOf (CXE P w) P w K mg base N qual scope f cd A outer s0 H0 E).env = [(false, eval e (cxOf (CXE P w) P w K mg base N qual scope f cd A outer s0 H0 E).env)] := by rfl) :
    PS (cxOf (CXE P w) P w K mg base N qual scope f cd A outer s0 H0 E) (.Raise (some (.Call (.Name x np) [e] [] cpos)) none pos) (tRaise te C E) := by
  intro pins s σ H D I h
  have KX := I.kIn
  obtain ⟨Nn, nm, q, bs, hdct, sn, sub, ab, col, dd, k0, k1, k2, k3, k5, lk, n1, n2, tl⟩ := O.obj
  have hbase := O.base KX
  have ns0 : base.Ns Nn (base.nsMap Nn) := .of_isNs (PySem.W.isNs_of_in I.ok.mod.kin n1)
  refine wpAny_Raise_call_subT (nm := nm) (q := q) (C := C) (N := Nn) (bs := bs) (bm := bm) (hdct := hdct) (sn := sn) (sub := sub) (ab := ab) (col := col) (dd := dd) (k0 := k0) (k1 := k1) (k2 := k2) (k3 := k3) (k5 := k5) (mN := base.nsMap Nn)
    PySem.F.excBase_ValueError hbase (I.ok.hd rfl) (by rw [hs]; rfl) (PySem.W.nsMap_none_of_in I.ok.mod.kin n1 n2) (ld_glob I hg O.bound ⟨rfl, ?_⟩ hdb)
  have ha := pa_cons he (pa_nil (X := cxOf (CXE P w) P w K mg base N qual scope f cd A outer s0 H0 E)) hs
  have hz := ha cpos pins s σ H (fun vs H1 => vs.length ≤ sizeLine ∧ E (.ref C) none H1) I h
  rw [hs] at hz ⊢
  refine Calls.evalArgs_plain (thn hz fun us s2 ⟨vs, H1, I1, r1, hl, q1⟩ => ?_)
  exact ⟨rfl, by rw [← r1.length]; exact hl, I1.kIn _ _ lk, ns0.keeps I1.bk, PySem.W.tail_of_in I1.kIn tl, fun h' a hx => raisedE I1 hx q1⟩
end
/-! ### V12. texts put together of words and ints -/
def PJ (X : Cx) (es : List Expr) (n : Nat) (t : St → Hp → (Hp → Prop) → Prop) : Prop := ∀ (pins : List (Addr × Obj)) (s : Shared) (σ : St) (H : Hp) (Q : Hp → Prop) (out : Str), Inv X pins σ H s → out.length + n ≤ sizeLine → t σ H Q →
  wpAny (model X.prog X.w) X.A (joinParts out (evalEach es X.env)) (fun u s' => ∃ x tk H', u = Value.str x tk ∧ Inv X pins σ H' s' ∧ Q H') X.xe s
def tFstr (t : St → Hp → (Hp → Prop) → Prop) : TE := fun σ H Q => t σ H fun H1 => ∀ x, Q (.str x) H1
section
variable {X : Cx} {n : Nat} {es : List Expr} {t : St → Hp → (Hp → Prop) → Prop}
theorem pj_nil : PJ X [] 0 (fun _ H Q => Q H) := fun _ s _ H _ _ I hl h => joinParts_nil ⟨_, _, H, rfl, I.tok _, h⟩ hl
theorem pj_word {x : Str} {j pos} (r : PJ X es n t) (hx : x.length ≤ 2000 := by decide) : PJ X (.Constant (.str x) j pos :: es) (n + 2000) t := by
  intro pins s σ H Q out I hl h
  show wpAny _ _ (joinParts out (eval (.Constant (.str x) j pos) X.env :: evalEach es X.env)) _ _ s
  have e : (out ++ x).length = out.length + x.length := strLen_append _ _
  exact joinParts_cons (Calls.Constant_str ⟨by rw [e]; omega, r pins _ σ H Q _ (I.tok _) (by rw [e]; omega) h⟩)
theorem pj_int {e : Expr} {te : TE} {pos} (he : PE X e te) (r : PJ X es n t) : PJ X (.FormattedValue e (-1) none pos :: es) (n + 2000) (fun σ H Q => te σ H fun v H1 => ∃ i, v = .int i ∧ (-(2 ^ 64) < i ∧ i < 2 ^ 64) ∧ t σ H1 Q) := by
  intro pins s σ H Q out I hl h
  show wpAny _ _ (joinParts out (eval (.FormattedValue e (-1) none pos) X.env :: evalEach es X.env)) _ _ s
  refine joinParts_cons (FormattedValue_plain (thn (he pins s σ H _ I h) fun u s1 ⟨v, H1, I1, rv, i, ev, hb, q⟩ => ?_))
  subst ev
  obtain ⟨tk, rfl⟩ := rv
  have hlog : i.natAbs.log2 < 1920 := by
    by_cases h0 : i.natAbs = 0
    · rw [h0]; decide
    · exact Nat.lt_of_lt_of_le ((Nat.log2_lt h0).mpr (show i.natAbs < 2 ^ 64 by omega)) (by decide)
  refine formatField_int_small hlog ?_
  have e1 := int_text_length_le (k := 1920) (by decide) hlog
  have e2 : (Str.ofString (toString i)).length ≤ 1921 := by rw [PySem.ofString_length]; exact e1
  have e : (out ++ Str.ofString (toString i)).length = out.length + (Str.ofString (toString i)).length := strLen_append _ _
  exact ⟨by show (out ++ Str.ofString (toString i)).length ≤ _; rw [e]; omega, r pins _ σ H1 Q _ (I1.tok _) (by show (out ++ Str.ofString (toString i)).length + n ≤ _; rw [e]; omega) q⟩
theorem pe_fstr {v1 v2 : Expr} {rest : List Expr} {pos} (h : PJ X (v1 :: v2 :: rest) n t) (hn : n ≤ sizeLine := by decide) : PE X (.JoinedStr (v1 :: v2 :: rest) pos) (tFstr t) := by
  intro pins s σ H Q I hq
  refine JoinedStr_many (thn (h pins s σ H _ Str.empty I (by show 0 + n ≤ _; omega) hq) fun u s' ⟨x, tk, H', e, I', q⟩ => ?_)
  exact ⟨.str x, H', I', ⟨tk, e⟩, q x⟩
end
/-! ### V13. try, except C as n -/
def Cx.tried (X : Cx) (pins : List (Addr × Obj)) (E' : Value → Shared → Prop) : Cx := { X with pn := X.pn ++ pins, xe := E' }
def Cx.caught (X : Cx) (a : Addr) : Cx := { X with A := X.A.mark (some (.ref a)), calm := false, xe := fun _ _ => False }
def ExAt (a C : Addr) : HO := .ext fun h => ∃ o, h.get? a = some o ∧ o.cls = .ref C
section
variable {X : Cx} {pins pins' : List (Addr × Obj)} {σ : St} {H H' : Hp} {s s' : Shared} {E' : Value → Shared → Prop} {a C : Addr} {a0 : Value} {B : Heap}
theorem Cx.Ok.tried (ok : X.Ok) : (X.tried pins E').Ok := ⟨ok.mod, ok.kind, ok.glob, ok.blt, ok.above, ok.inj, ok.has, ok.cab, ok.hd, ok.frames, ok.stk, ok.exf, ok.bs, ok.bsz, ok.noex, ok.exfs, ok.funs, ok.frf⟩
theorem Cx.Ok.untried (ok : (X.tried pins E').Ok) : X.Ok := ⟨ok.mod, ok.kind, ok.glob, ok.blt, ok.above, ok.inj, ok.has, ok.cab, ok.hd, ok.frames, ok.stk, ok.exf, ok.bs, ok.bsz, ok.noex, ok.exfs, ok.funs, ok.frf⟩
theorem Cx.Ok.caught (ok : X.Ok) : (X.caught a).Ok := ⟨ok.mod, ok.kind, ok.glob, ok.blt, ok.above, ok.inj, ok.has, ok.cab, fun z => (nomatch z), ok.frames, ok.stk, ok.exf, ok.bs, ok.bsz, ok.noex, ok.exfs, ok.funs, ok.frf⟩
theorem Inv.tried (I : Inv X pins σ H s) : Inv (X.tried pins E') [] σ H s := ⟨I.ok.tried, I.os, I.bare, I.base, I.loc, I.cell, I.free, I.freeC, fun p hp => I.pin p (by simpa [Cx.tried] using hp), I.hok, I.len⟩
theorem Inv.untried (I : Inv (X.tried pins E') pins' σ H s) : Inv X pins σ H s := ⟨I.ok.untried, I.os, I.bare, I.base, I.loc, I.cell, I.free, I.freeC, fun p hp => I.pin p (List.mem_append_left _ hp), I.hok, I.len⟩
theorem Inv.caught (I : Inv X pins σ H s) : Inv (X.caught a) pins σ H s := ⟨I.ok.caught, I.os, I.bare, I.base, I.loc, I.cell, I.free, I.freeC, I.pin, I.hok, I.len⟩
theorem Inv.uncaught (I : Inv (X.caught a) pins σ H s) (ok : X.Ok) : Inv X pins σ H s := ⟨ok, I.os, I.bare, I.base, I.loc, I.cell, I.free, I.freeC, I.pin, I.hok, I.len⟩
theorem SP.untried {D : Ends} {f : Flow} (h : SP (X.tried pins E') [] D f s') : SP X pins D f s' := by
  cases f with
  | next => obtain ⟨σ', H', I, q⟩ := h; exact ⟨σ', H', I.untried, q⟩
  | brk => obtain ⟨σ', H', I, q⟩ := h; exact ⟨σ', H', I.untried, q⟩
  | cont => obtain ⟨σ', H', I, q⟩ := h; exact ⟨σ', H', I.untried, q⟩
  | ret u => obtain ⟨v, σ', H', I, r, q⟩ := h; exact ⟨v, σ', H', I.untried, r, q⟩
/-- an exception has come to the frame that catches it -/
def Landed (X : Cx) (pins : List (Addr × Obj)) (σ : St) (a C : Addr) (H' : Hp) (s' : Shared) : Prop :=
  ∃ (H : Hp) (s : Shared) (a0 : Value) (B : Heap), Inv X pins σ H s ∧ Flies X.prog X.w X.stack H s a B H' s' ∧ Heap.FlyingW B X.stack a (.ref C) a0 s'.heap
theorem Flies.fresh (F : Flies X.prog X.w X.stack H s a B H' s') (fl : Heap.FlyingW B X.stack a (.ref C) a0 s'.heap) : H' a = none := by
  cases q : H' a with
  | none => rfl
  | some u =>
    obtain ⟨o, e⟩ := F.trk a u q
    rw [fl.2.1] at e
    cases e
theorem Landed.fresh (L : Landed X pins σ a C H' s') : H' a = none := let ⟨_, _, _, _, _, F, fl⟩ := L; F.fresh fl
theorem Landed.inv (L : Landed X pins σ a C H' s') : Inv X pins σ (upd H' a (ExAt a C)) s' := by
  have na := L.fresh
  obtain ⟨H, s, a0, B, I, F, fl⟩ := L
  have ne : ∀ b o, s.heap.get? b = some o → b ≠ a := fun b o e z => by rw [z, F.new] at e; cases e
  refine I.call' (ch := []) F.os ⟨F.un.keep, F.un.slot, fun b o e n hx => ?_, F.un.there, fun b xs e => ?_, fun b o xs e => ?_, fun b ps e => ?_⟩ (fun b o e => ?_) F.bare (fun b z => absurd z (by simp))
  · rw [upd_ne (ne b o e)]
    exact F.un.free b o e n hx
  · have q := F.un.tups b xs e
    rw [upd_ne (ne_of_none q na)]
    exact q
  · have q := F.un.frzs b o xs e
    rw [upd_ne (ne_of_none q na)]
    exact q
  · obtain ⟨m, q⟩ := F.un.tbls b ps e
    exact ⟨m, by rw [upd_ne (ne_of_none q na)]; exact q⟩
  · by_cases hb : b = a
    · subst hb
      rw [upd_same] at e
      cases e
      obtain ⟨ob, h1, h2⟩ := fl.there
      exact ⟨⟨ob, h1, h2⟩, ⟨ob, h1⟩, fun g1 g2 ⟨o, e1, e2⟩ k => ⟨o, k o e1, e2⟩⟩
    · rw [upd_ne hb] at e
      exact (F.hok b o e).stay (fun _ _ _ q => q) (fun c q => by rw [upd_ne (ne_of_none q na)]; exact q) fun c xs q => by rw [upd_ne (ne_of_none q na)]; exact q
theorem Landed.on {h' : Heap} (L : Landed X pins σ a C H' s') (h : ∀ (B : Heap) (a0 : Value), Heap.FlyingW B X.stack a (.ref C) a0 s'.heap → Heap.FlyingW B X.stack a (.ref C) a0 h') (sm : s'.heap.UpToSlots h') : Landed X pins σ a C H' { s' with heap := h' } := by
  obtain ⟨H, s, a0, B, I, F, fl⟩ := L
  have fl' := h B a0 fl
  exact ⟨H, s, a0, B, I, F.on I.frOk fl'.1 sm, fl'⟩
def Catches (X : Cx) (pins : List (Addr × Obj)) (E' : Value → Shared → Prop) (Ek : XK) (σ : St) : Prop := ∀ H a C H' s' (s : Shared) (a0 : Value) (B : Heap), Inv X pins σ H s → Flies X.prog X.w X.stack H s a B H' s' → Heap.FlyingW B X.stack a (.ref C) a0 s'.heap → Ek (.ref C) none H' → E' (.ref a) s'
end
/-- a call that may raise, straight in a try -/
def tCallT (sp : Sp) (σ0 : St) (Ek : XK) (t : TA) : TE := fun σ H Q => σ = σ0 ∧ t σ H fun vs H1 => sp vs H1 Q Ek
section
variable {X : Cx} {pins : List (Addr × Obj)} {E' : Value → Shared → Prop} {Ek : XK} {σ0 : St} {k j : Nat} {x : Str} {p pos : Pos} {e : Expr} {es : List Expr} {t : TA} {ps : List Str} {sp : Sp}
theorem pe_callT (O : Ok X.prog X.w X.K X.mg X.base (CXE X.prog X.w) k x ps sp) (hr : Room j X.A) (hc : Catches X pins E' Ek σ0) (hg : Gl (X.tried pins E') x) (ha : PA (X.tried pins E') (e :: es) t) (hle : k ≤ j := by decide) (hdb : (x == ("__debug__" : Str)) = false := by decide)
    (he : starEach (e :: es) (X.tried pins E').env = (false, eval e (X.tried pins E').env) :: starEach es (X.tried pins E').env := by rfl) (hpl : (backTo pos (starEach es (X.tried pins E').env)).any (·.1) = false := by rfl) :
    PE (X.tried pins E') (.Call (.Name x p) (e :: es) [] pos) (tCallT sp σ0 Ek t) := by
  intro pins' s σ H Q I h
  obtain ⟨f, fd, F, b, kp, m⟩ := O
  obtain ⟨eσ, h⟩ := h
  subst eσ
  refine wpAny_Call_Name_kw (ld_glob I hg m ?_ hdb)
  refine PySem.W.callWith_K (h₀ := X.base) I.ok.mod.kin kp (thn (ha pos pins' s σ H _ I h) fun us s1 ⟨vs, H1, I1, r, q⟩ => ⟨I1.kIn, ?_⟩) he hpl
  have hl : us.length = ps.length := by rw [← r.length]; exact F.len _ _ _ _ q
  have hbd : BindsTo s1 fd ⟨us, []⟩ (ps.zip us) := by
    have := b s1 us I1.kIn (by rw [List.append_nil]; exact hl)
    rw [List.append_nil] at this
    exact this
  refine wpAny_call (codeAny_mono (F.run X.A X.stack s1 H1 ⟨us, []⟩ us vs Q Ek (hr.mono hle) I1.env0 hbd r q) fun r s' hq => ?_)
  cases r with
  | error ev =>
    obtain ⟨a, C, a0, B, H', e1, Fl, fl, hE⟩ := hq
    subst e1
    exact hc H1 a C H' s' s1 a0 B I1.untried Fl fl hE
  | ok fl =>
    cases fl with
    | ret u => exact I1.after hq
    | next => exact False.elim hq
    | brk => exact False.elim hq
    | cont => exact False.elim hq
end
/-- a name of the frame goes; nothing is said of the others -/
theorem Inv.forget {X : Cx} {pins : List (Addr × Obj)} {σ : St} {H : Hp} {s : Shared} {h' : Heap} {m' : Str → Option Value} {t' : Nat} (I : Inv X pins σ H s) (hn : h'.Ns X.env.locals m') (sb : Heap.SameBut X.env.locals s.heap h') : Inv X pins (List.replicate X.N.length none) H { s with heap := h', toks := t' } := by
  have ne0 : ∀ b o, X.s₀.heap.get? b = some o → b ≠ X.env.locals := fun b o e => Nat.ne_of_lt (Nat.lt_of_lt_of_le (Heap.lt_size e) I.ok.above)
  refine ⟨I.ok, I.os, I.bare, ⟨fun b o e n hb hx => (sb.2 b (ne0 b o e)).trans (I.base.keep b o e n hb hx), fun b o e n hb hx => ?_, I.base.free, fun b o e hx => ?_, I.base.tups, I.base.frzs, I.base.tbls⟩, ⟨m', hn, fun j y v e1 e2 e3 => ?_⟩, fun y c e => ?_, I.free, I.freeC, fun p hp => ?_, fun b ob e => ?_, by simp⟩
  · obtain ⟨sl, q⟩ := I.base.slot b o e n hb hx
    exact ⟨sl, (sb.2 b (ne0 b o e)).trans q⟩
  · obtain ⟨o', q⟩ := I.base.there b o e hx
    exact ⟨o', (sb.2 b (ne0 b o e)).trans q⟩
  · rw [List.getElem?_replicate] at e2
    split at e2 <;> cases e2
  · obtain ⟨v, z⟩ := I.cell y c e
    exact ⟨v, z.sameBut sb (I.cne y c e)⟩
  · obtain ⟨e, n, ne, nf, dd⟩ := I.pin p hp
    exact ⟨(sb.2 p.1 ne).trans e, n, ne, nf, dd⟩
  · refine (I.hok b ob e).stay (fun c u hc q => (sb.2 c fun z => ?_).trans q) (fun _ q => q) fun _ _ q => q
    rcases hc with hc | hc
    · rw [← hc, z, I.free] at e
      cases e
    · rw [z, I.free] at hc
      cases hc
/-- the clauses; C: the exception's class, a: where it stands -/
abbrev TH := Addr → Addr → Ends → St → Hp → Prop
def PH (X : Cx) (hs : List ExceptHandler) (t : TH) : Prop := ∀ (pins : List (Addr × Obj)) (σ : St) (H' : Hp) (s' : Shared) (a C : Addr) (D : Ends), Landed X pins σ a C H' s' → t C a D σ H' → wpAny (model X.prog X.w) X.A (handleBy (.ref a) X.env hs) (SP X pins D) X.xe s'
def noClause : TH := fun _ _ _ _ _ => False
theorem ph_nil {X : Cx} : PH X [] noClause := fun _ _ _ _ _ _ _ _ h => h.elim
section
variable {M : Model} {A : Around} {E : Value → Shared → Prop} {h : Heap} {g : Array GenState} {d : Drawn} {t : Nat} {os : OsState}
theorem excMatches_own {nm q nm' q' : Str} {C N D N' : Addr} {bs bm bs' bm' : List Value} {hdct hdct' : Bool} {sn sn' : List Str} {sub sub' : List Value} {ab ab' : Bool} {col col' : Option Bool} {dd dd' : Option Addr} {k0 k1 k2 k3 k5 j0 j1 j2 j3 j5 : Option Value} {newId newId' : String}
    {e : Addr} {oe : Obj} {Q : Bool → Shared → Prop} (hC : h.get? C = some (excClassObj nm q C N bs bm hdct sn sub ab col dd k0 k1 k2 k3 k5 newId)) (hD : h.get? D = some (excClassObj nm' q' D N' bs' bm' hdct' sn' sub' ab' col' dd' j0 j1 j2 j3 j5 newId'))
    (he : h.get? e = some oe) (hcls : oe.cls = .ref C) (hbase : bm'.contains (.type "BaseException") = true) {b : Bool} (hb : (Value.ref C :: bm).contains (.ref D) = b) (hq : Q b ⟨h, g, d, t, os⟩) : wpAny M A (excMatches (.ref e) (.ref D)) Q E ⟨h, g, d, t, os⟩ := by
  have hcB : (Value.ref D :: bm').contains (.type "BaseException") = true := by rw [List.contains_cons, hbase, Bool.or_true]
  have f := tc_notTuple
  unfold excMatches
  repeat (first | (with_reducible refine wpAny_loadPart_at he ?_; rw [hcls]) | with_reducible refine wpAny_loadPart_at hD ?_ | (with_reducible refine wpAny_isSubtype_exc hD ?_; rw [hcB]) | (with_reducible refine wpAny_isSubtype_exc hC ?_; rw [hb]) | wp_step)
  cases b <;> (repeat wp_step) <;> exact hq
end
/-- what the handler's suite is to end with: only a return -/
def Ends.only (D : Ends) : Ends := { nx := fun _ _ => False, rt := D.rt }
section
variable {X : Cx} {i : Nat} {x n y : Str} {np pos : Pos} {b₀ : Stmt} {suite : List Stmt} {rest : List ExceptHandler} {ts : TS} {tr : TH}
def tClause (K : PySem.W.Frag) (mg : Str → Option Value) (Dc : Addr) (i : Nat) (ts : TS) (tr : TH) : TH := fun C a D σ H => ∃ (y : Str) (bm : List Value) (b : Bool), Exc K mg y C bm ∧ (Value.ref C :: bm).contains (.ref Dc) = b ∧
  if b = true then (∀ a, H a = none → ts D.only (σ.set i (some (.ref a))) (upd H a (ExAt a C))) else tr C a D σ H
theorem ph_as {Dc : Addr} {bmD : List Value} (O : Exc X.K X.mg x Dc bmD) (hg : Gl X x) (hN : X.N.Nodup) (hi : X.N[i]? = some n) (hl : X.env.scope.names.lookup n = some .local) (hs : ∀ a, PSs (X.caught a) (b₀ :: suite) ts) (hr : PH X rest tr)
    (hk : X.env.kindOf n = some .local := by rfl) (hdb : (x == ("__debug__" : Str)) = false := by decide) : PH X (.ExceptHandler (some (.Name x np)) (some n) (b₀ :: suite) pos :: rest) (tClause X.K X.mg Dc i ts tr) := by
  intro pins σ H' s' a C D L h
  obtain ⟨y, bm, b, OC, hb, h⟩ := h
  have I := L.inv
  have ok := I.ok
  obtain ⟨Nn, nm, q, bs, hdct, sn, sub, ab, col, dd, k0, k1, k2, k3, k5, lkD, _, _, _⟩ := O.obj
  obtain ⟨Nn', nm', q', bs', hdct', sn', sub', ab', col', dd', j0, j1, j2, j3, j5, lkC, _, _, _⟩ := OC.obj
  have hbase := O.base I.kIn
  refine wpAny_handleBy_cons (codeAny_handlers_test (ld_glob (X := X.caught a) (I.caught (a := a)) hg O.bound ?_ hdb)) (by intro z; cases z)
  obtain ⟨oe, he, hcls⟩ : ∃ o, s'.heap.get? a = some o ∧ o.cls = .ref C := (I.hok a _ upd_same).1
  have hC := I.kIn _ _ lkC
  have hD := I.kIn _ _ lkD
  obtain ⟨hp, g, d, tk, os⟩ := s'
  refine excMatches_own hC hD he hcls hbase hb ?_
  cases b with
  | false => exact hr pins σ H' _ a C D L h
  | true =>
    have h : ∀ a, H' a = none → ts D.only (σ.set i (some (.ref a))) (upd H' a (ExAt a C)) := h
    refine codeAny_handlers_suite_as ?_
    obtain ⟨H0, s0, a0, B, I0, F0, fl0⟩ := id L
    refine lands_againW fl0 fun h6 fl6 sm6 => ?_
    have L6 : Landed X pins σ a C H' ⟨h6, g, d, tk, os⟩ := ⟨H0, s0, a0, B, I0, F0.on I0.frOk fl6.1 sm6, fl6⟩
    refine store_ok (X := X) (v := .ref a) L6.inv hN hi (.inl hl) rfl (fun s7 I7 => ?_) (.inr hl)
    refine wpAny_mono (hs a pins s7 _ _ D.only I7.caught (h a L.fresh)) (fun f s8 q8 => ?_) (fun _ _ z => False.elim z)
    cases f with
    | next => obtain ⟨_, _, _, z⟩ := q8; exact False.elim z
    | brk => obtain ⟨_, _, _, z⟩ := q8; exact False.elim z
    | cont => obtain ⟨_, _, _, z⟩ := q8; exact False.elim z
    | ret u =>
      obtain ⟨v, σ8, H8, I8, r8, q8⟩ := q8
      obtain ⟨m8, ns8, _⟩ := I8.loc
      refine wpAny_nameGoes hk ns8 (by rw [ok.kind]; rfl) fun h9 m9 ns9 sb9 => ?_
      exact ⟨v, _, H8, (I8.uncaught ok).forget ns9 sb9, r8, q8⟩
def tTry (tb : XK → St → TS) (th : TH) : TS := fun D σ H => tb (fun c _ H' => ∃ C, c = .ref C ∧ ∀ a, H' a = none → th C a D σ H') σ D σ H
theorem ps_try {body : List Stmt} {h₀ : ExceptHandler} {hs : List ExceptHandler} {tb : XK → St → TS} {th : TH} (hX : X.stack = X.env :: X.outer) (hf : X.env.frame = some X.env.locals)
    (hb : ∀ (pins : List (Addr × Obj)) (E' : Value → Shared → Prop) (Ek : XK) (σ0 : St), Catches X pins E' Ek σ0 → PSs (X.tried pins E') body (tb Ek σ0)) (hh : PH X (h₀ :: hs) th) : PS X (.Try body (h₀ :: hs) [] [] pos) (tTry tb th) := by
  intro pins s σ H D I h
  refine wpAny_Try_except (wpAny_mono (hb pins _ _ σ (fun H1 a C H' s' s1 a0 B I1 F fl hE => ?_) [] s σ H D I.tried h) (fun f s1 q => ?_) fun _ _ z => z)
  · obtain ⟨C', eC, hth⟩ := hE
    cases eC
    have fl1 := fl
    rw [hX] at fl1
    have hfr : X.A.frames = some (X.env :: X.outer) := by rw [I.ok.frames, hX]
    refine wpAny_looks_onW hfr hf fl1 fun h4 held sm4 => ?_
    refine wpAny_landsW held fun h5 fl5 sm5 => ?_
    rw [← hX] at fl5
    exact hh pins σ H' _ a C D ⟨H1, s1, a0, B, I1, F.on I1.frOk fl5.1 (sm4.trans sm5), fl5⟩ (hth a (F.fresh fl))
  · cases f with
    | next => exact wpAny_execs_nil (SP.untried (f := .next) q)
    | brk => exact SP.untried (f := .brk) q
    | cont => exact SP.untried (f := .cont) q
    | ret u => exact SP.untried (f := .ret u) q
theorem PS.nox {X : Cx} {st : Stmt} {t : TS} (h : PS X.nox st t) : PS X st t := fun pins s σ H D I hw =>
  wpAny_mono (h pins s σ H D (I.wish _) hw) (fun _ _ q => q.unwish) fun _ _ z => z.elim
end
section
variable {P : Program} {w : World} {K : PySem.W.Frag} {mg : Str → Option Value} {base : Heap}
/-- a def that may raise -/
theorem Src.okE {x qual : Str} {st : Stmt} {N ps : List Str} {k : Nat} {sp : Sp} (F : Src K mg x qual st ps) (S : FnScope N ps (defScope st)) (len : ∀ vs H Q E, sp vs H Q E → vs.length = ps.length)
    (hbody : ∀ (f : Addr) (cdv : Value) (A : Around) (outer : List Env) (s : Shared) (H : Hp) (vs : List V) (Q : VK) (E : XK), Room k (A.deeper (envOfC qual (defScope st) s.heap.objs.size f cdv)) → sp vs H Q E →
      ∃ t, PSs (cxOf (CXE P w) P w K mg base N qual (defScope st) f cdv A outer s H E) (defBody st) t ∧ t { nx := fun _ H' => Q .non H', rt := Q } (start N vs) H) : Ok P w K mg base (CXE P w) (k + 1) x ps sp := by
  obtain ⟨f, fd, F, b, m⟩ := F
  obtain ⟨oc, od, kV, doc, pm, an, cdv, ct, osl, rfl, lk, hcd⟩ := F.ex
  exact ⟨f, _, fn_of lk hcd S len fun A outer s H vs Q E hr hsp => hbody f cdv A outer s H vs Q E hr hsp, b, F.kp, m⟩
end
/-! a raising def called in a def that lets the exception pass -/
section
variable {P : Program} {w : World} {K : PySem.W.Frag} {mg : Str → Option Value} {base : Heap} {N : List Str} {qual : Str} {scope : Scope} {f : Addr} {cd : Value} {A : Around} {outer : List Env} {s0 : Shared} {H0 : Hp} {E : XK} {k j : Nat} {x : Str} {p pos : Pos} {e : Expr} {es : List Expr} {t : TA} {ps : List Str} {sp : Sp}
theorem pe_callP (O : Ok P w K mg base (CXE P w) k x ps sp) (hr : Room j (cxOf (CXE P w) P w K mg base N qual scope f cd A outer s0 H0 E).A) (hg : Gl (cxOf (CXE P w) P w K mg base N qual scope f cd A outer s0 H0 E) x) (ha : PA (cxOf (CXE P w) P w K mg base N qual scope f cd A outer s0 H0 E) (e :: es) t)
    (hle : k ≤ j := by decide) (hdb : (x == ("__debug__" : Str)) = false := by decide) (he : starEach (e :: es) (cxOf (CXE P w) P w K mg base N qual scope f cd A outer s0 H0 E).env = (false, eval e (cxOf (CXE P w) P w K mg base N qual scope f cd A outer s0 H0 E).env) :: starEach es (cxOf (CXE P w) P w K mg base N qual scope f cd A outer s0 H0 E).env := by rfl)
    (hpl : (backTo pos (starEach es (cxOf (CXE P w) P w K mg base N qual scope f cd A outer s0 H0 E).env)).any (·.1) = false := by rfl) :
    PE (cxOf (CXE P w) P w K mg base N qual scope f cd A outer s0 H0 E) (.Call (.Name x p) (e :: es) [] pos) (tCall sp [] E t) := by
  obtain ⟨g, fd, F, b, kp, m⟩ := O
  exact pe_call F (hr.mono hle) hg m kp b .nil passE ha hdb he hpl
end
/-! ### V14. isinstance of an exception -/
theorem exAnswers {K : PySem.W.Frag} {a C : Addr} {c : Value} (e : PySem.W.kitOne K (.ref C) c = some true) : Answers (fun s => K.In s.heap ∧ ∃ o, s.heap.get? a = some o ∧ o.cls = .ref C) (.ref a) c true := by
  intro dep tk prog w A R s ⟨⟨X, o, h1, h2⟩, hq⟩
  obtain ⟨hp, g, d, tt, os⟩ := s
  have LT : PySem.W.Looks (model prog w) hp (typeOf (.ref a)) (.ref C) := h2 ▸ (PySem.W.Looks.ld h1).andThen .now
  unfold PySem.W.kitOne at e
  unfold Builtin.«isinstance.nested»
  refine wpAny_bind (LT.at ?_)
  by_cases q : (Value.ref C == c) = true
  · rw [if_pos q]
    first | exact wpAny_bind (wpAny_rule (hq tt)) | exact wpAny_bind (wpAny_rule (wpAny_pure (hq tt)))
  · rw [if_neg q] at e ⊢
    obtain ⟨z1, z2, z3⟩ := PySem.W.kit_cls (M := model prog w) X e
    refine wpAny_bind (z1.at ?_)
    rw [if_pos (by decide)]
    k_delta "plainIsInstance"
    have LI : PySem.W.Looks (model prog w) hp (isInstance (.ref a) c) true := LT.andThen z3
    refine wpAny_bind (wpAny_bind (z2.at ?_))
    simp only [Bool.not_true, Bool.false_eq_true, if_false]
    refine wpAny_bind (LI.at ?_)
    first
      | exact wpAny_pure (wpAny_pure (hq tt))
      | (simp only [if_true]; first | exact wpAny_pure (wpAny_pure (hq tt)) | exact wpAny_pure (hq tt))
theorem call_isinstX {X : Cx} : CallR X (.builtin "isinstance") (fun xs H Q => ∃ (a C : Addr) (vc : V) (v : Value), xs = [.ref a, vc] ∧ H a = some (ExAt a C) ∧ tyV? vc = some v ∧ PySem.W.kitOne X.K (.ref C) v = some true ∧ Q (.bl true) H) := by
  intro pins s σ H xs us Q I r h
  obtain ⟨a, C, vc, v, rfl, ha, hc, hk, q⟩ := h
  obtain ⟨u1, u2, rfl, r1, r2⟩ := r.two
  cases r1
  have e2 : u2 = v := by
    cases vc with
    | ty T => cases hc; exact r2
    | ref D => cases hc; exact r2
    | _ => cases hc
  subst e2
  have he : ∃ o, s.heap.get? a = some o ∧ o.cls = .ref C := (I.hok a _ ha).1
  exact call_isinstance (S := fun _ R s => (X.K.In s.heap ∧ ∃ o, s.heap.get? a = some o ∧ o.cls = .ref C) ∧ ∀ tk, R (.ok (.ret (.bool true))) { s with toks := tk })
    (fun prog w A R s hs => isinstance_outer (exAnswers hk 0 _ prog w A R s hs) (by intro z; cases z)) ⟨⟨I.kIn, he⟩, fun tk => ⟨.bl true, H, I.tok tk, rfl, q⟩⟩
theorem call_isinstXK {X : Cx} (K : PySem.W.Frag) (hK : X.K = K := by rfl) : CallR X (.builtin "isinstance") (fun xs H Q => ∃ (a C : Addr) (vc : V) (v : Value), xs = [.ref a, vc] ∧ H a = some (ExAt a C) ∧ tyV? vc = some v ∧ PySem.W.kitOne K (.ref C) v = some true ∧ Q (.bl true) H) := by
  subst hK
  exact call_isinstX
end L2

namespace L2
open PySem PySem.Spec PyProof.Rows
/-! ### V15. ways that meet: J is what holds where they do -/
def tJoin (t : TS) : TS := fun D σ H => ∃ J : St → Hp → Prop, t { D with nx := J } σ H ∧ ∀ σ' H', J σ' H' → D.nx σ' H'
theorem ps_join {X : Cx} {st : Stmt} {t : TS} (h : PS X st t) : PS X st (tJoin t) := by
  intro pins s σ H D I ⟨J, h1, h2⟩
  refine thn (h pins s σ H _ I h1) fun f s1 q => ?_
  cases f with
  | next =>
    obtain ⟨σ', H', I', q⟩ := q
    exact ⟨σ', H', I', h2 _ _ q⟩
  | ret v => exact q
  | brk => exact q
  | cont => exact q
theorem valsI {ns : List Int} : ∀ {us : List Value}, IntsAre us ns → Vals (ns.map V.int) us := by
  induction ns with
  | nil => intro us r; cases r; exact .nil
  | cons n ns ih => intro us r; cases r; exact .cons ⟨_, rfl⟩ (ih (by assumption))
section
variable {X : Cx}
theorem call_sortedI : CallR X (.builtin "sorted") (fun xs H Q => ∃ (l : Addr) (ns : List Int), xs = [.ref l] ∧ SqL X.K H l (ns.map V.int) ∧ ns.length < 64 ∧ ∀ (p : Addr) (ms : List Int), ms.Perm ns → ms.Pairwise (· ≤ ·) → H p = none → Q (.ref p) (upd H p (.lst (ms.map V.int)))) := by
  intro pins s σ H xs us Q I r h
  obtain ⟨l, ns, rfl, hq, hl, q⟩ := h
  obtain ⟨u, rfl, ru⟩ := r.one
  cases ru
  obtain ⟨its, rv, pl, hz⟩ := I.list hq
  have ll : its.length = ns.length := by have := rv.length; rw [List.length_map] at this; exact this.symm
  refine sorted_ints pl.isList (intsAre_of rv) (by omega) fun out ms a1 a2 a3 => ?_
  obtain ⟨e, he⟩ := sortedAll_at s.heap its out
  have lm : ms.length = ns.length := a2.length_eq
  refine ⟨.ref (s.heap.objs.size + 1), _, I.laid (a := s.heap.objs.size + 1) (o := .lst (ms.map V.int)) (t' := s.toks) (fun b u q => sortedAll_old q) (Nat.le_succ _) ⟨by rw [List.length_map]; exact Nat.le_of_lt (small1000 (by omega)), out.toList, e, valsI a1, ?_⟩, rfl, q _ ms a2 a3 (I.hok.fresh (Nat.le_succ _))⟩
  exact he
end
end L2

namespace L2
open PySem PySem.Spec PyProof.Rows
open PySem.W (Dat kqdP kqdPs kqdOk)
/-! ### V16. values as data: lists and tuples to any depth -/
mutual
inductive RepD (H : Hp) : V → Dat → Prop
  | non : RepD H .non .none
  | int (i : Int) : RepD H (.int i) (.int i)
  | str (x : Str) : RepD H (.str x) (.str x)
  | bl (b : Bool) : RepD H (.bl b) (.bool b)
  | lst {a : Addr} {xs : List V} {ds : List Dat} (e : H a = some (.lst xs)) (r : RepDs H xs ds) : RepD H (.ref a) (.list ds)
  | tup {a : Addr} {xs : List V} {ds : List Dat} (e : H a = some (.tup xs)) (r : RepDs H xs ds) : RepD H (.ref a) (.tuple ds)
inductive RepDs (H : Hp) : List V → List Dat → Prop
  | nil : RepDs H [] []
  | cons {x : V} {d : Dat} {xs : List V} {ds : List Dat} (h : RepD H x d) (t : RepDs H xs ds) : RepDs H (x :: xs) (d :: ds)
end
mutual
theorem RepD.same {H H' : Hp} (s : Same H H') : ∀ {x : V} {d : Dat}, RepD H x d → RepD H' x d
  | _, _, .non => .non
  | _, _, .int i => .int i
  | _, _, .str x => .str x
  | _, _, .bl b => .bl b
  | _, _, .lst e r => .lst (s _ _ e) (RepDs.same s r)
  | _, _, .tup e r => .tup (s _ _ e) (RepDs.same s r)
theorem RepDs.same {H H' : Hp} (s : Same H H') : ∀ {xs : List V} {ds : List Dat}, RepDs H xs ds → RepDs H' xs ds
  | _, _, .nil => .nil
  | _, _, .cons h t => .cons (RepD.same s h) (RepDs.same s t)
end
theorem RepDs.ints {H : Hp} : ∀ (ns : List Int), RepDs H (ns.map V.int) (ns.map Dat.int)
  | [] => .nil
  | n :: ns => .cons (.int n) (RepDs.ints ns)
theorem RepDs.len {H : Hp} : ∀ {xs : List V} {ds : List Dat}, RepDs H xs ds → xs.length = ds.length
  | _, _, .nil => rfl
  | _, _, .cons _ t => by rw [List.length_cons, List.length_cons, RepDs.len t]
theorem RepDs.snoc {H : Hp} {x : V} {d : Dat} (h : RepD H x d) : ∀ {xs : List V} {ds : List Dat}, RepDs H xs ds → RepDs H (xs ++ [x]) (ds ++ [d])
  | _, _, .nil => .cons h .nil
  | _, _, .cons g t => .cons g (RepDs.snoc h t)
theorem RepDs.get {H : Hp} : ∀ {xs : List V} {ds : List Dat} {i : Nat} {x : V}, RepDs H xs ds → xs[i]? = some x → ∃ d, ds[i]? = some d ∧ RepD H x d
  | _, _, _, _, .nil, e => by simp at e
  | _, _, 0, _, .cons h _, e => by simp at e; subst e; exact ⟨_, rfl, h⟩
  | _, _, i + 1, x, .cons _ t, e => by
    obtain ⟨d, h1, h2⟩ := RepDs.get (i := i) (x := x) t (by simpa using e)
    exact ⟨d, by simpa using h1, h2⟩
section
variable {X : Cx} {pins : List (Addr × Obj)} {σ : St} {H : Hp} {s : Shared}
mutual
theorem RepD.reads (I : Inv X pins σ H s) : ∀ {x : V} {d : Dat} {u : Value} (n : Nat), RepD H x d → RelV x u → kqdOk n d = true → ∃ as, Reads s.heap u (kqdP d) as
  | _, _, _, _, .non, r, _ => ⟨_, by cases (show _ = Value.none from r); exact Reads.none⟩
  | _, _, _, _, .int i, r, _ => by obtain ⟨t, rfl⟩ := r; exact ⟨_, Reads.int i t⟩
  | _, _, _, _, .str x, r, _ => by obtain ⟨t, rfl⟩ := r; exact ⟨_, Reads.str x t⟩
  | _, _, _, n, .bl b, _, hk => by cases n <;> simp [kqdOk] at hk
  | _, _, _, 0, .lst _ _, _, hk => by simp [kqdOk] at hk
  | _, _, _, 0, .tup _ _, _, hk => by simp [kqdOk] at hk
  | _, _, _, n + 1, .lst (a := a) (xs := xs) e q, r, hk => by
    cases (show _ = Value.ref a from r)
    obtain ⟨_, its, m, rv, hg⟩ := (show ObjOk X.prog X.w H s.heap a (.lst xs) from I.hok a _ e)
    obtain ⟨as, p⟩ := RepDs.reads I n q rv (by simpa [kqdOk] using hk)
    rw [kqdP]
    exact ⟨_, Reads.list hg rfl rfl (by simpa using p)⟩
  | _, _, _, n + 1, .tup (a := a) (xs := xs) e q, r, hk => by
    cases (show _ = Value.ref a from r)
    obtain ⟨_, its, rv, o, hg, hc, m, hd⟩ := (show ObjOk X.prog X.w H s.heap a (.tup xs) from I.hok a _ e)
    obtain ⟨as, p⟩ := RepDs.reads I n q rv (by simpa [kqdOk] using hk)
    rw [kqdP]
    exact ⟨_, Reads.tuple hg hc hd (by simpa using p)⟩
theorem RepDs.reads (I : Inv X pins σ H s) : ∀ {xs : List V} {ds : List Dat} {us : List Value} (n : Nat), RepDs H xs ds → Vals xs us → (∀ d ∈ ds, kqdOk n d = true) → ∃ as, ReadsAll s.heap us (kqdPs ds) as
  | _, _, _, _, .nil, .nil, _ => ⟨_, ReadsAll.nil⟩
  | _, _, _, n, .cons h t, .cons r rs, hk => by
    obtain ⟨as, q⟩ := RepD.reads I n h r (hk _ (.head _))
    obtain ⟨bs, p⟩ := RepDs.reads I n t rs fun d hm => hk d (.tail _ hm)
    rw [kqdPs]
    exact ⟨_, ReadsAll.cons q p⟩
end
theorem shaped_of {d : Dat} {n : Nat} (h : kqdOk n d = true) (hn : n ≤ 9) : SeqAt.shaped (kqdP d) = true := by
  have l := PySem.W.kqd_lay n d h
  unfold SeqAt.shaped
  rw [l.1, Bool.true_and]
  exact decide_eq_true (Nat.le_trans l.2 (Nat.le_trans hn (by decide)))
/-- == and != of two such values; b: whether they are alike -/
theorem op_eqD (hu : X.A.units + 64 < cLine) : OpR X (compareOp .Eq) (fun x y H Q => ∃ d e b, RepD H x d ∧ RepD H y e ∧ kqdOk 8 d = true ∧ kqdOk 8 e = true ∧ (b = true ↔ d = e) ∧ Q (.bl b) H) := by
  intro pins s σ H x y v u Q I rx ry h
  obtain ⟨d, e, b, hx, hy, kd, ke, hb, q⟩ := h
  obtain ⟨as, ra⟩ := hx.reads I 8 rx kd
  obtain ⟨bs, rb⟩ := hy.reads I 8 ry ke
  have eb : PyData.eqv (kqdP d) (kqdP e) = b := Bool.eq_iff_iff.mpr ((PySem.W.kqd_eqv 8 d e 8 kd ke).trans hb.symm)
  exact eq_dataH ra rb (shaped_of kd (by decide)) (shaped_of ke (by decide)) hu (by rw [eb]; exact ⟨.bl b, H, I, rfl, q⟩)
theorem op_neD (hu : X.A.units + 64 < cLine) : OpR X (compareOp .NotEq) (fun x y H Q => ∃ d e b, RepD H x d ∧ RepD H y e ∧ kqdOk 8 d = true ∧ kqdOk 8 e = true ∧ (b = true ↔ d = e) ∧ Q (.bl !b) H) := by
  intro pins s σ H x y v u Q I rx ry h
  obtain ⟨d, e, b, hx, hy, kd, ke, hb, q⟩ := h
  obtain ⟨as, ra⟩ := hx.reads I 8 rx kd
  obtain ⟨bs, rb⟩ := hy.reads I 8 ry ke
  have eb : PyData.eqv (kqdP d) (kqdP e) = b := Bool.eq_iff_iff.mpr ((PySem.W.kqd_eqv 8 d e 8 kd ke).trans hb.symm)
  exact ne_dataH ra rb (shaped_of kd (by decide)) (shaped_of ke (by decide)) hu (by rw [eb]; exact ⟨.bl !b, H, I, rfl, q⟩)
end
end L2

namespace L2
open PySem PySem.Spec PyProof.Rows
/-! ### V17. enumerate(a list, start = an int) -/
theorem enumKw_new (l : Addr) (items : Array Value) (n : Nat) (k : Int) (tk : Tok) (hk : -(2 ^ 63) ≤ k ∧ k < 2 ^ 63) (dct : Option Addr) (sl : Array (Option Value)) :
    Meets (Builtin.«enumerate.__new__» ⟨[.type "enumerate", .ref l], [("start", .int k tk)]⟩) (fun _ R s => s.heap.get? l = some { cls := .type "list", dict := dct, data := .seq items n, slots := sl } ∧
      R (.ok (.ret (.ref (s.heap.push { cls := .type "list_iterator", data := .fields #[.ref l, .int 0 0] }).objs.size)))
        { s with heap := (s.heap.push { cls := .type "list_iterator", data := .fields #[.ref l, .int 0 0] }).push { cls := .type "enumerate", data := .fields #[.none, .bool false, .ref s.heap.objs.size, rawInt k, .none, .none] } }) :=
  .of_wp fun prog w A R s h => by
    obtain ⟨hp, g, d, tk0, os⟩ := s
    obtain ⟨hl, h⟩ := h
    have hsub := sub_enumerate
    have hL : Heap.IsList (Shared.heap ⟨hp, g, d, tk0, os⟩) l items := ⟨_, hl, rfl, n, rfl⟩
    have hfit : ¬ ((!Builtin.SmallTypes.fitsIndex k) = true) := by
      unfold Builtin.SmallTypes.fitsIndex
      simp
      omega
    wp_walk using AutoSeq1.wpAny_loadPart' hl
    refine wpAny_stack_any fun st => wpAny_pure ?_
    split
    · rename_i c _ _ _ _ _
      cases (c == Value.type "enumerate")
      · wp_walk using AutoSeq1.wpAny_loadPart' hl, wpAny_pyIter_list hL
        exact ⟨_, rfl, h⟩
      · wp_walk using AutoSeq1.wpAny_loadPart' hl, wpAny_pyIter_list hL
        exact ⟨_, rfl, h⟩
    · wp_walk using AutoSeq1.wpAny_loadPart' hl, wpAny_pyIter_list hL
      exact ⟨_, rfl, h⟩
theorem enumKw_type (a v : Value) : checkTypeCall "enumerate" ⟨[a], [("start", v)]⟩ = pure () := by kernel_rfl
theorem enumKw_make (a v : Value) : checkBuiltinCall "enumerate.__new__" ⟨[.type "enumerate", a], [("start", v)]⟩ = pure () := by kernel_rfl
theorem enumKw_init (a b v : Value) : argsOk "object.__init__" ⟨[a, b], [("start", v)]⟩ := by
  unfold argsOk
  rw [signature?_of (n := ['_', '_', 't', 'i', 'n', 'i', '_', '_']) (o := ['t', 'c', 'e', 'j', 'b', 'o']) (id := "object.__init__") (by kernel_rfl) F.owner_object]
  kernel_rfl
theorem objInitKw (self a : Value) (kw : List (Str × Value)) (hl : typeLookup (.type "enumerate") "__init__" = pure (some (.builtin "object.__init__"))) (hm : Bind.madeBy (.type "enumerate") = pure (some "enumerate.__new__")) :
    Meets (Builtin.«object.__init__» ⟨[self, a], kw⟩) (fun _ R s => s.TypeIs self "enumerate" ∧ R (.ok (.ret .none)) s) := by
  refine Meets.of_wp fun prog w A R s hs => ?_
  obtain ⟨hT, hq⟩ := hs
  have hne : (some "enumerate.__new__" != some "object.__new__") = true := by decide
  repeat (any_goals (first | assumption | wp_step))
  exact ⟨_, rfl, hq⟩
section
variable {prog : Program} {w : World} {A : Around} {E : Value → Shared → Prop} {s : Shared}
theorem call_enumKw {l : Addr} {items : Array Value} {k : Int} {tk : Tok} {Q : Value → Shared → Prop} (hk : -(2 ^ 63) ≤ k ∧ k < 2 ^ 63) (hL : s.heap.IsList l items)
    (h : ∀ h', IsEnum h' (s.heap.objs.size + 1) s.heap.objs.size k .none → h'.IsListIter s.heap.objs.size l 0 → (∀ b o, s.heap.get? b = some o → h'.get? b = some o) → Q (.ref (s.heap.objs.size + 1)) { s with heap := h' }) :
    wpAny (model prog w) A (call (.type "enumerate") [.ref l] [("start", .int k tk)]) Q E s := by
  obtain ⟨⟨c, dct, dt, sl⟩, hl, hc, n, hd⟩ := hL
  replace hc : c = .type "list" := hc
  replace hd : dt = .seq items n := hd
  subst hc hd
  have ft := F.called_enumerate
  obtain ⟨c0, tl, hmro⟩ := ft.mro
  have hmade := ft.made
  have hsub := ft.sub
  have hct := enumKw_type (.ref l) (.int k tk)
  refine wpAny_call (codeAny_of_tree ?_)
  show wpAny _ _ (callAny (.type "enumerate") _) _ _ _
  refine wpAny_pure ⟨Code.quiet_builtin _ (by decide +kernel), codeAny_builtin F.entry_type_call ?_⟩
  rw [Around.under_plain (weight_type_call_type "enumerate" [.ref l] [("start", .int k tk)]) (units_type_call_type "enumerate" [.ref l] [("start", .int k tk)])]
  have h1 := ft.notType
  have h2 := ft.canCreate
  repeat (any_goals (first | assumption | wp_step))
  refine codeAny_mono (codeAny_call_builtin ft.plain F.entry_enumerate_new (wpAny_of_eq (enumKw_make (.ref l) (.int k tk)) (enumKw_new l items n k tk hk dct sl prog w A.in1 (wants (fun obj s1 => s1.TypeIs obj "enumerate" ∧ Q obj s1) E) s ⟨hl, ?_⟩))) fun r s1 hr => ?_
  · have hz : (s.heap.push { cls := .type "list_iterator", data := .fields #[.ref l, .int 0 0] }).objs.size = s.heap.objs.size + 1 := Heap.size_push ..
    show _ ∧ _
    rw [hz]
    have he : IsEnum ((s.heap.push { cls := .type "list_iterator", data := .fields #[.ref l, .int 0 0] }).push { cls := .type "enumerate", data := .fields #[.none, .bool false, .ref s.heap.objs.size, rawInt k, .none, .none] }) (s.heap.objs.size + 1) s.heap.objs.size k .none := by
      have z := Heap.get?_push_size (s.heap.push { cls := .type "list_iterator", data := .fields #[.ref l, .int 0 0] }) (o := { cls := .type "enumerate", data := .fields #[.none, .bool false, .ref s.heap.objs.size, rawInt k, .none, .none] }) rfl
      rw [hz] at z
      exact z
    exact ⟨⟨_, he, rfl⟩, h _ he ⟨_, Heap.get?_push_of_some _ (Heap.get?_push_size _ rfl), rfl, rfl⟩ fun b o x => Heap.get?_push_of_some _ (Heap.get?_push_of_some _ x)⟩
  · cases r with
    | error e => exact hr
    | ok fl =>
      cases fl with
      | ret obj =>
        obtain ⟨hT, hQ⟩ := hr
        have hli := ft.init.lookup
        have hbi := ft.init.bind obj
        repeat (any_goals (first | assumption | wp_step))
        refine codeAny_mono (codeAny_call_builtin ft.init.plain F.entry_object_init (ft.init.check _ _ _ _ _ _ _ _ hT (enumKw_init obj (.ref l) (.int k tk)) (objInitKw obj (.ref l) [("start", .int k tk)] hli hmade prog w A.in1 (wants (fun r s2 => r = .none ∧ Q obj s2) E) s1 ⟨hT, rfl, hQ⟩))) fun r2 s2 hr2 => ?_
        cases r2 with
        | error e => exact hr2
        | ok fl2 =>
          cases fl2 with
          | ret r3 =>
            obtain ⟨e3, hq3⟩ := hr2
            subst e3
            repeat (any_goals (first | assumption | wp_step))
          | _ => exact hr2.elim
      | _ => exact hr.elim
end
def iEnumK (K : PySem.W.Frag) (ta : TA) (tk : TE) : TI := fun σ H R => ta σ H fun vs H1 => tk σ H1 fun v H2 => ∃ a xs, ∃ k : Nat, vs = [.ref a] ∧ v = .int (k : Int) ∧ k < 1000 ∧ SqL K H2 a xs ∧ R (Ite K a k) H2
section
variable {X : Cx}
theorem pi_enumK {elts : List Expr} {k1 : Nat} {tp : Pos} {a e : Expr} {ta : TA} {te : TE} {p pos kp : Pos} (hg : Gl X "enumerate") (hm : X.mg "enumerate" = none) (ha : PA X [a] ta) (he : PE X e te) (hs : starEach [a] X.env = [(false, eval a X.env)] := by rfl) :
    PI X (.Tuple elts k1 tp) (.Call (.Name "enumerate" p) [a] [⟨some "start", e, kp⟩] pos) (iEnumK X.K ta te) := by
  intro pins s σ H R I h
  have hz0 := ha pos pins s σ H _ I h
  rw [hs] at hz0
  refine wpAny_Call_Name_kw (ld_blt I hg hm boot_enumerate ?_)
  rw [hs]
  unfold callWith
  refine wpAny_bind (wpAny_holding (evalArgs_kwB rfl (thn hz0 fun us s1 hq1 => ?_)))
  obtain ⟨vs, H1, I1, r1, q1⟩ := hq1
  refine kws_cons (thn (he pins s1 σ H1 _ I1 q1) fun u s2 hq2 => kws_nil ?_)
  obtain ⟨v, H2, I2, r2, l, xs, k, e1, e2, hk, hq, q⟩ := hq2
  subst e1 e2
  obtain ⟨u1, rfl, ru⟩ := r1.one
  cases ru
  obtain ⟨tk, rfl⟩ := r2
  obtain ⟨its, rv, pl, hz⟩ := I2.list hq
  refine wpAny_bind (wpAny_standAt ?_)
  refine wpAny_bind (wpAny_pure ?_)
  refine wpAny_bind (call_enumKw (k := (k : Int)) ⟨by omega, by omega⟩ pl.isList fun h' a1 a2 a4 => ?_)
  refine wpAny_bind (wpAny_holding (wpAny_point (wpAny_pure ?_)))
  refine wpAny_pyIter_enum (s := { s2 with heap := h' }) a1 ?_
  refine ⟨_, [s2.heap.objs.size + 1, s2.heap.objs.size], _, _, H2, rfl, I2.kept (t' := s2.toks) fun c o z => a4 c o z, turn_enum l _ _ k (by simp), ⟨⟨_, a1⟩, a2⟩, ?_, q⟩
  refine fpNew I2 (fun c hc => I2.hok.fresh hc) fun c hc => ?_
  simp only [List.mem_cons, List.not_mem_nil, or_false] at hc
  rcases hc with z | z <;> rw [z]
  · exact Nat.le_add_right _ _
  · exact Nat.le_refl _
end
end L2

namespace L2
open PySem PySem.Spec PyProof.Rows
/-! ### V17. a def that is called within an except suite -/
/-- its body: whether something is handled isn't known -/
def cxQ (P : Program) (w : World) (K : PySem.W.Frag) (mg : Str → Option Value) (base : Heap) (N : List Str) (qual : Str) (scope : Scope) (f : Addr) (cd : Value) (A : Around) (outer : List Env) (s : Shared) (H : Hp) : Cx :=
  { cxOf CX0 P w K mg base N qual scope f cd A outer s H E0 with calm := false, xe := fun _ _ => False }
def QOk (P : Program) (w : World) (K : PySem.W.Frag) (mg : Str → Option Value) (base : Heap) (x : Str) (ps : List Str) (sp : Sp) : Prop :=
  ∃ f fd, ((∀ vs H Q E, sp vs H Q E → vs.length = ps.length) ∧ ∀ (A : Around) (outer : List Env) (s : Shared) (H : Hp) (args : Args) (us : List Value) (vs : List V) (Q : VK), A.depth < recursionLimit → Env0 P w K mg base A outer s H → BindsTo s fd args (ps.zip us) → Vals vs us → sp vs H Q E0 →
    codeAny (model P w) A (.call (.ref f) args) (CR CX0 outer P w H s Q E0) s) ∧ Binds K fd ps [] ∧ PySem.W.keepIn K (.ref f) = true ∧ mg x = some (.ref f)
section
variable {P : Program} {w : World} {K : PySem.W.Frag} {mg : Str → Option Value} {base : Heap}
theorem Src.okQ {x qual : Str} {st : Stmt} {N ps : List Str} {sp : Sp} (F : Src K mg x qual st ps) (S : FnScope N ps (defScope st)) (len : ∀ vs H Q E, sp vs H Q E → vs.length = ps.length)
    (hbody : ∀ (f : Addr) (cdv : Value) (A : Around) (outer : List Env) (s : Shared) (H : Hp) (vs : List V) (Q : VK), sp vs H Q E0 →
      ∃ t, PSs (cxQ P w K mg base N qual (defScope st) f cdv A outer s H) (defBody st) t ∧ t { nx := fun _ H' => Q .non H', rt := Q } (start N vs) H) : QOk P w K mg base x ps sp := by
  obtain ⟨f, fd, F, b, m⟩ := F
  obtain ⟨oc, od, kV, doc, pm, an, cdv, ct, osl, rfl, lk, hcd⟩ := F.ex
  refine ⟨f, _, ⟨len, fun A outer s H args us vs Q hr e0 hb r hsp => ?_⟩, b, F.kp, m⟩
  have hl := len _ _ _ _ hsp
  have KX : K.In s.heap := e0.mod.kin.keeps fun b o e => (e0.bs b o e).1
  have lim : s.heap.NoLimit := e0.mod.nolimit.keeps fun b o e => (e0.bs b o e).1
  refine codeAny_call_function hr (KX _ _ lk) rfl S.co S.gen rfl (PySem.W.codeRec_of KX hcd) (hb _ _ _ _ ?_)
  refine wpAny_newFunctionEnv_cells S.kind (fun ⟨n, v⟩ hy => ?_) fun env he s1 x => ?_
  · rcases S.par n (List.of_mem_zip hy).1 with q | q
    · exact .inl q
    · exact .inr ⟨q, PySem.W.cellsFrom_some _ _ _ (.inl q)⟩
  subst he
  refine ⟨lim.keeps x.toInCall.keep, codeAny_func ?_⟩
  obtain ⟨t, ht, hq⟩ := hbody f cdv A outer s H vs Q hsp
  have e1 : Env0 P w K mg base ({ A with handled := none } : Around) outer s H := ⟨e0.frames, e0.mod, e0.bs, e0.bsz, e0.funs, e0.frf, e0.hok, e0.bare⟩
  have I0 : Inv (cxOf CX0 P w K mg base N qual (defScope st) f cdv ({ A with handled := none } : Around) outer s H E0) [] (start N vs) H s1 := inv_start S rfl e1 hl r x
  have ok := I0.ok
  have I : Inv (cxQ P w K mg base N qual (defScope st) f cdv A outer s H) [] (start N vs) H s1 :=
    ⟨⟨ok.mod, ok.kind, ok.glob, ok.blt, ok.above, ok.inj, ok.has, ok.cab, fun z => (nomatch z), ok.frames, ok.stk, ok.exf, ok.bs, ok.bsz, ok.noex, ok.exfs, ok.funs, ok.frf⟩, I0.os, I0.bare, I0.base, I0.loc, I0.cell, I0.free, I0.freeC, I0.pin, I0.hok, I0.len⟩
  refine wpAny_mono (ht [] s1 (start N vs) H _ I hq) (fun fl s' hs => ?_) fun e s' hs => hs.elim
  cases fl with
  | ret u =>
    obtain ⟨v, σ', H', J, rv, q⟩ := hs
    exact ⟨v, H', J.os, J.bare, J.base, J.hok, rv, q⟩
  | next =>
    obtain ⟨σ', H', J, q⟩ := hs
    exact ⟨V.non, H', J.os, J.bare, J.base, J.hok, rfl, q⟩
  | brk =>
    obtain ⟨_, _, _, q⟩ := hs
    exact q.elim
  | cont =>
    obtain ⟨_, _, _, q⟩ := hs
    exact q.elim
/-- a method that may raise -/
theorem Fun.okE {x qual : Str} {st : Stmt} {f : Addr} {fd : FuncData} {N ps : List Str} {k : Nat} {sp : Sp} (F : Fun K x qual st f fd) (S : FnScope N ps (defScope st)) (len : ∀ vs H Q E, sp vs H Q E → vs.length = ps.length)
    (hbody : ∀ (cdv : Value) (A : Around) (outer : List Env) (s : Shared) (H : Hp) (vs : List V) (Q : VK) (E : XK), Room k (A.deeper (envOfC qual (defScope st) s.heap.objs.size f cdv)) → sp vs H Q E →
      ∃ t, PSs (cxOf (CXE P w) P w K mg base N qual (defScope st) f cdv A outer s H E) (defBody st) t ∧ t { nx := fun _ H' => Q .non H', rt := Q } (start N vs) H) : FnOk P w K mg base (CXE P w) (k + 1) f fd ps sp := by
  obtain ⟨oc, od, kV, doc, pm, an, cdv, ct, osl, rfl, lk, hcd⟩ := F.ex
  exact fn_of lk hcd S len fun A outer s H vs Q E hr hsp => hbody cdv A outer s H vs Q E hr hsp
end
section
variable {X : Cx} {j k : Nat} {x : Str} {p pos : Pos} {e : Expr} {es : List Expr} {t : TA} {ps : List Str} {sp : Sp}
theorem pe_callQ (O : QOk X.prog X.w X.K X.mg X.base x ps sp) (hr : X.A.depth < recursionLimit) (hg : Gl X x) (ha : PA X (e :: es) t) (hdb : (x == ("__debug__" : Str)) = false := by decide)
    (he : starEach (e :: es) X.env = (false, eval e X.env) :: starEach es X.env := by rfl) (hpl : (backTo pos (starEach es X.env)).any (·.1) = false := by rfl) : PE X (.Call (.Name x p) (e :: es) [] pos) (tCall sp [] E0 t) := by
  intro pins s σ H Q I h
  obtain ⟨f, fd, ⟨len, run⟩, hb, kp, m⟩ := O
  refine wpAny_Call_Name_kw (ld_glob I hg m ?_ hdb)
  refine PySem.W.callWith_K (h₀ := X.base) I.ok.mod.kin kp (thn (ha pos pins s σ H _ I h) fun us s1 ⟨vs, H1, I1, r, q⟩ => ⟨I1.kIn, ?_⟩) he hpl
  have q : sp vs H1 Q E0 := by rw [← List.append_nil vs]; exact q
  have hl : us.length = ps.length := by rw [← r.length]; exact len _ _ _ _ q
  have hbd : BindsTo s1 fd ⟨us, []⟩ (ps.zip us) := by
    have := hb s1 us I1.kIn (by rw [List.append_nil]; exact hl)
    rw [List.append_nil] at this
    exact this
  refine wpAny_call (codeAny_mono (run X.A X.stack s1 H1 ⟨us, []⟩ us vs Q hr I1.env0 hbd r q) fun r s' hq => ?_)
  cases r with
  | error e => exact False.elim hq
  | ok fl =>
    cases fl with
    | ret u => exact I1.after hq
    | next => exact False.elim hq
    | brk => exact False.elim hq
    | cont => exact False.elim hq
variable {pins : List (Addr × Obj)} {E' : Value → Shared → Prop} {Ek : XK} {σ0 : St} {C : Addr}
/-- a class that is made straight in a try, its __init__ may raise -/
def tMakeT (C : Addr) (sp : Sp) (σ0 : St) (Ek : XK) (t : TA) : TE := fun σ H Q => σ = σ0 ∧ t σ H fun vs H1 => ∀ x dx, H1 x = none → H1 dx = none → dx ≠ x →
  sp (.ref x :: vs) (upd (upd H1 dx (.own x)) x (.ins C dx [])) (fun v H2 => v = .non ∧ Q (.ref x) H2) Ek
theorem pe_makeT (O : MkOk X.prog X.w X.K X.mg X.base (CXE X.prog X.w) k x C ps sp) (hr : Room j X.A) (hc : Catches X pins E' Ek σ0) (hg : Gl (X.tried pins E') x) (ha : PA (X.tried pins E') (e :: es) t) (hle : k + 1 ≤ j := by decide) (hdb : (x == ("__debug__" : Str)) = false := by decide)
    (he : starEach (e :: es) (X.tried pins E').env = (false, eval e (X.tried pins E').env) :: starEach es (X.tried pins E').env := by rfl) (hpl : (backTo pos (starEach es (X.tried pins E').env)).any (·.1) = false := by rfl) :
    PE (X.tried pins E') (.Call (.Name x p) (e :: es) [] pos) (tMakeT C sp σ0 Ek t) := by
  intro pins' s σ H Q I h
  obtain ⟨f, fd, M, F, b, m⟩ := O
  obtain ⟨eσ, h⟩ := h
  subst eσ
  refine wpAny_Call_Name_kw (ld_glob I hg m ?_ hdb)
  refine PySem.W.callWith_K (h₀ := X.base) I.ok.mod.kin M.kp (thn (ha pos pins' s σ H _ I h) fun us s1 ⟨vs, H1, I1, r, q⟩ => ⟨I1.kIn, ?_⟩) he hpl
  have hq := q (s1.heap.objs.size + 1) s1.heap.objs.size (I1.hok.fresh (Nat.le_succ _)) (I1.hok.fresh (Nat.le_refl _)) (Nat.ne_of_lt (Nat.lt_succ_self _))
  have I2 := Inv.made (C := C) I1
  have r2 : Vals (V.ref (s1.heap.objs.size + 1) :: vs) (Value.ref (s1.heap.objs.size + 1) :: us) := .cons rfl r
  have hl : (Value.ref (s1.heap.objs.size + 1) :: us).length = ps.length := by
    have e := r2.length
    rw [F.len _ _ _ _ hq] at e
    exact e.symm
  have hbd := b _ (Value.ref (s1.heap.objs.size + 1) :: us) I2.kIn (by rw [List.append_nil]; exact hl)
  rw [List.append_nil] at hbd
  refine wpAny_call (make_map (f := f) I1.kIn M.makes M.init (beq_iff_eq.mp M.fn) (codeAny_mono (F.run _ X.stack _ _ ⟨Value.ref (s1.heap.objs.size + 1) :: us, []⟩ (Value.ref (s1.heap.objs.size + 1) :: us) _ _ Ek ((hr.mono hle).make C us [])
    (I2.env0.make C us []) hbd r2 hq) fun r s' hq' => ?_))
  cases r with
  | error ev =>
    obtain ⟨a, C', a0, B, H', e1, Fl, fl, hE⟩ := hq'
    subst e1
    exact hc _ a C' H' s' _ a0 B I2.untried Fl fl hE
  | ok fl =>
    cases fl with
    | ret u =>
      obtain ⟨v, H', I3, rv, ev, q3⟩ := I2.after hq'
      subst ev
      exact ⟨rv, ⟨V.ref (s1.heap.objs.size + 1), H', I3, rfl, q3⟩⟩
    | next => exact False.elim hq'
    | brk => exact False.elim hq'
    | cont => exact False.elim hq'
end
end L2
namespace L2
open PySem PySem.Spec PyProof.Rows
/-- what holds within an except suite holds elsewhere -/
theorem QOk.ok {P : Program} {w : World} {K : PySem.W.Frag} {mg : Str → Option Value} {base : Heap} {x : Str} {ps : List Str} {sp : Sp} {k : Nat} (O : QOk P w K mg base x ps sp) (h : ∀ vs H Q E, sp vs H Q E → sp vs H Q E0) : Ok P w K mg base CX0 k x ps sp := by
  obtain ⟨f, fd, ⟨len, run⟩, hb, kp, m⟩ := O
  refine ⟨f, fd, ⟨len, fun A outer s H args us vs Q E hr e0 hbd r hsp => ?_⟩, hb, kp, m⟩
  refine codeAny_mono (run A outer s H args us vs Q hr.depth e0 hbd r (h _ _ _ _ hsp)) fun r s' hq => ?_
  cases r with
  | error e => exact hq
  | ok fl => cases fl <;> exact hq
theorem boot_VE : bootBuiltins "ValueError" = some (.type "ValueError") := by kernel_rfl
end L2

namespace Veil
open PySem L2

/-! ### M1. what the text reckons, as functions over plain numbers and lists -/
def primes9 : List Int := [5, 7, 11, 13, 17, 19, 23, 29, 31]
def cellN (ns : List Int) (k : Int) : Int := ns.getD k.toNat 0
def mixI (c k m : Int) : Int := (c % 2147483647 + 12345) * (48271 + 6 * k) % 1000000007 / 7 % m
theorem mixI_nonneg {c k m : Int} (h : 0 < m) : 0 ≤ mixI c k m := Int.emod_nonneg _ (by omega)
theorem mixI_lt {c k m : Int} (h : 0 < m) : mixI c k m < m := Int.emod_lt_of_pos _ h
def tbP (c : Int) : Int := primes9.getD (c % 9).toNat 0
def tbN (c : Int) : Int := 3 + c / 9 % ((if tbP c - 1 < 7 then tbP c - 1 else 7) - 2)
def tbF (c : Int) : Int := if 4 < tbN c then (if c / 45 % 2 = 1 then 2 else 1) else 1
theorem tbP_mem (c : Int) : tbP c ∈ primes9 := by
  have h0 := Int.emod_nonneg c (show (9 : Int) ≠ 0 by decide)
  have h1 := Int.emod_lt_of_pos c (show (0 : Int) < 9 by decide)
  unfold tbP
  have h : (c % 9).toNat < 9 := by omega
  generalize (c % 9).toNat = k at h
  match k, h with
  | 0, _ | 1, _ | 2, _ | 3, _ | 4, _ | 5, _ | 6, _ | 7, _ | 8, _ => decide
theorem tbP_cases (c : Int) : tbP c = 5 ∨ tbP c = 7 ∨ tbP c = 11 ∨ tbP c = 13 ∨ tbP c = 17 ∨ tbP c = 19 ∨ tbP c = 23 ∨ tbP c = 29 ∨ tbP c = 31 := by
  have h := tbP_mem c
  simpa [primes9] using h
theorem tbP_lo (c : Int) : 5 ≤ tbP c := by have := tbP_cases c; omega
theorem tbP_hi (c : Int) : tbP c ≤ 31 := by have := tbP_cases c; omega
theorem tbN_b (c : Int) : 3 ≤ tbN c ∧ tbN c ≤ 7 ∧ tbN c < tbP c := by
  have h := tbP_cases c
  unfold tbN
  generalize hm : (if tbP c - 1 < 7 then tbP c - 1 else 7) - 2 = m
  have hb : 0 < m ∧ m ≤ 5 ∧ m ≤ tbP c - 3 := by
    rw [← hm]
    split <;> omega
  have h0 := Int.emod_nonneg (c / 9) (show m ≠ 0 by omega)
  have h1 := Int.emod_lt_of_pos (c / 9) hb.1
  omega
theorem tbF_b (c : Int) : (tbF c = 1 ∨ tbF c = 2) ∧ 2 * tbF c < tbN c := by
  have h := tbN_b c
  unfold tbF
  split
  · split <;> omega
  · omega
def isTB (p n f : Int) : Bool :=
  if (!inV (.int p) (primes9.map V.int)) = true then false else if (!inV (.int f) [.int 1, .int 2]) = true then false else (decide (3 ≤ n) && decide (n ≤ 7)) && (decide (n < p) && decide (2 * f < n))
theorem isTB_tb (c : Int) : isTB (tbP c) (tbN c) (tbF c) = true := by
  have h1 := tbN_b c
  obtain ⟨h2, h3⟩ := tbF_b c
  have e1 : inV (.int (tbP c)) (primes9.map V.int) = true := by
    rcases tbP_cases c with h | h | h | h | h | h | h | h | h <;> rw [h] <;> decide
  have e2 : inV (.int (tbF c)) [.int 1, .int 2] = true := by
    rcases h2 with h | h <;> rw [h] <;> decide
  unfold isTB
  rw [e1, e2]
  simp only [Bool.not_true, Bool.false_eq_true, if_false, Bool.and_eq_true, decide_eq_true_eq]
  omega

/-! ### M2. rows by a number -/
def polyV : List Int → Int → Int
  | [], _ => 0
  | r :: rs, a => r + a * polyV rs a
def worthL (p : Int) : List Int → Int → Int
  | [], _ => 0
  | r :: rs, a => (worthL p rs a * a + r) % p
def lawW (p a : Int) : List Int → Int → Int → Int
  | [], t, _ => t
  | r :: rs, t, q => lawW p a rs ((t + r * q) % p) (q * a % p)
theorem worthL_poly {p : Int} : ∀ (ns : List Int) (a : Int), worthL p ns a = polyV ns a % p
  | [], _ => by simp [worthL, polyV]
  | r :: rs, a => by
    rw [worthL, worthL_poly rs a, polyV, Int.add_emod, Int.mul_emod, Int.emod_emod_of_dvd _ (Int.dvd_refl p), ← Int.mul_emod, ← Int.add_emod, Int.mul_comm, Int.add_comm]
theorem lawW_poly {p a : Int} : ∀ (ns : List Int) (t q : Int), lawW p a ns t q % p = (t + q * polyV ns a) % p
  | [], t, q => by simp [lawW, polyV]
  | r :: rs, t, q => by
    rw [lawW, lawW_poly rs, polyV]
    have e1 : ((t + r * q) % p + q * a % p * polyV rs a) % p = ((t + r * q) + q * a * polyV rs a) % p := by
      rw [Int.add_emod, Int.emod_emod_of_dvd _ (Int.dvd_refl p), Int.mul_emod, Int.emod_emod_of_dvd _ (Int.dvd_refl p), ← Int.mul_emod, ← Int.add_emod]
    rw [e1]
    congr 1
    rw [Int.mul_add, Int.mul_assoc, Int.mul_comm r q]
    omega
theorem lawW_mod {p a : Int} (hp : 0 < p) : ∀ (ns : List Int) (t q : Int), (0 ≤ t ∧ t < p) → 0 ≤ lawW p a ns t q ∧ lawW p a ns t q < p
  | [], t, q, h => h
  | r :: rs, t, q, _ => lawW_mod hp rs _ _ ⟨Int.emod_nonneg _ (by omega), Int.emod_lt_of_pos _ hp⟩
theorem lawW_eq {p a : Int} (hp : 0 < p) (ns : List Int) : lawW p a ns 0 1 = worthL p ns a := by
  have h := lawW_poly (p := p) (a := a) ns 0 1
  have hb := lawW_mod (a := a) hp ns 0 1 ⟨Int.le_refl _, hp⟩
  rw [Int.emod_eq_of_lt hb.1 hb.2, Int.one_mul, Int.zero_add] at h
  rw [h, worthL_poly]
theorem worthL_b {p : Int} (hp : 0 < p) (ns : List Int) (a : Int) : 0 ≤ worthL p ns a ∧ worthL p ns a < p := by
  rw [worthL_poly]
  exact ⟨Int.emod_nonneg _ (by omega), Int.emod_lt_of_pos _ hp⟩
end Veil

namespace Veil
open PySem L2

/-! ### S1. what the top leaves -/
structure Blt (mg : Str → Option Value) : Prop where
  len : mg "len" = none
  range : mg "range" = none
  isinstance : mg "isinstance" = none
  min : mg "min" = none
  list : mg "list" = none
  int : mg "int" = none
  bool : mg "bool" = none
  tuple : mg "tuple" = none
  reversed : mg "reversed" = none
  zip : mg "zip" = none
  set : mg "set" = none
  all : mg "all" = none
  sum : mg "sum" = none
  sorted : mg "sorted" = none
  enumerate : mg "enumerate" = none
structure Tab (K : PySem.W.Frag) (C : Addr) : Prop where
  cl : Cls K C
  nP : NoAttr K C "prime"
  nH : NoAttr K C "hands"
  nF : NoAttr K C "few"
structure Pri (K : PySem.W.Frag) (mg : Str → Option Value) (pa : Addr) : Prop where
  gPRIMES : mg "PRIMES" = some (.ref pa)
  sq : ∀ H, SqT K H pa (primes9.map V.int)
theorem pri_mk {K : PySem.W.Frag} {mg : Str → Option Value} {pa : Addr} {dd : Option Addr} {its : Array Value} {n : Nat} {sl : Array (Option Value)} (g : mg "PRIMES" = some (.ref pa)) (l : K.lookup pa = some ⟨.type "tuple", dd, .seq its n, sl⟩)
    (v : Vals (primes9.map V.int) its.toList) : Pri K mg pa := ⟨g, fun H => .inr ⟨_, its, n, l, rfl, rfl, by have := v.length; simp only [Array.length_toList] at this; rw [← this]; decide, v⟩⟩

/-! ### S2. a table -/
theorem nq1 : ¬ (("prime" : Str) = "few") := by decide +kernel
theorem nq2 : ¬ (("prime" : Str) = "hands") := by decide +kernel
theorem nq3 : ¬ (("hands" : Str) = "few") := by decide +kernel
def tf (p n f : Int) : List (Str × V) := putF "few" (.int f) (putF "hands" (.int n) (putF "prime" (.int p) []))
theorem tf_p (p n f : Int) : (tf p n f).lookup ("prime" : Str) = some (.int p) := by
  unfold tf
  rw [lookup_putF, if_neg nq1, lookup_putF, if_neg nq2, lookup_putF, if_pos rfl]
theorem tf_n (p n f : Int) : (tf p n f).lookup ("hands" : Str) = some (.int n) := by
  unfold tf
  rw [lookup_putF, if_neg nq3, lookup_putF, if_pos rfl]
theorem tf_f (p n f : Int) : (tf p n f).lookup ("few" : Str) = some (.int f) := by
  unfold tf
  rw [lookup_putF, if_pos rfl]
def TabAt (C : Addr) (H : Hp) (t : Addr) (p n f : Int) : Prop := ∃ dx, H t = some (.ins C dx (tf p n f))
theorem TabAt.same {C : Addr} {H H' : Hp} {t : Addr} {p n f : Int} (h : TabAt C H t p n f) (s : Same H H') : TabAt C H' t p n f := let ⟨dx, e⟩ := h; ⟨dx, s _ _ e⟩
theorem same_new {H : Hp} {p : Addr} (h : H p = none) (o : HO) : Same H (upd H p o) := fun b u q => by rw [upd_ne (ne_of_none q h)]; exact q
theorem same_at {H H' : Hp} (s : Same H H') {D : Addr} {o : HO} (h : H D = none) (e : Same H' (upd H' D o)) : Same H (upd H' D o) := s.trans e
theorem same_upd {H H' : Hp} (s : Same H H') {D : Addr} {o : HO} (h : H D = none) : Same H (upd H' D o) := fun b u e => by rw [upd_ne (ne_of_none e h)]; exact s b u e
theorem small {n : Nat} (h : n ≤ 1000) : n ≤ sizeLine := Nat.le_of_lt (small1000 h)

/-! ### S3. promises -/
/-- a plain value comes back, what was tracked stays -/
def PureQ (H : Hp) (Q : VK) (v : V) : Prop := ∀ H', Same H H' → Q v H'
/-- a new list of ints comes back -/
def NewQ (H : Hp) (Q : VK) (xs : List V) : Prop := ∀ r H', Same H H' → H r = none → H' r = some (.lst xs) → Q (.ref r) H'
def spIsT : Sp := fun vs H Q _ => ∃ p n f : Int, vs = [.int p, .int n, .int f] ∧ PureQ H Q (.bl (isTB p n f))
def spInit (C : Addr) : Sp := fun vs H Q _ => ∃ (t dx : Addr) (p n f : Int), vs = [.ref t, .int p, .int n, .int f] ∧ H t = some (.ins C dx []) ∧ isTB p n f = true ∧
  ∀ H', (∀ b o, H b = some o → b ≠ t → H' b = some o) → TabAt C H' t p n f → Q .non H'
def spWorth (K : PySem.W.Frag) (C : Addr) : Sp := fun vs H Q _ => ∃ (t r : Addr) (p n f a : Int) (ns : List Int), vs = [.ref t, .ref r, .int a] ∧ TabAt C H t p n f ∧ 0 < p ∧ p ≤ 31 ∧ SqL K H r (ns.map V.int) ∧ PureQ H Q (.int (worthL p ns a))
def spCell (K : PySem.W.Frag) : Sp := fun vs H Q _ => ∃ (a : Addr) (ns : List Int) (k : Int), vs = [.ref a, .int k] ∧ SqL K H a (ns.map V.int) ∧ 0 ≤ k ∧ PureQ H Q (.int (cellN ns k))
def spMix : Sp := fun vs H Q _ => ∃ c k m : Int, vs = [.int c, .int k, .int m] ∧ 0 < m ∧ PureQ H Q (.int (mixI c k m))
def spWholeI : Sp := fun vs H Q _ => ∃ i : Int, vs = [.int i] ∧ PureQ H Q (.bl true)
def spTableBy (C : Addr) : Sp := fun vs H Q _ => ∃ c : Int, vs = [.int c] ∧ ∀ t H', Same H H' → H t = none → TabAt C H' t (tbP c) (tbN c) (tbF c) → Q (.ref t) H'
def numsL (c p : Int) (n : Nat) : List Int := (List.range n).map fun i : Nat => mixI c (3 * (i : Int)) p
def spNumbers : Sp := fun vs H Q _ => ∃ c m p : Int, vs = [.int c, .int m, .int p] ∧ 0 < p ∧ 0 ≤ m ∧ m ≤ 100 ∧ NewQ H Q ((numsL c p m.toNat).map V.int)
def spLawW (K : PySem.W.Frag) : Sp := fun vs H Q _ => ∃ (r : Addr) (p a : Int) (ns : List Int), vs = [.int p, .ref r, .int a] ∧ 0 < p ∧ p ≤ 31 ∧ SqL K H r (ns.map V.int) ∧ PureQ H Q (.int (worthL p ns a))
def spLaw (K : PySem.W.Frag) : Sp := fun vs H Q _ => ∃ (a : Addr) (ns : List Int), vs = [.ref a] ∧ SqL K H a (ns.map V.int) ∧ ns.length ≤ 63 ∧ ∀ H', Q (.bl true) H'
/-- sizes of made lists -/
theorem numsL_len (c p : Int) (n : Nat) : (numsL c p n).length = n := by unfold numsL; rw [List.length_map, List.length_range]
theorem map_take {α : Type} (f : Nat → α) (n : Nat) : ((List.range n).map f) ++ [f n] = (List.range (n + 1)).map f := by rw [List.range_succ, List.map_append]; rfl
theorem drop_at {α : Type} {l : List α} {k : Nat} {x : α} (h : l[k]? = some x) : l.drop k = x :: l.drop (k + 1) := by
  obtain ⟨h1, h2⟩ := List.getElem?_eq_some_iff.mp h
  rw [List.drop_eq_getElem_cons h1, h2]
theorem map_int_at {ns : List Int} {i : Nat} {x : V} (h : (ns.map V.int)[i]? = some x) : ∃ v, x = .int v ∧ ns[i]? = some v := by
  rw [List.getElem?_map] at h
  cases e : ns[i]? with
  | none => rw [e] at h; cases h
  | some v => rw [e] at h; exact ⟨v, (Option.some.inj h).symm, rfl⟩
/-! ### S4. shares -/
def dealtL (p : Int) (n : Nat) (x : Int) (cs : List Int) : List Int := (List.range n).map fun i : Nat => worthL p (x :: cs) (1 + (i : Int))
theorem dealtL_len (p : Int) (n : Nat) (x : Int) (cs : List Int) : (dealtL p n x cs).length = n := by unfold dealtL; rw [List.length_map, List.length_range]
theorem dealtL_more (p : Int) (n : Nat) (x : Int) (cs : List Int) : (dealtL p n x cs).map V.int ++ [.int (worthL p (x :: cs) (1 + (n : Int)))] = (dealtL p (n + 1) x cs).map V.int := by
  unfold dealtL
  rw [← map_take, List.map_append]
  rfl
def spDealt (C : Addr) : Sp := fun vs H Q _ => ∃ (t r : Addr) (p n f x : Int) (cs : List Int), vs = [.ref t, .int x, .ref r] ∧ TabAt C H t p n f ∧ 0 < p ∧ p ≤ 31 ∧ 0 ≤ n ∧ n ≤ 10 ∧ H r = some (.lst (cs.map V.int)) ∧ cs.length ≤ 100 ∧ NewQ H Q ((dealtL p n.toNat x cs).map V.int)
def spRowEq : Sp := fun vs H Q _ => ∃ (a b : Addr) (ns : List Int), vs = [.ref a, .ref b] ∧ H a = some (.lst (ns.map V.int)) ∧ H b = some (.lst (ns.map V.int)) ∧ PureQ H Q (.bl true)
end Veil

namespace Veil
open PySem L2

/-! ### M3. by a prime -/
theorem prime_dom : ∀ p ∈ primes9, ∀ a b : Nat, a < p.toNat → b < p.toNat → (a * b : Int) % p = 0 → a = 0 ∨ b = 0 := by
  have h : (primes9.all fun p => (List.range p.toNat).all fun a => (List.range p.toNat).all fun b => !(((a : Int) * (b : Int)) % p == 0) || (a == 0 || b == 0)) = true := by decide +kernel
  intro p hp a b ha hb e
  have h1 := List.all_eq_true.mp (List.all_eq_true.mp (List.all_eq_true.mp h p hp) a (List.mem_range.mpr ha)) b (List.mem_range.mpr hb)
  rw [show (((a : Int) * (b : Int)) % p == 0) = true from beq_iff_eq.mpr e, Bool.not_true, Bool.false_or, Bool.or_eq_true] at h1
  rcases h1 with h1 | h1
  · exact .inl (beq_iff_eq.mp h1)
  · exact .inr (beq_iff_eq.mp h1)
def backI (p x : Int) : Int := (((List.range (p - 1).toNat).map fun i : Nat => 1 + (i : Int)).find? fun o => decide (x * o % p = 1)).getD 0
theorem back_some : ∀ p ∈ primes9, ∀ a : Nat, a < p.toNat → a ≠ 0 → (1 ≤ backI p a ∧ backI p a < p) ∧ (a : Int) * backI p a % p = 1 := by
  have h : (primes9.all fun p => (List.range p.toNat).all fun a => (a == 0) || (decide (1 ≤ backI p (a : Int)) && decide (backI p (a : Int) < p) && decide ((a : Int) * backI p (a : Int) % p = 1))) = true := by decide +kernel
  intro p hp a ha h0
  have h1 := List.all_eq_true.mp (List.all_eq_true.mp h p hp) a (List.mem_range.mpr ha)
  rw [show (a == 0) = false from beq_eq_false_iff_ne.mpr h0, Bool.false_or] at h1
  simp only [Bool.and_eq_true, decide_eq_true_eq] at h1
  exact ⟨⟨h1.1.1, h1.1.2⟩, h1.2⟩
theorem backI_mod (p x : Int) : backI p (x % p) = backI p x := by
  unfold backI
  congr 2
  funext o
  rw [Int.mul_emod, Int.emod_emod_of_dvd _ (Int.dvd_refl p), ← Int.mul_emod]
theorem backI_ok {p x : Int} (hp : p ∈ primes9) (hx : x % p ≠ 0) : (1 ≤ backI p x ∧ backI p x < p) ∧ x * backI p x % p = 1 := by
  have p5 : 0 < p := by
    have : (primes9.all fun q => decide (0 < q)) = true := by decide +kernel
    exact of_decide_eq_true (List.all_eq_true.mp this p hp)
  have h0 := Int.emod_nonneg x (show p ≠ 0 by omega)
  have h1 := Int.emod_lt_of_pos x p5
  have e : ((x % p).toNat : Int) = x % p := by omega
  have q := back_some p hp (x % p).toNat (by omega) (by omega)
  rw [e, backI_mod] at q
  have e2 : x % p * backI p x % p = x * backI p x % p := by rw [Int.mul_emod, Int.emod_emod_of_dvd _ (Int.dvd_refl p), ← Int.mul_emod]
  rw [e2] at q
  exact q
theorem dom {p a b : Int} (hp : p ∈ primes9) (h : a * b % p = 0) : a % p = 0 ∨ b % p = 0 := by
  have p5 : 0 < p := by
    have : (primes9.all fun q => decide (0 < q)) = true := by decide +kernel
    exact of_decide_eq_true (List.all_eq_true.mp this p hp)
  have a0 := Int.emod_nonneg a (show p ≠ 0 by omega)
  have a1 := Int.emod_lt_of_pos a p5
  have b0 := Int.emod_nonneg b (show p ≠ 0 by omega)
  have b1 := Int.emod_lt_of_pos b p5
  have q := prime_dom p hp (a % p).toNat (b % p).toNat (by omega) (by omega) (by
    rw [show ((a % p).toNat : Int) = a % p by omega, show ((b % p).toNat : Int) = b % p by omega, ← Int.mul_emod]
    exact h)
  omega

/-! ### M4. rows through points -/
def addT (p t : Int) (as bs : List Int) : List Int := List.zipWith (fun a b => (a + t * b) % p) as bs
def noughtL (p x : Int) (s : List Int) : List Int := List.zipWith (fun b h => (b - x * h) % p) (0 :: s) (s ++ [0])
def stepT (p : Int) (rs : List Int × List Int) (q : Int × Int) : List Int × List Int :=
  (addT p ((q.2 - worthL p rs.1 q.1) * backI p (worthL p rs.2 q.1)) (rs.1 ++ [0]) rs.2, noughtL p q.1 rs.2)
def throughS (p : Int) (pts : List (Int × Int)) : List Int × List Int := pts.foldl (stepT p) ([], [1])
def throughL (p : Int) (pts : List (Int × Int)) : List Int := (throughS p pts).1
theorem polyV_snoc0 : ∀ (s : List Int) (z : Int), polyV (s ++ [0]) z = polyV s z
  | [], z => by simp [polyV]
  | r :: rs, z => by simp only [List.cons_append, polyV]; rw [polyV_snoc0 rs z]
theorem polyV_addT {p t : Int} : ∀ (as bs : List Int) (z : Int), as.length = bs.length → polyV (addT p t as bs) z % p = (polyV as z + t * polyV bs z) % p
  | [], [], z, _ => by simp [addT, polyV]
  | a :: as, b :: bs, z, h => by
    have ih := polyV_addT (p := p) (t := t) as bs z (by simpa using h)
    show ((a + t * b) % p + z * polyV (addT p t as bs) z) % p = _
    rw [Int.add_emod, Int.mul_emod, ih, ← Int.mul_emod, Int.emod_emod_of_dvd _ (Int.dvd_refl p), ← Int.add_emod]
    congr 1
    simp only [polyV]
    rw [Int.mul_add, Int.mul_add, ← Int.mul_assoc z t, Int.mul_comm z t, Int.mul_assoc t z]
    omega
  | [], _ :: _, _, h => by simp at h
  | _ :: _, [], _, h => by simp at h
theorem addT_nought (p x : Int) (s : List Int) : noughtL p x s = addT p (-x) (0 :: s) (s ++ [0]) := by
  unfold noughtL addT
  congr 1
  funext b h
  rw [Int.neg_mul, Int.sub_eq_add_neg]
theorem polyV_nought {p x : Int} (s : List Int) (z : Int) : polyV (noughtL p x s) z % p = (z - x) * polyV s z % p := by
  rw [addT_nought, polyV_addT _ _ _ (by simp), polyV_snoc0]
  congr 1
  simp only [polyV]
  rw [Int.zero_add, Int.neg_mul, Int.sub_mul]
  omega
theorem addT_b {p t : Int} (hp : 0 < p) : ∀ (as bs : List Int), ∀ v ∈ addT p t as bs, 0 ≤ v ∧ v < p
  | [], _, v, h => by simp [addT] at h
  | _ :: _, [], v, h => by simp [addT] at h
  | a :: as, b :: bs, v, h => by
    rcases List.mem_cons.mp (show v ∈ (a + t * b) % p :: addT p t as bs from h) with e | e
    · rw [e]
      exact ⟨Int.emod_nonneg _ (by omega), Int.emod_lt_of_pos _ hp⟩
    · exact addT_b hp as bs v e
theorem addT_len {p t : Int} (as bs : List Int) : (addT p t as bs).length = min as.length bs.length := by unfold addT; rw [List.length_zipWith]
theorem nought_len (p x : Int) (s : List Int) : (noughtL p x s).length = s.length + 1 := by rw [addT_nought, addT_len]; simp
/-- what holds behind the first points -/
structure ThrOk (p : Int) (pts : List (Int × Int)) (rs : List Int × List Int) : Prop where
  l1 : rs.1.length = pts.length
  l2 : rs.2.length = pts.length + 1
  b1 : ∀ v ∈ rs.1, 0 ≤ v ∧ v < p
  b2 : ∀ v ∈ rs.2, 0 ≤ v ∧ v < p
  row : ∀ q ∈ pts, polyV rs.1 q.1 % p = q.2 % p
  zer : ∀ q ∈ pts, polyV rs.2 q.1 % p = 0
  non : ∀ z : Int, (∀ q ∈ pts, z % p ≠ q.1 % p) → polyV rs.2 z % p ≠ 0
theorem thr_start {p : Int} (hp : 1 < p) : ThrOk p [] ([], [1]) where
  l1 := rfl
  l2 := rfl
  b1 := fun v h => nomatch h
  b2 := fun v h => by
    have e : v = 1 := by simpa using h
    omega
  row := fun q h => nomatch h
  zer := fun q h => nomatch h
  non := fun z _ => by
    simp only [polyV, Int.mul_zero, Int.add_zero]
    rw [Int.emod_eq_of_lt (by decide) hp]
    decide
theorem pos9 {p : Int} (hp : p ∈ primes9) : 5 ≤ p ∧ p ≤ 31 := by
  have : (primes9.all fun q => decide (5 ≤ q) && decide (q ≤ 31)) = true := by decide +kernel
  have h := List.all_eq_true.mp this p hp
  simpa using h
theorem thr_step {p : Int} (hp : p ∈ primes9) {pts : List (Int × Int)} {rs : List Int × List Int} (h : ThrOk p pts rs) {x y : Int} (hx : ∀ q ∈ pts, x % p ≠ q.1 % p) : ThrOk p (pts ++ [(x, y)]) (stepT p rs (x, y)) := by
  have p5 := pos9 hp
  have hlen : (rs.1 ++ [0]).length = rs.2.length := by rw [List.length_append, h.l1, h.l2]; rfl
  have hw : worthL p rs.2 x % p ≠ 0 := by
    rw [worthL_poly, Int.emod_emod_of_dvd _ (Int.dvd_refl p)]
    exact h.non x hx
  have hbk := backI_ok hp hw
  generalize ht : (y - worthL p rs.1 x) * backI p (worthL p rs.2 x) = t
  have e1 : (stepT p rs (x, y)).1 = addT p t (rs.1 ++ [0]) rs.2 := by rw [← ht]; rfl
  have e2 : (stepT p rs (x, y)).2 = noughtL p x rs.2 := rfl
  have er : ∀ z, polyV (stepT p rs (x, y)).1 z % p = (polyV rs.1 z + t * polyV rs.2 z) % p := fun z => by rw [e1, polyV_addT _ _ _ hlen, polyV_snoc0]
  refine ⟨?_, ?_, ?_, ?_, ?_, ?_, ?_⟩
  · rw [e1, addT_len, hlen, Nat.min_self, h.l2, List.length_append]
    rfl
  · rw [e2, nought_len, h.l2, List.length_append]
    rfl
  · rw [e1]
    exact addT_b (by omega) _ _
  · rw [e2, addT_nought]
    exact addT_b (by omega) _ _
  · intro q hq
    rw [er]
    rcases List.mem_append.mp hq with hq | hq
    · rw [Int.add_emod, Int.mul_emod, h.zer q hq, Int.mul_zero, Int.zero_emod, Int.add_zero, Int.emod_emod_of_dvd _ (Int.dvd_refl p)]
      exact h.row q hq
    · have e : q = (x, y) := by simpa using hq
      subst e
      show (polyV rs.1 x + t * polyV rs.2 x) % p = y % p
      have w1 : worthL p rs.1 x = polyV rs.1 x % p := worthL_poly _ _
      have w2 : worthL p rs.2 x = polyV rs.2 x % p := worthL_poly _ _
      have k1 : t * polyV rs.2 x % p = (y - worthL p rs.1 x) % p := by
        rw [← ht, Int.mul_assoc, Int.mul_emod]
        have : backI p (worthL p rs.2 x) * polyV rs.2 x % p = 1 := by
          have z : polyV rs.2 x % p * backI p (worthL p rs.2 x) % p = polyV rs.2 x * backI p (worthL p rs.2 x) % p := by rw [Int.mul_emod, Int.emod_emod_of_dvd _ (Int.dvd_refl p), ← Int.mul_emod]
          rw [Int.mul_comm, ← z, ← w2]
          exact hbk.2
        rw [this, Int.mul_one, Int.emod_emod_of_dvd _ (Int.dvd_refl p)]
      rw [Int.add_emod, k1, w1, ← Int.add_emod]
      have : (polyV rs.1 x + (y - polyV rs.1 x % p)) = y + (polyV rs.1 x - polyV rs.1 x % p) := by omega
      rw [this, show polyV rs.1 x - polyV rs.1 x % p = p * (polyV rs.1 x / p) by have := Int.emod_add_mul_ediv (polyV rs.1 x) p; omega, Int.add_mul_emod_self_left]
  · intro q hq
    rw [e2, polyV_nought]
    rcases List.mem_append.mp hq with hq | hq
    · rw [Int.mul_emod, h.zer q hq, Int.mul_zero, Int.zero_emod]
    · have e : q = (x, y) := by simpa using hq
      subst e
      show (x - x) * polyV rs.2 x % p = 0
      rw [Int.sub_self, Int.zero_mul, Int.zero_emod]
  · intro z hz e
    rw [e2, polyV_nought] at e
    rcases dom hp e with e | e
    · have hzx := hz (x, y) (List.mem_append_right _ (List.mem_singleton.mpr rfl))
      exact hzx (Int.emod_eq_emod_iff_emod_sub_eq_zero.mpr e)
    · exact h.non z (fun q hq => hz q (List.mem_append_left _ hq)) e
theorem thr_ok {p : Int} (hp : p ∈ primes9) : ∀ (pre pts : List (Int × Int)) (rs : List Int × List Int), ThrOk p pre rs → ((pre ++ pts).map fun q => q.1 % p).Nodup → ThrOk p (pre ++ pts) (pts.foldl (stepT p) rs)
  | pre, [], rs, h, _ => by rw [List.append_nil]; exact h
  | pre, (x, y) :: r, rs, h, nd => by
    have e : pre ++ (x, y) :: r = (pre ++ [(x, y)]) ++ r := by simp
    rw [e] at nd ⊢
    refine thr_ok hp (pre ++ [(x, y)]) r _ (thr_step hp h fun q hq z => ?_) nd
    rw [List.map_append, List.map_append, List.append_assoc] at nd
    have := List.nodup_append.mp nd
    exact this.2.2 (q.1 % p) (List.mem_map.mpr ⟨q, hq, rfl⟩) (x % p) (List.mem_append_left _ (List.mem_map.mpr ⟨(x, y), List.mem_singleton.mpr rfl, rfl⟩)) z.symm
theorem through_ok {p : Int} (hp : p ∈ primes9) {pts : List (Int × Int)} (nd : (pts.map fun q => q.1 % p).Nodup) : ThrOk p pts (throughS p pts) := by
  have := thr_ok hp [] pts ([], [1]) (thr_start (by have := pos9 hp; omega)) nd
  unfold throughS
  simpa using this
end Veil

namespace Veil
open PySem L2

/-! ### S5. points: a list of pairs -/
def PtsAt (H : Hp) : List V → List (Int × Int) → Prop := Paired fun v q => ∃ a, v = .ref a ∧ H a = some (.tup [.int q.1, .int q.2])
theorem PtsAt.same {H H' : Hp} (s : Same H H') {vs : List V} {qs : List (Int × Int)} (h : PtsAt H vs qs) : PtsAt H' vs qs := Paired.mapP h fun v q ⟨a, e, z⟩ => ⟨a, e, s _ _ z⟩
theorem PtsAt.get {H : Hp} : ∀ {vs : List V} {qs : List (Int × Int)} {i : Nat} {x : V}, PtsAt H vs qs → vs[i]? = some x → ∃ a q, x = .ref a ∧ H a = some (.tup [.int q.1, .int q.2]) ∧ qs[i]? = some q
  | _, _, _, _, .nil, e => by simp at e
  | _, _, 0, _, .cons ⟨a, r, z⟩ _, e => by simp at e; subst e; exact ⟨a, _, r, z, rfl⟩
  | _, _, i + 1, x, .cons _ t, e => by
    obtain ⟨a, q, h1, h2, h3⟩ := PtsAt.get (i := i) (x := x) t (by simpa using e)
    exact ⟨a, q, h1, h2, by simpa using h3⟩
def spBack (C : Addr) : Sp := fun vs H Q _ => ∃ (t : Addr) (p n f x : Int), vs = [.ref t, .int x] ∧ TabAt C H t p n f ∧ p ∈ primes9 ∧ (0 ≤ x ∧ x < p) ∧ x ≠ 0 ∧ PureQ H Q (.int (backI p x))
def spAlike (C : Addr) : Sp := fun vs H Q _ => ∃ (t r : Addr) (p n f : Int) (rs : List V) (qs : List (Int × Int)), vs = [.ref t, .ref r] ∧ TabAt C H t p n f ∧ p ∈ primes9 ∧ H r = some (.lst rs) ∧ PtsAt H rs qs ∧ qs.length ≤ 100 ∧ (qs.map fun q => q.1 % p).Nodup ∧ PureQ H Q .non
def spNought (C : Addr) : Sp := fun vs H Q _ => ∃ (t r : Addr) (p n f x : Int) (ss : List Int), vs = [.ref t, .ref r, .int x] ∧ TabAt C H t p n f ∧ p ∈ primes9 ∧ H r = some (.lst (ss.map V.int)) ∧ ss.length ≤ 100 ∧ (∀ v ∈ ss, 0 ≤ v ∧ v < p) ∧ NewQ H Q ((noughtL p x ss).map V.int)
def spThrough (C : Addr) : Sp := fun vs H Q _ => ∃ (t r : Addr) (p n f : Int) (rs : List V) (qs : List (Int × Int)), vs = [.ref t, .ref r] ∧ TabAt C H t p n f ∧ p ∈ primes9 ∧ H r = some (.lst rs) ∧ PtsAt H rs qs ∧ qs.length ≤ 50 ∧ (qs.map fun q => q.1 % p).Nodup ∧ NewQ H Q ((throughL p qs).map V.int)
/-- a set's size -/
theorem dedup_id : ∀ (acc ns : List Int), (acc ++ ns).Nodup → ns.foldl PyProof.Rows.step_dedup acc = acc ++ ns
  | acc, [], _ => by simp
  | acc, x :: r, h => by
    have hx : ¬ x ∈ acc := fun hm => by
      have := (List.nodup_append.mp h).2.2 x hm x List.mem_cons_self
      exact this rfl
    have e : PyProof.Rows.step_dedup acc x = acc ++ [x] := by
      unfold PyProof.Rows.step_dedup
      rw [if_neg]
      simpa using hx
    rw [List.foldl_cons, e, dedup_id (acc ++ [x]) r (by simpa using h)]
    simp
theorem range_getD (ns : List Int) : (List.range ns.length).map (fun i => ns.getD i 0) = ns := by
  apply List.ext_getElem?
  intro i
  rw [List.getElem?_map]
  by_cases h : i < ns.length
  · rw [List.getElem?_range h]
    simp [List.getElem?_eq_getElem h]
  · rw [List.getElem?_eq_none (by simpa using h), List.getElem?_eq_none (by simpa using h)]
    rfl
theorem firstMet_nodup {ns : List Int} (h : ns.Nodup) : (PyProof.Rows.firstMet (fun i => ns.getD i 0) ns.length).length = ns.length := by
  unfold PyProof.Rows.firstMet
  rw [range_getD, dedup_id [] ns (by simpa using h)]
  simp
theorem zipW_at {α β γ : Type} {f : α → β → γ} : ∀ {as : List α} {bs : List β} {i : Nat} {a : α} {b : β}, as[i]? = some a → bs[i]? = some b → (List.zipWith f as bs)[i]? = some (f a b) := by
  intro as bs i a b h1 h2
  rw [List.getElem?_zipWith, h1, h2]
theorem take_snoc {α : Type} {l : List α} {i : Nat} {x : α} (h : l[i]? = some x) : l.take i ++ [x] = l.take (i + 1) := by
  rw [List.take_add_one, h]
  rfl
end Veil

namespace Veil
open PySem L2

/-! ### M5. weights -/
def wpts (n : Nat) (h : Int) : List (Int × Int) := (List.range n).map fun i : Nat => (1 + (i : Int), if 1 + (i : Int) = h then 1 else 0)
def weightI (p : Int) (n : Nat) (h : Int) : Int := worthL p (throughL p (wpts n h)) 0
def weightsL (p : Int) (n : Nat) : List Int := (List.range n).map fun i : Nat => weightI p n (1 + (i : Int))
def preS (W : List Int) (g : Nat → Int) : Nat → Int
  | 0 => 0
  | i + 1 => preS W g i + W.getD i 0 * g i
theorem preS_mod {p : Int} {W : List Int} {g g' : Nat → Int} : ∀ (n : Nat), (∀ k, k < n → g k % p = g' k % p) → preS W g n % p = preS W g' n % p
  | 0, _ => rfl
  | n + 1, h => by
    rw [preS, preS, Int.add_emod, preS_mod n fun k hk => h k (by omega), Int.mul_emod, h n (by omega), ← Int.mul_emod, ← Int.add_emod]
theorem preS_add {W : List Int} {g g' : Nat → Int} : ∀ (n : Nat), preS W (fun k => g k + g' k) n = preS W g n + preS W g' n
  | 0 => rfl
  | n + 1 => by
    rw [preS, preS, preS, preS_add n, Int.mul_add]
    omega
theorem preS_mul {W : List Int} {g : Nat → Int} (a : Int) : ∀ (n : Nat), preS W (fun k => a * g k) n = a * preS W g n
  | 0 => by rw [preS, preS, Int.mul_zero]
  | n + 1 => by
    rw [preS, preS, preS_mul a n, Int.mul_add, ← Int.mul_assoc, Int.mul_comm (W.getD n 0) a, Int.mul_assoc]
def powsOk (p : Int) (n : Nat) (W : List Int) : Bool := (List.range n).all fun j => decide (preS W (fun k => (1 + (k : Int)) ^ j) n % p = if j = 0 then 1 else 0)
theorem weights_pows : (primes9.all fun p => [3, 4, 5, 6, 7].all fun n : Nat => !decide ((n : Int) < p) || (powsOk p n (weightsL p n) && (weightsL p n).all fun v => decide (0 ≤ v) && decide (v < p))) = true := by decide +kernel
theorem preS_row {p : Int} {n : Nat} {W : List Int} (h : powsOk p n W = true) : ∀ (r : List Int) (j : Nat), j + r.length ≤ n → preS W (fun k => (1 + (k : Int)) ^ j * polyV r (1 + (k : Int))) n % p = (if j = 0 then r.headD 0 else 0) % p
  | [], j, _ => by
    have e : (fun k : Nat => (1 + (k : Int)) ^ j * polyV [] (1 + (k : Int))) = fun k : Nat => 0 * (1 : Int) := by
      funext k
      simp [polyV]
    rw [e, preS_mul 0 (g := fun _ => 1), Int.zero_mul]
    split <;> rfl
  | a :: rs, j, hl => by
    have hl' : j + (rs.length + 1) ≤ n := hl
    have e : (fun k : Nat => (1 + (k : Int)) ^ j * polyV (a :: rs) (1 + (k : Int))) = fun k : Nat => a * (1 + (k : Int)) ^ j + (1 + (k : Int)) ^ (j + 1) * polyV rs (1 + (k : Int)) := by
      funext k
      rw [polyV, Int.mul_add, Int.mul_comm _ a, Int.pow_succ, Int.mul_assoc]
    have hj := of_decide_eq_true (List.all_eq_true.mp h j (List.mem_range.mpr (by omega)))
    have ih := preS_row h rs (j + 1) (by omega)
    rw [if_neg (by omega)] at ih
    rw [e, preS_add, preS_mul, Int.add_emod, ih, Int.zero_emod, Int.add_zero, Int.mul_emod, hj]
    split
    · show (a % p * 1 % p) % p = a % p
      rw [Int.mul_one, Int.emod_emod_of_dvd _ (Int.dvd_refl p), Int.emod_emod_of_dvd _ (Int.dvd_refl p)]
    · simp
theorem ws_ok {p : Int} {n : Nat} (hp : p ∈ primes9) (h3 : 3 ≤ n) (h7 : n ≤ 7) (hn : (n : Int) < p) : powsOk p n (weightsL p n) = true ∧ ∀ v ∈ weightsL p n, 0 ≤ v ∧ v < p := by
  have h1 := List.all_eq_true.mp (List.all_eq_true.mp weights_pows p hp) n (by
    match n, h3, h7 with
    | 3, _, _ | 4, _, _ | 5, _, _ | 6, _, _ | 7, _, _ => simp)
  rw [decide_eq_true hn, Bool.not_true, Bool.false_or, Bool.and_eq_true] at h1
  refine ⟨h1.1, fun v hv => ?_⟩
  have := List.all_eq_true.mp h1.2 v hv
  simpa using this
theorem weightsL_len (p : Int) (n : Nat) : (weightsL p n).length = n := by unfold weightsL; rw [List.length_map, List.length_range]
/-- the sum over the hands, of a row that is no longer than there are hands -/
theorem ws_row {p : Int} {n : Nat} (hp : p ∈ primes9) (h3 : 3 ≤ n) (h7 : n ≤ 7) (hn : (n : Int) < p) (r : List Int) (hr : r.length ≤ n) : preS (weightsL p n) (fun k => worthL p r (1 + (k : Int))) n % p = r.headD 0 % p := by
  have h := preS_row (ws_ok hp h3 h7 hn).1 r 0 (by omega)
  rw [if_pos rfl] at h
  rw [← h]
  refine preS_mod n fun k _ => ?_
  rw [worthL_poly, Int.emod_emod_of_dvd _ (Int.dvd_refl p), Int.pow_zero, Int.one_mul]
theorem wpts_nodup {p : Int} {n : Nat} (h : Int) (hn : (n : Int) < p) : ((wpts n h).map fun q => q.1 % p).Nodup := by
  unfold wpts
  rw [List.map_map]
  show List.Pairwise (· ≠ ·) _
  rw [List.pairwise_map]
  refine List.Pairwise.imp_of_mem ?_ (show List.Pairwise (· ≠ ·) (List.range n) from List.nodup_range)
  intro i j hi hj hne e
  have hi := List.mem_range.mp hi
  have hj := List.mem_range.mp hj
  have e : (1 + (i : Int)) % p = (1 + (j : Int)) % p := e
  rw [Int.emod_eq_of_lt (by omega) (by omega), Int.emod_eq_of_lt (by omega) (by omega)] at e
  exact hne (by omega)
theorem wpts_len (n : Nat) (h : Int) : (wpts n h).length = n := by unfold wpts; rw [List.length_map, List.length_range]
theorem wpts_more (n : Nat) (h : Int) : wpts n h ++ [(1 + (n : Int), if 1 + (n : Int) = h then 1 else 0)] = wpts (n + 1) h := by unfold wpts; rw [← map_take]
theorem PtsAt.upd {H : Hp} {D : Addr} {o : HO} {ys : List V} (hD : H D = some (.lst ys)) {vs : List V} {qs : List (Int × Int)} (h : PtsAt H vs qs) : PtsAt (L2.upd H D o) vs qs :=
  Paired.mapP h fun v q ⟨a, e, z⟩ => ⟨a, e, by rw [upd_ne (ne_of z hD (by intro w; cases w))]; exact z⟩
theorem PtsAt.snoc {H : Hp} {vs : List V} {qs : List (Int × Int)} (h : PtsAt H vs qs) {a : Addr} {q : Int × Int} (z : H a = some (.tup [.int q.1, .int q.2])) : PtsAt H (vs ++ [.ref a]) (qs ++ [q]) := Paired.snoc h ⟨a, rfl, z⟩
def spWeight (C : Addr) : Sp := fun vs H Q _ => ∃ (t : Addr) (p n f h : Int), vs = [.ref t, .int h] ∧ TabAt C H t p n f ∧ p ∈ primes9 ∧ 0 ≤ n ∧ n ≤ 7 ∧ n < p ∧ PureQ H Q (.int (weightI p n.toNat h))
def spWeights (C : Addr) : Sp := fun vs H Q _ => ∃ (t : Addr) (p n f : Int), vs = [.ref t] ∧ TabAt C H t p n f ∧ p ∈ primes9 ∧ 0 ≤ n ∧ n ≤ 7 ∧ n < p ∧ NewQ H Q ((weightsL p n.toNat).map V.int)
end Veil

namespace Veil
/-! ### M6. a row is told by as many worths as it has numbers -/
def quo (x : Int) : List Int → List Int
  | [] => []
  | [_] => []
  | _ :: s :: rs => polyV (s :: rs) x :: quo x (s :: rs)
theorem quo_len (x : Int) : ∀ (r : List Int), (quo x r).length = r.length - 1
  | [] => rfl
  | [_] => rfl
  | _ :: s :: rs => by
    rw [quo, List.length_cons, quo_len x (s :: rs)]
    simp
theorem quo_eq (x z : Int) : ∀ (r : List Int), polyV r z = polyV r x + (z - x) * polyV (quo x r) z
  | [] => by simp [polyV, quo]
  | [a] => by simp [polyV, quo]
  | a :: s :: rs => by
    have ih := quo_eq x z (s :: rs)
    show a + z * polyV (s :: rs) z = a + x * polyV (s :: rs) x + (z - x) * (polyV (s :: rs) x + z * polyV (quo x (s :: rs)) z)
    rw [ih]
    generalize polyV (s :: rs) x = u
    generalize polyV (quo x (s :: rs)) z = v
    have e : z * (u + (z - x) * v) = z * u + (z - x) * (z * v) := by
      rw [Int.mul_add, ← Int.mul_assoc z, Int.mul_comm z (z - x), Int.mul_assoc]
    have e2 : (z - x) * (u + z * v) = (z - x) * u + (z - x) * (z * v) := Int.mul_add _ _ _
    have e3 : (z - x) * u = z * u - x * u := Int.sub_mul _ _ _
    rw [e, e2, e3]
    omega
theorem quo_zero {p x : Int} : ∀ (r : List Int), polyV r x % p = 0 → (∀ v ∈ quo x r, v % p = 0) → ∀ v ∈ r, v % p = 0
  | [], _, _, v, h => nomatch h
  | [a], h, _, v, hv => by
    have e : v = a := by simpa using hv
    subst e
    simpa [polyV] using h
  | a :: s :: rs, h, hq, v, hv => by
    have h1 : polyV (s :: rs) x % p = 0 := hq _ (by rw [quo]; exact List.mem_cons_self)
    have h2 := quo_zero (s :: rs) h1 fun w hw => hq w (by rw [quo]; exact List.mem_cons_of_mem _ hw)
    rcases List.mem_cons.mp hv with e | e
    · subst e
      rw [polyV, Int.add_emod, Int.mul_emod, h1, Int.mul_zero, Int.zero_emod, Int.add_zero, Int.emod_emod_of_dvd _ (Int.dvd_refl p)] at h
      exact h
    · exact h2 v e
theorem roots {p : Int} (hp : p ∈ primes9) : ∀ (xs r : List Int), (xs.map (· % p)).Nodup → r.length ≤ xs.length → (∀ x ∈ xs, polyV r x % p = 0) → ∀ v ∈ r, v % p = 0
  | [], r, _, hl, _ => by
    have e : r = [] := List.length_eq_zero_iff.mp (by simpa using hl)
    subst e
    exact fun v h => nomatch h
  | x :: xs, r, nd, hl, h => by
    have hx := h x List.mem_cons_self
    rw [List.map_cons, List.nodup_cons] at nd
    refine quo_zero r hx (roots hp xs (quo x r) nd.2 (by rw [quo_len]; simp at hl; omega) fun y hy => ?_)
    have hy0 := h y (List.mem_cons_of_mem _ hy)
    rw [quo_eq x y r, Int.add_emod, hx, Int.zero_add, Int.emod_emod_of_dvd _ (Int.dvd_refl p)] at hy0
    rcases dom hp hy0 with e | e
    · exact absurd (List.mem_map.mpr (⟨y, hy, Int.emod_eq_emod_iff_emod_sub_eq_zero.mpr e⟩ : ∃ a, a ∈ xs ∧ a % p = x % p)) nd.1
    · exact e
def subL (r s : List Int) : List Int := List.zipWith (fun a b => a - b) r s
theorem polyV_sub : ∀ (r s : List Int) (z : Int), r.length = s.length → polyV (subL r s) z = polyV r z - polyV s z
  | [], [], z, _ => by simp [subL, polyV]
  | a :: r, b :: s, z, h => by
    have ih := polyV_sub r s z (by simpa using h)
    show a - b + z * polyV (subL r s) z = _
    rw [ih, polyV, polyV, Int.mul_sub]
    omega
  | [], _ :: _, _, h => by simp at h
  | _ :: _, [], _, h => by simp at h
theorem subL_zero {p : Int} : ∀ (r s : List Int), r.length = s.length → (∀ v ∈ r, 0 ≤ v ∧ v < p) → (∀ v ∈ s, 0 ≤ v ∧ v < p) → (∀ v ∈ subL r s, v % p = 0) → r = s
  | [], [], _, _, _, _ => rfl
  | a :: r, b :: s, hl, hr, hs, h => by
    have h1 : (a - b) % p = 0 := h (a - b) List.mem_cons_self
    have ha := hr a List.mem_cons_self
    have hb := hs b List.mem_cons_self
    have e : a % p = b % p := Int.emod_eq_emod_iff_emod_sub_eq_zero.mpr h1
    rw [Int.emod_eq_of_lt ha.1 ha.2, Int.emod_eq_of_lt hb.1 hb.2] at e
    rw [e, subL_zero r s (by simpa using hl) (fun v hv => hr v (List.mem_cons_of_mem _ hv)) (fun v hv => hs v (List.mem_cons_of_mem _ hv)) fun v hv => h v (List.mem_cons_of_mem _ hv)]
  | [], _ :: _, h, _, _, _ => by simp at h
  | _ :: _, [], h, _, _, _ => by simp at h
theorem row_unique {p : Int} (hp : p ∈ primes9) {r s xs : List Int} (hl : r.length = s.length) (hr : ∀ v ∈ r, 0 ≤ v ∧ v < p) (hs : ∀ v ∈ s, 0 ≤ v ∧ v < p) (nd : (xs.map (· % p)).Nodup) (hx : r.length ≤ xs.length)
    (h : ∀ x ∈ xs, polyV r x % p = polyV s x % p) : r = s := by
  refine subL_zero r s hl hr hs (roots hp xs (subL r s) nd (by unfold subL; rw [List.length_zipWith]; omega) fun x hx' => ?_)
  rw [polyV_sub r s x hl]
  exact Int.emod_eq_emod_iff_emod_sub_eq_zero.mp (h x hx')
/-! ### M7. choices, and mending -/
def choicesL {α : Type} : Nat → List α → List (List α)
  | 0, _ => [[]]
  | _ + 1, [] => []
  | k + 1, x :: xs => (choicesL k xs).map (x :: ·) ++ choicesL (k + 1) xs
theorem choices_sub {α : Type} : ∀ (k : Nat) (xs : List α), ∀ c ∈ choicesL k xs, c.Sublist xs ∧ c.length = k
  | 0, xs, c, h => by
    have e : c = [] := by simpa [choicesL] using h
    subst e
    exact ⟨List.nil_sublist _, rfl⟩
  | k + 1, [], c, h => by simp [choicesL] at h
  | k + 1, x :: xs, c, h => by
    rw [choicesL] at h
    rcases List.mem_append.mp h with h | h
    · obtain ⟨d, hd, rfl⟩ := List.mem_map.mp h
      obtain ⟨h1, h2⟩ := choices_sub k xs d hd
      exact ⟨h1.cons_cons x, by rw [List.length_cons, h2]⟩
    · obtain ⟨h1, h2⟩ := choices_sub (k + 1) xs c h
      exact ⟨h1.cons x, h2⟩
theorem choices_mem {α : Type} : ∀ {xs c : List α}, c.Sublist xs → c ∈ choicesL c.length xs
  | _, [], _ => by simp [choicesL]
  | [], y :: c, h => by simp at h
  | x :: xs, y :: c, h => by
    rw [List.length_cons, choicesL]
    cases h with
    | cons _ h => exact List.mem_append_right _ (choices_mem h)
    | cons_cons _ h => exact List.mem_append_left _ (List.mem_map.mpr ⟨c, choices_mem h, rfl⟩)
def liarsL (p : Int) (r : List Int) (pts : List (Int × Int)) : List Int := (pts.filter fun q => !decide (worthL p r q.1 = q.2)).map (·.1)
def mendedL (p : Int) (f : Nat) (pts : List (Int × Int)) (wr : Nat) : Option (Int × List Int) :=
  (choicesL (f + 1) pts).findSome? fun c => if (liarsL p (throughL p c) pts).length ≤ wr then some ((throughL p c).headD 0, liarsL p (throughL p c) pts) else none
theorem filter_two {α : Type} (f g : α → Bool) : ∀ (l : List α), (l.filter f).length + (l.filter g).length ≤ l.length + (l.filter fun x => f x && g x).length
  | [] => by simp
  | x :: l => by
    have ih := filter_two f g l
    simp only [List.filter_cons]
    cases hf : f x <;> cases hg : g x <;> simp <;> omega
theorem filter_not {α : Type} (f : α → Bool) : ∀ (l : List α), (l.filter f).length + (l.filter fun x => !f x).length = l.length
  | [] => by simp
  | x :: l => by
    have ih := filter_not f l
    simp only [List.filter_cons]
    cases hf : f x <;> simp <;> omega
theorem Nodup.sub_map {α β : Type} {f : α → β} {a b : List α} (h : a.Sublist b) (nd : (b.map f).Nodup) : (a.map f).Nodup := nd.sublist (h.map f)
structure PtsOk (p : Int) (pts : List (Int × Int)) : Prop where
  nd : (pts.map fun q => q.1 % p).Nodup
  yb : ∀ q ∈ pts, 0 ≤ q.2 ∧ q.2 < p
theorem through_facts {p : Int} (hp : p ∈ primes9) {c : List (Int × Int)} (nd : (c.map fun q => q.1 % p).Nodup) : (throughL p c).length = c.length ∧ (∀ v ∈ throughL p c, 0 ≤ v ∧ v < p) ∧ ∀ q ∈ c, polyV (throughL p c) q.1 % p = q.2 % p :=
  have h := through_ok hp nd
  ⟨h.l1, h.b1, h.row⟩
/-- two rows that each lie at most wr besides are one -/
theorem rows_one {p : Int} (hp : p ∈ primes9) {pts : List (Int × Int)} (P : PtsOk p pts) {r s : List Int} {wr : Nat} (hl : r.length = s.length) (hr : ∀ v ∈ r, 0 ≤ v ∧ v < p) (hs : ∀ v ∈ s, 0 ≤ v ∧ v < p)
    (h1 : (liarsL p r pts).length ≤ wr) (h2 : (liarsL p s pts).length ≤ wr) (hn : r.length + 2 * wr ≤ pts.length) : r = s := by
  unfold liarsL at h1 h2
  rw [List.length_map] at h1 h2
  have e1 := filter_not (fun q : Int × Int => decide (worthL p r q.1 = q.2)) pts
  have e2 := filter_not (fun q : Int × Int => decide (worthL p s q.1 = q.2)) pts
  have e3 := filter_two (fun q : Int × Int => decide (worthL p r q.1 = q.2)) (fun q => decide (worthL p s q.1 = q.2)) pts
  refine row_unique hp (xs := (pts.filter fun q => decide (worthL p r q.1 = q.2) && decide (worthL p s q.1 = q.2)).map (·.1)) hl hr hs ?_ (by rw [List.length_map]; omega) fun x hx => ?_
  · rw [List.map_map]
    exact Nodup.sub_map (f := fun q : Int × Int => q.1 % p) List.filter_sublist P.nd
  · obtain ⟨q, hq, rfl⟩ := List.mem_map.mp hx
    have := (List.mem_filter.mp hq).2
    simp only [Bool.and_eq_true, decide_eq_true_eq] at this
    rw [← worthL_poly, ← worthL_poly, this.1, this.2]
theorem worth_of {p : Int} {r : List Int} {x y : Int} (hy : 0 ≤ y ∧ y < p) (h : polyV r x % p = y % p) : worthL p r x = y := by
  rw [worthL_poly, h, Int.emod_eq_of_lt hy.1 hy.2]
/-- through honest points goes the row itself -/
theorem through_row {p : Int} (hp : p ∈ primes9) {c : List (Int × Int)} (nd : (c.map fun q => q.1 % p).Nodup) {r : List Int} (hl : r.length = c.length) (hr : ∀ v ∈ r, 0 ≤ v ∧ v < p) (h : ∀ q ∈ c, worthL p r q.1 = q.2) : throughL p c = r := by
  obtain ⟨h1, h2, h3⟩ := through_facts hp nd
  refine row_unique hp (xs := c.map (·.1)) (by omega) h2 hr (by rw [List.map_map]; exact nd) (by rw [List.length_map]; omega) fun x hx => ?_
  obtain ⟨q, hq, rfl⟩ := List.mem_map.mp hx
  rw [h3 q hq, ← h q hq, worthL_poly, Int.emod_emod_of_dvd _ (Int.dvd_refl p)]
theorem mended_right {p : Int} (hp : p ∈ primes9) {pts : List (Int × Int)} (P : PtsOk p pts) {f wr : Nat} {r : List Int} (hl : r.length = f + 1) (hr : ∀ v ∈ r, 0 ≤ v ∧ v < p) (h1 : (liarsL p r pts).length ≤ wr) (hn : f + 1 + 2 * wr ≤ pts.length) :
    mendedL p f pts wr = some (r.headD 0, liarsL p r pts) := by
  have all : ∀ c ∈ choicesL (f + 1) pts, (if (liarsL p (throughL p c) pts).length ≤ wr then some ((throughL p c).headD 0, liarsL p (throughL p c) pts) else none) = none ∨
      (if (liarsL p (throughL p c) pts).length ≤ wr then some ((throughL p c).headD 0, liarsL p (throughL p c) pts) else none) = some (r.headD 0, liarsL p r pts) := by
    intro c hc
    obtain ⟨h2, h3⟩ := choices_sub _ _ c hc
    obtain ⟨t1, t2, t3⟩ := through_facts hp (Nodup.sub_map h2 P.nd)
    by_cases hw : (liarsL p (throughL p c) pts).length ≤ wr
    · have e : throughL p c = r := rows_one hp P (by omega) t2 hr hw h1 (by omega)
      exact .inr (by rw [if_pos hw, e])
    · exact .inl (if_neg hw)
  unfold mendedL
  have ex : ∃ c ∈ choicesL (f + 1) pts, throughL p c = r := by
    have hf := filter_not (fun q : Int × Int => decide (worthL p r q.1 = q.2)) pts
    have h1' := h1
    unfold liarsL at h1'
    rw [List.length_map] at h1'
    have hlen : ((pts.filter fun q => decide (worthL p r q.1 = q.2)).take (f + 1)).length = f + 1 := by rw [List.length_take]; omega
    have hsub : ((pts.filter fun q => decide (worthL p r q.1 = q.2)).take (f + 1)).Sublist pts := (List.take_sublist _ _).trans List.filter_sublist
    have hm := choices_mem hsub
    rw [hlen] at hm
    refine ⟨_, hm, through_row hp (Nodup.sub_map hsub P.nd) (by omega) hr fun q hq => ?_⟩
    have := (List.mem_filter.mp (List.mem_of_mem_take hq)).2
    simpa using this
  obtain ⟨c0, hc0, e0⟩ := ex
  generalize choicesL (f + 1) pts = L at all hc0
  induction L with
  | nil => exact nomatch hc0
  | cons c L ih =>
    rw [List.findSome?_cons]
    rcases all c List.mem_cons_self with e | e
    · rw [e]
      dsimp only
      refine ih (fun d hd => all d (List.mem_cons_of_mem _ hd)) ?_
      rcases List.mem_cons.mp hc0 with z | z
      · exfalso
        rw [← z, e0, if_pos h1] at e
        cases e
      · exact z
    · rw [e]
end Veil

namespace Veil
/-! ### M8. all rows of chance, and their exchange -/
def numsR (p : Int) : List Int := (List.range p.toNat).map fun i : Nat => (i : Int)
def longerL (p : Int) (rows : List (List Int)) : List (List Int) := rows.flatMap fun row => (numsR p).map fun n => row ++ [n]
def allRows (p : Int) : Nat → List (List Int)
  | 0 => [[]]
  | f + 1 => longerL p (allRows p f)
theorem allRows_len (p : Int) : ∀ (f : Nat), ∀ c ∈ allRows p f, c.length = f
  | 0, c, h => by have e : c = [] := by simpa [allRows] using h
                  rw [e]; rfl
  | f + 1, c, h => by
    rw [allRows, longerL] at h
    obtain ⟨row, hr, hc⟩ := List.mem_flatMap.mp h
    obtain ⟨n, _, rfl⟩ := List.mem_map.mp hc
    rw [List.length_append, allRows_len p f row hr]
    rfl
theorem allRows_b (p : Int) : ∀ (f : Nat), ∀ c ∈ allRows p f, ∀ v ∈ c, 0 ≤ v ∧ v < p
  | 0, c, h => by have e : c = [] := by simpa [allRows] using h
                  rw [e]; exact fun v hv => nomatch hv
  | f + 1, c, h => by
    rw [allRows, longerL] at h
    obtain ⟨row, hr, hc⟩ := List.mem_flatMap.mp h
    obtain ⟨n, hn, rfl⟩ := List.mem_map.mp hc
    intro v hv
    rcases List.mem_append.mp hv with hv | hv
    · exact allRows_b p f row hr v hv
    · have e : v = n := by simpa using hv
      subst e
      obtain ⟨i, hi, rfl⟩ := List.mem_map.mp hn
      have := List.mem_range.mp hi
      omega
theorem rot_all : ∀ p ∈ primes9, ∀ k : Nat, k < p.toNat → ((numsR p).map fun n => (n + (k : Int)) % p).Perm (numsR p) := by
  have h : (primes9.all fun p => (List.range p.toNat).all fun k => ((numsR p).map fun n => (n + (k : Int)) % p).isPerm (numsR p)) = true := by decide +kernel
  intro p hp k hk
  exact List.isPerm_iff.mp (List.all_eq_true.mp (List.all_eq_true.mp h p hp) k (List.mem_range.mpr hk))
theorem rot {p : Int} (hp : p ∈ primes9) (e : Int) : ((numsR p).map fun n => (n + e) % p).Perm (numsR p) := by
  have p5 := pos9 hp
  have h0 := Int.emod_nonneg e (show p ≠ 0 by omega)
  have h1 := Int.emod_lt_of_pos e (show 0 < p by omega)
  have h := rot_all p hp (e % p).toNat (by omega)
  rw [show (((e % p).toNat : Nat) : Int) = e % p by omega] at h
  have e2 : (fun n : Int => (n + e % p) % p) = fun n => (n + e) % p := by
    funext n
    rw [Int.add_emod, Int.emod_emod_of_dvd _ (Int.dvd_refl p), ← Int.add_emod]
  rw [e2] at h
  exact h
theorem flatMap_perm {α β : Type} {f g : α → List β} : ∀ (l : List α), (∀ a ∈ l, (f a).Perm (g a)) → (l.flatMap f).Perm (l.flatMap g)
  | [], _ => .nil
  | a :: l, h => by
    rw [List.flatMap_cons, List.flatMap_cons]
    exact (h a List.mem_cons_self).append (flatMap_perm l fun b hb => h b (List.mem_cons_of_mem _ hb))
theorem addT_snoc {p t a b : Int} : ∀ (as bs : List Int), as.length = bs.length → addT p t (as ++ [a]) (bs ++ [b]) = addT p t as bs ++ [(a + t * b) % p]
  | [], [], _ => rfl
  | x :: as, y :: bs, h => by
    show (x + t * y) % p :: addT p t (as ++ [a]) (bs ++ [b]) = _
    rw [addT_snoc as bs (by simpa using h)]
    rfl
  | [], _ :: _, h => by simp at h
  | _ :: _, [], h => by simp at h
theorem allRows_shift {p : Int} (hp : p ∈ primes9) : ∀ (f : Nat) (d : List Int), d.length = f → ((allRows p f).map fun c => addT p 1 c d).Perm (allRows p f)
  | 0, d, h => by
    have e : d = [] := List.length_eq_zero_iff.mp h
    subst e
    exact .refl _
  | f + 1, d, h => by
    have hd : d ≠ [] := fun z => by rw [z] at h; cases h
    obtain ⟨d', e, rfl⟩ : ∃ d' e, d = d' ++ [e] := ⟨d.dropLast, d.getLast hd, (List.dropLast_concat_getLast hd).symm⟩
    have hl : d'.length = f := by simpa using h
    have ih := allRows_shift hp f d' hl
    rw [allRows, longerL, List.map_flatMap]
    refine (flatMap_perm (g := fun row => (numsR p).map fun n => addT p 1 row d' ++ [n]) _ fun row hr => ?_).trans ?_
    · rw [List.map_map]
      have e1 : ((fun c => addT p 1 c (d' ++ [e])) ∘ fun n => row ++ [n]) = fun n => addT p 1 row d' ++ [(n + e) % p] := by
        funext n
        show addT p 1 (row ++ [n]) (d' ++ [e]) = _
        rw [addT_snoc _ _ (by rw [allRows_len p f row hr, hl]), Int.one_mul]
      rw [e1]
      have := (rot hp e).map fun n => addT p 1 row d' ++ [n]
      rw [List.map_map] at this
      exact this
    · have := ih.flatMap_right fun row => (numsR p).map fun n => row ++ [n]
      rw [List.flatMap_map] at this
      exact this
theorem polyV_pad : ∀ (r : List Int) (k : Nat) (z : Int), polyV (r ++ List.replicate k 0) z = polyV r z
  | r, 0, z => by simp
  | r, k + 1, z => by
    rw [List.replicate_succ', ← List.append_assoc, polyV_snoc0, polyV_pad r k z]
def cntL (p : Int) (f : Nat) (x : Int) (some due : List Int) : Nat := (allRows p f).countP fun c => decide (some.map (fun h => worthL p (x :: c) h) = due)
theorem count_same {p : Int} (hp : p ∈ primes9) {f : Nat} {some : List Int} (hs : some.length ≤ f) (nd : (some.map (· % p)).Nodup) (h0 : ∀ h ∈ some, h % p ≠ 0) (one two : Int) (due : List Int) : cntL p f one some due = cntL p f two some due := by
  have ndp : ((some.map fun h => (h, (one - two) * backI p h)).map fun q => q.1 % p).Nodup := by rw [List.map_map]; exact nd
  obtain ⟨t1, t2, t3⟩ := through_facts hp ndp
  rw [List.length_map] at t1
  generalize hd : throughL p (some.map fun h => (h, (one - two) * backI p h)) = d at t1 t2 t3
  have hD : (d ++ List.replicate (f - some.length) 0).length = f := by rw [List.length_append, List.length_replicate]; omega
  have key : ∀ h ∈ some, ∀ c : List Int, c.length = f → worthL p (two :: addT p 1 c (d ++ List.replicate (f - some.length) 0)) h = worthL p (one :: c) h := by
    intro h hm c hc
    have e := t3 (h, (one - two) * backI p h) (List.mem_map.mpr ⟨h, hm, rfl⟩)
    have hb := (backI_ok hp (h0 h hm)).2
    rw [worthL_poly, worthL_poly, polyV, polyV]
    have e2 := polyV_addT (p := p) (t := 1) c (d ++ List.replicate (f - some.length) 0) h (by omega)
    rw [polyV_pad] at e2
    rw [Int.add_emod, Int.mul_emod, e2, ← Int.mul_emod, ← Int.add_emod]
    have e3 : h * polyV d h % p = (one - two) % p := by
      rw [Int.mul_emod, e, ← Int.mul_emod, ← Int.mul_assoc, Int.mul_comm h, Int.mul_assoc, Int.mul_emod, hb, Int.mul_one, Int.emod_emod_of_dvd _ (Int.dvd_refl p)]
    have e4 : two + h * (polyV c h + 1 * polyV d h) = (two + h * polyV c h) + h * polyV d h := by rw [Int.one_mul, Int.mul_add]; omega
    rw [e4, Int.add_emod, e3, ← Int.add_emod]
    congr 1
    omega
  unfold cntL
  rw [← (allRows_shift hp f _ hD).countP_eq (fun c => decide (some.map (fun h => worthL p (two :: c) h) = due)), List.countP_map]
  refine List.countP_congr fun c hc => ?_
  have hl := allRows_len p f c hc
  have e : some.map (fun h => worthL p (two :: addT p 1 c (d ++ List.replicate (f - some.length) 0)) h) = some.map (fun h => worthL p (one :: c) h) := List.map_congr_left fun h hm => key h hm c hl
  show _ ↔ decide (some.map (fun h => worthL p (two :: addT p 1 c (d ++ List.replicate (f - some.length) 0)) h) = due) = true
  rw [e]
end Veil

namespace Veil
/-! ### M9. a row's worth by the sum of products (the law's own way) -/
def powL (p u : Int) : Nat → Int → Int
  | 0, o => o
  | n + 1, o => powL p u n (o * u % p)
def lagOU (p at_ x : Int) (k : Nat) : List (Int × Int) → Nat → Int × Int → Int × Int
  | [], _, ou => ou
  | o :: r, j, ou => lagOU p at_ x k r (j + 1) (if j = k then ou else (ou.1 * (at_ - o.1) % p, ou.2 * (x - o.1) % p))
def lagS (p at_ : Int) (pts : List (Int × Int)) : List (Int × Int) → Nat → Int → Int
  | [], _, t => t
  | q :: r, k, t => lagS p at_ pts r (k + 1) ((t + powL p (lagOU p at_ q.1 k pts 0 (q.2, 1)).2 (p - 2).toNat (lagOU p at_ q.1 k pts 0 (q.2, 1)).1) % p)
def lagL (p : Int) (pts : List (Int × Int)) (at_ : Int) : Int := lagS p at_ pts pts 0 0
theorem mm {p a b : Int} : a % p * b % p = a * b % p := by rw [Int.mul_emod, Int.emod_emod_of_dvd _ (Int.dvd_refl p), ← Int.mul_emod]
theorem mm' {p a b : Int} : a * (b % p) % p = a * b % p := by rw [Int.mul_emod, Int.emod_emod_of_dvd _ (Int.dvd_refl p), ← Int.mul_emod]
theorem am {p a b : Int} : (a % p + b) % p = (a + b) % p := by rw [Int.add_emod, Int.emod_emod_of_dvd _ (Int.dvd_refl p), ← Int.add_emod]
theorem am' {p a b : Int} : (a + b % p) % p = (a + b) % p := by rw [Int.add_emod, Int.emod_emod_of_dvd _ (Int.dvd_refl p), ← Int.add_emod]
theorem modmod {p a : Int} : a % p % p = a % p := Int.emod_emod_of_dvd _ (Int.dvd_refl p)
theorem mul_cong {p a b c d : Int} (h : a % p = b % p) (k : c % p = d % p) : a * c % p = b * d % p := by rw [Int.mul_emod, h, k, ← Int.mul_emod]
theorem add_cong {p a b c d : Int} (h : a % p = b % p) (k : c % p = d % p) : (a + c) % p = (b + d) % p := by rw [Int.add_emod, h, k, ← Int.add_emod]
theorem powL_mul {p u : Int} : ∀ (n : Nat) (o : Int), powL p u n o % p = o * powL p u n 1 % p
  | 0, o => by simp [powL]
  | n + 1, o => by
    rw [powL, powL_mul n, powL, mm, Int.one_mul, ← mm' (a := o) (b := powL p u n (u % p)), powL_mul n (u % p), mm, mm', Int.mul_assoc]
theorem powL_mod {p u v : Int} (h : u % p = v % p) : ∀ (n : Nat) (o : Int), powL p u n o = powL p v n o
  | 0, _ => rfl
  | n + 1, o => by rw [powL, powL, powL_mod h n, show o * u % p = o * v % p from mul_cong rfl h]
theorem fermat : ∀ p ∈ primes9, ∀ a : Nat, a < p.toNat → a ≠ 0 → (a : Int) * powL p a (p - 2).toNat 1 % p = 1 := by
  have h : (primes9.all fun p => (List.range p.toNat).all fun a => (a == 0) || decide ((a : Int) * powL p (a : Int) (p - 2).toNat 1 % p = 1)) = true := by decide +kernel
  intro p hp a ha h0
  have h1 := List.all_eq_true.mp (List.all_eq_true.mp h p hp) a (List.mem_range.mpr ha)
  rw [show (a == 0) = false from beq_eq_false_iff_ne.mpr h0, Bool.false_or] at h1
  exact of_decide_eq_true h1
theorem pow_back {p u : Int} (hp : p ∈ primes9) (hu : u % p ≠ 0) : u * powL p u (p - 2).toNat 1 % p = 1 := by
  have p5 := pos9 hp
  have h0 := Int.emod_nonneg u (show p ≠ 0 by omega)
  have h1 := Int.emod_lt_of_pos u (show 0 < p by omega)
  have h := fermat p hp (u % p).toNat (by omega) (by omega)
  rw [show (((u % p).toNat : Nat) : Int) = u % p by omega, mm, powL_mod (modmod (p := p) (a := u))] at h
  exact h
def prR (p : Int) (k : Nat) : List (Int × Int) → Nat → List Int → List Int
  | [], _, s => s
  | o :: r, j, s => prR p k r (j + 1) (if j = k then s else noughtL p o.1 s)
theorem lag_ov {p at_ x c : Int} {k : Nat} : ∀ (r : List (Int × Int)) (j : Nat) (ou : Int × Int) (s : List Int), ou.1 % p = c * polyV s at_ % p → ou.2 % p = polyV s x % p →
    (lagOU p at_ x k r j ou).1 % p = c * polyV (prR p k r j s) at_ % p ∧ (lagOU p at_ x k r j ou).2 % p = polyV (prR p k r j s) x % p
  | [], _, ou, s, h1, h2 => ⟨h1, h2⟩
  | o :: r, j, ou, s, h1, h2 => by
    rw [lagOU, prR]
    by_cases e : j = k
    · rw [if_pos e, if_pos e]
      exact lag_ov r (j + 1) ou s h1 h2
    · rw [if_neg e, if_neg e]
      refine lag_ov r (j + 1) _ _ ?_ ?_
      · show ou.1 * (at_ - o.1) % p % p = _
        rw [modmod, mul_cong h1 rfl, ← mm' (b := polyV (noughtL p o.1 s) at_), polyV_nought, mm']
        congr 1
        grind
      · show ou.2 * (x - o.1) % p % p = _
        rw [modmod, mul_cong h2 rfl, polyV_nought, Int.mul_comm]
theorem prR_len {p : Int} {k : Nat} : ∀ (r : List (Int × Int)) (j : Nat) (s : List Int), (prR p k r j s).length + (if j ≤ k ∧ k < j + r.length then 1 else 0) = s.length + r.length
  | [], j, s => by
    rw [prR, if_neg (by simp)]
    simp
  | o :: r, j, s => by
    have ih := prR_len (p := p) (k := k) r (j + 1) (if j = k then s else noughtL p o.1 s)
    rw [prR, List.length_cons]
    by_cases e : j = k
    · rw [if_pos e] at ih ⊢
      rw [if_neg (by omega)] at ih
      rw [if_pos (by omega)]
      omega
    · rw [if_neg e] at ih ⊢
      rw [nought_len] at ih
      by_cases e2 : j + 1 ≤ k ∧ k < j + 1 + r.length
      · rw [if_pos e2] at ih
        rw [if_pos (by omega)]
        omega
      · rw [if_neg e2] at ih
        rw [if_neg (by omega)]
        omega
theorem prR_keep {p z : Int} {k : Nat} : ∀ (r : List (Int × Int)) (j : Nat) (s : List Int), polyV s z % p = 0 → polyV (prR p k r j s) z % p = 0
  | [], _, _, h => h
  | o :: r, j, s, h => by
    rw [prR]
    refine prR_keep r (j + 1) _ ?_
    split
    · exact h
    · rw [polyV_nought, Int.mul_emod, h, Int.mul_zero, Int.zero_emod]
theorem prR_zero {p : Int} {k : Nat} : ∀ (r : List (Int × Int)) (j : Nat) (s : List Int) (i : Nat) (o : Int × Int), r[i]? = some o → j + i ≠ k → polyV (prR p k r j s) o.1 % p = 0
  | [], _, _, i, o, h, _ => by simp at h
  | o' :: r, j, s, 0, o, h, hk => by
    have e : o' = o := by simpa using h
    subst e
    rw [prR, if_neg (by omega)]
    refine prR_keep r (j + 1) _ ?_
    rw [polyV_nought, Int.sub_self, Int.zero_mul, Int.zero_emod]
  | o' :: r, j, s, i + 1, o, h, hk => by
    rw [prR]
    exact prR_zero r (j + 1) _ i o (by simpa using h) (by omega)
theorem prR_non {p x : Int} (hp : p ∈ primes9) {k : Nat} : ∀ (r : List (Int × Int)) (j : Nat) (s : List Int), polyV s x % p ≠ 0 → (∀ (i : Nat) (o : Int × Int), r[i]? = some o → j + i ≠ k → x % p ≠ o.1 % p) → polyV (prR p k r j s) x % p ≠ 0
  | [], _, _, h, _ => h
  | o :: r, j, s, h, hx => by
    rw [prR]
    refine prR_non hp r (j + 1) _ ?_ fun i o' h1 h2 => hx (i + 1) o' (by simpa using h1) (by omega)
    split
    · exact h
    · rename_i hj
      intro e
      rw [polyV_nought] at e
      rcases dom hp e with e | e
      · exact hx 0 o rfl (by omega) (Int.emod_eq_emod_iff_emod_sub_eq_zero.mpr e)
      · exact h e
/-- the number that stands ahead of the k-th product -/
def lagC (p : Int) (pts : List (Int × Int)) (q : Int × Int) (k : Nat) : Int := q.2 * powL p (polyV (prR p k pts 0 [1]) q.1) (p - 2).toNat 1
def sumR (p : Int) (pts : List (Int × Int)) : List (Int × Int) → Nat → List Int → List Int
  | [], _, a => a
  | q :: r, k, a => sumR p pts r (k + 1) (addT p (lagC p pts q k) a (prR p k pts 0 [1]))
theorem lag_term {p at_ : Int} (pts : List (Int × Int)) (q : Int × Int) (k : Nat) : powL p (lagOU p at_ q.1 k pts 0 (q.2, 1)).2 (p - 2).toNat (lagOU p at_ q.1 k pts 0 (q.2, 1)).1 % p = lagC p pts q k * polyV (prR p k pts 0 [1]) at_ % p := by
  obtain ⟨h1, h2⟩ := lag_ov (p := p) (at_ := at_) (x := q.1) (c := q.2) (k := k) pts 0 (q.2, 1) [1] (by simp [polyV]) (by simp [polyV])
  rw [powL_mul, powL_mod h2, mul_cong h1 rfl]
  unfold lagC
  congr 1
  grind
theorem pr_len {p : Int} {pts : List (Int × Int)} {k : Nat} (hk : k < pts.length) : (prR p k pts 0 [1]).length = pts.length := by
  have := prR_len (p := p) (k := k) pts 0 [1]
  rw [if_pos (by omega)] at this
  simp at this
  omega
theorem lag_sum {p at_ : Int} {pts : List (Int × Int)} : ∀ (r : List (Int × Int)) (k : Nat) (t : Int) (a : List Int), k + r.length = pts.length → a.length = pts.length → t % p = polyV a at_ % p → lagS p at_ pts r k t % p = polyV (sumR p pts r k a) at_ % p
  | [], _, _, _, _, _, h => h
  | q :: r, k, t, a, hk, ha, h => by
    have hk' : k + (r.length + 1) = pts.length := hk
    rw [lagS, sumR]
    refine lag_sum r (k + 1) _ _ (by omega) ?_ ?_
    · rw [addT_len, pr_len (by omega)]
      omega
    · rw [modmod, polyV_addT _ _ _ (by rw [pr_len (by omega)]; exact ha), add_cong h (lag_term pts q k)]
theorem sumR_len {p : Int} {pts : List (Int × Int)} : ∀ (r : List (Int × Int)) (k : Nat) (a : List Int), k + r.length = pts.length → a.length = pts.length → (sumR p pts r k a).length = pts.length
  | [], _, _, _, h => h
  | q :: r, k, a, hk, ha => by
    have hk' : k + (r.length + 1) = pts.length := hk
    rw [sumR]
    exact sumR_len r (k + 1) _ (by omega) (by rw [addT_len, pr_len (by omega)]; omega)
theorem sumR_b {p : Int} (hp : 0 < p) {pts : List (Int × Int)} : ∀ (r : List (Int × Int)) (k : Nat) (a : List Int), (∀ v ∈ a, 0 ≤ v ∧ v < p) → ∀ v ∈ sumR p pts r k a, 0 ≤ v ∧ v < p
  | [], _, _, h => h
  | q :: r, k, a, h => by
    rw [sumR]
    exact sumR_b hp r (k + 1) _ (addT_b hp _ _)
theorem sumR_at {p : Int} (hp : p ∈ primes9) {pts : List (Int × Int)} (nd : (pts.map fun q => q.1 % p).Nodup) {i : Nat} {o : Int × Int} (hi : pts[i]? = some o) : ∀ (r : List (Int × Int)) (k : Nat) (a : List Int), r = pts.drop k → a.length = pts.length →
    polyV (sumR p pts r k a) o.1 % p = (polyV a o.1 + if k ≤ i then o.2 else 0) % p
  | [], k, a, hr, ha => by
    have hk : pts.length ≤ k := by
      have := congrArg List.length hr
      rw [List.length_drop] at this
      simp at this
      omega
    have := (List.getElem?_eq_some_iff.mp hi).1
    rw [sumR, if_neg (by omega), Int.add_zero]
  | q :: r, k, a, hr, ha => by
    have hk : k < pts.length := by
      have := congrArg List.length hr
      rw [List.length_drop] at this
      simp at this
      omega
    have hq : pts[k]? = some q := by
      have := congrArg (fun l => l[0]?) hr
      simp at this
      exact this.symm
    have hr' : r = pts.drop (k + 1) := by
      have := congrArg List.tail hr
      rw [List.tail_drop] at this
      exact this
    rw [sumR, sumR_at hp nd hi r (k + 1) _ hr' (by rw [addT_len, pr_len hk]; omega)]
    rw [add_cong (polyV_addT _ _ _ (by rw [pr_len hk]; exact ha)) rfl]
    by_cases e : i = k
    · subst e
      rw [hi] at hq
      cases hq
      rw [if_neg (by omega), if_pos (by omega), Int.add_zero]
      refine add_cong rfl ?_
      have non : polyV (prR p i pts 0 [1]) o.1 % p ≠ 0 := by
        refine prR_non hp pts 0 [1] ?_ fun j o' h1 h2 h3 => ?_
        · have := pos9 hp
          simp only [polyV, Int.mul_zero, Int.add_zero]
          rw [Int.emod_eq_of_lt (by decide) (by omega)]
          decide
        · have hij : i ≠ j := by omega
          obtain ⟨b1, c1⟩ := List.getElem?_eq_some_iff.mp hi
          obtain ⟨b2, c2⟩ := List.getElem?_eq_some_iff.mp h1
          have := (List.getElem_inj (xs := pts.map fun q => q.1 % p) (i := i) (j := j) (h₀ := by simpa using b1) (h₁ := by simpa using b2) nd).mp (by simp [c1, c2, h3])
          exact hij this
      have hb := pow_back hp non
      unfold lagC
      rw [Int.mul_assoc, Int.mul_comm (powL _ _ _ _), ← mm', hb, Int.mul_one]
    · have hz : polyV (prR p k pts 0 [1]) o.1 % p = 0 := prR_zero pts 0 [1] i o hi (by omega)
      have e1 : (polyV a o.1 + lagC p pts q k * polyV (prR p k pts 0 [1]) o.1) % p = polyV a o.1 % p := by
        rw [Int.add_emod, Int.mul_emod, hz, Int.mul_zero, Int.zero_emod, Int.add_zero, modmod]
      rw [add_cong e1 rfl]
      congr 2
      by_cases e2 : k ≤ i
      · rw [if_pos e2, if_pos (by omega)]
      · rw [if_neg e2, if_neg (by omega)]
theorem lagS_b {p at_ : Int} (hp : 0 < p) {pts : List (Int × Int)} : ∀ (r : List (Int × Int)) (k : Nat) (t : Int), (0 ≤ t ∧ t < p) → 0 ≤ lagS p at_ pts r k t ∧ lagS p at_ pts r k t < p
  | [], _, _, h => h
  | q :: r, k, t, h => by
    rw [lagS]
    exact lagS_b hp r (k + 1) _ ⟨Int.emod_nonneg _ (by omega), Int.emod_lt_of_pos _ hp⟩
theorem polyV_zeros : ∀ (n : Nat) (z : Int), polyV (List.replicate n 0) z = 0
  | 0, _ => rfl
  | n + 1, z => by rw [List.replicate_succ, polyV, polyV_zeros n]; simp
theorem lag_eq {p : Int} (hp : p ∈ primes9) {pts : List (Int × Int)} (nd : (pts.map fun q => q.1 % p).Nodup) {r : List Int} (hl : r.length = pts.length) (hr : ∀ v ∈ r, 0 ≤ v ∧ v < p) (h : ∀ q ∈ pts, polyV r q.1 % p = q.2 % p) (at_ : Int) : lagL p pts at_ = worthL p r at_ := by
  have p5 := pos9 hp
  have e : sumR p pts pts 0 (List.replicate pts.length 0) = r := by
    refine row_unique hp (xs := pts.map (·.1)) (by rw [sumR_len pts 0 _ (by simp) (by simp)]; omega) (sumR_b (by omega) pts 0 _ fun v hv => ?_) hr (by rw [List.map_map]; exact nd) (by rw [sumR_len pts 0 _ (by simp) (by simp), List.length_map]; exact Nat.le_refl _) fun x hx => ?_
    · have := List.eq_of_mem_replicate hv
      omega
    · obtain ⟨q, hq, rfl⟩ := List.mem_map.mp hx
      obtain ⟨i, hi, rfl⟩ := List.mem_iff_getElem.mp hq
      rw [sumR_at hp nd (i := i) (o := pts[i]) (by simp [hi]) pts 0 _ rfl (by simp), polyV_zeros, if_pos (Nat.zero_le _), Int.zero_add, h _ hq]
  have h1 := lag_sum (p := p) (at_ := at_) (pts := pts) pts 0 0 (List.replicate pts.length 0) (by simp) (by simp) (by rw [polyV_zeros])
  have hb := lagS_b (at_ := at_) (show 0 < p by omega) (pts := pts) pts 0 0 ⟨by omega, by omega⟩
  rw [e, Int.emod_eq_of_lt hb.1 hb.2] at h1
  rw [worthL_poly]
  exact h1
theorem lag_through {p : Int} (hp : p ∈ primes9) {pts : List (Int × Int)} (nd : (pts.map fun q => q.1 % p).Nodup) (at_ : Int) : lagL p pts at_ = worthL p (throughL p pts) at_ := by
  obtain ⟨t1, t2, t3⟩ := through_facts hp nd
  exact lag_eq hp nd t1 t2 t3 at_
end Veil

namespace Veil
/-! ### M10. shares that came -/
def cameP : Int → List (Option Int) → List (Int × Int)
  | _, [] => []
  | k, none :: r => cameP (k + 1) r
  | k, some y :: r => (k, y) :: cameP (k + 1) r
theorem came_ge : ∀ (k : Int) (os : List (Option Int)), ∀ q ∈ cameP k os, k ≤ q.1 ∧ q.1 < k + os.length
  | _, [], q, h => nomatch h
  | k, none :: r, q, h => by
    have := came_ge (k + 1) r q h
    rw [List.length_cons]
    omega
  | k, some y :: r, q, h => by
    rw [List.length_cons]
    rcases List.mem_cons.mp h with e | e
    · rw [e]
      show k ≤ k ∧ k < _
      omega
    · have := came_ge (k + 1) r q e
      omega
theorem came_rising : ∀ (k : Int) (os : List (Option Int)), (cameP k os).Pairwise (fun a b => a.1 < b.1)
  | _, [] => .nil
  | k, none :: r => came_rising (k + 1) r
  | k, some y :: r => .cons (fun q hq => by have := came_ge (k + 1) r q hq; show k < q.1; omega) (came_rising (k + 1) r)
theorem came_mem {h y : Int} : ∀ (k : Int) (os : List (Option Int)), (h, y) ∈ cameP k os ↔ k ≤ h ∧ os[(h - k).toNat]? = some (some y)
  | k, [] => by simp [cameP]
  | k, o :: r => by
    have ih := came_mem (h := h) (y := y) (k + 1) r
    have shift : k + 1 ≤ h → (o :: r)[(h - k).toNat]? = r[(h - (k + 1)).toNat]? := fun hk => by
      rw [show (h - k).toNat = (h - (k + 1)).toNat + 1 by omega]
      rfl
    cases o with
    | none =>
      show (h, y) ∈ cameP (k + 1) r ↔ _
      rw [ih]
      constructor
      · rintro ⟨a, b⟩
        exact ⟨by omega, by rw [shift a]; exact b⟩
      · rintro ⟨a, b⟩
        by_cases hk : k = h
        · subst hk
          rw [Int.sub_self] at b
          simp at b
        · rw [shift (by omega)] at b
          exact ⟨by omega, b⟩
    | some z =>
      show (h, y) ∈ (k, z) :: cameP (k + 1) r ↔ _
      rw [List.mem_cons, ih]
      constructor
      · rintro (e | ⟨a, b⟩)
        · injection e with e1 e2
          subst e1 e2
          rw [Int.sub_self]
          exact ⟨Int.le_refl _, rfl⟩
        · exact ⟨by omega, by rw [shift a]; exact b⟩
      · rintro ⟨a, b⟩
        by_cases hk : k = h
        · subst hk
          rw [Int.sub_self] at b
          have e : z = y := by simpa using b
          exact .inl (by rw [e])
        · rw [shift (by omega)] at b
          exact .inr ⟨by omega, b⟩
theorem came_len : ∀ (k : Int) (os : List (Option Int)), (cameP k os).length + os.countP (·.isNone) = os.length
  | _, [] => rfl
  | k, none :: r => by
    have := came_len (k + 1) r
    show (cameP (k + 1) r).length + _ = _
    rw [List.countP_cons, List.length_cons]
    simp
    omega
  | k, some y :: r => by
    have := came_len (k + 1) r
    show (cameP (k + 1) r).length + 1 + _ = _
    rw [List.countP_cons, List.length_cons]
    simp
    omega
theorem came_ok {p : Int} {os : List (Option Int)} (hl : (os.length : Int) < p) (hb : ∀ (i : Nat) (y : Int), os[i]? = some (some y) → 0 ≤ y ∧ y < p) : PtsOk p (cameP 1 os) where
  nd := by
    show List.Pairwise (· ≠ ·) _
    rw [List.pairwise_map]
    refine List.Pairwise.imp_of_mem ?_ (came_rising 1 os)
    intro a b ha hb' hlt e
    have h1 := came_ge 1 os a ha
    have h2 := came_ge 1 os b hb'
    rw [Int.emod_eq_of_lt (by omega) (by omega), Int.emod_eq_of_lt (by omega) (by omega)] at e
    omega
  yb := fun q hq => hb (q.1 - 1).toNat q.2 ((came_mem (h := q.1) (y := q.2) 1 os).mp hq).2
theorem came_take (k : Int) : ∀ (os : List (Option Int)) (i : Nat) (o : Option Int), os[i]? = some o → cameP k (os.take i) ++ (match o with | none => [] | some y => [(k + (i : Int), y)]) = cameP k (os.take (i + 1))
  | [], _, _, h => by simp at h
  | o' :: r, 0, o, h => by
    have e : o' = o := by simpa using h
    subst e
    cases o' with
    | none => rfl
    | some y => simp [cameP]
  | o' :: r, i + 1, o, h => by
    have h' : r[i]? = some o := by simpa using h
    cases o' with
    | none =>
      have ih := came_take (k + 1) r i o h'
      show cameP (k + 1) (r.take i) ++ _ = cameP (k + 1) (r.take (i + 1))
      rw [← ih]
      congr 1
      cases o with
      | none => rfl
      | some y =>
        show [(k + ((i + 1 : Nat) : Int), y)] = [(k + 1 + (i : Int), y)]
        rw [show k + ((i + 1 : Nat) : Int) = k + 1 + (i : Int) by omega]
    | some z =>
      have ih := came_take (k + 1) r i o h'
      show (k, z) :: cameP (k + 1) (r.take i) ++ _ = (k, z) :: cameP (k + 1) (r.take (i + 1))
      rw [← ih, List.cons_append]
      congr 2
      cases o with
      | none => rfl
      | some y =>
        show [(k + ((i + 1 : Nat) : Int), y)] = [(k + 1 + (i : Int), y)]
        rw [show k + ((i + 1 : Nat) : Int) = k + 1 + (i : Int) by omega]
/-! ### M11. shares with wrong ones at li -/
structure LieSt (p : Int) (n : Nat) (row li : List Int) (os : List (Option Int)) : Prop where
  len : os.length = n
  nd : li.Nodup
  lb : ∀ h ∈ li, 1 ≤ h ∧ h ≤ n
  lie : ∀ h ∈ li, ∃ y, os[(h - 1).toNat]? = some (some y) ∧ (0 ≤ y ∧ y < p) ∧ y ≠ worthL p row h
  hon : ∀ i : Nat, i < n → (1 + (i : Int)) ∉ li → os[i]? = some none ∨ os[i]? = some (some (worthL p row (1 + (i : Int))))
theorem LieSt.start {p : Int} {n : Nat} {row : List Int} : LieSt p n row [] ((List.range n).map fun i : Nat => some (worthL p row (1 + (i : Int)))) where
  len := by simp
  nd := List.nodup_nil
  lb := fun h hm => nomatch hm
  lie := fun h hm => nomatch hm
  hon := fun i hi _ => .inr (by rw [List.getElem?_map, List.getElem?_range hi]; rfl)
theorem LieSt.more {p : Int} {n : Nat} {row li : List Int} {os : List (Option Int)} (L : LieSt p n row li os) {k : Nat} (hk : k < n) (hn : (1 + (k : Int)) ∉ li) {y : Int} (hy : 0 ≤ y ∧ y < p) (hne : y ≠ worthL p row (1 + (k : Int))) : LieSt p n row (li ++ [1 + (k : Int)]) (os.set k (some y)) where
  len := by rw [List.length_set, L.len]
  nd := by
    refine List.nodup_append.mpr ⟨L.nd, by simp, fun a ha b hb e => ?_⟩
    have e2 : b = 1 + (k : Int) := by simpa using hb
    exact hn (by rw [← e2, ← e]; exact ha)
  lb := fun h hm => by
    rcases List.mem_append.mp hm with hm | hm
    · exact L.lb h hm
    · have e : h = 1 + (k : Int) := by simpa using hm
      omega
  lie := fun h hm => by
    rcases List.mem_append.mp hm with hm | hm
    · have hb := L.lb h hm
      have hne2 : k ≠ (h - 1).toNat := fun e => hn (by rw [show 1 + (k : Int) = h by omega]; exact hm)
      obtain ⟨z, h1, h2⟩ := L.lie h hm
      exact ⟨z, by rw [List.getElem?_set_ne hne2]; exact h1, h2⟩
    · have e : h = 1 + (k : Int) := by simpa using hm
      subst e
      refine ⟨y, ?_, hy, hne⟩
      rw [show (1 + (k : Int) - 1).toNat = k by omega, List.getElem?_set_self (by rw [L.len]; exact hk)]
  hon := fun i hi hm => by
    have h1 : (1 + (i : Int)) ∉ li := fun z => hm (List.mem_append_left _ z)
    have h2 : k ≠ i := fun e => hm (List.mem_append_right _ (by rw [e]; exact List.mem_singleton.mpr rfl))
    rw [List.getElem?_set_ne h2]
    exact L.hon i hi h1
theorem LieSt.gone {p : Int} {n : Nat} {row li : List Int} {os : List (Option Int)} (L : LieSt p n row li os) {k : Nat} (hk : k < n) (hn : (1 + (k : Int)) ∉ li) : LieSt p n row li (os.set k none) where
  len := by rw [List.length_set, L.len]
  nd := L.nd
  lb := L.lb
  lie := fun h hm => by
    have hb := L.lb h hm
    have hne2 : k ≠ (h - 1).toNat := fun e => hn (by rw [show 1 + (k : Int) = h by omega]; exact hm)
    obtain ⟨z, h1, h2⟩ := L.lie h hm
    exact ⟨z, by rw [List.getElem?_set_ne hne2]; exact h1, h2⟩
  hon := fun i hi hm => by
    by_cases h2 : k = i
    · subst h2
      exact .inl (by rw [List.getElem?_set_self (by rw [L.len]; exact hk)])
    · rw [List.getElem?_set_ne h2]
      exact L.hon i hi hm
theorem LieSt.b {p : Int} (hp : 0 < p) {n : Nat} {row li : List Int} {os : List (Option Int)} (L : LieSt p n row li os) (i : Nat) (y : Int) (h : os[i]? = some (some y)) : 0 ≤ y ∧ y < p := by
  have hi : i < n := by rw [← L.len]; exact (List.getElem?_eq_some_iff.mp h).1
  by_cases hm : (1 + (i : Int)) ∈ li
  · obtain ⟨z, h1, h2, _⟩ := L.lie _ hm
    rw [show (1 + (i : Int) - 1).toNat = i by omega, h] at h1
    cases h1
    exact h2
  · rcases L.hon i hi hm with z | z
    · rw [h] at z
      cases z
    · rw [h] at z
      cases z
      exact worthL_b hp _ _
theorem LieSt.liars_mem {p : Int} {n : Nat} {row li : List Int} {os : List (Option Int)} (L : LieSt p n row li os) (h : Int) : h ∈ liarsL p row (cameP 1 os) ↔ h ∈ li := by
  unfold liarsL
  rw [List.mem_map]
  constructor
  · rintro ⟨⟨g, y⟩, hq, rfl⟩
    obtain ⟨h1, h2⟩ := List.mem_filter.mp hq
    obtain ⟨h3, h4⟩ := (came_mem 1 os).mp h1
    have hi : (g - 1).toNat < n := by rw [← L.len]; exact (List.getElem?_eq_some_iff.mp h4).1
    have eg : 1 + (((g - 1).toNat : Nat) : Int) = g := by omega
    by_cases hm : g ∈ li
    · exact hm
    · exfalso
      rcases L.hon _ hi (by rw [eg]; exact hm) with z | z
      · rw [h4] at z
        cases z
      · rw [h4, eg] at z
        have e : y = worthL p row g := by injection z with z; injection z
        simp [e] at h2
  · intro hm
    obtain ⟨y, h1, _, h2⟩ := L.lie h hm
    have hb := L.lb h hm
    refine ⟨(h, y), List.mem_filter.mpr ⟨(came_mem 1 os).mpr ⟨hb.1, h1⟩, ?_⟩, rfl⟩
    simp
    exact fun e => h2 e.symm
theorem liars_rising (p : Int) (row : List Int) (os : List (Option Int)) : (liarsL p row (cameP 1 os)).Pairwise (· < ·) := by
  unfold liarsL
  rw [List.pairwise_map]
  exact (came_rising 1 os).filter _
theorem LieSt.liars_perm {p : Int} {n : Nat} {row li : List Int} {os : List (Option Int)} (L : LieSt p n row li os) : (liarsL p row (cameP 1 os)).Perm li :=
  (List.perm_ext_iff_of_nodup ((liars_rising p row os).imp fun h => Int.ne_of_lt h) L.nd).mpr L.liars_mem
theorem LieSt.liars {p : Int} {n : Nat} {row li ms : List Int} {os : List (Option Int)} (L : LieSt p n row li os) (pm : ms.Perm li) (pw : ms.Pairwise (· ≤ ·)) : liarsL p row (cameP 1 os) = ms :=
  (L.liars_perm.trans pm.symm).eq_of_pairwise (fun a b _ _ h1 h2 => Int.le_antisymm h1 h2) ((liars_rising p row os).imp fun h => Int.le_of_lt h) pw
theorem far_ne {p v far : Int} (hv : 0 ≤ v ∧ v < p) (hf : 1 ≤ far ∧ far < p) : (v + far) % p ≠ v := by
  intro e
  by_cases h : v + far < p
  · rw [Int.emod_eq_of_lt (by omega) h] at e
    omega
  · have e2 : (v + far) % p = v + far - p := by
      rw [show v + far = (v + far - p) + p * 1 by omega, Int.add_mul_emod_self_left, Int.emod_eq_of_lt (by omega) (by omega)]
      omega
    omega
end Veil

namespace Veil
open PySem L2
/-! ### S7. a list of rows; l: an address that none of them has -/
def LLAt (l : Addr) (H : Hp) : List V → List (List Int) → Prop := Paired fun v r => ∃ a, v = .ref a ∧ a ≠ l ∧ H a = some (.lst (r.map V.int))
theorem LLAt.same {l : Addr} {H H' : Hp} (s : Same H H') {vs : List V} {rs : List (List Int)} (h : LLAt l H vs rs) : LLAt l H' vs rs := Paired.mapP h fun v r ⟨a, e, n, z⟩ => ⟨a, e, n, s _ _ z⟩
theorem LLAt.upd {l : Addr} {H : Hp} {o : HO} {vs : List V} {rs : List (List Int)} (h : LLAt l H vs rs) : LLAt l (L2.upd H l o) vs rs := Paired.mapP h fun v r ⟨a, e, n, z⟩ => ⟨a, e, n, by rw [upd_ne n]; exact z⟩
theorem LLAt.to {l d : Addr} {H : Hp} (hd : H d = none) {vs : List V} {rs : List (List Int)} (h : LLAt l H vs rs) : LLAt d H vs rs := Paired.mapP h fun v r ⟨a, e, n, z⟩ => ⟨a, e, ne_of_none z hd, z⟩
theorem LLAt.len {l : Addr} {H : Hp} {vs : List V} {rs : List (List Int)} (h : LLAt l H vs rs) : vs.length = rs.length := Paired.length h
theorem LLAt.snoc {l : Addr} {H : Hp} {vs : List V} {rs : List (List Int)} (h : LLAt l H vs rs) {a : Addr} {r : List Int} (n : a ≠ l) (z : H a = some (.lst (r.map V.int))) : LLAt l H (vs ++ [.ref a]) (rs ++ [r]) := Paired.snoc h ⟨a, rfl, n, z⟩
theorem LLAt.get {l : Addr} {H : Hp} : ∀ {vs : List V} {rs : List (List Int)} {i : Nat} {x : V}, LLAt l H vs rs → vs[i]? = some x → ∃ a r, x = .ref a ∧ a ≠ l ∧ H a = some (.lst (r.map V.int)) ∧ rs[i]? = some r
  | _, _, _, _, .nil, e => by simp at e
  | _, _, 0, _, .cons ⟨a, r, n, z⟩ _, e => by simp at e; subst e; exact ⟨a, _, r, n, z, rfl⟩
  | _, _, i + 1, x, .cons _ t, e => by
    obtain ⟨a, q, h1, n, h2, h3⟩ := LLAt.get (i := i) (x := x) t (by simpa using e)
    exact ⟨a, q, h1, n, h2, by simpa using h3⟩
theorem small10k {n : Nat} (h : n ≤ 10000) : n < sizeLine := Nat.lt_of_le_of_lt h (by decide)
theorem longerL_len (p : Int) : ∀ (rows : List (List Int)), (longerL p rows).length = rows.length * p.toNat
  | [] => by simp [longerL]
  | r :: rows => by
    have ih := longerL_len p rows
    unfold longerL at ih ⊢
    rw [List.flatMap_cons, List.length_append, ih, List.length_map, numsR, List.length_map, List.length_range, List.length_cons, Nat.succ_mul]
    omega
theorem longerL_take {p : Int} {rows : List (List Int)} {i : Nat} {r : List Int} (h : rows[i]? = some r) : longerL p (rows.take i) ++ ((numsR p).map fun n => r ++ [n]) = longerL p (rows.take (i + 1)) := by
  rw [← take_snoc h]
  unfold longerL
  rw [List.flatMap_append]
  simp
theorem numsR_at {p : Int} {j : Nat} (h : j < p.toNat) : (numsR p)[j]? = some (j : Int) := by
  unfold numsR
  rw [List.getElem?_map, List.getElem?_range h]
  rfl
theorem numsR_len (p : Int) : (numsR p).length = p.toNat := by unfold numsR; rw [List.length_map, List.length_range]
def NewRows (H : Hp) (Q : VK) (rows : List (List Int)) : Prop := ∀ d H' ws, Same H H' → H d = none → H' d = some (.lst ws) → LLAt d H' ws rows → Q (.ref d) H'
def spLonger : Sp := fun vs H Q _ => ∃ (r l0 : Addr) (p : Int) (rs : List V) (rows : List (List Int)), vs = [.ref r, .int p] ∧ 0 < p ∧ p ≤ 31 ∧ H r = some (.lst rs) ∧ LLAt l0 H rs rows ∧ rows.length ≤ 200 ∧ (∀ r ∈ rows, r.length ≤ 5) ∧ NewRows H Q (longerL p rows)
def spAllRows : Sp := fun vs H Q _ => ∃ (p f : Int), vs = [.int p, .int f] ∧ 0 < p ∧ p ≤ 31 ∧ 0 ≤ f ∧ f ≤ 2 ∧ NewRows H Q (allRows p f.toNat)
def spCounted (C : Addr) : Sp := fun vs H Q _ => ∃ (t s d : Addr) (p n f x : Int) (sm due : List Int), vs = [.ref t, .int x, .ref s, .ref d] ∧ TabAt C H t p n f ∧ 0 < p ∧ p ≤ 31 ∧ 0 ≤ n ∧ n ≤ 10 ∧ 0 ≤ f ∧ f ≤ 2 ∧ H s = some (.lst (sm.map V.int)) ∧ H d = some (.lst (due.map V.int)) ∧
  sm.length ≤ 10 ∧ (∀ h ∈ sm, 1 ≤ h ∧ h ≤ n) ∧ PureQ H Q (.int (cntL p f.toNat x sm due : Nat))
theorem dealt_at {p x : Int} {n : Nat} {cs : List Int} {h : Int} (h1 : 1 ≤ h) (h2 : h ≤ n) : atI ((dealtL p n x cs).map V.int) (h - 1) = some (.int (worthL p (x :: cs) h)) := by
  have e : (((h - 1).toNat : Nat) : Int) = h - 1 := by omega
  rw [← e]
  refine atI_nat ?_
  unfold dealtL
  rw [List.getElem?_map, List.getElem?_map, List.getElem?_range (by omega)]
  show some (V.int (worthL p (x :: cs) (1 + (((h - 1).toNat : Nat) : Int)))) = _
  rw [e, show 1 + (h - 1) = h by omega]
/-- the hands that look, drawn -/
def J7 (c : Int) (a t : Addr) (x0 x1 x2 fi : Int) (H2 : Hp) : St → Hp → Prop := fun σ H7 => Same H2 H7 ∧ ∃ (sa : Addr) (sm : List Int), σ = [some (.ref a), some (.int x0), some (.ref t), some (.int x1), some (.int x2), some (.int fi), some (.ref sa), none, none, none] ∧
  H7 sa = some (.lst (sm.map V.int)) ∧ (sm.length : Int) ≤ tbF c ∧ sm.Nodup ∧ ∀ h ∈ sm, 1 ≤ h ∧ h ≤ tbN c
end Veil

namespace Veil
open PySem L2
/-! ### S10. refusals -/
def spBackE (C cN : Addr) : Sp := fun vs H _ E => ∃ (t : Addr) (p n f : Int), vs = [.ref t, .int 0] ∧ TabAt C H t p n f ∧ p ∈ primes9 ∧ E (.ref cN) none H
end Veil

namespace Veil
open PySem L2
/-! ### S4b. points at unlike places, and one place twice -/
theorem dedup_len : ∀ (acc ns : List Int), acc.Nodup → (ns.foldl PyProof.Rows.step_dedup acc).length ≤ acc.length + ns.length ∧ ((ns.foldl PyProof.Rows.step_dedup acc).length = acc.length + ns.length → (acc ++ ns).Nodup)
  | acc, [], h => by simp [h]
  | acc, x :: r, h => by
    by_cases hx : x ∈ acc
    · have e : PyProof.Rows.step_dedup acc x = acc := by
        unfold PyProof.Rows.step_dedup
        rw [if_pos]
        simpa using hx
      have ih := dedup_len acc r h
      rw [List.foldl_cons, e, List.length_cons]
      exact ⟨by omega, fun z => by omega⟩
    · have e : PyProof.Rows.step_dedup acc x = acc ++ [x] := by
        unfold PyProof.Rows.step_dedup
        rw [if_neg]
        simpa using hx
      have nd : (acc ++ [x]).Nodup := List.nodup_append.mpr ⟨h, by simp, fun a ha b hb z => hx (by rw [show x = b by simpa using (List.mem_singleton.mp hb).symm, ← z]; exact ha)⟩
      have ih := dedup_len (acc ++ [x]) r nd
      rw [List.foldl_cons, e, List.length_cons]
      rw [List.length_append, List.length_singleton] at ih
      refine ⟨by omega, fun z => ?_⟩
      have := ih.2 (by omega)
      simpa using this
theorem firstMet_twice {ns : List Int} (h : ¬ ns.Nodup) : (PyProof.Rows.firstMet (fun i => ns.getD i 0) ns.length).length < ns.length := by
  unfold PyProof.Rows.firstMet
  rw [range_getD]
  have d := dedup_len [] ns List.nodup_nil
  simp only [List.length_nil, Nat.zero_add, List.nil_append] at d
  rcases Nat.lt_or_ge (ns.foldl PyProof.Rows.step_dedup []).length ns.length with z | z
  · exact z
  · exact absurd (d.2 (by omega)) h
def atL (p a0 far : Int) (k : Nat) : Int := (a0 + (k : Int) * far) % p
def ptsL (ns : List Int) (p : Int) (m : Nat) : List (Int × Int) := (List.range m).map fun k : Nat => (atL p (cellN ns 1 % p) (1 + cellN ns 2 % (p - 1)) k, mixI (cellN ns (3 + (k : Int))) (k : Int) p)
theorem atL_next (p a0 far : Int) (k : Nat) : (atL p a0 far k + far) % p = atL p a0 far (k + 1) := by
  unfold atL
  rw [Int.add_emod, Int.emod_emod_of_dvd _ (Int.dvd_refl p), ← Int.add_emod]
  congr 1
  rw [Int.natCast_add, Int.add_mul]
  omega
theorem ptsL_len (ns : List Int) (p : Int) (m : Nat) : (ptsL ns p m).length = m := by unfold ptsL; rw [List.length_map, List.length_range]
theorem ptsL_more (ns : List Int) (p : Int) (m : Nat) : ptsL ns p m ++ [(atL p (cellN ns 1 % p) (1 + cellN ns 2 % (p - 1)) m, mixI (cellN ns (3 + (m : Int))) (m : Int) p)] = ptsL ns p (m + 1) := by unfold ptsL; rw [← map_take]
theorem ptsL_b {ns : List Int} {p : Int} (hp : p ∈ primes9) {m : Nat} : ∀ q ∈ ptsL ns p m, (0 ≤ q.1 ∧ q.1 < p) ∧ 0 ≤ q.2 ∧ q.2 < p := by
  intro q hq
  have p5 := pos9 hp
  obtain ⟨k, _, rfl⟩ := List.mem_map.mp hq
  exact ⟨⟨Int.emod_nonneg _ (by omega), Int.emod_lt_of_pos _ (by omega)⟩, mixI_nonneg (by omega), mixI_lt (by omega)⟩
theorem ptsL_nodup {ns : List Int} {p : Int} (hp : p ∈ primes9) {m : Nat} (hm : (m : Int) ≤ p) : ((ptsL ns p m).map fun q => q.1 % p).Nodup := by
  have p5 := pos9 hp
  unfold ptsL
  rw [List.map_map]
  show List.Pairwise (· ≠ ·) _
  rw [List.pairwise_map]
  refine List.Pairwise.imp_of_mem ?_ (show List.Pairwise (· < ·) (List.range m) from List.pairwise_lt_range)
  intro i j hi hj hlt e
  have hi := List.mem_range.mp hi
  have hj := List.mem_range.mp hj
  have e : atL p (cellN ns 1 % p) (1 + cellN ns 2 % (p - 1)) i % p = atL p (cellN ns 1 % p) (1 + cellN ns 2 % (p - 1)) j % p := e
  have f0 := Int.emod_nonneg (cellN ns 2) (show p - 1 ≠ 0 by omega)
  have f1 := Int.emod_lt_of_pos (cellN ns 2) (show 0 < p - 1 by omega)
  unfold atL at e
  rw [Int.emod_emod_of_dvd _ (Int.dvd_refl p), Int.emod_emod_of_dvd _ (Int.dvd_refl p)] at e
  have z := Int.emod_eq_emod_iff_emod_sub_eq_zero.mp e.symm
  have e2 : cellN ns 1 % p + (j : Int) * (1 + cellN ns 2 % (p - 1)) - (cellN ns 1 % p + (i : Int) * (1 + cellN ns 2 % (p - 1))) = ((j : Int) - (i : Int)) * (1 + cellN ns 2 % (p - 1)) := by rw [Int.sub_mul]; omega
  rw [e2] at z
  rcases dom hp z with z | z
  · rw [Int.emod_eq_of_lt (by omega) (by omega)] at z
    omega
  · rw [Int.emod_eq_of_lt (by omega) (by omega)] at z
    omega
def dpt (q : Int × Int) : PySem.W.Dat := .tuple [.int q.1, .int q.2]
theorem PtsAt.rep {H : Hp} : ∀ {vs : List V} {qs : List (Int × Int)}, PtsAt H vs qs → RepDs H vs (qs.map dpt)
  | _, _, .nil => .nil
  | _, _, .cons ⟨a, e, z⟩ t => by subst e; exact .cons (.tup z (.cons (.int _) (.cons (.int _) .nil))) (PtsAt.rep t)
theorem dpt_ok (qs : List (Int × Int)) : PySem.W.kqdOk 8 (.list (qs.map dpt)) = true := by
  show (qs.map dpt).all (PySem.W.kqdOk 7) = true
  rw [List.all_map]
  exact List.all_eq_true.mpr fun q _ => rfl
theorem cut_to {xs : List V} {k : Nat} : cutV xs none (some (k : Int)) = xs.take k := by
  unfold cutV
  rw [HT.sIx_none, HT.sIx_nat, List.drop_zero, Nat.sub_zero]
  rcases Nat.le_total k xs.length with h | h
  · rw [Nat.min_eq_left h]
  · rw [Nat.min_eq_right h, List.take_length, List.take_of_length_le h]
theorem cut_from {xs : List V} {k : Nat} : cutV xs (some (k : Int)) none = xs.drop k := by
  unfold cutV
  rw [HT.sIx_none, HT.sIx_nat]
  rcases Nat.le_total k xs.length with h | h
  · rw [Nat.min_eq_left h, List.take_of_length_le (by rw [List.length_drop]; exact Nat.le_refl _)]
  · rw [Nat.min_eq_right h, List.drop_length, List.drop_eq_nil_of_le h, List.take_nil]
theorem PtsAt.take {H : Hp} : ∀ {vs : List V} {qs : List (Int × Int)} (k : Nat), PtsAt H vs qs → PtsAt H (vs.take k) (qs.take k)
  | _, _, 0, _ => .nil
  | _, _, _ + 1, .nil => .nil
  | _, _, k + 1, .cons h t => .cons h (PtsAt.take k t)
theorem PtsAt.drop {H : Hp} : ∀ {vs : List V} {qs : List (Int × Int)} (k : Nat), PtsAt H vs qs → PtsAt H (vs.drop k) (qs.drop k)
  | _, _, 0, h => h
  | _, _, _ + 1, .nil => .nil
  | _, _, k + 1, .cons _ t => PtsAt.drop k t
theorem PtsAt.app {H : Hp} : ∀ {vs ws : List V} {qs rs : List (Int × Int)}, PtsAt H vs qs → PtsAt H ws rs → PtsAt H (vs ++ ws) (qs ++ rs)
  | _, _, _, _, .nil, h => h
  | _, _, _, _, .cons h t, g => .cons h (PtsAt.app t g)
def spAlikeE (C cA : Addr) : Sp := fun vs H _ E => ∃ (t r : Addr) (p n f : Int) (rs : List V) (qs : List (Int × Int)), vs = [.ref t, .ref r] ∧ TabAt C H t p n f ∧ p ∈ primes9 ∧ H r = some (.lst rs) ∧ PtsAt H rs qs ∧ qs.length ≤ 100 ∧ ¬ (qs.map fun q => q.1 % p).Nodup ∧ ∀ H', Same H H' → E (.ref cA) none H'
def spPoints (C : Addr) (K : PySem.W.Frag) : Sp := fun vs H Q _ => ∃ (a t : Addr) (p n f m : Int) (ns : List Int), vs = [.ref a, .ref t, .int m] ∧ SqL K H a (ns.map V.int) ∧ TabAt C H t p n f ∧ p ∈ primes9 ∧ 0 ≤ m ∧ m ≤ 10 ∧ ∀ d H' ws, Same H H' → H d = none → H' d = some (.lst ws) → PtsAt H' ws (ptsL ns p m.toNat) → Q (.ref d) H'
def spRefused (C : Addr) : Sp := fun vs H Q _ => ∃ (t r : Addr) (p n f : Int) (rs : List V) (qs : List (Int × Int)), vs = [.ref t, .ref r] ∧ TabAt C H t p n f ∧ p ∈ primes9 ∧ H r = some (.lst rs) ∧ PtsAt H rs qs ∧ qs.length ≤ 100 ∧ ¬ (qs.map fun q => q.1 % p).Nodup ∧ PureQ H Q (.bl true)
end Veil

namespace Veil
open PySem L2
/-! ### S8. shares, choices, mending -/
def sv : Option Int → V
  | none => .non
  | some i => .int i
def sd : Option Int → PySem.W.Dat
  | none => .none
  | some i => .int i
theorem sv_rep {H : Hp} : ∀ (os : List (Option Int)), RepDs H (os.map sv) (os.map sd)
  | [] => .nil
  | none :: r => .cons .non (sv_rep r)
  | some i :: r => .cons (.int i) (sv_rep r)
theorem sd_ok (os : List (Option Int)) : PySem.W.kqdOk 8 (.list (os.map sd)) = true := by
  show (os.map sd).all (PySem.W.kqdOk 7) = true
  rw [List.all_map]
  refine List.all_eq_true.mpr fun o _ => ?_
  cases o <;> rfl
theorem sv_at {os : List (Option Int)} {i : Nat} {x : V} (h : (os.map sv)[i]? = some x) : ∃ o, x = sv o ∧ os[i]? = some o := by
  rw [List.getElem?_map] at h
  cases e : os[i]? with
  | none => rw [e] at h; cases h
  | some v => rw [e] at h; exact ⟨v, (Option.some.inj h).symm, rfl⟩
/-- a list of lists that are not of the heap H0; l: an address that none of them has -/
def LVAt (l : Addr) (H0 H : Hp) : List V → List (List V) → Prop := Paired fun v c => ∃ a, v = .ref a ∧ a ≠ l ∧ H0 a = none ∧ H a = some (.lst c)
theorem LVAt.same {l : Addr} {H0 H H' : Hp} (s : Same H H') {vs : List V} {cs : List (List V)} (h : LVAt l H0 H vs cs) : LVAt l H0 H' vs cs := Paired.mapP h fun v r ⟨a, e, n, f, z⟩ => ⟨a, e, n, f, s _ _ z⟩
theorem LVAt.upd {l : Addr} {H0 H : Hp} {o : HO} {vs : List V} {cs : List (List V)} (h : LVAt l H0 H vs cs) : LVAt l H0 (L2.upd H l o) vs cs := Paired.mapP h fun v r ⟨a, e, n, f, z⟩ => ⟨a, e, n, f, by rw [upd_ne n]; exact z⟩
theorem LVAt.off {d l : Addr} {H0 H : Hp} {o u : HO} (hl : H0 l = some u) {vs : List V} {cs : List (List V)} (h : LVAt d H0 H vs cs) : LVAt d H0 (L2.upd H l o) vs cs := Paired.mapP h fun v r ⟨a, e, n, f, z⟩ => ⟨a, e, n, f, by rw [upd_ne (fun q => by rw [q, hl] at f; cases f)]; exact z⟩
theorem LVAt.len {l : Addr} {H0 H : Hp} {vs : List V} {cs : List (List V)} (h : LVAt l H0 H vs cs) : vs.length = cs.length := Paired.length h
theorem LVAt.snoc {l : Addr} {H0 H : Hp} {vs : List V} {cs : List (List V)} (h : LVAt l H0 H vs cs) {a : Addr} {c : List V} (n : a ≠ l) (f : H0 a = none) (z : H a = some (.lst c)) : LVAt l H0 H (vs ++ [.ref a]) (cs ++ [c]) := Paired.snoc h ⟨a, rfl, n, f, z⟩
theorem LVAt.get {l : Addr} {H0 H : Hp} : ∀ {vs : List V} {cs : List (List V)} {i : Nat} {x : V}, LVAt l H0 H vs cs → vs[i]? = some x → ∃ a c, x = .ref a ∧ a ≠ l ∧ H0 a = none ∧ H a = some (.lst c) ∧ cs[i]? = some c
  | _, _, _, _, .nil, e => by simp at e
  | _, _, 0, _, .cons ⟨a, r, n, f, z⟩ _, e => by simp at e; subst e; exact ⟨a, _, r, n, f, z, rfl⟩
  | _, _, i + 1, x, .cons _ t, e => by
    obtain ⟨a, q, h1, n, f, h2, h3⟩ := LVAt.get (i := i) (x := x) t (by simpa using e)
    exact ⟨a, q, h1, n, f, h2, by simpa using h3⟩
def spCame (C : Addr) : Sp := fun vs H Q _ => ∃ (t r : Addr) (p n f : Int) (os : List (Option Int)), vs = [.ref t, .ref r] ∧ TabAt C H t p n f ∧ 0 ≤ n ∧ n ≤ 10 ∧ H r = some (.lst (os.map sv)) ∧ (os.length : Int) = n ∧ ∀ d H' ws, Same H H' → H d = none → H' d = some (.lst ws) → PtsAt H' ws (cameP 1 os) → Q (.ref d) H'
def spChoicesLt (m : Nat) : Sp := fun vs H Q _ => ∃ (r : Addr) (k : Nat) (things : List V), vs = [.ref r, .int (k : Int)] ∧ k < m ∧ k ≤ 3 ∧ H r = some (.lst things) ∧ things.length ≤ 10 ∧ ∀ d H' ws, Same H H' → H d = none → H' d = some (.lst ws) → LVAt d H H' ws (choicesL k things) → Q (.ref d) H'
theorem choices_bound {α : Type} : ∀ (k : Nat) (xs : List α), (choicesL k xs).length ≤ (xs.length + 1) ^ k
  | 0, _ => by simp [choicesL]
  | k + 1, [] => by simp [choicesL]
  | k + 1, x :: xs => by
    rw [choicesL, List.length_append, List.length_map]
    have h1 := choices_bound k xs
    have h2 := choices_bound (k + 1) xs
    have e1 : (xs.length + 1) ^ (k + 1) = (xs.length + 1) ^ k * (xs.length + 1) := Nat.pow_succ ..
    have e2 : ((x :: xs).length + 1) ^ (k + 1) = (xs.length + 1 + 1) ^ k * (xs.length + 1 + 1) := by rw [List.length_cons, Nat.pow_succ]
    have h3 : (xs.length + 1) ^ k ≤ (xs.length + 1 + 1) ^ k := Nat.pow_le_pow_left (by omega) k
    rw [e2, Nat.mul_succ]
    rw [e1] at h2
    have h4 : (xs.length + 1) ^ k * (xs.length + 1) ≤ (xs.length + 1 + 1) ^ k * (xs.length + 1) := Nat.mul_le_mul_right _ h3
    omega
theorem choices_few {α : Type} {k : Nat} {xs : List α} (hk : k ≤ 3) (hx : xs.length ≤ 10) : (choicesL k xs).length ≤ 1331 := by
  refine Nat.le_trans (choices_bound k xs) (Nat.le_trans (Nat.pow_le_pow_left (show xs.length + 1 ≤ 11 by omega) k) ?_)
  exact Nat.le_trans (Nat.pow_le_pow_right (by decide) hk) (by decide)
def NewPair (H : Hp) (Q : VK) (x : Int) (li : List Int) : Prop := ∀ tp la H', Same H H' → H tp = none → H la = none → H' tp = some (.tup [.int x, .ref la]) → H' la = some (.lst (li.map V.int)) → Q (.ref tp) H'
def MendQ (H : Hp) (Q : VK) : Option (Int × List Int) → Prop
  | none => ∀ H', Same H H' → Q .non H'
  | some r => NewPair H Q r.1 r.2
def spMended (C : Addr) : Sp := fun vs H Q _ => ∃ (t r : Addr) (p n f : Int) (wr : Nat) (os : List (Option Int)), vs = [.ref t, .ref r, .int (wr : Int)] ∧ TabAt C H t p n f ∧ p ∈ primes9 ∧ 0 ≤ n ∧ n ≤ 10 ∧ n < p ∧ (f = 1 ∨ f = 2) ∧ wr ≤ 10 ∧ H r = some (.lst (os.map sv)) ∧ (os.length : Int) = n ∧
  (∀ (i : Nat) (y : Int), os[i]? = some (some y) → 0 ≤ y ∧ y < p) ∧ f.toNat + 1 + 2 * wr ≤ (cameP 1 os).length ∧ MendQ H Q (mendedL p f.toNat (cameP 1 os) wr)
theorem paired_app {α β : Type} {R : α → β → Prop} : ∀ {a b : List α} {c d : List β}, Paired R a c → Paired R b d → Paired R (a ++ b) (c ++ d)
  | _, _, _, _, .nil, g => g
  | _, _, _, _, .cons h t, g => .cons h (paired_app t g)
theorem pts_map {H : Hp} {v : V} {q : Int × Int} (z : ∃ a, v = .ref a ∧ H a = some (.tup [.int q.1, .int q.2])) : ∀ {a : List (List V)} {c : List (List (Int × Int))}, Paired (PtsAt H) a c → Paired (PtsAt H) (a.map (v :: ·)) (c.map (q :: ·))
  | _, _, .nil => .nil
  | _, _, .cons h t => .cons (Paired.cons z h) (pts_map z t)
theorem PtsAt.of_choice {H : Hp} : ∀ {ws : List V} {qs : List (Int × Int)} (k : Nat), PtsAt H ws qs → Paired (PtsAt H) (choicesL k ws) (choicesL k qs)
  | _, _, 0, _ => by simp only [choicesL]; exact .cons (show PtsAt H [] [] from Paired.nil) .nil
  | _, _, _ + 1, .nil => by simp only [choicesL]; exact .nil
  | _, _, k + 1, .cons h t => by
    simp only [choicesL]
    exact paired_app (pts_map h (PtsAt.of_choice k t)) (PtsAt.of_choice (k + 1) t)
theorem paired_get {α β : Type} {R : α → β → Prop} : ∀ {a : List α} {c : List β} {i : Nat} {x : α}, Paired R a c → a[i]? = some x → ∃ y, c[i]? = some y ∧ R x y
  | _, _, _, _, .nil, e => by simp at e
  | _, _, 0, _, .cons h _, e => by simp at e; subst e; exact ⟨_, rfl, h⟩
  | _, _, i + 1, x, .cons _ t, e => by
    obtain ⟨y, h1, h2⟩ := paired_get (i := i) (x := x) t (by simpa using e)
    exact ⟨y, by simpa using h1, h2⟩
theorem inV_ints (x : Int) : ∀ (li : List Int), inV (.int x) (li.map V.int) = decide (x ∈ li)
  | [] => by simp [inV]
  | y :: r => by
    have ih := inV_ints x r
    unfold inV at ih ⊢
    rw [List.map_cons, List.any_cons, ih]
    have e : eqV (.int y) (.int x) = decide (y = x) := by
      show (y == x) = decide (y = x)
      by_cases h : y = x <;> simp [h]
    rw [e]
    by_cases h : y = x
    · simp [h]
    · have h' : ¬ x = y := fun z => h z.symm
      simp [h, h']
theorem flat_ints : ∀ (li : List Int), (li.map V.int).all flatV = true
  | [] => rfl
  | _ :: r => by rw [List.map_cons, List.all_cons, flat_ints r]; rfl
theorem ix_in {n : Nat} {k : Int} (h0 : 0 ≤ k) (h1 : k < n) : ixN n k = some k.toNat := by
  unfold ixN
  rw [if_pos h0, if_pos h1]
/-- the state through the first loop: the wrong ones -/
def J8 (p : Int) (n : Nat) (R : List Int) (Hb : Hp) (sh ll : Addr) (k : Nat) (H3 : Hp) : Prop := Same Hb H3 ∧ ∃ (os : List (Option Int)) (li : List Int), LieSt p n R li os ∧ li.length ≤ k ∧ (∀ i : Nat, i < n → os[i]? ≠ some none) ∧ H3 sh = some (.lst (os.map sv)) ∧ H3 ll = some (.lst (li.map V.int))
def J8b (p : Int) (n : Nat) (R li : List Int) (Hb : Hp) (sh ll : Addr) (k : Nat) (H3 : Hp) : Prop := Same Hb H3 ∧ ∃ os : List (Option Int), LieSt p n R li os ∧ os.countP (·.isNone) ≤ k ∧ H3 sh = some (.lst (os.map sv)) ∧ H3 ll = some (.lst (li.map V.int))
theorem count_none {os : List (Option Int)} {k : Nat} : (os.set k none).countP (·.isNone) ≤ os.countP (·.isNone) + 1 := by
  by_cases h : k < os.length
  · rw [List.countP_set h]
    split <;> split <;> omega
  · rw [List.set_eq_of_length_le (by omega)]
    omega
theorem set_sv (os : List (Option Int)) (k : Nat) (o : Option Int) : (os.map sv).set k (sv o) = (os.set k o).map sv := by rw [List.map_set]
end Veil

namespace Veil
/-! ### M11. mended or not, by the law's own way -/
def badL (p : Int) (pts base : List (Int × Int)) : List Int := (pts.filter fun q => !decide (q ∈ base) && !decide (lagL p base q.1 = q.2)).map (·.1)
theorem bad_is {p : Int} (hp : p ∈ primes9) {pts base : List (Int × Int)} (P : PtsOk p pts) (hb : base.Sublist pts) : badL p pts base = liarsL p (throughL p base) pts := by
  have nd := Nodup.sub_map hb P.nd
  obtain ⟨t1, t2, t3⟩ := through_facts hp nd
  unfold badL liarsL
  congr 1
  refine List.filter_congr fun q hq => ?_
  rw [lag_through hp nd]
  by_cases hm : q ∈ base
  · rw [worth_of (P.yb q hq) (t3 q hm)]
    simp
  · simp [hm]
theorem bad_len {p : Int} {pts base : List (Int × Int)} : (badL p pts base).length ≤ pts.length := by
  unfold badL
  rw [List.length_map]
  exact List.length_filter_le _ _
theorem bad_take {p : Int} {pts base : List (Int × Int)} {i : Nat} {q : Int × Int} (h : pts[i]? = some q) : badL p (pts.take (i + 1)) base = badL p (pts.take i) base ++ (if (!decide (q ∈ base) && !decide (lagL p base q.1 = q.2)) = true then [q.1] else []) := by
  unfold badL
  have hi := (List.getElem?_eq_some_iff.mp h).1
  rw [List.take_add_one, h, List.filter_append, List.map_append]
  congr 1
  simp only [Option.toList_some, List.filter_cons, List.filter_nil]
  split <;> simp
theorem mended_some {p : Int} {f : Nat} {pts : List (Int × Int)} {wr : Nat} {x : Int} {li : List Int} (h : mendedL p f pts wr = some (x, li)) : ∃ c ∈ choicesL (f + 1) pts, x = (throughL p c).headD 0 ∧ li = liarsL p (throughL p c) pts ∧ li.length ≤ wr := by
  unfold mendedL at h
  obtain ⟨c, hc, e⟩ := List.exists_of_findSome?_eq_some h
  by_cases hw : (liarsL p (throughL p c) pts).length ≤ wr
  · rw [if_pos hw] at e
    injection e with e
    injection e with e1 e2
    exact ⟨c, hc, e1.symm, e2.symm, by rw [← e2]; exact hw⟩
  · rw [if_neg hw] at e
    cases e
theorem mended_none {p : Int} (hp : p ∈ primes9) {f : Nat} {pts : List (Int × Int)} (P : PtsOk p pts) {wr : Nat} (h : mendedL p f pts wr = none) {base : List (Int × Int)} (hb : base.Sublist pts) (hl : base.length = f + 1) : ¬ (badL p pts base).length ≤ wr := by
  unfold mendedL at h
  rw [bad_is hp P hb]
  have hm := choices_mem hb
  rw [hl] at hm
  intro hw
  have e := List.findSome?_eq_none_iff.mp h base hm
  rw [if_pos hw] at e
  cases e
def keptL (li : List Int) (pts : List (Int × Int)) : List (Int × Int) := pts.filter fun q => !decide (q.1 ∈ li)
theorem kept_is {p : Int} {pts : List (Int × Int)} (P : PtsOk p pts) (r : List Int) : keptL (liarsL p r pts) pts = pts.filter fun q => decide (worthL p r q.1 = q.2) := by
  unfold keptL
  refine List.filter_congr fun q hq => ?_
  have nd1 : (pts.map (·.1)).Nodup := by
    have h := P.nd
    have e : (pts.map fun q => q.1 % p) = (pts.map (·.1)).map (· % p) := by rw [List.map_map]; rfl
    rw [e] at h
    exact (List.pairwise_map.mp h).imp fun hne e => hne (by rw [e])
  have iff : q.1 ∈ liarsL p r pts ↔ ¬ worthL p r q.1 = q.2 := by
    unfold liarsL
    rw [List.mem_map]
    constructor
    · rintro ⟨q', hq', e⟩
      obtain ⟨m, w⟩ := List.mem_filter.mp hq'
      have eq : q' = q := by
        obtain ⟨i, hi, rfl⟩ := List.mem_iff_getElem.mp m
        obtain ⟨j, hj, rfl⟩ := List.mem_iff_getElem.mp hq
        have := (List.getElem_inj (xs := pts.map (·.1)) (i := i) (j := j) (h₀ := by simpa using hi) (h₁ := by simpa using hj) nd1).mp (by simp [e])
        simp [this]
      subst eq
      simpa using w
    · intro hw
      exact ⟨q, List.mem_filter.mpr ⟨hq, by simpa using hw⟩, rfl⟩
  by_cases hw : worthL p r q.1 = q.2
  · rw [decide_eq_true hw, decide_eq_false (fun z => (iff.mp z) hw)]
    rfl
  · rw [decide_eq_false hw, decide_eq_true (iff.mpr hw)]
    rfl
theorem told_well {p : Int} (hp : p ∈ primes9) {f : Nat} {pts : List (Int × Int)} (P : PtsOk p pts) {wr : Nat} {x : Int} {li : List Int} (h : mendedL p f pts wr = some (x, li)) (hn : f + 1 + 2 * wr ≤ pts.length) :
    li.length ≤ wr ∧ ((keptL li pts).take (f + 1)).Sublist pts ∧ badL p pts ((keptL li pts).take (f + 1)) = li ∧ lagL p ((keptL li pts).take (f + 1)) 0 = x := by
  obtain ⟨c, hc, rfl, rfl, hw⟩ := mended_some h
  obtain ⟨h2, h3⟩ := choices_sub _ _ c hc
  obtain ⟨t1, t2, t3⟩ := through_facts hp (Nodup.sub_map h2 P.nd)
  generalize throughL p c = r at t1 t2 t3 hw
  have hf := filter_not (fun q : Int × Int => decide (worthL p r q.1 = q.2)) pts
  have hw' := hw
  unfold liarsL at hw'
  rw [List.length_map] at hw'
  rw [kept_is P r]
  have hlen : ((pts.filter fun q => decide (worthL p r q.1 = q.2)).take (f + 1)).length = f + 1 := by rw [List.length_take]; omega
  have hsub : ((pts.filter fun q => decide (worthL p r q.1 = q.2)).take (f + 1)).Sublist pts := (List.take_sublist _ _).trans List.filter_sublist
  have hr : throughL p ((pts.filter fun q => decide (worthL p r q.1 = q.2)).take (f + 1)) = r := through_row hp (Nodup.sub_map hsub P.nd) (by omega) t2 fun q hq => by
    have := (List.mem_filter.mp (List.mem_of_mem_take hq)).2
    simpa using this
  refine ⟨hw, hsub, ?_, ?_⟩
  · rw [bad_is hp P hsub, hr]
  · rw [lag_through hp (Nodup.sub_map hsub P.nd), hr, worthL_poly]
    cases r with
    | nil => rw [← t1] at h3; simp at h3
    | cons u v =>
      have := t2 u List.mem_cons_self
      show (u + 0 * polyV v 0) % p = u
      rw [Int.zero_mul, Int.add_zero, Int.emod_eq_of_lt this.1 this.2]
/-- strictly rising places below n -/
def Rising (n : Nat) (ks : List Nat) : Prop := ks.Pairwise (· < ·) ∧ ∀ k ∈ ks, k < n
theorem rising_sub {α : Type} [Inhabited α] : ∀ (ks : List Nat) (xs : List α) (j : Nat), ks.Pairwise (· < ·) → (∀ k ∈ ks, j ≤ k ∧ k < xs.length) → (ks.map fun k => xs.getD k default).Sublist (xs.drop j)
  | [], _, _, _, _ => List.nil_sublist _
  | k :: ks, xs, j, hp, hb => by
    have hk := hb k List.mem_cons_self
    obtain ⟨h1, h2⟩ := List.pairwise_cons.mp hp
    have ih := rising_sub ks xs (k + 1) h2 fun m hm => ⟨h1 m hm, (hb m (List.mem_cons_of_mem _ hm)).2⟩
    have e : xs.drop k = xs.getD k default :: xs.drop (k + 1) := by
      rw [List.drop_eq_getElem_cons hk.2, List.getD_eq_getElem?_getD, List.getElem?_eq_getElem hk.2]
      rfl
    rw [List.map_cons]
    have s1 : (xs.getD k default :: ks.map fun k => xs.getD k default).Sublist (xs.drop k) := by rw [e]; exact ih.cons_cons _
    refine s1.trans ?_
    rw [show k = j + (k - j) by omega, ← List.drop_drop]
    exact List.drop_sublist _ _
end Veil

namespace L2
open PySem PySem.Spec PyProof.Rows
open PySem.W (Dat kqdP kqdPs kqdOk)
section
variable {X : Cx}
theorem op_notIn_seqK (K : PySem.W.Frag) (hK : X.K = K := by rfl) : OpR X (compareOp .NotIn) (rIn K true) := by
  subst hK
  exact op_notIn_seq
theorem call_list_ofK (K : PySem.W.Frag) (hK : X.K = K := by rfl) : CallR X (.type "list") (fun xs H Q => ∃ (p : Addr) (ys : List V), xs = [.ref p] ∧ (SqL K H p ys ∨ SqT K H p ys) ∧ ∀ l : Addr, H l = none → Q (.ref l) (upd H l (.lst ys))) := by
  subst hK
  exact call_list_of
/-! ### V18. not in, of values as data -/
theorem op_notInD (hu : X.A.units + 64 < cLine) : OpR X (compareOp .NotIn) (fun x y H Q => ∃ (a : Addr) (xs : List V) (ds : List Dat) (d : Dat) (b : Bool), y = .ref a ∧ H a = some (.lst xs) ∧ RepDs H xs ds ∧ RepD H x d ∧ (∀ e ∈ ds, kqdOk 8 e = true) ∧ kqdOk 8 d = true ∧ (b = true ↔ d ∈ ds) ∧ Q (.bl !b) H) := by
  intro pins s σ H x y v u Q I rx ry h
  obtain ⟨a, xs, ds, d, b, rfl, ha, hxs, hx, ka, kd, hb, q⟩ := h
  cases (show u = Value.ref a from ry)
  obtain ⟨_, its, m, rv, hg⟩ := (show ObjOk X.prog X.w H s.heap a (.lst xs) from I.hok a _ ha)
  obtain ⟨as, ra⟩ := RepDs.reads I 8 hxs rv ka
  obtain ⟨bs, rx'⟩ := hx.reads I 8 rx kd
  have l := PySem.W.kqd_layL ka
  have ld := PySem.W.kqd_lay 8 d kd
  have eb : ((kqdPs ds).any fun y => PyData.eqv y (kqdP d)) = b := Bool.eq_iff_iff.mpr ((PySem.W.kqd_any ds d ka kd).trans hb.symm)
  have l2 := ld.2
  refine SeqAt.notIn_list_reads (Reads.list hg rfl rfl (by simpa using ra)) rx' l.1 ld.1 ?_ (by rw [eb]; exact ⟨.bl !b, H, I, rfl, q⟩)
  have := Nat.min_le_right (PyData.depthAll (kqdPs ds)) (kqdP d).depth
  omega
end
end L2
namespace Veil
open PySem L2
/-! ### S9. mended or not -/
def BaseOk (p : Int) (qs : List (Int × Int)) : Prop := ∀ q ∈ qs, (0 ≤ q.1 ∧ q.1 ≤ 10) ∧ 0 ≤ q.2 ∧ q.2 < p
def spAt : Sp := fun vs H Q _ => ∃ (b : Addr) (p x : Int) (ws : List V) (qs : List (Int × Int)), vs = [.int p, .ref b, .int x] ∧ p ∈ primes9 ∧ H b = some (.lst ws) ∧ PtsAt H ws qs ∧ qs.length ≤ 10 ∧ BaseOk p qs ∧ (0 ≤ x ∧ x ≤ 10) ∧ PureQ H Q (.int (lagL p qs x))
def spBad : Sp := fun vs H Q _ => ∃ (a b : Addr) (p : Int) (ws us : List V) (qs bs : List (Int × Int)), vs = [.int p, .ref a, .ref b] ∧ p ∈ primes9 ∧ H a = some (.lst ws) ∧ PtsAt H ws qs ∧ qs.length ≤ 10 ∧ BaseOk p qs ∧ H b = some (.lst us) ∧ PtsAt H us bs ∧ bs.length ≤ 10 ∧ BaseOk p bs ∧ NewQ H Q ((badL p qs bs).map V.int)
def RwV (rows : List (List Nat)) : List (List V) := rows.map fun r => r.map fun k : Nat => V.int (k : Int)
theorem rwv_len (rows : List (List Nat)) : (RwV rows).length = rows.length := by unfold RwV; rw [List.length_map]
theorem rwv_app (rows : List (List Nat)) (r : List Nat) : RwV (rows ++ [r]) = RwV rows ++ [r.map fun k : Nat => V.int (k : Int)] := by unfold RwV; rw [List.map_append]; rfl
theorem rwv_at {rows : List (List Nat)} {i : Nat} {c : List V} (h : (RwV rows)[i]? = some c) : ∃ r, rows[i]? = some r ∧ (r.map fun k : Nat => V.int (k : Int)) = c := by
  unfold RwV at h
  rw [List.getElem?_map] at h
  cases e : rows[i]? with
  | none => rw [e] at h; cases h
  | some r => rw [e] at h; exact ⟨r, rfl, Option.some.inj h⟩
theorem at_last {r : List Nat} {k : Nat} (rp : 0 < r.length) (hk : r[r.length - 1]? = some k) : atI (r.map fun k : Nat => V.int (k : Int)) (-1) = some (.int (k : Int)) := by
  have e : ixN (r.map fun k : Nat => V.int (k : Int)).length (-1) = some (r.length - 1) := by
    unfold ixN
    rw [List.length_map, if_neg (by decide), if_pos (by omega)]
    congr 1
    omega
  unfold atI
  rw [e]
  show (r.map fun k : Nat => V.int (k : Int))[r.length - 1]? = _
  rw [List.getElem?_map, hk]
  rfl
theorem rising_last {r : List Nat} {k : Nat} (h : r.Pairwise (· < ·)) (hk : r[r.length - 1]? = some k) : ∀ m ∈ r, m < k + 1 := fun m hm => by
  obtain ⟨i, hi, rfl⟩ := List.mem_iff_getElem.mp hm
  obtain ⟨hj, rfl⟩ := List.getElem?_eq_some_iff.mp hk
  by_cases e : i = r.length - 1
  · subst e
    omega
  · have := (List.pairwise_iff_getElem.mp h) i (r.length - 1) hi hj (by omega)
    omega
theorem rising_snoc {n m : Nat} {r : List Nat} (h : Rising n r) (hk : ∀ k ∈ r, k < m) (hm : m < n) : Rising n (r ++ [m]) := by
  refine ⟨List.pairwise_append.mpr ⟨h.1, List.pairwise_singleton _ _, fun a ha b hb => ?_⟩, fun k hk' => ?_⟩
  · have e : b = m := by simpa using hb
    subst e
    exact hk a ha
  · rcases List.mem_append.mp hk' with z | z
    · exact h.2 k z
    · have e : k = m := by simpa using z
      omega
def spChs : Sp := fun vs H Q _ => ∃ (many size : Nat), vs = [.int (many : Int), .int (size : Int)] ∧ many ≤ 10 ∧ size ≤ 3 ∧ ∀ d H' ws (rows : List (List Nat)), Same H H' → H d = none → H' d = some (.lst ws) → LVAt d H H' ws (RwV rows) → (∀ r ∈ rows, r.length = size ∧ Rising many r) → Q (.ref d) H'
theorem kept_take {li : List Int} {pts : List (Int × Int)} {i : Nat} {q : Int × Int} (h : pts[i]? = some q) : keptL li (pts.take (i + 1)) = keptL li (pts.take i) ++ (if (!decide (q.1 ∈ li)) = true then [q] else []) := by
  unfold keptL
  rw [List.take_add_one, h, List.filter_append]
  congr 1
  simp only [Option.toList_some, List.filter_cons, List.filter_nil]
theorem paired_take {α β : Type} {R : α → β → Prop} : ∀ {a : List α} {b : List β} (n : Nat), Paired R a b → Paired R (a.take n) (b.take n)
  | _, _, 0, _ => by simp only [List.take_zero]; exact .nil
  | _, _, _ + 1, .nil => by simp only [List.take_nil]; exact .nil
  | _, _, n + 1, .cons h t => by simp only [List.take_succ_cons]; exact .cons h (paired_take n t)
theorem PtsAt.takeN {H : Hp} {ws : List V} {qs : List (Int × Int)} (n : Nat) (h : PtsAt H ws qs) : PtsAt H (ws.take n) (qs.take n) := paired_take n h
def spTold (C : Addr) : Sp := fun vs H Q _ => ∃ (t a fo la : Addr) (p n f x : Int) (wr : Nat) (ws : List V) (qs : List (Int × Int)) (li : List Int), vs = [.ref t, .ref a, .ref fo, .int (wr : Int)] ∧ TabAt C H t p n f ∧ p ∈ primes9 ∧ (f = 1 ∨ f = 2) ∧ H a = some (.lst ws) ∧ PtsAt H ws qs ∧ qs.length ≤ 10 ∧ BaseOk p qs ∧ PtsOk p qs ∧
  H fo = some (.tup [.int x, .ref la]) ∧ H la = some (.lst (li.map V.int)) ∧ mendedL p f.toNat qs wr = some (x, li) ∧ f.toNat + 1 + 2 * wr ≤ qs.length ∧ PureQ H Q (.bl true)
def spNone (C : Addr) : Sp := fun vs H Q _ => ∃ (t a : Addr) (p n f : Int) (wr : Nat) (ws : List V) (qs : List (Int × Int)), vs = [.ref t, .ref a, .int (wr : Int)] ∧ TabAt C H t p n f ∧ p ∈ primes9 ∧ (f = 1 ∨ f = 2) ∧ H a = some (.lst ws) ∧ PtsAt H ws qs ∧ qs.length ≤ 10 ∧ BaseOk p qs ∧ PtsOk p qs ∧
  mendedL p f.toNat qs wr = none ∧ PureQ H Q (.bl true)
structure OsOk (p n : Int) (os : List (Option Int)) : Prop where
  len : os.length = n.toNat
  b : ∀ (i : Nat) (y : Int), os[i]? = some (some y) → 0 ≤ y ∧ y < p
theorem OsOk.put {p n : Int} {os : List (Option Int)} (h : OsOk p n os) (k : Nat) {o : Option Int} (ho : ∀ y, o = some y → 0 ≤ y ∧ y < p) : OsOk p n (os.set k o) := by
  refine ⟨by rw [List.length_set]; exact h.len, fun i y hy => ?_⟩
  by_cases e : k = i
  · subst e
    by_cases hk : k < os.length
    · rw [List.getElem?_set_self hk] at hy
      exact ho y (Option.some.inj hy)
    · rw [List.set_eq_of_length_le (by omega)] at hy
      exact h.b k y hy
  · rw [List.getElem?_set_ne e] at hy
    exact h.b i y hy
def J9 (p n : Int) (a t : Addr) (H2 : Hp) (σ : St) (H : Hp) : Prop := ∃ (sh : Addr) (os : List (Option Int)) (v3 v4 v5 : Option V), σ = [some (.ref a), some (.ref t), some (.ref sh), v3, v4, v5, none, none, none, none, none] ∧ Same H2 H ∧ H2 sh = none ∧ H sh = some (.lst (os.map sv)) ∧ OsOk p n os
theorem some_sv (xs : List Int) : (xs.map some).map sv = xs.map V.int := by rw [List.map_map]; rfl
theorem took (xs : List Int) (k : Nat) : cutV (xs.map V.int) none (some (k : Int)) = (xs.take k).map V.int := by rw [cut_to, List.map_take]
theorem OsOk.ints {p n : Int} {xs : List Int} (hl : xs.length = n.toNat) (hb : ∀ v ∈ xs, 0 ≤ v ∧ v < p) : OsOk p n (xs.map some) := by
  refine ⟨by rw [List.length_map]; exact hl, fun i y hy => ?_⟩
  rw [List.getElem?_map] at hy
  cases e : xs[i]? with
  | none => rw [e] at hy; cases hy
  | some v =>
    rw [e] at hy
    have e2 : v = y := by simpa using hy
    rw [← e2]
    exact hb v (List.mem_of_getElem? e)
def spMendedU (C cT : Addr) : Sp := fun vs H Q E => ∃ (t r : Addr) (p n f : Int) (wr : Nat) (os : List (Option Int)), vs = [.ref t, .ref r, .int (wr : Int)] ∧ TabAt C H t p n f ∧ p ∈ primes9 ∧ 0 ≤ n ∧ n ≤ 10 ∧ n < p ∧ (f = 1 ∨ f = 2) ∧ wr ≤ 10 ∧ H r = some (.lst (os.map sv)) ∧ (os.length : Int) = n ∧
  (∀ (i : Nat) (y : Int), os[i]? = some (some y) → 0 ≤ y ∧ y < p) ∧ ((cameP 1 os).length < f.toNat + 1 + 2 * wr → ∀ H', Same H H' → E (.ref cT) none H') ∧ (f.toNat + 1 + 2 * wr ≤ (cameP 1 os).length → MendQ H Q (mendedL p f.toNat (cameP 1 os) wr))
theorem lag_step {p at_ : Int} {pts : List (Int × Int)} {i : Nat} {q : Int × Int} (h : pts[i]? = some q) (t : Int) : lagS p at_ pts (pts.drop i) i t = lagS p at_ pts (pts.drop (i + 1)) (i + 1) ((t + powL p (lagOU p at_ q.1 i pts 0 (q.2, 1)).2 (p - 2).toNat (lagOU p at_ q.1 i pts 0 (q.2, 1)).1) % p) := by
  rw [drop_at h, lagS]
theorem ou_step {p at_ x : Int} {k : Nat} {pts : List (Int × Int)} {j : Nat} {o : Int × Int} (h : pts[j]? = some o) (ou : Int × Int) : lagOU p at_ x k (pts.drop j) j ou = lagOU p at_ x k (pts.drop (j + 1)) (j + 1) (if j = k then ou else (ou.1 * (at_ - o.1) % p, ou.2 * (x - o.1) % p)) := by
  rw [drop_at h, lagOU]
theorem pts_rep : ∀ {H : Hp} {ws : List V} {qs : List (Int × Int)}, PtsAt H ws qs → RepDs H ws (qs.map dpt) := fun h => h.rep
theorem dpt_inj {a b : Int × Int} : dpt a = dpt b ↔ a = b := by
  constructor
  · intro h
    unfold dpt at h
    injection h with h
    injection h with h1 h2
    injection h1 with h1
    injection h2 with h2 _
    injection h2 with h2
    exact Prod.ext h1 h2
  · exact fun h => by rw [h]
theorem mem_dpt {a : Int × Int} {qs : List (Int × Int)} : dpt a ∈ qs.map dpt ↔ a ∈ qs := by
  rw [List.mem_map]
  exact ⟨fun ⟨b, h, e⟩ => by rw [← dpt_inj.mp e]; exact h, fun h => ⟨a, h, rfl⟩⟩
end Veil

namespace Veil
open PySem L2
seal L2.PSs L2.PS L2.PE L2.PT L2.PW L2.PA L2.PG L2.PGs L2.PI L2.PTs L2.PO L2.PH L2.PJ L2.OpR L2.CallR L2.IxR L2.UnR L2.TruR L2.SlR
def top (i : Nat) : Stmt := PySem.Challenge.pw_veilsum_k09_whole_mended_or_not.main.body.getD i (.Pass ⟨0, 0, 0, 0⟩)
abbrev s_is_table : Stmt := top 8
abbrev s_Table_init : Stmt := inClass (top 9) 0
abbrev s_back : Stmt := top 10
abbrev s_worth : Stmt := top 11
abbrev s_refuse_alike : Stmt := top 12
abbrev s_with_nought_at : Stmt := top 13
abbrev s_through : Stmt := top 14
abbrev s_that_came : Stmt := top 16
abbrev s_choices : Stmt := top 17
abbrev s_mended : Stmt := top 18
abbrev s_law_cell_at : Stmt := top 20
abbrev s_law_mix : Stmt := top 21
abbrev s_law_whole : Stmt := top 22
abbrev s_law_told : Stmt := top 23
abbrev s_law_table_by : Stmt := top 24
abbrev s_law_numbers : Stmt := top 25
abbrev s_law_worth : Stmt := top 26
abbrev s_law_choices : Stmt := top 27
abbrev s_law_at : Stmt := top 28
abbrev s_law_bad : Stmt := top 29
abbrev s_law_told_well : Stmt := top 30
abbrev s_law_none : Stmt := top 31
abbrev s_law : Stmt := top 32
section
variable {P : Program} {w : World} {K : PySem.W.Frag} {mg : Str → Option Value} {base : Heap} {C pa : Addr}
/-! ### D1. the defs -/
theorem sc_is_table : FnScope ["prime", "hands", "few"] ["prime", "hands", "few"] (defScope s_is_table) := ⟨rfl, rfl, rfl, by decide +kernel, rfl, by decide +kernel, by decide +kernel⟩
theorem ok_is_table (F : Src K mg "is_table" "is_table" s_is_table ["prime", "hands", "few"]) (T : Pri K mg pa) : Ok P w K mg base CX0 1 "is_table" ["prime", "hands", "few"] spIsT := by
  refine F.ok sc_is_table (fun vs H Q E h => ?_) (fun f cdv A outer s H vs Q E hr h => ?_)
  · obtain ⟨p, n, f, rfl, _⟩ := h
    rfl
  obtain ⟨p, n, f, rfl, q⟩ := h
  refine ⟨_, (pss_cons (ps_if (PW.pt (pw_or (pt_cmpR op_notIn_seq (pv 0) (pe_glob (v := .ref _) rfl T.gPRIMES rfl) rfl) (pw_or1 (pt_cmpR op_notIn_seq (pv 2) (pe_tup (pa_cons pe_int (pa_cons pe_int pa_nil))) rfl))))
      (pss_one (ps_ret pe_bl))
      pss_nil)
    (pss_one (ps_ret (pe_and (pe_chain op_le op_le pe_int (pv 1) pe_int) (pe_and (pe_cmpR op_lt (pv 1) (pv 0) (nomark _)) (pe_one (pe_cmpR op_lt (pe_op op_mul pe_int (pv 2)) (pv 1) (nomark _)))))))), ?_⟩
  refine ⟨_, rfl, pa, _, rfl, .inr (T.sq H), rfl, by decide, _, rfl, ?_⟩
  refine ite2 (fun c1 => ?_) (fun c1 => ?_)
  · have c1 : (!inV (.int p) (primes9.map V.int)) = true := c1
    refine iteT ?_
    have e : isTB p n f = false := by unfold isTB; rw [if_pos c1]
    rw [← e]
    exact q H (Same.refl H)
  have c1 : ¬ (!inV (.int p) (primes9.map V.int)) = true := c1
  refine ⟨_, rfl, (by show 2 ≤ sizeLine; decide), fun t ht => ?_⟩
  refine ⟨t, _, rfl, .inr (SqT.of upd_same), rfl, by decide, _, rfl, ?_⟩
  have s1 : Same H (upd H t (.tup [.int 1, .int 2])) := same_new ht _
  refine ite2 (fun c2 => ?_) (fun c2 => ?_)
  · have c2 : (!inV (.int f) [.int 1, .int 2]) = true := c2
    have e : isTB p n f = false := by unfold isTB; rw [if_neg c1, if_pos c2]
    have d := q _ s1
    rw [e] at d
    exact d
  have c2 : ¬ (!inV (.int f) [.int 1, .int 2]) = true := c2
  have e : isTB p n f = ((decide (3 ≤ n) && decide (n ≤ 7)) && (decide (n < p) && decide (2 * f < n))) := by unfold isTB; rw [if_neg c1, if_neg c2]
  have d := q _ s1
  rw [e] at d
  refine ⟨_, rfl, _, _, rfl, rfl, _, rfl, ?_⟩
  refine ite2 (fun c3 => ?_) (fun c3 => ?_)
  · refine ⟨_, _, rfl, rfl, _, rfl, ?_⟩
    refine ite2 (fun c4 => ?_) (fun c4 => ?_)
    · refine ⟨_, rfl, _, rfl, _, _, rfl, rfl, _, rfl, ?_⟩
      refine ite2 (fun c5 => ?_) (fun c5 => ?_)
      · refine ⟨_, rfl, _, _, rfl, rfl, .inl ⟨by decide, by decide⟩, _, rfl, _, _, rfl, rfl, ?_⟩
        rw [c3, c4, c5] at d
        exact d
      · rw [c3, c4, Bool.eq_false_iff.mpr c5] at d
        exact d
    · rw [c3, Bool.eq_false_iff.mpr c4] at d
      exact d
  · refine ⟨_, rfl, iteF ?_⟩
    rw [Bool.eq_false_iff.mpr c3] at d
    exact d
theorem sc_Table_init : FnScope ["self", "prime", "hands", "few"] ["self", "prime", "hands", "few"] (defScope s_Table_init) := ⟨rfl, rfl, rfl, by decide +kernel, rfl, by decide +kernel, by decide +kernel⟩
theorem ok_init {fI : Addr} {fd : FuncData} (F : Fun K "__init__" "Table.__init__" s_Table_init fI fd) (T : Tab K C) (O_is_table : Ok P w K mg base CX0 1 "is_table" ["prime", "hands", "few"] spIsT) : FnOk P w K mg base CX0 2 fI fd ["self", "prime", "hands", "few"] (spInit C) := by
  refine F.ok sc_Table_init (fun vs H Q E h => ?_) (fun cdv A outer s H vs Q E hr h => ?_)
  · obtain ⟨t, dx, p, n, f, rfl, _⟩ := h
    rfl
  obtain ⟨t, dx, p, n, f, rfl, ht, hok, q⟩ := h
  refine ⟨_, (pss_cons (ps_if (pt_not (pt_val (pe_callO O_is_table hr rfl (pa_cons (pv 1) (pa_cons (pv 2) (pa_cons (pv 3) pa_nil)))) (fun _ => rfl)))
      (pss_one ps_never)
      pss_nil)
    (pss_cons (ps_fld (pv 0) (pv 1) rfl)
    (pss_cons (ps_fld (pv 0) (pv 2) rfl)
    (pss_one (ps_fld (pv 0) (pv 3) rfl))))), ?_⟩
  refine ⟨_, rfl, _, rfl, _, rfl, p, n, f, rfl, fun H1 s1 => ⟨_, rfl, ?_⟩⟩
  rw [hok]
  refine iteF ?_
  refine ⟨_, rfl, _, rfl, t, C, dx, [], rfl, s1 _ _ ht, T.cl, T.nP, (by show 0 < 1000; decide), ?_⟩
  refine ⟨_, rfl, _, rfl, t, C, dx, _, rfl, upd_same, T.cl, T.nH, (by show 1 < 1000; decide), ?_⟩
  refine ⟨_, rfl, _, rfl, t, C, dx, _, rfl, upd_same, T.cl, T.nF, ?_, ?_⟩
  · exact Nat.lt_of_le_of_lt (length_putF _ _ _) (by show 2 < 1000; decide)
  · refine q _ (fun b o e hb => ?_) ⟨dx, upd_same⟩
    rw [upd_ne hb, upd_ne hb, upd_ne hb]
    exact s1 _ _ e
theorem sc_worth : FnScope ["table", "row", "at", "total", "number"] ["table", "row", "at"] (defScope s_worth) := ⟨rfl, rfl, rfl, by decide +kernel, rfl, by decide +kernel, by decide +kernel⟩
theorem ok_worth (F : Src K mg "worth" "worth" s_worth ["table", "row", "at"]) (B : Blt mg) (T : Tab K C) : Ok P w K mg base CX0 1 "worth" ["table", "row", "at"] (spWorth K C) := by
  refine F.ok sc_worth (fun vs H Q E h => ?_) (fun f cdv A outer s H vs Q E hr h => ?_)
  · obtain ⟨t, r, p, n, f, a, ns, rfl, _⟩ := h
    rfl
  obtain ⟨t, r, p, n, f, a, ns, rfl, ⟨dx, ht⟩, hp0, hp1, hq, q⟩ := h
  refine ⟨_, (pss_cons (ps_set (i := 3) sc_worth.nd rfl (Or.inl rfl) pe_int)
    (pss_cons (ps_for PassesOwn.never rfl (pi_rev rfl B.reversed (pa_cons (pv 1) pa_nil)) (pg_name (i := 4) sc_worth.nd rfl (Or.inl rfl))
      (pss_one (ps_set (i := 3) sc_worth.nd rfl (Or.inl rfl) (pe_op op_mod (pe_op op_add (pe_op op_mul (pv 3) (pv 2)) (pv 4)) (pe_fld (pv 0) rfl)))))
    (pss_one (ps_ret (pv 3))))), ?_⟩
  refine ⟨_, rfl, r, ns.map V.int, rfl, hq, for_rev (xs := ns.map V.int) (fun i σ H2 => H2 = H ∧ i ≤ ns.length ∧ ∃ v : Option V, σ = [some (.ref t), some (.ref r), some (.int a), some (.int (worthL p (ns.drop (ns.length - i)) a)), v]) ?_ ?_ ?_ ?_⟩
  · refine ⟨rfl, Nat.zero_le _, none, ?_⟩
    rw [Nat.sub_zero, List.drop_length]
    rfl
  · rintro i σ H2 _ ⟨rfl, _⟩
    exact hq
  · rintro i x σ H2 hx hi ⟨rfl, hi2, v, rfl⟩
    rw [List.length_map] at hx hi
    obtain ⟨z, rfl, hz⟩ := map_int_at hx
    have hb := worthL_b hp0 (ns.drop (ns.length - i)) a
    refine ⟨_, rfl, _, rfl, _, _, rfl, rfl, .inl ⟨by omega, by omega⟩, _, rfl, _, _, rfl, rfl, _, rfl, t, C, dx, _, _, rfl, ht, T.cl, T.nP, tf_p p n f, _, _, rfl, rfl, hp0, ?_⟩
    refine ⟨rfl, hi, some (.int z), ?_⟩
    have e : ns.drop (ns.length - (i + 1)) = z :: ns.drop (ns.length - i) := by
      rw [show ns.length - (i + 1) = ns.length - 1 - i by omega, drop_at hz, show ns.length - 1 - i + 1 = ns.length - i by omega]
    rw [e]
    rfl
  · rintro σ H2 ⟨rfl, _, v, rfl⟩
    rw [List.length_map, Nat.sub_self, List.drop_zero]
    exact ⟨_, rfl, q H2 (Same.refl _)⟩
theorem sc_law_cell_at : FnScope ["script", "k"] ["script", "k"] (defScope s_law_cell_at) := ⟨rfl, rfl, rfl, by decide +kernel, rfl, by decide +kernel, by decide +kernel⟩
theorem ok_cell (F : Src K mg "_law_cell_at" "_law_cell_at" s_law_cell_at ["script", "k"]) (B : Blt mg) : Ok P w K mg base CX0 1 "_law_cell_at" ["script", "k"] (spCell K) := by
  refine F.ok sc_law_cell_at (fun vs H Q E h => ?_) (fun f cdv A outer s H vs Q E hr h => ?_)
  · obtain ⟨a, ns, k, rfl, _⟩ := h
    rfl
  obtain ⟨a, ns, k, rfl, hS, h0, q⟩ := h
  refine ⟨_, (pss_cons (ps_if (pt_cmpR op_lt (pv 1) (pe_callB call_len_seq rfl B.len PySem.boot_len (pa_cons (pv 0) pa_nil)) (nomark _))
      (pss_one (ps_ret (pe_ix ix_list (pv 0) (pv 1) (fun _ _ => rfl))))
      pss_nil)
    (pss_one (ps_ret pe_int))), ?_⟩
  refine ⟨_, rfl, _, rfl, a, _, rfl, .inl hS, _, _, rfl, rfl, _, rfl, ?_⟩
  have d := q H (Same.refl H)
  unfold cellN at d
  refine ite2 (fun c => ?_) (fun c => ?_)
  · have c' : k < (((ns.map V.int).length : Nat) : Int) := of_decide_eq_true c
    rw [List.length_map] at c'
    have hk : k.toNat < ns.length := by omega
    rw [List.getD_eq_getElem?_getD, List.getElem?_eq_getElem hk] at d
    refine ⟨_, rfl, _, rfl, a, _, _, _, rfl, rfl, hS, ?_, d⟩
    have e : atI (ns.map V.int) ((k.toNat : Nat) : Int) = some (.int ns[k.toNat]) := atI_nat (by rw [List.getElem?_map, List.getElem?_eq_getElem hk] <;> rfl)
    rw [show ((k.toNat : Nat) : Int) = k by omega] at e
    exact e
  · have c' : ¬ k < (((ns.map V.int).length : Nat) : Int) := of_decide_eq_false (Bool.eq_false_iff.mpr c)
    rw [List.length_map] at c'
    rw [List.getD_eq_getElem?_getD, List.getElem?_eq_none (by omega)] at d
    exact d
theorem sc_law_mix : FnScope ["cell", "k", "many"] ["cell", "k", "many"] (defScope s_law_mix) := ⟨rfl, rfl, rfl, by decide +kernel, rfl, by decide +kernel, by decide +kernel⟩
theorem ok_mix (F : Src K mg "_law_mix" "_law_mix" s_law_mix ["cell", "k", "many"]) : Ok P w K mg base CX0 1 "_law_mix" ["cell", "k", "many"] spMix := by
  refine F.ok sc_law_mix (fun vs H Q E h => ?_) (fun f cdv A outer s H vs Q E hr h => ?_)
  · obtain ⟨c, k, m, rfl, _⟩ := h
    rfl
  obtain ⟨c, k, m, rfl, hm, q⟩ := h
  refine ⟨_, (pss_one (ps_ret (pe_op op_mod (pe_op op_fdiv (pe_op op_mod (pe_op op_mul (pe_op op_add (pe_op op_mod (pv 0) pe_int) pe_int) (pe_op op_add pe_int (pe_op op_mul pe_int (pv 1)))) pe_int) pe_int) (pv 2)))), ?_⟩
  have h0 := Int.emod_nonneg c (show (2147483647 : Int) ≠ 0 by decide)
  have h1 := Int.emod_lt_of_pos c (show (0 : Int) < 2147483647 by decide)
  refine ⟨_, rfl, _, _, rfl, rfl, (by show (0 : Int) < 2147483647; decide), _, _, rfl, rfl, _, rfl, _, _, rfl, rfl, .inl ⟨by decide, by decide⟩, _, _, rfl, rfl, _, _, rfl, rfl, .inl ⟨by omega, by omega⟩, _, _, rfl, rfl, (by show (0 : Int) < 1000000007; decide), _, _, rfl, rfl, ⟨by decide, by decide⟩, _, rfl, _, _, rfl, rfl, hm, ?_⟩
  exact q H (Same.refl H)
theorem sc_law_whole : FnScope ["found"] ["found"] (defScope s_law_whole) := ⟨rfl, rfl, rfl, by decide +kernel, rfl, by decide +kernel, by decide +kernel⟩
theorem ok_whole (F : Src K mg "_law_whole" "_law_whole" s_law_whole ["found"]) (B : Blt mg) : Ok P w K mg base CX0 1 "_law_whole" ["found"] spWholeI := by
  refine F.ok sc_law_whole (fun vs H Q E h => ?_) (fun f cdv A outer s H vs Q E hr h => ?_)
  · obtain ⟨i, rfl, _⟩ := h
    rfl
  obtain ⟨i, rfl, q⟩ := h
  refine ⟨_, (pss_one (ps_ret (pe_and (pe_callB call_isinst rfl B.isinstance PyProof.Rows.boot_isinstance (pa_cons (pv 0) (pa_cons (pe_ty rfl B.int PyProof.Rows.boot_int) pa_nil))) (pe_one (pe_not (pe_callB call_isinst rfl B.isinstance PyProof.Rows.boot_isinstance (pa_cons (pv 0) (pa_cons (pe_ty rfl B.bool PyProof.Rows.boot_bool) pa_nil)))))))), ?_⟩
  refine ⟨_, rfl, _, _, _, _, true, rfl, .int i, rfl, kit_int_int K, _, rfl, iteT ?_⟩
  refine ⟨_, rfl, _, _, _, _, false, rfl, .int i, rfl, kit_int_bool K, _, rfl, ?_⟩
  exact q H (Same.refl H)
theorem sc_law_table_by : FnScope ["cell", "prime", "hands", "few"] ["cell"] (defScope s_law_table_by) := ⟨rfl, rfl, rfl, by decide +kernel, rfl, by decide +kernel, by decide +kernel⟩
theorem ok_table_by (F : Src K mg "_law_table_by" "_law_table_by" s_law_table_by ["cell"]) (B : Blt mg) (O_Table : MkOk P w K mg base CX0 2 "Table" C ["self", "prime", "hands", "few"] (spInit C)) : Ok P w K mg base CX0 4 "_law_table_by" ["cell"] (spTableBy C) := by
  refine F.ok sc_law_table_by (fun vs H Q E h => ?_) (fun f cdv A outer s H vs Q E hr h => ?_)
  · obtain ⟨c, rfl, _⟩ := h
    rfl
  obtain ⟨c, rfl, q⟩ := h
  refine ⟨_, (pss_cons (ps_set (i := 1) sc_law_table_by.nd rfl (Or.inl rfl) (pe_ix ix_list (pe_lst (pa_cons pe_int (pa_cons pe_int (pa_cons pe_int (pa_cons pe_int (pa_cons pe_int (pa_cons pe_int (pa_cons pe_int (pa_cons pe_int (pa_cons pe_int pa_nil)))))))))) (pe_op op_mod (pv 0) pe_int) (fun _ _ => rfl)))
    (pss_cons (ps_set (i := 2) sc_law_table_by.nd rfl (Or.inl rfl) (pe_op op_add pe_int (pe_op op_mod (pe_op op_fdiv (pv 0) pe_int) (pe_op op_sub (pe_callB (call_min2 rfl) rfl B.min PyProof.Rows.boot_min (pa_cons pe_int (pa_cons (pe_op op_sub (pv 1) pe_int) pa_nil))) pe_int))))
    (pss_cons (ps_set (i := 3) sc_law_table_by.nd rfl (Or.inl rfl) pe_int)
    (pss_cons (ps_if (PW.pt (pw_and (pt_cmpR op_gt (pv 2) pe_int (nomark _)) (pw_and1 (pt_cmpR op_eq (pe_op op_mod (pe_op op_fdiv (pv 0) pe_int) pe_int) pe_int (nomark _)))))
      (pss_one (ps_set (i := 3) sc_law_table_by.nd rfl (Or.inl rfl) pe_int))
      pss_nil)
    (pss_one (ps_ret (pe_makeO O_Table hr rfl (pa_cons (pv 1) (pa_cons (pv 2) (pa_cons (pv 3) pa_nil)))))))))), ?_⟩
  have hP := tbP_cases c
  refine ⟨(by show 9 ≤ sizeLine; decide), fun l hl => ⟨_, rfl, _, _, rfl, rfl, (by show (0 : Int) < 9; decide), l, _, _, .int (tbP c), rfl, rfl, SqL.of upd_same, ?_, ?_⟩⟩
  · have h0 := Int.emod_nonneg c (show (9 : Int) ≠ 0 by decide)
    have h1 := Int.emod_lt_of_pos c (show (0 : Int) < 9 by decide)
    have e : atI (primes9.map V.int) (((c % 9).toNat : Nat) : Int) = some (.int (tbP c)) := atI_nat (by
      have h9 : (c % 9).toNat < primes9.length := by show (c % 9).toNat < 9; omega
      rw [List.getElem?_map, List.getElem?_eq_getElem h9]
      unfold tbP
      rw [List.getD_eq_getElem?_getD, List.getElem?_eq_getElem h9]
      rfl)
    rw [show (((c % 9).toNat : Nat) : Int) = c % 9 by omega] at e
    exact e
  have s1 : Same H (upd H l (.lst (primes9.map V.int))) := same_new hl _
  have hm : 0 < (if tbP c - 1 < 7 then tbP c - 1 else 7) - 2 := by split <;> omega
  refine ⟨_, rfl, _, _, rfl, rfl, ⟨by decide, by decide⟩, _, rfl, _, _, rfl, rfl, 7, tbP c - 1, rfl, _, _, rfl, rfl, _, _, rfl, rfl, hm, _, _, rfl, rfl, ?_⟩
  refine ⟨_, rfl, _, _, rfl, rfl, _, rfl, ?_⟩
  have fin : ∀ f : Int, f = tbF c → (tMake C (spInit C) [] E0 (tCons (tVar 1) (tCons (tVar 2) (tCons (tVar 3) tNil)))) [some (.int c), some (.int (tbP c)), some (.int (tbN c)), some (.int f)] (upd H l (.lst (primes9.map V.int))) Q := by
    rintro f rfl
    refine ⟨_, rfl, _, rfl, _, rfl, fun x dx hx hdx hne => ?_⟩
    refine ⟨x, dx, _, _, _, rfl, upd_same, isTB_tb c, fun H2 k2 t2 => ⟨rfl, ?_⟩⟩
    refine q x H2 (s1.trans fun b o e => ?_) ?_ t2
    · refine k2 b o ?_ (ne_of_none e hx)
      rw [upd_ne (ne_of_none e hx), upd_ne (ne_of_none e hdx)]
      exact e
    · exact s1.free hx
  refine ite2 (fun c1 => ?_) (fun c1 => ?_)
  · have c1' : 4 < tbN c := of_decide_eq_true c1
    refine ⟨_, rfl, _, _, rfl, rfl, ⟨by decide, by decide⟩, _, _, rfl, rfl, (by show (0 : Int) < 2; decide), rfl, _, rfl, ?_⟩
    refine ite2 (fun c2 => ?_) (fun c2 => ?_)
    · have c2' : V.int (c / 45 % 2) = V.int 1 := of_decide_eq_true c2
      injection c2' with c2'
      exact fin 2 (by unfold tbF; rw [if_pos c1', if_pos c2'])
    · have c2' : ¬ V.int (c / 45 % 2) = V.int 1 := of_decide_eq_false (Bool.eq_false_iff.mpr c2)
      exact fin 1 (by unfold tbF; rw [if_pos c1', if_neg fun z => c2' (congrArg V.int z)])
  · have c1' : ¬ 4 < tbN c := of_decide_eq_false (Bool.eq_false_iff.mpr c1)
    refine iteF ?_
    exact fin 1 (by unfold tbF; rw [if_neg c1'])
theorem sc_law_numbers : FnScope ["cell", "many", "prime"] ["cell", "many", "prime"] (defScope s_law_numbers) := ⟨rfl, rfl, rfl, by decide +kernel, rfl, by decide +kernel, by decide +kernel⟩
theorem ok_numbers (F : Src K mg "_law_numbers" "_law_numbers" s_law_numbers ["cell", "many", "prime"]) (B : Blt mg) (O_law_mix : Ok P w K mg base CX0 1 "_law_mix" ["cell", "k", "many"] spMix) : Ok P w K mg base CX0 2 "_law_numbers" ["cell", "many", "prime"] spNumbers := by
  refine F.ok sc_law_numbers (fun vs H Q E h => ?_) (fun f cdv A outer s H vs Q E hr h => ?_)
  · obtain ⟨c, m, p, rfl, _⟩ := h
    rfl
  obtain ⟨c, m, p, rfl, hp, hm0, hm1, q⟩ := h
  refine ⟨_, (pss_one (ps_ret (pe_comp ["k"] [("cell", 0), ("prime", 2)]  (pi_range1 rfl B.range (pa_cons (pv 1) pa_nil)) rfl (fun C s0 H0 ex => (pg_name (i := 0) (show List.Nodup [("k" : Str), "cell", "prime"] by decide +kernel) rfl (Or.inl rfl))) (fun C s0 H0 ex => pts_nil) (fun C s0 H0 ex => (pe_callO O_law_mix hr rfl (pa_cons (pv 1) (pa_cons (pe_op op_mul pe_int (pv 0)) (pa_cons (pv 2) pa_nil)))))))), ?_⟩
  refine ⟨_, rfl, _, rfl, by omega, by omega, fun D hD => ?_⟩
  refine comp_range (fun i ys H2 => i ≤ m.toNat ∧ ys = (numsL c p i).map V.int ∧ Same H H2) ⟨Nat.zero_le _, rfl, same_upd (Same.refl H) hD⟩ ?_ ?_
  · rintro i ys H2 hi ⟨_, rfl, s2⟩ hD2
    refine ⟨⟨rfl, rfl⟩, ?_⟩
    refine ⟨_, rfl, _, rfl, _, _, rfl, rfl, .inl ⟨by decide, by decide⟩, _, rfl, _, _, _, rfl, hp, fun H3 s3 => ?_⟩
    refine ⟨s3 _ _ hD2, ?_, by omega, ?_, same_upd (s2.trans s3) hD⟩
    · rw [List.length_map, numsL_len]
      exact small1000 (by omega)
    · unfold numsL
      rw [← map_take, List.map_append]
      rw [Int.zero_add]
      rfl
  · rintro ys H2 ⟨_, rfl, s2⟩ hD2
    exact q D H2 s2 hD hD2
theorem sc_law_worth : FnScope ["prime", "row", "at", "total", "power", "number"] ["prime", "row", "at"] (defScope s_law_worth) := ⟨rfl, rfl, rfl, by decide +kernel, rfl, by decide +kernel, by decide +kernel⟩
theorem ok_law_worth (F : Src K mg "_law_worth" "_law_worth" s_law_worth ["prime", "row", "at"]) : Ok P w K mg base CX0 1 "_law_worth" ["prime", "row", "at"] (spLawW K) := by
  refine F.ok sc_law_worth (fun vs H Q E h => ?_) (fun f cdv A outer s H vs Q E hr h => ?_)
  · obtain ⟨r, p, a, ns, rfl, _⟩ := h
    rfl
  obtain ⟨r, p, a, ns, rfl, hp0, hp1, hq, q⟩ := h
  refine ⟨_, (pss_cons (ps_set (i := 3) sc_law_worth.nd rfl (Or.inl rfl) pe_int)
    (pss_cons (ps_set (i := 4) sc_law_worth.nd rfl (Or.inl rfl) pe_int)
    (pss_cons (ps_for PassesOwn.never rfl (pi_list (pv 1)) (pg_name (i := 5) sc_law_worth.nd rfl (Or.inl rfl))
      (pss_cons (ps_set (i := 3) sc_law_worth.nd rfl (Or.inl rfl) (pe_op op_mod (pe_op op_add (pv 3) (pe_op op_mul (pv 5) (pv 4))) (pv 0)))
    (pss_one (ps_set (i := 4) sc_law_worth.nd rfl (Or.inl rfl) (pe_op op_mod (pe_op op_mul (pv 4) (pv 2)) (pv 0))))))
    (pss_one (ps_ret (pv 3)))))), ?_⟩
  refine ⟨_, rfl, r, rfl, ⟨_, hq⟩, for_list (K := K) (a := r) (xs := ns.map V.int) (fun i σ H2 => H2 = H ∧ ∃ (tt qq : Int) (v : Option V), σ = [some (.int p), some (.ref r), some (.int a), some (.int tt), some (.int qq), v] ∧ (0 ≤ qq ∧ qq ≤ 31) ∧ lawW p a (ns.drop i) tt qq = worthL p ns a) ?_ ?_ ?_ ?_⟩
  · exact ⟨rfl, 0, 1, none, rfl, ⟨by decide, by decide⟩, lawW_eq hp0 ns⟩
  · rintro i σ H2 _ ⟨rfl, _⟩
    exact hq
  · rintro i x σ H2 hx ⟨rfl, tt, qq, v, rfl, ⟨b0, b1⟩, hw⟩
    obtain ⟨z, rfl, hz⟩ := map_int_at hx
    refine ⟨_, rfl, _, rfl, _, rfl, _, _, rfl, rfl, .inr ⟨by omega, by omega⟩, _, _, rfl, rfl, _, rfl, _, _, rfl, rfl, hp0, ?_⟩
    refine ⟨_, rfl, _, rfl, _, _, rfl, rfl, .inl ⟨by omega, by omega⟩, _, rfl, _, _, rfl, rfl, hp0, ?_⟩
    refine ⟨rfl, _, _, _, rfl, ⟨Int.emod_nonneg _ (by omega), ?_⟩, ?_⟩
    · have := Int.emod_lt_of_pos (qq * a) hp0
      omega
    · rw [drop_at hz] at hw
      exact hw
  · rintro σ H2 ⟨rfl, tt, qq, v, rfl, _, hw⟩
    rw [List.length_map, List.drop_length] at hw
    refine ⟨_, rfl, ?_⟩
    have d := q H2 (Same.refl _)
    rw [← hw] at d
    exact d
end

section
variable {P : Program} {w : World} {K : PySem.W.Frag} {mg : Str → Option Value} {base : Heap} {C pa : Addr}
theorem sc_back : FnScope ["table", "number", "other"] ["table", "number"] (defScope s_back) := ⟨rfl, rfl, rfl, by decide +kernel, rfl, by decide +kernel, by decide +kernel⟩
theorem back_at {p x : Int} {i : Nat} (hi : (1 + (i : Int)) < p) (h : x * (1 + (i : Int)) % p = 1) (hn : ∀ j : Nat, j < i → x * (1 + (j : Int)) % p ≠ 1) : backI p x = 1 + (i : Int) := by
  unfold backI
  have e : ((List.range (p - 1).toNat).map fun i : Nat => 1 + (i : Int)).find? (fun o => decide (x * o % p = 1)) = some (1 + (i : Int)) := by
    rw [List.find?_map, Option.map_eq_some_iff]
    refine ⟨i, ?_, rfl⟩
    rw [List.find?_range_eq_some]
    refine ⟨?_, List.mem_range.mpr (by omega), fun j hj => ?_⟩
    · exact decide_eq_true h
    · simpa using hn j hj
  rw [e]
  rfl
theorem ok_back (F : Src K mg "back" "back" s_back ["table", "number"]) (B : Blt mg) (T : Tab K C) : Ok P w K mg base CX0 1 "back" ["table", "number"] (spBack C) := by
  refine F.ok sc_back (fun vs H Q E h => ?_) (fun f cdv A outer s H vs Q E hr h => ?_)
  · obtain ⟨t, p, n, f, x, rfl, _⟩ := h
    rfl
  obtain ⟨t, p, n, f, x, rfl, ⟨dx, ht⟩, hp, hxb, hx0, q⟩ := h
  have p5 := pos9 hp
  refine ⟨_, (pss_cons (ps_for PassesOwn.never rfl (pi_range2 rfl B.range (pa_cons pe_int (pa_cons (pe_fld (pv 0) rfl) pa_nil))) (pg_name (i := 2) sc_back.nd rfl (Or.inl rfl))
      (pss_one (ps_if (pt_cmpR op_eq (pe_op op_mod (pe_op op_mul (pv 1) (pv 2)) (pe_fld (pv 0) rfl)) pe_int (nomark _))
      (pss_one (ps_ret (pv 2)))
      pss_nil)))
    (pss_one ps_never)), ?_⟩
  refine ⟨_, rfl, t, C, dx, _, _, rfl, ht, T.cl, T.nP, tf_p _ _ _, _, _, rfl, ⟨by decide, by decide, by omega, by omega⟩, for_range (fun i σ H2 => H2 = H ∧ (∃ v : Option V, σ = [some (.ref t), some (.int x), v]) ∧ ∀ j : Nat, j < i → x * (1 + (j : Int)) % p ≠ 1) ⟨rfl, ⟨none, rfl⟩, fun j hj => absurd hj (Nat.not_lt_zero j)⟩ ?_ ?_⟩
  · rintro i σ H2 hi ⟨rfl, ⟨v, rfl⟩, hn⟩
    refine ⟨_, rfl, _, rfl, _, _, rfl, rfl, .inl ⟨by omega, by omega⟩, _, rfl, t, C, dx, _, _, rfl, ht, T.cl, T.nP, tf_p _ _ _, _, _, rfl, rfl, by omega, rfl, _, rfl, ?_⟩
    refine ite2 (fun c => ?_) (fun c => ?_)
    · have c' : V.int (x * (1 + (i : Int)) % p) = V.int 1 := of_decide_eq_true c
      injection c' with c'
      refine ⟨_, rfl, ?_⟩
      have d := q H2 (Same.refl _)
      rw [back_at (by omega) c' hn] at d
      exact d
    · have c' : ¬ V.int (x * (1 + (i : Int)) % p) = V.int 1 := of_decide_eq_false (Bool.eq_false_iff.mpr c)
      refine ⟨rfl, ⟨_, rfl⟩, fun j hj => ?_⟩
      rcases Nat.lt_succ_iff_lt_or_eq.mp hj with z | z
      · exact hn j z
      · rw [z]
        exact fun e => c' (congrArg V.int e)
  · rintro σ H2 ⟨rfl, ⟨v, rfl⟩, hn⟩
    have hb := backI_ok hp (x := x) (by rw [Int.emod_eq_of_lt hxb.1 hxb.2]; exact hx0)
    have := hn (backI p x - 1).toNat (by omega)
    rw [show 1 + ((backI p x - 1).toNat : Int) = backI p x by omega] at this
    exact absurd hb.2 this
theorem sc_refuse_alike : FnScope ["table", "points", "places"] ["table", "points"] (defScope s_refuse_alike) := ⟨rfl, rfl, rfl, by decide +kernel, rfl, by decide +kernel, by decide +kernel⟩
theorem ok_alike (F : Src K mg "refuse_alike" "refuse_alike" s_refuse_alike ["table", "points"]) (B : Blt mg) (T : Tab K C) : Ok P w K mg base CX0 1 "refuse_alike" ["table", "points"] (spAlike C) := by
  refine F.ok sc_refuse_alike (fun vs H Q E h => ?_) (fun f cdv A outer s H vs Q E hr h => ?_)
  · obtain ⟨t, r, p, n, f, rs, qs, rfl, _⟩ := h
    rfl
  obtain ⟨t, r, p, n, f, rs, qs, rfl, ⟨dx, ht⟩, hp, hr1, hpt, hql, nd, q⟩ := h
  have p5 := pos9 hp
  refine ⟨_, (pss_cons (ps_setComp 2 ["point"] [("table", 0)] sc_refuse_alike.nd  (pi_list (pv 1)) rfl (fun C s0 H0 ex => by exact (pg_name (i := 0) (show List.Nodup [("point" : Str), "table"] by decide +kernel) rfl (Or.inl rfl))) (fun C s0 H0 ex => by exact pts_nil) (fun C s0 H0 ex => by exact (pe_op op_mod (pe_ix (ix_tupK K) (pv 0) pe_int (fun _ _ => rfl)) (pe_fldK K (pv 1) rfl))))
    (pss_one (ps_if (pt_cmpR op_lt (pe_callB call_lenS rfl B.len PySem.boot_len (pa_cons (pe_callTy (call_setI rfl) rfl B.set PyProof.Rows.boot_set (pa_cons (pv 2) pa_nil)) pa_nil)) (pe_callB call_len_seq rfl B.len PySem.boot_len (pa_cons (pv 2) pa_nil)) (nomark _))
      (pss_one ps_never)
      pss_nil))), ?_⟩
  refine ⟨_, rfl, r, rfl, ⟨_, SqL.of hr1⟩, fun D hD => ?_⟩
  refine comp_list (K := K) (a := r) (xs := rs) (fun i ys H2 => i ≤ qs.length ∧ ys = ((qs.take i).map fun q => q.1 % p).map V.int ∧ Same H H2) ⟨Nat.zero_le _, rfl, same_upd (Same.refl _) hD⟩ ?_ ?_ ?_
  · rintro i ys H2 _ ⟨_, _, s2⟩
    exact SqL.of (s2 _ _ hr1)
  · rintro i x ys H2 hx ⟨_, rfl, s2⟩ hD2
    obtain ⟨a, z, rfl, hz, hq⟩ := (hpt.same s2).get hx
    refine ⟨⟨rfl, rfl⟩, ?_⟩
    refine ⟨_, rfl, a, _, _, .int z.1, rfl, rfl, SqT.of hz, rfl, _, rfl, t, C, dx, _, _, rfl, s2 _ _ ht, T.cl, T.nP, tf_p _ _ _, _, _, rfl, rfl, by omega, hD2, ?_, ?_, ?_, same_upd s2 hD⟩
    · rw [List.length_map, List.length_map, List.length_take]
      exact small1000 (by omega)
    · exact (List.getElem?_eq_some_iff.mp hq).1
    · rw [← take_snoc hq, List.map_append, List.map_append]
      rfl
  · rintro ys H2 ⟨_, rfl, s2⟩ hD2
    have hl : rs.length = qs.length := Paired.length hpt
    rw [hl, List.take_length] at hD2
    have nl : (qs.map fun q => q.1 % p).length = qs.length := List.length_map _
    refine ⟨_, rfl, D, _, rfl, SqL.of hD2, by omega, fun u hu => ?_⟩
    refine ⟨u, _, _, rfl, upd_same, ?_, ?_⟩
    · rw [firstMet_nodup nd]
      omega
    refine ⟨_, rfl, D, _, rfl, .inl (SqL.of (same_new hu _ _ _ hD2)), _, _, rfl, rfl, _, rfl, ?_⟩
    rw [firstMet_nodup nd, List.length_map]
    refine ite2 (fun c => ?_) (fun c => ?_)
    · have c' := of_decide_eq_true c
      rw [List.length_map, nl] at c'
      exact absurd c' (Int.lt_irrefl _)
    · exact q _ (s2.trans (same_new hu _))
theorem sc_with_nought_at : FnScope ["table", "row", "at"] ["table", "row", "at"] (defScope s_with_nought_at) := ⟨rfl, rfl, rfl, by decide +kernel, rfl, by decide +kernel, by decide +kernel⟩
theorem ok_nought (F : Src K mg "with_nought_at" "with_nought_at" s_with_nought_at ["table", "row", "at"]) (B : Blt mg) (T : Tab K C) : Ok P w K mg base CX0 1 "with_nought_at" ["table", "row", "at"] (spNought C) := by
  refine F.ok sc_with_nought_at (fun vs H Q E h => ?_) (fun f cdv A outer s H vs Q E hr h => ?_)
  · obtain ⟨t, r, p, n, f, x, ss, rfl, _⟩ := h
    rfl
  obtain ⟨t, r, p, n, f, x, ss, rfl, ⟨dx, ht⟩, hp, hr1, hsl, hsb, q⟩ := h
  have p5 := pos9 hp
  refine ⟨_, (pss_one (ps_ret (pe_comp ["before", "here"] [("table", 0), ("at", 2)]  (pi_zip rfl B.zip (pa_cons (pe_op op_cat (pe_lst (pa_cons pe_int pa_nil)) (pv 1)) (pa_cons (pe_op op_cat (pv 1) (pe_lst (pa_cons pe_int pa_nil))) pa_nil))) rfl (fun C s0 H0 ex => by exact (pg_tupK K 2 rfl (pgs_cons (pg_name (i := 0) (show List.Nodup [("before" : Str), "here", "table", "at"] by decide +kernel) rfl (Or.inl rfl)) (pgs_cons (pg_name (i := 1) (show List.Nodup [("before" : Str), "here", "table", "at"] by decide +kernel) rfl (Or.inl rfl)) pgs_nil)))) (fun C s0 H0 ex => by exact pts_nil) (fun C s0 H0 ex => by exact (pe_op op_mod (pe_op op_sub (pv 0) (pe_op op_mul (pv 3) (pv 1))) (pe_fldK K (pv 2) rfl)))))), ?_⟩
  have z1 : 1 + (ss.map V.int).length ≤ sizeLine := by rw [List.length_map]; exact small (by omega)
  have z2 : (ss.map V.int).length + 1 ≤ sizeLine := by rw [List.length_map]; exact small (by omega)
  refine ⟨(by show 1 ≤ sizeLine; decide), fun l1 h1 => ?_⟩
  have s1 := same_new h1 (.lst [.int 0])
  refine ⟨_, rfl, l1, r, _, _, rfl, rfl, upd_same, s1 _ _ hr1, z1, fun l2 h2 => ?_⟩
  have s2 := s1.trans (same_new h2 (.lst ([.int 0] ++ ss.map V.int)))
  have e2 : (upd (upd H l1 (.lst [.int 0])) l2 (.lst ([.int 0] ++ ss.map V.int))) l2 = some (.lst ((0 :: ss).map V.int)) := upd_same
  generalize upd (upd H l1 (.lst [.int 0])) l2 (.lst ([.int 0] ++ ss.map V.int)) = H2 at s2 e2
  refine ⟨_, rfl, (by show 1 ≤ sizeLine; decide), fun l3 h3 => ?_⟩
  have s3 := same_new h3 (.lst [.int 0])
  refine ⟨r, l3, _, _, rfl, rfl, s3 _ _ (s2 _ _ hr1), upd_same, z2, fun l4 h4 => ?_⟩
  have s4 : Same H2 (upd (upd H2 l3 (.lst [.int 0])) l4 (.lst (ss.map V.int ++ [.int 0]))) := s3.trans (same_new h4 _)
  have e4 : (upd (upd H2 l3 (.lst [.int 0])) l4 (.lst (ss.map V.int ++ [.int 0]))) l4 = some (.lst ((ss ++ [0]).map V.int)) := by rw [upd_same, List.map_append]; rfl
  generalize upd (upd H2 l3 (.lst [.int 0])) l4 (.lst (ss.map V.int ++ [.int 0])) = H4 at s4 e4
  refine ⟨l2, l4, _, _, rfl, SqL.of (s4 _ _ e2), SqL.of e4, fun D hD => ?_⟩
  refine comp_zip (K := K) (a := l2) (b := l4) (xs := (0 :: ss).map V.int) (zs := (ss ++ [0]).map V.int) (fun i ys H5 => ys = ((noughtL p x ss).take i).map V.int ∧ Same H4 H5) ⟨rfl, same_upd (Same.refl _) hD⟩ ?_ ?_ ?_
  · rintro i ys H5 ⟨_, s5⟩
    exact ⟨SqL.of (s5 _ _ (s4 _ _ e2)), SqL.of (s5 _ _ e4)⟩
  · rintro i u v ys H5 c hu hv ⟨rfl, s5⟩ hD5 hc
    obtain ⟨u, rfl, hu'⟩ := map_int_at hu
    obtain ⟨v, rfl, hv'⟩ := map_int_at hv
    have hvb : 0 ≤ v ∧ v < p := by
      rcases List.mem_append.mp (List.mem_of_getElem? hv') with z | z
      · exact hsb v z
      · have : v = 0 := by simpa using z
        omega
    have s6 := s5.trans (same_new hc (.tup [.int u, .int v]))
    have hn : (noughtL p x ss)[i]? = some ((u - x * v) % p) := zipW_at hu' hv'
    refine ⟨c, _, rfl, SqT.of upd_same, rfl, _, _, rfl, _, _, rfl, rfl, ⟨rfl, rfl⟩, ?_⟩
    refine ⟨_, rfl, _, rfl, _, rfl, _, _, rfl, rfl, .inr ⟨by omega, by omega⟩, _, _, rfl, rfl, _, rfl, t, C, dx, _, _, rfl, s6 _ _ (s4 _ _ (s2 _ _ ht)), T.cl, T.nP, tf_p _ _ _, _, _, rfl, rfl, by omega, ?_, ?_, ?_, same_upd s6 hD⟩
    · exact same_new hc _ _ _ hD5
    · rw [List.length_map, List.length_take, nought_len]
      exact small1000 (by omega)
    · rw [← take_snoc hn, List.map_append]
      rfl
  · rintro ys H5 ⟨rfl, s5⟩ hD5
    have e : min ((0 :: ss).map V.int).length ((ss ++ [0]).map V.int).length = (noughtL p x ss).length := by rw [List.length_map, List.length_map, nought_len]; simp
    rw [e, List.take_length] at hD5
    exact q D H5 (s2.trans (s4.trans s5)) (s2.free (s4.free hD)) hD5
theorem sc_through : FnScope ["table", "points", "row", "still", "x", "y", "times"] ["table", "points"] (defScope s_through) := ⟨rfl, rfl, rfl, by decide +kernel, rfl, by decide +kernel, by decide +kernel⟩
theorem ok_through (F : Src K mg "through" "through" s_through ["table", "points"]) (B : Blt mg) (T : Tab K C) (O_refuse_alike : Ok P w K mg base CX0 1 "refuse_alike" ["table", "points"] (spAlike C)) (O_worth : Ok P w K mg base CX0 1 "worth" ["table", "row", "at"] (spWorth K C))
    (O_back : Ok P w K mg base CX0 1 "back" ["table", "number"] (spBack C)) (O_with_nought_at : Ok P w K mg base CX0 1 "with_nought_at" ["table", "row", "at"] (spNought C)) : Ok P w K mg base CX0 2 "through" ["table", "points"] (spThrough C) := by
  refine F.ok sc_through (fun vs H Q E h => ?_) (fun f cdv A outer s H vs Q E hr h => ?_)
  · obtain ⟨t, r, p, n, f, rs, qs, rfl, _⟩ := h
    rfl
  obtain ⟨t, r, p, n, f, rs, qs, rfl, T1, hp, hr1, hpt, hql, nd, q⟩ := h
  have p5 := pos9 hp
  refine ⟨_, (pss_cons (ps_expr (pe_callO O_refuse_alike hr rfl (pa_cons (pv 0) (pa_cons (pv 1) pa_nil))))
    (pss_cons (ps_set (i := 2) sc_through.nd rfl (Or.inl rfl) (pe_lst pa_nil))
    (pss_cons (ps_set (i := 3) sc_through.nd rfl (Or.inl rfl) (pe_lst (pa_cons pe_int pa_nil)))
    (pss_cons (ps_for PassesOwn.never rfl (pi_list (pv 1)) (pg_tup rfl (pgs_cons (pg_name (i := 4) sc_through.nd rfl (Or.inl rfl)) (pgs_cons (pg_name (i := 5) sc_through.nd rfl (Or.inl rfl)) pgs_nil)))
      (pss_cons (ps_set (i := 6) sc_through.nd rfl (Or.inr rfl) (pe_op op_mul (pe_op op_sub (pv 5) (pe_callO O_worth hr rfl (pa_cons (pv 0) (pa_cons (pv 2) (pa_cons (pv 4) pa_nil))))) (pe_callO O_back hr rfl (pa_cons (pv 0) (pa_cons (pe_callO O_worth hr rfl (pa_cons (pv 0) (pa_cons (pv 3) (pa_cons (pv 4) pa_nil)))) pa_nil)))))
    (pss_cons (ps_setComp 2 ["old", "new"] [("table", 0), ("times", 6)] sc_through.nd  (pi_zip rfl B.zip (pa_cons (pe_op op_cat (pv 2) (pe_lst (pa_cons pe_int pa_nil))) (pa_cons (pv 3) pa_nil))) rfl (fun C s0 H0 ex => by exact (pg_tupK K 2 rfl (pgs_cons (pg_name (i := 0) (show List.Nodup [("old" : Str), "new", "table", "times"] by decide +kernel) rfl (Or.inl rfl)) (pgs_cons (pg_name (i := 1) (show List.Nodup [("old" : Str), "new", "table", "times"] by decide +kernel) rfl (Or.inl rfl)) pgs_nil)))) (fun C s0 H0 ex => by exact pts_nil) (fun C s0 H0 ex => by exact (pe_op op_mod (pe_op op_add (pv 0) (pe_op op_mul (pv 3) (pv 1))) (pe_fldK K (pv 2) rfl))))
    (pss_one (ps_set (i := 3) sc_through.nd rfl (Or.inl rfl) (pe_callO O_with_nought_at hr rfl (pa_cons (pv 0) (pa_cons (pv 3) (pa_cons (pv 4) pa_nil)))))))))
    (pss_one (ps_ret (pv 2))))))), ?_⟩
  refine ⟨_, rfl, _, rfl, t, r, p, n, f, rs, qs, rfl, T1, hp, hr1, hpt, by omega, nd, fun H1 s1 => ?_⟩
  refine ⟨(by show 0 ≤ sizeLine; decide), fun la hla => ?_⟩
  refine ⟨(by show 1 ≤ sizeLine; decide), fun lb hlb => ?_⟩
  have sb : Same H1 (upd (upd H1 la (.lst [])) lb (.lst [.int 1])) := (same_new hla _).trans (same_new hlb _)
  refine ⟨_, rfl, r, rfl, ⟨_, SqL.of (sb _ _ (s1 _ _ hr1))⟩, for_list (K := K) (a := r) (xs := rs) (fun i σ H2 => ∃ (l1 l2 : Addr) (v4 v5 v6 : Option V), σ = [some (.ref t), some (.ref r), some (.ref l1), some (.ref l2), v4, v5, v6] ∧ Same H H2 ∧ H l1 = none ∧
    H2 l1 = some (.lst ((throughS p (qs.take i)).1.map V.int)) ∧ H2 l2 = some (.lst ((throughS p (qs.take i)).2.map V.int))) ?_ ?_ ?_ ?_⟩
  · refine ⟨la, lb, none, none, none, rfl, s1.trans sb, s1.free hla, ?_, upd_same⟩
    rw [upd_ne (fun z => ?_), upd_same]
    · rfl
    · rw [z, upd_same] at hlb
      cases hlb
  · rintro i σ H2 _ ⟨l1, l2, v4, v5, v6, _, s2, _⟩
    exact SqL.of (s2 _ _ hr1)
  · rintro i v σ H2 hv ⟨l1, l2, v4, v5, v6, rfl, s2, f1, e1, e2⟩
    obtain ⟨a, ⟨x, y⟩, rfl, ha, hq⟩ := (hpt.same s2).get hv
    have hiq : i < qs.length := (List.getElem?_eq_some_iff.mp hq).1
    have hsplit : qs = qs.take i ++ (x, y) :: qs.drop (i + 1) := by rw [← drop_at hq, List.take_append_drop]
    have ndi : ((qs.take i).map fun q => q.1 % p).Nodup := by
      rw [hsplit, List.map_append] at nd
      exact (List.nodup_append.mp nd).1
    have hdiff : ∀ q ∈ qs.take i, x % p ≠ q.1 % p := fun q hm z => by
      rw [hsplit, List.map_append] at nd
      exact (List.nodup_append.mp nd).2.2 (q.1 % p) (List.mem_map.mpr ⟨q, hm, rfl⟩) (x % p) (List.mem_map.mpr ⟨(x, y), List.mem_cons_self, rfl⟩) z.symm
    have ok := through_ok hp ndi
    have hstep : throughS p (qs.take (i + 1)) = stepT p (throughS p (qs.take i)) (x, y) := by
      unfold throughS
      rw [← take_snoc hq, List.foldl_append]
      rfl
    generalize hrs : throughS p (qs.take i) = rs2 at e1 e2 ok hstep
    have lt : (qs.take i).length = i := by rw [List.length_take]; omega
    have l1' := ok.l1
    have l2' := ok.l2
    rw [lt] at l1' l2'
    refine ⟨a, _, rfl, SqT.of ha, rfl, _, _, rfl, _, _, rfl, rfl, ?_⟩
    refine ⟨_, rfl, _, rfl, _, rfl, _, rfl, t, l1, p, n, f, x, rs2.1, rfl, T1.same s2, by omega, p5.2, SqL.of e1, fun H3 s3 => ?_⟩
    refine ⟨_, _, rfl, rfl, _, rfl, _, rfl, _, rfl, _, rfl, t, l2, p, n, f, x, rs2.2, rfl, (T1.same s2).same s3, by omega, p5.2, SqL.of (s3 _ _ e2), fun H4 s4 => ?_⟩
    have wb := worthL_b (show 0 < p by omega) rs2.2 x
    have wn : worthL p rs2.2 x ≠ 0 := by
      rw [worthL_poly]
      exact ok.non x hdiff
    refine ⟨t, p, n, f, _, rfl, ((T1.same s2).same s3).same s4, hp, wb, wn, fun H5 s5 => ?_⟩
    have bk := backI_ok hp (x := worthL p rs2.2 x) (by rw [Int.emod_eq_of_lt wb.1 wb.2]; exact wn)
    refine ⟨_, _, rfl, rfl, .inr ⟨by omega, by omega⟩, ?_⟩
    dsimp only
    generalize htm : (y - worthL p rs2.1 x) * backI p (worthL p rs2.2 x) = tm
    have s25 : Same H2 H5 := s3.trans (s4.trans s5)
    refine ⟨_, rfl, (by show 1 ≤ sizeLine; decide), fun l3 h3 => ?_⟩
    have s6 := same_new h3 (.lst [.int 0])
    refine ⟨l1, l3, _, _, rfl, rfl, s6 _ _ (s25 _ _ e1), upd_same, ?_, fun l4 h4 => ?_⟩
    · rw [List.length_map, List.length_singleton]
      exact small (by omega)
    have s7 : Same H5 (upd (upd H5 l3 (.lst [.int 0])) l4 (.lst (rs2.1.map V.int ++ [.int 0]))) := s6.trans (same_new h4 _)
    have e7 : (upd (upd H5 l3 (.lst [.int 0])) l4 (.lst (rs2.1.map V.int ++ [.int 0]))) l4 = some (.lst ((rs2.1 ++ [0]).map V.int)) := by rw [upd_same, List.map_append]; rfl
    generalize upd (upd H5 l3 (.lst [.int 0])) l4 (.lst (rs2.1.map V.int ++ [.int 0])) = H7 at s7 e7
    have s27 := s25.trans s7
    refine ⟨_, rfl, l4, l2, _, _, rfl, SqL.of e7, SqL.of (s27 _ _ e2), fun D hD => ?_⟩
    obtain ⟨dx, ht⟩ := T1.same (s2.trans s27)
    refine comp_zip (K := K) (a := l4) (b := l2) (xs := (rs2.1 ++ [0]).map V.int) (zs := rs2.2.map V.int) (fun j ys H8 => ys = ((addT p tm (rs2.1 ++ [0]) rs2.2).take j).map V.int ∧ Same H7 H8) ⟨rfl, same_upd (Same.refl _) hD⟩ ?_ ?_ ?_
    · rintro j ys H8 ⟨_, s8⟩
      exact ⟨SqL.of (s8 _ _ e7), SqL.of (s8 _ _ (s27 _ _ e2))⟩
    · rintro j u v ys H8 c hu hv ⟨rfl, s8⟩ hD8 hc
      obtain ⟨u, rfl, hu'⟩ := map_int_at hu
      obtain ⟨v, rfl, hv'⟩ := map_int_at hv
      have hvb := ok.b2 v (List.mem_of_getElem? hv')
      have s9 := s8.trans (same_new hc (.tup [.int u, .int v]))
      have hn : (addT p tm (rs2.1 ++ [0]) rs2.2)[j]? = some ((u + tm * v) % p) := zipW_at hu' hv'
      refine ⟨c, _, rfl, SqT.of upd_same, rfl, _, _, rfl, _, _, rfl, rfl, ⟨rfl, rfl⟩, ?_⟩
      refine ⟨_, rfl, _, rfl, _, rfl, _, _, rfl, rfl, .inr ⟨by omega, by omega⟩, _, _, rfl, rfl, _, rfl, t, C, dx, _, _, rfl, s9 _ _ ht, T.cl, T.nP, tf_p _ _ _, _, _, rfl, rfl, by omega, ?_, ?_, ?_, same_upd s9 hD⟩
      · exact same_new hc _ _ _ hD8
      · rw [List.length_map, List.length_take, addT_len]
        exact small1000 (by simp; omega)
      · rw [← take_snoc hn, List.map_append]
        rfl
    rintro ys H8 ⟨rfl, s8⟩ hD8
    have e : min ((rs2.1 ++ [0]).map V.int).length (rs2.2.map V.int).length = (addT p tm (rs2.1 ++ [0]) rs2.2).length := by rw [List.length_map, List.length_map, addT_len]
    rw [e, List.take_length] at hD8
    have s28 := s27.trans s8
    refine ⟨_, rfl, _, rfl, _, rfl, t, l2, p, n, f, x, rs2.2, rfl, T1.same (s2.trans s28), hp, s28 _ _ e2, by omega, ok.b2, fun l5 H9 s9 h50 h59 => ?_⟩
    refine ⟨D, l5, _, _, _, rfl, s2.trans (s28.trans s9), s2.free (s27.free hD), ?_, ?_⟩
    · rw [hstep]
      have : (stepT p rs2 (x, y)).1 = addT p tm (rs2.1 ++ [0]) rs2.2 := by rw [← htm]; rfl
      rw [this]
      exact s9 _ _ hD8
    · rw [hstep]
      exact h59
  · rintro σ H2 ⟨l1, l2, v4, v5, v6, rfl, s2, f1, e1, e2⟩
    have hl : rs.length = qs.length := Paired.length hpt
    rw [hl, List.take_length] at e1
    exact ⟨_, rfl, q l1 H2 s2 f1 e1⟩
end

section
variable {P : Program} {w : World} {K : PySem.W.Frag} {mg : Str → Option Value} {base : Heap} {C pa : Addr}
end

section
variable {P : Program} {w : World} {K : PySem.W.Frag} {mg : Str → Option Value} {base : Heap} {C pa : Addr}
theorem sc_that_came : FnScope ["table", "shares", "own"] ["table", "shares"] (defScope s_that_came) := ⟨rfl, rfl, rfl, by decide +kernel, rfl, by decide +kernel, by decide +kernel⟩
theorem ok_came (F : Src K mg "that_came" "that_came" s_that_came ["table", "shares"]) (B : Blt mg) (T : Tab K C) : Ok P w K mg base CX0 1 "that_came" ["table", "shares"] (spCame C) := by
  refine F.ok sc_that_came (fun vs H Q E h => ?_) (fun f cdv A outer s H vs Q E hr h => ?_)
  · obtain ⟨t, r, p, n, f, os, rfl, _⟩ := h
    rfl
  obtain ⟨t, r, p, n, f, os, rfl, ⟨dx, ht⟩, hn0, hn1, hr0, hol, q⟩ := h
  refine ⟨_, (pss_cons (ps_set (i := 2) sc_that_came.nd rfl (Or.inl rfl) (pe_slice sl_list (pv 1) po_none (po_some (pe_fld (pv 0) rfl))))
    (pss_one (ps_ret (pe_comp ["hand", "share"] []  (pi_enumK rfl B.enumerate (pa_cons (pv 2) pa_nil) pe_int) rfl (fun C s0 H0 ex => by exact (pg_tupK K 2 rfl (pgs_cons (pg_name (i := 0) (show List.Nodup [("hand" : Str), "share"] by decide +kernel) rfl (Or.inl rfl)) (pgs_cons (pg_name (i := 1) (show List.Nodup [("hand" : Str), "share"] by decide +kernel) rfl (Or.inl rfl)) pgs_nil)))) (fun C s0 H0 ex => by exact (pts_one (pt_cmpR op_notN (pv 1) pe_non (nomark _)))) (fun C s0 H0 ex => by exact (pe_tup (pa_cons (pv 0) (pa_cons (pv 1) pa_nil)))))))), ?_⟩
  refine ⟨_, rfl, _, rfl, t, C, dx, _, _, rfl, ht, T.cl, T.nH, tf_n _ _ _, n, rfl, r, _, rfl, SqL.of hr0, fun o ho => ?_⟩
  have ec : cutV (os.map sv) none (some n) = os.map sv := by
    rw [← hol, cut_to, List.take_of_length_le (by rw [List.length_map]; exact Nat.le_refl _)]
  rw [ec]
  have s1 := same_new ho (.lst (os.map sv))
  have ho1 : (upd H o (.lst (os.map sv))) o = some (.lst (os.map sv)) := upd_same
  generalize upd H o (.lst (os.map sv)) = H1 at s1 ho1
  refine ⟨_, rfl, o, _, 1, rfl, rfl, by decide, SqL.of ho1, fun D hD => ?_⟩
  refine comp_enum (K := K) (a := o) (xs := os.map sv) (k0 := 1) (fun i ys H2 => PtsAt H2 ys (cameP 1 (os.take i)) ∧ Same H1 H2) ⟨.nil, same_upd (Same.refl _) hD⟩ ?_ ?_ ?_
  · rintro i ys H2 ⟨_, s2⟩
    exact SqL.of (s2 _ _ ho1)
  · rintro i x ys H2 c hx ⟨hpt, s2⟩ hD2 hc
    obtain ⟨oi, rfl, hoi⟩ := sv_at hx
    have hi : i < os.length := (List.getElem?_eq_some_iff.mp hoi).1
    have ct := came_take 1 os i oi hoi
    have s3 := same_new hc (.tup [.int ((1 + i : Nat) : Int), sv oi])
    have lw : ys.length ≤ 10 := by
      rw [Paired.length hpt]
      have := came_len 1 (os.take i)
      rw [List.length_take] at this
      omega
    refine ⟨c, _, rfl, SqT.of upd_same, rfl, _, _, rfl, _, _, rfl, rfl, ⟨rfl, rfl⟩, ?_⟩
    cases oi with
    | none =>
      refine ⟨_, rfl, rfl, _, rfl, ?_⟩
      refine iteF ⟨s3 _ _ hD2, ?_, s2.trans s3⟩
      rw [← ct]
      simpa using hpt.same s3
    | some y =>
      refine ⟨_, rfl, rfl, _, rfl, ?_⟩
      refine iteT ?_
      refine ⟨_, rfl, _, rfl, (by show 2 ≤ sizeLine; decide), fun d hd => ?_⟩
      have s4 := s3.trans (same_new hd (.tup [.int ((1 + i : Nat) : Int), .int y]))
      refine ⟨s4 _ _ hD2, small1000 (by omega), ?_, same_upd (s2.trans s4) hD⟩
      rw [← ct]
      refine PtsAt.upd (s4 _ _ hD2) (PtsAt.snoc (hpt.same s4) ?_)
      rw [upd_same, Int.natCast_add]
      rfl
  · rintro ys H2 ⟨hpt, s2⟩ hD2
    rw [List.length_map, List.take_length] at hpt
    exact q D H2 ys (s1.trans s2) (s1.free hD) hD2 hpt
theorem sc_choices : FnScope ["things", "size", "found", "place", "thing", "rest"] ["things", "size"] (defScope s_choices) := ⟨rfl, rfl, rfl, by decide +kernel, rfl, by decide +kernel, by decide +kernel⟩
theorem ok_choices (F : Src K mg "choices" "choices" s_choices ["things", "size"]) (B : Blt mg) : ∀ m, Ok P w K mg base CX0 (m + 1) "choices" ["things", "size"] (spChoicesLt m)
  | 0 => by
    refine F.ok sc_choices (fun vs H Q E h => ?_) (fun f cdv A outer s H vs Q E hr h => ?_)
    · obtain ⟨r, k, things, _, hk, _⟩ := h
      omega
    · obtain ⟨r, k, things, _, hk, _⟩ := h
      omega
  | m + 1 => by
    have O_choices := ok_choices F B m
    refine F.ok sc_choices (fun vs H Q E h => ?_) (fun f cdv A outer s H vs Q E hr h => ?_)
    · obtain ⟨r, k, things, rfl, _⟩ := h
      rfl
    obtain ⟨r, k, things, rfl, hk, hk3, hr0, htl, q⟩ := h
    refine ⟨_, (pss_cons (ps_if (pt_cmpR op_eq (pv 1) pe_int (nomark _))
      (pss_one (ps_ret (pe_lst (pa_cons (pe_lst pa_nil) pa_nil))))
      pss_nil)
    (pss_cons (ps_set (i := 2) sc_choices.nd rfl (Or.inl rfl) (pe_lst pa_nil))
    (pss_cons (ps_for PassesOwn.never rfl (pi_enum rfl B.enumerate (pa_cons (pv 0) pa_nil)) (pg_tup rfl (pgs_cons (pg_name (i := 3) sc_choices.nd rfl (Or.inl rfl)) (pgs_cons (pg_name (i := 4) sc_choices.nd rfl (Or.inl rfl)) pgs_nil)))
      (pss_one (ps_for PassesOwn.never rfl (pi_list (pe_callO O_choices hr rfl (pa_cons (pe_slice sl_list (pv 0) (po_some (pe_op op_add (pv 3) pe_int)) po_none) (pa_cons (pe_op op_sub (pv 1) pe_int) pa_nil)) (Nat.le_refl _))) (pg_name (i := 5) sc_choices.nd rfl (Or.inl rfl))
      (pss_one (ps_expr (pe_bm PySem.F.plainAttrs_list PySem.F.slot_list_append PySem.F.type_list_append mt_append (pv 2) (pa_cons (pe_op op_cat (pe_lst (pa_cons (pv 4) pa_nil)) (pv 5)) pa_nil)))))))
    (pss_one (ps_ret (pv 2)))))), ?_⟩
    refine ⟨_, rfl, rfl, _, rfl, ?_⟩
    refine ite2 (fun c => ?_) (fun c => ?_)
    · have c' : V.int (k : Int) = V.int 0 := of_decide_eq_true c
      injection c' with c'
      have e : k = 0 := by omega
      subst e
      refine ⟨(by show 0 ≤ sizeLine; decide), fun a ha => ⟨(by show 1 ≤ sizeLine; decide), fun l hl => ?_⟩⟩
      have s1 := same_new ha (.lst [])
      have hal : a ≠ l := ne_of_none (show upd H a (.lst []) a = some (.lst []) from upd_same) hl
      refine q l _ _ (s1.trans (same_new hl _)) (s1.free hl) upd_same ?_
      simp only [choicesL]
      exact .cons ⟨a, rfl, hal, ha, by rw [upd_ne hal, upd_same]⟩ .nil
    have c' : ¬ V.int (k : Int) = V.int 0 := of_decide_eq_false (Bool.eq_false_iff.mpr c)
    have k0 : k ≠ 0 := fun z => c' (by rw [z]; rfl)
    obtain ⟨j, rfl⟩ : ∃ j, k = j + 1 := ⟨k - 1, by omega⟩
    refine ⟨(by show 0 ≤ sizeLine; decide), fun l hl => ?_⟩
    have s1 := same_new hl (.lst [])
    have big : (choicesL (j + 1) things).length ≤ 1331 := choices_few hk3 htl
    refine ⟨_, rfl, r, _, rfl, SqL.of (s1 _ _ hr0), for_enum (K := K) (a := r) (xs := things) (k0 := 0) (fun i σ H2 => Same H H2 ∧ ∃ (ws : List V) (done : List (List V)) (v3 v4 v5 : Option V), σ = [some (.ref r), some (.int ((j + 1 : Nat) : Int)), some (.ref l), v3, v4, v5] ∧ H2 l = some (.lst ws) ∧ LVAt l H H2 ws done ∧ done ++ choicesL (j + 1) (things.drop i) = choicesL (j + 1) things) ?_ ?_ ?_ ?_⟩
    · exact ⟨s1, [], [], none, none, none, rfl, upd_same, .nil, by simp⟩
    · rintro i σ H2 ⟨s2, _⟩
      exact SqL.of (s2 _ _ hr0)
    · rintro i x σ H2 c hx ⟨s2, ws, done, v3, v4, v5, rfl, hl2, hws, hd⟩ hc
      have hi : i < things.length := (List.getElem?_eq_some_iff.mp hx).1
      have s3 := same_new hc (.tup [.int ((0 + i : Nat) : Int), x])
      refine ⟨c, _, rfl, SqT.of upd_same, rfl, _, _, rfl, _, _, rfl, rfl, ?_⟩
      have hl3 := s3 _ _ hl2
      have hws3 := hws.same s3
      have g3 := s2.trans s3
      generalize upd H2 c (.tup [.int ((0 + i : Nat) : Int), x]) = H3 at s3 hl3 hws3 g3
      refine ⟨_, rfl, _, rfl, _, _, rfl, rfl, _, rfl, r, _, rfl, SqL.of (g3 _ _ hr0), fun o ho => ?_⟩
      rw [show ((0 + i : Nat) : Int) + 1 = ((i + 1 : Nat) : Int) by omega, cut_from]
      have s4 := same_new ho (.lst (things.drop (i + 1)))
      refine ⟨_, rfl, _, _, rfl, rfl, o, j, things.drop (i + 1), ?_, by omega, by omega, upd_same, by rw [List.length_drop]; omega, fun d H5 us s5 hd0 hd5 hus => ?_⟩
      · show [V.ref o, V.int (((j + 1 : Nat) : Int) - 1)] = _
        rw [show ((j + 1 : Nat) : Int) - 1 = (j : Int) by omega]
      have g5 := g3.trans (s4.trans s5)
      have hl5 := s5 _ _ (s4 _ _ hl3)
      have hws5 := (hws3.same s4).same s5
      have hdl : d ≠ l := fun z => by rw [z] at hd0; rw [s4 _ _ hl3] at hd0; cases hd0
      have hl4 := s4 _ _ hl3
      rw [drop_at hx] at hd
      simp only [choicesL] at hd
      have big2 : (choicesL j (things.drop (i + 1))).length + done.length ≤ 1331 := by
        have z := congrArg List.length hd
        simp only [List.length_append, List.length_map] at z
        omega
      refine ⟨d, rfl, ⟨_, SqL.of hd5⟩, for_list (K := K) (a := d) (xs := us) (fun i2 σ H6 => Same H H6 ∧ H6 d = some (.lst us) ∧ LVAt d (upd H3 o (.lst (things.drop (i + 1)))) H6 us (choicesL j (things.drop (i + 1))) ∧ ∃ (ws : List V) (v5 : Option V), σ = [some (.ref r), some (.int ((j + 1 : Nat) : Int)), some (.ref l), some (.int ((0 + i : Nat) : Int)), some x, v5] ∧ H6 l = some (.lst ws) ∧ LVAt l H H6 ws (done ++ ((choicesL j (things.drop (i + 1))).take i2).map (x :: ·))) ?_ ?_ ?_ ?_⟩
      · exact ⟨g5, hd5, hus, ws, v5, rfl, hl5, by simpa using hws5⟩
      · rintro i2 σ H6 _ ⟨_, h6, _⟩
        exact SqL.of h6
      · rintro i2 y σ H6 hy ⟨g6, hd6, hus6, ws6, v6, rfl, hl6, hws6⟩
        obtain ⟨b, cs, rfl, hbd, hbf, hb, hcs⟩ := hus6.get hy
        have cl : cs.length = j := (choices_sub j _ cs (List.mem_of_getElem? hcs)).2
        have lw := hws6.len
        rw [List.length_append, List.length_map, List.length_take] at lw
        refine ⟨_, rfl, .inl ⟨rfl, _, SqL.of hl6⟩, _, rfl, (by show 1 ≤ sizeLine; decide), fun e1 he1 => ?_⟩
        have s7 := same_new he1 (.lst [x])
        refine ⟨_, rfl, e1, b, _, _, rfl, rfl, upd_same, s7 _ _ hb, ?_, fun e2 he2 => ?_⟩
        · exact small (by show 1 + cs.length ≤ 1000; omega)
        have s8 := s7.trans (same_new he2 (.lst ([x] ++ cs)))
        have he2l : e2 ≠ l := (ne_of_none (s7 _ _ hl6) he2).symm
        refine ⟨l, _, _, rfl, rfl, s8 _ _ hl6, small10k (by omega), ?_⟩
        refine ⟨same_upd (g6.trans s8) hl, ?_, LVAt.off hl4 (hus6.same s8), _, _, rfl, upd_same, ?_⟩
        · rw [upd_ne hdl]
          exact s8 _ _ hd6
        · rw [← take_snoc hcs, List.map_append, ← List.append_assoc]
          exact LVAt.upd (LVAt.snoc (hws6.same s8) he2l ((g6.trans s7).free he2) upd_same)
      · rintro σ H6 ⟨g6, hd6, hus6, ws6, v6, rfl, hl6, hws6⟩
        refine ⟨g6, ws6, _, _, _, _, rfl, hl6, hws6, ?_⟩
        rw [hus6.len, List.take_length, List.append_assoc]
        exact hd
    · rintro σ H2 ⟨s2, ws, done, v3, v4, v5, rfl, hl2, hws, hd⟩
      rw [List.drop_length] at hd
      simp only [choicesL, List.append_nil] at hd
      rw [hd] at hws
      exact ⟨_, rfl, q l H2 ws s2 hl hl2 hws⟩
theorem sc_mended : FnScope ["table", "shares", "wrong", "points", "chosen", "row", "liars"] ["table", "shares", "wrong"] (defScope s_mended) := ⟨rfl, rfl, rfl, by decide +kernel, rfl, by decide +kernel, by decide +kernel⟩
theorem ok_mended (F : Src K mg "mended" "mended" s_mended ["table", "shares", "wrong"]) (B : Blt mg) (T : Tab K C) (O_that_came : Ok P w K mg base CX0 1 "that_came" ["table", "shares"] (spCame C)) (O_choices : Ok P w K mg base CX0 5 "choices" ["things", "size"] (spChoicesLt 4))
    (O_through : Ok P w K mg base CX0 2 "through" ["table", "points"] (spThrough C)) (O_worth : Ok P w K mg base CX0 1 "worth" ["table", "row", "at"] (spWorth K C)) : Ok P w K mg base CX0 6 "mended" ["table", "shares", "wrong"] (spMended C) := by
  refine F.ok sc_mended (fun vs H Q E h => ?_) (fun f cdv A outer s H vs Q E hr h => ?_)
  · obtain ⟨t, r, p, n, f, wr, os, rfl, _⟩ := h
    rfl
  obtain ⟨t, r, p, n, f, wr, os, rfl, T1, hp, hn0, hn1, hnp, hf, hw, hr0, hol, hyb, hlen, q⟩ := h
  have p5 := pos9 hp
  obtain ⟨dx, ht⟩ := id T1
  refine ⟨_, (pss_cons (ps_set (i := 3) sc_mended.nd rfl (Or.inl rfl) (pe_callO O_that_came hr rfl (pa_cons (pv 0) (pa_cons (pv 1) pa_nil))))
    (pss_cons (ps_if (pt_cmpR op_lt (pe_callB call_len_seq rfl B.len PySem.boot_len (pa_cons (pv 3) pa_nil)) (pe_op op_add (pe_op op_add (pe_fld (pv 0) rfl) pe_int) (pe_op op_mul pe_int (pv 2))) (nomark _))
      (pss_one ps_never)
      pss_nil)
    (pss_cons (ps_for PassesOwn.never rfl (pi_list (pe_callO O_choices hr rfl (pa_cons (pv 3) (pa_cons (pe_op op_add (pe_fld (pv 0) rfl) pe_int) pa_nil)))) (pg_name (i := 4) sc_mended.nd rfl (Or.inl rfl))
      (pss_cons (ps_set (i := 5) sc_mended.nd rfl (Or.inr rfl) (pe_callO O_through hr rfl (pa_cons (pv 0) (pa_cons (pv 4) pa_nil))))
    (pss_cons (ps_setComp 6 ["hand", "share"] [("table", 0), ("row", 5)] sc_mended.nd  (pi_list (pv 3)) rfl (fun C s0 H0 ex => by exact (pg_tupK K 2 rfl (pgs_cons (pg_name (i := 0) (show List.Nodup [("hand" : Str), "share", "table", "row"] by decide +kernel) rfl (Or.inl rfl)) (pgs_cons (pg_name (i := 1) (show List.Nodup [("hand" : Str), "share", "table", "row"] by decide +kernel) rfl (Or.inl rfl)) pgs_nil)))) (fun C s0 H0 ex => by exact (pts_one (pt_cmpR op_ne (pe_callO O_worth hr rfl (pa_cons (pv 2) (pa_cons (pv 3) (pa_cons (pv 0) pa_nil)))) (pv 1) (nomark _)))) (fun C s0 H0 ex => by exact (pv 0)))
    (pss_one (ps_if (pt_cmpR op_le (pe_callB call_len_seq rfl B.len PySem.boot_len (pa_cons (pv 6) pa_nil)) (pv 2) (nomark _))
      (pss_one (ps_ret (pe_tup (pa_cons (pe_ix ix_list (pv 5) pe_int (fun _ _ => rfl)) (pa_cons (pv 6) pa_nil)))))
      pss_nil)))))
    (pss_one (ps_ret pe_non))))), ?_⟩
  refine ⟨_, rfl, _, rfl, t, r, p, n, f, os, rfl, T1, hn0, hn1, hr0, hol, fun d H1 ws s1 hd0 hd1 hpt => ?_⟩
  have PO := came_ok (p := p) (os := os) (by omega) hyb
  have ql : (cameP 1 os).length ≤ 10 := by have := came_len 1 os; omega
  generalize cameP 1 os = qs at hpt PO ql hlen q
  have wl : ws.length = qs.length := Paired.length hpt
  refine ⟨_, rfl, d, _, rfl, .inl (SqL.of hd1), _, rfl, t, C, dx, _, _, rfl, s1 _ _ ht, T.cl, T.nF, tf_f _ _ _, _, _, rfl, rfl, _, rfl, _, _, rfl, rfl, .inl ⟨by decide, by decide⟩, _, _, rfl, rfl, _, _, rfl, rfl, _, rfl, ?_⟩
  refine ite2 (fun c => ?_) (fun _ => ?_)
  · have c' := of_decide_eq_true c
    exfalso
    omega
  have ek : f + 1 = ((f.toNat + 1 : Nat) : Int) := by omega
  refine ⟨_, rfl, _, rfl, t, C, dx, _, _, rfl, s1 _ _ ht, T.cl, T.nF, tf_f _ _ _, _, _, rfl, rfl, d, f.toNat + 1, ws, ?_, by omega, by omega, hd1, by omega, fun d2 H2 us s2 hd20 hd22 hus => ?_⟩
  · show [V.ref d, V.int (f + 1)] = _
    rw [ek]
  have pc := PtsAt.of_choice (f.toNat + 1) (hpt.same s2)
  refine ⟨d2, rfl, ⟨_, SqL.of hd22⟩, for_list (K := K) (a := d2) (xs := us) (fun i σ H3 => Same H2 H3 ∧ (∃ v4 v5 v6 : Option V, σ = [some (.ref t), some (.ref r), some (.int (wr : Int)), some (.ref d), v4, v5, v6]) ∧
    mendedL p f.toNat qs wr = ((choicesL (f.toNat + 1) qs).drop i).findSome? fun c => if (liarsL p (throughL p c) qs).length ≤ wr then some ((throughL p c).headD 0, liarsL p (throughL p c) qs) else none) ?_ ?_ ?_ ?_⟩
  · exact ⟨Same.refl _, ⟨none, none, none, rfl⟩, by rw [List.drop_zero]; rfl⟩
  · rintro i σ H3 _ ⟨s3, _⟩
    exact SqL.of (s3 _ _ hd22)
  · rintro i x σ H3 hx ⟨s3, ⟨v4, v5, v6, rfl⟩, hm⟩
    obtain ⟨b, cw, rfl, _, _, hb, hcw⟩ := hus.get hx
    obtain ⟨cq, hcq, hcp⟩ := paired_get pc hcw
    obtain ⟨csub, clen⟩ := choices_sub _ _ cq (List.mem_of_getElem? hcq)
    have cnd := Nodup.sub_map csub PO.nd
    have g3 := s1.trans (s2.trans s3)
    refine ⟨_, rfl, _, rfl, t, b, p, n, f, cw, cq, rfl, T1.same g3, hp, s3 _ _ hb, hcp.same s3, by omega, cnd, fun rr H4 s4 hrr0 hrr4 => ?_⟩
    obtain ⟨t1, t2, t3⟩ := through_facts hp cnd
    rw [drop_at hcq, List.findSome?_cons] at hm
    generalize throughL p cq = row at hrr4 t1 t2 t3 hm
    have g4 := g3.trans s4
    have hd4 := s4 _ _ (s3 _ _ (s2 _ _ hd1))
    have hpt4 := ((hpt.same s2).same s3).same s4
    refine ⟨_, rfl, d, rfl, ⟨_, SqL.of hd4⟩, fun D hD => ?_⟩
    refine comp_list (K := K) (a := d) (xs := ws) (fun i ys H5 => ys = (liarsL p row (qs.take i)).map V.int ∧ Same H4 H5) ⟨rfl, same_upd (Same.refl _) hD⟩ ?_ ?_ ?_
    · rintro i ys H5 _ ⟨_, s5⟩
      exact SqL.of (s5 _ _ hd4)
    · rintro i x ys H5 hx ⟨rfl, s5⟩ hD5
      obtain ⟨a, z, rfl, hz, hqz⟩ := (hpt4.same s5).get hx
      have ll : (liarsL p row (qs.take i)).length ≤ 10 := by
        unfold liarsL
        rw [List.length_map]
        have := List.length_filter_le (fun q : Int × Int => !decide (worthL p row q.1 = q.2)) (qs.take i)
        rw [List.length_take] at this
        omega
      refine ⟨a, _, rfl, SqT.of hz, rfl, _, _, rfl, _, _, rfl, rfl, ⟨rfl, rfl⟩, ?_⟩
      refine ⟨_, rfl, _, rfl, _, rfl, t, rr, p, n, f, _, row, rfl, T1.same (g4.trans s5), by omega, p5.2, SqL.of (s5 _ _ hrr4), fun H6 s6 => ⟨_, rfl, rfl, _, rfl, ?_⟩⟩
      have et : liarsL p row (qs.take (i + 1)) = liarsL p row (qs.take i) ++ (if worthL p row z.1 = z.2 then [] else [z.1]) := by
        unfold liarsL
        rw [← take_snoc hqz, List.filter_append, List.map_append]
        congr 1
        by_cases e : worthL p row z.1 = z.2 <;> simp [e]
      refine ite2 (fun c => ?_) (fun c => ?_)
      · have c' : ¬ worthL p row z.1 = z.2 := fun e => by
          rw [e] at c
          simp at c
        refine ⟨_, rfl, s6 _ _ hD5, by rw [List.length_map]; exact small1000 (by omega), ?_, same_upd (s5.trans s6) hD⟩
        rw [et, if_neg c', List.map_append]
        rfl
      · have c' : worthL p row z.1 = z.2 := Classical.byContradiction fun e => c (by simp [e])
        refine ⟨s6 _ _ hD5, ?_, s5.trans s6⟩
        rw [et, if_pos c', List.append_nil]
    rintro ys H5 ⟨rfl, s5⟩ hD5
    rw [wl, List.take_length] at hD5
    generalize liarsL p row qs = li at hD5 hm
    have hrr5 := s5 _ _ hrr4
    refine ⟨_, rfl, D, _, rfl, .inl (SqL.of hD5), _, rfl, _, _, rfl, rfl, _, rfl, ?_⟩
    refine ite2 (fun c => ?_) (fun c => ?_)
    · have c' := of_decide_eq_true c
      rw [List.length_map] at c'
      rw [if_pos (show li.length ≤ wr by omega)] at hm
      rw [hm] at q
      have q : NewPair H Q (row.headD 0) li := q
      have r0 : 0 < row.length := by omega
      refine ⟨_, rfl, rr, _, _, .int (row.headD 0), rfl, rfl, SqL.of hrr5, ?_, _, rfl, (by show 2 ≤ sizeLine; decide), fun tp htp => ?_⟩
      · refine atI_nat (j := 0) ?_
        cases row with
        | nil => simp at r0
        | cons u v => rfl
      · have g5 := g4.trans s5
        have s6 := same_new htp (.tup [.int (row.headD 0), .ref D])
        exact q tp D _ (g5.trans s6) (g5.free htp) (g4.free hD) upd_same (s6 _ _ hD5)
    · have c' := of_decide_eq_false (Bool.eq_false_iff.mpr c)
      rw [List.length_map] at c'
      rw [if_neg (show ¬ li.length ≤ wr by omega)] at hm
      exact ⟨s3.trans (s4.trans s5), ⟨_, _, _, rfl⟩, hm⟩
  · rintro σ H3 ⟨s3, ⟨v4, v5, v6, rfl⟩, hm⟩
    have e : us.length = (choicesL (f.toNat + 1) qs).length := by rw [hus.len]; exact Paired.length pc
    rw [e, List.drop_length] at hm
    rw [hm] at q
    exact q H3 (s1.trans (s2.trans s3))
end

section
variable {P : Program} {w : World} {K : PySem.W.Frag} {mg : Str → Option Value} {base : Heap} {C pa : Addr}
theorem sc_law_at : FnScope ["prime", "points", "at", "total", "k", "point", "over", "under", "j", "other", "turn"] ["prime", "points", "at"] (defScope s_law_at) := ⟨rfl, rfl, rfl, by decide +kernel, rfl, by decide +kernel, by decide +kernel⟩
theorem ok_at (F : Src K mg "_law_at" "_law_at" s_law_at ["prime", "points", "at"]) (B : Blt mg) : Ok P w K mg base CX0 1 "_law_at" ["prime", "points", "at"] spAt := by
  refine F.ok sc_law_at (fun vs H Q E h => ?_) (fun f cdv A outer s H vs Q E hr h => ?_)
  · obtain ⟨b, p, x, ws, qs, rfl, _⟩ := h
    rfl
  obtain ⟨b, p, x, ws, qs, rfl, hp, hb, hpt, hl, hok, hx, q⟩ := h
  have p5 := pos9 hp
  have wl : ws.length = qs.length := Paired.length hpt
  refine ⟨_, (pss_cons (ps_set (i := 3) sc_law_at.nd rfl (Or.inl rfl) pe_int)
    (pss_cons (ps_for PassesOwn.never rfl (pi_enum rfl B.enumerate (pa_cons (pv 1) pa_nil)) (pg_tup rfl (pgs_cons (pg_name (i := 4) sc_law_at.nd rfl (Or.inl rfl)) (pgs_cons (pg_name (i := 5) sc_law_at.nd rfl (Or.inl rfl)) pgs_nil)))
      (pss_cons (ps_set (i := 6) sc_law_at.nd rfl (Or.inl rfl) (pe_ix ix_tup (pv 5) pe_int (fun _ _ => rfl)))
    (pss_cons (ps_set (i := 7) sc_law_at.nd rfl (Or.inl rfl) pe_int)
    (pss_cons (ps_for PassesOwn.never rfl (pi_enum rfl B.enumerate (pa_cons (pv 1) pa_nil)) (pg_tup rfl (pgs_cons (pg_name (i := 8) sc_law_at.nd rfl (Or.inl rfl)) (pgs_cons (pg_name (i := 9) sc_law_at.nd rfl (Or.inl rfl)) pgs_nil)))
      (pss_one (ps_if (pt_cmpR op_ne (pv 8) (pv 4) (nomark _))
      (pss_cons (ps_set (i := 6) sc_law_at.nd rfl (Or.inl rfl) (pe_op op_mod (pe_op op_mul (pv 6) (pe_op op_sub (pv 2) (pe_ix ix_tup (pv 9) pe_int (fun _ _ => rfl)))) (pv 0)))
    (pss_one (ps_set (i := 7) sc_law_at.nd rfl (Or.inl rfl) (pe_op op_mod (pe_op op_mul (pv 7) (pe_op op_sub (pe_ix ix_tup (pv 5) pe_int (fun _ _ => rfl)) (pe_ix ix_tup (pv 9) pe_int (fun _ _ => rfl)))) (pv 0)))))
      pss_nil)))
    (pss_cons (ps_for PassesOwn.never rfl (pi_range1 rfl B.range (pa_cons (pe_op op_sub (pv 0) pe_int) pa_nil)) (pg_name (i := 10) sc_law_at.nd rfl (Or.inl rfl))
      (pss_one (ps_set (i := 6) sc_law_at.nd rfl (Or.inl rfl) (pe_op op_mod (pe_op op_mul (pv 6) (pv 7)) (pv 0)))))
    (pss_one (ps_set (i := 3) sc_law_at.nd rfl (Or.inl rfl) (pe_op op_mod (pe_op op_add (pv 3) (pv 6)) (pv 0)))))))))
    (pss_one (ps_ret (pv 3))))), ?_⟩
  refine ⟨_, rfl, b, _, rfl, SqL.of hb, for_enum (K := K) (a := b) (xs := ws) (k0 := 0) (fun i σ H2 => Same H H2 ∧ ∃ (t : Int) (v4 v5 v6 v7 v8 v9 v10 : Option V), σ = [some (.int p), some (.ref b), some (.int x), some (.int t), v4, v5, v6, v7, v8, v9, v10] ∧ lagS p x qs (qs.drop i) i t = lagL p qs x) ?_ ?_ ?_ ?_⟩
  · exact ⟨Same.refl _, 0, none, none, none, none, none, none, none, rfl, rfl⟩
  · rintro i σ H2 ⟨s2, _⟩
    exact SqL.of (s2 _ _ hb)
  · rintro i y σ H2 c hy ⟨s2, t, v4, v5, v6, v7, v8, v9, v10, rfl, hlag⟩ hc
    obtain ⟨a, z, rfl, hz, hqz⟩ := (hpt.same s2).get hy
    have s3 := same_new hc (.tup [.int ((0 + i : Nat) : Int), .ref a])
    refine ⟨c, _, rfl, SqT.of upd_same, rfl, _, _, rfl, _, _, rfl, rfl, ?_⟩
    have g3 := s2.trans s3
    have hz3 := s3 _ _ hz
    generalize upd H2 c (.tup [.int ((0 + i : Nat) : Int), .ref a]) = H3 at s3 g3 hz3
    have zb := hok z (List.mem_of_getElem? hqz)
    refine ⟨_, rfl, a, _, _, .int z.2, rfl, rfl, SqT.of hz3, rfl, ?_⟩
    refine ⟨_, rfl, b, _, rfl, SqL.of (g3 _ _ hb), for_enum (K := K) (a := b) (xs := ws) (k0 := 0) (fun j σ H4 => Same H3 H4 ∧ ∃ (ou : Int × Int) (v8 v9 : Option V), σ = [some (.int p), some (.ref b), some (.int x), some (.int t), some (.int ((0 + i : Nat) : Int)), some (.ref a), some (.int ou.1), some (.int ou.2), v8, v9, v10] ∧ lagOU p x z.1 i (qs.drop j) j ou = lagOU p x z.1 i qs 0 (z.2, 1) ∧ (0 ≤ ou.1 ∧ ou.1 < p) ∧ (0 ≤ ou.2 ∧ ou.2 < p)) ?_ ?_ ?_ ?_⟩
    · exact ⟨Same.refl _, (z.2, 1), _, _, rfl, rfl, zb.2, by show (0 : Int) ≤ 1; decide, by show (1 : Int) < p; omega⟩
    · rintro j σ H4 ⟨s4, _⟩
      exact SqL.of (s4 _ _ (g3 _ _ hb))
    · rintro j y2 σ H4 c2 hy2 ⟨s4, ou, v8, v9, rfl, hou, b1, b2⟩ hc2
      obtain ⟨a2, o, rfl, ho, hqo⟩ := (hpt.same (g3.trans s4)).get hy2
      have ob := hok o (List.mem_of_getElem? hqo)
      have s5 := same_new hc2 (.tup [.int ((0 + j : Nat) : Int), .ref a2])
      refine ⟨c2, _, rfl, SqT.of upd_same, rfl, _, _, rfl, _, _, rfl, rfl, ?_⟩
      have ho5 := s5 _ _ ho
      have hz5 := s5 _ _ (s4 _ _ hz3)
      generalize upd H4 c2 (.tup [.int ((0 + j : Nat) : Int), .ref a2]) = H5 at s5 ho5 hz5
      refine ⟨_, rfl, _, rfl, rfl, _, rfl, ?_⟩
      refine ite2 (fun c1 => ?_) (fun c1 => ?_)
      · have hji : ¬ j = i := fun e => by
          subst e
          simp at c1
        refine ⟨_, rfl, _, rfl, _, rfl, a2, _, _, .int o.1, rfl, rfl, SqT.of ho5, rfl, _, _, rfl, rfl, _, _, rfl, rfl, .inl ⟨by omega, by omega⟩, _, rfl, _, _, rfl, rfl, by omega, ?_⟩
        refine ⟨_, rfl, _, rfl, a, _, _, .int z.1, rfl, rfl, SqT.of hz5, rfl, _, rfl, a2, _, _, .int o.1, rfl, rfl, SqT.of ho5, rfl, _, _, rfl, rfl, _, _, rfl, rfl, .inl ⟨by omega, by omega⟩, _, rfl, _, _, rfl, rfl, by omega, ?_⟩
        refine ⟨s4.trans s5, (ou.1 * (x - o.1) % p, ou.2 * (z.1 - o.1) % p), _, _, rfl, ?_, ⟨Int.emod_nonneg _ (by omega), Int.emod_lt_of_pos _ (by omega)⟩, Int.emod_nonneg _ (by omega), Int.emod_lt_of_pos _ (by omega)⟩
        rw [← hou, ou_step hqo, if_neg hji]
      · have hji : j = i := Classical.byContradiction fun e => c1 (by
          have hne : ¬ V.int ((0 + j : Nat) : Int) = V.int ((0 + i : Nat) : Int) := fun z => e (by injection z with z; omega)
          show (!decide (V.int ((0 + j : Nat) : Int) = V.int ((0 + i : Nat) : Int))) = true
          rw [decide_eq_false hne]
          rfl)
        refine ⟨s4.trans s5, ou, _, _, rfl, ?_, b1, b2⟩
        rw [← hou, ou_step hqo, if_pos hji]
    rintro σ H4 ⟨s4, ou, v8, v9, rfl, hou, b1, b2⟩
    rw [wl, List.drop_length] at hou
    have hou : ou = lagOU p x z.1 i qs 0 (z.2, 1) := hou
    refine ⟨_, rfl, _, _, rfl, rfl, p - 2, rfl, by omega, by omega, for_range (fun m σ H5 => H5 = H4 ∧ m ≤ (p - 2).toNat ∧ ∃ (o : Int) (v10 : Option V), σ = [some (.int p), some (.ref b), some (.int x), some (.int t), some (.int ((0 + i : Nat) : Int)), some (.ref a), some (.int o), some (.int ou.2), v8, v9, v10] ∧ powL p ou.2 ((p - 2).toNat - m) o = powL p ou.2 (p - 2).toNat ou.1 ∧ 0 ≤ o ∧ o < p) ?_ ?_ ?_⟩
    · exact ⟨rfl, Nat.zero_le _, _, _, rfl, rfl, b1⟩
    · rintro m σ H5 hm ⟨rfl, _, o, v10, rfl, hpw, bo⟩
      refine ⟨_, rfl, _, rfl, _, _, rfl, rfl, .inl ⟨by omega, by omega⟩, _, rfl, _, _, rfl, rfl, by omega, ?_⟩
      refine ⟨rfl, by omega, _, _, rfl, ?_, Int.emod_nonneg _ (by omega), Int.emod_lt_of_pos _ (by omega)⟩
      rw [← hpw, show (p - 2).toNat - m = ((p - 2).toNat - (m + 1)) + 1 by omega, powL]
    rintro σ H5 ⟨rfl, _, o, v10, rfl, hpw, bo⟩
    refine ⟨_, rfl, _, rfl, _, _, rfl, rfl, _, rfl, _, _, rfl, rfl, by omega, ?_⟩
    refine ⟨g3.trans s4, _, _, _, _, _, _, _, _, rfl, ?_⟩
    rw [Nat.sub_self] at hpw
    have hpw : o = powL p ou.2 (p - 2).toNat ou.1 := hpw
    rw [← hlag, lag_step hqz, ← hou, ← hpw]
  · rintro σ H2 ⟨s2, t, v4, v5, v6, v7, v8, v9, v10, rfl, hlag⟩
    rw [wl, List.drop_length] at hlag
    have hlag : t = lagL p qs x := hlag
    exact ⟨_, rfl, by rw [hlag]; exact q H2 s2⟩
theorem sc_law_bad : FnScope ["prime", "points", "base", "found", "hand", "share"] ["prime", "points", "base"] (defScope s_law_bad) := ⟨rfl, rfl, rfl, by decide +kernel, rfl, by decide +kernel, by decide +kernel⟩
theorem ok_bad (F : Src K mg "_law_bad" "_law_bad" s_law_bad ["prime", "points", "base"]) (B : Blt mg) (O_law_at : Ok P w K mg base CX0 1 "_law_at" ["prime", "points", "at"] spAt) : Ok P w K mg base CX0 2 "_law_bad" ["prime", "points", "base"] spBad := by
  refine F.ok sc_law_bad (fun vs H Q E h => ?_) (fun f cdv A outer s H vs Q E hr h => ?_)
  · obtain ⟨a, b, p, ws, us, qs, bs, rfl, _⟩ := h
    rfl
  obtain ⟨a, b, p, ws, us, qs, bs, rfl, hp, ha, hpt, hql, hqo, hb, hpb, hbl, hbo, q⟩ := h
  have p5 := pos9 hp
  have wl : ws.length = qs.length := Paired.length hpt
  refine ⟨_, (pss_cons (ps_set (i := 3) sc_law_bad.nd rfl (Or.inl rfl) (pe_lst pa_nil))
    (pss_cons (ps_for PassesOwn.never rfl (pi_list (pv 1)) (pg_tup rfl (pgs_cons (pg_name (i := 4) sc_law_bad.nd rfl (Or.inl rfl)) (pgs_cons (pg_name (i := 5) sc_law_bad.nd rfl (Or.inl rfl)) pgs_nil)))
      (pss_one (ps_if (PW.pt (pw_and (pt_cmpR (op_notInD (hr.units)) (pe_tup (pa_cons (pv 4) (pa_cons (pv 5) pa_nil))) (pv 2) rfl) (pw_and1 (pt_cmpR op_ne (pe_callO O_law_at hr rfl (pa_cons (pv 0) (pa_cons (pv 2) (pa_cons (pv 4) pa_nil)))) (pv 5) (nomark _)))))
      (pss_one (ps_expr (pe_bm PySem.F.plainAttrs_list PySem.F.slot_list_append PySem.F.type_list_append mt_append (pv 3) (pa_cons (pv 4) pa_nil))))
      pss_nil)))
    (pss_one (ps_ret (pv 3))))), ?_⟩
  refine ⟨(by show 0 ≤ sizeLine; decide), fun l hl => ?_⟩
  have s1 := same_new hl (.lst [])
  refine ⟨_, rfl, a, rfl, ⟨_, SqL.of (s1 _ _ ha)⟩, for_list (K := K) (a := a) (xs := ws) (fun i σ H2 => Same H H2 ∧ H2 l = some (.lst ((badL p (qs.take i) bs).map V.int)) ∧ ∃ v4 v5 : Option V, σ = [some (.int p), some (.ref a), some (.ref b), some (.ref l), v4, v5]) ?_ ?_ ?_ ?_⟩
  · exact ⟨s1, upd_same, none, none, rfl⟩
  · rintro i σ H2 _ ⟨s2, _⟩
    exact SqL.of (s2 _ _ ha)
  · rintro i y σ H2 hy ⟨s2, hl2, v4, v5, rfl⟩
    obtain ⟨c, z, rfl, hz, hqz⟩ := (hpt.same s2).get hy
    have zb := hqo z (List.mem_of_getElem? hqz)
    have bt := bad_take (p := p) (base := bs) hqz
    have bl : (badL p (qs.take i) bs).length ≤ 10 := by
      have := bad_len (p := p) (pts := qs.take i) (base := bs)
      rw [List.length_take] at this
      omega
    refine ⟨c, _, rfl, SqT.of hz, rfl, _, _, rfl, _, _, rfl, rfl, ?_⟩
    refine ⟨_, rfl, _, rfl, (by show 2 ≤ sizeLine; decide), fun d hd => ?_⟩
    have s3 := same_new hd (.tup [.int z.1, .int z.2])
    have hd3 : (upd H2 d (.tup [.int z.1, .int z.2])) d = some (.tup [.int z.1, .int z.2]) := upd_same
    generalize upd H2 d (.tup [.int z.1, .int z.2]) = H3 at s3 hd3
    have g3 := s2.trans s3
    refine ⟨_, rfl, b, us, bs.map dpt, dpt z, decide (z ∈ bs), rfl, g3 _ _ hb, (hpb.same g3).rep, .tup hd3 (.cons (.int _) (.cons (.int _) .nil)), fun e he => ?_, rfl, ?_, _, rfl, ?_⟩
    · obtain ⟨e', _, rfl⟩ := List.mem_map.mp he
      rfl
    · rw [decide_eq_true_iff, mem_dpt]
    have keep : (!decide (z ∈ bs) && !decide (lagL p bs z.1 = z.2)) = false → badL p (qs.take (i + 1)) bs = badL p (qs.take i) bs := fun e => by
      rw [bt, e]
      simp
    refine ite2 (fun c1 => ?_) (fun c1 => ?_)
    · refine ⟨_, rfl, _, rfl, _, rfl, b, p, z.1, us, bs, rfl, hp, g3 _ _ hb, hpb.same g3, hbl, hbo, zb.1, fun H4 s4 => ⟨_, rfl, rfl, _, rfl, ?_⟩⟩
      have hl4 := s4 _ _ (s3 _ _ hl2)
      refine ite2 (fun c2 => ?_) (fun c2 => ?_)
      · have c2' : ¬ lagL p bs z.1 = z.2 := fun e => by
          rw [e] at c2
          simp at c2
        refine ⟨_, rfl, .inl ⟨rfl, _, SqL.of hl4⟩, _, rfl, l, _, _, rfl, rfl, hl4, by rw [List.length_map]; exact small1000 (by omega), ?_⟩
        refine ⟨same_upd (g3.trans s4) hl, ?_, _, _, rfl⟩
        have c1 : (!decide (z ∈ bs)) = true := c1
        rw [upd_same, bt, c1, decide_eq_false c2', if_pos (show (true && !false) = true from rfl), List.map_append]
        rfl
      · have c2' : lagL p bs z.1 = z.2 := Classical.byContradiction fun e => c2 (by simp [e])
        refine ⟨g3.trans s4, ?_, _, _, rfl⟩
        rw [keep (by rw [decide_eq_true c2']; simp)]
        exact hl4
    · have c1 : ¬ (!decide (z ∈ bs)) = true := c1
      refine iteF ⟨g3, ?_, _, _, rfl⟩
      rw [keep (by rw [Bool.eq_false_iff.mpr c1]; rfl)]
      exact s3 _ _ hl2
  · rintro σ H2 ⟨s2, hl2, v4, v5, rfl⟩
    rw [wl, List.take_length] at hl2
    exact ⟨_, rfl, q l H2 s2 hl hl2⟩
end

section
variable {P : Program} {w : World} {K : PySem.W.Frag} {mg : Str → Option Value} {base : Heap} {C pa : Addr}
theorem sc_law_choices : FnScope ["many", "size", "rows", "turn", "longer", "row", "start", "place"] ["many", "size"] (defScope s_law_choices) := ⟨rfl, rfl, rfl, by decide +kernel, rfl, by decide +kernel, by decide +kernel⟩
theorem ok_chs (F : Src K mg "_law_choices" "_law_choices" s_law_choices ["many", "size"]) (B : Blt mg) : Ok P w K mg base CX0 1 "_law_choices" ["many", "size"] spChs := by
  refine F.ok sc_law_choices (fun vs H Q E h => ?_) (fun f cdv A outer s H vs Q E hr h => ?_)
  · obtain ⟨many, size, rfl, _⟩ := h
    rfl
  obtain ⟨many, size, rfl, hm, hs, q⟩ := h
  refine ⟨_, (pss_cons (ps_set (i := 2) sc_law_choices.nd rfl (Or.inl rfl) (pe_lst (pa_cons (pe_lst pa_nil) pa_nil)))
    (pss_cons (ps_for PassesOwn.never rfl (pi_range1 rfl B.range (pa_cons (pv 1) pa_nil)) (pg_name (i := 3) sc_law_choices.nd rfl (Or.inl rfl))
      (pss_cons (ps_set (i := 4) sc_law_choices.nd rfl (Or.inl rfl) (pe_lst pa_nil))
    (pss_cons (ps_for PassesOwn.never rfl (pi_list (pv 2)) (pg_name (i := 5) sc_law_choices.nd rfl (Or.inl rfl))
      (pss_cons (ps_set (i := 6) sc_law_choices.nd rfl (Or.inl rfl) pe_int)
    (pss_cons (ps_join (ps_if (pt_cmpR op_gt (pe_callB call_len_seq rfl B.len PySem.boot_len (pa_cons (pv 5) pa_nil)) pe_int (nomark _))
      (pss_one (ps_set (i := 6) sc_law_choices.nd rfl (Or.inl rfl) (pe_op op_add (pe_ix ix_list (pv 5) (pe_un un_neg pe_int) (fun _ _ => rfl)) pe_int)))
      pss_nil))
    (pss_one (ps_for PassesOwn.never rfl (pi_range2 rfl B.range (pa_cons (pv 6) (pa_cons (pv 0) pa_nil))) (pg_name (i := 7) sc_law_choices.nd rfl (Or.inl rfl))
      (pss_one (ps_expr (pe_bm PySem.F.plainAttrs_list PySem.F.slot_list_append PySem.F.type_list_append mt_append (pv 4) (pa_cons (pe_op op_cat (pv 5) (pe_lst (pa_cons (pv 7) pa_nil))) pa_nil)))))))))
    (pss_one (ps_set (i := 2) sc_law_choices.nd rfl (Or.inl rfl) (pv 4))))))
    (pss_one (ps_ret (pv 2))))), ?_⟩
  refine ⟨(by show 0 ≤ sizeLine; decide), fun a0 ha0 => ⟨(by show 1 ≤ sizeLine; decide), fun d0 hd0 => ?_⟩⟩
  have s1 := (same_new ha0 (.lst [])).trans (same_new hd0 (.lst [.ref a0]))
  have had : a0 ≠ d0 := ne_of_none (show upd H a0 (.lst []) a0 = some (.lst []) from upd_same) hd0
  refine ⟨_, rfl, _, rfl, by omega, by omega, for_range (fun i σ H2 => i ≤ size ∧ Same H H2 ∧ ∃ (d : Addr) (ws : List V) (rows : List (List Nat)) (v3 v4 v5 v6 v7 : Option V), σ = [some (.int (many : Int)), some (.int (size : Int)), some (.ref d), v3, v4, v5, v6, v7] ∧ H d = none ∧ H2 d = some (.lst ws) ∧ LVAt d H H2 ws (RwV rows) ∧ (∀ r ∈ rows, r.length = i ∧ Rising many r) ∧ rows.length ≤ 11 ^ i) ?_ ?_ ?_⟩
  · refine ⟨Nat.zero_le _, s1, d0, [.ref a0], [[]], none, none, none, none, none, rfl, (same_new ha0 (.lst [])).free hd0, upd_same, .cons ⟨a0, rfl, had, ha0, by rw [upd_ne had, upd_same]; rfl⟩ .nil, fun r hr => ?_, Nat.le_refl _⟩
    have e : r = [] := by simpa using hr
    subst e
    exact ⟨rfl, .nil, fun k hk => nomatch hk⟩
  · rintro i σ H2 hi ⟨_, s2, d, ws, rows, v3, v4, v5, v6, v7, rfl, hdH, hd2, hws, hrows, hrl⟩
    have hi3 : i < 3 := by omega
    have hrl2 : rows.length ≤ 121 := Nat.le_trans hrl (Nat.le_trans (Nat.pow_le_pow_right (by decide) (show i ≤ 2 by omega)) (by decide))
    refine ⟨(by show 0 ≤ sizeLine; decide), fun l hl => ?_⟩
    have s3 := same_new hl (.lst [])
    have hlH : H l = none := s2.free hl
    have hdl : d ≠ l := ne_of_none hd2 hl
    refine ⟨_, rfl, d, rfl, ⟨_, SqL.of (s3 _ _ hd2)⟩, for_list (K := K) (a := d) (xs := ws) (fun j σ H3 => Same H2 H3 ∧ ∃ (us : List V) (done : List (List Nat)) (v5 v6 v7 : Option V), σ = [some (.int (many : Int)), some (.int (size : Int)), some (.ref d), some (.int (0 + (i : Int))), some (.ref l), v5, v6, v7] ∧ H3 l = some (.lst us) ∧ LVAt l H H3 us (RwV done) ∧ (∀ r ∈ done, r.length = i + 1 ∧ Rising many r) ∧ done.length ≤ 11 * j) ?_ ?_ ?_ ?_⟩
    · exact ⟨s3, [], [], _, _, _, rfl, upd_same, .nil, (fun r hr => nomatch hr), Nat.le_refl _⟩
    · rintro j σ H3 _ ⟨g3, _⟩
      exact SqL.of (g3 _ _ hd2)
    · rintro j y σ H3 hy ⟨g3, us, done, v5, v6, v7, rfl, hl3, hus, hdone, hdl3⟩
      obtain ⟨a, c, rfl, _, _, hc, hcr⟩ := (hws.same g3).get hy
      obtain ⟨r, hr, rfl⟩ := rwv_at hcr
      obtain ⟨rl, rr⟩ := hrows r (List.mem_of_getElem? hr)
      have hj : j < 121 := by
        have := (List.getElem?_eq_some_iff.mp hr).1
        omega
      refine ⟨fun σ H4 => H4 = H3 ∧ ∃ st : Nat, st ≤ many ∧ (∀ k ∈ r, k < st) ∧ σ = [some (.int (many : Int)), some (.int (size : Int)), some (.ref d), some (.int (0 + (i : Int))), some (.ref l), some (.ref a), some (.int (st : Int)), v7], ?_, ?_⟩
      · refine ⟨_, rfl, a, _, rfl, .inl (SqL.of hc), _, _, rfl, rfl, _, rfl, ?_⟩
        refine ite2 (fun c1 => ?_) (fun c1 => ?_)
        · have c1' := of_decide_eq_true c1
          have rp : 0 < r.length := by
            rw [List.length_map] at c1'
            omega
          obtain ⟨k, hk⟩ : ∃ k, r[r.length - 1]? = some k := ⟨_, List.getElem?_eq_getElem (show r.length - 1 < r.length by omega)⟩
          have kn := rr.2 k (List.mem_of_getElem? hk)
          refine ⟨_, rfl, _, rfl, a, _, _, .int (k : Int), rfl, rfl, SqL.of hc, at_last rp hk, _, _, rfl, rfl, rfl, k + 1, by omega, rising_last rr.1 hk, ?_⟩
          rw [Int.natCast_add]
          rfl
        · have e : r = [] := by
            cases r with
            | nil => rfl
            | cons u v => exact absurd (by rw [List.length_map, List.length_cons]; exact decide_eq_true (by omega)) c1
          subst e
          exact ⟨rfl, 0, Nat.zero_le _, (fun k hk => nomatch hk), rfl⟩
      rintro σ H4 ⟨rfl, st, hst, hrs, rfl⟩
      refine ⟨_, rfl, _, rfl, _, _, rfl, ⟨by omega, by omega, by omega, by omega⟩, for_range (fun m σ H5 => m ≤ ((many : Int) - st).toNat ∧ Same H2 H5 ∧ ∃ (us : List V) (done : List (List Nat)) (v7 : Option V), σ = [some (.int (many : Int)), some (.int (size : Int)), some (.ref d), some (.int (0 + (i : Int))), some (.ref l), some (.ref a), some (.int (st : Int)), v7] ∧ H5 l = some (.lst us) ∧ LVAt l H H5 us (RwV done) ∧ (∀ r ∈ done, r.length = i + 1 ∧ Rising many r) ∧ done.length ≤ 11 * j + m) ?_ ?_ ?_⟩
      · exact ⟨Nat.zero_le _, g3, us, done, v7, rfl, hl3, hus, hdone, hdl3⟩
      · rintro m σ H5 hm5 ⟨_, g5, us5, done5, v7', rfl, hl5, hus5, hdone5, hdl5⟩
        have ha5 : H5 a = some (.lst (r.map fun k : Nat => V.int (k : Int))) := by
          obtain ⟨a', c', e1, _, _, h1, h2⟩ := (hws.same g5).get hy
          cases e1
          rw [hcr] at h2
          cases h2
          exact h1
        have lw := hus5.len
        rw [rwv_len] at lw
        refine ⟨_, rfl, .inl ⟨rfl, _, SqL.of hl5⟩, _, rfl, _, rfl, (by show 1 ≤ sizeLine; decide), fun e1 he1 => ?_⟩
        have s7 := same_new he1 (.lst [.int ((st : Int) + (m : Int))])
        refine ⟨a, e1, _, _, rfl, rfl, s7 _ _ ha5, upd_same, ?_, fun e2 he2 => ?_⟩
        · refine small ?_
          rw [List.length_map]
          show r.length + 1 ≤ 1000
          omega
        have s8 := s7.trans (same_new he2 (.lst ((r.map fun k : Nat => V.int (k : Int)) ++ [.int ((st : Int) + (m : Int))])))
        have he2l : e2 ≠ l := (ne_of_none (s7 _ _ hl5) he2).symm
        refine ⟨l, _, _, rfl, rfl, s8 _ _ hl5, small10k (by omega), ?_⟩
        refine ⟨by omega, same_upd (g5.trans s8) hl, _, done5 ++ [r ++ [st + m]], _, rfl, upd_same, ?_, fun r' hr' => ?_, ?_⟩
        · rw [rwv_app]
          refine LVAt.upd (LVAt.snoc (hus5.same s8) he2l ((s2.trans (g5.trans s7)).free he2) ?_)
          rw [upd_same, List.map_append, List.map_singleton, Int.natCast_add]
        · rcases List.mem_append.mp hr' with h | h
          · exact hdone5 r' h
          · have e : r' = r ++ [st + m] := by simpa using h
            subst e
            refine ⟨by rw [List.length_append, rl]; rfl, rising_snoc rr (fun k hk => ?_) (by omega)⟩
            have := hrs k hk
            omega
        · rw [List.length_append]
          show done5.length + 1 ≤ _
          omega
      · rintro σ H5 ⟨_, g5, us5, done5, v7', rfl, hl5, hus5, hdone5, hdl5⟩
        exact ⟨g5, us5, done5, _, _, _, rfl, hl5, hus5, hdone5, by omega⟩
    · rintro σ H3 ⟨g3, us, done, v5, v6, v7, rfl, hl3, hus, hdone, hdl3⟩
      refine ⟨_, rfl, by omega, s2.trans g3, l, us, done, _, _, _, _, _, rfl, hlH, hl3, hus, hdone, ?_⟩
      have e := hws.len
      rw [rwv_len] at e
      rw [e] at hdl3
      rw [Nat.pow_succ]
      omega
  · rintro σ H2 ⟨_, s2, d, ws, rows, v3, v4, v5, v6, v7, rfl, hdH, hd2, hws, hrows, hrl⟩
    refine ⟨_, rfl, q d H2 ws rows s2 hdH hd2 hws fun r hr => ?_⟩
    obtain ⟨h1, h2⟩ := hrows r hr
    exact ⟨h1, h2⟩
end

section
variable {P : Program} {w : World} {K : PySem.W.Frag} {mg : Str → Option Value} {base : Heap} {C pa : Addr}
theorem sc_law_told_well : FnScope ["table", "points", "found", "let", "base"] ["table", "points", "found", "let"] (defScope s_law_told_well) := ⟨rfl, rfl, rfl, by decide +kernel, rfl, by decide +kernel, by decide +kernel⟩
theorem ok_told (F : Src K mg "_law_told_well" "_law_told_well" s_law_told_well ["table", "points", "found", "let"]) (B : Blt mg) (T : Tab K C) (O_law_whole : Ok P w K mg base CX0 1 "_law_whole" ["found"] spWholeI) (O_law_at : Ok P w K mg base CX0 1 "_law_at" ["prime", "points", "at"] spAt) (O_law_bad : Ok P w K mg base CX0 2 "_law_bad" ["prime", "points", "base"] spBad) :
    Ok P w K mg base CX0 3 "_law_told_well" ["table", "points", "found", "let"] (spTold C) := by
  refine F.ok sc_law_told_well (fun vs H Q E h => ?_) (fun f cdv A outer s H vs Q E hr h => ?_)
  · obtain ⟨t, a, fo, la, p, n, f, x, wr, ws, qs, li, rfl, _⟩ := h
    rfl
  obtain ⟨t, a, fo, la, p, n, f, x, wr, ws, qs, li, rfl, T1, hp, hf, ha, hpt, hql, hqo, PO, hfo, hla, hm, hn, q⟩ := h
  have p5 := pos9 hp
  have wl : ws.length = qs.length := Paired.length hpt
  obtain ⟨dx, ht⟩ := id T1
  obtain ⟨lw, bsub, bbad, bat⟩ := told_well hp PO hm hn
  refine ⟨_, (pss_cons (ps_if (PW.pt (pw_or (pt_not (pt_val (pe_callB call_isinst rfl B.isinstance PyProof.Rows.boot_isinstance (pa_cons (pv 2) (pa_cons (pe_ty rfl B.tuple PyProof.Rows.boot_tuple) pa_nil))) (fun _ => rfl))) (pw_or (pt_cmpR op_ne (pe_callB call_len_seq rfl B.len PySem.boot_len (pa_cons (pv 2) pa_nil)) pe_int (nomark _)) (pw_or (pt_not (pt_val (pe_callO O_law_whole hr rfl (pa_cons (pe_ix ix_tup (pv 2) pe_int (fun _ _ => rfl)) pa_nil)) (fun _ => rfl))) (pw_or1 (pt_not (pt_val (pe_callB call_isinst rfl B.isinstance PyProof.Rows.boot_isinstance (pa_cons (pe_ix ix_tup (pv 2) pe_int (fun _ _ => rfl)) (pa_cons (pe_ty rfl B.list PyProof.Rows.boot_list) pa_nil))) (fun _ => rfl))))))))
      (pss_one (ps_ret pe_bl))
      pss_nil)
    (pss_cons (ps_if (PW.pt (pw_or (pt_not (pt_val (pe_callB (call_allB rfl) rfl B.all PyProof.Rows.boot_all (pa_cons (pe_comp ["hand"] []  (pi_list (pe_ix ix_tup (pv 2) pe_int (fun _ _ => rfl))) rfl (fun C s0 H0 ex => by exact (pg_name (i := 0) (show List.Nodup [("hand" : Str)] by decide +kernel) rfl (Or.inl rfl))) (fun C s0 H0 ex => by exact pts_nil) (fun C s0 H0 ex => by exact (pe_callO O_law_whole hr rfl (pa_cons (pv 0) pa_nil)))) pa_nil)) (fun _ => rfl))) (pw_or1 (pt_cmpR op_gt (pe_callB call_len_seq rfl B.len PySem.boot_len (pa_cons (pe_ix ix_tup (pv 2) pe_int (fun _ _ => rfl)) pa_nil)) (pv 3) (nomark _)))))
      (pss_one (ps_ret pe_bl))
      pss_nil)
    (pss_cons (ps_set (i := 4) sc_law_told_well.nd rfl (Or.inl rfl) (pe_slice sl_list (pe_comp ["point"] [("found", 2)]  (pi_list (pv 1)) rfl (fun C s0 H0 ex => by exact (pg_name (i := 0) (show List.Nodup [("point" : Str), "found"] by decide +kernel) rfl (Or.inl rfl))) (fun C s0 H0 ex => by exact (pts_one (pt_cmpR (op_notIn_seqK K) (pe_ix (ix_tupK K) (pv 0) pe_int (fun _ _ => rfl)) (pe_ix (ix_tupK K) (pv 1) pe_int (fun _ _ => rfl)) rfl))) (fun C s0 H0 ex => by exact (pv 0))) po_none (po_some (pe_op op_add (pe_fld (pv 0) rfl) pe_int))))
    (pss_one (ps_ret (pe_and (pe_cmpR (op_eqL (hr.units)) (pe_callO O_law_bad hr rfl (pa_cons (pe_fld (pv 0) rfl) (pa_cons (pv 1) (pa_cons (pv 4) pa_nil)))) (pe_ix ix_tup (pv 2) pe_int (fun _ _ => rfl)) (nomark _)) (pe_one (pe_cmpR op_eq (pe_callO O_law_at hr rfl (pa_cons (pe_fld (pv 0) rfl) (pa_cons (pv 4) (pa_cons pe_int pa_nil)))) (pe_ix ix_tup (pv 2) pe_int (fun _ _ => rfl)) (nomark _))))))))), ?_⟩
  refine ⟨_, rfl, _, _, _, _, true, rfl, .tup hfo, rfl, kit_tuple_tuple K, _, rfl, iteF ?_⟩
  refine ⟨_, rfl, fo, _, rfl, .inr (SqT.of hfo), rfl, _, rfl, iteNS rfl ?_⟩
  refine ⟨_, rfl, fo, _, _, .int x, rfl, rfl, SqT.of hfo, rfl, x, rfl, fun H1 s1 => ⟨_, rfl, iteF ?_⟩⟩
  have hfo1 := s1 _ _ hfo
  have hla1 := s1 _ _ hla
  refine ⟨_, rfl, fo, _, _, .ref la, rfl, rfl, SqT.of hfo1, rfl, _, _, _, _, true, rfl, .lst hla1, rfl, kit_list_list K, _, rfl, iteF ?_⟩
  -- the liars are whole numbers, and no more than may be
  refine ⟨_, rfl, fo, _, _, .ref la, rfl, rfl, SqT.of hfo1, rfl, la, rfl, ⟨_, SqL.of hla1⟩, fun D hD => ?_⟩
  refine comp_list (K := K) (a := la) (xs := li.map V.int) (fun i ys H2 => i ≤ li.length ∧ ys = (List.replicate i true).map V.bl ∧ Same H1 H2) ⟨Nat.zero_le _, rfl, same_upd (Same.refl _) hD⟩ ?_ ?_ ?_
  · rintro i ys H2 _ ⟨_, _, s2⟩
    exact SqL.of (s2 _ _ hla1)
  · rintro i y ys H2 hy ⟨hi, rfl, s2⟩ hD2
    obtain ⟨v, rfl, hv⟩ := map_int_at hy
    have hi' : i < li.length := (List.getElem?_eq_some_iff.mp hv).1
    refine ⟨⟨rfl, rfl⟩, ?_⟩
    refine ⟨_, rfl, v, rfl, fun H3 s3 => ⟨s3 _ _ hD2, ?_, hi', ?_, same_upd (s2.trans s3) hD⟩⟩
    · rw [List.length_map, List.length_replicate]
      exact small1000 (by omega)
    · rw [List.replicate_succ', List.map_append]
      rfl
  rintro ys H2 ⟨_, rfl, s2⟩ hD2
  refine ⟨D, _, rfl, SqL.of hD2, _, rfl, ?_⟩
  rw [show (List.replicate (li.map V.int).length true).all id = true from by simp]
  refine iteF ?_
  have g2 := s1.trans s2
  have hfo2 := g2 _ _ hfo
  have hla2 := g2 _ _ hla
  refine ⟨_, rfl, fo, _, _, .ref la, rfl, rfl, SqT.of hfo2, rfl, la, _, rfl, .inl (SqL.of hla2), _, rfl, _, _, rfl, rfl, _, rfl, ?_⟩
  refine ite2 (fun c1 => ?_) (fun _ => ?_)
  · have c1' := of_decide_eq_true c1
    rw [List.length_map] at c1'
    exfalso
    omega
  -- the points that don't lie
  refine ⟨_, rfl, a, rfl, ⟨_, SqL.of (g2 _ _ ha)⟩, fun D2 hD2' => ?_⟩
  refine comp_list (K := K) (a := a) (xs := ws) (fun i ys H3 => PtsAt H3 ys (keptL li (qs.take i)) ∧ Same H2 H3) ⟨.nil, same_upd (Same.refl _) hD2'⟩ ?_ ?_ ?_
  · rintro i ys H3 _ ⟨_, s3⟩
    exact SqL.of (s3 _ _ (g2 _ _ ha))
  · rintro i y ys H3 hy ⟨hys, s3⟩ hD3
    obtain ⟨c, z, rfl, hz, hqz⟩ := (hpt.same (g2.trans s3)).get hy
    have kt := kept_take (li := li) hqz
    have yl : ys.length ≤ 10 := by
      rw [Paired.length hys]
      have := List.length_filter_le (fun q : Int × Int => !decide (q.1 ∈ li)) (qs.take i)
      rw [List.length_take] at this
      unfold keptL
      omega
    refine ⟨⟨rfl, rfl⟩, ?_⟩
    refine ⟨_, rfl, c, _, _, .int z.1, rfl, rfl, SqT.of hz, rfl, _, rfl, fo, _, _, .ref la, rfl, rfl, SqT.of (s3 _ _ hfo2), rfl, la, _, rfl, .inl (SqL.of (s3 _ _ hla2)), rfl, flat_ints li, _, rfl, ?_⟩
    refine ite2 (fun c1 => ?_) (fun c1 => ?_)
    · have c1 : (!inV (.int z.1) (li.map V.int)) = true := c1
      rw [inV_ints] at c1
      refine ⟨_, rfl, hD3, small1000 (by omega), ?_, same_upd s3 hD2'⟩
      rw [kt, if_pos c1]
      exact PtsAt.upd hD3 (PtsAt.snoc hys hz)
    · have c1 : ¬ (!inV (.int z.1) (li.map V.int)) = true := c1
      rw [inV_ints] at c1
      refine ⟨hD3, ?_, s3⟩
      rw [kt, if_neg c1, List.append_nil]
      exact hys
  rintro ys H3 ⟨hys, s3⟩ hD3
  rw [wl, List.take_length] at hys
  have g3 := g2.trans s3
  refine ⟨_, rfl, t, C, dx, _, _, rfl, g3 _ _ ht, T.cl, T.nF, tf_f _ _ _, _, _, rfl, rfl, f + 1, rfl, D2, _, rfl, SqL.of hD3, fun o ho => ?_⟩
  rw [show f + 1 = ((f.toNat + 1 : Nat) : Int) by omega, cut_to]
  have hyt := PtsAt.takeN (f.toNat + 1) hys
  have s4 := same_new ho (.lst (ys.take (f.toNat + 1)))
  have ho4 : (upd H3 o (.lst (ys.take (f.toNat + 1)))) o = some (.lst (ys.take (f.toNat + 1))) := upd_same
  generalize upd H3 o (.lst (ys.take (f.toNat + 1))) = H4 at s4 ho4
  have g4 := g3.trans s4
  have hyt := hyt.same s4
  generalize hbs : (keptL li qs).take (f.toNat + 1) = bs at hyt bsub bbad bat
  have bl : bs.length ≤ 10 := Nat.le_trans bsub.length_le hql
  have bo : BaseOk p bs := fun z hz => hqo z (bsub.subset hz)
  refine ⟨_, rfl, t, C, dx, _, _, rfl, g4 _ _ ht, T.cl, T.nP, tf_p _ _ _, _, rfl, _, rfl, a, o, p, ws, _, qs, bs, rfl, hp, g4 _ _ ha, hpt.same g4, hql, hqo, ho4, hyt, bl, bo, fun l H5 s5 hl0 hl5 => ?_⟩
  have g5 := g4.trans s5
  refine ⟨_, rfl, fo, _, _, .ref la, rfl, rfl, SqT.of (g5 _ _ hfo), rfl, l, la, badL p qs bs, li, rfl, rfl, SqL.of hl5, SqL.of (g5 _ _ hla), _, rfl, ?_⟩
  rw [decide_eq_true bbad]
  refine iteT ?_
  refine ⟨_, rfl, t, C, dx, _, _, rfl, g5 _ _ ht, T.cl, T.nP, tf_p _ _ _, _, rfl, o, p, 0, _, bs, rfl, hp, s5 _ _ ho4, hyt.same s5, bl, bo, ⟨by decide, by decide⟩, fun H6 s6 => ?_⟩
  refine ⟨_, rfl, fo, _, _, .int x, rfl, rfl, SqT.of (s6 _ _ (g5 _ _ hfo)), rfl, rfl, ?_⟩
  rw [bat, decide_eq_true (p := V.int x = V.int x) rfl]
  exact q H6 (g5.trans s6)
theorem sc_law_none : FnScope ["table", "points", "let", "choice"] ["table", "points", "let"] (defScope s_law_none) := ⟨rfl, rfl, rfl, by decide +kernel, rfl, by decide +kernel, by decide +kernel⟩
theorem ok_none (F : Src K mg "_law_none" "_law_none" s_law_none ["table", "points", "let"]) (B : Blt mg) (T : Tab K C) (O_law_choices : Ok P w K mg base CX0 1 "_law_choices" ["many", "size"] spChs) (O_law_bad : Ok P w K mg base CX0 2 "_law_bad" ["prime", "points", "base"] spBad) :
    Ok P w K mg base CX0 3 "_law_none" ["table", "points", "let"] (spNone C) := by
  refine F.ok sc_law_none (fun vs H Q E h => ?_) (fun f cdv A outer s H vs Q E hr h => ?_)
  · obtain ⟨t, a, p, n, f, wr, ws, qs, rfl, _⟩ := h
    rfl
  obtain ⟨t, a, p, n, f, wr, ws, qs, rfl, T1, hp, hf, ha, hpt, hql, hqo, PO, hm, q⟩ := h
  have p5 := pos9 hp
  have wl : ws.length = qs.length := Paired.length hpt
  obtain ⟨dx, ht⟩ := id T1
  refine ⟨_, (pss_cons (ps_for PassesOwn.never rfl (pi_list (pe_callO O_law_choices hr rfl (pa_cons (pe_callB call_len_seq rfl B.len PySem.boot_len (pa_cons (pv 1) pa_nil)) (pa_cons (pe_op op_add (pe_fld (pv 0) rfl) pe_int) pa_nil)))) (pg_name (i := 3) sc_law_none.nd rfl (Or.inl rfl))
      (pss_one (ps_if (pt_cmpR op_le (pe_callB call_len_seq rfl B.len PySem.boot_len (pa_cons (pe_callO O_law_bad hr rfl (pa_cons (pe_fld (pv 0) rfl) (pa_cons (pv 1) (pa_cons (pe_comp ["k"] [("points", 1)]  (pi_list (pv 3)) rfl (fun C s0 H0 ex => by exact (pg_name (i := 0) (show List.Nodup [("k" : Str), "points"] by decide +kernel) rfl (Or.inl rfl))) (fun C s0 H0 ex => by exact pts_nil) (fun C s0 H0 ex => by exact (pe_ix (ix_listK K) (pv 1) (pv 0) (fun _ _ => rfl)))) pa_nil)))) pa_nil)) (pv 2) (nomark _))
      (pss_one (ps_ret pe_bl))
      pss_nil)))
    (pss_one (ps_ret pe_bl))), ?_⟩
  refine ⟨_, rfl, a, _, rfl, .inl (SqL.of ha), _, rfl, t, C, dx, _, _, rfl, ht, T.cl, T.nF, tf_f _ _ _, _, _, rfl, rfl, ws.length, f.toNat + 1, ?_, by omega, by omega, fun d H1 us rows s1 hd0 hd1 hus hrows => ?_⟩
  · show [V.int _, V.int (f + 1)] = _
    rw [show f + 1 = ((f.toNat + 1 : Nat) : Int) by omega]
  refine ⟨d, rfl, ⟨_, SqL.of hd1⟩, for_list (K := K) (a := d) (xs := us) (fun i σ H2 => Same H1 H2 ∧ ∃ v3 : Option V, σ = [some (.ref t), some (.ref a), some (.int (wr : Int)), v3]) ⟨Same.refl _, none, rfl⟩ ?_ ?_ ?_⟩
  · rintro i σ H2 _ ⟨s2, _⟩
    exact SqL.of (s2 _ _ hd1)
  · rintro i y σ H2 hy ⟨s2, v3, rfl⟩
    obtain ⟨b, c, rfl, _, _, hb, hc⟩ := (hus.same s2).get hy
    obtain ⟨r, hr', rfl⟩ := rwv_at hc
    obtain ⟨rl, rr⟩ := hrows r (List.mem_of_getElem? hr')
    have g2 := s1.trans s2
    have ha2 := g2 _ _ ha
    refine ⟨_, rfl, t, C, dx, _, _, rfl, g2 _ _ ht, T.cl, T.nP, tf_p _ _ _, _, rfl, _, rfl, b, rfl, ⟨_, SqL.of hb⟩, fun D hD => ?_⟩
    refine comp_list (K := K) (a := b) (xs := r.map fun k : Nat => V.int (k : Int)) (fun j ys H3 => j ≤ r.length ∧ PtsAt H3 ys ((r.take j).map fun k => qs.getD k default) ∧ Same H2 H3) ⟨Nat.zero_le _, .nil, same_upd (Same.refl _) hD⟩ ?_ ?_ ?_
    · rintro j ys H3 _ ⟨_, _, s3⟩
      exact SqL.of (s3 _ _ hb)
    · rintro j y ys H3 hy ⟨_, hys, s3⟩ hD3
      rw [List.getElem?_map] at hy
      obtain ⟨k, hk, rfl⟩ : ∃ k : Nat, r[j]? = some k ∧ y = .int (k : Int) := by
        cases e : r[j]? with
        | none => rw [e] at hy; cases hy
        | some k => rw [e] at hy; exact ⟨k, rfl, (Option.some.inj hy).symm⟩
      have hj : j < r.length := (List.getElem?_eq_some_iff.mp hk).1
      have kn := rr.2 k (List.mem_of_getElem? hk)
      have hwk : ws[k]? = some ws[k] := List.getElem?_eq_getElem kn
      obtain ⟨e, z, ez, hz, hqz⟩ := (hpt.same (g2.trans s3)).get hwk
      have yl : ys.length ≤ 10 := by
        rw [Paired.length hys, List.length_map, List.length_take]
        omega
      refine ⟨⟨rfl, rfl⟩, ?_⟩
      refine ⟨_, rfl, _, rfl, a, _, _, .ref e, rfl, rfl, SqL.of (s3 _ _ ha2), atI_nat (by rw [← ez]; exact hwk), hD3, small1000 (by omega), hj, ?_, same_upd s3 hD⟩
      rw [← take_snoc hk, List.map_append]
      refine PtsAt.upd hD3 (PtsAt.snoc hys ?_)
      have eg : qs.getD k default = z := by rw [List.getD_eq_getElem?_getD, hqz]; rfl
      show H3 e = some (HO.tup [V.int (qs.getD k default).1, V.int (qs.getD k default).2])
      rw [eg]
      exact hz
    rintro ys H3 ⟨_, hys, s3⟩ hD3
    rw [List.length_map, List.take_length] at hys
    have g3 := g2.trans s3
    have bsub : (r.map fun k => qs.getD k default).Sublist qs := rising_sub r qs 0 rr.1 fun k hk => ⟨Nat.zero_le _, by have := rr.2 k hk; omega⟩
    have bl : (r.map fun k => qs.getD k default).length = f.toNat + 1 := by rw [List.length_map]; exact rl
    generalize (r.map fun k => qs.getD k default) = bs at hys bsub bl
    have bo : BaseOk p bs := fun z hz => hqo z (bsub.subset hz)
    have bad := mended_none hp PO hm bsub bl
    refine ⟨a, D, p, ws, ys, qs, bs, rfl, hp, g3 _ _ ha, hpt.same g3, hql, hqo, hD3, hys, by omega, bo, fun l H4 s4 hl0 hl4 => ?_⟩
    refine ⟨l, _, rfl, .inl (SqL.of hl4), _, rfl, _, _, rfl, rfl, _, rfl, ?_⟩
    refine ite2 (fun c1 => ?_) (fun _ => ⟨s2.trans (s3.trans s4), _, rfl⟩)
    have c1' := of_decide_eq_true c1
    rw [List.length_map] at c1'
    exact absurd (by omega) bad
  · rintro σ H2 ⟨s2, v3, rfl⟩
    exact q H2 (s1.trans s2)
end

section
variable {P : Program} {w : World} {K : PySem.W.Frag} {mg : Str → Option Value} {base : Heap} {C pa : Addr}
theorem ok_mendedU {cT : Addr} {bmT : List Value} (F : Src K mg "mended" "mended" s_mended ["table", "shares", "wrong"]) (B : Blt mg) (T : Tab K C) (E_TooFew : Exc K mg "TooFew" cT bmT) (O_that_came : Ok P w K mg base CX0 1 "that_came" ["table", "shares"] (spCame C)) (O_choices : Ok P w K mg base CX0 5 "choices" ["things", "size"] (spChoicesLt 4))
    (O_through : Ok P w K mg base CX0 2 "through" ["table", "points"] (spThrough C)) (O_worth : Ok P w K mg base CX0 1 "worth" ["table", "row", "at"] (spWorth K C)) : Ok P w K mg base (CXE P w) 6 "mended" ["table", "shares", "wrong"] (spMendedU C cT) := by
  refine F.okE sc_mended (fun vs H Q E h => ?_) (fun f cdv A outer s H vs Q E hr h => ?_)
  · obtain ⟨t, r, p, n, f, wr, os, rfl, _⟩ := h
    rfl
  obtain ⟨t, r, p, n, f, wr, os, rfl, T1, hp, hn0, hn1, hnp, hf, hw, hr0, hol, hyb, qE, q⟩ := h
  have p5 := pos9 hp
  obtain ⟨dx, ht⟩ := id T1
  refine ⟨_, (pss_cons (ps_set (i := 3) sc_mended.nd rfl (Or.inl rfl) (pe_callO O_that_came hr rfl (pa_cons (pv 0) (pa_cons (pv 1) pa_nil))))
    (pss_cons (ps_if (pt_cmpR op_lt (pe_callB call_len_seq rfl B.len PySem.boot_len (pa_cons (pv 3) pa_nil)) (pe_op op_add (pe_op op_add (pe_fld (pv 0) rfl) pe_int) (pe_op op_mul pe_int (pv 2))) (nomark _))
      (pss_one (ps_raise E_TooFew rfl pe_str))
      pss_nil)
    (pss_cons (PS.nox (ps_for PassesOwn.never rfl (pi_list (pe_callO O_choices hr rfl (pa_cons (pv 3) (pa_cons (pe_op op_add (pe_fld (pv 0) rfl) pe_int) pa_nil)))) (pg_name (i := 4) sc_mended.nd rfl (Or.inl rfl))
      (pss_cons (ps_set (i := 5) sc_mended.nd rfl (Or.inr rfl) (pe_callO O_through hr rfl (pa_cons (pv 0) (pa_cons (pv 4) pa_nil))))
    (pss_cons (ps_setComp 6 ["hand", "share"] [("table", 0), ("row", 5)] sc_mended.nd  (pi_list (pv 3)) rfl (fun C s0 H0 ex => by exact (pg_tupK K 2 rfl (pgs_cons (pg_name (i := 0) (show List.Nodup [("hand" : Str), "share", "table", "row"] by decide +kernel) rfl (Or.inl rfl)) (pgs_cons (pg_name (i := 1) (show List.Nodup [("hand" : Str), "share", "table", "row"] by decide +kernel) rfl (Or.inl rfl)) pgs_nil)))) (fun C s0 H0 ex => by exact (pts_one (pt_cmpR op_ne (pe_callO O_worth hr rfl (pa_cons (pv 2) (pa_cons (pv 3) (pa_cons (pv 0) pa_nil)))) (pv 1) (nomark _)))) (fun C s0 H0 ex => by exact (pv 0)))
    (pss_one (ps_if (pt_cmpR op_le (pe_callB call_len_seq rfl B.len PySem.boot_len (pa_cons (pv 6) pa_nil)) (pv 2) (nomark _))
      (pss_one (ps_ret (pe_tup (pa_cons (pe_ix ix_list (pv 5) pe_int (fun _ _ => rfl)) (pa_cons (pv 6) pa_nil)))))
      pss_nil))))))
    (pss_one (ps_ret pe_non))))), ?_⟩
  refine ⟨_, rfl, _, rfl, t, r, p, n, f, os, rfl, T1, hn0, hn1, hr0, hol, fun d H1 ws s1 hd0 hd1 hpt => ?_⟩
  have PO := came_ok (p := p) (os := os) (by omega) hyb
  have ql : (cameP 1 os).length ≤ 10 := by have := came_len 1 os; omega
  generalize cameP 1 os = qs at hpt PO ql qE q
  have wl : ws.length = qs.length := Paired.length hpt
  refine ⟨_, rfl, d, _, rfl, .inl (SqL.of hd1), _, rfl, t, C, dx, _, _, rfl, s1 _ _ ht, T.cl, T.nF, tf_f _ _ _, _, _, rfl, rfl, _, rfl, _, _, rfl, rfl, .inl ⟨by decide, by decide⟩, _, _, rfl, rfl, _, _, rfl, rfl, _, rfl, ?_⟩
  refine ite2 (fun c => ?_) (fun c => ?_)
  · have c' := of_decide_eq_true c
    exact ⟨by decide, qE (by omega) H1 s1⟩
  have hlen : f.toNat + 1 + 2 * wr ≤ qs.length := by
    have c' := of_decide_eq_false (Bool.eq_false_iff.mpr c)
    omega
  have q := q hlen
  clear qE
  have ek : f + 1 = ((f.toNat + 1 : Nat) : Int) := by omega
  refine ⟨_, rfl, _, rfl, t, C, dx, _, _, rfl, s1 _ _ ht, T.cl, T.nF, tf_f _ _ _, _, _, rfl, rfl, d, f.toNat + 1, ws, ?_, by omega, by omega, hd1, by omega, fun d2 H2 us s2 hd20 hd22 hus => ?_⟩
  · show [V.ref d, V.int (f + 1)] = _
    rw [ek]
  have pc := PtsAt.of_choice (f.toNat + 1) (hpt.same s2)
  refine ⟨d2, rfl, ⟨_, SqL.of hd22⟩, for_list (K := K) (a := d2) (xs := us) (fun i σ H3 => Same H2 H3 ∧ (∃ v4 v5 v6 : Option V, σ = [some (.ref t), some (.ref r), some (.int (wr : Int)), some (.ref d), v4, v5, v6]) ∧
    mendedL p f.toNat qs wr = ((choicesL (f.toNat + 1) qs).drop i).findSome? fun c => if (liarsL p (throughL p c) qs).length ≤ wr then some ((throughL p c).headD 0, liarsL p (throughL p c) qs) else none) ?_ ?_ ?_ ?_⟩
  · exact ⟨Same.refl _, ⟨none, none, none, rfl⟩, by rw [List.drop_zero]; rfl⟩
  · rintro i σ H3 _ ⟨s3, _⟩
    exact SqL.of (s3 _ _ hd22)
  · rintro i x σ H3 hx ⟨s3, ⟨v4, v5, v6, rfl⟩, hm⟩
    obtain ⟨b, cw, rfl, _, _, hb, hcw⟩ := hus.get hx
    obtain ⟨cq, hcq, hcp⟩ := paired_get pc hcw
    obtain ⟨csub, clen⟩ := choices_sub _ _ cq (List.mem_of_getElem? hcq)
    have cnd := Nodup.sub_map csub PO.nd
    have g3 := s1.trans (s2.trans s3)
    refine ⟨_, rfl, _, rfl, t, b, p, n, f, cw, cq, rfl, T1.same g3, hp, s3 _ _ hb, hcp.same s3, by omega, cnd, fun rr H4 s4 hrr0 hrr4 => ?_⟩
    obtain ⟨t1, t2, t3⟩ := through_facts hp cnd
    rw [drop_at hcq, List.findSome?_cons] at hm
    generalize throughL p cq = row at hrr4 t1 t2 t3 hm
    have g4 := g3.trans s4
    have hd4 := s4 _ _ (s3 _ _ (s2 _ _ hd1))
    have hpt4 := ((hpt.same s2).same s3).same s4
    refine ⟨_, rfl, d, rfl, ⟨_, SqL.of hd4⟩, fun D hD => ?_⟩
    refine comp_list (K := K) (a := d) (xs := ws) (fun i ys H5 => ys = (liarsL p row (qs.take i)).map V.int ∧ Same H4 H5) ⟨rfl, same_upd (Same.refl _) hD⟩ ?_ ?_ ?_
    · rintro i ys H5 _ ⟨_, s5⟩
      exact SqL.of (s5 _ _ hd4)
    · rintro i x ys H5 hx ⟨rfl, s5⟩ hD5
      obtain ⟨a, z, rfl, hz, hqz⟩ := (hpt4.same s5).get hx
      have ll : (liarsL p row (qs.take i)).length ≤ 10 := by
        unfold liarsL
        rw [List.length_map]
        have := List.length_filter_le (fun q : Int × Int => !decide (worthL p row q.1 = q.2)) (qs.take i)
        rw [List.length_take] at this
        omega
      refine ⟨a, _, rfl, SqT.of hz, rfl, _, _, rfl, _, _, rfl, rfl, ⟨rfl, rfl⟩, ?_⟩
      refine ⟨_, rfl, _, rfl, _, rfl, t, rr, p, n, f, _, row, rfl, T1.same (g4.trans s5), by omega, p5.2, SqL.of (s5 _ _ hrr4), fun H6 s6 => ⟨_, rfl, rfl, _, rfl, ?_⟩⟩
      have et : liarsL p row (qs.take (i + 1)) = liarsL p row (qs.take i) ++ (if worthL p row z.1 = z.2 then [] else [z.1]) := by
        unfold liarsL
        rw [← take_snoc hqz, List.filter_append, List.map_append]
        congr 1
        by_cases e : worthL p row z.1 = z.2 <;> simp [e]
      refine ite2 (fun c => ?_) (fun c => ?_)
      · have c' : ¬ worthL p row z.1 = z.2 := fun e => by
          rw [e] at c
          simp at c
        refine ⟨_, rfl, s6 _ _ hD5, by rw [List.length_map]; exact small1000 (by omega), ?_, same_upd (s5.trans s6) hD⟩
        rw [et, if_neg c', List.map_append]
        rfl
      · have c' : worthL p row z.1 = z.2 := Classical.byContradiction fun e => c (by simp [e])
        refine ⟨s6 _ _ hD5, ?_, s5.trans s6⟩
        rw [et, if_pos c', List.append_nil]
    rintro ys H5 ⟨rfl, s5⟩ hD5
    rw [wl, List.take_length] at hD5
    generalize liarsL p row qs = li at hD5 hm
    have hrr5 := s5 _ _ hrr4
    refine ⟨_, rfl, D, _, rfl, .inl (SqL.of hD5), _, rfl, _, _, rfl, rfl, _, rfl, ?_⟩
    refine ite2 (fun c => ?_) (fun c => ?_)
    · have c' := of_decide_eq_true c
      rw [List.length_map] at c'
      rw [if_pos (show li.length ≤ wr by omega)] at hm
      rw [hm] at q
      have q : NewPair H Q (row.headD 0) li := q
      have r0 : 0 < row.length := by omega
      refine ⟨_, rfl, rr, _, _, .int (row.headD 0), rfl, rfl, SqL.of hrr5, ?_, _, rfl, (by show 2 ≤ sizeLine; decide), fun tp htp => ?_⟩
      · refine atI_nat (j := 0) ?_
        cases row with
        | nil => simp at r0
        | cons u v => rfl
      · have g5 := g4.trans s5
        have s6 := same_new htp (.tup [.int (row.headD 0), .ref D])
        exact q tp D _ (g5.trans s6) (g5.free htp) (g4.free hD) upd_same (s6 _ _ hD5)
    · have c' := of_decide_eq_false (Bool.eq_false_iff.mpr c)
      rw [List.length_map] at c'
      rw [if_neg (show ¬ li.length ≤ wr by omega)] at hm
      exact ⟨s3.trans (s4.trans s5), ⟨_, _, _, rfl⟩, hm⟩
  · rintro σ H3 ⟨s3, ⟨v4, v5, v6, rfl⟩, hm⟩
    have e : us.length = (choicesL (f.toNat + 1) qs).length := by rw [hus.len]; exact Paired.length pc
    rw [e, List.drop_length] at hm
    rw [hm] at q
    exact q H3 (s1.trans (s2.trans s3))
end

section
variable {P : Program} {w : World} {K : PySem.W.Frag} {mg : Str → Option Value} {base : Heap} {C pa : Addr}
theorem sc_law : FnScope ["script", "table", "shares", "row", "k", "place", "let", "points", "short", "found", "e"] ["script"] (defScope s_law) := ⟨rfl, rfl, rfl, by decide +kernel, rfl, by decide +kernel, by decide +kernel⟩
theorem ok_law {e cT cV : Addr} {bmT bmV : List Value} {ed : FuncData} (F : Fun K "law" "law" s_law e ed) (B : Blt mg) (T : Tab K C) (E_TooFew : Exc K mg "TooFew" cT bmT) (E_VeilError : Exc K mg "VeilError" cV bmV) (hin : (Value.ref cT :: bmT).contains (.ref cT) = true) (hkt : PySem.W.kitOne K (.ref cT) (.ref cV) = some true)
    (O_law_table_by : Ok P w K mg base CX0 4 "_law_table_by" ["cell"] (spTableBy C)) (O_law_cell_at : Ok P w K mg base CX0 1 "_law_cell_at" ["script", "k"] (spCell K)) (O_law_numbers : Ok P w K mg base CX0 2 "_law_numbers" ["cell", "many", "prime"] spNumbers) (O_law_mix : Ok P w K mg base CX0 1 "_law_mix" ["cell", "k", "many"] spMix)
    (O_law_worth : Ok P w K mg base CX0 1 "_law_worth" ["prime", "row", "at"] (spLawW K)) (O_mendedE : Ok P w K mg base (CXE P w) 6 "mended" ["table", "shares", "wrong"] (spMendedU C cT)) (O_law_none : Ok P w K mg base CX0 3 "_law_none" ["table", "points", "let"] (spNone C)) (O_law_told_well : Ok P w K mg base CX0 3 "_law_told_well" ["table", "points", "found", "let"] (spTold C)) : FnOk P w K mg base CX0 7 e ed ["script"] (spLaw K) := by
  refine F.ok sc_law (fun vs H Q E h => ?_) (fun cdv A outer s H vs Q E hr h => ?_)
  · obtain ⟨a, ns, rfl, _⟩ := h
    rfl
  obtain ⟨a, ns, rfl, hS, h63, q⟩ := h
  refine ⟨_, (pss_cons (ps_set (i := 1) sc_law.nd rfl (Or.inr rfl) (pe_callO O_law_table_by hr rfl (pa_cons (pe_callO O_law_cell_at hr rfl (pa_cons (pv 0) (pa_cons pe_int pa_nil))) pa_nil)))
    (pss_cons (ps_set (i := 2) sc_law.nd rfl (Or.inl rfl) (pe_callO O_law_numbers hr rfl (pa_cons (pe_callO O_law_cell_at hr rfl (pa_cons (pv 0) (pa_cons pe_int pa_nil))) (pa_cons (pe_fld (pv 1) rfl) (pa_cons (pe_fld (pv 1) rfl) pa_nil)))))
    (pss_cons (ps_join (ps_if (pt_cmpR op_eq (pe_op op_mod (pe_callO O_law_cell_at hr rfl (pa_cons (pv 0) (pa_cons pe_int pa_nil))) pe_int) pe_int (nomark _))
      (pss_cons (ps_set (i := 3) sc_law.nd rfl (Or.inr rfl) (pe_slice sl_list (pv 2) po_none (po_some (pe_op op_add (pe_fld (pv 1) rfl) pe_int))))
    (pss_cons (ps_setComp 2 ["hand"] [("row", 3), ("table", 1)] sc_law.nd  (pi_range2 rfl B.range (pa_cons pe_int (pa_cons (pe_op op_add (pe_fld (pv 1) rfl) pe_int) pa_nil))) rfl (fun C s0 H0 ex => by exact (pg_name (i := 0) (show List.Nodup [("hand" : Str), "row", "table"] by decide +kernel) rfl (Or.inl rfl))) (fun C s0 H0 ex => by exact pts_nil) (fun C s0 H0 ex => by exact (pe_callO O_law_worth hr rfl (pa_cons (pe_fldK K (pv 2) rfl) (pa_cons (pv 1) (pa_cons (pv 0) pa_nil))))))
    (pss_one (PS.nox (ps_for PassesOwn.never rfl (pi_range1 rfl B.range (pa_cons (pe_op op_mod (pe_op op_fdiv (pe_callO O_law_cell_at hr rfl (pa_cons (pv 0) (pa_cons pe_int pa_nil))) pe_int) pe_int) pa_nil)) (pg_name (i := 4) sc_law.nd rfl (Or.inl rfl))
      (pss_cons (ps_set (i := 5) sc_law.nd rfl (Or.inl rfl) (pe_callO O_law_mix hr rfl (pa_cons (pe_callO O_law_cell_at hr rfl (pa_cons (pv 0) (pa_cons pe_int pa_nil))) (pa_cons (pv 4) (pa_cons (pe_fld (pv 1) rfl) pa_nil)))))
    (pss_one (ps_asg (pe_callO O_law_mix hr rfl (pa_cons (pe_callO O_law_cell_at hr rfl (pa_cons (pv 0) (pa_cons pe_int pa_nil))) (pa_cons (pv 4) (pa_cons (pe_fld (pv 1) rfl) pa_nil)))) (pg_sub (pv 2) (pv 5) set_list)))))))))
      pss_nil))
    (pss_cons (ps_join (ps_if (pt_cmpR op_eq (pe_op op_mod (pe_callO O_law_cell_at hr rfl (pa_cons (pv 0) (pa_cons pe_int pa_nil))) pe_int) pe_int (nomark _))
      (pss_one (ps_asg pe_non (pg_sub (pv 2) (pe_op op_mod (pe_op op_fdiv (pe_callO O_law_cell_at hr rfl (pa_cons (pv 0) (pa_cons pe_int pa_nil))) pe_int) (pe_fld (pv 1) rfl)) set_list)))
      pss_nil))
    (pss_cons (ps_set (i := 6) sc_law.nd rfl (Or.inl rfl) (pe_op op_mod (pe_callO O_law_cell_at hr rfl (pa_cons (pv 0) (pa_cons pe_int pa_nil))) pe_int))
    (pss_cons (ps_setComp 7 ["k", "share"] [] sc_law.nd  (pi_enum rfl B.enumerate (pa_cons (pv 2) pa_nil)) rfl (fun C s0 H0 ex => by exact (pg_tupK K 2 rfl (pgs_cons (pg_name (i := 0) (show List.Nodup [("k" : Str), "share"] by decide +kernel) rfl (Or.inl rfl)) (pgs_cons (pg_name (i := 1) (show List.Nodup [("k" : Str), "share"] by decide +kernel) rfl (Or.inl rfl)) pgs_nil)))) (fun C s0 H0 ex => by exact (pts_one (pt_cmpR op_notN (pv 1) pe_non (nomark _)))) (fun C s0 H0 ex => by exact (pe_tup (pa_cons (pe_op op_add (pv 0) pe_int) (pa_cons (pv 1) pa_nil)))))
    (pss_cons (ps_set (i := 8) sc_law.nd rfl (Or.inl rfl) (pe_cmpR op_lt (pe_callB call_len_seq rfl B.len PySem.boot_len (pa_cons (pv 7) pa_nil)) (pe_op op_add (pe_op op_add (pe_fld (pv 1) rfl) pe_int) (pe_op op_mul pe_int (pv 6))) (nomark _)))
    (pss_cons (ps_set (i := 9) sc_law.nd rfl (Or.inl rfl) pe_non)
    (pss_cons (ps_try rfl rfl (fun pins E2 Ek sg hc => by exact (pss_one (ps_set (i := 9) sc_law.nd rfl (Or.inl rfl) (pe_callT O_mendedE hr hc rfl (pa_cons (pv 1) (pa_cons (pe_callTy (call_list_ofK K) rfl B.list PyProof.Rows.boot_list (pa_cons (pv 2) pa_nil)) (pa_cons (pv 6) pa_nil))))))) (ph_as E_TooFew rfl sc_law.nd (i := 10) rfl rfl (fun a => by exact (pss_one (ps_ret (pe_and (pv 8) (pe_one (pe_callB (call_isinstXK K) rfl B.isinstance PyProof.Rows.boot_isinstance (pa_cons (pv 10) (pa_cons (pe_glob (v := .ref _) rfl E_VeilError.bound rfl) pa_nil)))))))) ph_nil))
    (pss_cons (ps_if (pt_val (pv 8) (fun _ => rfl))
      (pss_one (ps_ret pe_bl))
      pss_nil)
    (pss_cons (ps_if (pt_cmpR op_isN (pv 9) pe_non (nomark _))
      (pss_one (ps_ret (pe_callO O_law_none hr rfl (pa_cons (pv 1) (pa_cons (pv 7) (pa_cons (pv 6) pa_nil))))))
      pss_nil)
    (pss_one (ps_ret (pe_callO O_law_told_well hr rfl (pa_cons (pv 1) (pa_cons (pv 7) (pa_cons (pv 9) (pa_cons (pv 6) pa_nil)))))))))))))))))), ?_⟩
  refine ⟨_, rfl, a, ns, 0, rfl, hS, Int.le_refl 0, fun H1 s1 => ⟨_, rfl, fun t H2 s2 ht0 T2 => ?_⟩⟩
  generalize hc : cellN ns 0 = c at T2
  have hp := tbP_mem c
  have p0 := tbP_lo c
  have p1 := tbP_hi c
  have n1 := tbN_b c
  have f1 := tbF_b c
  obtain ⟨dx, ht⟩ := id T2
  have sH2 : Same H H2 := s1.trans s2
  refine ⟨_, rfl, a, ns, 1, rfl, sH2.seq hS, by decide, fun H3 s3 => ⟨_, rfl, t, C, dx, _, _, rfl, s3 _ _ ht, T.cl, T.nH, tf_n _ _ _, _, rfl, t, C, dx, _, _, rfl, s3 _ _ ht, T.cl, T.nP, tf_p _ _ _, _, _, _, rfl, by omega, by omega, by omega, fun sh1 H4 s4 hr0 hr4 => ?_⟩⟩
  have Rl : (numsL (cellN ns 1) (tbP c) (tbN c).toNat).length = (tbN c).toNat := by rw [numsL_len]
  have Rb : ∀ v ∈ numsL (cellN ns 1) (tbP c) (tbN c).toNat, 0 ≤ v ∧ v < tbP c := fun v hv => by
    obtain ⟨i, _, rfl⟩ := List.mem_map.mp hv
    exact ⟨mixI_nonneg (by omega), mixI_lt (by omega)⟩
  generalize numsL (cellN ns 1) (tbP c) (tbN c).toNat = R at hr4 Rl Rb
  have g4 := s3.trans s4
  refine ⟨J9 (tbP c) (tbN c) a t H2, ?_, ?_⟩
  · refine ⟨_, rfl, a, ns, 2, rfl, (sH2.trans g4).seq hS, by decide, fun H5 s5 => ⟨_, _, rfl, rfl, (by show (0 : Int) < 2; decide), rfl, _, rfl, ?_⟩⟩
    have g5 := g4.trans s5
    have hr5 := s5 _ _ hr4
    refine ite2 (fun c1 => ?_) (fun c1 => ?_)
    · refine ⟨_, rfl, _, rfl, t, C, dx, _, _, rfl, g5 _ _ ht, T.cl, T.nF, tf_f _ _ _, _, _, rfl, rfl, tbF c + 1, rfl, sh1, _, rfl, SqL.of hr5, fun o ho => ?_⟩
      rw [show tbF c + 1 = (((tbF c).toNat + 1 : Nat) : Int) by omega, took]
      have s6 := same_new ho (.lst ((R.take ((tbF c).toNat + 1)).map V.int))
      have ho6 : (upd H5 o (.lst ((R.take ((tbF c).toNat + 1)).map V.int))) o = some (.lst ((R.take ((tbF c).toNat + 1)).map V.int)) := upd_same
      generalize upd H5 o (.lst ((R.take ((tbF c).toNat + 1)).map V.int)) = H6 at s6 ho6
      generalize R.take ((tbF c).toNat + 1) = row at ho6
      have g6 := g5.trans s6
      refine ⟨_, rfl, t, C, dx, _, _, rfl, g6 _ _ ht, T.cl, T.nH, tf_n _ _ _, _, _, rfl, rfl, _, _, rfl, ⟨by decide, by decide, by omega, by omega⟩, fun sh hsh => ?_⟩
      refine comp_range (fun i ys H7 => i ≤ (tbN c).toNat ∧ ys = ((List.range i).map fun k : Nat => worthL (tbP c) row (1 + (k : Int))).map V.int ∧ Same H6 H7) ⟨Nat.zero_le _, rfl, same_upd (Same.refl _) hsh⟩ ?_ ?_
      · rintro i ys H7 hi ⟨_, rfl, s7⟩ hD7
        have hi' : i < (tbN c).toNat := by omega
        refine ⟨⟨rfl, rfl⟩, ?_⟩
        refine ⟨_, rfl, t, C, dx, _, _, rfl, s7 _ _ (g6 _ _ ht), T.cl, T.nP, tf_p _ _ _, _, rfl, _, rfl, o, _, _, row, rfl, by omega, p1, SqL.of (s7 _ _ ho6), fun H8 s8 => ⟨s8 _ _ hD7, ?_, hi', ?_, same_upd (s7.trans s8) hsh⟩⟩
        · rw [List.length_map, List.length_map, List.length_range]
          exact small1000 (by omega)
        · rw [← map_take, List.map_append]
          rfl
      rintro ys H7 ⟨_, rfl, s7⟩ hsh7
      rw [show (tbN c + 1 - 1).toNat = (tbN c).toNat by omega] at hsh7
      have O7 : OsOk (tbP c) (tbN c) (((List.range (tbN c).toNat).map fun k : Nat => worthL (tbP c) row (1 + (k : Int))).map some) := OsOk.ints (by rw [List.length_map, List.length_range]) fun v hv => by
        obtain ⟨k, _, rfl⟩ := List.mem_map.mp hv
        exact worthL_b (by omega) _ _
      rw [← some_sv] at hsh7
      generalize (((List.range (tbN c).toNat).map fun k : Nat => worthL (tbP c) row (1 + (k : Int))).map some) = os0 at hsh7 O7
      have g7 := g6.trans s7
      have sh2 : H2 sh = none := g6.free hsh
      refine ⟨_, rfl, a, ns, 2, rfl, (sH2.trans g7).seq hS, by decide, fun H8 s8 => ⟨_, _, rfl, rfl, ⟨by decide, by decide⟩, _, _, rfl, rfl, (by show (0 : Int) < 4; decide), _, rfl, by omega, by omega, for_range (fun i σ H9 => Same H2 H9 ∧ ∃ (os : List (Option Int)) (v4 v5 : Option V), σ = [some (.ref a), some (.ref t), some (.ref sh), some (.ref o), v4, v5, none, none, none, none, none] ∧ H9 sh = some (.lst (os.map sv)) ∧ OsOk (tbP c) (tbN c) os) ?_ ?_ ?_⟩⟩
      · exact ⟨g7.trans s8, os0, _, _, rfl, s8 _ _ hsh7, O7⟩
      · rintro i σ H9 hi ⟨g9, os, v4, v5, rfl, hsh9, O9⟩
        refine ⟨_, rfl, a, ns, 3, rfl, (sH2.trans g9).seq hS, by decide, fun H10 s10 => ⟨_, rfl, _, rfl, t, C, dx, _, _, rfl, s10 _ _ (g9 _ _ ht), T.cl, T.nH, tf_n _ _ _, _, _, _, rfl, by omega, fun H11 s11 => ?_⟩⟩
        have m0 := mixI_nonneg (c := cellN ns 3) (k := 0 + (i : Int)) (show 0 < tbN c by omega)
        have m1 := mixI_lt (c := cellN ns 3) (k := 0 + (i : Int)) (show 0 < tbN c by omega)
        generalize mixI (cellN ns 3) (0 + (i : Int)) (tbN c) = pl at m0 m1
        have g11 := g9.trans (s10.trans s11)
        refine ⟨_, rfl, a, ns, 4, rfl, (sH2.trans g11).seq hS, by decide, fun H12 s12 => ⟨_, rfl, _, rfl, t, C, dx, _, _, rfl, s12 _ _ (g11 _ _ ht), T.cl, T.nP, tf_p _ _ _, _, _, _, rfl, by omega, fun H13 s13 => ?_⟩⟩
        have y0 := mixI_nonneg (c := cellN ns 4) (k := 0 + (i : Int)) (show 0 < tbP c by omega)
        have y1 := mixI_lt (c := cellN ns 4) (k := 0 + (i : Int)) (show 0 < tbP c by omega)
        generalize mixI (cellN ns 4) (0 + (i : Int)) (tbP c) = yy at y0 y1
        have g13 := g11.trans (s12.trans s13)
        have hsh13 := s13 _ _ (s12 _ _ (s11 _ _ (s10 _ _ hsh9)))
        refine ⟨_, rfl, _, rfl, sh, _, _, pl.toNat, rfl, rfl, hsh13, ?_, ?_⟩
        · rw [List.length_map, O9.len, ix_in m0 (by omega)]
        have es : (os.map sv).set pl.toNat (.int yy) = (os.set pl.toNat (some yy)).map sv := set_sv os pl.toNat (some yy)
        rw [es]
        exact ⟨same_upd g13 sh2, _, _, _, rfl, upd_same, O9.put _ fun y hy => by cases hy; exact ⟨y0, y1⟩⟩
      · rintro σ H9 ⟨g9, os, v4, v5, rfl, hsh9, O9⟩
        exact ⟨sh, os, _, _, _, rfl, g9, sh2, hsh9, O9⟩
    · refine ⟨sh1, R.map some, none, none, none, rfl, g5, s3.free hr0, ?_, OsOk.ints Rl Rb⟩
      rw [some_sv]
      exact hr5
  rintro σ H5 ⟨sh5, os5, v3, v4, v5, rfl, g5, hsh50, hsh5, O5⟩
  clear hr4 Rl Rb g4 s3 s4 hr0
  refine ⟨J9 (tbP c) (tbN c) a t H2, ?_, ?_⟩
  · refine ⟨_, rfl, a, ns, 5, rfl, (sH2.trans g5).seq hS, by decide, fun H6 s6 => ⟨_, _, rfl, rfl, (by show (0 : Int) < 3; decide), rfl, _, rfl, ?_⟩⟩
    refine ite2 (fun c1 => ?_) (fun c1 => ?_)
    · have g6 := g5.trans s6
      refine ⟨_, rfl, _, rfl, a, ns, 5, rfl, (sH2.trans g6).seq hS, by decide, fun H7 s7 => ⟨_, _, rfl, rfl, ⟨by decide, by decide⟩, _, rfl, t, C, dx, _, _, rfl, s7 _ _ (g6 _ _ ht), T.cl, T.nH, tf_n _ _ _, _, _, rfl, rfl, by omega, ?_⟩⟩
      have m0 := Int.emod_nonneg (cellN ns 5 / 3) (show tbN c ≠ 0 by omega)
      have m1 := Int.emod_lt_of_pos (cellN ns 5 / 3) (show 0 < tbN c by omega)
      have hsh7 := s7 _ _ (s6 _ _ hsh5)
      refine ⟨sh5, _, _, (cellN ns 5 / 3 % tbN c).toNat, rfl, rfl, hsh7, ?_, ?_⟩
      · rw [List.length_map, O5.len, ix_in m0 (by omega)]
      have es : (os5.map sv).set (cellN ns 5 / 3 % tbN c).toNat .non = (os5.set (cellN ns 5 / 3 % tbN c).toNat none).map sv := set_sv os5 _ none
      rw [es]
      exact ⟨sh5, _, _, _, _, rfl, same_upd (g6.trans s7) hsh50, hsh50, upd_same, O5.put _ fun y hy => by cases hy⟩
    · exact ⟨sh5, os5, _, _, _, rfl, g5.trans s6, hsh50, s6 _ _ hsh5, O5⟩
  clear hsh5 O5 g5
  rintro σ H6 ⟨sh, os, v3, v4, v5, rfl, g6, hsh0, hsh6, O6⟩
  have ol : os.length = (tbN c).toNat := O6.len
  -- how many may be wrong
  refine ⟨_, rfl, a, ns, 6, rfl, (sH2.trans g6).seq hS, by decide, fun H7 s7 => ⟨_, _, rfl, rfl, (by show (0 : Int) < 4; decide), ?_⟩⟩
  obtain ⟨wr, hwr⟩ : ∃ wr : Nat, (wr : Int) = cellN ns 6 % 4 := ⟨(cellN ns 6 % 4).toNat, by omega⟩
  dsimp only
  rw [← hwr]
  have w3 : wr ≤ 3 := by omega
  have g7 := g6.trans s7
  have hsh7 := s7 _ _ hsh6
  -- the points
  refine ⟨_, rfl, sh, _, rfl, SqL.of hsh7, fun D hD => ?_⟩
  refine comp_enum (K := K) (a := sh) (xs := os.map sv) (k0 := 0) (fun i ys H8 => PtsAt H8 ys (cameP 1 (os.take i)) ∧ Same H7 H8) ⟨.nil, same_upd (Same.refl _) hD⟩ ?_ ?_ ?_
  · rintro i ys H8 ⟨_, s8⟩
    exact SqL.of (s8 _ _ hsh7)
  · rintro i x ys H8 b hx ⟨hpt, s8⟩ hD8 hb
    obtain ⟨oi, rfl, hoi⟩ := sv_at hx
    have hi : i < os.length := (List.getElem?_eq_some_iff.mp hoi).1
    have ct := came_take 1 os i oi hoi
    have s9 := same_new hb (.tup [.int ((0 + i : Nat) : Int), sv oi])
    have lw : ys.length ≤ 10 := by
      rw [Paired.length hpt]
      have := came_len 1 (os.take i)
      rw [List.length_take] at this
      omega
    refine ⟨b, _, rfl, SqT.of upd_same, rfl, _, _, rfl, _, _, rfl, rfl, ⟨rfl, rfl⟩, ?_⟩
    cases oi with
    | none =>
      refine ⟨_, rfl, rfl, _, rfl, ?_⟩
      refine iteF ⟨s9 _ _ hD8, ?_, s8.trans s9⟩
      rw [← ct]
      simpa using hpt.same s9
    | some y =>
      refine ⟨_, rfl, rfl, _, rfl, ?_⟩
      refine iteT ?_
      refine ⟨_, rfl, _, _, rfl, rfl, _, rfl, (by show 2 ≤ sizeLine; decide), fun d hd => ?_⟩
      have s10 := s9.trans (same_new hd (.tup [.int (((0 + i : Nat) : Int) + 1), .int y]))
      refine ⟨s10 _ _ hD8, small1000 (by omega), ?_, same_upd (s8.trans s10) hD⟩
      rw [← ct]
      refine PtsAt.upd (s10 _ _ hD8) (PtsAt.snoc (hpt.same s10) ?_)
      rw [upd_same, show ((0 + i : Nat) : Int) + 1 = 1 + (i : Int) by omega]
  rintro ws H8 ⟨hpt, s8⟩ hD8
  rw [List.length_map, List.take_length] at hpt
  have g8 := g7.trans s8
  have hsh8 := s8 _ _ hsh7
  have PO : PtsOk (tbP c) (cameP 1 os) := came_ok (by omega) O6.b
  have BO : BaseOk (tbP c) (cameP 1 os) := fun z hz => by
    have h1 := came_ge 1 os z hz
    have h2 := PO.yb z hz
    exact ⟨by omega, h2⟩
  have ql : (cameP 1 os).length ≤ 10 := by have := came_len 1 os; omega
  have wl : ws.length = (cameP 1 os).length := Paired.length hpt
  refine ⟨_, rfl, D, _, rfl, .inl (SqL.of hD8), _, rfl, t, C, dx, _, _, rfl, g8 _ _ ht, T.cl, T.nF, tf_f _ _ _, _, _, rfl, rfl, _, rfl, _, _, rfl, rfl, .inl ⟨by decide, by decide⟩, _, _, rfl, rfl, _, _, rfl, rfl, ?_⟩
  obtain ⟨sb, esb⟩ : ∃ sb : Bool, decide (((ws.length : Nat) : Int) < tbF c + 1 + 2 * (wr : Int)) = sb := ⟨_, rfl⟩
  dsimp only
  rw [esb]
  -- what mended says
  refine ⟨rfl, _, rfl, _, rfl, sh, _, rfl, .inl (SqL.of hsh8), fun hd hhd => ?_⟩
  have s9 := same_new hhd (.lst (os.map sv))
  have hhd9 : (upd H8 hd (.lst (os.map sv))) hd = some (.lst (os.map sv)) := upd_same
  generalize upd H8 hd (.lst (os.map sv)) = H9 at s9 hhd9
  have g9 := g8.trans s9
  have hD9 := s9 _ _ hD8
  have hpt9 := hpt.same s9
  generalize hqs : cameP 1 os = qs at hpt9 PO BO ql wl
  refine ⟨_, rfl, t, hd, _, _, _, wr, os, rfl, T2.same g9, hp, by omega, by omega, by omega, f1.1, by omega, hhd9, by omega, O6.b, ?_, ?_⟩
  · rw [hqs]
    intro hs H10 s10
    refine ⟨cT, rfl, fun _ _ => ⟨_, bmT, true, E_TooFew, hin, iteT fun a' ha' => ?_⟩⟩
    refine ⟨_, rfl, _, rfl, ?_⟩
    have e1 : sb = true := by rw [← esb]; exact decide_eq_true (by omega)
    rw [e1]
    refine iteT ?_
    exact ⟨_, rfl, a', cT, _, _, rfl, upd_same, rfl, hkt, q _⟩
  · rw [hqs]
    intro hn
    have e1 : sb = false := by rw [← esb]; exact decide_eq_false (by omega)
    rw [e1]
    cases hm : mendedL (tbP c) (tbF c).toNat qs wr with
    | none =>
      intro H10 s10
      refine ⟨_, rfl, _, rfl, iteF ?_⟩
      refine ⟨_, rfl, rfl, _, rfl, iteT ?_⟩
      exact ⟨_, rfl, _, rfl, _, rfl, t, D, _, _, _, wr, ws, qs, rfl, T2.same (g9.trans s10), hp, f1.1, s10 _ _ hD9, hpt9.same s10, ql, BO, PO, hm, fun H11 s11 => q _⟩
    | some r =>
      obtain ⟨x, li⟩ := r
      intro tp la H10 s10 htp0 hla0 htp hla
      refine ⟨_, rfl, _, rfl, iteF ?_⟩
      refine ⟨_, rfl, rfl, _, rfl, iteF ?_⟩
      exact ⟨_, rfl, _, rfl, _, rfl, _, rfl, t, D, tp, la, _, _, _, x, wr, ws, qs, li, rfl, T2.same (g9.trans s10), hp, f1.1, s10 _ _ hD9, hpt9.same s10, ql, BO, PO, htp, hla, hm, hn, fun H11 s11 => q _⟩
end

/-! ### the top -/
theorem all_mk {l : PySem.W.OpenLaw} {w : World} {K : PySem.W.Frag} {h : Heap} {mg : Str → Option Value} {fa C pa f1 f2 f3 f4 f5 f6 f7 f8 f9 f10 f11 f12 f13 f14 f15 f16 f17 f18 f19 f20 f21 f22 : Addr} (X : K.In h) (G : h.Ns mainGlobals mg) (hfa : mg "law" = some (.ref fa))
    {od1 an1 : Option Addr} {sl1 : Array (Option Value)} {oc1 kV1 dc1 pm1 cd1 ct1 : Value}
    {od2 an2 : Option Addr} {sl2 : Array (Option Value)} {oc2 kV2 dc2 pm2 cd2 ct2 : Value}
    {od3 an3 : Option Addr} {sl3 : Array (Option Value)} {oc3 kV3 dc3 pm3 cd3 ct3 : Value}
    {od4 an4 : Option Addr} {sl4 : Array (Option Value)} {oc4 kV4 dc4 pm4 cd4 ct4 : Value}
    {od5 an5 : Option Addr} {sl5 : Array (Option Value)} {oc5 kV5 dc5 pm5 cd5 ct5 : Value}
    {od6 an6 : Option Addr} {sl6 : Array (Option Value)} {oc6 kV6 dc6 pm6 cd6 ct6 : Value}
    {od7 an7 : Option Addr} {sl7 : Array (Option Value)} {oc7 kV7 dc7 pm7 cd7 ct7 : Value}
    {od8 an8 : Option Addr} {sl8 : Array (Option Value)} {oc8 kV8 dc8 pm8 cd8 ct8 : Value}
    {od9 an9 : Option Addr} {sl9 : Array (Option Value)} {oc9 kV9 dc9 pm9 cd9 ct9 : Value}
    {od10 an10 : Option Addr} {sl10 : Array (Option Value)} {oc10 kV10 dc10 pm10 cd10 ct10 : Value}
    {od11 an11 : Option Addr} {sl11 : Array (Option Value)} {oc11 kV11 dc11 pm11 cd11 ct11 : Value}
    {od12 an12 : Option Addr} {sl12 : Array (Option Value)} {oc12 kV12 dc12 pm12 cd12 ct12 : Value}
    {od13 an13 : Option Addr} {sl13 : Array (Option Value)} {oc13 kV13 dc13 pm13 cd13 ct13 : Value}
    {od14 an14 : Option Addr} {sl14 : Array (Option Value)} {oc14 kV14 dc14 pm14 cd14 ct14 : Value}
    {od15 an15 : Option Addr} {sl15 : Array (Option Value)} {oc15 kV15 dc15 pm15 cd15 ct15 : Value}
    {od16 an16 : Option Addr} {sl16 : Array (Option Value)} {oc16 kV16 dc16 pm16 cd16 ct16 : Value}
    {od17 an17 : Option Addr} {sl17 : Array (Option Value)} {oc17 kV17 dc17 pm17 cd17 ct17 : Value}
    {od18 an18 : Option Addr} {sl18 : Array (Option Value)} {oc18 kV18 dc18 pm18 cd18 ct18 : Value}
    {od19 an19 : Option Addr} {sl19 : Array (Option Value)} {oc19 kV19 dc19 pm19 cd19 ct19 : Value}
    {od20 an20 : Option Addr} {sl20 : Array (Option Value)} {oc20 kV20 dc20 pm20 cd20 ct20 : Value}
    {od21 an21 : Option Addr} {sl21 : Array (Option Value)} {oc21 kV21 dc21 pm21 cd21 ct21 : Value}
    {od22 an22 : Option Addr} {sl22 : Array (Option Value)} {oc22 kV22 dc22 pm22 cd22 ct22 : Value}
    {N_VeilError c_VeilError : Addr} {nm_VeilError q_VeilError : Str} {bs_VeilError bm_VeilError sub_VeilError : List Value} {hd_VeilError ab_VeilError : Bool} {sn_VeilError : List Str} {col_VeilError : Option Bool} {dd_VeilError : Option Addr} {k0_VeilError k1_VeilError k2_VeilError k3_VeilError k5_VeilError : Option Value}
    {N_BadTable c_BadTable : Addr} {nm_BadTable q_BadTable : Str} {bs_BadTable bm_BadTable sub_BadTable : List Value} {hd_BadTable ab_BadTable : Bool} {sn_BadTable : List Str} {col_BadTable : Option Bool} {dd_BadTable : Option Addr} {k0_BadTable k1_BadTable k2_BadTable k3_BadTable k5_BadTable : Option Value}
    {N_Nought c_Nought : Addr} {nm_Nought q_Nought : Str} {bs_Nought bm_Nought sub_Nought : List Value} {hd_Nought ab_Nought : Bool} {sn_Nought : List Str} {col_Nought : Option Bool} {dd_Nought : Option Addr} {k0_Nought k1_Nought k2_Nought k3_Nought k5_Nought : Option Value}
    {N_AlikePoints c_AlikePoints : Addr} {nm_AlikePoints q_AlikePoints : Str} {bs_AlikePoints bm_AlikePoints sub_AlikePoints : List Value} {hd_AlikePoints ab_AlikePoints : Bool} {sn_AlikePoints : List Str} {col_AlikePoints : Option Bool} {dd_AlikePoints : Option Addr} {k0_AlikePoints k1_AlikePoints k2_AlikePoints k3_AlikePoints k5_AlikePoints : Option Value}
    {N_TooFew c_TooFew : Addr} {nm_TooFew q_TooFew : Str} {bs_TooFew bm_TooFew sub_TooFew : List Value} {hd_TooFew ab_TooFew : Bool} {sn_TooFew : List Str} {col_TooFew : Option Bool} {dd_TooFew : Option Addr} {k0_TooFew k1_TooFew k2_TooFew k3_TooFew k5_TooFew : Option Value}
    {ddp : Option Addr} {its : Array Value} {np : Nat} {slp : Array (Option Value)}
    (a1 : PySem.W.nsIn K mainGlobals "is_table" = some (some (.ref f1)))
    (l1 : K.lookup f1 = some ⟨oc1, od1, .func (PySem.W.fnOf "is_table" "is_table" (defArgs s_is_table) (defBody s_is_table) (defScope s_is_table) .none kV1 dc1 pm1 an1 cd1 ct1), sl1⟩) (c1 : PySem.W.codeIn K cd1 "is_table" = true) (k1 : PySem.W.keepIn K (.ref f1) = true)
    (a2 : PySem.W.nsIn K mainGlobals "back" = some (some (.ref f2)))
    (l2 : K.lookup f2 = some ⟨oc2, od2, .func (PySem.W.fnOf "back" "back" (defArgs s_back) (defBody s_back) (defScope s_back) .none kV2 dc2 pm2 an2 cd2 ct2), sl2⟩) (c2 : PySem.W.codeIn K cd2 "back" = true) (k2 : PySem.W.keepIn K (.ref f2) = true)
    (a3 : PySem.W.nsIn K mainGlobals "worth" = some (some (.ref f3)))
    (l3 : K.lookup f3 = some ⟨oc3, od3, .func (PySem.W.fnOf "worth" "worth" (defArgs s_worth) (defBody s_worth) (defScope s_worth) .none kV3 dc3 pm3 an3 cd3 ct3), sl3⟩) (c3 : PySem.W.codeIn K cd3 "worth" = true) (k3 : PySem.W.keepIn K (.ref f3) = true)
    (a4 : PySem.W.nsIn K mainGlobals "refuse_alike" = some (some (.ref f4)))
    (l4 : K.lookup f4 = some ⟨oc4, od4, .func (PySem.W.fnOf "refuse_alike" "refuse_alike" (defArgs s_refuse_alike) (defBody s_refuse_alike) (defScope s_refuse_alike) .none kV4 dc4 pm4 an4 cd4 ct4), sl4⟩) (c4 : PySem.W.codeIn K cd4 "refuse_alike" = true) (k4 : PySem.W.keepIn K (.ref f4) = true)
    (a5 : PySem.W.nsIn K mainGlobals "with_nought_at" = some (some (.ref f5)))
    (l5 : K.lookup f5 = some ⟨oc5, od5, .func (PySem.W.fnOf "with_nought_at" "with_nought_at" (defArgs s_with_nought_at) (defBody s_with_nought_at) (defScope s_with_nought_at) .none kV5 dc5 pm5 an5 cd5 ct5), sl5⟩) (c5 : PySem.W.codeIn K cd5 "with_nought_at" = true) (k5 : PySem.W.keepIn K (.ref f5) = true)
    (a6 : PySem.W.nsIn K mainGlobals "through" = some (some (.ref f6)))
    (l6 : K.lookup f6 = some ⟨oc6, od6, .func (PySem.W.fnOf "through" "through" (defArgs s_through) (defBody s_through) (defScope s_through) .none kV6 dc6 pm6 an6 cd6 ct6), sl6⟩) (c6 : PySem.W.codeIn K cd6 "through" = true) (k6 : PySem.W.keepIn K (.ref f6) = true)
    (a7 : PySem.W.nsIn K mainGlobals "that_came" = some (some (.ref f7)))
    (l7 : K.lookup f7 = some ⟨oc7, od7, .func (PySem.W.fnOf "that_came" "that_came" (defArgs s_that_came) (defBody s_that_came) (defScope s_that_came) .none kV7 dc7 pm7 an7 cd7 ct7), sl7⟩) (c7 : PySem.W.codeIn K cd7 "that_came" = true) (k7 : PySem.W.keepIn K (.ref f7) = true)
    (a8 : PySem.W.nsIn K mainGlobals "choices" = some (some (.ref f8)))
    (l8 : K.lookup f8 = some ⟨oc8, od8, .func (PySem.W.fnOf "choices" "choices" (defArgs s_choices) (defBody s_choices) (defScope s_choices) .none kV8 dc8 pm8 an8 cd8 ct8), sl8⟩) (c8 : PySem.W.codeIn K cd8 "choices" = true) (k8 : PySem.W.keepIn K (.ref f8) = true)
    (a9 : PySem.W.nsIn K mainGlobals "mended" = some (some (.ref f9)))
    (l9 : K.lookup f9 = some ⟨oc9, od9, .func (PySem.W.fnOf "mended" "mended" (defArgs s_mended) (defBody s_mended) (defScope s_mended) .none kV9 dc9 pm9 an9 cd9 ct9), sl9⟩) (c9 : PySem.W.codeIn K cd9 "mended" = true) (k9 : PySem.W.keepIn K (.ref f9) = true)
    (a10 : PySem.W.nsIn K mainGlobals "_law_cell_at" = some (some (.ref f10)))
    (l10 : K.lookup f10 = some ⟨oc10, od10, .func (PySem.W.fnOf "_law_cell_at" "_law_cell_at" (defArgs s_law_cell_at) (defBody s_law_cell_at) (defScope s_law_cell_at) .none kV10 dc10 pm10 an10 cd10 ct10), sl10⟩) (c10 : PySem.W.codeIn K cd10 "_law_cell_at" = true) (k10 : PySem.W.keepIn K (.ref f10) = true)
    (a11 : PySem.W.nsIn K mainGlobals "_law_mix" = some (some (.ref f11)))
    (l11 : K.lookup f11 = some ⟨oc11, od11, .func (PySem.W.fnOf "_law_mix" "_law_mix" (defArgs s_law_mix) (defBody s_law_mix) (defScope s_law_mix) .none kV11 dc11 pm11 an11 cd11 ct11), sl11⟩) (c11 : PySem.W.codeIn K cd11 "_law_mix" = true) (k11 : PySem.W.keepIn K (.ref f11) = true)
    (a12 : PySem.W.nsIn K mainGlobals "_law_whole" = some (some (.ref f12)))
    (l12 : K.lookup f12 = some ⟨oc12, od12, .func (PySem.W.fnOf "_law_whole" "_law_whole" (defArgs s_law_whole) (defBody s_law_whole) (defScope s_law_whole) .none kV12 dc12 pm12 an12 cd12 ct12), sl12⟩) (c12 : PySem.W.codeIn K cd12 "_law_whole" = true) (k12 : PySem.W.keepIn K (.ref f12) = true)
    (a13 : PySem.W.nsIn K mainGlobals "_law_table_by" = some (some (.ref f13)))
    (l13 : K.lookup f13 = some ⟨oc13, od13, .func (PySem.W.fnOf "_law_table_by" "_law_table_by" (defArgs s_law_table_by) (defBody s_law_table_by) (defScope s_law_table_by) .none kV13 dc13 pm13 an13 cd13 ct13), sl13⟩) (c13 : PySem.W.codeIn K cd13 "_law_table_by" = true) (k13 : PySem.W.keepIn K (.ref f13) = true)
    (a14 : PySem.W.nsIn K mainGlobals "_law_numbers" = some (some (.ref f14)))
    (l14 : K.lookup f14 = some ⟨oc14, od14, .func (PySem.W.fnOf "_law_numbers" "_law_numbers" (defArgs s_law_numbers) (defBody s_law_numbers) (defScope s_law_numbers) .none kV14 dc14 pm14 an14 cd14 ct14), sl14⟩) (c14 : PySem.W.codeIn K cd14 "_law_numbers" = true) (k14 : PySem.W.keepIn K (.ref f14) = true)
    (a15 : PySem.W.nsIn K mainGlobals "_law_worth" = some (some (.ref f15)))
    (l15 : K.lookup f15 = some ⟨oc15, od15, .func (PySem.W.fnOf "_law_worth" "_law_worth" (defArgs s_law_worth) (defBody s_law_worth) (defScope s_law_worth) .none kV15 dc15 pm15 an15 cd15 ct15), sl15⟩) (c15 : PySem.W.codeIn K cd15 "_law_worth" = true) (k15 : PySem.W.keepIn K (.ref f15) = true)
    (a16 : PySem.W.nsIn K mainGlobals "_law_choices" = some (some (.ref f16)))
    (l16 : K.lookup f16 = some ⟨oc16, od16, .func (PySem.W.fnOf "_law_choices" "_law_choices" (defArgs s_law_choices) (defBody s_law_choices) (defScope s_law_choices) .none kV16 dc16 pm16 an16 cd16 ct16), sl16⟩) (c16 : PySem.W.codeIn K cd16 "_law_choices" = true) (k16 : PySem.W.keepIn K (.ref f16) = true)
    (a17 : PySem.W.nsIn K mainGlobals "_law_at" = some (some (.ref f17)))
    (l17 : K.lookup f17 = some ⟨oc17, od17, .func (PySem.W.fnOf "_law_at" "_law_at" (defArgs s_law_at) (defBody s_law_at) (defScope s_law_at) .none kV17 dc17 pm17 an17 cd17 ct17), sl17⟩) (c17 : PySem.W.codeIn K cd17 "_law_at" = true) (k17 : PySem.W.keepIn K (.ref f17) = true)
    (a18 : PySem.W.nsIn K mainGlobals "_law_bad" = some (some (.ref f18)))
    (l18 : K.lookup f18 = some ⟨oc18, od18, .func (PySem.W.fnOf "_law_bad" "_law_bad" (defArgs s_law_bad) (defBody s_law_bad) (defScope s_law_bad) .none kV18 dc18 pm18 an18 cd18 ct18), sl18⟩) (c18 : PySem.W.codeIn K cd18 "_law_bad" = true) (k18 : PySem.W.keepIn K (.ref f18) = true)
    (a19 : PySem.W.nsIn K mainGlobals "_law_told_well" = some (some (.ref f19)))
    (l19 : K.lookup f19 = some ⟨oc19, od19, .func (PySem.W.fnOf "_law_told_well" "_law_told_well" (defArgs s_law_told_well) (defBody s_law_told_well) (defScope s_law_told_well) .none kV19 dc19 pm19 an19 cd19 ct19), sl19⟩) (c19 : PySem.W.codeIn K cd19 "_law_told_well" = true) (k19 : PySem.W.keepIn K (.ref f19) = true)
    (a20 : PySem.W.nsIn K mainGlobals "_law_none" = some (some (.ref f20)))
    (l20 : K.lookup f20 = some ⟨oc20, od20, .func (PySem.W.fnOf "_law_none" "_law_none" (defArgs s_law_none) (defBody s_law_none) (defScope s_law_none) .none kV20 dc20 pm20 an20 cd20 ct20), sl20⟩) (c20 : PySem.W.codeIn K cd20 "_law_none" = true) (k20 : PySem.W.keepIn K (.ref f20) = true)
    (a21 : PySem.W.nsIn K mainGlobals "law" = some (some (.ref f21)))
    (l21 : K.lookup f21 = some ⟨oc21, od21, .func (PySem.W.fnOf "law" "law" (defArgs s_law) (defBody s_law) (defScope s_law) .none kV21 dc21 pm21 an21 cd21 ct21), sl21⟩) (c21 : PySem.W.codeIn K cd21 "law" = true) (k21 : PySem.W.keepIn K (.ref f21) = true)
    (aC : PySem.W.nsIn K mainGlobals "Table" = some (some (.ref C)))
    (a22 : PySem.W.findIn K (.ref C) "__init__" = some (some (.ref f22))) (i22 : PySem.W.isFn K (.ref f22) = true)
    (l22 : K.lookup f22 = some ⟨oc22, od22, .func (PySem.W.fnOf "__init__" "Table.__init__" (defArgs s_Table_init) (defBody s_Table_init) (defScope s_Table_init) .none kV22 dc22 pm22 an22 cd22 ct22), sl22⟩) (c22 : PySem.W.codeIn K cd22 "Table.__init__" = true) (k22 : PySem.W.keepIn K (.ref f22) = true)
    (pg : PySem.W.plainGet K C Str.empty = true) (hd : PySem.W.hasDictIn K C = true) (po : PySem.W.plainOver K C = true) (sa : PySem.W.findIn K (.ref C) "__setattr__" = some (some (.builtin "object.__setattr__"))) (mk : PySem.W.makesIn K C = true) (kc : PySem.W.keepIn K (.ref C) = true)
    (nP : PySem.W.findIn K (.ref C) "prime" = some none) (nH : PySem.W.findIn K (.ref C) "hands" = some none) (nF : PySem.W.findIn K (.ref C) "few" = some none)
    (ap : PySem.W.nsIn K mainGlobals "PRIMES" = some (some (.ref pa))) (lp : K.lookup pa = some ⟨.type "tuple", ddp, .seq its np, slp⟩) (vp : Vals (primes9.map V.int) its.toList)
    (x_VeilError : PySem.W.nsIn K mainGlobals "VeilError" = some (some (.ref c_VeilError))) (o_VeilError : K.lookup c_VeilError = some (PySem.excClassObj nm_VeilError q_VeilError c_VeilError N_VeilError bs_VeilError bm_VeilError hd_VeilError sn_VeilError sub_VeilError ab_VeilError col_VeilError dd_VeilError k0_VeilError k1_VeilError k2_VeilError k3_VeilError k5_VeilError "ValueError.__new__"))
    (e_VeilError : PySem.W.excIn K c_VeilError vErr "ValueError.__new__" = true)
    (x_BadTable : PySem.W.nsIn K mainGlobals "BadTable" = some (some (.ref c_BadTable))) (o_BadTable : K.lookup c_BadTable = some (PySem.excClassObj nm_BadTable q_BadTable c_BadTable N_BadTable bs_BadTable bm_BadTable hd_BadTable sn_BadTable sub_BadTable ab_BadTable col_BadTable dd_BadTable k0_BadTable k1_BadTable k2_BadTable k3_BadTable k5_BadTable "ValueError.__new__"))
    (e_BadTable : PySem.W.excIn K c_BadTable vErr "ValueError.__new__" = true)
    (x_Nought : PySem.W.nsIn K mainGlobals "Nought" = some (some (.ref c_Nought))) (o_Nought : K.lookup c_Nought = some (PySem.excClassObj nm_Nought q_Nought c_Nought N_Nought bs_Nought bm_Nought hd_Nought sn_Nought sub_Nought ab_Nought col_Nought dd_Nought k0_Nought k1_Nought k2_Nought k3_Nought k5_Nought "ValueError.__new__"))
    (e_Nought : PySem.W.excIn K c_Nought vErr "ValueError.__new__" = true)
    (x_AlikePoints : PySem.W.nsIn K mainGlobals "AlikePoints" = some (some (.ref c_AlikePoints))) (o_AlikePoints : K.lookup c_AlikePoints = some (PySem.excClassObj nm_AlikePoints q_AlikePoints c_AlikePoints N_AlikePoints bs_AlikePoints bm_AlikePoints hd_AlikePoints sn_AlikePoints sub_AlikePoints ab_AlikePoints col_AlikePoints dd_AlikePoints k0_AlikePoints k1_AlikePoints k2_AlikePoints k3_AlikePoints k5_AlikePoints "ValueError.__new__"))
    (e_AlikePoints : PySem.W.excIn K c_AlikePoints vErr "ValueError.__new__" = true)
    (x_TooFew : PySem.W.nsIn K mainGlobals "TooFew" = some (some (.ref c_TooFew))) (o_TooFew : K.lookup c_TooFew = some (PySem.excClassObj nm_TooFew q_TooFew c_TooFew N_TooFew bs_TooFew bm_TooFew hd_TooFew sn_TooFew sub_TooFew ab_TooFew col_TooFew dd_TooFew k0_TooFew k1_TooFew k2_TooFew k3_TooFew k5_TooFew "ValueError.__new__"))
    (e_TooFew : PySem.W.excIn K c_TooFew vErr "ValueError.__new__" = true)
    (in_VeilError_VeilError : (Value.ref c_VeilError :: bm_VeilError).contains (.ref c_VeilError) = true)
    (kt_VeilError_VeilError : PySem.W.kitOne K (.ref c_VeilError) (.ref c_VeilError) = some true)
    (in_VeilError_BadTable : (Value.ref c_VeilError :: bm_VeilError).contains (.ref c_BadTable) = false)
    (in_VeilError_Nought : (Value.ref c_VeilError :: bm_VeilError).contains (.ref c_Nought) = false)
    (in_VeilError_AlikePoints : (Value.ref c_VeilError :: bm_VeilError).contains (.ref c_AlikePoints) = false)
    (in_VeilError_TooFew : (Value.ref c_VeilError :: bm_VeilError).contains (.ref c_TooFew) = false)
    (kv_VeilError : PySem.W.kitOne K (.ref c_VeilError) (.type "ValueError") = some true)
    (in_BadTable_VeilError : (Value.ref c_BadTable :: bm_BadTable).contains (.ref c_VeilError) = true)
    (kt_BadTable_VeilError : PySem.W.kitOne K (.ref c_BadTable) (.ref c_VeilError) = some true)
    (in_BadTable_BadTable : (Value.ref c_BadTable :: bm_BadTable).contains (.ref c_BadTable) = true)
    (kt_BadTable_BadTable : PySem.W.kitOne K (.ref c_BadTable) (.ref c_BadTable) = some true)
    (in_BadTable_Nought : (Value.ref c_BadTable :: bm_BadTable).contains (.ref c_Nought) = false)
    (in_BadTable_AlikePoints : (Value.ref c_BadTable :: bm_BadTable).contains (.ref c_AlikePoints) = false)
    (in_BadTable_TooFew : (Value.ref c_BadTable :: bm_BadTable).contains (.ref c_TooFew) = false)
    (kv_BadTable : PySem.W.kitOne K (.ref c_BadTable) (.type "ValueError") = some true)
    (in_Nought_VeilError : (Value.ref c_Nought :: bm_Nought).contains (.ref c_VeilError) = true)
    (kt_Nought_VeilError : PySem.W.kitOne K (.ref c_Nought) (.ref c_VeilError) = some true)
    (in_Nought_BadTable : (Value.ref c_Nought :: bm_Nought).contains (.ref c_BadTable) = false)
    (in_Nought_Nought : (Value.ref c_Nought :: bm_Nought).contains (.ref c_Nought) = true)
    (kt_Nought_Nought : PySem.W.kitOne K (.ref c_Nought) (.ref c_Nought) = some true)
    (in_Nought_AlikePoints : (Value.ref c_Nought :: bm_Nought).contains (.ref c_AlikePoints) = false)
    (in_Nought_TooFew : (Value.ref c_Nought :: bm_Nought).contains (.ref c_TooFew) = false)
    (kv_Nought : PySem.W.kitOne K (.ref c_Nought) (.type "ValueError") = some true)
    (in_AlikePoints_VeilError : (Value.ref c_AlikePoints :: bm_AlikePoints).contains (.ref c_VeilError) = true)
    (kt_AlikePoints_VeilError : PySem.W.kitOne K (.ref c_AlikePoints) (.ref c_VeilError) = some true)
    (in_AlikePoints_BadTable : (Value.ref c_AlikePoints :: bm_AlikePoints).contains (.ref c_BadTable) = false)
    (in_AlikePoints_Nought : (Value.ref c_AlikePoints :: bm_AlikePoints).contains (.ref c_Nought) = false)
    (in_AlikePoints_AlikePoints : (Value.ref c_AlikePoints :: bm_AlikePoints).contains (.ref c_AlikePoints) = true)
    (kt_AlikePoints_AlikePoints : PySem.W.kitOne K (.ref c_AlikePoints) (.ref c_AlikePoints) = some true)
    (in_AlikePoints_TooFew : (Value.ref c_AlikePoints :: bm_AlikePoints).contains (.ref c_TooFew) = false)
    (kv_AlikePoints : PySem.W.kitOne K (.ref c_AlikePoints) (.type "ValueError") = some true)
    (in_TooFew_VeilError : (Value.ref c_TooFew :: bm_TooFew).contains (.ref c_VeilError) = true)
    (kt_TooFew_VeilError : PySem.W.kitOne K (.ref c_TooFew) (.ref c_VeilError) = some true)
    (in_TooFew_BadTable : (Value.ref c_TooFew :: bm_TooFew).contains (.ref c_BadTable) = false)
    (in_TooFew_Nought : (Value.ref c_TooFew :: bm_TooFew).contains (.ref c_Nought) = false)
    (in_TooFew_AlikePoints : (Value.ref c_TooFew :: bm_TooFew).contains (.ref c_AlikePoints) = false)
    (in_TooFew_TooFew : (Value.ref c_TooFew :: bm_TooFew).contains (.ref c_TooFew) = true)
    (kt_TooFew_TooFew : PySem.W.kitOne K (.ref c_TooFew) (.ref c_TooFew) = some true)
    (kv_TooFew : PySem.W.kitOne K (.ref c_TooFew) (.type "ValueError") = some true)
    (z_len : PySem.W.nsIn K mainGlobals "len" = some none)
    (z_range : PySem.W.nsIn K mainGlobals "range" = some none)
    (z_isinstance : PySem.W.nsIn K mainGlobals "isinstance" = some none)
    (z_min : PySem.W.nsIn K mainGlobals "min" = some none)
    (z_list : PySem.W.nsIn K mainGlobals "list" = some none)
    (z_int : PySem.W.nsIn K mainGlobals "int" = some none)
    (z_bool : PySem.W.nsIn K mainGlobals "bool" = some none)
    (z_tuple : PySem.W.nsIn K mainGlobals "tuple" = some none)
    (z_reversed : PySem.W.nsIn K mainGlobals "reversed" = some none)
    (z_zip : PySem.W.nsIn K mainGlobals "zip" = some none)
    (z_set : PySem.W.nsIn K mainGlobals "set" = some none)
    (z_all : PySem.W.nsIn K mainGlobals "all" = some none)
    (z_sum : PySem.W.nsIn K mainGlobals "sum" = some none)
    (z_sorted : PySem.W.nsIn K mainGlobals "sorted" = some none)
    (z_enumerate : PySem.W.nsIn K mainGlobals "enumerate" = some none) :
    ∃ fd : FuncData, (∀ (s : Shared) (v : Value), BindsTo s fd ⟨[v], []⟩ [("script", v)]) ∧ ∀ base : Heap, K.In base → base.Ns mainGlobals mg → FnOk l.prog w K mg base CX0 7 fa fd ["script"] (spLaw K) := by
  have e := hfa.symm.trans (PySem.W.mg_of X G a21)
  cases e
  have S_is_table : Src K mg "is_table" "is_table" s_is_table ["prime", "hands", "few"] := ⟨f1, _, fun_mk (st := s_is_table) l1 c1 k1, (fun_mk (st := s_is_table) l1 c1 k1).binds fun _ _ _ _ _ _ us hl => match us, hl with | [_, _, _], _ => rfl, PySem.W.mg_of X G a1⟩
  have S_back : Src K mg "back" "back" s_back ["table", "number"] := ⟨f2, _, fun_mk (st := s_back) l2 c2 k2, (fun_mk (st := s_back) l2 c2 k2).binds fun _ _ _ _ _ _ us hl => match us, hl with | [_, _], _ => rfl, PySem.W.mg_of X G a2⟩
  have S_worth : Src K mg "worth" "worth" s_worth ["table", "row", "at"] := ⟨f3, _, fun_mk (st := s_worth) l3 c3 k3, (fun_mk (st := s_worth) l3 c3 k3).binds fun _ _ _ _ _ _ us hl => match us, hl with | [_, _, _], _ => rfl, PySem.W.mg_of X G a3⟩
  have S_refuse_alike : Src K mg "refuse_alike" "refuse_alike" s_refuse_alike ["table", "points"] := ⟨f4, _, fun_mk (st := s_refuse_alike) l4 c4 k4, (fun_mk (st := s_refuse_alike) l4 c4 k4).binds fun _ _ _ _ _ _ us hl => match us, hl with | [_, _], _ => rfl, PySem.W.mg_of X G a4⟩
  have S_with_nought_at : Src K mg "with_nought_at" "with_nought_at" s_with_nought_at ["table", "row", "at"] := ⟨f5, _, fun_mk (st := s_with_nought_at) l5 c5 k5, (fun_mk (st := s_with_nought_at) l5 c5 k5).binds fun _ _ _ _ _ _ us hl => match us, hl with | [_, _, _], _ => rfl, PySem.W.mg_of X G a5⟩
  have S_through : Src K mg "through" "through" s_through ["table", "points"] := ⟨f6, _, fun_mk (st := s_through) l6 c6 k6, (fun_mk (st := s_through) l6 c6 k6).binds fun _ _ _ _ _ _ us hl => match us, hl with | [_, _], _ => rfl, PySem.W.mg_of X G a6⟩
  have S_that_came : Src K mg "that_came" "that_came" s_that_came ["table", "shares"] := ⟨f7, _, fun_mk (st := s_that_came) l7 c7 k7, (fun_mk (st := s_that_came) l7 c7 k7).binds fun _ _ _ _ _ _ us hl => match us, hl with | [_, _], _ => rfl, PySem.W.mg_of X G a7⟩
  have S_choices : Src K mg "choices" "choices" s_choices ["things", "size"] := ⟨f8, _, fun_mk (st := s_choices) l8 c8 k8, (fun_mk (st := s_choices) l8 c8 k8).binds fun _ _ _ _ _ _ us hl => match us, hl with | [_, _], _ => rfl, PySem.W.mg_of X G a8⟩
  have S_mended : Src K mg "mended" "mended" s_mended ["table", "shares", "wrong"] := ⟨f9, _, fun_mk (st := s_mended) l9 c9 k9, (fun_mk (st := s_mended) l9 c9 k9).binds fun _ _ _ _ _ _ us hl => match us, hl with | [_, _, _], _ => rfl, PySem.W.mg_of X G a9⟩
  have S_law_cell_at : Src K mg "_law_cell_at" "_law_cell_at" s_law_cell_at ["script", "k"] := ⟨f10, _, fun_mk (st := s_law_cell_at) l10 c10 k10, (fun_mk (st := s_law_cell_at) l10 c10 k10).binds fun _ _ _ _ _ _ us hl => match us, hl with | [_, _], _ => rfl, PySem.W.mg_of X G a10⟩
  have S_law_mix : Src K mg "_law_mix" "_law_mix" s_law_mix ["cell", "k", "many"] := ⟨f11, _, fun_mk (st := s_law_mix) l11 c11 k11, (fun_mk (st := s_law_mix) l11 c11 k11).binds fun _ _ _ _ _ _ us hl => match us, hl with | [_, _, _], _ => rfl, PySem.W.mg_of X G a11⟩
  have S_law_whole : Src K mg "_law_whole" "_law_whole" s_law_whole ["found"] := ⟨f12, _, fun_mk (st := s_law_whole) l12 c12 k12, (fun_mk (st := s_law_whole) l12 c12 k12).binds fun _ _ _ _ _ _ us hl => match us, hl with | [_], _ => rfl, PySem.W.mg_of X G a12⟩
  have S_law_table_by : Src K mg "_law_table_by" "_law_table_by" s_law_table_by ["cell"] := ⟨f13, _, fun_mk (st := s_law_table_by) l13 c13 k13, (fun_mk (st := s_law_table_by) l13 c13 k13).binds fun _ _ _ _ _ _ us hl => match us, hl with | [_], _ => rfl, PySem.W.mg_of X G a13⟩
  have S_law_numbers : Src K mg "_law_numbers" "_law_numbers" s_law_numbers ["cell", "many", "prime"] := ⟨f14, _, fun_mk (st := s_law_numbers) l14 c14 k14, (fun_mk (st := s_law_numbers) l14 c14 k14).binds fun _ _ _ _ _ _ us hl => match us, hl with | [_, _, _], _ => rfl, PySem.W.mg_of X G a14⟩
  have S_law_worth : Src K mg "_law_worth" "_law_worth" s_law_worth ["prime", "row", "at"] := ⟨f15, _, fun_mk (st := s_law_worth) l15 c15 k15, (fun_mk (st := s_law_worth) l15 c15 k15).binds fun _ _ _ _ _ _ us hl => match us, hl with | [_, _, _], _ => rfl, PySem.W.mg_of X G a15⟩
  have S_law_choices : Src K mg "_law_choices" "_law_choices" s_law_choices ["many", "size"] := ⟨f16, _, fun_mk (st := s_law_choices) l16 c16 k16, (fun_mk (st := s_law_choices) l16 c16 k16).binds fun _ _ _ _ _ _ us hl => match us, hl with | [_, _], _ => rfl, PySem.W.mg_of X G a16⟩
  have S_law_at : Src K mg "_law_at" "_law_at" s_law_at ["prime", "points", "at"] := ⟨f17, _, fun_mk (st := s_law_at) l17 c17 k17, (fun_mk (st := s_law_at) l17 c17 k17).binds fun _ _ _ _ _ _ us hl => match us, hl with | [_, _, _], _ => rfl, PySem.W.mg_of X G a17⟩
  have S_law_bad : Src K mg "_law_bad" "_law_bad" s_law_bad ["prime", "points", "base"] := ⟨f18, _, fun_mk (st := s_law_bad) l18 c18 k18, (fun_mk (st := s_law_bad) l18 c18 k18).binds fun _ _ _ _ _ _ us hl => match us, hl with | [_, _, _], _ => rfl, PySem.W.mg_of X G a18⟩
  have S_law_told_well : Src K mg "_law_told_well" "_law_told_well" s_law_told_well ["table", "points", "found", "let"] := ⟨f19, _, fun_mk (st := s_law_told_well) l19 c19 k19, (fun_mk (st := s_law_told_well) l19 c19 k19).binds fun _ _ _ _ _ _ us hl => match us, hl with | [_, _, _, _], _ => rfl, PySem.W.mg_of X G a19⟩
  have S_law_none : Src K mg "_law_none" "_law_none" s_law_none ["table", "points", "let"] := ⟨f20, _, fun_mk (st := s_law_none) l20 c20 k20, (fun_mk (st := s_law_none) l20 c20 k20).binds fun _ _ _ _ _ _ us hl => match us, hl with | [_, _, _], _ => rfl, PySem.W.mg_of X G a20⟩
  have F_law := fun_mk (st := s_law) l21 c21 k21
  have F_init := fun_mk (st := s_Table_init) l22 c22 k22
  have b_init := F_init.binds (ps := ["self", "prime", "hands", "few"]) fun _ _ _ _ _ _ us hl => match us, hl with | [_, _, _, _], _ => rfl
  have TT : Tab K C := ⟨⟨pg, hd, po, sa⟩, nP, nH, nF⟩
  have M : Mk K C f22 := ⟨mk, a22, i22, kc⟩
  have mC := PySem.W.mg_of X G aC
  have TP : Pri K mg pa := pri_mk (PySem.W.mg_of X G ap) lp vp
  have B : Blt mg := ⟨PySem.W.mg_none_of X G z_len, PySem.W.mg_none_of X G z_range, PySem.W.mg_none_of X G z_isinstance, PySem.W.mg_none_of X G z_min, PySem.W.mg_none_of X G z_list, PySem.W.mg_none_of X G z_int, PySem.W.mg_none_of X G z_bool, PySem.W.mg_none_of X G z_tuple, PySem.W.mg_none_of X G z_reversed, PySem.W.mg_none_of X G z_zip, PySem.W.mg_none_of X G z_set, PySem.W.mg_none_of X G z_all, PySem.W.mg_none_of X G z_sum, PySem.W.mg_none_of X G z_sorted, PySem.W.mg_none_of X G z_enumerate⟩
  have E_VeilError : Exc K mg "VeilError" c_VeilError bm_VeilError := exc_mk (PySem.W.mg_of X G x_VeilError) o_VeilError e_VeilError
  have E_BadTable : Exc K mg "BadTable" c_BadTable bm_BadTable := exc_mk (PySem.W.mg_of X G x_BadTable) o_BadTable e_BadTable
  have E_Nought : Exc K mg "Nought" c_Nought bm_Nought := exc_mk (PySem.W.mg_of X G x_Nought) o_Nought e_Nought
  have E_AlikePoints : Exc K mg "AlikePoints" c_AlikePoints bm_AlikePoints := exc_mk (PySem.W.mg_of X G x_AlikePoints) o_AlikePoints e_AlikePoints
  have E_TooFew : Exc K mg "TooFew" c_TooFew bm_TooFew := exc_mk (PySem.W.mg_of X G x_TooFew) o_TooFew e_TooFew
  refine ⟨PySem.W.fnOf "law" "law" (defArgs s_law) (defBody s_law) (defScope s_law) .none kV21 dc21 pm21 an21 cd21 ct21, fun s v => .of_eq rfl, fun base _ _ => ?_⟩
  have O_is_table := ok_is_table (P := l.prog) (w := w) (base := base) S_is_table TP
  have O_Table : MkOk l.prog w K mg base CX0 2 "Table" C ["self", "prime", "hands", "few"] (spInit C) := ⟨_, _, M, ok_init F_init TT O_is_table, b_init, mC⟩
  have O_worth := ok_worth (P := l.prog) (w := w) (base := base) S_worth B TT
  have O_back := ok_back (P := l.prog) (w := w) (base := base) S_back B TT
  have O_alike := ok_alike (P := l.prog) (w := w) (base := base) S_refuse_alike B TT
  have O_nought := ok_nought (P := l.prog) (w := w) (base := base) S_with_nought_at B TT
  have O_through := ok_through S_through B TT O_alike O_worth O_back O_nought
  have O_came := ok_came (P := l.prog) (w := w) (base := base) S_that_came B TT
  have O_choices := ok_choices (P := l.prog) (w := w) (base := base) S_choices B 4
  have O_mendedU := ok_mendedU S_mended B TT E_TooFew O_came O_choices O_through O_worth
  have O_cell := ok_cell (P := l.prog) (w := w) (base := base) S_law_cell_at B
  have O_mix := ok_mix (P := l.prog) (w := w) (base := base) S_law_mix
  have O_whole := ok_whole (P := l.prog) (w := w) (base := base) S_law_whole B
  have O_table_by := ok_table_by S_law_table_by B O_Table
  have O_numbers := ok_numbers S_law_numbers B O_mix
  have O_law_worth := ok_law_worth (P := l.prog) (w := w) (base := base) S_law_worth
  have O_at := ok_at (P := l.prog) (w := w) (base := base) S_law_at B
  have O_bad := ok_bad S_law_bad B O_at
  have O_chs := ok_chs (P := l.prog) (w := w) (base := base) S_law_choices B
  have O_told := ok_told S_law_told_well B TT O_whole O_at O_bad
  have O_none := ok_none S_law_none B TT O_chs O_bad
  exact ok_law F_law B TT E_TooFew E_VeilError in_TooFew_TooFew kt_TooFew_VeilError O_table_by O_cell O_numbers O_mix O_law_worth O_mendedU O_none O_told
theorem walk {l : PySem.W.OpenLaw} {q : Program} {loose : List Str} {XP : (Str → Option Value) → Heap → Prop} {YP : World → Heap → Prop} {d : DefRec} {K : Params → PySem.W.Frag} (hn : l.most = some 63) (hdf : d.params.defaults = [])
    (hY : ∀ (w : World) (h : Heap), YP w h → (K w.params).In h)
    (F : ∀ (w : World) (mg : Str → Option Value) (fa : Addr) (h : Heap), (K w.params).In h → h.Ns mainGlobals mg → mg d.name = some (.ref fa) →
      ∃ fd : FuncData, (∀ (s : Shared) (u : Value), BindsTo s fd ⟨[u], []⟩ [("script", u)]) ∧ ∀ base : Heap, (K w.params).In base → base.Ns mainGlobals mg → FnOk l.prog w (K w.params) mg base CX0 7 fa fd ["script"] (spLaw (K w.params))) :
    PySem.W.WalkO q loose XP YP l.row.toRowW d [] (fun f vs => PySem.call f vs) :=
  L2.walk_of (n := 63) (k := 7) (x := "script") (CX := fun _ => CX0) (sp := fun w => spLaw (K w.params)) hn (by decide) hdf ⟨rfl, by decide, by decide⟩ hY F (fun _ _ a ns hl _ hS => ⟨a, ns, rfl, hS, hl, fun _ => rfl⟩) fun _ _ _ _ _ z => z
end Veil
open PySem PySem.W PyProof.Rows
set_option maxRecDepth 100000 in
set_option maxHeartbeats 0 in
theorem PySem.Challenge.cw_veilsum_k09_whole_mended_or_not_holds : PySem.Challenge.rw_veilsum_k09_whole_mended_or_not.Holds := by
  w_on; o_law; k_head; (case hw => w_witness2)
  k_fill
  refine Veil.walk (l := PySem.Challenge.rw_veilsum_k09_whole_mended_or_not) rfl rfl (fun w h Y => PySem.W.kIn_of Y) ?F
  case F =>
    intro w mg fa h KX G hmg
    refine' Veil.all_mk KX G hmg ?a1 ?l1 ?c1 ?k1 ?a2 ?l2 ?c2 ?k2 ?a3 ?l3 ?c3 ?k3 ?a4 ?l4 ?c4 ?k4 ?a5 ?l5 ?c5 ?k5 ?a6 ?l6 ?c6 ?k6 ?a7 ?l7 ?c7 ?k7 ?a8 ?l8 ?c8 ?k8 ?a9 ?l9 ?c9 ?k9 ?a10 ?l10 ?c10 ?k10 ?a11 ?l11 ?c11 ?k11 ?a12 ?l12 ?c12 ?k12 ?a13 ?l13 ?c13 ?k13 ?a14 ?l14 ?c14 ?k14 ?a15 ?l15 ?c15 ?k15 ?a16 ?l16 ?c16 ?k16 ?a17 ?l17 ?c17 ?k17 ?a18 ?l18 ?c18 ?k18 ?a19 ?l19 ?c19 ?k19 ?a20 ?l20 ?c20 ?k20 ?a21 ?l21 ?c21 ?k21 ?aC ?a22 ?i22 ?l22 ?c22 ?k22 ?pg ?hd ?po ?sa ?mk ?kc ?nP ?nH ?nF ?ap ?lp ?vp ?x_VeilError ?o_VeilError ?e_VeilError ?x_BadTable ?o_BadTable ?e_BadTable ?x_Nought ?o_Nought ?e_Nought ?x_AlikePoints ?o_AlikePoints ?e_AlikePoints ?x_TooFew ?o_TooFew ?e_TooFew ?in_VeilError_VeilError ?kt_VeilError_VeilError ?in_VeilError_BadTable ?in_VeilError_Nought ?in_VeilError_AlikePoints ?in_VeilError_TooFew ?kv_VeilError ?in_BadTable_VeilError ?kt_BadTable_VeilError ?in_BadTable_BadTable ?kt_BadTable_BadTable ?in_BadTable_Nought ?in_BadTable_AlikePoints ?in_BadTable_TooFew ?kv_BadTable ?in_Nought_VeilError ?kt_Nought_VeilError ?in_Nought_BadTable ?in_Nought_Nought ?kt_Nought_Nought ?in_Nought_AlikePoints ?in_Nought_TooFew ?kv_Nought ?in_AlikePoints_VeilError ?kt_AlikePoints_VeilError ?in_AlikePoints_BadTable ?in_AlikePoints_Nought ?in_AlikePoints_AlikePoints ?kt_AlikePoints_AlikePoints ?in_AlikePoints_TooFew ?kv_AlikePoints ?in_TooFew_VeilError ?kt_TooFew_VeilError ?in_TooFew_BadTable ?in_TooFew_Nought ?in_TooFew_AlikePoints ?in_TooFew_TooFew ?kt_TooFew_TooFew ?kv_TooFew ?z_len ?z_range ?z_isinstance ?z_min ?z_list ?z_int ?z_bool ?z_tuple ?z_reversed ?z_zip ?z_set ?z_all ?z_sum ?z_sorted ?z_enumerate
    (case a1 => k_is)
    (case l1 => k_is)
    (case c1 => k_is)
    (case k1 => k_is)
    (case a2 => k_is)
    (case l2 => k_is)
    (case c2 => k_is)
    (case k2 => k_is)
    (case a3 => k_is)
    (case l3 => k_is)
    (case c3 => k_is)
    (case k3 => k_is)
    (case a4 => k_is)
    (case l4 => k_is)
    (case c4 => k_is)
    (case k4 => k_is)
    (case a5 => k_is)
    (case l5 => k_is)
    (case c5 => k_is)
    (case k5 => k_is)
    (case a6 => k_is)
    (case l6 => k_is)
    (case c6 => k_is)
    (case k6 => k_is)
    (case a7 => k_is)
    (case l7 => k_is)
    (case c7 => k_is)
    (case k7 => k_is)
    (case a8 => k_is)
    (case l8 => k_is)
    (case c8 => k_is)
    (case k8 => k_is)
    (case a9 => k_is)
    (case l9 => k_is)
    (case c9 => k_is)
    (case k9 => k_is)
    (case a10 => k_is)
    (case l10 => k_is)
    (case c10 => k_is)
    (case k10 => k_is)
    (case a11 => k_is)
    (case l11 => k_is)
    (case c11 => k_is)
    (case k11 => k_is)
    (case a12 => k_is)
    (case l12 => k_is)
    (case c12 => k_is)
    (case k12 => k_is)
    (case a13 => k_is)
    (case l13 => k_is)
    (case c13 => k_is)
    (case k13 => k_is)
    (case a14 => k_is)
    (case l14 => k_is)
    (case c14 => k_is)
    (case k14 => k_is)
    (case a15 => k_is)
    (case l15 => k_is)
    (case c15 => k_is)
    (case k15 => k_is)
    (case a16 => k_is)
    (case l16 => k_is)
    (case c16 => k_is)
    (case k16 => k_is)
    (case a17 => k_is)
    (case l17 => k_is)
    (case c17 => k_is)
    (case k17 => k_is)
    (case a18 => k_is)
    (case l18 => k_is)
    (case c18 => k_is)
    (case k18 => k_is)
    (case a19 => k_is)
    (case l19 => k_is)
    (case c19 => k_is)
    (case k19 => k_is)
    (case a20 => k_is)
    (case l20 => k_is)
    (case c20 => k_is)
    (case k20 => k_is)
    (case a21 => k_is)
    (case l21 => k_is)
    (case c21 => k_is)
    (case k21 => k_is)
    (case aC => k_is)
    (case a22 => k_is)
    (case i22 => k_is)
    (case l22 => k_is)
    (case c22 => k_is)
    (case k22 => k_is)
    (case pg => k_is)
    (case hd => k_is)
    (case po => k_is)
    (case sa => k_is)
    (case mk => k_is)
    (case kc => k_is)
    (case nP => k_is)
    (case nH => k_is)
    (case nF => k_is)
    (case ap => k_is)
    (case lp => k_is)
    (case vp => exact (.cons ⟨_, rfl⟩ (.cons ⟨_, rfl⟩ (.cons ⟨_, rfl⟩ (.cons ⟨_, rfl⟩ (.cons ⟨_, rfl⟩ (.cons ⟨_, rfl⟩ (.cons ⟨_, rfl⟩ (.cons ⟨_, rfl⟩ (.cons ⟨_, rfl⟩ .nil))))))))))
    (case x_VeilError => k_is)
    (case o_VeilError => k_is)
    (case e_VeilError => k_exc)
    (case x_BadTable => k_is)
    (case o_BadTable => k_is)
    (case e_BadTable => k_exc)
    (case x_Nought => k_is)
    (case o_Nought => k_is)
    (case e_Nought => k_exc)
    (case x_AlikePoints => k_is)
    (case o_AlikePoints => k_is)
    (case e_AlikePoints => k_exc)
    (case x_TooFew => k_is)
    (case o_TooFew => k_is)
    (case e_TooFew => k_exc)
    (case in_VeilError_VeilError => first | rfl | decide)
    (case kt_VeilError_VeilError => kit_is)
    (case in_VeilError_BadTable => first | rfl | decide)
    (case in_VeilError_Nought => first | rfl | decide)
    (case in_VeilError_AlikePoints => first | rfl | decide)
    (case in_VeilError_TooFew => first | rfl | decide)
    (case kv_VeilError => kit_is)
    (case in_BadTable_VeilError => first | rfl | decide)
    (case kt_BadTable_VeilError => kit_is)
    (case in_BadTable_BadTable => first | rfl | decide)
    (case kt_BadTable_BadTable => kit_is)
    (case in_BadTable_Nought => first | rfl | decide)
    (case in_BadTable_AlikePoints => first | rfl | decide)
    (case in_BadTable_TooFew => first | rfl | decide)
    (case kv_BadTable => kit_is)
    (case in_Nought_VeilError => first | rfl | decide)
    (case kt_Nought_VeilError => kit_is)
    (case in_Nought_BadTable => first | rfl | decide)
    (case in_Nought_Nought => first | rfl | decide)
    (case kt_Nought_Nought => kit_is)
    (case in_Nought_AlikePoints => first | rfl | decide)
    (case in_Nought_TooFew => first | rfl | decide)
    (case kv_Nought => kit_is)
    (case in_AlikePoints_VeilError => first | rfl | decide)
    (case kt_AlikePoints_VeilError => kit_is)
    (case in_AlikePoints_BadTable => first | rfl | decide)
    (case in_AlikePoints_Nought => first | rfl | decide)
    (case in_AlikePoints_AlikePoints => first | rfl | decide)
    (case kt_AlikePoints_AlikePoints => kit_is)
    (case in_AlikePoints_TooFew => first | rfl | decide)
    (case kv_AlikePoints => kit_is)
    (case in_TooFew_VeilError => first | rfl | decide)
    (case kt_TooFew_VeilError => kit_is)
    (case in_TooFew_BadTable => first | rfl | decide)
    (case in_TooFew_Nought => first | rfl | decide)
    (case in_TooFew_AlikePoints => first | rfl | decide)
    (case in_TooFew_TooFew => first | rfl | decide)
    (case kt_TooFew_TooFew => kit_is)
    (case kv_TooFew => kit_is)
    (case z_len => k_is)
    (case z_range => k_is)
    (case z_isinstance => k_is)
    (case z_min => k_is)
    (case z_list => k_is)
    (case z_int => k_is)
    (case z_bool => k_is)
    (case z_tuple => k_is)
    (case z_reversed => k_is)
    (case z_zip => k_is)
    (case z_set => k_is)
    (case z_all => k_is)
    (case z_sum => k_is)
    (case z_sorted => k_is)
    (case z_enumerate => k_is)
#print axioms PySem.Challenge.cw_veilsum_k09_whole_mended_or_not_holds
