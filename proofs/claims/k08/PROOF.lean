import PyProof.Rows.All
import Wide.All
import OpenK.AllK
import Wide.FinOn
import Lean
import PyProof.EqAt
import PyProof.EqKinds
import PyProof.TupleCall
import PyProof.NeKinds
import PyProof.SumWalkG
import PySem.Challenge.RW_markscale_k08_days_written
set_option Elab.async false
set_option linter.all false
set_option maxRecDepth 100000
/-! THE HAND LAYER, for ints, bools, texts, own classes, LISTS and tuples (index, slices, in, append, pop ..), calls, loops. Paste it whole ahead of your own text; what your proof does not reach may be deleted. -/
namespace L2
open PySem PySem.Spec PyProof.Rows

/-- a key: an int or a str -/
abbrev Key := Sum Int Str
def keyIs : Key → Value → Bool
  | .inl k, v => Value.isInt k v
  | .inr x, v => Value.isStrOf x v
def keyH (w : World) : Key → Int
  | .inl k => hashInt k
  | .inr x => hashStr w x
theorem keyIs_shape : ∀ {k : Key} {v : Value}, keyIs k v = true → (∃ i t, k = Sum.inl i ∧ v = Value.int i t) ∨ (∃ x t, k = Sum.inr x ∧ v = Value.str x t)
  | .inl i, v, h => by
    obtain ⟨t, e⟩ := Value.isInt_shape (k := i) (v := v) h
    exact .inl ⟨i, t, rfl, e⟩
  | .inr x, v, h => by
    obtain ⟨t, e⟩ := Value.isStrOf_shape (x := x) (v := v) h
    exact .inr ⟨x, t, rfl, e⟩
theorem keyIs_int (i : Int) (t : Tok) : keyIs (.inl i) (.int i t) = true := by simp [keyIs, Value.isInt]
theorem keyIs_str (x : Str) (t : Tok) : keyIs (.inr x) (.str x t) = true := by simp [keyIs, Value.isStrOf]
theorem key_ll (a b : Int) : decide ((Sum.inl a : Key) = Sum.inl b) = (a == b) := by
  by_cases e : a = b
  · subst e; simp
  · have h : ¬ (Sum.inl a : Key) = Sum.inl b := fun q => e (Sum.inl.inj q)
    rw [decide_eq_false h]
    exact (beq_eq_false_iff_ne.mpr e).symm
theorem key_rr (a b : Str) : decide ((Sum.inr a : Key) = Sum.inr b) = decide (a = b) := by
  by_cases e : a = b
  · subst e; simp
  · have h : ¬ (Sum.inr a : Key) = Sum.inr b := fun q => e (Sum.inr.inj q)
    rw [decide_eq_false h, decide_eq_false e]
theorem key_lr (a : Int) (b : Str) : decide ((Sum.inl a : Key) = Sum.inr b) = false := decide_eq_false (fun q => nomatch q)
theorem key_rl (a : Str) (b : Int) : decide ((Sum.inr a : Key) = Sum.inl b) = false := decide_eq_false (fun q => nomatch q)

def mixKind (prog : Program) (w : World) : PySem.KeyKind prog w Key where
  is := keyIs
  hash := keyH w
  inj := fun v a b ha hb => by
    rcases keyIs_shape ha with ⟨i, t, rfl, rfl⟩ | ⟨x, t, rfl, rfl⟩
    · rcases keyIs_shape hb with ⟨j, u, rfl, e⟩ | ⟨y, u, rfl, e⟩
      · injection e with e1 _; rw [e1]
      · exact nomatch e
    · rcases keyIs_shape hb with ⟨j, u, rfl, e⟩ | ⟨y, u, rfl, e⟩
      · exact nomatch e
      · injection e with e1 _; rw [e1]
  byValue := fun k v h => by
    rcases keyIs_shape h with ⟨i, t, rfl, rfl⟩ | ⟨x, t, rfl, rfl⟩ <;> rfl
  pyHash := fun hv h => by
    rcases keyIs_shape hv with ⟨i, t, rfl, rfl⟩ | ⟨x, t, rfl, rfl⟩
    · exact wpAny_pyHash_int h
    · exact wpAny_pyHash_str h
  eqBool := fun hu hv h => by
    rcases keyIs_shape hu with ⟨i, t, rfl, rfl⟩ | ⟨x, t, rfl, rfl⟩
    · rcases keyIs_shape hv with ⟨j, u, rfl, rfl⟩ | ⟨y, u, rfl, rfl⟩
      · rw [key_ll] at h; exact wpAny_eqBool_int h
      · rw [key_lr] at h; exact SeqAt.EqAt.int_str i t y u _ _ _ _ h
    · rcases keyIs_shape hv with ⟨j, u, rfl, rfl⟩ | ⟨y, u, rfl, rfl⟩
      · rw [key_rl] at h; exact SeqAt.EqAt.str_int x t j u _ _ _ _ h
      · rw [key_rr] at h; exact wpAny_eqBool_str h
  «strs» := fun k x t v h => by
    rcases keyIs_shape h with ⟨i, u, rfl, e⟩ | ⟨y, u, rfl, e⟩
    · exact nomatch e
    · injection e with e1 _
      subst e1
      cases v <;> rfl

theorem mixKind_is (prog : Program) (w : World) (k : Key) (v : Value) : (mixKind prog w).is k v = keyIs k v := rfl
theorem mixKind_int (prog : Program) (w : World) (i : Int) (t : Tok) : (mixKind prog w).is (.inl i) (.int i t) = true := keyIs_int i t
theorem mixKind_str (prog : Program) (w : World) (x : Str) (t : Tok) : (mixKind prog w).is (.inr x) (.str x t) = true := keyIs_str x t
end L2

namespace L2
open PySem PySem.Spec PyProof.Rows

/-- a value, without the heap -/
inductive V where
  | non | bl (b : Bool) | int (i : Int) | str (x : Str) | byt (b : Array UInt8) | flt (b : UInt64) | ref (a : Addr) | ty (n : String)
  deriving DecidableEq

def RelV : V → Value → Prop
  | .non, u => u = Value.none
  | .bl b, u => u = Value.bool b
  | .int i, u => ∃ t, u = Value.int i t
  | .str x, u => ∃ t, u = Value.str x t
  | .byt b, u => ∃ t, u = Value.bytes b t
  | .flt b, u => ∃ t, u = Value.float b t
  | .ref a, u => u = Value.ref a
  | .ty n, u => u = Value.type n

abbrev Vals : List V → List Value → Prop := Paired RelV
theorem Vals.length {xs : List V} {us : List Value} (r : Vals xs us) : xs.length = us.length := Paired.length r
theorem Vals.get : ∀ {xs : List V} {us : List Value} {i : Nat} {x : V}, Vals xs us → xs[i]? = some x → ∃ u, us[i]? = some u ∧ RelV x u
  | _, _, _, _, .nil, e => by simp at e
  | _, _, 0, _, .cons r _, e => by simp at e; subst e; exact ⟨_, rfl, r⟩
  | _, _, i + 1, x, .cons _ t, e => by
    obtain ⟨u, h1, h2⟩ := Vals.get (i := i) (x := x) t (by simpa using e)
    exact ⟨u, by simpa using h1, h2⟩
theorem Vals.set {x : V} {u : Value} (r : RelV x u) : ∀ {xs : List V} {us : List Value} (i : Nat), Vals xs us → Vals (xs.set i x) (us.set i u)
  | _, _, _, .nil => .nil
  | _, _, 0, .cons _ t => .cons r t
  | _, _, i + 1, .cons q t => .cons q (Vals.set r i t)
theorem Vals.append : ∀ {xs ys : List V} {us ws : List Value}, Vals xs us → Vals ys ws → Vals (xs ++ ys) (us ++ ws)
  | _, _, _, _, .nil, s => s
  | _, _, _, _, .cons r t, s => .cons r (Vals.append t s)
theorem Vals.take : ∀ {xs : List V} {us : List Value} (n : Nat), Vals xs us → Vals (xs.take n) (us.take n)
  | _, _, 0, _ => .nil
  | _, _, _ + 1, .nil => .nil
  | _, _, n + 1, .cons r t => .cons r (Vals.take n t)
theorem Vals.drop : ∀ {xs : List V} {us : List Value} (n : Nat), Vals xs us → Vals (xs.drop n) (us.drop n)
  | _, _, 0, r => r
  | _, _, _ + 1, .nil => .nil
  | _, _, n + 1, .cons _ t => Vals.drop n t
theorem Vals.none_of : ∀ {xs : List V} {us : List Value} {i : Nat}, Vals xs us → xs[i]? = none → us[i]? = none := fun {xs us i} r e => by
  have h1 := r.length
  have h2 : xs.length ≤ i := List.getElem?_eq_none_iff.mp e
  exact List.getElem?_eq_none_iff.mpr (by omega)

def RelO : Option V → Option Value → Prop
  | some v, some u => RelV v u
  | none, none => True
  | _, _ => False
def KV {κ : Type} : List (κ × V) → List (κ × Value) → Prop := Paired fun (p : κ × V) (q : κ × Value) => p.1 = q.1 ∧ RelV p.2 q.2

/-- a key of a dict (00_mix): an int or a text -/
def kV : Key → V
  | .inl i => .int i
  | .inr x => .str x

/-- what stands at a tracked address -/
inductive HO where
  /-- a list -/
  | lst (xs : List V)
  /-- a tuple (never changes) -/
  | tup (xs : List V)
  /-- a dict whose keys are ints and texts; one whose keys are tuples of ints and texts (the empty one is both) -/
  | dK (kvs : List (Key × V)) | dT (kvs : List (List Key × V))
  /-- a set of ints: its members, its size -/
  | set (S : Int → Bool) (n : Nat)
  /-- an instance of the class at C, its dict at dx, its attributes -/
  | ins (C dx : Addr) (fs : List (Str × V))
  /-- the dict of the instance at x -/
  | own (x : Addr)
  /-- the dict of an exception -/
  | xd (fs : List (Str × V))
  /-- a bound method, f of x -/
  | met (f x : Addr)
  /-- a range object lo, lo + 1, .. below hi -/
  | rng (lo hi : Int)
  /-- a thing that is known to the object (the script; a dict while a loop walks it): read, never written while it is so -/
  | frz (o : Obj) (u : HO)
  /-- a code object's table -/
  | tbl (ps : Array Value)
  /-- any other thing, by what is true of its one object (a def of one's own: SetO a S n := HO.ext fun h => ..) -/
  | ext (φ : Heap → Prop)

abbrev Hp := Addr → Option HO
def upd (H : Hp) (a : Addr) (o : HO) : Hp := fun b => if b = a then some o else H b
theorem upd_same {H : Hp} {a : Addr} {o : HO} : upd H a o a = some o := by unfold upd; rw [if_pos rfl]
theorem upd_ne {H : Hp} {a b : Addr} {o : HO} (h : b ≠ a) : upd H a o b = H b := by unfold upd; rw [if_neg h]
theorem upd_upd {H : Hp} {a : Addr} {o u : HO} : upd (upd H a o) a u = upd H a u := by
  funext b; unfold upd; split <;> rfl
/-- two objects of different content stand apart -/
theorem ne_of {H : Hp} {a b : Addr} {o u : HO} (h : H a = some o) (h' : H b = some u) (d : o ≠ u) : a ≠ b := by
  intro e; subst e; rw [h] at h'; exact d (Option.some.inj h')
theorem ne_of_none {H : Hp} {a b : Addr} {o : HO} (h : H a = some o) (h' : H b = none) : a ≠ b := by
  intro e; subst e; rw [h] at h'; cases h'

section
variable (P : Program) (w : World)
def ObjOk (H : Hp) (h : Heap) (a : Addr) : HO → Prop
  | .lst xs => xs.length ≤ sizeLine ∧ ∃ (its : List Value) (n : Nat), Vals xs its ∧ h.get? a = some { cls := .type "list", data := .seq its.toArray n }
  | .tup xs => xs.length ≤ sizeLine ∧ ∃ its : List Value, Vals xs its ∧ IsTup h a its.toArray
  | .dK kvs => kvs.length ≤ sizeLine ∧ (a == sysModules) = false ∧ ∃ vs, KV kvs vs ∧ h.DictOf (mixKind P w) a vs
  | .dT kvs => kvs.length ≤ sizeLine ∧ (a == sysModules) = false ∧ ∃ xs : List (List Key × Addr × Value),
      Paired (fun (p : List Key × V) (q : List Key × Addr × Value) => p.1 = q.1 ∧ H q.2.1 = some (.tup (p.1.map kV)) ∧ RelV p.2 q.2.2) kvs xs ∧
      ∃ o es ep, h.get? a = some o ∧ o.ExactDict ∧ o.data = .dict es ep ∧ es.toList = xs.map (entryOfKey (tupleKind (mixKind P w))) ∧ (xs.map (·.1)).Nodup
  | .set S n => h.SetOf (intKind P w) a S n
  | .ins C dx fs => H dx = some (.own a) ∧ fs.length ≤ 1000 ∧ dx ≠ a ∧ h.get? a = some (PySem.W.instObj C dx) ∧
      ∃ mA, h.Ns1 dx mA ∧ (∀ f, RelO (fs.lookup f) (mA f)) ∧ PySem.Within mA (fs.map (·.1))
  | .own _ => ∃ o, h.get? a = some o
  | .xd fs => ∃ mA, h.Ns1 a mA ∧ ∀ f, RelO (fs.lookup f) (mA f)
  | .rng lo hi => ∃ t u v, h.get? a = some { cls := .type "range", data := .fields #[.int lo t, .int hi u, .int 1 v] }
  | .frz o u => h.get? a = some o ∧ ObjOk H h a u
  | .tbl ps => h.get? a = some { cls := .none, data := .fields ps }
  | .met f x => h.get? a = some (PySem.W.methodObj (.ref f) (.ref x))
  | .ext φ => φ h ∧ (∃ o, h.get? a = some o) ∧ ∀ h1 h2 : Heap, φ h1 → (∀ o, h1.get? a = some o → h2.get? a = some o) → φ h2
/-- the abstract heap is held -/
def HOk (H : Hp) (h : Heap) : Prop := ∀ a o, H a = some o → ObjOk P w H h a o
end

section
variable {P : Program} {w : World} {H H' : Hp} {h h' : Heap} {a : Addr} {o : HO}
theorem ObjOk.lt (x : ObjOk P w H h a o) : a < h.objs.size := by
  cases o with
  | lst xs => obtain ⟨_, _, _, _, e⟩ := x; exact Heap.lt_size e
  | tup xs => obtain ⟨_, _, _, p⟩ := x; exact p.lt
  | dK kvs => obtain ⟨_, _, _, _, o, _, _, e, _⟩ := x; exact Heap.lt_size e
  | dT kvs => obtain ⟨_, _, _, _, o, _, _, e, _⟩ := x; exact Heap.lt_size e
  | set S n => obtain ⟨o, _, _, _, e, _⟩ := x; exact Heap.lt_size e
  | ins C dx fs => obtain ⟨_, _, _, e, _⟩ := x; exact Heap.lt_size e
  | own y => obtain ⟨_, e⟩ := x; exact Heap.lt_size e
  | xd fs => obtain ⟨_, ⟨_, _, _, e, _⟩, _⟩ := x; exact Heap.lt_size e
  | rng lo hi => obtain ⟨_, _, _, e⟩ := x; exact Heap.lt_size e
  | frz ob u => obtain ⟨e, _⟩ := x; exact Heap.lt_size e
  | tbl ps => exact Heap.lt_size (show h.get? a = some _ from x)
  | met f y => exact Heap.lt_size (show h.get? a = some _ from x)
  | ext φ => obtain ⟨_, ⟨_, e⟩, _⟩ := x; exact Heap.lt_size e
theorem Paired.mapP {α β : Type} {F G : α → β → Prop} : ∀ {l₁ : List α} {l₂ : List β}, Paired F l₁ l₂ → (∀ a b, F a b → G a b) → Paired G l₁ l₂
  | _, _, .nil, _ => .nil
  | _, _, .cons r t, f => .cons (f _ _ r) (Paired.mapP t f)
theorem Paired.imp' {α β : Type} {F G : α → β → Prop} (f : ∀ a b, F a b → G a b) {l₁ : List α} {l₂ : List β} (r : Paired F l₁ l₂) : Paired G l₁ l₂ := Paired.mapP r f
/-- what an object's description leans on: its own object, its own dict, the tuples -/
theorem ObjOk.stay (x : ObjOk P w H h a o) (k : ∀ b u, (b = a ∨ H b = some (.own a)) → h.get? b = some u → h'.get? b = some u)
    (ho : ∀ b, H b = some (.own a) → H' b = some (.own a)) (ht : ∀ b xs, H b = some (.tup xs) → H' b = some (.tup xs)) : ObjOk P w H' h' a o := by
  induction o with
  | lst xs => obtain ⟨z, its, n, r, e⟩ := x; exact ⟨z, its, n, r, k _ _ (.inl rfl) e⟩
  | tup xs => obtain ⟨z, its, r, ob, e, c⟩ := x; exact ⟨z, its, r, ob, k _ _ (.inl rfl) e, c⟩
  | dK kvs => obtain ⟨z, y, vs, r, ob, es, ep, e, c⟩ := x; exact ⟨z, y, vs, r, ob, es, ep, k _ _ (.inl rfl) e, c⟩
  | dT kvs =>
    obtain ⟨z, y, xs, r, ob, es, ep, e, c⟩ := x
    exact ⟨z, y, xs, Paired.mapP r fun p q z => ⟨z.1, ht _ _ z.2.1, z.2.2⟩, ob, es, ep, k _ _ (.inl rfl) e, c⟩
  | set S n => obtain ⟨ob, es, ep, t, e, c⟩ := x; exact ⟨ob, es, ep, t, k _ _ (.inl rfl) e, c⟩
  | ins C dx fs =>
    obtain ⟨d, z, ne, e, mA, ⟨od, es, ep, e2, c⟩, r⟩ := x
    exact ⟨ho _ d, z, ne, k _ _ (.inl rfl) e, mA, ⟨od, es, ep, k _ _ (.inr d) e2, c⟩, r⟩
  | own y => obtain ⟨ob, e⟩ := x; exact ⟨ob, k _ _ (.inl rfl) e⟩
  | xd fs => obtain ⟨mA, ⟨od, es, ep, e, c⟩, r⟩ := x; exact ⟨mA, ⟨od, es, ep, k _ _ (.inl rfl) e, c⟩, r⟩
  | rng lo hi => obtain ⟨t, u, v, e⟩ := x; exact ⟨t, u, v, k _ _ (.inl rfl) e⟩
  | frz ob u ih => obtain ⟨e, q⟩ := x; exact ⟨k _ _ (.inl rfl) e, ih q⟩
  | tbl ps =>
    have e : h.get? a = some { cls := .none, data := .fields ps } := x
    show h'.get? a = some { cls := .none, data := .fields ps }
    exact k a _ (.inl rfl) e
  | met f y =>
    have e : h.get? a = some (PySem.W.methodObj (.ref f) (.ref y)) := x
    show h'.get? a = some (PySem.W.methodObj (.ref f) (.ref y))
    exact k a _ (.inl rfl) e
  | ext φ => obtain ⟨p, ⟨o, e⟩, st⟩ := x; exact ⟨st _ _ p fun o q => k _ _ (.inl rfl) q, ⟨o, k _ _ (.inl rfl) e⟩, st⟩
theorem HOk.lt (x : HOk P w H h) (e : H a = some o) : a < h.objs.size := (x a o e).lt
theorem HOk.fresh (x : HOk P w H h) (e : h.objs.size ≤ a) : H a = none := by
  cases q : H a with
  | none => rfl
  | some u => exact absurd (Nat.lt_of_lt_of_le (x.lt q) e) (Nat.lt_irrefl _)
/-- every object of the heap is kept -/
theorem HOk.kept (x : HOk P w H h) (k : ∀ b u, h.get? b = some u → h'.get? b = some u) : HOk P w H h' := fun a o e =>
  (x a o e).stay (fun b u _ q => k b u q) (fun _ q => q) fun _ _ q => q
/-- a new object is laid and tracked -/
theorem HOk.laid (x : HOk P w H h) (k : ∀ b u, h.get? b = some u → h'.get? b = some u) (hp : h.objs.size ≤ a) (new : ObjOk P w (upd H a o) h' a o) : HOk P w (upd H a o) h' := fun b u e => by
  have hn := x.fresh hp
  by_cases hb : b = a
  · subst hb; rw [upd_same] at e; cases e; exact new
  · rw [upd_ne hb] at e
    exact (x b u e).stay (fun c v _ q => k c v q) (fun c q => by rw [upd_ne (ne_of_none q hn)]; exact q) fun c xs q => by rw [upd_ne (ne_of_none q hn)]; exact q
end

/-- what may be read as u: it is u, or a known u -/
def Rd (H : Hp) (a : Addr) (u : HO) : Prop := H a = some u ∨ ∃ o, H a = some (.frz o u)
theorem Rd.of {H : Hp} {a : Addr} {u : HO} (h : H a = some u) : Rd H a u := .inl h
theorem Rd.ok {P : Program} {w : World} {H : Hp} {h : Heap} {a : Addr} {u : HO} (r : Rd H a u) (x : HOk P w H h) : ObjOk P w H h a u := by
  rcases r with r | ⟨o, r⟩
  · exact x a u r
  · obtain ⟨_, q⟩ := x a _ r
    exact q
/-- what may be written -/
def Mut : Option HO → Prop
  | some (.lst _) => True
  | some (.dK _) => True
  | some (.dT _) => True
  | some (.set _ _) => True
  | some (.ins _ _ _) => True
  | some (.ext _) => True
  | _ => False
section
variable {P : Program} {w : World} {H : Hp} {h h' : Heap} {x e : Addr} {o' : HO}
/-- the object at e is changed: x itself, or the dict of the instance x -/
theorem HOk.write (ok : HOk P w H h) (mu : Mut (H x)) (he : e = x ∨ H e = some (.own x)) (k : ∀ b u, b ≠ e → h.get? b = some u → h'.get? b = some u) (heo : ∃ u, h'.get? e = some u)
    (new : ObjOk P w (upd H x o') h' x o') : HOk P w (upd H x o') h' := fun b u q => by
  have nown : ∀ c y, H c = some (.own y) → c ≠ x := fun c y r z => by subst z; rw [r] at mu; exact mu
  have ntup : ∀ c xs, H c = some (.tup xs) → c ≠ x := fun c xs r z => by subst z; rw [r] at mu; exact mu
  by_cases hb : b = x
  · subst hb; rw [upd_same] at q; cases q; exact new
  · rw [upd_ne hb] at q
    by_cases hbe : b = e
    · have q' : H b = some (.own x) := by
        rcases he with z | z
        · exact absurd (hbe.trans z) hb
        · rw [hbe]; exact z
      rw [q] at q'; cases q'
      obtain ⟨v, hv⟩ := heo
      exact ⟨v, by rw [hbe]; exact hv⟩
    · refine (ok b u q).stay (fun c v hc r => k c v ?_ r) (fun c r => by rw [upd_ne (nown c b r)]; exact r) fun c xs r => by rw [upd_ne (ntup c xs r)]; exact r
      rcases hc with rfl | hc
      · exact hbe
      · rintro rfl
        rcases he with z | z
        · exact nown c b hc z
        · rw [hc] at z; cases z; exact hb rfl
end

/-! ### kept unless tracked; of the frames at fs (the callers') the slots may change (an exception that passes writes there); of the records at ex (iterators) nothing is said -/
structure Un (fs ex : List Addr) (H H' : Hp) (h h' : Heap) : Prop where
  keep : ∀ b o, h.get? b = some o → H b = none → b ∉ fs → b ∉ ex → h'.get? b = some o
  slot : ∀ b o, h.get? b = some o → H b = none → b ∈ fs → b ∉ ex → ∃ sl, h'.get? b = some { o with slots := sl }
  free : ∀ b o, h.get? b = some o → H b = none → b ∉ ex → H' b = none
  there : ∀ b o, h.get? b = some o → b ∉ ex → ∃ o', h'.get? b = some o'
  tups : ∀ b xs, H b = some (.tup xs) → H' b = some (.tup xs)
  frzs : ∀ b o u, H b = some (.frz o u) → H' b = some (.frz o u)
  tbls : ∀ b ps, H b = some (.tbl ps) → ∃ more, H' b = some (.tbl (ps ++ more))
section
variable {fs fs' ex ex' : List Addr} {H H1 H2 : Hp} {h h1 h2 h' : Heap} {a x e : Addr} {o : HO}
theorem Un.any (u : Un fs ex H H1 h h1) {b : Addr} {ob : Obj} (q : h.get? b = some ob) (n : H b = none) (hx : b ∉ ex) : ∃ sl, h1.get? b = some { ob with slots := sl } := by
  by_cases hb : b ∈ fs
  · exact u.slot b ob q n hb hx
  · exact ⟨ob.slots, u.keep b ob q n hb hx⟩
theorem Un.trans (a : Un fs ex H H1 h h1) (b : Un fs ex H1 H2 h1 h2) : Un fs ex H H2 h h2 where
  keep := fun c ob q n hc hx => b.keep c ob (a.keep c ob q n hc hx) (a.free c ob q n hx) hc hx
  slot := fun c ob q n hc hx => by
    obtain ⟨sl, e1⟩ := a.slot c ob q n hc hx
    obtain ⟨sl', e2⟩ := b.slot c _ e1 (a.free c ob q n hx) hc hx
    exact ⟨sl', e2⟩
  free := fun c ob q n hx => by
    obtain ⟨o', e1⟩ := a.there c ob q hx
    exact b.free c o' e1 (a.free c ob q n hx) hx
  there := fun c ob q hx => by
    obtain ⟨o', e1⟩ := a.there c ob q hx
    exact b.there c o' e1 hx
  tups := fun c xs q => b.tups c xs (a.tups c xs q)
  frzs := fun c ob xs q => b.frzs c ob xs (a.frzs c ob xs q)
  tbls := fun c ps q => by
    obtain ⟨m1, e1⟩ := a.tbls c ps q
    obtain ⟨m2, e2⟩ := b.tbls c _ e1
    exact ⟨m1 ++ m2, by rw [e2, Array.append_assoc]⟩
theorem Un.kept (k : ∀ b u, h.get? b = some u → h'.get? b = some u) : Un fs ex H H h h' :=
  ⟨fun b ob q _ _ _ => k b ob q, fun b ob q _ _ _ => ⟨ob.slots, k b ob q⟩, fun _ _ _ n _ => n, fun b ob q _ => ⟨ob, k b ob q⟩, fun _ _ q => q, fun _ _ _ q => q, fun _ ps q => ⟨#[], by rw [q]; simp⟩⟩
theorem Un.refl : Un fs ex H H h h := Un.kept fun _ _ q => q
theorem Un.laid (k : ∀ b u, h.get? b = some u → h'.get? b = some u) (hp : h.objs.size ≤ a) (hn : H a = none) : Un fs ex H (upd H a o) h h' where
  keep := fun b u q _ _ _ => k b u q
  slot := fun b u q _ _ _ => ⟨u.slots, k b u q⟩
  free := fun b u q n _ => by rw [upd_ne (Nat.ne_of_lt (Nat.lt_of_lt_of_le (Heap.lt_size q) hp))]; exact n
  there := fun b u q _ => ⟨u, k b u q⟩
  tups := fun b xs q => by rw [upd_ne (ne_of_none q hn)]; exact q
  frzs := fun b u xs q => by rw [upd_ne (ne_of_none q hn)]; exact q
  tbls := fun b ps q => ⟨#[], by rw [upd_ne (ne_of_none q hn), q]; simp⟩
theorem Un.write (mu : Mut (H x)) (he : e = x ∨ H e = some (.own x)) (k : ∀ b u, b ≠ e → h.get? b = some u → h'.get? b = some u) (heo : ∃ u, h'.get? e = some u) : Un fs ex H (upd H x o) h h' := by
  have hx : ∀ b, H b = none → b ≠ x := fun b n z => by subst z; rw [n] at mu; exact mu
  have hb : ∀ b, H b = none → b ≠ e := fun b n z => by
    subst z
    rcases he with r | r
    · exact hx b n r
    · rw [n] at r; cases r
  have hm : ∀ b u, H b = some u → ¬ Mut (some u) → b ≠ x := fun b u q nm z => by subst z; rw [q] at mu; exact nm mu
  refine ⟨fun b u q n _ _ => k b u (hb b n) q, fun b u q n _ _ => ⟨u.slots, k b u (hb b n) q⟩, fun b u q n _ => by rw [upd_ne (hx b n)]; exact n, fun b u q _ => ?_,
    fun b xs q => by rw [upd_ne (hm b _ q fun z => z)]; exact q, fun b u xs q => by rw [upd_ne (hm b _ q fun z => z)]; exact q, fun b ps q => ⟨#[], by rw [upd_ne (hm b _ q fun z => z), q]; simp⟩⟩
  by_cases hbe : b = e
  · subst hbe; exact heo
  · exact ⟨u, k b u hbe q⟩
theorem Un.mono (u : Un fs ex H H1 h h1) (hs : ∀ b ∈ fs, b ∈ fs') (hx : ∀ b ∈ ex, b ∈ ex') : Un fs' ex' H H1 h h1 :=
  ⟨fun b ob q n hb he => u.keep b ob q n (fun z => hb (hs b z)) fun z => he (hx b z), fun _ _ q n _ he => u.any q n fun z => he (hx _ z), fun b ob q n he => u.free b ob q n fun z => he (hx b z), fun b ob q he => u.there b ob q fun z => he (hx b z), u.tups, u.frzs, u.tbls⟩
end

/-! ### the heap without what is tracked -/
def trk (h : Heap) (H : Hp) : List Addr := (List.range h.objs.size).filter fun a => (H a).isSome
def hidT (h : Heap) (H : Hp) : Heap := PySem.W.hideAll h (trk h H)
theorem hidT_size (h : Heap) (H : Hp) : (hidT h H).objs.size = h.objs.size := PySem.W.hideAll_size _ _
theorem hidT_get {h : Heap} {H : Hp} {b : Addr} {o : Obj} (e : h.get? b = some o) (n : H b = none) : (hidT h H).get? b = some o :=
  PySem.W.hideAll_get _ e fun hm => by
    have q : (H b).isSome = true := (List.mem_filter.mp hm).2
    rw [n] at q; simp at q
theorem of_hidT {h : Heap} {H : Hp} {b : Addr} {o : Obj} (e : (hidT h H).get? b = some o) : h.get? b = some o ∧ H b = none := by
  have e' : h.get? b = some o := PySem.W.of_hideAll (trk h H) e
  refine ⟨e', ?_⟩
  cases q : H b with
  | none => rfl
  | some x =>
    have hm : b ∈ trk h H := List.mem_filter.mpr ⟨List.mem_range.mpr (Heap.lt_size e'), by simp [q]⟩
    have z : (hidT h H).get? b = none := PySem.W.hideAll_none (trk h H) hm
    rw [z] at e; cases e

/-! ### OpenK's ledger, filled with every new object but one -/
def allNews (g h : Heap) (L : Addr) : List (Addr × Obj) := (List.range h.objs.size).filterMap fun a => if a = L ∨ (g.get? a).isSome = true then none else (h.get? a).map fun o => (a, o)
theorem mem_allNews {g h : Heap} {L a : Addr} {o : Obj} (h1 : a ≠ L) (h2 : g.get? a = none) (h3 : h.get? a = some o) : (a, o) ∈ allNews g h L :=
  List.mem_filterMap.mpr ⟨a, List.mem_range.mpr (Heap.lt_size h3), by simp [h1, h2, h3]⟩
theorem of_mem_allNews {g h : Heap} {L : Addr} {p : Addr × Obj} (hp : p ∈ allNews g h L) : p.1 ≠ L ∧ g.get? p.1 = none ∧ h.get? p.1 = some p.2 := by
  obtain ⟨b, _, e⟩ := List.mem_filterMap.mp hp
  split at e
  · cases e
  · rename_i hn
    cases q : h.get? b with
    | none => rw [q] at e; simp at e
    | some u =>
      rw [q] at e
      simp only [Option.map_some, Option.some.injEq] at e
      subst e
      refine ⟨fun z => hn (.inl z), ?_, q⟩
      show g.get? b = none
      cases r : g.get? b with
      | none => rfl
      | some v => exact (hn (.inr (by simp [r]))).elim
def rest (g h : Heap) (L d : Addr) : List (Addr × Obj) := (allNews g h L).filter fun p => decide (p.1 ≠ d)
theorem rest_ne {g h : Heap} {L d : Addr} : ∀ p ∈ rest g h L d, p.1 ≠ d := fun p hp => of_decide_eq_true (List.mem_filter.mp hp).2
theorem mem_rest {g h : Heap} {L d a : Addr} {o : Obj} (h1 : a ≠ L) (h2 : g.get? a = none) (h3 : h.get? a = some o) (h4 : a ≠ d) : (a, o) ∈ rest g h L d :=
  List.mem_filter.mpr ⟨mem_allNews h1 h2 h3, decide_eq_true h4⟩
theorem news_all {g h : Heap} {L : Addr} : News g L h (allNews g h L) := fun p hp => let ⟨a, b, c⟩ := of_mem_allNews hp; ⟨c, a, b⟩
theorem news_at {g h : Heap} {L d : Addr} {o : Obj} (h1 : d ≠ L) (h2 : g.get? d = none) (h3 : h.get? d = some o) : News g L h ((d, o) :: rest g h L d) := fun p hp => by
  rcases List.mem_cons.mp hp with rfl | hp
  · exact ⟨h3, h1, h2⟩
  · exact news_all p (List.mem_filter.mp hp).1
/-- behind a rule that changed d alone: all else but the frame is kept -/
theorem kept_of_news {g h h' : Heap} {L d : Addr} {m : Str → Option Value} (k : ∀ b o, g.get? b = some o → h.get? b = some o) (F : Fr g L h' m) (N : News g L h' (rest g h L d)) :
    ∀ b o, b ≠ L → b ≠ d → h.get? b = some o → h'.get? b = some o := fun b o h1 h2 e => by
  cases q : g.get? b with
  | some u =>
    have := k b u q
    rw [e] at this; cases this
    exact F.keep b _ q
  | none => exact (N (b, o) (mem_rest h1 q e h2)).1
end L2

namespace L2
open PySem PySem.Spec PyProof.Rows

/-- the module's facts, over the base: the heap at the law's entry without what is tracked there -/
structure Mod (K : PySem.W.Frag) (mg : Str → Option Value) (base : Heap) : Prop where
  kin : K.In base
  glob : base.Ns mainGlobals mg
  blt : ∃ mb, base.Ns builtinsNs mb ∧ ∀ x : Str, x ≠ "__name__" → mb x = bootBuiltins x
  nolimit : base.NoLimit

/-- the context: a def's body (or a comprehension's block) running. base: fixed through the whole law; s₀, H₀: the entry; outer: the frames whose slots others may change (a def's callers); stack: all frames that run;
   ex: iterators that were made ahead of the entry and are walked here (a comprehension's); fn: the names whose cells were made at the entry (a def: all; a comprehension's block: its own); calm: not within an except suite; pn: pins that every state bears; xe: what is wanted of an exception that leaves the code -/
structure Cx where
  prog : Program
  w : World
  K : PySem.W.Frag
  mg : Str → Option Value
  base : Heap
  A : Around
  N : List Str
  s₀ : Shared
  H₀ : Hp
  env : Env
  outer : List Env
  stack : List Env
  ex : List Addr
  fn : Str → Bool
  calm : Bool
  pn : List (Addr × Obj)
  xe : Value → Shared → Prop
/-- the callers' frames -/
def frs (l : List Env) : List Addr := l.filterMap (·.frame)
abbrev Cx.fs (X : Cx) : List Addr := frs X.outer

def Vis (sc : Scope) (x : Str) : Prop := sc.names.lookup x = some .local ∨ sc.names.lookup x = some .cell ∨ sc.names.lookup x = some .free
def Loc (sc : Scope) (x : Str) : Prop := sc.names.lookup x = some .local ∨ sc.names.lookup x = some .cell
def Look (env : Env) (h : Heap) (m : Str → Option Value) (x : Str) (u : Value) : Prop :=
  (env.kindOf x = some .local ∧ m x = some u) ∨ ((env.kindOf x = some .cell ∨ env.kindOf x = some .free) ∧ ∃ c, env.cells.lookup x = some c ∧ h.IsCell c (some u))

structure Cx.Ok (X : Cx) : Prop where
  mod : Mod X.K X.mg X.base
  kind : X.env.scope.kind = .function
  glob : X.env.globals = mainGlobals
  blt : X.env.builtins = builtinsNs
  above : X.s₀.heap.objs.size ≤ X.env.locals
  inj : ∀ x y c, X.env.cells.lookup x = some c → X.env.cells.lookup y = some c → x = y
  has : ∀ x, (X.env.kindOf x = some .cell ∨ X.env.kindOf x = some .free) → ∃ c, X.env.cells.lookup x = some c
  cab : ∀ x c, X.fn x = true → X.env.cells.lookup x = some c → X.s₀.heap.objs.size ≤ c
  hd : X.calm = true → X.A.handled = none
  frames : X.A.frames = some X.stack
  stk : X.stack = X.outer ∨ (X.stack = X.env :: X.outer ∧ X.env.frame = some X.env.locals)
  exf : ∀ b ∈ X.ex, b ≠ X.env.locals ∧ ∀ x c, X.env.cells.lookup x = some c → c ≠ b
  bs : ∀ b o, X.base.get? b = some o → X.s₀.heap.get? b = some o ∧ X.H₀ b = none
  bsz : X.base.objs.size ≤ X.s₀.heap.objs.size
  noex : ∀ b o, X.base.get? b = some o → b ∉ X.ex
  exfs : ∀ b ∈ X.ex, b ∉ X.fs
  funs : X.s₀.heap.FunFrames X.base X.outer
  frf : ∀ b ∈ X.fs, X.H₀ b = none

structure Inv (X : Cx) (pins : List (Addr × Obj)) (σ : List (Option V)) (H : Hp) (s : Shared) : Prop where
  ok : X.Ok
  os : s.os = X.s₀.os
  bare : AllBare s.gens
  base : Un X.fs X.ex X.H₀ H X.s₀.heap s.heap
  loc : ∃ m, s.heap.Ns X.env.locals m ∧ ∀ (i : Nat) (x : Str) (v : V), X.N[i]? = some x → σ[i]? = some (some v) → Vis X.env.scope x → ∃ u, RelV v u ∧ Look X.env s.heap m x u
  cell : ∀ x c, X.env.cells.lookup x = some c → ∃ v, s.heap.IsCell c v
  free : H X.env.locals = none
  freeC : ∀ x c, X.env.cells.lookup x = some c → H c = none
  pin : ∀ p ∈ X.pn ++ pins, s.heap.get? p.1 = some p.2 ∧ H p.1 = none ∧ p.1 ≠ X.env.locals ∧ p.1 ∉ X.fs ∧ ∀ v, p.2.data ≠ .cell v
  hok : HOk X.prog X.w H s.heap
  len : σ.length = X.N.length

section
variable {X : Cx} {pins : List (Addr × Obj)} {σ : List (Option V)} {H H' : Hp} {s : Shared} {h' : Heap}

theorem Cx.Ok.nofr (ok : X.Ok) {b : Addr} {o : Obj} (e : X.base.get? b = some o) : b ∉ X.fs := fun hb => by
  have := (ok.funs.mem hb).1
  rw [e] at this; cases this
theorem Inv.bs (I : Inv X pins σ H s) : ∀ b o, X.base.get? b = some o → s.heap.get? b = some o ∧ H b = none := fun b o e =>
  ⟨I.base.keep b o (I.ok.bs b o e).1 (I.ok.bs b o e).2 (I.ok.nofr e) (I.ok.noex b o e), I.base.free b o (I.ok.bs b o e).1 (I.ok.bs b o e).2 (I.ok.noex b o e)⟩
theorem Inv.bk (I : Inv X pins σ H s) : ∀ b o, X.base.get? b = some o → s.heap.get? b = some o := fun b o e => (I.bs b o e).1
theorem Inv.mod (I : Inv X pins σ H s) : Mod X.K X.mg X.base := I.ok.mod
theorem Inv.kIn (I : Inv X pins σ H s) : X.K.In s.heap := I.ok.mod.kin.keeps I.bk
theorem Inv.nolimit (I : Inv X pins σ H s) : s.heap.NoLimit := I.ok.mod.nolimit.keeps I.bk
/-- the frame over the base: for OpenK's rules (K.In X.base is I.mod.kin) -/
theorem Inv.fr (I : Inv X pins σ H s) : ∃ m, Fr X.base X.env.locals s.heap m :=
  let ⟨m, hn, _⟩ := I.loc
  ⟨m, hn, I.bk, Nat.le_trans I.ok.bsz I.ok.above⟩
theorem Inv.lt (I : Inv X pins σ H s) : X.env.locals < s.heap.objs.size := let ⟨_, hn, _⟩ := I.loc; hn.lt
theorem Inv.sz (I : Inv X pins σ H s) : X.s₀.heap.objs.size ≤ s.heap.objs.size := Nat.le_trans I.ok.above (Nat.le_of_lt I.lt)
theorem Inv.nofs (I : Inv X pins σ H s) {a : Addr} (h : s.heap.objs.size ≤ a) : a ∉ X.fs := fun hb => by
  obtain ⟨_, o, ho, _⟩ := I.ok.funs.mem hb
  exact absurd (Nat.lt_of_lt_of_le (Heap.lt_size ho) (Nat.le_trans I.sz h)) (Nat.lt_irrefl _)
theorem Inv.cne (I : Inv X pins σ H s) : ∀ x c, X.env.cells.lookup x = some c → c ≠ X.env.locals := fun x c e z => by
  obtain ⟨v, o, ho, hd⟩ := I.cell x c e
  obtain ⟨m, ⟨o', es, ep, ho', hd', _⟩, _⟩ := I.loc
  rw [z, ho'] at ho; cases ho; rw [hd'] at hd; cases hd
theorem Inv.funs (I : Inv X pins σ H s) : s.heap.FunFrames X.base X.outer := by
  have all : ∀ (l : List Env), (∀ b ∈ frs l, b ∈ X.fs) → X.s₀.heap.FunFrames X.base l → s.heap.FunFrames X.base l := by
    intro l
    induction l with
    | nil => intro _ _; trivial
    | cons env r ih =>
      intro hs hl
      obtain ⟨hk, ⟨L, o, hf, hn, ho, hd⟩, hr⟩ := hl
      have hL : L ∈ X.fs := hs L (by unfold frs; rw [List.filterMap_cons, hf]; exact List.mem_cons_self)
      obtain ⟨sl, e⟩ := I.base.slot L o ho (I.ok.frf L hL) hL fun z => I.ok.exfs L z hL
      exact ⟨hk, ⟨L, _, hf, hn, e, hd⟩, ih (fun b hb => hs b (by unfold frs; rw [List.filterMap_cons, hf]; exact List.mem_cons_of_mem _ hb)) hr⟩
  exact all X.outer (fun _ hb => hb) I.ok.funs

/-- the frames that run, for a call -/
theorem Inv.stack (I : Inv X pins σ H s) : s.heap.FunFrames X.base X.stack := by
  rcases I.ok.stk with e | ⟨e, hf⟩
  · rw [e]; exact I.funs
  · rw [e]
    obtain ⟨m, hn, _⟩ := I.loc
    refine .cons (by rw [I.ok.kind]; decide) hf hn ?_ I.funs
    exact Heap.get?_none_of_le (Nat.le_trans I.ok.bsz I.ok.above)
theorem Inv.stkSub (I : Inv X pins σ H s) : ∀ b ∈ frs X.stack, b ∈ X.env.locals :: X.fs := fun b hb => by
  rcases I.ok.stk with e | ⟨e, hf⟩
  · rw [e] at hb; exact List.mem_cons_of_mem _ hb
  · rw [e] at hb
    unfold frs at hb
    rw [List.filterMap_cons, hf] at hb
    exact hb
theorem Inv.stkFree (I : Inv X pins σ H s) : ∀ b ∈ frs X.stack, H b = none := fun b hb => by
  rcases List.mem_cons.mp (I.stkSub b hb) with e | hb
  · rw [e]; exact I.free
  · obtain ⟨_, o, ho, _⟩ := I.ok.funs.mem hb
    exact I.base.free b o ho (I.ok.frf b hb) fun z => I.ok.exfs b z hb

/-- THE STEP: the untracked objects but the frame and the records at ch are kept (the callers' frames up to slots), the frame's map is kept, the new abstract heap is held -/
theorem Inv.step {g' : Array GenState} {t' : Nat} {d' : Drawn} {ch : List Addr} (I : Inv X pins σ H s)
    (hch : ∀ b ∈ ch, (b ∈ X.ex ∨ X.s₀.heap.objs.size ≤ b) ∧ b ≠ X.env.locals ∧ (∀ x c, X.env.cells.lookup x = some c → c ≠ b) ∧ ∀ p ∈ X.pn ++ pins, p.1 ≠ b)
    (keep : ∀ b o, b ≠ X.env.locals → b ∉ X.fs → b ∉ ch → s.heap.get? b = some o → H b = none → h'.get? b = some o)
    (slot : ∀ b o, b ≠ X.env.locals → b ∈ X.fs → b ∉ ch → s.heap.get? b = some o → H b = none → ∃ sl, h'.get? b = some { o with slots := sl }) (free : ∀ b o, b ∉ ch → s.heap.get? b = some o → H b = none → H' b = none)
    (there : ∀ b o, b ∉ ch → s.heap.get? b = some o → ∃ o', h'.get? b = some o')
    (tups : ∀ b xs, H b = some (.tup xs) → H' b = some (.tup xs)) (frzs : ∀ b o u, H b = some (.frz o u) → H' b = some (.frz o u)) (tbls : ∀ b ps, H b = some (.tbl ps) → ∃ more, H' b = some (.tbl (ps ++ more)))
    (ns : ∀ m, s.heap.Ns X.env.locals m → h'.Ns X.env.locals m) (hok : HOk X.prog X.w H' h') (hg : AllBare g') :
    Inv X pins σ H' { s with heap := h', gens := g', drawn := d', toks := t' } := by
  have neL : ∀ b o, X.s₀.heap.get? b = some o → b ≠ X.env.locals := fun b o e => Nat.ne_of_lt (Nat.lt_of_lt_of_le (Heap.lt_size e) I.ok.above)
  have neC : ∀ b o, X.s₀.heap.get? b = some o → b ∉ X.ex → b ∉ ch := fun b o e hx hb => by
    rcases (hch b hb).1 with z | z
    · exact hx z
    · exact absurd (Nat.lt_of_lt_of_le (Heap.lt_size e) z) (Nat.lt_irrefl _)
  have cellK : ∀ x c, X.env.cells.lookup x = some c → ∀ v, s.heap.IsCell c v → h'.IsCell c v := fun x c e v ⟨o, ho, hd⟩ => by
    have nch : c ∉ ch := fun z => (hch c z).2.2.1 x c e rfl
    by_cases hc : c ∈ X.fs
    · obtain ⟨sl, q⟩ := slot c o (I.cne x c e) hc nch ho (I.freeC x c e)
      exact ⟨_, q, hd⟩
    · exact ⟨o, keep c o (I.cne x c e) hc nch ho (I.freeC x c e), hd⟩
  refine ⟨I.ok, I.os, hg, ⟨fun b o e n hb hx => ?_, fun b o e n hb hx => ?_, fun b o e n hx => ?_, fun b o e hx => ?_, fun b xs e => tups b xs (I.base.tups b xs e), fun b o xs e => frzs b o xs (I.base.frzs b o xs e), fun b ps e => ?_⟩, ?_, fun x c e => ?_, ?_, fun x c e => ?_, fun p hp => ?_, hok, I.len⟩
  · exact keep b o (neL b o e) hb (neC b o e hx) (I.base.keep b o e n hb hx) (I.base.free b o e n hx)
  · obtain ⟨sl, e1⟩ := I.base.slot b o e n hb hx
    obtain ⟨sl', e2⟩ := slot b _ (neL b o e) hb (neC b o e hx) e1 (I.base.free b o e n hx)
    exact ⟨sl', e2⟩
  · obtain ⟨o', e1⟩ := I.base.there b o e hx
    exact free b o' (neC b o e hx) e1 (I.base.free b o e n hx)
  · obtain ⟨o', e1⟩ := I.base.there b o e hx
    exact there b o' (neC b o e hx) e1
  · obtain ⟨m1, e1⟩ := I.base.tbls b ps e
    obtain ⟨m2, e2⟩ := tbls b _ e1
    exact ⟨m1 ++ m2, by rw [e2, Array.append_assoc]⟩
  · obtain ⟨m, hn, hl⟩ := I.loc
    refine ⟨m, ns m hn, fun i x v e1 e2 e3 => ?_⟩
    obtain ⟨u, r, l⟩ := hl i x v e1 e2 e3
    refine ⟨u, r, ?_⟩
    rcases l with l | ⟨k, c, e, z⟩
    · exact .inl l
    · exact .inr ⟨k, c, e, cellK x c e _ z⟩
  · obtain ⟨v, z⟩ := I.cell x c e
    exact ⟨v, cellK x c e v z⟩
  · obtain ⟨m, ⟨o, _, _, ho, _⟩, _⟩ := I.loc
    exact free _ o (fun z => (hch _ z).2.1 rfl) ho I.free
  · obtain ⟨v, o, ho, hd⟩ := I.cell x c e
    exact free c o (fun z => (hch c z).2.2.1 x c e rfl) ho (I.freeC x c e)
  · obtain ⟨e, n, ne, nf, d⟩ := I.pin p hp
    have nch : p.1 ∉ ch := fun z => (hch p.1 z).2.2.2 p hp rfl
    exact ⟨keep p.1 p.2 ne nf nch e n, free p.1 p.2 nch e n, ne, nf, d⟩
/-- .. where the frame's own object is kept too -/
theorem Inv.un {t' : Nat} (I : Inv X pins σ H s) (u : Un X.fs [] H H' s.heap h') (hok : HOk X.prog X.w H' h') : Inv X pins σ H' { s with heap := h', toks := t' } := by
  obtain ⟨m, ⟨o, es, ep, ho, r⟩, _⟩ := id I.loc
  obtain ⟨sl, hL⟩ := u.any ho I.free (by simp)
  exact I.step (g' := s.gens) (d' := s.drawn) (ch := []) (fun _ z => nomatch z) (fun b o _ hb _ e n => u.keep b o e n hb (by simp)) (fun b o _ hb _ e n => u.slot b o e n hb (by simp)) (fun b o _ e n => u.free b o e n (by simp)) (fun b o _ e => u.there b o e (by simp)) u.tups u.frzs u.tbls (fun m' hm => by
    obtain ⟨o', es', ep', ho', r'⟩ := hm
    rw [ho] at ho'; cases ho'
    exact ⟨_, es', ep', hL, r'⟩) hok I.bare
/-- behind a call (or a comprehension's block): the slots of this frame may have changed too, the records at ch may have turned -/
theorem Inv.call {g' : Array GenState} {t' : Nat} {d' : Drawn} {ch : List Addr} (I : Inv X pins σ H s) (u : Un (frs X.stack) ch H H' s.heap h') (hok : HOk X.prog X.w H' h') (hg : AllBare g')
    (hch : ∀ b ∈ ch, (b ∈ X.ex ∨ X.s₀.heap.objs.size ≤ b) ∧ b ≠ X.env.locals ∧ (∀ x c, X.env.cells.lookup x = some c → c ≠ b) ∧ ∀ p ∈ X.pn ++ pins, p.1 ≠ b) :
    Inv X pins σ H' { s with heap := h', gens := g', drawn := d', toks := t' } := by
  obtain ⟨m, ⟨o, es, ep, ho, r⟩, _⟩ := id I.loc
  obtain ⟨sl, hL⟩ := u.any ho I.free fun z => (hch _ z).2.1 rfl
  exact I.step (ch := ch) hch (fun b o hL hb hc e n => u.keep b o e n (fun z => (List.mem_cons.mp (I.stkSub b z)).elim hL hb) hc) (fun b o _ _ hc e n => u.any e n hc) (fun b o hc e n => u.free b o e n hc) (fun b o hc e => u.there b o e hc) u.tups u.frzs u.tbls (fun m' hm => by
    obtain ⟨o', es', ep', ho', r'⟩ := hm
    rw [ho] at ho'; cases ho'
    exact ⟨_, es', ep', hL, r'⟩) hok hg
/-- an untracked record of ours (an iterator) has turned -/
theorem Inv.turned {t' : Nat} {it : Addr} (I : Inv X pins σ H s) (k : ∀ b o, b ≠ it → s.heap.get? b = some o → h'.get? b = some o) (hn : H it = none) (hL : it ≠ X.env.locals)
    (h1 : it ∈ X.ex ∨ X.s₀.heap.objs.size ≤ it) (h2 : ∀ x c, X.env.cells.lookup x = some c → c ≠ it) (h3 : ∀ p ∈ X.pn ++ pins, p.1 ≠ it) : Inv X pins σ H { s with heap := h', toks := t' } := by
  have nit : ∀ b u, H b = some u → b ≠ it := fun b u e z => by rw [z, hn] at e; cases e
  refine I.step (g' := s.gens) (d' := s.drawn) (ch := [it]) (fun b hb => ?_) (fun b o _ _ hc e _ => k b o (fun z => hc (by simp [z])) e) (fun b o _ _ hc e _ => ⟨o.slots, k b o (fun z => hc (by simp [z])) e⟩) (fun _ _ _ _ n => n)
    (fun b o hc e => ⟨o, k b o (fun z => hc (by simp [z])) e⟩) (fun _ _ e => e) (fun _ _ _ e => e) (fun b ps e => ⟨#[], by rw [e]; simp⟩) (fun m hm => ?_) (fun b u e => ?_) I.bare
  · have e : b = it := by simpa using hb
    subst e
    exact ⟨h1, hL, h2, h3⟩
  · obtain ⟨o, es, ep, ho, r⟩ := hm
    exact ⟨o, es, ep, k _ o (Ne.symm hL) ho, r⟩
  · refine (I.hok b u e).stay (fun c v hc q => k c v ?_ q) (fun _ q => q) fun _ _ q => q
    rcases hc with z | z
    · rw [z]; exact nit b u e
    · exact nit c _ z
theorem Inv.tok (I : Inv X pins σ H s) (t : Nat) : Inv X pins σ H { s with toks := t } := I.un (h' := s.heap) (t' := t) Un.refl I.hok
/-- all objects kept -/
theorem Inv.kept {t' : Nat} (I : Inv X pins σ H s) (k : ∀ b u, s.heap.get? b = some u → h'.get? b = some u) : Inv X pins σ H { s with heap := h', toks := t' } := I.un (Un.kept k) (I.hok.kept k)
/-- a new object laid and tracked -/
theorem Inv.laid {a : Addr} {o : HO} {t' : Nat} (I : Inv X pins σ H s) (k : ∀ b u, s.heap.get? b = some u → h'.get? b = some u) (hp : s.heap.objs.size ≤ a) (new : ObjOk X.prog X.w (upd H a o) h' a o) :
    Inv X pins σ (upd H a o) { s with heap := h', toks := t' } := I.un (Un.laid k hp (I.hok.fresh hp)) (I.hok.laid k hp new)
/-- an object written -/
theorem Inv.write {x e : Addr} {o : HO} {t' : Nat} (I : Inv X pins σ H s) (mu : Mut (H x)) (he : e = x ∨ H e = some (.own x)) (k : ∀ b u, b ≠ e → s.heap.get? b = some u → h'.get? b = some u) (heo : ∃ u, h'.get? e = some u)
    (new : ObjOk X.prog X.w (upd H x o) h' x o) : Inv X pins σ (upd H x o) { s with heap := h', toks := t' } := I.un (Un.write mu he k heo) (I.hok.write mu he k heo new)
/-- forgetting slots, pins -/
theorem Inv.weak {σ' : List (Option V)} (I : Inv X pins σ H s) (hl : σ'.length = σ.length) (w : ∀ (i : Nat) v, σ'[i]? = some (some v) → σ[i]? = some (some v)) : Inv X pins σ' H s :=
  ⟨I.ok, I.os, I.bare, I.base, let ⟨m, hn, hl'⟩ := I.loc; ⟨m, hn, fun i x v e1 e2 e3 => hl' i x v e1 (w i v e2) e3⟩, I.cell, I.free, I.freeC, I.pin, I.hok, hl.trans I.len⟩
theorem Inv.pins_of {pins' : List (Addr × Obj)} (I : Inv X pins σ H s) (h : ∀ p ∈ pins', s.heap.get? p.1 = some p.2 ∧ H p.1 = none ∧ p.1 ≠ X.env.locals ∧ p.1 ∉ X.fs ∧ ∀ v, p.2.data ≠ .cell v) : Inv X pins' σ H s :=
  ⟨I.ok, I.os, I.bare, I.base, I.loc, I.cell, I.free, I.freeC, fun p hp => (List.mem_append.mp hp).elim (fun z => I.pin p (List.mem_append_left _ z)) (h p), I.hok, I.len⟩

theorem nodup_ix {N : List Str} (hN : N.Nodup) {i j : Nat} {x : Str} (a : N[i]? = some x) (b : N[j]? = some x) : i = j := by
  obtain ⟨h1, e1⟩ := List.getElem?_eq_some_iff.mp a
  obtain ⟨h2, e2⟩ := List.getElem?_eq_some_iff.mp b
  exact (List.getElem_inj hN).mp (e1.trans e2.symm)

/-- a name is stored; what changed -/
theorem store_ok2 {M : Model} {A : Around} {E : Value → Shared → Prop} {i : Nat} {x : Str} {v : V} {u : Value} {Q : Unit → Shared → Prop} (I : Inv X pins σ H s) (hN : X.N.Nodup) (hi : X.N[i]? = some x) (hx : Loc X.env.scope x) (r : RelV v u)
    (h : ∀ s', Inv X pins (σ.set i (some v)) H s' → (∃ a, Heap.SameBut a s.heap s'.heap ∧ (a = X.env.locals ∨ X.env.cells.lookup x = some a)) → Q () s') (hf : X.fn x = true ∨ X.env.scope.names.lookup x = some .local := by first | exact .inl rfl | exact .inr rfl | assumption) : wpAny M A (storeName X.env x u) Q E s := by
  obtain ⟨m, hn, hl⟩ := id I.loc
  have hcls : (X.env.scope.kind == .class || (X.env.scope.kind == .module && X.env.locals != X.env.globals)) = false := by rw [I.ok.kind]; rfl
  have hiσ : i < σ.length := by rw [I.len]; exact (List.getElem?_eq_some_iff.mp hi).1
  have cne := I.cne
  have tracked : ∀ {a : Addr} {h' : Heap}, (∃ o, s.heap.get? a = some o ∧ H a = none) → Heap.SameBut a s.heap h' → HOk X.prog X.w H h' := fun {a h'} ha hs b ob e => by
    obtain ⟨_, _, hfree⟩ := ha
    refine (I.hok b ob e).stay (fun c w' hc q => (hs.2 c ?_).trans q) (fun _ q => q) fun _ _ q => q
    rintro rfl
    rcases hc with rfl | hc
    · rw [hfree] at e; cases e
    · rw [hfree] at hc; cases hc
  rcases hx with hk | hk
  · refine wpAny_storeName_local hk hn (fun h' hn' hs => ?_) hcls
    obtain ⟨oL, _, _, hoL, _⟩ := id hn
    refine h _ ⟨I.ok, I.os, I.bare, ⟨fun b o e n hb hx => ?_, fun b o e n hb hx => ?_, I.base.free, fun b o e hx => ?_, I.base.tups, I.base.frzs, I.base.tbls⟩, ⟨_, hn', fun j y v' e1 e2 e3 => ?_⟩, fun y c e => ?_, I.free, I.freeC, fun p hp => ?_, tracked ⟨oL, hoL, I.free⟩ hs, by simpa using I.len⟩ ⟨_, hs, .inl rfl⟩
    · exact (hs.2 b (Nat.ne_of_lt (Nat.lt_of_lt_of_le (Heap.lt_size e) I.ok.above))).trans (I.base.keep b o e n hb hx)
    · obtain ⟨sl, e1⟩ := I.base.slot b o e n hb hx
      exact ⟨sl, (hs.2 b (Nat.ne_of_lt (Nat.lt_of_lt_of_le (Heap.lt_size e) I.ok.above))).trans e1⟩
    · obtain ⟨o', e1⟩ := I.base.there b o e hx
      exact ⟨o', (hs.2 b (Nat.ne_of_lt (Nat.lt_of_lt_of_le (Heap.lt_size e) I.ok.above))).trans e1⟩
    · by_cases hj : j = i
      · subst hj
        rw [hi] at e1; cases e1
        rw [List.getElem?_set_self hiσ] at e2
        cases e2
        exact ⟨u, r, .inl ⟨hk, by simp⟩⟩
      · rw [List.getElem?_set_ne (Ne.symm hj)] at e2
        obtain ⟨u', r', q⟩ := hl j y v' e1 e2 e3
        refine ⟨u', r', ?_⟩
        rcases q with ⟨k, e⟩ | ⟨k, c, e, z⟩
        · refine .inl ⟨k, ?_⟩
          have : y ≠ x := fun e => hj (nodup_ix hN e1 (e ▸ hi))
          simp [this, e]
        · exact .inr ⟨k, c, e, z.sameBut hs (cne y c e)⟩
    · obtain ⟨w', z⟩ := I.cell y c e
      exact ⟨w', z.sameBut hs (cne y c e)⟩
    · obtain ⟨e, n, ne, nf, d⟩ := I.pin p hp
      exact ⟨(hs.2 p.1 ne).trans e, n, ne, nf, d⟩
  · have hfn : X.fn x = true := by
      rcases hf with z | z
      · exact z
      · rw [z] at hk; cases hk
    obtain ⟨c, hc⟩ := I.ok.has x (.inl hk)
    obtain ⟨w', z⟩ := I.cell x c hc
    refine wpAny_storeName_cell I.ok.kind hk hc z (fun h' hc' hs => ?_)
    obtain ⟨oc, hoc, hocd⟩ := id z
    refine h { s with heap := h' } ⟨I.ok, I.os, I.bare, ⟨fun b o e n hb hx => ?_, fun b o e n hb hx => ?_, I.base.free, fun b o e hx => ?_, I.base.tups, I.base.frzs, I.base.tbls⟩, ⟨m, hn.sameBut hs (Ne.symm (cne x c hc)), fun j y v' e1 e2 e3 => ?_⟩, fun y c' e => ?_, I.free, I.freeC, fun p hp => ?_, tracked ⟨oc, hoc, I.freeC x c hc⟩ hs, by simpa using I.len⟩ ⟨c, hs, .inr hc⟩
    · exact (hs.2 b (Nat.ne_of_lt (Nat.lt_of_lt_of_le (Heap.lt_size e) (I.ok.cab x c hfn hc)))).trans (I.base.keep b o e n hb hx)
    · obtain ⟨sl, e1⟩ := I.base.slot b o e n hb hx
      exact ⟨sl, (hs.2 b (Nat.ne_of_lt (Nat.lt_of_lt_of_le (Heap.lt_size e) (I.ok.cab x c hfn hc)))).trans e1⟩
    · obtain ⟨o', e1⟩ := I.base.there b o e hx
      exact ⟨o', (hs.2 b (Nat.ne_of_lt (Nat.lt_of_lt_of_le (Heap.lt_size e) (I.ok.cab x c hfn hc)))).trans e1⟩
    · by_cases hj : j = i
      · subst hj
        rw [hi] at e1; cases e1
        rw [List.getElem?_set_self hiσ] at e2
        cases e2
        exact ⟨u, r, .inr ⟨.inl hk, c, hc, hc'⟩⟩
      · rw [List.getElem?_set_ne (Ne.symm hj)] at e2
        obtain ⟨u', r', q⟩ := hl j y v' e1 e2 e3
        refine ⟨u', r', ?_⟩
        rcases q with q | ⟨k, c', e, z'⟩
        · exact .inl q
        · refine .inr ⟨k, c', e, z'.sameBut hs ?_⟩
          rintro rfl
          exact hj (nodup_ix hN e1 (I.ok.inj _ _ _ e hc ▸ hi))
    · by_cases hcc : c' = c
      · subst hcc; exact ⟨_, hc'⟩
      · obtain ⟨w2, z2⟩ := I.cell y c' e
        exact ⟨w2, z2.sameBut hs hcc⟩
    · obtain ⟨e, n, ne, nf, d⟩ := I.pin p hp
      refine ⟨(hs.2 p.1 ?_).trans e, n, ne, nf, d⟩
      intro q
      rw [q, hoc] at e
      have q' : oc = p.2 := Option.some.inj e
      exact d w' (by rw [← q']; exact hocd)
theorem store_ok {M : Model} {A : Around} {E : Value → Shared → Prop} {i : Nat} {x : Str} {v : V} {u : Value} {Q : Unit → Shared → Prop} (I : Inv X pins σ H s) (hN : X.N.Nodup) (hi : X.N[i]? = some x) (hx : Loc X.env.scope x) (r : RelV v u)
    (h : ∀ s', Inv X pins (σ.set i (some v)) H s' → Q () s') (hf : X.fn x = true ∨ X.env.scope.names.lookup x = some .local := by first | exact .inl rfl | exact .inr rfl | assumption) : wpAny M A (storeName X.env x u) Q E s :=
  store_ok2 I hN hi hx r (fun s' I' _ => h s' I') hf
/-- behind a call or a block, the state as it is -/
theorem Inv.call' {s' : Shared} {ch : List Addr} (I : Inv X pins σ H s) (ho : s'.os = s.os) (u : Un (frs X.stack) ch H H' s.heap s'.heap) (hok : HOk X.prog X.w H' s'.heap) (hg : AllBare s'.gens)
    (hch : ∀ b ∈ ch, (b ∈ X.ex ∨ X.s₀.heap.objs.size ≤ b) ∧ b ≠ X.env.locals ∧ (∀ x c, X.env.cells.lookup x = some c → c ≠ b) ∧ ∀ p ∈ X.pn ++ pins, p.1 ≠ b) : Inv X pins σ H' s' := by
  obtain ⟨h', g', d', t', o'⟩ := s'
  have e : o' = s.os := ho
  subst e
  exact I.call (g' := g') (t' := t') (d' := d') u hok hg hch
end

/-! ### the judgements -/
/-- an exception: its class, its own dict's address (where it has one), the abstract heap behind it -/
abbrev XK := Value → Option Addr → Hp → Prop
abbrev St := List (Option V)
abbrev VK := V → Hp → Prop
/-- an expression's reading; a test's; an argument list's -/
abbrev TE := St → Hp → VK → Prop
abbrev TT := St → Hp → (Bool → Hp → Prop) → Prop
abbrev TA := St → Hp → (List V → Hp → Prop) → Prop
/-- what is wanted behind a statement -/
structure Ends where
  nx : St → Hp → Prop
  rt : VK
  bk : St → Hp → Prop := fun _ _ => False
  ct : St → Hp → Prop := fun _ _ => False
abbrev TS := Ends → St → Hp → Prop

def EP (X : Cx) (pins : List (Addr × Obj)) (σ : St) (Q : VK) (u : Value) (s' : Shared) : Prop := ∃ v H', Inv X pins σ H' s' ∧ RelV v u ∧ Q v H'
def TP (X : Cx) (pins : List (Addr × Obj)) (σ : St) (Q : Bool → Hp → Prop) (b : Bool) (s' : Shared) : Prop := ∃ H', Inv X pins σ H' s' ∧ Q b H'
def AP (X : Cx) (pins : List (Addr × Obj)) (σ : St) (Q : List V → Hp → Prop) (us : List Value) (s' : Shared) : Prop := ∃ vs H', Inv X pins σ H' s' ∧ Vals vs us ∧ Q vs H'
def SP (X : Cx) (pins : List (Addr × Obj)) (D : Ends) (f : Flow) (s' : Shared) : Prop :=
  match f with
  | .next => ∃ σ' H', Inv X pins σ' H' s' ∧ D.nx σ' H'
  | .brk => ∃ σ' H', Inv X pins σ' H' s' ∧ D.bk σ' H'
  | .cont => ∃ σ' H', Inv X pins σ' H' s' ∧ D.ct σ' H'
  | .ret u => ∃ v σ' H', Inv X pins σ' H' s' ∧ RelV v u ∧ D.rt v H'

def PE (X : Cx) (e : Expr) (t : TE) : Prop :=
  ∀ (pins : List (Addr × Obj)) (s : Shared) (σ : St) (H : Hp) (Q : VK), Inv X pins σ H s → t σ H Q → wpAny (model X.prog X.w) X.A (eval e X.env) (EP X pins σ Q) X.xe s
def PT (X : Cx) (e : Expr) (t : TT) : Prop :=
  ∀ (pins : List (Addr × Obj)) (s : Shared) (σ : St) (H : Hp) (Q : Bool → Hp → Prop), Inv X pins σ H s → t σ H Q → wpAny (model X.prog X.w) X.A (isTrue e X.env (eval e X.env)) (TP X pins σ Q) X.xe s
/-- a test whatever its 'whole' is (and, or) -/
def PW (X : Cx) (e : Expr) (t : TT) : Prop :=
  ∀ (whole : Sem Value) (pins : List (Addr × Obj)) (s : Shared) (σ : St) (H : Hp) (Q : Bool → Hp → Prop), Inv X pins σ H s → t σ H Q → wpAny (model X.prog X.w) X.A (isTrue e X.env whole) (TP X pins σ Q) X.xe s
theorem PW.pt {X : Cx} {e : Expr} {t : TT} (h : PW X e t) : PT X e t := h _
/-- an argument list (no star), from the left -/
def PA (X : Cx) (es : List Expr) (t : TA) : Prop :=
  ∀ (pos : Pos) (pins : List (Addr × Obj)) (s : Shared) (σ : St) (H : Hp) (Q : List V → Hp → Prop), Inv X pins σ H s → t σ H Q → wpAny (model X.prog X.w) X.A (spliced (backTo pos (starEach es X.env))) (AP X pins σ Q) X.xe s
def PS (X : Cx) (st : Stmt) (t : TS) : Prop :=
  ∀ (pins : List (Addr × Obj)) (s : Shared) (σ : St) (H : Hp) (D : Ends), Inv X pins σ H s → t D σ H → wpAny (model X.prog X.w) X.A (exec st X.env) (SP X pins D) X.xe s
def PSs (X : Cx) (st : List Stmt) (t : TS) : Prop :=
  ∀ (pins : List (Addr × Obj)) (s : Shared) (σ : St) (H : Hp) (D : Ends), Inv X pins σ H s → t D σ H → wpAny (model X.prog X.w) X.A (execs st X.env) (SP X pins D) X.xe s
/-- weaken the end -/
theorem thn {α : Type} {t : Sem α} {Q Q' : α → Shared → Prop} {M : Model} {A : Around} {E : Value → Shared → Prop} {s : Shared} (h : wpAny M A t Q E s) (hQ : ∀ a s, Q a s → Q' a s) : wpAny M A t Q' E s := wpAny_mono h hQ fun _ _ x => x
end L2

namespace L2
open PySem PySem.Spec PyProof.Rows
section
variable {X : Cx}

/-- two expressions in a row -/
theorem bin {a b : Expr} {ta tb : TE} (ha : PE X a ta) (hb : PE X b tb) {pins : List (Addr × Obj)} {s : Shared} {σ : St} {H : Hp} {R : V → V → Hp → Prop} (I : Inv X pins σ H s) (h : ta σ H fun x H1 => tb σ H1 fun y H2 => R x y H2)
    {α : Type} {Q : α → Shared → Prop} {f : Value → Value → Sem α}
    (hf : ∀ v u s2 x y H2, Inv X pins σ H2 s2 → RelV x v → RelV y u → R x y H2 → wpAny (model X.prog X.w) X.A (f v u) Q X.xe s2) :
    wpAny (model X.prog X.w) X.A (eval a X.env) (fun v s₁ => wpAny (model X.prog X.w) X.A (eval b X.env) (fun u s₂ => wpAny (model X.prog X.w) X.A (f v u) Q X.xe s₂) X.xe s₁) X.xe s := by
  refine thn (ha pins s σ H _ I h) fun v s1 ⟨x, H1, I1, r1, q1⟩ => ?_
  refine thn (hb pins s1 σ H1 _ I1 q1) fun u s2 ⟨y, H2, I2, r2, q2⟩ => ?_
  exact hf v u s2 x y H2 I2 r1 r2 q2

/-! ### names and constants -/
def tVar (i : Nat) : TE := fun σ H Q => ∃ v, σ[i]? = some (some v) ∧ Q v H
def tC (v : V) : TE := fun _ H Q => Q v H
theorem pe_var {i : Nat} {x : Str} {pos : Pos} (hN : X.N[i]? = some x) (hv : Vis X.env.scope x) (hd : (x == ("__debug__" : Str)) = false := by decide) (hcd : (x == ("__classdict__" : Str)) = false := by decide) : PE X (.Name x pos) (tVar i) := by
  intro pins s σ H Q I h
  obtain ⟨v, e, h⟩ := h
  obtain ⟨m, hn, hl⟩ := I.loc
  obtain ⟨u, r, l⟩ := hl i x v hN e hv
  have fin : EP X pins σ Q u s := ⟨v, H, I, r, h⟩
  rcases l with ⟨hk, hm⟩ | ⟨hk, c, hc, hcell⟩
  · exact wpAny_Name (wpAny_loadName_local I.ok.kind hk hn hm fin) hd
  · rcases hk with hk | hk
    · exact wpAny_Name (wpAny_loadName_cell I.ok.kind hk hc hcell fin) hd
    · exact wpAny_Name (wpAny_loadName_free I.ok.kind hk hc hcell fin hcd) hd
theorem pe_int {i j pos} : PE X (.Constant (.int i) j pos) (tC (.int i)) := fun _ _ _ H _ I h => wpAny_Constant_int ⟨.int i, H, I.tok _, ⟨_, rfl⟩, h⟩
theorem pe_bl {b j pos} : PE X (.Constant (.bool b) j pos) (tC (.bl b)) := fun _ _ _ H _ I h => Constant_bool ⟨.bl b, H, I, rfl, h⟩
theorem pe_non {j pos} : PE X (.Constant .none j pos) (tC .non) := fun _ _ _ H _ I h => Constant_none ⟨.non, H, I, rfl, h⟩
theorem pe_str {x j pos} : PE X (.Constant (.str x) j pos) (tC (.str x)) := fun _ _ _ H _ I h => Calls.Constant_str ⟨.str x, H, I.tok _, ⟨_, rfl⟩, h⟩

/-- a global name of the def -/
def Gl (X : Cx) (x : Str) : Prop := X.env.kindOf x = some .globalImplicit
theorem ld_glob {E : Value → Shared → Prop} {pins : List (Addr × Obj)} {s : Shared} {σ : St} {H : Hp} {x : Str} {u : Value} {pos : Pos} {Q : Value → Shared → Prop} (I : Inv X pins σ H s) (hg : Gl X x) (hm : X.mg x = some u) (h : Q u s)
    (hd : (x == ("__debug__" : Str)) = false := by decide) : wpAny (model X.prog X.w) X.A (eval (.Name x pos) X.env) Q E s :=
  Calls.Name_function_global I.ok.kind hg (Calls.loadGlobal_global (by rw [I.ok.glob]; exact I.mod.glob.keeps I.bk) hm h) hd
theorem ld_blt {E : Value → Shared → Prop} {pins : List (Addr × Obj)} {s : Shared} {σ : St} {H : Hp} {x : Str} {u : Value} {pos : Pos} {Q : Value → Shared → Prop} (I : Inv X pins σ H s) (hg : Gl X x) (hm : X.mg x = none) (hv : bootBuiltins x = some u) (h : Q u s)
    (hn : x ≠ "__name__" := by decide) (hd : (x == ("__debug__" : Str)) = false := by decide) : wpAny (model X.prog X.w) X.A (eval (.Name x pos) X.env) Q E s := by
  obtain ⟨mb, h1, h2⟩ := I.mod.blt
  exact Calls.Name_function_global I.ok.kind hg (Calls.loadGlobal_builtin (by rw [I.ok.glob]; exact I.mod.glob.keeps I.bk) hm (by rw [I.ok.blt]; exact h1.keeps I.bk) ((h2 x hn).trans hv) h) hd
/-- a module's constant, a class, a function, as a value -/
theorem pe_glob {x : Str} {v : V} {u : Value} {pos : Pos} (hg : Gl X x) (hm : X.mg x = some u) (r : RelV v u) (hd : (x == ("__debug__" : Str)) = false := by decide) : PE X (.Name x pos) (tC v) :=
  fun _ _ _ H _ I h => ld_glob I hg hm ⟨v, H, I, r, h⟩ hd
theorem pe_bltn {x : Str} {v : V} {u : Value} {pos : Pos} (hg : Gl X x) (hm : X.mg x = none) (hv : bootBuiltins x = some u) (r : RelV v u) (hn : x ≠ "__name__" := by decide) (hd : (x == ("__debug__" : Str)) = false := by decide) : PE X (.Name x pos) (tC v) :=
  fun _ _ _ H _ I h => ld_blt I hg hm hv ⟨v, H, I, r, h⟩ hn hd

/-! ### arithmetic -/
/-- two ints -/
def t2I (ta tb : TE) (k : Int → Int → Hp → Prop) : St → Hp → Prop := fun σ H => ta σ H fun x H1 => tb σ H1 fun y H2 => ∃ i j, x = .int i ∧ y = .int j ∧ k i j H2
def tAdd (ta tb : TE) : TE := fun σ H Q => t2I ta tb (fun i j H2 => Q (.int (i + j)) H2) σ H
def tSub (ta tb : TE) : TE := fun σ H Q => t2I ta tb (fun i j H2 => Q (.int (i - j)) H2) σ H
/-- the left factor below 2^64 -/
def tMul (ta tb : TE) : TE := fun σ H Q => t2I ta tb (fun i j H2 => (-(2 ^ 64) < i ∧ i < 2 ^ 64) ∧ Q (.int (i * j)) H2) σ H
variable {a b : Expr} {ta tb : TE} {pos : Pos}
theorem pe_add (ha : PE X a ta) (hb : PE X b tb) : PE X (.BinOp a .Add b pos) (tAdd ta tb) := by
  intro pins s σ H Q I h
  refine wpAny_BinOp (bin ha hb I h fun v u s2 x y H2 I2 rx ry q => ?_)
  obtain ⟨i, j, rfl, rfl, q⟩ := q
  obtain ⟨t, rfl⟩ := rx
  obtain ⟨t', rfl⟩ := ry
  exact add_int ⟨.int _, H2, I2.tok _, ⟨_, rfl⟩, q⟩
theorem pe_sub (ha : PE X a ta) (hb : PE X b tb) : PE X (.BinOp a .Sub b pos) (tSub ta tb) := by
  intro pins s σ H Q I h
  refine wpAny_BinOp (bin ha hb I h fun v u s2 x y H2 I2 rx ry q => ?_)
  obtain ⟨i, j, rfl, rfl, q⟩ := q
  obtain ⟨t, rfl⟩ := rx
  obtain ⟨t', rfl⟩ := ry
  exact sub_int ⟨.int _, H2, I2.tok _, ⟨_, rfl⟩, q⟩
theorem pe_mul (ha : PE X a ta) (hb : PE X b tb) : PE X (.BinOp a .Mult b pos) (tMul ta tb) := by
  intro pins s σ H Q I h
  refine wpAny_BinOp (bin ha hb I h fun v u s2 x y H2 I2 rx ry q => ?_)
  obtain ⟨i, j, rfl, rfl, ⟨q1, q2⟩, q⟩ := q
  obtain ⟨t, rfl⟩ := rx
  obtain ⟨t', rfl⟩ := ry
  exact mul_int ⟨.int _, H2, I2.tok _, ⟨_, rfl⟩, q⟩ (.of_left (intBits_le_64 q1 q2))

/-! ### comparisons -/
def PC (X : Cx) (op : CmpOp) (a b : Expr) (t : TE) : Prop :=
  ∀ (pins : List (Addr × Obj)) (s : Shared) (σ : St) (H : Hp) (Q : VK), Inv X pins σ H s → t σ H Q →
    wpAny (model X.prog X.w) X.A (eval a X.env) (fun v s₁ => wpAny (model X.prog X.w) X.A (eval b X.env) (fun u s₂ => wpAny (model X.prog X.w) X.A (compareOp op v u) (EP X pins σ Q) X.xe s₂) X.xe s₁) X.xe s
theorem nobehind (b : Expr) {op : CmpOp} (h : op ≠ .In) (h2 : op ≠ .NotIn) : behindInMarks op b = false := by
  have e1 : (op == CmpOp.In) = false := by cases op <;> first | rfl | exact absurd rfl h
  have e2 : (op == CmpOp.NotIn) = false := by cases op <;> first | rfl | exact absurd rfl h2
  cases b <;> simp [behindInMarks, e1, e2]
def tCmp (p : Int → Int → Bool) (ta tb : TE) : TE := fun σ H Q => t2I ta tb (fun i j H2 => Q (.bl (p i j)) H2) σ H
abbrev tLt : TE → TE → TE := tCmp fun i j => decide (i < j)
abbrev tLe : TE → TE → TE := tCmp fun i j => decide (i ≤ j)
abbrev tGt : TE → TE → TE := tCmp fun i j => decide (j < i)
abbrev tGe : TE → TE → TE := tCmp fun i j => decide (j ≤ i)
abbrev tEqI : TE → TE → TE := tCmp fun i j => decide (i = j)
abbrev tNeI : TE → TE → TE := tCmp fun i j => !decide (i = j)
/-- a comparison of two ints, by its rule -/
theorem pc_int {op : CmpOp} {p : Int → Int → Bool} (ha : PE X a ta) (hb : PE X b tb)
    (rule : ∀ (i j : Int) (t u : Tok) (Q : Value → Shared → Prop) (s : Shared), Q (.bool (p i j)) s → wpAny (model X.prog X.w) X.A (compareOp op (.int i t) (.int j u)) Q X.xe s) : PC X op a b (tCmp p ta tb) := by
  intro pins s σ H Q I h
  refine bin ha hb I h fun v u s2 x y H2 I2 rx ry q => ?_
  obtain ⟨i, j, rfl, rfl, q⟩ := q
  obtain ⟨t, rfl⟩ := rx
  obtain ⟨t', rfl⟩ := ry
  exact rule i j t t' _ s2 ⟨.bl _, H2, I2, rfl, q⟩
theorem pc_lt (ha : PE X a ta) (hb : PE X b tb) : PC X .Lt a b (tLt ta tb) := pc_int ha hb fun _ _ _ _ _ _ h => lt_int h
theorem pc_le (ha : PE X a ta) (hb : PE X b tb) : PC X .LtE a b (tLe ta tb) := pc_int ha hb fun _ _ _ _ _ _ h => le_int h
theorem pc_gt (ha : PE X a ta) (hb : PE X b tb) : PC X .Gt a b (tGt ta tb) := pc_int ha hb fun _ _ _ _ _ _ h => gt_int h
theorem pc_ge (ha : PE X a ta) (hb : PE X b tb) : PC X .GtE a b (tGe ta tb) := pc_int ha hb fun _ _ _ _ _ _ h => ge_int h
theorem pc_eqI (ha : PE X a ta) (hb : PE X b tb) : PC X .Eq a b (tEqI ta tb) := pc_int ha hb fun _ _ _ _ _ _ h => eq_int (by rw [Bool.beq_eq_decide_eq]; exact h)
theorem pc_neI (ha : PE X a ta) (hb : PE X b tb) : PC X .NotEq a b (tNeI ta tb) := pc_int ha hb fun _ _ _ _ _ _ h => ne_int (by rw [bne, Bool.beq_eq_decide_eq]; exact h)
/-- is None -/
def tIsN (ta : TE) : TE := fun σ H Q => ta σ H fun x H1 => Q (.bl (decide (x = .non))) H1
def tNotN (ta : TE) : TE := fun σ H Q => ta σ H fun x H1 => Q (.bl (!decide (x = .non))) H1
theorem RelV.none_iff {x : V} {v : Value} (r : RelV x v) : (v == Value.none) = decide (x = .non) := by
  cases x with
  | non => cases r; rfl
  | bl _ => cases r; rfl
  | int _ => obtain ⟨t, rfl⟩ := r; rfl
  | str _ => obtain ⟨t, rfl⟩ := r; rfl
  | byt _ => obtain ⟨t, rfl⟩ := r; rfl
  | flt _ => obtain ⟨t, rfl⟩ := r; rfl
  | ref _ => cases r; rfl
  | ty _ => cases r; rfl
theorem pc_isN {j pos'} (ha : PE X a ta) : PC X .Is a (.Constant .none j pos') (tIsN ta) := by
  intro pins s σ H Q I h
  refine thn (ha pins s σ H _ I h) fun v s1 ⟨x, H1, I1, r1, q1⟩ => ?_
  exact Constant_none (is_none_gen ⟨.bl _, H1, I1, by rw [r1.none_iff]; rfl, q1⟩)
theorem pc_notN {j pos'} (ha : PE X a ta) : PC X .IsNot a (.Constant .none j pos') (tNotN ta) := by
  intro pins s σ H Q I h
  refine thn (ha pins s σ H _ I h) fun v s1 ⟨x, H1, I1, r1, q1⟩ => ?_
  exact Constant_none (isnot_none_gen ⟨.bl _, H1, I1, by rw [r1.none_iff]; rfl, q1⟩)
/-- a comparison as a value, as a test -/
def tB (t : TE) : TT := fun σ H Q => t σ H fun x H1 => ∃ c, x = .bl c ∧ Q c H1
theorem pe_cmp {op : CmpOp} {t : TE} (h : PC X op a b t) (h1 : behindInMarks op b = false := by first | exact nobehind _ (by decide) (by decide) | rfl) : PE X (.Compare a [op] [b] pos) t := fun pins s σ H Q I hw => wpAny_Compare1 (h pins s σ H Q I hw) h1
theorem pt_cmp {op : CmpOp} {t : TE} (h : PC X op a b t) (h1 : behindInMarks op b = false := by first | exact nobehind _ (by decide) (by decide) | rfl) : PT X (.Compare a [op] [b] pos) (tB t) := by
  intro pins s σ H Q I hw
  refine wpAny_isTrue_Compare1 (thn (h pins s σ H _ I hw) fun v s1 h1 => thn h1 fun u s2 h2 => thn h2 fun c s3 ⟨x, H1, I1, r1, q1⟩ => ?_) h1
  obtain ⟨d, rfl, q⟩ := q1
  cases r1
  exact wpAny_truthy_bool ⟨H1, I1, q⟩
/-- an expression whose value is a bool, as a test -/
theorem pt_val {e : Expr} {t : TE} (h : PE X e t) (he : ∀ whole, isTrue e X.env whole = (do let v ← whole; standAt e.pos; holding [v] (truthy v)) := by intro _; rfl) : PT X e (tB t) := by
  intro pins s σ H Q I hw
  refine isTrue_plain (thn (h pins s σ H _ I hw) fun v s1 ⟨x, H1, I1, r1, q1⟩ => ?_) (he _)
  obtain ⟨d, rfl, q⟩ := q1
  cases r1
  exact wpAny_truthy_bool ⟨H1, I1, q⟩

/-! ### and, or, not -/
variable {tA tB' : TT} {rest : List Expr}
def tAnd (t u : TT) : TT := fun σ H Q => t σ H fun c H1 => if c = true then u σ H1 Q else Q false H1
def tOr (t u : TT) : TT := fun σ H Q => t σ H fun c H1 => if c = true then Q true H1 else u σ H1 Q
def tNot (t : TT) : TT := fun σ H Q => t σ H fun c H1 => Q (!c) H1
theorem pw_and1 (ha : PT X a tA) : PW X (.BoolOp .And [a] pos) tA := by
  intro wh pins s σ H Q I h
  refine isTrue_and (thn (ha pins s σ H Q I h) fun c s1 e => ?_)
  cases c with
  | true => exact isTrue_and_nil e
  | false => exact e
theorem pw_or1 (ha : PT X a tA) : PW X (.BoolOp .Or [a] pos) tA := by
  intro wh pins s σ H Q I h
  refine isTrue_or (thn (ha pins s σ H Q I h) fun c s1 e => ?_)
  cases c with
  | false => exact isTrue_or_nil e
  | true => exact e
theorem pw_and (ha : PT X a tA) (hb : PW X (.BoolOp .And (b :: rest) pos) tB') : PW X (.BoolOp .And (a :: b :: rest) pos) (tAnd tA tB') := by
  intro wh pins s σ H Q I h
  refine isTrue_and (thn (ha pins s σ H _ I h) fun c s1 ⟨H1, I1, q1⟩ => ?_)
  cases c with
  | true => exact hb wh pins s1 σ H1 Q I1 q1
  | false => exact ⟨H1, I1, q1⟩
theorem pw_or (ha : PT X a tA) (hb : PW X (.BoolOp .Or (b :: rest) pos) tB') : PW X (.BoolOp .Or (a :: b :: rest) pos) (tOr tA tB') := by
  intro wh pins s σ H Q I h
  refine isTrue_or (thn (ha pins s σ H _ I h) fun c s1 ⟨H1, I1, q1⟩ => ?_)
  cases c with
  | true => exact ⟨H1, I1, q1⟩
  | false => exact hb wh pins s1 σ H1 Q I1 q1
theorem pt_not (ha : PT X a tA) : PT X (.UnaryOp .Not a pos) (tNot tA) := by
  intro pins s σ H Q I h
  exact isTrue_not (ha pins s σ H (fun c H1 => Q (!c) H1) I h)
/-- .. as values (bools) -/
def tAndV (ta tb : TE) : TE := fun σ H Q => ta σ H fun x H1 => ∃ c, x = .bl c ∧ if c = true then tb σ H1 Q else Q (.bl false) H1
def tOrV (ta tb : TE) : TE := fun σ H Q => ta σ H fun x H1 => ∃ c, x = .bl c ∧ if c = true then Q (.bl true) H1 else tb σ H1 Q
def tNotV (ta : TE) : TE := fun σ H Q => ta σ H fun x H1 => ∃ c, x = .bl c ∧ Q (.bl (!c)) H1
theorem pe_one {op} {t : TE} (h : PE X a t) : PE X (.BoolOp op [a] pos) t := fun pins s σ H Q I hw => BoolOp_one (h pins s σ H Q I hw)
theorem pe_and (ha : PE X a ta) (hb : PE X (.BoolOp .And (b :: rest) pos) tb) : PE X (.BoolOp .And (a :: b :: rest) pos) (tAndV ta tb) := by
  intro pins s σ H Q I h
  refine BoolOp_and (thn (ha pins s σ H _ I h) fun v s1 ⟨x, H1, I1, r1, q1⟩ => ?_)
  obtain ⟨c, rfl, q1⟩ := q1
  cases r1
  refine wpAny_truthy_bool ?_
  cases c with
  | true => exact hb pins s1 σ H1 Q I1 q1
  | false => exact ⟨.bl false, H1, I1, rfl, q1⟩
theorem pe_or (ha : PE X a ta) (hb : PE X (.BoolOp .Or (b :: rest) pos) tb) : PE X (.BoolOp .Or (a :: b :: rest) pos) (tOrV ta tb) := by
  intro pins s σ H Q I h
  refine BoolOp_or (thn (ha pins s σ H _ I h) fun v s1 ⟨x, H1, I1, r1, q1⟩ => ?_)
  obtain ⟨c, rfl, q1⟩ := q1
  cases r1
  refine wpAny_truthy_bool ?_
  cases c with
  | false => exact hb pins s1 σ H1 Q I1 q1
  | true => exact ⟨.bl true, H1, I1, rfl, q1⟩
theorem pe_not (ha : PE X a ta) : PE X (.UnaryOp .Not a pos) (tNotV ta) := by
  intro pins s σ H Q I h
  refine UnaryOp_ (thn (ha pins s σ H _ I h) fun v s1 ⟨x, H1, I1, r1, q1⟩ => ?_)
  obtain ⟨c, rfl, q1⟩ := q1
  cases r1
  exact not_of (wpAny_truthy_bool ⟨.bl (!c), H1, I1, rfl, q1⟩)
/-- a if t else b -/
def tIf (t : TT) (ta tb : TE) : TE := fun σ H Q => t σ H fun c H1 => if c = true then ta σ H1 Q else tb σ H1 Q
theorem pe_ifExp {c : Expr} (hc : PT X c tA) (ha : PE X a ta) (hb : PE X b tb) : PE X (.IfExp c a b pos) (tIf tA ta tb) := by
  intro pins s σ H Q I h
  refine wpAny_IfExp (thn (hc pins s σ H _ I h) fun d s1 ⟨H1, I1, q1⟩ => ?_)
  cases d with
  | true => exact ha pins s1 σ H1 Q I1 q1
  | false => exact hb pins s1 σ H1 Q I1 q1
end
end L2

namespace L2
open PySem PySem.Spec PyProof.Rows

/-! ### a list, a tuple that is read: tracked, frozen, or an object of the module -/
def SqL (K : PySem.W.Frag) (H : Hp) (a : Addr) (xs : List V) : Prop :=
  Rd H a (.lst xs) ∨
    ∃ (o : Obj) (its : Array Value) (n : Nat), K.lookup a = some o ∧ o.cls = .type "list" ∧ o.dict = none ∧ o.data = .seq its n ∧ its.size ≤ sizeLine ∧ Vals xs its.toList
def SqT (K : PySem.W.Frag) (H : Hp) (a : Addr) (xs : List V) : Prop :=
  Rd H a (.tup xs) ∨
    ∃ (o : Obj) (its : Array Value) (n : Nat), K.lookup a = some o ∧ o.cls = .type "tuple" ∧ o.data = .seq its n ∧ its.size ≤ sizeLine ∧ Vals xs its.toList
def absV : Value → Option V
  | .none => some .non
  | .bool b => some (.bl b)
  | .int i _ => some (.int i)
  | .str x _ => some (.str x)
  | .bytes b _ => some (.byt b)
  | .float b _ => some (.flt b)
  | .ref a => some (.ref a)
  | .type n => some (.ty n)
  | _ => none
theorem RelV.abs {x : V} {u : Value} (r : RelV x u) : absV u = some x := by
  cases x with
  | non => cases r; rfl
  | bl _ => cases r; rfl
  | int _ => obtain ⟨t, rfl⟩ := r; rfl
  | str _ => obtain ⟨t, rfl⟩ := r; rfl
  | byt _ => obtain ⟨t, rfl⟩ := r; rfl
  | flt _ => obtain ⟨t, rfl⟩ := r; rfl
  | ref _ => cases r; rfl
  | ty _ => cases r; rfl
theorem RelV.inj {x y : V} {u : Value} (r : RelV x u) (q : RelV y u) : x = y := Option.some.inj (r.abs.symm.trans q.abs)
theorem Vals.inj : ∀ {xs ys : List V} {us : List Value}, Vals xs us → Vals ys us → xs = ys
  | _, _, _, .nil, .nil => rfl
  | _, _, _, .cons r t, .cons r' t' => by rw [r.inj r', Vals.inj t t']
section
variable {X : Cx} {pins : List (Addr × Obj)} {σ : St} {H : Hp} {s : Shared} {a : Addr} {xs ys : List V}
theorem SqL.of {K : PySem.W.Frag} (h : H a = some (.lst xs)) : SqL K H a xs := .inl (.inl h)
theorem SqT.of {K : PySem.W.Frag} (h : H a = some (.tup xs)) : SqT K H a xs := .inl (.inl h)
theorem Inv.list (I : Inv X pins σ H s) (h : SqL X.K H a xs) : ∃ its : List Value, Vals xs its ∧ PlainL s.heap a its.toArray ∧ xs.length ≤ sizeLine := by
  rcases h with h | ⟨o, its, n, hk, hc, hd, hs, hz, r⟩
  · obtain ⟨z, its, n, r, e⟩ := h.ok I.hok
    exact ⟨its, r, ⟨_, n, e, rfl, rfl, rfl⟩, z⟩
  · refine ⟨its.toList, r, ⟨o, n, I.kIn a o hk, hc, hd, by simpa using hs⟩, ?_⟩
    have e := r.length
    simp only [Array.length_toList] at e
    omega
theorem Inv.tuple (I : Inv X pins σ H s) (h : SqT X.K H a xs) : ∃ its : List Value, Vals xs its ∧ IsTup s.heap a its.toArray ∧ xs.length ≤ sizeLine := by
  rcases h with h | ⟨o, its, n, hk, hc, hs, hz, r⟩
  · obtain ⟨z, its, r, p⟩ := h.ok I.hok
    exact ⟨its, r, p, z⟩
  · refine ⟨its.toList, r, ⟨o, I.kIn a o hk, hc, n, by simpa using hs⟩, ?_⟩
    have e := r.length
    simp only [Array.length_toList] at e
    omega
theorem Inv.list_inj (I : Inv X pins σ H s) (h : SqL X.K H a xs) (h' : SqL X.K H a ys) : xs = ys := by
  obtain ⟨its, r, ⟨o, n, e, _, _, d⟩, _⟩ := I.list h
  obtain ⟨its', r', ⟨o', n', e', _, _, d'⟩, _⟩ := I.list h'
  rw [e] at e'; cases e'
  rw [d] at d'
  injection d' with d1 _
  have : its = its' := by simpa using congrArg Array.toList d1
  subst this
  exact r.inj r'
theorem Inv.tuple_inj (I : Inv X pins σ H s) (h : SqT X.K H a xs) (h' : SqT X.K H a ys) : xs = ys := by
  obtain ⟨its, r, ⟨o, e, _, n, d⟩, _⟩ := I.tuple h
  obtain ⟨its', r', ⟨o', e', _, n', d'⟩, _⟩ := I.tuple h'
  rw [e] at e'; cases e'
  rw [d] at d'
  injection d' with d1 _
  have : its = its' := by simpa using congrArg Array.toList d1
  subst this
  exact r.inj r'
end

/-! ### another wish about exceptions -/
abbrev Cx.wish (X : Cx) (E : Value → Shared → Prop) : Cx := { X with xe := E }
/-- no exception leaves -/
abbrev Cx.nox (X : Cx) : Cx := X.wish fun _ _ => False
theorem Cx.Ok.wish {X : Cx} (ok : X.Ok) (E : Value → Shared → Prop) : (X.wish E).Ok :=
  ⟨ok.mod, ok.kind, ok.glob, ok.blt, ok.above, ok.inj, ok.has, ok.cab, ok.hd, ok.frames, ok.stk, ok.exf, ok.bs, ok.bsz, ok.noex, ok.exfs, ok.funs, ok.frf⟩
theorem Cx.Ok.unwish {X : Cx} {E : Value → Shared → Prop} (ok : (X.wish E).Ok) : X.Ok :=
  ⟨ok.mod, ok.kind, ok.glob, ok.blt, ok.above, ok.inj, ok.has, ok.cab, ok.hd, ok.frames, ok.stk, ok.exf, ok.bs, ok.bsz, ok.noex, ok.exfs, ok.funs, ok.frf⟩
section
variable {X : Cx} {pins : List (Addr × Obj)} {σ : St} {H : Hp} {s : Shared} {E : Value → Shared → Prop}
theorem Inv.wish (I : Inv X pins σ H s) (E : Value → Shared → Prop) : Inv (X.wish E) pins σ H s := ⟨I.ok.wish E, I.os, I.bare, I.base, I.loc, I.cell, I.free, I.freeC, I.pin, I.hok, I.len⟩
theorem Inv.unwish (I : Inv (X.wish E) pins σ H s) : Inv X pins σ H s := ⟨I.ok.unwish, I.os, I.bare, I.base, I.loc, I.cell, I.free, I.freeC, I.pin, I.hok, I.len⟩
theorem SP.unwish {D : Ends} {f : Flow} {s' : Shared} (h : SP (X.wish E) pins D f s') : SP X pins D f s' := by
  cases f with
  | next => obtain ⟨σ', H', I, q⟩ := h; exact ⟨σ', H', I.unwish, q⟩
  | brk => obtain ⟨σ', H', I, q⟩ := h; exact ⟨σ', H', I.unwish, q⟩
  | cont => obtain ⟨σ', H', I, q⟩ := h; exact ⟨σ', H', I.unwish, q⟩
  | ret u => obtain ⟨v, σ', H', I, r, q⟩ := h; exact ⟨v, σ', H', I.unwish, r, q⟩
theorem PE.nox {e : Expr} {t : TE} (h : PE X.nox e t) : PE X e t := fun pins s σ H Q I hw =>
  wpAny_mono (h pins s σ H Q (I.wish _) hw) (fun _ _ ⟨v, H', I', r, q⟩ => ⟨v, H', I'.unwish, r, q⟩) fun _ _ z => False.elim z
theorem PT.nox {e : Expr} {t : TT} (h : PT X.nox e t) : PT X e t := fun pins s σ H Q I hw =>
  wpAny_mono (h pins s σ H Q (I.wish _) hw) (fun _ _ ⟨H', I', q⟩ => ⟨H', I'.unwish, q⟩) fun _ _ z => False.elim z
theorem PSs.nox {st : List Stmt} {t : TS} (h : PSs X.nox st t) : PSs X st t := fun pins s σ H D I hw =>
  wpAny_mono (h pins s σ H D (I.wish _) hw) (fun _ _ q => q.unwish) fun _ _ z => False.elim z
end

/-! ### blocks and small statements -/
section
variable {X : Cx} {st : Stmt} {rest : List Stmt} {t u : TS} {e : Expr} {te : TE} {pos : Pos}
def tNext : TS := fun D σ H => D.nx σ H
def tSeq (t u : TS) : TS := fun D σ H => t { D with nx := u D } σ H
theorem pss_nil : PSs X [] tNext := fun _ _ σ H _ I h => wpAny_execs_nil ⟨σ, H, I, h⟩
theorem pss_cons (h1 : PS X st t) (h2 : PSs X rest u) : PSs X (st :: rest) (tSeq t u) := by
  intro pins s σ H D I h
  refine wpAny_execs_cons (thn (h1 pins s σ H { D with nx := u D } I h) fun f s1 q => ?_)
  cases f with
  | next =>
    obtain ⟨σ', H', I', q⟩ := q
    exact h2 pins s1 σ' H' D I' q
  | ret v => exact q
  | brk => exact q
  | cont => exact q
theorem pss_one (h1 : PS X st t) : PSs X [st] t := by
  intro pins s σ H D I h
  refine wpAny_execs_cons (thn (h1 pins s σ H D I h) fun f s1 q => ?_)
  cases f with
  | next => exact wpAny_execs_nil q
  | ret v => exact q
  | brk => exact q
  | cont => exact q
def tBreak : TS := fun D σ H => D.bk σ H
def tCont : TS := fun D σ H => D.ct σ H
theorem ps_pass : PS X (.Pass pos) tNext := fun _ _ σ H _ I h => wpAny_Pass ⟨σ, H, I, h⟩
theorem ps_break : PS X (.Break pos) tBreak := fun _ _ σ H _ I h => wpAny_Break ⟨σ, H, I, h⟩
theorem ps_continue : PS X (.Continue pos) tCont := fun _ _ σ H _ I h => wpAny_Continue ⟨σ, H, I, h⟩
/-- in a def's body nothing is shown -/
theorem Inv.quiet {pins : List (Addr × Obj)} {σ : St} {H : Hp} {s : Shared} (I : Inv X pins σ H s) : interactive X.env = false := by simp [interactive, I.ok.kind]
/-- a docstring -/
theorem ps_doc {x j pos pos'} : PS X (.Expr (.Constant (.str x) j pos) pos') tNext := fun _ s σ H _ I h => wpAny_Expr (Calls.Constant_str (show SP X _ _ .next { s with toks := s.toks + 1 } from ⟨σ, H, I.tok _, h⟩)) I.quiet
/-- an expression whose value is dropped -/
def tDrop (te : TE) : TS := fun D σ H => te σ H fun _ H1 => D.nx σ H1
theorem ps_expr (he : PE X e te) (hs : swapsWith e none pos.line X.env = pure false := by rfl) : PS X (.Expr e pos) (tDrop te) := by
  intro pins s σ H D I h
  exact wpAny_Expr_any (thn (he pins s σ H _ I h) fun v s1 ⟨x, H1, I1, r1, q1⟩ => ⟨σ, H1, I1, q1⟩) I.quiet hs
def tRet (te : TE) : TS := fun D σ H => te σ H D.rt
theorem ps_ret (he : PE X e te) : PS X (.Return (some e) pos) (tRet te) := by
  intro pins s σ H D I h
  exact wpAny_Return_some (thn (he pins s σ H _ I h) fun v s1 ⟨x, H1, I1, r1, q1⟩ => ⟨x, σ, H1, I1, r1, q1⟩)
def tRetN : TS := fun D _ H => D.rt .non H
theorem ps_retN : PS X (.Return none pos) tRetN := fun _ _ σ H _ I h => wpAny_Return_none ⟨.non, σ, H, I, rfl, h⟩
def tIfS (c : TT) (t u : TS) : TS := fun D σ H => c σ H fun b H1 => if b = true then t D σ H1 else u D σ H1
theorem ps_if {c : Expr} {a b : List Stmt} {tc : TT} (hc : PT X c tc) (ha : PSs X a t) (hb : PSs X b u) : PS X (.If c a b pos) (tIfS tc t u) := by
  intro pins s σ H D I h
  refine wpAny_If (thn (hc pins s σ H _ I h) fun d s1 ⟨H1, I1, q1⟩ => ?_)
  cases d with
  | true => exact ha pins s1 σ H1 D I1 q1
  | false => exact hb pins s1 σ H1 D I1 q1
/-- code that the proof never comes to -/
def tNever : TS := fun _ _ _ => False
theorem ps_never : PS X st tNever := fun _ _ _ _ _ _ h => h.elim
theorem pss_never {sts : List Stmt} : PSs X sts tNever := fun _ _ _ _ _ _ h => h.elim
end

/-! ### targets -/
abbrev TG := V → St → Hp → (St → Hp → Prop) → Prop
abbrev TGs := List V → St → Hp → (St → Hp → Prop) → Prop
def PG (X : Cx) (target : Expr) (t : TG) : Prop :=
  ∀ (pins : List (Addr × Obj)) (s : Shared) (σ : St) (H : Hp) (v : V) (u : Value) (Q : St → Hp → Prop), Inv X pins σ H s → RelV v u → t v σ H Q →
    wpAny (model X.prog X.w) X.A (assign target X.env u) (fun _ s' => ∃ σ' H', Inv X pins σ' H' s' ∧ Q σ' H') X.xe s
/-- several targets, one after another -/
def PGs (X : Cx) (ts : List Expr) (t : TGs) : Prop :=
  ∀ (pins : List (Addr × Obj)) (s : Shared) (σ : St) (H : Hp) (vs : List V) (us : List Value) (Q : St → Hp → Prop), Inv X pins σ H s → Vals vs us → t vs σ H Q →
    wpAny (model X.prog X.w) X.A (assignInOrder ((assignEach ts X.env).map (·.2)) us) (fun _ s' => ∃ σ' H', Inv X pins σ' H' s' ∧ Q σ' H') X.xe s
/-- o[i] = v, by values -/
abbrev TSet := V → V → V → Hp → (Hp → Prop) → Prop
def PSet (X : Cx) (t : TSet) : Prop :=
  ∀ (pins : List (Addr × Obj)) (s : Shared) (σ : St) (H : Hp) (o i v : V) (ov iv u : Value) (Q : Hp → Prop), Inv X pins σ H s → RelV o ov → RelV i iv → RelV v u → t o i v H Q →
    wpAny (model X.prog X.w) X.A (setItem ov iv u) (fun _ s' => ∃ H', Inv X pins σ H' s' ∧ Q H') X.xe s
/-- a op= b, by values -/
abbrev TIp := V → V → Hp → VK → Prop
def PIp (X : Cx) (op : Operator) (t : TIp) : Prop :=
  ∀ (pins : List (Addr × Obj)) (s : Shared) (σ : St) (H : Hp) (x y : V) (v u : Value) (Q : VK), Inv X pins σ H s → RelV x v → RelV y u → t x y H Q →
    wpAny (model X.prog X.w) X.A (inplaceOp op v u) (EP X pins σ Q) X.xe s
section
variable {X : Cx} {pos : Pos}
def gName (i : Nat) : TG := fun v σ H Q => Q (σ.set i (some v)) H
theorem pg_name {i : Nat} {x : Str} (hN : X.N.Nodup) (hi : X.N[i]? = some x) (hx : Loc X.env.scope x) (hf : X.fn x = true ∨ X.env.scope.names.lookup x = some .local := by first | exact .inl rfl | exact .inr rfl | assumption) : PG X (.Name x pos) (gName i) := by
  intro pins s σ H v u Q I r h
  exact wpAny_assign_Name (store_ok I hN hi hx r (fun s' I' => ⟨_, H, I', h⟩) hf)
def gNil : TGs := fun vs σ H Q => vs = [] ∧ Q σ H
def gCons (t : TG) (u : TGs) : TGs := fun vs σ H Q => ∃ v r, vs = v :: r ∧ t v σ H fun σ' H' => u r σ' H' Q
theorem pgs_nil : PGs X [] gNil := by
  intro pins s σ H vs us Q I r h
  obtain ⟨e, h⟩ := h
  subst e
  cases r
  exact assignInOrder_nil ⟨σ, H, I, h⟩
theorem pgs_cons {e : Expr} {es : List Expr} {t : TG} {u : TGs} (h1 : PG X e t) (h2 : PGs X es u)
    (hs : (assignEach (e :: es) X.env).map (·.2) = assign e X.env :: (assignEach es X.env).map (·.2) := by rfl) : PGs X (e :: es) (gCons t u) := by
  intro pins s σ H vs us Q I r h
  obtain ⟨v, vr, e1, h⟩ := h
  subst e1
  cases r with
  | cons r rr =>
    rw [hs]
    refine assignInOrder_cons (thn (h1 pins s σ H _ _ _ I r h) fun _ s1 ⟨σ1, H1, I1, q1⟩ => ?_)
    exact h2 pins s1 σ1 H1 _ _ Q I1 rr q1
/-- (a, b, ..) = a tuple of that length -/
def gTup (K : PySem.W.Frag) (n : Nat) (t : TGs) : TG := fun v σ H Q => ∃ a xs, v = .ref a ∧ SqT K H a xs ∧ xs.length = n ∧ t xs σ H Q
theorem pg_tup {es : List Expr} {k : Nat} {t : TGs} {n : Nat} (hc : X.calm = true) (h : PGs X es t)
    (hn : (assignEach es X.env).length = n := by rfl) (hst : (assignEach es X.env).findIdx? (·.1) = none := by rfl) : PG X (.Tuple es k pos) (gTup X.K n t) := by
  intro pins s σ H v u Q I r hw
  obtain ⟨a, xs, e1, hq, hl, hw⟩ := hw
  subst e1
  cases r
  obtain ⟨its, rv, ht, hz⟩ := I.tuple hq
  refine assign_Tuple_tuple (I.ok.hd hc) ht (by simp [hn, ← hl, rv.length]) hst fun h' hx => ?_
  have I1 : Inv X pins σ H { s with heap := h' } := I.kept (t' := s.toks) fun b o e => hx b o (Nat.ne_of_lt (Heap.lt_size e)) e
  exact h pins _ σ H xs _ Q I1 (by simpa using rv) hw
/-- o[i] = .. -/
def gSub (to ti : TE) (t : TSet) : TG := fun v σ H Q => to σ H fun o H1 => ti σ H1 fun i H2 => t o i v H2 fun H3 => Q σ H3
theorem pg_sub {o i : Expr} {to ti : TE} {t : TSet} (ho : PE X o to) (hi : PE X i ti) (hs : PSet X t)
    (ha : ∀ v, assign (.Subscript o i pos) X.env v = (do
      let ov ← holding [v] (eval o X.env)
      let iv ← holding [v, ov] (eval i X.env)
      standAt pos
      holding [v, ov, iv] (setItem ov iv v)
      release [v, ov, iv] []) := by intro _; rfl) : PG X (.Subscript o i pos) (gSub to ti t) := by
  intro pins s σ H v u Q I r h
  rw [ha]
  refine wpAny_bind (wpAny_holding (thn (ho pins s σ H _ I h) fun ov s1 ⟨x, H1, I1, r1, q1⟩ => ?_))
  refine wpAny_bind (wpAny_holding (thn (hi pins s1 σ H1 _ I1 q1) fun iv s2 ⟨y, H2, I2, r2, q2⟩ => ?_))
  refine wpAny_bind (wpAny_standAt (wpAny_bind (wpAny_holding (thn (hs pins s2 σ H2 x y v ov iv u _ I2 r1 r2 r q2) fun _ s3 ⟨H3, I3, q3⟩ => ?_))))
  exact wpAny_release ⟨σ, H3, I3, q3⟩
/-- target = value -/
def tAsg (te : TE) (g : TG) : TS := fun D σ H => te σ H fun x H1 => g x σ H1 D.nx
theorem ps_asg {tg e : Expr} {te : TE} {g : TG} (he : PE X e te) (hg : PG X tg g) (hs : swapsWithSole [tg] e pos.line X.env = pure false := by rfl) (hw : swappedStores [tg] e X.env = pure none := by rfl)
    (h1 : (assignEach [tg] X.env).map (·.2) = [assign tg X.env] := by rfl) : PS X (.Assign [tg] e pos) (tAsg te g) := by
  intro pins s σ H D I h
  refine wpAny_Assign_stores (thn (he pins s σ H _ I h) fun v s1 ⟨x, H1, I1, r1, q1⟩ => ?_) hs hw
  rw [h1]
  exact thn (hg pins s1 σ H1 x v _ I1 r1 q1) fun _ s2 q => q
/-- name = value -/
theorem ps_set {i : Nat} {x : Str} {e : Expr} {te : TE} {pos' : Pos} (hN : X.N.Nodup) (hi : X.N[i]? = some x) (hx : Loc X.env.scope x) (he : PE X e te) (hs : swapsWith e (some (.Name x pos')) pos.line X.env = pure false := by rfl) (hf : X.fn x = true ∨ X.env.scope.names.lookup x = some .local := by first | exact .inl rfl | exact .inr rfl | assumption) :
    PS X (.Assign [.Name x pos'] e pos) (tAsg te (gName i)) := by
  intro pins s σ H D I h
  refine wpAny_Assign_Name (thn (he pins s σ H _ I h) fun v s1 ⟨y, H1, I1, r1, q1⟩ => ?_) hs
  exact store_ok I1 hN hi hx r1 (fun s2 I2 => ⟨_, H1, I2, q1⟩) hf
/-- a, b = x, y with plain local names: stored from the right; the pair itself is not tracked (the opening rows as in PyProof/Rows/TupAssign.lean:23) -/
def tPar (i j : Nat) (ta : TA) : TS := fun D σ H => ta σ H fun vs H1 => ∃ v w, vs = [v, w] ∧ D.nx ((σ.set i (some v)).set j (some w)) H1
theorem ps_par {i j : Nat} {x y : Str} {a b : Expr} {ta : TA} {px py pt : Pos} {kt k2 pt2} (hc : X.calm = true) (hN : X.N.Nodup) (hi : X.N[i]? = some x) (hj : X.N[j]? = some y) (hij : i ≠ j)
    (hx : X.env.scope.names.lookup x = some .local) (hy : X.env.scope.names.lookup y = some .local) (ha : PA X [a, b] ta)
    (hw : swappedStores [.Tuple [.Name x px, .Name y py] kt pt] (.Tuple [a, b] k2 pt2) X.env = pure (some [x, y]))
    (hs : swapsWithSole [.Tuple [.Name x px, .Name y py] kt pt] (.Tuple [a, b] k2 pt2) pos.line X.env = pure false := by rfl) :
    PS X (.Assign [.Tuple [.Name x px, .Name y py] kt pt] (.Tuple [a, b] k2 pt2) pos) (tPar i j ta) := by
  intro pins s σ H D I h
  rw [exec_Assign_arm]
  refine wpAny_bind (wpAny_standAt ?_)
  rw [hs]
  refine wpAny_bind (wpAny_pure ?_)
  rw [if_neg (by decide)]
  refine wpAny_bind (Tuple_ (thn (ha _ pins s σ H _ I h) fun us s1 ⟨vs, H1, I1, r1, q1⟩ => ?_))
  obtain ⟨v, w, e1, q1⟩ := q1
  subst e1
  obtain ⟨u1, u2, rfl, rv, rw'⟩ : ∃ u1 u2, us = [u1, u2] ∧ RelV v u1 ∧ RelV w u2 := by
    cases r1 with
    | cons p q =>
      cases q with
      | cons p' q' =>
        cases q'
        exact ⟨_, _, rfl, p, p'⟩
  refine wpAny_newObj_type ?_ (by show 2 ≤ sizeLine; decide)
  have I2 : Inv X pins σ H1 { s1 with heap := s1.heap.push { cls := .type "tuple", data := .seq [u1, u2].toArray } } := I1.kept (t' := s1.toks) fun b o e => Heap.get?_push_of_some _ e
  rw [hw]
  refine wpAny_bind (wpAny_pure ?_)
  show wpAny (model X.prog X.w) X.A (do rule "assign.swapped-stores"; let items ← unpackItems (.ref s1.heap.objs.size) 2 none; assignInOrder [fun v => bindName X.env y v, fun v => bindName X.env x v] items.reverse; pure Flow.next) _ _ _
  refine wpAny_bind (wpAny_rule (wpAny_bind (unpackItems_tuple (items := #[u1, u2]) (I.ok.hd hc) (IsTup.new s1.heap _) fun h' hx' => ?_)))
  have I3 := I2.kept (h' := h') (t' := s1.toks) fun b o e => hx' b o (Nat.ne_of_lt (Heap.lt_size e)) e
  show wpAny _ _ (assignInOrder [fun v => bindName X.env y v, fun v => bindName X.env x v] [u2, u1] >>= fun _ => pure Flow.next) _ _ _
  refine wpAny_bind (assignInOrder_cons (wpAny_bindName (store_ok I3 hN hj (.inl hy) rw' (fun s2 I4 => ?_) (.inr hy))))
  refine assignInOrder_cons (wpAny_bindName (store_ok I4 hN hi (.inl hx) rv (fun s3 I5 => assignInOrder_nil (wpAny_pure ?_)) (.inr hx)))
  rw [List.set_comm _ _ (Ne.symm hij)] at I5
  exact ⟨_, H1, I5, q1⟩
/-- name op= e -/
def tAug (i : Nat) (te : TE) (ti : TIp) : TS := fun D σ H => ∃ x, σ[i]? = some (some x) ∧ te σ H fun y H1 => ti x y H1 fun z H2 => D.nx (σ.set i (some z)) H2
theorem ps_aug {i : Nat} {x : Str} {e : Expr} {te : TE} {op : Operator} {ti : TIp} {pos' : Pos} (hN : X.N.Nodup) (hi : X.N[i]? = some x) (hx : Loc X.env.scope x) (he : PE X e te) (ho : PIp X op ti) (hf : X.fn x = true ∨ X.env.scope.names.lookup x = some .local := by first | exact .inl rfl | exact .inr rfl | assumption) :
    PS X (.AugAssign (.Name x pos') op e pos) (tAug i te ti) := by
  intro pins s σ H D I h
  obtain ⟨v, e1, h⟩ := h
  obtain ⟨m, hn, hl⟩ := I.loc
  have vis : Vis X.env.scope x := by rcases hx with k | k; exact .inl k; exact .inr (.inl k)
  obtain ⟨u, r, l⟩ := hl i x v hi e1 vis
  refine wpAny_AugAssign_Name ?_
  have go : wpAny (model X.prog X.w) X.A (eval e X.env) (fun w s₂ => wpAny (model X.prog X.w) X.A (inplaceOp op u w) (fun r s₃ => wpAny (model X.prog X.w) X.A (storeName X.env x r) (fun _ => SP X pins D .next) X.xe s₃) X.xe s₂) X.xe s := by
    refine thn (he pins s σ H _ I h) fun w s1 ⟨y, H1, I1, r1, q1⟩ => ?_
    refine thn (ho pins s1 σ H1 v y u w _ I1 r r1 q1) fun z s2 ⟨zv, H2, I2, r2, q2⟩ => ?_
    exact store_ok I2 hN hi hx r2 (fun s3 I3 => ⟨_, H2, I3, q2⟩) hf
  rcases l with ⟨hk, hm⟩ | ⟨hk, c, hc, hcell⟩
  · exact wpAny_loadName_local I.ok.kind hk hn hm go
  · rcases hk with hk | hk
    · exact wpAny_loadName_cell I.ok.kind hk hc hcell go
    · rcases hx with k | k
      · have : X.env.scope.names.lookup x = some .free := hk
        rw [k] at this; cases this
      · have : X.env.scope.names.lookup x = some .free := hk
        rw [k] at this; cases this
/-- o[i] op= e -/
def tAugS (to ti te : TE) (tget : V → V → Hp → VK → Prop) (tip : TIp) (tset : TSet) : TS := fun D σ H => to σ H fun o H1 => ti σ H1 fun i H2 => tget o i H2 fun x H3 => te σ H3 fun y H4 => tip x y H4 fun z H5 => tset o i z H5 fun H6 => D.nx σ H6
/-- o[i], by values -/
def PGet (X : Cx) (t : V → V → Hp → VK → Prop) : Prop :=
  ∀ (pins : List (Addr × Obj)) (s : Shared) (σ : St) (H : Hp) (o i : V) (ov iv : Value) (Q : VK), Inv X pins σ H s → RelV o ov → RelV i iv → t o i H Q →
    wpAny (model X.prog X.w) X.A (getItem ov iv) (EP X pins σ Q) X.xe s
theorem ps_augS {o i e : Expr} {to ti te : TE} {tget : V → V → Hp → VK → Prop} {tip : TIp} {tset : TSet} {op : Operator} {tpos : Pos} (ho : PE X o to) (hi : PE X i ti) (hg : PGet X tget) (he : PE X e te) (hp : PIp X op tip) (hs : PSet X tset)
    (ha : ∀ ov iv new, augStore i ov iv new = (do holding [new, ov, iv] (setItem ov iv new); release [new, ov, iv] []; pure .next) := by intros; rfl) : PS X (.AugAssign (.Subscript o i tpos) op e pos) (tAugS to ti te tget tip tset) := by
  intro pins s σ H D I h
  refine wpAny_AugAssign_SubscriptAny (thn (ho pins s σ H _ I h) fun ov s1 ⟨x1, H1, I1, r1, q1⟩ => ?_) ha
  refine thn (hi pins s1 σ H1 _ I1 q1) fun iv s2 ⟨x2, H2, I2, r2, q2⟩ => ?_
  refine thn (hg pins s2 σ H2 x1 x2 ov iv _ I2 r1 r2 q2) fun old s3 ⟨x3, H3, I3, r3, q3⟩ => ?_
  refine thn (he pins s3 σ H3 _ I3 q3) fun v s4 ⟨x4, H4, I4, r4, q4⟩ => ?_
  refine thn (hp pins s4 σ H4 x3 x4 old v _ I4 r3 r4 q4) fun new s5 ⟨x5, H5, I5, r5, q5⟩ => ?_
  exact thn (hs pins s5 σ H5 x1 x2 x5 ov iv new _ I5 r1 r2 r5 q5) fun _ s6 ⟨H6, I6, q6⟩ => ⟨σ, H6, I6, q6⟩
/-- ints -/
def ipI (f : Int → Int → Int) : TIp := fun x y H Q => ∃ i j, x = .int i ∧ y = .int j ∧ Q (.int (f i j)) H
theorem ip_add : PIp X .Add (ipI fun i j => i + j) := by
  intro pins s σ H x y v u Q I r1 r2 h
  obtain ⟨i, j, e1, e2, q⟩ := h
  subst e1; subst e2
  obtain ⟨t, rfl⟩ := r1
  obtain ⟨t', rfl⟩ := r2
  exact iadd_int ⟨.int _, H, I.tok _, ⟨_, rfl⟩, q⟩
theorem ip_sub : PIp X .Sub (ipI fun i j => i - j) := by
  intro pins s σ H x y v u Q I r1 r2 h
  obtain ⟨i, j, e1, e2, q⟩ := h
  subst e1; subst e2
  obtain ⟨t, rfl⟩ := r1
  obtain ⟨t', rfl⟩ := r2
  exact isub_int ⟨.int _, H, I.tok _, ⟨_, rfl⟩, q⟩
end

/-! ### while -/
section
variable {X : Cx} {pos : Pos}
/-- the invariant W with its measure -/
def tWhile (c : TT) (tb : TS) : TS := fun D σ H => ∃ W : Nat → St → Hp → Prop, (∃ m, W m σ H) ∧ ∀ m σ H, W m σ H →
  c σ H fun b H1 => if b = true then ∃ N : St → Hp → Prop, (∀ σ' H', N σ' H' → ∃ m', m' < m ∧ W m' σ' H') ∧ tb { D with nx := N, ct := N, bk := D.nx } σ H1 else D.nx σ H1
theorem ps_while {c : Expr} {body : List Stmt} {tc : TT} {tb : TS} (hp : PassesOwn (model X.prog X.w) X.A X.env X.xe) (hc : PT X c tc) (hb : PSs X body tb) : PS X (.While c body [] pos) (tWhile tc tb) := by
  intro pins s σ H D I h
  obtain ⟨W, ⟨m0, w0⟩, turn⟩ := h
  refine wpAny_While (codeAny_whileLoop (fun n s' => ∃ σ' H', Inv X pins σ' H' s' ∧ W n σ' H') ?_ m0 ⟨σ, H, I, w0⟩)
  rintro n s1 ⟨σ1, H1, I1, w1⟩
  refine wpAny_passesOwn hp (thn (hc pins s1 σ1 H1 _ I1 (turn n σ1 H1 w1)) fun b s2 ⟨H2, I2, q2⟩ => ?_)
  cases b with
  | true =>
    obtain ⟨N, hN, q2⟩ := q2
    rw [if_pos rfl]
    refine wpAny_passesOwn hp (thn (hb pins s2 σ1 H2 _ I2 q2) fun f s3 q3 => ?_)
    cases f with
    | next =>
      obtain ⟨σ3, H3, I3, n3⟩ := q3
      obtain ⟨m', hm, w3⟩ := hN σ3 H3 n3
      exact ⟨m', hm, σ3, H3, I3, w3⟩
    | cont =>
      obtain ⟨σ3, H3, I3, n3⟩ := q3
      obtain ⟨m', hm, w3⟩ := hN σ3 H3 n3
      exact ⟨m', hm, σ3, H3, I3, w3⟩
    | brk => exact q3
    | ret v => exact q3
  | false =>
    rw [if_neg Bool.false_ne_true]
    exact wpAny_execs_nil ⟨σ1, H2, I2, q2⟩
end

/-! ### what a loop or a comprehension walks -/
/-- at turn i: it yields x (the heap may grow), or it stops -/
structure It where
  go : Nat → Hp → Prop
  yld : Nat → Hp → V → Hp → Prop
  stop : Nat → Hp → Prop
/-- the iterator's own objects may turn: they are not the frame's, not pinned, younger than the entry (or a comprehension's own) -/
def FpOk (X : Cx) (pins : List (Addr × Obj)) (H : Hp) (b : Addr) : Prop :=
  H b = none ∧ b ≠ X.env.locals ∧ b ∉ X.fs ∧ (b ∈ X.ex ∨ X.s₀.heap.objs.size ≤ b) ∧ (∀ x c, X.env.cells.lookup x = some c → c ≠ b) ∧ ∀ p ∈ X.pn ++ pins, p.1 ≠ b
theorem Inv.fpOk {X : Cx} {pins : List (Addr × Obj)} {σ : St} {H H' : Hp} {s : Shared} {b : Addr} (I : Inv X pins σ H s) (hb : s.heap.objs.size ≤ b) (hn : H' b = none) : FpOk X pins H' b := by
  refine ⟨hn, Nat.ne_of_gt (Nat.lt_of_lt_of_le I.lt hb), I.nofs hb, .inr (Nat.le_trans I.sz hb), fun x c e z => ?_, fun p hp z => ?_⟩
  · obtain ⟨v, q⟩ := I.cell x c e
    exact absurd (Nat.lt_of_lt_of_le q.lt (by rw [z]; exact hb)) (Nat.lt_irrefl _)
  · exact absurd (Nat.lt_of_lt_of_le (Heap.lt_size (I.pin p hp).1) (by rw [z]; exact hb)) (Nat.lt_irrefl _)
structure Turn (P : Program) (w : World) (K : PySem.W.Frag) (tg : Expr) (J : It) (fp : List Addr) (it : Addr) (tn : Nat → Heap → Prop) : Prop where
  mem : it ∈ fp
  obj : ∀ i h, tn i h → ∀ b ∈ fp, ∃ o, h.get? b = some o ∧ ∀ v, o.data ≠ .cell v
  keep : ∀ i h h', tn i h → (∀ b ∈ fp, ∀ o, h.get? b = some o → h'.get? b = some o) → tn i h'
  item : ∀ (X : Cx), X.prog = P → X.w = w → X.K = K → X.calm = true → ∀ (i : Nat) (pins : List (Addr × Obj)) (s : Shared) (σ : St) (H : Hp) (E : Value → Shared → Prop), Inv X pins σ H s → (∀ b ∈ fp, FpOk X pins H b) → tn i s.heap → J.go i H →
    wpAny (model P w) X.A (pyNext (.ref it)) (fun r s1 => ∃ u, r = some u ∧
      wpAny (model P w) X.A (letOwnedTupleGo tg (.ref it) u) (fun _ s2 => ∃ x H', Inv X pins σ H' s2 ∧ RelV x u ∧ J.yld i H x H' ∧ tn (i + 1) s2.heap ∧ ∀ b ∈ fp, H' b = none) E s1) E s
  done : ∀ (X : Cx), X.prog = P → X.w = w → X.K = K → X.calm = true → ∀ (i : Nat) (pins : List (Addr × Obj)) (s : Shared) (σ : St) (H : Hp) (E : Value → Shared → Prop), Inv X pins σ H s → (∀ b ∈ fp, FpOk X pins H b) → tn i s.heap → J.stop i H →
    wpAny (model P w) X.A (pyNext (.ref it)) (fun r s1 => r = none ∧ Inv X pins σ H s1) E s
  self : ∀ (A : Around) (i : Nat) (s : Shared) (Q : Value → Shared → Prop) (E : Value → Shared → Prop), tn i s.heap → Q (.ref it) s → wpAny (model P w) A (pyIter (.ref it)) Q E s
abbrev TI := St → Hp → (It → Hp → Prop) → Prop
/-- an iterator has come -/
def PIE (X : Cx) (pins : List (Addr × Obj)) (σ : St) (tg : Expr) (R : It → Hp → Prop) (itv : Value) (s2 : Shared) : Prop :=
  ∃ (it : Addr) (fp : List Addr) (tn : Nat → Heap → Prop) (J : It) (H' : Hp), itv = .ref it ∧ Inv X pins σ H' s2 ∧ Turn X.prog X.w X.K tg J fp it tn ∧ tn 0 s2.heap ∧ (∀ b ∈ fp, FpOk X pins H' b) ∧ R J H'
def PI (X : Cx) (tg iter : Expr) (wi : TI) : Prop :=
  ∀ (pins : List (Addr × Obj)) (s : Shared) (σ : St) (H : Hp) (R : It → Hp → Prop), Inv X pins σ H s → wi σ H R →
    wpAny (model X.prog X.w) X.A (eval iter X.env) (fun v s1 => wpAny (model X.prog X.w) X.A (pyIter v) (PIE X pins σ tg R) X.xe s1) X.xe s

/-- the step ahead of the store is nothing for an iterator that keeps no tuple -/
theorem go_of {M : Model} {A : Around} {E : Value → Shared → Prop} {s : Shared} {tg : Expr} {it : Addr} {u : Value} {o : Obj} {n : String} {vs : Array Value} {Q : Unit → Shared → Prop} (ho : s.heap.get? it = some o) (hc : o.cls = .type n) (hd : o.data = .fields vs)
    (hn : ["enumerate", "zip", "dict_itemiterator", "dict_reverseitemiterator", "odict_iterator", "itertools.zip_longest", "itertools.pairwise"].contains n = false) (hQ : Q () s) : wpAny M A (letOwnedTupleGo tg (.ref it) u) Q E s := by
  unfold letOwnedTupleGo
  cases tg <;> first
    | exact wpAny_pure hQ
    | (cases u <;> first
        | exact wpAny_pure hQ
        | (refine wpAny_bind (wpAny_load ho ?_)
           rw [hc, hd]
           show wpAny M A (if (["enumerate", "zip", "dict_itemiterator", "dict_reverseitemiterator", "odict_iterator", "itertools.zip_longest", "itertools.pairwise"].contains n && vs[0]? == some (rawInt _)) = true then _ else _) Q E s
           rw [if_neg (by intro h; rw [hn, Bool.false_and] at h; cases h)]
           exact wpAny_pure hQ))

/-- the list at a, as it stands at each turn (a loop may append to it) -/
def Itl (K : PySem.W.Frag) (a : Addr) : It :=
  ⟨fun i H => ∃ xs x, SqL K H a xs ∧ xs[i]? = some x, fun i H x H' => H' = H ∧ ∀ xs, SqL K H a xs → xs[i]? = some x, fun i H => ∃ xs, SqL K H a xs ∧ xs.length ≤ i⟩
def Itt (K : PySem.W.Frag) (a : Addr) : It :=
  ⟨fun i H => ∃ xs x, SqT K H a xs ∧ xs[i]? = some x, fun i H x H' => H' = H ∧ ∀ xs, SqT K H a xs → xs[i]? = some x, fun i H => ∃ xs, SqT K H a xs ∧ xs.length ≤ i⟩
/-- lo, lo + 1, .. (n of them) -/
def Itr (lo : Int) (n : Nat) : It := ⟨fun i _ => i < n, fun i H x H' => H' = H ∧ x = .int (lo + i), fun i _ => n ≤ i⟩
theorem turn_list {P : Program} {w : World} {K : PySem.W.Frag} {tg : Expr} (a it : Addr) : Turn P w K tg (Itl K a) [it] it (fun i h => h.IsListIter it a i) where
  mem := by simp
  obj := fun i h st b hb => by
    have e : b = it := by simpa using hb
    subst e
    obtain ⟨o, e, c, d⟩ := st
    exact ⟨o, e, fun v z => by rw [d] at z; cases z⟩
  keep := fun i h h' st k => st.at fun o e => k it (by simp) o e
  item := by
    intro X hP hw hK hc i pins s σ H E I hf st hg
    subst hP hw hK
    obtain ⟨xs, x, hq, hx⟩ := hg
    obtain ⟨its, rv, p, hz⟩ := I.list hq
    obtain ⟨u, hu, ru⟩ := rv.get hx
    obtain ⟨f0, f1, f2, f3, f4, f5⟩ := hf it (by simp)
    refine wpAny_pyNext_list_item st p.isList (x := u) (by simpa using hu) fun h' st' sb => ?_
    have I1 : Inv X pins σ H { s with heap := h' } := I.turned (t' := s.toks) (fun b o hb e => (sb.2 b hb).trans e) f0 f1 f3 f4 f5
    obtain ⟨o, e, c, d⟩ := id st'
    exact ⟨u, rfl, go_of (s := { s with heap := h' }) e c d (by decide) ⟨x, H, I1, ru, ⟨rfl, fun ys hy => by rw [I.list_inj hy hq]; exact hx⟩, st', fun b hb => (hf b hb).1⟩⟩
  done := by
    intro X hP hw hK hc i pins s σ H E I hf st hg
    subst hP hw hK
    obtain ⟨xs, hq, hx⟩ := hg
    obtain ⟨its, rv, p, hz⟩ := I.list hq
    obtain ⟨f0, f1, f2, f3, f4, f5⟩ := hf it (by simp)
    have hl := rv.length
    exact wpAny_pyNext_list_end (I.ok.hd hc) st p.isList (by simp; omega) fun h' eb => ⟨rfl, I.turned (t' := s.toks) (fun b o hb e => eb b o hb e) f0 f1 f3 f4 f5⟩
  self := fun _ _ _ _ _ st h => wpAny_pyIter_listiter st h
theorem turn_tuple {P : Program} {w : World} {K : PySem.W.Frag} {tg : Expr} (a it : Addr) : Turn P w K tg (Itt K a) [it] it (fun i h => h.IsTupleIter it a i) where
  mem := by simp
  obj := fun i h st b hb => by
    have e : b = it := by simpa using hb
    subst e
    obtain ⟨o, e, c, d⟩ := st
    exact ⟨o, e, fun v z => by rw [d] at z; cases z⟩
  keep := fun i h h' st k => st.at fun o e => k it (by simp) o e
  item := by
    intro X hP hw hK hc i pins s σ H E I hf st hg
    subst hP hw hK
    obtain ⟨xs, x, hq, hx⟩ := hg
    obtain ⟨its, rv, p, hz⟩ := I.tuple hq
    obtain ⟨u, hu, ru⟩ := rv.get hx
    obtain ⟨f0, f1, f2, f3, f4, f5⟩ := hf it (by simp)
    refine wpAny_pyNext_tuple_item st (show s.heap.IsTuple a its.toArray from p) (x := u) (by simpa using hu) fun h' st' sb => ?_
    have I1 : Inv X pins σ H { s with heap := h' } := I.turned (t' := s.toks) (fun b o hb e => (sb.2 b hb).trans e) f0 f1 f3 f4 f5
    obtain ⟨o, e, c, d⟩ := id st'
    exact ⟨u, rfl, go_of (s := { s with heap := h' }) e c d (by decide) ⟨x, H, I1, ru, ⟨rfl, fun ys hy => by rw [I.tuple_inj hy hq]; exact hx⟩, st', fun b hb => (hf b hb).1⟩⟩
  done := by
    intro X hP hw hK hc i pins s σ H E I hf st hg
    subst hP hw hK
    obtain ⟨xs, hq, hx⟩ := hg
    obtain ⟨its, rv, p, hz⟩ := I.tuple hq
    obtain ⟨f0, f1, f2, f3, f4, f5⟩ := hf it (by simp)
    have hl := rv.length
    exact wpAny_pyNext_tuple_end (I.ok.hd hc) st (show s.heap.IsTuple a its.toArray from p) (by simp; omega) fun h' eb => ⟨rfl, I.turned (t' := s.toks) (fun b o hb e => eb b o hb e) f0 f1 f3 f4 f5⟩
  self := fun _ _ _ _ _ st h => wpAny_pyIter_tupleiter st h
theorem turn_range {P : Program} {w : World} {K : PySem.W.Frag} {tg : Expr} (it : Addr) (lo : Int) (n : Nat) : Turn P w K tg (Itr lo n) [it] it (fun i h => IsRangeIter h it (lo + (i : Nat) * 1) ((n : Int) - (i : Nat)) 1) where
  mem := by simp
  obj := fun i h st b hb => by
    have e : b = it := by simpa using hb
    subst e
    exact ⟨_, st, fun v z => by
      have z' : Data.fields _ = Data.cell v := z
      cases z'⟩
  keep := fun i h h' st k => k it (by simp) _ st
  item := by
    intro X hP hw hK hc i pins s σ H E I hf st hg
    subst hP hw hK
    obtain ⟨f0, f1, f2, f3, f4, f5⟩ := hf it (by simp)
    have W := Walks.range (prog := X.prog) (w := X.w) (I.ok.hd hc) it lo 1 n
    refine W.item i s _ _ hg st fun v h' tk hv st' kk => ?_
    obtain ⟨t, rfl⟩ := hv
    have I1 : Inv X pins σ H { s with heap := h', toks := tk } := I.turned (fun b o hb e => kk b o (by simpa using hb) e) f0 f1 f3 f4 f5
    refine ⟨_, rfl, go_of (s := { s with heap := h', toks := tk }) (n := "range_iterator") st' rfl rfl (by decide) ⟨.int (lo + i), H, I1, ⟨t, ?_⟩, ⟨rfl, rfl⟩, st', fun b hb => (hf b hb).1⟩⟩
    rw [Int.mul_one]
  done := by
    intro X hP hw hK hc i pins s σ H E I hf st hg
    subst hP hw hK
    obtain ⟨f0, f1, f2, f3, f4, f5⟩ := hf it (by simp)
    exact wpAny_pyNext_range_end (I.ok.hd hc) st (by have : n ≤ i := hg; omega) fun h' eb => ⟨rfl, I.turned (t' := s.toks) (fun b o hb e => eb b o hb e) f0 f1 f3 f4 f5⟩
  self := fun _ _ _ _ _ st h => wpAny_pyIter_rangeiter st h
end L2

namespace L2
open PySem PySem.Spec PyProof.Rows
section
variable {X : Cx} {tg : Expr}
def iList (K : PySem.W.Frag) (tl : TE) : TI := fun σ H R => tl σ H fun x H1 => ∃ a, x = .ref a ∧ (∃ xs, SqL K H1 a xs) ∧ R (Itl K a) H1
def iTup (K : PySem.W.Frag) (tl : TE) : TI := fun σ H R => tl σ H fun x H1 => ∃ a, x = .ref a ∧ (∃ xs, SqT K H1 a xs) ∧ R (Itt K a) H1
theorem pi_list {l : Expr} {tl : TE} (hl : PE X l tl) : PI X tg l (iList X.K tl) := by
  intro pins s σ H R I h
  refine thn (hl pins s σ H _ I h) fun v s1 ⟨x, H1, I1, r1, q1⟩ => ?_
  obtain ⟨a, e, ⟨xs, hq⟩, q⟩ := q1
  subst e
  cases r1
  obtain ⟨its, rv, p, hz⟩ := I1.list hq
  refine wpAny_pyIter_list p.isList ?_
  refine ⟨s1.heap.objs.size, [s1.heap.objs.size], _, _, H1, rfl, I1.kept (t' := s1.toks) fun b o e => Heap.get?_push_of_some _ e, turn_list a _, ⟨_, Heap.get?_push_size _ rfl, rfl, rfl⟩, fun b hb => ?_, q⟩
  have e : b = s1.heap.objs.size := by simpa using hb
  subst e
  exact I1.fpOk (Nat.le_refl _) (I1.hok.fresh (Nat.le_refl _))
theorem pi_tup {l : Expr} {tl : TE} (hl : PE X l tl) : PI X tg l (iTup X.K tl) := by
  intro pins s σ H R I h
  refine thn (hl pins s σ H _ I h) fun v s1 ⟨x, H1, I1, r1, q1⟩ => ?_
  obtain ⟨a, e, ⟨xs, hq⟩, q⟩ := q1
  subst e
  cases r1
  obtain ⟨its, rv, p, hz⟩ := I1.tuple hq
  refine wpAny_pyIter_tuple (show s1.heap.IsTuple a its.toArray from p) ?_
  refine ⟨s1.heap.objs.size, [s1.heap.objs.size], _, _, H1, rfl, I1.kept (t' := s1.toks) fun b o e => Heap.get?_push_of_some _ e, turn_tuple a _, ⟨_, Heap.get?_push_size _ rfl, rfl, rfl⟩, fun b hb => ?_, q⟩
  have e : b = s1.heap.objs.size := by simpa using hb
  subst e
  exact I1.fpOk (Nat.le_refl _) (I1.hok.fresh (Nat.le_refl _))
/-- a range object just made, walked -/
theorem range_it {pins : List (Addr × Obj)} {σ : St} {H : Hp} {s : Shared} {R : It → Hp → Prop} {E : Value → Shared → Prop} {lo hi : Int} {t u v : Tok} {tk : Nat} (I : Inv X pins σ H s) (h1 : -(2 ^ 62) ≤ lo) (h2 : lo < 2 ^ 62) (h3 : -(2 ^ 62) ≤ hi) (h4 : hi < 2 ^ 62)
    (q : R (Itr lo (hi - lo).toNat) H) : wpAny (model X.prog X.w) X.A (pyIter (.ref s.heap.objs.size)) (PIE X pins σ tg R) E { s with heap := s.heap.push { cls := .type "range", data := .fields #[.int lo t, .int hi u, .int 1 v] }, toks := tk } := by
  refine wpAny_pyIter_range (IsRange.new ..) (small_one h1 h2 h3 h4) ?_
  have I1 : Inv X pins σ H { s with heap := s.heap.push { cls := .type "range", data := .fields #[.int lo t, .int hi u, .int 1 v] }, toks := tk } := I.kept fun b o e => Heap.get?_push_of_some _ e
  refine ⟨(s.heap.push { cls := .type "range", data := .fields #[.int lo t, .int hi u, .int 1 v] }).objs.size, [(s.heap.push { cls := .type "range", data := .fields #[.int lo t, .int hi u, .int 1 v] }).objs.size], _, _, H, rfl,
    I1.kept (t' := tk) fun b o e => Heap.get?_push_of_some _ e, turn_range _ lo (hi - lo).toNat, ?_, fun b hb => ?_, q⟩
  · have e1 : lo + ((0 : Nat) : Int) * 1 = lo := by simp
    have e2 : (((hi - lo).toNat : Nat) : Int) - ((0 : Nat) : Int) = Builtin.Range.rangeSize lo hi 1 := by rw [rangeSize_one]; split <;> omega
    show IsRangeIter _ _ (lo + ((0 : Nat) : Int) * 1) ((((hi - lo).toNat : Nat) : Int) - ((0 : Nat) : Int)) 1
    rw [e1, e2]
    exact Heap.get?_push_size _ rfl
  · have e : b = (s.heap.push { cls := .type "range", data := .fields #[.int lo t, .int hi u, .int 1 v] }).objs.size := by simpa using hb
    subst e
    exact I1.fpOk (Nat.le_refl _) (I1.hok.fresh (Nat.le_refl _))
def iRng1 (ta : TA) : TI := fun σ H R => ta σ H fun vs H1 => ∃ j : Int, vs = [.int j] ∧ -(2 ^ 62) ≤ j ∧ j < 2 ^ 62 ∧ R (Itr 0 j.toNat) H1
def iRng2 (ta : TA) : TI := fun σ H R => ta σ H fun vs H1 => ∃ i j : Int, vs = [.int i, .int j] ∧ (-(2 ^ 62) ≤ i ∧ i < 2 ^ 62 ∧ -(2 ^ 62) ≤ j ∧ j < 2 ^ 62) ∧ R (Itr i (j - i).toNat) H1
theorem pi_range1 {a : Expr} {ta : TA} {p pos : Pos} (hg : Gl X "range") (hm : X.mg "range" = none) (ha : PA X [a] ta) (hs : starEach [a] X.env = [(false, eval a X.env)] := by rfl) : PI X tg (.Call (.Name "range" p) [a] [] pos) (iRng1 ta) := by
  intro pins s σ H R I h
  refine Call_ (ld_blt I hg hm boot_range (PyProof.Rows.callWith_type1 (thn (ha pos pins s σ H _ I h) fun us s1 ⟨vs, H1, I1, r1, q1⟩ => ?_) hs rfl))
  obtain ⟨j, e, q1, q2, q⟩ := q1
  subst e
  cases r1 with
  | cons r rr =>
    cases rr
    obtain ⟨t, rfl⟩ := r
    exact call_range_1 (range_it I1 (by omega) (by omega) q1 q2 (by simpa using q))
theorem pi_range2 {a b : Expr} {ta : TA} {p pos : Pos} (hg : Gl X "range") (hm : X.mg "range" = none) (ha : PA X [a, b] ta) (hs : starEach [a, b] X.env = [(false, eval a X.env), (false, eval b X.env)] := by rfl) (hs2 : starEach [b] X.env = [(false, eval b X.env)] := by rfl) :
    PI X tg (.Call (.Name "range" p) [a, b] [] pos) (iRng2 ta) := by
  intro pins s σ H R I h
  refine Call_ (ld_blt I hg hm boot_range (PyProof.Rows.callWith_type1 (thn (ha pos pins s σ H _ I h) fun us s1 ⟨vs, H1, I1, r1, q1⟩ => ?_) (by rw [hs, hs2]) (by rw [hs2]; rfl)))
  obtain ⟨i, j, e, ⟨q1, q2, q3, q4⟩, q⟩ := q1
  subst e
  cases r1 with
  | cons r rr =>
    cases rr with
    | cons r' rr =>
      cases rr
      obtain ⟨t, rfl⟩ := r
      obtain ⟨t', rfl⟩ := r'
      exact call_range_2 (range_it I1 q1 q2 q3 q4 q)

/-! ### for -/
/-- W: the invariant by the turn and a measure; N: what the body is to reach -/
def tFor (wi : TI) (g : TG) (tb : TS) : TS := fun D σ H => wi σ H fun J H1 => ∃ W : Nat → Nat → St → Hp → Prop, (∃ m, W 0 m σ H1) ∧ ∀ i m σ H, W i m σ H →
  (J.stop i H ∧ D.nx σ H) ∨ (J.go i H ∧ ∃ N : St → Hp → Prop, (∀ σ' H', N σ' H' → ∃ m', m' < m ∧ W (i + 1) m' σ' H') ∧ ∀ x H', J.yld i H x H' → g x σ H' fun σ2 H2 => tb { D with nx := N, ct := N, bk := D.nx } σ2 H2)
/-- the records at fp as they stand -/
def pinsAt (fp : List Addr) (h : Heap) : List (Addr × Obj) := fp.filterMap fun b => (h.get? b).map fun o => (b, o)
theorem mem_pinsAt {fp : List Addr} {h : Heap} {b : Addr} {o : Obj} (hb : b ∈ fp) (e : h.get? b = some o) : (b, o) ∈ pinsAt fp h := List.mem_filterMap.mpr ⟨b, hb, by rw [e]; rfl⟩
theorem of_pinsAt {fp : List Addr} {h : Heap} {p : Addr × Obj} (hp : p ∈ pinsAt fp h) : p.1 ∈ fp ∧ h.get? p.1 = some p.2 := by
  obtain ⟨b, hb, e⟩ := List.mem_filterMap.mp hp
  cases q : h.get? b with
  | none => rw [q] at e; cases e
  | some o =>
    rw [q] at e
    have e' : (b, o) = p := Option.some.inj e
    subst e'
    exact ⟨hb, q⟩
theorem Inv.pinned {pins : List (Addr × Obj)} {σ : St} {H : Hp} {s : Shared} {fp : List Addr} (I : Inv X pins σ H s) (hf : ∀ b ∈ fp, FpOk X pins H b) (ho : ∀ b ∈ fp, ∃ o, s.heap.get? b = some o ∧ ∀ v, o.data ≠ .cell v) : Inv X (pins ++ pinsAt fp s.heap) σ H s :=
  I.pins_of fun p hp => (List.mem_append.mp hp).elim (fun z => I.pin p (List.mem_append_right _ z)) fun z => by
    obtain ⟨hb, e⟩ := of_pinsAt z
    obtain ⟨f0, f1, f2, _⟩ := hf p.1 hb
    obtain ⟨o, e', d⟩ := ho p.1 hb
    rw [e] at e'; cases e'
    exact ⟨e, f0, f1, f2, d⟩
theorem Inv.unpinned {pins pl : List (Addr × Obj)} {σ : St} {H : Hp} {s : Shared} (I : Inv X (pins ++ pl) σ H s) : Inv X pins σ H s := I.pins_of fun p hp => I.pin p (List.mem_append_right _ (List.mem_append_left _ hp))
theorem ps_for {iter : Expr} {body : List Stmt} {wi : TI} {g : TG} {tb : TS} {pos : Pos} (hp : PassesOwn (model X.prog X.w) X.A X.env X.xe) (hc : X.calm = true) (hi : PI X tg iter wi) (hg : PG X tg g) (hb : PSs X body tb)
    (hs : ∀ x, foldedSetIterable iter X.env x = pure x := by intro _; rfl) : PS X (.For tg iter body [] pos) (tFor wi g tb) := by
  intro pins s σ H D I h
  refine wpAny_For (thn (hi pins s σ H _ I h) fun v s1 h1 => thn h1 fun itv s2 h2 => ?_) hs
  obtain ⟨it, fp, tn, J, H2, e, I2, T, st2, f2, W, ⟨m0, w0⟩, turn⟩ := h2
  subst e
  -- what stays true of the iterator's objects through the loop
  have stat : ∀ {H' : Hp}, (∀ b ∈ fp, H' b = none) → ∀ b ∈ fp, FpOk X pins H' b := fun hn b hb => ⟨hn b hb, (f2 b hb).2⟩
  refine codeAny_forLoop_any (fun n s' => ∃ i σ' H', Inv X pins σ' H' s' ∧ tn i s'.heap ∧ (∀ b ∈ fp, H' b = none) ∧ W i n σ' H') ?_ m0 ⟨0, σ, H2, I2, st2, fun b hb => (f2 b hb).1, w0⟩
  rintro n s3 ⟨i, σ3, H3, I3, st3, fr3, w3⟩
  rcases turn i n σ3 H3 w3 with ⟨stop, qn⟩ | ⟨go, N, hN, step⟩
  · refine wpAny_passesOwn hp (thn (T.done X rfl rfl rfl hc i pins s3 σ3 H3 X.xe I3 (stat fr3) st3 stop) fun r s4 ⟨hr, I4⟩ => ?_)
    subst hr
    exact wpAny_execs_nil ⟨σ3, H3, I4, qn⟩
  · refine wpAny_passesOwn hp (thn (T.item X rfl rfl rfl hc i pins s3 σ3 H3 X.xe I3 (stat fr3) st3 go) fun r s4 ⟨u, hr, h4⟩ => ?_)
    subst hr
    refine wpAny_passesOwn hp (thn h4 fun _ s5 ⟨x, H5, I5, r5, y5, st5, fr5⟩ => ?_)
    have I5' := I5.pinned (stat fr5) (T.obj _ _ st5)
    refine wpAny_passesOwn hp (thn (hg _ s5 σ3 H5 x u _ I5' r5 (step x H5 y5)) fun _ s6 ⟨σ6, H6, I6, q6⟩ => ?_)
    refine wpAny_passesOwn hp (thn (hb _ s6 σ6 H6 _ I6 q6) fun f s7 q7 => ?_)
    have again : ∀ {σ7 : St} {H7 : Hp}, Inv X (pins ++ pinsAt fp s5.heap) σ7 H7 s7 → N σ7 H7 → ∃ m, m < n ∧ ∃ i σ' H', Inv X pins σ' H' s7 ∧ tn i s7.heap ∧ (∀ b ∈ fp, H' b = none) ∧ W i m σ' H' := fun {σ7 H7} I7 n7 => by
      obtain ⟨m', hm, w7⟩ := hN σ7 H7 n7
      refine ⟨m', hm, i + 1, σ7, H7, I7.unpinned, T.keep _ _ _ st5 fun b hb o e => (I7.pin (b, o) (List.mem_append_right _ (List.mem_append_right _ (mem_pinsAt hb e)))).1, fun b hb => ?_, w7⟩
      obtain ⟨o, e, d⟩ := T.obj _ _ st5 b hb
      exact (I7.pin (b, o) (List.mem_append_right _ (List.mem_append_right _ (mem_pinsAt hb e)))).2.1
    cases f with
    | next => obtain ⟨σ7, H7, I7, n7⟩ := q7; exact again I7 n7
    | cont => obtain ⟨σ7, H7, I7, n7⟩ := q7; exact again I7 n7
    | brk => obtain ⟨σ7, H7, I7, q7⟩ := q7; exact ⟨σ7, H7, I7.unpinned, q7⟩
    | ret v => obtain ⟨x7, σ7, H7, I7, r7, q7⟩ := q7; exact ⟨x7, σ7, H7, I7.unpinned, r7, q7⟩
end

/-! ### the forms one uses -/
/-- over a list that the body leaves as it is -/
theorem for_list {K : PySem.W.Frag} {a : Addr} {xs : List V} {g : TG} {tb : TS} {D : Ends} {σ : St} {H : Hp} (Pv : Nat → St → Hp → Prop) (h0 : Pv 0 σ H) (hl : ∀ i σ H, i ≤ xs.length → Pv i σ H → SqL K H a xs)
    (hs : ∀ i x σ H, xs[i]? = some x → Pv i σ H → g x σ H fun σ2 H2 => tb { D with nx := Pv (i + 1), ct := Pv (i + 1), bk := D.nx } σ2 H2) (hd : ∀ σ H, Pv xs.length σ H → D.nx σ H) :
    ∃ W : Nat → Nat → St → Hp → Prop, (∃ m, W 0 m σ H) ∧ ∀ i m σ H, W i m σ H →
      ((Itl K a).stop i H ∧ D.nx σ H) ∨ ((Itl K a).go i H ∧ ∃ N : St → Hp → Prop, (∀ σ' H', N σ' H' → ∃ m', m' < m ∧ W (i + 1) m' σ' H') ∧ ∀ x H', (Itl K a).yld i H x H' → g x σ H' fun σ2 H2 => tb { D with nx := N, ct := N, bk := D.nx } σ2 H2) := by
  refine ⟨fun i m σ H => m = xs.length - i ∧ i ≤ xs.length ∧ Pv i σ H, ⟨xs.length, by simp, Nat.zero_le _, h0⟩, ?_⟩
  rintro i m σ H ⟨rfl, hi, p⟩
  have q := hl i σ H hi p
  by_cases hlt : i < xs.length
  · refine .inr ⟨⟨xs, xs[i], q, by simp [hlt]⟩, Pv (i + 1), fun σ' H' p' => ⟨xs.length - (i + 1), by omega, rfl, hlt, p'⟩, fun x H' y => ?_⟩
    obtain ⟨e, y⟩ := y
    subst e
    exact hs i x σ _ (y xs q) p
  · have e : i = xs.length := by omega
    subst e
    exact .inl ⟨⟨xs, q, Nat.le_refl _⟩, hd σ H p⟩
theorem for_tup {K : PySem.W.Frag} {a : Addr} {xs : List V} {g : TG} {tb : TS} {D : Ends} {σ : St} {H : Hp} (Pv : Nat → St → Hp → Prop) (h0 : Pv 0 σ H) (hl : ∀ i σ H, i ≤ xs.length → Pv i σ H → SqT K H a xs)
    (hs : ∀ i x σ H, xs[i]? = some x → Pv i σ H → g x σ H fun σ2 H2 => tb { D with nx := Pv (i + 1), ct := Pv (i + 1), bk := D.nx } σ2 H2) (hd : ∀ σ H, Pv xs.length σ H → D.nx σ H) :
    ∃ W : Nat → Nat → St → Hp → Prop, (∃ m, W 0 m σ H) ∧ ∀ i m σ H, W i m σ H →
      ((Itt K a).stop i H ∧ D.nx σ H) ∨ ((Itt K a).go i H ∧ ∃ N : St → Hp → Prop, (∀ σ' H', N σ' H' → ∃ m', m' < m ∧ W (i + 1) m' σ' H') ∧ ∀ x H', (Itt K a).yld i H x H' → g x σ H' fun σ2 H2 => tb { D with nx := N, ct := N, bk := D.nx } σ2 H2) := by
  refine ⟨fun i m σ H => m = xs.length - i ∧ i ≤ xs.length ∧ Pv i σ H, ⟨xs.length, by simp, Nat.zero_le _, h0⟩, ?_⟩
  rintro i m σ H ⟨rfl, hi, p⟩
  have q := hl i σ H hi p
  by_cases hlt : i < xs.length
  · refine .inr ⟨⟨xs, xs[i], q, by simp [hlt]⟩, Pv (i + 1), fun σ' H' p' => ⟨xs.length - (i + 1), by omega, rfl, hlt, p'⟩, fun x H' y => ?_⟩
    obtain ⟨e, y⟩ := y
    subst e
    exact hs i x σ _ (y xs q) p
  · have e : i = xs.length := by omega
    subst e
    exact .inl ⟨⟨xs, q, Nat.le_refl _⟩, hd σ H p⟩
theorem for_range {lo : Int} {n : Nat} {g : TG} {tb : TS} {D : Ends} {σ : St} {H : Hp} (Pv : Nat → St → Hp → Prop) (h0 : Pv 0 σ H)
    (hs : ∀ i σ H, i < n → Pv i σ H → g (.int (lo + i)) σ H fun σ2 H2 => tb { D with nx := Pv (i + 1), ct := Pv (i + 1), bk := D.nx } σ2 H2) (hd : ∀ σ H, Pv n σ H → D.nx σ H) :
    ∃ W : Nat → Nat → St → Hp → Prop, (∃ m, W 0 m σ H) ∧ ∀ i m σ H, W i m σ H →
      ((Itr lo n).stop i H ∧ D.nx σ H) ∨ ((Itr lo n).go i H ∧ ∃ N : St → Hp → Prop, (∀ σ' H', N σ' H' → ∃ m', m' < m ∧ W (i + 1) m' σ' H') ∧ ∀ x H', (Itr lo n).yld i H x H' → g x σ H' fun σ2 H2 => tb { D with nx := N, ct := N, bk := D.nx } σ2 H2) := by
  refine ⟨fun i m σ H => m = n - i ∧ i ≤ n ∧ Pv i σ H, ⟨n, by simp, Nat.zero_le _, h0⟩, ?_⟩
  rintro i m σ H ⟨rfl, hi, p⟩
  by_cases hlt : i < n
  · refine .inr ⟨hlt, Pv (i + 1), fun σ' H' p' => ⟨n - (i + 1), by omega, rfl, hlt, p'⟩, fun x H' y => ?_⟩
    obtain ⟨e, y⟩ := y
    subst e y
    exact hs i σ _ hlt p
  · have e : i = n := by omega
    subst e
    exact .inl ⟨Nat.le_refl _, hd σ H p⟩
/-- while, by a word and a measure of the state -/
theorem while_by {c : TT} {tb : TS} {D : Ends} {σ : St} {H : Hp} (Pv : St → Hp → Prop) (μ : St → Hp → Nat) (h0 : Pv σ H)
    (hs : ∀ σ H, Pv σ H → c σ H fun b H1 => if b = true then tb { D with nx := fun σ' H' => Pv σ' H' ∧ μ σ' H' < μ σ H, ct := fun σ' H' => Pv σ' H' ∧ μ σ' H' < μ σ H, bk := D.nx } σ H1 else D.nx σ H1)
    (mono : ∀ σ H Q Q', (∀ b H1, Q b H1 → Q' b H1) → c σ H Q → c σ H Q') : tWhile c tb D σ H := by
  refine ⟨fun m σ H => m = μ σ H ∧ Pv σ H, ⟨_, rfl, h0⟩, ?_⟩
  rintro m σ H ⟨rfl, p⟩
  refine mono σ H _ _ (fun b H1 q => ?_) (hs σ H p)
  cases b with
  | true => exact ⟨_, fun σ' H' ⟨p', l⟩ => ⟨_, l, rfl, p'⟩, q⟩
  | false => exact q
end L2

namespace L2
open PySem PySem.Spec PyProof.Rows

abbrev R2 := V → V → Hp → VK → Prop
/-- a two-place operation on values: f is binaryOp op, inplaceOp op or compareOp op -/
def OpR (X : Cx) (f : Value → Value → Sem Value) (r : R2) : Prop :=
  ∀ (pins : List (Addr × Obj)) (s : Shared) (σ : St) (H : Hp) (x y : V) (v u : Value) (Q : VK), Inv X pins σ H s → RelV x v → RelV y u → r x y H Q →
    wpAny (model X.prog X.w) X.A (f v u) (EP X pins σ Q) X.xe s
/-- a one-place operation -/
def UnR (X : Cx) (f : Value → Sem Value) (r : V → Hp → VK → Prop) : Prop :=
  ∀ (pins : List (Addr × Obj)) (s : Shared) (σ : St) (H : Hp) (x : V) (v : Value) (Q : VK), Inv X pins σ H s → RelV x v → r x H Q →
    wpAny (model X.prog X.w) X.A (f v) (EP X pins σ Q) X.xe s
/-- a call of a value that is known (a builtin, a type) with values -/
def CallR (X : Cx) (f : Value) (r : List V → Hp → VK → Prop) : Prop :=
  ∀ (pins : List (Addr × Obj)) (s : Shared) (σ : St) (H : Hp) (xs : List V) (us : List Value) (Q : VK), Inv X pins σ H s → Vals xs us → r xs H Q →
    wpAny (model X.prog X.w) X.A (call f us) (EP X pins σ Q) X.xe s
/-- a value's truth -/
def TruR (X : Cx) (r : V → Hp → (Bool → Hp → Prop) → Prop) : Prop :=
  ∀ (pins : List (Addr × Obj)) (s : Shared) (σ : St) (H : Hp) (x : V) (v : Value) (Q : Bool → Hp → Prop), Inv X pins σ H s → RelV x v → r x H Q →
    wpAny (model X.prog X.w) X.A (truthy v) (TP X pins σ Q) X.xe s

def tOp (r : R2) (ta tb : TE) : TE := fun σ H Q => ta σ H fun x H1 => tb σ H1 fun y H2 => r x y H2 Q
def tUn (r : V → Hp → VK → Prop) (ta : TE) : TE := fun σ H Q => ta σ H fun x H1 => r x H1 Q
/-- ints in, under C, and a value out -/
def rI (C : Int → Int → Prop) (g : Int → Int → V) : R2 := fun x y H Q => ∃ i j, x = .int i ∧ y = .int j ∧ C i j ∧ Q (g i j) H
def rI0 (g : Int → Int → V) : R2 := fun x y H Q => ∃ i j, x = .int i ∧ y = .int j ∧ Q (g i j) H
def rU (g : Int → V) : V → Hp → VK → Prop := fun x H Q => ∃ i, x = .int i ∧ Q (g i) H

section
variable {X : Cx} {a b c : Expr} {ta tb tc : TE} {pos : Pos}

theorem binT (ha : PE X a ta) (hb : PE X b tb) {pins : List (Addr × Obj)} {s : Shared} {σ : St} {H : Hp} {R : V → V → Hp → Prop} (I : Inv X pins σ H s)
    (h : ta σ H fun x H1 => tb σ H1 fun y H2 => R x y H2) {Q : Value → Shared → Prop} {f : Value → Value → Sem Value}
    (hf : ∀ v u s2 x y H2, Inv X pins σ H2 s2 → RelV x v → RelV y u → R x y H2 → wpAny (model X.prog X.w) X.A (f v u) Q X.xe s2) :
    wpAny (model X.prog X.w) X.A (eval a X.env) (fun v s₁ => wpAny (model X.prog X.w) X.A (eval b X.env) (fun u s₂ => wpAny (model X.prog X.w) X.A (f v u) Q X.xe s₂) X.xe s₁) X.xe s := by
  refine thn (ha pins s σ H _ I h) fun v s1 ⟨x, H1, I1, r1, q1⟩ => ?_
  refine thn (hb pins s1 σ H1 _ I1 q1) fun u s2 ⟨y, H2, I2, r2, q2⟩ => ?_
  exact hf v u s2 x y H2 I2 r1 r2 q2

theorem pe_op {op : Operator} {r : R2} (ho : OpR X (binaryOp op) r) (ha : PE X a ta) (hb : PE X b tb) : PE X (.BinOp a op b pos) (tOp r ta tb) := by
  intro pins s σ H Q I h
  exact wpAny_BinOp (binT ha hb I h fun v u s2 x y H2 I2 rx ry q => ho pins s2 σ H2 x y v u Q I2 rx ry q)
theorem pe_un {op : UnaryOp} {r : V → Hp → VK → Prop} (ho : UnR X (unaryOp op) r) (ha : PE X a ta) : PE X (.UnaryOp op a pos) (tUn r ta) := by
  intro pins s σ H Q I h
  exact UnaryOp_ (thn (ha pins s σ H _ I h) fun v s1 ⟨x, H1, I1, r1, q1⟩ => ho pins s1 σ H1 x v Q I1 r1 q1)
/-- a op= e at a name: the name's slot i -/
theorem augR {op : Operator} {r : R2} (ho : OpR X (inplaceOp op) r) {pins : List (Addr × Obj)} {s : Shared} {σ : St} {H : Hp} {x y : V} {v u : Value} {Q : VK} (I : Inv X pins σ H s)
    (rx : RelV x v) (ry : RelV y u) (q : r x y H Q) : wpAny (model X.prog X.w) X.A (inplaceOp op v u) (EP X pins σ Q) X.xe s := ho pins s σ H x y v u Q I rx ry q

/-! ### ints -/
theorem opI {f : Value → Value → Sem Value} {C : Int → Int → Prop} {g : Int → Int → Int}
    (rule : ∀ (i j : Int) (t u : Tok) (s : Shared) (Q : Value → Shared → Prop) (E : Value → Shared → Prop), C i j → Q (.int (g i j) s.toks) { s with toks := s.toks + 1 } → wpAny (model X.prog X.w) X.A (f (.int i t) (.int j u)) Q E s) :
    OpR X f (rI C fun i j => .int (g i j)) := by
  intro pins s σ H x y v u Q I rx ry h
  obtain ⟨i, j, rfl, rfl, hc, q⟩ := h
  obtain ⟨t, rfl⟩ := rx
  obtain ⟨t', rfl⟩ := ry
  exact rule i j t t' s _ _ hc ⟨.int (g i j), H, I.tok _, ⟨_, rfl⟩, q⟩
theorem opI0 {f : Value → Value → Sem Value} {g : Int → Int → Int}
    (rule : ∀ (i j : Int) (t u : Tok) (s : Shared) (Q : Value → Shared → Prop) (E : Value → Shared → Prop), Q (.int (g i j) s.toks) { s with toks := s.toks + 1 } → wpAny (model X.prog X.w) X.A (f (.int i t) (.int j u)) Q E s) :
    OpR X f (rI0 fun i j => .int (g i j)) := by
  intro pins s σ H x y v u Q I rx ry h
  obtain ⟨i, j, rfl, rfl, q⟩ := h
  obtain ⟨t, rfl⟩ := rx
  obtain ⟨t', rfl⟩ := ry
  exact rule i j t t' s _ _ ⟨.int (g i j), H, I.tok _, ⟨_, rfl⟩, q⟩
theorem opB0 {f : Value → Value → Sem Value} {g : Int → Int → Bool}
    (rule : ∀ (i j : Int) (t u : Tok) (s : Shared) (Q : Value → Shared → Prop) (E : Value → Shared → Prop), Q (.bool (g i j)) s → wpAny (model X.prog X.w) X.A (f (.int i t) (.int j u)) Q E s) :
    OpR X f (rI0 fun i j => .bl (g i j)) := by
  intro pins s σ H x y v u Q I rx ry h
  obtain ⟨i, j, rfl, rfl, q⟩ := h
  obtain ⟨t, rfl⟩ := rx
  obtain ⟨t', rfl⟩ := ry
  exact rule i j t t' s _ _ ⟨.bl (g i j), H, I, rfl, q⟩

def CDiv (i j : Int) : Prop := 0 < j ∧ j < 1073741824
def CDivN (i j : Int) : Prop := j ≠ 0 ∧ j.natAbs < 1073741824
def CPow (i j : Int) : Prop := 0 ≤ j ∧ j ≤ 1000000 ∧ i.natAbs < 2 ^ 64
def CMul (i j : Int) : Prop := (-(2 ^ 64) < i ∧ i < 2 ^ 64) ∨ (-(2 ^ 64) < j ∧ j < 2 ^ 64)
theorem CMul.ok {i j : Int} (h : CMul i j) : IntMulOk i j := by
  rcases h with ⟨h1, h2⟩ | ⟨h1, h2⟩
  · exact .of_left (intBits_le_64 h1 h2)
  · exact .of_right (intBits_le_64 h1 h2)
theorem two_pow_nn (k : Nat) : (0 : Int) ≤ 2 ^ k := by
  rw [two_pow_cast]
  exact Int.natCast_nonneg _

theorem op_add : OpR X (binaryOp .Add) (rI0 fun i j => .int (i + j)) := opI0 fun _ _ _ _ _ _ _ q => add_int q
theorem op_sub : OpR X (binaryOp .Sub) (rI0 fun i j => .int (i - j)) := opI0 fun _ _ _ _ _ _ _ q => sub_int q
theorem op_mul : OpR X (binaryOp .Mult) (rI CMul fun i j => .int (i * j)) := opI fun _ _ _ _ _ _ _ hc q => mul_int q hc.ok
/-- // by a positive divisor -/
theorem op_fdiv : OpR X (binaryOp .FloorDiv) (rI CDiv fun i j => .int (i / j)) := opI fun i j _ _ _ _ _ hc q => by
  have h1 : (0 : Int) < j := hc.1
  have h2 : j < 1073741824 := hc.2
  exact floordiv_int (by omega) (by rw [Int.fdiv_eq_ediv_of_nonneg i (by omega)]; exact q) (.inl (PyProof.noPylong_small (by omega)))
theorem op_fdivN : OpR X (binaryOp .FloorDiv) (rI CDivN fun i j => .int (i.fdiv j)) := opI fun _ _ _ _ _ _ _ hc q => floordiv_int hc.1 q (.inl (PyProof.noPylong_small hc.2))
/-- % by a positive divisor of any size -/
theorem op_mod : OpR X (binaryOp .Mod) (rI (fun _ j => 0 < j) fun i j => .int (i % j)) := opI fun i j _ _ _ _ _ hc q => by
  have h1 : (0 : Int) < j := hc
  exact mod_int' (by omega) (by rw [Int.fmod_eq_emod_of_nonneg i (by omega)]; exact q)
theorem op_modN : OpR X (binaryOp .Mod) (rI (fun _ j => j ≠ 0) fun i j => .int (i.fmod j)) := opI fun _ _ _ _ _ _ _ hc q => mod_int' hc q
theorem op_pow : OpR X (binaryOp .Pow) (rI CPow fun i j => .int (i ^ j.toNat)) := opI fun _ _ _ _ _ _ _ hc q => pow_int_small hc.1 hc.2.1 hc.2.2 q
theorem op_shl : OpR X (binaryOp .LShift) (rI CPow fun i j => .int (i * 2 ^ j.toNat)) := opI fun _ _ _ _ _ _ _ hc q => lshift_int_small hc.1 hc.2.1 hc.2.2 q
theorem op_shr : OpR X (binaryOp .RShift) (rI (fun _ j => 0 ≤ j) fun i j => .int (i / 2 ^ j.toNat)) := opI fun i j _ _ _ _ _ hc q =>
  rshift_int hc (by rw [Int.fdiv_eq_ediv_of_nonneg i (two_pow_nn _)]; exact q)
theorem op_and : OpR X (binaryOp .BitAnd) (rI0 fun i j => .int (Builtin.bitAnd i j)) := opI0 fun _ _ _ _ _ _ _ q => and_int q
theorem op_or : OpR X (binaryOp .BitOr) (rI0 fun i j => .int (Builtin.bitOr i j)) := opI0 fun _ _ _ _ _ _ _ q => or_int q
theorem op_xor : OpR X (binaryOp .BitXor) (rI0 fun i j => .int (Builtin.bitXor i j)) := opI0 fun _ _ _ _ _ _ _ q => xor_int q

theorem iop_add : OpR X (inplaceOp .Add) (rI0 fun i j => .int (i + j)) := opI0 fun _ _ _ _ _ _ _ q => iadd_int q
theorem iop_sub : OpR X (inplaceOp .Sub) (rI0 fun i j => .int (i - j)) := opI0 fun _ _ _ _ _ _ _ q => isub_int q
theorem iop_mul : OpR X (inplaceOp .Mult) (rI CMul fun i j => .int (i * j)) := opI fun _ _ _ _ _ _ _ hc q => imul_int q hc.ok
theorem iop_fdiv : OpR X (inplaceOp .FloorDiv) (rI CDiv fun i j => .int (i / j)) := opI fun i j _ _ _ _ _ hc q => by
  have h1 : (0 : Int) < j := hc.1
  have h2 : j < 1073741824 := hc.2
  exact ifloordiv_int (by omega) (by rw [Int.fdiv_eq_ediv_of_nonneg i (by omega)]; exact q) (.inl (PyProof.noPylong_small (by omega)))
theorem iop_mod : OpR X (inplaceOp .Mod) (rI (fun _ j => 0 < j) fun i j => .int (i % j)) := opI fun i j _ _ _ _ _ hc q => by
  have h1 : (0 : Int) < j := hc
  exact imod_int (by omega) (by rw [Int.fmod_eq_emod_of_nonneg i (by omega)]; exact q)
theorem iop_shl : OpR X (inplaceOp .LShift) (rI CPow fun i j => .int (i * 2 ^ j.toNat)) := opI fun _ _ _ _ _ _ _ hc q => ilshift_int_small hc.1 hc.2.1 hc.2.2 q
theorem iop_shr : OpR X (inplaceOp .RShift) (rI (fun _ j => 0 ≤ j) fun i j => .int (i / 2 ^ j.toNat)) := opI fun i j _ _ _ _ _ hc q =>
  irshift_int hc (by rw [Int.fdiv_eq_ediv_of_nonneg i (two_pow_nn _)]; exact q)
theorem iop_and : OpR X (inplaceOp .BitAnd) (rI0 fun i j => .int (Builtin.bitAnd i j)) := opI0 fun _ _ _ _ _ _ _ q => iand_int q
theorem iop_or : OpR X (inplaceOp .BitOr) (rI0 fun i j => .int (Builtin.bitOr i j)) := opI0 fun _ _ _ _ _ _ _ q => ior_int q
theorem iop_xor : OpR X (inplaceOp .BitXor) (rI0 fun i j => .int (Builtin.bitXor i j)) := opI0 fun _ _ _ _ _ _ _ q => ixor_int q

theorem unI {f : Value → Sem Value} {g : Int → Int}
    (rule : ∀ (i : Int) (t : Tok) (s : Shared) (Q : Value → Shared → Prop) (E : Value → Shared → Prop), Q (.int (g i) s.toks) { s with toks := s.toks + 1 } → wpAny (model X.prog X.w) X.A (f (.int i t)) Q E s) :
    UnR X f (rU fun i => .int (g i)) := by
  intro pins s σ H x v Q I rx h
  obtain ⟨i, rfl, q⟩ := h
  obtain ⟨t, rfl⟩ := rx
  exact rule i t s _ _ ⟨.int (g i), H, I.tok _, ⟨_, rfl⟩, q⟩
theorem un_neg : UnR X (unaryOp .USub) (rU fun i => .int (-i)) := unI fun _ _ _ _ _ q => neg_int q
theorem un_inv : UnR X (unaryOp .Invert) (rU fun i => .int (Builtin.bitNot i)) := unI fun _ _ _ _ _ q => invert_int q

/-! ### bools among ints: n += (a < b) -/
theorem op_add_ib : OpR X (binaryOp .Add) (fun x y H Q => ∃ i k, x = .int i ∧ y = .bl k ∧ Q (.int (i + b2i k)) H) := by
  intro pins s σ H x y v u Q I rx ry h
  obtain ⟨i, k, rfl, rfl, q⟩ := h
  obtain ⟨t, rfl⟩ := rx
  cases ry
  exact add_int_bool ⟨.int (i + b2i k), H, I.tok _, ⟨_, rfl⟩, q⟩
end

/-! ### comparisons -/
/-- the scalars that == tells apart as data does -/
def scal : V → V → Bool
  | .non, .non => true | .non, .int _ => true | .int _, .non => true | .non, .bl _ => true | .bl _, .non => true | .non, .str _ => true | .str _, .non => true
  | .int _, .int _ => true | .bl _, .bl _ => true | .str _, .str _ => true | .byt _, .byt _ => true
  | .int _, .str _ => true | .str _, .int _ => true | .bl _, .str _ => true | .str _, .bl _ => true
  | _, _ => false
def rEq : R2 := fun x y H Q => scal x y = true ∧ Q (.bl (decide (x = y))) H
def rNe : R2 := fun x y H Q => scal x y = true ∧ Q (.bl (!decide (x = y))) H

theorem dec_int {i j : Int} : decide (V.int i = V.int j) = (i == j) := by
  rw [Bool.eq_iff_iff]
  simp
theorem dec_bl {i j : Bool} : decide (V.bl i = V.bl j) = (i == j) := by
  rw [Bool.eq_iff_iff]
  simp
theorem dec_str {i j : Str} : decide (V.str i = V.str j) = (i == j) := by
  rw [Bool.eq_iff_iff]
  simp
theorem dec_byt {i j : Array UInt8} : decide (V.byt i = V.byt j) = (i.toList == j.toList) := by
  rw [Bool.eq_iff_iff]
  cases i
  cases j
  simp

section
variable {X : Cx} {a b c : Expr} {ta tb tc : TE} {pos : Pos}
theorem fin_bl {pins : List (Addr × Obj)} {σ : St} {H : Hp} {s : Shared} {Q : VK} {k k' : Bool} (I : Inv X pins σ H s) (q : Q (.bl k) H) (e : k = k') : EP X pins σ Q (.bool k') s := by
  subst e
  exact ⟨.bl k, H, I, rfl, q⟩
theorem op_eq : OpR X (compareOp .Eq) rEq := by
  intro pins s σ H x y v u Q I rx ry h
  obtain ⟨hs, q⟩ := h
  cases x with
  | non =>
    cases rx
    cases y with
    | non => cases ry; exact PySem.EqNone.eq_none_none (fin_bl I q (by simp))
    | bl j => cases ry; exact PySem.EqNone.eq_none_bool (fin_bl I q (by simp))
    | int j => obtain ⟨t', rfl⟩ := ry; exact PySem.EqNone.eq_none_int (fin_bl I q (by simp))
    | str j => obtain ⟨t', rfl⟩ := ry; exact PySem.EqNone.eq_none_str (fin_bl I q (by simp))
    | _ => exact absurd (show false = true from hs) Bool.false_ne_true
  | bl i =>
    cases rx
    cases y with
    | non => cases ry; exact PySem.EqNone.eq_bool_none (fin_bl I q (by simp))
    | bl j => cases ry; exact eq_bool (fin_bl I q dec_bl)
    | str j => obtain ⟨t', rfl⟩ := ry; exact PySem.EqMixed.eq_bool_str (fin_bl I q (by simp))
    | _ => exact absurd (show false = true from hs) Bool.false_ne_true
  | int i =>
    obtain ⟨t, rfl⟩ := rx
    cases y with
    | non => cases ry; exact PySem.EqNone.eq_int_none (fin_bl I q (by simp))
    | int j => obtain ⟨t', rfl⟩ := ry; exact eq_int (fin_bl I q dec_int)
    | str j => obtain ⟨t', rfl⟩ := ry; exact PySem.EqMixed.eq_int_str (fin_bl I q (by simp))
    | _ => exact absurd (show false = true from hs) Bool.false_ne_true
  | str i =>
    obtain ⟨t, rfl⟩ := rx
    cases y with
    | non => cases ry; exact PySem.EqNone.eq_str_none (fin_bl I q (by simp))
    | bl j => cases ry; exact PySem.EqMixed.eq_str_bool (fin_bl I q (by simp))
    | int j => obtain ⟨t', rfl⟩ := ry; exact PySem.EqMixed.eq_str_int (fin_bl I q (by simp))
    | str j => obtain ⟨t', rfl⟩ := ry; exact eq_str (fin_bl I q dec_str)
    | _ => exact absurd (show false = true from hs) Bool.false_ne_true
  | byt i =>
    obtain ⟨t, rfl⟩ := rx
    cases y with
    | byt j => obtain ⟨t', rfl⟩ := ry; exact PySem.W.eq_bytes (fin_bl I q dec_byt)
    | _ => exact absurd (show false = true from hs) Bool.false_ne_true
  | _ => cases y <;> exact absurd (show false = true from hs) Bool.false_ne_true
theorem op_ne : OpR X (compareOp .NotEq) rNe := by
  intro pins s σ H x y v u Q I rx ry h
  obtain ⟨hs, q⟩ := h
  cases x with
  | non =>
    cases rx
    cases y with
    | non => cases ry; exact PySem.EqNone.ne_none_none (fin_bl I q (by simp))
    | bl j => cases ry; exact PySem.EqNone.ne_none_bool (fin_bl I q (by simp))
    | int j => obtain ⟨t', rfl⟩ := ry; exact PySem.EqNone.ne_none_int (fin_bl I q (by simp))
    | str j => obtain ⟨t', rfl⟩ := ry; exact PySem.EqNone.ne_none_str (fin_bl I q (by simp))
    | _ => exact absurd (show false = true from hs) Bool.false_ne_true
  | bl i =>
    cases rx
    cases y with
    | non => cases ry; exact PySem.EqNone.ne_bool_none (fin_bl I q (by simp))
    | bl j => cases ry; exact ne_bool (fin_bl I q (congrArg not dec_bl))
    | str j => obtain ⟨t', rfl⟩ := ry; exact PySem.EqMixed.ne_bool_str (fin_bl I q (by simp))
    | _ => exact absurd (show false = true from hs) Bool.false_ne_true
  | int i =>
    obtain ⟨t, rfl⟩ := rx
    cases y with
    | non => cases ry; exact PySem.EqNone.ne_int_none (fin_bl I q (by simp))
    | int j => obtain ⟨t', rfl⟩ := ry; exact ne_int (fin_bl I q (congrArg not dec_int))
    | str j => obtain ⟨t', rfl⟩ := ry; exact PySem.EqMixed.ne_int_str (fin_bl I q (by simp))
    | _ => exact absurd (show false = true from hs) Bool.false_ne_true
  | str i =>
    obtain ⟨t, rfl⟩ := rx
    cases y with
    | non => cases ry; exact PySem.EqNone.ne_str_none (fin_bl I q (by simp))
    | bl j => cases ry; exact PySem.EqMixed.ne_str_bool (fin_bl I q (by simp))
    | int j => obtain ⟨t', rfl⟩ := ry; exact PySem.EqMixed.ne_str_int (fin_bl I q (by simp))
    | str j => obtain ⟨t', rfl⟩ := ry; exact ne_str (fin_bl I q (congrArg not dec_str))
    | _ => exact absurd (show false = true from hs) Bool.false_ne_true
  | byt i =>
    obtain ⟨t, rfl⟩ := rx
    cases y with
    | byt j => obtain ⟨t', rfl⟩ := ry; exact PySem.W.ne_bytes (fin_bl I q (congrArg not dec_byt))
    | _ => exact absurd (show false = true from hs) Bool.false_ne_true
  | _ => cases y <;> exact absurd (show false = true from hs) Bool.false_ne_true

theorem op_lt : OpR X (compareOp .Lt) (rI0 fun i j => .bl (decide (i < j))) := opB0 fun _ _ _ _ _ _ _ q => lt_int q
theorem op_le : OpR X (compareOp .LtE) (rI0 fun i j => .bl (decide (i ≤ j))) := opB0 fun _ _ _ _ _ _ _ q => le_int q
theorem op_gt : OpR X (compareOp .Gt) (rI0 fun i j => .bl (decide (j < i))) := opB0 fun _ _ _ _ _ _ _ q => gt_int q
theorem op_ge : OpR X (compareOp .GtE) (rI0 fun i j => .bl (decide (j ≤ i))) := opB0 fun _ _ _ _ _ _ _ q => ge_int q
theorem op_lt_str : OpR X (compareOp .Lt) (fun x y H Q => ∃ i j, x = .str i ∧ y = .str j ∧ Q (.bl (decide (i.cps.toList < j.cps.toList))) H) := by
  intro pins s σ H x y v u Q I rx ry h
  obtain ⟨i, j, rfl, rfl, q⟩ := h
  obtain ⟨t, rfl⟩ := rx
  obtain ⟨t', rfl⟩ := ry
  exact lt_str (fin_bl I q rfl)
/-- the one string within the other -/
theorem op_in_str : OpR X (compareOp .In) (fun x y H Q => ∃ i j, x = .str i ∧ y = .str j ∧ Q (.bl (!(Builtin.Str.occurrences j i 0 j.length 1).isEmpty)) H) := by
  intro pins s σ H x y v u Q I rx ry h
  obtain ⟨i, j, rfl, rfl, q⟩ := h
  obtain ⟨t, rfl⟩ := rx
  obtain ⟨t', rfl⟩ := ry
  exact in_str (fin_bl I q rfl)

/-- is None, is not None: the right side a value none -/
theorem op_isN : OpR X (compareOp .Is) (fun x y H Q => y = .non ∧ Q (.bl (decide (x = .non))) H) := by
  intro pins s σ H x y v u Q I rx ry h
  obtain ⟨rfl, q⟩ := h
  cases ry
  refine is_none_gen (fin_bl I q ?_)
  cases x <;> first
    | (cases rx; rfl)
    | (obtain ⟨t, rfl⟩ := rx; rfl)
theorem op_notN : OpR X (compareOp .IsNot) (fun x y H Q => y = .non ∧ Q (.bl (!decide (x = .non))) H) := by
  intro pins s σ H x y v u Q I rx ry h
  obtain ⟨rfl, q⟩ := h
  cases ry
  refine isnot_none_gen (fin_bl I q ?_)
  cases x <;> first
    | (cases rx; rfl)
    | (obtain ⟨t, rfl⟩ := rx; rfl)

theorem op_notin_str : OpR X (compareOp .NotIn) (fun x y H Q => ∃ i j, x = .str i ∧ y = .str j ∧ Q (.bl (!(!(Builtin.Str.occurrences j i 0 j.length 1).isEmpty))) H) := by
  intro pins s σ H x y v u Q I rx ry h
  obtain ⟨i, j, rfl, rfl, q⟩ := h
  obtain ⟨t, rfl⟩ := rx
  obtain ⟨t', rfl⟩ := ry
  exact notIn_str (fin_bl I q rfl)
/-- is, is not of two objects that are tracked lists or instances -/
def isObj : HO → Bool
  | .lst _ => true
  | .ins _ _ _ => true
  | _ => false
theorem obj_there {pins : List (Addr × Obj)} {s : Shared} {σ : St} {H : Hp} {a : Addr} {o : HO} (I : Inv X pins σ H s) (h : H a = some o) (p : isObj o = true) : ∃ ob, s.heap.get? a = some ob ∧ ob.cls ≠ .type "tuple" := by
  cases o with
  | lst xs =>
    obtain ⟨_, its, n, _, e⟩ : xs.length ≤ sizeLine ∧ ∃ (its : List Value) (n : Nat), Vals xs its ∧ s.heap.get? a = some { cls := .type "list", data := .seq its.toArray n } := I.hok a _ h
    exact ⟨_, e, (by show Value.type "list" ≠ .type "tuple"; decide +kernel)⟩
  | ins C dx fs =>
    have x := I.hok a _ h
    obtain ⟨_, _, _, e, _⟩ := x
    exact ⟨_, e, (by show Value.ref C ≠ .type "tuple"; exact fun z => by cases z)⟩
  | _ => exact absurd (show false = true from p) Bool.false_ne_true
theorem op_is_ref : OpR X (compareOp .Is) (fun x y H Q => ∃ a b oa ob, x = .ref a ∧ y = .ref b ∧ H a = some oa ∧ isObj oa = true ∧ H b = some ob ∧ isObj ob = true ∧ Q (.bl (decide (a = b))) H) := by
  intro pins s σ H x y v u Q I rx ry h
  obtain ⟨a, b, oa, ob, rfl, rfl, ha, pa, hb, pb, q⟩ := h
  cases rx
  cases ry
  obtain ⟨o1, e1, n1⟩ := obj_there I ha pa
  obtain ⟨o2, e2, _⟩ := obj_there I hb pb
  by_cases z : a = b
  · subst z
    exact wpAny_is_ref_self (fin_bl I q (by simp))
  · exact wpAny_is_ref_other z e1 e2 n1 (fin_bl I q (by simp [z]))
theorem op_isnot_ref : OpR X (compareOp .IsNot) (fun x y H Q => ∃ a b oa ob, x = .ref a ∧ y = .ref b ∧ H a = some oa ∧ isObj oa = true ∧ H b = some ob ∧ isObj ob = true ∧ Q (.bl (!decide (a = b))) H) := by
  intro pins s σ H x y v u Q I rx ry h
  obtain ⟨a, b, oa, ob, rfl, rfl, ha, pa, hb, pb, q⟩ := h
  cases rx
  cases ry
  obtain ⟨o1, e1, n1⟩ := obj_there I ha pa
  obtain ⟨o2, e2, _⟩ := obj_there I hb pb
  by_cases z : a = b
  · subst z
    exact wpAny_isNot_ref_self (fin_bl I q (by simp))
  · exact wpAny_isNot_ref_other z e1 e2 n1 (fin_bl I q (by simp [z]))

/-- two rules for one operation: by cases -/
theorem OpR.or {f : Value → Value → Sem Value} {r r' : R2} (h : OpR X f r) (h' : OpR X f r') : OpR X f (fun x y H Q => r x y H Q ∨ r' x y H Q) := by
  intro pins s σ H x y v u Q I rx ry q
  rcases q with q | q
  · exact h pins s σ H x y v u Q I rx ry q
  · exact h' pins s σ H x y v u Q I rx ry q

theorem nomark (b : Expr) {op : CmpOp} (h : op ≠ .In := by decide) (h2 : op ≠ .NotIn := by decide) : behindInMarks op b = false := by
  have e1 : (op == CmpOp.In) = false := by cases op <;> first | rfl | exact absurd rfl h
  have e2 : (op == CmpOp.NotIn) = false := by cases op <;> first | rfl | exact absurd rfl h2
  cases b <;> simp [behindInMarks, e1, e2]
/-- a comparison as a value; hm: nomark b, or (for in, not in) by with_unfolding_all rfl -/
theorem pe_cmpR {op : CmpOp} {r : R2} (ho : OpR X (compareOp op) r) (ha : PE X a ta) (hb : PE X b tb) (hm : behindInMarks op b = false) : PE X (.Compare a [op] [b] pos) (tOp r ta tb) := by
  intro pins s σ H Q I h
  exact wpAny_Compare1 (binT ha hb I h fun v u s2 x y H2 I2 rx ry q => ho pins s2 σ H2 x y v u Q I2 rx ry q) hm
/-- a reading of a value as a test -/
def tTest (t : TE) : TT := fun σ H Q => t σ H fun x H' => ∃ k, x = .bl k ∧ Q k H'
theorem pt_cmpR {op : CmpOp} {r : R2} (ho : OpR X (compareOp op) r) (ha : PE X a ta) (hb : PE X b tb) (hm : behindInMarks op b = false) : PT X (.Compare a [op] [b] pos) (tTest (tOp r ta tb)) := by
  intro pins s σ H Q I h
  refine wpAny_isTrue_Compare1 (thn (ha pins s σ H _ I h) fun v s1 ⟨x, H1, I1, r1, q1⟩ => thn (hb pins s1 σ H1 _ I1 q1) fun u s2 ⟨y, H2, I2, r2, q2⟩ =>
    thn (ho pins s2 σ H2 x y v u _ I2 r1 r2 q2) fun c s3 ⟨z, H3, I3, r3, k, e, q3⟩ => ?_) hm
  subst e
  cases r3
  exact wpAny_truthy_bool ⟨H3, I3, q3⟩
/-- a op1 b op2 c -/
def tChain (r r' : R2) (ta tb tc : TE) : TE := fun σ H Q => ta σ H fun x H1 => tb σ H1 fun y H2 => r x y H2 fun z H3 => ∃ k, z = .bl k ∧
  (if k = true then tc σ H3 fun w' H4 => r' y w' H4 Q else Q (.bl false) H3)
theorem pe_chain {op op' : CmpOp} {r r' : R2} (ho : OpR X (compareOp op) r) (ho' : OpR X (compareOp op') r') (ha : PE X a ta) (hb : PE X b tb) (hc : PE X c tc)
    (hm : lastMarks [op, op'] [b, c] = false := by with_unfolding_all rfl) : PE X (.Compare a [op, op'] [b, c] pos) (tChain r r' ta tb tc) := by
  intro pins s σ H Q I h
  refine Compare_chain (thn (ha pins s σ H _ I h) fun v s1 ⟨x, H1, I1, r1, q1⟩ => chain_link (thn (hb pins s1 σ H1 _ I1 q1) fun u s2 ⟨y, H2, I2, r2, q2⟩ =>
    thn (ho pins s2 σ H2 x y v u _ I2 r1 r2 q2) fun d s3 ⟨z, H3, I3, r3, k, e, q3⟩ => ?_)) hm
  subst e
  cases r3
  refine wpAny_truthy_bool ?_
  cases k with
  | false => exact ite_ff ⟨.bl false, H3, I3, rfl, q3⟩
  | true => exact ite_tt (chain_last (thn (hc pins s3 σ H3 _ I3 q3) fun w' s4 ⟨z', H4, I4, r4, q4⟩ => ho' pins s4 σ H4 y z' u w' Q I4 r2 r4 q4))
theorem pt_chain {op op' : CmpOp} {r r' : R2} (ho : OpR X (compareOp op) r) (ho' : OpR X (compareOp op') r') (ha : PE X a ta) (hb : PE X b tb) (hc : PE X c tc)
    (hm : lastMarks [op, op'] [b, c] = false := by with_unfolding_all rfl) : PT X (.Compare a [op, op'] [b, c] pos) (tTest (tChain r r' ta tb tc)) := by
  intro pins s σ H Q I h
  refine isTrue_chain (thn (ha pins s σ H _ I h) fun v s1 ⟨x, H1, I1, r1, q1⟩ => test_link (thn (hb pins s1 σ H1 _ I1 q1) fun u s2 ⟨y, H2, I2, r2, q2⟩ =>
    thn (ho pins s2 σ H2 x y v u _ I2 r1 r2 q2) fun d s3 ⟨z, H3, I3, r3, k, e, q3⟩ => ?_)) hm
  subst e
  cases r3
  refine wpAny_truthy_bool ?_
  cases k with
  | false =>
    obtain ⟨k', e', q'⟩ := q3
    cases e'
    exact ite_ff ⟨H3, I3, q'⟩
  | true =>
    refine ite_tt (test_last (thn (hc pins s3 σ H3 _ I3 q3) fun w' s4 ⟨z', H4, I4, r4, q4⟩ => thn (ho' pins s4 σ H4 y z' u w' _ I4 r2 r4 q4) fun d' s5 ⟨z2, H5, I5, r5, k2, e2, q5⟩ => ?_))
    subst e2
    cases r5
    exact wpAny_truthy_bool ⟨H5, I5, q5⟩

/-! ### truth -/
/-- a value's truth by the abstract heap -/
def TruV (K : PySem.W.Frag) (x : V) (H : Hp) (k : Bool) : Prop :=
  match x with
  | .non => k = false
  | .bl b => k = b
  | .int i => k = (i != 0)
  | .str y => y.length ≤ sizeLine ∧ k = ((y.length : Int) != 0)
  | .byt y => y.size ≤ sizeLine ∧ k = ((y.size : Int) != 0)
  | .ref p => (∃ xs, SqL K H p xs ∧ k = !xs.isEmpty) ∨ (∃ xs, SqT K H p xs ∧ k = !xs.isEmpty) ∨ ∃ kvs, H p = some (.dK kvs) ∧ k = !kvs.isEmpty
  | _ => False
theorem isEmpty_kv {κ : Type} {kvs : List (κ × V)} {vs : List (κ × Value)} (r : KV kvs vs) : (!vs.isEmpty) = !kvs.isEmpty := by
  cases r <;> rfl
theorem isEmpty_of {xs : List V} {its : List Value} (r : Vals xs its) : (!its.toArray.isEmpty) = !xs.isEmpty := by
  cases r <;> simp
theorem line63 : (sizeLine : Nat) < 2 ^ 63 := by rw [sizeLine_eq]; decide
theorem tru_ok : TruR X (fun x H Q => ∃ k, TruV X.K x H k ∧ Q k H) := by
  intro pins s σ H x v Q I rx h
  obtain ⟨k, e, q⟩ := h
  have hl := line63
  have hs : sizeLine = 16777216 := sizeLine_eq
  cases x with
  | non =>
    cases rx
    have e' : k = false := e
    subst e'
    exact truthy_none ⟨H, I, q⟩
  | bl b =>
    cases rx
    have e' : k = b := e
    subst e'
    exact wpAny_truthy_bool ⟨H, I, q⟩
  | int i =>
    obtain ⟨t, rfl⟩ := rx
    have e' : k = (i != 0) := e
    subst e'
    exact PySem.P.truthy_int ⟨H, I, q⟩
  | str y =>
    obtain ⟨t, rfl⟩ := rx
    obtain ⟨hy, e'⟩ : y.length ≤ sizeLine ∧ k = ((y.length : Int) != 0) := e
    subst e'
    exact PySem.P.truthy_str (by omega) ⟨H, I.tok _, q⟩
  | byt y =>
    obtain ⟨t, rfl⟩ := rx
    obtain ⟨hy, e'⟩ : y.size ≤ sizeLine ∧ k = ((y.size : Int) != 0) := e
    subst e'
    exact PySem.W.truthy_bytes (by omega) ⟨H, I.tok _, q⟩
  | ref p =>
    cases rx
    have e' : (∃ xs, SqL X.K H p xs ∧ k = !xs.isEmpty) ∨ (∃ xs, SqT X.K H p xs ∧ k = !xs.isEmpty) ∨ ∃ kvs, H p = some (.dK kvs) ∧ k = !kvs.isEmpty := e
    rcases e' with ⟨xs, hx, e'⟩ | ⟨xs, hx, e'⟩ | ⟨kvs, hx, e'⟩
    · subst e'
      obtain ⟨its, r, pl, hz⟩ := I.list hx
      have hlen := r.length
      exact wpAny_truthy_list pl.isList (by simp only [List.size_toArray]; omega) ⟨H, I.tok _, by rw [isEmpty_of r]; exact q⟩
    · subst e'
      obtain ⟨its, r, pl, hz⟩ := I.tuple hx
      have hlen := r.length
      exact truthy_tuple pl (by simp only [List.size_toArray]; omega) ⟨H, I.tok _, by rw [isEmpty_of r]; exact q⟩
    · subst e'
      obtain ⟨hz, hS, vs, r, m⟩ : kvs.length ≤ sizeLine ∧ (p == sysModules) = false ∧ ∃ vs, KV kvs vs ∧ s.heap.DictOf (mixKind X.prog X.w) p vs := I.hok p _ hx
      have hlen : kvs.length = vs.length := Paired.length r
      exact wpAny_truthy_dict hS m (by omega) ⟨H, I.tok _, by rw [isEmpty_kv r]; exact q⟩
  | _ => exact (show False from e).elim
/-- any expression whose test is its value's truth (a name, a call, a subscript, a field ..: he by fun _ => rfl) -/
theorem pt_truth (ha : PE X a ta) (he : ∀ whole, isTrue a X.env whole = (do let v ← whole; standAt a.pos; holding [v] (truthy v))) :
    PT X a (fun σ H Q => ta σ H fun x H' => ∃ k, TruV X.K x H' k ∧ Q k H') := by
  intro pins s σ H Q I h
  exact isTrue_plain (thn (ha pins s σ H _ I h) fun v s1 ⟨x, H1, I1, r1, q1⟩ => tru_ok pins s1 σ H1 x v Q I1 r1 q1) (he _)

/-! ### strs and bytes -/
theorem pe_byt {x : List UInt8} {k : Nat} : PE X (.Constant (.bytes x) k pos) (fun _ H Q => Q (.byt x.toArray) H) := fun _ _ _ H _ I h => PySem.W.Constant_bytes ⟨.byt x.toArray, H, I.tok _, ⟨_, rfl⟩, h⟩
theorem op_add_str : OpR X (binaryOp .Add) (fun x y H Q => ∃ i j, x = .str i ∧ y = .str j ∧ i.length + j.length ≤ sizeLine ∧ Q (.str (i ++ j)) H) := by
  intro pins s σ H x y v u Q I rx ry h
  obtain ⟨i, j, rfl, rfl, hz, q⟩ := h
  obtain ⟨t, rfl⟩ := rx
  obtain ⟨t', rfl⟩ := ry
  exact add_str (fun t' tk => ⟨.str (i ++ j), H, I.tok _, ⟨_, rfl⟩, q⟩) hz
theorem iop_add_str : OpR X (inplaceOp .Add) (fun x y H Q => ∃ i j, x = .str i ∧ y = .str j ∧ i.length + j.length ≤ sizeLine ∧ Q (.str (i ++ j)) H) := by
  intro pins s σ H x y v u Q I rx ry h
  obtain ⟨i, j, rfl, rfl, hz, q⟩ := h
  obtain ⟨t, rfl⟩ := rx
  obtain ⟨t', rfl⟩ := ry
  exact iadd_str (fun t' tk => ⟨.str (i ++ j), H, I.tok _, ⟨_, rfl⟩, q⟩) hz
theorem op_add_byt : OpR X (binaryOp .Add) (fun x y H Q => ∃ i j, x = .byt i ∧ y = .byt j ∧ i.size + j.size ≤ 16777216 ∧ Q (.byt (i ++ j)) H) := by
  intro pins s σ H x y v u Q I rx ry h
  obtain ⟨i, j, rfl, rfl, hz, q⟩ := h
  obtain ⟨t, rfl⟩ := rx
  obtain ⟨t', rfl⟩ := ry
  exact PySem.W.KBy.add_bytes hz (fun t' tk => ⟨.byt (i ++ j), H, I.tok _, ⟨_, rfl⟩, q⟩)

def PlainIxT (b : Expr) : Prop := ∀ o i, subscripted b false o i = operate [o, i] (getItem o i)
/-- s[i], 0 ≤ i < len -/
theorem pe_item_str (ha : PE X a ta) (hb : PE X b tb) (hs : PlainIxT b) :
    PE X (.Subscript a b pos) (tOp (fun x y H Q => ∃ z i c, x = .str z ∧ y = .int i ∧ 0 ≤ i ∧ i < 2 ^ 63 ∧ i < z.length ∧ z.cps[i.toNat]? = some c ∧ Q (.str ⟨#[c]⟩) H) ta tb) := by
  intro pins s σ H Q I h
  refine Subscript_ (binT ha hb I h fun v u s2 x y H2 I2 rx ry q => ?_)
  obtain ⟨z, i, c, rfl, rfl, h0, h63, h1, hc, q⟩ := q
  obtain ⟨t, rfl⟩ := rx
  obtain ⟨t', rfl⟩ := ry
  have e : seqIndex? i z.length = some i.toNat := PySem.StrLaws.seqIndex_nonneg h0 h1
  exact tail_any (typeIs_str s2 z t) slot_str_getitem.lookup (getItem_str (c := c) (by
    have e1 : decide (i < -(2 ^ 63 : Int)) = false := decide_eq_false (by omega)
    have e2 : decide (i ≥ 2 ^ 63) = false := decide_eq_false (by omega)
    rw [e1, e2] <;> rfl) (by rw [e]; exact hc) ⟨.str ⟨#[c]⟩, H2, I2.tok _, ⟨_, rfl⟩, q⟩) (hs _ _)
/-- b[i], 0 ≤ i < len -/
theorem pe_item_byt (ha : PE X a ta) (hb : PE X b tb) (hs : PlainIxT b) :
    PE X (.Subscript a b pos) (tOp (fun x y H Q => ∃ (z : List UInt8) (i : Int), x = .byt z.toArray ∧ y = .int i ∧ z.length ≤ sizeLine ∧ 0 ≤ i ∧ i < z.length ∧ Q (.int ((z.getD i.toNat 0).toNat : Nat)) H) ta tb) := by
  intro pins s σ H Q I h
  refine Subscript_ (binT ha hb I h fun v u s2 x y H2 I2 rx ry q => ?_)
  obtain ⟨z, i, rfl, rfl, hz, h0, h1, q⟩ := q
  obtain ⟨t, rfl⟩ := rx
  obtain ⟨t', rfl⟩ := ry
  have hl : sizeLine = 16777216 := sizeLine_eq
  exact tail_any (PySem.W.typeIs_bytes s2 z.toArray t) PySem.W.FB.slot_bytes_getitem.lookup (PySem.W.getItem_bytes (by omega) h0 h1 ⟨.int ((z.getD i.toNat 0).toNat : Nat), H2, I2.tok _, ⟨_, rfl⟩, q⟩) (hs _ _)

/-! ### scalar builtins, by CallR -/
theorem vals1 {x : V} {us : List Value} (r : Vals [x] us) : ∃ u, us = [u] ∧ RelV x u := by
  cases r with
  | cons r1 r2 => cases r2; exact ⟨_, rfl, r1⟩
theorem vals2 {x y : V} {us : List Value} (r : Vals [x, y] us) : ∃ u w', us = [u, w'] ∧ RelV x u ∧ RelV y w' := by
  cases r with
  | cons r1 r2 =>
    cases r2 with
    | cons r3 r4 => cases r4; exact ⟨_, _, rfl, r1, r3⟩
theorem call_abs : CallR X (.builtin "abs") (fun xs H Q => ∃ i, xs = [.int i] ∧ Q (.int (if i < 0 then -i else i)) H) := by
  intro pins s σ H xs us Q I r h
  obtain ⟨i, rfl, q⟩ := h
  obtain ⟨u, rfl, t, rfl⟩ := vals1 r
  exact call_abs_int fun u tk => ⟨.int (if i < 0 then -i else i), H, I.tok _, ⟨_, rfl⟩, q⟩
theorem call_max2 (hc : X.calm = true) : CallR X (.builtin "max") (fun xs H Q => ∃ i j, xs = [.int i, .int j] ∧ Q (.int (if j > i then j else i)) H) := by
  intro pins s σ H xs us Q I r h
  obtain ⟨i, j, rfl, q⟩ := h
  obtain ⟨u, w', rfl, ⟨t, rfl⟩, ⟨t', rfl⟩⟩ := vals2 r
  refine max_two_ints (I.ok.hd hc) fun h' tk k => ⟨_, H, I.kept k, ?_, q⟩
  by_cases hj : j > i
  · rw [if_pos hj, if_pos hj]; exact ⟨_, rfl⟩
  · rw [if_neg hj, if_neg hj]; exact ⟨_, rfl⟩
theorem call_min2 (hc : X.calm = true) : CallR X (.builtin "min") (fun xs H Q => ∃ i j, xs = [.int i, .int j] ∧ Q (.int (if j < i then j else i)) H) := by
  intro pins s σ H xs us Q I r h
  obtain ⟨i, j, rfl, q⟩ := h
  obtain ⟨u, w', rfl, ⟨t, rfl⟩, ⟨t', rfl⟩⟩ := vals2 r
  refine min_two_ints (I.ok.hd hc) fun h' tk k => ⟨_, H, I.kept k, ?_, q⟩
  by_cases hj : j < i
  · rw [if_pos hj, if_pos hj]; exact ⟨_, rfl⟩
  · rw [if_neg hj, if_neg hj]; exact ⟨_, rfl⟩
theorem call_int1 : CallR X (.type "int") (fun xs H Q => (∃ i, xs = [.int i] ∧ Q (.int i) H) ∨ ∃ k, xs = [.bl k] ∧ Q (.int (if k then 1 else 0)) H) := by
  intro pins s σ H xs us Q I r h
  rcases h with ⟨i, rfl, q⟩ | ⟨k, rfl, q⟩
  · obtain ⟨u, rfl, t, rfl⟩ := vals1 r
    exact call_int_int ⟨.int i, H, I, ⟨_, rfl⟩, q⟩
  · obtain ⟨u, rfl, r1⟩ := vals1 r
    cases r1
    exact call_int_bool ⟨.int (if k then 1 else 0), H, I.tok _, ⟨_, rfl⟩, q⟩
theorem call_bool1 : CallR X (.type "bool") (fun xs H Q => (∃ i, xs = [.int i] ∧ Q (.bl (i != 0)) H) ∨ ∃ k, xs = [.bl k] ∧ Q (.bl k) H) := by
  intro pins s σ H xs us Q I r h
  rcases h with ⟨i, rfl, q⟩ | ⟨k, rfl, q⟩
  · obtain ⟨u, rfl, t, rfl⟩ := vals1 r
    exact call_bool_int ⟨.bl (i != 0), H, I, rfl, q⟩
  · obtain ⟨u, rfl, r1⟩ := vals1 r
    cases r1
    exact call_bool_bool ⟨.bl k, H, I, rfl, q⟩
theorem call_str_int : CallR X (.type "str") (fun xs H Q => ∃ i, xs = [.int i] ∧ i.natAbs.log2 < 1920 ∧ Q (.str (toString i)) H) := by
  intro pins s σ H xs us Q I r h
  obtain ⟨i, rfl, hz, q⟩ := h
  obtain ⟨u, rfl, t, rfl⟩ := vals1 r
  exact PySem.P.str_of_int hz ⟨.str _, H, I.tok _, ⟨_, rfl⟩, q⟩
theorem call_ord : CallR X (.builtin "ord") (fun xs H Q => ∃ x, xs = [.str x] ∧ x.length = 1 ∧ Q (.int (x.cps.getD 0 0 : Nat)) H) := by
  intro pins s σ H xs us Q I r h
  obtain ⟨x, rfl, hz, q⟩ := h
  obtain ⟨u, rfl, t, rfl⟩ := vals1 r
  exact ord_of_one hz ⟨.int _, H, I.tok _, ⟨_, rfl⟩, q⟩
theorem call_chr : CallR X (.builtin "chr") (fun xs H Q => ∃ i, xs = [.int i] ∧ 0 ≤ i ∧ i ≤ 1114111 ∧ Q (.str ⟨#[i.toNat]⟩) H) := by
  intro pins s σ H xs us Q I r h
  obtain ⟨i, rfl, h0, h1, q⟩ := h
  obtain ⟨u, rfl, t, rfl⟩ := vals1 r
  exact chr_of_range h0 h1 ⟨.str _, H, I.tok _, ⟨_, rfl⟩, q⟩
/-- len of a str, a bytes, a list, a tuple -/
def LenV (K : PySem.W.Frag) (x : V) (H : Hp) (n : Nat) : Prop :=
  match x with
  | .str y => y.length ≤ sizeLine ∧ n = y.length
  | .byt y => y.size ≤ sizeLine ∧ n = y.size
  | .ref p => (∃ xs, SqL K H p xs ∧ n = xs.length) ∨ ∃ xs, SqT K H p xs ∧ n = xs.length
  | _ => False
theorem call_len : CallR X (.builtin "len") (fun xs H Q => ∃ x n, xs = [x] ∧ LenV X.K x H n ∧ Q (.int n) H) := by
  intro pins s σ H xs us Q I r h
  obtain ⟨x, n, rfl, e, q⟩ := h
  obtain ⟨u, rfl, rx⟩ := vals1 r
  have hl := line63
  have hs : sizeLine = 16777216 := sizeLine_eq
  cases x with
  | str y =>
    obtain ⟨t, rfl⟩ := rx
    obtain ⟨hy, e'⟩ : y.length ≤ sizeLine ∧ n = y.length := e
    subst e'
    exact len_str (by omega) ⟨.int _, H, I.tok _, ⟨_, rfl⟩, q⟩
  | byt y =>
    obtain ⟨t, rfl⟩ := rx
    obtain ⟨hy, e'⟩ : y.size ≤ sizeLine ∧ n = y.size := e
    subst e'
    exact PySem.W.len_bytes (by omega) ⟨.int _, H, I.tok _, ⟨_, rfl⟩, q⟩
  | ref p =>
    cases rx
    have e' : (∃ xs, SqL X.K H p xs ∧ n = xs.length) ∨ ∃ xs, SqT X.K H p xs ∧ n = xs.length := e
    rcases e' with ⟨xs, hx, e'⟩ | ⟨xs, hx, e'⟩
    · subst e'
      obtain ⟨its, r', pl, hz⟩ := I.list hx
      have hlen := r'.length
      exact Calls.call_len_list pl.isList (by simp only [List.size_toArray]; omega) ⟨.int xs.length, H, I.tok _, ⟨_, by simp only [List.size_toArray]; rw [hlen]⟩, q⟩
    · subst e'
      obtain ⟨its, r', pl, hz⟩ := I.tuple hx
      have hlen := r'.length
      exact len_tuple pl (by simp only [List.size_toArray]; omega) ⟨.int xs.length, H, I.tok _, ⟨_, by simp only [List.size_toArray]; rw [hlen]⟩, q⟩
  | _ => exact (show False from e).elim
/-- divmod: a new tuple -/
theorem call_divmod : CallR X (.builtin "divmod") (fun xs H Q => ∃ i j, xs = [.int i, .int j] ∧ CDiv i j ∧ ∀ p, H p = none → Q (.ref p) (upd H p (.tup [.int (i / j), .int (i % j)]))) := by
  intro pins s σ H xs us Q I r h
  obtain ⟨i, j, rfl, ⟨h1, h2⟩, q⟩ := h
  obtain ⟨u, w', rfl, ⟨t, rfl⟩, ⟨t', rfl⟩⟩ := vals2 r
  refine divmod_int (by omega) ?_ (.inl (PyProof.noPylong_small (by omega)))
  rw [Int.fdiv_eq_ediv_of_nonneg i (by omega), Int.fmod_eq_emod_of_nonneg i (by omega)]
  have hn : H s.heap.objs.size = none := I.hok.fresh (Nat.le_refl _)
  refine ⟨.ref s.heap.objs.size, _, ?_, rfl, q _ hn⟩
  refine I.laid (fun b o e => Heap.get?_push_of_some _ e) (Nat.le_refl _) ⟨by simp only [List.length_cons, List.length_nil]; rw [sizeLine_eq]; decide, [.int (i / j) s.toks, .int (i % j) (s.toks + 1)], .cons ⟨_, rfl⟩ (.cons ⟨_, rfl⟩ .nil), ?_⟩
  exact ⟨_, Heap.get?_push_size s.heap rfl, rfl, 0, rfl⟩
end
end L2

namespace L2
open PySem PySem.Spec PyProof.Rows

/-! ### an instance, its attributes a map -/
structure ObjM (h : Heap) (x dx C : Addr) (mA : Str → Option Value) : Prop where
  obj : h.get? x = some (PySem.W.instObj C dx)
  ns : h.Ns1 dx mA
  ne : dx ≠ x

theorem lookIn_ns {h : Heap} {dx : Addr} {mA : Str → Option Value} (n : h.Ns1 dx mA) : ∃ od, h.get? dx = some od ∧ ∀ name, PySem.W.lookIn name od = some (mA name) := by
  obtain ⟨o, es, ep, ho, hd, hk, _, hm⟩ := n
  refine ⟨o, ho, fun name => ?_⟩
  have e := hm name
  unfold nsFind findBy at e
  rw [← Array.find?_toList] at e
  unfold PySem.W.lookIn
  rw [hd]
  dsimp only
  split
  · rename_i y q
    rw [q] at e
    exact congrArg some e
  · rename_i q
    rw [q] at e
    have a : es.toList.any (·.refKey) = false := by
      rw [List.any_eq_false]
      intro y hy
      obtain ⟨z, t, hkey⟩ := hk y (Array.mem_toList_iff.mp hy)
      simp [DictEntry.refKey, hkey]
    have a' : ¬ es.toList.any (·.refKey) = true := by rw [a]; exact Bool.false_ne_true
    rw [if_neg a']
    exact congrArg some e

theorem ObjM.look {h : Heap} {x dx C : Addr} {mA : Str → Option Value} (I : ObjM h x dx C mA) : ∃ od, PySem.W.InstAt h x (PySem.W.instObj C dx) C (some od) ∧ ∀ name, PySem.W.lookIn name od = some (mA name) :=
  let ⟨od, ho, hl⟩ := lookIn_ns I.ns
  ⟨od, ⟨I.obj, rfl, rfl, ho⟩, hl⟩

section
variable {prog : Program} {w : World} {A : Around} {E : Value → Shared → Prop} {s : Shared} {K : PySem.W.Frag} {x dx C f : Addr} {mA : Str → Option Value} {name : Str} {v : Value}

theorem get_map {expr : Bool} {Q : Value → Shared → Prop} (X : K.In s.heap) (I : ObjM s.heap x dx C mA) (hg : PySem.W.plainGet K C name = true) (hh : PySem.W.hasDictIn K C = true)
    (ha : PySem.W.findIn K (.ref C) name = some none) (hv : mA name = some v) (hv' : PySem.W.handedIn v = true) (h : Q v { s with toks := s.toks + 1 }) :
    wpAny (model prog w) A (getAttr (.ref x) name expr) Q E s := by
  obtain ⟨od, J, hl⟩ := I.look
  exact PySem.W.get_value X J (PySem.W.plainGet_of hg).1 (PySem.W.findObj_own hh ha rfl (by rw [hl, hv])) hv' h

theorem get_const {expr : Bool} {a : Value} {Q : Value → Shared → Prop} (X : K.In s.heap) (I : ObjM s.heap x dx C mA) (hg : PySem.W.plainGet K C name = true) (hh : PySem.W.hasDictIn K C = true)
    (ha : PySem.W.findIn K (.ref C) name = some (some a)) (hn : PySem.W.specialIn K a "__get__" = some none) (hc : PySem.W.copiedNames.contains name = false) (hv : mA name = none) (hv' : PySem.W.handedIn a = true)
    (h : Q a { s with toks := s.toks + 1 }) : wpAny (model prog w) A (getAttr (.ref x) name expr) Q E s := by
  obtain ⟨od, J, hl⟩ := I.look
  exact PySem.W.get_value X J (PySem.W.plainGet_of hg).1 (PySem.W.findObj_cls hh ha hn hv' hc (by rw [hl, hv])) hv' h

theorem get_meth {pl : Sem Bool} {Q : Value × List Value → Shared → Prop} (X : K.In s.heap) (I : ObjM s.heap x dx C mA) (hg : PySem.W.plainGet K C name = true)
    (hf : PySem.W.findIn K (.ref C) name = some (some (.ref f))) (ht : PySem.W.isFn K (.ref f) = true) (hv : mA name = none) (h : Q (.ref f, [.ref x]) s) :
    wpAny (model prog w) A (getMethod (.ref x) name pl) Q E s := by
  obtain ⟨od, J, hl⟩ := I.look
  exact PySem.W.method_fn X J (PySem.W.plainGet_of hg).1 (PySem.W.plainGet_of hg).2 hf (beq_iff_eq.mp ht) (by show (PySem.W.lookIn name od).map (·.isSome) = some false; rw [hl, hv]; rfl) h

theorem set_map {ns : List Str} {Q : Unit → Shared → Prop} (X : K.In s.heap) (I : ObjM s.heap x dx C mA)
    (hs : PySem.W.findIn K (.ref C) "__setattr__" = some (some (.builtin "object.__setattr__"))) (hp : PySem.W.plainOver K C = true) (ht : PySem.W.takerIn K C name = some none) (hh : PySem.W.hasDictIn K C = true)
    (hw : PySem.Within mA ns) (hsz : ns.length ≤ sizeLine)
    (h : ∀ h', ObjM h' x dx C (fun y => if y = name then some v else mA y) → Heap.SameBut dx s.heap h' → Q () { s with heap := h', toks := s.toks + 2 }) :
    wpAny (model prog w) A (setAttr (.ref x) name v) Q E s := by
  obtain ⟨od, J, hl⟩ := I.look
  refine PySem.W.set_plain X J hs (PySem.W.osa_open (s := { s with toks := s.toks + 1 }) (r := none) X J hp ht fun b => ?_)
  obtain ⟨cd, hc, hd'⟩ := PySem.W.any_some hh
  have hx : s.heap.get? x = some ⟨.ref C, some dx, .plain, #[]⟩ := I.obj
  refine wpAny_bind (wpAny_pure (wpAny_bind (wpAny_bind (wpAny_loadPart hx (wpAny_bind (PySem.W.Looks.here (s := { s with toks := s.toks + 1 }) (PySem.W.looks_clsIn X hc) ?_))))))
  rw [hd']
  refine wpAny_pure (a := some dx) (wpAny_bind (wpAny_pure (wpAny_bind ?_)))
  refine wpAny_nsSet1 (s := { s with toks := s.toks + 1 }) I.ns fun h' hn2 hs2 => ?_
  obtain ⟨oD, esD, epD, hoD, hdD, hcD⟩ := hn2.count (PySem.Within.cons name v hw)
  refine wpAny_bind (wpAny_lookBehind hoD (by rw [hdD]; exact pastItsLine_dict (Nat.le_trans hcD (by rw [List.length_cons]; omega))) ?_)
  exact wpAny_pure (h _ ⟨(hs2.2 _ (Ne.symm I.ne)).trans I.obj, hn2, I.ne⟩ hs2)

/-- C(..): the dict at the heap's end, the instance behind it; then its __init__ -/
theorem make_map {R : Result → Shared → Prop} {vs : List Value} {kw : List (Str × Value)} (X : K.In s.heap) (hm : PySem.W.makesIn K C = true)
    (hi : PySem.W.findIn K (.ref C) "__init__" = some (some (.ref f))) (hf : PySem.W.typeIn K (.ref f) = some (.type "function"))
    (h : codeAny (model prog w) (A.under (.builtin "type.__call__" ⟨.ref C :: vs, kw⟩)) (.call (.ref f) ⟨.ref (s.heap.objs.size + 1) :: vs, kw⟩) (PySem.W.InitBack (s.heap.objs.size + 1) R)
      { s with heap := (s.heap.push PySem.W.emptyDict).push (PySem.W.instObj C s.heap.objs.size) }) :
    codeAny (model prog w) A (.call (.ref C) ⟨vs, kw⟩) R s := by
  obtain ⟨hh, g, d, t, os⟩ := s
  exact PySem.W.make_core (PySem.W.makes_of X hm) (PySem.W.looks_findIn X hi) (fun self => PySem.W.bind_fn X self hf) (.inl rfl) h
/-- C() where there is no __init__ but object's -/
theorem make_map0 {R : Result → Shared → Prop} (X : K.In s.heap) (hm : PySem.W.makesIn K C = true)
    (hi : PySem.W.findIn K (.ref C) "__init__" = some (some (.builtin "object.__init__")))
    (hb : ∀ self, PySem.W.Looks (model prog w) s.heap (bindSpecial (.builtin "object.__init__") self) (.builtin "object.__init__", [self]))
    (h : codeAny (model prog w) (A.under (.builtin "type.__call__" ⟨[.ref C], []⟩)) (.call (.builtin "object.__init__") ⟨[.ref (s.heap.objs.size + 1)], []⟩) (PySem.W.InitBack (s.heap.objs.size + 1) R)
      { s with heap := (s.heap.push PySem.W.emptyDict).push (PySem.W.instObj C s.heap.objs.size) }) :
    codeAny (model prog w) A (.call (.ref C) ⟨[], []⟩) R s := by
  obtain ⟨hh, g, d, t, os⟩ := s
  exact PySem.W.make_core (PySem.W.makes_of X hm) (PySem.W.looks_findIn X hi) hb (.inr ⟨rfl, rfl⟩) h
end

/-! ### the attributes as a list of pairs -/
def putF (f : Str) (v : V) : List (Str × V) → List (Str × V)
  | [] => [(f, v)]
  | (g, x) :: r => if g = f then (g, v) :: r else (g, x) :: putF f v r
theorem lookup_putF (f g : Str) (v : V) : ∀ fs : List (Str × V), (putF f v fs).lookup g = if g = f then some v else fs.lookup g
  | [] => by
    show List.lookup g [(f, v)] = _
    by_cases h : g = f
    · have hb : (g == f) = true := beq_iff_eq.mpr h
      simp only [List.lookup, hb, if_pos h]
    · have hb : (g == f) = false := beq_eq_false_iff_ne.mpr h
      simp only [List.lookup, hb, if_neg h]
  | (k, x) :: r => by
    have ih := lookup_putF f g v r
    rw [show putF f v ((k, x) :: r) = (if k = f then (k, v) :: r else (k, x) :: putF f v r) from rfl]
    by_cases hk : k = f
    · rw [if_pos hk]
      by_cases h : g = k
      · have hb : (g == k) = true := beq_iff_eq.mpr h
        simp only [List.lookup, hb, if_pos (h.trans hk)]
      · have hb : (g == k) = false := beq_eq_false_iff_ne.mpr h
        simp only [List.lookup, hb, if_neg (fun e : g = f => h (e.trans hk.symm))]
    · rw [if_neg hk]
      by_cases h : g = k
      · have hb : (g == k) = true := beq_iff_eq.mpr h
        simp only [List.lookup, hb, if_neg (fun e : g = f => hk (h.symm.trans e))]
      · have hb : (g == k) = false := beq_eq_false_iff_ne.mpr h
        simp only [List.lookup, hb]
        exact ih
theorem keys_putF (f : Str) (v : V) : ∀ fs : List (Str × V), f ∈ (putF f v fs).map (·.1) ∧ ∀ g, g ∈ fs.map (·.1) → g ∈ (putF f v fs).map (·.1)
  | [] => ⟨by simp [putF], fun g h => by simp at h⟩
  | (k, x) :: r => by
    obtain ⟨i1, i2⟩ := keys_putF f v r
    rw [show putF f v ((k, x) :: r) = (if k = f then (k, v) :: r else (k, x) :: putF f v r) from rfl]
    by_cases hk : k = f
    · rw [if_pos hk]
      subst hk
      exact ⟨by simp, fun g h => by simpa using h⟩
    · rw [if_neg hk]
      refine ⟨?_, fun g h => ?_⟩
      · rw [List.map_cons]
        exact List.mem_cons_of_mem _ i1
      · rw [List.map_cons] at h ⊢
        rcases List.mem_cons.mp h with e | e
        · exact List.mem_cons.mpr (.inl e)
        · exact List.mem_cons_of_mem _ (i2 g e)
theorem length_putF (f : Str) (v : V) : ∀ fs : List (Str × V), (putF f v fs).length ≤ fs.length + 1
  | [] => by simp [putF]
  | (k, x) :: r => by
    have ih := length_putF f v r
    rw [show putF f v ((k, x) :: r) = (if k = f then (k, v) :: r else (k, x) :: putF f v r) from rfl]
    by_cases hk : k = f
    · rw [if_pos hk, List.length_cons, List.length_cons]; omega
    · rw [if_neg hk, List.length_cons, List.length_cons]; omega

theorem RelO.some_of {v : V} {o : Option Value} (r : RelO (some v) o) : ∃ u, o = some u ∧ RelV v u := by
  cases o with
  | none => exact (show False from r).elim
  | some u => exact ⟨u, rfl, r⟩
theorem RelO.none_of {o : Option Value} (r : RelO none o) : o = none := by
  cases o with
  | none => rfl
  | some u => exact (show False from r).elim
theorem handed_of {v : V} {u : Value} (r : RelV v u) : PySem.W.handedIn u = true := by
  cases v with
  | non => cases (show u = Value.none from r); rfl
  | bl b => cases (show u = Value.bool b from r); rfl
  | int i => obtain ⟨t, e⟩ := (show ∃ t, u = Value.int i t from r); cases e; rfl
  | str x => obtain ⟨t, e⟩ := (show ∃ t, u = Value.str x t from r); cases e; rfl
  | byt b => obtain ⟨t, e⟩ := (show ∃ t, u = Value.bytes b t from r); cases e; rfl
  | flt b => obtain ⟨t, e⟩ := (show ∃ t, u = Value.float b t from r); cases e; rfl
  | ref a => cases (show u = Value.ref a from r); rfl
  | ty n => cases (show u = Value.type n from r); rfl

section
variable {P : Program} {w : World} {H H' : Hp} {h h' : Heap} {a C dx : Addr} {fs fs' : List (Str × V)}
theorem ins_get (hok : HOk P w H h) (e : H a = some (.ins C dx fs)) : ∃ mA, ObjM h a dx C mA ∧ (∀ f, RelO (fs.lookup f) (mA f)) ∧ PySem.Within mA (fs.map (·.1)) ∧ fs.length ≤ 1000 ∧ H dx = some (.own a) := by
  obtain ⟨d, z, ne, ob, mA, n, r, q⟩ := (show ObjOk P w H h a (.ins C dx fs) from hok a _ e)
  exact ⟨mA, ⟨ob, n, ne⟩, r, q, z, d⟩
end

/-! ### what of the text a class must have -/
structure Cls (K : PySem.W.Frag) (C : Addr) : Prop where
  pg : PySem.W.plainGet K C Str.empty = true
  hd : PySem.W.hasDictIn K C = true
  po : PySem.W.plainOver K C = true
  sa : PySem.W.findIn K (.ref C) "__setattr__" = some (some (.builtin "object.__setattr__"))
theorem Cls.get {K : PySem.W.Frag} {C : Addr} (c : Cls K C) (f : Str) : PySem.W.plainGet K C f = true := c.pg
/-- no class of it has the name -/
def NoAttr (K : PySem.W.Frag) (C : Addr) (f : Str) : Prop := PySem.W.findIn K (.ref C) f = some none
theorem NoAttr.taker {K : PySem.W.Frag} {C : Addr} {f : Str} (n : NoAttr K C f) : PySem.W.takerIn K C f = some none := by
  unfold PySem.W.takerIn
  rw [show PySem.W.findIn K (.ref C) f = some none from n]
  rfl
/-- a constant of the class -/
structure Con (K : PySem.W.Frag) (C : Addr) (f : Str) (v : V) (u : Value) : Prop where
  at_ : PySem.W.findIn K (.ref C) f = some (some u)
  rel : RelV v u
  get : PySem.W.specialIn K u "__get__" = some none
  cp : PySem.W.copiedNames.contains f = false
/-- a method: a plain def of the class or of one above it -/
structure Meth (K : PySem.W.Frag) (C : Addr) (m : Str) (f : Addr) : Prop where
  at_ : PySem.W.findIn K (.ref C) m = some (some (.ref f))
  fn : PySem.W.isFn K (.ref f) = true
  kp : PySem.W.keepIn K (.ref f) = true

section
variable {X : Cx} {pins : List (Addr × Obj)} {σ : St} {H : Hp} {s : Shared} {a C dx : Addr} {fs : List (Str × V)} {f : Str} {v : V} {A : Around} {E : Value → Shared → Prop}

theorem getattr_ok {b : Bool} {Q : Value → Shared → Prop} (I : Inv X pins σ H s) (e : H a = some (.ins C dx fs)) (c : Cls X.K C) (n : NoAttr X.K C f) (l : fs.lookup f = some v)
    (h : ∀ u s', Inv X pins σ H s' → RelV v u → Q u s') : wpAny (model X.prog X.w) A (getAttr (.ref a) f b) Q E s := by
  obtain ⟨mA, O, r, _, _, _⟩ := ins_get I.hok e
  obtain ⟨u, hu, ru⟩ := RelO.some_of (v := v) (o := mA f) (by rw [← l]; exact r f)
  exact get_map I.kIn O (c.get f) c.hd n hu (handed_of ru) (h u _ (I.tok _) ru)

theorem getcon_ok {b : Bool} {u : Value} {Q : Value → Shared → Prop} (I : Inv X pins σ H s) (e : H a = some (.ins C dx fs)) (c : Cls X.K C) (k : Con X.K C f v u) (l : fs.lookup f = none)
    (h : ∀ s', Inv X pins σ H s' → Q u s') : wpAny (model X.prog X.w) A (getAttr (.ref a) f b) Q E s := by
  obtain ⟨mA, O, r, _, _, _⟩ := ins_get I.hok e
  have hn : mA f = none := RelO.none_of (by rw [← l]; exact r f)
  exact get_const I.kIn O (c.get f) c.hd k.at_ k.get k.cp hn (handed_of k.rel) (h _ (I.tok _))

theorem getmeth_ok {m : Str} {g : Addr} {pl : Sem Bool} {Q : Value × List Value → Shared → Prop} (I : Inv X pins σ H s) (e : H a = some (.ins C dx fs)) (c : Cls X.K C) (k : Meth X.K C m g) (l : fs.lookup m = none)
    (h : Q (.ref g, [.ref a]) s) : wpAny (model X.prog X.w) A (getMethod (.ref a) m pl) Q E s := by
  obtain ⟨mA, O, r, _, _, _⟩ := ins_get I.hok e
  have hn : mA m = none := RelO.none_of (by rw [← l]; exact r m)
  exact get_meth I.kIn O (c.get m) k.at_ k.fn hn h

theorem setattr_ok {y : V} {u : Value} {Q : Unit → Shared → Prop} (I : Inv X pins σ H s) (e : H a = some (.ins C dx fs)) (c : Cls X.K C) (n : NoAttr X.K C f) (hl : fs.length < 1000) (ry : RelV y u)
    (h : ∀ s', Inv X pins σ (upd H a (.ins C dx (putF f y fs))) s' → Q () s') : wpAny (model X.prog X.w) A (setAttr (.ref a) f u) Q E s := by
  obtain ⟨mA, O, r, wi, _, ho⟩ := ins_get I.hok e
  have hz : (fs.map (·.1)).length ≤ sizeLine := by rw [List.length_map, sizeLine_eq]; omega
  refine set_map I.kIn O c.sa c.po n.taker c.hd wi hz fun h' O' sb => h _ ?_
  have hd : ∃ o, h'.get? dx = some o := let ⟨o, _, _, e', _⟩ := O'.ns; ⟨o, e'⟩
  refine I.write (x := a) (e := dx) (by rw [e]; exact True.intro) (.inr ho) (fun b q hb z => (sb.2 b hb).trans z) hd ?_
  refine ⟨by rw [upd_ne O.ne]; exact ho, ?_, O.ne, O'.obj, _, O'.ns, fun g => ?_, fun g hg => ?_⟩
  · have := length_putF f y fs; omega
  · show RelO ((putF f y fs).lookup g) (if g = f then some u else mA g)
    rw [lookup_putF]
    by_cases q : g = f
    · rw [if_pos q, if_pos q]; exact ry
    · rw [if_neg q, if_neg q]; exact r g
  · by_cases q : g = f
    · rw [q]; exact (keys_putF f y fs).1
    · refine (keys_putF f y fs).2 g (wi g fun z => hg ?_)
      show (if g = f then some u else mA g) = none
      rw [if_neg q]; exact z

/-- a new instance, tracked, without attributes -/
theorem Inv.made (I : Inv X pins σ H s) : Inv X pins σ (upd (upd H s.heap.objs.size (.own (s.heap.objs.size + 1))) (s.heap.objs.size + 1) (.ins C s.heap.objs.size []))
    { s with heap := (s.heap.push PySem.W.emptyDict).push (PySem.W.instObj C s.heap.objs.size) } := by
  have e1 : (s.heap.push PySem.W.emptyDict).get? s.heap.objs.size = some PySem.W.emptyDict := Heap.get?_push_size s.heap rfl
  have e2 : ((s.heap.push PySem.W.emptyDict).push (PySem.W.instObj C s.heap.objs.size)).get? (s.heap.objs.size + 1) = some (PySem.W.instObj C s.heap.objs.size) := by
    have := Heap.get?_push_size (s.heap.push PySem.W.emptyDict) (o := PySem.W.instObj C s.heap.objs.size) rfl
    rwa [Heap.size_push] at this
  have e3 : (s.heap.push PySem.W.emptyDict).Ns s.heap.objs.size (fun _ => none) := ⟨PySem.W.emptyDict, #[], _, e1, rfl, (fun e he => absurd he (by simp)), fun _ => rfl⟩
  have I1 := I.laid (a := s.heap.objs.size) (o := .own (s.heap.objs.size + 1)) (h' := s.heap.push PySem.W.emptyDict) (t' := s.toks) (fun b u q => Heap.get?_push_of_some _ q) (Nat.le_refl _) ⟨_, e1⟩
  refine I1.laid (a := s.heap.objs.size + 1) (o := .ins C s.heap.objs.size []) (t' := s.toks) (fun b u q => Heap.get?_push_of_some _ q) (Nat.le_of_eq (Heap.size_push _ _)) ?_
  have ne : s.heap.objs.size ≠ s.heap.objs.size + 1 := Nat.ne_of_lt (Nat.lt_succ_self _)
  refine ⟨by rw [upd_ne ne, upd_same], Nat.zero_le _, ne, e2, fun _ => none, (Heap.Ns1.of_empty e3).at fun o q => Heap.get?_push_of_some _ q, fun _ => True.intro, fun y hy => absurd rfl hy⟩

/-- e.f where nothing but the object is asked: through attributeBase (super) and the last hold -/
theorem attr_of {prog : Program} {w : World} {env : Env} {e : Expr} {f : Str} {pos : Pos} {s : Shared} {Q : Value → Shared → Prop} (hb : attributeBase e f env (eval e env) = eval e env)
    (h : wpAny (model prog w) A (eval e env) (fun o s₁ => wpAny (model prog w) A (getAttr o f true) Q E s₁) E s) : wpAny (model prog w) A (eval (.Attribute e f pos) env) Q E s :=
  Attribute_any_ h (by rw [arm_eval_Attribute, hb])
end

/-! ### readings and rules -/
/-- e.f, an attribute of the instance -/
def tFld (K : PySem.W.Frag) (ta : TE) (f : Str) : TE := fun σ H Q => ta σ H fun x H1 => ∃ a C dx fs v, x = .ref a ∧ H1 a = some (.ins C dx fs) ∧ Cls K C ∧ NoAttr K C f ∧ fs.lookup f = some v ∧ Q v H1
/-- e.f, a constant of the class -/
def tCon (K : PySem.W.Frag) (ta : TE) (f : Str) : TE := fun σ H Q => ta σ H fun x H1 => ∃ a C dx fs v u, x = .ref a ∧ H1 a = some (.ins C dx fs) ∧ Cls K C ∧ Con K C f v u ∧ fs.lookup f = none ∧ Q v H1
/-- e.f = value -/
def sFld (K : PySem.W.Frag) (ta tv : TE) (f : Str) : TS := fun D σ H => tv σ H fun y H1 => ta σ H1 fun x H2 => ∃ a C dx fs, x = .ref a ∧ H2 a = some (.ins C dx fs) ∧ Cls K C ∧ NoAttr K C f ∧ fs.length < 1000 ∧
  D.nx σ (upd H2 a (.ins C dx (putF f y fs)))
/-- an augmented operator on two values -/
def InOp (X : Cx) (op : Operator) (rd : V → V → Hp → VK → Prop) : Prop :=
  ∀ (pins : List (Addr × Obj)) (s : Shared) (σ : St) (H : Hp) (x y : V) (u v : Value) (Q : VK), Inv X pins σ H s → RelV x u → RelV y v → rd x y H Q → wpAny (model X.prog X.w) X.A (inplaceOp op u v) (EP X pins σ Q) X.xe s
/-- e.f op= value -/
def sFldAug (K : PySem.W.Frag) (ta tv : TE) (rd : V → V → Hp → VK → Prop) (f : Str) : TS := fun D σ H => ta σ H fun x H1 => ∃ a C dx fs v, x = .ref a ∧ H1 a = some (.ins C dx fs) ∧ Cls K C ∧ NoAttr K C f ∧ fs.lookup f = some v ∧
  tv σ H1 fun y H2 => rd v y H2 fun z H3 => ∃ dx' fs', H3 a = some (.ins C dx' fs') ∧ fs'.length < 1000 ∧ D.nx σ (upd H3 a (.ins C dx' (putF f z fs')))

section
variable {X : Cx} {o e value : Expr} {f : Str} {pos pos' tpos : Pos} {ta tv : TE}
theorem pe_fld (he : PE X e ta) (hb : attributeBase e f X.env (eval e X.env) = eval e X.env) : PE X (.Attribute e f pos) (tFld X.K ta f) := by
  intro pins s σ H Q I h
  refine attr_of hb (thn (he pins s σ H _ I h) fun u s1 ⟨x, H1, I1, rx, a, C, dx, fs, v, ex, ea, c, n, l, q⟩ => ?_)
  subst ex
  obtain rfl : u = Value.ref a := rx
  exact getattr_ok I1 ea c n l fun u' s2 I2 ru => ⟨v, H1, I2, ru, q⟩
theorem pe_con (he : PE X e ta) (hb : attributeBase e f X.env (eval e X.env) = eval e X.env) : PE X (.Attribute e f pos) (tCon X.K ta f) := by
  intro pins s σ H Q I h
  refine attr_of hb (thn (he pins s σ H _ I h) fun u s1 ⟨x, H1, I1, rx, a, C, dx, fs, v, u0, ex, ea, c, k, l, q⟩ => ?_)
  subst ex
  obtain rfl : u = Value.ref a := rx
  exact getcon_ok I1 ea c k l fun s2 I2 => ⟨v, H1, I2, k.rel, q⟩
theorem ps_fld (ha : PE X o ta) (hv : PE X value tv) (hs : swapsWith value (some (.Attribute o f pos')) pos.line X.env = pure false) : PS X (.Assign [.Attribute o f pos'] value pos) (sFld X.K ta tv f) := by
  intro pins s σ H D I h
  refine plainObj_wpAny_Assign_Attribute (thn (hv pins s σ H _ I h) fun u s1 ⟨y, H1, I1, ry, q⟩ => thn (ha pins s1 σ H1 _ I1 q) fun ov s2 ⟨x, H2, I2, rx, a, C, dx, fs, ex, ea, c, n, l, q2⟩ => ?_) hs
  subst ex
  obtain rfl : ov = Value.ref a := rx
  exact setattr_ok I2 ea c n l ry fun s3 I3 => ⟨σ, _, I3, q2⟩
theorem ps_fldaug {op : Operator} {rd : V → V → Hp → VK → Prop} (ha : PE X o ta) (hv : PE X value tv) (hop : InOp X op rd) : PS X (.AugAssign (.Attribute o f tpos) op value pos) (sFldAug X.K ta tv rd f) := by
  intro pins s σ H D I h
  refine wpAny_AugAssign_AttributeAny (thn (ha pins s σ H _ I h) fun ov s1 ⟨x, H1, I1, rx, a, C, dx, fs, v, ex, ea, c, n, l, q⟩ => ?_)
  subst ex
  obtain rfl : ov = Value.ref a := rx
  refine getattr_ok I1 ea c n l fun u s2 I2 ru => thn (hv pins s2 σ H1 _ I2 q) fun w3 s3 ⟨y, H2, I3, ry, q3⟩ => thn (hop pins s3 σ H2 v y u w3 _ I3 ru ry q3) fun w4 s4 ⟨z, H3, I4, rz, dx', fs', ea', l', q4⟩ => ?_
  exact setattr_ok I4 ea' c n l' rz fun s5 I5 => ⟨σ, _, I5, q4⟩
def rAdd : V → V → Hp → VK → Prop := fun x y H Q => ∃ i j, x = .int i ∧ y = .int j ∧ Q (.int (i + j)) H
def rSub : V → V → Hp → VK → Prop := fun x y H Q => ∃ i j, x = .int i ∧ y = .int j ∧ Q (.int (i - j)) H
theorem in_add : InOp X .Add rAdd := by
  rintro pins s σ H x y u v Q I rx ry ⟨i, j, rfl, rfl, q⟩
  obtain ⟨t, rfl⟩ := (show ∃ t, u = Value.int i t from rx)
  obtain ⟨t', rfl⟩ := (show ∃ t', v = Value.int j t' from ry)
  exact PyProof.Rows.iadd_int ⟨.int (i + j), H, I.tok _, ⟨_, rfl⟩, q⟩
theorem in_sub : InOp X .Sub rSub := by
  rintro pins s σ H x y u v Q I rx ry ⟨i, j, rfl, rfl, q⟩
  obtain ⟨t, rfl⟩ := (show ∃ t, u = Value.int i t from rx)
  obtain ⟨t', rfl⟩ := (show ∃ t', v = Value.int j t' from ry)
  exact PyProof.Rows.isub_int ⟨.int (i - j), H, I.tok _, ⟨_, rfl⟩, q⟩

/-- what is between an instance and its method: the tree of a method call -/
theorem methcall_of {pl : Sem Bool} {m : Str} {apos : Pos} {args : List Expr} {pins : List (Addr × Obj)} {s : Shared} {σ : St} {H : Hp} {Q : Value → Shared → Prop} {te : TE} (he : PE X e te) (I : Inv X pins σ H s)
    (h : te σ H fun x H1 => ∃ a C dx fs g, x = .ref a ∧ H1 a = some (.ins C dx fs) ∧ Cls X.K C ∧ Meth X.K C m g ∧ fs.lookup m = none ∧
      ∀ s1, Inv X pins σ H1 s1 → wpAny (model X.prog X.w) X.A (callWith pos (.ref g) [.ref a] (backTo pos (starEach args X.env)) (backToKw pos (keywordEach [] X.env))) Q X.xe s1)
    (ht : eval (.Call (.Attribute e m apos) args [] pos) X.env = (do
      let ov ← eval e X.env
      standAt apos.atName
      let (f, first) ← holding [ov] (getMethod ov m pl)
      callWith pos f first (backTo pos (starEach args X.env)) (backToKw pos (keywordEach [] X.env)))) :
    wpAny (model X.prog X.w) X.A (eval (.Call (.Attribute e m apos) args [] pos) X.env) Q X.xe s := by
  refine PySem.W.methodCall_KW (pl := pl) (thn (he pins s σ H _ I h) fun u s1 ⟨x, H1, I1, rx, a, C, dx, fs, g, ex, ea, c, k, l, q⟩ => ?_) ht
  subst ex
  obtain rfl : u = Value.ref a := rx
  exact getmeth_ok I1 ea c k l (q s1 I1)
end

/-! ### isinstance -/
section
variable {X : Cx} {pins : List (Addr × Obj)} {σ : St} {H : Hp} {s : Shared} {A : Around} {E : Value → Shared → Prop} {Q : Value → Shared → Prop} {c : Value} {b : Bool}
/-- the type of a value, as the fragment's deciders take it; for an instance its class -/
inductive TyOf (K : PySem.W.Frag) (H : Hp) : V → Value → Prop where
  | non : TyOf K H .non (.type "NoneType")
  | bl (x : Bool) : TyOf K H (.bl x) (.type "bool")
  | int (i : Int) : TyOf K H (.int i) (.type "int")
  | str (x : Str) : TyOf K H (.str x) (.type "str")
  | flt (x : UInt64) : TyOf K H (.flt x) (.type "float")
  | lst {a : Addr} {xs : List V} (e : H a = some (.lst xs)) : TyOf K H (.ref a) (.type "list")
  | frz {a : Addr} {o : Obj} {xs : List V} (e : H a = some (.frz o (.lst xs))) : TyOf K H (.ref a) (.type "list")
  | tup {a : Addr} {xs : List V} (e : H a = some (.tup xs)) : TyOf K H (.ref a) (.type "tuple")
  | dK {a : Addr} {kvs : List (Key × V)} (e : H a = some (.dK kvs)) : TyOf K H (.ref a) (.type "dict")
  | dT {a : Addr} {kvs : List (List Key × V)} (e : H a = some (.dT kvs)) : TyOf K H (.ref a) (.type "dict")
  | ins {a C dx : Addr} {fs : List (Str × V)} (e : H a = some (.ins C dx fs)) (cl : Cls K C) (ha : PySem.W.findIn K (.ref C) "__class__" = some (some (.builtin "object.__class__")))
      (hn : PySem.W.specialIn K (.builtin "object.__class__") "__get__" = some (some (.builtin "getset_descriptor.__get__"))) (htk : PySem.W.takesIn K (.builtin "object.__class__") = some true)
      (hm : PySem.W.mroIn K C (.type "object") = some true) : TyOf K H (.ref a) (.ref C)
/-- isinstance(x, c) for one class c, a built-in or an own one: kitOne's answer -/
theorem isinst_ok {x : V} {u t : Value} (I : Inv X pins σ H s) (rx : RelV x u) (ty : TyOf X.K H x t) (e : PySem.W.kitOne X.K t c = some b) (h : ∀ tk, Q (.bool b) { s with toks := tk }) :
    wpAny (model X.prog X.w) A (call (.builtin "isinstance") [u, c]) Q E s := by
  cases ty with
  | non => cases (show u = Value.none from rx); exact PySem.W.kia_one PySem.W.kitx_none I.kIn True.intro e (fun z => nomatch z) h
  | bl y => cases (show u = Value.bool y from rx); exact PySem.W.kia_one PySem.W.kitx_bool I.kIn True.intro e (fun z => nomatch z) h
  | int i => obtain ⟨t, q⟩ := (show ∃ t, u = Value.int i t from rx); cases q; exact PySem.W.kia_one PySem.W.kitx_int I.kIn True.intro e (fun z => nomatch z) h
  | str y => obtain ⟨t, q⟩ := (show ∃ t, u = Value.str y t from rx); cases q; exact PySem.W.kia_one PySem.W.kitx_str I.kIn True.intro e (fun z => nomatch z) h
  | flt y => obtain ⟨t, q⟩ := (show ∃ t, u = Value.float y t from rx); cases q; exact PySem.W.kia_one PySem.W.kitx_float I.kIn True.intro e (fun z => nomatch z) h
  | @lst a xs ea =>
    cases (show u = Value.ref a from rx)
    obtain ⟨_, _, n, _, h1⟩ := (show ObjOk X.prog X.w H s.heap a (.lst xs) from I.hok a _ ea)
    exact PySem.W.kia_one PySem.W.kitx_list I.kIn ⟨_, h1, rfl⟩ e (fun z => nomatch z) h
  | @frz a ob xs ea =>
    cases (show u = Value.ref a from rx)
    obtain ⟨_, _, _, n, _, h1⟩ := (show ObjOk X.prog X.w H s.heap a (.frz ob (.lst xs)) from I.hok a _ ea)
    exact PySem.W.kia_one PySem.W.kitx_list I.kIn ⟨_, h1, rfl⟩ e (fun z => nomatch z) h
  | @tup a xs ea =>
    cases (show u = Value.ref a from rx)
    obtain ⟨_, _, _, p⟩ := (show ObjOk X.prog X.w H s.heap a (.tup xs) from I.hok a _ ea)
    obtain ⟨o, h1, h2, _⟩ := p
    exact PySem.W.kia_one PySem.W.kitx_tuple I.kIn ⟨o, h1, h2⟩ e (fun z => nomatch z) h
  | @dK a kvs ea =>
    cases (show u = Value.ref a from rx)
    obtain ⟨_, _, vs, _, p⟩ := (show ObjOk X.prog X.w H s.heap a (.dK kvs) from I.hok a _ ea)
    obtain ⟨o, es, ep, h1, h2, _⟩ := p
    exact PySem.W.kia_one PySem.W.kitx_dict I.kIn ⟨o, h1, h2.1⟩ e (fun z => nomatch z) h
  | @dT a kvs ea =>
    cases (show u = Value.ref a from rx)
    obtain ⟨_, _, xs, _, o, es, ep, h1, h2, _⟩ := (show ObjOk X.prog X.w H s.heap a (.dT kvs) from I.hok a _ ea)
    exact PySem.W.kia_one PySem.W.kitx_dict I.kIn ⟨o, h1, h2.1⟩ e (fun z => nomatch z) h
  | @ins a C dx fs ea cl ha hn htk hm =>
    cases (show u = Value.ref a from rx)
    obtain ⟨mA, O, _⟩ := ins_get I.hok ea
    obtain ⟨od, J, _⟩ := O.look
    exact PySem.W.kia_one (PySem.W.kitx_own (cl.get _) cl.hd ha hn htk hm) I.kIn J e (fun z => nomatch z) h
end
end L2

namespace L2
open PySem PySem.Spec PyProof.Rows

/-! ### room -/
structure Room (k : Nat) (A : Around) : Prop where
  hd : A.handled = none
  dp : A.depth + 3 * k + 5 < recursionLimit
  un : A.units + 16 * k + 200 < cLine
theorem Room.mono {j k : Nat} {A : Around} (r : Room k A) (h : j ≤ k) : Room j A := ⟨r.hd, by have := r.dp; omega, by have := r.un; omega⟩
theorem Room.deeper {k : Nat} {A : Around} (r : Room (k + 1) A) (env : Env) : Room k (A.deeper env) :=
  ⟨r.hd, by have := r.dp; show A.depth + 1 + 3 * k + 5 < _; omega, by have := r.un; show A.units + 3 + 16 * k + 200 < _; omega⟩
theorem Room.in1 {k : Nat} {A : Around} (r : Room (k + 1) A) : Room k A.in1 :=
  ⟨r.hd, by have := r.dp; show A.depth + 3 * k + 5 < _; omega, by have := r.un; show A.units + 1 + 16 * k + 200 < _; omega⟩
theorem make_depth {A : Around} {C : Addr} {us : List Value} {kw : List (Str × Value)} : (A.under (.builtin "type.__call__" ⟨.ref C :: us, kw⟩)).depth = A.depth + 1 := by
  first | rfl | simp [Around.under, Code.weight, Code.isCreation, Code.isGuard, Code.isCaller, Code.frames, Code.isFrame, guardIds]
theorem make_units {A : Around} {C : Addr} {us : List Value} {kw : List (Str × Value)} : (A.under (.builtin "type.__call__" ⟨.ref C :: us, kw⟩)).units = A.units + 1 := by
  first | rfl | simp [Around.under, Code.cUnits, Code.frames, Code.isFrame]
theorem Room.make {k : Nat} {A : Around} (r : Room (k + 1) A) (C : Addr) (us : List Value) (kw : List (Str × Value)) : Room k (A.under (.builtin "type.__call__" ⟨.ref C :: us, kw⟩)) :=
  ⟨r.hd, by have := r.dp; rw [make_depth]; omega, by have := r.un; rw [make_units]; omega⟩
theorem Room.depth {k : Nat} {A : Around} (r : Room k A) : A.depth < recursionLimit := by have := r.dp; omega
theorem Room.units {k : Nat} {A : Around} (r : Room k A) : A.units + 64 < cLine := by have := r.un; omega
theorem Room.units0 {k : Nat} {A : Around} (r : Room k A) : A.units < cLine := by have := r.un; omega

/-! ### argument lists and displays -/
def tNil : TA := fun _ H Q => Q [] H
def tCons (ta : TE) (tr : TA) : TA := fun σ H Q => ta σ H fun x H1 => tr σ H1 fun xs H2 => Q (x :: xs) H2
section
variable {X : Cx} {e : Expr} {es : List Expr} {te : TE} {t : TA} {pos : Pos}
theorem pa_nil : PA X [] tNil := fun _ _ _ _ H Q I h => Calls.spliced_nil ⟨[], H, I, .nil, h⟩
theorem pa_cons (ha : PE X e te) (hr : PA X es t) (hs : starEach (e :: es) X.env = (false, eval e X.env) :: starEach es X.env := by rfl) : PA X (e :: es) (tCons te t) := by
  intro pos pins s σ H Q I h
  rw [hs]
  show wpAny _ _ (spliced ((false, eval e X.env) :: backTo pos (starEach es X.env))) _ _ s
  refine Calls.spliced_cons (thn (ha pins s σ H _ I h) fun u s1 ⟨x, H1, I1, r1, q1⟩ => ?_)
  exact thn (hr pos pins s1 σ H1 _ I1 q1) fun us s2 ⟨xs, H2, I2, r2, q2⟩ => ⟨x :: xs, H2, I2, .cons r1 r2, q2⟩

/-- a tuple, a list of written items -/
def tTup (t : TA) : TE := fun σ H Q => t σ H fun xs H1 => xs.length ≤ sizeLine ∧ ∀ p, H1 p = none → Q (.ref p) (upd H1 p (.tup xs))
def tLst (t : TA) : TE := fun σ H Q => t σ H fun xs H1 => xs.length ≤ sizeLine ∧ ∀ p, H1 p = none → Q (.ref p) (upd H1 p (.lst xs))
theorem pe_tup {x1} (h : PA X es t) : PE X (.Tuple es x1 pos) (tTup t) := by
  intro pins s σ H Q I hq
  refine wpAny_Tuple_spliced (thn (h pos pins s σ H _ I hq) fun us s1 ⟨xs, H1, I1, r, z, q⟩ => ⟨by rw [← r.length]; exact z, ?_⟩)
  have hf : H1 s1.heap.objs.size = none := I1.hok.fresh (Nat.le_refl _)
  refine ⟨.ref s1.heap.objs.size, upd H1 s1.heap.objs.size (.tup xs), I1.laid (t' := s1.toks) (fun b u e => Heap.get?_push_of_some _ e) (Nat.le_refl _) ?_, rfl, q _ hf⟩
  exact ⟨z, us, r, ⟨_, Heap.get?_push_size _ rfl, rfl, _, rfl⟩⟩
theorem pe_lst (h : PA X es t) : PE X (.List es pos) (tLst t) := by
  intro pins s σ H Q I hq
  refine wpAny_List_spliced (thn (h pos pins s σ H _ I hq) fun us s1 ⟨xs, H1, I1, r, z, q⟩ => ⟨by rw [← r.length]; exact z, ?_⟩)
  have hf : H1 s1.heap.objs.size = none := I1.hok.fresh (Nat.le_refl _)
  refine ⟨.ref s1.heap.objs.size, upd H1 s1.heap.objs.size (.lst xs), I1.laid (t' := s1.toks) (fun b u e => Heap.get?_push_of_some _ e) (Nat.le_refl _) ?_, rfl, q _ hf⟩
  exact ⟨z, us, 0, r, Heap.get?_push_size _ rfl⟩
end

/-! ### what a def promises -/
/-- a def's promise: the bound arguments in the parameters' order, the heap, the wanted end, the wanted exception -/
abbrev Sp := List V → Hp → VK → XK → Prop
/-- how an exception lies behind a call (file 08 gives it): the callers' frames, abstract heap and state ahead of the call, the wish, the exception, the state -/
abbrev CXT := List Env → Hp → Shared → XK → Value → Shared → Prop

/-- the state at a call -/
structure Env0 (P : Program) (w : World) (K : PySem.W.Frag) (mg : Str → Option Value) (base : Heap) (A : Around) (outer : List Env) (s : Shared) (H : Hp) : Prop where
  frames : A.frames = some outer
  mod : Mod K mg base
  bs : ∀ b o, base.get? b = some o → s.heap.get? b = some o ∧ H b = none
  bsz : base.objs.size ≤ s.heap.objs.size
  funs : s.heap.FunFrames base outer
  frf : ∀ b ∈ frs outer, H b = none
  hok : HOk P w H s.heap
  bare : AllBare s.gens
/-- a call's end -/
def CE (outer : List Env) (P : Program) (w : World) (H : Hp) (s : Shared) (Q : VK) (u : Value) (s' : Shared) : Prop :=
  ∃ v H', s'.os = s.os ∧ AllBare s'.gens ∧ Un (frs outer) [] H H' s.heap s'.heap ∧ HOk P w H' s'.heap ∧ RelV v u ∧ Q v H'
def CR (CX : CXT) (outer : List Env) (P : Program) (w : World) (H : Hp) (s : Shared) (Q : VK) (E : XK) (r : Result) (s' : Shared) : Prop :=
  match r with
  | .ok (.ret u) => CE outer P w H s Q u s'
  | .ok _ => False
  | .error e => CX outer H s E e s'
structure FnOk (P : Program) (w : World) (K : PySem.W.Frag) (mg : Str → Option Value) (base : Heap) (CX : CXT) (k : Nat) (f : Addr) (fd : FuncData) (ps : List Str) (sp : Sp) : Prop where
  len : ∀ vs H Q E, sp vs H Q E → vs.length = ps.length
  run : ∀ (A : Around) (outer : List Env) (s : Shared) (H : Hp) (args : Args) (us : List Value) (vs : List V) (Q : VK) (E : XK), Room k A → Env0 P w K mg base A outer s H → BindsTo s fd args (ps.zip us) → Vals vs us → sp vs H Q E →
    codeAny (model P w) A (.call (.ref f) args) (CR CX outer P w H s Q E) s
theorem FnOk.mono {P : Program} {w : World} {K : PySem.W.Frag} {mg : Str → Option Value} {base : Heap} {CX : CXT} {j k : Nat} {f : Addr} {fd : FuncData} {ps : List Str} {sp : Sp} (F : FnOk P w K mg base CX j f fd ps sp) (h : j ≤ k) :
    FnOk P w K mg base CX k f fd ps sp := ⟨F.len, fun A outer s H args us vs Q E hr => F.run A outer s H args us vs Q E (hr.mono h)⟩
/-- a weaker promise -/
theorem FnOk.imp {P : Program} {w : World} {K : PySem.W.Frag} {mg : Str → Option Value} {base : Heap} {CX : CXT} {k : Nat} {f : Addr} {fd : FuncData} {ps : List Str} {sp sp' : Sp} (F : FnOk P w K mg base CX k f fd ps sp)
    (h : ∀ vs H Q E, sp' vs H Q E → sp vs H Q E) : FnOk P w K mg base CX k f fd ps sp' :=
  ⟨fun vs H Q E q => F.len vs H Q E (h _ _ _ _ q), fun A outer s H args us vs Q E hr he hb hv hs => F.run A outer s H args us vs Q E hr he hb hv (h _ _ _ _ hs)⟩

theorem Env0.make {P : Program} {w : World} {K : PySem.W.Frag} {mg : Str → Option Value} {base : Heap} {A : Around} {outer : List Env} {s : Shared} {H : Hp} (e : Env0 P w K mg base A outer s H) (C : Addr) (us : List Value) (kw : List (Str × Value)) :
    Env0 P w K mg base (A.under (.builtin "type.__call__" ⟨.ref C :: us, kw⟩)) outer s H := ⟨by first | exact e.frames | (simpa [Around.under, Code.envs, Code.isFrame, pushEnvs] using e.frames), e.mod, e.bs, e.bsz, e.funs, e.frf, e.hok, e.bare⟩
theorem Env0.in1 {P : Program} {w : World} {K : PySem.W.Frag} {mg : Str → Option Value} {base : Heap} {A : Around} {outer : List Env} {s : Shared} {H : Hp} (e : Env0 P w K mg base A outer s H) :
    Env0 P w K mg base A.in1 outer s H := ⟨e.frames, e.mod, e.bs, e.bsz, e.funs, e.frf, e.hok, e.bare⟩

section
variable {X : Cx} {pins : List (Addr × Obj)} {σ : St} {H : Hp} {s s' : Shared}
/-- from a body: what a callee wants -/
theorem Inv.env0 (I : Inv X pins σ H s) : Env0 X.prog X.w X.K X.mg X.base X.A X.stack s H :=
  ⟨I.ok.frames, I.ok.mod, I.bs, Nat.le_trans I.ok.bsz I.sz, I.stack, I.stkFree, I.hok, I.bare⟩
/-- behind a call -/
theorem Inv.after {Q : VK} {u : Value} (I : Inv X pins σ H s) (h : CE X.stack X.prog X.w H s Q u s') : EP X pins σ Q u s' := by
  obtain ⟨v, H', os, bare, un, hok, r, q⟩ := h
  obtain ⟨hh, g, d, t, os'⟩ := s'
  obtain rfl : os' = s.os := os
  exact ⟨v, H', I.call (h' := hh) (g' := g) (d' := d) (t' := t) (ch := []) un hok bare (fun b z => absurd z (by simp)), r, q⟩
end

/-! ### calls -/
/-- f(..): the written arguments, then the defaults dvs; E: what is wanted of an exception -/
def tCall (sp : Sp) (dvs : List V) (E : XK) (t : TA) : TE := fun σ H Q => t σ H fun vs H1 => sp (vs ++ dvs) H1 Q E
/-- o.m(..) of an instance of the class at C -/
def tMeth (C : Addr) (m : Str) (sp : Sp) (dvs : List V) (E : XK) (ta : TE) (t : TA) : TE := fun σ H Q => ta σ H fun x H1 => ∃ a dx fs, x = .ref a ∧ H1 a = some (.ins C dx fs) ∧ fs.lookup m = none ∧
  t σ H1 fun vs H2 => sp (x :: (vs ++ dvs)) H2 Q E
/-- C(..): a new instance and its dict, then __init__ -/
def tMake (C : Addr) (sp : Sp) (dvs : List V) (E : XK) (t : TA) : TE := fun σ H Q => t σ H fun vs H1 => ∀ x dx, H1 x = none → H1 dx = none → dx ≠ x →
  sp (.ref x :: (vs ++ dvs)) (upd (upd H1 dx (.own x)) x (.ins C dx [])) (fun v H2 => v = .non ∧ Q (.ref x) H2) E

/-- how the parameters are bound: us the positional arguments, kw the keywords' values by name, ds the defaults that fill up -/
def Binds (K : PySem.W.Frag) (fd : FuncData) (ps : List Str) (ds : List Value) : Prop :=
  ∀ (s : Shared) (us : List Value), K.In s.heap → (us ++ ds).length = ps.length → BindsTo s fd ⟨us, []⟩ (ps.zip (us ++ ds))
/-- every parameter is given -/
theorem Binds.all {K : PySem.W.Frag} {fd : FuncData} {ps : List Str} (h : ∀ us : List Value, us.length = ps.length → bindArgs fd ⟨us, []⟩ = pure (ps.zip us)) : Binds K fd ps [] := fun s us _ hl => by
  rw [List.append_nil] at hl ⊢
  exact .of_eq (h us hl)

/-- an exception of a callee reaches what this body wants of exceptions -/
def Passes (CX : CXT) (X : Cx) (E : XK) : Prop := ∀ (pins : List (Addr × Obj)) (σ : St) (H : Hp) (s : Shared) (e : Value) (s' : Shared), Inv X pins σ H s → CX X.stack H s E e s' → X.xe e s'

section
variable {X : Cx} {CX : CXT} {k : Nat} {f C : Addr} {fd : FuncData} {ps : List Str} {sp : Sp} {dvs : List V} {ds : List Value} {E : XK} {x m : Str} {p pos apos : Pos} {e o : Expr} {es : List Expr} {ta : TE} {t : TA}

/-- the callee runs -/
theorem run_fn {pins : List (Addr × Obj)} {σ : St} {H : Hp} {s : Shared} {Q : VK} {us : List Value} {vs : List V} (F : FnOk X.prog X.w X.K X.mg X.base CX k f fd ps sp) (hr : Room k X.A) (hb : Binds X.K fd ps ds) (hd : Vals dvs ds) (hx : Passes CX X E)
    (I : Inv X pins σ H s) (r : Vals vs us) (h : sp (vs ++ dvs) H Q E) : wpAny (model X.prog X.w) X.A (call (.ref f) us) (EP X pins σ Q) X.xe s := by
  have r2 : Vals (vs ++ dvs) (us ++ ds) := r.append hd
  have hl : (us ++ ds).length = ps.length := by rw [← r2.length]; exact F.len _ _ _ _ h
  refine wpAny_call (codeAny_mono (F.run X.A X.stack s H ⟨us, []⟩ (us ++ ds) (vs ++ dvs) Q E hr I.env0 (hb s us I.kIn hl) r2 h) fun r s' hq => ?_)
  cases r with
  | error e => exact hx pins σ H s e s' I hq
  | ok fl =>
    cases fl with
    | ret u => exact I.after hq
    | next => exact False.elim hq
    | brk => exact False.elim hq
    | cont => exact False.elim hq

theorem pe_call (F : FnOk X.prog X.w X.K X.mg X.base CX k f fd ps sp) (hr : Room k X.A) (hg : Gl X x) (hm : X.mg x = some (.ref f)) (hk : PySem.W.keepIn X.K (.ref f) = true) (hb : Binds X.K fd ps ds) (hd : Vals dvs ds) (hx : Passes CX X E)
    (ha : PA X (e :: es) t) (hdb : (x == ("__debug__" : Str)) = false := by decide) (he : starEach (e :: es) X.env = (false, eval e X.env) :: starEach es X.env := by rfl) (hpl : (backTo pos (starEach es X.env)).any (·.1) = false := by rfl) :
    PE X (.Call (.Name x p) (e :: es) [] pos) (tCall sp dvs E t) := by
  intro pins s σ H Q I h
  refine wpAny_Call_Name_kw (ld_glob I hg hm ?_ hdb)
  refine PySem.W.callWith_K (h₀ := X.base) I.ok.mod.kin hk (thn (ha pos pins s σ H _ I h) fun us s1 ⟨vs, H1, I1, r, q⟩ => ⟨I1.kIn, ?_⟩) he hpl
  exact run_fn F hr hb hd hx I1 r q
theorem pe_call0 (F : FnOk X.prog X.w X.K X.mg X.base CX k f fd ps sp) (hr : Room k X.A) (hg : Gl X x) (hm : X.mg x = some (.ref f)) (hk : PySem.W.keepIn X.K (.ref f) = true) (hb : Binds X.K fd ps ds) (hd : Vals dvs ds) (hx : Passes CX X E)
    (hdb : (x == ("__debug__" : Str)) = false := by decide) : PE X (.Call (.Name x p) [] [] pos) (tCall sp dvs E tNil) := by
  intro pins s σ H Q I h
  refine wpAny_Call_Name_kw (ld_glob I hg hm ?_ hdb)
  exact PySem.W.callWith_K0 I.kIn hk (run_fn (us := []) F hr hb hd hx I .nil h)

/-- o.m(e, ..) -/
theorem pe_meth {pl : Sem Bool} (he : PE X o ta) (c : Cls X.K C) (hm : Meth X.K C m f) (F : FnOk X.prog X.w X.K X.mg X.base CX k f fd ps sp) (hr : Room k X.A) (hb : Binds X.K fd ps ds) (hd : Vals dvs ds) (hx : Passes CX X E) (ha : PA X (e :: es) t)
    (hst : starEach (e :: es) X.env = (false, eval e X.env) :: starEach es X.env := by rfl) (hpl : (backTo pos (starEach es X.env)).any (·.1) = false := by rfl)
    (ht : eval (.Call (.Attribute o m apos) (e :: es) [] pos) X.env = (do
      let ov ← eval o X.env
      standAt apos.atName
      let (f, first) ← holding [ov] (getMethod ov m pl)
      callWith pos f first (backTo pos (starEach (e :: es) X.env)) (backToKw pos (keywordEach [] X.env))) := by rfl) :
    PE X (.Call (.Attribute o m apos) (e :: es) [] pos) (tMeth C m sp dvs E ta t) := by
  intro pins s σ H Q I h
  refine PySem.W.methodCall_KW (pl := pl) (thn (he pins s σ H _ I h) fun u s1 ⟨x, H1, I1, rx, a, dx, fs, ex, ea, l, q⟩ => ?_) ht
  subst ex
  obtain rfl : u = Value.ref a := rx
  refine getmeth_ok I1 ea c hm l ?_
  refine PySem.W.callWith_K (first := [.ref a]) (h₀ := X.base) I.ok.mod.kin hm.kp (thn (ha pos pins s1 σ H1 _ I1 q) fun us s2 ⟨vs, H2, I2, r, q2⟩ => ⟨I2.kIn, ?_⟩) hst hpl
  exact run_fn (us := .ref a :: us) (vs := .ref a :: vs) F hr hb hd hx I2 (.cons rfl r) q2
/-- o.m() -/
theorem pe_meth0 {pl : Sem Bool} (he : PE X o ta) (c : Cls X.K C) (hm : Meth X.K C m f) (F : FnOk X.prog X.w X.K X.mg X.base CX k f fd ps sp) (hr : Room k X.A) (hb : Binds X.K fd ps ds) (hd : Vals dvs ds) (hx : Passes CX X E)
    (ht : eval (.Call (.Attribute o m apos) [] [] pos) X.env = (do
      let ov ← eval o X.env
      standAt apos.atName
      let (f, first) ← holding [ov] (getMethod ov m pl)
      callWith pos f first (backTo pos (starEach [] X.env)) (backToKw pos (keywordEach [] X.env))) := by rfl) :
    PE X (.Call (.Attribute o m apos) [] [] pos) (tMeth C m sp dvs E ta tNil) := by
  intro pins s σ H Q I h
  refine PySem.W.methodCall_KW (pl := pl) (thn (he pins s σ H _ I h) fun u s1 ⟨x, H1, I1, rx, a, dx, fs, ex, ea, l, q⟩ => ?_) ht
  subst ex
  obtain rfl : u = Value.ref a := rx
  refine getmeth_ok I1 ea c hm l ?_
  exact PySem.W.callWith_K0 (first := [.ref a]) I1.kIn hm.kp (run_fn (us := [.ref a]) (vs := [.ref a]) F hr hb hd hx I1 (.cons rfl .nil) q)

/-- what a class must have to be made -/
structure Mk (K : PySem.W.Frag) (C f : Addr) : Prop where
  makes : PySem.W.makesIn K C = true
  init : PySem.W.findIn K (.ref C) "__init__" = some (some (.ref f))
  fn : PySem.W.isFn K (.ref f) = true
  kp : PySem.W.keepIn K (.ref C) = true

theorem run_make {pins : List (Addr × Obj)} {σ : St} {H : Hp} {s : Shared} {Q : VK} {us : List Value} {vs : List V} (M : Mk X.K C f) (F : FnOk X.prog X.w X.K X.mg X.base CX k f fd ps sp) (hr : Room (k + 1) X.A) (hb : Binds X.K fd ps ds) (hd : Vals dvs ds)
    (hx : Passes CX X E) (I : Inv X pins σ H s) (r : Vals vs us)
    (h : ∀ x dx, H x = none → H dx = none → dx ≠ x → sp (.ref x :: (vs ++ dvs)) (upd (upd H dx (.own x)) x (.ins C dx [])) (fun v H2 => v = .non ∧ Q (.ref x) H2) E) :
    wpAny (model X.prog X.w) X.A (call (.ref C) us) (EP X pins σ Q) X.xe s := by
  have hq := h (s.heap.objs.size + 1) s.heap.objs.size (I.hok.fresh (Nat.le_succ _)) (I.hok.fresh (Nat.le_refl _)) (Nat.ne_of_lt (Nat.lt_succ_self _))
  have I2 := Inv.made (C := C) I
  have r2 : Vals (V.ref (s.heap.objs.size + 1) :: (vs ++ dvs)) (Value.ref (s.heap.objs.size + 1) :: (us ++ ds)) := .cons rfl (r.append hd)
  have hl : (Value.ref (s.heap.objs.size + 1) :: us ++ ds).length = ps.length := by
    have e := r2.length
    rw [F.len _ _ _ _ hq] at e
    exact e.symm
  refine wpAny_call (make_map (f := f) I.kIn M.makes M.init (beq_iff_eq.mp M.fn) (codeAny_mono (F.run _ X.stack _ _ ⟨Value.ref (s.heap.objs.size + 1) :: us, []⟩ (Value.ref (s.heap.objs.size + 1) :: (us ++ ds)) _ _ E (hr.make C us [])
    (I2.env0.make C us []) (hb _ (Value.ref (s.heap.objs.size + 1) :: us) I2.kIn hl) r2 hq) fun r s' hq' => ?_))
  cases r with
  | error e => exact hx pins σ _ _ e s' I2 hq'
  | ok fl =>
    cases fl with
    | ret u =>
      obtain ⟨v, H', I3, rv, ev, q3⟩ := I2.after hq'
      subst ev
      exact ⟨rv, ⟨V.ref (s.heap.objs.size + 1), H', I3, rfl, q3⟩⟩
    | next => exact False.elim hq'
    | brk => exact False.elim hq'
    | cont => exact False.elim hq'
theorem pe_make (M : Mk X.K C f) (F : FnOk X.prog X.w X.K X.mg X.base CX k f fd ps sp) (hr : Room (k + 1) X.A) (hg : Gl X x) (hm : X.mg x = some (.ref C)) (hb : Binds X.K fd ps ds) (hd : Vals dvs ds) (hx : Passes CX X E)
    (ha : PA X (e :: es) t) (hdb : (x == ("__debug__" : Str)) = false := by decide) (he : starEach (e :: es) X.env = (false, eval e X.env) :: starEach es X.env := by rfl) (hpl : (backTo pos (starEach es X.env)).any (·.1) = false := by rfl) :
    PE X (.Call (.Name x p) (e :: es) [] pos) (tMake C sp dvs E t) := by
  intro pins s σ H Q I h
  refine wpAny_Call_Name_kw (ld_glob I hg hm ?_ hdb)
  refine PySem.W.callWith_K (h₀ := X.base) I.ok.mod.kin M.kp (thn (ha pos pins s σ H _ I h) fun us s1 ⟨vs, H1, I1, r, q⟩ => ⟨I1.kIn, ?_⟩) he hpl
  exact run_make M F hr hb hd hx I1 r q
theorem pe_make0 (M : Mk X.K C f) (F : FnOk X.prog X.w X.K X.mg X.base CX k f fd ps sp) (hr : Room (k + 1) X.A) (hg : Gl X x) (hm : X.mg x = some (.ref C)) (hb : Binds X.K fd ps ds) (hd : Vals dvs ds) (hx : Passes CX X E)
    (hdb : (x == ("__debug__" : Str)) = false := by decide) : PE X (.Call (.Name x p) [] [] pos) (tMake C sp dvs E tNil) := by
  intro pins s σ H Q I h
  refine wpAny_Call_Name_kw (ld_glob I hg hm ?_ hdb)
  exact PySem.W.callWith_K0 I.kIn M.kp (run_make (us := []) M F hr hb hd hx I .nil h)
end

/-! ### keywords -/
/-- the values of the keywords, from the left -/
def PK (X : Cx) (kws : List Keyword) (t : TA) : Prop :=
  ∀ (pos : Pos) (pins : List (Addr × Obj)) (s : Shared) (σ : St) (H : Hp) (Q : List V → Hp → Prop), Inv X pins σ H s → t σ H Q → wpAny (model X.prog X.w) X.A (evalAll ((backToKw pos (keywordEach kws X.env)).map (·.2))) (AP X pins σ Q) X.xe s
section
variable {X : Cx} {CX : CXT} {k : Nat} {f C : Addr} {fd : FuncData} {ps ks : List Str} {sp : Sp} {E : XK} {x m : Str} {p pos apos kpos : Pos} {e o : Expr} {es : List Expr} {kws : List Keyword} {te ta : TE} {t tk : TA} {nm : Option Str}
theorem pk_nil : PK X [] tNil := fun _ _ _ _ H Q I h => wpAny_evalAll_nil ⟨[], H, I, .nil, h⟩
theorem pk_cons (ha : PE X e te) (hr : PK X kws t) : PK X (⟨nm, e, kpos⟩ :: kws) (tCons te t) := by
  intro pos pins s σ H Q I h
  show wpAny _ _ (evalAll ((do let v ← eval e X.env; standAt pos; pure v) :: (backToKw pos (keywordEach kws X.env)).map (·.2))) _ _ s
  refine wpAny_evalAll_cons (wpAny_bind (thn (ha pins s σ H _ I h) fun u s1 ⟨x, H1, I1, r1, q1⟩ => wpAny_bind (wpAny_standAt (wpAny_pure ?_))))
  exact thn (hr pos pins s1 σ H1 _ I1 q1) fun us s2 ⟨xs, H2, I2, r2, q2⟩ => ⟨x :: xs, H2, I2, .cons r1 r2, q2⟩

/-- how a call with keywords binds: g puts the positional values us and the keywords' values ws (names ks) in the parameters' order, defaults among them -/
structure KBinds (K : PySem.W.Frag) (fd : FuncData) (ps ks : List Str) (g : List Value → List Value → List Value) (gV : List V → List V → List V) : Prop where
  to : ∀ (s : Shared) (us ws : List Value), K.In s.heap → (g us ws).length = ps.length → BindsTo s fd ⟨us, ks.zip ws⟩ (ps.zip (g us ws))
  rel : ∀ {vs : List V} {us : List Value} {zs : List V} {ws : List Value}, Vals vs us → Vals zs ws → Vals (gV vs zs) (g us ws)
def tCallK (sp : Sp) (gV : List V → List V → List V) (E : XK) (t tk : TA) : TE := fun σ H Q => t σ H fun vs H1 => tk σ H1 fun zs H2 => sp (gV vs zs) H2 Q E
variable {g : List Value → List Value → List Value} {gV : List V → List V → List V}
theorem run_fnk {pins : List (Addr × Obj)} {σ : St} {H : Hp} {s : Shared} {Q : VK} {us ws : List Value} {vs zs : List V} (F : FnOk X.prog X.w X.K X.mg X.base CX k f fd ps sp) (hr : Room k X.A) (hb : KBinds X.K fd ps ks g gV) (hx : Passes CX X E)
    (I : Inv X pins σ H s) (r : Vals vs us) (rz : Vals zs ws) (h : sp (gV vs zs) H Q E) : wpAny (model X.prog X.w) X.A (call (.ref f) us (ks.zip ws)) (EP X pins σ Q) X.xe s := by
  have r2 := hb.rel r rz
  have hl : (g us ws).length = ps.length := by rw [← r2.length]; exact F.len _ _ _ _ h
  refine wpAny_call (codeAny_mono (F.run X.A X.stack s H ⟨us, ks.zip ws⟩ (g us ws) (gV vs zs) Q E hr I.env0 (hb.to s us ws I.kIn hl) r2 h) fun r s' hq => ?_)
  cases r with
  | error e => exact hx pins σ H s e s' I hq
  | ok fl =>
    cases fl with
    | ret u => exact I.after hq
    | next => exact False.elim hq
    | brk => exact False.elim hq
    | cont => exact False.elim hq
/-- f(e, .., k = v, ..) -/
theorem pe_callK (F : FnOk X.prog X.w X.K X.mg X.base CX k f fd ps sp) (hr : Room k X.A) (hg : Gl X x) (hm : X.mg x = some (.ref f)) (hk : PySem.W.keepIn X.K (.ref f) = true) (hb : KBinds X.K fd ps ks g gV) (hx : Passes CX X E)
    (ha : PA X (e :: es) t) (hkw : PK X kws tk) (hall : (backToKw pos (keywordEach kws X.env)).all (·.1.isSome) = true := by rfl) (hks : (backToKw pos (keywordEach kws X.env)).filterMap (·.1) = ks := by rfl)
    (hdb : (x == ("__debug__" : Str)) = false := by decide) (he : starEach (e :: es) X.env = (false, eval e X.env) :: starEach es X.env := by rfl)
    (hpl : ((backTo pos (starEach (e :: es) X.env)).any (·.1) || (backToKw pos (keywordEach kws X.env)).any (·.1.isNone)) = false := by rfl) :
    PE X (.Call (.Name x p) (e :: es) kws pos) (tCallK sp gV E t tk) := by
  intro pins s σ H Q I h
  refine wpAny_Call_Name_kw (ld_glob I hg hm ?_ hdb)
  refine PySem.W.callWith_KW (h₀ := X.base) I.ok.mod.kin hk hall (thn (ha pos pins s σ H _ I h) fun us s1 ⟨vs, H1, I1, r, q⟩ => ?_) hpl he
  refine thn (hkw pos pins s1 σ H1 _ I1 q) fun ws s2 ⟨zs, H2, I2, rz, q2⟩ => ⟨I2.kIn, ?_⟩
  rw [hks]
  exact run_fnk F hr hb hx I2 r rz q2
end

/-! ### a def's body keeps its promise -/
/-- names: the parameters first -/
structure FnScope (N P : List Str) (sc : Scope) : Prop where
  kind : sc.kind = .function
  co : sc.isCoroutine = false
  gen : sc.isGenerator = false
  nd : N.Nodup
  pre : N.take P.length = P
  par : ∀ x ∈ P, sc.names.lookup x = some .local ∨ sc.names.lookup x = some .cell
  nofree : ∀ y ∈ sc.names, y.2 ≠ .free

theorem bindL_out {kindOf : Str → Option NameKind} {x : Str} : ∀ {binds : List (Str × Value)} {m : Str → Option Value}, (∀ v, (x, v) ∉ binds) → bindL kindOf binds m x = m x
  | [], _, _ => rfl
  | (n, v) :: r, m, h => by
    unfold bindL
    rw [bindL_out fun w hw => h w (List.mem_cons_of_mem _ hw)]
    split
    · have : x ≠ n := by rintro rfl; exact h v List.mem_cons_self
      simp [this]
    · rfl
theorem bindC_out {kindOf : Str → Option NameKind} {x : Str} : ∀ {binds : List (Str × Value)} {m : Str → Option Value}, (∀ v, (x, v) ∉ binds) → bindC kindOf binds m x = m x
  | [], _, _ => rfl
  | (n, v) :: r, m, h => by
    unfold bindC
    rw [bindC_out fun w hw => h w (List.mem_cons_of_mem _ hw)]
    split
    · rfl
    · have : x ≠ n := by rintro rfl; exact h v List.mem_cons_self
      simp [this]
theorem bindL_get {kindOf : Str → Option NameKind} {x : Str} {v : Value} : ∀ {P : List Str} {vs : List Value} {i : Nat} {m : Str → Option Value}, P.Nodup → P[i]? = some x → vs[i]? = some v → kindOf x = some .local →
    bindL kindOf (P.zip vs) m x = some v
  | [], _, _, _, _, h, _, _ => by simp at h
  | _ :: _, [], _, _, _, _, h, _ => by simp at h
  | p :: P, w :: vs, 0, m, nd, h1, h2, hk => by
    simp at h1 h2; subst h1; subst h2
    show bindL kindOf ((p, w) :: P.zip vs) m p = _
    unfold bindL
    rw [bindL_out fun v hv => (List.nodup_cons.mp nd).1 (List.of_mem_zip hv).1, if_pos hk]
    simp
  | p :: P, w :: vs, i + 1, m, nd, h1, h2, hk => by
    show bindL kindOf ((p, w) :: P.zip vs) m x = _
    unfold bindL
    exact bindL_get (i := i) (List.nodup_cons.mp nd).2 (by simpa using h1) (by simpa using h2) hk
theorem bindC_get {kindOf : Str → Option NameKind} {x : Str} {v : Value} : ∀ {P : List Str} {vs : List Value} {i : Nat} {m : Str → Option Value}, P.Nodup → P[i]? = some x → vs[i]? = some v → kindOf x ≠ some .local →
    bindC kindOf (P.zip vs) m x = some v
  | [], _, _, _, _, h, _, _ => by simp at h
  | _ :: _, [], _, _, _, _, h, _ => by simp at h
  | p :: P, w :: vs, 0, m, nd, h1, h2, hk => by
    simp at h1 h2; subst h1; subst h2
    show bindC kindOf ((p, w) :: P.zip vs) m p = _
    unfold bindC
    rw [bindC_out fun v hv => (List.nodup_cons.mp nd).1 (List.of_mem_zip hv).1, if_neg hk]
    simp
  | p :: P, w :: vs, i + 1, m, nd, h1, h2, hk => by
    show bindC kindOf ((p, w) :: P.zip vs) m x = _
    unfold bindC
    exact bindC_get (i := i) (List.nodup_cons.mp nd).2 (by simpa using h1) (by simpa using h2) hk

/-- the names' values at the entry -/
def start (N : List Str) (vs : List V) : St := vs.map some ++ List.replicate (N.length - vs.length) none

/-- the context of a def's body, at its entry; an exception leaves the frame, then lies as CX says -/
def cxOf (CX : CXT) (P : Program) (w : World) (K : PySem.W.Frag) (mg : Str → Option Value) (base : Heap) (N : List Str) (qual : Str) (scope : Scope) (f : Addr) (cd : Value) (A : Around) (outer : List Env) (s : Shared) (H : Hp) (E : XK) : Cx where
  prog := P
  w := w
  K := K
  mg := mg
  base := base
  A := A.deeper (envOfC qual scope s.heap.objs.size f cd)
  N := N
  s₀ := s
  H₀ := H
  env := envOfC qual scope s.heap.objs.size f cd
  outer := outer
  stack := envOfC qual scope s.heap.objs.size f cd :: outer
  ex := []
  calm := true
  fn := fun _ => true
  pn := []
  xe := fun e s' => wpAny (model P w) (A.deeper (envOfC qual scope s.heap.objs.size f cd)) (leaving (envOfC qual scope s.heap.objs.size f cd) e) (fun _ s'' => CX outer H s E e s'') (fun e' s'' => CX outer H s E e' s'') s'

theorem cell_has {sc : Scope} {n : Nat} {x : Str} (h : sc.names.lookup x = some .cell) : ∃ c, (cellsFrom n sc.names []).lookup x = some c := by
  have q := PySem.W.cellsFrom_some sc.names n [] (.inl h)
  exact Option.isSome_iff_exists.mp q

theorem inv_start {CX : CXT} {P : Program} {w : World} {K : PySem.W.Frag} {mg : Str → Option Value} {base : Heap} {N ps : List Str} {qual : Str} {scope : Scope} {f : Addr} {cd : Value} {A : Around} {outer : List Env} {s s1 : Shared} {H : Hp} {E : XK} {us : List Value} {vs : List V}
    (S : FnScope N ps scope) (hd : A.handled = none) (e0 : Env0 P w K mg base A outer s H) (hl : vs.length = ps.length) (r : Vals vs us)
    (x : InCallC s s.heap.objs.size (bindL (envOfC qual scope s.heap.objs.size f cd).kindOf (ps.zip us) fun _ => none) (cellsFrom (s.heap.objs.size + 1) scope.names []) (bindC (envOfC qual scope s.heap.objs.size f cd).kindOf (ps.zip us) fun _ => none) s1) :
    Inv (cxOf CX P w K mg base N qual scope f cd A outer s H E) [] (start N vs) H s1 := by
  have hpl : ps.length ≤ N.length := by have := congrArg List.length S.pre; rw [List.length_take] at this; omega
  obtain ⟨h1, tk, rfl, hk⟩ := x.done
  have noA : ∀ b : Addr, b ∉ (cxOf CX P w K mg base N qual scope f cd A outer s H E).ex := fun b z => absurd (show b ∈ ([] : List Addr) from z) (by simp)
  refine ⟨⟨e0.mod, S.kind, rfl, rfl, Nat.le_refl _, fun y z c h1 h2 => ?_, fun y hy => ?_, fun y c _ h => ?_, fun _ => hd, Around.frames_deeper e0.frames, .inr ⟨rfl, rfl⟩, fun b z => absurd z (noA b), e0.bs, e0.bsz, fun b _ _ => noA b, fun b z => absurd z (noA b), e0.funs, e0.frf⟩,
    rfl, e0.bare, Un.kept hk, ⟨_, x.toInCall.ns, fun i y v h1 h2 h3 => ?_⟩, fun y c h => ⟨_, x.cell y c h⟩, e0.hok.fresh (Nat.le_refl _), fun y c h => ?_, fun p hp => absurd (show p ∈ ([] : List (Addr × Obj)) from hp) (by simp), e0.hok.kept hk, ?_⟩
  · exact name_of_addr x.apart (PySem.mem_of_lookup h1) (PySem.mem_of_lookup h2)
  · have hy : scope.names.lookup y = some .cell ∨ scope.names.lookup y = some .free := hy
    rcases hy with hy | hy
    · exact cell_has hy
    · exact absurd rfl (S.nofree _ (PySem.mem_of_lookup hy))
  · exact Nat.le_of_lt (x.above y c (PySem.mem_of_lookup h))
  · have hi : i < vs.length := by
      unfold start at h2
      by_cases hi : i < vs.length
      · exact hi
      · rw [List.getElem?_append_right (by simpa using hi)] at h2
        rw [List.getElem?_replicate] at h2
        split at h2 <;> cases h2
    have ha : vs[i]? = some v := by
      unfold start at h2
      rw [List.getElem?_append_left (by simpa using hi), List.getElem?_map] at h2
      cases e : vs[i]? with
      | none => rw [e] at h2; cases h2
      | some a => rw [e] at h2; cases h2; rfl
    obtain ⟨u, hu, rv⟩ := r.get ha
    have hp : ps[i]? = some y := by
      rw [← S.pre, List.getElem?_take_of_lt (by omega)]; exact h1
    have ndP : ps.Nodup := by rw [← S.pre]; exact S.nd.sublist (List.take_sublist _ _)
    refine ⟨u, rv, ?_⟩
    rcases S.par y (List.mem_of_getElem? hp) with k | k
    · exact .inl ⟨k, bindL_get ndP hp hu k⟩
    · obtain ⟨c, e⟩ := cell_has (n := s.heap.objs.size + 1) k
      refine .inr ⟨.inl k, c, e, ?_⟩
      have q := x.cell y c e
      rw [bindC_get ndP hp hu (by show scope.names.lookup y ≠ _; rw [k]; decide)] at q
      exact q
  · exact e0.hok.fresh (Nat.le_of_lt (x.above y c (PySem.mem_of_lookup h)))
  · unfold start
    show _ = N.length
    rw [List.length_append, List.length_map, List.length_replicate]
    omega

/-- THE RULE: a def (or a method) of the text, by its body. The body's reading t is chosen for each entry; it is run at the parameters' values -/
theorem fn_of {CX : CXT} {P : Program} {w : World} {K : PySem.W.Frag} {mg : Str → Option Value} {base : Heap} {k : Nat} {f : Addr} {name qual : Str} {params : Arguments} {body : List Stmt} {scope : Scope} {dV kV doc pm cdv ct oc : Value} {an od : Option Addr}
    {osl : Array (Option Value)} {N ps : List Str} {sp : Sp} (lk : K.lookup f = some ⟨oc, od, .func (PySem.W.fnOf name qual params body scope dV kV doc pm an cdv ct), osl⟩) (hcd : PySem.W.codeIn K cdv qual = true) (S : FnScope N ps scope)
    (len : ∀ vs H Q E, sp vs H Q E → vs.length = ps.length)
    (hbody : ∀ (A : Around) (outer : List Env) (s : Shared) (H : Hp) (vs : List V) (Q : VK) (E : XK), Room k (A.deeper (envOfC qual scope s.heap.objs.size f cdv)) → sp vs H Q E →
      ∃ t, PSs (cxOf CX P w K mg base N qual scope f cdv A outer s H E) body t ∧ t { nx := fun _ H' => Q .non H', rt := Q } (start N vs) H) :
    FnOk P w K mg base CX (k + 1) f (PySem.W.fnOf name qual params body scope dV kV doc pm an cdv ct) ps sp := by
  refine ⟨len, fun A outer s H args us vs Q E hr e0 hb r hsp => ?_⟩
  have hl := len _ _ _ _ hsp
  have KX : K.In s.heap := e0.mod.kin.keeps fun b o e => (e0.bs b o e).1
  have lim : s.heap.NoLimit := e0.mod.nolimit.keeps fun b o e => (e0.bs b o e).1
  have hkind : ∀ y ∈ ps.zip us, scope.names.lookup y.1 = some .local ∨ (scope.names.lookup y.1 = some .cell ∧ ((cellsFrom (s.heap.objs.size + 1) scope.names []).lookup y.1).isSome = true) := fun ⟨n, v⟩ hy => by
    rcases S.par n (List.of_mem_zip hy).1 with q | q
    · exact .inl q
    · exact .inr ⟨q, PySem.W.cellsFrom_some _ _ _ (.inl q)⟩
  refine codeAny_call_function hr.depth (KX _ _ lk) rfl S.co S.gen rfl (PySem.W.codeRec_of KX hcd) (hb _ _ _ _ ?_)
  refine wpAny_newFunctionEnv_cells S.kind hkind fun env he s1 x => ?_
  subst he
  refine ⟨lim.keeps x.toInCall.keep, codeAny_func ?_⟩
  obtain ⟨t, ht, hq⟩ := hbody A outer s H vs Q E (hr.deeper _) hsp
  have I : Inv (cxOf CX P w K mg base N qual scope f cdv A outer s H E) [] (start N vs) H s1 := inv_start S hr.hd e0 hl r x
  refine wpAny_mono (ht [] s1 (start N vs) H _ I hq) (fun fl s' hs => ?_) fun e s' hs => hs
  have fin : ∀ {σ' : St} {H' : Hp} {v : V} {u : Value}, Inv (cxOf CX P w K mg base N qual scope f cdv A outer s H E) [] σ' H' s' → RelV v u → Q v H' → CE outer P w H s Q u s' :=
    fun {σ' H' v u} J rv q => ⟨v, H', J.os, J.bare, J.base, J.hok, rv, q⟩
  cases fl with
  | ret u =>
    obtain ⟨v, σ', H', J, rv, q⟩ := hs
    exact fin J rv q
  | next =>
    obtain ⟨σ', H', J, q⟩ := hs
    exact fin (v := V.non) (u := Value.none) J rfl q
  | brk =>
    obtain ⟨_, _, _, q⟩ := hs
    exact False.elim q
  | cont =>
    obtain ⟨_, _, _, q⟩ := hs
    exact False.elim q
end L2

namespace L2
open PySem PySem.Spec PyProof.Rows
section
variable {X : Cx} {x : Str} {p pos : Pos} {e : Expr} {es : List Expr} {t : TA} {id T : String} {r : List V → Hp → VK → Prop}

def tCB (r : List V → Hp → VK → Prop) (t : TA) : TE := fun σ H Q => t σ H fun vs H1 => r vs H1 Q
/-- f(e, ..), f a built-in function -/
theorem pe_callB (hc : CallR X (.builtin id) r) (hg : Gl X x) (hm : X.mg x = none) (hv : bootBuiltins x = some (.builtin id)) (ha : PA X (e :: es) t) (hn : x ≠ "__name__" := by decide) (hdb : (x == ("__debug__" : Str)) = false := by decide)
    (he : starEach (e :: es) X.env = (false, eval e X.env) :: starEach es X.env := by rfl) (hpl : (backTo pos (starEach es X.env)).any (·.1) = false := by rfl) : PE X (.Call (.Name x p) (e :: es) [] pos) (tCB r t) := by
  intro pins s σ H Q I h
  refine wpAny_Call_Name_kw (ld_blt I hg hm hv ?_ hn hdb)
  exact PyProof.Rows.callWith_builtin1 (thn (ha pos pins s σ H _ I h) fun us s1 ⟨vs, H1, I1, r1, q1⟩ => hc pins s1 σ H1 vs us Q I1 r1 q1) he hpl
/-- T(e, ..), T a built-in type -/
theorem pe_callTy (hc : CallR X (.type T) r) (hg : Gl X x) (hm : X.mg x = none) (hv : bootBuiltins x = some (.type T)) (ha : PA X (e :: es) t) (hn : x ≠ "__name__" := by decide) (hdb : (x == ("__debug__" : Str)) = false := by decide)
    (he : starEach (e :: es) X.env = (false, eval e X.env) :: starEach es X.env := by rfl) (hpl : (backTo pos (starEach es X.env)).any (·.1) = false := by rfl) : PE X (.Call (.Name x p) (e :: es) [] pos) (tCB r t) := by
  intro pins s σ H Q I h
  refine wpAny_Call_Name_kw (ld_blt I hg hm hv ?_ hn hdb)
  exact PyProof.Rows.callWith_type1 (thn (ha pos pins s σ H _ I h) fun us s1 ⟨vs, H1, I1, r1, q1⟩ => hc pins s1 σ H1 vs us Q I1 r1 q1) he hpl
/-- T() -/
theorem pe_callTy0 (hc : CallR X (.type T) r) (hg : Gl X x) (hm : X.mg x = none) (hv : bootBuiltins x = some (.type T)) (hn : x ≠ "__name__" := by decide) (hdb : (x == ("__debug__" : Str)) = false := by decide) :
    PE X (.Call (.Name x p) [] [] pos) (tCB r tNil) := by
  intro pins s σ H Q I h
  refine wpAny_Call_Name_kw (ld_blt I hg hm hv ?_ hn hdb)
  exact PyProof.Rows.callWith_type0 (hc pins s σ H [] [] Q I .nil h)
end
end L2

namespace HT
open PySem PyProof.Rows

/-- t < u of tuples of ints -/
def lexLt : List Int → List Int → Bool
  | [], [] => false
  | [], _ :: _ => true
  | _ :: _, [] => false
  | x :: xs, y :: ys => if x = y then lexLt xs ys else decide (x < y)
theorem lexLt_cons (x y : Int) (xs ys : List Int) : lexLt (x :: xs) (y :: ys) = if x = y then lexLt xs ys else decide (x < y) := rfl
theorem lexLt_nil_nil : lexLt [] [] = false := rfl
theorem lexLt_nil_cons (y : Int) (ys : List Int) : lexLt [] (y :: ys) = true := rfl
theorem lexLt_cons_nil (x : Int) (xs : List Int) : lexLt (x :: xs) [] = false := rfl

theorem eqAt_int (A : Around) (s : Shared) (a : Int) (t : Tok) (c : Int) (u : Tok) : ∃ e, SeqAt.EqAt A s (.int a t) (.int c u) e ∧ (e = true ↔ a = c) :=
  ⟨(a == c), SeqAt.EqAt.int_int a t c u, by simp⟩
theorem rcLt_int (A : Around) (s : Shared) (a : Int) (t : Tok) (c : Int) (u : Tok) (prog : Program) (w : World) (E : Value → Shared → Prop) (Q : Value → Shared → Prop) (h : Q (.bool (decide (a < c))) s) :
    wpAny (model prog w) A (richCompare .Lt (.int a t) (.int c u)) Q E s :=
  (PyProof.Rows.lt_int h : wpAny (model prog w) A (compareOp .Lt (.int a t) (.int c u)) Q E s)

section
open PySem.SeqAt
open PySem.AutoSeq1 (wpAny_loadPart')
open PySem.MeetsSeq PySem.MeetsSeq2 PySem.MeetsSeq3

theorem tuple_lt_ints (l b : Addr) (items items2 : Array Value) (n n2 : Nat) (dd dd2 : Option Addr) (sl sl2 : Array (Option Value)) (ns ms : List Int) (hi : IntsAre items.toList ns) (hj : IntsAre items2.toList ms) :
    Meets (Builtin.«tuple.__lt__» ⟨[.ref l, .ref b], []⟩)
      (fun _ R s => s.heap.get? l = some { cls := .type "tuple", dict := dd, data := .seq items n, slots := sl } ∧ s.heap.get? b = some { cls := .type "tuple", dict := dd2, data := .seq items2 n2, slots := sl2 } ∧
        R (.ok (.ret (.bool (lexLt ns ms)))) s) :=
  .of_wp fun prog w A R s h => by
    obtain ⟨hp, g, d, tk, os⟩ := s; obtain ⟨hl, hb, h⟩ := h
    have f2 := AutoSeq1.sub_tuple_tuple
    have z1 : items.size = ns.length := by rw [← hi.length]; simp
    have z2 : items2.size = ms.length := by rw [← hj.length]; simp
    wp_walk using wpAny_loadPart' hl, wpAny_loadPart' hb, wpAny_forIn_list _ (fun rest b s' => b.1 = none ∧ s' = ⟨hp, g, d, tk, os⟩ ∧ ∃ (vs ws : List Value) (ns' ms' : List Int), rest = vs.zip ws ∧
      IntsAre vs ns' ∧ IntsAre ws ms' ∧ ns'.length + items2.size = ms'.length + items.size ∧ R (.ok (.ret (.bool (lexLt ns' ms')))) ⟨hp, g, d, tk, os⟩) _
    case turn =>
      rintro ⟨y, x⟩ rest b s' ⟨hb', rfl, vs, ws, ns', ms', hz, hvi, hwi, hlen, hR⟩
      cases hvi with
      | nil => rw [List.zip_nil_left] at hz; cases hz
      | cons a t hvi' =>
        cases hwi with
        | nil => rw [List.zip_nil_right] at hz; cases hz
        | cons c u hwi' =>
          rw [List.zip_cons_cons] at hz
          injection hz with hyx hrest
          injection hyx with hy hx
          subst hy hx
          rw [lexLt_cons] at hR
          simp only [List.length_cons] at hlen
          obtain ⟨e, he, hiff⟩ := eqAt_int A.in1 ⟨hp, g, d, tk, os⟩ a t c u
          refine wpAny_bind (he prog w _ _ ?_)
          cases e with
          | true =>
            rw [if_pos (hiff.mp rfl)] at hR
            wp_walk
            exact ⟨rfl, rfl, _, _, _, _, hrest, hvi', hwi', by omega, hR⟩
          | false =>
            rw [if_neg (fun q => absurd (hiff.mpr q) Bool.false_ne_true)] at hR
            have hri := rcLt_int A.in1 ⟨hp, g, d, tk, os⟩ a t c u prog w
            wp_walk using hri
            exact ⟨_, rfl, by simpa using hR⟩
    case fin =>
      rintro ⟨b1, b2⟩ s' ⟨hb', rfl, vs, ws, ns', ms', hz, hvi, hwi, hlen, hR⟩
      simp only at hb'
      subst hb'
      have hv : lexLt ns' ms' = decide (items.size < items2.size) := by
        cases hvi with
        | nil =>
          cases hwi with
          | nil =>
            simp only [List.length_nil] at hlen
            rw [lexLt_nil_nil]
            exact (decide_eq_false (by omega)).symm
          | cons c u hw =>
            simp only [List.length_nil, List.length_cons] at hlen
            rw [lexLt_nil_cons]
            exact (decide_eq_true (by omega)).symm
        | cons a t hv =>
          cases hwi with
          | nil =>
            simp only [List.length_nil, List.length_cons] at hlen
            rw [lexLt_cons_nil]
            exact (decide_eq_false (by omega)).symm
          | cons c u hw =>
            rw [List.zip_cons_cons] at hz
            cases hz
      rw [hv] at hR
      wp_walk
      exact ⟨_, rfl, by simpa [Builtin.Tuple.tupleCompareSizes] using hR⟩
    case h =>
      exact ⟨rfl, rfl, items.toList, items2.toList, ns, ms, rfl, hi, hj, by omega, h⟩
end

section
variable {prog : Program} {w : World} {A : Around} {E : Value → Shared → Prop} {s : Shared}

theorem lt_tupInts {l b : Addr} {items items2 : Array Value} {ns ms : List Int} {Q : Value → Shared → Prop} (hl : IsTup s.heap l items) (hb : IsTup s.heap b items2) (hi : IntsAre items.toList ns) (hj : IntsAre items2.toList ms)
    (hu : A.units < cLine) (h : Q (.bool (lexLt ns ms)) s) : wpAny (model prog w) A (compareOp .Lt (.ref l) (.ref b)) Q E s := by
  obtain ⟨⟨cls, dd, data, sl⟩, ho, hc, n, hd⟩ := id hl
  obtain ⟨⟨cls2, dd2, data2, sl2⟩, ho2, hc2, n2, hd2⟩ := id hb
  simp only at hc hd hc2 hd2
  subst hc hd hc2 hd2
  exact richCompare_meets_room (op := .Lt) ⟨_, ho, rfl⟩ ⟨_, ho2, rfl⟩ PySem.F.slot_tuple_lt PySem.F.entry_tuple_lt (PySem.F.args_tuple_lt_2 _ _) (tuple_lt_ints l b items items2 n n2 dd dd2 sl sl2 ns ms hi hj)
    ⟨ho, ho2, show Value.bool (lexLt ns ms) ≠ Value.notImplemented ∧ Q (.bool (lexLt ns ms)) s from ⟨(fun x => nomatch x), h⟩⟩ hu

/-- t + u, t not empty -/
theorem cat_tup {t b : Addr} {vs ws : List Value} {Q : Value → Shared → Prop} (ht : IsTup s.heap t vs.toArray) (hb : IsTup s.heap b ws.toArray) (hv : vs ≠ [])
    (h1 : ws = [] → Q (.ref t) s) (h2 : ws ≠ [] → Q (.ref s.heap.objs.size) { s with heap := s.heap.push { cls := .type "tuple", data := .seq (vs ++ ws).toArray } })
    (hsz : vs.length + ws.length ≤ sizeLine) : wpAny (model prog w) A (binaryOp .Add (.ref t) (.ref b)) Q E s := by
  obtain ⟨⟨cls, dd, data, sl⟩, ho, hc, n, hd⟩ := id ht
  obtain ⟨⟨cls2, dd2, data2, sl2⟩, ho2, hc2, n2, hd2⟩ := id hb
  simp only at hc hd hc2 hd2
  subst hc hd hc2 hd2
  have e : vs.toArray ++ ws.toArray = (vs ++ ws).toArray := by simp
  by_cases hw : ws = []
  · exact concat_meets ⟨_, ho, rfl⟩ ⟨_, ho2, rfl⟩ noFill_tuple_add seq_tuple_add PySem.F.slot_tuple_add PySem.F.entry_tuple_add (PySem.F.args_tuple_add_2 _ _)
      (tuple_addW1 t b vs.toArray ws.toArray n n2 dd dd2 sl sl2 (by simpa using hv) (by simp [hw])) ⟨ho, ho2, h1 hw⟩
  · refine concat_meets ⟨_, ho, rfl⟩ ⟨_, ho2, rfl⟩ noFill_tuple_add seq_tuple_add PySem.F.slot_tuple_add PySem.F.entry_tuple_add (PySem.F.args_tuple_add_2 _ _)
      (tuple_addW2 t b vs.toArray ws.toArray n n2 dd dd2 sl sl2 (by simpa using hv) (by simpa using hw) (by rw [List.size_toArray, List.size_toArray]; exact hsz)) ⟨ho, ho2, ?_⟩
    rw [e]
    exact h2 hw

/-! ### t[a:b], not the whole -/
/-- a slice's bound as a place among n (d where it is left out) -/
def sIx (n d : Nat) : Option Int → Nat
  | none => d
  | some v => if v < 0 then (v + (n : Int)).toNat else min v.toNat n
theorem sIx_none (n d : Nat) : sIx n d none = d := rfl
theorem sIx_nat (n d k : Nat) : sIx n d (some (k : Int)) = min k n := by
  show (if (k : Int) < 0 then ((k : Int) + (n : Int)).toNat else min (k : Int).toNat n) = min k n
  rw [if_neg (by omega), Int.toNat_natCast]
theorem sIx_le (n d : Nat) (hd : d ≤ n) (o : Option Int) : sIx n d o ≤ n := by
  cases o with
  | none => exact hd
  | some v =>
    show (if v < 0 then (v + (n : Int)).toNat else min v.toNat n) ≤ n
    by_cases hv : v < 0
    · rw [if_pos hv]; omega
    · rw [if_neg hv]; exact Nat.min_le_right _ _
theorem clip_eq (v : Int) (n d : Nat) : (if v < 0 then max (v + (n : Int)) 0 else min v (n : Int)) = ((sIx n d (some v) : Nat) : Int) := by
  show (if v < 0 then max (v + (n : Int)) 0 else min v (n : Int)) = (((if v < 0 then (v + (n : Int)).toNat else min v.toNat n) : Nat) : Int)
  by_cases hv : v < 0
  · simp only [if_pos hv]; omega
  · simp only [if_neg hv]; omega
theorem adjust_gen (lo hi : Option Int) (n : Nat) : Builtin.Slice.sliceAdjust lo hi 1 (n : Int) = (((sIx n 0 lo : Nat) : Int), ((sIx n n hi : Nat) : Int)) := by
  have h1 : ¬ ((1 : Int) < 0) := by omega
  unfold Builtin.Slice.sliceAdjust
  simp only [h1, if_false]
  refine Prod.ext ?_ ?_
  · cases lo with
    | none => rfl
    | some v => exact clip_eq v n 0
  · cases hi with
    | none => rfl
    | some v => exact clip_eq v n n
theorem places_gen (i j : Nat) : Builtin.Slice.slicePlaces (i : Int) (j : Int) 1 = j - i := by
  unfold Builtin.Slice.slicePlaces
  have h1 : (1 : Int) > 0 := by omega
  simp only [h1, if_true, Int.ediv_one]
  split <;> omega
theorem slicePart_ {v : Value} {o : Option Int} {Q : Option Int → Shared → Prop} (p : IsPart v o) (h : Q o s) : wpAny (model prog w) A (Builtin.Slice.slicePartIndex v) Q E s := by
  cases p with
  | none => exact slicePart_none h
  | int i t => exact slicePart_int h
theorem sliceApplied_gen {sl : Addr} {vl vu : Value} {lo hi : Option Int} {n : Nat} {Q : Int × Int × Nat → Shared → Prop} (hs : s.heap.IsSliceOf sl vl vu .none) (pl : IsPart vl lo) (pu : IsPart vu hi)
    (h : Q (((sIx n 0 lo : Nat) : Int), 1, sIx n n hi - sIx n 0 lo) s) : wpAny (model prog w) A (Builtin.Slice.sliceApplied (.ref sl) (pure (n : Int))) Q E s := by
  obtain ⟨os, hos, hcs, hds⟩ := id hs
  unfold Builtin.Slice.sliceApplied Builtin.Slice.sliceFields
  refine wpAny_bind (wpAny_bind (wpAny_field hos hds (x := vl) rfl (wpAny_bind (wpAny_field hos hds (x := vu) rfl (wpAny_bind (wpAny_field hos hds (x := .none) rfl (wpAny_pure ?_)))))))
  refine wpAny_bind (slicePart_none ?_)
  show wpAny _ _ (if ((1 : Int) == 0) = true then _ else _) _ _ s
  rw [if_neg (by decide)]
  refine wpAny_bind (slicePart_ pl (wpAny_bind (slicePart_ pu (wpAny_bind (wpAny_pure ?_)))))
  show wpAny _ _ (match Builtin.Slice.sliceAdjust lo hi 1 (n : Int) with | (lo, hi) => pure (lo, (1 : Int), Builtin.Slice.slicePlaces lo hi 1)) _ _ s
  rw [adjust_gen lo hi n]
  show wpAny _ _ (pure (((sIx n 0 lo : Nat) : Int), (1 : Int), Builtin.Slice.slicePlaces ((sIx n 0 lo : Nat) : Int) ((sIx n n hi : Nat) : Int) 1)) _ _ s
  rw [places_gen]
  exact wpAny_pure h
theorem pick_gen (xs : Array Value) (i k : Nat) : ((List.range k).filterMap fun (m : Nat) => xs[((i : Int) + (m : Int) * 1).toNat]?).toArray = ((xs.toList.drop i).take k).toArray := by
  have e : (fun (m : Nat) => xs[((i : Int) + (m : Int) * 1).toNat]?) = fun m => xs[i + m]? := by
    funext m
    have : ((i : Int) + (m : Int) * 1).toNat = i + m := by omega
    rw [this]
  rw [e]
  have := pick_run xs i k
  rw [List.filterMap_map] at this
  have e2 : ((fun x => xs[x]?) ∘ fun x => i + x) = fun m => xs[i + m]? := rfl
  rw [e2] at this
  rw [this]

theorem getItem_tuple_cut {t sl : Addr} {items : Array Value} {vl vu : Value} {lo hi : Option Int} {Q : Value → Shared → Prop} (ht : IsTup s.heap t items) (hs : s.heap.IsSliceOf sl vl vu .none) (pl : IsPart vl lo) (pu : IsPart vu hi)
    (hw : ¬ (sIx items.size 0 lo = 0 ∧ sIx items.size items.size hi = items.size))
    (h : Q (.ref s.heap.objs.size) { s with heap := s.heap.push { cls := .type "tuple", data := .seq ((items.toList.drop (sIx items.size 0 lo)).take (sIx items.size items.size hi - sIx items.size 0 lo)).toArray } })
    (hsz : items.size ≤ sizeLine) : wpAny (model prog w) A (getItem (.ref t) (.ref sl)) Q E s := by
  have htake : sizeOk (.seq ((items.toList.drop (sIx items.size 0 lo)).take (sIx items.size items.size hi - sIx items.size 0 lo)).toArray) := by
    show ((items.toList.drop (sIx items.size 0 lo)).take (sIx items.size items.size hi - sIx items.size 0 lo)).toArray.size ≤ sizeLine
    rw [List.size_toArray, List.length_take, List.length_drop, Array.length_toList]
    omega
  have hj : sIx items.size items.size hi ≤ items.size := sIx_le _ _ (Nat.le_refl _) hi
  obtain ⟨os, hos, hcs, hds⟩ := id hs
  have hTs : s.TypeIs (.ref sl) "slice" := ⟨os, hos, hcs⟩
  unfold getItem
  try with_reducible refine wpAny_holding ?_
  first | refine wpAny_bind (wpAny_pure ?_) | skip
  refine wpAny_bind (wpAny_sequenceKey ht.typeIs (by decide) ?_)
  refine wpAny_bind (wpAny_callSpecial?_slot (name := Str.ofString "__getitem__") ht.typeIs PyProof.Rows.slot_tuple_getitem
    (wpAny_call_entry PyProof.Rows.slot_tuple_getitem ht.typeIs entry_tuple_getitem ?_ (args_tuple_getitem _ _)))
  show wpAny _ _ (Builtin.Tuple.tupleItemsOf (.ref t) >>= _) _ _ s
  refine wpAny_bind (tupleItemsOf_ ht ?_)
  refine wpAny_bind (wpAny_typeOf hTs ?_)
  rw [if_pos (by decide)]
  refine wpAny_bind (sliceApplied_gen hs pl pu ?_)
  have hno : ¬ ((((sIx items.size 0 lo : Nat) : Int) == 0 && (1 : Int) == 1 && (sIx items.size items.size hi - sIx items.size 0 lo) == items.size) = true) := by
    intro q
    rw [Bool.and_eq_true, Bool.and_eq_true] at q
    have q1 : ((sIx items.size 0 lo : Nat) : Int) = 0 := eq_of_beq q.1.1
    have q2 : sIx items.size items.size hi - sIx items.size 0 lo = items.size := eq_of_beq q.2
    exact hw ⟨by omega, by omega⟩
  show wpAny _ _ (if (((sIx items.size 0 lo : Nat) : Int) == 0 && (1 : Int) == 1 && (sIx items.size items.size hi - sIx items.size 0 lo) == items.size) = true then _ else _) _ _ s
  rw [if_neg hno, pick_gen]
  first
    | exact wpAny_bind (m := Builtin.Tuple.tupleExact _) (wpAny_newObj_type (wpAny_pure ⟨_, rfl, wpAny_pure h⟩) htake)
    | exact wpAny_bind (m := Builtin.Tuple.tupleExact _) (wpAny_newObj_type (wpAny_bind (wpAny_pure (wpAny_pure ⟨_, rfl, wpAny_pure h⟩))) htake)
    | exact wpAny_bind (wpAny_bind (m := Builtin.Tuple.tupleExact _) (wpAny_newObj_type (wpAny_pure (wpAny_pure ⟨_, rfl, wpAny_pure h⟩)) htake))
    | exact wpAny_bind (wpAny_bind (m := Builtin.Tuple.tupleExact _) (wpAny_newObj_type (wpAny_pure ⟨_, rfl, wpAny_pure h⟩) htake))
end
end HT

namespace L2
open PySem PySem.Spec PyProof.Rows

/-! ### the parts of a slice -/
abbrev TO := St → Hp → (Option Int → Hp → Prop) → Prop
/-- a slice's part (left out, or an int) -/
def PO (X : Cx) (e : Option Expr) (t : TO) : Prop :=
  ∀ (pins : List (Addr × Obj)) (s : Shared) (σ : St) (H : Hp) (Q : Option Int → Hp → Prop), Inv X pins σ H s → t σ H Q →
    wpAny (model X.prog X.w) X.A (evalPart e X.env) (fun u s' => ∃ o H', Inv X pins σ H' s' ∧ IsPart u o ∧ Q o H') X.xe s
def tNoPart : TO := fun _ H Q => Q none H
def tPart (t : TE) : TO := fun σ H Q => t σ H fun x H1 => ∃ i, x = .int i ∧ Q (some i) H1

theorem intsAre_of {ns : List Int} : ∀ {us : List Value}, Vals (ns.map V.int) us → IntsAre us ns := by
  induction ns with
  | nil => intro us r; rw [List.map_nil] at r; cases r; exact .nil
  | cons n ns ih =>
    intro us r
    rw [List.map_cons] at r
    cases r with
    | cons r1 r2 =>
      obtain ⟨t, e⟩ := r1
      subst e
      exact .cons n t (ih r2)

section
variable {X : Cx} {e : Expr} {te : TE} {lo hi : Option Expr} {tl th : TO} {pos p2 : Pos}

theorem po_none : PO X none tNoPart := by
  intro pins s σ H Q I h
  rw [evalPart_none]
  exact wpAny_pure ⟨none, H, I, .none, h⟩
theorem po_some (h : PE X e te) : PO X (some e) (tPart te) := by
  intro pins s σ H Q I hw
  rw [evalPart_some]
  refine thn (h pins s σ H _ I hw) fun u s1 ⟨x, H1, I1, r1, q1⟩ => ?_
  obtain ⟨i, rfl, q⟩ := q1
  obtain ⟨t, rfl⟩ := r1
  exact ⟨some i, H1, I1, .int i t, q⟩

/-- what a slice of a value is, by values: the slice object stands at sl -/
def SlR (X : Cx) (r : V → Option Int → Option Int → Hp → VK → Prop) : Prop :=
  ∀ (pins : List (Addr × Obj)) (s : Shared) (σ : St) (H : Hp) (x : V) (v vl vu : Value) (lo hi : Option Int) (sl : Addr) (Q : VK), Inv X pins σ H s → RelV x v → s.heap.IsSliceOf sl vl vu .none → IsPart vl lo → IsPart vu hi → r x lo hi H Q →
    ∃ T id, typeLookup (.type T) "__getitem__" = pure (some (.builtin id)) ∧ s.TypeIs v T ∧ wpAny (model X.prog X.w) X.A (getItem v (.ref sl)) (EP X pins σ Q) X.xe s
theorem SlR.or {r r' : V → Option Int → Option Int → Hp → VK → Prop} (h : SlR X r) (h' : SlR X r') : SlR X (fun x lo hi H Q => r x lo hi H Q ∨ r' x lo hi H Q) := by
  intro pins s σ H x v vl vu lo hi sl Q I rx hs pl pu q
  rcases q with q | q
  · exact h pins s σ H x v vl vu lo hi sl Q I rx hs pl pu q
  · exact h' pins s σ H x v vl vu lo hi sl Q I rx hs pl pu q
def tSl (r : V → Option Int → Option Int → Hp → VK → Prop) (te : TE) (tl th : TO) : TE := fun σ H Q => te σ H fun x H1 => tl σ H1 fun l H2 => th σ H2 fun u H3 => r x l u H3 Q
/-- a[lo:hi], any a -/
theorem pe_slice {r : V → Option Int → Option Int → Hp → VK → Prop} (hr : SlR X r) (he : PE X e te) (hl : PO X lo tl) (hu : PO X hi th) : PE X (.Subscript e (.Slice lo hi none p2) pos) (tSl r te tl th) := by
  intro pins s σ H Q I h
  refine Subscript_ (thn (he pins s σ H _ I h) fun v s1 ⟨x, H1, I1, r1, q1⟩ => ?_)
  refine wpAny_Slice (thn (hl pins s1 σ H1 _ I1 q1) fun vl s2 ⟨l, H2, I2, pl, q2⟩ => thn (hu pins s2 σ H2 _ I2 q2) fun vu s3 ⟨u, H3, I3, pu, q3⟩ => ?_)
  rw [evalPart_none]
  refine wpAny_pure ?_
  have I4 : Inv X pins σ H3 { s3 with heap := s3.heap.push { cls := .type "slice", data := .fields #[vl, vu, .none] } } := I3.kept (t' := s3.toks) fun b ob q => Heap.get?_push_of_some _ q
  obtain ⟨T, id, hT, ht, hg⟩ := hr pins { s3 with heap := s3.heap.push { cls := .type "slice", data := .fields #[vl, vu, .none] } } σ H3 x v vl vu l u s3.heap.objs.size Q I4 r1 (Heap.IsSliceOf.new ..) pl pu q3
  show wpAny (model X.prog X.w) X.A (subscriptTail e (.Slice lo hi none p2) v (.ref s3.heap.objs.size)) (EP X pins σ Q) X.xe { s3 with heap := s3.heap.push { cls := .type "slice", data := .fields #[vl, vu, .none] } }
  exact tail_any (ops := [.ref s3.heap.objs.size, v]) ht hT hg (by with_unfolding_all rfl)

/-- the items of xs[lo:hi] -/
def cutV (xs : List V) (lo hi : Option Int) : List V := (xs.drop (HT.sIx xs.length 0 lo)).take (HT.sIx xs.length xs.length hi - HT.sIx xs.length 0 lo)
theorem cutV_length (xs : List V) (lo hi : Option Int) : (cutV xs lo hi).length ≤ xs.length := by
  unfold cutV
  rw [List.length_take, List.length_drop]
  omega
/-- t[lo:hi], not the whole of it (the whole would be t itself) -/
def rSlT (K : PySem.W.Frag) : V → Option Int → Option Int → Hp → VK → Prop := fun x lo hi H Q => ∃ a xs, x = .ref a ∧ SqT K H a xs ∧
  ¬ (HT.sIx xs.length 0 lo = 0 ∧ HT.sIx xs.length xs.length hi = xs.length) ∧ ∀ p, H p = none → Q (.ref p) (upd H p (.tup (cutV xs lo hi)))
theorem sl_tup : SlR X (rSlT X.K) := by
  intro pins s σ H x v vl vu lo hi sl Q I rx hs pl pu h
  obtain ⟨a, xs, rfl, hx, hw, q⟩ := h
  cases rx
  obtain ⟨its, r, ht, hz⟩ := I.tuple hx
  have hlen : its.toArray.size = xs.length := by rw [List.size_toArray]; exact r.length.symm
  refine ⟨"tuple", _, PyProof.Rows.slot_tuple_getitem.lookup, ht.typeIs, ?_⟩
  refine HT.getItem_tuple_cut ht hs pl pu (by rw [hlen]; exact hw) ?_ (by rw [hlen]; exact hz)
  rw [hlen]
  refine ⟨.ref s.heap.objs.size, _, I.laid (t' := s.toks) (o := .tup (cutV xs lo hi)) (fun b ob q => Heap.get?_push_of_some _ q) (Nat.le_refl _) ?_, rfl, q _ (I.hok.fresh (Nat.le_refl _))⟩
  exact ⟨Nat.le_trans (cutV_length xs lo hi) hz, _, (r.drop (HT.sIx xs.length 0 lo)).take (HT.sIx xs.length xs.length hi - HT.sIx xs.length 0 lo), IsTup.new _ _⟩

/-! ### t < u, t + u -/
def rLtT (K : PySem.W.Frag) : R2 := fun x y H Q => ∃ a b ns ms, x = .ref a ∧ y = .ref b ∧ SqT K H a (ns.map V.int) ∧ SqT K H b (ms.map V.int) ∧ Q (.bl (HT.lexLt ns ms)) H
theorem op_ltT (hu : X.A.units < cLine) : OpR X (compareOp .Lt) (rLtT X.K) := by
  intro pins s σ H x y v u Q I rx ry h
  obtain ⟨a, b, ns, ms, rfl, rfl, ha, hb, q⟩ := h
  cases rx
  cases ry
  obtain ⟨its, r1, p1, _⟩ := I.tuple ha
  obtain ⟨its2, r2, p2, _⟩ := I.tuple hb
  have i1 : IntsAre its.toArray.toList ns := intsAre_of r1
  have i2 : IntsAre its2.toArray.toList ms := intsAre_of r2
  exact HT.lt_tupInts p1 p2 i1 i2 hu ⟨.bl (HT.lexLt ns ms), H, I, rfl, q⟩
/-- t + u, t not empty: u empty gives t itself -/
def rCatT (K : PySem.W.Frag) : R2 := fun x y H Q => ∃ a b xs ys, x = .ref a ∧ y = .ref b ∧ SqT K H a xs ∧ SqT K H b ys ∧ xs ≠ [] ∧ xs.length + ys.length ≤ sizeLine ∧
  (ys = [] → Q (.ref a) H) ∧ (ys ≠ [] → ∀ p, H p = none → Q (.ref p) (upd H p (.tup (xs ++ ys))))
theorem Vals.nil_iff {xs : List V} {us : List Value} (r : Vals xs us) : us = [] ↔ xs = [] := by
  cases r with
  | nil => simp
  | cons _ _ => simp
theorem op_catT : OpR X (binaryOp .Add) (rCatT X.K) := by
  intro pins s σ H x y v u Q I rx ry h
  obtain ⟨a, b, xs, ys, rfl, rfl, ha, hb, hx, hz, q1, q2⟩ := h
  cases rx
  cases ry
  obtain ⟨its, r1, p1, _⟩ := I.tuple ha
  obtain ⟨its2, r2, p2, _⟩ := I.tuple hb
  refine HT.cat_tup p1 p2 (fun z => hx (r1.nil_iff.mp z)) (fun z => ⟨.ref a, H, I, rfl, q1 (r2.nil_iff.mp z)⟩) (fun z => ?_) (by rw [← r1.length, ← r2.length]; exact hz)
  refine ⟨.ref s.heap.objs.size, _, I.laid (t' := s.toks) (o := .tup (xs ++ ys)) (fun b ob q => Heap.get?_push_of_some _ q) (Nat.le_refl _) ?_, rfl, q2 (fun w => z (r2.nil_iff.mpr w)) _ (I.hok.fresh (Nat.le_refl _))⟩
  exact ⟨by rw [List.length_append]; exact hz, _, r1.append r2, IsTup.new _ _⟩
/-- tuple(t) -/
theorem call_tupleT : CallR X (.type "tuple") (fun xs H Q => ∃ a ys, xs = [.ref a] ∧ SqT X.K H a ys ∧ Q (.ref a) H) := by
  intro pins s σ H xs us Q I r h
  obtain ⟨a, ys, rfl, ha, q⟩ := h
  obtain ⟨u, rfl, ru⟩ := vals1 r
  cases ru
  obtain ⟨its, _, p1, _⟩ := I.tuple ha
  exact call_tuple_same (items := its.toArray) p1 ⟨.ref a, H, I, rfl, q⟩
end
end L2

namespace L2
open PySem PySem.Spec PyProof.Rows

/-! ### places -/
/-- the place that an index of any sign means -/
def ixN (n : Nat) (i : Int) : Option Nat := if 0 ≤ i then (if i < n then some i.toNat else none) else if -(n : Int) ≤ i then some (i + n).toNat else none
def atI {α : Type} (xs : List α) (i : Int) : Option α := (ixN xs.length i).bind fun j => xs[j]?
theorem ixN_seq {n : Nat} {i : Int} {j : Nat} (h : ixN n i = some j) : seqIndex? i n = some j ∧ j < n ∧ -(n : Int) ≤ i ∧ i < n := by
  unfold ixN at h
  by_cases h0 : 0 ≤ i
  · rw [if_pos h0] at h
    by_cases h1 : i < n
    · rw [if_pos h1] at h
      have e : i.toNat = j := Option.some.inj h
      exact ⟨by rw [seqIndex_of h0 h1, e], by omega, by omega, h1⟩
    · rw [if_neg h1] at h; cases h
  · rw [if_neg h0] at h
    by_cases h1 : -(n : Int) ≤ i
    · rw [if_pos h1] at h
      have e : (i + n).toNat = j := Option.some.inj h
      exact ⟨by rw [seqIndex_neg (by omega) h1, e], by omega, h1, by omega⟩
    · rw [if_neg h1] at h; cases h
theorem atI_get {α : Type} {xs : List α} {i : Int} {v : α} (h : atI xs i = some v) : ∃ j, seqIndex? i xs.length = some j ∧ xs[j]? = some v ∧ j < xs.length ∧ -(xs.length : Int) ≤ i ∧ i < xs.length := by
  unfold atI at h
  cases e : ixN xs.length i with
  | none => rw [e] at h; cases h
  | some j =>
    rw [e] at h
    obtain ⟨h1, h2, h3, h4⟩ := ixN_seq e
    exact ⟨j, h1, h, h2, h3, h4⟩
theorem atI_nat {α : Type} {xs : List α} {j : Nat} {v : α} (h : xs[j]? = some v) : atI xs (j : Int) = some v := by
  have hj : j < xs.length := (List.getElem?_eq_some_iff.mp h).1
  have e : ixN xs.length (j : Int) = some j := by
    unfold ixN
    rw [if_pos (by omega), if_pos (by omega)]; simp
  unfold atI; rw [e]; exact h
theorem atI_last {α : Type} (xs : List α) (v : α) : atI (xs ++ [v]) (-1) = some v := by
  have hl : (xs ++ [v]).length = xs.length + 1 := by simp
  have e : ixN (xs ++ [v]).length (-1) = some xs.length := by
    unfold ixN
    rw [hl, if_neg (by decide), if_pos (by omega)]
    congr 1
    omega
  unfold atI
  rw [e]
  show (xs ++ [v])[xs.length]? = some v
  simp

/-! ### what may be subscripted -/
/-- what stands as an index of a plain subscript -/
def PlainIx (b : Expr) : Prop := ∀ o i, subscripted b false o i = operate [o, i] (getItem o i)
/-- a subscript by values -/
def IxR (X : Cx) (r : R2) : Prop :=
  ∀ (value slice : Expr) (pins : List (Addr × Obj)) (s : Shared) (σ : St) (H : Hp) (x y : V) (v u : Value) (Q : VK), Inv X pins σ H s → RelV x v → RelV y u → r x y H Q →
    subscripted slice false v u = operate [v, u] (getItem v u) → wpAny (model X.prog X.w) X.A (subscriptTail value slice v u) (EP X pins σ Q) X.xe s
/-- a call of a builtin's method by values: the receiver, the arguments -/
def MtR (X : Cx) (id : String) (r : V → List V → Hp → VK → Prop) : Prop :=
  ∀ (pins : List (Addr × Obj)) (s : Shared) (σ : St) (H : Hp) (x : V) (xs : List V) (v : Value) (us : List Value) (Q : VK), Inv X pins σ H s → RelV x v → Vals xs us → r x xs H Q →
    wpAny (model X.prog X.w) X.A (call (.builtin id) (v :: us)) (EP X pins σ Q) X.xe s
section
variable {X : Cx} {a b : Expr} {ta tb : TE} {pos : Pos}
theorem IxR.or {r r' : R2} (h : IxR X r) (h' : IxR X r') : IxR X (fun x y H Q => r x y H Q ∨ r' x y H Q) := by
  intro value slice pins s σ H x y v u Q I rx ry q hs
  rcases q with q | q
  · exact h value slice pins s σ H x y v u Q I rx ry q hs
  · exact h' value slice pins s σ H x y v u Q I rx ry q hs
theorem MtR.or {id : String} {r r' : V → List V → Hp → VK → Prop} (h : MtR X id r) (h' : MtR X id r') : MtR X id (fun x xs H Q => r x xs H Q ∨ r' x xs H Q) := by
  intro pins s σ H x xs v us Q I rx rs q
  rcases q with q | q
  · exact h pins s σ H x xs v us Q I rx rs q
  · exact h' pins s σ H x xs v us Q I rx rs q
/-- a[b] -/
theorem pe_ix {r : R2} (hr : IxR X r) (ha : PE X a ta) (hb : PE X b tb) (hs : PlainIx b) : PE X (.Subscript a b pos) (tOp r ta tb) := by
  intro pins s σ H Q I h
  exact Subscript_ (binT ha hb I h fun v u s2 x y H2 I2 rx ry q => hr a b pins s2 σ H2 x y v u Q I2 rx ry q (hs _ _))

def rIxL (K : PySem.W.Frag) : R2 := fun x y H Q => ∃ p xs i v, x = .ref p ∧ y = .int i ∧ SqL K H p xs ∧ atI xs i = some v ∧ Q v H
def rIxT (K : PySem.W.Frag) : R2 := fun x y H Q => ∃ p xs i v, x = .ref p ∧ y = .int i ∧ SqT K H p xs ∧ atI xs i = some v ∧ Q v H
def rIxS : R2 := fun x y H Q => ∃ z i c, x = .str z ∧ y = .int i ∧ z.length ≤ sizeLine ∧ atI z.cps.toList i = some c ∧ Q (.str ⟨#[c]⟩) H
theorem ix_list : IxR X (rIxL X.K) := by
  intro value slice pins s σ H x y v u Q I rx ry h hs
  obtain ⟨p, xs, i, z, rfl, rfl, hq, he, q⟩ := h
  cases rx
  obtain ⟨t, rfl⟩ := ry
  obtain ⟨its, r, pl, hz⟩ := I.list hq
  obtain ⟨j, h1, h2, h3, h4, h5⟩ := atI_get he
  obtain ⟨w, ew, rw'⟩ := r.get h2
  have hl := r.length
  have hn := line63
  have fin : EP X pins σ Q w s := ⟨z, H, I, rw', q⟩
  by_cases h0 : 0 ≤ i
  · have hj : i.toNat = j := by
      rw [seqIndex_of h0 h5] at h1
      exact Option.some.inj h1
    exact item_listR pl.isList h0 (by omega) (by rw [hj]; simpa using ew) fin hs
  · have hj : (i + (its.toArray.size : Int)).toNat = j := by
      rw [seqIndex_neg (by omega) h4] at h1
      rw [List.size_toArray, ← hl]
      exact Option.some.inj h1
    exact subscriptTail_builtinR (x := w) pl.isList.typeIs slot_list_getitem.lookup
      (wpAny_getItem_list_neg (Q := fun r s' => r = w ∧ EP X pins σ Q r s') pl.isList (by omega) (by rw [List.size_toArray] <;> omega) (by omega) (by rw [hj]; simpa using ew) ⟨rfl, fin⟩) hs
theorem ix_tup : IxR X (rIxT X.K) := by
  intro value slice pins s σ H x y v u Q I rx ry h hs
  obtain ⟨p, xs, i, z, rfl, rfl, hq, he, q⟩ := h
  cases rx
  obtain ⟨t, rfl⟩ := ry
  obtain ⟨its, r, pl, hz⟩ := I.tuple hq
  obtain ⟨j, h1, h2, h3, h4, h5⟩ := atI_get he
  obtain ⟨w, ew, rw'⟩ := r.get h2
  have hl := r.length
  have hn := line63
  have fin : EP X pins σ Q w s := ⟨z, H, I, rw', q⟩
  exact subscriptTail_builtinR (x := w) pl.typeIs slot_tuple_getitem.lookup
    (getItem_tuple (j := j) (Q := fun r s' => r = w ∧ EP X pins σ Q r s') pl (by omega) (by omega) (by rw [List.size_toArray, ← hl]; exact h1) (by simpa using ew) ⟨rfl, fin⟩) hs
theorem ix_str : IxR X rIxS := by
  intro value slice pins s σ H x y v u Q I rx ry h hs
  obtain ⟨z, i, c, rfl, rfl, hz, he, q⟩ := h
  obtain ⟨t, rfl⟩ := rx
  obtain ⟨t', rfl⟩ := ry
  obtain ⟨j, h1, h2, h3, h4, h5⟩ := atI_get he
  have hl : z.cps.toList.length = z.length := by simp [Str.length]
  rw [hl] at h1 h4 h5
  have hn := line63
  exact tail_any (typeIs_str s z t) slot_str_getitem.lookup (getItem_str (c := c) (by
    have e1 : decide (i < -(2 ^ 63 : Int)) = false := decide_eq_false (by omega)
    have e2 : decide (i ≥ 2 ^ 63) = false := decide_eq_false (by omega)
    rw [e1, e2, Bool.or_false]) (by rw [h1]; simpa using h2) ⟨.str ⟨#[c]⟩, H, I.tok _, ⟨_, rfl⟩, q⟩) hs
/-- list, tuple or str -/
def rIx (K : PySem.W.Frag) : R2 := fun x y H Q => rIxL K x y H Q ∨ rIxT K x y H Q ∨ rIxS x y H Q
theorem ix_seq : IxR X (rIx X.K) := ix_list.or (ix_tup.or ix_str)

/-! ### xs[i] = v, any sign -/
/-- the list's object behind a store -/
theorem mapSeq_set (its : List Value) (n j : Nat) (u : Value) : Obj.mapSeq (·.setIfInBounds j u) { cls := .type "list", data := .seq its.toArray n } = { cls := .type "list", data := .seq (its.set j u).toArray n } := by
  simp [Obj.mapSeq]
theorem Inv.lst {pins : List (Addr × Obj)} {σ : St} {H : Hp} {s : Shared} {p : Addr} {xs : List V} (I : Inv X pins σ H s) (h : H p = some (.lst xs)) :
    ∃ (its : List Value) (n : Nat), Vals xs its ∧ s.heap.get? p = some { cls := .type "list", data := .seq its.toArray n } ∧ xs.length ≤ sizeLine := by
  obtain ⟨z, its, n, r, e⟩ := I.hok p _ h
  exact ⟨its, n, r, e, z⟩
/-- the list at p is written by an update of its object -/
theorem Inv.lstUpd {pins : List (Addr × Obj)} {σ : St} {H : Hp} {s : Shared} {p : Addr} {xs ys : List V} {its its' : List Value} {n n' : Nat} {f : Obj → Obj} (I : Inv X pins σ H s) (h : H p = some (.lst xs))
    (ho : s.heap.get? p = some { cls := .type "list", data := .seq its.toArray n }) (hf : f { cls := .type "list", data := .seq its.toArray n } = { cls := .type "list", data := .seq its'.toArray n' }) (r : Vals ys its') (hz : ys.length ≤ sizeLine) (t : Nat) :
    Inv X pins σ (upd H p (.lst ys)) { s with heap := s.heap.update p f, toks := t } := by
  have e : (s.heap.update p f).get? p = some { cls := .type "list", data := .seq its'.toArray n' } := by
    rw [Heap.get?_update_self f ho (by rw [hf] <;> rfl), hf]
  refine I.write (x := p) (e := p) (by rw [h]; trivial) (.inl rfl) (fun b u hb q => (Heap.get?_update_other _ _ (Ne.symm hb)).trans q) ⟨_, e⟩ ?_
  exact ⟨hz, its', n', r, e⟩
def rSetL : V → V → V → Hp → (Hp → Prop) → Prop := fun o i v H Q => ∃ p xs k j, o = .ref p ∧ i = .int k ∧ H p = some (.lst xs) ∧ ixN xs.length k = some j ∧ Q (upd H p (.lst (xs.set j v)))
theorem set_list : PSet X rSetL := by
  intro pins s σ H o i v ov iv u Q I ro ri rv h
  obtain ⟨p, xs, k, j, rfl, rfl, hp, hj, q⟩ := h
  cases ro
  obtain ⟨t, rfl⟩ := ri
  obtain ⟨its, n, r, ho, hz⟩ := I.lst hp
  obtain ⟨h1, h2, h3, h4⟩ := ixN_seq hj
  have hl := r.length
  have hn := line63
  have I' : Inv X pins σ (upd H p (.lst (xs.set j v))) { s with heap := s.heap.update p (Obj.mapSeq (·.setIfInBounds j u)) } :=
    I.lstUpd hp ho (mapSeq_set its n j u) (r.set rv j) (by rw [List.length_set]; exact hz) s.toks
  by_cases h0 : 0 ≤ k
  · have hk : k.toNat = j := by
      rw [seqIndex_of h0 h4] at h1
      exact Option.some.inj h1
    exact PySem.W.ki_setAt ho h0 (by omega) (by rw [List.size_toArray, ← hl]; exact h4) (by rw [hk]; exact ⟨_, I', q⟩)
  · have hk : (k + (its.toArray.size : Int)).toNat = j := by
      rw [seqIndex_neg (by omega) h3] at h1
      rw [List.size_toArray, ← hl]
      exact Option.some.inj h1
    exact PySem.W.ki_setBack ho (by omega) (by rw [List.size_toArray, ← hl]; exact h3) (by omega) (by rw [hk]; exact ⟨_, I', q⟩)

/-! ### slices -/
theorem slice_bounds (lo hi : Option Int) (n : Nat) : (sliceBounds lo hi none n).1 = ((HT.sIx n 0 lo : Nat) : Int) ∧ (sliceBounds lo hi none n).2.1 = ((HT.sIx n n hi : Nat) : Int) ∧ (sliceBounds lo hi none n).2.2 = 1 := by
  refine ⟨?_, ?_, rfl⟩
  · cases lo with
    | none => simp [sliceBounds, HT.sIx]
    | some i =>
      simp only [sliceBounds, HT.sIx, Option.getD_none, show (1 : Int) > 0 by decide, if_true]
      by_cases h : i < 0
      · simp only [h, if_true] <;> omega
      · simp only [h, if_false] <;> omega
  · cases hi with
    | none => simp [sliceBounds, HT.sIx]
    | some i =>
      simp only [sliceBounds, HT.sIx, Option.getD_none, show (1 : Int) > 0 by decide, if_true]
      by_cases h : i < 0
      · simp only [h, if_true] <;> omega
      · simp only [h, if_false] <;> omega
theorem slicePick_cut (its : List Value) (lo hi : Option Int) : slicePick its.toArray lo hi none = ((its.drop (HT.sIx its.length 0 lo)).take (HT.sIx its.length its.length hi - HT.sIx its.length 0 lo)).toArray := by
  obtain ⟨h1, h2, h3⟩ := slice_bounds lo hi its.toArray.size
  unfold slicePick
  rw [h1, h2, h3]
  simp only [sliceRange_one, pick_run, List.size_toArray] <;> rfl
/-- xs[lo:hi] of a list: a new list -/
def rSlL (K : PySem.W.Frag) : V → Option Int → Option Int → Hp → VK → Prop := fun x lo hi H Q => ∃ a xs, x = .ref a ∧ SqL K H a xs ∧ ∀ p, H p = none → Q (.ref p) (upd H p (.lst (cutV xs lo hi)))
theorem sl_list : SlR X (rSlL X.K) := by
  intro pins s σ H x v vl vu lo hi sl Q I rx hs pl pu h
  obtain ⟨a, xs, rfl, hx, q⟩ := h
  cases rx
  obtain ⟨its, r, ht, hz⟩ := I.list hx
  have hlen := r.length
  refine ⟨"list", _, slot_list_getitem.lookup, ht.isList.typeIs, ?_⟩
  refine wpAny_getItem_list_slice ht.isList hs pl pu .none (by simp) ?_ (by rw [List.size_toArray] <;> omega)
  rw [slicePick_cut, ← hlen]
  refine ⟨.ref s.heap.objs.size, _, I.laid (t' := s.toks) (o := .lst (cutV xs lo hi)) (fun b ob q => Heap.get?_push_of_some _ q) (Nat.le_refl _) ?_, rfl, q _ (I.hok.fresh (Nat.le_refl _))⟩
  exact ⟨Nat.le_trans (cutV_length xs lo hi) hz, _, 0, (r.drop (HT.sIx xs.length 0 lo)).take (HT.sIx xs.length xs.length hi - HT.sIx xs.length 0 lo), Heap.get?_push_size _ rfl⟩

/-! ### in, not in: flat items -/
def flatV : V → Bool
  | .non => true
  | .bl _ => true
  | .int _ => true
  | .str _ => true
  | _ => false
/-- == of flat values -/
def eqV : V → V → Bool
  | .non, .non => true
  | .bl a, .bl b => a == b
  | .bl a, .int b => (if a then 1 else 0) == b
  | .int a, .bl b => a == (if b then 1 else 0)
  | .int a, .int b => a == b
  | .str a, .str b => a == b
  | _, _ => false
theorem eqAt_V {A : Around} {s : Shared} {y x : V} {u v : Value} (ry : RelV y u) (rx : RelV x v) (fy : flatV y = true) (fx : flatV x = true) : SeqAt.EqAt A s u v (eqV y x) := by
  cases y with
  | non =>
    cases ry
    cases x with
    | non => cases rx; exact SeqAt.EqAt.same _
    | bl b => cases rx; exact SeqAt.EqAt.none_bool b
    | int b => obtain ⟨t, rfl⟩ := rx; exact SeqAt.EqAt.none_int b t
    | str b => obtain ⟨t, rfl⟩ := rx; exact SeqAt.EqAt.none_str b t
    | _ => exact absurd (show false = true from fx) Bool.false_ne_true
  | bl a =>
    cases ry
    cases x with
    | non => cases rx; exact SeqAt.EqAt.bool_none a
    | bl b => cases rx; exact SeqAt.EqAt.bool_bool a b
    | int b => obtain ⟨t, rfl⟩ := rx; exact SeqAt.EqAt.bool_int a b t
    | str b => obtain ⟨t, rfl⟩ := rx; exact SeqAt.EqAt.bool_str a b t
    | _ => exact absurd (show false = true from fx) Bool.false_ne_true
  | int a =>
    obtain ⟨t', rfl⟩ := ry
    cases x with
    | non => cases rx; exact SeqAt.EqAt.int_none a t'
    | bl b => cases rx; exact SeqAt.EqAt.int_bool a t' b
    | int b => obtain ⟨t, rfl⟩ := rx; exact SeqAt.EqAt.int_int a t' b t
    | str b => obtain ⟨t, rfl⟩ := rx; exact SeqAt.EqAt.int_str a t' b t
    | _ => exact absurd (show false = true from fx) Bool.false_ne_true
  | str a =>
    obtain ⟨t', rfl⟩ := ry
    cases x with
    | non => cases rx; exact SeqAt.EqAt.str_none a t'
    | bl b => cases rx; exact SeqAt.EqAt.str_bool a t' b
    | int b => obtain ⟨t, rfl⟩ := rx; exact SeqAt.EqAt.str_int a t' b t
    | str b => obtain ⟨t, rfl⟩ := rx; exact SeqAt.EqAt.str_str a t' b t
    | _ => exact absurd (show false = true from fx) Bool.false_ne_true
  | _ => exact absurd (show false = true from fy) Bool.false_ne_true
/-- the items' answers, read off the values (a value's own answer does not lean on its token) -/
def eqU (x : V) (u : Value) : Bool := match u with
  | .none => eqV .non x
  | .bool b => eqV (.bl b) x
  | .int i _ => eqV (.int i) x
  | .str z _ => eqV (.str z) x
  | _ => false
theorem eqU_of {x y : V} {u : Value} (r : RelV y u) (f : flatV y = true) : eqU x u = eqV y x := by
  cases y with
  | non => cases r; rfl
  | bl b => cases r; rfl
  | int i => obtain ⟨t, rfl⟩ := r; rfl
  | str z => obtain ⟨t, rfl⟩ := r; rfl
  | _ => exact absurd (show false = true from f) Bool.false_ne_true
theorem any_eqU {x : V} : ∀ {xs : List V} {us : List Value}, Vals xs us → xs.all flatV = true → us.any (eqU x) = xs.any fun y => eqV y x
  | _, _, .nil, _ => rfl
  | y :: xs, u :: us, .cons r t, f => by
    rw [List.all_cons, Bool.and_eq_true] at f
    rw [List.any_cons, List.any_cons, eqU_of r f.1, any_eqU t f.2]
theorem mem_eqAt {A : Around} {s : Shared} {x : V} {v : Value} (rx : RelV x v) (fx : flatV x = true) : ∀ {xs : List V} {us : List Value}, Vals xs us → xs.all flatV = true → ∀ u ∈ us, SeqAt.EqAt A s u v (eqU x u)
  | _, _, .nil, _ => fun u hu => by cases hu
  | y :: xs, u :: us, .cons r t, f => fun u' hu => by
    rw [List.all_cons, Bool.and_eq_true] at f
    rcases List.mem_cons.mp hu with rfl | hu
    · rw [eqU_of r f.1]; exact eqAt_V r rx f.1 fx
    · exact mem_eqAt rx fx t f.2 u' hu
def inV (x : V) (xs : List V) : Bool := xs.any fun y => eqV y x
/-- x in a list or tuple of flat items -/
def rIn (K : PySem.W.Frag) (neg : Bool) : R2 := fun x y H Q => ∃ p xs, y = .ref p ∧ (SqL K H p xs ∨ SqT K H p xs) ∧ flatV x = true ∧ xs.all flatV = true ∧ Q (.bl (if neg then !inV x xs else inV x xs)) H
theorem op_in_seq : OpR X (compareOp .In) (rIn X.K false) := by
  intro pins s σ H x y v u Q I rx ry h
  obtain ⟨p, xs, rfl, hq, fx, fs, q⟩ := h
  cases ry
  rcases hq with hq | hq
  · obtain ⟨its, r, pl, hz⟩ := I.list hq
    refine SeqAt.in_listAt (eqU x) pl.isList (fun w hw => mem_eqAt rx fx r fs w (by simpa using hw)) ⟨.bl _, H, I, rfl, ?_⟩
    rw [show its.toArray.any (eqU x) = its.any (eqU x) by simp, any_eqU r fs]
    exact q
  · obtain ⟨its, r, pl, hz⟩ := I.tuple hq
    refine SeqAt.in_tupleAt (eqU x) pl (fun w hw => mem_eqAt rx fx r fs w (by simpa using hw)) ⟨.bl _, H, I, rfl, ?_⟩
    rw [show its.toArray.any (eqU x) = its.any (eqU x) by simp, any_eqU r fs]
    exact q
theorem op_notIn_seq : OpR X (compareOp .NotIn) (rIn X.K true) := by
  intro pins s σ H x y v u Q I rx ry h
  obtain ⟨p, xs, rfl, hq, fx, fs, q⟩ := h
  cases ry
  rcases hq with hq | hq
  · obtain ⟨its, r, pl, hz⟩ := I.list hq
    refine SeqAt.notIn_listAt (eqU x) pl.isList (fun w hw => mem_eqAt rx fx r fs w (by simpa using hw)) ⟨.bl _, H, I, rfl, ?_⟩
    rw [show its.toArray.any (eqU x) = its.any (eqU x) by simp, any_eqU r fs]
    exact q
  · obtain ⟨its, r, pl, hz⟩ := I.tuple hq
    refine SeqAt.notIn_tupleAt (eqU x) pl (fun w hw => mem_eqAt rx fx r fs w (by simpa using hw)) ⟨.bl _, H, I, rfl, ?_⟩
    rw [show its.toArray.any (eqU x) = its.any (eqU x) by simp, any_eqU r fs]
    exact q
theorem op_notIn_str : OpR X (compareOp .NotIn) (fun x y H Q => ∃ i j, x = .str i ∧ y = .str j ∧ Q (.bl (!(!(Builtin.Str.occurrences j i 0 j.length 1).isEmpty))) H) := by
  intro pins s σ H x y v u Q I rx ry h
  obtain ⟨i, j, rfl, rfl, q⟩ := h
  obtain ⟨t, rfl⟩ := rx
  obtain ⟨t', rfl⟩ := ry
  exact notIn_str ⟨.bl _, H, I, rfl, q⟩

/-! ### len, list(x), tuple(x) of any list or tuple that is read -/
theorem call_len_seq : CallR X (.builtin "len") (fun xs H Q => ∃ p ys, xs = [.ref p] ∧ (SqL X.K H p ys ∨ SqT X.K H p ys) ∧ Q (.int ys.length) H) := by
  intro pins s σ H xs us Q I r h
  obtain ⟨p, ys, rfl, hq, q⟩ := h
  obtain ⟨u, rfl, rx⟩ := vals1 r
  cases rx
  have hn := line63
  rcases hq with hq | hq
  · obtain ⟨its, r', pl, hz⟩ := I.list hq
    have hlen := r'.length
    exact Calls.call_len_list pl.isList (by simp only [List.size_toArray] <;> omega) ⟨.int ys.length, H, I.tok _, ⟨s.toks + 1, by rw [List.size_toArray, hlen]⟩, q⟩
  · obtain ⟨its, r', pl, hz⟩ := I.tuple hq
    have hlen := r'.length
    exact len_tuple pl (by simp only [List.size_toArray] <;> omega) ⟨.int ys.length, H, I.tok _, ⟨s.toks + 1, by rw [List.size_toArray, hlen]⟩, q⟩
theorem call_len_str : CallR X (.builtin "len") (fun xs H Q => ∃ z, xs = [.str z] ∧ z.length ≤ sizeLine ∧ Q (.int z.length) H) := by
  intro pins s σ H xs us Q I r h
  obtain ⟨z, rfl, hz, q⟩ := h
  obtain ⟨u, rfl, t, rfl⟩ := vals1 r
  have hn := line63
  exact len_str (by omega) ⟨.int z.length, H, I.tok _, ⟨_, rfl⟩, q⟩
theorem CallR.or {f : Value} {r r' : List V → Hp → VK → Prop} (h : CallR X f r) (h' : CallR X f r') : CallR X f (fun xs H Q => r xs H Q ∨ r' xs H Q) := by
  intro pins s σ H xs us Q I rs q
  rcases q with q | q
  · exact h pins s σ H xs us Q I rs q
  · exact h' pins s σ H xs us Q I rs q
theorem call_list_of : CallR X (.type "list") (fun xs H Q => ∃ p ys, xs = [.ref p] ∧ (SqL X.K H p ys ∨ SqT X.K H p ys) ∧ ∀ l, H l = none → Q (.ref l) (upd H l (.lst ys))) := by
  intro pins s σ H xs us Q I r h
  obtain ⟨p, ys, rfl, hq, q⟩ := h
  obtain ⟨u, rfl, rx⟩ := vals1 r
  cases rx
  have fin : ∀ (its : List Value), Vals ys its → ys.length ≤ sizeLine → ∀ (h' : Heap) (c' : Nat), (∀ b o', s.heap.get? b = some o' → h'.get? b = some o') →
      h'.get? s.heap.objs.size = some { cls := .type "list", dict := none, data := .seq its.toArray c', slots := #[] } → EP X pins σ Q (.ref s.heap.objs.size) { s with heap := h' } := fun its r' hz h' c' kp e =>
    ⟨.ref s.heap.objs.size, _, I.laid (t' := s.toks) kp (Nat.le_refl _) (show ObjOk X.prog X.w _ h' _ (.lst ys) from ⟨hz, its, c', r', e⟩), rfl, q _ (I.hok.fresh (Nat.le_refl _))⟩
  rcases hq with hq | hq
  · obtain ⟨its, r', pl, hz⟩ := I.list hq
    have hlen := r'.length
    obtain ⟨o, ho, hc, n, hd⟩ := pl.isList
    exact call_list_seq p (.inl rfl) ho hc hd (fun h' c' kp e => fin its r' hz h' c' kp e) (by simp only [List.size_toArray] <;> omega)
  · obtain ⟨its, r', pl, hz⟩ := I.tuple hq
    have hlen := r'.length
    obtain ⟨o, ho, hc, n, hd⟩ := pl
    exact call_list_seq p (.inr rfl) ho hc hd (fun h' c' kp e => fin its r' hz h' c' kp e) (by simp only [List.size_toArray] <;> omega)
theorem call_tuple_of : CallR X (.type "tuple") (fun xs H Q => ∃ p ys, xs = [.ref p] ∧ ((SqL X.K H p ys ∧ ∀ l, H l = none → Q (.ref l) (upd H l (.tup ys))) ∨ (SqT X.K H p ys ∧ Q (.ref p) H))) := by
  intro pins s σ H xs us Q I r h
  obtain ⟨p, ys, rfl, h⟩ := h
  obtain ⟨u, rfl, rx⟩ := vals1 r
  cases rx
  rcases h with ⟨hq, q⟩ | ⟨hq, q⟩
  · obtain ⟨its, r', pl, hz⟩ := I.list hq
    have hlen := r'.length
    refine call_tuple_list pl.isList (fun h' kp => ?_) (by simp only [List.size_toArray] <;> omega)
    have I1 : Inv X pins σ H { s with heap := h' } := I.kept (t' := s.toks) kp
    have I2 : Inv X pins σ (upd H h'.objs.size (.tup ys)) { s with heap := h'.push { cls := .type "tuple", data := .seq its.toArray } } :=
      I1.laid (t' := s.toks) (fun b o e => Heap.get?_push_of_some _ e) (Nat.le_refl _) (show ObjOk X.prog X.w _ _ _ (.tup ys) from ⟨hz, its, r', IsTup.new _ _⟩)
    exact ⟨.ref h'.objs.size, _, I2, rfl, q _ (I1.hok.fresh (Nat.le_refl _))⟩
  · obtain ⟨its, r', pl, hz⟩ := I.tuple hq
    exact call_tuple_same pl ⟨.ref p, H, I, rfl, q⟩

/-! ### the call of a builtin's method: o.m(..) -/
/-- the value is of that builtin type -/
def tyV (K : PySem.W.Frag) (T : String) (x : V) (H : Hp) : Prop := match x with
  | .str _ => T = "str"
  | .int _ => T = "int"
  | .ref p => (T = "list" ∧ ∃ xs, SqL K H p xs) ∨ (T = "tuple" ∧ ∃ o, K.lookup p = some o ∧ o.cls = .type "tuple" ∧ o.dict = none) ∨
      (T = "dict" ∧ ((∃ kvs, H p = some (.dK kvs)) ∨ ∃ kvs, H p = some (.dT kvs))) ∨ (T = "set" ∧ ∃ S n, H p = some (.set S n))
  | _ => False
theorem tyV_is {pins : List (Addr × Obj)} {σ : St} {H : Hp} {s : Shared} {T : String} {x : V} {v : Value} (I : Inv X pins σ H s) (r : RelV x v) (ty : tyV X.K T x H) :
    s.TypeIs v T ∧ ∀ a, v = .ref a → ∃ ob, s.heap.get? a = some ob ∧ ob.dict = none := by
  cases x with
  | str z =>
    obtain ⟨t, rfl⟩ := r
    cases (show T = "str" from ty)
    exact ⟨typeIs_str s z t, fun _ e => nomatch e⟩
  | int i =>
    obtain ⟨t, rfl⟩ := r
    cases (show T = "int" from ty)
    exact ⟨typeIs_int s i t, fun _ e => nomatch e⟩
  | ref p =>
    cases r
    rcases ty with ⟨rfl, xs, hq⟩ | ⟨rfl, o, hk, hc, hd⟩ | ⟨rfl, hk⟩ | ⟨rfl, S, n, hk⟩
    · obtain ⟨its, _, pl, _⟩ := I.list hq
      refine ⟨pl.isList.typeIs, fun a e => ?_⟩
      cases e
      obtain ⟨o, n, e, c, hd, _⟩ := pl
      exact ⟨o, e, hd⟩
    · refine ⟨⟨o, I.kIn p o hk, hc⟩, fun a e => ?_⟩
      cases e
      exact ⟨o, I.kIn _ o hk, hd⟩
    · have z : ∃ o, s.heap.get? p = some o ∧ o.ExactDict := by
        rcases hk with ⟨kvs, hk⟩ | ⟨kvs, hk⟩
        · obtain ⟨_, _, _, _, o, _, _, e, ex, _⟩ := I.hok p _ hk
          exact ⟨o, e, ex⟩
        · obtain ⟨_, _, _, _, o, _, _, e, ex, _⟩ := I.hok p _ hk
          exact ⟨o, e, ex⟩
      obtain ⟨o, e, ex⟩ := z
      refine ⟨⟨o, e, ex.1⟩, fun a e2 => ?_⟩
      cases e2
      exact ⟨o, e, ex.2.1⟩
    · obtain ⟨o, _, _, _, e, ex, _⟩ := I.hok p _ hk
      refine ⟨⟨o, e, ex.1⟩, fun a e2 => ?_⟩
      cases e2
      exact ⟨o, e, ex.2.1⟩
  | _ => exact False.elim ty
def tBM0 (K : PySem.W.Frag) (T : String) (r : V → List V → Hp → VK → Prop) (to : TE) : TE := fun σ H Q => to σ H fun x H1 => tyV K T x H1 ∧ r x [] H1 Q
def tBM (K : PySem.W.Frag) (T : String) (r : V → List V → Hp → VK → Prop) (to : TE) (t : TA) : TE := fun σ H Q => to σ H fun x H1 => tyV K T x H1 ∧ t σ H1 fun xs H2 => r x xs H2 Q
variable {o e : Expr} {es : List Expr} {to : TE} {t : TA} {name : Str} {apos cpos : Pos} {T id : String} {r : V → List V → Hp → VK → Prop}
theorem pe_bm0 (pa : PlainAttrs T) (slot : Slot T name id) (hty : typeOf (.builtin id) = pure (.type "method_descriptor")) (hm : MtR X id r) (ho : PE X o to)
    (hbase : attributeBase o name X.env (eval o X.env) = eval o X.env := by rfl) (hline : (apos.endLine == cpos.line) = true := by rfl) : PE X (.Call (.Attribute o name apos) [] [] cpos) (tBM0 X.K T r to) := by
  intro pins s σ H Q I h
  refine wpAny_Call_method0_late hbase hline (thn (ho pins s σ H _ I h) fun v s1 ⟨x, H1, I1, r1, ty, q1⟩ => ?_)
  obtain ⟨h1, h2⟩ := tyV_is I1 r1 ty
  exact ⟨T, id, pa, slot, hty, h1, h2, Calls.callWith_builtin rfl (PySem.evalArgs_none (hm pins s1 σ H1 x [] v [] Q I1 r1 .nil q1))⟩
theorem pe_bm (pa : PlainAttrs T) (slot : Slot T name id) (hty : typeOf (.builtin id) = pure (.type "method_descriptor")) (hm : MtR X id r) (ho : PE X o to) (ha : PA X (e :: es) t)
    (hbase : attributeBase o name X.env (eval o X.env) = eval o X.env := by rfl)
    (hfew : ((backTo cpos (starEach (e :: es) X.env)).all (fun x => !x.1) && (backToKw cpos (keywordEach [] X.env)).all (fun x => x.1.isSome)
      && decide ((e :: es).length + ([] : List Keyword).length + (if ([] : List Keyword).isEmpty then 0 else 1) < 30)) = true := by rfl)
    (hline : (apos.endLine == cpos.line) = true := by rfl) (hs : starEach (e :: es) X.env = (false, eval e X.env) :: starEach es X.env := by rfl) (hplain : (backTo cpos (starEach es X.env)).any (·.1) = false := by rfl) :
    PE X (.Call (.Attribute o name apos) (e :: es) [] cpos) (tBM X.K T r to t) := by
  intro pins s σ H Q I h
  refine wpAny_Call_method_late hbase hfew hline rfl (thn (ho pins s σ H _ I h) fun v s1 ⟨x, H1, I1, r1, ty, q1⟩ => ?_)
  obtain ⟨h1, h2⟩ := tyV_is I1 r1 ty
  refine ⟨T, id, pa, slot, hty, h1, h2, ?_⟩
  have hA := ha cpos pins s1 σ H1 _ I1 q1
  rw [hs] at hA ⊢
  refine Calls.callWith_builtin (by show (false || (backTo cpos (starEach es X.env)).any (·.1)) = false; rw [hplain] <;> rfl) (Calls.evalArgs_plain ?_)
  exact thn hA fun us s2 ⟨vs, H2, I2, r2, q2⟩ => hm pins s2 σ H2 x vs v us Q I2 r1 r2 q2
/- xs.append(e), list.index on a module's tuple .. are MtR facts of 06m -/
end
end L2

namespace L2
open PySem PySem.Spec PyProof.Rows

def MtM (X : Cx) (id : String) (r : V → List V → Hp → VK → Prop) : Prop :=
  ∀ (pins : List (Addr × Obj)) (s : Shared) (σ : St) (H : Hp) (x : V) (xs : List V) (v : Value) (us : List Value) (Q : VK), Inv X pins σ H s → RelV x v → Vals xs us → r x xs H Q →
    wpAny (model X.prog X.w) X.A (call (.builtin id) (v :: us)) (EP X pins σ Q) X.xe s

/-! ### lists of values -/
theorem Vals.one : ∀ {x : V} {us : List Value}, Vals [x] us → ∃ u, us = [u] ∧ RelV x u
  | _, _, .cons r .nil => ⟨_, rfl, r⟩
theorem Vals.two : ∀ {x y : V} {us : List Value}, Vals [x, y] us → ∃ u v, us = [u, v] ∧ RelV x u ∧ RelV y v
  | _, _, _, .cons r (.cons q .nil) => ⟨_, _, rfl, r, q⟩
theorem Vals.zero : ∀ {us : List Value}, Vals [] us → us = []
  | _, .nil => rfl
theorem Vals.dropLast {xs : List V} {us : List Value} (h : Vals xs us) : Vals xs.dropLast us.dropLast := by
  induction h with
  | nil => exact .nil
  | cons r t ih =>
    cases t with
    | nil => exact .nil
    | cons q t' => exact .cons r ih
theorem Vals.eraseIdx : ∀ {xs : List V} {us : List Value} (i : Nat), Vals xs us → Vals (xs.eraseIdx i) (us.eraseIdx i)
  | _, _, _, .nil => .nil
  | _, _, 0, .cons _ t => t
  | _, _, i + 1, .cons r t => .cons r (Vals.eraseIdx i t)
theorem Vals.reverse {xs : List V} {us : List Value} (h : Vals xs us) : Vals xs.reverse us.reverse := by
  induction h with
  | nil => exact .nil
  | cons r t ih => rw [List.reverse_cons, List.reverse_cons]; exact Vals.append ih (.cons r .nil)
theorem Vals.rep {xs : List V} {us : List Value} (h : Vals xs us) : ∀ k : Nat, Vals (List.replicate k xs).flatten (List.replicate k us).flatten
  | 0 => .nil
  | k + 1 => by
    rw [List.replicate_succ, List.replicate_succ, List.flatten_cons, List.flatten_cons]
    exact Vals.append h (Vals.rep h k)
theorem erase_last {α : Type} (l : List α) : l.eraseIdx (l.length - 1) = l.dropLast := by
  induction l with
  | nil => rfl
  | cons a r ih =>
    cases r with
    | nil => rfl
    | cons b r =>
      have e : (a :: b :: r).length - 1 = ((b :: r).length - 1) + 1 := by
        have h1 : (a :: b :: r).length = r.length + 2 := rfl
        have h2 : (b :: r).length = r.length + 1 := rfl
        omega
      rw [e, List.eraseIdx_cons_succ, ih]
      all_goals rfl
theorem len_erase {α : Type} : ∀ (l : List α) (i : Nat), (l.eraseIdx i).length ≤ l.length
  | [], _ => Nat.le_refl _
  | _ :: _, 0 => Nat.le_succ _
  | _ :: r, i + 1 => Nat.succ_le_succ (len_erase r i)
theorem foldl_rep (its : List Value) : ∀ (k : Nat) (acc : List Value),
    List.foldl (fun x1 x2 => x1 ++ x2) acc.toArray (List.replicate k its.toArray) = (acc ++ (List.replicate k its).flatten).toArray
  | 0, acc => by simp
  | k + 1, acc => by
    have e : acc.toArray ++ its.toArray = (acc ++ its).toArray := by simp
    have e2 : (acc ++ its) ++ (List.replicate k its).flatten = acc ++ (List.replicate (k + 1) its).flatten := by
      rw [List.replicate_succ, List.flatten_cons, List.append_assoc]
    rw [← e2, ← foldl_rep its k (acc ++ its), ← e, List.replicate_succ, List.foldl_cons]

section
variable {X : Cx} {pins : List (Addr × Obj)} {σ : St} {H : Hp} {s : Shared} {l b : Addr} {xs ys zs : List V}

/-! ### the two steps: a tracked list is rewritten, a new list is laid -/
theorem Inv.lset {its its' : List Value} {n : Nat} {f : Array Value → Array Value} {t' : Nat} (I : Inv X pins σ H s) (hH : H l = some (.lst xs))
    (e : s.heap.get? l = some { cls := .type "list", data := .seq its.toArray n }) (hf : f its.toArray = its'.toArray) (hv : Vals ys its') (hz : ys.length ≤ sizeLine) :
    Inv X pins σ (upd H l (.lst ys)) { s with heap := s.heap.update l (Obj.mapSeq f), toks := t' } := by
  have q := PySem.IsL.update e f
  rw [hf] at q
  refine I.write (x := l) (e := l) (by rw [hH]; exact trivial) (.inl rfl) (fun b' u hb hu => (Heap.get?_update_other s.heap (Obj.mapSeq f) (Ne.symm hb)).trans hu) ⟨_, q⟩ ?_
  exact ⟨hz, its', _, hv, q⟩
theorem Inv.lnew {its : List Value} {t' : Nat} (I : Inv X pins σ H s) (hv : Vals ys its) (hz : ys.length ≤ sizeLine) :
    Inv X pins σ (upd H s.heap.objs.size (.lst ys)) { s with heap := s.heap.push { cls := .type "list", data := .seq its.toArray }, toks := t' } :=
  I.laid (fun _ _ q => Heap.get?_push_of_some _ q) (Nat.le_refl _) ⟨hz, its, 0, hv, Heap.get?_push_size _ rfl⟩
theorem Inv.fresh (I : Inv X pins σ H s) : H s.heap.objs.size = none := I.hok.fresh (Nat.le_refl _)
theorem Inv.lstM (I : Inv X pins σ H s) (hH : H l = some (.lst xs)) : xs.length ≤ sizeLine ∧ ∃ (its : List Value) (n : Nat), Vals xs its ∧ xs.length = its.length ∧ s.heap.get? l = some { cls := .type "list", data := .seq its.toArray n } := by
  obtain ⟨z, its, n, r, e⟩ := I.hok l _ hH
  exact ⟨z, its, n, r, r.length, e⟩

theorem notLongL {n : Nat} (h : n ≤ sizeLine) : Builtin.List.listTooLong n = false := by
  unfold Builtin.List.listTooLong
  exact decide_eq_false (by omega)
end

section
variable {X : Cx}

/-! ### methods -/
def rAppend : V → List V → Hp → VK → Prop := fun x vs H Q => ∃ l xs y, x = .ref l ∧ vs = [y] ∧ H l = some (.lst xs) ∧ xs.length < sizeLine ∧ Q .non (upd H l (.lst (xs ++ [y])))
theorem mt_append : MtM X "list.append" rAppend := by
  intro pins s σ H x vs v us Q I rx rv h
  obtain ⟨l, xs, y, rfl, rfl, hH, hz, q⟩ := h
  cases rx
  obtain ⟨u, rfl, ru⟩ := rv.one
  obtain ⟨z, its, n, r, hl, e⟩ := I.lstM hH
  refine call_meets F.slot_list_append ⟨_, e, rfl⟩ F.entry_list_append (F.args_list_append_2 _ _) (PySem.list_append l its.toArray n u (by rw [List.size_toArray]; omega)) ⟨e, ?_⟩
  refine ⟨.non, _, I.lset (its' := its ++ [u]) hH e (by simp) (r.append (.cons ru .nil)) ?_, rfl, q⟩
  rw [List.length_append, List.length_singleton]
  omega

def rExtend : V → List V → Hp → VK → Prop := fun x vs H Q => ∃ l b xs zs, x = .ref l ∧ vs = [.ref b] ∧ H l = some (.lst xs) ∧ H b = some (.lst zs) ∧ xs.length + zs.length ≤ sizeLine ∧ Q .non (upd H l (.lst (xs ++ zs)))
theorem mt_extend : MtM X "list.extend" rExtend := by
  intro pins s σ H x vs v us Q I rx rv h
  obtain ⟨l, b, xs, zs, rfl, rfl, hH, hB, hz, q⟩ := h
  cases rx
  obtain ⟨u, rfl, ru⟩ := rv.one
  cases ru
  obtain ⟨z, its, n, r, hl, e⟩ := I.lstM hH
  obtain ⟨z2, its2, n2, r2, hl2, e2⟩ := I.lstM hB
  have hsz : its.toArray.size + its2.toArray.size ≤ sizeLine := by rw [List.size_toArray, List.size_toArray]; omega
  have hlong : ¬ (!its.toArray.isEmpty && Builtin.List.listTooLong (its.toArray.size + its2.toArray.size)) = true := by
    rw [notLongL hsz, Bool.and_false]
    exact Bool.false_ne_true
  refine call_meets F.slot_list_extend ⟨_, e, rfl⟩ F.entry_list_extend (F.args_list_extend_2 _ _)
    (AutoSeq1.list_extend_list_list_0 l its.toArray n b its2.toArray n2 hlong (by rw [List.size_toArray]; omega) (by omega)) ⟨e, e2, ?_⟩
  refine ⟨.non, _, I.lset (its' := its ++ its2) hH e (by simp) (r.append r2) ?_, rfl, q⟩
  rw [List.length_append]
  omega

def rPop : V → List V → Hp → VK → Prop := fun x vs H Q => ∃ l xs y, x = .ref l ∧ vs = [] ∧ H l = some (.lst xs) ∧ xs[xs.length - 1]? = some y ∧ Q y (upd H l (.lst xs.dropLast))
theorem mt_pop : MtM X "list.pop" rPop := by
  intro pins s σ H x vs v us Q I rx rv h
  obtain ⟨l, xs, y, rfl, rfl, hH, hy, q⟩ := h
  cases rx
  have hus := rv.zero
  subst hus
  obtain ⟨z, its, n, r, hl, e⟩ := I.lstM hH
  obtain ⟨u, hu, ru⟩ := r.get hy
  have hy' : its.toArray[its.toArray.size - 1]? = some u := by
    show its.toArray[its.length - 1]? = some u
    rw [← Array.getElem?_toList, ← hl]
    exact hu
  refine call_meets F.slot_list_pop ⟨_, e, rfl⟩ F.entry_list_pop (F.args_list_pop_1 _) (MeetsSeq.list_pop_last l its.toArray n u hy' (by rw [List.size_toArray]; omega)) ⟨e, ?_⟩
  refine ⟨y, _, I.lset (its' := its.dropLast) hH e ?_ r.dropLast ?_, ru, q⟩
  · show its.toArray.eraseIdxIfInBounds (its.toArray.size - 1) = its.dropLast.toArray
    rw [List.size_toArray, List.eraseIdxIfInBounds_toArray, erase_last]
  · rw [List.length_dropLast]
    omega

def rPopAt : V → List V → Hp → VK → Prop := fun x vs H Q => ∃ l xs i k y, x = .ref l ∧ vs = [.int i] ∧ H l = some (.lst xs) ∧ -(2 ^ 63) ≤ i ∧ i < 2 ^ 63 ∧ seqIndex? i xs.length = some k ∧ xs[k]? = some y ∧ Q y (upd H l (.lst (xs.eraseIdx k)))
theorem mt_popAt : MtM X "list.pop" rPopAt := by
  intro pins s σ H x vs v us Q I rx rv h
  obtain ⟨l, xs, i, k, y, rfl, rfl, hH, h1, h2, hk, hy, q⟩ := h
  cases rx
  obtain ⟨u, rfl, ru⟩ := rv.one
  obtain ⟨t, rfl⟩ := ru
  obtain ⟨z, its, n, r, hl, e⟩ := I.lstM hH
  obtain ⟨w, hw, rw'⟩ := r.get hy
  refine call_meets F.slot_list_pop ⟨_, e, rfl⟩ F.entry_list_pop (F.args_list_pop_2 _ _)
    (MeetsSeq.list_pop_at l its.toArray n i t k w (fitsIndex_both h1 h2) (by rw [List.size_toArray, ← hl]; exact hk) (by rw [← Array.getElem?_toList]; exact hw) (by rw [List.size_toArray]; omega)) ⟨e, ?_⟩
  refine ⟨y, _, I.lset (its' := its.eraseIdx k) hH e ?_ (r.eraseIdx k) ?_, rw', q⟩
  · show its.toArray.eraseIdxIfInBounds k = (its.eraseIdx k).toArray
    rw [List.eraseIdxIfInBounds_toArray]
  · have := len_erase xs k
    omega

def rReverse : V → List V → Hp → VK → Prop := fun x vs H Q => ∃ l xs, x = .ref l ∧ vs = [] ∧ H l = some (.lst xs) ∧ Q .non (upd H l (.lst xs.reverse))
theorem mt_reverse : MtM X "list.reverse" rReverse := by
  intro pins s σ H x vs v us Q I rx rv h
  obtain ⟨l, xs, rfl, rfl, hH, q⟩ := h
  cases rx
  have hus := rv.zero
  subst hus
  obtain ⟨z, its, n, r, hl, e⟩ := I.lstM hH
  refine call_meets F.slot_list_reverse ⟨_, e, rfl⟩ F.entry_list_reverse (F.args_list_reverse_1 _) (AutoSeq1.list_reverse_list_0 l its.toArray n (by rw [List.size_toArray]; omega)) ⟨e, ?_⟩
  refine ⟨.non, _, I.lset (its' := its.reverse) hH e (by simp) r.reverse ?_, rfl, q⟩
  rw [List.length_reverse]
  omega

def rClear : V → List V → Hp → VK → Prop := fun x vs H Q => ∃ l xs, x = .ref l ∧ vs = [] ∧ H l = some (.lst xs) ∧ Q .non (upd H l (.lst []))
theorem mt_clear : MtM X "list.clear" rClear := by
  intro pins s σ H x vs v us Q I rx rv h
  obtain ⟨l, xs, rfl, rfl, hH, q⟩ := h
  cases rx
  have hus := rv.zero
  subst hus
  obtain ⟨z, its, n, r, hl, e⟩ := I.lstM hH
  refine call_meets F.slot_list_clear ⟨_, e, rfl⟩ F.entry_list_clear (F.args_list_clear_1 _) (AutoSeq1.list_clear_list_0 l its.toArray n (by rw [List.size_toArray]; omega)) ⟨e, ?_⟩
  exact ⟨.non, _, I.lset (its' := []) (ys := []) hH e rfl .nil (Nat.zero_le _), rfl, q⟩

/-! ### list + list, list += list, list * int -/
def rCat : R2 := fun x y H Q => ∃ l b xs zs, x = .ref l ∧ y = .ref b ∧ H l = some (.lst xs) ∧ H b = some (.lst zs) ∧ xs.length + zs.length ≤ sizeLine ∧ ∀ p, H p = none → Q (.ref p) (upd H p (.lst (xs ++ zs)))
theorem op_cat : OpR X (binaryOp .Add) rCat := by
  intro pins s σ H x y v u Q I rx ry h
  obtain ⟨l, b, xs, zs, rfl, rfl, hH, hB, hz, q⟩ := h
  cases rx
  cases ry
  obtain ⟨z, its, n, r, hl, e⟩ := I.lstM hH
  obtain ⟨z2, its2, n2, r2, hl2, e2⟩ := I.lstM hB
  refine PySem.P.add_list e e2 ?_ (by rw [List.size_toArray, List.size_toArray]; omega)
  have ea : its.toArray ++ its2.toArray = (its ++ its2).toArray := by simp
  rw [ea]
  exact ⟨.ref _, _, I.lnew (t' := s.toks) (r.append r2) (by rw [List.length_append]; omega), rfl, q _ I.fresh⟩
/-- a list times an int (a negative one is nothing) -/
def rRep : R2 := fun x y H Q => ∃ l k xs, x = .ref l ∧ y = .int k ∧ H l = some (.lst xs) ∧ -(2 ^ 63) ≤ k ∧ k < 2 ^ 63 ∧ xs.length * k.toNat ≤ sizeLine ∧
  ∀ p, H p = none → Q (.ref p) (upd H p (.lst (List.replicate k.toNat xs).flatten))
theorem len_rep {α : Type} (xs : List α) (k : Nat) : (List.replicate k xs).flatten.length = k * xs.length := by
  induction k with
  | zero => simp
  | succ k ih => rw [List.replicate_succ, List.flatten_cons, List.length_append, ih, Nat.succ_mul, Nat.add_comm]
theorem op_rep : OpR X (binaryOp .Mult) rRep := by
  intro pins s σ H x y v u Q I rx ry h
  obtain ⟨l, k, xs, rfl, rfl, hH, h1, h2, hz, q⟩ := h
  cases rx
  obtain ⟨t, rfl⟩ := ry
  obtain ⟨z, its, n, r, hl, e⟩ := I.lstM hH
  have hlen : its.toArray.size * k.toNat ≤ sizeLine := by rw [List.size_toArray, ← hl]; exact hz
  have hcap : ¬ its.toArray.size * k.toNat > (2 ^ 63 - 1) / 8 := by
    have : (sizeLine : Nat) ≤ (2 ^ 63 - 1) / 8 := by decide
    omega
  have hfit : ¬ (!Builtin.List.listFitsIndex k) = true := by
    rw [fitsIndex_both h1 h2]
    exact Bool.false_ne_true
  have hlong : ¬ Builtin.List.listTooLong (its.toArray.size * k.toNat) = true := by
    rw [notLongL hlen]
    exact Bool.false_ne_true
  have hnew : List.foldl (fun x1 x2 => x1 ++ x2) #[] (List.replicate (if its.toArray.isEmpty = true then 0 else k.toNat) its.toArray) = (List.replicate k.toNat its).flatten.toArray := by
    have f0 : ∀ m : Nat, List.foldl (fun x1 x2 => x1 ++ x2) #[] (List.replicate m its.toArray) = (List.replicate m its).flatten.toArray := fun m => by
      have := foldl_rep its m []
      rw [List.nil_append] at this
      exact this
    rw [f0]
    cases its with
    | nil => simp
    | cons a r' => rw [if_neg (by simp)]
  refine wpAny_binaryOp_repeat_ref (T := "list") (U := "int") (by decide) ⟨_, e, rfl⟩ (fun s' => typeIs_int s' k t) noFill_list_mul F.fills_int_mul F.slot_int_rmul repeat_list F.slot_int_index.lookup
    (call_meets F.slot_int_rmul (typeIs_int s k t) F.entry_int_rmul (F.args_int_rmul_2 _ _) (int___rmul___int_list k t l its.toArray n)
      ⟨e, rfl, ⟨_, e, rfl⟩, call_meets F.slot_list_mul ⟨_, e, rfl⟩ F.entry_list_mul (F.args_list_mul_2 _ _) (AutoListH.list___mul___list_int_3 l its.toArray n k t hfit hcap hlong) ⟨e, ?_⟩⟩)
  rw [hnew]
  exact ⟨.ref _, _, I.lnew (t' := s.toks) (r.rep k.toNat) (by rw [len_rep, Nat.mul_comm]; exact hz), rfl, q _ I.fresh⟩

/-! ### del xs[i] -/
theorem del_list {pins : List (Addr × Obj)} {s : Shared} {σ : St} {H : Hp} {l : Addr} {xs : List V} {i : Int} {t : Tok} {k : Nat} {Q : Unit → Shared → Prop} (I : Inv X pins σ H s) (hH : H l = some (.lst xs))
    (h1 : -(2 ^ 63) ≤ i) (h2 : i < 2 ^ 63) (hk : seqIndex? i xs.length = some k) (h : ∀ s', Inv X pins σ (upd H l (.lst (xs.eraseIdx k))) s' → Q () s') :
    wpAny (model X.prog X.w) X.A (delItem (.ref l) (.int i t)) Q X.xe s := by
  obtain ⟨z, its, n, r, hl, e⟩ := I.lstM hH
  refine PySem.P.delItem_list (k := k) e (fitsIndex_both h1 h2) (by rw [List.size_toArray, ← hl]; exact hk) (h _ ?_) (by rw [List.size_toArray]; omega)
  refine I.lset (its' := its.eraseIdx k) (t' := s.toks) hH e ?_ (r.eraseIdx k) ?_
  · show its.toArray.eraseIdxIfInBounds k = (its.eraseIdx k).toArray
    rw [List.eraseIdxIfInBounds_toArray]
  · have := len_erase xs k
    omega
end

/-! ### xs[a:b] = ys -/
section
variable {prog : Program} {w : World} {A : Around} {E : Value → Shared → Prop} {s : Shared}
theorem splice_eq (its its2 : List Value) (a c : Nat) : its.toArray.extract 0 a ++ its2.toArray ++ its.toArray.extract c its.toArray.size = (its.take a ++ its2 ++ its.drop c).toArray := by
  apply Array.toList_inj.mp
  first
    | (simp
       exact List.take_of_length_le (by simp))
    | simp [List.take_of_length_le]
    | simp
theorem bounds_run {a c n : Nat} (hac : a ≤ c) (hc : c ≤ n) : sliceBounds (some (a : Int)) (some (c : Int)) none n = ((a : Int), (c : Int), 1) := by
  simp only [sliceBounds, Option.getD_none]
  have h1 : ¬ ((a : Int) < 0) := by omega
  have h2 : ¬ ((c : Int) < 0) := by omega
  simp only [h1, h2, if_false, show (1 : Int) > 0 by decide, if_true]
  congr 1
  · omega
  · congr 1; omega
set_option maxRecDepth 100000 in
/-- list.__setitem__ with a slice of step one and another list -/
theorem setItem_slice {l b sl : Addr} {items new : Array Value} {n n2 : Nat} {vl vu : Value} {a c : Nat} {Q : Unit → Shared → Prop}
    (e : s.heap.get? l = some { cls := .type "list", data := .seq items n }) (e2 : s.heap.get? b = some { cls := .type "list", data := .seq new n2 }) (hne : l ≠ b)
    (hs : s.heap.IsSliceOf sl vl vu .none) (pl : IsPart vl (some (a : Int))) (pu : IsPart vu (some (c : Int))) (hac : a ≤ c) (hc : c ≤ items.size)
    (hsz : items.size + new.size ≤ sizeLine) (h : Q () { s with heap := s.heap.update l (Obj.mapSeq fun xs => xs.extract 0 a ++ new ++ xs.extract c xs.size) }) :
    wpAny (model prog w) A (setItem (.ref l) (.ref sl) (.ref b)) Q E s := by
  have hl : s.heap.IsList l items := PySem.IsL.isList e
  have hb : s.heap.IsList b new := PySem.IsL.isList e2
  obtain ⟨os, hos, hcs, hds⟩ := id hs
  have hTs : s.TypeIs (.ref sl) "slice" := ⟨os, hos, hcs⟩
  have hstep : ¬ ((rawPart none == rawInt 0) = true) := Bool.false_ne_true
  have hsame : Builtin.List.listSameRef (.ref l) (.ref b) = false := by
    unfold Builtin.List.listSameRef
    exact beq_eq_false_iff_ne.mpr hne
  have hmax : (max (a : Int) (c : Int)).toNat = c := by omega
  have hz' : ((fun xs : Array Value => xs.extract 0 a ++ new ++ xs.extract c xs.size) items).size ≤ sizeLine + 1 := by
    simp only [Array.size_append, Array.size_extract]
    omega
  unfold setItem
  try with_reducible refine wpAny_holding ?_
  first | refine wpAny_bind (wpAny_pure ?_) | skip
  refine wpAny_bind (wpAny_sequenceKey hl.typeIs (by decide) ?_)
  refine wpAny_bind (wpAny_callSpecial?_slot (name := Str.ofString "__setitem__") hl.typeIs slot_list_setitem
    (wpAny_call_entry slot_list_setitem hl.typeIs entry_list_setitem ?_ (args_list_setitem _ _ _)))
  show wpAny _ _ (Builtin.List.listSubscript? (.ref sl) >>= _) _ _ s
  refine wpAny_bind ?_
  unfold Builtin.List.listSubscript?
  refine wpAny_bind (wpAny_specialOf hTs slice_no_index ?_)
  simp only [Option.isNone_none, if_true]
  refine wpAny_pure ?_
  show wpAny _ _ (typeOf (.ref sl) >>= _) _ _ s
  refine wpAny_bind (wpAny_typeOf hTs ?_)
  first
    | rw [if_neg (by decide)]
    | refine PySem.W.KFB.if_not (by decide) ?_
  rw [listSliceParts_eq]
  refine wpAny_bind (wpAny_bind (wpAny_field hos hds (x := .none) rfl (wpAny_bind (wpAny_listPart .none ?_))))
  rw [if_neg hstep]
  refine wpAny_bind (wpAny_field hos hds (x := vl) rfl (wpAny_bind (wpAny_listPart pl ?_)))
  refine wpAny_bind (wpAny_field hos hds (x := vu) rfl (wpAny_bind (wpAny_listPart pu (wpAny_pure ?_))))
  first
    | simp only [hsame, Bool.false_eq_true, if_false]
    | refine PySem.W.KFB.if_not hsame ?_
    | (dsimp only
       rw [if_neg (by rw [hsame]; exact Bool.false_ne_true)])
  refine wpAny_bind (m := Builtin.List.listAllItems (.ref b) "must assign iterable to extended slice") ?_
  unfold Builtin.List.listAllItems
  refine wpAny_bind (wpAny_typeOf hb.typeIs ?_)
  first
    | refine PySem.W.KFB.if_so (by decide) ?_
    | rw [if_pos (by decide)]
    | simp only [beq_self_eq_true, Bool.true_or, if_true]
  unfold Builtin.List.listItems
  refine wpAny_bind (wpAny_seqItems e2 rfl (wpAny_pure ?_))
  refine wpAny_bind (wpAny_bind (wpAny_seqItems e rfl (wpAny_pure ?_)))
  refine wpAny_bind (wpAny_of_eq ((sliceIndices_raw (some (a : Int)) (some (c : Int)) none items.size (by simp)).trans (congrArg (pure : Int × Int × Int → Sem (Int × Int × Int)) (bounds_run hac hc))) ?_)
  show wpAny _ _ (if ((1 : Int) == 1) = true then _ else _) _ _ s
  rw [if_pos (by decide)]
  refine wpAny_bind (wpAny_rule ?_)
  first
    | simp only [notLongL hsz, Bool.false_eq_true, if_false]
    | refine PySem.W.KFB.if_not (notLongL hsz) ?_
  first | refine wpAny_bind (wpAny_pure ?_) | skip
  show wpAny _ _ (updateSeq l (fun xs => xs.extract 0 ((a : Int)).toNat ++ new ++ xs.extract (max (a : Int) (c : Int)).toNat xs.size) >>= _) _ _ s
  rw [hmax, Int.toNat_natCast]
  refine wpAny_bind (wpAny_updateSeq (hz := Nat.le_trans (Nat.le_add_right _ _) hsz) (_hz' := hz') e rfl ?_)
  refine wpAny_bind (wpAny_letGo ?_)
  first
    | exact wpAny_bind (wpAny_pure (wpAny_pure ⟨.none, rfl, wpAny_pure h⟩))
    | exact wpAny_pure ⟨.none, rfl, wpAny_pure h⟩
end

section
variable {X : Cx}
/-- xs[a:c] = ys of another list, at the value level: sl is the slice object that was just made -/
theorem set_slice {pins : List (Addr × Obj)} {s : Shared} {σ : St} {H : Hp} {l b sl : Addr} {xs ys : List V} {a c : Int} {vl vu : Value} {Q : Unit → Shared → Prop} (I : Inv X pins σ H s)
    (hH : H l = some (.lst xs)) (hB : H b = some (.lst ys)) (hne : l ≠ b) (hs : s.heap.IsSliceOf sl vl vu .none) (ra : RelV (.int a) vl) (rc : RelV (.int c) vu) (h0 : 0 ≤ a) (hac : a ≤ c) (hc : c ≤ xs.length)
    (hz : xs.length + ys.length ≤ sizeLine) (h : ∀ s', Inv X pins σ (upd H l (.lst (xs.take a.toNat ++ ys ++ xs.drop c.toNat))) s' → Q () s') :
    wpAny (model X.prog X.w) X.A (setItem (.ref l) (.ref sl) (.ref b)) Q X.xe s := by
  obtain ⟨ta, rfl⟩ := ra
  obtain ⟨tc, rfl⟩ := rc
  obtain ⟨z, its, n, r, hl, e⟩ := I.lstM hH
  obtain ⟨z2, its2, n2, r2, hl2, e2⟩ := I.lstM hB
  obtain ⟨a', rfl⟩ := Int.eq_ofNat_of_zero_le h0
  obtain ⟨c', rfl⟩ := Int.eq_ofNat_of_zero_le (Int.le_trans h0 hac)
  simp only [Int.toNat_natCast] at h
  refine setItem_slice (a := a') (c := c') e e2 hne hs (.int _ _) (.int _ _) (by omega) (by rw [List.size_toArray]; omega) (by rw [List.size_toArray, List.size_toArray]; omega) (h _ ?_)
  refine I.lset (its' := its.take a' ++ its2 ++ its.drop c') (t' := s.toks) hH e ?_ (Vals.append (Vals.append (r.take _) r2) (r.drop _)) ?_
  · exact splice_eq its its2 a' c'
  · rw [List.length_append, List.length_append, List.length_take, List.length_drop]
    omega
end
end L2

namespace Att
open PySem PySem.W PySem.Calls PyProof.Rows

/-! ### the script -/
theorem ints_of_wellAll {P : Params} {h : Heap} : ∀ (ns : List Int) (vs : List Value), WellAll P h vs (ns.map WData.int) → IntsAre vs ns := by
  intro ns
  induction ns with
  | nil =>
    intro vs w
    rw [List.map_nil] at w
    cases w
    exact .nil
  | cons n ns ih =>
    intro vs w
    rw [List.map_cons] at w
    cases w with
    | cons a b =>
      cases a
      exact .cons _ _ (ih _ b)

theorem script_of {l : OpenLaw} {n : Nat} (hn : l.most = some n) {P : Params} {h : Heap} {args : List WData} {vals : List Value}
    (hpre : l.row.toRowW.claim.pre args = true) (hwl : WellAll P h vals args) :
    ∃ a vs ns, vals = [Value.ref a] ∧ args = [WData.list (ns.map WData.int)] ∧ h.get? a = some { cls := .type "list", data := .seq vs.toArray } ∧ IntsAre vs ns ∧ ns.length ≤ n := by
  have hsh : WShape.hasAll [] args [.list .int] = true := (pre_splitW hpre).1
  have hc : l.pre.holds [] { args := args } = true := (pre_splitW hpre).2
  obtain ⟨d, r, rfl, h1, h2⟩ := hasAllW_cons hsh
  obtain rfl := hasAllW_nil h2
  obtain ⟨xs, rfl, h3⟩ := hasW_list h1
  obtain ⟨ns, rfl⟩ := items_int h3
  have hlen : ns.length ≤ n := by
    unfold OpenLaw.pre at hc
    have h4 : (WTm.not (.lt (.lit (.int (n : Int))) (.len (.arg 0)))).holds [] { args := [.list (ns.map .int)] } = true := by
      have h4 := (holds_andW hc).1
      rw [hn] at h4
      exact h4
    have h5 := condW_of h4 (w_not (w_lt w_lit (w_len_list (w_arg rfl))))
    rw [List.length_map] at h5
    refine Nat.le_of_not_lt fun q => ?_
    have q' : (n : Int) < ((ns.length : Nat) : Int) := by omega
    first
      | (rw [decide_eq_true q'] at h5; exact absurd h5 (by decide))
      | (simp at h5; omega)
  cases hwl with
  | cons w1 w2 =>
    cases w2
    cases w1 with
    | list ho hall => exact ⟨_, _, ns, rfl, rfl, ho, ints_of_wellAll ns _ hall, hlen⟩

theorem post_true (l : OpenLaw) (args : List WData) : l.row.toRowW.claim.post args (.bool true) args = true :=
  postW_of (r := l.row.toRowW) (X := (true == true))
    (show WShape.has [] (.bool true) .bool = true by first | rfl | decide | simp [WShape.has, WShape.arms, WShape.armsAll])
    (show (WTm.eq .res (.lit (.bool true))).value [] { args := args, res := some (.bool true), after := args } = some (.bool (true == true)) from w_eq_bool (w_res rfl) w_lit) rfl

/-! ### the attachment: holds_open's last premise (the goal 'hc' behind k_head) from a wpAny of the law's body -/
theorem attach {l : OpenLaw} {n : Nat} {q : Program} {loose : List Str} {XP : (Str → Option Value) → Heap → Prop} {YP : World → Heap → Prop} {d : DefRec} {x : Str}
    (hn : l.most = some n) (hdf : d.params.defaults = [])
    (hbind : ∀ pm cd doc v : Value, bindArgs (docDef d.name d.params d.body d.scope pm cd doc) ⟨[v], []⟩ = pure [(x, v)])
    (hx : d.scope.names.lookup x = some .local ∨ d.scope.names.lookup x = some .cell)
    (hk : d.scope.kind = .function) (hco : d.scope.isCoroutine = false) (hgen : d.scope.isGenerator = false)
    (body : ∀ (w : World) (s₀ s₁ s : Shared) (mg mb : Str → Option Value) (fa : Addr) (o : Obj) (pm cd doc : Value) (a : Addr) (vs : List Value) (ns : List Int),
      Ground q loose [] XP w s₀ mg mb s₁.heap → YP w s₁.heap →
      s₁.heap.get? fa = some o → o.data = .func (docDef d.name d.params d.body d.scope pm cd doc) → s₁.heap.CodeRec cd d.name → mg d.name = some (.ref fa) →
      s₁.heap.get? a = some { cls := .type "list", data := .seq vs.toArray } → IntsAre vs ns → ns.length ≤ n →
      s.gens = #[] → s.os = s₁.os →
      Fr s₁.heap s₁.heap.objs.size s.heap (bindL (envOfC d.name d.scope s₁.heap.objs.size fa cd).kindOf [(x, .ref a)] fun _ => none) →
      Cl s₁.heap.objs.size (cellsFrom (s₁.heap.objs.size + 1) d.scope.names []) s.heap (bindC (envOfC d.name d.scope s₁.heap.objs.size fa cd).kindOf [(x, .ref a)] fun _ => none) →
      wpAny (model l.prog w) (callerA.deeper (envOfC d.name d.scope s₁.heap.objs.size fa cd)) (execs d.body (envOfC d.name d.scope s₁.heap.objs.size fa cd))
        (fun f s' => f = .ret (.bool true) ∧ OldK s₁.heap s'.heap ∧ s'.os = s₁.os ∧ AllBare s'.gens) (fun _ _ => False) s) :
    WalkO q loose XP YP l.row.toRowW d [] (fun f vs => PySem.call f vs) := by
  intro w s₀ s₁ mg mb G Y fa o pm cd doc dV kV ho hd hcd hD hmg hg args vals as hpre hlay hrd hwl hlo
  obtain rfl : dV = .none := Dflts.none hD hdf
  obtain rfl : kV = .none := Dflts.noKw hD
  obtain ⟨a, vs, ns, rfl, rfl, hobj, hints, hlen⟩ := script_of hn hpre hwl
  refine enter_call ?_
  refine call_cells_ret (o := o) (by rw [depth_caller]; decide) ho (fd_plain hd) G.T.nolimit hcd (hbind pm cd doc (.ref a)) (fun y hy => ?_) (fun h₁ tk F X => ?_) hco hgen hk
  · obtain rfl : y = (x, Value.ref a) := List.mem_singleton.mp hy
    rcases hx with e | e
    · exact .inl e
    · exact .inr ⟨e, cellsFrom_some _ _ _ (.inl e)⟩
  · refine wpAny_mono (body w s₀ s₁ { s₁ with heap := h₁, toks := tk } mg mb fa o pm cd doc a vs ns G Y ho (fd_plain hd) hcd hmg hobj hints hlen hg rfl F X) (fun f s' hq => ?_) (fun _ _ hq => hq)
    obtain ⟨rfl, h2, h3, h4⟩ := hq
    exact ⟨.inl ⟨.bool true, .bool true, [], rfl, fun _ => rfl, .bool true, post_true l _, fun _ => ⟨List.Pairwise.nil, fun _ hm => (nomatch hm)⟩⟩, h2, h3, h4⟩

/-- the same from a codeAny of the CALL (for a layer whose function contracts speak of calls) -/
theorem attach_call {l : OpenLaw} {n : Nat} {q : Program} {loose : List Str} {XP : (Str → Option Value) → Heap → Prop} {YP : World → Heap → Prop} {d : DefRec}
    (hn : l.most = some n) (hdf : d.params.defaults = [])
    (call : ∀ (w : World) (s₀ s₁ : Shared) (mg mb : Str → Option Value) (fa : Addr) (o : Obj) (pm cd doc : Value) (a : Addr) (vs : List Value) (ns : List Int),
      Ground q loose [] XP w s₀ mg mb s₁.heap → YP w s₁.heap →
      s₁.heap.get? fa = some o → o.data = .func (docDef d.name d.params d.body d.scope pm cd doc) → s₁.heap.CodeRec cd d.name → mg d.name = some (.ref fa) →
      s₁.heap.get? a = some { cls := .type "list", data := .seq vs.toArray } → IntsAre vs ns → ns.length ≤ n → s₁.gens = #[] →
      codeAny (model l.prog w) callerA (.call (.ref fa) ⟨[.ref a], []⟩) (fun r s' => r = .ok (.ret (.bool true)) ∧ OldK s₁.heap s'.heap ∧ s'.os = s₁.os ∧ AllBare s'.gens) s₁) :
    WalkO q loose XP YP l.row.toRowW d [] (fun f vs => PySem.call f vs) := by
  intro w s₀ s₁ mg mb G Y fa o pm cd doc dV kV ho hd hcd hD hmg hg args vals as hpre hlay hrd hwl hlo
  obtain rfl : dV = .none := Dflts.none hD hdf
  obtain rfl : kV = .none := Dflts.noKw hD
  obtain ⟨a, vs, ns, rfl, rfl, hobj, hints, hlen⟩ := script_of hn hpre hwl
  refine enter_call (codeAny_mono (call w s₀ s₁ mg mb fa o pm cd doc a vs ns G Y ho (fd_plain hd) hcd hmg hobj hints hlen hg) fun r s' hq => ?_)
  obtain ⟨rfl, h2, h3, h4⟩ := hq
  exact ⟨.inl ⟨.bool true, .bool true, [], rfl, fun _ => rfl, .bool true, post_true l _, fun _ => ⟨List.Pairwise.nil, fun _ hm => (nomatch hm)⟩⟩, h2, h3, h4⟩

/-- the same where the top left finished generators (o_head chose holds_openN): nothing may have changed at all and no generator may be left -/
theorem attachN {l : OpenLaw} {n : Nat} {q : Program} {loose : List Str} {XP : (Str → Option Value) → Heap → Prop} {YP : World → Heap → Prop} {d : DefRec} {x : Str}
    (hn : l.most = some n) (hdf : d.params.defaults = [])
    (hbind : ∀ pm cd doc v : Value, bindArgs (docDef d.name d.params d.body d.scope pm cd doc) ⟨[v], []⟩ = pure [(x, v)])
    (hx : d.scope.names.lookup x = some .local ∨ d.scope.names.lookup x = some .cell)
    (hk : d.scope.kind = .function) (hco : d.scope.isCoroutine = false) (hgen : d.scope.isGenerator = false)
    (body : ∀ (w : World) (s₀ s₁ s : Shared) (mg mb : Str → Option Value) (fa : Addr) (o : Obj) (pm cd doc : Value) (a : Addr) (vs : List Value) (ns : List Int),
      Ground q loose [] XP w s₀ mg mb s₁.heap → YP w s₁.heap →
      s₁.heap.get? fa = some o → o.data = .func (docDef d.name d.params d.body d.scope pm cd doc) → s₁.heap.CodeRec cd d.name → mg d.name = some (.ref fa) →
      s₁.heap.get? a = some { cls := .type "list", data := .seq vs.toArray } → IntsAre vs ns → ns.length ≤ n →
      s.gens = #[] → s.os = s₁.os →
      Fr s₁.heap s₁.heap.objs.size s.heap (bindL (envOfC d.name d.scope s₁.heap.objs.size fa cd).kindOf [(x, .ref a)] fun _ => none) →
      Cl s₁.heap.objs.size (cellsFrom (s₁.heap.objs.size + 1) d.scope.names []) s.heap (bindC (envOfC d.name d.scope s₁.heap.objs.size fa cd).kindOf [(x, .ref a)] fun _ => none) →
      wpAny (model l.prog w) (callerA.deeper (envOfC d.name d.scope s₁.heap.objs.size fa cd)) (execs d.body (envOfC d.name d.scope s₁.heap.objs.size fa cd))
        (fun f s' => f = .ret (.bool true) ∧ (∀ b o, s₁.heap.get? b = some o → s'.heap.get? b = some o) ∧ s'.os = s₁.os ∧ s'.gens = #[]) (fun _ _ => False) s) :
    WalkN q loose XP YP l.row.toRowW d [] (fun f vs => PySem.call f vs) := by
  intro w s₀ s₁ mg mb G Y fa o pm cd doc dV kV ho hd hcd hD hmg hg args vals as hpre hlay hrd hwl hlo
  obtain rfl : dV = .none := Dflts.none hD hdf
  obtain rfl : kV = .none := Dflts.noKw hD
  obtain ⟨a, vs, ns, rfl, rfl, hobj, hints, hlen⟩ := script_of hn hpre hwl
  refine enter_callW ?_
  refine call_cells_ret (o := o) (by rw [depth_caller]; decide) ho (fd_plain hd) G.T.nolimit hcd (hbind pm cd doc (.ref a)) (fun y hy => ?_) (fun h₁ tk F X => ?_) hco hgen hk
  · obtain rfl : y = (x, Value.ref a) := List.mem_singleton.mp hy
    rcases hx with e | e
    · exact .inl e
    · exact .inr ⟨e, cellsFrom_some _ _ _ (.inl e)⟩
  · refine wpAny_mono (body w s₀ s₁ { s₁ with heap := h₁, toks := tk } mg mb fa o pm cd doc a vs ns G Y ho (fd_plain hd) hcd hmg hobj hints hlen hg rfl F X) (fun f s' hq => ?_) (fun _ _ hq => hq)
    obtain ⟨rfl, h2, h3, h4⟩ := hq
    exact ⟨.inl ⟨.bool true, .bool true, [], rfl, fun _ => rfl, .bool true, post_true l _, fun _ => ⟨List.Pairwise.nil, fun _ hm => (nomatch hm)⟩⟩, h2, h3, h4⟩

/-! ### rules over ANY heap (no ledger) from facts about the written part K: the library's own take a ledger (News) for what they write -/
section
variable {prog : Program} {w : World} {A : Around} {E : Value → Shared → Prop} {s : Shared} {K : Frag}

/-- a def of the module, or a method (qual 'C.m'), entered: the frame is the next address; cells behind it -/
theorem call_fn {R : Result → Shared → Prop} {name qual : Str} {params : Arguments} {body : List Stmt} {scope : Scope} {dV kV doc pm cdv ct oc : Value} {an od : Option Addr} {osl : Array (Option Value)} {f : Addr} {args : Args} {binds : List (Str × Value)}
    (X : K.In s.heap) (hlim : s.heap.NoLimit) (ho : K.lookup f = some ⟨oc, od, .func (fnOf name qual params body scope dV kV doc pm an cdv ct), osl⟩) (hcd : codeIn K cdv qual = true) (hroom : A.depth < recursionLimit)
    (hbind : BindsTo s (fnOf name qual params body scope dV kV doc pm an cdv ct) args binds)
    (hkind : (binds.all fun y => scope.names.lookup y.1 == some .local || scope.names.lookup y.1 == some .cell) = true)
    (h : ∀ s₁, InCallC s s.heap.objs.size (bindL (envOfC qual scope s.heap.objs.size f cdv).kindOf binds fun _ => none) (cellsFrom (s.heap.objs.size + 1) scope.names [])
        (bindC (envOfC qual scope s.heap.objs.size f cdv).kindOf binds fun _ => none) s₁ →
      wpAny (model prog w) (A.deeper (envOfC qual scope s.heap.objs.size f cdv)) (execs body (envOfC qual scope s.heap.objs.size f cdv))
        (fun fl s' => R (.ok (.ret (match fl with | .ret v => v | _ => .none))) s')
        (fun e s' => wpAny (model prog w) (A.deeper (envOfC qual scope s.heap.objs.size f cdv)) (leaving (envOfC qual scope s.heap.objs.size f cdv) e) (fun _ s'' => R (.error e) s'') (fun e' s'' => R (.error e') s'') s') s₁)
    (hco : scope.isCoroutine = false) (hgen : scope.isGenerator = false) (hk : scope.kind = .function) : codeAny (model prog w) A (.call (.ref f) args) R s := by
  refine codeAny_call_function hroom (X _ _ ho) rfl hco hgen rfl (codeRec_of X hcd) (hbind _ _ _ _ ?_)
  refine wpAny_newFunctionEnv_cells hk (kindsX hkind _) fun env he s₁ x => ?_
  subst he
  exact ⟨hlim.keeps x.toInCall.keep, codeAny_func (h s₁ x)⟩

/-- C(..): dict at size, instance at size + 1, then __init__ -/
theorem make_obj {R : Result → Shared → Prop} {C fI : Addr} {rest : List Value} {kw : List (Str × Value)}
    (X : K.In s.heap) (hm : makesIn K C = true) (hi : findIn K (.ref C) "__init__" = some (some (.ref fI))) (hf : isFn K (.ref fI) = true)
    (h : codeAny (model prog w) (A.under (.builtin "type.__call__" ⟨.ref C :: rest, kw⟩)) (.call (.ref fI) ⟨.ref (s.heap.objs.size + 1) :: rest, kw⟩) (InitBack (s.heap.objs.size + 1) R)
      { s with heap := (s.heap.push emptyDict).push (instObj C s.heap.objs.size) }) : codeAny (model prog w) A (.call (.ref C) ⟨rest, kw⟩) R s := by
  obtain ⟨hh, g, d, t, os⟩ := s
  exact make_core (makes_of X hm) (looks_findIn X hi) (fun self => bind_fn X self (beq_iff_eq.mp hf)) (.inl rfl) h

/-- x.name where the instance's dict holds the name and the class does not -/
theorem get_field {x C : Addr} {ox : Obj} {es : List DictEntry} {n : Nat} {name : Str} {expr : Bool} {v : Value} {Q : Value → Shared → Prop}
    (X : K.In s.heap) (I : PySem.W.InstAt s.heap x ox C (some (dictOf es n))) (hg : plainGet K C name = true) (hh : hasDictIn K C = true) (ha : findIn K (.ref C) name = some none)
    (hl : getL name es = some (some v)) (hv : handedIn v = true) (h : Q v { s with toks := s.toks + 1 }) : wpAny (model prog w) A (getAttr (.ref x) name expr) Q E s :=
  get_value X I (plainGet_of hg).1 (findObj_own hh ha rfl hl) hv h

/-- x.m(..): the method found in the class -/
theorem get_method {x C f : Addr} {ox : Obj} {es : List DictEntry} {n : Nat} {name : Str} {pl : Sem Bool} {Q : Value × List Value → Shared → Prop}
    (X : K.In s.heap) (I : PySem.W.InstAt s.heap x ox C (some (dictOf es n))) (hg : plainGet K C name = true) (hf : findIn K (.ref C) name = some (some (.ref f))) (ht : isFn K (.ref f) = true)
    (hl : getL name es = some none) (h : Q (.ref f, [.ref x]) s) : wpAny (model prog w) A (getMethod (.ref x) name pl) Q E s :=
  method_fn X I (plainGet_of hg).1 (plainGet_of hg).2 hf (beq_iff_eq.mp ht) (by show (lookIn name (dictOf es n)).map _ = _; rw [lookIn_dict, hl]; rfl) h

/-! the whole heap as the ledger: makes every rule that writes through a ledger a rule over any heap -/
def noObjs (h : Heap) : Heap := { h with objs := #[] }
theorem noObjs_get (h : Heap) (b : Addr) : (noObjs h).get? b = none := by
  cases e : (noObjs h).get? b with
  | none => rfl
  | some o => exact absurd (Heap.lt_size e) (Nat.not_lt_zero _)
def ledger (h : Heap) (L d : Addr) : List (Addr × Obj) := (List.range h.objs.size).filterMap fun a => if a = L ∨ a = d then none else (h.get? a).map fun o => (a, o)
theorem mem_ledger {h : Heap} {L d a : Addr} {o : Obj} : (a, o) ∈ ledger h L d ↔ a ≠ L ∧ a ≠ d ∧ h.get? a = some o := by
  unfold ledger
  rw [List.mem_filterMap]
  constructor
  · rintro ⟨b, _, e⟩
    split at e
    · cases e
    · rename_i hb
      obtain ⟨o', ho, e'⟩ := Option.map_eq_some_iff.mp e
      cases e'
      exact ⟨fun q => hb (.inl q), fun q => hb (.inr q), ho⟩
  · rintro ⟨n1, n2, ho⟩
    refine ⟨a, List.mem_range.mpr (Heap.lt_size ho), ?_⟩
    rw [if_neg (show ¬ (a = L ∨ a = d) from fun q => q.elim n1 n2), ho] <;> rfl
theorem news_ledger {h : Heap} {L d : Addr} {od : Obj} (hne : d ≠ L) (ho : h.get? d = some od) : News (noObjs h) L h ([] ++ (d, od) :: ledger h L d) := by
  rintro ⟨a, o⟩ hp
  rcases List.mem_cons.mp hp with e | hp
  · cases e
    exact ⟨ho, hne, noObjs_get _ _⟩
  · obtain ⟨n1, n2, e⟩ := mem_ledger.mp hp
    exact ⟨e, n1, noObjs_get _ _⟩
theorem fr_all {h : Heap} {L : Addr} {m : Str → Option Value} (n : h.Ns L m) : Fr (noObjs h) L h m :=
  ⟨n, fun b o e => (by rw [noObjs_get] at e; cases e), Nat.zero_le _⟩
/-- Upd of the head entry (for append_K, setItem_K ..) -/
theorem upd_ledger {h : Heap} {L d : Addr} {o o' : Obj} : Upd d o o' ((d, o) :: ledger h L d) ((d, o') :: ledger h L d) :=
  .head fun ⟨_, _⟩ hp => (mem_ledger.mp hp).2.1

/-- x.name = v over any heap: L is any namespace of the heap (the frame's, say): its map stays, its object is not told; all else but the dict stays -/
theorem set_field {x C dx L : Addr} {ox : Obj} {m : Str → Option Value} {es es' : List DictEntry} {n n' : Nat} {name : Str} {v : Value} {Q : Unit → Shared → Prop}
    (X : K.In s.heap) (I : PySem.W.InstAt s.heap x ox C (some (dictOf es n))) (hd : ox.dict = some dx) (hL : s.heap.Ns L m) (hne : dx ≠ L)
    (hs : findIn K (.ref C) "__setattr__" = some (some (.builtin "object.__setattr__"))) (hp : plainOver K C = true) (ht : takerIn K C name = some none) (hh : hasDictIn K C = true) (hl : (getL name es).isSome = true)
    (e : (putL name (PyData.keyHash w.params name) (.str name (s.toks + 1)) v es, putN name es n) = (es', n')) (hz : es'.length ≤ 1000)
    (h : ∀ h' : Heap, h'.Ns L m → h'.get? dx = some (dictOf es' n') → (∀ b o, b ≠ dx → b ≠ L → s.heap.get? b = some o → h'.get? b = some o) → Q () { s with heap := h', toks := s.toks + 2 }) :
    wpAny (model prog w) A (setAttr (.ref x) name v) Q E s := by
  obtain ⟨e1, e2⟩ := Prod.mk.inj e
  have hdx : s.heap.get? dx = some (dictOf es n) := by
    have := I.dict
    rw [hd] at this
    exact this
  refine set_plain X I hs (osa_dict (s := { s with toks := s.toks + 1 }) (h₀ := noObjs s.heap) (L := L) (m := m) (od := dictOf es n) (od' := dictOf es' n') (es := es') (n := n') (pre := []) (post := ledger s.heap L dx)
    (fr_all hL) (news_ledger hne hdx) X I hd hp ht hh hl (fun _ q => nomatch q) (fun ⟨_, _⟩ q => (mem_ledger.mp q).2.1) (by rw [putName_dict, e1, e2]) rfl hz fun h' F' N' => ?_)
  exact h h' F'.ns (N'.get (List.Mem.head _)) fun b o n1 n2 ho => N'.get (List.Mem.tail _ (mem_ledger.mpr ⟨n2, n1, ho⟩))
end
end Att

namespace L2
open PySem PySem.Spec PyProof.Rows

theorem vals_ints : ∀ {vs : List Value} {ns : List Int}, IntsAre vs ns → Vals (ns.map V.int) vs
  | _, _, .nil => .nil
  | _, _, .cons n t h => .cons ⟨t, rfl⟩ (vals_ints h)

/-- nothing is tracked but the script, known to the object (or it is an object of the module) -/
def Only (H : Hp) : Prop := ∀ b, H b = none ∨ ∃ o xs, H b = some (.frz o (.lst xs))

/-- THE HEAD: the law's promise, at the heap behind the top. F, the promise of the law's def, may use that base is part of the heap (so K.In base, base.Ns mainGlobals mg stand in Mod) -/
theorem law_call {P : Program} {w : World} {K : PySem.W.Frag} {mg mb : Str → Option Value} {CX : CXT} {k : Nat} {fa a : Addr} {fd : FuncData} {x : Str} {sp : Sp} {s₁ : Shared} {vs : List Value} {ns : List Int}
    (KX : K.In s₁.heap) (hns : s₁.heap.Ns mainGlobals mg) (hb : s₁.heap.Ns builtinsNs mb) (hbb : ∀ x : Str, x ≠ "__name__" → mb x = bootBuiltins x) (hlim : s₁.heap.NoLimit) (hg : s₁.gens = #[])
    (ha : s₁.heap.get? a = some { cls := .type "list", data := .seq vs.toArray }) (hi : IntsAre vs ns) (hl : ns.length ≤ sizeLine) (hr : Room k callerA)
    (F : ∀ base : Heap, K.In base → base.Ns mainGlobals mg → FnOk P w K mg base CX k fa fd [x] sp) (hbind : ∀ (s : Shared) (u : Value), BindsTo s fd ⟨[u], []⟩ [(x, u)])
    (hsp : ∀ H : Hp, Only H → SqL K H a (ns.map V.int) → sp [.ref a] H (fun v _ => v = .bl true) fun _ _ _ => False)
    (hCX : ∀ H e s', CX [] H s₁ (fun _ _ _ => False) e s' → False) :
    codeAny (model P w) callerA (.call (.ref fa) ⟨[.ref a], []⟩) (fun r s' => r = .ok (.ret (.bool true)) ∧ OldK s₁.heap s'.heap ∧ s'.os = s₁.os ∧ AllBare s'.gens) s₁ := by
  have rv := vals_ints hi
  have lenV := hi.length
  -- from an abstract heap in which nothing but the script may be tracked
  have core : ∀ H : Hp, Only H → SqL K H a (ns.map V.int) → HOk P w H s₁.heap → (∀ b, H b ≠ none → b = a) → (H a ≠ none → K.lookup a = none) →
      codeAny (model P w) callerA (.call (.ref fa) ⟨[.ref a], []⟩) (fun r s' => r = .ok (.ret (.bool true)) ∧ OldK s₁.heap s'.heap ∧ s'.os = s₁.os ∧ AllBare s'.gens) s₁ := by
    intro H hO hS hok hA hK
    have base_of : ∀ {b : Addr} {o : Obj}, s₁.heap.get? b = some o → H b = none → (hidT s₁.heap H).get? b = some o := fun e n => hidT_get e n
    have noA : ∀ {b : Addr} {o : Obj} {es : Array DictEntry} {ep : Nat}, s₁.heap.get? b = some o → o.data = .dict es ep → H b = none := fun {b o es ep} e d => by
      cases q : H b with
      | none => rfl
      | some u =>
        have e' : b = a := hA b (by rw [q]; simp)
        subst e'
        rw [ha] at e; cases e
        have d' : Data.seq vs.toArray _ = Data.dict es ep := d
        cases d'
    have nsK : ∀ {b : Addr} {m : Str → Option Value}, s₁.heap.Ns b m → (hidT s₁.heap H).Ns b m := fun {b m} ⟨o, es, ep, e, d, r⟩ => ⟨o, es, ep, base_of e (noA e d), d, r⟩
    have hKb : K.In (hidT s₁.heap H) := fun b o e => base_of (KX b o e) (by
      cases q : H b with
      | none => rfl
      | some u =>
        have e' : b = a := hA b (by rw [q]; simp)
        subst e'
        rw [hK (by rw [q]; simp)] at e; cases e)
    have hM : Mod K mg (hidT s₁.heap H) := ⟨hKb, nsK hns, ⟨mb, nsK hb, hbb⟩, let ⟨mc, h1, h2⟩ := hlim; ⟨mc, nsK h1, h2⟩⟩
    have e0 : Env0 P w K mg (hidT s₁.heap H) callerA [] s₁ H := ⟨rfl, hM, fun b o e => of_hidT e, Nat.le_of_eq (hidT_size _ _), trivial, fun b hb => absurd (show b ∈ ([] : List Addr) from hb) (by simp), hok, .of_eq hg⟩
    refine codeAny_mono ((F _ hKb (nsK hns)).run callerA [] s₁ H ⟨[.ref a], []⟩ [.ref a] [.ref a] _ _ hr e0 (hbind s₁ (.ref a)) (.cons rfl .nil) (hsp H hO hS)) fun r s' h => ?_
    cases r with
    | error e => exact (hCX H e s' h).elim
    | ok fl =>
      cases fl with
      | next => exact False.elim h
      | brk => exact False.elim h
      | cont => exact False.elim h
      | ret u =>
        obtain ⟨v, H', os, bare, un, hok', r', q⟩ := h
        have q' : v = .bl true := q
        subst q'
        obtain rfl : u = Value.bool true := r'
        refine ⟨rfl, OldK.of_keep fun b o e => ?_, os, bare⟩
        cases q : H b with
        | none => exact un.keep b o e q (by intro z; exact absurd (show b ∈ ([] : List Addr) from z) (by simp)) (by simp)
        | some u =>
          rcases hO b with z | ⟨ob, xs, z⟩
          · rw [q] at z; cases z
          · have z2 := un.frzs b ob _ z
            obtain ⟨e1, _⟩ := hok b _ z
            obtain ⟨e2, _⟩ := hok' b _ z2
            rw [e] at e1; cases e1
            exact e2
  cases hk : K.lookup a with
  | some o =>
    -- the script is one of the module's own objects
    have e := KX a o hk
    rw [ha] at e
    cases e
    refine core (fun _ => none) (fun _ => .inl rfl) (.inr ⟨_, vs.toArray, _, hk, rfl, rfl, rfl, by rw [List.size_toArray, lenV]; exact hl, by simpa using rv⟩) (fun b u z => by have z' : (none : Option HO) = some u := z; cases z') (fun b z => absurd rfl z) fun z => absurd rfl z
  | none =>
    refine core (fun b => if b = a then some (.frz { cls := .type "list", data := .seq vs.toArray } (.lst (ns.map V.int))) else none) (fun b => ?_) (.inl (.inr ⟨{ cls := .type "list", data := .seq vs.toArray }, if_pos rfl⟩)) (fun b u z => ?_) (fun b z => ?_) fun _ => hk
    · by_cases hb : b = a
      · exact .inr ⟨_, _, if_pos hb⟩
      · exact .inl (if_neg hb)
    · by_cases hb : b = a
      · have z' := (if_pos hb).symm.trans z
        cases z'
        subst hb
        exact ⟨ha, by rw [List.length_map]; exact hl, vs, _, rv, ha⟩
      · have z' := (if_neg hb).symm.trans z
        cases z'
    · by_cases hb : b = a
      · exact hb
      · exact absurd (if_neg hb) z
end L2

namespace L2
open PySem PySem.Spec PyProof.Rows

abbrev KOf {K : PySem.W.Frag} {h : Heap} (_ : K.In h) : PySem.W.Frag := K

/-- the goal that k_head leaves (case hc), from the law's promise. F gives the function object fd (K's own) once, then the promise over every base -/
theorem walk_of {l : PySem.W.OpenLaw} {n k : Nat} {q : Program} {loose : List Str} {XP : (Str → Option Value) → Heap → Prop} {YP : World → Heap → Prop} {d : DefRec} {K : Params → PySem.W.Frag} {CX : World → CXT} {sp : World → Sp} {x : Str}
    (hn : l.most = some n) (hn2 : n ≤ sizeLine) (hdf : d.params.defaults = []) (hr : Room k callerA)
    (hY : ∀ (w : World) (h : Heap), YP w h → (K w.params).In h)
    (F : ∀ (w : World) (mg : Str → Option Value) (fa : Addr) (h : Heap), (K w.params).In h → h.Ns mainGlobals mg → mg d.name = some (.ref fa) →
      ∃ fd : FuncData, (∀ (s : Shared) (u : Value), BindsTo s fd ⟨[u], []⟩ [(x, u)]) ∧
        ∀ base : Heap, (K w.params).In base → base.Ns mainGlobals mg → FnOk l.prog w (K w.params) mg base (CX w) k fa fd [x] (sp w))
    (hsp : ∀ (w : World) (H : Hp) (a : Addr) (ns : List Int), ns.length ≤ n → Only H → SqL (K w.params) H a (ns.map V.int) → sp w [.ref a] H (fun v _ => v = .bl true) fun _ _ _ => False)
    (hCX : ∀ (w : World) (H : Hp) (s : Shared) (e : Value) (s' : Shared), CX w [] H s (fun _ _ _ => False) e s' → False) :
    PySem.W.WalkO q loose XP YP l.row.toRowW d [] (fun f vs => PySem.call f vs) := by
  refine Att.attach_call hn hdf fun w s₀ s₁ mg mb fa o pm cd doc a vs ns G Y ho hd hcd hmg hobj hints hlen hg => ?_
  have KX := hY w _ Y
  obtain ⟨fd, hb, hF⟩ := F w mg fa _ KX G.T.g hmg
  exact law_call KX G.T.g G.T.b G.T.builtins G.T.nolimit hg hobj hints (Nat.le_trans hlen hn2) hr hF hb (fun H hO hS => hsp w H a ns hlen hO hS) fun H e s' => hCX w H s₁ e s'
/-- the same where the promise hangs on the written part alone: (sp := My.sp_law), no hole under a binder -/
theorem walk_ofK {l : PySem.W.OpenLaw} {n k : Nat} {q : Program} {loose : List Str} {XP : (Str → Option Value) → Heap → Prop} {YP : World → Heap → Prop} {d : DefRec} {K : Params → PySem.W.Frag} {CX : CXT} {sp : PySem.W.Frag → Sp} {x : Str}
    (hn : l.most = some n) (hn2 : n ≤ sizeLine) (hdf : d.params.defaults = []) (hr : Room k callerA)
    (hY : ∀ (w : World) (h : Heap), YP w h → (K w.params).In h)
    (F : ∀ (w : World) (mg : Str → Option Value) (fa : Addr) (h : Heap), (K w.params).In h → h.Ns mainGlobals mg → mg d.name = some (.ref fa) →
      ∃ fd : FuncData, (∀ (s : Shared) (u : Value), BindsTo s fd ⟨[u], []⟩ [(x, u)]) ∧
        ∀ base : Heap, (K w.params).In base → base.Ns mainGlobals mg → FnOk l.prog w (K w.params) mg base CX k fa fd [x] (sp (K w.params)))
    (hsp : ∀ (K : PySem.W.Frag) (H : Hp) (a : Addr) (ns : List Int), ns.length ≤ n → Only H → SqL K H a (ns.map V.int) → sp K [.ref a] H (fun v _ => v = .bl true) fun _ _ _ => False)
    (hCX : ∀ (H : Hp) (s : Shared) (e : Value) (s' : Shared), CX [] H s (fun _ _ _ => False) e s' → False) :
    PySem.W.WalkO q loose XP YP l.row.toRowW d [] (fun f vs => PySem.call f vs) :=
  walk_of (K := K) (CX := fun _ => CX) (sp := fun w => sp (K w.params)) hn hn2 hdf hr hY F (fun w H a ns h1 h2 h3 => hsp (K w.params) H a ns h1 h2 h3) fun _ H s e s' => hCX H s e s'
end L2

/- THE LAST THEOREM (shape; LID, My.* are yours):
   My.Adr: a structure of the addresses that your layer names (classes, functions); My.Txt K t: a structure (Prop) of the equations over K;
   My.txt_mk : {K} {implicit addresses ..} (e1 : nsIn K mainGlobals "law" = some (some (.ref f))) (e2 : K.lookup f = some ⟨oc, od, .func (fnOf "law" "law" params body scope dV kV doc pm an cdv ct), sl⟩) (e3 : codeIn K cdv "law" = true) .. : ∃ t, My.Txt K t

set_option maxRecDepth 100000 in
set_option maxHeartbeats 0 in
theorem PySem.Challenge.cw_LID_holds : PySem.Challenge.rw_LID.Holds := by
  w_on; o_law; k_head; (case hw => w_witness2)
  k_fill
  refine L2.walk_of (l := PySem.Challenge.rw_LID) (n := 63) (k := 40) (x := "script") (CX := fun w => ..) (sp := fun _ => My.sp_law) rfl (by decide) rfl ⟨rfl, by decide, by decide⟩ (fun w h Y => PySem.W.kIn_of Y) ?F ?S ?C
  case F =>
    intro w mg fa h KX G hmg
    have T : ∃ t, My.Txt (L2.KOf KX) t := by
      dsimp only [L2.KOf]                          -- K must stand as «<heap const> w.params» for k_is
      refine' My.txt_mk ?e1 ?e2 ?e3 ..
      (case e1 => PySem.W.k_is)                    -- in the order: a name -> its address -> its object -> its parts
      (case e2 => PySem.W.k_is)
      ..
    obtain ⟨t, T⟩ := T
    have e0 := hmg.symm.trans (PySem.W.mg_of KX G T.law)
    cases e0                                       -- fa is the law's own address
    exact ⟨_, fun s u => .of_eq rfl, fun base kb nb => My.law_fn T kb nb⟩     -- if «.of_eq rfl» comes too early: refine' ⟨_, ?b, fun base kb nb => My.law_fn T kb nb⟩; exact fun s u => .of_eq rfl
  case S => exact fun w H a ns hl hO hS => ..
  case C => exact ..
(the tactic k_is has no namespace: write k_is) -/

/-! SHORT WORDS over the layer: a def of the text, its body, what a loop and a test want. -/
namespace L2
open PySem PySem.Spec PyProof.Rows

/-! ### the text by places -/
/-- the j-th statement of a class's body -/
def inClass (s : Stmt) (j : Nat) : Stmt := match s with
  | .ClassDef _ _ _ body _ _ _ _ _ _ _ => body.getD j (.Pass ⟨0, 0, 0, 0⟩)
  | _ => .Pass ⟨0, 0, 0, 0⟩
def defArgs (s : Stmt) : Arguments := match s with
  | .FunctionDef _ a _ _ _ _ _ _ _ _ => a
  | _ => { posonlyargs := [], args := [], vararg := none, kwonlyargs := [], kw_defaults := [], kwarg := none, defaults := [] }
def defBody (s : Stmt) : List Stmt := match s with
  | .FunctionDef _ _ b _ _ _ _ _ _ _ => b
  | _ => []
def defScope (s : Stmt) : Scope := match s with
  | .FunctionDef _ _ _ _ _ _ sc _ _ _ => sc
  | _ => { kind := .function, names := [], isGenerator := false, isCoroutine := false }

/-! ### no exception leaves a def -/
abbrev CX0 : CXT := fun _ _ _ _ _ _ => False
abbrev E0 : XK := fun _ _ _ => False
theorem pass0 {X : Cx} : Passes CX0 X E0 := fun _ _ _ _ _ _ _ h => h.elim

/-! ### a def (or method) of the text as it stands behind the top -/
structure Fun (K : PySem.W.Frag) (x qual : Str) (st : Stmt) (f : Addr) (fd : FuncData) : Prop where
  ex : ∃ (oc : Value) (od : Option Addr) (kV doc pm : Value) (an : Option Addr) (cdv ct : Value) (osl : Array (Option Value)),
    fd = PySem.W.fnOf x qual (defArgs st) (defBody st) (defScope st) .none kV doc pm an cdv ct ∧ K.lookup f = some ⟨oc, od, .func fd, osl⟩ ∧ PySem.W.codeIn K cdv qual = true
  kp : PySem.W.keepIn K (.ref f) = true
section
variable {P : Program} {w : World} {K : PySem.W.Frag} {mg : Str → Option Value} {base : Heap}
/-- THE RULE for a def: its body as a term of rules, and the reading of that term -/
theorem Fun.ok {x qual : Str} {st : Stmt} {f : Addr} {fd : FuncData} {N ps : List Str} {k : Nat} {sp : Sp} (F : Fun K x qual st f fd) (S : FnScope N ps (defScope st)) (len : ∀ vs H Q E, sp vs H Q E → vs.length = ps.length)
    (hbody : ∀ (cdv : Value) (A : Around) (outer : List Env) (s : Shared) (H : Hp) (vs : List V) (Q : VK) (E : XK), Room k (A.deeper (envOfC qual (defScope st) s.heap.objs.size f cdv)) → sp vs H Q E →
      ∃ t, PSs (cxOf CX0 P w K mg base N qual (defScope st) f cdv A outer s H E).nox (defBody st) t ∧ t { nx := fun _ H' => Q .non H', rt := Q } (start N vs) H) : FnOk P w K mg base CX0 (k + 1) f fd ps sp := by
  obtain ⟨oc, od, kV, doc, pm, an, cdv, ct, osl, rfl, lk, hcd⟩ := F.ex
  refine fn_of lk hcd S len fun A outer s H vs Q E hr hsp => ?_
  obtain ⟨t, h, q⟩ := hbody cdv A outer s H vs Q E hr hsp
  exact ⟨t, h.nox, q⟩
/-- how its arguments bind (no defaults): h is «fun _ _ _ _ _ _ us hl => match us, hl with | [_, _], _ => rfl», one _ a parameter -/
theorem Fun.binds {x qual : Str} {st : Stmt} {f : Addr} {fd : FuncData} {ps : List Str} (F : Fun K x qual st f fd)
    (h : ∀ (kV doc pm : Value) (an : Option Addr) (cdv ct : Value) (us : List Value), us.length = ps.length → bindArgs (PySem.W.fnOf x qual (defArgs st) (defBody st) (defScope st) .none kV doc pm an cdv ct) ⟨us, []⟩ = pure (ps.zip us)) : Binds K fd ps [] := by
  obtain ⟨oc, od, kV, doc, pm, an, cdv, ct, osl, rfl, lk, hcd⟩ := F.ex
  exact .all (h kV doc pm an cdv ct)
theorem fun_mk {x qual : Str} {st : Stmt} {f : Addr} {oc : Value} {od an : Option Addr} {osl : Array (Option Value)} {kV doc pm cdv ct : Value} (l : K.lookup f = some ⟨oc, od, .func (PySem.W.fnOf x qual (defArgs st) (defBody st) (defScope st) .none kV doc pm an cdv ct), osl⟩)
    (c : PySem.W.codeIn K cdv qual = true) (k : PySem.W.keepIn K (.ref f) = true) : Fun K x qual st f (PySem.W.fnOf x qual (defArgs st) (defBody st) (defScope st) .none kV doc pm an cdv ct) := ⟨⟨oc, od, kV, doc, pm, an, cdv, ct, osl, rfl, l, c⟩, k⟩
end
theorem hu_of {A : Around} {k : Nat} (hr : Room k A) : A.units + 1 < cLine := Nat.lt_of_le_of_lt (Nat.add_le_add_left (by decide : 1 ≤ 64) _) hr.units
theorem small1000 {n : Nat} (h : n ≤ 1000) : n < sizeLine := Nat.lt_of_le_of_lt h (by decide)

/-! ### expressions in short: the name that stands in the i-th slot -/
section
variable {X : Cx}
theorem pv (i : Nat) {x : Str} {pos : Pos} (hN : X.N[i]? = some x := by rfl) (hv : Vis X.env.scope x := by first | exact Or.inl rfl | exact Or.inr (Or.inl rfl) | exact Or.inr (Or.inr rfl)) (hd : (x == ("__debug__" : Str)) = false := by decide)
    (hcd : (x == ("__classdict__" : Str)) = false := by decide) : PE X (.Name x pos) (tVar i) := pe_var hN hv hd hcd
end

/-! ### tests -/
theorem iteF {A B : Prop} (h : B) : if false = true then A else B := by
  rw [if_neg Bool.false_ne_true]
  exact h
theorem iteT {A B : Prop} (h : A) : if true = true then A else B := by
  rw [if_pos rfl]
  exact h
theorem ite2 {c A B : Prop} [Decidable c] (h1 : c → A) (h2 : ¬ c → B) : if c then A else B := by
  by_cases h : c
  · rw [if_pos h]
    exact h1 h
  · rw [if_neg h]
    exact h2 h
theorem iteNS {c A B : Prop} [Decidable c] (hc : c) (h : B) : if (!decide c) = true then A else B := by
  rw [decide_eq_true hc]
  exact iteF h

/-! ### heaps -/
/-- all that was tracked is as it was -/
def Same (H H' : Hp) : Prop := ∀ b o, H b = some o → H' b = some o
theorem Same.refl (H : Hp) : Same H H := fun _ _ h => h
theorem Same.trans {H H1 H2 : Hp} (a : Same H H1) (b : Same H1 H2) : Same H H2 := fun c o h => b c o (a c o h)
theorem Same.free {H H' : Hp} (e : Same H H') {l : Addr} (h : H' l = Option.none) : H l = Option.none := by
  cases q : H l with
  | none => rfl
  | some o =>
    rw [e l o q] at h
    cases h
theorem Same.seq {K : PySem.W.Frag} {H H' : Hp} {a : Addr} {xs : List V} (e : Same H H') (h : SqL K H a xs) : SqL K H' a xs := by
  rcases h with (h | ⟨o, h⟩) | h
  · exact .inl (.inl (e _ _ h))
  · exact .inl (.inr ⟨o, e _ _ h⟩)
  · exact .inr h

end L2

set_option maxHeartbeats 4000000
namespace My
def Bd (n : Nat) (x : Int) : Prop := x.natAbs < 2 ^ n
theorem Bd.mono {m n : Nat} {x : Int} (h : Bd m x) (hn : m ≤ n) : Bd n x := Nat.lt_of_lt_of_le h (Nat.pow_le_pow_right (by decide) hn)
theorem Bd.neg {n : Nat} {x : Int} (h : Bd n x) : Bd n (-x) := by unfold Bd at *; rw [Int.natAbs_neg]; exact h
theorem Bd.mul {m n : Nat} {x y : Int} (h : Bd m x) (g : Bd n y) : Bd (m + n) (x * y) := by
  unfold Bd at *
  rw [Int.natAbs_mul, Nat.pow_add]
  exact Nat.mul_lt_mul'' h g
theorem Bd.add {n : Nat} {x y : Int} (h : Bd n x) (g : Bd n y) : Bd (n + 1) (x + y) := by
  unfold Bd at *
  rw [Nat.pow_succ]
  have := Int.natAbs_add_le x y
  omega
theorem Bd.sub {n : Nat} {x y : Int} (h : Bd n x) (g : Bd n y) : Bd (n + 1) (x - y) := by
  rw [Int.sub_eq_add_neg]; exact h.add g.neg
theorem Bd.mod {n : Nat} {x y : Int} (hy : 0 < y) (g : Bd n y) : Bd n (x % y) := by
  unfold Bd at *
  have h1 := Int.emod_nonneg x (Int.ne_of_gt hy)
  have h2 := Int.emod_lt_of_pos x hy
  omega
theorem Bd.of_le {n : Nat} {x y : Int} (g : Bd n y) (h0 : 0 ≤ x) (h : x ≤ y) : Bd n x := by
  unfold Bd at *
  omega
theorem div_bounds (x y : Int) (hy : 0 < y) : y * (x / y) ≤ x ∧ x < y * (x / y) + y := by
  have h1 := Int.mul_ediv_add_emod x y
  have h2 := Int.emod_nonneg x (Int.ne_of_gt hy)
  have h3 := Int.emod_lt_of_pos x hy
  omega
theorem Bd.div {n : Nat} {x y : Int} (hy : 0 < y) (g : Bd n x) : Bd n (x / y) := by
  unfold Bd at *
  refine Nat.lt_of_le_of_lt ?_ g
  obtain ⟨h1, h2⟩ := div_bounds x y hy
  rcases Int.lt_or_le (x / y) 0 with h | h
  · -- q < 0: x < y q + y = y (q + 1) <= q + 1
    have h3 : y * (x / y + 1) ≤ 1 * (x / y + 1) := Int.mul_le_mul_of_nonpos_right (by omega) (by omega)
    rw [Int.mul_add, Int.mul_one, Int.one_mul] at h3
    omega
  · have h3 : 1 * (x / y) ≤ y * (x / y) := Int.mul_le_mul_of_nonneg_right (by omega) h
    rw [Int.one_mul] at h3
    omega
theorem gcd_step (a b : Int) : Int.gcd b (a % b) = Int.gcd a b := by
  apply Nat.dvd_antisymm
  · apply Int.dvd_gcd
    · have h1 : ((Int.gcd b (a % b) : Nat) : Int) ∣ b := Int.gcd_dvd_left ..
      have h2 : ((Int.gcd b (a % b) : Nat) : Int) ∣ a % b := Int.gcd_dvd_right ..
      have h3 := Int.mul_ediv_add_emod a b
      have h4 := Int.dvd_add (Int.dvd_trans h1 (Int.dvd_mul_right b (a / b))) h2
      rw [h3] at h4
      exact h4
    · exact Int.gcd_dvd_left ..
  · apply Int.dvd_gcd
    · exact Int.gcd_dvd_right ..
    · have h1 : ((Int.gcd a b : Nat) : Int) ∣ a := Int.gcd_dvd_left ..
      have h2 : ((Int.gcd a b : Nat) : Int) ∣ b := Int.gcd_dvd_right ..
      have h3 := Int.mul_ediv_add_emod a b
      have h4 : a % b = a - b * (a / b) := by omega
      rw [h4]
      exact Int.dvd_sub h1 (Int.dvd_trans h2 (Int.dvd_mul_right b (a / b)))
theorem floor_ok {t b : Int} (hb : 0 < b) : ¬ (t < t / b * b) ∧ ¬ ((t / b + 1) * b ≤ t) := by
  obtain ⟨h1, h2⟩ := div_bounds t b hb
  rw [Int.add_mul, Int.one_mul, Int.mul_comm (t / b) b]
  omega
theorem round_ok {t b : Int} (hb : 0 < b) : 2 * ((2 * t + b) / (2 * b)) * b ≤ 2 * t + b ∧ 2 * t + b < 2 * ((2 * t + b) / (2 * b) + 1) * b := by
  obtain ⟨h1, h2⟩ := div_bounds (2 * t + b) (2 * b) (by omega)
  have e1 : 2 * ((2 * t + b) / (2 * b)) * b = 2 * b * ((2 * t + b) / (2 * b)) := by
    rw [Int.mul_assoc, Int.mul_comm _ b, ← Int.mul_assoc]
  have e2 : 2 * ((2 * t + b) / (2 * b) + 1) * b = 2 * b * ((2 * t + b) / (2 * b)) + 2 * b := by
    rw [Int.mul_assoc, Int.mul_comm _ b, ← Int.mul_assoc, Int.mul_add, Int.mul_one]
  rw [e1, e2]
  exact ⟨h1, h2⟩
theorem gcd_pos {a b : Int} (hb : 0 < b) : 0 < ((Int.gcd a b : Nat) : Int) := by
  have : 0 < Int.gcd a b := Int.gcd_pos_of_ne_zero_right a (Int.ne_of_gt hb)
  omega
theorem gcd_le {a b : Int} (hb : 0 < b) : ((Int.gcd a b : Nat) : Int) ≤ b :=
  Int.le_of_dvd hb (Int.gcd_dvd_right ..)
theorem div_pos_of {b g : Int} (hb : 0 < b) (hg : 0 < g) (hd : g ∣ b) : 0 < b / g := by
  obtain ⟨k, rfl⟩ := hd
  rw [Int.mul_ediv_cancel_left _ (Int.ne_of_gt hg)]
  rcases Int.lt_or_le 0 k with h | h
  · exact h
  · have := Int.mul_nonpos_of_nonneg_of_nonpos (Int.le_of_lt hg) h
    omega
theorem p60 : (0:Int) < 10 ^ 60 ∧ Bd 200 (10 ^ 60) := ⟨by decide, by unfold Bd; decide⟩
end My

namespace My
/-- what number tells of t by m, m not 0 -/
def sg (t m : Int) : Int := if m < 0 then -((Int.gcd t m : Nat) : Int) else ((Int.gcd t m : Nat) : Int)
theorem sg_ne {t m : Int} (hm : m ≠ 0) : sg t m ≠ 0 := by
  have h : 0 < Int.gcd t m := Int.gcd_pos_of_ne_zero_right t hm
  unfold sg
  split <;> omega
theorem sg_dvd_left (t m : Int) : sg t m ∣ t := by
  unfold sg
  split
  · exact Int.neg_dvd.mpr (Int.gcd_dvd_left ..)
  · exact Int.gcd_dvd_left ..
theorem sg_dvd_right (t m : Int) : sg t m ∣ m := by
  unfold sg
  split
  · exact Int.neg_dvd.mpr (Int.gcd_dvd_right ..)
  · exact Int.gcd_dvd_right ..
theorem fdiv_mul {a b : Int} (hb : b ≠ 0) (h : b ∣ a) : a.fdiv b * b = a := Int.fdiv_mul_cancel h
theorem natAbs_sg (t m : Int) : (sg t m).natAbs = Int.gcd t m := by
  unfold sg
  split
  · rw [Int.natAbs_neg, Int.natAbs_natCast]
  · rw [Int.natAbs_natCast]
/-- the four facts of a number made -/
structure Made (t m a b : Int) : Prop where
  pos : 0 < b
  low : Int.gcd a b = 1
  same : a * m = t * b
  ba : a.natAbs ≤ t.natAbs
  bb : b.natAbs ≤ m.natAbs
theorem made_of {t m : Int} (hm : m ≠ 0) : Made t m (t.fdiv (sg t m)) (m.fdiv (sg t m)) := by
  have hs := sg_ne (t := t) hm
  have e1 := fdiv_mul hs (sg_dvd_left t m)
  have e2 := fdiv_mul hs (sg_dvd_right t m)
  have hg : 0 < Int.gcd t m := Int.gcd_pos_of_ne_zero_right t hm
  generalize ha : t.fdiv (sg t m) = a at *
  generalize hb : m.fdiv (sg t m) = b at *
  have n1 : a.natAbs * Int.gcd t m = t.natAbs := by rw [← natAbs_sg, ← Int.natAbs_mul, e1]
  have n2 : b.natAbs * Int.gcd t m = m.natAbs := by rw [← natAbs_sg, ← Int.natAbs_mul, e2]
  refine ⟨?_, ?_, ?_, ?_, ?_⟩
  · -- sign
    unfold sg at e2
    by_cases h : m < 0
    · rw [if_pos h, Int.mul_neg] at e2
      rcases Int.lt_or_le 0 b with q | q
      · exact q
      · have := Int.mul_nonpos_of_nonpos_of_nonneg q (show (0 : Int) ≤ ((Int.gcd t m : Nat) : Int) by omega)
        omega
    · rw [if_neg h] at e2
      rcases Int.lt_or_le 0 b with q | q
      · exact q
      · have := Int.mul_nonpos_of_nonpos_of_nonneg q (show (0 : Int) ≤ ((Int.gcd t m : Nat) : Int) by omega)
        omega
  · have q : Int.gcd a b * Int.gcd t m = Int.gcd t m := by
      have h := Nat.gcd_mul_right a.natAbs (Int.gcd t m) b.natAbs
      rw [n1, n2] at h
      exact h.symm
    exact Nat.eq_of_mul_eq_mul_right hg (by rw [q, Nat.one_mul])
  · have q : a * m = a * (b * sg t m) := by rw [e2]
    have q2 : t * b = a * sg t m * b := by rw [e1]
    rw [q, q2, Int.mul_assoc, Int.mul_comm b]
  · rw [← n1]; exact Nat.le_mul_of_pos_right _ hg
  · rw [← n2]; exact Nat.le_mul_of_pos_right _ hg
theorem Bd.of_natAbs {n : Nat} {x y : Int} (h : x.natAbs ≤ y.natAbs) (g : Bd n y) : Bd n x := Nat.lt_of_le_of_lt h g
theorem p30 : (0:Int) < 10 ^ 30 ∧ Bd 100 (10 ^ 30) := ⟨by decide, by unfold Bd; decide⟩
theorem natAbs_abs (i : Int) : (if i < 0 then -i else i) = ((i.natAbs : Nat) : Int) := by split <;> omega
end My

/-! more rules over the layer: numbers of known size, a range by steps, isinstance -/
namespace L2
open PySem PySem.Spec PyProof.Rows


abbrev Mid (x : Int) : Prop := My.Bd 4000 x
section
variable {X : Cx}
theorem op_mulB : OpR X (binaryOp .Mult) (rI (fun i j => Mid i ∧ Mid j) fun i j => .int (i * j)) := opI fun _ _ _ _ _ _ _ hc q =>
  mul_int q (IntMulOk.of_le (PySem.intBits_le_iff.mpr hc.1) (PySem.intBits_le_iff.mpr hc.2) (by decide))
theorem log2_of_Mid {j : Int} (h : Mid j) : j.natAbs.log2 < 9000 := by
  by_cases h0 : j.natAbs = 0
  · rw [h0]; decide +kernel
  · have h1 : j.natAbs.log2 < 4000 := (Nat.log2_lt h0).mpr h
    omega
theorem op_fdivB : OpR X (binaryOp .FloorDiv) (rI (fun _ j => 0 < j ∧ Mid j) fun i j => .int (i / j)) := opI fun i j _ _ _ _ _ hc q => by
  have h1 : (0 : Int) < j := hc.1
  exact floordiv_int (by omega) (by rw [Int.fdiv_eq_ediv_of_nonneg i (by omega)]; exact q) (.inl (PyProof.noPylong_of_log2 (log2_of_Mid hc.2)))
end

theorem bt_int : bootBuiltins "int" = some (.type "int") := by decide +kernel
theorem bt_bool : bootBuiltins "bool" = some (.type "bool") := by decide +kernel
theorem bt_str : bootBuiltins "str" = some (.type "str") := by decide +kernel
theorem bt_list : bootBuiltins "list" = some (.type "list") := by decide +kernel
theorem bt_tuple : bootBuiltins "tuple" = some (.type "tuple") := by decide +kernel
theorem bt_abs : bootBuiltins "abs" = some (.builtin "abs") := by decide +kernel
theorem bt_isinstance : bootBuiltins "isinstance" = some (.builtin "isinstance") := by decide +kernel
/-! ### isinstance of a value of a known kind -/
inductive Tg where
  | non | bl | int | str | tup | lst
def tgIs (K : PySem.W.Frag) (H : Hp) : V → Tg → Prop
  | .non, .non => True
  | .bl _, .bl => True
  | .int _, .int => True
  | .str _, .str => True
  | .ref a, .tup => ∃ xs, SqT K H a xs
  | .ref a, .lst => ∃ xs, SqL K H a xs
  | _, _ => False
def Tg.isInt : Tg → Bool
  | .int => true | .bl => true | _ => false
def Tg.isBool : Tg → Bool
  | .bl => true | _ => false
def Tg.isStr : Tg → Bool
  | .str => true | _ => false
def Tg.isTup : Tg → Bool
  | .tup => true | _ => false
def Tg.isLst : Tg → Bool
  | .lst => true | _ => false
def rIsi (K : PySem.W.Frag) (n : String) (f : Tg → Bool) : List V → Hp → VK → Prop := fun xs H Q => ∃ x g, xs = [x, .ty n] ∧ tgIs K H x g ∧ Q (.bl (f g)) H
section
variable {X : Cx}
theorem isi_of {n : String} {f : Tg → Bool}
    (h1 : ∀ {A : Around} {E : Value → Shared → Prop} {s : Shared} {Q : Value → Shared → Prop}, (∀ t, Q (.bool (f .non)) { s with toks := t }) → wpAny (model X.prog X.w) A (call (.builtin "isinstance") [.none, .type n]) Q E s)
    (h2 : ∀ {A : Around} {E : Value → Shared → Prop} {s : Shared} {Q : Value → Shared → Prop} {b : Bool}, (∀ t, Q (.bool (f .bl)) { s with toks := t }) → wpAny (model X.prog X.w) A (call (.builtin "isinstance") [.bool b, .type n]) Q E s)
    (h3 : ∀ {A : Around} {E : Value → Shared → Prop} {s : Shared} {Q : Value → Shared → Prop} {b : Int} {u : Tok}, (∀ t, Q (.bool (f .int)) { s with toks := t }) → wpAny (model X.prog X.w) A (call (.builtin "isinstance") [.int b u, .type n]) Q E s)
    (h4 : ∀ {A : Around} {E : Value → Shared → Prop} {s : Shared} {Q : Value → Shared → Prop} {b : Str} {u : Tok}, (∀ t, Q (.bool (f .str)) { s with toks := t }) → wpAny (model X.prog X.w) A (call (.builtin "isinstance") [.str b u, .type n]) Q E s)
    (h5 : ∀ {A : Around} {E : Value → Shared → Prop} {s : Shared} {Q : Value → Shared → Prop} {a : Addr} {o : Obj}, s.heap.get? a = some o → o.cls = .type "tuple" → (∀ t, Q (.bool (f .tup)) { s with toks := t }) → wpAny (model X.prog X.w) A (call (.builtin "isinstance") [.ref a, .type n]) Q E s)
    (h6 : ∀ {A : Around} {E : Value → Shared → Prop} {s : Shared} {Q : Value → Shared → Prop} {a : Addr} {o : Obj}, s.heap.get? a = some o → o.cls = .type "list" → (∀ t, Q (.bool (f .lst)) { s with toks := t }) → wpAny (model X.prog X.w) A (call (.builtin "isinstance") [.ref a, .type n]) Q E s) :
    CallR X (.builtin "isinstance") (rIsi X.K n f) := by
  intro pins s σ H xs us Q I r h
  obtain ⟨x, g, rfl, e, q⟩ := h
  obtain ⟨u, w, rfl, rx, rw'⟩ := vals2 r
  cases rw'
  have fin : ∀ k : Bool, Q (.bl k) H → ∀ t, EP X pins σ Q (.bool k) { s with toks := t } := fun k q t => ⟨.bl k, H, I.tok t, rfl, q⟩
  cases x with
  | non => cases g <;> first | exact (show False from e).elim | (cases rx; exact h1 (fin _ q))
  | bl b => cases g <;> first | exact (show False from e).elim | (cases rx; exact h2 (fin _ q))
  | int i => cases g <;> first | exact (show False from e).elim | (obtain ⟨t, rfl⟩ := rx; exact h3 (fin _ q))
  | str y => cases g <;> first | exact (show False from e).elim | (obtain ⟨t, rfl⟩ := rx; exact h4 (fin _ q))
  | ref a =>
    cases rx
    cases g with
    | tup =>
      obtain ⟨xs, hx⟩ := (show ∃ xs, SqT X.K H a xs from e)
      obtain ⟨its, _, ⟨o, ho, hc, _⟩, _⟩ := I.tuple hx
      exact h5 ho hc (fin _ q)
    | lst =>
      obtain ⟨xs, hx⟩ := (show ∃ xs, SqL X.K H a xs from e)
      obtain ⟨its, _, ⟨o, n, ho, hc, _⟩, _⟩ := I.list hx
      exact h6 ho hc (fin _ q)
    | non => exact (show False from e).elim
    | bl => exact (show False from e).elim
    | int => exact (show False from e).elim
    | str => exact (show False from e).elim
  | _ => exact (show False from e).elim
theorem isi_int : CallR X (.builtin "isinstance") (rIsi X.K "int" Tg.isInt) := isi_of (fun q => IsiPair.NoneType_int (q _)) (fun q => IsiPair.bool_int (q _)) (fun q => IsiPair.int_int (q _)) (fun q => IsiPair.str_int (q _))
  (fun ho hc q => call_isinstance (isinstance_false_tuple (by decide) PySem.F.isi_meta_int PySem.F.sub_tuple_int) ⟨⟨_, ho, hc⟩, q _⟩) (fun ho hc q => call_isinstance (isinstance_false_list (by decide) PySem.F.isi_meta_int PySem.F.sub_list_int) ⟨⟨_, ho, hc⟩, q _⟩)
theorem isi_bool : CallR X (.builtin "isinstance") (rIsi X.K "bool" Tg.isBool) := isi_of (fun q => IsiPair.NoneType_bool (q _)) (fun q => IsiPair.bool_bool (q _)) (fun q => IsiPair.int_bool (q _)) (fun q => IsiPair.str_bool (q _))
  (fun ho hc q => call_isinstance (isinstance_false_tuple (by decide) PySem.F.isi_meta_bool PySem.F.sub_tuple_bool) ⟨⟨_, ho, hc⟩, q _⟩) (fun ho hc q => call_isinstance (isinstance_false_list (by decide) PySem.F.isi_meta_bool PySem.F.sub_list_bool) ⟨⟨_, ho, hc⟩, q _⟩)
theorem isi_str : CallR X (.builtin "isinstance") (rIsi X.K "str" Tg.isStr) := isi_of (fun q => IsiPair.NoneType_str (q _)) (fun q => IsiPair.bool_str (q _)) (fun q => IsiPair.int_str (q _)) (fun q => IsiPair.str_str (q _))
  (fun ho hc q => call_isinstance (isinstance_false_tuple (by decide) PySem.F.isi_meta_str PySem.F.sub_tuple_str) ⟨⟨_, ho, hc⟩, q _⟩) (fun ho hc q => call_isinstance (isinstance_false_list (by decide) PySem.F.isi_meta_str PySem.F.sub_list_str) ⟨⟨_, ho, hc⟩, q _⟩)
theorem isi_tuple : CallR X (.builtin "isinstance") (rIsi X.K "tuple" Tg.isTup) := isi_of (fun q => IsiPair.NoneType_tuple (q _)) (fun q => IsiPair.bool_tuple (q _)) (fun q => IsiPair.int_tuple (q _)) (fun q => IsiPair.str_tuple (q _))
  (fun ho hc q => call_isinstance (isinstance_true (Tx := "tuple") PySem.F.isi_meta_tuple PySem.F.sub_tuple_tuple) ⟨⟨_, ho, hc⟩, q _⟩) (fun ho hc q => call_isinstance (isinstance_false_list (by decide) PySem.F.isi_meta_tuple PySem.F.sub_list_tuple) ⟨⟨_, ho, hc⟩, q _⟩)
theorem isi_list : CallR X (.builtin "isinstance") (rIsi X.K "list" Tg.isLst) := isi_of (fun q => IsiPair.NoneType_list (q _)) (fun q => IsiPair.bool_list (q _)) (fun q => IsiPair.int_list (q _)) (fun q => IsiPair.str_list (q _))
  (fun ho hc q => call_isinstance (isinstance_false_tuple (by decide) PySem.F.isi_meta_list PySem.F.sub_tuple_list) ⟨⟨_, ho, hc⟩, q _⟩) (fun ho hc q => call_isinstance (isinstance_true (Tx := "list") PySem.F.isi_meta_list PySem.F.sub_list_list) ⟨⟨_, ho, hc⟩, q _⟩)
/-- isinstance(e, T) of a built-in type -/
theorem pe_isi {e : Expr} {te : TE} {n : Str} {T : String} {f : Tg → Bool} {p p2 pos : Pos} (hc : CallR X (.builtin "isinstance") (rIsi X.K T f)) (hg : Gl X "isinstance") (hg2 : Gl X n) (hm : X.mg "isinstance" = none) (hm2 : X.mg n = none) (hb : bootBuiltins n = some (.type T)) (he : PE X e te)
    (hn : n ≠ "__name__" := by decide) (hd : (n == ("__debug__" : Str)) = false := by decide)
    (hs1 : starEach [e, .Name n p2] X.env = (false, eval e X.env) :: starEach [.Name n p2] X.env := by rfl) (hs2 : starEach [.Name n p2] X.env = (false, eval (.Name n p2) X.env) :: starEach [] X.env := by rfl)
    (hpl : (backTo pos (starEach [.Name n p2] X.env)).any (·.1) = false := by rfl) :
    PE X (.Call (.Name "isinstance" p) [e, .Name n p2] [] pos) (tCB (rIsi X.K T f) (tCons te (tCons (tC (.ty T)) tNil))) :=
  pe_callB hc hg hm bt_isinstance (pa_cons he (pa_cons (pe_bltn (v := .ty T) hg2 hm2 hb rfl hn hd) pa_nil hs2) hs1) (by decide) (by decide) hs1 hpl
end

/-! ### range(lo, hi, step), step above 0 -/
def Itr3 (lo c : Int) (n : Nat) : It := ⟨fun i _ => i < n, fun i H x H' => H' = H ∧ x = .int (lo + (i : Nat) * c), fun i _ => n ≤ i⟩
theorem turn_range3 {P : Program} {w : World} {K : PySem.W.Frag} {tg : Expr} (it : Addr) (lo c : Int) (n : Nat) : Turn P w K tg (Itr3 lo c n) [it] it (fun i h => IsRangeIter h it (lo + (i : Nat) * c) ((n : Int) - (i : Nat)) c) where
  mem := by simp
  obj := fun i h st b hb => by
    have e : b = it := by simpa using hb
    subst e
    exact ⟨_, st, fun v z => by
      have z' : Data.fields _ = Data.cell v := z
      cases z'⟩
  keep := fun i h h' st k => k it (by simp) _ st
  item := by
    intro X hP hw hK hc i pins s σ H E I hf st hg
    subst hP hw hK
    obtain ⟨f0, f1, f2, f3, f4, f5⟩ := hf it (by simp)
    have W := Walks.range (prog := X.prog) (w := X.w) (I.ok.hd hc) it lo c n
    refine W.item i s _ _ hg st fun v h' tk hv st' kk => ?_
    obtain ⟨t, rfl⟩ := hv
    have I1 : Inv X pins σ H { s with heap := h', toks := tk } := I.turned (fun b o hb e => kk b o (by simpa using hb) e) f0 f1 f3 f4 f5
    exact ⟨_, rfl, go_of (s := { s with heap := h', toks := tk }) (n := "range_iterator") st' rfl rfl (by decide) ⟨.int (lo + (i : Nat) * c), H, I1, ⟨t, rfl⟩, ⟨rfl, rfl⟩, st', fun b hb => (hf b hb).1⟩⟩
  done := by
    intro X hP hw hK hc i pins s σ H E I hf st hg
    subst hP hw hK
    obtain ⟨f0, f1, f2, f3, f4, f5⟩ := hf it (by simp)
    exact wpAny_pyNext_range_end (I.ok.hd hc) st (by have : n ≤ i := hg; omega) fun h' eb => ⟨rfl, I.turned (t' := s.toks) (fun b o hb e => eb b o hb e) f0 f1 f3 f4 f5⟩
  self := fun _ _ _ _ _ st h => wpAny_pyIter_rangeiter st h
def rngN (i j c : Int) : Nat := (Builtin.Range.rangeSize i j c).toNat
def iRng3 (ta : TA) : TI := fun σ H R => ta σ H fun vs H1 => ∃ i j c : Int, vs = [.int i, .int j, .int c] ∧ 0 < c ∧ c < 1073741824 ∧ Builtin.Range.small i j c = true ∧ R (Itr3 i c (rngN i j c)) H1
theorem rng_nonneg {i j c : Int} (hc : 0 < c) : 0 ≤ Builtin.Range.rangeSize i j c := by
  unfold Builtin.Range.rangeSize
  rw [if_pos hc]
  by_cases h : i < j
  · rw [if_pos h]
    have := Int.ediv_nonneg (show 0 ≤ j - i - 1 by omega) (Int.le_of_lt hc)
    omega
  · rw [if_neg h]; exact Int.le_refl _
section
variable {X : Cx} {tg : Expr}
theorem pi_range3 {a b c : Expr} {ta : TA} {p pos : Pos} (hg : Gl X "range") (hm : X.mg "range" = none) (ha : PA X [a, b, c] ta) (hs : starEach [a, b, c] X.env = (false, eval a X.env) :: starEach [b, c] X.env := by rfl) (hs2 : (backTo pos (starEach [b, c] X.env)).any (·.1) = false := by rfl) :
    PI X tg (.Call (.Name "range" p) [a, b, c] [] pos) (iRng3 ta) := by
  intro pins s σ H R I h
  refine Call_ (ld_blt I hg hm boot_range (PyProof.Rows.callWith_type1 (thn (ha pos pins s σ H _ I h) fun us s1 ⟨vs, H1, I1, r1, q1⟩ => ?_) hs hs2))
  obtain ⟨i, j, d, e, h0, h1, hsm, q⟩ := q1
  subst e
  cases r1 with
  | cons r rr =>
    cases rr with
    | cons r' rr =>
      cases rr with
      | cons r'' rr =>
        cases rr
        obtain ⟨t, rfl⟩ := r
        obtain ⟨t', rfl⟩ := r'
        obtain ⟨t'', rfl⟩ := r''
        refine call_range_3 (Int.ne_of_gt h0) ?_ (.inl (PyProof.noPylong_small (by omega)))
        refine wpAny_pyIter_range (IsRange.new ..) hsm ?_
        have I2 : Inv X pins σ H1 { s1 with heap := s1.heap.push { cls := .type "range", data := .fields #[.int i t, .int j t', .int d t''] }, toks := s1.toks } := I1.kept fun b o e => Heap.get?_push_of_some _ e
        refine ⟨(s1.heap.push { cls := .type "range", data := .fields #[.int i t, .int j t', .int d t''] }).objs.size, [(s1.heap.push { cls := .type "range", data := .fields #[.int i t, .int j t', .int d t''] }).objs.size], _, _, H1, rfl,
          I2.kept (t' := s1.toks) fun b o e => Heap.get?_push_of_some _ e, turn_range3 _ i d (rngN i j d), ?_, fun b hb => ?_, q⟩
        · have e1 : i + ((0 : Nat) : Int) * d = i := by simp
          have e2 : ((rngN i j d : Nat) : Int) - ((0 : Nat) : Int) = Builtin.Range.rangeSize i j d := by
            have := rng_nonneg (i := i) (j := j) h0
            unfold rngN
            omega
          show IsRangeIter _ _ (i + ((0 : Nat) : Int) * d) (((rngN i j d : Nat) : Int) - ((0 : Nat) : Int)) d
          rw [e1, e2]
          exact Heap.get?_push_size _ rfl
        · have e : b = (s1.heap.push { cls := .type "range", data := .fields #[.int i t, .int j t', .int d t''] }).objs.size := by simpa using hb
          subst e
          exact I2.fpOk (Nat.le_refl _) (I2.hok.fresh (Nat.le_refl _))
end
theorem for_range3 {lo c : Int} {n : Nat} {g : TG} {tb : TS} {D : Ends} {σ : St} {H : Hp} (Pv : Nat → St → Hp → Prop) (h0 : Pv 0 σ H)
    (hs : ∀ i σ H, i < n → Pv i σ H → g (.int (lo + (i : Nat) * c)) σ H fun σ2 H2 => tb { D with nx := Pv (i + 1), ct := Pv (i + 1), bk := D.nx } σ2 H2) (hd : ∀ σ H, Pv n σ H → D.nx σ H) :
    ∃ W : Nat → Nat → St → Hp → Prop, (∃ m, W 0 m σ H) ∧ ∀ i m σ H, W i m σ H →
      ((Itr3 lo c n).stop i H ∧ D.nx σ H) ∨ ((Itr3 lo c n).go i H ∧ ∃ N : St → Hp → Prop, (∀ σ' H', N σ' H' → ∃ m', m' < m ∧ W (i + 1) m' σ' H') ∧ ∀ x H', (Itr3 lo c n).yld i H x H' → g x σ H' fun σ2 H2 => tb { D with nx := N, ct := N, bk := D.nx } σ2 H2) := by
  refine ⟨fun i m σ H => m = n - i ∧ i ≤ n ∧ Pv i σ H, ⟨n, by simp, Nat.zero_le _, h0⟩, ?_⟩
  rintro i m σ H ⟨rfl, hi, p⟩
  by_cases hlt : i < n
  · refine .inr ⟨hlt, Pv (i + 1), fun σ' H' p' => ⟨n - (i + 1), by omega, rfl, hlt, p'⟩, fun x H' y => ?_⟩
    obtain ⟨e, y⟩ := y
    subst e y
    exact hs i σ _ hlt p
  · have e : i = n := by omega
    subst e
    exact .inl ⟨Nat.le_refl _, hd σ H p⟩
theorem Same.new {H : Hp} {p : Addr} (h : H p = none) (o : HO) : Same H (upd H p o) := fun b u q => by rw [upd_ne (ne_of_none q h)]; exact q
theorem Same.tup {K : PySem.W.Frag} {H H' : Hp} {a : Addr} {xs : List V} (e : Same H H') (h : SqT K H a xs) : SqT K H' a xs := by
  rcases h with (h | ⟨o, h⟩) | h
  · exact .inl (.inl (e _ _ h))
  · exact .inl (.inr ⟨o, e _ _ h⟩)
  · exact .inr h
/-- a def with defaults -/
structure FunD (K : PySem.W.Frag) (x qual : Str) (st : Stmt) (f : Addr) (fd : FuncData) : Prop where
  ex : ∃ (oc : Value) (od : Option Addr) (dV kV doc pm : Value) (an : Option Addr) (cdv ct : Value) (osl : Array (Option Value)),
    fd = PySem.W.fnOf x qual (defArgs st) (defBody st) (defScope st) dV kV doc pm an cdv ct ∧ K.lookup f = some ⟨oc, od, .func fd, osl⟩ ∧ PySem.W.codeIn K cdv qual = true
  kp : PySem.W.keepIn K (.ref f) = true
theorem fun_mkD {K : PySem.W.Frag} {x qual : Str} {st : Stmt} {f : Addr} {oc : Value} {od an : Option Addr} {osl : Array (Option Value)} {dV kV doc pm cdv ct : Value} (l : K.lookup f = some ⟨oc, od, .func (PySem.W.fnOf x qual (defArgs st) (defBody st) (defScope st) dV kV doc pm an cdv ct), osl⟩)
    (c : PySem.W.codeIn K cdv qual = true) (k : PySem.W.keepIn K (.ref f) = true) : FunD K x qual st f (PySem.W.fnOf x qual (defArgs st) (defBody st) (defScope st) dV kV doc pm an cdv ct) := ⟨⟨oc, od, dV, kV, doc, pm, an, cdv, ct, osl, rfl, l, c⟩, k⟩
theorem Fun.toD {K : PySem.W.Frag} {x qual : Str} {st : Stmt} {f : Addr} {fd : FuncData} (F : Fun K x qual st f fd) : FunD K x qual st f fd := by
  obtain ⟨oc, od, kV, doc, pm, an, cdv, ct, osl, e, l, c⟩ := F.ex
  exact ⟨⟨oc, od, .none, kV, doc, pm, an, cdv, ct, osl, e, l, c⟩, F.kp⟩
section
variable {X : Cx}
theorem op_fdivNB : OpR X (binaryOp .FloorDiv) (rI (fun _ j => j ≠ 0 ∧ Mid j) fun i j => .int (i.fdiv j)) := opI fun _ _ _ _ _ _ _ hc q => floordiv_int hc.1 q (.inl (PyProof.noPylong_of_log2 (log2_of_Mid hc.2)))
end
end L2

/-! exceptions over the layer: a flying exception behind a call, raise, try around one call -/
namespace L2
open PySem PySem.Spec PyProof.Rows

/-- how an exception lies behind a call: B holds all that stays as it is while the exception flies -/
def CXe (P : Program) (w : World) : CXT := fun outer H s E e s' => ∃ (a C : Addr) (a0 : Value) (H' : Hp) (B : Heap),
  e = .ref a ∧ s'.os = s.os ∧ AllBare s'.gens ∧ Un (frs outer) [] H H' s.heap s'.heap ∧ HOk P w H' B ∧ Heap.FlyingW B outer a (.ref C) a0 s'.heap ∧
  (∀ b o, s.heap.get? b = some o → H b = none → b ∉ frs outer → B.get? b = some o) ∧ (∀ b o, s.heap.get? b = some o → b ∉ frs outer → ∃ o', B.get? b = some o') ∧ E (.ref C) none H'

/-- no exception is wished: none comes -/
theorem passE0 {P : Program} {w : World} {X : Cx} : Passes (CXe P w) X E0 := fun _ _ _ _ _ _ _ h => by
  obtain ⟨_, _, _, _, _, _, _, _, _, _, _, _, _, q⟩ := h
  exact q.elim

section
variable {P : Program} {w : World} {K : PySem.W.Frag} {mg : Str → Option Value} {base : Heap} {N : List Str} {qual : Str} {scope : Scope} {f : Addr} {cd : Value} {A : Around} {outer : List Env} {s : Shared} {H : Hp} {E : XK}
  {pins : List (Addr × Obj)} {σ : St} {H1 : Hp} {s1 : Shared}
theorem own_frame {CX : CXT} : (cxOf CX P w K mg base N qual scope f cd A outer s H E).env.frame = some (cxOf CX P w K mg base N qual scope f cd A outer s H E).env.locals := rfl
theorem frs_own {CX : CXT} {b : Addr} : b ∈ frs (cxOf CX P w K mg base N qual scope f cd A outer s H E).stack ↔ b = s.heap.objs.size ∨ b ∈ frs outer := by
  show b ∈ (envOfC qual scope s.heap.objs.size f cd :: outer).filterMap (·.frame) ↔ _
  rw [List.filterMap_cons]
  exact List.mem_cons
/-- an exception just made in the body leaves the def -/
theorem raises_cx {h' : Heap} {e C : Addr} {vs : List Value} (I : Inv (cxOf (CXe P w) P w K mg base N qual scope f cd A outer s H E) pins σ H1 s1) (hx : Heap.MadeExcOf s1.heap h' e (.ref C) vs) (q : E (.ref C) none H1) :
    (cxOf (CXe P w) P w K mg base N qual scope f cd A outer s H E).xe (.ref e) { s1 with heap := h' } := by
  have hin : ∀ env ∈ (cxOf (CXe P w) P w K mg base N qual scope f cd A outer s H E).stack, ∀ b, env.frame = some b → b ∈ frs (cxOf (CXe P w) P w K mg base N qual scope f cd A outer s H E).stack := fun env he b hb => List.mem_filterMap.mpr ⟨env, he, hb⟩
  have toB : ∀ b o, s1.heap.get? b = some o → b ∉ frs (cxOf (CXe P w) P w K mg base N qual scope f cd A outer s H E).stack → (PySem.W.hideAll s1.heap (frs (cxOf (CXe P w) P w K mg base N qual scope f cd A outer s H E).stack)).get? b = some o := fun b o e n => PySem.W.hideAll_get _ e n
  have hl := PySem.W.funFrames_hide (as := frs (cxOf (CXe P w) P w K mg base N qual scope f cd A outer s H E).stack) I.stack hin
  have nstk : ∀ b o, s.heap.get? b = some o → b ∉ frs outer → b ∉ frs (cxOf (CXe P w) P w K mg base N qual scope f cd A outer s H E).stack := fun b o e n z => by
    rcases frs_own.mp z with z | z
    · rw [z] at e
      exact absurd (Heap.lt_size e) (Nat.lt_irrefl _)
    · exact n z
  have hB : HOk P w H1 (PySem.W.hideAll s1.heap (frs (cxOf (CXe P w) P w K mg base N qual scope f cd A outer s H E).stack)) := fun b u eu => (I.hok b u eu).stay (fun c v hc q => toB c v q fun z => by
    have n := I.stkFree c z
    rcases hc with hc | hc
    · rw [hc, eu] at n; cases n
    · rw [hc] at n; cases n) (fun _ q => q) fun _ _ q => q
  refine wpAny_leaves_madeW (base := PySem.W.hideAll s1.heap (frs (cxOf (CXe P w) P w K mg base N qual scope f cd A outer s H E).stack)) (h := s1.heap) (s := { s1 with heap := h' }) I.ok.frames rfl (fun b o q => PySem.W.of_hideAll _ q) hl hx fun h2 t fl tup ht us => ?_
  refine ⟨e, C, .ref t, H1, _, rfl, I.os, I.bare, ?_, hB, fl, ?_, ?_, q⟩
  · have cs : ∀ b ∈ frs outer, ∀ o, s1.heap.get? b = some o → ∃ sl, h2.get? b = some { o with slots := sl } := fun b hb o e => by
      obtain ⟨_, o', e', hd⟩ := I.funs.mem hb
      rw [e] at e'; cases e'
      exact us b o (hx.keeps b o e) hd
    exact {
      keep := fun b o e n hb _ => fl.1 b o (toB b o (I.base.keep b o e n hb (by exact fun z => nomatch z)) (nstk b o e hb))
      slot := fun b o e n hb _ => by
        obtain ⟨sl, e1⟩ := I.base.slot b o e n hb (by exact fun z => nomatch z)
        obtain ⟨sl', e2⟩ := cs b hb _ e1
        exact ⟨sl', e2⟩
      free := fun b o e n _ => I.base.free b o e n (by exact fun z => nomatch z)
      there := fun b o e _ => by
        obtain ⟨o', e1⟩ := I.base.there b o e (by exact fun z => nomatch z)
        by_cases hb : b ∈ frs outer
        · obtain ⟨sl, e2⟩ := cs b hb _ e1
          exact ⟨_, e2⟩
        · exact ⟨o', fl.1 b o' (toB b o' e1 (nstk b o e hb))⟩
      tups := I.base.tups
      frzs := I.base.frzs
      tbls := I.base.tbls }
  · exact fun b o e n hb => toB b o (I.base.keep b o e n hb (by exact fun z => nomatch z)) (nstk b o e hb)
  · intro b o e hb
    obtain ⟨o', e1⟩ := I.base.there b o e (by exact fun z => nomatch z)
    exact ⟨o', toB b o' e1 (nstk b o e hb)⟩
/-- an exception of a callee passes on -/
theorem passes_on : Passes (CXe P w) (cxOf (CXe P w) P w K mg base N qual scope f cd A outer s H E) E := by
  intro pins σ H1 s1 e s' I cx
  obtain ⟨a, C, a0, H', B, rfl, os, bare, un, hB, fl, kU, kT, q⟩ := cx
  have nstk : ∀ b o, s.heap.get? b = some o → b ∉ frs outer → b ∉ frs (cxOf (CXe P w) P w K mg base N qual scope f cd A outer s H E).stack := fun b o e n z => by
    rcases frs_own.mp z with z | z
    · rw [z] at e
      exact absurd (Heap.lt_size e) (Nat.lt_irrefl _)
    · exact n z
  have sub : ∀ b ∈ frs outer, b ∈ frs (cxOf (CXe P w) P w K mg base N qual scope f cd A outer s H E).stack := fun b hb => frs_own.mpr (.inr hb)
  have ff : s'.heap.FunFrames B (cxOf (CXe P w) P w K mg base N qual scope f cd A outer s H E).stack := fl.2.2.1
  refine wpAny_leaves_onW (s := s') I.ok.frames rfl fl fun h2 fl2 us => ?_
  have cs : ∀ b ∈ frs outer, ∀ o, s'.heap.get? b = some o → ∃ sl, h2.get? b = some { o with slots := sl } := fun b hb o e => by
    obtain ⟨_, o', e', hd⟩ := ff.mem (sub b hb)
    rw [e] at e'; cases e'
    exact us b o e hd
  have no : ∀ b : Addr, b ∉ ([] : List Addr) := fun b z => nomatch z
  refine ⟨a, C, a0, H', B, rfl, os.trans I.os, bare, ?_, hB, fl2, ?_, ?_, q⟩
  · exact {
      keep := fun b o e n hb _ => fl2.1 b o (kU b o (I.base.keep b o e n hb (no b)) (I.base.free b o e n (no b)) (nstk b o e hb))
      slot := fun b o e n hb _ => by
        obtain ⟨sl, e1⟩ := I.base.slot b o e n hb (no b)
        obtain ⟨sl', e2⟩ := un.slot b _ e1 (I.base.free b o e n (no b)) (sub b hb) (no b)
        obtain ⟨sl'', e3⟩ := cs b hb _ e2
        exact ⟨sl'', e3⟩
      free := fun b o e n _ => by
        obtain ⟨o', e1⟩ := I.base.there b o e (no b)
        exact un.free b o' e1 (I.base.free b o e n (no b)) (no b)
      there := fun b o e _ => by
        obtain ⟨o1, e1⟩ := I.base.there b o e (no b)
        by_cases hb : b ∈ frs outer
        · obtain ⟨o2, e2⟩ := un.there b o1 e1 (no b)
          obtain ⟨sl, e3⟩ := cs b hb _ e2
          exact ⟨_, e3⟩
        · obtain ⟨o2, e2⟩ := kT b o1 e1 (nstk b o e hb)
          exact ⟨o2, fl2.1 b o2 e2⟩
      tups := fun b xs z => un.tups b xs (I.base.tups b xs z)
      frzs := fun b o u z => un.frzs b o u (I.base.frzs b o u z)
      tbls := fun b ps z => by
        obtain ⟨m1, e1⟩ := I.base.tbls b ps z
        obtain ⟨m2, e2⟩ := un.tbls b _ e1
        exact ⟨m1 ++ m2, by rw [e2, Array.append_assoc]⟩ }
  · exact fun b o e n hb => kU b o (I.base.keep b o e n hb (no b)) (I.base.free b o e n (no b)) (nstk b o e hb)
  · intro b o e hb
    obtain ⟨o1, e1⟩ := I.base.there b o e (no b)
    exact kT b o1 e1 (nstk b o e hb)
/-- THE RULE for a def that may raise -/
theorem FunD.okE {x qual : Str} {st : Stmt} {f : Addr} {fd : FuncData} {N ps : List Str} {k : Nat} {sp : Sp} (F : FunD K x qual st f fd) (S : FnScope N ps (defScope st)) (len : ∀ vs H Q E, sp vs H Q E → vs.length = ps.length)
    (hbody : ∀ (cdv : Value) (A : Around) (outer : List Env) (s : Shared) (H : Hp) (vs : List V) (Q : VK) (E : XK), Room k (A.deeper (envOfC qual (defScope st) s.heap.objs.size f cdv)) → sp vs H Q E →
      ∃ t, PSs (cxOf (CXe P w) P w K mg base N qual (defScope st) f cdv A outer s H E) (defBody st) t ∧ t { nx := fun _ H' => Q .non H', rt := Q } (start N vs) H) : FnOk P w K mg base (CXe P w) (k + 1) f fd ps sp := by
  obtain ⟨oc, od, dV, kV, doc, pm, an, cdv, ct, osl, rfl, lk, hcd⟩ := F.ex
  exact fn_of lk hcd S len fun A outer s H vs Q E hr hsp => hbody cdv A outer s H vs Q E hr hsp
end

/-! ### raise C(..) of an own class under ValueError -/
abbrev bmVE : List Value := [.type "ValueError", .type "Exception", .type "BaseException", .type "object"]
theorem topRead_any {p : Program} {mg mb : Str → Option Value} {h : Heap} (g : h.Ns mainGlobals mg) (b : h.Ns builtinsNs mb) (nl : h.NoLimit) (bl : ∀ x : Str, x ≠ "__name__" → mb x = bootBuiltins x) :
    ∃ loose, PySem.W.TopRead p loose mg mb h := by
  obtain ⟨o, es, ep, ho, hd, hk, hm⟩ := id g
  refine ⟨es.toList.filterMap (fun (e : DictEntry) => match e.key with | .str n _ => some n | _ => none), ⟨g, b, nl, bl, fun x _ hx _ _ _ => ?_⟩⟩
  rw [← hm x]
  unfold nsFind findBy
  rw [Option.map_eq_none_iff, Array.find?_eq_none]
  intro e he hs
  obtain ⟨n, t, hn⟩ := hk e he
  apply hx
  refine List.mem_filterMap.mpr ⟨e, Array.mem_toList_iff.mpr he, ?_⟩
  rw [hn] at hs ⊢
  have e2 : n = x := by simpa [Value.isStr] using hs
  rw [e2]
def tRaise (C : Addr) (E : XK) (t : TA) : TS := fun _ σ H => t σ H fun vs H1 => vs.length ≤ sizeLine ∧ E (.ref C) none H1
/-- an exception of the class at C, just made, is as E wishes -/
def Raises (X : Cx) (C : Addr) (E : XK) : Prop := ∀ (pins : List (Addr × Obj)) (σ : St) (H : Hp) (s : Shared) (h' : Heap) (e : Addr) (vs : List Value), Inv X pins σ H s → Heap.MadeExcOf s.heap h' e (.ref C) vs → E (.ref C) none H → X.xe (.ref e) { s with heap := h' }
theorem raisesE {P : Program} {w : World} {K : PySem.W.Frag} {mg : Str → Option Value} {base : Heap} {N : List Str} {qual : Str} {scope : Scope} {f C : Addr} {cd : Value} {A : Around} {outer : List Env} {s : Shared} {H : Hp} {E : XK} :
    Raises (cxOf (CXe P w) P w K mg base N qual scope f cd A outer s H E) C E := fun _ _ _ _ _ _ _ I me q => raises_cx I me q
section
variable {X : Cx} {E : XK} {x : Str} {np cpos pos : Pos} {e0 : Expr} {es : List Expr} {t : TA} {C : Addr}
theorem ps_raise (hc : X.calm = true) (O : PySem.W.excIn X.K C bmVE "ValueError.__new__" = true) (hn : PySem.W.nsIn X.K mainGlobals x = some (some (.ref C))) (hm : X.mg x = some (.ref C)) (hg : Gl X x) (hx : Raises X C E) (ha : PA X (e0 :: es) t)
    (hd : (x == ("__debug__" : Str)) = false := by decide) (he : starEach (e0 :: es) X.env = (false, eval e0 X.env) :: starEach es X.env := by rfl) (hpl : (backTo cpos (starEach es X.env)).any (·.1) = false := by rfl) :
    PS X (.Raise (some (.Call (.Name x np) (e0 :: es) [] cpos)) none pos) (tRaise C E t) := by
  intro pins s σ H D I h
  obtain ⟨mb, b1, b2⟩ := I.mod.blt
  obtain ⟨loose, TR⟩ := topRead_any (p := X.prog) I.mod.glob b1 I.mod.nolimit b2
  have OC := PySem.W.own_of_in I.mod.kin TR hn O
  obtain ⟨tl, Nn, nm, qq, bs, hdct, sn, sub, ab, col, dd, k0, k1, k2, k3, k5, mN, oC, oN, oi, oT⟩ := OC.obj
  have hp2 : (backTo cpos (starEach (e0 :: es) X.env)).any (·.1) = false := by
    rw [he]
    show (false || (backTo cpos (starEach es X.env)).any (·.1)) = false
    rw [hpl]
    rfl
  refine wpAny_Raise_call_subU (C := C) (nm := nm) (q := qq) (N := Nn) (bs := bs) (bm := tl) (hdct := hdct) (sn := sn) (sub := sub) (ab := ab) (col := col) (dd := dd) (k0 := k0) (k1 := k1) (k2 := k2) (k3 := k3) (k5 := k5)
    PySem.F.excBase_ValueError (by decide) PySem.F.excBase_ValueError (mN := mN) (oT.hasType PySem.F.excBase_ValueError.hasBase) (I.ok.hd hc) hp2 oi (ld_glob I hg hm ⟨rfl, ?_⟩ hd)
  have hA := ha cpos pins s σ H _ I h
  rw [he] at hA ⊢
  refine Calls.evalArgs_plain (thn hA fun us s2 ⟨vs, H2, I2, r2, hl, q⟩ => ⟨rfl, by rw [← r2.length]; exact hl, I2.bk _ _ oC, oN.keeps I2.bk, oT.keeps I2.bk, fun h' e me => hx pins σ H2 s2 h' e us I2 me q⟩)
end

/-! ### try around one call -/
abbrev Cx.marked (X : Cx) (a : Addr) : Cx := { X with A := X.A.mark (some (.ref a)), calm := false }
section
variable {X : Cx} {pins : List (Addr × Obj)} {σ : St} {H H' : Hp} {s s' : Shared}
theorem Cx.Ok.marked (ok : X.Ok) (a : Addr) : (X.marked a).Ok :=
  ⟨ok.mod, ok.kind, ok.glob, ok.blt, ok.above, ok.inj, ok.has, ok.cab, (fun z => nomatch z), ok.frames, ok.stk, ok.exf, ok.bs, ok.bsz, ok.noex, ok.exfs, ok.funs, ok.frf⟩
theorem Inv.marked (I : Inv X pins σ H s) (a : Addr) : Inv (X.marked a) pins σ H s := ⟨I.ok.marked a, I.os, I.bare, I.base, I.loc, I.cell, I.free, I.freeC, I.pin, I.hok, I.len⟩
theorem Inv.unmarked {a : Addr} (I : Inv (X.marked a) pins σ H s) (ok : X.Ok) : Inv X pins σ H s := ⟨ok, I.os, I.bare, I.base, I.loc, I.cell, I.free, I.freeC, I.pin, I.hok, I.len⟩
theorem SP.unmarked {a : Addr} {D : Ends} {f : Flow} (h : SP (X.marked a) pins D f s') (ok : X.Ok) : SP X pins D f s' := by
  cases f with
  | next => obtain ⟨σ', H', I, q⟩ := h; exact ⟨σ', H', I.unmarked ok, q⟩
  | brk => obtain ⟨σ', H', I, q⟩ := h; exact ⟨σ', H', I.unmarked ok, q⟩
  | cont => obtain ⟨σ', H', I, q⟩ := h; exact ⟨σ', H', I.unmarked ok, q⟩
  | ret u => obtain ⟨v, σ', H', I, r, q⟩ := h; exact ⟨v, σ', H', I.unmarked ok, r, q⟩
/-- the state while the exception flies, or is looked at -/
theorem Inv.flown {B h2 : Heap} (I : Inv X pins σ H s) (os : s'.os = s.os) (bare : AllBare s'.gens) (un : Un (frs X.stack) [] H H' s.heap s'.heap) (hB : HOk X.prog X.w H' B) (ff : s'.heap.FunFrames B X.stack)
    (kU : ∀ b o, s.heap.get? b = some o → H b = none → b ∉ frs X.stack → B.get? b = some o) (kT : ∀ b o, s.heap.get? b = some o → b ∉ frs X.stack → ∃ o', B.get? b = some o') (st : B.StaysIn h2) (us : s'.heap.UpToSlots h2) :
    Inv X pins σ H' { s' with heap := h2 } := by
  have cs : ∀ b ∈ frs X.stack, ∀ o, s'.heap.get? b = some o → ∃ sl, h2.get? b = some { o with slots := sl } := fun b hb o e => by
    obtain ⟨_, o', e', hd⟩ := ff.mem hb
    rw [e] at e'; cases e'
    exact us b o e hd
  have u2 : Un (frs X.stack) [] H H' s.heap h2 := {
    keep := fun b o e n hb _ => st b o (kU b o e n hb)
    slot := fun b o e n hb hx => by
      obtain ⟨sl, e1⟩ := un.slot b o e n hb hx
      obtain ⟨sl', e2⟩ := cs b hb _ e1
      exact ⟨sl', e2⟩
    free := un.free
    there := fun b o e hx => by
      by_cases hb : b ∈ frs X.stack
      · obtain ⟨o2, e2⟩ := un.there b o e hx
        obtain ⟨sl, e3⟩ := cs b hb _ e2
        exact ⟨_, e3⟩
      · obtain ⟨o2, e2⟩ := kT b o e hb
        exact ⟨o2, st b o2 e2⟩
    tups := un.tups
    frzs := un.frzs
    tbls := un.tbls }
  obtain ⟨hh, g, d, t, os'⟩ := s'
  obtain rfl : os' = s.os := os
  show Inv X pins σ H' { s with heap := h2, gens := g, drawn := d, toks := t }
  exact I.call (h' := h2) (g' := g) (d' := d) (t' := t) (ch := []) u2 (hB.kept st) bare (fun b z => absurd z (by simp))
end
/-- the class at C is met by the name x, whose class is at T -/
structure Meets1 (X : Cx) (x : Str) (T : Addr) (C : Addr) (b : Bool) : Prop where
  gl : Gl X x
  m : X.mg x = some (.ref T)
  ex : PySem.W.exmOne X.K (.ref C) (.ref T) = some b
  db : (x == ("__debug__" : Str)) = false
section
variable {X : Cx} {pins : List (Addr × Obj)} {σ : St} {H : Hp} {s s' : Shared} {E : XK} {ex : Value} {x : Str} {T : Addr} {np hpos : Pos} {b0 : Stmt} {suite : List Stmt} {ts : TS} {D : Ends} {Q0 : Hp → Prop}
theorem caught_ok (I : Inv X pins σ H s) (hst : X.stack = X.env :: X.outer) (hf : X.env.frame = some X.env.locals) (h0 : ∀ e s, X.xe e s → False) (cx : CXe X.prog X.w X.stack H s E ex s')
    (hE : ∀ C H', E (.ref C) none H' → Meets1 X x T C true ∧ ts D σ H') (hs : ∀ a, PSs (X.marked a) (b0 :: suite) ts) :
    wpAny (model X.prog X.w) X.A (noteFrame ex X.env) (fun _ s2 => wpAny (model X.prog X.w) X.A (setFlight ex none) (fun _ s3 =>
      wpAny (model X.prog X.w) X.A (handleBy ex X.env [.ExceptHandler (some (.Name x np)) none (b0 :: suite) hpos]) (SP X pins D) X.xe s3) X.xe s2) X.xe s' := by
  obtain ⟨a, C, a0, H', B, rfl, os, bare, un, hB, fl, kU, kT, q⟩ := cx
  obtain ⟨M1, q⟩ := hE C H' q
  have ff := fl.2.2.1
  have fl' : Heap.FlyingW B (X.env :: X.outer) a (.ref C) a0 s'.heap := by rw [← hst]; exact fl
  have hfr : X.A.frames = some (X.env :: X.outer) := by rw [← hst]; exact I.ok.frames
  refine wpAny_looks_onW (s := s') hfr hf fl' fun h4 held4 us4 => ?_
  refine wpAny_landsW held4 fun h5 fl5 us5 => ?_
  have us45 := us4.trans us5
  have I5 : Inv X pins σ H' { s' with heap := h5 } := I.flown os bare un hB ff kU kT fl5.1 us45
  refine wpAny_handleBy_cons (codeAny_handlers_test ?_) (by intro z; cases z)
  refine ld_glob (X := X.marked a) (I5.marked a) M1.gl M1.m ?_ M1.db
  have LT : PySem.W.Looks (model X.prog X.w) h5 (typeOf (.ref a)) (.ref C) := by
    obtain ⟨ob, hob, hc⟩ := fl5.there
    rw [← hc]
    exact (PySem.W.Looks.ld hob).andThen .now
  refine (PySem.W.exm_one I5.kIn LT M1.ex).here ?_
  refine codeAny_handlers_suite ?_
  refine lands_againW (s := { s' with heap := h5 }) fl5 fun h6 fl6 us6 => ?_
  have I6 : Inv X pins σ H' { s' with heap := h6 } := I.flown os bare un hB ff kU kT fl6.1 (us45.trans us6)
  exact wpAny_mono (hs a pins { s' with heap := h6 } σ H' D (I6.marked a) q) (fun f s9 z => z.unmarked I.ok) fun e s9 z => (h0 e s9 z).elim
end
/-- x = f(..) within try, one class caught, no name -/
def tTryA (i : Nat) (sp : Sp) (dvs : List V) (T : Addr) (Mt : Addr → Prop) (t : TA) (ts : TS) : TS := fun D σ H => t σ H fun vs H1 => sp (vs ++ dvs) H1 (fun v H2 => D.nx (σ.set i (some v)) H2) fun cls _ H2 => ∃ C, cls = .ref C ∧ Mt C ∧ ts D σ H2
section
variable {X : Cx} {k : Nat} {f : Addr} {fd : FuncData} {ps : List Str} {sp : Sp} {dvs : List V} {ds : List Value} {fx x cx : Str} {p cpos px apos np hpos pos : Pos} {e : Expr} {es : List Expr} {t : TA} {T : Addr} {b0 : Stmt} {suite : List Stmt} {ts : TS} {i : Nat}
theorem ps_tryA (F : FnOk X.prog X.w X.K X.mg X.base (CXe X.prog X.w) k f fd ps sp) (hr : Room k X.A) (hg : Gl X fx) (hm : X.mg fx = some (.ref f)) (hk : PySem.W.keepIn X.K (.ref f) = true) (hb : Binds X.K fd ps ds) (hd : Vals dvs ds) (h0 : ∀ e s, X.xe e s → False)
    (hst : X.stack = X.env :: X.outer) (hf : X.env.frame = some X.env.locals) (ha : PA X (e :: es) t) (hN : X.N.Nodup) (hi : X.N[i]? = some x) (hx : Loc X.env.scope x)
    (hs : ∀ a, PSs (X.marked a) (b0 :: suite) ts) (hdb : (fx == ("__debug__" : Str)) = false := by decide) (he : starEach (e :: es) X.env = (false, eval e X.env) :: starEach es X.env := by rfl) (hpl : (backTo cpos (starEach es X.env)).any (·.1) = false := by rfl)
    (hsw : swapsWith (.Call (.Name fx p) (e :: es) [] cpos) (some (.Name x px)) apos.line X.env = pure false := by rfl) (hfn : X.fn x = true ∨ X.env.scope.names.lookup x = some .local := by first | exact .inl rfl | exact .inr rfl | assumption) :
    PS X (.Try [.Assign [.Name x px] (.Call (.Name fx p) (e :: es) [] cpos) apos] [.ExceptHandler (some (.Name cx np)) none (b0 :: suite) hpos] [] [] pos) (tTryA i sp dvs T (fun C => Meets1 X cx T C true) t ts) := by
  intro pins s σ H D I h
  refine wpAny_Try_except ?_
  refine wpAny_execs_cons ?_
  refine wpAny_Assign_Name ?_ hsw
  refine wpAny_Call_Name_kw (ld_glob I hg hm ?_ hdb)
  refine PySem.W.callWith_K (h₀ := X.base) I.ok.mod.kin hk (wpAny_mono (ha cpos pins s σ H _ I h) (fun us s1 z => ?_) fun e s z => (h0 e s z).elim) he hpl
  obtain ⟨vs, H1, I1, r, q⟩ := z
  refine ⟨I1.kIn, ?_⟩
  have r2 : Vals (vs ++ dvs) (us ++ ds) := r.append hd
  have hl : (us ++ ds).length = ps.length := by rw [← r2.length]; exact F.len _ _ _ _ q
  refine wpAny_call (codeAny_mono (F.run X.A X.stack s1 H1 ⟨us, []⟩ (us ++ ds) (vs ++ dvs) _ _ hr I1.env0 (hb s1 us I1.kIn hl) r2 q) fun rr s' hq => ?_)
  cases rr with
  | error ex => exact caught_ok (ts := ts) I1 hst hf h0 (show CXe X.prog X.w X.stack H1 s1 (fun cls _ H2 => ∃ C, cls = .ref C ∧ Meets1 X cx T C true ∧ ts D σ H2) ex s' from hq) (fun C H' z => by
      obtain ⟨C', ec, m, z⟩ := z
      cases ec
      exact ⟨m, z⟩) hs
  | ok fl =>
    cases fl with
    | ret u =>
      obtain ⟨v, H2, I2, rv, q2⟩ := I1.after hq
      refine store_ok I2 hN hi hx rv (fun s2 I3 => ?_) hfn
      exact wpAny_execs_nil (wpAny_execs_nil ⟨_, H2, I3, q2⟩)
    | next => exact False.elim hq
    | brk => exact False.elim hq
    | cont => exact False.elim hq
end
end L2

/-! list comprehensions over the layer: the block has a namespace of its own, the def's names come in by their cells -/
namespace L2
open PySem PySem.Spec PyProof.Rows

section
variable {prog : Program} {w : World} {A : Around} {R : Result → Shared → Prop} {s : Shared}
abbrev NB (prog : Program) (w : World) (A : Around) (env : Env) (R : Result → Shared → Prop) : Value → Shared → Prop := notedBy (model prog w) A env fun e s' => R (.error e) s'
theorem comp_loop {elt tg iter : Expr} {scope : Scope} {pos : Pos} {itv acc : Value} {env : Env} (J : Nat → Shared → Prop)
    (turn : ∀ n s, J n s → wpAny (model prog w) A (pyNext itv) (fun r s1 => match r with
      | none => R (.ok .next) s1
      | some v => wpAny (model prog w) A (letOwnedTupleGo tg itv v) (fun _ s2 => wpAny (model prog w) A (assign tg env v) (fun _ s3 => wpAny (model prog w) A (eval elt env) (fun x s4 =>
          wpAny (model prog w) A (call (.builtin "list.append") [acc, x]) (fun _ s5 => ∃ m, m < n ∧ J m s5) (NB prog w A env R) s4) (NB prog w A env R) s3) (NB prog w A env R) s2) (NB prog w A env R) s1) (NB prog w A env R) s)
    (n : Nat) (h : J n s) : codeAny (model prog w) A (.compLoop (.ListComp elt [⟨tg, iter, [], 0⟩] scope pos) 0 itv acc env) R s := by
  refine codeAny_loop rfl J (fun n s hJ => ?_) n h
  show wpAny _ _ ((compTurn (.ListComp elt [⟨tg, iter, [], 0⟩] scope pos) 0 itv acc env).onRaise (fun x => do noteFrame x env; theTreesLotGoes x)) _ _ s
  refine wpAny_noted ?_
  rw [compTurn_list1]
  refine wpAny_bind (wpAny_standAt (wpAny_bind (wpAny_mono (turn n s hJ) (fun r s1 z => ?_) fun _ _ q => q)))
  match r, z with
  | none, z => exact wpAny_pure z
  | some v, z =>
    exact wpAny_bind (wpAny_mono z (fun _ s2 z => wpAny_bind (wpAny_mono z (fun _ s3 z => wpAny_bind (wpAny_bind (wpAny_mono z (fun x s4 z =>
      wpAny_bind (wpAny_mono z (fun _ s5 z => wpAny_pure (wpAny_pure ⟨rfl, z⟩)) fun _ _ q => q)) fun _ _ q => q))) fun _ _ q => q)) fun _ _ q => q)
end

/-! ### the names that the block takes in -/
theorem closure_from {env : Env} : ∀ (names : List (Str × NameKind)) (acc : List (Str × Addr)), (∀ y ∈ names, y.2 = .free → ∃ c, env.cells.lookup y.1 = some c) → (∀ x c, acc.lookup x = some c → env.cells.lookup x = some c) →
    ∃ cl, (forIn names acc (fun (x : Str × NameKind) cs => if (x.2 == NameKind.free) = true then (do let __do_lift ← cellOf env x.1; pure (ForInStep.yield ((x.1, __do_lift) :: cs))) else pure (ForInStep.yield cs)) : Sem (List (Str × Addr))) = pure cl ∧
      (∀ x c, cl.lookup x = some c → env.cells.lookup x = some c) ∧ (∀ x, (∃ c, acc.lookup x = some c) → ∃ c, cl.lookup x = some c) ∧ ∀ y ∈ names, y.2 = .free → ∃ c, cl.lookup y.1 = some c
  | [], acc, _, ha => ⟨acc, rfl, ha, fun _ h => h, fun _ h => nomatch h⟩
  | y :: r, acc, hn, ha => by
    by_cases hf : y.2 = .free
    · obtain ⟨c, hc⟩ := hn y List.mem_cons_self hf
      obtain ⟨cl, e, h1, h2, h3⟩ := closure_from r ((y.1, c) :: acc) (fun z hz => hn z (List.mem_cons_of_mem _ hz)) (fun x d e => by
        rw [List.lookup_cons] at e
        cases q : x == y.1 with
        | true => rw [q] at e; cases e; rw [eq_of_beq q]; exact hc
        | false => rw [q] at e; exact ha x d e)
      refine ⟨cl, ?_, h1, fun x ⟨d, hd⟩ => h2 x ?_, fun z hz zf => ?_⟩
      · rw [List.forIn_cons, if_pos (by rw [hf]; rfl)]
        have ec : cellOf env y.1 = pure c := by unfold cellOf; rw [hc]
        rw [ec]
        exact e
      · rw [List.lookup_cons]
        cases q : x == y.1 with
        | true => exact ⟨c, rfl⟩
        | false => exact ⟨d, hd⟩
      · rcases List.mem_cons.mp hz with z1 | z1
        · subst z1
          exact h2 z.1 ⟨c, by rw [List.lookup_cons, beq_self_eq_true]⟩
        · exact h3 z z1 zf
    · obtain ⟨cl, e, h1, h2, h3⟩ := closure_from r acc (fun z hz => hn z (List.mem_cons_of_mem _ hz)) ha
      refine ⟨cl, ?_, h1, h2, fun z hz zf => ?_⟩
      · rw [List.forIn_cons, if_neg (by simpa using hf)]
        exact e
      · rcases List.mem_cons.mp hz with z1 | z1
        · subst z1; exact absurd zf hf
        · exact h3 z z1 zf
theorem closure_of {env : Env} {sc : Scope} (h : ∀ y ∈ sc.names, y.2 = .free → ∃ c, env.cells.lookup y.1 = some c) :
    ∃ cl, closureFor sc env = pure cl ∧ (∀ x c, cl.lookup x = some c → env.cells.lookup x = some c) ∧ ∀ y ∈ sc.names, y.2 = .free → ∃ c, cl.lookup y.1 = some c := by
  obtain ⟨cl, e, h1, _, h3⟩ := closure_from sc.names [] h (fun x c e => by simp at e)
  refine ⟨cl, ?_, h1, h3⟩
  unfold closureFor
  simp only [e]
  rfl

/-- what must be seen of a comprehension's scope: sc the block's, fr the def's names that it uses, each with its slot -/
structure CompOk (X : Cx) (tg : Str) (sc : Scope) (fr : List (Str × Nat)) : Prop where
  kind : sc.kind = .function
  nocell : ∀ y ∈ sc.names, y.2 ≠ .cell
  locs : ∀ y ∈ sc.names, y.2 = .local → sc.names.lookup y.1 = some .local
  tgl : sc.names.lookup tg = some .local
  fre : ∀ y ∈ sc.names, y.2 = .free → X.env.scope.names.lookup y.1 = some .cell ∨ X.env.scope.names.lookup y.1 = some .free
  nd : (tg :: fr.map (·.1)).Nodup
  vis : ∀ p ∈ fr, X.N[p.2]? = some p.1 ∧ (X.env.scope.names.lookup p.1 = some .cell ∨ X.env.scope.names.lookup p.1 = some .free) ∧ sc.names.lookup p.1 = some .free
/-- the block's context -/
abbrev Cx.blk (X : Cx) (Nc : List Str) (sc : Scope) (cl : List (Str × Addr)) (C : Addr) (s3 : Shared) (H3 : Hp) (fp : List Addr) : Cx :=
  { X with N := Nc, s₀ := s3, H₀ := H3, env := compEnvC sc cl C X.env, outer := X.stack, ex := fp, fn := fun _ => false, pn := [], xe := fun _ _ => False }
theorem relabel_free {env : Env} : ∀ {names : List (Str × NameKind)} {x : Str} {k : NameKind}, (∀ y ∈ names, y.2 ≠ .cell) → (k = .cell ∨ k = .free) →
    (names.map fun (n, k) => if (k == NameKind.free && env.scope.kind == .function && env.kindOf n == some .cell) then (n, NameKind.cell) else (n, k)).lookup x = some k → ∃ y ∈ names, y.1 = x ∧ y.2 = .free
  | [], _, _, _, _, e => by simp at e
  | (n, k') :: r, x, k, hn, hk, e => by
    have ih := @relabel_free env r x k (fun y hy => hn y (List.mem_cons_of_mem _ hy)) hk
    rw [List.map_cons] at e
    by_cases hc : (k' == NameKind.free && env.scope.kind == .function && env.kindOf n == some .cell) = true
    · simp only [hc, if_true, List.lookup_cons] at e
      cases q : x == n with
      | true =>
        have hf : k' = .free := by
          simp only [Bool.and_eq_true, beq_iff_eq] at hc
          exact hc.1.1
        exact ⟨(n, k'), List.mem_cons_self, (eq_of_beq q).symm, hf⟩
      | false =>
        rw [q] at e
        obtain ⟨y, h1, h2⟩ := ih e
        exact ⟨y, List.mem_cons_of_mem _ h1, h2⟩
    · simp only [hc, Bool.false_eq_true, if_false, List.lookup_cons] at e
      cases q : x == n with
      | true =>
        rw [q] at e
        have ek : k' = k := Option.some.inj e
        rcases hk with z | z
        · exact absurd (ek.trans z) (hn (n, k') List.mem_cons_self)
        · exact ⟨(n, k'), List.mem_cons_self, (eq_of_beq q).symm, ek.trans z⟩
      | false =>
        rw [q] at e
        obtain ⟨y, h1, h2⟩ := ih e
        exact ⟨y, List.mem_cons_of_mem _ h1, h2⟩
theorem relabel_seen {env : Env} : ∀ {names : List (Str × NameKind)} {x : Str}, names.lookup x = some .free →
    (names.map fun (n, k) => if (k == NameKind.free && env.scope.kind == .function && env.kindOf n == some .cell) then (n, NameKind.cell) else (n, k)).lookup x = some .cell ∨
    (names.map fun (n, k) => if (k == NameKind.free && env.scope.kind == .function && env.kindOf n == some .cell) then (n, NameKind.cell) else (n, k)).lookup x = some .free
  | [], _, e => by simp at e
  | (n, k') :: r, x, e => by
    have ih := @relabel_seen env r x
    rw [List.map_cons]
    rw [List.lookup_cons] at e
    by_cases hc : (k' == NameKind.free && env.scope.kind == .function && env.kindOf n == some .cell) = true
    · simp only [hc, if_true, List.lookup_cons]
      cases q : x == n with
      | true => exact .inl rfl
      | false => rw [q] at e; exact ih e
    · simp only [hc, Bool.false_eq_true, if_false, List.lookup_cons]
      cases q : x == n with
      | true => rw [q] at e; exact .inr e
      | false => rw [q] at e; exact ih e
section
variable {X : Cx} {pins : List (Addr × Obj)} {σ : St} {H : Hp} {s3 s4 : Shared} {tg : Str} {sc : Scope} {fr : List (Str × Nat)} {fp : List Addr} {cl : List (Str × Addr)}
def inSt (σ : St) (fr : List (Str × Nat)) : St := fr.map fun p => (σ[p.2]?).join
/-- the block begins -/
theorem blk_start (ok : CompOk X tg sc fr) (I : Inv X pins σ H s3) (hf : ∀ b ∈ fp, FpOk X pins H b) (hfo : ∀ b ∈ fp, ∃ o, s3.heap.get? b = some o) (hk : ∀ x c, cl.lookup x = some c → X.env.cells.lookup x = some c) (hc : ∀ y ∈ sc.names, y.2 = .free → ∃ c, cl.lookup y.1 = some c)
    {h4 : Heap} {t4 : Nat} (hns : ∃ m, h4.Ns s3.heap.objs.size m) (hkeep : ∀ b o, s3.heap.get? b = some o → h4.get? b = some o) :
    Inv (X.blk (tg :: fr.map (·.1)) sc cl s3.heap.objs.size s3 H fp) [] (none :: inSt σ fr) H { s3 with heap := h4, toks := t4 } := by
  have hasc : ∀ x, ((relabel sc X.env).names.lookup x = some .cell ∨ (relabel sc X.env).names.lookup x = some .free) → ∃ c, cl.lookup x = some c := fun x hx => by
    obtain ⟨y, h1, h2, h3⟩ : ∃ y ∈ sc.names, y.1 = x ∧ y.2 = .free := by
      rcases hx with z | z
      · exact relabel_free ok.nocell (.inl rfl) z
      · exact relabel_free ok.nocell (.inr rfl) z
    subst h2
    exact hc y h1 h3
  have cell4 : ∀ x c, cl.lookup x = some c → ∀ v, s3.heap.IsCell c v → h4.IsCell c v := fun x c _ v ⟨o, ho, hd⟩ => ⟨o, hkeep c o ho, hd⟩
  have fresh : H s3.heap.objs.size = none := I.hok.fresh (Nat.le_refl _)
  refine ⟨⟨I.mod, ok.kind, I.ok.glob, I.ok.blt, Nat.le_refl _, fun x y c e1 e2 => I.ok.inj x y c (hk x c e1) (hk y c e2), hasc, (fun x c e => nomatch e), I.ok.hd, I.ok.frames, .inl rfl, fun b hb => ?_, I.bs, Nat.le_trans I.ok.bsz I.sz, fun b o e hb => ?_, fun b hb z => ?_, I.stack, I.stkFree⟩,
    rfl, I.bare, Un.kept hkeep, ?_, fun x c e => ?_, fresh, fun x c e => I.freeC x c (hk x c e), (fun p hp => nomatch hp), I.hok.kept hkeep, ?_⟩
  · obtain ⟨f0, f1, f2, f3, f4, f5⟩ := hf b hb
    refine ⟨fun z => ?_, fun x c e => f4 x c (hk x c e)⟩
    obtain ⟨o, eo⟩ := hfo b hb
    have z' : b = s3.heap.objs.size := z
    rw [z'] at eo
    exact absurd (Heap.lt_size eo) (Nat.lt_irrefl _)
  · obtain ⟨f0, f1, f2, f3, f4, f5⟩ := hf b hb
    rcases f3 with z | z
    · exact I.ok.noex b o e z
    · exact absurd (Nat.lt_of_lt_of_le (Nat.lt_of_lt_of_le (Heap.lt_size e) I.ok.bsz) z) (Nat.lt_irrefl _)
  · obtain ⟨f0, f1, f2, f3, f4, f5⟩ := hf b hb
    rcases List.mem_cons.mp (I.stkSub b z) with q | q
    · exact f1 q
    · exact f2 q
  · obtain ⟨m, hn⟩ := hns
    obtain ⟨m0, _, hl0⟩ := I.loc
    refine ⟨m, hn, fun i x v e1 e2 _ => ?_⟩
    cases i with
    | zero => cases e2
    | succ i =>
      have e2' : ((fr.map fun p => (σ[p.2]?).join))[i]? = some (some v) := e2
      have e1' : (fr.map (·.1))[i]? = some x := e1
      rw [List.getElem?_map] at e1' e2'
      cases q : fr[i]? with
      | none => rw [q] at e1'; cases e1'
      | some p =>
        rw [q] at e1' e2'
        have ex : p.1 = x := Option.some.inj e1'
        have ev : (σ[p.2]?).join = some v := Option.some.inj e2'
        obtain ⟨g1, g2, g3⟩ := ok.vis p (List.mem_of_getElem? q)
        have ev' : σ[p.2]? = some (some v) := by
          cases z : σ[p.2]? with
          | none => rw [z] at ev; cases ev
          | some w => rw [z] at ev; exact congrArg some ev
        have gv : Vis X.env.scope p.1 := g2.elim (fun z => .inr (.inl z)) fun z => .inr (.inr z)
        obtain ⟨u, ru, lk⟩ := hl0 p.2 p.1 v g1 ev' gv
        subst ex
        refine ⟨u, ru, .inr ⟨relabel_seen g3, ?_⟩⟩
        rcases lk with ⟨k1, _⟩ | ⟨_, c, ec, hcell⟩
        · rcases g2 with z | z
          · have k2 : X.env.scope.names.lookup p.1 = some .local := k1
            rw [z] at k2; cases k2
          · have k2 : X.env.scope.names.lookup p.1 = some .local := k1
            rw [z] at k2; cases k2
        · obtain ⟨c', ec'⟩ := hasc p.1 (relabel_seen g3)
          have e3 := hk _ _ ec'
          rw [ec] at e3
          cases e3
          exact ⟨c, ec', cell4 _ c ec' _ hcell⟩
  · obtain ⟨v, z⟩ := I.cell x c (hk x c e)
    exact ⟨v, cell4 x c e v z⟩
  · show (none :: inSt σ fr).length = (tg :: fr.map (·.1)).length
    simp [inSt]
end

/-- [elt for x in iter]: W the invariant by the turn and a measure -/
def tLC (fr : List (Str × Nat)) (wi : TI) (te : TE) : TE := fun σ H Q => wi σ H fun J H1 => ∀ acc, H1 acc = none → ∃ W : Nat → Nat → Hp → Prop, (∃ m, W 0 m (upd H1 acc (.lst []))) ∧ ∀ i m H2, W i m H2 →
  (J.stop i H2 ∧ Q (.ref acc) H2) ∨ (J.go i H2 ∧ ∀ x H3, J.yld i H2 x H3 → te (some x :: inSt σ fr) H3 fun v H4 => ∃ xs m', H4 acc = some (.lst xs) ∧ xs.length < sizeLine ∧ m' < m ∧ W (i + 1) m' (upd H4 acc (.lst (xs ++ [v]))))
section
variable {X : Cx} {elt iter : Expr} {x : Str} {px pos : Pos} {sc : Scope} {fr : List (Str × Nat)} {wi : TI} {te : TE}
theorem pe_lc (hc : X.calm = true) (ok : CompOk X x sc fr) (hi : PI X (.Name x px) iter wi) (he : ∀ cl C s3 H3 fp, PE (X.blk (x :: fr.map (·.1)) sc cl C s3 H3 fp) elt te) (hs : ∀ x, foldedSetIterable iter X.env x = pure x := by intro _; rfl) :
    PE X (.ListComp elt [⟨.Name x px, iter, [], 0⟩] sc pos) (tLC fr wi te) := by
  intro pins s σ H Q I h
  obtain ⟨cl, ecl, hk, hcx⟩ := closure_of (env := X.env) (sc := sc) (fun y hy yf => I.ok.has y.1 (ok.fre y hy yf))
  rw [eval_ListComp]
  refine wpAny_comprehension_free (use := none) rfl hs ecl ok.kind ok.locs (thn (hi pins s σ H _ I h) fun v s1 h1 => thn h1 fun itv s2 h2 => ?_)
  obtain ⟨it, fp, tn, J, H2, e, I2, T, st2, f2, q⟩ := h2
  subst e
  have hacc : H2 s2.heap.objs.size = none := I2.hok.fresh (Nat.le_refl _)
  obtain ⟨W, ⟨m0, w0⟩, turn⟩ := q s2.heap.objs.size hacc
  refine wpAny_newObj_type ?_
  have I3 := I2.laid (a := s2.heap.objs.size) (o := .lst []) (h' := s2.heap.push { cls := .type "list", data := .seq ([] : List Value).toArray }) (t' := s2.toks) (fun b u e => Heap.get?_push_of_some _ e) (Nat.le_refl _) ⟨Nat.zero_le _, [], 0, .nil, Heap.get?_push_size _ rfl⟩
  refine wpAny_newFunctionEnv ok.nocell (by intro y hy; simp at hy) (fun h4 hns4 hsb4 => ?_) ok.kind
  generalize hs3 : ({ s2 with heap := s2.heap.push { cls := .type "list", data := .seq ([] : List Value).toArray } } : Shared) = s3 at *
  have keep4 : ∀ b o, s3.heap.get? b = some o → h4.get? b = some o := fun b o e => hsb4.extBut b o (Nat.ne_of_lt (Heap.lt_size e)) (Heap.get?_push_of_some _ e)
  have keep3 : ∀ b o, s2.heap.get? b = some o → s3.heap.get? b = some o := fun b o e => by rw [← hs3]; exact Heap.get?_push_of_some _ e
  have hfo : ∀ b ∈ fp, ∃ o, s3.heap.get? b = some o := fun b hb => by
    obtain ⟨o, eo, _⟩ := T.obj 0 _ st2 b hb
    exact ⟨o, keep3 b o eo⟩
  have f3 : ∀ b ∈ fp, FpOk X pins (upd H2 s2.heap.objs.size (.lst [])) b := fun b hb => by
    obtain ⟨o, eo, _⟩ := T.obj 0 _ st2 b hb
    exact ⟨by rw [upd_ne (Nat.ne_of_lt (Heap.lt_size eo))]; exact (f2 b hb).1, (f2 b hb).2⟩
  have I4 := blk_start (t4 := s3.toks + ([] : List (Str × Value)).length) ok I3 f3 hfo hk hcx ⟨_, hns4⟩ keep4
  have st4 : tn 0 h4 := T.keep 0 s2.heap h4 st2 fun b hb o e => keep4 b o (keep3 b o e)
  have stat : ∀ {H' : Hp}, (∀ b ∈ fp, H' b = none) → ∀ b ∈ fp, FpOk (X.blk (x :: fr.map (·.1)) sc cl s3.heap.objs.size s3 (upd H2 s2.heap.objs.size (.lst [])) fp) [] H' b := fun hn b hb =>
    ⟨hn b hb, (I4.ok.exf b hb).1, I4.ok.exfs b hb, .inl hb, (I4.ok.exf b hb).2, fun p hp => nomatch hp⟩
  have lk : (relabel sc X.env).names.lookup x = some .local := lookup_relabel_local ok.tgl
  have loop : codeAny (model X.prog X.w) X.A (.compLoop (.ListComp elt [⟨.Name x px, iter, [], 0⟩] sc pos) 0 (.ref it) (.ref s2.heap.objs.size) (compEnvC sc cl s3.heap.objs.size X.env))
      (compPost (model X.prog X.w) X.A X.xe none (EP X pins σ Q) (.ref s2.heap.objs.size) s3.heap.objs.size) { s3 with heap := h4, toks := s3.toks + ([] : List (Str × Value)).length } := by
    refine comp_loop (fun n s' => ∃ i x0 H', Inv (X.blk (x :: fr.map (·.1)) sc cl s3.heap.objs.size s3 (upd H2 s2.heap.objs.size (.lst [])) fp) [] (x0 :: inSt σ fr) H' s' ∧ tn i s'.heap ∧ (∀ b ∈ fp, H' b = none) ∧ W i n H') ?_ m0
      ⟨0, none, _, I4, st4, fun b hb => (f3 b hb).1, w0⟩
    rintro n s5 ⟨i, x0, H5, I5, st5, fr5, w5⟩
    rcases turn i n H5 w5 with ⟨stop, qq⟩ | ⟨go, step⟩
    · refine thn (T.done (X.blk (x :: fr.map (·.1)) sc cl s3.heap.objs.size s3 (upd H2 s2.heap.objs.size (.lst [])) fp) rfl rfl rfl hc i [] s5 _ H5 _ I5 (stat fr5) st5 stop) fun r s6 ⟨hr, I6⟩ => ?_
      subst hr
      obtain ⟨m6, hn6, _⟩ := I6.loc
      refine ⟨m6, hn6, fun h7 hsb7 => ?_⟩
      have ne : ∀ b o, s3.heap.get? b = some o → b ≠ s3.heap.objs.size := fun b o e => Nat.ne_of_lt (Heap.lt_size e)
      have u6 : Un (frs X.stack) fp (upd H2 s2.heap.objs.size (.lst [])) H5 s3.heap s6.heap := I6.base
      have u7 : Un (frs X.stack) fp (upd H2 s2.heap.objs.size (.lst [])) H5 s3.heap h7 := {
        keep := fun b o e n hb hx => hsb7.extBut b o (ne b o e) (u6.keep b o e n hb hx)
        slot := fun b o e n hb hx => by
          obtain ⟨sl, e1⟩ := u6.slot b o e n hb hx
          exact ⟨sl, hsb7.extBut b _ (ne b o e) e1⟩
        free := u6.free
        there := fun b o e hx => by
          obtain ⟨o', e1⟩ := u6.there b o e hx
          exact ⟨o', hsb7.extBut b _ (ne b o e) e1⟩
        tups := u6.tups
        frzs := u6.frzs
        tbls := u6.tbls }
      have hok7 : HOk X.prog X.w H5 h7 := fun b u eu => (I6.hok b u eu).stay (fun c v hcx q => hsb7.extBut c v (fun z => by
        have nf := I6.free
        have z' : H5 s3.heap.objs.size = none := nf
        rw [← z] at z'
        rcases hcx with y | y
        · rw [y, eu] at z'; cases z'
        · rw [y] at z'; cases z') q) (fun _ q => q) fun _ _ q => q
      have os6 : s6.os = s3.os := I6.os
      have bare6 := I6.bare
      obtain ⟨hh, g, d, t, os'⟩ := s6
      obtain rfl : os' = s3.os := os6
      refine ⟨.ref s2.heap.objs.size, H5, ?_, rfl, qq⟩
      show Inv X pins σ H5 { s3 with heap := h7, gens := g, drawn := d, toks := t }
      exact I3.call (h' := h7) (g' := g) (d' := d) (t' := t) (ch := fp) u7 hok7 bare6 fun b hb => ⟨(f3 b hb).2.2.2.1, (f3 b hb).2.1, (f3 b hb).2.2.2.2.1, (f3 b hb).2.2.2.2.2⟩
    · refine thn (T.item (X.blk (x :: fr.map (·.1)) sc cl s3.heap.objs.size s3 (upd H2 s2.heap.objs.size (.lst [])) fp) rfl rfl rfl hc i [] s5 _ H5 _ I5 (stat fr5) st5 go) fun r s6 ⟨u, hr, h6⟩ => ?_
      subst hr
      refine thn h6 fun _ s7 ⟨y, H7, I7, r7, y7, st7, fr7⟩ => ?_
      have I7' := I7.pinned (stat fr7) (T.obj _ _ st7)
      refine wpAny_mono (pg_name (X := X.blk (x :: fr.map (·.1)) sc cl s3.heap.objs.size s3 (upd H2 s2.heap.objs.size (.lst [])) fp) (i := 0) (pos := px) ok.nd rfl (Or.inl lk) (.inr lk) _ s7 _ H7 y u (fun σ' H' => σ' = some y :: inSt σ fr ∧ H' = H7) I7' r7 ⟨rfl, rfl⟩) (fun _ s8 z => ?_) (fun e s z => (show False from z).elim)
      obtain ⟨σ8, H8, I8, e8, e8'⟩ := z
      subst e8 e8'
      refine wpAny_mono (he cl s3.heap.objs.size s3 (upd H2 s2.heap.objs.size (.lst [])) fp _ s8 _ H8 _ I8 (step y H8 y7)) (fun v s9 z => ?_) (fun e s z => (show False from z).elim)
      obtain ⟨z, H9, I9, r9, xs, m', ha, hl, hm, w9⟩ := z
      refine wpAny_mono (mt_append (X := X.blk (x :: fr.map (·.1)) sc cl s3.heap.objs.size s3 (upd H2 s2.heap.objs.size (.lst [])) fp) _ s9 _ H9 (.ref s2.heap.objs.size) [z] (.ref s2.heap.objs.size) [v] (fun _ H' => H' = upd H9 s2.heap.objs.size (.lst (xs ++ [z]))) I9 rfl (.cons r9 .nil) ⟨_, xs, z, rfl, rfl, ha, hl, rfl⟩) (fun _ s10 z => ?_) (fun e s z => (show False from z).elim)
      obtain ⟨_, H10, I10, _, e10⟩ := z
      subst e10
      refine ⟨m', hm, i + 1, some y, _, I10.unpinned, T.keep _ _ _ st7 fun b hb o e => (I10.pin (b, o) (List.mem_append_right _ (List.mem_append_right _ (mem_pinsAt hb e)))).1, fun b hb => ?_, w9⟩
      obtain ⟨o, e, d⟩ := T.obj _ _ st7 b hb
      exact (I10.pin (b, o) (List.mem_append_right _ (List.mem_append_right _ (mem_pinsAt hb e)))).2.1
  exact codeAny_compStart_list loop (T.self X.A 0 _ _ _ st4 loop)
end
end L2

/-! more rules: sum of a list of ints, tuples of ints compared, a name set to a comprehension -/
namespace L2
open PySem PySem.Spec PyProof.Rows
section
variable {X : Cx}
theorem ints_at {vs : List Value} {ns : List Int} (h : IntsAre vs ns) : ∀ {j : Nat} {v : Value}, vs[j]? = some v → ∃ n t, ns[j]? = some n ∧ v = .int n t := by
  induction h with
  | nil => intro j v e; simp at e
  | cons n t h ih =>
    intro j v e
    cases j with
    | zero => exact ⟨n, t, rfl, (Option.some.inj e).symm⟩
    | succ j => exact ih e
theorem call_sum (hc : X.calm = true) : CallR X (.builtin "sum") (fun xs H Q => ∃ (p : Addr) (ns : List Int), xs = [.ref p] ∧ SqL X.K H p (ns.map V.int) ∧ Q (.int ns.sum) H) := by
  intro pins s σ H xs us Q I r h
  obtain ⟨p, ns, rfl, hq, q⟩ := h
  obtain ⟨u, rfl, rx⟩ := vals1 r
  cases rx
  obtain ⟨its, r', pl, hz⟩ := I.list hq
  have ia : IntsAre its ns := intsAre_of r'
  have hlen : its.length = ns.length := by rw [← r'.length, List.length_map]
  have hp : p < s.heap.objs.size := by
    obtain ⟨o, ho, _⟩ := pl.isList
    exact Heap.lt_size ho
  refine call_sum_walkG (wpAny_pyIter_list pl.isList ⟨s.heap.objs.size, [s.heap.objs.size, p], [s.heap.objs.size], its.toArray.size, _, _, fun i => ns.getD i 0, rfl, Walks.list (A := X.A.in1) (show X.A.in1.handled = none from I.ok.hd hc) s.heap.objs.size p (Nat.ne_of_lt hp) its.toArray, ⟨⟨_, Heap.get?_push_size _ rfl, rfl, rfl⟩, pl.isList.at fun o e => Heap.get?_push_of_some _ e⟩, fun b hb => ?_, fun i v hv => ?_, fun h' tk t' hk => ?_⟩)
  · have hsz : ∀ o, (s.heap.push o).objs.size = s.heap.objs.size + 1 := fun o => Heap.size_push _ _
    show b < (s.heap.push _).objs.size
    rw [hsz]
    rcases List.mem_cons.mp hb with e | e
    · rw [e]; exact Nat.lt_succ_self _
    · rw [List.mem_singleton.mp e]; exact Nat.lt_succ_of_lt hp
  · have hv' : its[i]? = some v := by simpa using hv
    obtain ⟨n, t, en, ev⟩ := ints_at ia hv'
    refine ⟨t, ?_⟩
    show v = Value.int (ns.getD i 0) t
    rw [ev, List.getD_eq_getElem?_getD, en]
    rfl
  · have e : preSum (fun i => ns.getD i 0) its.toArray.size = ns.sum := by
      rw [preSum_getD, List.size_toArray, hlen, List.take_of_length_le (Nat.le_refl _)]
    rw [e]
    refine ⟨.int ns.sum, H, ?_, ⟨_, rfl⟩, q⟩
    exact I.kept (t' := tk) fun b o eb => hk b o (by
      intro z
      have z' := List.mem_singleton.mp z
      rw [z'] at eb
      exact absurd (Heap.lt_size eb) (Nat.lt_irrefl _)) (Heap.get?_push_of_some _ eb)
/-- two tuples of ints -/
theorem tup_all {ns ms : List Int} {e : Nat → Bool} (he : ∀ j, j < ns.length → j < ms.length → e j = decide (ns[j]? = ms[j]?)) : ((List.range (min ns.length ms.length)).all e && ns.length == ms.length) = decide (ns = ms) := by
  by_cases h : ns = ms
  · subst h
    rw [decide_eq_true rfl, Nat.min_self, beq_self_eq_true, Bool.and_true, List.all_eq_true]
    intro j hj
    have := List.mem_range.mp hj
    rw [he j this this, decide_eq_true rfl]
  · rw [decide_eq_false h]
    by_cases hl : ns.length = ms.length
    · rw [hl, Nat.min_self, beq_self_eq_true, Bool.and_true, Bool.eq_false_iff]
      intro z
      rw [List.all_eq_true] at z
      apply h
      apply List.ext_getElem? 
      intro j
      by_cases hj : j < ms.length
      · have q := z j (List.mem_range.mpr hj)
        rw [he j (by omega) hj] at q
        exact of_decide_eq_true q
      · rw [List.getElem?_eq_none (by omega), List.getElem?_eq_none (by omega)]
    · have : (ns.length == ms.length) = false := by simpa using hl
      rw [this, Bool.and_false]
def rEqT (K : PySem.W.Frag) (f : Bool → Bool) : R2 := fun x y H Q => ∃ (a b : Addr) (ns ms : List Int), x = .ref a ∧ y = .ref b ∧ SqT K H a (ns.map V.int) ∧ SqT K H b (ms.map V.int) ∧ Q (.bl (f (decide (ns = ms)))) H
theorem op_neT (hu : X.A.units < cLine) : OpR X (compareOp .NotEq) (rEqT X.K (fun b => !b)) := by
  intro pins s σ H x y v u Q I rx ry h
  obtain ⟨a, b, ns, ms, rfl, rfl, ha, hb, q⟩ := h
  cases rx
  cases ry
  obtain ⟨its, r1, p1, _⟩ := I.tuple ha
  obtain ⟨its2, r2, p2, _⟩ := I.tuple hb
  have i1 : IntsAre its ns := intsAre_of r1
  have i2 : IntsAre its2 ms := intsAre_of r2
  have l1 : its.length = ns.length := i1.length
  have l2 : its2.length = ms.length := i2.length
  have key := SeqAt.RcNeAt.tuples (A := X.A) (s := s) (l := a) (b := b) (items := its.toArray) (items2 := its2.toArray) (e := fun j => decide (ns[j]? = ms[j]?)) p1 p2 hu (fun j h1 h2 => by
    have h1' : j < its.length := by simpa using h1
    have h2' : j < its2.length := by simpa using h2
    obtain ⟨n, t, en, ev⟩ := ints_at i1 (List.getElem?_eq_getElem h1')
    obtain ⟨m, t', em, ew⟩ := ints_at i2 (List.getElem?_eq_getElem h2')
    have g1 : its.toArray[j] = .int n t := by rw [← ev]; simp
    have g2 : its2.toArray[j] = .int m t' := by rw [← ew]; simp
    rw [g1, g2, en, em]
    have e : decide (some n = some m) = (n == m) := by
      by_cases z : n = m
      · subst z; simp
      · simp [z]
    rw [e]
    exact SeqAt.EqAt.int_int n t m t')
  have e2 : (!((List.range (min its.toArray.size its2.toArray.size)).all (fun j => decide (ns[j]? = ms[j]?)) && its.toArray.size == its2.toArray.size)) = !decide (ns = ms) := by
    rw [List.size_toArray, List.size_toArray, l1, l2, tup_all (fun j _ _ => rfl)]
  rw [e2] at key
  exact key _ _ _ _ ⟨.bl (!decide (ns = ms)), H, I, rfl, q⟩
end
/-- y = [elt for x in iter], y in slot iy -/
def tSetLC (iy : Nat) (fr : List (Str × Nat)) (wi : TI) (te : TE) : TS := fun D σ H => tLC fr wi te σ H fun v H' => D.nx (σ.set iy (some v)) H'
section
variable {X : Cx} {elt iter : Expr} {x : Str} {px pos : Pos} {sc : Scope} {fr : List (Str × Nat)} {wi : TI} {te : TE}
theorem ps_setLC {y : Str} {py spos : Pos} {iy : Nat} (hN : X.N.Nodup) (hi' : X.N[iy]? = some y) (hy : Loc X.env.scope y) (hc : X.calm = true) (ok : CompOk X x sc fr) (hi : PI X (.Name x px) iter wi) (he : ∀ cl C s3 H3 fp, PE (X.blk (x :: fr.map (·.1)) sc cl C s3 H3 fp) elt te) (hs : ∀ x, foldedSetIterable iter X.env x = pure x := by intro _; rfl)
    (hsw : swapsWith (.ListComp elt [⟨.Name x px, iter, [], 0⟩] sc pos) (some (.Name y py)) spos.line X.env = pure true := by rfl) (hfn : X.fn y = true ∨ X.env.scope.names.lookup y = some .local := by first | exact .inl rfl | exact .inr rfl | assumption) :
    PS X (.Assign [.Name y py] (.ListComp elt [⟨.Name x px, iter, [], 0⟩] sc pos) spos) (tSetLC iy fr wi te) := by
  intro pins s σ H D I h
  obtain ⟨cl, ecl, hk, hcx⟩ := closure_of (env := X.env) (sc := sc) (fun y hy yf => I.ok.has y.1 (ok.fre y hy yf))
  rw [exec_Assign_Name_used _ _ _ _ hsw]
  refine wpAny_bind (wpAny_standAt (wpAny_bind ?_))
  show wpAny _ X.A (do let _ ← comprehension (.ListComp elt [⟨.Name x px, iter, [], 0⟩] sc pos) sc X.env _ (newList []) false (eval iter X.env) (some (assign (.Name y py) X.env))) _ _ s
  refine wpAny_bind (wpAny_mono (wpAny_comprehension_free (use := some (assign (.Name y py) X.env)) (Q := fun _ s' => SP X pins D .next s') rfl hs ecl ok.kind ok.locs ?_) (fun _ s' z => wpAny_pure (wpAny_pure z)) fun _ _ z => z)
  refine (thn (hi pins s σ H _ I h) fun v s1 h1 => thn h1 fun itv s2 h2 => ?_)
  obtain ⟨it, fp, tn, J, H2, e, I2, T, st2, f2, q⟩ := h2
  subst e
  have hacc : H2 s2.heap.objs.size = none := I2.hok.fresh (Nat.le_refl _)
  obtain ⟨W, ⟨m0, w0⟩, turn⟩ := q s2.heap.objs.size hacc
  refine wpAny_newObj_type ?_
  have I3 := I2.laid (a := s2.heap.objs.size) (o := .lst []) (h' := s2.heap.push { cls := .type "list", data := .seq ([] : List Value).toArray }) (t' := s2.toks) (fun b u e => Heap.get?_push_of_some _ e) (Nat.le_refl _) ⟨Nat.zero_le _, [], 0, .nil, Heap.get?_push_size _ rfl⟩
  refine wpAny_newFunctionEnv ok.nocell (by intro y hy; simp at hy) (fun h4 hns4 hsb4 => ?_) ok.kind
  generalize hs3 : ({ s2 with heap := s2.heap.push { cls := .type "list", data := .seq ([] : List Value).toArray } } : Shared) = s3 at *
  have keep4 : ∀ b o, s3.heap.get? b = some o → h4.get? b = some o := fun b o e => hsb4.extBut b o (Nat.ne_of_lt (Heap.lt_size e)) (Heap.get?_push_of_some _ e)
  have keep3 : ∀ b o, s2.heap.get? b = some o → s3.heap.get? b = some o := fun b o e => by rw [← hs3]; exact Heap.get?_push_of_some _ e
  have hfo : ∀ b ∈ fp, ∃ o, s3.heap.get? b = some o := fun b hb => by
    obtain ⟨o, eo, _⟩ := T.obj 0 _ st2 b hb
    exact ⟨o, keep3 b o eo⟩
  have f3 : ∀ b ∈ fp, FpOk X pins (upd H2 s2.heap.objs.size (.lst [])) b := fun b hb => by
    obtain ⟨o, eo, _⟩ := T.obj 0 _ st2 b hb
    exact ⟨by rw [upd_ne (Nat.ne_of_lt (Heap.lt_size eo))]; exact (f2 b hb).1, (f2 b hb).2⟩
  have I4 := blk_start (t4 := s3.toks + ([] : List (Str × Value)).length) ok I3 f3 hfo hk hcx ⟨_, hns4⟩ keep4
  have st4 : tn 0 h4 := T.keep 0 s2.heap h4 st2 fun b hb o e => keep4 b o (keep3 b o e)
  have stat : ∀ {H' : Hp}, (∀ b ∈ fp, H' b = none) → ∀ b ∈ fp, FpOk (X.blk (x :: fr.map (·.1)) sc cl s3.heap.objs.size s3 (upd H2 s2.heap.objs.size (.lst [])) fp) [] H' b := fun hn b hb =>
    ⟨hn b hb, (I4.ok.exf b hb).1, I4.ok.exfs b hb, .inl hb, (I4.ok.exf b hb).2, fun p hp => nomatch hp⟩
  have lk : (relabel sc X.env).names.lookup x = some .local := lookup_relabel_local ok.tgl
  have loop : codeAny (model X.prog X.w) X.A (.compLoop (.ListComp elt [⟨.Name x px, iter, [], 0⟩] sc pos) 0 (.ref it) (.ref s2.heap.objs.size) (compEnvC sc cl s3.heap.objs.size X.env))
      (compPost (model X.prog X.w) X.A X.xe (some (assign (.Name y py) X.env)) (fun _ s' => SP X pins D .next s') (.ref s2.heap.objs.size) s3.heap.objs.size) { s3 with heap := h4, toks := s3.toks + ([] : List (Str × Value)).length } := by
    refine comp_loop (fun n s' => ∃ i x0 H', Inv (X.blk (x :: fr.map (·.1)) sc cl s3.heap.objs.size s3 (upd H2 s2.heap.objs.size (.lst [])) fp) [] (x0 :: inSt σ fr) H' s' ∧ tn i s'.heap ∧ (∀ b ∈ fp, H' b = none) ∧ W i n H') ?_ m0
      ⟨0, none, _, I4, st4, fun b hb => (f3 b hb).1, w0⟩
    rintro n s5 ⟨i, x0, H5, I5, st5, fr5, w5⟩
    rcases turn i n H5 w5 with ⟨stop, qq⟩ | ⟨go, step⟩
    · refine thn (T.done (X.blk (x :: fr.map (·.1)) sc cl s3.heap.objs.size s3 (upd H2 s2.heap.objs.size (.lst [])) fp) rfl rfl rfl hc i [] s5 _ H5 _ I5 (stat fr5) st5 stop) fun r s6 ⟨hr, I6⟩ => ?_
      subst hr
      obtain ⟨m6, hn6, _⟩ := I6.loc
      have u6 : Un (frs X.stack) fp (upd H2 s2.heap.objs.size (.lst [])) H5 s3.heap s6.heap := I6.base
      have hok6 : HOk X.prog X.w H5 s6.heap := I6.hok
      have os6 : s6.os = s3.os := I6.os
      have bare6 := I6.bare
      have free6 : H5 s3.heap.objs.size = none := I6.free
      have IX : Inv X pins σ H5 s6 := by
        obtain ⟨hh, g, d, t, os'⟩ := s6
        obtain rfl : os' = s3.os := os6
        show Inv X pins σ H5 { s3 with heap := hh, gens := g, drawn := d, toks := t }
        exact I3.call (h' := hh) (g' := g) (d' := d) (t' := t) (ch := fp) u6 hok6 bare6 fun b hb => ⟨(f3 b hb).2.2.2.1, (f3 b hb).2.1, (f3 b hb).2.2.2.2.1, (f3 b hb).2.2.2.2.2⟩
      obtain ⟨oC, es, ep, hoC, hdC, rC⟩ := hn6
      have hfC : FpOk X pins H5 s3.heap.objs.size := I3.fpOk (Nat.le_refl _) free6
      have IX' : Inv X (pins ++ [(s3.heap.objs.size, oC)]) σ H5 s6 := IX.pins_of fun p hp => by
        rcases List.mem_append.mp hp with z | z
        · exact IX.pin p (List.mem_append_right _ z)
        · have z' := List.mem_singleton.mp z
          subst z'
          exact ⟨hoC, free6, hfC.2.1, hfC.2.2.1, fun v z => by
            have z2 : oC.data = .cell v := z
            rw [hdC] at z2; cases z2⟩
      refine thn (pg_name (X := X) (i := iy) (pos := py) hN hi' hy hfn _ s6 σ H5 (.ref s2.heap.objs.size) (.ref s2.heap.objs.size) (fun σ' H' => σ' = σ.set iy (some (.ref s2.heap.objs.size)) ∧ H' = H5) IX' rfl ⟨rfl, rfl⟩) fun _ s7 z => ?_
      obtain ⟨σ7, H7, I7, e7, e7'⟩ := z
      subst e7 e7'
      have pC := I7.pin (s3.heap.objs.size, oC) (List.mem_append_right _ (List.mem_append_right _ (List.mem_singleton.mpr rfl)))
      refine ⟨m6, ⟨oC, es, ep, pC.1, hdC, rC⟩, fun h8 hsb8 => ?_⟩
      have I7u : Inv X pins (σ.set iy (some (.ref s2.heap.objs.size))) H7 s7 := I7.unpinned
      refine ⟨_, H7, ?_, qq⟩
      exact I7u.turned (it := s3.heap.objs.size) (t' := s7.toks) (fun b o hb e => hsb8.extBut b o hb e) free6 hfC.2.1 hfC.2.2.2.1 hfC.2.2.2.2.1 hfC.2.2.2.2.2
    · refine thn (T.item (X.blk (x :: fr.map (·.1)) sc cl s3.heap.objs.size s3 (upd H2 s2.heap.objs.size (.lst [])) fp) rfl rfl rfl hc i [] s5 _ H5 _ I5 (stat fr5) st5 go) fun r s6 ⟨u, hr, h6⟩ => ?_
      subst hr
      refine thn h6 fun _ s7 ⟨y, H7, I7, r7, y7, st7, fr7⟩ => ?_
      have I7' := I7.pinned (stat fr7) (T.obj _ _ st7)
      refine wpAny_mono (pg_name (X := X.blk (x :: fr.map (·.1)) sc cl s3.heap.objs.size s3 (upd H2 s2.heap.objs.size (.lst [])) fp) (i := 0) (pos := px) ok.nd rfl (Or.inl lk) (.inr lk) _ s7 _ H7 y u (fun σ' H' => σ' = some y :: inSt σ fr ∧ H' = H7) I7' r7 ⟨rfl, rfl⟩) (fun _ s8 z => ?_) (fun e s z => (show False from z).elim)
      obtain ⟨σ8, H8, I8, e8, e8'⟩ := z
      subst e8 e8'
      refine wpAny_mono (he cl s3.heap.objs.size s3 (upd H2 s2.heap.objs.size (.lst [])) fp _ s8 _ H8 _ I8 (step y H8 y7)) (fun v s9 z => ?_) (fun e s z => (show False from z).elim)
      obtain ⟨z, H9, I9, r9, xs, m', ha, hl, hm, w9⟩ := z
      refine wpAny_mono (mt_append (X := X.blk (x :: fr.map (·.1)) sc cl s3.heap.objs.size s3 (upd H2 s2.heap.objs.size (.lst [])) fp) _ s9 _ H9 (.ref s2.heap.objs.size) [z] (.ref s2.heap.objs.size) [v] (fun _ H' => H' = upd H9 s2.heap.objs.size (.lst (xs ++ [z]))) I9 rfl (.cons r9 .nil) ⟨_, xs, z, rfl, rfl, ha, hl, rfl⟩) (fun _ s10 z => ?_) (fun e s z => (show False from z).elim)
      obtain ⟨_, H10, I10, _, e10⟩ := z
      subst e10
      refine ⟨m', hm, i + 1, some y, _, I10.unpinned, T.keep _ _ _ st7 fun b hb o e => (I10.pin (b, o) (List.mem_append_right _ (List.mem_append_right _ (mem_pinsAt hb e)))).1, fun b hb => ?_, w9⟩
      obtain ⟨o, e, d⟩ := T.obj _ _ st7 b hb
      exact (I10.pin (b, o) (List.mem_append_right _ (List.mem_append_right _ (mem_pinsAt hb e)))).2.1
  exact codeAny_compStart_list loop (T.self X.A 0 _ _ _ st4 loop)
end
/-- a comprehension over range(lo, ..) whose element is a value by the turn -/
theorem lc_range {lo : Int} {n : Nat} {te : TE} {st : St} {H1 : Hp} {acc : Addr} {Q : VK} (f : Nat → V) (hn : n ≤ sizeLine) (hacc : H1 acc = none)
    (step : ∀ (i : Nat) (H2 : Hp) (Q' : VK), i < n → Same H1 H2 → (∀ H4, Same H2 H4 → Q' (f i) H4) → te (some (.int (lo + i)) :: st) H2 Q') (fin : ∀ H2, Same H1 H2 → H2 acc = some (.lst ((List.range n).map f)) → Q (.ref acc) H2) :
    ∃ W : Nat → Nat → Hp → Prop, (∃ m, W 0 m (upd H1 acc (.lst []))) ∧ ∀ i m H2, W i m H2 → ((Itr lo n).stop i H2 ∧ Q (.ref acc) H2) ∨
      ((Itr lo n).go i H2 ∧ ∀ x H3, (Itr lo n).yld i H2 x H3 → te (some x :: st) H3 fun v H4 => ∃ xs m', H4 acc = some (.lst xs) ∧ xs.length < sizeLine ∧ m' < m ∧ W (i + 1) m' (upd H4 acc (.lst (xs ++ [v])))) := by
  refine ⟨fun i m H2 => m = n - i ∧ i ≤ n ∧ Same H1 H2 ∧ H2 acc = some (.lst ((List.range i).map f)), ⟨n, by simp, Nat.zero_le _, Same.new hacc _, upd_same⟩, ?_⟩
  rintro i m H2 ⟨rfl, hi, sm, ha⟩
  by_cases hlt : i < n
  · refine .inr ⟨hlt, fun x H3 y => ?_⟩
    obtain ⟨e, y⟩ := y
    subst e y
    refine step i _ _ hlt sm fun H4 s4 => ⟨_, n - (i + 1), s4 _ _ ha, ?_, by omega, rfl, hlt, fun b o e => ?_, ?_⟩
    · rw [List.length_map, List.length_range]; omega
    · rw [upd_ne (ne_of_none e hacc)]; exact s4 _ _ (sm _ _ e)
    · rw [upd_same, List.range_succ, List.map_append]; rfl
  · have e : i = n := by omega
    subst e
    exact .inl ⟨Nat.le_refl _, fin H2 sm ha⟩
end L2

/-! a comprehension's scope seen by reckoning -/
namespace L2
open PySem PySem.Spec PyProof.Rows
def compOkB (osc : Scope) (N : List Str) (tg : Str) (sc : Scope) (fr : List (Str × Nat)) : Bool :=
  decide (sc.kind = .function) && (sc.names.all fun y => decide (y.2 ≠ .cell)) && (sc.names.all fun y => decide (y.2 ≠ .local) || decide (sc.names.lookup y.1 = some .local)) && decide (sc.names.lookup tg = some .local) &&
  (sc.names.all fun y => decide (y.2 ≠ .free) || decide (osc.names.lookup y.1 = some .cell) || decide (osc.names.lookup y.1 = some .free)) && decide ((tg :: fr.map (·.1)).Nodup) &&
  (fr.all fun p => decide (N[p.2]? = some p.1) && (decide (osc.names.lookup p.1 = some .cell) || decide (osc.names.lookup p.1 = some .free)) && decide (sc.names.lookup p.1 = some .free))
theorem compOk_of {X : Cx} {tg : Str} {sc : Scope} {fr : List (Str × Nat)} {osc : Scope} {N : List Str} (ho : X.env.scope = osc) (hN : X.N = N) (h : compOkB osc N tg sc fr = true) : CompOk X tg sc fr := by
  subst ho hN
  unfold compOkB at h
  simp only [Bool.and_eq_true, decide_eq_true_eq, List.all_eq_true, Bool.or_eq_true] at h
  obtain ⟨⟨⟨⟨⟨⟨h1, h2⟩, h3⟩, h4⟩, h5⟩, h6⟩, h7⟩ := h
  refine ⟨h1, h2, fun y hy e => ?_, h4, fun y hy e => ?_, h6, fun p hp => ?_⟩
  · rcases h3 y hy with z | z
    · exact absurd e z
    · exact z
  · rcases h5 y hy with (z | z) | z
    · exact absurd e z
    · exact .inl z
    · exact .inr z
  · obtain ⟨⟨a, b⟩, c⟩ := h7 p hp
    exact ⟨a, b, c⟩
theorem bt_sum : bootBuiltins "sum" = some (.builtin "sum") := by decide +kernel
end L2

namespace L2
open PySem
theorem lc_range2 {lo : Int} {n : Nat} {te : TE} {st : St} {H1 : Hp} {acc : Addr} {R : Hp → Prop} (f : Nat → V) (hn : n ≤ sizeLine) (hacc : H1 acc = none)
    (step : ∀ (i : Nat) (H2 : Hp) (Q' : VK), i < n → Same H1 H2 → (∀ H4, Same H2 H4 → Q' (f i) H4) → te (some (.int (lo + i)) :: st) H2 Q') (fin : ∀ H2, Same H1 H2 → H2 acc = some (.lst ((List.range n).map f)) → R H2) :
    ∃ W : Nat → Nat → Hp → Prop, (∃ m, W 0 m (upd H1 acc (.lst []))) ∧ ∀ i m H2, W i m H2 → ((Itr lo n).stop i H2 ∧ R H2) ∨
      ((Itr lo n).go i H2 ∧ ∀ x H3, (Itr lo n).yld i H2 x H3 → te (some x :: st) H3 fun v H4 => ∃ xs m', H4 acc = some (.lst xs) ∧ xs.length < sizeLine ∧ m' < m ∧ W (i + 1) m' (upd H4 acc (.lst (xs ++ [v])))) :=
  lc_range (Q := fun _ H2 => R H2) f hn hacc step fin
end L2

namespace L2
open PySem
theorem pa_consI {X : Cx} {es : List Expr} {t : TA} {i : Int} {j} {pos : Pos} (hr : PA X es t) : PA X (.Constant (.int i) j pos :: es) (tCons (tC (.int i)) t) := pa_cons pe_int hr rfl
end L2

namespace L2
open PySem
def intsOf : List Expr → Option (List Int)
  | [] => some []
  | .Constant (.int i) _ _ :: es => (intsOf es).map (i :: ·)
  | _ :: _ => none
def tInts (ns : List Int) : TA := fun _ H Q => Q (ns.map V.int) H
theorem pa_ints {X : Cx} {es : List Expr} (ns : List Int) (h : intsOf es = some ns) : PA X es (tInts ns) := by
  induction es generalizing ns with
  | nil =>
    have e : ns = [] := (Option.some.inj h).symm
    subst e
    exact pa_nil
  | cons e es ih =>
    unfold intsOf at h
    split at h
    · rename_i he; cases he
    · rename_i i j pos es' he
      obtain ⟨rfl, rfl⟩ := List.cons.inj he
      cases hr : intsOf es with
      | none => rw [hr] at h; cases h
      | some ms =>
        rw [hr] at h
        have e : ns = i :: ms := (Option.some.inj h).symm
        subst e
        exact pa_consI (j := j) (pos := pos) (ih ms hr)
    · cases h
end L2

/-! two rules more: names set to a list's items, tuples of ints alike -/
namespace L2
open PySem PySem.Spec PyProof.Rows
section
variable {X : Cx}
theorem op_eqT (hu : X.A.units < cLine) : OpR X (compareOp .Eq) (rEqT X.K (fun b => b)) := by
  intro pins s σ H x y v u Q I rx ry h
  obtain ⟨a, b, ns, ms, rfl, rfl, ha, hb, q⟩ := h
  cases rx
  cases ry
  obtain ⟨its, r1, p1, _⟩ := I.tuple ha
  obtain ⟨its2, r2, p2, _⟩ := I.tuple hb
  have i1 : IntsAre its ns := intsAre_of r1
  have i2 : IntsAre its2 ms := intsAre_of r2
  have l1 : its.length = ns.length := i1.length
  have l2 : its2.length = ms.length := i2.length
  have key := SeqAt.RcAt.tuples (A := X.A) (s := s) (l := a) (b := b) (items := its.toArray) (items2 := its2.toArray) (e := fun j => decide (ns[j]? = ms[j]?)) p1 p2 hu (fun j h1 h2 => by
    have h1' : j < its.length := by simpa using h1
    have h2' : j < its2.length := by simpa using h2
    obtain ⟨n, t, en, ev⟩ := ints_at i1 (List.getElem?_eq_getElem h1')
    obtain ⟨m, t', em, ew⟩ := ints_at i2 (List.getElem?_eq_getElem h2')
    have g1 : its.toArray[j] = .int n t := by rw [← ev]; simp
    have g2 : its2.toArray[j] = .int m t' := by rw [← ew]; simp
    rw [g1, g2, en, em]
    have e : decide (some n = some m) = (n == m) := by
      by_cases z : n = m
      · subst z; simp
      · simp [z]
    rw [e]
    exact SeqAt.EqAt.int_int n t m t')
  have e2 : ((List.range (min its.toArray.size its2.toArray.size)).all (fun j => decide (ns[j]? = ms[j]?)) && its.toArray.size == its2.toArray.size) = decide (ns = ms) := by
    rw [List.size_toArray, List.size_toArray, l1, l2, tup_all (fun j _ _ => rfl)]
  rw [e2] at key
  exact key _ _ _ _ ⟨.bl (decide (ns = ms)), H, I, rfl, q⟩
/-- (a, b, ..) = a list of that length -/
def gLst (K : PySem.W.Frag) (n : Nat) (t : TGs) : TG := fun v σ H Q => ∃ a xs, v = .ref a ∧ SqL K H a xs ∧ xs.length = n ∧ t xs σ H Q
theorem pg_lst {es : List Expr} {k : Nat} {t : TGs} {n : Nat} {pos : Pos} (hc : X.calm = true) (h : PGs X es t)
    (hn : (assignEach es X.env).length = n := by rfl) (hst : (assignEach es X.env).findIdx? (·.1) = none := by rfl) : PG X (.Tuple es k pos) (gLst X.K n t) := by
  intro pins s σ H v u Q I r hw
  obtain ⟨a, xs, e1, hq, hl, hw⟩ := hw
  subst e1
  cases r
  obtain ⟨its, rv, ⟨o, n', ho, hcl, hdi, hda⟩, hz⟩ := I.list hq
  have hL : s.heap.IsList a its.toArray := ⟨o, ho, hcl, n', hda⟩
  rw [assign_Tuple]
  refine wpAny_bind (wpAny_standAt ?_)
  unfold unpack
  rw [hn, hst]
  have hsz : n = its.toArray.size := by simp [← hl, rv.length]
  rw [hsz]
  refine wpAny_bind (wpAny_holding (PySem.W.kun_itemsOf (I.ok.hd hc) hL fun h' hx => ?_))
  have I1 : Inv X pins σ H { s with heap := h' } := I.kept (t' := s.toks) fun b o e => hx b o (Nat.ne_of_lt (Heap.lt_size e)) e
  exact h pins _ σ H xs _ Q I1 (by simpa using rv) hw
end
end L2

/-! numbers as rationals -/
namespace My
def qv (a b : Int) : Rat := (a : Rat) / (b : Rat)
theorem cast_ne {b : Int} (h : b ≠ 0) : (b : Rat) ≠ 0 := fun z => h (Rat.intCast_inj.mp z)
theorem qv_eq {a b t m : Int} (hb : b ≠ 0) (hm : m ≠ 0) (h : a * m = t * b) : qv a b = qv t m := by
  have hb' := cast_ne hb
  have hm' := cast_ne hm
  have h' : (a : Rat) * m = t * b := by rw [← Rat.intCast_mul, ← Rat.intCast_mul, h]
  unfold qv
  grind
theorem eq_of_qv {a b t m : Int} (hb : b ≠ 0) (hm : m ≠ 0) (h : qv a b = qv t m) : a * m = t * b := by
  have hb' := cast_ne hb
  have hm' := cast_ne hm
  unfold qv at h
  refine Rat.intCast_inj.mp ?_
  rw [Rat.intCast_mul, Rat.intCast_mul]
  grind
theorem low_unique {a b c d : Int} (hb : 0 < b) (hd : 0 < d) (h1 : Int.gcd a b = 1) (h2 : Int.gcd c d = 1) (h : a * d = c * b) : a = c ∧ b = d := by
  have n : a.natAbs * d.natAbs = c.natAbs * b.natAbs := by rw [← Int.natAbs_mul, ← Int.natAbs_mul, h]
  have e1 : b.natAbs ∣ d.natAbs := by
    have q : b.natAbs ∣ a.natAbs * d.natAbs := ⟨c.natAbs, by rw [n, Nat.mul_comm]⟩
    exact Nat.Coprime.dvd_of_dvd_mul_left (Nat.Coprime.symm h1) q
  have e2 : d.natAbs ∣ b.natAbs := by
    have q : d.natAbs ∣ c.natAbs * b.natAbs := ⟨a.natAbs, by rw [← n, Nat.mul_comm]⟩
    exact Nat.Coprime.dvd_of_dvd_mul_left (Nat.Coprime.symm h2) q
  have e3 : b.natAbs = d.natAbs := Nat.dvd_antisymm e1 e2
  have e4 : b = d := by omega
  subst e4
  exact ⟨Int.eq_of_mul_eq_mul_right (by omega) h, rfl⟩
theorem qv_plus {a b c d : Int} (hb : b ≠ 0) (hd : d ≠ 0) : qv (a * d + c * b) (b * d) = qv a b + qv c d := by
  have hb' := cast_ne hb
  have hd' := cast_ne hd
  unfold qv
  rw [Rat.intCast_add, Rat.intCast_mul, Rat.intCast_mul, Rat.intCast_mul]
  grind
theorem qv_minus {a b c d : Int} (hb : b ≠ 0) (hd : d ≠ 0) : qv (a * d - c * b) (b * d) = qv a b - qv c d := by
  have hb' := cast_ne hb
  have hd' := cast_ne hd
  unfold qv
  rw [Rat.intCast_sub, Rat.intCast_mul, Rat.intCast_mul, Rat.intCast_mul]
  grind
theorem qv_times {a b c d : Int} (hb : b ≠ 0) (hd : d ≠ 0) : qv (a * c) (b * d) = qv a b * qv c d := by
  have hb' := cast_ne hb
  have hd' := cast_ne hd
  unfold qv
  rw [Rat.intCast_mul, Rat.intCast_mul]
  grind
theorem qv_over {a b c d : Int} (hb : b ≠ 0) (hd : d ≠ 0) (hc : c ≠ 0) : qv (a * d) (b * c) = qv a b / qv c d := by
  have hb' := cast_ne hb
  have hd' := cast_ne hd
  have hc' := cast_ne hc
  unfold qv
  rw [Rat.intCast_mul, Rat.intCast_mul]
  grind
theorem qv_int (a : Int) : qv a 1 = (a : Rat) := by
  unfold qv
  grind
end My

/-! numbers as rationals: order -/
namespace My
theorem cast_pos {b : Int} (h : 0 < b) : (0 : Rat) < (b : Rat) := Rat.intCast_lt_intCast.mpr h
theorem lt_qv {a b c d : Int} (hb : 0 < b) (hd : 0 < d) : qv a b < qv c d ↔ a * d < c * b := by
  have hb' := cast_pos hb
  have hd' := cast_pos hd
  unfold qv
  rw [Rat.div_lt_iff hb', show (c : Rat) / d * b = (c * b : Rat) / d by grind, Rat.lt_div_iff hd', ← Rat.intCast_mul, ← Rat.intCast_mul]
  exact Rat.intCast_lt_intCast
theorem le_qv {a b c d : Int} (hb : 0 < b) (hd : 0 < d) : qv a b ≤ qv c d ↔ ¬ c * b < a * d := by
  rw [← lt_qv hd hb]
  exact Rat.not_lt.symm
/-- a piece's equation in whole numbers -/
theorem stands_int {u v e f a b c d F T : Int} (hv : v ≠ 0) (hf : f ≠ 0) (hb : b ≠ 0) (hd : d ≠ 0) (h : (qv u v - (F : Rat)) * (qv c d - qv a b) = (qv e f - qv a b) * ((T - F : Int) : Rat)) :
    (u - F * v) * ((c * b - a * d) * f) = (e * b - a * f) * d * (T - F) * v := by
  have hv' := cast_ne hv
  have hf' := cast_ne hf
  have hb' := cast_ne hb
  have hd' := cast_ne hd
  refine Rat.intCast_inj.mp ?_
  simp only [Rat.intCast_mul, Rat.intCast_sub]
  rw [Rat.intCast_sub] at h
  unfold qv at h
  grind
theorem mul_pos {x y : Rat} (hx : 0 < x) (hy : 0 < y) : 0 < x * y := Rat.mul_pos hx hy
/-- along a piece: the part between 0 and 1 -/
theorem part_in {E A C : Rat} (h : A < C) (h1 : A ≤ E) (h2 : E ≤ C) : 0 ≤ (E - A) / (C - A) ∧ (E - A) / (C - A) ≤ 1 := by
  have hp : 0 < C - A := by grind
  constructor
  · rw [← Rat.not_lt, Rat.div_lt_iff hp]
    grind
  · rw [← Rat.not_lt, Rat.lt_div_iff hp]
    grind
theorem along_in {E A C F T : Rat} (h : A < C) (hf : F < T) (h1 : A ≤ E) (h2 : E ≤ C) : F ≤ F + (E - A) / (C - A) * (T - F) ∧ F + (E - A) / (C - A) * (T - F) ≤ T := by
  obtain ⟨p0, p1⟩ := part_in h h1 h2
  generalize (E - A) / (C - A) = r at *
  have w1 : 0 ≤ r * (T - F) := Rat.mul_nonneg p0 (by grind)
  have w2 : r * (T - F) ≤ 1 * (T - F) := Rat.mul_le_mul_of_nonneg_right p1 (by grind)
  grind
end My

namespace My
def leap (y : Int) : Bool := if y % 4 = 0 then (if y % 100 = 0 then decide (y % 400 = 0) else true) else false
def mls : List Int := [31, 28, 31, 30, 31, 30, 31, 31, 30, 31, 30, 31]
/-- days of month m (from 1 on), L: a leap year -/
def ml (L : Bool) (m : Int) : Int := if m = 2 ∧ L = true then 29 else mls.getD (m - 1).toNat 0
def mlen (y m : Int) : Int := ml (leap y) m
/-- days ahead of month m -/
def bf (L : Bool) (m : Int) : Int := ((List.range (m - 1).toNat).map fun i : Nat => ml L (1 + i)).sum
def ybeg (y : Int) : Int := 365 * (y - 1) + (y - 1) / 4 - (y - 1) / 100 + (y - 1) / 400
def ylen (L : Bool) : Int := if L then 366 else 365
theorem ybeg_next (y : Int) : ybeg (y + 1) = ybeg y + ylen (leap y) := by
  unfold ybeg ylen leap
  by_cases h4 : y % 4 = 0
  · rw [if_pos h4]
    by_cases h1 : y % 100 = 0
    · rw [if_pos h1]
      by_cases h3 : y % 400 = 0
      · rw [decide_eq_true h3, if_pos rfl]; omega
      · rw [decide_eq_false h3, if_neg (by decide)]; omega
    · rw [if_neg h1, if_pos rfl]; omega
  · rw [if_neg h4, if_neg (by decide)]; omega
theorem m_cases {m : Int} (h1 : 1 ≤ m) (h2 : m ≤ 12) : m = 1 ∨ m = 2 ∨ m = 3 ∨ m = 4 ∨ m = 5 ∨ m = 6 ∨ m = 7 ∨ m = 8 ∨ m = 9 ∨ m = 10 ∨ m = 11 ∨ m = 12 := by omega
theorem bf_next {L : Bool} {m : Int} (h1 : 1 ≤ m) (h2 : m ≤ 12) : bf L (m + 1) = bf L m + ml L m := by
  cases L <;> rcases m_cases h1 h2 with h | h | h | h | h | h | h | h | h | h | h | h <;> subst h <;> decide
theorem bf_first (L : Bool) : bf L 1 = 0 := by cases L <;> decide
theorem bf_last (L : Bool) : bf L 13 = ylen L := by cases L <;> decide
theorem ml_pos {L : Bool} {m : Int} (h1 : 1 ≤ m) (h2 : m ≤ 12) : 28 ≤ ml L m ∧ ml L m ≤ 31 := by
  cases L <;> rcases m_cases h1 h2 with h | h | h | h | h | h | h | h | h | h | h | h <;> subst h <;> decide
def dayOf (y m e : Int) : Int := ybeg y + bf (leap y) m + e - 1
structure Valid (y m e : Int) : Prop where
  y1 : 1 ≤ y
  y2 : y ≤ 9999
  m1 : 1 ≤ m
  m2 : m ≤ 12
  e1 : 1 ≤ e
  e2 : e ≤ mlen y m
theorem bf_mono {L : Bool} {m n : Int} (h1 : 1 ≤ m) (h : m < n) (h2 : n ≤ 13) : bf L m + ml L m ≤ bf L n := by
  have key : ∀ (k : Nat) (n : Int), n = m + 1 + k → n ≤ 13 → bf L m + ml L m ≤ bf L n := by
    intro k
    induction k with
    | zero =>
      intro n hn hn2
      have e : n = m + 1 := by omega
      rw [e, bf_next h1 (by omega)]
      exact Int.le_refl _
    | succ k ih =>
      intro n hn hn2
      have q := ih (n - 1) (by omega) (by omega)
      have e := bf_next (L := L) (m := n - 1) (by omega) (by omega)
      rw [Int.sub_add_cancel] at e
      have p := (ml_pos (L := L) (m := n - 1) (by omega) (by omega)).1
      omega
  exact key (n - m - 1).toNat n (by omega) h2
theorem Valid.range {y m e : Int} (v : Valid y m e) : ybeg y ≤ dayOf y m e ∧ dayOf y m e < ybeg (y + 1) := by
  have h1 : 0 ≤ bf (leap y) m := by
    by_cases h : m = 1
    · rw [h, bf_first]; exact Int.le_refl _
    · have q := bf_mono (L := leap y) (m := 1) (n := m) (by omega) (by have := v.m1; omega) (by have := v.m2; omega)
      have p := (ml_pos (L := leap y) (m := 1) (by omega) (by omega)).1
      rw [bf_first] at q
      omega
  have h2 := bf_mono (L := leap y) (m := m) (n := 13) v.m1 (by have := v.m2; omega) (by omega)
  rw [bf_last] at h2
  have h3 := ybeg_next y
  have h4 := v.e2
  have h5 := v.e1
  unfold mlen at h4
  unfold dayOf
  omega
theorem ybeg_mono {y z : Int} (h : y ≤ z) : ybeg y ≤ ybeg z := by unfold ybeg; omega
theorem Valid.inj {y m e y' m' e' : Int} (v : Valid y m e) (v' : Valid y' m' e') (h : dayOf y m e = dayOf y' m' e') : y = y' ∧ m = m' ∧ e = e' := by
  have r := v.range
  have r' := v'.range
  have hy : y = y' := by
    rcases Int.lt_trichotomy y y' with q | q | q
    · have := ybeg_mono (show y + 1 ≤ y' by omega); omega
    · exact q
    · have := ybeg_mono (show y' + 1 ≤ y by omega); omega
  subst hy
  have a := v.e2; have a' := v'.e2; have b := v.e1; have b' := v'.e1
  unfold mlen at a a'
  unfold dayOf at h
  have hm : m = m' := by
    rcases Int.lt_trichotomy m m' with q | q | q
    · have := bf_mono (L := leap y) v.m1 q (by have := v'.m2; omega); omega
    · exact q
    · have := bf_mono (L := leap y) v'.m1 q (by have := v.m2; omega); omega
  subst hm
  refine ⟨rfl, rfl, by omega⟩
/-- the year of a day, as year_of reckons it -/
def yearOf (d : Int) : Int := if ybeg (d * 400 / 146097 + 1 + 1) ≤ d then d * 400 / 146097 + 1 + 1 else d * 400 / 146097 + 1
theorem yearOf_ok {d : Int} (h0 : 0 ≤ d) (h1 : d ≤ 3652058) : 1 ≤ yearOf d ∧ yearOf d ≤ 9999 ∧ ybeg (yearOf d) ≤ d ∧ d < ybeg (yearOf d + 1) := by
  unfold yearOf ybeg
  split <;> rename_i h <;> refine ⟨by omega, by omega, by omega, by omega⟩
theorem first_valid : Valid 1 1 1 ∧ dayOf 1 1 1 = 0 := ⟨⟨by decide, by decide, by decide, by decide, by decide, by decide⟩, by decide⟩
theorem last_valid : Valid 9999 12 31 ∧ dayOf 9999 12 31 = 3652058 := ⟨⟨by decide, by decide, by decide, by decide, by decide, by decide⟩, by decide⟩
def nxt (y m e : Int) : List Int := if e < mlen y m then [y, m, e + 1] else if m < 12 then [y, m + 1, 1] else [y + 1, 1, 1]
theorem nxt_ok {y m e y' m' e' : Int} (v : Valid y m e) (v' : Valid y' m' e') (h : dayOf y' m' e' = dayOf y m e + 1) : [y', m', e'] = nxt y m e := by
  unfold nxt
  by_cases h1 : e < mlen y m
  · rw [if_pos h1]
    obtain ⟨a, b, c⟩ := v'.inj (⟨v.y1, v.y2, v.m1, v.m2, by have := v.e1; omega, by omega⟩ : Valid y m (e + 1)) (by rw [h]; unfold dayOf; omega)
    rw [a, b, c]
  · rw [if_neg h1]
    have e2 := v.e2
    by_cases h2 : m < 12
    · rw [if_pos h2]
      have p := ml_pos (L := leap y) (m := m + 1) (by have := v.m1; omega) (by omega)
      obtain ⟨a, b, c⟩ := v'.inj (⟨v.y1, v.y2, by have := v.m1; omega, by omega, by decide, by unfold mlen; omega⟩ : Valid y (m + 1) 1) (by
        rw [h]
        have q := bf_next (L := leap y) v.m1 v.m2
        unfold mlen at h1 e2
        unfold dayOf
        omega)
      rw [a, b, c]
    · rw [if_neg h2]
      have m12 : m = 12 := by have := v.m2; omega
      have r' := v'.range
      have yb := ybeg_next y
      have q := bf_next (L := leap y) v.m1 v.m2
      rw [m12] at q h1 e2 h
      have lst := bf_last (leap y)
      have q' : bf (leap y) 13 = bf (leap y) 12 + ml (leap y) 12 := q
      have hd : dayOf y' m' e' = ybeg (y + 1) := by
        rw [h]
        unfold mlen at h1 e2
        unfold dayOf
        omega
      have hy9 : y + 1 ≤ 9999 := by
        have := v'.y2
        rcases Int.lt_or_le y y' with z | z
        · omega
        · have := ybeg_mono (show y' + 1 ≤ y + 1 by omega)
          omega
      have f : ybeg (y + 1) = dayOf (y + 1) 1 1 := by unfold dayOf; rw [bf_first]; omega
      obtain ⟨a, b, c⟩ := v'.inj (⟨by have := v.y1; omega, hy9, by decide, by decide, by decide, by
        have p := ml_pos (L := leap (y + 1)) (m := 1) (by omega) (by omega)
        unfold mlen
        omega⟩ : Valid (y + 1) 1 1) (by rw [hd, f])
      rw [a, b, c]
end My

/-! the engine: one rule a construct, by the form alone -/
namespace L2
open PySem PySem.Spec PyProof.Rows
def rIsN : R2 := fun x y H Q => y = .non ∧ Q (.bl (decide (x = .non))) H
def rNotN : R2 := fun x y H Q => y = .non ∧ Q (.bl (!decide (x = .non))) H
theorem op_isN' {X : Cx} : OpR X (compareOp .Is) rIsN := op_isN
theorem op_notN' {X : Cx} : OpR X (compareOp .IsNot) rNotN := op_notN
/-- a new tuple, a new list -/
def MkT (xs : List V) (H : Hp) (Q : VK) : Prop := xs.length ≤ sizeLine ∧ ∀ p, H p = none → Q (.ref p) (upd H p (.tup xs))
def MkL (xs : List V) (H : Hp) (Q : VK) : Prop := xs.length ≤ sizeLine ∧ ∀ p, H p = none → Q (.ref p) (upd H p (.lst xs))
inductive SetTo : St → Nat → Option V → St → Prop
  | here {x : Option V} {r : St} {v : Option V} : SetTo (x :: r) 0 v (v :: r)
  | next {x : Option V} {r : St} {v : Option V} {i : Nat} {r' : St} : SetTo r i v r' → SetTo (x :: r) (i + 1) v (x :: r')
theorem SetTo.eq {σ σ' : St} {i : Nat} {v : Option V} (h : SetTo σ i v σ') : σ.set i v = σ' := by
  induction h with
  | here => rfl
  | next _ ih => rw [List.set_cons_succ, ih]
inductive GetTo : St → Nat → V → Prop
  | here {v : V} {r : St} : GetTo (some v :: r) 0 v
  | next {x : Option V} {r : St} {v : V} {i : Nat} : GetTo r i v → GetTo (x :: r) (i + 1) v
theorem GetTo.eq {σ : St} {i : Nat} {v : V} (h : GetTo σ i v) : σ[i]? = some (some v) := by
  induction h with
  | here => rfl
  | next _ ih => rw [List.getElem?_cons_succ, ih]
section
variable {σ σ' : St} {H : Hp} {Q : VK} {i j : Int} {k : Nat} {v x y : V} {te ta tb tc : TE} {t u : TS} {nx bk ct : St → Hp → Prop} {rt : VK} {c d : TT} {R : Bool → Hp → Prop} {r r' : R2} {b : Bool}
theorem z_var (h : GetTo σ k v) (q : Q v H) : tVar k σ H Q := ⟨v, h.eq, q⟩
theorem z_c (q : Q v H) : tC v σ H Q := q
theorem z_op (h : ta σ H fun x H1 => tb σ H1 fun y H2 => r x y H2 Q) : tOp r ta tb σ H Q := h
theorem z_un {r : V → Hp → VK → Prop} (h : ta σ H fun x H1 => r x H1 Q) : tUn r ta σ H Q := h
theorem z_I {C : Int → Int → Prop} {g : Int → Int → V} (hc : C i j) (q : Q (g i j) H) : rI C g (.int i) (.int j) H Q := ⟨i, j, rfl, rfl, hc, q⟩
theorem z_I0 {g : Int → Int → V} (q : Q (g i j) H) : rI0 g (.int i) (.int j) H Q := ⟨i, j, rfl, rfl, q⟩
theorem z_U {g : Int → V} (q : Q (g i) H) : rU g (.int i) H Q := ⟨i, rfl, q⟩
theorem zdec_int : decide (V.int i = V.int j) = decide (i = j) := by
  by_cases h : i = j
  · subst h; simp
  · rw [decide_eq_false h, decide_eq_false (fun z => h (V.int.inj z))]
theorem zdec_str {a b : Str} : decide (V.str a = V.str b) = decide (a = b) := by
  by_cases h : a = b
  · subst h; simp
  · rw [decide_eq_false h, decide_eq_false (fun z => h (V.str.inj z))]
theorem z_EqI (q : Q (.bl (decide (i = j))) H) : rEq (.int i) (.int j) H Q := ⟨rfl, by rw [zdec_int]; exact q⟩
theorem z_NeI (q : Q (.bl (!decide (i = j))) H) : rNe (.int i) (.int j) H Q := ⟨rfl, by rw [zdec_int]; exact q⟩
theorem z_EqS {a b : Str} (q : Q (.bl (decide (a = b))) H) : rEq (.str a) (.str b) H Q := ⟨rfl, by rw [zdec_str]; exact q⟩
theorem z_NeS {a b : Str} (q : Q (.bl (!decide (a = b))) H) : rNe (.str a) (.str b) H Q := ⟨rfl, by rw [zdec_str]; exact q⟩
theorem z_test (h : te σ H fun x H' => ∃ k, x = .bl k ∧ R k H') : tTest te σ H R := h
theorem z_tB (h : te σ H fun x H' => ∃ k, x = .bl k ∧ R k H') : tB te σ H R := h
theorem z_ebl {S : Bool → Prop} (q : S b) : ∃ k, V.bl b = .bl k ∧ S k := ⟨b, rfl, q⟩
theorem z_and (h : c σ H fun k H1 => if k = true then d σ H1 R else R false H1) : tAnd c d σ H R := h
theorem z_or (h : c σ H fun k H1 => if k = true then R true H1 else d σ H1 R) : tOr c d σ H R := h
theorem z_not (h : c σ H fun k H1 => R (!k) H1) : tNot c σ H R := h
theorem z_andV (h : ta σ H fun x H1 => ∃ c, x = .bl c ∧ if c = true then tb σ H1 Q else Q (.bl false) H1) : tAndV ta tb σ H Q := h
theorem z_orV (h : ta σ H fun x H1 => ∃ c, x = .bl c ∧ if c = true then Q (.bl true) H1 else tb σ H1 Q) : tOrV ta tb σ H Q := h
theorem z_notV (h : ta σ H fun x H1 => ∃ c, x = .bl c ∧ Q (.bl (!c)) H1) : tNotV ta σ H Q := h
theorem z_if (h : c σ H fun k H1 => if k = true then ta σ H1 Q else tb σ H1 Q) : tIf c ta tb σ H Q := h
theorem z_chain (h : ta σ H fun x H1 => tb σ H1 fun y H2 => r x y H2 fun z H3 => ∃ k, z = .bl k ∧ (if k = true then tc σ H3 fun w' H4 => r' y w' H4 Q else Q (.bl false) H3)) : tChain r r' ta tb tc σ H Q := h
theorem z_nil {S : List V → Hp → Prop} (q : S [] H) : tNil σ H S := q
theorem z_cons {S : List V → Hp → Prop} {tr : TA} (h : ta σ H fun x H1 => tr σ H1 fun xs H2 => S (x :: xs) H2) : tCons ta tr σ H S := h
theorem z_seq (h : t ⟨u ⟨nx, rt, bk, ct⟩, rt, bk, ct⟩ σ H) : tSeq t u ⟨nx, rt, bk, ct⟩ σ H := h
theorem z_next (h : nx σ H) : tNext ⟨nx, rt, bk, ct⟩ σ H := h
theorem z_drop (h : te σ H fun _ H1 => nx σ H1) : tDrop te ⟨nx, rt, bk, ct⟩ σ H := h
theorem z_ret (h : te σ H rt) : tRet te ⟨nx, rt, bk, ct⟩ σ H := h
theorem z_ifs (h : c σ H fun b H1 => if b = true then t ⟨nx, rt, bk, ct⟩ σ H1 else u ⟨nx, rt, bk, ct⟩ σ H1) : tIfS c t u ⟨nx, rt, bk, ct⟩ σ H := h
theorem z_asg {g : TG} (h : te σ H fun x H1 => g x σ H1 nx) : tAsg te g ⟨nx, rt, bk, ct⟩ σ H := h
theorem z_name {S : St → Hp → Prop} (h : SetTo σ k (some v) σ') (q : S σ' H) : gName k v σ H S := by
  show S (σ.set k (some v)) H
  rw [h.eq]; exact q
theorem z_par {i j : Nat} {tA : TA} (h : tA σ H fun vs H1 => ∃ v w, vs = [v, w] ∧ nx ((σ.set i (some v)).set j (some w)) H1) : tPar i j tA ⟨nx, rt, bk, ct⟩ σ H := h
theorem z_par2 {i j : Nat} {v w : V} {σ2 : St} (h1 : SetTo σ i (some v) σ') (h2 : SetTo σ' j (some w) σ2) (q : nx σ2 H) : ∃ v' w', [v, w] = [v', w'] ∧ nx ((σ.set i (some v')).set j (some w')) H := ⟨v, w, rfl, by rw [h1.eq, h2.eq]; exact q⟩
theorem z_iteD {c A B : Prop} [Decidable c] (h1 : c → A) (h2 : ¬ c → B) : if decide c = true then A else B := by
  by_cases h : c
  · rw [decide_eq_true h]; exact iteT (h1 h)
  · rw [decide_eq_false h]; exact iteF (h2 h)
theorem z_iteN {c A B : Prop} [Decidable c] (h1 : ¬ c → A) (h2 : c → B) : if (!decide c) = true then A else B := by
  by_cases h : c
  · rw [decide_eq_true h]; exact iteF (h2 h)
  · rw [decide_eq_false h]; exact iteT (h1 h)
theorem z_iteNb {b : Bool} {A B : Prop} (h : if b = true then B else A) : if (!b) = true then A else B := by
  cases b with
  | true => exact iteF h
  | false => exact iteT h
theorem z_ite2 {b : Bool} {A B : Prop} (h1 : b = true → A) (h2 : b = false → B) : if b = true then A else B := by
  cases b with
  | true => exact iteT (h1 rfl)
  | false => exact iteF (h2 rfl)
theorem z_call0 {sp : Sp} {E : XK} {tA : TA} (h : tA σ H fun vs H1 => sp vs H1 Q E) : tCall sp [] E tA σ H Q := by
  unfold tCall
  simpa using h
theorem z_callD {sp : Sp} {E : XK} {tA : TA} {w : V} (h : tA σ H fun vs H1 => sp (vs ++ [w]) H1 Q E) : tCall sp [w] E tA σ H Q := h
theorem z_cb {rr : List V → Hp → VK → Prop} {tA : TA} (h : tA σ H fun vs H1 => rr vs H1 Q) : tCB rr tA σ H Q := h
theorem z_e1 {S : Int → Prop} (q : S i) : ∃ i', [V.int i] = [.int i'] ∧ S i' := ⟨i, rfl, q⟩
theorem z_e2 {S : Int → Int → Prop} (q : S i j) : ∃ i' j', [V.int i, V.int j] = [.int i', .int j'] ∧ S i' j' := ⟨i, j, rfl, q⟩
theorem z_tup {tA : TA} (h : tA σ H fun xs H1 => MkT xs H1 Q) : tTup tA σ H Q := h
theorem z_mkt {xs : List V} (hl : xs.length ≤ 100) (q : ∀ p H', H p = none → Same H H' → H' p = some (.tup xs) → Q (.ref p) H') : MkT xs H Q :=
  ⟨Nat.le_trans hl (by decide), fun p hp => q p _ hp (Same.new hp _) upd_same⟩
theorem z_ixT {K : PySem.W.Frag} {p : Addr} {xs : List V} (hs : SqT K H p xs) (ha : atI xs i = some v) (q : Q v H) : rIxT K (.ref p) (.int i) H Q := ⟨p, xs, i, v, rfl, rfl, hs, ha, q⟩
theorem z_ixL {K : PySem.W.Frag} {p : Addr} {xs : List V} (hs : SqL K H p xs) (ha : atI xs i = some v) (q : Q v H) : rIxL K (.ref p) (.int i) H Q := ⟨p, xs, i, v, rfl, rfl, hs, ha, q⟩
theorem z_nonN (q : Q (.bl true) H) : rIsN .non .non H Q := ⟨rfl, q⟩
theorem z_nonI (q : Q (.bl false) H) : rIsN (.int i) .non H Q := ⟨rfl, q⟩
theorem z_nonS {a : Str} (q : Q (.bl false) H) : rIsN (.str a) .non H Q := ⟨rfl, q⟩
theorem z_nonR {p : Addr} (q : Q (.bl false) H) : rIsN (.ref p) .non H Q := ⟨rfl, q⟩
theorem z_notN (q : Q (.bl false) H) : rNotN .non .non H Q := ⟨rfl, q⟩
theorem z_notI (q : Q (.bl true) H) : rNotN (.int i) .non H Q := ⟨rfl, q⟩
theorem z_notS {a : Str} (q : Q (.bl true) H) : rNotN (.str a) .non H Q := ⟨rfl, q⟩
theorem z_notR {p : Addr} (q : Q (.bl true) H) : rNotN (.ref p) .non H Q := ⟨rfl, q⟩
theorem z_nott (q : Q (.bl false) H) : Q (.bl (!true)) H := q
theorem z_notf (q : Q (.bl true) H) : Q (.bl (!false)) H := q
/-! len, list(..), int(..) -/
theorem z_len {K : PySem.W.Frag} {p : Addr} {ys : List V} {S : List V → Prop} (hs : SqL K H p ys ∨ SqT K H p ys) (q : S ys) : ∃ p' ys', [V.ref p] = [V.ref p'] ∧ (SqL K H p' ys' ∨ SqT K H p' ys') ∧ S ys' := ⟨p, ys, rfl, hs, q⟩
theorem z_toI {S1 S2 : Int → Prop} {S3 : Bool → Prop} (q : S1 i) : (∃ i', [V.int i] = [.int i'] ∧ S1 i') ∨ ∃ k, [V.int i] = [.bl k] ∧ S3 k := .inl ⟨i, rfl, q⟩
theorem z_toB {S1 : Int → Prop} {S3 : Bool → Prop} (q : S3 b) : (∃ i', [V.bl b] = [.int i'] ∧ S1 i') ∨ ∃ k, [V.bl b] = [.bl k] ∧ S3 k := .inr ⟨b, rfl, q⟩
/-! unpacking -/
theorem z_gtup {K : PySem.W.Frag} {p : Addr} {n : Nat} {tg : TGs} {xs : List V} {S : St → Hp → Prop} (hs : SqT K H p xs) (hl : xs.length = n) (q : tg xs σ H S) : gTup K n tg (.ref p) σ H S := ⟨p, xs, rfl, hs, hl, q⟩
theorem z_gnil {S : St → Hp → Prop} (q : S σ H) : gNil [] σ H S := ⟨rfl, q⟩
theorem z_gcons {g : TG} {tg : TGs} {v : V} {r : List V} {S : St → Hp → Prop} (q : g v σ H fun σ' H' => tg r σ' H' S) : gCons g tg (v :: r) σ H S := ⟨v, r, rfl, q⟩
/-! slices -/
theorem z_sl {r : V → Option Int → Option Int → Hp → VK → Prop} {tl th : TO} (h : te σ H fun x H1 => tl σ H1 fun l H2 => th σ H2 fun u H3 => r x l u H3 Q) : tSl r te tl th σ H Q := h
theorem z_noP {S : Option Int → Hp → Prop} (q : S none H) : tNoPart σ H S := q
theorem z_part {S : Option Int → Hp → Prop} (h : te σ H fun x H1 => ∃ i, x = .int i ∧ S (some i) H1) : tPart te σ H S := h
theorem z_eint {S : Int → Prop} (q : S i) : ∃ i', V.int i = .int i' ∧ S i' := ⟨i, rfl, q⟩
theorem z_slL {K : PySem.W.Frag} {p : Addr} {xs : List V} {lo hi : Option Int} (hs : SqL K H p xs) (q : ∀ p' H', Same H H' → H' p' = some (.lst (cutV xs lo hi)) → Q (.ref p') H') : rSlL K (.ref p) lo hi H Q := ⟨p, xs, rfl, hs, fun p' hp => q p' _ (Same.new hp _) upd_same⟩
/-! lists -/
theorem z_lst {tA : TA} (h : tA σ H fun xs H1 => MkL xs H1 Q) : tLst tA σ H Q := h
theorem z_mkl {xs : List V} (hl : xs.length ≤ 100) (q : ∀ p H', H p = none → Same H H' → H' p = some (.lst xs) → Q (.ref p) H') : MkL xs H Q :=
  ⟨Nat.le_trans hl (by decide), fun p hp => q p _ hp (Same.new hp _) upd_same⟩
theorem z_cat {l m : Addr} {xs zs : List V} (h1 : H l = some (.lst xs)) (h2 : H m = some (.lst zs)) (hl : xs.length + zs.length ≤ sizeLine) (q : ∀ p H', Same H H' → H' p = some (.lst (xs ++ zs)) → Q (.ref p) H') : rCat (.ref l) (.ref m) H Q :=
  ⟨l, m, xs, zs, rfl, rfl, h1, h2, hl, fun p hp => q p _ (Same.new hp _) upd_same⟩
theorem z_bm {K : PySem.W.Frag} {T : String} {rr : V → List V → Hp → VK → Prop} {tA : TA} (h : te σ H fun x H1 => tyV K T x H1 ∧ tA σ H1 fun xs H2 => rr x xs H2 Q) : tBM K T rr te tA σ H Q := h
end
theorem sm2 {A B C : Hp} (g : Same B C) (h : Same A B) : Same A C := h.trans g
/-- all but the list at l is as it was -/
def But (l : Addr) (H H' : Hp) : Prop := ∀ b o, b ≠ l → H b = some o → H' b = some o
theorem But.upd {H : Hp} {l : Addr} {o : HO} : But l H (upd H l o) := fun b u hb q => by rw [upd_ne hb]; exact q
theorem But.tup {K : PySem.W.Frag} {H H' : Hp} {l a : Addr} {xs ys : List V} (e : But l H H') (hl : H l = some (.lst ys)) (h : SqT K H a xs) : SqT K H' a xs := by
  rcases h with (h | ⟨o, h⟩) | h
  · exact .inl (.inl (e _ _ (fun z => by rw [z, hl] at h; cases h) h))
  · exact .inl (.inr ⟨o, e _ _ (fun z => by rw [z, hl] at h; cases h) h⟩)
  · exact .inr h
theorem But.seq {K : PySem.W.Frag} {H H' : Hp} {l a : Addr} {xs : List V} (e : But l H H') (hne : a ≠ l) (h : SqL K H a xs) : SqL K H' a xs := by
  rcases h with (h | ⟨o, h⟩) | h
  · exact .inl (.inl (e _ _ hne h))
  · exact .inl (.inr ⟨o, e _ _ hne h⟩)
  · exact .inr h
section
variable {σ σ' : St} {H : Hp} {Q : VK}
theorem z_append {l : Addr} {xs : List V} {v : V} (h : H l = some (.lst xs)) (hl : xs.length < sizeLine) (q : ∀ H', But l H H' → H' l = some (.lst (xs ++ [v])) → Q .non H') : rAppend (.ref l) [v] H Q :=
  ⟨l, xs, v, rfl, rfl, h, hl, q _ But.upd upd_same⟩
end
/-! loops -/
section
variable {σ : St} {H : Hp} {te : TE} {tb : TS} {g : TG} {nx bk ct : St → Hp → Prop} {rt : VK} {wi : TI} {K : PySem.W.Frag} {a : Addr} {xs : List V}
def FW (J : It) (g : TG) (tb : TS) (nx : St → Hp → Prop) (rt : VK) (σ : St) (H : Hp) : Prop := ∃ W : Nat → Nat → St → Hp → Prop, (∃ m, W 0 m σ H) ∧ ∀ i m σ H, W i m σ H →
  (J.stop i H ∧ nx σ H) ∨ (J.go i H ∧ ∃ N : St → Hp → Prop, (∀ σ' H', N σ' H' → ∃ m', m' < m ∧ W (i + 1) m' σ' H') ∧ ∀ x H', J.yld i H x H' → g x σ H' fun σ2 H2 => tb ⟨N, rt, nx, N⟩ σ2 H2)
theorem z_for (h : wi σ H fun J H1 => FW J g tb nx rt σ H1) : tFor wi g tb ⟨nx, rt, bk, ct⟩ σ H := h
theorem z_iL {R : It → Hp → Prop} (h : te σ H fun x H1 => ∃ a, x = .ref a ∧ (∃ xs, SqL K H1 a xs) ∧ R (Itl K a) H1) : iList K te σ H R := h
theorem z_iT {R : It → Hp → Prop} (h : te σ H fun x H1 => ∃ a, x = .ref a ∧ (∃ xs, SqT K H1 a xs) ∧ R (Itt K a) H1) : iTup K te σ H R := h
theorem z_iL2 {S : Addr → Prop} (hs : SqL K H a xs) (q : S a) : ∃ a', V.ref a = .ref a' ∧ (∃ xs, SqL K H a' xs) ∧ S a' := ⟨a, rfl, ⟨xs, hs⟩, q⟩
theorem z_iT2 {S : Addr → Prop} (hs : SqT K H a xs) (q : S a) : ∃ a', V.ref a = .ref a' ∧ (∃ xs, SqT K H a' xs) ∧ S a' := ⟨a, rfl, ⟨xs, hs⟩, q⟩
theorem z_iR1 {tA : TA} {R : It → Hp → Prop} (h : tA σ H fun vs H1 => ∃ j : Int, vs = [.int j] ∧ -(2 ^ 62) ≤ j ∧ j < 2 ^ 62 ∧ R (Itr 0 j.toNat) H1) : iRng1 tA σ H R := h
theorem z_iR1b {j : Int} {S : Int → Prop} (h1 : -(2 ^ 62) ≤ j) (h2 : j < 2 ^ 62) (q : S j) : ∃ j' : Int, [V.int j] = [.int j'] ∧ -(2 ^ 62) ≤ j' ∧ j' < 2 ^ 62 ∧ S j' := ⟨j, rfl, h1, h2, q⟩
theorem z_iR2 {tA : TA} {R : It → Hp → Prop} (h : tA σ H fun vs H1 => ∃ i j : Int, vs = [.int i, .int j] ∧ (-(2 ^ 62) ≤ i ∧ i < 2 ^ 62 ∧ -(2 ^ 62) ≤ j ∧ j < 2 ^ 62) ∧ R (Itr i (j - i).toNat) H1) : iRng2 tA σ H R := h
theorem z_iR2b {i j : Int} {S : Int → Int → Prop} (h : -(2 ^ 62) ≤ i ∧ i < 2 ^ 62 ∧ -(2 ^ 62) ≤ j ∧ j < 2 ^ 62) (q : S i j) : ∃ i' j' : Int, [V.int i, V.int j] = [.int i', .int j'] ∧ (-(2 ^ 62) ≤ i' ∧ i' < 2 ^ 62 ∧ -(2 ^ 62) ≤ j' ∧ j' < 2 ^ 62) ∧ S i' j' := ⟨i, j, rfl, h, q⟩
theorem z_iR3 {tA : TA} {R : It → Hp → Prop} (h : tA σ H fun vs H1 => ∃ i j c : Int, vs = [.int i, .int j, .int c] ∧ 0 < c ∧ c < 1073741824 ∧ Builtin.Range.small i j c = true ∧ R (Itr3 i c (rngN i j c)) H1) : iRng3 tA σ H R := h
theorem z_iR3b {i j c : Int} {S : Int → Int → Int → Prop} (h1 : 0 < c) (h2 : c < 1073741824) (h3 : Builtin.Range.small i j c = true) (q : S i j c) : ∃ i' j' c' : Int, [V.int i, V.int j, V.int c] = [.int i', .int j', .int c'] ∧ 0 < c' ∧ c' < 1073741824 ∧ Builtin.Range.small i' j' c' = true ∧ S i' j' c' := ⟨i, j, c, rfl, h1, h2, h3, q⟩
theorem z_r1c {J : It} {j : Int} (h1 : -(2 ^ 62) ≤ j) (h2 : j < 2 ^ 62) (q : FW J g tb nx rt σ H) : -(2 ^ 62) ≤ j ∧ j < 2 ^ 62 ∧ FW J g tb nx rt σ H := ⟨h1, h2, q⟩
theorem z_r2c {J : It} {i j : Int} (h1 : -(2 ^ 62) ≤ i) (h2 : i < 2 ^ 62) (h3 : -(2 ^ 62) ≤ j) (h4 : j < 2 ^ 62) (q : FW J g tb nx rt σ H) : (-(2 ^ 62) ≤ i ∧ i < 2 ^ 62 ∧ -(2 ^ 62) ≤ j ∧ j < 2 ^ 62) ∧ FW J g tb nx rt σ H := ⟨⟨h1, h2, h3, h4⟩, q⟩
theorem f_list (Pv : Nat → St → Hp → Prop) (h0 : Pv 0 σ H) (hl : ∀ i σ H, i ≤ xs.length → Pv i σ H → SqL K H a xs)
    (hs : ∀ i x σ H, xs[i]? = some x → Pv i σ H → g x σ H fun σ2 H2 => tb ⟨Pv (i + 1), rt, nx, Pv (i + 1)⟩ σ2 H2) (hd : ∀ σ H, Pv xs.length σ H → nx σ H) : FW (Itl K a) g tb nx rt σ H := for_list (D := ⟨nx, rt, nx, nx⟩) Pv h0 hl hs hd
theorem f_tup (Pv : Nat → St → Hp → Prop) (h0 : Pv 0 σ H) (hl : ∀ i σ H, i ≤ xs.length → Pv i σ H → SqT K H a xs)
    (hs : ∀ i x σ H, xs[i]? = some x → Pv i σ H → g x σ H fun σ2 H2 => tb ⟨Pv (i + 1), rt, nx, Pv (i + 1)⟩ σ2 H2) (hd : ∀ σ H, Pv xs.length σ H → nx σ H) : FW (Itt K a) g tb nx rt σ H := for_tup (D := ⟨nx, rt, nx, nx⟩) Pv h0 hl hs hd
theorem f_range {lo : Int} {n : Nat} (Pv : Nat → St → Hp → Prop) (h0 : Pv 0 σ H)
    (hs : ∀ i σ H, i < n → Pv i σ H → g (.int (lo + i)) σ H fun σ2 H2 => tb ⟨Pv (i + 1), rt, nx, Pv (i + 1)⟩ σ2 H2) (hd : ∀ σ H, Pv n σ H → nx σ H) : FW (Itr lo n) g tb nx rt σ H := for_range (D := ⟨nx, rt, nx, nx⟩) Pv h0 hs hd
theorem f_range3 {lo c : Int} {n : Nat} (Pv : Nat → St → Hp → Prop) (h0 : Pv 0 σ H)
    (hs : ∀ i σ H, i < n → Pv i σ H → g (.int (lo + (i : Nat) * c)) σ H fun σ2 H2 => tb ⟨Pv (i + 1), rt, nx, Pv (i + 1)⟩ σ2 H2) (hd : ∀ σ H, Pv n σ H → nx σ H) : FW (Itr3 lo c n) g tb nx rt σ H := for_range3 (D := ⟨nx, rt, nx, nx⟩) Pv h0 hs hd
/-- while: W by a measure -/
theorem z_while {c : TT} (W : Nat → St → Hp → Prop) (m0 : Nat) (h0 : W m0 σ H)
    (hs : ∀ m σ H, W m σ H → c σ H fun b H1 => if b = true then ∃ N : St → Hp → Prop, (∀ σ' H', N σ' H' → ∃ m', m' < m ∧ W m' σ' H') ∧ tb ⟨N, rt, nx, N⟩ σ H1 else nx σ H1) : tWhile c tb ⟨nx, rt, bk, ct⟩ σ H := ⟨W, ⟨m0, h0⟩, hs⟩
theorem z_whN {W : Nat → St → Hp → Prop} {m : Nat} (h : tb ⟨fun σ' H' => ∃ m', m' < m ∧ W m' σ' H', rt, nx, fun σ' H' => ∃ m', m' < m ∧ W m' σ' H'⟩ σ H) : ∃ N : St → Hp → Prop, (∀ σ' H', N σ' H' → ∃ m', m' < m ∧ W m' σ' H') ∧ tb ⟨N, rt, nx, N⟩ σ H := ⟨_, fun _ _ z => z, h⟩
end
/-! isinstance by kinds -/
def IsiG (K : PySem.W.Frag) (n : String) (f : Tg → Bool) (xs : List V) (H : Hp) (Q : VK) : Prop := rIsi K n f xs H Q
theorem z_isi0 {K : PySem.W.Frag} {n : String} {f : Tg → Bool} {xs : List V} {H : Hp} {Q : VK} (h : IsiG K n f xs H Q) : rIsi K n f xs H Q := h
section
variable {H : Hp} {Q : VK} {K : PySem.W.Frag} {i : Int} {a : Str} {b : Bool} {p : Addr} {xs : List V}
theorem z_isN_int (q : Q (.bl false) H) : IsiG K "int" Tg.isInt [.non, .ty "int"] H Q := ⟨_, .non, rfl, True.intro, q⟩
theorem z_isB_int (q : Q (.bl true) H) : IsiG K "int" Tg.isInt [.bl b, .ty "int"] H Q := ⟨_, .bl, rfl, True.intro, q⟩
theorem z_isI_int (q : Q (.bl true) H) : IsiG K "int" Tg.isInt [.int i, .ty "int"] H Q := ⟨_, .int, rfl, True.intro, q⟩
theorem z_isS_int (q : Q (.bl false) H) : IsiG K "int" Tg.isInt [.str a, .ty "int"] H Q := ⟨_, .str, rfl, True.intro, q⟩
theorem z_isT_int (hs : SqT K H p xs) (q : Q (.bl false) H) : IsiG K "int" Tg.isInt [.ref p, .ty "int"] H Q := ⟨_, .tup, rfl, ⟨xs, hs⟩, q⟩
theorem z_isL_int (hs : SqL K H p xs) (q : Q (.bl false) H) : IsiG K "int" Tg.isInt [.ref p, .ty "int"] H Q := ⟨_, .lst, rfl, ⟨xs, hs⟩, q⟩
theorem z_isN_bool (q : Q (.bl false) H) : IsiG K "bool" Tg.isBool [.non, .ty "bool"] H Q := ⟨_, .non, rfl, True.intro, q⟩
theorem z_isB_bool (q : Q (.bl true) H) : IsiG K "bool" Tg.isBool [.bl b, .ty "bool"] H Q := ⟨_, .bl, rfl, True.intro, q⟩
theorem z_isI_bool (q : Q (.bl false) H) : IsiG K "bool" Tg.isBool [.int i, .ty "bool"] H Q := ⟨_, .int, rfl, True.intro, q⟩
theorem z_isS_bool (q : Q (.bl false) H) : IsiG K "bool" Tg.isBool [.str a, .ty "bool"] H Q := ⟨_, .str, rfl, True.intro, q⟩
theorem z_isT_bool (hs : SqT K H p xs) (q : Q (.bl false) H) : IsiG K "bool" Tg.isBool [.ref p, .ty "bool"] H Q := ⟨_, .tup, rfl, ⟨xs, hs⟩, q⟩
theorem z_isL_bool (hs : SqL K H p xs) (q : Q (.bl false) H) : IsiG K "bool" Tg.isBool [.ref p, .ty "bool"] H Q := ⟨_, .lst, rfl, ⟨xs, hs⟩, q⟩
theorem z_isN_str (q : Q (.bl false) H) : IsiG K "str" Tg.isStr [.non, .ty "str"] H Q := ⟨_, .non, rfl, True.intro, q⟩
theorem z_isB_str (q : Q (.bl false) H) : IsiG K "str" Tg.isStr [.bl b, .ty "str"] H Q := ⟨_, .bl, rfl, True.intro, q⟩
theorem z_isI_str (q : Q (.bl false) H) : IsiG K "str" Tg.isStr [.int i, .ty "str"] H Q := ⟨_, .int, rfl, True.intro, q⟩
theorem z_isS_str (q : Q (.bl true) H) : IsiG K "str" Tg.isStr [.str a, .ty "str"] H Q := ⟨_, .str, rfl, True.intro, q⟩
theorem z_isT_str (hs : SqT K H p xs) (q : Q (.bl false) H) : IsiG K "str" Tg.isStr [.ref p, .ty "str"] H Q := ⟨_, .tup, rfl, ⟨xs, hs⟩, q⟩
theorem z_isL_str (hs : SqL K H p xs) (q : Q (.bl false) H) : IsiG K "str" Tg.isStr [.ref p, .ty "str"] H Q := ⟨_, .lst, rfl, ⟨xs, hs⟩, q⟩
theorem z_isN_tuple (q : Q (.bl false) H) : IsiG K "tuple" Tg.isTup [.non, .ty "tuple"] H Q := ⟨_, .non, rfl, True.intro, q⟩
theorem z_isB_tuple (q : Q (.bl false) H) : IsiG K "tuple" Tg.isTup [.bl b, .ty "tuple"] H Q := ⟨_, .bl, rfl, True.intro, q⟩
theorem z_isI_tuple (q : Q (.bl false) H) : IsiG K "tuple" Tg.isTup [.int i, .ty "tuple"] H Q := ⟨_, .int, rfl, True.intro, q⟩
theorem z_isS_tuple (q : Q (.bl false) H) : IsiG K "tuple" Tg.isTup [.str a, .ty "tuple"] H Q := ⟨_, .str, rfl, True.intro, q⟩
theorem z_isT_tuple (hs : SqT K H p xs) (q : Q (.bl true) H) : IsiG K "tuple" Tg.isTup [.ref p, .ty "tuple"] H Q := ⟨_, .tup, rfl, ⟨xs, hs⟩, q⟩
theorem z_isL_tuple (hs : SqL K H p xs) (q : Q (.bl false) H) : IsiG K "tuple" Tg.isTup [.ref p, .ty "tuple"] H Q := ⟨_, .lst, rfl, ⟨xs, hs⟩, q⟩
theorem z_isN_list (q : Q (.bl false) H) : IsiG K "list" Tg.isLst [.non, .ty "list"] H Q := ⟨_, .non, rfl, True.intro, q⟩
theorem z_isB_list (q : Q (.bl false) H) : IsiG K "list" Tg.isLst [.bl b, .ty "list"] H Q := ⟨_, .bl, rfl, True.intro, q⟩
theorem z_isI_list (q : Q (.bl false) H) : IsiG K "list" Tg.isLst [.int i, .ty "list"] H Q := ⟨_, .int, rfl, True.intro, q⟩
theorem z_isS_list (q : Q (.bl false) H) : IsiG K "list" Tg.isLst [.str a, .ty "list"] H Q := ⟨_, .str, rfl, True.intro, q⟩
theorem z_isT_list (hs : SqT K H p xs) (q : Q (.bl false) H) : IsiG K "list" Tg.isLst [.ref p, .ty "list"] H Q := ⟨_, .tup, rfl, ⟨xs, hs⟩, q⟩
theorem z_isL_list (hs : SqL K H p xs) (q : Q (.bl true) H) : IsiG K "list" Tg.isLst [.ref p, .ty "list"] H Q := ⟨_, .lst, rfl, ⟨xs, hs⟩, q⟩
end
theorem op_mulH {X : Cx} : OpR X (binaryOp .Mult) (rI (fun i j => My.Bd 50000000 i ∧ My.Bd 50000000 j) fun i j => .int (i * j)) := opI fun _ _ _ _ _ _ _ hc q =>
  mul_int q (IntMulOk.of_le (PySem.intBits_le_iff.mpr hc.1) (PySem.intBits_le_iff.mpr hc.2) (by decide))
theorem bd_mul {m n : Nat} {x y : Int} (h : My.Bd m x) (g : My.Bd n y) : My.Bd (m + n) (x * y) := h.mul g
theorem bd_add {m n : Nat} {x y : Int} (h : My.Bd m x) (g : My.Bd n y) : My.Bd (max m n + 1) (x + y) := (h.mono (show m ≤ max m n by omega)).add (g.mono (show n ≤ max m n by omega))
theorem bd_sub {m n : Nat} {x y : Int} (h : My.Bd m x) (g : My.Bd n y) : My.Bd (max m n + 1) (x - y) := (h.mono (show m ≤ max m n by omega)).sub (g.mono (show n ≤ max m n by omega))
theorem bd_60 {n : Int} (h1 : -1152921504606846976 < n) (h2 : n < 1152921504606846976) : My.Bd 60 n := by unfold My.Bd; omega
theorem bt_max : bootBuiltins "max" = some (.builtin "max") := by decide +kernel
theorem bt_min : bootBuiltins "min" = some (.builtin "min") := by decide +kernel
theorem Same.but {H H2 H3 : Hp} {l : Addr} (s : Same H H2) (n : H l = none) (b : But l H2 H3) : Same H H3 := fun c o e => b c o (fun z => by rw [z, n] at e; cases e) (s c o e)
theorem z_tyL {K : PySem.W.Frag} {l : Addr} {xs : List V} {H : Hp} {S : Prop} (h : SqL K H l xs) (q : S) : tyV K "list" (.ref l) H ∧ S := ⟨.inl ⟨rfl, xs, h⟩, q⟩
/-- if c: x = e, for an int's name -/
theorem z_joinI {c : TT} {te : TE} {k : Nat} {σ σ' : St} {H : Hp} {R bk ct : St → Hp → Prop} {rt : VK} (b : Bool) (i1 i2 : Int) (hc : ∀ S : Bool → Hp → Prop, S b H → c σ H S) (h1 : b = true → ∀ S : V → Hp → Prop, S (.int i1) H → te σ H S) (hold : GetTo σ k (.int i2)) (hs : SetTo σ k (some (.int (if b = true then i1 else i2))) σ') (q : R σ' H) :
    tIfS c (tAsg te (gName k)) tNext ⟨R, rt, bk, ct⟩ σ H := by
  refine hc _ ?_
  cases b with
  | true =>
    refine iteT (h1 rfl _ ?_)
    show R (σ.set k (some (.int i1))) H
    have := hs.eq
    rw [if_pos rfl] at this
    rw [this]; exact q
  | false =>
    refine iteF ?_
    show R σ H
    have e := hs.eq
    rw [if_neg Bool.false_ne_true] at e
    have e2 : σ.set k (some (.int i2)) = σ := by
      apply List.ext_getElem?
      intro j
      rw [List.getElem?_set]
      split
      · next z =>
        subst z
        have := hold.eq
        rw [this]
        split
        · rfl
        · next y => rw [List.getElem?_eq_none (by omega)] at this; cases this
      · rfl
    rw [← e2, e]; exact q
theorem z_go {N : List Str} {vs : List V} {σ : St} {t : TS} {D : Ends} {H : Hp} (h : start N vs = σ) (q : t D σ H) : t D (start N vs) H := by rw [h]; exact q
end L2

/-! two nested values that are alike: == is True, != False -/
namespace L2
open PySem PySem.Spec PyProof.Rows
inductive Alike (K : PySem.W.Frag) (H : Hp) : Nat → V → V → Prop
  | int {n : Nat} {i : Int} : Alike K H n (.int i) (.int i)
  | str {n : Nat} {x : Str} : Alike K H n (.str x) (.str x)
  | bl {n : Nat} {b : Bool} : Alike K H n (.bl b) (.bl b)
  | non {n : Nat} : Alike K H n .non .non
  | ref {n : Nat} {a : Addr} : Alike K H n (.ref a) (.ref a)
  | tup {n : Nat} {p q : Addr} {xs ys : List V} (h1 : SqT K H p xs) (h2 : SqT K H q ys) (hl : xs.length = ys.length) (he : ∀ (j : Nat) (x y : V), xs[j]? = some x → ys[j]? = some y → Alike K H n x y) : Alike K H (n + 1) (.ref p) (.ref q)
  | lst {n : Nat} {p q : Addr} {xs ys : List V} (h1 : SqL K H p xs) (h2 : SqL K H q ys) (hl : xs.length = ys.length) (he : ∀ (j : Nat) (x y : V), xs[j]? = some x → ys[j]? = some y → Alike K H n x y) : Alike K H (n + 1) (.ref p) (.ref q)
theorem vals_at {xs : List V} {us : List Value} (h : Vals xs us) : ∀ {j : Nat} {u : Value}, us[j]? = some u → ∃ x, xs[j]? = some x ∧ RelV x u := by
  induction h with
  | nil => intro j u e; simp at e
  | cons r rr ih =>
    intro j u e
    cases j with
    | zero => exact ⟨_, rfl, by rw [List.getElem?_cons_zero] at e; cases e; exact r⟩
    | succ j => exact ih (by rw [List.getElem?_cons_succ] at e; exact e)
theorem all_true {n : Nat} : (List.range n).all (fun _ => true) = true := by rw [List.all_eq_true]; intro _ _; rfl
section
variable {X : Cx} {pins : List (Addr × Obj)} {σ : St} {H : Hp} {s : Shared}
theorem Inv.alike (I : Inv X pins σ H s) {n : Nat} {x y : V} (h : Alike X.K H n x y) : ∀ {A : Around} {u v : Value}, A.units + n < cLine → RelV x u → RelV y v → SeqAt.EqAt A s u v true := by
  induction h with
  | @int n i =>
    intro A u v hu r1 r2
    obtain ⟨t, rfl⟩ := r1
    obtain ⟨t', rfl⟩ := r2
    have := SeqAt.EqAt.int_int (A := A) (s := s) i t i t'
    rw [beq_self_eq_true] at this
    exact this
  | @str n x =>
    intro A u v hu r1 r2
    obtain ⟨t, rfl⟩ := r1
    obtain ⟨t', rfl⟩ := r2
    have := SeqAt.EqAt.str_str (A := A) (s := s) x t x t'
    rw [beq_self_eq_true] at this
    exact this
  | bl => intro A u v hu r1 r2; cases r1; cases r2; exact SeqAt.EqAt.same _
  | non => intro A u v hu r1 r2; cases r1; cases r2; exact SeqAt.EqAt.same _
  | ref => intro A u v hu r1 r2; cases r1; cases r2; exact SeqAt.EqAt.same _
  | @tup n p q xs ys h1 h2 hl he ih =>
    intro A u v hu r1 r2
    cases r1
    cases r2
    by_cases e : p = q
    · subst e; exact SeqAt.EqAt.same _
    · refine SeqAt.EqAt.of_refs e ?_
      obtain ⟨its, v1, p1, _⟩ := I.tuple h1
      obtain ⟨its2, v2, p2, _⟩ := I.tuple h2
      have l1 := v1.length
      have l2 := v2.length
      have key := SeqAt.RcAt.tuples (A := A) (s := s) (l := p) (b := q) (items := its.toArray) (items2 := its2.toArray) (e := fun _ => true) p1 p2 (by omega) (fun j g1 g2 => by
        have g1' : j < its.length := by simpa using g1
        have g2' : j < its2.length := by simpa using g2
        obtain ⟨x, ex, rx⟩ := vals_at v1 (List.getElem?_eq_getElem g1')
        obtain ⟨y, ey, ry⟩ := vals_at v2 (List.getElem?_eq_getElem g2')
        have w1 : its.toArray[j] = its[j] := by simp
        have w2 : its2.toArray[j] = its2[j] := by simp
        rw [w1, w2]
        exact ih j x y ex ey (by show A.units + 1 + n < cLine; omega) rx ry)
      have e2 : ((List.range (min its.toArray.size its2.toArray.size)).all (fun _ => true) && its.toArray.size == its2.toArray.size) = true := by
        rw [all_true, Bool.true_and, List.size_toArray, List.size_toArray, ← l1, ← l2, hl, beq_self_eq_true]
      rw [e2] at key
      exact key
  | @lst n p q xs ys h1 h2 hl he ih =>
    intro A u v hu r1 r2
    cases r1
    cases r2
    by_cases e : p = q
    · subst e; exact SeqAt.EqAt.same _
    · refine SeqAt.EqAt.of_refs e ?_
      obtain ⟨its, v1, p1, _⟩ := I.list h1
      obtain ⟨its2, v2, p2, _⟩ := I.list h2
      have l1 := v1.length
      have l2 := v2.length
      have key := SeqAt.RcAt.lists (A := A) (s := s) (l := p) (b := q) (items := its.toArray) (items2 := its2.toArray) (e := fun _ => true) p1.isList p2.isList (by rw [List.size_toArray, List.size_toArray, ← l1, ← l2, hl]) (by omega) (fun j g1 g2 => by
        have g1' : j < its.length := by simpa using g1
        have g2' : j < its2.length := by simpa using g2
        obtain ⟨x, ex, rx⟩ := vals_at v1 (List.getElem?_eq_getElem g1')
        obtain ⟨y, ey, ry⟩ := vals_at v2 (List.getElem?_eq_getElem g2')
        have w1 : its.toArray[j] = its[j] := by simp
        have w2 : its2.toArray[j] = its2[j] := by simp
        rw [w1, w2]
        exact ih j x y ex ey (by show A.units + 1 + n < cLine; omega) rx ry)
      rw [all_true] at key
      exact key
/-- both are tuples, or both lists, alike item by item -/
def AlikeS (K : PySem.W.Frag) (H : Hp) (p q : Addr) : Prop := ∃ (n : Nat) (xs ys : List V), n ≤ 100 ∧ ((SqT K H p xs ∧ SqT K H q ys) ∨ (SqL K H p xs ∧ SqL K H q ys)) ∧ xs.length = ys.length ∧ ∀ (j : Nat) (x y : V), xs[j]? = some x → ys[j]? = some y → Alike K H n x y
def rAlk (K : PySem.W.Frag) (b : Bool) : R2 := fun x y H Q => ∃ p q, x = .ref p ∧ y = .ref q ∧ AlikeS K H p q ∧ Q (.bl b) H
theorem z_alk {K : PySem.W.Frag} {H : Hp} {Q : VK} {b : Bool} {p q : Addr} (h : AlikeS K H p q) (k : Q (.bl b) H) : rAlk K b (.ref p) (.ref q) H Q := ⟨p, q, rfl, rfl, h, k⟩
theorem op_eqA (hu : X.A.units + 150 < cLine) : OpR X (compareOp .Eq) (rAlk X.K true) := by
  intro pins s σ H x y v u Q I rx ry h
  obtain ⟨p, q, rfl, rfl, ⟨n, xs, ys, hn, hs, hl, he⟩, k⟩ := h
  cases rx
  cases ry
  rcases hs with ⟨h1, h2⟩ | ⟨h1, h2⟩
  · obtain ⟨its, v1, p1, _⟩ := I.tuple h1
    obtain ⟨its2, v2, p2, _⟩ := I.tuple h2
    have l1 := v1.length
    have l2 := v2.length
    have key := SeqAt.RcAt.tuples (A := X.A) (s := s) (l := p) (b := q) (items := its.toArray) (items2 := its2.toArray) (e := fun _ => true) p1 p2 (by omega) (fun j g1 g2 => by
      have g1' : j < its.length := by simpa using g1
      have g2' : j < its2.length := by simpa using g2
      obtain ⟨x, ex, rx⟩ := vals_at v1 (List.getElem?_eq_getElem g1')
      obtain ⟨y, ey, ry⟩ := vals_at v2 (List.getElem?_eq_getElem g2')
      have w1 : its.toArray[j] = its[j] := by simp
      have w2 : its2.toArray[j] = its2[j] := by simp
      rw [w1, w2]
      exact I.alike (he j x y ex ey) (by show X.A.units + 1 + n < cLine; omega) rx ry)
    have e2 : ((List.range (min its.toArray.size its2.toArray.size)).all (fun _ => true) && its.toArray.size == its2.toArray.size) = true := by
      rw [all_true, Bool.true_and, List.size_toArray, List.size_toArray, ← l1, ← l2, hl, beq_self_eq_true]
    rw [e2] at key
    exact key _ _ _ _ ⟨.bl true, H, I, rfl, k⟩
  · obtain ⟨its, v1, p1, _⟩ := I.list h1
    obtain ⟨its2, v2, p2, _⟩ := I.list h2
    have l1 := v1.length
    have l2 := v2.length
    have key := SeqAt.RcAt.lists (A := X.A) (s := s) (l := p) (b := q) (items := its.toArray) (items2 := its2.toArray) (e := fun _ => true) p1.isList p2.isList (by rw [List.size_toArray, List.size_toArray, ← l1, ← l2, hl]) (by omega) (fun j g1 g2 => by
      have g1' : j < its.length := by simpa using g1
      have g2' : j < its2.length := by simpa using g2
      obtain ⟨x, ex, rx⟩ := vals_at v1 (List.getElem?_eq_getElem g1')
      obtain ⟨y, ey, ry⟩ := vals_at v2 (List.getElem?_eq_getElem g2')
      have w1 : its.toArray[j] = its[j] := by simp
      have w2 : its2.toArray[j] = its2[j] := by simp
      rw [w1, w2]
      exact I.alike (he j x y ex ey) (by show X.A.units + 1 + n < cLine; omega) rx ry)
    rw [all_true] at key
    exact key _ _ _ _ ⟨.bl true, H, I, rfl, k⟩
theorem op_neA (hu : X.A.units + 150 < cLine) : OpR X (compareOp .NotEq) (rAlk X.K false) := by
  intro pins s σ H x y v u Q I rx ry h
  obtain ⟨p, q, rfl, rfl, ⟨n, xs, ys, hn, hs, hl, he⟩, k⟩ := h
  cases rx
  cases ry
  rcases hs with ⟨h1, h2⟩ | ⟨h1, h2⟩
  · obtain ⟨its, v1, p1, _⟩ := I.tuple h1
    obtain ⟨its2, v2, p2, _⟩ := I.tuple h2
    have l1 := v1.length
    have l2 := v2.length
    have key := SeqAt.RcNeAt.tuples (A := X.A) (s := s) (l := p) (b := q) (items := its.toArray) (items2 := its2.toArray) (e := fun _ => true) p1 p2 (by omega) (fun j g1 g2 => by
      have g1' : j < its.length := by simpa using g1
      have g2' : j < its2.length := by simpa using g2
      obtain ⟨x, ex, rx⟩ := vals_at v1 (List.getElem?_eq_getElem g1')
      obtain ⟨y, ey, ry⟩ := vals_at v2 (List.getElem?_eq_getElem g2')
      have w1 : its.toArray[j] = its[j] := by simp
      have w2 : its2.toArray[j] = its2[j] := by simp
      rw [w1, w2]
      exact I.alike (he j x y ex ey) (by show X.A.units + 1 + n < cLine; omega) rx ry)
    have e2 : (!((List.range (min its.toArray.size its2.toArray.size)).all (fun _ => true) && its.toArray.size == its2.toArray.size)) = false := by
      rw [all_true, Bool.true_and, List.size_toArray, List.size_toArray, ← l1, ← l2, hl, beq_self_eq_true]; rfl
    rw [e2] at key
    exact key _ _ _ _ ⟨.bl false, H, I, rfl, k⟩
  · obtain ⟨its, v1, p1, _⟩ := I.list h1
    obtain ⟨its2, v2, p2, _⟩ := I.list h2
    have l1 := v1.length
    have l2 := v2.length
    have key := SeqAt.RcNeAt.lists (A := X.A) (s := s) (l := p) (b := q) (items := its.toArray) (items2 := its2.toArray) (e := fun _ => true) p1.isList p2.isList (by rw [List.size_toArray, List.size_toArray, ← l1, ← l2, hl]) (by omega) (fun j g1 g2 => by
      have g1' : j < its.length := by simpa using g1
      have g2' : j < its2.length := by simpa using g2
      obtain ⟨x, ex, rx⟩ := vals_at v1 (List.getElem?_eq_getElem g1')
      obtain ⟨y, ey, ry⟩ := vals_at v2 (List.getElem?_eq_getElem g2')
      have w1 : its.toArray[j] = its[j] := by simp
      have w2 : its2.toArray[j] = its2[j] := by simp
      rw [w1, w2]
      exact I.alike (he j x y ex ey) (by show X.A.units + 1 + n < cLine; omega) rx ry)
    rw [all_true] at key
    exact key _ _ _ _ ⟨.bl false, H, I, rfl, k⟩
end
theorem Room.un150 {k : Nat} {A : Around} (r : Room k A) : A.units + 150 < cLine := by have := r.un; omega
end L2

/-! the head for a law that multiplies a script's own numbers: a script has at most 2 ^ 20 bits -/
namespace L2
open PySem PySem.Spec PyProof.Rows PySem.W PySem.Calls
theorem bits_of_script : ∀ {ns : List Int}, WData.weightAll (ns.map WData.int) ≤ 2 ^ 20 → ∀ x ∈ ns, My.Bd 1048576 x
  | y :: r, h, x, hx => by
    have h' : WData.weight (.int y) + 1 + WData.weightAll (r.map WData.int) ≤ 2 ^ 20 := h
    rcases List.mem_cons.mp hx with e | e
    · subst e
      have w : WData.weight (.int x) = (if x == 0 then 0 else x.natAbs.log2 + 1) := by
        first | rfl | simp [WData.weight]
      unfold My.Bd
      by_cases z : x = 0
      · subst z
        exact Nat.two_pow_pos _
      · have zb : (x == 0) = false := by simpa using z
        rw [w, zb] at h'
        have h2 : x.natAbs.log2 < 1048576 := by
          have e20 : (2 : Nat) ^ 20 = 1048576 := by decide
          rw [e20] at h'
          simp only [Bool.false_eq_true, if_false] at h'
          omega
        exact (Nat.log2_lt (by omega)).mp h2
    · exact bits_of_script (by omega) x e
theorem attach_callB {l : OpenLaw} {n : Nat} {q : Program} {loose : List Str} {XP : (Str → Option Value) → Heap → Prop} {YP : World → Heap → Prop} {d : DefRec}
    (hn : l.most = some n) (hdf : d.params.defaults = [])
    (call : ∀ (w : World) (s₀ s₁ : Shared) (mg mb : Str → Option Value) (fa : Addr) (o : Obj) (pm cd doc : Value) (a : Addr) (vs : List Value) (ns : List Int),
      Ground q loose [] XP w s₀ mg mb s₁.heap → YP w s₁.heap →
      s₁.heap.get? fa = some o → o.data = .func (docDef d.name d.params d.body d.scope pm cd doc) → s₁.heap.CodeRec cd d.name → mg d.name = some (.ref fa) →
      s₁.heap.get? a = some { cls := .type "list", data := .seq vs.toArray } → IntsAre vs ns → ns.length ≤ n → (∀ x ∈ ns, My.Bd 1048576 x) → s₁.gens = #[] →
      codeAny (model l.prog w) callerA (.call (.ref fa) ⟨[.ref a], []⟩) (fun r s' => r = .ok (.ret (.bool true)) ∧ OldK s₁.heap s'.heap ∧ s'.os = s₁.os ∧ AllBare s'.gens) s₁) :
    WalkO q loose XP YP l.row.toRowW d [] (fun f vs => PySem.call f vs) := by
  intro w s₀ s₁ mg mb G Y fa o pm cd doc dV kV ho hd hcd hD hmg hg args vals as hpre hlay hrd hwl hlo
  obtain rfl : dV = .none := Dflts.none hD hdf
  obtain rfl : kV = .none := Dflts.noKw hD
  obtain ⟨a, vs, ns, rfl, rfl, hobj, hints, hlen⟩ := Att.script_of hn hpre hwl
  have hb : ∀ x ∈ ns, My.Bd 1048576 x := by
    have h1 : (WData.list (ns.map WData.int)).layable = true := by
      have h2 : ([WData.list (ns.map WData.int)].all WData.layable) = true := hlay
      simpa using h2
    obtain ⟨_, _, h3⟩ := layableW_iff.mp h1
    refine bits_of_script ?_
    have e : WData.weight (.list (ns.map WData.int)) = WData.weightAll (ns.map WData.int) := by
      first | rfl | simp [WData.weight]
    rw [e] at h3
    exact h3
  refine enter_call (codeAny_mono (call w s₀ s₁ mg mb fa o pm cd doc a vs ns G Y ho (fd_plain hd) hcd hmg hobj hints hlen hb hg) fun r s' hq => ?_)
  obtain ⟨rfl, h2, h3, h4⟩ := hq
  exact ⟨.inl ⟨.bool true, .bool true, [], rfl, fun _ => rfl, .bool true, Att.post_true l _, fun _ => ⟨List.Pairwise.nil, fun _ hm => (nomatch hm)⟩⟩, h2, h3, h4⟩
theorem walk_ofB {l : PySem.W.OpenLaw} {n k : Nat} {q : Program} {loose : List Str} {XP : (Str → Option Value) → Heap → Prop} {YP : World → Heap → Prop} {d : DefRec} {K : Params → PySem.W.Frag} {CX : World → CXT} {sp : World → Sp} {x : Str}
    (hn : l.most = some n) (hn2 : n ≤ sizeLine) (hdf : d.params.defaults = []) (hr : Room k callerA)
    (hY : ∀ (w : World) (h : Heap), YP w h → (K w.params).In h)
    (F : ∀ (w : World) (mg : Str → Option Value) (fa : Addr) (h : Heap), (K w.params).In h → h.Ns mainGlobals mg → mg d.name = some (.ref fa) →
      ∃ fd : FuncData, (∀ (s : Shared) (u : Value), BindsTo s fd ⟨[u], []⟩ [(x, u)]) ∧
        ∀ base : Heap, (K w.params).In base → base.Ns mainGlobals mg → FnOk l.prog w (K w.params) mg base (CX w) k fa fd [x] (sp w))
    (hsp : ∀ (w : World) (H : Hp) (a : Addr) (ns : List Int), ns.length ≤ n → (∀ x ∈ ns, My.Bd 1048576 x) → Only H → SqL (K w.params) H a (ns.map V.int) → sp w [.ref a] H (fun v _ => v = .bl true) fun _ _ _ => False)
    (hCX : ∀ (w : World) (H : Hp) (s : Shared) (e : Value) (s' : Shared), CX w [] H s (fun _ _ _ => False) e s' → False) :
    PySem.W.WalkO q loose XP YP l.row.toRowW d [] (fun f vs => PySem.call f vs) := by
  refine attach_callB hn hdf fun w s₀ s₁ mg mb fa o pm cd doc a vs ns G Y ho hd hcd hmg hobj hints hlen hbits hg => ?_
  have KX := hY w _ Y
  obtain ⟨fd, hb, hF⟩ := F w mg fa _ KX G.T.g hmg
  exact law_call KX G.T.g G.T.b G.T.builtins G.T.nolimit hg hobj hints (Nat.le_trans hlen hn2) hr hF hb (fun H hO hS => hsp w H a ns hlen hbits hO hS) fun H e s' => hCX w H s₁ e s'
end L2

/-! methods of lists and texts: index, join -/
namespace L2
open PySem PySem.Spec PyProof.Rows
def rIndex (K : PySem.W.Frag) : V → List V → Hp → VK → Prop := fun x vs H Q => ∃ (l : Addr) (xs : List V) (y z : V) (j : Nat), x = .ref l ∧ vs = [y] ∧ SqL K H l xs ∧ flatV y = true ∧ xs.all flatV = true ∧ xs[j]? = some z ∧ eqV z y = true ∧ (∀ (i : Nat) (u : V), i < j → xs[i]? = some u → eqV u y = false) ∧ Q (.int j) H
def rJoin (K : PySem.W.Frag) : V → List V → Hp → VK → Prop := fun x vs H Q => ∃ (l : Addr) (sep : Str) (ts : List Str), x = .str sep ∧ vs = [.ref l] ∧ SqL K H l (ts.map V.str) ∧ JoinOk sep ts = true ∧ Q (.str (Txt.join sep ts)) H
section
variable {X : Cx}
theorem flat_at {xs : List V} (h : xs.all flatV = true) {j : Nat} {x : V} (hx : xs[j]? = some x) : flatV x = true := List.all_eq_true.mp h x (List.mem_of_getElem? hx)
theorem mt_index : MtM X "list.index" (rIndex X.K) := by
  intro pins s σ H x vs v us Q I rx rv h
  obtain ⟨l, xs, y, z, j, rfl, rfl, hq, fy, fs, hz, hit, hno, q⟩ := h
  cases rx
  obtain ⟨u, rfl, ru⟩ := rv.one
  obtain ⟨its, r, pl, hsz⟩ := I.list hq
  have hlen := r.length
  have hj : j < xs.length := by
    rcases Nat.lt_or_ge j xs.length with c | c
    · exact c
    · rw [List.getElem?_eq_none c] at hz; cases hz
  have h63 := line63
  obtain ⟨⟨cls, dd, data, sl⟩, n, ho, hc, _, hd⟩ := id pl
  simp only at hc hd
  subst hc hd
  have at_ : ∀ (i : Nat) (hi : i < its.length), ∃ w, xs[i]? = some w ∧ eqU y its[i] = eqV w y := fun i hi => by
    obtain ⟨w, hw, rw'⟩ : ∃ w, xs[i]? = some w ∧ RelV w its[i] := by
      have : ∀ {xs : List V} {us : List Value}, Vals xs us → ∀ {i : Nat} {u : Value}, us[i]? = some u → ∃ x, xs[i]? = some x ∧ RelV x u := by
        intro xs us h
        induction h with
        | nil => intro i u e; simp at e
        | cons r rr ih =>
          intro i u e
          cases i with
          | zero => exact ⟨_, rfl, by rw [List.getElem?_cons_zero] at e; cases e; exact r⟩
          | succ i => exact ih (by rw [List.getElem?_cons_succ] at e; exact e)
      exact this r (List.getElem?_eq_getElem hi)
    exact ⟨w, hw, eqU_of rw' (flat_at fs hw)⟩
  refine call_meets PySem.F.slot_list_index ⟨_, ho, rfl⟩ PySem.F.entry_list_index (PySem.F.args_list_index_2 _ _)
    (SeqAt.list_indexAt l its.toArray n dd sl u (eqU y) j (by simpa [← hlen] using hj) (by omega) ?_ ?_) ⟨ho, fun w hw => mem_eqAt ru fy r fs w (by simpa using hw), ⟨.int j, H, I.tok _, ⟨_, rfl⟩, q⟩⟩
  · obtain ⟨w, hw, e⟩ := at_ j (by omega)
    rw [hz] at hw
    cases hw
    show eqU y its.toArray[j] = true
    rw [show its.toArray[j]'(by simpa [← hlen] using hj) = its[j]'(by omega) by simp, e]
    exact hit
  · intro i hi hlt
    have hi' : i < its.length := by simpa using hi
    obtain ⟨w, hw, e⟩ := at_ i hi'
    show eqU y its.toArray[i] = false
    rw [show its.toArray[i] = its[i] by simp, e]
    exact hno i w hlt hw
theorem strs_of : ∀ {ts : List Str} {us : List Value}, Vals (ts.map V.str) us → ∃ l : List (Str × Tok), strValues l = us ∧ l.map (·.1) = ts
  | [], _, .nil => ⟨[], rfl, rfl⟩
  | x :: r, _, .cons h t => by
    obtain ⟨tk, rfl⟩ := h
    obtain ⟨l, e1, e2⟩ := strs_of (ts := r) t
    exact ⟨(x, tk) :: l, by rw [← e1]; rfl, by rw [← e2]; rfl⟩
theorem mt_join : MtM X "str.join" (rJoin X.K) := by
  intro pins s σ H x vs v us Q I rx rv h
  obtain ⟨l, sep, ts, rfl, rfl, hq, hok, q⟩ := h
  obtain ⟨t, rfl⟩ := rx
  obtain ⟨u, rfl, ru⟩ := rv.one
  cases ru
  obtain ⟨its, r, pl, hsz⟩ := I.list hq
  obtain ⟨ll, e1, e2⟩ := strs_of r
  refine SC.join (l := ll) (texts := ts) (by rw [e1]; exact pl.isList) e2 hok (fun t' k => ⟨.str _, H, I.tok _, ⟨_, rfl⟩, q⟩)
/-- a text's slice -/
def rSlS : V → Option Int → Option Int → Hp → VK → Prop := fun x lo hi H Q => ∃ z : Str, x = .str z ∧ z.length ≤ sizeLine ∧ Q (.str (Txt.slice z lo hi)) H
theorem sl_str : SlR X rSlS := by
  intro pins s σ H x v vl vu lo hi sl Q I rx hs pl pu h
  obtain ⟨z, rfl, hz, q⟩ := h
  obtain ⟨t, rfl⟩ := rx
  have fin : ∀ (l u : Option (Int × Tok)), s.heap.IsSlice sl l u none → Q (.str (Txt.slice z (l.map (·.1)) (u.map (·.1)))) H → wpAny (model X.prog X.w) X.A (getItem (.str z t) (.ref sl)) (EP X pins σ Q) X.xe s := fun l u hs q =>
    wpAny_getItem_str_slice (l := l) (u := u) (st := none) hs rfl (post_val_or_str ⟨Nat.le_trans (Txt.slice_le z _ _) hz, fun t' k => ⟨.str _, H, I.tok _, ⟨_, rfl⟩, q⟩⟩)
  refine ⟨"str", _, PySem.F.slot_str_getitem.lookup, typeIs_str _ _ _, ?_⟩
  cases pl with
  | none =>
    cases pu with
    | none => exact fin none none hs q
    | int j tj => exact fin none (some (j, tj)) hs q
  | int i ti =>
    cases pu with
    | none => exact fin (some (i, ti)) none hs q
    | int j tj => exact fin (some (i, ti)) (some (j, tj)) hs q
/-- a list held against the empty one -/
def rEqE (K : PySem.W.Frag) (f : Bool → Bool) : R2 := fun x y H Q => ∃ (p q : Addr) (xs : List V), x = .ref p ∧ y = .ref q ∧ SqL K H p xs ∧ SqL K H q [] ∧ Q (.bl (f xs.isEmpty)) H
theorem op_eqE (hu : X.A.units < cLine) : OpR X (compareOp .Eq) (rEqE X.K (fun b => b)) := by
  intro pins s σ H x y v u Q I rx ry h
  obtain ⟨p, q, xs, rfl, rfl, h1, h2, k⟩ := h
  cases rx
  cases ry
  obtain ⟨its, v1, p1, _⟩ := I.list h1
  obtain ⟨its2, v2, p2, _⟩ := I.list h2
  have l1 := v1.length
  have l2 := v2.length
  cases xs with
  | nil =>
    have e1 : its.length = 0 := by rw [← l1]; rfl
    have e2 : its2.length = 0 := by rw [← l2]; rfl
    have key := SeqAt.RcAt.lists (A := X.A) (s := s) (l := p) (b := q) (items := its.toArray) (items2 := its2.toArray) (e := fun _ => true) p1.isList p2.isList (by rw [List.size_toArray, List.size_toArray, e1, e2]) hu (fun j g1 g2 => by
      have g1' : j < its.length := by simpa using g1
      omega)
    have e3 : (List.range its.toArray.size).all (fun _ => true) = true := by rw [List.all_eq_true]; intro _ _; rfl
    rw [e3] at key
    exact key _ _ _ _ ⟨.bl true, H, I, rfl, k⟩
  | cons y r =>
    have e1 : its.length = r.length + 1 := by rw [← l1]; rfl
    have e2 : its2.length = 0 := by rw [← l2]; rfl
    have key := SeqAt.RcAt.lists_lengths (A := X.A) (s := s) (l := p) (b := q) (items := its.toArray) (items2 := its2.toArray) p1.isList p2.isList (by rw [List.size_toArray, List.size_toArray, e1, e2]; rfl) hu
    exact key _ _ _ _ ⟨.bl false, H, I, rfl, k⟩
theorem op_neE (hu : X.A.units < cLine) : OpR X (compareOp .NotEq) (rEqE X.K (fun b => !b)) := by
  intro pins s σ H x y v u Q I rx ry h
  obtain ⟨p, q, xs, rfl, rfl, h1, h2, k⟩ := h
  cases rx
  cases ry
  obtain ⟨its, v1, p1, _⟩ := I.list h1
  obtain ⟨its2, v2, p2, _⟩ := I.list h2
  have l1 := v1.length
  have l2 := v2.length
  cases xs with
  | nil =>
    have e1 : its.length = 0 := by rw [← l1]; rfl
    have e2 : its2.length = 0 := by rw [← l2]; rfl
    have key := SeqAt.RcNeAt.lists (A := X.A) (s := s) (l := p) (b := q) (items := its.toArray) (items2 := its2.toArray) (e := fun _ => true) p1.isList p2.isList (by rw [List.size_toArray, List.size_toArray, e1, e2]) hu (fun j g1 g2 => by
      have g1' : j < its.length := by simpa using g1
      omega)
    have e3 : (List.range its.toArray.size).all (fun _ => true) = true := by rw [List.all_eq_true]; intro _ _; rfl
    rw [e3] at key
    exact key _ _ _ _ ⟨.bl false, H, I, rfl, k⟩
  | cons y r =>
    have e1 : its.length = r.length + 1 := by rw [← l1]; rfl
    have e2 : its2.length = 0 := by rw [← l2]; rfl
    have key := SeqAt.RcNeAt.lists_lengths (A := X.A) (s := s) (l := p) (b := q) (items := its.toArray) (items2 := its2.toArray) p1.isList p2.isList (by rw [List.size_toArray, List.size_toArray, e1, e2]; rfl) hu
    exact key _ _ _ _ ⟨.bl true, H, I, rfl, k⟩
def rAddS : R2 := fun x y H Q => ∃ i j, x = .str i ∧ y = .str j ∧ i.length + j.length ≤ sizeLine ∧ Q (.str (i ++ j)) H
theorem op_addS : OpR X (binaryOp .Add) rAddS := op_add_str
end
section
variable {σ : St} {H : Hp} {Q : VK} {K : PySem.W.Frag} {p q : Addr} {xs : List V} {f : Bool → Bool}
theorem z_addS {a b : Str} (h : a.length + b.length ≤ sizeLine) (k : Q (.str (a ++ b)) H) : rAddS (.str a) (.str b) H Q := ⟨a, b, rfl, rfl, h, k⟩
theorem z_eqE (h1 : SqL K H p xs) (h2 : SqL K H q []) (k : Q (.bl (f xs.isEmpty)) H) : rEqE K f (.ref p) (.ref q) H Q := ⟨p, q, xs, rfl, rfl, h1, h2, k⟩
theorem z_slS {z : Str} {lo hi : Option Int} (h : z.length ≤ sizeLine) (k : Q (.str (Txt.slice z lo hi)) H) : rSlS (.str z) lo hi H Q := ⟨z, rfl, h, k⟩
theorem z_ixS {z : Str} {i : Int} {c : Nat} (h : z.length ≤ sizeLine) (ha : atI z.cps.toList i = some c) (k : Q (.str ⟨#[c]⟩) H) : rIxS (.str z) (.int i) H Q := ⟨z, i, c, rfl, rfl, h, ha, k⟩
theorem z_in {b : Bool} {x : V} (h : SqL K H p xs) (fx : flatV x = true) (fs : xs.all flatV = true) (k : Q (.bl (if b then !inV x xs else inV x xs)) H) : rIn K b x (.ref p) H Q := ⟨p, xs, rfl, .inl h, fx, fs, k⟩
theorem z_index {y z : V} {j : Nat} (h : SqL K H p xs) (fy : flatV y = true) (fs : xs.all flatV = true) (hz : xs[j]? = some z) (hit : eqV z y = true) (hno : ∀ (i : Nat) (u : V), i < j → xs[i]? = some u → eqV u y = false) (k : Q (.int j) H) : rIndex K (.ref p) [y] H Q := ⟨p, xs, y, z, j, rfl, rfl, h, fy, fs, hz, hit, hno, k⟩
theorem z_join {sep : Str} {ts : List Str} (h : SqL K H p (ts.map V.str)) (ok : JoinOk sep ts = true) (k : Q (.str (Txt.join sep ts)) H) : rJoin K (.str sep) [.ref p] H Q := ⟨p, sep, ts, rfl, rfl, h, ok, k⟩
theorem z_tyS {z : Str} {S : Prop} (q : S) : tyV K "str" (.str z) H ∧ S := ⟨rfl, q⟩
end
end L2

/-! the greatest of a list of ints -/
namespace L2
open PySem PySem.Spec PyProof.Rows
theorem best_max (f : Nat → Int) : ∀ n, argBest (fun i j => decide (f i > f j)) n ≤ n ∧ ∀ j, j ≤ n → f j ≤ f (argBest (fun i j => decide (f i > f j)) n)
  | 0 => ⟨Nat.le_refl _, fun j hj => by rw [Nat.le_zero.mp hj]; exact Int.le_refl _⟩
  | n + 1 => by
    obtain ⟨h1, h2⟩ := best_max f n
    unfold argBest
    by_cases h : f (n + 1) > f (argBest (fun i j => decide (f i > f j)) n)
    · rw [if_pos (decide_eq_true h)]
      refine ⟨Nat.le_refl _, fun j hj => ?_⟩
      rcases Nat.lt_or_ge j (n + 1) with k | k
      · have := h2 j (by omega); omega
      · rw [show j = n + 1 by omega]; exact Int.le_refl _
    · rw [if_neg (by rw [decide_eq_true_eq]; exact h)]
      refine ⟨by omega, fun j hj => ?_⟩
      rcases Nat.lt_or_ge j (n + 1) with k | k
      · exact h2 j (by omega)
      · rw [show j = n + 1 by omega]; omega
theorem ints_of : ∀ {ns : List Int} {us : List Value}, Vals (ns.map V.int) us → ∃ l : List (Int × Tok), us = l.map (fun p => Value.int p.1 p.2) ∧ l.map (·.1) = ns
  | [], _, .nil => ⟨[], rfl, rfl⟩
  | x :: r, _, .cons h t => by
    obtain ⟨tk, rfl⟩ := h
    obtain ⟨l, e1, e2⟩ := ints_of (ns := r) t
    exact ⟨(x, tk) :: l, by rw [e1]; rfl, by rw [← e2]; rfl⟩
theorem numAt_of {l : List (Int × Tok)} {ns : List Int} (e : l.map (·.1) = ns) {j : Nat} {n : Int} (h : ns[j]? = some n) : numAt l.toArray j = n := by
  subst e
  rw [List.getElem?_map] at h
  unfold numAt
  rw [List.getElem?_toArray, h]
  rfl
def IsMax (ns : List Int) (m : Int) : Prop := m ∈ ns ∧ ∀ n ∈ ns, n ≤ m
theorem max_is {l : List (Int × Tok)} {ns : List Int} {m : Int} (e : l.map (·.1) = ns) (hm : IsMax ns m) : numAt l.toArray (argBest (fun i j => decide (numAt l.toArray i > numAt l.toArray j)) (l.toArray.size - 1)) = m := by
  obtain ⟨hb, hmax⟩ := best_max (numAt l.toArray) (l.toArray.size - 1)
  have hlen : l.length = ns.length := by rw [← e, List.length_map]
  obtain ⟨j, hj, ej⟩ := List.getElem_of_mem hm.1
  have hs : l.toArray.size = ns.length := by rw [List.size_toArray, hlen]
  generalize argBest (fun i j => decide (numAt l.toArray i > numAt l.toArray j)) (l.toArray.size - 1) = k at *
  have hk : k < ns.length := by omega
  have a1 := numAt_of e (List.getElem?_eq_getElem hk)
  have a2 := numAt_of e (List.getElem?_eq_getElem hj)
  have a3 := hmax j (by omega)
  have a4 := hm.2 _ (List.getElem_mem hk)
  omega
def rMax (K : PySem.W.Frag) : List V → Hp → VK → Prop := fun xs H Q => ∃ (p : Addr) (ns : List Int) (m : Int), xs = [.ref p] ∧ SqL K H p (ns.map V.int) ∧ IsMax ns m ∧ Q (.int m) H
theorem z_max {K : PySem.W.Frag} {H : Hp} {Q : VK} {p : Addr} {ns : List Int} {m : Int} (h : SqL K H p (ns.map V.int)) (hm : IsMax ns m) (q : Q (.int m) H) : rMax K [.ref p] H Q := ⟨p, ns, m, rfl, h, hm, q⟩
/-! max with keywords: the loop carries them along -/
section
variable {prog : Program} {w : World} {A : Around} {R : Result → Shared → Prop} {I : Addr} {fp wr : List Addr} {n : Nat} {P : Nat → Value → Prop} {St : Nat → Heap → Prop} {kw : List (Str × Value)}
theorem maxK_loop (W : Walks prog w A.in1 I fp wr n P St) (bt : Nat → Nat → Bool) (hcmp : CmpOf prog w A.in1 .Gt P bt) (S : Addr) (hSf : S ∉ fp) :
    ∀ (k j : Nat) (s : Shared) (vb : Value) (c : Nat), n - (j + 1) = k → j + 1 ≤ n → St (j + 1) s.heap → P (argBest bt j) vb →
    s.heap.get? S = some { cls := .type "list", dict := none, data := .seq #[vb, vb] c, slots := #[] } →
    (∀ v h' tk, P (argBest bt (n - 1)) v → (∀ b o, b ∉ wr → b ≠ S → s.heap.get? b = some o → h'.get? b = some o) → R (.ok (.ret v)) { s with heap := h', toks := tk }) →
    codeAny (model prog w) A (.builtin "max.loop" ⟨[.ref I, .none, .ref S], kw⟩) R s := by
  have nw : S ∉ wr := fun h => hSf (W.sub _ h)
  have nm : (toString "max" ++ toString ".loop" : String) = "max.loop" := by decide
  intro k
  induction k with
  | zero =>
    intro j s vb c hk hj hst hb hS hR
    have e : j + 1 = n := by omega
    refine codeAny_builtin F.entry_max_loop ?_
    rw [Around.under_plainId F.plain_max_loop _]
    show wpAny _ A.in1 (seqItems? (.ref S) >>= _) _ _ s
    refine wpAny_bind (wpAny_seqItems hS rfl ?_)
    show wpAny _ A.in1 (tryCatch (pyNext (.ref I)) _ >>= _) _ _ s
    refine wpAny_bind (wpAny_tryCatch (W.done s _ _ (e ▸ hst) fun h' tk hk' => ?_))
    have hS' := hk' S _ nw hS
    show wpAny _ A.in1 (updateSeq S (fun _ => #[]) >>= _) _ _ _
    refine wpAny_bind (wpAny_updateSeq hS' rfl (wpAny_bind (wpAny_letGo (wpAny_pure ?_))))
    exact hR vb _ tk (by rw [← e]; exact hb) fun b o h1 h2 e => (Heap.get?_update_other _ _ (Ne.symm h2)).trans (hk' b o h1 e)
  | succ k ih =>
    intro j s vb c hk hj hst hb hS hR
    have lt : j + 1 < n := by omega
    refine codeAny_builtin F.entry_max_loop ?_
    rw [Around.under_plainId F.plain_max_loop _]
    show wpAny _ A.in1 (seqItems? (.ref S) >>= _) _ _ s
    refine wpAny_bind (wpAny_seqItems hS rfl ?_)
    show wpAny _ A.in1 (tryCatch (pyNext (.ref I)) _ >>= _) _ _ s
    refine wpAny_bind (wpAny_tryCatch (W.item (j + 1) s _ _ lt hst fun v h' tk hP hst' hk' => ?_))
    have hS' := hk' S _ nw hS
    show wpAny _ A.in1 (tryCatch (holding [v, v] (richCompare .Gt v vb >>= _)) _ >>= _) _ _ _
    refine wpAny_bind (wpAny_tryCatch (wpAny_holding (wpAny_bind (hcmp (j + 1) (argBest bt j) v vb _ _ _ hP hb ?_))))
    refine wpAny_bind (wpAny_holding (wpAny_truthy_bool ?_))
    refine wpAny_bind (wpAny_letGo (wpAny_pure ?_))
    cases hbt : bt (j + 1) (argBest bt j) with
    | true =>
      simp only [if_true]
      refine wpAny_bind (wpAny_updateSeq hS' rfl (wpAny_bind (wpAny_letGo ?_)))
      rw [nm]
      refine wpAny_pure ⟨plainId_quiet F.plain_max_loop _, ih (j + 1) _ v _ (by omega) lt (W.frame _ _ _ hst' fun b hbf o e => ?_) (by simp only [argBest, hbt, if_true]; exact hP) (Heap.get?_update_self _ hS' rfl) fun v' h2 tk2 hP' hk2 => ?_⟩
      · exact (Heap.get?_update_other _ _ (fun h : S = b => hSf (by rw [h]; exact hbf))).trans e
      · exact hR v' h2 tk2 hP' fun b o h1 h3 e => hk2 b o h1 h3 ((Heap.get?_update_other _ _ (Ne.symm h3)).trans (hk' b o h1 e))
    | false =>
      simp only [Bool.false_eq_true, if_false]
      refine wpAny_bind (wpAny_letGo ?_)
      rw [nm]
      refine wpAny_pure ⟨plainId_quiet F.plain_max_loop _, ih (j + 1) _ vb c (by omega) lt hst' (by simp only [argBest, hbt, Bool.false_eq_true, if_false]; exact hb) hS' fun v' h2 tk2 hP' hk2 => ?_⟩
      exact hR v' h2 tk2 hP' fun b o h1 h3 e => hk2 b o h1 h3 (hk' b o h1 e)
/-- the first turn, with a default -/
theorem maxK_first {d : Value} (W : Walks prog w A.in1 I fp wr n P St) (bt : Nat → Nat → Bool) (hcmp : CmpOf prog w A.in1 .Gt P bt) (S : Addr) (hSf : S ∉ fp) {s : Shared} {c : Nat} (hst : St 0 s.heap)
    (hS : s.heap.get? S = some { cls := .type "list", dict := none, data := .seq #[] c, slots := #[] })
    (hR : ∀ v h' tk, (0 < n ∧ P (argBest bt (n - 1)) v) ∨ (n = 0 ∧ v = d) → (∀ b o, b ∉ wr → b ≠ S → s.heap.get? b = some o → h'.get? b = some o) → R (.ok (.ret v)) { s with heap := h', toks := tk }) :
    codeAny (model prog w) A (.builtin "max.loop" ⟨[.ref I, .none, .ref S], [("default", d)]⟩) R s := by
  have nw : S ∉ wr := fun h => hSf (W.sub _ h)
  have nm : (toString "max" ++ toString ".loop" : String) = "max.loop" := by decide
  refine codeAny_builtin F.entry_max_loop ?_
  rw [Around.under_plainId F.plain_max_loop _]
  show wpAny _ A.in1 (seqItems? (.ref S) >>= _) _ _ s
  refine wpAny_bind (wpAny_seqItems hS rfl ?_)
  show wpAny _ A.in1 (tryCatch (pyNext (.ref I)) _ >>= _) _ _ s
  rcases Nat.eq_zero_or_pos n with e | hn
  · refine wpAny_bind (wpAny_tryCatch (W.done s _ _ (e.symm ▸ hst) fun h' tk hk' => ?_))
    refine wpAny_bind (wpAny_rule (wpAny_pure ?_))
    exact hR d _ tk (.inr ⟨e, rfl⟩) fun b o h1 h2 e => hk' b o h1 e
  · refine wpAny_bind (wpAny_tryCatch (W.item 0 s _ _ hn hst fun v h' tk hP hst' hk' => ?_))
    have hS' := hk' S _ nw hS
    show wpAny _ A.in1 (updateSeq S (fun _ => #[v, v]) >>= _) _ _ _
    refine wpAny_bind (wpAny_updateSeq hS' rfl ?_)
    rw [nm]
    refine wpAny_pure ⟨plainId_quiet F.plain_max_loop _, maxK_loop W bt hcmp S hSf _ 0 _ v _ rfl hn (W.frame _ _ _ hst' fun b hbf o e => ?_) hP (Heap.get?_update_self _ hS' rfl) fun v' h2 tk2 hP' hk2 => ?_⟩
    · exact (Heap.get?_update_other _ _ (fun h : S = b => hSf (by rw [h]; exact hbf))).trans e
    · exact hR v' h2 tk2 (.inl ⟨hn, hP'⟩) fun b o h1 h3 e => hk2 b o h1 h3 ((Heap.get?_update_other _ _ (Ne.symm h3)).trans (hk' b o h1 e))
end
section
variable {X : Cx}
theorem call_maxL (hc : X.calm = true) : CallR X (.builtin "max") (rMax X.K) := by
  intro pins s σ H xs us Q I r h
  obtain ⟨p, ns, m, rfl, hq, hm, q⟩ := h
  obtain ⟨u, rfl, ru⟩ := r.one
  cases ru
  obtain ⟨its, v, pl, _⟩ := I.list hq
  obtain ⟨l, e1, e2⟩ := ints_of v
  have hl : s.heap.IsList p (intItems l.toArray) := by
    have := pl.isList
    rw [e1] at this
    unfold intItems
    rw [List.map_toArray]
    exact this
  have hs : l.toArray.size = ns.length := by rw [List.size_toArray, ← e2, List.length_map]
  refine max_intList (I.ok.hd hc) hl (by rw [hs]; exact List.length_pos_of_mem hm.1) fun v h' tk hv k => ?_
  obtain ⟨t, rfl⟩ := intItems_at hv
  rw [max_is e2 hm]
  exact ⟨.int m, H, I.kept k, ⟨_, rfl⟩, q⟩
/-- max(list, default=d) -/
theorem call_maxD {prog : Program} {w : World} {A : Around} {E : Value → Shared → Prop} {s : Shared} {l : Addr} {xs : Array (Int × Tok)} {d : Value} {Q : Value → Shared → Prop} (hh : A.handled = none) (hl : s.heap.IsList l (intItems xs))
    (h : ∀ v h' tk, (0 < xs.size ∧ (intItems xs)[argBest (fun i j => decide (numAt xs i > numAt xs j)) (xs.size - 1)]? = some v) ∨ (xs.size = 0 ∧ v = d) → (∀ b o, s.heap.get? b = some o → h'.get? b = some o) → Q v { s with heap := h', toks := tk }) :
    wpAny (model prog w) A (call (.builtin "max") [.ref l] [("default", d)]) Q E s := by
  have nm : (toString "max" ++ toString ".loop" : String) = "max.loop" := by decide
  have ha : argsOk "max" ⟨[.ref l], [("default", d)]⟩ := by unfold argsOk; kernel_rfl
  refine wpAny_call (codeAny_call_builtin F.plain_max F.entry_max ?_)
  have hc : wpAny (model prog w) A.in1 (Builtin.«max» ⟨[.ref l], [("default", d)]⟩) (fun fin s' => match fin with
      | .done f => (match (Except.ok f : Result) with | .ok (.ret v) => Q v s' | .ok _ => False | .error e => E e s')
      | .again c' => c'.quiet = true ∧ codeAny (model prog w) A c' (fun r s' => match r with | .ok (.ret v) => Q v s' | .ok _ => False | .error e => E e s') s') E s := by
    show wpAny _ A.in1 (Builtin.Builtins.bindParams "max" ["key", "default"] 0 ⟨[], [("default", d)]⟩ >>= _) _ _ s
    refine wpAny_bind (wpAny_of_eq (show Builtin.Builtins.bindParams "max" ["key", "default"] 0 ⟨[], [("default", d)]⟩ = pure [none, some d] from rfl) ?_)
    refine wpAny_bind (wpAny_pure ?_)
    refine wpAny_bind (iter_intList hl fun s2 e st hfp hlI => ?_)
    subst e
    refine wpAny_bind (wpAny_newObj_type ?_)
    rw [nm]
    have W := Walks.list (prog := prog) (w := w) (A := A.in1) hh s.heap.objs.size l hlI (intItems xs)
    refine wpAny_pure ⟨plainId_quiet F.plain_max_loop _, maxK_first (d := d) W _ (CmpOf.ints_gt (numAt xs) (fun _ _ => intItems_at)) _ (fun hmm => Nat.lt_irrefl _ (hfp _ hmm)) (W.frame _ _ _ st fun b _ o e => Heap.get?_push_of_some _ e) (Heap.get?_push_size _ rfl) fun v h' tk hP hk => ?_⟩
    refine h v h' tk (by simpa [intItems] using hP) ?_
    exact old_kept fun b o h1 e => hk b o h1 (Nat.ne_of_lt (Heap.lt_size e)) (Heap.get?_push_of_some _ e)
  simp only [checkBuiltinCall, F.kind_max]
  cases hsig : Manifest.signature? "max" with
  | none => exact wpAny_pure hc
  | some sig =>
    have ha' : Bind.checkArgs "max" sig ⟨[.ref l], [("default", d)]⟩ = pure () := by simpa only [argsOk, hsig] using ha
    simp only [ha']
    exact wpAny_pure hc
def tMaxD (K : PySem.W.Frag) (t td : TA) : TE := fun σ H Q => t σ H fun vs H1 => td σ H1 fun ds H2 => ∃ (p : Addr) (ns : List Int) (d : V), vs = [.ref p] ∧ ds = [d] ∧ SqL K H2 p (ns.map V.int) ∧ ((ns = [] ∧ Q d H2) ∨ ∃ m, IsMax ns m ∧ Q (.int m) H2)
theorem z_maxD {K : PySem.W.Frag} {σ : St} {H : Hp} {Q : VK} {t td : TA} (h : t σ H fun vs H1 => td σ H1 fun ds H2 => ∃ (p : Addr) (ns : List Int) (d : V), vs = [.ref p] ∧ ds = [d] ∧ SqL K H2 p (ns.map V.int) ∧ ((ns = [] ∧ Q d H2) ∨ ∃ m, IsMax ns m ∧ Q (.int m) H2)) : tMaxD K t td σ H Q := h
theorem pe_maxD {e de : Expr} {p pos kp : Pos} {t td : TA} (hc : X.calm = true) (hg : Gl X "max") (hm : X.mg "max" = none) (ha : PA X [e] t) (hk : PK X [⟨some "default", de, kp⟩] td)
    (he : backTo pos (starEach [e] X.env) = (false, eval e X.env) :: backTo pos (starEach [] X.env) := by rfl) (hpl : (backTo pos (starEach [e] X.env)).any (·.1) = false := by rfl) : PE X (.Call (.Name "max" p) [e] [⟨some "default", de, kp⟩] pos) (tMaxD X.K t td) := by
  intro pins s σ H Q I h
  refine wpAny_Call_Name_kw (ld_blt I hg hm bt_max ?_ (by decide) (by decide))
  refine callWith_kw (thn (ha pos pins s σ H _ I h) fun us s1 ⟨vs, H1, I1, r1, q1⟩ => thn (hk pos pins s1 σ H1 _ I1 q1) fun ws s2 ⟨zs, H2, I2, rz, q2⟩ => ?_) he hpl
  obtain ⟨p, ns, d, rfl, rfl, hq, q⟩ := q2
  obtain ⟨u, rfl, ru⟩ := r1.one
  cases ru
  obtain ⟨dv, rfl, rd⟩ := rz.one
  obtain ⟨its, v, pl, _⟩ := I2.list hq
  obtain ⟨l, e1, e2⟩ := ints_of v
  have hl : s2.heap.IsList p (intItems l.toArray) := by
    have := pl.isList
    rw [e1] at this
    unfold intItems
    rw [List.map_toArray]
    exact this
  have hs : l.toArray.size = ns.length := by rw [List.size_toArray, ← e2, List.length_map]
  refine call_maxD (I2.ok.hd hc) hl fun v h' tk hv k => ?_
  rcases q with ⟨en, q⟩ | ⟨m, hmx, q⟩
  · rcases hv with ⟨z, _⟩ | ⟨_, rfl⟩
    · rw [hs, en] at z; exact absurd z (by decide)
    · exact ⟨d, H2, I2.kept k, rd, q⟩
  · rcases hv with ⟨_, hv⟩ | ⟨z, _⟩
    · obtain ⟨t, rfl⟩ := intItems_at hv
      rw [max_is e2 hmx]
      exact ⟨.int m, H2, I2.kept k, ⟨_, rfl⟩, q⟩
    · rw [hs] at z
      have := List.length_pos_of_mem hmx.1
      omega
end
end L2

/-! `is True`, o[i] = v, comprehensions whose element changes the heap -/
namespace L2
open PySem PySem.Spec PyProof.Rows
def rIsB : R2 := fun x y H Q => ∃ a b : Bool, x = .bl a ∧ y = .bl b ∧ Q (.bl (a == b)) H
theorem op_isB {X : Cx} : OpR X (compareOp .Is) rIsB := by
  intro pins s σ H x y v u Q I rx ry h
  obtain ⟨a, b, rfl, rfl, q⟩ := h
  cases rx
  cases ry
  exact is_bool (fin_bl I q rfl)
section
variable {σ : St} {H : Hp} {Q : VK}
theorem z_isB {a b : Bool} (q : Q (.bl (a == b)) H) : rIsB (.bl a) (.bl b) H Q := ⟨a, b, rfl, rfl, q⟩
theorem z_gsub {to ti : TE} {t : TSet} {v : V} {S : St → Hp → Prop} (h : to σ H fun o H1 => ti σ H1 fun i H2 => t o i v H2 fun H3 => S σ H3) : gSub to ti t v σ H S := h
theorem z_setL {p : Addr} {xs : List V} {k : Int} {j : Nat} {v : V} {S : Hp → Prop} (h : H p = some (.lst xs)) (hj : ixN xs.length k = some j) (q : ∀ H', But p H H' → H' p = some (.lst (xs.set j v)) → S H') : rSetL (.ref p) (.int k) v H S := ⟨p, xs, k, j, rfl, rfl, h, hj, q _ But.upd upd_same⟩
end
/-- the loop of a comprehension without a test -/
def LCN (st : St) (J : It) (te : TE) (H1 : Hp) (Q : VK) : Prop := ∀ acc, H1 acc = none → ∃ W : Nat → Nat → Hp → Prop, (∃ m, W 0 m (upd H1 acc (.lst []))) ∧ ∀ i m H2, W i m H2 →
  (J.stop i H2 ∧ Q (.ref acc) H2) ∨ (J.go i H2 ∧ ∀ x H3, J.yld i H2 x H3 → te (some x :: st) H3 fun v H4 => ∃ xs m', H4 acc = some (.lst xs) ∧ xs.length < sizeLine ∧ m' < m ∧ W (i + 1) m' (upd H4 acc (.lst (xs ++ [v]))))
theorem z_lcn {fr : List (Str × Nat)} {wi : TI} {te : TE} {σ : St} {H : Hp} {Q : VK} (h : wi σ H fun J H1 => LCN (inSt σ fr) J te H1 Q) : tLC fr wi te σ H Q := h
theorem z_r1N {J : It} {j : Int} {st : St} {te : TE} {H : Hp} {Q : VK} (h1 : -(2 ^ 62) ≤ j) (h2 : j < 2 ^ 62) (q : LCN st J te H Q) : -(2 ^ 62) ≤ j ∧ j < 2 ^ 62 ∧ LCN st J te H Q := ⟨h1, h2, q⟩
/-- Pv by the turn, the list so far, and the heap; it may not speak of the new list itself -/
theorem lcn_range {lo : Int} {n : Nat} {st : St} {te : TE} {H1 : Hp} {Q : VK} (Pv : Nat → List V → Hp → Prop) (hn : n ≤ sizeLine) (h0 : Pv 0 [] H1)
    (hup : ∀ i xs H2 acc o, H1 acc = none → Pv i xs H2 → Pv i xs (upd H2 acc o))
    (step : ∀ i xs acc H2 (S : V → Hp → Prop), i < n → H1 acc = none → Pv i xs H2 → H2 acc = some (.lst xs) → (∀ v H3, Pv (i + 1) (xs ++ [v]) H3 → H3 acc = some (.lst xs) → S v H3) → te (some (.int (lo + (i : Nat))) :: st) H2 S)
    (fin : ∀ acc xs H2, H1 acc = none → xs.length = n → Pv n xs H2 → H2 acc = some (.lst xs) → Q (.ref acc) H2) : LCN st (Itr lo n) te H1 Q := by
  intro acc hacc
  refine ⟨fun i m H2 => ∃ xs, m = n - i ∧ i ≤ n ∧ xs.length = i ∧ Pv i xs H2 ∧ H2 acc = some (.lst xs), ⟨n, [], by simp, Nat.zero_le _, rfl, hup _ _ _ _ _ hacc h0, upd_same⟩, ?_⟩
  rintro i m H2 ⟨xs, rfl, hi, hx, pv, ha⟩
  by_cases hlt : i < n
  · refine .inr ⟨hlt, fun x H3 y => ?_⟩
    obtain ⟨e, y⟩ := y
    subst e y
    refine step i xs acc _ _ hlt hacc pv ha fun v H4 pv4 e4 => ⟨xs, n - (i + 1), e4, by omega, by omega, xs ++ [v], rfl, hlt, by rw [List.length_append, hx]; rfl, hup _ _ _ _ _ hacc pv4, upd_same⟩
  · have e : i = n := by omega
    subst e
    exact .inl ⟨Nat.le_refl _, fin acc xs H2 hacc hx pv ha⟩
/-- a comprehension over a list, each item by itself -/
theorem lcn_list {K : PySem.W.Frag} {a : Addr} {xs : List V} {st : St} {te : TE} {H1 : Hp} {Q : VK} (g : V → V) (hs : SqL K H1 a xs) (hn : xs.length ≤ sizeLine)
    (step : ∀ x H2 (S : V → Hp → Prop), x ∈ xs → Same H1 H2 → (∀ H3, Same H2 H3 → S (g x) H3) → te (some x :: st) H2 S)
    (fin : ∀ acc H2, H1 acc = none → Same H1 H2 → H2 acc = some (.lst (xs.map g)) → Q (.ref acc) H2) : LCN st (Itl K a) te H1 Q := by
  intro acc hacc
  refine ⟨fun i m H2 => m = xs.length - i ∧ i ≤ xs.length ∧ Same H1 H2 ∧ H2 acc = some (.lst ((xs.take i).map g)), ⟨xs.length, by simp, Nat.zero_le _, Same.new hacc _, by rw [upd_same]; rfl⟩, ?_⟩
  rintro i m H2 ⟨rfl, hi, sH, ha⟩
  by_cases hlt : i < xs.length
  · have hx : xs[i]? = some xs[i] := List.getElem?_eq_getElem hlt
    refine .inr ⟨⟨xs, _, sH.seq hs, hx⟩, fun x H3 y => ?_⟩
    have e := y.2 xs (sH.seq hs)
    rw [hx] at e
    cases e
    rw [y.1]
    refine step _ _ _ (List.getElem_mem hlt) sH fun H4 s4 => ⟨_, xs.length - (i + 1), s4 _ _ ha, ?_, by omega, rfl, hlt, fun b o e => ?_, ?_⟩
    · rw [List.length_map, List.length_take]; omega
    · rw [upd_ne (fun z => by rw [z, hacc] at e; cases e)]
      exact s4 _ _ (sH _ _ e)
    · rw [upd_same, List.take_succ, hx, List.map_append]; rfl
  · have e : i = xs.length := by omega
    subst e
    refine .inl ⟨⟨xs, sH.seq hs, Nat.le_refl _⟩, fin acc H2 hacc sH ?_⟩
    rw [ha, List.take_length]
theorem z_iLN {K : PySem.W.Frag} {H : Hp} {a : Addr} {xs : List V} {S : Addr → Prop} (hs : SqL K H a xs) (q : S a) : ∃ a', V.ref a = .ref a' ∧ (∃ xs, SqL K H a' xs) ∧ S a' := ⟨a, rfl, ⟨xs, hs⟩, q⟩
theorem z_EqB {H : Hp} {Q : VK} {a b : Bool} (q : Q (.bl (decide (a = b))) H) : rEq (.bl a) (.bl b) H Q := by
  refine ⟨rfl, ?_⟩
  have e : decide (V.bl a = V.bl b) = decide (a = b) := by
    by_cases h : a = b
    · subst h; simp
    · rw [decide_eq_false h, decide_eq_false (fun z => h (V.bl.inj z))]
  rw [e]; exact q
end L2

/-! texts: split, partition, startswith, all, int of a text, f-strings of ints, a text's signs one by one -/
namespace L2
open PySem PySem.Spec PyProof.Rows PySem.Builtin PySem.Builtin.Str
section
variable {X : Cx}
theorem strs_vals : ∀ (l : List (Str × Tok)), Vals ((l.map (·.1)).map V.str) (strValues l)
  | [] => .nil
  | p :: r => .cons ⟨_, rfl⟩ (strs_vals r)
theorem fin_strs {pins : List (Addr × Obj)} {s : Shared} {σ : St} {H : Hp} {Q : VK} (I : Inv X pins σ H s) {ts : List Str} {l : List (Str × Tok)} (hl : l.map (·.1) = ts) (hz : ts.length ≤ sizeLine)
    (q : ∀ p, H p = none → Q (.ref p) (upd H p (.lst (ts.map V.str)))) (tk : Nat) : EP X pins σ Q (.ref s.heap.objs.size) { s with toks := tk, heap := s.heap.push { cls := .type "list", data := .seq (strValues l).toArray } } := by
  subst hl
  refine ⟨.ref s.heap.objs.size, _, I.laid (t' := tk) (fun b o e => Heap.get?_push_of_some _ e) (Nat.le_refl _) (show ObjOk X.prog X.w _ _ _ (.lst _) from ⟨?_, strValues l, _, strs_vals l, Heap.get?_push_size s.heap rfl⟩), rfl, q _ (I.hok.fresh (Nat.le_refl _))⟩
  rw [List.length_map]; exact hz
def rSplit : V → List V → Hp → VK → Prop := fun x vs H Q => ∃ z y : Str, x = .str z ∧ vs = [.str y] ∧ (y.length == 0) = false ∧ z.length + 2 ≤ sizeLine ∧ ∀ p, H p = none → Q (.ref p) (upd H p (.lst ((Txt.split z y).map V.str)))
theorem mt_split : MtM X "str.split" rSplit := by
  intro pins s σ H x vs v us Q I rx rv h
  obtain ⟨z, y, rfl, rfl, hy, hz, q⟩ := h
  obtain ⟨t, rfl⟩ := rx
  obtain ⟨u', rfl, ru⟩ := rv.one
  obtain ⟨u, rfl⟩ := ru
  have hsz : z.length ≤ sizeLine := by omega
  have hle := split_le z y
  have hlen : (Txt.split z y).length ≤ sizeLine := by omega
  cases h1 : (decide (z.length < y.length) || decide (strKind z < strKind y))
  · cases hf : (occurrences z y 0 z.length (z.length + 1)).isEmpty
    · have e : Txt.split z y = partsBetween z (occurrences z y 0 z.length (z.length + 1)) y.length := (if_neg (ne_true_of_eq_false h1)).trans (if_neg (ne_true_of_eq_false hf))
      refine call_meets F.slot_str_split (typeIs_str _ _ _) F.entry_str_split (F.args_str_split_2 _ _) (meets_str_split_sep z y t u h1 hy hf hsz (by rw [← e]; exact hlen)) ?_
      show wants _ _ _ { s with toks := _, heap := s.heap.push { cls := .type "list", data := .seq (strsFrom s.toks (partsBetween z (occurrences z y 0 z.length (z.length + 1)) y.length)).toArray } }
      rw [strsFrom_eq]
      exact fin_strs I ((numbered_texts _ _).trans e.symm) hlen q _
    · exact call_meets F.slot_str_split (typeIs_str _ _ _) F.entry_str_split (F.args_str_split_2 _ _) (meets_str_split_not_found z y t u h1 hy hf)
        (fin_strs (l := [(z, t)]) I ((if_neg (ne_true_of_eq_false h1)).trans (if_pos hf)).symm hlen q _)
  · exact call_meets F.slot_str_split (typeIs_str _ _ _) F.entry_str_split (F.args_str_split_2 _ _) (meets_str_split_cannot_occur z y t u h1)
      (fin_strs (l := [(z, t)]) I (if_pos h1).symm hlen q _)
def rPart : V → List V → Hp → VK → Prop := fun x vs H Q => ∃ z y : Str, x = .str z ∧ vs = [.str y] ∧ (y.length == 0) = false ∧ z.length ≤ sizeLine ∧ ∀ p, H p = none → Q (.ref p) (upd H p (.tup [.str (Txt.partition z y).1, .str (Txt.partition z y).2.1, .str (Txt.partition z y).2.2]))
theorem mt_partition : MtM X "str.partition" rPart := by
  intro pins s σ H x vs v us Q I rx rv h
  obtain ⟨z, y, rfl, rfl, hy, hz, q⟩ := h
  obtain ⟨t, rfl⟩ := rx
  obtain ⟨u', rfl, ru⟩ := rv.one
  obtain ⟨u, rfl⟩ := ru
  refine call_meets F.slot_str_partition (typeIs_str _ _ _) F.entry_str_partition (F.args_str_partition_2 _ _) (meets_str_partition z y t u hy hz) ?_
  have q' := q _ (I.hok.fresh (Nat.le_refl _))
  unfold Txt.partition at q'
  revert q'
  have fin : ∀ (a b c : Str) (ta tb tc : Tok) (tk : Nat), Q (.ref s.heap.objs.size) (upd H s.heap.objs.size (.tup [.str a, .str b, .str c])) →
      EP X pins σ Q (.ref s.heap.objs.size) { s with toks := tk, heap := s.heap.push { cls := .type "tuple", data := .seq [.str a ta, .str b tb, .str c tc].toArray } } := fun a b c ta tb tc tk q' =>
    ⟨.ref s.heap.objs.size, _, I.laid (t' := tk) (fun b o e => Heap.get?_push_of_some _ e) (Nat.le_refl _) (show ObjOk X.prog X.w _ _ _ (.tup [.str a, .str b, .str c]) from ⟨by simp only [List.length_cons, List.length_nil]; rw [sizeLine_eq]; decide, [.str a ta, .str b tb, .str c tc], .cons ⟨_, rfl⟩ (.cons ⟨_, rfl⟩ (.cons ⟨_, rfl⟩ .nil)), ⟨_, Heap.get?_push_size s.heap rfl, rfl, 0, rfl⟩⟩), rfl, q'⟩
  cases occurrences z y 0 z.length 1 with
  | nil => intro q'; exact fin _ _ _ _ _ _ _ q'
  | cons i r => intro q'; exact fin _ _ _ _ _ _ _ q'
def rStarts : V → List V → Hp → VK → Prop := fun x vs H Q => ∃ z y : Str, x = .str z ∧ vs = [.str y] ∧ Q (.bl (Txt.startswith z y)) H
theorem mt_startswith : MtM X "str.startswith" rStarts := by
  intro pins s σ H x vs v us Q I rx rv h
  obtain ⟨z, y, rfl, rfl, q⟩ := h
  obtain ⟨t, rfl⟩ := rx
  obtain ⟨u', rfl, ru⟩ := rv.one
  obtain ⟨u, rfl⟩ := ru
  exact SC.startswith ⟨.bl _, H, I, rfl, q⟩
def rAll (K : PySem.W.Frag) : List V → Hp → VK → Prop := fun xs H Q => ∃ (p : Addr) (bs : List Bool), xs = [.ref p] ∧ SqL K H p (bs.map V.bl) ∧ Q (.bl (bs.all fun b => b)) H
theorem bools_at : ∀ {bs : List Bool} {us : List Value}, Vals (bs.map V.bl) us → us = bs.map Value.bool
  | [], _, .nil => rfl
  | b :: r, _, .cons h t => by
    cases h
    rw [bools_at (bs := r) t]; rfl
theorem range_all (bs : List Bool) : (List.range bs.length).all (fun i => bs.getD i true) = bs.all fun b => b := by
  rw [Bool.eq_iff_iff, List.all_eq_true, List.all_eq_true]
  constructor
  · intro h x hx
    obtain ⟨i, hi, e⟩ := List.getElem_of_mem hx
    have := h i (List.mem_range.mpr hi)
    rw [List.getD_eq_getElem?_getD, List.getElem?_eq_getElem hi] at this
    rw [← e]; exact this
  · intro h i hi
    have hi := List.mem_range.mp hi
    rw [List.getD_eq_getElem?_getD, List.getElem?_eq_getElem hi]
    exact h _ (List.getElem_mem hi)
theorem call_all (hc : X.calm = true) : CallR X (.builtin "all") (rAll X.K) := by
  intro pins s σ H xs us Q I r h
  obtain ⟨p, bs, rfl, hq, q⟩ := h
  obtain ⟨u, rfl, ru⟩ := r.one
  cases ru
  obtain ⟨its, v, pl, _⟩ := I.list hq
  have ev := bools_at v
  have hl : s.heap.IsList p its.toArray := pl.isList
  have hlt : p < s.heap.objs.size := by
    obtain ⟨o, ho, _⟩ := hl
    exact Heap.lt_size ho
  refine call_all_walk (wpAny_pyIter_list hl ⟨s.heap.objs.size, [s.heap.objs.size, p], [s.heap.objs.size], its.toArray.size, (fun i v => its.toArray[i]? = some v), _, (fun i => bs.getD i true), rfl, Walks.list (prog := X.prog) (w := X.w) (A := X.A.in1) (I.ok.hd hc) _ p (Nat.ne_of_lt hlt) its.toArray, ⟨⟨_, Heap.get?_push_size _ rfl, rfl, rfl⟩, hl.at fun o e => Heap.get?_push_of_some _ e⟩, ?_, ?_⟩)
  · intro i v s' Q' E' hv hQ
    rw [ev] at hv
    have hv' : (bs.map Value.bool)[i]? = some v := by simpa using hv
    rw [List.getElem?_map] at hv'
    cases hb : bs[i]? with
    | none => rw [hb] at hv'; cases hv'
    | some b =>
      rw [hb] at hv'
      cases hv'
      have : bs.getD i true = b := by rw [List.getD_eq_getElem?_getD, hb]; rfl
      refine wpAny_truthy_bool ?_
      rw [← this]; exact hQ
  · intro h' tk hk
    have e : (List.range its.toArray.size).all (fun i => bs.getD i true) = bs.all fun b => b := by
      rw [← range_all]
      have : its.toArray.size = bs.length := by rw [ev]; simp
      rw [this]
    rw [e]
    exact ⟨.bl _, H, I.kept (t' := tk) (fun b o ho => hk b o (by simp only [List.mem_singleton]; exact Nat.ne_of_lt (Heap.lt_size ho)) (Heap.get?_push_of_some _ ho)), rfl, q⟩
def rIntT : List V → Hp → VK → Prop := fun xs H Q => ∃ (z : Str) (n : Int), xs = [.str z] ∧ PySem.intText? z = some n ∧ z.length ≤ 640 ∧ Q (.int n) H
theorem call_intT : CallR X (.type "int") rIntT := by
  intro pins s σ H xs us Q I r h
  obtain ⟨z, n, rfl, hn, hl, q⟩ := h
  obtain ⟨u, rfl, t, rfl⟩ := vals1 r
  exact PySem.W.KIN.call_text hn hl ⟨.int n, H, I.tok _, ⟨_, rfl⟩, q⟩
theorem bt_all : bootBuiltins "all" = some (.builtin "all") := by decide +kernel
/-! f-strings -/
def tFv (te : TE) : TE := fun σ H Q => te σ H fun x H1 => ∃ i : Int, x = .int i ∧ i.natAbs.log2 < 1920 ∧ Q (.str (Str.ofString (toString i))) H1
theorem pe_fv {e : Expr} {te : TE} {pos : Pos} (he : PE X e te) : PE X (.FormattedValue e (-1) none pos) (tFv te) := by
  intro pins s σ H Q I h
  refine wpAny_FormattedValue_plain (thn (he pins s σ H _ I h) fun v s1 ⟨x, H1, I1, r1, q1⟩ => ?_)
  obtain ⟨i, rfl, hz, q⟩ := q1
  obtain ⟨t, rfl⟩ := r1
  exact wpAny_formatField_int hz ⟨.str _, H1, I1.tok _, ⟨_, rfl⟩, q⟩
theorem pe_fs1 {e : Expr} {te : TE} {pos : Pos} (he : PE X e te) : PE X (.JoinedStr [e] pos) te := fun pins s σ H Q I h => wpAny_JoinedStr_one (he pins s σ H Q I h)
def tFs : List TE → Str → TE
  | [], acc => fun _ H Q => Q (.str acc) H
  | t :: r, acc => fun σ H Q => t σ H fun x H1 => ∃ a : Str, x = .str a ∧ (acc ++ a).length ≤ sizeLine ∧ tFs r (acc ++ a) σ H1 Q
inductive PFs (X : Cx) : List Expr → List TE → Prop
  | nil : PFs X [] []
  | cons {e : Expr} {t : TE} {es : List Expr} {ts : List TE} : PE X e t → PFs X es ts → PFs X (e :: es) (t :: ts)
theorem joins_of {es : List Expr} {ts : List TE} (h : PFs X es ts) : ∀ (acc : Str) (pins : List (Addr × Obj)) (s : Shared) (σ : St) (H : Hp) (Q : VK), acc.length ≤ sizeLine → Inv X pins σ H s → tFs ts acc σ H Q →
    Joins (model X.prog X.w) X.A X.xe (evalEach es X.env) acc (fun out s1 => out.length ≤ sizeLine ∧ EP X pins σ Q (.str out s1.toks) { s1 with toks := s1.toks + 1 }) s := by
  induction h with
  | nil => intro acc pins s σ H Q hl I q; exact ⟨hl, .str _, H, I.tok _, ⟨_, rfl⟩, q⟩
  | cons he _ ih =>
    intro acc pins s σ H Q hl I q
    show wpAny _ _ (eval _ X.env) _ _ s
    refine thn (he pins s σ H _ I q) fun v s1 ⟨x, H1, I1, r1, q1⟩ => ?_
    obtain ⟨a, rfl, hz, q⟩ := q1
    obtain ⟨t, rfl⟩ := r1
    exact ⟨a, t, rfl, hz, ih _ pins s1 σ H1 Q hz I1 q⟩
theorem pe_fs {a b : Expr} {es : List Expr} {ts : List TE} {pos : Pos} (h : PFs X (a :: b :: es) ts) : PE X (.JoinedStr (a :: b :: es) pos) (tFs ts Str.empty) :=
  fun pins s σ H Q I q => wpAny_JoinedStr (joins_of h Str.empty pins s σ H Q (by decide) I q)
/-! a text's signs -/
def Its (z : Str) : It := ⟨fun i _ => i < z.cps.size, fun i H x H' => H' = H ∧ ∃ c, z.cps.toList[i]? = some c ∧ x = .str ⟨#[c]⟩, fun i _ => z.cps.size ≤ i⟩
theorem turn_str {P : Program} {w : World} {K : PySem.W.Frag} {tg : Expr} (ty : String) (hn : ["enumerate", "zip", "dict_itemiterator", "dict_reverseitemiterator", "odict_iterator", "itertools.zip_longest", "itertools.pairwise"].contains ty = false) (z : Str) (t : Tok) (it : Addr)
    (W : ∀ A : Around, A.handled = none → Walks P w A it [it] [it] z.cps.size (SignAt z) (fun i h => h.IsStrIter it ty z t i))
    (slf : ∀ (A : Around) (i : Nat) (s : Shared) (Q : Value → Shared → Prop) (E : Value → Shared → Prop), s.heap.IsStrIter it ty z t i → Q (.ref it) s → wpAny (model P w) A (pyIter (.ref it)) Q E s) :
    Turn P w K tg (Its z) [it] it (fun i h => h.IsStrIter it ty z t i ∧ i ≤ z.cps.size) where
  mem := by simp
  obj := fun i h st b hb => by
    have e : b = it := by simpa using hb
    subst e
    obtain ⟨o, e, c, d⟩ := st.1
    exact ⟨o, e, fun v z => by rw [d] at z; cases z⟩
  keep := fun i h h' st k => ⟨let ⟨o, ho, r⟩ := st.1; ⟨o, k it (by simp) o ho, r⟩, st.2⟩
  item := by
    intro X hP hw hK hc i pins s σ H E I hf st hg
    subst hP hw hK
    obtain ⟨f0, f1, f2, f3, f4, f5⟩ := hf it (by simp)
    refine (W X.A (I.ok.hd hc)).item i s _ _ hg st.1 fun v h' tk hv st' kk => ?_
    obtain ⟨c, u, hc', rfl⟩ := hv
    have I1 : Inv X pins σ H { s with heap := h', toks := tk } := I.turned (fun b o hb e => kk b o (by simpa using hb) e) f0 f1 f3 f4 f5
    obtain ⟨o, e, c1, d⟩ := id st'
    refine ⟨_, rfl, go_of (s := { s with heap := h', toks := tk }) e c1 d hn ⟨.str ⟨#[c]⟩, H, I1, ⟨_, rfl⟩, ⟨rfl, c, by rw [Array.getElem?_toList]; exact hc', rfl⟩, ⟨st', hg⟩, fun b hb => (hf b hb).1⟩⟩
  done := by
    intro X hP hw hK hc i pins s σ H E I hf st hg
    subst hP hw hK
    obtain ⟨f0, f1, f2, f3, f4, f5⟩ := hf it (by simp)
    have e : i = z.cps.size := Nat.le_antisymm st.2 hg
    have st1 := st.1
    rw [e] at st1
    exact (W X.A (I.ok.hd hc)).done s _ _ st1 fun h' tk kk => ⟨rfl, I.turned (t' := tk) (fun b o hb e => kk b o (by simpa using hb) e) f0 f1 f3 f4 f5⟩
  self := fun A i s Q E st h => slf A i s Q E st.1 h
def iStr (te : TE) : TI := fun σ H R => te σ H fun x H1 => ∃ z : Str, x = .str z ∧ R (Its z) H1
theorem pi_str {tg e : Expr} {te : TE} (he : PE X e te) : PI X tg e (iStr te) := by
  intro pins s σ H R I h
  refine thn (he pins s σ H _ I h) fun v s1 ⟨x, H1, I1, r1, q1⟩ => ?_
  obtain ⟨z, rfl, q⟩ := q1
  obtain ⟨t, rfl⟩ := r1
  have fr : ∀ b ∈ [s1.heap.objs.size], FpOk X pins H1 b := fun b hb => by
    have e : b = s1.heap.objs.size := by simpa using hb
    subst e
    exact I1.fpOk (Nat.le_refl _) (I1.hok.fresh (Nat.le_refl _))
  cases ha : z.cps.all (· < 128)
  · exact wpAny_pyIter_wide ha ⟨s1.heap.objs.size, [s1.heap.objs.size], _, _, H1, rfl, I1.kept (t' := s1.toks) fun b o e => Heap.get?_push_of_some _ e, turn_str "str_iterator" (by decide) z t _ (fun A hA => Walks.strWide hA _ z t) (fun _ _ _ _ _ st h => wpAny_pyIter_striter_wide st h), ⟨⟨_, Heap.get?_push_size _ rfl, rfl, rfl⟩, Nat.zero_le _⟩, fr, q⟩
  · exact wpAny_pyIter_ascii ha ⟨s1.heap.objs.size, [s1.heap.objs.size], _, _, H1, rfl, I1.kept (t' := s1.toks) fun b o e => Heap.get?_push_of_some _ e, turn_str "str_ascii_iterator" (by decide) z t _ (fun A hA => Walks.strAscii hA _ z t) (fun _ _ _ _ _ st h => wpAny_pyIter_striter_ascii st h), ⟨⟨_, Heap.get?_push_size _ rfl, rfl, rfl⟩, Nat.zero_le _⟩, fr, q⟩
end
section
variable {σ : St} {H : Hp} {Q : VK} {te : TE}
theorem z_split {z y : Str} (hy : (y.length == 0) = false) (hz : z.length + 2 ≤ sizeLine) (q : ∀ p H', H p = none → Same H H' → H' p = some (.lst ((Txt.split z y).map V.str)) → Q (.ref p) H') : rSplit (.str z) [.str y] H Q := ⟨z, y, rfl, rfl, hy, hz, fun p hp => q p _ hp (Same.new hp _) upd_same⟩
theorem z_partn {z y : Str} (hy : (y.length == 0) = false) (hz : z.length ≤ sizeLine) (q : ∀ p H', H p = none → Same H H' → H' p = some (.tup [.str (Txt.partition z y).1, .str (Txt.partition z y).2.1, .str (Txt.partition z y).2.2]) → Q (.ref p) H') : rPart (.str z) [.str y] H Q := ⟨z, y, rfl, rfl, hy, hz, fun p hp => q p _ hp (Same.new hp _) upd_same⟩
theorem z_starts {z y : Str} (q : Q (.bl (Txt.startswith z y)) H) : rStarts (.str z) [.str y] H Q := ⟨z, y, rfl, rfl, q⟩
theorem z_all {K : PySem.W.Frag} {p : Addr} {bs : List Bool} (h : SqL K H p (bs.map V.bl)) (q : Q (.bl (bs.all fun b => b)) H) : rAll K [.ref p] H Q := ⟨p, bs, rfl, h, q⟩
theorem z_intT {z : Str} {n : Int} (h : PySem.intText? z = some n) (hl : z.length ≤ 640) (q : Q (.int n) H) : rIntT [.str z] H Q := ⟨z, n, rfl, h, hl, q⟩
theorem z_fv (h : te σ H fun x H1 => ∃ i : Int, x = .int i ∧ i.natAbs.log2 < 1920 ∧ Q (.str (Str.ofString (toString i))) H1) : tFv te σ H Q := h
theorem z_fsn {acc : Str} (q : Q (.str acc) H) : tFs [] acc σ H Q := q
theorem z_fsc {acc : Str} {r : List TE} (h : te σ H fun x H1 => ∃ a : Str, x = .str a ∧ (acc ++ a).length ≤ sizeLine ∧ tFs r (acc ++ a) σ H1 Q) : tFs (te :: r) acc σ H Q := h
theorem z_iS {R : It → Hp → Prop} (h : te σ H fun x H1 => ∃ z : Str, x = .str z ∧ R (Its z) H1) : iStr te σ H R := h
theorem z_iS2 {z : Str} {S : Str → Prop} (q : S z) : ∃ z' : Str, V.str z = .str z' ∧ S z' := ⟨z, rfl, q⟩
theorem z_inS {i j : Str} {S : Str → Str → Prop} (q : S i j) : ∃ i' j' : Str, V.str i = .str i' ∧ V.str j = .str j' ∧ S i' j' := ⟨i, j, rfl, rfl, q⟩
end
/-- loops over a text's signs -/
theorem f_str {z : Str} {σ : St} {H : Hp} {tb : TS} {g : TG} {nx : St → Hp → Prop} {rt : VK} (Pv : Nat → St → Hp → Prop) (h0 : Pv 0 σ H)
    (hs : ∀ i c σ H, z.cps.toList[i]? = some c → Pv i σ H → g (.str ⟨#[c]⟩) σ H fun σ2 H2 => tb ⟨Pv (i + 1), rt, nx, Pv (i + 1)⟩ σ2 H2) (hd : ∀ σ H, Pv z.cps.size σ H → nx σ H) : FW (Its z) g tb nx rt σ H := by
  refine ⟨fun i m σ H => m = z.cps.size - i ∧ i ≤ z.cps.size ∧ Pv i σ H, ⟨_, rfl, Nat.zero_le _, h0⟩, ?_⟩
  rintro i m σ H ⟨rfl, hi, pv⟩
  by_cases hlt : i < z.cps.size
  · refine .inr ⟨hlt, Pv (i + 1), fun σ' H' p => ⟨z.cps.size - (i + 1), by omega, rfl, hlt, p⟩, fun x H' y => ?_⟩
    obtain ⟨e, c, hc, ex⟩ := y
    subst e ex
    exact hs i c σ _ hc pv
  · have e : i = z.cps.size := by omega
    subst e
    exact .inl ⟨Nat.le_refl _, hd σ H pv⟩
theorem lcn_str {z : Str} {st : St} {te : TE} {H1 : Hp} {Q : VK} (g : Nat → V) (hn : z.cps.size ≤ sizeLine)
    (step : ∀ c H2 (S : V → Hp → Prop), c ∈ z.cps.toList → Same H1 H2 → (∀ H3, Same H2 H3 → S (g c) H3) → te (some (.str ⟨#[c]⟩) :: st) H2 S)
    (fin : ∀ acc H2, H1 acc = none → Same H1 H2 → H2 acc = some (.lst (z.cps.toList.map g)) → Q (.ref acc) H2) : LCN st (Its z) te H1 Q := by
  intro acc hacc
  have hsz : z.cps.toList.length = z.cps.size := by simp
  refine ⟨fun i m H2 => m = z.cps.size - i ∧ i ≤ z.cps.size ∧ Same H1 H2 ∧ H2 acc = some (.lst ((z.cps.toList.take i).map g)), ⟨z.cps.size, by simp, Nat.zero_le _, Same.new hacc _, by rw [upd_same]; rfl⟩, ?_⟩
  rintro i m H2 ⟨rfl, hi, sH, ha⟩
  by_cases hlt : i < z.cps.size
  · refine .inr ⟨hlt, fun x H3 y => ?_⟩
    obtain ⟨e, c, hc, ex⟩ := y
    subst e ex
    refine step c _ _ (List.mem_of_getElem? hc) sH fun H4 s4 => ⟨_, z.cps.size - (i + 1), s4 _ _ ha, ?_, by omega, rfl, hlt, fun b o e => ?_, ?_⟩
    · rw [List.length_map, List.length_take]; omega
    · rw [upd_ne (fun z => by rw [z, hacc] at e; cases e)]
      exact s4 _ _ (sH _ _ e)
    · rw [upd_same, List.take_succ, hc, List.map_append]; rfl
  · have e : i = z.cps.size := by omega
    subst e
    refine .inl ⟨Nat.le_refl _, fin acc H2 hacc sH ?_⟩
    rw [ha, ← hsz, List.take_length]
end L2

/-! zfill -/
namespace L2
open PySem PySem.Spec PyProof.Rows PySem.Builtin PySem.Builtin.Str
section
variable {X : Cx}
def rZfill : V → List V → Hp → VK → Prop := fun x vs H Q => ∃ (z : Str) (i : Int), x = .str z ∧ vs = [.int i] ∧ PadOk i = true ∧ Q (.str (Txt.zfill z i)) H
theorem mt_zfill : MtM X "str.zfill" rZfill := by
  intro pins s σ H x vs v us Q I rx rv h
  obtain ⟨z, i, rfl, rfl, hp, q⟩ := h
  obtain ⟨t, rfl⟩ := rx
  obtain ⟨u', rfl, ru⟩ := rv.one
  obtain ⟨u, rfl⟩ := ru
  exact SC.zfill hp (fun t' k => ⟨.str _, H, I.tok _, ⟨_, rfl⟩, q⟩)
theorem z_zfill {H : Hp} {Q : VK} {z : Str} {i : Int} (hp : PadOk i = true) (q : Q (.str (Txt.zfill z i)) H) : rZfill (.str z) [.int i] H Q := ⟨z, i, rfl, rfl, hp, q⟩
/-- two lists of ints -/
def rNeL (K : PySem.W.Frag) : R2 := fun x y H Q => ∃ (a b : Addr) (ns ms : List Int), x = .ref a ∧ y = .ref b ∧ SqL K H a (ns.map V.int) ∧ SqL K H b (ms.map V.int) ∧ Q (.bl (!decide (ns = ms))) H
theorem op_neL (hu : X.A.units < cLine) : OpR X (compareOp .NotEq) (rNeL X.K) := by
  intro pins s σ H x y v u Q I rx ry h
  obtain ⟨a, b, ns, ms, rfl, rfl, ha, hb, q⟩ := h
  cases rx
  cases ry
  obtain ⟨its, r1, p1, _⟩ := I.list ha
  obtain ⟨its2, r2, p2, _⟩ := I.list hb
  have i1 : IntsAre its ns := intsAre_of r1
  have i2 : IntsAre its2 ms := intsAre_of r2
  have l1 : its.length = ns.length := i1.length
  have l2 : its2.length = ms.length := i2.length
  by_cases hl : ns.length = ms.length
  · have key := SeqAt.RcNeAt.lists (A := X.A) (s := s) (l := a) (b := b) (items := its.toArray) (items2 := its2.toArray) (e := fun j => decide (ns[j]? = ms[j]?)) p1.isList p2.isList (by rw [List.size_toArray, List.size_toArray, l1, l2, hl]) hu (fun j h1 h2 => by
      have h1' : j < its.length := by simpa using h1
      have h2' : j < its2.length := by simpa using h2
      obtain ⟨n, t, en, ev⟩ := ints_at i1 (List.getElem?_eq_getElem h1')
      obtain ⟨m, t', em, ew⟩ := ints_at i2 (List.getElem?_eq_getElem h2')
      have g1 : its.toArray[j] = .int n t := by rw [← ev]; simp
      have g2 : its2.toArray[j] = .int m t' := by rw [← ew]; simp
      rw [g1, g2, en, em]
      have e : decide (some n = some m) = (n == m) := by
        by_cases z : n = m
        · subst z; simp
        · simp [z]
      rw [e]
      exact SeqAt.EqAt.int_int n t m t')
    have e2 : (!((List.range its.toArray.size).all (fun j => decide (ns[j]? = ms[j]?)))) = !decide (ns = ms) := by
      have := tup_all (ns := ns) (ms := ms) (e := fun j => decide (ns[j]? = ms[j]?)) (fun j _ _ => rfl)
      rw [← hl, Nat.min_self, beq_self_eq_true, Bool.and_true] at this
      rw [List.size_toArray, l1, this]
    rw [e2] at key
    exact key _ _ _ _ ⟨.bl (!decide (ns = ms)), H, I, rfl, q⟩
  · have key := SeqAt.RcNeAt.lists_lengths (A := X.A) (s := s) (l := a) (b := b) (items := its.toArray) (items2 := its2.toArray) p1.isList p2.isList (by rw [List.size_toArray, List.size_toArray, l1, l2]; simpa using hl) hu
    have e : decide (ns = ms) = false := decide_eq_false fun z => hl (by rw [z])
    rw [e] at q
    exact key _ _ _ _ ⟨.bl true, H, I, rfl, q⟩
theorem z_neL {K : PySem.W.Frag} {H : Hp} {Q : VK} {a b : Addr} {ns ms : List Int} (h1 : SqL K H a (ns.map V.int)) (h2 : SqL K H b (ms.map V.int)) (q : Q (.bl (!decide (ns = ms))) H) : rNeL K (.ref a) (.ref b) H Q := ⟨a, b, ns, ms, rfl, rfl, h1, h2, q⟩
end
end L2

/-! numbers as texts -/
namespace My
open PySem PySem.NumText
def dg (n : Nat) : List Nat := (Nat.toDigits 10 n).map Char.toNat
theorem dg_small {n : Nat} (h : n < 10) : dg n = [48 + n] := by
  rcases (by omega : n = 0 ∨ n = 1 ∨ n = 2 ∨ n = 3 ∨ n = 4 ∨ n = 5 ∨ n = 6 ∨ n = 7 ∨ n = 8 ∨ n = 9) with e | e | e | e | e | e | e | e | e | e <;> subst e <;> decide
theorem dg_step {n : Nat} (h : 10 ≤ n) : dg n = dg (n / 10) ++ [48 + n % 10] := by
  have hm : n % 10 < 10 := Nat.mod_lt n (by decide)
  have t : Nat.toDigits 10 (n / 10) ++ Nat.toDigits 10 (n % 10) = Nat.toDigits 10 (10 * (n / 10) + n % 10) := Nat.toDigits_append_toDigits (by decide) (by omega) hm
  rw [Nat.div_add_mod] at t
  unfold dg
  rw [← t, List.map_append]
  congr 1
  exact dg_small hm
theorem dg_dig (n : Nat) : AllDigits (dg n) := by
  intro c hc
  obtain ⟨ch, hch, e⟩ := List.mem_map.mp hc
  have r := PyProof.Rows.digit_range (Nat.isDigit_of_mem_toDigits (by decide) (by decide) hch)
  rw [← e]
  exact r
theorem dg_val (n : Nat) : digitsVal (dg n) = n := PySem.W.KIN.val_back n
theorem dg_ne (n : Nat) : dg n ≠ [] := by
  rcases Nat.lt_or_ge n 10 with h | h
  · rw [dg_small h]; exact List.cons_ne_nil _ _
  · rw [dg_step h]; simp
theorem dg_head : ∀ n : Nat, 0 < n → (dg n).head? ≠ some 48 := by
  intro n
  induction n using Nat.strongRecOn with
  | _ n ih =>
    intro h0
    rcases Nat.lt_or_ge n 10 with h | h
    · rw [dg_small h]
      intro z
      have := Option.some.inj z
      omega
    · rw [dg_step h, List.head?_append]
      have i := ih (n / 10) (by omega) (by omega)
      cases q : (dg (n / 10)).head? with
      | none => exact absurd (List.head?_eq_none_iff.mp q) (dg_ne _)
      | some c =>
        rw [q] at i
        exact i
theorem dg_len {n k : Nat} (hk : 1 ≤ k) (h : n < 10 ^ k) : (dg n).length ≤ k := by
  unfold dg
  rw [List.length_map]
  exact PyProof.Rows.digits10_le hk h
theorem canon_aux : ∀ (k : Nat) (cs : List Nat), cs.length = k → AllDigits cs → cs ≠ [] → cs.head? ≠ some 48 → dg (digitsVal cs) = cs ∧ 0 < digitsVal cs
  | 0, cs, hk, _, hn, _ => absurd (List.eq_nil_of_length_eq_zero hk) hn
  | k + 1, cs, hk, hd, hn, hh => by
    have e := (List.dropLast_concat_getLast hn).symm
    generalize hc : cs.getLast hn = c at e
    generalize hds : cs.dropLast = ds at e
    have c1 : 48 ≤ c ∧ c ≤ 57 := hd c (by rw [e]; simp)
    have dd : AllDigits ds := fun x hx => hd x (by rw [e]; exact List.mem_append_left _ hx)
    rcases ds with _ | ⟨x, r⟩
    · have e' : cs = [c] := e
      have hc48 : c ≠ 48 := fun z => hh (by rw [e', z]; rfl)
      have v : digitsVal cs = c - 48 := by rw [e']; show 0 * 10 + (c - 48) = _; omega
      rw [v]
      refine ⟨?_, by omega⟩
      rw [dg_small (by omega), e']
      congr 1
      omega
    · have hl : (x :: r).length = k := by
        have := congrArg List.length e
        rw [List.length_append, hk] at this
        simp only [List.length_cons, List.length_nil] at this ⊢
        omega
      have hh' : (x :: r).head? ≠ some 48 := fun z => hh (by rw [e]; exact z)
      obtain ⟨i1, i2⟩ := canon_aux k (x :: r) hl dd (List.cons_ne_nil _ _) hh'
      have v : digitsVal cs = digitsVal (x :: r) * 10 + (c - 48) := by rw [e, digitsVal_snoc]
      rw [v]
      refine ⟨?_, by omega⟩
      rw [dg_step (by omega), show (digitsVal (x :: r) * 10 + (c - 48)) / 10 = digitsVal (x :: r) by omega, show (digitsVal (x :: r) * 10 + (c - 48)) % 10 = c - 48 by omega, i1, show 48 + (c - 48) = c by omega]
      exact e.symm
theorem canon {cs : List Nat} (hd : AllDigits cs) (hn : cs ≠ []) (hh : cs.head? ≠ some 48) : dg (digitsVal cs) = cs ∧ 0 < digitsVal cs := canon_aux _ cs rfl hd hn hh
/-- an int's text -/
def txt (n : Int) : List Nat := if n < 0 then 45 :: dg n.natAbs else dg n.natAbs
theorem txt_is (n : Int) : (Str.ofString (toString n)).cps.toList = txt n := by
  cases n with
  | ofNat m =>
    have : ¬ ((Int.ofNat m) < 0) := by simp
    unfold txt
    rw [if_neg this]
    exact PySem.W.KIN.signs_num m
  | negSucc m =>
    unfold txt
    rw [if_pos (Int.negSucc_lt_zero m), PyProof.Rows.signs_ofString]
    show (("-" ++ Nat.repr (m + 1) : String).toList.map Char.toNat) = 45 :: dg (m + 1)
    rw [String.toList_append, List.map_append, Nat.toList_repr]
    rfl
def hd (A : List Nat) : List Nat := if A.head? = some 45 then A.tail else A
def val (A : List Nat) : Int := if A.head? = some 45 then -((digitsVal A.tail : Nat) : Int) else ((digitsVal A : Nat) : Int)
def plain (cs : List Nat) : Prop := cs ≠ [] ∧ cs.length ≤ 60 ∧ ¬ (cs.head? = some 48 ∧ cs ≠ [48]) ∧ AllDigits cs
def figs (cs : List Nat) : Prop := cs ≠ [] ∧ AllDigits cs ∧ cs.length ≤ 60
def ok0 (A : List Nat) : Prop := plain (hd A) ∧ A ≠ [45, 48]
theorem plain.figs {cs : List Nat} (h : plain cs) : figs cs := ⟨h.1, h.2.2.2, h.2.1⟩
theorem dig_not_45 {cs : List Nat} (h : AllDigits cs) : cs.head? ≠ some 45 := by
  intro z
  cases cs with
  | nil => cases z
  | cons x r =>
    have := h x List.mem_cons_self
    have e : x = 45 := Option.some.inj z
    omega
theorem dig_no47 {cs : List Nat} (h : AllDigits cs) : 47 ∉ cs := fun z => by
  have := h 47 z
  omega
theorem plain_dg {n : Nat} (h : n < 10 ^ 60) : plain (dg n) := by
  refine ⟨dg_ne n, dg_len (by decide) h, fun z => ?_, dg_dig n⟩
  rcases Nat.eq_zero_or_pos n with e | e
  · subst e; exact z.2 (by decide)
  · exact dg_head n e z.1
theorem dg_of_plain {cs : List Nat} (h : plain cs) : dg (digitsVal cs) = cs := by
  obtain ⟨h1, _, h3, h4⟩ := h
  by_cases e : cs = [48]
  · subst e; decide
  · exact (canon h4 h1 fun z => h3 ⟨z, e⟩).1
theorem plain_of_dg {cs : List Nat} (f : figs cs) (h : dg (digitsVal cs) = cs) : plain cs := by
  refine ⟨f.1, f.2.2, fun z => ?_, f.2.1⟩
  rcases Nat.eq_zero_or_pos (digitsVal cs) with e | e
  · rw [e] at h; exact z.2 (by rw [← h]; decide)
  · have := dg_head _ e
    rw [h] at this
    exact this z.1
theorem zero_of_dg {n : Nat} (h : dg n = [48]) : n = 0 := by
  rcases Nat.eq_zero_or_pos n with e | e
  · exact e
  · exact absurd (by rw [h]; rfl) (dg_head n e)
/-- a text is its number's own, just where it is plain -/
theorem txt_canon {A : List Nat} (f : figs (hd A)) : txt (val A) = A ↔ ok0 A := by
  by_cases h : A.head? = some 45
  · obtain ⟨B, rfl⟩ : ∃ B, A = 45 :: B := by
      cases A with
      | nil => cases h
      | cons x r => exact ⟨r, by rw [Option.some.inj h]⟩
    have e1 : hd (45 :: B) = B := if_pos rfl
    have e2 : val (45 :: B) = -((digitsVal B : Nat) : Int) := if_pos rfl
    rw [e1] at f
    unfold ok0
    rw [e1, e2]
    constructor
    · intro e
      have p : 0 < digitsVal B := by
        rcases Nat.eq_zero_or_pos (digitsVal B) with z | z
        · rw [z] at e
          have e48 : [48] = 45 :: B := e
          exact absurd (List.head_eq_of_cons_eq e48) (by decide)
        · exact z
      unfold txt at e
      rw [if_pos (by omega)] at e
      have e' : dg (digitsVal B) = B := by
        have := List.tail_eq_of_cons_eq e
        simpa using this
      refine ⟨plain_of_dg f e', fun z => ?_⟩
      have : B = [48] := List.tail_eq_of_cons_eq z
      rw [this] at p
      exact absurd p (by decide)
    · rintro ⟨p, ne⟩
      have n48 : B ≠ [48] := fun z => ne (by rw [z])
      obtain ⟨c1, c2⟩ := canon p.2.2.2 p.1 fun z => p.2.2.1 ⟨z, n48⟩
      unfold txt
      rw [if_pos (by omega)]
      congr 1
      simpa using c1
  · have e1 : hd A = A := if_neg h
    have e2 : val A = ((digitsVal A : Nat) : Int) := if_neg h
    rw [e1] at f
    unfold ok0
    rw [e1, e2]
    have et : txt ((digitsVal A : Nat) : Int) = dg (digitsVal A) := by
      unfold txt
      rw [if_neg (by omega)]
      rfl
    rw [et]
    exact ⟨fun e => ⟨plain_of_dg f e, fun z => h (by rw [z]; rfl)⟩, fun z => dg_of_plain z.1⟩
theorem txt_no47 (n : Int) : 47 ∉ txt n := by
  unfold txt
  split
  · intro z
    rcases List.mem_cons.mp z with z | z
    · omega
    · exact dig_no47 (dg_dig _) z
  · exact dig_no47 (dg_dig _)
theorem hd_txt (n : Int) : hd (txt n) = dg n.natAbs := by
  unfold txt
  split
  · exact if_pos rfl
  · exact if_neg (dig_not_45 (dg_dig _))
theorem val_txt (n : Int) : val (txt n) = n := by
  unfold txt
  split
  · show (if (45 :: dg n.natAbs).head? = some 45 then -((digitsVal (dg n.natAbs) : Nat) : Int) else _) = n
    rw [if_pos (show (45 :: dg n.natAbs).head? = some 45 from rfl)]
    rw [dg_val]
    omega
  · unfold val
    rw [if_neg (dig_not_45 (dg_dig _)), dg_val]
    omega
theorem txt_nat (n : Nat) : txt (n : Int) = dg n := by
  unfold txt
  rw [if_neg (by omega)]
  rfl
theorem first47 : ∀ {A A' B B' : List Nat}, A ++ 47 :: B = A' ++ 47 :: B' → 47 ∉ A → 47 ∉ A' → A = A' ∧ B = B'
  | [], [], _, _, e, _, _ => ⟨rfl, List.tail_eq_of_cons_eq e⟩
  | [], x :: r, _, _, e, _, h => absurd (by rw [List.head_eq_of_cons_eq e]; exact List.mem_cons_self) h
  | x :: r, [], _, _, e, h, _ => absurd (by rw [← List.head_eq_of_cons_eq e]; exact List.mem_cons_self) h
  | x :: r, y :: s, B, B', e, h, h' => by
    have e1 : x = y := List.head_eq_of_cons_eq e
    have e2 : r ++ 47 :: B = s ++ 47 :: B' := List.tail_eq_of_cons_eq e
    obtain ⟨i1, i2⟩ := first47 e2 (fun z => h (List.mem_cons_of_mem _ z)) (fun z => h' (List.mem_cons_of_mem _ z))
    exact ⟨by rw [e1, i1], i2⟩
/-- what a text writes -/
def DueOk (cs : List Nat) (t b : Int) : Prop := (47 ∉ cs ∧ ok0 cs ∧ t = val cs ∧ b = 1) ∨
  ∃ A B, cs = A ++ 47 :: B ∧ 47 ∉ A ∧ ok0 A ∧ plain B ∧ 2 ≤ digitsVal B ∧ Int.gcd (val A) ((digitsVal B : Nat) : Int) = 1 ∧ t = val A ∧ b = ((digitsVal B : Nat) : Int)
theorem no47_app (A B : List Nat) : 47 ∈ A ++ 47 :: B := List.mem_append_right _ List.mem_cons_self
theorem DueOk.uniq {cs : List Nat} {t b t' b' : Int} (h : DueOk cs t b) (h' : DueOk cs t' b') : t = t' ∧ b = b' := by
  rcases h with ⟨h1, h2, rfl, rfl⟩ | ⟨A, B, rfl, a1, a2, a3, a4, a5, rfl, rfl⟩
  · rcases h' with ⟨_, _, rfl, rfl⟩ | ⟨A', B', rfl, _⟩
    · exact ⟨rfl, rfl⟩
    · exact absurd (no47_app _ _) h1
  · rcases h' with ⟨c1, _⟩ | ⟨A', B', e, c1, c2, c3, c4, c5, rfl, rfl⟩
    · exact absurd (no47_app _ _) c1
    · obtain ⟨rfl, rfl⟩ := first47 e a1 c1
      exact ⟨rfl, rfl⟩
/-- a number's text -/
def shw (t b : Int) : List Nat := if b = 1 then txt t else txt t ++ 47 :: txt b
theorem due_one {A : List Nat} (h : 47 ∉ A) (f : figs (hd A)) : (shw (val A) 1 = A → DueOk A (val A) 1) ∧ (shw (val A) 1 ≠ A → ∀ t b, ¬ DueOk A t b) := by
  have e : shw (val A) 1 = txt (val A) := if_pos rfl
  rw [e]
  refine ⟨fun z => .inl ⟨h, (txt_canon f).mp z, rfl, rfl⟩, fun z t b d => ?_⟩
  rcases d with ⟨_, d, _⟩ | ⟨A', B', rfl, _⟩
  · exact z ((txt_canon f).mpr d)
  · exact absurd (no47_app _ _) h
theorem due_one_not {A : List Nat} (h : 47 ∉ A) (f : ¬ figs (hd A)) : ∀ t b, ¬ DueOk A t b := fun t b d => by
  rcases d with ⟨_, d, _⟩ | ⟨A', B', rfl, _⟩
  · exact f d.1.figs
  · exact absurd (no47_app _ _) h
theorem due_two_not {A B : List Nat} (h : 47 ∉ A) (f : ¬ (figs (hd A) ∧ figs B ∧ 2 ≤ digitsVal B)) : ∀ t b, ¬ DueOk (A ++ 47 :: B) t b := fun t b d => by
  rcases d with ⟨d, _⟩ | ⟨A', B', e, a1, a2, a3, a4, _⟩
  · exact absurd (no47_app _ _) d
  · obtain ⟨rfl, rfl⟩ := first47 e h a1
    exact f ⟨a2.1.figs, a3.figs, a4⟩
theorem due_two {A B : List Nat} {x y : Int} (h : 47 ∉ A) (f : figs (hd A)) (g : figs B) (d0 : digitsVal B ≠ 0) (y0 : 0 < y) (low : Int.gcd x y = 1) (q : qv x y = qv (val A) ((digitsVal B : Nat) : Int)) :
    (shw x y = A ++ 47 :: B → DueOk (A ++ 47 :: B) x y) ∧ (shw x y ≠ A ++ 47 :: B → ∀ t b, ¬ DueOk (A ++ 47 :: B) t b) := by
  constructor
  · intro e
    by_cases y1 : y = 1
    · rw [y1] at e
      have e' : txt x = A ++ 47 :: B := e
      exact absurd (by rw [e']; exact no47_app _ _) (txt_no47 x)
    · have e' : txt x ++ 47 :: txt y = A ++ 47 :: B := by
        unfold shw at e
        rw [if_neg y1] at e
        exact e
      obtain ⟨e1, e2⟩ := first47 e' (txt_no47 x) h
      obtain ⟨k, rfl⟩ : ∃ k : Nat, y = (k : Int) := ⟨y.toNat, by omega⟩
      rw [txt_nat] at e2
      have v1 : val A = x := by rw [← e1, val_txt]
      have v2 : digitsVal B = k := by rw [← e2, dg_val]
      refine .inr ⟨A, B, rfl, h, (txt_canon f).mp (by rw [v1, e1]), plain_of_dg g (by rw [v2, e2]), by omega, by rw [v1, v2]; exact low, v1.symm, by rw [v2]⟩
  · intro e t b d
    rcases d with ⟨d, _⟩ | ⟨A', B', e', a1, a2, a3, a4, a5, _⟩
    · exact absurd (no47_app _ _) d
    · obtain ⟨rfl, rfl⟩ := first47 e' h a1
      obtain ⟨q1, q2⟩ := low_unique y0 (by omega) low a5 (eq_of_qv (by omega) (by omega) q)
      subst q1 q2
      apply e
      unfold shw
      rw [if_neg (by omega), (txt_canon f).mpr a2, txt_nat, dg_of_plain a3]
theorem due_more {A D : List Nat} (h : 47 ∉ A) (m : 47 ∈ D) : (∀ t b, ¬ DueOk (A ++ 47 :: D) t b) ∧ ∀ x y, shw x y ≠ A ++ 47 :: D := by
  constructor
  · intro t b d
    rcases d with ⟨d, _⟩ | ⟨A', B', e, a1, a2, a3, _⟩
    · exact absurd (no47_app _ _) d
    · obtain ⟨rfl, rfl⟩ := first47 e h a1
      exact dig_no47 a3.2.2.2 m
  · intro x y e
    unfold shw at e
    split at e
    · exact absurd (by rw [e]; exact no47_app _ _) (txt_no47 x)
    · obtain ⟨_, e2⟩ := first47 e (txt_no47 x) h
      exact txt_no47 y (by rw [e2]; exact m)
/-- a number's own text writes it -/
theorem due_shw {t b : Int} (b0 : 0 < b) (low : Int.gcd t b = 1) (ht : t.natAbs < 10 ^ 60) (hb : b.natAbs < 10 ^ 60) : DueOk (shw t b) t b := by
  have f : figs (hd (txt t)) := by rw [hd_txt]; exact (plain_dg ht).figs
  have o : ok0 (txt t) := (txt_canon f).mp (by rw [val_txt])
  unfold shw
  split
  · next e => exact .inl ⟨txt_no47 t, o, (val_txt t).symm, e⟩
  · obtain ⟨k, rfl⟩ : ∃ k : Nat, b = (k : Int) := ⟨b.toNat, by omega⟩
    have hk : k < 10 ^ 60 := hb
    refine .inr ⟨txt t, txt k, rfl, txt_no47 t, o, by rw [txt_nat]; exact plain_dg hk, by rw [txt_nat, dg_val]; omega, by rw [val_txt, txt_nat, dg_val]; exact low, (val_txt t).symm, by rw [txt_nat, dg_val]⟩
end My

/-! texts of the model and their signs -/
namespace My
open PySem PySem.NumText PySem.StrLaws
abbrev cs (z : Str) : List Nat := z.cps.toList
theorem cs_len (z : Str) : (cs z).length = z.length := by simp [Str.length]
theorem cs_ext {a b : Str} (h : cs a = cs b) : a = b := Str.ext' (Array.toList_inj.mp h)
theorem cs_app (a b : Str) : cs (a ++ b) = cs a ++ cs b := by
  show (a.cps ++ b.cps).toList = _
  rw [Array.toList_append]
theorem sl_eq : ("/" : Str) = ⟨#[47]⟩ := by decide
theorem mi_eq : ("-" : Str) = ⟨#[45]⟩ := by decide
theorem part_is (z : Str) : (47 ∉ cs z ∧ Txt.partition z "/" = (z, Str.empty, Str.empty)) ∨ ∃ a b, Txt.partition z "/" = (a, ("/" : Str), b) ∧ cs z = cs a ++ 47 :: cs b ∧ 47 ∉ cs a := by
  have hs := PySem.StrLaws.partition_sum z "/"
  rcases occ_head z "/" 1 (Nat.le_refl 1) with ⟨h0, hn⟩ | ⟨i, r, h0, hi, hn⟩
  · left
    have e : Txt.partition z "/" = (z, Str.empty, Str.empty) := by unfold Txt.partition; rw [h0]
    refine ⟨fun m => ?_, e⟩
    obtain ⟨i, hi, e⟩ := List.getElem_of_mem m
    have : (cs z)[i]? = some 47 := by rw [List.getElem?_eq_getElem hi, e]
    rw [sl_eq] at hn
    exact hn i ((subAt_one z 47 i).mpr this)
  · right
    have e : Txt.partition z "/" = (Builtin.Str.strSub z 0 i, ("/" : Str), Builtin.Str.strSub z (i + ("/" : Str).length) z.length) := by unfold Txt.partition; rw [h0]
    refine ⟨_, _, e, ?_, ?_⟩
    · rw [e] at hs
      have := congrArg cs hs
      rw [cs_app, cs_app] at this
      rw [← this, List.append_assoc]
      rfl
    · rw [sl_eq] at hi hn
      exact part_free z 47 0 i (by have := hi.1; simp only [Str.length] at this ⊢; omega) (fun k _ hk => hn k hk)
theorem join_cons (a b : Str) (r : List Str) : cs (Str.join "/" (a :: b :: r)) = cs a ++ 47 :: cs (Str.join "/" (b :: r)) := by
  show cs (a ++ "/" ++ Str.join "/" (b :: r)) = _
  rw [cs_app, cs_app, List.append_assoc]
  rfl
theorem split_is (z : Str) : (∃ a, Txt.split z "/" = [a] ∧ cs z = cs a ∧ 47 ∉ cs a) ∨ (∃ a b, Txt.split z "/" = [a, b] ∧ cs z = cs a ++ 47 :: cs b ∧ 47 ∉ cs a) ∨
    ∃ a b c r D, Txt.split z "/" = a :: b :: c :: r ∧ cs z = cs a ++ 47 :: D ∧ 47 ∈ D ∧ 47 ∉ cs a := by
  have hj := join_split z "/"
  have hf := split_free z 47
  rw [← sl_eq] at hf
  have hp := PyProof.Rows.split_pos z "/"
  generalize Txt.split z "/" = ts at *
  match ts, hj, hf, hp with
  | [a], hj, hf, _ => exact .inl ⟨a, rfl, congrArg cs hj.symm, hf a List.mem_cons_self⟩
  | [a, b], hj, hf, _ => exact .inr (.inl ⟨a, b, rfl, by rw [← hj]; exact join_cons a b [], hf a List.mem_cons_self⟩)
  | a :: b :: c :: r, hj, hf, _ => exact .inr (.inr ⟨a, b, c, r, _, rfl, by rw [← hj]; exact join_cons a b (c :: r), by rw [join_cons]; exact no47_app _ _, hf a List.mem_cons_self⟩)
theorem starts_is (z : Str) : Txt.startswith z "-" = decide ((cs z).head? = some 45) := by
  rw [Bool.eq_iff_iff, decide_eq_true_eq]
  unfold Txt.startswith
  rw [mi_eq, Bool.and_eq_true, decide_eq_true_eq, subAt_one z 45 0, List.head?_eq_getElem?]
theorem sl_from (z : Str) (h : 1 ≤ z.length) : cs (Txt.slice z (some 1) none) = (cs z).tail := by
  have hl : z.cps.toList.length = z.length := cs_len z
  have e : Txt.slice z (some 1) none = sliceText z (some 1) none := rfl
  rw [e, sliceText_from ⟨by decide, by omega⟩]
  show ((z.cps.toList.drop 1).take _).toArray.toList = _
  rw [List.toList_toArray, List.drop_one, List.take_of_length_le]
  rw [List.length_tail]
  omega
theorem sl_to (z : Str) : cs (Txt.slice z none (some 1)) = (cs z).take 1 := by
  have hl : z.cps.toList.length = z.length := cs_len z
  rcases Nat.eq_zero_or_pos z.length with h | h
  · have e0 : cs z = [] := List.eq_nil_of_length_eq_zero (by rw [cs_len]; omega)
    have := Txt.slice_le z none (some 1)
    have e1 : cs (Txt.slice z none (some 1)) = [] := List.eq_nil_of_length_eq_zero (by rw [cs_len]; omega)
    rw [e0, e1]; rfl
  · have e : Txt.slice z none (some 1) = sliceText z none (some 1) := rfl
    rw [e, sliceText_to ⟨by decide, by omega⟩]
    show ((z.cps.toList.drop 0).take 1).toArray.toList = _
    rw [List.toList_toArray, List.drop_zero]
def digB (c : List Nat) : Bool := !c.isEmpty && c.all fun x => decide (48 ≤ x ∧ x ≤ 57)
theorem digB_iff {c : List Nat} : digB c = true ↔ c ≠ [] ∧ AllDigits c := by
  unfold digB AllDigits
  rw [Bool.and_eq_true, List.all_eq_true]
  constructor
  · rintro ⟨h1, h2⟩
    exact ⟨fun z => (by rw [z] at h1; cases h1), fun x hx => of_decide_eq_true (h2 x hx)⟩
  · rintro ⟨h1, h2⟩
    refine ⟨?_, fun x hx => decide_eq_true (h2 x hx)⟩
    cases c with
    | nil => exact absurd rfl h1
    | cons _ _ => rfl
def figB (c : List Nat) : Bool := digB c && decide (c.length ≤ 60)
theorem figB_iff {c : List Nat} : figB c = true ↔ figs c := by
  unfold figB figs
  rw [Bool.and_eq_true, digB_iff, decide_eq_true_eq, and_assoc]
theorem in_digits (c : Nat) : (!(Builtin.Str.occurrences ("0123456789" : Str) ⟨#[c]⟩ 0 ("0123456789" : Str).length 1).isEmpty) = decide (48 ≤ c ∧ c ≤ 57) := by
  rw [found_one]
  have e : ("0123456789" : Str).cps.toList = [48, 49, 50, 51, 52, 53, 54, 55, 56, 57] := by decide
  rw [e, Bool.eq_iff_iff, decide_eq_true_eq, decide_eq_true_eq]
  simp only [List.mem_cons, List.not_mem_nil, or_false]
  omega
theorem val_lt_aux : ∀ (c : List Nat) (a : Nat), AllDigits c → c.foldl (fun acc d => acc * 10 + (d - 48)) a < (a + 1) * 10 ^ c.length
  | [], a, _ => by simp
  | d :: r, a, h => by
    have hd := h.head
    have := val_lt_aux r (a * 10 + (d - 48)) h.tail
    rw [List.foldl_cons, List.length_cons, Nat.pow_succ]
    refine Nat.lt_of_lt_of_le this ?_
    have e : (a + 1) * (10 ^ r.length * 10) = ((a + 1) * 10) * 10 ^ r.length := by rw [Nat.mul_assoc, Nat.mul_comm 10]
    rw [e]
    exact Nat.mul_le_mul_right _ (by omega)
theorem val_lt {c : List Nat} (h : figs c) : digitsVal c < 10 ^ 60 := by
  have := val_lt_aux c 0 h.2.1
  refine Nat.lt_of_lt_of_le (show digitsVal c < 1 * 10 ^ c.length from this) ?_
  rw [Nat.one_mul]
  exact Nat.pow_le_pow_right (by decide) h.2.2
theorem val_abs {A : List Nat} (h : figs (hd A)) : (val A).natAbs < 10 ^ 60 := by
  have := val_lt h
  unfold hd at this
  unfold val
  split <;> simp_all
theorem bd200 {n : Int} (h : n.natAbs < 10 ^ 60) : Bd 200 n := by
  unfold Bd
  have e : (10 : Nat) ^ 60 = 1000000000000000000000000000000000000000000000000000000000000 := by decide
  rw [e] at h
  have e2 : (2 : Int) ^ 200 = 1606938044258990275541962092341162602522202993782792835301376 := by decide
  omega
theorem log60 {n : Int} (h : n.natAbs < 10 ^ 60) : n.natAbs.log2 < 1920 := by
  by_cases z : n.natAbs = 0
  · rw [z]; decide
  · rw [Nat.log2_lt z]
    exact Nat.lt_of_lt_of_le h (by decide)
/-- int of a text -/
theorem int_of {z : Str} (f : figs (hd (cs z))) : intText? z = some (val (cs z)) ∧ z.length ≤ 61 := by
  have hl := cs_len z
  by_cases h : (cs z).head? = some 45
  · have e1 : hd (cs z) = (cs z).tail := if_pos h
    have e2 : val (cs z) = -((digitsVal (cs z).tail : Nat) : Int) := if_pos h
    rw [e1] at f
    have hz : cs z = 45 :: (cs z).tail := by
      cases q : cs z with
      | nil => rw [q] at h; cases h
      | cons x r =>
        rw [q] at h
        rw [Option.some.inj h]; rfl
    have hlen : z.length ≤ 61 := by
      have := f.2.2
      have e := congrArg List.length hz
      rw [List.length_cons] at e
      omega
    exact ⟨by rw [e2]; exact intText_neg hz f.2.1 f.1 (by omega), hlen⟩
  · have e1 : hd (cs z) = cs z := if_neg h
    have e2 : val (cs z) = ((digitsVal (cs z) : Nat) : Int) := if_neg h
    rw [e1] at f
    have hlen : z.length ≤ 61 := by
      have := f.2.2
      omega
    exact ⟨by rw [e2]; exact intText_digits f.2.1 f.1 (by omega), hlen⟩
theorem val_dig {c : List Nat} (h : AllDigits c) : hd c = c ∧ val c = ((digitsVal c : Nat) : Int) := ⟨if_neg (dig_not_45 h), if_neg (dig_not_45 h)⟩
theorem cs_str (n : Int) : cs (Str.ofString (toString n)) = txt n := txt_is n
theorem txt_len {n : Int} (h : n.natAbs < 10 ^ 60) : (txt n).length ≤ 61 := by
  have := dg_len (by decide) h
  unfold txt
  split
  · rw [List.length_cons]; omega
  · omega
end My

/-! figures with noughts ahead -/
namespace My
open PySem PySem.NumText
theorem dg4 {n : Nat} (h : n < 10000) : dg (10000 + n) = [49, 48 + n / 1000, 48 + n / 100 % 10, 48 + n / 10 % 10, 48 + n % 10] := by
  rw [dg_step (by omega), dg_step (by omega), dg_step (by omega), dg_step (by omega), dg_small (by omega)]
  simp only [List.cons_append, List.nil_append]
  rw [show 48 + (10000 + n) / 10 / 10 / 10 / 10 = 49 by omega, show (10000 + n) / 10 / 10 / 10 % 10 = n / 1000 by omega, show (10000 + n) / 10 / 10 % 10 = n / 100 % 10 by omega, show (10000 + n) / 10 % 10 = n / 10 % 10 by omega, show (10000 + n) % 10 = n % 10 by omega]
theorem dg2 {n : Nat} (h : n < 100) : dg (100 + n) = [49, 48 + n / 10, 48 + n % 10] := by
  rw [dg_step (by omega), dg_step (by omega), dg_small (by omega)]
  simp only [List.cons_append, List.nil_append]
  rw [show 48 + (100 + n) / 10 / 10 = 49 by omega, show (100 + n) / 10 % 10 = n / 10 by omega, show (100 + n) % 10 = n % 10 by omega]
/-- four figures, two figures -/
def pad4 (n : Nat) : List Nat := [48 + n / 1000, 48 + n / 100 % 10, 48 + n / 10 % 10, 48 + n % 10]
def pad2 (n : Nat) : List Nat := [48 + n / 10, 48 + n % 10]
theorem fill4 {n : Nat} (h : n < 10000) : List.replicate (4 - (dg n).length) 48 ++ dg n = pad4 n := by
  unfold pad4
  rcases Nat.lt_or_ge n 10 with a | a
  · rw [dg_small a, show n / 1000 = 0 by omega, show n / 100 % 10 = 0 by omega, show n / 10 % 10 = 0 by omega, show n % 10 = n by omega]; rfl
  rcases Nat.lt_or_ge n 100 with b | b
  · rw [dg_step a, dg_small (by omega), show n / 1000 = 0 by omega, show n / 100 % 10 = 0 by omega, show n / 10 % 10 = n / 10 by omega]; rfl
  rcases Nat.lt_or_ge n 1000 with c | c
  · rw [dg_step a, dg_step (by omega), dg_small (by omega), show n / 1000 = 0 by omega, show n / 100 % 10 = n / 10 / 10 by omega]; rfl
  · rw [dg_step a, dg_step (by omega), dg_step (by omega), dg_small (by omega), show n / 1000 = n / 10 / 10 / 10 by omega, show n / 100 % 10 = n / 10 / 10 % 10 by omega]; rfl
theorem fill2 {n : Nat} (h : n < 100) : List.replicate (2 - (dg n).length) 48 ++ dg n = pad2 n := by
  unfold pad2
  rcases Nat.lt_or_ge n 10 with a | a
  · rw [dg_small a, show n / 10 = 0 by omega, show n % 10 = n by omega]; rfl
  · rw [dg_step a, dg_small (by omega)]; rfl
theorem zfill_is (n : Nat) (k : Nat) (hk : k ≤ 1000) : cs (Txt.zfill (Str.ofString (toString (n : Int))) (k : Int)) = List.replicate (k - (dg n).length) 48 ++ dg n := by
  have hc : cs (Str.ofString (toString (n : Int))) = dg n := by rw [cs_str, txt_nat]
  have hl : (Str.ofString (toString (n : Int))).length = (dg n).length := by rw [← cs_len, hc]
  generalize Str.ofString (toString (n : Int)) = x at *
  unfold Txt.zfill
  split
  · next h => rw [hc, show k - (dg n).length = 0 by omega]; rfl
  · next h =>
    have e0 : x.cps[0]? = (dg n).head? := by
      rw [← Array.getElem?_toList, show x.cps.toList = dg n from hc, List.head?_eq_getElem?]
    have hne := dg_ne n
    obtain ⟨c, r, hcr⟩ : ∃ c r, dg n = c :: r := by
      cases q : dg n with
      | nil => exact absurd q hne
      | cons c r => exact ⟨c, r, rfl⟩
    have hd := dg_dig n c (by rw [hcr]; exact List.mem_cons_self)
    have e1 : zfilled x ((k : Int).toNat - x.length) = Builtin.Str.padded x ((k : Int).toNat - x.length) 0 48 := by
      unfold zfilled
      rw [e0, hcr]
      show (match some c with | some 43 | some 45 => _ | _ => _) = _
      split
      · next z => cases z; omega
      · next z => cases z; omega
      · rfl
    rw [e1, hl]
    show (Array.replicate ((k : Int).toNat - (dg n).length) 48 ++ x.cps ++ Array.replicate 0 48).toList = _
    rw [Array.toList_append, Array.toList_append, Array.toList_replicate, Array.toList_replicate, show x.cps.toList = dg n from hc, List.replicate_zero, List.append_nil, Int.toNat_natCast]
/-- a day's text -/
def dtx (y m e : Nat) : List Nat := pad4 y ++ 45 :: (pad2 m ++ 45 :: pad2 e)
end My

/-! slices of texts by their signs; days' texts -/
namespace My
open PySem PySem.NumText PySem.StrLaws PySem.Builtin PySem.Builtin.Str
theorem clip_ss (a b n : Nat) : strSliceIndices (some (a : Int)) (some (b : Int)) 1 n = strSliceIndices (some ((min a n : Nat) : Int)) (some ((min b n : Nat) : Int)) 1 n := by
  have e1 : ¬ ((a : Int) < 0) := by omega
  have e2 : ¬ ((b : Int) < 0) := by omega
  have e3 : ¬ (((min a n : Nat) : Int) < 0) := by omega
  have e4 : ¬ (((min b n : Nat) : Int) < 0) := by omega
  have h1 : max (0 : Int) (min (a : Int) (n : Int)) = max 0 (min ((min a n : Nat) : Int) n) := by omega
  have h2 : max (0 : Int) (min (b : Int) (n : Int)) = max 0 (min ((min b n : Nat) : Int) n) := by omega
  unfold strSliceIndices
  simp only [e1, e2, e3, e4, if_false, show (1 : Int) > 0 by decide, if_true]
  rw [h1, h2]
theorem sl_ss (z : Str) (a b : Nat) : cs (Txt.slice z (some (a : Int)) (some (b : Int))) = ((cs z).drop a).take (b - a) := by
  have hl := cs_len z
  have e : Txt.slice z (some (a : Int)) (some (b : Int)) = Txt.slice z (some ((min a z.length : Nat) : Int)) (some ((min b z.length : Nat) : Int)) := by
    unfold Txt.slice
    rw [clip_ss]
  rw [e]
  by_cases h : min a z.length ≤ min b z.length
  · show cs (sliceText z _ _) = _
    rw [sliceText_nat z h (Nat.min_le_right ..)]
    show ((z.cps.toList.drop _).take _).toArray.toList = _
    rw [List.toList_toArray]
    show ((cs z).drop _).take _ = _
    by_cases ha : a ≤ z.length
    · rw [Nat.min_eq_left ha]
      by_cases hb : b ≤ z.length
      · rw [Nat.min_eq_left hb]
      · rw [Nat.min_eq_right (by omega), List.take_of_length_le (by rw [List.length_drop]; omega), List.take_of_length_le (by rw [List.length_drop]; omega)]
    · rw [Nat.min_eq_right (by omega), List.drop_of_length_le (by omega), List.drop_of_length_le (by omega), List.take_nil, List.take_nil]
  · have e0 : strSliceIndices (some ((min a z.length : Nat) : Int)) (some ((min b z.length : Nat) : Int)) 1 z.length = [] := by
      apply List.eq_nil_of_length_eq_zero
      unfold strSliceIndices sliceRange
      have e3 : ¬ (((min a z.length : Nat) : Int) < 0) := by omega
      have e4 : ¬ (((min b z.length : Nat) : Int) < 0) := by omega
      simp only [e3, e4, if_false, show (1 : Int) > 0 by decide, if_true, List.length_map, List.length_range]
      rw [if_neg (by omega)]
      rfl
    have hz : (0 == z.length) = false := by
      rw [beq_eq_false_iff_ne]
      omega
    unfold Txt.slice
    rw [e0]
    simp only [List.length_nil, hz, Bool.and_false]
    show [] = _
    symm
    apply List.eq_nil_of_length_eq_zero
    rw [List.length_take, List.length_drop]
    omega
theorem sl_0s (z : Str) (b : Nat) : cs (Txt.slice z none (some (b : Int))) = (cs z).take b := by
  have e : Txt.slice z none (some (b : Int)) = Txt.slice z (some ((0 : Nat) : Int)) (some (b : Int)) := by
    unfold Txt.slice; rw [sliceIdx_none_lo]; rfl
  rw [e, sl_ss, List.drop_zero, Nat.sub_zero]
theorem sl_s0 (z : Str) (a : Nat) : cs (Txt.slice z (some (a : Int)) none) = (cs z).drop a := by
  have e : Txt.slice z (some (a : Int)) none = Txt.slice z (some (a : Int)) (some ((z.length : Nat) : Int)) := by
    unfold Txt.slice; rw [sliceIdx_none_hi]
  have hl := cs_len z
  rw [e, sl_ss, List.take_of_length_le (by rw [List.length_drop]; omega)]
/-- parts between - -/
theorem join_consM (a b : Str) (r : List Str) : cs (Str.join "-" (a :: b :: r)) = cs a ++ 45 :: cs (Str.join "-" (b :: r)) := by
  show cs (a ++ "-" ++ Str.join "-" (b :: r)) = _
  rw [cs_app, cs_app, List.append_assoc]
  rfl
theorem first45 : ∀ {A A' B B' : List Nat}, A ++ 45 :: B = A' ++ 45 :: B' → 45 ∉ A → 45 ∉ A' → A = A' ∧ B = B'
  | [], [], _, _, e, _, _ => ⟨rfl, List.tail_eq_of_cons_eq e⟩
  | [], x :: r, _, _, e, _, h => absurd (by rw [List.head_eq_of_cons_eq e]; exact List.mem_cons_self) h
  | x :: r, [], _, _, e, h, _ => absurd (by rw [← List.head_eq_of_cons_eq e]; exact List.mem_cons_self) h
  | x :: r, y :: s, B, B', e, h, h' => by
    have e1 : x = y := List.head_eq_of_cons_eq e
    have e2 : r ++ 45 :: B = s ++ 45 :: B' := List.tail_eq_of_cons_eq e
    obtain ⟨i1, i2⟩ := first45 e2 (fun z => h (List.mem_cons_of_mem _ z)) (fun z => h' (List.mem_cons_of_mem _ z))
    exact ⟨by rw [e1, i1], i2⟩
theorem no45_app (A B : List Nat) : 45 ∈ A ++ 45 :: B := List.mem_append_right _ List.mem_cons_self
theorem splitM_free (z : Str) : ∀ p ∈ Txt.split z "-", 45 ∉ cs p := by
  have hf := split_free z 45
  rw [← mi_eq] at hf
  exact hf
theorem split3_of {z a b c : Str} (h : Txt.split z "-" = [a, b, c]) : cs z = cs a ++ 45 :: (cs b ++ 45 :: cs c) := by
  have hj := join_split z "-"
  rw [h] at hj
  rw [← hj, join_consM, join_consM]
  rfl
theorem split3_is {z : Str} {A B C : List Nat} (h : cs z = A ++ 45 :: (B ++ 45 :: C)) (hA : 45 ∉ A) (hB : 45 ∉ B) (hC : 45 ∉ C) : ∃ a b c, Txt.split z "-" = [a, b, c] ∧ cs a = A ∧ cs b = B ∧ cs c = C := by
  have hj := join_split z "-"
  have hf := splitM_free z
  have hp := PyProof.Rows.split_pos z "-"
  generalize Txt.split z "-" = ts at *
  match ts, hj, hf, hp with
  | [a], hj, hf, _ =>
    have e : cs z = cs a := congrArg cs hj.symm
    rw [h] at e
    exact absurd (by rw [← e]; exact no45_app _ _) (hf a List.mem_cons_self)
  | [a, b], hj, hf, _ =>
    have e : cs z = cs a ++ 45 :: cs b := by rw [← hj, join_consM]; rfl
    rw [h] at e
    obtain ⟨e1, e2⟩ := first45 e hA (hf a List.mem_cons_self)
    exact absurd (by rw [← e2]; exact no45_app _ _) (hf b (List.mem_cons_of_mem _ List.mem_cons_self))
  | [a, b, c], hj, hf, _ =>
    have e : cs z = cs a ++ 45 :: (cs b ++ 45 :: cs c) := by rw [← hj, join_consM, join_consM]; rfl
    rw [h] at e
    obtain ⟨e1, e2⟩ := first45 e hA (hf a List.mem_cons_self)
    obtain ⟨e3, e4⟩ := first45 e2 hB (hf b (List.mem_cons_of_mem _ List.mem_cons_self))
    exact ⟨a, b, c, rfl, e1.symm, e3.symm, e4.symm⟩
  | a :: b :: c :: d :: r, hj, hf, _ =>
    have e : cs z = cs a ++ 45 :: (cs b ++ 45 :: (cs c ++ 45 :: cs (Str.join "-" (d :: r)))) := by rw [← hj, join_consM, join_consM, join_consM]
    rw [h] at e
    obtain ⟨e1, e2⟩ := first45 e hA (hf a List.mem_cons_self)
    obtain ⟨e3, e4⟩ := first45 e2 hB (hf b (List.mem_cons_of_mem _ List.mem_cons_self))
    exact absurd (by rw [e4]; exact no45_app _ _) hC
/-- figures and their number -/
theorem pad4_dig (n : Nat) (h : n < 10000) : AllDigits (pad4 n) := by
  intro c hc
  unfold pad4 at hc
  simp only [List.mem_cons, List.not_mem_nil, or_false] at hc
  rcases hc with e | e | e | e <;> omega
theorem pad2_dig (n : Nat) (h : n < 100) : AllDigits (pad2 n) := by
  intro c hc
  unfold pad2 at hc
  simp only [List.mem_cons, List.not_mem_nil, or_false] at hc
  rcases hc with e | e <;> omega
theorem dig_no45 {c : List Nat} (h : AllDigits c) : 45 ∉ c := fun z => by have := h 45 z; omega
theorem pad4_val {n : Nat} (h : n < 10000) : digitsVal (pad4 n) = n := by
  show ((((0 * 10 + (48 + n / 1000 - 48)) * 10 + (48 + n / 100 % 10 - 48)) * 10 + (48 + n / 10 % 10 - 48)) * 10 + (48 + n % 10 - 48)) = n
  omega
theorem pad2_val {n : Nat} (h : n < 100) : digitsVal (pad2 n) = n := by
  show ((0 * 10 + (48 + n / 10 - 48)) * 10 + (48 + n % 10 - 48)) = n
  omega
theorem four_is {c : List Nat} (hl : c.length = 4) (h : AllDigits c) : c = pad4 (digitsVal c) ∧ digitsVal c < 10000 := by
  match c, hl with
  | [p, q, r, s], _ =>
    have h1 := h p (by simp)
    have h2 := h q (by simp)
    have h3 := h r (by simp)
    have h4 := h s (by simp)
    have e : digitsVal [p, q, r, s] = ((((0 * 10 + (p - 48)) * 10 + (q - 48)) * 10 + (r - 48)) * 10 + (s - 48)) := rfl
    rw [e]
    refine ⟨?_, by omega⟩
    unfold pad4
    rw [List.cons.injEq, List.cons.injEq, List.cons.injEq, List.cons.injEq]
    exact ⟨by omega, by omega, by omega, by omega, rfl⟩
theorem two_is {c : List Nat} (hl : c.length = 2) (h : AllDigits c) : c = pad2 (digitsVal c) ∧ digitsVal c < 100 := by
  match c, hl with
  | [p, q], _ =>
    have h1 := h p (by simp)
    have h2 := h q (by simp)
    have e : digitsVal [p, q] = ((0 * 10 + (p - 48)) * 10 + (q - 48)) := rfl
    rw [e]
    refine ⟨?_, by omega⟩
    unfold pad2
    rw [List.cons.injEq, List.cons.injEq]
    exact ⟨by omega, by omega, rfl⟩
/-- what a text writes as a day -/
def DueDay (c : List Nat) (y m e : Int) : Prop := Valid y m e ∧ c = dtx y.toNat m.toNat e.toNat
theorem Valid.bd {y m e : Int} (v : Valid y m e) : y.toNat < 10000 ∧ m.toNat < 100 ∧ e.toNat < 100 := by
  have v1 := v.y2
  have v2 := v.m2
  have v3 := v.e2
  have v4 : mlen y m ≤ 31 := (ml_pos (L := leap y) v.m1 v.m2).2
  omega
/-- a text of parts of four, two, two figures -/
theorem due_parts {c A B C : List Nat} (h : c = A ++ 45 :: (B ++ 45 :: C)) (a1 : A.length = 4) (a2 : AllDigits A) (b1 : B.length = 2) (b2 : AllDigits B) (c1 : C.length = 2) (c2 : AllDigits C) :
    (Valid (digitsVal A : Nat) (digitsVal B : Nat) (digitsVal C : Nat) → DueDay c (digitsVal A : Nat) (digitsVal B : Nat) (digitsVal C : Nat)) ∧
    (∀ y m e, DueDay c y m e → y = (digitsVal A : Nat) ∧ m = (digitsVal B : Nat) ∧ e = (digitsVal C : Nat)) := by
  obtain ⟨A1, A2⟩ := four_is a1 a2
  obtain ⟨B1, B2⟩ := two_is b1 b2
  obtain ⟨C1, C2⟩ := two_is c1 c2
  refine ⟨fun v => ⟨v, ?_⟩, fun y m e ⟨v, h'⟩ => ?_⟩
  · rw [Int.toNat_natCast, Int.toNat_natCast, Int.toNat_natCast, h]
    unfold dtx
    rw [← A1, ← B1, ← C1]
  · obtain ⟨w1, w2, w3⟩ := v.bd
    rw [h] at h'
    unfold dtx at h'
    obtain ⟨e1, e2⟩ := first45 h' (dig_no45 a2) (dig_no45 (pad4_dig _ w1))
    obtain ⟨e3, e4⟩ := first45 e2 (dig_no45 b2) (dig_no45 (pad2_dig _ w2))
    have y1 := v.y1
    have m1 := v.m1
    have z1 := v.e1
    rw [e1, e3, e4, pad4_val w1, pad2_val w2, pad2_val w3]
    omega
theorem DueDay.parts {c : List Nat} {y m e : Int} (d : DueDay c y m e) : ∃ A B C, c = A ++ 45 :: (B ++ 45 :: C) ∧ A.length = 4 ∧ AllDigits A ∧ B.length = 2 ∧ AllDigits B ∧ C.length = 2 ∧ AllDigits C ∧ y = (digitsVal A : Nat) ∧ m = (digitsVal B : Nat) ∧ e = (digitsVal C : Nat) := by
  obtain ⟨v, rfl⟩ := d
  obtain ⟨w1, w2, w3⟩ := v.bd
  have y1 := v.y1
  have m1 := v.m1
  have z1 := v.e1
  exact ⟨_, _, _, rfl, rfl, pad4_dig _ w1, rfl, pad2_dig _ w2, rfl, pad2_dig _ w3, by rw [pad4_val w1]; omega, by rw [pad2_val w2]; omega, by rw [pad2_val w3]; omega⟩
theorem DueDay.uniq {c : List Nat} {y m e y' m' e' : Int} (d : DueDay c y m e) (d' : DueDay c y' m' e') : y = y' ∧ m = m' ∧ e = e' := by
  obtain ⟨A, B, C, h, a1, a2, b1, b2, c1, c2, ey, em, ee⟩ := d.parts
  obtain ⟨e1, e2, e3⟩ := (due_parts h a1 a2 b1 b2 c1 c2).2 _ _ _ d'
  rw [ey, em, ee, e1, e2, e3]
  exact ⟨rfl, rfl, rfl⟩
theorem dtx_len (y m e : Nat) : (dtx y m e).length = 10 := rfl
theorem Valid.dbd {y m e : Int} (v : Valid y m e) : 0 ≤ dayOf y m e ∧ dayOf y m e ≤ 3652058 := by
  have r := v.range
  have a : ybeg 1 ≤ ybeg y := ybeg_mono v.y1
  have b : ybeg (y + 1) ≤ ybeg 10000 := ybeg_mono (by have := v.y2; omega)
  have c : ybeg 1 = 0 := by decide
  have d : ybeg 10000 = 3652059 := by decide
  omega
end My

/-! more of the engine: joins, `is not True`, != of bools -/
namespace L2
open PySem PySem.Spec PyProof.Rows
def rNotB : R2 := fun x y H Q => ∃ a b : Bool, x = .bl a ∧ y = .bl b ∧ Q (.bl (a != b)) H
theorem op_notB {X : Cx} : OpR X (compareOp .IsNot) rNotB := by
  intro pins s σ H x y v u Q I rx ry h
  obtain ⟨a, b, rfl, rfl, q⟩ := h
  cases rx
  cases ry
  exact isnot_bool (fin_bl I q rfl)
theorem z_notB {H : Hp} {Q : VK} {a b : Bool} (q : Q (.bl (a != b)) H) : rNotB (.bl a) (.bl b) H Q := ⟨a, b, rfl, rfl, q⟩
theorem z_NeB {H : Hp} {Q : VK} {a b : Bool} (q : Q (.bl (!decide (a = b))) H) : rNe (.bl a) (.bl b) H Q := by
  refine ⟨rfl, ?_⟩
  have e : decide (V.bl a = V.bl b) = decide (a = b) := by cases a <;> cases b <;> rfl
  rw [e]; exact q
/-- what comes behind a statement, by a predicate -/
theorem z_cut {t : TS} {σ : St} {H : Hp} {U bk ct : St → Hp → Prop} {rt : VK} (J : St → Hp → Prop) (h : ∀ U' : St → Hp → Prop, (∀ σ' H', J σ' H' → U' σ' H') → t ⟨U', rt, bk, ct⟩ σ H) (q : ∀ σ' H', J σ' H' → U σ' H') : t ⟨U, rt, bk, ct⟩ σ H := h U q
theorem z_ints {is : List Int} {σ : St} {H : Hp} {S : List V → Hp → Prop} (q : S (is.map V.int) H) : tInts is σ H S := q
end L2

set_option Elab.async false
set_option linter.all false
set_option maxRecDepth 100000
set_option maxHeartbeats 4000000
namespace MyLaw
open PySem L2
def top (i : Nat) : Stmt := PySem.Challenge.pw_markscale_k08_days_written.main.body.getD i (.Pass ⟨0, 0, 0, 0⟩)
abbrev s_is_whole : Stmt := top 4
theorem sc_is_whole : FnScope ["thing"] ["thing"] (defScope s_is_whole) := ⟨rfl, rfl, rfl, by decide +kernel, rfl, by decide +kernel, by decide +kernel⟩
abbrev s_are_digits : Stmt := top 7
theorem sc_are_digits : FnScope ["text"] ["text"] (defScope s_are_digits) := ⟨rfl, rfl, rfl, by decide +kernel, rfl, by decide +kernel, by decide +kernel⟩
abbrev s_is_leap : Stmt := top 15
theorem sc_is_leap : FnScope ["year"] ["year"] (defScope s_is_leap) := ⟨rfl, rfl, rfl, by decide +kernel, rfl, by decide +kernel, by decide +kernel⟩
abbrev s_month_length : Stmt := top 16
theorem sc_month_length : FnScope ["year", "month"] ["year", "month"] (defScope s_month_length) := ⟨rfl, rfl, rfl, by decide +kernel, rfl, by decide +kernel, by decide +kernel⟩
abbrev s_year_begin : Stmt := top 17
theorem sc_year_begin : FnScope ["year", "ahead"] ["year"] (defScope s_year_begin) := ⟨rfl, rfl, rfl, by decide +kernel, rfl, by decide +kernel, by decide +kernel⟩
abbrev s_is_day : Stmt := top 18
theorem sc_is_day : FnScope ["thing"] ["thing"] (defScope s_is_day) := ⟨rfl, rfl, rfl, by decide +kernel, rfl, by decide +kernel, by decide +kernel⟩
abbrev s_is_told_day : Stmt := top 19
theorem sc_is_told_day : FnScope ["thing"] ["thing"] (defScope s_is_told_day) := ⟨rfl, rfl, rfl, by decide +kernel, rfl, by decide +kernel, by decide +kernel⟩
abbrev s_day_of : Stmt := top 20
theorem sc_day_of : FnScope ["year", "month", "day", "ahead"] ["year", "month", "day"] (defScope s_day_of) := ⟨rfl, rfl, rfl, by decide +kernel, rfl, by decide +kernel, by decide +kernel⟩
abbrev s_year_of : Stmt := top 21
theorem sc_year_of : FnScope ["day", "year"] ["day"] (defScope s_year_of) := ⟨rfl, rfl, rfl, by decide +kernel, rfl, by decide +kernel, by decide +kernel⟩
abbrev s_parts_of : Stmt := top 22
theorem sc_parts_of : FnScope ["day", "year", "month", "left"] ["day"] (defScope s_parts_of) := ⟨rfl, rfl, rfl, by decide +kernel, rfl, by decide +kernel, by decide +kernel⟩
abbrev s_show_day : Stmt := top 23
theorem sc_show_day : FnScope ["day", "parts"] ["day"] (defScope s_show_day) := ⟨rfl, rfl, rfl, by decide +kernel, rfl, by decide +kernel, by decide +kernel⟩
abbrev s_read_day : Stmt := top 24
theorem sc_read_day : FnScope ["text", "parts"] ["text"] (defScope s_read_day) := ⟨rfl, rfl, rfl, by decide +kernel, rfl, by decide +kernel, by decide +kernel⟩
abbrev s_month_of : Stmt := top 25
theorem sc_month_of : FnScope ["day", "parts"] ["day"] (defScope s_month_of) := ⟨rfl, rfl, rfl, by decide +kernel, rfl, by decide +kernel, by decide +kernel⟩
abbrev s_month_begin : Stmt := top 26
theorem sc_month_begin : FnScope ["month"] ["month"] (defScope s_month_begin) := ⟨rfl, rfl, rfl, by decide +kernel, rfl, by decide +kernel, by decide +kernel⟩
abbrev s_l_whole : Stmt := top 28
theorem sc_l_whole : FnScope ["_law_thing"] ["_law_thing"] (defScope s_l_whole) := ⟨rfl, rfl, rfl, by decide +kernel, rfl, by decide +kernel, by decide +kernel⟩
abbrev s_l_cell_at : Stmt := top 29
theorem sc_l_cell_at : FnScope ["_law_script", "_law_k"] ["_law_script", "_law_k"] (defScope s_l_cell_at) := ⟨rfl, rfl, rfl, by decide +kernel, rfl, by decide +kernel, by decide +kernel⟩
abbrev s_l_mixed : Stmt := top 30
theorem sc_l_mixed : FnScope ["_law_cell"] ["_law_cell"] (defScope s_l_mixed) := ⟨rfl, rfl, rfl, by decide +kernel, rfl, by decide +kernel, by decide +kernel⟩
abbrev s_l_leap : Stmt := top 31
theorem sc_l_leap : FnScope ["_law_year"] ["_law_year"] (defScope s_l_leap) := ⟨rfl, rfl, rfl, by decide +kernel, rfl, by decide +kernel, by decide +kernel⟩
abbrev s_l_long : Stmt := top 32
theorem sc_l_long : FnScope ["_law_year", "_law_month"] ["_law_year", "_law_month"] (defScope s_l_long) := ⟨rfl, rfl, rfl, by decide +kernel, rfl, by decide +kernel, by decide +kernel⟩
abbrev s_l_count : Stmt := top 33
theorem sc_l_count : FnScope ["_law_year", "_law_month", "_law_day", "_law_gone", "_law_found"] ["_law_year", "_law_month", "_law_day"] (defScope s_l_count) := ⟨rfl, rfl, rfl, by decide +kernel, rfl, by decide +kernel, by decide +kernel⟩
abbrev s_l_parts : Stmt := top 34
theorem sc_l_parts : FnScope ["_law_one", "_law_other", "_law_year", "_law_month", "_law_day"] ["_law_one", "_law_other"] (defScope s_l_parts) := ⟨rfl, rfl, rfl, by decide +kernel, rfl, by decide +kernel, by decide +kernel⟩
abbrev s_l_bent : Stmt := top 35
theorem sc_l_bent : FnScope ["_law_text", "_law_cell", "_law_sign", "_law_at"] ["_law_text", "_law_cell"] (defScope s_l_bent) := ⟨rfl, rfl, rfl, by decide +kernel, rfl, by decide +kernel, by decide +kernel⟩
abbrev s_l_due : Stmt := top 36
theorem sc_l_due : FnScope ["_law_text", "_law_sign", "_law_year", "_law_month", "_law_day"] ["_law_text"] (defScope s_l_due) := ⟨rfl, rfl, rfl, by decide +kernel, rfl, by decide +kernel, by decide +kernel⟩
abbrev s_l_read : Stmt := top 37
theorem sc_l_read : FnScope ["_law_text", "_law_due_here", "_law_found", "_law_refused"] ["_law_text", "_law_due_here"] (defScope s_l_read) := ⟨rfl, rfl, rfl, by decide +kernel, rfl, by decide +kernel, by decide +kernel⟩
abbrev s_l_months : Stmt := top 38
theorem sc_l_months : FnScope ["_law_parts_here", "_law_day", "_law_month", "_law_begin"] ["_law_parts_here", "_law_day"] (defScope s_l_months) := ⟨rfl, rfl, rfl, by decide +kernel, rfl, by decide +kernel, by decide +kernel⟩
abbrev s_l_no_day : Stmt := top 39
theorem sc_l_no_day : FnScope ["_law_cell", "_law_far", "_law_thing"] ["_law_cell"] (defScope s_l_no_day) := ⟨rfl, rfl, rfl, by decide +kernel, rfl, by decide +kernel, by decide +kernel⟩
abbrev s_law : Stmt := top 40
theorem sc_law : FnScope ["_law_script", "_law_cells", "_law_k", "_law_one", "_law_other", "_law_parts_here", "_law_day", "_law_due_here", "_law_found", "_law_bent_here", "_law_told", "_law_among"] ["_law_script"] (defScope s_law) := ⟨rfl, rfl, rfl, by decide +kernel, rfl, by decide +kernel, by decide +kernel⟩
structure Adr where
  (f_is_whole : Addr) (d_is_whole : FuncData)
  (f_are_digits : Addr) (d_are_digits : FuncData)
  (f_is_leap : Addr) (d_is_leap : FuncData)
  (f_month_length : Addr) (d_month_length : FuncData)
  (f_year_begin : Addr) (d_year_begin : FuncData)
  (f_is_day : Addr) (d_is_day : FuncData)
  (f_is_told_day : Addr) (d_is_told_day : FuncData)
  (f_day_of : Addr) (d_day_of : FuncData)
  (f_year_of : Addr) (d_year_of : FuncData)
  (f_parts_of : Addr) (d_parts_of : FuncData)
  (f_show_day : Addr) (d_show_day : FuncData)
  (f_read_day : Addr) (d_read_day : FuncData)
  (f_month_of : Addr) (d_month_of : FuncData)
  (f_month_begin : Addr) (d_month_begin : FuncData)
  (f_l_whole : Addr) (d_l_whole : FuncData)
  (f_l_cell_at : Addr) (d_l_cell_at : FuncData)
  (f_l_mixed : Addr) (d_l_mixed : FuncData)
  (f_l_leap : Addr) (d_l_leap : FuncData)
  (f_l_long : Addr) (d_l_long : FuncData)
  (f_l_count : Addr) (d_l_count : FuncData)
  (f_l_parts : Addr) (d_l_parts : FuncData)
  (f_l_bent : Addr) (d_l_bent : FuncData)
  (f_l_due : Addr) (d_l_due : FuncData)
  (f_l_read : Addr) (d_l_read : FuncData)
  (f_l_months : Addr) (d_l_months : FuncData)
  (f_l_no_day : Addr) (d_l_no_day : FuncData)
  (f_law : Addr) (d_law : FuncData)
  (c_NoDay : Addr)
  (g_DIGITS : Tok)
  (g_LAST_DAY : Tok)
  (g_LAST_YEAR : Tok)
  (g_FIRST_TOLD_YEAR : Tok)
  (g_LAST_TOLD_YEAR : Tok)
  (g_DAYS_OF_400_YEARS : Tok)
  (g_MONTH_LENGTHS : Addr)
structure Txt (K : PySem.W.Frag) (mg : Str → Option Value) (t : Adr) : Prop where
  F_is_whole : Fun K "is_whole" "is_whole" s_is_whole t.f_is_whole t.d_is_whole
  m_is_whole : mg "is_whole" = some (.ref t.f_is_whole)
  k_is_whole : PySem.W.keepIn K (.ref t.f_is_whole) = true
  b_is_whole : Binds K t.d_is_whole ["thing"] []
  F_are_digits : Fun K "are_digits" "are_digits" s_are_digits t.f_are_digits t.d_are_digits
  m_are_digits : mg "are_digits" = some (.ref t.f_are_digits)
  k_are_digits : PySem.W.keepIn K (.ref t.f_are_digits) = true
  b_are_digits : Binds K t.d_are_digits ["text"] []
  F_is_leap : Fun K "is_leap" "is_leap" s_is_leap t.f_is_leap t.d_is_leap
  m_is_leap : mg "is_leap" = some (.ref t.f_is_leap)
  k_is_leap : PySem.W.keepIn K (.ref t.f_is_leap) = true
  b_is_leap : Binds K t.d_is_leap ["year"] []
  F_month_length : Fun K "month_length" "month_length" s_month_length t.f_month_length t.d_month_length
  m_month_length : mg "month_length" = some (.ref t.f_month_length)
  k_month_length : PySem.W.keepIn K (.ref t.f_month_length) = true
  b_month_length : Binds K t.d_month_length ["year", "month"] []
  F_year_begin : Fun K "year_begin" "year_begin" s_year_begin t.f_year_begin t.d_year_begin
  m_year_begin : mg "year_begin" = some (.ref t.f_year_begin)
  k_year_begin : PySem.W.keepIn K (.ref t.f_year_begin) = true
  b_year_begin : Binds K t.d_year_begin ["year"] []
  F_is_day : Fun K "is_day" "is_day" s_is_day t.f_is_day t.d_is_day
  m_is_day : mg "is_day" = some (.ref t.f_is_day)
  k_is_day : PySem.W.keepIn K (.ref t.f_is_day) = true
  b_is_day : Binds K t.d_is_day ["thing"] []
  F_is_told_day : Fun K "is_told_day" "is_told_day" s_is_told_day t.f_is_told_day t.d_is_told_day
  m_is_told_day : mg "is_told_day" = some (.ref t.f_is_told_day)
  k_is_told_day : PySem.W.keepIn K (.ref t.f_is_told_day) = true
  b_is_told_day : Binds K t.d_is_told_day ["thing"] []
  F_day_of : Fun K "day_of" "day_of" s_day_of t.f_day_of t.d_day_of
  m_day_of : mg "day_of" = some (.ref t.f_day_of)
  k_day_of : PySem.W.keepIn K (.ref t.f_day_of) = true
  b_day_of : Binds K t.d_day_of ["year", "month", "day"] []
  F_year_of : Fun K "year_of" "year_of" s_year_of t.f_year_of t.d_year_of
  m_year_of : mg "year_of" = some (.ref t.f_year_of)
  k_year_of : PySem.W.keepIn K (.ref t.f_year_of) = true
  b_year_of : Binds K t.d_year_of ["day"] []
  F_parts_of : Fun K "parts_of" "parts_of" s_parts_of t.f_parts_of t.d_parts_of
  m_parts_of : mg "parts_of" = some (.ref t.f_parts_of)
  k_parts_of : PySem.W.keepIn K (.ref t.f_parts_of) = true
  b_parts_of : Binds K t.d_parts_of ["day"] []
  F_show_day : Fun K "show_day" "show_day" s_show_day t.f_show_day t.d_show_day
  m_show_day : mg "show_day" = some (.ref t.f_show_day)
  k_show_day : PySem.W.keepIn K (.ref t.f_show_day) = true
  b_show_day : Binds K t.d_show_day ["day"] []
  F_read_day : Fun K "read_day" "read_day" s_read_day t.f_read_day t.d_read_day
  m_read_day : mg "read_day" = some (.ref t.f_read_day)
  k_read_day : PySem.W.keepIn K (.ref t.f_read_day) = true
  b_read_day : Binds K t.d_read_day ["text"] []
  F_month_of : Fun K "month_of" "month_of" s_month_of t.f_month_of t.d_month_of
  m_month_of : mg "month_of" = some (.ref t.f_month_of)
  k_month_of : PySem.W.keepIn K (.ref t.f_month_of) = true
  b_month_of : Binds K t.d_month_of ["day"] []
  F_month_begin : Fun K "month_begin" "month_begin" s_month_begin t.f_month_begin t.d_month_begin
  m_month_begin : mg "month_begin" = some (.ref t.f_month_begin)
  k_month_begin : PySem.W.keepIn K (.ref t.f_month_begin) = true
  b_month_begin : Binds K t.d_month_begin ["month"] []
  F_l_whole : Fun K "_law_whole" "_law_whole" s_l_whole t.f_l_whole t.d_l_whole
  m_l_whole : mg "_law_whole" = some (.ref t.f_l_whole)
  k_l_whole : PySem.W.keepIn K (.ref t.f_l_whole) = true
  b_l_whole : Binds K t.d_l_whole ["_law_thing"] []
  F_l_cell_at : Fun K "_law_cell_at" "_law_cell_at" s_l_cell_at t.f_l_cell_at t.d_l_cell_at
  m_l_cell_at : mg "_law_cell_at" = some (.ref t.f_l_cell_at)
  k_l_cell_at : PySem.W.keepIn K (.ref t.f_l_cell_at) = true
  b_l_cell_at : Binds K t.d_l_cell_at ["_law_script", "_law_k"] []
  F_l_mixed : Fun K "_law_mixed" "_law_mixed" s_l_mixed t.f_l_mixed t.d_l_mixed
  m_l_mixed : mg "_law_mixed" = some (.ref t.f_l_mixed)
  k_l_mixed : PySem.W.keepIn K (.ref t.f_l_mixed) = true
  b_l_mixed : Binds K t.d_l_mixed ["_law_cell"] []
  F_l_leap : Fun K "_law_leap" "_law_leap" s_l_leap t.f_l_leap t.d_l_leap
  m_l_leap : mg "_law_leap" = some (.ref t.f_l_leap)
  k_l_leap : PySem.W.keepIn K (.ref t.f_l_leap) = true
  b_l_leap : Binds K t.d_l_leap ["_law_year"] []
  F_l_long : Fun K "_law_long" "_law_long" s_l_long t.f_l_long t.d_l_long
  m_l_long : mg "_law_long" = some (.ref t.f_l_long)
  k_l_long : PySem.W.keepIn K (.ref t.f_l_long) = true
  b_l_long : Binds K t.d_l_long ["_law_year", "_law_month"] []
  F_l_count : Fun K "_law_count" "_law_count" s_l_count t.f_l_count t.d_l_count
  m_l_count : mg "_law_count" = some (.ref t.f_l_count)
  k_l_count : PySem.W.keepIn K (.ref t.f_l_count) = true
  b_l_count : Binds K t.d_l_count ["_law_year", "_law_month", "_law_day"] []
  F_l_parts : Fun K "_law_parts" "_law_parts" s_l_parts t.f_l_parts t.d_l_parts
  m_l_parts : mg "_law_parts" = some (.ref t.f_l_parts)
  k_l_parts : PySem.W.keepIn K (.ref t.f_l_parts) = true
  b_l_parts : Binds K t.d_l_parts ["_law_one", "_law_other"] []
  F_l_bent : Fun K "_law_bent" "_law_bent" s_l_bent t.f_l_bent t.d_l_bent
  m_l_bent : mg "_law_bent" = some (.ref t.f_l_bent)
  k_l_bent : PySem.W.keepIn K (.ref t.f_l_bent) = true
  b_l_bent : Binds K t.d_l_bent ["_law_text", "_law_cell"] []
  F_l_due : Fun K "_law_due" "_law_due" s_l_due t.f_l_due t.d_l_due
  m_l_due : mg "_law_due" = some (.ref t.f_l_due)
  k_l_due : PySem.W.keepIn K (.ref t.f_l_due) = true
  b_l_due : Binds K t.d_l_due ["_law_text"] []
  F_l_read : Fun K "_law_read" "_law_read" s_l_read t.f_l_read t.d_l_read
  m_l_read : mg "_law_read" = some (.ref t.f_l_read)
  k_l_read : PySem.W.keepIn K (.ref t.f_l_read) = true
  b_l_read : Binds K t.d_l_read ["_law_text", "_law_due_here"] []
  F_l_months : Fun K "_law_months" "_law_months" s_l_months t.f_l_months t.d_l_months
  m_l_months : mg "_law_months" = some (.ref t.f_l_months)
  k_l_months : PySem.W.keepIn K (.ref t.f_l_months) = true
  b_l_months : Binds K t.d_l_months ["_law_parts_here", "_law_day"] []
  F_l_no_day : Fun K "_law_no_day" "_law_no_day" s_l_no_day t.f_l_no_day t.d_l_no_day
  m_l_no_day : mg "_law_no_day" = some (.ref t.f_l_no_day)
  k_l_no_day : PySem.W.keepIn K (.ref t.f_l_no_day) = true
  b_l_no_day : Binds K t.d_l_no_day ["_law_cell"] []
  F_law : Fun K "law" "law" s_law t.f_law t.d_law
  m_law : mg "law" = some (.ref t.f_law)
  k_law : PySem.W.keepIn K (.ref t.f_law) = true
  b_law : Binds K t.d_law ["_law_script"] []
  m_NoDay : mg "NoDay" = some (.ref t.c_NoDay)
  n_NoDay : PySem.W.nsIn K mainGlobals "NoDay" = some (some (.ref t.c_NoDay))
  x_NoDay : PySem.W.excIn K t.c_NoDay bmVE "ValueError.__new__" = true
  e_NoDay : PySem.W.exmOne K (.ref t.c_NoDay) (.ref t.c_NoDay) = some true
  g_DIGITS : mg "DIGITS" = some (.str "0123456789" t.g_DIGITS)
  g_LAST_DAY : mg "LAST_DAY" = some (.int 3652058 t.g_LAST_DAY)
  g_LAST_YEAR : mg "LAST_YEAR" = some (.int 9999 t.g_LAST_YEAR)
  g_FIRST_TOLD_YEAR : mg "FIRST_TOLD_YEAR" = some (.int 1000 t.g_FIRST_TOLD_YEAR)
  g_LAST_TOLD_YEAR : mg "LAST_TOLD_YEAR" = some (.int 8999 t.g_LAST_TOLD_YEAR)
  g_DAYS_OF_400_YEARS : mg "DAYS_OF_400_YEARS" = some (.int 146097 t.g_DAYS_OF_400_YEARS)
  g_MONTH_LENGTHS : mg "MONTH_LENGTHS" = some (.ref t.g_MONTH_LENGTHS)
  v_MONTH_LENGTHS : ∀ H, SqT K H t.g_MONTH_LENGTHS (([31, 28, 31, 30, 31, 30, 31, 31, 30, 31, 30, 31] : List Int).map V.int)
  z_isinstance : mg "isinstance" = none
  z_int : mg "int" = none
  z_bool : mg "bool" = none
  z_str : mg "str" = none
  z_len : mg "len" = none
  z_range : mg "range" = none
  z_sum : mg "sum" = none
  z_all : mg "all" = none
theorem at0 {α : Type} (x y : α) : atI [x, y] 0 = some x := rfl
theorem at1 {α : Type} (x y : α) : atI [x, y] 1 = some y := rfl
theorem iteBT {b : Bool} {A B : Prop} (hb : b = true) (h : A) : if b = true then A else B := by
  rw [if_pos hb]; exact h
theorem iteDF {c A B : Prop} [Decidable c] (hc : ¬ c) (h : B) : if decide c = true then A else B := by
  rw [decide_eq_false hc]; exact iteF h
theorem iteDT {c A B : Prop} [Decidable c] (hc : c) (h : A) : if decide c = true then A else B := by
  rw [decide_eq_true hc]; exact iteT h
theorem mid2 : Mid 2 := by unfold Mid My.Bd; decide
theorem mid1 : Mid 1 := by unfold Mid My.Bd; decide
theorem small3 {a b c : Int} (ha : 0 ≤ a) (ha' : a ≤ 1000000) (hb : 0 ≤ b) (hb' : b ≤ 1000000) (hc : 0 < c) (hc' : c ≤ 1000000) : Builtin.Range.small a b c = true := by
  have h0 := rng_nonneg (i := a) (j := b) hc
  have h1 : Builtin.Range.rangeSize a b c ≤ 1000001 := by
    unfold Builtin.Range.rangeSize
    rw [if_pos hc]
    by_cases h : a < b
    · rw [if_pos h]
      have := Int.ediv_le_self c (show 0 ≤ b - a - 1 by omega)
      omega
    · rw [if_neg h]; omega
  unfold Builtin.Range.small
  generalize Builtin.Range.rangeSize a b c = n at *
  have hc2 : c > 0 := hc
  simp only [Builtin.Range.rangeFitsLong, Bool.and_eq_true, Bool.or_eq_true, decide_eq_true_eq, beq_iff_eq, if_pos hc2]
  omega
theorem iteNF {c A B : Prop} [Decidable c] (hc : ¬ c) (h : A) : if (!decide c) = true then A else B := by
  rw [decide_eq_false hc]; exact iteT h
theorem midB {n : Int} (h1 : 0 ≤ n) (h2 : n < 1152921504606846976) : Mid n := (show My.Bd 60 n by unfold My.Bd; omega).mono (by decide)
def cellAt (ns : List Int) (k : Int) : Int := ns.getD k.toNat 0

def sp_whole (K : PySem.W.Frag) : Sp := fun vs H Q _ => ∃ x g, vs = [x] ∧ tgIs K H x g ∧ Q (.bl (match g with | .int => true | _ => false)) H
def sp_cell (K : PySem.W.Frag) : Sp := fun vs H Q _ => ∃ (a : Addr) (ns : List Int) (k : Int), vs = [.ref a, .int k] ∧ SqL K H a (ns.map V.int) ∧ 0 ≤ k ∧ Q (.int (cellAt ns k)) H
def sp_div : Sp := fun vs H Q _ => ∃ a b : Int, vs = [.int a, .int b] ∧ 0 ≤ b ∧ Q (.int ((Int.gcd a b : Nat) : Int)) H
def sp_law (K : PySem.W.Frag) : Sp := fun vs H Q _ => ∃ (a : Addr) (ns : List Int), vs = [.ref a] ∧ SqL K H a (ns.map V.int) ∧ ns.length ≤ 63 ∧ (∀ x ∈ ns, My.Bd 1048576 x) ∧ ∀ H', Q (.bl true) H'

def sp_gcd : Sp := fun vs H Q _ => ∃ a b : Int, vs = [.int a, .int b] ∧ Q (.int ((Int.gcd a b : Nat) : Int)) H
structure Pr (K : PySem.W.Frag) (H : Hp) (p : Addr) (a b : Int) (n : Nat) : Prop where
  s : SqT K H p [.int a, .int b]
  pos : 0 < b
  ba : My.Bd n a
  bb : My.Bd n b
theorem Pr.ne {K : PySem.W.Frag} {H : Hp} {p : Addr} {a b : Int} {n : Nat} (h : Pr K H p a b n) : b ≠ 0 := Int.ne_of_gt h.pos
theorem Pr.keep {K : PySem.W.Frag} {H H' : Hp} {p : Addr} {a b : Int} {n : Nat} (h : Pr K H p a b n) (e : Same H H') : Pr K H' p a b n := ⟨e.tup h.s, h.pos, h.ba, h.bb⟩
theorem Pr.up {K : PySem.W.Frag} {H : Hp} {p : Addr} {a b : Int} {n m : Nat} (h : Pr K H p a b n) (e : n ≤ m) : Pr K H p a b m := ⟨h.s, h.pos, h.ba.mono e, h.bb.mono e⟩
/-- a new number of that value -/
def NewQ (K : PySem.W.Frag) (H : Hp) (Q : VK) (n : Nat) (v : Rat) : Prop := ∀ (p : Addr) (H' : Hp) (x y : Int), Same H H' → Pr K H' p x y n → Int.gcd x y = 1 → My.qv x y = v → Q (.ref p) H'
def sp_number (K : PySem.W.Frag) : Sp := fun vs H Q _ => ∃ (t m : Int) (n : Nat), vs = [.int t, .int m] ∧ My.Bd n t ∧ My.Bd n m ∧ n ≤ 3900 ∧ m ≠ 0 ∧ NewQ K H Q n (My.qv t m)
def sp_two (K : PySem.W.Frag) (f : Rat → Rat → Rat) (ok : Int → Prop) : Sp := fun vs H Q _ => ∃ (p r : Addr) (a b c d : Int) (n1 n2 : Nat), vs = [.ref p, .ref r] ∧ Pr K H p a b n1 ∧ Pr K H r c d n2 ∧ n1 + n2 + 1 ≤ 3900 ∧ ok c ∧ NewQ K H Q (n1 + n2 + 1) (f (My.qv a b) (My.qv c d))
def sp_cmp (K : PySem.W.Frag) (f : Int → Int → Int → Int → V) : Sp := fun vs H Q _ => ∃ (p r : Addr) (a b c d : Int) (n1 n2 : Nat), vs = [.ref p, .ref r] ∧ Pr K H p a b n1 ∧ Pr K H r c d n2 ∧ n1 + n2 ≤ 3900 ∧ Q (f a b c d) H
section
variable {P : Program} {w : World} {K : PySem.W.Frag} {mg : Str → Option Value} {base : Heap} {t : Adr}
theorem ok_is_whole (T : Txt K mg t) : FnOk P w K mg base CX0 1 t.f_is_whole t.d_is_whole ["thing"] (sp_whole K) := by
  refine T.F_is_whole.ok sc_is_whole (fun vs H Q E h => ?_) (fun cdv A outer s H vs Q E hr h => ?_)
  · obtain ⟨x, g, rfl, _⟩ := h
    rfl
  obtain ⟨x, g, rfl, hg, q⟩ := h
  refine ⟨_, (pss_one (ps_ret (pe_and (pe_isi isi_int rfl rfl T.z_isinstance T.z_int bt_int (pv 0)) (pe_one (pe_not (pe_isi isi_bool rfl rfl T.z_isinstance T.z_bool bt_bool (pv 0))))))), ?_⟩
  refine ⟨_, rfl, _, g, rfl, hg, _, rfl, ?_⟩
  cases g with
  | int => exact iteT ⟨_, rfl, _, .int, rfl, hg, _, rfl, q⟩
  | bl => exact iteT ⟨_, rfl, _, .bl, rfl, hg, _, rfl, q⟩
  | non => exact iteF q
  | str => exact iteF q
  | tup => exact iteF q
  | lst => exact iteF q
theorem ok_l_cell_at (T : Txt K mg t) : FnOk P w K mg base CX0 1 t.f_l_cell_at t.d_l_cell_at ["_law_script", "_law_k"] (sp_cell K) := by
  refine T.F_l_cell_at.ok sc_l_cell_at (fun vs H Q E h => ?_) (fun cdv A outer s H vs Q E hr h => ?_)
  · obtain ⟨a, ns, k, rfl, _⟩ := h
    rfl
  obtain ⟨a, ns, k, rfl, hS, h0, q⟩ := h
  refine ⟨_, (pss_cons (ps_if (pt_cmpR op_lt (pv 1) (pe_callB call_len_seq rfl T.z_len PySem.boot_len (pa_cons (pv 0) pa_nil)) (nomark _)) (pss_one (ps_ret (pe_ix ix_list (pv 0) (pv 1) (fun _ _ => rfl)))) pss_nil)
  (pss_one (ps_ret pe_int))), ?_⟩
  have hl : (ns.map V.int).length = ns.length := List.length_map _
  refine ⟨_, rfl, _, rfl, a, _, rfl, .inl hS, _, _, rfl, rfl, _, rfl, ?_⟩
  refine ite2 (fun c => ?_) (fun c => ?_)
  · have c' : k < (((ns.map V.int).length : Nat) : Int) := of_decide_eq_true c
    rw [hl] at c'
    have hk : k.toNat < ns.length := by omega
    have hv : atI (ns.map V.int) k = some (.int (cellAt ns k)) := by
      have ek : k = ((k.toNat : Nat) : Int) := by omega
      have q : atI (ns.map V.int) ((k.toNat : Nat) : Int) = some (.int (cellAt ns k)) := atI_nat (by
        rw [List.getElem?_map, List.getElem?_eq_getElem hk]
        unfold cellAt
        rw [List.getD_eq_getElem?_getD, List.getElem?_eq_getElem hk] <;> rfl)
      rw [← ek] at q
      exact q
    exact ⟨_, rfl, _, rfl, _, _, _, _, rfl, rfl, hS, hv, q⟩
  · have c' : ¬ k < (((ns.map V.int).length : Nat) : Int) := of_decide_eq_false (Bool.eq_false_iff.mpr c)
    rw [hl] at c'
    have e : cellAt ns k = 0 := by
      unfold cellAt
      rw [List.getD_eq_getElem?_getD, List.getElem?_eq_none (by omega)] <;> rfl
    rw [e] at q
    exact q
theorem gcd_abs (a b : Int) : Int.gcd (if a < 0 then -a else a) (if b < 0 then -b else b) = Int.gcd a b := by
  rw [My.natAbs_abs, My.natAbs_abs]
  rfl
theorem prod_ne {b d : Int} (hb : 0 < b) (hd : 0 < d) : b * d ≠ 0 := Int.ne_of_gt (Int.mul_pos hb hd)
end
theorem Pr.kp {K : PySem.W.Frag} {H H' : Hp} {p : Addr} {a b : Int} {n : Nat} (e : Same H H') (h : Pr K H p a b n) : Pr K H' p a b n := h.keep e
section
variable {K : PySem.W.Frag} {H : Hp} {Q : VK} {E : XK} {p r : Addr} {a b c d t m : Int} {n1 n2 : Nat} {f : Rat → Rat → Rat} {ok : Int → Prop} {F : Int → Int → Int → Int → V}
theorem a_number (h1 : My.Bd n1 t) (h2 : My.Bd n2 m) (h3 : max n1 n2 ≤ 3900) (h4 : m ≠ 0) (q : ∀ p H' x y, Same H H' → Pr K H' p x y (max n1 n2) → Int.gcd x y = 1 → My.qv x y = My.qv t m → Q (.ref p) H') : sp_number K [.int t, .int m] H Q E :=
  ⟨t, m, max n1 n2, rfl, h1.mono (by omega), h2.mono (by omega), h3, h4, q⟩
theorem a_numberD (h1 : My.Bd n1 t) (h2 : My.Bd n2 m) (h3 : max n1 n2 ≤ 3900) (h4 : m ≠ 0) (q : ∀ p H' x y, Same H H' → Pr K H' p x y (max n1 n2) → Int.gcd x y = 1 → My.qv x y = My.qv t m → Q (.ref p) H') : sp_number K ([.int t] ++ [.int m]) H Q E := a_number h1 h2 h3 h4 q
theorem a_two (h1 : Pr K H p a b n1) (h2 : Pr K H r c d n2) (h3 : n1 + n2 + 1 ≤ 3900) (h4 : ok c) (q : ∀ p' H' x y, Same H H' → Pr K H' p' x y (n1 + n2 + 1) → Int.gcd x y = 1 → My.qv x y = f (My.qv a b) (My.qv c d) → Q (.ref p') H') : sp_two K f ok [.ref p, .ref r] H Q E :=
  ⟨p, r, a, b, c, d, n1, n2, rfl, h1, h2, h3, h4, q⟩
theorem a_cmp (h1 : Pr K H p a b n1) (h2 : Pr K H r c d n2) (h3 : n1 + n2 ≤ 3900) (q : Q (F a b c d) H) : sp_cmp K F [.ref p, .ref r] H Q E := ⟨p, r, a, b, c, d, n1, n2, rfl, h1, h2, h3, q⟩
end
theorem a_cell {K : PySem.W.Frag} {H : Hp} {Q : VK} {E : XK} {a : Addr} {ns : List Int} {k : Int} (hs : SqL K H a (ns.map V.int)) (h0 : 0 ≤ k) (q : Q (.int (cellAt ns k)) H) : sp_cell K [.ref a, .int k] H Q E := ⟨a, ns, k, rfl, hs, h0, q⟩
local macro_rules | `(tactic| walk_at "get") => `(tactic| repeat (first | exact GetTo.here | apply GetTo.next))
local macro_rules | `(tactic| walk_at "set") => `(tactic| repeat (first | exact SetTo.here | apply SetTo.next))
local macro_rules | `(tactic| walk_at "tp") => `(tactic| first | assumption | exact SqT.of (by assumption) | ((apply Same.tup); (focus assumption); (walk_at "tp")) | ((apply But.tup); (focus assumption); (focus assumption); (walk_at "tp")))
local macro_rules | `(tactic| walk_at "lq") => `(tactic| first | assumption | exact SqL.of (by assumption) | ((apply Same.seq); (focus assumption); (walk_at "lq")) | ((apply But.seq); (focus assumption); (focus assumption); (walk_at "lq")))
local macro_rules | `(tactic| walk_at "hl") => `(tactic| first | assumption | exact (show Same _ _ by assumption) _ _ (by walk_at "hl") | exact (show But _ _ _ by assumption) _ _ (by assumption) (by walk_at "hl"))
local macro_rules | `(tactic| walk_at "sm") => `(tactic| first | assumption | exact Same.refl _ | ((apply sm2); (focus assumption); (walk_at "sm")))
local macro_rules | `(tactic| walk_at "isi") => `(tactic| ((with_reducible refine z_isi0 ?_); first | (with_reducible refine z_isI_int ?_) | (with_reducible refine z_isB_int ?_) | (with_reducible refine z_isS_int ?_) | (with_reducible refine z_isN_int ?_) | (with_reducible refine z_isI_bool ?_) | (with_reducible refine z_isB_bool ?_) | (with_reducible refine z_isS_bool ?_) | (with_reducible refine z_isN_bool ?_) | (with_reducible refine z_isI_str ?_) | (with_reducible refine z_isB_str ?_) | (with_reducible refine z_isS_str ?_) | (with_reducible refine z_isN_str ?_) | (with_reducible refine z_isI_tuple ?_) | (with_reducible refine z_isB_tuple ?_) | (with_reducible refine z_isS_tuple ?_) | (with_reducible refine z_isN_tuple ?_) | (with_reducible refine z_isI_list ?_) | (with_reducible refine z_isB_list ?_) | (with_reducible refine z_isS_list ?_) | (with_reducible refine z_isN_list ?_) | ((with_reducible apply z_isT_int); (focus (walk_at "tp"))) | ((with_reducible apply z_isL_int); (focus (walk_at "lq"))) | ((with_reducible apply z_isT_bool); (focus (walk_at "tp"))) | ((with_reducible apply z_isL_bool); (focus (walk_at "lq"))) | ((with_reducible apply z_isT_str); (focus (walk_at "tp"))) | ((with_reducible apply z_isL_str); (focus (walk_at "lq"))) | ((with_reducible apply z_isT_tuple); (focus (walk_at "tp"))) | ((with_reducible apply z_isL_tuple); (focus (walk_at "lq"))) | ((with_reducible apply z_isT_list); (focus (walk_at "tp"))) | ((with_reducible apply z_isL_list); (focus (walk_at "lq")))))
local macro_rules | `(tactic| walk_at "non") => `(tactic| with_reducible (first | refine z_nonR ?_ | refine z_notR ?_ | refine z_nonN ?_ | refine z_notN ?_ | refine z_nonI ?_ | refine z_notI ?_ | refine z_nonS ?_ | refine z_notS ?_))
local macro_rules | `(tactic| walk_at "z1") => `(tactic| (first | ((with_reducible apply z_var); (focus (walk_at "get"))) | with_reducible (first | refine z_c ?_ | refine z_op ?_ | refine z_I0 ?_ | refine z_asg ?_ | refine z_seq ?_ | refine z_EqI ?_ | refine z_NeI ?_ | refine z_EqS ?_ | refine z_NeS ?_ | refine z_test ?_ | refine z_tB ?_ | refine z_ebl ?_ | refine z_ifs ?_ | refine z_ret ?_ | refine z_cons ?_ | refine z_nil ?_ | refine z_call0 ?_ | refine z_callD ?_ | refine z_un ?_ | refine z_U ?_ | refine z_and ?_ | refine z_or ?_ | refine z_not ?_ | refine z_andV ?_ | refine z_orV ?_ | refine z_notV ?_ | refine z_if ?_ | refine z_chain ?_ | refine z_next ?_ | refine z_drop ?_ | refine z_par ?_ | refine z_cb ?_ | refine z_e1 ?_ | refine z_e2 ?_ | refine z_tup ?_ | refine iteT ?_ | refine iteF ?_ | refine z_iteNb ?_ | refine z_eint ?_ | refine z_gcons ?_ | refine z_gnil ?_ | refine z_sl ?_ | refine z_noP ?_ | refine z_part ?_ | refine z_lst ?_ | refine z_bm ?_ | refine z_for ?_ | refine z_iL ?_ | refine z_iT ?_ | refine z_iR1 ?_ | refine z_iR2 ?_ | refine z_iR3 ?_ | refine z_toI ?_ | refine z_toB ?_ | refine z_whN ?_) | ((with_reducible apply z_name); (focus (walk_at "set"))) | ((with_reducible apply z_par2); (focus (walk_at "set")); (focus (walk_at "set"))) | ((with_reducible apply z_mkt); (focus (exact Nat.le_of_ble_eq_true rfl)); (intro p H' n s e))))
local macro_rules | `(tactic| walk_at "z2") => `(tactic| first | ((with_reducible apply z_I); (focus (walk_at "cd"))) | ((with_reducible apply z_ixT); (focus (walk_at "tp")); (focus rfl)) | walk_at "isi" | walk_at "non" | ((with_reducible apply z_len); (focus (first | exact .inl (by walk_at "lq") | exact .inr (by walk_at "tp")))) | ((with_reducible apply z_gtup); (focus (walk_at "tp")); (focus rfl)) | ((with_reducible apply z_iL2); (focus (walk_at "lq"))) | ((with_reducible apply z_iT2); (focus (walk_at "tp"))) | ((with_reducible apply z_r1c); (focus (first | decide | omega)); (focus (first | decide | omega))) | ((with_reducible apply z_r2c); (focus (first | decide | omega)); (focus (first | decide | omega)); (focus (first | decide | omega)); (focus (first | decide | omega))))
local macro_rules | `(tactic| walk_at "bd") => `(tactic| first | assumption | exact Pr.ba (by assumption) | exact Pr.bb (by assumption) | exact (show My.Bd 64 _ by unfold My.Bd; decide) | ((with_reducible apply bd_mul) <;> (walk_at "bd")) | ((with_reducible apply bd_add) <;> (walk_at "bd")) | ((with_reducible apply bd_sub) <;> (walk_at "bd")) | ((with_reducible apply My.Bd.neg); (walk_at "bd")) | ((with_reducible apply My.Bd.mod); (focus (first | decide | omega | assumption)); (walk_at "bd")) | ((with_reducible apply My.Bd.div); (focus (first | decide | omega | assumption)); (walk_at "bd")) | exact bd_60 (by omega) (by omega) | exact (show My.Bd 256 _ by unfold My.Bd; decide))
local macro_rules | `(tactic| walk_at "mid") => `(tactic| first | assumption | ((apply My.Bd.mono); (focus (walk_at "bd")); (first | decide | omega)))
local macro_rules | `(tactic| walk_at "cd") => `(tactic| first | assumption | exact True.intro | decide | omega | exact ⟨by first | decide | omega, by first | decide | omega⟩ | exact ⟨by decide, by decide, by decide⟩ | exact .inl ⟨by first | decide | omega, by first | decide | omega⟩ | exact .inr ⟨by first | decide | omega, by first | decide | omega⟩ | exact ⟨by walk_at "mid", by walk_at "mid"⟩ | exact ⟨by first | decide | omega | assumption, by walk_at "mid"⟩)
local macro_rules | `(tactic| walk_at "pr") => `(tactic| first | assumption | ((apply Pr.kp); (focus assumption); (walk_at "pr")))
local macro_rules | `(tactic| walk_at "sp") => `(tactic| ((with_reducible apply a_number); (focus (walk_at "bd")); (focus (walk_at "bd")); (focus (first | decide | omega)); (focus (first | decide | omega)); (intro p H' x y s R g e)))
local macro_rules | `(tactic| walk_at "sp") => `(tactic| ((with_reducible apply a_numberD); (focus (walk_at "bd")); (focus (walk_at "bd")); (focus (first | decide | omega)); (focus (first | decide | omega)); (intro p H' x y s R g e)))
local macro_rules | `(tactic| walk_at "sp") => `(tactic| ((with_reducible apply a_two); (focus (walk_at "pr")); (focus (walk_at "pr")); (focus (first | decide | omega)); (focus (first | exact True.intro | assumption)); (intro p H' x y s R g e)))
local macro_rules | `(tactic| walk_at "sp") => `(tactic| ((with_reducible apply a_cmp); (focus (walk_at "pr")); (focus (walk_at "pr")); (focus (first | decide | omega))))
local macro_rules | `(tactic| walk_at "ji") => `(tactic| ((with_reducible apply z_joinI); (focus ((intro S q); (walk_at "run"); (exact q))); (focus ((intro hb S q); (walk_at "run"); (exact q))); (focus (walk_at "get")); (focus (walk_at "set"))))
local macro_rules | `(tactic| walk_at "run") => `(tactic| repeat (first | walk_at "ji" | walk_at "z1" | walk_at "z2" | walk_at "sp"))
local macro_rules | `(tactic| walk_at "bd6") => `(tactic| first | assumption | exact bd_60 (by omega) (by omega))
local macro_rules | `(tactic| walk_at "sp") => `(tactic| ((with_reducible apply a_cell); (focus (walk_at "lq")); (focus (first | decide | omega))))
section
variable {P : Program} {w : World} {K : PySem.W.Frag} {mg : Str → Option Value} {base : Heap} {t : Adr}
theorem list_first {α : Type} {xs : List α} (h : xs ≠ []) : ∃ x, xs.head? = some x ∧ xs[0]? = some x ∧ x ∈ xs := by
  cases xs with
  | nil => exact absurd rfl h
  | cons x r => exact ⟨x, rfl, rfl, List.mem_cons_self⟩
theorem list_last {α : Type} {xs : List α} (h : xs ≠ []) : ∃ x, xs.getLast? = some x ∧ xs[xs.length - 1]? = some x ∧ x ∈ xs := by
  refine ⟨xs.getLast h, List.getLast?_eq_some_getLast h, ?_, List.getLast_mem h⟩
  rw [← List.getLast?_eq_getElem?, List.getLast?_eq_some_getLast h]
theorem atI_first {α : Type} {xs : List α} {x : α} (h : xs[0]? = some x) : atI xs 0 = some x := atI_nat (j := 0) h
theorem atI_last {α : Type} {xs : List α} {x : α} (h : xs[xs.length - 1]? = some x) : atI xs (-1) = some x := by
  have hl : 0 < xs.length := by
    rcases Nat.eq_zero_or_pos xs.length with z | z
    · rw [List.getElem?_eq_none (by omega)] at h; cases h
    · exact z
  unfold atI ixN
  rw [if_neg (by decide), if_pos (by omega)]
  show xs[(-1 + (xs.length : Int)).toNat]? = some x
  rw [show (-1 + (xs.length : Int)).toNat = xs.length - 1 by omega]
  exact h
theorem map_at {α β : Type} {g : α → β} {xs : List α} {j : Nat} {x : α} (h : xs[j]? = some x) : (xs.map g)[j]? = some (g x) := by rw [List.getElem?_map, h]; rfl
theorem of_map_at {α β : Type} {g : α → β} {xs : List α} {j : Nat} {v : β} (h : (xs.map g)[j]? = some v) : ∃ x, xs[j]? = some x ∧ v = g x := by
  rw [List.getElem?_map] at h
  cases q : xs[j]? with
  | none => rw [q] at h; cases h
  | some x => rw [q] at h; exact ⟨x, rfl, (Option.some.inj h).symm⟩
theorem lt_of_at {α : Type} {xs : List α} {i : Nat} {x : α} (h : xs[i]? = some x) : i < xs.length := by
  rcases Nat.lt_or_ge i xs.length with z | z
  · exact z
  · rw [List.getElem?_eq_none z] at h; cases h
theorem alike_num {K : PySem.W.Frag} {H : Hp} {n : Nat} {p p' : Addr} {a b a' b' : Int} {m m' : Nat} (h : Pr K H p a b m) (h' : Pr K H p' a' b' m') (g : Int.gcd a b = 1) (g' : Int.gcd a' b' = 1) (e : My.qv a b = My.qv a' b') : Alike K H (n + 1) (.ref p) (.ref p') := by
  obtain ⟨q1, q2⟩ := My.low_unique h.pos h'.pos g g' (My.eq_of_qv h.ne h'.ne e)
  subst q1 q2
  refine .tup h.s h'.s rfl (fun j x y hx hy => ?_)
  rw [hx] at hy
  cases hy
  match j, hx with
  | 0, hx => cases hx; exact .int
  | 1, hx => cases hx; exact .int
  | _ + 2, hx => cases hx
/-! k04: numbers written -/
local macro_rules | `(tactic| walk_at "sp") => `(tactic| with_reducible (first | refine z_fv ?_ | refine z_fsn ?_ | refine z_fsc ?_ | refine z_iS ?_ | refine z_iS2 ?_ | refine z_inS ?_ | refine z_tyS ?_ | refine z_starts ?_ | refine z_lcn ?_))
theorem le_size {n : Nat} (h : n ≤ 1000) : n ≤ sizeLine := Nat.le_trans h (by decide)
theorem ok_l_whole (T : Txt K mg t) : FnOk P w K mg base CX0 1 t.f_l_whole t.d_l_whole ["_law_thing"] (sp_whole K) := by
  refine T.F_l_whole.ok sc_l_whole (fun vs H Q E h => ?_) (fun cdv A outer s H vs Q E hr h => ?_)
  · obtain ⟨x, g, rfl, _⟩ := h
    rfl
  obtain ⟨x, g, rfl, hg, q⟩ := h
  refine ⟨_, (pss_one (ps_ret (pe_and (pe_isi isi_int rfl rfl T.z_isinstance T.z_int bt_int (pv 0)) (pe_one (pe_not (pe_isi isi_bool rfl rfl T.z_isinstance T.z_bool bt_bool (pv 0))))))), ?_⟩
  refine ⟨_, rfl, _, g, rfl, hg, _, rfl, ?_⟩
  cases g with
  | int => exact iteT ⟨_, rfl, _, .int, rfl, hg, _, rfl, q⟩
  | bl => exact iteT ⟨_, rfl, _, .bl, rfl, hg, _, rfl, q⟩
  | non => exact iteF q
  | str => exact iteF q
  | tup => exact iteF q
  | lst => exact iteF q
def sp_digits : Sp := fun vs H Q _ => ∃ z : Str, vs = [.str z] ∧ z.length ≤ 900 ∧ ∀ H', Same H H' → Q (.bl (My.digB (My.cs z))) H'
theorem empty_iff (z : Str) : z = "" ↔ My.cs z = [] := ⟨fun h => by rw [h]; rfl, fun h => My.cs_ext (by rw [h]; rfl)⟩
theorem ok_are_digits (T : Txt K mg t) : FnOk P w K mg base CX0 1 t.f_are_digits t.d_are_digits ["text"] (sp_digits) := by
  refine T.F_are_digits.ok sc_are_digits (fun vs H Q E h => ?_) (fun cdv A outer s H vs Q E hr h => ?_)
  · obtain ⟨z, rfl, _⟩ := h
    rfl
  obtain ⟨z, rfl, hz, q⟩ := h
  refine ⟨_, (pss_one (ps_ret (pe_and (pe_cmpR op_ne (pv 0) pe_str (nomark _)) (pe_one (pe_callB (call_all rfl) rfl T.z_all bt_all (pa_cons (pe_lc rfl (compOk_of (fr := []) (osc := defScope s_are_digits) (N := ["text"]) rfl rfl (by decide +kernel)) (pi_str (pv 0)) (fun _ _ _ _ _ => (pe_cmpR op_in_str (pv 0) (pe_glob (v := .str "0123456789") rfl T.g_DIGITS ⟨_, rfl⟩) rfl))) pa_nil)))))), z_go (σ := [some _]) rfl ?_⟩
  walk_at "run"
  refine z_iteD (fun h => ?_) (fun h => ?_)
  · have e : My.digB (My.cs z) = false := by rw [(empty_iff z).mp h]; rfl
    rw [← e]
    exact q _ (Same.refl _)
  · walk_at "run"
    refine lcn_str (fun c => .bl (decide (48 ≤ c ∧ c ≤ 57))) (le_size (by show z.length ≤ 1000; omega)) ?_ ?_
    · intro c H2 S hc s2 k
      walk_at "run"
      rw [My.in_digits]
      exact k _ (Same.refl _)
    · intro acc H2 hacc s2 ha
      walk_at "run"
      have e : (My.cs z).map (fun c => V.bl (decide (48 ≤ c ∧ c ≤ 57))) = ((My.cs z).map fun c => decide (48 ≤ c ∧ c ≤ 57)).map V.bl := by rw [List.map_map]; rfl
      have ha' : H2 acc = some (.lst (((My.cs z).map fun c => decide (48 ≤ c ∧ c ≤ 57)).map V.bl)) := by rw [← e]; exact ha
      refine z_all (SqL.of ha') ?_
      have e2 : (((My.cs z).map fun c => decide (48 ≤ c ∧ c ≤ 57)).all fun b => b) = My.digB (My.cs z) := by
        unfold My.digB
        have n0 : (My.cs z).isEmpty = false := by
          cases q0 : My.cs z with
          | nil => exact absurd ((empty_iff z).mpr q0) h
          | cons _ _ => rfl
        rw [n0, List.all_map]
        rfl
      rw [e2]
      exact q _ s2
theorem a_digits {H : Hp} {Q : VK} {E : XK} {z : Str} (h : z.length ≤ 900) (q : ∀ H', Same H H' → Q (.bl (My.digB (My.cs z))) H') : sp_digits [.str z] H Q E := ⟨z, rfl, h, q⟩
/-! days, from K06 and K07 -/
theorem iteBF {b : Bool} {A B : Prop} (hb : ¬ b = true) (h : B) : if b = true then A else B := by
  rw [if_neg hb]; exact h
theorem mid4 : Mid 4 := (show My.Bd 20 4 by unfold My.Bd; decide).mono (by decide)
theorem mid100 : Mid 100 := (show My.Bd 20 100 by unfold My.Bd; decide).mono (by decide)
theorem mid400 : Mid 400 := (show My.Bd 20 400 by unfold My.Bd; decide).mono (by decide)
theorem midD : Mid 146097 := (show My.Bd 20 146097 by unfold My.Bd; decide).mono (by decide)
theorem midS : Mid 19998 := (show My.Bd 20 19998 by unfold My.Bd; decide).mono (by decide)
theorem at12 {m : Int} (h1 : 1 ≤ m) (h2 : m ≤ 12) : atI (My.mls.map V.int) (m - 1) = some (.int (My.mls.getD (m - 1).toNat 0)) := by
  rcases My.m_cases h1 h2 with h | h | h | h | h | h | h | h | h | h | h | h <;> subst h <;> rfl
theorem at12L {m : Int} (h1 : 1 ≤ m) (h2 : m ≤ 12) : atI (([31, 28, 31, 30, 31, 30, 31, 31, 30, 31, 30, 31] : List Int).map V.int) (m - 1) = some (.int (My.mls.getD (m - 1).toNat 0)) := at12 h1 h2
theorem ml2 (L : Bool) : (28 : Int) + (if L = true then 1 else 0) = My.ml L 2 := by cases L <;> decide
theorem ml_ne {L : Bool} {m : Int} (h : m ≠ 2) : My.ml L m = My.mls.getD (m - 1).toNat 0 := by
  unfold My.ml
  rw [if_neg (fun z => h z.1)]
theorem mid3 : Mid 3 := (show My.Bd 20 3 by unfold My.Bd; decide).mono (by decide)
theorem mid10 : Mid 10 := (show My.Bd 20 10 by unfold My.Bd; decide).mono (by decide)
theorem mid16 : Mid 16 := (show My.Bd 20 16 by unfold My.Bd; decide).mono (by decide)
theorem same_put {H H1 : Hp} {l : Addr} {o : HO} (s : Same H H1) (hl : H l = none) : Same H (upd H1 l o) := fun a v e => by
  rw [upd_ne (fun z => by subst z; rw [hl] at e; cases e)]
  exact s a v e
def sp_leap : Sp := fun vs H Q _ => ∃ y : Int, vs = [.int y] ∧ Q (.bl (My.leap y)) H
def sp_ml : Sp := fun vs H Q _ => ∃ y m : Int, vs = [.int y, .int m] ∧ 1 ≤ m ∧ m ≤ 12 ∧ Q (.int (My.mlen y m)) H
def sp_long : Sp := fun vs H Q _ => ∃ y m : Int, vs = [.int y, .int m] ∧ 1 ≤ m ∧ m ≤ 12 ∧ ∀ H', Same H H' → Q (.int (My.mlen y m)) H'
def sp_yb : Sp := fun vs H Q _ => ∃ y : Int, vs = [.int y] ∧ Q (.int (My.ybeg y)) H
def sp_count : Sp := fun vs H Q _ => ∃ y m e : Int, vs = [.int y, .int m, .int e] ∧ 1 ≤ m ∧ m ≤ 12 ∧ ∀ H', Same H H' → Q (.int (My.dayOf y m e)) H'
def sp_mixed : Sp := fun vs H Q _ => ∃ c : Int, vs = [.int c] ∧ ∀ r : Int, Q (.int r) H
def valid3 (vs : List V) : Prop := ∃ y m e : Int, vs = [.int y, .int m, .int e] ∧ My.Valid y m e
def sp_dayof6 (K : PySem.W.Frag) (C : Addr) : Sp := fun vs H Q E => ∃ x y z gx gy gz, vs = [x, y, z] ∧ tgIs K H x gx ∧ tgIs K H y gy ∧ tgIs K H z gz ∧ (¬ valid3 [x, y, z] → E (.ref C) none H) ∧
  (∀ a m e : Int, x = .int a → y = .int m → z = .int e → My.Valid a m e → ∀ H', Same H H' → Q (.int (My.dayOf a m e)) H')
theorem tg_int {K : PySem.W.Frag} {H : Hp} {x : V} (h : tgIs K H x .int) : ∃ i : Int, x = .int i := by
  cases x with
  | int i => exact ⟨i, rfl⟩
  | _ => exact (show False from h).elim
theorem tg_not {K : PySem.W.Frag} {H : Hp} {x : V} {g : Tg} (h : tgIs K H x g) (hg : g ≠ .int) : ∀ i : Int, x ≠ .int i := fun i e => by
  subst e
  cases g <;> first | exact hg rfl | exact (show False from h).elim
theorem tg_same {K : PySem.W.Frag} {H H' : Hp} {x : V} {g : Tg} (s : Same H H') (h : tgIs K H x g) : tgIs K H' x g := by
  cases x <;> cases g <;> first | exact h | (obtain ⟨xs, z⟩ := h; first | exact ⟨xs, s.tup z⟩ | exact ⟨xs, s.seq z⟩)
theorem nv1 {x y z : V} (h : ∀ i : Int, x ≠ .int i) : ¬ valid3 [x, y, z] := by
  rintro ⟨a, m, e, h', _⟩
  exact h a (List.cons.inj h').1
theorem nv2 {x y z : V} (h : ∀ i : Int, y ≠ .int i) : ¬ valid3 [x, y, z] := by
  rintro ⟨a, m, e, h', _⟩
  exact h m (List.cons.inj (List.cons.inj h').2).1
theorem nv3 {x y z : V} (h : ∀ i : Int, z ≠ .int i) : ¬ valid3 [x, y, z] := by
  rintro ⟨a, m, e, h', _⟩
  exact h e (List.cons.inj (List.cons.inj (List.cons.inj h').2).2).1
theorem nvI {a m e : Int} (h : ¬ My.Valid a m e) : ¬ valid3 [.int a, .int m, .int e] := by
  rintro ⟨a', m', e', h', v⟩
  cases h'
  exact h v
theorem map_ints (n : Nat) (g : Nat → Int) : (List.range n).map (fun i => V.int (g i)) = ((List.range n).map g).map V.int := by
  rw [List.map_map]; rfl
def listIn : List Stmt → List Expr
  | [_, .Return (some (.Subscript (.List es _) _ _)) _] => es
  | _ => []
def putList (es : List Expr) : List Stmt → List Stmt
  | [a, .Return (some (.Subscript (.List _ p) i q)) r] => [a, .Return (some (.Subscript (.List es p) i q)) r]
  | b => b
theorem cut_ints (ns : List Int) (k : Nat) : cutV (ns.map V.int) none (some (k : Int)) = (ns.take k).map V.int := by
  unfold cutV
  rw [HT.sIx_nat, HT.sIx_none, List.drop_zero, Nat.sub_zero, List.length_map, List.map_take]
  rw [← List.length_map (as := ns) V.int]
  by_cases h : k ≤ (ns.map V.int).length
  · rw [Nat.min_eq_left h]
  · rw [Nat.min_eq_right (by omega), List.take_of_length_le (Nat.le_refl _), List.take_of_length_le (by omega)]


def sp_yo : Sp := fun vs H Q _ => ∃ d : Int, vs = [.int d] ∧ Q (.int (My.yearOf d)) H
def sp_parts : Sp := fun vs H Q _ => ∃ d : Int, vs = [.int d] ∧ 0 ≤ d ∧ d ≤ 3652058 ∧ ∀ (p : Addr) (H' : Hp) (y m e : Int), Same H H' → H' p = some (.tup [.int y, .int m, .int e]) → My.Valid y m e → My.dayOf y m e = d → Q (.ref p) H'
theorem ok_is_leap (T : Txt K mg t) : FnOk P w K mg base CX0 1 t.f_is_leap t.d_is_leap ["year"] sp_leap := by
  refine T.F_is_leap.ok sc_is_leap (fun vs H Q E h => ?_) (fun cdv A outer s H vs Q E hr h => ?_)
  · obtain ⟨y, rfl, _⟩ := h
    rfl
  obtain ⟨y, rfl, q⟩ := h
  refine ⟨_, (pss_one (ps_ret (pe_and (pe_cmpR op_eq (pe_op op_mod (pv 0) pe_int) pe_int (nomark _)) (pe_one (pe_or (pe_cmpR op_ne (pe_op op_mod (pv 0) pe_int) pe_int (nomark _)) (pe_one (pe_cmpR op_eq (pe_op op_mod (pv 0) pe_int) pe_int (nomark _)))))))), ?_⟩
  refine ⟨_, rfl, _, _, rfl, rfl, (show (0 : Int) < 4 by decide), rfl, _, rfl, ?_⟩
  unfold My.leap at q
  by_cases h4 : y % 4 = 0
  · rw [if_pos h4] at q
    refine iteDT (congrArg V.int h4) ?_
    refine ⟨_, rfl, _, _, rfl, rfl, (show (0 : Int) < 100 by decide), rfl, _, rfl, ?_⟩
    by_cases h1 : y % 100 = 0
    · rw [if_pos h1] at q
      refine iteNS (congrArg V.int h1) ?_
      refine ⟨_, rfl, _, _, rfl, rfl, (show (0 : Int) < 400 by decide), rfl, ?_⟩
      show Q (V.bl (decide (V.int (y % 400) = V.int 0))) H
      by_cases h3 : y % 400 = 0
      · rw [decide_eq_true h3] at q
        rw [decide_eq_true (congrArg V.int h3)]
        exact q
      · rw [decide_eq_false h3] at q
        rw [decide_eq_false (fun z => h3 (V.int.inj z))]
        exact q
    · rw [if_neg h1] at q
      exact iteNF (fun z => h1 (V.int.inj z)) q
  · rw [if_neg h4] at q
    exact iteDF (fun z => h4 (V.int.inj z)) q
theorem ok_l_leap (T : Txt K mg t) : FnOk P w K mg base CX0 1 t.f_l_leap t.d_l_leap ["_law_year"] sp_leap := by
  refine T.F_l_leap.ok sc_l_leap (fun vs H Q E h => ?_) (fun cdv A outer s H vs Q E hr h => ?_)
  · obtain ⟨y, rfl, _⟩ := h
    rfl
  obtain ⟨y, rfl, q⟩ := h
  refine ⟨_, (pss_one (ps_ret (pe_and (pe_cmpR op_eq (pe_op op_mod (pv 0) pe_int) pe_int (nomark _)) (pe_one (pe_or (pe_cmpR op_ne (pe_op op_mod (pv 0) pe_int) pe_int (nomark _)) (pe_one (pe_cmpR op_eq (pe_op op_mod (pv 0) pe_int) pe_int (nomark _)))))))), ?_⟩
  refine ⟨_, rfl, _, _, rfl, rfl, (show (0 : Int) < 4 by decide), rfl, _, rfl, ?_⟩
  unfold My.leap at q
  by_cases h4 : y % 4 = 0
  · rw [if_pos h4] at q
    refine iteDT (congrArg V.int h4) ?_
    refine ⟨_, rfl, _, _, rfl, rfl, (show (0 : Int) < 100 by decide), rfl, _, rfl, ?_⟩
    by_cases h1 : y % 100 = 0
    · rw [if_pos h1] at q
      refine iteNS (congrArg V.int h1) ?_
      refine ⟨_, rfl, _, _, rfl, rfl, (show (0 : Int) < 400 by decide), rfl, ?_⟩
      show Q (V.bl (decide (V.int (y % 400) = V.int 0))) H
      by_cases h3 : y % 400 = 0
      · rw [decide_eq_true h3] at q
        rw [decide_eq_true (congrArg V.int h3)]
        exact q
      · rw [decide_eq_false h3] at q
        rw [decide_eq_false (fun z => h3 (V.int.inj z))]
        exact q
    · rw [if_neg h1] at q
      exact iteNF (fun z => h1 (V.int.inj z)) q
  · rw [if_neg h4] at q
    exact iteDF (fun z => h4 (V.int.inj z)) q

theorem ok_month_length (T : Txt K mg t) : FnOk P w K mg base CX0 2 t.f_month_length t.d_month_length ["year", "month"] sp_ml := by
  have G_is_leap := ok_is_leap (P := P) (w := w) (base := base) T
  refine T.F_month_length.ok sc_month_length (fun vs H Q E h => ?_) (fun cdv A outer s H vs Q E hr h => ?_)
  · obtain ⟨y, m, rfl, _⟩ := h
    rfl
  obtain ⟨y, m, rfl, h1, h2, q⟩ := h
  refine ⟨_, (pss_cons (ps_if (PW.pt (pw_and (pt_cmpR op_eq (pv 1) pe_int (nomark _)) (pw_and1 (pt_val (pe_call G_is_leap (hr.mono (by decide)) rfl T.m_is_leap T.k_is_leap T.b_is_leap .nil pass0 (pa_cons (pv 0) pa_nil)))))) (pss_one (ps_ret pe_int)) pss_nil)
  (pss_one (ps_ret (pe_ix ix_tup (pe_glob (v := .ref t.g_MONTH_LENGTHS) rfl T.g_MONTH_LENGTHS rfl) (pe_op op_sub (pv 1) pe_int) (fun _ _ => rfl))))), ?_⟩
  refine ⟨_, rfl, rfl, _, rfl, ?_⟩
  unfold My.mlen My.ml at q
  by_cases hm : m = 2
  · refine iteDT (congrArg V.int hm) ?_
    refine ⟨_, rfl, _, rfl, _, rfl, ?_⟩
    by_cases hL : My.leap y = true
    · rw [if_pos ⟨hm, hL⟩] at q
      exact iteBT hL q
    · rw [if_neg (fun z => hL z.2)] at q
      refine iteBF hL ?_
      exact ⟨_, rfl, _, _, rfl, rfl, _, _, _, _, rfl, rfl, T.v_MONTH_LENGTHS H, at12 h1 h2, q⟩
  · rw [if_neg (fun z => hm z.1)] at q
    refine iteDF (fun z => hm (V.int.inj z)) ?_
    refine iteF ?_
    exact ⟨_, rfl, _, _, rfl, rfl, _, _, _, _, rfl, rfl, T.v_MONTH_LENGTHS H, at12 h1 h2, q⟩
theorem ok_year_begin (T : Txt K mg t) : FnOk P w K mg base CX0 1 t.f_year_begin t.d_year_begin ["year"] sp_yb := by
  refine T.F_year_begin.ok sc_year_begin (fun vs H Q E h => ?_) (fun cdv A outer s H vs Q E hr h => ?_)
  · obtain ⟨y, rfl, _⟩ := h
    rfl
  obtain ⟨y, rfl, q⟩ := h
  refine ⟨_, (pss_cons (ps_set (i := 1) sc_year_begin.nd rfl (Or.inl rfl) (pe_op op_sub (pv 0) pe_int))
  (pss_one (ps_ret (pe_op op_add (pe_op op_sub (pe_op op_add (pe_op op_mul pe_int (pv 1)) (pe_op op_fdivB (pv 1) pe_int)) (pe_op op_fdivB (pv 1) pe_int)) (pe_op op_fdivB (pv 1) pe_int))))), ?_⟩
  refine ⟨_, rfl, _, _, rfl, rfl, ?_⟩
  exact ⟨_, rfl, _, _, rfl, rfl, .inl ⟨by decide, by decide⟩, _, rfl, _, _, rfl, rfl, ⟨by decide, mid4⟩, _, _, rfl, rfl, _, rfl, _, _, rfl, rfl, ⟨by decide, mid100⟩, _, _, rfl, rfl, _, rfl, _, _, rfl, rfl, ⟨by decide, mid400⟩, _, _, rfl, rfl, q⟩
theorem ok_day_of (T : Txt K mg t) : FnOk P w K mg base (CXe P w) 3 t.f_day_of t.d_day_of ["year", "month", "day"] (sp_dayof6 K t.c_NoDay) := by
  have G_is_whole := ok_is_whole (P := P) (w := w) (base := base) T
  have G_month_length := ok_month_length (P := P) (w := w) (base := base) T
  have G_year_begin := ok_year_begin (P := P) (w := w) (base := base) T
  refine T.F_day_of.toD.okE sc_day_of (fun vs H Q E h => ?_) (fun cdv A outer s H vs Q E hr h => ?_)
  · obtain ⟨x, y, z, gx, gy, gz, rfl, _⟩ := h
    rfl
  obtain ⟨x, y, z, gx, gy, gz, rfl, hx, hy, hz, hE, q⟩ := h
  refine ⟨_, (pss_cons (ps_if (pt_not (PW.pt (pw_and (pt_val (pe_call G_is_whole (hr.mono (by decide)) rfl T.m_is_whole T.k_is_whole T.b_is_whole .nil pass0 (pa_cons (pv 0) pa_nil))) (pw_and (pt_val (pe_call G_is_whole (hr.mono (by decide)) rfl T.m_is_whole T.k_is_whole T.b_is_whole .nil pass0 (pa_cons (pv 1) pa_nil))) (pw_and1 (pt_val (pe_call G_is_whole (hr.mono (by decide)) rfl T.m_is_whole T.k_is_whole T.b_is_whole .nil pass0 (pa_cons (pv 2) pa_nil)))))))) (pss_one (ps_raise rfl T.x_NoDay T.n_NoDay T.m_NoDay rfl raisesE (pa_cons pe_str pa_nil))) pss_nil)
  (pss_cons (ps_if (pt_not (PW.pt (pw_and (pt_chain op_le op_le pe_int (pv 0) (pe_glob (v := .int 9999) rfl T.g_LAST_YEAR ⟨_, rfl⟩)) (pw_and (pt_chain op_le op_le pe_int (pv 1) pe_int) (pw_and1 (pt_chain op_le op_le pe_int (pv 2) (pe_call G_month_length (hr.mono (by decide)) rfl T.m_month_length T.k_month_length T.b_month_length .nil pass0 (pa_cons (pv 0) (pa_cons (pv 1) pa_nil))))))))) (pss_one (ps_raise rfl T.x_NoDay T.n_NoDay T.m_NoDay rfl raisesE (pa_cons pe_str pa_nil))) pss_nil)
  (pss_cons (ps_setLC (iy := 3) sc_day_of.nd rfl (Or.inl rfl) rfl (compOk_of (fr := [("year", 0)]) (osc := defScope s_day_of) (N := ["year", "month", "day", "ahead"]) rfl rfl (by decide +kernel)) (pi_range2 rfl T.z_range (pa_cons pe_int (pa_cons (pv 1) pa_nil))) (fun _ _ _ _ _ => (pe_call G_month_length (hr.mono (by decide)) rfl T.m_month_length T.k_month_length T.b_month_length .nil pass0 (pa_cons (pv 1) (pa_cons (pv 0) pa_nil)))))
  (pss_one (ps_ret (pe_op op_sub (pe_op op_add (pe_op op_add (pe_call G_year_begin (hr.mono (by decide)) rfl T.m_year_begin T.k_year_begin T.b_year_begin .nil pass0 (pa_cons (pv 0) pa_nil)) (pe_callB (call_sum rfl) rfl T.z_sum bt_sum (pa_cons (pv 3) pa_nil))) (pv 2)) pe_int)))))), ?_⟩
  refine ⟨_, rfl, _, gx, rfl, hx, _, rfl, ?_⟩
  by_cases ex : gx = .int
  rotate_left
  · refine iteBF (by cases gx <;> first | exact absurd rfl ex | decide) ?_
    refine iteT ?_
    exact ⟨(by show 1 ≤ sizeLine; decide), hE (nv1 (tg_not hx ex))⟩
  subst ex
  obtain ⟨a, rfl⟩ := tg_int hx
  refine iteT ⟨_, rfl, _, gy, rfl, hy, _, rfl, ?_⟩
  by_cases ey : gy = .int
  rotate_left
  · refine iteBF (by cases gy <;> first | exact absurd rfl ey | decide) ?_
    refine iteT ?_
    exact ⟨(by show 1 ≤ sizeLine; decide), hE (nv2 (tg_not hy ey))⟩
  subst ey
  obtain ⟨m, rfl⟩ := tg_int hy
  refine iteT ⟨_, rfl, _, gz, rfl, hz, _, rfl, ?_⟩
  by_cases ez : gz = .int
  rotate_left
  · refine iteBT (by cases gz <;> first | exact absurd rfl ez | rfl) ?_
    exact ⟨(by show 1 ≤ sizeLine; decide), hE (nv3 (tg_not hz ez))⟩
  subst ez
  obtain ⟨e, rfl⟩ := tg_int hz
  refine iteF ?_
  have no : ¬ My.Valid a m e → 1 ≤ sizeLine ∧ E (.ref t.c_NoDay) none H := fun z => ⟨by decide, hE (nvI z)⟩
  refine ⟨_, rfl, _, _, rfl, rfl, _, rfl, ?_⟩
  by_cases h1 : 1 ≤ a
  rotate_left
  · exact iteDF h1 ⟨_, rfl, iteF (iteT (no fun v => h1 v.y1))⟩
  refine iteDT h1 ⟨_, _, rfl, rfl, _, rfl, ?_⟩
  by_cases h2 : a ≤ 9999
  rotate_left
  · exact iteDF h2 (iteT (no fun v => h2 v.y2))
  refine iteDT h2 ⟨_, rfl, _, _, rfl, rfl, _, rfl, ?_⟩
  by_cases h3 : 1 ≤ m
  rotate_left
  · exact iteDF h3 ⟨_, rfl, iteF (iteT (no fun v => h3 v.m1))⟩
  refine iteDT h3 ⟨_, _, rfl, rfl, _, rfl, ?_⟩
  by_cases h4 : m ≤ 12
  rotate_left
  · exact iteDF h4 (iteT (no fun v => h4 v.m2))
  refine iteDT h4 ⟨_, rfl, _, _, rfl, rfl, _, rfl, ?_⟩
  by_cases h5 : 1 ≤ e
  rotate_left
  · exact iteDF h5 ⟨_, rfl, iteT (no fun v => h5 v.e1)⟩
  refine iteDT h5 ⟨_, rfl, _, rfl, _, _, rfl, h3, h4, _, _, rfl, rfl, _, rfl, ?_⟩
  by_cases h6 : e ≤ My.mlen a m
  rotate_left
  · rw [decide_eq_false h6]
    exact iteT (no fun v => h6 v.e2)
  have v : My.Valid a m e := ⟨h1, h2, h3, h4, h5, h6⟩
  refine iteNS h6 ?_
  refine ⟨_, rfl, _, _, rfl, ⟨by decide, by decide, by omega, by omega⟩, fun acc hacc => ?_⟩
  refine lc_range2 (lo := 1) (n := (m - 1).toNat) (fun i : Nat => V.int (My.ml (My.leap a) (1 + (i : Int)))) (Nat.le_of_lt (small1000 (by omega))) hacc ?_ ?_
  · intro i H2 Q' hi sm k
    exact ⟨_, rfl, _, rfl, _, _, rfl, by omega, by omega, k H2 (Same.refl _)⟩
  · intro H2 sm ha
    rw [map_ints] at ha
    exact ⟨_, rfl, _, rfl, _, rfl, _, _, rfl, SqL.of ha, _, _, rfl, rfl, _, rfl, _, _, rfl, rfl, _, _, rfl, rfl, q a m e rfl rfl rfl v H2 sm⟩
theorem ok_l_mixed (T : Txt K mg t) : FnOk P w K mg base CX0 1 t.f_l_mixed t.d_l_mixed ["_law_cell"] sp_mixed := by
  refine T.F_l_mixed.ok sc_l_mixed (fun vs H Q E h => ?_) (fun cdv A outer s H vs Q E hr h => ?_)
  · obtain ⟨y, rfl, _⟩ := h
    rfl
  obtain ⟨c, rfl, q⟩ := h
  refine ⟨_, (pss_cons (ps_if (pt_cmpR op_ge (pv 0) (pe_op op_pow pe_int pe_int) (nomark _)) (pss_one (ps_ret (pv 0))) pss_nil)
  (pss_one (ps_ret (pe_op op_mod (pe_op op_add (pe_op op_mul (pe_op op_mod (pv 0) pe_int) pe_int) pe_int) pe_int)))), ?_⟩
  refine ⟨_, rfl, _, _, rfl, rfl, ⟨by decide, by decide, by decide⟩, _, _, rfl, rfl, _, rfl, ?_⟩
  refine ite2 (fun _ => ⟨_, rfl, q _⟩) (fun _ => ?_)
  exact ⟨_, rfl, _, _, rfl, rfl, (show (0 : Int) < 2147483647 by decide), _, _, rfl, rfl, .inr ⟨by decide, by decide⟩, _, _, rfl, rfl, _, _, rfl, rfl, (show (0 : Int) < 2147483647 by decide), q _⟩
theorem ok_l_long (T : Txt K mg t) : FnOk P w K mg base CX0 2 t.f_l_long t.d_l_long ["_law_year", "_law_month"] sp_long := by
  have G_l_leap := ok_l_leap (P := P) (w := w) (base := base) T
  refine T.F_l_long.ok sc_l_long (fun vs H Q E h => ?_) (fun cdv A outer s H vs Q E hr h => ?_)
  · obtain ⟨y, m, rfl, _⟩ := h
    rfl
  obtain ⟨y, m, rfl, h1, h2, q⟩ := h
  have key : ∀ es : List Expr, intsOf es = some [31, 28, 31, 30, 31, 30, 31, 31, 30, 31, 30, 31] → ∃ tt, PSs (cxOf CX0 P w K mg base ["_law_year", "_law_month"] "_law_long" (defScope s_l_long) t.f_l_long cdv A outer s H E).nox (putList es (defBody s_l_long)) tt ∧ tt { nx := fun _ H' => Q .non H', rt := Q } (start ["_law_year", "_law_month"] [.int y, .int m]) H := by
    intro es hes
    refine ⟨_, (pss_cons (ps_if (pt_cmpR op_eq (pv 1) pe_int (nomark _)) (pss_one (ps_ret (pe_op op_add pe_int (pe_callTy call_int1 rfl T.z_int bt_int (pa_cons (pe_call G_l_leap (hr.mono (by decide)) rfl T.m_l_leap T.k_l_leap T.b_l_leap .nil pass0 (pa_cons (pv 0) pa_nil)) pa_nil))))) pss_nil)
  (pss_one (ps_ret (pe_ix ix_list (pe_lst (pa_ints [31, 28, 31, 30, 31, 30, 31, 31, 30, 31, 30, 31] hes)) (pe_op op_sub (pv 1) pe_int) (fun _ _ => rfl))))), ?_⟩
    refine ⟨_, rfl, rfl, _, rfl, ?_⟩
    by_cases hm : m = 2
    · refine iteDT (congrArg V.int hm) ?_
      refine ⟨_, rfl, _, rfl, .inr ⟨_, rfl, _, _, rfl, rfl, ?_⟩⟩
      have e : (28 : Int) + (if My.leap y = true then 1 else 0) = My.mlen y m := by
        subst hm
        exact ml2 _
      show Q (V.int ((28 : Int) + (if My.leap y = true then 1 else 0))) H
      rw [e]
      exact q H (Same.refl _)
    · refine iteDF (fun z => hm (V.int.inj z)) ?_
      have e : My.mlen y m = My.mls.getD (m - 1).toNat 0 := ml_ne hm
      rw [e] at q
      have hz : 12 ≤ sizeLine := by decide
      refine ⟨hz, fun p hp => ?_⟩
      refine ⟨_, rfl, _, _, rfl, rfl, _, _, _, _, rfl, rfl, SqL.of upd_same, at12L h1 h2, ?_⟩
      exact q _ (Same.new hp _)
  have eb : defBody s_l_long = putList (listIn (defBody s_l_long)) (defBody s_l_long) := rfl
  rw [eb]
  exact key _ rfl
theorem ok_l_count (T : Txt K mg t) : FnOk P w K mg base CX0 3 t.f_l_count t.d_l_count ["_law_year", "_law_month", "_law_day"] sp_count := by
  have G_l_long := ok_l_long (P := P) (w := w) (base := base) T
  refine T.F_l_count.ok sc_l_count (fun vs H Q E h => ?_) (fun cdv A outer s H vs Q E hr h => ?_)
  · obtain ⟨y, m, e, rfl, _⟩ := h
    rfl
  obtain ⟨y, m, e, rfl, h1, h2, q⟩ := h
  refine ⟨_, (pss_cons (ps_set (i := 3) sc_l_count.nd rfl (Or.inl rfl) (pe_op op_sub (pv 0) pe_int))
  (pss_cons (ps_set (i := 4) sc_l_count.nd rfl (Or.inl rfl) (pe_op op_add (pe_op op_sub (pe_op op_add (pe_op op_mul pe_int (pv 3)) (pe_op op_fdivB (pv 3) pe_int)) (pe_op op_fdivB (pv 3) pe_int)) (pe_op op_fdivB (pv 3) pe_int)))
  (pss_one (ps_ret (pe_op op_sub (pe_op op_add (pe_op op_add (pv 4) (pe_callB (call_sum rfl) rfl T.z_sum bt_sum (pa_cons (pe_lc rfl (compOk_of (fr := [("_law_year", 0)]) (osc := defScope s_l_count) (N := ["_law_year", "_law_month", "_law_day", "_law_gone", "_law_found"]) rfl rfl (by decide +kernel)) (pi_range2 rfl T.z_range (pa_cons pe_int (pa_cons (pv 1) pa_nil))) (fun _ _ _ _ _ => (pe_call G_l_long (hr.mono (by decide)) rfl T.m_l_long T.k_l_long T.b_l_long .nil pass0 (pa_cons (pv 1) (pa_cons (pv 0) pa_nil))))) pa_nil))) (pv 2)) pe_int))))), ?_⟩
  refine ⟨_, rfl, _, _, rfl, rfl, ?_⟩
  refine ⟨_, rfl, _, _, rfl, rfl, .inl ⟨by decide, by decide⟩, _, rfl, _, _, rfl, rfl, ⟨by decide, mid4⟩, _, _, rfl, rfl, _, rfl, _, _, rfl, rfl, ⟨by decide, mid100⟩, _, _, rfl, rfl, _, rfl, _, _, rfl, rfl, ⟨by decide, mid400⟩, _, _, rfl, rfl, ?_⟩
  refine ⟨_, rfl, _, rfl, _, _, rfl, ⟨by decide, by decide, by omega, by omega⟩, fun acc hacc => ?_⟩
  refine lc_range2 (lo := 1) (n := (m - 1).toNat) (fun i : Nat => V.int (My.ml (My.leap y) (1 + (i : Int)))) (Nat.le_of_lt (small1000 (by omega))) hacc ?_ ?_
  · intro i H2 Q' hi sm k
    exact ⟨_, rfl, _, rfl, _, _, rfl, by omega, by omega, k⟩
  · intro H2 sm ha
    rw [map_ints] at ha
    exact ⟨_, _, rfl, SqL.of ha, _, _, rfl, rfl, _, rfl, _, _, rfl, rfl, _, _, rfl, rfl, q H2 sm⟩
theorem ok_year_of (T : Txt K mg t) : FnOk P w K mg base CX0 2 t.f_year_of t.d_year_of ["day"] sp_yo := by
  have G_year_begin := ok_year_begin (P := P) (w := w) (base := base) T
  refine T.F_year_of.ok sc_year_of (fun vs H Q E h => ?_) (fun cdv A outer s H vs Q E hr h => ?_)
  · obtain ⟨y, rfl, _⟩ := h
    rfl
  obtain ⟨d, rfl, q⟩ := h
  refine ⟨_, (pss_cons (ps_set (i := 1) sc_year_of.nd rfl (Or.inl rfl) (pe_op op_add (pe_op op_fdivB (pe_op op_mul (pv 0) pe_int) (pe_glob (v := .int 146097) rfl T.g_DAYS_OF_400_YEARS ⟨_, rfl⟩)) pe_int))
  (pss_one (ps_ret (pe_ifExp (pt_cmpR op_le (pe_call G_year_begin (hr.mono (by decide)) rfl T.m_year_begin T.k_year_begin T.b_year_begin .nil pass0 (pa_cons (pe_op op_add (pv 1) pe_int) pa_nil)) (pv 0) (nomark _)) (pe_op op_add (pv 1) pe_int) (pv 1))))), ?_⟩
  refine ⟨_, rfl, _, _, rfl, rfl, .inr ⟨by decide, by decide⟩, _, _, rfl, rfl, ⟨by decide, midD⟩, _, _, rfl, rfl, ?_⟩
  refine ⟨_, rfl, _, _, rfl, rfl, _, rfl, _, rfl, _, _, rfl, rfl, _, rfl, ?_⟩
  unfold My.yearOf at q
  by_cases hle : My.ybeg (d * 400 / 146097 + 1 + 1) ≤ d
  · rw [if_pos hle] at q
    exact iteDT hle ⟨_, rfl, _, _, rfl, rfl, q⟩
  · rw [if_neg hle] at q
    exact iteDF hle ⟨_, rfl, q⟩
theorem ok_parts_of (T : Txt K mg t) : FnOk P w K mg base CX0 3 t.f_parts_of t.d_parts_of ["day"] sp_parts := by
  have G_year_of := ok_year_of (P := P) (w := w) (base := base) T
  have G_year_begin := ok_year_begin (P := P) (w := w) (base := base) T
  have G_month_length := ok_month_length (P := P) (w := w) (base := base) T
  refine T.F_parts_of.ok sc_parts_of (fun vs H Q E h => ?_) (fun cdv A outer s H vs Q E hr h => ?_)
  · obtain ⟨y, rfl, _⟩ := h
    rfl
  obtain ⟨d, rfl, d0, d1, q⟩ := h
  obtain ⟨y1, y2, y3, y4⟩ := My.yearOf_ok d0 d1
  have yn := My.ybeg_next (My.yearOf d)
  refine ⟨_, (pss_cons (ps_set (i := 1) sc_parts_of.nd rfl (Or.inl rfl) (pe_call G_year_of (hr.mono (by decide)) rfl T.m_year_of T.k_year_of T.b_year_of .nil pass0 (pa_cons (pv 0) pa_nil)))
  (pss_cons (ps_set (i := 2) sc_parts_of.nd rfl (Or.inl rfl) pe_int)
  (pss_cons (ps_set (i := 3) sc_parts_of.nd rfl (Or.inl rfl) (pe_op op_sub (pv 0) (pe_call G_year_begin (hr.mono (by decide)) rfl T.m_year_begin T.k_year_begin T.b_year_begin .nil pass0 (pa_cons (pv 1) pa_nil))))
  (pss_cons (ps_while PassesOwn.never (pt_cmpR op_ge (pv 3) (pe_call G_month_length (hr.mono (by decide)) rfl T.m_month_length T.k_month_length T.b_month_length .nil pass0 (pa_cons (pv 1) (pa_cons (pv 2) pa_nil))) (nomark _)) (pss_cons (ps_aug (i := 3) sc_parts_of.nd rfl (Or.inl rfl) (pe_call G_month_length (hr.mono (by decide)) rfl T.m_month_length T.k_month_length T.b_month_length .nil pass0 (pa_cons (pv 1) (pa_cons (pv 2) pa_nil))) ip_sub)
  (pss_one (ps_aug (i := 2) sc_parts_of.nd rfl (Or.inl rfl) pe_int ip_add))))
  (pss_one (ps_ret (pe_tup (pa_cons (pv 1) (pa_cons (pv 2) (pa_cons (pe_op op_add (pv 3) pe_int) pa_nil)))))))))), ?_⟩
  refine ⟨_, rfl, _, rfl, ?_⟩
  refine ⟨_, rfl, _, rfl, _, rfl, _, _, rfl, rfl, ?_⟩
  dsimp only [gName, tSeq]
  refine while_by (fun σ H' => ∃ m l : Int, σ = [some (.int d), some (.int (My.yearOf d)), some (.int m), some (.int l)] ∧ H' = H ∧ 1 ≤ m ∧ m ≤ 12 ∧ 0 ≤ l ∧ l + My.bf (My.leap (My.yearOf d)) m = d - My.ybeg (My.yearOf d))
    (fun σ _ => match σ with | [_, _, some (.int m), _] => (13 - m).toNat | _ => 0) ⟨1, _, rfl, rfl, by decide, by decide, by omega, by rw [My.bf_first]; omega⟩ ?_ ?_
  · rintro σ H' ⟨m, l, rfl, rfl, m1, m2, l0, hl⟩
    refine ⟨_, rfl, _, rfl, _, rfl, _, _, rfl, m1, m2, _, _, rfl, rfl, _, rfl, ?_⟩
    have bn := My.bf_next (L := My.leap (My.yearOf d)) m1 m2
    by_cases hle : My.mlen (My.yearOf d) m ≤ l
    · refine iteDT hle ?_
      have hle' : My.ml (My.leap (My.yearOf d)) m ≤ l := hle
      have m12 : m ≤ 11 := by
        rcases Int.lt_or_le m 12 with z | z
        · omega
        · have e : m = 12 := by omega
          subst e
          have bl := My.bf_last (My.leap (My.yearOf d))
          have bn' : My.bf (My.leap (My.yearOf d)) 13 = My.bf (My.leap (My.yearOf d)) 12 + My.ml (My.leap (My.yearOf d)) 12 := bn
          omega
      refine ⟨_, rfl, _, rfl, _, rfl, _, _, rfl, m1, m2, _, _, rfl, rfl, _, rfl, _, _, rfl, rfl, ⟨m + 1, l - My.mlen (My.yearOf d) m, rfl, rfl, by omega, by omega, by omega, ?_⟩, ?_⟩
      · rw [bn]
        show l - My.ml (My.leap (My.yearOf d)) m + (My.bf (My.leap (My.yearOf d)) m + My.ml (My.leap (My.yearOf d)) m) = _
        omega
      · show (13 - (m + 1)).toNat < (13 - m).toNat
        omega
    · refine iteDF hle ?_
      refine ⟨_, rfl, _, rfl, _, rfl, _, _, rfl, rfl, (by show 3 ≤ sizeLine; decide), fun p hp => ?_⟩
      exact q p _ _ _ _ (Same.new hp _) upd_same ⟨y1, y2, m1, m2, by omega, by omega⟩ (by unfold My.dayOf; omega)
  · rintro σ H' Q1 Q2 hi ⟨v, e, a, ea, b, eb, y', m', ev, c1, c2, i, j, e1, e2, k, ek, q'⟩
    exact ⟨v, e, a, ea, b, eb, y', m', ev, c1, c2, i, j, e1, e2, k, ek, hi _ _ q'⟩
/-! k08: days written -/
theorem a_dayof {K : PySem.W.Frag} {H : Hp} {Q : VK} {E : XK} {C : Addr} {y m e : Int} (h1 : ¬ My.Valid y m e → E (.ref C) none H) (h2 : My.Valid y m e → ∀ H', Same H H' → Q (.int (My.dayOf y m e)) H') : sp_dayof6 K C [.int y, .int m, .int e] H Q E :=
  ⟨_, _, _, .int, .int, .int, rfl, True.intro, True.intro, True.intro, fun nv => h1 fun v => nv ⟨y, m, e, rfl, v⟩, fun a b c e1 e2 e3 v H' s => by cases e1; cases e2; cases e3; exact h2 v H' s⟩
theorem a_parts {H : Hp} {Q : VK} {E : XK} {d : Int} (h0 : 0 ≤ d) (h1 : d ≤ 3652058) (q : ∀ (p : Addr) (H' : Hp) (y m e : Int), Same H H' → H' p = some (.tup [.int y, .int m, .int e]) → My.Valid y m e → My.dayOf y m e = d → Q (.ref p) H') : sp_parts [.int d] H Q E := ⟨d, rfl, h0, h1, q⟩
local macro_rules | `(tactic| walk_at "sp") => `(tactic| ((with_reducible apply a_parts); (focus (first | assumption | omega)); (focus (first | assumption | omega)); (intro p H' y m e s hp vd ed)))
def sp_monthof : Sp := fun vs H Q _ => ∃ y m e : Int, vs = [.int (My.dayOf y m e)] ∧ My.Valid y m e ∧ 0 ≤ My.dayOf y m e ∧ My.dayOf y m e ≤ 3652058 ∧ (∀ y' m' e', My.Valid y' m' e' → My.dayOf y' m' e' = My.dayOf y m e → y' = y ∧ m' = m) ∧ ∀ H', Same H H' → Q (.int (12 * y + m - 1)) H'
theorem ok_month_of (T : Txt K mg t) : FnOk P w K mg base CX0 4 t.f_month_of t.d_month_of ["day"] (sp_monthof) := by
  have G_parts_of := ok_parts_of (P := P) (w := w) (base := base) T
  refine T.F_month_of.ok sc_month_of (fun vs H Q E h => ?_) (fun cdv A outer s H vs Q E hr h => ?_)
  · obtain ⟨y, m, e, rfl, _⟩ := h
    rfl
  obtain ⟨y, m, e, rfl, v, d0, d1, un, q⟩ := h
  refine ⟨_, (pss_cons (ps_set (i := 1) sc_month_of.nd rfl (Or.inl rfl) (pe_call G_parts_of (hr.mono (by decide)) rfl T.m_parts_of T.k_parts_of T.b_parts_of .nil pass0 (pa_cons (pv 0) pa_nil)))
  (pss_one (ps_ret (pe_op op_sub (pe_op op_add (pe_op op_mulB pe_int (pe_ix ix_tup (pv 1) pe_int (fun _ _ => rfl))) (pe_ix ix_tup (pv 1) pe_int (fun _ _ => rfl))) pe_int)))), z_go (σ := [some _, none]) rfl ?_⟩
  walk_at "run"
  rename_i p H1 y1 m1 e1 s1 hp v1 ed
  obtain ⟨rfl, rfl⟩ := un _ _ _ v1 ed
  have vy := v1.y1
  have vy2 := v1.y2
  walk_at "run"
  exact q _ s1
def sp_monthbegin : Sp := fun vs H Q _ => ∃ y m : Int, vs = [.int (12 * y + m - 1)] ∧ 1 ≤ m ∧ m ≤ 12 ∧ 1 ≤ y ∧ y ≤ 9999 ∧ ∀ H', Same H H' → Q (.int (My.dayOf y m 1)) H'
theorem ok_month_begin (T : Txt K mg t) : FnOk P w K mg base CX0 4 t.f_month_begin t.d_month_begin ["month"] (sp_monthbegin) := by
  have G_day_of := ok_day_of (P := P) (w := w) (base := base) T
  refine T.F_month_begin.ok sc_month_begin (fun vs H Q E h => ?_) (fun cdv A outer s H vs Q E hr h => ?_)
  · obtain ⟨y, m, rfl, _⟩ := h
    rfl
  obtain ⟨y, m, rfl, m1, m2, y1, y2, q⟩ := h
  refine ⟨_, (pss_one (ps_ret (pe_call G_day_of (hr.mono (by decide)) rfl T.m_day_of T.k_day_of T.b_day_of .nil passE0 (pa_cons (pe_op op_fdivB (pv 0) pe_int) (pa_cons (pe_op op_add (pe_op op_mod (pv 0) pe_int) pe_int) (pa_cons pe_int pa_nil)))))), z_go (σ := [some _]) rfl ?_⟩
  walk_at "run"
  rw [show (12 * y + m - 1) / 12 = y by omega, show (12 * y + m - 1) % 12 + 1 = m by omega]
  refine a_dayof (fun nv => ?_) (fun v H' s' => q H' s')
  have p := (My.ml_pos (L := My.leap y) m1 m2).1
  exact absurd ⟨y1, y2, m1, m2, by decide, by show (1 : Int) ≤ My.ml (My.leap y) m; omega⟩ nv
def sp_isday (K : PySem.W.Frag) : Sp := fun vs H Q _ => ∃ x g, vs = [x] ∧ tgIs K H x g ∧ (∀ d : Int, x = .int d → Q (.bl (decide (0 ≤ d) && decide (d ≤ 3652058))) H) ∧ ((∀ d : Int, x ≠ .int d) → Q (.bl false) H)
theorem ok_is_day (T : Txt K mg t) : FnOk P w K mg base CX0 2 t.f_is_day t.d_is_day ["thing"] (sp_isday K) := by
  have G_is_whole := ok_is_whole (P := P) (w := w) (base := base) T
  refine T.F_is_day.ok sc_is_day (fun vs H Q E h => ?_) (fun cdv A outer s H vs Q E hr h => ?_)
  · obtain ⟨x, g, rfl, _⟩ := h
    rfl
  obtain ⟨x, g, rfl, hg, q1, q2⟩ := h
  refine ⟨_, (pss_one (ps_ret (pe_and (pe_call G_is_whole (hr.mono (by decide)) rfl T.m_is_whole T.k_is_whole T.b_is_whole .nil pass0 (pa_cons (pv 0) pa_nil)) (pe_one (pe_chain op_le op_le pe_int (pv 0) (pe_glob (v := .int 3652058) rfl T.g_LAST_DAY ⟨_, rfl⟩)))))), z_go (σ := [some _]) rfl ?_⟩
  walk_at "run"
  refine ⟨x, g, rfl, hg, ?_⟩
  by_cases e : g = .int
  · subst e
    obtain ⟨d, rfl⟩ := tg_int hg
    have q := q1 d rfl
    walk_at "run"
    refine z_iteD (fun h => ?_) (fun h => ?_)
    · rw [decide_eq_true h, Bool.true_and] at q
      walk_at "run"
      exact q
    · rw [decide_eq_false h, Bool.false_and] at q
      exact q
  · have q := q2 (tg_not hg e)
    cases g <;> first | exact absurd rfl e | exact ⟨_, rfl, iteF q⟩
def sp_told (K : PySem.W.Frag) : Sp := fun vs H Q _ => ∃ x g, vs = [x] ∧ tgIs K H x g ∧ (∀ y m e : Int, My.Valid y m e → x = .int (My.dayOf y m e) → 0 ≤ My.dayOf y m e → My.dayOf y m e ≤ 3652058 → ∀ H', Same H H' → Q (.bl (decide (1000 ≤ y) && decide (y ≤ 8999))) H') ∧ ((∀ d : Int, x = .int d → ¬ (0 ≤ d ∧ d ≤ 3652058)) → ∀ H', Same H H' → Q (.bl false) H')
theorem ok_is_told_day (T : Txt K mg t) : FnOk P w K mg base CX0 4 t.f_is_told_day t.d_is_told_day ["thing"] (sp_told K) := by
  have G_is_day := ok_is_day (P := P) (w := w) (base := base) T
  have G_parts_of := ok_parts_of (P := P) (w := w) (base := base) T
  refine T.F_is_told_day.ok sc_is_told_day (fun vs H Q E h => ?_) (fun cdv A outer s H vs Q E hr h => ?_)
  · obtain ⟨x, g, rfl, _⟩ := h
    rfl
  obtain ⟨x, g, rfl, hg, q1, q2⟩ := h
  refine ⟨_, (pss_one (ps_ret (pe_and (pe_call G_is_day (hr.mono (by decide)) rfl T.m_is_day T.k_is_day T.b_is_day .nil pass0 (pa_cons (pv 0) pa_nil)) (pe_one (pe_chain op_le op_le (pe_glob (v := .int 1000) rfl T.g_FIRST_TOLD_YEAR ⟨_, rfl⟩) (pe_ix ix_tup (pe_call G_parts_of (hr.mono (by decide)) rfl T.m_parts_of T.k_parts_of T.b_parts_of .nil pass0 (pa_cons (pv 0) pa_nil)) pe_int (fun _ _ => rfl)) (pe_glob (v := .int 8999) rfl T.g_LAST_TOLD_YEAR ⟨_, rfl⟩)))))), z_go (σ := [some _]) rfl ?_⟩
  walk_at "run"
  refine ⟨x, g, rfl, hg, fun d ed => ?_, fun nd => ⟨_, rfl, iteF (q2 (fun d e => absurd e (nd d)) _ (Same.refl _))⟩⟩
  subst ed
  walk_at "run"
  by_cases hd : 0 ≤ d ∧ d ≤ 3652058
  · rw [decide_eq_true hd.1, decide_eq_true hd.2]
    obtain ⟨d0, d1⟩ := hd
    refine iteT ?_
    walk_at "run"
    rename_i p H1 y m e s1 hp v ed
    have q := q1 y m e v (by rw [ed]) (by omega) (by omega) _ s1
    walk_at "run"
    refine z_iteD (fun h => ?_) (fun h => ?_)
    · rw [decide_eq_true h, Bool.true_and] at q
      walk_at "run"
      exact q
    · rw [decide_eq_false h, Bool.false_and] at q
      exact q
  · have e : (decide (0 ≤ d) && decide (d ≤ 3652058)) = false := by
      rw [Bool.and_eq_false_iff, decide_eq_false_iff_not, decide_eq_false_iff_not]
      omega
    rw [e]
    refine iteF (q2 (fun d' e' => ?_) _ (Same.refl _))
    cases e'
    exact hd
def sp_showday : Sp := fun vs H Q _ => ∃ d : Int, vs = [.int d] ∧ 0 ≤ d ∧ d ≤ 3652058 ∧ ∀ (z : Str) (H' : Hp) (y m e : Int), Same H H' → My.Valid y m e → My.dayOf y m e = d → My.cs z = My.dtx y.toNat m.toNat e.toNat → Q (.str z) H'
theorem log_small {n : Int} (h0 : 0 ≤ n) (h : n < 10000) : n.natAbs.log2 < 1920 := My.log60 (by
  have e : (10 : Nat) ^ 60 = 1000000000000000000000000000000000000000000000000000000000000 := by decide
  rw [e]; omega)
theorem zf4 {y : Int} (h0 : 0 ≤ y) (h : y < 10000) : My.cs (PySem.Txt.zfill (Str.ofString (toString y)) 4) = My.pad4 y.toNat := by
  obtain ⟨n, rfl⟩ := Int.eq_ofNat_of_zero_le h0
  rw [show (4 : Int) = ((4 : Nat) : Int) from rfl, My.zfill_is n 4 (by decide)]
  exact My.fill4 (by omega)
theorem zf2 {y : Int} (h0 : 0 ≤ y) (h : y < 100) : My.cs (PySem.Txt.zfill (Str.ofString (toString y)) 2) = My.pad2 y.toNat := by
  obtain ⟨n, rfl⟩ := Int.eq_ofNat_of_zero_le h0
  rw [show (2 : Int) = ((2 : Nat) : Int) from rfl, My.zfill_is n 2 (by decide)]
  exact My.fill2 (by omega)
theorem join3 (a b c : Str) : My.cs (PySem.Txt.join "-" [a, b, c]) = My.cs a ++ 45 :: (My.cs b ++ 45 :: My.cs c) := by
  show My.cs (Builtin.Str.glued "-" [a, b, c]) = _
  rw [PySem.StrLaws.glued_eq_join]
  show My.cs (a ++ "-" ++ (b ++ "-" ++ c)) = _
  rw [My.cs_app, My.cs_app, My.cs_app, My.cs_app, List.append_assoc, List.append_assoc]
  rfl
theorem ok_show_day (T : Txt K mg t) : FnOk P w K mg base CX0 4 t.f_show_day t.d_show_day ["day"] (sp_showday) := by
  have G_parts_of := ok_parts_of (P := P) (w := w) (base := base) T
  refine T.F_show_day.ok sc_show_day (fun vs H Q E h => ?_) (fun cdv A outer s H vs Q E hr h => ?_)
  · obtain ⟨d, rfl, _⟩ := h
    rfl
  obtain ⟨d, rfl, d0, d1, q⟩ := h
  refine ⟨_, (pss_cons (ps_set (i := 1) sc_show_day.nd rfl (Or.inl rfl) (pe_call G_parts_of (hr.mono (by decide)) rfl T.m_parts_of T.k_parts_of T.b_parts_of .nil pass0 (pa_cons (pv 0) pa_nil)))
  (pss_one (ps_ret (pe_bm PySem.F.plainAttrs_str PySem.F.slot_str_join PySem.F.type_str_join mt_join pe_str (pa_cons (pe_lst (pa_cons (pe_bm PySem.F.plainAttrs_str PySem.F.slot_str_zfill PySem.F.type_str_zfill mt_zfill (pe_callTy call_str_int rfl T.z_str bt_str (pa_cons (pe_ix ix_tup (pv 1) pe_int (fun _ _ => rfl)) pa_nil)) (pa_cons pe_int pa_nil)) (pa_cons (pe_bm PySem.F.plainAttrs_str PySem.F.slot_str_zfill PySem.F.type_str_zfill mt_zfill (pe_callTy call_str_int rfl T.z_str bt_str (pa_cons (pe_ix ix_tup (pv 1) pe_int (fun _ _ => rfl)) pa_nil)) (pa_cons pe_int pa_nil)) (pa_cons (pe_bm PySem.F.plainAttrs_str PySem.F.slot_str_zfill PySem.F.type_str_zfill mt_zfill (pe_callTy call_str_int rfl T.z_str bt_str (pa_cons (pe_ix ix_tup (pv 1) pe_int (fun _ _ => rfl)) pa_nil)) (pa_cons pe_int pa_nil)) pa_nil)))) pa_nil))))), z_go (σ := [some _, none]) rfl ?_⟩
  walk_at "run"
  rename_i p H1 y m e s1 hp v ed
  have v1 := v.y1
  have v2 := v.y2
  have v3 := v.m1
  have v4 := v.m2
  have v5 := v.e1
  have v6 := v.e2
  have v7 : My.mlen y m ≤ 31 := (My.ml_pos (L := My.leap y) v3 v4).2
  refine ⟨log_small (by omega) (by omega), ?_⟩
  walk_at "run"
  refine z_zfill (by decide) ?_
  walk_at "run"
  refine ⟨log_small (by omega) (by omega), ?_⟩
  walk_at "run"
  refine z_zfill (by decide) ?_
  walk_at "run"
  refine ⟨log_small (by omega) (by omega), ?_⟩
  walk_at "run"
  refine z_zfill (by decide) ?_
  walk_at "run"
  refine z_mkl (Nat.le_of_ble_eq_true rfl) (fun l H2 hp2 s2 hl => ?_)
  walk_at "run"
  have c1 := zf4 (y := y) (by omega) (by omega)
  have c2 := zf2 (y := m) (by omega) (by omega)
  have c3 := zf2 (y := e) (by omega) (by omega)
  generalize PySem.Txt.zfill (Str.ofString (toString y)) 4 = a1 at *
  generalize PySem.Txt.zfill (Str.ofString (toString m)) 2 = a2 at *
  generalize PySem.Txt.zfill (Str.ofString (toString e)) 2 = a3 at *
  refine z_join (ts := [a1, a2, a3]) (SqL.of hl) ?_ ?_
  · have n1 : a1.length = 4 := by rw [← My.cs_len, c1]; rfl
    have n2 : a2.length = 2 := by rw [← My.cs_len, c2]; rfl
    have n3 : a3.length = 2 := by rw [← My.cs_len, c3]; rfl
    unfold PySem.JoinOk
    rw [PySem.StrLaws.joinFits (B := 4) (fun x hx => by
      simp only [List.mem_cons, List.not_mem_nil, or_false] at hx
      rcases hx with rfl | rfl | rfl <;> omega) (by show 3 * 4 + 3 * 1 ≤ 16777216; decide)]
    rfl
  · exact q _ _ y m e (s1.trans s2) v ed (by rw [join3, c1, c2, c3]; rfl)
theorem join_len (y : Str) : ∀ (ts : List Str), ∀ p ∈ ts, p.length ≤ (Str.join y ts).length
  | [x], p, h => by rw [List.mem_singleton.mp h]; exact Nat.le_refl _
  | x :: x2 :: r, p, h => by
    show p.length ≤ (x ++ y ++ Str.join y (x2 :: r)).length
    rw [Str.length_append, Str.length_append]
    rcases List.mem_cons.mp h with e | e
    · rw [e]; omega
    · have := join_len y (x2 :: r) p e
      omega
/-! reading a day -/
def lenV : V → V
  | .str z => .int z.length
  | _ => .non
def digV : V → V
  | .str z => .bl (My.digB (My.cs z))
  | _ => .non
theorem lenV_map (ts : List Str) : (ts.map V.str).map lenV = (ts.map fun z => ((z.length : Nat) : Int)).map V.int := by rw [List.map_map, List.map_map]; rfl
theorem digV_map (ts : List Str) : (ts.map V.str).map digV = (ts.map fun z => My.digB (My.cs z)).map V.bl := by rw [List.map_map, List.map_map]; rfl
theorem len422 {ts : List Str} (h : (ts.map fun z => ((z.length : Nat) : Int)) = [4, 2, 2]) : ∃ a b c, ts = [a, b, c] ∧ a.length = 4 ∧ b.length = 2 ∧ c.length = 2 := by
  match ts, h with
  | [a, b, c], h =>
    simp only [List.map_cons, List.map_nil, List.cons.injEq, and_true] at h
    exact ⟨a, b, c, rfl, by omega, by omega, by omega⟩
  | [], h => exact absurd (congrArg List.length h) (by decide)
  | [a], h => exact absurd (congrArg List.length h) (show ¬ (1 : Nat) = 3 by decide)
  | [a, b], h => exact absurd (congrArg List.length h) (show ¬ (2 : Nat) = 3 by decide)
  | a :: b :: c :: d :: r, h =>
    have := congrArg List.length h
    simp at this
def sp_readday (K : PySem.W.Frag) (C : Addr) : Sp := fun vs H Q E => ∃ x, vs = [x] ∧ ((∃ z : Str, x = .str z ∧ z.length ≤ 400 ∧ (∀ y m e, My.DueDay (My.cs z) y m e → ∀ H', Same H H' → Q (.int (My.dayOf y m e)) H') ∧ ((∀ y m e, ¬ My.DueDay (My.cs z) y m e) → ∀ H', Same H H' → E (.ref C) none H')) ∨ ∃ g, tgIs K H x g ∧ g ≠ .str ∧ E (.ref C) none H)
theorem int_fig {z : Str} (h : NumText.AllDigits (My.cs z)) (hn : My.cs z ≠ []) (hl : z.length ≤ 60) : PySem.intText? z = some ((NumText.digitsVal (My.cs z) : Nat) : Int) := by
  have f : My.figs (My.cs z) := ⟨hn, h, by rw [My.cs_len]; exact hl⟩
  obtain ⟨v1, v2⟩ := My.val_dig h
  have i := My.int_of (z := z) (by rw [v1]; exact f)
  rw [v2] at i
  exact i.1
theorem ok_read_day (T : Txt K mg t) : FnOk P w K mg base (CXe P w) 4 t.f_read_day t.d_read_day ["text"] (sp_readday K t.c_NoDay) := by
  have G_day_of := ok_day_of (P := P) (w := w) (base := base) T
  have G_are_digits := ok_are_digits (P := P) (w := w) (base := base) T
  refine T.F_read_day.toD.okE sc_read_day (fun vs H Q E h => ?_) (fun cdv A outer s H vs Q E hr h => ?_)
  · obtain ⟨x, rfl, _⟩ := h
    rfl
  obtain ⟨x, rfl, h⟩ := h
  refine ⟨_, (pss_cons (ps_if (pt_not (pt_val (pe_isi isi_str rfl rfl T.z_isinstance T.z_str bt_str (pv 0)))) (pss_one (ps_raise rfl T.x_NoDay T.n_NoDay T.m_NoDay rfl raisesE (pa_cons pe_str pa_nil))) pss_nil)
  (pss_cons (ps_set (i := 1) sc_read_day.nd rfl (Or.inl rfl) (pe_bm PySem.F.plainAttrs_str PySem.F.slot_str_split PySem.F.type_str_split mt_split (pv 0) (pa_cons pe_str pa_nil)))
  (pss_cons (ps_if (PW.pt (pw_or (pt_cmpR (op_neL hr.units0) (pe_lc rfl (compOk_of (fr := []) (osc := defScope s_read_day) (N := ["text", "parts"]) rfl rfl (by decide +kernel)) (pi_list (pv 1)) (fun _ _ _ _ _ => (pe_callB call_len_str rfl T.z_len PySem.boot_len (pa_cons (pv 0) pa_nil)))) (pe_lst (pa_cons pe_int (pa_cons pe_int (pa_cons pe_int pa_nil)))) (nomark _)) (pw_or1 (pt_not (pt_val (pe_callB (call_all rfl) rfl T.z_all bt_all (pa_cons (pe_lc rfl (compOk_of (fr := []) (osc := defScope s_read_day) (N := ["text", "parts"]) rfl rfl (by decide +kernel)) (pi_list (pv 1)) (fun _ _ _ _ _ => (pe_call G_are_digits (hr.mono (by decide)) rfl T.m_are_digits T.k_are_digits T.b_are_digits .nil pass0 (pa_cons (pv 0) pa_nil)))) pa_nil))))))) (pss_one (ps_raise rfl T.x_NoDay T.n_NoDay T.m_NoDay rfl raisesE (pa_cons pe_str pa_nil))) pss_nil)
  (pss_one (ps_ret (pe_call G_day_of (hr.mono (by decide)) rfl T.m_day_of T.k_day_of T.b_day_of .nil passes_on (pa_cons (pe_callTy call_intT rfl T.z_int bt_int (pa_cons (pe_ix ix_list (pv 1) pe_int (fun _ _ => rfl)) pa_nil)) (pa_cons (pe_callTy call_intT rfl T.z_int bt_int (pa_cons (pe_ix ix_list (pv 1) pe_int (fun _ _ => rfl)) pa_nil)) (pa_cons (pe_callTy call_intT rfl T.z_int bt_int (pa_cons (pe_ix ix_list (pv 1) pe_int (fun _ _ => rfl)) pa_nil)) pa_nil))))))))), z_go (σ := [some _, none]) rfl ?_⟩
  walk_at "run"
  rcases h with ⟨z, rfl, hz, hQ, hE⟩ | ⟨g, hg, hns, hE⟩
  rotate_left
  · refine ⟨_, g, rfl, hg, ?_⟩
    have e : Tg.isStr g = false := by cases g <;> first | rfl | exact absurd rfl hns
    rw [e]
    walk_at "run"
    exact ⟨by decide, hE⟩
  walk_at "run"
  have no : (∀ y m e, ¬ My.DueDay (My.cs z) y m e) → ∀ H', Same H H' → 1 ≤ sizeLine ∧ E (.ref t.c_NoDay) none H' := fun h H' s' => ⟨by decide, hE h H' s'⟩
  refine z_split rfl (le_size (by omega)) (fun p H1 hp s1 hl => ?_)
  have hj := PySem.StrLaws.join_split z "-"
  have hlen : ∀ x ∈ PySem.Txt.split z "-", x.length ≤ 400 := fun x hx => by
    have := join_len "-" _ x hx
    rw [hj] at this
    omega
  have hcount := PyProof.Rows.split_le z "-"
  have h3 := fun A B C h a b c => @My.split3_is z A B C h a b c
  have h4 := fun a b c => @My.split3_of z a b c
  have hL : SqL K H1 p ((PySem.Txt.split z "-").map V.str) := SqL.of hl
  generalize PySem.Txt.split z "-" = ts at *
  walk_at "run"
  refine lcn_list lenV hL (le_size (by rw [List.length_map]; omega)) ?_ ?_
  · intro x H5 S hx s5 k
    obtain ⟨y, hy, rfl⟩ := List.mem_map.mp hx
    have ly := hlen y hy
    walk_at "run"
    refine ⟨y, rfl, le_size (by omega), ?_⟩
    exact k _ (Same.refl _)
  intro acc H2 hacc s2 ha
  rw [lenV_map] at ha
  walk_at "run"
  refine z_mkl (Nat.le_of_ble_eq_true rfl) (fun l3 H3 hp3 s3 hl3 => ?_)
  walk_at "run"
  have hl3 : SqL K H3 l3 (([4, 2, 2] : List Int).map V.int) := SqL.of hl3
  refine z_neL (s3.seq (SqL.of ha)) hl3 ?_
  walk_at "run"
  refine z_iteD (fun heq => ?_) (fun hne => ?_)
  rotate_left
  · walk_at "run"
    refine no (fun y m e d => hne ?_) _ (s1.trans (s2.trans s3))
    obtain ⟨A', B, C, h, a1, a2, b1, b2, c1, c2, _⟩ := d.parts
    obtain ⟨a, b, c, e, ea, eb, ec⟩ := h3 _ _ _ h (My.dig_no45 a2) (My.dig_no45 b2) (My.dig_no45 c2)
    rw [e]
    simp only [List.map_cons, List.map_nil]
    rw [← My.cs_len, ← My.cs_len, ← My.cs_len, ea, eb, ec, a1, b1, c1]
    rfl
  obtain ⟨a, b, c, rfl, la, lb, lc⟩ := len422 heq
  have hcs := h4 _ _ _ rfl
  have hL3 := s3.seq (s2.seq hL)
  walk_at "run"
  refine lcn_list digV hL3 (le_size (by rw [List.length_map]; simp)) ?_ ?_
  · intro x H5 S hx s5 k
    obtain ⟨y, hy, rfl⟩ := List.mem_map.mp hx
    have ly := hlen y hy
    walk_at "run"
    exact a_digits (by omega) (fun H6 s6 => k _ s6)
  intro acc2 H4 hacc2 s4 ha2
  rw [digV_map] at ha2
  have s14 : Same H H4 := s1.trans (s2.trans (s3.trans s4))
  have hL4 := s4.seq hL3
  walk_at "run"
  refine z_all (SqL.of ha2) ?_
  walk_at "run"
  have eall : (([a, b, c].map fun z => My.digB (My.cs z)).all fun b => b) = (My.digB (My.cs a) && (My.digB (My.cs b) && (My.digB (My.cs c) && true))) := rfl
  rw [eall]
  refine z_ite2 (fun hb => ?_) (fun hb => ?_)
  rotate_left
  · walk_at "run"
    refine no (fun y m e d => ?_) _ s14
    obtain ⟨A', B, C, h, a1, a2, b1, b2, c1, c2, _⟩ := d.parts
    obtain ⟨a', b', c', e, ea, eb, ec⟩ := h3 _ _ _ h (My.dig_no45 a2) (My.dig_no45 b2) (My.dig_no45 c2)
    cases e
    have n1 : A' ≠ [] := fun z => by rw [z] at a1; cases a1
    have n2 : B ≠ [] := fun z => by rw [z] at b1; cases b1
    have n3 : C ≠ [] := fun z => by rw [z] at c1; cases c1
    rw [ea, eb, ec, My.digB_iff.mpr ⟨n1, a2⟩, My.digB_iff.mpr ⟨n2, b2⟩, My.digB_iff.mpr ⟨n3, c2⟩] at hb
    cases hb
  · rw [Bool.and_eq_true, Bool.and_eq_true, Bool.and_eq_true] at hb
    obtain ⟨d1, d2, d3, _⟩ := hb
    obtain ⟨n1, d1⟩ := My.digB_iff.mp d1
    obtain ⟨n2, d2⟩ := My.digB_iff.mp d2
    obtain ⟨n3, d3⟩ := My.digB_iff.mp d3
    have D := My.due_parts hcs (by rw [My.cs_len]; exact la) d1 (by rw [My.cs_len]; exact lb) d2 (by rw [My.cs_len]; exact lc) d3
    walk_at "run"
    refine z_ixL hL4 (show atI (([a, b, c] : List Str).map V.str) 0 = some (.str a) from rfl) ?_
    walk_at "run"
    refine z_intT (int_fig d1 n1 (by omega)) (by omega) ?_
    walk_at "run"
    refine z_ixL hL4 (show atI (([a, b, c] : List Str).map V.str) 1 = some (.str b) from rfl) ?_
    walk_at "run"
    refine z_intT (int_fig d2 n2 (by omega)) (by omega) ?_
    walk_at "run"
    refine z_ixL hL4 (show atI (([a, b, c] : List Str).map V.str) 2 = some (.str c) from rfl) ?_
    walk_at "run"
    refine z_intT (int_fig d3 n3 (by omega)) (by omega) ?_
    walk_at "run"
    refine a_dayof (fun nv => ?_) (fun v H5 s5 => ?_)
    · refine hE (fun y m e d => nv ?_) _ s14
      obtain ⟨e1, e2, e3⟩ := D.2 _ _ _ d
      rw [← e1, ← e2, ← e3]
      exact d.1
    · exact hQ _ _ _ (D.1 v) _ (s14.trans s5)
/-! the law's own -/
local macro_rules | `(tactic| walk_at "sp") => `(tactic| with_reducible (first | refine z_ints ?_ | refine z_notB ?_ | refine z_NeB ?_ | refine z_isB ?_ | refine z_EqB ?_))
local macro_rules | `(tactic| walk_at "z1I") => `(tactic| ((fail_if_success (with_reducible apply z_ifs)); (walk_at "z1")))
local macro_rules | `(tactic| walk_at "runI") => `(tactic| repeat (first | walk_at "ji" | walk_at "z1I" | walk_at "z2" | walk_at "sp"))
def sp_lparts : Sp := fun vs H Q _ => ∃ a b : Int, vs = [.int a, .int b] ∧ ∀ (p : Addr) (H' : Hp) (y m e : Int), Same H H' → H' p = some (.tup [.int y, .int m, .int e]) → My.Valid y m e → Q (.ref p) H'
theorem ok_l_parts (T : Txt K mg t) : FnOk P w K mg base CX0 3 t.f_l_parts t.d_l_parts ["_law_one", "_law_other"] (sp_lparts) := by
  have G_l_long := ok_l_long (P := P) (w := w) (base := base) T
  refine T.F_l_parts.ok sc_l_parts (fun vs H Q E h => ?_) (fun cdv A outer s H vs Q E hr h => ?_)
  · obtain ⟨a, b, rfl, _⟩ := h
    rfl
  obtain ⟨a, b, rfl, q⟩ := h
  refine ⟨_, (pss_cons (ps_set (i := 2) sc_l_parts.nd rfl (Or.inl rfl) (pe_op op_add pe_int (pe_op op_mod (pv 0) pe_int)))
  (pss_cons (ps_if (pt_cmpR op_eq (pe_op op_mod (pe_op op_fdivB (pv 0) pe_int) pe_int) pe_int (nomark _)) (pss_one (ps_set (i := 2) sc_l_parts.nd rfl (Or.inl rfl) (pe_ix ix_list (pe_lst (pa_ints [999, 1000, 8999, 9000] rfl)) (pe_op op_mod (pe_op op_fdivB (pv 0) pe_int) pe_int) (fun _ _ => rfl)))) pss_nil)
  (pss_cons (ps_set (i := 3) sc_l_parts.nd rfl (Or.inl rfl) (pe_op op_add pe_int (pe_op op_mod (pv 1) pe_int)))
  (pss_cons (ps_set (i := 4) sc_l_parts.nd rfl (Or.inl rfl) (pe_op op_add pe_int (pe_op op_mod (pe_op op_fdivB (pv 1) pe_int) (pe_call G_l_long (hr.mono (by decide)) rfl T.m_l_long T.k_l_long T.b_l_long .nil pass0 (pa_cons (pv 2) (pa_cons (pv 3) pa_nil))))))
  (pss_cons (ps_if (pt_cmpR op_eq (pe_op op_mod (pe_op op_fdivB (pv 1) pe_int) pe_int) pe_int (nomark _)) (pss_one (ps_set (i := 4) sc_l_parts.nd rfl (Or.inl rfl) (pe_call G_l_long (hr.mono (by decide)) rfl T.m_l_long T.k_l_long T.b_l_long .nil pass0 (pa_cons (pv 2) (pa_cons (pv 3) pa_nil))))) pss_nil)
  (pss_one (ps_ret (pe_tup (pa_cons (pv 2) (pa_cons (pv 3) (pa_cons (pv 4) pa_nil))))))))))), z_go (σ := [some _, some _, none, none, none]) rfl ?_⟩
  walk_at "runI"
  refine z_cut (fun σ' H' => ∃ y : Int, σ' = [some (.int a), some (.int b), some (.int y), none, none] ∧ Same H H' ∧ 1 ≤ y ∧ y ≤ 9999) (fun U hU => ?_) ?_
  · walk_at "run"
    refine z_iteD (fun h => ?_) (fun h => ?_)
    · walk_at "run"
      refine z_mkl (Nat.le_of_ble_eq_true rfl) (fun l H1 hp1 s1 hl => ?_)
      walk_at "run"
      have m1 := Int.emod_nonneg (a / 39996) (show (4 : Int) ≠ 0 by decide)
      have m2 := Int.emod_lt_of_pos (a / 39996) (show (0 : Int) < 4 by decide)
      have key : ∃ y : Int, atI (([999, 1000, 8999, 9000] : List Int).map V.int) (a / 39996 % 4) = some (.int y) ∧ 1 ≤ y ∧ y ≤ 9999 := by
        rcases (by omega : a / 39996 % 4 = 0 ∨ a / 39996 % 4 = 1 ∨ a / 39996 % 4 = 2 ∨ a / 39996 % 4 = 3) with e | e | e | e <;> rw [e] <;> exact ⟨_, rfl, by decide, by decide⟩
      obtain ⟨y, hy, y1, y2⟩ := key
      refine z_ixL (SqL.of hl) hy ?_
      walk_at "run"
      exact hU _ _ ⟨y, rfl, s1, y1, y2⟩
    · walk_at "run"
      exact hU _ _ ⟨_, rfl, Same.refl _, by omega, by omega⟩
  rintro σ H1 ⟨y, rfl, s1, y1, y2⟩
  have m1 : 1 ≤ 1 + b % 12 := by omega
  have m2 : 1 + b % 12 ≤ 12 := by omega
  walk_at "runI"
  generalize 1 + b % 12 = m at *
  have lp := My.ml_pos (L := My.leap y) m1 m2
  have lp1 : 28 ≤ My.mlen y m := lp.1
  have lp2 : My.mlen y m ≤ 31 := lp.2
  refine ⟨y, m, rfl, m1, m2, fun H2 s2 => ?_⟩
  have e1 := Int.emod_nonneg (b / 12) (show My.mlen y m ≠ 0 by omega)
  have e2 := Int.emod_lt_of_pos (b / 12) (show 0 < My.mlen y m by omega)
  walk_at "runI"
  refine z_cut (fun σ' H' => ∃ e : Int, σ' = [some (.int a), some (.int b), some (.int y), some (.int m), some (.int e)] ∧ Same H H' ∧ 1 ≤ e ∧ e ≤ My.mlen y m) (fun U hU => ?_) ?_
  · walk_at "run"
    refine z_iteD (fun h => ?_) (fun h => ?_)
    · walk_at "run"
      refine ⟨y, m, rfl, m1, m2, fun H3 s3 => ?_⟩
      walk_at "run"
      exact hU _ _ ⟨_, rfl, s1.trans (s2.trans s3), by omega, by omega⟩
    · walk_at "run"
      exact hU _ _ ⟨_, rfl, s1.trans s2, by omega, by omega⟩
  rintro σ H3 ⟨e, rfl, s3, d1, d2⟩
  walk_at "run"
  rename_i p H4 n4 s4 e4
  exact q _ _ _ _ _ (s3.trans s4) e4 ⟨y1, y2, m1, m2, d1, d2⟩
def sp_bent : Sp := fun vs H Q _ => ∃ (z : Str) (c : Int), vs = [.str z, .int c] ∧ 1 ≤ z.length ∧ z.length ≤ 150 ∧ ∀ z' : Str, z'.length ≤ 400 → Q (.str z') H
theorem signs17 {d : Int} (h0 : 0 ≤ d) (h1 : d < 17) : ∃ c, atI ("0123456789-/+ \na_" : Str).cps.toList d = some c := by
  have e : ("0123456789-/+ \na_" : Str).cps.toList.length = 17 := by decide
  obtain ⟨k, rfl⟩ := Int.eq_ofNat_of_zero_le h0
  exact ⟨_, atI_nat (List.getElem?_eq_getElem (by rw [e]; omega))⟩
local macro_rules | `(tactic| walk_at "sp") => `(tactic| ((with_reducible apply z_slS); (focus (exact le_size (by omega)))))
theorem ok_l_bent (T : Txt K mg t) : FnOk P w K mg base CX0 1 t.f_l_bent t.d_l_bent ["_law_text", "_law_cell"] (sp_bent) := by
  refine T.F_l_bent.ok sc_l_bent (fun vs H Q E h => ?_) (fun cdv A outer s H vs Q E hr h => ?_)
  · obtain ⟨z, c, rfl, _⟩ := h
    rfl
  obtain ⟨z, c, rfl, h1, h2, q⟩ := h
  refine ⟨_, (pss_cons (ps_set (i := 2) sc_l_bent.nd rfl (Or.inl rfl) (pe_ix ix_str pe_str (pe_op op_mod (pv 1) pe_int) (fun _ _ => rfl)))
  (pss_cons (ps_set (i := 3) sc_l_bent.nd rfl (Or.inl rfl) (pe_op op_mod (pe_op op_fdivB (pv 1) pe_int) (pe_callB call_len_str rfl T.z_len PySem.boot_len (pa_cons (pv 0) pa_nil))))
  (pss_cons (ps_if (pt_cmpR op_eq (pe_op op_mod (pe_op op_fdivB (pv 1) pe_int) pe_int) pe_int (nomark _)) (pss_one (ps_ret (pe_op op_addS (pe_op op_addS (pe_slice sl_str (pv 0) po_none (po_some (pv 3))) (pv 2)) (pe_slice sl_str (pv 0) (po_some (pe_op op_add (pv 3) pe_int)) po_none)))) pss_nil)
  (pss_cons (ps_if (pt_cmpR op_eq (pe_op op_mod (pe_op op_fdivB (pv 1) pe_int) pe_int) pe_int (nomark _)) (pss_one (ps_ret (pe_op op_addS (pe_slice sl_str (pv 0) po_none (po_some (pv 3))) (pe_slice sl_str (pv 0) (po_some (pe_op op_add (pv 3) pe_int)) po_none)))) pss_nil)
  (pss_cons (ps_set (i := 3) sc_l_bent.nd rfl (Or.inl rfl) (pe_op op_mod (pe_op op_fdivB (pv 1) pe_int) (pe_op op_add (pe_callB call_len_str rfl T.z_len PySem.boot_len (pa_cons (pv 0) pa_nil)) pe_int)))
  (pss_one (ps_ret (pe_op op_addS (pe_op op_addS (pe_slice sl_str (pv 0) po_none (po_some (pv 3))) (pv 2)) (pe_slice sl_str (pv 0) (po_some (pv 3)) po_none))))))))), z_go (σ := [some _, some _, none, none]) rfl ?_⟩
  walk_at "run"
  have m1' := Int.emod_nonneg c (show (17 : Int) ≠ 0 by decide)
  have m2' := Int.emod_lt_of_pos c (show (0 : Int) < 17 by decide)
  obtain ⟨k, hk⟩ := signs17 m1' m2'
  refine z_ixS (by decide) hk ?_
  walk_at "run"
  refine ⟨z, rfl, le_size (by omega), ?_⟩
  walk_at "run"
  have sl := fun lo hi => PySem.Txt.slice_le z lo hi
  have k1 : (⟨#[k]⟩ : Str).length = 1 := rfl
  refine z_iteD (fun h3 => ?_) (fun h3 => ?_)
  · walk_at "run"
    generalize c / 51 % (z.length : Int) = at_ at *
    have x1 := sl none (some at_)
    have x2 := sl (some (at_ + 1)) none
    refine z_addS (le_size (by omega)) ?_
    walk_at "run"
    refine z_addS (le_size (by rw [Str.length_append]; omega)) ?_
    exact q _ (by rw [Str.length_append, Str.length_append]; omega)
  · walk_at "run"
    refine z_iteD (fun h4 => ?_) (fun h4 => ?_)
    · walk_at "run"
      generalize c / 51 % (z.length : Int) = at_ at *
      have x1 := sl none (some at_)
      have x2 := sl (some (at_ + 1)) none
      refine z_addS (le_size (by omega)) ?_
      exact q _ (by rw [Str.length_append]; omega)
    · walk_at "run"
      refine ⟨z, rfl, le_size (by omega), ?_⟩
      walk_at "run"
      generalize c / 51 % ((z.length : Int) + 1) = at_ at *
      have x1 := sl none (some at_)
      have x2 := sl (some at_) none
      refine z_addS (le_size (by omega)) ?_
      walk_at "run"
      refine z_addS (le_size (by rw [Str.length_append]; omega)) ?_
      exact q _ (by rw [Str.length_append, Str.length_append]; omega)
def sp_due8 : Sp := fun vs H Q _ => ∃ z : Str, vs = [.str z] ∧ z.length ≤ 400 ∧ (∀ y m e, My.DueDay (My.cs z) y m e → ∀ H', Same H H' → Q (.int (My.dayOf y m e)) H') ∧ ((∀ y m e, ¬ My.DueDay (My.cs z) y m e) → ∀ H', Same H H' → Q .non H')
theorem ten_of {c : List Nat} (h : c.length = 10) : ∃ c0 c1 c2 c3 c4 c5 c6 c7 c8 c9, c = [c0, c1, c2, c3, c4, c5, c6, c7, c8, c9] := by
  match c, h with
  | [c0, c1, c2, c3, c4, c5, c6, c7, c8, c9], _ => exact ⟨_, _, _, _, _, _, _, _, _, _, rfl⟩
theorem one45 (c : Nat) : (⟨#[c]⟩ : Str) = "-" ↔ c = 45 := ⟨fun h => by
    have := congrArg My.cs h
    exact List.head_eq_of_cons_eq (show [c] = [45] from this), fun h => by rw [h]; rfl⟩
theorem in_dig' (c : Nat) : (Builtin.Str.occurrences ("0123456789" : Str) ⟨#[c]⟩ 0 ("0123456789" : Str).length 1).isEmpty = !decide (48 ≤ c ∧ c ≤ 57) := by rw [← My.in_digits, Bool.not_not]
theorem all_upto {p : Nat → Bool} {c : List Nat} {i : Nat} {x : Nat} (hx : c[i]? = some x) (h : ∀ j y, j < i → c[j]? = some y → p y = true) (hp : p x = true) : ∀ j y, j < i + 1 → c[j]? = some y → p y = true := fun j y hj e => by
  rcases Nat.lt_succ_iff_lt_or_eq.mp hj with k | k
  · exact h j y k e
  · subst k
    rw [hx] at e
    cases e
    exact hp
theorem ok_l_due (T : Txt K mg t) : FnOk P w K mg base CX0 4 t.f_l_due t.d_l_due ["_law_text"] (sp_due8) := by
  have G_l_long := ok_l_long (P := P) (w := w) (base := base) T
  have G_l_count := ok_l_count (P := P) (w := w) (base := base) T
  refine T.F_l_due.ok sc_l_due (fun vs H Q E h => ?_) (fun cdv A outer s H vs Q E hr h => ?_)
  · obtain ⟨z, rfl, _⟩ := h
    rfl
  obtain ⟨z, rfl, hz, hQ, hN⟩ := h
  have hlen := My.cs_len z
  refine ⟨_, (pss_cons (ps_if (PW.pt (pw_or (pt_cmpR op_ne (pe_callB call_len_str rfl T.z_len PySem.boot_len (pa_cons (pv 0) pa_nil)) pe_int (nomark _)) (pw_or (pt_cmpR op_ne (pe_ix ix_str (pv 0) pe_int (fun _ _ => rfl)) pe_str (nomark _)) (pw_or1 (pt_cmpR op_ne (pe_ix ix_str (pv 0) pe_int (fun _ _ => rfl)) pe_str (nomark _)))))) (pss_one (ps_ret pe_non)) pss_nil)
  (pss_cons (ps_for PassesOwn.never rfl (pi_str (pe_op op_addS (pe_op op_addS (pe_slice sl_str (pv 0) po_none (po_some pe_int)) (pe_slice sl_str (pv 0) (po_some pe_int) (po_some pe_int))) (pe_slice sl_str (pv 0) (po_some pe_int) po_none))) (pg_name (i := 1) sc_l_due.nd rfl (Or.inl rfl)) (pss_one (ps_if (pt_cmpR op_notIn_str (pv 1) pe_str rfl) (pss_one (ps_ret pe_non)) pss_nil)))
  (pss_cons (ps_set (i := 2) sc_l_due.nd rfl (Or.inl rfl) (pe_callTy call_intT rfl T.z_int bt_int (pa_cons (pe_slice sl_str (pv 0) po_none (po_some pe_int)) pa_nil)))
  (pss_cons (ps_set (i := 3) sc_l_due.nd rfl (Or.inl rfl) (pe_callTy call_intT rfl T.z_int bt_int (pa_cons (pe_slice sl_str (pv 0) (po_some pe_int) (po_some pe_int)) pa_nil)))
  (pss_cons (ps_set (i := 4) sc_l_due.nd rfl (Or.inl rfl) (pe_callTy call_intT rfl T.z_int bt_int (pa_cons (pe_slice sl_str (pv 0) (po_some pe_int) po_none) pa_nil)))
  (pss_cons (ps_if (PW.pt (pw_or (pt_cmpR op_lt (pv 2) pe_int (nomark _)) (pw_or (pt_cmpR op_lt (pv 3) pe_int (nomark _)) (pw_or (pt_cmpR op_gt (pv 3) pe_int (nomark _)) (pw_or (pt_cmpR op_lt (pv 4) pe_int (nomark _)) (pw_or1 (pt_cmpR op_gt (pv 4) (pe_call G_l_long (hr.mono (by decide)) rfl T.m_l_long T.k_l_long T.b_l_long .nil pass0 (pa_cons (pv 2) (pa_cons (pv 3) pa_nil))) (nomark _)))))))) (pss_one (ps_ret pe_non)) pss_nil)
  (pss_one (ps_ret (pe_call G_l_count (hr.mono (by decide)) rfl T.m_l_count T.k_l_count T.b_l_count .nil pass0 (pa_cons (pv 2) (pa_cons (pv 3) (pa_cons (pv 4) pa_nil)))))))))))), z_go (σ := [some _, none, none, none, none]) rfl ?_⟩
  walk_at "run"
  refine ⟨z, rfl, le_size (by omega), ?_⟩
  walk_at "run"
  refine z_iteD (fun h10 => ?_) (fun h10 => ?_)
  rotate_left
  · walk_at "run"
    refine hN (fun y m e d => ?_) _ (Same.refl _)
    have := congrArg List.length d.2
    rw [My.dtx_len] at this
    omega
  obtain ⟨c0, c1, c2, c3, c4, c5, c6, c7, c8, c9, hc⟩ := ten_of (c := My.cs z) (by omega)
  have hdue : ∀ y m e, My.DueDay (My.cs z) y m e → c4 = 45 ∧ c7 = 45 ∧ NumText.AllDigits [c0, c1, c2, c3, c5, c6, c8, c9] := fun y m e d => by
    obtain ⟨A', B, C, h, a1, a2, b1, b2, d1, d2, _⟩ := d.parts
    rw [hc] at h
    match A', a1 with
    | [p1, p2, p3, p4], _ =>
      match B, b1 with
      | [p5, p6], _ =>
        match C, d1 with
        | [p7, p8], _ =>
          simp only [List.cons_append, List.nil_append, List.cons.injEq, and_true] at h
          obtain ⟨rfl, rfl, rfl, rfl, e4, rfl, rfl, e7, rfl, rfl⟩ := h
          refine ⟨e4, e7, fun x hx => ?_⟩
          have : x ∈ [c0, c1, c2, c3] ++ ([c5, c6] ++ [c8, c9]) := hx
          rcases List.mem_append.mp this with q | q
          · exact a2 x q
          · rcases List.mem_append.mp q with q | q
            · exact b2 x q
            · exact d2 x q
  walk_at "run"
  have hat4 : atI z.cps.toList 4 = some c4 := by rw [show z.cps.toList = _ from hc]; rfl
  refine z_ixS (le_size (by omega)) hat4 ?_
  walk_at "run"
  refine z_iteD (fun h4 => ?_) (fun h4 => ?_)
  rotate_left
  · walk_at "run"
    exact hN (fun y m e d => h4 ((one45 _).mpr (hdue _ _ _ d).1)) _ (Same.refl _)
  walk_at "run"
  have hat7 : atI z.cps.toList 7 = some c7 := by rw [show z.cps.toList = _ from hc]; rfl
  refine z_ixS (le_size (by omega)) hat7 ?_
  walk_at "run"
  refine z_iteD (fun h7 => ?_) (fun h7 => ?_)
  rotate_left
  · walk_at "run"
    exact hN (fun y m e d => h7 ((one45 _).mpr (hdue _ _ _ d).2.1)) _ (Same.refl _)
  rw [one45] at h4 h7
  subst h4 h7
  walk_at "run"
  have k1 : My.cs (PySem.Txt.slice z none (some 4)) = [c0, c1, c2, c3] := by rw [show (4 : Int) = ((4 : Nat) : Int) from rfl, My.sl_0s, hc]; rfl
  have k2 : My.cs (PySem.Txt.slice z (some 5) (some 7)) = [c5, c6] := by rw [show (5 : Int) = ((5 : Nat) : Int) from rfl, show (7 : Int) = ((7 : Nat) : Int) from rfl, My.sl_ss, hc]; rfl
  have k3 : My.cs (PySem.Txt.slice z (some 8) none) = [c8, c9] := by rw [show (8 : Int) = ((8 : Nat) : Int) from rfl, My.sl_s0, hc]; rfl
  have l1 : (PySem.Txt.slice z none (some 4)).length = 4 := by rw [← My.cs_len, k1]; rfl
  have l2 : (PySem.Txt.slice z (some 5) (some 7)).length = 2 := by rw [← My.cs_len, k2]; rfl
  have l3 : (PySem.Txt.slice z (some 8) none).length = 2 := by rw [← My.cs_len, k3]; rfl
  refine z_addS (le_size (by omega)) ?_
  walk_at "run"
  refine z_addS (le_size (by rw [Str.length_append]; omega)) ?_
  walk_at "run"
  have k4 : My.cs (PySem.Txt.slice z none (some 4) ++ PySem.Txt.slice z (some 5) (some 7) ++ PySem.Txt.slice z (some 8) none) = [c0, c1, c2, c3, c5, c6, c8, c9] := by rw [My.cs_app, My.cs_app, k1, k2, k3]; rfl
  generalize PySem.Txt.slice z none (some 4) ++ PySem.Txt.slice z (some 5) (some 7) ++ PySem.Txt.slice z (some 8) none = x at *
  refine f_str (fun i σ HD => (∃ u, σ = [some (.str z), u, none, none, none]) ∧ HD = H ∧ ∀ j y, j < i → (My.cs x)[j]? = some y → decide (48 ≤ y ∧ y ≤ 57) = true) ⟨⟨_, rfl⟩, rfl, fun j y hj => absurd hj (Nat.not_lt_zero _)⟩ ?_ ?_
  · rintro i c σ HD hc' ⟨⟨u, rfl⟩, rfl, hup⟩
    walk_at "run"
    rw [in_dig']
    walk_at "run"
    refine z_iteD (fun hd => ?_) (fun hd => ?_)
    · walk_at "run"
      exact ⟨⟨_, rfl⟩, rfl, all_upto hc' hup (decide_eq_true hd)⟩
    · walk_at "run"
      refine hN (fun y m e d => hd ((hdue _ _ _ d).2.2 c ?_)) _ (Same.refl _)
      rw [← k4]
      exact List.mem_of_getElem? hc'
  rintro σ HD ⟨⟨u, rfl⟩, rfl, hup⟩
  have hall : NumText.AllDigits [c0, c1, c2, c3, c5, c6, c8, c9] := fun x' hx => by
    rw [← k4] at hx
    obtain ⟨j, hj, ej⟩ := List.getElem_of_mem hx
    have hjs : j < x.cps.size := by
      have : (My.cs x).length = x.cps.size := by simp
      omega
    exact of_decide_eq_true (hup j x' hjs (by rw [List.getElem?_eq_getElem hj, ej]))
  have hA : NumText.AllDigits [c0, c1, c2, c3] := fun x hx => hall x (by simp only [List.mem_cons, List.not_mem_nil, or_false] at hx ⊢; omega)
  have hB : NumText.AllDigits [c5, c6] := fun x hx => hall x (by simp only [List.mem_cons, List.not_mem_nil, or_false] at hx ⊢; omega)
  have hC : NumText.AllDigits [c8, c9] := fun x hx => hall x (by simp only [List.mem_cons, List.not_mem_nil, or_false] at hx ⊢; omega)
  have D := My.due_parts (c := My.cs z) (A := [c0, c1, c2, c3]) (B := [c5, c6]) (C := [c8, c9]) hc rfl hA rfl hB rfl hC
  walk_at "run"
  refine z_intT (int_fig (by rw [k1]; exact hA) (by rw [k1]; exact List.cons_ne_nil _ _) (by omega)) (by omega) ?_
  walk_at "run"
  refine z_intT (int_fig (by rw [k2]; exact hB) (by rw [k2]; exact List.cons_ne_nil _ _) (by omega)) (by omega) ?_
  walk_at "run"
  refine z_intT (int_fig (by rw [k3]; exact hC) (by rw [k3]; exact List.cons_ne_nil _ _) (by omega)) (by omega) ?_
  rw [k1, k2, k3]
  have A9 := (My.four_is rfl hA).2
  generalize NumText.digitsVal [c0, c1, c2, c3] = y at *
  generalize NumText.digitsVal [c5, c6] = m at *
  generalize NumText.digitsVal [c8, c9] = e at *
  have no : ¬ My.Valid y m e → ∀ y' m' e', ¬ My.DueDay (My.cs z) y' m' e' := fun nv y' m' e' d => nv (by
    obtain ⟨e1, e2, e3⟩ := D.2 _ _ _ d
    rw [← e1, ← e2, ← e3]
    exact d.1)
  walk_at "run"
  refine z_iteD (fun q1 => ?_) (fun q1 => ?_)
  · walk_at "run"
    exact hN (no fun v => by have := v.y1; omega) _ (Same.refl _)
  walk_at "run"
  refine z_iteD (fun q2 => ?_) (fun q2 => ?_)
  · walk_at "run"
    exact hN (no fun v => by have := v.m1; omega) _ (Same.refl _)
  walk_at "run"
  refine z_iteD (fun q3 => ?_) (fun q3 => ?_)
  · walk_at "run"
    exact hN (no fun v => by have := v.m2; omega) _ (Same.refl _)
  walk_at "run"
  refine z_iteD (fun q4 => ?_) (fun q4 => ?_)
  · walk_at "run"
    exact hN (no fun v => by have := v.e1; omega) _ (Same.refl _)
  walk_at "run"
  refine ⟨_, _, rfl, by omega, by omega, fun H1 s1 => ?_⟩
  walk_at "run"
  refine z_iteD (fun q5 => ?_) (fun q5 => ?_)
  · walk_at "run"
    exact hN (no fun v => by have := v.e2; omega) _ s1
  walk_at "run"
  refine ⟨_, _, _, rfl, by omega, by omega, fun H2 s2 => ?_⟩
  exact hQ _ _ _ (D.1 ⟨by omega, by omega, by omega, by omega, by omega, by omega⟩) _ (s1.trans s2)
def sp_lread8 (K : PySem.W.Frag) : Sp := fun vs H Q _ => ∃ x d, vs = [x, d] ∧ ((∃ (z : Str) (y m e : Int), x = .str z ∧ z.length ≤ 400 ∧ d = .int (My.dayOf y m e) ∧ My.DueDay (My.cs z) y m e) ∨ (d = .non ∧ ((∃ z : Str, x = .str z ∧ z.length ≤ 400 ∧ ∀ y m e, ¬ My.DueDay (My.cs z) y m e) ∨ ∃ g, tgIs K H x g ∧ g ≠ .str))) ∧ ∀ H', Same H H' → Q (.bl true) H'
theorem z_tryA {i : Nat} {sp : Sp} {dvs : List V} {C : Addr} {Mt : Addr → Prop} {tA : TA} {ts : TS} {σ : St} {H : Hp} {nx bk ct : St → Hp → Prop} {rt : VK} (h : tA σ H fun vs H1 => sp (vs ++ dvs) H1 (fun v H2 => nx (σ.set i (some v)) H2) fun cls _ H2 => ∃ C, cls = .ref C ∧ Mt C ∧ ts ⟨nx, rt, bk, ct⟩ σ H2) : tTryA i sp dvs C Mt tA ts ⟨nx, rt, bk, ct⟩ σ H := h
theorem ok_l_read (T : Txt K mg t) : FnOk P w K mg base CX0 5 t.f_l_read t.d_l_read ["_law_text", "_law_due_here"] (sp_lread8 K) := by
  have G_l_whole := ok_l_whole (P := P) (w := w) (base := base) T
  have G_read_day := ok_read_day (P := P) (w := w) (base := base) T
  refine T.F_l_read.ok sc_l_read (fun vs H Q E h => ?_) (fun cdv A outer s H vs Q E hr h => ?_)
  · obtain ⟨x, d, rfl, _⟩ := h
    rfl
  obtain ⟨x, d, rfl, h, q⟩ := h
  refine ⟨_, (pss_cons (ps_set (i := 2) sc_l_read.nd rfl (Or.inl rfl) pe_non)
  (pss_cons (ps_set (i := 3) sc_l_read.nd rfl (Or.inl rfl) pe_bl)
  (pss_cons (ps_tryA (T := t.c_NoDay) G_read_day (hr.mono (by decide)) rfl T.m_read_day T.k_read_day T.b_read_day .nil (fun _ _ z => z) rfl rfl (pa_cons (pv 0) pa_nil) sc_l_read.nd rfl (Or.inl rfl) (fun _ => (pss_one (ps_set (i := 3) sc_l_read.nd rfl (Or.inl rfl) pe_bl))) (i := 2))
  (pss_cons (ps_if (pt_cmpR op_isN' (pv 1) pe_non (nomark _)) (pss_one (ps_ret (pv 3))) pss_nil)
  (pss_one (ps_ret (pe_and (pe_not (pv 3)) (pe_and (pe_call G_l_whole (hr.mono (by decide)) rfl T.m_l_whole T.k_l_whole T.b_l_whole .nil pass0 (pa_cons (pv 2) pa_nil)) (pe_one (pe_cmpR op_eq (pv 2) (pv 1) (nomark _))))))))))), z_go (σ := [some _, some _, none, none]) rfl ?_⟩
  walk_at "run"
  refine z_tryA ?_
  walk_at "run"
  rcases h with ⟨z, y, m, e, rfl, hz, rfl, D⟩ | ⟨rfl, ⟨z, rfl, hz, nd⟩ | ⟨g, hg, hns⟩⟩
  · refine ⟨_, rfl, .inl ⟨z, rfl, hz, fun y' m' e' D' H1 s1 => ?_, fun nd => absurd D (nd _ _ _)⟩⟩
    obtain ⟨rfl, rfl, rfl⟩ := D.uniq D'
    rw [List.set_cons_succ, List.set_cons_succ, List.set_cons_zero]
    walk_at "run"
    refine ⟨_, .int, rfl, True.intro, ?_⟩
    walk_at "run"
    rw [decide_eq_true rfl]
    exact q _ s1
  · refine ⟨_, rfl, .inl ⟨z, rfl, hz, fun y' m' e' D' => absurd D' (nd _ _ _), fun _ H1 s1 => ⟨t.c_NoDay, rfl, ⟨rfl, T.m_NoDay, T.e_NoDay, by decide⟩, ?_⟩⟩⟩
    walk_at "run"
    exact q _ s1
  · refine ⟨_, rfl, .inr ⟨g, hg, hns, t.c_NoDay, rfl, ⟨rfl, T.m_NoDay, T.e_NoDay, by decide⟩, ?_⟩⟩
    walk_at "run"
    exact q _ (Same.refl _)
def sp_months (K : PySem.W.Frag) : Sp := fun vs H Q _ => ∃ (p : Addr) (y m e : Int), vs = [.ref p, .int (My.dayOf y m e)] ∧ SqT K H p [.int y, .int m, .int e] ∧ My.Valid y m e ∧ ∀ H', Same H H' → Q (.bl true) H'
theorem ok_l_months (T : Txt K mg t) : FnOk P w K mg base CX0 5 t.f_l_months t.d_l_months ["_law_parts_here", "_law_day"] (sp_months K) := by
  have G_l_whole := ok_l_whole (P := P) (w := w) (base := base) T
  have G_month_of := ok_month_of (P := P) (w := w) (base := base) T
  have G_month_begin := ok_month_begin (P := P) (w := w) (base := base) T
  have G_l_count := ok_l_count (P := P) (w := w) (base := base) T
  refine T.F_l_months.ok sc_l_months (fun vs H Q E h => ?_) (fun cdv A outer s H vs Q E hr h => ?_)
  · obtain ⟨p, y, m, e, rfl, _⟩ := h
    rfl
  obtain ⟨p, y, m, e, rfl, hp, v, q⟩ := h
  have v1 := v.y1
  have v2 := v.y2
  have v3 := v.m1
  have v4 := v.m2
  refine ⟨_, (pss_cons (ps_set (i := 2) sc_l_months.nd rfl (Or.inl rfl) (pe_call G_month_of (hr.mono (by decide)) rfl T.m_month_of T.k_month_of T.b_month_of .nil pass0 (pa_cons (pv 1) pa_nil)))
  (pss_cons (ps_if (PW.pt (pw_or (pt_not (pt_val (pe_call G_l_whole (hr.mono (by decide)) rfl T.m_l_whole T.k_l_whole T.b_l_whole .nil pass0 (pa_cons (pv 2) pa_nil)))) (pw_or1 (pt_cmpR op_ne (pv 2) (pe_op op_sub (pe_op op_add (pe_op op_mulB pe_int (pe_ix ix_tup (pv 0) pe_int (fun _ _ => rfl))) (pe_ix ix_tup (pv 0) pe_int (fun _ _ => rfl))) pe_int) (nomark _))))) (pss_one (ps_ret pe_bl)) pss_nil)
  (pss_cons (ps_set (i := 3) sc_l_months.nd rfl (Or.inl rfl) (pe_call G_month_begin (hr.mono (by decide)) rfl T.m_month_begin T.k_month_begin T.b_month_begin .nil pass0 (pa_cons (pv 2) pa_nil)))
  (pss_one (ps_ret (pe_and (pe_call G_l_whole (hr.mono (by decide)) rfl T.m_l_whole T.k_l_whole T.b_l_whole .nil pass0 (pa_cons (pv 3) pa_nil)) (pe_one (pe_cmpR op_eq (pv 3) (pe_call G_l_count (hr.mono (by decide)) rfl T.m_l_count T.k_l_count T.b_l_count .nil pass0 (pa_cons (pe_ix ix_tup (pv 0) pe_int (fun _ _ => rfl)) (pa_cons (pe_ix ix_tup (pv 0) pe_int (fun _ _ => rfl)) (pa_cons pe_int pa_nil)))) (nomark _))))))))), z_go (σ := [some _, some _, none, none]) rfl ?_⟩
  walk_at "run"
  refine ⟨y, m, e, rfl, v, v.dbd.1, v.dbd.2, fun y' m' e' v' h' => ?_, fun H1 s1 => ?_⟩
  · obtain ⟨r1, r2, _⟩ := v'.inj v h'
    exact ⟨r1, r2⟩
  have hp1 := s1.tup hp
  walk_at "run"
  refine ⟨_, .int, rfl, True.intro, ?_⟩
  walk_at "run"
  refine z_iteD (fun _ => ?_) (fun h => absurd rfl h)
  walk_at "run"
  refine ⟨y, m, rfl, v3, v4, v1, v2, fun H2 s2 => ?_⟩
  have hp2 := s2.tup hp1
  walk_at "run"
  refine ⟨_, .int, rfl, True.intro, ?_⟩
  walk_at "run"
  refine ⟨y, m, 1, rfl, v3, v4, fun H3 s3 => ?_⟩
  walk_at "run"
  rw [decide_eq_true rfl]
  exact q _ (s1.trans (s2.trans s3))
theorem a_isday_no {K : PySem.W.Frag} {H : Hp} {Q : VK} {E : XK} {x : V} {g : Tg} (hg : tgIs K H x g) (hx : ∀ d : Int, x = .int d → ¬ (0 ≤ d ∧ d ≤ 3652058)) (k : Q (.bl false) H) : sp_isday K [x] H Q E := ⟨x, g, rfl, hg, fun d hd => by
      have : (decide (0 ≤ d) && decide (d ≤ 3652058)) = false := by
        rw [Bool.and_eq_false_iff, decide_eq_false_iff_not, decide_eq_false_iff_not]
        have := hx d hd
        omega
      rw [this]
      exact k, fun _ => k⟩
theorem a_told_no {K : PySem.W.Frag} {H : Hp} {Q : VK} {E : XK} {x : V} {g : Tg} (hg : tgIs K H x g) (hx : ∀ d : Int, x = .int d → ¬ (0 ≤ d ∧ d ≤ 3652058)) (k : ∀ H', Same H H' → Q (.bl false) H') : sp_told K [x] H Q E := ⟨x, g, rfl, hg, fun y m e _ hd h0 h1 => absurd ⟨h0, h1⟩ (hx _ hd), fun _ => k⟩
def sp_noday : Sp := fun vs H Q _ => ∃ c : Int, vs = [.int c] ∧ ∀ H', Same H H' → Q (.bl true) H'
theorem p60 : (10 : Int) ^ (60 : Int).toNat = 1000000000000000000000000000000000000000000000000000000000000 := by decide
theorem ok_l_no_day (T : Txt K mg t) : FnOk P w K mg base CX0 6 t.f_l_no_day t.d_l_no_day ["_law_cell"] (sp_noday) := by
  have G_is_day := ok_is_day (P := P) (w := w) (base := base) T
  have G_is_told_day := ok_is_told_day (P := P) (w := w) (base := base) T
  have G_l_read := ok_l_read (P := P) (w := w) (base := base) T
  refine T.F_l_no_day.ok sc_l_no_day (fun vs H Q E h => ?_) (fun cdv A outer s H vs Q E hr h => ?_)
  · obtain ⟨c, rfl, _⟩ := h
    rfl
  obtain ⟨c, rfl, q⟩ := h
  refine ⟨_, (pss_cons (ps_set (i := 1) sc_l_no_day.nd rfl (Or.inl rfl) (pe_op op_mod (pe_op op_fdivB (pv 0) pe_int) (pe_op op_pow pe_int pe_int)))
  (pss_cons (ps_set (i := 2) sc_l_no_day.nd rfl (Or.inl rfl) (pe_ix ix_list (pe_lst (pa_cons (pe_op op_sub (pe_un un_neg pe_int) (pe_op op_fdivB (pv 1) pe_int)) (pa_cons (pe_op op_add pe_int (pe_op op_fdivB (pv 1) pe_int)) (pa_cons pe_bl (pa_cons pe_bl (pa_cons pe_non (pa_cons pe_str (pa_cons (pe_lst (pa_cons pe_int pa_nil)) (pa_cons (pe_tup (pa_cons pe_int (pa_cons pe_int pa_nil))) pa_nil))))))))) (pe_op op_mod (pv 0) pe_int) (fun _ _ => rfl)))
  (pss_cons (ps_if (PW.pt (pw_or (pt_cmpR op_notB (pe_call G_is_day (hr.mono (by decide)) rfl T.m_is_day T.k_is_day T.b_is_day .nil pass0 (pa_cons (pv 2) pa_nil)) pe_bl (nomark _)) (pw_or1 (pt_cmpR op_notB (pe_call G_is_told_day (hr.mono (by decide)) rfl T.m_is_told_day T.k_is_told_day T.b_is_told_day .nil pass0 (pa_cons (pv 2) pa_nil)) pe_bl (nomark _))))) (pss_one (ps_ret pe_bl)) pss_nil)
  (pss_one (ps_ret (pe_or (pe_isi isi_str rfl rfl T.z_isinstance T.z_str bt_str (pv 2)) (pe_one (pe_call G_l_read (hr.mono (by decide)) rfl T.m_l_read T.k_l_read T.b_l_read .nil pass0 (pa_cons (pv 2) (pa_cons pe_non pa_nil)))))))))), z_go (σ := [some _, none, none]) rfl ?_⟩
  walk_at "run"
  rw [p60]
  have f1 := Int.emod_nonneg (c / 8) (show (1000000000000000000000000000000000000000000000000000000000000 : Int) ≠ 0 by decide)
  have f2 := Int.emod_lt_of_pos (c / 8) (show (0 : Int) < 1000000000000000000000000000000000000000000000000000000000000 by decide)
  generalize c / 8 % 1000000000000000000000000000000000000000000000000000000000000 = far at *
  walk_at "run"
  refine z_mkl (Nat.le_of_ble_eq_true rfl) (fun l1 H1 hp1 s1 hl1 => ?_)
  walk_at "run"
  rename_i p2 H2 n2 s2 e2
  refine z_mkl (Nat.le_of_ble_eq_true rfl) (fun l3 H3 hp3 s3 hl3 => ?_)
  walk_at "run"
  have m1 := Int.emod_nonneg c (show (8 : Int) ≠ 0 by decide)
  have m2 := Int.emod_lt_of_pos c (show (0 : Int) < 8 by decide)
  have s13 : Same H H3 := s1.trans (s2.trans s3)
  obtain ⟨x, g, hat, hg, hx⟩ : ∃ x g, atI [V.int (-1 - far / 10), .int (3652059 + far / 10), .bl true, .bl false, .non, .str "2000-01-01", .ref l1, .ref p2] (c % 8) = some x ∧ tgIs K H3 x g ∧ ∀ d : Int, x = .int d → ¬ (0 ≤ d ∧ d ≤ 3652058) := by
    rcases (by omega : c % 8 = 0 ∨ c % 8 = 1 ∨ c % 8 = 2 ∨ c % 8 = 3 ∨ c % 8 = 4 ∨ c % 8 = 5 ∨ c % 8 = 6 ∨ c % 8 = 7) with e | e | e | e | e | e | e | e <;> rw [e]
    · exact ⟨_, .int, rfl, True.intro, fun d h => by cases h; omega⟩
    · exact ⟨_, .int, rfl, True.intro, fun d h => by cases h; omega⟩
    · exact ⟨_, .bl, rfl, True.intro, fun d h => by cases h⟩
    · exact ⟨_, .bl, rfl, True.intro, fun d h => by cases h⟩
    · exact ⟨_, .non, rfl, True.intro, fun d h => by cases h⟩
    · exact ⟨_, .str, rfl, True.intro, fun d h => by cases h⟩
    · exact ⟨_, .lst, rfl, ⟨_, SqL.of (s3 _ _ (s2 _ _ hl1))⟩, fun d h => by cases h⟩
    · exact ⟨_, .tup, rfl, ⟨_, SqT.of (s3 _ _ e2)⟩, fun d h => by cases h⟩
  refine z_ixL (SqL.of hl3) hat ?_
  walk_at "run"
  refine a_isday_no hg hx ?_
  walk_at "run"
  refine iteF ?_
  walk_at "run"
  refine a_told_no hg hx (fun H4 s4 => ?_)
  have hg4 := tg_same s4 hg
  walk_at "run"
  refine iteF ?_
  walk_at "run"
  refine ⟨_, g, rfl, hg4, ?_⟩
  by_cases hs : g = .str
  · subst hs
    walk_at "run"
    exact q _ (s13.trans s4)
  · have e : Tg.isStr g = false := by cases g <;> first | rfl | exact absurd rfl hs
    rw [e]
    walk_at "run"
    exact ⟨_, _, rfl, .inr ⟨rfl, .inr ⟨g, hg4, hs⟩⟩, fun H5 s5 => q _ (s13.trans (s4.trans s5))⟩
/-- texts that write no day -/
theorem nd_len {c : List Nat} (h : c.length ≠ 10) : ∀ y m e, ¬ My.DueDay c y m e := fun y m e d => h (by rw [d.2, My.dtx_len])
theorem nd_at {c : List Nat} {x : Nat} (h : c[4]? = some x) (hx : x ≠ 45) : ∀ y m e, ¬ My.DueDay c y m e := fun y m e d => hx (by
  have e : c[4]? = some 45 := by rw [d.2]; rfl
  rw [h] at e
  exact Option.some.inj e)
theorem due_of {y m e : Int} (v : My.Valid y m e) : My.DueDay (My.dtx y.toNat m.toNat e.toNat) y m e := ⟨v, rfl⟩
theorem str4 {y : Int} (h0 : 0 ≤ y) (h : y < 10000) : My.cs (PySem.Txt.slice (Str.ofString (toString (10000 + y))) (some 1) none) = My.pad4 y.toNat := by
  obtain ⟨n, rfl⟩ := Int.eq_ofNat_of_zero_le h0
  rw [show (1 : Int) = ((1 : Nat) : Int) from rfl, My.sl_s0, My.cs_str, show (10000 : Int) + ((n : Nat) : Int) = ((10000 + n : Nat) : Int) by omega, My.txt_nat, My.dg4 (by omega), Int.toNat_natCast]
  rfl
theorem str2 {y : Int} (h0 : 0 ≤ y) (h : y < 100) : My.cs (PySem.Txt.slice (Str.ofString (toString (100 + y))) (some 1) none) = My.pad2 y.toNat := by
  obtain ⟨n, rfl⟩ := Int.eq_ofNat_of_zero_le h0
  rw [show (1 : Int) = ((1 : Nat) : Int) from rfl, My.sl_s0, My.cs_str, show (100 : Int) + ((n : Nat) : Int) = ((100 + n : Nat) : Int) by omega, My.txt_nat, My.dg2 (by omega), Int.toNat_natCast]
  rfl
theorem cut62 (ns : List Int) : cutV (ns.map V.int) none (some 62) = (ns.take 62).map V.int := cut_ints ns 62
theorem log_small5 {n : Int} (h0 : 0 ≤ n) (h : n < 100000) : n.natAbs.log2 < 1920 := My.log60 (by
  have e : (10 : Nat) ^ 60 = 1000000000000000000000000000000000000000000000000000000000000 := by decide
  rw [e]; omega)
theorem str_len5 {n : Int} (h0 : 0 ≤ n) (h : n < 100000) : (Str.ofString (toString n)).length ≤ 5 := by
  obtain ⟨k, rfl⟩ := Int.eq_ofNat_of_zero_le h0
  rw [← My.cs_len, My.cs_str, My.txt_nat]
  exact My.dg_len (by decide) (by omega)
theorem ok_law (T : Txt K mg t) : FnOk P w K mg base CX0 7 t.f_law t.d_law ["_law_script"] (sp_law K) := by
  have G_l_cell_at := ok_l_cell_at (P := P) (w := w) (base := base) T
  have G_l_mixed := ok_l_mixed (P := P) (w := w) (base := base) T
  have G_l_parts := ok_l_parts (P := P) (w := w) (base := base) T
  have G_l_count := ok_l_count (P := P) (w := w) (base := base) T
  have G_show_day := ok_show_day (P := P) (w := w) (base := base) T
  have G_l_read := ok_l_read (P := P) (w := w) (base := base) T
  have G_l_bent := ok_l_bent (P := P) (w := w) (base := base) T
  have G_l_due := ok_l_due (P := P) (w := w) (base := base) T
  have G_l_months := ok_l_months (P := P) (w := w) (base := base) T
  have G_is_told_day := ok_is_told_day (P := P) (w := w) (base := base) T
  have G_is_day := ok_is_day (P := P) (w := w) (base := base) T
  have G_l_no_day := ok_l_no_day (P := P) (w := w) (base := base) T
  refine T.F_law.ok sc_law (fun vs H Q E h => ?_) (fun cdv A outer s H vs Q E hr h => ?_)
  · obtain ⟨a, ns, rfl, _⟩ := h
    rfl
  obtain ⟨a, ns, rfl, hS, hn, hb, q⟩ := h
  refine ⟨_, (pss_cons (ps_set (i := 1) sc_law.nd rfl (Or.inl rfl) (pe_slice sl_list (pv 0) po_none (po_some pe_int)))
  (pss_cons (ps_for PassesOwn.never rfl (pi_range3 rfl T.z_range (pa_cons pe_int (pa_cons (pe_op op_add (pe_callB call_len_seq rfl T.z_len PySem.boot_len (pa_cons (pv 1) pa_nil)) pe_int) (pa_cons pe_int pa_nil)))) (pg_name (i := 2) sc_law.nd rfl (Or.inl rfl)) (pss_cons (ps_set (i := 3) sc_law.nd rfl (Or.inl rfl) (pe_call G_l_mixed (hr.mono (by decide)) rfl T.m_l_mixed T.k_l_mixed T.b_l_mixed .nil pass0 (pa_cons (pe_call G_l_cell_at (hr.mono (by decide)) rfl T.m_l_cell_at T.k_l_cell_at T.b_l_cell_at .nil pass0 (pa_cons (pv 1) (pa_cons (pv 2) pa_nil))) pa_nil)))
  (pss_cons (ps_set (i := 4) sc_law.nd rfl (Or.inl rfl) (pe_call G_l_mixed (hr.mono (by decide)) rfl T.m_l_mixed T.k_l_mixed T.b_l_mixed .nil pass0 (pa_cons (pe_call G_l_cell_at (hr.mono (by decide)) rfl T.m_l_cell_at T.k_l_cell_at T.b_l_cell_at .nil pass0 (pa_cons (pv 1) (pa_cons (pe_op op_add (pv 2) pe_int) pa_nil))) pa_nil)))
  (pss_cons (ps_set (i := 5) sc_law.nd rfl (Or.inl rfl) (pe_call G_l_parts (hr.mono (by decide)) rfl T.m_l_parts T.k_l_parts T.b_l_parts .nil pass0 (pa_cons (pv 3) (pa_cons (pv 4) pa_nil))))
  (pss_cons (ps_set (i := 6) sc_law.nd rfl (Or.inl rfl) (pe_call G_l_count (hr.mono (by decide)) rfl T.m_l_count T.k_l_count T.b_l_count .nil pass0 (pa_cons (pe_ix ix_tup (pv 5) pe_int (fun _ _ => rfl)) (pa_cons (pe_ix ix_tup (pv 5) pe_int (fun _ _ => rfl)) (pa_cons (pe_ix ix_tup (pv 5) pe_int (fun _ _ => rfl)) pa_nil)))))
  (pss_cons (ps_set (i := 7) sc_law.nd rfl (Or.inl rfl) (pe_op op_addS (pe_slice sl_str (pe_callTy call_str_int rfl T.z_str bt_str (pa_cons (pe_op op_add pe_int (pe_ix ix_tup (pv 5) pe_int (fun _ _ => rfl))) pa_nil)) (po_some pe_int) po_none) pe_str))
  (pss_cons (ps_set (i := 7) sc_law.nd rfl (Or.inl rfl) (pe_op op_addS (pe_op op_addS (pe_op op_addS (pv 7) (pe_slice sl_str (pe_callTy call_str_int rfl T.z_str bt_str (pa_cons (pe_op op_add pe_int (pe_ix ix_tup (pv 5) pe_int (fun _ _ => rfl))) pa_nil)) (po_some pe_int) po_none)) pe_str) (pe_slice sl_str (pe_callTy call_str_int rfl T.z_str bt_str (pa_cons (pe_op op_add pe_int (pe_ix ix_tup (pv 5) pe_int (fun _ _ => rfl))) pa_nil)) (po_some pe_int) po_none)))
  (pss_cons (ps_set (i := 8) sc_law.nd rfl (Or.inl rfl) (pe_call G_show_day (hr.mono (by decide)) rfl T.m_show_day T.k_show_day T.b_show_day .nil pass0 (pa_cons (pv 6) pa_nil)))
  (pss_cons (ps_if (PW.pt (pw_or (pt_not (pt_val (pe_isi isi_str rfl rfl T.z_isinstance T.z_str bt_str (pv 8)))) (pw_or (pt_cmpR op_ne (pv 8) (pv 7) (nomark _)) (pw_or1 (pt_not (pt_val (pe_call G_l_read (hr.mono (by decide)) rfl T.m_l_read T.k_l_read T.b_l_read .nil pass0 (pa_cons (pv 7) (pa_cons (pv 6) pa_nil))))))))) (pss_one (ps_ret pe_bl)) pss_nil)
  (pss_cons (ps_set (i := 9) sc_law.nd rfl (Or.inl rfl) (pe_call G_l_bent (hr.mono (by decide)) rfl T.m_l_bent T.k_l_bent T.b_l_bent .nil pass0 (pa_cons (pv 7) (pa_cons (pe_op op_add (pe_op op_fdivB (pv 3) pe_int) (pe_op op_fdivB (pv 4) pe_int)) pa_nil))))
  (pss_cons (ps_if (PW.pt (pw_or (pt_not (pt_val (pe_call G_l_read (hr.mono (by decide)) rfl T.m_l_read T.k_l_read T.b_l_read .nil pass0 (pa_cons (pe_slice sl_str (pv 7) po_none (po_some (pe_op op_mod (pv 3) pe_int))) (pa_cons pe_non pa_nil))))) (pw_or1 (pt_not (pt_val (pe_call G_l_read (hr.mono (by decide)) rfl T.m_l_read T.k_l_read T.b_l_read .nil pass0 (pa_cons (pe_op op_addS (pv 7) (pv 7)) (pa_cons pe_non pa_nil)))))))) (pss_one (ps_ret pe_bl)) pss_nil)
  (pss_cons (ps_if (pt_not (pt_val (pe_call G_l_read (hr.mono (by decide)) rfl T.m_l_read T.k_l_read T.b_l_read .nil pass0 (pa_cons (pe_op op_addS (pe_op op_addS (pe_slice sl_str (pv 7) (po_some pe_int) (po_some pe_int)) (pe_slice sl_str (pv 7) po_none (po_some pe_int))) (pe_slice sl_str (pv 7) (po_some pe_int) po_none)) (pa_cons pe_non pa_nil))))) (pss_one (ps_ret pe_bl)) pss_nil)
  (pss_cons (ps_if (PW.pt (pw_or (pt_not (pt_val (pe_call G_l_read (hr.mono (by decide)) rfl T.m_l_read T.k_l_read T.b_l_read .nil pass0 (pa_cons (pv 9) (pa_cons (pe_call G_l_due (hr.mono (by decide)) rfl T.m_l_due T.k_l_due T.b_l_due .nil pass0 (pa_cons (pv 9) pa_nil)) pa_nil))))) (pw_or1 (pt_not (pt_val (pe_call G_l_months (hr.mono (by decide)) rfl T.m_l_months T.k_l_months T.b_l_months .nil pass0 (pa_cons (pv 5) (pa_cons (pv 6) pa_nil)))))))) (pss_one (ps_ret pe_bl)) pss_nil)
  (pss_cons (ps_set (i := 10) sc_law.nd rfl (Or.inl rfl) (pe_call G_is_told_day (hr.mono (by decide)) rfl T.m_is_told_day T.k_is_told_day T.b_is_told_day .nil pass0 (pa_cons (pv 6) pa_nil)))
  (pss_cons (ps_set (i := 11) sc_law.nd rfl (Or.inl rfl) (pe_and (pe_cmpR op_le pe_int (pe_ix ix_tup (pv 5) pe_int (fun _ _ => rfl)) (nomark _)) (pe_one (pe_cmpR op_le (pe_ix ix_tup (pv 5) pe_int (fun _ _ => rfl)) pe_int (nomark _)))))
  (pss_cons (ps_if (PW.pt (pw_or (pt_cmpR op_notB (pe_call G_is_day (hr.mono (by decide)) rfl T.m_is_day T.k_is_day T.b_is_day .nil pass0 (pa_cons (pv 6) pa_nil)) pe_bl (nomark _)) (pw_or (pt_not (pt_val (pe_isi isi_bool rfl rfl T.z_isinstance T.z_bool bt_bool (pv 10)))) (pw_or1 (pt_cmpR op_ne (pv 10) (pv 11) (nomark _)))))) (pss_one (ps_ret pe_bl)) pss_nil)
  (pss_one (ps_if (pt_not (pt_val (pe_call G_l_no_day (hr.mono (by decide)) rfl T.m_l_no_day T.k_l_no_day T.b_l_no_day .nil pass0 (pa_cons (pe_op op_fdivB (pv 4) pe_int) pa_nil)))) (pss_one (ps_ret pe_bl)) pss_nil))))))))))))))))))
  (pss_one (ps_ret pe_bl)))), z_go (σ := [some _, none, none, none, none, none, none, none, none, none, none, none]) rfl ?_⟩
  walk_at "run"
  refine z_slL hS (fun c H1 s1 hl1 => ?_)
  rw [cut62] at hl1
  have hl63 : ((ns.take 62).map V.int).length ≤ 62 := by rw [List.length_map, List.length_take]; omega
  generalize ns.take 62 = ms at *
  have hC : SqL K H1 c (ms.map V.int) := SqL.of hl1
  walk_at "run"
  refine z_iR3b (by decide) (by decide) (small3 (by omega) (by omega) (by omega) (by omega) (by decide) (by decide)) ?_
  generalize rngN 0 ((((ms.map V.int).length : Nat) : Int) + 1) 2 = N
  refine f_range3 (fun i σ HD => (∃ u2 u3 u4 u5 u6 u7 u8 u9 u10 u11, σ = [some (.ref a), some (.ref c), u2, u3, u4, u5, u6, u7, u8, u9, u10, u11]) ∧ Same H1 HD) ⟨⟨none, none, none, none, none, none, none, none, none, none, rfl⟩, Same.refl _⟩ ?_ ?_
  · rintro i σ HD hi ⟨⟨u2, u3, u4, u5, u6, u7, u8, u9, u10, u11, rfl⟩, sD⟩
    have hD := sD.seq hC
    walk_at "run"
    refine ⟨_, rfl, fun one => ?_⟩
    walk_at "run"
    refine ⟨_, rfl, fun oth => ?_⟩
    walk_at "run"
    refine ⟨one, oth, rfl, fun p H2 y m e s2 hp v => ?_⟩
    have v1 := v.y1
    have v2 := v.y2
    have v3 := v.m1
    have v4 := v.m2
    have v5 := v.e1
    have v6 := v.e2
    have v7 : My.mlen y m ≤ 31 := (My.ml_pos (L := My.leap y) v3 v4).2
    walk_at "run"
    refine ⟨y, m, e, rfl, v3, v4, fun H3 s3 => ?_⟩
    have hp3 := s3 _ _ hp
    walk_at "run"
    refine ⟨log_small5 (by omega) (by omega), ?_⟩
    have lg1 := str_len5 (n := 10000 + y) (by omega) (by omega)
    walk_at "run"
    have c1 := str4 (y := y) (by omega) (by omega)
    generalize PySem.Txt.slice (Str.ofString (toString (10000 + y))) (some 1) none = a1 at *
    have n1 : a1.length = 4 := by rw [← My.cs_len, c1]; rfl
    refine z_addS (le_size (by rw [n1]; decide)) ?_
    walk_at "run"
    refine ⟨log_small5 (by omega) (by omega), ?_⟩
    have lg2 := str_len5 (n := 100 + m) (by omega) (by omega)
    walk_at "run"
    have c2 := str2 (y := m) (by omega) (by omega)
    generalize PySem.Txt.slice (Str.ofString (toString (100 + m))) (some 1) none = a2 at *
    have n2 : a2.length = 2 := by rw [← My.cs_len, c2]; rfl
    refine z_addS (le_size (by rw [Str.length_append, n1, n2]; decide)) ?_
    walk_at "run"
    refine z_addS (le_size (by rw [Str.length_append, Str.length_append, n1, n2]; decide)) ?_
    walk_at "run"
    refine ⟨log_small5 (by omega) (by omega), ?_⟩
    have lg3 := str_len5 (n := 100 + e) (by omega) (by omega)
    walk_at "run"
    have c3 := str2 (y := e) (by omega) (by omega)
    generalize PySem.Txt.slice (Str.ofString (toString (100 + e))) (some 1) none = a3 at *
    have n3 : a3.length = 2 := by rw [← My.cs_len, c3]; rfl
    refine z_addS (le_size (by rw [Str.length_append, Str.length_append, Str.length_append, n1, n2, n3]; decide)) ?_
    have hdu : My.cs (a1 ++ "-" ++ a2 ++ "-" ++ a3) = My.dtx y.toNat m.toNat e.toNat := by
      rw [My.cs_app, My.cs_app, My.cs_app, My.cs_app, c1, c2, c3, List.append_assoc, List.append_assoc, List.append_assoc]
      rfl
    generalize a1 ++ "-" ++ a2 ++ "-" ++ a3 = du at *
    have ldu : du.length = 10 := by rw [← My.cs_len, hdu]; rfl
    have D : My.DueDay (My.cs du) y m e := ⟨v, hdu⟩
    walk_at "run"
    refine ⟨_, rfl, v.dbd.1, v.dbd.2, fun z H4 y' m' e' s4 v' hd hz => ?_⟩
    obtain ⟨rfl, rfl, rfl⟩ := v'.inj v hd
    have ez : z = du := My.cs_ext (hz.trans hdu.symm)
    subst ez
    walk_at "run"
    refine z_iteD (fun _ => ?_) (fun h => absurd rfl h)
    walk_at "run"
    refine ⟨_, _, rfl, .inl ⟨z, y', m', e', rfl, by omega, rfl, D⟩, fun H5 s5 => ?_⟩
    have hp5 := s5 _ _ (s4 _ _ hp3)
    walk_at "run"
    refine ⟨z, _, rfl, by omega, by omega, fun zb hzb => ?_⟩
    walk_at "run"
    have o1 := Int.emod_nonneg one (show (10 : Int) ≠ 0 by decide)
    have o2 := Int.emod_lt_of_pos one (show (0 : Int) < 10 by decide)
    refine ⟨_, _, rfl, .inr ⟨rfl, .inl ⟨_, rfl, by have := PySem.Txt.slice_le z none (some (one % 10)); omega, nd_len ?_⟩⟩, fun H6 s6 => ?_⟩
    · obtain ⟨k, hk⟩ := Int.eq_ofNat_of_zero_le o1
      rw [hk, My.sl_0s, List.length_take, My.cs_len]
      omega
    have hp6 := s6 _ _ hp5
    walk_at "run"
    refine z_addS (le_size (by omega)) ?_
    walk_at "run"
    refine ⟨_, _, rfl, .inr ⟨rfl, .inl ⟨_, rfl, by rw [Str.length_append]; omega, nd_len ?_⟩⟩, fun H7 s7 => ?_⟩
    · rw [My.cs_len, Str.length_append]
      omega
    have hp7 := s7 _ _ hp6
    walk_at "run"
    have k1 : My.cs (PySem.Txt.slice z (some 1) (some 5)) = ((My.cs z).drop 1).take 4 := by rw [show (1 : Int) = ((1 : Nat) : Int) from rfl, show (5 : Int) = ((5 : Nat) : Int) from rfl, My.sl_ss]
    have k2 : My.cs (PySem.Txt.slice z none (some 1)) = (My.cs z).take 1 := by rw [show (1 : Int) = ((1 : Nat) : Int) from rfl, My.sl_0s]
    have k3 : My.cs (PySem.Txt.slice z (some 5) none) = (My.cs z).drop 5 := by rw [show (5 : Int) = ((5 : Nat) : Int) from rfl, My.sl_s0]
    have b1 := PySem.Txt.slice_le z (some 1) (some 5)
    have b2 := PySem.Txt.slice_le z none (some 1)
    have b3 := PySem.Txt.slice_le z (some 5) none
    generalize PySem.Txt.slice z (some 1) (some 5) = x1 at *
    generalize PySem.Txt.slice z none (some 1) = x2 at *
    refine z_addS (le_size (by omega)) ?_
    walk_at "run"
    refine z_addS (le_size (by rw [Str.length_append]; omega)) ?_
    walk_at "run"
    refine ⟨_, _, rfl, .inr ⟨rfl, .inl ⟨_, rfl, by rw [Str.length_append, Str.length_append]; omega, nd_at (x := 48 + y'.toNat / 1000) ?_ (by omega)⟩⟩, fun H8 s8 => ?_⟩
    · rw [My.cs_app, My.cs_app, k1, k2, k3, hdu]
      rfl
    have hp8 := s8 _ _ hp7
    walk_at "runI"
    refine z_cut (fun σ' H' => σ' = [some (.ref a), some (.ref c), some (.int (0 + (i : Int) * 2)), some (.int one), some (.int oth), some (.ref p), some (.int (My.dayOf y' m' e')), some (.str z), some (.str z), some (.str zb), u10, u11] ∧ Same H8 H') (fun U hU => ?_) ?_
    · walk_at "run"
      refine ⟨zb, rfl, hzb, fun y2 m2 e2 D2 H9 s9 => ?_, fun nd H9 s9 => ?_⟩
      · walk_at "run"
        refine ⟨_, _, rfl, .inl ⟨zb, y2, m2, e2, rfl, hzb, rfl, D2⟩, fun H10 s10 => ?_⟩
        walk_at "run"
        refine ⟨p, y', m', e', rfl, SqT.of (s10 _ _ (s9 _ _ hp8)), v', fun H11 s11 => ?_⟩
        walk_at "run"
        exact hU _ _ ⟨rfl, s9.trans (s10.trans s11)⟩
      · walk_at "run"
        refine ⟨_, _, rfl, .inr ⟨rfl, .inl ⟨zb, rfl, hzb, nd⟩⟩, fun H10 s10 => ?_⟩
        walk_at "run"
        refine ⟨p, y', m', e', rfl, SqT.of (s10 _ _ (s9 _ _ hp8)), v', fun H11 s11 => ?_⟩
        walk_at "run"
        exact hU _ _ ⟨rfl, s9.trans (s10.trans s11)⟩
    rintro σ H9 ⟨rfl, s9⟩
    have hp9 := s9 _ _ hp8
    have s29 : Same HD H9 := s2.trans (s3.trans (s4.trans (s5.trans (s6.trans (s7.trans (s8.trans s9))))))
    walk_at "run"
    refine ⟨_, .int, rfl, True.intro, fun y2 m2 e2 w2 hd2 _ _ H10 s10 => ?_, fun nd => absurd v'.dbd (nd _ rfl)⟩
    obtain ⟨rfl, rfl, rfl⟩ := w2.inj v' (V.int.inj hd2).symm
    have hp10 := s10 _ _ hp9
    walk_at "run"
    refine z_iteD (fun h1 => ?_) (fun h1 => ?_)
    · walk_at "run"
      refine ⟨_, .int, rfl, True.intro, fun d hd => ?_, fun nd => absurd rfl (nd _)⟩
      cases hd
      rw [decide_eq_true v'.dbd.1, decide_eq_true v'.dbd.2]
      walk_at "run"
      refine iteF ?_
      walk_at "run"
      rw [decide_eq_true h1, Bool.true_and, decide_eq_true rfl]
      walk_at "run"
      refine ⟨_, rfl, fun H11 s11 => ?_⟩
      walk_at "run"
      exact ⟨⟨_, _, _, _, _, _, _, _, _, _, rfl⟩, sD.trans (s29.trans (s10.trans s11))⟩
    · walk_at "run"
      refine ⟨_, .int, rfl, True.intro, fun d hd => ?_, fun nd => absurd rfl (nd _)⟩
      cases hd
      rw [decide_eq_true v'.dbd.1, decide_eq_true v'.dbd.2]
      walk_at "run"
      refine iteF ?_
      walk_at "run"
      rw [decide_eq_false h1, Bool.false_and, decide_eq_true rfl]
      walk_at "run"
      refine ⟨_, rfl, fun H11 s11 => ?_⟩
      walk_at "run"
      exact ⟨⟨_, _, _, _, _, _, _, _, _, _, rfl⟩, sD.trans (s29.trans (s10.trans s11))⟩
  · rintro σ HD ⟨⟨u2, u3, u4, u5, u6, u7, u8, u9, u10, u11, rfl⟩, sD⟩
    walk_at "run"
    exact q _
end
theorem all_mk {l : PySem.W.OpenLaw} {w : World} {K : PySem.W.Frag} {h : Heap} {mg : Str → Option Value} {fa f0 f1 f2 f3 f4 f5 f6 f7 f8 f9 f10 f11 f12 f13 f14 f15 f16 f17 f18 f19 f20 f21 f22 f23 f24 f25 f26 C_NoDay g_MONTH_LENGTHS : Addr} (X : K.In h) (G : h.Ns mainGlobals mg) (hfa : mg "law" = some (.ref fa))
    {od0 an0 od1 an1 od2 an2 od3 an3 od4 an4 od5 an5 od6 an6 od7 an7 od8 an8 od9 an9 od10 an10 od11 an11 od12 an12 od13 an13 od14 an14 od15 an15 od16 an16 od17 an17 od18 an18 od19 an19 od20 an20 od21 an21 od22 an22 od23 an23 od24 an24 od25 an25 od26 an26 : Option Addr} {sl0 sl1 sl2 sl3 sl4 sl5 sl6 sl7 sl8 sl9 sl10 sl11 sl12 sl13 sl14 sl15 sl16 sl17 sl18 sl19 sl20 sl21 sl22 sl23 sl24 sl25 sl26 : Array (Option Value)} {oc0 kV0 dc0 pm0 cd0 ct0 oc1 kV1 dc1 pm1 cd1 ct1 oc2 kV2 dc2 pm2 cd2 ct2 oc3 kV3 dc3 pm3 cd3 ct3 oc4 kV4 dc4 pm4 cd4 ct4 oc5 kV5 dc5 pm5 cd5 ct5 oc6 kV6 dc6 pm6 cd6 ct6 oc7 kV7 dc7 pm7 cd7 ct7 oc8 kV8 dc8 pm8 cd8 ct8 oc9 kV9 dc9 pm9 cd9 ct9 oc10 kV10 dc10 pm10 cd10 ct10 oc11 kV11 dc11 pm11 cd11 ct11 oc12 kV12 dc12 pm12 cd12 ct12 oc13 kV13 dc13 pm13 cd13 ct13 oc14 kV14 dc14 pm14 cd14 ct14 oc15 kV15 dc15 pm15 cd15 ct15 oc16 kV16 dc16 pm16 cd16 ct16 oc17 kV17 dc17 pm17 cd17 ct17 oc18 kV18 dc18 pm18 cd18 ct18 oc19 kV19 dc19 pm19 cd19 ct19 oc20 kV20 dc20 pm20 cd20 ct20 oc21 kV21 dc21 pm21 cd21 ct21 oc22 kV22 dc22 pm22 cd22 ct22 oc23 kV23 dc23 pm23 cd23 ct23 oc24 kV24 dc24 pm24 cd24 ct24 oc25 kV25 dc25 pm25 cd25 ct25 oc26 kV26 dc26 pm26 cd26 ct26 : Value}
    {g_DIGITS : Tok}
    {g_LAST_DAY : Tok}
    {g_LAST_YEAR : Tok}
    {g_FIRST_TOLD_YEAR : Tok}
    {g_LAST_TOLD_YEAR : Tok}
    {g_DAYS_OF_400_YEARS : Tok}
    {gd_MONTH_LENGTHS : Option Addr} {gn_MONTH_LENGTHS : Nat} {gs_MONTH_LENGTHS : Array (Option Value)} {tg_MONTH_LENGTHS_0 tg_MONTH_LENGTHS_1 tg_MONTH_LENGTHS_2 tg_MONTH_LENGTHS_3 tg_MONTH_LENGTHS_4 tg_MONTH_LENGTHS_5 tg_MONTH_LENGTHS_6 tg_MONTH_LENGTHS_7 tg_MONTH_LENGTHS_8 tg_MONTH_LENGTHS_9 tg_MONTH_LENGTHS_10 tg_MONTH_LENGTHS_11 : Tok}
    (a0 : PySem.W.nsIn K mainGlobals "is_whole" = some (some (.ref f0))) (l0 : K.lookup f0 = some ⟨oc0, od0, .func (PySem.W.fnOf "is_whole" "is_whole" (defArgs s_is_whole) (defBody s_is_whole) (defScope s_is_whole) .none kV0 dc0 pm0 an0 cd0 ct0), sl0⟩) (c0 : PySem.W.codeIn K cd0 "is_whole" = true) (k0 : PySem.W.keepIn K (.ref f0) = true)
    (a1 : PySem.W.nsIn K mainGlobals "are_digits" = some (some (.ref f1))) (l1 : K.lookup f1 = some ⟨oc1, od1, .func (PySem.W.fnOf "are_digits" "are_digits" (defArgs s_are_digits) (defBody s_are_digits) (defScope s_are_digits) .none kV1 dc1 pm1 an1 cd1 ct1), sl1⟩) (c1 : PySem.W.codeIn K cd1 "are_digits" = true) (k1 : PySem.W.keepIn K (.ref f1) = true)
    (a2 : PySem.W.nsIn K mainGlobals "is_leap" = some (some (.ref f2))) (l2 : K.lookup f2 = some ⟨oc2, od2, .func (PySem.W.fnOf "is_leap" "is_leap" (defArgs s_is_leap) (defBody s_is_leap) (defScope s_is_leap) .none kV2 dc2 pm2 an2 cd2 ct2), sl2⟩) (c2 : PySem.W.codeIn K cd2 "is_leap" = true) (k2 : PySem.W.keepIn K (.ref f2) = true)
    (a3 : PySem.W.nsIn K mainGlobals "month_length" = some (some (.ref f3))) (l3 : K.lookup f3 = some ⟨oc3, od3, .func (PySem.W.fnOf "month_length" "month_length" (defArgs s_month_length) (defBody s_month_length) (defScope s_month_length) .none kV3 dc3 pm3 an3 cd3 ct3), sl3⟩) (c3 : PySem.W.codeIn K cd3 "month_length" = true) (k3 : PySem.W.keepIn K (.ref f3) = true)
    (a4 : PySem.W.nsIn K mainGlobals "year_begin" = some (some (.ref f4))) (l4 : K.lookup f4 = some ⟨oc4, od4, .func (PySem.W.fnOf "year_begin" "year_begin" (defArgs s_year_begin) (defBody s_year_begin) (defScope s_year_begin) .none kV4 dc4 pm4 an4 cd4 ct4), sl4⟩) (c4 : PySem.W.codeIn K cd4 "year_begin" = true) (k4 : PySem.W.keepIn K (.ref f4) = true)
    (a5 : PySem.W.nsIn K mainGlobals "is_day" = some (some (.ref f5))) (l5 : K.lookup f5 = some ⟨oc5, od5, .func (PySem.W.fnOf "is_day" "is_day" (defArgs s_is_day) (defBody s_is_day) (defScope s_is_day) .none kV5 dc5 pm5 an5 cd5 ct5), sl5⟩) (c5 : PySem.W.codeIn K cd5 "is_day" = true) (k5 : PySem.W.keepIn K (.ref f5) = true)
    (a6 : PySem.W.nsIn K mainGlobals "is_told_day" = some (some (.ref f6))) (l6 : K.lookup f6 = some ⟨oc6, od6, .func (PySem.W.fnOf "is_told_day" "is_told_day" (defArgs s_is_told_day) (defBody s_is_told_day) (defScope s_is_told_day) .none kV6 dc6 pm6 an6 cd6 ct6), sl6⟩) (c6 : PySem.W.codeIn K cd6 "is_told_day" = true) (k6 : PySem.W.keepIn K (.ref f6) = true)
    (a7 : PySem.W.nsIn K mainGlobals "day_of" = some (some (.ref f7))) (l7 : K.lookup f7 = some ⟨oc7, od7, .func (PySem.W.fnOf "day_of" "day_of" (defArgs s_day_of) (defBody s_day_of) (defScope s_day_of) .none kV7 dc7 pm7 an7 cd7 ct7), sl7⟩) (c7 : PySem.W.codeIn K cd7 "day_of" = true) (k7 : PySem.W.keepIn K (.ref f7) = true)
    (a8 : PySem.W.nsIn K mainGlobals "year_of" = some (some (.ref f8))) (l8 : K.lookup f8 = some ⟨oc8, od8, .func (PySem.W.fnOf "year_of" "year_of" (defArgs s_year_of) (defBody s_year_of) (defScope s_year_of) .none kV8 dc8 pm8 an8 cd8 ct8), sl8⟩) (c8 : PySem.W.codeIn K cd8 "year_of" = true) (k8 : PySem.W.keepIn K (.ref f8) = true)
    (a9 : PySem.W.nsIn K mainGlobals "parts_of" = some (some (.ref f9))) (l9 : K.lookup f9 = some ⟨oc9, od9, .func (PySem.W.fnOf "parts_of" "parts_of" (defArgs s_parts_of) (defBody s_parts_of) (defScope s_parts_of) .none kV9 dc9 pm9 an9 cd9 ct9), sl9⟩) (c9 : PySem.W.codeIn K cd9 "parts_of" = true) (k9 : PySem.W.keepIn K (.ref f9) = true)
    (a10 : PySem.W.nsIn K mainGlobals "show_day" = some (some (.ref f10))) (l10 : K.lookup f10 = some ⟨oc10, od10, .func (PySem.W.fnOf "show_day" "show_day" (defArgs s_show_day) (defBody s_show_day) (defScope s_show_day) .none kV10 dc10 pm10 an10 cd10 ct10), sl10⟩) (c10 : PySem.W.codeIn K cd10 "show_day" = true) (k10 : PySem.W.keepIn K (.ref f10) = true)
    (a11 : PySem.W.nsIn K mainGlobals "read_day" = some (some (.ref f11))) (l11 : K.lookup f11 = some ⟨oc11, od11, .func (PySem.W.fnOf "read_day" "read_day" (defArgs s_read_day) (defBody s_read_day) (defScope s_read_day) .none kV11 dc11 pm11 an11 cd11 ct11), sl11⟩) (c11 : PySem.W.codeIn K cd11 "read_day" = true) (k11 : PySem.W.keepIn K (.ref f11) = true)
    (a12 : PySem.W.nsIn K mainGlobals "month_of" = some (some (.ref f12))) (l12 : K.lookup f12 = some ⟨oc12, od12, .func (PySem.W.fnOf "month_of" "month_of" (defArgs s_month_of) (defBody s_month_of) (defScope s_month_of) .none kV12 dc12 pm12 an12 cd12 ct12), sl12⟩) (c12 : PySem.W.codeIn K cd12 "month_of" = true) (k12 : PySem.W.keepIn K (.ref f12) = true)
    (a13 : PySem.W.nsIn K mainGlobals "month_begin" = some (some (.ref f13))) (l13 : K.lookup f13 = some ⟨oc13, od13, .func (PySem.W.fnOf "month_begin" "month_begin" (defArgs s_month_begin) (defBody s_month_begin) (defScope s_month_begin) .none kV13 dc13 pm13 an13 cd13 ct13), sl13⟩) (c13 : PySem.W.codeIn K cd13 "month_begin" = true) (k13 : PySem.W.keepIn K (.ref f13) = true)
    (a14 : PySem.W.nsIn K mainGlobals "_law_whole" = some (some (.ref f14))) (l14 : K.lookup f14 = some ⟨oc14, od14, .func (PySem.W.fnOf "_law_whole" "_law_whole" (defArgs s_l_whole) (defBody s_l_whole) (defScope s_l_whole) .none kV14 dc14 pm14 an14 cd14 ct14), sl14⟩) (c14 : PySem.W.codeIn K cd14 "_law_whole" = true) (k14 : PySem.W.keepIn K (.ref f14) = true)
    (a15 : PySem.W.nsIn K mainGlobals "_law_cell_at" = some (some (.ref f15))) (l15 : K.lookup f15 = some ⟨oc15, od15, .func (PySem.W.fnOf "_law_cell_at" "_law_cell_at" (defArgs s_l_cell_at) (defBody s_l_cell_at) (defScope s_l_cell_at) .none kV15 dc15 pm15 an15 cd15 ct15), sl15⟩) (c15 : PySem.W.codeIn K cd15 "_law_cell_at" = true) (k15 : PySem.W.keepIn K (.ref f15) = true)
    (a16 : PySem.W.nsIn K mainGlobals "_law_mixed" = some (some (.ref f16))) (l16 : K.lookup f16 = some ⟨oc16, od16, .func (PySem.W.fnOf "_law_mixed" "_law_mixed" (defArgs s_l_mixed) (defBody s_l_mixed) (defScope s_l_mixed) .none kV16 dc16 pm16 an16 cd16 ct16), sl16⟩) (c16 : PySem.W.codeIn K cd16 "_law_mixed" = true) (k16 : PySem.W.keepIn K (.ref f16) = true)
    (a17 : PySem.W.nsIn K mainGlobals "_law_leap" = some (some (.ref f17))) (l17 : K.lookup f17 = some ⟨oc17, od17, .func (PySem.W.fnOf "_law_leap" "_law_leap" (defArgs s_l_leap) (defBody s_l_leap) (defScope s_l_leap) .none kV17 dc17 pm17 an17 cd17 ct17), sl17⟩) (c17 : PySem.W.codeIn K cd17 "_law_leap" = true) (k17 : PySem.W.keepIn K (.ref f17) = true)
    (a18 : PySem.W.nsIn K mainGlobals "_law_long" = some (some (.ref f18))) (l18 : K.lookup f18 = some ⟨oc18, od18, .func (PySem.W.fnOf "_law_long" "_law_long" (defArgs s_l_long) (defBody s_l_long) (defScope s_l_long) .none kV18 dc18 pm18 an18 cd18 ct18), sl18⟩) (c18 : PySem.W.codeIn K cd18 "_law_long" = true) (k18 : PySem.W.keepIn K (.ref f18) = true)
    (a19 : PySem.W.nsIn K mainGlobals "_law_count" = some (some (.ref f19))) (l19 : K.lookup f19 = some ⟨oc19, od19, .func (PySem.W.fnOf "_law_count" "_law_count" (defArgs s_l_count) (defBody s_l_count) (defScope s_l_count) .none kV19 dc19 pm19 an19 cd19 ct19), sl19⟩) (c19 : PySem.W.codeIn K cd19 "_law_count" = true) (k19 : PySem.W.keepIn K (.ref f19) = true)
    (a20 : PySem.W.nsIn K mainGlobals "_law_parts" = some (some (.ref f20))) (l20 : K.lookup f20 = some ⟨oc20, od20, .func (PySem.W.fnOf "_law_parts" "_law_parts" (defArgs s_l_parts) (defBody s_l_parts) (defScope s_l_parts) .none kV20 dc20 pm20 an20 cd20 ct20), sl20⟩) (c20 : PySem.W.codeIn K cd20 "_law_parts" = true) (k20 : PySem.W.keepIn K (.ref f20) = true)
    (a21 : PySem.W.nsIn K mainGlobals "_law_bent" = some (some (.ref f21))) (l21 : K.lookup f21 = some ⟨oc21, od21, .func (PySem.W.fnOf "_law_bent" "_law_bent" (defArgs s_l_bent) (defBody s_l_bent) (defScope s_l_bent) .none kV21 dc21 pm21 an21 cd21 ct21), sl21⟩) (c21 : PySem.W.codeIn K cd21 "_law_bent" = true) (k21 : PySem.W.keepIn K (.ref f21) = true)
    (a22 : PySem.W.nsIn K mainGlobals "_law_due" = some (some (.ref f22))) (l22 : K.lookup f22 = some ⟨oc22, od22, .func (PySem.W.fnOf "_law_due" "_law_due" (defArgs s_l_due) (defBody s_l_due) (defScope s_l_due) .none kV22 dc22 pm22 an22 cd22 ct22), sl22⟩) (c22 : PySem.W.codeIn K cd22 "_law_due" = true) (k22 : PySem.W.keepIn K (.ref f22) = true)
    (a23 : PySem.W.nsIn K mainGlobals "_law_read" = some (some (.ref f23))) (l23 : K.lookup f23 = some ⟨oc23, od23, .func (PySem.W.fnOf "_law_read" "_law_read" (defArgs s_l_read) (defBody s_l_read) (defScope s_l_read) .none kV23 dc23 pm23 an23 cd23 ct23), sl23⟩) (c23 : PySem.W.codeIn K cd23 "_law_read" = true) (k23 : PySem.W.keepIn K (.ref f23) = true)
    (a24 : PySem.W.nsIn K mainGlobals "_law_months" = some (some (.ref f24))) (l24 : K.lookup f24 = some ⟨oc24, od24, .func (PySem.W.fnOf "_law_months" "_law_months" (defArgs s_l_months) (defBody s_l_months) (defScope s_l_months) .none kV24 dc24 pm24 an24 cd24 ct24), sl24⟩) (c24 : PySem.W.codeIn K cd24 "_law_months" = true) (k24 : PySem.W.keepIn K (.ref f24) = true)
    (a25 : PySem.W.nsIn K mainGlobals "_law_no_day" = some (some (.ref f25))) (l25 : K.lookup f25 = some ⟨oc25, od25, .func (PySem.W.fnOf "_law_no_day" "_law_no_day" (defArgs s_l_no_day) (defBody s_l_no_day) (defScope s_l_no_day) .none kV25 dc25 pm25 an25 cd25 ct25), sl25⟩) (c25 : PySem.W.codeIn K cd25 "_law_no_day" = true) (k25 : PySem.W.keepIn K (.ref f25) = true)
    (a26 : PySem.W.nsIn K mainGlobals "law" = some (some (.ref f26))) (l26 : K.lookup f26 = some ⟨oc26, od26, .func (PySem.W.fnOf "law" "law" (defArgs s_law) (defBody s_law) (defScope s_law) .none kV26 dc26 pm26 an26 cd26 ct26), sl26⟩) (c26 : PySem.W.codeIn K cd26 "law" = true) (k26 : PySem.W.keepIn K (.ref f26) = true)
    (w_DIGITS : PySem.W.nsIn K mainGlobals "DIGITS" = some (some (.str "0123456789" g_DIGITS)))
    (w_LAST_DAY : PySem.W.nsIn K mainGlobals "LAST_DAY" = some (some (.int 3652058 g_LAST_DAY)))
    (w_LAST_YEAR : PySem.W.nsIn K mainGlobals "LAST_YEAR" = some (some (.int 9999 g_LAST_YEAR)))
    (w_FIRST_TOLD_YEAR : PySem.W.nsIn K mainGlobals "FIRST_TOLD_YEAR" = some (some (.int 1000 g_FIRST_TOLD_YEAR)))
    (w_LAST_TOLD_YEAR : PySem.W.nsIn K mainGlobals "LAST_TOLD_YEAR" = some (some (.int 8999 g_LAST_TOLD_YEAR)))
    (w_DAYS_OF_400_YEARS : PySem.W.nsIn K mainGlobals "DAYS_OF_400_YEARS" = some (some (.int 146097 g_DAYS_OF_400_YEARS)))
    (w_MONTH_LENGTHS : PySem.W.nsIn K mainGlobals "MONTH_LENGTHS" = some (some (.ref g_MONTH_LENGTHS))) (u_MONTH_LENGTHS : K.lookup g_MONTH_LENGTHS = some ⟨.type "tuple", gd_MONTH_LENGTHS, .seq #[.int 31 tg_MONTH_LENGTHS_0, .int 28 tg_MONTH_LENGTHS_1, .int 31 tg_MONTH_LENGTHS_2, .int 30 tg_MONTH_LENGTHS_3, .int 31 tg_MONTH_LENGTHS_4, .int 30 tg_MONTH_LENGTHS_5, .int 31 tg_MONTH_LENGTHS_6, .int 31 tg_MONTH_LENGTHS_7, .int 30 tg_MONTH_LENGTHS_8, .int 31 tg_MONTH_LENGTHS_9, .int 30 tg_MONTH_LENGTHS_10, .int 31 tg_MONTH_LENGTHS_11] gn_MONTH_LENGTHS, gs_MONTH_LENGTHS⟩)
    (n_NoDay : PySem.W.nsIn K mainGlobals "NoDay" = some (some (.ref C_NoDay))) (x_NoDay : PySem.W.excIn K C_NoDay bmVE "ValueError.__new__" = true) (e_NoDay : PySem.W.exmOne K (.ref C_NoDay) (.ref C_NoDay) = some true)
    (z_isinstance : PySem.W.nsIn K mainGlobals "isinstance" = some none)
    (z_int : PySem.W.nsIn K mainGlobals "int" = some none)
    (z_bool : PySem.W.nsIn K mainGlobals "bool" = some none)
    (z_str : PySem.W.nsIn K mainGlobals "str" = some none)
    (z_len : PySem.W.nsIn K mainGlobals "len" = some none)
    (z_range : PySem.W.nsIn K mainGlobals "range" = some none)
    (z_sum : PySem.W.nsIn K mainGlobals "sum" = some none)
    (z_all : PySem.W.nsIn K mainGlobals "all" = some none)
    : ∃ fd : FuncData, (∀ (s : Shared) (v : Value), BindsTo s fd ⟨[v], []⟩ [("_law_script", v)]) ∧ ∀ base : Heap, K.In base → base.Ns mainGlobals mg → FnOk l.prog w K mg base CX0 7 fa fd ["_law_script"] (sp_law K) := by
  have e := hfa.symm.trans (PySem.W.mg_of X G a26)
  cases e
  have F0 := fun_mk (st := s_is_whole) l0 c0 k0
  have b0 := F0.binds (ps := ["thing"]) fun _ _ _ _ _ _ us hl => match us, hl with | [_], _ => rfl
  have F1 := fun_mk (st := s_are_digits) l1 c1 k1
  have b1 := F1.binds (ps := ["text"]) fun _ _ _ _ _ _ us hl => match us, hl with | [_], _ => rfl
  have F2 := fun_mk (st := s_is_leap) l2 c2 k2
  have b2 := F2.binds (ps := ["year"]) fun _ _ _ _ _ _ us hl => match us, hl with | [_], _ => rfl
  have F3 := fun_mk (st := s_month_length) l3 c3 k3
  have b3 := F3.binds (ps := ["year", "month"]) fun _ _ _ _ _ _ us hl => match us, hl with | [_, _], _ => rfl
  have F4 := fun_mk (st := s_year_begin) l4 c4 k4
  have b4 := F4.binds (ps := ["year"]) fun _ _ _ _ _ _ us hl => match us, hl with | [_], _ => rfl
  have F5 := fun_mk (st := s_is_day) l5 c5 k5
  have b5 := F5.binds (ps := ["thing"]) fun _ _ _ _ _ _ us hl => match us, hl with | [_], _ => rfl
  have F6 := fun_mk (st := s_is_told_day) l6 c6 k6
  have b6 := F6.binds (ps := ["thing"]) fun _ _ _ _ _ _ us hl => match us, hl with | [_], _ => rfl
  have F7 := fun_mk (st := s_day_of) l7 c7 k7
  have b7 := F7.binds (ps := ["year", "month", "day"]) fun _ _ _ _ _ _ us hl => match us, hl with | [_, _, _], _ => rfl
  have F8 := fun_mk (st := s_year_of) l8 c8 k8
  have b8 := F8.binds (ps := ["day"]) fun _ _ _ _ _ _ us hl => match us, hl with | [_], _ => rfl
  have F9 := fun_mk (st := s_parts_of) l9 c9 k9
  have b9 := F9.binds (ps := ["day"]) fun _ _ _ _ _ _ us hl => match us, hl with | [_], _ => rfl
  have F10 := fun_mk (st := s_show_day) l10 c10 k10
  have b10 := F10.binds (ps := ["day"]) fun _ _ _ _ _ _ us hl => match us, hl with | [_], _ => rfl
  have F11 := fun_mk (st := s_read_day) l11 c11 k11
  have b11 := F11.binds (ps := ["text"]) fun _ _ _ _ _ _ us hl => match us, hl with | [_], _ => rfl
  have F12 := fun_mk (st := s_month_of) l12 c12 k12
  have b12 := F12.binds (ps := ["day"]) fun _ _ _ _ _ _ us hl => match us, hl with | [_], _ => rfl
  have F13 := fun_mk (st := s_month_begin) l13 c13 k13
  have b13 := F13.binds (ps := ["month"]) fun _ _ _ _ _ _ us hl => match us, hl with | [_], _ => rfl
  have F14 := fun_mk (st := s_l_whole) l14 c14 k14
  have b14 := F14.binds (ps := ["_law_thing"]) fun _ _ _ _ _ _ us hl => match us, hl with | [_], _ => rfl
  have F15 := fun_mk (st := s_l_cell_at) l15 c15 k15
  have b15 := F15.binds (ps := ["_law_script", "_law_k"]) fun _ _ _ _ _ _ us hl => match us, hl with | [_, _], _ => rfl
  have F16 := fun_mk (st := s_l_mixed) l16 c16 k16
  have b16 := F16.binds (ps := ["_law_cell"]) fun _ _ _ _ _ _ us hl => match us, hl with | [_], _ => rfl
  have F17 := fun_mk (st := s_l_leap) l17 c17 k17
  have b17 := F17.binds (ps := ["_law_year"]) fun _ _ _ _ _ _ us hl => match us, hl with | [_], _ => rfl
  have F18 := fun_mk (st := s_l_long) l18 c18 k18
  have b18 := F18.binds (ps := ["_law_year", "_law_month"]) fun _ _ _ _ _ _ us hl => match us, hl with | [_, _], _ => rfl
  have F19 := fun_mk (st := s_l_count) l19 c19 k19
  have b19 := F19.binds (ps := ["_law_year", "_law_month", "_law_day"]) fun _ _ _ _ _ _ us hl => match us, hl with | [_, _, _], _ => rfl
  have F20 := fun_mk (st := s_l_parts) l20 c20 k20
  have b20 := F20.binds (ps := ["_law_one", "_law_other"]) fun _ _ _ _ _ _ us hl => match us, hl with | [_, _], _ => rfl
  have F21 := fun_mk (st := s_l_bent) l21 c21 k21
  have b21 := F21.binds (ps := ["_law_text", "_law_cell"]) fun _ _ _ _ _ _ us hl => match us, hl with | [_, _], _ => rfl
  have F22 := fun_mk (st := s_l_due) l22 c22 k22
  have b22 := F22.binds (ps := ["_law_text"]) fun _ _ _ _ _ _ us hl => match us, hl with | [_], _ => rfl
  have F23 := fun_mk (st := s_l_read) l23 c23 k23
  have b23 := F23.binds (ps := ["_law_text", "_law_due_here"]) fun _ _ _ _ _ _ us hl => match us, hl with | [_, _], _ => rfl
  have F24 := fun_mk (st := s_l_months) l24 c24 k24
  have b24 := F24.binds (ps := ["_law_parts_here", "_law_day"]) fun _ _ _ _ _ _ us hl => match us, hl with | [_, _], _ => rfl
  have F25 := fun_mk (st := s_l_no_day) l25 c25 k25
  have b25 := F25.binds (ps := ["_law_cell"]) fun _ _ _ _ _ _ us hl => match us, hl with | [_], _ => rfl
  have F26 := fun_mk (st := s_law) l26 c26 k26
  have b26 := F26.binds (ps := ["_law_script"]) fun _ _ _ _ _ _ us hl => match us, hl with | [_], _ => rfl
  have T : Txt K mg ⟨_, _, _, _, _, _, _, _, _, _, _, _, _, _, _, _, _, _, _, _, _, _, _, _, _, _, _, _, _, _, _, _, _, _, _, _, _, _, _, _, _, _, _, _, _, _, _, _, _, _, _, _, _, _, C_NoDay, g_DIGITS, g_LAST_DAY, g_LAST_YEAR, g_FIRST_TOLD_YEAR, g_LAST_TOLD_YEAR, g_DAYS_OF_400_YEARS, g_MONTH_LENGTHS⟩ := ⟨F0, PySem.W.mg_of X G a0, k0, b0, F1, PySem.W.mg_of X G a1, k1, b1, F2, PySem.W.mg_of X G a2, k2, b2, F3, PySem.W.mg_of X G a3, k3, b3, F4, PySem.W.mg_of X G a4, k4, b4, F5, PySem.W.mg_of X G a5, k5, b5, F6, PySem.W.mg_of X G a6, k6, b6, F7, PySem.W.mg_of X G a7, k7, b7, F8, PySem.W.mg_of X G a8, k8, b8, F9, PySem.W.mg_of X G a9, k9, b9, F10, PySem.W.mg_of X G a10, k10, b10, F11, PySem.W.mg_of X G a11, k11, b11, F12, PySem.W.mg_of X G a12, k12, b12, F13, PySem.W.mg_of X G a13, k13, b13, F14, PySem.W.mg_of X G a14, k14, b14, F15, PySem.W.mg_of X G a15, k15, b15, F16, PySem.W.mg_of X G a16, k16, b16, F17, PySem.W.mg_of X G a17, k17, b17, F18, PySem.W.mg_of X G a18, k18, b18, F19, PySem.W.mg_of X G a19, k19, b19, F20, PySem.W.mg_of X G a20, k20, b20, F21, PySem.W.mg_of X G a21, k21, b21, F22, PySem.W.mg_of X G a22, k22, b22, F23, PySem.W.mg_of X G a23, k23, b23, F24, PySem.W.mg_of X G a24, k24, b24, F25, PySem.W.mg_of X G a25, k25, b25, F26, PySem.W.mg_of X G a26, k26, b26, PySem.W.mg_of X G n_NoDay, n_NoDay, x_NoDay, e_NoDay, PySem.W.mg_of X G w_DIGITS, PySem.W.mg_of X G w_LAST_DAY, PySem.W.mg_of X G w_LAST_YEAR, PySem.W.mg_of X G w_FIRST_TOLD_YEAR, PySem.W.mg_of X G w_LAST_TOLD_YEAR, PySem.W.mg_of X G w_DAYS_OF_400_YEARS, PySem.W.mg_of X G w_MONTH_LENGTHS, fun _ => .inr ⟨_, _, _, u_MONTH_LENGTHS, rfl, rfl, (by show 12 ≤ sizeLine; decide), .cons ⟨_, rfl⟩ (.cons ⟨_, rfl⟩ (.cons ⟨_, rfl⟩ (.cons ⟨_, rfl⟩ (.cons ⟨_, rfl⟩ (.cons ⟨_, rfl⟩ (.cons ⟨_, rfl⟩ (.cons ⟨_, rfl⟩ (.cons ⟨_, rfl⟩ (.cons ⟨_, rfl⟩ (.cons ⟨_, rfl⟩ (.cons ⟨_, rfl⟩ (.nil))))))))))))⟩, PySem.W.mg_none_of X G z_isinstance, PySem.W.mg_none_of X G z_int, PySem.W.mg_none_of X G z_bool, PySem.W.mg_none_of X G z_str, PySem.W.mg_none_of X G z_len, PySem.W.mg_none_of X G z_range, PySem.W.mg_none_of X G z_sum, PySem.W.mg_none_of X G z_all⟩
  exact ⟨PySem.W.fnOf "law" "law" (defArgs s_law) (defBody s_law) (defScope s_law) .none kV26 dc26 pm26 an26 cd26 ct26, fun s v => .of_eq rfl, fun base _ _ => ok_law T⟩
theorem walk {l : PySem.W.OpenLaw} {q : Program} {loose : List Str} {XP : (Str → Option Value) → Heap → Prop} {YP : World → Heap → Prop} {d : DefRec} {K : Params → PySem.W.Frag} (hn : l.most = some 63) (hdf : d.params.defaults = [])
    (hY : ∀ (w : World) (h : Heap), YP w h → (K w.params).In h)
    (F : ∀ (w : World) (mg : Str → Option Value) (fa : Addr) (h : Heap), (K w.params).In h → h.Ns mainGlobals mg → mg d.name = some (.ref fa) →
      ∃ fd : FuncData, (∀ (s : Shared) (u : Value), BindsTo s fd ⟨[u], []⟩ [("_law_script", u)]) ∧ ∀ base : Heap, (K w.params).In base → base.Ns mainGlobals mg → FnOk l.prog w (K w.params) mg base CX0 7 fa fd ["_law_script"] (sp_law (K w.params))) :
    PySem.W.WalkO q loose XP YP l.row.toRowW d [] (fun f vs => PySem.call f vs) :=
  L2.walk_ofB (n := 63) (k := 7) (x := "_law_script") (CX := fun _ => CX0) (sp := fun w => sp_law (K w.params)) hn (by decide) hdf ⟨rfl, by decide, by decide⟩ hY F (fun _ _ a ns hl hbt _ hS => ⟨a, ns, rfl, hS, hl, hbt, fun _ => rfl⟩) fun _ _ _ _ _ z => z
end MyLaw
open PySem PySem.W PyProof.Rows
set_option maxRecDepth 100000 in
set_option maxHeartbeats 0 in
theorem PySem.Challenge.cw_markscale_k08_days_written_holds : PySem.Challenge.rw_markscale_k08_days_written.Holds := by
  w_on; o_law; k_head; (case hw => w_witness2)
  k_fill
  refine MyLaw.walk (l := PySem.Challenge.rw_markscale_k08_days_written) rfl rfl (fun w h Y => PySem.W.kIn_of Y) ?F
  case F =>
    intro w mg fa h KX G hmg
    refine' MyLaw.all_mk KX G hmg ?a0 ?l0 ?c0 ?k0 ?a1 ?l1 ?c1 ?k1 ?a2 ?l2 ?c2 ?k2 ?a3 ?l3 ?c3 ?k3 ?a4 ?l4 ?c4 ?k4 ?a5 ?l5 ?c5 ?k5 ?a6 ?l6 ?c6 ?k6 ?a7 ?l7 ?c7 ?k7 ?a8 ?l8 ?c8 ?k8 ?a9 ?l9 ?c9 ?k9 ?a10 ?l10 ?c10 ?k10 ?a11 ?l11 ?c11 ?k11 ?a12 ?l12 ?c12 ?k12 ?a13 ?l13 ?c13 ?k13 ?a14 ?l14 ?c14 ?k14 ?a15 ?l15 ?c15 ?k15 ?a16 ?l16 ?c16 ?k16 ?a17 ?l17 ?c17 ?k17 ?a18 ?l18 ?c18 ?k18 ?a19 ?l19 ?c19 ?k19 ?a20 ?l20 ?c20 ?k20 ?a21 ?l21 ?c21 ?k21 ?a22 ?l22 ?c22 ?k22 ?a23 ?l23 ?c23 ?k23 ?a24 ?l24 ?c24 ?k24 ?a25 ?l25 ?c25 ?k25 ?a26 ?l26 ?c26 ?k26 ?w_DIGITS ?w_LAST_DAY ?w_LAST_YEAR ?w_FIRST_TOLD_YEAR ?w_LAST_TOLD_YEAR ?w_DAYS_OF_400_YEARS ?w_MONTH_LENGTHS ?u_MONTH_LENGTHS ?n_NoDay ?x_NoDay ?e_NoDay ?z_isinstance ?z_int ?z_bool ?z_str ?z_len ?z_range ?z_sum ?z_all
    (case a0 => k_is)
    (case l0 => k_is)
    (case c0 => k_is)
    (case k0 => k_is)
    (case a1 => k_is)
    (case l1 => k_is)
    (case c1 => k_is)
    (case k1 => k_is)
    (case a2 => k_is)
    (case l2 => k_is)
    (case c2 => k_is)
    (case k2 => k_is)
    (case a3 => k_is)
    (case l3 => k_is)
    (case c3 => k_is)
    (case k3 => k_is)
    (case a4 => k_is)
    (case l4 => k_is)
    (case c4 => k_is)
    (case k4 => k_is)
    (case a5 => k_is)
    (case l5 => k_is)
    (case c5 => k_is)
    (case k5 => k_is)
    (case a6 => k_is)
    (case l6 => k_is)
    (case c6 => k_is)
    (case k6 => k_is)
    (case a7 => k_is)
    (case l7 => k_is)
    (case c7 => k_is)
    (case k7 => k_is)
    (case a8 => k_is)
    (case l8 => k_is)
    (case c8 => k_is)
    (case k8 => k_is)
    (case a9 => k_is)
    (case l9 => k_is)
    (case c9 => k_is)
    (case k9 => k_is)
    (case a10 => k_is)
    (case l10 => k_is)
    (case c10 => k_is)
    (case k10 => k_is)
    (case a11 => k_is)
    (case l11 => k_is)
    (case c11 => k_is)
    (case k11 => k_is)
    (case a12 => k_is)
    (case l12 => k_is)
    (case c12 => k_is)
    (case k12 => k_is)
    (case a13 => k_is)
    (case l13 => k_is)
    (case c13 => k_is)
    (case k13 => k_is)
    (case a14 => k_is)
    (case l14 => k_is)
    (case c14 => k_is)
    (case k14 => k_is)
    (case a15 => k_is)
    (case l15 => k_is)
    (case c15 => k_is)
    (case k15 => k_is)
    (case a16 => k_is)
    (case l16 => k_is)
    (case c16 => k_is)
    (case k16 => k_is)
    (case a17 => k_is)
    (case l17 => k_is)
    (case c17 => k_is)
    (case k17 => k_is)
    (case a18 => k_is)
    (case l18 => k_is)
    (case c18 => k_is)
    (case k18 => k_is)
    (case a19 => k_is)
    (case l19 => k_is)
    (case c19 => k_is)
    (case k19 => k_is)
    (case a20 => k_is)
    (case l20 => k_is)
    (case c20 => k_is)
    (case k20 => k_is)
    (case a21 => k_is)
    (case l21 => k_is)
    (case c21 => k_is)
    (case k21 => k_is)
    (case a22 => k_is)
    (case l22 => k_is)
    (case c22 => k_is)
    (case k22 => k_is)
    (case a23 => k_is)
    (case l23 => k_is)
    (case c23 => k_is)
    (case k23 => k_is)
    (case a24 => k_is)
    (case l24 => k_is)
    (case c24 => k_is)
    (case k24 => k_is)
    (case a25 => k_is)
    (case l25 => k_is)
    (case c25 => k_is)
    (case k25 => k_is)
    (case a26 => k_is)
    (case l26 => k_is)
    (case c26 => k_is)
    (case k26 => k_is)
    (case w_DIGITS => k_is)
    (case w_LAST_DAY => k_is)
    (case w_LAST_YEAR => k_is)
    (case w_FIRST_TOLD_YEAR => k_is)
    (case w_LAST_TOLD_YEAR => k_is)
    (case w_DAYS_OF_400_YEARS => k_is)
    (case w_MONTH_LENGTHS => k_is)
    (case u_MONTH_LENGTHS => k_is)
    (case n_NoDay => k_is)
    (case x_NoDay => k_exc)
    (case e_NoDay => kts_exm)
    (case z_isinstance => k_is)
    (case z_int => k_is)
    (case z_bool => k_is)
    (case z_str => k_is)
    (case z_len => k_is)
    (case z_range => k_is)
    (case z_sum => k_is)
    (case z_all => k_is)
